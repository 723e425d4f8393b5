import PyProof.Rows.All
import Wide.All
import OpenK.AllK
import Wide.FinOn
import Lean
import PyProof.EqAt
import PyProof.EqKinds
import PyProof.TupleCall
import PyProof.NeKinds
import PyProof.NeData
import PySem.Challenge.RW_touchall_k77_webs_called_otherwise
import PyProof.StationsW
import PyProof.ExcInit
import PyProof.InstStoreFacts
import PyProof.NsDelKeeps
import PyProof.RulesAs
import PyProof.ExcAttrAll.ValueError
import KE.KIsAll
import PyProof.AutoSeq1
import PyProof.Rows.SetFrom
import PyProof.SetRoads
import PyProof.Rows.SortRuns
import PyProof.Rows.SortShell
import KE.KSortTup
import PyProof.Rows.SumAny
import PyProof.DictWalks
import PyProof.DictUpdate
import KE.KDictList
section
open PySem PySem.W PyProof.Rows
set_option Elab.async false
set_option maxRecDepth 100000
set_option maxHeartbeats 0
namespace PySem.W.Fast
theorem tw16452330408213600768:True:=⟨⟩
theorem tw1961449049564771590:True:=⟨⟩
theorem tw1842545590595054091:True:=⟨⟩
theorem tw18308325722021708587:True:=⟨⟩
theorem tw14781562103584300300:True:=⟨⟩
theorem tw9460297890377761805:True:=⟨⟩
theorem tw16599119404929089777:True:=⟨⟩
theorem tw280475905095942100:True:=⟨⟩
theorem tw10528256911216721558:True:=⟨⟩
theorem tw17883986908372840214:True:=⟨⟩
theorem tw5595716121808165116:True:=⟨⟩
theorem tw5207362519668822812:True:=⟨⟩
theorem tw13146530757682134622:True:=⟨⟩
theorem tw14249329826595284875:True:=⟨⟩
theorem tw17239201855337909874:True:=⟨⟩
theorem tw14756317111538670632:True:=⟨⟩
theorem tw6749682013178273063:True:=⟨⟩
theorem tw11867328985658093342:True:=⟨⟩
theorem tw3251091792226649815:True:=⟨⟩
theorem tw5291671171568664792:True:=⟨⟩
theorem tw12743296696899658274:True:=⟨⟩
theorem tw8802154206927592950:True:=⟨⟩
theorem tw6356490350672987232:True:=⟨⟩
theorem tw13527872405176336012:True:=⟨⟩
theorem tw7494416671395988296:True:=⟨⟩
theorem tw6795054907335169004:True:=⟨⟩
theorem tw10581164851701950017:True:=⟨⟩
theorem tw7213155722094151984:True:=⟨⟩
theorem tw13990930123094078712:True:=⟨⟩
theorem tw12992367483169920845:True:=⟨⟩
theorem tw9748736633980905991:True:=⟨⟩
theorem tw11930511757121121756:True:=⟨⟩
theorem tw5310659528658988666:True:=⟨⟩
theorem tw5103485604028916769:True:=⟨⟩
theorem tw2085475339112882483:True:=⟨⟩
theorem tw4421343633076843811:True:=⟨⟩
theorem tw760989484626043395:True:=⟨⟩
theorem tw9360046480592557864:True:=⟨⟩
theorem tw10485983645851997345:True:=⟨⟩
theorem tw15168232015531237972:True:=⟨⟩
theorem tw6654934050380821986:True:=⟨⟩
theorem tw16324814204724335033:True:=⟨⟩
theorem tw4755141612544394983:True:=⟨⟩
theorem tw11845121057717500690:True:=⟨⟩
theorem tw9297663727785247985:True:=⟨⟩
theorem tw5202776660221476824:True:=⟨⟩
theorem tw15514634696500728796:True:=⟨⟩
theorem tw7202096296974048930:True:=⟨⟩
theorem tw17135590481203170121:True:=⟨⟩
theorem tw16770910964881924072:True:=⟨⟩
theorem tw7698447048043514017:True:=⟨⟩
theorem tw7202037326456345769:True:=⟨⟩
theorem tw5061831166103267206:True:=⟨⟩
theorem tw3333966505458403725:True:=⟨⟩
theorem tw4434424640694691219:True:=⟨⟩
theorem tw11906391868283360964:True:=⟨⟩
theorem tw6238900285969046887:True:=⟨⟩
theorem tw14003406518076274850:True:=⟨⟩
theorem tw5870115567283432914:True:=⟨⟩
theorem tw332976832776276163:True:=⟨⟩
theorem tw7482920708577278718:True:=⟨⟩
theorem tw1104458783644820503:True:=⟨⟩
theorem tw14508702681240927338:True:=⟨⟩
theorem tw6099802976542961457:True:=⟨⟩
theorem tw13651674943635200488:True:=⟨⟩
theorem tw13166968430877283740:True:=⟨⟩
theorem tw2198618278216875009:True:=⟨⟩
theorem tw7830369994248853982:True:=⟨⟩
theorem tw15690650966298527693:True:=⟨⟩
theorem tw429126050991680652:True:=⟨⟩
theorem tw18198432349956210722:True:=⟨⟩
theorem tw3450192468778676572:True:=⟨⟩
theorem tw7038596651363693363:True:=⟨⟩
theorem tw6512370430324665260:True:=⟨⟩
theorem tw10013146292578147414:True:=⟨⟩
theorem tw17457086080872000736:True:=⟨⟩
theorem tw2377688178443341648:True:=⟨⟩
theorem tw4943674162513202160:True:=⟨⟩
theorem tw600212407440205806:True:=⟨⟩
theorem tw4395593587568455176:True:=⟨⟩
theorem tw12145190026016965121:True:=⟨⟩
theorem tw16546778057378974778:True:=⟨⟩
theorem tw11550877504187698619:True:=⟨⟩
theorem tw12299380988638202590:True:=⟨⟩
theorem tw1092231837839737871:True:=⟨⟩
theorem tw17948796234568494333:True:=⟨⟩
theorem tw7007092725283629287:True:=⟨⟩
theorem tw1204304298147611602:True:=⟨⟩
theorem tw8885987717333115810:True:=⟨⟩
theorem tw12021910400016799448:True:=⟨⟩
theorem tw7182748549700119884:True:=⟨⟩
theorem tw3436040953348231904:True:=⟨⟩
theorem tw10073281139201949855:True:=⟨⟩
theorem tw8112447074107057508:True:=⟨⟩
theorem tw11207535551202950041:True:=⟨⟩
theorem tw16238301872741956780:True:=⟨⟩
theorem tw1446046372975601066:True:=⟨⟩
theorem tw15693294657385995021:True:=⟨⟩
theorem tw895549414950198869:True:=⟨⟩
theorem tw6743641750472775847:True:=⟨⟩
theorem tw6245827768647603512:True:=⟨⟩
theorem tw8549602738571025238:True:=⟨⟩
theorem tw14376798394326754113:True:=⟨⟩
theorem tw9562907100761335393:True:=⟨⟩
theorem tw16567477134032842647:True:=⟨⟩
theorem tw15335128613735910151:True:=⟨⟩
theorem tw8656658807441475152:True:=⟨⟩
theorem tw9482120283554068594:True:=⟨⟩
theorem tw850951039455432525:True:=⟨⟩
theorem tw2374692894874826008:True:=⟨⟩
theorem tw6670132038723899214:True:=⟨⟩
theorem tw5047764800839148311:True:=⟨⟩
theorem tw13626826527460705081:True:=⟨⟩
theorem tw17426358754788277328:True:=⟨⟩
theorem tw9197129900319299892:True:=⟨⟩
theorem tw2232508010609702249:True:=⟨⟩
theorem tw12084875070278405943:True:=⟨⟩
theorem tw14527855219218812963:True:=⟨⟩
theorem tw6014219777646665041:True:=⟨⟩
theorem tw2269460933442521542:True:=⟨⟩
theorem tw14978731467003240592:True:=⟨⟩
theorem tw9466367427336684335:True:=⟨⟩
theorem tw16129954062642050573:True:=⟨⟩
theorem tw15118457964073289629:True:=⟨⟩
theorem tw16435145116260540403:True:=⟨⟩
theorem tw9986159386596041291:True:=⟨⟩
theorem tw4762995603375477503:True:=⟨⟩
theorem tw530684274474814442:True:=⟨⟩
theorem tw9016929935483840578:True:=⟨⟩
theorem tw8871029021759738552:True:=⟨⟩
theorem tw1412105097100734851:True:=⟨⟩
theorem tw18438347639502009901:True:=⟨⟩
theorem tw7492884703717757881:True:=⟨⟩
theorem tw1891330909600037723:True:=⟨⟩
theorem tw9990162211652564711:True:=⟨⟩
theorem tw1118109838406661019:True:=⟨⟩
theorem tw12832714438019067581:True:=⟨⟩
theorem tw11492615796320202812:True:=⟨⟩
theorem tw162473700425539603:True:=⟨⟩
theorem tw13149991164589372472:True:=⟨⟩
theorem tw14973742723826984120:True:=⟨⟩
theorem tw8556881319794653275:True:=⟨⟩
theorem tw1819663710973714041:True:=⟨⟩
theorem tw1104488647094209902:True:=⟨⟩
theorem tw17670709185726934248:True:=⟨⟩
theorem tw7853399458379906777:True:=⟨⟩
theorem tw6425884994113631308:True:=⟨⟩
theorem tw17594760211624526283:True:=⟨⟩
theorem tw7851787535860571123:True:=⟨⟩
theorem tw14640572693217546273:True:=⟨⟩
theorem tw15583159890976612112:True:=⟨⟩
theorem tw9000492280638625789:True:=⟨⟩
theorem tw1726813977947389158:True:=⟨⟩
theorem tw9947724475003619674:True:=⟨⟩
theorem tw9506547847472607489:True:=⟨⟩
theorem tw7835064511630915075:True:=⟨⟩
theorem tw6866683891151582221:True:=⟨⟩
theorem tw5755817227132875237:True:=⟨⟩
theorem tw4862741975000952055:True:=⟨⟩
theorem tw2882356951737927585:True:=⟨⟩
theorem tw18111414595329612538:True:=⟨⟩
theorem tw17001195906241442773:True:=⟨⟩
theorem tw15266433513615489537:True:=⟨⟩
theorem tw14819694531884392017:True:=⟨⟩
theorem tw14114753284023174821:True:=⟨⟩
theorem tw1349069014647357223:True:=⟨⟩
theorem tw12855419698269193786:True:=⟨⟩
theorem tw16690788079638538773:True:=⟨⟩
theorem tw4069687752174603861:True:=⟨⟩
theorem tw8297966634746096414:True:=⟨⟩
theorem tw6730875953044847916:True:=⟨⟩
theorem tw6049868058112198784:True:=⟨⟩
theorem tw12308534206943208666:True:=⟨⟩
theorem tw14826031857019004941:True:=⟨⟩
theorem tw13227656411800433115:True:=⟨⟩
theorem tw17899455434026235383:True:=⟨⟩
theorem tw17748391171391791682:True:=⟨⟩
theorem tw15140575967346891081:True:=⟨⟩
theorem tw15377678365041130219:True:=⟨⟩
theorem tw15546968404707699468:True:=⟨⟩
theorem tw18051402899012708777:True:=⟨⟩
theorem tw10735711392814203601:True:=⟨⟩
theorem tw5160066459553266816:True:=⟨⟩
theorem tw1495474450647618605:True:=⟨⟩
theorem tw15871576022070521126:True:=⟨⟩
theorem tw18412816545115006207:True:=⟨⟩
theorem tw14079483211463739728:True:=⟨⟩
theorem tw12838189731587688999:True:=⟨⟩
theorem tw9307431955463701274:True:=⟨⟩
theorem tw17748890715401807743:True:=⟨⟩
theorem tw11674071771355242830:True:=⟨⟩
theorem tw3768600909522892029:True:=⟨⟩
theorem tw16106723983093554436:True:=⟨⟩
theorem tw9578137325174995177:True:=⟨⟩
theorem tw1946033789281374818:True:=⟨⟩
theorem tw13918767385064653732:True:=⟨⟩
theorem tw10913997214970868764:True:=⟨⟩
theorem tw8706593751649875096:True:=⟨⟩
theorem tw18435423981051818222:True:=⟨⟩
theorem tw10317028140967421626:True:=⟨⟩
theorem tw13586414748893568851:True:=⟨⟩
theorem tw11838570771899567539:True:=⟨⟩
theorem tw7776265952824830946:True:=⟨⟩
theorem tw3778727204222080899:True:=⟨⟩
theorem tw2363903611795592705:True:=⟨⟩
theorem tw18366049866466480393:True:=⟨⟩
theorem tw16409236330492884371:True:=⟨⟩
theorem tw14248016213943530440:True:=⟨⟩
theorem tw11435906062788071858:True:=⟨⟩
theorem tw9863237375522220903:True:=⟨⟩
theorem tw9769863511298422818:True:=⟨⟩
theorem tw9762787882097571856:True:=⟨⟩
theorem tw9643090989392201812:True:=⟨⟩
theorem tw9619610745294895768:True:=⟨⟩
theorem tw9202793077811905852:True:=⟨⟩
theorem tw885371844316833120:True:=⟨⟩
theorem tw8212859607379937844:True:=⟨⟩
theorem tw8153494736163193282:True:=⟨⟩
theorem tw8079341929624369548:True:=⟨⟩
theorem tw787864133665795934:True:=⟨⟩
theorem tw7514863291714595196:True:=⟨⟩
theorem tw7232841066116858783:True:=⟨⟩
theorem tw7129484964119345133:True:=⟨⟩
theorem tw6821080607343536927:True:=⟨⟩
theorem tw6799717253033202974:True:=⟨⟩
theorem tw6494762443452080514:True:=⟨⟩
theorem tw648145590827737737:True:=⟨⟩
theorem tw6080368645660506305:True:=⟨⟩
theorem tw5741868628440793479:True:=⟨⟩
theorem tw5099301408519554050:True:=⟨⟩
theorem tw4463166748007049108:True:=⟨⟩
theorem tw420471366415179010:True:=⟨⟩
theorem tw3804045619721632138:True:=⟨⟩
theorem tw3202980715671287772:True:=⟨⟩
theorem tw2807939160141173056:True:=⟨⟩
theorem tw2299995472670780312:True:=⟨⟩
theorem tw18415491594491465074:True:=⟨⟩
theorem tw18368650237389215793:True:=⟨⟩
theorem tw18259904567720872237:True:=⟨⟩
theorem tw18065466543452598238:True:=⟨⟩
theorem tw17982551050898188252:True:=⟨⟩
theorem tw17953295521274581375:True:=⟨⟩
theorem tw17658068361143100475:True:=⟨⟩
theorem tw17507916543043632276:True:=⟨⟩
theorem tw1748003047606840153:True:=⟨⟩
theorem tw17382730591349914884:True:=⟨⟩
theorem tw17341298701788093120:True:=⟨⟩
theorem tw1718328181716237790:True:=⟨⟩
theorem tw17164885772072472456:True:=⟨⟩
theorem tw16962657549081138568:True:=⟨⟩
theorem tw16556699998316864137:True:=⟨⟩
end PySem.W.Fast
open_top MyHead for PySem.Challenge.rw_touchall_k77_webs_called_otherwise
end
-- CHANGE: your row's module here, as the last of these rows
noncomputable section
set_option Elab.async false
set_option linter.all false
set_option maxRecDepth 100000
namespace L2
open PySem PySem.Spec PyProof.Rows
abbrev Key:=Sum Int Str
def jim:Key→Value→Bool
 | .inl k,v=>Value.isInt k v
 | .inr x,v=>Value.isStrOf x v
def keyH (w:World):Key→Int
 | .inl k=>hashInt k
 | .inr x=>hashStr w x
theorem jb7:∀ {k:Key} {v:Value},jim k v = true→(∃ i t,k = Sum.inl i∧v = Value.int i t) ∨ (∃ x t,k = Sum.inr x∧v = Value.str x t)
 | .inl i,v,h=>by
  obtain ⟨t,e⟩:=Value.isInt_shape (k:=i) (v:=v) h
  exact .inl ⟨i,t,rfl,e⟩
 | .inr x,v,h=>by
  obtain ⟨t,e⟩:=Value.isStrOf_shape (x:=x) (v:=v) h
  exact .inr ⟨x,t,rfl,e⟩
theorem jla (i:Int) (t:Tok):jim (.inl i) (.int i t) = true:=by simp [jim,Value.isInt]
theorem jl9 (x:Str) (t:Tok):jim (.inr x) (.str x t) = true:=by simp [jim,Value.isStrOf]
theorem key_ll (a b:Int):decide ((Sum.inl a:Key) = Sum.inl b) = (a == b):=by
 by_cases e:a = b
 ·subst e; simp
 ·have h:¬ (Sum.inl a:Key) = Sum.inl b:=fun q=>e (Sum.inl.inj q)
  rw [decide_eq_false h]
  exact (beq_eq_false_iff_ne.mpr e).symm
theorem key_rr (a b:Str):decide ((Sum.inr a:Key) = Sum.inr b) = decide (a = b):=by
 by_cases e:a = b
 ·subst e; simp
 ·have h:¬ (Sum.inr a:Key) = Sum.inr b:=fun q=>e (Sum.inr.inj q)
  rw [decide_eq_false h,decide_eq_false e]
theorem key_lr (a:Int) (b:Str):decide ((Sum.inl a:Key) = Sum.inr b) = false:=decide_eq_false (fun q=>nomatch q)
theorem key_rl (a:Str) (b:Int):decide ((Sum.inr a:Key) = Sum.inl b) = false:=decide_eq_false (fun q=>nomatch q)
def jbl (prog:Program) (w:World):PySem.KeyKind prog w Key where
 is:=jim
 hash:=keyH w
 inj:=fun v a b ha hb=>by
  rcases jb7 ha with ⟨i,t,rfl,rfl⟩ | ⟨x,t,rfl,rfl⟩
  ·rcases jb7 hb with ⟨j,u,rfl,e⟩ | ⟨y,u,rfl,e⟩
   ·injection e with e1 _; rw [e1]
   ·exact nomatch e
  ·rcases jb7 hb with ⟨j,u,rfl,e⟩ | ⟨y,u,rfl,e⟩
   ·exact nomatch e
   ·injection e with e1 _; rw [e1]
 byValue:=fun k v h=>by
  rcases jb7 h with ⟨i,t,rfl,rfl⟩ | ⟨x,t,rfl,rfl⟩ <;> rfl
 pyHash:=fun hv h=>by
  rcases jb7 hv with ⟨i,t,rfl,rfl⟩ | ⟨x,t,rfl,rfl⟩
  ·exact wpAny_pyHash_int h
  ·exact wpAny_pyHash_str h
 eqBool:=fun hu hv h=>by
  rcases jb7 hu with ⟨i,t,rfl,rfl⟩ | ⟨x,t,rfl,rfl⟩
  ·rcases jb7 hv with ⟨j,u,rfl,rfl⟩ | ⟨y,u,rfl,rfl⟩
   ·rw [key_ll] at h; exact wpAny_eqBool_int h
   ·rw [key_lr] at h; exact SeqAt.EqAt.int_str i t y u _ _ _ _ h
  ·rcases jb7 hv with ⟨j,u,rfl,rfl⟩ | ⟨y,u,rfl,rfl⟩
   ·rw [key_rl] at h; exact SeqAt.EqAt.str_int x t j u _ _ _ _ h
   ·rw [key_rr] at h; exact wpAny_eqBool_str h
 «strs»:=fun k x t v h=>by
  rcases jb7 h with ⟨i,u,rfl,e⟩ | ⟨y,u,rfl,e⟩
  ·exact nomatch e
  ·injection e with e1 _
   subst e1
   cases v <;> rfl
theorem jij (prog:Program) (w:World) (i:Int) (t:Tok):(jbl prog w).is (.inl i) (.int i t) = true:=jla i t
theorem jii (prog:Program) (w:World) (x:Str) (t:Tok):(jbl prog w).is (.inr x) (.str x t) = true:=jl9 x t
end L2
namespace L2
open PySem PySem.Spec PyProof.Rows
inductive V where
 | non | bl (b:Bool) | int (i:Int) | str (x:Str) | byt (b:Array UInt8) | flt (b:UInt64) | ref (a:Addr) | ty (n:String)
 deriving DecidableEq
def RelV:V→Value→Prop
 | .non,u=>u = Value.none
 | .bl b,u=>u = Value.bool b
 | .int i,u=>∃ t,u = Value.int i t
 | .str x,u=>∃ t,u = Value.str x t
 | .byt b,u=>∃ t,u = Value.bytes b t
 | .flt b,u=>∃ t,u = Value.float b t
 | .ref a,u=>u = Value.ref a
 | .ty n,u=>u = Value.type n
abbrev Vals:List V→List Value→Prop:=Paired RelV
theorem Vals.length {xs:List V} {us:List Value} (r:Vals xs us):xs.length = us.length:=Paired.length r
theorem Vals.get:∀ {xs:List V} {us:List Value} {i:Nat} {x:V},Vals xs us→xs[i]? = some x→∃ u,us[i]? = some u∧RelV x u
 | _,_,_,_,.nil,e=>by simp at e
 | _,_,0,_,.cons r _,e=>by simp at e; subst e; exact ⟨_,rfl,r⟩
 | _,_,i + 1,x,.cons _ t,e=>by
  obtain ⟨u,h1,h2⟩:=Vals.get (i:=i) (x:=x) t (by simpa using e)
  exact ⟨u,by simpa using h1,h2⟩
theorem Vals.set {x:V} {u:Value} (r:RelV x u):∀ {xs:List V} {us:List Value} (i:Nat),Vals xs us→Vals (xs.set i x) (us.set i u)
 | _,_,_,.nil=>.nil
 | _,_,0,.cons _ t=>.cons r t
 | _,_,i + 1,.cons q t=>.cons q (Vals.set r i t)
theorem Vals.append:∀ {xs ys:List V} {us ws:List Value},Vals xs us→Vals ys ws→Vals (xs ++ ys) (us ++ ws)
 | _,_,_,_,.nil,s=>s
 | _,_,_,_,.cons r t,s=>.cons r (Vals.append t s)
theorem Vals.take:∀ {xs:List V} {us:List Value} (n:Nat),Vals xs us→Vals (xs.take n) (us.take n)
 | _,_,0,_=>.nil
 | _,_,_ + 1,.nil=>.nil
 | _,_,n + 1,.cons r t=>.cons r (Vals.take n t)
theorem Vals.drop:∀ {xs:List V} {us:List Value} (n:Nat),Vals xs us→Vals (xs.drop n) (us.drop n)
 | _,_,0,r=>r
 | _,_,_ + 1,.nil=>.nil
 | _,_,n + 1,.cons _ t=>Vals.drop n t
def RelO:Option V→Option Value→Prop
 | some v,some u=>RelV v u
 | none,none=>True
 | _,_=>False
def KV {κ:Type}:List (κ × V)→List (κ × Value)→Prop:=Paired fun (p:κ × V) (q:κ × Value)=>p.1 = q.1∧RelV p.2 q.2
def kV:Key→V
 | .inl i=>.int i
 | .inr x=>.str x
inductive HO where
 | lst (xs:List V)
 | tup (xs:List V)
 | dK (kvs:List (Key × V)) | dT (kvs:List (List Key × V))
 | set (S:Int→Bool) (n:Nat)
 | ins (C dx:Addr) (fs:List (Str × V))
 | own (x:Addr)
 | xd (fs:List (Str × V))
 | met (f x:Addr)
 | rng (lo hi:Int)
 | frz (o:Obj) (u:HO)
 | tbl (ps:Array Value)
 | ext (φ:Heap→Prop)
abbrev Hp:=Addr→Option HO
def upd (H:Hp) (a:Addr) (o:HO):Hp:=fun b=>if b = a then some o else H b
theorem ja1 {H:Hp} {a:Addr} {o:HO}:upd H a o a = some o:=by unfold upd; rw [if_pos rfl]
theorem jaa {H:Hp} {a b:Addr} {o:HO} (h:b ≠ a):upd H a o b = H b:=by unfold upd; rw [if_neg h]
theorem jk5 {H:Hp} {a:Addr} {o u:HO}:upd (upd H a o) a u = upd H a u:=by
 funext b; unfold upd; split <;> rfl
theorem ne_of {H:Hp} {a b:Addr} {o u:HO} (h:H a = some o) (h':H b = some u) (d:o ≠ u):a ≠ b:=by
 intro e; subst e; rw [h] at h'; exact d (Option.some.inj h')
theorem ja6 {H:Hp} {a b:Addr} {o:HO} (h:H a = some o) (h':H b = none):a ≠ b:=by
 intro e; subst e; rw [h] at h'; cases h'
section
variable (P:Program) (w:World)
def jbn (H:Hp) (h:Heap) (a:Addr):HO→Prop
 | .lst xs=>xs.length ≤ sizeLine∧∃ (its:List Value) (n:Nat),Vals xs its∧h.get? a = some { cls:=.type "list",data:=.seq its.toArray n }
 | .tup xs=>xs.length ≤ sizeLine∧∃ its:List Value,Vals xs its∧IsTup h a its.toArray
 | .dK kvs=>kvs.length ≤ sizeLine∧(a == sysModules) = false∧∃ vs,KV kvs vs∧h.DictOf (jbl P w) a vs
 | .dT kvs=>kvs.length ≤ sizeLine∧(a == sysModules) = false∧∃ xs:List (List Key × Addr × Value),
   Paired (fun (p:List Key × V) (q:List Key × Addr × Value)=>p.1 = q.1∧H q.2.1 = some (.tup (p.1.map kV))∧RelV p.2 q.2.2) kvs xs ∧
   ∃ o es ep,h.get? a = some o∧o.ExactDict∧o.data = .dict es ep∧es.toList = xs.map (entryOfKey (tupleKind (jbl P w)))∧(xs.map (·.1)).Nodup
 | .set S n=>h.SetOf (intKind P w) a S n
 | .ins C dx fs=>H dx = some (.own a)∧fs.length ≤ 1000∧dx ≠ a∧h.get? a = some (PySem.W.instObj C dx) ∧
   ∃ mA,h.Ns1 dx mA∧(∀ f,RelO (fs.lookup f) (mA f))∧PySem.Within mA (fs.map (·.1))
 | .own _=>∃ o,h.get? a = some o
 | .xd fs=>∃ mA,h.Ns1 a mA∧∀ f,RelO (fs.lookup f) (mA f)
 | .rng lo hi=>∃ t u v,h.get? a = some { cls:=.type "range",data:=.fields #[.int lo t,.int hi u,.int 1 v] }
 | .frz o u=>h.get? a = some o∧jbn H h a u
 | .tbl ps=>h.get? a = some { cls:=.none,data:=.fields ps }
 | .met f x=>h.get? a = some (PySem.W.methodObj (.ref f) (.ref x))
 | .ext φ=>φ h∧(∃ o,h.get? a = some o)∧∀ h1 h2:Heap,φ h1→(∀ o,h1.get? a = some o→h2.get? a = some o)→φ h2
def HOk (H:Hp) (h:Heap):Prop:=∀ a o,H a = some o→jbn P w H h a o
end
section
variable {P:Program} {w:World} {H H':Hp} {h h':Heap} {a:Addr} {o:HO}
theorem jbn.lt (x:jbn P w H h a o):a < h.objs.size:=by
 cases o with
 | lst xs=>obtain ⟨_,_,_,_,e⟩:=x; exact Heap.lt_size e
 | tup xs=>obtain ⟨_,_,_,p⟩:=x; exact p.lt
 | dK kvs=>obtain ⟨_,_,_,_,o,_,_,e,_⟩:=x; exact Heap.lt_size e
 | dT kvs=>obtain ⟨_,_,_,_,o,_,_,e,_⟩:=x; exact Heap.lt_size e
 | set S n=>obtain ⟨o,_,_,_,e,_⟩:=x; exact Heap.lt_size e
 | ins C dx fs=>obtain ⟨_,_,_,e,_⟩:=x; exact Heap.lt_size e
 | own y=>obtain ⟨_,e⟩:=x; exact Heap.lt_size e
 | xd fs=>obtain ⟨_,⟨_,_,_,e,_⟩,_⟩:=x; exact Heap.lt_size e
 | rng lo hi=>obtain ⟨_,_,_,e⟩:=x; exact Heap.lt_size e
 | frz ob u=>obtain ⟨e,_⟩:=x; exact Heap.lt_size e
 | tbl ps=>exact Heap.lt_size (show h.get? a = some _ from x)
 | met f y=>exact Heap.lt_size (show h.get? a = some _ from x)
 | ext φ=>obtain ⟨_,⟨_,e⟩,_⟩:=x; exact Heap.lt_size e
theorem Paired.mapP {α β:Type} {F G:α→β→Prop}:∀ {l₁:List α} {l₂:List β},Paired F l₁ l₂→(∀ a b,F a b→G a b)→Paired G l₁ l₂
 | _,_,.nil,_=>.nil
 | _,_,.cons r t,f=>.cons (f _ _ r) (Paired.mapP t f)
theorem jbn.stay (x:jbn P w H h a o) (k:∀ b u,(b = a ∨ H b = some (.own a))→h.get? b = some u→h'.get? b = some u)
  (ho:∀ b,H b = some (.own a)→H' b = some (.own a)) (ht:∀ b xs,H b = some (.tup xs)→H' b = some (.tup xs)):jbn P w H' h' a o:=by
 induction o with
 | lst xs=>obtain ⟨z,its,n,r,e⟩:=x; exact ⟨z,its,n,r,k _ _ (.inl rfl) e⟩
 | tup xs=>obtain ⟨z,its,r,ob,e,c⟩:=x; exact ⟨z,its,r,ob,k _ _ (.inl rfl) e,c⟩
 | dK kvs=>obtain ⟨z,y,vs,r,ob,es,ep,e,c⟩:=x; exact ⟨z,y,vs,r,ob,es,ep,k _ _ (.inl rfl) e,c⟩
 | dT kvs =>
  obtain ⟨z,y,xs,r,ob,es,ep,e,c⟩:=x
  exact ⟨z,y,xs,Paired.mapP r fun p q z=>⟨z.1,ht _ _ z.2.1,z.2.2⟩,ob,es,ep,k _ _ (.inl rfl) e,c⟩
 | set S n=>obtain ⟨ob,es,ep,t,e,c⟩:=x; exact ⟨ob,es,ep,t,k _ _ (.inl rfl) e,c⟩
 | ins C dx fs =>
  obtain ⟨d,z,ne,e,mA,⟨od,es,ep,e2,c⟩,r⟩:=x
  exact ⟨ho _ d,z,ne,k _ _ (.inl rfl) e,mA,⟨od,es,ep,k _ _ (.inr d) e2,c⟩,r⟩
 | own y=>obtain ⟨ob,e⟩:=x; exact ⟨ob,k _ _ (.inl rfl) e⟩
 | xd fs=>obtain ⟨mA,⟨od,es,ep,e,c⟩,r⟩:=x; exact ⟨mA,⟨od,es,ep,k _ _ (.inl rfl) e,c⟩,r⟩
 | rng lo hi=>obtain ⟨t,u,v,e⟩:=x; exact ⟨t,u,v,k _ _ (.inl rfl) e⟩
 | frz ob u ih=>obtain ⟨e,q⟩:=x; exact ⟨k _ _ (.inl rfl) e,ih q⟩
 | tbl ps =>
  have e:h.get? a = some { cls:=.none,data:=.fields ps }:=x
  show h'.get? a = some { cls:=.none,data:=.fields ps }
  exact k a _ (.inl rfl) e
 | met f y =>
  have e:h.get? a = some (PySem.W.methodObj (.ref f) (.ref y)):=x
  show h'.get? a = some (PySem.W.methodObj (.ref f) (.ref y))
  exact k a _ (.inl rfl) e
 | ext φ=>obtain ⟨p,⟨o,e⟩,st⟩:=x; exact ⟨st _ _ p fun o q=>k _ _ (.inl rfl) q,⟨o,k _ _ (.inl rfl) e⟩,st⟩
theorem HOk.lt (x:HOk P w H h) (e:H a = some o):a < h.objs.size:=(x a o e).lt
theorem HOk.fresh (x:HOk P w H h) (e:h.objs.size ≤ a):H a = none:=by
 cases q:H a with
 | none=>rfl
 | some u=>exact absurd (Nat.lt_of_lt_of_le (x.lt q) e) (Nat.lt_irrefl _)
theorem HOk.kept (x:HOk P w H h) (k:∀ b u,h.get? b = some u→h'.get? b = some u):HOk P w H h':=fun a o e =>
 (x a o e).stay (fun b u _ q=>k b u q) (fun _ q=>q) fun _ _ q=>q
theorem HOk.laid (x:HOk P w H h) (k:∀ b u,h.get? b = some u→h'.get? b = some u) (hp:h.objs.size ≤ a) (new:jbn P w (upd H a o) h' a o):HOk P w (upd H a o) h':=fun b u e=>by
 have hn:=x.fresh hp
 by_cases hb:b = a
 ·subst hb; rw [ja1] at e; cases e; exact new
 ·rw [jaa hb] at e
  exact (x b u e).stay (fun c v _ q=>k c v q) (fun c q=>by rw [jaa (ja6 q hn)]; exact q) fun c xs q=>by rw [jaa (ja6 q hn)]; exact q
end
def Rd (H:Hp) (a:Addr) (u:HO):Prop:=H a = some u ∨ ∃ o,H a = some (.frz o u)
theorem Rd.of {H:Hp} {a:Addr} {u:HO} (h:H a = some u):Rd H a u:=.inl h
theorem Rd.ok {P:Program} {w:World} {H:Hp} {h:Heap} {a:Addr} {u:HO} (r:Rd H a u) (x:HOk P w H h):jbn P w H h a u:=by
 rcases r with r | ⟨o,r⟩
 ·exact x a u r
 ·obtain ⟨_,q⟩:=x a _ r
  exact q
def Mut:Option HO→Prop
 | some (.lst _)=>True
 | some (.dK _)=>True
 | some (.dT _)=>True
 | some (.set _ _)=>True
 | some (.ins _ _ _)=>True
 | some (.ext _)=>True
 | _=>False
section
variable {P:Program} {w:World} {H:Hp} {h h':Heap} {x e:Addr} {o':HO}
theorem HOk.write (ok:HOk P w H h) (mu:Mut (H x)) (he:e = x ∨ H e = some (.own x)) (k:∀ b u,b ≠ e→h.get? b = some u→h'.get? b = some u) (heo:∃ u,h'.get? e = some u)
  (new:jbn P w (upd H x o') h' x o'):HOk P w (upd H x o') h':=fun b u q=>by
 have nown:∀ c y,H c = some (.own y)→c ≠ x:=fun c y r z=>by subst z; rw [r] at mu; exact mu
 have ntup:∀ c xs,H c = some (.tup xs)→c ≠ x:=fun c xs r z=>by subst z; rw [r] at mu; exact mu
 by_cases hb:b = x
 ·subst hb; rw [ja1] at q; cases q; exact new
 ·rw [jaa hb] at q
  by_cases hbe:b = e
  ·have q':H b = some (.own x):=by
    rcases he with z | z
    ·exact absurd (hbe.trans z) hb
    ·rw [hbe]; exact z
   rw [q] at q'; cases q'
   obtain ⟨v,hv⟩:=heo
   exact ⟨v,by rw [hbe]; exact hv⟩
  ·refine (ok b u q).stay (fun c v hc r=>k c v ?_ r) (fun c r=>by rw [jaa (nown c b r)]; exact r) fun c xs r=>by rw [jaa (ntup c xs r)]; exact r
   rcases hc with rfl | hc
   ·exact hbe
   ·rintro rfl
    rcases he with z | z
    ·exact nown c b hc z
    ·rw [hc] at z; cases z; exact hb rfl
end
structure Un (fs ex:List Addr) (H H':Hp) (h h':Heap):Prop where
 keep:∀ b o,h.get? b = some o→H b = none→b ∉ fs→b ∉ ex→h'.get? b = some o
 slot:∀ b o,h.get? b = some o→H b = none→b ∈ fs→b ∉ ex→∃ sl,h'.get? b = some { o with slots:=sl }
 free:∀ b o,h.get? b = some o→H b = none→b ∉ ex→H' b = none
 there:∀ b o,h.get? b = some o→b ∉ ex→∃ o',h'.get? b = some o'
 tups:∀ b xs,H b = some (.tup xs)→H' b = some (.tup xs)
 frzs:∀ b o u,H b = some (.frz o u)→H' b = some (.frz o u)
 tbls:∀ b ps,H b = some (.tbl ps)→∃ more,H' b = some (.tbl (ps ++ more))
section
variable {fs fs' ex ex':List Addr} {H H1 H2:Hp} {h h1 h2 h':Heap} {a x e:Addr} {o:HO}
theorem Un.any (u:Un fs ex H H1 h h1) {b:Addr} {ob:Obj} (q:h.get? b = some ob) (n:H b = none) (hx:b ∉ ex):∃ sl,h1.get? b = some { ob with slots:=sl }:=by
 by_cases hb:b ∈ fs
 ·exact u.slot b ob q n hb hx
 ·exact ⟨ob.slots,u.keep b ob q n hb hx⟩
theorem Un.kept (k:∀ b u,h.get? b = some u→h'.get? b = some u):Un fs ex H H h h' :=
 ⟨fun b ob q _ _ _=>k b ob q,fun b ob q _ _ _=>⟨ob.slots,k b ob q⟩,fun _ _ _ n _=>n,fun b ob q _=>⟨ob,k b ob q⟩,fun _ _ q=>q,fun _ _ _ q=>q,fun _ ps q=>⟨#[],by rw [q]; simp⟩⟩
theorem Un.refl:Un fs ex H H h h:=Un.kept fun _ _ q=>q
theorem Un.laid (k:∀ b u,h.get? b = some u→h'.get? b = some u) (hp:h.objs.size ≤ a) (hn:H a = none):Un fs ex H (upd H a o) h h' where
 keep:=fun b u q _ _ _=>k b u q
 slot:=fun b u q _ _ _=>⟨u.slots,k b u q⟩
 free:=fun b u q n _=>by rw [jaa (Nat.ne_of_lt (Nat.lt_of_lt_of_le (Heap.lt_size q) hp))]; exact n
 there:=fun b u q _=>⟨u,k b u q⟩
 tups:=fun b xs q=>by rw [jaa (ja6 q hn)]; exact q
 frzs:=fun b u xs q=>by rw [jaa (ja6 q hn)]; exact q
 tbls:=fun b ps q=>⟨#[],by rw [jaa (ja6 q hn),q]; simp⟩
theorem Un.write (mu:Mut (H x)) (he:e = x ∨ H e = some (.own x)) (k:∀ b u,b ≠ e→h.get? b = some u→h'.get? b = some u) (heo:∃ u,h'.get? e = some u):Un fs ex H (upd H x o) h h':=by
 have hx:∀ b,H b = none→b ≠ x:=fun b n z=>by subst z; rw [n] at mu; exact mu
 have hb:∀ b,H b = none→b ≠ e:=fun b n z=>by
  subst z
  rcases he with r | r
  ·exact hx b n r
  ·rw [n] at r; cases r
 have hm:∀ b u,H b = some u→¬ Mut (some u)→b ≠ x:=fun b u q nm z=>by subst z; rw [q] at mu; exact nm mu
 refine ⟨fun b u q n _ _=>k b u (hb b n) q,fun b u q n _ _=>⟨u.slots,k b u (hb b n) q⟩,fun b u q n _=>by rw [jaa (hx b n)]; exact n,fun b u q _=>?_,
  fun b xs q=>by rw [jaa (hm b _ q fun z=>z)]; exact q,fun b u xs q=>by rw [jaa (hm b _ q fun z=>z)]; exact q,fun b ps q=>⟨#[],by rw [jaa (hm b _ q fun z=>z),q]; simp⟩⟩
 by_cases hbe:b = e
 ·subst hbe; exact heo
 ·exact ⟨u,k b u hbe q⟩
theorem Un.mono (u:Un fs ex H H1 h h1) (hs:∀ b ∈ fs,b ∈ fs') (hx:∀ b ∈ ex,b ∈ ex'):Un fs' ex' H H1 h h1 :=
 ⟨fun b ob q n hb he=>u.keep b ob q n (fun z=>hb (hs b z)) fun z=>he (hx b z),fun _ _ q n _ he=>u.any q n fun z=>he (hx _ z),fun b ob q n he=>u.free b ob q n fun z=>he (hx b z),fun b ob q he=>u.there b ob q fun z=>he (hx b z),u.tups,u.frzs,u.tbls⟩
end
def trk (h:Heap) (H:Hp):List Addr:=(List.range h.objs.size).filter fun a=>(H a).isSome
def hidT (h:Heap) (H:Hp):Heap:=PySem.W.hideAll h (trk h H)
theorem jli (h:Heap) (H:Hp):(hidT h H).objs.size = h.objs.size:=PySem.W.hideAll_size _ _
theorem jmx {h:Heap} {H:Hp} {b:Addr} {o:Obj} (e:h.get? b = some o) (n:H b = none):(hidT h H).get? b = some o :=
 PySem.W.hideAll_get _ e fun hm=>by
  have q:(H b).isSome = true:=(List.mem_filter.mp hm).2
  rw [n] at q; simp at q
theorem jop {h:Heap} {H:Hp} {b:Addr} {o:Obj} (e:(hidT h H).get? b = some o):h.get? b = some o∧H b = none:=by
 have e':h.get? b = some o:=PySem.W.of_hideAll (trk h H) e
 refine ⟨e',?_⟩
 cases q:H b with
 | none=>rfl
 | some x =>
  have hm:b ∈ trk h H:=List.mem_filter.mpr ⟨List.mem_range.mpr (Heap.lt_size e'),by simp [q]⟩
  have z:(hidT h H).get? b = none:=PySem.W.hideAll_none (trk h H) hm
  rw [z] at e; cases e
end L2
namespace L2
open PySem PySem.Spec PyProof.Rows
structure Mod (K:PySem.W.Frag) (mg:Str→Option Value) (base:Heap):Prop where
 kin:K.In base
 glob:base.Ns mainGlobals mg
 blt:∃ mb,base.Ns builtinsNs mb∧∀ x:Str,x ≠ "__name__"→mb x = bootBuiltins x
 nolimit:base.NoLimit
structure Cx where
 prog:Program
 w:World
 K:PySem.W.Frag
 mg:Str→Option Value
 base:Heap
 A:Around
 N:List Str
 s₀:Shared
 H₀:Hp
 env:Env
 outer:List Env
 stack:List Env
 ex:List Addr
 fn:Str→Bool
 calm:Bool
 pn:List (Addr × Obj)
 xe:Value→Shared→Prop
def frs (l:List Env):List Addr:=l.filterMap (·.frame)
abbrev Cx.fs (X:Cx):List Addr:=frs X.outer
def Vis (sc:Scope) (x:Str):Prop:=sc.names.lookup x = some .local ∨ sc.names.lookup x = some .cell ∨ sc.names.lookup x = some .free
def Loc (sc:Scope) (x:Str):Prop:=sc.names.lookup x = some .local ∨ sc.names.lookup x = some .cell
def Look (env:Env) (h:Heap) (m:Str→Option Value) (x:Str) (u:Value):Prop :=
 (env.kindOf x = some .local∧m x = some u) ∨ ((env.kindOf x = some .cell ∨ env.kindOf x = some .free)∧∃ c,env.cells.lookup x = some c∧h.IsCell c (some u))
structure Cx.Ok (X:Cx):Prop where
 mod:Mod X.K X.mg X.base
 kind:X.env.scope.kind = .function
 glob:X.env.globals = mainGlobals
 blt:X.env.builtins = builtinsNs
 above:X.s₀.heap.objs.size ≤ X.env.locals
 inj:∀ x y c,X.env.cells.lookup x = some c→X.env.cells.lookup y = some c→x = y
 has:∀ x,(X.env.kindOf x = some .cell ∨ X.env.kindOf x = some .free)→∃ c,X.env.cells.lookup x = some c
 cab:∀ x c,X.fn x = true→X.env.cells.lookup x = some c→X.s₀.heap.objs.size ≤ c
 hd:X.calm = true→X.A.handled = none
 frames:X.A.frames = some X.stack
 stk:X.stack = X.outer ∨ (X.stack = X.env :: X.outer∧X.env.frame = some X.env.locals)
 exf:∀ b ∈ X.ex,b ≠ X.env.locals∧∀ x c,X.env.cells.lookup x = some c→c ≠ b
 bs:∀ b o,X.base.get? b = some o→X.s₀.heap.get? b = some o∧X.H₀ b = none
 bsz:X.base.objs.size ≤ X.s₀.heap.objs.size
 noex:∀ b o,X.base.get? b = some o→b ∉ X.ex
 exfs:∀ b ∈ X.ex,b ∉ X.fs
 funs:X.s₀.heap.FunFrames X.base X.outer
 frf:∀ b ∈ X.fs,X.H₀ b = none
structure Inv (X:Cx) (pins:List (Addr × Obj)) (σ:List (Option V)) (H:Hp) (s:Shared):Prop where
 ok:X.Ok
 os:s.os = X.s₀.os
 bare:AllBare s.gens
 base:Un X.fs X.ex X.H₀ H X.s₀.heap s.heap
 loc:∃ m,s.heap.Ns X.env.locals m∧∀ (i:Nat) (x:Str) (v:V),X.N[i]? = some x→σ[i]? = some (some v)→Vis X.env.scope x→∃ u,RelV v u∧Look X.env s.heap m x u
 cell:∀ x c,X.env.cells.lookup x = some c→∃ v,s.heap.IsCell c v
 free:H X.env.locals = none
 freeC:∀ x c,X.env.cells.lookup x = some c→H c = none
 pin:∀ p ∈ X.pn ++ pins,s.heap.get? p.1 = some p.2∧H p.1 = none∧p.1 ≠ X.env.locals∧p.1 ∉ X.fs∧∀ v,p.2.data ≠ .cell v
 hok:HOk X.prog X.w H s.heap
 len:σ.length = X.N.length
section
variable {X:Cx} {pins:List (Addr × Obj)} {σ:List (Option V)} {H H':Hp} {s:Shared} {h':Heap}
theorem Cx.Ok.nofr (ok:X.Ok) {b:Addr} {o:Obj} (e:X.base.get? b = some o):b ∉ X.fs:=fun hb=>by
 have:=(ok.funs.mem hb).1
 rw [e] at this; cases this
theorem Inv.bs (I:Inv X pins σ H s):∀ b o,X.base.get? b = some o→s.heap.get? b = some o∧H b = none:=fun b o e =>
 ⟨I.base.keep b o (I.ok.bs b o e).1 (I.ok.bs b o e).2 (I.ok.nofr e) (I.ok.noex b o e),I.base.free b o (I.ok.bs b o e).1 (I.ok.bs b o e).2 (I.ok.noex b o e)⟩
theorem Inv.bk (I:Inv X pins σ H s):∀ b o,X.base.get? b = some o→s.heap.get? b = some o:=fun b o e=>(I.bs b o e).1
theorem Inv.mod (I:Inv X pins σ H s):Mod X.K X.mg X.base:=I.ok.mod
theorem Inv.kIn (I:Inv X pins σ H s):X.K.In s.heap:=I.ok.mod.kin.keeps I.bk
theorem Inv.fr (I:Inv X pins σ H s):∃ m,Fr X.base X.env.locals s.heap m :=
 let ⟨m,hn,_⟩:=I.loc
 ⟨m,hn,I.bk,Nat.le_trans I.ok.bsz I.ok.above⟩
theorem Inv.lt (I:Inv X pins σ H s):X.env.locals < s.heap.objs.size:=let ⟨_,hn,_⟩:=I.loc; hn.lt
theorem Inv.sz (I:Inv X pins σ H s):X.s₀.heap.objs.size ≤ s.heap.objs.size:=Nat.le_trans I.ok.above (Nat.le_of_lt I.lt)
theorem Inv.nofs (I:Inv X pins σ H s) {a:Addr} (h:s.heap.objs.size ≤ a):a ∉ X.fs:=fun hb=>by
 obtain ⟨_,o,ho,_⟩:=I.ok.funs.mem hb
 exact absurd (Nat.lt_of_lt_of_le (Heap.lt_size ho) (Nat.le_trans I.sz h)) (Nat.lt_irrefl _)
theorem Inv.cne (I:Inv X pins σ H s):∀ x c,X.env.cells.lookup x = some c→c ≠ X.env.locals:=fun x c e z=>by
 obtain ⟨v,o,ho,hd⟩:=I.cell x c e
 obtain ⟨m,⟨o',es,ep,ho',hd',_⟩,_⟩:=I.loc
 rw [z,ho'] at ho; cases ho; rw [hd'] at hd; cases hd
theorem Inv.funs (I:Inv X pins σ H s):s.heap.FunFrames X.base X.outer:=by
 have all:∀ (l:List Env),(∀ b ∈ frs l,b ∈ X.fs)→X.s₀.heap.FunFrames X.base l→s.heap.FunFrames X.base l:=by
  intro l
  induction l with
  | nil=>intro _ _; trivial
  | cons env r ih =>
   intro hs hl
   obtain ⟨hk,⟨L,o,hf,hn,ho,hd⟩,hr⟩:=hl
   have hL:L ∈ X.fs:=hs L (by unfold frs; rw [List.filterMap_cons,hf]; exact List.mem_cons_self)
   obtain ⟨sl,e⟩:=I.base.slot L o ho (I.ok.frf L hL) hL fun z=>I.ok.exfs L z hL
   exact ⟨hk,⟨L,_,hf,hn,e,hd⟩,ih (fun b hb=>hs b (by unfold frs; rw [List.filterMap_cons,hf]; exact List.mem_cons_of_mem _ hb)) hr⟩
 exact all X.outer (fun _ hb=>hb) I.ok.funs
theorem Inv.stack (I:Inv X pins σ H s):s.heap.FunFrames X.base X.stack:=by
 rcases I.ok.stk with e | ⟨e,hf⟩
 ·rw [e]; exact I.funs
 ·rw [e]
  obtain ⟨m,hn,_⟩:=I.loc
  refine .cons (by rw [I.ok.kind]; decide) hf hn ?_ I.funs
  exact Heap.get?_none_of_le (Nat.le_trans I.ok.bsz I.ok.above)
theorem Inv.stkSub (I:Inv X pins σ H s):∀ b ∈ frs X.stack,b ∈ X.env.locals :: X.fs:=fun b hb=>by
 rcases I.ok.stk with e | ⟨e,hf⟩
 ·rw [e] at hb; exact List.mem_cons_of_mem _ hb
 ·rw [e] at hb
  unfold frs at hb
  rw [List.filterMap_cons,hf] at hb
  exact hb
theorem Inv.stkFree (I:Inv X pins σ H s):∀ b ∈ frs X.stack,H b = none:=fun b hb=>by
 rcases List.mem_cons.mp (I.stkSub b hb) with e | hb
 ·rw [e]; exact I.free
 ·obtain ⟨_,o,ho,_⟩:=I.ok.funs.mem hb
  exact I.base.free b o ho (I.ok.frf b hb) fun z=>I.ok.exfs b z hb
theorem Inv.step {g':Array GenState} {t':Nat} {d':Drawn} {ch:List Addr} (I:Inv X pins σ H s)
  (hch:∀ b ∈ ch,(b ∈ X.ex ∨ X.s₀.heap.objs.size ≤ b)∧b ≠ X.env.locals∧(∀ x c,X.env.cells.lookup x = some c→c ≠ b)∧∀ p ∈ X.pn ++ pins,p.1 ≠ b)
  (keep:∀ b o,b ≠ X.env.locals→b ∉ X.fs→b ∉ ch→s.heap.get? b = some o→H b = none→h'.get? b = some o)
  (slot:∀ b o,b ≠ X.env.locals→b ∈ X.fs→b ∉ ch→s.heap.get? b = some o→H b = none→∃ sl,h'.get? b = some { o with slots:=sl }) (free:∀ b o,b ∉ ch→s.heap.get? b = some o→H b = none→H' b = none)
  (there:∀ b o,b ∉ ch→s.heap.get? b = some o→∃ o',h'.get? b = some o')
  (tups:∀ b xs,H b = some (.tup xs)→H' b = some (.tup xs)) (frzs:∀ b o u,H b = some (.frz o u)→H' b = some (.frz o u)) (tbls:∀ b ps,H b = some (.tbl ps)→∃ more,H' b = some (.tbl (ps ++ more)))
  (ns:∀ m,s.heap.Ns X.env.locals m→h'.Ns X.env.locals m) (hok:HOk X.prog X.w H' h') (hg:AllBare g') :
  Inv X pins σ H' { s with heap:=h',gens:=g',drawn:=d',toks:=t' }:=by
 have neL:∀ b o,X.s₀.heap.get? b = some o→b ≠ X.env.locals:=fun b o e=>Nat.ne_of_lt (Nat.lt_of_lt_of_le (Heap.lt_size e) I.ok.above)
 have neC:∀ b o,X.s₀.heap.get? b = some o→b ∉ X.ex→b ∉ ch:=fun b o e hx hb=>by
  rcases (hch b hb).1 with z | z
  ·exact hx z
  ·exact absurd (Nat.lt_of_lt_of_le (Heap.lt_size e) z) (Nat.lt_irrefl _)
 have cellK:∀ x c,X.env.cells.lookup x = some c→∀ v,s.heap.IsCell c v→h'.IsCell c v:=fun x c e v ⟨o,ho,hd⟩=>by
  have nch:c ∉ ch:=fun z=>(hch c z).2.2.1 x c e rfl
  by_cases hc:c ∈ X.fs
  ·obtain ⟨sl,q⟩:=slot c o (I.cne x c e) hc nch ho (I.freeC x c e)
   exact ⟨_,q,hd⟩
  ·exact ⟨o,keep c o (I.cne x c e) hc nch ho (I.freeC x c e),hd⟩
 refine ⟨I.ok,I.os,hg,⟨fun b o e n hb hx=>?_,fun b o e n hb hx=>?_,fun b o e n hx=>?_,fun b o e hx=>?_,fun b xs e=>tups b xs (I.base.tups b xs e),fun b o xs e=>frzs b o xs (I.base.frzs b o xs e),fun b ps e=>?_⟩,?_,fun x c e=>?_,?_,fun x c e=>?_,fun p hp=>?_,hok,I.len⟩
 ·exact keep b o (neL b o e) hb (neC b o e hx) (I.base.keep b o e n hb hx) (I.base.free b o e n hx)
 ·obtain ⟨sl,e1⟩:=I.base.slot b o e n hb hx
  obtain ⟨sl',e2⟩:=slot b _ (neL b o e) hb (neC b o e hx) e1 (I.base.free b o e n hx)
  exact ⟨sl',e2⟩
 ·obtain ⟨o',e1⟩:=I.base.there b o e hx
  exact free b o' (neC b o e hx) e1 (I.base.free b o e n hx)
 ·obtain ⟨o',e1⟩:=I.base.there b o e hx
  exact there b o' (neC b o e hx) e1
 ·obtain ⟨m1,e1⟩:=I.base.tbls b ps e
  obtain ⟨m2,e2⟩:=tbls b _ e1
  exact ⟨m1 ++ m2,by rw [e2,Array.append_assoc]⟩
 ·obtain ⟨m,hn,hl⟩:=I.loc
  refine ⟨m,ns m hn,fun i x v e1 e2 e3=>?_⟩
  obtain ⟨u,r,l⟩:=hl i x v e1 e2 e3
  refine ⟨u,r,?_⟩
  rcases l with l | ⟨k,c,e,z⟩
  ·exact .inl l
  ·exact .inr ⟨k,c,e,cellK x c e _ z⟩
 ·obtain ⟨v,z⟩:=I.cell x c e
  exact ⟨v,cellK x c e v z⟩
 ·obtain ⟨m,⟨o,_,_,ho,_⟩,_⟩:=I.loc
  exact free _ o (fun z=>(hch _ z).2.1 rfl) ho I.free
 ·obtain ⟨v,o,ho,hd⟩:=I.cell x c e
  exact free c o (fun z=>(hch c z).2.2.1 x c e rfl) ho (I.freeC x c e)
 ·obtain ⟨e,n,ne,nf,d⟩:=I.pin p hp
  have nch:p.1 ∉ ch:=fun z=>(hch p.1 z).2.2.2 p hp rfl
  exact ⟨keep p.1 p.2 ne nf nch e n,free p.1 p.2 nch e n,ne,nf,d⟩
theorem Inv.un {t':Nat} (I:Inv X pins σ H s) (u:Un X.fs [] H H' s.heap h') (hok:HOk X.prog X.w H' h'):Inv X pins σ H' { s with heap:=h',toks:=t' }:=by
 obtain ⟨m,⟨o,es,ep,ho,r⟩,_⟩:=id I.loc
 obtain ⟨sl,hL⟩:=u.any ho I.free (by simp)
 exact I.step (g':=s.gens) (d':=s.drawn) (ch:=[]) (fun _ z=>nomatch z) (fun b o _ hb _ e n=>u.keep b o e n hb (by simp)) (fun b o _ hb _ e n=>u.slot b o e n hb (by simp)) (fun b o _ e n=>u.free b o e n (by simp)) (fun b o _ e=>u.there b o e (by simp)) u.tups u.frzs u.tbls (fun m' hm=>by
  obtain ⟨o',es',ep',ho',r'⟩:=hm
  rw [ho] at ho'; cases ho'
  exact ⟨_,es',ep',hL,r'⟩) hok I.bare
theorem Inv.call {g':Array GenState} {t':Nat} {d':Drawn} {ch:List Addr} (I:Inv X pins σ H s) (u:Un (frs X.stack) ch H H' s.heap h') (hok:HOk X.prog X.w H' h') (hg:AllBare g')
  (hch:∀ b ∈ ch,(b ∈ X.ex ∨ X.s₀.heap.objs.size ≤ b)∧b ≠ X.env.locals∧(∀ x c,X.env.cells.lookup x = some c→c ≠ b)∧∀ p ∈ X.pn ++ pins,p.1 ≠ b) :
  Inv X pins σ H' { s with heap:=h',gens:=g',drawn:=d',toks:=t' }:=by
 obtain ⟨m,⟨o,es,ep,ho,r⟩,_⟩:=id I.loc
 obtain ⟨sl,hL⟩:=u.any ho I.free fun z=>(hch _ z).2.1 rfl
 exact I.step (ch:=ch) hch (fun b o hL hb hc e n=>u.keep b o e n (fun z=>(List.mem_cons.mp (I.stkSub b z)).elim hL hb) hc) (fun b o _ _ hc e n=>u.any e n hc) (fun b o hc e n=>u.free b o e n hc) (fun b o hc e=>u.there b o e hc) u.tups u.frzs u.tbls (fun m' hm=>by
  obtain ⟨o',es',ep',ho',r'⟩:=hm
  rw [ho] at ho'; cases ho'
  exact ⟨_,es',ep',hL,r'⟩) hok hg
theorem Inv.turned {t':Nat} {it:Addr} (I:Inv X pins σ H s) (k:∀ b o,b ≠ it→s.heap.get? b = some o→h'.get? b = some o) (hn:H it = none) (hL:it ≠ X.env.locals)
  (h1:it ∈ X.ex ∨ X.s₀.heap.objs.size ≤ it) (h2:∀ x c,X.env.cells.lookup x = some c→c ≠ it) (h3:∀ p ∈ X.pn ++ pins,p.1 ≠ it):Inv X pins σ H { s with heap:=h',toks:=t' }:=by
 have nit:∀ b u,H b = some u→b ≠ it:=fun b u e z=>by rw [z,hn] at e; cases e
 refine I.step (g':=s.gens) (d':=s.drawn) (ch:=[it]) (fun b hb=>?_) (fun b o _ _ hc e _=>k b o (fun z=>hc (by simp [z])) e) (fun b o _ _ hc e _=>⟨o.slots,k b o (fun z=>hc (by simp [z])) e⟩) (fun _ _ _ _ n=>n)
  (fun b o hc e=>⟨o,k b o (fun z=>hc (by simp [z])) e⟩) (fun _ _ e=>e) (fun _ _ _ e=>e) (fun b ps e=>⟨#[],by rw [e]; simp⟩) (fun m hm=>?_) (fun b u e=>?_) I.bare
 ·have e:b = it:=by simpa using hb
  subst e
  exact ⟨h1,hL,h2,h3⟩
 ·obtain ⟨o,es,ep,ho,r⟩:=hm
  exact ⟨o,es,ep,k _ o (Ne.symm hL) ho,r⟩
 ·refine (I.hok b u e).stay (fun c v hc q=>k c v ?_ q) (fun _ q=>q) fun _ _ q=>q
  rcases hc with z | z
  ·rw [z]; exact nit b u e
  ·exact nit c _ z
theorem Inv.tok (I:Inv X pins σ H s) (t:Nat):Inv X pins σ H { s with toks:=t }:=I.un (h':=s.heap) (t':=t) Un.refl I.hok
theorem Inv.kept {t':Nat} (I:Inv X pins σ H s) (k:∀ b u,s.heap.get? b = some u→h'.get? b = some u):Inv X pins σ H { s with heap:=h',toks:=t' }:=I.un (Un.kept k) (I.hok.kept k)
theorem Inv.laid {a:Addr} {o:HO} {t':Nat} (I:Inv X pins σ H s) (k:∀ b u,s.heap.get? b = some u→h'.get? b = some u) (hp:s.heap.objs.size ≤ a) (new:jbn X.prog X.w (upd H a o) h' a o) :
  Inv X pins σ (upd H a o) { s with heap:=h',toks:=t' }:=I.un (Un.laid k hp (I.hok.fresh hp)) (I.hok.laid k hp new)
theorem Inv.write {x e:Addr} {o:HO} {t':Nat} (I:Inv X pins σ H s) (mu:Mut (H x)) (he:e = x ∨ H e = some (.own x)) (k:∀ b u,b ≠ e→s.heap.get? b = some u→h'.get? b = some u) (heo:∃ u,h'.get? e = some u)
  (new:jbn X.prog X.w (upd H x o) h' x o):Inv X pins σ (upd H x o) { s with heap:=h',toks:=t' }:=I.un (Un.write mu he k heo) (I.hok.write mu he k heo new)
theorem Inv.pins_of {pins':List (Addr × Obj)} (I:Inv X pins σ H s) (h:∀ p ∈ pins',s.heap.get? p.1 = some p.2∧H p.1 = none∧p.1 ≠ X.env.locals∧p.1 ∉ X.fs∧∀ v,p.2.data ≠ .cell v):Inv X pins' σ H s :=
 ⟨I.ok,I.os,I.bare,I.base,I.loc,I.cell,I.free,I.freeC,fun p hp=>(List.mem_append.mp hp).elim (fun z=>I.pin p (List.mem_append_left _ z)) (h p),I.hok,I.len⟩
theorem jj7 {N:List Str} (hN:N.Nodup) {i j:Nat} {x:Str} (a:N[i]? = some x) (b:N[j]? = some x):i = j:=by
 obtain ⟨h1,e1⟩:=List.getElem?_eq_some_iff.mp a
 obtain ⟨h2,e2⟩:=List.getElem?_eq_some_iff.mp b
 exact (List.getElem_inj hN).mp (e1.trans e2.symm)
theorem jgs {M:Model} {A:Around} {E:Value→Shared→Prop} {i:Nat} {x:Str} {v:V} {u:Value} {Q:Unit→Shared→Prop} (I:Inv X pins σ H s) (hN:X.N.Nodup) (hi:X.N[i]? = some x) (hx:Loc X.env.scope x) (r:RelV v u)
  (h:∀ s',Inv X pins (σ.set i (some v)) H s'→(∃ a,Heap.SameBut a s.heap s'.heap∧(a = X.env.locals ∨ X.env.cells.lookup x = some a))→Q () s') (hf:X.fn x = true ∨ X.env.scope.names.lookup x = some .local:=by first | exact .inl rfl | exact .inr rfl | assumption):wpAny M A (storeName X.env x u) Q E s:=by
 obtain ⟨m,hn,hl⟩:=id I.loc
 have hcls:(X.env.scope.kind == .class || (X.env.scope.kind == .module && X.env.locals != X.env.globals)) = false:=by rw [I.ok.kind]; rfl
 have hiσ:i < σ.length:=by rw [I.len]; exact (List.getElem?_eq_some_iff.mp hi).1
 have cne:=I.cne
 have tracked:∀ {a:Addr} {h':Heap},(∃ o,s.heap.get? a = some o∧H a = none)→Heap.SameBut a s.heap h'→HOk X.prog X.w H h':=fun {a h'} ha hs b ob e=>by
  obtain ⟨_,_,hfree⟩:=ha
  refine (I.hok b ob e).stay (fun c w' hc q=>(hs.2 c ?_).trans q) (fun _ q=>q) fun _ _ q=>q
  rintro rfl
  rcases hc with rfl | hc
  ·rw [hfree] at e; cases e
  ·rw [hfree] at hc; cases hc
 rcases hx with hk | hk
 ·refine wpAny_storeName_local hk hn (fun h' hn' hs=>?_) hcls
  obtain ⟨oL,_,_,hoL,_⟩:=id hn
  refine h _ ⟨I.ok,I.os,I.bare,⟨fun b o e n hb hx=>?_,fun b o e n hb hx=>?_,I.base.free,fun b o e hx=>?_,I.base.tups,I.base.frzs,I.base.tbls⟩,⟨_,hn',fun j y v' e1 e2 e3=>?_⟩,fun y c e=>?_,I.free,I.freeC,fun p hp=>?_,tracked ⟨oL,hoL,I.free⟩ hs,by simpa using I.len⟩ ⟨_,hs,.inl rfl⟩
  ·exact (hs.2 b (Nat.ne_of_lt (Nat.lt_of_lt_of_le (Heap.lt_size e) I.ok.above))).trans (I.base.keep b o e n hb hx)
  ·obtain ⟨sl,e1⟩:=I.base.slot b o e n hb hx
   exact ⟨sl,(hs.2 b (Nat.ne_of_lt (Nat.lt_of_lt_of_le (Heap.lt_size e) I.ok.above))).trans e1⟩
  ·obtain ⟨o',e1⟩:=I.base.there b o e hx
   exact ⟨o',(hs.2 b (Nat.ne_of_lt (Nat.lt_of_lt_of_le (Heap.lt_size e) I.ok.above))).trans e1⟩
  ·by_cases hj:j = i
   ·subst hj
    rw [hi] at e1; cases e1
    rw [List.getElem?_set_self hiσ] at e2
    cases e2
    exact ⟨u,r,.inl ⟨hk,by simp⟩⟩
   ·rw [List.getElem?_set_ne (Ne.symm hj)] at e2
    obtain ⟨u',r',q⟩:=hl j y v' e1 e2 e3
    refine ⟨u',r',?_⟩
    rcases q with ⟨k,e⟩ | ⟨k,c,e,z⟩
    ·refine .inl ⟨k,?_⟩
     have:y ≠ x:=fun e=>hj (jj7 hN e1 (e ▸ hi))
     simp [this,e]
    ·exact .inr ⟨k,c,e,z.sameBut hs (cne y c e)⟩
  ·obtain ⟨w',z⟩:=I.cell y c e
   exact ⟨w',z.sameBut hs (cne y c e)⟩
  ·obtain ⟨e,n,ne,nf,d⟩:=I.pin p hp
   exact ⟨(hs.2 p.1 ne).trans e,n,ne,nf,d⟩
 ·have hfn:X.fn x = true:=by
   rcases hf with z | z
   ·exact z
   ·rw [z] at hk; cases hk
  obtain ⟨c,hc⟩:=I.ok.has x (.inl hk)
  obtain ⟨w',z⟩:=I.cell x c hc
  refine wpAny_storeName_cell I.ok.kind hk hc z (fun h' hc' hs=>?_)
  obtain ⟨oc,hoc,hocd⟩:=id z
  refine h { s with heap:=h' } ⟨I.ok,I.os,I.bare,⟨fun b o e n hb hx=>?_,fun b o e n hb hx=>?_,I.base.free,fun b o e hx=>?_,I.base.tups,I.base.frzs,I.base.tbls⟩,⟨m,hn.sameBut hs (Ne.symm (cne x c hc)),fun j y v' e1 e2 e3=>?_⟩,fun y c' e=>?_,I.free,I.freeC,fun p hp=>?_,tracked ⟨oc,hoc,I.freeC x c hc⟩ hs,by simpa using I.len⟩ ⟨c,hs,.inr hc⟩
  ·exact (hs.2 b (Nat.ne_of_lt (Nat.lt_of_lt_of_le (Heap.lt_size e) (I.ok.cab x c hfn hc)))).trans (I.base.keep b o e n hb hx)
  ·obtain ⟨sl,e1⟩:=I.base.slot b o e n hb hx
   exact ⟨sl,(hs.2 b (Nat.ne_of_lt (Nat.lt_of_lt_of_le (Heap.lt_size e) (I.ok.cab x c hfn hc)))).trans e1⟩
  ·obtain ⟨o',e1⟩:=I.base.there b o e hx
   exact ⟨o',(hs.2 b (Nat.ne_of_lt (Nat.lt_of_lt_of_le (Heap.lt_size e) (I.ok.cab x c hfn hc)))).trans e1⟩
  ·by_cases hj:j = i
   ·subst hj
    rw [hi] at e1; cases e1
    rw [List.getElem?_set_self hiσ] at e2
    cases e2
    exact ⟨u,r,.inr ⟨.inl hk,c,hc,hc'⟩⟩
   ·rw [List.getElem?_set_ne (Ne.symm hj)] at e2
    obtain ⟨u',r',q⟩:=hl j y v' e1 e2 e3
    refine ⟨u',r',?_⟩
    rcases q with q | ⟨k,c',e,z'⟩
    ·exact .inl q
    ·refine .inr ⟨k,c',e,z'.sameBut hs ?_⟩
     rintro rfl
     exact hj (jj7 hN e1 (I.ok.inj _ _ _ e hc ▸ hi))
  ·by_cases hcc:c' = c
   ·subst hcc; exact ⟨_,hc'⟩
   ·obtain ⟨w2,z2⟩:=I.cell y c' e
    exact ⟨w2,z2.sameBut hs hcc⟩
  ·obtain ⟨e,n,ne,nf,d⟩:=I.pin p hp
   refine ⟨(hs.2 p.1 ?_).trans e,n,ne,nf,d⟩
   intro q
   rw [q,hoc] at e
   have q':oc = p.2:=Option.some.inj e
   exact d w' (by rw [← q']; exact hocd)
theorem jfq {M:Model} {A:Around} {E:Value→Shared→Prop} {i:Nat} {x:Str} {v:V} {u:Value} {Q:Unit→Shared→Prop} (I:Inv X pins σ H s) (hN:X.N.Nodup) (hi:X.N[i]? = some x) (hx:Loc X.env.scope x) (r:RelV v u)
  (h:∀ s',Inv X pins (σ.set i (some v)) H s'→Q () s') (hf:X.fn x = true ∨ X.env.scope.names.lookup x = some .local:=by first | exact .inl rfl | exact .inr rfl | assumption):wpAny M A (storeName X.env x u) Q E s :=
 jgs I hN hi hx r (fun s' I' _=>h s' I') hf
theorem Inv.call' {s':Shared} {ch:List Addr} (I:Inv X pins σ H s) (ho:s'.os = s.os) (u:Un (frs X.stack) ch H H' s.heap s'.heap) (hok:HOk X.prog X.w H' s'.heap) (hg:AllBare s'.gens)
  (hch:∀ b ∈ ch,(b ∈ X.ex ∨ X.s₀.heap.objs.size ≤ b)∧b ≠ X.env.locals∧(∀ x c,X.env.cells.lookup x = some c→c ≠ b)∧∀ p ∈ X.pn ++ pins,p.1 ≠ b):Inv X pins σ H' s':=by
 obtain ⟨h',g',d',t',o'⟩:=s'
 have e:o' = s.os:=ho
 subst e
 exact I.call (g':=g') (t':=t') (d':=d') u hok hg hch
end
abbrev XK:=Value→Option Addr→Hp→Prop
abbrev St:=List (Option V)
abbrev VK:=V→Hp→Prop
abbrev TE:=St→Hp→VK→Prop
abbrev TT:=St→Hp→(Bool→Hp→Prop)→Prop
abbrev TA:=St→Hp→(List V→Hp→Prop)→Prop
structure Ends where
 nx:St→Hp→Prop
 rt:VK
 bk:St→Hp→Prop:=fun _ _=>False
 ct:St→Hp→Prop:=fun _ _=>False
abbrev TS:=Ends→St→Hp→Prop
def EP (X:Cx) (pins:List (Addr × Obj)) (σ:St) (Q:VK) (u:Value) (s':Shared):Prop:=∃ v H',Inv X pins σ H' s'∧RelV v u∧Q v H'
def TP (X:Cx) (pins:List (Addr × Obj)) (σ:St) (Q:Bool→Hp→Prop) (b:Bool) (s':Shared):Prop:=∃ H',Inv X pins σ H' s'∧Q b H'
def AP (X:Cx) (pins:List (Addr × Obj)) (σ:St) (Q:List V→Hp→Prop) (us:List Value) (s':Shared):Prop:=∃ vs H',Inv X pins σ H' s'∧Vals vs us∧Q vs H'
def SP (X:Cx) (pins:List (Addr × Obj)) (D:Ends) (f:Flow) (s':Shared):Prop :=
 match f with
 | .next=>∃ σ' H',Inv X pins σ' H' s'∧D.nx σ' H'
 | .brk=>∃ σ' H',Inv X pins σ' H' s'∧D.bk σ' H'
 | .cont=>∃ σ' H',Inv X pins σ' H' s'∧D.ct σ' H'
 | .ret u=>∃ v σ' H',Inv X pins σ' H' s'∧RelV v u∧D.rt v H'
def PE (X:Cx) (e:Expr) (t:TE):Prop :=
 ∀ (pins:List (Addr × Obj)) (s:Shared) (σ:St) (H:Hp) (Q:VK),Inv X pins σ H s→t σ H Q→wpAny (model X.prog X.w) X.A (eval e X.env) (EP X pins σ Q) X.xe s
def PT (X:Cx) (e:Expr) (t:TT):Prop :=
 ∀ (pins:List (Addr × Obj)) (s:Shared) (σ:St) (H:Hp) (Q:Bool→Hp→Prop),Inv X pins σ H s→t σ H Q→wpAny (model X.prog X.w) X.A (isTrue e X.env (eval e X.env)) (TP X pins σ Q) X.xe s
def PW (X:Cx) (e:Expr) (t:TT):Prop :=
 ∀ (whole:Sem Value) (pins:List (Addr × Obj)) (s:Shared) (σ:St) (H:Hp) (Q:Bool→Hp→Prop),Inv X pins σ H s→t σ H Q→wpAny (model X.prog X.w) X.A (isTrue e X.env whole) (TP X pins σ Q) X.xe s
theorem PW.pt {X:Cx} {e:Expr} {t:TT} (h:PW X e t):PT X e t:=h _
def PA (X:Cx) (es:List Expr) (t:TA):Prop :=
 ∀ (pos:Pos) (pins:List (Addr × Obj)) (s:Shared) (σ:St) (H:Hp) (Q:List V→Hp→Prop),Inv X pins σ H s→t σ H Q→wpAny (model X.prog X.w) X.A (spliced (backTo pos (starEach es X.env))) (AP X pins σ Q) X.xe s
def PS (X:Cx) (st:Stmt) (t:TS):Prop :=
 ∀ (pins:List (Addr × Obj)) (s:Shared) (σ:St) (H:Hp) (D:Ends),Inv X pins σ H s→t D σ H→wpAny (model X.prog X.w) X.A (exec st X.env) (SP X pins D) X.xe s
def PSs (X:Cx) (st:List Stmt) (t:TS):Prop :=
 ∀ (pins:List (Addr × Obj)) (s:Shared) (σ:St) (H:Hp) (D:Ends),Inv X pins σ H s→t D σ H→wpAny (model X.prog X.w) X.A (execs st X.env) (SP X pins D) X.xe s
theorem thn {α:Type} {t:Sem α} {Q Q':α→Shared→Prop} {M:Model} {A:Around} {E:Value→Shared→Prop} {s:Shared} (h:wpAny M A t Q E s) (hQ:∀ a s,Q a s→Q' a s):wpAny M A t Q' E s:=wpAny_mono h hQ fun _ _ x=>x
end L2
namespace L2
open PySem PySem.Spec PyProof.Rows
section
variable {X:Cx}
def tVar (i:Nat):TE:=fun σ H Q=>∃ v,σ[i]? = some (some v)∧Q v H
def tC (v:V):TE:=fun _ H Q=>Q v H
theorem pe_var {i:Nat} {x:Str} {pos:Pos} (hN:X.N[i]? = some x) (hv:Vis X.env.scope x) (hd:(x == ("__debug__":Str)) = false:=by decide) (hcd:(x == ("__classdict__":Str)) = false:=by decide):PE X (.Name x pos) (tVar i):=by
 intro pins s σ H Q I h
 obtain ⟨v,e,h⟩:=h
 obtain ⟨m,hn,hl⟩:=I.loc
 obtain ⟨u,r,l⟩:=hl i x v hN e hv
 have fin:EP X pins σ Q u s:=⟨v,H,I,r,h⟩
 rcases l with ⟨hk,hm⟩ | ⟨hk,c,hc,hcell⟩
 ·exact wpAny_Name (wpAny_loadName_local I.ok.kind hk hn hm fin) hd
 ·rcases hk with hk | hk
  ·exact wpAny_Name (wpAny_loadName_cell I.ok.kind hk hc hcell fin) hd
  ·exact wpAny_Name (wpAny_loadName_free I.ok.kind hk hc hcell fin hcd) hd
theorem ja4 {i j pos}:PE X (.Constant (.int i) j pos) (tC (.int i)):=fun _ _ _ H _ I h=>wpAny_Constant_int ⟨.int i,H,I.tok _,⟨_,rfl⟩,h⟩
theorem jcv {b j pos}:PE X (.Constant (.bool b) j pos) (tC (.bl b)):=fun _ _ _ H _ I h=>Constant_bool ⟨.bl b,H,I,rfl,h⟩
def Gl (X:Cx) (x:Str):Prop:=X.env.kindOf x = some .globalImplicit
theorem jl6 {E:Value→Shared→Prop} {pins:List (Addr × Obj)} {s:Shared} {σ:St} {H:Hp} {x:Str} {u:Value} {pos:Pos} {Q:Value→Shared→Prop} (I:Inv X pins σ H s) (hg:Gl X x) (hm:X.mg x = some u) (h:Q u s)
  (hd:(x == ("__debug__":Str)) = false:=by decide):wpAny (model X.prog X.w) X.A (eval (.Name x pos) X.env) Q E s :=
 Calls.Name_function_global I.ok.kind hg (Calls.loadGlobal_global (by rw [I.ok.glob]; exact I.mod.glob.keeps I.bk) hm h) hd
theorem jek {E:Value→Shared→Prop} {pins:List (Addr × Obj)} {s:Shared} {σ:St} {H:Hp} {x:Str} {u:Value} {pos:Pos} {Q:Value→Shared→Prop} (I:Inv X pins σ H s) (hg:Gl X x) (hm:X.mg x = none) (hv:bootBuiltins x = some u) (h:Q u s)
  (hn:x ≠ "__name__":=by decide) (hd:(x == ("__debug__":Str)) = false:=by decide):wpAny (model X.prog X.w) X.A (eval (.Name x pos) X.env) Q E s:=by
 obtain ⟨mb,h1,h2⟩:=I.mod.blt
 exact Calls.Name_function_global I.ok.kind hg (Calls.loadGlobal_builtin (by rw [I.ok.glob]; exact I.mod.glob.keeps I.bk) hm (by rw [I.ok.blt]; exact h1.keeps I.bk) ((h2 x hn).trans hv) h) hd
theorem jea {x:Str} {v:V} {u:Value} {pos:Pos} (hg:Gl X x) (hm:X.mg x = some u) (r:RelV v u) (hd:(x == ("__debug__":Str)) = false:=by decide):PE X (.Name x pos) (tC v) :=
 fun _ _ _ H _ I h=>jl6 I hg hm ⟨v,H,I,r,h⟩ hd
theorem jc6 {x:Str} {v:V} {u:Value} {pos:Pos} (hg:Gl X x) (hm:X.mg x = none) (hv:bootBuiltins x = some u) (r:RelV v u) (hn:x ≠ "__name__":=by decide) (hd:(x == ("__debug__":Str)) = false:=by decide):PE X (.Name x pos) (tC v) :=
 fun _ _ _ H _ I h=>jek I hg hm hv ⟨v,H,I,r,h⟩ hn hd
variable {a b:Expr} {ta tb:TE} {pos:Pos}
def PC (X:Cx) (op:CmpOp) (a b:Expr) (t:TE):Prop :=
 ∀ (pins:List (Addr × Obj)) (s:Shared) (σ:St) (H:Hp) (Q:VK),Inv X pins σ H s→t σ H Q →
  wpAny (model X.prog X.w) X.A (eval a X.env) (fun v s₁=>wpAny (model X.prog X.w) X.A (eval b X.env) (fun u s₂=>wpAny (model X.prog X.w) X.A (compareOp op v u) (EP X pins σ Q) X.xe s₂) X.xe s₁) X.xe s
theorem jmq (b:Expr) {op:CmpOp} (h:op ≠ .In) (h2:op ≠ .NotIn):behindInMarks op b = false:=by
 have e1:(op == CmpOp.In) = false:=by cases op <;> first | rfl | exact absurd rfl h
 have e2:(op == CmpOp.NotIn) = false:=by cases op <;> first | rfl | exact absurd rfl h2
 cases b <;> simp [behindInMarks,e1,e2]
theorem jnn {op:CmpOp} {t:TE} (h:PC X op a b t) (h1:behindInMarks op b = false:=by first | exact jmq _ (by decide) (by decide) | rfl):PE X (.Compare a [op] [b] pos) t:=fun pins s σ H Q I hw=>wpAny_Compare1 (h pins s σ H Q I hw) h1
variable {tA tB':TT} {rest:List Expr}
def tAnd (t u:TT):TT:=fun σ H Q=>t σ H fun c H1=>if c = true then u σ H1 Q else Q false H1
def tOr (t u:TT):TT:=fun σ H Q=>t σ H fun c H1=>if c = true then Q true H1 else u σ H1 Q
def tNot (t:TT):TT:=fun σ H Q=>t σ H fun c H1=>Q (!c) H1
theorem jdj (ha:PT X a tA):PW X (.BoolOp .And [a] pos) tA:=by
 intro wh pins s σ H Q I h
 refine isTrue_and (thn (ha pins s σ H Q I h) fun c s1 e=>?_)
 cases c with
 | true=>exact isTrue_and_nil e
 | false=>exact e
theorem jcn (ha:PT X a tA):PW X (.BoolOp .Or [a] pos) tA:=by
 intro wh pins s σ H Q I h
 refine isTrue_or (thn (ha pins s σ H Q I h) fun c s1 e=>?_)
 cases c with
 | false=>exact isTrue_or_nil e
 | true=>exact e
theorem jf7 (ha:PT X a tA) (hb:PW X (.BoolOp .And (b :: rest) pos) tB'):PW X (.BoolOp .And (a :: b :: rest) pos) (tAnd tA tB'):=by
 intro wh pins s σ H Q I h
 refine isTrue_and (thn (ha pins s σ H _ I h) fun c s1 ⟨H1,I1,q1⟩=>?_)
 cases c with
 | true=>exact hb wh pins s1 σ H1 Q I1 q1
 | false=>exact ⟨H1,I1,q1⟩
theorem jd1 (ha:PT X a tA) (hb:PW X (.BoolOp .Or (b :: rest) pos) tB'):PW X (.BoolOp .Or (a :: b :: rest) pos) (tOr tA tB'):=by
 intro wh pins s σ H Q I h
 refine isTrue_or (thn (ha pins s σ H _ I h) fun c s1 ⟨H1,I1,q1⟩=>?_)
 cases c with
 | true=>exact ⟨H1,I1,q1⟩
 | false=>exact hb wh pins s1 σ H1 Q I1 q1
theorem jbj (ha:PT X a tA):PT X (.UnaryOp .Not a pos) (tNot tA):=by
 intro pins s σ H Q I h
 exact isTrue_not (ha pins s σ H (fun c H1=>Q (!c) H1) I h)
theorem je9 {op} {t:TE} (h:PE X a t):PE X (.BoolOp op [a] pos) t:=fun pins s σ H Q I hw=>BoolOp_one (h pins s σ H Q I hw)
def tIf (t:TT) (ta tb:TE):TE:=fun σ H Q=>t σ H fun c H1=>if c = true then ta σ H1 Q else tb σ H1 Q
end
end L2
namespace L2
open PySem PySem.Spec PyProof.Rows
def SqL (K:PySem.W.Frag) (H:Hp) (a:Addr) (xs:List V):Prop :=
 Rd H a (.lst xs) ∨
  ∃ (o:Obj) (its:Array Value) (n:Nat),K.lookup a = some o∧o.cls = .type "list"∧o.dict = none∧o.data = .seq its n∧its.size ≤ sizeLine∧Vals xs its.toList
def SqT (K:PySem.W.Frag) (H:Hp) (a:Addr) (xs:List V):Prop :=
 Rd H a (.tup xs) ∨
  ∃ (o:Obj) (its:Array Value) (n:Nat),K.lookup a = some o∧o.cls = .type "tuple"∧o.data = .seq its n∧its.size ≤ sizeLine∧Vals xs its.toList
def absV:Value→Option V
 | .none=>some .non
 | .bool b=>some (.bl b)
 | .int i _=>some (.int i)
 | .str x _=>some (.str x)
 | .bytes b _=>some (.byt b)
 | .float b _=>some (.flt b)
 | .ref a=>some (.ref a)
 | .type n=>some (.ty n)
 | _=>none
theorem RelV.abs {x:V} {u:Value} (r:RelV x u):absV u = some x:=by
 cases x with
 | non=>cases r; rfl
 | bl _=>cases r; rfl
 | int _=>obtain ⟨t,rfl⟩:=r; rfl
 | str _=>obtain ⟨t,rfl⟩:=r; rfl
 | byt _=>obtain ⟨t,rfl⟩:=r; rfl
 | flt _=>obtain ⟨t,rfl⟩:=r; rfl
 | ref _=>cases r; rfl
 | ty _=>cases r; rfl
theorem RelV.inj {x y:V} {u:Value} (r:RelV x u) (q:RelV y u):x = y:=Option.some.inj (r.abs.symm.trans q.abs)
theorem Vals.inj:∀ {xs ys:List V} {us:List Value},Vals xs us→Vals ys us→xs = ys
 | _,_,_,.nil,.nil=>rfl
 | _,_,_,.cons r t,.cons r' t'=>by rw [r.inj r',Vals.inj t t']
section
variable {X:Cx} {pins:List (Addr × Obj)} {σ:St} {H:Hp} {s:Shared} {a:Addr} {xs ys:List V}
theorem SqL.of {K:PySem.W.Frag} (h:H a = some (.lst xs)):SqL K H a xs:=.inl (.inl h)
theorem SqT.of {K:PySem.W.Frag} (h:H a = some (.tup xs)):SqT K H a xs:=.inl (.inl h)
theorem Inv.list (I:Inv X pins σ H s) (h:SqL X.K H a xs):∃ its:List Value,Vals xs its∧PlainL s.heap a its.toArray∧xs.length ≤ sizeLine:=by
 rcases h with h | ⟨o,its,n,hk,hc,hd,hs,hz,r⟩
 ·obtain ⟨z,its,n,r,e⟩:=h.ok I.hok
  exact ⟨its,r,⟨_,n,e,rfl,rfl,rfl⟩,z⟩
 ·refine ⟨its.toList,r,⟨o,n,I.kIn a o hk,hc,hd,by simpa using hs⟩,?_⟩
  have e:=r.length
  simp only [Array.length_toList] at e
  omega
theorem Inv.tuple (I:Inv X pins σ H s) (h:SqT X.K H a xs):∃ its:List Value,Vals xs its∧IsTup s.heap a its.toArray∧xs.length ≤ sizeLine:=by
 rcases h with h | ⟨o,its,n,hk,hc,hs,hz,r⟩
 ·obtain ⟨z,its,r,p⟩:=h.ok I.hok
  exact ⟨its,r,p,z⟩
 ·refine ⟨its.toList,r,⟨o,I.kIn a o hk,hc,n,by simpa using hs⟩,?_⟩
  have e:=r.length
  simp only [Array.length_toList] at e
  omega
theorem Inv.list_inj (I:Inv X pins σ H s) (h:SqL X.K H a xs) (h':SqL X.K H a ys):xs = ys:=by
 obtain ⟨its,r,⟨o,n,e,_,_,d⟩,_⟩:=I.list h
 obtain ⟨its',r',⟨o',n',e',_,_,d'⟩,_⟩:=I.list h'
 rw [e] at e'; cases e'
 rw [d] at d'
 injection d' with d1 _
 have:its = its':=by simpa using congrArg Array.toList d1
 subst this
 exact r.inj r'
theorem Inv.tuple_inj (I:Inv X pins σ H s) (h:SqT X.K H a xs) (h':SqT X.K H a ys):xs = ys:=by
 obtain ⟨its,r,⟨o,e,_,n,d⟩,_⟩:=I.tuple h
 obtain ⟨its',r',⟨o',e',_,n',d'⟩,_⟩:=I.tuple h'
 rw [e] at e'; cases e'
 rw [d] at d'
 injection d' with d1 _
 have:its = its':=by simpa using congrArg Array.toList d1
 subst this
 exact r.inj r'
end
abbrev Cx.wish (X:Cx) (E:Value→Shared→Prop):Cx:={ X with xe:=E }
abbrev Cx.nox (X:Cx):Cx:=X.wish fun _ _=>False
theorem Cx.Ok.wish {X:Cx} (ok:X.Ok) (E:Value→Shared→Prop):(X.wish E).Ok :=
 ⟨ok.mod,ok.kind,ok.glob,ok.blt,ok.above,ok.inj,ok.has,ok.cab,ok.hd,ok.frames,ok.stk,ok.exf,ok.bs,ok.bsz,ok.noex,ok.exfs,ok.funs,ok.frf⟩
theorem Cx.Ok.unwish {X:Cx} {E:Value→Shared→Prop} (ok:(X.wish E).Ok):X.Ok :=
 ⟨ok.mod,ok.kind,ok.glob,ok.blt,ok.above,ok.inj,ok.has,ok.cab,ok.hd,ok.frames,ok.stk,ok.exf,ok.bs,ok.bsz,ok.noex,ok.exfs,ok.funs,ok.frf⟩
section
variable {X:Cx} {pins:List (Addr × Obj)} {σ:St} {H:Hp} {s:Shared} {E:Value→Shared→Prop}
theorem Inv.wish (I:Inv X pins σ H s) (E:Value→Shared→Prop):Inv (X.wish E) pins σ H s:=⟨I.ok.wish E,I.os,I.bare,I.base,I.loc,I.cell,I.free,I.freeC,I.pin,I.hok,I.len⟩
theorem Inv.unwish (I:Inv (X.wish E) pins σ H s):Inv X pins σ H s:=⟨I.ok.unwish,I.os,I.bare,I.base,I.loc,I.cell,I.free,I.freeC,I.pin,I.hok,I.len⟩
theorem SP.unwish {D:Ends} {f:Flow} {s':Shared} (h:SP (X.wish E) pins D f s'):SP X pins D f s':=by
 cases f with
 | next=>obtain ⟨σ',H',I,q⟩:=h; exact ⟨σ',H',I.unwish,q⟩
 | brk=>obtain ⟨σ',H',I,q⟩:=h; exact ⟨σ',H',I.unwish,q⟩
 | cont=>obtain ⟨σ',H',I,q⟩:=h; exact ⟨σ',H',I.unwish,q⟩
 | ret u=>obtain ⟨v,σ',H',I,r,q⟩:=h; exact ⟨v,σ',H',I.unwish,r,q⟩
theorem PSs.nox {st:List Stmt} {t:TS} (h:PSs X.nox st t):PSs X st t:=fun pins s σ H D I hw =>
 wpAny_mono (h pins s σ H D (I.wish _) hw) (fun _ _ q=>q.unwish) fun _ _ z=>False.elim z
end
section
variable {X:Cx} {st:Stmt} {rest:List Stmt} {t u:TS} {e:Expr} {te:TE} {pos:Pos}
def jo8:TS:=fun D σ H=>D.nx σ H
def tSeq (t u:TS):TS:=fun D σ H=>t { D with nx:=u D } σ H
theorem jao:PSs X [] jo8:=fun _ _ σ H _ I h=>wpAny_execs_nil ⟨σ,H,I,h⟩
theorem ja5 (h1:PS X st t) (h2:PSs X rest u):PSs X (st :: rest) (tSeq t u):=by
 intro pins s σ H D I h
 refine wpAny_execs_cons (thn (h1 pins s σ H { D with nx:=u D } I h) fun f s1 q=>?_)
 cases f with
 | next =>
  obtain ⟨σ',H',I',q⟩:=q
  exact h2 pins s1 σ' H' D I' q
 | ret v=>exact q
 | brk=>exact q
 | cont=>exact q
theorem ja7 (h1:PS X st t):PSs X [st] t:=by
 intro pins s σ H D I h
 refine wpAny_execs_cons (thn (h1 pins s σ H D I h) fun f s1 q=>?_)
 cases f with
 | next=>exact wpAny_execs_nil q
 | ret v=>exact q
 | brk=>exact q
 | cont=>exact q
theorem Inv.quiet {pins:List (Addr × Obj)} {σ:St} {H:Hp} {s:Shared} (I:Inv X pins σ H s):interactive X.env = false:=by simp [interactive,I.ok.kind]
def jo9 (te:TE):TS:=fun D σ H=>te σ H fun _ H1=>D.nx σ H1
theorem jbm (he:PE X e te) (hs:swapsWith e none pos.line X.env = pure false:=by rfl):PS X (.Expr e pos) (jo9 te):=by
 intro pins s σ H D I h
 exact wpAny_Expr_any (thn (he pins s σ H _ I h) fun v s1 ⟨x,H1,I1,r1,q1⟩=>⟨σ,H1,I1,q1⟩) I.quiet hs
def tRet (te:TE):TS:=fun D σ H=>te σ H D.rt
theorem jak (he:PE X e te):PS X (.Return (some e) pos) (tRet te):=by
 intro pins s σ H D I h
 exact wpAny_Return_some (thn (he pins s σ H _ I h) fun v s1 ⟨x,H1,I1,r1,q1⟩=>⟨x,σ,H1,I1,r1,q1⟩)
def tRetN:TS:=fun D _ H=>D.rt .non H
def tIfS (c:TT) (t u:TS):TS:=fun D σ H=>c σ H fun b H1=>if b = true then t D σ H1 else u D σ H1
theorem jbf {c:Expr} {a b:List Stmt} {tc:TT} (hc:PT X c tc) (ha:PSs X a t) (hb:PSs X b u):PS X (.If c a b pos) (tIfS tc t u):=by
 intro pins s σ H D I h
 refine wpAny_If (thn (hc pins s σ H _ I h) fun d s1 ⟨H1,I1,q1⟩=>?_)
 cases d with
 | true=>exact ha pins s1 σ H1 D I1 q1
 | false=>exact hb pins s1 σ H1 D I1 q1
def jnb:TS:=fun _ _ _=>False
theorem jd8:PS X st jnb:=fun _ _ _ _ _ _ h=>h.elim
theorem jkv {sts:List Stmt}:PSs X sts jnb:=fun _ _ _ _ _ _ h=>h.elim
end
abbrev TG:=V→St→Hp→(St→Hp→Prop)→Prop
abbrev TGs:=List V→St→Hp→(St→Hp→Prop)→Prop
def PG (X:Cx) (target:Expr) (t:TG):Prop :=
 ∀ (pins:List (Addr × Obj)) (s:Shared) (σ:St) (H:Hp) (v:V) (u:Value) (Q:St→Hp→Prop),Inv X pins σ H s→RelV v u→t v σ H Q →
  wpAny (model X.prog X.w) X.A (assign target X.env u) (fun _ s'=>∃ σ' H',Inv X pins σ' H' s'∧Q σ' H') X.xe s
def PGs (X:Cx) (ts:List Expr) (t:TGs):Prop :=
 ∀ (pins:List (Addr × Obj)) (s:Shared) (σ:St) (H:Hp) (vs:List V) (us:List Value) (Q:St→Hp→Prop),Inv X pins σ H s→Vals vs us→t vs σ H Q →
  wpAny (model X.prog X.w) X.A (assignInOrder ((assignEach ts X.env).map (·.2)) us) (fun _ s'=>∃ σ' H',Inv X pins σ' H' s'∧Q σ' H') X.xe s
abbrev TSet:=V→V→V→Hp→(Hp→Prop)→Prop
def PSet (X:Cx) (t:TSet):Prop :=
 ∀ (pins:List (Addr × Obj)) (s:Shared) (σ:St) (H:Hp) (o i v:V) (ov iv u:Value) (Q:Hp→Prop),Inv X pins σ H s→RelV o ov→RelV i iv→RelV v u→t o i v H Q →
  wpAny (model X.prog X.w) X.A (setItem ov iv u) (fun _ s'=>∃ H',Inv X pins σ H' s'∧Q H') X.xe s
abbrev TIp:=V→V→Hp→VK→Prop
def PIp (X:Cx) (op:Operator) (t:TIp):Prop :=
 ∀ (pins:List (Addr × Obj)) (s:Shared) (σ:St) (H:Hp) (x y:V) (v u:Value) (Q:VK),Inv X pins σ H s→RelV x v→RelV y u→t x y H Q →
  wpAny (model X.prog X.w) X.A (inplaceOp op v u) (EP X pins σ Q) X.xe s
section
variable {X:Cx} {pos:Pos}
def jg8 (i:Nat):TG:=fun v σ H Q=>Q (σ.set i (some v)) H
theorem jae {i:Nat} {x:Str} (hN:X.N.Nodup) (hi:X.N[i]? = some x) (hx:Loc X.env.scope x) (hf:X.fn x = true ∨ X.env.scope.names.lookup x = some .local:=by first | exact .inl rfl | exact .inr rfl | assumption):PG X (.Name x pos) (jg8 i):=by
 intro pins s σ H v u Q I r h
 exact wpAny_assign_Name (jfq I hN hi hx r (fun s' I'=>⟨_,H,I',h⟩) hf)
def gNil:TGs:=fun vs σ H Q=>vs = []∧Q σ H
def gCons (t:TG) (u:TGs):TGs:=fun vs σ H Q=>∃ v r,vs = v :: r∧t v σ H fun σ' H'=>u r σ' H' Q
theorem jom:PGs X [] gNil:=by
 intro pins s σ H vs us Q I r h
 obtain ⟨e,h⟩:=h
 subst e
 cases r
 exact assignInOrder_nil ⟨σ,H,I,h⟩
theorem jmm {e:Expr} {es:List Expr} {t:TG} {u:TGs} (h1:PG X e t) (h2:PGs X es u)
  (hs:(assignEach (e :: es) X.env).map (·.2) = assign e X.env :: (assignEach es X.env).map (·.2):=by rfl):PGs X (e :: es) (gCons t u):=by
 intro pins s σ H vs us Q I r h
 obtain ⟨v,vr,e1,h⟩:=h
 subst e1
 cases r with
 | cons r rr =>
  rw [hs]
  refine assignInOrder_cons (thn (h1 pins s σ H _ _ _ I r h) fun _ s1 ⟨σ1,H1,I1,q1⟩=>?_)
  exact h2 pins s1 σ1 H1 _ _ Q I1 rr q1
def gTup (K:PySem.W.Frag) (n:Nat) (t:TGs):TG:=fun v σ H Q=>∃ a xs,v = .ref a∧SqT K H a xs∧xs.length = n∧t xs σ H Q
theorem pg_tup {es:List Expr} {k:Nat} {t:TGs} {n:Nat} (hc:X.calm = true) (h:PGs X es t)
  (hn:(assignEach es X.env).length = n:=by rfl) (hst:(assignEach es X.env).findIdx? (·.1) = none:=by rfl):PG X (.Tuple es k pos) (gTup X.K n t):=by
 intro pins s σ H v u Q I r hw
 obtain ⟨a,xs,e1,hq,hl,hw⟩:=hw
 subst e1
 cases r
 obtain ⟨its,rv,ht,hz⟩:=I.tuple hq
 refine assign_Tuple_tuple (I.ok.hd hc) ht (by simp [hn,← hl,rv.length]) hst fun h' hx=>?_
 have I1:Inv X pins σ H { s with heap:=h' }:=I.kept (t':=s.toks) fun b o e=>hx b o (Nat.ne_of_lt (Heap.lt_size e)) e
 exact h pins _ σ H xs _ Q I1 (by simpa using rv) hw
def gSub (to ti:TE) (t:TSet):TG:=fun v σ H Q=>to σ H fun o H1=>ti σ H1 fun i H2=>t o i v H2 fun H3=>Q σ H3
theorem jh3 {o i:Expr} {to ti:TE} {t:TSet} (ho:PE X o to) (hi:PE X i ti) (hs:PSet X t)
  (ha:∀ v,assign (.Subscript o i pos) X.env v = (do
   let ov ← holding [v] (eval o X.env)
   let iv ← holding [v,ov] (eval i X.env)
   standAt pos
   holding [v,ov,iv] (setItem ov iv v)
   release [v,ov,iv] []):=by intro _; rfl):PG X (.Subscript o i pos) (gSub to ti t):=by
 intro pins s σ H v u Q I r h
 rw [ha]
 refine wpAny_bind (wpAny_holding (thn (ho pins s σ H _ I h) fun ov s1 ⟨x,H1,I1,r1,q1⟩=>?_))
 refine wpAny_bind (wpAny_holding (thn (hi pins s1 σ H1 _ I1 q1) fun iv s2 ⟨y,H2,I2,r2,q2⟩=>?_))
 refine wpAny_bind (wpAny_standAt (wpAny_bind (wpAny_holding (thn (hs pins s2 σ H2 x y v ov iv u _ I2 r1 r2 r q2) fun _ s3 ⟨H3,I3,q3⟩=>?_))))
 exact wpAny_release ⟨σ,H3,I3,q3⟩
def tAsg (te:TE) (g:TG):TS:=fun D σ H=>te σ H fun x H1=>g x σ H1 D.nx
theorem jf8 {tg e:Expr} {te:TE} {g:TG} (he:PE X e te) (hg:PG X tg g) (hs:swapsWithSole [tg] e pos.line X.env = pure false:=by rfl) (hw:swappedStores [tg] e X.env = pure none:=by rfl)
  (h1:(assignEach [tg] X.env).map (·.2) = [assign tg X.env]:=by rfl):PS X (.Assign [tg] e pos) (tAsg te g):=by
 intro pins s σ H D I h
 refine wpAny_Assign_stores (thn (he pins s σ H _ I h) fun v s1 ⟨x,H1,I1,r1,q1⟩=>?_) hs hw
 rw [h1]
 exact thn (hg pins s1 σ H1 x v _ I1 r1 q1) fun _ s2 q=>q
theorem jaj {i:Nat} {x:Str} {e:Expr} {te:TE} {pos':Pos} (hN:X.N.Nodup) (hi:X.N[i]? = some x) (hx:Loc X.env.scope x) (he:PE X e te) (hs:swapsWith e (some (.Name x pos')) pos.line X.env = pure false:=by rfl) (hf:X.fn x = true ∨ X.env.scope.names.lookup x = some .local:=by first | exact .inl rfl | exact .inr rfl | assumption) :
  PS X (.Assign [.Name x pos'] e pos) (tAsg te (jg8 i)):=by
 intro pins s σ H D I h
 refine wpAny_Assign_Name (thn (he pins s σ H _ I h) fun v s1 ⟨y,H1,I1,r1,q1⟩=>?_) hs
 exact jfq I1 hN hi hx r1 (fun s2 I2=>⟨_,H1,I2,q1⟩) hf
def tAug (i:Nat) (te:TE) (ti:TIp):TS:=fun D σ H=>∃ x,σ[i]? = some (some x)∧te σ H fun y H1=>ti x y H1 fun z H2=>D.nx (σ.set i (some z)) H2
theorem ps_aug {i:Nat} {x:Str} {e:Expr} {te:TE} {op:Operator} {ti:TIp} {pos':Pos} (hN:X.N.Nodup) (hi:X.N[i]? = some x) (hx:Loc X.env.scope x) (he:PE X e te) (ho:PIp X op ti) (hf:X.fn x = true ∨ X.env.scope.names.lookup x = some .local:=by first | exact .inl rfl | exact .inr rfl | assumption) :
  PS X (.AugAssign (.Name x pos') op e pos) (tAug i te ti):=by
 intro pins s σ H D I h
 obtain ⟨v,e1,h⟩:=h
 obtain ⟨m,hn,hl⟩:=I.loc
 have vis:Vis X.env.scope x:=by rcases hx with k | k; exact .inl k; exact .inr (.inl k)
 obtain ⟨u,r,l⟩:=hl i x v hi e1 vis
 refine wpAny_AugAssign_Name ?_
 have go:wpAny (model X.prog X.w) X.A (eval e X.env) (fun w s₂=>wpAny (model X.prog X.w) X.A (inplaceOp op u w) (fun r s₃=>wpAny (model X.prog X.w) X.A (storeName X.env x r) (fun _=>SP X pins D .next) X.xe s₃) X.xe s₂) X.xe s:=by
  refine thn (he pins s σ H _ I h) fun w s1 ⟨y,H1,I1,r1,q1⟩=>?_
  refine thn (ho pins s1 σ H1 v y u w _ I1 r r1 q1) fun z s2 ⟨zv,H2,I2,r2,q2⟩=>?_
  exact jfq I2 hN hi hx r2 (fun s3 I3=>⟨_,H2,I3,q2⟩) hf
 rcases l with ⟨hk,hm⟩ | ⟨hk,c,hc,hcell⟩
 ·exact wpAny_loadName_local I.ok.kind hk hn hm go
 ·rcases hk with hk | hk
  ·exact wpAny_loadName_cell I.ok.kind hk hc hcell go
  ·rcases hx with k | k
   ·have:X.env.scope.names.lookup x = some .free:=hk
    rw [k] at this; cases this
   ·have:X.env.scope.names.lookup x = some .free:=hk
    rw [k] at this; cases this
end
section
variable {X:Cx} {pos:Pos}
def tWhile (c:TT) (tb:TS):TS:=fun D σ H=>∃ W:Nat→St→Hp→Prop,(∃ m,W m σ H)∧∀ m σ H,W m σ H →
 c σ H fun b H1=>if b = true then ∃ N:St→Hp→Prop,(∀ σ' H',N σ' H'→∃ m',m' < m∧W m' σ' H')∧tb { D with nx:=N,ct:=N,bk:=D.nx } σ H1 else D.nx σ H1
theorem jml {c:Expr} {body:List Stmt} {tc:TT} {tb:TS} (hp:PassesOwn (model X.prog X.w) X.A X.env X.xe) (hc:PT X c tc) (hb:PSs X body tb):PS X (.While c body [] pos) (tWhile tc tb):=by
 intro pins s σ H D I h
 obtain ⟨W,⟨m0,w0⟩,turn⟩:=h
 refine wpAny_While (codeAny_whileLoop (fun n s'=>∃ σ' H',Inv X pins σ' H' s'∧W n σ' H') ?_ m0 ⟨σ,H,I,w0⟩)
 rintro n s1 ⟨σ1,H1,I1,w1⟩
 refine wpAny_passesOwn hp (thn (hc pins s1 σ1 H1 _ I1 (turn n σ1 H1 w1)) fun b s2 ⟨H2,I2,q2⟩=>?_)
 cases b with
 | true =>
  obtain ⟨N,hN,q2⟩:=q2
  rw [if_pos rfl]
  refine wpAny_passesOwn hp (thn (hb pins s2 σ1 H2 _ I2 q2) fun f s3 q3=>?_)
  cases f with
  | next =>
   obtain ⟨σ3,H3,I3,n3⟩:=q3
   obtain ⟨m',hm,w3⟩:=hN σ3 H3 n3
   exact ⟨m',hm,σ3,H3,I3,w3⟩
  | cont =>
   obtain ⟨σ3,H3,I3,n3⟩:=q3
   obtain ⟨m',hm,w3⟩:=hN σ3 H3 n3
   exact ⟨m',hm,σ3,H3,I3,w3⟩
  | brk=>exact q3
  | ret v=>exact q3
 | false =>
  rw [if_neg Bool.false_ne_true]
  exact wpAny_execs_nil ⟨σ1,H2,I2,q2⟩
end
structure It where
 go:Nat→Hp→Prop
 yld:Nat→Hp→V→Hp→Prop
 stop:Nat→Hp→Prop
def FpOk (X:Cx) (pins:List (Addr × Obj)) (H:Hp) (b:Addr):Prop :=
 H b = none∧b ≠ X.env.locals∧b ∉ X.fs∧(b ∈ X.ex ∨ X.s₀.heap.objs.size ≤ b)∧(∀ x c,X.env.cells.lookup x = some c→c ≠ b)∧∀ p ∈ X.pn ++ pins,p.1 ≠ b
theorem Inv.fpOk {X:Cx} {pins:List (Addr × Obj)} {σ:St} {H H':Hp} {s:Shared} {b:Addr} (I:Inv X pins σ H s) (hb:s.heap.objs.size ≤ b) (hn:H' b = none):FpOk X pins H' b:=by
 refine ⟨hn,Nat.ne_of_gt (Nat.lt_of_lt_of_le I.lt hb),I.nofs hb,.inr (Nat.le_trans I.sz hb),fun x c e z=>?_,fun p hp z=>?_⟩
 ·obtain ⟨v,q⟩:=I.cell x c e
  exact absurd (Nat.lt_of_lt_of_le q.lt (by rw [z]; exact hb)) (Nat.lt_irrefl _)
 ·exact absurd (Nat.lt_of_lt_of_le (Heap.lt_size (I.pin p hp).1) (by rw [z]; exact hb)) (Nat.lt_irrefl _)
structure Turn (P:Program) (w:World) (K:PySem.W.Frag) (tg:Expr) (J:It) (fp:List Addr) (it:Addr) (tn:Nat→Heap→Prop):Prop where
 mem:it ∈ fp
 obj:∀ i h,tn i h→∀ b ∈ fp,∃ o,h.get? b = some o∧∀ v,o.data ≠ .cell v
 keep:∀ i h h',tn i h→(∀ b ∈ fp,∀ o,h.get? b = some o→h'.get? b = some o)→tn i h'
 item:∀ (X:Cx),X.prog = P→X.w = w→X.K = K→X.calm = true→∀ (i:Nat) (pins:List (Addr × Obj)) (s:Shared) (σ:St) (H:Hp) (E:Value→Shared→Prop),Inv X pins σ H s→(∀ b ∈ fp,FpOk X pins H b)→tn i s.heap→J.go i H →
  wpAny (model P w) X.A (pyNext (.ref it)) (fun r s1=>∃ u,r = some u ∧
   wpAny (model P w) X.A (letOwnedTupleGo tg (.ref it) u) (fun _ s2=>∃ x H',Inv X pins σ H' s2∧RelV x u∧J.yld i H x H'∧tn (i + 1) s2.heap∧∀ b ∈ fp,H' b = none) E s1) E s
 done:∀ (X:Cx),X.prog = P→X.w = w→X.K = K→X.calm = true→∀ (i:Nat) (pins:List (Addr × Obj)) (s:Shared) (σ:St) (H:Hp) (E:Value→Shared→Prop),Inv X pins σ H s→(∀ b ∈ fp,FpOk X pins H b)→tn i s.heap→J.stop i H →
  wpAny (model P w) X.A (pyNext (.ref it)) (fun r s1=>r = none∧Inv X pins σ H s1) E s
 self:∀ (A:Around) (i:Nat) (s:Shared) (Q:Value→Shared→Prop) (E:Value→Shared→Prop),tn i s.heap→Q (.ref it) s→wpAny (model P w) A (pyIter (.ref it)) Q E s
abbrev TI:=St→Hp→(It→Hp→Prop)→Prop
def PIE (X:Cx) (pins:List (Addr × Obj)) (σ:St) (tg:Expr) (R:It→Hp→Prop) (itv:Value) (s2:Shared):Prop :=
 ∃ (it:Addr) (fp:List Addr) (tn:Nat→Heap→Prop) (J:It) (H':Hp),itv = .ref it∧Inv X pins σ H' s2∧Turn X.prog X.w X.K tg J fp it tn∧tn 0 s2.heap∧(∀ b ∈ fp,FpOk X pins H' b)∧R J H'
def PI (X:Cx) (tg iter:Expr) (wi:TI):Prop :=
 ∀ (pins:List (Addr × Obj)) (s:Shared) (σ:St) (H:Hp) (R:It→Hp→Prop),Inv X pins σ H s→wi σ H R →
  wpAny (model X.prog X.w) X.A (eval iter X.env) (fun v s1=>wpAny (model X.prog X.w) X.A (pyIter v) (PIE X pins σ tg R) X.xe s1) X.xe s
theorem jmz {M:Model} {A:Around} {E:Value→Shared→Prop} {s:Shared} {tg:Expr} {it:Addr} {u:Value} {o:Obj} {n:String} {vs:Array Value} {Q:Unit→Shared→Prop} (ho:s.heap.get? it = some o) (hc:o.cls = .type n) (hd:o.data = .fields vs)
    (hn:["enumerate","zip","dict_itemiterator","dict_reverseitemiterator","odict_iterator","itertools.zip_longest","itertools.pairwise"].contains n = false) (hQ:Q () s):wpAny M A (letOwnedTupleGo tg (.ref it) u) Q E s:=by
  unfold letOwnedTupleGo
  cases tg <;> first
    | exact wpAny_pure hQ
    | (cases u <;> first
        | exact wpAny_pure hQ
        | (refine wpAny_bind (wpAny_load ho ?_)
           rw [hc,hd]
           show wpAny M A (if (["enumerate","zip","dict_itemiterator","dict_reverseitemiterator","odict_iterator","itertools.zip_longest","itertools.pairwise"].contains n && vs[0]? == some (rawInt _)) = true then _ else _) Q E s
           rw [if_neg (by intro h; rw [hn,Bool.false_and] at h; cases h)]
           exact wpAny_pure hQ))
def Itl (K:PySem.W.Frag) (a:Addr):It :=
 ⟨fun i H=>∃ xs x,SqL K H a xs∧xs[i]? = some x,fun i H x H'=>H' = H∧∀ xs,SqL K H a xs→xs[i]? = some x,fun i H=>∃ xs,SqL K H a xs∧xs.length ≤ i⟩
def Itt (K:PySem.W.Frag) (a:Addr):It :=
 ⟨fun i H=>∃ xs x,SqT K H a xs∧xs[i]? = some x,fun i H x H'=>H' = H∧∀ xs,SqT K H a xs→xs[i]? = some x,fun i H=>∃ xs,SqT K H a xs∧xs.length ≤ i⟩
def Itr (lo:Int) (n:Nat):It:=⟨fun i _=>i < n,fun i H x H'=>H' = H∧x = .int (lo + i),fun i _=>n ≤ i⟩
theorem jk6 {P:Program} {w:World} {K:PySem.W.Frag} {tg:Expr} (a it:Addr):Turn P w K tg (Itl K a) [it] it (fun i h=>h.IsListIter it a i) where
 mem:=by simp
 obj:=fun i h st b hb=>by
  have e:b = it:=by simpa using hb
  subst e
  obtain ⟨o,e,c,d⟩:=st
  exact ⟨o,e,fun v z=>by rw [d] at z; cases z⟩
 keep:=fun i h h' st k=>st.at fun o e=>k it (by simp) o e
 item:=by
  intro X hP hw hK hc i pins s σ H E I hf st hg
  subst hP hw hK
  obtain ⟨xs,x,hq,hx⟩:=hg
  obtain ⟨its,rv,p,hz⟩:=I.list hq
  obtain ⟨u,hu,ru⟩:=rv.get hx
  obtain ⟨f0,f1,f2,f3,f4,f5⟩:=hf it (by simp)
  refine wpAny_pyNext_list_item st p.isList (x:=u) (by simpa using hu) fun h' st' sb=>?_
  have I1:Inv X pins σ H { s with heap:=h' }:=I.turned (t':=s.toks) (fun b o hb e=>(sb.2 b hb).trans e) f0 f1 f3 f4 f5
  obtain ⟨o,e,c,d⟩:=id st'
  exact ⟨u,rfl,jmz (s:={ s with heap:=h' }) e c d (by decide) ⟨x,H,I1,ru,⟨rfl,fun ys hy=>by rw [I.list_inj hy hq]; exact hx⟩,st',fun b hb=>(hf b hb).1⟩⟩
 done:=by
  intro X hP hw hK hc i pins s σ H E I hf st hg
  subst hP hw hK
  obtain ⟨xs,hq,hx⟩:=hg
  obtain ⟨its,rv,p,hz⟩:=I.list hq
  obtain ⟨f0,f1,f2,f3,f4,f5⟩:=hf it (by simp)
  have hl:=rv.length
  exact wpAny_pyNext_list_end (I.ok.hd hc) st p.isList (by simp; omega) fun h' eb=>⟨rfl,I.turned (t':=s.toks) (fun b o hb e=>eb b o hb e) f0 f1 f3 f4 f5⟩
 self:=fun _ _ _ _ _ st h=>wpAny_pyIter_listiter st h
theorem jjl {P:Program} {w:World} {K:PySem.W.Frag} {tg:Expr} (a it:Addr):Turn P w K tg (Itt K a) [it] it (fun i h=>h.IsTupleIter it a i) where
 mem:=by simp
 obj:=fun i h st b hb=>by
  have e:b = it:=by simpa using hb
  subst e
  obtain ⟨o,e,c,d⟩:=st
  exact ⟨o,e,fun v z=>by rw [d] at z; cases z⟩
 keep:=fun i h h' st k=>st.at fun o e=>k it (by simp) o e
 item:=by
  intro X hP hw hK hc i pins s σ H E I hf st hg
  subst hP hw hK
  obtain ⟨xs,x,hq,hx⟩:=hg
  obtain ⟨its,rv,p,hz⟩:=I.tuple hq
  obtain ⟨u,hu,ru⟩:=rv.get hx
  obtain ⟨f0,f1,f2,f3,f4,f5⟩:=hf it (by simp)
  refine wpAny_pyNext_tuple_item st (show s.heap.IsTuple a its.toArray from p) (x:=u) (by simpa using hu) fun h' st' sb=>?_
  have I1:Inv X pins σ H { s with heap:=h' }:=I.turned (t':=s.toks) (fun b o hb e=>(sb.2 b hb).trans e) f0 f1 f3 f4 f5
  obtain ⟨o,e,c,d⟩:=id st'
  exact ⟨u,rfl,jmz (s:={ s with heap:=h' }) e c d (by decide) ⟨x,H,I1,ru,⟨rfl,fun ys hy=>by rw [I.tuple_inj hy hq]; exact hx⟩,st',fun b hb=>(hf b hb).1⟩⟩
 done:=by
  intro X hP hw hK hc i pins s σ H E I hf st hg
  subst hP hw hK
  obtain ⟨xs,hq,hx⟩:=hg
  obtain ⟨its,rv,p,hz⟩:=I.tuple hq
  obtain ⟨f0,f1,f2,f3,f4,f5⟩:=hf it (by simp)
  have hl:=rv.length
  exact wpAny_pyNext_tuple_end (I.ok.hd hc) st (show s.heap.IsTuple a its.toArray from p) (by simp; omega) fun h' eb=>⟨rfl,I.turned (t':=s.toks) (fun b o hb e=>eb b o hb e) f0 f1 f3 f4 f5⟩
 self:=fun _ _ _ _ _ st h=>wpAny_pyIter_tupleiter st h
theorem jjm {P:Program} {w:World} {K:PySem.W.Frag} {tg:Expr} (it:Addr) (lo:Int) (n:Nat):Turn P w K tg (Itr lo n) [it] it (fun i h=>IsRangeIter h it (lo + (i:Nat) * 1) ((n:Int) - (i:Nat)) 1) where
 mem:=by simp
 obj:=fun i h st b hb=>by
  have e:b = it:=by simpa using hb
  subst e
  exact ⟨_,st,fun v z=>by
   have z':Data.fields _ = Data.cell v:=z
   cases z'⟩
 keep:=fun i h h' st k=>k it (by simp) _ st
 item:=by
  intro X hP hw hK hc i pins s σ H E I hf st hg
  subst hP hw hK
  obtain ⟨f0,f1,f2,f3,f4,f5⟩:=hf it (by simp)
  have W:=Walks.range (prog:=X.prog) (w:=X.w) (I.ok.hd hc) it lo 1 n
  refine W.item i s _ _ hg st fun v h' tk hv st' kk=>?_
  obtain ⟨t,rfl⟩:=hv
  have I1:Inv X pins σ H { s with heap:=h',toks:=tk }:=I.turned (fun b o hb e=>kk b o (by simpa using hb) e) f0 f1 f3 f4 f5
  refine ⟨_,rfl,jmz (s:={ s with heap:=h',toks:=tk }) (n:="range_iterator") st' rfl rfl (by decide) ⟨.int (lo + i),H,I1,⟨t,?_⟩,⟨rfl,rfl⟩,st',fun b hb=>(hf b hb).1⟩⟩
  rw [Int.mul_one]
 done:=by
  intro X hP hw hK hc i pins s σ H E I hf st hg
  subst hP hw hK
  obtain ⟨f0,f1,f2,f3,f4,f5⟩:=hf it (by simp)
  exact wpAny_pyNext_range_end (I.ok.hd hc) st (by have:n ≤ i:=hg; omega) fun h' eb=>⟨rfl,I.turned (t':=s.toks) (fun b o hb e=>eb b o hb e) f0 f1 f3 f4 f5⟩
 self:=fun _ _ _ _ _ st h=>wpAny_pyIter_rangeiter st h
end L2
namespace L2
open PySem PySem.Spec PyProof.Rows
section
variable {X:Cx} {tg:Expr}
def jc1 (K:PySem.W.Frag) (tl:TE):TI:=fun σ H R=>tl σ H fun x H1=>∃ a,x = .ref a∧(∃ xs,SqL K H1 a xs)∧R (Itl K a) H1
def iTup (K:PySem.W.Frag) (tl:TE):TI:=fun σ H R=>tl σ H fun x H1=>∃ a,x = .ref a∧(∃ xs,SqT K H1 a xs)∧R (Itt K a) H1
theorem jaz {l:Expr} {tl:TE} (hl:PE X l tl):PI X tg l (jc1 X.K tl):=by
 intro pins s σ H R I h
 refine thn (hl pins s σ H _ I h) fun v s1 ⟨x,H1,I1,r1,q1⟩=>?_
 obtain ⟨a,e,⟨xs,hq⟩,q⟩:=q1
 subst e
 cases r1
 obtain ⟨its,rv,p,hz⟩:=I1.list hq
 refine wpAny_pyIter_list p.isList ?_
 refine ⟨s1.heap.objs.size,[s1.heap.objs.size],_,_,H1,rfl,I1.kept (t':=s1.toks) fun b o e=>Heap.get?_push_of_some _ e,jk6 a _,⟨_,Heap.get?_push_size _ rfl,rfl,rfl⟩,fun b hb=>?_,q⟩
 have e:b = s1.heap.objs.size:=by simpa using hb
 subst e
 exact I1.fpOk (Nat.le_refl _) (I1.hok.fresh (Nat.le_refl _))
theorem pi_tup {l:Expr} {tl:TE} (hl:PE X l tl):PI X tg l (iTup X.K tl):=by
 intro pins s σ H R I h
 refine thn (hl pins s σ H _ I h) fun v s1 ⟨x,H1,I1,r1,q1⟩=>?_
 obtain ⟨a,e,⟨xs,hq⟩,q⟩:=q1
 subst e
 cases r1
 obtain ⟨its,rv,p,hz⟩:=I1.tuple hq
 refine wpAny_pyIter_tuple (show s1.heap.IsTuple a its.toArray from p) ?_
 refine ⟨s1.heap.objs.size,[s1.heap.objs.size],_,_,H1,rfl,I1.kept (t':=s1.toks) fun b o e=>Heap.get?_push_of_some _ e,jjl a _,⟨_,Heap.get?_push_size _ rfl,rfl,rfl⟩,fun b hb=>?_,q⟩
 have e:b = s1.heap.objs.size:=by simpa using hb
 subst e
 exact I1.fpOk (Nat.le_refl _) (I1.hok.fresh (Nat.le_refl _))
theorem jj3 {pins:List (Addr × Obj)} {σ:St} {H:Hp} {s:Shared} {R:It→Hp→Prop} {E:Value→Shared→Prop} {lo hi:Int} {t u v:Tok} {tk:Nat} (I:Inv X pins σ H s) (h1:-(2 ^ 62) ≤ lo) (h2:lo < 2 ^ 62) (h3:-(2 ^ 62) ≤ hi) (h4:hi < 2 ^ 62)
  (q:R (Itr lo (hi - lo).toNat) H):wpAny (model X.prog X.w) X.A (pyIter (.ref s.heap.objs.size)) (PIE X pins σ tg R) E { s with heap:=s.heap.push { cls:=.type "range",data:=.fields #[.int lo t,.int hi u,.int 1 v] },toks:=tk }:=by
 refine wpAny_pyIter_range (IsRange.new ..) (small_one h1 h2 h3 h4) ?_
 have I1:Inv X pins σ H { s with heap:=s.heap.push { cls:=.type "range",data:=.fields #[.int lo t,.int hi u,.int 1 v] },toks:=tk }:=I.kept fun b o e=>Heap.get?_push_of_some _ e
 refine ⟨(s.heap.push { cls:=.type "range",data:=.fields #[.int lo t,.int hi u,.int 1 v] }).objs.size,[(s.heap.push { cls:=.type "range",data:=.fields #[.int lo t,.int hi u,.int 1 v] }).objs.size],_,_,H,rfl,
  I1.kept (t':=tk) fun b o e=>Heap.get?_push_of_some _ e,jjm _ lo (hi - lo).toNat,?_,fun b hb=>?_,q⟩
 ·have e1:lo + ((0:Nat):Int) * 1 = lo:=by simp
  have e2:(((hi - lo).toNat:Nat):Int) - ((0:Nat):Int) = Builtin.Range.rangeSize lo hi 1:=by rw [rangeSize_one]; split <;> omega
  show IsRangeIter _ _ (lo + ((0:Nat):Int) * 1) ((((hi - lo).toNat:Nat):Int) - ((0:Nat):Int)) 1
  rw [e1,e2]
  exact Heap.get?_push_size _ rfl
 ·have e:b = (s.heap.push { cls:=.type "range",data:=.fields #[.int lo t,.int hi u,.int 1 v] }).objs.size:=by simpa using hb
  subst e
  exact I1.fpOk (Nat.le_refl _) (I1.hok.fresh (Nat.le_refl _))
def jmw (ta:TA):TI:=fun σ H R=>ta σ H fun vs H1=>∃ j:Int,vs = [.int j]∧-(2 ^ 62) ≤ j∧j < 2 ^ 62∧R (Itr 0 j.toNat) H1
def jox (ta:TA):TI:=fun σ H R=>ta σ H fun vs H1=>∃ i j:Int,vs = [.int i,.int j]∧(-(2 ^ 62) ≤ i∧i < 2 ^ 62∧-(2 ^ 62) ≤ j∧j < 2 ^ 62)∧R (Itr i (j - i).toNat) H1
theorem jd9 {a:Expr} {ta:TA} {p pos:Pos} (hg:Gl X "range") (hm:X.mg "range" = none) (ha:PA X [a] ta) (hs:starEach [a] X.env = [(false,eval a X.env)]:=by rfl):PI X tg (.Call (.Name "range" p) [a] [] pos) (jmw ta):=by
 intro pins s σ H R I h
 refine Call_ (jek I hg hm boot_range (PyProof.Rows.callWith_type1 (thn (ha pos pins s σ H _ I h) fun us s1 ⟨vs,H1,I1,r1,q1⟩=>?_) hs rfl))
 obtain ⟨j,e,q1,q2,q⟩:=q1
 subst e
 cases r1 with
 | cons r rr =>
  cases rr
  obtain ⟨t,rfl⟩:=r
  exact call_range_1 (jj3 I1 (by omega) (by omega) q1 q2 (by simpa using q))
theorem jh2 {a b:Expr} {ta:TA} {p pos:Pos} (hg:Gl X "range") (hm:X.mg "range" = none) (ha:PA X [a,b] ta) (hs:starEach [a,b] X.env = [(false,eval a X.env),(false,eval b X.env)]:=by rfl) (hs2:starEach [b] X.env = [(false,eval b X.env)]:=by rfl) :
  PI X tg (.Call (.Name "range" p) [a,b] [] pos) (jox ta):=by
 intro pins s σ H R I h
 refine Call_ (jek I hg hm boot_range (PyProof.Rows.callWith_type1 (thn (ha pos pins s σ H _ I h) fun us s1 ⟨vs,H1,I1,r1,q1⟩=>?_) (by rw [hs,hs2]) (by rw [hs2]; rfl)))
 obtain ⟨i,j,e,⟨q1,q2,q3,q4⟩,q⟩:=q1
 subst e
 cases r1 with
 | cons r rr =>
  cases rr with
  | cons r' rr =>
   cases rr
   obtain ⟨t,rfl⟩:=r
   obtain ⟨t',rfl⟩:=r'
   exact call_range_2 (jj3 I1 q1 q2 q3 q4 q)
def tFor (wi:TI) (g:TG) (tb:TS):TS:=fun D σ H=>wi σ H fun J H1=>∃ W:Nat→Nat→St→Hp→Prop,(∃ m,W 0 m σ H1)∧∀ i m σ H,W i m σ H →
 (J.stop i H∧D.nx σ H) ∨ (J.go i H∧∃ N:St→Hp→Prop,(∀ σ' H',N σ' H'→∃ m',m' < m∧W (i + 1) m' σ' H')∧∀ x H',J.yld i H x H'→g x σ H' fun σ2 H2=>tb { D with nx:=N,ct:=N,bk:=D.nx } σ2 H2)
def jh1 (fp:List Addr) (h:Heap):List (Addr × Obj):=fp.filterMap fun b=>(h.get? b).map fun o=>(b,o)
theorem jct {fp:List Addr} {h:Heap} {b:Addr} {o:Obj} (hb:b ∈ fp) (e:h.get? b = some o):(b,o) ∈ jh1 fp h:=List.mem_filterMap.mpr ⟨b,hb,by rw [e]; rfl⟩
theorem jl1 {fp:List Addr} {h:Heap} {p:Addr × Obj} (hp:p ∈ jh1 fp h):p.1 ∈ fp∧h.get? p.1 = some p.2:=by
 obtain ⟨b,hb,e⟩:=List.mem_filterMap.mp hp
 cases q:h.get? b with
 | none=>rw [q] at e; cases e
 | some o =>
  rw [q] at e
  have e':(b,o) = p:=Option.some.inj e
  subst e'
  exact ⟨hb,q⟩
theorem Inv.pinned {pins:List (Addr × Obj)} {σ:St} {H:Hp} {s:Shared} {fp:List Addr} (I:Inv X pins σ H s) (hf:∀ b ∈ fp,FpOk X pins H b) (ho:∀ b ∈ fp,∃ o,s.heap.get? b = some o∧∀ v,o.data ≠ .cell v):Inv X (pins ++ jh1 fp s.heap) σ H s :=
 I.pins_of fun p hp=>(List.mem_append.mp hp).elim (fun z=>I.pin p (List.mem_append_right _ z)) fun z=>by
  obtain ⟨hb,e⟩:=jl1 z
  obtain ⟨f0,f1,f2,_⟩:=hf p.1 hb
  obtain ⟨o,e',d⟩:=ho p.1 hb
  rw [e] at e'; cases e'
  exact ⟨e,f0,f1,f2,d⟩
theorem Inv.unpinned {pins pl:List (Addr × Obj)} {σ:St} {H:Hp} {s:Shared} (I:Inv X (pins ++ pl) σ H s):Inv X pins σ H s:=I.pins_of fun p hp=>I.pin p (List.mem_append_right _ (List.mem_append_left _ hp))
theorem jca {iter:Expr} {body:List Stmt} {wi:TI} {g:TG} {tb:TS} {pos:Pos} (hp:PassesOwn (model X.prog X.w) X.A X.env X.xe) (hc:X.calm = true) (hi:PI X tg iter wi) (hg:PG X tg g) (hb:PSs X body tb)
  (hs:∀ x,foldedSetIterable iter X.env x = pure x:=by intro _; rfl):PS X (.For tg iter body [] pos) (tFor wi g tb):=by
 intro pins s σ H D I h
 refine wpAny_For (thn (hi pins s σ H _ I h) fun v s1 h1=>thn h1 fun itv s2 h2=>?_) hs
 obtain ⟨it,fp,tn,J,H2,e,I2,T,st2,f2,W,⟨m0,w0⟩,turn⟩:=h2
 subst e
  -- what stays true of the iterator's objects through the loop
 have stat:∀ {H':Hp},(∀ b ∈ fp,H' b = none)→∀ b ∈ fp,FpOk X pins H' b:=fun hn b hb=>⟨hn b hb,(f2 b hb).2⟩
 refine codeAny_forLoop_any (fun n s'=>∃ i σ' H',Inv X pins σ' H' s'∧tn i s'.heap∧(∀ b ∈ fp,H' b = none)∧W i n σ' H') ?_ m0 ⟨0,σ,H2,I2,st2,fun b hb=>(f2 b hb).1,w0⟩
 rintro n s3 ⟨i,σ3,H3,I3,st3,fr3,w3⟩
 rcases turn i n σ3 H3 w3 with ⟨stop,qn⟩ | ⟨go,N,hN,step⟩
 ·refine wpAny_passesOwn hp (thn (T.done X rfl rfl rfl hc i pins s3 σ3 H3 X.xe I3 (stat fr3) st3 stop) fun r s4 ⟨hr,I4⟩=>?_)
  subst hr
  exact wpAny_execs_nil ⟨σ3,H3,I4,qn⟩
 ·refine wpAny_passesOwn hp (thn (T.item X rfl rfl rfl hc i pins s3 σ3 H3 X.xe I3 (stat fr3) st3 go) fun r s4 ⟨u,hr,h4⟩=>?_)
  subst hr
  refine wpAny_passesOwn hp (thn h4 fun _ s5 ⟨x,H5,I5,r5,y5,st5,fr5⟩=>?_)
  have I5':=I5.pinned (stat fr5) (T.obj _ _ st5)
  refine wpAny_passesOwn hp (thn (hg _ s5 σ3 H5 x u _ I5' r5 (step x H5 y5)) fun _ s6 ⟨σ6,H6,I6,q6⟩=>?_)
  refine wpAny_passesOwn hp (thn (hb _ s6 σ6 H6 _ I6 q6) fun f s7 q7=>?_)
  have again:∀ {σ7:St} {H7:Hp},Inv X (pins ++ jh1 fp s5.heap) σ7 H7 s7→N σ7 H7→∃ m,m < n∧∃ i σ' H',Inv X pins σ' H' s7∧tn i s7.heap∧(∀ b ∈ fp,H' b = none)∧W i m σ' H':=fun {σ7 H7} I7 n7=>by
   obtain ⟨m',hm,w7⟩:=hN σ7 H7 n7
   refine ⟨m',hm,i + 1,σ7,H7,I7.unpinned,T.keep _ _ _ st5 fun b hb o e=>(I7.pin (b,o) (List.mem_append_right _ (List.mem_append_right _ (jct hb e)))).1,fun b hb=>?_,w7⟩
   obtain ⟨o,e,d⟩:=T.obj _ _ st5 b hb
   exact (I7.pin (b,o) (List.mem_append_right _ (List.mem_append_right _ (jct hb e)))).2.1
  cases f with
  | next=>obtain ⟨σ7,H7,I7,n7⟩:=q7; exact again I7 n7
  | cont=>obtain ⟨σ7,H7,I7,n7⟩:=q7; exact again I7 n7
  | brk=>obtain ⟨σ7,H7,I7,q7⟩:=q7; exact ⟨σ7,H7,I7.unpinned,q7⟩
  | ret v=>obtain ⟨x7,σ7,H7,I7,r7,q7⟩:=q7; exact ⟨x7,σ7,H7,I7.unpinned,r7,q7⟩
end
theorem jde {K:PySem.W.Frag} {a:Addr} {xs:List V} {g:TG} {tb:TS} {D:Ends} {σ:St} {H:Hp} (Pv:Nat→St→Hp→Prop) (h0:Pv 0 σ H) (hl:∀ i σ H,i ≤ xs.length→Pv i σ H→SqL K H a xs)
  (hs:∀ i x σ H,xs[i]? = some x→Pv i σ H→g x σ H fun σ2 H2=>tb { D with nx:=Pv (i + 1),ct:=Pv (i + 1),bk:=D.nx } σ2 H2) (hd:∀ σ H,Pv xs.length σ H→D.nx σ H) :
  ∃ W:Nat→Nat→St→Hp→Prop,(∃ m,W 0 m σ H)∧∀ i m σ H,W i m σ H →
   ((Itl K a).stop i H∧D.nx σ H) ∨ ((Itl K a).go i H∧∃ N:St→Hp→Prop,(∀ σ' H',N σ' H'→∃ m',m' < m∧W (i + 1) m' σ' H')∧∀ x H',(Itl K a).yld i H x H'→g x σ H' fun σ2 H2=>tb { D with nx:=N,ct:=N,bk:=D.nx } σ2 H2):=by
 refine ⟨fun i m σ H=>m = xs.length - i∧i ≤ xs.length∧Pv i σ H,⟨xs.length,by simp,Nat.zero_le _,h0⟩,?_⟩
 rintro i m σ H ⟨rfl,hi,p⟩
 have q:=hl i σ H hi p
 by_cases hlt:i < xs.length
 ·refine .inr ⟨⟨xs,xs[i],q,by simp [hlt]⟩,Pv (i + 1),fun σ' H' p'=>⟨xs.length - (i + 1),by omega,rfl,hlt,p'⟩,fun x H' y=>?_⟩
  obtain ⟨e,y⟩:=y
  subst e
  exact hs i x σ _ (y xs q) p
 ·have e:i = xs.length:=by omega
  subst e
  exact .inl ⟨⟨xs,q,Nat.le_refl _⟩,hd σ H p⟩
theorem jci {lo:Int} {n:Nat} {g:TG} {tb:TS} {D:Ends} {σ:St} {H:Hp} (Pv:Nat→St→Hp→Prop) (h0:Pv 0 σ H)
  (hs:∀ i σ H,i < n→Pv i σ H→g (.int (lo + i)) σ H fun σ2 H2=>tb { D with nx:=Pv (i + 1),ct:=Pv (i + 1),bk:=D.nx } σ2 H2) (hd:∀ σ H,Pv n σ H→D.nx σ H) :
  ∃ W:Nat→Nat→St→Hp→Prop,(∃ m,W 0 m σ H)∧∀ i m σ H,W i m σ H →
   ((Itr lo n).stop i H∧D.nx σ H) ∨ ((Itr lo n).go i H∧∃ N:St→Hp→Prop,(∀ σ' H',N σ' H'→∃ m',m' < m∧W (i + 1) m' σ' H')∧∀ x H',(Itr lo n).yld i H x H'→g x σ H' fun σ2 H2=>tb { D with nx:=N,ct:=N,bk:=D.nx } σ2 H2):=by
 refine ⟨fun i m σ H=>m = n - i∧i ≤ n∧Pv i σ H,⟨n,by simp,Nat.zero_le _,h0⟩,?_⟩
 rintro i m σ H ⟨rfl,hi,p⟩
 by_cases hlt:i < n
 ·refine .inr ⟨hlt,Pv (i + 1),fun σ' H' p'=>⟨n - (i + 1),by omega,rfl,hlt,p'⟩,fun x H' y=>?_⟩
  obtain ⟨e,y⟩:=y
  subst e y
  exact hs i σ _ hlt p
 ·have e:i = n:=by omega
  subst e
  exact .inl ⟨Nat.le_refl _,hd σ H p⟩
end L2
namespace L2
open PySem PySem.Spec PyProof.Rows
abbrev R2:=V→V→Hp→VK→Prop
def OpR (X:Cx) (f:Value→Value→Sem Value) (r:R2):Prop :=
 ∀ (pins:List (Addr × Obj)) (s:Shared) (σ:St) (H:Hp) (x y:V) (v u:Value) (Q:VK),Inv X pins σ H s→RelV x v→RelV y u→r x y H Q →
  wpAny (model X.prog X.w) X.A (f v u) (EP X pins σ Q) X.xe s
def UnR (X:Cx) (f:Value→Sem Value) (r:V→Hp→VK→Prop):Prop :=
 ∀ (pins:List (Addr × Obj)) (s:Shared) (σ:St) (H:Hp) (x:V) (v:Value) (Q:VK),Inv X pins σ H s→RelV x v→r x H Q →
  wpAny (model X.prog X.w) X.A (f v) (EP X pins σ Q) X.xe s
def jc0 (X:Cx) (f:Value) (r:List V→Hp→VK→Prop):Prop :=
 ∀ (pins:List (Addr × Obj)) (s:Shared) (σ:St) (H:Hp) (xs:List V) (us:List Value) (Q:VK),Inv X pins σ H s→Vals xs us→r xs H Q →
  wpAny (model X.prog X.w) X.A (call f us) (EP X pins σ Q) X.xe s
def tOp (r:R2) (ta tb:TE):TE:=fun σ H Q=>ta σ H fun x H1=>tb σ H1 fun y H2=>r x y H2 Q
def tUn (r:V→Hp→VK→Prop) (ta:TE):TE:=fun σ H Q=>ta σ H fun x H1=>r x H1 Q
def rI (C:Int→Int→Prop) (g:Int→Int→V):R2:=fun x y H Q=>∃ i j,x = .int i∧y = .int j∧C i j∧Q (g i j) H
def rI0 (g:Int→Int→V):R2:=fun x y H Q=>∃ i j,x = .int i∧y = .int j∧Q (g i j) H
def rU (g:Int→V):V→Hp→VK→Prop:=fun x H Q=>∃ i,x = .int i∧Q (g i) H
section
variable {X:Cx} {a b c:Expr} {ta tb tc:TE} {pos:Pos}
theorem binT (ha:PE X a ta) (hb:PE X b tb) {pins:List (Addr × Obj)} {s:Shared} {σ:St} {H:Hp} {R:V→V→Hp→Prop} (I:Inv X pins σ H s)
  (h:ta σ H fun x H1=>tb σ H1 fun y H2=>R x y H2) {Q:Value→Shared→Prop} {f:Value→Value→Sem Value}
  (hf:∀ v u s2 x y H2,Inv X pins σ H2 s2→RelV x v→RelV y u→R x y H2→wpAny (model X.prog X.w) X.A (f v u) Q X.xe s2) :
  wpAny (model X.prog X.w) X.A (eval a X.env) (fun v s₁=>wpAny (model X.prog X.w) X.A (eval b X.env) (fun u s₂=>wpAny (model X.prog X.w) X.A (f v u) Q X.xe s₂) X.xe s₁) X.xe s:=by
 refine thn (ha pins s σ H _ I h) fun v s1 ⟨x,H1,I1,r1,q1⟩=>?_
 refine thn (hb pins s1 σ H1 _ I1 q1) fun u s2 ⟨y,H2,I2,r2,q2⟩=>?_
 exact hf v u s2 x y H2 I2 r1 r2 q2
theorem jau {op:Operator} {r:R2} (ho:OpR X (binaryOp op) r) (ha:PE X a ta) (hb:PE X b tb):PE X (.BinOp a op b pos) (tOp r ta tb):=by
 intro pins s σ H Q I h
 exact wpAny_BinOp (binT ha hb I h fun v u s2 x y H2 I2 rx ry q=>ho pins s2 σ H2 x y v u Q I2 rx ry q)
theorem jky {op:UnaryOp} {r:V→Hp→VK→Prop} (ho:UnR X (unaryOp op) r) (ha:PE X a ta):PE X (.UnaryOp op a pos) (tUn r ta):=by
 intro pins s σ H Q I h
 exact UnaryOp_ (thn (ha pins s σ H _ I h) fun v s1 ⟨x,H1,I1,r1,q1⟩=>ho pins s1 σ H1 x v Q I1 r1 q1)
theorem opI {f:Value→Value→Sem Value} {C:Int→Int→Prop} {g:Int→Int→Int}
  (rule:∀ (i j:Int) (t u:Tok) (s:Shared) (Q:Value→Shared→Prop) (E:Value→Shared→Prop),C i j→Q (.int (g i j) s.toks) { s with toks:=s.toks + 1 }→wpAny (model X.prog X.w) X.A (f (.int i t) (.int j u)) Q E s) :
  OpR X f (rI C fun i j=>.int (g i j)):=by
 intro pins s σ H x y v u Q I rx ry h
 obtain ⟨i,j,rfl,rfl,hc,q⟩:=h
 obtain ⟨t,rfl⟩:=rx
 obtain ⟨t',rfl⟩:=ry
 exact rule i j t t' s _ _ hc ⟨.int (g i j),H,I.tok _,⟨_,rfl⟩,q⟩
theorem opI0 {f:Value→Value→Sem Value} {g:Int→Int→Int}
  (rule:∀ (i j:Int) (t u:Tok) (s:Shared) (Q:Value→Shared→Prop) (E:Value→Shared→Prop),Q (.int (g i j) s.toks) { s with toks:=s.toks + 1 }→wpAny (model X.prog X.w) X.A (f (.int i t) (.int j u)) Q E s) :
  OpR X f (rI0 fun i j=>.int (g i j)):=by
 intro pins s σ H x y v u Q I rx ry h
 obtain ⟨i,j,rfl,rfl,q⟩:=h
 obtain ⟨t,rfl⟩:=rx
 obtain ⟨t',rfl⟩:=ry
 exact rule i j t t' s _ _ ⟨.int (g i j),H,I.tok _,⟨_,rfl⟩,q⟩
theorem opB0 {f:Value→Value→Sem Value} {g:Int→Int→Bool}
  (rule:∀ (i j:Int) (t u:Tok) (s:Shared) (Q:Value→Shared→Prop) (E:Value→Shared→Prop),Q (.bool (g i j)) s→wpAny (model X.prog X.w) X.A (f (.int i t) (.int j u)) Q E s) :
  OpR X f (rI0 fun i j=>.bl (g i j)):=by
 intro pins s σ H x y v u Q I rx ry h
 obtain ⟨i,j,rfl,rfl,q⟩:=h
 obtain ⟨t,rfl⟩:=rx
 obtain ⟨t',rfl⟩:=ry
 exact rule i j t t' s _ _ ⟨.bl (g i j),H,I,rfl,q⟩
def CDiv (i j:Int):Prop:=0 < j∧j < 1073741824
def CPow (i j:Int):Prop:=0 ≤ j∧j ≤ 1000000∧i.natAbs < 2 ^ 64
def CMul (i j:Int):Prop:=(-(2 ^ 64) < i∧i < 2 ^ 64) ∨ (-(2 ^ 64) < j∧j < 2 ^ 64)
theorem CMul.ok {i j:Int} (h:CMul i j):IntMulOk i j:=by
 rcases h with ⟨h1,h2⟩ | ⟨h1,h2⟩
 ·exact .of_left (intBits_le_64 h1 h2)
 ·exact .of_right (intBits_le_64 h1 h2)
theorem op_add:OpR X (binaryOp .Add) (rI0 fun i j=>.int (i + j)):=opI0 fun _ _ _ _ _ _ _ q=>add_int q
theorem op_sub:OpR X (binaryOp .Sub) (rI0 fun i j=>.int (i - j)):=opI0 fun _ _ _ _ _ _ _ q=>sub_int q
theorem op_mul:OpR X (binaryOp .Mult) (rI CMul fun i j=>.int (i * j)):=opI fun _ _ _ _ _ _ _ hc q=>mul_int q hc.ok
theorem jon:OpR X (binaryOp .FloorDiv) (rI CDiv fun i j=>.int (i / j)):=opI fun i j _ _ _ _ _ hc q=>by
 have h1:(0:Int) < j:=hc.1
 have h2:j < 1073741824:=hc.2
 exact floordiv_int (by omega) (by rw [Int.fdiv_eq_ediv_of_nonneg i (by omega)]; exact q) (.inl (PyProof.noPylong_small (by omega)))
theorem op_mod:OpR X (binaryOp .Mod) (rI (fun _ j=>0 < j) fun i j=>.int (i % j)):=opI fun i j _ _ _ _ _ hc q=>by
 have h1:(0:Int) < j:=hc
 exact mod_int' (by omega) (by rw [Int.fmod_eq_emod_of_nonneg i (by omega)]; exact q)
theorem op_pow:OpR X (binaryOp .Pow) (rI CPow fun i j=>.int (i ^ j.toNat)):=opI fun _ _ _ _ _ _ _ hc q=>pow_int_small hc.1 hc.2.1 hc.2.2 q
theorem jov:OpR X (inplaceOp .Add) (rI0 fun i j=>.int (i + j)):=opI0 fun _ _ _ _ _ _ _ q=>iadd_int q
theorem unI {f:Value→Sem Value} {g:Int→Int}
  (rule:∀ (i:Int) (t:Tok) (s:Shared) (Q:Value→Shared→Prop) (E:Value→Shared→Prop),Q (.int (g i) s.toks) { s with toks:=s.toks + 1 }→wpAny (model X.prog X.w) X.A (f (.int i t)) Q E s) :
  UnR X f (rU fun i=>.int (g i)):=by
 intro pins s σ H x v Q I rx h
 obtain ⟨i,rfl,q⟩:=h
 obtain ⟨t,rfl⟩:=rx
 exact rule i t s _ _ ⟨.int (g i),H,I.tok _,⟨_,rfl⟩,q⟩
theorem un_neg:UnR X (unaryOp .USub) (rU fun i=>.int (-i)):=unI fun _ _ _ _ _ q=>neg_int q
end
def scal:V→V→Bool
 | .non,.non=>true | .non,.int _=>true | .int _,.non=>true | .non,.bl _=>true | .bl _,.non=>true | .non,.str _=>true | .str _,.non=>true
 | .int _,.int _=>true | .bl _,.bl _=>true | .str _,.str _=>true | .byt _,.byt _=>true
 | .int _,.str _=>true | .str _,.int _=>true | .bl _,.str _=>true | .str _,.bl _=>true
 | _,_=>false
def rEq:R2:=fun x y H Q=>scal x y = true∧Q (.bl (decide (x = y))) H
def rNe:R2:=fun x y H Q=>scal x y = true∧Q (.bl (!decide (x = y))) H
theorem jlr {i j:Int}:decide (V.int i = V.int j) = (i == j):=by
 rw [Bool.eq_iff_iff]
 simp
theorem jo3 {i j:Bool}:decide (V.bl i = V.bl j) = (i == j):=by
 rw [Bool.eq_iff_iff]
 simp
theorem jlq {i j:Str}:decide (V.str i = V.str j) = (i == j):=by
 rw [Bool.eq_iff_iff]
 simp
theorem jls {i j:Array UInt8}:decide (V.byt i = V.byt j) = (i.toList == j.toList):=by
 rw [Bool.eq_iff_iff]
 cases i
 cases j
 simp
section
variable {X:Cx} {a b c:Expr} {ta tb tc:TE} {pos:Pos}
theorem jb2 {pins:List (Addr × Obj)} {σ:St} {H:Hp} {s:Shared} {Q:VK} {k k':Bool} (I:Inv X pins σ H s) (q:Q (.bl k) H) (e:k = k'):EP X pins σ Q (.bool k') s:=by
 subst e
 exact ⟨.bl k,H,I,rfl,q⟩
theorem op_eq:OpR X (compareOp .Eq) rEq:=by
 intro pins s σ H x y v u Q I rx ry h
 obtain ⟨hs,q⟩:=h
 cases x with
 | non =>
  cases rx
  cases y with
  | non=>cases ry; exact PySem.EqNone.eq_none_none (jb2 I q (by simp))
  | bl j=>cases ry; exact PySem.EqNone.eq_none_bool (jb2 I q (by simp))
  | int j=>obtain ⟨t',rfl⟩:=ry; exact PySem.EqNone.eq_none_int (jb2 I q (by simp))
  | str j=>obtain ⟨t',rfl⟩:=ry; exact PySem.EqNone.eq_none_str (jb2 I q (by simp))
  | _=>exact absurd (show false = true from hs) Bool.false_ne_true
 | bl i =>
  cases rx
  cases y with
  | non=>cases ry; exact PySem.EqNone.eq_bool_none (jb2 I q (by simp))
  | bl j=>cases ry; exact eq_bool (jb2 I q jo3)
  | str j=>obtain ⟨t',rfl⟩:=ry; exact PySem.EqMixed.eq_bool_str (jb2 I q (by simp))
  | _=>exact absurd (show false = true from hs) Bool.false_ne_true
 | int i =>
  obtain ⟨t,rfl⟩:=rx
  cases y with
  | non=>cases ry; exact PySem.EqNone.eq_int_none (jb2 I q (by simp))
  | int j=>obtain ⟨t',rfl⟩:=ry; exact eq_int (jb2 I q jlr)
  | str j=>obtain ⟨t',rfl⟩:=ry; exact PySem.EqMixed.eq_int_str (jb2 I q (by simp))
  | _=>exact absurd (show false = true from hs) Bool.false_ne_true
 | str i =>
  obtain ⟨t,rfl⟩:=rx
  cases y with
  | non=>cases ry; exact PySem.EqNone.eq_str_none (jb2 I q (by simp))
  | bl j=>cases ry; exact PySem.EqMixed.eq_str_bool (jb2 I q (by simp))
  | int j=>obtain ⟨t',rfl⟩:=ry; exact PySem.EqMixed.eq_str_int (jb2 I q (by simp))
  | str j=>obtain ⟨t',rfl⟩:=ry; exact eq_str (jb2 I q jlq)
  | _=>exact absurd (show false = true from hs) Bool.false_ne_true
 | byt i =>
  obtain ⟨t,rfl⟩:=rx
  cases y with
  | byt j=>obtain ⟨t',rfl⟩:=ry; exact PySem.W.eq_bytes (jb2 I q jls)
  | _=>exact absurd (show false = true from hs) Bool.false_ne_true
 | _=>cases y <;> exact absurd (show false = true from hs) Bool.false_ne_true
theorem op_ne:OpR X (compareOp .NotEq) rNe:=by
 intro pins s σ H x y v u Q I rx ry h
 obtain ⟨hs,q⟩:=h
 cases x with
 | non =>
  cases rx
  cases y with
  | non=>cases ry; exact PySem.EqNone.ne_none_none (jb2 I q (by simp))
  | bl j=>cases ry; exact PySem.EqNone.ne_none_bool (jb2 I q (by simp))
  | int j=>obtain ⟨t',rfl⟩:=ry; exact PySem.EqNone.ne_none_int (jb2 I q (by simp))
  | str j=>obtain ⟨t',rfl⟩:=ry; exact PySem.EqNone.ne_none_str (jb2 I q (by simp))
  | _=>exact absurd (show false = true from hs) Bool.false_ne_true
 | bl i =>
  cases rx
  cases y with
  | non=>cases ry; exact PySem.EqNone.ne_bool_none (jb2 I q (by simp))
  | bl j=>cases ry; exact ne_bool (jb2 I q (congrArg not jo3))
  | str j=>obtain ⟨t',rfl⟩:=ry; exact PySem.EqMixed.ne_bool_str (jb2 I q (by simp))
  | _=>exact absurd (show false = true from hs) Bool.false_ne_true
 | int i =>
  obtain ⟨t,rfl⟩:=rx
  cases y with
  | non=>cases ry; exact PySem.EqNone.ne_int_none (jb2 I q (by simp))
  | int j=>obtain ⟨t',rfl⟩:=ry; exact ne_int (jb2 I q (congrArg not jlr))
  | str j=>obtain ⟨t',rfl⟩:=ry; exact PySem.EqMixed.ne_int_str (jb2 I q (by simp))
  | _=>exact absurd (show false = true from hs) Bool.false_ne_true
 | str i =>
  obtain ⟨t,rfl⟩:=rx
  cases y with
  | non=>cases ry; exact PySem.EqNone.ne_str_none (jb2 I q (by simp))
  | bl j=>cases ry; exact PySem.EqMixed.ne_str_bool (jb2 I q (by simp))
  | int j=>obtain ⟨t',rfl⟩:=ry; exact PySem.EqMixed.ne_str_int (jb2 I q (by simp))
  | str j=>obtain ⟨t',rfl⟩:=ry; exact ne_str (jb2 I q (congrArg not jlq))
  | _=>exact absurd (show false = true from hs) Bool.false_ne_true
 | byt i =>
  obtain ⟨t,rfl⟩:=rx
  cases y with
  | byt j=>obtain ⟨t',rfl⟩:=ry; exact PySem.W.ne_bytes (jb2 I q (congrArg not jls))
  | _=>exact absurd (show false = true from hs) Bool.false_ne_true
 | _=>cases y <;> exact absurd (show false = true from hs) Bool.false_ne_true
theorem op_lt:OpR X (compareOp .Lt) (rI0 fun i j=>.bl (decide (i < j))):=opB0 fun _ _ _ _ _ _ _ q=>lt_int q
theorem op_le:OpR X (compareOp .LtE) (rI0 fun i j=>.bl (decide (i ≤ j))):=opB0 fun _ _ _ _ _ _ _ q=>le_int q
theorem op_gt:OpR X (compareOp .Gt) (rI0 fun i j=>.bl (decide (j < i))):=opB0 fun _ _ _ _ _ _ _ q=>gt_int q
theorem op_ge:OpR X (compareOp .GtE) (rI0 fun i j=>.bl (decide (j ≤ i))):=opB0 fun _ _ _ _ _ _ _ q=>ge_int q
theorem jap (b:Expr) {op:CmpOp} (h:op ≠ .In:=by decide) (h2:op ≠ .NotIn:=by decide):behindInMarks op b = false:=by
 have e1:(op == CmpOp.In) = false:=by cases op <;> first | rfl | exact absurd rfl h
 have e2:(op == CmpOp.NotIn) = false:=by cases op <;> first | rfl | exact absurd rfl h2
 cases b <;> simp [behindInMarks,e1,e2]
theorem jcg {op:CmpOp} {r:R2} (ho:OpR X (compareOp op) r) (ha:PE X a ta) (hb:PE X b tb) (hm:behindInMarks op b = false):PE X (.Compare a [op] [b] pos) (tOp r ta tb):=by
 intro pins s σ H Q I h
 exact wpAny_Compare1 (binT ha hb I h fun v u s2 x y H2 I2 rx ry q=>ho pins s2 σ H2 x y v u Q I2 rx ry q) hm
theorem jhf:(sizeLine:Nat) < 2 ^ 63:=by rw [sizeLine_eq]; decide
theorem je1 {x:V} {us:List Value} (r:Vals [x] us):∃ u,us = [u]∧RelV x u:=by
 cases r with
 | cons r1 r2=>cases r2; exact ⟨_,rfl,r1⟩
theorem vals2 {x y:V} {us:List Value} (r:Vals [x,y] us):∃ u w',us = [u,w']∧RelV x u∧RelV y w':=by
 cases r with
 | cons r1 r2 =>
  cases r2 with
  | cons r3 r4=>cases r4; exact ⟨_,_,rfl,r1,r3⟩
theorem jlx (hc:X.calm = true):jc0 X (.builtin "max") (fun xs H Q=>∃ i j,xs = [.int i,.int j]∧Q (.int (if j > i then j else i)) H):=by
 intro pins s σ H xs us Q I r h
 obtain ⟨i,j,rfl,q⟩:=h
 obtain ⟨u,w',rfl,⟨t,rfl⟩,⟨t',rfl⟩⟩:=vals2 r
 refine max_two_ints (I.ok.hd hc) fun h' tk k=>⟨_,H,I.kept k,?_,q⟩
 by_cases hj:j > i
 ·rw [if_pos hj,if_pos hj]; exact ⟨_,rfl⟩
 ·rw [if_neg hj,if_neg hj]; exact ⟨_,rfl⟩
theorem jlw (hc:X.calm = true):jc0 X (.builtin "min") (fun xs H Q=>∃ i j,xs = [.int i,.int j]∧Q (.int (if j < i then j else i)) H):=by
 intro pins s σ H xs us Q I r h
 obtain ⟨i,j,rfl,q⟩:=h
 obtain ⟨u,w',rfl,⟨t,rfl⟩,⟨t',rfl⟩⟩:=vals2 r
 refine min_two_ints (I.ok.hd hc) fun h' tk k=>⟨_,H,I.kept k,?_,q⟩
 by_cases hj:j < i
 ·rw [if_pos hj,if_pos hj]; exact ⟨_,rfl⟩
 ·rw [if_neg hj,if_neg hj]; exact ⟨_,rfl⟩
theorem jly:jc0 X (.type "int") (fun xs H Q=>(∃ i,xs = [.int i]∧Q (.int i) H) ∨ ∃ k,xs = [.bl k]∧Q (.int (if k then 1 else 0)) H):=by
 intro pins s σ H xs us Q I r h
 rcases h with ⟨i,rfl,q⟩ | ⟨k,rfl,q⟩
 ·obtain ⟨u,rfl,t,rfl⟩:=je1 r
  exact call_int_int ⟨.int i,H,I,⟨_,rfl⟩,q⟩
 ·obtain ⟨u,rfl,r1⟩:=je1 r
  cases r1
  exact call_int_bool ⟨.int (if k then 1 else 0),H,I.tok _,⟨_,rfl⟩,q⟩
end
end L2
namespace L2
open PySem PySem.Spec PyProof.Rows
structure ObjM (h:Heap) (x dx C:Addr) (mA:Str→Option Value):Prop where
 obj:h.get? x = some (PySem.W.instObj C dx)
 ns:h.Ns1 dx mA
 ne:dx ≠ x
theorem jl4 {h:Heap} {dx:Addr} {mA:Str→Option Value} (n:h.Ns1 dx mA):∃ od,h.get? dx = some od∧∀ name,PySem.W.lookIn name od = some (mA name):=by
 obtain ⟨o,es,ep,ho,hd,hk,_,hm⟩:=n
 refine ⟨o,ho,fun name=>?_⟩
 have e:=hm name
 unfold nsFind findBy at e
 rw [← Array.find?_toList] at e
 unfold PySem.W.lookIn
 rw [hd]
 dsimp only
 split
 ·rename_i y q
  rw [q] at e
  exact congrArg some e
 ·rename_i q
  rw [q] at e
  have a:es.toList.any (·.refKey) = false:=by
   rw [List.any_eq_false]
   intro y hy
   obtain ⟨z,t,hkey⟩:=hk y (Array.mem_toList_iff.mp hy)
   simp [DictEntry.refKey,hkey]
  have a':¬ es.toList.any (·.refKey) = true:=by rw [a]; exact Bool.false_ne_true
  rw [if_neg a']
  exact congrArg some e
theorem ObjM.look {h:Heap} {x dx C:Addr} {mA:Str→Option Value} (I:ObjM h x dx C mA):∃ od,PySem.W.InstAt h x (PySem.W.instObj C dx) C (some od)∧∀ name,PySem.W.lookIn name od = some (mA name) :=
 let ⟨od,ho,hl⟩:=jl4 I.ns
 ⟨od,⟨I.obj,rfl,rfl,ho⟩,hl⟩
section
variable {prog:Program} {w:World} {A:Around} {E:Value→Shared→Prop} {s:Shared} {K:PySem.W.Frag} {x dx C f:Addr} {mA:Str→Option Value} {name:Str} {v:Value}
end
theorem RelO.some_of {v:V} {o:Option Value} (r:RelO (some v) o):∃ u,o = some u∧RelV v u:=by
 cases o with
 | none=>exact (show False from r).elim
 | some u=>exact ⟨u,rfl,r⟩
section
variable {P:Program} {w:World} {H H':Hp} {h h':Heap} {a C dx:Addr} {fs fs':List (Str × V)}
theorem jow (hok:HOk P w H h) (e:H a = some (.ins C dx fs)):∃ mA,ObjM h a dx C mA∧(∀ f,RelO (fs.lookup f) (mA f))∧PySem.Within mA (fs.map (·.1))∧fs.length ≤ 1000∧H dx = some (.own a):=by
 obtain ⟨d,z,ne,ob,mA,n,r,q⟩:=(show jbn P w H h a (.ins C dx fs) from hok a _ e)
 exact ⟨mA,⟨ob,n,ne⟩,r,q,z,d⟩
end
structure Cls (K:PySem.W.Frag) (C:Addr):Prop where
 pg:PySem.W.plainGet K C Str.empty = true
 hd:PySem.W.hasDictIn K C = true
 po:PySem.W.plainOver K C = true
 sa:PySem.W.findIn K (.ref C) "__setattr__" = some (some (.builtin "object.__setattr__"))
theorem Cls.get {K:PySem.W.Frag} {C:Addr} (c:Cls K C) (f:Str):PySem.W.plainGet K C f = true:=c.pg
section
variable {X:Cx} {pins:List (Addr × Obj)} {σ:St} {H:Hp} {s:Shared} {a C dx:Addr} {fs:List (Str × V)} {f:Str} {v:V} {A:Around} {E:Value→Shared→Prop}
end
section
variable {X:Cx} {o e value:Expr} {f:Str} {pos pos' tpos:Pos} {ta tv:TE}
end
section
variable {X:Cx} {pins:List (Addr × Obj)} {σ:St} {H:Hp} {s:Shared} {A:Around} {E:Value→Shared→Prop} {Q:Value→Shared→Prop} {c:Value} {b:Bool}
inductive TyOf (K:PySem.W.Frag) (H:Hp):V→Value→Prop where
 | non:TyOf K H .non (.type "NoneType")
 | bl (x:Bool):TyOf K H (.bl x) (.type "bool")
 | int (i:Int):TyOf K H (.int i) (.type "int")
 | str (x:Str):TyOf K H (.str x) (.type "str")
 | flt (x:UInt64):TyOf K H (.flt x) (.type "float")
 | lst {a:Addr} {xs:List V} (e:H a = some (.lst xs)):TyOf K H (.ref a) (.type "list")
 | frz {a:Addr} {o:Obj} {xs:List V} (e:H a = some (.frz o (.lst xs))):TyOf K H (.ref a) (.type "list")
 | tup {a:Addr} {xs:List V} (e:H a = some (.tup xs)):TyOf K H (.ref a) (.type "tuple")
 | dK {a:Addr} {kvs:List (Key × V)} (e:H a = some (.dK kvs)):TyOf K H (.ref a) (.type "dict")
 | dT {a:Addr} {kvs:List (List Key × V)} (e:H a = some (.dT kvs)):TyOf K H (.ref a) (.type "dict")
 | ins {a C dx:Addr} {fs:List (Str × V)} (e:H a = some (.ins C dx fs)) (cl:Cls K C) (ha:PySem.W.findIn K (.ref C) "__class__" = some (some (.builtin "object.__class__")))
   (hn:PySem.W.specialIn K (.builtin "object.__class__") "__get__" = some (some (.builtin "getset_descriptor.__get__"))) (htk:PySem.W.takesIn K (.builtin "object.__class__") = some true)
   (hm:PySem.W.mroIn K C (.type "object") = some true):TyOf K H (.ref a) (.ref C)
theorem jlf {x:V} {u t:Value} (I:Inv X pins σ H s) (rx:RelV x u) (ty:TyOf X.K H x t) (e:PySem.W.kitOne X.K t c = some b) (h:∀ tk,Q (.bool b) { s with toks:=tk }) :
  wpAny (model X.prog X.w) A (call (.builtin "isinstance") [u,c]) Q E s:=by
 cases ty with
 | non=>cases (show u = Value.none from rx); exact PySem.W.kia_one PySem.W.kitx_none I.kIn True.intro e (fun z=>nomatch z) h
 | bl y=>cases (show u = Value.bool y from rx); exact PySem.W.kia_one PySem.W.kitx_bool I.kIn True.intro e (fun z=>nomatch z) h
 | int i=>obtain ⟨t,q⟩:=(show ∃ t,u = Value.int i t from rx); cases q; exact PySem.W.kia_one PySem.W.kitx_int I.kIn True.intro e (fun z=>nomatch z) h
 | str y=>obtain ⟨t,q⟩:=(show ∃ t,u = Value.str y t from rx); cases q; exact PySem.W.kia_one PySem.W.kitx_str I.kIn True.intro e (fun z=>nomatch z) h
 | flt y=>obtain ⟨t,q⟩:=(show ∃ t,u = Value.float y t from rx); cases q; exact PySem.W.kia_one PySem.W.kitx_float I.kIn True.intro e (fun z=>nomatch z) h
 | @lst a xs ea =>
  cases (show u = Value.ref a from rx)
  obtain ⟨_,_,n,_,h1⟩:=(show jbn X.prog X.w H s.heap a (.lst xs) from I.hok a _ ea)
  exact PySem.W.kia_one PySem.W.kitx_list I.kIn ⟨_,h1,rfl⟩ e (fun z=>nomatch z) h
 | @frz a ob xs ea =>
  cases (show u = Value.ref a from rx)
  obtain ⟨_,_,_,n,_,h1⟩:=(show jbn X.prog X.w H s.heap a (.frz ob (.lst xs)) from I.hok a _ ea)
  exact PySem.W.kia_one PySem.W.kitx_list I.kIn ⟨_,h1,rfl⟩ e (fun z=>nomatch z) h
 | @tup a xs ea =>
  cases (show u = Value.ref a from rx)
  obtain ⟨_,_,_,p⟩:=(show jbn X.prog X.w H s.heap a (.tup xs) from I.hok a _ ea)
  obtain ⟨o,h1,h2,_⟩:=p
  exact PySem.W.kia_one PySem.W.kitx_tuple I.kIn ⟨o,h1,h2⟩ e (fun z=>nomatch z) h
 | @dK a kvs ea =>
  cases (show u = Value.ref a from rx)
  obtain ⟨_,_,vs,_,p⟩:=(show jbn X.prog X.w H s.heap a (.dK kvs) from I.hok a _ ea)
  obtain ⟨o,es,ep,h1,h2,_⟩:=p
  exact PySem.W.kia_one PySem.W.kitx_dict I.kIn ⟨o,h1,h2.1⟩ e (fun z=>nomatch z) h
 | @dT a kvs ea =>
  cases (show u = Value.ref a from rx)
  obtain ⟨_,_,xs,_,o,es,ep,h1,h2,_⟩:=(show jbn X.prog X.w H s.heap a (.dT kvs) from I.hok a _ ea)
  exact PySem.W.kia_one PySem.W.kitx_dict I.kIn ⟨o,h1,h2.1⟩ e (fun z=>nomatch z) h
 | @ins a C dx fs ea cl ha hn htk hm =>
  cases (show u = Value.ref a from rx)
  obtain ⟨mA,O,_⟩:=jow I.hok ea
  obtain ⟨od,J,_⟩:=O.look
  exact PySem.W.kia_one (PySem.W.kitx_own (cl.get _) cl.hd ha hn htk hm) I.kIn J e (fun z=>nomatch z) h
end
end L2
namespace L2
open PySem PySem.Spec PyProof.Rows
structure Room (k:Nat) (A:Around):Prop where
 hd:A.handled = none
 dp:A.depth + 3 * k + 5 < recursionLimit
 un:A.units + 16 * k + 200 < cLine
 gd:A.guards = some []
theorem Room.mono {j k:Nat} {A:Around} (r:Room k A) (h:j ≤ k):Room j A:=⟨r.hd,by have:=r.dp; omega,by have:=r.un; omega,by first | exact r.gd | (simp only [Around.deeper,Around.in1,Around.under]; exact r.gd)⟩
theorem Room.deeper {k:Nat} {A:Around} (r:Room (k + 1) A) (env:Env):Room k (A.deeper env) :=
 ⟨r.hd,by have:=r.dp; show A.depth + 1 + 3 * k + 5 < _; omega,by have:=r.un; show A.units + 3 + 16 * k + 200 < _; omega,by first | exact r.gd | (simp only [Around.deeper,Around.in1,Around.under]; exact r.gd)⟩
theorem Room.depth {k:Nat} {A:Around} (r:Room k A):A.depth < recursionLimit:=by have:=r.dp; omega
theorem Room.units {k:Nat} {A:Around} (r:Room k A):A.units + 64 < cLine:=by have:=r.un; omega
def tNil:TA:=fun _ H Q=>Q [] H
def joa (ta:TE) (tr:TA):TA:=fun σ H Q=>ta σ H fun x H1=>tr σ H1 fun xs H2=>Q (x :: xs) H2
section
variable {X:Cx} {e:Expr} {es:List Expr} {te:TE} {t:TA} {pos:Pos}
theorem ja2:PA X [] tNil:=fun _ _ _ _ H Q I h=>Calls.spliced_nil ⟨[],H,I,.nil,h⟩
theorem ja0 (ha:PE X e te) (hr:PA X es t) (hs:starEach (e :: es) X.env = (false,eval e X.env) :: starEach es X.env:=by rfl):PA X (e :: es) (joa te t):=by
 intro pos pins s σ H Q I h
 rw [hs]
 show wpAny _ _ (spliced ((false,eval e X.env) :: backTo pos (starEach es X.env))) _ _ s
 refine Calls.spliced_cons (thn (ha pins s σ H _ I h) fun u s1 ⟨x,H1,I1,r1,q1⟩=>?_)
 exact thn (hr pos pins s1 σ H1 _ I1 q1) fun us s2 ⟨xs,H2,I2,r2,q2⟩=>⟨x :: xs,H2,I2,.cons r1 r2,q2⟩
def tTup (t:TA):TE:=fun σ H Q=>t σ H fun xs H1=>xs.length ≤ sizeLine∧∀ p,H1 p = none→Q (.ref p) (upd H1 p (.tup xs))
def tLst (t:TA):TE:=fun σ H Q=>t σ H fun xs H1=>xs.length ≤ sizeLine∧∀ p,H1 p = none→Q (.ref p) (upd H1 p (.lst xs))
theorem jay {x1} (h:PA X es t):PE X (.Tuple es x1 pos) (tTup t):=by
 intro pins s σ H Q I hq
 refine wpAny_Tuple_spliced (thn (h pos pins s σ H _ I hq) fun us s1 ⟨xs,H1,I1,r,z,q⟩=>⟨by rw [← r.length]; exact z,?_⟩)
 have hf:H1 s1.heap.objs.size = none:=I1.hok.fresh (Nat.le_refl _)
 refine ⟨.ref s1.heap.objs.size,upd H1 s1.heap.objs.size (.tup xs),I1.laid (t':=s1.toks) (fun b u e=>Heap.get?_push_of_some _ e) (Nat.le_refl _) ?_,rfl,q _ hf⟩
 exact ⟨z,us,r,⟨_,Heap.get?_push_size _ rfl,rfl,_,rfl⟩⟩
theorem jb8 (h:PA X es t):PE X (.List es pos) (tLst t):=by
 intro pins s σ H Q I hq
 refine wpAny_List_spliced (thn (h pos pins s σ H _ I hq) fun us s1 ⟨xs,H1,I1,r,z,q⟩=>⟨by rw [← r.length]; exact z,?_⟩)
 have hf:H1 s1.heap.objs.size = none:=I1.hok.fresh (Nat.le_refl _)
 refine ⟨.ref s1.heap.objs.size,upd H1 s1.heap.objs.size (.lst xs),I1.laid (t':=s1.toks) (fun b u e=>Heap.get?_push_of_some _ e) (Nat.le_refl _) ?_,rfl,q _ hf⟩
 exact ⟨z,us,0,r,Heap.get?_push_size _ rfl⟩
end
abbrev Sp:=List V→Hp→VK→XK→Prop
abbrev CXT:=List Env→Hp→Shared→XK→Value→Shared→Prop
structure Env0 (P:Program) (w:World) (K:PySem.W.Frag) (mg:Str→Option Value) (base:Heap) (A:Around) (outer:List Env) (s:Shared) (H:Hp):Prop where
 frames:A.frames = some outer
 mod:Mod K mg base
 bs:∀ b o,base.get? b = some o→s.heap.get? b = some o∧H b = none
 bsz:base.objs.size ≤ s.heap.objs.size
 funs:s.heap.FunFrames base outer
 frf:∀ b ∈ frs outer,H b = none
 hok:HOk P w H s.heap
 bare:AllBare s.gens
def CE (outer:List Env) (P:Program) (w:World) (H:Hp) (s:Shared) (Q:VK) (u:Value) (s':Shared):Prop :=
 ∃ v H',s'.os = s.os∧AllBare s'.gens∧Un (frs outer) [] H H' s.heap s'.heap∧HOk P w H' s'.heap∧RelV v u∧Q v H'
def CR (CX:CXT) (outer:List Env) (P:Program) (w:World) (H:Hp) (s:Shared) (Q:VK) (E:XK) (r:Result) (s':Shared):Prop :=
 match r with
 | .ok (.ret u)=>CE outer P w H s Q u s'
 | .ok _=>False
 | .error e=>CX outer H s E e s'
structure FnOk (P:Program) (w:World) (K:PySem.W.Frag) (mg:Str→Option Value) (base:Heap) (CX:CXT) (k:Nat) (f:Addr) (fd:FuncData) (ps:List Str) (sp:Sp):Prop where
 len:∀ vs H Q E,sp vs H Q E→vs.length = ps.length
 run:∀ (A:Around) (outer:List Env) (s:Shared) (H:Hp) (args:Args) (us:List Value) (vs:List V) (Q:VK) (E:XK),Room k A→Env0 P w K mg base A outer s H→BindsTo s fd args (ps.zip us)→Vals vs us→sp vs H Q E →
  codeAny (model P w) A (.call (.ref f) args) (CR CX outer P w H s Q E) s
theorem FnOk.mono {P:Program} {w:World} {K:PySem.W.Frag} {mg:Str→Option Value} {base:Heap} {CX:CXT} {j k:Nat} {f:Addr} {fd:FuncData} {ps:List Str} {sp:Sp} (F:FnOk P w K mg base CX j f fd ps sp) (h:j ≤ k) :
  FnOk P w K mg base CX k f fd ps sp:=⟨F.len,fun A outer s H args us vs Q E hr=>F.run A outer s H args us vs Q E (hr.mono h)⟩
section
variable {X:Cx} {pins:List (Addr × Obj)} {σ:St} {H:Hp} {s s':Shared}
theorem Inv.env0 (I:Inv X pins σ H s):Env0 X.prog X.w X.K X.mg X.base X.A X.stack s H :=
 ⟨I.ok.frames,I.ok.mod,I.bs,Nat.le_trans I.ok.bsz I.sz,I.stack,I.stkFree,I.hok,I.bare⟩
theorem Inv.after {Q:VK} {u:Value} (I:Inv X pins σ H s) (h:CE X.stack X.prog X.w H s Q u s'):EP X pins σ Q u s':=by
 obtain ⟨v,H',os,bare,un,hok,r,q⟩:=h
 obtain ⟨hh,g,d,t,os'⟩:=s'
 obtain rfl:os' = s.os:=os
 exact ⟨v,H',I.call (h':=hh) (g':=g) (d':=d) (t':=t) (ch:=[]) un hok bare (fun b z=>absurd z (by simp)),r,q⟩
end
def job (sp:Sp) (dvs:List V) (E:XK) (t:TA):TE:=fun σ H Q=>t σ H fun vs H1=>sp (vs ++ dvs) H1 Q E
def jiv (K:PySem.W.Frag) (fd:FuncData) (ps:List Str) (ds:List Value):Prop :=
 ∀ (s:Shared) (us:List Value),K.In s.heap→(us ++ ds).length = ps.length→BindsTo s fd ⟨us,[]⟩ (ps.zip (us ++ ds))
theorem jiv.all {K:PySem.W.Frag} {fd:FuncData} {ps:List Str} (h:∀ us:List Value,us.length = ps.length→bindArgs fd ⟨us,[]⟩ = pure (ps.zip us)):jiv K fd ps []:=fun s us _ hl=>by
 rw [List.append_nil] at hl ⊢
 exact .of_eq (h us hl)
def jm4 (CX:CXT) (X:Cx) (E:XK):Prop:=∀ (pins:List (Addr × Obj)) (σ:St) (H:Hp) (s:Shared) (e:Value) (s':Shared),Inv X pins σ H s→CX X.stack H s E e s'→X.xe e s'
section
variable {X:Cx} {CX:CXT} {k:Nat} {f C:Addr} {fd:FuncData} {ps:List Str} {sp:Sp} {dvs:List V} {ds:List Value} {E:XK} {x m:Str} {p pos apos:Pos} {e o:Expr} {es:List Expr} {ta:TE} {t:TA}
theorem run_fn {pins:List (Addr × Obj)} {σ:St} {H:Hp} {s:Shared} {Q:VK} {us:List Value} {vs:List V} (F:FnOk X.prog X.w X.K X.mg X.base CX k f fd ps sp) (hr:Room k X.A) (hb:jiv X.K fd ps ds) (hd:Vals dvs ds) (hx:jm4 CX X E)
  (I:Inv X pins σ H s) (r:Vals vs us) (h:sp (vs ++ dvs) H Q E):wpAny (model X.prog X.w) X.A (call (.ref f) us) (EP X pins σ Q) X.xe s:=by
 have r2:Vals (vs ++ dvs) (us ++ ds):=r.append hd
 have hl:(us ++ ds).length = ps.length:=by rw [← r2.length]; exact F.len _ _ _ _ h
 refine wpAny_call (codeAny_mono (F.run X.A X.stack s H ⟨us,[]⟩ (us ++ ds) (vs ++ dvs) Q E hr I.env0 (hb s us I.kIn hl) r2 h) fun r s' hq=>?_)
 cases r with
 | error e=>exact hx pins σ H s e s' I hq
 | ok fl =>
  cases fl with
  | ret u=>exact I.after hq
  | next=>exact False.elim hq
  | brk=>exact False.elim hq
  | cont=>exact False.elim hq
theorem ja9 (F:FnOk X.prog X.w X.K X.mg X.base CX k f fd ps sp) (hr:Room k X.A) (hg:Gl X x) (hm:X.mg x = some (.ref f)) (hk:PySem.W.keepIn X.K (.ref f) = true) (hb:jiv X.K fd ps ds) (hd:Vals dvs ds) (hx:jm4 CX X E)
  (ha:PA X (e :: es) t) (hdb:(x == ("__debug__":Str)) = false:=by decide) (he:starEach (e :: es) X.env = (false,eval e X.env) :: starEach es X.env:=by rfl) (hpl:(backTo pos (starEach es X.env)).any (·.1) = false:=by rfl) :
  PE X (.Call (.Name x p) (e :: es) [] pos) (job sp dvs E t):=by
 intro pins s σ H Q I h
 refine wpAny_Call_Name_kw (jl6 I hg hm ?_ hdb)
 refine PySem.W.callWith_K (h₀:=X.base) I.ok.mod.kin hk (thn (ha pos pins s σ H _ I h) fun us s1 ⟨vs,H1,I1,r,q⟩=>⟨I1.kIn,?_⟩) he hpl
 exact run_fn F hr hb hd hx I1 r q
end
section
variable {X:Cx} {CX:CXT} {k:Nat} {f C:Addr} {fd:FuncData} {ps ks:List Str} {sp:Sp} {E:XK} {x m:Str} {p pos apos kpos:Pos} {e o:Expr} {es:List Expr} {kws:List Keyword} {te ta:TE} {t tk:TA} {nm:Option Str}
variable {g:List Value→List Value→List Value} {gV:List V→List V→List V}
end
structure FnScope (N P:List Str) (sc:Scope):Prop where
 kind:sc.kind = .function
 co:sc.isCoroutine = false
 gen:sc.isGenerator = false
 nd:N.Nodup
 pre:N.take P.length = P
 par:∀ x ∈ P,sc.names.lookup x = some .local ∨ sc.names.lookup x = some .cell
 nofree:∀ y ∈ sc.names,y.2 ≠ .free
theorem jhs {kindOf:Str→Option NameKind} {x:Str}:∀ {binds:List (Str × Value)} {m:Str→Option Value},(∀ v,(x,v) ∉ binds)→bindL kindOf binds m x = m x
 | [],_,_=>rfl
 | (n,v) :: r,m,h=>by
  unfold bindL
  rw [jhs fun w hw=>h w (List.mem_cons_of_mem _ hw)]
  split
  ·have:x ≠ n:=by rintro rfl; exact h v List.mem_cons_self
   simp [this]
  ·rfl
theorem jhu {kindOf:Str→Option NameKind} {x:Str}:∀ {binds:List (Str × Value)} {m:Str→Option Value},(∀ v,(x,v) ∉ binds)→bindC kindOf binds m x = m x
 | [],_,_=>rfl
 | (n,v) :: r,m,h=>by
  unfold bindC
  rw [jhu fun w hw=>h w (List.mem_cons_of_mem _ hw)]
  split
  ·rfl
  ·have:x ≠ n:=by rintro rfl; exact h v List.mem_cons_self
   simp [this]
theorem jht {kindOf:Str→Option NameKind} {x:Str} {v:Value}:∀ {P:List Str} {vs:List Value} {i:Nat} {m:Str→Option Value},P.Nodup→P[i]? = some x→vs[i]? = some v→kindOf x = some .local →
  bindL kindOf (P.zip vs) m x = some v
 | [],_,_,_,_,h,_,_=>by simp at h
 | _ :: _,[],_,_,_,_,h,_=>by simp at h
 | p :: P,w :: vs,0,m,nd,h1,h2,hk=>by
  simp at h1 h2; subst h1; subst h2
  show bindL kindOf ((p,w) :: P.zip vs) m p = _
  unfold bindL
  rw [jhs fun v hv=>(List.nodup_cons.mp nd).1 (List.of_mem_zip hv).1,if_pos hk]
  simp
 | p :: P,w :: vs,i + 1,m,nd,h1,h2,hk=>by
  show bindL kindOf ((p,w) :: P.zip vs) m x = _
  unfold bindL
  exact jht (i:=i) (List.nodup_cons.mp nd).2 (by simpa using h1) (by simpa using h2) hk
theorem jhv {kindOf:Str→Option NameKind} {x:Str} {v:Value}:∀ {P:List Str} {vs:List Value} {i:Nat} {m:Str→Option Value},P.Nodup→P[i]? = some x→vs[i]? = some v→kindOf x ≠ some .local →
  bindC kindOf (P.zip vs) m x = some v
 | [],_,_,_,_,h,_,_=>by simp at h
 | _ :: _,[],_,_,_,_,h,_=>by simp at h
 | p :: P,w :: vs,0,m,nd,h1,h2,hk=>by
  simp at h1 h2; subst h1; subst h2
  show bindC kindOf ((p,w) :: P.zip vs) m p = _
  unfold bindC
  rw [jhu fun v hv=>(List.nodup_cons.mp nd).1 (List.of_mem_zip hv).1,if_neg hk]
  simp
 | p :: P,w :: vs,i + 1,m,nd,h1,h2,hk=>by
  show bindC kindOf ((p,w) :: P.zip vs) m x = _
  unfold bindC
  exact jhv (i:=i) (List.nodup_cons.mp nd).2 (by simpa using h1) (by simpa using h2) hk
def jer (N:List Str) (vs:List V):St:=vs.map some ++ List.replicate (N.length - vs.length) none
def cxOf (CX:CXT) (P:Program) (w:World) (K:PySem.W.Frag) (mg:Str→Option Value) (base:Heap) (N:List Str) (qual:Str) (scope:Scope) (f:Addr) (cd:Value) (A:Around) (outer:List Env) (s:Shared) (H:Hp) (E:XK):Cx where
 prog:=P
 w:=w
 K:=K
 mg:=mg
 base:=base
 A:=A.deeper (envOfC qual scope s.heap.objs.size f cd)
 N:=N
 s₀:=s
 H₀:=H
 env:=envOfC qual scope s.heap.objs.size f cd
 outer:=outer
 stack:=envOfC qual scope s.heap.objs.size f cd :: outer
 ex:=[]
 calm:=true
 fn:=fun _=>true
 pn:=[]
 xe:=fun e s'=>wpAny (model P w) (A.deeper (envOfC qual scope s.heap.objs.size f cd)) (leaving (envOfC qual scope s.heap.objs.size f cd) e) (fun _ s''=>CX outer H s E e s'') (fun e' s''=>CX outer H s E e' s'') s'
theorem jjk {sc:Scope} {n:Nat} {x:Str} (h:sc.names.lookup x = some .cell):∃ c,(cellsFrom n sc.names []).lookup x = some c:=by
 have q:=PySem.W.cellsFrom_some sc.names n [] (.inl h)
 exact Option.isSome_iff_exists.mp q
theorem jlg {CX:CXT} {P:Program} {w:World} {K:PySem.W.Frag} {mg:Str→Option Value} {base:Heap} {N ps:List Str} {qual:Str} {scope:Scope} {f:Addr} {cd:Value} {A:Around} {outer:List Env} {s s1:Shared} {H:Hp} {E:XK} {us:List Value} {vs:List V}
  (S:FnScope N ps scope) (hd:A.handled = none) (e0:Env0 P w K mg base A outer s H) (hl:vs.length = ps.length) (r:Vals vs us)
  (x:InCallC s s.heap.objs.size (bindL (envOfC qual scope s.heap.objs.size f cd).kindOf (ps.zip us) fun _=>none) (cellsFrom (s.heap.objs.size + 1) scope.names []) (bindC (envOfC qual scope s.heap.objs.size f cd).kindOf (ps.zip us) fun _=>none) s1) :
  Inv (cxOf CX P w K mg base N qual scope f cd A outer s H E) [] (jer N vs) H s1:=by
 have hpl:ps.length ≤ N.length:=by have:=congrArg List.length S.pre; rw [List.length_take] at this; omega
 obtain ⟨h1,tk,rfl,hk⟩:=x.done
 have noA:∀ b:Addr,b ∉ (cxOf CX P w K mg base N qual scope f cd A outer s H E).ex:=fun b z=>absurd (show b ∈ ([]:List Addr) from z) (by simp)
 refine ⟨⟨e0.mod,S.kind,rfl,rfl,Nat.le_refl _,fun y z c h1 h2=>?_,fun y hy=>?_,fun y c _ h=>?_,fun _=>hd,Around.frames_deeper e0.frames,.inr ⟨rfl,rfl⟩,fun b z=>absurd z (noA b),e0.bs,e0.bsz,fun b _ _=>noA b,fun b z=>absurd z (noA b),e0.funs,e0.frf⟩,
  rfl,e0.bare,Un.kept hk,⟨_,x.toInCall.ns,fun i y v h1 h2 h3=>?_⟩,fun y c h=>⟨_,x.cell y c h⟩,e0.hok.fresh (Nat.le_refl _),fun y c h=>?_,fun p hp=>absurd (show p ∈ ([]:List (Addr × Obj)) from hp) (by simp),e0.hok.kept hk,?_⟩
 ·exact name_of_addr x.apart (PySem.mem_of_lookup h1) (PySem.mem_of_lookup h2)
 ·have hy:scope.names.lookup y = some .cell ∨ scope.names.lookup y = some .free:=hy
  rcases hy with hy | hy
  ·exact jjk hy
  ·exact absurd rfl (S.nofree _ (PySem.mem_of_lookup hy))
 ·exact Nat.le_of_lt (x.above y c (PySem.mem_of_lookup h))
 ·have hi:i < vs.length:=by
   unfold jer at h2
   by_cases hi:i < vs.length
   ·exact hi
   ·rw [List.getElem?_append_right (by simpa using hi)] at h2
    rw [List.getElem?_replicate] at h2
    split at h2 <;> cases h2
  have ha:vs[i]? = some v:=by
   unfold jer at h2
   rw [List.getElem?_append_left (by simpa using hi),List.getElem?_map] at h2
   cases e:vs[i]? with
   | none=>rw [e] at h2; cases h2
   | some a=>rw [e] at h2; cases h2; rfl
  obtain ⟨u,hu,rv⟩:=r.get ha
  have hp:ps[i]? = some y:=by
   rw [← S.pre,List.getElem?_take_of_lt (by omega)]; exact h1
  have ndP:ps.Nodup:=by rw [← S.pre]; exact S.nd.sublist (List.take_sublist _ _)
  refine ⟨u,rv,?_⟩
  rcases S.par y (List.mem_of_getElem? hp) with k | k
  ·exact .inl ⟨k,jht ndP hp hu k⟩
  ·obtain ⟨c,e⟩:=jjk (n:=s.heap.objs.size + 1) k
   refine .inr ⟨.inl k,c,e,?_⟩
   have q:=x.cell y c e
   rw [jhv ndP hp hu (by show scope.names.lookup y ≠ _; rw [k]; decide)] at q
   exact q
 ·exact e0.hok.fresh (Nat.le_of_lt (x.above y c (PySem.mem_of_lookup h)))
 ·unfold jer
  show _ = N.length
  rw [List.length_append,List.length_map,List.length_replicate]
  omega
theorem fn_of {CX:CXT} {P:Program} {w:World} {K:PySem.W.Frag} {mg:Str→Option Value} {base:Heap} {k:Nat} {f:Addr} {name qual:Str} {params:Arguments} {body:List Stmt} {scope:Scope} {dV kV doc pm cdv ct oc:Value} {an od:Option Addr}
  {osl:Array (Option Value)} {N ps:List Str} {sp:Sp} (lk:K.lookup f = some ⟨oc,od,.func (PySem.W.fnOf name qual params body scope dV kV doc pm an cdv ct),osl⟩) (hcd:PySem.W.codeIn K cdv qual = true) (S:FnScope N ps scope)
  (len:∀ vs H Q E,sp vs H Q E→vs.length = ps.length)
  (hbody:∀ (A:Around) (outer:List Env) (s:Shared) (H:Hp) (vs:List V) (Q:VK) (E:XK),Room k (A.deeper (envOfC qual scope s.heap.objs.size f cdv))→sp vs H Q E →
   ∃ t,PSs (cxOf CX P w K mg base N qual scope f cdv A outer s H E) body t∧t { nx:=fun _ H'=>Q .non H',rt:=Q } (jer N vs) H) :
  FnOk P w K mg base CX (k + 1) f (PySem.W.fnOf name qual params body scope dV kV doc pm an cdv ct) ps sp:=by
 refine ⟨len,fun A outer s H args us vs Q E hr e0 hb r hsp=>?_⟩
 have hl:=len _ _ _ _ hsp
 have KX:K.In s.heap:=e0.mod.kin.keeps fun b o e=>(e0.bs b o e).1
 have lim:s.heap.NoLimit:=e0.mod.nolimit.keeps fun b o e=>(e0.bs b o e).1
 have hkind:∀ y ∈ ps.zip us,scope.names.lookup y.1 = some .local ∨ (scope.names.lookup y.1 = some .cell∧((cellsFrom (s.heap.objs.size + 1) scope.names []).lookup y.1).isSome = true):=fun ⟨n,v⟩ hy=>by
  rcases S.par n (List.of_mem_zip hy).1 with q | q
  ·exact .inl q
  ·exact .inr ⟨q,PySem.W.cellsFrom_some _ _ _ (.inl q)⟩
 refine codeAny_call_function hr.depth (KX _ _ lk) rfl S.co S.gen rfl (PySem.W.codeRec_of KX hcd) (hb _ _ _ _ ?_)
 refine wpAny_newFunctionEnv_cells S.kind hkind fun env he s1 x=>?_
 subst he
 refine ⟨lim.keeps x.toInCall.keep,codeAny_func ?_⟩
 obtain ⟨t,ht,hq⟩:=hbody A outer s H vs Q E (hr.deeper _) hsp
 have I:Inv (cxOf CX P w K mg base N qual scope f cdv A outer s H E) [] (jer N vs) H s1:=jlg S hr.hd e0 hl r x
 refine wpAny_mono (ht [] s1 (jer N vs) H _ I hq) (fun fl s' hs=>?_) fun e s' hs=>hs
 have fin:∀ {σ':St} {H':Hp} {v:V} {u:Value},Inv (cxOf CX P w K mg base N qual scope f cdv A outer s H E) [] σ' H' s'→RelV v u→Q v H'→CE outer P w H s Q u s' :=
  fun {σ' H' v u} J rv q=>⟨v,H',J.os,J.bare,J.base,J.hok,rv,q⟩
 cases fl with
 | ret u =>
  obtain ⟨v,σ',H',J,rv,q⟩:=hs
  exact fin J rv q
 | next =>
  obtain ⟨σ',H',J,q⟩:=hs
  exact fin (v:=V.non) (u:=Value.none) J rfl q
 | brk =>
  obtain ⟨_,_,_,q⟩:=hs
  exact False.elim q
 | cont =>
  obtain ⟨_,_,_,q⟩:=hs
  exact False.elim q
end L2
namespace L2
open PySem PySem.Spec PyProof.Rows
section
variable {X:Cx} {x:Str} {p pos:Pos} {e:Expr} {es:List Expr} {t:TA} {id T:String} {r:List V→Hp→VK→Prop}
def tCB (r:List V→Hp→VK→Prop) (t:TA):TE:=fun σ H Q=>t σ H fun vs H1=>r vs H1 Q
theorem jab (hc:jc0 X (.builtin id) r) (hg:Gl X x) (hm:X.mg x = none) (hv:bootBuiltins x = some (.builtin id)) (ha:PA X (e :: es) t) (hn:x ≠ "__name__":=by decide) (hdb:(x == ("__debug__":Str)) = false:=by decide)
  (he:starEach (e :: es) X.env = (false,eval e X.env) :: starEach es X.env:=by rfl) (hpl:(backTo pos (starEach es X.env)).any (·.1) = false:=by rfl):PE X (.Call (.Name x p) (e :: es) [] pos) (tCB r t):=by
 intro pins s σ H Q I h
 refine wpAny_Call_Name_kw (jek I hg hm hv ?_ hn hdb)
 exact PyProof.Rows.callWith_builtin1 (thn (ha pos pins s σ H _ I h) fun us s1 ⟨vs,H1,I1,r1,q1⟩=>hc pins s1 σ H1 vs us Q I1 r1 q1) he hpl
theorem jbt (hc:jc0 X (.type T) r) (hg:Gl X x) (hm:X.mg x = none) (hv:bootBuiltins x = some (.type T)) (ha:PA X (e :: es) t) (hn:x ≠ "__name__":=by decide) (hdb:(x == ("__debug__":Str)) = false:=by decide)
  (he:starEach (e :: es) X.env = (false,eval e X.env) :: starEach es X.env:=by rfl) (hpl:(backTo pos (starEach es X.env)).any (·.1) = false:=by rfl):PE X (.Call (.Name x p) (e :: es) [] pos) (tCB r t):=by
 intro pins s σ H Q I h
 refine wpAny_Call_Name_kw (jek I hg hm hv ?_ hn hdb)
 exact PyProof.Rows.callWith_type1 (thn (ha pos pins s σ H _ I h) fun us s1 ⟨vs,H1,I1,r1,q1⟩=>hc pins s1 σ H1 vs us Q I1 r1 q1) he hpl
end
end L2
namespace HT
open PySem PyProof.Rows
def lexLt:List Int→List Int→Bool
 | [],[]=>false
 | [],_ :: _=>true
 | _ :: _,[]=>false
 | x :: xs,y :: ys=>if x = y then lexLt xs ys else decide (x < y)
theorem lexLt_cons (x y:Int) (xs ys:List Int):lexLt (x :: xs) (y :: ys) = if x = y then lexLt xs ys else decide (x < y):=rfl
theorem jg3:lexLt [] [] = false:=rfl
theorem jey (y:Int) (ys:List Int):lexLt [] (y :: ys) = true:=rfl
theorem jez (x:Int) (xs:List Int):lexLt (x :: xs) [] = false:=rfl
theorem jn4 (A:Around) (s:Shared) (a:Int) (t:Tok) (c:Int) (u:Tok):∃ e,SeqAt.EqAt A s (.int a t) (.int c u) e∧(e = true ↔ a = c) :=
 ⟨(a == c),SeqAt.EqAt.int_int a t c u,by simp⟩
theorem jmf (A:Around) (s:Shared) (a:Int) (t:Tok) (c:Int) (u:Tok) (prog:Program) (w:World) (E:Value→Shared→Prop) (Q:Value→Shared→Prop) (h:Q (.bool (decide (a < c))) s) :
  wpAny (model prog w) A (richCompare .Lt (.int a t) (.int c u)) Q E s :=
 (PyProof.Rows.lt_int h:wpAny (model prog w) A (compareOp .Lt (.int a t) (.int c u)) Q E s)
section
open PySem.SeqAt
open PySem.AutoSeq1 (wpAny_loadPart')
open PySem.MeetsSeq PySem.MeetsSeq2 PySem.MeetsSeq3
theorem jfn (l b:Addr) (items items2:Array Value) (n n2:Nat) (dd dd2:Option Addr) (sl sl2:Array (Option Value)) (ns ms:List Int) (hi:IntsAre items.toList ns) (hj:IntsAre items2.toList ms) :
  Meets (Builtin.«tuple.__lt__» ⟨[.ref l,.ref b],[]⟩)
   (fun _ R s=>s.heap.get? l = some { cls:=.type "tuple",dict:=dd,data:=.seq items n,slots:=sl }∧s.heap.get? b = some { cls:=.type "tuple",dict:=dd2,data:=.seq items2 n2,slots:=sl2 } ∧
    R (.ok (.ret (.bool (lexLt ns ms)))) s) :=
 .of_wp fun prog w A R s h=>by
  obtain ⟨hp,g,d,tk,os⟩:=s; obtain ⟨hl,hb,h⟩:=h
  have f2:=AutoSeq1.sub_tuple_tuple
  have z1:items.size = ns.length:=by rw [← hi.length]; simp
  have z2:items2.size = ms.length:=by rw [← hj.length]; simp
  wp_walk using wpAny_loadPart' hl,wpAny_loadPart' hb,wpAny_forIn_list _ (fun rest b s'=>b.1 = none∧s' = ⟨hp,g,d,tk,os⟩∧∃ (vs ws:List Value) (ns' ms':List Int),rest = vs.zip ws ∧
   IntsAre vs ns'∧IntsAre ws ms'∧ns'.length + items2.size = ms'.length + items.size∧R (.ok (.ret (.bool (lexLt ns' ms')))) ⟨hp,g,d,tk,os⟩) _
  case turn =>
   rintro ⟨y,x⟩ rest b s' ⟨hb',rfl,vs,ws,ns',ms',hz,hvi,hwi,hlen,hR⟩
   cases hvi with
   | nil=>rw [List.zip_nil_left] at hz; cases hz
   | cons a t hvi' =>
    cases hwi with
    | nil=>rw [List.zip_nil_right] at hz; cases hz
    | cons c u hwi' =>
     rw [List.zip_cons_cons] at hz
     injection hz with hyx hrest
     injection hyx with hy hx
     subst hy hx
     rw [lexLt_cons] at hR
     simp only [List.length_cons] at hlen
     obtain ⟨e,he,hiff⟩:=jn4 A.in1 ⟨hp,g,d,tk,os⟩ a t c u
     refine wpAny_bind (he prog w _ _ ?_)
     cases e with
     | true =>
      rw [if_pos (hiff.mp rfl)] at hR
      wp_walk
      exact ⟨rfl,rfl,_,_,_,_,hrest,hvi',hwi',by omega,hR⟩
     | false =>
      rw [if_neg (fun q=>absurd (hiff.mpr q) Bool.false_ne_true)] at hR
      have hri:=jmf A.in1 ⟨hp,g,d,tk,os⟩ a t c u prog w
      wp_walk using hri
      exact ⟨_,rfl,by simpa using hR⟩
  case fin =>
   rintro ⟨b1,b2⟩ s' ⟨hb',rfl,vs,ws,ns',ms',hz,hvi,hwi,hlen,hR⟩
   simp only at hb'
   subst hb'
   have hv:lexLt ns' ms' = decide (items.size < items2.size):=by
    cases hvi with
    | nil =>
     cases hwi with
     | nil =>
      simp only [List.length_nil] at hlen
      rw [jg3]
      exact (decide_eq_false (by omega)).symm
     | cons c u hw =>
      simp only [List.length_nil,List.length_cons] at hlen
      rw [jey]
      exact (decide_eq_true (by omega)).symm
    | cons a t hv =>
     cases hwi with
     | nil =>
      simp only [List.length_nil,List.length_cons] at hlen
      rw [jez]
      exact (decide_eq_false (by omega)).symm
     | cons c u hw =>
      rw [List.zip_cons_cons] at hz
      cases hz
   rw [hv] at hR
   wp_walk
   exact ⟨_,rfl,by simpa [Builtin.Tuple.tupleCompareSizes] using hR⟩
  case h =>
   exact ⟨rfl,rfl,items.toList,items2.toList,ns,ms,rfl,hi,hj,by omega,h⟩
end
section
variable {prog:Program} {w:World} {A:Around} {E:Value→Shared→Prop} {s:Shared}
theorem lt_tupInts {l b:Addr} {items items2:Array Value} {ns ms:List Int} {Q:Value→Shared→Prop} (hl:IsTup s.heap l items) (hb:IsTup s.heap b items2) (hi:IntsAre items.toList ns) (hj:IntsAre items2.toList ms)
  (hu:A.units < cLine) (h:Q (.bool (lexLt ns ms)) s):wpAny (model prog w) A (compareOp .Lt (.ref l) (.ref b)) Q E s:=by
 obtain ⟨⟨cls,dd,data,sl⟩,ho,hc,n,hd⟩:=id hl
 obtain ⟨⟨cls2,dd2,data2,sl2⟩,ho2,hc2,n2,hd2⟩:=id hb
 simp only at hc hd hc2 hd2
 subst hc hd hc2 hd2
 exact richCompare_meets_room (op:=.Lt) ⟨_,ho,rfl⟩ ⟨_,ho2,rfl⟩ PySem.F.slot_tuple_lt PySem.F.entry_tuple_lt (PySem.F.args_tuple_lt_2 _ _) (jfn l b items items2 n n2 dd dd2 sl sl2 ns ms hi hj)
  ⟨ho,ho2,show Value.bool (lexLt ns ms) ≠ Value.notImplemented∧Q (.bool (lexLt ns ms)) s from ⟨(fun x=>nomatch x),h⟩⟩ hu
theorem cat_tup {t b:Addr} {vs ws:List Value} {Q:Value→Shared→Prop} (ht:IsTup s.heap t vs.toArray) (hb:IsTup s.heap b ws.toArray) (hv:vs ≠ [])
  (h1:ws = []→Q (.ref t) s) (h2:ws ≠ []→Q (.ref s.heap.objs.size) { s with heap:=s.heap.push { cls:=.type "tuple",data:=.seq (vs ++ ws).toArray } })
  (hsz:vs.length + ws.length ≤ sizeLine):wpAny (model prog w) A (binaryOp .Add (.ref t) (.ref b)) Q E s:=by
 obtain ⟨⟨cls,dd,data,sl⟩,ho,hc,n,hd⟩:=id ht
 obtain ⟨⟨cls2,dd2,data2,sl2⟩,ho2,hc2,n2,hd2⟩:=id hb
 simp only at hc hd hc2 hd2
 subst hc hd hc2 hd2
 have e:vs.toArray ++ ws.toArray = (vs ++ ws).toArray:=by simp
 by_cases hw:ws = []
 ·exact concat_meets ⟨_,ho,rfl⟩ ⟨_,ho2,rfl⟩ noFill_tuple_add seq_tuple_add PySem.F.slot_tuple_add PySem.F.entry_tuple_add (PySem.F.args_tuple_add_2 _ _)
   (tuple_addW1 t b vs.toArray ws.toArray n n2 dd dd2 sl sl2 (by simpa using hv) (by simp [hw])) ⟨ho,ho2,h1 hw⟩
 ·refine concat_meets ⟨_,ho,rfl⟩ ⟨_,ho2,rfl⟩ noFill_tuple_add seq_tuple_add PySem.F.slot_tuple_add PySem.F.entry_tuple_add (PySem.F.args_tuple_add_2 _ _)
   (tuple_addW2 t b vs.toArray ws.toArray n n2 dd dd2 sl sl2 (by simpa using hv) (by simpa using hw) (by rw [List.size_toArray,List.size_toArray]; exact hsz)) ⟨ho,ho2,?_⟩
  rw [e]
  exact h2 hw
def sIx (n d:Nat):Option Int→Nat
 | none=>d
 | some v=>if v < 0 then (v + (n:Int)).toNat else min v.toNat n
end
end HT
namespace L2
open PySem PySem.Spec PyProof.Rows
abbrev TO:=St→Hp→(Option Int→Hp→Prop)→Prop
def PO (X:Cx) (e:Option Expr) (t:TO):Prop :=
 ∀ (pins:List (Addr × Obj)) (s:Shared) (σ:St) (H:Hp) (Q:Option Int→Hp→Prop),Inv X pins σ H s→t σ H Q →
  wpAny (model X.prog X.w) X.A (evalPart e X.env) (fun u s'=>∃ o H',Inv X pins σ H' s'∧IsPart u o∧Q o H') X.xe s
def ji2:TO:=fun _ H Q=>Q none H
theorem jch {ns:List Int}:∀ {us:List Value},Vals (ns.map V.int) us→IntsAre us ns:=by
 induction ns with
 | nil=>intro us r; rw [List.map_nil] at r; cases r; exact .nil
 | cons n ns ih =>
  intro us r
  rw [List.map_cons] at r
  cases r with
  | cons r1 r2 =>
   obtain ⟨t,e⟩:=r1
   subst e
   exact .cons n t (ih r2)
section
variable {X:Cx} {e:Expr} {te:TE} {lo hi:Option Expr} {tl th:TO} {pos p2:Pos}
theorem joj:PO X none ji2:=by
 intro pins s σ H Q I h
 rw [evalPart_none]
 exact wpAny_pure ⟨none,H,I,.none,h⟩
def SlR (X:Cx) (r:V→Option Int→Option Int→Hp→VK→Prop):Prop :=
 ∀ (pins:List (Addr × Obj)) (s:Shared) (σ:St) (H:Hp) (x:V) (v vl vu:Value) (lo hi:Option Int) (sl:Addr) (Q:VK),Inv X pins σ H s→RelV x v→s.heap.IsSliceOf sl vl vu .none→IsPart vl lo→IsPart vu hi→r x lo hi H Q →
  ∃ T id,typeLookup (.type T) "__getitem__" = pure (some (.builtin id))∧s.TypeIs v T∧wpAny (model X.prog X.w) X.A (getItem v (.ref sl)) (EP X pins σ Q) X.xe s
def tSl (r:V→Option Int→Option Int→Hp→VK→Prop) (te:TE) (tl th:TO):TE:=fun σ H Q=>te σ H fun x H1=>tl σ H1 fun l H2=>th σ H2 fun u H3=>r x l u H3 Q
theorem jmn {r:V→Option Int→Option Int→Hp→VK→Prop} (hr:SlR X r) (he:PE X e te) (hl:PO X lo tl) (hu:PO X hi th):PE X (.Subscript e (.Slice lo hi none p2) pos) (tSl r te tl th):=by
 intro pins s σ H Q I h
 refine Subscript_ (thn (he pins s σ H _ I h) fun v s1 ⟨x,H1,I1,r1,q1⟩=>?_)
 refine wpAny_Slice (thn (hl pins s1 σ H1 _ I1 q1) fun vl s2 ⟨l,H2,I2,pl,q2⟩=>thn (hu pins s2 σ H2 _ I2 q2) fun vu s3 ⟨u,H3,I3,pu,q3⟩=>?_)
 rw [evalPart_none]
 refine wpAny_pure ?_
 have I4:Inv X pins σ H3 { s3 with heap:=s3.heap.push { cls:=.type "slice",data:=.fields #[vl,vu,.none] } }:=I3.kept (t':=s3.toks) fun b ob q=>Heap.get?_push_of_some _ q
 obtain ⟨T,id,hT,ht,hg⟩:=hr pins { s3 with heap:=s3.heap.push { cls:=.type "slice",data:=.fields #[vl,vu,.none] } } σ H3 x v vl vu l u s3.heap.objs.size Q I4 r1 (Heap.IsSliceOf.new ..) pl pu q3
 show wpAny (model X.prog X.w) X.A (subscriptTail e (.Slice lo hi none p2) v (.ref s3.heap.objs.size)) (EP X pins σ Q) X.xe { s3 with heap:=s3.heap.push { cls:=.type "slice",data:=.fields #[vl,vu,.none] } }
 exact tail_any (ops:=[.ref s3.heap.objs.size,v]) ht hT hg (by with_unfolding_all rfl)
def cutV (xs:List V) (lo hi:Option Int):List V:=(xs.drop (HT.sIx xs.length 0 lo)).take (HT.sIx xs.length xs.length hi - HT.sIx xs.length 0 lo)
theorem jis (xs:List V) (lo hi:Option Int):(cutV xs lo hi).length ≤ xs.length:=by
 unfold cutV
 rw [List.length_take,List.length_drop]
 omega
def rLtT (K:PySem.W.Frag):R2:=fun x y H Q=>∃ a b ns ms,x = .ref a∧y = .ref b∧SqT K H a (ns.map V.int)∧SqT K H b (ms.map V.int)∧Q (.bl (HT.lexLt ns ms)) H
theorem op_ltT (hu:X.A.units < cLine):OpR X (compareOp .Lt) (rLtT X.K):=by
 intro pins s σ H x y v u Q I rx ry h
 obtain ⟨a,b,ns,ms,rfl,rfl,ha,hb,q⟩:=h
 cases rx
 cases ry
 obtain ⟨its,r1,p1,_⟩:=I.tuple ha
 obtain ⟨its2,r2,p2,_⟩:=I.tuple hb
 have i1:IntsAre its.toArray.toList ns:=jch r1
 have i2:IntsAre its2.toArray.toList ms:=jch r2
 exact HT.lt_tupInts p1 p2 i1 i2 hu ⟨.bl (HT.lexLt ns ms),H,I,rfl,q⟩
def rCatT (K:PySem.W.Frag):R2:=fun x y H Q=>∃ a b xs ys,x = .ref a∧y = .ref b∧SqT K H a xs∧SqT K H b ys∧xs ≠ []∧xs.length + ys.length ≤ sizeLine ∧
 (ys = []→Q (.ref a) H)∧(ys ≠ []→∀ p,H p = none→Q (.ref p) (upd H p (.tup (xs ++ ys))))
theorem Vals.nil_iff {xs:List V} {us:List Value} (r:Vals xs us):us = [] ↔ xs = []:=by
 cases r with
 | nil=>simp
 | cons _ _=>simp
theorem joo:OpR X (binaryOp .Add) (rCatT X.K):=by
 intro pins s σ H x y v u Q I rx ry h
 obtain ⟨a,b,xs,ys,rfl,rfl,ha,hb,hx,hz,q1,q2⟩:=h
 cases rx
 cases ry
 obtain ⟨its,r1,p1,_⟩:=I.tuple ha
 obtain ⟨its2,r2,p2,_⟩:=I.tuple hb
 refine HT.cat_tup p1 p2 (fun z=>hx (r1.nil_iff.mp z)) (fun z=>⟨.ref a,H,I,rfl,q1 (r2.nil_iff.mp z)⟩) (fun z=>?_) (by rw [← r1.length,← r2.length]; exact hz)
 refine ⟨.ref s.heap.objs.size,_,I.laid (t':=s.toks) (o:=.tup (xs ++ ys)) (fun b ob q=>Heap.get?_push_of_some _ q) (Nat.le_refl _) ?_,rfl,q2 (fun w=>z (r2.nil_iff.mpr w)) _ (I.hok.fresh (Nat.le_refl _))⟩
 exact ⟨by rw [List.length_append]; exact hz,_,r1.append r2,IsTup.new _ _⟩
end
end L2
namespace L2
open PySem PySem.Spec PyProof.Rows
def ixN (n:Nat) (i:Int):Option Nat:=if 0 ≤ i then (if i < n then some i.toNat else none) else if -(n:Int) ≤ i then some (i + n).toNat else none
def atI {α:Type} (xs:List α) (i:Int):Option α:=(ixN xs.length i).bind fun j=>xs[j]?
theorem jle {n:Nat} {i:Int} {j:Nat} (h:ixN n i = some j):seqIndex? i n = some j∧j < n∧-(n:Int) ≤ i∧i < n:=by
 unfold ixN at h
 by_cases h0:0 ≤ i
 ·rw [if_pos h0] at h
  by_cases h1:i < n
  ·rw [if_pos h1] at h
   have e:i.toNat = j:=Option.some.inj h
   exact ⟨by rw [seqIndex_of h0 h1,e],by omega,by omega,h1⟩
  ·rw [if_neg h1] at h; cases h
 ·rw [if_neg h0] at h
  by_cases h1:-(n:Int) ≤ i
  ·rw [if_pos h1] at h
   have e:(i + n).toNat = j:=Option.some.inj h
   exact ⟨by rw [seqIndex_neg (by omega) h1,e],by omega,h1,by omega⟩
  ·rw [if_neg h1] at h; cases h
theorem jm1 {α:Type} {xs:List α} {i:Int} {v:α} (h:atI xs i = some v):∃ j,seqIndex? i xs.length = some j∧xs[j]? = some v∧j < xs.length∧-(xs.length:Int) ≤ i∧i < xs.length:=by
 unfold atI at h
 cases e:ixN xs.length i with
 | none=>rw [e] at h; cases h
 | some j =>
  rw [e] at h
  obtain ⟨h1,h2,h3,h4⟩:=jle e
  exact ⟨j,h1,h,h2,h3,h4⟩
theorem jc3 {α:Type} {xs:List α} {j:Nat} {v:α} (h:xs[j]? = some v):atI xs (j:Int) = some v:=by
 have hj:j < xs.length:=(List.getElem?_eq_some_iff.mp h).1
 have e:ixN xs.length (j:Int) = some j:=by
  unfold ixN
  rw [if_pos (by omega),if_pos (by omega)]; simp
 unfold atI; rw [e]; exact h
def jp6 (b:Expr):Prop:=∀ o i,subscripted b false o i = operate [o,i] (getItem o i)
def IxR (X:Cx) (r:R2):Prop :=
 ∀ (value slice:Expr) (pins:List (Addr × Obj)) (s:Shared) (σ:St) (H:Hp) (x y:V) (v u:Value) (Q:VK),Inv X pins σ H s→RelV x v→RelV y u→r x y H Q →
  subscripted slice false v u = operate [v,u] (getItem v u)→wpAny (model X.prog X.w) X.A (subscriptTail value slice v u) (EP X pins σ Q) X.xe s
def MtR (X:Cx) (id:String) (r:V→List V→Hp→VK→Prop):Prop :=
 ∀ (pins:List (Addr × Obj)) (s:Shared) (σ:St) (H:Hp) (x:V) (xs:List V) (v:Value) (us:List Value) (Q:VK),Inv X pins σ H s→RelV x v→Vals xs us→r x xs H Q →
  wpAny (model X.prog X.w) X.A (call (.builtin id) (v :: us)) (EP X pins σ Q) X.xe s
section
variable {X:Cx} {a b:Expr} {ta tb:TE} {pos:Pos}
theorem IxR.or {r r':R2} (h:IxR X r) (h':IxR X r'):IxR X (fun x y H Q=>r x y H Q ∨ r' x y H Q):=by
 intro value slice pins s σ H x y v u Q I rx ry q hs
 rcases q with q | q
 ·exact h value slice pins s σ H x y v u Q I rx ry q hs
 ·exact h' value slice pins s σ H x y v u Q I rx ry q hs
theorem jah {r:R2} (hr:IxR X r) (ha:PE X a ta) (hb:PE X b tb) (hs:jp6 b):PE X (.Subscript a b pos) (tOp r ta tb):=by
 intro pins s σ H Q I h
 exact Subscript_ (binT ha hb I h fun v u s2 x y H2 I2 rx ry q=>hr a b pins s2 σ H2 x y v u Q I2 rx ry q (hs _ _))
def rIxL (K:PySem.W.Frag):R2:=fun x y H Q=>∃ p xs i v,x = .ref p∧y = .int i∧SqL K H p xs∧atI xs i = some v∧Q v H
def rIxT (K:PySem.W.Frag):R2:=fun x y H Q=>∃ p xs i v,x = .ref p∧y = .int i∧SqT K H p xs∧atI xs i = some v∧Q v H
theorem jld:IxR X (rIxL X.K):=by
 intro value slice pins s σ H x y v u Q I rx ry h hs
 obtain ⟨p,xs,i,z,rfl,rfl,hq,he,q⟩:=h
 cases rx
 obtain ⟨t,rfl⟩:=ry
 obtain ⟨its,r,pl,hz⟩:=I.list hq
 obtain ⟨j,h1,h2,h3,h4,h5⟩:=jm1 he
 obtain ⟨w,ew,rw'⟩:=r.get h2
 have hl:=r.length
 have hn:=jhf
 have fin:EP X pins σ Q w s:=⟨z,H,I,rw',q⟩
 by_cases h0:0 ≤ i
 ·have hj:i.toNat = j:=by
   rw [seqIndex_of h0 h5] at h1
   exact Option.some.inj h1
  exact item_listR pl.isList h0 (by omega) (by rw [hj]; simpa using ew) fin hs
 ·have hj:(i + (its.toArray.size:Int)).toNat = j:=by
   rw [seqIndex_neg (by omega) h4] at h1
   rw [List.size_toArray,← hl]
   exact Option.some.inj h1
  exact subscriptTail_builtinR (x:=w) pl.isList.typeIs slot_list_getitem.lookup
   (wpAny_getItem_list_neg (Q:=fun r s'=>r = w∧EP X pins σ Q r s') pl.isList (by omega) (by rw [List.size_toArray] <;> omega) (by omega) (by rw [hj]; simpa using ew) ⟨rfl,fin⟩) hs
theorem ix_tup:IxR X (rIxT X.K):=by
 intro value slice pins s σ H x y v u Q I rx ry h hs
 obtain ⟨p,xs,i,z,rfl,rfl,hq,he,q⟩:=h
 cases rx
 obtain ⟨t,rfl⟩:=ry
 obtain ⟨its,r,pl,hz⟩:=I.tuple hq
 obtain ⟨j,h1,h2,h3,h4,h5⟩:=jm1 he
 obtain ⟨w,ew,rw'⟩:=r.get h2
 have hl:=r.length
 have hn:=jhf
 have fin:EP X pins σ Q w s:=⟨z,H,I,rw',q⟩
 exact subscriptTail_builtinR (x:=w) pl.typeIs slot_tuple_getitem.lookup
  (getItem_tuple (j:=j) (Q:=fun r s'=>r = w∧EP X pins σ Q r s') pl (by omega) (by omega) (by rw [List.size_toArray,← hl]; exact h1) (by simpa using ew) ⟨rfl,fin⟩) hs
theorem jju (its:List Value) (n j:Nat) (u:Value):Obj.mapSeq (·.setIfInBounds j u) { cls:=.type "list",data:=.seq its.toArray n } = { cls:=.type "list",data:=.seq (its.set j u).toArray n }:=by
 simp [Obj.mapSeq]
theorem Inv.lst {pins:List (Addr × Obj)} {σ:St} {H:Hp} {s:Shared} {p:Addr} {xs:List V} (I:Inv X pins σ H s) (h:H p = some (.lst xs)) :
  ∃ (its:List Value) (n:Nat),Vals xs its∧s.heap.get? p = some { cls:=.type "list",data:=.seq its.toArray n }∧xs.length ≤ sizeLine:=by
 obtain ⟨z,its,n,r,e⟩:=I.hok p _ h
 exact ⟨its,n,r,e,z⟩
theorem Inv.lstUpd {pins:List (Addr × Obj)} {σ:St} {H:Hp} {s:Shared} {p:Addr} {xs ys:List V} {its its':List Value} {n n':Nat} {f:Obj→Obj} (I:Inv X pins σ H s) (h:H p = some (.lst xs))
  (ho:s.heap.get? p = some { cls:=.type "list",data:=.seq its.toArray n }) (hf:f { cls:=.type "list",data:=.seq its.toArray n } = { cls:=.type "list",data:=.seq its'.toArray n' }) (r:Vals ys its') (hz:ys.length ≤ sizeLine) (t:Nat) :
  Inv X pins σ (upd H p (.lst ys)) { s with heap:=s.heap.update p f,toks:=t }:=by
 have e:(s.heap.update p f).get? p = some { cls:=.type "list",data:=.seq its'.toArray n' }:=by
  rw [Heap.get?_update_self f ho (by rw [hf] <;> rfl),hf]
 refine I.write (x:=p) (e:=p) (by rw [h]; trivial) (.inl rfl) (fun b u hb q=>(Heap.get?_update_other _ _ (Ne.symm hb)).trans q) ⟨_,e⟩ ?_
 exact ⟨hz,its',n',r,e⟩
def rSetL:V→V→V→Hp→(Hp→Prop)→Prop:=fun o i v H Q=>∃ p xs k j,o = .ref p∧i = .int k∧H p = some (.lst xs)∧ixN xs.length k = some j∧Q (upd H p (.lst (xs.set j v)))
theorem jmc:PSet X rSetL:=by
 intro pins s σ H o i v ov iv u Q I ro ri rv h
 obtain ⟨p,xs,k,j,rfl,rfl,hp,hj,q⟩:=h
 cases ro
 obtain ⟨t,rfl⟩:=ri
 obtain ⟨its,n,r,ho,hz⟩:=I.lst hp
 obtain ⟨h1,h2,h3,h4⟩:=jle hj
 have hl:=r.length
 have hn:=jhf
 have I':Inv X pins σ (upd H p (.lst (xs.set j v))) { s with heap:=s.heap.update p (Obj.mapSeq (·.setIfInBounds j u)) } :=
  I.lstUpd hp ho (jju its n j u) (r.set rv j) (by rw [List.length_set]; exact hz) s.toks
 by_cases h0:0 ≤ k
 ·have hk:k.toNat = j:=by
   rw [seqIndex_of h0 h4] at h1
   exact Option.some.inj h1
  exact PySem.W.ki_setAt ho h0 (by omega) (by rw [List.size_toArray,← hl]; exact h4) (by rw [hk]; exact ⟨_,I',q⟩)
 ·have hk:(k + (its.toArray.size:Int)).toNat = j:=by
   rw [seqIndex_neg (by omega) h3] at h1
   rw [List.size_toArray,← hl]
   exact Option.some.inj h1
  exact PySem.W.ki_setBack ho (by omega) (by rw [List.size_toArray,← hl]; exact h3) (by omega) (by rw [hk]; exact ⟨_,I',q⟩)
theorem jgw (lo hi:Option Int) (n:Nat):(sliceBounds lo hi none n).1 = ((HT.sIx n 0 lo:Nat):Int)∧(sliceBounds lo hi none n).2.1 = ((HT.sIx n n hi:Nat):Int)∧(sliceBounds lo hi none n).2.2 = 1:=by
 refine ⟨?_,?_,rfl⟩
 ·cases lo with
  | none=>simp [sliceBounds,HT.sIx]
  | some i =>
   simp only [sliceBounds,HT.sIx,Option.getD_none,show (1:Int) > 0 by decide,if_true]
   by_cases h:i < 0
   ·simp only [h,if_true] <;> omega
   ·simp only [h,if_false] <;> omega
 ·cases hi with
  | none=>simp [sliceBounds,HT.sIx]
  | some i =>
   simp only [sliceBounds,HT.sIx,Option.getD_none,show (1:Int) > 0 by decide,if_true]
   by_cases h:i < 0
   ·simp only [h,if_true] <;> omega
   ·simp only [h,if_false] <;> omega
theorem jfs (its:List Value) (lo hi:Option Int):slicePick its.toArray lo hi none = ((its.drop (HT.sIx its.length 0 lo)).take (HT.sIx its.length its.length hi - HT.sIx its.length 0 lo)).toArray:=by
 obtain ⟨h1,h2,h3⟩:=jgw lo hi its.toArray.size
 unfold slicePick
 rw [h1,h2,h3]
 simp only [sliceRange_one,pick_run,List.size_toArray] <;> rfl
def rSlL (K:PySem.W.Frag):V→Option Int→Option Int→Hp→VK→Prop:=fun x lo hi H Q=>∃ a xs,x = .ref a∧SqL K H a xs∧∀ p,H p = none→Q (.ref p) (upd H p (.lst (cutV xs lo hi)))
theorem jod:SlR X (rSlL X.K):=by
 intro pins s σ H x v vl vu lo hi sl Q I rx hs pl pu h
 obtain ⟨a,xs,rfl,hx,q⟩:=h
 cases rx
 obtain ⟨its,r,ht,hz⟩:=I.list hx
 have hlen:=r.length
 refine ⟨"list",_,slot_list_getitem.lookup,ht.isList.typeIs,?_⟩
 refine wpAny_getItem_list_slice ht.isList hs pl pu .none (by simp) ?_ (by rw [List.size_toArray] <;> omega)
 rw [jfs,← hlen]
 refine ⟨.ref s.heap.objs.size,_,I.laid (t':=s.toks) (o:=.lst (cutV xs lo hi)) (fun b ob q=>Heap.get?_push_of_some _ q) (Nat.le_refl _) ?_,rfl,q _ (I.hok.fresh (Nat.le_refl _))⟩
 exact ⟨Nat.le_trans (jis xs lo hi) hz,_,0,(r.drop (HT.sIx xs.length 0 lo)).take (HT.sIx xs.length xs.length hi - HT.sIx xs.length 0 lo),Heap.get?_push_size _ rfl⟩
def jd4:V→Bool
 | .non=>true
 | .bl _=>true
 | .int _=>true
 | .str _=>true
 | _=>false
def eqV:V→V→Bool
 | .non,.non=>true
 | .bl a,.bl b=>a == b
 | .bl a,.int b=>(if a then 1 else 0) == b
 | .int a,.bl b=>a == (if b then 1 else 0)
 | .int a,.int b=>a == b
 | .str a,.str b=>a == b
 | _,_=>false
theorem jo0 {A:Around} {s:Shared} {y x:V} {u v:Value} (ry:RelV y u) (rx:RelV x v) (fy:jd4 y = true) (fx:jd4 x = true):SeqAt.EqAt A s u v (eqV y x):=by
 cases y with
 | non =>
  cases ry
  cases x with
  | non=>cases rx; exact SeqAt.EqAt.same _
  | bl b=>cases rx; exact SeqAt.EqAt.none_bool b
  | int b=>obtain ⟨t,rfl⟩:=rx; exact SeqAt.EqAt.none_int b t
  | str b=>obtain ⟨t,rfl⟩:=rx; exact SeqAt.EqAt.none_str b t
  | _=>exact absurd (show false = true from fx) Bool.false_ne_true
 | bl a =>
  cases ry
  cases x with
  | non=>cases rx; exact SeqAt.EqAt.bool_none a
  | bl b=>cases rx; exact SeqAt.EqAt.bool_bool a b
  | int b=>obtain ⟨t,rfl⟩:=rx; exact SeqAt.EqAt.bool_int a b t
  | str b=>obtain ⟨t,rfl⟩:=rx; exact SeqAt.EqAt.bool_str a b t
  | _=>exact absurd (show false = true from fx) Bool.false_ne_true
 | int a =>
  obtain ⟨t',rfl⟩:=ry
  cases x with
  | non=>cases rx; exact SeqAt.EqAt.int_none a t'
  | bl b=>cases rx; exact SeqAt.EqAt.int_bool a t' b
  | int b=>obtain ⟨t,rfl⟩:=rx; exact SeqAt.EqAt.int_int a t' b t
  | str b=>obtain ⟨t,rfl⟩:=rx; exact SeqAt.EqAt.int_str a t' b t
  | _=>exact absurd (show false = true from fx) Bool.false_ne_true
 | str a =>
  obtain ⟨t',rfl⟩:=ry
  cases x with
  | non=>cases rx; exact SeqAt.EqAt.str_none a t'
  | bl b=>cases rx; exact SeqAt.EqAt.str_bool a t' b
  | int b=>obtain ⟨t,rfl⟩:=rx; exact SeqAt.EqAt.str_int a t' b t
  | str b=>obtain ⟨t,rfl⟩:=rx; exact SeqAt.EqAt.str_str a t' b t
  | _=>exact absurd (show false = true from fx) Bool.false_ne_true
 | _=>exact absurd (show false = true from fy) Bool.false_ne_true
def eqU (x:V) (u:Value):Bool:=match u with
 | .none=>eqV .non x
 | .bool b=>eqV (.bl b) x
 | .int i _=>eqV (.int i) x
 | .str z _=>eqV (.str z) x
 | _=>false
theorem jnz {x y:V} {u:Value} (r:RelV y u) (f:jd4 y = true):eqU x u = eqV y x:=by
 cases y with
 | non=>cases r; rfl
 | bl b=>cases r; rfl
 | int i=>obtain ⟨t,rfl⟩:=r; rfl
 | str z=>obtain ⟨t,rfl⟩:=r; rfl
 | _=>exact absurd (show false = true from f) Bool.false_ne_true
theorem jep {x:V}:∀ {xs:List V} {us:List Value},Vals xs us→xs.all jd4 = true→us.any (eqU x) = xs.any fun y=>eqV y x
 | _,_,.nil,_=>rfl
 | y :: xs,u :: us,.cons r t,f=>by
  rw [List.all_cons,Bool.and_eq_true] at f
  rw [List.any_cons,List.any_cons,jnz r f.1,jep t f.2]
theorem jdc {A:Around} {s:Shared} {x:V} {v:Value} (rx:RelV x v) (fx:jd4 x = true):∀ {xs:List V} {us:List Value},Vals xs us→xs.all jd4 = true→∀ u ∈ us,SeqAt.EqAt A s u v (eqU x u)
 | _,_,.nil,_=>fun u hu=>by cases hu
 | y :: xs,u :: us,.cons r t,f=>fun u' hu=>by
  rw [List.all_cons,Bool.and_eq_true] at f
  rcases List.mem_cons.mp hu with rfl | hu
  ·rw [jnz r f.1]; exact jo0 r rx f.1 fx
  ·exact jdc rx fx t f.2 u' hu
def inV (x:V) (xs:List V):Bool:=xs.any fun y=>eqV y x
def rIn (K:PySem.W.Frag) (neg:Bool):R2:=fun x y H Q=>∃ p xs,y = .ref p∧(SqL K H p xs ∨ SqT K H p xs)∧jd4 x = true∧xs.all jd4 = true∧Q (.bl (if neg then !inV x xs else inV x xs)) H
theorem jkz:OpR X (compareOp .In) (rIn X.K false):=by
 intro pins s σ H x y v u Q I rx ry h
 obtain ⟨p,xs,rfl,hq,fx,fs,q⟩:=h
 cases ry
 rcases hq with hq | hq
 ·obtain ⟨its,r,pl,hz⟩:=I.list hq
  refine SeqAt.in_listAt (eqU x) pl.isList (fun w hw=>jdc rx fx r fs w (by simpa using hw)) ⟨.bl _,H,I,rfl,?_⟩
  rw [show its.toArray.any (eqU x) = its.any (eqU x) by simp,jep r fs]
  exact q
 ·obtain ⟨its,r,pl,hz⟩:=I.tuple hq
  refine SeqAt.in_tupleAt (eqU x) pl (fun w hw=>jdc rx fx r fs w (by simpa using hw)) ⟨.bl _,H,I,rfl,?_⟩
  rw [show its.toArray.any (eqU x) = its.any (eqU x) by simp,jep r fs]
  exact q
theorem jh4:OpR X (compareOp .NotIn) (rIn X.K true):=by
 intro pins s σ H x y v u Q I rx ry h
 obtain ⟨p,xs,rfl,hq,fx,fs,q⟩:=h
 cases ry
 rcases hq with hq | hq
 ·obtain ⟨its,r,pl,hz⟩:=I.list hq
  refine SeqAt.notIn_listAt (eqU x) pl.isList (fun w hw=>jdc rx fx r fs w (by simpa using hw)) ⟨.bl _,H,I,rfl,?_⟩
  rw [show its.toArray.any (eqU x) = its.any (eqU x) by simp,jep r fs]
  exact q
 ·obtain ⟨its,r,pl,hz⟩:=I.tuple hq
  refine SeqAt.notIn_tupleAt (eqU x) pl (fun w hw=>jdc rx fx r fs w (by simpa using hw)) ⟨.bl _,H,I,rfl,?_⟩
  rw [show its.toArray.any (eqU x) = its.any (eqU x) by simp,jep r fs]
  exact q
theorem jcr:jc0 X (.builtin "len") (fun xs H Q=>∃ p ys,xs = [.ref p]∧(SqL X.K H p ys ∨ SqT X.K H p ys)∧Q (.int ys.length) H):=by
 intro pins s σ H xs us Q I r h
 obtain ⟨p,ys,rfl,hq,q⟩:=h
 obtain ⟨u,rfl,rx⟩:=je1 r
 cases rx
 have hn:=jhf
 rcases hq with hq | hq
 ·obtain ⟨its,r',pl,hz⟩:=I.list hq
  have hlen:=r'.length
  exact Calls.call_len_list pl.isList (by simp only [List.size_toArray] <;> omega) ⟨.int ys.length,H,I.tok _,⟨s.toks + 1,by rw [List.size_toArray,hlen]⟩,q⟩
 ·obtain ⟨its,r',pl,hz⟩:=I.tuple hq
  have hlen:=r'.length
  exact len_tuple pl (by simp only [List.size_toArray] <;> omega) ⟨.int ys.length,H,I.tok _,⟨s.toks + 1,by rw [List.size_toArray,hlen]⟩,q⟩
theorem jhr:jc0 X (.type "list") (fun xs H Q=>∃ p ys,xs = [.ref p]∧(SqL X.K H p ys ∨ SqT X.K H p ys)∧∀ l,H l = none→Q (.ref l) (upd H l (.lst ys))):=by
 intro pins s σ H xs us Q I r h
 obtain ⟨p,ys,rfl,hq,q⟩:=h
 obtain ⟨u,rfl,rx⟩:=je1 r
 cases rx
 have fin:∀ (its:List Value),Vals ys its→ys.length ≤ sizeLine→∀ (h':Heap) (c':Nat),(∀ b o',s.heap.get? b = some o'→h'.get? b = some o') →
   h'.get? s.heap.objs.size = some { cls:=.type "list",dict:=none,data:=.seq its.toArray c',slots:=#[] }→EP X pins σ Q (.ref s.heap.objs.size) { s with heap:=h' }:=fun its r' hz h' c' kp e =>
  ⟨.ref s.heap.objs.size,_,I.laid (t':=s.toks) kp (Nat.le_refl _) (show jbn X.prog X.w _ h' _ (.lst ys) from ⟨hz,its,c',r',e⟩),rfl,q _ (I.hok.fresh (Nat.le_refl _))⟩
 rcases hq with hq | hq
 ·obtain ⟨its,r',pl,hz⟩:=I.list hq
  have hlen:=r'.length
  obtain ⟨o,ho,hc,n,hd⟩:=pl.isList
  exact call_list_seq p (.inl rfl) ho hc hd (fun h' c' kp e=>fin its r' hz h' c' kp e) (by simp only [List.size_toArray] <;> omega)
 ·obtain ⟨its,r',pl,hz⟩:=I.tuple hq
  have hlen:=r'.length
  obtain ⟨o,ho,hc,n,hd⟩:=pl
  exact call_list_seq p (.inr rfl) ho hc hd (fun h' c' kp e=>fin its r' hz h' c' kp e) (by simp only [List.size_toArray] <;> omega)
def tyV (K:PySem.W.Frag) (T:String) (x:V) (H:Hp):Prop:=match x with
 | .str _=>T = "str"
 | .int _=>T = "int"
 | .ref p=>(T = "list"∧∃ xs,SqL K H p xs) ∨ (T = "tuple"∧∃ o,K.lookup p = some o∧o.cls = .type "tuple"∧o.dict = none) ∨
   (T = "dict"∧((∃ kvs,H p = some (.dK kvs)) ∨ ∃ kvs,H p = some (.dT kvs))) ∨ (T = "set"∧∃ S n,H p = some (.set S n))
 | _=>False
theorem tyV_is {pins:List (Addr × Obj)} {σ:St} {H:Hp} {s:Shared} {T:String} {x:V} {v:Value} (I:Inv X pins σ H s) (r:RelV x v) (ty:tyV X.K T x H) :
  s.TypeIs v T∧∀ a,v = .ref a→∃ ob,s.heap.get? a = some ob∧ob.dict = none:=by
 cases x with
 | str z =>
  obtain ⟨t,rfl⟩:=r
  cases (show T = "str" from ty)
  exact ⟨typeIs_str s z t,fun _ e=>nomatch e⟩
 | int i =>
  obtain ⟨t,rfl⟩:=r
  cases (show T = "int" from ty)
  exact ⟨typeIs_int s i t,fun _ e=>nomatch e⟩
 | ref p =>
  cases r
  rcases ty with ⟨rfl,xs,hq⟩ | ⟨rfl,o,hk,hc,hd⟩ | ⟨rfl,hk⟩ | ⟨rfl,S,n,hk⟩
  ·obtain ⟨its,_,pl,_⟩:=I.list hq
   refine ⟨pl.isList.typeIs,fun a e=>?_⟩
   cases e
   obtain ⟨o,n,e,c,hd,_⟩:=pl
   exact ⟨o,e,hd⟩
  ·refine ⟨⟨o,I.kIn p o hk,hc⟩,fun a e=>?_⟩
   cases e
   exact ⟨o,I.kIn _ o hk,hd⟩
  ·have z:∃ o,s.heap.get? p = some o∧o.ExactDict:=by
    rcases hk with ⟨kvs,hk⟩ | ⟨kvs,hk⟩
    ·obtain ⟨_,_,_,_,o,_,_,e,ex,_⟩:=I.hok p _ hk
     exact ⟨o,e,ex⟩
    ·obtain ⟨_,_,_,_,o,_,_,e,ex,_⟩:=I.hok p _ hk
     exact ⟨o,e,ex⟩
   obtain ⟨o,e,ex⟩:=z
   refine ⟨⟨o,e,ex.1⟩,fun a e2=>?_⟩
   cases e2
   exact ⟨o,e,ex.2.1⟩
  ·obtain ⟨o,_,_,_,e,ex,_⟩:=I.hok p _ hk
   refine ⟨⟨o,e,ex.1⟩,fun a e2=>?_⟩
   cases e2
   exact ⟨o,e,ex.2.1⟩
 | _=>exact False.elim ty
variable {o e:Expr} {es:List Expr} {to:TE} {t:TA} {name:Str} {apos cpos:Pos} {T id:String} {r:V→List V→Hp→VK→Prop}
/- xs.append(e),list.index on a module's tuple .. are MtR facts of 06m -/
end
end L2
namespace L2
open PySem PySem.Spec PyProof.Rows
def MtM (X:Cx) (id:String) (r:V→List V→Hp→VK→Prop):Prop :=
 ∀ (pins:List (Addr × Obj)) (s:Shared) (σ:St) (H:Hp) (x:V) (xs:List V) (v:Value) (us:List Value) (Q:VK),Inv X pins σ H s→RelV x v→Vals xs us→r x xs H Q →
  wpAny (model X.prog X.w) X.A (call (.builtin id) (v :: us)) (EP X pins σ Q) X.xe s
theorem Vals.one:∀ {x:V} {us:List Value},Vals [x] us→∃ u,us = [u]∧RelV x u
 | _,_,.cons r .nil=>⟨_,rfl,r⟩
theorem Vals.two:∀ {x y:V} {us:List Value},Vals [x,y] us→∃ u v,us = [u,v]∧RelV x u∧RelV y v
 | _,_,_,.cons r (.cons q .nil)=>⟨_,_,rfl,r,q⟩
theorem Vals.eraseIdx:∀ {xs:List V} {us:List Value} (i:Nat),Vals xs us→Vals (xs.eraseIdx i) (us.eraseIdx i)
 | _,_,_,.nil=>.nil
 | _,_,0,.cons _ t=>t
 | _,_,i + 1,.cons r t=>.cons r (Vals.eraseIdx i t)
theorem jhg {α:Type}:∀ (l:List α) (i:Nat),(l.eraseIdx i).length ≤ l.length
 | [],_=>Nat.le_refl _
 | _ :: _,0=>Nat.le_succ _
 | _ :: r,i + 1=>Nat.succ_le_succ (jhg r i)
section
variable {X:Cx} {pins:List (Addr × Obj)} {σ:St} {H:Hp} {s:Shared} {l b:Addr} {xs ys zs:List V}
theorem Inv.lset {its its':List Value} {n:Nat} {f:Array Value→Array Value} {t':Nat} (I:Inv X pins σ H s) (hH:H l = some (.lst xs))
  (e:s.heap.get? l = some { cls:=.type "list",data:=.seq its.toArray n }) (hf:f its.toArray = its'.toArray) (hv:Vals ys its') (hz:ys.length ≤ sizeLine) :
  Inv X pins σ (upd H l (.lst ys)) { s with heap:=s.heap.update l (Obj.mapSeq f),toks:=t' }:=by
 have q:=PySem.IsL.update e f
 rw [hf] at q
 refine I.write (x:=l) (e:=l) (by rw [hH]; exact trivial) (.inl rfl) (fun b' u hb hu=>(Heap.get?_update_other s.heap (Obj.mapSeq f) (Ne.symm hb)).trans hu) ⟨_,q⟩ ?_
 exact ⟨hz,its',_,hv,q⟩
theorem Inv.lnew {its:List Value} {t':Nat} (I:Inv X pins σ H s) (hv:Vals ys its) (hz:ys.length ≤ sizeLine) :
  Inv X pins σ (upd H s.heap.objs.size (.lst ys)) { s with heap:=s.heap.push { cls:=.type "list",data:=.seq its.toArray },toks:=t' } :=
 I.laid (fun _ _ q=>Heap.get?_push_of_some _ q) (Nat.le_refl _) ⟨hz,its,0,hv,Heap.get?_push_size _ rfl⟩
theorem Inv.fresh (I:Inv X pins σ H s):H s.heap.objs.size = none:=I.hok.fresh (Nat.le_refl _)
theorem Inv.lstM (I:Inv X pins σ H s) (hH:H l = some (.lst xs)):xs.length ≤ sizeLine∧∃ (its:List Value) (n:Nat),Vals xs its∧xs.length = its.length∧s.heap.get? l = some { cls:=.type "list",data:=.seq its.toArray n }:=by
 obtain ⟨z,its,n,r,e⟩:=I.hok l _ hH
 exact ⟨z,its,n,r,r.length,e⟩
end
section
variable {X:Cx}
def jkr:V→List V→Hp→VK→Prop:=fun x vs H Q=>∃ l xs y,x = .ref l∧vs = [y]∧H l = some (.lst xs)∧xs.length < sizeLine∧Q .non (upd H l (.lst (xs ++ [y])))
theorem jhc:MtM X "list.append" jkr:=by
 intro pins s σ H x vs v us Q I rx rv h
 obtain ⟨l,xs,y,rfl,rfl,hH,hz,q⟩:=h
 cases rx
 obtain ⟨u,rfl,ru⟩:=rv.one
 obtain ⟨z,its,n,r,hl,e⟩:=I.lstM hH
 refine call_meets F.slot_list_append ⟨_,e,rfl⟩ F.entry_list_append (F.args_list_append_2 _ _) (PySem.list_append l its.toArray n u (by rw [List.size_toArray]; omega)) ⟨e,?_⟩
 refine ⟨.non,_,I.lset (its':=its ++ [u]) hH e (by simp) (r.append (.cons ru .nil)) ?_,rfl,q⟩
 rw [List.length_append,List.length_singleton]
 omega
def jnk:V→List V→Hp→VK→Prop:=fun x vs H Q=>∃ l xs i k y,x = .ref l∧vs = [.int i]∧H l = some (.lst xs)∧-(2 ^ 63) ≤ i∧i < 2 ^ 63∧seqIndex? i xs.length = some k∧xs[k]? = some y∧Q y (upd H l (.lst (xs.eraseIdx k)))
theorem jmr:MtM X "list.pop" jnk:=by
 intro pins s σ H x vs v us Q I rx rv h
 obtain ⟨l,xs,i,k,y,rfl,rfl,hH,h1,h2,hk,hy,q⟩:=h
 cases rx
 obtain ⟨u,rfl,ru⟩:=rv.one
 obtain ⟨t,rfl⟩:=ru
 obtain ⟨z,its,n,r,hl,e⟩:=I.lstM hH
 obtain ⟨w,hw,rw'⟩:=r.get hy
 refine call_meets F.slot_list_pop ⟨_,e,rfl⟩ F.entry_list_pop (F.args_list_pop_2 _ _)
  (MeetsSeq.list_pop_at l its.toArray n i t k w (fitsIndex_both h1 h2) (by rw [List.size_toArray,← hl]; exact hk) (by rw [← Array.getElem?_toList]; exact hw) (by rw [List.size_toArray]; omega)) ⟨e,?_⟩
 refine ⟨y,_,I.lset (its':=its.eraseIdx k) hH e ?_ (r.eraseIdx k) ?_,rw',q⟩
 ·show its.toArray.eraseIdxIfInBounds k = (its.eraseIdx k).toArray
  rw [List.eraseIdxIfInBounds_toArray]
 ·have:=jhg xs k
  omega
def rCat:R2:=fun x y H Q=>∃ l b xs zs,x = .ref l∧y = .ref b∧H l = some (.lst xs)∧H b = some (.lst zs)∧xs.length + zs.length ≤ sizeLine∧∀ p,H p = none→Q (.ref p) (upd H p (.lst (xs ++ zs)))
theorem op_cat:OpR X (binaryOp .Add) rCat:=by
 intro pins s σ H x y v u Q I rx ry h
 obtain ⟨l,b,xs,zs,rfl,rfl,hH,hB,hz,q⟩:=h
 cases rx
 cases ry
 obtain ⟨z,its,n,r,hl,e⟩:=I.lstM hH
 obtain ⟨z2,its2,n2,r2,hl2,e2⟩:=I.lstM hB
 refine PySem.P.add_list e e2 ?_ (by rw [List.size_toArray,List.size_toArray]; omega)
 have ea:its.toArray ++ its2.toArray = (its ++ its2).toArray:=by simp
 rw [ea]
 exact ⟨.ref _,_,I.lnew (t':=s.toks) (r.append r2) (by rw [List.length_append]; omega),rfl,q _ I.fresh⟩
end
section
variable {prog:Program} {w:World} {A:Around} {E:Value→Shared→Prop} {s:Shared}
end
section
variable {X:Cx}
end
end L2
namespace Att
open PySem PySem.W PySem.Calls PyProof.Rows
theorem jel {P:Params} {h:Heap}:∀ (ns:List Int) (vs:List Value),WellAll P h vs (ns.map WData.int)→IntsAre vs ns:=by
 intro ns
 induction ns with
 | nil =>
  intro vs w
  rw [List.map_nil] at w
  cases w
  exact .nil
 | cons n ns ih =>
  intro vs w
  rw [List.map_cons] at w
  cases w with
  | cons a b =>
   cases a
   exact .cons _ _ (ih _ b)
theorem jko {l:OpenLaw} {n:Nat} (hn:l.most = some n) {P:Params} {h:Heap} {args:List WData} {vals:List Value}
  (hpre:l.row.toRowW.claim.pre args = true) (hwl:WellAll P h vals args) :
  ∃ a vs ns,vals = [Value.ref a]∧args = [WData.list (ns.map WData.int)]∧h.get? a = some { cls:=.type "list",data:=.seq vs.toArray }∧IntsAre vs ns∧ns.length ≤ n:=by
 have hsh:WShape.hasAll [] args [.list .int] = true:=(pre_splitW hpre).1
 have hc:l.pre.holds [] { args:=args } = true:=(pre_splitW hpre).2
 obtain ⟨d,r,rfl,h1,h2⟩:=hasAllW_cons hsh
 obtain rfl:=hasAllW_nil h2
 obtain ⟨xs,rfl,h3⟩:=hasW_list h1
 obtain ⟨ns,rfl⟩:=items_int h3
 have hlen:ns.length ≤ n:=by
  unfold OpenLaw.pre at hc
  have h4:(WTm.not (.lt (.lit (.int (n:Int))) (.len (.arg 0)))).holds [] { args:=[.list (ns.map .int)] } = true:=by
   have h4:=(holds_andW hc).1
   rw [hn] at h4
   exact h4
  have h5:=condW_of h4 (w_not (w_lt w_lit (w_len_list (w_arg rfl))))
  rw [List.length_map] at h5
  refine Nat.le_of_not_lt fun q=>?_
  have q':(n:Int) < ((ns.length:Nat):Int):=by omega
  first
   | (rw [decide_eq_true q'] at h5; exact absurd h5 (by decide))
   | (simp at h5; omega)
 cases hwl with
 | cons w1 w2 =>
  cases w2
  cases w1 with
  | list ho hall=>exact ⟨_,_,ns,rfl,rfl,ho,jel ns _ hall,hlen⟩
theorem jkw (l:OpenLaw) (args:List WData):l.row.toRowW.claim.post args (.bool true) args = true :=
 postW_of (r:=l.row.toRowW) (X:=(true == true))
  (show WShape.has [] (.bool true) .bool = true by first | rfl | decide | simp [WShape.has,WShape.arms,WShape.armsAll])
  (show (WTm.eq .res (.lit (.bool true))).value [] { args:=args,res:=some (.bool true),after:=args } = some (.bool (true == true)) from w_eq_bool (w_res rfl) w_lit) rfl
theorem attach_call {l:OpenLaw} {n:Nat} {q:Program} {loose:List Str} {XP:(Str→Option Value)→Heap→Prop} {YP:World→Heap→Prop} {d:DefRec}
  (hn:l.most = some n) (hdf:d.params.defaults = [])
  (call:∀ (w:World) (s₀ s₁:Shared) (mg mb:Str→Option Value) (fa:Addr) (o:Obj) (pm cd doc:Value) (a:Addr) (vs:List Value) (ns:List Int),
   Ground q loose [] XP w s₀ mg mb s₁.heap→YP w s₁.heap →
   s₁.heap.get? fa = some o→o.data = .func (docDef d.name d.params d.body d.scope pm cd doc)→s₁.heap.CodeRec cd d.name→mg d.name = some (.ref fa) →
   s₁.heap.get? a = some { cls:=.type "list",data:=.seq vs.toArray }→IntsAre vs ns→ns.length ≤ n→s₁.gens = #[] →
   codeAny (model l.prog w) callerA (.call (.ref fa) ⟨[.ref a],[]⟩) (fun r s'=>r = .ok (.ret (.bool true))∧OldK s₁.heap s'.heap∧s'.os = s₁.os∧AllBare s'.gens) s₁) :
  WalkO q loose XP YP l.row.toRowW d [] (fun f vs=>PySem.call f vs):=by
 intro w s₀ s₁ mg mb G Y fa o pm cd doc dV kV ho hd hcd hD hmg hg args vals as hpre hlay hrd hwl hlo
 obtain rfl:dV = .none:=Dflts.none hD hdf
 obtain rfl:kV = .none:=Dflts.noKw hD
 obtain ⟨a,vs,ns,rfl,rfl,hobj,hints,hlen⟩:=jko hn hpre hwl
 refine enter_call (codeAny_mono (call w s₀ s₁ mg mb fa o pm cd doc a vs ns G Y ho (fd_plain hd) hcd hmg hobj hints hlen hg) fun r s' hq=>?_)
 obtain ⟨rfl,h2,h3,h4⟩:=hq
 exact ⟨.inl ⟨.bool true,.bool true,[],rfl,fun _=>rfl,.bool true,jkw l _,fun _=>⟨List.Pairwise.nil,fun _ hm=>(nomatch hm)⟩⟩,h2,h3,h4⟩
section
variable {prog:Program} {w:World} {A:Around} {E:Value→Shared→Prop} {s:Shared} {K:Frag}
end
end Att
namespace L2
open PySem PySem.Spec PyProof.Rows
theorem je0:∀ {vs:List Value} {ns:List Int},IntsAre vs ns→Vals (ns.map V.int) vs
 | _,_,.nil=>.nil
 | _,_,.cons n t h=>.cons ⟨t,rfl⟩ (je0 h)
def Only (H:Hp):Prop:=∀ b,H b = none ∨ ∃ o xs,H b = some (.frz o (.lst xs))
theorem jmu {P:Program} {w:World} {K:PySem.W.Frag} {mg mb:Str→Option Value} {CX:CXT} {k:Nat} {fa a:Addr} {fd:FuncData} {x:Str} {sp:Sp} {s₁:Shared} {vs:List Value} {ns:List Int}
  (KX:K.In s₁.heap) (hns:s₁.heap.Ns mainGlobals mg) (hb:s₁.heap.Ns builtinsNs mb) (hbb:∀ x:Str,x ≠ "__name__"→mb x = bootBuiltins x) (hlim:s₁.heap.NoLimit) (hg:s₁.gens = #[])
  (ha:s₁.heap.get? a = some { cls:=.type "list",data:=.seq vs.toArray }) (hi:IntsAre vs ns) (hl:ns.length ≤ sizeLine) (hr:Room k callerA)
  (F:∀ base:Heap,K.In base→base.Ns mainGlobals mg→FnOk P w K mg base CX k fa fd [x] sp) (hbind:∀ (s:Shared) (u:Value),BindsTo s fd ⟨[u],[]⟩ [(x,u)])
  (hsp:∀ H:Hp,Only H→SqL K H a (ns.map V.int)→sp [.ref a] H (fun v _=>v = .bl true) fun _ _ _=>False)
  (hCX:∀ H e s',CX [] H s₁ (fun _ _ _=>False) e s'→False) :
  codeAny (model P w) callerA (.call (.ref fa) ⟨[.ref a],[]⟩) (fun r s'=>r = .ok (.ret (.bool true))∧OldK s₁.heap s'.heap∧s'.os = s₁.os∧AllBare s'.gens) s₁:=by
 have rv:=je0 hi
 have lenV:=hi.length
  -- from an abstract heap in which nothing but the script may be tracked
 have core:∀ H:Hp,Only H→SqL K H a (ns.map V.int)→HOk P w H s₁.heap→(∀ b,H b ≠ none→b = a)→(H a ≠ none→K.lookup a = none) →
   codeAny (model P w) callerA (.call (.ref fa) ⟨[.ref a],[]⟩) (fun r s'=>r = .ok (.ret (.bool true))∧OldK s₁.heap s'.heap∧s'.os = s₁.os∧AllBare s'.gens) s₁:=by
  intro H hO hS hok hA hK
  have base_of:∀ {b:Addr} {o:Obj},s₁.heap.get? b = some o→H b = none→(hidT s₁.heap H).get? b = some o:=fun e n=>jmx e n
  have noA:∀ {b:Addr} {o:Obj} {es:Array DictEntry} {ep:Nat},s₁.heap.get? b = some o→o.data = .dict es ep→H b = none:=fun {b o es ep} e d=>by
   cases q:H b with
   | none=>rfl
   | some u =>
    have e':b = a:=hA b (by rw [q]; simp)
    subst e'
    rw [ha] at e; cases e
    have d':Data.seq vs.toArray _ = Data.dict es ep:=d
    cases d'
  have nsK:∀ {b:Addr} {m:Str→Option Value},s₁.heap.Ns b m→(hidT s₁.heap H).Ns b m:=fun {b m} ⟨o,es,ep,e,d,r⟩=>⟨o,es,ep,base_of e (noA e d),d,r⟩
  have hKb:K.In (hidT s₁.heap H):=fun b o e=>base_of (KX b o e) (by
   cases q:H b with
   | none=>rfl
   | some u =>
    have e':b = a:=hA b (by rw [q]; simp)
    subst e'
    rw [hK (by rw [q]; simp)] at e; cases e)
  have hM:Mod K mg (hidT s₁.heap H):=⟨hKb,nsK hns,⟨mb,nsK hb,hbb⟩,let ⟨mc,h1,h2⟩:=hlim; ⟨mc,nsK h1,h2⟩⟩
  have e0:Env0 P w K mg (hidT s₁.heap H) callerA [] s₁ H:=⟨rfl,hM,fun b o e=>jop e,Nat.le_of_eq (jli _ _),trivial,fun b hb=>absurd (show b ∈ ([]:List Addr) from hb) (by simp),hok,.of_eq hg⟩
  refine codeAny_mono ((F _ hKb (nsK hns)).run callerA [] s₁ H ⟨[.ref a],[]⟩ [.ref a] [.ref a] _ _ hr e0 (hbind s₁ (.ref a)) (.cons rfl .nil) (hsp H hO hS)) fun r s' h=>?_
  cases r with
  | error e=>exact (hCX H e s' h).elim
  | ok fl =>
   cases fl with
   | next=>exact False.elim h
   | brk=>exact False.elim h
   | cont=>exact False.elim h
   | ret u =>
    obtain ⟨v,H',os,bare,un,hok',r',q⟩:=h
    have q':v = .bl true:=q
    subst q'
    obtain rfl:u = Value.bool true:=r'
    refine ⟨rfl,OldK.of_keep fun b o e=>?_,os,bare⟩
    cases q:H b with
    | none=>exact un.keep b o e q (by intro z; exact absurd (show b ∈ ([]:List Addr) from z) (by simp)) (by simp)
    | some u =>
     rcases hO b with z | ⟨ob,xs,z⟩
     ·rw [q] at z; cases z
     ·have z2:=un.frzs b ob _ z
      obtain ⟨e1,_⟩:=hok b _ z
      obtain ⟨e2,_⟩:=hok' b _ z2
      rw [e] at e1; cases e1
      exact e2
 cases hk:K.lookup a with
 | some o =>
    -- the script is one of the module's own objects
  have e:=KX a o hk
  rw [ha] at e
  cases e
  refine core (fun _=>none) (fun _=>.inl rfl) (.inr ⟨_,vs.toArray,_,hk,rfl,rfl,rfl,by rw [List.size_toArray,lenV]; exact hl,by simpa using rv⟩) (fun b u z=>by have z':(none:Option HO) = some u:=z; cases z') (fun b z=>absurd rfl z) fun z=>absurd rfl z
 | none =>
  refine core (fun b=>if b = a then some (.frz { cls:=.type "list",data:=.seq vs.toArray } (.lst (ns.map V.int))) else none) (fun b=>?_) (.inl (.inr ⟨{ cls:=.type "list",data:=.seq vs.toArray },if_pos rfl⟩)) (fun b u z=>?_) (fun b z=>?_) fun _=>hk
  ·by_cases hb:b = a
   ·exact .inr ⟨_,_,if_pos hb⟩
   ·exact .inl (if_neg hb)
  ·by_cases hb:b = a
   ·have z':=(if_pos hb).symm.trans z
    cases z'
    subst hb
    exact ⟨ha,by rw [List.length_map]; exact hl,vs,_,rv,ha⟩
   ·have z':=(if_neg hb).symm.trans z
    cases z'
  ·by_cases hb:b = a
   ·exact hb
   ·exact absurd (if_neg hb) z
end L2
namespace L2
open PySem PySem.Spec PyProof.Rows
abbrev KOf {K:PySem.W.Frag} {h:Heap} (_:K.In h):PySem.W.Frag:=K
theorem jjz {l:PySem.W.OpenLaw} {n k:Nat} {q:Program} {loose:List Str} {XP:(Str→Option Value)→Heap→Prop} {YP:World→Heap→Prop} {d:DefRec} {K:Params→PySem.W.Frag} {CX:World→CXT} {sp:World→Sp} {x:Str}
    (hn:l.most = some n) (hn2:n ≤ sizeLine) (hdf:d.params.defaults = []) (hr:Room k callerA)
    (hY:∀ (w:World) (h:Heap),YP w h→(K w.params).In h)
    (F:∀ (w:World) (mg:Str→Option Value) (fa:Addr) (h:Heap),(K w.params).In h→h.Ns mainGlobals mg→mg d.name = some (.ref fa) →
      ∃ fd:FuncData,(∀ (s:Shared) (u:Value),BindsTo s fd ⟨[u],[]⟩ [(x,u)]) ∧
        ∀ base:Heap,(K w.params).In base→base.Ns mainGlobals mg→FnOk l.prog w (K w.params) mg base (CX w) k fa fd [x] (sp w))
    (hsp:∀ (w:World) (H:Hp) (a:Addr) (ns:List Int),ns.length ≤ n→Only H→SqL (K w.params) H a (ns.map V.int)→sp w [.ref a] H (fun v _=>v = .bl true) fun _ _ _=>False)
    (hCX:∀ (w:World) (H:Hp) (s:Shared) (e:Value) (s':Shared),CX w [] H s (fun _ _ _=>False) e s'→False) :
    PySem.W.WalkO q loose XP YP l.row.toRowW d [] (fun f vs=>PySem.call f vs):=by
  refine Att.attach_call hn hdf fun w s₀ s₁ mg mb fa o pm cd doc a vs ns G Y ho hd hcd hmg hobj hints hlen hg=>?_
  have KX:=hY w _ Y
  obtain ⟨fd,hb,hF⟩:=F w mg fa _ KX G.T.g hmg
  exact jmu KX G.T.g G.T.b G.T.builtins G.T.nolimit hg hobj hints (Nat.le_trans hlen hn2) hr hF hb (fun H hO hS=>hsp w H a ns hlen hO hS) fun H e s'=>hCX w H s₁ e s'
end L2
/- THE LAST THEOREM (shape; LID,My.* are yours):
   My.Adr: a structure of the addresses that your layer names (classes,functions); My.Txt K t: a structure (Prop) of the equations over K;
   My.txt_mk:{K} {implicit addresses ..} (e1:nsIn K mainGlobals "law" = some (some (.ref f))) (e2:K.lookup f = some ⟨oc,od,.func (fnOf "law" "law" params body scope dV kV doc pm an cdv ct),sl⟩) (e3:codeIn K cdv "law" = true) ..:∃ t,My.Txt K t
set_option maxRecDepth 100000 in
set_option maxHeartbeats 0 in
theorem PySem.Challenge.cw_LID_holds : PySem.Challenge.rw_LID.Holds := by
 w_on; o_law; k_head; (case hw=>w_witness2)
 k_fill
 refine L2.jjz (l:=PySem.Challenge.rw_LID) (n:=63) (k:=40) (x:="script") (CX:=fun w=>..) (sp:=fun _=>My.sp_law) rfl (by decide) rfl ⟨rfl,by decide,by decide⟩ (fun w h Y=>PySem.W.kIn_of Y) ?F ?S ?C
 case F =>
  intro w mg fa h KX G hmg
  have T:∃ t,My.Txt (L2.KOf KX) t:=by
   dsimp only [L2.KOf]                          -- K must stand as «<heap const> w.params» for k_is
   refine' My.txt_mk ?e1 ?e2 ?e3 ..
   (case e1=>PySem.W.k_is)                    -- in the order: a name -> its address -> its object -> its parts
   (case e2=>PySem.W.k_is)
   ..
  obtain ⟨t,T⟩:=T
  have e0:=hmg.symm.trans (PySem.W.mg_of KX G T.law)
  cases e0                                       -- fa is the law's own address
  exact ⟨_,fun s u=>.of_eq rfl,fun base kb nb=>My.law_fn T kb nb⟩     -- if «.of_eq rfl» comes too early: refine' ⟨_,?b,fun base kb nb=>My.law_fn T kb nb⟩; exact fun s u=>.of_eq rfl
 case S=>exact fun w H a ns hl hO hS=>..
 case C=>exact ..
(the tactic k_is has no namespace: write k_is) -/
namespace L2
open PySem PySem.Spec PyProof.Rows
def jcq (s:Stmt):Arguments:=match s with
 | .FunctionDef _ a _ _ _ _ _ _ _ _=>a
 | _=>{ posonlyargs:=[],args:=[],vararg:=none,kwonlyargs:=[],kw_defaults:=[],kwarg:=none,defaults:=[] }
def jcm (s:Stmt):List Stmt:=match s with
 | .FunctionDef _ _ b _ _ _ _ _ _ _=>b
 | _=>[]
def jac (s:Stmt):Scope:=match s with
 | .FunctionDef _ _ _ _ _ _ sc _ _ _=>sc
 | _=>{ kind:=.function,names:=[],isGenerator:=false,isCoroutine:=false }
abbrev CX0:CXT:=fun _ _ _ _ _ _=>False
abbrev E0:XK:=fun _ _ _=>False
theorem jai {X:Cx}:jm4 CX0 X E0:=fun _ _ _ _ _ _ _ h=>h.elim
structure Fun (K:PySem.W.Frag) (x qual:Str) (st:Stmt) (f:Addr) (fd:FuncData):Prop where
 ex:∃ (oc:Value) (od:Option Addr) (kV doc pm:Value) (an:Option Addr) (cdv ct:Value) (osl:Array (Option Value)),
  fd = PySem.W.fnOf x qual (jcq st) (jcm st) (jac st) .none kV doc pm an cdv ct∧K.lookup f = some ⟨oc,od,.func fd,osl⟩∧PySem.W.codeIn K cdv qual = true
 kp:PySem.W.keepIn K (.ref f) = true
section
variable {P:Program} {w:World} {K:PySem.W.Frag} {mg:Str→Option Value} {base:Heap}
theorem Fun.ok {x qual:Str} {st:Stmt} {f:Addr} {fd:FuncData} {N ps:List Str} {k:Nat} {sp:Sp} (F:Fun K x qual st f fd) (S:FnScope N ps (jac st)) (len:∀ vs H Q E,sp vs H Q E→vs.length = ps.length)
  (hbody:∀ (cdv:Value) (A:Around) (outer:List Env) (s:Shared) (H:Hp) (vs:List V) (Q:VK) (E:XK),Room k (A.deeper (envOfC qual (jac st) s.heap.objs.size f cdv))→sp vs H Q E →
   ∃ t,PSs (cxOf CX0 P w K mg base N qual (jac st) f cdv A outer s H E).nox (jcm st) t∧t { nx:=fun _ H'=>Q .non H',rt:=Q } (jer N vs) H):FnOk P w K mg base CX0 (k + 1) f fd ps sp:=by
 obtain ⟨oc,od,kV,doc,pm,an,cdv,ct,osl,rfl,lk,hcd⟩:=F.ex
 refine fn_of lk hcd S len fun A outer s H vs Q E hr hsp=>?_
 obtain ⟨t,h,q⟩:=hbody cdv A outer s H vs Q E hr hsp
 exact ⟨t,h.nox,q⟩
theorem Fun.binds {x qual:Str} {st:Stmt} {f:Addr} {fd:FuncData} {ps:List Str} (F:Fun K x qual st f fd)
  (h:∀ (kV doc pm:Value) (an:Option Addr) (cdv ct:Value) (us:List Value),us.length = ps.length→bindArgs (PySem.W.fnOf x qual (jcq st) (jcm st) (jac st) .none kV doc pm an cdv ct) ⟨us,[]⟩ = pure (ps.zip us)):jiv K fd ps []:=by
 obtain ⟨oc,od,kV,doc,pm,an,cdv,ct,osl,rfl,lk,hcd⟩:=F.ex
 exact .all (h kV doc pm an cdv ct)
theorem jas {x qual:Str} {st:Stmt} {f:Addr} {oc:Value} {od an:Option Addr} {osl:Array (Option Value)} {kV doc pm cdv ct:Value} (l:K.lookup f = some ⟨oc,od,.func (PySem.W.fnOf x qual (jcq st) (jcm st) (jac st) .none kV doc pm an cdv ct),osl⟩)
  (c:PySem.W.codeIn K cdv qual = true) (k:PySem.W.keepIn K (.ref f) = true):Fun K x qual st f (PySem.W.fnOf x qual (jcq st) (jcm st) (jac st) .none kV doc pm an cdv ct):=⟨⟨oc,od,kV,doc,pm,an,cdv,ct,osl,rfl,l,c⟩,k⟩
end
theorem jba {A:Around} {k:Nat} (hr:Room k A):A.units + 1 < cLine:=Nat.lt_of_le_of_lt (Nat.add_le_add_left (by decide:1 ≤ 64) _) hr.units
section
variable {X:Cx}
end
theorem ite2 {c A B:Prop} [Decidable c] (h1:c→A) (h2:¬ c→B):if c then A else B:=by
 by_cases h:c
 ·rw [if_pos h]
  exact h1 h
 ·rw [if_neg h]
  exact h2 h
def Same (H H':Hp):Prop:=∀ b o,H b = some o→H' b = some o
theorem Same.refl (H:Hp):Same H H:=fun _ _ h=>h
theorem Same.trans {H H1 H2:Hp} (a:Same H H1) (b:Same H1 H2):Same H H2:=fun c o h=>b c o (a c o h)
theorem Same.free {H H':Hp} (e:Same H H') {l:Addr} (h:H' l = Option.none):H l = Option.none:=by
 cases q:H l with
 | none=>rfl
 | some o =>
  rw [e l o q] at h
  cases h
end L2
set_option maxHeartbeats 8000000
namespace L2
open PySem PySem.Spec PyProof.Rows
section
variable {κ:Type} [DecidableEq κ]
def valV (kvs:List (κ × V)) (k:κ):Option V:=(kvs.find? fun kv=>decide (kv.1 = k)).map (·.2)
def putK (kvs:List (κ × V)) (k:κ) (v:V):List (κ × V) :=
 if (kvs.any fun kv=>decide (kv.1 = k)) = true then kvs.map (fun kv=>if kv.1 = k then (kv.1,v) else kv) else kvs ++ [(k,v)]
theorem jfk {p:κ × V} {r:List (κ × V)} {k:κ} (e:p.1 = k):valV (p :: r) k = some p.2:=by simp [valV,List.find?_cons,e]
theorem jfl {p:κ × V} {r:List (κ × V)} {k:κ} (e:¬ p.1 = k):valV (p :: r) k = valV r k:=by simp [valV,List.find?_cons,e]
theorem jfm (k:κ):∀ kvs:List (κ × V),(kvs.any fun kv=>decide (kv.1 = k)) = (valV kvs k).isSome
 | []=>rfl
 | p :: r=>by
  rw [List.any_cons]
  by_cases e:p.1 = k
  ·simp only [jfk e,decide_eq_true e,Bool.true_or,Option.isSome_some]
  ·rw [jfl e,decide_eq_false e,Bool.false_or]; exact jfm k r
theorem jej (kvs:List (κ × V)) (k:κ) (v:V):(putK kvs k v).length ≤ kvs.length + 1:=by
 unfold putK
 split
 ·rw [List.length_map]; omega
 ·rw [List.length_append,List.length_cons,List.length_nil]; omega
theorem putK_new {kvs:List (κ × V)} {k:κ} (v:V) (h:valV kvs k = none):putK kvs k v = kvs ++ [(k,v)]:=by
 unfold putK
 rw [jfm,h]
 exact if_neg (by decide)
theorem RelO.isSome_eq {o:Option V} {u:Option Value} (r:RelO o u):o.isSome = u.isSome:=by
 cases o with
 | none=>cases u with
  | none=>rfl
  | some _=>exact (show False from r).elim
 | some _=>cases u with
  | none=>exact (show False from r).elim
  | some _=>rfl
theorem RelO.getD {o:Option V} {u:Option Value} {d:V} {d':Value} (r:RelO o u) (rd:RelV d d'):RelV (o.getD d) (u.getD d'):=by
 cases o with
 | none=>cases u with
  | none=>exact rd
  | some _=>exact (show False from r).elim
 | some _=>cases u with
  | none=>exact (show False from r).elim
  | some _=>exact r
theorem KV.val {kvs:List (κ × V)} {vs:List (κ × Value)} (r:KV kvs vs) (k:κ):RelO (valV kvs k) (valueAt vs k):=by
 unfold KV at r
 induction r with
 | nil=>exact True.intro
 | @cons p q ps qs h t ih =>
  obtain ⟨h1,h2⟩:=h
  by_cases e:p.1 = k
  ·have e':q.1 = k:=h1.symm.trans e
   have b:valueAt (q :: qs) k = some q.2:=by simp [valueAt,List.find?_cons,e']
   rw [jfk e,b]; exact h2
  ·have e':¬ q.1 = k:=fun z=>e (h1.trans z)
   have b:valueAt (q :: qs) k = valueAt qs k:=by simp [valueAt,List.find?_cons,e']
   rw [jfl e,b]; exact ih
theorem KV.any {kvs:List (κ × V)} {vs:List (κ × Value)} (r:KV kvs vs) (k:κ):(kvs.any fun kv=>decide (kv.1 = k)) = vs.any fun kv=>decide (kv.1 = k):=by
 unfold KV at r
 induction r with
 | nil=>rfl
 | cons h t ih=>rw [List.any_cons,List.any_cons,ih,h.1]
theorem KV.repl {kvs:List (κ × V)} {vs:List (κ × Value)} (r:KV kvs vs) (k:κ) {y:V} {u:Value} (ry:RelV y u) :
  KV (kvs.map fun kv=>if kv.1 = k then (kv.1,y) else kv) (vs.map fun kv=>if kv.1 = k then (kv.1,u) else kv):=by
 unfold KV at r ⊢
 induction r with
 | nil=>exact .nil
 | @cons p q ps qs h t ih =>
  rw [List.map_cons,List.map_cons]
  refine .cons ?_ ih
  obtain ⟨h1,h2⟩:=h
  by_cases e:p.1 = k
  ·rw [if_pos e,if_pos (h1.symm.trans e)]; exact ⟨h1,ry⟩
  ·rw [if_neg e,if_neg (fun z=>e (h1.trans z))]; exact ⟨h1,h2⟩
theorem KV.put {kvs:List (κ × V)} {vs:List (κ × Value)} (r:KV kvs vs) (k:κ) {y:V} {u:Value} (ry:RelV y u):KV (putK kvs k y) (stored vs k u):=by
 unfold putK stored
 rw [r.any k]
 by_cases e:(vs.any fun kv=>decide (kv.1 = k)) = true
 ·rw [if_pos e,if_pos e]; exact r.repl k ry
 ·rw [if_neg e,if_neg e]; exact Paired.snoc r ⟨rfl,ry⟩
theorem KV.keys {kvs:List (κ × V)} {vs:List (κ × Value)} (r:KV kvs vs):kvs.map (·.1) = vs.map (·.1):=by
 unfold KV at r
 induction r with
 | nil=>rfl
 | cons h t ih=>rw [List.map_cons,List.map_cons,ih,h.1]
theorem KV.length {kvs:List (κ × V)} {vs:List (κ × Value)} (r:KV kvs vs):kvs.length = vs.length:=Paired.length r
end
theorem jlb {P:Program} {w:World} {k:Key} {u:Value} (r:RelV (kV k) u):(jbl P w).is k u = true:=by
 cases k with
 | inl i=>obtain ⟨t,e⟩:=(show ∃ t,u = Value.int i t from r); subst e; exact jij P w i t
 | inr x=>obtain ⟨t,e⟩:=(show ∃ t,u = Value.str x t from r); subst e; exact jii P w x t
theorem jhk {P:Program} {w:World}:∀ {ks:List Key} {us:List Value},Vals (ks.map kV) us→ItemsAre (jbl P w) ks us
 | [],_,r=>by rw [List.map_nil] at r; cases r; exact .nil
 | k :: ks,_,r=>by
  rw [List.map_cons] at r
  cases r with
  | cons h t=>exact .cons (jlb h) (jhk t)
abbrev KT (H:Hp):List (List Key × V)→List (List Key × Addr × Value)→Prop:=Paired fun p q=>p.1 = q.1∧H q.2.1 = some (.tup (p.1.map kV))∧RelV p.2 q.2.2
theorem KT.val {H:Hp} {kvs:List (List Key × V)} {xs:List (List Key × Addr × Value)} (r:KT H kvs xs) (k:List Key):RelO (valV kvs k) ((atKey xs k).map (·.2)):=by
 induction r with
 | nil=>exact True.intro
 | @cons p q ps qs h t ih =>
  obtain ⟨h1,_,h2⟩:=h
  by_cases e:p.1 = k
  ·have e':q.1 = k:=h1.symm.trans e
   have b:atKey (q :: qs) k = some q.2:=by simp [atKey,List.find?_cons,e']
   rw [jfk e,b]; exact h2
  ·have e':¬ q.1 = k:=fun z=>e (h1.trans z)
   have b:atKey (q :: qs) k = atKey qs k:=by simp [atKey,List.find?_cons,e']
   rw [jfl e,b]; exact ih
theorem KT.repl {H:Hp} {kvs:List (List Key × V)} {xs:List (List Key × Addr × Value)} (r:KT H kvs xs) (k:List Key) {y:V} {u:Value} (ry:RelV y u) :
  KT H (kvs.map fun kv=>if kv.1 = k then (kv.1,y) else kv) (xs.map (putAt k u)):=by
 induction r with
 | nil=>exact .nil
 | @cons p q ps qs h t ih =>
  rw [List.map_cons,List.map_cons]
  refine .cons ?_ ih
  obtain ⟨h1,h2,h3⟩:=h
  unfold putAt
  by_cases e:p.1 = k
  ·rw [if_pos e,if_pos (h1.symm.trans e)]; exact ⟨h1,h2,ry⟩
  ·rw [if_neg e,if_neg (fun z=>e (h1.trans z))]; exact ⟨h1,h2,h3⟩
theorem KT.put {H:Hp} {kvs:List (List Key × V)} {xs:List (List Key × Addr × Value)} (r:KT H kvs xs) (k:List Key) {b:Addr} {y:V} {u:Value} (hb:H b = some (.tup (k.map kV))) (ry:RelV y u) :
  KT H (putK kvs k y) (storedH xs k b u):=by
 have e:(kvs.any fun kv=>decide (kv.1 = k)) = (atKey xs k).isSome:=by
  rw [jfm,(r.val k).isSome_eq,Option.isSome_map]
 unfold putK storedH
 rw [e]
 by_cases q:(atKey xs k).isSome = true
 ·rw [if_pos q,if_pos q]; exact r.repl k ry
 ·rw [if_neg q,if_neg q]; exact Paired.snoc r ⟨rfl,hb,ry⟩
theorem KT.keeps {H H':Hp} {kvs:List (List Key × V)} {xs:List (List Key × Addr × Value)} (r:KT H kvs xs) (ht:∀ b ys,H b = some (.tup ys)→H' b = some (.tup ys)):KT H' kvs xs :=
 Paired.mapP r fun _ _ z=>⟨z.1,ht _ _ z.2.1,z.2.2⟩
section
variable {P:Program} {w:World} {H:Hp} {h:Heap} {a:Addr}
theorem rd_of {u:HO} (ok:HOk P w H h) (e:Rd H a u):jbn P w H h a u:=e.ok ok
theorem jn6 {kvs:List (Key × V)} (ok:HOk P w H h) (e:Rd H a (.dK kvs)):kvs.length ≤ sizeLine∧(a == sysModules) = false∧∃ vs,KV kvs vs∧h.DictOf (jbl P w) a vs :=
 show jbn P w H h a (.dK kvs) from rd_of ok e
theorem dk_of {kvs:List (Key × V)} (ok:HOk P w H h) (e:H a = some (.dK kvs)):kvs.length ≤ sizeLine∧(a == sysModules) = false∧∃ vs,KV kvs vs∧h.DictOf (jbl P w) a vs:=jn6 ok (.inl e)
theorem jjb {ks:List Key} (ok:HOk P w H h) (e:H a = some (.tup (ks.map kV))):(tupleKind (jbl P w)).is h ks a:=by
 obtain ⟨_,its,r,o,h1,h2,n,h3⟩:=(show jbn P w H h a (.tup (ks.map kV)) from ok a _ e)
 exact ⟨o,its.toArray,n,h1,h2,h3,by simpa using jhk r⟩
theorem jn5 {kvs:List (List Key × V)} (ok:HOk P w H h) (e:Rd H a (.dT kvs)):kvs.length ≤ sizeLine∧(a == sysModules) = false ∧
  ∃ xs,KT H kvs xs∧h.DictOfH (tupleKind (jbl P w)) a xs:=by
 obtain ⟨z,y,xs,r,o,es,ep,h1,h2,h3,h4,h5⟩:=(show jbn P w H h a (.dT kvs) from rd_of ok e)
 refine ⟨z,y,xs,r,o,es,ep,h1,h2,h3,h4,fun x hx=>?_,h5⟩
 have all:∀ {l:List (List Key × V)} {m:List (List Key × Addr × Value)},KT H l m→∀ x ∈ m,(tupleKind (jbl P w)).is h x.1 x.2.1:=by
  intro l m q
  induction q with
  | nil=>intro x hx; exact nomatch hx
  | @cons p q ps qs hq t ih =>
   intro x hx
   rcases List.mem_cons.mp hx with e | hx
   ·subst e
    exact jjb ok (by rw [← hq.1]; exact hq.2.1)
   ·exact ih x hx
 exact all r x hx
theorem dt_of {kvs:List (List Key × V)} (ok:HOk P w H h) (e:H a = some (.dT kvs)):kvs.length ≤ sizeLine∧(a == sysModules) = false ∧
  ∃ xs,KT H kvs xs∧h.DictOfH (tupleKind (jbl P w)) a xs:=jn5 ok (.inl e)
end
def DGet (H:Hp) (a:Addr) (y:V) (r:Option V):Prop :=
 (∃ kvs k,Rd H a (.dK kvs)∧y = kV k∧r = valV kvs k) ∨ ∃ kvs k b,Rd H a (.dT kvs)∧y = .ref b∧H b = some (.tup (k.map kV))∧r = valV kvs k
def DPut (H:Hp) (a:Addr) (y v:V) (H':Hp):Prop :=
 (∃ kvs k,H a = some (.dK kvs)∧y = kV k∧kvs.length < sizeLine∧H' = upd H a (.dK (putK kvs k v))) ∨
 ∃ kvs k b,H a = some (.dT kvs)∧y = .ref b∧H b = some (.tup (k.map kV))∧kvs.length < sizeLine∧H' = upd H a (.dT (putK kvs k v))
theorem DGet.k {H:Hp} {a:Addr} {kvs:List (Key × V)} {k:Key} (e:H a = some (.dK kvs)):DGet H a (kV k) (valV kvs k):=.inl ⟨kvs,k,.inl e,rfl,rfl⟩
theorem DGet.t {H:Hp} {a b:Addr} {kvs:List (List Key × V)} {k:List Key} (e:H a = some (.dT kvs)) (eb:H b = some (.tup (k.map kV))):DGet H a (.ref b) (valV kvs k):=.inr ⟨kvs,k,b,.inl e,rfl,eb,rfl⟩
theorem DPut.k {H:Hp} {a:Addr} {kvs:List (Key × V)} {k:Key} {v:V} (e:H a = some (.dK kvs)) (hl:kvs.length < sizeLine):DPut H a (kV k) v (upd H a (.dK (putK kvs k v))):=.inl ⟨kvs,k,e,rfl,hl,rfl⟩
theorem DPut.t {H:Hp} {a b:Addr} {kvs:List (List Key × V)} {k:List Key} {v:V} (e:H a = some (.dT kvs)) (eb:H b = some (.tup (k.map kV))) (hl:kvs.length < sizeLine) :
  DPut H a (.ref b) v (upd H a (.dT (putK kvs k v))):=.inr ⟨kvs,k,b,e,rfl,eb,hl,rfl⟩
section
variable {X:Cx} {pins:List (Addr × Obj)} {σ:St} {H:Hp} {s:Shared} {a:Addr} {y v:V} {u r:Value} {o:Option V} {A:Around} {E:Value→Shared→Prop}
theorem Inv.big (I:Inv X pins σ H s):sysModules < s.heap.objs.size:=by
 have h:mainGlobals < s.heap.objs.size:=(I.mod.glob.keeps I.bk).lt
 exact Nat.lt_trans (by decide) h
theorem jhp {Q:Value→Shared→Prop} (hu:A.units + 1 < cLine) (I:Inv X pins σ H s) (g:DGet H a y (some v)) (ry:RelV y u) (h:∀ w' s',Inv X pins σ H s'→RelV v w'→Q w' s') :
  wpAny (model X.prog X.w) A (getItem (.ref a) u) Q E s:=by
 rcases g with ⟨kvs,k,e,ey,l⟩ | ⟨kvs,k,b,e,ey,eb,l⟩
 ·subst ey
  obtain ⟨z,hd,vs,rel,dd⟩:=jn6 I.hok e
  obtain ⟨w',hw,rw'⟩:=RelO.some_of (v:=v) (o:=valueAt vs k) (by rw [l]; exact rel.val k)
  exact wpAny_getItem_of (jlb ry) dd.mapOf hw (h w' _ (I.tok _) rw')
 ·subst ey
  cases (show u = Value.ref b from ry)
  obtain ⟨z,hd,xs,rel,dd⟩:=jn5 I.hok e
  obtain ⟨w',hw,rw'⟩:=RelO.some_of (v:=v) (o:=(atKey xs k).map (·.2)) (by rw [l]; exact rel.val k)
  obtain ⟨p,hp,hp2⟩:=Option.map_eq_some_iff.mp hw
  refine wpAny_getItem_heap (tupleKind_room_in1 hu) (jjb I.hok eb) dd hp ?_
  rw [hp2]
  exact h w' _ (I.tok _) rw'
theorem d_in {Q:Value→Shared→Prop} (hu:A.units + 1 < cLine) (I:Inv X pins σ H s) (g:DGet H a y o) (ry:RelV y u) (h:∀ s',Inv X pins σ H s'→Q (.bool o.isSome) s') :
  wpAny (model X.prog X.w) A (compareOp .In u (.ref a)) Q E s:=by
 rcases g with ⟨kvs,k,e,ey,l⟩ | ⟨kvs,k,b,e,ey,eb,l⟩
 ·subst ey
  obtain ⟨z,hd,vs,rel,dd⟩:=jn6 I.hok e
  refine wpAny_in_of (jlb ry) hd dd.mapOf ?_
  rw [← (rel.val k).isSome_eq,← l]
  exact h _ (I.tok _)
 ·subst ey
  cases (show u = Value.ref b from ry)
  obtain ⟨z,hd,xs,rel,dd⟩:=jn5 I.hok e
  refine wpAny_in_heap (tupleKind_room_in1 hu) (jjb I.hok eb) hd dd ?_
  have q:=(rel.val k).isSome_eq
  rw [Option.isSome_map] at q
  rw [← q,← l]
  exact h _ (I.tok _)
theorem jlt {h':Heap} {t':Nat} {ob:HO} (I:Inv X pins σ H s) (mu:Mut (H a)) (hs:Heap.SameBut a s.heap h') (he:∃ q,h'.get? a = some q) (new:jbn X.prog X.w (upd H a ob) h' a ob) :
  Inv X pins σ (upd H a ob) { s with heap:=h',toks:=t' } :=
 I.write (x:=a) (e:=a) mu (.inl rfl) (fun b q hb z=>(hs.2 b hb).trans z) he new
theorem jo2 {P:Program} {w:World} {H':Hp} {h':Heap} {kvs:List (Key × V)} {vs:List (Key × Value)} (z:kvs.length ≤ sizeLine) (hd:(a == sysModules) = false) (rel:KV kvs vs) (dd:h'.DictOf (jbl P w) a vs) :
  jbn P w H' h' a (.dK kvs):=⟨z,hd,vs,rel,dd⟩
theorem jlu {H':Hp} {Q:Unit→Shared→Prop} (hu:A.units + 1 < cLine) (I:Inv X pins σ H s) (g:DPut H a y v H') (ry:RelV y u) (rv:RelV v r) (h:∀ s',Inv X pins σ H' s'→Q () s') :
  wpAny (model X.prog X.w) A (setItem (.ref a) u r) Q E s:=by
 rcases g with ⟨kvs,k,e,ey,l,eH⟩ | ⟨kvs,k,b,e,ey,eb,l,eH⟩
 ·subst ey eH
  obtain ⟨z,hd,vs,rel,dd⟩:=dk_of I.hok e
  have hz:vs.length ≤ sizeLine:=by rw [← rel.length]; exact z
  have hl:(putK kvs k v).length ≤ sizeLine:=by have:=jej kvs k v; omega
  refine wpAny_setItem_pairs (hsz:=hz) (jlb ry) dd fun h' dd' hs=>h _ ?_
  have he:∃ q,h'.get? a = some q:=let ⟨q,_,_,hq,_⟩:=dd'; ⟨q,hq⟩
  exact jlt I (by rw [e]; exact True.intro) hs he (jo2 hl hd (rel.put k rv) dd')
 ·subst ey eH
  cases (show u = Value.ref b from ry)
  obtain ⟨z,hd,xs,rel,dd⟩:=dt_of I.hok e
  have hz:xs.length ≤ sizeLine:=by rw [← Paired.length rel]; exact z
  have hl:(putK kvs k v).length ≤ sizeLine:=by have:=jej kvs k v; omega
  refine wpAny_setItem_heap (hsz:=hz) (tupleKind_room_in1 hu) (jjb I.hok eb) dd fun h' dd' hs=>h _ ?_
  obtain ⟨q,es,ep,hq,h2,h3,h4,_,h5⟩:=dd'
  refine jlt I (by rw [e]; exact True.intro) hs ⟨q,hq⟩ ⟨hl,hd,_,(rel.put k eb rv).keeps fun c ys ec=>?_,q,es,ep,hq,h2,h3,h4,h5⟩
  rw [jaa (ne_of ec e (fun z=>nomatch z))]
  exact ec
end
section
variable {X:Cx} {pins:List (Addr × Obj)} {σ:St} {H:Hp} {s:Shared} {a:Addr} {kvs:List (Key × V)} {k:Key} {u:Value} {A:Around} {E:Value→Shared→Prop}
end
def NoSl (i:Expr):Prop:=∀ ov iv,subscripted i false ov iv = operate [ov,iv] (getItem ov iv)
theorem jkf {prog:Program} {w:World} {A:Around} {E:Value→Shared→Prop} {s:Shared} {env:Env} {value slice:Expr} {pos:Pos} {T id:String} {Q:Value→Shared→Prop}
  (hl:typeLookup (.type T) "__getitem__" = pure (some (.builtin id))) (hs:NoSl slice)
  (h:wpAny (model prog w) A (eval value env) (fun o s₁=>wpAny (model prog w) A (eval slice env) (fun i s₂=>s₂.TypeIs o T∧wpAny (model prog w) A (getItem o i) Q E s₂) E s₁) E s) :
  wpAny (model prog w) A (eval (.Subscript value slice pos) env) Q E s:=by
 refine Subscript_ (wpAny_mono h (fun o s₁ h₁=>wpAny_mono h₁ (fun i s₂ h₂=>?_) fun _ _ x=>x) fun _ _ x=>x)
 obtain ⟨hT,h₂⟩:=h₂
 unfold subscriptTail
 refine wpAny_bind ?_
 rw [getitemInPython_of_ne hT.not_modules]
 refine wpAny_bind (wpAny_specialOf hT hl ?_)
 have fin:wpAny (model prog w) A (subscripted slice false o i) (fun r s₃=>wpAny (model prog w) A (letTemporaryGo value o r >>= fun _=>pure r) Q E s₃) E s₂:=by
  rw [hs o i]
  exact wpAny_operating (wpAny_mono h₂ (fun r s₃ h₃=>wpAny_bind (wpAny_letTemporaryGo (wpAny_pure h₃))) fun _ _ x=>x)
 first
  | exact wpAny_pure (wpAny_bind fin)
  | exact wpAny_bind (wpAny_pure (wpAny_bind fin))
  | exact wpAny_bind fin
theorem jeo {X:Cx} {pins:List (Addr × Obj)} {σ:St} {H:Hp} {s:Shared} {a:Addr} {y:V} {o:Option V} (I:Inv X pins σ H s) (g:DGet H a y o):s.TypeIs (.ref a) "dict":=by
 rcases g with ⟨kvs,k,e,_,_⟩ | ⟨kvs,k,b,e,_,_,_⟩
 ·obtain ⟨_,_,vs,_,dd⟩:=jn6 I.hok e
  exact dd.typeIs
 ·obtain ⟨_,_,xs,_,dd⟩:=jn5 I.hok e
  exact dd.typeIs
def jkd (td ty:TE):TE:=fun σ H Q=>td σ H fun x H1=>ty σ H1 fun y H2=>∃ a v,x = .ref a∧DGet H2 a y (some v)∧Q v H2
section
variable {X:Cx} {o i e value:Expr} {pos pos' tpos:Pos} {td ty tv:TE}
theorem jeb (hu:X.A.units + 1 < cLine) (ho:PE X o td) (hi:PE X i ty) (hs:NoSl i):PE X (.Subscript o i pos) (jkd td ty):=by
 intro pins s σ H Q I h
 refine jkf PySem.F.slot_dict_getitem.lookup hs (thn (ho pins s σ H _ I h) fun u s1 ⟨x,H1,I1,rx,q1⟩=>thn (hi pins s1 σ H1 _ I1 q1) fun iv s2 ⟨y,H2,I2,ry,a,v,ex,g,q2⟩=>?_)
 subst ex
 obtain rfl:u = Value.ref a:=rx
 exact ⟨jeo I2 g,jhp hu I2 g ry fun w' s3 I3 rw'=>⟨v,H2,I3,rw',q2⟩⟩
end
theorem jn7 {P:Program} {w:World} {H:Hp} (h:Heap) (hb:sysModules < h.objs.size):jbn P w H (h.push { cls:=.type "dict",data:=.dict #[] }) h.objs.size (.dK []) :=
 ⟨Nat.zero_le _,beq_eq_false_iff_ne.mpr (Ne.symm (Nat.ne_of_lt hb)),[],.nil,Heap.DictOf.new h⟩
def jkc:TE:=fun _ H Q=>∀ p,H p = none→Q (.ref p) (upd H p (.dK []))
section
variable {X:Cx} {pos:Pos}
theorem jmo:PE X (.Dict [] [] pos) jkc:=fun pins s σ H Q I h =>
 wpAny_Dict_empty ⟨.ref s.heap.objs.size,_,I.laid (a:=s.heap.objs.size) (o:=.dK []) (t':=s.toks) (fun _ _ q=>Heap.get?_push_of_some _ q) (Nat.le_refl _) (jn7 s.heap I.big),rfl,h _ (I.hok.fresh (Nat.le_refl _))⟩
end
section
variable {X:Cx} {pins:List (Addr × Obj)} {σ:St} {H:Hp} {s:Shared} {a:Addr} {y d:V} {u r:Value} {o:Option V} {A:Around} {E:Value→Shared→Prop}
end
section
variable {X:Cx} {o e f:Expr} {apos cpos:Pos} {td ty tx:TE}
end
section
variable {X:Cx} {pins:List (Addr × Obj)} {σ:St} {H:Hp} {s:Shared} {a:Addr} {kvs:List (Key × V)} {A:Around} {E:Value→Shared→Prop}
end
section
variable {X:Cx} {pins:List (Addr × Obj)} {σ:St} {H:Hp} {s:Shared} {a:Addr} {y:V} {u:Value} {A:Around} {E:Value→Shared→Prop}
end
end L2
namespace L2
open PySem PySem.Spec PyProof.Rows
section
variable {κ:Type} [DecidableEq κ]
end
end L2
namespace L2
open PySem PySem.Spec PyProof.Rows
def jbv (env:Env):List (Str × NameKind)→List (Str × Addr)→List (Str × Addr)
 | [],acc=>acc
 | (n,k) :: r,acc=>jbv env r (if k == .free then (n,(env.cells.lookup n).getD 0) :: acc else acc)
theorem jcj {scope:Scope} {env:Env} (h:∀ y ∈ scope.names,y.2 = .free→∃ c,env.cells.lookup y.1 = some c) :
    closureFor scope env = pure (jbv env scope.names []):=by
  have key:∀ (l:List (Str × NameKind)) (acc:List (Str × Addr)),(∀ y ∈ l,y.2 = .free→∃ c,env.cells.lookup y.1 = some c) →
      (forIn l acc fun (x:Str × NameKind) (r:List (Str × Addr)) =>
        (if x.2 == NameKind.free then do
          let c ← cellOf env x.1
          pure (ForInStep.yield ((x.1,c) :: r))
        else pure (ForInStep.yield r):Sem (ForInStep (List (Str × Addr))))) = pure (jbv env l acc):=by
    intro l
    induction l with
    | nil=>intro acc _; rfl
    | cons y r ih =>
      intro acc hy
      obtain ⟨n,k⟩:=y
      rw [List.forIn_cons]
      by_cases hk:k = .free
      · subst hk
        obtain ⟨c,hc⟩:=hy (n,.free) List.mem_cons_self rfl
        have e1:cellOf env n = pure c:=by unfold cellOf; rw [hc]
        simp only [beq_self_eq_true,if_true]
        rw [e1]
        show (pure c >>= fun c=>pure (ForInStep.yield ((n,c) :: acc))) >>= _ = _
        have e2:jbv env ((n,NameKind.free) :: r) acc = jbv env r ((n,c) :: acc):=by
          have hc':env.cells.lookup n = some c:=hc
          show jbv env r (if (NameKind.free == NameKind.free) = true then (n,(env.cells.lookup n).getD 0) :: acc else acc) = _
          rw [hc']
          rfl
        rw [e2]
        exact ih _ fun z hz=>hy z (List.mem_cons_of_mem _ hz)
      · have hb:(k == NameKind.free) = false:=by simpa using hk
        simp only [hb,Bool.false_eq_true,if_false]
        have e2:jbv env ((n,k) :: r) acc = jbv env r acc:=by
          show jbv env r (if (k == NameKind.free) = true then _ else acc) = _
          rw [hb]; rfl
        rw [e2]
        exact ih _ fun z hz=>hy z (List.mem_cons_of_mem _ hz)
  unfold closureFor
  have e:=key scope.names [] h
  have e3:∀ (f:Str × NameKind→List (Str × Addr)→Sem (ForInStep (List (Str × Addr)))),(f = fun x r=>(if x.2 == NameKind.free then do
          let c ← cellOf env x.1
          pure (ForInStep.yield ((x.1,c) :: r))
        else pure (ForInStep.yield r)))→(forIn scope.names [] f >>= fun r=>pure r) = (pure (jbv env scope.names []):Sem (List (Str × Addr))):=by
    intro f hf
    rw [hf,e]
    rfl
  exact e3 _ rfl
theorem jdg {env:Env} {x:Str}:∀ (l:List (Str × NameKind)) (acc:List (Str × Addr)) (c:Addr),(jbv env l acc).lookup x = some c →
  ((∃ y ∈ l,y.1 = x∧y.2 = .free)∧(env.cells.lookup x).getD 0 = c) ∨ acc.lookup x = some c
 | [],acc,c,h=>.inr h
 | (n,k) :: r,acc,c,h=>by
  rcases jdg r _ c h with ⟨⟨y,hy,e⟩,q⟩ | q
  ·exact .inl ⟨⟨y,List.mem_cons_of_mem _ hy,e⟩,q⟩
  ·by_cases hk:k = .free
   ·subst hk
    have q':List.lookup x ((n,(env.cells.lookup n).getD 0) :: acc) = some c:=q
    rw [List.lookup_cons] at q'
    cases hx:x == n with
    | true =>
     rw [hx] at q'
     have hx':x = n:=by simpa using hx
     subst hx'
     exact .inl ⟨⟨_,List.mem_cons_self,rfl,rfl⟩,Option.some.inj q'⟩
    | false=>rw [hx] at q'; exact .inr q'
   ·have hb:(k == NameKind.free) = false:=by simpa using hk
    rw [hb] at q
    exact .inr q
theorem jdn {env:Env} {x:Str}:∀ (l:List (Str × NameKind)) (acc:List (Str × Addr)),((∃ y ∈ l,y.1 = x∧y.2 = .free) ∨ (acc.lookup x).isSome)→((jbv env l acc).lookup x).isSome
 | [],acc,h=>by
  rcases h with ⟨y,hy,_⟩ | h
  ·cases hy
  ·exact h
 | (n,k) :: r,acc,h=>by
  show ((jbv env r (if (k == NameKind.free) = true then _ else acc)).lookup x).isSome
  refine jdn r _ ?_
  rcases h with ⟨y,hy,e1,e2⟩ | h
  ·rcases List.mem_cons.mp hy with rfl | hy
   ·have e2':k = .free:=e2
    have e1':n = x:=e1
    subst e2' e1'
    refine .inr ?_
    simp [List.lookup_cons]
   ·exact .inl ⟨y,hy,e1,e2⟩
  ·refine .inr ?_
   split
   ·rw [List.lookup_cons]
    split
    ·rfl
    ·exact h
   ·exact h
structure CpScope (X:Cx) (scope:Scope) (N:List Str) (src:List (Option Nat)):Prop where
 kind:scope.kind = .function
 nocell:∀ y ∈ scope.names,y.2 ≠ .cell
 locs:∀ y ∈ scope.names,y.2 = .local→scope.names.lookup y.1 = some .local
 frees:∀ y ∈ scope.names,y.2 = .free→scope.names.lookup y.1 = some .free∧X.env.scope.names.lookup y.1 = some .cell
 nd:N.Nodup
 len:src.length = N.length
 cap:∀ (i j:Nat),src[i]? = some (some j)→X.N[j]? = N[i]?∧(N[i]?).elim False (fun x=>scope.names.lookup x = some .free)
def cst (src:List (Option Nat)) (σ:St):St:=src.map fun o=>o.bind fun j=>(σ[j]?).join
theorem jc7 {env:Env} (hk:env.scope.kind = .function):∀ {names:List (Str × NameKind)} {x:Str},names.lookup x = some .free→env.kindOf x = some .cell →
  (names.map fun (n,k)=>if (k == NameKind.free && env.scope.kind == .function && env.kindOf n == some .cell) then (n,NameKind.cell) else (n,k)).lookup x = some .cell
 | [],_,h,_=>by simp at h
 | (n,k) :: r,x,h,hc=>by
  have ih:=@jc7 env hk r x
  show List.lookup x ((if (k == NameKind.free && env.scope.kind == .function && env.kindOf n == some .cell) = true then (n,NameKind.cell) else (n,k)) :: _) = _
  cases hx:x == n with
  | true =>
   simp only [List.lookup_cons,hx] at h
   cases h
   have hx':x = n:=by simpa using hx
   subst hx'
   rw [if_pos (by rw [hk,hc]; rfl)]
   simp [List.lookup_cons]
  | false =>
   simp only [List.lookup_cons,hx] at h
   by_cases hq:(k == NameKind.free && env.scope.kind == .function && env.kindOf n == some .cell) = true
   ·rw [if_pos hq]; simp only [List.lookup_cons,hx]; exact ih h hc
   ·rw [if_neg hq]; simp only [List.lookup_cons,hx]; exact ih h hc
theorem jbq {env:Env}:∀ {names:List (Str × NameKind)} {x:Str} {k':NameKind},
  (names.map fun (n,k)=>if (k == NameKind.free && env.scope.kind == .function && env.kindOf n == some .cell) then (n,NameKind.cell) else (n,k)).lookup x = some k' →
   names.lookup x = some k' ∨ (names.lookup x = some .free∧k' = .cell)
 | [],_,_,h=>by simp at h
 | (n,k) :: r,x,k',h=>by
  have ih:=@jbq env r x k'
  have h:List.lookup x ((if (k == NameKind.free && env.scope.kind == .function && env.kindOf n == some .cell) = true then (n,NameKind.cell) else (n,k)) :: _) = _:=h
  cases hx:x == n with
  | true =>
   by_cases hq:(k == NameKind.free && env.scope.kind == .function && env.kindOf n == some .cell) = true
   ·rw [if_pos hq] at h
    have h1:=h
    simp only [List.lookup_cons,hx]
    have:k = .free:=by
     have:=(Bool.and_eq_true _ _ ▸ (Bool.and_eq_true _ _ ▸ hq).1).1
     simpa using this
    subst this
    refine .inr ⟨rfl,?_⟩
    have h2:List.lookup x ((n,NameKind.cell) :: (r.map fun (n,k)=>if (k == NameKind.free && env.scope.kind == .function && env.kindOf n == some .cell) then (n,NameKind.cell) else (n,k))) = some k':=h1
    simp only [List.lookup_cons,hx] at h2
    exact (Option.some.inj h2).symm
   ·rw [if_neg hq] at h
    simp only [List.lookup_cons,hx] at h ⊢
    exact .inl h
  | false =>
   have h':List.lookup x (r.map fun (n,k)=>if (k == NameKind.free && env.scope.kind == .function && env.kindOf n == some .cell) then (n,NameKind.cell) else (n,k)) = some k':=by
    by_cases hq:(k == NameKind.free && env.scope.kind == .function && env.kindOf n == some .cell) = true
    ·rw [if_pos hq] at h
     simpa only [List.lookup_cons,hx] using h
    ·rw [if_neg hq] at h
     simpa only [List.lookup_cons,hx] using h
   simp only [List.lookup_cons,hx]
   exact ih h'
def Cx.block (X:Cx) (scope:Scope) (N:List Str) (fp:List Addr) (s₀:Shared) (H₀:Hp) (C:Addr):Cx where
 prog:=X.prog
 w:=X.w
 K:=X.K
 mg:=X.mg
 base:=X.base
 A:=X.A
 N:=N
 s₀:=s₀
 H₀:=H₀
 env:=compEnvC scope (jbv X.env scope.names []) C X.env
 outer:=X.stack
 stack:=X.stack
 ex:=fp
 calm:=X.calm
 fn:=fun _=>false
 pn:=[]
 xe:=fun _ _=>False
theorem jlc {o:Option (Option V)} {v:V} (h:o.join = some v):o = some (some v):=by
 cases o with
 | none=>cases h
 | some z=>cases z with
  | none=>cases h
  | some z=>rw [show z = v from Option.some.inj h]
theorem Inv.enter {X:Cx} {scope:Scope} {N:List Str} {src:List (Option Nat)} {pins:List (Addr × Obj)} {σ:St} {H:Hp} {s s4:Shared} {fp:List Addr} (S:CpScope X scope N src) (I:Inv X pins σ H s)
  (f2:∀ b ∈ fp,FpOk X pins H b) (lt:∀ b ∈ fp,b < s.heap.objs.size) (hns:s4.heap.Ns s.heap.objs.size fun _=>none) (hk:∀ b o,s.heap.get? b = some o→s4.heap.get? b = some o) (hos:s4.os = s.os) (hg:s4.gens = s.gens) :
  Inv (X.block scope N fp s H s.heap.objs.size) [] (cst src σ) H s4:=by
 have cells:∀ x c,(jbv X.env scope.names []).lookup x = some c→X.env.cells.lookup x = some c:=fun x c e=>by
  rcases jdg _ _ _ e with ⟨⟨y,hy,e1,e2⟩,q⟩ | q
  ·obtain ⟨c',hc'⟩:=I.ok.has y.1 (.inl (S.frees y hy e2).2)
   rw [e1] at hc'
   rw [hc'] at q ⊢
   exact congrArg some q
  ·cases q
 refine ⟨⟨I.mod,S.kind,I.ok.glob,I.ok.blt,Nat.le_refl _,fun x y c h1 h2=>I.ok.inj x y c (cells x c h1) (cells y c h2),fun x hx=>?_,fun x c h=>absurd (show false = true from h) Bool.false_ne_true,I.ok.hd,I.ok.frames,.inl rfl,fun b hb=>?_,I.bs,
   Nat.le_trans I.ok.bsz I.sz,fun b o e hb=>?_,fun b hb z=>?_,I.stack,I.stkFree⟩,hos,?_,Un.kept hk,⟨fun _=>none,hns,fun i x v h1 h2 h3=>?_⟩,fun x c e=>?_,I.fresh,fun x c e=>I.freeC x c (cells x c e),fun p hp=>?_,I.hok.kept hk,?_⟩
 ·have hx':(scope.names.map fun (n,k)=>if (k == NameKind.free && X.env.scope.kind == .function && X.env.kindOf n == some .cell) then (n,NameKind.cell) else (n,k)).lookup x = some .cell ∨ (scope.names.map fun (n,k)=>if (k == NameKind.free && X.env.scope.kind == .function && X.env.kindOf n == some .cell) then (n,NameKind.cell) else (n,k)).lookup x = some .free:=hx
  have hf:scope.names.lookup x = some .free:=by
   rcases hx' with h | h
   ·rcases jbq h with h | h
    ·exact absurd rfl (S.nocell _ (PySem.mem_of_lookup h))
    ·exact h.1
   ·rcases jbq h with h | h
    ·exact h
    ·cases h.2
  have hsome:=jdn (env:=X.env) (x:=x) scope.names [] (.inl ⟨_,PySem.mem_of_lookup hf,rfl,rfl⟩)
  exact Option.isSome_iff_exists.mp hsome
 ·exact ⟨Nat.ne_of_lt (lt b hb),fun x c e=>(f2 b hb).2.2.2.2.1 x c (cells x c e)⟩
 ·have hb':b ∈ fp:=hb
  rcases (f2 b hb').2.2.2.1 with z | z
  ·exact I.ok.noex b o e z
  ·exact absurd (Nat.lt_of_lt_of_le (Heap.lt_size e) (Nat.le_trans I.ok.bsz z)) (Nat.lt_irrefl _)
 ·have hb':b ∈ fp:=hb
  have z':b ∈ frs X.stack:=z
  rcases List.mem_cons.mp (I.stkSub b z') with e | e
  ·exact (f2 b hb').2.1 e
  ·exact (f2 b hb').2.2.1 e
 ·rw [hg]; exact I.bare
 ·have h2':(src.map fun o=>o.bind fun j=>(σ[j]?).join)[i]? = some (some v):=h2
  rw [List.getElem?_map] at h2'
  cases e:src[i]? with
  | none=>rw [e] at h2'; cases h2'
  | some o =>
   rw [e] at h2'
   cases o with
   | none=>cases h2'
   | some j =>
    have h4:(σ[j]?).join = some v:=Option.some.inj h2'
    have h5:=jlc h4
    obtain ⟨c1,c2⟩:=S.cap i j e
    have h1':N[i]? = some x:=h1
    rw [h1'] at c1 c2
    have c2':scope.names.lookup x = some .free:=c2
    have c3:=(S.frees _ (PySem.mem_of_lookup c2') rfl).2
    obtain ⟨m,hn,hl⟩:=I.loc
    obtain ⟨u,r,l⟩:=hl j x v c1 h5 (.inr (.inl c3))
    refine ⟨u,r,?_⟩
    have c3':X.env.kindOf x = some .cell:=c3
    rcases l with ⟨k,_⟩ | ⟨_,c,e1,z⟩
    ·rw [c3'] at k; cases k
    ·refine .inr ⟨.inl (jc7 I.ok.kind c2' c3'),c,?_,?_⟩
     ·have hs:=jdn (env:=X.env) (x:=x) scope.names [] (.inl ⟨_,PySem.mem_of_lookup c2',rfl,rfl⟩)
      obtain ⟨c',hc'⟩:=Option.isSome_iff_exists.mp hs
      have:=cells x c' hc'
      rw [e1] at this
      cases this
      exact hc'
     ·obtain ⟨o,ho,hd⟩:=z
      exact ⟨o,hk c o ho,hd⟩
 ·obtain ⟨v,o,ho,hd⟩:=I.cell x c (cells x c e)
  exact ⟨v,o,hk c o ho,hd⟩
 ·exact absurd (show p ∈ ([]:List (Addr × Obj)) from hp) (by simp)
 ·show (src.map _).length = N.length
  rw [List.length_map]
  exact S.len
def PIf (X:Cx) (ifs:List Expr) (t:TT):Prop :=
 ∀ (pins:List (Addr × Obj)) (s:Shared) (σ:St) (H:Hp) (Q:Bool→Hp→Prop),Inv X pins σ H s→t σ H Q →
  wpAny (model X.prog X.w) X.A (forIn ifs true fun c r=>if r = true then do let ok ← isTrue c X.env (eval c X.env); pure (ForInStep.yield ok) else pure (ForInStep.yield r)) (TP X pins σ Q) X.xe s
def jo7:TT:=fun _ H Q=>Q true H
theorem jbk {X:Cx}:PIf X [] jo7:=fun pins s σ H Q I h=>wpAny_tests_nil ⟨H,I,h⟩
theorem je8 {X:Cx} {c:Expr} {t:TT} (h:PT X c t):PIf X [c] t:=fun pins s σ H Q I hq=>wpAny_tests_one (h pins s σ H Q I hq)
def jm5 (J:It) (src:List (Option Nat)) (g:TG) (tc:TT) (te:TE) (Q:VK) (σ:St) (H:Hp) (l:Addr):Prop :=
 ∃ W:Nat→Nat→St→Hp→Prop,(∃ m,W 0 m (cst src σ) (upd H l (.lst [])))∧∀ i m σ' H,W i m σ' H →
  (J.stop i H∧Q (.ref l) H) ∨ (J.go i H∧∃ N:St→Hp→Prop,(∀ σ' H',N σ' H'→∃ m',m' < m∧W (i + 1) m' σ' H')∧∀ x H',J.yld i H x H'→g x σ' H' fun σ2 H2=>tc σ2 H2 fun b H3 =>
   if b = true then te σ2 H3 fun v H4=>∃ xs,H4 l = some (.lst xs)∧xs.length < sizeLine∧N σ2 (upd H4 l (.lst (xs ++ [v]))) else N σ2 H3)
theorem jav {J:It} {src:List (Option Nat)} {g:TG} {tc:TT} {te:TE} {Q:VK} {σ:St} {H:Hp} {l:Addr} (n:Nat) (Iv:Nat→St→Hp→Prop) (h0:Iv 0 (cst src σ) (upd H l (.lst [])))
  (hs:∀ i σ' Hc,i < n→Iv i σ' Hc→J.go i Hc∧∀ x H',J.yld i Hc x H'→g x σ' H' fun σ2 H2=>tc σ2 H2 fun b H3 =>
   if b = true then te σ2 H3 fun v H4=>∃ xs,H4 l = some (.lst xs)∧xs.length < sizeLine∧Iv (i + 1) σ2 (upd H4 l (.lst (xs ++ [v]))) else Iv (i + 1) σ2 H3)
  (hd:∀ σ' Hc,Iv n σ' Hc→J.stop n Hc∧Q (.ref l) Hc):jm5 J src g tc te Q σ H l:=by
 refine ⟨fun i m σ' Hc=>m = n - i∧i ≤ n∧Iv i σ' Hc,⟨n,by simp,Nat.zero_le _,h0⟩,?_⟩
 rintro i m σ' Hc ⟨rfl,hi,p⟩
 by_cases hlt:i < n
 ·obtain ⟨go,step⟩:=hs i σ' Hc hlt p
  exact .inr ⟨go,Iv (i + 1),fun σ2 H2 p'=>⟨n - (i + 1),by omega,rfl,hlt,p'⟩,step⟩
 ·have e:i = n:=by omega
  subst e
  exact .inl (hd σ' Hc p)
theorem jhq {X:Cx} {elt tg iter:Expr} {ifs:List Expr} {scope:Scope} {pos:Pos} {N:List Str} {src:List (Option Nat)} {g:TG} {tc:TT} {te:TE} {pins:List (Addr × Obj)} {σ:St} {H2:Hp} {s2:Shared}
  {fp:List Addr} {it:Addr} {tn:Nat→Heap→Prop} {J:It} {Q:VK} {E:Value→Shared→Prop} {RR:Value→Addr→Result→Shared→Prop} (S:CpScope X scope N src) (hc:X.calm = true)
  (hg:∀ fp s₀ H₀ C,PG (X.block scope N fp s₀ H₀ C) tg g) (ht:∀ fp s₀ H₀ C,PIf (X.block scope N fp s₀ H₀ C) ifs tc) (he:∀ fp s₀ H₀ C,PE (X.block scope N fp s₀ H₀ C) elt te)
  (I2:Inv X pins σ H2 s2) (T:Turn X.prog X.w X.K tg J fp it tn) (st2:tn 0 s2.heap) (f2:∀ b ∈ fp,FpOk X pins H2 b) (hw:∀ l,H2 l = none→jm5 J src g tc te Q σ H2 l)
  (hRR:∀ l C H' s',Inv X pins σ H' s'→(∃ m,s'.heap.Ns C m)→FpOk X pins H' C→Q (.ref l) H'→RR (.ref l) C (.ok .next) s') :
  wpAny (model X.prog X.w) X.A (newList []) (fun acc s₃=>wpAny (model X.prog X.w) X.A (newFunctionEnv scope X.env.globals (jbv X.env scope.names []) [] X.env.qual none .none (some X.env)) (fun cenv s₄ =>
   codeAny (model X.prog X.w) X.A (.compStart (.ListComp elt [⟨tg,iter,ifs,0⟩] scope pos) 0 (.ref it) acc { cenv with scope:=relabel scope X.env }) (RR acc cenv.locals) s₄) E s₃) E s2:=by
 have hl0:H2 s2.heap.objs.size = none:=I2.fresh
 have I3:Inv X pins σ (upd H2 s2.heap.objs.size (.lst [])) { s2 with heap:=s2.heap.push { cls:=.type "list",data:=.seq ([]:List Value).toArray } }:=I2.lnew (ys:=[]) (its:=[]) (t':=s2.toks) .nil (Nat.zero_le _)
 have ltf:∀ b ∈ fp,b < s2.heap.objs.size:=fun b hb=>by
  obtain ⟨o,e,_⟩:=T.obj _ _ st2 b hb
  exact Heap.lt_size e
 have f3:∀ b ∈ fp,FpOk X pins (upd H2 s2.heap.objs.size (.lst [])) b:=fun b hb=>⟨by rw [jaa (Nat.ne_of_lt (ltf b hb))]; exact (f2 b hb).1,(f2 b hb).2⟩
 obtain ⟨W,⟨m0,w0⟩,turn⟩:=hw _ hl0
 refine wpAny_newObj_type (wpAny_newFunctionEnv S.nocell (by intro y hy; simp at hy) (fun h₁ hns₁ hsb₁=>?_) S.kind)
 dsimp only at hns₁ hsb₁ ⊢
 revert I3 f3
 intro I3 f3
 have st1:tn 0 (s2.heap.push { cls:=.type "list",data:=.seq ([]:List Value).toArray }):=T.keep _ _ _ st2 fun b hb o e=>Heap.get?_push_of_some _ e
 have lt3:∀ b ∈ fp,b < (s2.heap.push { cls:=.type "list",data:=.seq ([]:List Value).toArray }).objs.size:=fun b hb=>by rw [Heap.size_push]; exact Nat.lt_succ_of_lt (ltf b hb)
 generalize hH:s2.heap.push { cls:=.type "list",data:=.seq ([]:List Value).toArray } = h3 at I3 st1 lt3 hns₁ hsb₁ ⊢
 have hk:∀ b o,h3.get? b = some o→h₁.get? b = some o:=fun b o e=>hsb₁.extBut b o (Nat.ne_of_lt (Heap.lt_size e)) (Heap.get?_push_of_some _ e)
 have Ib:Inv (X.block scope N fp { s2 with heap:=h3 } (upd H2 s2.heap.objs.size (.lst [])) h3.objs.size) [] (cst src σ) (upd H2 s2.heap.objs.size (.lst [])) { s2 with heap:=h₁,toks:=s2.toks + ([]:List (Str × Value)).length } :=
  Inv.enter (s:={ s2 with heap:=h3 }) S I3 f3 lt3 hns₁ hk rfl rfl
 have fpB:∀ {H':Hp},(∀ b ∈ fp,H' b = none)→∀ b ∈ fp,FpOk (X.block scope N fp { s2 with heap:=h3 } (upd H2 s2.heap.objs.size (.lst [])) h3.objs.size) [] H' b:=fun hn b hb =>
  ⟨hn b hb,(Ib.ok.exf b hb).1,Ib.ok.exfs b hb,.inl hb,(Ib.ok.exf b hb).2,fun p hp=>absurd (show p ∈ ([]:List (Addr × Obj)) from hp) (by simp)⟩
 have tn1:tn 0 h₁:=T.keep _ _ _ st1 fun b _ o e=>hk b o e
 have loop:∀ s₃:Shared,s₃ = { s2 with heap:=h₁,toks:=s2.toks + ([]:List (Str × Value)).length } →
   codeAny (model X.prog X.w) X.A (.compLoop (.ListComp elt [⟨tg,iter,ifs,0⟩] scope pos) 0 (.ref it) (.ref s2.heap.objs.size) (compEnvC scope (jbv X.env scope.names []) h3.objs.size X.env))
    (RR (.ref s2.heap.objs.size) h3.objs.size) s₃:=by
  rintro s₃ rfl
  refine codeAny_loop rfl (fun n s'=>∃ i σ' H',Inv (X.block scope N fp { s2 with heap:=h3 } (upd H2 s2.heap.objs.size (.lst [])) h3.objs.size) [] σ' H' s'∧tn i s'.heap∧(∀ b ∈ fp,H' b = none)∧W i n σ' H') ?_ m0
   ⟨0,_,_,Ib,tn1,fun b hb=>(f3 b hb).1,w0⟩
  rintro n s5 ⟨i,σ5,H5,I5,st5,fr5,w5⟩
  show wpAny _ X.A ((compTurn (.ListComp elt [⟨tg,iter,ifs,0⟩] scope pos) 0 (.ref it) (.ref s2.heap.objs.size) (compEnvC scope (jbv X.env scope.names []) h3.objs.size X.env)).onRaise (fun x=>do noteFrame x (compEnvC scope (jbv X.env scope.names []) h3.objs.size X.env); theTreesLotGoes x)) _ _ s5
  refine wpAny_noted ?_
  rw [compTurn_list]
  refine wpAny_bind (wpAny_standAt (wpAny_bind ?_))
  rcases turn i n σ5 H5 w5 with ⟨stop,qn⟩ | ⟨go,N',hN',step⟩
  ·refine thn (T.done (X.block scope N fp { s2 with heap:=h3 } (upd H2 s2.heap.objs.size (.lst [])) h3.objs.size) rfl rfl rfl hc i [] s5 σ5 H5 _ I5 (fpB fr5) st5 stop) fun r s6 ⟨hr,I6⟩=>?_
   subst hr
   refine wpAny_pure ?_
   have u6:Un (frs X.stack) fp (upd H2 s2.heap.objs.size (.lst [])) H5 h3 s6.heap:=I6.base
   have hf6:H5 h3.objs.size = none:=I6.free
   have I7:Inv X pins σ H5 s6:=I3.call' (ch:=fp) I6.os u6 I6.hok I6.bare fun b hb=>⟨(f3 b hb).2.2.2.1,(f3 b hb).2.1,(f3 b hb).2.2.2.2.1,(f3 b hb).2.2.2.2.2⟩
   obtain ⟨m,hm,_⟩:=I6.loc
   exact hRR _ _ H5 s6 I7 ⟨m,hm⟩ (I3.fpOk (Nat.le_refl _) hf6) qn
  ·refine thn (T.item (X.block scope N fp { s2 with heap:=h3 } (upd H2 s2.heap.objs.size (.lst [])) h3.objs.size) rfl rfl rfl hc i [] s5 σ5 H5 _ I5 (fpB fr5) st5 go) fun r s6 ⟨u,hr,h6⟩=>?_
   subst hr
   refine wpAny_bind (thn h6 fun _ s7 ⟨x,H7,I7,r7,y7,st7,fr7⟩=>?_)
   have I7':=I7.pinned (fpB fr7) (T.obj _ _ st7)
   have fin:∀ {σ9:St} {H9:Hp} {s9:Shared},Inv (X.block scope N fp { s2 with heap:=h3 } (upd H2 s2.heap.objs.size (.lst [])) h3.objs.size) ([] ++ jh1 fp s7.heap) σ9 H9 s9→N' σ9 H9 →
     ∃ m,m < n∧∃ i σ' H',Inv (X.block scope N fp { s2 with heap:=h3 } (upd H2 s2.heap.objs.size (.lst [])) h3.objs.size) [] σ' H' s9∧tn i s9.heap∧(∀ b ∈ fp,H' b = none)∧W i m σ' H':=fun {σ9 H9 s9} I9 n9=>by
    obtain ⟨m',hm,w9⟩:=hN' σ9 H9 n9
    refine ⟨m',hm,i + 1,σ9,H9,I9.unpinned,T.keep _ _ _ st7 fun b hb o e=>(I9.pin (b,o) (List.mem_append_right _ (List.mem_append_right _ (jct hb e)))).1,fun b hb=>?_,w9⟩
    obtain ⟨o,e,d⟩:=T.obj _ _ st7 b hb
    exact (I9.pin (b,o) (List.mem_append_right _ (List.mem_append_right _ (jct hb e)))).2.1
   refine wpAny_bind (wpAny_mono (hg fp _ _ _ _ s7 σ5 H7 x u _ I7' r7 (step x H7 y7)) (fun _ s8 ⟨σ8,H8,I8,q8⟩=>?_) fun _ _ z=>False.elim z)
   refine wpAny_bind (wpAny_mono (ht fp _ _ _ _ s8 σ8 H8 _ I8 q8) (fun ok s9 ⟨H9,I9,q9⟩=>?_) fun _ _ z=>False.elim z)
   cases ok with
   | false=>exact wpAny_pure ⟨rfl,fin I9 q9⟩
   | true =>
    refine wpAny_bind (wpAny_bind (wpAny_mono (he fp _ _ _ _ s9 σ8 H9 _ I9 q9) (fun v s10 ⟨y,H10,I10,r10,xs,hx,hz,q10⟩=>?_) fun _ _ z=>False.elim z))
    refine wpAny_bind (wpAny_mono (jhc (X:=X.block scope N fp { s2 with heap:=h3 } (upd H2 s2.heap.objs.size (.lst [])) h3.objs.size) _ s10 σ8 H10 (.ref s2.heap.objs.size) [y] _ [v] (fun _ H11=>N' σ8 H11) I10 rfl (.cons r10 .nil) ⟨_,xs,y,rfl,rfl,hx,hz,q10⟩)
     (fun _ s11 ⟨_,H11,I11,_,q11⟩=>wpAny_pure (wpAny_pure ⟨rfl,fin I11 q11⟩)) fun _ _ z=>False.elim z)
 exact codeAny_compStart_list (loop _ rfl) (T.self _ 0 _ _ _ tn1 (loop _ rfl))
def jm8 (src:List (Option Nat)) (wi:TI) (g:TG) (tc:TT) (te:TE):TE:=fun σ H Q=>wi σ H fun J H1=>∀ l,H1 l = none→jm5 J src g tc te Q σ H1 l
theorem jbs {X:Cx} {elt tg iter:Expr} {ifs:List Expr} {scope:Scope} {pos:Pos} {N:List Str} {src:List (Option Nat)} {wi:TI} {g:TG} {tc:TT} {te:TE} (S:CpScope X scope N src) (hc:X.calm = true)
  (hi:PI X tg iter wi) (hg:∀ fp s₀ H₀ C,PG (X.block scope N fp s₀ H₀ C) tg g) (ht:∀ fp s₀ H₀ C,PIf (X.block scope N fp s₀ H₀ C) ifs tc) (he:∀ fp s₀ H₀ C,PE (X.block scope N fp s₀ H₀ C) elt te)
  (hs:∀ x,foldedSetIterable iter X.env x = pure x:=by intro _; rfl):PE X (.ListComp elt [⟨tg,iter,ifs,0⟩] scope pos) (jm8 src wi g tc te):=by
 intro pins s σ H Q I h
 rw [eval_ListComp]
 refine wpAny_comprehension_free (use:=none) rfl hs (jcj fun y hy e=>I.ok.has y.1 (.inl (S.frees y hy e).2)) S.kind S.locs ?_
 refine thn (hi pins s σ H _ I h) fun v s1 h1=>thn h1 fun itv s2 h2=>?_
 obtain ⟨it,fp,tn,J,H2,e,I2,T,st2,f2,hw⟩:=h2
 subst e
 refine jhq (RR:=fun acc C=>compPost (model X.prog X.w) X.A X.xe none (EP X pins σ Q) acc C) S hc hg ht he I2 T st2 f2 hw ?_
 intro l C H' s' I' hm fC q
 obtain ⟨m,hm⟩:=hm
 refine ⟨m,hm,fun h' hs'=>?_⟩
 exact ⟨.ref l,H',I'.turned (t':=s'.toks) (fun b o hb e=>hs'.extBut b o hb e) fC.1 fC.2.1 fC.2.2.2.1 fC.2.2.2.2.1 fC.2.2.2.2.2,rfl,q⟩
theorem jd2 {X:Cx} {i:Nat} {x:Str} {pos' spos:Pos} {elt tg iter:Expr} {ifs:List Expr} {scope:Scope} {pos:Pos} {N:List Str} {src:List (Option Nat)} {wi:TI} {g:TG} {tc:TT} {te:TE} (hN:X.N.Nodup) (hix:X.N[i]? = some x) (hx:Loc X.env.scope x)
  (S:CpScope X scope N src) (hc:X.calm = true)
  (hi:PI X tg iter wi) (hg:∀ fp s₀ H₀ C,PG (X.block scope N fp s₀ H₀ C) tg g) (ht:∀ fp s₀ H₀ C,PIf (X.block scope N fp s₀ H₀ C) ifs tc) (he:∀ fp s₀ H₀ C,PE (X.block scope N fp s₀ H₀ C) elt te)
  (hsw:swapsWith (.ListComp elt [⟨tg,iter,ifs,0⟩] scope pos) (some (.Name x pos')) spos.line X.env = pure true:=by rfl)
  (hs:∀ x,foldedSetIterable iter X.env x = pure x:=by intro _; rfl) (hf:X.fn x = true ∨ X.env.scope.names.lookup x = some .local:=by first | exact .inl rfl | exact .inr rfl | assumption) :
  PS X (.Assign [.Name x pos'] (.ListComp elt [⟨tg,iter,ifs,0⟩] scope pos) spos) (tAsg (jm8 src wi g tc te) (jg8 i)):=by
 intro pins s σ H D I h
 rw [exec_Assign_Name_used _ _ _ _ hsw]
 refine wpAny_bind (wpAny_standAt (wpAny_bind ?_))
 show wpAny _ X.A (do let _ ← comprehension (.ListComp elt [⟨tg,iter,ifs,0⟩] scope pos) scope X.env _ (newList []) false (eval iter X.env) (some (assign (.Name x pos') X.env))) _ _ s
 refine wpAny_bind (wpAny_mono (wpAny_comprehension_free (use:=some (assign (.Name x pos') X.env)) (Q:=fun _ s'=>SP X pins D .next s') rfl hs (jcj fun y hy e=>I.ok.has y.1 (.inl (S.frees y hy e).2)) S.kind S.locs
  (thn (hi pins s σ H _ I h) fun v s1 h1=>thn h1 fun itv s2 h2=>?_)) (fun _ s' hq=>wpAny_pure (wpAny_pure hq)) fun _ _ e=>e)
 obtain ⟨it,fp,tn,J,H2,e,I2,T,st2,f2,hw⟩:=h2
 subst e
 refine jhq (Q:=fun v H'=>D.nx (σ.set i (some v)) H') (RR:=fun acc C=>compPost (model X.prog X.w) X.A X.xe (some (assign (.Name x pos') X.env)) (fun _ s'=>SP X pins D .next s') acc C) S hc hg ht he I2 T st2 f2 hw ?_
 intro l C H' s' I' hm fC q
 obtain ⟨m,hm⟩:=hm
 show wpAny _ X.A (assign (.Name x pos') X.env (.ref l)) _ _ _
 refine wpAny_assign_Name (jgs I' hN hix hx (v:=.ref l) rfl (fun s'' I'' ⟨a,sb,ha⟩=>?_) hf)
 have hCa:C ≠ a:=by
  rcases ha with rfl | ha
  ·exact fC.2.1
  ·exact fun z=>fC.2.2.2.2.1 x a ha z.symm
 refine ⟨m,hm.sameBut sb hCa,fun h' hs'=>?_⟩
 exact ⟨_,H',I''.turned (t':=s''.toks) (fun b o hb e=>hs'.extBut b o hb e) fC.1 fC.2.1 fC.2.2.2.1 fC.2.2.2.2.1 fC.2.2.2.2.2,q⟩
end L2
namespace L2
open PySem PySem.Spec PyProof.Rows
theorem Inv.turnedNew {X:Cx} {pins:List (Addr × Obj)} {σ:St} {H:Hp} {s:Shared} {h':Heap} {ch:List Addr} {t:Addr} {o:HO} {t':Nat} (I:Inv X pins σ H s) (hsz:s.heap.objs.size ≤ t)
  (k:∀ b ob,b ∉ ch→s.heap.get? b = some ob→h'.get? b = some ob) (hch:∀ b ∈ ch,FpOk X pins H b) (new:jbn X.prog X.w (upd H t o) h' t o) :
  Inv X pins σ (upd H t o) { s with heap:=h',toks:=t' }:=by
 have hn:H t = none:=I.hok.fresh hsz
 have nt:∀ {b ob},s.heap.get? b = some ob→b ≠ t:=fun q=>Nat.ne_of_lt (Nat.lt_of_lt_of_le (Heap.lt_size q) hsz)
 have u:Un (frs X.stack) ch H (upd H t o) s.heap h' :=
  ⟨fun b ob q _ _ hx=>k b ob hx q,fun b ob q _ _ hx=>⟨ob.slots,k b ob hx q⟩,fun b ob q n _=>by rw [jaa (nt q)]; exact n,fun b ob q hx=>⟨ob,k b ob hx q⟩,
   fun b xs q=>by rw [jaa (ja6 q hn)]; exact q,fun b ob xs q=>by rw [jaa (ja6 q hn)]; exact q,fun b ps q=>⟨#[],by rw [jaa (ja6 q hn),q]; simp⟩⟩
 refine I.call (g':=s.gens) (t':=t') (d':=s.drawn) u (fun b ob e=>?_) I.bare fun b hb=>⟨(hch b hb).2.2.2.1,(hch b hb).2.1,(hch b hb).2.2.2.2.1,(hch b hb).2.2.2.2.2⟩
 by_cases hb:b = t
 ·subst hb; rw [ja1] at e; cases e; exact new
 ·rw [jaa hb] at e
  have ntr:∀ {c u},H c = some u→c ∉ ch:=fun q z=>by rw [(hch _ z).1] at q; cases q
  refine (I.hok b ob e).stay (fun c v hc q=>k c v ?_ q) (fun c q=>by rw [jaa (ja6 q hn)]; exact q) fun c xs q=>by rw [jaa (ja6 q hn)]; exact q
  rcases hc with z | z
  ·rw [z]; exact ntr e
  ·exact ntr z
theorem Inv.turnedAll {X:Cx} {pins:List (Addr × Obj)} {σ:St} {H:Hp} {s:Shared} {h':Heap} {ch:List Addr} {t':Nat} (I:Inv X pins σ H s)
  (k:∀ b ob,b ∉ ch→s.heap.get? b = some ob→h'.get? b = some ob) (hch:∀ b ∈ ch,FpOk X pins H b):Inv X pins σ H { s with heap:=h',toks:=t' }:=by
 have u:Un (frs X.stack) ch H H s.heap h' :=
  ⟨fun b ob q _ _ hx=>k b ob hx q,fun b ob q _ _ hx=>⟨ob.slots,k b ob hx q⟩,fun b ob q n _=>n,fun b ob q hx=>⟨ob,k b ob hx q⟩,fun b xs q=>q,fun b ob xs q=>q,fun b ps q=>⟨#[],by rw [q]; simp⟩⟩
 refine I.call (g':=s.gens) (t':=t') (d':=s.drawn) u (fun b ob e=>?_) I.bare fun b hb=>⟨(hch b hb).2.2.2.1,(hch b hb).2.1,(hch b hb).2.2.2.2.1,(hch b hb).2.2.2.2.2⟩
 have ntr:∀ {c u},H c = some u→c ∉ ch:=fun q z=>by rw [(hch _ z).1] at q; cases q
 refine (I.hok b ob e).stay (fun c v hc q=>k c v ?_ q) (fun c q=>q) fun c xs q=>q
 rcases hc with z | z
 ·rw [z]; exact ntr e
 ·exact ntr z
def Ite (K:PySem.W.Frag) (a:Addr):It :=
 ⟨fun i H=>∃ xs x,SqL K H a xs∧xs[i]? = some x,fun i H x H'=>∃ t y,H t = none∧x = .ref t∧H' = upd H t (.tup [.int i,y])∧∀ xs,SqL K H a xs→xs[i]? = some y,fun i H=>∃ xs,SqL K H a xs∧xs.length ≤ i⟩
theorem jk7 {P:Program} {w:World} {K:PySem.W.Frag} {elts:List Expr} {x1:Nat} {pos:Pos} (a e it:Addr) (hne:e ≠ it) :
  Turn P w K (.Tuple elts x1 pos) (Ite K a) [e,it] e (fun i h=>(∃ old,IsEnum h e it i old)∧h.IsListIter it a i) where
 mem:=by simp
 obj:=fun i h st b hb=>by
  obtain ⟨⟨old,he⟩,hit⟩:=st
  have q:b = e ∨ b = it:=by simpa using hb
  rcases q with rfl | rfl
  ·exact ⟨_,he,fun v z=>by
    have z':Data.fields _ = Data.cell v:=z
    cases z'⟩
  ·obtain ⟨o,e1,c,d⟩:=hit
   exact ⟨o,e1,fun v z=>by rw [d] at z; cases z⟩
 keep:=fun i h h' st k=>by
  obtain ⟨⟨old,he⟩,hit⟩:=st
  exact ⟨⟨old,k e (by simp) _ he⟩,hit.at fun o z=>k it (by simp) o z⟩
 item:=by
  intro X hP hw hK hc i pins s σ H E I hf st hg
  subst hP hw hK
  obtain ⟨⟨old,he⟩,hit⟩:=st
  obtain ⟨xs,x,hq,hx⟩:=hg
  obtain ⟨its,rv,p,hz⟩:=I.list hq
  obtain ⟨u,hu,ru⟩:=rv.get hx
  have elt:e < s.heap.objs.size:=Heap.lt_size he
  have ilt:it < s.heap.objs.size:=by obtain ⟨_,z,_⟩:=hit; exact Heap.lt_size z
  refine wpAny_pyNext_enum_item he hit p.isList (x:=u) (by simpa using hu) hne fun h1 ho hit1 hT hsz1 hk1=>?_
  refine ⟨_,rfl,wpAny_letOwnedTupleGo_enum ho fun h2 he2 hs2=>?_⟩
  replace hs2:Heap.SameBut e h1 h2:=hs2
  have kk:∀ b ob,b ∉ [e,it]→s.heap.get? b = some ob→h2.get? b = some ob:=fun b ob hb q=>by
   have hb':b ≠ e∧b ≠ it:=by simpa using hb
   exact hs2.extBut b ob hb'.1 (hk1 b ob hb'.1 hb'.2 q)
  have hT2:h2.get? s.heap.objs.size = some { cls:=.type "tuple",data:=.seq #[.int i s.toks,u] }:=(hs2.2 _ (Nat.ne_of_gt elt)).trans hT
  refine ⟨.ref s.heap.objs.size,upd H s.heap.objs.size (.tup [.int i,x]),I.turnedNew (ch:=[e,it]) (Nat.le_refl _) kk hf ?_,rfl,⟨_,x,I.fresh,rfl,rfl,fun ys hy=>by rw [I.list_inj hy hq]; exact hx⟩,⟨⟨u,by simpa using he2⟩,hit1.at fun o z=>(hs2.2 it hne.symm).trans z⟩,fun b hb=>?_⟩
  ·exact ⟨by show 2 ≤ sizeLine; decide,[.int i s.toks,u],.cons ⟨_,rfl⟩ (.cons ru .nil),⟨_,hT2,rfl,_,rfl⟩⟩
  ·have hb':b = e ∨ b = it:=by simpa using hb
   have:b ≠ s.heap.objs.size:=by
    rcases hb' with rfl | rfl
    ·exact Nat.ne_of_lt elt
    ·exact Nat.ne_of_lt ilt
   rw [jaa this]
   exact (hf b hb).1
 done:=by
  intro X hP hw hK hc i pins s σ H E I hf st hg
  subst hP hw hK
  obtain ⟨⟨old,he⟩,hit⟩:=st
  obtain ⟨xs,hq,hx⟩:=hg
  obtain ⟨its,rv,p,hz⟩:=I.list hq
  have hl:=rv.length
  refine wpAny_pyNext_enum_end (I.ok.hd hc) he hit p.isList (by simp; omega) fun h' eb=>⟨rfl,I.turnedAll (ch:=[e,it]) (t':=s.toks) (fun b o hb q=>eb b o (fun z=>hb (by simp [z])) q) hf⟩
 self:=fun _ _ _ _ _ st h=>by
  obtain ⟨⟨old,he⟩,_⟩:=st
  exact wpAny_pyIter_enum he h
def iEnum (K:PySem.W.Frag) (ta:TA):TI:=fun σ H R=>ta σ H fun vs H1=>∃ a,vs = [.ref a]∧(∃ xs,SqL K H1 a xs)∧R (Ite K a) H1
theorem jkx {X:Cx} {elts:List Expr} {x1:Nat} {tpos:Pos} {a:Expr} {ta:TA} {p pos:Pos} (hg:Gl X "enumerate") (hm:X.mg "enumerate" = none) (ha:PA X [a] ta) (hs:starEach [a] X.env = [(false,eval a X.env)]:=by rfl) :
  PI X (.Tuple elts x1 tpos) (.Call (.Name "enumerate" p) [a] [] pos) (iEnum X.K ta):=by
 intro pins s σ H R I h
 refine Call_ (jek I hg hm boot_enumerate (PyProof.Rows.callWith_type1 (thn (ha pos pins s σ H _ I h) fun us s1 ⟨vs,H1,I1,r1,q1⟩=>?_) hs rfl))
 obtain ⟨a,e,⟨xs,hq⟩,q⟩:=q1
 subst e
 cases r1 with
 | cons r rr =>
  cases rr
  cases r
  obtain ⟨its,rv,pl,hz⟩:=I1.list hq
  refine call_enumerate_list pl.isList fun h' he hit hsz hk=>?_
  refine wpAny_pyIter_enum he ?_
  have I2:Inv X pins σ H1 { s1 with heap:=h' }:=I1.kept (t':=s1.toks) fun b o q=>hk b o q
  refine ⟨_,[s1.heap.objs.size + 1,s1.heap.objs.size],_,_,H1,rfl,I2,jk7 a _ _ (Nat.succ_ne_self _),⟨⟨_,he⟩,hit⟩,fun b hb=>?_,q⟩
  have hb':b = s1.heap.objs.size + 1 ∨ b = s1.heap.objs.size:=by simpa using hb
  rcases hb' with rfl | rfl
  ·exact I1.fpOk (Nat.le_succ _) (I1.hok.fresh (Nat.le_succ _))
  ·exact I1.fpOk (Nat.le_refl _) (I1.hok.fresh (Nat.le_refl _))
end L2
namespace L2
open PySem PySem.Spec PyProof.Rows
section
variable {prog:Program} {w:World} {A:Around} {E:Value→Shared→Prop} {s:Shared}
theorem jjt {j t:Addr} {k:Nat} {ar:Array Value} {x:Value} {Q:Value→Shared→Prop} (hj:s.heap.IsTupleIter j t k) (ht:s.heap.IsTuple t ar) (hx:ar[k]? = some x)
  (hQ:∀ h',h'.IsTupleIter j t (k + 1)→Heap.SameBut j s.heap h'→Q x { s with heap:=h' }):wpAny (model prog w) A (Builtin.SmallTypes.nextOf (.ref j)) Q E s:=by
 obtain ⟨ob,e0,hcl,hdt⟩:=id hj
 obtain ⟨ot,e1,_,nt,hdl⟩:=ht
 unfold Builtin.SmallTypes.nextOf
 refine wpAny_bind (wpAny_callSpecial?_slot (name:=Str.ofString "__next__") hj.typeIs F.slot_tuple_iterator_next (wpAny_call_entry F.slot_tuple_iterator_next hj.typeIs F.entry_tuple_iterator_next ?_ (F.args_tuple_iterator_next_1 _)))
 show wpAny _ _ (field (.ref j) 0 >>= _) _ _ s
 refine wpAny_bind (wpAny_field e0 hdt (x:=.ref t) rfl ?_)
 show wpAny _ _ (if (Value.ref t == Value.none) = true then _ else _) _ _ s
 rw [if_neg (show ¬ ((Value.ref t == Value.none) = true) from Bool.false_ne_true)]
 show wpAny _ _ (field (.ref j) 1 >>= _) _ _ s
 refine wpAny_bind (wpAny_field e0 hdt (x:=.int k 0) rfl ?_)
 show wpAny _ _ (seqItems? (.ref t) >>= _) _ _ s
 refine wpAny_bind (wpAny_seqItems e1 hdl ?_)
 simp only [Int.toNat_natCast,hx]
 refine wpAny_bind (wpAny_setField e0 hdt (by simp) (wpAny_pure ⟨x,rfl,wpAny_pure (hQ _ ?_ (Heap.SameBut.update ..))⟩))
 exact ⟨_,Heap.get?_update_self _ e0 (Obj.isFreed_of_fields (Obj.data_mapFields hdt _)),(Obj.cls_mapFields ..).trans hcl,by rw [Obj.data_mapFields hdt]; simp [rawInt]⟩
theorem jex {j t:Addr} {k:Nat} {ar:Array Value} {Q:Value→Shared→Prop} (hh:A.handled = none) (hj:s.heap.IsTupleIter j t k) (ht:s.heap.IsTuple t ar) (hx:ar[k]? = none)
  (hE:∀ h' e,Heap.ExtBut j s.heap h'→(∃ o,h'.get? e = some o∧o.cls = .type "StopIteration")→E (.ref e) { s with heap:=h' }):wpAny (model prog w) A (Builtin.SmallTypes.nextOf (.ref j)) Q E s:=by
 obtain ⟨ob,e0,hcl,hdt⟩:=id hj
 obtain ⟨ot,e1,_,nt,hdl⟩:=ht
 unfold Builtin.SmallTypes.nextOf
 refine wpAny_bind (wpAny_callSpecial?_slot (name:=Str.ofString "__next__") hj.typeIs F.slot_tuple_iterator_next (wpAny_call_entry F.slot_tuple_iterator_next hj.typeIs F.entry_tuple_iterator_next ?_ (F.args_tuple_iterator_next_1 _)))
 show wpAny _ _ (field (.ref j) 0 >>= _) _ _ s
 refine wpAny_bind (wpAny_field e0 hdt (x:=.ref t) rfl ?_)
 show wpAny _ _ (if (Value.ref t == Value.none) = true then _ else _) _ _ s
 rw [if_neg (show ¬ ((Value.ref t == Value.none) = true) from Bool.false_ne_true)]
 show wpAny _ _ (field (.ref j) 1 >>= _) _ _ s
 refine wpAny_bind (wpAny_field e0 hdt (x:=.int k 0) rfl ?_)
 show wpAny _ _ (seqItems? (.ref t) >>= _) _ _ s
 refine wpAny_bind (wpAny_seqItems e1 hdl ?_)
 simp only [Int.toNat_natCast,hx]
 refine wpAny_bind (wpAny_rule (wpAny_bind (wpAny_setField e0 hdt (by simp) ?_)))
 show wpAny _ _ (newExc (.type "StopIteration") [] >>= _) _ _ _
 refine wpAny_bind ?_
 simp only [newExc,newTuple]
 refine wpAny_bind (wpAny_newObj_type ?_ (by size_fits))
 refine wpAny_bind (m:=firstArgMember _ _) (wpAny_of_eq (a:=Value.none) (by first | rfl | (simp only [firstArgMember]; rfl)) ?_)
 refine wpAny_newObj_type ?_ (by size_fits)
 simp only [raiseNew]
 refine wpAny_bind (wpAny_handled ?_)
 first | rw [show A.in1.handled = none from hh] | rw [hh]
 refine wpAny_bind (wpAny_pure (wpAny_throw ?_))
 exact hE _ _ (((Heap.SameBut.update ..).extBut.push _).push _) ⟨_,Heap.get?_push_size _ rfl,rfl⟩
def IsSq (b:Bool) (h:Heap) (l:Addr) (ar:Array Value):Prop:=if b = true then h.IsList l ar else h.IsTuple l ar
def jbo (b:Bool) (h:Heap) (j l:Addr) (k:Nat):Prop:=if b = true then h.IsListIter j l k else h.IsTupleIter j l k
theorem IsSq.at' {b:Bool} {h h':Heap} {l:Addr} {ar:Array Value} (x:IsSq b h l ar) (k:∀ o,h.get? l = some o→h'.get? l = some o):IsSq b h' l ar:=by
 cases b with
 | true=>obtain ⟨o,e,r⟩:=(show h.IsList l ar from x); exact (show h'.IsList l ar from ⟨o,k o e,r⟩)
 | false=>obtain ⟨o,e,r⟩:=(show h.IsTuple l ar from x); exact (show h'.IsTuple l ar from ⟨o,k o e,r⟩)
theorem jbo.at' {b:Bool} {h h':Heap} {j l:Addr} {i:Nat} (x:jbo b h j l i) (k:∀ o,h.get? j = some o→h'.get? j = some o):jbo b h' j l i:=by
 cases b with
 | true=>obtain ⟨o,e,r⟩:=(show h.IsListIter j l i from x); exact (show h'.IsListIter j l i from ⟨o,k o e,r⟩)
 | false=>obtain ⟨o,e,r⟩:=(show h.IsTupleIter j l i from x); exact (show h'.IsTupleIter j l i from ⟨o,k o e,r⟩)
theorem jbo.obj {b:Bool} {h:Heap} {j l:Addr} {i:Nat} (x:jbo b h j l i):∃ o,h.get? j = some o∧∀ v,o.data ≠ .cell v:=by
 cases b with
 | true=>obtain ⟨o,e,_,d⟩:=(show h.IsListIter j l i from x); exact ⟨o,e,fun v z=>by rw [d] at z; cases z⟩
 | false=>obtain ⟨o,e,_,d⟩:=(show h.IsTupleIter j l i from x); exact ⟨o,e,fun v z=>by rw [d] at z; cases z⟩
theorem jeg {b:Bool} {j l:Addr} {k:Nat} {ar:Array Value} {x:Value} {Q:Value→Shared→Prop} (hj:jbo b s.heap j l k) (hl:IsSq b s.heap l ar) (hx:ar[k]? = some x)
  (hQ:∀ h',jbo b h' j l (k + 1)→Heap.SameBut j s.heap h'→Q x { s with heap:=h' }):wpAny (model prog w) A (Builtin.SmallTypes.nextOf (.ref j)) Q E s:=by
 cases b with
 | true=>exact wpAny_nextOf_list_item (show s.heap.IsListIter j l k from hj) (show s.heap.IsList l ar from hl) hx fun h' a b=>hQ h' a b
 | false=>exact jjt (show s.heap.IsTupleIter j l k from hj) (show s.heap.IsTuple l ar from hl) hx fun h' a b=>hQ h' a b
theorem jdb {b:Bool} {j l:Addr} {k:Nat} {ar:Array Value} {Q:Value→Shared→Prop} (hh:A.handled = none) (hj:jbo b s.heap j l k) (hl:IsSq b s.heap l ar) (hx:ar[k]? = none)
  (hE:∀ h' e,Heap.ExtBut j s.heap h'→(∃ o,h'.get? e = some o∧o.cls = .type "StopIteration")→E (.ref e) { s with heap:=h' }):wpAny (model prog w) A (Builtin.SmallTypes.nextOf (.ref j)) Q E s:=by
 cases b with
 | true=>exact wpAny_nextOf_list_end hh (show s.heap.IsListIter j l k from hj) (show s.heap.IsList l ar from hl) hx hE
 | false=>exact jex hh (show s.heap.IsTupleIter j l k from hj) (show s.heap.IsTuple l ar from hl) hx hE
theorem jgk {b:Bool} {z TI TO i1 i2 l1 l2:Addr} {k1 k2:Nat} {xs ys:Array Value} {x y v0 v1:Value} {Q:Value→Shared→Prop} (D:ZipApart z TI TO i1 i2 l1 l2)
  (hz:IsZip s.heap z TI TO .none) (hTI:IsPair s.heap TI (.ref i1) (.ref i2)) (hTO:IsPair s.heap TO v0 v1)
  (h1:jbo b s.heap i1 l1 k1) (h2:jbo b s.heap i2 l2 k2) (hl1:IsSq b s.heap l1 xs) (hl2:IsSq b s.heap l2 ys) (hx:xs[k1]? = some x) (hy:ys[k2]? = some y)
  (hQ:∀ h',IsZip h' z TI TO (rawInt s.heap.objs.size)→IsPair h' TO x y→jbo b h' i1 l1 (k1 + 1)→jbo b h' i2 l2 (k2 + 1)→IsPair h' s.heap.objs.size x y →
   (∀ c o,c ≠ z→c ≠ TO→c ≠ i1→c ≠ i2→s.heap.get? c = some o→h'.get? c = some o)→Q (.ref s.heap.objs.size) { s with heap:=h' }) :
  wpAny (model prog w) A (Builtin.«zip.__next__» ⟨[.ref z],[]⟩) (fun fin s'=>∃ v,fin = .done (.ret v)∧Q v s') E s:=by
 show wpAny _ _ (field (.ref z) 2 >>= _) _ _ _
 refine wpAny_bind (wpAny_field hz rfl (x:=.bool false) rfl ?_)
 show wpAny _ _ (field (.ref z) 3 >>= _) _ _ _
 refine wpAny_bind (wpAny_field hz rfl (x:=.ref TI) rfl ?_)
 refine wpAny_bind (wpAny_seqItems hTI rfl ?_)
 show wpAny _ _ (Builtin.SmallTypes.ownedTupleIsFree (.ref z) >>= _) _ _ _
 refine wpAny_bind ?_
 unfold Builtin.SmallTypes.ownedTupleIsFree
 refine wpAny_bind (wpAny_field hz rfl (x:=.none) rfl (wpAny_pure ?_))
 simp only [if_true]
 refine wpAny_bind (wpAny_rule ?_)
 refine wpAny_bind (wpAny_field hz rfl (x:=.ref TO) rfl ?_)
 refine wpAny_bind (wpAny_setField_rec hz (by simp) fun g1 hzA sA=>?_)
 replace hzA:IsZip g1 z TI TO .ellipsis:=hzA
 refine wpAny_bind ?_
 simp only [List.zipIdx_cons,List.zipIdx_nil,List.forIn_cons,List.forIn_nil]
 refine wpAny_bind (wpAny_bind (wpAny_onRaise ?_))
 show wpAny _ _ (Builtin.SmallTypes.nextOf (.ref i1) >>= _) _ _ _
 refine wpAny_bind (jeg (b:=b) (h1.at' fun o e=>sA.extBut _ o D.i1z e) (hl1.at' fun o e=>sA.extBut _ o D.l1z e) hx fun g2 h1B sB=>wpAny_pure ?_)
 have TOB:IsPair g2 TO v0 v1:=sB.extBut _ _ D.TOi1 (sA.extBut _ _ D.TOz hTO)
 refine wpAny_bind (wpAny_seqItems TOB rfl ?_)
 refine wpAny_bind (wpAny_updateSeq_pair TOB fun g3 TOC sC=>?_)
 replace TOC:IsPair g3 TO x v1:=TOC
 refine wpAny_bind (wpAny_letGo (wpAny_pure ?_))
 refine wpAny_bind (wpAny_bind (wpAny_onRaise ?_))
 show wpAny _ _ (Builtin.SmallTypes.nextOf (.ref i2) >>= _) _ _ _
 refine wpAny_bind (jeg (b:=b) (h2.at' fun o e=>sC.extBut _ o D.TOi2.symm (sB.extBut _ o D.i12.symm (sA.extBut _ o D.i2z e))) (hl2.at' fun o e=>sC.extBut _ o D.l2TO (sB.extBut _ o D.l2i1 (sA.extBut _ o D.l2z e))) hy fun g4 h2D sD=>wpAny_pure ?_)
 have TOD:IsPair g4 TO x v1:=sD.extBut _ _ D.TOi2 TOC
 refine wpAny_bind (wpAny_seqItems TOD rfl ?_)
 refine wpAny_bind (wpAny_updateSeq_pair TOD fun g5 TOE sE=>?_)
 replace TOE:IsPair g5 TO x y:=TOE
 refine wpAny_bind (wpAny_letGo (wpAny_pure (wpAny_pure ?_)))
 refine wpAny_bind (wpAny_seqItems TOE rfl ?_)
 refine wpAny_bind (wpAny_newTuple ?_)
 have hsz:g5.objs.size = s.heap.objs.size:=by rw [sE.1,sD.1,sC.1,sB.1,sA.1]
 have hzE:IsZip g5 z TI TO .ellipsis:=sE.extBut _ _ D.TOz.symm (sD.extBut _ _ D.i2z.symm (sC.extBut _ _ D.TOz.symm (sB.extBut _ _ D.i1z.symm hzA)))
 have hkE:∀ c o,c ≠ z→c ≠ TO→c ≠ i1→c ≠ i2→s.heap.get? c = some o→g5.get? c = some o:=fun c o c1 c2 c3 c4 e=>sE.extBut _ _ c2 (sD.extBut _ _ c4 (sC.extBut _ _ c2 (sB.extBut _ _ c3 (sA.extBut _ _ c1 e))))
 have h1E:jbo b g5 i1 l1 (k1 + 1):=h1B.at' fun o e=>sE.extBut _ o D.TOi1.symm (sD.extBut _ o D.i12 (sC.extBut _ o D.TOi1.symm e))
 have h2E:jbo b g5 i2 l2 (k2 + 1):=h2D.at' fun o e=>sE.extBut _ o D.TOi2.symm e
 have zlt:z < g5.objs.size:=Heap.lt_size hzE
 show wpAny _ _ (Builtin.SmallTypes.ownedTupleHandOut (.ref z) (.ref g5.objs.size) >>= _) _ _ _
 refine wpAny_bind ?_
 unfold Builtin.SmallTypes.ownedTupleHandOut
 have hzF:IsZip (g5.push { cls:=.type "tuple",data:=.seq #[x,y] }) z TI TO .ellipsis:=Heap.get?_push_of_some _ hzE
 refine wpAny_bind (wpAny_setField_rec hzF (by simp) fun g7 hzG sG=>?_)
 replace hzG:IsZip g7 z TI TO (rawInt g5.objs.size):=hzG
 refine wpAny_setField_rec hzG (by simp) fun g8 hzI sI=>?_
 replace hzI:IsZip g8 z TI TO (rawInt g5.objs.size):=hzI
 have up:∀ c o,c ≠ z→g5.get? c = some o→g8.get? c = some o:=fun c o c1 e=>sI.extBut _ _ c1 (sG.extBut _ _ c1 (Heap.get?_push_of_some _ e))
 have hTI8:IsPair g8 g5.objs.size x y:=sI.extBut _ _ (Nat.ne_of_gt zlt) (sG.extBut _ _ (Nat.ne_of_gt zlt) (Heap.get?_push_size _ rfl))
 rw [hsz] at hzI hTI8
 refine wpAny_pure ⟨_,rfl,?_⟩
 show Q (.ref g5.objs.size) _
 rw [hsz]
 exact hQ g8 hzI (up _ _ D.TOz TOE) (h1E.at' fun o e=>up _ o D.i1z e) (h2E.at' fun o e=>up _ o D.i2z e) hTI8 fun c o c1 c2 c3 c4 e=>up c o c1 (hkE c o c1 c2 c3 c4 e)
theorem ji0 {b:Bool} {z TI TO i1 i2 l1 l2:Addr} {k1 k2:Nat} {xs ys:Array Value} {v0 v1:Value} {Q:Fin→Shared→Prop} (hh:A.handled = none) (D:ZipApart z TI TO i1 i2 l1 l2)
  (hz:IsZip s.heap z TI TO .none) (hTI:IsPair s.heap TI (.ref i1) (.ref i2)) (hTO:IsPair s.heap TO v0 v1)
  (h1:jbo b s.heap i1 l1 k1) (h2:jbo b s.heap i2 l2 k2) (hl1:IsSq b s.heap l1 xs) (hl2:IsSq b s.heap l2 ys) (hend:xs[k1]? = none ∨ ys[k2]? = none)
  (hE:∀ h' e,(∀ c o,c ≠ z→c ≠ TO→c ≠ i1→c ≠ i2→s.heap.get? c = some o→h'.get? c = some o)→(∃ o,h'.get? e = some o∧o.cls = .type "StopIteration")→E (.ref e) { s with heap:=h' }) :
  wpAny (model prog w) A (Builtin.«zip.__next__» ⟨[.ref z],[]⟩) Q E s:=by
 show wpAny _ _ (field (.ref z) 2 >>= _) _ _ _
 refine wpAny_bind (wpAny_field hz rfl (x:=.bool false) rfl ?_)
 show wpAny _ _ (field (.ref z) 3 >>= _) _ _ _
 refine wpAny_bind (wpAny_field hz rfl (x:=.ref TI) rfl ?_)
 refine wpAny_bind (wpAny_seqItems hTI rfl ?_)
 show wpAny _ _ (Builtin.SmallTypes.ownedTupleIsFree (.ref z) >>= _) _ _ _
 refine wpAny_bind ?_
 unfold Builtin.SmallTypes.ownedTupleIsFree
 refine wpAny_bind (wpAny_field hz rfl (x:=.none) rfl (wpAny_pure ?_))
 simp only [if_true]
 refine wpAny_bind (wpAny_rule ?_)
 refine wpAny_bind (wpAny_field hz rfl (x:=.ref TO) rfl ?_)
 refine wpAny_bind (wpAny_setField_rec hz (by simp) fun g1 hzA sA=>?_)
 replace hzA:IsZip g1 z TI TO .ellipsis:=hzA
 refine wpAny_bind ?_
 simp only [List.zipIdx_cons,List.zipIdx_nil,List.forIn_cons,List.forIn_nil]
 refine wpAny_bind (wpAny_bind (wpAny_onRaise ?_))
 show wpAny _ _ (Builtin.SmallTypes.nextOf (.ref i1) >>= _) _ _ _
 cases hx:xs[k1]? with
 | none =>
  refine wpAny_bind (jdb (b:=b) hh (h1.at' fun o e=>sA.extBut _ o D.i1z e) (hl1.at' fun o e=>sA.extBut _ o D.l1z e) hx fun g2 ex sB he=>?_)
  obtain ⟨oe,hoe,hce⟩:=he
  have hzB:IsZip g2 z TI TO .ellipsis:=sB _ _ D.i1z.symm hzA
  have hez:ex ≠ z:=fun q=>by subst q; rw [hzB] at hoe; cases hoe; simp at hce
  refine wpAny_setField_rec hzB (by simp) fun g3 _ sC=>hE g3 ex (fun c o c1 _ c3 _ q=>sC.extBut _ _ c1 (sB _ _ c3 (sA.extBut _ _ c1 q))) ⟨oe,sC.extBut _ _ hez hoe,hce⟩
 | some x =>
  have hy:ys[k2]? = none:=by rcases hend with h | h; rw [hx] at h; cases h; exact h
  refine wpAny_bind (jeg (b:=b) (h1.at' fun o e=>sA.extBut _ o D.i1z e) (hl1.at' fun o e=>sA.extBut _ o D.l1z e) hx fun g2 h1B sB=>wpAny_pure ?_)
  have TOB:IsPair g2 TO v0 v1:=sB.extBut _ _ D.TOi1 (sA.extBut _ _ D.TOz hTO)
  refine wpAny_bind (wpAny_seqItems TOB rfl ?_)
  refine wpAny_bind (wpAny_updateSeq_pair TOB fun g3 TOC sC=>?_)
  refine wpAny_bind (wpAny_letGo (wpAny_pure ?_))
  refine wpAny_bind (wpAny_bind (wpAny_onRaise ?_))
  show wpAny _ _ (Builtin.SmallTypes.nextOf (.ref i2) >>= _) _ _ _
  refine wpAny_bind (jdb (b:=b) hh (h2.at' fun o e=>sC.extBut _ o D.TOi2.symm (sB.extBut _ o D.i12.symm (sA.extBut _ o D.i2z e))) (hl2.at' fun o e=>sC.extBut _ o D.l2TO (sB.extBut _ o D.l2i1 (sA.extBut _ o D.l2z e))) hy fun g4 ex sD he=>?_)
  obtain ⟨oe,hoe,hce⟩:=he
  have hzD:IsZip g4 z TI TO .ellipsis:=sD _ _ D.i2z.symm (sC.extBut _ _ D.TOz.symm (sB.extBut _ _ D.i1z.symm hzA))
  have hez:ex ≠ z:=fun q=>by subst q; rw [hzD] at hoe; cases hoe; simp at hce
  refine wpAny_setField_rec hzD (by simp) fun g5 _ sE=>hE g5 ex (fun c o c1 c2 c3 c4 q=>sE.extBut _ _ c1 (sD _ _ c4 (sC.extBut _ _ c2 (sB.extBut _ _ c3 (sA.extBut _ _ c1 q))))) ⟨oe,sE.extBut _ _ hez hoe,hce⟩
end
abbrev zpIt (b:Bool) (l:Addr):Obj:={ cls:=.type (if b = true then "list_iterator" else "tuple_iterator"),data:=.fields #[.ref l,.int 0 0] }
abbrev zp2 (b:Bool) (h:Heap) (l1 l2:Addr):Heap:=(h.push (zpIt b l1)).push (zpIt b l2)
abbrev zp3 (b:Bool) (h:Heap) (l1 l2:Addr):Heap:=(zp2 b h l1 l2).push { cls:=.type "tuple",data:=.seq #[.ref h.objs.size,.ref (h.push (zpIt b l1)).objs.size] }
abbrev zp4 (b:Bool) (h:Heap) (l1 l2:Addr):Heap:=(zp3 b h l1 l2).push { cls:=.type "tuple",data:=.seq #[.none,.none] }
abbrev zp5 (b:Bool) (h:Heap) (l1 l2:Addr):Heap:=(zp4 b h l1 l2).push { cls:=.type "zip",data:=.fields #[.none,.bool false,.bool false,.ref (zp2 b h l1 l2).objs.size,.ref (zp3 b h l1 l2).objs.size] }
theorem jjy (l1 l2:Addr) (xs ys:Array Value) :
  Meets (Builtin.«zip.__new__» ⟨[.type "zip",.ref l1,.ref l2],[]⟩) (fun _ R s=>s.heap.IsTuple l1 xs∧s.heap.IsTuple l2 ys∧R (.ok (.ret (.ref (zp4 false s.heap l1 l2).objs.size))) { s with heap:=zp5 false s.heap l1 l2 }) :=
 .of_wp fun prog w A R s h=>by
  obtain ⟨hp,g,d,tk,os⟩:=s; obtain ⟨hl1,hl2,h⟩:=h
  have hsub:=sub_zip
  have hL1:Heap.IsTuple (Shared.heap ⟨hp,g,d,tk,os⟩) l1 xs:=hl1
  have hL2:Heap.IsTuple (Shared.heap ⟨hp.push { cls:=.type "tuple_iterator",data:=.fields #[.ref l1,.int 0 0] },g,d,tk,os⟩) l2 ys:=Heap.IsTuple.push hl2 _
  wp_walk using wpAny_pyIter_tuple hL1,wpAny_pyIter_tuple hL2
  exact ⟨_,rfl,h⟩
section
variable {prog:Program} {w:World} {A:Around} {E:Value→Shared→Prop} {s:Shared}
theorem jp4 {b:Bool} {l1 l2:Addr} {xs ys:Array Value} {Q:Value→Shared→Prop} (hl1:IsSq b s.heap l1 xs) (hl2:IsSq b s.heap l2 ys)
  (h:∀ h',IsZip h' (s.heap.objs.size + 4) (s.heap.objs.size + 2) (s.heap.objs.size + 3) .none→IsPair h' (s.heap.objs.size + 2) (.ref s.heap.objs.size) (.ref (s.heap.objs.size + 1)) →
   IsPair h' (s.heap.objs.size + 3) .none .none→jbo b h' s.heap.objs.size l1 0→jbo b h' (s.heap.objs.size + 1) l2 0→(∀ c o,s.heap.get? c = some o→h'.get? c = some o)→Q (.ref (s.heap.objs.size + 4)) { s with heap:=h' }) :
  wpAny (model prog w) A (call (.type "zip") [.ref l1,.ref l2]) Q E s:=by
 cases b with
 | true=>exact call_zip_2 (show s.heap.IsList l1 xs from hl1) (show s.heap.IsList l2 ys from hl2) fun h' a1 a2 a3 a4 a5 _ a7=>h h' a1 a2 a3 a4 a5 a7
 | false =>
  refine callType_new F.called_zip (by decide) (F.typeCall_zip_2 _ _) (F.newCall_zip_2 _ _) (fun obj=>F.args_object_init_3 obj _ _) F.entry_zip_new (jjy l1 l2 xs ys) ⟨hl1,hl2,?_⟩
  have q1:(s.heap.push (zpIt false l1)).objs.size = s.heap.objs.size + 1:=Heap.size_push ..
  have q2:(zp2 false s.heap l1 l2).objs.size = s.heap.objs.size + 2:=by rw [Heap.size_push,q1]
  have q3:(zp3 false s.heap l1 l2).objs.size = s.heap.objs.size + 3:=by rw [Heap.size_push,q2]
  have q4:(zp4 false s.heap l1 l2).objs.size = s.heap.objs.size + 4:=by rw [Heap.size_push,q3]
  have p5:(zp5 false s.heap l1 l2).get? (zp4 false s.heap l1 l2).objs.size = some _:=Heap.get?_push_size _ rfl
  have p4:(zp5 false s.heap l1 l2).get? (zp3 false s.heap l1 l2).objs.size = some _:=Heap.get?_push_of_some _ (Heap.get?_push_size _ rfl)
  have p3:(zp5 false s.heap l1 l2).get? (zp2 false s.heap l1 l2).objs.size = some _:=Heap.get?_push_of_some _ (Heap.get?_push_of_some _ (Heap.get?_push_size _ rfl))
  have p2:(zp5 false s.heap l1 l2).get? (s.heap.push (zpIt false l1)).objs.size = some _:=Heap.get?_push_of_some _ (Heap.get?_push_of_some _ (Heap.get?_push_of_some _ (Heap.get?_push_size _ rfl)))
  have p1:(zp5 false s.heap l1 l2).get? s.heap.objs.size = some _:=Heap.get?_push_of_some _ (Heap.get?_push_of_some _ (Heap.get?_push_of_some _ (Heap.get?_push_of_some _ (Heap.get?_push_size _ rfl))))
  show _∧_
  rw [q2,q3,q4] at p5
  rw [q1,q2] at p3
  rw [q3] at p4
  rw [q1] at p2
  rw [q4]
  exact ⟨⟨_,p5,rfl⟩,h _ p5 p3 p4 (show Heap.IsTupleIter _ _ _ _ from ⟨_,p1,rfl,rfl⟩) (show Heap.IsTupleIter _ _ _ _ from ⟨_,p2,rfl,rfl⟩) fun c o x =>
   Heap.get?_push_of_some _ (Heap.get?_push_of_some _ (Heap.get?_push_of_some _ (Heap.get?_push_of_some _ (Heap.get?_push_of_some _ x))))⟩
end
def SqB (b:Bool) (K:PySem.W.Frag) (H:Hp) (a:Addr) (xs:List V):Prop:=if b = true then SqL K H a xs else SqT K H a xs
theorem Inv.sqB {X:Cx} {pins:List (Addr × Obj)} {σ:St} {H:Hp} {s:Shared} {b:Bool} {a:Addr} {xs:List V} (I:Inv X pins σ H s) (h:SqB b X.K H a xs):∃ its:List Value,Vals xs its∧IsSq b s.heap a its.toArray∧xs.length ≤ sizeLine:=by
 cases b with
 | true =>
  obtain ⟨its,r,p,z⟩:=I.list (show SqL X.K H a xs from h)
  exact ⟨its,r,p.isList,z⟩
 | false =>
  obtain ⟨its,r,p,z⟩:=I.tuple (show SqT X.K H a xs from h)
  exact ⟨its,r,(show s.heap.IsTuple a its.toArray from p),z⟩
theorem Inv.sqB_inj {X:Cx} {pins:List (Addr × Obj)} {σ:St} {H:Hp} {s:Shared} {b:Bool} {a:Addr} {xs ys:List V} (I:Inv X pins σ H s) (h:SqB b X.K H a xs) (h':SqB b X.K H a ys):xs = ys:=by
 cases b with
 | true=>exact I.list_inj (show SqL X.K H a xs from h) (show SqL X.K H a ys from h')
 | false=>exact I.tuple_inj (show SqT X.K H a xs from h) (show SqT X.K H a ys from h')
def Itz (b:Bool) (K:PySem.W.Frag) (a c:Addr):It :=
  ⟨fun i H=>∃ xs ys x y,SqB b K H a xs∧SqB b K H c ys∧xs[i]? = some x∧ys[i]? = some y,
   fun i H v H'=>∃ t x y,H t = none∧v = .ref t∧H' = upd H t (.tup [x,y])∧(∀ xs,SqB b K H a xs→xs[i]? = some x)∧∀ ys,SqB b K H c ys→ys[i]? = some y,
   fun i H=>∃ xs ys,SqB b K H a xs∧SqB b K H c ys∧(xs.length ≤ i ∨ ys.length ≤ i)⟩
theorem jcx {X:Cx} {pins:List (Addr × Obj)} {σ:St} {H:Hp} {s:Shared} {b:Bool} {a j:Addr} {xs:List V} (I:Inv X pins σ H s) (h:SqB b X.K H a xs) (f:FpOk X pins H j):a ≠ j:=by
 intro e
 subst e
 have key:∀ {o},X.K.lookup a = some o→False:=fun {o} q=>by
  have q1:=I.mod.kin a o q
  rcases f.2.2.2.1 with z | z
  ·exact I.ok.noex a o q1 z
  ·exact absurd (Nat.lt_of_lt_of_le (Heap.lt_size q1) (Nat.le_trans I.ok.bsz z)) (Nat.lt_irrefl _)
 cases b with
 | true =>
  rcases (show SqL X.K H a xs from h) with (h | ⟨o,h⟩) | ⟨o,its,n,hk,_⟩
  ·rw [f.1] at h; cases h
  ·rw [f.1] at h; cases h
  ·exact key hk
 | false =>
  rcases (show SqT X.K H a xs from h) with (h | ⟨o,h⟩) | ⟨o,its,n,hk,_⟩
  ·rw [f.1] at h; cases h
  ·rw [f.1] at h; cases h
  ·exact key hk
structure ZpA (z TI TO i1 i2:Addr):Prop where
 TIz:TI ≠ z
 TOz:TO ≠ z
 i1z:i1 ≠ z
 i2z:i2 ≠ z
 TITO:TI ≠ TO
 TIi1:TI ≠ i1
 TIi2:TI ≠ i2
 TOi1:TO ≠ i1
 TOi2:TO ≠ i2
 i12:i1 ≠ i2
theorem jm7 {P:Program} {w:World} {K:PySem.W.Frag} {elts:List Expr} {x1:Nat} {pos:Pos} (b:Bool) (a c z TI TO i1 i2:Addr) (D0:ZpA z TI TO i1 i2) :
  Turn P w K (.Tuple elts x1 pos) (Itz b K a c) [z,TI,TO,i1,i2] z (fun i h=>IsZip h z TI TO .none∧IsPair h TI (.ref i1) (.ref i2)∧(∃ u v,IsPair h TO u v)∧jbo b h i1 a i∧jbo b h i2 c i) where
 mem:=by simp
 obj:=fun i h st d hd=>by
  obtain ⟨hz,hTI,⟨u,v,hTO⟩,h1,h2⟩:=st
  have q:d = z ∨ d = TI ∨ d = TO ∨ d = i1 ∨ d = i2:=by simpa using hd
  rcases q with rfl | rfl | rfl | rfl | rfl
  ·exact ⟨_,hz,fun v z=>by
    have z':Data.fields _ = Data.cell v:=z
    cases z'⟩
  ·exact ⟨_,hTI,fun v z=>by
    have z':Data.seq _ _ = Data.cell v:=z
    cases z'⟩
  ·exact ⟨_,hTO,fun v z=>by
    have z':Data.seq _ _ = Data.cell v:=z
    cases z'⟩
  ·exact h1.obj
  ·exact h2.obj
 keep:=fun i h h' st k=>by
  obtain ⟨hz,hTI,⟨u,v,hTO⟩,h1,h2⟩:=st
  exact ⟨k z (by simp) _ hz,k TI (by simp) _ hTI,⟨u,v,k TO (by simp) _ hTO⟩,h1.at' fun o e=>k i1 (by simp) o e,h2.at' fun o e=>k i2 (by simp) o e⟩
 item:=by
  intro X hP hw hK hc i pins s σ H E I hf st hg
  subst hP hw hK
  obtain ⟨hz,hTI,⟨u0,v0,hTO⟩,h1,h2⟩:=st
  obtain ⟨xs,ys,x,y,hq1,hq2,hx,hy⟩:=hg
  obtain ⟨its1,rv1,p1,hz1⟩:=I.sqB hq1
  obtain ⟨its2,rv2,p2,hz2⟩:=I.sqB hq2
  obtain ⟨u1,hu1,ru1⟩:=rv1.get hx
  obtain ⟨u2,hu2,ru2⟩:=rv2.get hy
  have D:ZipApart z TI TO i1 i2 a c:=⟨D0.TIz,D0.TOz,D0.i1z,D0.i2z,D0.TITO,D0.TIi1,D0.TIi2,D0.TOi1,D0.TOi2,D0.i12,
   jcx I hq1 (hf z (by simp)),jcx I hq1 (hf TO (by simp)),jcx I hq1 (hf i1 (by simp)),jcx I hq1 (hf i2 (by simp)),jcx I hq2 (hf z (by simp)),jcx I hq2 (hf TO (by simp)),jcx I hq2 (hf i1 (by simp)),jcx I hq2 (hf i2 (by simp))⟩
  have zlt:z < s.heap.objs.size:=Heap.lt_size hz
  have hT:s.TypeIs (.ref z) "zip":=⟨_,hz,rfl⟩
  unfold pyNext
  refine wpAny_bind (wpAny_attempt (wpAny_callSpecial?_slot (name:=Str.ofString "__next__") hT F.slot_zip_next (wpAny_call_entry F.slot_zip_next hT F.entry_zip_next
   (jgk (b:=b) D hz hTI hTO h1 h2 p1 p2 (x:=u1) (y:=u2) (by simpa using hu1) (by simpa using hu2) fun h' a1 a2 a3 a4 a5 a7=>wpAny_pure ?_) (F.args_zip_next_1 _))))
  refine ⟨_,rfl,wpAny_letOwnedTupleGo_zip a1 fun g hz' hs'=>?_⟩
  replace hs':Heap.SameBut z h' g:=hs'
  have kk:∀ d ob,d ∉ [z,TI,TO,i1,i2]→s.heap.get? d = some ob→g.get? d = some ob:=fun d ob hd q=>by
   have hd':d ≠ z∧d ≠ TI∧d ≠ TO∧d ≠ i1∧d ≠ i2:=by simpa using hd
   exact hs'.extBut _ _ hd'.1 (a7 d ob hd'.1 hd'.2.2.1 hd'.2.2.2.1 hd'.2.2.2.2 q)
  have hT2:g.get? s.heap.objs.size = some { cls:=.type "tuple",data:=.seq #[u1,u2] }:=hs'.extBut _ _ (Nat.ne_of_gt zlt) a5
  refine ⟨.ref s.heap.objs.size,upd H s.heap.objs.size (.tup [x,y]),I.turnedNew (ch:=[z,TI,TO,i1,i2]) (t':=s.toks) (Nat.le_refl _) kk hf ?_,rfl,
   ⟨_,x,y,I.fresh,rfl,rfl,fun zs hq=>by rw [I.sqB_inj hq hq1]; exact hx,fun zs hq=>by rw [I.sqB_inj hq hq2]; exact hy⟩,
   ⟨hz',hs'.extBut _ _ D.TIz (a7 _ _ D.TIz D.TITO D.TIi1 D.TIi2 hTI),⟨_,_,hs'.extBut _ _ D.TOz a2⟩,a3.at' fun o e=>hs'.extBut _ _ D.i1z e,a4.at' fun o e=>hs'.extBut _ _ D.i2z e⟩,fun d hd=>?_⟩
  ·exact ⟨by show 2 ≤ sizeLine; decide,[u1,u2],.cons ru1 (.cons ru2 .nil),⟨_,hT2,rfl,_,rfl⟩⟩
  ·have dlt:d < s.heap.objs.size:=by
    have q:d = z ∨ d = TI ∨ d = TO ∨ d = i1 ∨ d = i2:=by simpa using hd
    rcases q with rfl | rfl | rfl | rfl | rfl
    ·exact zlt
    ·exact Heap.lt_size hTI
    ·exact Heap.lt_size hTO
    ·obtain ⟨o,e,_⟩:=h1.obj; exact Heap.lt_size e
    ·obtain ⟨o,e,_⟩:=h2.obj; exact Heap.lt_size e
   rw [jaa (Nat.ne_of_lt dlt)]
   exact (hf d hd).1
 done:=by
  intro X hP hw hK hc i pins s σ H E I hf st hg
  subst hP hw hK
  obtain ⟨hz,hTI,⟨u0,v0,hTO⟩,h1,h2⟩:=st
  obtain ⟨xs,ys,hq1,hq2,hlen⟩:=hg
  obtain ⟨its1,rv1,p1,hz1⟩:=I.sqB hq1
  obtain ⟨its2,rv2,p2,hz2⟩:=I.sqB hq2
  have e1:=rv1.length
  have e2:=rv2.length
  have D:ZipApart z TI TO i1 i2 a c:=⟨D0.TIz,D0.TOz,D0.i1z,D0.i2z,D0.TITO,D0.TIi1,D0.TIi2,D0.TOi1,D0.TOi2,D0.i12,
   jcx I hq1 (hf z (by simp)),jcx I hq1 (hf TO (by simp)),jcx I hq1 (hf i1 (by simp)),jcx I hq1 (hf i2 (by simp)),jcx I hq2 (hf z (by simp)),jcx I hq2 (hf TO (by simp)),jcx I hq2 (hf i1 (by simp)),jcx I hq2 (hf i2 (by simp))⟩
  have hT:s.TypeIs (.ref z) "zip":=⟨_,hz,rfl⟩
  unfold pyNext
  refine wpAny_bind (wpAny_attempt (wpAny_callSpecial?_slot (name:=Str.ofString "__next__") hT F.slot_zip_next (wpAny_call_entry F.slot_zip_next hT F.entry_zip_next
   (ji0 (b:=b) (I.ok.hd hc) D hz hTI hTO h1 h2 p1 p2 (by rcases hlen with h | h; exact .inl (by simp; omega); exact .inr (by simp; omega)) fun h' e hk he=>?_) (F.args_zip_next_1 _))))
  obtain ⟨o,ho,hcl⟩:=he
  refine wpAny_bind (wpAny_isInstance (T:="StopIteration") (b:=true) ⟨o,ho,hcl⟩ isSubtype_stop ?_)
  exact wpAny_pure ⟨rfl,I.turnedAll (ch:=[z,TI,TO,i1,i2]) (t':=s.toks) (fun d ob hd q=>by
   have hd':d ≠ z∧d ≠ TI∧d ≠ TO∧d ≠ i1∧d ≠ i2:=by simpa using hd
   exact hk d ob hd'.1 hd'.2.2.1 hd'.2.2.2.1 hd'.2.2.2.2 q) hf⟩
 self:=fun _ _ _ _ _ st h=>wpAny_pyIter_zip st.1 h
theorem jhz {X:Cx} {b:Bool} {elts:List Expr} {x1:Nat} {tpos:Pos} {pins:List (Addr × Obj)} {σ:St} {H1:Hp} {s1:Shared} {R:It→Hp→Prop} {a c:Addr} {xs ys:List V} (I1:Inv X pins σ H1 s1) (hq1:SqB b X.K H1 a xs) (hq2:SqB b X.K H1 c ys) (q:R (Itz b X.K a c) H1) :
  wpAny (model X.prog X.w) X.A (call (.type "zip") [.ref a,.ref c]) (fun v s2=>wpAny (model X.prog X.w) X.A (pyIter v) (PIE X pins σ (.Tuple elts x1 tpos) R) X.xe s2) X.xe s1:=by
 obtain ⟨its1,rv1,p1,hz1⟩:=I1.sqB hq1
 obtain ⟨its2,rv2,p2,hz2⟩:=I1.sqB hq2
 refine jp4 p1 p2 fun h' a1 a2 a3 a4 a5 hk=>?_
 refine wpAny_pyIter_zip a1 ?_
 have I2:Inv X pins σ H1 { s1 with heap:=h' }:=I1.kept (t':=s1.toks) fun b o q=>hk b o q
 have ne:∀ i j:Nat,i ≠ j→s1.heap.objs.size + i ≠ s1.heap.objs.size + j:=fun i j h e=>h (Nat.add_left_cancel e)
 refine ⟨_,[s1.heap.objs.size + 4,s1.heap.objs.size + 2,s1.heap.objs.size + 3,s1.heap.objs.size,s1.heap.objs.size + 1],_,_,H1,rfl,I2,jm7 b a c _ _ _ _ _ ⟨ne 2 4 (by decide),ne 3 4 (by decide),ne 0 4 (by decide),ne 1 4 (by decide),ne 2 3 (by decide),ne 2 0 (by decide),ne 2 1 (by decide),ne 3 0 (by decide),ne 3 1 (by decide),ne 0 1 (by decide)⟩,
  ⟨a1,a2,⟨_,_,a3⟩,a4,a5⟩,fun d hd=>?_,q⟩
 have hd':d = s1.heap.objs.size + 4 ∨ d = s1.heap.objs.size + 2 ∨ d = s1.heap.objs.size + 3 ∨ d = s1.heap.objs.size ∨ d = s1.heap.objs.size + 1:=by simpa using hd
 have hle:s1.heap.objs.size ≤ d:=by
  rcases hd' with e | e | e | e | e <;> rw [e]
  ·exact Nat.le_add_right _ _
  ·exact Nat.le_add_right _ _
  ·exact Nat.le_add_right _ _
  ·exact Nat.le_refl _
  ·exact Nat.le_add_right _ _
 exact I1.fpOk hle (I1.hok.fresh hle)
def iZipE (K:PySem.W.Frag) (ta:TA):TI:=fun σ H R=>ta σ H fun vs H1=>∃ (b:Bool) (a c:Addr),vs = [.ref a,.ref c]∧(∃ xs,SqB b K H1 a xs)∧(∃ ys,SqB b K H1 c ys)∧R (Itz b K a c) H1
theorem jok {X:Cx} {elts:List Expr} {x1:Nat} {tpos:Pos} {a c:Expr} {ta:TA} {p pos:Pos} (hg:Gl X "zip") (hm:X.mg "zip" = none) (ha:PA X [a,c] ta) (hs:starEach [a,c] X.env = [(false,eval a X.env),(false,eval c X.env)]:=by rfl) (hs2:starEach [c] X.env = [(false,eval c X.env)]:=by rfl) :
  PI X (.Tuple elts x1 tpos) (.Call (.Name "zip" p) [a,c] [] pos) (iZipE X.K ta):=by
 intro pins s σ H R I h
 refine Call_ (jek I hg hm boot_zip (PyProof.Rows.callWith_type1 (thn (ha pos pins s σ H _ I h) fun us s1 ⟨vs,H1,I1,r1,q1⟩=>?_) (by rw [hs,hs2]) (by rw [hs2]; rfl)))
 obtain ⟨b,a,c,e,⟨xs,hq1⟩,⟨ys,hq2⟩,q⟩:=q1
 subst e
 cases r1 with
 | cons r rr =>
  cases rr with
  | cons r' rr =>
   cases rr
   cases r
   cases r'
   exact jhz I1 hq1 hq2 q
end L2
namespace L2
open PySem PySem.Spec PyProof.Rows
theorem jhe:typeLookup (.type "list") "keys" = pure none:=by rw [typeLookup_type,builtinLookup_eq_fast]; kernel_rfl
theorem jeh:typeLookup (.type "list") "__getattr__" = pure none:=by rw [typeLookup_type,builtinLookup_eq_fast]; kernel_rfl
theorem jfp:isSubtype (.type "AttributeError") (.type "AttributeError") = pure true:=by rw [isSubtype_type]; kernel_rfl
section
variable {prog:Program} {w:World} {A:Around} {E:Value→Shared→Prop} {h:Heap} {g:Array GenState} {d:Drawn} {t:Nat} {os:OsState} {a:Addr} {o:Obj}
theorem jjq {α:Type} {Q:α→Shared→Prop} {u:Value} {x msg:Str} (hh:A.handled = none) (hm:msg.length ≤ sizeLine)
  (hE:∀ h' e tk,(∀ b o,h.get? b = some o→h'.get? b = some o)→(∃ o,h'.get? e = some o∧o.cls = .type "AttributeError")→E (.ref e) ⟨h',g,d,tk,os⟩) :
  wpAny (model prog w) A (raiseAttrError u x msg:Sem α) Q E ⟨h,g,d,t,os⟩:=by
 unfold raiseAttrError
 refine wpAny_bind (wpAny_mkStr ?_ hm)
 simp only [newExc,newTuple]
 refine wpAny_bind (wpAny_bind (wpAny_newObj_type ?_ (by size_fits)))
 refine wpAny_bind (m:=firstArgMember _ _) (wpAny_of_eq (a:=Value.none) (by first | rfl | (simp only [firstArgMember]; rfl)) ?_)
 refine wpAny_newObj_type ?_ (by size_fits)
 refine wpAny_bind (wpAny_mkText ?_)
 dsimp only
 refine wpAny_bind ?_
 unfold noteAttr
 generalize hh1:h.push { cls:=.type "tuple",data:=.seq #[.str msg t] } = h1
 have k1:∀ b o,h.get? b = some o→h1.get? b = some o:=fun b o q=>by rw [← hh1]; exact Heap.get?_push_of_some _ q
 have hg:(h1.push { cls:=.type "AttributeError",data:=.fields #[.ref h.objs.size,.none,.none,.none,.bool false,.none,unsetMember,unsetMember] }).get? h1.objs.size = some _:=Heap.get?_push_size _ rfl
 have k2:∀ b o,h.get? b = some o→(h1.push { cls:=.type "AttributeError",data:=.fields #[.ref h.objs.size,.none,.none,.none,.bool false,.none,unsetMember,unsetMember] }).get? b = some o:=fun b o q=>Heap.get?_push_of_some _ (k1 b o q)
 have nb:∀ b o,h.get? b = some o→b ≠ h1.objs.size:=fun b o q=>Nat.ne_of_lt (Heap.lt_size (k1 b o q))
 show wpAny _ _ (lacksNameAndObj (.ref h1.objs.size) >>= _) _ _ ⟨h1.push { cls:=.type "AttributeError",data:=.fields #[.ref h.objs.size,.none,.none,.none,.bool false,.none,unsetMember,unsetMember] },g,d,t + 1 + 1,os⟩
 generalize hh2:h1.push { cls:=.type "AttributeError",data:=.fields #[.ref h.objs.size,.none,.none,.none,.bool false,.none,unsetMember,unsetMember] } = h2 at hg k2
 generalize h1.objs.size = e at hg nb
 clear hh2 k1 hh1
 have hT:(⟨h2,g,d,t + 1 + 1,os⟩:Shared).TypeIs (.ref e) "AttributeError":=⟨_,hg,rfl⟩
 refine wpAny_bind ?_
 unfold lacksNameAndObj
 refine wpAny_bind (wpAny_isInstance hT jfp ?_)
 simp only [Bool.not_true,Bool.false_eq_true,if_false]
 refine wpAny_bind (wpAny_load hg ?_)
 show wpAny _ _ (pure true) _ _ _
 refine wpAny_pure ?_
 simp only [if_true]
 refine wpAny_bind (wpAny_rule (wpAny_bind (wpAny_typeOf hT ?_)))
 show wpAny _ _ (layMembers e 6 #[_,u]) _ _ _
 unfold layMembers
 refine wpAny_bind (wpAny_load hg ?_)
 show wpAny _ _ (update e _) _ _ _
 refine wpAny_update hg ?_
 refine wpAny_raiseNew_none hh (hE _ _ _ (fun b o q=>?_) ⟨_,Heap.get?_update_self _ hg rfl,rfl⟩)
 exact (Heap.get?_update_other _ _ (nb b o q).symm).trans (k2 b o q)
theorem jhb {tk:Tok} {Q:PySem.Fin→Shared→Prop} {its:Array Value} {n:Nat} (hx:h.get? a = some { cls:=.type "list",dict:=none,data:=.seq its n,slots:=#[] }) (hh:A.handled = none)
  (hE:∀ h' e tk,(∀ b o,h.get? b = some o→h'.get? b = some o)→(∃ o,h'.get? e = some o∧o.cls = .type "AttributeError")→E (.ref e) ⟨h',g,d,tk,os⟩) :
  wpAny (model prog w) A (Builtin.«object.__getattribute__» ⟨[.ref a,.str "keys" tk],[]⟩) Q E ⟨h,g,d,t,os⟩:=by
 have hT:(⟨h,g,d,t,os⟩:Shared).TypeIs (.ref a) "list":=⟨_,hx,rfl⟩
 have f4:=jhe
 repeat (any_goals (first | assumption | wp_step))
 refine jjq hh (by decide +kernel) hE
theorem jl2 {tk:Tok} {Q:Value→Shared→Prop} {its:Array Value} {n:Nat} (hx:h.get? a = some { cls:=.type "list",dict:=none,data:=.seq its n,slots:=#[] }) (hh:A.handled = none)
  (hE:∀ h' e tk,(∀ b o,h.get? b = some o→h'.get? b = some o)→(∃ o,h'.get? e = some o∧o.cls = .type "AttributeError")→E (.ref e) ⟨h',g,d,tk,os⟩) :
  wpAny (model prog w) A (getAttrBy (.ref a) (.str "keys" tk) false) Q E ⟨h,g,d,t,os⟩:=by
 have hT:(⟨h,g,d,t,os⟩:Shared).TypeIs (.ref a) "list":=⟨_,hx,rfl⟩
 have f2:=F.slot_list_getattribute.lookup
 have f3:=F.slot_list_getattribute.bind (.ref a)
 repeat (any_goals (first | assumption | wp_step))
 refine codeAny_call_builtin F.slot_list_getattribute.plain F.entry_list_ga (F.slot_list_getattribute.check _ _ _ _ _ _ _ _ (show (⟨h,g,d,t,os⟩:Shared).TypeIs (.ref a) "list" from ⟨_,hx,rfl⟩) (F.args_list_getattribute_2 _ _) (jhb hx ?_ ?_))
 ·exact hh
 ·intro h' e tk k q
  obtain ⟨oe,he,hc⟩:=q
  have hT2:(⟨h',g,d,tk,os⟩:Shared).TypeIs (.ref e) "AttributeError":=⟨_,he,hc⟩
  have f5:=jfp
  have f6:=jeh
  show wpAny _ A (getattributeRaised (Value.ref a) _ (Value.type "list") (.ref e) none false false) _ _ _
  have done:=hE h' e tk k ⟨oe,he,hc⟩
  unfold getattributeRaised
  repeat (any_goals (first | assumption | wp_step))
theorem nokeys {Q:Option Value→Shared→Prop} {its:Array Value} {n:Nat} (hx:h.get? a = some { cls:=.type "list",dict:=none,data:=.seq its n,slots:=#[] }) (hh:A.handled = none)
  (hq:∀ h' tk,(∀ b o,h.get? b = some o→h'.get? b = some o)→Q none ⟨h',g,d,tk,os⟩):wpAny (model prog w) A (getAttr? (.ref a) "keys") Q E ⟨h,g,d,t,os⟩:=by
 unfold getAttr? getAttrBy?
 refine wpAny_bind (wpAny_mkText (wpAny_bind (wpAny_attempt (jl2 hx hh fun h' e tk k q=>?_))))
 obtain ⟨oe,he,hc⟩:=q
 refine wpAny_bind (wpAny_isInstance (T:="AttributeError") (b:=true) ⟨_,he,hc⟩ jfp ?_)
 exact wpAny_pure (hq h' tk k)
end
end L2
namespace L2
open PySem PySem.Spec PyProof.Rows
theorem jbw:entryFor table "dict.update.loop" = some Builtin.«dict.update.loop»:=entryFor_of_fast (by kernel_rfl)
theorem jb1:plainId "dict.update.loop" = true:=by decide +kernel
theorem jjo {K:Type} [DecidableEq K] (kvs:List (K × Value)) (k:K) (v:Value):(stored kvs k v).length ≤ kvs.length + 1:=by
 unfold stored
 split
 ·rw [List.length_map]; omega
 ·rw [List.length_append]; exact Nat.le_refl _
section
variable {prog:Program} {w:World} {A:Around} {E:Value→Shared→Prop} {K:Type} [DecidableEq K] {knd:KeyKind prog w K} {R:Result→Shared→Prop}
theorem jlo {d it l:Addr} {its:Array Value} {more:List (K × Value)} (hh:A.handled = none) (hlen:more.length = its.size) (hsz:its.size ≤ 1000) (hdl:l ≠ d) (hdi:it ≠ d) (hil:l ≠ it) :
  ∀ (k i:Nat) (tk0:Tok) (s:Shared) (kvs:List (K × Value)),its.size - i = k→i ≤ its.size→kvs.length ≤ i→s.heap.IsListIter it l i→s.heap.IsList l its→s.heap.DictOf knd d kvs →
   (∀ (j:Nat) (q:K × Value),more[j]? = some q→∃ t kv,its[j]? = some (.ref t)∧s.heap.IsTuple t #[kv,q.2]∧knd.is q.1 kv = true) →
   (∀ h' tk,h'.DictOf knd d (merged kvs (more.drop i))→(∀ b o,b ≠ d→b ≠ it→s.heap.get? b = some o→h'.get? b = some o)→R (.ok (.ret .none)) { s with heap:=h',toks:=tk }) →
   codeAny (model prog w) A (.builtin "dict.update.loop" ⟨[.ref d,.ref it,.int i tk0,.none],[]⟩) R s:=by
 intro k
 induction k with
 | zero =>
  intro i tk0 s kvs hk hi hkl hit hl hd hp hR
  have e:i = its.size:=by omega
  subst e
  refine codeAny_builtin jbw ?_
  rw [Around.under_plainId jb1 _]
  show wpAny _ A.in1 (pyNext (.ref it) >>= _) _ _ s
  refine wpAny_bind (wpAny_pyNext_list_end hh hit hl (by simp) fun h' eb=>?_)
  show wpAny _ A.in1 (Builtin.Dict.addKeywords d [] >>= _) _ _ _
  refine wpAny_bind (wpAny_pure (wpAny_pure ?_))
  refine hR h' s.toks ?_ fun b o _ hb q=>eb b o hb q
  rw [List.drop_eq_nil_of_le (by omega)]
  exact hd.extBut eb hdi.symm
 | succ k ih =>
  intro i tk0 s kvs hk hi hkl hit hl hd hp hR
  have hlt:i < its.size:=by omega
  have hlm:i < more.length:=by omega
  obtain ⟨t,kv,hu,ht,hkey⟩:=hp i more[i] (by simp [hlm])
  refine codeAny_builtin jbw ?_
  rw [Around.under_plainId jb1 _]
  show wpAny _ A.in1 (pyNext (.ref it) >>= _) _ _ s
  refine wpAny_bind (wpAny_pyNext_list_item hit hl hu fun h1 hit1 sb1=>?_)
  have nti:t ≠ it:=fun z=>by
   subst z
   obtain ⟨o,e1,c1,_⟩:=ht
   obtain ⟨o',e2,c2,_⟩:=hit
   rw [e1] at e2; cases e2; rw [c1] at c2; exact absurd c2 (by decide)
  have ntd:t ≠ d:=fun z=>by
   subst z
   obtain ⟨o,e1,c1,_⟩:=ht
   obtain ⟨o',_,_,e2,c2,_⟩:=hd
   rw [e1] at e2; cases e2; rw [c2.1] at c1; exact absurd c1 (by decide)
  have ht1:h1.IsTuple t #[kv,more[i].2]:=ht.extBut sb1.extBut nti
  have hd1:h1.DictOf knd d kvs:=hd.extBut sb1.extBut hdi.symm
  show wpAny _ A.in1 (holding [.ref t] _ >>= _) _ _ _
  refine wpAny_bind (wpAny_holding ?_)
  refine wpAny_bind (m:=(Builtin.Dict.pairItems (.ref t)).tryCatch _) ?_
  refine wpAny_tryCatch ?_
  unfold Builtin.Dict.pairItems
  refine wpAny_bind (wpAny_typeOf ht1.typeIs ?_)
  obtain ⟨ot,e1,c1,n1,d1⟩:=id ht1
  rw [if_pos (by decide)]
  refine wpAny_bind (wpAny_seqItems e1 d1 ?_)
  refine wpAny_pure ?_
  show wpAny _ A.in1 (holding [kv,more[i].2] (dictSet d kv more[i].2)) _ _ _
  refine wpAny_holding (wpAny_dictSet_pairs hkey hd1 (fun h2 hd2 sb2=>?_) (by have:=(by decide:1000 ≤ sizeLine); omega))
  replace sb2:Heap.SameBut d h1 h2:=sb2
  have kk:∀ b o,b ≠ d→b ≠ it→s.heap.get? b = some o→h2.get? b = some o:=fun b o b1 b2 q=>sb2.extBut b o b1 (sb1.extBut b o b2 q)
  refine wpAny_pure ⟨plainId_quiet jb1 _,?_⟩
  have hik:((i:Int) + 1) = ((i + 1:Nat):Int):=by omega
  show codeAny _ _ (.builtin "dict.update.loop" ⟨[.ref d,.ref it,rawInt ((i:Int) + 1),.none],[]⟩) _ _
  rw [hik]
  refine ih (i + 1) 0 _ (stored kvs more[i].1 more[i].2) (by omega) (by omega) ?_ (hit1.extBut sb2.extBut hdi) ((hl.extBut sb1.extBut hil).extBut sb2.extBut hdl) hd2 ?_ ?_
  ·have:=jjo kvs more[i].1 more[i].2
   omega
  ·intro j q hq
   obtain ⟨t',kv',a1,a2,a3⟩:=hp j q hq
   have n1:t' ≠ it:=fun z=>by
    subst z
    obtain ⟨o,e1,c1,_⟩:=a2
    obtain ⟨o',e2,c2,_⟩:=hit
    rw [e1] at e2; cases e2; rw [c1] at c2; exact absurd c2 (by decide)
   have n2:t' ≠ d:=fun z=>by
    subst z
    obtain ⟨o,e1,c1,_⟩:=a2
    obtain ⟨o',_,_,e2,c2,_⟩:=hd
    rw [e1] at e2; cases e2; rw [c2.1] at c1; exact absurd c1 (by decide)
   exact ⟨t',kv',a1,(a2.extBut sb1.extBut n1).extBut sb2.extBut n2,a3⟩
  ·intro h' tk hd' k'
   refine hR h' tk ?_ fun b o b1 b2 q=>k' b o b1 b2 (kk b o b1 b2 q)
   rw [List.drop_eq_getElem_cons hlm]
   exact hd'
theorem jf1 {l:Addr} {its:Array Value} {c:Nat} {more:List (K × Value)} {s:Shared} {Q:Value→Shared→Prop} (hh:A.handled = none) (hl:s.heap.get? l = some { cls:=.type "list",dict:=none,data:=.seq its c,slots:=#[] }) (hlen:more.length = its.size) (hsz:its.size ≤ 1000)
  (hp:∀ (j:Nat) (q:K × Value),more[j]? = some q→∃ t kv,its[j]? = some (.ref t)∧s.heap.IsTuple t #[kv,q.2]∧knd.is q.1 kv = true)
  (h:∀ h' tk,h'.DictOf knd s.heap.objs.size (merged [] more)→(∀ b o,s.heap.get? b = some o→h'.get? b = some o)→Q (.ref s.heap.objs.size) { s with heap:=h',toks:=tk }) :
  wpAny (model prog w) A (call (.type "dict") [.ref l]) Q E s:=by
 refine callType_codes (Q₁:=fun obj s₁=>obj = .ref s.heap.objs.size∧s₁ = { s with heap:=s.heap.push { cls:=.type "dict",data:=.dict #[] } }) F.kt_called_dict (F.kt_typeCall_dict_1 _) F.entry_dict_init (kt_code_dict_new _ ⟨rfl,rfl⟩) ?_
 rintro obj s₁ ⟨rfl,rfl⟩
 have hnew:(s.heap.push { cls:=.type "dict",data:=.dict #[] }).DictOf knd s.heap.objs.size []:=Heap.DictOf.new s.heap
 have hl1:(s.heap.push { cls:=.type "dict",data:=.dict #[] }).get? l = some { cls:=.type "list",dict:=none,data:=.seq its c,slots:=#[] }:=Heap.get?_push_of_some _ hl
 have k1:∀ b o,s.heap.get? b = some o→(s.heap.push { cls:=.type "dict",data:=.dict #[] }).get? b = some o:=fun b o q=>Heap.get?_push_of_some _ q
 have llt:l < s.heap.objs.size:=Heap.lt_size hl
 generalize s.heap.push { cls:=.type "dict",data:=.dict #[] } = h1 at hnew hl1 k1
 refine ⟨hnew.typeIs,F.args_dict_init_2 _ _,?_⟩
 unfold Builtin.«dict.__init__»
 refine wpAny_bind ?_
 unfold Builtin.Dict.selfAndRest
 refine wpAny_bind (wpAny_notOrdered_dict hnew.typeIs ?_)
 show wpAny _ _ (pure (s.heap.objs.size,[Value.ref l])) _ _ _
 refine wpAny_pure ?_
 show wpAny _ _ (Builtin.Dict.updateFrom "dict.__init__" s.heap.objs.size (.ref l) [] .none) _ _ _
 unfold Builtin.Dict.updateFrom
 refine wpAny_bind (wpAny_typeOf (T:="list") ⟨_,hl1,rfl⟩ ?_)
 rw [if_pos (by decide)]
 refine wpAny_bind (nokeys hl1 hh fun h2 tk2 k2=>?_)
 have hl2:=k2 _ _ hl1
 have hd2:h2.DictOf knd s.heap.objs.size []:=let ⟨o,es,ep,ho,r⟩:=hnew; ⟨o,es,ep,k2 _ _ ho,r⟩
 have dlt:s.heap.objs.size < h2.objs.size:=by obtain ⟨_,_,_,ho,_⟩:=hd2; exact Heap.lt_size ho
 simp only [Option.isNone_none,if_true]
 refine wpAny_bind (wpAny_rule ?_)
 have hL:Heap.IsList h2 l its:=⟨_,hl2,rfl,_,rfl⟩
 refine wpAny_bind (wpAny_pyIter_list (s:={ s with heap:=h2,toks:=tk2 }) hL ?_)
 refine wpAny_pure ⟨plainId_quiet jb1 _,?_⟩
 have hit:(h2.push { cls:=.type "list_iterator",data:=.fields #[.ref l,.int 0 0] }).IsListIter h2.objs.size l 0:=⟨_,Heap.get?_push_size _ rfl,rfl,rfl⟩
 refine jlo (A:=A.in1) (knd:=knd) (more:=more) hh hlen hsz (Nat.ne_of_lt llt) (Nat.ne_of_gt dlt) (Nat.ne_of_lt (Nat.lt_trans llt dlt)) its.size 0 0 { s with heap:=h2.push { cls:=.type "list_iterator",data:=.fields #[.ref l,.int 0 0] },toks:=tk2 } [] rfl (Nat.zero_le _) (Nat.le_refl _) hit (hL.push _) (hd2.push _) ?_ ?_
 ·intro j q hq
  obtain ⟨t,kv,a1,a2,a3⟩:=hp j q hq
  obtain ⟨o,e,r⟩:=a2
  exact ⟨t,kv,a1,⟨o,Heap.get?_push_of_some _ (k2 _ _ (k1 _ _ e)),r⟩,a3⟩
 ·intro h' tk hd' k'
  rw [List.drop_zero] at hd'
  refine ⟨rfl,h h' tk hd' fun b o q=>k' b o (Nat.ne_of_lt (Heap.lt_size q)) (Nat.ne_of_lt (Heap.lt_size (k2 _ _ (k1 _ _ q)))) (Heap.get?_push_of_some _ (k2 _ _ (k1 _ _ q)))⟩
end
def PairAt (H:Hp) (v:V) (p:Key × V):Prop:=∃ t,v = .ref t∧H t = some (.tup [kV p.1,p.2])
def rDictL (K:PySem.W.Frag):List V→Hp→VK→Prop:=fun vs H Q=>∃ l xs kvs,vs = [.ref l]∧H l = some (.lst xs)∧Paired (PairAt H) xs kvs∧xs.length ≤ 1000∧(kvs.map (·.1)).Nodup∧∀ d,H d = none→Q (.ref d) (upd H d (.dK kvs))
theorem jf9 {X:Cx} {pins:List (Addr × Obj)} {σ:St} {H:Hp} {s:Shared} (I:Inv X pins σ H s):∀ {xs:List V} {kvs:List (Key × V)} {its:List Value},Paired (PairAt H) xs kvs→Vals xs its →
  ∃ more:List (Key × Value),KV kvs more∧∀ (j:Nat) (q:Key × Value),more[j]? = some q→∃ t kv,its[j]? = some (.ref t)∧s.heap.IsTuple t #[kv,q.2]∧(jbl X.prog X.w).is q.1 kv = true
 | _,_,_,.nil,.nil=>⟨[],.nil,fun j q h=>by simp at h⟩
 | _,_,_,.cons hp tp,.cons rv tr=>by
  obtain ⟨more,hk,hm⟩:=jf9 I tp tr
  obtain ⟨t,rfl,ht⟩:=hp
  cases rv
  obtain ⟨_,its',rt,hi⟩:=I.hok t _ ht
  obtain ⟨u1,u2,rfl,r1,r2⟩:=rt.two
  refine ⟨(_,u2) :: more,.cons ⟨rfl,r2⟩ hk,fun j q h=>?_⟩
  cases j with
  | zero =>
   simp at h
   subst h
   exact ⟨t,u1,rfl,hi,jlb r1⟩
  | succ j =>
   obtain ⟨t',kv,a1,a2,a3⟩:=hm j q (by simpa using h)
   exact ⟨t',kv,by simpa using a1,a2,a3⟩
theorem jjv {X:Cx} (hc:X.calm = true):jc0 X (.type "dict") (rDictL X.K):=by
 intro pins s σ H vs us Q I rv h
 obtain ⟨l,xs,kvs,rfl,hl,hp,hz,hn,q⟩:=h
 obtain ⟨u,rfl,ru⟩:=rv.one
 cases ru
 obtain ⟨z,its,n,r,hlen,e⟩:=I.lstM hl
 obtain ⟨more,hkv,hm⟩:=jf9 I hp r
 have hlm:kvs.length = more.length:=Paired.length hkv
 have hlx:xs.length = kvs.length:=Paired.length hp
 refine jf1 (knd:=jbl X.prog X.w) (more:=more) (I.ok.hd hc) e (by rw [List.size_toArray]; omega) (by rw [List.size_toArray]; omega) (fun j q hj=>?_) fun h' tk dd k=>?_
 ·obtain ⟨t,kv,a1,a2,a3⟩:=hm j q hj
  exact ⟨t,kv,by simpa using a1,a2,a3⟩
 ·refine ⟨.ref s.heap.objs.size,upd H s.heap.objs.size (.dK kvs),I.laid k (Nat.le_refl _) ?_,rfl,q _ I.fresh⟩
  rw [merged_nil_of_nodup more (by rw [← hkv.keys]; exact hn)] at dd
  exact jo2 (by have:=(by decide:1000 ≤ sizeLine); omega) (by have:=I.big; exact beq_false_of_ne (Nat.ne_of_gt this)) hkv dd
end L2
namespace L2
open PySem PySem.Spec PyProof.Rows
inductive Knd (H:Hp):V→String→Prop where
 | non:Knd H .non "NoneType"
 | bl {x:Bool}:Knd H (.bl x) "bool"
 | int {i:Int}:Knd H (.int i) "int"
 | str {x:Str}:Knd H (.str x) "str"
 | lst {a:Addr} {xs:List V} (e:H a = some (.lst xs)):Knd H (.ref a) "list"
 | tup {a:Addr} {xs:List V} (e:H a = some (.tup xs)):Knd H (.ref a) "tuple"
 | dK {a:Addr} {kvs:List (Key × V)} (e:H a = some (.dK kvs)):Knd H (.ref a) "dict"
theorem Knd.ty {K:PySem.W.Frag} {H:Hp} {v:V} {n:String} (h:Knd H v n):TyOf K H v (.type n):=by
 cases h with
 | non=>exact .non
 | bl=>exact .bl _
 | int=>exact .int _
 | str=>exact .str _
 | lst e=>exact .lst e
 | tup e=>exact .tup e
 | dK e=>exact .dK e
def isiK (a b:String):Bool:=a == b || (a == "bool" && b == "int")
def jg4:List String:=["NoneType","bool","int","str","list","tuple","dict"]
theorem jos {K:PySem.W.Frag}:∀ a ∈ jg4,∀ b ∈ jg4,PySem.W.kitOne K (.type a) (.type b) = some (isiK a b):=by
 intro a ha b hb
 have ha':a = "NoneType" ∨ a = "bool" ∨ a = "int" ∨ a = "str" ∨ a = "list" ∨ a = "tuple" ∨ a = "dict":=by simpa [jg4] using ha
 have hb':b = "NoneType" ∨ b = "bool" ∨ b = "int" ∨ b = "str" ∨ b = "list" ∨ b = "tuple" ∨ b = "dict":=by simpa [jg4] using hb
 rcases ha' with rfl | rfl | rfl | rfl | rfl | rfl | rfl <;> rcases hb' with rfl | rfl | rfl | rfl | rfl | rfl | rfl <;> rfl
def rIsi:List V→Hp→VK→Prop:=fun vs H Q=>∃ x n T,vs = [x,.ty T]∧Knd H x n∧T ∈ jg4∧Q (.bl (isiK n T)) H
theorem Knd.mem {H:Hp} {v:V} {n:String} (h:Knd H v n):n ∈ jg4:=by cases h <;> simp [jg4]
theorem jn9 {X:Cx}:jc0 X (.builtin "isinstance") rIsi:=by
 intro pins s σ H vs us Q I rv h
 obtain ⟨x,n,T,rfl,hk,hT,q⟩:=h
 obtain ⟨u1,u2,rfl,r1,r2⟩:=rv.two
 cases (show u2 = Value.type T from r2)
 exact jlf I r1 hk.ty (jos n hk.mem T hT) fun tk=>⟨.bl _,H,I.tok tk,rfl,q⟩
end L2
namespace L2
open PySem PySem.Spec PyProof.Rows
section
variable {X:Cx} {e a b c o i:Expr} {es:List Expr} {t t' ta tb tc td te:TE} {pos p p2:Pos}
theorem PE.imp (h:PE X e t) (hi:∀ σ H Q,t' σ H Q→t σ H Q):PE X e t':=fun pins s σ H Q I q=>h pins s σ H Q I (hi σ H Q q)
theorem PG.imp {t t':TG} (h:PG X e t) (hi:∀ v σ H Q,t' v σ H Q→t v σ H Q):PG X e t':=fun pins s σ H v u Q I r q=>h pins s σ H v u Q I r (hi v σ H Q q)
theorem PGs.imp {t t':TGs} (h:PGs X es t) (hi:∀ v σ H Q,t' v σ H Q→t v σ H Q):PGs X es t':=fun pins s σ H v u Q I r q=>h pins s σ H v u Q I r (hi v σ H Q q)
theorem OpR.imp {f:Value→Value→Sem Value} {r r':R2} (h:OpR X f r) (hi:∀ x y H Q,r' x y H Q→r x y H Q):OpR X f r':=fun pins s σ H x y v u Q I rx ry q=>h pins s σ H x y v u Q I rx ry (hi x y H Q q)
theorem jc0.imp {f:Value} {r r':List V→Hp→VK→Prop} (h:jc0 X f r) (hi:∀ vs H Q,r' vs H Q→r vs H Q):jc0 X f r':=fun pins s σ H xs us Q I rv q=>h pins s σ H xs us Q I rv (hi xs H Q q)
theorem IxR.imp {r r':R2} (h:IxR X r) (hi:∀ x y H Q,r' x y H Q→r x y H Q):IxR X r':=fun value slice pins s σ H x y v u Q I rx ry q hs=>h value slice pins s σ H x y v u Q I rx ry (hi x y H Q q) hs
theorem MtR.imp {id:String} {r r':V→List V→Hp→VK→Prop} (h:MtR X id r) (hi:∀ x vs H Q,r' x vs H Q→r x vs H Q):MtR X id r':=fun pins s σ H x xs v us Q I rx rv q=>h pins s σ H x xs v us Q I rx rv (hi x xs H Q q)
theorem PSet.imp {t t':TSet} (h:PSet X t) (hi:∀ o i v H Q,t' o i v H Q→t o i v H Q):PSet X t':=fun pins s σ H o i v ov iv u Q I r1 r2 r3 q=>h pins s σ H o i v ov iv u Q I r1 r2 r3 (hi o i v H Q q)
theorem SlR.imp {r r':V→Option Int→Option Int→Hp→VK→Prop} (h:SlR X r) (hi:∀ x l u H Q,r' x l u H Q→r x l u H Q):SlR X r':=fun pins s σ H x v vl vu lo hi' sl Q I rx hs pl pu q=>h pins s σ H x v vl vu lo hi' sl Q I rx hs pl pu (hi x lo hi' H Q q)
def fVar (i:Nat):TE:=fun σ H Q=>match σ[i]? with
 | some (some v)=>Q v H
 | _=>False
theorem qv (i:Nat) {x:Str} {pos:Pos} (hN:X.N[i]? = some x:=by rfl) (hv:Vis X.env.scope x:=by first | exact Or.inl rfl | exact Or.inr (Or.inl rfl) | exact Or.inr (Or.inr rfl)) (hd:(x == ("__debug__":Str)) = false:=by decide)
  (hcd:(x == ("__classdict__":Str)) = false:=by decide):PE X (.Name x pos) (fVar i):=(pe_var hN hv hd hcd).imp fun σ H Q q=>by
 unfold fVar at q
 split at q
 ·rename_i v e; exact ⟨v,e,q⟩
 ·exact q.elim
def fI (g:Int→Int→V):R2:=fun x y H Q=>match x,y with
 | .int i,.int j=>Q (g i j) H
 | _,_=>False
def fIC (C:Int→Int→Prop) (g:Int→Int→V):R2:=fun x y H Q=>match x,y with
 | .int i,.int j=>C i j∧Q (g i j) H
 | _,_=>False
theorem fI.r {g:Int→Int→V} {x y:V} {H:Hp} {Q:VK} (h:fI g x y H Q):rI0 g x y H Q:=by
 unfold fI at h
 split at h
 ·exact ⟨_,_,rfl,rfl,h⟩
 ·exact h.elim
theorem fIC.r {C:Int→Int→Prop} {g:Int→Int→V} {x y:V} {H:Hp} {Q:VK} (h:fIC C g x y H Q):rI C g x y H Q:=by
 unfold fIC at h
 split at h
 ·exact ⟨_,_,rfl,rfl,h.1,h.2⟩
 ·exact h.elim
theorem jcf:OpR X (binaryOp .Add) (fI fun i j=>.int (i + j)):=op_add.imp fun _ _ _ _=>fI.r
theorem jgx:OpR X (binaryOp .Sub) (fI fun i j=>.int (i - j)):=op_sub.imp fun _ _ _ _=>fI.r
theorem ji9:OpR X (binaryOp .Mult) (fIC CMul fun i j=>.int (i * j)):=op_mul.imp fun _ _ _ _=>fIC.r
theorem jgz:OpR X (binaryOp .Mod) (fIC (fun _ j=>0 < j) fun i j=>.int (i % j)):=op_mod.imp fun _ _ _ _=>fIC.r
theorem jnl:OpR X (binaryOp .FloorDiv) (fIC CDiv fun i j=>.int (i / j)):=jon.imp fun _ _ _ _=>fIC.r
theorem jmh:OpR X (binaryOp .Pow) (fIC CPow fun i j=>.int (i ^ j.toNat)):=op_pow.imp fun _ _ _ _=>fIC.r
theorem q_lt:OpR X (compareOp .Lt) (fI fun i j=>.bl (decide (i < j))):=op_lt.imp fun _ _ _ _=>fI.r
theorem q_le:OpR X (compareOp .LtE) (fI fun i j=>.bl (decide (i ≤ j))):=op_le.imp fun _ _ _ _=>fI.r
theorem q_gt:OpR X (compareOp .Gt) (fI fun i j=>.bl (decide (i > j))):=op_gt.imp fun _ _ _ _=>fI.r
theorem q_ge:OpR X (compareOp .GtE) (fI fun i j=>.bl (decide (i ≥ j))):=op_ge.imp fun _ _ _ _=>fI.r
theorem q_iadd:PIp X .Add (fI fun i j=>.int (i + j)):=fun pins s σ H x y v u Q I rx ry q=>jov pins s σ H x y v u Q I rx ry q.r
def fNeg:V→Hp→VK→Prop:=fun x H Q=>match x with
 | .int i=>Q (.int (-i)) H
 | _=>False
theorem jks:UnR X (unaryOp .USub) fNeg:=fun pins s σ H x v Q I rx q=>by
 cases x <;> first
  | exact False.elim q
  | exact un_neg pins s σ H _ v Q I rx ⟨_,rfl,q⟩
def fEq:R2:=fun x y H Q=>match x,y with
 | .int i,.int j=>Q (.bl (decide (i = j))) H
 | .bl i,.bl j=>Q (.bl (decide (i = j))) H
 | .str i,.str j=>Q (.bl (decide (i = j))) H
 | _,_=>False
def fNe:R2:=fun x y H Q=>match x,y with
 | .int i,.int j=>Q (.bl (!decide (i = j))) H
 | .bl i,.bl j=>Q (.bl (!decide (i = j))) H
 | .str i,.str j=>Q (.bl (!decide (i = j))) H
 | _,_=>False
theorem dI (i j:Int):decide (V.int i = V.int j) = decide (i = j):=by simp
theorem dB (i j:Bool):decide (V.bl i = V.bl j) = decide (i = j):=by simp
theorem dS (i j:Str):decide (V.str i = V.str j) = decide (i = j):=by simp
theorem q_eq:OpR X (compareOp .Eq) fEq:=op_eq.imp fun x y H Q h=>by
 unfold fEq at h
 split at h
 ·exact ⟨rfl,by rw [dI]; exact h⟩
 ·exact ⟨rfl,by rw [dB]; exact h⟩
 ·exact ⟨rfl,by rw [dS]; exact h⟩
 ·exact h.elim
theorem q_ne:OpR X (compareOp .NotEq) fNe:=op_ne.imp fun x y H Q h=>by
 unfold fNe at h
 split at h
 ·exact ⟨rfl,by rw [dI]; exact h⟩
 ·exact ⟨rfl,by rw [dB]; exact h⟩
 ·exact ⟨rfl,by rw [dS]; exact h⟩
 ·exact h.elim
def jot:V→Bool
 | .non=>true
 | _=>false
def fIsN (f:Bool→Bool):R2:=fun x y H Q=>match y with
 | .non=>Q (.bl (f (jot x))) H
 | _=>False
def fAnd (ta tb:TE):TE:=fun σ H Q=>ta σ H fun x H1=>match x with
 | .bl c=>if c = true then tb σ H1 Q else Q (.bl false) H1
 | _=>False
def fOr (ta tb:TE):TE:=fun σ H Q=>ta σ H fun x H1=>match x with
 | .bl c=>if c = true then Q (.bl true) H1 else tb σ H1 Q
 | _=>False
def fNot (ta:TE):TE:=fun σ H Q=>ta σ H fun x H1=>match x with
 | .bl c=>Q (.bl (!c)) H1
 | _=>False
def fB (t:TE):TT:=fun σ H Q=>t σ H fun x H1=>match x with
 | .bl c=>Q c H1
 | _=>False
variable {rest:List Expr}
theorem jes (ha:PE X a ta) (hb:PE X (.BoolOp .And (b :: rest) pos) tb):PE X (.BoolOp .And (a :: b :: rest) pos) (fAnd ta tb):=by
  intro pins s σ H Q I h
  refine BoolOp_and (thn (ha pins s σ H _ I h) fun v s1 ⟨x,H1,I1,r1,q1⟩=>?_)
  cases x <;> first
    | exact False.elim q1
    | (rename_i c
       cases r1
       refine wpAny_truthy_bool ?_
       cases c with
       | true=>exact hb pins s1 σ H1 Q I1 q1
       | false=>exact ⟨.bl false,H1,I1,rfl,q1⟩)
theorem q_not (ha:PE X a ta):PE X (.UnaryOp .Not a pos) (fNot ta):=by
  intro pins s σ H Q I h
  refine UnaryOp_ (thn (ha pins s σ H _ I h) fun v s1 ⟨x,H1,I1,r1,q1⟩=>?_)
  cases x <;> first
    | exact False.elim q1
    | (rename_i c
       cases r1
       exact not_of (wpAny_truthy_bool ⟨.bl (!c),H1,I1,rfl,q1⟩))
theorem jbh {t:TE} (h:PE X e t) (he:∀ whole,isTrue e X.env whole = (do let v ← whole; standAt e.pos; holding [v] (truthy v)):=by intro _; rfl):PT X e (fB t):=by
  intro pins s σ H Q I hw
  refine isTrue_plain (thn (h pins s σ H _ I hw) fun v s1 ⟨x,H1,I1,r1,q1⟩=>?_) (he _)
  cases x <;> first
    | exact False.elim q1
    | (cases r1
       exact wpAny_truthy_bool ⟨H1,I1,q1⟩)
theorem jat {op:CmpOp} {r:R2} (ho:OpR X (compareOp op) r) (ha:PE X a ta) (hb:PE X b tb) (hm:behindInMarks op b = false):PT X (.Compare a [op] [b] pos) (fB (tOp r ta tb)):=by
  intro pins s σ H Q I h
  refine wpAny_isTrue_Compare1 (thn (ha pins s σ H _ I h) fun v s1 ⟨x,H1,I1,r1,q1⟩=>thn (hb pins s1 σ H1 _ I1 q1) fun u s2 ⟨y,H2,I2,r2,q2⟩ =>
    thn (ho pins s2 σ H2 x y v u _ I2 r1 r2 q2) fun c s3 ⟨z,H3,I3,r3,q3⟩=>?_) hm
  cases z <;> first
    | exact False.elim q3
    | (cases r3
       exact wpAny_truthy_bool ⟨H3,I3,q3⟩)
def jjg (r r':R2) (ta tb tc:TE):TE:=fun σ H Q=>ta σ H fun x H1=>tb σ H1 fun y H2=>r x y H2 fun z H3=>match z with
 | .bl k=>(if k = true then tc σ H3 fun w' H4=>r' y w' H4 Q else Q (.bl false) H3)
 | _=>False
theorem jku {op op':CmpOp} {g:Int→Int→Bool} {r':R2} (ho:OpR X (compareOp op) (fI fun i j=>.bl (g i j))) (ho':OpR X (compareOp op') r') (ha:PE X a ta) (hb:PE X b tb) (hc:PE X c tc)
  (hm:lastMarks [op,op'] [b,c] = false:=by with_unfolding_all rfl):PE X (.Compare a [op,op'] [b,c] pos) (jjg (fI fun i j=>.bl (g i j)) r' ta tb tc):=by
 intro pins s σ H Q I h
 refine Compare_chain (thn (ha pins s σ H _ I h) fun v s1 ⟨x,H1,I1,r1,q1⟩=>chain_link (thn (hb pins s1 σ H1 _ I1 q1) fun u s2 ⟨y,H2,I2,r2,q2⟩ =>
  thn (ho pins s2 σ H2 x y v u (fun z H3=>∃ k,z = .bl k∧(if k = true then tc σ H3 fun w' H4=>r' y w' H4 Q else Q (.bl false) H3)) I2 r1 r2 ?_) fun d s3 ⟨z,H3,I3,r3,k,e,q3⟩=>?_)) hm
 ·dsimp only at q2
  unfold fI at q2 ⊢
  cases x <;> cases y <;> first
   | exact q2.elim
   | exact ⟨_,rfl,q2⟩
 ·subst e
  cases r3
  refine wpAny_truthy_bool ?_
  cases k with
  | false=>exact ite_ff ⟨.bl false,H3,I3,rfl,q3⟩
  | true=>exact ite_tt (chain_last (thn (hc pins s3 σ H3 _ I3 q3) fun w' s4 ⟨z',H4,I4,r4,q4⟩=>ho' pins s4 σ H4 y z' u w' Q I4 r2 r4 q4))
def jam (H:Hp) (p:Addr):Option (List V):=match H p with
 | some (.lst xs)=>some xs
 | some (.tup xs)=>some xs
 | some (.frz _ (.lst xs))=>some xs
 | _=>none
theorem jdw {K:PySem.W.Frag} {H:Hp} {p:Addr} {xs:List V} (h:jam H p = some xs):SqL K H p xs ∨ SqT K H p xs:=by
 unfold jam at h
 split at h
 ·rename_i ys e; cases h; exact .inl (.inl (.inl e))
 ·rename_i ys e; cases h; exact .inr (SqT.of e)
 ·rename_i o ys e; cases h; exact .inl (.inl (.inr ⟨_,e⟩))
 ·cases h
def fIx:R2:=fun x y H Q=>match x,y with
 | .ref p,.int i=>match jam H p with
  | some xs=>match atI xs i with
   | some v=>Q v H
   | none=>False
  | none=>False
 | _,_=>False
theorem q_ix:IxR X fIx:=(jld.or ix_tup).imp fun x y H Q h=>by
 unfold fIx at h
 split at h
 ·split at h
  ·rename_i xs e
   split at h
   ·rename_i v ev
    rcases jdw (K:=X.K) e with z | z
    ·exact .inl ⟨_,_,_,_,rfl,rfl,z,ev,h⟩
    ·exact .inr ⟨_,_,_,_,rfl,rfl,z,ev,h⟩
   ·exact h.elim
  ·exact h.elim
 ·exact h.elim
def fLen:List V→Hp→VK→Prop:=fun vs H Q=>match vs with
 | [.ref p]=>match jam H p with
  | some xs=>Q (.int xs.length) H
  | none=>False
 | _=>False
theorem jdr:jc0 X (.builtin "len") fLen:=jcr.imp fun vs H Q h=>by
 unfold fLen at h
 split at h
 ·split at h
  ·rename_i xs e; exact ⟨_,xs,rfl,jdw e,h⟩
  ·exact h.elim
 ·exact h.elim
def jg9:List V→Hp→VK→Prop:=fun vs H Q=>match vs with
 | [.ref p]=>match jam H p with
  | some xs=>∀ l,H l = none→Q (.ref l) (upd H l (.lst xs))
  | none=>False
 | _=>False
theorem jd7:jc0 X (.type "list") jg9:=jhr.imp fun vs H Q h=>by
 unfold jg9 at h
 split at h
 ·split at h
  ·rename_i xs e; exact ⟨_,xs,rfl,jdw e,h⟩
  ·exact h.elim
 ·exact h.elim
def fMin:List V→Hp→VK→Prop:=fun vs H Q=>match vs with
 | [.int i,.int j]=>Q (.int (if j < i then j else i)) H
 | _=>False
theorem joh (hc:X.calm = true):jc0 X (.builtin "min") fMin:=(jlw hc).imp fun vs H Q h=>by
 unfold fMin at h
 split at h
 ·exact ⟨_,_,rfl,h⟩
 ·exact h.elim
def fSlL:V→Option Int→Option Int→Hp→VK→Prop:=fun x lo hi H Q=>match x with
 | .ref a=>match H a with
  | some (.lst xs)=>∀ p,H p = none→Q (.ref p) (upd H p (.lst (cutV xs lo hi)))
  | _=>False
 | _=>False
theorem q_slL:SlR X fSlL:=jod.imp fun x l u H Q h=>by
 unfold fSlL at h
 split at h
 ·split at h
  ·rename_i xs e; exact ⟨_,xs,rfl,SqL.of e,h⟩
  ·exact h.elim
 ·exact h.elim
def jga:V→List V→Hp→VK→Prop:=fun x vs H Q=>match x,vs with
 | .ref l,[y]=>match H l with
  | some (.lst xs)=>xs.length < sizeLine∧Q .non (upd H l (.lst (xs ++ [y])))
  | _=>False
 | _,_=>False
theorem jbz:MtR X "list.append" jga:=MtR.imp (r:=jkr) (fun pins s σ H x xs v us Q I rx rv q=>jhc pins s σ H x xs v us Q I rx rv q) fun x vs H Q h=>by
 unfold jga at h
 split at h
 ·split at h
  ·rename_i xs e; exact ⟨_,xs,_,rfl,rfl,e,h.1,h.2⟩
  ·exact h.elim
 ·exact h.elim
def fBM (r:V→List V→Hp→VK→Prop) (to:TE) (t:TA):TE:=fun σ H Q=>to σ H fun x H1=>(∃ a xs,x = .ref a∧H1 a = some (.lst xs))∧t σ H1 fun xs H2=>r x xs H2 Q
def jn0:TSet:=fun o i v H Q=>match o,i with
 | .ref p,.int k=>match H p with
  | some (.lst xs)=>match ixN xs.length k with
   | some j=>Q (upd H p (.lst (xs.set j v)))
   | none=>False
  | _=>False
 | _,_=>False
theorem jgy:PSet X jn0:=jmc.imp fun o i v H Q h=>by
 unfold jn0 at h
 split at h
 ·split at h
  ·rename_i xs e
   split at h
   ·rename_i j ej; exact ⟨_,xs,_,j,rfl,rfl,e,ej,h⟩
   ·exact h.elim
  ·exact h.elim
 ·exact h.elim
def jln:TGs:=fun vs σ H Q=>match vs with
 | []=>Q σ H
 | _=>False
def jhm (t:TG) (u:TGs):TGs:=fun vs σ H Q=>match vs with
 | v :: r=>t v σ H fun σ' H'=>u r σ' H' Q
 | []=>False
theorem jb4:PGs X [] jln:=jom.imp fun v σ H Q h=>by
 unfold jln at h
 split at h
 ·exact ⟨rfl,h⟩
 ·exact h.elim
theorem jaf {t:TG} {u:TGs} (h1:PG X e t) (h2:PGs X es u) (hs:(assignEach (e :: es) X.env).map (·.2) = assign e X.env :: (assignEach es X.env).map (·.2):=by rfl):PGs X (e :: es) (jhm t u):=(jmm h1 h2 hs).imp fun v σ H Q h=>by
 unfold jhm at h
 split at h
 ·exact ⟨_,_,rfl,h⟩
 ·exact h.elim
def jlm (n:Nat) (t:TGs):TG:=fun v σ H Q=>match v with
 | .ref a=>match H a with
  | some (.tup xs)=>xs.length = n∧t xs σ H Q
  | _=>False
 | _=>False
theorem jbi {k:Nat} {t:TGs} {n:Nat} (hc:X.calm = true) (h:PGs X es t) (hn:(assignEach es X.env).length = n:=by rfl) (hst:(assignEach es X.env).findIdx? (·.1) = none:=by rfl):PG X (.Tuple es k pos) (jlm n t) :=
 (pg_tup hc h hn hst).imp fun v σ H Q q=>by
  unfold jlm at q
  split at q
  ·split at q
   ·rename_i xs e; exact ⟨_,xs,rfl,SqT.of e,q.1,q.2⟩
   ·exact q.elim
  ·exact q.elim
def fDIn (f:Bool→Bool) (ty td:TE):TE:=fun σ H Q=>ty σ H fun y H1=>td σ H1 fun x H2=>match y,x with
 | .int n,.ref a=>match H2 a with
  | some (.dK kvs)=>Q (.bl (f (valV kvs (Sum.inl n:Key)).isSome)) H2
  | _=>False
 | _,_=>False
def jp1 (td ty:TE):TE:=fun σ H Q=>td σ H fun x H1=>ty σ H1 fun y H2=>match x,y with
 | .ref a,.int n=>match H2 a with
  | some (.dK kvs)=>match valV kvs (Sum.inl n:Key) with
   | some v=>Q v H2
   | none=>False
  | _=>False
 | _,_=>False
end
section
variable {X:Cx} {o i:Expr} {td ty:TE} {pos:Pos}
theorem fDIn_r {f:Bool→Bool} {H2:Hp} {Q:VK} {y x:V} (h:(match y,x with
  | .int n,.ref a=>match H2 a with
    | some (.dK kvs)=>Q (.bl (f (valV kvs (Sum.inl n:Key)).isSome)) H2
    | _=>False
  | _,_=>False)):∃ a ov,x = .ref a∧DGet H2 a y ov∧Q (.bl (f ov.isSome)) H2:=by
  cases y <;> cases x <;> first
    | exact h.elim
    | (rename_i n a
       dsimp only at h
       split at h
       · rename_i kvs e; exact ⟨a,_,rfl,DGet.k (k:=Sum.inl n) e,h⟩
       · exact h.elim)
theorem q_din (hu:X.A.units + 1 < cLine) (hi:PE X i ty) (ho:PE X o td):PC X .In i o (fDIn id ty td):=by
 intro pins s σ H Q I h
 refine thn (hi pins s σ H _ I h) fun iv s1 ⟨y,H1,I1,ry,q1⟩=>thn (ho pins s1 σ H1 _ I1 q1) fun u s2 ⟨x,H2,I2,rx,q2⟩=>?_
 obtain ⟨a,ov,ex,g,q3⟩:=fDIn_r q2
 subst ex
 obtain rfl:u = Value.ref a:=rx
 exact d_in hu I2 g ry fun s' I3=>⟨.bl ov.isSome,H2,I3,rfl,q3⟩
theorem jcz (hu:X.A.units + 1 < cLine) (ho:PE X o td) (hi:PE X i ty) (hs:NoSl i):PE X (.Subscript o i pos) (jp1 td ty):=by
  intro pins s σ H Q I h
  refine jkf PySem.F.slot_dict_getitem.lookup hs (thn (ho pins s σ H _ I h) fun u s1 ⟨x,H1,I1,rx,q1⟩=>thn (hi pins s1 σ H1 _ I1 q1) fun iv s2 ⟨y,H2,I2,ry,q2⟩=>?_)
  cases x <;> cases y <;> first
    | exact False.elim q2
    | (dsimp only at q2
       split at q2
       · rename_i kvs e
         split at q2
         · rename_i v ev
           cases rx
           have g:∀ {a:Addr} {n:Int},H2 a = some (.dK kvs)→valV kvs (Sum.inl n:Key) = some v→DGet H2 a (.int n) (some v):=fun e1 e2=>e2 ▸ DGet.k (k:=Sum.inl _) e1
           have g:=g e ev
           exact ⟨jeo I2 g,jhp hu I2 g ry fun w' s3 I3 rw'=>⟨v,H2,I3,rw',q2⟩⟩
         · exact q2.elim
       · exact q2.elim)
theorem q_bm {e:Expr} {es:List Expr} {to:TE} {t:TA} {name:Str} {apos cpos:Pos} {id:String} {r:V→List V→Hp→VK→Prop} (pa:PlainAttrs "list") (slot:Slot "list" name id) (hty:typeOf (.builtin id) = pure (.type "method_descriptor")) (hm:MtR X id r) (ho:PE X o to) (ha:PA X (e :: es) t)
  (hbase:attributeBase o name X.env (eval o X.env) = eval o X.env:=by rfl)
  (hfew:((backTo cpos (starEach (e :: es) X.env)).all (fun x=>!x.1) && (backToKw cpos (keywordEach [] X.env)).all (fun x=>x.1.isSome)
   && decide ((e :: es).length + ([]:List Keyword).length + (if ([]:List Keyword).isEmpty then 0 else 1) < 30)) = true:=by rfl)
  (hline:(apos.endLine == cpos.line) = true:=by rfl) (hs:starEach (e :: es) X.env = (false,eval e X.env) :: starEach es X.env:=by rfl) (hplain:(backTo cpos (starEach es X.env)).any (·.1) = false:=by rfl) :
  PE X (.Call (.Attribute o name apos) (e :: es) [] cpos) (fBM r to t):=by
 intro pins s σ H Q I h
 refine wpAny_Call_method_late hbase hfew hline rfl (thn (ho pins s σ H _ I h) fun v s1 ⟨x,H1,I1,r1,⟨a,xs,ex,ea⟩,q1⟩=>?_)
 subst ex
 obtain ⟨h1,h2⟩:=tyV_is (T:="list") I1 r1 (.inl ⟨rfl,_,SqL.of ea⟩)
 refine ⟨"list",id,pa,slot,hty,h1,h2,?_⟩
 have hA:=ha cpos pins s1 σ H1 _ I1 q1
 rw [hs] at hA ⊢
 refine Calls.callWith_builtin (by show (false || (backTo cpos (starEach es X.env)).any (·.1)) = false; rw [hplain] <;> rfl) (Calls.evalArgs_plain ?_)
 exact thn hA fun us s2 ⟨vs,H2,I2,r2,q2⟩=>hm pins s2 σ H2 _ vs v us Q I2 r1 r2 q2
end
inductive Kd where
 | non | bl | int | str | lst | tup | dct
 deriving DecidableEq
def Kd.nm:Kd→String
 | .non=>"NoneType"
 | .bl=>"bool"
 | .int=>"int"
 | .str=>"str"
 | .lst=>"list"
 | .tup=>"tuple"
 | .dct=>"dict"
def kd (H:Hp) (v:V):Option Kd:=match v with
 | .non=>some .non
 | .bl _=>some .bl
 | .int _=>some .int
 | .str _=>some .str
 | .ref a=>match H a with
  | some (.lst _)=>some .lst
  | some (.tup _)=>some .tup
  | some (.dK _)=>some .dct
  | _=>none
 | _=>none
def isi (a b:Kd):Bool:=match a,b with
 | .bl,.int=>true
 | .non,.non=>true
 | .bl,.bl=>true
 | .int,.int=>true
 | .str,.str=>true
 | .lst,.lst=>true
 | .tup,.tup=>true
 | .dct,.dct=>true
 | _,_=>false
theorem kd_knd {H:Hp} {v:V} {k:Kd} (h:kd H v = some k):Knd H v k.nm:=by
 unfold kd at h
 split at h
 ·cases h; exact .non
 ·cases h; exact .bl
 ·cases h; exact .int
 ·cases h; exact .str
 ·split at h
  ·rename_i e; cases h; exact .lst e
  ·rename_i e; cases h; exact .tup e
  ·rename_i e; cases h; exact .dK e
  ·cases h
 ·cases h
theorem isi_K (a b:Kd):isiK a.nm b.nm = isi a b:=by cases a <;> cases b <;> rfl
theorem Kd.mem (b:Kd):b.nm ∈ jg4:=by cases b <;> simp [jg4,Kd.nm]
def fIsi (T:Kd):List V→Hp→VK→Prop:=fun vs H Q=>match vs with
 | [x,y]=>y = .ty T.nm∧match kd H x with
  | some k=>Q (.bl (isi k T)) H
  | none=>False
 | _=>False
theorem je7 {X:Cx} (T:Kd):jc0 X (.builtin "isinstance") (fIsi T):=jn9.imp fun vs H Q h=>by
 unfold fIsi at h
 split at h
 ·obtain ⟨rfl,h⟩:=h
  split at h
  ·rename_i k e
   exact ⟨_,_,_,rfl,kd_knd e,Kd.mem T,by rw [isi_K]; exact h⟩
  ·exact h.elim
 ·exact h.elim
def fAug (i:Nat) (te:TE) (ti:TIp):TS:=fun D σ H=>match σ[i]? with
 | some (some x)=>te σ H fun y H1=>ti x y H1 fun z H2=>D.nx (σ.set i (some z)) H2
 | _=>False
theorem qs_aug {X:Cx} {pos:Pos} {i:Nat} {x:Str} {e:Expr} {te:TE} {op:Operator} {ti:TIp} {pos':Pos} (hN:X.N.Nodup) (hi:X.N[i]? = some x) (hx:Loc X.env.scope x) (he:PE X e te) (ho:PIp X op ti) (hf:X.fn x = true ∨ X.env.scope.names.lookup x = some .local:=by first | exact .inl rfl | exact .inr rfl | assumption) :
  PS X (.AugAssign (.Name x pos') op e pos) (fAug i te ti):=fun pins s σ H D I h=>ps_aug hN hi hx he ho hf pins s σ H D I (by
 unfold fAug at h
 split at h
 ·rename_i x e; exact ⟨x,e,h⟩
 ·exact h.elim)
def jp0 (t:TE):TO:=fun σ H Q=>t σ H fun x H1=>match x with
 | .int i=>Q (some i) H1
 | _=>False
theorem jof {X:Cx} {e:Expr} {te:TE} (h:PE X e te):PO X (some e) (jp0 te):=by
  intro pins s σ H Q I hw
  rw [evalPart_some]
  refine thn (h pins s σ H _ I hw) fun u s1 ⟨x,H1,I1,r1,q1⟩=>?_
  cases x <;> first
    | exact False.elim q1
    | (obtain ⟨t,rfl⟩:=r1
       exact ⟨some _,H1,I1,.int _ t,q1⟩)
def jnx (f:List Bool→Bool):List V→Hp→VK→Prop:=fun vs H Q=>match vs with
 | [.ref l]=>match H l with
  | some (.lst xs)=>∃ bs:List Bool,xs = bs.map V.bl∧Q (.bl (f bs)) H
  | _=>False
 | _=>False
def jjf:List V→Hp→VK→Prop:=fun vs H Q=>match vs with
 | [.ref l]=>match H l with
  | some (.lst xs)=>∃ kvs:List (Key × V),Paired (PairAt H) xs kvs∧xs.length ≤ 1000∧(kvs.map (·.1)).Nodup∧∀ d,H d = none→Q (.ref d) (upd H d (.dK kvs))
  | _=>False
 | _=>False
theorem jkt {X:Cx} (hc:X.calm = true):jc0 X (.type "dict") jjf:=(jjv hc).imp fun vs H Q h=>by
 unfold jjf at h
 split at h
 ·split at h
  ·rename_i xs e
   obtain ⟨kvs,h1,h2,h3,h4⟩:=h
   exact ⟨_,xs,kvs,rfl,e,h1,h2,h3,h4⟩
  ·exact h.elim
 ·exact h.elim
def fLtT:R2:=fun x y H Q=>match x,y with
 | .ref a,.ref b=>match H a,H b with
  | some (.tup [.int i,.int j]),some (.tup [.int k,.int l])=>Q (.bl (HT.lexLt [i,j] [k,l])) H
  | _,_=>False
 | _,_=>False
theorem q_ltT {X:Cx} (hu:X.A.units < cLine):OpR X (compareOp .Lt) fLtT:=(op_ltT hu).imp fun x y H Q h=>by
 unfold fLtT at h
 split at h
 ·split at h
  ·rename_i a b _ _ i j k l e1 e2
   exact ⟨a,b,[i,j],[k,l],rfl,rfl,SqT.of e1,SqT.of e2,h⟩
  ·exact h.elim
 ·exact h.elim
def capB (XN:List Str) (names:List (Str × NameKind)):List Str→List (Option Nat)→Bool
 | [],[]=>true
 | x :: N,none :: r=>capB XN names N r
 | x :: N,some j :: r=>(XN[j]? == some x) && (names.lookup x == some .free) && capB XN names N r
 | _,_=>false
theorem jit {XN:List Str} {names:List (Str × NameKind)}:∀ {N:List Str} {src:List (Option Nat)},capB XN names N src = true→src.length = N.length∧∀ (i j:Nat),src[i]? = some (some j)→XN[j]? = N[i]?∧(N[i]?).elim False (fun x=>names.lookup x = some .free)
 | [],[],_=>⟨rfl,fun i j e=>by simp at e⟩
 | x :: N,none :: r,h=>by
  obtain ⟨h1,h2⟩:=jit (N:=N) (src:=r) h
  refine ⟨by simp [h1],fun i j e=>?_⟩
  cases i with
  | zero=>simp at e
  | succ i=>exact h2 i j (by simpa using e)
 | x :: N,some k :: r,h=>by
  have h':((XN[k]? == some x) && (names.lookup x == some .free) && capB XN names N r) = true:=h
  rw [Bool.and_eq_true,Bool.and_eq_true] at h'
  obtain ⟨h1,h2⟩:=jit (N:=N) (src:=r) h'.2
  refine ⟨by simp [h1],fun i j e=>?_⟩
  cases i with
  | zero =>
   have e':k = j:=by simpa using e
   subst e'
   exact ⟨by simpa using h'.1.1,by simpa using h'.1.2⟩
  | succ i=>exact h2 i j (by simpa using e)
def jj8:List Str→Bool
 | []=>true
 | x :: r=>!(r.contains x) && jj8 r
theorem jad:∀ {l:List Str},jj8 l = true→l.Nodup
 | [],_=>List.nodup_nil
 | x :: r,h=>by
  have h':(!(r.contains x) && jj8 r) = true:=h
  rw [Bool.and_eq_true] at h'
  exact List.nodup_cons.mpr ⟨by simpa using h'.1,jad h'.2⟩
def cpB (XN:List Str) (outer:List (Str × NameKind)) (scope:Scope) (N:List Str) (src:List (Option Nat)):Bool :=
 (scope.kind == .function) && scope.names.all (fun y=>y.2 != .cell) && scope.names.all (fun y=>y.2 != .local || scope.names.lookup y.1 == some .local) &&
  scope.names.all (fun y=>y.2 != .free || (scope.names.lookup y.1 == some .free && outer.lookup y.1 == some .cell)) && jj8 N && capB XN scope.names N src
theorem CpScope.of {X:Cx} {scope:Scope} {N:List Str} {src:List (Option Nat)} (h:cpB X.N X.env.scope.names scope N src = true):CpScope X scope N src:=by
 unfold cpB at h
 simp only [Bool.and_eq_true] at h
 obtain ⟨⟨⟨⟨⟨h1,h2⟩,h3⟩,h4⟩,h5⟩,h6⟩:=h
 rw [List.all_eq_true] at h2 h3 h4
 obtain ⟨l,c⟩:=jit h6
 refine ⟨by simpa using h1,fun y hy=>by simpa using h2 y hy,fun y hy e=>?_,fun y hy e=>?_,jad h5,l,c⟩
 ·have:=h3 y hy
  rw [e] at this
  simpa using this
 ·have:=h4 y hy
  rw [e] at this
  simpa using this
end L2
namespace L2
open PySem PySem.Spec PyProof.Rows
theorem jje {K:PySem.W.Frag} {a:Addr} {xs:List V} {g:TG} {tb:TS} {D:Ends} {σ:St} {H:Hp} (Pv:Nat→St→Hp→Prop) (h0:Pv 0 σ H) (hl:∀ i σ H,i ≤ xs.length→Pv i σ H→SqL K H a xs)
  (hs:∀ i x σ H t,xs[i]? = some x→Pv i σ H→H t = none→g (.ref t) σ (upd H t (.tup [.int i,x])) fun σ2 H2=>tb { D with nx:=Pv (i + 1),ct:=Pv (i + 1),bk:=D.nx } σ2 H2) (hd:∀ σ H,Pv xs.length σ H→D.nx σ H) :
  ∃ W:Nat→Nat→St→Hp→Prop,(∃ m,W 0 m σ H)∧∀ i m σ H,W i m σ H →
   ((Ite K a).stop i H∧D.nx σ H) ∨ ((Ite K a).go i H∧∃ N:St→Hp→Prop,(∀ σ' H',N σ' H'→∃ m',m' < m∧W (i + 1) m' σ' H')∧∀ x H',(Ite K a).yld i H x H'→g x σ H' fun σ2 H2=>tb { D with nx:=N,ct:=N,bk:=D.nx } σ2 H2):=by
 refine ⟨fun i m σ H=>m = xs.length - i∧i ≤ xs.length∧Pv i σ H,⟨xs.length,by simp,Nat.zero_le _,h0⟩,?_⟩
 rintro i m σ H ⟨rfl,hi,p⟩
 have q:=hl i σ H hi p
 by_cases hlt:i < xs.length
 ·refine .inr ⟨⟨xs,xs[i],q,by simp [hlt]⟩,Pv (i + 1),fun σ' H' p'=>⟨xs.length - (i + 1),by omega,rfl,hlt,p'⟩,fun x H' y=>?_⟩
  obtain ⟨t,z,ht,e1,e2,y⟩:=y
  subst e1 e2
  exact hs i z σ _ t (y xs q) p ht
 ·have e:i = xs.length:=by omega
  subst e
  exact .inl ⟨⟨xs,q,Nat.le_refl _⟩,hd σ H p⟩
theorem jbp {wi:TI} {g:TG} {tb:TS} {D:Ends} {σ:St} {H:Hp} (J:It) (H1:Hp) (h1:∀ R:It→Hp→Prop,R J H1→wi σ H R)
  (h2:∃ W:Nat→Nat→St→Hp→Prop,(∃ m,W 0 m σ H1)∧∀ i m σ H,W i m σ H→(J.stop i H∧D.nx σ H) ∨ (J.go i H∧∃ N:St→Hp→Prop,(∀ σ' H',N σ' H'→∃ m',m' < m∧W (i + 1) m' σ' H')∧∀ x H',J.yld i H x H'→g x σ H' fun σ2 H2=>tb { D with nx:=N,ct:=N,bk:=D.nx } σ2 H2)) :
  tFor wi g tb D σ H:=h1 _ h2
theorem jan {src:List (Option Nat)} {wi:TI} {g:TG} {tc:TT} {te:TE} {Q:VK} {σ:St} {H:Hp} (J:It) (H1:Hp) (h1:∀ R:It→Hp→Prop,R J H1→wi σ H R) (h2:∀ l,H1 l = none→jm5 J src g tc te Q σ H1 l):jm8 src wi g tc te σ H Q:=h1 _ h2
theorem ja3 {H:Hp} {p:Addr} (h:H p = none) (o:HO):Same H (upd H p o):=fun b u q=>by rw [jaa (ja6 q h)]; exact q
theorem jar {H H':Hp} {p:Addr} {o:HO} (s:Same H H') (h:H p = none):Same H (upd H' p o):=fun b u q=>by rw [jaa (ja6 q h)]; exact s b u q
def Pr (H:Hp) (v:V) (p:Int × Int):Prop:=∃ t,v = .ref t∧H t = some (.tup [.int p.1,.int p.2])
theorem Pr.same {H H':Hp} {v:V} {p:Int × Int} (h:Pr H v p) (s:Same H H'):Pr H' v p:=let ⟨t,e,q⟩:=h; ⟨t,e,s _ _ q⟩
def jou:HO→Bool
 | .tup _=>true
 | .frz _ _=>true
 | _=>false
def TupS (H H':Hp):Prop:=∀ b o,jou o = true→H b = some o→H' b = some o
theorem Same.tups {H H':Hp} (s:Same H H'):TupS H H':=fun b o _ q=>s b _ q
theorem TupS.trans {H H1 H2:Hp} (a:TupS H H1) (b:TupS H1 H2):TupS H H2:=fun c o i q=>b c o i (a c o i q)
theorem jax {H:Hp} {l:Addr} {xs ys:List V} (h:H l = some (.lst xs)):TupS H (upd H l (.lst ys)):=fun b o i q=>by
 have:b ≠ l:=fun z=>by rw [z,h] at q; cases q; cases i
 rw [jaa this]
 exact q
theorem jdv {H:Hp} {l:Addr} {o:HO} (h:H l = none):TupS H (upd H l o):=(ja3 h o).tups
theorem Pr.tups {H H':Hp} {v:V} {p:Int × Int} (h:Pr H v p) (s:TupS H H'):Pr H' v p:=let ⟨t,e,q⟩:=h; ⟨t,e,s _ _ rfl q⟩
def Scr (K:PySem.W.Frag) (H:Hp) (a:Addr) (ns:List Int):Prop :=
 (∃ o,H a = some (.frz o (.lst (ns.map V.int)))) ∨ ∃ (o:Obj) (its:Array Value) (n:Nat),K.lookup a = some o∧o.cls = .type "list"∧o.dict = none∧o.data = .seq its n∧its.size ≤ sizeLine∧Vals (ns.map V.int) its.toList
theorem Scr.sq {K:PySem.W.Frag} {H:Hp} {a:Addr} {ns:List Int} (h:Scr K H a ns):SqL K H a (ns.map V.int):=h.elim (fun ⟨o,q⟩=>.inl (.inr ⟨o,q⟩)) .inr
theorem Scr.of {K:PySem.W.Frag} {H:Hp} {a:Addr} {ns:List Int} (h:SqL K H a (ns.map V.int)) (o:Only H):Scr K H a ns:=by
 rcases h with (h | ⟨ob,h⟩) | h
 ·rcases o a with z | ⟨ob,xs,z⟩
  ·rw [h] at z; cases z
  ·rw [h] at z; cases z
 ·exact .inl ⟨ob,h⟩
 ·exact .inr h
theorem Scr.tups {K:PySem.W.Frag} {H H':Hp} {a:Addr} {ns:List Int} (h:Scr K H a ns) (s:TupS H H'):Scr K H' a ns:=h.elim (fun ⟨o,q⟩=>.inl ⟨o,s _ _ rfl q⟩) .inr
abbrev Prs (H:Hp):List V→List (Int × Int)→Prop:=Paired (Pr H)
theorem Prs.tups {H H':Hp} (s:TupS H H') {xs:List V} {ps:List (Int × Int)} (h:Prs H xs ps):Prs H' xs ps:=Paired.mapP h fun _ _ q=>q.tups s
theorem Prs.same {H H':Hp} (s:Same H H') {xs:List V} {ps:List (Int × Int)} (h:Prs H xs ps):Prs H' xs ps:=Prs.tups s.tups h
theorem jag {α β:Type} {F:α→β→Prop}:∀ {xs:List α} {ys:List β} {i:Nat} {x:α},Paired F xs ys→xs[i]? = some x→∃ y,ys[i]? = some y∧F x y
 | _,_,_,_,.nil,e=>by simp at e
 | _,_,0,_,.cons r _,e=>by simp at e; subst e; exact ⟨_,rfl,r⟩
 | _,_,i + 1,y,.cons _ t,e=>by
  obtain ⟨u,h1,h2⟩:=jag (i:=i) t (by simpa using e)
  exact ⟨u,by simpa using h1,h2⟩
theorem jb5 {α β:Type} {F:α→β→Prop}:∀ {xs:List α} {ys:List β} {i:Nat} {y:β},Paired F xs ys→ys[i]? = some y→∃ x,xs[i]? = some x∧F x y
 | _,_,_,_,.nil,e=>by simp at e
 | _,_,0,_,.cons r _,e=>by simp at e; subst e; exact ⟨_,rfl,r⟩
 | _,_,i + 1,y,.cons _ t,e=>by
  obtain ⟨u,h1,h2⟩:=jb5 (i:=i) t (by simpa using e)
  exact ⟨u,by simpa using h1,h2⟩
theorem jal {α β:Type} {F:α→β→Prop} {a:α} {b:β} {l₁:List α} {l₂:List β} (h:Paired F l₁ l₂) (r:F a b):Paired F (l₁ ++ [a]) (l₂ ++ [b]):=Paired.snoc h r
theorem jji {α:Type} {l:List α} {i:Nat} {x:α} (h:l[i]? = some x):l.drop i = x :: l.drop (i + 1):=by
 obtain ⟨h1,h2⟩:=List.getElem?_eq_some_iff.mp h
 rw [List.drop_eq_getElem_cons h1,h2]
theorem jaq {α:Type} {l:List α} {i:Nat} {x:α} (h:l[i]? = some x):l.take (i + 1) = l.take i ++ [x]:=by
 obtain ⟨h1,h2⟩:=List.getElem?_eq_some_iff.mp h
 rw [List.take_succ,h]
 rfl
inductive Dt where
 | non
 | bl (b:Bool)
 | int (i:Int)
 | str (x:Str)
 | tup (ds:List Dt)
 | lst (ds:List Dt)
mutual
def Rep (H:Hp):Dt→V→Prop
 | .non,v=>v = .non
 | .bl b,v=>v = .bl b
 | .int i,v=>v = .int i
 | .str x,v=>v = .str x
 | .tup ds,v=>∃ a vs,v = .ref a∧H a = some (.tup vs)∧Reps H ds vs
 | .lst ds,v=>∃ a vs,v = .ref a∧H a = some (.lst vs)∧Reps H ds vs
def Reps (H:Hp):List Dt→List V→Prop
 | [],vs=>vs = []
 | d :: ds,vs=>∃ v r,vs = v :: r∧Rep H d v∧Reps H ds r
end
mutual
theorem Rep.same {H H':Hp} (s:Same H H'):∀ (d:Dt) {v:V},Rep H d v→Rep H' d v
 | .non,_,h=>by rw [Rep] at *; exact h
 | .bl _,_,h=>by rw [Rep] at *; exact h
 | .int _,_,h=>by rw [Rep] at *; exact h
 | .str _,_,h=>by rw [Rep] at *; exact h
 | .tup ds,_,h=>by
  rw [Rep] at *
  obtain ⟨a,vs,e,q,r⟩:=h
  exact ⟨a,vs,e,s _ _ q,Reps.same s ds r⟩
 | .lst ds,_,h=>by
  rw [Rep] at *
  obtain ⟨a,vs,e,q,r⟩:=h
  exact ⟨a,vs,e,s _ _ q,Reps.same s ds r⟩
theorem Reps.same {H H':Hp} (s:Same H H'):∀ (ds:List Dt) {vs:List V},Reps H ds vs→Reps H' ds vs
 | [],_,h=>by rw [Reps] at *; exact h
 | d :: ds,_,h=>by
  rw [Reps] at *
  obtain ⟨v,r,e,h1,h2⟩:=h
  exact ⟨v,r,e,Rep.same s d h1,Reps.same s ds h2⟩
end
theorem Reps.len {H:Hp}:∀ {ds:List Dt} {vs:List V},Reps H ds vs→vs.length = ds.length
 | [],_,h=>by rw [Reps] at h; subst h; rfl
 | d :: ds,_,h=>by
  rw [Reps] at h
  obtain ⟨v,r,e,h1,h2⟩:=h
  rw [e,List.length_cons,List.length_cons,Reps.len h2]
theorem Reps.at {H:Hp}:∀ {ds:List Dt} {vs:List V} {i:Nat} {v:V},Reps H ds vs→vs[i]? = some v→∃ d,ds[i]? = some d∧Rep H d v
 | [],_,i,v,h,e=>by rw [Reps] at h; rw [h] at e; simp at e
 | d :: ds,_,i,v,h,e=>by
  rw [Reps] at h
  obtain ⟨w,r,e1,h1,h2⟩:=h
  subst e1
  cases i with
  | zero=>simp at e; subst e; exact ⟨d,rfl,h1⟩
  | succ i =>
   obtain ⟨d',q1,q2⟩:=Reps.at h2 (i:=i) (by simpa using e)
   exact ⟨d',by simpa using q1,q2⟩
def jda (p:Int × Int):Dt:=.tup [.int p.1,.int p.2]
theorem Pr.rep {H:Hp} {v:V} {p:Int × Int} (h:Pr H v p):Rep H (jda p) v:=by
 obtain ⟨t,e,q⟩:=h
 rw [jda,Rep]
 refine ⟨t,_,e,q,?_⟩
 rw [Reps]
 refine ⟨_,_,rfl,(by rw [Rep]),?_⟩
 rw [Reps]
 exact ⟨_,_,rfl,(by rw [Rep]),(by rw [Reps])⟩
theorem Prs.reps {H:Hp}:∀ {xs:List V} {ps:List (Int × Int)},Prs H xs ps→Reps H (ps.map jda) xs
 | _,_,.nil=>by rw [List.map_nil,Reps]
 | _,_,.cons r t=>by rw [List.map_cons,Reps]; exact ⟨_,_,rfl,r.rep,Prs.reps t⟩
end L2
namespace L2
open PySem PySem.Spec PyProof.Rows
def fMax:List V→Hp→VK→Prop:=fun vs H Q=>match vs with
 | [.int i,.int j]=>Q (.int (if i < j then j else i)) H
 | _=>False
theorem jmi {X:Cx} (hc:X.calm = true):jc0 X (.builtin "max") fMax:=(jlx hc).imp fun vs H Q h=>by
 unfold fMax at h
 split at h
 ·refine ⟨_,_,rfl,?_⟩
  first | exact h | (rename_i i j; by_cases c:i < j <;> simp_all)
 ·exact h.elim
def fInL (neg:Bool):R2:=fun x y H Q=>match y with
 | .ref p=>match jam H p with
  | some xs=>jd4 x = true∧xs.all jd4 = true∧Q (.bl (if neg = true then !inV x xs else inV x xs)) H
  | none=>False
 | _=>False
theorem jnu {K:PySem.W.Frag} {neg:Bool} {x y:V} {H:Hp} {Q:VK} (h:fInL neg x y H Q):rIn K neg x y H Q:=by
 unfold fInL at h
 split at h
 ·split at h
  ·rename_i xs e
   obtain ⟨h1,h2,h3⟩:=h
   exact ⟨_,xs,rfl,jdw e,h1,h2,h3⟩
  ·exact h.elim
 ·exact h.elim
theorem q_inL {X:Cx}:OpR X (compareOp .In) (fInL false):=jkz.imp fun _ _ _ _=>jnu
theorem jj4 {X:Cx}:OpR X (compareOp .NotIn) (fInL true):=jh4.imp fun _ _ _ _=>jnu
theorem flat_ints (ns:List Int):(ns.map V.int).all jd4 = true:=by
 rw [List.all_eq_true]
 intro v hv
 obtain ⟨n,_,e⟩:=List.mem_map.mp hv
 rw [← e]
 rfl
theorem jjd (n:Int) (ns:List Int):inV (.int n) (ns.map V.int) = decide (n ∈ ns):=by
 rw [Bool.eq_iff_iff,inV,List.any_eq_true,decide_eq_true_iff]
 constructor
 ·rintro ⟨v,hv,e⟩
  obtain ⟨m,hm,e2⟩:=List.mem_map.mp hv
  subst e2
  have:m = n:=by simpa [eqV] using e
  rw [← this]
  exact hm
 ·intro h
  exact ⟨.int n,List.mem_map_of_mem h,by simp [eqV]⟩
end L2
namespace L2
open PySem PySem.Spec PyProof.Rows
def rSortL:List V→Hp→VK→Prop:=fun vs H Q=>∃ (p:Addr) (ns:List Int),vs = [.ref p]∧H p = some (.lst (ns.map V.int))∧ns.length < 64 ∧
 ∀ (l:Addr) (ms:List Int),H l = none→ms.Perm ns→ms.Pairwise (· ≤ ·)→Q (.ref l) (upd H l (.lst (ms.map V.int)))
theorem jfi {X:Cx}:jc0 X (.builtin "sorted") rSortL:=by
 intro pins s σ H xs us Q I r h
 obtain ⟨p,ns,rfl,e,h64,q⟩:=h
 obtain ⟨u,rfl,rx⟩:=je1 r
 cases rx
 obtain ⟨its,r',pl,hz⟩:=I.list (SqL.of e)
 have hI:=jch r'
 have hlen:=r'.length
 rw [List.length_map] at hlen
 refine sorted_ints pl.isList hI (by omega) fun out ms a1 a2 a3=>?_
 obtain ⟨c,hc⟩:=sortedAll_at s.heap its out
 have hml:=a2.length_eq
 have hz2:=jhf
 refine ⟨.ref (s.heap.objs.size + 1),_,I.laid (t':=s.toks) (fun _ _=>sortedAll_old) (Nat.le_succ _) (show jbn X.prog X.w _ _ _ (.lst (ms.map V.int)) from ⟨?_,out.toList,c,je0 a1,?_⟩),rfl,q _ ms (I.hok.fresh (Nat.le_succ _)) a2 a3⟩
 ·rw [List.length_map,hml]; exact Nat.le_trans (Nat.le_of_lt h64) (by decide)
 ·rw [hc]
end L2
namespace L2
open PySem PySem.Spec PyProof.Rows
mutual
def eqP:Dt→Dt→Bool
 | .non,.non=>true
 | .bl a,.bl b=>a == b
 | .bl a,.int b=>(if a then 1 else 0) == b
 | .int a,.bl b=>a == (if b then 1 else 0)
 | .int a,.int b=>a == b
 | .str a,.str b=>a == b
 | .tup a,.tup b=>eqPs a b
 | .lst a,.lst b=>eqPs a b
 | _,_=>false
def eqPs:List Dt→List Dt→Bool
 | [],[]=>true
 | a :: r,b :: t=>eqP a b && eqPs r t
 | _,_=>false
end
mutual
def depP:Dt→Nat
 | .tup a=>jc2 a + 1
 | .lst a=>jc2 a + 1
 | _=>0
def jc2:List Dt→Nat
 | []=>0
 | a :: r=>max (depP a) (jc2 r)
end
def jdm (a b:List Dt) (j:Nat):Bool:=match a[j]?,b[j]? with
 | some x,some y=>eqP x y
 | _,_=>false
theorem jcu:∀ {a b:List Dt},a.length ≠ b.length→eqPs a b = false
 | [],[],h=>absurd rfl h
 | [],_ :: _,_=>by simp [eqPs]
 | _ :: _,[],_=>by simp [eqPs]
 | x :: a,y :: b,h=>by
  rw [eqPs,jcu (by simpa using h),Bool.and_false]
theorem jkq:∀ (n:Nat) (f:Nat→Bool),(List.range (n + 1)).all f = (f 0 && (List.range n).all fun j=>f (j + 1)):=fun n f=>by
 rw [List.range_succ_eq_map,List.all_cons,List.all_map]
 rfl
theorem jc5:∀ {a b:List Dt},a.length = b.length→eqPs a b = (List.range a.length).all (jdm a b)
 | [],[],_=>by rw [eqPs]; rfl
 | [],_ :: _,h=>by simp at h
 | _ :: _,[],h=>by simp at h
 | x :: a,y :: b,h=>by
  rw [eqPs,jc5 (a:=a) (b:=b) (by simpa using h),List.length_cons,jkq]
  rfl
theorem jdz:∀ {a:List Dt} {j:Nat} {d:Dt},a[j]? = some d→depP d ≤ jc2 a
 | [],_,_,h=>by simp at h
 | x :: a,0,d,h=>by
  simp at h; subst h
  rw [jc2]; omega
 | x :: a,j + 1,d,h=>by
  have:=jdz (a:=a) (j:=j) (by simpa using h)
  rw [jc2]; omega
def jc8:Dt→Option V
 | .non=>some .non
 | .bl b=>some (.bl b)
 | .int i=>some (.int i)
 | .str x=>some (.str x)
 | _=>none
theorem jn3 {d e:Dt} {x y:V} (hd:jc8 d = some x) (he:jc8 e = some y):eqP d e = eqV x y:=by
 cases d <;> cases e <;> simp only [jc8,Option.some.injEq,reduceCtorEq] at hd he <;> subst hd <;> subst he <;> simp [eqP,eqV]
theorem jft {H:Hp} {d:Dt} {x v:V} (hd:jc8 d = some x) (h:Rep H d v):v = x∧jd4 x = true:=by
 cases d <;> simp only [jc8,Option.some.injEq,reduceCtorEq] at hd <;> subst hd <;> rw [Rep] at h <;> exact ⟨h,rfl⟩
section
variable {X:Cx} {pins:List (Addr × Obj)} {σ:St} {H:Hp} {s:Shared}
theorem Inv.tupE (I:Inv X pins σ H s) {a:Addr} {vs:List V} (e:H a = some (.tup vs)):∃ its:List Value,Vals vs its∧s.heap.IsTuple a its.toArray:=by
 obtain ⟨its,r,p,_⟩:=I.tuple (SqT.of e)
 exact ⟨its,r,p⟩
theorem Inv.lstE (I:Inv X pins σ H s) {a:Addr} {vs:List V} (e:H a = some (.lst vs)):∃ its:List Value,Vals vs its∧s.heap.IsList a its.toArray:=by
 obtain ⟨its,r,p,_⟩:=I.list (SqL.of e)
 exact ⟨its,r,p.isList⟩
mutual
theorem jbg:∀ d:Dt,eqP d d = true
 | .non=>by simp [eqP]
 | .bl _=>by simp [eqP]
 | .int _=>by simp [eqP]
 | .str _=>by simp [eqP]
 | .tup a=>by rw [eqP]; exact jen a
 | .lst a=>by rw [eqP]; exact jen a
theorem jen:∀ a:List Dt,eqPs a a = true
 | []=>by rw [eqPs]
 | d :: r=>by rw [eqPs,jbg d,jen r]; rfl
end
mutual
theorem Rep.inj {H:Hp}:∀ {d e:Dt} {v:V},Rep H d v→Rep H e v→d = e
 | .non,e,v,h1,h2=>by rw [Rep] at h1; subst h1; cases e <;> simp [Rep] at h2 ⊢
 | .bl _,e,v,h1,h2=>by rw [Rep] at h1; subst h1; cases e <;> simp [Rep] at h2 ⊢; exact h2
 | .int _,e,v,h1,h2=>by rw [Rep] at h1; subst h1; cases e <;> simp [Rep] at h2 ⊢; exact h2
 | .str _,e,v,h1,h2=>by rw [Rep] at h1; subst h1; cases e <;> simp [Rep] at h2 ⊢; exact h2
 | .tup ds,e,v,h1,h2=>by
  rw [Rep] at h1
  obtain ⟨a,vs,rfl,q,r⟩:=h1
  cases e with
  | tup es =>
   rw [Rep] at h2
   obtain ⟨a',vs',e',q',r'⟩:=h2
   cases e'
   rw [q] at q'; cases q'
   rw [Reps.inj r r']
  | lst es =>
   rw [Rep] at h2
   obtain ⟨a',vs',e',q',r'⟩:=h2
   cases e'
   rw [q] at q'; cases q'
  | non=>rw [Rep] at h2; cases h2
  | bl _=>rw [Rep] at h2; cases h2
  | int _=>rw [Rep] at h2; cases h2
  | str _=>rw [Rep] at h2; cases h2
 | .lst ds,e,v,h1,h2=>by
  rw [Rep] at h1
  obtain ⟨a,vs,rfl,q,r⟩:=h1
  cases e with
  | lst es =>
   rw [Rep] at h2
   obtain ⟨a',vs',e',q',r'⟩:=h2
   cases e'
   rw [q] at q'; cases q'
   rw [Reps.inj r r']
  | tup es =>
   rw [Rep] at h2
   obtain ⟨a',vs',e',q',r'⟩:=h2
   cases e'
   rw [q] at q'; cases q'
  | non=>rw [Rep] at h2; cases h2
  | bl _=>rw [Rep] at h2; cases h2
  | int _=>rw [Rep] at h2; cases h2
  | str _=>rw [Rep] at h2; cases h2
theorem Reps.inj {H:Hp}:∀ {ds es:List Dt} {vs:List V},Reps H ds vs→Reps H es vs→ds = es
 | [],es,vs,h1,h2=>by
  rw [Reps] at h1; subst h1
  cases es with
  | nil=>rfl
  | cons e es=>rw [Reps] at h2; obtain ⟨_,_,z,_⟩:=h2; cases z
 | d :: ds,es,vs,h1,h2=>by
  rw [Reps] at h1
  obtain ⟨v,r,rfl,q1,q2⟩:=h1
  cases es with
  | nil=>rw [Reps] at h2; cases h2
  | cons e es =>
   rw [Reps] at h2
   obtain ⟨v',r',z,p1,p2⟩:=h2
   cases z
   rw [Rep.inj q1 p1,Reps.inj q2 p2]
end
theorem jdq {d e:Dt} (hd:jc8 d = none) {y:V} (he:jc8 e = some y):eqP d e = false∧eqP e d = false:=by
 cases d <;> cases e <;> simp only [jc8,Option.some.injEq,reduceCtorEq] at hd he <;> simp [eqP]
theorem jo1:∀ (n:Nat) {A:Around} (I:Inv X pins σ H s) {d e:Dt} {x y:V} {u v:Value},depP d ≤ n→A.units + n < cLine→Rep H d x→Rep H e y→RelV x u→RelV y v→SeqAt.EqAt A s u v (eqP d e):=by
 intro n
 induction n with
 | zero =>
  intro A I d e x y u v hn hu rd re rx ry
  have hf:∃ z,jc8 d = some z:=by
   cases d <;> simp only [depP,jc8] at hn ⊢ <;> first | exact ⟨_,rfl⟩ | omega
  obtain ⟨z,hz⟩:=hf
  obtain ⟨rfl,fz⟩:=jft hz rd
  cases he:jc8 e with
  | some y' =>
   obtain ⟨rfl,fy⟩:=jft he re
   rw [jn3 hz he]
   exact jo0 rx ry fz fy
  | none =>
   rw [(jdq he hz).2]
   have hu0:A.units < cLine:=by omega
   cases e <;> simp only [jc8,reduceCtorEq] at he
   ·rw [Rep] at re
    obtain ⟨a,vs,rfl,q,_⟩:=re
    cases ry
    obtain ⟨its,_,p⟩:=I.tupE q
    cases d <;> simp only [jc8,Option.some.injEq,reduceCtorEq] at hz <;> subst hz
    ·cases rx; exact SeqAt.EqAt.none_tuple p hu0
    ·cases rx; exact SeqAt.EqAt.bool_tuple _ p hu0
    ·obtain ⟨t,rfl⟩:=rx; exact SeqAt.EqAt.int_tuple _ _ p hu0
    ·obtain ⟨t,rfl⟩:=rx; exact SeqAt.EqAt.str_tuple _ _ p hu0
   ·rw [Rep] at re
    obtain ⟨a,vs,rfl,q,_⟩:=re
    cases ry
    obtain ⟨its,_,p⟩:=I.lstE q
    cases d <;> simp only [jc8,Option.some.injEq,reduceCtorEq] at hz <;> subst hz
    ·cases rx; exact SeqAt.EqAt.none_list p hu0
    ·cases rx; exact SeqAt.EqAt.bool_list _ p hu0
    ·obtain ⟨t,rfl⟩:=rx; exact SeqAt.EqAt.int_list _ _ p hu0
    ·obtain ⟨t,rfl⟩:=rx; exact SeqAt.EqAt.str_list _ _ p hu0
 | succ n ih =>
  intro A I d e x y u v hn hu rd re rx ry
  have hu0:A.units < cLine:=by omega
  have items:∀ {ds es:List Dt} {vs ws:List V} {its its2:List Value},jc2 ds ≤ n→Reps H ds vs→Reps H es ws→Vals vs its→Vals ws its2 →
    ∀ j (h1:j < its.toArray.size) (h2:j < its2.toArray.size),SeqAt.EqAt A.in1 s its.toArray[j] its2.toArray[j] (jdm ds es j):=by
   intro ds es vs ws its its2 hdp r1 r2 w1 w2 j h1 h2
   rw [List.size_toArray] at h1 h2
   have l1:=w1.length
   have l2:=w2.length
   obtain ⟨u',e1,q1⟩:=w1.get (i:=j) (x:=vs[j]'(by omega)) (List.getElem?_eq_getElem _)
   obtain ⟨v',e2,q2⟩:=w2.get (i:=j) (x:=ws[j]'(by omega)) (List.getElem?_eq_getElem _)
   obtain ⟨d',f1,g1⟩:=r1.at (i:=j) (List.getElem?_eq_getElem (by omega))
   obtain ⟨e',f2,g2⟩:=r2.at (i:=j) (List.getElem?_eq_getElem (by omega))
   rw [List.getElem?_eq_getElem h1] at e1
   rw [List.getElem?_eq_getElem h2] at e2
   cases e1; cases e2
   have hj:jdm ds es j = eqP d' e':=by unfold jdm; rw [f1,f2]
   rw [hj]
   have:=jdz f1
   exact ih (A:=A.in1) I (by omega) (by show A.units + 1 + n < cLine; omega) g1 g2 q1 q2
  cases hf:jc8 d with
  | some z =>
   refine ih I ?_ (by omega) rd re rx ry
   cases d <;> simp only [jc8,reduceCtorEq] at hf <;> simp [depP]
  | none =>
   cases he:jc8 e with
   | some y' =>
    rw [(jdq hf he).1]
    obtain ⟨rfl,fy⟩:=jft he re
    cases d <;> simp only [jc8,reduceCtorEq] at hf
    ·rw [Rep] at rd
     obtain ⟨a,vs,rfl,q,_⟩:=rd
     cases rx
     obtain ⟨its,_,p⟩:=I.tupE q
     cases e <;> simp only [jc8,Option.some.injEq,reduceCtorEq] at he <;> subst he
     ·cases ry; exact SeqAt.EqAt.tuple_none p hu0
     ·cases ry; exact SeqAt.EqAt.tuple_bool _ p hu0
     ·obtain ⟨t,rfl⟩:=ry; exact SeqAt.EqAt.tuple_int _ _ p hu0
     ·obtain ⟨t,rfl⟩:=ry; exact SeqAt.EqAt.tuple_str _ _ p hu0
    ·rw [Rep] at rd
     obtain ⟨a,vs,rfl,q,_⟩:=rd
     cases rx
     obtain ⟨its,_,p⟩:=I.lstE q
     cases e <;> simp only [jc8,Option.some.injEq,reduceCtorEq] at he <;> subst he
     ·cases ry; exact SeqAt.EqAt.list_none p hu0
     ·cases ry; exact SeqAt.EqAt.list_bool _ p hu0
     ·obtain ⟨t,rfl⟩:=ry; exact SeqAt.EqAt.list_int _ _ p hu0
     ·obtain ⟨t,rfl⟩:=ry; exact SeqAt.EqAt.list_str _ _ p hu0
   | none =>
    cases d <;> simp only [jc8,reduceCtorEq] at hf <;> cases e <;> simp only [jc8,reduceCtorEq] at he
    ·rename_i ds es
     have hn':jc2 ds ≤ n:=by rw [depP] at hn; omega
     have rd0:=rd
     have re0:=re
     rw [Rep] at rd
     rw [Rep] at re
     obtain ⟨a,vs,rfl,q,r1⟩:=rd
     obtain ⟨b,ws,rfl,q2,r2⟩:=re
     cases rx; cases ry
     by_cases hab:a = b
     ·subst hab
      rw [Rep.inj rd0 re0,jbg]
      exact SeqAt.EqAt.same _
     ·obtain ⟨its,w1,p1⟩:=I.tupE q
      obtain ⟨its2,w2,p2⟩:=I.tupE q2
      have k:=SeqAt.RcAt.tuples p1 p2 hu0 (items hn' r1 r2 w1 w2)
      have e0:((List.range (min its.toArray.size its2.toArray.size)).all (jdm ds es) && its.toArray.size == its2.toArray.size) = eqP (.tup ds) (.tup es):=by
       have l1:=w1.length
       have l2:=w2.length
       have l3:=r1.len
       have l4:=r2.len
       rw [eqP,List.size_toArray,List.size_toArray]
       by_cases hl:ds.length = es.length
       ·rw [jc5 hl,← l1,← l2,l3,l4,hl,Nat.min_self]
        simp
       ·rw [jcu hl]
        have:(its.length == its2.length) = false:=by
         rw [beq_eq_false_iff_ne]; omega
        rw [this,Bool.and_false]
      rw [e0] at k
      exact .of_refs hab k
    ·rename_i ds es
     rw [Rep] at rd
     rw [Rep] at re
     obtain ⟨a,vs,rfl,q,r1⟩:=rd
     obtain ⟨b,ws,rfl,q2,r2⟩:=re
     cases rx; cases ry
     obtain ⟨its,w1,p1⟩:=I.tupE q
     obtain ⟨its2,w2,p2⟩:=I.lstE q2
     have:eqP (.tup ds) (.lst es) = false:=by simp [eqP]
     rw [this]
     exact SeqAt.EqAt.tuple_list p1 p2 hu0
    ·rename_i ds es
     rw [Rep] at rd
     rw [Rep] at re
     obtain ⟨a,vs,rfl,q,r1⟩:=rd
     obtain ⟨b,ws,rfl,q2,r2⟩:=re
     cases rx; cases ry
     obtain ⟨its,w1,p1⟩:=I.lstE q
     obtain ⟨its2,w2,p2⟩:=I.tupE q2
     have:eqP (.lst ds) (.tup es) = false:=by simp [eqP]
     rw [this]
     exact SeqAt.EqAt.list_tuple p1 p2 hu0
    ·rename_i ds es
     have hn':jc2 ds ≤ n:=by rw [depP] at hn; omega
     have rd0:=rd
     have re0:=re
     rw [Rep] at rd
     rw [Rep] at re
     obtain ⟨a,vs,rfl,q,r1⟩:=rd
     obtain ⟨b,ws,rfl,q2,r2⟩:=re
     cases rx; cases ry
     by_cases hab:a = b
     ·subst hab
      rw [Rep.inj rd0 re0,jbg]
      exact SeqAt.EqAt.same _
     ·obtain ⟨its,w1,p1⟩:=I.lstE q
      obtain ⟨its2,w2,p2⟩:=I.lstE q2
      have l1:=w1.length
      have l2:=w2.length
      have l3:=r1.len
      have l4:=r2.len
      refine .of_refs hab ?_
      rw [eqP]
      by_cases hl:ds.length = es.length
      ·rw [jc5 hl]
       have k:=SeqAt.RcAt.lists p1 p2 (by rw [List.size_toArray,List.size_toArray]; omega) hu0 (items hn' r1 r2 w1 w2)
       rw [List.size_toArray,← l1,l3] at k
       exact k
      ·rw [jcu hl]
       exact SeqAt.RcAt.lists_lengths p1 p2 (by rw [List.size_toArray,List.size_toArray]; simp; omega) hu0
end
end L2
namespace L2
open PySem PySem.Spec PyProof.Rows
section
variable {prog:Program} {w:World} {A:Around} {R:Result→Shared→Prop} {I:Addr} {fp wr:List Addr} {n:Nat} {P:Nat→Value→Prop} {St:Nat→Heap→Prop}
def Best (val:Nat→Int) (n:Nat) (m:Int):Prop:=(∃ i,i < n∧m = val i)∧∀ i,i < n→val i ≤ m
theorem Best.keep {val:Nat→Int} {j:Nat} {m:Int} (h:Best val j m) (hb:¬ val j > m):Best val (j + 1) m :=
 ⟨let ⟨i,hi,e⟩:=h.1; ⟨i,Nat.lt_succ_of_lt hi,e⟩,fun i hi=>by
  rcases Nat.lt_succ_iff_lt_or_eq.mp hi with z | z
  ·exact h.2 i z
  ·rw [z]; omega⟩
end
section
variable {X:Cx}
def tCBK (r:List V→List V→Hp→VK→Prop) (t tk:TA):TE:=fun σ H Q=>t σ H fun vs H1=>tk σ H1 fun zs H2=>r vs zs H2 Q
end
end L2
namespace L2
open PySem PySem.Spec PyProof.Rows
section
variable {X:Cx} {pins:List (Addr × Obj)} {σ:St} {H:Hp} {s:Shared}
theorem jg5 (n:Nat) {A:Around} (I:Inv X pins σ H s) {ds es:List Dt} {vs ws:List V} {its its2:List Value} (hdp:jc2 ds ≤ n) (hu:A.units + n < cLine) (r1:Reps H ds vs) (r2:Reps H es ws) (w1:Vals vs its) (w2:Vals ws its2) :
  ∀ j (h1:j < its.toArray.size) (h2:j < its2.toArray.size),SeqAt.EqAt A s its.toArray[j] its2.toArray[j] (jdm ds es j):=by
 intro j h1 h2
 rw [List.size_toArray] at h1 h2
 have l1:=w1.length
 have l2:=w2.length
 obtain ⟨u',e1,q1⟩:=w1.get (i:=j) (x:=vs[j]'(by omega)) (List.getElem?_eq_getElem _)
 obtain ⟨v',e2,q2⟩:=w2.get (i:=j) (x:=ws[j]'(by omega)) (List.getElem?_eq_getElem _)
 obtain ⟨d',f1,g1⟩:=r1.at (i:=j) (List.getElem?_eq_getElem (by omega))
 obtain ⟨e',f2,g2⟩:=r2.at (i:=j) (List.getElem?_eq_getElem (by omega))
 rw [List.getElem?_eq_getElem h1] at e1
 rw [List.getElem?_eq_getElem h2] at e2
 cases e1; cases e2
 have hj:jdm ds es j = eqP d' e':=by unfold jdm; rw [f1,f2]
 rw [hj]
 have:=jdz f1
 exact jo1 n I (by omega) hu g1 g2 q1 q2
theorem jf3 {ds es:List Dt} {vs ws:List V} {its its2:List Value} (r1:Reps H ds vs) (r2:Reps H es ws) (w1:Vals vs its) (w2:Vals ws its2) :
  ((List.range (min its.toArray.size its2.toArray.size)).all (jdm ds es) && its.toArray.size == its2.toArray.size) = eqPs ds es:=by
 have l1:=w1.length
 have l2:=w2.length
 have l3:=r1.len
 have l4:=r2.len
 rw [List.size_toArray,List.size_toArray]
 by_cases hl:ds.length = es.length
 ·rw [jc5 hl,← l1,← l2,l3,l4,hl,Nat.min_self]
  simp
 ·rw [jcu hl]
  have:(its.length == its2.length) = false:=by
   rw [beq_eq_false_iff_ne]; omega
  rw [this,Bool.and_false]
def rEqD (neg:Bool):R2:=fun x y H Q=>∃ d e,Rep H d x∧Rep H e y∧depP d ≤ 20∧((∃ ds es,d = .lst ds∧e = .lst es) ∨ ∃ ds es,d = .tup ds∧e = .tup es)∧Q (.bl (if neg = true then !eqP d e else eqP d e)) H
theorem jj6 (hu:X.A.units + 64 < cLine):OpR X (compareOp .Eq) (rEqD false):=by
 intro pins s σ H x y v u Q I rx ry h
 obtain ⟨d,e,rd,re,hd,hk,q⟩:=h
 have hu0:X.A.units < cLine:=by omega
 rcases hk with ⟨ds,es,rfl,rfl⟩ | ⟨ds,es,rfl,rfl⟩
 ·have hn':jc2 ds ≤ 20:=by rw [depP] at hd; omega
  rw [Rep] at rd re
  obtain ⟨a,vs,rfl,q1,r1⟩:=rd
  obtain ⟨b,ws,rfl,q2,r2⟩:=re
  cases rx; cases ry
  obtain ⟨its,w1,p1⟩:=I.lstE q1
  obtain ⟨its2,w2,p2⟩:=I.lstE q2
  have l1:=w1.length
  have l2:=w2.length
  have l3:=r1.len
  have l4:=r2.len
  by_cases hl:ds.length = es.length
  ·refine SeqAt.RcAt.lists (e:=jdm ds es) p1 p2 (by rw [List.size_toArray,List.size_toArray]; omega) hu0 (jg5 20 I hn' (by show X.A.units + 1 + 20 < cLine; omega) r1 r2 w1 w2) _ _ _ _ ⟨.bl _,H,I,rfl,?_⟩
   rw [List.size_toArray,← l1,l3,← jc5 hl]
   rw [eqP] at q
   exact q
  ·refine SeqAt.RcAt.lists_lengths p1 p2 (by rw [List.size_toArray,List.size_toArray]; simp; omega) hu0 _ _ _ _ ⟨.bl _,H,I,rfl,?_⟩
   rw [eqP,jcu hl] at q
   exact q
 ·have hn':jc2 ds ≤ 20:=by rw [depP] at hd; omega
  rw [Rep] at rd re
  obtain ⟨a,vs,rfl,q1,r1⟩:=rd
  obtain ⟨b,ws,rfl,q2,r2⟩:=re
  cases rx; cases ry
  obtain ⟨its,w1,p1⟩:=I.tupE q1
  obtain ⟨its2,w2,p2⟩:=I.tupE q2
  refine SeqAt.RcAt.tuples (e:=jdm ds es) p1 p2 hu0 (jg5 20 I hn' (by show X.A.units + 1 + 20 < cLine; omega) r1 r2 w1 w2) _ _ _ _ ⟨.bl _,H,I,rfl,?_⟩
  rw [jf3 r1 r2 w1 w2]
  rw [eqP] at q
  exact q
theorem jco (hu:X.A.units + 64 < cLine):OpR X (compareOp .NotEq) (rEqD true):=by
 intro pins s σ H x y v u Q I rx ry h
 obtain ⟨d,e,rd,re,hd,hk,q⟩:=h
 have hu0:X.A.units < cLine:=by omega
 rcases hk with ⟨ds,es,rfl,rfl⟩ | ⟨ds,es,rfl,rfl⟩
 ·have hn':jc2 ds ≤ 20:=by rw [depP] at hd; omega
  rw [Rep] at rd re
  obtain ⟨a,vs,rfl,q1,r1⟩:=rd
  obtain ⟨b,ws,rfl,q2,r2⟩:=re
  cases rx; cases ry
  obtain ⟨its,w1,p1⟩:=I.lstE q1
  obtain ⟨its2,w2,p2⟩:=I.lstE q2
  have l1:=w1.length
  have l2:=w2.length
  have l3:=r1.len
  have l4:=r2.len
  by_cases hl:ds.length = es.length
  ·refine SeqAt.RcNeAt.lists (e:=jdm ds es) p1 p2 (by rw [List.size_toArray,List.size_toArray]; omega) hu0 (jg5 20 I hn' (by show X.A.units + 1 + 20 < cLine; omega) r1 r2 w1 w2) _ _ _ _ ⟨.bl _,H,I,rfl,?_⟩
   rw [List.size_toArray,← l1,l3,← jc5 hl]
   rw [eqP] at q
   exact q
  ·refine SeqAt.RcNeAt.lists_lengths p1 p2 (by rw [List.size_toArray,List.size_toArray]; simp; omega) hu0 _ _ _ _ ⟨.bl _,H,I,rfl,?_⟩
   rw [eqP,jcu hl] at q
   exact q
 ·have hn':jc2 ds ≤ 20:=by rw [depP] at hd; omega
  rw [Rep] at rd re
  obtain ⟨a,vs,rfl,q1,r1⟩:=rd
  obtain ⟨b,ws,rfl,q2,r2⟩:=re
  cases rx; cases ry
  obtain ⟨its,w1,p1⟩:=I.tupE q1
  obtain ⟨its2,w2,p2⟩:=I.tupE q2
  refine SeqAt.RcNeAt.tuples (e:=jdm ds es) p1 p2 hu0 (jg5 20 I hn' (by show X.A.units + 1 + 20 < cLine; omega) r1 r2 w1 w2) _ _ _ _ ⟨.bl _,H,I,rfl,?_⟩
  rw [jf3 r1 r2 w1 w2]
  rw [eqP] at q
  exact q
theorem RelV.inj' {x y:V} {u:Value} (h1:RelV x u) (h2:RelV y u):x = y:=Option.some.inj (h1.abs.symm.trans h2.abs)
open Classical in
def eqW (H:Hp) (d:Dt) (u:Value):Bool:=if h:∃ c,∃ x,RelV x u∧Rep H c x then eqP h.choose d else false
theorem jny {H:Hp} {d c:Dt} {x:V} {u:Value} (r:RelV x u) (p:Rep H c x):eqW H d u = eqP c d:=by
 unfold eqW
 have h:∃ c,∃ x,RelV x u∧Rep H c x:=⟨c,x,r,p⟩
 rw [dif_pos h]
 obtain ⟨y,r2,p2⟩:=h.choose_spec
 have:=RelV.inj' r r2
 subst this
 rw [Rep.inj p2 p]
theorem jm2 {H:Hp} {d:Dt}:∀ {cs:List Dt} {xs:List V} {us:List Value},Reps H cs xs→Vals xs us→us.any (eqW H d) = cs.any fun c=>eqP c d
 | [],_,_,h,r=>by
  rw [Reps] at h; subst h
  cases r
  rfl
 | c :: cs,_,_,h,r=>by
  rw [Reps] at h
  obtain ⟨v,t,rfl,h1,h2⟩:=h
  cases r with
  | cons r1 r2=>rw [List.any_cons,List.any_cons,jny r1 h1,jm2 h2 r2]
def rInD (neg:Bool):R2:=fun x y H Q=>∃ (d:Dt) (p:Addr) (xs:List V) (cs:List Dt),Rep H d x∧y = .ref p∧H p = some (.lst xs)∧Reps H cs xs∧jc2 cs ≤ 20∧Q (.bl (if neg = true then !cs.any (fun c=>eqP c d) else cs.any fun c=>eqP c d)) H
theorem jmv (hu:X.A.units + 64 < cLine) (I:Inv X pins σ H s) {d:Dt} {x:V} {v:Value} {cs:List Dt} {xs:List V} {its:List Value} (rd:Rep H d x) (rx:RelV x v) (rc:Reps H cs xs) (r:Vals xs its) (hd:jc2 cs ≤ 20) :
  ∀ y,y ∈ its.toArray→SeqAt.EqAt X.A.in1 s y v (eqW H d y):=by
 intro y hy
 have hy':y ∈ its:=by simpa using hy
 obtain ⟨j,hj,e⟩:=List.mem_iff_getElem.mp hy'
 have l1:=r.length
 obtain ⟨u',e1,q1⟩:=r.get (i:=j) (x:=xs[j]'(by omega)) (List.getElem?_eq_getElem _)
 obtain ⟨c,f1,g1⟩:=rc.at (i:=j) (List.getElem?_eq_getElem (by omega))
 rw [List.getElem?_eq_getElem hj] at e1
 cases e1
 rw [← e,jny q1 g1]
 have:=jdz f1
 exact jo1 20 I (by omega) (by show X.A.units + 1 + 20 < cLine; omega) g1 rd q1 rx
theorem jj5 (hu:X.A.units + 64 < cLine):OpR X (compareOp .In) (rInD false):=by
 intro pins s σ H x y v u Q I rx ry h
 obtain ⟨d,p,xs,cs,rd,rfl,e,rc,hd,q⟩:=h
 cases ry
 obtain ⟨its,r,pl⟩:=I.lstE e
 refine SeqAt.in_listAt (eqW H d) pl (jmv hu I rd rx rc r hd) ⟨.bl _,H,I,rfl,?_⟩
 rw [show its.toArray.any (eqW H d) = its.any (eqW H d) by simp,jm2 rc r]
 exact q
end
end L2
namespace L2
open PySem PySem.Spec PyProof.Rows
section
variable {X:Cx} {o i e f value:Expr} {td ty tv tx:TE} {pos pos' apos cpos:Pos}
def jkp (td ty tv:TE):TS:=fun D σ H=>tv σ H fun v H1=>td σ H1 fun x H2=>ty σ H2 fun y H3=>match x,y with
 | .ref a,.int n=>match H3 a with
  | some (.dK kvs)=>kvs.length < sizeLine∧D.nx σ (upd H3 a (.dK (putK kvs (Sum.inl n:Key) v)))
  | _=>False
 | _,_=>False
theorem dput_r {x y:V} {H3:Hp} {R:List (Key × V)→Addr→Int→Prop} (h:match x,y with
 | .ref a,.int n=>match H3 a with
  | some (.dK kvs)=>R kvs a n
  | _=>False
 | _,_=>False):∃ a n kvs,x = .ref a∧y = .int n∧H3 a = some (.dK kvs)∧R kvs a n:=by
 split at h
 ·split at h
  ·rename_i e; exact ⟨_,_,_,rfl,rfl,e,h⟩
  ·exact h.elim
 ·exact h.elim
theorem q_dput (hu:X.A.units + 1 < cLine) (ho:PE X o td) (hi:PE X i ty) (hv:PE X value tv) (hs:swapsWith value (some (.Subscript o i pos')) pos.line X.env = pure false:=by rfl) :
  PS X (.Assign [.Subscript o i pos'] value pos) (jkp td ty tv):=by
 intro pins s σ H D I h
 refine wpAny_Assign_Subscript (thn (hv pins s σ H _ I h) fun r s1 ⟨v,H1,I1,rv,q1⟩=>thn (ho pins s1 σ H1 _ I1 q1) fun u s2 ⟨x,H2,I2,rx,q2⟩=>thn (hi pins s2 σ H2 _ I2 q2) fun iv s3 ⟨y,H3,I3,ry,q3⟩=>?_) hs
 obtain ⟨a,n,kvs,rfl,rfl,ea,q4,q5⟩:=dput_r (R:=fun kvs a n=>kvs.length < sizeLine∧D.nx σ (upd H3 a (.dK (putK kvs (Sum.inl n:Key) v)))) q3
 obtain rfl:u = Value.ref a:=rx
 exact jlu hu I3 (DPut.k (k:=Sum.inl n) ea q4) ry rv fun s4 I4=>⟨σ,_,I4,q5⟩
def jnv (td ty tx:TE):TE:=fun σ H Q=>td σ H fun x H1=>match x with
 | .ref a=>(∃ kvs,H1 a = some (.dK kvs))∧ty σ H1 fun y H2=>tx σ H2 fun z H3=>match y with
  | .int n=>match H3 a with
   | some (.dK kvs)=>Q ((valV kvs (Sum.inl n:Key)).getD z) H3
   | _=>False
  | _=>False
 | _=>False
def fCat:R2:=fun x y H Q=>match x,y with
 | .ref l,.ref b=>match H l,H b with
  | some (.lst xs),some (.lst zs)=>xs.length + zs.length ≤ sizeLine∧∀ p,H p = none→Q (.ref p) (upd H p (.lst (xs ++ zs)))
  | _,_=>False
 | _,_=>False
theorem jmk:OpR X (binaryOp .Add) fCat:=op_cat.imp fun x y H Q h=>by
 unfold fCat at h
 split at h
 ·split at h
  ·rename_i e1 e2; exact ⟨_,_,_,_,rfl,rfl,e1,e2,h.1,h.2⟩
  ·exact h.elim
 ·exact h.elim
def jnw:V→List V→Hp→VK→Prop:=fun x vs H Q=>match x,vs with
 | .ref l,[]=>match H l with
  | some (.lst _)=>Q .non (upd H l (.lst []))
  | _=>False
 | _,_=>False
def fBM0 (r:V→List V→Hp→VK→Prop) (to:TE):TE:=fun σ H Q=>to σ H fun x H1=>(∃ a xs,x = .ref a∧H1 a = some (.lst xs))∧r x [] H1 Q
def fSlT:V→Option Int→Option Int→Hp→VK→Prop:=fun x lo hi H Q=>match x with
 | .ref a=>match H a with
  | some (.tup xs)=>¬ (HT.sIx xs.length 0 lo = 0∧HT.sIx xs.length xs.length hi = xs.length)∧∀ p,H p = none→Q (.ref p) (upd H p (.tup (cutV xs lo hi)))
  | _=>False
 | _=>False
def jn1:List V→Hp→VK→Prop:=fun vs H Q=>match vs with
 | [.bl k]=>Q (.int (if k = true then 1 else 0)) H
 | [.int i]=>Q (.int i) H
 | _=>False
theorem q_int1:jc0 X (.type "int") jn1:=jly.imp fun vs H Q h=>by
 unfold jn1 at h
 split at h
 ·exact .inr ⟨_,rfl,h⟩
 ·exact .inl ⟨_,rfl,h⟩
 ·exact h.elim
end
end L2
namespace L2
open PySem PySem.Spec PyProof.Rows
section
variable {prog:Program} {w:World} {A:Around} {E:Value→Shared→Prop}
end
section
variable {X:Cx} {es:List Expr} {pos:Pos}
def fGLst (n:Nat) (t:TGs):TG:=fun v σ H Q=>match v with
 | .ref a=>match H a with
  | some (.lst xs)=>xs.length = n∧t xs σ H Q
  | _=>False
 | _=>False
end
end L2
namespace L2
open PySem PySem.Spec PyProof.Rows
def TrD (h B:Heap) (x:Addr) (cl:Value) (dd:Option Addr) (fl:Value):Prop :=
 ∃ ox ws T oT ts,h.get? x = some ox∧ox.cls = cl∧ox.dict = dd∧ox.data = .fields ws∧ws[1]? = some (.ref T)∧B.get? T = none∧T ≠ x∧h.get? T = some oT∧oT.data = .fields ts∧ts[3]? = some fl∧(dd ≠ none→ws[2]? = some .none)
structure FlyD (B:Heap) (l:List Env) (x:Addr) (cl:Value) (dd:Option Addr) (fl:Value) (h:Heap):Prop where
 stays:B.StaysIn h
 new:B.get? x = none
 funs:h.FunFrames B l
 tr:TrD h B x cl dd fl
theorem FlyD.there {B:Heap} {l:List Env} {x:Addr} {cl:Value} {dd:Option Addr} {fl:Value} {h:Heap} (f:FlyD B l x cl dd fl h):∃ ox ws,h.get? x = some ox∧ox.cls = cl∧ox.dict = dd∧ox.data = .fields ws:=by
 obtain ⟨ox,ws,_,_,_,h1,h2,h3,h4,_⟩:=f.tr
 exact ⟨ox,ws,h1,h2,h3,h4⟩
section
variable {M:Model} {A:Around} {E:Value→Shared→Prop} {s:Shared} {B:Heap} {env:Env} {l:List Env} {L x:Addr} {cl:Value} {dd:Option Addr} {Q:Unit→Shared→Prop}
end
end L2
namespace L2
open PySem PySem.Spec PyProof.Rows
structure Df (X:Cx):Prop where
 stk:X.stack = X.env :: X.outer
 fr:X.env.frame = some X.env.locals
 ex:X.ex = []
 fn:∀ x,X.fn x = true
structure Cov (X:Cx) (B:Heap) (H:Hp) (h:Heap):Prop where
 tr:∀ b o,H b = some o→∃ q,h.get? b = some q∧B.get? b = some q
 old:∀ b o,X.s₀.heap.get? b = some o→b ∉ frs X.stack→∃ q,h.get? b = some q∧B.get? b = some q
 pin:∀ p ∈ X.pn,B.get? p.1 = some p.2
 cel:∀ x c,X.env.cells.lookup x = some c→∃ q,h.get? c = some q∧B.get? c = some q
section
variable {X:Cx} {σ:St} {H:Hp} {s:Shared} {B h':Heap}
end
inductive Md (B:Heap) (l:List Env) (L x:Addr) (cl:Value) (dd:Option Addr) (h:Heap):Prop where
 | new {ox:Obj} {ws:Array Value}:h.get? x = some ox→ox.cls = cl→ox.dict = dd→ox.data = .fields ws→ws[1]? = some .none→(dd ≠ none→ws[2]? = some .none)→B.StaysIn h→B.get? x = none→h.FunFrames B l→Md B l L x cl dd h
 | fly:FlyD B l x cl dd .none h→Md B l L x cl dd h
 | held:FlyD B l x cl dd (rawInt L) h→Md B l L x cl dd h
theorem Md.stays {B:Heap} {l:List Env} {L x:Addr} {cl:Value} {dd:Option Addr} {h:Heap} (m:Md B l L x cl dd h):B.StaysIn h:=by
 cases m with
 | new _ _ _ _ _ _ s _ _=>exact s
 | fly f=>exact f.stays
 | held f=>exact f.stays
def XT (X:Cx) (EX:St→XK):Value→Shared→Prop:=fun e s'=>∃ (x:Addr) (cl:Value) (dd:Option Addr) (σ:St) (H:Hp) (B:Heap),e = .ref x∧Inv X [] σ H s'∧H x = none∧X.s₀.heap.objs.size ≤ x∧Cov X B H s'.heap∧EX σ cl dd H∧Md B X.stack X.env.locals x cl dd s'.heap
def Cx.tr (X:Cx) (pins:List (Addr × Obj)) (EX:St→XK):Cx:={ X with pn:=X.pn ++ pins,xe:=XT { X with pn:=X.pn ++ pins } EX }
theorem Cx.Ok.pn {X:Cx} (ok:X.Ok) (pn:List (Addr × Obj)) (E:Value→Shared→Prop):({ X with pn:=pn,xe:=E }:Cx).Ok :=
 ⟨ok.mod,ok.kind,ok.glob,ok.blt,ok.above,ok.inj,ok.has,ok.cab,ok.hd,ok.frames,ok.stk,ok.exf,ok.bs,ok.bsz,ok.noex,ok.exfs,ok.funs,ok.frf⟩
theorem Inv.tr {X:Cx} {pins:List (Addr × Obj)} {σ:St} {H:Hp} {s:Shared} (I:Inv X pins σ H s) (EX:St→XK):Inv (X.tr pins EX) [] σ H s :=
 ⟨I.ok.pn _ _,I.os,I.bare,I.base,I.loc,I.cell,I.free,I.freeC,fun p hp=>I.pin p (by
  have:p ∈ (X.pn ++ pins) ++ []:=hp
  simpa using this),I.hok,I.len⟩
theorem Df.tr {X:Cx} (d:Df X) (pins:List (Addr × Obj)) (EX:St→XK):Df (X.tr pins EX):=⟨d.stk,d.fr,d.ex,d.fn⟩
end L2
namespace L2
open PySem PySem.Spec PyProof.Rows
section
variable {X:Cx} {CX:CXT} {k:Nat} {f:Addr} {fd:FuncData} {ps:List Str} {sp:Sp} {EX:St→XK} {x:Str} {p pos:Pos} {e:Expr} {es:List Expr} {t:TA} {ds:List Value} {dvs:List V}
end
section
variable {P:Program} {w:World} {K:PySem.W.Frag} {mg:Str→Option Value} {base:Heap}
end
section
variable {prog:Program} {w:World} {A:Around} {E:Value→Shared→Prop} {h:Heap} {g:Array GenState} {d:Drawn} {t:Nat} {os:OsState}
variable {nm q:Str} {C N:Addr} {bs bm bmB:List Value} {hdct:Bool} {sn:List Str} {sub:List Value} {ab:Bool} {col:Option Bool} {dd:Option Addr} {k0 k1 k2 k3 k5:Option Value} {B newId initId:String}
end
end L2
namespace L2
open PySem PySem.Spec PyProof.Rows Builtin Builtin.ObjectAttr
section
variable {prog:Program} {w:World} {A:Around} {E:Value→Shared→Prop} {h:Heap} {g:Array GenState} {d:Drawn} {t:Nat} {os:OsState} {C:Addr} {bmB:List Value} {B newId initId:String}
end
def jnr:Value→Bool
 | .ref _=>true
 | _=>false
theorem jnr.ex {v:Value} (h:jnr v = true):∃ a,v = .ref a:=by
 cases v <;> first | exact ⟨_,rfl⟩ | cases h
section
variable {prog:Program} {w:World} {A:Around} {E:Value→Shared→Prop} {s:Shared} {K:PySem.W.Frag} {x C t0:Addr} {dz:Option Addr} {name:Str} {v:Value} {Q:Unit→Shared→Prop}
end
end L2
namespace L2
open PySem PySem.Spec PyProof.Rows
section
variable {P:Program} {w:World} {H:Hp} {h:Heap} {a C:Addr} {dd:Option Addr} {fs:List (Str × V)}
end
section
variable {X:Cx} {pins:List (Addr × Obj)} {σ:St} {H:Hp} {s:Shared} {h':Heap} {x dx:Addr} {φ:Heap→Prop} {o1 o2:HO} {t':Nat}
end
section
variable {X:Cx} {o value e:Expr} {es:List Expr} {f x:Str} {p pos pos' apos:Pos} {ta tv:TE} {t:TA} {C T:Addr} {bmB:List Value} {B newId initId:String} {fI:Addr}
end
end L2
namespace L2
open PySem PySem.Spec PyProof.Rows
section
variable {X:Cx} {EX:St→XK} {k:Nat} {fI C:Addr} {fd:FuncData} {ps:List Str} {sp:Sp} {x:Str} {p cpos pos:Pos} {e:Expr} {es:List Expr} {t:TA} {bmB:List Value} {B newId initId:String}
end
end L2
namespace L2
open PySem PySem.Spec PyProof.Rows
section
variable {X:Cx} {pins:List (Addr × Obj)} {σ:St} {H:Hp} {s:Shared} {x:Addr} {o:HO}
end
section
variable {X:Cx} {x n:Str} {np hpos pos:Pos} {body suite:List Stmt} {b0:Stmt} {C:Addr} {mt:Value→Prop} {i:Nat} {tb:(St→XK)→TS} {th:TS}
end
end L2
namespace L2
open PySem PySem.Spec PyProof.Rows
section
variable {X:Cx} {C dx a:Addr} {fs:List (Str × V)} {H:Hp} {s:Shared}
end
end L2
namespace L2
open PySem PySem.Spec PyProof.Rows Builtin Builtin.ObjectAttr
structure XG (K:PySem.W.Frag) (C:Addr):Prop where
 ga:PySem.W.findIn K (.ref C) "__getattribute__" = some (some (.builtin "BaseException.__getattribute__"))
 gt:PySem.W.findIn K (.ref C) "__getattr__" = some none
 sub:PySem.W.mroIn K C (.type "BaseException") = some true
section
variable {prog:Program} {w:World} {A:Around} {E:Value→Shared→Prop} {s:Shared} {K:PySem.W.Frag} {x C:Addr} {ox:Obj} {od:Option Obj} {name:Str} {v:Value}
end
structure XY (K:PySem.W.Frag) (C:Addr):Prop where
 g:XG K C
 hd:PySem.W.hasDictIn K C = true
 ha:PySem.W.findIn K (.ref C) "__class__" = some (some (.builtin "object.__class__"))
 hn:PySem.W.specialIn K (.builtin "object.__class__") "__get__" = some (some (.builtin "getset_descriptor.__get__"))
 ht:PySem.W.takesIn K (.builtin "object.__class__") = some true
 hm:PySem.W.mroIn K C (.type "object") = some true
theorem XY.cls {K:PySem.W.Frag} {C:Addr} (y:XY K C):∃ c d cd sl,K.lookup C = some ⟨c,d,.cls cd,sl⟩:=by
 obtain ⟨cd,hc,_⟩:=PySem.W.any_some y.hd
 unfold PySem.W.clsIn at hc
 split at hc
 ·rename_i ho
  exact ⟨_,_,_,_,ho⟩
 ·cases hc
section
variable {X:Cx} {C dx a:Addr} {fs:List (Str × V)} {H:Hp} {s:Shared}
end
end L2
namespace L2
open PySem PySem.Spec PyProof.Rows
section
variable {X:Cx}
end
end L2
namespace L2
open PySem PySem.Spec PyProof.Rows
structure RoomH (k:Nat) (A:Around):Prop where
 dp:A.depth + 3 * k + 5 < recursionLimit
 un:A.units + 16 * k + 200 < cLine
theorem Room.h {j k:Nat} {A:Around} (r:Room k A) (h:j ≤ k):RoomH j A:=⟨(r.mono h).dp,(r.mono h).un⟩
theorem Room.hm {j k:Nat} {A:Around} {o:Option Value} (r:Room k A) (h:j ≤ k):RoomH j (A.mark o):=⟨(r.mono h).dp,(r.mono h).un⟩
theorem RoomH.mono {j k:Nat} {A:Around} (r:RoomH k A) (h:j ≤ k):RoomH j A:=⟨by have:=r.dp; omega,by have:=r.un; omega⟩
section
variable {P:Program} {w:World} {K:PySem.W.Frag} {mg:Str→Option Value} {base:Heap}
end
section
variable {X:Cx} {k:Nat} {f:Addr} {fd:FuncData} {ps:List Str} {sp:Sp} {x:Str} {p pos:Pos} {e:Expr} {es:List Expr} {t:TA}
end
section
variable {X:Cx} {C:Addr}
end
end L2
namespace L2
open PySem PySem.Spec PyProof.Rows
section
variable {X:Cx} {x n:Str} {np hpos pos:Pos} {body suite:List Stmt} {b0:Stmt} {C:Addr} {mt:Value→Prop} {tb:(St→XK)→TS} {th:TS}
end
end L2
namespace L2
open PySem PySem.Spec PyProof.Rows
section
variable {prog:Program} {w:World} {A:Around} {E:Value→Shared→Prop} {s:Shared} {C a:Addr} {bmB:List Value} {newId:String}
end
section
variable {prog:Program} {w:World} {A:Around} {E:Value→Shared→Prop} {h:Heap} {g:Array GenState} {d:Drawn} {t:Nat} {os:OsState}
variable {C:Addr} {bmB:List Value} {B newId initId:String}
end
section
variable {X:Cx} {x y:Str} {np hpos pos p cpos rpos cp:Pos} {kk:Nat} {body:List Stmt} {C D':Addr} {mt:Value→Prop} {tb:(St→XK)→TS} {EX:St→XK} {e:Expr} {es:List Expr} {t:TA} {bmB:List Value} {B newId initId:String}
end
end L2
namespace L2
open PySem PySem.Spec PyProof.Rows
open PySem.Builtin.ObjectAttr
section
variable {X:Cx} {C a:Addr} {H:Hp} {s:Shared}
end
end L2
namespace L2
open PySem PySem.Spec PyProof.Rows
def CDivB (i j:Int):Prop:=0 < j∧j < 1000000000000000000
section
variable {X:Cx}
theorem joi:OpR X (binaryOp .FloorDiv) (fIC CDivB fun i j=>.int (i / j)):=by
 intro pins s σ H x y v u Q I rx ry h
 unfold fIC at h
 split at h
 ·rename_i i j
  obtain ⟨⟨h1,h2⟩,q⟩:=h
  obtain ⟨t,rfl⟩:=rx
  obtain ⟨t',rfl⟩:=ry
  refine floordiv_int (by omega) ?_ (.inl (PyProof.noPylong_of_log2 ?_))
  ·rw [Int.fdiv_eq_ediv_of_nonneg i (by omega)]
   exact ⟨.int (i / j),H,I.tok _,⟨_,rfl⟩,q⟩
  ·by_cases h0:j.natAbs = 0
   ·rw [h0]; decide
   ·exact Nat.lt_of_lt_of_le ((Nat.log2_lt h0).mpr (show j.natAbs < 2 ^ 60 by omega)) (by decide)
 ·exact h.elim
def dedN (ns:List Int):Nat:=(firstMet (fun i=>ns.getD i 0) ns.length).length
def fSetOf:List V→Hp→VK→Prop:=fun vs H Q=>∃ l ns,vs = [.ref l]∧H l = some (.lst (ns.map V.int))∧ns.length ≤ 1000∧∀ p,H p = none→Q (.ref p) (upd H p (.set (fun k=>(firstMet (fun i=>ns.getD i 0) ns.length).any (· == k)) (dedN ns)))
theorem jdo:∀ {ns:List Int} {us:List Value},Vals (ns.map V.int) us→IntsAre us ns
 | [],_,.nil=>.nil
 | n :: ns,_,.cons r t=>by
  obtain ⟨k,rfl⟩:=r
  exact .cons n k (jdo t)
theorem jog (hh:X.A.handled = none):jc0 X (.type "set") fSetOf:=by
 intro pins s σ H vs us Q I r h
 obtain ⟨l,ns,rfl,el,hn,q⟩:=h
 obtain ⟨u,rfl,rx⟩:=je1 r
 cases rx
 obtain ⟨z,its,n,r',hlen,e⟩:=I.lstM el
 have hl:its.length = ns.length:=by rw [← hlen,List.length_map]
 have hL:s.heap.IsList l its.toArray:=⟨_,e,rfl,_,rfl⟩
 refine call_set_list (ns:=ns) hh hL (by simpa using jdo r') (by rw [List.size_toArray,hl]; exact Nat.lt_of_le_of_lt (Nat.succ_le_succ hn) (by decide)) fun h' tk hS kp=>?_
 have e2:its.toArray.size = ns.length:=by rw [List.size_toArray,hl]
 rw [e2] at hS
 refine ⟨.ref s.heap.objs.size,_,I.laid (t':=tk) (o:=.set _ (dedN ns)) (fun b o g=>kp b o (Heap.lt_size g) g) (Nat.le_refl _) hS,rfl,q _ (I.hok.fresh (Nat.le_refl _))⟩
def jip:List V→Hp→VK→Prop:=fun vs H Q=>match vs with
 | [.ref p]=>match H p with
  | some (.set S n)=>Q (.int n) H
  | _=>False
 | _=>False
theorem jmj:jc0 X (.builtin "len") jip:=by
 intro pins s σ H vs us Q I r h
 unfold jip at h
 split at h
 ·rename_i p
  split at h
  ·rename_i S n eS
   obtain ⟨u,rfl,rx⟩:=je1 r
   cases rx
   have hS:s.heap.SetOf (intKind X.prog X.w) p S n:=I.hok p _ eS
   obtain ⟨o,es,ep,t,ho,hex,hd,_,_,hsz,hf,rfl⟩:=hS
   exact call_len_set ho hex hd hf (Int.ofNat_lt.mpr (Nat.lt_of_lt_of_le hsz (show scanBound ≤ 2 ^ 63 by decide))) ⟨.int es.size,H,I.tok _,⟨_,rfl⟩,h⟩
  ·exact h.elim
 ·exact h.elim
end
theorem jgd:∀ (ns acc:List Int),acc.Nodup→(ns.foldl step_dedup acc).length ≤ acc.length + ns.length∧((ns.foldl step_dedup acc).length = acc.length + ns.length ↔ (acc ++ ns).Nodup)
 | [],acc,h=>by simp [h]
 | n :: ns,acc,h=>by
  rw [List.foldl_cons]
  by_cases c:acc.any (· == n) = true
  ·have e:step_dedup acc n = acc:=if_pos c
   rw [e]
   have ih:=jgd ns acc h
   have hm:n ∈ acc:=by
    obtain ⟨m,hm,e2⟩:=List.any_eq_true.mp c
    rw [beq_iff_eq] at e2
    exact e2 ▸ hm
   rw [List.length_cons]
   refine ⟨by omega,⟨fun z=>by omega,fun z=>?_⟩⟩
   rw [List.nodup_append] at z
   exact absurd rfl (z.2.2 n hm n (.head _))
  ·have e:step_dedup acc n = acc ++ [n]:=if_neg c
   have hm:n ∉ acc:=fun hm=>c (List.any_eq_true.mpr ⟨n,hm,by simp⟩)
   have h2:(acc ++ [n]).Nodup:=by
    rw [List.nodup_append]
    exact ⟨h,by simp,fun a ha b hb=>by rw [List.mem_singleton] at hb; rw [hb]; exact fun z=>hm (z ▸ ha)⟩
   rw [e]
   have ih:=jgd ns (acc ++ [n]) h2
   rw [List.length_append,List.length_singleton] at ih
   rw [List.length_cons]
   refine ⟨by omega,?_⟩
   rw [show acc.length + (ns.length + 1) = acc.length + 1 + ns.length by omega,ih.2,List.append_assoc]
   rfl
theorem ded_eq (ns:List Int):dedN ns = (ns.foldl step_dedup []).length:=by
 unfold dedN firstMet
 congr 2
 apply List.ext_getElem?
 intro i
 rw [List.getElem?_map]
 by_cases h:i < ns.length
 ·rw [List.getElem?_range h,List.getElem?_eq_getElem h]
  show some (ns.getD i 0) = _
  rw [List.getD_eq_getElem?_getD,List.getElem?_eq_getElem h]
  rfl
 ·rw [List.getElem?_eq_none (by simp; omega),List.getElem?_eq_none (by omega)]
  rfl
theorem jp2 (ns:List Int):dedN ns = ns.length ↔ ns.Nodup:=by
 have:=(jgd ns [] List.nodup_nil).2
 rw [ded_eq]
 simpa using this
end L2
namespace L2
open PySem PySem.Spec PyProof.Rows
theorem ja8 {a b:TS} {D:Ends} {σ:St} {H:Hp} (h:∀ R,R = b→tSeq a R D σ H):tSeq a b D σ H:=h b rfl
theorem jf4 {ι:Type} {wi:TI} {g:TG} {tb:TS} {D:Ends} {σ:St} {H:Hp} (J:ι→It) (H1:ι→Hp) (ok:ι→Prop) (h1:∀ R:It→Hp→Prop,(∀ i,ok i→R (J i) (H1 i))→wi σ H R)
  (h2:∀ i0,ok i0→∃ W:Nat→Nat→St→Hp→Prop,(∃ m,W 0 m σ (H1 i0))∧∀ i m σ H,W i m σ H→((J i0).stop i H∧D.nx σ H) ∨ ((J i0).go i H∧∃ N:St→Hp→Prop,(∀ σ' H',N σ' H'→∃ m',m' < m∧W (i + 1) m' σ' H')∧∀ x H',(J i0).yld i H x H'→g x σ H' fun σ2 H2=>tb { D with nx:=N,ct:=N,bk:=D.nx } σ2 H2)) :
  tFor wi g tb D σ H:=h1 _ h2
section
variable {X:Cx}
end
end L2
namespace So
open PySem PyProof.Rows
def kv (R:Keyed→Int) (xs:Array Keyed) (i:Nat):Int:=(xs[i]?.map R).getD 0
theorem jf0 {R:Keyed→Int} {xs ys:Array Keyed} {i j:Nat} (h:xs[i]? = ys[j]?):kv R xs i = kv R ys j:=by unfold kv; rw [h]
theorem kv_at {R:Keyed→Int} {xs:Array Keyed} {i:Nat} {x:Keyed} (h:xs[i]? = some x):kv R xs i = R x:=by unfold kv; rw [h]; rfl
def Up (R:Keyed→Int) (xs:Array Keyed) (a b:Nat):Prop:=∀ i j,a ≤ i→i ≤ j→j < b→kv R xs i ≤ kv R xs j
def Dn (R:Keyed→Int) (xs:Array Keyed) (a b:Nat):Prop:=∀ i j,a ≤ i→i ≤ j→j < b→kv R xs j ≤ kv R xs i
def Fore (lo:Nat) (xs ys:Array Keyed):Prop:=∀ i,i < lo→ys[i]? = xs[i]?
theorem Fore.rfl' {lo:Nat} {xs:Array Keyed}:Fore lo xs xs:=fun _ _=>rfl
theorem Fore.tr {lo:Nat} {xs ys zs:Array Keyed} (a:Fore lo xs ys) (b:Fore lo ys zs):Fore lo xs zs:=fun i h=>(b i h).trans (a i h)
theorem Up.one {R:Keyed→Int} {xs:Array Keyed} {a b:Nat} (h:b ≤ a + 1):Up R xs a b:=fun i j h1 h2 h3=>by
 have e:i = j:=by omega
 rw [e]; exact Int.le_refl _
theorem Up.grow {R:Keyed→Int} {xs:Array Keyed} {a b:Nat} (h:Up R xs a b) (h2:a < b) (hl:kv R xs (b - 1) ≤ kv R xs b):Up R xs a (b + 1):=fun i j h3 h4 h5=>by
 by_cases hj:j < b
 ·exact h i j h3 h4 hj
 ·have e:j = b:=by omega
  rw [e] at h4 ⊢
  by_cases hi:i = b
  ·rw [hi]; exact Int.le_refl _
  ·exact Int.le_trans (h i (b - 1) h3 (by omega) (by omega)) hl
theorem Dn.grow {R:Keyed→Int} {xs:Array Keyed} {a b:Nat} (h:Dn R xs a b) (h2:a < b) (hl:kv R xs b ≤ kv R xs (b - 1)):Dn R xs a (b + 1):=fun i j h3 h4 h5=>by
 by_cases hj:j < b
 ·exact h i j h3 h4 hj
 ·have e:j = b:=by omega
  rw [e] at h4 ⊢
  by_cases hi:i = b
  ·rw [hi]; exact Int.le_refl _
  ·exact Int.le_trans hl (h i (b - 1) h3 (by omega) (by omega))
theorem Dn.like {R:Keyed→Int} {xs ys:Array Keyed} {a b:Nat} (h:Dn R xs a b) (e:∀ k,kv R ys k = kv R xs k):Dn R ys a b:=fun i j h1 h2 h3=>by rw [e,e]; exact h i j h1 h2 h3
theorem jil {R:Keyed→Int} {xs:Array Keyed} {i j:Nat} (hj:j ≤ xs.size) (k:Nat) :
  kv R (mirror xs i j ((j - i) / 2)) k = if i ≤ k∧k < j then kv R xs (i + j - 1 - k) else kv R xs k:=by
 have e:=getElem?_mirror_all (i:=i) hj k
 by_cases c:i ≤ k∧k < j
 ·rw [if_pos c] at e ⊢; exact jf0 e
 ·rw [if_neg c] at e ⊢; exact jf0 e
theorem jcp {R:Keyed→Int} {xs:Array Keyed} {i j:Nat} (hj:j ≤ xs.size) (q:∀ k,i ≤ k→k < j→kv R xs k = kv R xs (j - 1)) (k:Nat) :
  kv R (mirror xs i j ((j - i) / 2)) k = kv R xs k:=by
 rw [jil hj]
 split
 ·rename_i c; rw [q _ (by omega) (by omega),q k c.1 c.2]
 ·rfl
theorem jdd {lo:Nat} {xs:Array Keyed} {i j:Nat} (hj:j ≤ xs.size) (hi:lo ≤ i):Fore lo xs (mirror xs i j ((j - i) / 2)):=fun k hk=>by
 rw [getElem?_mirror_all hj,if_neg (by omega)]
theorem jl8 {R:Keyed→Int} {xs:Array Keyed} {src d:Nat} (hs:src < xs.size) (hd:d ≤ src) (k:Nat) :
  kv R (bubble xs src d) k = if k = src - d then kv R xs src else if src - d < k∧k ≤ src then kv R xs (k - 1) else kv R xs k:=by
 have e:=getElem?_bubble hs d hd k
 by_cases c:k = src - d
 ·rw [if_pos c] at e ⊢; exact jf0 e
 ·rw [if_neg c] at e ⊢
  by_cases c2:src - d < k∧k ≤ src
  ·rw [if_pos c2] at e ⊢; exact jf0 e
  ·rw [if_neg c2] at e ⊢; exact jf0 e
theorem jll {lo:Nat} {xs:Array Keyed} {src d:Nat} (hs:src < xs.size) (hd:lo + d ≤ src):Fore lo xs (bubble xs src d):=fun k hk=>by
 rw [getElem?_bubble hs d (by omega),if_neg (by omega),if_neg (by omega)]
structure Bs (κ:SortKind) (a₀:Array Keyed) (pd:Array (Nat × Nat × Nat)) (st:SortSt):Prop where
 perm:(arrOf st).Perm a₀
 kind:kindOf st = κ
 ok:failedOf st = none
 pend:pendingOf st = pd
section
variable {prog:Program} {w:World} {A:Around} {E:Value→Shared→Prop} {s:Shared} {R:Keyed→Int} {κ:SortKind} {a₀:Array Keyed} {pd:Array (Nat × Nat × Nat)}
theorem Bs.size {st:SortSt} (b:Bs κ a₀ pd st):(arrOf st).size = a₀.size:=b.perm.size_eq
theorem Bs.put {st:SortSt} (b:Bs κ a₀ pd st) {xs:Array Keyed} (p:xs.Perm (arrOf st)):Bs κ a₀ pd (setArr st xs):=⟨p.trans b.perm,b.kind,b.ok,b.pend⟩
theorem Bs.get {st:SortSt} (b:Bs κ a₀ pd st) {i:Nat} (hi:i < a₀.size):∃ x,(arrOf st)[i]? = some x∧x ∈ a₀.toList:=by
 have h1:i < (arrOf st).size:=by rw [b.size]; exact hi
 exact ⟨(arrOf st)[i],getElem?_pos _ i h1,(Array.perm_iff_toList_perm.mp b.perm).mem_iff.mp (by simp)⟩
def Cm (prog:Program) (w:World) (A:Around) (s:Shared) (R:Keyed→Int) (κ:SortKind) (a₀:Array Keyed):Prop :=
 ∀ x y,x ∈ a₀.toList→y ∈ a₀.toList→∀ (Q:Bool→Shared→Prop) (E:Value→Shared→Prop),Q (decide (R x < R y)) s→wpAny (model prog w) A (keyLt' κ x.1 y.1) Q E s
theorem w_lt (C:Cm prog w A s R κ a₀) {st:SortSt} {x y:Keyed} (hk:kindOf st = κ) (hx:x ∈ a₀.toList) (hy:y ∈ a₀.toList) {Q:Option Bool→SortSt→Prop} (h:Q (some (decide (R x < R y))) st) :
  wpS (model prog w) A E s (lt' x y) Q st:=by
 rw [lt'_eq]
 refine wpS_bind (wpS_get ?_)
 rw [hk]
 refine wpS_bind (wpS_lift (wpAny_attempt (C x y hx hy _ _ ⟨rfl,?_⟩)))
 exact wpS_pure h
theorem jbe {st:SortSt} {xs:Array Keyed} {i:Nat} {x:Keyed} (e:xs[i]? = some x) {Q:Keyed→SortSt→Prop} (h:Q x st):wpS (model prog w) A E s (elem' xs i) Q st:=by
 rw [elem'_eq,e]; exact wpS_pure h
theorem jgm (C:Cm prog w A s R κ a₀) {st:SortSt} (b:Bs κ a₀ pd st) {i j:Nat} (hi:i < a₀.size) (hj:j < a₀.size) {Q:Option Bool→SortSt→Prop}
  (h:Q (some (decide (kv R (arrOf st) i < kv R (arrOf st) j))) st):wpS (model prog w) A E s (ltAt' i j) Q st:=by
 obtain ⟨x,e1,m1⟩:=b.get hi
 obtain ⟨y,e2,m2⟩:=b.get hj
 rw [ltAt'_eq]
 refine wpS_bind (wpS_get (wpS_bind (jbe e1 (wpS_bind (jbe e2 (w_lt C b.kind m1 m2 ?_))))))
 rw [kv_at e1,kv_at e2] at h
 exact h
abbrev UpSt:=Option (Option Nat) × Nat
abbrev DnSt:=Option (Option Nat) × Nat × Nat
def goUp (lo a nrem:Nat):StateT SortSt Sem UpSt :=
 forIn [a:nrem] ((none,a):UpSt) fun _ c=>do
  let z ← ltAt' (lo + c.snd) (lo + c.snd - 1)
  match z with
  | some less=>if less = true then pure (.done (none,c.snd)) else pure (.yield (none,c.snd + 1))
  | _=>pure (.done (some none,c.snd))
def jhh (lo n nrem:Nat):StateT SortSt Sem (Option Nat):=do
 reverseSlice' lo (lo + n)
 let c ← goUp lo n nrem
 match c.fst with
 | some r=>pure r
 | none=>pure (some c.snd)
def goDn (lo n nrem:Nat):StateT SortSt Sem DnSt :=
 forIn [n:nrem] ((none,n,0):DnSt) fun _ c=>do
  let z ← ltAt' (lo + c.snd.fst) (lo + c.snd.fst - 1)
  match z with
  | some less =>
   if less = true then
    if c.snd.snd > 0 then do
     reverseSlice' (lo + c.snd.fst - (c.snd.snd + 1)) (lo + c.snd.fst)
     pure (.yield (none,c.snd.fst + 1,0))
    else pure (.yield (none,c.snd.fst + 1,0))
   else do
    let y ← ltAt' (lo + c.snd.fst - 1) (lo + c.snd.fst)
    match y with
    | some more=>if more = true then pure (.done (none,c.snd.fst,c.snd.snd)) else pure (.yield (none,c.snd.fst + 1,c.snd.snd + 1))
    | _=>pure (.done (some none,c.snd.fst,c.snd.snd))
  | _=>pure (.done (some none,c.snd.fst,c.snd.snd))
def jm3 (lo n nrem:Nat):StateT SortSt Sem (Option Nat):=do
 liftM (rule "list.sort.descending-run")
 let c ← goDn lo (n + 1) nrem
 match c.fst with
 | some r=>pure r
 | none =>
  if c.snd.snd > 0 then do
   reverseSlice' (lo + c.snd.fst - (c.snd.snd + 1)) (lo + c.snd.fst)
   jhh lo c.snd.fst nrem
  else jhh lo c.snd.fst nrem
theorem jn8 (lo nrem:Nat):countRun' lo nrem = (do
    let c ← goUp lo 1 nrem
    match c.fst with
    | some r=>pure r
    | none =>
      if (c.snd == nrem) = true then pure (some c.snd)
      else if c.snd > 1 then do
        let z ← ltAt' lo (lo + c.snd - 1)
        match z with
        | some rose=>if rose = true then pure (some c.snd) else do
            reverseSlice' lo (lo + c.snd)
            jm3 lo c.snd nrem
        | _=>pure none
      else jm3 lo c.snd nrem):=by
  rw [countRun'_eq]
  unfold jm3 jhh goDn goUp
  dsimp only
  congr 1
  funext c
  obtain ⟨r,n⟩:=c
  cases r with
  | some r=>rfl
  | none =>
    dsimp only
    split
    · rfl
    · split
      · congr 1
        funext z
        cases z with
        | none=>rfl
        | some rose =>
          dsimp only
          split
          · rfl
          · congr 1
            funext _r
            (congr 1; funext _u; congr 1; congr 1; funext c2; obtain ⟨r2,n2,q2⟩:=c2; cases r2 with
            | some r2=>rfl
            | none =>
              dsimp only
              split
              · congr 1; funext _t; congr 1; funext _v; congr 1; funext c3; obtain ⟨r3,n3⟩:=c3; cases r3 <;> rfl
              · congr 1; funext _v; congr 1; funext c3; obtain ⟨r3,n3⟩:=c3; cases r3 <;> rfl)
      · (congr 1; funext _u; congr 1; congr 1; funext c2; obtain ⟨r2,n2,q2⟩:=c2; cases r2 with
            | some r2=>rfl
            | none =>
              dsimp only
              split
              · congr 1; funext _t; congr 1; funext _v; congr 1; funext c3; obtain ⟨r3,n3⟩:=c3; cases r3 <;> rfl
              · congr 1; funext _v; congr 1; funext c3; obtain ⟨r3,n3⟩:=c3; cases r3 <;> rfl)
theorem jiw {st:SortSt} {i j:Nat} {Q:Unit→SortSt→Prop} (h:Q () (setArr st (mirror (arrOf st) i j ((j - i) / 2)))) :
  wpS (model prog w) A E s (reverseSlice' i j) Q st:=by
 rw [reverseSlice'_eq]; exact wpS_modify h
theorem jna (C:Cm prog w A s R κ a₀) {st:SortSt} {lo a nrem:Nat} {Q:UpSt→SortSt→Prop} (hn:lo + nrem ≤ a₀.size) (ha:1 ≤ a) (han:a ≤ nrem) (b:Bs κ a₀ pd st) (u:Up R (arrOf st) lo (lo + a))
  (h:∀ n,a ≤ n→n ≤ nrem→Up R (arrOf st) lo (lo + n)→(n = nrem ∨ kv R (arrOf st) (lo + n) < kv R (arrOf st) (lo + n - 1))→Q (none,n) st) :
  wpS (model prog w) A E s (goUp lo a nrem) Q st:=by
 unfold goUp
 refine wpS_forRange (I:=fun x c st'=>st' = st∧c = (none,x)∧Up R (arrOf st) lo (lo + x)) ?step ?fin ⟨rfl,rfl,u⟩
 case fin =>
  rintro c st' ⟨rfl,rfl,u'⟩
  rw [show max a nrem = nrem by omega] at u' ⊢
  exact h nrem han (Nat.le_refl _) u' (.inl rfl)
 case step =>
  rintro x c st' hax hxn ⟨rfl,rfl,u'⟩
  dsimp only
  refine wpS_bind (jgm C b (by omega) (by omega) ?_)
  by_cases c:kv R (arrOf st') (lo + x) < kv R (arrOf st') (lo + x - 1)
  ·simp only [c,decide_true,if_true]
   exact wpS_pure (h x hax (by omega) u' (.inr c))
  ·simp only [c,decide_false,Bool.false_eq_true,if_false]
   exact wpS_pure ⟨rfl,rfl,u'.grow (by omega) (by omega)⟩
theorem jiy (C:Cm prog w A s R κ a₀) {st:SortSt} {lo n nrem:Nat} {Q:Option Nat→SortSt→Prop} (hn:lo + nrem ≤ a₀.size) (h1:1 ≤ n) (hnn:n ≤ nrem) (b:Bs κ a₀ pd st) (d:Dn R (arrOf st) lo (lo + n))
  (h:∀ m st',Bs κ a₀ pd st'→Fore lo (arrOf st) (arrOf st')→1 ≤ m→m ≤ nrem→Up R (arrOf st') lo (lo + m)→Q (some m) st') :
  wpS (model prog w) A E s (jhh lo n nrem) Q st:=by
 unfold jhh
 have hsz:lo + n ≤ (arrOf st).size:=by rw [b.size]; omega
 refine wpS_bind (jiw ?_)
 have b':=b.put (mirror_perm (arrOf st) lo (lo + n) ((lo + n - lo) / 2))
 refine wpS_bind (jna C hn h1 hnn b' ?_ fun m hm1 hm2 u _=>wpS_pure (h m _ b' (jdd hsz (Nat.le_refl _)) (by omega) hm2 u))
 intro i j h3 h4 h5
 show kv R (mirror (arrOf st) lo (lo + n) _) i ≤ kv R (mirror (arrOf st) lo (lo + n) _) j
 rw [jil hsz,jil hsz,if_pos (by omega),if_pos (by omega)]
 exact d _ _ (by omega) (by omega) (by omega)
theorem w_goDn (C:Cm prog w A s R κ a₀) {st:SortSt} {lo n nrem:Nat} {Q:DnSt→SortSt→Prop} (hn:lo + nrem ≤ a₀.size) (h1:1 ≤ n) (hnn:n ≤ nrem) (b:Bs κ a₀ pd st) (d:Dn R (arrOf st) lo (lo + n))
  (h:∀ m q st',Bs κ a₀ pd st'→Fore lo (arrOf st) (arrOf st')→n ≤ m→m ≤ nrem→Dn R (arrOf st') lo (lo + m)→q + 1 ≤ m→(∀ i,lo + m - (q + 1) ≤ i→i < lo + m→kv R (arrOf st') i = kv R (arrOf st') (lo + m - 1))→Q (none,m,q) st') :
  wpS (model prog w) A E s (goDn lo n nrem) Q st:=by
 unfold goDn
 refine wpS_forRange (I:=fun x c st'=>∃ q,c = (none,x,q)∧Bs κ a₀ pd st'∧Fore lo (arrOf st) (arrOf st')∧Dn R (arrOf st') lo (lo + x)∧q + 1 ≤ x ∧
   (∀ i,lo + x - (q + 1) ≤ i→i < lo + x→kv R (arrOf st') i = kv R (arrOf st') (lo + x - 1))) ?step ?fin ⟨0,rfl,b,Fore.rfl',d,by omega,fun i h1 h2=>by congr 1; omega⟩
 case fin =>
  rintro c st' ⟨q,rfl,b',f,d',hq,he⟩
  rw [show max n nrem = nrem by omega] at d' hq he ⊢
  exact h nrem q st' b' f hnn (Nat.le_refl _) d' hq he
 case step =>
  rintro x c st' hax hxn ⟨q,rfl,b',f,d',hq,he⟩
  dsimp only
  have hsz:lo + x ≤ (arrOf st').size:=by rw [b'.size]; omega
  refine wpS_bind (jgm C b' (by omega) (by omega) ?_)
  by_cases c:kv R (arrOf st') (lo + x) < kv R (arrOf st') (lo + x - 1)
  ·simp only [c,decide_true,if_true]
   have g:=d'.grow (by omega) (Int.le_of_lt c)
   by_cases hq0:q > 0
   ·rw [if_pos hq0]
    exact wpS_bind (jiw (wpS_pure ⟨0,rfl,b'.put (mirror_perm _ _ _ _),f.tr (jdd hsz (by omega)),g.like (jcp hsz he),by omega,fun i h1 h2=>by congr 1; omega⟩))
   ·rw [if_neg hq0]
    exact wpS_pure ⟨0,rfl,b',f,g,by omega,fun i h1 h2=>by congr 1; omega⟩
  ·simp only [c,decide_false,Bool.false_eq_true,if_false]
   refine wpS_bind (jgm C b' (by omega) (by omega) ?_)
   by_cases c2:kv R (arrOf st') (lo + x - 1) < kv R (arrOf st') (lo + x)
   ·simp only [c2,decide_true,if_true]
    exact wpS_pure (h x q st' b' f hax (by omega) d' hq he)
   ·simp only [c2,decide_false,Bool.false_eq_true,if_false]
    have e2:kv R (arrOf st') (lo + x) = kv R (arrOf st') (lo + x - 1):=by omega
    refine wpS_pure ⟨q + 1,rfl,b',f,d'.grow (by omega) (by omega),by omega,fun i h1 h2=>?_⟩
    rw [show lo + (x + 1) - 1 = lo + x by omega]
    by_cases hix:i = lo + x
    ·rw [hix]
    ·rw [e2]; exact he i (by omega) (by omega)
theorem jk2 (C:Cm prog w A s R κ a₀) {st:SortSt} {lo n nrem:Nat} {Q:Option Nat→SortSt→Prop} (hn:lo + nrem ≤ a₀.size) (hnn:n + 1 ≤ nrem) (b:Bs κ a₀ pd st) (d:Dn R (arrOf st) lo (lo + (n + 1)))
  (h:∀ m st',Bs κ a₀ pd st'→Fore lo (arrOf st) (arrOf st')→1 ≤ m→m ≤ nrem→Up R (arrOf st') lo (lo + m)→Q (some m) st') :
  wpS (model prog w) A E s (jm3 lo n nrem) Q st:=by
 unfold jm3
 refine wpS_bind (wpS_lift (wpAny_rule ⟨rfl,?_⟩))
 refine wpS_bind (w_goDn C hn (by omega) hnn b d fun m q st' b' f hm1 hm2 d' hq he=>?_)
 dsimp only
 have hsz:lo + m ≤ (arrOf st').size:=by rw [b'.size]; omega
 by_cases hq0:q > 0
 ·rw [if_pos hq0]
  exact wpS_bind (jiw (jiy C hn (by omega) hm2 (b'.put (mirror_perm _ _ _ _)) (d'.like (jcp hsz he)) fun m2 st2 a1 a2=>h m2 st2 a1 ((f.tr (jdd hsz (by omega))).tr a2)))
 ·rw [if_neg hq0]
  exact jiy C hn (by omega) hm2 b' d' fun m2 st2 a1 a2=>h m2 st2 a1 (f.tr a2)
theorem jk1 (C:Cm prog w A s R κ a₀) {st:SortSt} {lo nrem:Nat} {Q:Option Nat→SortSt→Prop} (hn:lo + nrem ≤ a₀.size) (h1:1 ≤ nrem) (b:Bs κ a₀ pd st)
  (h:∀ m st',Bs κ a₀ pd st'→Fore lo (arrOf st) (arrOf st')→1 ≤ m→m ≤ nrem→Up R (arrOf st') lo (lo + m)→Q (some m) st') :
  wpS (model prog w) A E s (countRun' lo nrem) Q st:=by
 rw [jn8]
 refine wpS_bind (jna C hn (Nat.le_refl 1) h1 b (Up.one (Nat.le_refl _)) fun n hn1 hn2 u hor=>?_)
 dsimp only
 by_cases c:n = nrem
 ·rw [if_pos (by simpa using c)]
  exact wpS_pure (h n st b Fore.rfl' hn1 hn2 u)
 ·rw [if_neg (by simpa using c)]
  have hlt:=hor.resolve_left c
  by_cases hgt:n > 1
  ·rw [if_pos hgt]
   refine wpS_bind (jgm C b (by omega) (by omega) ?_)
   by_cases c2:kv R (arrOf st) lo < kv R (arrOf st) (lo + n - 1)
   ·simp only [c2,decide_true,if_true]
    exact wpS_pure (h n st b Fore.rfl' hn1 hn2 u)
   ·simp only [c2,decide_false,Bool.false_eq_true,if_false]
    have hsz:lo + n ≤ (arrOf st).size:=by rw [b.size]; omega
    have hall:∀ k,lo ≤ k→k < lo + n→kv R (arrOf st) k = kv R (arrOf st) (lo + n - 1):=by
     intro k h2 h3
     have a1:=u lo k (Nat.le_refl _) h2 h3
     have a2:=u k (lo + n - 1) h2 (by omega) (by omega)
     omega
    have d:Dn R (arrOf st) lo (lo + n):=fun i j h3 h4 h5=>by rw [hall i h3 (by omega),hall j (by omega) h5]; exact Int.le_refl _
    have g:Dn R (arrOf st) lo (lo + (n + 1)):=d.grow (by omega) (Int.le_of_lt hlt)
    exact wpS_bind (jiw (jk2 C hn (by omega) (b.put (mirror_perm _ _ _ _)) (g.like (jcp hsz hall)) fun m st' a1 a2=>h m st' a1 ((jdd hsz (Nat.le_refl _)).tr a2)))
  ·rw [if_neg hgt]
   have e:n = 1:=by omega
   subst e
   have d:Dn R (arrOf st) lo (lo + 1):=fun i j h3 h4 h5=>by
    have e:i = j:=by omega
    rw [e]; exact Int.le_refl _
   exact jk2 C hn (by omega) b (d.grow (by omega) (Int.le_of_lt hlt)) h
theorem w_ins (C:Cm prog w A s R κ a₀) {st:SortSt} {lo n ok:Nat} {Q:Bool→SortSt→Prop} (hn:lo + n ≤ a₀.size) (hok:ok ≤ n) (b:Bs κ a₀ pd st) (u:Up R (arrOf st) lo (lo + ok))
  (h:∀ st',Bs κ a₀ pd st'→Fore lo (arrOf st) (arrOf st')→Up R (arrOf st') lo (lo + n)→Q true st'):wpS (model prog w) A E s (binarySort' lo n ok) Q st:=by
 rw [binarySort'_eq]
 refine wpS_bind (wpS_mono (wpS_forRange (I:=fun k c st'=>c = (none,())∧Bs κ a₀ pd st'∧Fore lo (arrOf st) (arrOf st')∧Up R (arrOf st') lo (lo + min k n))
  (Q:=fun c st'=>c = (none,())∧Bs κ a₀ pd st'∧Fore lo (arrOf st) (arrOf st')∧Up R (arrOf st') lo (lo + n)) ?step ?fin ?init) ?post)
 case post =>
  rintro c st' ⟨rfl,b',f,u'⟩
  exact wpS_pure (h st' b' f u')
 case init =>
  refine ⟨rfl,b,Fore.rfl',fun i j h1 h2 h3=>?_⟩
  by_cases c:ok = 0
  ·have e:i = j:=by omega
   rw [e]; exact Int.le_refl _
  ·exact u i j h1 h2 (by omega)
 case fin =>
  rintro c st' ⟨hc,b',f,u'⟩
  rw [show min (max (max ok 1) n) n = n by omega] at u'
  exact ⟨hc,b',f,u'⟩
 case step =>
  rintro k c st' hak hkn ⟨rfl,b',f,u'⟩
  rw [show min k n = k by omega] at u'
  refine wpS_bind (wpS_mono (wpS_forRange (I:=fun x c st2=>st2 = st'∧∃ l r,c = (none,l,r)∧l ≤ r∧r ≤ k∧r - l ≤ k - x ∧
    (∀ i,i < l→kv R (arrOf st') (lo + i) ≤ kv R (arrOf st') (lo + k))∧(∀ i,r ≤ i→i < k→kv R (arrOf st') (lo + k) < kv R (arrOf st') (lo + i)))
   (Q:=fun c st2=>st2 = st'∧∃ l r,c = (none,l,r)∧l ≤ k ∧
    (∀ i,i < l→kv R (arrOf st') (lo + i) ≤ kv R (arrOf st') (lo + k))∧(∀ i,l ≤ i→i < k→kv R (arrOf st') (lo + k) < kv R (arrOf st') (lo + i))) ?istep ?ifin ?iinit) ?ipost)
  case iinit=>exact ⟨rfl,0,k,rfl,by omega,by omega,by omega,fun i hi=>by omega,fun i h1 h2=>by omega⟩
  case ifin =>
   rintro c st2 ⟨rfl,l,r,rfl,hlr,hrk,hm,hlo,hhi⟩
   have e:l = r:=by omega
   subst e
   exact ⟨rfl,l,l,rfl,hrk,hlo,hhi⟩
  case istep =>
   rintro x c st2 _ hxk ⟨rfl,l,r,rfl,hlr,hrk,hm,hlo,hhi⟩
   dsimp only
   by_cases hge:l ≥ r
   ·rw [if_pos hge]
    have e:l = r:=by omega
    subst e
    exact wpS_pure ⟨rfl,l,l,rfl,hrk,hlo,hhi⟩
   ·rw [if_neg hge]
    refine wpS_bind (jgm C b' (by omega) (by omega) ?_)
    by_cases c:kv R (arrOf st2) (lo + k) < kv R (arrOf st2) (lo + (l + r) / 2)
    ·simp only [c,decide_true,if_true]
     exact wpS_pure ⟨rfl,l,(l + r) / 2,rfl,by omega,by omega,by omega,hlo,fun i h1 h2=>Int.lt_of_lt_of_le c (u' _ _ (by omega) (by omega) (by omega))⟩
    ·simp only [c,decide_false,Bool.false_eq_true,if_false]
     exact wpS_pure ⟨rfl,(l + r) / 2 + 1,r,rfl,by omega,by omega,by omega,fun i h1=>Int.le_trans (u' (lo + i) (lo + (l + r) / 2) (by omega) (by omega) (by omega)) (Int.not_lt.mp c),hhi⟩
  case ipost =>
   rintro c st2 ⟨rfl,l,r,rfl,hlk,hlo,hhi⟩
   show wpS _ _ _ _ (do moveDown' (lo + k) (lo + l); pure (ForInStep.yield (none,()))) _ _
   rw [moveDown'_eq]
   have hks:lo + k < (arrOf st2).size:=by rw [b'.size]; omega
   refine wpS_bind (wpS_modify (wpS_pure ⟨rfl,b'.put (bubble_perm _ _ _),f.tr (jll hks (by omega)),?_⟩))
   rw [show min (k + 1) n = k + 1 by omega]
   intro i j h1 h2 h3
   show kv R (bubble (arrOf st2) (lo + k) (lo + k - (lo + l))) i ≤ kv R (bubble (arrOf st2) (lo + k) (lo + k - (lo + l))) j
   rw [jl8 hks (by omega),jl8 hks (by omega),show lo + k - (lo + k - (lo + l)) = lo + l by omega]
   have lowof:∀ i,lo ≤ i→i < lo + l→kv R (arrOf st2) i ≤ kv R (arrOf st2) (lo + k):=fun i a1 a2=>by
    have z:=hlo (i - lo) (by omega)
    rwa [show lo + (i - lo) = i by omega] at z
   have highof:∀ i,lo + l ≤ i→i < lo + k→kv R (arrOf st2) (lo + k) < kv R (arrOf st2) i:=fun i a1 a2=>by
    have z:=hhi (i - lo) (by omega) (by omega)
    rwa [show lo + (i - lo) = i by omega] at z
   repeat' split
   all_goals first
    | (exfalso; omega)
    | exact Int.le_refl _
    | exact lowof _ (by omega) (by omega)
    | exact Int.le_of_lt (highof _ (by omega) (by omega))
    | exact u' _ _ (by omega) (by omega) (by omega)
end
end So
namespace So
open PySem PyProof.Rows
def jlk:Bool→Keyed→Array Keyed→Nat→Nat→Nat→StateT SortSt Sem (Option Nat):=sortPriv% PySem.Builtin.gallop
def gl (R:Keyed→Int) (left:Bool) (key:Keyed) (v:Int):Bool:=if left = true then decide (v < R key) else !decide (R key < v)
theorem gl_le {R:Keyed→Int} {left:Bool} {key:Keyed} {u v:Int} (h:gl R left key v = true) (huv:u ≤ v):gl R left key u = true:=by
 unfold gl at h ⊢
 cases left
 ·simp only [Bool.false_eq_true,if_false,Bool.not_eq_true',decide_eq_false_iff_not] at h ⊢; omega
 ·simp only [if_true,decide_eq_true_eq] at h ⊢; omega
section
variable {prog:Program} {w:World} {A:Around} {E:Value→Shared→Prop} {s:Shared} {R:Keyed→Int} {κ:SortKind} {a₀:Array Keyed} {pd:Array (Nat × Nat × Nat)}
abbrev BiSt:=Option (Option Nat) × Nat × Nat
theorem w_bis {st:SortSt} {n:Nat} {g:Nat→Bool} {M:Model} {f:Nat→BiSt→StateT SortSt Sem (ForInStep BiSt)} {z:BiSt→StateT SortSt Sem (Option Nat)}
  (up:∀ i j,i ≤ j→j < n→g j = true→g i = true) {Q:Option Nat→SortSt→Prop} (h:∀ k,k ≤ n→(∀ i,i < k→g i = true)→(∀ i,k ≤ i→i < n→g i = false)→Q (some k) st)
  (hf:∀ x l r (Q':ForInStep BiSt→SortSt→Prop),l < r→r ≤ n→(g (l + (r - l) / 2) = true→Q' (.yield (none,l + (r - l) / 2 + 1,r)) st)→(g (l + (r - l) / 2) = false→Q' (.yield (none,l,l + (r - l) / 2)) st)→wpS M A E s (f x (none,l,r)) Q' st)
  (hf0:∀ x l (Q':ForInStep BiSt→SortSt→Prop),Q' (.done (none,l,l)) st→wpS M A E s (f x (none,l,l)) Q' st)
  (hz:∀ l (Q':Option Nat→SortSt→Prop),Q' (some l) st→wpS M A E s (z (none,l,l)) Q' st)
  {lo hi:Nat} (h1:lo ≤ hi) (h2:hi ≤ n) (h3:∀ i,i < lo→g i = true) (h4:∀ i,hi ≤ i→i < n→g i = false) :
  wpS M A E s (forIn [0:n] ((none,lo,hi):BiSt) f >>= z) Q st:=by
 refine wpS_bind (wpS_mono (wpS_forRange (I:=fun x c st'=>st' = st∧∃ l r,c = (none,l,r)∧l ≤ r∧r ≤ n∧r - l ≤ n - x∧(∀ i,i < l→g i = true)∧(∀ i,r ≤ i→i < n→g i = false))
  (Q:=fun c st'=>st' = st∧∃ r,c = (none,r,r)∧r ≤ n∧(∀ i,i < r→g i = true)∧(∀ i,r ≤ i→i < n→g i = false)) ?step ?fin ⟨rfl,lo,hi,rfl,h1,h2,by omega,h3,h4⟩) ?post)
 case post =>
  rintro c st' ⟨rfl,r,rfl,a1,a2,a3⟩
  exact hz r Q (h r a1 a2 a3)
 case fin =>
  rintro c st' ⟨rfl,l,r,rfl,a1,a2,a3,a4,a5⟩
  have e:l = r:=by omega
  subst e
  exact ⟨rfl,l,rfl,a2,a4,a5⟩
 case step =>
  rintro x c st' _ hx ⟨rfl,l,r,rfl,a1,a2,a3,a4,a5⟩
  by_cases hge:l = r
  ·subst hge
   exact hf0 x l _ ⟨rfl,l,rfl,a2,a4,a5⟩
  ·refine hf x l r _ (by omega) a2 (fun hg=>?_) fun hg=>?_
   ·exact ⟨rfl,_,r,rfl,by omega,a2,by omega,fun i hi=>up i (l + (r - l) / 2) (by omega) (by omega) hg,a5⟩
   ·refine ⟨rfl,l,_,rfl,by omega,by omega,by omega,a4,fun i hi1 hi2=>?_⟩
    cases hgi:g i with
    | false=>rfl
    | true=>rw [up _ i hi1 hi2 hgi] at hg; cases hg
theorem jcs (C:Cm prog w A s R κ a₀) {st:SortSt} (hk:kindOf st = κ) {left:Bool} {key:Keyed} {arr:Array Keyed} {base n hint:Nat} (hkey:key ∈ a₀.toList) (harr:∀ i,i < n→∃ x,arr[base + i]? = some x∧x ∈ a₀.toList)
  (hh:hint < n) (u:Up R arr base (base + n)) {Q:Option Nat→SortSt→Prop}
  (h:∀ k,k ≤ n→(∀ i,i < k→gl R left key (kv R arr (base + i)) = true)→(∀ i,k ≤ i→i < n→gl R left key (kv R arr (base + i)) = false)→Q (some k) st) :
  wpS (model prog w) A E s (jlk left key arr base n hint) Q st:=by
 have bey:∀ (i:Nat),i < n→∀ (Q':Option Bool→SortSt→Prop),Q' (some (gl R left key (kv R arr (base + i)))) st →
   wpS (model prog w) A E s (do let x ← elem' arr (base + i); if left = true then lt' x key else do let z ← lt' key x; pure (z.map (!·))) Q' st:=by
  intro i hi Q' hq
  obtain ⟨x,e,m⟩:=harr i hi
  rw [kv_at e] at hq
  refine wpS_bind (jbe e ?_)
  unfold gl at hq
  cases left
  ·simp only [Bool.false_eq_true,if_false] at hq ⊢
   exact wpS_bind (w_lt C hk hkey m (wpS_pure hq))
  ·simp only [if_true] at hq ⊢
   exact w_lt C hk m hkey hq
 have up:∀ i j,i ≤ j→j < n→gl R left key (kv R arr (base + j)) = true→gl R left key (kv R arr (base + i)) = true:=fun i j h1 h2 h3=>gl_le h3 (u _ _ (by omega) (by omega) (by omega))
 have dn:∀ i j,i ≤ j→j < n→gl R left key (kv R arr (base + i)) = false→gl R left key (kv R arr (base + j)) = false:=fun i j h1 h2 h3=>by
  cases hj:gl R left key (kv R arr (base + j)) with
  | false=>rfl
  | true=>rw [up i j h1 h2 hj] at h3; cases h3
 clear u harr hkey
 generalize hg:(fun i=>gl R left key (kv R arr (base + i))) = g at *
 have hgi:∀ i,gl R left key (kv R arr (base + i)) = g i:=fun i=>by rw [← hg]
 simp only [hgi] at h bey up dn
 unfold jlk
 refine wpS_bind (bey hint hh _ ?_)
 cases hgh:g hint with
 | true =>
  dsimp only
  rw [if_pos rfl]
  refine wpS_bind (wpS_mono (wpS_forRange (I:=fun x c st'=>st' = st∧∃ l o,c = (none,l,o)∧l < o∧x < o∧hint + l < n∧g (hint + l) = true)
   (Q:=fun c st'=>st' = st∧∃ l o,c = (none,l,o)∧l < o∧hint + l < n∧g (hint + l) = true∧(n - hint ≤ o ∨ g (hint + o) = false)) ?step ?fin ⟨rfl,0,1,rfl,by omega,by omega,by omega,hgh⟩) ?post)
  case fin =>
   rintro c st' ⟨rfl,l,o,rfl,a1,a2,a3,a4⟩
   exact ⟨rfl,l,o,rfl,a1,a3,a4,.inl (by omega)⟩
  case step =>
   rintro x c st' _ hx ⟨rfl,l,o,rfl,a1,a2,a3,a4⟩
   dsimp only
   by_cases hge:o ≥ n - hint
   ·rw [if_pos hge]
    exact wpS_pure ⟨rfl,l,o,rfl,a1,a3,a4,.inl hge⟩
   ·rw [if_neg hge]
    refine wpS_bind (bey _ (by omega) _ ?_)
    cases hgo:g (hint + o) with
    | true=>exact wpS_pure ⟨rfl,o,_,rfl,by omega,by omega,by omega,hgo⟩
    | false=>exact wpS_pure ⟨rfl,l,o,rfl,a1,a3,a4,.inr hgo⟩
  case post =>
   rintro c st' ⟨rfl,l,o,rfl,a1,a2,a3,a4⟩
   dsimp only
   refine w_bis up h (fun x l r Q' c1 c2 y1 y2=>?hf) (fun x l Q' q=>?hf0) (fun l Q' q=>wpS_pure q) (lo:=hint + l + 1) (hi:=hint + min o (n - hint)) (by omega) (by omega) (fun i hi=>up i (hint + l) (by omega) (by omega) a3) fun i hi1 hi2=>?_
   case hf =>
    dsimp only
    rw [if_neg (by omega)]
    refine wpS_bind (bey _ (by omega) _ ?_)
    cases hg:g (l + (r - l) / 2) with
    | true=>exact wpS_pure (y1 hg)
    | false=>exact wpS_pure (y2 hg)
   case hf0 =>
    dsimp only
    rw [if_pos (Nat.le_refl _)]
    exact wpS_pure q
   rcases a4 with a4 | a4
   ·omega
   ·exact dn _ i (by omega) hi2 a4
 | false =>
  dsimp only
  rw [if_neg (by simp)]
  refine wpS_bind (wpS_mono (wpS_forRange (I:=fun x c st'=>st' = st∧∃ l o,c = (none,l,o)∧l < o∧x < o∧l ≤ hint∧g (hint - l) = false)
   (Q:=fun c st'=>st' = st∧∃ l o,c = (none,l,o)∧l < o∧l ≤ hint∧g (hint - l) = false∧(hint + 1 ≤ o ∨ g (hint - o) = true)) ?step2 ?fin2 ⟨rfl,0,1,rfl,by omega,by omega,by omega,hgh⟩) ?post2)
  case fin2 =>
   rintro c st' ⟨rfl,l,o,rfl,a1,a2,a3,a4⟩
   exact ⟨rfl,l,o,rfl,a1,a3,a4,.inl (by omega)⟩
  case step2 =>
   rintro x c st' _ hx ⟨rfl,l,o,rfl,a1,a2,a3,a4⟩
   dsimp only
   by_cases hge:o ≥ hint + 1
   ·rw [if_pos hge]
    exact wpS_pure ⟨rfl,l,o,rfl,a1,a3,a4,.inl hge⟩
   ·rw [if_neg hge]
    refine wpS_bind (bey _ (by omega) _ ?_)
    cases hgo:g (hint - o) with
    | true=>exact wpS_pure ⟨rfl,l,o,rfl,a1,a3,a4,.inr hgo⟩
    | false=>exact wpS_pure ⟨rfl,o,_,rfl,by omega,by omega,by omega,hgo⟩
  case post2 =>
   rintro c st' ⟨rfl,l,o,rfl,a1,a2,a3,a4⟩
   dsimp only
   refine w_bis up h (fun x l r Q' c1 c2 y1 y2=>?hf2) (fun x l Q' q=>?hf02) (fun l Q' q=>wpS_pure q) (lo:=hint + 1 - min o (hint + 1)) (hi:=hint - l) (by omega) (by omega) (fun i hi=>?_) fun i hi1 hi2=>dn (hint - l) i (by omega) hi2 a3
   case hf2 =>
    dsimp only
    rw [if_neg (by omega)]
    refine wpS_bind (bey _ (by omega) _ ?_)
    cases hg:g (l + (r - l) / 2) with
    | true=>exact wpS_pure (y1 hg)
    | false=>exact wpS_pure (y2 hg)
   case hf02 =>
    dsimp only
    rw [if_pos (Nat.le_refl _)]
    exact wpS_pure q
   rcases a4 with a4 | a4
   ·omega
   ·exact up i (hint - o) (by omega) (by omega) a4
end
end So
namespace So
open PySem PyProof.Rows
def Le (R:Keyed→Int):Keyed→Keyed→Prop:=fun x y=>R x ≤ R y
def MS (R:Keyed→Int) (o la lb tot:List Keyed):Prop:=(o ++ la).Pairwise (Le R)∧(o ++ lb).Pairwise (Le R)∧(o ++ (la ++ lb)).Perm tot
def Fi (R:Keyed→Int) (l tot:List Keyed):Prop:=l.Pairwise (Le R)∧l.Perm tot
section
variable {R:Keyed→Int} {o la lb tot xs:List Keyed}
theorem MS.a (h:MS R o (xs ++ la) lb tot) (hx:∀ x ∈ xs,∀ y ∈ lb,R x ≤ R y):MS R (o ++ xs) la lb tot:=by
 obtain ⟨h1,h2,h3⟩:=h
 refine ⟨by rw [List.append_assoc]; exact h1,?_,by rw [List.append_assoc,← List.append_assoc xs]; exact h3⟩
 rw [List.append_assoc,List.pairwise_append]
 rw [List.pairwise_append] at h1 h2
 obtain ⟨o1,o2,o3⟩:=h1
 obtain ⟨p1,p2,p3⟩:=h2
 rw [List.pairwise_append] at o2
 refine ⟨o1,List.pairwise_append.mpr ⟨o2.1,p2,hx⟩,fun x m y n=>?_⟩
 rcases List.mem_append.mp n with n | n
 ·exact o3 x m y (List.mem_append_left _ n)
 ·exact p3 x m y n
theorem MS.b (h:MS R o la (xs ++ lb) tot) (hx:∀ x ∈ xs,∀ y ∈ la,R x ≤ R y):MS R (o ++ xs) la lb tot:=by
 have z:MS R o (xs ++ lb) la tot:=⟨h.2.1,h.1,(List.Perm.append_left _ List.perm_append_comm).trans h.2.2⟩
 have q:=z.a hx
 exact ⟨q.2.1,q.1,(List.Perm.append_left _ List.perm_append_comm).trans q.2.2⟩
theorem MS.endA (h:MS R o la [] tot):Fi R (o ++ la) tot:=⟨h.1,by have z:=h.2.2; rwa [List.append_nil] at z⟩
theorem MS.endB (h:MS R o [] lb tot):Fi R (o ++ lb) tot:=⟨h.2.1,h.2.2⟩
theorem MS.last (h:MS R o la lb tot) (hx:∀ y ∈ lb,∀ x ∈ la,R y ≤ R x):Fi R (o ++ lb ++ la) tot:=by
 obtain ⟨h1,h2,h3⟩:=h
 refine ⟨?_,?_⟩
 ·rw [List.append_assoc,List.pairwise_append]
  rw [List.pairwise_append] at h1 h2
  refine ⟨h1.1,List.pairwise_append.mpr ⟨h2.2.1,h1.2.1,hx⟩,fun x m y n=>?_⟩
  rcases List.mem_append.mp n with n | n
  ·exact h2.2.2 x m y n
  ·exact h1.2.2 x m y n
 ·rw [List.append_assoc]; exact (List.Perm.append_left _ List.perm_append_comm).trans h3
end
section
variable {a:Array Keyed} {R:Keyed→Int} {i k:Nat}
theorem jiq {x:Keyed} (e:a[i]? = some x):a.toList.drop i = x :: a.toList.drop (i + 1):=by
 have hi:i < a.toList.length:=by
  rw [Array.length_toList]
  exact (Array.getElem?_eq_some_iff.mp e).1
 rw [List.drop_eq_getElem_cons hi]
 congr 1
 obtain ⟨h1,h2⟩:=Array.getElem?_eq_some_iff.mp e
 rw [← h2,Array.getElem_toList]
theorem jcd (a:Array Keyed) (i k:Nat):(a.extract i k).toList = (a.toList.drop i).take (k - i):=by
 rw [Array.toList_extract]
theorem jgb (a:Array Keyed) (i:Nat):(a.extract i a.size).toList = a.toList.drop i:=by
 rw [jcd]
 apply List.take_of_length_le
 rw [List.length_drop,Array.length_toList]
 exact Nat.le_refl _
theorem jjj (a:Array Keyed) (i k:Nat):a.toList.drop i = (a.extract i (i + k)).toList ++ a.toList.drop (i + k):=by
 rw [jcd,Nat.add_sub_cancel_left,← List.drop_drop,List.take_append_drop]
theorem jl3 {x:Keyed} (h:x ∈ (a.extract i (i + k)).toList):∃ j,j < k∧a[i + j]? = some x:=by
 rw [jcd,Nat.add_sub_cancel_left] at h
 obtain ⟨j,hj,e⟩:=List.getElem_of_mem h
 rw [List.getElem_take,List.getElem_drop] at e
 rw [List.length_take] at hj
 refine ⟨j,by omega,?_⟩
 rw [← e,← Array.getElem?_toList]
 exact List.getElem?_eq_getElem _
theorem jcc {x:Keyed} (h:x ∈ a.toList.drop i):∃ j,i ≤ j∧j < a.size∧a[j]? = some x:=by
 obtain ⟨j,hj,e⟩:=List.getElem_of_mem h
 rw [List.getElem_drop] at e
 rw [List.length_drop,Array.length_toList] at hj
 refine ⟨i + j,by omega,by omega,?_⟩
 rw [← e,← Array.getElem?_toList]
 exact List.getElem?_eq_getElem _
theorem jbb (h:i < a.size):∃ x,a[i]? = some x∧x ∈ a.toList:=⟨a[i],getElem?_pos _ i h,by simp⟩
theorem Up.le (u:Up R a 0 a.size) {j:Nat} {x y:Keyed} (hx:a[i]? = some x) (hy:a[j]? = some y) (h:i ≤ j):R x ≤ R y:=by
 have z:=u i j (Nat.zero_le _) h (Array.getElem?_eq_some_iff.mp hy).1
 rwa [kv_at hx,kv_at hy] at z
end
theorem jio {R:Keyed→Int} {key:Keyed} {v:Int} (h:gl R true key v = true):v < R key:=by unfold gl at h; simpa using h
theorem jg6 {R:Keyed→Int} {key:Keyed} {v:Int} (h:gl R true key v = false):R key ≤ v:=by unfold gl at h; simpa using h
theorem jg7 {R:Keyed→Int} {key:Keyed} {v:Int} (h:gl R false key v = true):v ≤ R key:=by unfold gl at h; simpa using h
theorem jem {R:Keyed→Int} {key:Keyed} {v:Int} (h:gl R false key v = false):R key < v:=by unfold gl at h; simpa using h
section
variable {M:Model} {A:Around} {E:Value→Shared→Prop} {s:Shared} {σ α:Type}
theorem jb3 {c:Prop} [Decidable c] {m n:StateT σ Sem α} {Q:α→σ→Prop} {st:σ} (h1:c→wpS M A E s m Q st) (h2:¬ c→wpS M A E s n Q st):wpS M A E s (if c then m else n) Q st:=by
 by_cases h:c
 ·rw [if_pos h]; exact h1 h
 ·rw [if_neg h]; exact h2 h
end
structure Lk (st st':SortSt):Prop where
 kind:kindOf st' = kindOf st
 arr:arrOf st' = arrOf st
 pend:pendingOf st' = pendingOf st
 ok:failedOf st' = failedOf st
theorem Lk.refl (st:SortSt):Lk st st:=⟨rfl,rfl,rfl,rfl⟩
theorem Lk.setg {st st':SortSt} (l:Lk st st') (g:Nat):Lk st (SortSt.mk' (kindOf st') (arrOf st') (pendingOf st') g (failedOf st')):=⟨l.kind,l.arr,l.pend,l.ok⟩
def setg:Nat→StateT SortSt Sem Unit:=sortPriv% PySem.Builtin.setMinGallop
section
variable {R:Keyed→Int} {a b out:Array Keyed} {ia ib k:Nat} {tot:List Keyed}
theorem pushB (m:MS R out.toList (a.toList.drop ia) (b.toList.drop ib) tot) {x:Keyed} (e:b[ib]? = some x) (h:∀ y ∈ a.toList.drop ia,R x ≤ R y):MS R (out.push x).toList (a.toList.drop ia) (b.toList.drop (ib + 1)) tot:=by
 rw [jiq e] at m
 rw [Array.toList_push]
 refine MS.b (xs:=[x]) m fun z hz y hy=>?_
 rw [List.mem_singleton.mp hz]; exact h y hy
theorem pushA (m:MS R out.toList (a.toList.drop ia) (b.toList.drop ib) tot) {x:Keyed} (e:a[ia]? = some x) (h:∀ y ∈ b.toList.drop ib,R x ≤ R y):MS R (out.push x).toList (a.toList.drop (ia + 1)) (b.toList.drop ib) tot:=by
 rw [jiq e] at m
 rw [Array.toList_push]
 refine MS.a (xs:=[x]) m fun z hz y hy=>?_
 rw [List.mem_singleton.mp hz]; exact h y hy
theorem appA (m:MS R out.toList (a.toList.drop ia) (b.toList.drop ib) tot) (h:∀ x ∈ (a.extract ia (ia + k)).toList,∀ y ∈ b.toList.drop ib,R x ≤ R y):MS R (out ++ a.extract ia (ia + k)).toList (a.toList.drop (ia + k)) (b.toList.drop ib) tot:=by
 rw [jjj a ia k] at m
 rw [Array.toList_append]
 exact MS.a m h
theorem appB (m:MS R out.toList (a.toList.drop ia) (b.toList.drop ib) tot) (h:∀ x ∈ (b.extract ib (ib + k)).toList,∀ y ∈ a.toList.drop ia,R x ≤ R y):MS R (out ++ b.extract ib (ib + k)).toList (a.toList.drop ia) (b.toList.drop (ib + k)) tot:=by
 rw [jjj b ib k] at m
 rw [Array.toList_append]
 exact MS.b m h
end
def mLo:Array Keyed→Array Keyed→StateT SortSt Sem (Array Keyed):=sortPriv% PySem.Builtin.mergeLo
def mHi:Array Keyed→Array Keyed→StateT SortSt Sem (Array Keyed):=sortPriv% PySem.Builtin.mergeHi
section
variable {prog:Program} {w:World} {A:Around} {E:Value→Shared→Prop} {s:Shared} {R:Keyed→Int} {κ:SortKind} {a₀:Array Keyed} {pd:Array (Nat × Nat × Nat)}
theorem jix {st st':SortSt} {g:Nat} {Q:Unit→SortSt→Prop} (l:Lk st st') (h:∀ st2,Lk st st2→Q () st2):wpS (model prog w) A E s (setg g) Q st':=wpS_modify (h _ (l.setg g))
abbrev LoSt:=Option (Array Keyed) × Array Keyed × Nat × Nat × Nat
theorem w_mLo (C:Cm prog w A s R κ a₀) {st:SortSt} (hk:kindOf st = κ) {a b:Array Keyed} {tot:List Keyed} (ha:∀ x ∈ a.toList,x ∈ a₀.toList) (hb:∀ x ∈ b.toList,x ∈ a₀.toList) (ua:Up R a 0 a.size) (ub:Up R b 0 b.size)
  (na:1 ≤ a.size) (nb:1 ≤ b.size) (h0:∀ x y,b[0]? = some x→a[0]? = some y→R x < R y) (hl:∀ x y,x ∈ b.toList→a[a.size - 1]? = some y→R x < R y) (ht:(a.toList ++ b.toList).Perm tot)
  {Q:Array Keyed→SortSt→Prop} (h:∀ m st',Lk st st'→Fi R m.toList tot→Q m st'):wpS (model prog w) A E s (mLo a b) Q st:=by
 obtain ⟨b0,eb0,mb0⟩:=jbb (a:=b) (i:=0) nb
 obtain ⟨a0,ea0,ma0⟩:=jbb (a:=a) (i:=0) na
 have m0:MS R [b0] (a.toList.drop 0) (b.toList.drop 1) tot:=by
  have e:=jiq eb0
  have z:MS R [] (a.toList.drop 0) ([b0] ++ b.toList.drop 1) tot:=by
   refine ⟨?_,?_,?_⟩
   ·rw [List.nil_append,List.drop_zero,List.pairwise_iff_getElem]
    intro i j hi hj hij
    rw [Array.length_toList] at hi hj
    exact ua.le (getElem?_pos a i hi) (getElem?_pos a j hj) (Nat.le_of_lt hij)
   ·rw [List.nil_append,List.singleton_append,← e,List.drop_zero,List.pairwise_iff_getElem]
    intro i j hi hj hij
    rw [Array.length_toList] at hi hj
    exact ub.le (getElem?_pos b i hi) (getElem?_pos b j hj) (Nat.le_of_lt hij)
   ·rw [List.nil_append,List.singleton_append,← e,List.drop_zero,List.drop_zero]; exact ht
  refine z.b fun x hx y hy=>?_
  rw [List.mem_singleton] at hx
  subst hx
  obtain ⟨j,j1,j2,j3⟩:=jcc hy
  exact Int.le_of_lt (Int.lt_of_lt_of_le (h0 _ _ eb0 ea0) (ua.le ea0 j3 (Nat.zero_le _)))
 have dn:∀ (out:Array Keyed) (ia ib:Nat),MS R out.toList (a.toList.drop ia) (b.toList.drop ib) tot→(ia = a.size ∨ ib = b.size)→Fi R (out ++ a.extract ia a.size ++ b.extract ib b.size).toList tot:=by
  intro out ia ib m hor
  rw [Array.toList_append,Array.toList_append,jgb,jgb]
  rcases hor with e | e
  ·have e2:a.toList.drop ia = []:=by rw [e]; apply List.drop_of_length_le; rw [Array.length_toList]; exact Nat.le_refl _
   rw [e2] at m ⊢
   rw [List.append_nil]; exact m.endB
  ·have e2:b.toList.drop ib = []:=by rw [e]; apply List.drop_of_length_le; rw [Array.length_toList]; exact Nat.le_refl _
   rw [e2] at m ⊢
   rw [List.append_nil]; exact m.endA
 have ls:∀ (out:Array Keyed) (ia ib:Nat),MS R out.toList (a.toList.drop ia) (b.toList.drop ib) tot→ia + 1 = a.size→Fi R (out ++ b.extract ib b.size ++ a.extract ia a.size).toList tot:=by
  intro out ia ib m e
  rw [Array.toList_append,Array.toList_append,jgb,jgb]
  refine m.last fun y hy x hx=>?_
  obtain ⟨j,j1,j2,j3⟩:=jcc hx
  have ej:j = a.size - 1:=by omega
  rw [ej] at j3
  exact Int.le_of_lt (hl _ _ (List.mem_of_mem_drop hy) j3)
 unfold mLo
 refine wpS_bind (wpS_lift (wpAny_rule ⟨rfl,?_⟩))
 refine wpS_bind (jbe eb0 ?_)
 refine jb3 (fun c=>wpS_pure (h _ _ (.refl _) (dn _ _ _ m0 (.inr (by simpa using c))))) fun c1=>?_
 refine jb3 (fun c=>wpS_pure (h _ _ (.refl _) (ls _ _ _ m0 (by simpa using c)))) fun c2=>?_
 have c1':1 < b.size:=by simp at c1; omega
 have c2':1 < a.size:=by simp at c2; omega
 refine wpS_bind (wpS_get ?_)
 refine wpS_bind (wpS_mono (wpS_forRange (I:=fun x (c:LoSt) st'=>Lk st st'∧∃ out ia ib mg,c = (none,out,ia,ib,mg)∧MS R out.toList (a.toList.drop ia) (b.toList.drop ib) tot∧ia + 1 < a.size∧ib < b.size∧x < ia + ib)
  (Q:=fun (c:LoSt) st'=>Lk st st'∧∃ m out ia ib mg,c = (some m,out,ia,ib,mg)∧Fi R m.toList tot) ?step ?fin ⟨.refl _,#[b0],0,1,_,rfl,m0,by omega,by omega,by omega⟩) ?post)
 case fin =>
  rintro c st' ⟨l,out,ia,ib,mg,rfl,m,d1,d2,d3⟩
  omega
 case post =>
  rintro c st' ⟨l,m,out,ia,ib,mg,rfl,f⟩
  exact wpS_pure (h m st' l f)
 case step =>
  rintro x c st' _ hx ⟨l,out,ia,ib,mg,rfl,m,d1,d2,d3⟩
  refine wpS_bind (wpS_mono (wpS_forRange (I:=fun y (c:Option (Array Keyed) × Array Keyed × Nat × Nat × Nat × Nat) st2=>st2 = st'∧∃ out ia ib ac bc,c = (none,out,ia,ib,ac,bc)∧MS R out.toList (a.toList.drop ia) (b.toList.drop ib) tot∧ia + 1 < a.size∧ib < b.size∧x + min y 1 < ia + ib)
   (Q:=fun (c:Option (Array Keyed) × Array Keyed × Nat × Nat × Nat × Nat) st2=>st2 = st'∧((∃ m out ia ib ac bc,c = (some m,out,ia,ib,ac,bc)∧Fi R m.toList tot) ∨
    (∃ out ia ib ac bc,c = (none,out,ia,ib,ac,bc)∧MS R out.toList (a.toList.drop ia) (b.toList.drop ib) tot∧ia + 1 < a.size∧ib < b.size∧x + 1 < ia + ib))) ?s1 ?f1 ⟨rfl,out,ia,ib,0,0,rfl,m,d1,d2,by omega⟩) ?p1)
  case f1 =>
   rintro c st2 ⟨rfl,out,ia,ib,ac,bc,rfl,m,d1,d2,d3⟩
   exact ⟨rfl,.inr ⟨out,ia,ib,ac,bc,rfl,m,d1,d2,by omega⟩⟩
  case s1 =>
   rintro y c st2 _ hy ⟨rfl,out,ia,ib,ac,bc,rfl,m,d1,d2,d3⟩
   obtain ⟨bx,eb,mb⟩:=jbb (a:=b) d2
   obtain ⟨ax,ea,ma⟩:=jbb (a:=a) (i:=ia) (by omega)
   refine wpS_bind (jbe eb ?_)
   refine wpS_bind (jbe ea ?_)
   refine wpS_bind (w_lt C (l.kind.trans hk) (hb _ mb) (ha _ ma) ?_)
   by_cases hlt:R bx < R ax
   ·rw [decide_eq_true hlt]
    refine wpS_bind (jbe eb ?_)
    have m2:=pushB m eb fun z hz=>by
     obtain ⟨j,j1,j2,j3⟩:=jcc hz
     exact Int.le_of_lt (Int.lt_of_lt_of_le hlt (ua.le ea j3 j1))
    refine jb3 (fun c=>wpS_pure ⟨rfl,.inl ⟨_,_,_,_,_,_,rfl,dn _ _ _ m2 (.inr (by simpa using c))⟩⟩) fun c=>?_
    have c':ib + 1 < b.size:=by simp at c; omega
    have n1:x + 1 < ia + (ib + 1):=by omega
    have n2:x + min (y + 1) 1 < ia + (ib + 1):=by omega
    exact jb3 (fun _=>wpS_pure ⟨rfl,.inr ⟨_,_,_,_,_,rfl,m2,d1,c',n1⟩⟩) fun _=>wpS_pure ⟨rfl,_,_,_,_,_,rfl,m2,d1,c',n2⟩
   ·rw [decide_eq_false hlt]
    refine wpS_bind (jbe ea ?_)
    have m2:=pushA m ea fun z hz=>by
     obtain ⟨j,j1,j2,j3⟩:=jcc hz
     exact Int.le_trans (Int.not_lt.mp hlt) (ub.le eb j3 j1)
    refine jb3 (fun c=>wpS_pure ⟨rfl,.inl ⟨_,_,_,_,_,_,rfl,ls _ _ _ m2 (by simpa using c)⟩⟩) fun c=>?_
    have c':ia + 1 + 1 < a.size:=by simp at c; omega
    have n1:x + 1 < ia + 1 + ib:=by omega
    have n2:x + min (y + 1) 1 < ia + 1 + ib:=by omega
    exact jb3 (fun _=>wpS_pure ⟨rfl,.inr ⟨_,_,_,_,_,rfl,m2,c',d2,n1⟩⟩) fun _=>wpS_pure ⟨rfl,_,_,_,_,_,rfl,m2,c',d2,n2⟩
  case p1 =>
   rintro c st2 ⟨rfl,⟨m',out,ia,ib,ac,bc,rfl,f⟩ | ⟨out,ia,ib,ac,bc,rfl,m,d1,d2,d3⟩⟩
   ·exact wpS_pure ⟨l,m',_,_,_,_,rfl,f⟩
   ·refine wpS_bind (wpS_lift (wpAny_rule ⟨rfl,?_⟩))
    refine wpS_bind (wpS_mono (wpS_forRange (I:=fun y (c:Option (Array Keyed) × Array Keyed × Nat × Nat × Nat × Nat × Nat) st2=>Lk st st2∧∃ out ia ib mg ac bc,c = (none,out,ia,ib,mg,ac,bc)∧MS R out.toList (a.toList.drop ia) (b.toList.drop ib) tot∧ia + 1 < a.size∧ib < b.size∧x + 1 < ia + ib)
     (Q:=fun (c:Option (Array Keyed) × Array Keyed × Nat × Nat × Nat × Nat × Nat) st2=>Lk st st2∧((∃ m out ia ib mg ac bc,c = (some m,out,ia,ib,mg,ac,bc)∧Fi R m.toList tot) ∨
      (∃ out ia ib mg ac bc,c = (none,out,ia,ib,mg,ac,bc)∧MS R out.toList (a.toList.drop ia) (b.toList.drop ib) tot∧ia + 1 < a.size∧ib < b.size∧x + 1 < ia + ib))) ?s2 ?f2 ⟨l,out,ia,ib,_,ac,bc,rfl,m,d1,d2,d3⟩) ?p2)
    case f2 =>
     rintro c st3 ⟨l3,out,ia,ib,mg,ac,bc,rfl,m,d1,d2,d3⟩
     exact ⟨l3,.inr ⟨out,ia,ib,mg,ac,bc,rfl,m,d1,d2,d3⟩⟩
    case p2 =>
     rintro c st3 ⟨l3,⟨m',out,ia,ib,mg,ac,bc,rfl,f⟩ | ⟨out,ia,ib,mg,ac,bc,rfl,m,d1,d2,d3⟩⟩
     ·exact wpS_pure ⟨l3,m',_,_,_,_,rfl,f⟩
     ·exact wpS_bind (jix l3 fun st4 l4=>wpS_pure ⟨l4,_,_,_,_,rfl,m,d1,d2,d3⟩)
    case s2 =>
     rintro y c st3 _ hy ⟨l2,out,ia,ib,mg,ac,bc,rfl,m,d1,d2,d3⟩
     obtain ⟨bx,eb,mb⟩:=jbb (a:=b) d2
     refine jb3 (fun _=>?_) fun _=>?_
     all_goals
      refine wpS_bind (jix l2 fun st4 l3=>?_)
      refine wpS_bind (jbe eb ?_)
      refine wpS_bind (jcs (base:=ia) (n:=a.size - ia) (hint:=0) C (l3.kind.trans hk) (hb _ mb) (fun i hi=>by
       obtain ⟨z,z1,z2⟩:=jbb (a:=a) (i:=ia + i) (by omega)
       exact ⟨z,z1,ha _ z2⟩) (by omega) (fun i j q1 q2 q3=>ua i j (Nat.zero_le _) q2 (by omega)) fun k k1 k2 k3=>?_)
      have lowA:∀ x ∈ (a.extract ia (ia + k)).toList,∀ y ∈ b.toList.drop ib,R x ≤ R y:=fun x hx y hy=>by
       obtain ⟨j,j1,j2⟩:=jl3 hx
       obtain ⟨i,i1,i2,i3⟩:=jcc hy
       have q:=jg7 (k2 j j1)
       rw [kv_at j2] at q
       exact Int.le_trans q (ub.le eb i3 i1)
      have upA:∀ y ∈ a.toList.drop (ia + k),R bx ≤ R y:=fun y hy=>by
       obtain ⟨i,i1,i2,i3⟩:=jcc hy
       have q:=jem (k3 (i - ia) (by omega) (by omega))
       rw [show ia + (i - ia) = i by omega,kv_at i3] at q
       exact Int.le_of_lt q
      have mk:=appA m lowA
      refine jb3 (fun ck=>?_) fun ck=>?_
      case' refine_1 =>
       refine jb3 (fun c=>wpS_pure ⟨l3,.inl ⟨_,_,_,_,_,_,_,rfl,ls _ _ _ mk (by simpa using c)⟩⟩) fun c3=>?_
       refine jb3 (fun c=>wpS_pure ⟨l3,.inl ⟨_,_,_,_,_,_,_,rfl,dn _ _ _ mk (.inl (by simpa using c))⟩⟩) fun c4=>?_
       have d4:ia + k + 1 < a.size:=by simp at c3 c4; omega
       have n1:∀ z,x + 1 < ia + k + 1 + (ib + 1 + z):=fun z=>by omega
       obtain ⟨ax,ea,ma⟩:=jbb (a:=a) (i:=ia + k) (by omega)
      case' refine_2 =>
       have e0:k = 0:=by omega
       subst e0
       have d4:ia + 0 + 1 < a.size:=d1
       have n1:∀ z,x + 1 < ia + 0 + 1 + (ib + 1 + z):=fun z=>by omega
       replace mk:=m
       obtain ⟨ax,ea,ma⟩:=jbb (a:=a) (i:=ia + 0) (by omega)
      all_goals
       refine wpS_bind (jbe eb ?_)
       have m3:=pushB mk eb upA
       refine jb3 (fun c=>wpS_pure ⟨l3,.inl ⟨_,_,_,_,_,_,_,rfl,dn _ _ _ m3 (.inr (by simpa using c))⟩⟩) fun c5=>?_
       have d5:ib + 1 < b.size:=by simp at c5; omega
       refine wpS_bind (jbe ea ?_)
       refine wpS_bind (jcs (base:=ib + 1) (n:=b.size - (ib + 1)) (hint:=0) C (l3.kind.trans hk) (ha _ ma) (fun i hi=>by
        obtain ⟨z,z1,z2⟩:=jbb (a:=b) (i:=ib + 1 + i) (by omega)
        exact ⟨z,z1,hb _ z2⟩) (by omega) (fun i j q1 q2 q3=>ub i j (Nat.zero_le _) q2 (by omega)) fun k' j1 j2 j3=>?_)
       have m4:=appB (k:=k') m3 fun x hx y hy=>by
        obtain ⟨j,i1,i2⟩:=jl3 hx
        obtain ⟨i,i3,i4,i5⟩:=jcc hy
        have q:=jio (j2 j i1)
        rw [kv_at i2] at q
        exact Int.le_of_lt (Int.lt_of_lt_of_le q (ua.le ea i5 i3))
       have upB:∀ y ∈ b.toList.drop (ib + 1 + k'),R ax ≤ R y:=fun y hy=>by
        obtain ⟨i,i1,i2,i3⟩:=jcc hy
        have q:=jg6 (j3 (i - (ib + 1)) (by omega) (by omega))
        rwa [show ib + 1 + (i - (ib + 1)) = i by omega,kv_at i3] at q
       refine jb3 (fun ck=>?_) fun ck=>?_
       case' refine_1 =>
        refine jb3 (fun c=>wpS_pure ⟨l3,.inl ⟨_,_,_,_,_,_,_,rfl,dn _ _ _ m4 (.inr (by simpa using c))⟩⟩) fun c6=>?_
        have d6:ib + 1 + k' < b.size:=by simp at c6; omega
        have n2:=n1 k'
       case' refine_2 =>
        have e0:k' = 0:=by omega
        subst e0
        have d6:ib + 1 + 0 < b.size:=d5
        have n2:=n1 0
        replace m4:=m3
       all_goals
        refine wpS_bind (jbe ea ?_)
        have m5:=pushA m4 ea upB
        refine jb3 (fun c=>wpS_pure ⟨l3,.inl ⟨_,_,_,_,_,_,_,rfl,ls _ _ _ m5 (by simpa using c)⟩⟩) fun c7=>?_
        have d7:=Nat.lt_of_le_of_ne (Nat.succ_le_of_lt d4) (by simpa using c7)
        exact jb3 (fun _=>wpS_pure ⟨l3,.inr ⟨_,_,_,_,_,_,rfl,m5,d7,d6,n2⟩⟩) fun _=>wpS_pure ⟨l3,_,_,_,_,_,_,rfl,m5,d7,d6,n2⟩
end
end So
namespace So
open PySem PyProof.Rows
def MH (R:Keyed→Int) (la lb o tot:List Keyed):Prop:=(la ++ o).Pairwise (Le R)∧(lb ++ o).Pairwise (Le R)∧(la ++ (lb ++ o)).Perm tot
section
variable {R:Keyed→Int} {o la lb tot xs:List Keyed}
theorem MH.a (h:MH R (la ++ xs) lb o tot) (hx:∀ x ∈ xs,∀ y ∈ lb,R y ≤ R x):MH R la lb (xs ++ o) tot:=by
 obtain ⟨h1,h2,h3⟩:=h
 refine ⟨by rw [← List.append_assoc]; exact h1,?_,?_⟩
 ·rw [List.append_assoc,List.pairwise_append] at h1
  rw [List.pairwise_append] at h2 ⊢
  refine ⟨h2.1,h1.2.1,fun y hy x hx2=>?_⟩
  rcases List.mem_append.mp hx2 with n | n
  ·exact hx x n y hy
  ·exact h2.2.2 y hy x n
 ·refine List.Perm.trans ?_ h3
  rw [List.append_assoc]
  refine List.Perm.append_left _ ?_
  rw [← List.append_assoc,← List.append_assoc]
  exact List.Perm.append_right _ List.perm_append_comm
theorem MH.swap (h:MH R la lb o tot):MH R lb la o tot:=by
 refine ⟨h.2.1,h.1,List.Perm.trans ?_ h.2.2⟩
 rw [← List.append_assoc,← List.append_assoc]
 exact List.Perm.append_right _ List.perm_append_comm
theorem MH.b (h:MH R la (lb ++ xs) o tot) (hx:∀ x ∈ xs,∀ y ∈ la,R y ≤ R x):MH R la lb (xs ++ o) tot:=(h.swap.a hx).swap
theorem MH.endB (h:MH R [] lb o tot):Fi R (lb ++ o) tot:=⟨h.2.1,h.2.2⟩
theorem MH.endA (h:MH R la [] o tot):Fi R (la ++ o) tot:=⟨h.1,h.2.2⟩
theorem MH.first (h:MH R la lb o tot) (hx:∀ y ∈ lb,∀ x ∈ la,R y ≤ R x):Fi R (lb ++ la ++ o) tot:=by
 obtain ⟨h1,h2,h3⟩:=h.swap
 refine ⟨?_,by rw [List.append_assoc]; exact h3⟩
 rw [List.append_assoc]
 rw [List.pairwise_append] at h1 h2 ⊢
 refine ⟨h1.1,List.pairwise_append.mpr h2,fun y hy x hx2=>?_⟩
 rcases List.mem_append.mp hx2 with n | n
 ·exact hx y hy x n
 ·exact h1.2.2 y hy x n
end
section
variable {a:Array Keyed} {R:Keyed→Int} {i k n:Nat}
theorem jkb {x:Keyed} (h:0 < n) (e:a[n - 1]? = some x):a.toList.take n = a.toList.take (n - 1) ++ [x]:=by
 have e2:a.toList[n - 1]? = some x:=by rw [Array.getElem?_toList]; exact e
 have z:a.toList.take (n - 1 + 1) = a.toList.take (n - 1) ++ a.toList[n - 1]?.toList:=List.take_succ
 rw [e2,Nat.sub_add_cancel h] at z
 exact z
theorem jj0 (h:i ≤ n):a.toList.take n = a.toList.take i ++ (a.extract i n).toList:=by
 rw [jcd]
 have z:a.toList.take (i + (n - i)) = a.toList.take i ++ (a.toList.drop i).take (n - i):=List.take_add
 rwa [Nat.add_sub_cancel' h] at z
theorem ext0 (a:Array Keyed) (n:Nat):(a.extract 0 n).toList = a.toList.take n:=by rw [jcd]; rfl
theorem jcb {x:Keyed} (h:x ∈ a.toList.take n):∃ j,j < n∧j < a.size∧a[j]? = some x:=by
 obtain ⟨j,hj,e⟩:=List.getElem_of_mem h
 rw [List.getElem_take] at e
 rw [List.length_take,Array.length_toList] at hj
 refine ⟨j,by omega,by omega,?_⟩
 rw [← e,← Array.getElem?_toList]
 exact List.getElem?_eq_getElem _
theorem jcl {x:Keyed} (h:x ∈ (a.extract i n).toList):∃ j,i ≤ j∧j < n∧a[j]? = some x:=by
 rw [jcd] at h
 obtain ⟨j,hj,e⟩:=List.getElem_of_mem h
 rw [List.getElem_take,List.getElem_drop] at e
 rw [List.length_take] at hj
 refine ⟨i + j,by omega,by omega,?_⟩
 rw [← e,← Array.getElem?_toList]
 exact List.getElem?_eq_getElem _
end
section
variable {R:Keyed→Int} {a b out:Array Keyed} {na nb k:Nat} {tot:List Keyed}
abbrev MHa (R:Keyed→Int) (a b:Array Keyed) (tot:List Keyed) (na nb:Nat) (out:Array Keyed):Prop:=MH R (a.toList.take na) (b.toList.take nb) out.toList.reverse tot
theorem jlh (m:MHa R a b tot na nb out) (h:0 < na) {x:Keyed} (e:a[na - 1]? = some x) (hx:∀ y ∈ b.toList.take nb,R y ≤ R x):MHa R a b tot (na - 1) nb (out.push x):=by
 unfold MHa at m ⊢
 rw [jkb h e] at m
 rw [Array.toList_push,List.reverse_append]
 exact m.a (xs:=[x]) fun z hz=>by rw [List.mem_singleton.mp hz]; exact hx
theorem jns (m:MHa R a b tot na nb out) (h:0 < nb) {x:Keyed} (e:b[nb - 1]? = some x) (hx:∀ y ∈ a.toList.take na,R y ≤ R x):MHa R a b tot na (nb - 1) (out.push x):=by
 unfold MHa at m ⊢
 rw [jkb h e] at m
 rw [Array.toList_push,List.reverse_append]
 exact m.b (xs:=[x]) fun z hz=>by rw [List.mem_singleton.mp hz]; exact hx
theorem happA (m:MHa R a b tot na nb out) (h:k ≤ na) (hx:∀ x ∈ (a.extract k na).toList,∀ y ∈ b.toList.take nb,R y ≤ R x):MHa R a b tot k nb (out ++ (a.extract k na).reverse):=by
 unfold MHa at m ⊢
 rw [jj0 h] at m
 rw [Array.toList_append,List.reverse_append,Array.toList_reverse,List.reverse_reverse]
 exact m.a hx
theorem happB (m:MHa R a b tot na nb out) (h:k ≤ nb) (hx:∀ x ∈ (b.extract k nb).toList,∀ y ∈ a.toList.take na,R y ≤ R x):MHa R a b tot na k (out ++ (b.extract k nb).reverse):=by
 unfold MHa at m ⊢
 rw [jj0 h] at m
 rw [Array.toList_append,List.reverse_append,Array.toList_reverse,List.reverse_reverse]
 exact m.b hx
end
section
variable {prog:Program} {w:World} {A:Around} {E:Value→Shared→Prop} {s:Shared} {R:Keyed→Int} {κ:SortKind} {a₀:Array Keyed} {pd:Array (Nat × Nat × Nat)}
abbrev HiSt:=Option (Array Keyed) × Nat × Nat × Array Keyed × Nat
theorem w_mHi (C:Cm prog w A s R κ a₀) {st:SortSt} (hk:kindOf st = κ) {a b:Array Keyed} {tot:List Keyed} (ha:∀ x ∈ a.toList,x ∈ a₀.toList) (hb:∀ x ∈ b.toList,x ∈ a₀.toList) (ua:Up R a 0 a.size) (ub:Up R b 0 b.size)
  (na1:1 ≤ a.size) (nb1:1 ≤ b.size) (h0:∀ x y,b[0]? = some x→a[0]? = some y→R x < R y) (hl:∀ x y,x ∈ b.toList→a[a.size - 1]? = some y→R x < R y) (ht:(a.toList ++ b.toList).Perm tot)
  {Q:Array Keyed→SortSt→Prop} (h:∀ m st',Lk st st'→Fi R m.toList tot→Q m st'):wpS (model prog w) A E s (mHi a b) Q st:=by
 obtain ⟨al,eal,mal⟩:=jbb (a:=a) (i:=a.size - 1) (by omega)
 obtain ⟨b0,eb0,mb0⟩:=jbb (a:=b) (i:=0) nb1
 obtain ⟨a0,ea0,ma0⟩:=jbb (a:=a) (i:=0) na1
 have alla:a.toList.take a.size = a.toList:=List.take_of_length_le (by rw [Array.length_toList]; exact Nat.le_refl _)
 have allb:b.toList.take b.size = b.toList:=List.take_of_length_le (by rw [Array.length_toList]; exact Nat.le_refl _)
 have m0:MHa R a b tot (a.size - 1) b.size #[al]:=by
  have z:MHa R a b tot a.size b.size #[]:=by
   refine ⟨?_,?_,?_⟩
   ·rw [show (#[]:Array Keyed).toList.reverse = [] from rfl,List.append_nil,alla,List.pairwise_iff_getElem]
    intro i j hi hj hij
    rw [Array.length_toList] at hi hj
    exact ua.le (getElem?_pos a i hi) (getElem?_pos a j hj) (Nat.le_of_lt hij)
   ·rw [show (#[]:Array Keyed).toList.reverse = [] from rfl,List.append_nil,allb,List.pairwise_iff_getElem]
    intro i j hi hj hij
    rw [Array.length_toList] at hi hj
    exact ub.le (getElem?_pos b i hi) (getElem?_pos b j hj) (Nat.le_of_lt hij)
   ·rw [show (#[]:Array Keyed).toList.reverse = [] from rfl,List.append_nil,alla,allb]; exact ht
  refine jlh z (by omega) eal fun y hy=>?_
  rw [allb] at hy
  exact Int.le_of_lt (hl _ _ hy eal)
 have dn:∀ (na nb:Nat) (out:Array Keyed),MHa R a b tot na nb out→(na = 0 ∨ nb = 0)→Fi R (a.extract 0 na ++ b.extract 0 nb ++ out.reverse).toList tot:=by
  intro na nb out m hor
  unfold MHa at m
  rw [Array.toList_append,Array.toList_append,ext0,ext0,Array.toList_reverse]
  rcases hor with e | e
  ·rw [e,List.take_zero] at m ⊢
   exact m.endB
  ·rw [e,List.take_zero] at m ⊢
   rw [List.append_nil]; exact m.endA
 have fs:∀ (na nb:Nat) (out:Array Keyed),MHa R a b tot na nb out→nb = 1→Fi R (b.extract 0 nb ++ a.extract 0 na ++ out.reverse).toList tot:=by
  intro na nb out m e
  unfold MHa at m
  rw [Array.toList_append,Array.toList_append,ext0,ext0,Array.toList_reverse]
  refine m.first fun y hy x hx=>?_
  obtain ⟨j,j1,j2,j3⟩:=jcb hy
  obtain ⟨i,i1,i2,i3⟩:=jcb hx
  have ej:j = 0:=by omega
  rw [ej] at j3
  exact Int.le_of_lt (Int.lt_of_lt_of_le (h0 _ _ j3 ea0) (ua.le ea0 i3 (Nat.zero_le _)))
 unfold mHi
 refine wpS_bind (wpS_lift (wpAny_rule ⟨rfl,?_⟩))
 refine wpS_bind (jbe eal ?_)
 refine jb3 (fun c=>wpS_pure (h _ _ (.refl _) (dn _ _ _ m0 (.inl (by simpa using c))))) fun c1=>?_
 refine jb3 (fun c=>wpS_pure (h _ _ (.refl _) (fs _ _ _ m0 (by simpa using c)))) fun c2=>?_
 have c1':0 < a.size - 1:=by
  rcases Nat.eq_zero_or_pos (a.size - 1) with z | z
  ·exact absurd (by rw [z]; rfl) c1
  ·exact z
 have c2':1 < b.size:=by simp at c2; omega
 refine wpS_bind (wpS_get ?_)
 refine wpS_bind (wpS_mono (wpS_forRange (I:=fun x (c:HiSt) st'=>Lk st st'∧∃ na nb out mg,c = (none,na,nb,out,mg)∧MHa R a b tot na nb out∧0 < na∧na ≤ a.size∧1 < nb∧nb ≤ b.size∧x + na + nb < a.size + b.size)
  (Q:=fun (c:HiSt) st'=>Lk st st'∧∃ m na nb out mg,c = (some m,na,nb,out,mg)∧Fi R m.toList tot) ?step ?fin ⟨.refl _,a.size - 1,b.size,#[al],_,rfl,m0,c1',by omega,c2',Nat.le_refl _,by omega⟩) ?post)
 case fin =>
  rintro c st' ⟨l,na,nb,out,mg,rfl,m,d1,d2,d3,d4,d5⟩
  omega
 case post =>
  rintro c st' ⟨l,m,na,nb,out,mg,rfl,f⟩
  exact wpS_pure (h m st' l f)
 case step =>
  rintro x c st' _ hx ⟨l,na,nb,out,mg,rfl,m,d1,d2,d3,d4,d5⟩
  refine wpS_bind (wpS_mono (wpS_forRange (I:=fun y (c:Option (Array Keyed) × Nat × Nat × Array Keyed × Nat × Nat) st2=>st2 = st'∧∃ na nb out ac bc,c = (none,na,nb,out,ac,bc)∧MHa R a b tot na nb out∧0 < na∧na ≤ a.size∧1 < nb∧nb ≤ b.size∧x + min y 1 + na + nb < a.size + b.size)
   (Q:=fun (c:Option (Array Keyed) × Nat × Nat × Array Keyed × Nat × Nat) st2=>st2 = st'∧((∃ m na nb out ac bc,c = (some m,na,nb,out,ac,bc)∧Fi R m.toList tot) ∨
    (∃ na nb out ac bc,c = (none,na,nb,out,ac,bc)∧MHa R a b tot na nb out∧0 < na∧na ≤ a.size∧1 < nb∧nb ≤ b.size∧x + 1 + na + nb < a.size + b.size))) ?s1 ?f1 ⟨rfl,na,nb,out,0,0,rfl,m,d1,d2,d3,d4,by omega⟩) ?p1)
  case f1 =>
   rintro c st2 ⟨rfl,na,nb,out,ac,bc,rfl,m,d1,d2,d3,d4,d5⟩
   exact ⟨rfl,.inr ⟨na,nb,out,ac,bc,rfl,m,d1,d2,d3,d4,by omega⟩⟩
  case s1 =>
   rintro y c st2 _ hy ⟨rfl,na,nb,out,ac,bc,rfl,m,d1,d2,d3,d4,d5⟩
   obtain ⟨bx,eb,mb⟩:=jbb (a:=b) (i:=nb - 1) (by omega)
   obtain ⟨ax,ea,ma⟩:=jbb (a:=a) (i:=na - 1) (by omega)
   refine wpS_bind (jbe eb ?_)
   refine wpS_bind (jbe ea ?_)
   refine wpS_bind (w_lt C (l.kind.trans hk) (hb _ mb) (ha _ ma) ?_)
   by_cases hlt:R bx < R ax
   ·rw [decide_eq_true hlt]
    refine wpS_bind (jbe ea ?_)
    have m2:=jlh m d1 ea fun z hz=>by
     obtain ⟨j,j1,j2,j3⟩:=jcb hz
     exact Int.le_trans (ub.le j3 eb (by omega)) (Int.le_of_lt hlt)
    refine jb3 (fun c=>wpS_pure ⟨rfl,.inl ⟨_,_,_,_,_,_,rfl,dn _ _ _ m2 (.inl (by simpa using c))⟩⟩) fun c=>?_
    have c':0 < na - 1:=by
     rcases Nat.eq_zero_or_pos (na - 1) with z | z
     ·exact absurd (by rw [show (none,na,nb,out,ac,bc).snd.fst = na from rfl,z]; rfl) c
     ·exact z
    have n0:na - 1 ≤ a.size:=by omega
    have n1:x + 1 + (na - 1) + nb < a.size + b.size:=by omega
    have n2:x + min (y + 1) 1 + (na - 1) + nb < a.size + b.size:=by omega
    exact jb3 (fun _=>wpS_pure ⟨rfl,.inr ⟨_,_,_,_,_,rfl,m2,c',n0,d3,d4,n1⟩⟩) fun _=>wpS_pure ⟨rfl,_,_,_,_,_,rfl,m2,c',n0,d3,d4,n2⟩
   ·rw [decide_eq_false hlt]
    refine wpS_bind (jbe eb ?_)
    have m2:=jns m (by omega) eb fun z hz=>by
     obtain ⟨j,j1,j2,j3⟩:=jcb hz
     exact Int.le_trans (ua.le j3 ea (by omega)) (Int.not_lt.mp hlt)
    refine jb3 (fun c=>wpS_pure ⟨rfl,.inl ⟨_,_,_,_,_,_,rfl,fs _ _ _ m2 (by simpa using c)⟩⟩) fun c=>?_
    have c':1 < nb - 1:=by
     have z:nb - 1 ≠ 1:=fun z=>c (by rw [show (none,na,nb,out,ac,bc).snd.snd.fst = nb from rfl,z]; rfl)
     omega
    have n0:nb - 1 ≤ b.size:=by omega
    have n1:x + 1 + na + (nb - 1) < a.size + b.size:=by omega
    have n2:x + min (y + 1) 1 + na + (nb - 1) < a.size + b.size:=by omega
    exact jb3 (fun _=>wpS_pure ⟨rfl,.inr ⟨_,_,_,_,_,rfl,m2,d1,d2,c',n0,n1⟩⟩) fun _=>wpS_pure ⟨rfl,_,_,_,_,_,rfl,m2,d1,d2,c',n0,n2⟩
  case p1 =>
   rintro c st2 ⟨rfl,⟨m',na,nb,out,ac,bc,rfl,f⟩ | ⟨na,nb,out,ac,bc,rfl,m,d1,d2,d3,d4,d5⟩⟩
   ·exact wpS_pure ⟨l,m',_,_,_,_,rfl,f⟩
   ·refine wpS_bind (wpS_lift (wpAny_rule ⟨rfl,?_⟩))
    refine wpS_bind (wpS_mono (wpS_forRange (I:=fun y (c:Option (Array Keyed) × Nat × Nat × Array Keyed × Nat × Nat × Nat) st2=>Lk st st2∧∃ na nb out mg ac bc,c = (none,na,nb,out,mg,ac,bc)∧MHa R a b tot na nb out∧0 < na∧na ≤ a.size∧1 < nb∧nb ≤ b.size∧x + 1 + na + nb < a.size + b.size)
     (Q:=fun (c:Option (Array Keyed) × Nat × Nat × Array Keyed × Nat × Nat × Nat) st2=>Lk st st2∧((∃ m na nb out mg ac bc,c = (some m,na,nb,out,mg,ac,bc)∧Fi R m.toList tot) ∨
      (∃ na nb out mg ac bc,c = (none,na,nb,out,mg,ac,bc)∧MHa R a b tot na nb out∧0 < na∧na ≤ a.size∧1 < nb∧nb ≤ b.size∧x + 1 + na + nb < a.size + b.size))) ?s2 ?f2 ⟨l,na,nb,out,_,ac,bc,rfl,m,d1,d2,d3,d4,d5⟩) ?p2)
    case f2 =>
     rintro c st3 ⟨l3,na,nb,out,mg,ac,bc,rfl,m,d⟩
     exact ⟨l3,.inr ⟨na,nb,out,mg,ac,bc,rfl,m,d⟩⟩
    case p2 =>
     rintro c st3 ⟨l3,⟨m',na,nb,out,mg,ac,bc,rfl,f⟩ | ⟨na,nb,out,mg,ac,bc,rfl,m,d⟩⟩
     ·exact wpS_pure ⟨l3,m',_,_,_,_,rfl,f⟩
     ·exact wpS_bind (jix l3 fun st4 l4=>wpS_pure ⟨l4,_,_,_,_,rfl,m,d⟩)
    case s2 =>
     rintro y c st3 _ hy ⟨l2,na,nb,out,mg,ac,bc,rfl,m,d1,d2,d3,d4,d5⟩
     obtain ⟨bx,eb,mb⟩:=jbb (a:=b) (i:=nb - 1) (by omega)
     refine jb3 (fun _=>?_) fun _=>?_
     all_goals
      refine wpS_bind (jix l2 fun st4 l3=>?_)
      refine wpS_bind (jbe eb ?_)
      refine wpS_bind (jcs (base:=0) (n:=na) (hint:=na - 1) C (l3.kind.trans hk) (hb _ mb) (fun i hi=>by
       obtain ⟨z,z1,z2⟩:=jbb (a:=a) (i:=0 + i) (by omega)
       exact ⟨z,z1,ha _ z2⟩) (by omega) (fun i j q1 q2 q3=>ua i j (Nat.zero_le _) q2 (by omega)) fun k k1 k2 k3=>?_)
      have upA:∀ y ∈ a.toList.take k,R y ≤ R bx:=fun y hy=>by
       obtain ⟨j,j1,j2,j3⟩:=jcb hy
       have q:=jg7 (k2 j j1)
       rwa [Nat.zero_add,kv_at j3] at q
      have mk:=happA m k1 fun x hx y hy=>by
       obtain ⟨j,j1,j2,j3⟩:=jcl hx
       obtain ⟨i,i1,i2,i3⟩:=jcb hy
       have q:=jem (k3 j j1 j2)
       rw [Nat.zero_add,kv_at j3] at q
       exact Int.le_trans (ub.le i3 eb (by omega)) (Int.le_of_lt q)
      refine jb3 (fun ck=>?_) fun ck=>?_
      case' refine_1 =>
       refine jb3 (fun c=>wpS_pure ⟨l3,.inl ⟨_,_,_,_,_,_,_,rfl,dn _ _ _ mk (.inl (by simpa using c))⟩⟩) fun c3=>?_
       have e1:0 < k:=by simp at c3; omega
       have e2:k ≤ a.size:=by omega
       have n1:∀ z,z ≤ nb - 1→x + 1 + (k - 1) + z < a.size + b.size:=fun z hz=>by omega
       obtain ⟨ax,ea,ma⟩:=jbb (a:=a) (i:=k - 1) (by omega)
       have e3:∀ i,i < k→i ≤ k - 1:=fun i hi=>by omega
      case' refine_2 =>
       have e0:k = na:=by
        have ck':¬ na - k > 0:=ck
        omega
       subst e0
       have e1:=d1
       have e2:=d2
       have n1:∀ z,z ≤ nb - 1→x + 1 + (k - 1) + z < a.size + b.size:=fun z hz=>by omega
       replace mk:=m
       obtain ⟨ax,ea,ma⟩:=jbb (a:=a) (i:=k - 1) (by omega)
       have e3:∀ i,i < k→i ≤ k - 1:=fun i hi=>by omega
      all_goals
       refine wpS_bind (jbe eb ?_)
       have m3:=jns mk (by omega) eb upA
       refine jb3 (fun c=>wpS_pure ⟨l3,.inl ⟨_,_,_,_,_,_,_,rfl,fs _ _ _ m3 (by simpa using c)⟩⟩) fun c5=>?_
       have d6:1 < nb - 1:=by
        have z:nb - 1 ≠ 1:=fun z=>c5 (by
         show (nb - 1 == 1) = true
         rw [z]; rfl)
        omega
       refine wpS_bind (jbe ea ?_)
       refine wpS_bind (jcs (base:=0) (n:=nb - 1) (hint:=nb - 1 - 1) C (l3.kind.trans hk) (ha _ ma) (fun i hi=>by
        obtain ⟨z,z1,z2⟩:=jbb (a:=b) (i:=0 + i) (by omega)
        exact ⟨z,z1,hb _ z2⟩) (by omega) (fun i j q1 q2 q3=>ub i j (Nat.zero_le _) q2 (by omega)) fun k' j1 j2 j3=>?_)
       have upB:∀ y ∈ b.toList.take k',R y ≤ R ax:=fun y hy=>by
        obtain ⟨i,i1,i2,i3⟩:=jcb hy
        have q:=jio (j2 i i1)
        rw [Nat.zero_add,kv_at i3] at q
        exact Int.le_of_lt q
       have m4:=happB m3 j1 fun x hx y hy=>by
        obtain ⟨j,i1,i2,i3⟩:=jcl hx
        obtain ⟨i,i4,i5,i6⟩:=jcb hy
        have q:=jg6 (j3 j i1 i2)
        rw [Nat.zero_add,kv_at i3] at q
        exact Int.le_trans (ua.le i6 ea (e3 i i4)) q
       refine jb3 (fun ck2=>?_) fun ck2=>?_
       case' refine_1 =>
        refine jb3 (fun c=>wpS_pure ⟨l3,.inl ⟨_,_,_,_,_,_,_,rfl,fs _ _ _ m4 (by simpa using c)⟩⟩) fun c6=>?_
        refine jb3 (fun c=>wpS_pure ⟨l3,.inl ⟨_,_,_,_,_,_,_,rfl,dn _ _ _ m4 (.inr (by simpa using c))⟩⟩) fun c7=>?_
        have d7:1 < k':=by simp at c6 c7; omega
        have d8:k' ≤ b.size:=by omega
        have n2:=n1 k' j1
       case' refine_2 =>
        have e0:k' = nb - 1:=by
         have ck':¬ nb - 1 - k' > 0:=ck2
         omega
        subst e0
        replace m4:=m3
        have d7:=d6
        have d8:nb - 1 ≤ b.size:=by omega
        have n2:=n1 (nb - 1) (Nat.le_refl _)
       all_goals
        refine wpS_bind (jbe ea ?_)
        have m5:=jlh m4 e1 ea upB
        refine jb3 (fun c=>wpS_pure ⟨l3,.inl ⟨_,_,_,_,_,_,_,rfl,dn _ _ _ m5 (.inl (by simpa using c))⟩⟩) fun c8=>?_
        have d9:0 < k - 1:=by
         rcases Nat.eq_zero_or_pos (k - 1) with z | z
         ·refine absurd ?_ c8
          show (k - 1 == 0) = true
          rw [z]; rfl
         ·exact z
        have d10:k - 1 ≤ a.size:=by omega
        exact jb3 (fun _=>wpS_pure ⟨l3,.inr ⟨_,_,_,_,_,_,rfl,m5,d9,d10,d7,d8,n2⟩⟩) fun _=>wpS_pure ⟨l3,_,_,_,_,_,_,rfl,m5,d9,d10,d7,d8,n2⟩
end
end So
namespace So
open PySem PyProof.Rows
def jc9 (off:Nat) (l:List (Keyed × Nat)) (xs:Array Keyed):Array Keyed:=l.foldl (fun a p=>a.setIfInBounds (off + p.2) p.1) xs
theorem jdk (off:Nat):∀ (m:List Keyed) (j:Nat) (xs:Array Keyed),off + j + m.length ≤ xs.size→∀ i,
  (jc9 off (m.zipIdx j) xs)[i]? = if off + j ≤ i∧i < off + j + m.length then m[i - (off + j)]? else xs[i]?
 | [],j,xs,_,i=>by rw [if_neg (by simp)]; rfl
 | p :: m,j,xs,h,i=>by
  rw [List.zipIdx_cons]
  show (jc9 off (m.zipIdx (j + 1)) (xs.setIfInBounds (off + j) p))[i]? = _
  rw [List.length_cons] at h ⊢
  rw [jdk off m (j + 1) _ (by rw [Array.size_setIfInBounds]; omega) i]
  by_cases c:i = off + j
  ·rw [if_neg (by omega),if_pos (by omega),c,Nat.sub_self,List.getElem?_cons_zero,Array.getElem?_setIfInBounds]
   rw [if_pos rfl,if_pos (by omega)]
  ·by_cases c2:off + j ≤ i∧i < off + j + (m.length + 1)
   ·rw [if_pos (by omega),if_pos c2,show i - (off + j) = i - (off + (j + 1)) + 1 by omega,List.getElem?_cons_succ]
   ·rw [if_neg (by omega),if_neg c2,Array.getElem?_setIfInBounds,if_neg (by omega)]
theorem jia {off:Nat} {m:List Keyed} {xs:Array Keyed} (h:off + m.length ≤ xs.size) (hp:m.Perm ((xs.toList.drop off).take m.length)):(jc9 off (m.zipIdx 0) xs).Perm xs:=by
 rw [Array.perm_iff_toList_perm]
 have e:(jc9 off (m.zipIdx 0) xs).toList = xs.toList.take off ++ (m ++ xs.toList.drop (off + m.length)):=by
  apply List.ext_getElem?
  intro i
  have hlen:xs.toList.length = xs.size:=Array.length_toList
  rw [Array.getElem?_toList,jdk off m 0 xs (by omega),List.getElem?_append,List.length_take,hlen,Nat.min_eq_left (by omega)]
  by_cases c:i < off
  ·rw [if_neg (by omega),if_pos c,List.getElem?_take,if_pos c,Array.getElem?_toList]
  ·rw [if_neg c,List.getElem?_append]
   by_cases c2:i < off + m.length
   ·rw [if_pos (by omega),if_pos (by omega),Nat.add_zero]
   ·rw [if_neg (by omega),if_neg (by omega),List.getElem?_drop,Array.getElem?_toList,show off + m.length + (i - off - m.length) = i by omega]
 rw [e]
 have e2:xs.toList = xs.toList.take off ++ ((xs.toList.drop off).take m.length ++ xs.toList.drop (off + m.length)):=by
  rw [← List.drop_drop,List.take_append_drop,List.take_append_drop]
 conv=>rhs; rw [e2]
 exact List.Perm.append_left _ (List.Perm.append_right _ hp)
section
variable {prog:Program} {w:World} {A:Around} {E:Value→Shared→Prop} {s:Shared} {R:Keyed→Int} {κ:SortKind} {a₀:Array Keyed} {pd:Array (Nat × Nat × Nat)}
theorem w_set {σ:Type} {M:Model} {st0:σ} {Q:PUnit→σ→Prop} {st:σ} (h:Q ⟨⟩ st0):wpS M A E s (set st0:StateT σ Sem PUnit) Q st:=by
 unfold wpS; exact wpAny_pure ⟨rfl,h⟩
theorem Up.ext {xs:Array Keyed} {lo hi:Nat} (u:Up R xs lo hi) (h:hi ≤ xs.size):Up R (xs.extract lo hi) 0 (xs.extract lo hi).size:=fun i j _ h2 h3=>by
 rw [Array.size_extract] at h3
 have e:∀ k,k < hi - lo→(xs.extract lo hi)[k]? = xs[lo + k]?:=fun k hk=>by
  rw [Array.getElem?_extract]
  rw [if_pos (by omega)]
 rw [jf0 (e i (by omega)),jf0 (e j (by omega))]
 exact u _ _ (by omega) (by omega) (by omega)
theorem jk0 (C:Cm prog w A s R κ a₀) {st:SortSt} (b:Bs κ a₀ pd st) {i:Nat} {sa na pa nb pb:Nat} (hp1:pd[i]? = some (sa,na,pa)) (hp2:pd[i + 1]? = some (sa + na,nb,pb))
  (h1:1 ≤ na) (h2:1 ≤ nb) (hs:sa + na + nb ≤ a₀.size) (ua:Up R (arrOf st) sa (sa + na)) (ub:Up R (arrOf st) (sa + na) (sa + na + nb)) {Q:Bool→SortSt→Prop}
  (h:∀ st',Bs κ a₀ ((pd.setIfInBounds i (sa,na + nb,pa)).eraseIdxIfInBounds (i + 1)) st'→(∀ j,(j < sa ∨ sa + na + nb ≤ j)→(arrOf st')[j]? = (arrOf st)[j]?)→Up R (arrOf st') sa (sa + na + nb)→Q true st') :
  wpS (model prog w) A E s (mergeAt' i) Q st:=by
 rcases st with ⟨kd,xs,pn,mg,fl⟩
 have e1:pn = pd:=b.pend
 have e2:kd = κ:=b.kind
 have e3:fl = none:=b.ok
 subst e1 e2 e3
 have hsz:xs.size = a₀.size:=b.size
 have hin:∀ x,x ∈ xs.toList→x ∈ a₀.toList:=fun x hx=>(Array.perm_iff_toList_perm.mp (show xs.Perm a₀ from b.perm)).mem_iff.mp hx
 change Up R xs sa (sa + na) at ua
 change Up R xs (sa + na) (sa + na + nb) at ub
 change ∀ st',_→(∀ j,_→(arrOf st')[j]? = xs[j]?)→_ at h
 generalize hpd':(pn.setIfInBounds i (sa,na + nb,pa)).eraseIdxIfInBounds (i + 1) = pd' at h
 have hle:∀ {i j:Nat} {x y:Keyed},xs[i]? = some x→xs[j]? = some y→kv R xs i ≤ kv R xs j→R x ≤ R y:=fun q1 q2 q3=>by rwa [kv_at q1,kv_at q2] at q3
 unfold mergeAt'
 refine wpS_bind (wpS_get ?_)
 dsimp only
 rw [hp1,hp2]
 refine wpS_bind (w_set ?_)
 rw [hpd']
 have st1:Bs kd a₀ pd' (SortSt.mk' kd xs pd' mg none):=⟨b.perm,rfl,rfl,rfl⟩
 obtain ⟨b0,eb0,mb0⟩:=jbb (a:=xs) (i:=sa + na) (by omega)
 refine wpS_bind (jbe eb0 ?_)
 refine wpS_bind (jcs (base:=sa) (n:=na) (hint:=0) C rfl (hin _ mb0) (fun i hi=>by
  obtain ⟨z,z1,z2⟩:=jbb (a:=xs) (i:=sa + i) (by omega)
  exact ⟨z,z1,hin _ z2⟩) (by omega) ua fun k k1 k2 k3=>?_)
 have lowk:∀ j,sa ≤ j→j < sa + k→kv R xs j ≤ R b0:=fun j q1 q2=>by
  have q:=jg7 (k2 (j - sa) (by omega))
  rwa [show sa + (j - sa) = j by omega] at q
 have upk:∀ j,sa + k ≤ j→j < sa + na→R b0 < kv R xs j:=fun j q1 q2=>by
  have q:=jem (k3 (j - sa) (by omega) (by omega))
  rwa [show sa + (j - sa) = j by omega] at q
 have upb:∀ j,sa + na ≤ j→j < sa + na + nb→R b0 ≤ kv R xs j:=fun j q1 q2=>by
  have q:=ub (sa + na) j (Nat.le_refl _) q1 q2
  rwa [kv_at eb0] at q
 refine jb3 (fun c=>wpS_pure (h _ st1 (fun _ _=>rfl) ?_)) fun c1=>?_
 ·have ek:k = na:=by
   have c':na - k = 0:=by simpa using c
   omega
  intro i j q1 q2 q3
  show kv R xs i ≤ kv R xs j
  by_cases cj:j < sa + na
  ·exact ua i j q1 q2 cj
  ·by_cases ci:i < sa + na
   ·exact Int.le_trans (lowk i q1 (by omega)) (upb j (by omega) q3)
   ·exact ub i j (by omega) q2 q3
 have c1':k < na:=by
  have c':na - k ≠ 0:=by simpa using c1
  omega
 obtain ⟨al,eal,mal⟩:=jbb (a:=xs) (i:=sa + k + (na - k) - 1) (by omega)
 refine wpS_bind (jbe eal ?_)
 refine wpS_bind (jcs (base:=sa + na) (n:=nb) (hint:=nb - 1) C rfl (hin _ mal) (fun i hi=>by
  obtain ⟨z,z1,z2⟩:=jbb (a:=xs) (i:=sa + na + i) (by omega)
  exact ⟨z,z1,hin _ z2⟩) (by omega) ub fun n2 j1 j2 j3=>?_)
 rw [show sa + k + (na - k) - 1 = sa + na - 1 by omega] at eal
 have lastA:∀ j,sa ≤ j→j < sa + na→kv R xs j ≤ R al:=fun j q1 q2=>by
  have q:=ua j (sa + na - 1) q1 (by omega) (by omega)
  rwa [kv_at eal] at q
 have lowB:∀ j,sa + na ≤ j→j < sa + na + n2→kv R xs j < R al:=fun j q1 q2=>by
  have q:=jio (j2 (j - (sa + na)) (by omega))
  rwa [show sa + na + (j - (sa + na)) = j by omega] at q
 have upB:∀ j,sa + na + n2 ≤ j→j < sa + na + nb→R al ≤ kv R xs j:=fun j q1 q2=>by
  have q:=jg6 (j3 (j - (sa + na)) (by omega) (by omega))
  rwa [show sa + na + (j - (sa + na)) = j by omega] at q
 refine jb3 (fun c=>wpS_pure (h _ st1 (fun _ _=>rfl) ?_)) fun c2=>?_
 ·have e2:n2 = 0:=by simpa using c
  intro i j q1 q2 q3
  show kv R xs i ≤ kv R xs j
  by_cases cj:j < sa + na
  ·exact ua i j q1 q2 cj
  ·by_cases ci:i < sa + na
   ·exact Int.le_trans (lastA i q1 ci) (upB j (by omega) q3)
   ·exact ub i j (by omega) q2 q3
 have c2':1 ≤ n2:=by
  have c':n2 ≠ 0:=by simpa using c2
  omega
 have hx:Up R (xs.extract (sa + k) (sa + na)) 0 (xs.extract (sa + k) (sa + na)).size:=Up.ext (fun i j q1 q2 q3=>ua i j (by omega) q2 q3) (by omega)
 have hy:Up R (xs.extract (sa + na) (sa + na + n2)) 0 (xs.extract (sa + na) (sa + na + n2)).size:=Up.ext (fun i j q1 q2 q3=>ub i j (by omega) q2 (by omega)) (by omega)
 have sx:(xs.extract (sa + k) (sa + na)).size = na - k:=by rw [Array.size_extract]; omega
 have sy:(xs.extract (sa + na) (sa + na + n2)).size = n2:=by rw [Array.size_extract]; omega
 have gx:∀ j,j < na - k→(xs.extract (sa + k) (sa + na))[j]? = xs[sa + k + j]?:=fun j hj=>by rw [Array.getElem?_extract,if_pos (by omega)]
 have gy:∀ j,j < n2→(xs.extract (sa + na) (sa + na + n2))[j]? = xs[sa + na + j]?:=fun j hj=>by rw [Array.getElem?_extract,if_pos (by omega)]
 have ix:∀ z ∈ (xs.extract (sa + k) (sa + na)).toList,z ∈ a₀.toList:=fun z hz=>by
  obtain ⟨j,q1,q2,q3⟩:=jcl hz
  obtain ⟨v,v1,v2⟩:=jbb (a:=xs) (i:=j) (by omega)
  rw [q3] at v1
  cases v1
  exact hin _ v2
 have iy:∀ z ∈ (xs.extract (sa + na) (sa + na + n2)).toList,z ∈ a₀.toList:=fun z hz=>by
  obtain ⟨j,q1,q2,q3⟩:=jcl hz
  obtain ⟨v,v1,v2⟩:=jbb (a:=xs) (i:=j) (by omega)
  rw [q3] at v1
  cases v1
  exact hin _ v2
 have p0:∀ x y,(xs.extract (sa + na) (sa + na + n2))[0]? = some x→(xs.extract (sa + k) (sa + na))[0]? = some y→R x < R y:=fun x y q1 q2=>by
  rw [gy 0 (by omega)] at q1
  rw [gx 0 (by omega)] at q2
  have q:=upk (sa + k + 0) (by omega) (by omega)
  rw [kv_at q2] at q
  have e:x = b0:=by
   rw [Nat.add_zero,eb0] at q1
   cases q1; rfl
  rw [e]; exact q
 have pl:∀ x y,x ∈ (xs.extract (sa + na) (sa + na + n2)).toList→(xs.extract (sa + k) (sa + na))[(xs.extract (sa + k) (sa + na)).size - 1]? = some y→R x < R y:=fun x y q1 q2=>by
  rw [sx,gx _ (by omega),show sa + k + (na - k - 1) = sa + na - 1 by omega,eal] at q2
  cases q2
  obtain ⟨j,r1,r2,r3⟩:=jcl q1
  have q:=lowB j r1 r2
  rwa [kv_at r3] at q
 have fini:∀ (m:Array Keyed) (st':SortSt),Lk (SortSt.mk' kd xs pd' mg none) st'→Fi R m.toList ((xs.extract (sa + k) (sa + na)).toList ++ (xs.extract (sa + na) (sa + na + n2)).toList) →
   Q true (SortSt.mk' (kindOf st') (jc9 (sa + k) (m.toList.zipIdx 0) (arrOf st')) (pendingOf st') (gallopOf st') (failedOf st'))∧failedOf st' = none:=by
  intro m st' l f
  have ea:arrOf st' = xs:=l.arr
  have hml:m.toList.length = na - k + n2:=by
   rw [f.2.length_eq,List.length_append,Array.length_toList,Array.length_toList,sx,sy]
  have hmz:∀ z ∈ m.toList,∃ j,sa + k ≤ j∧j < sa + na + n2∧xs[j]? = some z:=fun z hz=>by
   rcases List.mem_append.mp (f.2.mem_iff.mp hz) with q | q
   ·obtain ⟨j,q1,q2,q3⟩:=jcl q
    exact ⟨j,q1,by omega,q3⟩
   ·obtain ⟨j,q1,q2,q3⟩:=jcl q
    exact ⟨j,by omega,q2,q3⟩
  have hperm:(jc9 (sa + k) (m.toList.zipIdx 0) xs).Perm xs:=by
   refine jia (by omega) (f.2.trans ?_)
   rw [hml,List.take_add,jcd,jcd,List.drop_drop,show sa + na - (sa + k) = na - k by omega,show sa + k + (na - k) = sa + na by omega,show sa + na + n2 - (sa + na) = n2 by omega]
  have hget:=jdk (sa + k) m.toList 0 xs (by omega)
  rw [hml] at hget
  refine ⟨h _ ⟨?_,l.kind,l.ok,l.pend⟩ ?_ ?_,l.ok⟩
  ·show (jc9 (sa + k) (m.toList.zipIdx 0) (arrOf st')).Perm a₀
   rw [ea]; exact hperm.trans b.perm
  ·intro j hj
   show (jc9 (sa + k) (m.toList.zipIdx 0) (arrOf st'))[j]? = xs[j]?
   rw [ea,hget,if_neg (by omega)]
  ·intro i j q1 q2 q3
   show kv R (jc9 (sa + k) (m.toList.zipIdx 0) (arrOf st')) i ≤ kv R (jc9 (sa + k) (m.toList.zipIdx 0) (arrOf st')) j
   rw [ea]
   have out:∀ i,¬ (sa + k ≤ i∧i < sa + na + n2)→kv R (jc9 (sa + k) (m.toList.zipIdx 0) xs) i = kv R xs i:=fun i hi=>jf0 (by rw [hget,if_neg (by omega)])
   have ins:∀ i,sa + k ≤ i→i < sa + na + n2→∃ z,m.toList[i - (sa + k)]? = some z∧z ∈ m.toList∧kv R (jc9 (sa + k) (m.toList.zipIdx 0) xs) i = R z:=fun i hi1 hi2=>by
    have hlt:i - (sa + k) < m.toList.length:=by omega
    refine ⟨m.toList[i - (sa + k)],List.getElem?_eq_getElem hlt,List.getElem_mem _,kv_at ?_⟩
    rw [hget,if_pos (by omega),Nat.add_zero]
    exact List.getElem?_eq_getElem hlt
   by_cases ci:sa + k ≤ i∧i < sa + na + n2
   ·obtain ⟨z,z1,z2,z3⟩:=ins i ci.1 ci.2
    obtain ⟨iz,y1,y2,y3⟩:=hmz z z2
    by_cases cj:sa + k ≤ j∧j < sa + na + n2
    ·obtain ⟨v,v1,v2,v3⟩:=ins j cj.1 cj.2
     rw [z3,v3]
     by_cases eij:i = j
     ·rw [eij] at z1
      rw [z1] at v1
      cases v1
      exact Int.le_refl _
     ·have hlt1:i - (sa + k) < m.toList.length:=by omega
      have hlt2:j - (sa + k) < m.toList.length:=by omega
      have q:=List.pairwise_iff_getElem.mp f.1 (i - (sa + k)) (j - (sa + k)) hlt1 hlt2 (by omega)
      rw [List.getElem?_eq_getElem hlt1] at z1
      rw [List.getElem?_eq_getElem hlt2] at v1
      cases z1
      cases v1
      exact q
    ·rw [z3,out j cj,← kv_at (R:=R) y3]
     have hj2:sa + na + n2 ≤ j:=by omega
     refine Int.le_trans ?_ (upB j hj2 q3)
     by_cases cz:iz < sa + na
     ·exact lastA iz (by omega) cz
     ·exact Int.le_of_lt (lowB iz (by omega) y2)
   ·rw [out i ci]
    by_cases cj:sa + k ≤ j∧j < sa + na + n2
    ·obtain ⟨v,v1,v2,v3⟩:=ins j cj.1 cj.2
     obtain ⟨iz,y1,y2,y3⟩:=hmz v v2
     rw [v3,← kv_at (R:=R) y3]
     refine Int.le_trans (lowk i q1 (by omega)) ?_
     by_cases cz:iz < sa + na
     ·exact Int.le_of_lt (upk iz y1 cz)
     ·exact upb iz (by omega) (by omega)
    ·rw [out j cj]
     by_cases c3:j < sa + na
     ·exact ua i j q1 q2 c3
     ·by_cases c4:i < sa + na
      ·exact Int.le_trans (lowk i q1 (by omega)) (upb j (by omega) q3)
      ·exact ub i j (by omega) q2 q3
 have close:∀ (m:Array Keyed) (st':SortSt),Lk (SortSt.mk' kd xs pd' mg none) st'→Fi R m.toList ((xs.extract (sa + k) (sa + na)).toList ++ (xs.extract (sa + na) (sa + na + n2)).toList) →
   Q (failedOf (SortSt.mk' (kindOf st') (jc9 (sa + k) (m.toList.zipIdx 0) (arrOf st')) (pendingOf st') (gallopOf st') (failedOf st'))).isNone (SortSt.mk' (kindOf st') (jc9 (sa + k) (m.toList.zipIdx 0) (arrOf st')) (pendingOf st') (gallopOf st') (failedOf st')):=by
  intro m st' l f
  obtain ⟨z1,z2⟩:=fini m st' l f
  show Q (failedOf st').isNone _
  rw [z2] at z1 ⊢
  exact z1
 refine jb3 (fun c=>?_) fun c=>?_
 ·exact wpS_bind (w_mLo C rfl ix iy hx hy (by omega) (by omega) p0 pl (List.Perm.refl _) fun m st' l f=>wpS_bind (wpS_modify (wpS_bind (wpS_get (wpS_pure (close m st' l f))))))
 ·exact wpS_bind (w_mHi C rfl ix iy hx hy (by omega) (by omega) p0 pl (List.Perm.refl _) fun m st' l f=>wpS_bind (wpS_modify (wpS_bind (wpS_get (wpS_pure (close m st' l f))))))
end
end So
namespace So
open PySem PyProof.Rows
def two (pd:Array (Nat × Nat × Nat)):List (Nat × Nat):=pd.toList.map fun t=>(t.1,t.2.1)
def Ch (R:Keyed→Int) (xs:Array Keyed):Nat→List (Nat × Nat)→Nat→Prop
 | p,[],q=>p = q
 | p,(s,n) :: r,q=>s = p∧1 ≤ n∧Up R xs s (s + n)∧Ch R xs (s + n) r q
section
variable {R:Keyed→Int} {xs ys:Array Keyed}
theorem Ch.app:∀ {l1 l2:List (Nat × Nat)} {p q:Nat},Ch R xs p (l1 ++ l2) q ↔ ∃ m,Ch R xs p l1 m∧Ch R xs m l2 q
 | [],l2,p,q=>⟨fun h=>⟨p,rfl,h⟩,fun ⟨m,e,h⟩=>by rw [show p = m from e]; exact h⟩
 | (s,n) :: l1,l2,p,q=>by
  show s = p∧1 ≤ n∧Up R xs s (s + n)∧Ch R xs (s + n) (l1 ++ l2) q ↔ _
  rw [Ch.app (l1:=l1)]
  exact ⟨fun ⟨a,b,c,m,d,e⟩=>⟨m,⟨a,b,c,d⟩,e⟩,fun ⟨m,⟨a,b,c,d⟩,e⟩=>⟨a,b,c,m,d,e⟩⟩
theorem Ch.le:∀ {l:List (Nat × Nat)} {p q:Nat},Ch R xs p l q→p + l.length ≤ q
 | [],p,q,h=>by rw [show p = q from h]; exact Nat.le_refl _
 | (s,n) :: l,p,q,⟨a,b,c,d⟩=>by
  have z:=Ch.le d
  rw [List.length_cons]; omega
theorem Up.like {lo hi:Nat} (u:Up R xs lo hi) (h:∀ i,lo ≤ i→i < hi→ys[i]? = xs[i]?):Up R ys lo hi:=fun i j h1 h2 h3=>by
 rw [jf0 (h i h1 (by omega)),jf0 (h j (by omega) h3)]
 exact u i j h1 h2 h3
theorem Ch.like:∀ {l:List (Nat × Nat)} {p q:Nat},Ch R xs p l q→(∀ i,p ≤ i→i < q→ys[i]? = xs[i]?)→Ch R ys p l q
 | [],p,q,h,_=>h
 | (s,n) :: l,p,q,⟨a,b,c,d⟩,e=>by
  have z:=Ch.le d
  exact ⟨a,b,c.like fun i h1 h2=>e i (by omega) (by omega),d.like fun i h1 h2=>e i (by omega) h2⟩
end
theorem split2 {α:Type} {l:List α} {i:Nat} (h:i + 1 < l.length):∃ P x y S,l = P ++ x :: y :: S∧P.length = i∧l[i]? = some x∧l[i + 1]? = some y:=by
 refine ⟨l.take i,l[i],l[i + 1],l.drop (i + 2),?_,by rw [List.length_take]; omega,List.getElem?_eq_getElem _,List.getElem?_eq_getElem _⟩
 rw [← List.drop_eq_getElem_cons,← List.drop_eq_getElem_cons,List.take_append_drop]
theorem mid {α:Type} {P S:List α} {x y v:α}:((P ++ x :: y :: S).set P.length v).eraseIdx (P.length + 1) = P ++ v :: S:=by
 rw [List.set_append_right _ _ (Nat.le_refl _),Nat.sub_self,List.set_cons_zero,List.eraseIdx_append_of_length_le (Nat.le_succ _),show P.length.succ - P.length = 1 by omega]
 rfl
section
variable {prog:Program} {w:World} {A:Around} {E:Value→Shared→Prop} {s:Shared} {R:Keyed→Int} {κ:SortKind} {a₀:Array Keyed} {pd:Array (Nat × Nat × Nat)}
theorem jgl (C:Cm prog w A s R κ a₀) {st:SortSt} (b:Bs κ a₀ pd st) {i lo:Nat} (ch:Ch R (arrOf st) 0 (two pd) lo) (hlo:lo ≤ a₀.size) (hi:i + 1 < pd.size) {Q:Bool→SortSt→Prop}
  (h:∀ st' pd',Bs κ a₀ pd' st'→pd'.size + 1 = pd.size→Ch R (arrOf st') 0 (two pd') lo→(∀ j,lo ≤ j→(arrOf st')[j]? = (arrOf st)[j]?)→Q true st'):wpS (model prog w) A E s (mergeAt' i) Q st:=by
 obtain ⟨P,x,y,S,e1,e2,e3,e4⟩:=split2 (l:=pd.toList) (i:=i) (by rw [Array.length_toList]; exact hi)
 obtain ⟨s1,n1,p1⟩:=x
 obtain ⟨s2,n2,p2⟩:=y
 rw [Array.getElem?_toList] at e3 e4
 unfold two at ch
 rw [e1,List.map_append,Ch.app] at ch
 obtain ⟨m,c1,c2⟩:=ch
 rw [List.map_cons,List.map_cons] at c2
 obtain ⟨z1,z2,z3,z4,z5,z6,z7⟩:=c2
 have z1':s1 = m:=z1
 have z4':s2 = s1 + n1:=z4
 subst z1' z4'
 have z5':1 ≤ n2:=z5
 have le2:=Ch.le z7
 have le2':s1 + n1 + n2 + (S.map fun t=>(t.1,t.2.1)).length ≤ lo:=le2
 have le1:=Ch.le c1
 refine jk0 C b e3 e4 z2 z5' (by omega) z3 z6 fun st' b' hout u=>h st' _ b' ?_ ?_ fun j hj=>hout j (.inr (by omega))
 ·have q:((pd.setIfInBounds i (s1,n1 + n2,p1)).eraseIdxIfInBounds (i + 1)).toList.length + 1 = pd.toList.length:=by
   rw [Array.toList_eraseIdxIfInBounds,Array.toList_setIfInBounds,e1,← e2,mid]
   simp only [List.length_append,List.length_cons]
   omega
  rwa [Array.length_toList,Array.length_toList] at q
 ·unfold two
  rw [Array.toList_eraseIdxIfInBounds,Array.toList_setIfInBounds,e1,← e2,mid,List.map_append,Ch.app]
  refine ⟨s1,c1.like fun k q1 q2=>hout k (.inl q2),rfl,by show 1 ≤ n1 + n2; omega,?_,?_⟩
  ·show Up R (arrOf st') s1 (s1 + (n1 + n2))
   rw [← Nat.add_assoc]; exact u
  ·show Ch R (arrOf st') (s1 + (n1 + n2)) _ lo
   rw [← Nat.add_assoc]
   exact z7.like fun k q1 q2=>hout k (.inr q1)
theorem jm6 (x:Nat × Nat × Nat):two (pd.push x) = two pd ++ [(x.1,x.2.1)]:=by
 unfold two; rw [Array.toList_push,List.map_append]; rfl
theorem jo6 (i p:Nat):two (pd.modify i fun x=>match x with | (a,n,_)=>(a,n,p)) = two pd:=by
 unfold two
 rw [Array.toList_modify]
 apply List.ext_getElem?
 intro j
 rw [List.getElem?_map,List.getElem?_map,List.getElem?_modify]
 cases pd.toList[j]? with
 | none=>rfl
 | some t =>
  obtain ⟨a,n,q⟩:=t
  by_cases c:i = j <;> simp [c]
theorem w_sort (C:Cm prog w A s R κ a₀) {st:SortSt} (b:Bs κ a₀ #[] st) (h1:1 ≤ a₀.size) {Q:Unit→SortSt→Prop}
  (h:∀ st',(arrOf st').Perm a₀→failedOf st' = none→Up R (arrOf st') 0 a₀.size→Q () st'):wpS (model prog w) A E s sortRuns' Q st:=by
 have pn:∀ {st:SortSt} {pd:Array (Nat × Nat × Nat)},Bs κ a₀ pd st→(sortPriv% PySem.Builtin.SortState.pending) st = pd:=fun b=>b.pend
 have sz:(sortPriv% PySem.Builtin.SortState.a) st = arrOf st:=rfl
 unfold sortRuns'
 refine wpS_bind (wpS_get ?_)
 rw [sz,b.size]
 refine wpS_bind (wpS_mono (wpS_forRange (I:=fun x (c:Option Unit × Nat) st'=>∃ lo pd,c = (none,lo)∧Bs κ a₀ pd st'∧Ch R (arrOf st') 0 (two pd) lo∧lo ≤ a₀.size∧min x a₀.size ≤ lo)
  (Q:=fun (c:Option Unit × Nat) st'=>∃ pd,c = (none,a₀.size)∧Bs κ a₀ pd st'∧Ch R (arrOf st') 0 (two pd) a₀.size) ?step ?fin ⟨0,#[],rfl,b,rfl,Nat.zero_le _,by omega⟩) ?post)
 case fin =>
  rintro c st' ⟨lo,pd,rfl,b',ch,q1,q2⟩
  have e:lo = a₀.size:=by omega
  subst e
  exact ⟨pd,rfl,b',ch⟩
 case post =>
  rintro c st' ⟨pd,rfl,b',ch⟩
  refine wpS_bind (wpS_mono (wpS_forRange (I:=fun x (c:Option Unit × Unit) st'=>∃ pd,c = (none,())∧Bs κ a₀ pd st'∧Ch R (arrOf st') 0 (two pd) a₀.size∧(pd.size + x ≤ a₀.size ∨ pd.size ≤ 1))
   (Q:=fun (c:Option Unit × Unit) st'=>∃ pd,c = (none,())∧Bs κ a₀ pd st'∧Ch R (arrOf st') 0 (two pd) a₀.size∧pd.size ≤ 1) ?s2 ?f2 ⟨pd,rfl,b',ch,?_⟩) ?p2)
  case f2 =>
   rintro c st2 ⟨pd,rfl,b2,ch2,q⟩
   exact ⟨pd,rfl,b2,ch2,by omega⟩
  case p2 =>
   rintro c st2 ⟨pd,rfl,b2,ch2,q⟩
   refine wpS_pure (h st2 b2.perm b2.ok ?_)
   match hl:two pd,ch2 with
   | [],e=>exact absurd (show 0 = a₀.size from e) (by omega)
   | [(p1,n1)],⟨e1,e2,e3,e4⟩ =>
    have e1':p1 = 0:=e1
    have e4':p1 + n1 = a₀.size:=e4
    rw [e4'] at e3
    rw [e1'] at e3
    exact e3
   | x :: y :: r,_ =>
    have z:(two pd).length = pd.size:=by unfold two; rw [List.length_map,Array.length_toList]
    rw [hl,List.length_cons,List.length_cons] at z
    omega
  case s2 =>
   rintro x c st2 _ hx ⟨pd,rfl,b2,ch2,q⟩
   refine wpS_bind (wpS_get ?_)
   rw [pn b2]
   refine jb3 (fun c=>wpS_pure ⟨pd,rfl,b2,ch2,c⟩) fun c=>?_
   refine wpS_bind (jgl C b2 ch2 (Nat.le_refl _) ?_ fun st3 pd3 b3 q3 ch3 _=>?_)
   ·exact (fun (c:Prop) [Decidable c]=>(by split <;> omega:(if c then pd.size - 2 - 1 else pd.size - 2) + 1 < pd.size)) _
   ·exact jb3 (fun c=>by cases c) fun _=>wpS_pure ⟨pd3,rfl,b3,ch3,by omega⟩
  ·have z:=Ch.le ch
   unfold two at z
   rw [List.length_map,Array.length_toList] at z
   omega
 case step =>
  rintro x c st' _ hx ⟨lo,pd,rfl,b',ch,q1,q2⟩
  refine jb3 (fun c=>?_) fun c=>?_
  ·have e:lo = a₀.size:=by
    have c':lo ≥ a₀.size:=c
    omega
   subst e
   exact wpS_pure ⟨pd,rfl,b',ch⟩
  have c':lo < a₀.size:=Nat.lt_of_not_le c
  refine wpS_bind (jk1 (lo:=lo) (nrem:=a₀.size - lo) C (by omega) (by omega) b' fun m st2 b2 f2 m1 m2 u2=>?_)
  have ch2:Ch R (arrOf st2) 0 (two pd) lo:=ch.like fun i _ hi=>f2 i hi
  have push:∀ (n:Nat) (st4:SortSt) (pd4:Array (Nat × Nat × Nat)),Bs κ a₀ pd4 st4→Ch R (arrOf st4) 0 (two pd4) lo→Up R (arrOf st4) lo (lo + n)→1 ≤ n→lo + n ≤ a₀.size →
    ∃ lo' pd',((none,lo + n):Option Unit × Nat) = (none,lo')∧Bs κ a₀ pd' (SortSt.mk' (kindOf st4) (arrOf st4) ((pendingOf st4).push (lo,n,0)) (gallopOf st4) (failedOf st4))∧Ch R (arrOf st4) 0 (two pd') lo'∧lo' ≤ a₀.size∧min (x + 1) a₀.size ≤ lo':=by
   intro n st4 pd4 b4 ch4 u4 n1 n2
   refine ⟨lo + n,pd4.push (lo,n,0),rfl,⟨b4.perm,b4.kind,b4.ok,?_⟩,?_,n2,by omega⟩
   ·show (pendingOf st4).push (lo,n,0) = _
    rw [b4.pend]
   ·rw [jm6,Ch.app]
    exact ⟨lo,ch4,rfl,n1,u4,rfl⟩
  refine jb3 (fun cm=>?_) fun cm=>?_
  case' refine_1 =>
   refine wpS_bind (wpS_lift (wpAny_rule ⟨rfl,?_⟩))
   refine wpS_bind (w_ins (lo:=lo) (n:=min (a₀.size - lo) (minRun' a₀.size a₀.size 0)) (ok:=m) C (by omega) (by
    have cm':m < minRun' a₀.size a₀.size 0:=cm
    omega) b2 u2 fun st3 b3 f3 u3=>?_)
   refine jb3 (fun c=>by cases c) fun _=>?_
   have ch3:Ch R (arrOf st3) 0 (two pd) lo:=ch2.like fun i _ hi=>f3 i hi
   have n1:1 ≤ min (a₀.size - lo) (minRun' a₀.size a₀.size 0):=by
    have cm':m < minRun' a₀.size a₀.size 0:=cm
    omega
   have n2:lo + min (a₀.size - lo) (minRun' a₀.size a₀.size 0) ≤ a₀.size:=by omega
   obtain ⟨n,hn⟩:∃ n,n = min (a₀.size - lo) (minRun' a₀.size a₀.size 0):=⟨_,rfl⟩
  case' refine_2 =>
   have ch3:=ch2
   have b3:=b2
   have u3:=u2
   have n1:=m1
   have n2:lo + m ≤ a₀.size:=by omega
   obtain ⟨n,hn⟩:∃ n,n = m:=⟨_,rfl⟩
  all_goals
   refine wpS_bind (wpS_get ?_)
   rw [pn b3]
   cases hb:pd.back? with
   | none=>exact wpS_bind (wpS_modify (wpS_pure (push _ _ _ b3 ch3 u3 n1 n2)))
   | some t =>
    obtain ⟨s1,k1,p1⟩:=t
    rw [← hn] at u3
    refine wpS_bind (wpS_mono (wpS_forRange (I:=fun y (c:Option Unit × Unit) st4=>c = (none,())∧∃ pd4,Bs κ a₀ pd4 st4∧Ch R (arrOf st4) 0 (two pd4) lo∧Up R (arrOf st4) lo (lo + n))
     (Q:=fun (c:Option Unit × Unit) st4=>c = (none,())∧∃ pd4,Bs κ a₀ pd4 st4∧Ch R (arrOf st4) 0 (two pd4) lo∧Up R (arrOf st4) lo (lo + n)) ?s4 (fun _ _ z=>z) ⟨rfl,pd,b3,ch3,u3⟩) ?p4)
    case s4 =>
     rintro y c st4 _ hy ⟨rfl,pd4,b4,ch4,u4⟩
     refine wpS_bind (wpS_get ?_)
     rw [pn b4]
     dsimp only
     by_cases c4:pd4.size > 1
     ·have e:(if pd4.size > 1 then pd4[pd4.size - 2]? else none) = some (pd4[pd4.size - 2]'(by omega)):=by rw [if_pos c4]; exact getElem?_pos _ _ (by omega)
      rw [e]
      obtain ⟨v1,v2,v3⟩:=pd4[pd4.size - 2]'(by omega)
      refine jb3 (fun _=>wpS_pure ⟨rfl,pd4,b4,ch4,u4⟩) fun _=>?_
      refine wpS_bind (jgl C b4 ch4 (by omega) (by omega) fun st5 pd5 b5 _ ch5 o5=>?_)
      exact jb3 (fun c=>by cases c) fun _=>wpS_pure ⟨rfl,pd5,b5,ch5,u4.like fun i h1 _=>o5 i h1⟩
     ·rw [if_neg c4]
      exact wpS_pure ⟨rfl,pd4,b4,ch4,u4⟩
    case p4 =>
     rintro c st4 ⟨rfl,pd4,b4,ch4,u4⟩
     rw [hn] at u4
     refine wpS_bind (wpS_modify (wpS_bind (wpS_modify (wpS_pure ?_))))
     refine push _ _ _ ⟨b4.perm,b4.kind,b4.ok,rfl⟩ ?_ u4 n1 n2
     refine (congrArg (fun z=>Ch R (arrOf st4) 0 z lo) (jo6 (pd:=pendingOf st4) _ _)).mpr ?_
     rw [b4.pend]
     exact ch4
end
end So
namespace So
open PySem PyProof.Rows
section
variable {prog:Program} {w:World} {A:Around} {E:Value→Shared→Prop} {s:Shared}
theorem jfj (vs:List Value):vs.zip vs = vs.map fun v=>(v,v):=by
 induction vs with
 | nil=>rfl
 | cons v vs ih=>rw [List.zip_cons_cons,ih,List.map_cons]
theorem Up.all {R:Keyed→Int} {xs:Array Keyed} (u:Up R xs 0 xs.size):xs.toList.Pairwise (Le R):=by
 rw [List.pairwise_iff_getElem]
 intro i j hi hj hij
 rw [Array.length_toList] at hi hj
 exact u.le (getElem?_pos xs i hi) (getElem?_pos xs j hj) (Nat.le_of_lt hij)
theorem jno {R:Keyed→Int} {vs:List Value} {xs:Array Keyed} (p:xs.Perm (pairsOf vs)) (u:Up R xs 0 xs.size):(xs.map (·.2)).toList.Perm vs∧(xs.map (·.2)).toList.Pairwise fun a b=>R (a,a) ≤ R (b,b):=by
 have hp:xs.toList.Perm (vs.map fun v=>(v,v)):=by rw [← jfj,← pairsOf_toList]; exact Array.perm_iff_toList_perm.mp p
 rw [Array.toList_map]
 refine ⟨?_,?_⟩
 ·have z:=hp.map (·.2)
  rw [List.map_map] at z
  have e:vs.map ((fun x:Keyed=>x.2) ∘ fun v=>(v,v)) = vs:=by
   rw [show ((fun x:Keyed=>x.2) ∘ fun v=>(v,v)) = id from rfl,List.map_id]
  rwa [e] at z
 ·rw [List.pairwise_map]
  refine List.Pairwise.imp_of_mem ?_ u.all
  intro a b ha hb hab
  obtain ⟨v,_,rfl⟩:=List.mem_map.mp (hp.mem_iff.mp ha)
  obtain ⟨u',_,rfl⟩:=List.mem_map.mp (hp.mem_iff.mp hb)
  exact hab
def Asks (prog:Program) (w:World) (s:Shared) (vs:List Value) (R:Keyed→Int) (κ:SortKind):Prop :=
 ∀ (A:Around) (h':Heap),(∀ b o,s.heap.get? b = some o→h'.get? b = some o) →
  (∀ (Q:SortKind→Shared→Prop) (E:Value→Shared→Prop),Q κ { s with heap:=h' }→wpAny (model prog w) A (keyKind' vs.toArray) Q E { s with heap:=h' })∧Cm prog w A { s with heap:=h' } R κ (pairsOf vs)
theorem joc {a:Addr} {vs:List Value} {n:Nat} {P:PySem.Fin→Shared→Prop} {R:Keyed→Int} {κ:SortKind} {h₁:Heap} (ho:s.heap.get? a = some (seqObj "list" vs.toArray n)) (hz:vs.length ≤ sizeLine)
  (hold:∀ b o,h₁.get? b = some o→b ≠ a∧s.heap.get? b = some o) (hk:2 ≤ vs.length→Asks prog w { s with heap:=h₁ } vs R κ)
  (h:∀ out:Array Value,out.toList.Perm vs→out.toList.Pairwise (fun a b=>R (a,a) ≤ R (b,b))→P (.done (.ret .none)) { s with heap:=sortedHeap s.heap a vs out }) :
  wpAny (model prog w) A (Builtin.«list.sort» ⟨[.ref a],[]⟩) P E s:=by
 rw [list_sort_plain]
 have ha:a < s.heap.objs.size:=Heap.lt_size ho
 have hz1:vs.toArray.size ≤ sizeLine:=by rw [List.size_toArray]; exact hz
 refine wpAny_bind (listItems_at ho rfl (wpAny_bind (listUpdate_at ho rfl ?_ hz1 (Nat.zero_le _))))
 obtain ⟨e1,ho1⟩:∃ e1,(s.heap.update a (Obj.mapSeq fun _=>(#[]:Array Value))).get? a = some (seqObj "list" #[] e1):=⟨_,get?_update_seq ho fun _=>#[]⟩
 refine wpAny_bind (seqEpoch_at ho1 rfl (wpAny_bind (wpAny_newTuple (wpAny_bind (wpAny_newList (wpAny_holding ?_) (Nat.zero_le _))) hz)))
 have keep:∀ b o,b ≠ a→s.heap.get? b = some o→(((s.heap.update a (Obj.mapSeq fun _=>(#[]:Array Value))).push (seqObj "tuple" vs.toArray 0)).push (seqObj "list" #[] 0)).get? b = some o:=fun b o hne q =>
  Heap.get?_push_of_some _ (Heap.get?_push_of_some _ (by rw [Heap.get?_update_ne _ _ _ _ hne]; exact q))
 have ho6:(((s.heap.update a (Obj.mapSeq fun _=>(#[]:Array Value))).push (seqObj "tuple" vs.toArray 0)).push (seqObj "list" #[] 0)).get? a = some (seqObj "list" #[] e1):=Heap.get?_push_of_some _ (Heap.get?_push_of_some _ ho1)
 show wpAny (model prog w) A _ P E { s with heap:=((s.heap.update a (Obj.mapSeq fun _=>(#[]:Array Value))).push (seqObj "tuple" vs.toArray 0)).push (seqObj "list" #[] 0) }
 dsimp only
 have fin:∀ st':SortSt,(arrOf st').Perm (pairsOf vs)→Up R (arrOf st') 0 (arrOf st').size→P (.done (.ret .none)) { s with heap:=sortedHeap s.heap a vs ((arrOf st').map (·.2)) }:=fun st' p u=>by
  obtain ⟨z1,z2⟩:=jno p u
  exact h _ z1 z2
 by_cases c2:vs.toArray.size < 2
 ·rw [if_pos c2,if_pos c2]
  refine wpAny_bind (wpAny_pure ?_)
  rw [StateT.run_pure]
  refine wpAny_bind (wpAny_pure (wpAny_bind (seqEpoch_at ho6 rfl (wpAny_bind (listUpdate_at ho6 rfl ?_ (Nat.zero_le _) (by rw [Array.size_map]; show (pairsOf vs).size ≤ _; rw [pairsOf_size]; exact Nat.le_succ_of_le hz))))))
  simp only [bne_self_eq_false,Bool.false_eq_true,if_false]
  refine wpAny_pure (fin (SortSt.mk' general' (vs.toArray.zip vs.toArray) #[] 7 none) (Array.Perm.refl _) (Up.one ?_))
  show (pairsOf vs).size ≤ 1
  rw [pairsOf_size]
  rw [List.size_toArray] at c2
  omega
 ·rw [if_neg c2,if_neg c2]
  rw [List.size_toArray] at c2
  obtain ⟨k1,k2⟩:=hk (by omega) A _ fun b o q=>keep b o (hold b o q).1 (hold b o q).2
  refine wpAny_bind (k1 _ _ ?_)
  have k3:=w_sort (E:=E) (st:=SortSt.mk' κ (pairsOf vs) #[] 7 none) (Q:=fun _ st'=>(arrOf st').Perm (pairsOf vs)∧failedOf st' = none∧Up R (arrOf st') 0 (pairsOf vs).size) k2 ⟨Array.Perm.refl _,rfl,rfl,rfl⟩ (by rw [pairsOf_size]; omega) fun st' a1 a2 a3=>⟨a1,a2,a3⟩
  refine wpAny_bind (wpAny_mono k3 ?_ fun _ _ e=>e)
  rintro ⟨⟨⟩,st'⟩ s' ⟨rfl,hp,hf,hs⟩
  dsimp only
  refine wpAny_bind (seqEpoch_at ho6 rfl (wpAny_bind (listUpdate_at ho6 rfl ?_ (Nat.zero_le _) (by refine Nat.le_trans (Nat.le_of_eq ((Array.size_map ..).trans (hp.size_eq.trans (pairsOf_size _)))) (Nat.le_succ_of_le hz)))))
  rw [hf]
  simp only [bne_self_eq_false,Bool.false_eq_true,if_false]
  rw [← hp.size_eq] at hs
  exact wpAny_pure (fin st' hp hs)
theorem jkm {l:Addr} {vs:List Value} {Q:Value→Shared→Prop} {R:Keyed→Int} {κ:SortKind} (hl:s.heap.IsList l vs.toArray) (hz:vs.length ≤ sizeLine) (hk:2 ≤ vs.length→Asks prog w s vs R κ)
  (h:∀ out:Array Value,out.toList.Perm vs→out.toList.Pairwise (fun a b=>R (a,a) ≤ R (b,b))→Q (.ref (s.heap.objs.size + 1)) { s with heap:=sortedAll s.heap vs out }) :
  wpAny (model prog w) A (call (.builtin "sorted") [.ref l]) Q E s:=by
 refine Calls.call_function_entry kind_sorted plain_sorted entry_sorted (args_sorted1 _) ?_
 unfold Builtin.«sorted»
 refine wpAny_bind (m:=checkCount "sorted" 1 1 _) (wpAny_pure (wpAny_bind (collect_list hl (wpAny_bind (wpAny_newList ?_ hz)) hz)))
 have hsz:((s.heap.push (seqObj "list" #[] 0)).update s.heap.objs.size (Obj.mapSeq (· ++ vs.toArray))).objs.size = s.heap.objs.size + 1:=by rw [Heap.size_update,size_push']
 generalize hh:((s.heap.push (seqObj "list" #[] 0)).update s.heap.objs.size (Obj.mapSeq (· ++ vs.toArray))).push (seqObj "list" vs.toArray 0) = h2
 have hoL:h2.get? (s.heap.objs.size + 1) = some (seqObj "list" vs.toArray 0):=by rw [← hh,← hsz]; exact Heap.get?_push_size _ rfl
 have keep:∀ b o,s.heap.get? b = some o→b ≠ s.heap.objs.size + 1∧h2.get? b = some o:=fun b o q=>by
  have hlt:b < s.heap.objs.size:=Heap.lt_size q
  refine ⟨Nat.ne_of_lt (Nat.lt_succ_of_lt hlt),?_⟩
  rw [← hh]
  exact Heap.get?_push_of_some _ (by rw [Heap.get?_update_ne _ _ _ _ (Nat.ne_of_lt hlt)]; exact Heap.get?_push_of_some _ q)
 show wpAny _ _ _ _ _ { s with heap:=h2 }
 rw [hsz]
 refine wpAny_bind (wpAny_holding (wpAny_call_entry slot_list_sort ⟨_,hoL,rfl⟩ entry_list_sort (joc (s:={ s with heap:=h2 }) (h₁:=s.heap) hoL hz keep hk fun out p1 p2=>⟨_,rfl,?_⟩) (args_list_sort _)))
 refine wpAny_pure ⟨_,rfl,?_⟩
 have z:=h out p1 p2
 unfold sortedAll at z
 rw [hh] at z
 exact z
def PairAt (h:Heap) (v:Value) (x y:Int):Prop:=∃ a o t u n,v = .ref a∧h.get? a = some o∧o.cls = .type "tuple"∧o.data = .seq #[.int x t,.int y u] n
theorem jhl {h:Heap}:∀ {vs:List Value},(∀ v ∈ vs,∃ x y,PairAt h v x y)→∃ fs,PySem.W.KatTups h vs fs∧fs.length = vs.length∧∀ f ∈ fs,∃ i t,f = .int i t
 | [],_=>⟨[],trivial,rfl,fun _ q=>by cases q⟩
 | v :: vs,hv=>by
  obtain ⟨fs,h1,h2,h3⟩:=jhl (vs:=vs) fun v m=>hv v (.tail _ m)
  obtain ⟨x,y,a,o,t,u,n,rfl,e1,e2,e3⟩:=hv v (.head _)
  refine ⟨.int x t :: fs,.cons e1 e2 e3 rfl h1,by rw [List.length_cons,List.length_cons,h2],fun f m=>?_⟩
  rcases List.mem_cons.mp m with rfl | m
  ·exact ⟨x,t,rfl⟩
  ·exact h3 f m
theorem jei {B x y x' y':Int} (h1:0 ≤ y) (h2:y < B) (h3:0 ≤ y') (h4:y' < B):x * B + y < x' * B + y' ↔ x < x' ∨ (x = x'∧y < y'):=by
 constructor
 ·intro h
  rcases Int.lt_trichotomy x x' with c | c | c
  ·exact .inl c
  ·subst c; exact .inr ⟨rfl,by omega⟩
  ·exfalso
   have q:(x' + 1) * B ≤ x * B:=Int.mul_le_mul_of_nonneg_right (by omega) (by omega)
   rw [Int.add_mul,Int.one_mul] at q
   omega
 ·rintro (c | ⟨rfl,c⟩)
  ·have q:(x + 1) * B ≤ x' * B:=Int.mul_le_mul_of_nonneg_right (by omega) (by omega)
   rw [Int.add_mul,Int.one_mul] at q
   omega
  ·omega
theorem jjx {vs:List Value} {R:Keyed→Int} {B:Int} (hv:∀ v ∈ vs,∃ x y,PairAt s.heap v x y∧R (v,v) = x * B + y∧0 ≤ y∧y < B) (h2:2 ≤ vs.length):Asks prog w s vs R (tuples' true):=by
 intro A h' keep
 refine ⟨fun Q E q=>?_,fun x y hx hy Q E q=>?_⟩
 ·obtain ⟨fs,k1,k2,k3⟩:=jhl (h:=h') (vs:=vs) fun v m=>by
   obtain ⟨x,y,⟨a,o,t,u,n,e0,e1,e2⟩,_⟩:=hv v m
   exact ⟨x,y,a,o,t,u,n,e0,keep _ _ e1,e2⟩
  refine PySem.W.kat_kind (T:=.type "int") k1 (by omega) (fun f m=>?_) rfl q
  obtain ⟨i,t,rfl⟩:=k3 f m
  exact PySem.W.Looks.of_pure rfl
 ·rw [pairsOf_toList,jfj] at hx hy
  obtain ⟨v,mv,rfl⟩:=List.mem_map.mp hx
  obtain ⟨u,mu,rfl⟩:=List.mem_map.mp hy
  obtain ⟨x1,y1,⟨a,o,t1,t2,n,rfl,e1,e2,e3⟩,r1,r2,r3⟩:=hv v mv
  obtain ⟨x2,y2,⟨b,p,t3,t4,m,rfl,e4,e5,e6⟩,r4,r5,r6⟩:=hv u mu
  rw [r1,r4] at q
  have lx:=jei (x:=x1) (x':=x2) r2 r3 r5 r6
  refine PySem.W.kat_lt (b:=true) (s:={ s with heap:=h' }) (keep _ _ e1) e3 (keep _ _ e4) e6 ?_
  refine PySem.W.kat_cons (wpAny_eqBool_int ?_)
  by_cases c:x1 = x2
  ·rw [show (x1 == x2) = true by rw [c]; exact beq_self_eq_true _]
   refine PySem.W.kat_yes (PySem.W.kat_cons (wpAny_eqBool_int ?_))
   by_cases c2:y1 = y2
   ·rw [show (y1 == y2) = true by rw [c2]; exact beq_self_eq_true _]
    refine PySem.W.kat_yes (PySem.W.kat_nil ?_)
    rw [show decide (x1 * B + y1 < x2 * B + y2) = false by rw [decide_eq_false_iff_not,lx]; omega] at q
    exact q
   ·rw [show (y1 == y2) = false by rw [beq_eq_false_iff_ne]; exact c2]
    refine PySem.W.kat_no (PySem.W.kat_one _ _ (lt_int ?_))
    rw [show decide (x1 * B + y1 < x2 * B + y2) = decide (y1 < y2) by rw [decide_eq_decide,lx]; omega] at q
    exact q
  ·rw [show (x1 == x2) = false by rw [beq_eq_false_iff_ne]; exact c]
   refine PySem.W.kat_no (oneLt_int ?_)
   rw [show decide (x1 * B + y1 < x2 * B + y2) = decide (x1 < x2) by rw [decide_eq_decide,lx]; omega] at q
   exact q
end
end So
namespace L2
open PySem PySem.Spec PyProof.Rows
def lexLe (a b:Int × Int):Prop:=a.1 < b.1 ∨ (a.1 = b.1∧a.2 ≤ b.2)
def pvOf (H:Hp):Value→Int × Int
 | .ref a=>match H a with
  | some (.tup [.int x,.int y])=>(x,y)
  | _=>(0,0)
 | _=>(0,0)
def tvOf:Value→V
 | .ref a=>.ref a
 | _=>.non
def rSortP:List V→Hp→VK→Prop:=fun vs H Q=>∃ (p:Addr) (xs:List V) (ps:List (Int × Int)) (B:Int),vs = [.ref p]∧H p = some (.lst xs)∧Prs H xs ps∧xs.length ≤ 1000∧(∀ q ∈ ps,0 ≤ q.2∧q.2 < B) ∧
 ∀ (l:Addr) (ys:List V) (qs:List (Int × Int)),H l = none→Prs H ys qs→qs.Perm ps→qs.Pairwise lexLe→Q (.ref l) (upd H l (.lst ys))
theorem jk4 {H:Hp}:∀ {xs:List V} {its:List Value} {ps:List (Int × Int)},Vals xs its→Prs H xs ps→its.map (pvOf H) = ps∧∀ v ∈ its,RelV (tvOf v) v∧Pr H (tvOf v) (pvOf H v)
 | _,_,_,.nil,.nil=>⟨rfl,fun _ m=>by cases m⟩
 | _,_,_,.cons r t,.cons q u=>by
  obtain ⟨e1,e2⟩:=jk4 t u
  obtain ⟨a,rfl,ea⟩:=q
  cases r
  rename_i b _
  have e:pvOf H (.ref a) = b:=by unfold pvOf; dsimp only; rw [ea]
  refine ⟨?_,fun v m=>?_⟩
  ·rw [List.map_cons,e1,e]
  ·rcases List.mem_cons.mp m with rfl | m
   ·rw [e]; exact ⟨rfl,a,rfl,ea⟩
   ·exact e2 v m
theorem jm0 {H:Hp}:∀ {us:List Value},(∀ v ∈ us,RelV (tvOf v) v∧Pr H (tvOf v) (pvOf H v))→Vals (us.map tvOf) us∧Prs H (us.map tvOf) (us.map (pvOf H))
 | [],_=>⟨.nil,.nil⟩
 | v :: us,h=>by
  obtain ⟨a,b⟩:=jm0 (us:=us) fun v m=>h v (.tail _ m)
  obtain ⟨c,d⟩:=h v (.head _)
  exact ⟨.cons c a,.cons d b⟩
theorem jbc {X:Cx}:jc0 X (.builtin "sorted") rSortP:=by
 intro pins s σ H xs us Q I r h
 obtain ⟨p,xs,ps,B,rfl,e,pp,hz,hB,q⟩:=h
 obtain ⟨u,rfl,rx⟩:=je1 r
 cases rx
 obtain ⟨its,r',pl,_⟩:=I.list (SqL.of e)
 have hlen:=r'.length
 obtain ⟨m1,m2⟩:=jk4 r' pp
 have hz2:(1000:Nat) ≤ sizeLine:=by decide
 have hpv:∀ v ∈ its,pvOf H v ∈ ps:=fun v m=>by rw [← m1]; exact List.mem_map_of_mem m
 refine So.jkm (R:=fun k=>(pvOf H k.1).1 * B + (pvOf H k.1).2) pl.isList (by omega) (fun h2=>So.jjx (B:=B) (fun v m=>?_) h2) fun out o1 o2=>?_
 ·obtain ⟨a,ea,eh⟩:=(m2 v m).2
  have ev:v = .ref a:=by
   have z:=(m2 v m).1
   rw [ea] at z
   exact z
  obtain ⟨_,is2,rv,ob,eo,ec,n,en⟩:=I.hok _ _ eh
  match is2,rv with
  | _,.cons ⟨t1,e1⟩ (.cons ⟨t2,e2⟩ .nil) =>
   subst e1 e2
   exact ⟨(pvOf H v).1,(pvOf H v).2,⟨a,ob,t1,t2,n,ev,eo,ec,en⟩,rfl,hB _ (hpv v m)⟩
 ·obtain ⟨c,hc⟩:=sortedAll_at s.heap its out
  obtain ⟨b1,b2⟩:=jm0 (H:=H) (us:=out.toList) fun v m=>m2 v (o1.mem_iff.mp m)
  have hol:=o1.length_eq
  refine ⟨.ref (s.heap.objs.size + 1),_,I.laid (t':=s.toks) (fun _ _=>sortedAll_old) (Nat.le_succ _) (show jbn X.prog X.w _ _ _ (.lst (out.toList.map tvOf)) from ⟨?_,out.toList,c,b1,?_⟩),rfl,q _ _ (out.toList.map (pvOf H)) (I.hok.fresh (Nat.le_succ _)) b2 ?_ ?_⟩
  ·rw [List.length_map]; omega
  ·rw [hc]
  ·have z:=o1.map (pvOf H)
   rwa [m1] at z
  ·rw [List.pairwise_map]
   refine List.Pairwise.imp_of_mem ?_ o2
   intro u v mu mv huv
   have g1:=hB _ (hpv u (o1.mem_iff.mp mu))
   have g2:=hB _ (hpv v (o1.mem_iff.mp mv))
   have z:=So.jei (x:=(pvOf H v).1) (x':=(pvOf H u).1) g2.1 g2.2 g1.1 g1.2
   have z2:¬ ((pvOf H v).1 < (pvOf H u).1 ∨ ((pvOf H v).1 = (pvOf H u).1∧(pvOf H v).2 < (pvOf H u).2)):=fun w=>by
    have:=z.mpr w
    dsimp only at huv
    omega
   unfold lexLe
   omega
end L2
namespace L2
open PySem PySem.Spec PyProof.Rows
def rSum:List V→Hp→VK→Prop:=fun vs H Q=>∃ (p:Addr) (ns:List Int),vs = [.ref p]∧H p = some (.lst (ns.map V.int))∧Q (.int ns.sum) H
theorem q_sum {X:Cx} (hc:X.calm = true):jc0 X (.builtin "sum") rSum:=by
 intro pins s σ H xs us Q I r h
 obtain ⟨p,ns,rfl,e,q⟩:=h
 obtain ⟨u,rfl,rx⟩:=je1 r
 cases rx
 obtain ⟨its,r',pl,_⟩:=I.list (SqL.of e)
 have hI:=jch r'
 obtain ⟨zs,hz⟩:=hI.allInts.items
 have hn:=hI.numsOf
 have hl:=pl.isList
 rw [hz] at hl
 refine sum_intListG (I.ok.hd hc) hl fun h' tk t' hk=>?_
 have e2:preSum (numAt zs) zs.size = ns.sum:=by
  rw [preSum_eq,List.take_of_length_le (by simp),← hn,← nums_intItems,← hz]
 rw [e2]
 exact ⟨.int ns.sum,H,I.kept hk,⟨t',rfl⟩,q⟩
def fIsB (f:Bool→Bool):R2:=fun x y H Q=>match x,y with
 | .bl a,.bl b=>Q (.bl (f (a == b))) H
 | _,_=>False
end L2
namespace L2
open PySem PySem.Spec PyProof.Rows
def Itd (d:Addr) (o:Obj) (kvs:List (Key × V)):It :=
 ⟨fun i H=>H d = some (.frz o (.dK kvs))∧i < kvs.length,fun i H x H'=>H' = H∧∃ kv,kvs[i]? = some kv∧x = kV kv.1,fun i H=>H d = some (.frz o (.dK kvs))∧kvs.length ≤ i⟩
theorem jme {k:Key} {v:Value} (h:jim k v = true):RelV (kV k) v:=by
 rcases jb7 h with ⟨i,t,rfl,rfl⟩ | ⟨x,t,rfl,rfl⟩
 ·exact ⟨t,rfl⟩
 ·exact ⟨t,rfl⟩
theorem kv_at {kvs:List (Key × V)} {vs:List (Key × Value)} (r:KV kvs vs) {i:Nat} {k:Key} {x:Value} (e:vs[i]? = some (k,x)):∃ kv,kvs[i]? = some kv∧kv.1 = k:=by
 obtain ⟨kv,e1,e2⟩:=jb5 r e
 exact ⟨kv,e1,e2.1⟩
theorem jk8 {P:Program} {w:World} {K:PySem.W.Frag} {tg:Expr} (d it:Addr) (o:Obj) (kvs:List (Key × V)) (vs:List (Key × Value)) (ep:Nat) (hne:d ≠ it) (rk:KV kvs vs)
  (hD:∀ h:Heap,h.get? d = some o→h.DictAt (jbl P w) d vs ep):Turn P w K tg (Itd d o kvs) [it] it (fun i h=>h.IsKeyIter it d i vs.length ep) where
 mem:=by simp
 obj:=fun i h st b hb=>by
  have e:b = it:=by simpa using hb
  subst e
  obtain ⟨o,e,c,d⟩:=st
  exact ⟨o,e,fun v z=>by rw [d] at z; cases z⟩
 keep:=fun i h h' st k=>st.at fun o e=>k it (by simp) o e
 item:=by
  intro X hP hw hK hc i pins s σ H E I hf st hg
  subst hP hw hK
  obtain ⟨hq,hx⟩:=hg
  obtain ⟨eo,_⟩:=(show s.heap.get? d = some o∧_ from I.hok _ _ hq)
  have hl:=rk.length
  obtain ⟨⟨k,x⟩,hx'⟩:∃ p,vs[i]? = some p:=⟨vs[i]'(by omega),List.getElem?_eq_getElem _⟩
  obtain ⟨f0,f1,f2,f3,f4,f5⟩:=hf it (by simp)
  refine wpAny_pyNext_dict_item st (hD _ eo) hx' fun key h' hkey st' sb=>?_
  have I1:Inv X pins σ H { s with heap:=h' }:=I.turned (t':=s.toks) (fun b o hb e=>(sb.2 b hb).trans e) f0 f1 f3 f4 f5
  obtain ⟨kv,e1,e2⟩:=kv_at rk hx'
  obtain ⟨o',e,c,dd⟩:=id st'
  exact ⟨key,rfl,jmz (s:={ s with heap:=h' }) e c dd (by decide) ⟨kV k,H,I1,jme hkey,⟨rfl,kv,e1,by rw [e2]⟩,st',fun b hb=>(hf b hb).1⟩⟩
 done:=by
  intro X hP hw hK hc i pins s σ H E I hf st hg
  subst hP hw hK
  obtain ⟨hq,hx⟩:=hg
  obtain ⟨eo,_⟩:=(show s.heap.get? d = some o∧_ from I.hok _ _ hq)
  have hl:=rk.length
  obtain ⟨f0,f1,f2,f3,f4,f5⟩:=hf it (by simp)
  exact wpAny_pyNext_dict_end (I.ok.hd hc) st (hD _ eo) (List.getElem?_eq_none_iff.mpr (by omega)) fun h' eb=>⟨rfl,I.turned (t':=s.toks) (fun b o hb e=>eb b o hb e) f0 f1 f3 f4 f5⟩
 self:=fun _ _ _ _ _ st h=>wpAny_pyIter_keyiter st h
def iDct (tl:TE):TI:=fun σ H R=>tl σ H fun v H1=>∃ d kvs,v = .ref d∧H1 d = some (.dK kvs)∧∀ o,R (Itd d o kvs) (upd H1 d (.frz o (.dK kvs)))
theorem jol {X:Cx} {tg l:Expr} {tl:TE} (hl:PE X l tl):PI X tg l (iDct tl):=by
 intro pins s σ H R I h
 refine thn (hl pins s σ H _ I h) fun v s1 ⟨x,H1,I1,r1,q1⟩=>?_
 obtain ⟨d,kvs,e,hd,q⟩:=q1
 subst e
 cases r1
 obtain ⟨z,lo,vs,rel,dd⟩:=dk_of I1.hok hd
 obtain ⟨ep,hat⟩:=dd.dictAt
 obtain ⟨o,es,eo,rest⟩:=id hat
 have I2:Inv X pins σ (upd H1 d (.frz o (.dK kvs))) { s1 with heap:=s1.heap,toks:=s1.toks } :=
  I1.write (x:=d) (e:=d) (by rw [hd]; exact True.intro) (.inl rfl) (fun b u _ q=>q) ⟨o,eo⟩ (show jbn X.prog X.w _ s1.heap d (.frz o (.dK kvs)) from ⟨eo,z,lo,vs,rel,dd⟩)
 have I2:Inv X pins σ (upd H1 d (.frz o (.dK kvs))) s1:=I2
 have hdl:d < s1.heap.objs.size:=Heap.lt_size eo
 refine wpAny_pyIter_dict lo hat ?_
 refine ⟨s1.heap.objs.size,[s1.heap.objs.size],_,_,_,rfl,I2.kept (t':=s1.toks) fun b o e=>Heap.get?_push_of_some _ e,jk8 d _ o kvs vs ep (Nat.ne_of_lt hdl) rel fun h e=>⟨o,es,e,rest⟩,⟨_,Heap.get?_push_size _ rfl,rfl,rfl⟩,fun b hb=>?_,q o⟩
 have e:b = s1.heap.objs.size:=by simpa using hb
 subst e
 exact I2.fpOk (Nat.le_refl _) (I2.hok.fresh (Nat.le_refl _))
end L2
namespace My
open PySem L2
theorem sl0:(0 ≤ sizeLine) = True:=eq_true (by decide)
theorem sl1:(1 ≤ sizeLine) = True:=eq_true (by decide)
theorem sl2:(2 ≤ sizeLine) = True:=eq_true (by decide)
theorem sl3:(3 ≤ sizeLine) = True:=eq_true (by decide)
theorem sl4:(4 ≤ sizeLine) = True:=eq_true (by decide)
end My
local macro_rules | `(tactic| walk_at "RD") => `(tactic| try simp only [L2.fIsB, L2.tSeq, L2.jo8, L2.jo9, L2.tRet, L2.tRetN, L2.tIfS, L2.tAsg, L2.jg8, L2.fAug, L2.tOp, L2.tUn, L2.tC, L2.fVar, L2.fI, L2.fIC, L2.fNeg, L2.fEq, L2.fNe, L2.fIsN, L2.jot, L2.fAnd, L2.fOr, L2.fNot, L2.fB, L2.tNot, L2.tAnd, L2.tOr, L2.jjg, L2.fIx, L2.fLen, L2.jg9, L2.fMin, L2.fMax, L2.fInL, L2.fSlL, L2.tSl, L2.jp0, L2.ji2, L2.jga, L2.fBM, L2.jn0, L2.gSub, L2.jln, L2.jhm, L2.jlm, L2.fGLst, L2.jnv, L2.jkp, L2.jkc, L2.fCat, L2.jnw, L2.fBM0, L2.fSlT, L2.jn1, L2.tCBK, L2.fDIn, L2.jp1, L2.fIsi, L2.jnx, L2.jjf, L2.fLtT, L2.job, L2.tCB, L2.joa, L2.tNil, L2.tTup, L2.tLst, L2.tIf, L2.jo7, L2.Kd.nm, L2.jer, List.map_cons, List.map_nil, List.length_cons, List.length_nil, Nat.reduceAdd, Nat.reduceSub, List.replicate_succ, List.replicate_zero, List.getElem?_cons_zero, List.getElem?_cons_succ, List.set_cons_zero, List.set_cons_succ, List.append_nil, List.nil_append, List.cons_append, eq_self, true_and, and_true, if_true, Bool.false_eq_true, if_false, Bool.not_true, Bool.not_false, id_eq, My.sl0, My.sl1, My.sl2, My.sl3, My.sl4])
local macro_rules | `(tactic| simp_arith [$args,*]) => `(tactic| try simp only [L2.fIsB, L2.tSeq, L2.jo8, L2.jo9, L2.tRet, L2.tRetN, L2.tIfS, L2.tAsg, L2.jg8, L2.fAug, L2.tOp, L2.tUn, L2.tC, L2.fVar, L2.fI, L2.fIC, L2.fNeg, L2.fEq, L2.fNe, L2.fIsN, L2.jot, L2.fAnd, L2.fOr, L2.fNot, L2.fB, L2.tNot, L2.tAnd, L2.tOr, L2.jjg, L2.fIx, L2.fLen, L2.jg9, L2.fMin, L2.fMax, L2.fInL, L2.fSlL, L2.tSl, L2.jp0, L2.ji2, L2.jga, L2.fBM, L2.jn0, L2.gSub, L2.jln, L2.jhm, L2.jlm, L2.fGLst, L2.jnv, L2.jkp, L2.jkc, L2.fCat, L2.jnw, L2.fBM0, L2.fSlT, L2.jn1, L2.tCBK, L2.fDIn, L2.jp1, L2.fIsi, L2.jnx, L2.jjf, L2.fLtT, L2.job, L2.tCB, L2.joa, L2.tNil, L2.tTup, L2.tLst, L2.tIf, L2.jo7, L2.Kd.nm, L2.jer, List.map_cons, List.map_nil, List.length_cons, List.length_nil, Nat.reduceAdd, Nat.reduceSub, List.replicate_succ, List.replicate_zero, List.getElem?_cons_zero, List.getElem?_cons_succ, List.set_cons_zero, List.set_cons_succ, List.append_nil, List.nil_append, List.cons_append, eq_self, true_and, and_true, if_true, Bool.false_eq_true, if_false, Bool.not_true, Bool.not_false, id_eq, My.sl0, My.sl1, My.sl2, My.sl3, My.sl4, $args,*])
namespace My
open PySem L2
theorem szl {n:Nat} (h:n ≤ 1000):n ≤ sizeLine:=Nat.le_trans h (by decide)
theorem szl' {n:Nat} (h:n ≤ 1000):n < sizeLine:=Nat.lt_of_le_of_lt h (by decide)
def top (i:Nat):Stmt:=PySem.Challenge.pw_touchall_k77_webs_called_otherwise.main.body.getD i (.Pass ⟨0,0,0,0⟩)
structure DefAt (K:PySem.W.Frag) (mg:Str→Option Value) (x:Str) (st:Stmt) (ps:List Str) (f:Addr) (fd:FuncData):Prop where
 F:Fun K x x st f fd
 b:jiv K fd ps []
 m:mg x = some (.ref f)
structure Blt (mg:Str→Option Value):Prop where
 len:mg "len" = none
 isinstance:mg "isinstance" = none
 all:mg "all" = none
 min:mg "min" = none
 list:mg "list" = none
 dict:mg "dict" = none
 int:mg "int" = none
 bool:mg "bool" = none
 str:mg "str" = none
 tuple:mg "tuple" = none
 range:mg "range" = none
 enumerate:mg "enumerate" = none
 zip:mg "zip" = none
 max:mg "max" = none
 any:mg "any" = none
 sum:mg "sum" = none
 sorted:mg "sorted" = none
 set:mg "set" = none
structure Cst (mg:Str→Option Value) (t1 t2 t3 t4:Tok):Prop where
 MOST_PLACES:mg "MOST_PLACES" = some (.int 40 t1)
 MOST_TIES:mg "MOST_TIES" = some (.int 120 t2)
 LAST_PLACE:mg "LAST_PLACE" = some (.int 999 t3)
 MOST_PRICE:mg "MOST_PRICE" = some (.int 1000000000000 t4)
section
variable {P:Program} {w:World} {K:PySem.W.Frag} {mg:Str→Option Value} {base:Heap} {c1 c2 c3 c4:Tok}
theorem at0 {α:Type} {x:α} {r:List α}:atI (x :: r) 0 = some x:=by
 have e:atI (x :: r) ((0:Nat):Int) = some x:=jc3 rfl
 exact e
theorem at1 {α:Type} {x y:α} {r:List α}:atI (x :: y :: r) 1 = some y:=by
 have e:atI (x :: y :: r) ((1:Nat):Int) = some y:=jc3 rfl
 exact e
theorem at2 {α:Type} {x y z:α} {r:List α}:atI (x :: y :: z :: r) 2 = some z:=by
 have e:atI (x :: y :: z :: r) ((2:Nat):Int) = some z:=jc3 rfl
 exact e
def jf2:Kd→Bool
 | .int=>true
 | _=>false
def je3:Sp:=fun vs H Q _=>∃ x k,vs = [x]∧kd H x = some k∧Q (.bl (jf2 k)) H
def je4:Sp:=fun vs H Q _=>∃ a xs m,vs = [.ref a,.int m]∧H a = some (.tup xs)∧Q (.bl (decide ((xs.length:Int) = m))) H
def jdi:Sp:=fun vs H Q _=>∃ a xs m,vs = [.ref a,.int m]∧H a = some (.lst xs)∧Q (.bl (decide ((xs.length:Int) ≤ m))) H
def jj1:Sp:=fun vs H Q _=>∃ x p,vs = [x]∧Pr H x p∧Q (.bl true) H
def jd6:Sp:=fun vs H Q _=>∃ x p l s,vs = [x,.int l,.int s]∧Pr H x p∧(l < p.1∧p.1 ≤ 999∧1 ≤ p.2∧p.2 ≤ 1000000000000 - s)∧Q (.bl true) H
def hasK (kvs:List (Key × V)) (n:Int):Bool:=(valV kvs (Sum.inl n:Key)).isSome
def je5:Sp:=fun vs H Q _=>∃ x p y q d kvs,vs = [x,y,.ref d]∧Pr H x p∧Pr H y q∧H d = some (.dK kvs)∧(HT.lexLt [q.1,q.2] [p.1,p.2] = true∧p.1 < p.2∧hasK kvs p.1 = true∧hasK kvs p.2 = true)∧Q (.bl true) H
theorem jig {f:Addr} {fd:FuncData}  (B:Blt mg) (D:DefAt K mg "is_whole" (top 5) ["thing"] f fd):FnOk P w K mg base CX0 1 f fd ["thing"] je3:=by
 have sc:FnScope ["thing"] ["thing"] (jac (top 5)):=⟨rfl,rfl,rfl,by decide +kernel,rfl,by decide +kernel,by decide +kernel⟩
 refine D.F.ok sc (fun vs H Q E h=>?_) (fun cdv A outer s H vs Q E hr h=>?_)
 ·obtain ⟨x,k,rfl,_⟩:=h
  rfl
 obtain ⟨x,k,rfl,ek,h⟩:=h
 have hu:=jba hr
 have hu0:_ < PySem.cLine:=Nat.lt_of_succ_lt hu
 refine ⟨_,(ja7 (jak (jes (jab (je7 .int) rfl B.isinstance PyProof.Rows.boot_isinstance (ja0 (qv 0) (ja0 (jc6 (v:=.ty "int") rfl B.int PyProof.Rows.boot_int rfl) ja2))) (je9 (q_not (jab (je7 .bl) rfl B.isinstance PyProof.Rows.boot_isinstance (ja0 (qv 0) (ja0 (jc6 (v:=.ty "bool") rfl B.bool PyProof.Rows.boot_bool rfl) ja2)))))))),?_⟩
 simp_arith [ek]
 cases k <;> simpa only [isi,jf2,if_true,if_false,Bool.false_eq_true,Bool.not_true,Bool.not_false] using h
theorem jev {f:Addr} {fd:FuncData}  (B:Blt mg) (D:DefAt K mg "is_tuple_of" (top 6) ["thing","many"] f fd):FnOk P w K mg base CX0 1 f fd ["thing","many"] je4:=by
 have sc:FnScope ["thing","many"] ["thing","many"] (jac (top 6)):=⟨rfl,rfl,rfl,by decide +kernel,rfl,by decide +kernel,by decide +kernel⟩
 refine D.F.ok sc (fun vs H Q E h=>?_) (fun cdv A outer s H vs Q E hr h=>?_)
 ·obtain ⟨a,xs,m,rfl,_⟩:=h
  rfl
 obtain ⟨a,xs,m,rfl,ea,h⟩:=h
 have hu:=jba hr
 have hu0:_ < PySem.cLine:=Nat.lt_of_succ_lt hu
 refine ⟨_,(ja7 (jak (jes (jab (je7 .tup) rfl B.isinstance PyProof.Rows.boot_isinstance (ja0 (qv 0) (ja0 (jc6 (v:=.ty "tuple") rfl B.tuple PyProof.Rows.boot_tuple rfl) ja2))) (je9 (jcg q_eq (jab jdr rfl B.len PySem.boot_len (ja0 (qv 0) ja2)) (qv 1) (jap _)))))),?_⟩
 simp_arith [kd,ea,jam,isi]
 exact h
theorem jdt {f:Addr} {fd:FuncData}  (B:Blt mg) (D:DefAt K mg "is_list_up_to" (top 8) ["thing","most"] f fd):FnOk P w K mg base CX0 1 f fd ["thing","most"] jdi:=by
 have sc:FnScope ["thing","most"] ["thing","most"] (jac (top 8)):=⟨rfl,rfl,rfl,by decide +kernel,rfl,by decide +kernel,by decide +kernel⟩
 refine D.F.ok sc (fun vs H Q E h=>?_) (fun cdv A outer s H vs Q E hr h=>?_)
 ·obtain ⟨a,xs,m,rfl,_⟩:=h
  rfl
 obtain ⟨a,xs,m,rfl,ea,h⟩:=h
 have hu:=jba hr
 have hu0:_ < PySem.cLine:=Nat.lt_of_succ_lt hu
 refine ⟨_,(ja7 (jak (jes (jab (je7 .lst) rfl B.isinstance PyProof.Rows.boot_isinstance (ja0 (qv 0) (ja0 (jc6 (v:=.ty "list") rfl B.list PyProof.Rows.boot_list rfl) ja2))) (je9 (jcg q_le (jab jdr rfl B.len PySem.boot_len (ja0 (qv 0) ja2)) (qv 1) (jap _)))))),?_⟩
 simp_arith [kd,ea,jam,isi]
 exact h
theorem jcw {f:Addr} {fd:FuncData} {f_is_tuple_of:Addr} {d_is_tuple_of:FuncData} {f_is_whole:Addr} {d_is_whole:FuncData} (B:Blt mg) (D:DefAt K mg "is_pair_of_wholes" (top 7) ["thing"] f fd) (D_is_tuple_of:DefAt K mg "is_tuple_of" (top 6) ["thing","many"] f_is_tuple_of d_is_tuple_of) (G_is_tuple_of:FnOk P w K mg base CX0 1 f_is_tuple_of d_is_tuple_of ["thing","many"] je4) (D_is_whole:DefAt K mg "is_whole" (top 5) ["thing"] f_is_whole d_is_whole) (G_is_whole:FnOk P w K mg base CX0 1 f_is_whole d_is_whole ["thing"] je3):FnOk P w K mg base CX0 2 f fd ["thing"] jj1:=by
 have sc:FnScope ["thing"] ["thing"] (jac (top 7)):=⟨rfl,rfl,rfl,by decide +kernel,rfl,by decide +kernel,by decide +kernel⟩
 refine D.F.ok sc (fun vs H Q E h=>?_) (fun cdv A outer s H vs Q E hr h=>?_)
 ·obtain ⟨x,p,rfl,_⟩:=h
  rfl
 obtain ⟨x,p,rfl,⟨a,rfl,ea⟩,h⟩:=h
 have hu:=jba hr
 have hu0:_ < PySem.cLine:=Nat.lt_of_succ_lt hu
 refine ⟨_,(ja7 (jak (jes (ja9 G_is_tuple_of (hr.mono (by decide)) rfl D_is_tuple_of.m D_is_tuple_of.F.kp D_is_tuple_of.b .nil jai (ja0 (qv 0) (ja0 ja4 ja2))) (jes (ja9 G_is_whole (hr.mono (by decide)) rfl D_is_whole.m D_is_whole.F.kp D_is_whole.b .nil jai (ja0 (jah q_ix (qv 0) ja4 (fun _ _=>rfl)) ja2)) (je9 (ja9 G_is_whole (hr.mono (by decide)) rfl D_is_whole.m D_is_whole.F.kp D_is_whole.b .nil jai (ja0 (jah q_ix (qv 0) ja4 (fun _ _=>rfl)) ja2))))))),?_⟩
 simp_arith [jam,ea,at0,at1]
 refine ⟨a,_,2,rfl,ea,?_⟩
 simp_arith [jam,ea,at0,at1,Int.cast_ofNat_Int,decide_true]
 refine ⟨_,.int,rfl,rfl,?_⟩
 simp_arith [jf2,jam,ea,at0,at1]
 exact ⟨_,.int,rfl,rfl,h⟩
theorem jec {f:Addr} {fd:FuncData} {f_is_pair_of_wholes:Addr} {d_is_pair_of_wholes:FuncData} (B:Blt mg) (C:Cst mg c1 c2 c3 c4) (D:DefAt K mg "place_stands" (top 14) ["thing","last","spent"] f fd) (D_is_pair_of_wholes:DefAt K mg "is_pair_of_wholes" (top 7) ["thing"] f_is_pair_of_wholes d_is_pair_of_wholes) (G_is_pair_of_wholes:FnOk P w K mg base CX0 2 f_is_pair_of_wholes d_is_pair_of_wholes ["thing"] jj1):FnOk P w K mg base CX0 3 f fd ["thing","last","spent"] jd6:=by
 have sc:FnScope ["thing","last","spent"] ["thing","last","spent"] (jac (top 14)):=⟨rfl,rfl,rfl,by decide +kernel,rfl,by decide +kernel,by decide +kernel⟩
 refine D.F.ok sc (fun vs H Q E h=>?_) (fun cdv A outer s H vs Q E hr h=>?_)
 ·obtain ⟨x,p,l,s,rfl,_⟩:=h
  rfl
 obtain ⟨x,p,l,sp,rfl,hp,⟨b1,b2,b3,b4⟩,h⟩:=h
 obtain ⟨a,rfl,ea⟩:=id hp
 have hu:=jba hr
 have hu0:_ < PySem.cLine:=Nat.lt_of_succ_lt hu
 refine ⟨_,(ja5 (jbf (jbj (jbh (ja9 G_is_pair_of_wholes (hr.mono (by decide)) rfl D_is_pair_of_wholes.m D_is_pair_of_wholes.F.kp D_is_pair_of_wholes.b .nil jai (ja0 (qv 0) ja2)))) (ja7 (jak jcv)) jao) (ja7 (jak (jes (jku q_lt q_le (qv 1) (jah q_ix (qv 0) ja4 (fun _ _=>rfl)) (jea (v:=.int 999) rfl C.LAST_PLACE ⟨_,rfl⟩)) (je9 (jku q_le q_le ja4 (jah q_ix (qv 0) ja4 (fun _ _=>rfl)) (jau jgx (jea (v:=.int 1000000000000) rfl C.MOST_PRICE ⟨_,rfl⟩) (qv 2)))))))),?_⟩
 walk_at "RD"
 refine ⟨_,p,rfl,hp,?_⟩
 simp_arith [jam,ea,at0,at1,decide_eq_true b1,decide_eq_true b2,decide_eq_true b3,decide_eq_true b4]
 exact h
theorem jfv {f:Addr} {fd:FuncData} {f_is_pair_of_wholes:Addr} {d_is_pair_of_wholes:FuncData} (B:Blt mg) (D:DefAt K mg "tie_stands" (top 15) ["thing","last","prices"] f fd) (D_is_pair_of_wholes:DefAt K mg "is_pair_of_wholes" (top 7) ["thing"] f_is_pair_of_wholes d_is_pair_of_wholes) (G_is_pair_of_wholes:FnOk P w K mg base CX0 2 f_is_pair_of_wholes d_is_pair_of_wholes ["thing"] jj1):FnOk P w K mg base CX0 3 f fd ["thing","last","prices"] je5:=by
 have sc:FnScope ["thing","last","prices"] ["thing","last","prices"] (jac (top 15)):=⟨rfl,rfl,rfl,by decide +kernel,rfl,by decide +kernel,by decide +kernel⟩
 refine D.F.ok sc (fun vs H Q E h=>?_) (fun cdv A outer s H vs Q E hr h=>?_)
 ·obtain ⟨x,p,y,q,d,kvs,rfl,_⟩:=h
  rfl
 obtain ⟨x,p,y,q,d,kvs,rfl,hp,hq,hd,⟨b1,b2,b3,b4⟩,h⟩:=h
 obtain ⟨a,rfl,ea⟩:=id hp
 obtain ⟨b,rfl,eb⟩:=id hq
 unfold hasK at b3 b4
 have hu:=jba hr
 have hu0:_ < PySem.cLine:=Nat.lt_of_succ_lt hu
 refine ⟨_,(ja5 (jbf (jbj (jbh (ja9 G_is_pair_of_wholes (hr.mono (by decide)) rfl D_is_pair_of_wholes.m D_is_pair_of_wholes.F.kp D_is_pair_of_wholes.b .nil jai (ja0 (qv 0) ja2)))) (ja7 (jak jcv)) jao) (ja7 (jak (jes (jcg (q_ltT hu0) (qv 1) (qv 0) (jap _)) (jes (jcg q_lt (jah q_ix (qv 0) ja4 (fun _ _=>rfl)) (jah q_ix (qv 0) ja4 (fun _ _=>rfl)) (jap _)) (jes (jnn (q_din hu (jah q_ix (qv 0) ja4 (fun _ _=>rfl)) (qv 2))) (je9 (jnn (q_din hu (jah q_ix (qv 0) ja4 (fun _ _=>rfl)) (qv 2)))))))))),?_⟩
 walk_at "RD"
 refine ⟨_,p,rfl,hp,?_⟩
 simp_arith [jam,ea,eb,hd,at0,at1,b1,decide_eq_true b2,b3,b4]
 exact h
end
end My
namespace My
open PySem L2
section
variable {P:Program} {w:World} {K:PySem.W.Frag} {mg:Str→Option Value} {base:Heap} {c1 c2 c3 c4:Tok}
def PlOk:Int→Int→List (Int × Int)→Prop
 | _,_,[]=>True
 | l,s,p :: r=>(l < p.1∧p.1 ≤ 999∧1 ≤ p.2∧p.2 ≤ 1000000000000 - s)∧PlOk p.1 (s + p.2) r
def jb0 (ps:List (Int × Int)):List (Key × V):=ps.map fun p=>(Sum.inl p.1,V.int p.2)
def TiOk (kvs:List (Key × V)):Int × Int→List (Int × Int)→Prop
 | _,[]=>True
 | q,p :: r=>(HT.lexLt [q.1,q.2] [p.1,p.2] = true∧p.1 < p.2∧hasK kvs p.1 = true∧hasK kvs p.2 = true)∧TiOk kvs p r
structure WebOk (ps ts:List (Int × Int)):Prop where
 pl:ps.length ≤ 40
 p:PlOk (-1) 0 ps
 tl:ts.length ≤ 120
 t:TiOk (jb0 ps) (-1,-1) ts
def jb9 (H:Hp) (v:V) (ps ts:List (Int × Int)):Prop :=
 ∃ u pa ta xs ys,v = .ref u∧H u = some (.tup [.ref pa,.ref ta])∧H pa = some (.lst xs)∧H ta = some (.lst ys)∧Prs H xs ps∧Prs H ys ts
theorem jb9.same {H H':Hp} {v:V} {ps ts:List (Int × Int)} (h:jb9 H v ps ts) (s:Same H H'):jb9 H' v ps ts:=by
 obtain ⟨u,pa,ta,xs,ys,e,h1,h2,h3,h4,h5⟩:=h
 exact ⟨u,pa,ta,xs,ys,e,s _ _ h1,s _ _ h2,s _ _ h3,Prs.same s h4,Prs.same s h5⟩
theorem PlOk.gt:∀ {ps:List (Int × Int)} {l s:Int},PlOk l s ps→∀ p ∈ ps,l < p.1
 | [],_,_,_,_,h=>by cases h
 | q :: r,l,s,h,p,hp=>by
  rcases List.mem_cons.mp hp with e | hp
  ·rw [e]; exact h.1.1
  ·have:=PlOk.gt h.2 p hp
   have:=h.1.1
   omega
theorem PlOk.nodup:∀ {ps:List (Int × Int)} {l s:Int},PlOk l s ps→(ps.map (·.1)).Nodup
 | [],_,_,_=>List.nodup_nil
 | q :: r,l,s,h=>by
  rw [List.map_cons]
  refine List.nodup_cons.mpr ⟨fun hm=>?_,PlOk.nodup h.2⟩
  obtain ⟨p,hp,e⟩:=List.mem_map.mp hm
  have:=PlOk.gt h.2 p hp
  omega
theorem jff {ps:List (Int × Int)} (h:(ps.map (·.1)).Nodup):((jb0 ps).map (·.1)).Nodup:=by
 unfold jb0
 rw [List.map_map]
 have e:((fun (x:Key × V)=>x.1) ∘ fun (p:Int × Int)=>((Sum.inl p.1:Key),V.int p.2)) = (fun (n:Int)=>(Sum.inl n:Key)) ∘ fun (p:Int × Int)=>p.1:=rfl
 rw [e,← List.map_map]
 unfold List.Nodup at h ⊢
 rw [List.pairwise_map]
 exact h.imp fun q z=>q (Sum.inl.inj z)
theorem jfu {H:Hp}:∀ {xs:List V} {ps:List (Int × Int)},Prs H xs ps→Paired (PairAt H) xs (jb0 ps)
 | _,_,.nil=>.nil
 | _,_,.cons r t=>by
  obtain ⟨a,e,q⟩:=r
  exact .cons ⟨a,e,q⟩ (jfu t)
theorem ji1:∀ {ps:List (Int × Int)} {p:Int × Int},(ps.map (·.1)).Nodup→p ∈ ps→valV (jb0 ps) (Sum.inl p.1:Key) = some (.int p.2)
 | [],_,_,h=>by cases h
 | q :: r,p,hn,h=>by
  rw [List.map_cons] at hn
  unfold jb0 valV
  rw [List.map_cons,List.find?_cons]
  rcases List.mem_cons.mp h with e | h
  ·rw [e]
   simp
  ·have hne:q.1 ≠ p.1:=fun z=>(List.nodup_cons.mp hn).1 (by rw [z]; exact List.mem_map_of_mem h)
   have hd:decide ((Sum.inl q.1:Key) = Sum.inl p.1) = false:=decide_eq_false fun z=>hne (Sum.inl.inj z)
   dsimp only
   rw [hd]
   exact ji1 (List.nodup_cons.mp hn).2 h
theorem jin {ps:List (Int × Int)} {p:Int × Int} (hn:(ps.map (·.1)).Nodup) (h:p ∈ ps):hasK (jb0 ps) p.1 = true:=by
 unfold hasK
 rw [ji1 hn h]
 rfl
def jdp:Sp:=fun vs H Q _=>∃ a xs ps,vs = [.ref a]∧H a = some (.lst xs)∧Prs H xs ps∧ps.length ≤ 40∧PlOk (-1) 0 ps∧∀ H',Same H H'→Q .non H'
def jf6:Sp:=fun vs H Q _=>∃ a d xs ts kvs,vs = [.ref a,.ref d]∧H a = some (.lst xs)∧H d = some (.dK kvs)∧Prs H xs ts∧ts.length ≤ 120∧TiOk kvs (-1,-1) ts∧∀ H',Same H H'→Q .non H'
def jgv:Sp:=fun vs H Q _=>∃ v ps ts,vs = [v]∧jb9 H v ps ts∧WebOk ps ts∧∀ H',Same H H'→Q .non H'
theorem jdl {f:Addr} {fd:FuncData} {f_is_list_up_to:Addr} {d_is_list_up_to:FuncData} {f_place_stands:Addr} {d_place_stands:FuncData} (B:Blt mg) (C:Cst mg c1 c2 c3 c4) (D:DefAt K mg "look_at_places" (top 16) ["places"] f fd) (D_is_list_up_to:DefAt K mg "is_list_up_to" (top 8) ["thing","most"] f_is_list_up_to d_is_list_up_to) (G_is_list_up_to:FnOk P w K mg base CX0 1 f_is_list_up_to d_is_list_up_to ["thing","most"] jdi) (D_place_stands:DefAt K mg "place_stands" (top 14) ["thing","last","spent"] f_place_stands d_place_stands) (G_place_stands:FnOk P w K mg base CX0 3 f_place_stands d_place_stands ["thing","last","spent"] jd6):FnOk P w K mg base CX0 4 f fd ["places"] jdp:=by
 have sc:FnScope ["places","last","spent","number","thing"] ["places"] (jac (top 16)):=⟨rfl,rfl,rfl,by decide +kernel,rfl,by decide +kernel,by decide +kernel⟩
 refine D.F.ok sc (fun vs H Q E h=>?_) (fun cdv A outer s H vs Q E hr h=>?_)
 ·obtain ⟨a,xs,ps,rfl,_⟩:=h
  rfl
 obtain ⟨a,xs,ps,rfl,ea,hp,hl,ok,h⟩:=h
 have hlx:xs.length = ps.length:=Paired.length hp
 have hu:=jba hr
 have hu0:_ < PySem.cLine:=Nat.lt_of_succ_lt hu
 refine ⟨_,(ja5 (jbf (jbj (jbh (ja9 G_is_list_up_to (hr.mono (by decide)) rfl D_is_list_up_to.m D_is_list_up_to.F.kp D_is_list_up_to.b .nil jai (ja0 (qv 0) (ja0 (jea (v:=.int 40) rfl C.MOST_PLACES ⟨_,rfl⟩) ja2))))) (ja7 jd8) jao) (ja5 (jaj (i:=1) sc.nd rfl (Or.inl rfl) (jky jks ja4)) (ja5 (jaj (i:=2) sc.nd rfl (Or.inl rfl) ja4) (ja7 (jca PassesOwn.never rfl (jkx rfl B.enumerate (ja0 (qv 0) ja2)) (jbi (n:=2) rfl (jaf (jae (i:=3) sc.nd rfl (Or.inl rfl)) (jaf (jae (i:=4) sc.nd rfl (Or.inl rfl)) jb4))) (ja5 (jbf (jbj (jbh (ja9 G_place_stands (hr.mono (by decide)) rfl D_place_stands.m D_place_stands.F.kp D_place_stands.b .nil jai (ja0 (qv 4) (ja0 (qv 1) (ja0 (qv 2) ja2)))))) (ja7 jd8) jao) (ja5 (jaj (i:=1) sc.nd rfl (Or.inl rfl) (jah q_ix (qv 4) ja4 (fun _ _=>rfl))) (ja7 (qs_aug (i:=2) sc.nd rfl (Or.inl rfl) (jah q_ix (qv 4) ja4 (fun _ _=>rfl)) q_iadd))))))))),?_⟩
 walk_at "RD"
 refine ⟨a,xs,40,rfl,ea,?_⟩
 rw [decide_eq_true (show (xs.length:Int) ≤ 40 by omega)]
 walk_at "RD"
 refine ⟨a,rfl,⟨xs,SqL.of ea⟩,jje (K:=K) (a:=a) (xs:=xs) (fun i σ H1=>∃ l sp nb th,σ = [some (.ref a),some (.int l),some (.int sp),nb,th]∧Same H H1∧PlOk l sp (ps.drop i)) ⟨-1,0,none,none,rfl,Same.refl _,ok⟩ (fun i σ H1 _ ⟨_,_,_,_,_,s1,_⟩=>SqL.of (s1 _ _ ea)) ?_ ?_⟩
 ·rintro i x σ H1 t hi ⟨l,sp,nb,th,rfl,s1,ok1⟩ ht
  obtain ⟨p,hpi,px⟩:=jag hp hi
  rw [jji hpi] at ok1
  have s2:Same H (upd H1 t (.tup [.int i,x])):=s1.trans (ja3 ht _)
  have px2:=px.same s2
  obtain ⟨u,rfl,eu⟩:=id px2
  simp_arith [ja1]
  refine ⟨_,p,l,sp,rfl,px2,ok1.1,?_⟩
  simp_arith [jam,eu,at0,at1]
  exact ⟨_,_,_,_,rfl,s2,ok1.2⟩
 ·rintro σ H1 ⟨l,sp,nb,th,rfl,s1,_⟩
  exact h H1 s1
theorem jed {f:Addr} {fd:FuncData} {f_is_list_up_to:Addr} {d_is_list_up_to:FuncData} {f_tie_stands:Addr} {d_tie_stands:FuncData} (B:Blt mg) (C:Cst mg c1 c2 c3 c4) (D:DefAt K mg "look_at_ties" (top 17) ["ties","prices"] f fd) (D_is_list_up_to:DefAt K mg "is_list_up_to" (top 8) ["thing","most"] f_is_list_up_to d_is_list_up_to) (G_is_list_up_to:FnOk P w K mg base CX0 1 f_is_list_up_to d_is_list_up_to ["thing","most"] jdi) (D_tie_stands:DefAt K mg "tie_stands" (top 15) ["thing","last","prices"] f_tie_stands d_tie_stands) (G_tie_stands:FnOk P w K mg base CX0 3 f_tie_stands d_tie_stands ["thing","last","prices"] je5):FnOk P w K mg base CX0 4 f fd ["ties","prices"] jf6:=by
 have sc:FnScope ["ties","prices","last","number","thing"] ["ties","prices"] (jac (top 17)):=⟨rfl,rfl,rfl,by decide +kernel,rfl,by decide +kernel,by decide +kernel⟩
 refine D.F.ok sc (fun vs H Q E h=>?_) (fun cdv A outer s H vs Q E hr h=>?_)
 ·obtain ⟨a,d,xs,ts,kvs,rfl,_⟩:=h
  rfl
 obtain ⟨a,d,xs,ts,kvs,rfl,ea,ed,hp,hl,ok,h⟩:=h
 have hlx:xs.length = ts.length:=Paired.length hp
 have hu:=jba hr
 have hu0:_ < PySem.cLine:=Nat.lt_of_succ_lt hu
 refine ⟨_,(ja5 (jbf (jbj (jbh (ja9 G_is_list_up_to (hr.mono (by decide)) rfl D_is_list_up_to.m D_is_list_up_to.F.kp D_is_list_up_to.b .nil jai (ja0 (qv 0) (ja0 (jea (v:=.int 120) rfl C.MOST_TIES ⟨_,rfl⟩) ja2))))) (ja7 jd8) jao) (ja5 (jaj (i:=2) sc.nd rfl (Or.inl rfl) (jay (ja0 (jky jks ja4) (ja0 (jky jks ja4) ja2)))) (ja7 (jca PassesOwn.never rfl (jkx rfl B.enumerate (ja0 (qv 0) ja2)) (jbi (n:=2) rfl (jaf (jae (i:=3) sc.nd rfl (Or.inl rfl)) (jaf (jae (i:=4) sc.nd rfl (Or.inl rfl)) jb4))) (ja5 (jbf (jbj (jbh (ja9 G_tie_stands (hr.mono (by decide)) rfl D_tie_stands.m D_tie_stands.F.kp D_tie_stands.b .nil jai (ja0 (qv 4) (ja0 (qv 2) (ja0 (qv 1) ja2)))))) (ja7 jd8) jao) (ja7 (jaj (i:=2) sc.nd rfl (Or.inl rfl) (qv 4)))))))),?_⟩
 walk_at "RD"
 refine ⟨a,xs,120,rfl,ea,?_⟩
 rw [decide_eq_true (show (xs.length:Int) ≤ 120 by omega)]
 walk_at "RD"
 intro t0 ht0
 refine ⟨a,rfl,⟨xs,SqL.of (ja3 ht0 _ _ _ ea)⟩,jje (K:=K) (a:=a) (xs:=xs) (fun i σ H1=>∃ lv q nb th,σ = [some (.ref a),some (.ref d),some lv,nb,th]∧Same H H1∧Pr H1 lv q∧TiOk kvs q (ts.drop i)) ⟨_,(-1,-1),none,none,rfl,ja3 ht0 _,⟨t0,rfl,ja1⟩,ok⟩ (fun i σ H1 _ ⟨_,_,_,_,_,s1,_⟩=>SqL.of (s1 _ _ ea)) ?_ ?_⟩
 ·rintro i x σ H1 t hi ⟨lv,q,nb,th,rfl,s1,pq,ok1⟩ ht
  obtain ⟨p,hpi,px⟩:=jag hp hi
  rw [jji hpi] at ok1
  have s2:Same H (upd H1 t (.tup [.int i,x])):=s1.trans (ja3 ht _)
  have px2:=px.same s2
  simp_arith [ja1]
  refine ⟨_,p,_,q,d,kvs,rfl,px2,pq.same (ja3 ht _),s2 _ _ ed,ok1.1,?_⟩
  walk_at "RD"
  exact ⟨_,_,_,_,rfl,s2,px2,ok1.2⟩
 ·rintro σ H1 ⟨lv,q,nb,th,rfl,s1,_⟩
  exact h H1 s1
theorem jet {f:Addr} {fd:FuncData} {f_is_tuple_of:Addr} {d_is_tuple_of:FuncData} {f_look_at_places:Addr} {d_look_at_places:FuncData} {f_look_at_ties:Addr} {d_look_at_ties:FuncData} (B:Blt mg) (D:DefAt K mg "look_at_web" (top 18) ["thing"] f fd) (D_is_tuple_of:DefAt K mg "is_tuple_of" (top 6) ["thing","many"] f_is_tuple_of d_is_tuple_of) (G_is_tuple_of:FnOk P w K mg base CX0 1 f_is_tuple_of d_is_tuple_of ["thing","many"] je4) (D_look_at_places:DefAt K mg "look_at_places" (top 16) ["places"] f_look_at_places d_look_at_places) (G_look_at_places:FnOk P w K mg base CX0 4 f_look_at_places d_look_at_places ["places"] jdp) (D_look_at_ties:DefAt K mg "look_at_ties" (top 17) ["ties","prices"] f_look_at_ties d_look_at_ties) (G_look_at_ties:FnOk P w K mg base CX0 4 f_look_at_ties d_look_at_ties ["ties","prices"] jf6):FnOk P w K mg base CX0 5 f fd ["thing"] jgv:=by
 have sc:FnScope ["thing"] ["thing"] (jac (top 18)):=⟨rfl,rfl,rfl,by decide +kernel,rfl,by decide +kernel,by decide +kernel⟩
 refine D.F.ok sc (fun vs H Q E h=>?_) (fun cdv A outer s H vs Q E hr h=>?_)
 ·obtain ⟨v,ps,ts,rfl,_⟩:=h
  rfl
 obtain ⟨v,ps,ts,rfl,hw,ok,h⟩:=h
 obtain ⟨u,pa,ta,xs,ys,rfl,eu,ep,et,pp,pt⟩:=hw
 have hlx:xs.length = ps.length:=Paired.length pp
 have okl:=ok.pl
 have hu:=jba hr
 have hu0:_ < PySem.cLine:=Nat.lt_of_succ_lt hu
 refine ⟨_,(ja5 (jbf (jbj (jbh (ja9 G_is_tuple_of (hr.mono (by decide)) rfl D_is_tuple_of.m D_is_tuple_of.F.kp D_is_tuple_of.b .nil jai (ja0 (qv 0) (ja0 ja4 ja2))))) (ja7 jd8) jao) (ja5 (jbm (ja9 G_look_at_places (hr.mono (by decide)) rfl D_look_at_places.m D_look_at_places.F.kp D_look_at_places.b .nil jai (ja0 (jah q_ix (qv 0) ja4 (fun _ _=>rfl)) ja2))) (ja7 (jbm (ja9 G_look_at_ties (hr.mono (by decide)) rfl D_look_at_ties.m D_look_at_ties.F.kp D_look_at_ties.b .nil jai (ja0 (jah q_ix (qv 0) ja4 (fun _ _=>rfl)) (ja0 (jbt (jkt rfl) rfl B.dict PyProof.Rows.boot_dict (ja0 (jah q_ix (qv 0) ja4 (fun _ _=>rfl)) ja2)) ja2))))))),?_⟩
 walk_at "RD"
 refine ⟨u,_,2,rfl,eu,?_⟩
 simp_arith [jam,eu,at0,at1,Int.cast_ofNat_Int,decide_true]
 refine ⟨pa,xs,ps,rfl,ep,pp,ok.pl,ok.p,fun H1 s1=>?_⟩
 simp_arith [jam,s1 _ _ eu,s1 _ _ ep,at0,at1]
 refine ⟨jb0 ps,jfu (Prs.same s1 pp),by omega,jff ok.p.nodup,fun d hd=>?_⟩
 have s2:Same H (upd H1 d (.dK (jb0 ps))):=s1.trans (ja3 hd _)
 exact ⟨ta,d,ys,ts,_,rfl,s2 _ _ et,ja1,Prs.same s2 pt,ok.tl,ok.t,fun H3 s3=>h H3 (s2.trans s3)⟩
end
end My
namespace My
open PySem L2
section
variable {P:Program} {w:World} {K:PySem.W.Frag} {mg:Str→Option Value} {base:Heap} {c1 c2 c3 c4:Tok}
theorem ix30:ixN 3 0 = some 0:=rfl
theorem ix31:ixN 3 1 = some 1:=rfl
theorem ix32:ixN 3 2 = some 2:=rfl
def StO (o:HO):Prop:=∃ c st fl,o = .lst [.int c,.int st,.bl fl]∧0 ≤ st∧st < 4294967296
theorem StO.imm {o:HO} (h:StO o):jou o = false:=by obtain ⟨_,_,_,rfl,_⟩:=h; rfl
def jkl (K:PySem.W.Frag):Sp:=fun vs H Q _=>∃ a k ns,vs = [.ref a,.int k]∧Scr K H a ns∧0 ≤ k∧k ≤ 1000∧∀ s o,H s = none→StO o→Q (.ref s) (upd H s o)
def jd5:Sp:=fun vs H Q _=>∃ s o m,vs = [.ref s,.int m]∧H s = some o∧StO o∧1 ≤ m∧m < 1000000000000000000∧∀ d o,0 ≤ d→d < m→StO o→Q (.int d) (upd H s o)
theorem cmR {i j:Int} (h1:-(2 ^ 64) < j) (h2:j < 2 ^ 64):CMul i j:=.inr ⟨h1,h2⟩
theorem cmL {i j:Int} (h1:-(2 ^ 64) < i) (h2:i < 2 ^ 64):CMul i j:=.inl ⟨h1,h2⟩
def Dr:Int→List (Int × Int)→Prop
 | _,[]=>True
 | l,p :: r=>(l < p.1∧p.1 ≤ l + 23∧1 ≤ p.2∧p.2 ≤ 1000000000)∧Dr p.1 r
def jl7 (l:Int):List (Int × Int)→Int
 | []=>l
 | p :: r=>jl7 p.1 r
theorem Dr.snoc:∀ {ps:List (Int × Int)} {l:Int} {p:Int × Int},Dr l ps→(jl7 l ps < p.1∧p.1 ≤ jl7 l ps + 23∧1 ≤ p.2∧p.2 ≤ 1000000000)→Dr l (ps ++ [p])
 | [],_,_,_,h=>⟨h,trivial⟩
 | q :: r,_,_,h,h2=>⟨h.1,Dr.snoc h.2 h2⟩
theorem jfe:∀ {ps:List (Int × Int)} {l:Int} {p:Int × Int},jl7 l (ps ++ [p]) = p.1
 | [],_,_=>rfl
 | q :: r,_,_=>jfe (ps:=r)
def But (s:Addr) (H H':Hp):Prop:=∀ b o,b ≠ s→H b = some o→H' b = some o
theorem But.refl (s:Addr) (H:Hp):But s H H:=fun _ _ _ q=>q
theorem But.trans {s:Addr} {H H1 H2:Hp} (a:But s H H1) (b:But s H1 H2):But s H H2:=fun c o n q=>b c o n (a c o n q)
theorem But.at (s:Addr) (H:Hp) (o:HO):But s H (upd H s o):=fun b u n q=>by rw [jaa n]; exact q
theorem But.new {s t:Addr} {H:Hp} {o:HO} (h:H t = none):But s H (upd H t o):=fun b u n q=>by rw [jaa (ja6 q h)]; exact q
theorem But.tups {s:Addr} {H H':Hp} (h:But s H H') {o:HO} (e:H s = some o) (i:jou o = false):TupS H H':=fun b u z q=>h b u (fun x=>by rw [x,e] at q; cases q; rw [i] at z; cases z) q
theorem at3 {α:Type} {x y z u:α} {r:List α}:atI (x :: y :: z :: u :: r) 3 = some u:=by
 have e:atI (x :: y :: z :: u :: r) ((3:Nat):Int) = some u:=jc3 rfl
 exact e
theorem jor {a b c e d:Int} (h0:0 ≤ d) (h1:d < 4):∃ v,atI [V.int a,.int b,.int c,.int e] d = some (.int v)∧(v = a ∨ v = b ∨ v = c ∨ v = e):=by
 have hd:d = 0 ∨ d = 1 ∨ d = 2 ∨ d = 3:=by omega
 rcases hd with rfl | rfl | rfl | rfl
 ·exact ⟨a,at0,.inl rfl⟩
 ·exact ⟨b,at1,.inr (.inl rfl)⟩
 ·exact ⟨c,at2,.inr (.inr (.inl rfl))⟩
 ·exact ⟨e,at3,.inr (.inr (.inr rfl))⟩
theorem p9:(10:Int) ^ Int.toNat 9 = 1000000000:=by decide
def jfr:Sp:=fun vs H Q _=>∃ s o n,vs = [.ref s,.int n]∧H s = some o∧StO o∧0 ≤ n∧n ≤ 100 ∧
 ∀ r H' o' xs ps,H r = none→But s H H'→H' s = some o'→StO o'→H' r = some (.lst xs)→Prs H' xs ps→(ps.length:Int) = n→Dr (-1) ps→Q (.ref r) H'
theorem jic {f:Addr} {fd:FuncData}  (B:Blt mg) (D:DefAt K mg "_law_take" (top 34) ["_law_state","_law_many"] f fd):FnOk P w K mg base CX0 1 f fd ["_law_state","_law_many"] jd5:=by
 have sc:FnScope ["_law_state","_law_many","_law_digit","_law_number"] ["_law_state","_law_many"] (jac (top 34)):=⟨rfl,rfl,rfl,by decide +kernel,rfl,by decide +kernel,by decide +kernel⟩
 refine D.F.ok sc (fun vs H Q E h=>?_) (fun cdv A outer s H vs Q E hr h=>?_)
 ·obtain ⟨s,o,m,rfl,_⟩:=h
  rfl
 obtain ⟨st,o,m,rfl,es,⟨c,x,fl,rfl,x0,x1⟩,m0,m1,h⟩:=h
 have hu:=jba hr
 have hu0:_ < PySem.cLine:=Nat.lt_of_succ_lt hu
 refine ⟨_,(ja5 (jbf (jbh (jah q_ix (qv 0) ja4 (fun _ _=>rfl))) (ja5 (jaj (i:=2) sc.nd rfl (Or.inl rfl) (jau jgz (jah q_ix (qv 0) ja4 (fun _ _=>rfl)) (qv 1))) (ja5 (jf8 (jau joi (jah q_ix (qv 0) ja4 (fun _ _=>rfl)) (qv 1)) (jh3 (qv 0) ja4 jgy)) (ja5 (jf8 (jcg q_gt (jah q_ix (qv 0) ja4 (fun _ _=>rfl)) ja4 (jap _)) (jh3 (qv 0) ja4 jgy)) (ja7 (jak (qv 2)))))) jao) (ja5 (jf8 (jau jgz (jau jcf (jau ji9 (jah q_ix (qv 0) ja4 (fun _ _=>rfl)) ja4) ja4) ja4) (jh3 (qv 0) ja4 jgy)) (ja5 (jaj (i:=3) sc.nd rfl (Or.inl rfl) (jau jnl (jau jgz (jau ji9 (jah q_ix (qv 0) ja4 (fun _ _=>rfl)) (jah q_ix (qv 0) ja4 (fun _ _=>rfl))) ja4) ja4)) (ja5 (jbf (jat q_gt (qv 1) (jau jmh ja4 ja4) (jap _)) (ja5 (jf8 (jau jgz (jau jcf (jau ji9 (jah q_ix (qv 0) ja4 (fun _ _=>rfl)) ja4) ja4) ja4) (jh3 (qv 0) ja4 jgy)) (ja7 (jaj (i:=3) sc.nd rfl (Or.inl rfl) (jau jcf (jau ji9 (qv 3) ja4) (jah q_ix (qv 0) ja4 (fun _ _=>rfl)))))) jao) (ja7 (jak (jau jgz (qv 3) (qv 1)))))))),?_⟩
 simp_arith [jam,es,at0,at1,at2,ix30,ix31,ix32,ja1,jk5]
 have lo:∀ n:Int,0 ≤ n % m:=fun n=>Int.emod_nonneg _ (by omega)
 have hi:∀ n:Int,n % m < m:=fun n=>Int.emod_lt_of_pos _ (by omega)
 have y0:0 ≤ (x * 48271 + 39373) % 2147483647:=Int.emod_nonneg _ (by decide)
 have y1:(x * 48271 + 39373) % 2147483647 < 2147483647:=Int.emod_lt_of_pos _ (by decide)
 generalize (x * 48271 + 39373) % 2147483647 = y at y0 y1
 have z0:0 ≤ (y * 48271 + 39373) % 2147483647:=Int.emod_nonneg _ (by decide)
 have z1:(y * 48271 + 39373) % 2147483647 < 2147483647:=Int.emod_lt_of_pos _ (by decide)
 generalize (y * 48271 + 39373) % 2147483647 = z at z0 z1
 have cd:CDivB c m:=⟨by omega,by omega⟩
 have cd2:∀ n:Int,CDiv n 16:=fun n=>⟨by decide,by decide⟩
 have cp:CPow 10 6:=⟨by decide,by decide,by decide⟩
 refine ite2 (fun _=>⟨by omega,cd,h _ _ (lo _) (hi _) ⟨_,_,_,rfl,x0,x1⟩⟩) (fun _=>⟨cmR (by decide) (by decide),by decide,cmL (by omega) (by omega),by decide,cd2 _,cp,?_⟩)
 refine ite2 (fun _=>⟨cmR (by decide) (by decide),by decide,cmR (by decide) (by decide),by omega,h _ _ (lo _) (hi _) ⟨_,_,_,rfl,z0,by omega⟩⟩) (fun _=>⟨by omega,h _ _ (lo _) (hi _) ⟨_,_,_,rfl,y0,by omega⟩⟩)
theorem jh9 {f:Addr} {fd:FuncData}  (B:Blt mg) (D:DefAt K mg "_law_begun" (top 33) ["_law_script","_law_k"] f fd):FnOk P w K mg base CX0 1 f fd ["_law_script","_law_k"] (jkl K):=by
 have sc:FnScope ["_law_script","_law_k","_law_cell"] ["_law_script","_law_k"] (jac (top 33)):=⟨rfl,rfl,rfl,by decide +kernel,rfl,by decide +kernel,by decide +kernel⟩
 refine D.F.ok sc (fun vs H Q E h=>?_) (fun cdv A outer s H vs Q E hr h=>?_)
 ·obtain ⟨a,k,ns,rfl,_⟩:=h
  rfl
 obtain ⟨a,k,ns,rfl,hs,k0,k1,h⟩:=h
 have hu:=jba hr
 have hu0:_ < PySem.cLine:=Nat.lt_of_succ_lt hu
 refine ⟨_,(ja5 (jaj (i:=2) sc.nd rfl (Or.inl rfl) ja4) (ja5 (jbf (jat q_lt (qv 1) (jab jcr rfl B.len PySem.boot_len (ja0 (qv 0) ja2)) (jap _)) (ja7 (jaj (i:=2) sc.nd rfl (Or.inl rfl) (jah jld (qv 0) (qv 1) (fun _ _=>rfl)))) jao) (ja7 (jak (jb8 (ja0 (qv 2) (ja0 (jau jgz (jau jcf (jau jcf (jau jgz (qv 2) ja4) (jau ji9 ja4 (qv 1))) (jau ji9 ja4 (jau jnl (qv 1) ja4))) ja4) (ja0 (jcg q_ge (qv 2) (jau jmh ja4 ja4) (jap _)) ja2)))))))),?_⟩
 walk_at "RD"
 refine ⟨a,_,rfl,.inl hs.sq,?_⟩
 simp_arith [List.length_map,rIxL]
 have q0:∀ n:Int,0 ≤ n % 2147483629:=fun n=>Int.emod_nonneg _ (by decide)
 have q1:∀ n:Int,n % 2147483629 < 2147483629:=fun n=>Int.emod_lt_of_pos _ (by decide)
 have cp:CPow 10 18:=⟨by decide,by decide,by decide⟩
 have cd:CDiv k 7:=⟨by decide,by decide⟩
 refine ite2 (fun c=>?_) (fun c=>?_)
 ·have c':k < (ns.length:Int):=of_decide_eq_true c
  have hk:k.toNat < ns.length:=by omega
  have e1:atI (ns.map V.int) ((k.toNat:Nat):Int) = some (.int ns[k.toNat]):=jc3 (by rw [List.getElem?_map,List.getElem?_eq_getElem hk]; rfl)
  rw [show ((k.toNat:Nat):Int) = k by omega] at e1
  refine ⟨a,_,k,_,rfl,rfl,hs.sq,e1,?_⟩
  walk_at "RD"
  exact ⟨by decide,cmL (by decide) (by decide),cd,cmL (by decide) (by decide),by decide,cp,fun p hp=>h p _ hp ⟨_,_,_,rfl,q0 _,by have:=q1 (ns[k.toNat] % 2147483629 + 104729 * k + 7919 * (k / 7)); omega⟩⟩
 ·exact ⟨by decide,cmL (by decide) (by decide),cd,cmL (by decide) (by decide),by decide,cp,fun p hp=>h p _ hp ⟨_,_,_,rfl,q0 _,by have:=q1 (0 % 2147483629 + 104729 * k + 7919 * (k / 7)); omega⟩⟩
theorem jfx {f:Addr} {fd:FuncData} {f_law_take:Addr} {d_law_take:FuncData} (B:Blt mg) (D:DefAt K mg "_law_places" (top 35) ["_law_state","_law_count"] f fd) (D_law_take:DefAt K mg "_law_take" (top 34) ["_law_state","_law_many"] f_law_take d_law_take) (G_law_take:FnOk P w K mg base CX0 1 f_law_take d_law_take ["_law_state","_law_many"] jd5):FnOk P w K mg base CX0 2 f fd ["_law_state","_law_count"] jfr:=by
 have sc:FnScope ["_law_state","_law_count","_law_kind","_law_places_here","_law_number","_law_k"] ["_law_state","_law_count"] (jac (top 35)):=⟨rfl,rfl,rfl,by decide +kernel,rfl,by decide +kernel,by decide +kernel⟩
 refine D.F.ok sc (fun vs H Q E h=>?_) (fun cdv A outer s H vs Q E hr h=>?_)
 ·obtain ⟨s,o,n,rfl,_⟩:=h
  rfl
 obtain ⟨st,o,n,rfl,es,so,n0,n1,h⟩:=h
 have hu:=jba hr
 have hu0:_ < PySem.cLine:=Nat.lt_of_succ_lt hu
 refine ⟨_,(ja5 (jaj (i:=2) sc.nd rfl (Or.inl rfl) (ja9 G_law_take (hr.mono (by decide)) rfl D_law_take.m D_law_take.F.kp D_law_take.b .nil jai (ja0 (qv 0) (ja0 ja4 ja2)))) (ja5 (jaj (i:=3) sc.nd rfl (Or.inl rfl) (jb8 ja2)) (ja5 (jaj (i:=4) sc.nd rfl (Or.inl rfl) (jky jks ja4)) (ja5 (jca PassesOwn.never rfl (jd9 rfl B.range (ja0 (qv 1) ja2)) (jae (i:=5) sc.nd rfl (Or.inl rfl)) (ja5 (jaj (i:=4) sc.nd rfl (Or.inl rfl) (jau jcf (jau jcf (qv 4) ja4) (ja9 G_law_take (hr.mono (by decide)) rfl D_law_take.m D_law_take.F.kp D_law_take.b .nil jai (ja0 (qv 0) (ja0 (jah q_ix (jb8 (ja0 ja4 (ja0 ja4 (ja0 ja4 (ja0 ja4 ja2))))) (ja9 G_law_take (hr.mono (by decide)) rfl D_law_take.m D_law_take.F.kp D_law_take.b .nil jai (ja0 (qv 0) (ja0 ja4 ja2))) (fun _ _=>rfl)) ja2))))) (ja7 (jbm (q_bm PySem.F.plainAttrs_list PySem.F.slot_list_append PySem.F.type_list_append jbz (qv 3) (ja0 (jay (ja0 (qv 4) (ja0 (jau jcf ja4 (ja9 G_law_take (hr.mono (by decide)) rfl D_law_take.m D_law_take.F.kp D_law_take.b .nil jai (ja0 (qv 0) (ja0 (jah q_ix (jb8 (ja0 ja4 (ja0 ja4 (ja0 ja4 (ja0 (jau jmh ja4 ja4) ja2))))) (qv 2) (fun _ _=>rfl)) ja2)))) ja2))) ja2)))))) (ja7 (jak (qv 3))))))),?_⟩
 walk_at "RD"
 refine ⟨st,o,4,rfl,es,so,by decide,by decide,fun kind o1 k0 k1 so1=>?_⟩
 walk_at "RD"
 intro r hr1
 have nr:r ≠ st:=fun z=>by rw [z,ja1] at hr1; cases hr1
 have hr0:H r = none:=by rw [← hr1,jaa nr]
 refine ⟨n,rfl,by omega,by omega,jci (n:=n.toNat) (fun i σ H1=>∃ l kk ps xs o',σ = [some (.ref st),some (.int n),some (.int kind),some (.ref r),some (.int l),kk]∧But st H H1∧H1 st = some o'∧StO o'∧H1 r = some (.lst xs)∧Prs H1 xs ps∧ps.length = i∧Dr (-1) ps∧l = jl7 (-1) ps) ?_ ?_ ?_⟩
 ·refine ⟨-1,none,[],[],o1,rfl,fun b u nb q=>?_,by rw [jaa nr.symm,ja1],so1,ja1,.nil,rfl,trivial,rfl⟩
  rw [jaa (ja6 q hr0),jaa nb]
  exact q
 ·rintro i σ H1 hi ⟨l,kk,ps,xs,o',rfl,b1,e1,so',er,pp,hlen,dr,el⟩
  have hlx:xs.length = ps.length:=Paired.length pp
  walk_at "RD"
  intro p1 hp1
  have np:p1 ≠ st:=(ja6 e1 hp1).symm
  have nr1:r ≠ p1:=ja6 er hp1
  refine ⟨st,o',4,rfl,(by rw [jaa np.symm]; exact e1),so',by decide,by decide,fun d1 o2 d10 d11 so2=>?_⟩
  obtain ⟨v,ev,v0,v1⟩:∃ v,atI [V.int 1,.int 2,.int 6,.int 23] d1 = some (.int v)∧1 ≤ v∧v ≤ 23:=by
   obtain ⟨v,ev,hv⟩:=jor (a:=1) (b:=2) (c:=6) (e:=23) d10 d11
   exact ⟨v,ev,by omega,by omega⟩
  simp_arith [jam,jaa np,ja1,ev]
  refine ⟨st,o2,v,rfl,ja1,so2,by omega,by omega,fun d2 o3 d20 d21 so3=>?_⟩
  simp_arith [jk5]
  have b3:But st H1 (upd (upd H1 p1 (.lst [.int 1,.int 2,.int 6,.int 23])) st o3):=(But.new hp1).trans (But.at _ _ _)
  have e3:(upd (upd H1 p1 (.lst [.int 1,.int 2,.int 6,.int 23])) st o3) st = some o3:=ja1
  generalize upd (upd H1 p1 (.lst [.int 1,.int 2,.int 6,.int 23])) st o3 = H3 at b3 e3
  have t3:TupS H1 H3:=b3.tups e1 so'.imm
  have er3:=b3 _ _ nr er
  refine ⟨⟨r,xs,rfl,er3⟩,⟨by decide,by decide,by decide⟩,?_⟩
  intro p2 hp2
  have np2:p2 ≠ st:=(ja6 e3 hp2).symm
  have nr2:r ≠ p2:=ja6 er3 hp2
  obtain ⟨v2,ev2,v20,v21⟩:∃ v,atI [V.int 1,.int 3,.int 9,.int (10 ^ Int.toNat 9)] kind = some (.int v)∧1 ≤ v∧v ≤ 1000000000:=by
   obtain ⟨v,ev,hv⟩:=jor (a:=1) (b:=3) (c:=9) (e:=10 ^ Int.toNat 9) k0 k1
   rw [p9] at hv
   exact ⟨v,ev,by omega,by omega⟩
  simp_arith [jam,ja1,ev2]
  refine ⟨st,o3,v2,rfl,(by rw [jaa np2.symm]; exact e3),so3,by omega,by omega,fun d3 o4 d30 d31 so4=>?_⟩
  walk_at "RD"
  have b4:But st H3 (upd (upd H3 p2 (.lst [.int 1,.int 3,.int 9,.int (10 ^ Int.toNat 9)])) st o4):=(But.new hp2).trans (But.at _ _ _)
  have e4:(upd (upd H3 p2 (.lst [.int 1,.int 3,.int 9,.int (10 ^ Int.toNat 9)])) st o4) st = some o4:=ja1
  generalize upd (upd H3 p2 (.lst [.int 1,.int 3,.int 9,.int (10 ^ Int.toNat 9)])) st o4 = H4 at b4 e4
  have t4:TupS H3 H4:=b4.tups e3 so3.imm
  have er4:=b4 _ _ nr er3
  intro t ht
  have nt:t ≠ st:=(ja6 e4 ht).symm
  have er5:upd H4 t (.tup [.int (l + 1 + d2),.int (1 + d3)]) r = some (.lst xs):=by rw [jaa (ja6 er4 ht)]; exact er4
  simp_arith [er5]
  have t5:TupS H4 (upd H4 t (.tup [.int (l + 1 + d2),.int (1 + d3)])):=jdv ht
  have t6:=jax (ys:=xs ++ [.ref t]) er5
  refine ⟨szl' (by omega),l + 1 + d2,_,ps ++ [(l + 1 + d2,1 + d3)],_,o4,rfl,fun b u nb q=>?_,?_,so4,(by first | rfl | exact ja1),?_,?_,?_,?_⟩
  ·have q1:=b4 _ _ nb (b3 _ _ nb (b1 _ _ nb q))
   rw [jaa (ja6 q hr0),jaa (ja6 q1 ht)]
   exact q1
  ·rw [jaa nr.symm,jaa nt.symm]
   exact e4
  ·exact jal (Prs.tups (((t3.trans t4).trans t5).trans t6) pp) (Pr.tups ⟨t,rfl,ja1⟩ t6)
  ·rw [List.length_append,hlen]
   rfl
  ·exact dr.snoc ⟨by show _ < l + 1 + d2; omega,by show l + 1 + d2 ≤ _; omega,by show 1 ≤ 1 + d3; omega,by show 1 + d3 ≤ _; omega⟩
  ·rw [jfe]
 ·rintro σ H1 ⟨l,kk,ps,xs,o',rfl,b1,e1,so',er,pp,hlen,dr,el⟩
  walk_at "RD"
  exact h r H1 o' xs ps hr0 b1 e1 so' er pp (by omega) dr
end
end My
namespace My
open PySem L2
section
variable {P:Program} {w:World} {K:PySem.W.Frag} {mg:Str→Option Value} {base:Heap} {c1 c2 c3 c4:Tok}
theorem Dr.pl:∀ {ps:List (Int × Int)} {l s:Int},Dr l ps→l + 23 * ps.length ≤ 999→s + 1000000000 * ps.length ≤ 1000000000000→PlOk l s ps
 | [],_,_,_,_,_=>trivial
 | p :: r,l,s,h,h1,h2=>by
  have e:((p :: r).length:Int) = r.length + 1:=by simp
  rw [e] at h1 h2
  obtain ⟨⟨a1,a2,a3,a4⟩,h3⟩:=h
  exact ⟨⟨a1,by omega,a3,by omega⟩,Dr.pl h3 (by omega) (by omega)⟩
theorem Dr.gt:∀ {ps:List (Int × Int)} {l:Int},Dr l ps→∀ p ∈ ps,l < p.1
 | [],_,_,_,h=>by cases h
 | q :: r,l,h,p,hp=>by
  rcases List.mem_cons.mp hp with e | hp
  ·rw [e]; exact h.1.1
  ·have:=Dr.gt h.2 p hp
   have:=h.1.1
   omega
theorem Dr.rise:∀ {ps:List (Int × Int)} {l:Int},Dr l ps→∀ (i j:Nat) (p q:Int × Int),i < j→ps[i]? = some p→ps[j]? = some q→p.1 < q.1
 | [],_,_,i,j,p,q,_,h,_=>by simp at h
 | r :: rs,l,h,i,j,p,q,hij,hi,hj=>by
  cases j with
  | zero=>omega
  | succ j =>
   have hj':rs[j]? = some q:=by simpa using hj
   cases i with
   | zero =>
    have e:r = p:=by simpa using hi
    subst e
    exact Dr.gt h.2 q (List.mem_of_getElem? hj')
   | succ i=>exact Dr.rise h.2 i j p q (by omega) (by simpa using hi) hj'
theorem jnp {a b c d:Int} (h:a < c):HT.lexLt [a,b] [c,d] = true:=by
 rw [HT.lexLt_cons,if_neg (by omega)]
 exact decide_eq_true h
theorem jnq {a b d:Int} (h:b < d):HT.lexLt [a,b] [a,d] = true:=by
 rw [HT.lexLt_cons,if_pos rfl,HT.lexLt_cons,if_neg (by omega)]
 exact decide_eq_true h
def jhi (q:Int × Int):List (Int × Int)→Int × Int
 | []=>q
 | p :: r=>jhi p r
theorem jfd:∀ {ts:List (Int × Int)} {q p:Int × Int},jhi q (ts ++ [p]) = p
 | [],_,_=>rfl
 | t :: r,_,_=>jfd (ts:=r)
theorem TiOk.snoc {kvs:List (Key × V)}:∀ {ts:List (Int × Int)} {q p:Int × Int},TiOk kvs q ts→(HT.lexLt [(jhi q ts).1,(jhi q ts).2] [p.1,p.2] = true∧p.1 < p.2∧hasK kvs p.1 = true∧hasK kvs p.2 = true)→TiOk kvs q (ts ++ [p])
 | [],_,_,_,h=>⟨h,trivial⟩
 | t :: r,_,_,h,h2=>⟨h.1,TiOk.snoc h.2 h2⟩
theorem PlOk.rise:∀ {ps:List (Int × Int)} {l s:Int},PlOk l s ps→∀ (i j:Nat) (p q:Int × Int),i < j→ps[i]? = some p→ps[j]? = some q→p.1 < q.1
 | [],_,_,_,i,j,p,q,_,h,_=>by simp at h
 | r :: rs,l,s,h,i,j,p,q,hij,hi,hj=>by
  cases j with
  | zero=>omega
  | succ j =>
   have hj':rs[j]? = some q:=by simpa using hj
   cases i with
   | zero =>
    have e:r = p:=by simpa using hi
    subst e
    exact PlOk.gt h.2 q (List.mem_of_getElem? hj')
   | succ i=>exact PlOk.rise h.2 i j p q (by omega) (by simpa using hi) hj'
theorem jih {H:Hp} {a st:Addr} {xs:List V} {ps:List (Int × Int)} {o:HO} (ha:H a = some (.lst xs)) (pp:Prs H xs ps) (hs:H st = some o) (so:StO o):a ≠ st:=by
 intro z
 obtain ⟨c,s,f,e,_⟩:=so
 rw [z,hs,e] at ha
 cases ha
 cases pp with
 | cons r _=>obtain ⟨t,e,_⟩:=r; cases e
theorem jb9.but {H H':Hp} {st:Addr} {o:HO} {v:V} {ps ts:List (Int × Int)} (h:jb9 H v ps ts) (hs:H st = some o) (so:StO o) (b:But st H H'):jb9 H' v ps ts:=by
 obtain ⟨u,pa,ta,xs,ys,e,h1,h2,h3,h4,h5⟩:=h
 have t:=b.tups hs so.imm
 exact ⟨u,pa,ta,xs,ys,e,t _ _ rfl h1,b _ _ (jih h2 h4 hs so) h2,b _ _ (jih h3 h5 hs so) h3,Prs.tups t h4,Prs.tups t h5⟩
def jnc:Sp:=fun vs H Q _=>∃ s o m,vs = [.ref s,.int m]∧H s = some o∧StO o∧0 ≤ m∧m ≤ 8 ∧
 ∀ v H' o' ps ts,But s H H'→H' s = some o'→StO o'→jb9 H' v ps ts→WebOk ps ts→Dr (-1) ps→(ps.length:Int) ≤ m→ts.length ≤ 88→Q v H'
theorem jnt {ps:List (Int × Int)} (hn:(ps.map (·.1)).Nodup) {i:Nat} {p:Int × Int} (h:ps[i]? = some p):hasK (jb0 ps) p.1 = true:=jin hn (List.mem_of_getElem? h)
theorem jjr {f:Addr} {fd:FuncData} {f_law_take:Addr} {d_law_take:FuncData} {f_law_places:Addr} {d_law_places:FuncData} (B:Blt mg) (D:DefAt K mg "_law_web" (top 36) ["_law_state","_law_most"] f fd) (D_law_take:DefAt K mg "_law_take" (top 34) ["_law_state","_law_many"] f_law_take d_law_take) (G_law_take:FnOk P w K mg base CX0 1 f_law_take d_law_take ["_law_state","_law_many"] jd5) (D_law_places:DefAt K mg "_law_places" (top 35) ["_law_state","_law_count"] f_law_places d_law_places) (G_law_places:FnOk P w K mg base CX0 2 f_law_places d_law_places ["_law_state","_law_count"] jfr):FnOk P w K mg base CX0 3 f fd ["_law_state","_law_most"] jnc:=by
 have sc:FnScope ["_law_state","_law_most","_law_count","_law_places_here","_law_dense","_law_ties","_law_k","_law_j"] ["_law_state","_law_most"] (jac (top 36)):=⟨rfl,rfl,rfl,by decide +kernel,rfl,by decide +kernel,by decide +kernel⟩
 refine D.F.ok sc (fun vs H Q E h=>?_) (fun cdv A outer s H vs Q E hr h=>?_)
 ·obtain ⟨s,o,m,rfl,_⟩:=h
  rfl
 obtain ⟨st,o,m,rfl,es,so,m0,m1,h⟩:=h
 have hu:=jba hr
 have hu0:_ < PySem.cLine:=Nat.lt_of_succ_lt hu
 refine ⟨_,(ja5 (jaj (i:=2) sc.nd rfl (Or.inl rfl) (ja9 G_law_take (hr.mono (by decide)) rfl D_law_take.m D_law_take.F.kp D_law_take.b .nil jai (ja0 (qv 0) (ja0 (jau jcf (qv 1) ja4) ja2)))) (ja5 (jaj (i:=3) sc.nd rfl (Or.inl rfl) (ja9 G_law_places (hr.mono (by decide)) rfl D_law_places.m D_law_places.F.kp D_law_places.b .nil jai (ja0 (qv 0) (ja0 (qv 2) ja2)))) (ja5 (jaj (i:=4) sc.nd rfl (Or.inl rfl) (jau jcf ja4 (ja9 G_law_take (hr.mono (by decide)) rfl D_law_take.m D_law_take.F.kp D_law_take.b .nil jai (ja0 (qv 0) (ja0 ja4 ja2))))) (ja5 (jaj (i:=5) sc.nd rfl (Or.inl rfl) (jb8 ja2)) (ja5 (jca PassesOwn.never rfl (jd9 rfl B.range (ja0 (qv 2) ja2)) (jae (i:=6) sc.nd rfl (Or.inl rfl)) (ja7 (jca PassesOwn.never rfl (jh2 rfl B.range (ja0 (jau jcf (qv 6) ja4) (ja0 (qv 2) ja2))) (jae (i:=7) sc.nd rfl (Or.inl rfl)) (ja7 (jbf (jat q_lt (ja9 G_law_take (hr.mono (by decide)) rfl D_law_take.m D_law_take.F.kp D_law_take.b .nil jai (ja0 (qv 0) (ja0 ja4 ja2))) (qv 4) (jap _)) (ja7 (jbm (q_bm PySem.F.plainAttrs_list PySem.F.slot_list_append PySem.F.type_list_append jbz (qv 5) (ja0 (jay (ja0 (jah q_ix (jah q_ix (qv 3) (qv 6) (fun _ _=>rfl)) ja4 (fun _ _=>rfl)) (ja0 (jah q_ix (jah q_ix (qv 3) (qv 7) (fun _ _=>rfl)) ja4 (fun _ _=>rfl)) ja2))) ja2)))) jao))))) (ja7 (jak (jay (ja0 (qv 3) (ja0 (qv 5) ja2)))))))))),?_⟩
 walk_at "RD"
 refine ⟨st,o,m + 1,rfl,es,so,by omega,by omega,fun n o1 n0 n1 so1=>?_⟩
 walk_at "RD"
 refine ⟨st,o1,n,rfl,ja1,so1,n0,by omega,fun r HA oA xs ps hr0 bA eA soA er pp hlen dr=>?_⟩
 walk_at "RD"
 refine ⟨st,oA,4,rfl,eA,soA,by decide,by decide,fun dn oB d0 d1 soB=>?_⟩
 have nr:r ≠ st:=fun z=>by rw [z,ja1] at hr0; cases hr0
 have hr1:H r = none:=by rw [← hr0,jaa nr]
 have bB:But st H (upd HA st oB):=((But.at st H o1).trans bA).trans (But.at st HA oB)
 have tB:TupS HA (upd HA st oB):=(But.at st HA oB).tups eA soA.imm
 have erB:upd HA st oB r = some (.lst xs):=by rw [jaa nr]; exact er
 have eB:upd HA st oB st = some oB:=ja1
 have pB:Prs (upd HA st oB) xs ps:=Prs.tups tB pp
 generalize upd HA st oB = HB at bB erB eB pB
 clear tB pp er eA bA soA
 have hpl:ps.length ≤ 12:=by omega
 have plok:=dr.pl (s:=0) (by omega) (by omega)
 have hnd:=plok.nodup
 have hlx:xs.length = ps.length:=Paired.length pB
 have rise:=dr.rise
 walk_at "RD"
 intro tl htl
 have ntl:tl ≠ st:=(ja6 eB htl).symm
 have nrt:r ≠ tl:=ja6 erB htl
 have htl0:H tl = none:=by
  cases q:H tl with
  | none=>rfl
  | some u=>rw [bB _ _ ntl q] at htl; cases htl
 refine jbp (Itr 0 ps.length) (upd HB tl (.lst [])) (fun R hR=>?_) (jci (n:=ps.length) (fun k σ H1=>∃ kk jj zs ts o',σ = [some (.ref st),some (.int m),some (.int n),some (.ref r),some (.int (1 + dn)),some (.ref tl),kk,jj]∧But st H H1∧H1 st = some o'∧StO o'∧H1 r = some (.lst xs)∧Prs H1 xs ps∧H1 tl = some (.lst zs)∧Prs H1 zs ts∧TiOk (jb0 ps) (-1,-1) ts∧(∀ (j:Nat) (p:Int × Int),k ≤ j→ps[j]? = some p→(jhi (-1,-1) ts).1 < p.1)∧(ts.length ≤ 11 * k∧ts.length ≤ 111)) ?_ ?_ ?_)
 ·unfold jmw
  walk_at "RD"
  exact ⟨n,rfl,by omega,by omega,by rw [← hlen]; exact hR⟩
 ·refine ⟨none,none,[],[],oB,rfl,bB.trans (But.new htl),by rw [jaa ntl.symm]; exact eB,soB,by rw [jaa nrt]; exact erB,Prs.tups (jdv htl) pB,ja1,.nil,trivial,fun j p _ hp=>?_,by simp⟩
  have:=dr.gt p (List.mem_of_getElem? hp)
  exact this
 ·rintro k σ H1 hk ⟨kk,jj,zs,ts,o',rfl,b1,e1,so',er1,pp1,etl,pz,tok,hlast,htn⟩
  obtain ⟨lt0,hlt0⟩:∃ n:Nat,n = ts.length:=⟨_,rfl⟩
  have xk:ps[k]? = some ps[k]:=List.getElem?_eq_getElem hk
  generalize ps[k] = pk at xk
  walk_at "RD"
  refine jbp (Itr (0 + (k:Int) + 1) (ps.length - (k + 1))) H1 (fun R hR=>?_) (jci (n:=ps.length - (k + 1)) (fun i σ H2=>∃ jj zs ts o',σ = [some (.ref st),some (.int m),some (.int n),some (.ref r),some (.int (1 + dn)),some (.ref tl),some (.int (0 + (k:Int))),jj]∧But st H H2∧H2 st = some o'∧StO o'∧H2 r = some (.lst xs)∧Prs H2 xs ps∧H2 tl = some (.lst zs)∧Prs H2 zs ts∧TiOk (jb0 ps) (-1,-1) ts∧((jhi (-1,-1) ts).1 < pk.1 ∨ ((jhi (-1,-1) ts).1 = pk.1∧∀ (j:Nat) (p:Int × Int),k + 1 + i ≤ j→ps[j]? = some p→(jhi (-1,-1) ts).2 < p.1))∧ts.length ≤ lt0 + i) ?_ ?_ ?_)
  ·unfold jox
   walk_at "RD"
   refine ⟨_,_,rfl,⟨by omega,by omega,by omega,by omega⟩,?_⟩
   have e:(n - (0 + (k:Int) + 1)).toNat = ps.length - (k + 1):=by omega
   rw [e]
   exact hR
  ·exact ⟨jj,zs,ts,o',rfl,b1,e1,so',er1,pp1,etl,pz,tok,.inl (hlast k pk (Nat.le_refl _) xk),by omega⟩
  ·rintro i σ H2 hi ⟨jj2,zs2,ts2,o2,rfl,b2,e2,so2,er2,pp2,etl2,pz2,tok2,hl2,htn2⟩
   have hj:k + 1 + i < ps.length:=by omega
   have xj:ps[k + 1 + i]? = some ps[k + 1 + i]:=List.getElem?_eq_getElem hj
   generalize ps[k + 1 + i] = pj at xj
   have hkj:=rise k (k + 1 + i) pk pj (by omega) xk xj
   walk_at "RD"
   refine ⟨st,o2,5,rfl,e2,so2,by decide,by decide,fun d3 o3 d30 d31 so3=>?_⟩
   have b3:But st H2 (upd H2 st o3):=But.at _ _ _
   have t3:TupS H2 (upd H2 st o3):=b3.tups e2 so2.imm
   have er3:=b3 _ _ nr er2
   have etl3:=b3 _ _ ntl etl2
   have e3:upd H2 st o3 st = some o3:=ja1
   generalize upd H2 st o3 = H3 at b3 t3 er3 etl3 e3
   walk_at "RD"
   refine ite2 (fun c=>?_) (fun c=>?_)
   ·obtain ⟨uk,gk,hgk⟩:=jb5 pp2 xk
    obtain ⟨uj,gj,hgj⟩:=jb5 pp2 xj
    obtain ⟨tk,ek,hk3⟩:=hgk.tups t3
    obtain ⟨tj,ej,hj3⟩:=hgj.tups t3
    have ak:atI xs (0 + (k:Int)) = some (.ref tk):=by rw [Int.zero_add,← ek]; exact jc3 gk
    have aj:atI xs (0 + (k:Int) + 1 + (i:Int)) = some (.ref tj):=by
     rw [show 0 + (k:Int) + 1 + (i:Int) = ((k + 1 + i:Nat):Int) by omega,← ej]
     exact jc3 gj
    refine ⟨⟨tl,_,rfl,etl3⟩,?_⟩
    simp_arith [jam,er3,ak,aj,hk3,hj3,at0]
    intro t ht
    have etl4:=ja3 ht (.tup [.int pk.1,.int pj.1]) _ _ etl3
    simp_arith [etl4]
    have t6:=jax (ys:=zs2 ++ [.ref t]) etl4
    have nst:st ≠ tl:=ntl.symm
    have hz2:zs2.length = ts2.length:=Paired.length pz2
    refine ⟨szl' (by omega),_,zs2 ++ [.ref t],ts2 ++ [(pk.1,pj.1)],o3,rfl,fun b u nb q=>?_,?_,so3,?_,Prs.tups ((t3.trans (jdv ht)).trans t6) pp2,(by first | rfl | exact ja1),jal (Prs.tups ((t3.trans (jdv ht)).trans t6) pz2) (Pr.tups ⟨t,rfl,ja1⟩ t6),?_,?_,?_⟩
    ·have q3:=b3 _ _ nb (b2 _ _ nb q)
     rw [jaa (ja6 q htl0),jaa (ja6 q3 ht)]
     exact q3
    ·rw [jaa nst,jaa (ja6 e3 ht)]
     exact e3
    ·rw [jaa nrt,jaa (ja6 er3 ht)]
     exact er3
    ·refine tok2.snoc ⟨?_,hkj,(show hasK _ pk.1 = true from jnt hnd xk),(show hasK _ pj.1 = true from jnt hnd xj)⟩
     rcases hl2 with q | ⟨q1,q2⟩
     ·exact jnp q
     ·rw [q1]
      exact jnq (q2 _ pj (Nat.le_refl _) xj)
    ·rw [jfd]
     exact .inr ⟨rfl,fun j p hj2 hp=>rise _ _ pj p (by omega) xj hp⟩
    ·rw [List.length_append]
     show _ + 1 ≤ _
     omega
   ·refine ⟨_,zs2,ts2,o3,rfl,b2.trans b3,e3,so3,er3,Prs.tups t3 pp2,etl3,Prs.tups t3 pz2,tok2,?_,by omega⟩
    rcases hl2 with q | ⟨q1,q2⟩
    ·exact .inl q
    ·exact .inr ⟨q1,fun j p hj2 hp=>q2 j p (by omega) hp⟩
  ·rintro σ H2 ⟨jj2,zs2,ts2,o2,rfl,b2,e2,so2,er2,pp2,etl2,pz2,tok2,hl2,htn2⟩
   refine ⟨_,jj2,zs2,ts2,o2,rfl,b2,e2,so2,er2,pp2,etl2,pz2,tok2,fun j p hj hp=>?_,by omega⟩
   have:=rise k j pk p (by omega) xk hp
   rcases hl2 with q | ⟨q1,_⟩
   ·omega
   ·omega
 ·rintro σ H1 ⟨kk,jj,zs,ts,o',rfl,b1,e1,so',er1,pp1,etl,pz,tok,hlast,htn⟩
  walk_at "RD"
  intro wv hwv
  have s1:=ja3 hwv (.tup [.ref r,.ref tl])
  exact h _ _ o' ps ts (b1.trans (But.new hwv)) (s1 _ _ e1) so' ⟨wv,r,tl,xs,zs,rfl,ja1,s1 _ _ er1,s1 _ _ etl,Prs.same s1 pp1,Prs.same s1 pz⟩ ⟨by omega,plok,by omega,tok⟩ dr (by omega) (by omega)
end
end My
namespace My
open PySem L2
section
variable {P:Program} {w:World} {K:PySem.W.Frag} {mg:Str→Option Value} {base:Heap} {c1 c2 c3 c4:Tok} {C_NoWeb f_NoWeb:Addr} {dI:FuncData}
def nr (n:Int) (t:Int × Int):List Int:=if t.1 = n then [t.2] else if t.2 = n then [t.1] else []
theorem jmy {ps:List (Int × Int)} {n:Int} (h:hasK (jb0 ps) n = true):∃ (i:Nat) (p:Int × Int),ps[i]? = some p∧p.1 = n:=by
 unfold hasK valV jb0 at h
 rw [Option.isSome_map,List.find?_isSome] at h
 obtain ⟨kv,hm,he⟩:=h
 obtain ⟨p,hp,e⟩:=List.mem_map.mp hm
 subst e
 obtain ⟨i,hi,e2⟩:=List.mem_iff_getElem.mp hp
 refine ⟨i,p,by rw [List.getElem?_eq_getElem hi,e2],?_⟩
 exact Sum.inl.inj (of_decide_eq_true he)
theorem TiOk.ats {kvs:List (Key × V)}:∀ {ts:List (Int × Int)} {q:Int × Int},TiOk kvs q ts→∀ t ∈ ts,t.1 < t.2∧hasK kvs t.1 = true∧hasK kvs t.2 = true
 | [],_,_,_,h=>by cases h
 | p :: r,q,h,t,ht=>by
  rcases List.mem_cons.mp ht with e | ht
  ·rw [e]; exact ⟨h.1.2.1,h.1.2.2.1,h.1.2.2.2⟩
  ·exact TiOk.ats h.2 t ht
theorem jg2 {α:Type} {l:List α} (h:l.Nodup) {i j:Nat} {a b:α} (h1:l[i]? = some a) (h2:l[j]? = some b) (hij:i ≠ j):a ≠ b:=by
 intro e
 subst e
 obtain ⟨p1,q1⟩:=List.getElem?_eq_some_iff.mp h1
 obtain ⟨p2,q2⟩:=List.getElem?_eq_some_iff.mp h2
 exact hij ((List.getElem_inj h).mp (q1.trans q2.symm))
end
end My
namespace My
open PySem L2
section
variable {P:Program} {w:World} {K:PySem.W.Frag} {mg:Str→Option Value} {base:Heap} {c1 c2 c3 c4:Tok} {C_NoWeb f_NoWeb:Addr} {dI:FuncData}
end
end My
namespace My
open PySem L2
section
variable {P:Program} {w:World} {K:PySem.W.Frag} {mg:Str→Option Value} {base:Heap} {c1 c2 c3 c4:Tok} {C_NoWeb f_NoWeb:Addr} {dI:FuncData}
def prc (ps:List (Int × Int)) (n:Int):Int:=((ps.find? fun p=>decide (p.1 = n)).map (·.2)).getD 0
theorem jbr {ps:List (Int × Int)} {n:Int} (h:n ∈ ps.map (·.1)):valV (jb0 ps) (Sum.inl n:Key) = some (.int (prc ps n)):=by
 unfold prc valV jb0
 rw [List.find?_map]
 have e:((fun kv:Key × V=>decide (kv.1 = Sum.inl n)) ∘ fun p:Int × Int=>((Sum.inl p.1:Key),V.int p.2)) = fun p:Int × Int=>decide (p.1 = n):=by
  funext p
  show decide ((Sum.inl p.1:Key) = Sum.inl n) = decide (p.1 = n)
  by_cases c:p.1 = n
  ·rw [c,decide_eq_true rfl,decide_eq_true rfl]
  ·rw [decide_eq_false c,decide_eq_false fun z=>c (Sum.inl.inj z)]
 rw [e]
 cases c:ps.find? fun p=>decide (p.1 = n) with
 | none =>
  obtain ⟨p,hp,ep⟩:=List.mem_map.mp h
  have:=List.find?_eq_none.mp c p hp
  rw [ep] at this
  simp at this
 | some p=>rfl
theorem jh0 {ps:List (Int × Int)} {p:Int × Int} (hn:(ps.map (·.1)).Nodup) (h:p ∈ ps):prc ps p.1 = p.2:=by
 have e:=jbr (List.mem_map_of_mem (f:=fun q:Int × Int=>q.1) h)
 rw [ji1 hn h] at e
 injection e with e
 injection e with e
 exact e.symm
theorem jjc {ns:List Int} {i:Nat} {x:V} (h:(ns.map V.int)[i]? = some x):∃ n,ns[i]? = some n∧x = .int n:=by
 rw [List.getElem?_map] at h
 cases c:ns[i]? with
 | none=>rw [c] at h; cases h
 | some n=>rw [c] at h; cases h; exact ⟨n,rfl,rfl⟩
theorem flat_ints:∀ (gs:List Int),(gs.map V.int).all jd4 = true
 | []=>rfl
 | g :: r=>by rw [List.map_cons,List.all_cons,flat_ints r]; rfl
theorem jby {H:Hp} {a:Addr} {ns:List Int} (e:H a = some (.lst (ns.map V.int))):Rep H (.lst (ns.map Dt.int)) (.ref a):=by
 rw [Rep]
 refine ⟨a,_,rfl,e,?_⟩
 clear e
 induction ns with
 | nil=>rw [List.map_nil,Reps]; rfl
 | cons n r ih=>rw [List.map_cons,Reps]; exact ⟨_,_,rfl,by rw [Rep],ih⟩
end
end My
namespace L2
open PySem PySem.Spec PyProof.Rows
section
variable {prog:Program} {w:World} {A:Around} {R:Result→Shared→Prop} {I:Addr} {fp wr:List Addr} {n:Nat} {P:Nat→Value→Prop} {St:Nat→Heap→Prop}
def jhx (val:Nat→Int) (n:Nat) (m:Int):Prop:=(∃ i,i < n∧m = val i)∧∀ i,i < n→m ≤ val i
theorem jhx.up {val:Nat→Int} {j:Nat} {m:Int} (h:jhx val j m) (hb:val j < m):jhx val (j + 1) (val j) :=
 ⟨⟨j,Nat.lt_succ_self _,rfl⟩,fun i hi=>by
  rcases Nat.lt_succ_iff_lt_or_eq.mp hi with z | z
  ·have:=h.2 i z; omega
  ·rw [z]; exact Int.le_refl _⟩
theorem jhx.keep {val:Nat→Int} {j:Nat} {m:Int} (h:jhx val j m) (hb:¬ val j < m):jhx val (j + 1) m :=
 ⟨let ⟨i,hi,e⟩:=h.1; ⟨i,Nat.lt_succ_of_lt hi,e⟩,fun i hi=>by
  rcases Nat.lt_succ_iff_lt_or_eq.mp hi with z | z
  ·exact h.2 i z
  ·rw [z]; omega⟩
theorem jdx:(toString "min" ++ toString ".loop":String) = "min.loop":=by decide
theorem jik (W:Walks prog w A.in1 I fp wr n P St) (val:Nat→Int) (hval:∀ i v,P i v→∃ t:Tok,v = Value.int (val i) t) (kw:List (Str × Value)) (S:Addr) (hSf:S ∉ fp) :
  ∀ (k j:Nat) (s:Shared) (m:Int) (t:Tok) (c:Nat),n - j = k→j ≤ n→St j s.heap→jhx val j m →
  s.heap.get? S = some { cls:=.type "list",dict:=none,data:=.seq #[.int m t,.int m t] c,slots:=#[] } →
  (∀ m' t' h' tk,jhx val n m'→(∀ b o,b ∉ wr→b ≠ S→s.heap.get? b = some o→h'.get? b = some o)→R (.ok (.ret (.int m' t'))) { s with heap:=h',toks:=tk }) →
  codeAny (model prog w) A (.builtin "min.loop" ⟨[.ref I,.none,.ref S],kw⟩) R s:=by
 have hSw:S ∉ wr:=fun z=>hSf (W.sub _ z)
 intro k
 induction k with
 | zero =>
  intro j s m t c hk hj hst hb hS hR
  have hin:j = n:=by omega
  subst hin
  refine codeAny_builtin PySem.F.entry_min_loop ?_
  rw [Around.under_plainId PySem.F.plain_min_loop _]
  show wpAny _ A.in1 (seqItems? (.ref S) >>= _) _ _ s
  refine wpAny_bind (wpAny_seqItems hS rfl ?_)
  show wpAny _ A.in1 (tryCatch (pyNext (.ref I)) _ >>= _) _ _ s
  refine wpAny_bind (wpAny_tryCatch (W.done s _ _ hst fun h' tk kp=>?_))
  have hS':=kp S _ hSw hS
  show wpAny _ A.in1 (updateSeq S (fun _=>#[]) >>= _) _ _ _
  refine wpAny_bind ?_
  refine wpAny_updateSeq hS' rfl (wpAny_bind (wpAny_letGo (wpAny_pure ?_)))
  exact hR m t _ tk hb fun b o hbw hbS e=>(Heap.get?_update_other _ _ (Ne.symm hbS)).trans (kp b o hbw e)
 | succ k ih =>
  intro j s m t c hk hj hst hb hS hR
  have hlt:j < n:=by omega
  refine codeAny_builtin PySem.F.entry_min_loop ?_
  rw [Around.under_plainId PySem.F.plain_min_loop _]
  show wpAny _ A.in1 (seqItems? (.ref S) >>= _) _ _ s
  refine wpAny_bind (wpAny_seqItems hS rfl ?_)
  show wpAny _ A.in1 (tryCatch (pyNext (.ref I)) _ >>= _) _ _ s
  refine wpAny_bind (wpAny_tryCatch (W.item j s _ _ hlt hst fun v h' tk hP hst' kp=>?_))
  obtain ⟨t',rfl⟩:=hval j v hP
  have hS':=kp S _ hSw hS
  show wpAny _ A.in1 (tryCatch (holding [.int (val j) t',.int (val j) t'] (richCompare .Lt (.int (val j) t') (.int m t) >>= _)) _ >>= _) _ _ _
  refine wpAny_bind (wpAny_tryCatch (wpAny_holding (wpAny_bind (lt_int ?_))))
  refine wpAny_bind (wpAny_holding (wpAny_truthy_bool ?_))
  refine wpAny_bind (wpAny_letGo (wpAny_pure ?_))
  by_cases hc:val j < m
  ·rw [decide_eq_true (show val j < m from hc)]
   simp only [if_true]
   refine wpAny_bind ?_
   refine wpAny_updateSeq hS' rfl (wpAny_bind (wpAny_letGo ?_))
   rw [jdx]
   refine wpAny_pure ⟨plainId_quiet PySem.F.plain_min_loop _,ih (j + 1) _ (val j) t' _ (by omega) hlt (W.frame _ _ _ hst' fun b hbf o e=>?_) (hb.up hc) (Heap.get?_update_self _ hS' rfl) fun m' u h'' tk'' hB k''=>?_⟩
   ·exact (Heap.get?_update_other _ _ (fun z:S = b=>hSf (by rw [z]; exact hbf))).trans e
   ·exact hR m' u h'' tk'' hB fun b o hbw hbS e=>k'' b o hbw hbS ((Heap.get?_update_other _ _ (Ne.symm hbS)).trans (kp b o hbw e))
  ·rw [decide_eq_false (show ¬ val j < m from hc)]
   simp only [Bool.false_eq_true,if_false]
   refine wpAny_bind (wpAny_letGo ?_)
   rw [jdx]
   refine wpAny_pure ⟨plainId_quiet PySem.F.plain_min_loop _,ih (j + 1) _ m t c (by omega) hlt hst' (hb.keep hc) hS' fun m' u h'' tk'' hB k''=>?_⟩
   exact hR m' u h'' tk'' hB fun b o hbw hbS e=>k'' b o hbw hbS (kp b o hbw e)
end
section
variable {X:Cx}
end
section
variable {X:Cx}
end
end L2
namespace L2
open PySem PySem.Spec PyProof.Rows
section
variable {X:Cx}
theorem jiu (a:Value):argsOk "min" ⟨[a],[]⟩:=by unfold argsOk; kernel_rfl
def rMinN:List V→Hp→VK→Prop:=fun vs H Q=>∃ (p:Addr) (ns:List Int),vs = [.ref p]∧H p = some (.lst (ns.map V.int))∧ns ≠ [] ∧
 ∀ m,m ∈ ns→(∀ x ∈ ns,m ≤ x)→Q (.int m) H
theorem jlv (hc:X.calm = true):jc0 X (.builtin "min") rMinN:=by
 intro pins s σ H xs us Q I r h
 obtain ⟨p,ns,rfl,e,hne,q⟩:=h
 obtain ⟨u,rfl,rx⟩:=je1 r
 cases rx
 obtain ⟨z,its,c,r',hlen,e'⟩:=I.lstM e
 have hI:=jch r'
 have plt:p < s.heap.objs.size:=Heap.lt_size e'
 have hL:s.heap.IsList p its.toArray:=⟨_,e',rfl,_,rfl⟩
 refine call_function_tree PySem.F.kind_min PySem.F.plain_min PySem.F.entry_min (jiu _) ?_
 show wpAny _ X.A.in1 (Builtin.Builtins.bindParams "min" ["key","default"] 0 ⟨[],[]⟩ >>= _) _ _ s
 refine wpAny_bind (wpAny_of_eq (show Builtin.Builtins.bindParams "min" ["key","default"] 0 ⟨[],[]⟩ = pure [none,none] from rfl) ?_)
 refine wpAny_bind (wpAny_pure ?_)
 refine wpAny_bind (wpAny_pyIter_list hL ?_)
 refine wpAny_bind (wpAny_newList ?_ (Nat.zero_le _))
 rw [jdx]
 have hS:(s.heap.push { cls:=.type "list_iterator",data:=.fields #[.ref p,.int 0 0] }).objs.size = s.heap.objs.size + 1:=size_push' ..
 have W:=Walks.list (prog:=X.prog) (w:=X.w) (A:=X.A.in1) (show X.A.in1.handled = none from I.ok.hd hc) s.heap.objs.size p (Nat.ne_of_lt plt) its.toArray
 have hsz:its.toArray.size = ns.length:=by rw [List.size_toArray,← hlen,List.length_map]
 have hval:∀ (i:Nat) (v:Value),its.toArray[i]? = some v→∃ t:Tok,v = Value.int (ns[i]?.getD 0) t:=fun i v hv=>by
  have hv':its[i]? = some v:=by simpa using hv
  have hi:i < ns.length:=by
   have:=(List.getElem?_eq_some_iff.mp hv').1
   rw [List.length_map] at hlen
   omega
  obtain ⟨u,e1,t,e2⟩:=r'.get (i:=i) (x:=.int ns[i]) (by rw [List.getElem?_map,List.getElem?_eq_getElem hi]; rfl)
  rw [hv'] at e1
  cases e1
  exact ⟨t,by rw [e2,List.getElem?_eq_getElem hi]; rfl⟩
 have kp0:∀ (h':Heap) (tk:Nat),(∀ b o,b ∉ [s.heap.objs.size]→b ≠ (s.heap.push { cls:=.type "list_iterator",data:=.fields #[.ref p,.int 0 0] }).objs.size→((s.heap.push { cls:=.type "list_iterator",data:=.fields #[.ref p,.int 0 0] }).push { cls:=.type "list",data:=.seq #[] }).get? b = some o→h'.get? b = some o) →
   Inv X pins σ H { s with heap:=h',toks:=tk }:=fun h' tk k=>I.kept fun b o qq=>k b o (by
    intro z
    have:b = s.heap.objs.size:=by simpa using z
    exact absurd (Heap.lt_size qq) (by rw [this]; exact Nat.lt_irrefl _)) (by rw [hS]; exact Nat.ne_of_lt (Nat.lt_succ_of_lt (Heap.lt_size qq))) (Heap.get?_push_of_some _ (Heap.get?_push_of_some _ qq))
 have hst0:(fun i (h:Heap)=>h.IsListIter s.heap.objs.size p i∧h.IsList p its.toArray) 0 ((s.heap.push { cls:=.type "list_iterator",data:=.fields #[.ref p,.int 0 0] }).push { cls:=.type "list",data:=.seq #[] }) :=
  ⟨⟨_,Heap.get?_push_of_some _ (Heap.get?_push_size _ rfl),rfl,rfl⟩,(hL.push _).push _⟩
 have hSg:((s.heap.push { cls:=.type "list_iterator",data:=.fields #[.ref p,.int 0 0] }).push { cls:=.type "list",data:=.seq #[] }).get? (s.heap.push { cls:=.type "list_iterator",data:=.fields #[.ref p,.int 0 0] }).objs.size = some { cls:=.type "list",dict:=none,data:=.seq #[] 0,slots:=#[] }:=Heap.get?_push_size _ rfl
 have hSf:(s.heap.push { cls:=.type "list_iterator",data:=.fields #[.ref p,.int 0 0] }).objs.size ∉ [s.heap.objs.size,p]:=by
  rw [hS]
  intro z
  rcases List.mem_cons.mp z with z | z
  ·exact absurd z (Nat.succ_ne_self _)
  ·have z:=List.mem_singleton.mp z
   rw [← z] at plt
   exact Nat.lt_irrefl _ (Nat.lt_of_succ_lt plt)
 refine wpAny_pure ⟨plainId_quiet PySem.F.plain_min_loop _,?_⟩
 refine codeAny_builtin PySem.F.entry_min_loop ?_
 rw [Around.under_plainId PySem.F.plain_min_loop _]
 show wpAny _ X.A.in1 (seqItems? (.ref _) >>= _) _ _ _
 refine wpAny_bind (wpAny_seqItems hSg rfl ?_)
 show wpAny _ X.A.in1 (tryCatch (pyNext (.ref s.heap.objs.size)) _ >>= _) _ _ _
 cases hn:ns with
 | nil=>exact absurd hn hne
 | cons n0 rest =>
  have hpos:0 < its.toArray.size:=by rw [hsz,hn]; simp
  refine wpAny_bind (wpAny_tryCatch (W.item 0 _ _ _ hpos hst0 fun v h' tk hP hst' kp=>?_))
  obtain ⟨t',rfl⟩:=hval 0 v hP
  have hS':=kp _ _ (fun z=>hSf (List.mem_cons.mpr (.inl (List.mem_singleton.mp z)))) hSg
  show wpAny _ X.A.in1 (updateSeq _ (fun _=>#[_,_]) >>= _) _ _ _
  refine wpAny_bind ?_
  refine wpAny_updateSeq hS' rfl ?_
  rw [jdx]
  refine wpAny_pure ⟨plainId_quiet PySem.F.plain_min_loop _,jik W (fun i=>ns[i]?.getD 0) hval _ _ hSf _ 1 _ _ t' _ rfl hpos (W.frame _ _ _ hst' fun b hbf o e=>?_) ⟨⟨0,Nat.one_pos,rfl⟩,fun i hi=>by
   have:i = 0:=by omega
   subst this; exact Int.le_refl _⟩ (Heap.get?_update_self _ hS' rfl) fun m u h'' tk'' hB k''=>?_⟩
  ·exact (Heap.get?_update_other _ _ (fun z=>hSf (by rw [z]; exact hbf))).trans e
  ·refine ⟨.int m,H,kp0 h'' tk'' fun b o h1 h2 h3=>k'' b o h1 h2 ((Heap.get?_update_other _ _ (Ne.symm h2)).trans (kp b o h1 h3)),⟨u,rfl⟩,q m ?_ fun x hx=>?_⟩
   ·obtain ⟨i,hi,e1⟩:=hB.1
    rw [hsz] at hi
    rw [e1]
    show ns[i]?.getD 0 ∈ ns
    rw [List.getElem?_eq_getElem hi]
    exact List.getElem_mem hi
   ·obtain ⟨i,hi,e1⟩:=List.mem_iff_getElem.mp hx
    have:m ≤ ns[i]?.getD 0:=hB.2 i (by rw [hsz]; exact hi)
    rw [List.getElem?_eq_getElem hi] at this
    rw [← e1]
    exact this
end
end L2
namespace My
open PySem L2
section
variable {P:Program} {w:World} {K:PySem.W.Frag} {mg:Str→Option Value} {base:Heap} {c1 c2 c3 c4:Tok} {C_NoWeb f_NoWeb:Addr} {dI:FuncData}
theorem jdy:∀ (ns:List Int),jc2 (ns.map Dt.int) = 0
 | []=>rfl
 | n :: r=>by simp [jc2,depP,jdy r]
theorem jdf (ns:List Int):depP (.lst (ns.map Dt.int)) ≤ 20:=by rw [depP,jdy]; decide
end
end My
namespace My
open PySem L2
section
variable {P:Program} {w:World} {K:PySem.W.Frag} {mg:Str→Option Value} {base:Heap} {c1 c2 c3 c4:Tok} {C_NoWeb f_NoWeb:Addr} {dI:FuncData}
theorem jbu {ps:List (Int × Int)} {n:Int}:hasK (jb0 ps) n = decide (n ∈ ps.map (·.1)):=by
 by_cases c:n ∈ ps.map (·.1)
 ·rw [decide_eq_true c]
  unfold hasK
  rw [jbr c]
  rfl
 ·rw [decide_eq_false c]
  refine Bool.eq_false_iff.mpr fun z=>?_
  obtain ⟨i,p,hp,e⟩:=jmy z
  exact c (List.mem_map.mpr ⟨p,List.mem_of_getElem? hp,e⟩)
theorem jp3 {x:V} {xs:List V}:cutV (x :: xs) (some 1) none = xs:=by
 unfold cutV HT.sIx
 simp
end
end My
namespace My
open PySem L2
section
variable {P:Program} {w:World} {K:PySem.W.Frag} {mg:Str→Option Value} {base:Heap} {c1 c2 c3 c4:Tok} {C_NoWeb f_NoWeb:Addr} {dI:FuncData}
def prsD (ts:List (Int × Int)):Dt:=.lst (ts.map jda)
def webD (ps ts:List (Int × Int)):Dt:=.tup [prsD ps,prsD ts]
def sumP (ps:List (Int × Int)):Int:=(ps.map (·.2)).sum
theorem jaw (p:Int × Int) (ps:List (Int × Int)):sumP (p :: ps) = p.2 + sumP ps:=by
 unfold sumP
 rw [List.map_cons,List.sum_cons]
theorem jm9 (a b:List (Int × Int)):sumP (a ++ b) = sumP a + sumP b:=by
 unfold sumP
 rw [List.map_append,List.sum_append]
theorem PlOk.pos:∀ {ps:List (Int × Int)} {l s:Int},PlOk l s ps→∀ p ∈ ps,1 ≤ p.2∧p.1 ≤ 999
 | [],_,_,_,_,h=>by cases h
 | q :: r,l,s,h,p,hp=>by
  rcases List.mem_cons.mp hp with e | hp
  ·rw [e]; exact ⟨h.1.2.2.1,h.1.2.1⟩
  ·exact PlOk.pos h.2 p hp
theorem je2:∀ {ps:List (Int × Int)},(∀ p ∈ ps,1 ≤ p.2)→0 ≤ sumP ps
 | [],_=>Int.le_refl 0
 | p :: r,h=>by
  rw [jaw]
  have:=h p (List.mem_cons_self ..)
  have:=je2 (ps:=r) fun q hq=>h q (List.mem_cons_of_mem _ hq)
  omega
theorem PlOk.keys:∀ {ps qs:List (Int × Int)} {l s s':Int},PlOk l s ps→qs.map (·.1) = ps.map (·.1)→(∀ q ∈ qs,1 ≤ q.2)→s' + sumP qs ≤ 1000000000000→PlOk l s' qs
 | [],[],_,_,_,_,_,_,_=>trivial
 | [],_ :: _,_,_,_,_,h,_,_=>by cases h
 | _ :: _,[],_,_,_,_,h,_,_=>by cases h
 | p :: ps,q :: qs,l,s,s',h,e,h1,h2=>by
  rw [List.map_cons,List.map_cons] at e
  injection e with e1 e2
  rw [jaw] at h2
  have g1:=h1 q (List.mem_cons_self ..)
  have g2:=je2 (ps:=qs) fun z hz=>h1 z (List.mem_cons_of_mem _ hz)
  refine ⟨⟨by rw [e1]; exact h.1.1,by rw [e1]; exact h.1.2.1,g1,by omega⟩,?_⟩
  rw [e1]
  exact PlOk.keys h.2 e2 (fun z hz=>h1 z (List.mem_cons_of_mem _ hz)) (by omega)
theorem jlj {ps qs:List (Int × Int)} (e:qs.map (·.1) = ps.map (·.1)) (n:Int):hasK (jb0 qs) n = hasK (jb0 ps) n:=by rw [jbu,jbu,e]
theorem TiOk.keys {k1 k2:List (Key × V)} (e:∀ n,hasK k1 n = true→hasK k2 n = true):∀ {ts:List (Int × Int)} {q:Int × Int},TiOk k1 q ts→TiOk k2 q ts
 | [],_,_=>trivial
 | t :: r,q,h=>⟨⟨h.1.1,h.1.2.1,e _ h.1.2.2.1,e _ h.1.2.2.2⟩,TiOk.keys e h.2⟩
theorem jdh:∀ {zs ys:List Int},zs.Sublist ys→(∀ y ∈ ys,1 ≤ y)→0 ≤ zs.sum∧zs.sum ≤ ys.sum∧∀ z ∈ zs,1 ≤ z∧z ≤ zs.sum
 | _,_,.slnil,_=>⟨Int.le_refl _,Int.le_refl _,fun z h=>by cases h⟩
 | _,_,.cons (l₂:=r) y h,p=>by
  obtain ⟨h0,h1,h2⟩:=jdh h fun q hq=>p q (List.mem_cons_of_mem _ hq)
  have:=p y (List.mem_cons_self ..)
  rw [List.sum_cons]
  exact ⟨h0,by omega,h2⟩
 | _,_,.cons₂ (l₁:=l) (l₂:=r) y h,p=>by
  obtain ⟨h0,h1,h2⟩:=jdh h fun q hq=>p q (List.mem_cons_of_mem _ hq)
  have:=p y (List.mem_cons_self ..)
  rw [List.sum_cons,List.sum_cons]
  refine ⟨by omega,by omega,fun z hz=>?_⟩
  rcases List.mem_cons.mp hz with e | hz
  ·rw [e]; omega
  ·have:=h2 z hz
   omega
theorem jjh (ps:List (Int × Int)):eqP (prsD ps) (.lst []) = decide (ps = []):=by
 cases ps <;> rfl
theorem jb6:∀ (ps:List (Int × Int)),jc2 (ps.map jda) ≤ 1
 | []=>by decide
 | p :: r=>by
  have:=jb6 r
  simp only [List.map_cons,jc2,jda,depP]
  omega
theorem jir (ps:List (Int × Int)):depP (prsD ps) ≤ 20:=by
 have:=jb6 ps
 unfold prsD
 rw [depP]
 omega
theorem ji8 {H:Hp} {a:Addr} {xs:List V} {ps:List (Int × Int)} (e:H a = some (.lst xs)) (pp:Prs H xs ps):Rep H (prsD ps) (.ref a):=by
 unfold prsD
 rw [Rep]
 exact ⟨a,xs,rfl,e,Prs.reps pp⟩
theorem jck {H:Hp} {a:Addr} (e:H a = some (.lst [])):Rep H (.lst []) (.ref a):=by
 rw [Rep]
 exact ⟨a,[],rfl,e,by rw [Reps]⟩
theorem jgc (ns:List Int):eqP (.lst (ns.map Dt.int)) (.lst []) = decide (ns = []):=by
 cases ns <;> rfl
theorem jmd {ps:List (Int × Int)} {i:Nat} {p:Int × Int} {x:Int} (h:ps[i]? = some p):(ps.set i (p.1,x)).map (·.1) = ps.map (·.1):=by
 rw [List.map_set]
 refine List.ext_getElem? fun j=>?_
 rw [List.getElem?_set]
 split
 ·rename_i e
  subst e
  have hl:=(List.getElem?_eq_some_iff.mp h).1
  rw [List.length_map,if_pos hl,List.getElem?_map,h]
  rfl
 ·rfl
theorem joe {α:Type} {l:List α} {i:Nat} {x y:α} (h:y ∈ l.set i x):y = x ∨ y ∈ l:=(List.mem_or_eq_of_mem_set h).symm
theorem jkn:∀ {ps:List (Int × Int)} {i:Nat} {q:Int × Int},(∀ p ∈ ps,1 ≤ p.2)→0 ≤ q.2→sumP (ps.set i q) ≤ sumP ps + q.2
 | [],_,_,_,h=>by show (0:Int) ≤ 0 + _; omega
 | p :: r,0,q,h,h2=>by
  rw [List.set_cons_zero,jaw,jaw]
  have:=h p (List.mem_cons_self ..)
  omega
 | p :: r,i + 1,q,h,h2=>by
  rw [List.set_cons_succ,jaw,jaw]
  have:=jkn (ps:=r) (i:=i) (q:=q) (fun z hz=>h z (List.mem_cons_of_mem _ hz)) h2
  omega
theorem jfa {α β:Type} {F:α→β→Prop}:∀ {a:List α} {b:List β} {i:Nat} {x:α} {y:β},Paired F a b→F x y→Paired F (a.set i x) (b.set i y)
 | _,_,_,_,_,.nil,_=>.nil
 | _,_,0,_,_,.cons r t,h=>.cons h t
 | _,_,i + 1,_,_,.cons r t,h=>.cons r (jfa t h)
theorem jp5 {ns:List Int} {k:Int} (h0:0 ≤ k) (h1:k < ns.length):∃ n,atI (ns.map V.int) k = some (.int n)∧n ∈ ns:=by
 obtain ⟨i,rfl⟩:∃ i:Nat,k = (i:Int):=⟨k.toNat,by omega⟩
 have hi:i < ns.length:=by omega
 refine ⟨ns[i],jc3 ?_,List.getElem_mem hi⟩
 rw [List.getElem?_map,List.getElem?_eq_getElem hi]
 rfl
def jni:Sp:=fun vs H Q _=>∃ st o v ps ts S,vs = [.ref st,v]∧H st = some o∧StO o∧jb9 H v ps ts∧WebOk ps ts∧sumP ps ≤ S∧2 * S + 2 ≤ 1000000000000 ∧
 ∀ v' H' o' ps',But st H H'→H' st = some o'→StO o'→jb9 H' v' ps' ts→WebOk ps' ts→ps'.length = ps.length→ps'.map (·.1) = ps.map (·.1)→sumP ps' ≤ 2 * S + 2→Q v' H'
theorem jif {f:Addr} {fd:FuncData} {f_law_take:Addr} {d_law_take:FuncData} (B:Blt mg) (D:DefAt K mg "_law_bent" (top 37) ["_law_state","_law_web_here"] f fd) (D_law_take:DefAt K mg "_law_take" (top 34) ["_law_state","_law_many"] f_law_take d_law_take) (G_law_take:FnOk P w K mg base CX0 1 f_law_take d_law_take ["_law_state","_law_many"] jd5):FnOk P w K mg base CX0 2 f fd ["_law_state","_law_web_here"] jni:=by
 have sc:FnScope ["_law_state","_law_web_here","_law_places_here","_law_at","_law_place","_law_price","_law_some","_law_way"] ["_law_state","_law_web_here"] (jac (top 37)):=⟨rfl,rfl,rfl,by decide +kernel,rfl,by decide +kernel,by decide +kernel⟩
 refine D.F.ok sc (fun vs H Q E h=>?_) (fun cdv A outer s H vs Q E hr h=>?_)
 ·obtain ⟨st,o,v,ps,ts,S,rfl,_⟩:=h
  rfl
 obtain ⟨st,o,v,ps,ts,S,rfl,es,so,hw,wok,hS,hS2,h⟩:=h
 obtain ⟨u,pa,ta,xs,ys,rfl,eu,ep,et,pp,pt⟩:=id hw
 have hlx:xs.length = ps.length:=Paired.length pp
 have okl:=wok.pl
 have pos:=wok.p.pos
 have pos1:∀ p ∈ ps,1 ≤ p.2:=fun p hp=>(pos p hp).1
 have nn:=je2 pos1
 have hnd:=wok.p.nodup
 have hu:=jba hr
 have hu0:_ < PySem.cLine:=Nat.lt_of_succ_lt hu
 refine ⟨_,(ja5 (jaj (i:=2) sc.nd rfl (Or.inl rfl) (jbt jd7 rfl B.list PyProof.Rows.boot_list (ja0 (jah q_ix (qv 1) ja4 (fun _ _=>rfl)) ja2))) (ja5 (jbf (jat (jj6 hr.units) (qv 2) (jb8 ja2) (jap _)) (ja7 (jak (qv 1))) jao) (ja5 (jaj (i:=3) sc.nd rfl (Or.inl rfl) (ja9 G_law_take (hr.mono (by decide)) rfl D_law_take.m D_law_take.F.kp D_law_take.b .nil jai (ja0 (qv 0) (ja0 (jab jdr rfl B.len PySem.boot_len (ja0 (qv 2) ja2)) ja2)))) (ja5 (jf8 (jah q_ix (qv 2) (qv 3) (fun _ _=>rfl)) (jbi (n:=2) rfl (jaf (jae (i:=4) sc.nd rfl (Or.inr rfl)) (jaf (jae (i:=5) sc.nd rfl (Or.inl rfl)) jb4)))) (ja5 (jd2 (i:=6) sc.nd rfl (Or.inl rfl) (CpScope.of (N:=["_law_one","_law_cost","_law_place","_law_web_here"]) (src:=[none,none,some 4,some 1]) (by rfl)) rfl (jaz (qv 2)) (fun _ _ _ _=>(jbi (n:=2) rfl (jaf (jae (i:=0) (jad (l:=["_law_one","_law_cost","_law_place","_law_web_here"]) (by rfl)) rfl (Or.inl rfl)) (jaf (jae (i:=1) (jad (l:=["_law_one","_law_cost","_law_place","_law_web_here"]) (by rfl)) rfl (Or.inl rfl)) jb4)))) (fun _ _ _ _=>(je8 (PW.pt (jd1 (jat (jj5 hr.units) (jay (ja0 (qv 0) (ja0 (qv 2) ja2))) (jah q_ix (qv 3) ja4 (fun _ _=>rfl)) (by with_unfolding_all rfl)) (jcn (jat (jj5 hr.units) (jay (ja0 (qv 2) (ja0 (qv 0) ja2))) (jah q_ix (qv 3) ja4 (fun _ _=>rfl)) (by with_unfolding_all rfl))))))) (fun _ _ _ _=>(qv 1))) (ja5 (jaj (i:=7) sc.nd rfl (Or.inl rfl) (ja9 G_law_take (hr.mono (by decide)) rfl D_law_take.m D_law_take.F.kp D_law_take.b .nil jai (ja0 (qv 0) (ja0 ja4 ja2)))) (ja5 (jbf (PW.pt (jf7 (jat (jco hr.units) (qv 6) (jb8 ja2) (jap _)) (jdj (jat q_eq (qv 7) ja4 (jap _))))) (ja7 (jaj (i:=5) sc.nd rfl (Or.inl rfl) (jau jgx (jau jcf (jab (q_sum rfl) rfl B.sum PyProof.Rows.boot_sum (ja0 (qv 6) ja2)) (ja9 G_law_take (hr.mono (by decide)) rfl D_law_take.m D_law_take.F.kp D_law_take.b .nil jai (ja0 (qv 0) (ja0 ja4 ja2)))) ja4))) jao) (ja5 (jbf (PW.pt (jf7 (jat (jco hr.units) (qv 6) (jb8 ja2) (jap _)) (jdj (jat q_eq (qv 7) ja4 (jap _))))) (ja7 (jaj (i:=5) sc.nd rfl (Or.inl rfl) (jau jgx (jau jcf (jau jgx (jab (q_sum rfl) rfl B.sum PyProof.Rows.boot_sum (ja0 (qv 6) ja2)) (jab (jlv rfl) rfl B.min PyProof.Rows.boot_min (ja0 (qv 6) ja2))) (ja9 G_law_take (hr.mono (by decide)) rfl D_law_take.m D_law_take.F.kp D_law_take.b .nil jai (ja0 (qv 0) (ja0 ja4 ja2)))) ja4))) jao) (ja5 (jbf (PW.pt (jf7 (jat (jco hr.units) (qv 6) (jb8 ja2) (jap _)) (jdj (jat q_eq (qv 7) ja4 (jap _))))) (ja7 (jaj (i:=5) sc.nd rfl (Or.inl rfl) (jau jgx (jau jcf (jah q_ix (qv 6) (ja9 G_law_take (hr.mono (by decide)) rfl D_law_take.m D_law_take.F.kp D_law_take.b .nil jai (ja0 (qv 0) (ja0 (jab jdr rfl B.len PySem.boot_len (ja0 (qv 6) ja2)) ja2))) (fun _ _=>rfl)) (ja9 G_law_take (hr.mono (by decide)) rfl D_law_take.m D_law_take.F.kp D_law_take.b .nil jai (ja0 (qv 0) (ja0 ja4 ja2)))) ja4))) jao) (ja5 (jf8 (jay (ja0 (qv 4) (ja0 (jab (jmi rfl) rfl B.max PyProof.Rows.boot_max (ja0 ja4 (ja0 (qv 5) ja2))) ja2))) (jh3 (qv 2) (qv 3) jgy)) (ja7 (jak (jay (ja0 (qv 2) (ja0 (jah q_ix (qv 1) ja4 (fun _ _=>rfl)) ja2))))))))))))))),?_⟩
 refine ja8 fun R hR=>?_
 simp_arith [jam,eu,at0,ep]
 intro l hl
 have s1:=ja3 hl (.lst xs)
 have el:upd H l (.lst xs) l = some (.lst xs):=ja1
 generalize upd H l (.lst xs) = H1 at s1 el
 have nl:l ≠ st:=(ja6 es hl).symm
 have hw1:=hw.same s1
 have pp1:=Prs.same s1 pp
 have es1:=s1 _ _ es
 have et1:=s1 _ _ et
 have eu1:=s1 _ _ eu
 have pt1:=Prs.same s1 pt
 walk_at "RD"
 subst hR
 refine ja8 fun R hR=>?_
 walk_at "RD"
 intro e0 he0
 have s2:=ja3 he0 (.lst [])
 have ee0:upd H1 e0 (.lst []) e0 = some (.lst []):=ja1
 generalize upd H1 e0 (.lst []) = H2 at s2 ee0
 have el2:=s2 _ _ el
 have pp2:=Prs.same s2 pp1
 refine ⟨_,_,ji8 el2 pp2,jck ee0,jir ps,.inl ⟨_,_,rfl,rfl⟩,?_⟩
 rw [jjh]
 have s02:=s1.trans s2
 by_cases c0:ps = []
 ·rw [decide_eq_true c0]
  walk_at "RD"
  exact h _ _ o ps (fun b u nb q=>s02 _ _ q) (s02 _ _ es) so (hw.same s02) wok rfl rfl (by omega)
 rw [decide_eq_false c0]
 simp only [Bool.false_eq_true,if_false]
 walk_at "RD"
 subst hR
 have hpl:0 < ps.length:=List.length_pos_iff.mpr c0
 refine ja8 fun R hR=>?_
 simp_arith [jam,el2]
 refine ⟨st,o,(xs.length:Int),rfl,s02 _ _ es,so,by omega,by omega,fun k o3 k0 k1 so3=>?_⟩
 have b3:But st H (upd H2 st o3):=fun b u nb q=>by rw [jaa nb]; exact s02 _ _ q
 have b23:But st H2 (upd H2 st o3):=But.at st H2 o3
 have e3:upd H2 st o3 st = some o3:=ja1
 have es2:=s02 _ _ es
 generalize upd H2 st o3 = H3 at b3 b23 e3
 have el3:=b23 _ _ nl el2
 have pp3:Prs H3 xs ps:=Prs.tups (b23.tups es2 so.imm) pp2
 have hw3:=hw.but es so b3
 obtain ⟨i,hi⟩:∃ i:Nat,(i:Int) = k:=⟨k.toNat,by omega⟩
 have hil:i < ps.length:=by omega
 have hpi:ps[i]? = some ps[i]:=List.getElem?_eq_getElem hil
 generalize ps[i] = p at hpi
 have hpm:p ∈ ps:=List.mem_of_getElem? hpi
 obtain ⟨ux,gx,hgx⟩:=jb5 pp3 hpi
 obtain ⟨tx,rfl,htx⟩:=id hgx
 have ak:atI xs k = some (.ref tx):=by rw [← hi]; exact jc3 gx
 walk_at "RD"
 subst hR
 refine ja8 fun R hR=>?_
 simp_arith [jam,el3,ak,htx]
 subst hR
 clear s1 s2 hw1 pp1 es1 et1 eu1 pt1 pp2 el2 el ee0 b23
 obtain ⟨u',pa',ta',xs',ys',eq0,eu3,ep3,et3,ppx,pt3⟩:=id hw3
 cases eq0
 refine ja8 fun R hR=>?_
 refine jan (Itl K l) H3 (fun R' hR'=>?_) (fun z hz=>jav ps.length (fun j σ' Hc=>∃ w1 w2,σ' = [w1,w2,some (.int p.1),some (.ref u)]∧Same H3 Hc∧∃ zs:List Int,Hc z = some (.lst (zs.map V.int))∧zs.Sublist ((ps.take j).map (·.2))) ⟨none,none,rfl,ja3 hz _,[],ja1,List.Sublist.refl _⟩ ?_ ?_)
 ·unfold jc1
  walk_at "RD"
  exact ⟨l,rfl,⟨_,SqL.of el3⟩,hR'⟩
 ·rintro j σ' Hc hj ⟨w1,w2,rfl,s4,zs,ez,sb⟩
  have z1:SqL K Hc l xs:=SqL.of (s4 _ _ el3)
  have x1:xs[j]? = some (xs[j]'(by omega)):=List.getElem?_eq_getElem _
  refine ⟨⟨_,_,z1,x1⟩,?_⟩
  rintro y H' ⟨rfl,hy⟩
  obtain ⟨q,hq,pq⟩:=jag pp3 (hy _ z1)
  obtain ⟨t,rfl,ht⟩:=pq.same s4
  have hzl:zs.length ≤ 40:=by
   have:=sb.length_le
   rw [List.length_map,List.length_take] at this
   omega
  simp_arith [ht]
  intro t1 ht1
  have s5:=s4.trans (ja3 ht1 (.tup [.int q.1,.int p.1]))
  have et1:upd H' t1 (.tup [.int q.1,.int p.1]) t1 = some (.tup [.int q.1,.int p.1]):=ja1
  have ez5:=ja3 ht1 (.tup [.int q.1,.int p.1]) _ _ ez
  generalize upd H' t1 (.tup [.int q.1,.int p.1]) = H5 at s5 et1 ez5
  simp_arith [jam,s5 _ _ eu3,at1]
  refine ⟨jda (q.1,p.1),ta',ys',ts.map jda,(Pr.rep (p:=(q.1,p.1)) ⟨t1,rfl,et1⟩),rfl,s5 _ _ et3,Prs.reps (Prs.same s5 pt3),by have:=jb6 ts; omega,?_⟩
  have app:∀ H6,Same H3 H6→H6 z = some (.lst (zs.map V.int))→∃ xs,H6 z = some (.lst xs)∧xs.length < sizeLine∧∃ w1 w2,([some (.int q.1),some (.int q.2),some (.int p.1),some (.ref u)]:St) = [w1,w2,some (.int p.1),some (.ref u)]∧Same H3 (upd H6 z (.lst (xs ++ [.int q.2])))∧∃ zs:List Int,upd H6 z (.lst (xs ++ [.int q.2])) z = some (.lst (zs.map V.int))∧zs.Sublist ((ps.take (j + 1)).map (·.2)):=fun H6 s6 ez6=>by
   refine ⟨_,ez6,by rw [List.length_map]; exact szl' (by omega),_,_,rfl,jar s6 hz,zs ++ [q.2],?_,?_⟩
   ·rw [ja1,List.map_append]
    rfl
   ·rw [jaq hq,List.map_append]
    exact sb.append (List.Sublist.refl _)
  have noapp:∀ H6,Same H3 H6→H6 z = some (.lst (zs.map V.int))→∃ w1 w2,([some (.int q.1),some (.int q.2),some (.int p.1),some (.ref u)]:St) = [w1,w2,some (.int p.1),some (.ref u)]∧Same H3 H6∧∃ zs:List Int,H6 z = some (.lst (zs.map V.int))∧zs.Sublist ((ps.take (j + 1)).map (·.2)):=fun H6 s6 ez6=>by
   refine ⟨_,_,rfl,s6,zs,ez6,?_⟩
   rw [jaq hq,List.map_append]
   exact sb.trans (List.sublist_append_left _ _)
  simp only [Bool.false_eq_true,if_false]
  refine ite2 (fun _=>?_) (fun _=>?_)
  ·exact app _ s5 ez5
  ·intro t2 ht2
   have s6:=s5.trans (ja3 ht2 (.tup [.int p.1,.int q.1]))
   have et2:upd H5 t2 (.tup [.int p.1,.int q.1]) t2 = some (.tup [.int p.1,.int q.1]):=ja1
   have ez6:=ja3 ht2 (.tup [.int p.1,.int q.1]) _ _ ez5
   generalize upd H5 t2 (.tup [.int p.1,.int q.1]) = H6 at s6 et2 ez6
   simp only [jam,s6 _ _ eu3,at1]
   refine ⟨jda (p.1,q.1),ta',ys',ts.map jda,(Pr.rep (p:=(p.1,q.1)) ⟨t2,rfl,et2⟩),rfl,s6 _ _ et3,Prs.reps (Prs.same s6 pt3),by have:=jb6 ts; omega,?_⟩
   simp only [Bool.false_eq_true,if_false]
   refine ite2 (fun _=>?_) (fun _=>?_)
   ·exact app _ s6 ez6
   ·exact noapp _ s6 ez6
 rintro σ' H4 ⟨w1,w2,rfl,s4,zs,ez,sb⟩
 refine ⟨⟨_,SqL.of (s4 _ _ el3),by omega⟩,?_⟩
 rw [List.take_length] at sb
 have hsb:=jdh sb fun y hy=>by
  obtain ⟨q,hq,rfl⟩:=List.mem_map.mp hy
  exact pos1 q hq
 have hsb1:zs.sum ≤ sumP ps:=hsb.2.1
 have hzl:zs.length ≤ 40:=by
  have:=sb.length_le
  rw [List.length_map] at this
  omega
 have nz:z ≠ st:=(ja6 e3 hz).symm
 have b4:But st H H4:=fun b u nb q=>s4 _ _ (b3 _ _ nb q)
 have e4:=s4 _ _ e3
 have el4:=s4 _ _ el3
 walk_at "RD"
 subst hR
 refine ja8 fun R hR=>?_
 walk_at "RD"
 refine ⟨st,o3,4,rfl,e4,so3,by decide,by decide,fun way o5 w0 w1 so5=>?_⟩
 have b5:=b4.trans (But.at st H4 o5)
 have e5:upd H4 st o5 st = some o5:=ja1
 have el5:=But.at st H4 o5 _ _ nl el4
 have ez5:=But.at st H4 o5 _ _ nz ez
 generalize upd H4 st o5 = H5 at b5 e5 el5 ez5
 clear b4 e4 el4 ez s4 hw3 pp3 el3 e3 b3 ppx pt3 et3 ep3 eu3 htx hgx
 have hpS:p.2 ≤ S:=by
  have:p.2 ≤ sumP ps:=by
   have:=(jdh (List.Sublist.refl (ps.map (·.2))) fun y hy=>by
    obtain ⟨q,hq,rfl⟩:=List.mem_map.mp hy
    exact pos1 q hq).2.2 p.2 (List.mem_map_of_mem hpm)
   exact this.2
  omega
 walk_at "RD"
 subst hR
 refine ja8 fun R1 hR1=>?_
 have F1:∀ x H5 o5,But st H H5→H5 st = some o5→StO o5→H5 l = some (.lst xs)→H5 z = some (.lst (zs.map V.int))→x ≤ S + 2→R1 { nx:=fun _ H'=>Q .non H',rt:=Q } [some (.ref st),some (.ref u),some (.ref l),some (.int k),some (.int p.1),some (.int x),some (.ref z),some (.int way)] H5:=by
  intro x H5 o5 b5 e5 so5 el5 ez5 hx
  subst hR1
  refine ja8 fun R2 hR2=>?_
  have F2:∀ x H5 o5,But st H H5→H5 st = some o5→StO o5→H5 l = some (.lst xs)→H5 z = some (.lst (zs.map V.int))→x ≤ S + 2→R2 { nx:=fun _ H'=>Q .non H',rt:=Q } [some (.ref st),some (.ref u),some (.ref l),some (.int k),some (.int p.1),some (.int x),some (.ref z),some (.int way)] H5:=by
   intro x H5 o5 b5 e5 so5 el5 ez5 hx
   subst hR2
   refine ja8 fun R3 hR3=>?_
   have F3:∀ x H5 o5,But st H H5→H5 st = some o5→StO o5→H5 l = some (.lst xs)→H5 z = some (.lst (zs.map V.int))→x ≤ S + 2→R3 { nx:=fun _ H'=>Q .non H',rt:=Q } [some (.ref st),some (.ref u),some (.ref l),some (.int k),some (.int p.1),some (.int x),some (.ref z),some (.int way)] H5:=by
    intro x H5 o5 b5 e5 so5 el5 ez5 hx
    subst hR3
    refine ja8 fun R hR=>?_
    walk_at "RD"
    intro tn htn
    have t8:=ja3 htn (.tup [.int p.1,.int (if x > 1 then x else 1)])
    have etn:upd H5 tn (.tup [.int p.1,.int (if x > 1 then x else 1)]) tn = some (.tup [.int p.1,.int (if x > 1 then x else 1)]):=ja1
    generalize upd H5 tn (.tup [.int p.1,.int (if x > 1 then x else 1)]) = H8 at t8 etn
    have b8:But st H H8:=fun b u nb q=>t8 _ _ (b5 _ _ nb q)
    have el8:=t8 _ _ el5
    have e8:=t8 _ _ e5
    have hix:ixN xs.length k = some i:=by
     unfold ixN
     rw [← hi]
     have:i < xs.length:=by omega
     simp [this]
    simp_arith [el8,hix]
    have b9:But st H (upd H8 l (.lst (xs.set i (.ref tn)))):=fun b u nb q=>by rw [jaa (ja6 q hl)]; exact b8 _ _ nb q
    have e9:upd H8 l (.lst (xs.set i (.ref tn))) st = some o5:=by rw [jaa nl.symm]; exact e8
    have el9:upd H8 l (.lst (xs.set i (.ref tn))) l = some (.lst (xs.set i (.ref tn))):=ja1
    have etn9:upd H8 l (.lst (xs.set i (.ref tn))) tn = some (.tup [.int p.1,.int (if x > 1 then x else 1)]):=by rw [jaa fun z=>by rw [z,el8] at etn; cases etn]; exact etn
    generalize upd H8 l (.lst (xs.set i (.ref tn))) = H9 at b9 e9 el9 etn9
    have hw9:=hw.but es so b9
    obtain ⟨u9,pa9,ta9,xs9,ys9,eq9,eu9,ep9,et9,pp9,pt9⟩:=id hw9
    cases eq9
    subst hR
    simp_arith [jam,eu9,at1]
    intro wv hwv
    have s9:=ja3 hwv (.tup [.ref l,.ref ta9])
    have pp9:Prs H9 xs ps:=Prs.tups (b9.tups es so.imm) pp
    generalize hy:(if x > 1 then x else 1) = y at etn9
    have hy1:1 ≤ y∧y ≤ S + 2:=by rw [← hy]; split <;> omega
    have pset:Prs H9 (xs.set i (.ref tn)) (ps.set i (p.1,y)):=jfa pp9 ⟨tn,rfl,etn9⟩
    have hk:=jmd (x:=y) hpi
    have hps:∀ q ∈ ps.set i (p.1,y),1 ≤ q.2:=fun q hq=>by
     rcases joe hq with e | e
     ·rw [e]; exact hy1.1
     ·exact pos1 q e
    have hsum:=jkn (i:=i) (q:=(p.1,y)) pos1 (by show (0:Int) ≤ y; omega)
    refine h _ _ o5 (ps.set i (p.1,y)) (fun b u nb q=>s9 _ _ (b9 _ _ nb q)) (s9 _ _ e9) so5 ⟨wv,l,ta9,_,ys9,rfl,ja1,s9 _ _ el9,s9 _ _ et9,Prs.same s9 pset,Prs.same s9 pt9⟩ ⟨by rw [List.length_set]; exact wok.pl,wok.p.keys hk hps (by simp only at hsum; omega),wok.tl,TiOk.keys (fun n hn=>by rw [jlj hk]; exact hn) wok.t⟩ (List.length_set ..) hk (by simp only at hsum; omega)
   walk_at "RD"
   intro e3 he3
   have t3:=ja3 he3 (.lst [])
   have ee3:upd H5 e3 (.lst []) e3 = some (.lst []):=ja1
   generalize upd H5 e3 (.lst []) = H6 at t3 ee3
   have b6:But st H H6:=fun b u nb q=>t3 _ _ (b5 _ _ nb q)
   have ez6:=t3 _ _ ez5
   have e6:=t3 _ _ e5
   have el6:=t3 _ _ el5
   refine ⟨_,_,jby ez6,jck ee3,jdf zs,.inl ⟨_,_,rfl,rfl⟩,?_⟩
   rw [jgc]
   by_cases c1:zs = []
   ·rw [decide_eq_true c1]
    simp only [Bool.not_true,Bool.false_eq_true,if_false]
    exact F3 x H6 o5 b6 e6 so5 el6 ez6 hx
   ·rw [decide_eq_false c1]
    simp only [Bool.not_false,if_true]
    refine ite2 (fun _=>?_) (fun _=>F3 x H6 o5 b6 e6 so5 el6 ez6 hx)
    have hzp:0 < zs.length:=List.length_pos_iff.mpr c1
    simp only [jam,ez6,List.length_map]
    refine ⟨st,o5,(zs.length:Int),rfl,e6,so5,by omega,by omega,fun g oA g0 g1 soA=>?_⟩
    have bA:=b6.trans (But.at st H6 oA)
    have eA:upd H6 st oA st = some oA:=ja1
    have elA:=But.at st H6 oA _ _ nl el6
    have ezA:=But.at st H6 oA _ _ nz ez6
    generalize upd H6 st oA = HA at bA eA elA ezA
    obtain ⟨n,hn1,hn2⟩:=jp5 (ns:=zs) g0 g1
    have hn3:=(hsb.2.2 n hn2)
    simp only [ezA,hn1]
    refine ⟨st,oA,3,rfl,eA,soA,by decide,by decide,fun d o7 d0 d1 so7=>?_⟩
    have b7:=bA.trans (But.at st HA o7)
    have e7:upd HA st o7 st = some o7:=ja1
    have el7:=But.at st HA o7 _ _ nl elA
    have ez7:=But.at st HA o7 _ _ nz ezA
    generalize upd HA st o7 = H7 at b7 e7 el7 ez7
    exact F3 _ H7 o7 b7 e7 so7 el7 ez7 (by omega)
  walk_at "RD"
  intro e2 he2
  have t2:=ja3 he2 (.lst [])
  have ee2:upd H5 e2 (.lst []) e2 = some (.lst []):=ja1
  generalize upd H5 e2 (.lst []) = H6 at t2 ee2
  have b6:But st H H6:=fun b u nb q=>t2 _ _ (b5 _ _ nb q)
  have ez6:=t2 _ _ ez5
  have e6:=t2 _ _ e5
  have el6:=t2 _ _ el5
  refine ⟨_,_,jby ez6,jck ee2,jdf zs,.inl ⟨_,_,rfl,rfl⟩,?_⟩
  rw [jgc]
  by_cases c1:zs = []
  ·rw [decide_eq_true c1]
   simp only [Bool.not_true,Bool.false_eq_true,if_false]
   exact F2 x H6 o5 b6 e6 so5 el6 ez6 hx
  ·rw [decide_eq_false c1]
   simp only [Bool.not_false,if_true]
   refine ite2 (fun _=>?_) (fun _=>F2 x H6 o5 b6 e6 so5 el6 ez6 hx)
   refine ⟨z,zs,rfl,ez6,?_⟩
   refine ⟨z,zs,rfl,ez6,c1,fun m hm1 hm2=>?_⟩
   have hm3:=(hsb.2.2 m hm1)
   refine ⟨st,o5,3,rfl,e6,so5,by decide,by decide,fun d o7 d0 d1 so7=>?_⟩
   have b7:=b6.trans (But.at st H6 o7)
   have e7:upd H6 st o7 st = some o7:=ja1
   have el7:=But.at st H6 o7 _ _ nl el6
   have ez7:=But.at st H6 o7 _ _ nz ez6
   generalize upd H6 st o7 = H7 at b7 e7 el7 ez7
   exact F2 _ H7 o7 b7 e7 so7 el7 ez7 (by omega)
 obtain ⟨x,hxx,hx⟩:∃ x,x = p.2∧x ≤ S + 2:=⟨_,rfl,by omega⟩
 rw [← hxx]
 walk_at "RD"
 intro e1 he1
 have t1:=ja3 he1 (.lst [])
 have ee1:upd H5 e1 (.lst []) e1 = some (.lst []):=ja1
 generalize upd H5 e1 (.lst []) = H6 at t1 ee1
 have b6:But st H H6:=fun b u nb q=>t1 _ _ (b5 _ _ nb q)
 have ez6:=t1 _ _ ez5
 have e6:=t1 _ _ e5
 have el6:=t1 _ _ el5
 refine ⟨_,_,jby ez6,jck ee1,jdf zs,.inl ⟨_,_,rfl,rfl⟩,?_⟩
 rw [jgc]
 by_cases c1:zs = []
 ·rw [decide_eq_true c1]
  simp only [Bool.not_true,Bool.false_eq_true,if_false]
  exact F1 x H6 o5 b6 e6 so5 el6 ez6 hx
 ·rw [decide_eq_false c1]
  simp only [Bool.not_false,if_true]
  refine ite2 (fun _=>?_) (fun _=>F1 x H6 o5 b6 e6 so5 el6 ez6 hx)
  refine ⟨z,zs,rfl,ez6,?_⟩
  refine ⟨st,o5,3,rfl,e6,so5,by decide,by decide,fun d o7 d0 d1 so7=>?_⟩
  have b7:=b6.trans (But.at st H6 o7)
  have e7:upd H6 st o7 st = some o7:=ja1
  have el7:=But.at st H6 o7 _ _ nl el6
  have ez7:=But.at st H6 o7 _ _ nz ez6
  generalize upd H6 st o7 = H7 at b7 e7 el7 ez7
  exact F1 _ H7 o7 b7 e7 so7 el7 ez7 (by omega)
end
end My
namespace My
open PySem L2
section
variable {P:Program} {w:World} {K:PySem.W.Frag} {mg:Str→Option Value} {base:Heap} {c1 c2 c3 c4:Tok} {C_NoWeb f_NoWeb:Addr} {dI:FuncData}
theorem TiOk.of {kvs:List (Key × V)}:∀ {qs:List (Int × Int)} {q:Int × Int},(∀ t ∈ qs,q.1 < t.1 ∨ (q.1 = t.1∧q.2 < t.2))→qs.Pairwise lexLe→qs.Nodup→(∀ t ∈ qs,t.1 < t.2∧hasK kvs t.1 = true∧hasK kvs t.2 = true)→TiOk kvs q qs
 | [],_,_,_,_,_=>trivial
 | p :: r,q,h1,h2,h3,h4=>by
  rw [List.pairwise_cons] at h2
  rw [List.nodup_cons] at h3
  refine ⟨⟨?_,h4 p (.head _)⟩,TiOk.of (fun t m=>?_) h2.2 h3.2 fun t m=>h4 t (.tail _ m)⟩
  ·rcases h1 p (.head _) with c | ⟨c,d⟩
   ·exact jnp c
   ·rw [c]; exact jnq d
  ·have z:=h2.1 t m
   unfold lexLe at z
   by_cases c:p.1 = t.1
   ·have ne:p.2 ≠ t.2:=fun d=>h3.1 (by rw [show p = t from Prod.ext c d]; exact m)
    omega
   ·omega
theorem jmt {a b c d:Int} (h:HT.lexLt [a,b] [c,d] = true):a < c ∨ (a = c∧b < d):=by
 rw [HT.lexLt_cons] at h
 by_cases e:a = c
 ·rw [if_pos e,HT.lexLt_cons] at h
  by_cases e2:b = d
  ·rw [if_pos e2] at h
   cases h
  ·rw [if_neg e2] at h
   exact .inr ⟨e,of_decide_eq_true h⟩
 ·rw [if_neg e] at h
  exact .inl (of_decide_eq_true h)
theorem TiOk.gt {kvs:List (Key × V)}:∀ {ts:List (Int × Int)} {q:Int × Int},TiOk kvs q ts→∀ t ∈ ts,q.1 < t.1 ∨ (q.1 = t.1∧q.2 < t.2)
 | p :: r,q,⟨h,u⟩,t,m=>by
  have:=jmt h.1
  rcases List.mem_cons.mp m with rfl | m
  ·exact this
  ·have:=TiOk.gt u t m
   omega
theorem TiOk.nodup {kvs:List (Key × V)}:∀ {ts:List (Int × Int)} {q:Int × Int},TiOk kvs q ts→ts.Nodup
 | [],_,_=>List.nodup_nil
 | p :: r,q,⟨h,u⟩=>List.nodup_cons.mpr ⟨fun m=>by have:=TiOk.gt u p m; omega,TiOk.nodup u⟩
theorem PlOk.snoc:∀ {ps:List (Int × Int)} {l s:Int} {q:Int × Int},PlOk l s ps→(∀ p ∈ ps,p.1 < q.1)→l < q.1→q.1 ≤ 999→1 ≤ q.2→q.2 ≤ 1000000000000 - (s + sumP ps)→PlOk l s (ps ++ [q])
 | [],l,s,q,_,_,h1,h2,h3,h4=>⟨⟨h1,h2,h3,by have:sumP [] = 0:=rfl; omega⟩,trivial⟩
 | p :: r,l,s,q,h,h0,h1,h2,h3,h4=>by
  rw [jaw] at h4
  exact ⟨h.1,PlOk.snoc h.2 (fun z hz=>h0 z (List.mem_cons_of_mem _ hz)) (h0 p (List.mem_cons_self ..)) h2 h3 (by omega)⟩
theorem Dr.le:∀ {ps:List (Int × Int)} {l:Int},Dr l ps→(∀ p ∈ ps,p.1 ≤ l + 23 * ps.length)∧sumP ps ≤ 1000000000 * ps.length
 | [],_,_=>⟨fun _ h=>(by cases h),by decide⟩
 | q :: r,l,h=>by
  obtain ⟨h1,h2⟩:=Dr.le h.2
  have e:((q :: r).length:Int) = r.length + 1:=by simp
  rw [e,jaw]
  have:=h.1
  refine ⟨fun p hp=>?_,by omega⟩
  rcases List.mem_cons.mp hp with z | hp
  ·rw [z]; omega
  ·have:=h1 p hp
   omega
theorem jfb {α β:Type} {F:α→β→Prop}:∀ {a:List α} {b:List β} {c:List α} {d:List β},Paired F a b→Paired F c d→Paired F (a ++ c) (b ++ d)
 | _,_,_,_,.nil,h=>h
 | _,_,_,_,.cons r t,h=>.cons r (jfb t h)
def jnd:Sp:=fun vs H Q _=>∃ st o v ps ts,vs = [.ref st,v]∧H st = some o∧StO o∧jb9 H v ps ts∧WebOk ps ts∧Dr (-1) ps∧ps.length ≤ 8∧ts.length ≤ 88 ∧
 ∀ v' H' o' ps' ts',But st H H'→H' st = some o'→StO o'→jb9 H' v' ps' ts'→WebOk ps' ts'→ps'.length ≤ ps.length + 1→sumP ps' ≤ 9000000000→Q v' H'
theorem jeu {f:Addr} {fd:FuncData} {f_law_take:Addr} {d_law_take:FuncData} (B:Blt mg) (D:DefAt K mg "_law_twinned" (top 38) ["_law_state","_law_web_here"] f fd) (D_law_take:DefAt K mg "_law_take" (top 34) ["_law_state","_law_many"] f_law_take d_law_take) (G_law_take:FnOk P w K mg base CX0 1 f_law_take d_law_take ["_law_state","_law_many"] jd5):FnOk P w K mg base CX0 2 f fd ["_law_state","_law_web_here"] jnd:=by
 have sc:FnScope ["_law_state","_law_web_here","_law_places_here","_law_place","_law_fresh","_law_some","_law_price"] ["_law_state","_law_web_here"] (jac (top 38)):=⟨rfl,rfl,rfl,by decide +kernel,rfl,by decide +kernel,by decide +kernel⟩
 refine D.F.ok sc (fun vs H Q E h=>?_) (fun cdv A outer s H vs Q E hr h=>?_)
 ·obtain ⟨st,o,v,ps,ts,rfl,_⟩:=h
  rfl
 obtain ⟨st,o,v,ps,ts,rfl,es,so,hw,wok,dr,hl8,ht88,h⟩:=h
 obtain ⟨u,pa,ta,xs,ys,rfl,eu,ep,et,pp,pt⟩:=id hw
 have hlx:xs.length = ps.length:=Paired.length pp
 have hly:ys.length = ts.length:=Paired.length pt
 obtain ⟨drl,drs⟩:=dr.le
 have pos:=wok.p.pos
 have pos1:∀ p ∈ ps,1 ≤ p.2:=fun p hp=>(pos p hp).1
 have nn:=je2 pos1
 have hnd:=wok.p.nodup
 have nps:pa ≠ st:=jih ep pp es so
 have nts:ta ≠ st:=jih et pt es so
 have hu:=jba hr
 have hu0:_ < PySem.cLine:=Nat.lt_of_succ_lt hu
 refine ⟨_,(ja5 (jaj (i:=2) sc.nd rfl (Or.inl rfl) (jah q_ix (qv 1) ja4 (fun _ _=>rfl))) (ja5 (jbf (PW.pt (jd1 (jat (jj6 hr.units) (qv 2) (jb8 ja2) (jap _)) (jcn (jat q_gt (ja9 G_law_take (hr.mono (by decide)) rfl D_law_take.m D_law_take.F.kp D_law_take.b .nil jai (ja0 (qv 0) (ja0 ja4 ja2))) ja4 (jap _))))) (ja7 (jak (qv 1))) jao) (ja5 (jaj (i:=3) sc.nd rfl (Or.inr rfl) (jah q_ix (jah q_ix (qv 2) (ja9 G_law_take (hr.mono (by decide)) rfl D_law_take.m D_law_take.F.kp D_law_take.b .nil jai (ja0 (qv 0) (ja0 (jab jdr rfl B.len PySem.boot_len (ja0 (qv 2) ja2)) ja2))) (fun _ _=>rfl)) ja4 (fun _ _=>rfl))) (ja5 (jaj (i:=4) sc.nd rfl (Or.inr rfl) (jau jcf (jau jcf (jah q_ix (jah q_ix (qv 2) (jky jks ja4) (fun _ _=>rfl)) ja4 (fun _ _=>rfl)) ja4) (ja9 G_law_take (hr.mono (by decide)) rfl D_law_take.m D_law_take.F.kp D_law_take.b .nil jai (ja0 (qv 0) (ja0 ja4 ja2))))) (ja5 (jd2 (i:=5) sc.nd rfl (Or.inl rfl) (CpScope.of (N:=["_law_one","_law_cost","_law_place","_law_web_here"]) (src:=[none,none,some 3,some 1]) (by rfl)) rfl (jaz (qv 2)) (fun _ _ _ _=>(jbi (n:=2) rfl (jaf (jae (i:=0) (jad (l:=["_law_one","_law_cost","_law_place","_law_web_here"]) (by rfl)) rfl (Or.inl rfl)) (jaf (jae (i:=1) (jad (l:=["_law_one","_law_cost","_law_place","_law_web_here"]) (by rfl)) rfl (Or.inl rfl)) jb4)))) (fun _ _ _ _=>(je8 (PW.pt (jd1 (jat (jj5 hr.units) (jay (ja0 (qv 0) (ja0 (qv 2) ja2))) (jah q_ix (qv 3) ja4 (fun _ _=>rfl)) (by with_unfolding_all rfl)) (jcn (jat (jj5 hr.units) (jay (ja0 (qv 2) (ja0 (qv 0) ja2))) (jah q_ix (qv 3) ja4 (fun _ _=>rfl)) (by with_unfolding_all rfl))))))) (fun _ _ _ _=>(qv 0))) (ja5 (jbf (jat q_eq (ja9 G_law_take (hr.mono (by decide)) rfl D_law_take.m D_law_take.F.kp D_law_take.b .nil jai (ja0 (qv 0) (ja0 ja4 ja2))) ja4 (jap _)) (ja7 (jaj (i:=5) sc.nd rfl (Or.inl rfl) (jmn q_slL (qv 5) (jof ja4) joj))) jao) (ja5 (jaj (i:=6) sc.nd rfl (Or.inl rfl) (jau jcf ja4 (ja9 G_law_take (hr.mono (by decide)) rfl D_law_take.m D_law_take.F.kp D_law_take.b .nil jai (ja0 (qv 0) (ja0 (jah q_ix (jb8 (ja0 ja4 (ja0 (jau jmh ja4 ja4) ja2))) (ja9 G_law_take (hr.mono (by decide)) rfl D_law_take.m D_law_take.F.kp D_law_take.b .nil jai (ja0 (qv 0) (ja0 ja4 ja2))) (fun _ _=>rfl)) ja2))))) (ja7 (jak (jay (ja0 (jau jmk (qv 2) (jb8 (ja0 (jay (ja0 (qv 4) (ja0 (qv 6) ja2))) ja2))) (ja0 (jab jbc rfl B.sorted PyProof.Rows.boot_sorted (ja0 (jau jmk (jah q_ix (qv 1) ja4 (fun _ _=>rfl)) (jbs (CpScope.of (N:=["_law_one","_law_fresh"]) (src:=[none,some 4]) (by rfl)) rfl (jaz (qv 5)) (fun _ _ _ _=>(jae (i:=0) (jad (l:=["_law_one","_law_fresh"]) (by rfl)) rfl (Or.inl rfl))) (fun _ _ _ _=>jbk) (fun _ _ _ _=>(jay (ja0 (qv 0) (ja0 (qv 1) ja2)))))) ja2)) ja2)))))))))))),?_⟩
 refine ja8 fun R hR=>?_
 simp_arith [jam,eu,at0]
 subst hR
 refine ja8 fun R hR=>?_
 walk_at "RD"
 intro e0 he0
 have s2:=ja3 he0 (.lst [])
 have ee0:upd H e0 (.lst []) e0 = some (.lst []):=ja1
 generalize upd H e0 (.lst []) = H2 at s2 ee0
 refine ⟨_,_,ji8 (s2 _ _ ep) (Prs.same s2 pp),jck ee0,jir ps,.inl ⟨_,_,rfl,rfl⟩,?_⟩
 rw [jjh]
 by_cases c0:ps = []
 ·rw [decide_eq_true c0]
  walk_at "RD"
  exact h _ _ o ps ts (fun b u nb q=>s2 _ _ q) (s2 _ _ es) so (hw.same s2) wok (Nat.le_succ _) (by omega)
 rw [decide_eq_false c0]
 simp only [Bool.false_eq_true,if_false]
 have hpl:0 < ps.length:=List.length_pos_iff.mpr c0
 refine ⟨st,o,3,rfl,s2 _ _ es,so,by decide,by decide,fun d1 o3 d10 d11 so3=>?_⟩
 have b3:But st H (upd H2 st o3):=fun b u nb q=>by rw [jaa nb]; exact s2 _ _ q
 have e3:upd H2 st o3 st = some o3:=ja1
 generalize upd H2 st o3 = H3 at b3 e3
 refine ite2 (fun _=>h _ _ o3 ps ts b3 e3 so3 (hw.but es so b3) wok (Nat.le_succ _) (by omega)) (fun _=>?_)
 subst hR
 refine ja8 fun R hR=>?_
 have ep3:=b3 _ _ nps ep
 simp_arith [jam,ep3]
 refine ⟨st,o3,(xs.length:Int),rfl,e3,so3,by omega,by omega,fun k o4 k0 k1 so4=>?_⟩
 have b4:=b3.trans (But.at st H3 o4)
 have e4:upd H3 st o4 st = some o4:=ja1
 generalize upd H3 st o4 = H4 at b4 e4
 clear b3 e3 ep3 so3
 have ep4:=b4 _ _ nps ep
 have pp4:Prs H4 xs ps:=Prs.tups (b4.tups es so.imm) pp
 obtain ⟨i,hi⟩:∃ i:Nat,(i:Int) = k:=⟨k.toNat,by omega⟩
 have hpi:ps[i]? = some ps[i]:=List.getElem?_eq_getElem (by omega)
 obtain ⟨ux,gx,hgx⟩:=jb5 pp4 hpi
 obtain ⟨tx,rfl,htx⟩:=id hgx
 have ak:atI xs k = some (.ref tx):=by rw [← hi]; exact jc3 gx
 simp_arith [jam,ep4,ak,htx,at0]
 generalize ps[i].1 = n0
 subst hR
 clear hpi hgx htx gx ak
 refine ja8 fun R hR=>?_
 have hql:ps[ps.length - 1]? = some (ps[ps.length - 1]'(by omega)):=List.getElem?_eq_getElem _
 generalize ps[ps.length - 1]'(by omega) = lq at hql
 obtain ⟨uq,gq,hgq⟩:=jb5 pp4 hql
 obtain ⟨tq,rfl,htq⟩:=id hgq
 have aq:atI xs (-1) = some (.ref tq):=by
  unfold atI ixN
  rw [if_neg (by decide),if_pos (by omega)]
  show xs[((-1:Int) + (xs.length:Int)).toNat]? = _
  rw [show ((-1:Int) + (xs.length:Int)).toNat = ps.length - 1 by omega]
  exact gq
 have hlq:lq ∈ ps:=List.mem_of_getElem? hql
 have hmax:∀ p ∈ ps,p.1 ≤ lq.1:=fun p hp=>by
  obtain ⟨j,hj⟩:=List.getElem?_of_mem hp
  have hjl:=(List.getElem?_eq_some_iff.mp hj).1
  by_cases c:j < ps.length - 1
  ·exact Int.le_of_lt (wok.p.rise _ _ _ _ c hj hql)
  ·have:j = ps.length - 1:=by omega
   rw [this,hql] at hj
   cases hj
   exact Int.le_refl _
 simp_arith [jam,ep4,aq,htq,at0]
 refine ⟨st,o4,9,rfl,e4,so4,by decide,by decide,fun d2 o5 d20 d21 so5=>?_⟩
 have b5:=b4.trans (But.at st H4 o5)
 have e5:upd H4 st o5 st = some o5:=ja1
 generalize upd H4 st o5 = H3 at b5 e5
 clear b4 e4 ep4 pp4 htq hgq gq
 have hlq1:=drl lq hlq
 have hlq0:=wok.p.gt lq hlq
 obtain ⟨fr,hfr⟩:∃ fr,fr = lq.1 + 1 + d2:=⟨_,rfl⟩
 dsimp only
 rw [← hfr]
 have fr1:∀ p ∈ ps,p.1 < fr:=fun p hp=>by have:=hmax p hp; omega
 have hw3:=hw.but es so b5
 have ep3:=b5 _ _ nps ep
 have et3:=b5 _ _ nts et
 have pp3:Prs H3 xs ps:=Prs.tups (b5.tups es so.imm) pp
 have pt3:Prs H3 ys ts:=Prs.tups (b5.tups es so.imm) pt
 have eu3:H3 u = some (.tup [.ref pa,.ref ta]):=b5.tups es so.imm _ _ rfl eu
 walk_at "RD"
 subst hR
 refine ja8 fun R hR=>?_
 refine jan (Itl K pa) H3 (fun R' hR'=>?_) (fun z hz=>jav ps.length (fun j σ' Hc=>∃ w1 w2,σ' = [w1,w2,some (.int n0),some (.ref u)]∧Same H3 Hc∧∃ zs:List Int,Hc z = some (.lst (zs.map V.int))∧zs.Sublist ((ps.take j).map (·.1))) ⟨none,none,rfl,ja3 hz _,[],ja1,List.Sublist.refl _⟩ ?_ ?_)
 ·unfold jc1
  walk_at "RD"
  exact ⟨pa,rfl,⟨_,SqL.of ep3⟩,hR'⟩
 ·rintro j σ' Hc hj ⟨w1,w2,rfl,s4,zs,ez,sb⟩
  have z1:SqL K Hc pa xs:=SqL.of (s4 _ _ ep3)
  have x1:xs[j]? = some (xs[j]'(by omega)):=List.getElem?_eq_getElem _
  refine ⟨⟨_,_,z1,x1⟩,?_⟩
  rintro y H' ⟨rfl,hy⟩
  obtain ⟨q,hq,pq⟩:=jag pp3 (hy _ z1)
  obtain ⟨t,rfl,ht⟩:=pq.same s4
  have hzl:zs.length ≤ 40:=by
   have:=sb.length_le
   rw [List.length_map,List.length_take] at this
   omega
  simp_arith [ht]
  intro t1 ht1
  have s5:=s4.trans (ja3 ht1 (.tup [.int q.1,.int n0]))
  have et1:upd H' t1 (.tup [.int q.1,.int n0]) t1 = some (.tup [.int q.1,.int n0]):=ja1
  have ez5:=ja3 ht1 (.tup [.int q.1,.int n0]) _ _ ez
  generalize upd H' t1 (.tup [.int q.1,.int n0]) = H5 at s5 et1 ez5
  simp_arith [jam,s5 _ _ eu3,at1]
  refine ⟨jda (q.1,n0),ta,ys,ts.map jda,(Pr.rep (p:=(q.1,n0)) ⟨t1,rfl,et1⟩),rfl,s5 _ _ et3,Prs.reps (Prs.same s5 pt3),by have:=jb6 ts; omega,?_⟩
  have app:∀ H6,Same H3 H6→H6 z = some (.lst (zs.map V.int))→∃ xs,H6 z = some (.lst xs)∧xs.length < sizeLine∧∃ w1 w2,([some (.int q.1),some (.int q.2),some (.int n0),some (.ref u)]:St) = [w1,w2,some (.int n0),some (.ref u)]∧Same H3 (upd H6 z (.lst (xs ++ [.int q.1])))∧∃ zs:List Int,upd H6 z (.lst (xs ++ [.int q.1])) z = some (.lst (zs.map V.int))∧zs.Sublist ((ps.take (j + 1)).map (·.1)):=fun H6 s6 ez6=>by
   refine ⟨_,ez6,by rw [List.length_map]; exact szl' (by omega),_,_,rfl,jar s6 hz,zs ++ [q.1],?_,?_⟩
   ·rw [ja1,List.map_append]
    rfl
   ·rw [jaq hq,List.map_append]
    exact sb.append (List.Sublist.refl _)
  have noapp:∀ H6,Same H3 H6→H6 z = some (.lst (zs.map V.int))→∃ w1 w2,([some (.int q.1),some (.int q.2),some (.int n0),some (.ref u)]:St) = [w1,w2,some (.int n0),some (.ref u)]∧Same H3 H6∧∃ zs:List Int,H6 z = some (.lst (zs.map V.int))∧zs.Sublist ((ps.take (j + 1)).map (·.1)):=fun H6 s6 ez6=>by
   refine ⟨_,_,rfl,s6,zs,ez6,?_⟩
   rw [jaq hq,List.map_append]
   exact sb.trans (List.sublist_append_left _ _)
  simp only [Bool.false_eq_true,if_false]
  refine ite2 (fun _=>?_) (fun _=>?_)
  ·exact app _ s5 ez5
  ·intro t2 ht2
   have s6:=s5.trans (ja3 ht2 (.tup [.int n0,.int q.1]))
   have et2:upd H5 t2 (.tup [.int n0,.int q.1]) t2 = some (.tup [.int n0,.int q.1]):=ja1
   have ez6:=ja3 ht2 (.tup [.int n0,.int q.1]) _ _ ez5
   generalize upd H5 t2 (.tup [.int n0,.int q.1]) = H6 at s6 et2 ez6
   simp only [jam,s6 _ _ eu3,at1]
   refine ⟨jda (n0,q.1),ta,ys,ts.map jda,(Pr.rep (p:=(n0,q.1)) ⟨t2,rfl,et2⟩),rfl,s6 _ _ et3,Prs.reps (Prs.same s6 pt3),by have:=jb6 ts; omega,?_⟩
   simp only [Bool.false_eq_true,if_false]
   refine ite2 (fun _=>?_) (fun _=>?_)
   ·exact app _ s6 ez6
   ·exact noapp _ s6 ez6
 rintro σ' H4 ⟨w1,w2,rfl,s4,zs,ez,sb⟩
 refine ⟨⟨_,SqL.of (s4 _ _ ep3),by omega⟩,?_⟩
 rw [List.take_length] at sb
 have nz:z ≠ st:=(ja6 e5 hz).symm
 have hz0:H z = none:=by
  cases q:H z with
  | none=>rfl
  | some u=>rw [b5 _ _ nz q] at hz; cases hz
 have b4:But st H H4:=fun b u nb q=>s4 _ _ (b5 _ _ nb q)
 have e4:=s4 _ _ e5
 clear s4 hw3 ep3 et3 pp3 pt3 eu3 e5 b5
 walk_at "RD"
 subst hR
 refine ja8 fun R hR=>?_
 walk_at "RD"
 refine ⟨st,o5,4,rfl,e4,so5,by decide,by decide,fun d4 o6 d40 d41 so6=>?_⟩
 have b6:=b4.trans (But.at st H4 o6)
 have e6:upd H4 st o6 st = some o6:=ja1
 have ez6:=But.at st H4 o6 _ _ nz ez
 generalize upd H4 st o6 = H6 at b6 e6 ez6
 clear b4 e4 ez so5
 have F:∀ (z:Addr) (zs:List Int) (H6:Hp),But st H H6→H6 st = some o6→z ≠ st→H6 z = some (.lst (zs.map V.int))→zs.Sublist (ps.map (·.1))→R { nx:=fun _ H'=>Q .non H',rt:=Q } [some (.ref st),some (.ref u),some (.ref pa),some (.int n0),some (.int fr),some (.ref z),none] H6:=by
  intro z zs H6 b6 e6 nz ez6 sb
  have hzl:zs.length ≤ 8:=by
   have:=sb.length_le
   rw [List.length_map] at this
   omega
  subst hR
  refine ja8 fun R hR=>?_
  walk_at "RD"
  refine ⟨⟨by decide,by decide,by decide⟩,?_⟩
  intro m1 hm1
  have s7:=ja3 hm1 (.lst [.int 3,.int (10 ^ Int.toNat 9)])
  have em:upd H6 m1 (.lst [.int 3,.int (10 ^ Int.toNat 9)]) m1 = some (.lst [.int 3,.int (10 ^ Int.toNat 9)]):=ja1
  have nm:m1 ≠ st:=(ja6 e6 hm1).symm
  generalize upd H6 m1 (.lst [.int 3,.int (10 ^ Int.toNat 9)]) = H7 at s7 em
  refine ⟨st,o6,2,rfl,s7 _ _ e6,so6,by decide,by decide,fun d7 o8 d70 d71 so8=>?_⟩
  have b8:But st H6 (upd H7 st o8):=fun b u nb q=>by rw [jaa nb]; exact s7 _ _ q
  have e8:upd H7 st o8 st = some o8:=ja1
  have em8:=But.at st H7 o8 _ _ nm em
  generalize upd H7 st o8 = H8 at b8 e8 em8
  obtain ⟨mv,hmv,mv0,mv1⟩:∃ v:Int,atI [V.int 3,.int (10 ^ Int.toNat 9)] d7 = some (.int v)∧1 ≤ v∧v ≤ 1000000000:=by
   rw [p9]
   have:d7 = 0 ∨ d7 = 1:=by omega
   rcases this with rfl | rfl
   ·exact ⟨3,at0,by decide,by decide⟩
   ·exact ⟨1000000000,at1,by decide,by decide⟩
  simp_arith [jam,em8,hmv]
  refine ⟨st,o8,mv,rfl,e8,so8,mv0,by omega,fun d9 o9 d90 d91 so9=>?_⟩
  have b9:=(b6.trans b8).trans (But.at st H8 o9)
  have e9:upd H8 st o9 st = some o9:=ja1
  have ez9:=But.at st H8 o9 _ _ nz (b8 _ _ nz ez6)
  generalize upd H8 st o9 = H9 at b9 e9 ez9
  clear b8 e8 em8 b6 e6 ez6 s7 em so8
  have ep9:=b9 _ _ nps ep
  have et9:=b9 _ _ nts et
  have pp9:Prs H9 xs ps:=Prs.tups (b9.tups es so.imm) pp
  have pt9:Prs H9 ys ts:=Prs.tups (b9.tups es so.imm) pt
  have eu9:H9 u = some (.tup [.ref pa,.ref ta]):=b9.tups es so.imm _ _ rfl eu
  walk_at "RD"
  subst hR
  walk_at "RD"
  intro t1 ht1
  have q1:=ja3 ht1 (.tup [.int fr,.int (1 + d9)])
  have et1:upd H9 t1 (.tup [.int fr,.int (1 + d9)]) t1 = some (.tup [.int fr,.int (1 + d9)]):=ja1
  generalize upd H9 t1 (.tup [.int fr,.int (1 + d9)]) = HA at q1 et1
  intro l1 hl1
  have q2:=q1.trans (ja3 hl1 (.lst [.ref t1]))
  have el1:upd HA l1 (.lst [.ref t1]) l1 = some (.lst [.ref t1]):=ja1
  have et2:=ja3 hl1 (.lst [.ref t1]) _ _ et1
  generalize upd HA l1 (.lst [.ref t1]) = HB at q2 el1 et2
  simp_arith [q2 _ _ ep9,el1]
  refine ⟨szl (by omega),?_⟩
  intro l2 hl2
  have q3:=q2.trans (ja3 hl2 (.lst (xs ++ [.ref t1])))
  have el2:upd HB l2 (.lst (xs ++ [.ref t1])) l2 = some (.lst (xs ++ [.ref t1])):=ja1
  have et3:=ja3 hl2 (.lst (xs ++ [.ref t1])) _ _ et2
  generalize upd HB l2 (.lst (xs ++ [.ref t1])) = HC at q3 el2 et3
  simp_arith [jam,q3 _ _ eu9,at1]
  refine jan (Itl K z) HC (fun R' hR'=>?_) (fun y hy=>jav zs.length (fun j σ' Hc=>∃ w1,σ' = [w1,some (.int fr)]∧Same HC Hc∧∃ vs,Hc y = some (.lst vs)∧Prs Hc vs ((zs.take j).map fun n=>(n,fr))) ⟨none,rfl,ja3 hy _,[],ja1,.nil⟩ ?_ ?_)
  ·unfold jc1
   walk_at "RD"
   exact ⟨z,rfl,⟨_,SqL.of (q3 _ _ ez9)⟩,hR'⟩
  ·rintro j σ' Hc hj ⟨w1,rfl,s4,vs,ev,pv⟩
   have z1:SqL K Hc z (zs.map V.int):=SqL.of (s4 _ _ (q3 _ _ ez9))
   have x1:(zs.map V.int)[j]? = some ((zs.map V.int)[j]'(by rw [List.length_map]; omega)):=List.getElem?_eq_getElem _
   refine ⟨⟨_,_,z1,x1⟩,?_⟩
   rintro yy H' ⟨rfl,hyy⟩
   obtain ⟨m,hm,rfl⟩:=jjc (hyy _ z1)
   have hvl:vs.length ≤ 8:=by
    have:=Paired.length pv
    rw [List.length_map,List.length_take] at this
    omega
   walk_at "RD"
   intro tt htt
   have s5:=ja3 htt (.tup [.int m,.int fr])
   have ett:upd H' tt (.tup [.int m,.int fr]) tt = some (.tup [.int m,.int fr]):=ja1
   have ev5:=s5 _ _ ev
   generalize upd H' tt (.tup [.int m,.int fr]) = H5 at s5 ett ev5
   refine ⟨_,ev5,szl' (by omega),_,rfl,jar (s4.trans s5) hy,vs ++ [.ref tt],ja1,?_⟩
   rw [jaq hm,List.map_append]
   have t6:=jax (ys:=vs ++ [.ref tt]) ev5
   exact jal (Prs.tups t6 (Prs.same s5 pv)) (Pr.tups (p:=(m,fr)) ⟨tt,rfl,ett⟩ t6)
  rintro σ' HD ⟨w1,rfl,s4,vs,ev,pv⟩
  refine ⟨⟨_,SqL.of (s4 _ _ (q3 _ _ ez9)),by rw [List.length_map]; omega⟩,?_⟩
  rw [List.take_length] at pv
  have q4:=q3.trans s4
  have el4:=s4 _ _ el2
  have et4:=s4 _ _ et3
  have hvl:vs.length ≤ 8:=by
   have:=Paired.length pv
   rw [List.length_map] at this
   omega
  simp_arith [q4 _ _ et9,ev]
  refine ⟨szl (by omega),?_⟩
  intro l3 hl3
  have q5:=q4.trans (ja3 hl3 (.lst (ys ++ vs)))
  have s5:=ja3 hl3 (.lst (ys ++ vs))
  have el3:upd HD l3 (.lst (ys ++ vs)) l3 = some (.lst (ys ++ vs)):=ja1
  generalize upd HD l3 (.lst (ys ++ vs)) = HE at q5 s5 el3
  have pall:Prs HE (ys ++ vs) (ts ++ zs.map fun n=>(n,fr)):=jfb (Prs.same q5 pt9) (Prs.same s5 pv)
  have tin:∀ t ∈ ts,(t.1 ∈ ps.map (·.1)∧t.2 ∈ ps.map (·.1))∧t.1 < t.2:=fun t ht=>by
   obtain ⟨a1,a2,a3⟩:=TiOk.ats wok.t t ht
   rw [jbu] at a2 a3
   exact ⟨⟨of_decide_eq_true a2,of_decide_eq_true a3⟩,a1⟩
  have kge:∀ n ∈ ps.map (·.1),-1 < n∧n < fr∧n ≤ 999:=fun n hn=>by
   obtain ⟨p,hp,rfl⟩:=List.mem_map.mp hn
   exact ⟨wok.p.gt p hp,fr1 p hp,(pos p hp).2⟩
  have zin:∀ n ∈ zs,n ∈ ps.map (·.1):=fun n hn=>sb.subset hn
  have hnew:∀ t ∈ zs.map fun n=>(n,fr),∃ n ∈ zs,t = (n,fr):=fun t ht=>by
   obtain ⟨n,hn,e⟩:=List.mem_map.mp ht
   exact ⟨n,hn,e.symm⟩
  refine ⟨l3,_,_,1000,rfl,el3,pall,by rw [List.length_append]; omega,fun q hq=>?_,fun l4 zs4 qs hl4 pq prm srt=>?_⟩
  ·rcases List.mem_append.mp hq with hq | hq
   ·have:=kge _ (tin q hq).1.2
    omega
   ·obtain ⟨n,hn,rfl⟩:=hnew q hq
    show 0 ≤ fr∧fr < 1000
    omega
  have q6:=q5.trans (ja3 hl4 (.lst zs4))
  have s6:=ja3 hl4 (.lst zs4)
  have el6:upd HE l4 (.lst zs4) l4 = some (.lst zs4):=ja1
  generalize upd HE l4 (.lst zs4) = HF at q6 s6 el6
  walk_at "RD"
  intro wv hwv
  have s7:=ja3 hwv (.tup [.ref l2,.ref l4])
  have S7:=s5.trans (s6.trans s7)
  have pnew:Prs HD (xs ++ [.ref t1]) (ps ++ [(fr,1 + d9)]):=jal (Prs.same q4 pp9) ⟨t1,rfl,et4⟩
  have hsum:sumP (ps ++ [(fr,1 + d9)]) = sumP ps + (1 + d9):=by rw [jm9]; show _ + ((1 + d9) + 0) = _; omega
  have kin:∀ n ∈ ps.map (·.1),hasK (jb0 (ps ++ [(fr,1 + d9)])) n = true:=fun n hn=>by
   rw [jbu,List.map_append]
   exact decide_eq_true (List.mem_append_left _ hn)
  have kfr:hasK (jb0 (ps ++ [(fr,1 + d9)])) fr = true:=by
   rw [jbu,List.map_append]
   exact decide_eq_true (List.mem_append_right _ (List.mem_singleton.mpr rfl))
  have hlen:=prm.length_eq
  rw [List.length_append,List.length_map] at hlen
  refine h _ _ o9 _ qs (fun b u nb q=>s7 _ _ (q6 _ _ (b9 _ _ nb q))) (s7 _ _ (q6 _ _ e9)) so9 ⟨wv,l2,l4,_,_,rfl,ja1,S7 _ _ el4,s7 _ _ el6,Prs.same S7 pnew,Prs.same (s6.trans s7) pq⟩ ⟨by rw [List.length_append]; show _ + 1 ≤ 40; omega,wok.p.snoc fr1 (by show -1 < fr; omega) (by show fr ≤ 999; omega) (by show 1 ≤ 1 + d9; omega) (by show 1 + d9 ≤ _; omega),by omega,?_⟩ (by rw [List.length_append]; exact Nat.le_refl _) (by omega)
  refine TiOk.of (fun t ht=>?_) srt (prm.nodup_iff.mpr ?_) fun t ht=>?_
  ·rcases List.mem_append.mp (prm.mem_iff.mp ht) with ht | ht
   ·exact .inl (kge _ (tin t ht).1.1).1
   ·obtain ⟨n,hn,rfl⟩:=hnew t ht
    exact .inl (kge _ (zin n hn)).1
  ·refine List.nodup_append.mpr ⟨TiOk.nodup wok.t,?_,fun a ha b hb e=>?_⟩
   ·unfold List.Nodup
    rw [List.pairwise_map]
    exact (hnd.sublist sb).imp fun {a b} hab e=>hab (congrArg Prod.fst e)
   ·obtain ⟨n,hn,rfl⟩:=hnew b hb
    have:=kge _ (tin a ha).1.2
    rw [e] at this
    have:fr < fr:=this.2.1
    omega
  ·rcases List.mem_append.mp (prm.mem_iff.mp ht) with ht | ht
   ·exact ⟨(tin t ht).2,kin _ (tin t ht).1.1,kin _ (tin t ht).1.2⟩
   ·obtain ⟨n,hn,rfl⟩:=hnew t ht
    exact ⟨(kge _ (zin n hn)).2.1,kin _ (zin n hn),kfr⟩
 refine ite2 (fun _=>?_) (fun _=>F z zs H6 b6 e6 nz ez6 sb)
 simp_arith [ez6]
 intro c hc
 have hcut:cutV (zs.map V.int) (some 1) none = (zs.drop 1).map V.int:=by
  cases zs with
  | nil=>rfl
  | cons m r=>rw [List.map_cons,jp3]; rfl
 rw [hcut]
 exact F c (zs.drop 1) _ (b6.trans (But.new hc)) (by rw [jaa (ja6 e6 hc)]; exact e6) (ja6 e6 hc).symm ja1 ((List.drop_sublist 1 zs).trans sb)
end
end My
namespace My
open PySem L2
section
variable {P:Program} {w:World} {K:PySem.W.Frag} {mg:Str→Option Value} {base:Heap} {c1 c2 c3 c4:Tok} {C_NoWeb f_NoWeb:Addr} {dI:FuncData}
theorem putK_new {κ:Type} [DecidableEq κ]:∀ {kvs:List (κ × V)} {k:κ} {v:V},k ∉ kvs.map (·.1)→putK kvs k v = kvs ++ [(k,v)]
 | [],k,v,_=>by simp [putK]
 | (a,b) :: r,k,v,h=>by
  have h1:k ≠ a:=fun z=>h (by rw [z]; exact .head _)
  have h2:k ∉ r.map (·.1):=fun z=>h (.tail _ z)
  have ih:=putK_new (v:=v) h2
  unfold putK at ih ⊢
  simp only [List.any_cons,List.map_cons,List.cons_append]
  first
   | (split at ih <;> split <;> simp_all)
   | simp_all
variable {C_NoStep f_NoStep:Addr}
def bnd:Nat→Int
 | 0=>9000000000
 | i + 1=>2 * bnd i + 2
def ji4:Sp:=fun vs H Q _=>∃ st o m,vs = [.ref st,.int m]∧H st = some o∧StO o∧1 ≤ m∧m ≤ 9 ∧
 ∀ v H' o' ps ts,But st H H'→H' st = some o'→StO o'→jb9 H' v ps ts→WebOk ps ts→ps.length ≤ 9→Q v H'
theorem jfo:∀ {a b:List Int},a.Nodup→(∀ x ∈ a,x ∈ b)→a.length ≤ b.length
 | [],_,_,_=>Nat.zero_le _
 | x :: r,b,h,hs=>by
  rw [List.nodup_cons] at h
  have hx:=hs x (List.mem_cons_self ..)
  have:=jfo (b:=b.erase x) h.2 fun y hy=>by
   have ne:y ≠ x:=fun e=>h.1 (e ▸ hy)
   exact (List.mem_erase_of_ne ne).mpr (hs y (List.mem_cons_of_mem _ hy))
  rw [List.length_erase_of_mem hx] at this
  have:0 < b.length:=List.length_pos_of_mem hx
  rw [List.length_cons]
  omega
theorem jh6 {f:Addr} {fd:FuncData} {f_law_take:Addr} {d_law_take:FuncData} {f_law_web:Addr} {d_law_web:FuncData} {f_law_twinned:Addr} {d_law_twinned:FuncData} {f_law_bent:Addr} {d_law_bent:FuncData} (B:Blt mg) (D:DefAt K mg "_law_shape" (top 39) ["_law_state","_law_most"] f fd) (D_law_take:DefAt K mg "_law_take" (top 34) ["_law_state","_law_many"] f_law_take d_law_take) (G_law_take:FnOk P w K mg base CX0 1 f_law_take d_law_take ["_law_state","_law_many"] jd5) (D_law_web:DefAt K mg "_law_web" (top 36) ["_law_state","_law_most"] f_law_web d_law_web) (G_law_web:FnOk P w K mg base CX0 3 f_law_web d_law_web ["_law_state","_law_most"] jnc) (D_law_twinned:DefAt K mg "_law_twinned" (top 38) ["_law_state","_law_web_here"] f_law_twinned d_law_twinned) (G_law_twinned:FnOk P w K mg base CX0 2 f_law_twinned d_law_twinned ["_law_state","_law_web_here"] jnd) (D_law_bent:DefAt K mg "_law_bent" (top 37) ["_law_state","_law_web_here"] f_law_bent d_law_bent) (G_law_bent:FnOk P w K mg base CX0 2 f_law_bent d_law_bent ["_law_state","_law_web_here"] jni):FnOk P w K mg base CX0 4 f fd ["_law_state","_law_most"] ji4:=by
 have sc:FnScope ["_law_state","_law_most","_law_web_here","_law_k"] ["_law_state","_law_most"] (jac (top 39)):=⟨rfl,rfl,rfl,by decide +kernel,rfl,by decide +kernel,by decide +kernel⟩
 refine D.F.ok sc (fun vs H Q E h=>?_) (fun cdv A outer s H vs Q E hr h=>?_)
 ·obtain ⟨st,o,m,rfl,_⟩:=h
  rfl
 obtain ⟨st,o,m,rfl,es,so,m0,m1,h⟩:=h
 have hu:=jba hr
 have hu0:_ < PySem.cLine:=Nat.lt_of_succ_lt hu
 refine ⟨_,(ja5 (jaj (i:=2) sc.nd rfl (Or.inl rfl) (ja9 G_law_twinned (hr.mono (by decide)) rfl D_law_twinned.m D_law_twinned.F.kp D_law_twinned.b .nil jai (ja0 (qv 0) (ja0 (ja9 G_law_web (hr.mono (by decide)) rfl D_law_web.m D_law_web.F.kp D_law_web.b .nil jai (ja0 (qv 0) (ja0 (jau jgx (qv 1) ja4) ja2))) ja2)))) (ja5 (jca PassesOwn.never rfl (jd9 rfl B.range (ja0 (ja9 G_law_take (hr.mono (by decide)) rfl D_law_take.m D_law_take.F.kp D_law_take.b .nil jai (ja0 (qv 0) (ja0 ja4 ja2))) ja2)) (jae (i:=3) sc.nd rfl (Or.inl rfl)) (ja7 (jaj (i:=2) sc.nd rfl (Or.inl rfl) (ja9 G_law_bent (hr.mono (by decide)) rfl D_law_bent.m D_law_bent.F.kp D_law_bent.b .nil jai (ja0 (qv 0) (ja0 (qv 2) ja2)))))) (ja7 (jak (qv 2))))),?_⟩
 refine ja8 fun R hR=>?_
 walk_at "RD"
 refine ⟨st,o,m - 1,rfl,es,so,by omega,by omega,fun v H1 o1 ps ts b1 e1 so1 hw wok dr hlp hlt=>?_⟩
 refine ⟨st,o1,v,ps,ts,rfl,e1,so1,hw,wok,dr,by omega,hlt,fun v2 H2 o2 ps2 ts2 b2 e2 so2 hw2 wok2 hl2 hs2=>?_⟩
 walk_at "RD"
 subst hR
 refine ja8 fun R hR=>?_
 refine jf4 (ι:=Nat × Hp × HO) (fun j=>Itr 0 j.1) (fun j=>j.2.1) (fun j=>j.1 ≤ 3∧But st H2 j.2.1∧j.2.1 st = some j.2.2∧StO j.2.2) (fun R' hR'=>?_) (fun j0 ok0=>?_)
 ·unfold jmw
  walk_at "RD"
  refine ⟨st,o2,4,rfl,e2,so2,by decide,by decide,fun c o3 c0 c1 so3=>?_⟩
  exact ⟨c,rfl,by omega,by omega,hR' (c.toNat,upd H2 st o3,o3) ⟨by show c.toNat ≤ 3; omega,But.at st H2 o3,ja1,so3⟩⟩
 obtain ⟨N,H3,o3⟩:=j0
 obtain ⟨hN,b3,e3,so3⟩:=ok0
 dsimp only at hN b3 e3 so3
 have hw3:=hw2.but e2 so2 b3
 have b03:=(b1.trans b2).trans b3
 refine jci (n:=N) (fun i σ H4=>∃ v4 o4 ps4 kk,σ = [some (.ref st),some (.int m),some v4,kk]∧But st H H4∧H4 st = some o4∧StO o4∧jb9 H4 v4 ps4 ts2∧WebOk ps4 ts2∧ps4.length = ps2.length∧sumP ps4 ≤ bnd i) ⟨v2,o3,ps2,_,rfl,b03,e3,so3,hw3,wok2,rfl,hs2⟩ ?_ ?_
 ·rintro i σ H4 hi ⟨v4,o4,ps4,kk,rfl,b4,e4,so4,hw4,wok4,hl4,hs4⟩
  have hb:2 * bnd i + 2 ≤ 1000000000000:=by
   have:i = 0 ∨ i = 1 ∨ i = 2:=by omega
   rcases this with rfl | rfl | rfl <;> decide
  walk_at "RD"
  refine ⟨st,o4,v4,ps4,ts2,bnd i,rfl,e4,so4,hw4,wok4,hs4,hb,fun v5 H5 o5 ps5 b5 e5 so5 hw5 wok5 hl5 hk5 hs5=>?_⟩
  exact ⟨v5,o5,ps5,_,rfl,b4.trans b5,e5,so5,hw5,wok5,hl5.trans hl4,hs5⟩
 ·rintro σ H4 ⟨v4,o4,ps4,kk,rfl,b4,e4,so4,hw4,wok4,hl4,hs4⟩
  subst hR
  walk_at "RD"
  exact h v4 H4 o4 ps4 ts2 b4 e4 so4 hw4 wok4 (by omega)
end
end My
namespace So
open PySem PyProof.Rows
section
variable {prog:Program} {w:World} {A:Around} {E:Value→Shared→Prop} {s:Shared}
section
variable {prog:Program} {w:World} {A:Around} {E:Value→Shared→Prop} {s:Shared} {R:Keyed→Int} {κ:SortKind} {a₀:Array Keyed} {pd:Array (Nat × Nat × Nat)}
theorem jhd {n:Nat} (h:n < 64):minRun' n n 0 = n:=by
 show (sortPriv% PySem.Builtin.minRun) n n 0 = n
 cases n with
 | zero=>rfl
 | succ k=>exact if_pos h
theorem jo5 (C:Cm prog w A s R κ a₀) {st:SortSt} (b:Bs κ a₀ #[] st) (h1:1 ≤ a₀.size) (h63:a₀.size < 64) {Q:Unit→SortSt→Prop}
  (h:∀ st',(arrOf st').Perm a₀→failedOf st' = none→Up R (arrOf st') 0 a₀.size→Q () st'):wpS (model prog w) A E s sortRuns' Q st:=by
 have pn:∀ {st:SortSt} {pd:Array (Nat × Nat × Nat)},Bs κ a₀ pd st→(sortPriv% PySem.Builtin.SortState.pending) st = pd:=fun b=>b.pend
 have sz:(sortPriv% PySem.Builtin.SortState.a) st = arrOf st:=rfl
 have mr:=jhd h63
 unfold sortRuns'
 refine wpS_bind (wpS_get ?_)
 rw [sz,b.size]
 refine wpS_bind (wpS_mono (wpS_forRange (I:=fun x (c:Option Unit × Nat) st'=>∃ lo pd,c = (none,lo)∧Bs κ a₀ pd st'∧((x = 0∧lo = 0∧pd = #[]) ∨ (lo = a₀.size∧pd.size ≤ 1∧Up R (arrOf st') 0 a₀.size)))
  (Q:=fun (c:Option Unit × Nat) st'=>∃ pd,c = (none,a₀.size)∧Bs κ a₀ pd st'∧pd.size ≤ 1∧Up R (arrOf st') 0 a₀.size) ?step ?fin ⟨0,#[],rfl,b,.inl ⟨rfl,rfl,rfl⟩⟩) ?post)
 case fin =>
  rintro c st' ⟨lo,pd,rfl,b',q⟩
  rcases q with ⟨q,_⟩ | ⟨rfl,q1,q2⟩
  ·omega
  ·exact ⟨pd,rfl,b',q1,q2⟩
 case post =>
  rintro c st' ⟨pd,rfl,b',p1,u⟩
  refine wpS_bind (wpS_mono (wpS_forRange (I:=fun x (c:Option Unit × Unit) st'=>∃ pd,c = (none,())∧Bs κ a₀ pd st'∧pd.size ≤ 1∧Up R (arrOf st') 0 a₀.size)
   (Q:=fun (c:Option Unit × Unit) st'=>∃ pd,c = (none,())∧Bs κ a₀ pd st'∧pd.size ≤ 1∧Up R (arrOf st') 0 a₀.size) ?s2 (fun _ _ z=>z) ⟨pd,rfl,b',p1,u⟩) ?p2)
  case p2 =>
   rintro c st2 ⟨pd,rfl,b2,q,u2⟩
   exact wpS_pure (h st2 b2.perm b2.ok u2)
  case s2 =>
   rintro x c st2 _ hx ⟨pd,rfl,b2,q,u2⟩
   refine wpS_bind (wpS_get ?_)
   rw [pn b2]
   exact jb3 (fun c=>wpS_pure ⟨pd,rfl,b2,q,u2⟩) fun c=>absurd q c
 case step =>
  rintro x c st' _ hx ⟨lo,pd,rfl,b',q⟩
  rcases q with ⟨rfl,rfl,rfl⟩ | ⟨rfl,q1,q2⟩
  ·refine jb3 (fun c=>absurd (show 0 ≥ a₀.size from c) (by omega)) fun c=>?_
   refine wpS_bind (jk1 (lo:=0) (nrem:=a₀.size - 0) C (by omega) (by omega) b' fun m st2 b2 f2 m1 m2 u2=>?_)
   have push:∀ (n:Nat) (st4:SortSt),Bs κ a₀ #[] st4→Up R (arrOf st4) 0 (0 + n)→n = a₀.size →
     ∃ lo' pd',((none,0 + n):Option Unit × Nat) = (none,lo')∧Bs κ a₀ pd' (SortSt.mk' (kindOf st4) (arrOf st4) ((pendingOf st4).push (0,n,0)) (gallopOf st4) (failedOf st4))∧((0 + 1 = 0∧lo' = 0∧pd' = #[]) ∨ (lo' = a₀.size∧pd'.size ≤ 1∧Up R (arrOf st4) 0 a₀.size)):=by
    intro n st4 b4 u4 hn
    subst hn
    refine ⟨_,#[].push (0,a₀.size,0),rfl,⟨b4.perm,b4.kind,b4.ok,?_⟩,.inr ⟨by omega,by simp,?_⟩⟩
    ·show (pendingOf st4).push (0,a₀.size,0) = _
     rw [b4.pend]
    ·rwa [Nat.zero_add] at u4
   refine jb3 (fun cm=>?_) fun cm=>?_
   case' refine_1 =>
    refine wpS_bind (wpS_lift (wpAny_rule ⟨rfl,?_⟩))
    refine wpS_bind (w_ins (lo:=0) (n:=min (a₀.size - 0) (minRun' a₀.size a₀.size 0)) (ok:=m) C (by omega) (by rw [mr]; omega) b2 u2 fun st3 b3 f3 u3=>?_)
    refine jb3 (fun c=>by cases c) fun _=>?_
    have hn:min (a₀.size - 0) (minRun' a₀.size a₀.size 0) = a₀.size:=by rw [mr]; omega
   case' refine_2 =>
    have b3:=b2
    have u3:=u2
    have hn:m = a₀.size:=by
     have cm':¬ m < minRun' a₀.size a₀.size 0:=cm
     rw [mr] at cm'
     omega
   all_goals
    refine wpS_bind (wpS_get ?_)
    rw [pn b3]
    exact wpS_bind (wpS_modify (wpS_pure (push _ _ b3 u3 hn)))
  ·refine jb3 (fun c=>wpS_pure ⟨pd,rfl,b',q1,q2⟩) fun c=>absurd (Nat.le_refl _) c
end
section
variable {prog:Program} {w:World} {A:Around} {E:Value→Shared→Prop} {s:Shared}
theorem jmb {a:Addr} {vs:List Value} {n:Nat} {P:PySem.Fin→Shared→Prop} {R:Keyed→Int} {κ:SortKind} {h₁:Heap} (ho:s.heap.get? a = some (seqObj "list" vs.toArray n)) (h63:vs.length < 64) (hz:vs.length ≤ sizeLine)
  (hold:∀ b o,h₁.get? b = some o→b ≠ a∧s.heap.get? b = some o) (hk:2 ≤ vs.length→Asks prog w { s with heap:=h₁ } vs R κ)
  (h:∀ out:Array Value,out.toList.Perm vs→out.toList.Pairwise (fun a b=>R (a,a) ≤ R (b,b))→P (.done (.ret .none)) { s with heap:=sortedHeap s.heap a vs out }) :
  wpAny (model prog w) A (Builtin.«list.sort» ⟨[.ref a],[]⟩) P E s:=by
 rw [list_sort_plain]
 have ha:a < s.heap.objs.size:=Heap.lt_size ho
 have hz1:vs.toArray.size ≤ sizeLine:=by rw [List.size_toArray]; exact hz
 refine wpAny_bind (listItems_at ho rfl (wpAny_bind (listUpdate_at ho rfl ?_ hz1 (Nat.zero_le _))))
 obtain ⟨e1,ho1⟩:∃ e1,(s.heap.update a (Obj.mapSeq fun _=>(#[]:Array Value))).get? a = some (seqObj "list" #[] e1):=⟨_,get?_update_seq ho fun _=>#[]⟩
 refine wpAny_bind (seqEpoch_at ho1 rfl (wpAny_bind (wpAny_newTuple (wpAny_bind (wpAny_newList (wpAny_holding ?_) (Nat.zero_le _))) hz)))
 have keep:∀ b o,b ≠ a→s.heap.get? b = some o→(((s.heap.update a (Obj.mapSeq fun _=>(#[]:Array Value))).push (seqObj "tuple" vs.toArray 0)).push (seqObj "list" #[] 0)).get? b = some o:=fun b o hne q =>
  Heap.get?_push_of_some _ (Heap.get?_push_of_some _ (by rw [Heap.get?_update_ne _ _ _ _ hne]; exact q))
 have ho6:(((s.heap.update a (Obj.mapSeq fun _=>(#[]:Array Value))).push (seqObj "tuple" vs.toArray 0)).push (seqObj "list" #[] 0)).get? a = some (seqObj "list" #[] e1):=Heap.get?_push_of_some _ (Heap.get?_push_of_some _ ho1)
 show wpAny (model prog w) A _ P E { s with heap:=((s.heap.update a (Obj.mapSeq fun _=>(#[]:Array Value))).push (seqObj "tuple" vs.toArray 0)).push (seqObj "list" #[] 0) }
 dsimp only
 have fin:∀ st':SortSt,(arrOf st').Perm (pairsOf vs)→Up R (arrOf st') 0 (arrOf st').size→P (.done (.ret .none)) { s with heap:=sortedHeap s.heap a vs ((arrOf st').map (·.2)) }:=fun st' p u=>by
  obtain ⟨z1,z2⟩:=jno p u
  exact h _ z1 z2
 by_cases c2:vs.toArray.size < 2
 ·rw [if_pos c2,if_pos c2]
  refine wpAny_bind (wpAny_pure ?_)
  rw [StateT.run_pure]
  refine wpAny_bind (wpAny_pure (wpAny_bind (seqEpoch_at ho6 rfl (wpAny_bind (listUpdate_at ho6 rfl ?_ (Nat.zero_le _) (by rw [Array.size_map]; show (pairsOf vs).size ≤ _; rw [pairsOf_size]; exact Nat.le_succ_of_le hz))))))
  simp only [bne_self_eq_false,Bool.false_eq_true,if_false]
  refine wpAny_pure (fin (SortSt.mk' general' (vs.toArray.zip vs.toArray) #[] 7 none) (Array.Perm.refl _) (Up.one ?_))
  show (pairsOf vs).size ≤ 1
  rw [pairsOf_size]
  rw [List.size_toArray] at c2
  omega
 ·rw [if_neg c2,if_neg c2]
  rw [List.size_toArray] at c2
  obtain ⟨k1,k2⟩:=hk (by omega) A _ fun b o q=>keep b o (hold b o q).1 (hold b o q).2
  refine wpAny_bind (k1 _ _ ?_)
  have k3:=jo5 (E:=E) (st:=SortSt.mk' κ (pairsOf vs) #[] 7 none) (Q:=fun _ st'=>(arrOf st').Perm (pairsOf vs)∧failedOf st' = none∧Up R (arrOf st') 0 (pairsOf vs).size) k2 ⟨Array.Perm.refl _,rfl,rfl,rfl⟩ (by rw [pairsOf_size]; omega) (by rw [pairsOf_size]; exact h63) fun st' a1 a2 a3=>⟨a1,a2,a3⟩
  refine wpAny_bind (wpAny_mono k3 ?_ fun _ _ e=>e)
  rintro ⟨⟨⟩,st'⟩ s' ⟨rfl,hp,hf,hs⟩
  dsimp only
  refine wpAny_bind (seqEpoch_at ho6 rfl (wpAny_bind (listUpdate_at ho6 rfl ?_ (Nat.zero_le _) (by refine Nat.le_trans (Nat.le_of_eq ((Array.size_map ..).trans (hp.size_eq.trans (pairsOf_size _)))) (Nat.le_succ_of_le hz)))))
  rw [hf]
  simp only [bne_self_eq_false,Bool.false_eq_true,if_false]
  rw [← hp.size_eq] at hs
  exact wpAny_pure (fin st' hp hs)
theorem jjp {l:Addr} {vs:List Value} {Q:Value→Shared→Prop} {R:Keyed→Int} {κ:SortKind} (hl:s.heap.IsList l vs.toArray) (h63:vs.length < 64) (hz:vs.length ≤ sizeLine) (hk:2 ≤ vs.length→Asks prog w s vs R κ)
  (h:∀ out:Array Value,out.toList.Perm vs→out.toList.Pairwise (fun a b=>R (a,a) ≤ R (b,b))→Q (.ref (s.heap.objs.size + 1)) { s with heap:=sortedAll s.heap vs out }) :
  wpAny (model prog w) A (call (.builtin "sorted") [.ref l]) Q E s:=by
 refine Calls.call_function_entry kind_sorted plain_sorted entry_sorted (args_sorted1 _) ?_
 unfold Builtin.«sorted»
 refine wpAny_bind (m:=checkCount "sorted" 1 1 _) (wpAny_pure (wpAny_bind (collect_list hl (wpAny_bind (wpAny_newList ?_ hz)) hz)))
 have hsz:((s.heap.push (seqObj "list" #[] 0)).update s.heap.objs.size (Obj.mapSeq (· ++ vs.toArray))).objs.size = s.heap.objs.size + 1:=by rw [Heap.size_update,size_push']
 generalize hh:((s.heap.push (seqObj "list" #[] 0)).update s.heap.objs.size (Obj.mapSeq (· ++ vs.toArray))).push (seqObj "list" vs.toArray 0) = h2
 have hoL:h2.get? (s.heap.objs.size + 1) = some (seqObj "list" vs.toArray 0):=by rw [← hh,← hsz]; exact Heap.get?_push_size _ rfl
 have keep:∀ b o,s.heap.get? b = some o→b ≠ s.heap.objs.size + 1∧h2.get? b = some o:=fun b o q=>by
  have hlt:b < s.heap.objs.size:=Heap.lt_size q
  refine ⟨Nat.ne_of_lt (Nat.lt_succ_of_lt hlt),?_⟩
  rw [← hh]
  exact Heap.get?_push_of_some _ (by rw [Heap.get?_update_ne _ _ _ _ (Nat.ne_of_lt hlt)]; exact Heap.get?_push_of_some _ q)
 show wpAny _ _ _ _ _ { s with heap:=h2 }
 rw [hsz]
 refine wpAny_bind (wpAny_holding (wpAny_call_entry slot_list_sort ⟨_,hoL,rfl⟩ entry_list_sort (jmb (s:={ s with heap:=h2 }) (h₁:=s.heap) hoL h63 hz keep hk fun out p1 p2=>⟨_,rfl,?_⟩) (args_list_sort _)))
 refine wpAny_pure ⟨_,rfl,?_⟩
 have z:=h out p1 p2
 unfold sortedAll at z
 rw [hh] at z
 exact z
end
end
end So
namespace L2
open PySem PySem.Spec PyProof.Rows
end L2
namespace So
open PySem PySem.Spec PyProof.Rows
section
variable {prog:Program} {w:World} {s:Shared}
def jo4 (h:Heap) (v:Value) (x y z:Int):Prop:=∃ a o t u t3 n,v = .ref a∧h.get? a = some o∧o.cls = .type "tuple"∧o.data = .seq #[.int x t,.int y u,.int z t3] n
theorem jfg {h:Heap}:∀ {vs:List Value},(∀ v ∈ vs,∃ x y z,jo4 h v x y z)→∃ fs,PySem.W.KatTups h vs fs∧fs.length = vs.length∧∀ f ∈ fs,∃ i t,f = .int i t
 | [],_=>⟨[],trivial,rfl,fun _ q=>by cases q⟩
 | v :: vs,hv=>by
  obtain ⟨fs,h1,h2,h3⟩:=jfg (vs:=vs) fun v m=>hv v (.tail _ m)
  obtain ⟨x,y,z,a,o,t,u,t3,n,rfl,e1,e2,e3⟩:=hv v (.head _)
  refine ⟨.int x t :: fs,.cons e1 e2 e3 rfl h1,by rw [List.length_cons,List.length_cons,h2],fun f m=>?_⟩
  rcases List.mem_cons.mp m with rfl | m
  ·exact ⟨x,t,rfl⟩
  ·exact h3 f m
theorem jja {B x y z x' y' z':Int} (h1:0 ≤ y) (h2:y < B) (h3:0 ≤ y') (h4:y' < B) (h5:0 ≤ z) (h6:z < B) (h7:0 ≤ z') (h8:z' < B):(x * B + y) * B + z < (x' * B + y') * B + z' ↔ x < x' ∨ (x = x'∧(y < y' ∨ (y = y'∧z < z'))):=by
 rw [jei h5 h6 h7 h8,jei h1 h2 h3 h4]
 constructor
 ·rintro ((c | c) | ⟨c,d⟩)
  ·exact .inl c
  ·exact .inr ⟨c.1,.inl c.2⟩
  ·rcases Int.lt_trichotomy x x' with e | e | e
   ·exact .inl e
   ·subst e
    exact .inr ⟨rfl,.inr ⟨by omega,d⟩⟩
   ·exfalso
    have q:=(jei (x:=x') (x':=x) h3 h4 h1 h2).mpr (.inl e)
    omega
 ·rintro (c | ⟨rfl,c | ⟨rfl,c⟩⟩)
  ·exact .inl (.inl c)
  ·exact .inl (.inr ⟨rfl,c⟩)
  ·exact .inr ⟨rfl,c⟩
theorem jjw {vs:List Value} {R:Keyed→Int} {B:Int} (hv:∀ v ∈ vs,∃ x y z,jo4 s.heap v x y z∧R (v,v) = (x * B + y) * B + z∧(0 ≤ y∧y < B)∧0 ≤ z∧z < B) (h2:2 ≤ vs.length):Asks prog w s vs R (tuples' true):=by
 intro A h' keep
 refine ⟨fun Q E q=>?_,fun x y hx hy Q E q=>?_⟩
 ·obtain ⟨fs,k1,k2,k3⟩:=jfg (h:=h') (vs:=vs) fun v m=>by
   obtain ⟨x,y,z,⟨a,o,t,u,t3,n,e0,e1,e2⟩,_⟩:=hv v m
   exact ⟨x,y,z,a,o,t,u,t3,n,e0,keep _ _ e1,e2⟩
  refine PySem.W.kat_kind (T:=.type "int") k1 (by omega) (fun f m=>?_) rfl q
  obtain ⟨i,t,rfl⟩:=k3 f m
  exact PySem.W.Looks.of_pure rfl
 ·rw [pairsOf_toList,jfj] at hx hy
  obtain ⟨v,mv,rfl⟩:=List.mem_map.mp hx
  obtain ⟨u,mu,rfl⟩:=List.mem_map.mp hy
  obtain ⟨x1,y1,z1,⟨a,o,t1,t2,t5,n,rfl,e1,e2,e3⟩,r1,⟨r2,r3⟩,r7,r8⟩:=hv v mv
  obtain ⟨x2,y2,z2,⟨b,p,t3,t4,t6,m,rfl,e4,e5,e6⟩,r4,⟨r5,r6⟩,r9,r10⟩:=hv u mu
  rw [r1,r4] at q
  have lx:=jja (x:=x1) (x':=x2) r2 r3 r5 r6 r7 r8 r9 r10
  refine PySem.W.kat_lt (b:=true) (s:={ s with heap:=h' }) (keep _ _ e1) e3 (keep _ _ e4) e6 ?_
  refine PySem.W.kat_cons (wpAny_eqBool_int ?_)
  by_cases c:x1 = x2
  ·rw [show (x1 == x2) = true by rw [c]; exact beq_self_eq_true _]
   refine PySem.W.kat_yes (PySem.W.kat_cons (wpAny_eqBool_int ?_))
   by_cases c2:y1 = y2
   ·rw [show (y1 == y2) = true by rw [c2]; exact beq_self_eq_true _]
    refine PySem.W.kat_yes (PySem.W.kat_cons (wpAny_eqBool_int ?_))
    by_cases c3:z1 = z2
    ·rw [show (z1 == z2) = true by rw [c3]; exact beq_self_eq_true _]
     refine PySem.W.kat_yes (PySem.W.kat_nil ?_)
     rw [show decide ((x1 * B + y1) * B + z1 < (x2 * B + y2) * B + z2) = false by rw [decide_eq_false_iff_not,lx]; omega] at q
     exact q
    ·rw [show (z1 == z2) = false by rw [beq_eq_false_iff_ne]; exact c3]
     refine PySem.W.kat_no (PySem.W.kat_one _ _ (lt_int ?_))
     rw [show decide ((x1 * B + y1) * B + z1 < (x2 * B + y2) * B + z2) = decide (z1 < z2) by rw [decide_eq_decide,lx]; omega] at q
     exact q
   ·rw [show (y1 == y2) = false by rw [beq_eq_false_iff_ne]; exact c2]
    refine PySem.W.kat_no (PySem.W.kat_one _ _ (lt_int ?_))
    rw [show decide ((x1 * B + y1) * B + z1 < (x2 * B + y2) * B + z2) = decide (y1 < y2) by rw [decide_eq_decide,lx]; omega] at q
    exact q
  ·rw [show (x1 == x2) = false by rw [beq_eq_false_iff_ne]; exact c]
   refine PySem.W.kat_no (oneLt_int ?_)
   rw [show decide ((x1 * B + y1) * B + z1 < (x2 * B + y2) * B + z2) = decide (x1 < x2) by rw [decide_eq_decide,lx]; omega] at q
   exact q
end
end So
namespace L2
open PySem PySem.Spec PyProof.Rows
def Tp (H:Hp) (v:V) (p:Int × Int × Int):Prop:=∃ a,v = .ref a∧H a = some (.tup [.int p.1,.int p.2.1,.int p.2.2])
abbrev Tps (H:Hp) (xs:List V) (ps:List (Int × Int × Int)):Prop:=Paired (Tp H) xs ps
def jfc (a b:Int × Int × Int):Prop:=a.1 < b.1 ∨ (a.1 = b.1∧(a.2.1 < b.2.1 ∨ (a.2.1 = b.2.1∧a.2.2 ≤ b.2.2)))
def tpOf (H:Hp):Value→Int × Int × Int
 | .ref a=>match H a with
  | some (.tup [.int x,.int y,.int z])=>(x,y,z)
  | _=>(0,0,0)
 | _=>(0,0,0)
def rSortT:List V→Hp→VK→Prop:=fun vs H Q=>∃ (p:Addr) (xs:List V) (ps:List (Int × Int × Int)) (B:Int),vs = [.ref p]∧H p = some (.lst xs)∧Tps H xs ps∧xs.length < 64∧(∀ q ∈ ps,(0 ≤ q.2.1∧q.2.1 < B)∧0 ≤ q.2.2∧q.2.2 < B) ∧
 ∀ (l:Addr) (ys:List V) (qs:List (Int × Int × Int)),H l = none→Tps H ys qs→qs.Perm ps→qs.Pairwise jfc→Q (.ref l) (upd H l (.lst ys))
theorem jk3 {H:Hp}:∀ {xs:List V} {its:List Value} {ps:List (Int × Int × Int)},Vals xs its→Tps H xs ps→its.map (tpOf H) = ps∧∀ v ∈ its,RelV (tvOf v) v∧Tp H (tvOf v) (tpOf H v)
 | _,_,_,.nil,.nil=>⟨rfl,fun _ m=>by cases m⟩
 | _,_,_,.cons r t,.cons q u=>by
  obtain ⟨e1,e2⟩:=jk3 t u
  obtain ⟨a,rfl,ea⟩:=q
  cases r
  rename_i b _
  have e:tpOf H (.ref a) = b:=by unfold tpOf; dsimp only; rw [ea]
  refine ⟨?_,fun v m=>?_⟩
  ·rw [List.map_cons,e1,e]
  ·rcases List.mem_cons.mp m with rfl | m
   ·rw [e]; exact ⟨rfl,a,rfl,ea⟩
   ·exact e2 v m
theorem jlz {H:Hp}:∀ {us:List Value},(∀ v ∈ us,RelV (tvOf v) v∧Tp H (tvOf v) (tpOf H v))→Vals (us.map tvOf) us∧Tps H (us.map tvOf) (us.map (tpOf H))
 | [],_=>⟨.nil,.nil⟩
 | v :: us,h=>by
  obtain ⟨a,b⟩:=jlz (us:=us) fun v m=>h v (.tail _ m)
  obtain ⟨c,d⟩:=h v (.head _)
  exact ⟨.cons c a,.cons d b⟩
theorem jfh {X:Cx}:jc0 X (.builtin "sorted") rSortT:=by
 intro pins s σ H xs us Q I r h
 obtain ⟨p,xs,ps,B,rfl,e,pp,hz,hB,q⟩:=h
 obtain ⟨u,rfl,rx⟩:=je1 r
 cases rx
 obtain ⟨its,r',pl,_⟩:=I.list (SqL.of e)
 have hlen:=r'.length
 obtain ⟨m1,m2⟩:=jk3 r' pp
 have hz2:(64:Nat) ≤ sizeLine:=by decide
 have hpv:∀ v ∈ its,tpOf H v ∈ ps:=fun v m=>by rw [← m1]; exact List.mem_map_of_mem m
 refine So.jjp (R:=fun k=>((tpOf H k.1).1 * B + (tpOf H k.1).2.1) * B + (tpOf H k.1).2.2) pl.isList (by omega) (by omega) (fun h2=>So.jjw (B:=B) (fun v m=>?_) h2) fun out o1 o2=>?_
 ·obtain ⟨a,ea,eh⟩:=(m2 v m).2
  have ev:v = .ref a:=by
   have z:=(m2 v m).1
   rw [ea] at z
   exact z
  obtain ⟨_,is2,rv,ob,eo,ec,n,en⟩:=I.hok _ _ eh
  match is2,rv with
  | _,.cons ⟨t1,e1⟩ (.cons ⟨t2,e2⟩ (.cons ⟨t3,e3⟩ .nil)) =>
   subst e1 e2 e3
   exact ⟨(tpOf H v).1,(tpOf H v).2.1,(tpOf H v).2.2,⟨a,ob,t1,t2,t3,n,ev,eo,ec,en⟩,rfl,(hB _ (hpv v m)).1,(hB _ (hpv v m)).2⟩
 ·obtain ⟨c,hc⟩:=sortedAll_at s.heap its out
  obtain ⟨b1,b2⟩:=jlz (H:=H) (us:=out.toList) fun v m=>m2 v (o1.mem_iff.mp m)
  have hol:=o1.length_eq
  refine ⟨.ref (s.heap.objs.size + 1),_,I.laid (t':=s.toks) (fun _ _=>sortedAll_old) (Nat.le_succ _) (show jbn X.prog X.w _ _ _ (.lst (out.toList.map tvOf)) from ⟨?_,out.toList,c,b1,?_⟩),rfl,q _ _ (out.toList.map (tpOf H)) (I.hok.fresh (Nat.le_succ _)) b2 ?_ ?_⟩
  ·rw [List.length_map]; omega
  ·rw [hc]
  ·have z:=o1.map (tpOf H)
   rwa [m1] at z
  ·rw [List.pairwise_map]
   refine List.Pairwise.imp_of_mem ?_ o2
   intro u v mu mv huv
   have g1:=hB _ (hpv u (o1.mem_iff.mp mu))
   have g2:=hB _ (hpv v (o1.mem_iff.mp mv))
   have z:=So.jja (x:=(tpOf H v).1) (x':=(tpOf H u).1) g2.1.1 g2.1.2 g1.1.1 g1.1.2 g2.2.1 g2.2.2 g1.2.1 g1.2.2
   have z2:¬ ((tpOf H v).1 < (tpOf H u).1 ∨ ((tpOf H v).1 = (tpOf H u).1∧((tpOf H v).2.1 < (tpOf H u).2.1 ∨ ((tpOf H v).2.1 = (tpOf H u).2.1∧(tpOf H v).2.2 < (tpOf H u).2.2)))):=fun w=>by
    have:=z.mpr w
    dsimp only at huv
    omega
   unfold jfc
   omega
end L2
namespace L2
open PySem PySem.Spec PyProof.Rows
section
variable {X:Cx}
def jn2:R2:=fun x y H Q=>match x,y with
 | .ref a,.ref b=>match H a,H b with
  | some (.tup xs),some (.tup ys)=>xs.length + ys.length ≤ sizeLine∧ys ≠ []∧if xs = [] then Q (.ref b) H else ∀ p,H p = none→Q (.ref p) (upd H p (.tup (xs ++ ys)))
  | _,_=>False
 | _,_=>False
theorem jnm:OpR X (binaryOp .Add) jn2:=by
 intro pins s σ H x y v u Q I rx ry h
 unfold jn2 at h
 split at h
 ·rename_i a b
  split at h
  ·rename_i xs ys ha hb
   obtain ⟨hz,hy,h⟩:=h
   by_cases c:xs = []
   ·rw [if_pos c] at h
    subst c
    cases rx
    cases ry
    obtain ⟨its,r1,p1,_⟩:=I.tuple (SqT.of ha)
    obtain ⟨its2,r2,p2,_⟩:=I.tuple (SqT.of hb)
    cases r1
    obtain ⟨⟨cls,dd,data,sl⟩,ho,hc,n,hd⟩:=id p1
    obtain ⟨⟨cls2,dd2,data2,sl2⟩,ho2,hc2,n2,hd2⟩:=id p2
    simp only at hc hd hc2 hd2
    subst hc hd hc2 hd2
    exact concat_meets (T:="tuple") ⟨_,ho,rfl⟩ ⟨_,ho2,rfl⟩ noFill_tuple_add seq_tuple_add PySem.F.slot_tuple_add PySem.F.entry_tuple_add (PySem.F.args_tuple_add_2 _ _) (tuple_addW0 a b _ _ n n2 dd dd2 sl sl2 (by simp)) ⟨ho,ho2,⟨.ref b,H,I,rfl,h⟩⟩
   ·rw [if_neg c] at h
    exact joo pins s σ H _ _ v u Q I rx ry ⟨a,b,xs,ys,rfl,rfl,SqT.of ha,SqT.of hb,c,hz,fun z=>absurd z hy,fun _=>h⟩
  ·exact h.elim
 ·exact h.elim
theorem q_popI:MtR X "list.pop" jnk:=fun pins s σ H x xs v us Q I rx rv q=>jmr pins s σ H x xs v us Q I rx rv q
end
end L2
namespace L2
open PySem PySem.Spec PyProof.Rows
theorem joz {K:PySem.W.Frag} {a c:Addr} {xs ys:List V} {g:TG} {tb:TS} {D:Ends} {σ:St} {H:Hp} (Pv:Nat→St→Hp→Prop) (hxy:xs.length = ys.length) (h0:Pv 0 σ H) (hl:∀ i σ H,i ≤ xs.length→Pv i σ H→SqL K H a xs∧SqL K H c ys)
  (hs:∀ i x y σ H t,xs[i]? = some x→ys[i]? = some y→Pv i σ H→H t = none→g (.ref t) σ (upd H t (.tup [x,y])) fun σ2 H2=>tb { D with nx:=Pv (i + 1),ct:=Pv (i + 1),bk:=D.nx } σ2 H2) (hd:∀ σ H,Pv xs.length σ H→D.nx σ H) :
  ∃ W:Nat→Nat→St→Hp→Prop,(∃ m,W 0 m σ H)∧∀ i m σ H,W i m σ H →
   ((Itz true K a c).stop i H∧D.nx σ H) ∨ ((Itz true K a c).go i H∧∃ N:St→Hp→Prop,(∀ σ' H',N σ' H'→∃ m',m' < m∧W (i + 1) m' σ' H')∧∀ x H',(Itz true K a c).yld i H x H'→g x σ H' fun σ2 H2=>tb { D with nx:=N,ct:=N,bk:=D.nx } σ2 H2):=by
 refine ⟨fun i m σ H=>m = xs.length - i∧i ≤ xs.length∧Pv i σ H,⟨xs.length,by simp,Nat.zero_le _,h0⟩,?_⟩
 rintro i m σ H ⟨rfl,hi,p⟩
 obtain ⟨q1,q2⟩:=hl i σ H hi p
 have q1':SqB true K H a xs:=by unfold SqB; rw [if_pos rfl]; exact q1
 have q2':SqB true K H c ys:=by unfold SqB; rw [if_pos rfl]; exact q2
 by_cases hlt:i < xs.length
 ·refine .inr ⟨⟨xs,ys,xs[i],ys[i]'(by omega),q1',q2',by simp [hlt],by simp [show i < ys.length by omega]⟩,Pv (i + 1),fun σ' H' p'=>⟨xs.length - (i + 1),by omega,rfl,hlt,p'⟩,fun x H' y=>?_⟩
  obtain ⟨t,z1,z2,ht,e1,e2,y1,y2⟩:=y
  subst e1 e2
  exact hs i z1 z2 σ _ t (y1 xs q1') (y2 ys q2') p ht
 ·have e:i = xs.length:=by omega
  subst e
  exact .inl ⟨⟨xs,ys,q1',q2',.inl (Nat.le_refl _)⟩,hd σ H p⟩
end L2
namespace L2
open PySem PySem.Spec PyProof.Rows
section
open PySem.SeqAt
open PySem.AutoSeq1 (wpAny_loadPart')
open PySem.MeetsSeq PySem.MeetsSeq2 PySem.MeetsSeq3
end
section
variable {X:Cx} {a b c:Expr} {ta tb tc:TE} {pos:Pos}
theorem jmg {op op':CmpOp} {g:Int→Int→Bool} {r':R2} (ho:OpR X (compareOp op) (fI fun i j=>.bl (g i j))) (ho':OpR X (compareOp op') r') (ha:PE X a ta) (hb:PE X b tb) (hc:PE X c tc)
    (hm:lastMarks [op,op'] [b,c] = false:=by with_unfolding_all rfl):PT X (.Compare a [op,op'] [b,c] pos) (fB (jjg (fI fun i j=>.bl (g i j)) r' ta tb tc)):=by
  intro pins s σ H Q I h
  refine isTrue_chain (thn (ha pins s σ H _ I h) fun v s1 ⟨x,H1,I1,r1,q1⟩=>test_link (thn (hb pins s1 σ H1 _ I1 q1) fun u s2 ⟨y,H2,I2,r2,q2⟩ =>
    thn (ho pins s2 σ H2 x y v u (fun z H3=>∃ k,z = .bl k∧(if k = true then tc σ H3 fun w' H4=>r' y w' H4 fun z2 H5=>match z2 with | .bl q=>Q q H5 | _=>False else Q false H3)) I2 r1 r2 ?_) fun d s3 ⟨z,H3,I3,r3,k,e,q3⟩=>?_)) hm
  · dsimp only at q2
    unfold fI at q2 ⊢
    cases x <;> cases y <;> first
      | exact q2.elim
      | exact ⟨_,rfl,q2⟩
  · subst e
    cases r3
    refine wpAny_truthy_bool ?_
    cases k with
    | false=>exact ite_ff ⟨H3,I3,q3⟩
    | true =>
      refine ite_tt (test_last (thn (hc pins s3 σ H3 _ I3 q3) fun w' s4 ⟨z',H4,I4,r4,q4⟩=>thn (ho' pins s4 σ H4 y z' u w' _ I4 r2 r4 q4) fun d2 s5 ⟨z2,H5,I5,r5,q5⟩=>?_))
      cases z2 <;> first
        | exact False.elim q5
        | (cases r5
           exact wpAny_truthy_bool ⟨H5,I5,q5⟩)
end
end L2
namespace My
open PySem L2
section
variable {P:Program} {w:World} {K:PySem.W.Frag} {mg:Str→Option Value} {base:Heap} {c1 c2 c3 c4:Tok} {C_NoWeb f_NoWeb:Addr} {dI:FuncData}
theorem jms {a b:Int × Int} (h:lexLe a b) (g:lexLe b a):a = b:=by
 unfold lexLe at h g
 obtain ⟨a1,a2⟩:=a
 obtain ⟨b1,b2⟩:=b
 dsimp only at h g
 have e1:a1 = b1:=by omega
 have e2:a2 = b2:=by omega
 rw [e1,e2]
structure CalOk (ps cs:List (Int × Int)):Prop where
 keys:cs.map (·.1) = ps.map (·.1)
 rng:∀ c ∈ cs,0 ≤ c.2∧c.2 ≤ 999
 nd:(cs.map (·.2)).Nodup
def jbd (H:Hp) (a:Addr) (ps:List (Int × Int)):Prop:=∃ xs,H a = some (.lst xs)∧Prs H xs ps
theorem jbd.same {H H':Hp} {a:Addr} {ps:List (Int × Int)} (h:jbd H a ps) (s:Same H H'):jbd H' a ps:=let ⟨xs,e,p⟩:=h; ⟨xs,s _ _ e,Prs.same s p⟩
def jcy (qs bs:List (Int × Int)):Prop:=qs.Perm bs∧qs.Pairwise lexLe
theorem jcy.eq {a b c:List (Int × Int)} (h:jcy a c) (g:jcy b c):a = b:=List.Perm.eq_of_pairwise (fun x y _ _ hx hy=>jms hx hy) h.2 g.2 (h.1.trans g.1.symm)
def jhw (qs bs:List (Int × Int × Int)):Prop:=qs.Perm bs∧qs.Pairwise jfc
theorem jl5 {a b:Int × Int × Int} (h:jfc a b) (g:jfc b a):a = b:=by
 unfold jfc at h g
 obtain ⟨a1,a2,a3⟩:=a
 obtain ⟨b1,b2,b3⟩:=b
 dsimp only at h g
 have e1:a1 = b1:=by omega
 have e2:a2 = b2:=by omega
 have e3:a3 = b3:=by omega
 rw [e1,e2,e3]
theorem jhw.eq {a b c:List (Int × Int × Int)} (h:jhw a c) (g:jhw b c):a = b:=List.Perm.eq_of_pairwise (fun x y _ _ hx hy=>jl5 hx hy) h.2 g.2 (h.1.trans g.1.symm)
def tieM (a b:Int):Int × Int:=(if b < a then b else a,if a < b then b else a)
def jf5:Sp:=fun vs H Q _=>∃ a b,vs = [.int a,.int b]∧∀ t H',Same H H'→H t = none→H' t = some (.tup [.int (tieM a b).1,.int (tieM a b).2])→Q (.ref t) H'
def reP (cs:List (Int × Int)) (p:Int × Int):Int × Int:=(prc cs p.1,p.2)
def reT (cs:List (Int × Int)) (t:Int × Int):Int × Int:=tieM (prc cs t.1) (prc cs t.2)
def reD (cs:List (Int × Int)) (d:Int × Int × Int):Int × Int × Int:=((tieM (prc cs d.1) (prc cs d.2.1)).1,(tieM (prc cs d.1) (prc cs d.2.1)).2,d.2.2)
def jnj:Sp:=fun vs H Q _=>∃ v c ps ts cs,vs = [v,.ref c]∧jb9 H v ps ts∧WebOk ps ts∧jbd H c cs∧CalOk ps cs∧∀ H',Same H H'→Q (.bl true) H'
def ji5:Sp:=fun vs H Q _=>∃ v c ps ts cs,vs = [v,.ref c]∧jb9 H v ps ts∧WebOk ps ts∧jbd H c cs∧CalOk ps cs∧∀ H',Same H H'→Q .non H'
def jgu:Sp:=fun vs H Q _=>∃ v c ps ts cs,vs = [v,.ref c]∧jb9 H v ps ts∧WebOk ps ts∧jbd H c cs∧CalOk ps cs∧∀ d H',Same H H'→H d = none→H' d = some (.dK (jb0 cs))→Q (.ref d) H'
def jkg:Sp:=fun vs H Q _=>∃ d l cs,∃ ss:List Int,vs = [.ref d,.ref l]∧H d = some (.dK (jb0 cs))∧H l = some (.lst (ss.map V.int))∧(∀ n ∈ ss,n ∈ cs.map (·.1))∧ss.length ≤ 60∧∀ r H',Same H H'→H' r = some (.lst ((ss.map (prc cs)).map V.int))→Q (.ref r) H'
def ji7:Sp:=fun vs H Q _=>∃ v c ps ts cs,vs = [v,.ref c]∧jb9 H v ps ts∧WebOk ps ts∧jbd H c cs∧CalOk ps cs∧∀ r qs H',Same H H'→H r = none→jbd H' r qs→jcy qs (cs.map fun c=>(c.2,c.1))→Q (.ref r) H'
def jkj:Sp:=fun vs H Q _=>∃ v c ps ts cs,vs = [v,.ref c]∧jb9 H v ps ts∧WebOk ps ts∧jbd H c cs∧CalOk ps cs∧∀ t l1 l2 qs us H',Same H H'→H l1 = none→H l2 = none→l1 ≠ l2→H' t = some (.tup [.ref l1,.ref l2])→jbd H' l1 qs→jbd H' l2 us→jcy qs (ps.map (reP cs))→jcy us (ts.map (reT cs))→Q (.ref t) H'
def jkk:Sp:=fun vs H Q _=>∃ v c l ps ts cs,∃ ss:List Int,vs = [v,.ref c,.ref l]∧jb9 H v ps ts∧WebOk ps ts∧jbd H c cs∧CalOk ps cs∧H l = some (.lst (ss.map V.int))∧(∀ n ∈ ss,n ∈ ps.map (·.1))∧ss.length ≤ 60∧∀ r (ms:List Int) H',Same H H'→H r = none→H' r = some (.lst (ms.map V.int))→ms.Perm (ss.map (prc cs))→ms.Pairwise (· ≤ ·)→Q (.ref r) H'
def jne:Sp:=fun vs H Q _=>∃ d l cs hs,vs = [.ref d,.ref l]∧H d = some (.dK (jb0 cs))∧jbd H l hs∧(∀ h ∈ hs,h.1 ∈ cs.map (·.1)∧0 ≤ h.2∧h.2 < 1000)∧hs.length ≤ 40∧∀ r qs H',Same H H'→jbd H' r qs→jcy qs (hs.map (reP cs))→Q (.ref r) H'
def jng:Sp:=fun vs H Q _=>∃ v c l ps ts cs hs,vs = [v,.ref c,.ref l]∧jb9 H v ps ts∧WebOk ps ts∧jbd H c cs∧CalOk ps cs∧jbd H l hs∧(∀ h ∈ hs,h.1 ∈ ps.map (·.1)∧0 ≤ h.2∧h.2 < 1000)∧hs.length ≤ 40∧∀ r qs H',Same H H'→jbd H' r qs→jcy qs (hs.map (reP cs))→Q (.ref r) H'
def jeq (H:Hp) (a:Addr) (ds:List (Int × Int × Int)):Prop:=∃ xs,H a = some (.lst xs)∧Tps H xs ds
theorem Tp.tups {H H':Hp} {v:V} {p:Int × Int × Int} (h:Tp H v p) (s:TupS H H'):Tp H' v p:=let ⟨a,e,q⟩:=h; ⟨a,e,s _ _ rfl q⟩
theorem jbx {H H':Hp} (s:TupS H H'):∀ {xs:List V} {ps:List (Int × Int × Int)},Tps H xs ps→Tps H' xs ps
 | _,_,.nil=>.nil
 | _,_,.cons r t=>.cons (Tp.tups r s) (jbx s t)
theorem jeq.same {H H':Hp} {a:Addr} {ps:List (Int × Int × Int)} (h:jeq H a ps) (s:Same H H'):jeq H' a ps:=let ⟨xs,e,p⟩:=h; ⟨xs,s _ _ e,jbx s.tups p⟩
def DuIn (ks:List Int) (ds:List (Int × Int × Int)):Prop:=∀ d ∈ ds,d.1 ∈ ks∧d.2.1 ∈ ks∧0 ≤ d.2.2∧d.2.2 < 1000
def jnf:Sp:=fun vs H Q _=>∃ d l cs ds,vs = [.ref d,.ref l]∧H d = some (.dK (jb0 cs))∧(∀ c ∈ cs,0 ≤ c.2∧c.2 ≤ 999)∧(cs.map (·.1)).Nodup∧jeq H l ds∧DuIn (cs.map (·.1)) ds∧ds.length ≤ 40∧∀ r qs H',Same H H'→jeq H' r qs→jhw qs (ds.map (reD cs))→Q (.ref r) H'
def jnh:Sp:=fun vs H Q _=>∃ v c l ps ts cs ds,vs = [v,.ref c,.ref l]∧jb9 H v ps ts∧WebOk ps ts∧jbd H c cs∧CalOk ps cs∧jeq H l ds∧DuIn (ps.map (·.1)) ds∧ds.length ≤ 40∧∀ r qs H',Same H H'→jeq H' r qs→jhw qs (ds.map (reD cs))→Q (.ref r) H'
theorem CalOk.len {ps cs:List (Int × Int)} (h:CalOk ps cs):cs.length = ps.length:=by
 have:=congrArg List.length h.keys
 rwa [List.length_map,List.length_map] at this
theorem CalOk.get {ps cs:List (Int × Int)} (h:CalOk ps cs) (hn:(ps.map (·.1)).Nodup) {n:Int} (hk:n ∈ ps.map (·.1)):(n,prc cs n) ∈ cs∧0 ≤ prc cs n∧prc cs n ≤ 999:=by
 rw [← h.keys] at hk hn
 obtain ⟨c,hc,rfl⟩:=List.mem_map.mp hk
 rw [jh0 hn hc]
 exact ⟨hc,h.rng c hc⟩
theorem je6 {cs:List (Int × Int)} {a b:Int} (ha:0 ≤ prc cs a∧prc cs a ≤ 999) (hb:0 ≤ prc cs b∧prc cs b ≤ 999):(0 ≤ (tieM (prc cs a) (prc cs b)).1∧(tieM (prc cs a) (prc cs b)).1 < 1000)∧0 ≤ (tieM (prc cs a) (prc cs b)).2∧(tieM (prc cs a) (prc cs b)).2 < 1000:=by
 unfold tieM
 dsimp only
 refine ⟨⟨?_,?_⟩,?_,?_⟩ <;> split <;> omega
theorem jl0 {f:Addr} {fd:FuncData}  (B:Blt mg) (D:DefAt K mg "tie_of" (top 19) ["one","other"] f fd):FnOk P w K mg base CX0 1 f fd ["one","other"] jf5:=by
 have sc:FnScope ["one","other"] ["one","other"] (jac (top 19)):=⟨rfl,rfl,rfl,by decide +kernel,rfl,by decide +kernel,by decide +kernel⟩
 refine D.F.ok sc (fun vs H Q E h=>?_) (fun cdv A outer s H vs Q E hr h=>?_)
 ·obtain ⟨a,b,rfl,_⟩:=h
  rfl
 obtain ⟨a,b,rfl,h⟩:=h
 have hu:=jba hr
 have hu0:_ < PySem.cLine:=Nat.lt_of_succ_lt hu
 refine ⟨_,(ja7 (jak (jay (ja0 (jab (joh rfl) rfl B.min PyProof.Rows.boot_min (ja0 (qv 0) (ja0 (qv 1) ja2))) (ja0 (jab (jmi rfl) rfl B.max PyProof.Rows.boot_max (ja0 (qv 0) (ja0 (qv 1) ja2))) ja2))))),?_⟩
 walk_at "RD"
 intro t ht
 exact h t _ (ja3 ht _) ht ja1
theorem jha {f:Addr} {fd:FuncData} {f_is_pair_of_wholes:Addr} {d_is_pair_of_wholes:FuncData} (B:Blt mg) (C:Cst mg c1 c2 c3 c4) (D:DefAt K mg "are_calls" (top 21) ["web","thing"] f fd) (D_is_pair_of_wholes:DefAt K mg "is_pair_of_wholes" (top 7) ["thing"] f_is_pair_of_wholes d_is_pair_of_wholes) (G_is_pair_of_wholes:FnOk P w K mg base CX0 2 f_is_pair_of_wholes d_is_pair_of_wholes ["thing"] jj1):FnOk P w K mg base CX0 3 f fd ["web","thing"] jnj:=by
 have sc:FnScope ["web","thing","call","known"] ["web","thing"] (jac (top 21)):=⟨rfl,rfl,rfl,by decide +kernel,rfl,by decide +kernel,by decide +kernel⟩
 refine D.F.ok sc (fun vs H Q E h=>?_) (fun cdv A outer s H vs Q E hr h=>?_)
 ·obtain ⟨v,c,ps,ts,cs,rfl,_⟩:=h
  rfl
 obtain ⟨v,c,ps,ts,cs,rfl,hw,wok,⟨zs,ec,pz⟩,cok,h⟩:=h
 obtain ⟨u,pa,ta,xs,ys,rfl,eu,ep,et,pp,pt⟩:=id hw
 have hlx:xs.length = ps.length:=Paired.length pp
 have hlz:zs.length = cs.length:=Paired.length pz
 have hlc:=cok.len
 have okl:=wok.pl
 have hu:=jba hr
 have hu0:_ < PySem.cLine:=Nat.lt_of_succ_lt hu
 refine ⟨_,(ja5 (jbf (PW.pt (jd1 (jbj (jbh (jab (je7 .lst) rfl B.isinstance PyProof.Rows.boot_isinstance (ja0 (qv 1) (ja0 (jc6 (v:=.ty "list") rfl B.list PyProof.Rows.boot_list rfl) ja2))))) (jcn (jat q_ne (jab jdr rfl B.len PySem.boot_len (ja0 (qv 1) ja2)) (jab jdr rfl B.len PySem.boot_len (ja0 (jah q_ix (qv 0) ja4 (fun _ _=>rfl)) ja2)) (jap _))))) (ja7 (jak jcv)) jao) (ja5 (jca PassesOwn.never rfl (jok rfl B.zip (ja0 (qv 1) (ja0 (jah q_ix (qv 0) ja4 (fun _ _=>rfl)) ja2))) (jbi (n:=2) rfl (jaf (jae (i:=2) sc.nd rfl (Or.inl rfl)) (jaf (jae (i:=3) sc.nd rfl (Or.inl rfl)) jb4))) (ja7 (jbf (PW.pt (jd1 (jbj (jbh (ja9 G_is_pair_of_wholes (hr.mono (by decide)) rfl D_is_pair_of_wholes.m D_is_pair_of_wholes.F.kp D_is_pair_of_wholes.b .nil jai (ja0 (qv 2) ja2)))) (jd1 (jat q_ne (jah q_ix (qv 2) ja4 (fun _ _=>rfl)) (jah q_ix (qv 3) ja4 (fun _ _=>rfl)) (jap _)) (jcn (jbj (jmg q_le q_le ja4 (jah q_ix (qv 2) ja4 (fun _ _=>rfl)) (jea (v:=.int 999) rfl C.LAST_PLACE ⟨_,rfl⟩))))))) (ja7 (jak jcv)) jao))) (ja7 (jak (jcg q_eq (jab jmj rfl B.len PySem.boot_len (ja0 (jbt (jog hr.hd) rfl B.set PyProof.Rows.boot_set (ja0 (jbs (CpScope.of (N:=["place","number"]) (src:=[none,none]) (by rfl)) rfl (jaz (qv 1)) (fun _ _ _ _=>(jbi (n:=2) rfl (jaf (jae (i:=0) (jad (l:=["place","number"]) (by rfl)) rfl (Or.inl rfl)) (jaf (jae (i:=1) (jad (l:=["place","number"]) (by rfl)) rfl (Or.inl rfl)) jb4)))) (fun _ _ _ _=>jbk) (fun _ _ _ _=>(qv 1))) ja2)) ja2)) (jab jdr rfl B.len PySem.boot_len (ja0 (qv 1) ja2)) (jap _)))))),?_⟩
 refine ja8 fun R hR=>?_
 have hkc:kd H (.ref c) = some .lst:=by unfold kd; dsimp only; rw [ec]
 simp_arith [hkc,isi,jam,ec,eu,at0,ep]
 rw [decide_eq_true (show (zs.length:Int) = (xs.length:Int) by omega)]
 walk_at "RD"
 subst hR
 refine ja8 fun R hR=>?_
 refine jbp (Itz true K c pa) H (fun R' hR'=>?_) (joz (K:=K) (a:=c) (c:=pa) (xs:=zs) (ys:=xs) (fun i σ H1=>∃ w1 w2,σ = [some (.ref u),some (.ref c),w1,w2]∧Same H H1) (by omega) ⟨none,none,rfl,Same.refl _⟩ (fun i σ H1 _ ⟨_,_,_,s1⟩=>⟨SqL.of (s1 _ _ ec),SqL.of (s1 _ _ ep)⟩) ?_ ?_)
 ·unfold iZipE
  simp_arith [jam,eu,at0]
  exact ⟨true,c,pa,rfl,⟨zs,by unfold SqB; rw [if_pos rfl]; exact SqL.of ec⟩,⟨xs,by unfold SqB; rw [if_pos rfl]; exact SqL.of ep⟩,hR'⟩
 ·rintro i x y σ H1 t hx hy ⟨w1,w2,rfl,s1⟩ ht
  obtain ⟨k,hk,pk⟩:=jag pz hx
  obtain ⟨p,hp,pq⟩:=jag pp hy
  have e1:k.1 = p.1:=by
   have h1:(cs.map (·.1))[i]? = some k.1:=by rw [List.getElem?_map,hk]; rfl
   have h2:(ps.map (·.1))[i]? = some p.1:=by rw [List.getElem?_map,hp]; rfl
   rw [cok.keys,h2] at h1
   exact (Option.some.inj h1).symm
  have rk:=cok.rng k (List.mem_of_getElem? hk)
  have s2:Same H (upd H1 t (.tup [x,y])):=s1.trans (ja3 ht _)
  have et2:upd H1 t (.tup [x,y]) t = some (.tup [x,y]):=ja1
  generalize upd H1 t (.tup [x,y]) = H2 at s2 et2
  have pk2:=pk.same s2
  obtain ⟨b1,rfl,eb1⟩:=id pk2
  obtain ⟨b2,rfl,eb2⟩:=pq.same s2
  simp_arith [et2]
  refine ⟨_,k,rfl,pk2,?_⟩
  simp_arith [jam,eb1,eb2,at0,at1]
  simp only [e1,decide_true,Bool.not_true,Bool.false_eq_true,if_false,decide_eq_true (show 0 ≤ k.2 from rk.1),decide_eq_true (show k.2 ≤ 999 from rk.2)]
  first | exact ⟨_,_,rfl,s2⟩ | (walk_at "RD"; exact ⟨_,_,rfl,s2⟩)
 ·rintro σ H1 ⟨w1,w2,rfl,s1⟩
  walk_at "RD"
  subst hR
  walk_at "RD"
  refine jan (Itl K c) H1 (fun R' hR'=>?_) (fun z hz=>jav cs.length (fun j σ' Hc=>∃ w1 w2,σ' = [w1,w2]∧Same H1 Hc∧Hc z = some (.lst (((cs.take j).map (·.2)).map V.int))) ⟨none,none,rfl,ja3 hz _,ja1⟩ ?_ ?_)
  ·unfold jc1
   walk_at "RD"
   exact ⟨c,rfl,⟨_,SqL.of (s1 _ _ ec)⟩,hR'⟩
  ·rintro j σ' Hc hj ⟨w1,w2,rfl,s4,ez⟩
   have z1:SqL K Hc c zs:=SqL.of (s4 _ _ (s1 _ _ ec))
   have x1:zs[j]? = some (zs[j]'(by omega)):=List.getElem?_eq_getElem _
   refine ⟨⟨_,_,z1,x1⟩,?_⟩
   rintro y H' ⟨rfl,hy⟩
   obtain ⟨q,hq,pq⟩:=jag pz (hy _ z1)
   obtain ⟨t,rfl,ht⟩:=pq.same (s1.trans s4)
   simp_arith [ht]
   refine ⟨_,ez,?_,_,_,rfl,jar s4 hz,?_⟩
   ·rw [List.length_map,List.length_map,List.length_take]; exact szl' (by omega)
   ·rw [ja1,jaq hq,List.map_append,List.map_append]; rfl
  rintro σ' H2 ⟨w1,w2,rfl,s2,ez⟩
  refine ⟨⟨_,SqL.of (s2 _ _ (s1 _ _ ec)),by omega⟩,?_⟩
  rw [List.take_length] at ez
  refine ⟨z,cs.map (·.2),rfl,ez,by rw [List.length_map]; omega,fun p hp=>?_⟩
  unfold jip
  simp only [ja1]
  rw [(jp2 _).mpr cok.nd]
  generalize HO.set _ _ = O
  have s3:=(s1.trans s2).trans (ja3 hp O)
  simp_arith [jam,s3 _ _ ec]
  rw [decide_eq_true (show (((cs.map (·.2)).length:Nat):Int) = (zs.length:Int) by rw [List.length_map]; omega)]
  exact h _ s3
theorem jds {f:Addr} {fd:FuncData} {f_look_at_web:Addr} {d_look_at_web:FuncData} {f_are_calls:Addr} {d_are_calls:FuncData} (B:Blt mg) (D:DefAt K mg "look_at_calls" (top 22) ["web","thing"] f fd) (D_look_at_web:DefAt K mg "look_at_web" (top 18) ["thing"] f_look_at_web d_look_at_web) (G_look_at_web:FnOk P w K mg base CX0 5 f_look_at_web d_look_at_web ["thing"] jgv) (D_are_calls:DefAt K mg "are_calls" (top 21) ["web","thing"] f_are_calls d_are_calls) (G_are_calls:FnOk P w K mg base CX0 3 f_are_calls d_are_calls ["web","thing"] jnj):FnOk P w K mg base CX0 6 f fd ["web","thing"] ji5:=by
 have sc:FnScope ["web","thing"] ["web","thing"] (jac (top 22)):=⟨rfl,rfl,rfl,by decide +kernel,rfl,by decide +kernel,by decide +kernel⟩
 refine D.F.ok sc (fun vs H Q E h=>?_) (fun cdv A outer s H vs Q E hr h=>?_)
 ·obtain ⟨v,c,ps,ts,cs,rfl,_⟩:=h
  rfl
 obtain ⟨v,c,ps,ts,cs,rfl,hw,wok,hc,cok,h⟩:=h
 have hu:=jba hr
 have hu0:_ < PySem.cLine:=Nat.lt_of_succ_lt hu
 refine ⟨_,(ja5 (jbm (ja9 G_look_at_web (hr.mono (by decide)) rfl D_look_at_web.m D_look_at_web.F.kp D_look_at_web.b .nil jai (ja0 (qv 0) ja2))) (ja7 (jbf (jbj (jbh (ja9 G_are_calls (hr.mono (by decide)) rfl D_are_calls.m D_are_calls.F.kp D_are_calls.b .nil jai (ja0 (qv 0) (ja0 (qv 1) ja2))))) jkv jao))),?_⟩
 walk_at "RD"
 refine ⟨v,ps,ts,rfl,hw,wok,fun H1 s1=>?_⟩
 walk_at "RD"
 refine ⟨v,c,ps,ts,cs,rfl,hw.same s1,wok,hc.same s1,cok,fun H2 s2=>?_⟩
 walk_at "RD"
 exact h _ (s1.trans s2)
theorem jib {f:Addr} {fd:FuncData} {f_look_at_calls:Addr} {d_look_at_calls:FuncData} (B:Blt mg) (D:DefAt K mg "names_by" (top 23) ["web","calls"] f fd) (D_look_at_calls:DefAt K mg "look_at_calls" (top 22) ["web","thing"] f_look_at_calls d_look_at_calls) (G_look_at_calls:FnOk P w K mg base CX0 6 f_look_at_calls d_look_at_calls ["web","thing"] ji5):FnOk P w K mg base CX0 7 f fd ["web","calls"] jgu:=by
 have sc:FnScope ["web","calls"] ["web","calls"] (jac (top 23)):=⟨rfl,rfl,rfl,by decide +kernel,rfl,by decide +kernel,by decide +kernel⟩
 refine D.F.ok sc (fun vs H Q E h=>?_) (fun cdv A outer s H vs Q E hr h=>?_)
 ·obtain ⟨v,c,ps,ts,cs,rfl,_⟩:=h
  rfl
 obtain ⟨v,c,ps,ts,cs,rfl,hw,wok,hc,cok,h⟩:=h
 have hu:=jba hr
 have hu0:_ < PySem.cLine:=Nat.lt_of_succ_lt hu
 refine ⟨_,(ja5 (jbm (ja9 G_look_at_calls (hr.mono (by decide)) rfl D_look_at_calls.m D_look_at_calls.F.kp D_look_at_calls.b .nil jai (ja0 (qv 0) (ja0 (qv 1) ja2)))) (ja7 (jak (jbt (jkt rfl) rfl B.dict PyProof.Rows.boot_dict (ja0 (qv 1) ja2))))),?_⟩
 walk_at "RD"
 refine ⟨v,c,ps,ts,cs,rfl,hw,wok,hc,cok,fun H1 s1=>?_⟩
 obtain ⟨zs,ec,pz⟩:=hc.same s1
 have hlz:zs.length = cs.length:=Paired.length pz
 have hlc:=cok.len
 have okl:=wok.pl
 simp_arith [ec]
 refine ⟨jb0 cs,jfu pz,by omega,jff (by rw [cok.keys]; exact wok.p.nodup),fun d hd=>?_⟩
 exact h d _ (s1.trans (ja3 hd _)) (s1.free hd) ja1
theorem jmp {f:Addr} {fd:FuncData}  (B:Blt mg) (D:DefAt K mg "named" (top 24) ["names","places"] f fd):FnOk P w K mg base CX0 1 f fd ["names","places"] jkg:=by
 have sc:FnScope ["names","places"] ["names","places"] (jac (top 24)):=⟨rfl,rfl,rfl,by decide +kernel,rfl,by decide +kernel,by decide +kernel⟩
 refine D.F.ok sc (fun vs H Q E h=>?_) (fun cdv A outer s H vs Q E hr h=>?_)
 ·obtain ⟨d,l,cs,ss,rfl,_⟩:=h
  rfl
 obtain ⟨d,l,cs,ss,rfl,ed,el,hin,hsl,h⟩:=h
 have hu:=jba hr
 have hu0:_ < PySem.cLine:=Nat.lt_of_succ_lt hu
 refine ⟨_,(ja7 (jak (jbs (CpScope.of (N:=["place","names"]) (src:=[none,some 0]) (by rfl)) rfl (jaz (qv 1)) (fun _ _ _ _=>(jae (i:=0) (jad (l:=["place","names"]) (by rfl)) rfl (Or.inl rfl))) (fun _ _ _ _=>jbk) (fun _ _ _ _=>(jcz hu (qv 1) (qv 0) (fun _ _=>rfl)))))),?_⟩
 walk_at "RD"
 refine jan (Itl K l) H (fun R' hR'=>?_) (fun z hz=>jav ss.length (fun j σ' Hc=>∃ w1,σ' = [w1,some (.ref d)]∧Same H Hc∧Hc z = some (.lst (((ss.take j).map (prc cs)).map V.int))) ⟨none,rfl,ja3 hz _,ja1⟩ ?_ ?_)
 ·unfold jc1
  walk_at "RD"
  exact ⟨l,rfl,⟨_,SqL.of el⟩,hR'⟩
 ·rintro j σ' Hc hj ⟨w1,rfl,s4,ez⟩
  have z1:SqL K Hc l (ss.map V.int):=SqL.of (s4 _ _ el)
  have x1:(ss.map V.int)[j]? = some ((ss.map V.int)[j]'(by rw [List.length_map]; omega)):=List.getElem?_eq_getElem _
  refine ⟨⟨_,_,z1,x1⟩,?_⟩
  rintro y H' ⟨rfl,hy⟩
  obtain ⟨n,hn,rfl⟩:=jjc (hy _ z1)
  simp_arith [s4 _ _ ed,jbr (hin n (List.mem_of_getElem? hn))]
  refine ⟨_,ez,?_,_,rfl,jar s4 hz,?_⟩
  ·rw [List.length_map,List.length_map,List.length_take]; exact szl' (by omega)
  ·rw [ja1,jaq hn,List.map_append,List.map_append]; rfl
 rintro σ' H1 ⟨w1,rfl,s1,ez⟩
 refine ⟨⟨_,SqL.of (s1 _ _ el),by rw [List.length_map]; omega⟩,?_⟩
 rw [List.take_length] at ez
 exact h z H1 s1 ez
end
end My
namespace My
open PySem L2
section
variable {P:Program} {w:World} {K:PySem.W.Frag} {mg:Str→Option Value} {base:Heap} {c1 c2 c3 c4:Tok} {C_NoWeb f_NoWeb:Addr} {dI:FuncData}
theorem PlOk.sum:∀ {ps:List (Int × Int)} {l s:Int},PlOk l s ps→ps ≠ []→s + sumP ps ≤ 1000000000000
 | [],_,_,_,h=>absurd rfl h
 | [p],l,s,h,_=>by
  have:=h.1.2.2.2
  rw [jaw,show sumP [] = 0 from rfl]
  omega
 | p :: q :: r,l,s,h,_=>by
  have:=PlOk.sum h.2 (fun z=>by cases z)
  rw [jaw]
  omega
theorem jfz {f:Addr} {fd:FuncData} {f_look_at_calls:Addr} {d_look_at_calls:FuncData} (B:Blt mg) (D:DefAt K mg "calls_back" (top 25) ["web","calls"] f fd) (D_look_at_calls:DefAt K mg "look_at_calls" (top 22) ["web","thing"] f_look_at_calls d_look_at_calls) (G_look_at_calls:FnOk P w K mg base CX0 6 f_look_at_calls d_look_at_calls ["web","thing"] ji5):FnOk P w K mg base CX0 7 f fd ["web","calls"] ji7:=by
 have sc:FnScope ["web","calls"] ["web","calls"] (jac (top 25)):=⟨rfl,rfl,rfl,by decide +kernel,rfl,by decide +kernel,by decide +kernel⟩
 refine D.F.ok sc (fun vs H Q E h=>?_) (fun cdv A outer s H vs Q E hr h=>?_)
 ·obtain ⟨v,c,ps,ts,cs,rfl,_⟩:=h
  rfl
 obtain ⟨v,c,ps,ts,cs,rfl,hw,wok,hc,cok,h⟩:=h
 have hu:=jba hr
 have hu0:_ < PySem.cLine:=Nat.lt_of_succ_lt hu
 refine ⟨_,(ja5 (jbm (ja9 G_look_at_calls (hr.mono (by decide)) rfl D_look_at_calls.m D_look_at_calls.F.kp D_look_at_calls.b .nil jai (ja0 (qv 0) (ja0 (qv 1) ja2)))) (ja7 (jak (jab jbc rfl B.sorted PyProof.Rows.boot_sorted (ja0 (jbs (CpScope.of (N:=["place","number"]) (src:=[none,none]) (by rfl)) rfl (jaz (qv 1)) (fun _ _ _ _=>(jbi (n:=2) rfl (jaf (jae (i:=0) (jad (l:=["place","number"]) (by rfl)) rfl (Or.inl rfl)) (jaf (jae (i:=1) (jad (l:=["place","number"]) (by rfl)) rfl (Or.inl rfl)) jb4)))) (fun _ _ _ _=>jbk) (fun _ _ _ _=>(jay (ja0 (qv 1) (ja0 (qv 0) ja2))))) ja2))))),?_⟩
 have hlc:=cok.len
 have okl:=wok.pl
 refine ja8 fun R hR=>?_
 walk_at "RD"
 refine ⟨v,c,ps,ts,cs,rfl,hw,wok,hc,cok,fun H1 s1=>?_⟩
 obtain ⟨zs,ec,pz⟩:=hc.same s1
 have hlz:zs.length = cs.length:=Paired.length pz
 have sI:=Same.refl H1
 walk_at "RD"
 subst hR
 walk_at "RD"
 refine jan (Itl K c) H1 (fun R' hR'=>?_) (fun z hz=>jav cs.length (fun j σ' Hc=>∃ w1 w2,σ' = [w1,w2]∧Same H1 Hc∧∃ vs,Hc z = some (.lst vs)∧Prs Hc vs ((cs.take j).map (fun c:Int × Int=>(c.2,c.1)))) ⟨none,none,rfl,ja3 hz _,[],ja1,.nil⟩ ?_ ?_)
 ·unfold jc1
  walk_at "RD"
  exact ⟨c,rfl,⟨_,SqL.of (sI _ _ ec)⟩,hR'⟩
 ·rintro j σ' Hc hj ⟨w1,w2,rfl,s4,vs,ev,pv⟩
  have z1:=SqL.of (K:=K) (s4 _ _ (sI _ _ ec))
  have x1:=List.getElem?_eq_getElem (show j < _ from (by rw [hlz]; exact hj:j < _))
  refine ⟨⟨_,_,z1,x1⟩,?_⟩
  rintro y H' ⟨rfl,hy⟩
  obtain ⟨q,hq,pq⟩:=jag pz (hy _ z1)
  obtain ⟨t,rfl,ht⟩:=pq.same (sI.trans s4)
  have hqm:=List.mem_of_getElem? hq
  have hvl:vs.length ≤ 120:=by
   have:=Paired.length pv
   rw [List.length_map,List.length_take] at this
   omega
  simp_arith [ht]
  intro tt htt
  have q5:=ja3 htt (.tup [.int q.2,.int q.1])
  have ett:upd H' tt (.tup [.int q.2,.int q.1]) tt = some (.tup [.int q.2,.int q.1]):=ja1
  have ev5:=q5 _ _ ev
  generalize upd H' tt (.tup [.int q.2,.int q.1]) = H5 at q5 ett ev5
  refine ⟨_,ev5,szl' (by omega),_,_,rfl,jar (s4.trans q5) hz,vs ++ [.ref tt],ja1,?_⟩
  rw [jaq hq,List.map_append]
  have t6:=jax (ys:=vs ++ [.ref tt]) ev5
  exact jal (Prs.tups t6 (Prs.same q5 pv)) (Pr.tups (p:=(fun c:Int × Int=>(c.2,c.1)) q) ⟨tt,rfl,ett⟩ t6)
 rintro σ' H2 ⟨w1,w2,rfl,s2,vs,ez,pv⟩
 refine ⟨⟨_,SqL.of (s2 _ _ (sI _ _ ec)),by rw [hlz]; exact Nat.le_refl _⟩,?_⟩
 rw [List.take_length] at pv
 have hvl:vs.length = cs.length:=by have:=Paired.length pv; rw [List.length_map] at this; exact this
 refine ⟨z,vs,_,1000,rfl,ez,pv,by omega,fun q hq=>?_,fun l ys qs hl pq prm srt=>?_⟩
 ·obtain ⟨k,hk,rfl⟩:=List.mem_map.mp hq
  have hkk:k.1 ∈ ps.map (·.1):=by rw [← cok.keys]; exact List.mem_map_of_mem (f:=fun q:Int × Int=>q.1) hk
  obtain ⟨p,hp,e⟩:=List.mem_map.mp hkk
  have g1:=wok.p.gt p hp
  have g2:=(wok.p.pos p hp).2
  show 0 ≤ k.1∧k.1 < 1000
  omega
 ·have q3:=ja3 hl (.lst ys)
  exact h l qs _ (s1.trans (s2.trans q3)) ((s1.trans s2).free hl) ⟨ys,ja1,Prs.same q3 pq⟩ ⟨prm,srt⟩
theorem jg0 {f:Addr} {fd:FuncData} {f_names_by:Addr} {d_names_by:FuncData} {f_tie_of:Addr} {d_tie_of:FuncData} (B:Blt mg) (D:DefAt K mg "called_web" (top 26) ["web","calls"] f fd) (D_names_by:DefAt K mg "names_by" (top 23) ["web","calls"] f_names_by d_names_by) (G_names_by:FnOk P w K mg base CX0 7 f_names_by d_names_by ["web","calls"] jgu) (D_tie_of:DefAt K mg "tie_of" (top 19) ["one","other"] f_tie_of d_tie_of) (G_tie_of:FnOk P w K mg base CX0 1 f_tie_of d_tie_of ["one","other"] jf5):FnOk P w K mg base CX0 8 f fd ["web","calls"] jkj:=by
 have sc:FnScope ["web","calls","names","places","ties"] ["web","calls"] (jac (top 26)):=⟨rfl,rfl,rfl,by decide +kernel,rfl,by decide +kernel,by decide +kernel⟩
 refine D.F.ok sc (fun vs H Q E h=>?_) (fun cdv A outer s H vs Q E hr h=>?_)
 ·obtain ⟨v,c,ps,ts,cs,rfl,_⟩:=h
  rfl
 obtain ⟨v,c,ps,ts,cs,rfl,hw,wok,hc,cok,h⟩:=h
 have hu:=jba hr
 have hu0:_ < PySem.cLine:=Nat.lt_of_succ_lt hu
 refine ⟨_,(ja5 (jaj (i:=2) sc.nd rfl (Or.inr rfl) (ja9 G_names_by (hr.mono (by decide)) rfl D_names_by.m D_names_by.F.kp D_names_by.b .nil jai (ja0 (qv 0) (ja0 (qv 1) ja2)))) (ja5 (jd2 (i:=3) sc.nd rfl (Or.inl rfl) (CpScope.of (N:=["place","price","names"]) (src:=[none,none,some 2]) (by rfl)) rfl (jaz (jah q_ix (qv 0) ja4 (fun _ _=>rfl))) (fun _ _ _ _=>(jbi (n:=2) rfl (jaf (jae (i:=0) (jad (l:=["place","price","names"]) (by rfl)) rfl (Or.inl rfl)) (jaf (jae (i:=1) (jad (l:=["place","price","names"]) (by rfl)) rfl (Or.inl rfl)) jb4)))) (fun _ _ _ _=>jbk) (fun _ _ _ _=>(jay (ja0 (jcz hu (qv 2) (qv 0) (fun _ _=>rfl)) (ja0 (qv 1) ja2))))) (ja5 (jd2 (i:=4) sc.nd rfl (Or.inl rfl) (CpScope.of (N:=["one","other","names"]) (src:=[none,none,some 2]) (by rfl)) rfl (jaz (jah q_ix (qv 0) ja4 (fun _ _=>rfl))) (fun _ _ _ _=>(jbi (n:=2) rfl (jaf (jae (i:=0) (jad (l:=["one","other","names"]) (by rfl)) rfl (Or.inl rfl)) (jaf (jae (i:=1) (jad (l:=["one","other","names"]) (by rfl)) rfl (Or.inl rfl)) jb4)))) (fun _ _ _ _=>jbk) (fun _ _ _ _=>(ja9 G_tie_of (hr.mono (by decide)) rfl D_tie_of.m D_tie_of.F.kp D_tie_of.b .nil jai (ja0 (jcz hu (qv 2) (qv 0) (fun _ _=>rfl)) (ja0 (jcz hu (qv 2) (qv 1) (fun _ _=>rfl)) ja2))))) (ja7 (jak (jay (ja0 (jab jbc rfl B.sorted PyProof.Rows.boot_sorted (ja0 (qv 3) ja2)) (ja0 (jab jbc rfl B.sorted PyProof.Rows.boot_sorted (ja0 (qv 4) ja2)) ja2)))))))),?_⟩
 have hlc:=cok.len
 have okl:=wok.pl
 have tl:=wok.tl
 have hnd:=wok.p.nodup
 have get:∀ n ∈ ps.map (·.1),n ∈ cs.map (·.1)∧0 ≤ prc cs n∧prc cs n ≤ 999:=fun n hn=>⟨by rw [cok.keys]; exact hn,(cok.get hnd hn).2⟩
 have tin:∀ t ∈ ts,t.1 ∈ ps.map (·.1)∧t.2 ∈ ps.map (·.1):=fun t ht=>by
  obtain ⟨_,a2,a3⟩:=TiOk.ats wok.t t ht
  rw [jbu] at a2 a3
  exact ⟨of_decide_eq_true a2,of_decide_eq_true a3⟩
 have psum:∀ p ∈ ps,0 ≤ p.2∧p.2 < 1000000000001:=fun p hp=>by
  have pos1:∀ p ∈ ps,1 ≤ p.2:=fun p hp=>(wok.p.pos p hp).1
  have:=(jdh (List.Sublist.refl (ps.map (·.2))) fun y hy=>by
   obtain ⟨q,hq,rfl⟩:=List.mem_map.mp hy
   exact pos1 q hq).2.2 p.2 (List.mem_map_of_mem (f:=fun q:Int × Int=>q.2) hp)
  have h2:sumP ps ≤ 1000000000000:=by
   have:=PlOk.sum wok.p (fun e=>by rw [e] at hp; cases hp)
   omega
  have h3:(ps.map (·.2)).sum = sumP ps:=rfl
  omega
 refine ja8 fun R hR=>?_
 walk_at "RD"
 refine ⟨v,c,ps,ts,cs,rfl,hw,wok,hc,cok,fun d H1 s1 hd ed=>?_⟩
 obtain ⟨u,pa,ta,xs,ys,rfl,eu,ep,et,pp,pt⟩:=hw.same s1
 have hlx:xs.length = ps.length:=Paired.length pp
 have hly:ys.length = ts.length:=Paired.length pt
 have sI:=Same.refl H1
 walk_at "RD"
 subst hR
 refine ja8 fun R hR=>?_
 walk_at "RD"
 refine jan (Itl K pa) H1 (fun R' hR'=>?_) (fun z hz=>jav ps.length (fun j σ' Hc=>∃ w1 w2,σ' = [w1,w2,some (.ref d)]∧Same H1 Hc∧∃ vs,Hc z = some (.lst vs)∧Prs Hc vs ((ps.take j).map (reP cs))) ⟨none,none,rfl,ja3 hz _,[],ja1,.nil⟩ ?_ ?_)
 ·unfold jc1
  simp_arith [jam,eu,at0]
  exact ⟨pa,rfl,⟨_,SqL.of (sI _ _ ep)⟩,hR'⟩
 ·rintro j σ' Hc hj ⟨w1,w2,rfl,s4,vs,ev,pv⟩
  have z1:=SqL.of (K:=K) (s4 _ _ (sI _ _ ep))
  have x1:=List.getElem?_eq_getElem (show j < _ from (by rw [hlx]; exact hj:j < _))
  refine ⟨⟨_,_,z1,x1⟩,?_⟩
  rintro y H' ⟨rfl,hy⟩
  obtain ⟨q,hq,pq⟩:=jag pp (hy _ z1)
  obtain ⟨t,rfl,ht⟩:=pq.same (sI.trans s4)
  have hqm:=List.mem_of_getElem? hq
  have hvl:vs.length ≤ 120:=by
   have:=Paired.length pv
   rw [List.length_map,List.length_take] at this
   omega
  have hg:=(get q.1 (List.mem_map_of_mem (f:=fun q:Int × Int=>q.1) hqm)).1
  simp_arith [ht,s4 _ _ ed,jbr hg]
  intro tt htt
  have q5:=ja3 htt (.tup [.int (prc cs q.1),.int q.2])
  have ett:upd H' tt (.tup [.int (prc cs q.1),.int q.2]) tt = some (.tup [.int (prc cs q.1),.int q.2]):=ja1
  have ev5:=q5 _ _ ev
  generalize upd H' tt (.tup [.int (prc cs q.1),.int q.2]) = H5 at q5 ett ev5
  refine ⟨_,ev5,szl' (by omega),_,_,rfl,jar (s4.trans q5) hz,vs ++ [.ref tt],ja1,?_⟩
  rw [jaq hq,List.map_append]
  have t6:=jax (ys:=vs ++ [.ref tt]) ev5
  exact jal (Prs.tups t6 (Prs.same q5 pv)) (Pr.tups (p:=(reP cs) q) ⟨tt,rfl,ett⟩ t6)
 rintro σ' H2 ⟨w1,w2,rfl,s2,vs,ez,pv⟩
 refine ⟨⟨_,SqL.of (s2 _ _ (sI _ _ ep)),by rw [hlx]; exact Nat.le_refl _⟩,?_⟩
 rw [List.take_length] at pv
 have hvl:vs.length = ps.length:=by have:=Paired.length pv; rw [List.length_map] at this; exact this
 have ed2:=s2 _ _ ed
 have eu2:=s2 _ _ eu
 have et2:=s2 _ _ et
 have pt2:=Prs.same s2 pt
 have sJ:=Same.refl H2
 walk_at "RD"
 subst hR
 refine ja8 fun R hR=>?_
 walk_at "RD"
 refine jan (Itl K ta) H2 (fun R' hR'=>?_) (fun y2 hy2=>jav ts.length (fun j σ' Hc=>∃ w1 w2,σ' = [w1,w2,some (.ref d)]∧Same H2 Hc∧∃ vs,Hc y2 = some (.lst vs)∧Prs Hc vs ((ts.take j).map (reT cs))) ⟨none,none,rfl,ja3 hy2 _,[],ja1,.nil⟩ ?_ ?_)
 ·unfold jc1
  simp_arith [jam,eu2,at1]
  exact ⟨ta,rfl,⟨_,SqL.of et2⟩,hR'⟩
 ·rintro j σ' Hc hj ⟨w1,w2,rfl,s4,ws,ev,pw⟩
  have z1:=SqL.of (K:=K) (s4 _ _ et2)
  have x1:=List.getElem?_eq_getElem (show j < ys.length by omega)
  refine ⟨⟨_,_,z1,x1⟩,?_⟩
  rintro y H' ⟨rfl,hy⟩
  obtain ⟨q,hq,pq⟩:=jag pt2 (hy _ z1)
  obtain ⟨t,rfl,ht⟩:=pq.same s4
  have hqm:=tin q (List.mem_of_getElem? hq)
  have hwl:ws.length ≤ 120:=by
   have:=Paired.length pw
   rw [List.length_map,List.length_take] at this
   omega
  simp_arith [ht,s4 _ _ ed2,jbr (get q.1 hqm.1).1,jbr (get q.2 hqm.2).1]
  refine ⟨_,_,rfl,fun tt H5 q5 htt ett=>?_⟩
  have ev5:=q5 _ _ ev
  refine ⟨_,ev5,szl' (by omega),_,_,rfl,jar (s4.trans q5) hy2,ws ++ [.ref tt],ja1,?_⟩
  rw [jaq hq,List.map_append]
  have t6:=jax (ys:=ws ++ [.ref tt]) ev5
  exact jal (Prs.tups t6 (Prs.same q5 pw)) (Pr.tups (p:=reT cs q) ⟨tt,rfl,ett⟩ t6)
 rintro σ' H3 ⟨w1,w2,rfl,s3,ws,ew,pw⟩
 refine ⟨⟨_,SqL.of (s3 _ _ et2),by omega⟩,?_⟩
 rw [List.take_length] at pw
 have hwl:ws.length = ts.length:=by have:=Paired.length pw; rw [List.length_map] at this; exact this
 have s13:=s1.trans (s2.trans s3)
 walk_at "RD"
 subst hR
 walk_at "RD"
 refine ⟨z,vs,_,1000000000001,rfl,s3 _ _ ez,Prs.same s3 pv,by omega,fun q hq=>?_,fun l1 ys1 qs hl1 pq1 prm1 srt1=>?_⟩
 ·obtain ⟨k,hk,rfl⟩:=List.mem_map.mp hq
  exact psum k hk
 have q4:=ja3 hl1 (.lst ys1)
 have el1:upd H3 l1 (.lst ys1) l1 = some (.lst ys1):=ja1
 generalize upd H3 l1 (.lst ys1) = H4 at q4 el1
 refine ⟨y2,ws,_,1000,rfl,q4 _ _ ew,Prs.same q4 pw,by omega,fun q hq=>?_,fun l2 ys2 us hl2 pq2 prm2 srt2=>?_⟩
 ·obtain ⟨k,hk,rfl⟩:=List.mem_map.mp hq
  exact (je6 (get _ (tin k hk).1).2 (get _ (tin k hk).2).2).2
 have q5:=ja3 hl2 (.lst ys2)
 have el2:upd H4 l2 (.lst ys2) l2 = some (.lst ys2):=ja1
 have el1':=q5 _ _ el1
 have n12:l1 ≠ l2:=ja6 el1 hl2
 generalize upd H4 l2 (.lst ys2) = H5 at q5 el2 el1'
 walk_at "RD"
 intro r hr
 have q6:=ja3 hr (.tup [.ref l1,.ref l2])
 have q46:=q4.trans (q5.trans q6)
 exact h r l1 l2 qs us _ (s13.trans q46) (s13.free hl1) ((s13.trans q4).free hl2) n12 ja1 ⟨ys1,q6 _ _ el1',Prs.same q46 pq1⟩ ⟨ys2,q6 _ _ el2,Prs.same (q5.trans q6) pq2⟩ ⟨prm1,srt1⟩ ⟨prm2,srt2⟩
theorem jg1 {f:Addr} {fd:FuncData} {f_names_by:Addr} {d_names_by:FuncData} {f_named:Addr} {d_named:FuncData} (B:Blt mg) (D:DefAt K mg "called_set" (top 27) ["web","calls","some"] f fd) (D_names_by:DefAt K mg "names_by" (top 23) ["web","calls"] f_names_by d_names_by) (G_names_by:FnOk P w K mg base CX0 7 f_names_by d_names_by ["web","calls"] jgu) (D_named:DefAt K mg "named" (top 24) ["names","places"] f_named d_named) (G_named:FnOk P w K mg base CX0 1 f_named d_named ["names","places"] jkg):FnOk P w K mg base CX0 8 f fd ["web","calls","some"] jkk:=by
 have sc:FnScope ["web","calls","some"] ["web","calls","some"] (jac (top 27)):=⟨rfl,rfl,rfl,by decide +kernel,rfl,by decide +kernel,by decide +kernel⟩
 refine D.F.ok sc (fun vs H Q E h=>?_) (fun cdv A outer s H vs Q E hr h=>?_)
 ·obtain ⟨v,c,l,ps,ts,cs,ss,rfl,_⟩:=h
  rfl
 obtain ⟨v,c,l,ps,ts,cs,ss,rfl,hw,wok,hc,cok,el,hin,hsl,h⟩:=h
 have hu:=jba hr
 have hu0:_ < PySem.cLine:=Nat.lt_of_succ_lt hu
 refine ⟨_,(ja7 (jak (jab jfi rfl B.sorted PyProof.Rows.boot_sorted (ja0 (ja9 G_named (hr.mono (by decide)) rfl D_named.m D_named.F.kp D_named.b .nil jai (ja0 (ja9 G_names_by (hr.mono (by decide)) rfl D_names_by.m D_names_by.F.kp D_names_by.b .nil jai (ja0 (qv 0) (ja0 (qv 1) ja2))) (ja0 (qv 2) ja2))) ja2)))),?_⟩
 walk_at "RD"
 refine ⟨v,c,ps,ts,cs,rfl,hw,wok,hc,cok,fun d H1 s1 hd ed=>?_⟩
 walk_at "RD"
 refine ⟨d,l,cs,ss,rfl,ed,s1 _ _ el,fun n hn=>by rw [cok.keys]; exact hin n hn,hsl,fun r H2 s2 er=>?_⟩
 refine ⟨r,_,rfl,er,by rw [List.length_map]; omega,fun l2 ms hl2 pm pw=>?_⟩
 exact h l2 ms _ ((s1.trans s2).trans (ja3 hl2 _)) ((s1.trans s2).free hl2) ja1 pm pw
theorem jef {f:Addr} {fd:FuncData}  (B:Blt mg) (D:DefAt K mg "halves_named" (top 28) ["names","halves"] f fd):FnOk P w K mg base CX0 1 f fd ["names","halves"] jne:=by
 have sc:FnScope ["names","halves"] ["names","halves"] (jac (top 28)):=⟨rfl,rfl,rfl,by decide +kernel,rfl,by decide +kernel,by decide +kernel⟩
 refine D.F.ok sc (fun vs H Q E h=>?_) (fun cdv A outer s H vs Q E hr h=>?_)
 ·obtain ⟨d,l,cs,hs,rfl,_⟩:=h
  rfl
 obtain ⟨d,l,cs,hs,rfl,ed,⟨zs,el,pz⟩,hin,h40,h⟩:=h
 have hlz:zs.length = hs.length:=Paired.length pz
 have sI:=Same.refl H
 have hu:=jba hr
 have hu0:_ < PySem.cLine:=Nat.lt_of_succ_lt hu
 refine ⟨_,(ja7 (jak (jab jbc rfl B.sorted PyProof.Rows.boot_sorted (ja0 (jbs (CpScope.of (N:=["place","h","names"]) (src:=[none,none,some 0]) (by rfl)) rfl (jaz (qv 1)) (fun _ _ _ _=>(jbi (n:=2) rfl (jaf (jae (i:=0) (jad (l:=["place","h","names"]) (by rfl)) rfl (Or.inl rfl)) (jaf (jae (i:=1) (jad (l:=["place","h","names"]) (by rfl)) rfl (Or.inl rfl)) jb4)))) (fun _ _ _ _=>jbk) (fun _ _ _ _=>(jay (ja0 (jcz hu (qv 2) (qv 0) (fun _ _=>rfl)) (ja0 (qv 1) ja2))))) ja2)))),?_⟩
 walk_at "RD"
 refine jan (Itl K l) H (fun R' hR'=>?_) (fun z hz=>jav hs.length (fun j σ' Hc=>∃ w1 w2,σ' = [w1,w2,some (.ref d)]∧Same H Hc∧∃ vs,Hc z = some (.lst vs)∧Prs Hc vs ((hs.take j).map (reP cs))) ⟨none,none,rfl,ja3 hz _,[],ja1,.nil⟩ ?_ ?_)
 ·unfold jc1
  walk_at "RD"
  exact ⟨l,rfl,⟨_,SqL.of (sI _ _ el)⟩,hR'⟩
 ·rintro j σ' Hc hj ⟨w1,w2,rfl,s4,vs,ev,pv⟩
  have z1:=SqL.of (K:=K) (s4 _ _ (sI _ _ el))
  have x1:=List.getElem?_eq_getElem (show j < _ from (by rw [hlz]; exact hj:j < _))
  refine ⟨⟨_,_,z1,x1⟩,?_⟩
  rintro y H' ⟨rfl,hy⟩
  obtain ⟨q,hq,pq⟩:=jag pz (hy _ z1)
  obtain ⟨t,rfl,ht⟩:=pq.same (sI.trans s4)
  have hqm:=List.mem_of_getElem? hq
  have hvl:vs.length ≤ 120:=by
   have:=Paired.length pv
   rw [List.length_map,List.length_take] at this
   omega
  simp_arith [ht,s4 _ _ ed,jbr (hin q hqm).1]
  intro tt htt
  have q5:=ja3 htt (.tup [.int (prc cs q.1),.int q.2])
  have ett:upd H' tt (.tup [.int (prc cs q.1),.int q.2]) tt = some (.tup [.int (prc cs q.1),.int q.2]):=ja1
  have ev5:=q5 _ _ ev
  generalize upd H' tt (.tup [.int (prc cs q.1),.int q.2]) = H5 at q5 ett ev5
  refine ⟨_,ev5,szl' (by omega),_,_,rfl,jar (s4.trans q5) hz,vs ++ [.ref tt],ja1,?_⟩
  rw [jaq hq,List.map_append]
  have t6:=jax (ys:=vs ++ [.ref tt]) ev5
  exact jal (Prs.tups t6 (Prs.same q5 pv)) (Pr.tups (p:=(reP cs) q) ⟨tt,rfl,ett⟩ t6)
 rintro σ' H2 ⟨w1,w2,rfl,s2,vs,ez,pv⟩
 refine ⟨⟨_,SqL.of (s2 _ _ (sI _ _ el)),by rw [hlz]; exact Nat.le_refl _⟩,?_⟩
 rw [List.take_length] at pv
 have hvl:vs.length = hs.length:=by have:=Paired.length pv; rw [List.length_map] at this; exact this
 refine ⟨z,vs,_,1000,rfl,ez,pv,by omega,fun q hq=>?_,fun l ys qs hl pq prm srt=>?_⟩
 ·obtain ⟨k,hk,rfl⟩:=List.mem_map.mp hq
  exact (hin k hk).2
 ·have q3:=ja3 hl (.lst ys)
  exact h l qs _ (s2.trans q3) ⟨ys,ja1,Prs.same q3 pq⟩ ⟨prm,srt⟩
theorem jdu {f:Addr} {fd:FuncData} {f_names_by:Addr} {d_names_by:FuncData} {f_halves_named:Addr} {d_halves_named:FuncData} (B:Blt mg) (D:DefAt K mg "called_halves" (top 29) ["web","calls","halves"] f fd) (D_names_by:DefAt K mg "names_by" (top 23) ["web","calls"] f_names_by d_names_by) (G_names_by:FnOk P w K mg base CX0 7 f_names_by d_names_by ["web","calls"] jgu) (D_halves_named:DefAt K mg "halves_named" (top 28) ["names","halves"] f_halves_named d_halves_named) (G_halves_named:FnOk P w K mg base CX0 1 f_halves_named d_halves_named ["names","halves"] jne):FnOk P w K mg base CX0 8 f fd ["web","calls","halves"] jng:=by
 have sc:FnScope ["web","calls","halves"] ["web","calls","halves"] (jac (top 29)):=⟨rfl,rfl,rfl,by decide +kernel,rfl,by decide +kernel,by decide +kernel⟩
 refine D.F.ok sc (fun vs H Q E h=>?_) (fun cdv A outer s H vs Q E hr h=>?_)
 ·obtain ⟨v,c,l,ps,ts,cs,hs,rfl,_⟩:=h
  rfl
 obtain ⟨v,c,l,ps,ts,cs,hs,rfl,hw,wok,hc,cok,hl,hin,h40,h⟩:=h
 have hu:=jba hr
 have hu0:_ < PySem.cLine:=Nat.lt_of_succ_lt hu
 refine ⟨_,(ja7 (jak (ja9 G_halves_named (hr.mono (by decide)) rfl D_halves_named.m D_halves_named.F.kp D_halves_named.b .nil jai (ja0 (ja9 G_names_by (hr.mono (by decide)) rfl D_names_by.m D_names_by.F.kp D_names_by.b .nil jai (ja0 (qv 0) (ja0 (qv 1) ja2))) (ja0 (qv 2) ja2))))),?_⟩
 walk_at "RD"
 refine ⟨v,c,ps,ts,cs,rfl,hw,wok,hc,cok,fun d H1 s1 hd ed=>?_⟩
 walk_at "RD"
 exact ⟨d,l,cs,hs,rfl,ed,hl.same s1,fun k hk=>by rw [cok.keys]; exact hin k hk,h40,fun r qs H2 s2 er srt=>h r qs H2 (s1.trans s2) er srt⟩
theorem jfy {f:Addr} {fd:FuncData} {f_tie_of:Addr} {d_tie_of:FuncData} (B:Blt mg) (D:DefAt K mg "dues_named" (top 30) ["names","dues"] f fd) (D_tie_of:DefAt K mg "tie_of" (top 19) ["one","other"] f_tie_of d_tie_of) (G_tie_of:FnOk P w K mg base CX0 1 f_tie_of d_tie_of ["one","other"] jf5):FnOk P w K mg base CX0 2 f fd ["names","dues"] jnf:=by
 have sc:FnScope ["names","dues"] ["names","dues"] (jac (top 30)):=⟨rfl,rfl,rfl,by decide +kernel,rfl,by decide +kernel,by decide +kernel⟩
 refine D.F.ok sc (fun vs H Q E h=>?_) (fun cdv A outer s H vs Q E hr h=>?_)
 ·obtain ⟨d,l,cs,ds,rfl,_⟩:=h
  rfl
 obtain ⟨d,l,cs,ds,rfl,ed,rng,cnd,⟨zs,el,pz⟩,hin,h40,h⟩:=h
 have hlz:zs.length = ds.length:=Paired.length pz
 have hu:=jba hr
 have hu0:_ < PySem.cLine:=Nat.lt_of_succ_lt hu
 refine ⟨_,(ja7 (jak (jab jfh rfl B.sorted PyProof.Rows.boot_sorted (ja0 (jbs (CpScope.of (N:=["one","other","amount","names"]) (src:=[none,none,none,some 0]) (by rfl)) rfl (jaz (qv 1)) (fun _ _ _ _=>(jbi (n:=3) rfl (jaf (jae (i:=0) (jad (l:=["one","other","amount","names"]) (by rfl)) rfl (Or.inl rfl)) (jaf (jae (i:=1) (jad (l:=["one","other","amount","names"]) (by rfl)) rfl (Or.inl rfl)) (jaf (jae (i:=2) (jad (l:=["one","other","amount","names"]) (by rfl)) rfl (Or.inl rfl)) jb4))))) (fun _ _ _ _=>jbk) (fun _ _ _ _=>(jau jnm (ja9 G_tie_of (hr.mono (by decide)) rfl D_tie_of.m D_tie_of.F.kp D_tie_of.b .nil jai (ja0 (jcz hu (qv 3) (qv 0) (fun _ _=>rfl)) (ja0 (jcz hu (qv 3) (qv 1) (fun _ _=>rfl)) ja2))) (jay (ja0 (qv 2) ja2))))) ja2)))),?_⟩
 have get:∀ n ∈ cs.map (·.1),0 ≤ prc cs n∧prc cs n ≤ 999:=fun n hn=>by
  obtain ⟨k,hk,rfl⟩:=List.mem_map.mp hn
  rw [jh0 cnd hk]
  exact rng k hk
 walk_at "RD"
 refine jan (Itl K l) H (fun R' hR'=>?_) (fun z hz=>jav ds.length (fun j σ' Hc=>∃ w1 w2 w3,σ' = [w1,w2,w3,some (.ref d)]∧Same H Hc∧∃ vs,Hc z = some (.lst vs)∧Tps Hc vs ((ds.take j).map (reD cs))) ⟨none,none,none,rfl,ja3 hz _,[],ja1,.nil⟩ ?_ ?_)
 ·unfold jc1
  walk_at "RD"
  exact ⟨l,rfl,⟨_,SqL.of el⟩,hR'⟩
 ·rintro j σ' Hc hj ⟨w1,w2,w3,rfl,s4,ws,ev,pw⟩
  have z1:=SqL.of (K:=K) (s4 _ _ el)
  have x1:=List.getElem?_eq_getElem (show j < zs.length by omega)
  refine ⟨⟨_,_,z1,x1⟩,?_⟩
  rintro y H' ⟨rfl,hy⟩
  obtain ⟨q,hq,pq⟩:=jag pz (hy _ z1)
  obtain ⟨t,rfl,ht⟩:=Tp.tups pq s4.tups
  obtain ⟨k1,k2,k3,k4⟩:=hin q (List.mem_of_getElem? hq)
  have hwl:ws.length ≤ 120:=by
   have:=Paired.length pw
   rw [List.length_map,List.length_take] at this
   omega
  simp_arith [ht,s4 _ _ ed,jbr k1,jbr k2]
  refine ⟨_,_,rfl,fun tt H5 q5 htt ett=>?_⟩
  have ev5:=q5 _ _ ev
  walk_at "RD"
  intro t1 ht1
  have q6:=ja3 ht1 (.tup [.int q.2.2])
  have et1:upd H5 t1 (.tup [.int q.2.2]) t1 = some (.tup [.int q.2.2]):=ja1
  generalize upd H5 t1 (.tup [.int q.2.2]) = H6 at q6 et1
  unfold jn2
  simp only [q6 _ _ ett,et1,List.length_cons,List.length_nil]
  refine ⟨(by decide),(fun z=>by cases z),?_⟩
  rw [if_neg (fun z=>by cases z)]
  intro t2 ht2
  have q7:=ja3 ht2 (.tup ([.int (tieM (prc cs q.1) (prc cs q.2.1)).1,.int (tieM (prc cs q.1) (prc cs q.2.1)).2] ++ [.int q.2.2]))
  have et2:upd H6 t2 (.tup ([.int (tieM (prc cs q.1) (prc cs q.2.1)).1,.int (tieM (prc cs q.1) (prc cs q.2.1)).2] ++ [.int q.2.2])) t2 = some (.tup [.int (reD cs q).1,.int (reD cs q).2.1,.int (reD cs q).2.2]):=ja1
  generalize upd H6 t2 (.tup ([.int (tieM (prc cs q.1) (prc cs q.2.1)).1,.int (tieM (prc cs q.1) (prc cs q.2.1)).2] ++ [.int q.2.2])) = H7 at q7 et2
  have q57:=q5.trans (q6.trans q7)
  have ev7:=q57 _ _ ev
  have t8:=jax (ys:=ws ++ [.ref t2]) ev7
  refine ⟨_,ev7,szl' (by omega),_,_,_,rfl,jar (s4.trans q57) hz,ws ++ [.ref t2],ja1,?_⟩
  rw [jaq hq,List.map_append]
  exact jal (jbx t8 (jbx q57.tups pw)) (Tp.tups (p:=reD cs q) ⟨t2,rfl,et2⟩ t8)
 rintro σ' H3 ⟨w1,w2,w3,rfl,s3,ws,ew,pw⟩
 refine ⟨⟨_,SqL.of (s3 _ _ el),by omega⟩,?_⟩
 rw [List.take_length] at pw
 have hwl:ws.length = ds.length:=by have:=Paired.length pw; rw [List.length_map] at this; exact this
 refine ⟨z,ws,_,1000,rfl,ew,pw,by omega,fun q hq=>?_,fun l ys qs hl pq prm srt=>?_⟩
 ·obtain ⟨k,hk,rfl⟩:=List.mem_map.mp hq
  obtain ⟨k1,k2,k3,k4⟩:=hin k hk
  exact ⟨(je6 (get _ k1) (get _ k2)).2,k3,k4⟩
 ·have q3:=ja3 hl (.lst ys)
  exact h l qs _ (s3.trans q3) ⟨ys,ja1,jbx q3.tups pq⟩ ⟨prm,srt⟩
theorem jew {f:Addr} {fd:FuncData} {f_names_by:Addr} {d_names_by:FuncData} {f_dues_named:Addr} {d_dues_named:FuncData} (B:Blt mg) (D:DefAt K mg "called_dues" (top 31) ["web","calls","dues"] f fd) (D_names_by:DefAt K mg "names_by" (top 23) ["web","calls"] f_names_by d_names_by) (G_names_by:FnOk P w K mg base CX0 7 f_names_by d_names_by ["web","calls"] jgu) (D_dues_named:DefAt K mg "dues_named" (top 30) ["names","dues"] f_dues_named d_dues_named) (G_dues_named:FnOk P w K mg base CX0 2 f_dues_named d_dues_named ["names","dues"] jnf):FnOk P w K mg base CX0 8 f fd ["web","calls","dues"] jnh:=by
 have sc:FnScope ["web","calls","dues"] ["web","calls","dues"] (jac (top 31)):=⟨rfl,rfl,rfl,by decide +kernel,rfl,by decide +kernel,by decide +kernel⟩
 refine D.F.ok sc (fun vs H Q E h=>?_) (fun cdv A outer s H vs Q E hr h=>?_)
 ·obtain ⟨v,c,l,ps,ts,cs,ds,rfl,_⟩:=h
  rfl
 obtain ⟨v,c,l,ps,ts,cs,ds,rfl,hw,wok,hc,cok,hl,hin,h40,h⟩:=h
 have hu:=jba hr
 have hu0:_ < PySem.cLine:=Nat.lt_of_succ_lt hu
 refine ⟨_,(ja7 (jak (ja9 G_dues_named (hr.mono (by decide)) rfl D_dues_named.m D_dues_named.F.kp D_dues_named.b .nil jai (ja0 (ja9 G_names_by (hr.mono (by decide)) rfl D_names_by.m D_names_by.F.kp D_names_by.b .nil jai (ja0 (qv 0) (ja0 (qv 1) ja2))) (ja0 (qv 2) ja2))))),?_⟩
 walk_at "RD"
 refine ⟨v,c,ps,ts,cs,rfl,hw,wok,hc,cok,fun d H1 s1 hd ed=>?_⟩
 walk_at "RD"
 exact ⟨d,l,cs,ds,rfl,ed,cok.rng,by rw [cok.keys]; exact wok.p.nodup,hl.same s1,by rw [cok.keys]; exact hin,h40,fun r qs H2 s2 er srt=>h r qs H2 (s1.trans s2) er srt⟩
end
end My
namespace My
open PySem L2
section
variable {P:Program} {w:World} {K:PySem.W.Frag} {mg:Str→Option Value} {base:Heap} {c1 c2 c3 c4:Tok} {C_NoWeb f_NoWeb:Addr} {dI:FuncData}
theorem jc4 {H:Hp} {v:V} {ps ts:List (Int × Int)} (h:jb9 H v ps ts):Rep H (webD ps ts) v:=by
 obtain ⟨u,pa,ta,xs,ys,rfl,h1,h2,h3,h4,h5⟩:=h
 unfold webD prsD
 rw [Rep]
 refine ⟨u,_,rfl,h1,?_⟩
 rw [Reps]
 refine ⟨_,_,rfl,?_,?_⟩
 ·rw [Rep]
  exact ⟨pa,xs,rfl,h2,Prs.reps h4⟩
 ·rw [Reps]
  refine ⟨_,_,rfl,?_,by rw [Reps]⟩
  rw [Rep]
  exact ⟨ta,ys,rfl,h3,Prs.reps h5⟩
def ji6:Sp:=fun vs H Q _=>∃ a xs ps,vs = [.ref a,.int 2]∧H a = some (.lst xs)∧Prs H xs ps∧∀ H',Same H H'→Q (.bl true) H'
def jgt:Sp:=fun vs H Q _=>∃ u v ps ts,vs = [u,v]∧jb9 H u ps ts∧jb9 H v ps ts∧∀ H',Same H H'→Q (.bl true) H'
theorem jlp (ps ts:List (Int × Int)):depP (webD ps ts) ≤ 19:=by
 have h1:=jb6 ps
 have h2:=jb6 ts
 unfold webD prsD
 simp only [depP,jc2]
 omega
def spNew:Sp:=fun vs H Q _=>∃ c cs,vs = [.ref c]∧jbd H c cs∧(cs.map (·.1)).Nodup∧cs.length ≤ 40∧∀ d H',H d = none→Same H H'→H' d = some (.dK (jb0 cs))→Q (.ref d) H'
def spWBy:Sp:=fun vs H Q _=>∃ d v cs ps ts,vs = [.ref d,v]∧H d = some (.dK (jb0 cs))∧jb9 H v ps ts∧WebOk ps ts∧CalOk ps cs∧∀ t qs us H',Same H H'→jb9 H' t qs us→jcy qs (ps.map (reP cs))→jcy us (ts.map (reT cs))→Q t H'
def jkh:Sp:=fun vs H Q _=>∃ s o,vs = [.ref s]∧H s = some o∧StO o ∧
 ∀ v H' o' ps ts,But s H H'→H' s = some o'→StO o'→jb9 H' v ps ts→WebOk ps ts→Q v H'
def jki:Sp:=fun vs H Q _=>∃ s o v ps ts,vs = [.ref s,v]∧H s = some o∧StO o∧jb9 H v ps ts∧WebOk ps ts ∧
 ∀ c H' o' cs,But s H H'→H' s = some o'→StO o'→H c = none→jbd H' c cs→CalOk ps cs→Q (.ref c) H'
theorem jh5 {f:Addr} {fd:FuncData}  (B:Blt mg) (D:DefAt K mg "_law_whole" (top 44) ["_law_found"] f fd):FnOk P w K mg base CX0 1 f fd ["_law_found"] je3:=by
 have sc:FnScope ["_law_found"] ["_law_found"] (jac (top 44)):=⟨rfl,rfl,rfl,by decide +kernel,rfl,by decide +kernel,by decide +kernel⟩
 refine D.F.ok sc (fun vs H Q E h=>?_) (fun cdv A outer s H vs Q E hr h=>?_)
 ·obtain ⟨x,k,rfl,_⟩:=h
  rfl
 obtain ⟨x,k,rfl,ek,h⟩:=h
 have hu:=jba hr
 have hu0:_ < PySem.cLine:=Nat.lt_of_succ_lt hu
 refine ⟨_,(ja7 (jak (jes (jab (je7 .int) rfl B.isinstance PyProof.Rows.boot_isinstance (ja0 (qv 0) (ja0 (jc6 (v:=.ty "int") rfl B.int PyProof.Rows.boot_int rfl) ja2))) (je9 (q_not (jab (je7 .bl) rfl B.isinstance PyProof.Rows.boot_isinstance (ja0 (qv 0) (ja0 (jc6 (v:=.ty "bool") rfl B.bool PyProof.Rows.boot_bool rfl) ja2)))))))),?_⟩
 simp_arith [ek]
 cases k <;> simpa only [isi,jf2,if_true,if_false,Bool.false_eq_true,Bool.not_true,Bool.not_false] using h
theorem jid {f:Addr} {fd:FuncData} {f_law_whole:Addr} {d_law_whole:FuncData} (B:Blt mg) (D:DefAt K mg "_law_rows" (top 45) ["_law_found","_law_many"] f fd) (D_law_whole:DefAt K mg "_law_whole" (top 44) ["_law_found"] f_law_whole d_law_whole) (G_law_whole:FnOk P w K mg base CX0 1 f_law_whole d_law_whole ["_law_found"] je3):FnOk P w K mg base CX0 2 f fd ["_law_found","_law_many"] ji6:=by
 have sc:FnScope ["_law_found","_law_many","_law_row"] ["_law_found","_law_many"] (jac (top 45)):=⟨rfl,rfl,rfl,by decide +kernel,rfl,by decide +kernel,by decide +kernel⟩
 refine D.F.ok sc (fun vs H Q E h=>?_) (fun cdv A outer s H vs Q E hr h=>?_)
 ·obtain ⟨a,xs,ps,rfl,_⟩:=h
  rfl
 obtain ⟨a,xs,ps,rfl,ea,pp,h⟩:=h
 have hka:kd H (.ref a) = some .lst:=by unfold kd; dsimp only; rw [ea]
 have hu:=jba hr
 have hu0:_ < PySem.cLine:=Nat.lt_of_succ_lt hu
 refine ⟨_,(ja5 (jbf (jbj (jbh (jab (je7 .lst) rfl B.isinstance PyProof.Rows.boot_isinstance (ja0 (qv 0) (ja0 (jc6 (v:=.ty "list") rfl B.list PyProof.Rows.boot_list rfl) ja2))))) (ja7 (jak jcv)) jao) (ja5 (jca PassesOwn.never rfl (jaz (qv 0)) (jae (i:=2) sc.nd rfl (Or.inl rfl)) (ja5 (jbf (PW.pt (jd1 (jbj (jbh (jab (je7 .tup) rfl B.isinstance PyProof.Rows.boot_isinstance (ja0 (qv 2) (ja0 (jc6 (v:=.ty "tuple") rfl B.tuple PyProof.Rows.boot_tuple rfl) ja2))))) (jcn (jat q_ne (jab jdr rfl B.len PySem.boot_len (ja0 (qv 2) ja2)) (qv 1) (jap _))))) (ja7 (jak jcv)) jao) (ja7 (jbf (jat (jco hr.units) (jbs (CpScope.of (N:=["_law_one"]) (src:=[none]) (by rfl)) rfl (pi_tup (qv 2)) (fun _ _ _ _=>(jae (i:=0) (jad (l:=["_law_one"]) (by rfl)) rfl (Or.inl rfl))) (fun _ _ _ _=>(je8 (jbj (jbh (ja9 G_law_whole (hr.mono (by decide)) rfl D_law_whole.m D_law_whole.F.kp D_law_whole.b .nil jai (ja0 (qv 0) ja2)))))) (fun _ _ _ _=>(qv 0))) (jb8 ja2) (jap _)) (ja7 (jak jcv)) jao)))) (ja7 (jak jcv)))),?_⟩
 refine ja8 fun R hR=>?_
 simp_arith [hka,isi]
 subst hR
 refine ja8 fun R hR=>?_
 refine jbp (Itl K a) H (fun R' hR'=>?_) (jde (K:=K) (a:=a) (xs:=xs) (fun i σ H1=>∃ v1,σ = [some (.ref a),some (.int 2),v1]∧Same H H1) ⟨none,rfl,Same.refl _⟩ (fun i σ H1 _ ⟨_,_,s1⟩=>SqL.of (s1 _ _ ea)) ?_ ?_)
 ·unfold jc1
  walk_at "RD"
  exact ⟨a,rfl,⟨_,SqL.of ea⟩,hR'⟩
 ·rintro i x σ H1 hx ⟨v1,rfl,s1⟩
  obtain ⟨p,hp,px⟩:=jag pp hx
  obtain ⟨t,rfl,ht⟩:=px.same s1
  have hkt:kd H1 (.ref t) = some .tup:=by unfold kd; dsimp only; rw [ht]
  simp only [jg8,List.set_cons_zero,List.set_cons_succ]
  refine ja8 fun R8 hR8=>?_
  simp_arith [hkt,isi,jam,ht]
  simp only [show decide (((2:Nat):Int) = 2) = true from rfl,Bool.not_true,Bool.false_eq_true,if_false]
  subst hR8
  walk_at "RD"
  refine jan (Itt K t) H1 (fun R' hR'=>?_) (fun z hz=>jav 2 (fun j σ' Hc=>∃ w1,σ' = [w1]∧Same H1 Hc∧Hc z = some (.lst [])) ⟨none,rfl,ja3 hz _,ja1⟩ ?_ ?_)
  ·unfold iTup
   walk_at "RD"
   exact ⟨t,rfl,⟨_,SqT.of ht⟩,hR'⟩
  ·rintro j σ' Hc hj ⟨w1,rfl,s2,ez⟩
   have z1:SqT K Hc t [.int p.1,.int p.2]:=SqT.of (s2 _ _ ht)
   obtain ⟨m,hm⟩:∃ m,([V.int p.1,.int p.2])[j]? = some (.int m):=by
    have:j = 0 ∨ j = 1:=by omega
    rcases this with rfl | rfl
    ·exact ⟨p.1,rfl⟩
    ·exact ⟨p.2,rfl⟩
   refine ⟨⟨_,_,z1,hm⟩,?_⟩
   rintro y H' ⟨rfl,hy⟩
   have E1:V.int m = y:=Option.some.inj (hm.symm.trans (hy _ z1))
   subst E1
   walk_at "RD"
   refine ⟨_,.int,rfl,rfl,?_⟩
   simp_arith [jf2]
   exact ⟨_,rfl,s2,ez⟩
  rintro σ' H2 ⟨w1,rfl,s2,ez⟩
  refine ⟨⟨_,SqT.of (s2 _ _ ht),Nat.le_refl 2⟩,?_⟩
  intro e0 he0
  have s3:=ja3 he0 (.lst [])
  have ee0:upd H2 e0 (.lst []) e0 = some (.lst []):=ja1
  generalize upd H2 e0 (.lst []) = H3 at s3 ee0
  refine ⟨_,_,jck (s3 _ _ ez),jck ee0,by decide,.inl ⟨_,_,rfl,rfl⟩,?_⟩
  rw [jbg]
  walk_at "RD"
  exact ⟨_,rfl,s1.trans (s2.trans s3)⟩
 ·rintro σ H1 ⟨v1,rfl,s1⟩
  subst hR
  walk_at "RD"
  exact h _ s1
theorem jee {f:Addr} {fd:FuncData} {f_law_rows:Addr} {d_law_rows:FuncData} (B:Blt mg) (D:DefAt K mg "_law_same_web" (top 46) ["_law_found","_law_due"] f fd) (D_law_rows:DefAt K mg "_law_rows" (top 45) ["_law_found","_law_many"] f_law_rows d_law_rows) (G_law_rows:FnOk P w K mg base CX0 2 f_law_rows d_law_rows ["_law_found","_law_many"] ji6):FnOk P w K mg base CX0 3 f fd ["_law_found","_law_due"] jgt:=by
 have sc:FnScope ["_law_found","_law_due"] ["_law_found","_law_due"] (jac (top 46)):=⟨rfl,rfl,rfl,by decide +kernel,rfl,by decide +kernel,by decide +kernel⟩
 refine D.F.ok sc (fun vs H Q E h=>?_) (fun cdv A outer s H vs Q E hr h=>?_)
 ·obtain ⟨u,v,ps,ts,rfl,_⟩:=h
  rfl
 obtain ⟨u,v,ps,ts,rfl,hu1,hv1,h⟩:=h
 obtain ⟨x,pa,ta,xs,ys,rfl,ex,ep,et,pp,pt⟩:=id hu1
 have hka:kd H (.ref x) = some .tup:=by unfold kd; dsimp only; rw [ex]
 have hu:=jba hr
 have hu0:_ < PySem.cLine:=Nat.lt_of_succ_lt hu
 refine ⟨_,(ja5 (jbf (PW.pt (jd1 (jbj (jbh (jab (je7 .tup) rfl B.isinstance PyProof.Rows.boot_isinstance (ja0 (qv 0) (ja0 (jc6 (v:=.ty "tuple") rfl B.tuple PyProof.Rows.boot_tuple rfl) ja2))))) (jd1 (jat q_ne (jab jdr rfl B.len PySem.boot_len (ja0 (qv 0) ja2)) ja4 (jap _)) (jd1 (jbj (jbh (ja9 G_law_rows (hr.mono (by decide)) rfl D_law_rows.m D_law_rows.F.kp D_law_rows.b .nil jai (ja0 (jah q_ix (qv 0) ja4 (fun _ _=>rfl)) (ja0 ja4 ja2))))) (jcn (jbj (jbh (ja9 G_law_rows (hr.mono (by decide)) rfl D_law_rows.m D_law_rows.F.kp D_law_rows.b .nil jai (ja0 (jah q_ix (qv 0) ja4 (fun _ _=>rfl)) (ja0 ja4 ja2)))))))))) (ja7 (jak jcv)) jao) (ja7 (jak (jcg (jj6 hr.units) (qv 0) (qv 1) (jap _))))),?_⟩
 refine ja8 fun R hR=>?_
 simp_arith [hka,isi,jam,ex,at0,at1]
 rw [show decide (((2:Nat):Int) = 2) = true from rfl]
 simp_arith [jam,ex,at0,at1]
 refine ⟨pa,xs,ps,rfl,ep,pp,fun H1 s1=>?_⟩
 simp_arith [jam,s1 _ _ ex,at0,at1]
 refine ⟨ta,ys,ts,rfl,s1 _ _ et,Prs.same s1 pt,fun H2 s2=>?_⟩
 have s12:=s1.trans s2
 walk_at "RD"
 subst hR
 walk_at "RD"
 refine ⟨_,_,jc4 (hu1.same s12),jc4 (hv1.same s12),by have:=jlp ps ts; omega,.inr ⟨_,_,rfl,rfl⟩,?_⟩
 rw [jbg]
 exact h _ s12
theorem jjs {f:Addr} {fd:FuncData}  (B:Blt mg) (D:DefAt K mg "_law_new" (top 41) ["_law_calls_here"] f fd):FnOk P w K mg base CX0 1 f fd ["_law_calls_here"] spNew:=by
 have sc:FnScope ["_law_calls_here","_law_new_here","_law_place","_law_number"] ["_law_calls_here"] (jac (top 41)):=⟨rfl,rfl,rfl,by decide +kernel,rfl,by decide +kernel,by decide +kernel⟩
 refine D.F.ok sc (fun vs H Q E h=>?_) (fun cdv A outer s H vs Q E hr h=>?_)
 ·obtain ⟨c,cs,rfl,_⟩:=h
  rfl
 obtain ⟨c,cs,rfl,⟨xs,ep,pp⟩,hnd,hpl,h⟩:=h
 have hlx:xs.length = cs.length:=Paired.length pp
 have hu:=jba hr
 have hu0:_ < PySem.cLine:=Nat.lt_of_succ_lt hu
 refine ⟨_,(ja5 (jaj (i:=1) sc.nd rfl (Or.inl rfl) jmo) (ja5 (jca PassesOwn.never rfl (jaz (qv 0)) (jbi (n:=2) rfl (jaf (jae (i:=2) sc.nd rfl (Or.inl rfl)) (jaf (jae (i:=3) sc.nd rfl (Or.inl rfl)) jb4))) (ja7 (q_dput hu (qv 1) (qv 2) (qv 3)))) (ja7 (jak (qv 1))))),?_⟩
 refine ja8 fun R hR=>?_
 walk_at "RD"
 intro d hd
 have s1:=ja3 hd (.dK [])
 have ed:upd H d (.dK []) d = some (.dK []):=ja1
 generalize upd H d (.dK []) = H1 at s1 ed
 walk_at "RD"
 subst hR
 refine ja8 fun R hR=>?_
 refine jbp (Itl K c) H1 (fun R' hR'=>?_) (jde (K:=K) (a:=c) (xs:=xs) (fun i σ H2=>∃ v1 v2,σ = [some (.ref c),some (.ref d),v1,v2]∧Same H H2∧H2 d = some (.dK (jb0 (cs.take i)))) ⟨none,none,rfl,s1,ed⟩ (fun i σ H2 _ ⟨_,_,_,s2,_⟩=>SqL.of (s2 _ _ ep)) ?_ ?_)
 ·unfold jc1
  walk_at "RD"
  exact ⟨c,rfl,⟨_,SqL.of (s1 _ _ ep)⟩,hR'⟩
 ·rintro i x σ H2 hx ⟨v1,v2,rfl,s2,ed2⟩
  obtain ⟨p,hp,px⟩:=jag pp hx
  obtain ⟨t,rfl,ht⟩:=px.same s2
  have hil:=(List.getElem?_eq_some_iff.mp hp).1
  have hnew:(Sum.inl p.1:Key) ∉ (jb0 (cs.take i)).map (·.1):=by
   unfold jb0
   rw [List.map_map]
   intro hm
   obtain ⟨q,hq,e⟩:=List.mem_map.mp hm
   have e':q.1 = p.1:=Sum.inl.inj e
   obtain ⟨j,hj⟩:=List.getElem?_of_mem hq
   have hjl:j < i:=by
    have:=(List.getElem?_eq_some_iff.mp hj).1
    rw [List.length_take] at this
    omega
   rw [List.getElem?_take,if_pos hjl] at hj
   have h1:(cs.map (·.1))[j]? = some q.1:=by rw [List.getElem?_map,hj]; rfl
   have h2:(cs.map (·.1))[i]? = some p.1:=by rw [List.getElem?_map,hp]; rfl
   exact jg2 hnd h1 h2 (by omega) e'
  simp_arith [ht,ed2,putK_new hnew]
  have hl2:(jb0 (cs.take i)).length ≤ 40:=by
   unfold jb0
   rw [List.length_map,List.length_take]
   omega
  refine ⟨by first | exact szl' (by omega) | exact szl (by omega),_,_,rfl,jar s2 hd,?_⟩
  rw [jaq hp]
  unfold jb0
  rw [List.map_append]
  exact ja1
 ·rintro σ H2 ⟨v1,v2,rfl,s2,ed2⟩
  rw [hlx,List.take_length] at ed2
  subst hR
  walk_at "RD"
  exact h d H2 hd s2 ed2
theorem jie {f:Addr} {fd:FuncData}  (B:Blt mg) (D:DefAt K mg "_law_pair" (top 42) ["_law_one","_law_other"] f fd):FnOk P w K mg base CX0 1 f fd ["_law_one","_law_other"] jf5:=by
 have sc:FnScope ["_law_one","_law_other"] ["_law_one","_law_other"] (jac (top 42)):=⟨rfl,rfl,rfl,by decide +kernel,rfl,by decide +kernel,by decide +kernel⟩
 refine D.F.ok sc (fun vs H Q E h=>?_) (fun cdv A outer s H vs Q E hr h=>?_)
 ·obtain ⟨a,b,rfl,_⟩:=h
  rfl
 obtain ⟨a,b,rfl,h⟩:=h
 have hu:=jba hr
 have hu0:_ < PySem.cLine:=Nat.lt_of_succ_lt hu
 refine ⟨_,(ja7 (jak (jay (ja0 (jab (joh rfl) rfl B.min PyProof.Rows.boot_min (ja0 (qv 0) (ja0 (qv 1) ja2))) (ja0 (jab (jmi rfl) rfl B.max PyProof.Rows.boot_max (ja0 (qv 0) (ja0 (qv 1) ja2))) ja2))))),?_⟩
 walk_at "RD"
 intro t ht
 exact h t _ (ja3 ht _) ht ja1
theorem jfw {f:Addr} {fd:FuncData} {f_law_pair:Addr} {d_law_pair:FuncData} (B:Blt mg) (D:DefAt K mg "_law_web_by" (top 43) ["_law_new_here","_law_web_here"] f fd) (D_law_pair:DefAt K mg "_law_pair" (top 42) ["_law_one","_law_other"] f_law_pair d_law_pair) (G_law_pair:FnOk P w K mg base CX0 1 f_law_pair d_law_pair ["_law_one","_law_other"] jf5):FnOk P w K mg base CX0 2 f fd ["_law_new_here","_law_web_here"] spWBy:=by
 have sc:FnScope ["_law_new_here","_law_web_here","_law_places_here"] ["_law_new_here","_law_web_here"] (jac (top 43)):=⟨rfl,rfl,rfl,by decide +kernel,rfl,by decide +kernel,by decide +kernel⟩
 refine D.F.ok sc (fun vs H Q E h=>?_) (fun cdv A outer s H vs Q E hr h=>?_)
 ·obtain ⟨d,v,cs,ps,ts,rfl,_⟩:=h
  rfl
 obtain ⟨d,v,cs,ps,ts,rfl,ed,hw,wok,cok,h⟩:=h
 obtain ⟨u,pa,ta,xs,ys,rfl,eu,ep,et,pp,pt⟩:=id hw
 have hlx:xs.length = ps.length:=Paired.length pp
 have hly:ys.length = ts.length:=Paired.length pt
 have sI:=Same.refl H
 have hu:=jba hr
 have hu0:_ < PySem.cLine:=Nat.lt_of_succ_lt hu
 refine ⟨_,(ja5 (jaj (i:=2) sc.nd rfl (Or.inl rfl) (jab jbc rfl B.sorted PyProof.Rows.boot_sorted (ja0 (jbs (CpScope.of (N:=["_law_place","_law_price","_law_new_here"]) (src:=[none,none,some 0]) (by rfl)) rfl (jaz (jah q_ix (qv 1) ja4 (fun _ _=>rfl))) (fun _ _ _ _=>(jbi (n:=2) rfl (jaf (jae (i:=0) (jad (l:=["_law_place","_law_price","_law_new_here"]) (by rfl)) rfl (Or.inl rfl)) (jaf (jae (i:=1) (jad (l:=["_law_place","_law_price","_law_new_here"]) (by rfl)) rfl (Or.inl rfl)) jb4)))) (fun _ _ _ _=>jbk) (fun _ _ _ _=>(jay (ja0 (jcz hu (qv 2) (qv 0) (fun _ _=>rfl)) (ja0 (qv 1) ja2))))) ja2))) (ja7 (jak (jay (ja0 (qv 2) (ja0 (jab jbc rfl B.sorted PyProof.Rows.boot_sorted (ja0 (jbs (CpScope.of (N:=["_law_one","_law_other","_law_new_here"]) (src:=[none,none,some 0]) (by rfl)) rfl (jaz (jah q_ix (qv 1) ja4 (fun _ _=>rfl))) (fun _ _ _ _=>(jbi (n:=2) rfl (jaf (jae (i:=0) (jad (l:=["_law_one","_law_other","_law_new_here"]) (by rfl)) rfl (Or.inl rfl)) (jaf (jae (i:=1) (jad (l:=["_law_one","_law_other","_law_new_here"]) (by rfl)) rfl (Or.inl rfl)) jb4)))) (fun _ _ _ _=>jbk) (fun _ _ _ _=>(ja9 G_law_pair (hr.mono (by decide)) rfl D_law_pair.m D_law_pair.F.kp D_law_pair.b .nil jai (ja0 (jcz hu (qv 2) (qv 0) (fun _ _=>rfl)) (ja0 (jcz hu (qv 2) (qv 1) (fun _ _=>rfl)) ja2))))) ja2)) ja2)))))),?_⟩
 have hlc:=cok.len
 have okl:=wok.pl
 have tl:=wok.tl
 have hnd:=wok.p.nodup
 have get:∀ n ∈ ps.map (·.1),n ∈ cs.map (·.1)∧0 ≤ prc cs n∧prc cs n ≤ 999:=fun n hn=>⟨by rw [cok.keys]; exact hn,(cok.get hnd hn).2⟩
 have tin:∀ t ∈ ts,t.1 ∈ ps.map (·.1)∧t.2 ∈ ps.map (·.1):=fun t ht=>by
  obtain ⟨_,a2,a3⟩:=TiOk.ats wok.t t ht
  rw [jbu] at a2 a3
  exact ⟨of_decide_eq_true a2,of_decide_eq_true a3⟩
 have psum:∀ p ∈ ps,0 ≤ p.2∧p.2 < 1000000000001:=fun p hp=>by
  have pos1:∀ p ∈ ps,1 ≤ p.2:=fun p hp=>(wok.p.pos p hp).1
  have:=(jdh (List.Sublist.refl (ps.map (·.2))) fun y hy=>by
   obtain ⟨q,hq,rfl⟩:=List.mem_map.mp hy
   exact pos1 q hq).2.2 p.2 (List.mem_map_of_mem (f:=fun q:Int × Int=>q.2) hp)
  have h2:sumP ps ≤ 1000000000000:=by
   have:=PlOk.sum wok.p (fun e=>by rw [e] at hp; cases hp)
   omega
  have h3:(ps.map (·.2)).sum = sumP ps:=rfl
  omega
 refine ja8 fun R hR=>?_
 walk_at "RD"
 refine jan (Itl K pa) H (fun R' hR'=>?_) (fun z hz=>jav ps.length (fun j σ' Hc=>∃ w1 w2,σ' = [w1,w2,some (.ref d)]∧Same H Hc∧∃ vs,Hc z = some (.lst vs)∧Prs Hc vs ((ps.take j).map (reP cs))) ⟨none,none,rfl,ja3 hz _,[],ja1,.nil⟩ ?_ ?_)
 ·unfold jc1
  simp_arith [jam,eu,at0]
  exact ⟨pa,rfl,⟨_,SqL.of (sI _ _ ep)⟩,hR'⟩
 ·rintro j σ' Hc hj ⟨w1,w2,rfl,s4,vs,ev,pv⟩
  have z1:=SqL.of (K:=K) (s4 _ _ (sI _ _ ep))
  have x1:=List.getElem?_eq_getElem (show j < _ from (by rw [hlx]; exact hj:j < _))
  refine ⟨⟨_,_,z1,x1⟩,?_⟩
  rintro y H' ⟨rfl,hy⟩
  obtain ⟨q,hq,pq⟩:=jag pp (hy _ z1)
  obtain ⟨t,rfl,ht⟩:=pq.same (sI.trans s4)
  have hqm:=List.mem_of_getElem? hq
  have hvl:vs.length ≤ 120:=by
   have:=Paired.length pv
   rw [List.length_map,List.length_take] at this
   omega
  have hg:=(get q.1 (List.mem_map_of_mem (f:=fun q:Int × Int=>q.1) hqm)).1
  simp_arith [ht,s4 _ _ ed,jbr hg]
  intro tt htt
  have q5:=ja3 htt (.tup [.int (prc cs q.1),.int q.2])
  have ett:upd H' tt (.tup [.int (prc cs q.1),.int q.2]) tt = some (.tup [.int (prc cs q.1),.int q.2]):=ja1
  have ev5:=q5 _ _ ev
  generalize upd H' tt (.tup [.int (prc cs q.1),.int q.2]) = H5 at q5 ett ev5
  refine ⟨_,ev5,szl' (by omega),_,_,rfl,jar (s4.trans q5) hz,vs ++ [.ref tt],ja1,?_⟩
  rw [jaq hq,List.map_append]
  have t6:=jax (ys:=vs ++ [.ref tt]) ev5
  exact jal (Prs.tups t6 (Prs.same q5 pv)) (Pr.tups (p:=(reP cs) q) ⟨tt,rfl,ett⟩ t6)
 rintro σ' H2 ⟨w1,w2,rfl,s2,vs,ez,pv⟩
 refine ⟨⟨_,SqL.of (s2 _ _ (sI _ _ ep)),by rw [hlx]; exact Nat.le_refl _⟩,?_⟩
 rw [List.take_length] at pv
 have hvl:vs.length = ps.length:=by have:=Paired.length pv; rw [List.length_map] at this; exact this
 refine ⟨z,vs,_,1000000000001,rfl,ez,pv,by omega,fun q hq=>?_,fun l1 ys1 qs hl1 pq1 prm1 srt1=>?_⟩
 ·obtain ⟨k,hk,rfl⟩:=List.mem_map.mp hq
  exact psum k hk
 have q3:=ja3 hl1 (.lst ys1)
 have el1:upd H2 l1 (.lst ys1) l1 = some (.lst ys1):=ja1
 have pq1:=Prs.same q3 pq1
 generalize upd H2 l1 (.lst ys1) = H3 at q3 el1 pq1
 have s3:=s2.trans q3
 walk_at "RD"
 subst hR
 walk_at "RD"
 refine jan (Itl K ta) H3 (fun R' hR'=>?_) (fun y2 hy2=>jav ts.length (fun j σ' Hc=>∃ w1 w2,σ' = [w1,w2,some (.ref d)]∧Same H3 Hc∧∃ vs,Hc y2 = some (.lst vs)∧Prs Hc vs ((ts.take j).map (reT cs))) ⟨none,none,rfl,ja3 hy2 _,[],ja1,.nil⟩ ?_ ?_)
 ·unfold jc1
  simp_arith [jam,s3 _ _ eu,at1]
  exact ⟨ta,rfl,⟨_,SqL.of (s3 _ _ et)⟩,hR'⟩
 ·rintro j σ' Hc hj ⟨w1,w2,rfl,s4,ws,ev,pw⟩
  have z1:=SqL.of (K:=K) (s4 _ _ (s3 _ _ et))
  have x1:=List.getElem?_eq_getElem (show j < ys.length by omega)
  refine ⟨⟨_,_,z1,x1⟩,?_⟩
  rintro y H' ⟨rfl,hy⟩
  obtain ⟨q,hq,pq⟩:=jag pt (hy _ z1)
  obtain ⟨t,rfl,ht⟩:=pq.same (s3.trans s4)
  have hqm:=tin q (List.mem_of_getElem? hq)
  have hwl:ws.length ≤ 120:=by
   have:=Paired.length pw
   rw [List.length_map,List.length_take] at this
   omega
  simp_arith [ht,s4 _ _ (s3 _ _ ed),jbr (get q.1 hqm.1).1,jbr (get q.2 hqm.2).1]
  refine ⟨_,_,rfl,fun tt H5 q5 htt ett=>?_⟩
  have ev5:=q5 _ _ ev
  refine ⟨_,ev5,szl' (by omega),_,_,rfl,jar (s4.trans q5) hy2,ws ++ [.ref tt],ja1,?_⟩
  rw [jaq hq,List.map_append]
  have t6:=jax (ys:=ws ++ [.ref tt]) ev5
  exact jal (Prs.tups t6 (Prs.same q5 pw)) (Pr.tups (p:=reT cs q) ⟨tt,rfl,ett⟩ t6)
 rintro σ' H4 ⟨w1,w2,rfl,s4,ws,ew,pw⟩
 refine ⟨⟨_,SqL.of (s4 _ _ (s3 _ _ et)),by omega⟩,?_⟩
 rw [List.take_length] at pw
 have hwl:ws.length = ts.length:=by have:=Paired.length pw; rw [List.length_map] at this; exact this
 refine ⟨y2,ws,_,1000,rfl,ew,pw,by omega,fun q hq=>?_,fun l2 ys2 us hl2 pq2 prm2 srt2=>?_⟩
 ·obtain ⟨k,hk,rfl⟩:=List.mem_map.mp hq
  exact (je6 (get _ (tin k hk).1).2 (get _ (tin k hk).2).2).2
 have q5:=ja3 hl2 (.lst ys2)
 have el2:upd H4 l2 (.lst ys2) l2 = some (.lst ys2):=ja1
 generalize upd H4 l2 (.lst ys2) = H5 at q5 el2
 walk_at "RD"
 intro r hr
 have q6:=ja3 hr (.tup [.ref l1,.ref l2])
 have q46:=s4.trans (q5.trans q6)
 exact h _ qs us _ (s3.trans q46) ⟨r,l1,l2,ys1,ys2,rfl,ja1,q46 _ _ el1,q6 _ _ el2,Prs.same q46 pq1,Prs.same (q5.trans q6) pq2⟩ ⟨prm1,srt1⟩ ⟨prm2,srt2⟩
end
end My
namespace My
open PySem L2
section
variable {P:Program} {w:World} {K:PySem.W.Frag} {mg:Str→Option Value} {base:Heap} {c1 c2 c3 c4:Tok} {C_NoWeb f_NoWeb:Addr} {dI:FuncData}
theorem jhn {f:Int→V}:∀ (ls:List Int) (k:Nat),(ls.map f).eraseIdx k = (ls.eraseIdx k).map f
 | [],_=>rfl
 | _ :: _,0=>rfl
 | n :: r,k + 1=>by
  rw [List.map_cons,List.eraseIdx_cons_succ,List.eraseIdx_cons_succ,List.map_cons,jhn r k]
theorem joy {tk:List Int} (hl:tk.length < 1000) {x:Int} (h0:0 ≤ x) (h1:x ≤ 999):∃ m:Nat,(x + (m:Int)) % 1000 ∉ tk:=by
 refine Classical.byContradiction fun c=>?_
 have all:∀ m:Nat,(x + (m:Int)) % 1000 ∈ tk:=fun m=>Classical.byContradiction fun d=>c ⟨m,d⟩
 have h:=jfo (a:=(List.range 1000).map fun m:Nat=>(x + (m:Int)) % 1000) (b:=tk) ?_ ?_
 ·rw [List.length_map,List.length_range] at h
  omega
 ·unfold List.Nodup
  rw [List.pairwise_map]
  refine List.Pairwise.imp_of_mem (fun {a b} ha hb hne e=>hne ?_) (List.nodup_range (n:=1000))
  have ha:=List.mem_range.mp ha
  have hb:=List.mem_range.mp hb
  omega
 ·intro n hn
  obtain ⟨m,_,rfl⟩:=List.mem_map.mp hn
  exact all m
theorem jh7 {f:Addr} {fd:FuncData} {f_law_take:Addr} {d_law_take:FuncData} {f_law_places:Addr} {d_law_places:FuncData} (B:Blt mg) (D:DefAt K mg "_law_great" (top 47) ["_law_state"] f fd) (D_law_take:DefAt K mg "_law_take" (top 34) ["_law_state","_law_many"] f_law_take d_law_take) (G_law_take:FnOk P w K mg base CX0 1 f_law_take d_law_take ["_law_state","_law_many"] jd5) (D_law_places:DefAt K mg "_law_places" (top 35) ["_law_state","_law_count"] f_law_places d_law_places) (G_law_places:FnOk P w K mg base CX0 2 f_law_places d_law_places ["_law_state","_law_count"] jfr):FnOk P w K mg base CX0 4 f fd ["_law_state"] jkh:=by
 have sc:FnScope ["_law_state","_law_places_here","_law_ties","_law_k","_law_ago"] ["_law_state"] (jac (top 47)):=⟨rfl,rfl,rfl,by decide +kernel,rfl,by decide +kernel,by decide +kernel⟩
 refine D.F.ok sc (fun vs H Q E h=>?_) (fun cdv A outer s H vs Q E hr h=>?_)
 ·obtain ⟨st,o,rfl,_⟩:=h
  rfl
 obtain ⟨st,o,rfl,es,so,h⟩:=h
 have hu:=jba hr
 have hu0:_ < PySem.cLine:=Nat.lt_of_succ_lt hu
 refine ⟨_,(ja5 (jaj (i:=1) sc.nd rfl (Or.inl rfl) (ja9 G_law_places (hr.mono (by decide)) rfl D_law_places.m D_law_places.F.kp D_law_places.b .nil jai (ja0 (qv 0) (ja0 (jau jcf ja4 (ja9 G_law_take (hr.mono (by decide)) rfl D_law_take.m D_law_take.F.kp D_law_take.b .nil jai (ja0 (qv 0) (ja0 ja4 ja2)))) ja2)))) (ja5 (jaj (i:=2) sc.nd rfl (Or.inl rfl) (jb8 ja2)) (ja5 (jca PassesOwn.never rfl (jh2 rfl B.range (ja0 ja4 (ja0 (jab jdr rfl B.len PySem.boot_len (ja0 (qv 1) ja2)) ja2))) (jae (i:=3) sc.nd rfl (Or.inl rfl)) (ja7 (jca PassesOwn.never rfl (jaz (jb8 (ja0 ja4 (ja0 (jau jcf ja4 (ja9 G_law_take (hr.mono (by decide)) rfl D_law_take.m D_law_take.F.kp D_law_take.b .nil jai (ja0 (qv 0) (ja0 ja4 ja2)))) ja2)))) (jae (i:=4) sc.nd rfl (Or.inl rfl)) (ja7 (jbf (PW.pt (jf7 (jat q_le (qv 4) (qv 3) (jap _)) (jdj (jat q_gt (ja9 G_law_take (hr.mono (by decide)) rfl D_law_take.m D_law_take.F.kp D_law_take.b .nil jai (ja0 (qv 0) (ja0 ja4 ja2))) ja4 (jap _))))) (ja7 (jbm (q_bm PySem.F.plainAttrs_list PySem.F.slot_list_append PySem.F.type_list_append jbz (qv 2) (ja0 (jay (ja0 (jah q_ix (jah q_ix (qv 1) (jau jgx (qv 3) (qv 4)) (fun _ _=>rfl)) ja4 (fun _ _=>rfl)) (ja0 (jah q_ix (jah q_ix (qv 1) (qv 3) (fun _ _=>rfl)) ja4 (fun _ _=>rfl)) ja2))) ja2)))) jao))))) (ja7 (jak (jay (ja0 (qv 1) (ja0 (jab jbc rfl B.sorted PyProof.Rows.boot_sorted (ja0 (qv 2) ja2)) ja2)))))))),?_⟩
 refine ja8 fun R hR=>?_
 walk_at "RD"
 refine ⟨st,o,11,rfl,es,so,by decide,by decide,fun n o1 n0 n1 so1=>?_⟩
 have b1:=But.at st H o1
 have e1:upd H st o1 st = some o1:=ja1
 generalize upd H st o1 = H1 at b1 e1
 walk_at "RD"
 refine ⟨st,o1,30 + n,rfl,e1,so1,by omega,by omega,fun r HA oA xs ps hr0 bA eA soA er pp hlen dr=>?_⟩
 have nr:r ≠ st:=fun z=>by rw [z,e1] at hr0; cases hr0
 have bA1:=b1.trans bA
 have hlx:xs.length = ps.length:=Paired.length pp
 have hpl:ps.length ≤ 40:=by omega
 have plok:=dr.pl (s:=0) (by omega) (by omega)
 have hnd:=plok.nodup
 have rise:=dr.rise
 walk_at "RD"
 subst hR
 refine ja8 fun R hR=>?_
 walk_at "RD"
 intro tl htl
 have ntl:tl ≠ st:=(ja6 eA htl).symm
 have nrt:r ≠ tl:=ja6 er htl
 have htl0:H tl = none:=by
  cases q:H tl with
  | none=>rfl
  | some u=>rw [bA1 _ _ ntl q] at htl; cases htl
 have q2:=ja3 htl (.lst [])
 have etl:upd HA tl (.lst []) tl = some (.lst []):=ja1
 generalize upd HA tl (.lst []) = HB at q2 etl
 have bB:But st H HB:=fun b u nb q=>q2 _ _ (bA1 _ _ nb q)
 have eB:=q2 _ _ eA
 have erB:=q2 _ _ er
 have ppB:=Prs.same q2 pp
 subst hR
 refine ja8 fun R hR=>?_
 refine jbp (Itr 1 (ps.length - 1)) HB (fun R' hR'=>?_) (jci (n:=ps.length - 1) (fun i σ H1=>∃ w4 w5 zs us o',σ = [some (.ref st),some (.ref r),some (.ref tl),w4,w5]∧But st H H1∧H1 st = some o'∧StO o'∧H1 r = some (.lst xs)∧Prs H1 xs ps∧H1 tl = some (.lst zs)∧Prs H1 zs us∧us.Nodup∧(∀ t ∈ us,(∃ a b pa pb,a < b∧b < 1 + i∧ps[a]? = some pa∧ps[b]? = some pb∧t = (pa.1,pb.1)))∧us.length ≤ 2 * i) ⟨none,none,[],[],oA,rfl,bB,eB,soA,erB,ppB,etl,.nil,List.nodup_nil,(fun t ht=>by cases ht),Nat.zero_le _⟩ ?_ ?_)
 ·unfold jox
  simp_arith [jam,erB]
  refine ⟨_,_,rfl,⟨by omega,by omega,by omega,by omega⟩,?_⟩
  rw [show ((xs.length:Int) - 1).toNat = ps.length - 1 by omega]
  exact hR'
 ·rintro i σ H1 hi ⟨w4,w5,zs,us,o',rfl,b1,e1,so',er1,pp1,etl1,pz,nd,hus,hul⟩
  have xk:ps[1 + i]? = some (ps[1 + i]'(by omega)):=List.getElem?_eq_getElem _
  generalize ps[1 + i]'(by omega) = pk at xk
  simp only [jg8,List.set_cons_zero,List.set_cons_succ]
  refine jf4 (ι:=Addr × Hp × Int) (fun q=>Itl K q.1) (fun q=>q.2.1) (fun q=>But st H1 q.2.1∧(∃ o2,q.2.1 st = some o2∧StO o2)∧q.1 ≠ st∧q.1 ≠ tl∧q.2.1 q.1 = some (.lst [.int 1,.int q.2.2])∧2 ≤ q.2.2∧q.2.2 ≤ 6) (fun R' hR'=>?_) (fun q0 ok0=>?_)
  ·unfold jc1
   walk_at "RD"
   refine ⟨st,o',5,rfl,e1,so',by decide,by decide,fun d o2 d0 d1 so2=>?_⟩
   have b2:=But.at st H1 o2
   have e2:upd H1 st o2 st = some o2:=ja1
   have etl2:=b2 _ _ ntl etl1
   generalize upd H1 st o2 = H2 at b2 e2 etl2
   walk_at "RD"
   intro l hl
   have q3:=ja3 hl (.lst [.int 1,.int (2 + d)])
   exact ⟨l,rfl,⟨_,SqL.of ja1⟩,hR' (l,_,2 + d) ⟨fun b u nb q=>q3 _ _ (b2 _ _ nb q),⟨o2,q3 _ _ e2,so2⟩,(ja6 e2 hl).symm,(ja6 etl2 hl).symm,ja1,by show 2 ≤ 2 + d; omega,by show 2 + d ≤ 6; omega⟩⟩
  obtain ⟨l,H2,g⟩:=q0
  obtain ⟨b2,⟨o2,e2,so2⟩,nl,nlt,el,g2,g6⟩:=ok0
  dsimp only at b2 e2 nl nlt el g2 g6
  have t12:=b2.tups e1 so'.imm
  refine jde (K:=K) (a:=l) (xs:=[.int 1,.int g]) (fun e σ H3=>∃ w5 zs us o',σ = [some (.ref st),some (.ref r),some (.ref tl),some (.int (1 + (i:Int))),w5]∧But st H H3∧H3 st = some o'∧StO o'∧H3 l = some (.lst [.int 1,.int g])∧H3 r = some (.lst xs)∧Prs H3 xs ps∧H3 tl = some (.lst zs)∧Prs H3 zs us∧us.Nodup∧(∀ t ∈ us,(∃ a b pa pb,a < b∧b < 1 + i∧ps[a]? = some pa∧ps[b]? = some pb∧t = (pa.1,pb.1)) ∨ ∃ a pa,ps[a]? = some pa∧t = (pa.1,pk.1)∧((a + 1 = 1 + i∧1 ≤ e) ∨ (a + 2 ≤ 1 + i∧2 ≤ e)))∧us.length ≤ 2 * i + e) ⟨_,zs,us,o2,rfl,b1.trans b2,e2,so2,el,b2 _ _ nr er1,Prs.tups t12 pp1,b2 _ _ ntl etl1,Prs.tups t12 pz,nd,fun t ht=>.inl (hus t ht),by omega⟩ (fun e σ H3 _ ⟨_,_,_,_,_,_,_,_,el3,_⟩=>SqL.of el3) ?_ ?_
  ·rintro e x σ H3 hx ⟨w5,zs,us,o3,rfl,b3,e3,so3,el3,er3,pp3,etl3,pz3,nd3,hus3,hul3⟩
   obtain ⟨ag,rfl,hag⟩:∃ ag,x = .int ag∧((e = 0∧ag = 1) ∨ (e = 1∧ag = g)):=by
    match e,hx with
    | 0,hx=>exact ⟨1,(Option.some.inj hx).symm,.inl ⟨rfl,rfl⟩⟩
    | 1,hx=>exact ⟨g,(Option.some.inj hx).symm,.inr ⟨rfl,rfl⟩⟩
   have hzl:zs.length = us.length:=Paired.length pz3
   have keep:∀ t ∈ us,(∃ a b pa pb,a < b∧b < 1 + i∧ps[a]? = some pa∧ps[b]? = some pb∧t = (pa.1,pb.1)) ∨ ∃ a pa,ps[a]? = some pa∧t = (pa.1,pk.1)∧((a + 1 = 1 + i∧1 ≤ e + 1) ∨ (a + 2 ≤ 1 + i∧2 ≤ e + 1)):=fun t ht=>(hus3 t ht).imp id fun ⟨a,pa,h1,h2,h3⟩=>⟨a,pa,h1,h2,h3.imp (fun z=>⟨z.1,by omega⟩) (fun z=>⟨z.1,by omega⟩)⟩
   walk_at "RD"
   by_cases c1:ag ≤ 1 + (i:Int)
   ·rw [decide_eq_true c1]
    walk_at "RD"
    refine ⟨st,o3,4,rfl,e3,so3,by decide,by decide,fun d o4 d0 d1 so4=>?_⟩
    have b4:=But.at st H3 o4
    have t4:=b4.tups e3 so3.imm
    have e4:upd H3 st o4 st = some o4:=ja1
    generalize upd H3 st o4 = H4 at b4 t4 e4
    have er4:=b4 _ _ nr er3
    have etl4:=b4 _ _ ntl etl3
    have el4:=b4 _ _ nl el3
    have pp4:=Prs.tups t4 pp3
    have pz4:=Prs.tups t4 pz3
    have b34:=b3.trans b4
    walk_at "RD"
    refine ite2 (fun _=>?_) (fun _=>⟨_,zs,us,o4,rfl,b34,e4,so4,el4,er4,pp4,etl4,pz4,nd3,keep,by omega⟩)
    obtain ⟨a,ha⟩:∃ a:Nat,(a:Int) = 1 + (i:Int) - ag:=⟨(1 + (i:Int) - ag).toNat,by omega⟩
    have xa:ps[a]? = some (ps[a]'(by omega)):=List.getElem?_eq_getElem _
    generalize ps[a]'(by omega) = pa at xa
    obtain ⟨uk,gk,hgk⟩:=jb5 pp4 xk
    obtain ⟨ua,ga,hga⟩:=jb5 pp4 xa
    obtain ⟨tk,rfl,hk4⟩:=hgk
    obtain ⟨ta,rfl,ha4⟩:=hga
    have ak:atI xs (1 + (i:Int)) = some (.ref tk):=by
     have:=jc3 gk
     rwa [show ((1 + i:Nat):Int) = 1 + (i:Int) by omega] at this
    have aa:atI xs (1 + (i:Int) - ag) = some (.ref ta):=by rw [← ha]; exact jc3 ga
    refine ⟨⟨tl,_,rfl,etl4⟩,?_⟩
    simp_arith [jam,er4,ak,aa,hk4,ha4,at0]
    intro t ht
    have q5:=ja3 ht (.tup [.int pa.1,.int pk.1])
    have ett:upd H4 t (.tup [.int pa.1,.int pk.1]) t = some (.tup [.int pa.1,.int pk.1]):=ja1
    generalize upd H4 t (.tup [.int pa.1,.int pk.1]) = H5 at q5 ett
    have etl5:=q5 _ _ etl4
    simp_arith [etl5]
    have t6:=jax (ys:=zs ++ [.ref t]) etl5
    refine ⟨szl' (by omega),_,zs ++ [.ref t],us ++ [(pa.1,pk.1)],o4,rfl,fun b u nb q=>?_,?_,so4,?_,?_,Prs.tups t6 (Prs.same q5 pp4),ja1,jal (Prs.tups t6 (Prs.same q5 pz4)) (Pr.tups (p:=(pa.1,pk.1)) ⟨t,rfl,ett⟩ t6),?_,?_,by rw [List.length_append]; show _ + 1 ≤ _; omega⟩
    ·rw [jaa (ja6 q htl0)]; exact q5 _ _ (b34 _ _ nb q)
    ·rw [jaa ntl.symm]; exact q5 _ _ e4
    ·rw [jaa nlt]; exact q5 _ _ el4
    ·rw [jaa nrt]; exact q5 _ _ er4
    ·rw [List.nodup_append]
     refine ⟨nd3,List.nodup_cons.mpr ⟨(fun z=>by cases z),List.nodup_nil⟩,fun y hy z hz e9=>?_⟩
     rw [List.mem_singleton.mp hz] at e9
     rw [e9] at hy
     rcases hus3 _ hy with ⟨a1,b1',p1,p2,h1,h2,h3,h4,h5⟩ | ⟨a1,p1,h1,h2,h3⟩
     ·have:=rise _ _ _ _ h2 h4 xk
      injection h5 with _ h5
      omega
     ·injection h2 with h2 _
      by_cases ca:a1 = a
      ·rcases hag with ⟨f1,f2⟩ | ⟨f1,f2⟩ <;> omega
      ·have h6:(ps.map (·.1))[a1]? = some p1.1:=by rw [List.getElem?_map,h1]; rfl
       have h7:(ps.map (·.1))[a]? = some pa.1:=by rw [List.getElem?_map,xa]; rfl
       exact jg2 hnd h6 h7 ca h2.symm
    ·intro y hy
     rcases List.mem_append.mp hy with hy | hy
     ·exact keep y hy
     ·rw [List.mem_singleton.mp hy]
      refine .inr ⟨a,pa,xa,rfl,?_⟩
      rcases hag with ⟨f1,f2⟩ | ⟨f1,f2⟩
      ·exact .inl ⟨by omega,by omega⟩
      ·exact .inr ⟨by omega,by omega⟩
   ·rw [decide_eq_false c1]
    walk_at "RD"
    exact ⟨_,zs,us,o3,rfl,b3,e3,so3,el3,er3,pp3,etl3,pz3,nd3,keep,by omega⟩
  ·rintro σ H3 ⟨w5,zs,us,o3,rfl,b3,e3,so3,el3,er3,pp3,etl3,pz3,nd3,hus3,hul3⟩
   refine ⟨_,_,zs,us,o3,rfl,b3,e3,so3,er3,pp3,etl3,pz3,nd3,fun t ht=>?_,by simp at hul3; omega⟩
   rcases hus3 t ht with ⟨a1,b1',p1,p2,h1,h2,h3,h4,h5⟩ | ⟨a1,p1,h1,h2,h3⟩
   ·exact ⟨a1,b1',p1,p2,h1,by omega,h3,h4,h5⟩
   ·exact ⟨a1,1 + i,p1,pk,by omega,by omega,h1,xk,h2⟩
 ·rintro σ H1 ⟨w4,w5,zs,us,o',rfl,b1,e1,so',er1,pp1,etl1,pz,nd,hus,hul⟩
  have hzl:zs.length = us.length:=Paired.length pz
  have kin:∀ (a:Nat) (p:Int × Int),ps[a]? = some p→p ∈ ps:=fun a p hp=>List.mem_of_getElem? hp
  have rng:∀ t ∈ us,(0 ≤ t.1∧0 ≤ t.2∧t.2 < 1000)∧t.1 < t.2∧hasK (jb0 ps) t.1 = true∧hasK (jb0 ps) t.2 = true:=fun t ht=>by
   obtain ⟨a,b,pa,pb,h1,h2,h3,h4,rfl⟩:=hus t ht
   have g1:=plok.gt pa (kin a pa h3)
   have g2:=plok.gt pb (kin b pb h4)
   have g3:=(plok.pos pb (kin b pb h4)).2
   have hr9:pa.1 < pb.1:=rise a b pa pb h1 h3 h4
   refine ⟨⟨?_,?_,?_⟩,hr9,jin (p:=pa) hnd (kin a pa h3),jin (p:=pb) hnd (kin b pb h4)⟩
   ·show 0 ≤ pa.1; omega
   ·show 0 ≤ pb.1; omega
   ·show pb.1 < 1000; omega
  walk_at "RD"
  subst hR
  walk_at "RD"
  refine ⟨tl,zs,us,1000,rfl,etl1,pz,by omega,fun q hq=>(rng q hq).1.2,fun l ys qs hl pq prm srt=>?_⟩
  have q5:=ja3 hl (.lst ys)
  have el:upd H1 l (.lst ys) l = some (.lst ys):=ja1
  have pq5:=Prs.same q5 pq
  generalize upd H1 l (.lst ys) = H5 at q5 el pq5
  walk_at "RD"
  intro wv hwv
  have q6:=ja3 hwv (.tup [.ref r,.ref l])
  have q56:=q5.trans q6
  refine h _ _ o' ps qs (fun b u nb q=>q56 _ _ (b1 _ _ nb q)) (q56 _ _ e1) so' ⟨wv,r,l,xs,ys,rfl,ja1,q56 _ _ er1,q6 _ _ el,Prs.same q56 pp1,Prs.same q6 pq5⟩ ⟨hpl,plok,by rw [prm.length_eq]; omega,TiOk.of (fun t ht=>.inl ?_) srt (prm.nodup_iff.mpr nd) (fun t ht=>(rng t (prm.mem_iff.mp ht)).2)⟩
  have:=(rng t (prm.mem_iff.mp ht)).1.1
  show -1 < t.1
  omega
theorem jh8 {f:Addr} {fd:FuncData} {f_law_take:Addr} {d_law_take:FuncData} (B:Blt mg) (D:DefAt K mg "_law_calls" (top 40) ["_law_state","_law_web_here"] f fd) (D_law_take:DefAt K mg "_law_take" (top 34) ["_law_state","_law_many"] f_law_take d_law_take) (G_law_take:FnOk P w K mg base CX0 1 f_law_take d_law_take ["_law_state","_law_many"] jd5):FnOk P w K mg base CX0 2 f fd ["_law_state","_law_web_here"] jki:=by
 have sc:FnScope ["_law_state","_law_web_here","_law_left","_law_taken","_law_calls_here","_law_way","_law_place","_law_price","_law_number"] ["_law_state","_law_web_here"] (jac (top 40)):=⟨rfl,rfl,rfl,by decide +kernel,rfl,by decide +kernel,by decide +kernel⟩
 refine D.F.ok sc (fun vs H Q E h=>?_) (fun cdv A outer s H vs Q E hr h=>?_)
 ·obtain ⟨st,o,v,ps,ts,rfl,_⟩:=h
  rfl
 obtain ⟨st,o,v,ps,ts,rfl,es,so,hw,wok,h⟩:=h
 obtain ⟨u,pa,ta,xs,ys,rfl,eu,ep,et,pp,pt⟩:=id hw
 have hlx:xs.length = ps.length:=Paired.length pp
 have hnd:=wok.p.nodup
 have okl:=wok.pl
 have nps:pa ≠ st:=jih ep pp es so
 have hu:=jba hr
 have hu0:_ < PySem.cLine:=Nat.lt_of_succ_lt hu
 refine ⟨_,(ja5 (jd2 (i:=2) sc.nd rfl (Or.inl rfl) (CpScope.of (N:=["_law_place","_law_price"]) (src:=[none,none]) (by rfl)) rfl (jaz (jah q_ix (qv 1) ja4 (fun _ _=>rfl))) (fun _ _ _ _=>(jbi (n:=2) rfl (jaf (jae (i:=0) (jad (l:=["_law_place","_law_price"]) (by rfl)) rfl (Or.inl rfl)) (jaf (jae (i:=1) (jad (l:=["_law_place","_law_price"]) (by rfl)) rfl (Or.inl rfl)) jb4)))) (fun _ _ _ _=>jbk) (fun _ _ _ _=>(qv 0))) (ja5 (jaj (i:=3) sc.nd rfl (Or.inl rfl) (jb8 ja2)) (ja5 (jaj (i:=4) sc.nd rfl (Or.inl rfl) (jb8 ja2)) (ja5 (jaj (i:=5) sc.nd rfl (Or.inl rfl) (ja9 G_law_take (hr.mono (by decide)) rfl D_law_take.m D_law_take.F.kp D_law_take.b .nil jai (ja0 (qv 0) (ja0 ja4 ja2)))) (ja5 (jca PassesOwn.never rfl (jaz (jah q_ix (qv 1) ja4 (fun _ _=>rfl))) (jbi (n:=2) rfl (jaf (jae (i:=6) sc.nd rfl (Or.inl rfl)) (jaf (jae (i:=7) sc.nd rfl (Or.inl rfl)) jb4))) (ja5 (jaj (i:=8) sc.nd rfl (Or.inl rfl) (jah q_ix (jb8 (ja0 (ja9 G_law_take (hr.mono (by decide)) rfl D_law_take.m D_law_take.F.kp D_law_take.b .nil jai (ja0 (qv 0) (ja0 ja4 ja2))) (ja0 (ja9 G_law_take (hr.mono (by decide)) rfl D_law_take.m D_law_take.F.kp D_law_take.b .nil jai (ja0 (qv 0) (ja0 ja4 ja2))) (ja0 (jau jgx ja4 (qv 6)) (ja0 (qv 6) ja2))))) (qv 5) (fun _ _=>rfl))) (ja5 (jbf (jat q_eq (qv 5) ja4 (jap _)) (ja7 (jaj (i:=8) sc.nd rfl (Or.inl rfl) (q_bm PySem.F.plainAttrs_list PySem.F.slot_list_pop PySem.F.type_list_pop q_popI (qv 2) (ja0 (ja9 G_law_take (hr.mono (by decide)) rfl D_law_take.m D_law_take.F.kp D_law_take.b .nil jai (ja0 (qv 0) (ja0 (jab jdr rfl B.len PySem.boot_len (ja0 (qv 2) ja2)) ja2))) ja2)))) jao) (ja5 (jml PassesOwn.never (jat q_inL (qv 8) (qv 3) (by with_unfolding_all rfl)) (ja7 (jaj (i:=8) sc.nd rfl (Or.inl rfl) (jau jgz (jau jcf (qv 8) ja4) ja4)))) (ja5 (jbm (q_bm PySem.F.plainAttrs_list PySem.F.slot_list_append PySem.F.type_list_append jbz (qv 3) (ja0 (qv 8) ja2))) (ja7 (jbm (q_bm PySem.F.plainAttrs_list PySem.F.slot_list_append PySem.F.type_list_append jbz (qv 4) (ja0 (jay (ja0 (qv 6) (ja0 (qv 8) ja2))) ja2))))))))) (ja7 (jak (qv 4)))))))),?_⟩
 have krng:∀ p ∈ ps,0 ≤ p.1∧p.1 ≤ 999:=fun p hp=>by
  have g1:=wok.p.gt p hp
  have g2:=(wok.p.pos p hp).2
  exact ⟨by omega,by omega⟩
 refine ja8 fun R hR=>?_
 refine jan (Itl K pa) H (fun R2 hR2=>?_) (fun lf hlf=>jav ps.length (fun j σ' Hc=>∃ w1 w2,σ' = [w1,w2]∧Same H Hc∧Hc lf = some (.lst (((ps.take j).map (·.1)).map V.int))) ⟨none,none,rfl,ja3 hlf _,ja1⟩ ?_ ?_)
 ·unfold jc1
  simp_arith [jam,eu,at0]
  exact ⟨pa,rfl,⟨_,SqL.of ep⟩,hR2⟩
 ·rintro j σ' Hc hj ⟨w1,w2,rfl,s4,ez⟩
  have z1:SqL K Hc pa xs:=SqL.of (s4 _ _ ep)
  have x1:xs[j]? = some (xs[j]'(by omega)):=List.getElem?_eq_getElem _
  refine ⟨⟨_,_,z1,x1⟩,?_⟩
  rintro y H' ⟨rfl,hy⟩
  obtain ⟨q,hq,pq⟩:=jag pp (hy _ z1)
  obtain ⟨t,rfl,ht⟩:=pq.same s4
  simp_arith [ht]
  refine ⟨_,ez,?_,_,_,rfl,jar s4 hlf,?_⟩
  ·rw [List.length_map,List.length_map,List.length_take]; exact szl' (by omega)
  ·rw [ja1,jaq hq,List.map_append,List.map_append]; rfl
 rintro σ' H1 ⟨w1,w2,rfl,s1,elf⟩
 refine ⟨⟨_,SqL.of (s1 _ _ ep),by omega⟩,?_⟩
 rw [List.take_length] at elf
 have nlf:lf ≠ st:=(ja6 es hlf).symm
 walk_at "RD"
 subst hR
 refine ja8 fun R hR=>?_
 walk_at "RD"
 intro tk htk
 have s2:=s1.trans (ja3 htk (.lst []))
 have etk:upd H1 tk (.lst []) tk = some (.lst []):=ja1
 have elf2:=ja3 htk (.lst []) _ _ elf
 have htk0:=s1.free htk
 have nlt:lf ≠ tk:=ja6 elf htk
 generalize upd H1 tk (.lst []) = H2 at s2 etk elf2
 subst hR
 refine ja8 fun R hR=>?_
 walk_at "RD"
 intro ca hca
 have s3:=s2.trans (ja3 hca (.lst []))
 have eca:upd H2 ca (.lst []) ca = some (.lst []):=ja1
 have elf3:=ja3 hca (.lst []) _ _ elf2
 have etk3:=ja3 hca (.lst []) _ _ etk
 have hca0:=s2.free hca
 have nlc:lf ≠ ca:=ja6 elf2 hca
 have ntc:tk ≠ ca:=ja6 etk hca
 generalize upd H2 ca (.lst []) = H3 at s3 eca elf3 etk3
 have ntk:tk ≠ st:=fun e=>by rw [e,es] at htk0; cases htk0
 have nca:ca ≠ st:=fun e=>by rw [e,es] at hca0; cases hca0
 subst hR
 refine ja8 fun R hR=>?_
 walk_at "RD"
 refine ⟨st,o,4,rfl,s3 _ _ es,so,by decide,by decide,fun way o4 y0 y1 so4=>?_⟩
 have b4:=But.at st H3 o4
 have e4:upd H3 st o4 st = some o4:=ja1
 have elf4:=b4 _ _ nlf elf3
 have etk4:=b4 _ _ ntk etk3
 have eca4:=b4 _ _ nca eca
 have bH4:But st H (upd H3 st o4):=fun b x nb q=>b4 _ _ nb (s3 _ _ q)
 generalize upd H3 st o4 = H4 at b4 e4 elf4 etk4 eca4 bH4
 clear s1 s2 s3 elf elf2 elf3 etk etk3 eca b4
 walk_at "RD"
 subst hR
 refine ja8 fun R hR=>?_
 have t4:=bH4.tups es so.imm
 refine jbp (Itl K pa) H4 (fun R' hR'=>?_) (jde (K:=K) (a:=pa) (xs:=xs) (fun i σ H5=>∃ w7 w8 w9 o5,∃ ls:List Int,∃ zs,∃ cs:List (Int × Int),σ = [some (.ref st),some (.ref u),some (.ref lf),some (.ref tk),some (.ref ca),some (.int way),w7,w8,w9]∧But st H H5∧H5 st = some o5∧StO o5∧H5 lf = some (.lst (ls.map V.int))∧H5 tk = some (.lst ((cs.map (·.2)).map V.int))∧H5 ca = some (.lst zs)∧Prs H5 zs cs∧cs.map (·.1) = (ps.take i).map (·.1)∧(∀ c ∈ cs,0 ≤ c.2∧c.2 ≤ 999)∧(cs.map (·.2)).Nodup∧(way = 3→ls.length = ps.length - i)∧ls.length ≤ 40∧∀ n ∈ ls,0 ≤ n∧n ≤ 999) ⟨none,none,none,o4,ps.map (·.1),[],[],rfl,bH4,e4,so4,elf4,etk4,eca4,.nil,rfl,(fun c hc=>by cases hc),List.nodup_nil,(fun _=>by rw [List.length_map]; omega),by rw [List.length_map]; exact okl,fun n hn=>by
  obtain ⟨p,hp,rfl⟩:=List.mem_map.mp hn
  exact krng p hp⟩ (fun i σ H5 _ ⟨_,_,_,_,_,_,_,_,b5,_⟩=>SqL.of (b5 _ _ nps ep)) ?_ ?_)
 ·unfold jc1
  simp_arith [jam,t4 _ _ rfl eu,at0]
  exact ⟨pa,rfl,⟨_,SqL.of (bH4 _ _ nps ep)⟩,hR'⟩
 ·rintro i x σ H5 hx ⟨w7,w8,w9,o5,ls,zs,cs,rfl,b5,e5,so5,elf5,etk5,eca5,pz,hks,rng,nd,hl3,hl40,lrng⟩
  obtain ⟨p,hp,px⟩:=jag pp hx
  have hpm:=List.mem_of_getElem? hp
  have hil:=(List.getElem?_eq_some_iff.mp hp).1
  obtain ⟨t,rfl,ht⟩:=px.tups (b5.tups es so.imm)
  have hcl:cs.length ≤ 40:=by
   have:=congrArg List.length hks
   rw [List.length_map,List.length_map,List.length_take] at this
   omega
  have hzl:zs.length = cs.length:=Paired.length pz
  simp only [jlm,jhm,jln,jg8,ht,List.set_cons_zero,List.set_cons_succ]
  refine ⟨rfl,?_⟩
  refine ja8 fun R8 hR8=>?_
  walk_at "RD"
  refine ⟨st,o5,1000,rfl,e5,so5,by decide,by decide,fun d1 oA d10 d11 soA=>?_⟩
  have bA:=But.at st H5 oA
  have eA:upd H5 st oA st = some oA:=ja1
  generalize upd H5 st oA = HA at bA eA
  refine ⟨st,oA,12,rfl,eA,soA,by decide,by decide,fun d2 oB d20 d21 soB=>?_⟩
  have bB:=bA.trans (But.at st HA oB)
  have eB:upd HA st oB st = some oB:=ja1
  generalize upd HA st oB = HB at bB eB
  walk_at "RD"
  intro m1 hm1
  have q6:=ja3 hm1 (.lst [.int d1,.int d2,.int (999 - p.1),.int p.1])
  have em1:upd HB m1 (.lst [.int d1,.int d2,.int (999 - p.1),.int p.1]) m1 = some (.lst [.int d1,.int d2,.int (999 - p.1),.int p.1]):=ja1
  generalize upd HB m1 (.lst [.int d1,.int d2,.int (999 - p.1),.int p.1]) = HC at q6 em1
  have pk:=krng p hpm
  obtain ⟨x0,hx0,x00,x01⟩:∃ x0,atI [V.int d1,.int d2,.int (999 - p.1),.int p.1] way = some (.int x0)∧0 ≤ x0∧x0 ≤ 999:=by
   obtain ⟨x0,ev,hv⟩:=jor (a:=d1) (b:=d2) (c:=999 - p.1) (e:=p.1) y0 y1
   exact ⟨x0,ev,by omega,by omega⟩
  have bC:But st H5 HC:=fun b y nb q=>q6 _ _ (bB _ _ nb q)
  have eC:=q6 _ _ eB
  simp_arith [jam,em1,hx0]
  subst hR8
  refine ja8 fun R8 hR8=>?_
  have F1:∀ (x:Int) (ls:List Int) (H6:Hp) (o6:HO),0 ≤ x→x ≤ 999→But st H H6→TupS H5 H6→H6 st = some o6→StO o6→H6 lf = some (.lst (ls.map V.int))→H6 tk = some (.lst ((cs.map (·.2)).map V.int))→H6 ca = some (.lst zs)→(way = 3→ls.length = ps.length - (i + 1))→ls.length ≤ 40→(∀ n ∈ ls,0 ≤ n∧n ≤ 999)→R8 { nx:=fun σ H5=>∃ w7 w8 w9 o5,∃ ls:List Int,∃ zs,∃ cs:List (Int × Int),σ = [some (.ref st),some (.ref u),some (.ref lf),some (.ref tk),some (.ref ca),some (.int way),w7,w8,w9]∧But st H H5∧H5 st = some o5∧StO o5∧H5 lf = some (.lst (ls.map V.int))∧H5 tk = some (.lst ((cs.map (·.2)).map V.int))∧H5 ca = some (.lst zs)∧Prs H5 zs cs∧cs.map (·.1) = (ps.take (i + 1)).map (·.1)∧(∀ c ∈ cs,0 ≤ c.2∧c.2 ≤ 999)∧(cs.map (·.2)).Nodup∧(way = 3→ls.length = ps.length - (i + 1))∧ls.length ≤ 40∧∀ n ∈ ls,0 ≤ n∧n ≤ 999,rt:=Q,bk:=R { nx:=fun x H'=>Q .non H',rt:=Q },ct:=fun σ H5=>∃ w7 w8 w9 o5,∃ ls:List Int,∃ zs,∃ cs:List (Int × Int),σ = [some (.ref st),some (.ref u),some (.ref lf),some (.ref tk),some (.ref ca),some (.int way),w7,w8,w9]∧But st H H5∧H5 st = some o5∧StO o5∧H5 lf = some (.lst (ls.map V.int))∧H5 tk = some (.lst ((cs.map (·.2)).map V.int))∧H5 ca = some (.lst zs)∧Prs H5 zs cs∧cs.map (·.1) = (ps.take (i + 1)).map (·.1)∧(∀ c ∈ cs,0 ≤ c.2∧c.2 ≤ 999)∧(cs.map (·.2)).Nodup∧(way = 3→ls.length = ps.length - (i + 1))∧ls.length ≤ 40∧∀ n ∈ ls,0 ≤ n∧n ≤ 999 } [some (.ref st),some (.ref u),some (.ref lf),some (.ref tk),some (.ref ca),some (.int way),some (.int p.1),some (.int p.2),some (.int x)] H6:=by
   intro x ls H6 o6 x0 x1 b6 t6 e6 so6 elf6 etk6 eca6 hl3 hl40 lrng
   subst hR8
   refine ja8 fun R7 hR7=>?_
   have F2:∀ x:Int,0 ≤ x→x ≤ 999→x ∉ cs.map (·.2)→R7 { nx:=fun σ H5=>∃ w7 w8 w9 o5,∃ ls:List Int,∃ zs,∃ cs:List (Int × Int),σ = [some (.ref st),some (.ref u),some (.ref lf),some (.ref tk),some (.ref ca),some (.int way),w7,w8,w9]∧But st H H5∧H5 st = some o5∧StO o5∧H5 lf = some (.lst (ls.map V.int))∧H5 tk = some (.lst ((cs.map (·.2)).map V.int))∧H5 ca = some (.lst zs)∧Prs H5 zs cs∧cs.map (·.1) = (ps.take (i + 1)).map (·.1)∧(∀ c ∈ cs,0 ≤ c.2∧c.2 ≤ 999)∧(cs.map (·.2)).Nodup∧(way = 3→ls.length = ps.length - (i + 1))∧ls.length ≤ 40∧∀ n ∈ ls,0 ≤ n∧n ≤ 999,rt:=Q,bk:=R { nx:=fun x H'=>Q .non H',rt:=Q },ct:=fun σ H5=>∃ w7 w8 w9 o5,∃ ls:List Int,∃ zs,∃ cs:List (Int × Int),σ = [some (.ref st),some (.ref u),some (.ref lf),some (.ref tk),some (.ref ca),some (.int way),w7,w8,w9]∧But st H H5∧H5 st = some o5∧StO o5∧H5 lf = some (.lst (ls.map V.int))∧H5 tk = some (.lst ((cs.map (·.2)).map V.int))∧H5 ca = some (.lst zs)∧Prs H5 zs cs∧cs.map (·.1) = (ps.take (i + 1)).map (·.1)∧(∀ c ∈ cs,0 ≤ c.2∧c.2 ≤ 999)∧(cs.map (·.2)).Nodup∧(way = 3→ls.length = ps.length - (i + 1))∧ls.length ≤ 40∧∀ n ∈ ls,0 ≤ n∧n ≤ 999 } [some (.ref st),some (.ref u),some (.ref lf),some (.ref tk),some (.ref ca),some (.int way),some (.int p.1),some (.int p.2),some (.int x)] H6:=by
    intro x x0 x1 xn
    subst hR7
    refine ja8 fun R6 hR6=>?_
    walk_at "RD"
    refine ⟨⟨tk,_,rfl,etk6⟩,?_⟩
    simp_arith [etk6]
    refine ⟨by rw [List.length_map,List.length_map]; exact szl' (by omega),?_⟩
    have e7:upd H6 tk (.lst ((cs.map (·.2)).map V.int ++ [.int x])) st = some o6:=by rw [jaa ntk.symm]; exact e6
    have etk7:upd H6 tk (.lst ((cs.map (·.2)).map V.int ++ [.int x])) tk = some (.lst ((cs.map (·.2)).map V.int ++ [.int x])):=ja1
    have elf7:upd H6 tk (.lst ((cs.map (·.2)).map V.int ++ [.int x])) lf = some (.lst (ls.map V.int)):=by rw [jaa nlt]; exact elf6
    have eca7:upd H6 tk (.lst ((cs.map (·.2)).map V.int ++ [.int x])) ca = some (.lst zs):=by rw [jaa ntc.symm]; exact eca6
    have b7:But st H (upd H6 tk (.lst ((cs.map (·.2)).map V.int ++ [.int x]))):=fun b y nb q=>by rw [jaa (ja6 q htk0)]; exact b6 _ _ nb q
    have t7:=t6.trans (jax (ys:=(cs.map (·.2)).map V.int ++ [.int x]) etk6)
    generalize upd H6 tk (.lst ((cs.map (·.2)).map V.int ++ [.int x])) = H7 at e7 etk7 elf7 eca7 b7 t7
    subst hR6
    walk_at "RD"
    refine ⟨⟨ca,_,rfl,eca7⟩,?_⟩
    intro tt htt
    have q8:=ja3 htt (.tup [.int p.1,.int x])
    have ett:upd H7 tt (.tup [.int p.1,.int x]) tt = some (.tup [.int p.1,.int x]):=ja1
    generalize upd H7 tt (.tup [.int p.1,.int x]) = H8 at q8 ett
    have eca8:=q8 _ _ eca7
    simp_arith [eca8]
    have t9:=jax (ys:=zs ++ [.ref tt]) eca8
    refine ⟨szl' (by omega),_,_,_,o6,ls,zs ++ [.ref tt],cs ++ [(p.1,x)],rfl,fun b y nb q=>?_,?_,so6,?_,?_,ja1,jal (Prs.tups t9 (Prs.same q8 (Prs.tups t7 pz))) (Pr.tups (p:=(p.1,x)) ⟨tt,rfl,ett⟩ t9),?_,?_,?_,hl3,hl40,lrng⟩
    ·rw [jaa (ja6 q hca0)]; exact q8 _ _ (b7 _ _ nb q)
    ·rw [jaa nca.symm]; exact q8 _ _ e7
    ·rw [jaa nlc]; exact q8 _ _ elf7
    ·rw [jaa ntc,q8 _ _ etk7,List.map_append,List.map_append]; rfl
    ·rw [List.map_append,hks,jaq hp,List.map_append]; rfl
    ·intro c hc
     rcases List.mem_append.mp hc with hc | hc
     ·exact rng c hc
     ·rw [List.mem_singleton.mp hc]; exact ⟨x0,x1⟩
    ·rw [List.map_append,List.nodup_append]
     refine ⟨nd,List.nodup_cons.mpr ⟨(fun z=>by cases z),List.nodup_nil⟩,fun y hy z hz e9=>?_⟩
     have e9:y = x:=e9.trans (List.mem_singleton.mp hz)
     exact xn (by rw [← e9]; exact hy)
   refine ⟨fun m σ' H'=>∃ y,σ' = [some (.ref st),some (.ref u),some (.ref lf),some (.ref tk),some (.ref ca),some (.int way),some (.int p.1),some (.int p.2),some (.int y)]∧H6 = H'∧0 ≤ y∧y ≤ 999∧(y + (m:Int)) % 1000 ∉ cs.map (·.2),?_,?_⟩
   ·obtain ⟨m,hm⟩:=joy (tk:=cs.map (·.2)) (by rw [List.length_map]; omega) x0 x1
    exact ⟨m,x,rfl,rfl,x0,x1,hm⟩
   ·rintro m σ' H' ⟨y,rfl,rfl,g0,g1,hm⟩
    simp_arith [jam,etk6,jjd,flat_ints,jd4]
    refine ite2 (fun c=>?_) (fun c=>?_)
    ·have c:=of_decide_eq_true c
     refine ⟨fun σ' H'=>∃ y,σ' = [some (.ref st),some (.ref u),some (.ref lf),some (.ref tk),some (.ref ca),some (.int way),some (.int p.1),some (.int p.2),some (.int y)]∧H6 = H'∧0 ≤ y∧y ≤ 999∧(y + ((m - 1:Nat):Int)) % 1000 ∉ cs.map (·.2),fun σ' H' q=>⟨m - 1,?_,q⟩,?_⟩
     ·have:m ≠ 0:=fun e=>hm (by
       rw [e,show (y + ((0:Nat):Int)) % 1000 = y by omega]
       exact c)
      omega
     ·have:m ≠ 0:=fun e=>hm (by
       rw [e,show (y + ((0:Nat):Int)) % 1000 = y by omega]
       exact c)
      walk_at "RD"
      refine ⟨by decide,_,rfl,by omega,by omega,?_⟩
      rw [show ((y + 1) % 1000 + ((m - 1:Nat):Int)) % 1000 = (y + (m:Int)) % 1000 by omega]
      exact hm
    ·exact F2 y g0 g1 fun z=>c (decide_eq_true z)
  have bH6:But st H HC:=b5.trans bC
  have tCx:TupS H5 HC:=bC.tups e5 so5.imm
  have elfC:=bC _ _ nlf elf5
  have etkC:=bC _ _ ntk etk5
  have ecaC:=bC _ _ nca eca5
  walk_at "RD"
  by_cases cw:way = 3
  ·simp only [decide_eq_true cw,if_true]
   have hll:=hl3 cw
   refine ⟨⟨lf,_,rfl,elfC⟩,?_⟩
   simp_arith [jam,elfC]
   refine ⟨st,oB,(((ls.map V.int).length:Nat):Int),rfl,eC,soB,by rw [List.length_map]; omega,by rw [List.length_map]; omega,fun g oD g0 g1 soD=>?_⟩
   have bD:=But.at st HC oD
   have tD:=bD.tups eC soB.imm
   have eD:upd HC st oD st = some oD:=ja1
   have elfD:=bD _ _ nlf elfC
   have etkD:=bD _ _ ntk etkC
   have ecaD:=bD _ _ nca ecaC
   have bHD:=bH6.trans bD
   generalize upd HC st oD = HD at bD tD eD elfD etkD ecaD bHD
   rw [List.length_map] at g1
   obtain ⟨k,hk⟩:∃ k:Nat,(k:Int) = g:=⟨g.toNat,by omega⟩
   have hkl:ls[k]? = some (ls[k]'(by omega)):=List.getElem?_eq_getElem _
   generalize ls[k]'(by omega) = n at hkl
   have hkv:(ls.map V.int)[k]? = some (.int n):=by rw [List.getElem?_map,hkl]; rfl
   have hsi:seqIndex? g (ls.map V.int).length = some k:=by
    have:=PySem.StrLaws.seqIndex_nonneg (i:=g) (n:=(ls.map V.int).length) g0 (by rw [List.length_map]; exact g1)
    rw [this]
    congr 1
    omega
   refine ⟨lf,_,g,k,.int n,rfl,rfl,elfD,by omega,by omega,hsi,hkv,?_⟩
   have nr9:=lrng n (List.mem_of_getElem? hkl)
   walk_at "RD"
   refine F1 n (ls.eraseIdx k) _ oD nr9.1 nr9.2 (fun b y nb q=>by rw [jaa (ja6 q hlf)]; exact bHD _ _ nb q) ((tCx.trans tD).trans (jax elfD)) (by rw [jaa nlf.symm]; exact eD) soD (by rw [ja1,jhn]) (by rw [jaa nlt.symm]; exact etkD) (by rw [jaa nlc.symm]; exact ecaD) (fun _=>by rw [List.length_eraseIdx,if_pos (show k < ls.length by omega)]; omega) (Nat.le_trans (List.length_eraseIdx_le ls k) hl40) (fun y hy=>lrng y (List.mem_of_mem_eraseIdx hy))
  ·simp only [decide_eq_false cw,Bool.false_eq_true,if_false]
   exact F1 x0 ls HC oB x00 x01 bH6 tCx eC soB elfC etkC ecaC (fun e=>absurd e cw) hl40 lrng
 ·rintro σ H5 ⟨w7,w8,w9,o5,ls,zs,cs,rfl,b5,e5,so5,elf5,etk5,eca5,pz,hks,rng,nd,hl3,hl40,lrng⟩
  rw [hlx,List.take_length] at hks
  walk_at "RD"
  subst hR
  walk_at "RD"
  exact h ca H5 o5 cs b5 e5 so5 hca0 ⟨zs,eca5,pz⟩ ⟨hks,rng,nd⟩
end
end My
namespace My
open PySem L2
section
variable {P:Program} {w:World} {K:PySem.W.Frag} {mg:Str→Option Value} {base:Heap} {c1 c2 c3 c4:Tok} {C_NoWeb f_NoWeb:Addr} {dI:FuncData}
def DicR (H:Hp) (d:Addr) (cs:List (Int × Int)):Prop:=H d = some (.dK (jb0 cs)) ∨ ∃ o,H d = some (.frz o (.dK (jb0 cs)))
theorem DicR.same {H H':Hp} {d:Addr} {cs:List (Int × Int)} (h:DicR H d cs) (s:Same H H'):DicR H' d cs:=h.imp (s _ _) fun ⟨o,e⟩=>⟨o,s _ _ e⟩
theorem DicR.get {H:Hp} {d:Addr} {cs:List (Int × Int)} (h:DicR H d cs) {n:Int} (hn:n ∈ cs.map (·.1)):DGet H d (.int n) (some (.int (prc cs n))):=by
 rcases h with e | ⟨o,e⟩
 ·exact .inl ⟨_,Sum.inl n,.inl e,rfl,(jbr hn).symm⟩
 ·exact .inl ⟨_,Sum.inl n,.inr ⟨o,e⟩,rfl,(jbr hn).symm⟩
def jjn (d:Int × Int × Int):Dt:=.tup [.int d.1,.int d.2.1,.int d.2.2]
theorem Tp.rep {H:Hp} {v:V} {p:Int × Int × Int} (h:Tp H v p):Rep H (jjn p) v:=by
 obtain ⟨a,rfl,e⟩:=h
 unfold jjn
 rw [Rep]
 refine ⟨a,_,rfl,e,?_⟩
 rw [Reps]
 refine ⟨_,_,rfl,by rw [Rep],?_⟩
 rw [Reps]
 refine ⟨_,_,rfl,by rw [Rep],?_⟩
 rw [Reps]
 exact ⟨_,_,rfl,by rw [Rep],by rw [Reps]⟩
theorem jiz {H:Hp}:∀ {xs:List V} {ps:List (Int × Int × Int)},Tps H xs ps→Reps H (ps.map jjn) xs
 | _,_,.nil=>by rw [List.map_nil,Reps]
 | _,_,.cons r t=>by
  rw [List.map_cons,Reps]
  exact ⟨_,_,rfl,Tp.rep r,jiz t⟩
theorem jeq.rep {H:Hp} {a:Addr} {ds:List (Int × Int × Int)} (h:jeq H a ds):Rep H (.lst (ds.map jjn)) (.ref a):=by
 obtain ⟨xs,e,p⟩:=h
 rw [Rep]
 exact ⟨a,xs,rfl,e,jiz p⟩
theorem jbd.rep {H:Hp} {a:Addr} {ds:List (Int × Int)} (h:jbd H a ds):Rep H (prsD ds) (.ref a):=by
 obtain ⟨xs,e,p⟩:=h
 exact ji8 e p
theorem jho:∀ (ds:List (Int × Int × Int)),jc2 (ds.map jjn) ≤ 1
 | []=>by decide
 | d :: r=>by
  have:=jho r
  have e:depP (jjn d) = 1:=rfl
  rw [List.map_cons,jc2,e]
  omega
def spPap:Sp:=fun vs H Q _=>∃ v c d ps ts cs,vs = [v,.ref c,.ref d]∧jb9 H v ps ts∧WebOk ps ts∧jbd H c cs∧CalOk ps cs∧DicR H d cs∧∀ H',Same H H'→Q (.bl true) H'
theorem jd3 {f:Addr} {fd:FuncData} {f_called_halves:Addr} {d_called_halves:FuncData} {f_called_dues:Addr} {d_called_dues:FuncData} {f_law_pair:Addr} {d_law_pair:FuncData} (B:Blt mg) (D:DefAt K mg "_law_papers_right" (top 48) ["_law_web_here","_law_calls_here","_law_new_here"] f fd) (D_called_halves:DefAt K mg "called_halves" (top 29) ["web","calls","halves"] f_called_halves d_called_halves) (G_called_halves:FnOk P w K mg base CX0 8 f_called_halves d_called_halves ["web","calls","halves"] jng) (D_called_dues:DefAt K mg "called_dues" (top 31) ["web","calls","dues"] f_called_dues d_called_dues) (G_called_dues:FnOk P w K mg base CX0 8 f_called_dues d_called_dues ["web","calls","dues"] jnh) (D_law_pair:DefAt K mg "_law_pair" (top 42) ["_law_one","_law_other"] f_law_pair d_law_pair) (G_law_pair:FnOk P w K mg base CX0 1 f_law_pair d_law_pair ["_law_one","_law_other"] jf5):FnOk P w K mg base CX0 9 f fd ["_law_web_here","_law_calls_here","_law_new_here"] spPap:=by
 have sc:FnScope ["_law_web_here","_law_calls_here","_law_new_here","_law_used","_law_dues","_law_one","_law_other","_law_halves"] ["_law_web_here","_law_calls_here","_law_new_here"] (jac (top 48)):=⟨rfl,rfl,rfl,by decide +kernel,rfl,by decide +kernel,by decide +kernel⟩
 refine D.F.ok sc (fun vs H Q E h=>?_) (fun cdv A outer s H vs Q E hr h=>?_)
 ·obtain ⟨v,c,d,ps,ts,cs,rfl,_⟩:=h
  rfl
 obtain ⟨v,c,d,ps,ts,cs,rfl,hw,wok,hc,cok,hdr,h⟩:=h
 obtain ⟨u,pa,ta,xs,ys,rfl,eu,ep,et,pp,pt⟩:=id hw
 have hlx:xs.length = ps.length:=Paired.length pp
 have hly:ys.length = ts.length:=Paired.length pt
 have hu:=jba hr
 have hu0:_ < PySem.cLine:=Nat.lt_of_succ_lt hu
 refine ⟨_,(ja5 (jaj (i:=3) sc.nd rfl (Or.inl rfl) (jb8 ja2)) (ja5 (jaj (i:=4) sc.nd rfl (Or.inl rfl) (jb8 ja2)) (ja5 (jca PassesOwn.never rfl (jaz (jah q_ix (qv 0) ja4 (fun _ _=>rfl))) (jbi (n:=2) rfl (jaf (jae (i:=5) sc.nd rfl (Or.inl rfl)) (jaf (jae (i:=6) sc.nd rfl (Or.inl rfl)) jb4))) (ja7 (jbf (PW.pt (jf7 (jat jj4 (qv 5) (qv 3) (by with_unfolding_all rfl)) (jdj (jat jj4 (qv 6) (qv 3) (by with_unfolding_all rfl))))) (ja5 (jaj (i:=3) sc.nd rfl (Or.inl rfl) (jau jmk (qv 3) (jb8 (ja0 (qv 5) (ja0 (qv 6) ja2))))) (ja7 (jbm (q_bm PySem.F.plainAttrs_list PySem.F.slot_list_append PySem.F.type_list_append jbz (qv 4) (ja0 (jay (ja0 (qv 5) (ja0 (qv 6) (ja0 ja4 ja2)))) ja2))))) jao))) (ja5 (jd2 (i:=7) sc.nd rfl (Or.inl rfl) (CpScope.of (N:=["_law_place","_law_price"]) (src:=[none,none]) (by rfl)) rfl (jaz (jah q_ix (qv 0) ja4 (fun _ _=>rfl))) (fun _ _ _ _=>(jbi (n:=2) rfl (jaf (jae (i:=0) (jad (l:=["_law_place","_law_price"]) (by rfl)) rfl (Or.inl rfl)) (jaf (jae (i:=1) (jad (l:=["_law_place","_law_price"]) (by rfl)) rfl (Or.inl rfl)) jb4)))) (fun _ _ _ _=>jbk) (fun _ _ _ _=>(jay (ja0 (qv 0) (ja0 ja4 ja2))))) (ja5 (jbf (jat (jco hr.units) (ja9 G_called_halves (hr.mono (by decide)) rfl D_called_halves.m D_called_halves.F.kp D_called_halves.b .nil jai (ja0 (qv 0) (ja0 (qv 1) (ja0 (qv 7) ja2)))) (jab jbc rfl B.sorted PyProof.Rows.boot_sorted (ja0 (jbs (CpScope.of (N:=["_law_place","_law_price","_law_new_here"]) (src:=[none,none,some 2]) (by rfl)) rfl (jaz (jah q_ix (qv 0) ja4 (fun _ _=>rfl))) (fun _ _ _ _=>(jbi (n:=2) rfl (jaf (jae (i:=0) (jad (l:=["_law_place","_law_price","_law_new_here"]) (by rfl)) rfl (Or.inl rfl)) (jaf (jae (i:=1) (jad (l:=["_law_place","_law_price","_law_new_here"]) (by rfl)) rfl (Or.inl rfl)) jb4)))) (fun _ _ _ _=>jbk) (fun _ _ _ _=>(jay (ja0 (jeb (by exact hu) (qv 2) (qv 0) (fun _ _=>rfl)) (ja0 ja4 ja2))))) ja2)) (jap _)) (ja7 (jak jcv)) jao) (ja7 (jak (jcg (jj6 hr.units) (ja9 G_called_dues (hr.mono (by decide)) rfl D_called_dues.m D_called_dues.F.kp D_called_dues.b .nil jai (ja0 (qv 0) (ja0 (qv 1) (ja0 (qv 4) ja2)))) (jab jfh rfl B.sorted PyProof.Rows.boot_sorted (ja0 (jbs (CpScope.of (N:=["_law_one","_law_other","_law_two","_law_new_here"]) (src:=[none,none,none,some 2]) (by rfl)) rfl (jaz (qv 4)) (fun _ _ _ _=>(jbi (n:=3) rfl (jaf (jae (i:=0) (jad (l:=["_law_one","_law_other","_law_two","_law_new_here"]) (by rfl)) rfl (Or.inl rfl)) (jaf (jae (i:=1) (jad (l:=["_law_one","_law_other","_law_two","_law_new_here"]) (by rfl)) rfl (Or.inl rfl)) (jaf (jae (i:=2) (jad (l:=["_law_one","_law_other","_law_two","_law_new_here"]) (by rfl)) rfl (Or.inl rfl)) jb4))))) (fun _ _ _ _=>jbk) (fun _ _ _ _=>(jau jnm (ja9 G_law_pair (hr.mono (by decide)) rfl D_law_pair.m D_law_pair.F.kp D_law_pair.b .nil jai (ja0 (jeb (by exact hu) (qv 3) (qv 0) (fun _ _=>rfl)) (ja0 (jeb (by exact hu) (qv 3) (qv 1) (fun _ _=>rfl)) ja2))) (jay (ja0 ja4 ja2))))) ja2)) (jap _))))))))),?_⟩
 have hlc:=cok.len
 have okl:=wok.pl
 have tl:=wok.tl
 have hnd:=wok.p.nodup
 have get:∀ n ∈ ps.map (·.1),n ∈ cs.map (·.1)∧0 ≤ prc cs n∧prc cs n ≤ 999:=fun n hn=>⟨by rw [cok.keys]; exact hn,(cok.get hnd hn).2⟩
 have tin:∀ t ∈ ts,t.1 ∈ ps.map (·.1)∧t.2 ∈ ps.map (·.1):=fun t ht=>by
  obtain ⟨_,a2,a3⟩:=TiOk.ats wok.t t ht
  rw [jbu] at a2 a3
  exact ⟨of_decide_eq_true a2,of_decide_eq_true a3⟩
 refine ja8 fun R hR=>?_
 walk_at "RD"
 intro u0 hu0'
 have s1:=ja3 hu0' (.lst [])
 have eu0:upd H u0 (.lst []) u0 = some (.lst (([]:List Int).map V.int)):=ja1
 generalize upd H u0 (.lst []) = H1 at s1 eu0
 subst hR
 refine ja8 fun R hR=>?_
 walk_at "RD"
 intro dl hdl
 have q2:=ja3 hdl (.lst [])
 have s2:=s1.trans q2
 have edl:upd H1 dl (.lst []) dl = some (.lst []):=ja1
 have eu2:=q2 _ _ eu0
 have hdl0:=s1.free hdl
 have nud:u0 ≠ dl:=ja6 eu0 hdl
 generalize upd H1 dl (.lst []) = H2 at q2 s2 edl eu2
 subst hR
 refine ja8 fun R hR=>?_
 refine jbp (Itl K ta) H2 (fun R' hR'=>?_) (jde (K:=K) (a:=ta) (xs:=ys) (fun i σ H3=>∃ w1 w2 U,∃ us:List Int,∃ zs ds,σ = [some (.ref u),some (.ref c),some (.ref d),some (.ref U),some (.ref dl),w1,w2,none]∧Same H H3∧U ≠ dl∧H3 U = some (.lst (us.map V.int))∧H3 dl = some (.lst zs)∧Tps H3 zs ds∧us.Nodup∧(∀ n ∈ us,n ∈ ps.map (·.1))∧DuIn (ps.map (·.1)) ds∧us.length = 2 * ds.length∧∀ e ∈ ds,e.2.2 = 2) ⟨none,none,u0,[],[],[],rfl,s2,nud,eu2,edl,.nil,List.nodup_nil,(fun n hn=>by cases hn),(fun n hn=>by cases hn),rfl,(fun n hn=>by cases hn)⟩ (fun i σ H3 _ ⟨_,_,_,_,_,_,_,s3,_⟩=>SqL.of (s3 _ _ et)) ?_ ?_)
 ·unfold jc1
  simp_arith [jam,s2 _ _ eu,at1]
  exact ⟨ta,rfl,⟨_,SqL.of (s2 _ _ et)⟩,hR'⟩
 ·rintro i x σ H3 hx ⟨w1,w2,U,us,zs,ds,rfl,s3,nU,eU,edl3,pz,nd,hin,hdu,hlen,h2s⟩
  obtain ⟨q,hq,pq⟩:=jag pt hx
  obtain ⟨t,rfl,ht⟩:=pq.same s3
  have hqm:=List.mem_of_getElem? hq
  have hqk:=tin q hqm
  have hlt:=(TiOk.ats wok.t q hqm).1
  have hul:=jfo nd hin
  rw [List.length_map] at hul
  have hzl:zs.length = ds.length:=Paired.length pz
  simp_arith [ht,jam,eU,jjd,flat_ints,jd4]
  by_cases c1:q.1 ∈ us
  ·simp only [c1,decide_true,Bool.not_true,Bool.false_eq_true,if_false]
   exact ⟨_,_,U,us,zs,ds,rfl,s3,nU,eU,edl3,pz,nd,hin,hdu,hlen,h2s⟩
  by_cases c2:q.2 ∈ us
  ·simp only [c1,c2,decide_true,decide_false,Bool.not_true,Bool.not_false,Bool.false_eq_true,if_false,if_true]
   exact ⟨_,_,U,us,zs,ds,rfl,s3,nU,eU,edl3,pz,nd,hin,hdu,hlen,h2s⟩
  simp only [c1,c2,decide_false,Bool.not_false,if_true]
  intro l1 hl1
  have q4:=ja3 hl1 (.lst [.int q.1,.int q.2])
  have el1:upd H3 l1 (.lst [.int q.1,.int q.2]) l1 = some (.lst [.int q.1,.int q.2]):=ja1
  generalize upd H3 l1 (.lst [.int q.1,.int q.2]) = H4 at q4 el1
  simp_arith [q4 _ _ eU,el1]
  refine ⟨szl (by rw [List.length_map]; omega),?_⟩
  intro l2 hl2
  have q5:=q4.trans (ja3 hl2 (.lst (us.map V.int ++ [.int q.1,.int q.2])))
  have el2:upd H4 l2 (.lst (us.map V.int ++ [.int q.1,.int q.2])) l2 = some (.lst ((us ++ [q.1,q.2]).map V.int)):=by rw [ja1,List.map_append]; rfl
  have nl2:l2 ≠ dl:=(ja6 (q4 _ _ edl3) hl2).symm
  generalize upd H4 l2 (.lst (us.map V.int ++ [.int q.1,.int q.2])) = H5 at q5 el2
  have edl5:=q5 _ _ edl3
  refine ⟨⟨dl,_,rfl,edl5⟩,?_⟩
  intro tt htt
  have q6:=ja3 htt (.tup [.int q.1,.int q.2,.int 2])
  have ett:upd H5 tt (.tup [.int q.1,.int q.2,.int 2]) tt = some (.tup [.int q.1,.int q.2,.int 2]):=ja1
  generalize upd H5 tt (.tup [.int q.1,.int q.2,.int 2]) = H6 at q6 ett
  have edl6:=q6 _ _ edl5
  have t6:=jax (ys:=zs ++ [.ref tt]) edl6
  simp_arith [edl6]
  refine ⟨szl' (by omega),_,_,l2,us ++ [q.1,q.2],zs ++ [.ref tt],ds ++ [(q.1,q.2,2)],rfl,jar (s3.trans (q5.trans q6)) hdl0,nl2,by rw [jaa nl2]; exact q6 _ _ el2,ja1,jal (jbx t6 (jbx (q5.trans q6).tups pz)) (Tp.tups (p:=(q.1,q.2,2)) ⟨tt,rfl,ett⟩ t6),?_,?_,?_,?_,fun e he=>(List.mem_append.mp he).elim (h2s e) fun he=>by rw [List.mem_singleton.mp he]⟩
  ·rw [List.nodup_append]
   refine ⟨nd,List.nodup_cons.mpr ⟨fun z=>?_,List.nodup_cons.mpr ⟨(fun z=>by cases z),List.nodup_nil⟩⟩,fun y hy z hz e9=>?_⟩
   ·have:=List.mem_singleton.mp z
    omega
   ·rw [e9] at hy
    rcases List.mem_cons.mp hz with e | hz
    ·rw [e] at hy; exact c1 hy
    ·rw [List.mem_singleton.mp hz] at hy; exact c2 hy
  ·intro n hn
   rcases List.mem_append.mp hn with hn | hn
   ·exact hin n hn
   ·rcases List.mem_cons.mp hn with e | hn
    ·rw [e]; exact hqk.1
    ·rw [List.mem_singleton.mp hn]; exact hqk.2
  ·intro y hy
   rcases List.mem_append.mp hy with hy | hy
   ·exact hdu y hy
   ·rw [List.mem_singleton.mp hy]; exact ⟨hqk.1,hqk.2,(show (0:Int) ≤ 2 by decide),(show (2:Int) < 1000 by decide)⟩
  ·rw [List.length_append,List.length_append,hlen]; show _ + 2 = 2 * (_ + 1); omega
 ·rintro σ H3 ⟨w1,w2,U,us,zs,ds,rfl,s3,nU,eU,edl3,pz,nd,hin,hdu,hlen,h2s⟩
  have hul:=jfo nd hin
  rw [List.length_map] at hul
  have hd20:ds.length ≤ 20:=by omega
  have ldu:jeq H3 dl ds:=⟨zs,edl3,pz⟩
  clear eU edl3 pz nU
  walk_at "RD"
  subst hR
  refine ja8 fun R hR=>?_
  walk_at "RD"
  refine jan (Itl K pa) H3 (fun R' hR'=>?_) (fun z hz=>jav ps.length (fun j σ' Hc=>∃ w1 w2,σ' = [w1,w2]∧Same H3 Hc∧∃ vs,Hc z = some (.lst vs)∧Prs Hc vs ((ps.take j).map (fun p:Int × Int=>(p.1,(1:Int))))) ⟨none,none,rfl,ja3 hz _,[],ja1,.nil⟩ ?_ ?_)
  ·unfold jc1
   simp_arith [jam,s3 _ _ eu,at0]
   exact ⟨pa,rfl,⟨_,SqL.of (s3 _ _ ep)⟩,hR'⟩
  ·rintro j σ' Hc hj ⟨w1,w2,rfl,s4,vs,ev,pv⟩
   have z1:=SqL.of (K:=K) (s4 _ _ (s3 _ _ ep))
   have x1:=List.getElem?_eq_getElem (show j < _ from (by rw [hlx]; exact hj:j < _))
   refine ⟨⟨_,_,z1,x1⟩,?_⟩
   rintro y H' ⟨rfl,hy⟩
   obtain ⟨q,hq,pq⟩:=jag pp (hy _ z1)
   obtain ⟨t,rfl,ht⟩:=pq.same (s3.trans s4)
   have hqm:=List.mem_of_getElem? hq
   have hvl:vs.length ≤ 120:=by
    have:=Paired.length pv
    rw [List.length_map,List.length_take] at this
    omega
   simp_arith [ht]
   intro tt htt
   have q5:=ja3 htt (.tup [.int q.1,.int 1])
   have ett:upd H' tt (.tup [.int q.1,.int 1]) tt = some (.tup [.int q.1,.int 1]):=ja1
   have ev5:=q5 _ _ ev
   generalize upd H' tt (.tup [.int q.1,.int 1]) = H5 at q5 ett ev5
   refine ⟨_,ev5,szl' (by omega),_,_,rfl,jar (s4.trans q5) hz,vs ++ [.ref tt],ja1,?_⟩
   rw [jaq hq,List.map_append]
   have t6:=jax (ys:=vs ++ [.ref tt]) ev5
   exact jal (Prs.tups t6 (Prs.same q5 pv)) (Pr.tups (p:=(fun p:Int × Int=>(p.1,(1:Int))) q) ⟨tt,rfl,ett⟩ t6)
  rintro σ' H4 ⟨w1,w2,rfl,s4x,vs,ez,pv⟩
  refine ⟨⟨_,SqL.of (s4x _ _ (s3 _ _ ep)),by rw [hlx]; exact Nat.le_refl _⟩,?_⟩
  rw [List.take_length] at pv
  have s34:=s3.trans s4x
  have hhl:jbd H4 z (ps.map fun p:Int × Int=>(p.1,(1:Int))):=⟨vs,ez,pv⟩
  have ldu4:=ldu.same s4x
  walk_at "RD"
  subst hR
  refine ja8 fun R hR=>?_
  walk_at "RD"
  refine ⟨.ref u,c,z,ps,ts,cs,_,rfl,hw.same s34,wok,hc.same s34,cok,hhl,fun k hk=>?_,by rw [List.length_map]; omega,fun r1 qs H5 s5 lr1 srt1=>?_⟩
  ·obtain ⟨p,hp,rfl⟩:=List.mem_map.mp hk
   exact ⟨(show p.1 ∈ ps.map (·.1) from List.mem_map_of_mem (f:=fun q:Int × Int=>q.1) hp),(show (0:Int) ≤ 1 by decide),(show (1:Int) < 1000 by decide)⟩
  have s35:=s34.trans s5
  walk_at "RD"
  refine jan (Itl K pa) H5 (fun R' hR'=>?_) (fun z2 hz2=>jav ps.length (fun j σ' Hc=>∃ w1 w2,σ' = [w1,w2,some (.ref d)]∧Same H5 Hc∧∃ vs,Hc z2 = some (.lst vs)∧Prs Hc vs ((ps.take j).map (fun p:Int × Int=>(prc cs p.1,(1:Int))))) ⟨none,none,rfl,ja3 hz2 _,[],ja1,.nil⟩ ?_ ?_)
  ·unfold jc1
   simp_arith [jam,s35 _ _ eu,at0]
   exact ⟨pa,rfl,⟨_,SqL.of (s35 _ _ ep)⟩,hR'⟩
  ·rintro j σ' Hc hj ⟨w1,w2,rfl,s4,vs,ev,pv⟩
   have z1:=SqL.of (K:=K) (s4 _ _ (s35 _ _ ep))
   have x1:=List.getElem?_eq_getElem (show j < _ from (by rw [hlx]; exact hj:j < _))
   refine ⟨⟨_,_,z1,x1⟩,?_⟩
   rintro y H' ⟨rfl,hy⟩
   obtain ⟨q,hq,pq⟩:=jag pp (hy _ z1)
   obtain ⟨t,rfl,ht⟩:=pq.same (s35.trans s4)
   have hqm:=List.mem_of_getElem? hq
   have hvl:vs.length ≤ 120:=by
    have:=Paired.length pv
    rw [List.length_map,List.length_take] at this
    omega
   simp_arith [ht,jkd]
   refine ⟨d,_,rfl,(hdr.same (s35.trans s4)).get (get q.1 (List.mem_map_of_mem (f:=fun q:Int × Int=>q.1) hqm)).1,?_⟩
   intro tt htt
   have q5:=ja3 htt (.tup [.int (prc cs q.1),.int 1])
   have ett:upd H' tt (.tup [.int (prc cs q.1),.int 1]) tt = some (.tup [.int (prc cs q.1),.int 1]):=ja1
   have ev5:=q5 _ _ ev
   generalize upd H' tt (.tup [.int (prc cs q.1),.int 1]) = H5 at q5 ett ev5
   refine ⟨_,ev5,szl' (by omega),_,_,rfl,jar (s4.trans q5) hz2,vs ++ [.ref tt],ja1,?_⟩
   rw [jaq hq,List.map_append]
   have t6:=jax (ys:=vs ++ [.ref tt]) ev5
   exact jal (Prs.tups t6 (Prs.same q5 pv)) (Pr.tups (p:=(fun p:Int × Int=>(prc cs p.1,(1:Int))) q) ⟨tt,rfl,ett⟩ t6)
  rintro σ' H6 ⟨w1,w2,rfl,s6x,vs2,ez2,pv2⟩
  refine ⟨⟨_,SqL.of (s6x _ _ (s35 _ _ ep)),by rw [hlx]; exact Nat.le_refl _⟩,?_⟩
  rw [List.take_length] at pv2
  have hvl2:vs2.length = ps.length:=by have:=Paired.length pv2; rw [List.length_map] at this; exact this
  refine ⟨z2,vs2,_,1000,rfl,ez2,pv2,by omega,fun q hq=>?_,fun l ys2 qs2 hl pq prm srt=>?_⟩
  ·obtain ⟨p,hp,rfl⟩:=List.mem_map.mp hq
   exact ⟨(show (0:Int) ≤ 1 by decide),(show (1:Int) < 1000 by decide)⟩
  have q7:=ja3 hl (.lst ys2)
  have lr2:jbd (upd H6 l (.lst ys2)) l qs2:=⟨ys2,ja1,Prs.same q7 pq⟩
  generalize upd H6 l (.lst ys2) = H7 at q7 lr2
  have ebs:(ps.map fun p:Int × Int=>(p.1,(1:Int))).map (reP cs) = ps.map fun p:Int × Int=>(prc cs p.1,(1:Int)):=by rw [List.map_map]; rfl
  rw [ebs] at srt1
  have eqq:=srt1.eq ⟨prm,srt⟩
  subst eqq
  have s57:=s6x.trans q7
  have s37:=s35.trans s57
  refine ⟨_,_,(lr1.same s57).rep,lr2.rep,jir _,.inl ⟨_,_,rfl,rfl⟩,?_⟩
  rw [jbg]
  walk_at "RD"
  subst hR
  walk_at "RD"
  have ldu7:=ldu4.same (s5.trans s57)
  refine ⟨.ref u,c,dl,ps,ts,cs,ds,rfl,hw.same s37,wok,hc.same s37,cok,ldu7,hdu,by omega,fun r2 qs3 H8 s8 lr3 srt3=>?_⟩
  have s38:=s37.trans s8
  obtain ⟨zs8,ez8,pz8⟩:=ldu7.same s8
  have hlz8:zs8.length = ds.length:=Paired.length pz8
  walk_at "RD"
  refine jan (Itl K dl) H8 (fun R' hR'=>?_) (fun y2 hy2=>jav ds.length (fun j σ' Hc=>∃ w1 w2 w3,σ' = [w1,w2,w3,some (.ref d)]∧Same H8 Hc∧∃ vs,Hc y2 = some (.lst vs)∧Tps Hc vs ((ds.take j).map fun e=>((tieM (prc cs e.1) (prc cs e.2.1)).1,(tieM (prc cs e.1) (prc cs e.2.1)).2,(2:Int)))) ⟨none,none,none,rfl,ja3 hy2 _,[],ja1,.nil⟩ ?_ ?_)
  ·unfold jc1
   walk_at "RD"
   exact ⟨dl,rfl,⟨_,SqL.of ez8⟩,hR'⟩
  ·rintro j σ' Hc hj ⟨w1,w2,w3,rfl,s4,ws,ev,pw⟩
   have z1:=SqL.of (K:=K) (s4 _ _ ez8)
   have x1:=List.getElem?_eq_getElem (show j < zs8.length by omega)
   refine ⟨⟨_,_,z1,x1⟩,?_⟩
   rintro y H' ⟨rfl,hy⟩
   obtain ⟨q,hq,pq⟩:=jag pz8 (hy _ z1)
   obtain ⟨t,rfl,ht⟩:=Tp.tups pq s4.tups
   obtain ⟨k1,k2,k3,k4⟩:=hdu q (List.mem_of_getElem? hq)
   have hwl:ws.length ≤ 120:=by
    have:=Paired.length pw
    rw [List.length_map,List.length_take] at this
    omega
   have dr:=hdr.same (s38.trans s4)
   simp_arith [ht,jkd]
   refine ⟨d,_,rfl,dr.get (get _ k1).1,?_⟩
   refine ⟨d,_,rfl,dr.get (get _ k2).1,?_⟩
   refine ⟨_,_,rfl,fun tt H5 q5 htt ett=>?_⟩
   have ev5:=q5 _ _ ev
   walk_at "RD"
   intro t1 ht1
   have q6:=ja3 ht1 (.tup [.int 2])
   have et1:upd H5 t1 (.tup [.int 2]) t1 = some (.tup [.int 2]):=ja1
   generalize upd H5 t1 (.tup [.int 2]) = H6 at q6 et1
   unfold jn2
   simp only [q6 _ _ ett,et1,List.length_cons,List.length_nil]
   refine ⟨(by decide),(fun z=>by cases z),?_⟩
   rw [if_neg (fun z=>by cases z)]
   intro t2 ht2
   have q7:=ja3 ht2 (.tup ([.int (tieM (prc cs q.1) (prc cs q.2.1)).1,.int (tieM (prc cs q.1) (prc cs q.2.1)).2] ++ [.int 2]))
   have et2:upd H6 t2 (.tup ([.int (tieM (prc cs q.1) (prc cs q.2.1)).1,.int (tieM (prc cs q.1) (prc cs q.2.1)).2] ++ [.int 2])) t2 = some (.tup [.int (tieM (prc cs q.1) (prc cs q.2.1)).1,.int (tieM (prc cs q.1) (prc cs q.2.1)).2,.int 2]):=ja1
   generalize upd H6 t2 (.tup ([.int (tieM (prc cs q.1) (prc cs q.2.1)).1,.int (tieM (prc cs q.1) (prc cs q.2.1)).2] ++ [.int 2])) = H7 at q7 et2
   have q57:=q5.trans (q6.trans q7)
   have ev7:=q57 _ _ ev
   have t8:=jax (ys:=ws ++ [.ref t2]) ev7
   refine ⟨_,ev7,szl' (by omega),_,_,_,rfl,jar (s4.trans q57) hy2,ws ++ [.ref t2],ja1,?_⟩
   rw [jaq hq,List.map_append]
   exact jal (jbx t8 (jbx q57.tups pw)) (Tp.tups (p:=((tieM (prc cs q.1) (prc cs q.2.1)).1,(tieM (prc cs q.1) (prc cs q.2.1)).2,(2:Int))) ⟨t2,rfl,et2⟩ t8)
  rintro σ' H9 ⟨w1,w2,w3,rfl,s9,ws,ew,pw⟩
  refine ⟨⟨_,SqL.of (s9 _ _ ez8),by omega⟩,?_⟩
  rw [List.take_length] at pw
  have hwl:ws.length = ds.length:=by have:=Paired.length pw; rw [List.length_map] at this; exact this
  refine ⟨y2,ws,_,1000,rfl,ew,pw,by omega,fun q hq=>?_,fun l3 ys3 qs4 hl3 pq4 prm4 srt4=>?_⟩
  ·obtain ⟨k,hk,rfl⟩:=List.mem_map.mp hq
   obtain ⟨k1,k2,k3,k4⟩:=hdu k hk
   exact ⟨(je6 (get _ k1).2 (get _ k2).2).2,(show (0:Int) ≤ 2 by decide),(show (2:Int) < 1000 by decide)⟩
  have qA:=ja3 hl3 (.lst ys3)
  have lr4:jeq (upd H9 l3 (.lst ys3)) l3 qs4:=⟨ys3,ja1,jbx qA.tups pq4⟩
  generalize upd H9 l3 (.lst ys3) = HA at qA lr4
  have two:∀ e ∈ ds,e.2.2 = 2:=h2s
  have ebd:ds.map (reD cs) = ds.map fun e=>((tieM (prc cs e.1) (prc cs e.2.1)).1,(tieM (prc cs e.1) (prc cs e.2.1)).2,(2:Int)):=List.map_congr_left fun e he=>by unfold reD; rw [two e he]
  rw [ebd] at srt3
  have eqd:=srt3.eq ⟨prm4,srt4⟩
  subst eqd
  refine ⟨_,_,(lr3.same (s9.trans qA)).rep,lr4.rep,by rw [depP]; have:=jho qs3; omega,.inl ⟨_,_,rfl,rfl⟩,?_⟩
  rw [jbg]
  exact h _ (s38.trans (s9.trans qA))
end
end My
namespace My
open PySem L2
section
variable {P:Program} {w:World} {K:PySem.W.Frag} {mg:Str→Option Value} {base:Heap} {c1 c2 c3 c4:Tok} {C_NoWeb f_NoWeb:Addr} {dI:FuncData}
theorem jce {v n:Int} (h:n ≠ v):(tieM v n).1 < (tieM v n).2∧(tieM v n = (v,n) ∨ tieM v n = (n,v)):=by
 rcases Int.lt_or_gt_of_ne h with c | c
 ·have e:tieM v n = (n,v):=by
   unfold tieM
   rw [if_pos c,if_neg (show ¬ v < n by omega)]
  rw [e]
  exact ⟨c,.inr rfl⟩
 ·have c:v < n:=c
  have e:tieM v n = (v,n):=by
   unfold tieM
   rw [if_pos c,if_neg (show ¬ n < v by omega)]
  rw [e]
  exact ⟨c,.inl rfl⟩
theorem jka (v n:Int):tieM v n = tieM n v:=by
 by_cases h:n = v
 ·rw [h]
 ·rcases (jce h).2 with e | e <;> rcases (jce (v:=n) (n:=v) (fun z=>h z.symm)).2 with f | f
  ·have h1:=(jce h).1
   have h2:=(jce (v:=n) (n:=v) (fun z=>h z.symm)).1
   rw [e] at h1
   rw [f] at h2
   dsimp only at h1 h2
   omega
  ·rw [e,f]
  ·rw [e,f]
  ·have h1:=(jce h).1
   have h2:=(jce (v:=n) (n:=v) (fun z=>h z.symm)).1
   rw [e] at h1
   rw [f] at h2
   dsimp only at h1 h2
   omega
theorem jk9 {a b:Int} (h:a < b):tieM a b = (a,b):=by
 unfold tieM
 rw [if_neg (show ¬ b < a by omega),if_pos h]
theorem PlOk.of:∀ {qs:List (Int × Int)} {l s:Int},(∀ q ∈ qs,l < q.1∧q.1 ≤ 999∧1 ≤ q.2)→(qs.map (·.1)).Pairwise (· < ·)→s + sumP qs ≤ 1000000000000→PlOk l s qs
 | [],_,_,_,_,_=>trivial
 | p :: r,l,s,h1,h2,h3=>by
  rw [List.map_cons,List.pairwise_cons] at h2
  rw [jaw] at h3
  have g:=h1 p (List.mem_cons_self ..)
  have g2:=je2 (ps:=r) fun z hz=>(h1 z (List.mem_cons_of_mem _ hz)).2.2
  exact ⟨⟨g.1,g.2.1,g.2.2,by omega⟩,PlOk.of (fun q hq=>⟨h2.1 _ (List.mem_map_of_mem hq),(h1 q (List.mem_cons_of_mem _ hq)).2⟩) h2.2 (by omega)⟩
theorem jj9 {qs:List (Int × Int)} (h:qs.Pairwise lexLe) (nd:(qs.map (·.1)).Nodup):(qs.map (·.1)).Pairwise (· < ·):=by
 induction qs with
 | nil=>exact List.Pairwise.nil
 | cons p r ih =>
  rw [List.pairwise_cons] at h
  rw [List.map_cons,List.nodup_cons] at nd
  rw [List.map_cons,List.pairwise_cons]
  refine ⟨fun n hn=>?_,ih h.2 nd.2⟩
  obtain ⟨q,hq,rfl⟩:=List.mem_map.mp hn
  have:=h.1 q hq
  unfold lexLe at this
  have ne:p.1 ≠ q.1:=fun e=>nd.1 (by rw [e]; exact List.mem_map_of_mem hq)
  omega
theorem jke {a b:List (Int × Int)} (h:a.Perm b):sumP a = sumP b:=by
 induction h with
 | nil=>rfl
 | cons x _ ih=>rw [jaw,jaw,ih]
 | swap x y l=>rw [jaw,jaw,jaw,jaw]; omega
 | trans _ _ h1 h2=>rw [h1,h2]
theorem PlOk.lts:∀ {ps:List (Int × Int)} {l s:Int},PlOk l s ps→(ps.map (·.1)).Pairwise (· < ·)
 | [],_,_,_=>List.Pairwise.nil
 | p :: r,l,s,h=>by
  rw [List.map_cons,List.pairwise_cons]
  refine ⟨fun n hn=>?_,PlOk.lts h.2⟩
  obtain ⟨q,hq,rfl⟩:=List.mem_map.mp hn
  exact PlOk.gt h.2 q hq
theorem TiOk.les {kvs:List (Key × V)}:∀ {ts:List (Int × Int)} {q:Int × Int},TiOk kvs q ts→ts.Pairwise lexLe
 | [],_,_=>List.Pairwise.nil
 | t :: r,q,h=>by
  rw [List.pairwise_cons]
  refine ⟨fun u hu=>?_,TiOk.les h.2⟩
  have:=TiOk.gt h.2 u hu
  unfold lexLe
  omega
theorem jd0:∀ {a b:List Int},a.Perm b→a.Pairwise (· ≤ ·)→b.Pairwise (· ≤ ·)→a = b
 | [],b,p,_,_=>(List.nil_perm.mp p).symm
 | x :: r,[],p,_,_=>by cases (List.perm_nil.mp p)
 | x :: r,y :: t,p,ha,hb=>by
  rw [List.pairwise_cons] at ha hb
  have e:x = y:=by
   have h1:x ∈ y :: t:=p.mem_iff.mp (List.mem_cons_self ..)
   have h2:y ∈ x :: r:=p.mem_iff.mpr (List.mem_cons_self ..)
   rcases List.mem_cons.mp h1 with e | h1
   ·exact e
   ·rcases List.mem_cons.mp h2 with e | h2
    ·exact e.symm
    ·have:=ha.1 y h2
     have:=hb.1 x h1
     omega
  subst e
  rw [jd0 ((List.perm_cons x).mp p) ha.2 hb.2]
theorem CalOk.img {ps cs:List (Int × Int)} (h:CalOk ps cs) (hn:(ps.map (·.1)).Nodup):(ps.map (·.1)).map (prc cs) = cs.map (·.2):=by
 rw [← h.keys,List.map_map]
 refine List.map_congr_left fun c hc=>?_
 exact jh0 (by rw [h.keys]; exact hn) hc
theorem CalOk.inj {ps cs:List (Int × Int)} (h:CalOk ps cs) (hn:(ps.map (·.1)).Nodup) {a b:Int} (ha:a ∈ ps.map (·.1)) (hb:b ∈ ps.map (·.1)) (e:prc cs a = prc cs b):a = b:=by
 have nd:((ps.map (·.1)).map (prc cs)).Nodup:=by rw [h.img hn]; exact h.nd
 obtain ⟨i,hi⟩:=List.getElem?_of_mem ha
 obtain ⟨j,hj⟩:=List.getElem?_of_mem hb
 by_cases c:i = j
 ·rw [c,hj] at hi
  exact (Option.some.inj hi).symm
 ·have h1:((ps.map (·.1)).map (prc cs))[i]? = some (prc cs a):=by rw [List.getElem?_map,hi]; rfl
  have h2:((ps.map (·.1)).map (prc cs))[j]? = some (prc cs b):=by rw [List.getElem?_map,hj]; rfl
  exact absurd e (jg2 nd h1 h2 c)
theorem lts_eq {a b:List Int} (p:a.Perm b) (ha:a.Pairwise (· < ·)) (hb:b.Pairwise (· < ·)):a = b :=
 List.Perm.eq_of_pairwise (fun x y _ _ hx hy=>by omega) (ha.imp fun h=>Int.le_of_lt h) (hb.imp fun h=>Int.le_of_lt h) p
structure Called (ps ts cs qs us ks:List (Int × Int)):Prop where
 web:WebOk qs us
 cal:CalOk qs ks
 backP:jcy ps (qs.map (reP ks))
 backT:jcy ts (us.map (reT ks))
 back:∀ n ∈ ps.map (·.1),prc ks (prc cs n) = n
 keys:∀ n ∈ ps.map (·.1),prc cs n ∈ qs.map (·.1)
theorem called {ps ts cs qs us ks:List (Int × Int)} (wok:WebOk ps ts) (cok:CalOk ps cs) (hq:jcy qs (ps.map (reP cs))) (hu:jcy us (ts.map (reT cs))) (hk:jcy ks (cs.map fun c=>(c.2,c.1))):Called ps ts cs qs us ks:=by
 have hnd:=wok.p.nodup
 have img:=cok.img hnd
 have lt:∀ t ∈ ts,t.1 < t.2:=fun t ht=>(TiOk.ats wok.t t ht).1
 have tin:∀ t ∈ ts,t.1 ∈ ps.map (·.1)∧t.2 ∈ ps.map (·.1):=fun t ht=>by
  obtain ⟨_,a2,a3⟩:=TiOk.ats wok.t t ht
  rw [jbu] at a2 a3
  exact ⟨of_decide_eq_true a2,of_decide_eq_true a3⟩
 have ekeys:(ps.map (reP cs)).map (·.1) = cs.map (·.2):=by
  rw [← img,List.map_map,List.map_map]
  rfl
 have pq:(qs.map (·.1)).Perm (cs.map (·.2)):=by rw [← ekeys]; exact hq.1.map _
 have qnd:(qs.map (·.1)).Nodup:=pq.nodup_iff.mpr cok.nd
 have qlt:=jj9 hq.2 qnd
 have keys:∀ n ∈ ps.map (·.1),prc cs n ∈ qs.map (·.1):=fun n hn=>pq.mem_iff.mpr (by rw [← img]; exact List.mem_map_of_mem hn)
 have ne:∀ t ∈ ts,prc cs t.2 ≠ prc cs t.1:=fun t ht e=>by
  have h1:=cok.inj hnd (tin t ht).2 (tin t ht).1 e
  have h2:=lt t ht
  omega
 have plok:PlOk (-1) 0 qs:=by
  refine PlOk.of (fun q hqm=>?_) qlt ?_
  ·obtain ⟨p,hp,e⟩:=List.mem_map.mp (hq.1.mem_iff.mp hqm)
   have hk1:=(cok.get hnd (List.mem_map_of_mem (f:=fun q:Int × Int=>q.1) hp)).2
   have hp2:=(wok.p.pos p hp).1
   rw [← e]
   exact ⟨by show -1 < prc cs p.1; omega,hk1.2,hp2⟩
  ·have e1:sumP qs = sumP ps:=by
    rw [jke hq.1]
    unfold sumP
    rw [List.map_map]
    rfl
   rw [e1]
   by_cases c:ps = []
   ·rw [c]; decide
   ·exact PlOk.sum wok.p c
 have web:WebOk qs us:=by
  refine ⟨by rw [hq.1.length_eq,List.length_map]; exact wok.pl,plok,by rw [hu.1.length_eq,List.length_map]; exact wok.tl,TiOk.of (fun t ht=>.inl ?_) hu.2 (hu.1.nodup_iff.mpr ?_) (fun t ht=>?_)⟩
  ·obtain ⟨s,hs,e⟩:=List.mem_map.mp (hu.1.mem_iff.mp ht)
   have h1:=(cok.get hnd (tin s hs).1).2
   have h2:=(cok.get hnd (tin s hs).2).2
   have:=(je6 (cs:=cs) h1 h2).1.1
   rw [← e]
   show -1 < (tieM (prc cs s.1) (prc cs s.2)).1
   omega
  ·unfold List.Nodup
   rw [List.pairwise_map]
   refine List.Pairwise.imp_of_mem (fun {x y} hx hy hne e=>hne ?_) (TiOk.nodup wok.t)
   have e:tieM (prc cs x.1) (prc cs x.2) = tieM (prc cs y.1) (prc cs y.2):=e
   have kx:=(jce (ne x hx)).2
   have ky:=(jce (ne y hy)).2
   rw [e] at kx
   have i11:=cok.inj hnd (tin x hx).1 (tin y hy).1
   have i22:=cok.inj hnd (tin x hx).2 (tin y hy).2
   have i12:=cok.inj hnd (tin x hx).1 (tin y hy).2
   have i21:=cok.inj hnd (tin x hx).2 (tin y hy).1
   have lx:=lt x hx
   have ly:=lt y hy
   rcases kx with kx | kx <;> rcases ky with ky | ky <;> rw [ky] at kx <;> injection kx with k1 k2
   ·exact Prod.ext (i11 k1.symm) (i22 k2.symm)
   ·have a:=i12 k1.symm; have b:=i21 k2.symm; omega
   ·have a:=i21 k1.symm; have b:=i12 k2.symm; omega
   ·exact Prod.ext (i11 k2.symm) (i22 k1.symm)
  ·obtain ⟨s,hs,e⟩:=List.mem_map.mp (hu.1.mem_iff.mp ht)
   have e:tieM (prc cs s.1) (prc cs s.2) = t:=e
   obtain ⟨k1,k2⟩:=jce (ne s hs)
   have n1:=keys _ (tin s hs).1
   have n2:=keys _ (tin s hs).2
   rw [e] at k1 k2
   refine ⟨k1,?_⟩
   rcases k2 with k2 | k2 <;> rw [k2,jbu,jbu]
   ·exact ⟨decide_eq_true n1,decide_eq_true n2⟩
   ·exact ⟨decide_eq_true n2,decide_eq_true n1⟩
 have kperm:(ks.map (·.1)).Perm (cs.map (·.2)):=by
  have:=hk.1.map (fun q:Int × Int=>q.1)
  rwa [List.map_map] at this
 have knd:(ks.map (·.1)).Nodup:=kperm.nodup_iff.mpr cok.nd
 have cal:CalOk qs ks:=by
  refine ⟨lts_eq (kperm.trans pq.symm) (jj9 hk.2 knd) qlt,fun c hc=>?_,?_⟩
  ·obtain ⟨d,hd,e⟩:=List.mem_map.mp (hk.1.mem_iff.mp hc)
   have hdk:d.1 ∈ ps.map (·.1):=by rw [← cok.keys]; exact List.mem_map_of_mem (f:=fun q:Int × Int=>q.1) hd
   obtain ⟨p,hp,e2⟩:=List.mem_map.mp hdk
   have g1:=wok.p.gt p hp
   have g2:=(wok.p.pos p hp).2
   rw [← e]
   exact ⟨by show 0 ≤ d.1; omega,by show d.1 ≤ 999; omega⟩
  ·have:=hk.1.map (fun q:Int × Int=>q.2)
   rw [List.map_map] at this
   refine this.nodup_iff.mpr ?_
   show (cs.map (·.1)).Nodup
   rw [cok.keys]
   exact hnd
 have back:∀ n ∈ ps.map (·.1),prc ks (prc cs n) = n:=fun n hn=>by
  have h1:=(cok.get hnd hn).1
  have h2:(prc cs n,n) ∈ ks:=hk.1.mem_iff.mpr (List.mem_map.mpr ⟨_,h1,rfl⟩)
  exact jh0 knd h2
 have psrt:ps.Pairwise lexLe:=by
  have:=wok.p.lts
  rw [List.pairwise_map] at this
  exact this.imp fun h=>.inl h
 refine ⟨web,cal,⟨?_,psrt⟩,⟨?_,TiOk.les wok.t⟩,back,keys⟩
 ·have e:(ps.map (reP cs)).map (reP ks) = ps:=by
   rw [List.map_map]
   refine (List.map_congr_left fun p hp=>?_).trans (List.map_id ps)
   show (prc ks (prc cs p.1),p.2) = p
   rw [back p.1 (List.mem_map_of_mem (f:=fun q:Int × Int=>q.1) hp)]
  have:=hq.1.map (reP ks)
  rw [e] at this
  exact this.symm
 ·have e:(ts.map (reT cs)).map (reT ks) = ts:=by
   rw [List.map_map]
   refine (List.map_congr_left fun t ht=>?_).trans (List.map_id ts)
   show tieM (prc ks (tieM (prc cs t.1) (prc cs t.2)).1) (prc ks (tieM (prc cs t.1) (prc cs t.2)).2) = t
   rcases (jce (ne t ht)).2 with k | k <;> rw [k]
   ·show tieM (prc ks (prc cs t.1)) (prc ks (prc cs t.2)) = t
    rw [back _ (tin t ht).1,back _ (tin t ht).2,jk9 (lt t ht)]
   ·show tieM (prc ks (prc cs t.2)) (prc ks (prc cs t.1)) = t
    rw [back _ (tin t ht).1,back _ (tin t ht).2,jka,jk9 (lt t ht)]
  have:=hu.1.map (reT ks)
  rw [e] at this
  exact this.symm
end
end My
namespace My
open PySem L2
section
variable {P:Program} {w:World} {K:PySem.W.Frag} {mg:Str→Option Value} {base:Heap} {c1 c2 c3 c4:Tok} {C_NoWeb f_NoWeb:Addr} {dI:FuncData}
theorem ji3 {ι:Type} {src:List (Option Nat)} {wi:TI} {g:TG} {tc:TT} {te:TE} {Q:VK} {σ:St} {H:Hp} (J:ι→It) (H1:ι→Hp) (ok:ι→Prop) (h1:∀ R:It→Hp→Prop,(∀ p,ok p→R (J p) (H1 p))→wi σ H R)
  (h2:∀ p,ok p→∀ l,H1 p l = none→jm5 (J p) src g tc te Q σ (H1 p) l):jm8 src wi g tc te σ H Q:=h1 _ h2
def jma (K:PySem.W.Frag):Sp:=fun vs H Q _=>∃ a ns,vs = [.ref a]∧Scr K H a ns∧∀ H',Q (.bl true) H'
theorem reps3 {H:Hp} {a b c:Dt} {x y z:V} (h1:Rep H a x) (h2:Rep H b y) (h3:Rep H c z):Reps H [a,b,c] [x,y,z]:=by
 rw [Reps]
 refine ⟨_,_,rfl,h1,?_⟩
 rw [Reps]
 refine ⟨_,_,rfl,h2,?_⟩
 rw [Reps]
 exact ⟨_,_,rfl,h3,by rw [Reps]⟩
theorem rep3 {H:Hp} {l:Addr} {a b c:Dt} {x y z:V} (e:H l = some (.lst [x,y,z])) (h1:Rep H a x) (h2:Rep H b y) (h3:Rep H c z):Rep H (.lst [a,b,c]) (.ref l):=by
 rw [Rep]
 exact ⟨l,_,rfl,e,reps3 h1 h2 h3⟩
theorem dep3 (ps ts ks:List (Int × Int)) (ns:List Int):depP (.lst [webD ps ts,.lst (ns.map Dt.int),prsD ks]) ≤ 20:=by
 have h1:=jb6 ps
 have h2:=jb6 ts
 have h3:=jb6 ks
 have h4:=jdy ns
 unfold webD prsD
 simp only [depP,jc2]
 omega
theorem dep3' (ps ts ks:List (Int × Int)) (ns:List Int):depP (.lst [webD ps ts,prsD ks,.lst (ns.map Dt.int)]) ≤ 20:=by
 have h1:=jb6 ps
 have h2:=jb6 ts
 have h3:=jb6 ks
 have h4:=jdy ns
 unfold webD prsD
 simp only [depP,jc2]
 omega
structure Kept (H:Hp) (v:V) (c sl hd:Addr) (hw hc hs:Addr) (ps ts cs:List (Int × Int)) (ss:List Int):Prop where
 web:jb9 H v ps ts
 cal:jbd H c cs
 set:H sl = some (.lst (ss.map V.int))
 hand:H hd = some (.lst [.ref hw,.ref hc,.ref hs])
 hweb:jb9 H (.ref hw) ps ts
 hcal:jbd H hc cs
 hset:H hs = some (.lst (ss.map V.int))
theorem Kept.same {H H':Hp} {v:V} {c sl hd hw hc hs:Addr} {ps ts cs:List (Int × Int)} {ss:List Int} (h:Kept H v c sl hd hw hc hs ps ts cs ss) (s:Same H H'):Kept H' v c sl hd hw hc hs ps ts cs ss :=
 ⟨h.web.same s,h.cal.same s,s _ _ h.set,s _ _ h.hand,h.hweb.same s,h.hcal.same s,s _ _ h.hset⟩
def NoD (H H':Hp):Prop:=∀ b o,(∀ kvs,o ≠ .dK kvs)→H b = some o→H' b = some o
theorem joq {H:Hp} {d:Addr} {kvs:List (Key × V)} {o:HO} (e:H d = some (.dK kvs)):NoD H (upd H d o):=fun b x nx q=>by
 have:b ≠ d:=fun z=>by rw [z,e] at q; exact nx kvs (Option.some.inj q).symm
 rw [jaa this]
 exact q
theorem NoD.tups {H H':Hp} (h:NoD H H'):TupS H H':=fun b x hx q=>h b x (fun kvs e=>by rw [e] at hx; cases hx) q
theorem jb9.noD {H H':Hp} {v:V} {ps ts:List (Int × Int)} (h:jb9 H v ps ts) (n:NoD H H'):jb9 H' v ps ts:=by
 obtain ⟨u,pa,ta,xs,ys,e,h1,h2,h3,h4,h5⟩:=h
 exact ⟨u,pa,ta,xs,ys,e,n _ _ (fun _ z=>by cases z) h1,n _ _ (fun _ z=>by cases z) h2,n _ _ (fun _ z=>by cases z) h3,Prs.tups n.tups h4,Prs.tups n.tups h5⟩
theorem jbd.noD {H H':Hp} {a:Addr} {ps:List (Int × Int)} (h:jbd H a ps) (n:NoD H H'):jbd H' a ps:=let ⟨xs,e,p⟩:=h; ⟨xs,n _ _ (fun _ z=>by cases z) e,Prs.tups n.tups p⟩
theorem Kept.noD {H H':Hp} {v:V} {c sl hd hw hc hs:Addr} {ps ts cs:List (Int × Int)} {ss:List Int} (h:Kept H v c sl hd hw hc hs ps ts cs ss) (n:NoD H H'):Kept H' v c sl hd hw hc hs ps ts cs ss :=
 ⟨h.web.noD n,h.cal.noD n,n _ _ (fun _ z=>by cases z) h.set,n _ _ (fun _ z=>by cases z) h.hand,h.hweb.noD n,h.hcal.noD n,n _ _ (fun _ z=>by cases z) h.hset⟩
theorem jhj (cs:List (Int × Int)):(jb0 cs).length = cs.length:=by unfold jb0; rw [List.length_map]
theorem ok_law {f:Addr} {fd:FuncData} {f_law_begun:Addr} {d_law_begun:FuncData} {f_law_take:Addr} {d_law_take:FuncData} {f_law_great:Addr} {d_law_great:FuncData} {f_law_shape:Addr} {d_law_shape:FuncData} {f_law_calls:Addr} {d_law_calls:FuncData} {f_law_new:Addr} {d_law_new:FuncData} {f_law_web_by:Addr} {d_law_web_by:FuncData} {f_called_web:Addr} {d_called_web:FuncData} {f_called_set:Addr} {d_called_set:FuncData} {f_calls_back:Addr} {d_calls_back:FuncData} {f_law_same_web:Addr} {d_law_same_web:FuncData} {f_law_rows:Addr} {d_law_rows:FuncData} {f_law_whole:Addr} {d_law_whole:FuncData} {f_law_papers_right:Addr} {d_law_papers_right:FuncData} (B:Blt mg) (D:DefAt K mg "law" (top 49) ["_law_script"] f fd) (D_law_begun:DefAt K mg "_law_begun" (top 33) ["_law_script","_law_k"] f_law_begun d_law_begun) (G_law_begun:FnOk P w K mg base CX0 1 f_law_begun d_law_begun ["_law_script","_law_k"] (jkl K)) (D_law_take:DefAt K mg "_law_take" (top 34) ["_law_state","_law_many"] f_law_take d_law_take) (G_law_take:FnOk P w K mg base CX0 1 f_law_take d_law_take ["_law_state","_law_many"] jd5) (D_law_great:DefAt K mg "_law_great" (top 47) ["_law_state"] f_law_great d_law_great) (G_law_great:FnOk P w K mg base CX0 4 f_law_great d_law_great ["_law_state"] jkh) (D_law_shape:DefAt K mg "_law_shape" (top 39) ["_law_state","_law_most"] f_law_shape d_law_shape) (G_law_shape:FnOk P w K mg base CX0 4 f_law_shape d_law_shape ["_law_state","_law_most"] ji4) (D_law_calls:DefAt K mg "_law_calls" (top 40) ["_law_state","_law_web_here"] f_law_calls d_law_calls) (G_law_calls:FnOk P w K mg base CX0 2 f_law_calls d_law_calls ["_law_state","_law_web_here"] jki) (D_law_new:DefAt K mg "_law_new" (top 41) ["_law_calls_here"] f_law_new d_law_new) (G_law_new:FnOk P w K mg base CX0 1 f_law_new d_law_new ["_law_calls_here"] spNew) (D_law_web_by:DefAt K mg "_law_web_by" (top 43) ["_law_new_here","_law_web_here"] f_law_web_by d_law_web_by) (G_law_web_by:FnOk P w K mg base CX0 2 f_law_web_by d_law_web_by ["_law_new_here","_law_web_here"] spWBy) (D_called_web:DefAt K mg "called_web" (top 26) ["web","calls"] f_called_web d_called_web) (G_called_web:FnOk P w K mg base CX0 8 f_called_web d_called_web ["web","calls"] jkj) (D_called_set:DefAt K mg "called_set" (top 27) ["web","calls","some"] f_called_set d_called_set) (G_called_set:FnOk P w K mg base CX0 8 f_called_set d_called_set ["web","calls","some"] jkk) (D_calls_back:DefAt K mg "calls_back" (top 25) ["web","calls"] f_calls_back d_calls_back) (G_calls_back:FnOk P w K mg base CX0 7 f_calls_back d_calls_back ["web","calls"] ji7) (D_law_same_web:DefAt K mg "_law_same_web" (top 46) ["_law_found","_law_due"] f_law_same_web d_law_same_web) (G_law_same_web:FnOk P w K mg base CX0 3 f_law_same_web d_law_same_web ["_law_found","_law_due"] jgt) (D_law_rows:DefAt K mg "_law_rows" (top 45) ["_law_found","_law_many"] f_law_rows d_law_rows) (G_law_rows:FnOk P w K mg base CX0 2 f_law_rows d_law_rows ["_law_found","_law_many"] ji6) (D_law_whole:DefAt K mg "_law_whole" (top 44) ["_law_found"] f_law_whole d_law_whole) (G_law_whole:FnOk P w K mg base CX0 1 f_law_whole d_law_whole ["_law_found"] je3) (D_law_papers_right:DefAt K mg "_law_papers_right" (top 48) ["_law_web_here","_law_calls_here","_law_new_here"] f_law_papers_right d_law_papers_right) (G_law_papers_right:FnOk P w K mg base CX0 9 f_law_papers_right d_law_papers_right ["_law_web_here","_law_calls_here","_law_new_here"] spPap):FnOk P w K mg base CX0 10 f fd ["_law_script"] (jma K):=by
 have sc:FnScope ["_law_script","_law_k","_law_state","_law_web_here","_law_calls_here","_law_new_here","_law_some","_law_handed","_law_due","_law_found","_law_other","_law_turned","_law_again"] ["_law_script"] (jac (top 49)):=⟨rfl,rfl,rfl,by decide +kernel,rfl,by decide +kernel,by decide +kernel⟩
 refine D.F.ok sc (fun vs H Q E h=>?_) (fun cdv A outer s H vs Q E hr h=>?_)
 ·obtain ⟨a,ns,rfl,_⟩:=h
  rfl
 obtain ⟨a,ns,rfl,hs,h⟩:=h
 have hu:=jba hr
 have hu0:_ < PySem.cLine:=Nat.lt_of_succ_lt hu
 refine ⟨_,(ja5 (jca PassesOwn.never rfl (jd9 rfl B.range (ja0 (jab (jmi rfl) rfl B.max PyProof.Rows.boot_max (ja0 ja4 (ja0 (jab (joh rfl) rfl B.min PyProof.Rows.boot_min (ja0 (jab jcr rfl B.len PySem.boot_len (ja0 (qv 0) ja2)) (ja0 ja4 ja2))) ja2))) ja2)) (jae (i:=1) sc.nd rfl (Or.inl rfl)) (ja5 (jaj (i:=2) sc.nd rfl (Or.inr rfl) (ja9 G_law_begun (hr.mono (by decide)) rfl D_law_begun.m D_law_begun.F.kp D_law_begun.b .nil jai (ja0 (qv 0) (ja0 (qv 1) ja2)))) (ja5 (jbf (PW.pt (jf7 (jat q_eq (qv 1) ja4 (jap _)) (jdj (jat q_eq (ja9 G_law_take (hr.mono (by decide)) rfl D_law_take.m D_law_take.F.kp D_law_take.b .nil jai (ja0 (qv 2) (ja0 ja4 ja2))) ja4 (jap _))))) (ja7 (jaj (i:=3) sc.nd rfl (Or.inl rfl) (ja9 G_law_great (hr.mono (by decide)) rfl D_law_great.m D_law_great.F.kp D_law_great.b .nil jai (ja0 (qv 2) ja2)))) (ja7 (jaj (i:=3) sc.nd rfl (Or.inl rfl) (ja9 G_law_shape (hr.mono (by decide)) rfl D_law_shape.m D_law_shape.F.kp D_law_shape.b .nil jai (ja0 (qv 2) (ja0 (jau jcf ja4 (jau ji9 ja4 (jbt q_int1 rfl B.int PyProof.Rows.boot_int (ja0 (jcg q_eq (qv 1) ja4 (jap _)) ja2)))) ja2)))))) (ja5 (jaj (i:=4) sc.nd rfl (Or.inl rfl) (ja9 G_law_calls (hr.mono (by decide)) rfl D_law_calls.m D_law_calls.F.kp D_law_calls.b .nil jai (ja0 (qv 2) (ja0 (qv 3) ja2)))) (ja5 (jaj (i:=5) sc.nd rfl (Or.inr rfl) (ja9 G_law_new (hr.mono (by decide)) rfl D_law_new.m D_law_new.F.kp D_law_new.b .nil jai (ja0 (qv 4) ja2))) (ja5 (jd2 (i:=6) sc.nd rfl (Or.inl rfl) (CpScope.of (N:=["_law_place","_law_price","_law_state"]) (src:=[none,none,some 2]) (by rfl)) rfl (jaz (jah q_ix (qv 3) ja4 (fun _ _=>rfl))) (fun _ _ _ _=>(jbi (n:=2) rfl (jaf (jae (i:=0) (jad (l:=["_law_place","_law_price","_law_state"]) (by rfl)) rfl (Or.inl rfl)) (jaf (jae (i:=1) (jad (l:=["_law_place","_law_price","_law_state"]) (by rfl)) rfl (Or.inl rfl)) jb4)))) (fun _ _ _ _=>(je8 (jat q_eq (ja9 G_law_take (hr.mono (by decide)) rfl D_law_take.m D_law_take.F.kp D_law_take.b .nil jai (ja0 (qv 2) (ja0 ja4 ja2))) ja4 (jap _)))) (fun _ _ _ _=>(qv 0))) (ja5 (jaj (i:=7) sc.nd rfl (Or.inl rfl) (jb8 (ja0 (jay (ja0 (jbt jd7 rfl B.list PyProof.Rows.boot_list (ja0 (jah q_ix (qv 3) ja4 (fun _ _=>rfl)) ja2)) (ja0 (jbt jd7 rfl B.list PyProof.Rows.boot_list (ja0 (jah q_ix (qv 3) ja4 (fun _ _=>rfl)) ja2)) ja2))) (ja0 (jbt jd7 rfl B.list PyProof.Rows.boot_list (ja0 (qv 4) ja2)) (ja0 (jbt jd7 rfl B.list PyProof.Rows.boot_list (ja0 (qv 6) ja2)) ja2))))) (ja5 (jaj (i:=8) sc.nd rfl (Or.inl rfl) (jb8 (ja0 (ja9 G_law_web_by (hr.mono (by decide)) rfl D_law_web_by.m D_law_web_by.F.kp D_law_web_by.b .nil jai (ja0 (qv 5) (ja0 (qv 3) ja2))) (ja0 (jab jfi rfl B.sorted PyProof.Rows.boot_sorted (ja0 (jbs (CpScope.of (N:=["_law_place","_law_new_here"]) (src:=[none,some 5]) (by rfl)) rfl (jaz (qv 6)) (fun _ _ _ _=>(jae (i:=0) (jad (l:=["_law_place","_law_new_here"]) (by rfl)) rfl (Or.inl rfl))) (fun _ _ _ _=>jbk) (fun _ _ _ _=>(jeb (by exact hu) (qv 1) (qv 0) (fun _ _=>rfl)))) ja2)) (ja0 (jab jbc rfl B.sorted PyProof.Rows.boot_sorted (ja0 (jbs (CpScope.of (N:=["_law_one","_law_new_here"]) (src:=[none,some 5]) (by rfl)) rfl (jol (qv 5)) (fun _ _ _ _=>(jae (i:=0) (jad (l:=["_law_one","_law_new_here"]) (by rfl)) rfl (Or.inl rfl))) (fun _ _ _ _=>jbk) (fun _ _ _ _=>(jay (ja0 (jeb (by exact hu) (qv 1) (qv 0) (fun _ _=>rfl)) (ja0 (qv 0) ja2))))) ja2)) ja2))))) (ja5 (jaj (i:=9) sc.nd rfl (Or.inl rfl) (ja9 G_called_web (hr.mono (by decide)) rfl D_called_web.m D_called_web.F.kp D_called_web.b .nil jai (ja0 (jah q_ix (qv 7) ja4 (fun _ _=>rfl)) (ja0 (jah q_ix (qv 7) ja4 (fun _ _=>rfl)) ja2)))) (ja5 (jaj (i:=10) sc.nd rfl (Or.inl rfl) (ja9 G_called_set (hr.mono (by decide)) rfl D_called_set.m D_called_set.F.kp D_called_set.b .nil jai (ja0 (jah q_ix (qv 7) ja4 (fun _ _=>rfl)) (ja0 (jah q_ix (qv 7) ja4 (fun _ _=>rfl)) (ja0 (jah q_ix (qv 7) ja4 (fun _ _=>rfl)) ja2))))) (ja5 (jaj (i:=11) sc.nd rfl (Or.inl rfl) (ja9 G_calls_back (hr.mono (by decide)) rfl D_calls_back.m D_calls_back.F.kp D_calls_back.b .nil jai (ja0 (jah q_ix (qv 7) ja4 (fun _ _=>rfl)) (ja0 (jah q_ix (qv 7) ja4 (fun _ _=>rfl)) ja2)))) (ja5 (jbf (PW.pt (jd1 (jbj (jbh (ja9 G_law_same_web (hr.mono (by decide)) rfl D_law_same_web.m D_law_same_web.F.kp D_law_same_web.b .nil jai (ja0 (qv 9) (ja0 (jah q_ix (qv 8) ja4 (fun _ _=>rfl)) ja2))))) (jd1 (jbj (jbh (ja9 G_law_rows (hr.mono (by decide)) rfl D_law_rows.m D_law_rows.F.kp D_law_rows.b .nil jai (ja0 (qv 11) (ja0 ja4 ja2))))) (jcn (jbj (jbh (jab (je7 .lst) rfl B.isinstance PyProof.Rows.boot_isinstance (ja0 (qv 10) (ja0 (jc6 (v:=.ty "list") rfl B.list PyProof.Rows.boot_list rfl) ja2))))))))) (ja7 (jak jcv)) jao) (ja5 (jbf (PW.pt (jd1 (jat (jco hr.units) (jb8 (ja0 (qv 9) (ja0 (qv 10) (ja0 (qv 11) ja2)))) (qv 8) (jap _)) (jcn (jat (jco hr.units) (jbs (CpScope.of (N:=["_law_one"]) (src:=[none]) (by rfl)) rfl (jaz (qv 10)) (fun _ _ _ _=>(jae (i:=0) (jad (l:=["_law_one"]) (by rfl)) rfl (Or.inl rfl))) (fun _ _ _ _=>(je8 (jbj (jbh (ja9 G_law_whole (hr.mono (by decide)) rfl D_law_whole.m D_law_whole.F.kp D_law_whole.b .nil jai (ja0 (qv 0) ja2)))))) (fun _ _ _ _=>(qv 0))) (jb8 ja2) (jap _))))) (ja7 (jak jcv)) jao) (ja5 (jbf (PW.pt (jd1 (jat (jco hr.units) (ja9 G_called_web (hr.mono (by decide)) rfl D_called_web.m D_called_web.F.kp D_called_web.b .nil jai (ja0 (qv 9) (ja0 (qv 11) ja2))) (qv 3) (jap _)) (jcn (jat (jco hr.units) (ja9 G_called_set (hr.mono (by decide)) rfl D_called_set.m D_called_set.F.kp D_called_set.b .nil jai (ja0 (qv 9) (ja0 (qv 11) (ja0 (qv 10) ja2)))) (qv 6) (jap _))))) (ja7 (jak jcv)) jao) (ja5 (jbf (jbj (jbh (ja9 G_law_papers_right (hr.mono (by decide)) rfl D_law_papers_right.m D_law_papers_right.F.kp D_law_papers_right.b .nil jai (ja0 (jah q_ix (qv 7) ja4 (fun _ _=>rfl)) (ja0 (jah q_ix (qv 7) ja4 (fun _ _=>rfl)) (ja0 (qv 5) ja2)))))) (ja7 (jak jcv)) jao) (ja5 (jbm (q_bm PySem.F.plainAttrs_list PySem.F.slot_list_append PySem.F.type_list_append jbz (jah q_ix (qv 9) ja4 (fun _ _=>rfl)) (ja0 (jay (ja0 ja4 (ja0 ja4 ja2))) ja2))) (ja5 (jbm (q_bm PySem.F.plainAttrs_list PySem.F.slot_list_append PySem.F.type_list_append jbz (jah q_ix (qv 9) ja4 (fun _ _=>rfl)) (ja0 (jay (ja0 ja4 (ja0 ja4 ja2))) ja2))) (ja5 (jbm (q_bm PySem.F.plainAttrs_list PySem.F.slot_list_append PySem.F.type_list_append jbz (qv 10) (ja0 ja4 ja2))) (ja5 (jbm (q_bm PySem.F.plainAttrs_list PySem.F.slot_list_append PySem.F.type_list_append jbz (qv 11) (ja0 (jay (ja0 ja4 (ja0 ja4 ja2))) ja2))) (ja5 (jaj (i:=12) sc.nd rfl (Or.inl rfl) (jb8 (ja0 (ja9 G_called_web (hr.mono (by decide)) rfl D_called_web.m D_called_web.F.kp D_called_web.b .nil jai (ja0 (jah q_ix (qv 7) ja4 (fun _ _=>rfl)) (ja0 (jah q_ix (qv 7) ja4 (fun _ _=>rfl)) ja2))) (ja0 (ja9 G_called_set (hr.mono (by decide)) rfl D_called_set.m D_called_set.F.kp D_called_set.b .nil jai (ja0 (jah q_ix (qv 7) ja4 (fun _ _=>rfl)) (ja0 (jah q_ix (qv 7) ja4 (fun _ _=>rfl)) (ja0 (jah q_ix (qv 7) ja4 (fun _ _=>rfl)) ja2)))) ja2)))) (ja7 (jbf (PW.pt (jd1 (jat (jco hr.units) (jau jmk (qv 12) (jb8 (ja0 (ja9 G_calls_back (hr.mono (by decide)) rfl D_calls_back.m D_calls_back.F.kp D_calls_back.b .nil jai (ja0 (jah q_ix (qv 7) ja4 (fun _ _=>rfl)) (ja0 (jah q_ix (qv 7) ja4 (fun _ _=>rfl)) ja2))) ja2))) (qv 8) (jap _)) (jcn (jat (jco hr.units) (qv 7) (jb8 (ja0 (qv 3) (ja0 (qv 4) (ja0 (qv 6) ja2)))) (jap _))))) (ja7 (jak jcv)) jao)))))))))))))))))))))) (ja7 (jak jcv))),?_⟩
 refine ja8 fun R hR=>?_
 obtain ⟨N,hN,hN2⟩:∃ N:Nat,N = (if (1:Int) < (if (63:Int) < (ns.length:Int) then 63 else (ns.length:Int)) then (if (63:Int) < (ns.length:Int) then 63 else (ns.length:Int)) else 1).toNat∧N < 70:=⟨_,rfl,by split <;> split <;> omega⟩
 refine jbp (Itr 0 N) H (fun R' hR'=>?_) (jci (n:=N) (fun i σ H1=>∃ v1 v2 v3 v4 v5 v6 v7 v8 v9 v10 v11 v12,σ = [some (.ref a),v1,v2,v3,v4,v5,v6,v7,v8,v9,v10,v11,v12]∧Scr K H1 a ns) ⟨none,none,none,none,none,none,none,none,none,none,none,none,rfl,hs⟩ ?_ ?_)
 ·unfold jmw
  walk_at "RD"
  refine ⟨a,_,rfl,.inl hs.sq,?_⟩
  simp_arith [List.length_map]
  refine ⟨_,rfl,?_,?_,?_⟩
  ·split <;> split <;> omega
  ·split <;> split <;> omega
  ·rw [← hN]
   exact hR'
 ·rintro i σ H1 hi ⟨v1,v2,v3,v4,v5,v6,v7,v8,v9,v10,v11,v12,rfl,hs1⟩
  simp only [jg8,List.set_cons_zero,List.set_cons_succ]
  refine ja8 fun R9 hR9=>?_
  walk_at "RD"
  refine ⟨a,0 + (i:Int),ns,rfl,hs1,by omega,by omega,fun st o hst so=>?_⟩
  have s2:=ja3 hst o
  have e2:upd H1 st o st = some o:=ja1
  have hs2:=hs1.tups s2.tups
  generalize upd H1 st o = H2 at s2 e2 hs2
  walk_at "RD"
  subst hR9
  refine ja8 fun R9 hR9=>?_
  have F:∀ (v:V) (H3:Hp) (o3:HO) (ps ts:List (Int × Int)),But st H2 H3→H3 st = some o3→StO o3→jb9 H3 v ps ts→WebOk ps ts→R9 { nx:=fun σ H1=>∃ v1 v2 v3 v4 v5 v6 v7 v8 v9 v10 v11 v12,σ = [some (.ref a),v1,v2,v3,v4,v5,v6,v7,v8,v9,v10,v11,v12]∧Scr K H1 a ns,rt:=Q,bk:=R { nx:=fun x H'=>Q .non H',rt:=Q },ct:=fun σ H1=>∃ v1 v2 v3 v4 v5 v6 v7 v8 v9 v10 v11 v12,σ = [some (.ref a),v1,v2,v3,v4,v5,v6,v7,v8,v9,v10,v11,v12]∧Scr K H1 a ns } [some (.ref a),some (.int (0 + (i:Int))),some (.ref st),some v,v4,v5,v6,v7,v8,v9,v10,v11,v12] H3:=by
   intro v H3 o3 ps ts b3 e3 so3 hw wok
   have hs3:=hs2.tups (b3.tups e2 so.imm)
   have hnd:=wok.p.nodup
   have okl:=wok.pl
   subst hR9
   refine ja8 fun R8 hR8=>?_
   walk_at "RD"
   refine ⟨st,o3,v,ps,ts,rfl,e3,so3,hw,wok,fun c H4 o4 cs b4 e4 so4 hc4 lc4 cok=>?_⟩
   have hw4:=hw.but e3 so3 b4
   have hs4:=hs3.tups (b4.tups e3 so3.imm)
   have hlc:=cok.len
   have get:∀ n ∈ ps.map (·.1),n ∈ cs.map (·.1):=fun n hn=>by rw [cok.keys]; exact hn
   walk_at "RD"
   subst hR8
   refine ja8 fun R8 hR8=>?_
   walk_at "RD"
   refine ⟨c,cs,rfl,lc4,by rw [cok.keys]; exact hnd,by omega,fun d H5 hd5 s5 ed5=>?_⟩
   have hw5:=hw4.same s5
   have lc5:=lc4.same s5
   have e5:=s5 _ _ e4
   have hs5:=hs4.tups s5.tups
   walk_at "RD"
   subst hR8
   refine ja8 fun R8 hR8=>?_
   obtain ⟨u,pa,ta,xs,ys,rfl,eu,ep,et,pp,pt⟩:=id hw5
   have hlx:xs.length = ps.length:=Paired.length pp
   have nps:pa ≠ st:=jih ep pp e5 so4
   refine jan (Itl K pa) H5 (fun R2 hR2=>?_) (fun z hz=>jav ps.length (fun j σ' Hc=>∃ w1 w2 o',σ' = [w1,w2,some (.ref st)]∧But st H5 Hc∧Hc st = some o'∧StO o'∧∃ ms:List Int,Hc z = some (.lst (ms.map V.int))∧ms.Sublist ((ps.take j).map (·.1))) ⟨none,none,o4,rfl,But.new hz,by rw [jaa (ja6 e5 hz)]; exact e5,so4,[],ja1,List.Sublist.refl _⟩ ?_ ?_)
   ·unfold jc1
    simp_arith [jam,eu,at0]
    exact ⟨pa,rfl,⟨_,SqL.of ep⟩,hR2⟩
   ·rintro j σ' Hc hj ⟨w1,w2,o',rfl,b7,e7,so7,ms,ez,sb⟩
    have z1:SqL K Hc pa xs:=SqL.of (b7 _ _ nps ep)
    have x1:xs[j]? = some (xs[j]'(by omega)):=List.getElem?_eq_getElem _
    refine ⟨⟨_,_,z1,x1⟩,?_⟩
    rintro y H' ⟨rfl,hy⟩
    obtain ⟨q,hq,pq⟩:=jag pp (hy _ z1)
    obtain ⟨t,rfl,ht⟩:=pq.tups (b7.tups e5 so4.imm)
    have nz:z ≠ st:=(ja6 e5 hz).symm
    have hml:ms.length ≤ 40:=by
     have:=sb.length_le
     rw [List.length_map,List.length_take] at this
     omega
    simp_arith [ht]
    refine ⟨st,o',2,rfl,e7,so7,by decide,by decide,fun dd oD d0 d1 soD=>?_⟩
    have b8:=b7.trans (But.at st H' oD)
    have e8:upd H' st oD st = some oD:=ja1
    have ez8:=But.at st H' oD _ _ nz ez
    generalize upd H' st oD = H8 at b8 e8 ez8
    walk_at "RD"
    refine ite2 (fun _=>?_) (fun _=>?_)
    ·refine ⟨_,ez8,by rw [List.length_map]; exact szl' (by omega),_,_,oD,rfl,fun b x nb q9=>?_,by rw [jaa nz.symm]; exact e8,soD,ms ++ [q.1],by rw [ja1,List.map_append]; rfl,?_⟩
     ·rw [jaa (ja6 q9 hz)]
      exact b8 _ _ nb q9
     ·rw [jaq hq,List.map_append]
      exact sb.append (List.Sublist.refl _)
    ·refine ⟨_,_,oD,rfl,b8,e8,soD,ms,ez8,?_⟩
     rw [jaq hq,List.map_append]
     exact sb.trans (List.sublist_append_left _ _)
   rintro σ' H6 ⟨w1,w2,o6,rfl,b6,e6,so6,ss,es6,sb⟩
   refine ⟨⟨_,SqL.of (b6 _ _ nps ep),by omega⟩,?_⟩
   rw [List.take_length] at sb
   have hsl:ss.length ≤ 40:=by
    have:=sb.length_le
    rw [List.length_map] at this
    omega
   have sin:∀ n ∈ ss,n ∈ ps.map (·.1):=fun n hn=>sb.subset hn
   have slt:ss.Pairwise (· < ·):=List.Pairwise.sublist sb wok.p.lts
   have hw6:=hw5.but e5 so4 b6
   have nd6:d ≠ st:=fun z=>by rw [z,e5] at ed5; cases ed5; obtain ⟨_,_,_,e,_⟩:=so4; cases e
   have ed6:=b6 _ _ nd6 ed5
   have lc6:jbd H6 c cs:=by
    obtain ⟨zs,ec,pz⟩:=lc5
    exact ⟨zs,b6 _ _ (jih ec pz e5 so4) ec,Prs.tups (b6.tups e5 so4.imm) pz⟩
   have hs6:=hs5.tups (b6.tups e5 so4.imm)
   clear hw5 lc5 eu ep et pp pt hw4 lc4 b6 e6 so6 b4 s5 ed5 e5 nps hz
   obtain ⟨u',pa,ta,xs,ys,eq0,eu,ep,et,pp,pt⟩:=id hw6
   cases eq0
   walk_at "RD"
   subst hR8
   refine ja8 fun R8 hR8=>?_
   simp_arith [jam,eu,at0,ep]
   intro g1 hg1
   have q7:=ja3 hg1 (.lst xs)
   have eg1:upd H6 g1 (.lst xs) g1 = some (.lst xs):=ja1
   generalize upd H6 g1 (.lst xs) = H7 at q7 eg1
   simp_arith [jam,q7 _ _ eu,at1,q7 _ _ et]
   intro g2 hg2
   have q8:=ja3 hg2 (.lst ys)
   have eg2:upd H7 g2 (.lst ys) g2 = some (.lst ys):=ja1
   have eg1':=q8 _ _ eg1
   have q68:=q7.trans q8
   generalize upd H7 g2 (.lst ys) = H8 at q8 eg2 eg1' q68
   intro gw hgw
   have q9:=ja3 hgw (.tup [.ref g1,.ref g2])
   have egw:upd H8 gw (.tup [.ref g1,.ref g2]) gw = some (.tup [.ref g1,.ref g2]):=ja1
   have q69:=q68.trans q9
   have eg1'':=q9 _ _ eg1'
   have eg2'':=q9 _ _ eg2
   generalize upd H8 gw (.tup [.ref g1,.ref g2]) = H9 at q9 egw q69 eg1'' eg2''
   have gweb:jb9 H9 (.ref gw) ps ts:=⟨gw,g1,g2,xs,ys,rfl,egw,eg1'',eg2'',Prs.same q69 pp,Prs.same q69 pt⟩
   clear eg1 eg2 eg1' q7 q8 q9 egw eg1'' eg2'' q68
   obtain ⟨zc,ezc,pzc⟩:=id lc6
   simp_arith [jam,q69 _ _ ezc]
   intro gc hgc
   have qA:=ja3 hgc (.lst zc)
   have lgc:jbd (upd H9 gc (.lst zc)) gc cs:=⟨zc,ja1,Prs.same (q69.trans qA) pzc⟩
   generalize upd H9 gc (.lst zc) = HA at qA lgc
   have q6A:=q69.trans qA
   simp_arith [jam,q6A _ _ es6]
   intro gs hgs
   have qB:=ja3 hgs (.lst (ss.map V.int))
   have egs:upd HA gs (.lst (ss.map V.int)) gs = some (.lst (ss.map V.int)):=ja1
   generalize upd HA gs (.lst (ss.map V.int)) = HB at qB egs
   intro hd hhd
   have qC:=ja3 hhd (.lst [.ref gw,.ref gc,.ref gs])
   have ehd:upd HB hd (.lst [.ref gw,.ref gc,.ref gs]) hd = some (.lst [.ref gw,.ref gc,.ref gs]):=ja1
   generalize upd HB hd (.lst [.ref gw,.ref gc,.ref gs]) = HC at qC ehd
   have qBC:=qB.trans qC
   have q6C:=q6A.trans qBC
   have kept:Kept HC (.ref u) c z hd gw gc gs ps ts cs ss:=⟨hw6.same q6C,lc6.same q6C,q6C _ _ es6,ehd,gweb.same (qA.trans qBC),lgc.same qBC,qC _ _ egs⟩
   have edC:=q6C _ _ ed6
   have hsC:=hs6.tups q6C.tups
   clear hw6 lc6 es6 ehd gweb lgc egs eu ep et pp pt ezc pzc q6A qA qB qC qBC q69 q6C ed6 hs6
   walk_at "RD"
   subst hR8
   refine ja8 fun R8 hR8=>?_
   walk_at "RD"
   refine ⟨d,.ref u,cs,ps,ts,rfl,edC,kept.web,wok,cok,fun tw qs us HD sD dwD srtq srtu=>?_⟩
   have keptD:=kept.same sD
   have edD:=sD _ _ edC
   walk_at "RD"
   refine jan (Itl K z) HD (fun R' hR'=>?_) (fun y1 hy1=>jav ss.length (fun j σ' Hc=>∃ w1,σ' = [w1,some (.ref d)]∧Same HD Hc∧Hc y1 = some (.lst (((ss.take j).map (prc cs)).map V.int))) ⟨none,rfl,ja3 hy1 _,ja1⟩ ?_ ?_)
   ·unfold jc1
    walk_at "RD"
    exact ⟨z,rfl,⟨_,SqL.of keptD.set⟩,hR'⟩
   ·rintro j σ' Hc hj ⟨w1,rfl,s4,ez⟩
    have z1:SqL K Hc z (ss.map V.int):=SqL.of (s4 _ _ keptD.set)
    have x1:(ss.map V.int)[j]? = some ((ss.map V.int)[j]'(by rw [List.length_map]; omega)):=List.getElem?_eq_getElem _
    refine ⟨⟨_,_,z1,x1⟩,?_⟩
    rintro y H' ⟨rfl,hy⟩
    obtain ⟨n,hn,rfl⟩:=jjc (hy _ z1)
    simp_arith [jkd]
    refine ⟨d,_,rfl,(show DicR H' d cs from .inl (s4 _ _ edD)).get (get n (sin n (List.mem_of_getElem? hn))),?_⟩
    refine ⟨_,ez,?_,_,rfl,jar s4 hy1,?_⟩
    ·rw [List.length_map,List.length_map,List.length_take]; exact szl' (by omega)
    ·rw [ja1,jaq hn,List.map_append,List.map_append]; rfl
   rintro σ' HE ⟨w1,rfl,sE,ey1⟩
   refine ⟨⟨_,SqL.of (sE _ _ keptD.set),by rw [List.length_map]; omega⟩,?_⟩
   rw [List.take_length] at ey1
   refine ⟨y1,_,rfl,ey1,by rw [List.length_map]; omega,fun ml ms hml pm pw=>?_⟩
   have qF:=ja3 hml (.lst (ms.map V.int))
   have eml:upd HE ml (.lst (ms.map V.int)) ml = some (.lst (ms.map V.int)):=ja1
   generalize upd HE ml (.lst (ms.map V.int)) = HF at qF eml
   have sDF:=sE.trans qF
   have keptF:=keptD.same sDF
   have edF:=sDF _ _ edD
   have dwF:=dwD.same sDF
   have hsF:=hsC.tups (sD.trans sDF).tups
   clear keptD edD dwD ey1 kept
   walk_at "RD"
   refine ji3 (ι:=Obj) (fun oo=>Itd d oo (jb0 cs)) (fun oo=>upd HF d (.frz oo (.dK (jb0 cs)))) (fun _=>True) (fun R' hR'=>?_) (fun oo _ y2 hy2=>jav cs.length (fun j σ' Hc=>∃ w1,σ' = [w1,some (.ref d)]∧Same (upd HF d (.frz oo (.dK (jb0 cs)))) Hc∧∃ vs,Hc y2 = some (.lst vs)∧Prs Hc vs ((cs.take j).map fun c=>(c.2,c.1))) ⟨none,rfl,ja3 hy2 _,[],ja1,.nil⟩ ?_ ?_)
   ·unfold iDct
    walk_at "RD"
    exact ⟨d,jb0 cs,rfl,edF,fun oo=>hR' oo trivial⟩
   ·rintro j σ' Hc hj ⟨w1,rfl,s4,vs,ev,pv⟩
    have efz:=s4 _ _ (show upd HF d (.frz oo (.dK (jb0 cs))) d = _ from ja1)
    refine ⟨⟨efz,by rw [jhj]; exact hj⟩,?_⟩
    rintro y H' ⟨rfl,kv,hkv,rfl⟩
    have hq:cs[j]? = some cs[j]:=List.getElem?_eq_getElem hj
    generalize cs[j] = q at hq
    have ekv:kv = (Sum.inl q.1,.int q.2):=by
     unfold jb0 at hkv
     rw [List.getElem?_map,hq] at hkv
     exact (Option.some.inj hkv).symm
    subst ekv
    have hqm:=List.mem_of_getElem? hq
    have hvl:vs.length ≤ 40:=by
     have:=Paired.length pv
     rw [List.length_map,List.length_take] at this
     omega
    have epq:prc cs q.1 = q.2:=jh0 (by rw [cok.keys]; exact hnd) hqm
    simp only [kV]
    simp_arith [jkd]
    refine ⟨d,_,rfl,(show DicR H' d cs from .inr ⟨oo,efz⟩).get (List.mem_map_of_mem (f:=fun q:Int × Int=>q.1) hqm),?_⟩
    rw [epq]
    intro tt htt
    have q5:=ja3 htt (.tup [.int q.2,.int q.1])
    have ett:upd H' tt (.tup [.int q.2,.int q.1]) tt = some (.tup [.int q.2,.int q.1]):=ja1
    have ev5:=q5 _ _ ev
    generalize upd H' tt (.tup [.int q.2,.int q.1]) = H5 at q5 ett ev5
    refine ⟨_,ev5,szl' (by omega),_,rfl,jar (s4.trans q5) hy2,vs ++ [.ref tt],ja1,?_⟩
    rw [jaq hq,List.map_append]
    have t6:=jax (ys:=vs ++ [.ref tt]) ev5
    exact jal (Prs.tups t6 (Prs.same q5 pv)) (Pr.tups (p:=(q.2,q.1)) ⟨tt,rfl,ett⟩ t6)
   rintro σ' HG ⟨w1,rfl,sG,vs,ev,pv⟩
   refine ⟨⟨sG _ _ ja1,by rw [jhj]; exact Nat.le_refl _⟩,?_⟩
   rw [List.take_length] at pv
   have hvl:vs.length = cs.length:=by have:=Paired.length pv; rw [List.length_map] at this; exact this
   have nF:=joq (o:=.frz oo (.dK (jb0 cs))) edF
   have keptG:=(keptF.noD nF).same sG
   have dwG:=(dwF.noD nF).same sG
   have emlG:=sG _ _ (nF _ _ (fun _ z=>by cases z) eml)
   have drG:DicR HG d cs:=.inr ⟨oo,sG _ _ ja1⟩
   have hsG:=hsF.tups (nF.tups.trans sG.tups)
   refine ⟨y2,vs,_,1000,rfl,ev,pv,by omega,fun q hq=>?_,fun kl ys1 ks hkl pk prm srt=>?_⟩
   ·obtain ⟨k,hk,rfl⟩:=List.mem_map.mp hq
    have hkk:k.1 ∈ ps.map (·.1):=by rw [← cok.keys]; exact List.mem_map_of_mem (f:=fun q:Int × Int=>q.1) hk
    obtain ⟨p,hp,e⟩:=List.mem_map.mp hkk
    have g1:=wok.p.gt p hp
    have g2:=(wok.p.pos p hp).2
    show 0 ≤ k.1∧k.1 < 1000
    omega
   have srtk:jcy ks (cs.map fun c=>(c.2,c.1)):=⟨prm,srt⟩
   have qH:=ja3 hkl (.lst ys1)
   have lkl:jbd (upd HG kl (.lst ys1)) kl ks:=⟨ys1,ja1,Prs.same qH pk⟩
   generalize upd HG kl (.lst ys1) = HH at qH lkl
   walk_at "RD"
   intro du hdu
   have qI:=ja3 hdu (.lst [tw,.ref ml,.ref kl])
   have edu:upd HH du (.lst [tw,.ref ml,.ref kl]) du = some (.lst [tw,.ref ml,.ref kl]):=ja1
   generalize upd HH du (.lst [tw,.ref ml,.ref kl]) = HI at qI edu
   have qGI:=qH.trans qI
   have keptI:=keptG.same qGI
   have dwI:=dwG.same qGI
   have emlI:=qGI _ _ emlG
   have lklI:=lkl.same qI
   have drI:=drG.same qGI
   have hsI:=hsG.tups qGI.tups
   have CALL:=called wok cok srtq srtu srtk
   clear keptG dwG emlG lkl drG hsG keptF dwF edF eml hsF nF qH qI qGI pv ev sG pk
   have dueR:∀ HX,Same HI HX→Rep HX (.lst [webD qs us,.lst (ms.map Dt.int),prsD ks]) (.ref du):=fun HX sX=>rep3 (sX _ _ edu) (jc4 (dwI.same sX)) (jby (sX _ _ emlI)) (lklI.same sX).rep
   have C1:∀ HX (Q2:VK),Same HI HX→(∀ t l1 l2 HY,Same HX HY→HX l1 = none→HX l2 = none→l1 ≠ l2→HY t = some (.tup [.ref l1,.ref l2])→jbd HY l1 qs→jbd HY l2 us→Q2 (.ref t) HY)→jkj [.ref gw,.ref gc] HX Q2 E0:=fun HX Q2 sX k=>⟨.ref gw,gc,ps,ts,cs,rfl,(keptI.same sX).hweb,wok,(keptI.same sX).hcal,cok,fun t l1 l2 qs' us' HY sY n1 n2 n3 et p1 p2 r1 r2=>k t l1 l2 HY sY n1 n2 n3 et (by rw [srtq.eq r1]; exact p1) (by rw [srtu.eq r2]; exact p2)⟩
   have C2:∀ HX (Q2:VK),Same HI HX→(∀ r HY,Same HX HY→HX r = none→HY r = some (.lst (ms.map V.int))→Q2 (.ref r) HY)→jkk [.ref gw,.ref gc,.ref gs] HX Q2 E0:=fun HX Q2 sX k=>⟨.ref gw,gc,gs,ps,ts,cs,ss,rfl,(keptI.same sX).hweb,wok,(keptI.same sX).hcal,cok,(keptI.same sX).hset,sin,by omega,fun r ms' HY sY n1 er pm' pw'=>k r HY sY n1 (by rw [er,jd0 (pm'.trans pm.symm) pw' pw])⟩
   have C3:∀ HX (Q2:VK),Same HI HX→(∀ r HY,Same HX HY→HX r = none→jbd HY r ks→Q2 (.ref r) HY)→ji7 [.ref gw,.ref gc] HX Q2 E0:=fun HX Q2 sX k=>⟨.ref gw,gc,ps,ts,cs,rfl,(keptI.same sX).hweb,wok,(keptI.same sX).hcal,cok,fun r ks' HY sY n1 lr sr=>k r HY sY n1 (by rw [srtk.eq sr]; exact lr)⟩
   subst hR8
   refine ja8 fun R8 hR8=>?_
   simp_arith [jam,keptI.hand,at0,at1]
   refine C1 HI _ (Same.refl _) fun t l1 l2 HJ sJ nl1 nl2 n12 etJ p1J p2J=>?_
   walk_at "RD"
   subst hR8
   refine ja8 fun R8 hR8=>?_
   simp_arith [jam,sJ _ _ keptI.hand,at0,at1,at2]
   refine C2 HJ _ sJ fun ro HK sK nro eroK=>?_
   have sIK:=sJ.trans sK
   walk_at "RD"
   subst hR8
   refine ja8 fun R8 hR8=>?_
   simp_arith [jam,sIK _ _ keptI.hand,at0,at1]
   refine C3 HK _ sIK fun rt HL sL nrt lrtL=>?_
   have sIL:=sIK.trans sL
   have sJL:=sK.trans sL
   have foundL:jb9 HL (.ref t) qs us:=by
    obtain ⟨x1,e1,r1⟩:=p1J.same sJL
    obtain ⟨x2,e2,r2⟩:=p2J.same sJL
    exact ⟨t,l1,l2,x1,x2,rfl,sJL _ _ etJ,e1,e2,r1,r2⟩
   have p1L:=p1J.same sJL
   have p2L:=p2J.same sJL
   have eroL:=sL _ _ eroK
   have etL:=sJL _ _ etJ
   have nroI:HI ro = none:=sJ.free nro
   have nrtI:HI rt = none:=sIK.free nrt
   have nrl1:ro ≠ l1:=fun e=>by rw [e] at nro; obtain ⟨x1,e1,_⟩:=p1J; rw [e1] at nro; cases nro
   have nrl2:ro ≠ l2:=fun e=>by rw [e] at nro; obtain ⟨x1,e1,_⟩:=p2J; rw [e1] at nro; cases nro
   have ntl1:rt ≠ l1:=fun e=>by rw [e] at nrt; obtain ⟨x1,e1,_⟩:=p1J.same sK; rw [e1] at nrt; cases nrt
   have ntl2:rt ≠ l2:=fun e=>by rw [e] at nrt; obtain ⟨x1,e1,_⟩:=p2J.same sK; rw [e1] at nrt; cases nrt
   have ntro:rt ≠ ro:=fun e=>by rw [e,eroK] at nrt; cases nrt
   clear p1J p2J etJ eroK sJ sK sL sIK sJL
   walk_at "RD"
   subst hR8
   refine ja8 fun R8 hR8=>?_
   simp_arith [jam,sIL _ _ edu,at0]
   refine ⟨.ref t,tw,qs,us,rfl,foundL,dwI.same sIL,fun HM sM=>?_⟩
   walk_at "RD"
   obtain ⟨xr,exr,pxr⟩:=lrtL.same sM
   refine ⟨rt,xr,ks,rfl,exr,pxr,fun HN sN=>?_⟩
   have sLN:=sM.trans sN
   have sIN:=sIL.trans sLN
   have eroN:=sLN _ _ eroL
   have hkr:kd HN (.ref ro) = some .lst:=by unfold kd; dsimp only; rw [eroN]
   simp_arith [hkr,isi]
   subst hR8
   refine ja8 fun R8 hR8=>?_
   walk_at "RD"
   intro tr htr
   have qO:=ja3 htr (.lst [.ref t,.ref ro,.ref rt])
   have etr:upd HN tr (.lst [.ref t,.ref ro,.ref rt]) tr = some (.lst [.ref t,.ref ro,.ref rt]):=ja1
   generalize upd HN tr (.lst [.ref t,.ref ro,.ref rt]) = HO1 at qO etr
   have sLO:=sLN.trans qO
   have sIO:=sIN.trans qO
   refine ⟨_,_,rep3 etr (jc4 (foundL.same sLO)) (jby (sLO _ _ eroL)) (lrtL.same sLO).rep,dueR _ sIO,dep3 _ _ _ _,.inl ⟨_,_,rfl,rfl⟩,?_⟩
   rw [jbg]
   walk_at "RD"
   refine jan (Itl K ro) HO1 (fun R' hR'=>?_) (fun y3 hy3=>jav ms.length (fun j σ' Hc=>∃ w1,σ' = [w1]∧Same HO1 Hc∧Hc y3 = some (.lst [])) ⟨none,rfl,ja3 hy3 _,ja1⟩ ?_ ?_)
   ·unfold jc1
    walk_at "RD"
    exact ⟨ro,rfl,⟨_,SqL.of (sLO _ _ eroL)⟩,hR'⟩
   ·rintro j σ' Hc hj ⟨w1,rfl,s4,ez⟩
    have z1:SqL K Hc ro (ms.map V.int):=SqL.of (s4 _ _ (sLO _ _ eroL))
    have x1:(ms.map V.int)[j]? = some ((ms.map V.int)[j]'(by rw [List.length_map]; omega)):=List.getElem?_eq_getElem _
    refine ⟨⟨_,_,z1,x1⟩,?_⟩
    rintro y H' ⟨rfl,hy⟩
    obtain ⟨n,hn,rfl⟩:=jjc (hy _ z1)
    walk_at "RD"
    refine ⟨_,.int,rfl,rfl,?_⟩
    simp_arith [jf2]
    exact ⟨_,rfl,s4,ez⟩
   rintro σ' HP ⟨w1,rfl,sP,ez⟩
   refine ⟨⟨_,SqL.of (sP _ _ (sLO _ _ eroL)),by rw [List.length_map]; omega⟩,?_⟩
   intro e0 he0
   have qQ:=ja3 he0 (.lst [])
   have ee0:upd HP e0 (.lst []) e0 = some (.lst []):=ja1
   generalize upd HP e0 (.lst []) = HQ at qQ ee0
   refine ⟨_,_,jck (qQ _ _ ez),jck ee0,by decide,.inl ⟨_,_,rfl,rfl⟩,?_⟩
   rw [jbg]
   have sLQ:=sLO.trans (sP.trans qQ)
   have sIQ:=sIO.trans (sP.trans qQ)
   clear sM sN sLN sIN qO sLO sIO sP qQ etr ee0 ez hkr eroN exr pxr
   walk_at "RD"
   subst hR8
   refine ja8 fun R8 hR8=>?_
   walk_at "RD"
   refine ⟨.ref t,rt,qs,us,ks,rfl,foundL.same sLQ,CALL.web,lrtL.same sLQ,CALL.cal,fun tb lb1 lb2 qb ub HR sR nb1 nb2 nb12 etb pb1 pb2 rb1 rb2=>?_⟩
   have eqb:=rb1.eq CALL.backP
   have eub:=rb2.eq CALL.backT
   subst eqb eub
   have backR:jb9 HR (.ref tb) qb ub:=by
    obtain ⟨x1,e1,r1⟩:=pb1
    obtain ⟨x2,e2,r2⟩:=pb2
    exact ⟨tb,lb1,lb2,x1,x2,rfl,etb,e1,e2,r1,r2⟩
   have sLR:=sLQ.trans sR
   have sIR:=sIQ.trans sR
   refine ⟨_,_,jc4 backR,jc4 (keptI.same sIR).web,by have:=jlp qb ub; omega,.inr ⟨_,_,rfl,rfl⟩,?_⟩
   rw [jbg]
   walk_at "RD"
   have hml:ms.length ≤ 40:=by rw [pm.length_eq,List.length_map]; exact hsl
   refine ⟨.ref t,rt,ro,qs,us,ks,ms,rfl,foundL.same sLR,CALL.web,lrtL.same sLR,CALL.cal,sLR _ _ eroL,fun n hn=>?_,by omega,fun rb mb HS sS nrb erb pmb pwb=>?_⟩
   ·obtain ⟨m,hm,rfl⟩:=List.mem_map.mp (pm.mem_iff.mp hn)
    exact CALL.keys m (sin m hm)
   have emb:mb = ss:=by
    refine jd0 (pmb.trans ?_) pwb (slt.imp fun h=>Int.le_of_lt h)
    have e:(ss.map (prc cs)).map (prc ks) = ss:=by
     rw [List.map_map]
     exact (List.map_congr_left fun n hn=>CALL.back n (sin n hn)).trans (List.map_id ss)
    have:=pm.map (prc ks)
    rwa [e] at this
   rw [emb] at erb
   have sLS:=sLR.trans sS
   have sIS:=sIR.trans sS
   refine ⟨_,_,jby erb,jby (keptI.same sIS).set,jdf _,.inl ⟨_,_,rfl,rfl⟩,?_⟩
   rw [jbg]
   walk_at "RD"
   subst hR8
   refine ja8 fun R8 hR8=>?_
   simp_arith [jam,sIS _ _ keptI.hand,at0,at1]
   refine ⟨.ref gw,gc,d,qb,ub,cs,rfl,(keptI.same sIS).hweb,wok,(keptI.same sIS).hcal,cok,drI.same sIS,fun HT sT=>?_⟩
   have sLT:=sLS.trans sT
   have sIT:=sIS.trans sT
   clear sLQ sIQ sR sLR sIR sS sLS sIS sT backR etb pb1 pb2 erb
   walk_at "RD"
   subst hR8
   refine ja8 fun R8 hR8=>?_
   obtain ⟨x1,e1,r1⟩:=p1L.same sLT
   obtain ⟨x2,e2x,r2⟩:=p2L.same sLT
   obtain ⟨x3,e3x,r3⟩:=lrtL.same sLT
   have e0:=sLT _ _ eroL
   have etT:=sLT _ _ etL
   have k1:x1.length = qs.length:=Paired.length r1
   have k2:x2.length = us.length:=Paired.length r2
   have k3:x3.length = ks.length:=Paired.length r3
   have hq40:=CALL.web.pl
   have hu120:=CALL.web.tl
   have hk40:=CALL.cal.len
   clear p1L p2L lrtL eroL etL foundL sLT
   simp_arith [jam,etT,at0]
   refine ⟨⟨l1,_,rfl,e1⟩,?_⟩
   intro t1 ht1
   have qU:=ja3 ht1 (.tup [.int 1000,.int 1])
   have e1U:=qU _ _ e1
   have e2U:=qU _ _ e2x
   have e3U:=qU _ _ e3x
   have e0U:=qU _ _ e0
   have etU:=qU _ _ etT
   have sIU:=sIT.trans qU
   generalize upd HT t1 (.tup [.int 1000,.int 1]) = HU at qU e1U e2U e3U e0U etU sIU
   simp_arith [e1U]
   refine ⟨szl' (by omega),?_⟩
   have sIV:Same HI (upd HU l1 (.lst (x1 ++ [.ref t1]))):=jar sIU nl1
   have e2V:upd HU l1 (.lst (x1 ++ [.ref t1])) l2 = some (.lst x2):=by rw [jaa n12.symm]; exact e2U
   have e3V:upd HU l1 (.lst (x1 ++ [.ref t1])) rt = some (.lst x3):=by rw [jaa ntl1]; exact e3U
   have e0V:upd HU l1 (.lst (x1 ++ [.ref t1])) ro = some (.lst (ms.map V.int)):=by rw [jaa nrl1]; exact e0U
   have etV:upd HU l1 (.lst (x1 ++ [.ref t1])) t = some (.tup [.ref l1,.ref l2]):=jax (ys:=x1 ++ [.ref t1]) e1U _ _ rfl etU
   generalize upd HU l1 (.lst (x1 ++ [.ref t1])) = HV at sIV e2V e3V e0V etV
   subst hR8
   refine ja8 fun R8 hR8=>?_
   simp_arith [jam,etV,at1]
   refine ⟨⟨l2,_,rfl,e2V⟩,?_⟩
   intro t2 ht2
   have qW:=ja3 ht2 (.tup [.int 1000,.int 1001])
   have e2W:=qW _ _ e2V
   have e3W:=qW _ _ e3V
   have e0W:=qW _ _ e0V
   have sIW:=sIV.trans qW
   generalize upd HV t2 (.tup [.int 1000,.int 1001]) = HW at qW e2W e3W e0W sIW
   simp_arith [e2W]
   refine ⟨szl' (by omega),?_⟩
   have sIX:Same HI (upd HW l2 (.lst (x2 ++ [.ref t2]))):=jar sIW nl2
   have e3X:upd HW l2 (.lst (x2 ++ [.ref t2])) rt = some (.lst x3):=by rw [jaa ntl2]; exact e3W
   have e0X:upd HW l2 (.lst (x2 ++ [.ref t2])) ro = some (.lst (ms.map V.int)):=by rw [jaa nrl2]; exact e0W
   generalize upd HW l2 (.lst (x2 ++ [.ref t2])) = HX at sIX e3X e0X
   subst hR8
   refine ja8 fun R8 hR8=>?_
   walk_at "RD"
   refine ⟨⟨ro,_,rfl,e0X⟩,?_⟩
   simp_arith [e0X]
   refine ⟨by rw [List.length_map]; exact szl' (by omega),?_⟩
   have sIY:Same HI (upd HX ro (.lst (ms.map V.int ++ [.int 1000]))):=jar sIX nroI
   have e3Y:upd HX ro (.lst (ms.map V.int ++ [.int 1000])) rt = some (.lst x3):=by rw [jaa ntro]; exact e3X
   generalize upd HX ro (.lst (ms.map V.int ++ [.int 1000])) = HY at sIY e3Y
   subst hR8
   refine ja8 fun R8 hR8=>?_
   walk_at "RD"
   refine ⟨⟨rt,_,rfl,e3Y⟩,?_⟩
   intro t3 ht3
   have qZ:=ja3 ht3 (.tup [.int 1000,.int 1000])
   have e3Z:=qZ _ _ e3Y
   have sIZ:=sIY.trans qZ
   generalize upd HY t3 (.tup [.int 1000,.int 1000]) = HZ at qZ e3Z sIZ
   simp_arith [e3Z]
   refine ⟨szl' (by omega),?_⟩
   have sA1:Same HI (upd HZ rt (.lst (x3 ++ [.ref t3]))):=jar sIZ nrtI
   generalize upd HZ rt (.lst (x3 ++ [.ref t3])) = A1 at sA1
   clear sIU sIV sIW sIX sIY sIZ qU qW qZ e1U e2U e3U e0U e2V e3V e0V etV e2W e3W e0W e3X e0X e3Y e3Z e0 etT e1 e2x e3x r1 r2 r3 sIT etU
   subst hR8
   refine ja8 fun R8 hR8=>?_
   simp_arith [jam,sA1 _ _ keptI.hand,at0,at1]
   refine C1 A1 _ sA1 fun ta' la1 la2 A2 sA2 na1 na2 na12 eta p1a p2a=>?_
   have sI2:=sA1.trans sA2
   have webA2:jb9 A2 (.ref ta') qs us:=by
    obtain ⟨y1,f1,g1⟩:=p1a
    obtain ⟨y2,f2,g2⟩:=p2a
    exact ⟨ta',la1,la2,y1,y2,rfl,eta,f1,f2,g1,g2⟩
   simp_arith [jam,sI2 _ _ keptI.hand,at0,at1,at2]
   refine C2 A2 _ sI2 fun ra A3 sA3 nra era=>?_
   have sI3:=sI2.trans sA3
   walk_at "RD"
   intro ag hag
   have q4:=ja3 hag (.lst [.ref ta',.ref ra])
   have eag:upd A3 ag (.lst [.ref ta',.ref ra]) ag = some (.lst [.ref ta',.ref ra]):=ja1
   generalize upd A3 ag (.lst [.ref ta',.ref ra]) = A4 at q4 eag
   have sI4:=sI3.trans q4
   subst hR8
   simp_arith [jam,sI4 _ _ keptI.hand,at0,at1]
   refine C3 A4 _ sI4 fun rk A5 sA5 nrk lrk=>?_
   have sI5:=sI4.trans sA5
   walk_at "RD"
   intro g3 hg3
   have q6:=ja3 hg3 (.lst [.ref rk])
   have eg3:upd A5 g3 (.lst [.ref rk]) g3 = some (.lst [.ref rk]):=ja1
   generalize upd A5 g3 (.lst [.ref rk]) = A6 at q6 eg3
   simp_arith [q6 _ _ (sA5 _ _ eag),eg3]
   intro g4 hg4
   have q7:=ja3 hg4 (.lst [.ref ta',.ref ra,.ref rk])
   have eg4:upd A6 g4 (.lst [.ref ta',.ref ra,.ref rk]) g4 = some (.lst [.ref ta',.ref ra,.ref rk]):=ja1
   generalize upd A6 g4 (.lst [.ref ta',.ref ra,.ref rk]) = A7 at q7 eg4
   have s57:=q6.trans q7
   have s37:=q4.trans (sA5.trans s57)
   have s27:=sA3.trans s37
   have sI7:=sI5.trans s57
   refine ⟨_,_,rep3 eg4 (jc4 (webA2.same s27)) (jby (s37 _ _ era)) (lrk.same s57).rep,dueR _ sI7,dep3 _ _ _ _,.inl ⟨_,_,rfl,rfl⟩,?_⟩
   rw [jbg]
   walk_at "RD"
   intro g5 hg5
   have q8:=ja3 hg5 (.lst [.ref u,.ref c,.ref z])
   have eg5:upd A7 g5 (.lst [.ref u,.ref c,.ref z]) g5 = some (.lst [.ref u,.ref c,.ref z]):=ja1
   generalize upd A7 g5 (.lst [.ref u,.ref c,.ref z]) = A8 at q8 eg5
   have sI8:=sI7.trans q8
   have kept8:=keptI.same sI8
   refine ⟨_,_,rep3 kept8.hand (jc4 kept8.hweb) kept8.hcal.rep (jby kept8.hset),rep3 eg5 (jc4 kept8.web) kept8.cal.rep (jby kept8.set),dep3' _ _ _ _,.inl ⟨_,_,rfl,rfl⟩,?_⟩
   rw [jbg]
   walk_at "RD"
   exact ⟨_,_,_,_,_,_,_,_,_,_,_,_,rfl,hsI.tups sI8.tups⟩
  walk_at "RD"
  have SH:∀ (H2':Hp) (o':HO),But st H2 H2'→H2' st = some o'→StO o'→∀ m:Int,1 ≤ m→m ≤ 9→∀ Q2:VK,(∀ v H3 o3 ps ts,But st H2 H3→H3 st = some o3→StO o3→jb9 H3 v ps ts→WebOk ps ts→Q2 v H3)→ji4 [.ref st,.int m] H2' Q2 E0:=fun H2' o' b e so m m0 m1 Q2 k=>⟨st,o',m,rfl,e,so,m0,m1,fun v H3 o3 ps ts b3 e3 so3 hw wok _=>k v H3 o3 ps ts (b.trans b3) e3 so3 hw wok⟩
  by_cases ci:(0 + (i:Int)) = 0
  ·rw [decide_eq_true ci]
   walk_at "RD"
   refine ⟨st,o,2,rfl,e2,so,by decide,by decide,fun d oD d0 d1 soD=>?_⟩
   have bD:=But.at st H2 oD
   have eD:upd H2 st oD st = some oD:=ja1
   generalize upd H2 st oD = HD at bD eD
   walk_at "RD"
   by_cases cd:d = 0
   ·simp only [decide_eq_true cd,if_true]
    exact ⟨st,oD,rfl,eD,soD,fun v H3 o3 ps ts b3 e3 so3 hw wok=>F v H3 o3 ps ts (bD.trans b3) e3 so3 hw wok⟩
   ·simp only [decide_eq_false cd,Bool.false_eq_true,if_false,decide_eq_true ci,if_true]
    refine ⟨.inl ⟨by decide,by decide⟩,SH HD oD bD eD soD _ (by decide) (by decide) _ fun v H3 o3 ps ts b3 e3 so3 hw wok=>F v H3 o3 ps ts b3 e3 so3 hw wok⟩
  ·rw [decide_eq_false ci]
   walk_at "RD"
   refine ⟨.inl ⟨by decide,by decide⟩,SH H2 o (But.refl _ _) e2 so _ (by decide) (by decide) _ fun v H3 o3 ps ts b3 e3 so3 hw wok=>F v H3 o3 ps ts b3 e3 so3 hw wok⟩
 ·rintro σ H1 ⟨v1,v2,v3,v4,v5,v6,v7,v8,v9,v10,v11,v12,rfl,hs1⟩
  subst hR
  walk_at "RD"
  exact h _
end
end My
set_option autoImplicit true
namespace My
open PySem L2
abbrev aT (K:PySem.W.Frag) (x:Str) (f:Addr):Prop:=PySem.W.nsIn K mainGlobals x = some (some (.ref f))
abbrev lT (K:PySem.W.Frag) (x q:Str) (st:Stmt) (f:Addr) (oc:Value) (od an:Option Addr) (sl:Array (Option Value)) (kV dc pm cd ct:Value):Prop:=K.lookup f = some ⟨oc,od,.func (PySem.W.fnOf x q (jcq st) (jcm st) (jac st) .none kV dc pm an cd ct),sl⟩
abbrev cT (K:PySem.W.Frag) (cd:Value) (x:Str):Prop:=PySem.W.codeIn K cd x = true
abbrev kT (K:PySem.W.Frag) (f:Addr):Prop:=PySem.W.keepIn K (.ref f) = true
abbrev zT (K:PySem.W.Frag) (x:Str):Prop:=PySem.W.nsIn K mainGlobals x = some none
theorem dmk {K:PySem.W.Frag} {h:Heap} {mg:Str→Option Value} (X:K.In h) (G:h.Ns mainGlobals mg) {x:Str} {st:Stmt} {f:Addr} {oc:Value} {od an:Option Addr} {sl:Array (Option Value)} {kV dc pm cd ct:Value} (a:aT K x f) (l:lT K x x st f oc od an sl kV dc pm cd ct) (c:cT K cd x) (k:kT K f) (ps:List Str)
  (b:jiv K (PySem.W.fnOf x x (jcq st) (jcm st) (jac st) .none kV dc pm an cd ct) ps []):DefAt K mg x st ps f (PySem.W.fnOf x x (jcq st) (jcm st) (jac st) .none kV dc pm an cd ct):=⟨jas l c k,b,PySem.W.mg_of X G a⟩
theorem all_mk {l:PySem.W.OpenLaw} {w:World} {K:PySem.W.Frag} {h:Heap} {mg:Str→Option Value} {fa:Addr} (X:K.In h) (G:h.Ns mainGlobals mg) (hfa:mg "law" = some (.ref fa)) (a0:aT K "is_whole" f0) (l0:lT K "is_whole" "is_whole" (top 5) f0 oc0 od0 an0 sq0 kV0 dc0 pm0 cd0 ct0) (g0:cT K cd0 "is_whole") (k0:kT K f0) (a1:aT K "is_tuple_of" f1) (l1:lT K "is_tuple_of" "is_tuple_of" (top 6) f1 oc1 od1 an1 sq1 kV1 dc1 pm1 cd1 ct1) (g1:cT K cd1 "is_tuple_of") (k1:kT K f1) (a2:aT K "is_pair_of_wholes" f2) (l2:lT K "is_pair_of_wholes" "is_pair_of_wholes" (top 7) f2 oc2 od2 an2 sq2 kV2 dc2 pm2 cd2 ct2) (g2:cT K cd2 "is_pair_of_wholes") (k2:kT K f2) (a3:aT K "is_list_up_to" f3) (l3:lT K "is_list_up_to" "is_list_up_to" (top 8) f3 oc3 od3 an3 sq3 kV3 dc3 pm3 cd3 ct3) (g3:cT K cd3 "is_list_up_to") (k3:kT K f3) (a4:aT K "place_stands" f4) (l4:lT K "place_stands" "place_stands" (top 14) f4 oc4 od4 an4 sq4 kV4 dc4 pm4 cd4 ct4) (g4:cT K cd4 "place_stands") (k4:kT K f4) (a5:aT K "tie_stands" f5) (l5:lT K "tie_stands" "tie_stands" (top 15) f5 oc5 od5 an5 sq5 kV5 dc5 pm5 cd5 ct5) (g5:cT K cd5 "tie_stands") (k5:kT K f5) (a6:aT K "look_at_places" f6) (l6:lT K "look_at_places" "look_at_places" (top 16) f6 oc6 od6 an6 sq6 kV6 dc6 pm6 cd6 ct6) (g6:cT K cd6 "look_at_places") (k6:kT K f6) (a7:aT K "look_at_ties" f7) (l7:lT K "look_at_ties" "look_at_ties" (top 17) f7 oc7 od7 an7 sq7 kV7 dc7 pm7 cd7 ct7) (g7:cT K cd7 "look_at_ties") (k7:kT K f7) (a8:aT K "look_at_web" f8) (l8:lT K "look_at_web" "look_at_web" (top 18) f8 oc8 od8 an8 sq8 kV8 dc8 pm8 cd8 ct8) (g8:cT K cd8 "look_at_web") (k8:kT K f8) (a9:aT K "tie_of" f9) (l9:lT K "tie_of" "tie_of" (top 19) f9 oc9 od9 an9 sq9 kV9 dc9 pm9 cd9 ct9) (g9:cT K cd9 "tie_of") (k9:kT K f9) (a10:aT K "are_calls" f10) (l10:lT K "are_calls" "are_calls" (top 21) f10 oc10 od10 an10 sq10 kV10 dc10 pm10 cd10 ct10) (g10:cT K cd10 "are_calls") (k10:kT K f10) (a11:aT K "look_at_calls" f11) (l11:lT K "look_at_calls" "look_at_calls" (top 22) f11 oc11 od11 an11 sq11 kV11 dc11 pm11 cd11 ct11) (g11:cT K cd11 "look_at_calls") (k11:kT K f11) (a12:aT K "names_by" f12) (l12:lT K "names_by" "names_by" (top 23) f12 oc12 od12 an12 sq12 kV12 dc12 pm12 cd12 ct12) (g12:cT K cd12 "names_by") (k12:kT K f12) (a13:aT K "named" f13) (l13:lT K "named" "named" (top 24) f13 oc13 od13 an13 sq13 kV13 dc13 pm13 cd13 ct13) (g13:cT K cd13 "named") (k13:kT K f13) (a14:aT K "calls_back" f14) (l14:lT K "calls_back" "calls_back" (top 25) f14 oc14 od14 an14 sq14 kV14 dc14 pm14 cd14 ct14) (g14:cT K cd14 "calls_back") (k14:kT K f14) (a15:aT K "called_web" f15) (l15:lT K "called_web" "called_web" (top 26) f15 oc15 od15 an15 sq15 kV15 dc15 pm15 cd15 ct15) (g15:cT K cd15 "called_web") (k15:kT K f15) (a16:aT K "called_set" f16) (l16:lT K "called_set" "called_set" (top 27) f16 oc16 od16 an16 sq16 kV16 dc16 pm16 cd16 ct16) (g16:cT K cd16 "called_set") (k16:kT K f16) (a17:aT K "halves_named" f17) (l17:lT K "halves_named" "halves_named" (top 28) f17 oc17 od17 an17 sq17 kV17 dc17 pm17 cd17 ct17) (g17:cT K cd17 "halves_named") (k17:kT K f17) (a18:aT K "called_halves" f18) (l18:lT K "called_halves" "called_halves" (top 29) f18 oc18 od18 an18 sq18 kV18 dc18 pm18 cd18 ct18) (g18:cT K cd18 "called_halves") (k18:kT K f18) (a19:aT K "dues_named" f19) (l19:lT K "dues_named" "dues_named" (top 30) f19 oc19 od19 an19 sq19 kV19 dc19 pm19 cd19 ct19) (g19:cT K cd19 "dues_named") (k19:kT K f19) (a20:aT K "called_dues" f20) (l20:lT K "called_dues" "called_dues" (top 31) f20 oc20 od20 an20 sq20 kV20 dc20 pm20 cd20 ct20) (g20:cT K cd20 "called_dues") (k20:kT K f20) (a21:aT K "_law_begun" f21) (l21:lT K "_law_begun" "_law_begun" (top 33) f21 oc21 od21 an21 sq21 kV21 dc21 pm21 cd21 ct21) (g21:cT K cd21 "_law_begun") (k21:kT K f21) (a22:aT K "_law_take" f22) (l22:lT K "_law_take" "_law_take" (top 34) f22 oc22 od22 an22 sq22 kV22 dc22 pm22 cd22 ct22) (g22:cT K cd22 "_law_take") (k22:kT K f22) (a23:aT K "_law_places" f23) (l23:lT K "_law_places" "_law_places" (top 35) f23 oc23 od23 an23 sq23 kV23 dc23 pm23 cd23 ct23) (g23:cT K cd23 "_law_places") (k23:kT K f23) (a24:aT K "_law_web" f24) (l24:lT K "_law_web" "_law_web" (top 36) f24 oc24 od24 an24 sq24 kV24 dc24 pm24 cd24 ct24) (g24:cT K cd24 "_law_web") (k24:kT K f24) (a25:aT K "_law_bent" f25) (l25:lT K "_law_bent" "_law_bent" (top 37) f25 oc25 od25 an25 sq25 kV25 dc25 pm25 cd25 ct25) (g25:cT K cd25 "_law_bent") (k25:kT K f25) (a26:aT K "_law_twinned" f26) (l26:lT K "_law_twinned" "_law_twinned" (top 38) f26 oc26 od26 an26 sq26 kV26 dc26 pm26 cd26 ct26) (g26:cT K cd26 "_law_twinned") (k26:kT K f26) (a27:aT K "_law_shape" f27) (l27:lT K "_law_shape" "_law_shape" (top 39) f27 oc27 od27 an27 sq27 kV27 dc27 pm27 cd27 ct27) (g27:cT K cd27 "_law_shape") (k27:kT K f27) (a28:aT K "_law_calls" f28) (l28:lT K "_law_calls" "_law_calls" (top 40) f28 oc28 od28 an28 sq28 kV28 dc28 pm28 cd28 ct28) (g28:cT K cd28 "_law_calls") (k28:kT K f28) (a29:aT K "_law_new" f29) (l29:lT K "_law_new" "_law_new" (top 41) f29 oc29 od29 an29 sq29 kV29 dc29 pm29 cd29 ct29) (g29:cT K cd29 "_law_new") (k29:kT K f29) (a30:aT K "_law_pair" f30) (l30:lT K "_law_pair" "_law_pair" (top 42) f30 oc30 od30 an30 sq30 kV30 dc30 pm30 cd30 ct30) (g30:cT K cd30 "_law_pair") (k30:kT K f30) (a31:aT K "_law_web_by" f31) (l31:lT K "_law_web_by" "_law_web_by" (top 43) f31 oc31 od31 an31 sq31 kV31 dc31 pm31 cd31 ct31) (g31:cT K cd31 "_law_web_by") (k31:kT K f31) (a32:aT K "_law_whole" f32) (l32:lT K "_law_whole" "_law_whole" (top 44) f32 oc32 od32 an32 sq32 kV32 dc32 pm32 cd32 ct32) (g32:cT K cd32 "_law_whole") (k32:kT K f32) (a33:aT K "_law_rows" f33) (l33:lT K "_law_rows" "_law_rows" (top 45) f33 oc33 od33 an33 sq33 kV33 dc33 pm33 cd33 ct33) (g33:cT K cd33 "_law_rows") (k33:kT K f33) (a34:aT K "_law_same_web" f34) (l34:lT K "_law_same_web" "_law_same_web" (top 46) f34 oc34 od34 an34 sq34 kV34 dc34 pm34 cd34 ct34) (g34:cT K cd34 "_law_same_web") (k34:kT K f34) (a35:aT K "_law_great" f35) (l35:lT K "_law_great" "_law_great" (top 47) f35 oc35 od35 an35 sq35 kV35 dc35 pm35 cd35 ct35) (g35:cT K cd35 "_law_great") (k35:kT K f35) (a36:aT K "_law_papers_right" f36) (l36:lT K "_law_papers_right" "_law_papers_right" (top 48) f36 oc36 od36 an36 sq36 kV36 dc36 pm36 cd36 ct36) (g36:cT K cd36 "_law_papers_right") (k36:kT K f36) (a37:aT K "law" f37) (l37:lT K "law" "law" (top 49) f37 oc37 od37 an37 sq37 kV37 dc37 pm37 cd37 ct37) (g37:cT K cd37 "law") (k37:kT K f37) (z_len:zT K "len") (z_isinstance:zT K "isinstance") (z_all:zT K "all") (z_min:zT K "min") (z_list:zT K "list") (z_dict:zT K "dict") (z_int:zT K "int") (z_bool:zT K "bool") (z_str:zT K "str") (z_tuple:zT K "tuple") (z_range:zT K "range") (z_enumerate:zT K "enumerate") (z_zip:zT K "zip") (z_max:zT K "max") (z_any:zT K "any") (z_sum:zT K "sum") (z_sorted:zT K "sorted") (z_set:zT K "set") (n_MOST_PLACES:PySem.W.nsIn K mainGlobals "MOST_PLACES" = some (some (.int 40 c1))) (n_MOST_TIES:PySem.W.nsIn K mainGlobals "MOST_TIES" = some (some (.int 120 c2))) (n_LAST_PLACE:PySem.W.nsIn K mainGlobals "LAST_PLACE" = some (some (.int 999 c3))) (n_MOST_PRICE:PySem.W.nsIn K mainGlobals "MOST_PRICE" = some (some (.int 1000000000000 c4)))
 :∃ fd:FuncData,(∀ (s:Shared) (v:Value),BindsTo s fd ⟨[v],[]⟩ [("_law_script",v)])∧∀ base:Heap,K.In base→base.Ns mainGlobals mg→FnOk l.prog w K mg base CX0 10 fa fd ["_law_script"] (jma K):=by
 have e:=hfa.symm.trans (PySem.W.mg_of X G a37)
 cases e
 have B:Blt mg:=⟨PySem.W.mg_none_of X G z_len,PySem.W.mg_none_of X G z_isinstance,PySem.W.mg_none_of X G z_all,PySem.W.mg_none_of X G z_min,PySem.W.mg_none_of X G z_list,PySem.W.mg_none_of X G z_dict,PySem.W.mg_none_of X G z_int,PySem.W.mg_none_of X G z_bool,PySem.W.mg_none_of X G z_str,PySem.W.mg_none_of X G z_tuple,PySem.W.mg_none_of X G z_range,PySem.W.mg_none_of X G z_enumerate,PySem.W.mg_none_of X G z_zip,PySem.W.mg_none_of X G z_max,PySem.W.mg_none_of X G z_any,PySem.W.mg_none_of X G z_sum,PySem.W.mg_none_of X G z_sorted,PySem.W.mg_none_of X G z_set⟩
 have C:Cst mg c1 c2 c3 c4:=⟨PySem.W.mg_of X G n_MOST_PLACES,PySem.W.mg_of X G n_MOST_TIES,PySem.W.mg_of X G n_LAST_PLACE,PySem.W.mg_of X G n_MOST_PRICE⟩
 have D_is_whole:=dmk X G a0 l0 g0 k0 ["thing"] ((jas l0 g0 k0).binds fun _ _ _ _ _ _ us hl=>match us,hl with | [_],_=>rfl)
 have D_is_tuple_of:=dmk X G a1 l1 g1 k1 ["thing","many"] ((jas l1 g1 k1).binds fun _ _ _ _ _ _ us hl=>match us,hl with | [_,_],_=>rfl)
 have D_is_pair_of_wholes:=dmk X G a2 l2 g2 k2 ["thing"] ((jas l2 g2 k2).binds fun _ _ _ _ _ _ us hl=>match us,hl with | [_],_=>rfl)
 have D_is_list_up_to:=dmk X G a3 l3 g3 k3 ["thing","most"] ((jas l3 g3 k3).binds fun _ _ _ _ _ _ us hl=>match us,hl with | [_,_],_=>rfl)
 have D_place_stands:=dmk X G a4 l4 g4 k4 ["thing","last","spent"] ((jas l4 g4 k4).binds fun _ _ _ _ _ _ us hl=>match us,hl with | [_,_,_],_=>rfl)
 have D_tie_stands:=dmk X G a5 l5 g5 k5 ["thing","last","prices"] ((jas l5 g5 k5).binds fun _ _ _ _ _ _ us hl=>match us,hl with | [_,_,_],_=>rfl)
 have D_look_at_places:=dmk X G a6 l6 g6 k6 ["places"] ((jas l6 g6 k6).binds fun _ _ _ _ _ _ us hl=>match us,hl with | [_],_=>rfl)
 have D_look_at_ties:=dmk X G a7 l7 g7 k7 ["ties","prices"] ((jas l7 g7 k7).binds fun _ _ _ _ _ _ us hl=>match us,hl with | [_,_],_=>rfl)
 have D_look_at_web:=dmk X G a8 l8 g8 k8 ["thing"] ((jas l8 g8 k8).binds fun _ _ _ _ _ _ us hl=>match us,hl with | [_],_=>rfl)
 have D_tie_of:=dmk X G a9 l9 g9 k9 ["one","other"] ((jas l9 g9 k9).binds fun _ _ _ _ _ _ us hl=>match us,hl with | [_,_],_=>rfl)
 have D_are_calls:=dmk X G a10 l10 g10 k10 ["web","thing"] ((jas l10 g10 k10).binds fun _ _ _ _ _ _ us hl=>match us,hl with | [_,_],_=>rfl)
 have D_look_at_calls:=dmk X G a11 l11 g11 k11 ["web","thing"] ((jas l11 g11 k11).binds fun _ _ _ _ _ _ us hl=>match us,hl with | [_,_],_=>rfl)
 have D_names_by:=dmk X G a12 l12 g12 k12 ["web","calls"] ((jas l12 g12 k12).binds fun _ _ _ _ _ _ us hl=>match us,hl with | [_,_],_=>rfl)
 have D_named:=dmk X G a13 l13 g13 k13 ["names","places"] ((jas l13 g13 k13).binds fun _ _ _ _ _ _ us hl=>match us,hl with | [_,_],_=>rfl)
 have D_calls_back:=dmk X G a14 l14 g14 k14 ["web","calls"] ((jas l14 g14 k14).binds fun _ _ _ _ _ _ us hl=>match us,hl with | [_,_],_=>rfl)
 have D_called_web:=dmk X G a15 l15 g15 k15 ["web","calls"] ((jas l15 g15 k15).binds fun _ _ _ _ _ _ us hl=>match us,hl with | [_,_],_=>rfl)
 have D_called_set:=dmk X G a16 l16 g16 k16 ["web","calls","some"] ((jas l16 g16 k16).binds fun _ _ _ _ _ _ us hl=>match us,hl with | [_,_,_],_=>rfl)
 have D_halves_named:=dmk X G a17 l17 g17 k17 ["names","halves"] ((jas l17 g17 k17).binds fun _ _ _ _ _ _ us hl=>match us,hl with | [_,_],_=>rfl)
 have D_called_halves:=dmk X G a18 l18 g18 k18 ["web","calls","halves"] ((jas l18 g18 k18).binds fun _ _ _ _ _ _ us hl=>match us,hl with | [_,_,_],_=>rfl)
 have D_dues_named:=dmk X G a19 l19 g19 k19 ["names","dues"] ((jas l19 g19 k19).binds fun _ _ _ _ _ _ us hl=>match us,hl with | [_,_],_=>rfl)
 have D_called_dues:=dmk X G a20 l20 g20 k20 ["web","calls","dues"] ((jas l20 g20 k20).binds fun _ _ _ _ _ _ us hl=>match us,hl with | [_,_,_],_=>rfl)
 have D_law_begun:=dmk X G a21 l21 g21 k21 ["_law_script","_law_k"] ((jas l21 g21 k21).binds fun _ _ _ _ _ _ us hl=>match us,hl with | [_,_],_=>rfl)
 have D_law_take:=dmk X G a22 l22 g22 k22 ["_law_state","_law_many"] ((jas l22 g22 k22).binds fun _ _ _ _ _ _ us hl=>match us,hl with | [_,_],_=>rfl)
 have D_law_places:=dmk X G a23 l23 g23 k23 ["_law_state","_law_count"] ((jas l23 g23 k23).binds fun _ _ _ _ _ _ us hl=>match us,hl with | [_,_],_=>rfl)
 have D_law_web:=dmk X G a24 l24 g24 k24 ["_law_state","_law_most"] ((jas l24 g24 k24).binds fun _ _ _ _ _ _ us hl=>match us,hl with | [_,_],_=>rfl)
 have D_law_bent:=dmk X G a25 l25 g25 k25 ["_law_state","_law_web_here"] ((jas l25 g25 k25).binds fun _ _ _ _ _ _ us hl=>match us,hl with | [_,_],_=>rfl)
 have D_law_twinned:=dmk X G a26 l26 g26 k26 ["_law_state","_law_web_here"] ((jas l26 g26 k26).binds fun _ _ _ _ _ _ us hl=>match us,hl with | [_,_],_=>rfl)
 have D_law_shape:=dmk X G a27 l27 g27 k27 ["_law_state","_law_most"] ((jas l27 g27 k27).binds fun _ _ _ _ _ _ us hl=>match us,hl with | [_,_],_=>rfl)
 have D_law_calls:=dmk X G a28 l28 g28 k28 ["_law_state","_law_web_here"] ((jas l28 g28 k28).binds fun _ _ _ _ _ _ us hl=>match us,hl with | [_,_],_=>rfl)
 have D_law_new:=dmk X G a29 l29 g29 k29 ["_law_calls_here"] ((jas l29 g29 k29).binds fun _ _ _ _ _ _ us hl=>match us,hl with | [_],_=>rfl)
 have D_law_pair:=dmk X G a30 l30 g30 k30 ["_law_one","_law_other"] ((jas l30 g30 k30).binds fun _ _ _ _ _ _ us hl=>match us,hl with | [_,_],_=>rfl)
 have D_law_web_by:=dmk X G a31 l31 g31 k31 ["_law_new_here","_law_web_here"] ((jas l31 g31 k31).binds fun _ _ _ _ _ _ us hl=>match us,hl with | [_,_],_=>rfl)
 have D_law_whole:=dmk X G a32 l32 g32 k32 ["_law_found"] ((jas l32 g32 k32).binds fun _ _ _ _ _ _ us hl=>match us,hl with | [_],_=>rfl)
 have D_law_rows:=dmk X G a33 l33 g33 k33 ["_law_found","_law_many"] ((jas l33 g33 k33).binds fun _ _ _ _ _ _ us hl=>match us,hl with | [_,_],_=>rfl)
 have D_law_same_web:=dmk X G a34 l34 g34 k34 ["_law_found","_law_due"] ((jas l34 g34 k34).binds fun _ _ _ _ _ _ us hl=>match us,hl with | [_,_],_=>rfl)
 have D_law_great:=dmk X G a35 l35 g35 k35 ["_law_state"] ((jas l35 g35 k35).binds fun _ _ _ _ _ _ us hl=>match us,hl with | [_],_=>rfl)
 have D_law_papers_right:=dmk X G a36 l36 g36 k36 ["_law_web_here","_law_calls_here","_law_new_here"] ((jas l36 g36 k36).binds fun _ _ _ _ _ _ us hl=>match us,hl with | [_,_,_],_=>rfl)
 have D_law:=dmk X G a37 l37 g37 k37 ["_law_script"] ((jas l37 g37 k37).binds fun _ _ _ _ _ _ us hl=>match us,hl with | [_],_=>rfl)
 refine ⟨PySem.W.fnOf "law" "law" (jcq (top 49)) (jcm (top 49)) (jac (top 49)) .none kV37 dc37 pm37 an37 cd37 ct37,fun s v=>.of_eq rfl,fun base _ _=>?_⟩
 have G_is_whole:=jig (P:=l.prog) (w:=w) (base:=base) B D_is_whole
 have G_is_tuple_of:=jev (P:=l.prog) (w:=w) (base:=base) B D_is_tuple_of
 have G_is_list_up_to:=jdt (P:=l.prog) (w:=w) (base:=base) B D_is_list_up_to
 have G_is_pair_of_wholes:=jcw (P:=l.prog) (w:=w) (base:=base) B D_is_pair_of_wholes D_is_tuple_of G_is_tuple_of D_is_whole G_is_whole
 have G_place_stands:=jec (P:=l.prog) (w:=w) (base:=base) B C D_place_stands D_is_pair_of_wholes G_is_pair_of_wholes
 have G_tie_stands:=jfv (P:=l.prog) (w:=w) (base:=base) B D_tie_stands D_is_pair_of_wholes G_is_pair_of_wholes
 have G_look_at_places:=jdl (P:=l.prog) (w:=w) (base:=base) B C D_look_at_places D_is_list_up_to G_is_list_up_to D_place_stands G_place_stands
 have G_look_at_ties:=jed (P:=l.prog) (w:=w) (base:=base) B C D_look_at_ties D_is_list_up_to G_is_list_up_to D_tie_stands G_tie_stands
 have G_look_at_web:=jet (P:=l.prog) (w:=w) (base:=base) B D_look_at_web D_is_tuple_of G_is_tuple_of D_look_at_places G_look_at_places D_look_at_ties G_look_at_ties
 have G_tie_of:=jl0 (P:=l.prog) (w:=w) (base:=base) B D_tie_of
 have G_are_calls:=jha (P:=l.prog) (w:=w) (base:=base) B C D_are_calls D_is_pair_of_wholes G_is_pair_of_wholes
 have G_look_at_calls:=jds (P:=l.prog) (w:=w) (base:=base) B D_look_at_calls D_look_at_web G_look_at_web D_are_calls G_are_calls
 have G_names_by:=jib (P:=l.prog) (w:=w) (base:=base) B D_names_by D_look_at_calls G_look_at_calls
 have G_named:=jmp (P:=l.prog) (w:=w) (base:=base) B D_named
 have G_calls_back:=jfz (P:=l.prog) (w:=w) (base:=base) B D_calls_back D_look_at_calls G_look_at_calls
 have G_called_web:=jg0 (P:=l.prog) (w:=w) (base:=base) B D_called_web D_names_by G_names_by D_tie_of G_tie_of
 have G_called_set:=jg1 (P:=l.prog) (w:=w) (base:=base) B D_called_set D_names_by G_names_by D_named G_named
 have G_halves_named:=jef (P:=l.prog) (w:=w) (base:=base) B D_halves_named
 have G_called_halves:=jdu (P:=l.prog) (w:=w) (base:=base) B D_called_halves D_names_by G_names_by D_halves_named G_halves_named
 have G_dues_named:=jfy (P:=l.prog) (w:=w) (base:=base) B D_dues_named D_tie_of G_tie_of
 have G_called_dues:=jew (P:=l.prog) (w:=w) (base:=base) B D_called_dues D_names_by G_names_by D_dues_named G_dues_named
 have G_law_begun:=jh9 (P:=l.prog) (w:=w) (base:=base) B D_law_begun
 have G_law_take:=jic (P:=l.prog) (w:=w) (base:=base) B D_law_take
 have G_law_places:=jfx (P:=l.prog) (w:=w) (base:=base) B D_law_places D_law_take G_law_take
 have G_law_web:=jjr (P:=l.prog) (w:=w) (base:=base) B D_law_web D_law_take G_law_take D_law_places G_law_places
 have G_law_bent:=jif (P:=l.prog) (w:=w) (base:=base) B D_law_bent D_law_take G_law_take
 have G_law_twinned:=jeu (P:=l.prog) (w:=w) (base:=base) B D_law_twinned D_law_take G_law_take
 have G_law_shape:=jh6 (P:=l.prog) (w:=w) (base:=base) B D_law_shape D_law_take G_law_take D_law_web G_law_web D_law_twinned G_law_twinned D_law_bent G_law_bent
 have G_law_calls:=jh8 (P:=l.prog) (w:=w) (base:=base) B D_law_calls D_law_take G_law_take
 have G_law_new:=jjs (P:=l.prog) (w:=w) (base:=base) B D_law_new
 have G_law_pair:=jie (P:=l.prog) (w:=w) (base:=base) B D_law_pair
 have G_law_web_by:=jfw (P:=l.prog) (w:=w) (base:=base) B D_law_web_by D_law_pair G_law_pair
 have G_law_whole:=jh5 (P:=l.prog) (w:=w) (base:=base) B D_law_whole
 have G_law_rows:=jid (P:=l.prog) (w:=w) (base:=base) B D_law_rows D_law_whole G_law_whole
 have G_law_same_web:=jee (P:=l.prog) (w:=w) (base:=base) B D_law_same_web D_law_rows G_law_rows
 have G_law_great:=jh7 (P:=l.prog) (w:=w) (base:=base) B D_law_great D_law_take G_law_take D_law_places G_law_places
 have G_law_papers_right:=jd3 (P:=l.prog) (w:=w) (base:=base) B D_law_papers_right D_called_halves G_called_halves D_called_dues G_called_dues D_law_pair G_law_pair
 exact ok_law B D_law D_law_begun G_law_begun D_law_take G_law_take D_law_great G_law_great D_law_shape G_law_shape D_law_calls G_law_calls D_law_new G_law_new D_law_web_by G_law_web_by D_called_web G_called_web D_called_set G_called_set D_calls_back G_calls_back D_law_same_web G_law_same_web D_law_rows G_law_rows D_law_whole G_law_whole D_law_papers_right G_law_papers_right
theorem walk {l:PySem.W.OpenLaw} {q:Program} {loose:List Str} {XP:(Str→Option Value)→Heap→Prop} {YP:World→Heap→Prop} {d:DefRec} {K:Params→PySem.W.Frag} (hn:l.most = some 63) (hdf:d.params.defaults = [])
  (hY:∀ (w:World) (h:Heap),YP w h→(K w.params).In h)
  (F:∀ (w:World) (mg:Str→Option Value) (fa:Addr) (h:Heap),(K w.params).In h→h.Ns mainGlobals mg→mg d.name = some (.ref fa) →
   ∃ fd:FuncData,(∀ (s:Shared) (u:Value),BindsTo s fd ⟨[u],[]⟩ [("_law_script",u)])∧∀ base:Heap,(K w.params).In base→base.Ns mainGlobals mg→FnOk l.prog w (K w.params) mg base CX0 10 fa fd ["_law_script"] (jma (K w.params))) :
  PySem.W.WalkO q loose XP YP l.row.toRowW d [] (fun f vs=>PySem.call f vs) :=
 L2.jjz (n:=63) (k:=10) (x:="_law_script") (CX:=fun _=>CX0) (sp:=fun w=>jma (K w.params)) hn (by decide) hdf ⟨rfl,by decide,by decide,rfl⟩ hY F (fun _ _ a ns hl hO hS=>⟨a,ns,rfl,Scr.of hS hO,fun _=>rfl⟩) fun _ _ _ _ _ z=>z
end My
open PySem PySem.W PyProof.Rows
set_option maxRecDepth 100000 in
set_option maxHeartbeats 0 in
theorem PySem.Challenge.cw_touchall_k77_webs_called_otherwise_holds : PySem.Challenge.rw_touchall_k77_webs_called_otherwise.Holds := by
 refine MyHead ?_
 k_fill
 refine My.walk (l:=PySem.Challenge.rw_touchall_k77_webs_called_otherwise) rfl rfl (fun w h Y=>PySem.W.kIn_of Y) ?F
 case F =>
  intro w mg fa h KX G hmg
  refine' My.all_mk KX G hmg ?_ ?_ ?_ ?_ ?_ ?_ ?_ ?_ ?_ ?_ ?_ ?_ ?_ ?_ ?_ ?_ ?_ ?_ ?_ ?_ ?_ ?_ ?_ ?_ ?_ ?_ ?_ ?_ ?_ ?_ ?_ ?_ ?_ ?_ ?_ ?_ ?_ ?_ ?_ ?_ ?_ ?_ ?_ ?_ ?_ ?_ ?_ ?_ ?_ ?_ ?_ ?_ ?_ ?_ ?_ ?_ ?_ ?_ ?_ ?_ ?_ ?_ ?_ ?_ ?_ ?_ ?_ ?_ ?_ ?_ ?_ ?_ ?_ ?_ ?_ ?_ ?_ ?_ ?_ ?_ ?_ ?_ ?_ ?_ ?_ ?_ ?_ ?_ ?_ ?_ ?_ ?_ ?_ ?_ ?_ ?_ ?_ ?_ ?_ ?_ ?_ ?_ ?_ ?_ ?_ ?_ ?_ ?_ ?_ ?_ ?_ ?_ ?_ ?_ ?_ ?_ ?_ ?_ ?_ ?_ ?_ ?_ ?_ ?_ ?_ ?_ ?_ ?_ ?_ ?_ ?_ ?_ ?_ ?_ ?_ ?_ ?_ ?_ ?_ ?_ ?_ ?_ ?_ ?_ ?_ ?_ ?_ ?_ ?_ ?_ ?_ ?_ ?_ ?_ ?_ ?_ ?_ ?_ ?_ ?_ ?_ ?_ ?_ ?_ ?_ ?_ ?_ ?_ ?_ ?_ ?_ ?_ ?_ ?_
  any_goals first | k_is | (delta My.aT; k_is) | (delta My.lT; k_is) | (delta My.cT; k_is) | (delta My.kT; k_is) | (delta My.zT; k_is) | kernel_rfl | rfl
#print axioms PySem.Challenge.cw_touchall_k77_webs_called_otherwise_holds
