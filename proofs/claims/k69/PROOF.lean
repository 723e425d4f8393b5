import PyProof.Rows.All
import Wide.All
import OpenK.AllK
import Wide.FinOn
import Lean
import PyProof.EqAt
import PyProof.EqKinds
import PyProof.TupleCall
import PyProof.NeKinds
import PyProof.NeData
import PySem.Challenge.RW_touchall_k69_groves_along_a_string
import PyProof.Rows.SortRuns
import PyProof.Rows.SortShell
import KE.KSortTup
import PyProof.Rows.SumAny
import PyProof.DictWalks
import PyProof.DictUpdate
import KE.KDictList
import PyProof.AutoSeq1
import KE.KRevIter
section
open PySem PySem.W PyProof.Rows
set_option Elab.async false
set_option maxRecDepth 100000
set_option maxHeartbeats 0
namespace PySem.W.Fast
def tw14297609189765411553:=0
def tw12376637740036497548:=0
def tw14781562103584300300:=0
def tw15115611200341931661:=0
def tw17217507514197734381:=0
def tw4936925503692193262:=0
def tw16599119404929089777:=0
def tw12555176885057238770:=0
def tw280475905095942100:=0
def tw17883986908372840214:=0
def tw9627907853633374296:=0
def tw7905307907477868895:=0
def tw2951545452376089874:=0
def tw15211643381496843821:=0
def tw7700593976521614952:=0
def tw4140785750472613231:=0
def tw14982153563136074336:=0
def tw4128578146920847476:=0
def tw14229602632353992099:=0
def tw598913056240112703:=0
def tw1726813977947389158:=0
def tw5061831166103267206:=0
def tw13058793742947418118:=0
def tw4766716671846750097:=0
def tw9986159386596041291:=0
def tw11867328985658093342:=0
def tw13810174693335883931:=0
def tw17746213073180106855:=0
def tw5729776457698541901:=0
def tw10340114976711878602:=0
def tw3202980715671287772:=0
def tw17481501184410151347:=0
def tw5576238831551449830:=0
def tw14756317111538670632:=0
def tw17658068361143100475:=0
def tw2269460933442521542:=0
def tw2882356951737927585:=0
def tw14826031857019004941:=0
def tw6799717253033202974:=0
def tw16238301872741956780:=0
def tw15377678365041130219:=0
def tw5291671171568664792:=0
def tw9466367427336684335:=0
def tw15335128613735910151:=0
def tw7830369994248853982:=0
def tw885371844316833120:=0
def tw5310659528658988666:=0
def tw9769863511298422818:=0
def tw741491041883484307:=0
def tw6494762443452080514:=0
def tw12964706684179383832:=0
def tw17382730591349914884:=0
def tw4421343633076843811:=0
def tw6099802976542961457:=0
def tw11388765831873443430:=0
def tw16409236330492884371:=0
def tw1292984125890801270:=0
def tw7202037326456345769:=0
def tw6512370430324665260:=0
def tw10581164851701950017:=0
def tw6733287294774218101:=0
def tw18034349319857144288:=0
def tw17670709185726934248:=0
def tw5954876327221452193:=0
def tw7213155722094151984:=0
def tw9947724475003619674:=0
def tw18074669270637765023:=0
def tw13651674943635200488:=0
def tw13281483970742848924:=0
def tw850951039455432525:=0
def tw17953295521274581375:=0
def tw8297966634746096414:=0
def tw11906391868283360964:=0
def tw6356490350672987232:=0
def tw3778727204222080899:=0
def tw6654934050380821986:=0
def tw1946033789281374818:=0
def tw4862741975000952055:=0
def tw162473700425539603:=0
def tw6866683891151582221:=0
def tw13527872405176336012:=0
def tw13777678184960627923:=0
def tw8556881319794653275:=0
def tw14527855219218812963:=0
def tw15266433513615489537:=0
def tw3902602399963370953:=0
def tw18065466543452598238:=0
def tw5755817227132875237:=0
def tw8656658807441475152:=0
def tw13151865297690540629:=0
def tw6639290469552472542:=0
def tw3768600909522892029:=0
def tw16042470173560958907:=0
def tw3436040953348231904:=0
def tw8549602738571025238:=0
def tw17341298701788093120:=0
def tw12981107023279619863:=0
def tw1891330909600037723:=0
def tw7232841066116858783:=0
def tw1092231837839737871:=0
def tw12343798008286848705:=0
def tw5741868628440793479:=0
def tw12010976375034376571:=0
def tw12743296696899658274:=0
def tw1349069014647357223:=0
def tw14114753284023174821:=0
def tw530684274474814442:=0
def tw5099301408519554050:=0
def tw9000492280638625789:=0
def tw2363903611795592705:=0
def tw2204380585850004632:=0
def tw2374692894874826008:=0
def tw11247763399507659385:=0
def tw4762995603375477503:=0
def tw12306747795182409104:=0
def tw4040663737483218468:=0
def tw12838189731587688999:=0
def tw218366189445680744:=0
def tw12084875070278405943:=0
def tw11435906062788071858:=0
def tw6014219777646665041:=0
def tw6749682013178273063:=0
def tw17225890555602619104:=0
def tw15118457964073289629:=0
def tw14483856630567087015:=0
def tw12855419698269193786:=0
def tw9578137325174995177:=0
def tw13990930123094078712:=0
def tw17594760211624526283:=0
def tw18281609995975707841:=0
def tw9307431955463701274:=0
def tw9360046480592557864:=0
def tw8706593751649875096:=0
def tw11674071771355242830:=0
def tw18111414595329612538:=0
def tw15227233571305852144:=0
def tw6542929942557814982:=0
def tw7514863291714595196:=0
def tw163361006696384501:=0
def tw14046072485561619853:=0
def tw16435145116260540403:=0
def tw9016929935483840578:=0
def tw4279476487421269338:=0
def tw18053077524576164845:=0
def tw15693294657385995021:=0
def tw18438347639502009901:=0
def tw12933365590964484303:=0
def tw16962657549081138568:=0
def tw14248016213943530440:=0
def tw5870115567283432914:=0
def tw1412105097100734851:=0
def tw14162606385346639759:=0
def tw16546778057378974778:=0
def tw13957831022968771053:=0
def tw6080368645660506305:=0
def tw15980514055555444097:=0
def tw15871576022070521126:=0
def tw15168232015531237972:=0
def tw17748391171391791682:=0
def tw13586414748893568851:=0
def tw10606784113705308633:=0
def tw4014273260406839204:=0
def tw7182748549700119884:=0
def tw12485154272163604117:=0
def tw12262444746191023002:=0
def tw14100869705339816407:=0
def tw12328668147688059386:=0
def tw12832714438019067581:=0
def tw3251091792226649815:=0
def tw1104488647094209902:=0
def tw5300736341620111946:=0
def tw14566061343962206368:=0
def tw14172657290863477674:=0
def tw10485983645851997345:=0
def tw10073281139201949855:=0
def tw9990162211652564711:=0
def tw9619610745294895768:=0
def tw8112447074107057508:=0
def tw7851787535860571123:=0
def tw4475783039337762679:=0
def tw2812415958408709537:=0
def tw2602146445750235360:=0
def tw1748003047606840153:=0
def tw17386353614433715009:=0
def tw17135590481203170121:=0
def tw14819694531884392017:=0
def tw1459643596898847606:=0
def tw11550877504187698619:=0
def tw9482120283554068594:=0
def tw10317028140967421626:=0
def tw3386007157573418628:=0
def tw577511202878901248:=0
def tw12308534206943208666:=0
def tw8871029021759738552:=0
def tw9562907100761335393:=0
def tw15546968404707699468:=0
def tw7761872477267044100:=0
def tw7492884703717757881:=0
def tw9202793077811905852:=0
def tw14640572693217546273:=0
def tw2232508010609702249:=0
def tw6743641750472775847:=0
def tw6245827768647603512:=0
def tw5729796969671028974:=0
def tw5101450760185418553:=0
def tw17040265546129833713:=0
def tw14295450787131531452:=0
def tw4463166748007049108:=0
def tw17790621613727568432:=0
def tw2377688178443341648:=0
def tw8153494736163193282:=0
def tw9506547847472607489:=0
def tw8079341929624369548:=0
def tw4395593587568455176:=0
def tw2807939160141173056:=0
def tw6238900285969046887:=0
def tw5160066459553266816:=0
def tw18051402899012708777:=0
def tw14973742723826984120:=0
def tw1446046372975601066:=0
def tw11207535551202950041:=0
def tw11838570771899567539:=0
def tw3450192468778676572:=0
def tw17426358754788277328:=0
def tw18366049866466480393:=0
def tw12653114381597422123:=0
def tw16690788079638538773:=0
def tw1623218935358935076:=0
def tw2198618278216875009:=0
def tw9863237375522220903:=0
def tw9857830821546525648:=0
def tw9762787882097571856:=0
def tw9622471659420483719:=0
def tw9580164878673987830:=0
def tw9297663727785247985:=0
def tw9197129900319299892:=0
def tw895549414950198869:=0
def tw8885987717333115810:=0
def tw8795544817985420263:=0
def tw8212859607379937844:=0
def tw7853399458379906777:=0
end PySem.W.Fast
open_top MyHead for PySem.Challenge.rw_touchall_k69_groves_along_a_string
end
-- CHANGE: your row's module here, as the last of these rows
noncomputable section
set_option Elab.async false
set_option linter.all false
set_option maxRecDepth 100000
namespace L2
open PySem PySem.Spec PyProof.Rows
abbrev Key:=Sum Int Str
def jie:Key→Value→Bool
 | .inl k,v=>Value.isInt k v
 | .inr x,v=>Value.isStrOf x v
def keyH (w:World):Key→Int
 | .inl k=>hashInt k
 | .inr x=>hashStr w x
theorem jaz:∀ {k:Key} {v:Value},jie k v = true→(∃ i t,k = Sum.inl i∧v = Value.int i t) ∨ (∃ x t,k = Sum.inr x∧v = Value.str x t)
 | .inl i,v,h=>by
  obtain ⟨t,e⟩:=Value.isInt_shape (k:=i) (v:=v) h
  exact .inl ⟨i,t,rfl,e⟩
 | .inr x,v,h=>by
  obtain ⟨t,e⟩:=Value.isStrOf_shape (x:=x) (v:=v) h
  exact .inr ⟨x,t,rfl,e⟩
theorem jod (i:Int) (t:Tok):jie (.inl i) (.int i t) = true:=by simp [jie,Value.isInt]
theorem joc (x:Str) (t:Tok):jie (.inr x) (.str x t) = true:=by simp [jie,Value.isStrOf]
theorem key_ll (a b:Int):decide ((Sum.inl a:Key) = Sum.inl b) = (a == b):=by
 by_cases e:a = b
 ·subst e; simp
 ·have h:¬ (Sum.inl a:Key) = Sum.inl b:=fun q=>e (Sum.inl.inj q)
  rw [decide_eq_false h]
  exact (beq_eq_false_iff_ne.mpr e).symm
theorem key_rr (a b:Str):decide ((Sum.inr a:Key) = Sum.inr b) = decide (a = b):=by
 by_cases e:a = b
 ·subst e; simp
 ·have h:¬ (Sum.inr a:Key) = Sum.inr b:=fun q=>e (Sum.inr.inj q)
  rw [decide_eq_false h,decide_eq_false e]
theorem key_lr (a:Int) (b:Str):decide ((Sum.inl a:Key) = Sum.inr b) = false:=decide_eq_false (fun q=>nomatch q)
theorem key_rl (a:Str) (b:Int):decide ((Sum.inr a:Key) = Sum.inl b) = false:=decide_eq_false (fun q=>nomatch q)
def jax (prog:Program) (w:World):PySem.KeyKind prog w Key where
 is:=jie
 hash:=keyH w
 inj:=fun v a b ha hb=>by
  rcases jaz ha with ⟨i,t,rfl,rfl⟩ | ⟨x,t,rfl,rfl⟩
  ·rcases jaz hb with ⟨j,u,rfl,e⟩ | ⟨y,u,rfl,e⟩
   ·injection e with e1 _; rw [e1]
   ·exact nomatch e
  ·rcases jaz hb with ⟨j,u,rfl,e⟩ | ⟨y,u,rfl,e⟩
   ·exact nomatch e
   ·injection e with e1 _; rw [e1]
 byValue:=fun k v h=>by
  rcases jaz h with ⟨i,t,rfl,rfl⟩ | ⟨x,t,rfl,rfl⟩ <;> rfl
 pyHash:=fun hv h=>by
  rcases jaz hv with ⟨i,t,rfl,rfl⟩ | ⟨x,t,rfl,rfl⟩
  ·exact wpAny_pyHash_int h
  ·exact wpAny_pyHash_str h
 eqBool:=fun hu hv h=>by
  rcases jaz hu with ⟨i,t,rfl,rfl⟩ | ⟨x,t,rfl,rfl⟩
  ·rcases jaz hv with ⟨j,u,rfl,rfl⟩ | ⟨y,u,rfl,rfl⟩
   ·rw [key_ll] at h; exact wpAny_eqBool_int h
   ·rw [key_lr] at h; exact SeqAt.EqAt.int_str i t y u _ _ _ _ h
  ·rcases jaz hv with ⟨j,u,rfl,rfl⟩ | ⟨y,u,rfl,rfl⟩
   ·rw [key_rl] at h; exact SeqAt.EqAt.str_int x t j u _ _ _ _ h
   ·rw [key_rr] at h; exact wpAny_eqBool_str h
 «strs»:=fun k x t v h=>by
  rcases jaz h with ⟨i,u,rfl,e⟩ | ⟨y,u,rfl,e⟩
  ·exact nomatch e
  ·injection e with e1 _
   subst e1
   cases v <;> rfl
theorem jji (prog:Program) (w:World) (i:Int) (t:Tok):(jax prog w).is (.inl i) (.int i t) = true:=jod i t
theorem jjh (prog:Program) (w:World) (x:Str) (t:Tok):(jax prog w).is (.inr x) (.str x t) = true:=joc x t
end L2
namespace L2
open PySem PySem.Spec PyProof.Rows
inductive V where
 | non | bl (b:Bool) | int (i:Int) | str (x:Str) | byt (b:Array UInt8) | flt (b:UInt64) | ref (a:Addr) | ty (n:String)
 deriving DecidableEq
def RelV:V→Value→Prop
 | .non,u=>u = Value.none
 | .bl b,u=>u = Value.bool b
 | .int i,u=>∃ t,u = Value.int i t
 | .str x,u=>∃ t,u = Value.str x t
 | .byt b,u=>∃ t,u = Value.bytes b t
 | .flt b,u=>∃ t,u = Value.float b t
 | .ref a,u=>u = Value.ref a
 | .ty n,u=>u = Value.type n
abbrev Vals:List V→List Value→Prop:=Paired RelV
theorem Vals.length {xs:List V} {us:List Value} (r:Vals xs us):xs.length = us.length:=Paired.length r
theorem Vals.get:∀ {xs:List V} {us:List Value} {i:Nat} {x:V},Vals xs us→xs[i]? = some x→∃ u,us[i]? = some u∧RelV x u
 | _,_,_,_,.nil,e=>by simp at e
 | _,_,0,_,.cons r _,e=>by simp at e; subst e; exact ⟨_,rfl,r⟩
 | _,_,i + 1,x,.cons _ t,e=>by
  obtain ⟨u,h1,h2⟩:=Vals.get (i:=i) (x:=x) t (by simpa using e)
  exact ⟨u,by simpa using h1,h2⟩
theorem Vals.set {x:V} {u:Value} (r:RelV x u):∀ {xs:List V} {us:List Value} (i:Nat),Vals xs us→Vals (xs.set i x) (us.set i u)
 | _,_,_,.nil=>.nil
 | _,_,0,.cons _ t=>.cons r t
 | _,_,i + 1,.cons q t=>.cons q (Vals.set r i t)
theorem Vals.append:∀ {xs ys:List V} {us ws:List Value},Vals xs us→Vals ys ws→Vals (xs ++ ys) (us ++ ws)
 | _,_,_,_,.nil,s=>s
 | _,_,_,_,.cons r t,s=>.cons r (Vals.append t s)
theorem Vals.take:∀ {xs:List V} {us:List Value} (n:Nat),Vals xs us→Vals (xs.take n) (us.take n)
 | _,_,0,_=>.nil
 | _,_,_ + 1,.nil=>.nil
 | _,_,n + 1,.cons r t=>.cons r (Vals.take n t)
theorem Vals.drop:∀ {xs:List V} {us:List Value} (n:Nat),Vals xs us→Vals (xs.drop n) (us.drop n)
 | _,_,0,r=>r
 | _,_,_ + 1,.nil=>.nil
 | _,_,n + 1,.cons _ t=>Vals.drop n t
def RelO:Option V→Option Value→Prop
 | some v,some u=>RelV v u
 | none,none=>True
 | _,_=>False
def KV {κ:Type}:List (κ × V)→List (κ × Value)→Prop:=Paired fun (p:κ × V) (q:κ × Value)=>p.1 = q.1∧RelV p.2 q.2
def kV:Key→V
 | .inl i=>.int i
 | .inr x=>.str x
inductive HO where
 | lst (xs:List V)
 | tup (xs:List V)
 | dK (kvs:List (Key × V)) | dT (kvs:List (List Key × V))
 | set (S:Int→Bool) (n:Nat)
 | ins (C dx:Addr) (fs:List (Str × V))
 | own (x:Addr)
 | xd (fs:List (Str × V))
 | met (f x:Addr)
 | rng (lo hi:Int)
 | frz (o:Obj) (u:HO)
 | tbl (ps:Array Value)
 | ext (φ:Heap→Prop)
abbrev Hp:=Addr→Option HO
def upd (H:Hp) (a:Addr) (o:HO):Hp:=fun b=>if b = a then some o else H b
theorem ja1 {H:Hp} {a:Addr} {o:HO}:upd H a o a = some o:=by unfold upd; rw [if_pos rfl]
theorem ja8 {H:Hp} {a b:Addr} {o:HO} (h:b ≠ a):upd H a o b = H b:=by unfold upd; rw [if_neg h]
theorem jiz {H:Hp} {a:Addr} {o u:HO}:upd (upd H a o) a u = upd H a u:=by
 funext b; unfold upd; split <;> rfl
theorem ne_of {H:Hp} {a b:Addr} {o u:HO} (h:H a = some o) (h':H b = some u) (d:o ≠ u):a ≠ b:=by
 intro e; subst e; rw [h] at h'; exact d (Option.some.inj h')
theorem ja7 {H:Hp} {a b:Addr} {o:HO} (h:H a = some o) (h':H b = none):a ≠ b:=by
 intro e; subst e; rw [h] at h'; cases h'
section
variable (P:Program) (w:World)
def jbb (H:Hp) (h:Heap) (a:Addr):HO→Prop
 | .lst xs=>xs.length ≤ sizeLine∧∃ (its:List Value) (n:Nat),Vals xs its∧h.get? a = some { cls:=.type "list",data:=.seq its.toArray n }
 | .tup xs=>xs.length ≤ sizeLine∧∃ its:List Value,Vals xs its∧IsTup h a its.toArray
 | .dK kvs=>kvs.length ≤ sizeLine∧(a == sysModules) = false∧∃ vs,KV kvs vs∧h.DictOf (jax P w) a vs
 | .dT kvs=>kvs.length ≤ sizeLine∧(a == sysModules) = false∧∃ xs:List (List Key × Addr × Value),
   Paired (fun (p:List Key × V) (q:List Key × Addr × Value)=>p.1 = q.1∧H q.2.1 = some (.tup (p.1.map kV))∧RelV p.2 q.2.2) kvs xs ∧
   ∃ o es ep,h.get? a = some o∧o.ExactDict∧o.data = .dict es ep∧es.toList = xs.map (entryOfKey (tupleKind (jax P w)))∧(xs.map (·.1)).Nodup
 | .set S n=>h.SetOf (intKind P w) a S n
 | .ins C dx fs=>H dx = some (.own a)∧fs.length ≤ 1000∧dx ≠ a∧h.get? a = some (PySem.W.instObj C dx) ∧
   ∃ mA,h.Ns1 dx mA∧(∀ f,RelO (fs.lookup f) (mA f))∧PySem.Within mA (fs.map (·.1))
 | .own _=>∃ o,h.get? a = some o
 | .xd fs=>∃ mA,h.Ns1 a mA∧∀ f,RelO (fs.lookup f) (mA f)
 | .rng lo hi=>∃ t u v,h.get? a = some { cls:=.type "range",data:=.fields #[.int lo t,.int hi u,.int 1 v] }
 | .frz o u=>h.get? a = some o∧jbb H h a u
 | .tbl ps=>h.get? a = some { cls:=.none,data:=.fields ps }
 | .met f x=>h.get? a = some (PySem.W.methodObj (.ref f) (.ref x))
 | .ext φ=>φ h∧(∃ o,h.get? a = some o)∧∀ h1 h2:Heap,φ h1→(∀ o,h1.get? a = some o→h2.get? a = some o)→φ h2
def HOk (H:Hp) (h:Heap):Prop:=∀ a o,H a = some o→jbb P w H h a o
end
section
variable {P:Program} {w:World} {H H':Hp} {h h':Heap} {a:Addr} {o:HO}
theorem jbb.lt (x:jbb P w H h a o):a < h.objs.size:=by
 cases o with
 | lst xs=>obtain ⟨_,_,_,_,e⟩:=x; exact Heap.lt_size e
 | tup xs=>obtain ⟨_,_,_,p⟩:=x; exact p.lt
 | dK kvs=>obtain ⟨_,_,_,_,o,_,_,e,_⟩:=x; exact Heap.lt_size e
 | dT kvs=>obtain ⟨_,_,_,_,o,_,_,e,_⟩:=x; exact Heap.lt_size e
 | set S n=>obtain ⟨o,_,_,_,e,_⟩:=x; exact Heap.lt_size e
 | ins C dx fs=>obtain ⟨_,_,_,e,_⟩:=x; exact Heap.lt_size e
 | own y=>obtain ⟨_,e⟩:=x; exact Heap.lt_size e
 | xd fs=>obtain ⟨_,⟨_,_,_,e,_⟩,_⟩:=x; exact Heap.lt_size e
 | rng lo hi=>obtain ⟨_,_,_,e⟩:=x; exact Heap.lt_size e
 | frz ob u=>obtain ⟨e,_⟩:=x; exact Heap.lt_size e
 | tbl ps=>exact Heap.lt_size (show h.get? a = some _ from x)
 | met f y=>exact Heap.lt_size (show h.get? a = some _ from x)
 | ext φ=>obtain ⟨_,⟨_,e⟩,_⟩:=x; exact Heap.lt_size e
theorem Paired.mapP {α β:Type} {F G:α→β→Prop}:∀ {l₁:List α} {l₂:List β},Paired F l₁ l₂→(∀ a b,F a b→G a b)→Paired G l₁ l₂
 | _,_,.nil,_=>.nil
 | _,_,.cons r t,f=>.cons (f _ _ r) (Paired.mapP t f)
theorem jbb.stay (x:jbb P w H h a o) (k:∀ b u,(b = a ∨ H b = some (.own a))→h.get? b = some u→h'.get? b = some u)
  (ho:∀ b,H b = some (.own a)→H' b = some (.own a)) (ht:∀ b xs,H b = some (.tup xs)→H' b = some (.tup xs)):jbb P w H' h' a o:=by
 induction o with
 | lst xs=>obtain ⟨z,its,n,r,e⟩:=x; exact ⟨z,its,n,r,k _ _ (.inl rfl) e⟩
 | tup xs=>obtain ⟨z,its,r,ob,e,c⟩:=x; exact ⟨z,its,r,ob,k _ _ (.inl rfl) e,c⟩
 | dK kvs=>obtain ⟨z,y,vs,r,ob,es,ep,e,c⟩:=x; exact ⟨z,y,vs,r,ob,es,ep,k _ _ (.inl rfl) e,c⟩
 | dT kvs =>
  obtain ⟨z,y,xs,r,ob,es,ep,e,c⟩:=x
  exact ⟨z,y,xs,Paired.mapP r fun p q z=>⟨z.1,ht _ _ z.2.1,z.2.2⟩,ob,es,ep,k _ _ (.inl rfl) e,c⟩
 | set S n=>obtain ⟨ob,es,ep,t,e,c⟩:=x; exact ⟨ob,es,ep,t,k _ _ (.inl rfl) e,c⟩
 | ins C dx fs =>
  obtain ⟨d,z,ne,e,mA,⟨od,es,ep,e2,c⟩,r⟩:=x
  exact ⟨ho _ d,z,ne,k _ _ (.inl rfl) e,mA,⟨od,es,ep,k _ _ (.inr d) e2,c⟩,r⟩
 | own y=>obtain ⟨ob,e⟩:=x; exact ⟨ob,k _ _ (.inl rfl) e⟩
 | xd fs=>obtain ⟨mA,⟨od,es,ep,e,c⟩,r⟩:=x; exact ⟨mA,⟨od,es,ep,k _ _ (.inl rfl) e,c⟩,r⟩
 | rng lo hi=>obtain ⟨t,u,v,e⟩:=x; exact ⟨t,u,v,k _ _ (.inl rfl) e⟩
 | frz ob u ih=>obtain ⟨e,q⟩:=x; exact ⟨k _ _ (.inl rfl) e,ih q⟩
 | tbl ps =>
  have e:h.get? a = some { cls:=.none,data:=.fields ps }:=x
  show h'.get? a = some { cls:=.none,data:=.fields ps }
  exact k a _ (.inl rfl) e
 | met f y =>
  have e:h.get? a = some (PySem.W.methodObj (.ref f) (.ref y)):=x
  show h'.get? a = some (PySem.W.methodObj (.ref f) (.ref y))
  exact k a _ (.inl rfl) e
 | ext φ=>obtain ⟨p,⟨o,e⟩,st⟩:=x; exact ⟨st _ _ p fun o q=>k _ _ (.inl rfl) q,⟨o,k _ _ (.inl rfl) e⟩,st⟩
theorem HOk.lt (x:HOk P w H h) (e:H a = some o):a < h.objs.size:=(x a o e).lt
theorem HOk.fresh (x:HOk P w H h) (e:h.objs.size ≤ a):H a = none:=by
 cases q:H a with
 | none=>rfl
 | some u=>exact absurd (Nat.lt_of_lt_of_le (x.lt q) e) (Nat.lt_irrefl _)
theorem HOk.kept (x:HOk P w H h) (k:∀ b u,h.get? b = some u→h'.get? b = some u):HOk P w H h':=fun a o e =>
 (x a o e).stay (fun b u _ q=>k b u q) (fun _ q=>q) fun _ _ q=>q
theorem HOk.laid (x:HOk P w H h) (k:∀ b u,h.get? b = some u→h'.get? b = some u) (hp:h.objs.size ≤ a) (new:jbb P w (upd H a o) h' a o):HOk P w (upd H a o) h':=fun b u e=>by
 have hn:=x.fresh hp
 by_cases hb:b = a
 ·subst hb; rw [ja1] at e; cases e; exact new
 ·rw [ja8 hb] at e
  exact (x b u e).stay (fun c v _ q=>k c v q) (fun c q=>by rw [ja8 (ja7 q hn)]; exact q) fun c xs q=>by rw [ja8 (ja7 q hn)]; exact q
end
def Rd (H:Hp) (a:Addr) (u:HO):Prop:=H a = some u ∨ ∃ o,H a = some (.frz o u)
theorem Rd.ok {P:Program} {w:World} {H:Hp} {h:Heap} {a:Addr} {u:HO} (r:Rd H a u) (x:HOk P w H h):jbb P w H h a u:=by
 rcases r with r | ⟨o,r⟩
 ·exact x a u r
 ·obtain ⟨_,q⟩:=x a _ r
  exact q
def Mut:Option HO→Prop
 | some (.lst _)=>True
 | some (.dK _)=>True
 | some (.dT _)=>True
 | some (.set _ _)=>True
 | some (.ins _ _ _)=>True
 | some (.ext _)=>True
 | _=>False
section
variable {P:Program} {w:World} {H:Hp} {h h':Heap} {x e:Addr} {o':HO}
theorem HOk.write (ok:HOk P w H h) (mu:Mut (H x)) (he:e = x ∨ H e = some (.own x)) (k:∀ b u,b ≠ e→h.get? b = some u→h'.get? b = some u) (heo:∃ u,h'.get? e = some u)
  (new:jbb P w (upd H x o') h' x o'):HOk P w (upd H x o') h':=fun b u q=>by
 have nown:∀ c y,H c = some (.own y)→c ≠ x:=fun c y r z=>by subst z; rw [r] at mu; exact mu
 have ntup:∀ c xs,H c = some (.tup xs)→c ≠ x:=fun c xs r z=>by subst z; rw [r] at mu; exact mu
 by_cases hb:b = x
 ·subst hb; rw [ja1] at q; cases q; exact new
 ·rw [ja8 hb] at q
  by_cases hbe:b = e
  ·have q':H b = some (.own x):=by
    rcases he with z | z
    ·exact absurd (hbe.trans z) hb
    ·rw [hbe]; exact z
   rw [q] at q'; cases q'
   obtain ⟨v,hv⟩:=heo
   exact ⟨v,by rw [hbe]; exact hv⟩
  ·refine (ok b u q).stay (fun c v hc r=>k c v ?_ r) (fun c r=>by rw [ja8 (nown c b r)]; exact r) fun c xs r=>by rw [ja8 (ntup c xs r)]; exact r
   rcases hc with rfl | hc
   ·exact hbe
   ·rintro rfl
    rcases he with z | z
    ·exact nown c b hc z
    ·rw [hc] at z; cases z; exact hb rfl
end
structure Un (fs ex:List Addr) (H H':Hp) (h h':Heap):Prop where
 keep:∀ b o,h.get? b = some o→H b = none→b ∉ fs→b ∉ ex→h'.get? b = some o
 slot:∀ b o,h.get? b = some o→H b = none→b ∈ fs→b ∉ ex→∃ sl,h'.get? b = some { o with slots:=sl }
 free:∀ b o,h.get? b = some o→H b = none→b ∉ ex→H' b = none
 there:∀ b o,h.get? b = some o→b ∉ ex→∃ o',h'.get? b = some o'
 tups:∀ b xs,H b = some (.tup xs)→H' b = some (.tup xs)
 frzs:∀ b o u,H b = some (.frz o u)→H' b = some (.frz o u)
 tbls:∀ b ps,H b = some (.tbl ps)→∃ more,H' b = some (.tbl (ps ++ more))
section
variable {fs fs' ex ex':List Addr} {H H1 H2:Hp} {h h1 h2 h':Heap} {a x e:Addr} {o:HO}
theorem Un.any (u:Un fs ex H H1 h h1) {b:Addr} {ob:Obj} (q:h.get? b = some ob) (n:H b = none) (hx:b ∉ ex):∃ sl,h1.get? b = some { ob with slots:=sl }:=by
 by_cases hb:b ∈ fs
 ·exact u.slot b ob q n hb hx
 ·exact ⟨ob.slots,u.keep b ob q n hb hx⟩
theorem Un.trans (a:Un fs ex H H1 h h1) (b:Un fs ex H1 H2 h1 h2):Un fs ex H H2 h h2 where
 keep:=fun c ob q n hc hx=>b.keep c ob (a.keep c ob q n hc hx) (a.free c ob q n hx) hc hx
 slot:=fun c ob q n hc hx=>by
  obtain ⟨sl,e1⟩:=a.slot c ob q n hc hx
  obtain ⟨sl',e2⟩:=b.slot c _ e1 (a.free c ob q n hx) hc hx
  exact ⟨sl',e2⟩
 free:=fun c ob q n hx=>by
  obtain ⟨o',e1⟩:=a.there c ob q hx
  exact b.free c o' e1 (a.free c ob q n hx) hx
 there:=fun c ob q hx=>by
  obtain ⟨o',e1⟩:=a.there c ob q hx
  exact b.there c o' e1 hx
 tups:=fun c xs q=>b.tups c xs (a.tups c xs q)
 frzs:=fun c ob xs q=>b.frzs c ob xs (a.frzs c ob xs q)
 tbls:=fun c ps q=>by
  obtain ⟨m1,e1⟩:=a.tbls c ps q
  obtain ⟨m2,e2⟩:=b.tbls c _ e1
  exact ⟨m1 ++ m2,by rw [e2,Array.append_assoc]⟩
theorem Un.kept (k:∀ b u,h.get? b = some u→h'.get? b = some u):Un fs ex H H h h' :=
 ⟨fun b ob q _ _ _=>k b ob q,fun b ob q _ _ _=>⟨ob.slots,k b ob q⟩,fun _ _ _ n _=>n,fun b ob q _=>⟨ob,k b ob q⟩,fun _ _ q=>q,fun _ _ _ q=>q,fun _ ps q=>⟨#[],by rw [q]; simp⟩⟩
theorem Un.refl:Un fs ex H H h h:=Un.kept fun _ _ q=>q
theorem Un.laid (k:∀ b u,h.get? b = some u→h'.get? b = some u) (hp:h.objs.size ≤ a) (hn:H a = none):Un fs ex H (upd H a o) h h' where
 keep:=fun b u q _ _ _=>k b u q
 slot:=fun b u q _ _ _=>⟨u.slots,k b u q⟩
 free:=fun b u q n _=>by rw [ja8 (Nat.ne_of_lt (Nat.lt_of_lt_of_le (Heap.lt_size q) hp))]; exact n
 there:=fun b u q _=>⟨u,k b u q⟩
 tups:=fun b xs q=>by rw [ja8 (ja7 q hn)]; exact q
 frzs:=fun b u xs q=>by rw [ja8 (ja7 q hn)]; exact q
 tbls:=fun b ps q=>⟨#[],by rw [ja8 (ja7 q hn),q]; simp⟩
theorem Un.write (mu:Mut (H x)) (he:e = x ∨ H e = some (.own x)) (k:∀ b u,b ≠ e→h.get? b = some u→h'.get? b = some u) (heo:∃ u,h'.get? e = some u):Un fs ex H (upd H x o) h h':=by
 have hx:∀ b,H b = none→b ≠ x:=fun b n z=>by subst z; rw [n] at mu; exact mu
 have hb:∀ b,H b = none→b ≠ e:=fun b n z=>by
  subst z
  rcases he with r | r
  ·exact hx b n r
  ·rw [n] at r; cases r
 have hm:∀ b u,H b = some u→¬ Mut (some u)→b ≠ x:=fun b u q nm z=>by subst z; rw [q] at mu; exact nm mu
 refine ⟨fun b u q n _ _=>k b u (hb b n) q,fun b u q n _ _=>⟨u.slots,k b u (hb b n) q⟩,fun b u q n _=>by rw [ja8 (hx b n)]; exact n,fun b u q _=>?_,
  fun b xs q=>by rw [ja8 (hm b _ q fun z=>z)]; exact q,fun b u xs q=>by rw [ja8 (hm b _ q fun z=>z)]; exact q,fun b ps q=>⟨#[],by rw [ja8 (hm b _ q fun z=>z),q]; simp⟩⟩
 by_cases hbe:b = e
 ·subst hbe; exact heo
 ·exact ⟨u,k b u hbe q⟩
end
def trk (h:Heap) (H:Hp):List Addr:=(List.range h.objs.size).filter fun a=>(H a).isSome
def hidT (h:Heap) (H:Hp):Heap:=PySem.W.hideAll h (trk h H)
theorem joo (h:Heap) (H:Hp):(hidT h H).objs.size = h.objs.size:=PySem.W.hideAll_size _ _
theorem jqc {h:Heap} {H:Hp} {b:Addr} {o:Obj} (e:h.get? b = some o) (n:H b = none):(hidT h H).get? b = some o :=
 PySem.W.hideAll_get _ e fun hm=>by
  have q:(H b).isSome = true:=(List.mem_filter.mp hm).2
  rw [n] at q; simp at q
theorem jsg {h:Heap} {H:Hp} {b:Addr} {o:Obj} (e:(hidT h H).get? b = some o):h.get? b = some o∧H b = none:=by
 have e':h.get? b = some o:=PySem.W.of_hideAll (trk h H) e
 refine ⟨e',?_⟩
 cases q:H b with
 | none=>rfl
 | some x =>
  have hm:b ∈ trk h H:=List.mem_filter.mpr ⟨List.mem_range.mpr (Heap.lt_size e'),by simp [q]⟩
  have z:(hidT h H).get? b = none:=PySem.W.hideAll_none (trk h H) hm
  rw [z] at e; cases e
end L2
namespace L2
open PySem PySem.Spec PyProof.Rows
structure Mod (K:PySem.W.Frag) (mg:Str→Option Value) (base:Heap):Prop where
 kin:K.In base
 glob:base.Ns mainGlobals mg
 blt:∃ mb,base.Ns builtinsNs mb∧∀ x:Str,x ≠ "__name__"→mb x = bootBuiltins x
 nolimit:base.NoLimit
structure Cx where
 prog:Program
 w:World
 K:PySem.W.Frag
 mg:Str→Option Value
 base:Heap
 A:Around
 N:List Str
 s₀:Shared
 H₀:Hp
 env:Env
 outer:List Env
 stack:List Env
 ex:List Addr
 fn:Str→Bool
 calm:Bool
 pn:List (Addr × Obj)
 xe:Value→Shared→Prop
def frs (l:List Env):List Addr:=l.filterMap (·.frame)
abbrev Cx.fs (X:Cx):List Addr:=frs X.outer
def Vis (sc:Scope) (x:Str):Prop:=sc.names.lookup x = some .local ∨ sc.names.lookup x = some .cell ∨ sc.names.lookup x = some .free
def Loc (sc:Scope) (x:Str):Prop:=sc.names.lookup x = some .local ∨ sc.names.lookup x = some .cell
def Look (env:Env) (h:Heap) (m:Str→Option Value) (x:Str) (u:Value):Prop :=
 (env.kindOf x = some .local∧m x = some u) ∨ ((env.kindOf x = some .cell ∨ env.kindOf x = some .free)∧∃ c,env.cells.lookup x = some c∧h.IsCell c (some u))
structure Cx.Ok (X:Cx):Prop where
 mod:Mod X.K X.mg X.base
 kind:X.env.scope.kind = .function
 glob:X.env.globals = mainGlobals
 blt:X.env.builtins = builtinsNs
 above:X.s₀.heap.objs.size ≤ X.env.locals
 inj:∀ x y c,X.env.cells.lookup x = some c→X.env.cells.lookup y = some c→x = y
 has:∀ x,(X.env.kindOf x = some .cell ∨ X.env.kindOf x = some .free)→∃ c,X.env.cells.lookup x = some c
 cab:∀ x c,X.fn x = true→X.env.cells.lookup x = some c→X.s₀.heap.objs.size ≤ c
 hd:X.calm = true→X.A.handled = none
 frames:X.A.frames = some X.stack
 stk:X.stack = X.outer ∨ (X.stack = X.env :: X.outer∧X.env.frame = some X.env.locals)
 exf:∀ b ∈ X.ex,b ≠ X.env.locals∧∀ x c,X.env.cells.lookup x = some c→c ≠ b
 bs:∀ b o,X.base.get? b = some o→X.s₀.heap.get? b = some o∧X.H₀ b = none
 bsz:X.base.objs.size ≤ X.s₀.heap.objs.size
 noex:∀ b o,X.base.get? b = some o→b ∉ X.ex
 exfs:∀ b ∈ X.ex,b ∉ X.fs
 funs:X.s₀.heap.FunFrames X.base X.outer
 frf:∀ b ∈ X.fs,X.H₀ b = none
structure Inv (X:Cx) (pins:List (Addr × Obj)) (σ:List (Option V)) (H:Hp) (s:Shared):Prop where
 ok:X.Ok
 os:s.os = X.s₀.os
 bare:AllBare s.gens
 base:Un X.fs X.ex X.H₀ H X.s₀.heap s.heap
 loc:∃ m,s.heap.Ns X.env.locals m∧∀ (i:Nat) (x:Str) (v:V),X.N[i]? = some x→σ[i]? = some (some v)→Vis X.env.scope x→∃ u,RelV v u∧Look X.env s.heap m x u
 cell:∀ x c,X.env.cells.lookup x = some c→∃ v,s.heap.IsCell c v
 free:H X.env.locals = none
 freeC:∀ x c,X.env.cells.lookup x = some c→H c = none
 pin:∀ p ∈ X.pn ++ pins,s.heap.get? p.1 = some p.2∧H p.1 = none∧p.1 ≠ X.env.locals∧p.1 ∉ X.fs∧∀ v,p.2.data ≠ .cell v
 hok:HOk X.prog X.w H s.heap
 len:σ.length = X.N.length
section
variable {X:Cx} {pins:List (Addr × Obj)} {σ:List (Option V)} {H H':Hp} {s:Shared} {h':Heap}
theorem Cx.Ok.nofr (ok:X.Ok) {b:Addr} {o:Obj} (e:X.base.get? b = some o):b ∉ X.fs:=fun hb=>by
 have:=(ok.funs.mem hb).1
 rw [e] at this; cases this
theorem Inv.bs (I:Inv X pins σ H s):∀ b o,X.base.get? b = some o→s.heap.get? b = some o∧H b = none:=fun b o e =>
 ⟨I.base.keep b o (I.ok.bs b o e).1 (I.ok.bs b o e).2 (I.ok.nofr e) (I.ok.noex b o e),I.base.free b o (I.ok.bs b o e).1 (I.ok.bs b o e).2 (I.ok.noex b o e)⟩
theorem Inv.bk (I:Inv X pins σ H s):∀ b o,X.base.get? b = some o→s.heap.get? b = some o:=fun b o e=>(I.bs b o e).1
theorem Inv.mod (I:Inv X pins σ H s):Mod X.K X.mg X.base:=I.ok.mod
theorem Inv.kIn (I:Inv X pins σ H s):X.K.In s.heap:=I.ok.mod.kin.keeps I.bk
theorem Inv.lt (I:Inv X pins σ H s):X.env.locals < s.heap.objs.size:=let ⟨_,hn,_⟩:=I.loc; hn.lt
theorem Inv.sz (I:Inv X pins σ H s):X.s₀.heap.objs.size ≤ s.heap.objs.size:=Nat.le_trans I.ok.above (Nat.le_of_lt I.lt)
theorem Inv.nofs (I:Inv X pins σ H s) {a:Addr} (h:s.heap.objs.size ≤ a):a ∉ X.fs:=fun hb=>by
 obtain ⟨_,o,ho,_⟩:=I.ok.funs.mem hb
 exact absurd (Nat.lt_of_lt_of_le (Heap.lt_size ho) (Nat.le_trans I.sz h)) (Nat.lt_irrefl _)
theorem Inv.cne (I:Inv X pins σ H s):∀ x c,X.env.cells.lookup x = some c→c ≠ X.env.locals:=fun x c e z=>by
 obtain ⟨v,o,ho,hd⟩:=I.cell x c e
 obtain ⟨m,⟨o',es,ep,ho',hd',_⟩,_⟩:=I.loc
 rw [z,ho'] at ho; cases ho; rw [hd'] at hd; cases hd
theorem Inv.funs (I:Inv X pins σ H s):s.heap.FunFrames X.base X.outer:=by
 have all:∀ (l:List Env),(∀ b ∈ frs l,b ∈ X.fs)→X.s₀.heap.FunFrames X.base l→s.heap.FunFrames X.base l:=by
  intro l
  induction l with
  | nil=>intro _ _; trivial
  | cons env r ih =>
   intro hs hl
   obtain ⟨hk,⟨L,o,hf,hn,ho,hd⟩,hr⟩:=hl
   have hL:L ∈ X.fs:=hs L (by unfold frs; rw [List.filterMap_cons,hf]; exact List.mem_cons_self)
   obtain ⟨sl,e⟩:=I.base.slot L o ho (I.ok.frf L hL) hL fun z=>I.ok.exfs L z hL
   exact ⟨hk,⟨L,_,hf,hn,e,hd⟩,ih (fun b hb=>hs b (by unfold frs; rw [List.filterMap_cons,hf]; exact List.mem_cons_of_mem _ hb)) hr⟩
 exact all X.outer (fun _ hb=>hb) I.ok.funs
theorem Inv.stack (I:Inv X pins σ H s):s.heap.FunFrames X.base X.stack:=by
 rcases I.ok.stk with e | ⟨e,hf⟩
 ·rw [e]; exact I.funs
 ·rw [e]
  obtain ⟨m,hn,_⟩:=I.loc
  refine .cons (by rw [I.ok.kind]; decide) hf hn ?_ I.funs
  exact Heap.get?_none_of_le (Nat.le_trans I.ok.bsz I.ok.above)
theorem Inv.stkSub (I:Inv X pins σ H s):∀ b ∈ frs X.stack,b ∈ X.env.locals :: X.fs:=fun b hb=>by
 rcases I.ok.stk with e | ⟨e,hf⟩
 ·rw [e] at hb; exact List.mem_cons_of_mem _ hb
 ·rw [e] at hb
  unfold frs at hb
  rw [List.filterMap_cons,hf] at hb
  exact hb
theorem Inv.stkFree (I:Inv X pins σ H s):∀ b ∈ frs X.stack,H b = none:=fun b hb=>by
 rcases List.mem_cons.mp (I.stkSub b hb) with e | hb
 ·rw [e]; exact I.free
 ·obtain ⟨_,o,ho,_⟩:=I.ok.funs.mem hb
  exact I.base.free b o ho (I.ok.frf b hb) fun z=>I.ok.exfs b z hb
theorem Inv.step {g':Array GenState} {t':Nat} {d':Drawn} {ch:List Addr} (I:Inv X pins σ H s)
  (hch:∀ b ∈ ch,(b ∈ X.ex ∨ X.s₀.heap.objs.size ≤ b)∧b ≠ X.env.locals∧(∀ x c,X.env.cells.lookup x = some c→c ≠ b)∧∀ p ∈ X.pn ++ pins,p.1 ≠ b)
  (keep:∀ b o,b ≠ X.env.locals→b ∉ X.fs→b ∉ ch→s.heap.get? b = some o→H b = none→h'.get? b = some o)
  (slot:∀ b o,b ≠ X.env.locals→b ∈ X.fs→b ∉ ch→s.heap.get? b = some o→H b = none→∃ sl,h'.get? b = some { o with slots:=sl }) (free:∀ b o,b ∉ ch→s.heap.get? b = some o→H b = none→H' b = none)
  (there:∀ b o,b ∉ ch→s.heap.get? b = some o→∃ o',h'.get? b = some o')
  (tups:∀ b xs,H b = some (.tup xs)→H' b = some (.tup xs)) (frzs:∀ b o u,H b = some (.frz o u)→H' b = some (.frz o u)) (tbls:∀ b ps,H b = some (.tbl ps)→∃ more,H' b = some (.tbl (ps ++ more)))
  (ns:∀ m,s.heap.Ns X.env.locals m→h'.Ns X.env.locals m) (hok:HOk X.prog X.w H' h') (hg:AllBare g') :
  Inv X pins σ H' { s with heap:=h',gens:=g',drawn:=d',toks:=t' }:=by
 have neL:∀ b o,X.s₀.heap.get? b = some o→b ≠ X.env.locals:=fun b o e=>Nat.ne_of_lt (Nat.lt_of_lt_of_le (Heap.lt_size e) I.ok.above)
 have neC:∀ b o,X.s₀.heap.get? b = some o→b ∉ X.ex→b ∉ ch:=fun b o e hx hb=>by
  rcases (hch b hb).1 with z | z
  ·exact hx z
  ·exact absurd (Nat.lt_of_lt_of_le (Heap.lt_size e) z) (Nat.lt_irrefl _)
 have cellK:∀ x c,X.env.cells.lookup x = some c→∀ v,s.heap.IsCell c v→h'.IsCell c v:=fun x c e v ⟨o,ho,hd⟩=>by
  have nch:c ∉ ch:=fun z=>(hch c z).2.2.1 x c e rfl
  by_cases hc:c ∈ X.fs
  ·obtain ⟨sl,q⟩:=slot c o (I.cne x c e) hc nch ho (I.freeC x c e)
   exact ⟨_,q,hd⟩
  ·exact ⟨o,keep c o (I.cne x c e) hc nch ho (I.freeC x c e),hd⟩
 refine ⟨I.ok,I.os,hg,⟨fun b o e n hb hx=>?_,fun b o e n hb hx=>?_,fun b o e n hx=>?_,fun b o e hx=>?_,fun b xs e=>tups b xs (I.base.tups b xs e),fun b o xs e=>frzs b o xs (I.base.frzs b o xs e),fun b ps e=>?_⟩,?_,fun x c e=>?_,?_,fun x c e=>?_,fun p hp=>?_,hok,I.len⟩
 ·exact keep b o (neL b o e) hb (neC b o e hx) (I.base.keep b o e n hb hx) (I.base.free b o e n hx)
 ·obtain ⟨sl,e1⟩:=I.base.slot b o e n hb hx
  obtain ⟨sl',e2⟩:=slot b _ (neL b o e) hb (neC b o e hx) e1 (I.base.free b o e n hx)
  exact ⟨sl',e2⟩
 ·obtain ⟨o',e1⟩:=I.base.there b o e hx
  exact free b o' (neC b o e hx) e1 (I.base.free b o e n hx)
 ·obtain ⟨o',e1⟩:=I.base.there b o e hx
  exact there b o' (neC b o e hx) e1
 ·obtain ⟨m1,e1⟩:=I.base.tbls b ps e
  obtain ⟨m2,e2⟩:=tbls b _ e1
  exact ⟨m1 ++ m2,by rw [e2,Array.append_assoc]⟩
 ·obtain ⟨m,hn,hl⟩:=I.loc
  refine ⟨m,ns m hn,fun i x v e1 e2 e3=>?_⟩
  obtain ⟨u,r,l⟩:=hl i x v e1 e2 e3
  refine ⟨u,r,?_⟩
  rcases l with l | ⟨k,c,e,z⟩
  ·exact .inl l
  ·exact .inr ⟨k,c,e,cellK x c e _ z⟩
 ·obtain ⟨v,z⟩:=I.cell x c e
  exact ⟨v,cellK x c e v z⟩
 ·obtain ⟨m,⟨o,_,_,ho,_⟩,_⟩:=I.loc
  exact free _ o (fun z=>(hch _ z).2.1 rfl) ho I.free
 ·obtain ⟨v,o,ho,hd⟩:=I.cell x c e
  exact free c o (fun z=>(hch c z).2.2.1 x c e rfl) ho (I.freeC x c e)
 ·obtain ⟨e,n,ne,nf,d⟩:=I.pin p hp
  have nch:p.1 ∉ ch:=fun z=>(hch p.1 z).2.2.2 p hp rfl
  exact ⟨keep p.1 p.2 ne nf nch e n,free p.1 p.2 nch e n,ne,nf,d⟩
theorem Inv.un {t':Nat} (I:Inv X pins σ H s) (u:Un X.fs [] H H' s.heap h') (hok:HOk X.prog X.w H' h'):Inv X pins σ H' { s with heap:=h',toks:=t' }:=by
 obtain ⟨m,⟨o,es,ep,ho,r⟩,_⟩:=id I.loc
 obtain ⟨sl,hL⟩:=u.any ho I.free (by simp)
 exact I.step (g':=s.gens) (d':=s.drawn) (ch:=[]) (fun _ z=>nomatch z) (fun b o _ hb _ e n=>u.keep b o e n hb (by simp)) (fun b o _ hb _ e n=>u.slot b o e n hb (by simp)) (fun b o _ e n=>u.free b o e n (by simp)) (fun b o _ e=>u.there b o e (by simp)) u.tups u.frzs u.tbls (fun m' hm=>by
  obtain ⟨o',es',ep',ho',r'⟩:=hm
  rw [ho] at ho'; cases ho'
  exact ⟨_,es',ep',hL,r'⟩) hok I.bare
theorem Inv.call {g':Array GenState} {t':Nat} {d':Drawn} {ch:List Addr} (I:Inv X pins σ H s) (u:Un (frs X.stack) ch H H' s.heap h') (hok:HOk X.prog X.w H' h') (hg:AllBare g')
  (hch:∀ b ∈ ch,(b ∈ X.ex ∨ X.s₀.heap.objs.size ≤ b)∧b ≠ X.env.locals∧(∀ x c,X.env.cells.lookup x = some c→c ≠ b)∧∀ p ∈ X.pn ++ pins,p.1 ≠ b) :
  Inv X pins σ H' { s with heap:=h',gens:=g',drawn:=d',toks:=t' }:=by
 obtain ⟨m,⟨o,es,ep,ho,r⟩,_⟩:=id I.loc
 obtain ⟨sl,hL⟩:=u.any ho I.free fun z=>(hch _ z).2.1 rfl
 exact I.step (ch:=ch) hch (fun b o hL hb hc e n=>u.keep b o e n (fun z=>(List.mem_cons.mp (I.stkSub b z)).elim hL hb) hc) (fun b o _ _ hc e n=>u.any e n hc) (fun b o hc e n=>u.free b o e n hc) (fun b o hc e=>u.there b o e hc) u.tups u.frzs u.tbls (fun m' hm=>by
  obtain ⟨o',es',ep',ho',r'⟩:=hm
  rw [ho] at ho'; cases ho'
  exact ⟨_,es',ep',hL,r'⟩) hok hg
theorem Inv.turned {t':Nat} {it:Addr} (I:Inv X pins σ H s) (k:∀ b o,b ≠ it→s.heap.get? b = some o→h'.get? b = some o) (hn:H it = none) (hL:it ≠ X.env.locals)
  (h1:it ∈ X.ex ∨ X.s₀.heap.objs.size ≤ it) (h2:∀ x c,X.env.cells.lookup x = some c→c ≠ it) (h3:∀ p ∈ X.pn ++ pins,p.1 ≠ it):Inv X pins σ H { s with heap:=h',toks:=t' }:=by
 have nit:∀ b u,H b = some u→b ≠ it:=fun b u e z=>by rw [z,hn] at e; cases e
 refine I.step (g':=s.gens) (d':=s.drawn) (ch:=[it]) (fun b hb=>?_) (fun b o _ _ hc e _=>k b o (fun z=>hc (by simp [z])) e) (fun b o _ _ hc e _=>⟨o.slots,k b o (fun z=>hc (by simp [z])) e⟩) (fun _ _ _ _ n=>n)
  (fun b o hc e=>⟨o,k b o (fun z=>hc (by simp [z])) e⟩) (fun _ _ e=>e) (fun _ _ _ e=>e) (fun b ps e=>⟨#[],by rw [e]; simp⟩) (fun m hm=>?_) (fun b u e=>?_) I.bare
 ·have e:b = it:=by simpa using hb
  subst e
  exact ⟨h1,hL,h2,h3⟩
 ·obtain ⟨o,es,ep,ho,r⟩:=hm
  exact ⟨o,es,ep,k _ o (Ne.symm hL) ho,r⟩
 ·refine (I.hok b u e).stay (fun c v hc q=>k c v ?_ q) (fun _ q=>q) fun _ _ q=>q
  rcases hc with z | z
  ·rw [z]; exact nit b u e
  ·exact nit c _ z
theorem Inv.tok (I:Inv X pins σ H s) (t:Nat):Inv X pins σ H { s with toks:=t }:=I.un (h':=s.heap) (t':=t) Un.refl I.hok
theorem Inv.kept {t':Nat} (I:Inv X pins σ H s) (k:∀ b u,s.heap.get? b = some u→h'.get? b = some u):Inv X pins σ H { s with heap:=h',toks:=t' }:=I.un (Un.kept k) (I.hok.kept k)
theorem Inv.laid {a:Addr} {o:HO} {t':Nat} (I:Inv X pins σ H s) (k:∀ b u,s.heap.get? b = some u→h'.get? b = some u) (hp:s.heap.objs.size ≤ a) (new:jbb X.prog X.w (upd H a o) h' a o) :
  Inv X pins σ (upd H a o) { s with heap:=h',toks:=t' }:=I.un (Un.laid k hp (I.hok.fresh hp)) (I.hok.laid k hp new)
theorem Inv.write {x e:Addr} {o:HO} {t':Nat} (I:Inv X pins σ H s) (mu:Mut (H x)) (he:e = x ∨ H e = some (.own x)) (k:∀ b u,b ≠ e→s.heap.get? b = some u→h'.get? b = some u) (heo:∃ u,h'.get? e = some u)
  (new:jbb X.prog X.w (upd H x o) h' x o):Inv X pins σ (upd H x o) { s with heap:=h',toks:=t' }:=I.un (Un.write mu he k heo) (I.hok.write mu he k heo new)
theorem Inv.pins_of {pins':List (Addr × Obj)} (I:Inv X pins σ H s) (h:∀ p ∈ pins',s.heap.get? p.1 = some p.2∧H p.1 = none∧p.1 ≠ X.env.locals∧p.1 ∉ X.fs∧∀ v,p.2.data ≠ .cell v):Inv X pins' σ H s :=
 ⟨I.ok,I.os,I.bare,I.base,I.loc,I.cell,I.free,I.freeC,fun p hp=>(List.mem_append.mp hp).elim (fun z=>I.pin p (List.mem_append_left _ z)) (h p),I.hok,I.len⟩
theorem jks {N:List Str} (hN:N.Nodup) {i j:Nat} {x:Str} (a:N[i]? = some x) (b:N[j]? = some x):i = j:=by
 obtain ⟨h1,e1⟩:=List.getElem?_eq_some_iff.mp a
 obtain ⟨h2,e2⟩:=List.getElem?_eq_some_iff.mp b
 exact (List.getElem_inj hN).mp (e1.trans e2.symm)
theorem jht {M:Model} {A:Around} {E:Value→Shared→Prop} {i:Nat} {x:Str} {v:V} {u:Value} {Q:Unit→Shared→Prop} (I:Inv X pins σ H s) (hN:X.N.Nodup) (hi:X.N[i]? = some x) (hx:Loc X.env.scope x) (r:RelV v u)
  (h:∀ s',Inv X pins (σ.set i (some v)) H s'→(∃ a,Heap.SameBut a s.heap s'.heap∧(a = X.env.locals ∨ X.env.cells.lookup x = some a))→Q () s') (hf:X.fn x = true ∨ X.env.scope.names.lookup x = some .local:=by first | exact .inl rfl | exact .inr rfl | assumption):wpAny M A (storeName X.env x u) Q E s:=by
 obtain ⟨m,hn,hl⟩:=id I.loc
 have hcls:(X.env.scope.kind == .class || (X.env.scope.kind == .module && X.env.locals != X.env.globals)) = false:=by rw [I.ok.kind]; rfl
 have hiσ:i < σ.length:=by rw [I.len]; exact (List.getElem?_eq_some_iff.mp hi).1
 have cne:=I.cne
 have tracked:∀ {a:Addr} {h':Heap},(∃ o,s.heap.get? a = some o∧H a = none)→Heap.SameBut a s.heap h'→HOk X.prog X.w H h':=fun {a h'} ha hs b ob e=>by
  obtain ⟨_,_,hfree⟩:=ha
  refine (I.hok b ob e).stay (fun c w' hc q=>(hs.2 c ?_).trans q) (fun _ q=>q) fun _ _ q=>q
  rintro rfl
  rcases hc with rfl | hc
  ·rw [hfree] at e; cases e
  ·rw [hfree] at hc; cases hc
 rcases hx with hk | hk
 ·refine wpAny_storeName_local hk hn (fun h' hn' hs=>?_) hcls
  obtain ⟨oL,_,_,hoL,_⟩:=id hn
  refine h _ ⟨I.ok,I.os,I.bare,⟨fun b o e n hb hx=>?_,fun b o e n hb hx=>?_,I.base.free,fun b o e hx=>?_,I.base.tups,I.base.frzs,I.base.tbls⟩,⟨_,hn',fun j y v' e1 e2 e3=>?_⟩,fun y c e=>?_,I.free,I.freeC,fun p hp=>?_,tracked ⟨oL,hoL,I.free⟩ hs,by simpa using I.len⟩ ⟨_,hs,.inl rfl⟩
  ·exact (hs.2 b (Nat.ne_of_lt (Nat.lt_of_lt_of_le (Heap.lt_size e) I.ok.above))).trans (I.base.keep b o e n hb hx)
  ·obtain ⟨sl,e1⟩:=I.base.slot b o e n hb hx
   exact ⟨sl,(hs.2 b (Nat.ne_of_lt (Nat.lt_of_lt_of_le (Heap.lt_size e) I.ok.above))).trans e1⟩
  ·obtain ⟨o',e1⟩:=I.base.there b o e hx
   exact ⟨o',(hs.2 b (Nat.ne_of_lt (Nat.lt_of_lt_of_le (Heap.lt_size e) I.ok.above))).trans e1⟩
  ·by_cases hj:j = i
   ·subst hj
    rw [hi] at e1; cases e1
    rw [List.getElem?_set_self hiσ] at e2
    cases e2
    exact ⟨u,r,.inl ⟨hk,by simp⟩⟩
   ·rw [List.getElem?_set_ne (Ne.symm hj)] at e2
    obtain ⟨u',r',q⟩:=hl j y v' e1 e2 e3
    refine ⟨u',r',?_⟩
    rcases q with ⟨k,e⟩ | ⟨k,c,e,z⟩
    ·refine .inl ⟨k,?_⟩
     have:y ≠ x:=fun e=>hj (jks hN e1 (e ▸ hi))
     simp [this,e]
    ·exact .inr ⟨k,c,e,z.sameBut hs (cne y c e)⟩
  ·obtain ⟨w',z⟩:=I.cell y c e
   exact ⟨w',z.sameBut hs (cne y c e)⟩
  ·obtain ⟨e,n,ne,nf,d⟩:=I.pin p hp
   exact ⟨(hs.2 p.1 ne).trans e,n,ne,nf,d⟩
 ·have hfn:X.fn x = true:=by
   rcases hf with z | z
   ·exact z
   ·rw [z] at hk; cases hk
  obtain ⟨c,hc⟩:=I.ok.has x (.inl hk)
  obtain ⟨w',z⟩:=I.cell x c hc
  refine wpAny_storeName_cell I.ok.kind hk hc z (fun h' hc' hs=>?_)
  obtain ⟨oc,hoc,hocd⟩:=id z
  refine h { s with heap:=h' } ⟨I.ok,I.os,I.bare,⟨fun b o e n hb hx=>?_,fun b o e n hb hx=>?_,I.base.free,fun b o e hx=>?_,I.base.tups,I.base.frzs,I.base.tbls⟩,⟨m,hn.sameBut hs (Ne.symm (cne x c hc)),fun j y v' e1 e2 e3=>?_⟩,fun y c' e=>?_,I.free,I.freeC,fun p hp=>?_,tracked ⟨oc,hoc,I.freeC x c hc⟩ hs,by simpa using I.len⟩ ⟨c,hs,.inr hc⟩
  ·exact (hs.2 b (Nat.ne_of_lt (Nat.lt_of_lt_of_le (Heap.lt_size e) (I.ok.cab x c hfn hc)))).trans (I.base.keep b o e n hb hx)
  ·obtain ⟨sl,e1⟩:=I.base.slot b o e n hb hx
   exact ⟨sl,(hs.2 b (Nat.ne_of_lt (Nat.lt_of_lt_of_le (Heap.lt_size e) (I.ok.cab x c hfn hc)))).trans e1⟩
  ·obtain ⟨o',e1⟩:=I.base.there b o e hx
   exact ⟨o',(hs.2 b (Nat.ne_of_lt (Nat.lt_of_lt_of_le (Heap.lt_size e) (I.ok.cab x c hfn hc)))).trans e1⟩
  ·by_cases hj:j = i
   ·subst hj
    rw [hi] at e1; cases e1
    rw [List.getElem?_set_self hiσ] at e2
    cases e2
    exact ⟨u,r,.inr ⟨.inl hk,c,hc,hc'⟩⟩
   ·rw [List.getElem?_set_ne (Ne.symm hj)] at e2
    obtain ⟨u',r',q⟩:=hl j y v' e1 e2 e3
    refine ⟨u',r',?_⟩
    rcases q with q | ⟨k,c',e,z'⟩
    ·exact .inl q
    ·refine .inr ⟨k,c',e,z'.sameBut hs ?_⟩
     rintro rfl
     exact hj (jks hN e1 (I.ok.inj _ _ _ e hc ▸ hi))
  ·by_cases hcc:c' = c
   ·subst hcc; exact ⟨_,hc'⟩
   ·obtain ⟨w2,z2⟩:=I.cell y c' e
    exact ⟨w2,z2.sameBut hs hcc⟩
  ·obtain ⟨e,n,ne,nf,d⟩:=I.pin p hp
   refine ⟨(hs.2 p.1 ?_).trans e,n,ne,nf,d⟩
   intro q
   rw [q,hoc] at e
   have q':oc = p.2:=Option.some.inj e
   exact d w' (by rw [← q']; exact hocd)
theorem jgo {M:Model} {A:Around} {E:Value→Shared→Prop} {i:Nat} {x:Str} {v:V} {u:Value} {Q:Unit→Shared→Prop} (I:Inv X pins σ H s) (hN:X.N.Nodup) (hi:X.N[i]? = some x) (hx:Loc X.env.scope x) (r:RelV v u)
  (h:∀ s',Inv X pins (σ.set i (some v)) H s'→Q () s') (hf:X.fn x = true ∨ X.env.scope.names.lookup x = some .local:=by first | exact .inl rfl | exact .inr rfl | assumption):wpAny M A (storeName X.env x u) Q E s :=
 jht I hN hi hx r (fun s' I' _=>h s' I') hf
theorem Inv.call' {s':Shared} {ch:List Addr} (I:Inv X pins σ H s) (ho:s'.os = s.os) (u:Un (frs X.stack) ch H H' s.heap s'.heap) (hok:HOk X.prog X.w H' s'.heap) (hg:AllBare s'.gens)
  (hch:∀ b ∈ ch,(b ∈ X.ex ∨ X.s₀.heap.objs.size ≤ b)∧b ≠ X.env.locals∧(∀ x c,X.env.cells.lookup x = some c→c ≠ b)∧∀ p ∈ X.pn ++ pins,p.1 ≠ b):Inv X pins σ H' s':=by
 obtain ⟨h',g',d',t',o'⟩:=s'
 have e:o' = s.os:=ho
 subst e
 exact I.call (g':=g') (t':=t') (d':=d') u hok hg hch
end
abbrev XK:=Value→Option Addr→Hp→Prop
abbrev St:=List (Option V)
abbrev VK:=V→Hp→Prop
abbrev TE:=St→Hp→VK→Prop
abbrev TT:=St→Hp→(Bool→Hp→Prop)→Prop
abbrev TA:=St→Hp→(List V→Hp→Prop)→Prop
structure Ends where
 nx:St→Hp→Prop
 rt:VK
 bk:St→Hp→Prop:=fun _ _=>False
 ct:St→Hp→Prop:=fun _ _=>False
abbrev TS:=Ends→St→Hp→Prop
def EP (X:Cx) (pins:List (Addr × Obj)) (σ:St) (Q:VK) (u:Value) (s':Shared):Prop:=∃ v H',Inv X pins σ H' s'∧RelV v u∧Q v H'
def TP (X:Cx) (pins:List (Addr × Obj)) (σ:St) (Q:Bool→Hp→Prop) (b:Bool) (s':Shared):Prop:=∃ H',Inv X pins σ H' s'∧Q b H'
def AP (X:Cx) (pins:List (Addr × Obj)) (σ:St) (Q:List V→Hp→Prop) (us:List Value) (s':Shared):Prop:=∃ vs H',Inv X pins σ H' s'∧Vals vs us∧Q vs H'
def SP (X:Cx) (pins:List (Addr × Obj)) (D:Ends) (f:Flow) (s':Shared):Prop :=
 match f with
 | .next=>∃ σ' H',Inv X pins σ' H' s'∧D.nx σ' H'
 | .brk=>∃ σ' H',Inv X pins σ' H' s'∧D.bk σ' H'
 | .cont=>∃ σ' H',Inv X pins σ' H' s'∧D.ct σ' H'
 | .ret u=>∃ v σ' H',Inv X pins σ' H' s'∧RelV v u∧D.rt v H'
def PE (X:Cx) (e:Expr) (t:TE):Prop :=
 ∀ (pins:List (Addr × Obj)) (s:Shared) (σ:St) (H:Hp) (Q:VK),Inv X pins σ H s→t σ H Q→wpAny (model X.prog X.w) X.A (eval e X.env) (EP X pins σ Q) X.xe s
def PT (X:Cx) (e:Expr) (t:TT):Prop :=
 ∀ (pins:List (Addr × Obj)) (s:Shared) (σ:St) (H:Hp) (Q:Bool→Hp→Prop),Inv X pins σ H s→t σ H Q→wpAny (model X.prog X.w) X.A (isTrue e X.env (eval e X.env)) (TP X pins σ Q) X.xe s
def PW (X:Cx) (e:Expr) (t:TT):Prop :=
 ∀ (whole:Sem Value) (pins:List (Addr × Obj)) (s:Shared) (σ:St) (H:Hp) (Q:Bool→Hp→Prop),Inv X pins σ H s→t σ H Q→wpAny (model X.prog X.w) X.A (isTrue e X.env whole) (TP X pins σ Q) X.xe s
theorem PW.pt {X:Cx} {e:Expr} {t:TT} (h:PW X e t):PT X e t:=h _
def PA (X:Cx) (es:List Expr) (t:TA):Prop :=
 ∀ (pos:Pos) (pins:List (Addr × Obj)) (s:Shared) (σ:St) (H:Hp) (Q:List V→Hp→Prop),Inv X pins σ H s→t σ H Q→wpAny (model X.prog X.w) X.A (spliced (backTo pos (starEach es X.env))) (AP X pins σ Q) X.xe s
def PS (X:Cx) (st:Stmt) (t:TS):Prop :=
 ∀ (pins:List (Addr × Obj)) (s:Shared) (σ:St) (H:Hp) (D:Ends),Inv X pins σ H s→t D σ H→wpAny (model X.prog X.w) X.A (exec st X.env) (SP X pins D) X.xe s
def PSs (X:Cx) (st:List Stmt) (t:TS):Prop :=
 ∀ (pins:List (Addr × Obj)) (s:Shared) (σ:St) (H:Hp) (D:Ends),Inv X pins σ H s→t D σ H→wpAny (model X.prog X.w) X.A (execs st X.env) (SP X pins D) X.xe s
theorem thn {α:Type} {t:Sem α} {Q Q':α→Shared→Prop} {M:Model} {A:Around} {E:Value→Shared→Prop} {s:Shared} (h:wpAny M A t Q E s) (hQ:∀ a s,Q a s→Q' a s):wpAny M A t Q' E s:=wpAny_mono h hQ fun _ _ x=>x
end L2
namespace L2
open PySem PySem.Spec PyProof.Rows
section
variable {X:Cx}
def tVar (i:Nat):TE:=fun σ H Q=>∃ v,σ[i]? = some (some v)∧Q v H
def tC (v:V):TE:=fun _ H Q=>Q v H
theorem pe_var {i:Nat} {x:Str} {pos:Pos} (hN:X.N[i]? = some x) (hv:Vis X.env.scope x) (hd:(x == ("__debug__":Str)) = false:=by decide) (hcd:(x == ("__classdict__":Str)) = false:=by decide):PE X (.Name x pos) (tVar i):=by
 intro pins s σ H Q I h
 obtain ⟨v,e,h⟩:=h
 obtain ⟨m,hn,hl⟩:=I.loc
 obtain ⟨u,r,l⟩:=hl i x v hN e hv
 have fin:EP X pins σ Q u s:=⟨v,H,I,r,h⟩
 rcases l with ⟨hk,hm⟩ | ⟨hk,c,hc,hcell⟩
 ·exact wpAny_Name (wpAny_loadName_local I.ok.kind hk hn hm fin) hd
 ·rcases hk with hk | hk
  ·exact wpAny_Name (wpAny_loadName_cell I.ok.kind hk hc hcell fin) hd
  ·exact wpAny_Name (wpAny_loadName_free I.ok.kind hk hc hcell fin hcd) hd
theorem ja4 {i j pos}:PE X (.Constant (.int i) j pos) (tC (.int i)):=fun _ _ _ H _ I h=>wpAny_Constant_int ⟨.int i,H,I.tok _,⟨_,rfl⟩,h⟩
theorem je0 {b j pos}:PE X (.Constant (.bool b) j pos) (tC (.bl b)):=fun _ _ _ H _ I h=>Constant_bool ⟨.bl b,H,I,rfl,h⟩
theorem jg7 {j pos}:PE X (.Constant .none j pos) (tC .non):=fun _ _ _ H _ I h=>Constant_none ⟨.non,H,I,rfl,h⟩
def Gl (X:Cx) (x:Str):Prop:=X.env.kindOf x = some .globalImplicit
theorem jjm {E:Value→Shared→Prop} {pins:List (Addr × Obj)} {s:Shared} {σ:St} {H:Hp} {x:Str} {u:Value} {pos:Pos} {Q:Value→Shared→Prop} (I:Inv X pins σ H s) (hg:Gl X x) (hm:X.mg x = some u) (h:Q u s)
  (hd:(x == ("__debug__":Str)) = false:=by decide):wpAny (model X.prog X.w) X.A (eval (.Name x pos) X.env) Q E s :=
 Calls.Name_function_global I.ok.kind hg (Calls.loadGlobal_global (by rw [I.ok.glob]; exact I.mod.glob.keeps I.bk) hm h) hd
theorem jej {E:Value→Shared→Prop} {pins:List (Addr × Obj)} {s:Shared} {σ:St} {H:Hp} {x:Str} {u:Value} {pos:Pos} {Q:Value→Shared→Prop} (I:Inv X pins σ H s) (hg:Gl X x) (hm:X.mg x = none) (hv:bootBuiltins x = some u) (h:Q u s)
  (hn:x ≠ "__name__":=by decide) (hd:(x == ("__debug__":Str)) = false:=by decide):wpAny (model X.prog X.w) X.A (eval (.Name x pos) X.env) Q E s:=by
 obtain ⟨mb,h1,h2⟩:=I.mod.blt
 exact Calls.Name_function_global I.ok.kind hg (Calls.loadGlobal_builtin (by rw [I.ok.glob]; exact I.mod.glob.keeps I.bk) hm (by rw [I.ok.blt]; exact h1.keeps I.bk) ((h2 x hn).trans hv) h) hd
theorem jf6 {x:Str} {v:V} {u:Value} {pos:Pos} (hg:Gl X x) (hm:X.mg x = some u) (r:RelV v u) (hd:(x == ("__debug__":Str)) = false:=by decide):PE X (.Name x pos) (tC v) :=
 fun _ _ _ H _ I h=>jjm I hg hm ⟨v,H,I,r,h⟩ hd
theorem jb5 {x:Str} {v:V} {u:Value} {pos:Pos} (hg:Gl X x) (hm:X.mg x = none) (hv:bootBuiltins x = some u) (r:RelV v u) (hn:x ≠ "__name__":=by decide) (hd:(x == ("__debug__":Str)) = false:=by decide):PE X (.Name x pos) (tC v) :=
 fun _ _ _ H _ I h=>jej I hg hm hv ⟨v,H,I,r,h⟩ hn hd
variable {a b:Expr} {ta tb:TE} {pos:Pos}
def PC (X:Cx) (op:CmpOp) (a b:Expr) (t:TE):Prop :=
 ∀ (pins:List (Addr × Obj)) (s:Shared) (σ:St) (H:Hp) (Q:VK),Inv X pins σ H s→t σ H Q →
  wpAny (model X.prog X.w) X.A (eval a X.env) (fun v s₁=>wpAny (model X.prog X.w) X.A (eval b X.env) (fun u s₂=>wpAny (model X.prog X.w) X.A (compareOp op v u) (EP X pins σ Q) X.xe s₂) X.xe s₁) X.xe s
theorem jh5 (b:Expr) {op:CmpOp} (h:op ≠ .In) (h2:op ≠ .NotIn):behindInMarks op b = false:=by
 have e1:(op == CmpOp.In) = false:=by cases op <;> first | rfl | exact absurd rfl h
 have e2:(op == CmpOp.NotIn) = false:=by cases op <;> first | rfl | exact absurd rfl h2
 cases b <;> simp [behindInMarks,e1,e2]
def tB (t:TE):TT:=fun σ H Q=>t σ H fun x H1=>∃ c,x = .bl c∧Q c H1
theorem jr6 {op:CmpOp} {t:TE} (h:PC X op a b t) (h1:behindInMarks op b = false:=by first | exact jh5 _ (by decide) (by decide) | rfl):PE X (.Compare a [op] [b] pos) t:=fun pins s σ H Q I hw=>wpAny_Compare1 (h pins s σ H Q I hw) h1
theorem jr2 {op:CmpOp} {t:TE} (h:PC X op a b t) (h1:behindInMarks op b = false:=by first | exact jh5 _ (by decide) (by decide) | rfl):PT X (.Compare a [op] [b] pos) (tB t):=by
 intro pins s σ H Q I hw
 refine wpAny_isTrue_Compare1 (thn (h pins s σ H _ I hw) fun v s1 h1=>thn h1 fun u s2 h2=>thn h2 fun c s3 ⟨x,H1,I1,r1,q1⟩=>?_) h1
 obtain ⟨d,rfl,q⟩:=q1
 cases r1
 exact wpAny_truthy_bool ⟨H1,I1,q⟩
variable {tA tB':TT} {rest:List Expr}
def tAnd (t u:TT):TT:=fun σ H Q=>t σ H fun c H1=>if c = true then u σ H1 Q else Q false H1
def tOr (t u:TT):TT:=fun σ H Q=>t σ H fun c H1=>if c = true then Q true H1 else u σ H1 Q
def tNot (t:TT):TT:=fun σ H Q=>t σ H fun c H1=>Q (!c) H1
theorem jf5 (ha:PT X a tA):PW X (.BoolOp .And [a] pos) tA:=by
 intro wh pins s σ H Q I h
 refine isTrue_and (thn (ha pins s σ H Q I h) fun c s1 e=>?_)
 cases c with
 | true=>exact isTrue_and_nil e
 | false=>exact e
theorem jei (ha:PT X a tA):PW X (.BoolOp .Or [a] pos) tA:=by
 intro wh pins s σ H Q I h
 refine isTrue_or (thn (ha pins s σ H Q I h) fun c s1 e=>?_)
 cases c with
 | false=>exact isTrue_or_nil e
 | true=>exact e
theorem jhx (ha:PT X a tA) (hb:PW X (.BoolOp .And (b :: rest) pos) tB'):PW X (.BoolOp .And (a :: b :: rest) pos) (tAnd tA tB'):=by
 intro wh pins s σ H Q I h
 refine isTrue_and (thn (ha pins s σ H _ I h) fun c s1 ⟨H1,I1,q1⟩=>?_)
 cases c with
 | true=>exact hb wh pins s1 σ H1 Q I1 q1
 | false=>exact ⟨H1,I1,q1⟩
theorem jgt (ha:PT X a tA) (hb:PW X (.BoolOp .Or (b :: rest) pos) tB'):PW X (.BoolOp .Or (a :: b :: rest) pos) (tOr tA tB'):=by
 intro wh pins s σ H Q I h
 refine isTrue_or (thn (ha pins s σ H _ I h) fun c s1 ⟨H1,I1,q1⟩=>?_)
 cases c with
 | true=>exact ⟨H1,I1,q1⟩
 | false=>exact hb wh pins s1 σ H1 Q I1 q1
theorem jc5 (ha:PT X a tA):PT X (.UnaryOp .Not a pos) (tNot tA):=by
 intro pins s σ H Q I h
 exact isTrue_not (ha pins s σ H (fun c H1=>Q (!c) H1) I h)
theorem jdo {op} {t:TE} (h:PE X a t):PE X (.BoolOp op [a] pos) t:=fun pins s σ H Q I hw=>BoolOp_one (h pins s σ H Q I hw)
def tIf (t:TT) (ta tb:TE):TE:=fun σ H Q=>t σ H fun c H1=>if c = true then ta σ H1 Q else tb σ H1 Q
theorem jev {c:Expr} (hc:PT X c tA) (ha:PE X a ta) (hb:PE X b tb):PE X (.IfExp c a b pos) (tIf tA ta tb):=by
 intro pins s σ H Q I h
 refine wpAny_IfExp (thn (hc pins s σ H _ I h) fun d s1 ⟨H1,I1,q1⟩=>?_)
 cases d with
 | true=>exact ha pins s1 σ H1 Q I1 q1
 | false=>exact hb pins s1 σ H1 Q I1 q1
end
end L2
namespace L2
open PySem PySem.Spec PyProof.Rows
def SqL (K:PySem.W.Frag) (H:Hp) (a:Addr) (xs:List V):Prop :=
 Rd H a (.lst xs) ∨
  ∃ (o:Obj) (its:Array Value) (n:Nat),K.lookup a = some o∧o.cls = .type "list"∧o.dict = none∧o.data = .seq its n∧its.size ≤ sizeLine∧Vals xs its.toList
def SqT (K:PySem.W.Frag) (H:Hp) (a:Addr) (xs:List V):Prop :=
 Rd H a (.tup xs) ∨
  ∃ (o:Obj) (its:Array Value) (n:Nat),K.lookup a = some o∧o.cls = .type "tuple"∧o.data = .seq its n∧its.size ≤ sizeLine∧Vals xs its.toList
def absV:Value→Option V
 | .none=>some .non
 | .bool b=>some (.bl b)
 | .int i _=>some (.int i)
 | .str x _=>some (.str x)
 | .bytes b _=>some (.byt b)
 | .float b _=>some (.flt b)
 | .ref a=>some (.ref a)
 | .type n=>some (.ty n)
 | _=>none
theorem RelV.abs {x:V} {u:Value} (r:RelV x u):absV u = some x:=by
 cases x with
 | non=>cases r; rfl
 | bl _=>cases r; rfl
 | int _=>obtain ⟨t,rfl⟩:=r; rfl
 | str _=>obtain ⟨t,rfl⟩:=r; rfl
 | byt _=>obtain ⟨t,rfl⟩:=r; rfl
 | flt _=>obtain ⟨t,rfl⟩:=r; rfl
 | ref _=>cases r; rfl
 | ty _=>cases r; rfl
theorem RelV.inj {x y:V} {u:Value} (r:RelV x u) (q:RelV y u):x = y:=Option.some.inj (r.abs.symm.trans q.abs)
theorem Vals.inj:∀ {xs ys:List V} {us:List Value},Vals xs us→Vals ys us→xs = ys
 | _,_,_,.nil,.nil=>rfl
 | _,_,_,.cons r t,.cons r' t'=>by rw [r.inj r',Vals.inj t t']
section
variable {X:Cx} {pins:List (Addr × Obj)} {σ:St} {H:Hp} {s:Shared} {a:Addr} {xs ys:List V}
theorem SqL.of {K:PySem.W.Frag} (h:H a = some (.lst xs)):SqL K H a xs:=.inl (.inl h)
theorem SqT.of {K:PySem.W.Frag} (h:H a = some (.tup xs)):SqT K H a xs:=.inl (.inl h)
theorem Inv.list (I:Inv X pins σ H s) (h:SqL X.K H a xs):∃ its:List Value,Vals xs its∧PlainL s.heap a its.toArray∧xs.length ≤ sizeLine:=by
 rcases h with h | ⟨o,its,n,hk,hc,hd,hs,hz,r⟩
 ·obtain ⟨z,its,n,r,e⟩:=h.ok I.hok
  exact ⟨its,r,⟨_,n,e,rfl,rfl,rfl⟩,z⟩
 ·refine ⟨its.toList,r,⟨o,n,I.kIn a o hk,hc,hd,by simpa using hs⟩,?_⟩
  have e:=r.length
  simp only [Array.length_toList] at e
  omega
theorem Inv.tuple (I:Inv X pins σ H s) (h:SqT X.K H a xs):∃ its:List Value,Vals xs its∧IsTup s.heap a its.toArray∧xs.length ≤ sizeLine:=by
 rcases h with h | ⟨o,its,n,hk,hc,hs,hz,r⟩
 ·obtain ⟨z,its,r,p⟩:=h.ok I.hok
  exact ⟨its,r,p,z⟩
 ·refine ⟨its.toList,r,⟨o,I.kIn a o hk,hc,n,by simpa using hs⟩,?_⟩
  have e:=r.length
  simp only [Array.length_toList] at e
  omega
theorem Inv.list_inj (I:Inv X pins σ H s) (h:SqL X.K H a xs) (h':SqL X.K H a ys):xs = ys:=by
 obtain ⟨its,r,⟨o,n,e,_,_,d⟩,_⟩:=I.list h
 obtain ⟨its',r',⟨o',n',e',_,_,d'⟩,_⟩:=I.list h'
 rw [e] at e'; cases e'
 rw [d] at d'
 injection d' with d1 _
 have:its = its':=by simpa using congrArg Array.toList d1
 subst this
 exact r.inj r'
theorem Inv.tuple_inj (I:Inv X pins σ H s) (h:SqT X.K H a xs) (h':SqT X.K H a ys):xs = ys:=by
 obtain ⟨its,r,⟨o,e,_,n,d⟩,_⟩:=I.tuple h
 obtain ⟨its',r',⟨o',e',_,n',d'⟩,_⟩:=I.tuple h'
 rw [e] at e'; cases e'
 rw [d] at d'
 injection d' with d1 _
 have:its = its':=by simpa using congrArg Array.toList d1
 subst this
 exact r.inj r'
end
abbrev Cx.wish (X:Cx) (E:Value→Shared→Prop):Cx:={ X with xe:=E }
abbrev Cx.nox (X:Cx):Cx:=X.wish fun _ _=>False
theorem Cx.Ok.wish {X:Cx} (ok:X.Ok) (E:Value→Shared→Prop):(X.wish E).Ok :=
 ⟨ok.mod,ok.kind,ok.glob,ok.blt,ok.above,ok.inj,ok.has,ok.cab,ok.hd,ok.frames,ok.stk,ok.exf,ok.bs,ok.bsz,ok.noex,ok.exfs,ok.funs,ok.frf⟩
theorem Cx.Ok.unwish {X:Cx} {E:Value→Shared→Prop} (ok:(X.wish E).Ok):X.Ok :=
 ⟨ok.mod,ok.kind,ok.glob,ok.blt,ok.above,ok.inj,ok.has,ok.cab,ok.hd,ok.frames,ok.stk,ok.exf,ok.bs,ok.bsz,ok.noex,ok.exfs,ok.funs,ok.frf⟩
section
variable {X:Cx} {pins:List (Addr × Obj)} {σ:St} {H:Hp} {s:Shared} {E:Value→Shared→Prop}
theorem Inv.wish (I:Inv X pins σ H s) (E:Value→Shared→Prop):Inv (X.wish E) pins σ H s:=⟨I.ok.wish E,I.os,I.bare,I.base,I.loc,I.cell,I.free,I.freeC,I.pin,I.hok,I.len⟩
theorem Inv.unwish (I:Inv (X.wish E) pins σ H s):Inv X pins σ H s:=⟨I.ok.unwish,I.os,I.bare,I.base,I.loc,I.cell,I.free,I.freeC,I.pin,I.hok,I.len⟩
theorem SP.unwish {D:Ends} {f:Flow} {s':Shared} (h:SP (X.wish E) pins D f s'):SP X pins D f s':=by
 cases f with
 | next=>obtain ⟨σ',H',I,q⟩:=h; exact ⟨σ',H',I.unwish,q⟩
 | brk=>obtain ⟨σ',H',I,q⟩:=h; exact ⟨σ',H',I.unwish,q⟩
 | cont=>obtain ⟨σ',H',I,q⟩:=h; exact ⟨σ',H',I.unwish,q⟩
 | ret u=>obtain ⟨v,σ',H',I,r,q⟩:=h; exact ⟨v,σ',H',I.unwish,r,q⟩
theorem PSs.nox {st:List Stmt} {t:TS} (h:PSs X.nox st t):PSs X st t:=fun pins s σ H D I hw =>
 wpAny_mono (h pins s σ H D (I.wish _) hw) (fun _ _ q=>q.unwish) fun _ _ z=>False.elim z
end
section
variable {X:Cx} {st:Stmt} {rest:List Stmt} {t u:TS} {e:Expr} {te:TE} {pos:Pos}
def jru:TS:=fun D σ H=>D.nx σ H
def tSeq (t u:TS):TS:=fun D σ H=>t { D with nx:=u D } σ H
theorem jak:PSs X [] jru:=fun _ _ σ H _ I h=>wpAny_execs_nil ⟨σ,H,I,h⟩
theorem ja2 (h1:PS X st t) (h2:PSs X rest u):PSs X (st :: rest) (tSeq t u):=by
 intro pins s σ H D I h
 refine wpAny_execs_cons (thn (h1 pins s σ H { D with nx:=u D } I h) fun f s1 q=>?_)
 cases f with
 | next =>
  obtain ⟨σ',H',I',q⟩:=q
  exact h2 pins s1 σ' H' D I' q
 | ret v=>exact q
 | brk=>exact q
 | cont=>exact q
theorem ja6 (h1:PS X st t):PSs X [st] t:=by
 intro pins s σ H D I h
 refine wpAny_execs_cons (thn (h1 pins s σ H D I h) fun f s1 q=>?_)
 cases f with
 | next=>exact wpAny_execs_nil q
 | ret v=>exact q
 | brk=>exact q
 | cont=>exact q
theorem Inv.quiet {pins:List (Addr × Obj)} {σ:St} {H:Hp} {s:Shared} (I:Inv X pins σ H s):interactive X.env = false:=by simp [interactive,I.ok.kind]
def jrv (te:TE):TS:=fun D σ H=>te σ H fun _ H1=>D.nx σ H1
theorem jc3 (he:PE X e te) (hs:swapsWith e none pos.line X.env = pure false:=by rfl):PS X (.Expr e pos) (jrv te):=by
 intro pins s σ H D I h
 exact wpAny_Expr_any (thn (he pins s σ H _ I h) fun v s1 ⟨x,H1,I1,r1,q1⟩=>⟨σ,H1,I1,q1⟩) I.quiet hs
def tRet (te:TE):TS:=fun D σ H=>te σ H D.rt
theorem jah (he:PE X e te):PS X (.Return (some e) pos) (tRet te):=by
 intro pins s σ H D I h
 exact wpAny_Return_some (thn (he pins s σ H _ I h) fun v s1 ⟨x,H1,I1,r1,q1⟩=>⟨x,σ,H1,I1,r1,q1⟩)
def tRetN:TS:=fun D _ H=>D.rt .non H
def tIfS (c:TT) (t u:TS):TS:=fun D σ H=>c σ H fun b H1=>if b = true then t D σ H1 else u D σ H1
theorem jbd {c:Expr} {a b:List Stmt} {tc:TT} (hc:PT X c tc) (ha:PSs X a t) (hb:PSs X b u):PS X (.If c a b pos) (tIfS tc t u):=by
 intro pins s σ H D I h
 refine wpAny_If (thn (hc pins s σ H _ I h) fun d s1 ⟨H1,I1,q1⟩=>?_)
 cases d with
 | true=>exact ha pins s1 σ H1 D I1 q1
 | false=>exact hb pins s1 σ H1 D I1 q1
def tNever:TS:=fun _ _ _=>False
theorem jci:PS X st tNever:=fun _ _ _ _ _ _ h=>h.elim
end
abbrev TG:=V→St→Hp→(St→Hp→Prop)→Prop
abbrev TGs:=List V→St→Hp→(St→Hp→Prop)→Prop
def PG (X:Cx) (target:Expr) (t:TG):Prop :=
 ∀ (pins:List (Addr × Obj)) (s:Shared) (σ:St) (H:Hp) (v:V) (u:Value) (Q:St→Hp→Prop),Inv X pins σ H s→RelV v u→t v σ H Q →
  wpAny (model X.prog X.w) X.A (assign target X.env u) (fun _ s'=>∃ σ' H',Inv X pins σ' H' s'∧Q σ' H') X.xe s
def PGs (X:Cx) (ts:List Expr) (t:TGs):Prop :=
 ∀ (pins:List (Addr × Obj)) (s:Shared) (σ:St) (H:Hp) (vs:List V) (us:List Value) (Q:St→Hp→Prop),Inv X pins σ H s→Vals vs us→t vs σ H Q →
  wpAny (model X.prog X.w) X.A (assignInOrder ((assignEach ts X.env).map (·.2)) us) (fun _ s'=>∃ σ' H',Inv X pins σ' H' s'∧Q σ' H') X.xe s
abbrev TSet:=V→V→V→Hp→(Hp→Prop)→Prop
def PSet (X:Cx) (t:TSet):Prop :=
 ∀ (pins:List (Addr × Obj)) (s:Shared) (σ:St) (H:Hp) (o i v:V) (ov iv u:Value) (Q:Hp→Prop),Inv X pins σ H s→RelV o ov→RelV i iv→RelV v u→t o i v H Q →
  wpAny (model X.prog X.w) X.A (setItem ov iv u) (fun _ s'=>∃ H',Inv X pins σ H' s'∧Q H') X.xe s
abbrev TIp:=V→V→Hp→VK→Prop
def PIp (X:Cx) (op:Operator) (t:TIp):Prop :=
 ∀ (pins:List (Addr × Obj)) (s:Shared) (σ:St) (H:Hp) (x y:V) (v u:Value) (Q:VK),Inv X pins σ H s→RelV x v→RelV y u→t x y H Q →
  wpAny (model X.prog X.w) X.A (inplaceOp op v u) (EP X pins σ Q) X.xe s
section
variable {X:Cx} {pos:Pos}
def jd1 (i:Nat):TG:=fun v σ H Q=>Q (σ.set i (some v)) H
theorem jad {i:Nat} {x:Str} (hN:X.N.Nodup) (hi:X.N[i]? = some x) (hx:Loc X.env.scope x) (hf:X.fn x = true ∨ X.env.scope.names.lookup x = some .local:=by first | exact .inl rfl | exact .inr rfl | assumption):PG X (.Name x pos) (jd1 i):=by
 intro pins s σ H v u Q I r h
 exact wpAny_assign_Name (jgo I hN hi hx r (fun s' I'=>⟨_,H,I',h⟩) hf)
def gNil:TGs:=fun vs σ H Q=>vs = []∧Q σ H
def gCons (t:TG) (u:TGs):TGs:=fun vs σ H Q=>∃ v r,vs = v :: r∧t v σ H fun σ' H'=>u r σ' H' Q
theorem js8:PGs X [] gNil:=by
 intro pins s σ H vs us Q I r h
 obtain ⟨e,h⟩:=h
 subst e
 cases r
 exact assignInOrder_nil ⟨σ,H,I,h⟩
theorem jpv {e:Expr} {es:List Expr} {t:TG} {u:TGs} (h1:PG X e t) (h2:PGs X es u)
  (hs:(assignEach (e :: es) X.env).map (·.2) = assign e X.env :: (assignEach es X.env).map (·.2):=by rfl):PGs X (e :: es) (gCons t u):=by
 intro pins s σ H vs us Q I r h
 obtain ⟨v,vr,e1,h⟩:=h
 subst e1
 cases r with
 | cons r rr =>
  rw [hs]
  refine assignInOrder_cons (thn (h1 pins s σ H _ _ _ I r h) fun _ s1 ⟨σ1,H1,I1,q1⟩=>?_)
  exact h2 pins s1 σ1 H1 _ _ Q I1 rr q1
def gTup (K:PySem.W.Frag) (n:Nat) (t:TGs):TG:=fun v σ H Q=>∃ a xs,v = .ref a∧SqT K H a xs∧xs.length = n∧t xs σ H Q
theorem pg_tup {es:List Expr} {k:Nat} {t:TGs} {n:Nat} (hc:X.calm = true) (h:PGs X es t)
  (hn:(assignEach es X.env).length = n:=by rfl) (hst:(assignEach es X.env).findIdx? (·.1) = none:=by rfl):PG X (.Tuple es k pos) (gTup X.K n t):=by
 intro pins s σ H v u Q I r hw
 obtain ⟨a,xs,e1,hq,hl,hw⟩:=hw
 subst e1
 cases r
 obtain ⟨its,rv,ht,hz⟩:=I.tuple hq
 refine assign_Tuple_tuple (I.ok.hd hc) ht (by simp [hn,← hl,rv.length]) hst fun h' hx=>?_
 have I1:Inv X pins σ H { s with heap:=h' }:=I.kept (t':=s.toks) fun b o e=>hx b o (Nat.ne_of_lt (Heap.lt_size e)) e
 exact h pins _ σ H xs _ Q I1 (by simpa using rv) hw
def gSub (to ti:TE) (t:TSet):TG:=fun v σ H Q=>to σ H fun o H1=>ti σ H1 fun i H2=>t o i v H2 fun H3=>Q σ H3
theorem jkn {o i:Expr} {to ti:TE} {t:TSet} (ho:PE X o to) (hi:PE X i ti) (hs:PSet X t)
  (ha:∀ v,assign (.Subscript o i pos) X.env v = (do
   let ov ← holding [v] (eval o X.env)
   let iv ← holding [v,ov] (eval i X.env)
   standAt pos
   holding [v,ov,iv] (setItem ov iv v)
   release [v,ov,iv] []):=by intro _; rfl):PG X (.Subscript o i pos) (gSub to ti t):=by
 intro pins s σ H v u Q I r h
 rw [ha]
 refine wpAny_bind (wpAny_holding (thn (ho pins s σ H _ I h) fun ov s1 ⟨x,H1,I1,r1,q1⟩=>?_))
 refine wpAny_bind (wpAny_holding (thn (hi pins s1 σ H1 _ I1 q1) fun iv s2 ⟨y,H2,I2,r2,q2⟩=>?_))
 refine wpAny_bind (wpAny_standAt (wpAny_bind (wpAny_holding (thn (hs pins s2 σ H2 x y v ov iv u _ I2 r1 r2 r q2) fun _ s3 ⟨H3,I3,q3⟩=>?_))))
 exact wpAny_release ⟨σ,H3,I3,q3⟩
def tAsg (te:TE) (g:TG):TS:=fun D σ H=>te σ H fun x H1=>g x σ H1 D.nx
theorem jg6 {tg e:Expr} {te:TE} {g:TG} (he:PE X e te) (hg:PG X tg g) (hs:swapsWithSole [tg] e pos.line X.env = pure false:=by rfl) (hw:swappedStores [tg] e X.env = pure none:=by rfl)
  (h1:(assignEach [tg] X.env).map (·.2) = [assign tg X.env]:=by rfl):PS X (.Assign [tg] e pos) (tAsg te g):=by
 intro pins s σ H D I h
 refine wpAny_Assign_stores (thn (he pins s σ H _ I h) fun v s1 ⟨x,H1,I1,r1,q1⟩=>?_) hs hw
 rw [h1]
 exact thn (hg pins s1 σ H1 x v _ I1 r1 q1) fun _ s2 q=>q
theorem jag {i:Nat} {x:Str} {e:Expr} {te:TE} {pos':Pos} (hN:X.N.Nodup) (hi:X.N[i]? = some x) (hx:Loc X.env.scope x) (he:PE X e te) (hs:swapsWith e (some (.Name x pos')) pos.line X.env = pure false:=by rfl) (hf:X.fn x = true ∨ X.env.scope.names.lookup x = some .local:=by first | exact .inl rfl | exact .inr rfl | assumption) :
  PS X (.Assign [.Name x pos'] e pos) (tAsg te (jd1 i)):=by
 intro pins s σ H D I h
 refine wpAny_Assign_Name (thn (he pins s σ H _ I h) fun v s1 ⟨y,H1,I1,r1,q1⟩=>?_) hs
 exact jgo I1 hN hi hx r1 (fun s2 I2=>⟨_,H1,I2,q1⟩) hf
def tAug (i:Nat) (te:TE) (ti:TIp):TS:=fun D σ H=>∃ x,σ[i]? = some (some x)∧te σ H fun y H1=>ti x y H1 fun z H2=>D.nx (σ.set i (some z)) H2
theorem ps_aug {i:Nat} {x:Str} {e:Expr} {te:TE} {op:Operator} {ti:TIp} {pos':Pos} (hN:X.N.Nodup) (hi:X.N[i]? = some x) (hx:Loc X.env.scope x) (he:PE X e te) (ho:PIp X op ti) (hf:X.fn x = true ∨ X.env.scope.names.lookup x = some .local:=by first | exact .inl rfl | exact .inr rfl | assumption) :
  PS X (.AugAssign (.Name x pos') op e pos) (tAug i te ti):=by
 intro pins s σ H D I h
 obtain ⟨v,e1,h⟩:=h
 obtain ⟨m,hn,hl⟩:=I.loc
 have vis:Vis X.env.scope x:=by rcases hx with k | k; exact .inl k; exact .inr (.inl k)
 obtain ⟨u,r,l⟩:=hl i x v hi e1 vis
 refine wpAny_AugAssign_Name ?_
 have go:wpAny (model X.prog X.w) X.A (eval e X.env) (fun w s₂=>wpAny (model X.prog X.w) X.A (inplaceOp op u w) (fun r s₃=>wpAny (model X.prog X.w) X.A (storeName X.env x r) (fun _=>SP X pins D .next) X.xe s₃) X.xe s₂) X.xe s:=by
  refine thn (he pins s σ H _ I h) fun w s1 ⟨y,H1,I1,r1,q1⟩=>?_
  refine thn (ho pins s1 σ H1 v y u w _ I1 r r1 q1) fun z s2 ⟨zv,H2,I2,r2,q2⟩=>?_
  exact jgo I2 hN hi hx r2 (fun s3 I3=>⟨_,H2,I3,q2⟩) hf
 rcases l with ⟨hk,hm⟩ | ⟨hk,c,hc,hcell⟩
 ·exact wpAny_loadName_local I.ok.kind hk hn hm go
 ·rcases hk with hk | hk
  ·exact wpAny_loadName_cell I.ok.kind hk hc hcell go
  ·rcases hx with k | k
   ·have:X.env.scope.names.lookup x = some .free:=hk
    rw [k] at this; cases this
   ·have:X.env.scope.names.lookup x = some .free:=hk
    rw [k] at this; cases this
end
section
variable {X:Cx} {pos:Pos}
def tWhile (c:TT) (tb:TS):TS:=fun D σ H=>∃ W:Nat→St→Hp→Prop,(∃ m,W m σ H)∧∀ m σ H,W m σ H →
 c σ H fun b H1=>if b = true then ∃ N:St→Hp→Prop,(∀ σ' H',N σ' H'→∃ m',m' < m∧W m' σ' H')∧tb { D with nx:=N,ct:=N,bk:=D.nx } σ H1 else D.nx σ H1
theorem jpr {c:Expr} {body:List Stmt} {tc:TT} {tb:TS} (hp:PassesOwn (model X.prog X.w) X.A X.env X.xe) (hc:PT X c tc) (hb:PSs X body tb):PS X (.While c body [] pos) (tWhile tc tb):=by
 intro pins s σ H D I h
 obtain ⟨W,⟨m0,w0⟩,turn⟩:=h
 refine wpAny_While (codeAny_whileLoop (fun n s'=>∃ σ' H',Inv X pins σ' H' s'∧W n σ' H') ?_ m0 ⟨σ,H,I,w0⟩)
 rintro n s1 ⟨σ1,H1,I1,w1⟩
 refine wpAny_passesOwn hp (thn (hc pins s1 σ1 H1 _ I1 (turn n σ1 H1 w1)) fun b s2 ⟨H2,I2,q2⟩=>?_)
 cases b with
 | true =>
  obtain ⟨N,hN,q2⟩:=q2
  rw [if_pos rfl]
  refine wpAny_passesOwn hp (thn (hb pins s2 σ1 H2 _ I2 q2) fun f s3 q3=>?_)
  cases f with
  | next =>
   obtain ⟨σ3,H3,I3,n3⟩:=q3
   obtain ⟨m',hm,w3⟩:=hN σ3 H3 n3
   exact ⟨m',hm,σ3,H3,I3,w3⟩
  | cont =>
   obtain ⟨σ3,H3,I3,n3⟩:=q3
   obtain ⟨m',hm,w3⟩:=hN σ3 H3 n3
   exact ⟨m',hm,σ3,H3,I3,w3⟩
  | brk=>exact q3
  | ret v=>exact q3
 | false =>
  rw [if_neg Bool.false_ne_true]
  exact wpAny_execs_nil ⟨σ1,H2,I2,q2⟩
end
structure It where
 go:Nat→Hp→Prop
 yld:Nat→Hp→V→Hp→Prop
 stop:Nat→Hp→Prop
def FpOk (X:Cx) (pins:List (Addr × Obj)) (H:Hp) (b:Addr):Prop :=
 H b = none∧b ≠ X.env.locals∧b ∉ X.fs∧(b ∈ X.ex ∨ X.s₀.heap.objs.size ≤ b)∧(∀ x c,X.env.cells.lookup x = some c→c ≠ b)∧∀ p ∈ X.pn ++ pins,p.1 ≠ b
theorem Inv.fpOk {X:Cx} {pins:List (Addr × Obj)} {σ:St} {H H':Hp} {s:Shared} {b:Addr} (I:Inv X pins σ H s) (hb:s.heap.objs.size ≤ b) (hn:H' b = none):FpOk X pins H' b:=by
 refine ⟨hn,Nat.ne_of_gt (Nat.lt_of_lt_of_le I.lt hb),I.nofs hb,.inr (Nat.le_trans I.sz hb),fun x c e z=>?_,fun p hp z=>?_⟩
 ·obtain ⟨v,q⟩:=I.cell x c e
  exact absurd (Nat.lt_of_lt_of_le q.lt (by rw [z]; exact hb)) (Nat.lt_irrefl _)
 ·exact absurd (Nat.lt_of_lt_of_le (Heap.lt_size (I.pin p hp).1) (by rw [z]; exact hb)) (Nat.lt_irrefl _)
structure Turn (P:Program) (w:World) (K:PySem.W.Frag) (tg:Expr) (J:It) (fp:List Addr) (it:Addr) (tn:Nat→Heap→Prop):Prop where
 mem:it ∈ fp
 obj:∀ i h,tn i h→∀ b ∈ fp,∃ o,h.get? b = some o∧∀ v,o.data ≠ .cell v
 keep:∀ i h h',tn i h→(∀ b ∈ fp,∀ o,h.get? b = some o→h'.get? b = some o)→tn i h'
 item:∀ (X:Cx),X.prog = P→X.w = w→X.K = K→X.calm = true→∀ (i:Nat) (pins:List (Addr × Obj)) (s:Shared) (σ:St) (H:Hp) (E:Value→Shared→Prop),Inv X pins σ H s→(∀ b ∈ fp,FpOk X pins H b)→tn i s.heap→J.go i H →
  wpAny (model P w) X.A (pyNext (.ref it)) (fun r s1=>∃ u,r = some u ∧
   wpAny (model P w) X.A (letOwnedTupleGo tg (.ref it) u) (fun _ s2=>∃ x H',Inv X pins σ H' s2∧RelV x u∧J.yld i H x H'∧tn (i + 1) s2.heap∧∀ b ∈ fp,H' b = none) E s1) E s
 done:∀ (X:Cx),X.prog = P→X.w = w→X.K = K→X.calm = true→∀ (i:Nat) (pins:List (Addr × Obj)) (s:Shared) (σ:St) (H:Hp) (E:Value→Shared→Prop),Inv X pins σ H s→(∀ b ∈ fp,FpOk X pins H b)→tn i s.heap→J.stop i H →
  wpAny (model P w) X.A (pyNext (.ref it)) (fun r s1=>r = none∧Inv X pins σ H s1) E s
 self:∀ (A:Around) (i:Nat) (s:Shared) (Q:Value→Shared→Prop) (E:Value→Shared→Prop),tn i s.heap→Q (.ref it) s→wpAny (model P w) A (pyIter (.ref it)) Q E s
abbrev TI:=St→Hp→(It→Hp→Prop)→Prop
def PIE (X:Cx) (pins:List (Addr × Obj)) (σ:St) (tg:Expr) (R:It→Hp→Prop) (itv:Value) (s2:Shared):Prop :=
 ∃ (it:Addr) (fp:List Addr) (tn:Nat→Heap→Prop) (J:It) (H':Hp),itv = .ref it∧Inv X pins σ H' s2∧Turn X.prog X.w X.K tg J fp it tn∧tn 0 s2.heap∧(∀ b ∈ fp,FpOk X pins H' b)∧R J H'
def PI (X:Cx) (tg iter:Expr) (wi:TI):Prop :=
 ∀ (pins:List (Addr × Obj)) (s:Shared) (σ:St) (H:Hp) (R:It→Hp→Prop),Inv X pins σ H s→wi σ H R →
  wpAny (model X.prog X.w) X.A (eval iter X.env) (fun v s1=>wpAny (model X.prog X.w) X.A (pyIter v) (PIE X pins σ tg R) X.xe s1) X.xe s
theorem jls {M:Model} {A:Around} {E:Value→Shared→Prop} {s:Shared} {tg:Expr} {it:Addr} {u:Value} {o:Obj} {n:String} {vs:Array Value} {Q:Unit→Shared→Prop} (ho:s.heap.get? it = some o) (hc:o.cls = .type n) (hd:o.data = .fields vs)
    (hn:["enumerate","zip","dict_itemiterator","dict_reverseitemiterator","odict_iterator","itertools.zip_longest","itertools.pairwise"].contains n = false) (hQ:Q () s):wpAny M A (letOwnedTupleGo tg (.ref it) u) Q E s:=by
  unfold letOwnedTupleGo
  cases tg <;> first
    | exact wpAny_pure hQ
    | (cases u <;> first
        | exact wpAny_pure hQ
        | (refine wpAny_bind (wpAny_load ho ?_)
           rw [hc,hd]
           show wpAny M A (if (["enumerate","zip","dict_itemiterator","dict_reverseitemiterator","odict_iterator","itertools.zip_longest","itertools.pairwise"].contains n && vs[0]? == some (rawInt _)) = true then _ else _) Q E s
           rw [if_neg (by intro h; rw [hn,Bool.false_and] at h; cases h)]
           exact wpAny_pure hQ))
def Itl (K:PySem.W.Frag) (a:Addr):It :=
 ⟨fun i H=>∃ xs x,SqL K H a xs∧xs[i]? = some x,fun i H x H'=>H' = H∧∀ xs,SqL K H a xs→xs[i]? = some x,fun i H=>∃ xs,SqL K H a xs∧xs.length ≤ i⟩
def Itt (K:PySem.W.Frag) (a:Addr):It :=
 ⟨fun i H=>∃ xs x,SqT K H a xs∧xs[i]? = some x,fun i H x H'=>H' = H∧∀ xs,SqT K H a xs→xs[i]? = some x,fun i H=>∃ xs,SqT K H a xs∧xs.length ≤ i⟩
def Itr (lo:Int) (n:Nat):It:=⟨fun i _=>i < n,fun i H x H'=>H' = H∧x = .int (lo + i),fun i _=>n ≤ i⟩
theorem jmc {P:Program} {w:World} {K:PySem.W.Frag} {tg:Expr} (a it:Addr):Turn P w K tg (Itl K a) [it] it (fun i h=>h.IsListIter it a i) where
 mem:=by simp
 obj:=fun i h st b hb=>by
  have e:b = it:=by simpa using hb
  subst e
  obtain ⟨o,e,c,d⟩:=st
  exact ⟨o,e,fun v z=>by rw [d] at z; cases z⟩
 keep:=fun i h h' st k=>st.at fun o e=>k it (by simp) o e
 item:=by
  intro X hP hw hK hc i pins s σ H E I hf st hg
  subst hP hw hK
  obtain ⟨xs,x,hq,hx⟩:=hg
  obtain ⟨its,rv,p,hz⟩:=I.list hq
  obtain ⟨u,hu,ru⟩:=rv.get hx
  obtain ⟨f0,f1,f2,f3,f4,f5⟩:=hf it (by simp)
  refine wpAny_pyNext_list_item st p.isList (x:=u) (by simpa using hu) fun h' st' sb=>?_
  have I1:Inv X pins σ H { s with heap:=h' }:=I.turned (t':=s.toks) (fun b o hb e=>(sb.2 b hb).trans e) f0 f1 f3 f4 f5
  obtain ⟨o,e,c,d⟩:=id st'
  exact ⟨u,rfl,jls (s:={ s with heap:=h' }) e c d (by decide) ⟨x,H,I1,ru,⟨rfl,fun ys hy=>by rw [I.list_inj hy hq]; exact hx⟩,st',fun b hb=>(hf b hb).1⟩⟩
 done:=by
  intro X hP hw hK hc i pins s σ H E I hf st hg
  subst hP hw hK
  obtain ⟨xs,hq,hx⟩:=hg
  obtain ⟨its,rv,p,hz⟩:=I.list hq
  obtain ⟨f0,f1,f2,f3,f4,f5⟩:=hf it (by simp)
  have hl:=rv.length
  exact wpAny_pyNext_list_end (I.ok.hd hc) st p.isList (by simp; omega) fun h' eb=>⟨rfl,I.turned (t':=s.toks) (fun b o hb e=>eb b o hb e) f0 f1 f3 f4 f5⟩
 self:=fun _ _ _ _ _ st h=>wpAny_pyIter_listiter st h
theorem jld {P:Program} {w:World} {K:PySem.W.Frag} {tg:Expr} (a it:Addr):Turn P w K tg (Itt K a) [it] it (fun i h=>h.IsTupleIter it a i) where
 mem:=by simp
 obj:=fun i h st b hb=>by
  have e:b = it:=by simpa using hb
  subst e
  obtain ⟨o,e,c,d⟩:=st
  exact ⟨o,e,fun v z=>by rw [d] at z; cases z⟩
 keep:=fun i h h' st k=>st.at fun o e=>k it (by simp) o e
 item:=by
  intro X hP hw hK hc i pins s σ H E I hf st hg
  subst hP hw hK
  obtain ⟨xs,x,hq,hx⟩:=hg
  obtain ⟨its,rv,p,hz⟩:=I.tuple hq
  obtain ⟨u,hu,ru⟩:=rv.get hx
  obtain ⟨f0,f1,f2,f3,f4,f5⟩:=hf it (by simp)
  refine wpAny_pyNext_tuple_item st (show s.heap.IsTuple a its.toArray from p) (x:=u) (by simpa using hu) fun h' st' sb=>?_
  have I1:Inv X pins σ H { s with heap:=h' }:=I.turned (t':=s.toks) (fun b o hb e=>(sb.2 b hb).trans e) f0 f1 f3 f4 f5
  obtain ⟨o,e,c,d⟩:=id st'
  exact ⟨u,rfl,jls (s:={ s with heap:=h' }) e c d (by decide) ⟨x,H,I1,ru,⟨rfl,fun ys hy=>by rw [I.tuple_inj hy hq]; exact hx⟩,st',fun b hb=>(hf b hb).1⟩⟩
 done:=by
  intro X hP hw hK hc i pins s σ H E I hf st hg
  subst hP hw hK
  obtain ⟨xs,hq,hx⟩:=hg
  obtain ⟨its,rv,p,hz⟩:=I.tuple hq
  obtain ⟨f0,f1,f2,f3,f4,f5⟩:=hf it (by simp)
  have hl:=rv.length
  exact wpAny_pyNext_tuple_end (I.ok.hd hc) st (show s.heap.IsTuple a its.toArray from p) (by simp; omega) fun h' eb=>⟨rfl,I.turned (t':=s.toks) (fun b o hb e=>eb b o hb e) f0 f1 f3 f4 f5⟩
 self:=fun _ _ _ _ _ st h=>wpAny_pyIter_tupleiter st h
theorem jle {P:Program} {w:World} {K:PySem.W.Frag} {tg:Expr} (it:Addr) (lo:Int) (n:Nat):Turn P w K tg (Itr lo n) [it] it (fun i h=>IsRangeIter h it (lo + (i:Nat) * 1) ((n:Int) - (i:Nat)) 1) where
 mem:=by simp
 obj:=fun i h st b hb=>by
  have e:b = it:=by simpa using hb
  subst e
  exact ⟨_,st,fun v z=>by
   have z':Data.fields _ = Data.cell v:=z
   cases z'⟩
 keep:=fun i h h' st k=>k it (by simp) _ st
 item:=by
  intro X hP hw hK hc i pins s σ H E I hf st hg
  subst hP hw hK
  obtain ⟨f0,f1,f2,f3,f4,f5⟩:=hf it (by simp)
  have W:=Walks.range (prog:=X.prog) (w:=X.w) (I.ok.hd hc) it lo 1 n
  refine W.item i s _ _ hg st fun v h' tk hv st' kk=>?_
  obtain ⟨t,rfl⟩:=hv
  have I1:Inv X pins σ H { s with heap:=h',toks:=tk }:=I.turned (fun b o hb e=>kk b o (by simpa using hb) e) f0 f1 f3 f4 f5
  refine ⟨_,rfl,jls (s:={ s with heap:=h',toks:=tk }) (n:="range_iterator") st' rfl rfl (by decide) ⟨.int (lo + i),H,I1,⟨t,?_⟩,⟨rfl,rfl⟩,st',fun b hb=>(hf b hb).1⟩⟩
  rw [Int.mul_one]
 done:=by
  intro X hP hw hK hc i pins s σ H E I hf st hg
  subst hP hw hK
  obtain ⟨f0,f1,f2,f3,f4,f5⟩:=hf it (by simp)
  exact wpAny_pyNext_range_end (I.ok.hd hc) st (by have:n ≤ i:=hg; omega) fun h' eb=>⟨rfl,I.turned (t':=s.toks) (fun b o hb e=>eb b o hb e) f0 f1 f3 f4 f5⟩
 self:=fun _ _ _ _ _ st h=>wpAny_pyIter_rangeiter st h
end L2
namespace L2
open PySem PySem.Spec PyProof.Rows
section
variable {X:Cx} {tg:Expr}
def jdm (K:PySem.W.Frag) (tl:TE):TI:=fun σ H R=>tl σ H fun x H1=>∃ a,x = .ref a∧(∃ xs,SqL K H1 a xs)∧R (Itl K a) H1
def iTup (K:PySem.W.Frag) (tl:TE):TI:=fun σ H R=>tl σ H fun x H1=>∃ a,x = .ref a∧(∃ xs,SqT K H1 a xs)∧R (Itt K a) H1
theorem jbm {l:Expr} {tl:TE} (hl:PE X l tl):PI X tg l (jdm X.K tl):=by
 intro pins s σ H R I h
 refine thn (hl pins s σ H _ I h) fun v s1 ⟨x,H1,I1,r1,q1⟩=>?_
 obtain ⟨a,e,⟨xs,hq⟩,q⟩:=q1
 subst e
 cases r1
 obtain ⟨its,rv,p,hz⟩:=I1.list hq
 refine wpAny_pyIter_list p.isList ?_
 refine ⟨s1.heap.objs.size,[s1.heap.objs.size],_,_,H1,rfl,I1.kept (t':=s1.toks) fun b o e=>Heap.get?_push_of_some _ e,jmc a _,⟨_,Heap.get?_push_size _ rfl,rfl,rfl⟩,fun b hb=>?_,q⟩
 have e:b = s1.heap.objs.size:=by simpa using hb
 subst e
 exact I1.fpOk (Nat.le_refl _) (I1.hok.fresh (Nat.le_refl _))
theorem jr5 {l:Expr} {tl:TE} (hl:PE X l tl):PI X tg l (iTup X.K tl):=by
 intro pins s σ H R I h
 refine thn (hl pins s σ H _ I h) fun v s1 ⟨x,H1,I1,r1,q1⟩=>?_
 obtain ⟨a,e,⟨xs,hq⟩,q⟩:=q1
 subst e
 cases r1
 obtain ⟨its,rv,p,hz⟩:=I1.tuple hq
 refine wpAny_pyIter_tuple (show s1.heap.IsTuple a its.toArray from p) ?_
 refine ⟨s1.heap.objs.size,[s1.heap.objs.size],_,_,H1,rfl,I1.kept (t':=s1.toks) fun b o e=>Heap.get?_push_of_some _ e,jld a _,⟨_,Heap.get?_push_size _ rfl,rfl,rfl⟩,fun b hb=>?_,q⟩
 have e:b = s1.heap.objs.size:=by simpa using hb
 subst e
 exact I1.fpOk (Nat.le_refl _) (I1.hok.fresh (Nat.le_refl _))
theorem jkf {pins:List (Addr × Obj)} {σ:St} {H:Hp} {s:Shared} {R:It→Hp→Prop} {E:Value→Shared→Prop} {lo hi:Int} {t u v:Tok} {tk:Nat} (I:Inv X pins σ H s) (h1:-(2 ^ 62) ≤ lo) (h2:lo < 2 ^ 62) (h3:-(2 ^ 62) ≤ hi) (h4:hi < 2 ^ 62)
  (q:R (Itr lo (hi - lo).toNat) H):wpAny (model X.prog X.w) X.A (pyIter (.ref s.heap.objs.size)) (PIE X pins σ tg R) E { s with heap:=s.heap.push { cls:=.type "range",data:=.fields #[.int lo t,.int hi u,.int 1 v] },toks:=tk }:=by
 refine wpAny_pyIter_range (IsRange.new ..) (small_one h1 h2 h3 h4) ?_
 have I1:Inv X pins σ H { s with heap:=s.heap.push { cls:=.type "range",data:=.fields #[.int lo t,.int hi u,.int 1 v] },toks:=tk }:=I.kept fun b o e=>Heap.get?_push_of_some _ e
 refine ⟨(s.heap.push { cls:=.type "range",data:=.fields #[.int lo t,.int hi u,.int 1 v] }).objs.size,[(s.heap.push { cls:=.type "range",data:=.fields #[.int lo t,.int hi u,.int 1 v] }).objs.size],_,_,H,rfl,
  I1.kept (t':=tk) fun b o e=>Heap.get?_push_of_some _ e,jle _ lo (hi - lo).toNat,?_,fun b hb=>?_,q⟩
 ·have e1:lo + ((0:Nat):Int) * 1 = lo:=by simp
  have e2:(((hi - lo).toNat:Nat):Int) - ((0:Nat):Int) = Builtin.Range.rangeSize lo hi 1:=by rw [rangeSize_one]; split <;> omega
  show IsRangeIter _ _ (lo + ((0:Nat):Int) * 1) ((((hi - lo).toNat:Nat):Int) - ((0:Nat):Int)) 1
  rw [e1,e2]
  exact Heap.get?_push_size _ rfl
 ·have e:b = (s.heap.push { cls:=.type "range",data:=.fields #[.int lo t,.int hi u,.int 1 v] }).objs.size:=by simpa using hb
  subst e
  exact I1.fpOk (Nat.le_refl _) (I1.hok.fresh (Nat.le_refl _))
def iRng1 (ta:TA):TI:=fun σ H R=>ta σ H fun vs H1=>∃ j:Int,vs = [.int j]∧-(2 ^ 62) ≤ j∧j < 2 ^ 62∧R (Itr 0 j.toNat) H1
def iRng2 (ta:TA):TI:=fun σ H R=>ta σ H fun vs H1=>∃ i j:Int,vs = [.int i,.int j]∧(-(2 ^ 62) ≤ i∧i < 2 ^ 62∧-(2 ^ 62) ≤ j∧j < 2 ^ 62)∧R (Itr i (j - i).toNat) H1
theorem jnk {a:Expr} {ta:TA} {p pos:Pos} (hg:Gl X "range") (hm:X.mg "range" = none) (ha:PA X [a] ta) (hs:starEach [a] X.env = [(false,eval a X.env)]:=by rfl):PI X tg (.Call (.Name "range" p) [a] [] pos) (iRng1 ta):=by
 intro pins s σ H R I h
 refine Call_ (jej I hg hm boot_range (PyProof.Rows.callWith_type1 (thn (ha pos pins s σ H _ I h) fun us s1 ⟨vs,H1,I1,r1,q1⟩=>?_) hs rfl))
 obtain ⟨j,e,q1,q2,q⟩:=q1
 subst e
 cases r1 with
 | cons r rr =>
  cases rr
  obtain ⟨t,rfl⟩:=r
  exact call_range_1 (jkf I1 (by omega) (by omega) q1 q2 (by simpa using q))
theorem jnj {a b:Expr} {ta:TA} {p pos:Pos} (hg:Gl X "range") (hm:X.mg "range" = none) (ha:PA X [a,b] ta) (hs:starEach [a,b] X.env = [(false,eval a X.env),(false,eval b X.env)]:=by rfl) (hs2:starEach [b] X.env = [(false,eval b X.env)]:=by rfl) :
  PI X tg (.Call (.Name "range" p) [a,b] [] pos) (iRng2 ta):=by
 intro pins s σ H R I h
 refine Call_ (jej I hg hm boot_range (PyProof.Rows.callWith_type1 (thn (ha pos pins s σ H _ I h) fun us s1 ⟨vs,H1,I1,r1,q1⟩=>?_) (by rw [hs,hs2]) (by rw [hs2]; rfl)))
 obtain ⟨i,j,e,⟨q1,q2,q3,q4⟩,q⟩:=q1
 subst e
 cases r1 with
 | cons r rr =>
  cases rr with
  | cons r' rr =>
   cases rr
   obtain ⟨t,rfl⟩:=r
   obtain ⟨t',rfl⟩:=r'
   exact call_range_2 (jkf I1 q1 q2 q3 q4 q)
def tFor (wi:TI) (g:TG) (tb:TS):TS:=fun D σ H=>wi σ H fun J H1=>∃ W:Nat→Nat→St→Hp→Prop,(∃ m,W 0 m σ H1)∧∀ i m σ H,W i m σ H →
 (J.stop i H∧D.nx σ H) ∨ (J.go i H∧∃ N:St→Hp→Prop,(∀ σ' H',N σ' H'→∃ m',m' < m∧W (i + 1) m' σ' H')∧∀ x H',J.yld i H x H'→g x σ H' fun σ2 H2=>tb { D with nx:=N,ct:=N,bk:=D.nx } σ2 H2)
def ji1 (fp:List Addr) (h:Heap):List (Addr × Obj):=fp.filterMap fun b=>(h.get? b).map fun o=>(b,o)
theorem jdj {fp:List Addr} {h:Heap} {b:Addr} {o:Obj} (hb:b ∈ fp) (e:h.get? b = some o):(b,o) ∈ ji1 fp h:=List.mem_filterMap.mpr ⟨b,hb,by rw [e]; rfl⟩
theorem jnq {fp:List Addr} {h:Heap} {p:Addr × Obj} (hp:p ∈ ji1 fp h):p.1 ∈ fp∧h.get? p.1 = some p.2:=by
 obtain ⟨b,hb,e⟩:=List.mem_filterMap.mp hp
 cases q:h.get? b with
 | none=>rw [q] at e; cases e
 | some o =>
  rw [q] at e
  have e':(b,o) = p:=Option.some.inj e
  subst e'
  exact ⟨hb,q⟩
theorem Inv.pinned {pins:List (Addr × Obj)} {σ:St} {H:Hp} {s:Shared} {fp:List Addr} (I:Inv X pins σ H s) (hf:∀ b ∈ fp,FpOk X pins H b) (ho:∀ b ∈ fp,∃ o,s.heap.get? b = some o∧∀ v,o.data ≠ .cell v):Inv X (pins ++ ji1 fp s.heap) σ H s :=
 I.pins_of fun p hp=>(List.mem_append.mp hp).elim (fun z=>I.pin p (List.mem_append_right _ z)) fun z=>by
  obtain ⟨hb,e⟩:=jnq z
  obtain ⟨f0,f1,f2,_⟩:=hf p.1 hb
  obtain ⟨o,e',d⟩:=ho p.1 hb
  rw [e] at e'; cases e'
  exact ⟨e,f0,f1,f2,d⟩
theorem Inv.unpinned {pins pl:List (Addr × Obj)} {σ:St} {H:Hp} {s:Shared} (I:Inv X (pins ++ pl) σ H s):Inv X pins σ H s:=I.pins_of fun p hp=>I.pin p (List.mem_append_right _ (List.mem_append_left _ hp))
theorem jbu {iter:Expr} {body:List Stmt} {wi:TI} {g:TG} {tb:TS} {pos:Pos} (hp:PassesOwn (model X.prog X.w) X.A X.env X.xe) (hc:X.calm = true) (hi:PI X tg iter wi) (hg:PG X tg g) (hb:PSs X body tb)
  (hs:∀ x,foldedSetIterable iter X.env x = pure x:=by intro _; rfl):PS X (.For tg iter body [] pos) (tFor wi g tb):=by
 intro pins s σ H D I h
 refine wpAny_For (thn (hi pins s σ H _ I h) fun v s1 h1=>thn h1 fun itv s2 h2=>?_) hs
 obtain ⟨it,fp,tn,J,H2,e,I2,T,st2,f2,W,⟨m0,w0⟩,turn⟩:=h2
 subst e
  -- what stays true of the iterator's objects through the loop
 have stat:∀ {H':Hp},(∀ b ∈ fp,H' b = none)→∀ b ∈ fp,FpOk X pins H' b:=fun hn b hb=>⟨hn b hb,(f2 b hb).2⟩
 refine codeAny_forLoop_any (fun n s'=>∃ i σ' H',Inv X pins σ' H' s'∧tn i s'.heap∧(∀ b ∈ fp,H' b = none)∧W i n σ' H') ?_ m0 ⟨0,σ,H2,I2,st2,fun b hb=>(f2 b hb).1,w0⟩
 rintro n s3 ⟨i,σ3,H3,I3,st3,fr3,w3⟩
 rcases turn i n σ3 H3 w3 with ⟨stop,qn⟩ | ⟨go,N,hN,step⟩
 ·refine wpAny_passesOwn hp (thn (T.done X rfl rfl rfl hc i pins s3 σ3 H3 X.xe I3 (stat fr3) st3 stop) fun r s4 ⟨hr,I4⟩=>?_)
  subst hr
  exact wpAny_execs_nil ⟨σ3,H3,I4,qn⟩
 ·refine wpAny_passesOwn hp (thn (T.item X rfl rfl rfl hc i pins s3 σ3 H3 X.xe I3 (stat fr3) st3 go) fun r s4 ⟨u,hr,h4⟩=>?_)
  subst hr
  refine wpAny_passesOwn hp (thn h4 fun _ s5 ⟨x,H5,I5,r5,y5,st5,fr5⟩=>?_)
  have I5':=I5.pinned (stat fr5) (T.obj _ _ st5)
  refine wpAny_passesOwn hp (thn (hg _ s5 σ3 H5 x u _ I5' r5 (step x H5 y5)) fun _ s6 ⟨σ6,H6,I6,q6⟩=>?_)
  refine wpAny_passesOwn hp (thn (hb _ s6 σ6 H6 _ I6 q6) fun f s7 q7=>?_)
  have again:∀ {σ7:St} {H7:Hp},Inv X (pins ++ ji1 fp s5.heap) σ7 H7 s7→N σ7 H7→∃ m,m < n∧∃ i σ' H',Inv X pins σ' H' s7∧tn i s7.heap∧(∀ b ∈ fp,H' b = none)∧W i m σ' H':=fun {σ7 H7} I7 n7=>by
   obtain ⟨m',hm,w7⟩:=hN σ7 H7 n7
   refine ⟨m',hm,i + 1,σ7,H7,I7.unpinned,T.keep _ _ _ st5 fun b hb o e=>(I7.pin (b,o) (List.mem_append_right _ (List.mem_append_right _ (jdj hb e)))).1,fun b hb=>?_,w7⟩
   obtain ⟨o,e,d⟩:=T.obj _ _ st5 b hb
   exact (I7.pin (b,o) (List.mem_append_right _ (List.mem_append_right _ (jdj hb e)))).2.1
  cases f with
  | next=>obtain ⟨σ7,H7,I7,n7⟩:=q7; exact again I7 n7
  | cont=>obtain ⟨σ7,H7,I7,n7⟩:=q7; exact again I7 n7
  | brk=>obtain ⟨σ7,H7,I7,q7⟩:=q7; exact ⟨σ7,H7,I7.unpinned,q7⟩
  | ret v=>obtain ⟨x7,σ7,H7,I7,r7,q7⟩:=q7; exact ⟨x7,σ7,H7,I7.unpinned,r7,q7⟩
end
theorem jd2 {K:PySem.W.Frag} {a:Addr} {xs:List V} {g:TG} {tb:TS} {D:Ends} {σ:St} {H:Hp} (Pv:Nat→St→Hp→Prop) (h0:Pv 0 σ H) (hl:∀ i σ H,i ≤ xs.length→Pv i σ H→SqL K H a xs)
  (hs:∀ i x σ H,xs[i]? = some x→Pv i σ H→g x σ H fun σ2 H2=>tb { D with nx:=Pv (i + 1),ct:=Pv (i + 1),bk:=D.nx } σ2 H2) (hd:∀ σ H,Pv xs.length σ H→D.nx σ H) :
  ∃ W:Nat→Nat→St→Hp→Prop,(∃ m,W 0 m σ H)∧∀ i m σ H,W i m σ H →
   ((Itl K a).stop i H∧D.nx σ H) ∨ ((Itl K a).go i H∧∃ N:St→Hp→Prop,(∀ σ' H',N σ' H'→∃ m',m' < m∧W (i + 1) m' σ' H')∧∀ x H',(Itl K a).yld i H x H'→g x σ H' fun σ2 H2=>tb { D with nx:=N,ct:=N,bk:=D.nx } σ2 H2):=by
 refine ⟨fun i m σ H=>m = xs.length - i∧i ≤ xs.length∧Pv i σ H,⟨xs.length,by simp,Nat.zero_le _,h0⟩,?_⟩
 rintro i m σ H ⟨rfl,hi,p⟩
 have q:=hl i σ H hi p
 by_cases hlt:i < xs.length
 ·refine .inr ⟨⟨xs,xs[i],q,by simp [hlt]⟩,Pv (i + 1),fun σ' H' p'=>⟨xs.length - (i + 1),by omega,rfl,hlt,p'⟩,fun x H' y=>?_⟩
  obtain ⟨e,y⟩:=y
  subst e
  exact hs i x σ _ (y xs q) p
 ·have e:i = xs.length:=by omega
  subst e
  exact .inl ⟨⟨xs,q,Nat.le_refl _⟩,hd σ H p⟩
theorem jsy {K:PySem.W.Frag} {a:Addr} {xs:List V} {g:TG} {tb:TS} {D:Ends} {σ:St} {H:Hp} (Pv:Nat→St→Hp→Prop) (h0:Pv 0 σ H) (hl:∀ i σ H,i ≤ xs.length→Pv i σ H→SqT K H a xs)
  (hs:∀ i x σ H,xs[i]? = some x→Pv i σ H→g x σ H fun σ2 H2=>tb { D with nx:=Pv (i + 1),ct:=Pv (i + 1),bk:=D.nx } σ2 H2) (hd:∀ σ H,Pv xs.length σ H→D.nx σ H) :
  ∃ W:Nat→Nat→St→Hp→Prop,(∃ m,W 0 m σ H)∧∀ i m σ H,W i m σ H →
   ((Itt K a).stop i H∧D.nx σ H) ∨ ((Itt K a).go i H∧∃ N:St→Hp→Prop,(∀ σ' H',N σ' H'→∃ m',m' < m∧W (i + 1) m' σ' H')∧∀ x H',(Itt K a).yld i H x H'→g x σ H' fun σ2 H2=>tb { D with nx:=N,ct:=N,bk:=D.nx } σ2 H2):=by
 refine ⟨fun i m σ H=>m = xs.length - i∧i ≤ xs.length∧Pv i σ H,⟨xs.length,by simp,Nat.zero_le _,h0⟩,?_⟩
 rintro i m σ H ⟨rfl,hi,p⟩
 have q:=hl i σ H hi p
 by_cases hlt:i < xs.length
 ·refine .inr ⟨⟨xs,xs[i],q,by simp [hlt]⟩,Pv (i + 1),fun σ' H' p'=>⟨xs.length - (i + 1),by omega,rfl,hlt,p'⟩,fun x H' y=>?_⟩
  obtain ⟨e,y⟩:=y
  subst e
  exact hs i x σ _ (y xs q) p
 ·have e:i = xs.length:=by omega
  subst e
  exact .inl ⟨⟨xs,q,Nat.le_refl _⟩,hd σ H p⟩
theorem jig {lo:Int} {n:Nat} {g:TG} {tb:TS} {D:Ends} {σ:St} {H:Hp} (Pv:Nat→St→Hp→Prop) (h0:Pv 0 σ H)
  (hs:∀ i σ H,i < n→Pv i σ H→g (.int (lo + i)) σ H fun σ2 H2=>tb { D with nx:=Pv (i + 1),ct:=Pv (i + 1),bk:=D.nx } σ2 H2) (hd:∀ σ H,Pv n σ H→D.nx σ H) :
  ∃ W:Nat→Nat→St→Hp→Prop,(∃ m,W 0 m σ H)∧∀ i m σ H,W i m σ H →
   ((Itr lo n).stop i H∧D.nx σ H) ∨ ((Itr lo n).go i H∧∃ N:St→Hp→Prop,(∀ σ' H',N σ' H'→∃ m',m' < m∧W (i + 1) m' σ' H')∧∀ x H',(Itr lo n).yld i H x H'→g x σ H' fun σ2 H2=>tb { D with nx:=N,ct:=N,bk:=D.nx } σ2 H2):=by
 refine ⟨fun i m σ H=>m = n - i∧i ≤ n∧Pv i σ H,⟨n,by simp,Nat.zero_le _,h0⟩,?_⟩
 rintro i m σ H ⟨rfl,hi,p⟩
 by_cases hlt:i < n
 ·refine .inr ⟨hlt,Pv (i + 1),fun σ' H' p'=>⟨n - (i + 1),by omega,rfl,hlt,p'⟩,fun x H' y=>?_⟩
  obtain ⟨e,y⟩:=y
  subst e y
  exact hs i σ _ hlt p
 ·have e:i = n:=by omega
  subst e
  exact .inl ⟨Nat.le_refl _,hd σ H p⟩
end L2
namespace L2
open PySem PySem.Spec PyProof.Rows
abbrev R2:=V→V→Hp→VK→Prop
def OpR (X:Cx) (f:Value→Value→Sem Value) (r:R2):Prop :=
 ∀ (pins:List (Addr × Obj)) (s:Shared) (σ:St) (H:Hp) (x y:V) (v u:Value) (Q:VK),Inv X pins σ H s→RelV x v→RelV y u→r x y H Q →
  wpAny (model X.prog X.w) X.A (f v u) (EP X pins σ Q) X.xe s
def UnR (X:Cx) (f:Value→Sem Value) (r:V→Hp→VK→Prop):Prop :=
 ∀ (pins:List (Addr × Obj)) (s:Shared) (σ:St) (H:Hp) (x:V) (v:Value) (Q:VK),Inv X pins σ H s→RelV x v→r x H Q →
  wpAny (model X.prog X.w) X.A (f v) (EP X pins σ Q) X.xe s
def jc7 (X:Cx) (f:Value) (r:List V→Hp→VK→Prop):Prop :=
 ∀ (pins:List (Addr × Obj)) (s:Shared) (σ:St) (H:Hp) (xs:List V) (us:List Value) (Q:VK),Inv X pins σ H s→Vals xs us→r xs H Q →
  wpAny (model X.prog X.w) X.A (call f us) (EP X pins σ Q) X.xe s
def tOp (r:R2) (ta tb:TE):TE:=fun σ H Q=>ta σ H fun x H1=>tb σ H1 fun y H2=>r x y H2 Q
def tUn (r:V→Hp→VK→Prop) (ta:TE):TE:=fun σ H Q=>ta σ H fun x H1=>r x H1 Q
def rI (C:Int→Int→Prop) (g:Int→Int→V):R2:=fun x y H Q=>∃ i j,x = .int i∧y = .int j∧C i j∧Q (g i j) H
def rI0 (g:Int→Int→V):R2:=fun x y H Q=>∃ i j,x = .int i∧y = .int j∧Q (g i j) H
def rU (g:Int→V):V→Hp→VK→Prop:=fun x H Q=>∃ i,x = .int i∧Q (g i) H
section
variable {X:Cx} {a b c:Expr} {ta tb tc:TE} {pos:Pos}
theorem binT (ha:PE X a ta) (hb:PE X b tb) {pins:List (Addr × Obj)} {s:Shared} {σ:St} {H:Hp} {R:V→V→Hp→Prop} (I:Inv X pins σ H s)
  (h:ta σ H fun x H1=>tb σ H1 fun y H2=>R x y H2) {Q:Value→Shared→Prop} {f:Value→Value→Sem Value}
  (hf:∀ v u s2 x y H2,Inv X pins σ H2 s2→RelV x v→RelV y u→R x y H2→wpAny (model X.prog X.w) X.A (f v u) Q X.xe s2) :
  wpAny (model X.prog X.w) X.A (eval a X.env) (fun v s₁=>wpAny (model X.prog X.w) X.A (eval b X.env) (fun u s₂=>wpAny (model X.prog X.w) X.A (f v u) Q X.xe s₂) X.xe s₁) X.xe s:=by
 refine thn (ha pins s σ H _ I h) fun v s1 ⟨x,H1,I1,r1,q1⟩=>?_
 refine thn (hb pins s1 σ H1 _ I1 q1) fun u s2 ⟨y,H2,I2,r2,q2⟩=>?_
 exact hf v u s2 x y H2 I2 r1 r2 q2
theorem jb0 {op:Operator} {r:R2} (ho:OpR X (binaryOp op) r) (ha:PE X a ta) (hb:PE X b tb):PE X (.BinOp a op b pos) (tOp r ta tb):=by
 intro pins s σ H Q I h
 exact wpAny_BinOp (binT ha hb I h fun v u s2 x y H2 I2 rx ry q=>ho pins s2 σ H2 x y v u Q I2 rx ry q)
theorem jpw {op:UnaryOp} {r:V→Hp→VK→Prop} (ho:UnR X (unaryOp op) r) (ha:PE X a ta):PE X (.UnaryOp op a pos) (tUn r ta):=by
 intro pins s σ H Q I h
 exact UnaryOp_ (thn (ha pins s σ H _ I h) fun v s1 ⟨x,H1,I1,r1,q1⟩=>ho pins s1 σ H1 x v Q I1 r1 q1)
theorem opI {f:Value→Value→Sem Value} {C:Int→Int→Prop} {g:Int→Int→Int}
  (rule:∀ (i j:Int) (t u:Tok) (s:Shared) (Q:Value→Shared→Prop) (E:Value→Shared→Prop),C i j→Q (.int (g i j) s.toks) { s with toks:=s.toks + 1 }→wpAny (model X.prog X.w) X.A (f (.int i t) (.int j u)) Q E s) :
  OpR X f (rI C fun i j=>.int (g i j)):=by
 intro pins s σ H x y v u Q I rx ry h
 obtain ⟨i,j,rfl,rfl,hc,q⟩:=h
 obtain ⟨t,rfl⟩:=rx
 obtain ⟨t',rfl⟩:=ry
 exact rule i j t t' s _ _ hc ⟨.int (g i j),H,I.tok _,⟨_,rfl⟩,q⟩
theorem opI0 {f:Value→Value→Sem Value} {g:Int→Int→Int}
  (rule:∀ (i j:Int) (t u:Tok) (s:Shared) (Q:Value→Shared→Prop) (E:Value→Shared→Prop),Q (.int (g i j) s.toks) { s with toks:=s.toks + 1 }→wpAny (model X.prog X.w) X.A (f (.int i t) (.int j u)) Q E s) :
  OpR X f (rI0 fun i j=>.int (g i j)):=by
 intro pins s σ H x y v u Q I rx ry h
 obtain ⟨i,j,rfl,rfl,q⟩:=h
 obtain ⟨t,rfl⟩:=rx
 obtain ⟨t',rfl⟩:=ry
 exact rule i j t t' s _ _ ⟨.int (g i j),H,I.tok _,⟨_,rfl⟩,q⟩
theorem opB0 {f:Value→Value→Sem Value} {g:Int→Int→Bool}
  (rule:∀ (i j:Int) (t u:Tok) (s:Shared) (Q:Value→Shared→Prop) (E:Value→Shared→Prop),Q (.bool (g i j)) s→wpAny (model X.prog X.w) X.A (f (.int i t) (.int j u)) Q E s) :
  OpR X f (rI0 fun i j=>.bl (g i j)):=by
 intro pins s σ H x y v u Q I rx ry h
 obtain ⟨i,j,rfl,rfl,q⟩:=h
 obtain ⟨t,rfl⟩:=rx
 obtain ⟨t',rfl⟩:=ry
 exact rule i j t t' s _ _ ⟨.bl (g i j),H,I,rfl,q⟩
def CDiv (i j:Int):Prop:=0 < j∧j < 1073741824
def CPow (i j:Int):Prop:=0 ≤ j∧j ≤ 1000000∧i.natAbs < 2 ^ 64
def CMul (i j:Int):Prop:=(-(2 ^ 64) < i∧i < 2 ^ 64) ∨ (-(2 ^ 64) < j∧j < 2 ^ 64)
theorem CMul.ok {i j:Int} (h:CMul i j):IntMulOk i j:=by
 rcases h with ⟨h1,h2⟩ | ⟨h1,h2⟩
 ·exact .of_left (intBits_le_64 h1 h2)
 ·exact .of_right (intBits_le_64 h1 h2)
theorem op_add:OpR X (binaryOp .Add) (rI0 fun i j=>.int (i + j)):=opI0 fun _ _ _ _ _ _ _ q=>add_int q
theorem op_sub:OpR X (binaryOp .Sub) (rI0 fun i j=>.int (i - j)):=opI0 fun _ _ _ _ _ _ _ q=>sub_int q
theorem op_mul:OpR X (binaryOp .Mult) (rI CMul fun i j=>.int (i * j)):=opI fun _ _ _ _ _ _ _ hc q=>mul_int q hc.ok
theorem jsc:OpR X (binaryOp .FloorDiv) (rI CDiv fun i j=>.int (i / j)):=opI fun i j _ _ _ _ _ hc q=>by
 have h1:(0:Int) < j:=hc.1
 have h2:j < 1073741824:=hc.2
 exact floordiv_int (by omega) (by rw [Int.fdiv_eq_ediv_of_nonneg i (by omega)]; exact q) (.inl (PyProof.noPylong_small (by omega)))
theorem op_mod:OpR X (binaryOp .Mod) (rI (fun _ j=>0 < j) fun i j=>.int (i % j)):=opI fun i j _ _ _ _ _ hc q=>by
 have h1:(0:Int) < j:=hc
 exact mod_int' (by omega) (by rw [Int.fmod_eq_emod_of_nonneg i (by omega)]; exact q)
theorem op_pow:OpR X (binaryOp .Pow) (rI CPow fun i j=>.int (i ^ j.toNat)):=opI fun _ _ _ _ _ _ _ hc q=>pow_int_small hc.1 hc.2.1 hc.2.2 q
theorem jsv:OpR X (inplaceOp .Add) (rI0 fun i j=>.int (i + j)):=opI0 fun _ _ _ _ _ _ _ q=>iadd_int q
theorem unI {f:Value→Sem Value} {g:Int→Int}
  (rule:∀ (i:Int) (t:Tok) (s:Shared) (Q:Value→Shared→Prop) (E:Value→Shared→Prop),Q (.int (g i) s.toks) { s with toks:=s.toks + 1 }→wpAny (model X.prog X.w) X.A (f (.int i t)) Q E s) :
  UnR X f (rU fun i=>.int (g i)):=by
 intro pins s σ H x v Q I rx h
 obtain ⟨i,rfl,q⟩:=h
 obtain ⟨t,rfl⟩:=rx
 exact rule i t s _ _ ⟨.int (g i),H,I.tok _,⟨_,rfl⟩,q⟩
theorem un_neg:UnR X (unaryOp .USub) (rU fun i=>.int (-i)):=unI fun _ _ _ _ _ q=>neg_int q
end
def scal:V→V→Bool
 | .non,.non=>true | .non,.int _=>true | .int _,.non=>true | .non,.bl _=>true | .bl _,.non=>true | .non,.str _=>true | .str _,.non=>true
 | .int _,.int _=>true | .bl _,.bl _=>true | .str _,.str _=>true | .byt _,.byt _=>true
 | .int _,.str _=>true | .str _,.int _=>true | .bl _,.str _=>true | .str _,.bl _=>true
 | _,_=>false
def rEq:R2:=fun x y H Q=>scal x y = true∧Q (.bl (decide (x = y))) H
def rNe:R2:=fun x y H Q=>scal x y = true∧Q (.bl (!decide (x = y))) H
theorem joz {i j:Int}:decide (V.int i = V.int j) = (i == j):=by
 rw [Bool.eq_iff_iff]
 simp
theorem jrk {i j:Bool}:decide (V.bl i = V.bl j) = (i == j):=by
 rw [Bool.eq_iff_iff]
 simp
theorem joy {i j:Str}:decide (V.str i = V.str j) = (i == j):=by
 rw [Bool.eq_iff_iff]
 simp
theorem jp0 {i j:Array UInt8}:decide (V.byt i = V.byt j) = (i.toList == j.toList):=by
 rw [Bool.eq_iff_iff]
 cases i
 cases j
 simp
section
variable {X:Cx} {a b c:Expr} {ta tb tc:TE} {pos:Pos}
theorem jat {pins:List (Addr × Obj)} {σ:St} {H:Hp} {s:Shared} {Q:VK} {k k':Bool} (I:Inv X pins σ H s) (q:Q (.bl k) H) (e:k = k'):EP X pins σ Q (.bool k') s:=by
 subst e
 exact ⟨.bl k,H,I,rfl,q⟩
theorem op_eq:OpR X (compareOp .Eq) rEq:=by
 intro pins s σ H x y v u Q I rx ry h
 obtain ⟨hs,q⟩:=h
 cases x with
 | non =>
  cases rx
  cases y with
  | non=>cases ry; exact PySem.EqNone.eq_none_none (jat I q (by simp))
  | bl j=>cases ry; exact PySem.EqNone.eq_none_bool (jat I q (by simp))
  | int j=>obtain ⟨t',rfl⟩:=ry; exact PySem.EqNone.eq_none_int (jat I q (by simp))
  | str j=>obtain ⟨t',rfl⟩:=ry; exact PySem.EqNone.eq_none_str (jat I q (by simp))
  | _=>exact absurd (show false = true from hs) Bool.false_ne_true
 | bl i =>
  cases rx
  cases y with
  | non=>cases ry; exact PySem.EqNone.eq_bool_none (jat I q (by simp))
  | bl j=>cases ry; exact eq_bool (jat I q jrk)
  | str j=>obtain ⟨t',rfl⟩:=ry; exact PySem.EqMixed.eq_bool_str (jat I q (by simp))
  | _=>exact absurd (show false = true from hs) Bool.false_ne_true
 | int i =>
  obtain ⟨t,rfl⟩:=rx
  cases y with
  | non=>cases ry; exact PySem.EqNone.eq_int_none (jat I q (by simp))
  | int j=>obtain ⟨t',rfl⟩:=ry; exact eq_int (jat I q joz)
  | str j=>obtain ⟨t',rfl⟩:=ry; exact PySem.EqMixed.eq_int_str (jat I q (by simp))
  | _=>exact absurd (show false = true from hs) Bool.false_ne_true
 | str i =>
  obtain ⟨t,rfl⟩:=rx
  cases y with
  | non=>cases ry; exact PySem.EqNone.eq_str_none (jat I q (by simp))
  | bl j=>cases ry; exact PySem.EqMixed.eq_str_bool (jat I q (by simp))
  | int j=>obtain ⟨t',rfl⟩:=ry; exact PySem.EqMixed.eq_str_int (jat I q (by simp))
  | str j=>obtain ⟨t',rfl⟩:=ry; exact eq_str (jat I q joy)
  | _=>exact absurd (show false = true from hs) Bool.false_ne_true
 | byt i =>
  obtain ⟨t,rfl⟩:=rx
  cases y with
  | byt j=>obtain ⟨t',rfl⟩:=ry; exact PySem.W.eq_bytes (jat I q jp0)
  | _=>exact absurd (show false = true from hs) Bool.false_ne_true
 | _=>cases y <;> exact absurd (show false = true from hs) Bool.false_ne_true
theorem op_ne:OpR X (compareOp .NotEq) rNe:=by
 intro pins s σ H x y v u Q I rx ry h
 obtain ⟨hs,q⟩:=h
 cases x with
 | non =>
  cases rx
  cases y with
  | non=>cases ry; exact PySem.EqNone.ne_none_none (jat I q (by simp))
  | bl j=>cases ry; exact PySem.EqNone.ne_none_bool (jat I q (by simp))
  | int j=>obtain ⟨t',rfl⟩:=ry; exact PySem.EqNone.ne_none_int (jat I q (by simp))
  | str j=>obtain ⟨t',rfl⟩:=ry; exact PySem.EqNone.ne_none_str (jat I q (by simp))
  | _=>exact absurd (show false = true from hs) Bool.false_ne_true
 | bl i =>
  cases rx
  cases y with
  | non=>cases ry; exact PySem.EqNone.ne_bool_none (jat I q (by simp))
  | bl j=>cases ry; exact ne_bool (jat I q (congrArg not jrk))
  | str j=>obtain ⟨t',rfl⟩:=ry; exact PySem.EqMixed.ne_bool_str (jat I q (by simp))
  | _=>exact absurd (show false = true from hs) Bool.false_ne_true
 | int i =>
  obtain ⟨t,rfl⟩:=rx
  cases y with
  | non=>cases ry; exact PySem.EqNone.ne_int_none (jat I q (by simp))
  | int j=>obtain ⟨t',rfl⟩:=ry; exact ne_int (jat I q (congrArg not joz))
  | str j=>obtain ⟨t',rfl⟩:=ry; exact PySem.EqMixed.ne_int_str (jat I q (by simp))
  | _=>exact absurd (show false = true from hs) Bool.false_ne_true
 | str i =>
  obtain ⟨t,rfl⟩:=rx
  cases y with
  | non=>cases ry; exact PySem.EqNone.ne_str_none (jat I q (by simp))
  | bl j=>cases ry; exact PySem.EqMixed.ne_str_bool (jat I q (by simp))
  | int j=>obtain ⟨t',rfl⟩:=ry; exact PySem.EqMixed.ne_str_int (jat I q (by simp))
  | str j=>obtain ⟨t',rfl⟩:=ry; exact ne_str (jat I q (congrArg not joy))
  | _=>exact absurd (show false = true from hs) Bool.false_ne_true
 | byt i =>
  obtain ⟨t,rfl⟩:=rx
  cases y with
  | byt j=>obtain ⟨t',rfl⟩:=ry; exact PySem.W.ne_bytes (jat I q (congrArg not jp0))
  | _=>exact absurd (show false = true from hs) Bool.false_ne_true
 | _=>cases y <;> exact absurd (show false = true from hs) Bool.false_ne_true
theorem op_lt:OpR X (compareOp .Lt) (rI0 fun i j=>.bl (decide (i < j))):=opB0 fun _ _ _ _ _ _ _ q=>lt_int q
theorem op_le:OpR X (compareOp .LtE) (rI0 fun i j=>.bl (decide (i ≤ j))):=opB0 fun _ _ _ _ _ _ _ q=>le_int q
theorem op_gt:OpR X (compareOp .Gt) (rI0 fun i j=>.bl (decide (j < i))):=opB0 fun _ _ _ _ _ _ _ q=>gt_int q
theorem op_ge:OpR X (compareOp .GtE) (rI0 fun i j=>.bl (decide (j ≤ i))):=opB0 fun _ _ _ _ _ _ _ q=>ge_int q
theorem op_isN:OpR X (compareOp .Is) (fun x y H Q=>y = .non∧Q (.bl (decide (x = .non))) H):=by
 intro pins s σ H x y v u Q I rx ry h
 obtain ⟨rfl,q⟩:=h
 cases ry
 refine is_none_gen (jat I q ?_)
 cases x <;> first
  | (cases rx; rfl)
  | (obtain ⟨t,rfl⟩:=rx; rfl)
theorem jsb:OpR X (compareOp .IsNot) (fun x y H Q=>y = .non∧Q (.bl (!decide (x = .non))) H):=by
 intro pins s σ H x y v u Q I rx ry h
 obtain ⟨rfl,q⟩:=h
 cases ry
 refine isnot_none_gen (jat I q ?_)
 cases x <;> first
  | (cases rx; rfl)
  | (obtain ⟨t,rfl⟩:=rx; rfl)
theorem jap (b:Expr) {op:CmpOp} (h:op ≠ .In:=by decide) (h2:op ≠ .NotIn:=by decide):behindInMarks op b = false:=by
 have e1:(op == CmpOp.In) = false:=by cases op <;> first | rfl | exact absurd rfl h
 have e2:(op == CmpOp.NotIn) = false:=by cases op <;> first | rfl | exact absurd rfl h2
 cases b <;> simp [behindInMarks,e1,e2]
theorem jbz {op:CmpOp} {r:R2} (ho:OpR X (compareOp op) r) (ha:PE X a ta) (hb:PE X b tb) (hm:behindInMarks op b = false):PE X (.Compare a [op] [b] pos) (tOp r ta tb):=by
 intro pins s σ H Q I h
 exact wpAny_Compare1 (binT ha hb I h fun v u s2 x y H2 I2 rx ry q=>ho pins s2 σ H2 x y v u Q I2 rx ry q) hm
theorem jkv:(sizeLine:Nat) < 2 ^ 63:=by rw [sizeLine_eq]; decide
theorem jlc {x:V} {us:List Value} (r:Vals [x] us):∃ u,us = [u]∧RelV x u:=by
 cases r with
 | cons r1 r2=>cases r2; exact ⟨_,rfl,r1⟩
theorem vals2 {x y:V} {us:List Value} (r:Vals [x,y] us):∃ u w',us = [u,w']∧RelV x u∧RelV y w':=by
 cases r with
 | cons r1 r2 =>
  cases r2 with
  | cons r3 r4=>cases r4; exact ⟨_,_,rfl,r1,r3⟩
end
end L2
namespace L2
open PySem PySem.Spec PyProof.Rows
structure ObjM (h:Heap) (x dx C:Addr) (mA:Str→Option Value):Prop where
 obj:h.get? x = some (PySem.W.instObj C dx)
 ns:h.Ns1 dx mA
 ne:dx ≠ x
theorem jo0 {h:Heap} {dx:Addr} {mA:Str→Option Value} (n:h.Ns1 dx mA):∃ od,h.get? dx = some od∧∀ name,PySem.W.lookIn name od = some (mA name):=by
 obtain ⟨o,es,ep,ho,hd,hk,_,hm⟩:=n
 refine ⟨o,ho,fun name=>?_⟩
 have e:=hm name
 unfold nsFind findBy at e
 rw [← Array.find?_toList] at e
 unfold PySem.W.lookIn
 rw [hd]
 dsimp only
 split
 ·rename_i y q
  rw [q] at e
  exact congrArg some e
 ·rename_i q
  rw [q] at e
  have a:es.toList.any (·.refKey) = false:=by
   rw [List.any_eq_false]
   intro y hy
   obtain ⟨z,t,hkey⟩:=hk y (Array.mem_toList_iff.mp hy)
   simp [DictEntry.refKey,hkey]
  have a':¬ es.toList.any (·.refKey) = true:=by rw [a]; exact Bool.false_ne_true
  rw [if_neg a']
  exact congrArg some e
theorem ObjM.look {h:Heap} {x dx C:Addr} {mA:Str→Option Value} (I:ObjM h x dx C mA):∃ od,PySem.W.InstAt h x (PySem.W.instObj C dx) C (some od)∧∀ name,PySem.W.lookIn name od = some (mA name) :=
 let ⟨od,ho,hl⟩:=jo0 I.ns
 ⟨od,⟨I.obj,rfl,rfl,ho⟩,hl⟩
section
variable {prog:Program} {w:World} {A:Around} {E:Value→Shared→Prop} {s:Shared} {K:PySem.W.Frag} {x dx C f:Addr} {mA:Str→Option Value} {name:Str} {v:Value}
end
theorem RelO.some_of {v:V} {o:Option Value} (r:RelO (some v) o):∃ u,o = some u∧RelV v u:=by
 cases o with
 | none=>exact (show False from r).elim
 | some u=>exact ⟨u,rfl,r⟩
section
variable {P:Program} {w:World} {H H':Hp} {h h':Heap} {a C dx:Addr} {fs fs':List (Str × V)}
theorem jsw (hok:HOk P w H h) (e:H a = some (.ins C dx fs)):∃ mA,ObjM h a dx C mA∧(∀ f,RelO (fs.lookup f) (mA f))∧PySem.Within mA (fs.map (·.1))∧fs.length ≤ 1000∧H dx = some (.own a):=by
 obtain ⟨d,z,ne,ob,mA,n,r,q⟩:=(show jbb P w H h a (.ins C dx fs) from hok a _ e)
 exact ⟨mA,⟨ob,n,ne⟩,r,q,z,d⟩
end
structure Cls (K:PySem.W.Frag) (C:Addr):Prop where
 pg:PySem.W.plainGet K C Str.empty = true
 hd:PySem.W.hasDictIn K C = true
 po:PySem.W.plainOver K C = true
 sa:PySem.W.findIn K (.ref C) "__setattr__" = some (some (.builtin "object.__setattr__"))
theorem Cls.get {K:PySem.W.Frag} {C:Addr} (c:Cls K C) (f:Str):PySem.W.plainGet K C f = true:=c.pg
section
variable {X:Cx} {pins:List (Addr × Obj)} {σ:St} {H:Hp} {s:Shared} {a C dx:Addr} {fs:List (Str × V)} {f:Str} {v:V} {A:Around} {E:Value→Shared→Prop}
end
section
variable {X:Cx} {o e value:Expr} {f:Str} {pos pos' tpos:Pos} {ta tv:TE}
end
section
variable {X:Cx} {pins:List (Addr × Obj)} {σ:St} {H:Hp} {s:Shared} {A:Around} {E:Value→Shared→Prop} {Q:Value→Shared→Prop} {c:Value} {b:Bool}
inductive TyOf (K:PySem.W.Frag) (H:Hp):V→Value→Prop where
 | non:TyOf K H .non (.type "NoneType")
 | bl (x:Bool):TyOf K H (.bl x) (.type "bool")
 | int (i:Int):TyOf K H (.int i) (.type "int")
 | str (x:Str):TyOf K H (.str x) (.type "str")
 | flt (x:UInt64):TyOf K H (.flt x) (.type "float")
 | lst {a:Addr} {xs:List V} (e:H a = some (.lst xs)):TyOf K H (.ref a) (.type "list")
 | frz {a:Addr} {o:Obj} {xs:List V} (e:H a = some (.frz o (.lst xs))):TyOf K H (.ref a) (.type "list")
 | tup {a:Addr} {xs:List V} (e:H a = some (.tup xs)):TyOf K H (.ref a) (.type "tuple")
 | dK {a:Addr} {kvs:List (Key × V)} (e:H a = some (.dK kvs)):TyOf K H (.ref a) (.type "dict")
 | dT {a:Addr} {kvs:List (List Key × V)} (e:H a = some (.dT kvs)):TyOf K H (.ref a) (.type "dict")
 | ins {a C dx:Addr} {fs:List (Str × V)} (e:H a = some (.ins C dx fs)) (cl:Cls K C) (ha:PySem.W.findIn K (.ref C) "__class__" = some (some (.builtin "object.__class__")))
   (hn:PySem.W.specialIn K (.builtin "object.__class__") "__get__" = some (some (.builtin "getset_descriptor.__get__"))) (htk:PySem.W.takesIn K (.builtin "object.__class__") = some true)
   (hm:PySem.W.mroIn K C (.type "object") = some true):TyOf K H (.ref a) (.ref C)
theorem joh {x:V} {u t:Value} (I:Inv X pins σ H s) (rx:RelV x u) (ty:TyOf X.K H x t) (e:PySem.W.kitOne X.K t c = some b) (h:∀ tk,Q (.bool b) { s with toks:=tk }) :
  wpAny (model X.prog X.w) A (call (.builtin "isinstance") [u,c]) Q E s:=by
 cases ty with
 | non=>cases (show u = Value.none from rx); exact PySem.W.kia_one PySem.W.kitx_none I.kIn True.intro e (fun z=>nomatch z) h
 | bl y=>cases (show u = Value.bool y from rx); exact PySem.W.kia_one PySem.W.kitx_bool I.kIn True.intro e (fun z=>nomatch z) h
 | int i=>obtain ⟨t,q⟩:=(show ∃ t,u = Value.int i t from rx); cases q; exact PySem.W.kia_one PySem.W.kitx_int I.kIn True.intro e (fun z=>nomatch z) h
 | str y=>obtain ⟨t,q⟩:=(show ∃ t,u = Value.str y t from rx); cases q; exact PySem.W.kia_one PySem.W.kitx_str I.kIn True.intro e (fun z=>nomatch z) h
 | flt y=>obtain ⟨t,q⟩:=(show ∃ t,u = Value.float y t from rx); cases q; exact PySem.W.kia_one PySem.W.kitx_float I.kIn True.intro e (fun z=>nomatch z) h
 | @lst a xs ea =>
  cases (show u = Value.ref a from rx)
  obtain ⟨_,_,n,_,h1⟩:=(show jbb X.prog X.w H s.heap a (.lst xs) from I.hok a _ ea)
  exact PySem.W.kia_one PySem.W.kitx_list I.kIn ⟨_,h1,rfl⟩ e (fun z=>nomatch z) h
 | @frz a ob xs ea =>
  cases (show u = Value.ref a from rx)
  obtain ⟨_,_,_,n,_,h1⟩:=(show jbb X.prog X.w H s.heap a (.frz ob (.lst xs)) from I.hok a _ ea)
  exact PySem.W.kia_one PySem.W.kitx_list I.kIn ⟨_,h1,rfl⟩ e (fun z=>nomatch z) h
 | @tup a xs ea =>
  cases (show u = Value.ref a from rx)
  obtain ⟨_,_,_,p⟩:=(show jbb X.prog X.w H s.heap a (.tup xs) from I.hok a _ ea)
  obtain ⟨o,h1,h2,_⟩:=p
  exact PySem.W.kia_one PySem.W.kitx_tuple I.kIn ⟨o,h1,h2⟩ e (fun z=>nomatch z) h
 | @dK a kvs ea =>
  cases (show u = Value.ref a from rx)
  obtain ⟨_,_,vs,_,p⟩:=(show jbb X.prog X.w H s.heap a (.dK kvs) from I.hok a _ ea)
  obtain ⟨o,es,ep,h1,h2,_⟩:=p
  exact PySem.W.kia_one PySem.W.kitx_dict I.kIn ⟨o,h1,h2.1⟩ e (fun z=>nomatch z) h
 | @dT a kvs ea =>
  cases (show u = Value.ref a from rx)
  obtain ⟨_,_,xs,_,o,es,ep,h1,h2,_⟩:=(show jbb X.prog X.w H s.heap a (.dT kvs) from I.hok a _ ea)
  exact PySem.W.kia_one PySem.W.kitx_dict I.kIn ⟨o,h1,h2.1⟩ e (fun z=>nomatch z) h
 | @ins a C dx fs ea cl ha hn htk hm =>
  cases (show u = Value.ref a from rx)
  obtain ⟨mA,O,_⟩:=jsw I.hok ea
  obtain ⟨od,J,_⟩:=O.look
  exact PySem.W.kia_one (PySem.W.kitx_own (cl.get _) cl.hd ha hn htk hm) I.kIn J e (fun z=>nomatch z) h
end
end L2
namespace L2
open PySem PySem.Spec PyProof.Rows
structure Room (k:Nat) (A:Around):Prop where
 hd:A.handled = none
 dp:A.depth + 3 * k + 5 < recursionLimit
 un:A.units + 16 * k + 200 < cLine
 gd:A.guards = some []
theorem Room.mono {j k:Nat} {A:Around} (r:Room k A) (h:j ≤ k):Room j A:=⟨r.hd,by have:=r.dp; omega,by have:=r.un; omega,by first | exact r.gd | (simp only [Around.deeper,Around.in1,Around.under]; exact r.gd)⟩
theorem Room.deeper {k:Nat} {A:Around} (r:Room (k + 1) A) (env:Env):Room k (A.deeper env) :=
 ⟨r.hd,by have:=r.dp; show A.depth + 1 + 3 * k + 5 < _; omega,by have:=r.un; show A.units + 3 + 16 * k + 200 < _; omega,by first | exact r.gd | (simp only [Around.deeper,Around.in1,Around.under]; exact r.gd)⟩
theorem Room.depth {k:Nat} {A:Around} (r:Room k A):A.depth < recursionLimit:=by have:=r.dp; omega
theorem Room.units {k:Nat} {A:Around} (r:Room k A):A.units + 64 < cLine:=by have:=r.un; omega
def tNil:TA:=fun _ H Q=>Q [] H
def jrw (ta:TE) (tr:TA):TA:=fun σ H Q=>ta σ H fun x H1=>tr σ H1 fun xs H2=>Q (x :: xs) H2
section
variable {X:Cx} {e:Expr} {es:List Expr} {te:TE} {t:TA} {pos:Pos}
theorem ja3:PA X [] tNil:=fun _ _ _ _ H Q I h=>Calls.spliced_nil ⟨[],H,I,.nil,h⟩
theorem ja0 (ha:PE X e te) (hr:PA X es t) (hs:starEach (e :: es) X.env = (false,eval e X.env) :: starEach es X.env:=by rfl):PA X (e :: es) (jrw te t):=by
 intro pos pins s σ H Q I h
 rw [hs]
 show wpAny _ _ (spliced ((false,eval e X.env) :: backTo pos (starEach es X.env))) _ _ s
 refine Calls.spliced_cons (thn (ha pins s σ H _ I h) fun u s1 ⟨x,H1,I1,r1,q1⟩=>?_)
 exact thn (hr pos pins s1 σ H1 _ I1 q1) fun us s2 ⟨xs,H2,I2,r2,q2⟩=>⟨x :: xs,H2,I2,.cons r1 r2,q2⟩
def tTup (t:TA):TE:=fun σ H Q=>t σ H fun xs H1=>xs.length ≤ sizeLine∧∀ p,H1 p = none→Q (.ref p) (upd H1 p (.tup xs))
def tLst (t:TA):TE:=fun σ H Q=>t σ H fun xs H1=>xs.length ≤ sizeLine∧∀ p,H1 p = none→Q (.ref p) (upd H1 p (.lst xs))
theorem jb8 {x1} (h:PA X es t):PE X (.Tuple es x1 pos) (tTup t):=by
 intro pins s σ H Q I hq
 refine wpAny_Tuple_spliced (thn (h pos pins s σ H _ I hq) fun us s1 ⟨xs,H1,I1,r,z,q⟩=>⟨by rw [← r.length]; exact z,?_⟩)
 have hf:H1 s1.heap.objs.size = none:=I1.hok.fresh (Nat.le_refl _)
 refine ⟨.ref s1.heap.objs.size,upd H1 s1.heap.objs.size (.tup xs),I1.laid (t':=s1.toks) (fun b u e=>Heap.get?_push_of_some _ e) (Nat.le_refl _) ?_,rfl,q _ hf⟩
 exact ⟨z,us,r,⟨_,Heap.get?_push_size _ rfl,rfl,_,rfl⟩⟩
theorem jc9 (h:PA X es t):PE X (.List es pos) (tLst t):=by
 intro pins s σ H Q I hq
 refine wpAny_List_spliced (thn (h pos pins s σ H _ I hq) fun us s1 ⟨xs,H1,I1,r,z,q⟩=>⟨by rw [← r.length]; exact z,?_⟩)
 have hf:H1 s1.heap.objs.size = none:=I1.hok.fresh (Nat.le_refl _)
 refine ⟨.ref s1.heap.objs.size,upd H1 s1.heap.objs.size (.lst xs),I1.laid (t':=s1.toks) (fun b u e=>Heap.get?_push_of_some _ e) (Nat.le_refl _) ?_,rfl,q _ hf⟩
 exact ⟨z,us,0,r,Heap.get?_push_size _ rfl⟩
end
abbrev Sp:=List V→Hp→VK→XK→Prop
abbrev CXT:=List Env→Hp→Shared→XK→Value→Shared→Prop
structure Env0 (P:Program) (w:World) (K:PySem.W.Frag) (mg:Str→Option Value) (base:Heap) (A:Around) (outer:List Env) (s:Shared) (H:Hp):Prop where
 frames:A.frames = some outer
 mod:Mod K mg base
 bs:∀ b o,base.get? b = some o→s.heap.get? b = some o∧H b = none
 bsz:base.objs.size ≤ s.heap.objs.size
 funs:s.heap.FunFrames base outer
 frf:∀ b ∈ frs outer,H b = none
 hok:HOk P w H s.heap
 bare:AllBare s.gens
def CE (outer:List Env) (P:Program) (w:World) (H:Hp) (s:Shared) (Q:VK) (u:Value) (s':Shared):Prop :=
 ∃ v H',s'.os = s.os∧AllBare s'.gens∧Un (frs outer) [] H H' s.heap s'.heap∧HOk P w H' s'.heap∧RelV v u∧Q v H'
def CR (CX:CXT) (outer:List Env) (P:Program) (w:World) (H:Hp) (s:Shared) (Q:VK) (E:XK) (r:Result) (s':Shared):Prop :=
 match r with
 | .ok (.ret u)=>CE outer P w H s Q u s'
 | .ok _=>False
 | .error e=>CX outer H s E e s'
structure FnOk (P:Program) (w:World) (K:PySem.W.Frag) (mg:Str→Option Value) (base:Heap) (CX:CXT) (k:Nat) (f:Addr) (fd:FuncData) (ps:List Str) (sp:Sp):Prop where
 len:∀ vs H Q E,sp vs H Q E→vs.length = ps.length
 run:∀ (A:Around) (outer:List Env) (s:Shared) (H:Hp) (args:Args) (us:List Value) (vs:List V) (Q:VK) (E:XK),Room k A→Env0 P w K mg base A outer s H→BindsTo s fd args (ps.zip us)→Vals vs us→sp vs H Q E →
  codeAny (model P w) A (.call (.ref f) args) (CR CX outer P w H s Q E) s
section
variable {X:Cx} {pins:List (Addr × Obj)} {σ:St} {H:Hp} {s s':Shared}
theorem Inv.env0 (I:Inv X pins σ H s):Env0 X.prog X.w X.K X.mg X.base X.A X.stack s H :=
 ⟨I.ok.frames,I.ok.mod,I.bs,Nat.le_trans I.ok.bsz I.sz,I.stack,I.stkFree,I.hok,I.bare⟩
theorem Inv.after {Q:VK} {u:Value} (I:Inv X pins σ H s) (h:CE X.stack X.prog X.w H s Q u s'):EP X pins σ Q u s':=by
 obtain ⟨v,H',os,bare,un,hok,r,q⟩:=h
 obtain ⟨hh,g,d,t,os'⟩:=s'
 obtain rfl:os' = s.os:=os
 exact ⟨v,H',I.call (h':=hh) (g':=g) (d':=d) (t':=t) (ch:=[]) un hok bare (fun b z=>absurd z (by simp)),r,q⟩
end
def jrx (sp:Sp) (dvs:List V) (E:XK) (t:TA):TE:=fun σ H Q=>t σ H fun vs H1=>sp (vs ++ dvs) H1 Q E
def jhl (K:PySem.W.Frag) (fd:FuncData) (ps:List Str) (ds:List Value):Prop :=
 ∀ (s:Shared) (us:List Value),K.In s.heap→(us ++ ds).length = ps.length→BindsTo s fd ⟨us,[]⟩ (ps.zip (us ++ ds))
theorem jhl.all {K:PySem.W.Frag} {fd:FuncData} {ps:List Str} (h:∀ us:List Value,us.length = ps.length→bindArgs fd ⟨us,[]⟩ = pure (ps.zip us)):jhl K fd ps []:=fun s us _ hl=>by
 rw [List.append_nil] at hl ⊢
 exact .of_eq (h us hl)
def jpd (CX:CXT) (X:Cx) (E:XK):Prop:=∀ (pins:List (Addr × Obj)) (σ:St) (H:Hp) (s:Shared) (e:Value) (s':Shared),Inv X pins σ H s→CX X.stack H s E e s'→X.xe e s'
section
variable {X:Cx} {CX:CXT} {k:Nat} {f C:Addr} {fd:FuncData} {ps:List Str} {sp:Sp} {dvs:List V} {ds:List Value} {E:XK} {x m:Str} {p pos apos:Pos} {e o:Expr} {es:List Expr} {ta:TE} {t:TA}
theorem jqx {pins:List (Addr × Obj)} {σ:St} {H:Hp} {s:Shared} {Q:VK} {us:List Value} {vs:List V} (F:FnOk X.prog X.w X.K X.mg X.base CX k f fd ps sp) (hr:Room k X.A) (hb:jhl X.K fd ps ds) (hd:Vals dvs ds) (hx:jpd CX X E)
  (I:Inv X pins σ H s) (r:Vals vs us) (h:sp (vs ++ dvs) H Q E):wpAny (model X.prog X.w) X.A (call (.ref f) us) (EP X pins σ Q) X.xe s:=by
 have r2:Vals (vs ++ dvs) (us ++ ds):=r.append hd
 have hl:(us ++ ds).length = ps.length:=by rw [← r2.length]; exact F.len _ _ _ _ h
 refine wpAny_call (codeAny_mono (F.run X.A X.stack s H ⟨us,[]⟩ (us ++ ds) (vs ++ dvs) Q E hr I.env0 (hb s us I.kIn hl) r2 h) fun r s' hq=>?_)
 cases r with
 | error e=>exact hx pins σ H s e s' I hq
 | ok fl =>
  cases fl with
  | ret u=>exact I.after hq
  | next=>exact False.elim hq
  | brk=>exact False.elim hq
  | cont=>exact False.elim hq
theorem ja9 (F:FnOk X.prog X.w X.K X.mg X.base CX k f fd ps sp) (hr:Room k X.A) (hg:Gl X x) (hm:X.mg x = some (.ref f)) (hk:PySem.W.keepIn X.K (.ref f) = true) (hb:jhl X.K fd ps ds) (hd:Vals dvs ds) (hx:jpd CX X E)
  (ha:PA X (e :: es) t) (hdb:(x == ("__debug__":Str)) = false:=by decide) (he:starEach (e :: es) X.env = (false,eval e X.env) :: starEach es X.env:=by rfl) (hpl:(backTo pos (starEach es X.env)).any (·.1) = false:=by rfl) :
  PE X (.Call (.Name x p) (e :: es) [] pos) (jrx sp dvs E t):=by
 intro pins s σ H Q I h
 refine wpAny_Call_Name_kw (jjm I hg hm ?_ hdb)
 refine PySem.W.callWith_K (h₀:=X.base) I.ok.mod.kin hk (thn (ha pos pins s σ H _ I h) fun us s1 ⟨vs,H1,I1,r,q⟩=>⟨I1.kIn,?_⟩) he hpl
 exact jqx F hr hb hd hx I1 r q
end
section
variable {X:Cx} {CX:CXT} {k:Nat} {f C:Addr} {fd:FuncData} {ps ks:List Str} {sp:Sp} {E:XK} {x m:Str} {p pos apos kpos:Pos} {e o:Expr} {es:List Expr} {kws:List Keyword} {te ta:TE} {t tk:TA} {nm:Option Str}
variable {g:List Value→List Value→List Value} {gV:List V→List V→List V}
end
structure FnScope (N P:List Str) (sc:Scope):Prop where
 kind:sc.kind = .function
 co:sc.isCoroutine = false
 gen:sc.isGenerator = false
 nd:N.Nodup
 pre:N.take P.length = P
 par:∀ x ∈ P,sc.names.lookup x = some .local ∨ sc.names.lookup x = some .cell
 nofree:∀ y ∈ sc.names,y.2 ≠ .free
theorem jiq {kindOf:Str→Option NameKind} {x:Str}:∀ {binds:List (Str × Value)} {m:Str→Option Value},(∀ v,(x,v) ∉ binds)→bindL kindOf binds m x = m x
 | [],_,_=>rfl
 | (n,v) :: r,m,h=>by
  unfold bindL
  rw [jiq fun w hw=>h w (List.mem_cons_of_mem _ hw)]
  split
  ·have:x ≠ n:=by rintro rfl; exact h v List.mem_cons_self
   simp [this]
  ·rfl
theorem jis {kindOf:Str→Option NameKind} {x:Str}:∀ {binds:List (Str × Value)} {m:Str→Option Value},(∀ v,(x,v) ∉ binds)→bindC kindOf binds m x = m x
 | [],_,_=>rfl
 | (n,v) :: r,m,h=>by
  unfold bindC
  rw [jis fun w hw=>h w (List.mem_cons_of_mem _ hw)]
  split
  ·rfl
  ·have:x ≠ n:=by rintro rfl; exact h v List.mem_cons_self
   simp [this]
theorem jir {kindOf:Str→Option NameKind} {x:Str} {v:Value}:∀ {P:List Str} {vs:List Value} {i:Nat} {m:Str→Option Value},P.Nodup→P[i]? = some x→vs[i]? = some v→kindOf x = some .local →
  bindL kindOf (P.zip vs) m x = some v
 | [],_,_,_,_,h,_,_=>by simp at h
 | _ :: _,[],_,_,_,_,h,_=>by simp at h
 | p :: P,w :: vs,0,m,nd,h1,h2,hk=>by
  simp at h1 h2; subst h1; subst h2
  show bindL kindOf ((p,w) :: P.zip vs) m p = _
  unfold bindL
  rw [jiq fun v hv=>(List.nodup_cons.mp nd).1 (List.of_mem_zip hv).1,if_pos hk]
  simp
 | p :: P,w :: vs,i + 1,m,nd,h1,h2,hk=>by
  show bindL kindOf ((p,w) :: P.zip vs) m x = _
  unfold bindL
  exact jir (i:=i) (List.nodup_cons.mp nd).2 (by simpa using h1) (by simpa using h2) hk
theorem jit {kindOf:Str→Option NameKind} {x:Str} {v:Value}:∀ {P:List Str} {vs:List Value} {i:Nat} {m:Str→Option Value},P.Nodup→P[i]? = some x→vs[i]? = some v→kindOf x ≠ some .local →
  bindC kindOf (P.zip vs) m x = some v
 | [],_,_,_,_,h,_,_=>by simp at h
 | _ :: _,[],_,_,_,_,h,_=>by simp at h
 | p :: P,w :: vs,0,m,nd,h1,h2,hk=>by
  simp at h1 h2; subst h1; subst h2
  show bindC kindOf ((p,w) :: P.zip vs) m p = _
  unfold bindC
  rw [jis fun v hv=>(List.nodup_cons.mp nd).1 (List.of_mem_zip hv).1,if_neg hk]
  simp
 | p :: P,w :: vs,i + 1,m,nd,h1,h2,hk=>by
  show bindC kindOf ((p,w) :: P.zip vs) m x = _
  unfold bindC
  exact jit (i:=i) (List.nodup_cons.mp nd).2 (by simpa using h1) (by simpa using h2) hk
def start (N:List Str) (vs:List V):St:=vs.map some ++ List.replicate (N.length - vs.length) none
def cxOf (CX:CXT) (P:Program) (w:World) (K:PySem.W.Frag) (mg:Str→Option Value) (base:Heap) (N:List Str) (qual:Str) (scope:Scope) (f:Addr) (cd:Value) (A:Around) (outer:List Env) (s:Shared) (H:Hp) (E:XK):Cx where
 prog:=P
 w:=w
 K:=K
 mg:=mg
 base:=base
 A:=A.deeper (envOfC qual scope s.heap.objs.size f cd)
 N:=N
 s₀:=s
 H₀:=H
 env:=envOfC qual scope s.heap.objs.size f cd
 outer:=outer
 stack:=envOfC qual scope s.heap.objs.size f cd :: outer
 ex:=[]
 calm:=true
 fn:=fun _=>true
 pn:=[]
 xe:=fun e s'=>wpAny (model P w) (A.deeper (envOfC qual scope s.heap.objs.size f cd)) (leaving (envOfC qual scope s.heap.objs.size f cd) e) (fun _ s''=>CX outer H s E e s'') (fun e' s''=>CX outer H s E e' s'') s'
theorem jlb {sc:Scope} {n:Nat} {x:Str} (h:sc.names.lookup x = some .cell):∃ c,(cellsFrom n sc.names []).lookup x = some c:=by
 have q:=PySem.W.cellsFrom_some sc.names n [] (.inl h)
 exact Option.isSome_iff_exists.mp q
theorem joj {CX:CXT} {P:Program} {w:World} {K:PySem.W.Frag} {mg:Str→Option Value} {base:Heap} {N ps:List Str} {qual:Str} {scope:Scope} {f:Addr} {cd:Value} {A:Around} {outer:List Env} {s s1:Shared} {H:Hp} {E:XK} {us:List Value} {vs:List V}
  (S:FnScope N ps scope) (hd:A.handled = none) (e0:Env0 P w K mg base A outer s H) (hl:vs.length = ps.length) (r:Vals vs us)
  (x:InCallC s s.heap.objs.size (bindL (envOfC qual scope s.heap.objs.size f cd).kindOf (ps.zip us) fun _=>none) (cellsFrom (s.heap.objs.size + 1) scope.names []) (bindC (envOfC qual scope s.heap.objs.size f cd).kindOf (ps.zip us) fun _=>none) s1) :
  Inv (cxOf CX P w K mg base N qual scope f cd A outer s H E) [] (start N vs) H s1:=by
 have hpl:ps.length ≤ N.length:=by have:=congrArg List.length S.pre; rw [List.length_take] at this; omega
 obtain ⟨h1,tk,rfl,hk⟩:=x.done
 have noA:∀ b:Addr,b ∉ (cxOf CX P w K mg base N qual scope f cd A outer s H E).ex:=fun b z=>absurd (show b ∈ ([]:List Addr) from z) (by simp)
 refine ⟨⟨e0.mod,S.kind,rfl,rfl,Nat.le_refl _,fun y z c h1 h2=>?_,fun y hy=>?_,fun y c _ h=>?_,fun _=>hd,Around.frames_deeper e0.frames,.inr ⟨rfl,rfl⟩,fun b z=>absurd z (noA b),e0.bs,e0.bsz,fun b _ _=>noA b,fun b z=>absurd z (noA b),e0.funs,e0.frf⟩,
  rfl,e0.bare,Un.kept hk,⟨_,x.toInCall.ns,fun i y v h1 h2 h3=>?_⟩,fun y c h=>⟨_,x.cell y c h⟩,e0.hok.fresh (Nat.le_refl _),fun y c h=>?_,fun p hp=>absurd (show p ∈ ([]:List (Addr × Obj)) from hp) (by simp),e0.hok.kept hk,?_⟩
 ·exact name_of_addr x.apart (PySem.mem_of_lookup h1) (PySem.mem_of_lookup h2)
 ·have hy:scope.names.lookup y = some .cell ∨ scope.names.lookup y = some .free:=hy
  rcases hy with hy | hy
  ·exact jlb hy
  ·exact absurd rfl (S.nofree _ (PySem.mem_of_lookup hy))
 ·exact Nat.le_of_lt (x.above y c (PySem.mem_of_lookup h))
 ·have hi:i < vs.length:=by
   unfold start at h2
   by_cases hi:i < vs.length
   ·exact hi
   ·rw [List.getElem?_append_right (by simpa using hi)] at h2
    rw [List.getElem?_replicate] at h2
    split at h2 <;> cases h2
  have ha:vs[i]? = some v:=by
   unfold start at h2
   rw [List.getElem?_append_left (by simpa using hi),List.getElem?_map] at h2
   cases e:vs[i]? with
   | none=>rw [e] at h2; cases h2
   | some a=>rw [e] at h2; cases h2; rfl
  obtain ⟨u,hu,rv⟩:=r.get ha
  have hp:ps[i]? = some y:=by
   rw [← S.pre,List.getElem?_take_of_lt (by omega)]; exact h1
  have ndP:ps.Nodup:=by rw [← S.pre]; exact S.nd.sublist (List.take_sublist _ _)
  refine ⟨u,rv,?_⟩
  rcases S.par y (List.mem_of_getElem? hp) with k | k
  ·exact .inl ⟨k,jir ndP hp hu k⟩
  ·obtain ⟨c,e⟩:=jlb (n:=s.heap.objs.size + 1) k
   refine .inr ⟨.inl k,c,e,?_⟩
   have q:=x.cell y c e
   rw [jit ndP hp hu (by show scope.names.lookup y ≠ _; rw [k]; decide)] at q
   exact q
 ·exact e0.hok.fresh (Nat.le_of_lt (x.above y c (PySem.mem_of_lookup h)))
 ·unfold start
  show _ = N.length
  rw [List.length_append,List.length_map,List.length_replicate]
  omega
theorem fn_of {CX:CXT} {P:Program} {w:World} {K:PySem.W.Frag} {mg:Str→Option Value} {base:Heap} {k:Nat} {f:Addr} {name qual:Str} {params:Arguments} {body:List Stmt} {scope:Scope} {dV kV doc pm cdv ct oc:Value} {an od:Option Addr}
  {osl:Array (Option Value)} {N ps:List Str} {sp:Sp} (lk:K.lookup f = some ⟨oc,od,.func (PySem.W.fnOf name qual params body scope dV kV doc pm an cdv ct),osl⟩) (hcd:PySem.W.codeIn K cdv qual = true) (S:FnScope N ps scope)
  (len:∀ vs H Q E,sp vs H Q E→vs.length = ps.length)
  (hbody:∀ (A:Around) (outer:List Env) (s:Shared) (H:Hp) (vs:List V) (Q:VK) (E:XK),Room k (A.deeper (envOfC qual scope s.heap.objs.size f cdv))→sp vs H Q E →
   ∃ t,PSs (cxOf CX P w K mg base N qual scope f cdv A outer s H E) body t∧t { nx:=fun _ H'=>Q .non H',rt:=Q } (start N vs) H) :
  FnOk P w K mg base CX (k + 1) f (PySem.W.fnOf name qual params body scope dV kV doc pm an cdv ct) ps sp:=by
 refine ⟨len,fun A outer s H args us vs Q E hr e0 hb r hsp=>?_⟩
 have hl:=len _ _ _ _ hsp
 have KX:K.In s.heap:=e0.mod.kin.keeps fun b o e=>(e0.bs b o e).1
 have lim:s.heap.NoLimit:=e0.mod.nolimit.keeps fun b o e=>(e0.bs b o e).1
 have hkind:∀ y ∈ ps.zip us,scope.names.lookup y.1 = some .local ∨ (scope.names.lookup y.1 = some .cell∧((cellsFrom (s.heap.objs.size + 1) scope.names []).lookup y.1).isSome = true):=fun ⟨n,v⟩ hy=>by
  rcases S.par n (List.of_mem_zip hy).1 with q | q
  ·exact .inl q
  ·exact .inr ⟨q,PySem.W.cellsFrom_some _ _ _ (.inl q)⟩
 refine codeAny_call_function hr.depth (KX _ _ lk) rfl S.co S.gen rfl (PySem.W.codeRec_of KX hcd) (hb _ _ _ _ ?_)
 refine wpAny_newFunctionEnv_cells S.kind hkind fun env he s1 x=>?_
 subst he
 refine ⟨lim.keeps x.toInCall.keep,codeAny_func ?_⟩
 obtain ⟨t,ht,hq⟩:=hbody A outer s H vs Q E (hr.deeper _) hsp
 have I:Inv (cxOf CX P w K mg base N qual scope f cdv A outer s H E) [] (start N vs) H s1:=joj S hr.hd e0 hl r x
 refine wpAny_mono (ht [] s1 (start N vs) H _ I hq) (fun fl s' hs=>?_) fun e s' hs=>hs
 have fin:∀ {σ':St} {H':Hp} {v:V} {u:Value},Inv (cxOf CX P w K mg base N qual scope f cdv A outer s H E) [] σ' H' s'→RelV v u→Q v H'→CE outer P w H s Q u s' :=
  fun {σ' H' v u} J rv q=>⟨v,H',J.os,J.bare,J.base,J.hok,rv,q⟩
 cases fl with
 | ret u =>
  obtain ⟨v,σ',H',J,rv,q⟩:=hs
  exact fin J rv q
 | next =>
  obtain ⟨σ',H',J,q⟩:=hs
  exact fin (v:=V.non) (u:=Value.none) J rfl q
 | brk =>
  obtain ⟨_,_,_,q⟩:=hs
  exact False.elim q
 | cont =>
  obtain ⟨_,_,_,q⟩:=hs
  exact False.elim q
end L2
namespace L2
open PySem PySem.Spec PyProof.Rows
section
variable {X:Cx} {x:Str} {p pos:Pos} {e:Expr} {es:List Expr} {t:TA} {id T:String} {r:List V→Hp→VK→Prop}
def tCB (r:List V→Hp→VK→Prop) (t:TA):TE:=fun σ H Q=>t σ H fun vs H1=>r vs H1 Q
theorem jab (hc:jc7 X (.builtin id) r) (hg:Gl X x) (hm:X.mg x = none) (hv:bootBuiltins x = some (.builtin id)) (ha:PA X (e :: es) t) (hn:x ≠ "__name__":=by decide) (hdb:(x == ("__debug__":Str)) = false:=by decide)
  (he:starEach (e :: es) X.env = (false,eval e X.env) :: starEach es X.env:=by rfl) (hpl:(backTo pos (starEach es X.env)).any (·.1) = false:=by rfl):PE X (.Call (.Name x p) (e :: es) [] pos) (tCB r t):=by
 intro pins s σ H Q I h
 refine wpAny_Call_Name_kw (jej I hg hm hv ?_ hn hdb)
 exact PyProof.Rows.callWith_builtin1 (thn (ha pos pins s σ H _ I h) fun us s1 ⟨vs,H1,I1,r1,q1⟩=>hc pins s1 σ H1 vs us Q I1 r1 q1) he hpl
theorem jbe (hc:jc7 X (.type T) r) (hg:Gl X x) (hm:X.mg x = none) (hv:bootBuiltins x = some (.type T)) (ha:PA X (e :: es) t) (hn:x ≠ "__name__":=by decide) (hdb:(x == ("__debug__":Str)) = false:=by decide)
  (he:starEach (e :: es) X.env = (false,eval e X.env) :: starEach es X.env:=by rfl) (hpl:(backTo pos (starEach es X.env)).any (·.1) = false:=by rfl):PE X (.Call (.Name x p) (e :: es) [] pos) (tCB r t):=by
 intro pins s σ H Q I h
 refine wpAny_Call_Name_kw (jej I hg hm hv ?_ hn hdb)
 exact PyProof.Rows.callWith_type1 (thn (ha pos pins s σ H _ I h) fun us s1 ⟨vs,H1,I1,r1,q1⟩=>hc pins s1 σ H1 vs us Q I1 r1 q1) he hpl
end
end L2
namespace HT
open PySem PyProof.Rows
def lexLt:List Int→List Int→Bool
 | [],[]=>false
 | [],_ :: _=>true
 | _ :: _,[]=>false
 | x :: xs,y :: ys=>if x = y then lexLt xs ys else decide (x < y)
theorem lexLt_cons (x y:Int) (xs ys:List Int):lexLt (x :: xs) (y :: ys) = if x = y then lexLt xs ys else decide (x < y):=rfl
theorem lexLt_nil_nil:lexLt [] [] = false:=rfl
theorem lexLt_nil_cons (y:Int) (ys:List Int):lexLt [] (y :: ys) = true:=rfl
theorem lexLt_cons_nil (x:Int) (xs:List Int):lexLt (x :: xs) [] = false:=rfl
theorem eqAt_int (A:Around) (s:Shared) (a:Int) (t:Tok) (c:Int) (u:Tok):∃ e,SeqAt.EqAt A s (.int a t) (.int c u) e∧(e = true ↔ a = c) :=
 ⟨(a == c),SeqAt.EqAt.int_int a t c u,by simp⟩
theorem rcLt_int (A:Around) (s:Shared) (a:Int) (t:Tok) (c:Int) (u:Tok) (prog:Program) (w:World) (E:Value→Shared→Prop) (Q:Value→Shared→Prop) (h:Q (.bool (decide (a < c))) s) :
  wpAny (model prog w) A (richCompare .Lt (.int a t) (.int c u)) Q E s :=
 (PyProof.Rows.lt_int h:wpAny (model prog w) A (compareOp .Lt (.int a t) (.int c u)) Q E s)
section
open PySem.SeqAt
open PySem.AutoSeq1 (wpAny_loadPart')
open PySem.MeetsSeq PySem.MeetsSeq2 PySem.MeetsSeq3
theorem jgk (l b:Addr) (items items2:Array Value) (n n2:Nat) (dd dd2:Option Addr) (sl sl2:Array (Option Value)) (ns ms:List Int) (hi:IntsAre items.toList ns) (hj:IntsAre items2.toList ms) :
  Meets (Builtin.«tuple.__lt__» ⟨[.ref l,.ref b],[]⟩)
   (fun _ R s=>s.heap.get? l = some { cls:=.type "tuple",dict:=dd,data:=.seq items n,slots:=sl }∧s.heap.get? b = some { cls:=.type "tuple",dict:=dd2,data:=.seq items2 n2,slots:=sl2 } ∧
    R (.ok (.ret (.bool (lexLt ns ms)))) s) :=
 .of_wp fun prog w A R s h=>by
  obtain ⟨hp,g,d,tk,os⟩:=s; obtain ⟨hl,hb,h⟩:=h
  have f2:=AutoSeq1.sub_tuple_tuple
  have z1:items.size = ns.length:=by rw [← hi.length]; simp
  have z2:items2.size = ms.length:=by rw [← hj.length]; simp
  wp_walk using wpAny_loadPart' hl,wpAny_loadPart' hb,wpAny_forIn_list _ (fun rest b s'=>b.1 = none∧s' = ⟨hp,g,d,tk,os⟩∧∃ (vs ws:List Value) (ns' ms':List Int),rest = vs.zip ws ∧
   IntsAre vs ns'∧IntsAre ws ms'∧ns'.length + items2.size = ms'.length + items.size∧R (.ok (.ret (.bool (lexLt ns' ms')))) ⟨hp,g,d,tk,os⟩) _
  case turn =>
   rintro ⟨y,x⟩ rest b s' ⟨hb',rfl,vs,ws,ns',ms',hz,hvi,hwi,hlen,hR⟩
   cases hvi with
   | nil=>rw [List.zip_nil_left] at hz; cases hz
   | cons a t hvi' =>
    cases hwi with
    | nil=>rw [List.zip_nil_right] at hz; cases hz
    | cons c u hwi' =>
     rw [List.zip_cons_cons] at hz
     injection hz with hyx hrest
     injection hyx with hy hx
     subst hy hx
     rw [lexLt_cons] at hR
     simp only [List.length_cons] at hlen
     obtain ⟨e,he,hiff⟩:=eqAt_int A.in1 ⟨hp,g,d,tk,os⟩ a t c u
     refine wpAny_bind (he prog w _ _ ?_)
     cases e with
     | true =>
      rw [if_pos (hiff.mp rfl)] at hR
      wp_walk
      exact ⟨rfl,rfl,_,_,_,_,hrest,hvi',hwi',by omega,hR⟩
     | false =>
      rw [if_neg (fun q=>absurd (hiff.mpr q) Bool.false_ne_true)] at hR
      have hri:=rcLt_int A.in1 ⟨hp,g,d,tk,os⟩ a t c u prog w
      wp_walk using hri
      exact ⟨_,rfl,by simpa using hR⟩
  case fin =>
   rintro ⟨b1,b2⟩ s' ⟨hb',rfl,vs,ws,ns',ms',hz,hvi,hwi,hlen,hR⟩
   simp only at hb'
   subst hb'
   have hv:lexLt ns' ms' = decide (items.size < items2.size):=by
    cases hvi with
    | nil =>
     cases hwi with
     | nil =>
      simp only [List.length_nil] at hlen
      rw [lexLt_nil_nil]
      exact (decide_eq_false (by omega)).symm
     | cons c u hw =>
      simp only [List.length_nil,List.length_cons] at hlen
      rw [lexLt_nil_cons]
      exact (decide_eq_true (by omega)).symm
    | cons a t hv =>
     cases hwi with
     | nil =>
      simp only [List.length_nil,List.length_cons] at hlen
      rw [lexLt_cons_nil]
      exact (decide_eq_false (by omega)).symm
     | cons c u hw =>
      rw [List.zip_cons_cons] at hz
      cases hz
   rw [hv] at hR
   wp_walk
   exact ⟨_,rfl,by simpa [Builtin.Tuple.tupleCompareSizes] using hR⟩
  case h =>
   exact ⟨rfl,rfl,items.toList,items2.toList,ns,ms,rfl,hi,hj,by omega,h⟩
end
section
variable {prog:Program} {w:World} {A:Around} {E:Value→Shared→Prop} {s:Shared}
theorem lt_tupInts {l b:Addr} {items items2:Array Value} {ns ms:List Int} {Q:Value→Shared→Prop} (hl:IsTup s.heap l items) (hb:IsTup s.heap b items2) (hi:IntsAre items.toList ns) (hj:IntsAre items2.toList ms)
  (hu:A.units < cLine) (h:Q (.bool (lexLt ns ms)) s):wpAny (model prog w) A (compareOp .Lt (.ref l) (.ref b)) Q E s:=by
 obtain ⟨⟨cls,dd,data,sl⟩,ho,hc,n,hd⟩:=id hl
 obtain ⟨⟨cls2,dd2,data2,sl2⟩,ho2,hc2,n2,hd2⟩:=id hb
 simp only at hc hd hc2 hd2
 subst hc hd hc2 hd2
 exact richCompare_meets_room (op:=.Lt) ⟨_,ho,rfl⟩ ⟨_,ho2,rfl⟩ PySem.F.slot_tuple_lt PySem.F.entry_tuple_lt (PySem.F.args_tuple_lt_2 _ _) (jgk l b items items2 n n2 dd dd2 sl sl2 ns ms hi hj)
  ⟨ho,ho2,show Value.bool (lexLt ns ms) ≠ Value.notImplemented∧Q (.bool (lexLt ns ms)) s from ⟨(fun x=>nomatch x),h⟩⟩ hu
theorem cat_tup {t b:Addr} {vs ws:List Value} {Q:Value→Shared→Prop} (ht:IsTup s.heap t vs.toArray) (hb:IsTup s.heap b ws.toArray) (hv:vs ≠ [])
  (h1:ws = []→Q (.ref t) s) (h2:ws ≠ []→Q (.ref s.heap.objs.size) { s with heap:=s.heap.push { cls:=.type "tuple",data:=.seq (vs ++ ws).toArray } })
  (hsz:vs.length + ws.length ≤ sizeLine):wpAny (model prog w) A (binaryOp .Add (.ref t) (.ref b)) Q E s:=by
 obtain ⟨⟨cls,dd,data,sl⟩,ho,hc,n,hd⟩:=id ht
 obtain ⟨⟨cls2,dd2,data2,sl2⟩,ho2,hc2,n2,hd2⟩:=id hb
 simp only at hc hd hc2 hd2
 subst hc hd hc2 hd2
 have e:vs.toArray ++ ws.toArray = (vs ++ ws).toArray:=by simp
 by_cases hw:ws = []
 ·exact concat_meets ⟨_,ho,rfl⟩ ⟨_,ho2,rfl⟩ noFill_tuple_add seq_tuple_add PySem.F.slot_tuple_add PySem.F.entry_tuple_add (PySem.F.args_tuple_add_2 _ _)
   (tuple_addW1 t b vs.toArray ws.toArray n n2 dd dd2 sl sl2 (by simpa using hv) (by simp [hw])) ⟨ho,ho2,h1 hw⟩
 ·refine concat_meets ⟨_,ho,rfl⟩ ⟨_,ho2,rfl⟩ noFill_tuple_add seq_tuple_add PySem.F.slot_tuple_add PySem.F.entry_tuple_add (PySem.F.args_tuple_add_2 _ _)
   (tuple_addW2 t b vs.toArray ws.toArray n n2 dd dd2 sl sl2 (by simpa using hv) (by simpa using hw) (by rw [List.size_toArray,List.size_toArray]; exact hsz)) ⟨ho,ho2,?_⟩
  rw [e]
  exact h2 hw
def sIx (n d:Nat):Option Int→Nat
 | none=>d
 | some v=>if v < 0 then (v + (n:Int)).toNat else min v.toNat n
theorem sIx_le (n d:Nat) (hd:d ≤ n) (o:Option Int):sIx n d o ≤ n:=by
 cases o with
 | none=>exact hd
 | some v =>
  show (if v < 0 then (v + (n:Int)).toNat else min v.toNat n) ≤ n
  by_cases hv:v < 0
  ·rw [if_pos hv]; omega
  ·rw [if_neg hv]; exact Nat.min_le_right _ _
theorem jp2 (v:Int) (n d:Nat):(if v < 0 then max (v + (n:Int)) 0 else min v (n:Int)) = ((sIx n d (some v):Nat):Int):=by
 show (if v < 0 then max (v + (n:Int)) 0 else min v (n:Int)) = (((if v < 0 then (v + (n:Int)).toNat else min v.toNat n):Nat):Int)
 by_cases hv:v < 0
 ·simp only [if_pos hv]; omega
 ·simp only [if_neg hv]; omega
theorem jm3 (lo hi:Option Int) (n:Nat):Builtin.Slice.sliceAdjust lo hi 1 (n:Int) = (((sIx n 0 lo:Nat):Int),((sIx n n hi:Nat):Int)):=by
 have h1:¬ ((1:Int) < 0):=by omega
 unfold Builtin.Slice.sliceAdjust
 simp only [h1,if_false]
 refine Prod.ext ?_ ?_
 ·cases lo with
  | none=>rfl
  | some v=>exact jp2 v n 0
 ·cases hi with
  | none=>rfl
  | some v=>exact jp2 v n n
theorem jll (i j:Nat):Builtin.Slice.slicePlaces (i:Int) (j:Int) 1 = j - i:=by
 unfold Builtin.Slice.slicePlaces
 have h1:(1:Int) > 0:=by omega
 simp only [h1,if_true,Int.ediv_one]
 split <;> omega
theorem jg5 {v:Value} {o:Option Int} {Q:Option Int→Shared→Prop} (p:IsPart v o) (h:Q o s):wpAny (model prog w) A (Builtin.Slice.slicePartIndex v) Q E s:=by
 cases p with
 | none=>exact slicePart_none h
 | int i t=>exact slicePart_int h
theorem jel {sl:Addr} {vl vu:Value} {lo hi:Option Int} {n:Nat} {Q:Int × Int × Nat→Shared→Prop} (hs:s.heap.IsSliceOf sl vl vu .none) (pl:IsPart vl lo) (pu:IsPart vu hi)
  (h:Q (((sIx n 0 lo:Nat):Int),1,sIx n n hi - sIx n 0 lo) s):wpAny (model prog w) A (Builtin.Slice.sliceApplied (.ref sl) (pure (n:Int))) Q E s:=by
 obtain ⟨os,hos,hcs,hds⟩:=id hs
 unfold Builtin.Slice.sliceApplied Builtin.Slice.sliceFields
 refine wpAny_bind (wpAny_bind (wpAny_field hos hds (x:=vl) rfl (wpAny_bind (wpAny_field hos hds (x:=vu) rfl (wpAny_bind (wpAny_field hos hds (x:=.none) rfl (wpAny_pure ?_)))))))
 refine wpAny_bind (slicePart_none ?_)
 show wpAny _ _ (if ((1:Int) == 0) = true then _ else _) _ _ s
 rw [if_neg (by decide)]
 refine wpAny_bind (jg5 pl (wpAny_bind (jg5 pu (wpAny_bind (wpAny_pure ?_)))))
 show wpAny _ _ (match Builtin.Slice.sliceAdjust lo hi 1 (n:Int) with | (lo,hi)=>pure (lo,(1:Int),Builtin.Slice.slicePlaces lo hi 1)) _ _ s
 rw [jm3 lo hi n]
 show wpAny _ _ (pure (((sIx n 0 lo:Nat):Int),(1:Int),Builtin.Slice.slicePlaces ((sIx n 0 lo:Nat):Int) ((sIx n n hi:Nat):Int) 1)) _ _ s
 rw [jll]
 exact wpAny_pure h
theorem jps (xs:Array Value) (i k:Nat):((List.range k).filterMap fun (m:Nat)=>xs[((i:Int) + (m:Int) * 1).toNat]?).toArray = ((xs.toList.drop i).take k).toArray:=by
 have e:(fun (m:Nat)=>xs[((i:Int) + (m:Int) * 1).toNat]?) = fun m=>xs[i + m]?:=by
  funext m
  have:((i:Int) + (m:Int) * 1).toNat = i + m:=by omega
  rw [this]
 rw [e]
 have:=pick_run xs i k
 rw [List.filterMap_map] at this
 have e2:((fun x=>xs[x]?) ∘ fun x=>i + x) = fun m=>xs[i + m]?:=rfl
 rw [e2] at this
 rw [this]
theorem getItem_tuple_cut {t sl:Addr} {items:Array Value} {vl vu:Value} {lo hi:Option Int} {Q:Value→Shared→Prop} (ht:IsTup s.heap t items) (hs:s.heap.IsSliceOf sl vl vu .none) (pl:IsPart vl lo) (pu:IsPart vu hi)
  (hw:¬ (sIx items.size 0 lo = 0∧sIx items.size items.size hi = items.size))
  (h:Q (.ref s.heap.objs.size) { s with heap:=s.heap.push { cls:=.type "tuple",data:=.seq ((items.toList.drop (sIx items.size 0 lo)).take (sIx items.size items.size hi - sIx items.size 0 lo)).toArray } })
  (hsz:items.size ≤ sizeLine):wpAny (model prog w) A (getItem (.ref t) (.ref sl)) Q E s:=by
 have htake:sizeOk (.seq ((items.toList.drop (sIx items.size 0 lo)).take (sIx items.size items.size hi - sIx items.size 0 lo)).toArray):=by
  show ((items.toList.drop (sIx items.size 0 lo)).take (sIx items.size items.size hi - sIx items.size 0 lo)).toArray.size ≤ sizeLine
  rw [List.size_toArray,List.length_take,List.length_drop,Array.length_toList]
  omega
 have hj:sIx items.size items.size hi ≤ items.size:=sIx_le _ _ (Nat.le_refl _) hi
 obtain ⟨os,hos,hcs,hds⟩:=id hs
 have hTs:s.TypeIs (.ref sl) "slice":=⟨os,hos,hcs⟩
 unfold getItem
 try with_reducible refine wpAny_holding ?_
 first | refine wpAny_bind (wpAny_pure ?_) | skip
 refine wpAny_bind (wpAny_sequenceKey ht.typeIs (by decide) ?_)
 refine wpAny_bind (wpAny_callSpecial?_slot (name:=Str.ofString "__getitem__") ht.typeIs PyProof.Rows.slot_tuple_getitem
  (wpAny_call_entry PyProof.Rows.slot_tuple_getitem ht.typeIs entry_tuple_getitem ?_ (args_tuple_getitem _ _)))
 show wpAny _ _ (Builtin.Tuple.tupleItemsOf (.ref t) >>= _) _ _ s
 refine wpAny_bind (tupleItemsOf_ ht ?_)
 refine wpAny_bind (wpAny_typeOf hTs ?_)
 rw [if_pos (by decide)]
 refine wpAny_bind (jel hs pl pu ?_)
 have hno:¬ ((((sIx items.size 0 lo:Nat):Int) == 0 && (1:Int) == 1 && (sIx items.size items.size hi - sIx items.size 0 lo) == items.size) = true):=by
  intro q
  rw [Bool.and_eq_true,Bool.and_eq_true] at q
  have q1:((sIx items.size 0 lo:Nat):Int) = 0:=eq_of_beq q.1.1
  have q2:sIx items.size items.size hi - sIx items.size 0 lo = items.size:=eq_of_beq q.2
  exact hw ⟨by omega,by omega⟩
 show wpAny _ _ (if (((sIx items.size 0 lo:Nat):Int) == 0 && (1:Int) == 1 && (sIx items.size items.size hi - sIx items.size 0 lo) == items.size) = true then _ else _) _ _ s
 rw [if_neg hno,jps]
 first
  | exact wpAny_bind (m:=Builtin.Tuple.tupleExact _) (wpAny_newObj_type (wpAny_pure ⟨_,rfl,wpAny_pure h⟩) htake)
  | exact wpAny_bind (m:=Builtin.Tuple.tupleExact _) (wpAny_newObj_type (wpAny_bind (wpAny_pure (wpAny_pure ⟨_,rfl,wpAny_pure h⟩))) htake)
  | exact wpAny_bind (wpAny_bind (m:=Builtin.Tuple.tupleExact _) (wpAny_newObj_type (wpAny_pure (wpAny_pure ⟨_,rfl,wpAny_pure h⟩)) htake))
  | exact wpAny_bind (wpAny_bind (m:=Builtin.Tuple.tupleExact _) (wpAny_newObj_type (wpAny_pure ⟨_,rfl,wpAny_pure h⟩) htake))
end
end HT
namespace L2
open PySem PySem.Spec PyProof.Rows
abbrev TO:=St→Hp→(Option Int→Hp→Prop)→Prop
def PO (X:Cx) (e:Option Expr) (t:TO):Prop :=
 ∀ (pins:List (Addr × Obj)) (s:Shared) (σ:St) (H:Hp) (Q:Option Int→Hp→Prop),Inv X pins σ H s→t σ H Q →
  wpAny (model X.prog X.w) X.A (evalPart e X.env) (fun u s'=>∃ o H',Inv X pins σ H' s'∧IsPart u o∧Q o H') X.xe s
def jj0:TO:=fun _ H Q=>Q none H
theorem jc0 {ns:List Int}:∀ {us:List Value},Vals (ns.map V.int) us→IntsAre us ns:=by
 induction ns with
 | nil=>intro us r; rw [List.map_nil] at r; cases r; exact .nil
 | cons n ns ih =>
  intro us r
  rw [List.map_cons] at r
  cases r with
  | cons r1 r2 =>
   obtain ⟨t,e⟩:=r1
   subst e
   exact .cons n t (ih r2)
section
variable {X:Cx} {e:Expr} {te:TE} {lo hi:Option Expr} {tl th:TO} {pos p2:Pos}
theorem jni:PO X none jj0:=by
 intro pins s σ H Q I h
 rw [evalPart_none]
 exact wpAny_pure ⟨none,H,I,.none,h⟩
def SlR (X:Cx) (r:V→Option Int→Option Int→Hp→VK→Prop):Prop :=
 ∀ (pins:List (Addr × Obj)) (s:Shared) (σ:St) (H:Hp) (x:V) (v vl vu:Value) (lo hi:Option Int) (sl:Addr) (Q:VK),Inv X pins σ H s→RelV x v→s.heap.IsSliceOf sl vl vu .none→IsPart vl lo→IsPart vu hi→r x lo hi H Q →
  ∃ T id,typeLookup (.type T) "__getitem__" = pure (some (.builtin id))∧s.TypeIs v T∧wpAny (model X.prog X.w) X.A (getItem v (.ref sl)) (EP X pins σ Q) X.xe s
def tSl (r:V→Option Int→Option Int→Hp→VK→Prop) (te:TE) (tl th:TO):TE:=fun σ H Q=>te σ H fun x H1=>tl σ H1 fun l H2=>th σ H2 fun u H3=>r x l u H3 Q
theorem jko {r:V→Option Int→Option Int→Hp→VK→Prop} (hr:SlR X r) (he:PE X e te) (hl:PO X lo tl) (hu:PO X hi th):PE X (.Subscript e (.Slice lo hi none p2) pos) (tSl r te tl th):=by
 intro pins s σ H Q I h
 refine Subscript_ (thn (he pins s σ H _ I h) fun v s1 ⟨x,H1,I1,r1,q1⟩=>?_)
 refine wpAny_Slice (thn (hl pins s1 σ H1 _ I1 q1) fun vl s2 ⟨l,H2,I2,pl,q2⟩=>thn (hu pins s2 σ H2 _ I2 q2) fun vu s3 ⟨u,H3,I3,pu,q3⟩=>?_)
 rw [evalPart_none]
 refine wpAny_pure ?_
 have I4:Inv X pins σ H3 { s3 with heap:=s3.heap.push { cls:=.type "slice",data:=.fields #[vl,vu,.none] } }:=I3.kept (t':=s3.toks) fun b ob q=>Heap.get?_push_of_some _ q
 obtain ⟨T,id,hT,ht,hg⟩:=hr pins { s3 with heap:=s3.heap.push { cls:=.type "slice",data:=.fields #[vl,vu,.none] } } σ H3 x v vl vu l u s3.heap.objs.size Q I4 r1 (Heap.IsSliceOf.new ..) pl pu q3
 show wpAny (model X.prog X.w) X.A (subscriptTail e (.Slice lo hi none p2) v (.ref s3.heap.objs.size)) (EP X pins σ Q) X.xe { s3 with heap:=s3.heap.push { cls:=.type "slice",data:=.fields #[vl,vu,.none] } }
 exact tail_any (ops:=[.ref s3.heap.objs.size,v]) ht hT hg (by with_unfolding_all rfl)
def cutV (xs:List V) (lo hi:Option Int):List V:=(xs.drop (HT.sIx xs.length 0 lo)).take (HT.sIx xs.length xs.length hi - HT.sIx xs.length 0 lo)
theorem jfo (xs:List V) (lo hi:Option Int):(cutV xs lo hi).length ≤ xs.length:=by
 unfold cutV
 rw [List.length_take,List.length_drop]
 omega
def rSlT (K:PySem.W.Frag):V→Option Int→Option Int→Hp→VK→Prop:=fun x lo hi H Q=>∃ a xs,x = .ref a∧SqT K H a xs ∧
 ¬ (HT.sIx xs.length 0 lo = 0∧HT.sIx xs.length xs.length hi = xs.length)∧∀ p,H p = none→Q (.ref p) (upd H p (.tup (cutV xs lo hi)))
theorem sl_tup:SlR X (rSlT X.K):=by
 intro pins s σ H x v vl vu lo hi sl Q I rx hs pl pu h
 obtain ⟨a,xs,rfl,hx,hw,q⟩:=h
 cases rx
 obtain ⟨its,r,ht,hz⟩:=I.tuple hx
 have hlen:its.toArray.size = xs.length:=by rw [List.size_toArray]; exact r.length.symm
 refine ⟨"tuple",_,PyProof.Rows.slot_tuple_getitem.lookup,ht.typeIs,?_⟩
 refine HT.getItem_tuple_cut ht hs pl pu (by rw [hlen]; exact hw) ?_ (by rw [hlen]; exact hz)
 rw [hlen]
 refine ⟨.ref s.heap.objs.size,_,I.laid (t':=s.toks) (o:=.tup (cutV xs lo hi)) (fun b ob q=>Heap.get?_push_of_some _ q) (Nat.le_refl _) ?_,rfl,q _ (I.hok.fresh (Nat.le_refl _))⟩
 exact ⟨Nat.le_trans (jfo xs lo hi) hz,_,(r.drop (HT.sIx xs.length 0 lo)).take (HT.sIx xs.length xs.length hi - HT.sIx xs.length 0 lo),IsTup.new _ _⟩
def rLtT (K:PySem.W.Frag):R2:=fun x y H Q=>∃ a b ns ms,x = .ref a∧y = .ref b∧SqT K H a (ns.map V.int)∧SqT K H b (ms.map V.int)∧Q (.bl (HT.lexLt ns ms)) H
theorem op_ltT (hu:X.A.units < cLine):OpR X (compareOp .Lt) (rLtT X.K):=by
 intro pins s σ H x y v u Q I rx ry h
 obtain ⟨a,b,ns,ms,rfl,rfl,ha,hb,q⟩:=h
 cases rx
 cases ry
 obtain ⟨its,r1,p1,_⟩:=I.tuple ha
 obtain ⟨its2,r2,p2,_⟩:=I.tuple hb
 have i1:IntsAre its.toArray.toList ns:=jc0 r1
 have i2:IntsAre its2.toArray.toList ms:=jc0 r2
 exact HT.lt_tupInts p1 p2 i1 i2 hu ⟨.bl (HT.lexLt ns ms),H,I,rfl,q⟩
def rCatT (K:PySem.W.Frag):R2:=fun x y H Q=>∃ a b xs ys,x = .ref a∧y = .ref b∧SqT K H a xs∧SqT K H b ys∧xs ≠ []∧xs.length + ys.length ≤ sizeLine ∧
 (ys = []→Q (.ref a) H)∧(ys ≠ []→∀ p,H p = none→Q (.ref p) (upd H p (.tup (xs ++ ys))))
theorem Vals.nil_iff {xs:List V} {us:List Value} (r:Vals xs us):us = [] ↔ xs = []:=by
 cases r with
 | nil=>simp
 | cons _ _=>simp
theorem jsd:OpR X (binaryOp .Add) (rCatT X.K):=by
 intro pins s σ H x y v u Q I rx ry h
 obtain ⟨a,b,xs,ys,rfl,rfl,ha,hb,hx,hz,q1,q2⟩:=h
 cases rx
 cases ry
 obtain ⟨its,r1,p1,_⟩:=I.tuple ha
 obtain ⟨its2,r2,p2,_⟩:=I.tuple hb
 refine HT.cat_tup p1 p2 (fun z=>hx (r1.nil_iff.mp z)) (fun z=>⟨.ref a,H,I,rfl,q1 (r2.nil_iff.mp z)⟩) (fun z=>?_) (by rw [← r1.length,← r2.length]; exact hz)
 refine ⟨.ref s.heap.objs.size,_,I.laid (t':=s.toks) (o:=.tup (xs ++ ys)) (fun b ob q=>Heap.get?_push_of_some _ q) (Nat.le_refl _) ?_,rfl,q2 (fun w=>z (r2.nil_iff.mpr w)) _ (I.hok.fresh (Nat.le_refl _))⟩
 exact ⟨by rw [List.length_append]; exact hz,_,r1.append r2,IsTup.new _ _⟩
end
end L2
namespace L2
open PySem PySem.Spec PyProof.Rows
def ixN (n:Nat) (i:Int):Option Nat:=if 0 ≤ i then (if i < n then some i.toNat else none) else if -(n:Int) ≤ i then some (i + n).toNat else none
def atI {α:Type} (xs:List α) (i:Int):Option α:=(ixN xs.length i).bind fun j=>xs[j]?
theorem jog {n:Nat} {i:Int} {j:Nat} (h:ixN n i = some j):seqIndex? i n = some j∧j < n∧-(n:Int) ≤ i∧i < n:=by
 unfold ixN at h
 by_cases h0:0 ≤ i
 ·rw [if_pos h0] at h
  by_cases h1:i < n
  ·rw [if_pos h1] at h
   have e:i.toNat = j:=Option.some.inj h
   exact ⟨by rw [seqIndex_of h0 h1,e],by omega,by omega,h1⟩
  ·rw [if_neg h1] at h; cases h
 ·rw [if_neg h0] at h
  by_cases h1:-(n:Int) ≤ i
  ·rw [if_pos h1] at h
   have e:(i + n).toNat = j:=Option.some.inj h
   exact ⟨by rw [seqIndex_neg (by omega) h1,e],by omega,h1,by omega⟩
  ·rw [if_neg h1] at h; cases h
theorem jp6 {α:Type} {xs:List α} {i:Int} {v:α} (h:atI xs i = some v):∃ j,seqIndex? i xs.length = some j∧xs[j]? = some v∧j < xs.length∧-(xs.length:Int) ≤ i∧i < xs.length:=by
 unfold atI at h
 cases e:ixN xs.length i with
 | none=>rw [e] at h; cases h
 | some j =>
  rw [e] at h
  obtain ⟨h1,h2,h3,h4⟩:=jog e
  exact ⟨j,h1,h,h2,h3,h4⟩
theorem jc4 {α:Type} {xs:List α} {j:Nat} {v:α} (h:xs[j]? = some v):atI xs (j:Int) = some v:=by
 have hj:j < xs.length:=(List.getElem?_eq_some_iff.mp h).1
 have e:ixN xs.length (j:Int) = some j:=by
  unfold ixN
  rw [if_pos (by omega),if_pos (by omega)]; simp
 unfold atI; rw [e]; exact h
def jta (b:Expr):Prop:=∀ o i,subscripted b false o i = operate [o,i] (getItem o i)
def IxR (X:Cx) (r:R2):Prop :=
 ∀ (value slice:Expr) (pins:List (Addr × Obj)) (s:Shared) (σ:St) (H:Hp) (x y:V) (v u:Value) (Q:VK),Inv X pins σ H s→RelV x v→RelV y u→r x y H Q →
  subscripted slice false v u = operate [v,u] (getItem v u)→wpAny (model X.prog X.w) X.A (subscriptTail value slice v u) (EP X pins σ Q) X.xe s
def MtR (X:Cx) (id:String) (r:V→List V→Hp→VK→Prop):Prop :=
 ∀ (pins:List (Addr × Obj)) (s:Shared) (σ:St) (H:Hp) (x:V) (xs:List V) (v:Value) (us:List Value) (Q:VK),Inv X pins σ H s→RelV x v→Vals xs us→r x xs H Q →
  wpAny (model X.prog X.w) X.A (call (.builtin id) (v :: us)) (EP X pins σ Q) X.xe s
section
variable {X:Cx} {a b:Expr} {ta tb:TE} {pos:Pos}
theorem IxR.or {r r':R2} (h:IxR X r) (h':IxR X r'):IxR X (fun x y H Q=>r x y H Q ∨ r' x y H Q):=by
 intro value slice pins s σ H x y v u Q I rx ry q hs
 rcases q with q | q
 ·exact h value slice pins s σ H x y v u Q I rx ry q hs
 ·exact h' value slice pins s σ H x y v u Q I rx ry q hs
theorem jae {r:R2} (hr:IxR X r) (ha:PE X a ta) (hb:PE X b tb) (hs:jta b):PE X (.Subscript a b pos) (tOp r ta tb):=by
 intro pins s σ H Q I h
 exact Subscript_ (binT ha hb I h fun v u s2 x y H2 I2 rx ry q=>hr a b pins s2 σ H2 x y v u Q I2 rx ry q (hs _ _))
def rIxL (K:PySem.W.Frag):R2:=fun x y H Q=>∃ p xs i v,x = .ref p∧y = .int i∧SqL K H p xs∧atI xs i = some v∧Q v H
def rIxT (K:PySem.W.Frag):R2:=fun x y H Q=>∃ p xs i v,x = .ref p∧y = .int i∧SqT K H p xs∧atI xs i = some v∧Q v H
theorem jof:IxR X (rIxL X.K):=by
 intro value slice pins s σ H x y v u Q I rx ry h hs
 obtain ⟨p,xs,i,z,rfl,rfl,hq,he,q⟩:=h
 cases rx
 obtain ⟨t,rfl⟩:=ry
 obtain ⟨its,r,pl,hz⟩:=I.list hq
 obtain ⟨j,h1,h2,h3,h4,h5⟩:=jp6 he
 obtain ⟨w,ew,rw'⟩:=r.get h2
 have hl:=r.length
 have hn:=jkv
 have fin:EP X pins σ Q w s:=⟨z,H,I,rw',q⟩
 by_cases h0:0 ≤ i
 ·have hj:i.toNat = j:=by
   rw [seqIndex_of h0 h5] at h1
   exact Option.some.inj h1
  exact item_listR pl.isList h0 (by omega) (by rw [hj]; simpa using ew) fin hs
 ·have hj:(i + (its.toArray.size:Int)).toNat = j:=by
   rw [seqIndex_neg (by omega) h4] at h1
   rw [List.size_toArray,← hl]
   exact Option.some.inj h1
  exact subscriptTail_builtinR (x:=w) pl.isList.typeIs slot_list_getitem.lookup
   (wpAny_getItem_list_neg (Q:=fun r s'=>r = w∧EP X pins σ Q r s') pl.isList (by omega) (by rw [List.size_toArray] <;> omega) (by omega) (by rw [hj]; simpa using ew) ⟨rfl,fin⟩) hs
theorem jcm:IxR X (rIxT X.K):=by
 intro value slice pins s σ H x y v u Q I rx ry h hs
 obtain ⟨p,xs,i,z,rfl,rfl,hq,he,q⟩:=h
 cases rx
 obtain ⟨t,rfl⟩:=ry
 obtain ⟨its,r,pl,hz⟩:=I.tuple hq
 obtain ⟨j,h1,h2,h3,h4,h5⟩:=jp6 he
 obtain ⟨w,ew,rw'⟩:=r.get h2
 have hl:=r.length
 have hn:=jkv
 have fin:EP X pins σ Q w s:=⟨z,H,I,rw',q⟩
 exact subscriptTail_builtinR (x:=w) pl.typeIs slot_tuple_getitem.lookup
  (getItem_tuple (j:=j) (Q:=fun r s'=>r = w∧EP X pins σ Q r s') pl (by omega) (by omega) (by rw [List.size_toArray,← hl]; exact h1) (by simpa using ew) ⟨rfl,fin⟩) hs
theorem jlp (its:List Value) (n j:Nat) (u:Value):Obj.mapSeq (·.setIfInBounds j u) { cls:=.type "list",data:=.seq its.toArray n } = { cls:=.type "list",data:=.seq (its.set j u).toArray n }:=by
 simp [Obj.mapSeq]
theorem Inv.lst {pins:List (Addr × Obj)} {σ:St} {H:Hp} {s:Shared} {p:Addr} {xs:List V} (I:Inv X pins σ H s) (h:H p = some (.lst xs)) :
  ∃ (its:List Value) (n:Nat),Vals xs its∧s.heap.get? p = some { cls:=.type "list",data:=.seq its.toArray n }∧xs.length ≤ sizeLine:=by
 obtain ⟨z,its,n,r,e⟩:=I.hok p _ h
 exact ⟨its,n,r,e,z⟩
theorem Inv.lstUpd {pins:List (Addr × Obj)} {σ:St} {H:Hp} {s:Shared} {p:Addr} {xs ys:List V} {its its':List Value} {n n':Nat} {f:Obj→Obj} (I:Inv X pins σ H s) (h:H p = some (.lst xs))
  (ho:s.heap.get? p = some { cls:=.type "list",data:=.seq its.toArray n }) (hf:f { cls:=.type "list",data:=.seq its.toArray n } = { cls:=.type "list",data:=.seq its'.toArray n' }) (r:Vals ys its') (hz:ys.length ≤ sizeLine) (t:Nat) :
  Inv X pins σ (upd H p (.lst ys)) { s with heap:=s.heap.update p f,toks:=t }:=by
 have e:(s.heap.update p f).get? p = some { cls:=.type "list",data:=.seq its'.toArray n' }:=by
  rw [Heap.get?_update_self f ho (by rw [hf] <;> rfl),hf]
 refine I.write (x:=p) (e:=p) (by rw [h]; trivial) (.inl rfl) (fun b u hb q=>(Heap.get?_update_other _ _ (Ne.symm hb)).trans q) ⟨_,e⟩ ?_
 exact ⟨hz,its',n',r,e⟩
def rSetL:V→V→V→Hp→(Hp→Prop)→Prop:=fun o i v H Q=>∃ p xs k j,o = .ref p∧i = .int k∧H p = some (.lst xs)∧ixN xs.length k = some j∧Q (upd H p (.lst (xs.set j v)))
theorem jpo:PSet X rSetL:=by
 intro pins s σ H o i v ov iv u Q I ro ri rv h
 obtain ⟨p,xs,k,j,rfl,rfl,hp,hj,q⟩:=h
 cases ro
 obtain ⟨t,rfl⟩:=ri
 obtain ⟨its,n,r,ho,hz⟩:=I.lst hp
 obtain ⟨h1,h2,h3,h4⟩:=jog hj
 have hl:=r.length
 have hn:=jkv
 have I':Inv X pins σ (upd H p (.lst (xs.set j v))) { s with heap:=s.heap.update p (Obj.mapSeq (·.setIfInBounds j u)) } :=
  I.lstUpd hp ho (jlp its n j u) (r.set rv j) (by rw [List.length_set]; exact hz) s.toks
 by_cases h0:0 ≤ k
 ·have hk:k.toNat = j:=by
   rw [seqIndex_of h0 h4] at h1
   exact Option.some.inj h1
  exact PySem.W.ki_setAt ho h0 (by omega) (by rw [List.size_toArray,← hl]; exact h4) (by rw [hk]; exact ⟨_,I',q⟩)
 ·have hk:(k + (its.toArray.size:Int)).toNat = j:=by
   rw [seqIndex_neg (by omega) h3] at h1
   rw [List.size_toArray,← hl]
   exact Option.some.inj h1
  exact PySem.W.ki_setBack ho (by omega) (by rw [List.size_toArray,← hl]; exact h3) (by omega) (by rw [hk]; exact ⟨_,I',q⟩)
theorem jhv (lo hi:Option Int) (n:Nat):(sliceBounds lo hi none n).1 = ((HT.sIx n 0 lo:Nat):Int)∧(sliceBounds lo hi none n).2.1 = ((HT.sIx n n hi:Nat):Int)∧(sliceBounds lo hi none n).2.2 = 1:=by
 refine ⟨?_,?_,rfl⟩
 ·cases lo with
  | none=>simp [sliceBounds,HT.sIx]
  | some i =>
   simp only [sliceBounds,HT.sIx,Option.getD_none,show (1:Int) > 0 by decide,if_true]
   by_cases h:i < 0
   ·simp only [h,if_true] <;> omega
   ·simp only [h,if_false] <;> omega
 ·cases hi with
  | none=>simp [sliceBounds,HT.sIx]
  | some i =>
   simp only [sliceBounds,HT.sIx,Option.getD_none,show (1:Int) > 0 by decide,if_true]
   by_cases h:i < 0
   ·simp only [h,if_true] <;> omega
   ·simp only [h,if_false] <;> omega
theorem jgq (its:List Value) (lo hi:Option Int):slicePick its.toArray lo hi none = ((its.drop (HT.sIx its.length 0 lo)).take (HT.sIx its.length its.length hi - HT.sIx its.length 0 lo)).toArray:=by
 obtain ⟨h1,h2,h3⟩:=jhv lo hi its.toArray.size
 unfold slicePick
 rw [h1,h2,h3]
 simp only [sliceRange_one,pick_run,List.size_toArray] <;> rfl
def rSlL (K:PySem.W.Frag):V→Option Int→Option Int→Hp→VK→Prop:=fun x lo hi H Q=>∃ a xs,x = .ref a∧SqL K H a xs∧∀ p,H p = none→Q (.ref p) (upd H p (.lst (cutV xs lo hi)))
theorem js2:SlR X (rSlL X.K):=by
 intro pins s σ H x v vl vu lo hi sl Q I rx hs pl pu h
 obtain ⟨a,xs,rfl,hx,q⟩:=h
 cases rx
 obtain ⟨its,r,ht,hz⟩:=I.list hx
 have hlen:=r.length
 refine ⟨"list",_,slot_list_getitem.lookup,ht.isList.typeIs,?_⟩
 refine wpAny_getItem_list_slice ht.isList hs pl pu .none (by simp) ?_ (by rw [List.size_toArray] <;> omega)
 rw [jgq,← hlen]
 refine ⟨.ref s.heap.objs.size,_,I.laid (t':=s.toks) (o:=.lst (cutV xs lo hi)) (fun b ob q=>Heap.get?_push_of_some _ q) (Nat.le_refl _) ?_,rfl,q _ (I.hok.fresh (Nat.le_refl _))⟩
 exact ⟨Nat.le_trans (jfo xs lo hi) hz,_,0,(r.drop (HT.sIx xs.length 0 lo)).take (HT.sIx xs.length xs.length hi - HT.sIx xs.length 0 lo),Heap.get?_push_size _ rfl⟩
def jdu:V→Bool
 | .non=>true
 | .bl _=>true
 | .int _=>true
 | .str _=>true
 | _=>false
def eqV:V→V→Bool
 | .non,.non=>true
 | .bl a,.bl b=>a == b
 | .bl a,.int b=>(if a then 1 else 0) == b
 | .int a,.bl b=>a == (if b then 1 else 0)
 | .int a,.int b=>a == b
 | .str a,.str b=>a == b
 | _,_=>false
theorem eqAt_V {A:Around} {s:Shared} {y x:V} {u v:Value} (ry:RelV y u) (rx:RelV x v) (fy:jdu y = true) (fx:jdu x = true):SeqAt.EqAt A s u v (eqV y x):=by
 cases y with
 | non =>
  cases ry
  cases x with
  | non=>cases rx; exact SeqAt.EqAt.same _
  | bl b=>cases rx; exact SeqAt.EqAt.none_bool b
  | int b=>obtain ⟨t,rfl⟩:=rx; exact SeqAt.EqAt.none_int b t
  | str b=>obtain ⟨t,rfl⟩:=rx; exact SeqAt.EqAt.none_str b t
  | _=>exact absurd (show false = true from fx) Bool.false_ne_true
 | bl a =>
  cases ry
  cases x with
  | non=>cases rx; exact SeqAt.EqAt.bool_none a
  | bl b=>cases rx; exact SeqAt.EqAt.bool_bool a b
  | int b=>obtain ⟨t,rfl⟩:=rx; exact SeqAt.EqAt.bool_int a b t
  | str b=>obtain ⟨t,rfl⟩:=rx; exact SeqAt.EqAt.bool_str a b t
  | _=>exact absurd (show false = true from fx) Bool.false_ne_true
 | int a =>
  obtain ⟨t',rfl⟩:=ry
  cases x with
  | non=>cases rx; exact SeqAt.EqAt.int_none a t'
  | bl b=>cases rx; exact SeqAt.EqAt.int_bool a t' b
  | int b=>obtain ⟨t,rfl⟩:=rx; exact SeqAt.EqAt.int_int a t' b t
  | str b=>obtain ⟨t,rfl⟩:=rx; exact SeqAt.EqAt.int_str a t' b t
  | _=>exact absurd (show false = true from fx) Bool.false_ne_true
 | str a =>
  obtain ⟨t',rfl⟩:=ry
  cases x with
  | non=>cases rx; exact SeqAt.EqAt.str_none a t'
  | bl b=>cases rx; exact SeqAt.EqAt.str_bool a t' b
  | int b=>obtain ⟨t,rfl⟩:=rx; exact SeqAt.EqAt.str_int a t' b t
  | str b=>obtain ⟨t,rfl⟩:=rx; exact SeqAt.EqAt.str_str a t' b t
  | _=>exact absurd (show false = true from fx) Bool.false_ne_true
 | _=>exact absurd (show false = true from fy) Bool.false_ne_true
def eqU (x:V) (u:Value):Bool:=match u with
 | .none=>eqV .non x
 | .bool b=>eqV (.bl b) x
 | .int i _=>eqV (.int i) x
 | .str z _=>eqV (.str z) x
 | _=>false
theorem jrj {x y:V} {u:Value} (r:RelV y u) (f:jdu y = true):eqU x u = eqV y x:=by
 cases y with
 | non=>cases r; rfl
 | bl b=>cases r; rfl
 | int i=>obtain ⟨t,rfl⟩:=r; rfl
 | str z=>obtain ⟨t,rfl⟩:=r; rfl
 | _=>exact absurd (show false = true from f) Bool.false_ne_true
theorem jfq {x:V}:∀ {xs:List V} {us:List Value},Vals xs us→xs.all jdu = true→us.any (eqU x) = xs.any fun y=>eqV y x
 | _,_,.nil,_=>rfl
 | y :: xs,u :: us,.cons r t,f=>by
  rw [List.all_cons,Bool.and_eq_true] at f
  rw [List.any_cons,List.any_cons,jrj r f.1,jfq t f.2]
theorem je3 {A:Around} {s:Shared} {x:V} {v:Value} (rx:RelV x v) (fx:jdu x = true):∀ {xs:List V} {us:List Value},Vals xs us→xs.all jdu = true→∀ u ∈ us,SeqAt.EqAt A s u v (eqU x u)
 | _,_,.nil,_=>fun u hu=>by cases hu
 | y :: xs,u :: us,.cons r t,f=>fun u' hu=>by
  rw [List.all_cons,Bool.and_eq_true] at f
  rcases List.mem_cons.mp hu with rfl | hu
  ·rw [jrj r f.1]; exact eqAt_V r rx f.1 fx
  ·exact je3 rx fx t f.2 u' hu
def inV (x:V) (xs:List V):Bool:=xs.any fun y=>eqV y x
def rIn (K:PySem.W.Frag) (neg:Bool):R2:=fun x y H Q=>∃ p xs,y = .ref p∧(SqL K H p xs ∨ SqT K H p xs)∧jdu x = true∧xs.all jdu = true∧Q (.bl (if neg then !inV x xs else inV x xs)) H
theorem jnp:OpR X (compareOp .In) (rIn X.K false):=by
 intro pins s σ H x y v u Q I rx ry h
 obtain ⟨p,xs,rfl,hq,fx,fs,q⟩:=h
 cases ry
 rcases hq with hq | hq
 ·obtain ⟨its,r,pl,hz⟩:=I.list hq
  refine SeqAt.in_listAt (eqU x) pl.isList (fun w hw=>je3 rx fx r fs w (by simpa using hw)) ⟨.bl _,H,I,rfl,?_⟩
  rw [show its.toArray.any (eqU x) = its.any (eqU x) by simp,jfq r fs]
  exact q
 ·obtain ⟨its,r,pl,hz⟩:=I.tuple hq
  refine SeqAt.in_tupleAt (eqU x) pl (fun w hw=>je3 rx fx r fs w (by simpa using hw)) ⟨.bl _,H,I,rfl,?_⟩
  rw [show its.toArray.any (eqU x) = its.any (eqU x) by simp,jfq r fs]
  exact q
theorem ji3:OpR X (compareOp .NotIn) (rIn X.K true):=by
 intro pins s σ H x y v u Q I rx ry h
 obtain ⟨p,xs,rfl,hq,fx,fs,q⟩:=h
 cases ry
 rcases hq with hq | hq
 ·obtain ⟨its,r,pl,hz⟩:=I.list hq
  refine SeqAt.notIn_listAt (eqU x) pl.isList (fun w hw=>je3 rx fx r fs w (by simpa using hw)) ⟨.bl _,H,I,rfl,?_⟩
  rw [show its.toArray.any (eqU x) = its.any (eqU x) by simp,jfq r fs]
  exact q
 ·obtain ⟨its,r,pl,hz⟩:=I.tuple hq
  refine SeqAt.notIn_tupleAt (eqU x) pl (fun w hw=>je3 rx fx r fs w (by simpa using hw)) ⟨.bl _,H,I,rfl,?_⟩
  rw [show its.toArray.any (eqU x) = its.any (eqU x) by simp,jfq r fs]
  exact q
theorem jek:jc7 X (.builtin "len") (fun xs H Q=>∃ p ys,xs = [.ref p]∧(SqL X.K H p ys ∨ SqT X.K H p ys)∧Q (.int ys.length) H):=by
 intro pins s σ H xs us Q I r h
 obtain ⟨p,ys,rfl,hq,q⟩:=h
 obtain ⟨u,rfl,rx⟩:=jlc r
 cases rx
 have hn:=jkv
 rcases hq with hq | hq
 ·obtain ⟨its,r',pl,hz⟩:=I.list hq
  have hlen:=r'.length
  exact Calls.call_len_list pl.isList (by simp only [List.size_toArray] <;> omega) ⟨.int ys.length,H,I.tok _,⟨s.toks + 1,by rw [List.size_toArray,hlen]⟩,q⟩
 ·obtain ⟨its,r',pl,hz⟩:=I.tuple hq
  have hlen:=r'.length
  exact len_tuple pl (by simp only [List.size_toArray] <;> omega) ⟨.int ys.length,H,I.tok _,⟨s.toks + 1,by rw [List.size_toArray,hlen]⟩,q⟩
theorem jip:jc7 X (.type "list") (fun xs H Q=>∃ p ys,xs = [.ref p]∧(SqL X.K H p ys ∨ SqT X.K H p ys)∧∀ l,H l = none→Q (.ref l) (upd H l (.lst ys))):=by
 intro pins s σ H xs us Q I r h
 obtain ⟨p,ys,rfl,hq,q⟩:=h
 obtain ⟨u,rfl,rx⟩:=jlc r
 cases rx
 have fin:∀ (its:List Value),Vals ys its→ys.length ≤ sizeLine→∀ (h':Heap) (c':Nat),(∀ b o',s.heap.get? b = some o'→h'.get? b = some o') →
   h'.get? s.heap.objs.size = some { cls:=.type "list",dict:=none,data:=.seq its.toArray c',slots:=#[] }→EP X pins σ Q (.ref s.heap.objs.size) { s with heap:=h' }:=fun its r' hz h' c' kp e =>
  ⟨.ref s.heap.objs.size,_,I.laid (t':=s.toks) kp (Nat.le_refl _) (show jbb X.prog X.w _ h' _ (.lst ys) from ⟨hz,its,c',r',e⟩),rfl,q _ (I.hok.fresh (Nat.le_refl _))⟩
 rcases hq with hq | hq
 ·obtain ⟨its,r',pl,hz⟩:=I.list hq
  have hlen:=r'.length
  obtain ⟨o,ho,hc,n,hd⟩:=pl.isList
  exact call_list_seq p (.inl rfl) ho hc hd (fun h' c' kp e=>fin its r' hz h' c' kp e) (by simp only [List.size_toArray] <;> omega)
 ·obtain ⟨its,r',pl,hz⟩:=I.tuple hq
  have hlen:=r'.length
  obtain ⟨o,ho,hc,n,hd⟩:=pl
  exact call_list_seq p (.inr rfl) ho hc hd (fun h' c' kp e=>fin its r' hz h' c' kp e) (by simp only [List.size_toArray] <;> omega)
theorem jhj:jc7 X (.type "tuple") (fun xs H Q=>∃ p ys,xs = [.ref p]∧((SqL X.K H p ys∧∀ l,H l = none→Q (.ref l) (upd H l (.tup ys))) ∨ (SqT X.K H p ys∧Q (.ref p) H))):=by
 intro pins s σ H xs us Q I r h
 obtain ⟨p,ys,rfl,h⟩:=h
 obtain ⟨u,rfl,rx⟩:=jlc r
 cases rx
 rcases h with ⟨hq,q⟩ | ⟨hq,q⟩
 ·obtain ⟨its,r',pl,hz⟩:=I.list hq
  have hlen:=r'.length
  refine call_tuple_list pl.isList (fun h' kp=>?_) (by simp only [List.size_toArray] <;> omega)
  have I1:Inv X pins σ H { s with heap:=h' }:=I.kept (t':=s.toks) kp
  have I2:Inv X pins σ (upd H h'.objs.size (.tup ys)) { s with heap:=h'.push { cls:=.type "tuple",data:=.seq its.toArray } } :=
   I1.laid (t':=s.toks) (fun b o e=>Heap.get?_push_of_some _ e) (Nat.le_refl _) (show jbb X.prog X.w _ _ _ (.tup ys) from ⟨hz,its,r',IsTup.new _ _⟩)
  exact ⟨.ref h'.objs.size,_,I2,rfl,q _ (I1.hok.fresh (Nat.le_refl _))⟩
 ·obtain ⟨its,r',pl,hz⟩:=I.tuple hq
  exact call_tuple_same pl ⟨.ref p,H,I,rfl,q⟩
def tyV (K:PySem.W.Frag) (T:String) (x:V) (H:Hp):Prop:=match x with
 | .str _=>T = "str"
 | .int _=>T = "int"
 | .ref p=>(T = "list"∧∃ xs,SqL K H p xs) ∨ (T = "tuple"∧∃ o,K.lookup p = some o∧o.cls = .type "tuple"∧o.dict = none) ∨
   (T = "dict"∧((∃ kvs,H p = some (.dK kvs)) ∨ ∃ kvs,H p = some (.dT kvs))) ∨ (T = "set"∧∃ S n,H p = some (.set S n))
 | _=>False
theorem tyV_is {pins:List (Addr × Obj)} {σ:St} {H:Hp} {s:Shared} {T:String} {x:V} {v:Value} (I:Inv X pins σ H s) (r:RelV x v) (ty:tyV X.K T x H) :
  s.TypeIs v T∧∀ a,v = .ref a→∃ ob,s.heap.get? a = some ob∧ob.dict = none:=by
 cases x with
 | str z =>
  obtain ⟨t,rfl⟩:=r
  cases (show T = "str" from ty)
  exact ⟨typeIs_str s z t,fun _ e=>nomatch e⟩
 | int i =>
  obtain ⟨t,rfl⟩:=r
  cases (show T = "int" from ty)
  exact ⟨typeIs_int s i t,fun _ e=>nomatch e⟩
 | ref p =>
  cases r
  rcases ty with ⟨rfl,xs,hq⟩ | ⟨rfl,o,hk,hc,hd⟩ | ⟨rfl,hk⟩ | ⟨rfl,S,n,hk⟩
  ·obtain ⟨its,_,pl,_⟩:=I.list hq
   refine ⟨pl.isList.typeIs,fun a e=>?_⟩
   cases e
   obtain ⟨o,n,e,c,hd,_⟩:=pl
   exact ⟨o,e,hd⟩
  ·refine ⟨⟨o,I.kIn p o hk,hc⟩,fun a e=>?_⟩
   cases e
   exact ⟨o,I.kIn _ o hk,hd⟩
  ·have z:∃ o,s.heap.get? p = some o∧o.ExactDict:=by
    rcases hk with ⟨kvs,hk⟩ | ⟨kvs,hk⟩
    ·obtain ⟨_,_,_,_,o,_,_,e,ex,_⟩:=I.hok p _ hk
     exact ⟨o,e,ex⟩
    ·obtain ⟨_,_,_,_,o,_,_,e,ex,_⟩:=I.hok p _ hk
     exact ⟨o,e,ex⟩
   obtain ⟨o,e,ex⟩:=z
   refine ⟨⟨o,e,ex.1⟩,fun a e2=>?_⟩
   cases e2
   exact ⟨o,e,ex.2.1⟩
  ·obtain ⟨o,_,_,_,e,ex,_⟩:=I.hok p _ hk
   refine ⟨⟨o,e,ex.1⟩,fun a e2=>?_⟩
   cases e2
   exact ⟨o,e,ex.2.1⟩
 | _=>exact False.elim ty
variable {o e:Expr} {es:List Expr} {to:TE} {t:TA} {name:Str} {apos cpos:Pos} {T id:String} {r:V→List V→Hp→VK→Prop}
/- xs.append(e),list.index on a module's tuple .. are MtR facts of 06m -/
end
end L2
namespace L2
open PySem PySem.Spec PyProof.Rows
def MtM (X:Cx) (id:String) (r:V→List V→Hp→VK→Prop):Prop :=
 ∀ (pins:List (Addr × Obj)) (s:Shared) (σ:St) (H:Hp) (x:V) (xs:List V) (v:Value) (us:List Value) (Q:VK),Inv X pins σ H s→RelV x v→Vals xs us→r x xs H Q →
  wpAny (model X.prog X.w) X.A (call (.builtin id) (v :: us)) (EP X pins σ Q) X.xe s
theorem Vals.one:∀ {x:V} {us:List Value},Vals [x] us→∃ u,us = [u]∧RelV x u
 | _,_,.cons r .nil=>⟨_,rfl,r⟩
theorem Vals.two:∀ {x y:V} {us:List Value},Vals [x,y] us→∃ u v,us = [u,v]∧RelV x u∧RelV y v
 | _,_,_,.cons r (.cons q .nil)=>⟨_,_,rfl,r,q⟩
section
variable {X:Cx} {pins:List (Addr × Obj)} {σ:St} {H:Hp} {s:Shared} {l b:Addr} {xs ys zs:List V}
theorem Inv.lset {its its':List Value} {n:Nat} {f:Array Value→Array Value} {t':Nat} (I:Inv X pins σ H s) (hH:H l = some (.lst xs))
  (e:s.heap.get? l = some { cls:=.type "list",data:=.seq its.toArray n }) (hf:f its.toArray = its'.toArray) (hv:Vals ys its') (hz:ys.length ≤ sizeLine) :
  Inv X pins σ (upd H l (.lst ys)) { s with heap:=s.heap.update l (Obj.mapSeq f),toks:=t' }:=by
 have q:=PySem.IsL.update e f
 rw [hf] at q
 refine I.write (x:=l) (e:=l) (by rw [hH]; exact trivial) (.inl rfl) (fun b' u hb hu=>(Heap.get?_update_other s.heap (Obj.mapSeq f) (Ne.symm hb)).trans hu) ⟨_,q⟩ ?_
 exact ⟨hz,its',_,hv,q⟩
theorem Inv.lnew {its:List Value} {t':Nat} (I:Inv X pins σ H s) (hv:Vals ys its) (hz:ys.length ≤ sizeLine) :
  Inv X pins σ (upd H s.heap.objs.size (.lst ys)) { s with heap:=s.heap.push { cls:=.type "list",data:=.seq its.toArray },toks:=t' } :=
 I.laid (fun _ _ q=>Heap.get?_push_of_some _ q) (Nat.le_refl _) ⟨hz,its,0,hv,Heap.get?_push_size _ rfl⟩
theorem Inv.fresh (I:Inv X pins σ H s):H s.heap.objs.size = none:=I.hok.fresh (Nat.le_refl _)
theorem Inv.lstM (I:Inv X pins σ H s) (hH:H l = some (.lst xs)):xs.length ≤ sizeLine∧∃ (its:List Value) (n:Nat),Vals xs its∧xs.length = its.length∧s.heap.get? l = some { cls:=.type "list",data:=.seq its.toArray n }:=by
 obtain ⟨z,its,n,r,e⟩:=I.hok l _ hH
 exact ⟨z,its,n,r,r.length,e⟩
end
section
variable {X:Cx}
def jn8:V→List V→Hp→VK→Prop:=fun x vs H Q=>∃ l xs y,x = .ref l∧vs = [y]∧H l = some (.lst xs)∧xs.length < sizeLine∧Q .non (upd H l (.lst (xs ++ [y])))
theorem ji9:MtM X "list.append" jn8:=by
 intro pins s σ H x vs v us Q I rx rv h
 obtain ⟨l,xs,y,rfl,rfl,hH,hz,q⟩:=h
 cases rx
 obtain ⟨u,rfl,ru⟩:=rv.one
 obtain ⟨z,its,n,r,hl,e⟩:=I.lstM hH
 refine call_meets F.slot_list_append ⟨_,e,rfl⟩ F.entry_list_append (F.args_list_append_2 _ _) (PySem.list_append l its.toArray n u (by rw [List.size_toArray]; omega)) ⟨e,?_⟩
 refine ⟨.non,_,I.lset (its':=its ++ [u]) hH e (by simp) (r.append (.cons ru .nil)) ?_,rfl,q⟩
 rw [List.length_append,List.length_singleton]
 omega
def rCat:R2:=fun x y H Q=>∃ l b xs zs,x = .ref l∧y = .ref b∧H l = some (.lst xs)∧H b = some (.lst zs)∧xs.length + zs.length ≤ sizeLine∧∀ p,H p = none→Q (.ref p) (upd H p (.lst (xs ++ zs)))
theorem op_cat:OpR X (binaryOp .Add) rCat:=by
 intro pins s σ H x y v u Q I rx ry h
 obtain ⟨l,b,xs,zs,rfl,rfl,hH,hB,hz,q⟩:=h
 cases rx
 cases ry
 obtain ⟨z,its,n,r,hl,e⟩:=I.lstM hH
 obtain ⟨z2,its2,n2,r2,hl2,e2⟩:=I.lstM hB
 refine PySem.P.add_list e e2 ?_ (by rw [List.size_toArray,List.size_toArray]; omega)
 have ea:its.toArray ++ its2.toArray = (its ++ its2).toArray:=by simp
 rw [ea]
 exact ⟨.ref _,_,I.lnew (t':=s.toks) (r.append r2) (by rw [List.length_append]; omega),rfl,q _ I.fresh⟩
end
section
variable {prog:Program} {w:World} {A:Around} {E:Value→Shared→Prop} {s:Shared}
end
section
variable {X:Cx}
end
end L2
namespace Att
open PySem PySem.W PySem.Calls PyProof.Rows
theorem jfi {P:Params} {h:Heap}:∀ (ns:List Int) (vs:List Value),WellAll P h vs (ns.map WData.int)→IntsAre vs ns:=by
 intro ns
 induction ns with
 | nil =>
  intro vs w
  rw [List.map_nil] at w
  cases w
  exact .nil
 | cons n ns ih =>
  intro vs w
  rw [List.map_cons] at w
  cases w with
  | cons a b =>
   cases a
   exact .cons _ _ (ih _ b)
theorem jn1 {l:OpenLaw} {n:Nat} (hn:l.most = some n) {P:Params} {h:Heap} {args:List WData} {vals:List Value}
  (hpre:l.row.toRowW.claim.pre args = true) (hwl:WellAll P h vals args) :
  ∃ a vs ns,vals = [Value.ref a]∧args = [WData.list (ns.map WData.int)]∧h.get? a = some { cls:=.type "list",data:=.seq vs.toArray }∧IntsAre vs ns∧ns.length ≤ n:=by
 have hsh:WShape.hasAll [] args [.list .int] = true:=(pre_splitW hpre).1
 have hc:l.pre.holds [] { args:=args } = true:=(pre_splitW hpre).2
 obtain ⟨d,r,rfl,h1,h2⟩:=hasAllW_cons hsh
 obtain rfl:=hasAllW_nil h2
 obtain ⟨xs,rfl,h3⟩:=hasW_list h1
 obtain ⟨ns,rfl⟩:=items_int h3
 have hlen:ns.length ≤ n:=by
  unfold OpenLaw.pre at hc
  have h4:(WTm.not (.lt (.lit (.int (n:Int))) (.len (.arg 0)))).holds [] { args:=[.list (ns.map .int)] } = true:=by
   have h4:=(holds_andW hc).1
   rw [hn] at h4
   exact h4
  have h5:=condW_of h4 (w_not (w_lt w_lit (w_len_list (w_arg rfl))))
  rw [List.length_map] at h5
  refine Nat.le_of_not_lt fun q=>?_
  have q':(n:Int) < ((ns.length:Nat):Int):=by omega
  first
   | (rw [decide_eq_true q'] at h5; exact absurd h5 (by decide))
   | (simp at h5; omega)
 cases hwl with
 | cons w1 w2 =>
  cases w2
  cases w1 with
  | list ho hall=>exact ⟨_,_,ns,rfl,rfl,ho,jfi ns _ hall,hlen⟩
theorem jnh (l:OpenLaw) (args:List WData):l.row.toRowW.claim.post args (.bool true) args = true :=
 postW_of (r:=l.row.toRowW) (X:=(true == true))
  (show WShape.has [] (.bool true) .bool = true by first | rfl | decide | simp [WShape.has,WShape.arms,WShape.armsAll])
  (show (WTm.eq .res (.lit (.bool true))).value [] { args:=args,res:=some (.bool true),after:=args } = some (.bool (true == true)) from w_eq_bool (w_res rfl) w_lit) rfl
theorem attach_call {l:OpenLaw} {n:Nat} {q:Program} {loose:List Str} {XP:(Str→Option Value)→Heap→Prop} {YP:World→Heap→Prop} {d:DefRec}
  (hn:l.most = some n) (hdf:d.params.defaults = [])
  (call:∀ (w:World) (s₀ s₁:Shared) (mg mb:Str→Option Value) (fa:Addr) (o:Obj) (pm cd doc:Value) (a:Addr) (vs:List Value) (ns:List Int),
   Ground q loose [] XP w s₀ mg mb s₁.heap→YP w s₁.heap →
   s₁.heap.get? fa = some o→o.data = .func (docDef d.name d.params d.body d.scope pm cd doc)→s₁.heap.CodeRec cd d.name→mg d.name = some (.ref fa) →
   s₁.heap.get? a = some { cls:=.type "list",data:=.seq vs.toArray }→IntsAre vs ns→ns.length ≤ n→s₁.gens = #[] →
   codeAny (model l.prog w) callerA (.call (.ref fa) ⟨[.ref a],[]⟩) (fun r s'=>r = .ok (.ret (.bool true))∧OldK s₁.heap s'.heap∧s'.os = s₁.os∧AllBare s'.gens) s₁) :
  WalkO q loose XP YP l.row.toRowW d [] (fun f vs=>PySem.call f vs):=by
 intro w s₀ s₁ mg mb G Y fa o pm cd doc dV kV ho hd hcd hD hmg hg args vals as hpre hlay hrd hwl hlo
 obtain rfl:dV = .none:=Dflts.none hD hdf
 obtain rfl:kV = .none:=Dflts.noKw hD
 obtain ⟨a,vs,ns,rfl,rfl,hobj,hints,hlen⟩:=jn1 hn hpre hwl
 refine enter_call (codeAny_mono (call w s₀ s₁ mg mb fa o pm cd doc a vs ns G Y ho (fd_plain hd) hcd hmg hobj hints hlen hg) fun r s' hq=>?_)
 obtain ⟨rfl,h2,h3,h4⟩:=hq
 exact ⟨.inl ⟨.bool true,.bool true,[],rfl,fun _=>rfl,.bool true,jnh l _,fun _=>⟨List.Pairwise.nil,fun _ hm=>(nomatch hm)⟩⟩,h2,h3,h4⟩
section
variable {prog:Program} {w:World} {A:Around} {E:Value→Shared→Prop} {s:Shared} {K:Frag}
end
end Att
namespace L2
open PySem PySem.Spec PyProof.Rows
theorem jhq:∀ {vs:List Value} {ns:List Int},IntsAre vs ns→Vals (ns.map V.int) vs
 | _,_,.nil=>.nil
 | _,_,.cons n t h=>.cons ⟨t,rfl⟩ (jhq h)
def Only (H:Hp):Prop:=∀ b,H b = none ∨ ∃ o xs,H b = some (.frz o (.lst xs))
theorem jq7 {P:Program} {w:World} {K:PySem.W.Frag} {mg mb:Str→Option Value} {CX:CXT} {k:Nat} {fa a:Addr} {fd:FuncData} {x:Str} {sp:Sp} {s₁:Shared} {vs:List Value} {ns:List Int}
  (KX:K.In s₁.heap) (hns:s₁.heap.Ns mainGlobals mg) (hb:s₁.heap.Ns builtinsNs mb) (hbb:∀ x:Str,x ≠ "__name__"→mb x = bootBuiltins x) (hlim:s₁.heap.NoLimit) (hg:s₁.gens = #[])
  (ha:s₁.heap.get? a = some { cls:=.type "list",data:=.seq vs.toArray }) (hi:IntsAre vs ns) (hl:ns.length ≤ sizeLine) (hr:Room k callerA)
  (F:∀ base:Heap,K.In base→base.Ns mainGlobals mg→FnOk P w K mg base CX k fa fd [x] sp) (hbind:∀ (s:Shared) (u:Value),BindsTo s fd ⟨[u],[]⟩ [(x,u)])
  (hsp:∀ H:Hp,Only H→SqL K H a (ns.map V.int)→sp [.ref a] H (fun v _=>v = .bl true) fun _ _ _=>False)
  (hCX:∀ H e s',CX [] H s₁ (fun _ _ _=>False) e s'→False) :
  codeAny (model P w) callerA (.call (.ref fa) ⟨[.ref a],[]⟩) (fun r s'=>r = .ok (.ret (.bool true))∧OldK s₁.heap s'.heap∧s'.os = s₁.os∧AllBare s'.gens) s₁:=by
 have rv:=jhq hi
 have lenV:=hi.length
  -- from an abstract heap in which nothing but the script may be tracked
 have core:∀ H:Hp,Only H→SqL K H a (ns.map V.int)→HOk P w H s₁.heap→(∀ b,H b ≠ none→b = a)→(H a ≠ none→K.lookup a = none) →
   codeAny (model P w) callerA (.call (.ref fa) ⟨[.ref a],[]⟩) (fun r s'=>r = .ok (.ret (.bool true))∧OldK s₁.heap s'.heap∧s'.os = s₁.os∧AllBare s'.gens) s₁:=by
  intro H hO hS hok hA hK
  have base_of:∀ {b:Addr} {o:Obj},s₁.heap.get? b = some o→H b = none→(hidT s₁.heap H).get? b = some o:=fun e n=>jqc e n
  have noA:∀ {b:Addr} {o:Obj} {es:Array DictEntry} {ep:Nat},s₁.heap.get? b = some o→o.data = .dict es ep→H b = none:=fun {b o es ep} e d=>by
   cases q:H b with
   | none=>rfl
   | some u =>
    have e':b = a:=hA b (by rw [q]; simp)
    subst e'
    rw [ha] at e; cases e
    have d':Data.seq vs.toArray _ = Data.dict es ep:=d
    cases d'
  have nsK:∀ {b:Addr} {m:Str→Option Value},s₁.heap.Ns b m→(hidT s₁.heap H).Ns b m:=fun {b m} ⟨o,es,ep,e,d,r⟩=>⟨o,es,ep,base_of e (noA e d),d,r⟩
  have hKb:K.In (hidT s₁.heap H):=fun b o e=>base_of (KX b o e) (by
   cases q:H b with
   | none=>rfl
   | some u =>
    have e':b = a:=hA b (by rw [q]; simp)
    subst e'
    rw [hK (by rw [q]; simp)] at e; cases e)
  have hM:Mod K mg (hidT s₁.heap H):=⟨hKb,nsK hns,⟨mb,nsK hb,hbb⟩,let ⟨mc,h1,h2⟩:=hlim; ⟨mc,nsK h1,h2⟩⟩
  have e0:Env0 P w K mg (hidT s₁.heap H) callerA [] s₁ H:=⟨rfl,hM,fun b o e=>jsg e,Nat.le_of_eq (joo _ _),trivial,fun b hb=>absurd (show b ∈ ([]:List Addr) from hb) (by simp),hok,.of_eq hg⟩
  refine codeAny_mono ((F _ hKb (nsK hns)).run callerA [] s₁ H ⟨[.ref a],[]⟩ [.ref a] [.ref a] _ _ hr e0 (hbind s₁ (.ref a)) (.cons rfl .nil) (hsp H hO hS)) fun r s' h=>?_
  cases r with
  | error e=>exact (hCX H e s' h).elim
  | ok fl =>
   cases fl with
   | next=>exact False.elim h
   | brk=>exact False.elim h
   | cont=>exact False.elim h
   | ret u =>
    obtain ⟨v,H',os,bare,un,hok',r',q⟩:=h
    have q':v = .bl true:=q
    subst q'
    obtain rfl:u = Value.bool true:=r'
    refine ⟨rfl,OldK.of_keep fun b o e=>?_,os,bare⟩
    cases q:H b with
    | none=>exact un.keep b o e q (by intro z; exact absurd (show b ∈ ([]:List Addr) from z) (by simp)) (by simp)
    | some u =>
     rcases hO b with z | ⟨ob,xs,z⟩
     ·rw [q] at z; cases z
     ·have z2:=un.frzs b ob _ z
      obtain ⟨e1,_⟩:=hok b _ z
      obtain ⟨e2,_⟩:=hok' b _ z2
      rw [e] at e1; cases e1
      exact e2
 cases hk:K.lookup a with
 | some o =>
    -- the script is one of the module's own objects
  have e:=KX a o hk
  rw [ha] at e
  cases e
  refine core (fun _=>none) (fun _=>.inl rfl) (.inr ⟨_,vs.toArray,_,hk,rfl,rfl,rfl,by rw [List.size_toArray,lenV]; exact hl,by simpa using rv⟩) (fun b u z=>by have z':(none:Option HO) = some u:=z; cases z') (fun b z=>absurd rfl z) fun z=>absurd rfl z
 | none =>
  refine core (fun b=>if b = a then some (.frz { cls:=.type "list",data:=.seq vs.toArray } (.lst (ns.map V.int))) else none) (fun b=>?_) (.inl (.inr ⟨{ cls:=.type "list",data:=.seq vs.toArray },if_pos rfl⟩)) (fun b u z=>?_) (fun b z=>?_) fun _=>hk
  ·by_cases hb:b = a
   ·exact .inr ⟨_,_,if_pos hb⟩
   ·exact .inl (if_neg hb)
  ·by_cases hb:b = a
   ·have z':=(if_pos hb).symm.trans z
    cases z'
    subst hb
    exact ⟨ha,by rw [List.length_map]; exact hl,vs,_,rv,ha⟩
   ·have z':=(if_neg hb).symm.trans z
    cases z'
  ·by_cases hb:b = a
   ·exact hb
   ·exact absurd (if_neg hb) z
end L2
namespace L2
open PySem PySem.Spec PyProof.Rows
abbrev KOf {K:PySem.W.Frag} {h:Heap} (_:K.In h):PySem.W.Frag:=K
theorem jm6 {l:PySem.W.OpenLaw} {n k:Nat} {q:Program} {loose:List Str} {XP:(Str→Option Value)→Heap→Prop} {YP:World→Heap→Prop} {d:DefRec} {K:Params→PySem.W.Frag} {CX:World→CXT} {sp:World→Sp} {x:Str}
    (hn:l.most = some n) (hn2:n ≤ sizeLine) (hdf:d.params.defaults = []) (hr:Room k callerA)
    (hY:∀ (w:World) (h:Heap),YP w h→(K w.params).In h)
    (F:∀ (w:World) (mg:Str→Option Value) (fa:Addr) (h:Heap),(K w.params).In h→h.Ns mainGlobals mg→mg d.name = some (.ref fa) →
      ∃ fd:FuncData,(∀ (s:Shared) (u:Value),BindsTo s fd ⟨[u],[]⟩ [(x,u)]) ∧
        ∀ base:Heap,(K w.params).In base→base.Ns mainGlobals mg→FnOk l.prog w (K w.params) mg base (CX w) k fa fd [x] (sp w))
    (hsp:∀ (w:World) (H:Hp) (a:Addr) (ns:List Int),ns.length ≤ n→Only H→SqL (K w.params) H a (ns.map V.int)→sp w [.ref a] H (fun v _=>v = .bl true) fun _ _ _=>False)
    (hCX:∀ (w:World) (H:Hp) (s:Shared) (e:Value) (s':Shared),CX w [] H s (fun _ _ _=>False) e s'→False) :
    PySem.W.WalkO q loose XP YP l.row.toRowW d [] (fun f vs=>PySem.call f vs):=by
  refine Att.attach_call hn hdf fun w s₀ s₁ mg mb fa o pm cd doc a vs ns G Y ho hd hcd hmg hobj hints hlen hg=>?_
  have KX:=hY w _ Y
  obtain ⟨fd,hb,hF⟩:=F w mg fa _ KX G.T.g hmg
  exact jq7 KX G.T.g G.T.b G.T.builtins G.T.nolimit hg hobj hints (Nat.le_trans hlen hn2) hr hF hb (fun H hO hS=>hsp w H a ns hlen hO hS) fun H e s'=>hCX w H s₁ e s'
end L2
/- THE LAST THEOREM (shape; LID,My.* are yours):
   My.Adr: a structure of the addresses that your layer names (classes,functions); My.Txt K t: a structure (Prop) of the equations over K;
   My.txt_mk:{K} {implicit addresses ..} (e1:nsIn K mainGlobals "law" = some (some (.ref f))) (e2:K.lookup f = some ⟨oc,od,.func (fnOf "law" "law" params body scope dV kV doc pm an cdv ct),sl⟩) (e3:codeIn K cdv "law" = true) ..:∃ t,My.Txt K t
set_option maxRecDepth 100000 in
set_option maxHeartbeats 0 in
theorem PySem.Challenge.cw_LID_holds : PySem.Challenge.rw_LID.Holds := by
 w_on; o_law; k_head; (case hw=>w_witness2)
 k_fill
 refine L2.jm6 (l:=PySem.Challenge.rw_LID) (n:=63) (k:=40) (x:="script") (CX:=fun w=>..) (sp:=fun _=>My.sp_law) rfl (by decide) rfl ⟨rfl,by decide,by decide⟩ (fun w h Y=>PySem.W.kIn_of Y) ?F ?S ?C
 case F =>
  intro w mg fa h KX G hmg
  have T:∃ t,My.Txt (L2.KOf KX) t:=by
   dsimp only [L2.KOf]                          -- K must stand as «<heap const> w.params» for k_is
   refine' My.txt_mk ?e1 ?e2 ?e3 ..
   (case e1=>PySem.W.k_is)                    -- in the order: a name -> its address -> its object -> its parts
   (case e2=>PySem.W.k_is)
   ..
  obtain ⟨t,T⟩:=T
  have e0:=hmg.symm.trans (PySem.W.mg_of KX G T.law)
  cases e0                                       -- fa is the law's own address
  exact ⟨_,fun s u=>.of_eq rfl,fun base kb nb=>My.law_fn T kb nb⟩     -- if «.of_eq rfl» comes too early: refine' ⟨_,?b,fun base kb nb=>My.law_fn T kb nb⟩; exact fun s u=>.of_eq rfl
 case S=>exact fun w H a ns hl hO hS=>..
 case C=>exact ..
(the tactic k_is has no namespace: write k_is) -/
namespace L2
open PySem PySem.Spec PyProof.Rows
def jdf (s:Stmt):Arguments:=match s with
 | .FunctionDef _ a _ _ _ _ _ _ _ _=>a
 | _=>{ posonlyargs:=[],args:=[],vararg:=none,kwonlyargs:=[],kw_defaults:=[],kwarg:=none,defaults:=[] }
def jd3 (s:Stmt):List Stmt:=match s with
 | .FunctionDef _ _ b _ _ _ _ _ _ _=>b
 | _=>[]
def jaa (s:Stmt):Scope:=match s with
 | .FunctionDef _ _ _ _ _ _ sc _ _ _=>sc
 | _=>{ kind:=.function,names:=[],isGenerator:=false,isCoroutine:=false }
abbrev CX0:CXT:=fun _ _ _ _ _ _=>False
abbrev E0:XK:=fun _ _ _=>False
theorem jan {X:Cx}:jpd CX0 X E0:=fun _ _ _ _ _ _ _ h=>h.elim
structure Fun (K:PySem.W.Frag) (x qual:Str) (st:Stmt) (f:Addr) (fd:FuncData):Prop where
 ex:∃ (oc:Value) (od:Option Addr) (kV doc pm:Value) (an:Option Addr) (cdv ct:Value) (osl:Array (Option Value)),
  fd = PySem.W.fnOf x qual (jdf st) (jd3 st) (jaa st) .none kV doc pm an cdv ct∧K.lookup f = some ⟨oc,od,.func fd,osl⟩∧PySem.W.codeIn K cdv qual = true
 kp:PySem.W.keepIn K (.ref f) = true
section
variable {P:Program} {w:World} {K:PySem.W.Frag} {mg:Str→Option Value} {base:Heap}
theorem Fun.ok {x qual:Str} {st:Stmt} {f:Addr} {fd:FuncData} {N ps:List Str} {k:Nat} {sp:Sp} (F:Fun K x qual st f fd) (S:FnScope N ps (jaa st)) (len:∀ vs H Q E,sp vs H Q E→vs.length = ps.length)
  (hbody:∀ (cdv:Value) (A:Around) (outer:List Env) (s:Shared) (H:Hp) (vs:List V) (Q:VK) (E:XK),Room k (A.deeper (envOfC qual (jaa st) s.heap.objs.size f cdv))→sp vs H Q E →
   ∃ t,PSs (cxOf CX0 P w K mg base N qual (jaa st) f cdv A outer s H E).nox (jd3 st) t∧t { nx:=fun _ H'=>Q .non H',rt:=Q } (start N vs) H):FnOk P w K mg base CX0 (k + 1) f fd ps sp:=by
 obtain ⟨oc,od,kV,doc,pm,an,cdv,ct,osl,rfl,lk,hcd⟩:=F.ex
 refine fn_of lk hcd S len fun A outer s H vs Q E hr hsp=>?_
 obtain ⟨t,h,q⟩:=hbody cdv A outer s H vs Q E hr hsp
 exact ⟨t,h.nox,q⟩
theorem Fun.binds {x qual:Str} {st:Stmt} {f:Addr} {fd:FuncData} {ps:List Str} (F:Fun K x qual st f fd)
  (h:∀ (kV doc pm:Value) (an:Option Addr) (cdv ct:Value) (us:List Value),us.length = ps.length→bindArgs (PySem.W.fnOf x qual (jdf st) (jd3 st) (jaa st) .none kV doc pm an cdv ct) ⟨us,[]⟩ = pure (ps.zip us)):jhl K fd ps []:=by
 obtain ⟨oc,od,kV,doc,pm,an,cdv,ct,osl,rfl,lk,hcd⟩:=F.ex
 exact .all (h kV doc pm an cdv ct)
theorem jaq {x qual:Str} {st:Stmt} {f:Addr} {oc:Value} {od an:Option Addr} {osl:Array (Option Value)} {kV doc pm cdv ct:Value} (l:K.lookup f = some ⟨oc,od,.func (PySem.W.fnOf x qual (jdf st) (jd3 st) (jaa st) .none kV doc pm an cdv ct),osl⟩)
  (c:PySem.W.codeIn K cdv qual = true) (k:PySem.W.keepIn K (.ref f) = true):Fun K x qual st f (PySem.W.fnOf x qual (jdf st) (jd3 st) (jaa st) .none kV doc pm an cdv ct):=⟨⟨oc,od,kV,doc,pm,an,cdv,ct,osl,rfl,l,c⟩,k⟩
end
theorem jbg {A:Around} {k:Nat} (hr:Room k A):A.units + 1 < cLine:=Nat.lt_of_le_of_lt (Nat.add_le_add_left (by decide:1 ≤ 64) _) hr.units
section
variable {X:Cx}
end
theorem ite2 {c A B:Prop} [Decidable c] (h1:c→A) (h2:¬ c→B):if c then A else B:=by
 by_cases h:c
 ·rw [if_pos h]
  exact h1 h
 ·rw [if_neg h]
  exact h2 h
def Same (H H':Hp):Prop:=∀ b o,H b = some o→H' b = some o
theorem Same.refl (H:Hp):Same H H:=fun _ _ h=>h
theorem Same.trans {H H1 H2:Hp} (a:Same H H1) (b:Same H1 H2):Same H H2:=fun c o h=>b c o (a c o h)
theorem Same.free {H H':Hp} (e:Same H H') {l:Addr} (h:H' l = Option.none):H l = Option.none:=by
 cases q:H l with
 | none=>rfl
 | some o =>
  rw [e l o q] at h
  cases h
end L2
set_option maxHeartbeats 8000000
namespace L2
open PySem PySem.Spec PyProof.Rows
section
variable {κ:Type} [DecidableEq κ]
def valV (kvs:List (κ × V)) (k:κ):Option V:=(kvs.find? fun kv=>decide (kv.1 = k)).map (·.2)
def putK (kvs:List (κ × V)) (k:κ) (v:V):List (κ × V) :=
 if (kvs.any fun kv=>decide (kv.1 = k)) = true then kvs.map (fun kv=>if kv.1 = k then (kv.1,v) else kv) else kvs ++ [(k,v)]
def dropK (kvs:List (κ × V)) (k:κ):List (κ × V):=kvs.filter fun kv=>decide (kv.1 ≠ k)
theorem jce {p:κ × V} {r:List (κ × V)} {k:κ} (e:p.1 = k):valV (p :: r) k = some p.2:=by simp [valV,List.find?_cons,e]
theorem jcf {p:κ × V} {r:List (κ × V)} {k:κ} (e:¬ p.1 = k):valV (p :: r) k = valV r k:=by simp [valV,List.find?_cons,e]
theorem jdh (k:κ):∀ kvs:List (κ × V),(kvs.any fun kv=>decide (kv.1 = k)) = (valV kvs k).isSome
 | []=>rfl
 | p :: r=>by
  rw [List.any_cons]
  by_cases e:p.1 = k
  ·simp only [jce e,decide_eq_true e,Bool.true_or,Option.isSome_some]
  ·rw [jcf e,decide_eq_false e,Bool.false_or]; exact jdh k r
theorem jdt (kvs:List (κ × V)) (k:κ) (v:V):(putK kvs k v).length ≤ kvs.length + 1:=by
 unfold putK
 split
 ·rw [List.length_map]; omega
 ·rw [List.length_append,List.length_cons,List.length_nil]; omega
theorem RelO.isSome_eq {o:Option V} {u:Option Value} (r:RelO o u):o.isSome = u.isSome:=by
 cases o with
 | none=>cases u with
  | none=>rfl
  | some _=>exact (show False from r).elim
 | some _=>cases u with
  | none=>exact (show False from r).elim
  | some _=>rfl
theorem KV.val {kvs:List (κ × V)} {vs:List (κ × Value)} (r:KV kvs vs) (k:κ):RelO (valV kvs k) (valueAt vs k):=by
 unfold KV at r
 induction r with
 | nil=>exact True.intro
 | @cons p q ps qs h t ih =>
  obtain ⟨h1,h2⟩:=h
  by_cases e:p.1 = k
  ·have e':q.1 = k:=h1.symm.trans e
   have b:valueAt (q :: qs) k = some q.2:=by simp [valueAt,List.find?_cons,e']
   rw [jce e,b]; exact h2
  ·have e':¬ q.1 = k:=fun z=>e (h1.trans z)
   have b:valueAt (q :: qs) k = valueAt qs k:=by simp [valueAt,List.find?_cons,e']
   rw [jcf e,b]; exact ih
theorem KV.any {kvs:List (κ × V)} {vs:List (κ × Value)} (r:KV kvs vs) (k:κ):(kvs.any fun kv=>decide (kv.1 = k)) = vs.any fun kv=>decide (kv.1 = k):=by
 unfold KV at r
 induction r with
 | nil=>rfl
 | cons h t ih=>rw [List.any_cons,List.any_cons,ih,h.1]
theorem KV.repl {kvs:List (κ × V)} {vs:List (κ × Value)} (r:KV kvs vs) (k:κ) {y:V} {u:Value} (ry:RelV y u) :
  KV (kvs.map fun kv=>if kv.1 = k then (kv.1,y) else kv) (vs.map fun kv=>if kv.1 = k then (kv.1,u) else kv):=by
 unfold KV at r ⊢
 induction r with
 | nil=>exact .nil
 | @cons p q ps qs h t ih =>
  rw [List.map_cons,List.map_cons]
  refine .cons ?_ ih
  obtain ⟨h1,h2⟩:=h
  by_cases e:p.1 = k
  ·rw [if_pos e,if_pos (h1.symm.trans e)]; exact ⟨h1,ry⟩
  ·rw [if_neg e,if_neg (fun z=>e (h1.trans z))]; exact ⟨h1,h2⟩
theorem KV.put {kvs:List (κ × V)} {vs:List (κ × Value)} (r:KV kvs vs) (k:κ) {y:V} {u:Value} (ry:RelV y u):KV (putK kvs k y) (stored vs k u):=by
 unfold putK stored
 rw [r.any k]
 by_cases e:(vs.any fun kv=>decide (kv.1 = k)) = true
 ·rw [if_pos e,if_pos e]; exact r.repl k ry
 ·rw [if_neg e,if_neg e]; exact Paired.snoc r ⟨rfl,ry⟩
theorem KV.drop {kvs:List (κ × V)} {vs:List (κ × Value)} (r:KV kvs vs) (k:κ):KV (dropK kvs k) (without vs k):=by
 unfold KV at r ⊢
 unfold dropK without
 induction r with
 | nil=>exact .nil
 | @cons p q ps qs h t ih =>
  obtain ⟨h1,h2⟩:=h
  rw [List.filter_cons,List.filter_cons]
  by_cases e:p.1 = k
  ·have a:¬ decide (p.1 ≠ k) = true:=by simp [e]
   have b:¬ decide (q.1 ≠ k) = true:=by simp [h1.symm.trans e]
   rw [if_neg a,if_neg b]; exact ih
  ·have e':¬ q.1 = k:=fun z=>e (h1.trans z)
   have a:decide (p.1 ≠ k) = true:=by simp [e]
   have b:decide (q.1 ≠ k) = true:=by simp [e']
   rw [if_pos a,if_pos b]; exact .cons ⟨h1,h2⟩ ih
theorem KV.keys {kvs:List (κ × V)} {vs:List (κ × Value)} (r:KV kvs vs):kvs.map (·.1) = vs.map (·.1):=by
 unfold KV at r
 induction r with
 | nil=>rfl
 | cons h t ih=>rw [List.map_cons,List.map_cons,ih,h.1]
theorem KV.length {kvs:List (κ × V)} {vs:List (κ × Value)} (r:KV kvs vs):kvs.length = vs.length:=Paired.length r
end
theorem jjo {P:Program} {w:World} {k:Key} {u:Value} (r:RelV (kV k) u):(jax P w).is k u = true:=by
 cases k with
 | inl i=>obtain ⟨t,e⟩:=(show ∃ t,u = Value.int i t from r); subst e; exact jji P w i t
 | inr x=>obtain ⟨t,e⟩:=(show ∃ t,u = Value.str x t from r); subst e; exact jjh P w x t
theorem jif {P:Program} {w:World}:∀ {ks:List Key} {us:List Value},Vals (ks.map kV) us→ItemsAre (jax P w) ks us
 | [],_,r=>by rw [List.map_nil] at r; cases r; exact .nil
 | k :: ks,_,r=>by
  rw [List.map_cons] at r
  cases r with
  | cons h t=>exact .cons (jjo h) (jif t)
abbrev KT (H:Hp):List (List Key × V)→List (List Key × Addr × Value)→Prop:=Paired fun p q=>p.1 = q.1∧H q.2.1 = some (.tup (p.1.map kV))∧RelV p.2 q.2.2
theorem KT.val {H:Hp} {kvs:List (List Key × V)} {xs:List (List Key × Addr × Value)} (r:KT H kvs xs) (k:List Key):RelO (valV kvs k) ((atKey xs k).map (·.2)):=by
 induction r with
 | nil=>exact True.intro
 | @cons p q ps qs h t ih =>
  obtain ⟨h1,_,h2⟩:=h
  by_cases e:p.1 = k
  ·have e':q.1 = k:=h1.symm.trans e
   have b:atKey (q :: qs) k = some q.2:=by simp [atKey,List.find?_cons,e']
   rw [jce e,b]; exact h2
  ·have e':¬ q.1 = k:=fun z=>e (h1.trans z)
   have b:atKey (q :: qs) k = atKey qs k:=by simp [atKey,List.find?_cons,e']
   rw [jcf e,b]; exact ih
theorem KT.repl {H:Hp} {kvs:List (List Key × V)} {xs:List (List Key × Addr × Value)} (r:KT H kvs xs) (k:List Key) {y:V} {u:Value} (ry:RelV y u) :
  KT H (kvs.map fun kv=>if kv.1 = k then (kv.1,y) else kv) (xs.map (putAt k u)):=by
 induction r with
 | nil=>exact .nil
 | @cons p q ps qs h t ih =>
  rw [List.map_cons,List.map_cons]
  refine .cons ?_ ih
  obtain ⟨h1,h2,h3⟩:=h
  unfold putAt
  by_cases e:p.1 = k
  ·rw [if_pos e,if_pos (h1.symm.trans e)]; exact ⟨h1,h2,ry⟩
  ·rw [if_neg e,if_neg (fun z=>e (h1.trans z))]; exact ⟨h1,h2,h3⟩
theorem KT.put {H:Hp} {kvs:List (List Key × V)} {xs:List (List Key × Addr × Value)} (r:KT H kvs xs) (k:List Key) {b:Addr} {y:V} {u:Value} (hb:H b = some (.tup (k.map kV))) (ry:RelV y u) :
  KT H (putK kvs k y) (storedH xs k b u):=by
 have e:(kvs.any fun kv=>decide (kv.1 = k)) = (atKey xs k).isSome:=by
  rw [jdh,(r.val k).isSome_eq,Option.isSome_map]
 unfold putK storedH
 rw [e]
 by_cases q:(atKey xs k).isSome = true
 ·rw [if_pos q,if_pos q]; exact r.repl k ry
 ·rw [if_neg q,if_neg q]; exact Paired.snoc r ⟨rfl,hb,ry⟩
theorem KT.keeps {H H':Hp} {kvs:List (List Key × V)} {xs:List (List Key × Addr × Value)} (r:KT H kvs xs) (ht:∀ b ys,H b = some (.tup ys)→H' b = some (.tup ys)):KT H' kvs xs :=
 Paired.mapP r fun _ _ z=>⟨z.1,ht _ _ z.2.1,z.2.2⟩
section
variable {P:Program} {w:World} {H:Hp} {h:Heap} {a:Addr}
theorem rd_of {u:HO} (ok:HOk P w H h) (e:Rd H a u):jbb P w H h a u:=e.ok ok
theorem jik {kvs:List (Key × V)} (ok:HOk P w H h) (e:Rd H a (.dK kvs)):kvs.length ≤ sizeLine∧(a == sysModules) = false∧∃ vs,KV kvs vs∧h.DictOf (jax P w) a vs :=
 show jbb P w H h a (.dK kvs) from rd_of ok e
theorem jlv {kvs:List (Key × V)} (ok:HOk P w H h) (e:H a = some (.dK kvs)):kvs.length ≤ sizeLine∧(a == sysModules) = false∧∃ vs,KV kvs vs∧h.DictOf (jax P w) a vs:=jik ok (.inl e)
theorem jge {ks:List Key} (ok:HOk P w H h) (e:H a = some (.tup (ks.map kV))):(tupleKind (jax P w)).is h ks a:=by
 obtain ⟨_,its,r,o,h1,h2,n,h3⟩:=(show jbb P w H h a (.tup (ks.map kV)) from ok a _ e)
 exact ⟨o,its.toArray,n,h1,h2,h3,by simpa using jif r⟩
theorem jlu {kvs:List (List Key × V)} (ok:HOk P w H h) (e:Rd H a (.dT kvs)):kvs.length ≤ sizeLine∧(a == sysModules) = false ∧
  ∃ xs,KT H kvs xs∧h.DictOfH (tupleKind (jax P w)) a xs:=by
 obtain ⟨z,y,xs,r,o,es,ep,h1,h2,h3,h4,h5⟩:=(show jbb P w H h a (.dT kvs) from rd_of ok e)
 refine ⟨z,y,xs,r,o,es,ep,h1,h2,h3,h4,fun x hx=>?_,h5⟩
 have all:∀ {l:List (List Key × V)} {m:List (List Key × Addr × Value)},KT H l m→∀ x ∈ m,(tupleKind (jax P w)).is h x.1 x.2.1:=by
  intro l m q
  induction q with
  | nil=>intro x hx; exact nomatch hx
  | @cons p q ps qs hq t ih =>
   intro x hx
   rcases List.mem_cons.mp hx with e | hx
   ·subst e
    exact jge ok (by rw [← hq.1]; exact hq.2.1)
   ·exact ih x hx
 exact all r x hx
theorem dt_of {kvs:List (List Key × V)} (ok:HOk P w H h) (e:H a = some (.dT kvs)):kvs.length ≤ sizeLine∧(a == sysModules) = false ∧
  ∃ xs,KT H kvs xs∧h.DictOfH (tupleKind (jax P w)) a xs:=jlu ok (.inl e)
end
def DGet (H:Hp) (a:Addr) (y:V) (r:Option V):Prop :=
 (∃ kvs k,Rd H a (.dK kvs)∧y = kV k∧r = valV kvs k) ∨ ∃ kvs k b,Rd H a (.dT kvs)∧y = .ref b∧H b = some (.tup (k.map kV))∧r = valV kvs k
def DPut (H:Hp) (a:Addr) (y v:V) (H':Hp):Prop :=
 (∃ kvs k,H a = some (.dK kvs)∧y = kV k∧kvs.length < sizeLine∧H' = upd H a (.dK (putK kvs k v))) ∨
 ∃ kvs k b,H a = some (.dT kvs)∧y = .ref b∧H b = some (.tup (k.map kV))∧kvs.length < sizeLine∧H' = upd H a (.dT (putK kvs k v))
theorem DGet.k {H:Hp} {a:Addr} {kvs:List (Key × V)} {k:Key} (e:H a = some (.dK kvs)):DGet H a (kV k) (valV kvs k):=.inl ⟨kvs,k,.inl e,rfl,rfl⟩
theorem DGet.t {H:Hp} {a b:Addr} {kvs:List (List Key × V)} {k:List Key} (e:H a = some (.dT kvs)) (eb:H b = some (.tup (k.map kV))):DGet H a (.ref b) (valV kvs k):=.inr ⟨kvs,k,b,.inl e,rfl,eb,rfl⟩
theorem DPut.k {H:Hp} {a:Addr} {kvs:List (Key × V)} {k:Key} {v:V} (e:H a = some (.dK kvs)) (hl:kvs.length < sizeLine):DPut H a (kV k) v (upd H a (.dK (putK kvs k v))):=.inl ⟨kvs,k,e,rfl,hl,rfl⟩
theorem DPut.t {H:Hp} {a b:Addr} {kvs:List (List Key × V)} {k:List Key} {v:V} (e:H a = some (.dT kvs)) (eb:H b = some (.tup (k.map kV))) (hl:kvs.length < sizeLine) :
  DPut H a (.ref b) v (upd H a (.dT (putK kvs k v))):=.inr ⟨kvs,k,b,e,rfl,eb,hl,rfl⟩
section
variable {X:Cx} {pins:List (Addr × Obj)} {σ:St} {H:Hp} {s:Shared} {a:Addr} {y v:V} {u r:Value} {o:Option V} {A:Around} {E:Value→Shared→Prop}
theorem Inv.big (I:Inv X pins σ H s):sysModules < s.heap.objs.size:=by
 have h:mainGlobals < s.heap.objs.size:=(I.mod.glob.keeps I.bk).lt
 exact Nat.lt_trans (by decide) h
theorem jin {Q:Value→Shared→Prop} (hu:A.units + 1 < cLine) (I:Inv X pins σ H s) (g:DGet H a y (some v)) (ry:RelV y u) (h:∀ w' s',Inv X pins σ H s'→RelV v w'→Q w' s') :
  wpAny (model X.prog X.w) A (getItem (.ref a) u) Q E s:=by
 rcases g with ⟨kvs,k,e,ey,l⟩ | ⟨kvs,k,b,e,ey,eb,l⟩
 ·subst ey
  obtain ⟨z,hd,vs,rel,dd⟩:=jik I.hok e
  obtain ⟨w',hw,rw'⟩:=RelO.some_of (v:=v) (o:=valueAt vs k) (by rw [l]; exact rel.val k)
  exact wpAny_getItem_of (jjo ry) dd.mapOf hw (h w' _ (I.tok _) rw')
 ·subst ey
  cases (show u = Value.ref b from ry)
  obtain ⟨z,hd,xs,rel,dd⟩:=jlu I.hok e
  obtain ⟨w',hw,rw'⟩:=RelO.some_of (v:=v) (o:=(atKey xs k).map (·.2)) (by rw [l]; exact rel.val k)
  obtain ⟨p,hp,hp2⟩:=Option.map_eq_some_iff.mp hw
  refine wpAny_getItem_heap (tupleKind_room_in1 hu) (jge I.hok eb) dd hp ?_
  rw [hp2]
  exact h w' _ (I.tok _) rw'
theorem d_in {Q:Value→Shared→Prop} (hu:A.units + 1 < cLine) (I:Inv X pins σ H s) (g:DGet H a y o) (ry:RelV y u) (h:∀ s',Inv X pins σ H s'→Q (.bool o.isSome) s') :
  wpAny (model X.prog X.w) A (compareOp .In u (.ref a)) Q E s:=by
 rcases g with ⟨kvs,k,e,ey,l⟩ | ⟨kvs,k,b,e,ey,eb,l⟩
 ·subst ey
  obtain ⟨z,hd,vs,rel,dd⟩:=jik I.hok e
  refine wpAny_in_of (jjo ry) hd dd.mapOf ?_
  rw [← (rel.val k).isSome_eq,← l]
  exact h _ (I.tok _)
 ·subst ey
  cases (show u = Value.ref b from ry)
  obtain ⟨z,hd,xs,rel,dd⟩:=jlu I.hok e
  refine wpAny_in_heap (tupleKind_room_in1 hu) (jge I.hok eb) hd dd ?_
  have q:=(rel.val k).isSome_eq
  rw [Option.isSome_map] at q
  rw [← q,← l]
  exact h _ (I.tok _)
theorem jt7 {Q:Value→Shared→Prop} (hu:A.units + 1 < cLine) (I:Inv X pins σ H s) (g:DGet H a y o) (ry:RelV y u) (h:∀ s',Inv X pins σ H s'→Q (.bool (!o.isSome)) s') :
  wpAny (model X.prog X.w) A (compareOp .NotIn u (.ref a)) Q E s:=by
 rcases g with ⟨kvs,k,e,ey,l⟩ | ⟨kvs,k,b,e,ey,eb,l⟩
 ·subst ey
  obtain ⟨z,hd,vs,rel,dd⟩:=jik I.hok e
  refine wpAny_notIn_of (jjo ry) hd dd.mapOf ?_
  rw [← (rel.val k).isSome_eq,← l]
  exact h _ (I.tok _)
 ·subst ey
  cases (show u = Value.ref b from ry)
  obtain ⟨z,hd,xs,rel,dd⟩:=jlu I.hok e
  refine wpAny_notIn_heap (tupleKind_room_in1 hu) (jge I.hok eb) hd dd ?_
  have q:=(rel.val k).isSome_eq
  rw [Option.isSome_map] at q
  rw [← q,← l]
  exact h _ (I.tok _)
theorem jfn {h':Heap} {t':Nat} {ob:HO} (I:Inv X pins σ H s) (mu:Mut (H a)) (hs:Heap.SameBut a s.heap h') (he:∃ q,h'.get? a = some q) (new:jbb X.prog X.w (upd H a ob) h' a ob) :
  Inv X pins σ (upd H a ob) { s with heap:=h',toks:=t' } :=
 I.write (x:=a) (e:=a) mu (.inl rfl) (fun b q hb z=>(hs.2 b hb).trans z) he new
theorem jil {P:Program} {w:World} {H':Hp} {h':Heap} {kvs:List (Key × V)} {vs:List (Key × Value)} (z:kvs.length ≤ sizeLine) (hd:(a == sysModules) = false) (rel:KV kvs vs) (dd:h'.DictOf (jax P w) a vs) :
  jbb P w H' h' a (.dK kvs):=⟨z,hd,vs,rel,dd⟩
theorem jim {H':Hp} {Q:Unit→Shared→Prop} (hu:A.units + 1 < cLine) (I:Inv X pins σ H s) (g:DPut H a y v H') (ry:RelV y u) (rv:RelV v r) (h:∀ s',Inv X pins σ H' s'→Q () s') :
  wpAny (model X.prog X.w) A (setItem (.ref a) u r) Q E s:=by
 rcases g with ⟨kvs,k,e,ey,l,eH⟩ | ⟨kvs,k,b,e,ey,eb,l,eH⟩
 ·subst ey eH
  obtain ⟨z,hd,vs,rel,dd⟩:=jlv I.hok e
  have hz:vs.length ≤ sizeLine:=by rw [← rel.length]; exact z
  have hl:(putK kvs k v).length ≤ sizeLine:=by have:=jdt kvs k v; omega
  refine wpAny_setItem_pairs (hsz:=hz) (jjo ry) dd fun h' dd' hs=>h _ ?_
  have he:∃ q,h'.get? a = some q:=let ⟨q,_,_,hq,_⟩:=dd'; ⟨q,hq⟩
  exact jfn I (by rw [e]; exact True.intro) hs he (jil hl hd (rel.put k rv) dd')
 ·subst ey eH
  cases (show u = Value.ref b from ry)
  obtain ⟨z,hd,xs,rel,dd⟩:=dt_of I.hok e
  have hz:xs.length ≤ sizeLine:=by rw [← Paired.length rel]; exact z
  have hl:(putK kvs k v).length ≤ sizeLine:=by have:=jdt kvs k v; omega
  refine wpAny_setItem_heap (hsz:=hz) (tupleKind_room_in1 hu) (jge I.hok eb) dd fun h' dd' hs=>h _ ?_
  obtain ⟨q,es,ep,hq,h2,h3,h4,_,h5⟩:=dd'
  refine jfn I (by rw [e]; exact True.intro) hs ⟨q,hq⟩ ⟨hl,hd,_,(rel.put k eb rv).keeps fun c ys ec=>?_,q,es,ep,hq,h2,h3,h4,h5⟩
  rw [ja8 (ne_of ec e (fun z=>nomatch z))]
  exact ec
end
section
variable {X:Cx} {pins:List (Addr × Obj)} {σ:St} {H:Hp} {s:Shared} {a:Addr} {kvs:List (Key × V)} {k:Key} {u:Value} {A:Around} {E:Value→Shared→Prop}
end
def NoSl (i:Expr):Prop:=∀ ov iv,subscripted i false ov iv = operate [ov,iv] (getItem ov iv)
theorem jmo {prog:Program} {w:World} {A:Around} {E:Value→Shared→Prop} {s:Shared} {env:Env} {value slice:Expr} {pos:Pos} {T id:String} {Q:Value→Shared→Prop}
  (hl:typeLookup (.type T) "__getitem__" = pure (some (.builtin id))) (hs:NoSl slice)
  (h:wpAny (model prog w) A (eval value env) (fun o s₁=>wpAny (model prog w) A (eval slice env) (fun i s₂=>s₂.TypeIs o T∧wpAny (model prog w) A (getItem o i) Q E s₂) E s₁) E s) :
  wpAny (model prog w) A (eval (.Subscript value slice pos) env) Q E s:=by
 refine Subscript_ (wpAny_mono h (fun o s₁ h₁=>wpAny_mono h₁ (fun i s₂ h₂=>?_) fun _ _ x=>x) fun _ _ x=>x)
 obtain ⟨hT,h₂⟩:=h₂
 unfold subscriptTail
 refine wpAny_bind ?_
 rw [getitemInPython_of_ne hT.not_modules]
 refine wpAny_bind (wpAny_specialOf hT hl ?_)
 have fin:wpAny (model prog w) A (subscripted slice false o i) (fun r s₃=>wpAny (model prog w) A (letTemporaryGo value o r >>= fun _=>pure r) Q E s₃) E s₂:=by
  rw [hs o i]
  exact wpAny_operating (wpAny_mono h₂ (fun r s₃ h₃=>wpAny_bind (wpAny_letTemporaryGo (wpAny_pure h₃))) fun _ _ x=>x)
 first
  | exact wpAny_pure (wpAny_bind fin)
  | exact wpAny_bind (wpAny_pure (wpAny_bind fin))
  | exact wpAny_bind fin
theorem jfm {X:Cx} {pins:List (Addr × Obj)} {σ:St} {H:Hp} {s:Shared} {a:Addr} {y:V} {o:Option V} (I:Inv X pins σ H s) (g:DGet H a y o):s.TypeIs (.ref a) "dict":=by
 rcases g with ⟨kvs,k,e,_,_⟩ | ⟨kvs,k,b,e,_,_,_⟩
 ·obtain ⟨_,_,vs,_,dd⟩:=jik I.hok e
  exact dd.typeIs
 ·obtain ⟨_,_,xs,_,dd⟩:=jlu I.hok e
  exact dd.typeIs
def jfr (td ty:TE):TE:=fun σ H Q=>td σ H fun x H1=>ty σ H1 fun y H2=>∃ a v,x = .ref a∧DGet H2 a y (some v)∧Q v H2
def tDIn (ty td:TE):TE:=fun σ H Q=>ty σ H fun y H1=>td σ H1 fun x H2=>∃ a o,x = .ref a∧DGet H2 a y o∧Q (.bl o.isSome) H2
def sDPut (td ty tv:TE):TS:=fun D σ H=>tv σ H fun v H1=>td σ H1 fun x H2=>ty σ H2 fun y H3=>∃ a H4,x = .ref a∧DPut H3 a y v H4∧D.nx σ H4
section
variable {X:Cx} {o i e value:Expr} {pos pos' tpos:Pos} {td ty tv:TE}
theorem jca (hu:X.A.units + 1 < cLine) (ho:PE X o td) (hi:PE X i ty) (hs:NoSl i):PE X (.Subscript o i pos) (jfr td ty):=by
 intro pins s σ H Q I h
 refine jmo PySem.F.slot_dict_getitem.lookup hs (thn (ho pins s σ H _ I h) fun u s1 ⟨x,H1,I1,rx,q1⟩=>thn (hi pins s1 σ H1 _ I1 q1) fun iv s2 ⟨y,H2,I2,ry,a,v,ex,g,q2⟩=>?_)
 subst ex
 obtain rfl:u = Value.ref a:=rx
 exact ⟨jfm I2 g,jin hu I2 g ry fun w' s3 I3 rw'=>⟨v,H2,I3,rw',q2⟩⟩
theorem jr7 (hu:X.A.units + 1 < cLine) (hi:PE X i ty) (ho:PE X o td):PC X .In i o (tDIn ty td):=by
 intro pins s σ H Q I h
 refine thn (hi pins s σ H _ I h) fun iv s1 ⟨y,H1,I1,ry,q1⟩=>thn (ho pins s1 σ H1 _ I1 q1) fun u s2 ⟨x,H2,I2,rx,a,ov,ex,g,q2⟩=>?_
 subst ex
 obtain rfl:u = Value.ref a:=rx
 exact d_in hu I2 g ry fun s3 I3=>⟨.bl ov.isSome,H2,I3,rfl,q2⟩
theorem js7 (hu:X.A.units + 1 < cLine) (ho:PE X o td) (hi:PE X i ty) (hv:PE X value tv) (hs:swapsWith value (some (.Subscript o i pos')) pos.line X.env = pure false) :
  PS X (.Assign [.Subscript o i pos'] value pos) (sDPut td ty tv):=by
 intro pins s σ H D I h
 refine wpAny_Assign_Subscript (thn (hv pins s σ H _ I h) fun r s1 ⟨v,H1,I1,rv,q1⟩=>thn (ho pins s1 σ H1 _ I1 q1) fun u s2 ⟨x,H2,I2,rx,q2⟩=>thn (hi pins s2 σ H2 _ I2 q2) fun iv s3 ⟨y,H3,I3,ry,a,H4,ex,g,q3⟩=>?_) hs
 subst ex
 obtain rfl:u = Value.ref a:=rx
 exact jim hu I3 g ry rv fun s4 I4=>⟨σ,H4,I4,q3⟩
end
theorem jl8 {P:Program} {w:World} {H:Hp} (h:Heap) (hb:sysModules < h.objs.size):jbb P w H (h.push { cls:=.type "dict",data:=.dict #[] }) h.objs.size (.dK []) :=
 ⟨Nat.zero_le _,beq_eq_false_iff_ne.mpr (Ne.symm (Nat.ne_of_lt hb)),[],.nil,Heap.DictOf.new h⟩
theorem jl5 {P:Program} {w:World} {H:Hp} (h:Heap) (hb:sysModules < h.objs.size):jbb P w H (h.push { cls:=.type "dict",data:=.dict #[] }) h.objs.size (.dT []) :=
 ⟨Nat.zero_le _,beq_eq_false_iff_ne.mpr (Ne.symm (Nat.ne_of_lt hb)),[],.nil,_,#[],0,Heap.get?_push_size _ rfl,⟨rfl,rfl,rfl⟩,rfl,rfl,List.nodup_nil⟩
def jmi:TE:=fun _ H Q=>∀ p,H p = none→Q (.ref p) (upd H p (.dK []))
def jqp:TE:=fun _ H Q=>∀ p,H p = none→Q (.ref p) (upd H p (.dT []))
section
variable {X:Cx} {pos:Pos}
theorem jgy:PE X (.Dict [] [] pos) jmi:=fun pins s σ H Q I h =>
 wpAny_Dict_empty ⟨.ref s.heap.objs.size,_,I.laid (a:=s.heap.objs.size) (o:=.dK []) (t':=s.toks) (fun _ _ q=>Heap.get?_push_of_some _ q) (Nat.le_refl _) (jl8 s.heap I.big),rfl,h _ (I.hok.fresh (Nat.le_refl _))⟩
theorem jpx:PE X (.Dict [] [] pos) jqp:=fun pins s σ H Q I h =>
 wpAny_Dict_empty ⟨.ref s.heap.objs.size,_,I.laid (a:=s.heap.objs.size) (o:=.dT []) (t':=s.toks) (fun _ _ q=>Heap.get?_push_of_some _ q) (Nat.le_refl _) (jl5 s.heap I.big),rfl,h _ (I.hok.fresh (Nat.le_refl _))⟩
end
def jmh:List (TE × TE)→St→Hp→(List (V × V)→Hp→Prop)→Prop
 | [],_,H,Q=>Q [] H
 | (tk,tv) :: r,σ,H,Q=>tk σ H fun x H1=>tv σ H1 fun y H2=>jmh r σ H2 fun ps H3=>Q ((x,y) :: ps) H3
abbrev VV:List (V × V)→List (Value × Value)→Prop:=Paired fun p q=>RelV p.1 q.1∧RelV p.2 q.2
def PPs (X:Cx) (pos:Pos) (keys:List (Option Expr)) (values:List Expr) (trs:List (TE × TE)):Prop :=
 ∀ (pins:List (Addr × Obj)) (s:Shared) (σ:St) (H:Hp) (Q:List (V × V)→Hp→Prop),Inv X pins σ H s→jmh trs σ H Q →
  wpAny (model X.prog X.w) X.A (evalPairs (pairTrees keys values X.env pos)) (fun vs s'=>∃ ps H',Inv X pins σ H' s'∧VV ps vs∧Q ps H') X.xe s
theorem jng {X:Cx} {pos:Pos}:PPs X pos [] [] []:=fun pins s σ H Q I h=>pairTrees_nil_walk ⟨[],H,I,.nil,h⟩
theorem jkm {X:Cx} {pos:Pos} {k v:Expr} {ks:List (Option Expr)} {vs:List Expr} {tk tv:TE} {trs:List (TE × TE)} (hk:PE X k tk) (hv:PE X v tv) (hr:PPs X pos ks vs trs) :
  PPs X pos (some k :: ks) (v :: vs) ((tk,tv) :: trs):=fun pins s σ H Q I h =>
 pairTrees_cons_walk (thn (hk pins s σ H _ I h) fun u s1 ⟨x,H1,I1,rx,q1⟩=>thn (hv pins s1 σ H1 _ I1 q1) fun w2 s2 ⟨y,H2,I2,ry,q2⟩ =>
  thn (hr pins s2 σ H2 _ I2 q2) fun ws s3 ⟨ps,H3,I3,rel,q3⟩=>⟨(x,y) :: ps,H3,I3,.cons ⟨rx,ry⟩ rel,q3⟩)
def jcj (kvs more:List (Key × V)):List (Key × V):=more.foldl (fun acc kv=>putK acc kv.1 kv.2) kvs
theorem KV.merge:∀ {more:List (Key × V)} {rs:List (Key × Value)} {kvs:List (Key × V)} {vs:List (Key × Value)},KV more rs→KV kvs vs→KV (jcj kvs more) (merged vs rs):=by
 intro more rs kvs vs r
 unfold KV at r
 induction r generalizing kvs vs with
 | nil=>intro q; exact q
 | @cons p q ps qs h t ih =>
  intro r0
  have e:KV (putK kvs p.1 p.2) (stored vs q.1 q.2):=by
   have:=r0.put p.1 h.2
   rw [← h.1]; exact this
  exact ih e
theorem jc6:∀ (more kvs:List (Key × V)),(jcj kvs more).length ≤ kvs.length + more.length
 | [],kvs=>by show kvs.length ≤ kvs.length + 0; omega
 | p :: r,kvs=>by
  have h1:=jc6 r (putK kvs p.1 p.2)
  have h2:=jdt kvs p.1 p.2
  show (jcj (putK kvs p.1 p.2) r).length ≤ _
  rw [List.length_cons]; omega
theorem jgh {P:Program} {w:World}:∀ {kvs:List (Key × V)} {ws:List (Value × Value)},VV (kvs.map fun kv=>(kV kv.1,kv.2)) ws→∃ rs,Carries (jax P w) ws rs∧KV kvs rs
 | [],_,r=>by rw [List.map_nil] at r; cases r; exact ⟨[],True.intro,.nil⟩
 | p :: kvs,_,r=>by
  rw [List.map_cons] at r
  cases r with
  | @cons a b as bs h t =>
   obtain ⟨rs,c,q⟩:=jgh (P:=P) (w:=w) t
   obtain ⟨b1,b2⟩:=b
   exact ⟨(p.1,b2) :: rs,⟨jjo h.1,rfl,c⟩,.cons ⟨rfl,h.2⟩ q⟩
def tDisp (trs:List (TE × TE)):TE:=fun σ H Q=>∀ p,H p = none→jmh trs σ (upd H p (.dK [])) fun ps H2=>H2 p = some (.dK [])∧∃ kvs:List (Key × V),ps = kvs.map (fun kv=>(kV kv.1,kv.2))∧kvs.length ≤ 15∧Q (.ref p) (upd H2 p (.dK (jcj [] kvs)))
theorem jsa {X:Cx} {pos:Pos} {keys:List (Option Expr)} {values:List Expr} {trs:List (TE × TE)} (h:PPs X pos keys values trs) (hall:keys.all (·.isSome) = true) (hl:keys.length = values.length) (h0:keys ≠ [])
  (h15:keys.length ≤ 15):PE X (.Dict keys values pos) (tDisp trs):=by
 intro pins s σ H Q I q
 have hn:=I.hok.fresh (Nat.le_refl s.heap.objs.size)
 have I1:=I.laid (a:=s.heap.objs.size) (o:=.dK []) (h':=s.heap.push { cls:=.type "dict",data:=.dict #[] }) (t':=s.toks) (fun _ _ q=>Heap.get?_push_of_some _ q) (Nat.le_refl _) (jl8 s.heap I.big)
 refine wpAny_Dict_walk (knd:=jax X.prog X.w) hall hl h0 h15 (thn (h pins _ σ _ _ I1 (q _ hn)) fun ws s2 ⟨ps,H2,I2,rel,e,kvs,ep,lk,q2⟩=>?_)
 subst ep
 obtain ⟨rs,c,rk⟩:=jgh (P:=X.prog) (w:=X.w) rel
 obtain ⟨z,hd,vs0,r0,dd⟩:=jlv I2.hok e
 cases r0
 refine ⟨rs,c,dd,fun h' dd' hs=>⟨.ref s.heap.objs.size,_,?_,rfl,q2⟩⟩
 have hz:(jcj [] kvs).length ≤ sizeLine:=by
  have h1:=jc6 kvs []
  rw [List.length_nil] at h1
  rw [sizeLine_eq]; omega
 have he:∃ q,h'.get? s.heap.objs.size = some q:=let ⟨q,_,_,hq,_⟩:=dd'; ⟨q,hq⟩
 exact jfn I2 (by rw [e]; exact True.intro) hs he (jil hz hd (rk.merge .nil) dd')
structure M1 (X:Cx) (o:Expr) (m:Str) (apos:Pos) (e:Expr) (cpos:Pos):Prop where
 base:attributeBase o m X.env (eval o X.env) = eval o X.env
 few:((backTo cpos (starEach [e] X.env)).all (fun x=>!x.1) && (backToKw cpos (keywordEach [] X.env)).all (fun x=>x.1.isSome)
  && decide (([e]:List Expr).length + ([]:List Keyword).length + (if ([]:List Keyword).isEmpty then 0 else 1) < 30)) = true
 line:(apos.endLine == cpos.line) = true
 trees:backTo cpos (starEach [e] X.env) = [(false,eval e X.env)]
structure M2 (X:Cx) (o:Expr) (m:Str) (apos:Pos) (e f:Expr) (cpos:Pos):Prop where
 base:attributeBase o m X.env (eval o X.env) = eval o X.env
 few:((backTo cpos (starEach [e,f] X.env)).all (fun x=>!x.1) && (backToKw cpos (keywordEach [] X.env)).all (fun x=>x.1.isSome)
  && decide (([e,f]:List Expr).length + ([]:List Keyword).length + (if ([]:List Keyword).isEmpty then 0 else 1) < 30)) = true
 line:(apos.endLine == cpos.line) = true
 trees:backTo cpos (starEach [e,f] X.env) = [(false,eval e X.env),(false,eval f X.env)]
def IsD (H:Hp) (a:Addr):Prop:=(∃ kvs,Rd H a (.dK kvs)) ∨ ∃ kvs,Rd H a (.dT kvs)
theorem isD_at {X:Cx} {pins:List (Addr × Obj)} {σ:St} {H:Hp} {s:Shared} {a:Addr} (I:Inv X pins σ H s) (d:IsD H a) :
  s.TypeIs (.ref a) "dict"∧(∀ b,Value.ref a = .ref b→∃ ob,s.heap.get? b = some ob∧ob.dict = none)∧(a == sysModules) = false:=by
 rcases d with ⟨kvs,e⟩ | ⟨kvs,e⟩
 ·obtain ⟨_,hd,vs,_,dd⟩:=jik I.hok e
  refine ⟨dd.typeIs,fun b q=>?_,hd⟩
  cases q
  obtain ⟨ob,_,_,h1,h2,_⟩:=dd
  exact ⟨ob,h1,h2.2.1⟩
 ·obtain ⟨_,hd,xs,_,dd⟩:=jlu I.hok e
  refine ⟨dd.typeIs,fun b q=>?_,hd⟩
  cases q
  obtain ⟨ob,_,_,h1,h2,_⟩:=dd
  exact ⟨ob,h1,h2.2.1⟩
section
variable {X:Cx} {pins:List (Addr × Obj)} {σ:St} {H:Hp} {s:Shared} {a:Addr} {y d:V} {u r:Value} {o:Option V} {A:Around} {E:Value→Shared→Prop}
end
section
variable {X:Cx} {o e f:Expr} {apos cpos:Pos} {td ty tx:TE}
end
section
variable {X:Cx} {pins:List (Addr × Obj)} {σ:St} {H:Hp} {s:Shared} {a:Addr} {kvs:List (Key × V)} {A:Around} {E:Value→Shared→Prop}
end
section
variable {X:Cx} {pins:List (Addr × Obj)} {σ:St} {H:Hp} {s:Shared} {a:Addr} {y:V} {u:Value} {A:Around} {E:Value→Shared→Prop}
end
end L2
namespace L2
open PySem PySem.Spec PyProof.Rows
section
variable {κ:Type} [DecidableEq κ]
end
end L2
namespace L2
open PySem PySem.Spec PyProof.Rows
def jbt (env:Env):List (Str × NameKind)→List (Str × Addr)→List (Str × Addr)
 | [],acc=>acc
 | (n,k) :: r,acc=>jbt env r (if k == .free then (n,(env.cells.lookup n).getD 0) :: acc else acc)
theorem jcv {scope:Scope} {env:Env} (h:∀ y ∈ scope.names,y.2 = .free→∃ c,env.cells.lookup y.1 = some c) :
    closureFor scope env = pure (jbt env scope.names []):=by
  have key:∀ (l:List (Str × NameKind)) (acc:List (Str × Addr)),(∀ y ∈ l,y.2 = .free→∃ c,env.cells.lookup y.1 = some c) →
      (forIn l acc fun (x:Str × NameKind) (r:List (Str × Addr)) =>
        (if x.2 == NameKind.free then do
          let c ← cellOf env x.1
          pure (ForInStep.yield ((x.1,c) :: r))
        else pure (ForInStep.yield r):Sem (ForInStep (List (Str × Addr))))) = pure (jbt env l acc):=by
    intro l
    induction l with
    | nil=>intro acc _; rfl
    | cons y r ih =>
      intro acc hy
      obtain ⟨n,k⟩:=y
      rw [List.forIn_cons]
      by_cases hk:k = .free
      · subst hk
        obtain ⟨c,hc⟩:=hy (n,.free) List.mem_cons_self rfl
        have e1:cellOf env n = pure c:=by unfold cellOf; rw [hc]
        simp only [beq_self_eq_true,if_true]
        rw [e1]
        show (pure c >>= fun c=>pure (ForInStep.yield ((n,c) :: acc))) >>= _ = _
        have e2:jbt env ((n,NameKind.free) :: r) acc = jbt env r ((n,c) :: acc):=by
          have hc':env.cells.lookup n = some c:=hc
          show jbt env r (if (NameKind.free == NameKind.free) = true then (n,(env.cells.lookup n).getD 0) :: acc else acc) = _
          rw [hc']
          rfl
        rw [e2]
        exact ih _ fun z hz=>hy z (List.mem_cons_of_mem _ hz)
      · have hb:(k == NameKind.free) = false:=by simpa using hk
        simp only [hb,Bool.false_eq_true,if_false]
        have e2:jbt env ((n,k) :: r) acc = jbt env r acc:=by
          show jbt env r (if (k == NameKind.free) = true then _ else acc) = _
          rw [hb]; rfl
        rw [e2]
        exact ih _ fun z hz=>hy z (List.mem_cons_of_mem _ hz)
  unfold closureFor
  have e:=key scope.names [] h
  have e3:∀ (f:Str × NameKind→List (Str × Addr)→Sem (ForInStep (List (Str × Addr)))),(f = fun x r=>(if x.2 == NameKind.free then do
          let c ← cellOf env x.1
          pure (ForInStep.yield ((x.1,c) :: r))
        else pure (ForInStep.yield r)))→(forIn scope.names [] f >>= fun r=>pure r) = (pure (jbt env scope.names []):Sem (List (Str × Addr))):=by
    intro f hf
    rw [hf,e]
    rfl
  exact e3 _ rfl
theorem je7 {env:Env} {x:Str}:∀ (l:List (Str × NameKind)) (acc:List (Str × Addr)) (c:Addr),(jbt env l acc).lookup x = some c →
  ((∃ y ∈ l,y.1 = x∧y.2 = .free)∧(env.cells.lookup x).getD 0 = c) ∨ acc.lookup x = some c
 | [],acc,c,h=>.inr h
 | (n,k) :: r,acc,c,h=>by
  rcases je7 r _ c h with ⟨⟨y,hy,e⟩,q⟩ | q
  ·exact .inl ⟨⟨y,List.mem_cons_of_mem _ hy,e⟩,q⟩
  ·by_cases hk:k = .free
   ·subst hk
    have q':List.lookup x ((n,(env.cells.lookup n).getD 0) :: acc) = some c:=q
    rw [List.lookup_cons] at q'
    cases hx:x == n with
    | true =>
     rw [hx] at q'
     have hx':x = n:=by simpa using hx
     subst hx'
     exact .inl ⟨⟨_,List.mem_cons_self,rfl,rfl⟩,Option.some.inj q'⟩
    | false=>rw [hx] at q'; exact .inr q'
   ·have hb:(k == NameKind.free) = false:=by simpa using hk
    rw [hb] at q
    exact .inr q
theorem jef {env:Env} {x:Str}:∀ (l:List (Str × NameKind)) (acc:List (Str × Addr)),((∃ y ∈ l,y.1 = x∧y.2 = .free) ∨ (acc.lookup x).isSome)→((jbt env l acc).lookup x).isSome
 | [],acc,h=>by
  rcases h with ⟨y,hy,_⟩ | h
  ·cases hy
  ·exact h
 | (n,k) :: r,acc,h=>by
  show ((jbt env r (if (k == NameKind.free) = true then _ else acc)).lookup x).isSome
  refine jef r _ ?_
  rcases h with ⟨y,hy,e1,e2⟩ | h
  ·rcases List.mem_cons.mp hy with rfl | hy
   ·have e2':k = .free:=e2
    have e1':n = x:=e1
    subst e2' e1'
    refine .inr ?_
    simp [List.lookup_cons]
   ·exact .inl ⟨y,hy,e1,e2⟩
  ·refine .inr ?_
   split
   ·rw [List.lookup_cons]
    split
    ·rfl
    ·exact h
   ·exact h
structure CpScope (X:Cx) (scope:Scope) (N:List Str) (src:List (Option Nat)):Prop where
 kind:scope.kind = .function
 nocell:∀ y ∈ scope.names,y.2 ≠ .cell
 locs:∀ y ∈ scope.names,y.2 = .local→scope.names.lookup y.1 = some .local
 frees:∀ y ∈ scope.names,y.2 = .free→scope.names.lookup y.1 = some .free∧X.env.scope.names.lookup y.1 = some .cell
 nd:N.Nodup
 len:src.length = N.length
 cap:∀ (i j:Nat),src[i]? = some (some j)→X.N[j]? = N[i]?∧(N[i]?).elim False (fun x=>scope.names.lookup x = some .free)
def cst (src:List (Option Nat)) (σ:St):St:=src.map fun o=>o.bind fun j=>(σ[j]?).join
theorem jcd {env:Env} (hk:env.scope.kind = .function):∀ {names:List (Str × NameKind)} {x:Str},names.lookup x = some .free→env.kindOf x = some .cell →
  (names.map fun (n,k)=>if (k == NameKind.free && env.scope.kind == .function && env.kindOf n == some .cell) then (n,NameKind.cell) else (n,k)).lookup x = some .cell
 | [],_,h,_=>by simp at h
 | (n,k) :: r,x,h,hc=>by
  have ih:=@jcd env hk r x
  show List.lookup x ((if (k == NameKind.free && env.scope.kind == .function && env.kindOf n == some .cell) = true then (n,NameKind.cell) else (n,k)) :: _) = _
  cases hx:x == n with
  | true =>
   simp only [List.lookup_cons,hx] at h
   cases h
   have hx':x = n:=by simpa using hx
   subst hx'
   rw [if_pos (by rw [hk,hc]; rfl)]
   simp [List.lookup_cons]
  | false =>
   simp only [List.lookup_cons,hx] at h
   by_cases hq:(k == NameKind.free && env.scope.kind == .function && env.kindOf n == some .cell) = true
   ·rw [if_pos hq]; simp only [List.lookup_cons,hx]; exact ih h hc
   ·rw [if_neg hq]; simp only [List.lookup_cons,hx]; exact ih h hc
theorem jbs {env:Env}:∀ {names:List (Str × NameKind)} {x:Str} {k':NameKind},
  (names.map fun (n,k)=>if (k == NameKind.free && env.scope.kind == .function && env.kindOf n == some .cell) then (n,NameKind.cell) else (n,k)).lookup x = some k' →
   names.lookup x = some k' ∨ (names.lookup x = some .free∧k' = .cell)
 | [],_,_,h=>by simp at h
 | (n,k) :: r,x,k',h=>by
  have ih:=@jbs env r x k'
  have h:List.lookup x ((if (k == NameKind.free && env.scope.kind == .function && env.kindOf n == some .cell) = true then (n,NameKind.cell) else (n,k)) :: _) = _:=h
  cases hx:x == n with
  | true =>
   by_cases hq:(k == NameKind.free && env.scope.kind == .function && env.kindOf n == some .cell) = true
   ·rw [if_pos hq] at h
    have h1:=h
    simp only [List.lookup_cons,hx]
    have:k = .free:=by
     have:=(Bool.and_eq_true _ _ ▸ (Bool.and_eq_true _ _ ▸ hq).1).1
     simpa using this
    subst this
    refine .inr ⟨rfl,?_⟩
    have h2:List.lookup x ((n,NameKind.cell) :: (r.map fun (n,k)=>if (k == NameKind.free && env.scope.kind == .function && env.kindOf n == some .cell) then (n,NameKind.cell) else (n,k))) = some k':=h1
    simp only [List.lookup_cons,hx] at h2
    exact (Option.some.inj h2).symm
   ·rw [if_neg hq] at h
    simp only [List.lookup_cons,hx] at h ⊢
    exact .inl h
  | false =>
   have h':List.lookup x (r.map fun (n,k)=>if (k == NameKind.free && env.scope.kind == .function && env.kindOf n == some .cell) then (n,NameKind.cell) else (n,k)) = some k':=by
    by_cases hq:(k == NameKind.free && env.scope.kind == .function && env.kindOf n == some .cell) = true
    ·rw [if_pos hq] at h
     simpa only [List.lookup_cons,hx] using h
    ·rw [if_neg hq] at h
     simpa only [List.lookup_cons,hx] using h
   simp only [List.lookup_cons,hx]
   exact ih h'
def Cx.block (X:Cx) (scope:Scope) (N:List Str) (fp:List Addr) (s₀:Shared) (H₀:Hp) (C:Addr):Cx where
 prog:=X.prog
 w:=X.w
 K:=X.K
 mg:=X.mg
 base:=X.base
 A:=X.A
 N:=N
 s₀:=s₀
 H₀:=H₀
 env:=compEnvC scope (jbt X.env scope.names []) C X.env
 outer:=X.stack
 stack:=X.stack
 ex:=fp
 calm:=X.calm
 fn:=fun _=>false
 pn:=[]
 xe:=fun _ _=>False
theorem joe {o:Option (Option V)} {v:V} (h:o.join = some v):o = some (some v):=by
 cases o with
 | none=>cases h
 | some z=>cases z with
  | none=>cases h
  | some z=>rw [show z = v from Option.some.inj h]
theorem Inv.enter {X:Cx} {scope:Scope} {N:List Str} {src:List (Option Nat)} {pins:List (Addr × Obj)} {σ:St} {H:Hp} {s s4:Shared} {fp:List Addr} (S:CpScope X scope N src) (I:Inv X pins σ H s)
  (f2:∀ b ∈ fp,FpOk X pins H b) (lt:∀ b ∈ fp,b < s.heap.objs.size) (hns:s4.heap.Ns s.heap.objs.size fun _=>none) (hk:∀ b o,s.heap.get? b = some o→s4.heap.get? b = some o) (hos:s4.os = s.os) (hg:s4.gens = s.gens) :
  Inv (X.block scope N fp s H s.heap.objs.size) [] (cst src σ) H s4:=by
 have cells:∀ x c,(jbt X.env scope.names []).lookup x = some c→X.env.cells.lookup x = some c:=fun x c e=>by
  rcases je7 _ _ _ e with ⟨⟨y,hy,e1,e2⟩,q⟩ | q
  ·obtain ⟨c',hc'⟩:=I.ok.has y.1 (.inl (S.frees y hy e2).2)
   rw [e1] at hc'
   rw [hc'] at q ⊢
   exact congrArg some q
  ·cases q
 refine ⟨⟨I.mod,S.kind,I.ok.glob,I.ok.blt,Nat.le_refl _,fun x y c h1 h2=>I.ok.inj x y c (cells x c h1) (cells y c h2),fun x hx=>?_,fun x c h=>absurd (show false = true from h) Bool.false_ne_true,I.ok.hd,I.ok.frames,.inl rfl,fun b hb=>?_,I.bs,
   Nat.le_trans I.ok.bsz I.sz,fun b o e hb=>?_,fun b hb z=>?_,I.stack,I.stkFree⟩,hos,?_,Un.kept hk,⟨fun _=>none,hns,fun i x v h1 h2 h3=>?_⟩,fun x c e=>?_,I.fresh,fun x c e=>I.freeC x c (cells x c e),fun p hp=>?_,I.hok.kept hk,?_⟩
 ·have hx':(scope.names.map fun (n,k)=>if (k == NameKind.free && X.env.scope.kind == .function && X.env.kindOf n == some .cell) then (n,NameKind.cell) else (n,k)).lookup x = some .cell ∨ (scope.names.map fun (n,k)=>if (k == NameKind.free && X.env.scope.kind == .function && X.env.kindOf n == some .cell) then (n,NameKind.cell) else (n,k)).lookup x = some .free:=hx
  have hf:scope.names.lookup x = some .free:=by
   rcases hx' with h | h
   ·rcases jbs h with h | h
    ·exact absurd rfl (S.nocell _ (PySem.mem_of_lookup h))
    ·exact h.1
   ·rcases jbs h with h | h
    ·exact h
    ·cases h.2
  have hsome:=jef (env:=X.env) (x:=x) scope.names [] (.inl ⟨_,PySem.mem_of_lookup hf,rfl,rfl⟩)
  exact Option.isSome_iff_exists.mp hsome
 ·exact ⟨Nat.ne_of_lt (lt b hb),fun x c e=>(f2 b hb).2.2.2.2.1 x c (cells x c e)⟩
 ·have hb':b ∈ fp:=hb
  rcases (f2 b hb').2.2.2.1 with z | z
  ·exact I.ok.noex b o e z
  ·exact absurd (Nat.lt_of_lt_of_le (Heap.lt_size e) (Nat.le_trans I.ok.bsz z)) (Nat.lt_irrefl _)
 ·have hb':b ∈ fp:=hb
  have z':b ∈ frs X.stack:=z
  rcases List.mem_cons.mp (I.stkSub b z') with e | e
  ·exact (f2 b hb').2.1 e
  ·exact (f2 b hb').2.2.1 e
 ·rw [hg]; exact I.bare
 ·have h2':(src.map fun o=>o.bind fun j=>(σ[j]?).join)[i]? = some (some v):=h2
  rw [List.getElem?_map] at h2'
  cases e:src[i]? with
  | none=>rw [e] at h2'; cases h2'
  | some o =>
   rw [e] at h2'
   cases o with
   | none=>cases h2'
   | some j =>
    have h4:(σ[j]?).join = some v:=Option.some.inj h2'
    have h5:=joe h4
    obtain ⟨c1,c2⟩:=S.cap i j e
    have h1':N[i]? = some x:=h1
    rw [h1'] at c1 c2
    have c2':scope.names.lookup x = some .free:=c2
    have c3:=(S.frees _ (PySem.mem_of_lookup c2') rfl).2
    obtain ⟨m,hn,hl⟩:=I.loc
    obtain ⟨u,r,l⟩:=hl j x v c1 h5 (.inr (.inl c3))
    refine ⟨u,r,?_⟩
    have c3':X.env.kindOf x = some .cell:=c3
    rcases l with ⟨k,_⟩ | ⟨_,c,e1,z⟩
    ·rw [c3'] at k; cases k
    ·refine .inr ⟨.inl (jcd I.ok.kind c2' c3'),c,?_,?_⟩
     ·have hs:=jef (env:=X.env) (x:=x) scope.names [] (.inl ⟨_,PySem.mem_of_lookup c2',rfl,rfl⟩)
      obtain ⟨c',hc'⟩:=Option.isSome_iff_exists.mp hs
      have:=cells x c' hc'
      rw [e1] at this
      cases this
      exact hc'
     ·obtain ⟨o,ho,hd⟩:=z
      exact ⟨o,hk c o ho,hd⟩
 ·obtain ⟨v,o,ho,hd⟩:=I.cell x c (cells x c e)
  exact ⟨v,o,hk c o ho,hd⟩
 ·exact absurd (show p ∈ ([]:List (Addr × Obj)) from hp) (by simp)
 ·show (src.map _).length = N.length
  rw [List.length_map]
  exact S.len
def PIf (X:Cx) (ifs:List Expr) (t:TT):Prop :=
 ∀ (pins:List (Addr × Obj)) (s:Shared) (σ:St) (H:Hp) (Q:Bool→Hp→Prop),Inv X pins σ H s→t σ H Q →
  wpAny (model X.prog X.w) X.A (forIn ifs true fun c r=>if r = true then do let ok ← isTrue c X.env (eval c X.env); pure (ForInStep.yield ok) else pure (ForInStep.yield r)) (TP X pins σ Q) X.xe s
def jrt:TT:=fun _ H Q=>Q true H
theorem jd6 {X:Cx}:PIf X [] jrt:=fun pins s σ H Q I h=>wpAny_tests_nil ⟨H,I,h⟩
theorem jds {X:Cx} {c:Expr} {t:TT} (h:PT X c t):PIf X [c] t:=fun pins s σ H Q I hq=>wpAny_tests_one (h pins s σ H Q I hq)
def jpe (J:It) (src:List (Option Nat)) (g:TG) (tc:TT) (te:TE) (Q:VK) (σ:St) (H:Hp) (l:Addr):Prop :=
 ∃ W:Nat→Nat→St→Hp→Prop,(∃ m,W 0 m (cst src σ) (upd H l (.lst [])))∧∀ i m σ' H,W i m σ' H →
  (J.stop i H∧Q (.ref l) H) ∨ (J.go i H∧∃ N:St→Hp→Prop,(∀ σ' H',N σ' H'→∃ m',m' < m∧W (i + 1) m' σ' H')∧∀ x H',J.yld i H x H'→g x σ' H' fun σ2 H2=>tc σ2 H2 fun b H3 =>
   if b = true then te σ2 H3 fun v H4=>∃ xs,H4 l = some (.lst xs)∧xs.length < sizeLine∧N σ2 (upd H4 l (.lst (xs ++ [v]))) else N σ2 H3)
theorem jb1 {J:It} {src:List (Option Nat)} {g:TG} {tc:TT} {te:TE} {Q:VK} {σ:St} {H:Hp} {l:Addr} (n:Nat) (Iv:Nat→St→Hp→Prop) (h0:Iv 0 (cst src σ) (upd H l (.lst [])))
  (hs:∀ i σ' Hc,i < n→Iv i σ' Hc→J.go i Hc∧∀ x H',J.yld i Hc x H'→g x σ' H' fun σ2 H2=>tc σ2 H2 fun b H3 =>
   if b = true then te σ2 H3 fun v H4=>∃ xs,H4 l = some (.lst xs)∧xs.length < sizeLine∧Iv (i + 1) σ2 (upd H4 l (.lst (xs ++ [v]))) else Iv (i + 1) σ2 H3)
  (hd:∀ σ' Hc,Iv n σ' Hc→J.stop n Hc∧Q (.ref l) Hc):jpe J src g tc te Q σ H l:=by
 refine ⟨fun i m σ' Hc=>m = n - i∧i ≤ n∧Iv i σ' Hc,⟨n,by simp,Nat.zero_le _,h0⟩,?_⟩
 rintro i m σ' Hc ⟨rfl,hi,p⟩
 by_cases hlt:i < n
 ·obtain ⟨go,step⟩:=hs i σ' Hc hlt p
  exact .inr ⟨go,Iv (i + 1),fun σ2 H2 p'=>⟨n - (i + 1),by omega,rfl,hlt,p'⟩,step⟩
 ·have e:i = n:=by omega
  subst e
  exact .inl (hd σ' Hc p)
theorem jio {X:Cx} {elt tg iter:Expr} {ifs:List Expr} {scope:Scope} {pos:Pos} {N:List Str} {src:List (Option Nat)} {g:TG} {tc:TT} {te:TE} {pins:List (Addr × Obj)} {σ:St} {H2:Hp} {s2:Shared}
  {fp:List Addr} {it:Addr} {tn:Nat→Heap→Prop} {J:It} {Q:VK} {E:Value→Shared→Prop} {RR:Value→Addr→Result→Shared→Prop} (S:CpScope X scope N src) (hc:X.calm = true)
  (hg:∀ fp s₀ H₀ C,PG (X.block scope N fp s₀ H₀ C) tg g) (ht:∀ fp s₀ H₀ C,PIf (X.block scope N fp s₀ H₀ C) ifs tc) (he:∀ fp s₀ H₀ C,PE (X.block scope N fp s₀ H₀ C) elt te)
  (I2:Inv X pins σ H2 s2) (T:Turn X.prog X.w X.K tg J fp it tn) (st2:tn 0 s2.heap) (f2:∀ b ∈ fp,FpOk X pins H2 b) (hw:∀ l,H2 l = none→jpe J src g tc te Q σ H2 l)
  (hRR:∀ l C H' s',Inv X pins σ H' s'→(∃ m,s'.heap.Ns C m)→FpOk X pins H' C→Q (.ref l) H'→RR (.ref l) C (.ok .next) s') :
  wpAny (model X.prog X.w) X.A (newList []) (fun acc s₃=>wpAny (model X.prog X.w) X.A (newFunctionEnv scope X.env.globals (jbt X.env scope.names []) [] X.env.qual none .none (some X.env)) (fun cenv s₄ =>
   codeAny (model X.prog X.w) X.A (.compStart (.ListComp elt [⟨tg,iter,ifs,0⟩] scope pos) 0 (.ref it) acc { cenv with scope:=relabel scope X.env }) (RR acc cenv.locals) s₄) E s₃) E s2:=by
 have hl0:H2 s2.heap.objs.size = none:=I2.fresh
 have I3:Inv X pins σ (upd H2 s2.heap.objs.size (.lst [])) { s2 with heap:=s2.heap.push { cls:=.type "list",data:=.seq ([]:List Value).toArray } }:=I2.lnew (ys:=[]) (its:=[]) (t':=s2.toks) .nil (Nat.zero_le _)
 have ltf:∀ b ∈ fp,b < s2.heap.objs.size:=fun b hb=>by
  obtain ⟨o,e,_⟩:=T.obj _ _ st2 b hb
  exact Heap.lt_size e
 have f3:∀ b ∈ fp,FpOk X pins (upd H2 s2.heap.objs.size (.lst [])) b:=fun b hb=>⟨by rw [ja8 (Nat.ne_of_lt (ltf b hb))]; exact (f2 b hb).1,(f2 b hb).2⟩
 obtain ⟨W,⟨m0,w0⟩,turn⟩:=hw _ hl0
 refine wpAny_newObj_type (wpAny_newFunctionEnv S.nocell (by intro y hy; simp at hy) (fun h₁ hns₁ hsb₁=>?_) S.kind)
 dsimp only at hns₁ hsb₁ ⊢
 revert I3 f3
 intro I3 f3
 have st1:tn 0 (s2.heap.push { cls:=.type "list",data:=.seq ([]:List Value).toArray }):=T.keep _ _ _ st2 fun b hb o e=>Heap.get?_push_of_some _ e
 have lt3:∀ b ∈ fp,b < (s2.heap.push { cls:=.type "list",data:=.seq ([]:List Value).toArray }).objs.size:=fun b hb=>by rw [Heap.size_push]; exact Nat.lt_succ_of_lt (ltf b hb)
 generalize hH:s2.heap.push { cls:=.type "list",data:=.seq ([]:List Value).toArray } = h3 at I3 st1 lt3 hns₁ hsb₁ ⊢
 have hk:∀ b o,h3.get? b = some o→h₁.get? b = some o:=fun b o e=>hsb₁.extBut b o (Nat.ne_of_lt (Heap.lt_size e)) (Heap.get?_push_of_some _ e)
 have Ib:Inv (X.block scope N fp { s2 with heap:=h3 } (upd H2 s2.heap.objs.size (.lst [])) h3.objs.size) [] (cst src σ) (upd H2 s2.heap.objs.size (.lst [])) { s2 with heap:=h₁,toks:=s2.toks + ([]:List (Str × Value)).length } :=
  Inv.enter (s:={ s2 with heap:=h3 }) S I3 f3 lt3 hns₁ hk rfl rfl
 have fpB:∀ {H':Hp},(∀ b ∈ fp,H' b = none)→∀ b ∈ fp,FpOk (X.block scope N fp { s2 with heap:=h3 } (upd H2 s2.heap.objs.size (.lst [])) h3.objs.size) [] H' b:=fun hn b hb =>
  ⟨hn b hb,(Ib.ok.exf b hb).1,Ib.ok.exfs b hb,.inl hb,(Ib.ok.exf b hb).2,fun p hp=>absurd (show p ∈ ([]:List (Addr × Obj)) from hp) (by simp)⟩
 have tn1:tn 0 h₁:=T.keep _ _ _ st1 fun b _ o e=>hk b o e
 have loop:∀ s₃:Shared,s₃ = { s2 with heap:=h₁,toks:=s2.toks + ([]:List (Str × Value)).length } →
   codeAny (model X.prog X.w) X.A (.compLoop (.ListComp elt [⟨tg,iter,ifs,0⟩] scope pos) 0 (.ref it) (.ref s2.heap.objs.size) (compEnvC scope (jbt X.env scope.names []) h3.objs.size X.env))
    (RR (.ref s2.heap.objs.size) h3.objs.size) s₃:=by
  rintro s₃ rfl
  refine codeAny_loop rfl (fun n s'=>∃ i σ' H',Inv (X.block scope N fp { s2 with heap:=h3 } (upd H2 s2.heap.objs.size (.lst [])) h3.objs.size) [] σ' H' s'∧tn i s'.heap∧(∀ b ∈ fp,H' b = none)∧W i n σ' H') ?_ m0
   ⟨0,_,_,Ib,tn1,fun b hb=>(f3 b hb).1,w0⟩
  rintro n s5 ⟨i,σ5,H5,I5,st5,fr5,w5⟩
  show wpAny _ X.A ((compTurn (.ListComp elt [⟨tg,iter,ifs,0⟩] scope pos) 0 (.ref it) (.ref s2.heap.objs.size) (compEnvC scope (jbt X.env scope.names []) h3.objs.size X.env)).onRaise (fun x=>do noteFrame x (compEnvC scope (jbt X.env scope.names []) h3.objs.size X.env); theTreesLotGoes x)) _ _ s5
  refine wpAny_noted ?_
  rw [compTurn_list]
  refine wpAny_bind (wpAny_standAt (wpAny_bind ?_))
  rcases turn i n σ5 H5 w5 with ⟨stop,qn⟩ | ⟨go,N',hN',step⟩
  ·refine thn (T.done (X.block scope N fp { s2 with heap:=h3 } (upd H2 s2.heap.objs.size (.lst [])) h3.objs.size) rfl rfl rfl hc i [] s5 σ5 H5 _ I5 (fpB fr5) st5 stop) fun r s6 ⟨hr,I6⟩=>?_
   subst hr
   refine wpAny_pure ?_
   have u6:Un (frs X.stack) fp (upd H2 s2.heap.objs.size (.lst [])) H5 h3 s6.heap:=I6.base
   have hf6:H5 h3.objs.size = none:=I6.free
   have I7:Inv X pins σ H5 s6:=I3.call' (ch:=fp) I6.os u6 I6.hok I6.bare fun b hb=>⟨(f3 b hb).2.2.2.1,(f3 b hb).2.1,(f3 b hb).2.2.2.2.1,(f3 b hb).2.2.2.2.2⟩
   obtain ⟨m,hm,_⟩:=I6.loc
   exact hRR _ _ H5 s6 I7 ⟨m,hm⟩ (I3.fpOk (Nat.le_refl _) hf6) qn
  ·refine thn (T.item (X.block scope N fp { s2 with heap:=h3 } (upd H2 s2.heap.objs.size (.lst [])) h3.objs.size) rfl rfl rfl hc i [] s5 σ5 H5 _ I5 (fpB fr5) st5 go) fun r s6 ⟨u,hr,h6⟩=>?_
   subst hr
   refine wpAny_bind (thn h6 fun _ s7 ⟨x,H7,I7,r7,y7,st7,fr7⟩=>?_)
   have I7':=I7.pinned (fpB fr7) (T.obj _ _ st7)
   have fin:∀ {σ9:St} {H9:Hp} {s9:Shared},Inv (X.block scope N fp { s2 with heap:=h3 } (upd H2 s2.heap.objs.size (.lst [])) h3.objs.size) ([] ++ ji1 fp s7.heap) σ9 H9 s9→N' σ9 H9 →
     ∃ m,m < n∧∃ i σ' H',Inv (X.block scope N fp { s2 with heap:=h3 } (upd H2 s2.heap.objs.size (.lst [])) h3.objs.size) [] σ' H' s9∧tn i s9.heap∧(∀ b ∈ fp,H' b = none)∧W i m σ' H':=fun {σ9 H9 s9} I9 n9=>by
    obtain ⟨m',hm,w9⟩:=hN' σ9 H9 n9
    refine ⟨m',hm,i + 1,σ9,H9,I9.unpinned,T.keep _ _ _ st7 fun b hb o e=>(I9.pin (b,o) (List.mem_append_right _ (List.mem_append_right _ (jdj hb e)))).1,fun b hb=>?_,w9⟩
    obtain ⟨o,e,d⟩:=T.obj _ _ st7 b hb
    exact (I9.pin (b,o) (List.mem_append_right _ (List.mem_append_right _ (jdj hb e)))).2.1
   refine wpAny_bind (wpAny_mono (hg fp _ _ _ _ s7 σ5 H7 x u _ I7' r7 (step x H7 y7)) (fun _ s8 ⟨σ8,H8,I8,q8⟩=>?_) fun _ _ z=>False.elim z)
   refine wpAny_bind (wpAny_mono (ht fp _ _ _ _ s8 σ8 H8 _ I8 q8) (fun ok s9 ⟨H9,I9,q9⟩=>?_) fun _ _ z=>False.elim z)
   cases ok with
   | false=>exact wpAny_pure ⟨rfl,fin I9 q9⟩
   | true =>
    refine wpAny_bind (wpAny_bind (wpAny_mono (he fp _ _ _ _ s9 σ8 H9 _ I9 q9) (fun v s10 ⟨y,H10,I10,r10,xs,hx,hz,q10⟩=>?_) fun _ _ z=>False.elim z))
    refine wpAny_bind (wpAny_mono (ji9 (X:=X.block scope N fp { s2 with heap:=h3 } (upd H2 s2.heap.objs.size (.lst [])) h3.objs.size) _ s10 σ8 H10 (.ref s2.heap.objs.size) [y] _ [v] (fun _ H11=>N' σ8 H11) I10 rfl (.cons r10 .nil) ⟨_,xs,y,rfl,rfl,hx,hz,q10⟩)
     (fun _ s11 ⟨_,H11,I11,_,q11⟩=>wpAny_pure (wpAny_pure ⟨rfl,fin I11 q11⟩)) fun _ _ z=>False.elim z)
 exact codeAny_compStart_list (loop _ rfl) (T.self _ 0 _ _ _ tn1 (loop _ rfl))
def jpj (src:List (Option Nat)) (wi:TI) (g:TG) (tc:TT) (te:TE):TE:=fun σ H Q=>wi σ H fun J H1=>∀ l,H1 l = none→jpe J src g tc te Q σ H1 l
theorem jcb {X:Cx} {elt tg iter:Expr} {ifs:List Expr} {scope:Scope} {pos:Pos} {N:List Str} {src:List (Option Nat)} {wi:TI} {g:TG} {tc:TT} {te:TE} (S:CpScope X scope N src) (hc:X.calm = true)
  (hi:PI X tg iter wi) (hg:∀ fp s₀ H₀ C,PG (X.block scope N fp s₀ H₀ C) tg g) (ht:∀ fp s₀ H₀ C,PIf (X.block scope N fp s₀ H₀ C) ifs tc) (he:∀ fp s₀ H₀ C,PE (X.block scope N fp s₀ H₀ C) elt te)
  (hs:∀ x,foldedSetIterable iter X.env x = pure x:=by intro _; rfl):PE X (.ListComp elt [⟨tg,iter,ifs,0⟩] scope pos) (jpj src wi g tc te):=by
 intro pins s σ H Q I h
 rw [eval_ListComp]
 refine wpAny_comprehension_free (use:=none) rfl hs (jcv fun y hy e=>I.ok.has y.1 (.inl (S.frees y hy e).2)) S.kind S.locs ?_
 refine thn (hi pins s σ H _ I h) fun v s1 h1=>thn h1 fun itv s2 h2=>?_
 obtain ⟨it,fp,tn,J,H2,e,I2,T,st2,f2,hw⟩:=h2
 subst e
 refine jio (RR:=fun acc C=>compPost (model X.prog X.w) X.A X.xe none (EP X pins σ Q) acc C) S hc hg ht he I2 T st2 f2 hw ?_
 intro l C H' s' I' hm fC q
 obtain ⟨m,hm⟩:=hm
 refine ⟨m,hm,fun h' hs'=>?_⟩
 exact ⟨.ref l,H',I'.turned (t':=s'.toks) (fun b o hb e=>hs'.extBut b o hb e) fC.1 fC.2.1 fC.2.2.2.1 fC.2.2.2.2.1 fC.2.2.2.2.2,rfl,q⟩
theorem jgu {X:Cx} {i:Nat} {x:Str} {pos' spos:Pos} {elt tg iter:Expr} {ifs:List Expr} {scope:Scope} {pos:Pos} {N:List Str} {src:List (Option Nat)} {wi:TI} {g:TG} {tc:TT} {te:TE} (hN:X.N.Nodup) (hix:X.N[i]? = some x) (hx:Loc X.env.scope x)
  (S:CpScope X scope N src) (hc:X.calm = true)
  (hi:PI X tg iter wi) (hg:∀ fp s₀ H₀ C,PG (X.block scope N fp s₀ H₀ C) tg g) (ht:∀ fp s₀ H₀ C,PIf (X.block scope N fp s₀ H₀ C) ifs tc) (he:∀ fp s₀ H₀ C,PE (X.block scope N fp s₀ H₀ C) elt te)
  (hsw:swapsWith (.ListComp elt [⟨tg,iter,ifs,0⟩] scope pos) (some (.Name x pos')) spos.line X.env = pure true:=by rfl)
  (hs:∀ x,foldedSetIterable iter X.env x = pure x:=by intro _; rfl) (hf:X.fn x = true ∨ X.env.scope.names.lookup x = some .local:=by first | exact .inl rfl | exact .inr rfl | assumption) :
  PS X (.Assign [.Name x pos'] (.ListComp elt [⟨tg,iter,ifs,0⟩] scope pos) spos) (tAsg (jpj src wi g tc te) (jd1 i)):=by
 intro pins s σ H D I h
 rw [exec_Assign_Name_used _ _ _ _ hsw]
 refine wpAny_bind (wpAny_standAt (wpAny_bind ?_))
 show wpAny _ X.A (do let _ ← comprehension (.ListComp elt [⟨tg,iter,ifs,0⟩] scope pos) scope X.env _ (newList []) false (eval iter X.env) (some (assign (.Name x pos') X.env))) _ _ s
 refine wpAny_bind (wpAny_mono (wpAny_comprehension_free (use:=some (assign (.Name x pos') X.env)) (Q:=fun _ s'=>SP X pins D .next s') rfl hs (jcv fun y hy e=>I.ok.has y.1 (.inl (S.frees y hy e).2)) S.kind S.locs
  (thn (hi pins s σ H _ I h) fun v s1 h1=>thn h1 fun itv s2 h2=>?_)) (fun _ s' hq=>wpAny_pure (wpAny_pure hq)) fun _ _ e=>e)
 obtain ⟨it,fp,tn,J,H2,e,I2,T,st2,f2,hw⟩:=h2
 subst e
 refine jio (Q:=fun v H'=>D.nx (σ.set i (some v)) H') (RR:=fun acc C=>compPost (model X.prog X.w) X.A X.xe (some (assign (.Name x pos') X.env)) (fun _ s'=>SP X pins D .next s') acc C) S hc hg ht he I2 T st2 f2 hw ?_
 intro l C H' s' I' hm fC q
 obtain ⟨m,hm⟩:=hm
 show wpAny _ X.A (assign (.Name x pos') X.env (.ref l)) _ _ _
 refine wpAny_assign_Name (jht I' hN hix hx (v:=.ref l) rfl (fun s'' I'' ⟨a,sb,ha⟩=>?_) hf)
 have hCa:C ≠ a:=by
  rcases ha with rfl | ha
  ·exact fC.2.1
  ·exact fun z=>fC.2.2.2.2.1 x a ha z.symm
 refine ⟨m,hm.sameBut sb hCa,fun h' hs'=>?_⟩
 exact ⟨_,H',I''.turned (t':=s''.toks) (fun b o hb e=>hs'.extBut b o hb e) fC.1 fC.2.1 fC.2.2.2.1 fC.2.2.2.2.1 fC.2.2.2.2.2,q⟩
end L2
namespace L2
open PySem PySem.Spec PyProof.Rows
theorem Inv.turnedNew {X:Cx} {pins:List (Addr × Obj)} {σ:St} {H:Hp} {s:Shared} {h':Heap} {ch:List Addr} {t:Addr} {o:HO} {t':Nat} (I:Inv X pins σ H s) (hsz:s.heap.objs.size ≤ t)
  (k:∀ b ob,b ∉ ch→s.heap.get? b = some ob→h'.get? b = some ob) (hch:∀ b ∈ ch,FpOk X pins H b) (new:jbb X.prog X.w (upd H t o) h' t o) :
  Inv X pins σ (upd H t o) { s with heap:=h',toks:=t' }:=by
 have hn:H t = none:=I.hok.fresh hsz
 have nt:∀ {b ob},s.heap.get? b = some ob→b ≠ t:=fun q=>Nat.ne_of_lt (Nat.lt_of_lt_of_le (Heap.lt_size q) hsz)
 have u:Un (frs X.stack) ch H (upd H t o) s.heap h' :=
  ⟨fun b ob q _ _ hx=>k b ob hx q,fun b ob q _ _ hx=>⟨ob.slots,k b ob hx q⟩,fun b ob q n _=>by rw [ja8 (nt q)]; exact n,fun b ob q hx=>⟨ob,k b ob hx q⟩,
   fun b xs q=>by rw [ja8 (ja7 q hn)]; exact q,fun b ob xs q=>by rw [ja8 (ja7 q hn)]; exact q,fun b ps q=>⟨#[],by rw [ja8 (ja7 q hn),q]; simp⟩⟩
 refine I.call (g':=s.gens) (t':=t') (d':=s.drawn) u (fun b ob e=>?_) I.bare fun b hb=>⟨(hch b hb).2.2.2.1,(hch b hb).2.1,(hch b hb).2.2.2.2.1,(hch b hb).2.2.2.2.2⟩
 by_cases hb:b = t
 ·subst hb; rw [ja1] at e; cases e; exact new
 ·rw [ja8 hb] at e
  have ntr:∀ {c u},H c = some u→c ∉ ch:=fun q z=>by rw [(hch _ z).1] at q; cases q
  refine (I.hok b ob e).stay (fun c v hc q=>k c v ?_ q) (fun c q=>by rw [ja8 (ja7 q hn)]; exact q) fun c xs q=>by rw [ja8 (ja7 q hn)]; exact q
  rcases hc with z | z
  ·rw [z]; exact ntr e
  ·exact ntr z
theorem Inv.turnedAll {X:Cx} {pins:List (Addr × Obj)} {σ:St} {H:Hp} {s:Shared} {h':Heap} {ch:List Addr} {t':Nat} (I:Inv X pins σ H s)
  (k:∀ b ob,b ∉ ch→s.heap.get? b = some ob→h'.get? b = some ob) (hch:∀ b ∈ ch,FpOk X pins H b):Inv X pins σ H { s with heap:=h',toks:=t' }:=by
 have u:Un (frs X.stack) ch H H s.heap h' :=
  ⟨fun b ob q _ _ hx=>k b ob hx q,fun b ob q _ _ hx=>⟨ob.slots,k b ob hx q⟩,fun b ob q n _=>n,fun b ob q hx=>⟨ob,k b ob hx q⟩,fun b xs q=>q,fun b ob xs q=>q,fun b ps q=>⟨#[],by rw [q]; simp⟩⟩
 refine I.call (g':=s.gens) (t':=t') (d':=s.drawn) u (fun b ob e=>?_) I.bare fun b hb=>⟨(hch b hb).2.2.2.1,(hch b hb).2.1,(hch b hb).2.2.2.2.1,(hch b hb).2.2.2.2.2⟩
 have ntr:∀ {c u},H c = some u→c ∉ ch:=fun q z=>by rw [(hch _ z).1] at q; cases q
 refine (I.hok b ob e).stay (fun c v hc q=>k c v ?_ q) (fun c q=>q) fun c xs q=>q
 rcases hc with z | z
 ·rw [z]; exact ntr e
 ·exact ntr z
def Ite (K:PySem.W.Frag) (a:Addr):It :=
 ⟨fun i H=>∃ xs x,SqL K H a xs∧xs[i]? = some x,fun i H x H'=>∃ t y,H t = none∧x = .ref t∧H' = upd H t (.tup [.int i,y])∧∀ xs,SqL K H a xs→xs[i]? = some y,fun i H=>∃ xs,SqL K H a xs∧xs.length ≤ i⟩
theorem jmd {P:Program} {w:World} {K:PySem.W.Frag} {elts:List Expr} {x1:Nat} {pos:Pos} (a e it:Addr) (hne:e ≠ it) :
  Turn P w K (.Tuple elts x1 pos) (Ite K a) [e,it] e (fun i h=>(∃ old,IsEnum h e it i old)∧h.IsListIter it a i) where
 mem:=by simp
 obj:=fun i h st b hb=>by
  obtain ⟨⟨old,he⟩,hit⟩:=st
  have q:b = e ∨ b = it:=by simpa using hb
  rcases q with rfl | rfl
  ·exact ⟨_,he,fun v z=>by
    have z':Data.fields _ = Data.cell v:=z
    cases z'⟩
  ·obtain ⟨o,e1,c,d⟩:=hit
   exact ⟨o,e1,fun v z=>by rw [d] at z; cases z⟩
 keep:=fun i h h' st k=>by
  obtain ⟨⟨old,he⟩,hit⟩:=st
  exact ⟨⟨old,k e (by simp) _ he⟩,hit.at fun o z=>k it (by simp) o z⟩
 item:=by
  intro X hP hw hK hc i pins s σ H E I hf st hg
  subst hP hw hK
  obtain ⟨⟨old,he⟩,hit⟩:=st
  obtain ⟨xs,x,hq,hx⟩:=hg
  obtain ⟨its,rv,p,hz⟩:=I.list hq
  obtain ⟨u,hu,ru⟩:=rv.get hx
  have elt:e < s.heap.objs.size:=Heap.lt_size he
  have ilt:it < s.heap.objs.size:=by obtain ⟨_,z,_⟩:=hit; exact Heap.lt_size z
  refine wpAny_pyNext_enum_item he hit p.isList (x:=u) (by simpa using hu) hne fun h1 ho hit1 hT hsz1 hk1=>?_
  refine ⟨_,rfl,wpAny_letOwnedTupleGo_enum ho fun h2 he2 hs2=>?_⟩
  replace hs2:Heap.SameBut e h1 h2:=hs2
  have kk:∀ b ob,b ∉ [e,it]→s.heap.get? b = some ob→h2.get? b = some ob:=fun b ob hb q=>by
   have hb':b ≠ e∧b ≠ it:=by simpa using hb
   exact hs2.extBut b ob hb'.1 (hk1 b ob hb'.1 hb'.2 q)
  have hT2:h2.get? s.heap.objs.size = some { cls:=.type "tuple",data:=.seq #[.int i s.toks,u] }:=(hs2.2 _ (Nat.ne_of_gt elt)).trans hT
  refine ⟨.ref s.heap.objs.size,upd H s.heap.objs.size (.tup [.int i,x]),I.turnedNew (ch:=[e,it]) (Nat.le_refl _) kk hf ?_,rfl,⟨_,x,I.fresh,rfl,rfl,fun ys hy=>by rw [I.list_inj hy hq]; exact hx⟩,⟨⟨u,by simpa using he2⟩,hit1.at fun o z=>(hs2.2 it hne.symm).trans z⟩,fun b hb=>?_⟩
  ·exact ⟨by show 2 ≤ sizeLine; decide,[.int i s.toks,u],.cons ⟨_,rfl⟩ (.cons ru .nil),⟨_,hT2,rfl,_,rfl⟩⟩
  ·have hb':b = e ∨ b = it:=by simpa using hb
   have:b ≠ s.heap.objs.size:=by
    rcases hb' with rfl | rfl
    ·exact Nat.ne_of_lt elt
    ·exact Nat.ne_of_lt ilt
   rw [ja8 this]
   exact (hf b hb).1
 done:=by
  intro X hP hw hK hc i pins s σ H E I hf st hg
  subst hP hw hK
  obtain ⟨⟨old,he⟩,hit⟩:=st
  obtain ⟨xs,hq,hx⟩:=hg
  obtain ⟨its,rv,p,hz⟩:=I.list hq
  have hl:=rv.length
  refine wpAny_pyNext_enum_end (I.ok.hd hc) he hit p.isList (by simp; omega) fun h' eb=>⟨rfl,I.turnedAll (ch:=[e,it]) (t':=s.toks) (fun b o hb q=>eb b o (fun z=>hb (by simp [z])) q) hf⟩
 self:=fun _ _ _ _ _ st h=>by
  obtain ⟨⟨old,he⟩,_⟩:=st
  exact wpAny_pyIter_enum he h
def iEnum (K:PySem.W.Frag) (ta:TA):TI:=fun σ H R=>ta σ H fun vs H1=>∃ a,vs = [.ref a]∧(∃ xs,SqL K H1 a xs)∧R (Ite K a) H1
theorem jnl {X:Cx} {elts:List Expr} {x1:Nat} {tpos:Pos} {a:Expr} {ta:TA} {p pos:Pos} (hg:Gl X "enumerate") (hm:X.mg "enumerate" = none) (ha:PA X [a] ta) (hs:starEach [a] X.env = [(false,eval a X.env)]:=by rfl) :
  PI X (.Tuple elts x1 tpos) (.Call (.Name "enumerate" p) [a] [] pos) (iEnum X.K ta):=by
 intro pins s σ H R I h
 refine Call_ (jej I hg hm boot_enumerate (PyProof.Rows.callWith_type1 (thn (ha pos pins s σ H _ I h) fun us s1 ⟨vs,H1,I1,r1,q1⟩=>?_) hs rfl))
 obtain ⟨a,e,⟨xs,hq⟩,q⟩:=q1
 subst e
 cases r1 with
 | cons r rr =>
  cases rr
  cases r
  obtain ⟨its,rv,pl,hz⟩:=I1.list hq
  refine call_enumerate_list pl.isList fun h' he hit hsz hk=>?_
  refine wpAny_pyIter_enum he ?_
  have I2:Inv X pins σ H1 { s1 with heap:=h' }:=I1.kept (t':=s1.toks) fun b o q=>hk b o q
  refine ⟨_,[s1.heap.objs.size + 1,s1.heap.objs.size],_,_,H1,rfl,I2,jmd a _ _ (Nat.succ_ne_self _),⟨⟨_,he⟩,hit⟩,fun b hb=>?_,q⟩
  have hb':b = s1.heap.objs.size + 1 ∨ b = s1.heap.objs.size:=by simpa using hb
  rcases hb' with rfl | rfl
  ·exact I1.fpOk (Nat.le_succ _) (I1.hok.fresh (Nat.le_succ _))
  ·exact I1.fpOk (Nat.le_refl _) (I1.hok.fresh (Nat.le_refl _))
end L2
namespace L2
open PySem PySem.Spec PyProof.Rows
section
variable {prog:Program} {w:World} {A:Around} {E:Value→Shared→Prop} {s:Shared}
theorem jln {j t:Addr} {k:Nat} {ar:Array Value} {x:Value} {Q:Value→Shared→Prop} (hj:s.heap.IsTupleIter j t k) (ht:s.heap.IsTuple t ar) (hx:ar[k]? = some x)
  (hQ:∀ h',h'.IsTupleIter j t (k + 1)→Heap.SameBut j s.heap h'→Q x { s with heap:=h' }):wpAny (model prog w) A (Builtin.SmallTypes.nextOf (.ref j)) Q E s:=by
 obtain ⟨ob,e0,hcl,hdt⟩:=id hj
 obtain ⟨ot,e1,_,nt,hdl⟩:=ht
 unfold Builtin.SmallTypes.nextOf
 refine wpAny_bind (wpAny_callSpecial?_slot (name:=Str.ofString "__next__") hj.typeIs F.slot_tuple_iterator_next (wpAny_call_entry F.slot_tuple_iterator_next hj.typeIs F.entry_tuple_iterator_next ?_ (F.args_tuple_iterator_next_1 _)))
 show wpAny _ _ (field (.ref j) 0 >>= _) _ _ s
 refine wpAny_bind (wpAny_field e0 hdt (x:=.ref t) rfl ?_)
 show wpAny _ _ (if (Value.ref t == Value.none) = true then _ else _) _ _ s
 rw [if_neg (show ¬ ((Value.ref t == Value.none) = true) from Bool.false_ne_true)]
 show wpAny _ _ (field (.ref j) 1 >>= _) _ _ s
 refine wpAny_bind (wpAny_field e0 hdt (x:=.int k 0) rfl ?_)
 show wpAny _ _ (seqItems? (.ref t) >>= _) _ _ s
 refine wpAny_bind (wpAny_seqItems e1 hdl ?_)
 simp only [Int.toNat_natCast,hx]
 refine wpAny_bind (wpAny_setField e0 hdt (by simp) (wpAny_pure ⟨x,rfl,wpAny_pure (hQ _ ?_ (Heap.SameBut.update ..))⟩))
 exact ⟨_,Heap.get?_update_self _ e0 (Obj.isFreed_of_fields (Obj.data_mapFields hdt _)),(Obj.cls_mapFields ..).trans hcl,by rw [Obj.data_mapFields hdt]; simp [rawInt]⟩
theorem jfx {j t:Addr} {k:Nat} {ar:Array Value} {Q:Value→Shared→Prop} (hh:A.handled = none) (hj:s.heap.IsTupleIter j t k) (ht:s.heap.IsTuple t ar) (hx:ar[k]? = none)
  (hE:∀ h' e,Heap.ExtBut j s.heap h'→(∃ o,h'.get? e = some o∧o.cls = .type "StopIteration")→E (.ref e) { s with heap:=h' }):wpAny (model prog w) A (Builtin.SmallTypes.nextOf (.ref j)) Q E s:=by
 obtain ⟨ob,e0,hcl,hdt⟩:=id hj
 obtain ⟨ot,e1,_,nt,hdl⟩:=ht
 unfold Builtin.SmallTypes.nextOf
 refine wpAny_bind (wpAny_callSpecial?_slot (name:=Str.ofString "__next__") hj.typeIs F.slot_tuple_iterator_next (wpAny_call_entry F.slot_tuple_iterator_next hj.typeIs F.entry_tuple_iterator_next ?_ (F.args_tuple_iterator_next_1 _)))
 show wpAny _ _ (field (.ref j) 0 >>= _) _ _ s
 refine wpAny_bind (wpAny_field e0 hdt (x:=.ref t) rfl ?_)
 show wpAny _ _ (if (Value.ref t == Value.none) = true then _ else _) _ _ s
 rw [if_neg (show ¬ ((Value.ref t == Value.none) = true) from Bool.false_ne_true)]
 show wpAny _ _ (field (.ref j) 1 >>= _) _ _ s
 refine wpAny_bind (wpAny_field e0 hdt (x:=.int k 0) rfl ?_)
 show wpAny _ _ (seqItems? (.ref t) >>= _) _ _ s
 refine wpAny_bind (wpAny_seqItems e1 hdl ?_)
 simp only [Int.toNat_natCast,hx]
 refine wpAny_bind (wpAny_rule (wpAny_bind (wpAny_setField e0 hdt (by simp) ?_)))
 show wpAny _ _ (newExc (.type "StopIteration") [] >>= _) _ _ _
 refine wpAny_bind ?_
 simp only [newExc,newTuple]
 refine wpAny_bind (wpAny_newObj_type ?_ (by size_fits))
 refine wpAny_bind (m:=firstArgMember _ _) (wpAny_of_eq (a:=Value.none) (by first | rfl | (simp only [firstArgMember]; rfl)) ?_)
 refine wpAny_newObj_type ?_ (by size_fits)
 simp only [raiseNew]
 refine wpAny_bind (wpAny_handled ?_)
 first | rw [show A.in1.handled = none from hh] | rw [hh]
 refine wpAny_bind (wpAny_pure (wpAny_throw ?_))
 exact hE _ _ (((Heap.SameBut.update ..).extBut.push _).push _) ⟨_,Heap.get?_push_size _ rfl,rfl⟩
def IsSq (b:Bool) (h:Heap) (l:Addr) (ar:Array Value):Prop:=if b = true then h.IsList l ar else h.IsTuple l ar
def jbq (b:Bool) (h:Heap) (j l:Addr) (k:Nat):Prop:=if b = true then h.IsListIter j l k else h.IsTupleIter j l k
theorem IsSq.at' {b:Bool} {h h':Heap} {l:Addr} {ar:Array Value} (x:IsSq b h l ar) (k:∀ o,h.get? l = some o→h'.get? l = some o):IsSq b h' l ar:=by
 cases b with
 | true=>obtain ⟨o,e,r⟩:=(show h.IsList l ar from x); exact (show h'.IsList l ar from ⟨o,k o e,r⟩)
 | false=>obtain ⟨o,e,r⟩:=(show h.IsTuple l ar from x); exact (show h'.IsTuple l ar from ⟨o,k o e,r⟩)
theorem jbq.at' {b:Bool} {h h':Heap} {j l:Addr} {i:Nat} (x:jbq b h j l i) (k:∀ o,h.get? j = some o→h'.get? j = some o):jbq b h' j l i:=by
 cases b with
 | true=>obtain ⟨o,e,r⟩:=(show h.IsListIter j l i from x); exact (show h'.IsListIter j l i from ⟨o,k o e,r⟩)
 | false=>obtain ⟨o,e,r⟩:=(show h.IsTupleIter j l i from x); exact (show h'.IsTupleIter j l i from ⟨o,k o e,r⟩)
theorem jbq.obj {b:Bool} {h:Heap} {j l:Addr} {i:Nat} (x:jbq b h j l i):∃ o,h.get? j = some o∧∀ v,o.data ≠ .cell v:=by
 cases b with
 | true=>obtain ⟨o,e,_,d⟩:=(show h.IsListIter j l i from x); exact ⟨o,e,fun v z=>by rw [d] at z; cases z⟩
 | false=>obtain ⟨o,e,_,d⟩:=(show h.IsTupleIter j l i from x); exact ⟨o,e,fun v z=>by rw [d] at z; cases z⟩
theorem jfe {b:Bool} {j l:Addr} {k:Nat} {ar:Array Value} {x:Value} {Q:Value→Shared→Prop} (hj:jbq b s.heap j l k) (hl:IsSq b s.heap l ar) (hx:ar[k]? = some x)
  (hQ:∀ h',jbq b h' j l (k + 1)→Heap.SameBut j s.heap h'→Q x { s with heap:=h' }):wpAny (model prog w) A (Builtin.SmallTypes.nextOf (.ref j)) Q E s:=by
 cases b with
 | true=>exact wpAny_nextOf_list_item (show s.heap.IsListIter j l k from hj) (show s.heap.IsList l ar from hl) hx fun h' a b=>hQ h' a b
 | false=>exact jln (show s.heap.IsTupleIter j l k from hj) (show s.heap.IsTuple l ar from hl) hx fun h' a b=>hQ h' a b
theorem je1 {b:Bool} {j l:Addr} {k:Nat} {ar:Array Value} {Q:Value→Shared→Prop} (hh:A.handled = none) (hj:jbq b s.heap j l k) (hl:IsSq b s.heap l ar) (hx:ar[k]? = none)
  (hE:∀ h' e,Heap.ExtBut j s.heap h'→(∃ o,h'.get? e = some o∧o.cls = .type "StopIteration")→E (.ref e) { s with heap:=h' }):wpAny (model prog w) A (Builtin.SmallTypes.nextOf (.ref j)) Q E s:=by
 cases b with
 | true=>exact wpAny_nextOf_list_end hh (show s.heap.IsListIter j l k from hj) (show s.heap.IsList l ar from hl) hx hE
 | false=>exact jfx hh (show s.heap.IsTupleIter j l k from hj) (show s.heap.IsTuple l ar from hl) hx hE
theorem jhm {b:Bool} {z TI TO i1 i2 l1 l2:Addr} {k1 k2:Nat} {xs ys:Array Value} {x y v0 v1:Value} {Q:Value→Shared→Prop} (D:ZipApart z TI TO i1 i2 l1 l2)
  (hz:IsZip s.heap z TI TO .none) (hTI:IsPair s.heap TI (.ref i1) (.ref i2)) (hTO:IsPair s.heap TO v0 v1)
  (h1:jbq b s.heap i1 l1 k1) (h2:jbq b s.heap i2 l2 k2) (hl1:IsSq b s.heap l1 xs) (hl2:IsSq b s.heap l2 ys) (hx:xs[k1]? = some x) (hy:ys[k2]? = some y)
  (hQ:∀ h',IsZip h' z TI TO (rawInt s.heap.objs.size)→IsPair h' TO x y→jbq b h' i1 l1 (k1 + 1)→jbq b h' i2 l2 (k2 + 1)→IsPair h' s.heap.objs.size x y →
   (∀ c o,c ≠ z→c ≠ TO→c ≠ i1→c ≠ i2→s.heap.get? c = some o→h'.get? c = some o)→Q (.ref s.heap.objs.size) { s with heap:=h' }) :
  wpAny (model prog w) A (Builtin.«zip.__next__» ⟨[.ref z],[]⟩) (fun fin s'=>∃ v,fin = .done (.ret v)∧Q v s') E s:=by
 show wpAny _ _ (field (.ref z) 2 >>= _) _ _ _
 refine wpAny_bind (wpAny_field hz rfl (x:=.bool false) rfl ?_)
 show wpAny _ _ (field (.ref z) 3 >>= _) _ _ _
 refine wpAny_bind (wpAny_field hz rfl (x:=.ref TI) rfl ?_)
 refine wpAny_bind (wpAny_seqItems hTI rfl ?_)
 show wpAny _ _ (Builtin.SmallTypes.ownedTupleIsFree (.ref z) >>= _) _ _ _
 refine wpAny_bind ?_
 unfold Builtin.SmallTypes.ownedTupleIsFree
 refine wpAny_bind (wpAny_field hz rfl (x:=.none) rfl (wpAny_pure ?_))
 simp only [if_true]
 refine wpAny_bind (wpAny_rule ?_)
 refine wpAny_bind (wpAny_field hz rfl (x:=.ref TO) rfl ?_)
 refine wpAny_bind (wpAny_setField_rec hz (by simp) fun g1 hzA sA=>?_)
 replace hzA:IsZip g1 z TI TO .ellipsis:=hzA
 refine wpAny_bind ?_
 simp only [List.zipIdx_cons,List.zipIdx_nil,List.forIn_cons,List.forIn_nil]
 refine wpAny_bind (wpAny_bind (wpAny_onRaise ?_))
 show wpAny _ _ (Builtin.SmallTypes.nextOf (.ref i1) >>= _) _ _ _
 refine wpAny_bind (jfe (b:=b) (h1.at' fun o e=>sA.extBut _ o D.i1z e) (hl1.at' fun o e=>sA.extBut _ o D.l1z e) hx fun g2 h1B sB=>wpAny_pure ?_)
 have TOB:IsPair g2 TO v0 v1:=sB.extBut _ _ D.TOi1 (sA.extBut _ _ D.TOz hTO)
 refine wpAny_bind (wpAny_seqItems TOB rfl ?_)
 refine wpAny_bind (wpAny_updateSeq_pair TOB fun g3 TOC sC=>?_)
 replace TOC:IsPair g3 TO x v1:=TOC
 refine wpAny_bind (wpAny_letGo (wpAny_pure ?_))
 refine wpAny_bind (wpAny_bind (wpAny_onRaise ?_))
 show wpAny _ _ (Builtin.SmallTypes.nextOf (.ref i2) >>= _) _ _ _
 refine wpAny_bind (jfe (b:=b) (h2.at' fun o e=>sC.extBut _ o D.TOi2.symm (sB.extBut _ o D.i12.symm (sA.extBut _ o D.i2z e))) (hl2.at' fun o e=>sC.extBut _ o D.l2TO (sB.extBut _ o D.l2i1 (sA.extBut _ o D.l2z e))) hy fun g4 h2D sD=>wpAny_pure ?_)
 have TOD:IsPair g4 TO x v1:=sD.extBut _ _ D.TOi2 TOC
 refine wpAny_bind (wpAny_seqItems TOD rfl ?_)
 refine wpAny_bind (wpAny_updateSeq_pair TOD fun g5 TOE sE=>?_)
 replace TOE:IsPair g5 TO x y:=TOE
 refine wpAny_bind (wpAny_letGo (wpAny_pure (wpAny_pure ?_)))
 refine wpAny_bind (wpAny_seqItems TOE rfl ?_)
 refine wpAny_bind (wpAny_newTuple ?_)
 have hsz:g5.objs.size = s.heap.objs.size:=by rw [sE.1,sD.1,sC.1,sB.1,sA.1]
 have hzE:IsZip g5 z TI TO .ellipsis:=sE.extBut _ _ D.TOz.symm (sD.extBut _ _ D.i2z.symm (sC.extBut _ _ D.TOz.symm (sB.extBut _ _ D.i1z.symm hzA)))
 have hkE:∀ c o,c ≠ z→c ≠ TO→c ≠ i1→c ≠ i2→s.heap.get? c = some o→g5.get? c = some o:=fun c o c1 c2 c3 c4 e=>sE.extBut _ _ c2 (sD.extBut _ _ c4 (sC.extBut _ _ c2 (sB.extBut _ _ c3 (sA.extBut _ _ c1 e))))
 have h1E:jbq b g5 i1 l1 (k1 + 1):=h1B.at' fun o e=>sE.extBut _ o D.TOi1.symm (sD.extBut _ o D.i12 (sC.extBut _ o D.TOi1.symm e))
 have h2E:jbq b g5 i2 l2 (k2 + 1):=h2D.at' fun o e=>sE.extBut _ o D.TOi2.symm e
 have zlt:z < g5.objs.size:=Heap.lt_size hzE
 show wpAny _ _ (Builtin.SmallTypes.ownedTupleHandOut (.ref z) (.ref g5.objs.size) >>= _) _ _ _
 refine wpAny_bind ?_
 unfold Builtin.SmallTypes.ownedTupleHandOut
 have hzF:IsZip (g5.push { cls:=.type "tuple",data:=.seq #[x,y] }) z TI TO .ellipsis:=Heap.get?_push_of_some _ hzE
 refine wpAny_bind (wpAny_setField_rec hzF (by simp) fun g7 hzG sG=>?_)
 replace hzG:IsZip g7 z TI TO (rawInt g5.objs.size):=hzG
 refine wpAny_setField_rec hzG (by simp) fun g8 hzI sI=>?_
 replace hzI:IsZip g8 z TI TO (rawInt g5.objs.size):=hzI
 have up:∀ c o,c ≠ z→g5.get? c = some o→g8.get? c = some o:=fun c o c1 e=>sI.extBut _ _ c1 (sG.extBut _ _ c1 (Heap.get?_push_of_some _ e))
 have hTI8:IsPair g8 g5.objs.size x y:=sI.extBut _ _ (Nat.ne_of_gt zlt) (sG.extBut _ _ (Nat.ne_of_gt zlt) (Heap.get?_push_size _ rfl))
 rw [hsz] at hzI hTI8
 refine wpAny_pure ⟨_,rfl,?_⟩
 show Q (.ref g5.objs.size) _
 rw [hsz]
 exact hQ g8 hzI (up _ _ D.TOz TOE) (h1E.at' fun o e=>up _ o D.i1z e) (h2E.at' fun o e=>up _ o D.i2z e) hTI8 fun c o c1 c2 c3 c4 e=>up c o c1 (hkE c o c1 c2 c3 c4 e)
theorem jiw {b:Bool} {z TI TO i1 i2 l1 l2:Addr} {k1 k2:Nat} {xs ys:Array Value} {v0 v1:Value} {Q:Fin→Shared→Prop} (hh:A.handled = none) (D:ZipApart z TI TO i1 i2 l1 l2)
  (hz:IsZip s.heap z TI TO .none) (hTI:IsPair s.heap TI (.ref i1) (.ref i2)) (hTO:IsPair s.heap TO v0 v1)
  (h1:jbq b s.heap i1 l1 k1) (h2:jbq b s.heap i2 l2 k2) (hl1:IsSq b s.heap l1 xs) (hl2:IsSq b s.heap l2 ys) (hend:xs[k1]? = none ∨ ys[k2]? = none)
  (hE:∀ h' e,(∀ c o,c ≠ z→c ≠ TO→c ≠ i1→c ≠ i2→s.heap.get? c = some o→h'.get? c = some o)→(∃ o,h'.get? e = some o∧o.cls = .type "StopIteration")→E (.ref e) { s with heap:=h' }) :
  wpAny (model prog w) A (Builtin.«zip.__next__» ⟨[.ref z],[]⟩) Q E s:=by
 show wpAny _ _ (field (.ref z) 2 >>= _) _ _ _
 refine wpAny_bind (wpAny_field hz rfl (x:=.bool false) rfl ?_)
 show wpAny _ _ (field (.ref z) 3 >>= _) _ _ _
 refine wpAny_bind (wpAny_field hz rfl (x:=.ref TI) rfl ?_)
 refine wpAny_bind (wpAny_seqItems hTI rfl ?_)
 show wpAny _ _ (Builtin.SmallTypes.ownedTupleIsFree (.ref z) >>= _) _ _ _
 refine wpAny_bind ?_
 unfold Builtin.SmallTypes.ownedTupleIsFree
 refine wpAny_bind (wpAny_field hz rfl (x:=.none) rfl (wpAny_pure ?_))
 simp only [if_true]
 refine wpAny_bind (wpAny_rule ?_)
 refine wpAny_bind (wpAny_field hz rfl (x:=.ref TO) rfl ?_)
 refine wpAny_bind (wpAny_setField_rec hz (by simp) fun g1 hzA sA=>?_)
 replace hzA:IsZip g1 z TI TO .ellipsis:=hzA
 refine wpAny_bind ?_
 simp only [List.zipIdx_cons,List.zipIdx_nil,List.forIn_cons,List.forIn_nil]
 refine wpAny_bind (wpAny_bind (wpAny_onRaise ?_))
 show wpAny _ _ (Builtin.SmallTypes.nextOf (.ref i1) >>= _) _ _ _
 cases hx:xs[k1]? with
 | none =>
  refine wpAny_bind (je1 (b:=b) hh (h1.at' fun o e=>sA.extBut _ o D.i1z e) (hl1.at' fun o e=>sA.extBut _ o D.l1z e) hx fun g2 ex sB he=>?_)
  obtain ⟨oe,hoe,hce⟩:=he
  have hzB:IsZip g2 z TI TO .ellipsis:=sB _ _ D.i1z.symm hzA
  have hez:ex ≠ z:=fun q=>by subst q; rw [hzB] at hoe; cases hoe; simp at hce
  refine wpAny_setField_rec hzB (by simp) fun g3 _ sC=>hE g3 ex (fun c o c1 _ c3 _ q=>sC.extBut _ _ c1 (sB _ _ c3 (sA.extBut _ _ c1 q))) ⟨oe,sC.extBut _ _ hez hoe,hce⟩
 | some x =>
  have hy:ys[k2]? = none:=by rcases hend with h | h; rw [hx] at h; cases h; exact h
  refine wpAny_bind (jfe (b:=b) (h1.at' fun o e=>sA.extBut _ o D.i1z e) (hl1.at' fun o e=>sA.extBut _ o D.l1z e) hx fun g2 h1B sB=>wpAny_pure ?_)
  have TOB:IsPair g2 TO v0 v1:=sB.extBut _ _ D.TOi1 (sA.extBut _ _ D.TOz hTO)
  refine wpAny_bind (wpAny_seqItems TOB rfl ?_)
  refine wpAny_bind (wpAny_updateSeq_pair TOB fun g3 TOC sC=>?_)
  refine wpAny_bind (wpAny_letGo (wpAny_pure ?_))
  refine wpAny_bind (wpAny_bind (wpAny_onRaise ?_))
  show wpAny _ _ (Builtin.SmallTypes.nextOf (.ref i2) >>= _) _ _ _
  refine wpAny_bind (je1 (b:=b) hh (h2.at' fun o e=>sC.extBut _ o D.TOi2.symm (sB.extBut _ o D.i12.symm (sA.extBut _ o D.i2z e))) (hl2.at' fun o e=>sC.extBut _ o D.l2TO (sB.extBut _ o D.l2i1 (sA.extBut _ o D.l2z e))) hy fun g4 ex sD he=>?_)
  obtain ⟨oe,hoe,hce⟩:=he
  have hzD:IsZip g4 z TI TO .ellipsis:=sD _ _ D.i2z.symm (sC.extBut _ _ D.TOz.symm (sB.extBut _ _ D.i1z.symm hzA))
  have hez:ex ≠ z:=fun q=>by subst q; rw [hzD] at hoe; cases hoe; simp at hce
  refine wpAny_setField_rec hzD (by simp) fun g5 _ sE=>hE g5 ex (fun c o c1 c2 c3 c4 q=>sE.extBut _ _ c1 (sD _ _ c4 (sC.extBut _ _ c2 (sB.extBut _ _ c3 (sA.extBut _ _ c1 q))))) ⟨oe,sE.extBut _ _ hez hoe,hce⟩
end
abbrev zpIt (b:Bool) (l:Addr):Obj:={ cls:=.type (if b = true then "list_iterator" else "tuple_iterator"),data:=.fields #[.ref l,.int 0 0] }
abbrev zp2 (b:Bool) (h:Heap) (l1 l2:Addr):Heap:=(h.push (zpIt b l1)).push (zpIt b l2)
abbrev zp3 (b:Bool) (h:Heap) (l1 l2:Addr):Heap:=(zp2 b h l1 l2).push { cls:=.type "tuple",data:=.seq #[.ref h.objs.size,.ref (h.push (zpIt b l1)).objs.size] }
abbrev zp4 (b:Bool) (h:Heap) (l1 l2:Addr):Heap:=(zp3 b h l1 l2).push { cls:=.type "tuple",data:=.seq #[.none,.none] }
abbrev zp5 (b:Bool) (h:Heap) (l1 l2:Addr):Heap:=(zp4 b h l1 l2).push { cls:=.type "zip",data:=.fields #[.none,.bool false,.bool false,.ref (zp2 b h l1 l2).objs.size,.ref (zp3 b h l1 l2).objs.size] }
theorem jm4 (l1 l2:Addr) (xs ys:Array Value) :
  Meets (Builtin.«zip.__new__» ⟨[.type "zip",.ref l1,.ref l2],[]⟩) (fun _ R s=>s.heap.IsTuple l1 xs∧s.heap.IsTuple l2 ys∧R (.ok (.ret (.ref (zp4 false s.heap l1 l2).objs.size))) { s with heap:=zp5 false s.heap l1 l2 }) :=
 .of_wp fun prog w A R s h=>by
  obtain ⟨hp,g,d,tk,os⟩:=s; obtain ⟨hl1,hl2,h⟩:=h
  have hsub:=sub_zip
  have hL1:Heap.IsTuple (Shared.heap ⟨hp,g,d,tk,os⟩) l1 xs:=hl1
  have hL2:Heap.IsTuple (Shared.heap ⟨hp.push { cls:=.type "tuple_iterator",data:=.fields #[.ref l1,.int 0 0] },g,d,tk,os⟩) l2 ys:=Heap.IsTuple.push hl2 _
  wp_walk using wpAny_pyIter_tuple hL1,wpAny_pyIter_tuple hL2
  exact ⟨_,rfl,h⟩
section
variable {prog:Program} {w:World} {A:Around} {E:Value→Shared→Prop} {s:Shared}
theorem jt8 {b:Bool} {l1 l2:Addr} {xs ys:Array Value} {Q:Value→Shared→Prop} (hl1:IsSq b s.heap l1 xs) (hl2:IsSq b s.heap l2 ys)
  (h:∀ h',IsZip h' (s.heap.objs.size + 4) (s.heap.objs.size + 2) (s.heap.objs.size + 3) .none→IsPair h' (s.heap.objs.size + 2) (.ref s.heap.objs.size) (.ref (s.heap.objs.size + 1)) →
   IsPair h' (s.heap.objs.size + 3) .none .none→jbq b h' s.heap.objs.size l1 0→jbq b h' (s.heap.objs.size + 1) l2 0→(∀ c o,s.heap.get? c = some o→h'.get? c = some o)→Q (.ref (s.heap.objs.size + 4)) { s with heap:=h' }) :
  wpAny (model prog w) A (call (.type "zip") [.ref l1,.ref l2]) Q E s:=by
 cases b with
 | true=>exact call_zip_2 (show s.heap.IsList l1 xs from hl1) (show s.heap.IsList l2 ys from hl2) fun h' a1 a2 a3 a4 a5 _ a7=>h h' a1 a2 a3 a4 a5 a7
 | false =>
  refine callType_new F.called_zip (by decide) (F.typeCall_zip_2 _ _) (F.newCall_zip_2 _ _) (fun obj=>F.args_object_init_3 obj _ _) F.entry_zip_new (jm4 l1 l2 xs ys) ⟨hl1,hl2,?_⟩
  have q1:(s.heap.push (zpIt false l1)).objs.size = s.heap.objs.size + 1:=Heap.size_push ..
  have q2:(zp2 false s.heap l1 l2).objs.size = s.heap.objs.size + 2:=by rw [Heap.size_push,q1]
  have q3:(zp3 false s.heap l1 l2).objs.size = s.heap.objs.size + 3:=by rw [Heap.size_push,q2]
  have q4:(zp4 false s.heap l1 l2).objs.size = s.heap.objs.size + 4:=by rw [Heap.size_push,q3]
  have p5:(zp5 false s.heap l1 l2).get? (zp4 false s.heap l1 l2).objs.size = some _:=Heap.get?_push_size _ rfl
  have p4:(zp5 false s.heap l1 l2).get? (zp3 false s.heap l1 l2).objs.size = some _:=Heap.get?_push_of_some _ (Heap.get?_push_size _ rfl)
  have p3:(zp5 false s.heap l1 l2).get? (zp2 false s.heap l1 l2).objs.size = some _:=Heap.get?_push_of_some _ (Heap.get?_push_of_some _ (Heap.get?_push_size _ rfl))
  have p2:(zp5 false s.heap l1 l2).get? (s.heap.push (zpIt false l1)).objs.size = some _:=Heap.get?_push_of_some _ (Heap.get?_push_of_some _ (Heap.get?_push_of_some _ (Heap.get?_push_size _ rfl)))
  have p1:(zp5 false s.heap l1 l2).get? s.heap.objs.size = some _:=Heap.get?_push_of_some _ (Heap.get?_push_of_some _ (Heap.get?_push_of_some _ (Heap.get?_push_of_some _ (Heap.get?_push_size _ rfl))))
  show _∧_
  rw [q2,q3,q4] at p5
  rw [q1,q2] at p3
  rw [q3] at p4
  rw [q1] at p2
  rw [q4]
  exact ⟨⟨_,p5,rfl⟩,h _ p5 p3 p4 (show Heap.IsTupleIter _ _ _ _ from ⟨_,p1,rfl,rfl⟩) (show Heap.IsTupleIter _ _ _ _ from ⟨_,p2,rfl,rfl⟩) fun c o x =>
   Heap.get?_push_of_some _ (Heap.get?_push_of_some _ (Heap.get?_push_of_some _ (Heap.get?_push_of_some _ (Heap.get?_push_of_some _ x))))⟩
end
def SqB (b:Bool) (K:PySem.W.Frag) (H:Hp) (a:Addr) (xs:List V):Prop:=if b = true then SqL K H a xs else SqT K H a xs
theorem Inv.sqB {X:Cx} {pins:List (Addr × Obj)} {σ:St} {H:Hp} {s:Shared} {b:Bool} {a:Addr} {xs:List V} (I:Inv X pins σ H s) (h:SqB b X.K H a xs):∃ its:List Value,Vals xs its∧IsSq b s.heap a its.toArray∧xs.length ≤ sizeLine:=by
 cases b with
 | true =>
  obtain ⟨its,r,p,z⟩:=I.list (show SqL X.K H a xs from h)
  exact ⟨its,r,p.isList,z⟩
 | false =>
  obtain ⟨its,r,p,z⟩:=I.tuple (show SqT X.K H a xs from h)
  exact ⟨its,r,(show s.heap.IsTuple a its.toArray from p),z⟩
theorem Inv.sqB_inj {X:Cx} {pins:List (Addr × Obj)} {σ:St} {H:Hp} {s:Shared} {b:Bool} {a:Addr} {xs ys:List V} (I:Inv X pins σ H s) (h:SqB b X.K H a xs) (h':SqB b X.K H a ys):xs = ys:=by
 cases b with
 | true=>exact I.list_inj (show SqL X.K H a xs from h) (show SqL X.K H a ys from h')
 | false=>exact I.tuple_inj (show SqT X.K H a xs from h) (show SqT X.K H a ys from h')
def Itz (b:Bool) (K:PySem.W.Frag) (a c:Addr):It :=
  ⟨fun i H=>∃ xs ys x y,SqB b K H a xs∧SqB b K H c ys∧xs[i]? = some x∧ys[i]? = some y,
   fun i H v H'=>∃ t x y,H t = none∧v = .ref t∧H' = upd H t (.tup [x,y])∧(∀ xs,SqB b K H a xs→xs[i]? = some x)∧∀ ys,SqB b K H c ys→ys[i]? = some y,
   fun i H=>∃ xs ys,SqB b K H a xs∧SqB b K H c ys∧(xs.length ≤ i ∨ ys.length ≤ i)⟩
theorem jdn {X:Cx} {pins:List (Addr × Obj)} {σ:St} {H:Hp} {s:Shared} {b:Bool} {a j:Addr} {xs:List V} (I:Inv X pins σ H s) (h:SqB b X.K H a xs) (f:FpOk X pins H j):a ≠ j:=by
 intro e
 subst e
 have key:∀ {o},X.K.lookup a = some o→False:=fun {o} q=>by
  have q1:=I.mod.kin a o q
  rcases f.2.2.2.1 with z | z
  ·exact I.ok.noex a o q1 z
  ·exact absurd (Nat.lt_of_lt_of_le (Heap.lt_size q1) (Nat.le_trans I.ok.bsz z)) (Nat.lt_irrefl _)
 cases b with
 | true =>
  rcases (show SqL X.K H a xs from h) with (h | ⟨o,h⟩) | ⟨o,its,n,hk,_⟩
  ·rw [f.1] at h; cases h
  ·rw [f.1] at h; cases h
  ·exact key hk
 | false =>
  rcases (show SqT X.K H a xs from h) with (h | ⟨o,h⟩) | ⟨o,its,n,hk,_⟩
  ·rw [f.1] at h; cases h
  ·rw [f.1] at h; cases h
  ·exact key hk
structure ZpA (z TI TO i1 i2:Addr):Prop where
 TIz:TI ≠ z
 TOz:TO ≠ z
 i1z:i1 ≠ z
 i2z:i2 ≠ z
 TITO:TI ≠ TO
 TIi1:TI ≠ i1
 TIi2:TI ≠ i2
 TOi1:TO ≠ i1
 TOi2:TO ≠ i2
 i12:i1 ≠ i2
theorem jpg {P:Program} {w:World} {K:PySem.W.Frag} {elts:List Expr} {x1:Nat} {pos:Pos} (b:Bool) (a c z TI TO i1 i2:Addr) (D0:ZpA z TI TO i1 i2) :
  Turn P w K (.Tuple elts x1 pos) (Itz b K a c) [z,TI,TO,i1,i2] z (fun i h=>IsZip h z TI TO .none∧IsPair h TI (.ref i1) (.ref i2)∧(∃ u v,IsPair h TO u v)∧jbq b h i1 a i∧jbq b h i2 c i) where
 mem:=by simp
 obj:=fun i h st d hd=>by
  obtain ⟨hz,hTI,⟨u,v,hTO⟩,h1,h2⟩:=st
  have q:d = z ∨ d = TI ∨ d = TO ∨ d = i1 ∨ d = i2:=by simpa using hd
  rcases q with rfl | rfl | rfl | rfl | rfl
  ·exact ⟨_,hz,fun v z=>by
    have z':Data.fields _ = Data.cell v:=z
    cases z'⟩
  ·exact ⟨_,hTI,fun v z=>by
    have z':Data.seq _ _ = Data.cell v:=z
    cases z'⟩
  ·exact ⟨_,hTO,fun v z=>by
    have z':Data.seq _ _ = Data.cell v:=z
    cases z'⟩
  ·exact h1.obj
  ·exact h2.obj
 keep:=fun i h h' st k=>by
  obtain ⟨hz,hTI,⟨u,v,hTO⟩,h1,h2⟩:=st
  exact ⟨k z (by simp) _ hz,k TI (by simp) _ hTI,⟨u,v,k TO (by simp) _ hTO⟩,h1.at' fun o e=>k i1 (by simp) o e,h2.at' fun o e=>k i2 (by simp) o e⟩
 item:=by
  intro X hP hw hK hc i pins s σ H E I hf st hg
  subst hP hw hK
  obtain ⟨hz,hTI,⟨u0,v0,hTO⟩,h1,h2⟩:=st
  obtain ⟨xs,ys,x,y,hq1,hq2,hx,hy⟩:=hg
  obtain ⟨its1,rv1,p1,hz1⟩:=I.sqB hq1
  obtain ⟨its2,rv2,p2,hz2⟩:=I.sqB hq2
  obtain ⟨u1,hu1,ru1⟩:=rv1.get hx
  obtain ⟨u2,hu2,ru2⟩:=rv2.get hy
  have D:ZipApart z TI TO i1 i2 a c:=⟨D0.TIz,D0.TOz,D0.i1z,D0.i2z,D0.TITO,D0.TIi1,D0.TIi2,D0.TOi1,D0.TOi2,D0.i12,
   jdn I hq1 (hf z (by simp)),jdn I hq1 (hf TO (by simp)),jdn I hq1 (hf i1 (by simp)),jdn I hq1 (hf i2 (by simp)),jdn I hq2 (hf z (by simp)),jdn I hq2 (hf TO (by simp)),jdn I hq2 (hf i1 (by simp)),jdn I hq2 (hf i2 (by simp))⟩
  have zlt:z < s.heap.objs.size:=Heap.lt_size hz
  have hT:s.TypeIs (.ref z) "zip":=⟨_,hz,rfl⟩
  unfold pyNext
  refine wpAny_bind (wpAny_attempt (wpAny_callSpecial?_slot (name:=Str.ofString "__next__") hT F.slot_zip_next (wpAny_call_entry F.slot_zip_next hT F.entry_zip_next
   (jhm (b:=b) D hz hTI hTO h1 h2 p1 p2 (x:=u1) (y:=u2) (by simpa using hu1) (by simpa using hu2) fun h' a1 a2 a3 a4 a5 a7=>wpAny_pure ?_) (F.args_zip_next_1 _))))
  refine ⟨_,rfl,wpAny_letOwnedTupleGo_zip a1 fun g hz' hs'=>?_⟩
  replace hs':Heap.SameBut z h' g:=hs'
  have kk:∀ d ob,d ∉ [z,TI,TO,i1,i2]→s.heap.get? d = some ob→g.get? d = some ob:=fun d ob hd q=>by
   have hd':d ≠ z∧d ≠ TI∧d ≠ TO∧d ≠ i1∧d ≠ i2:=by simpa using hd
   exact hs'.extBut _ _ hd'.1 (a7 d ob hd'.1 hd'.2.2.1 hd'.2.2.2.1 hd'.2.2.2.2 q)
  have hT2:g.get? s.heap.objs.size = some { cls:=.type "tuple",data:=.seq #[u1,u2] }:=hs'.extBut _ _ (Nat.ne_of_gt zlt) a5
  refine ⟨.ref s.heap.objs.size,upd H s.heap.objs.size (.tup [x,y]),I.turnedNew (ch:=[z,TI,TO,i1,i2]) (t':=s.toks) (Nat.le_refl _) kk hf ?_,rfl,
   ⟨_,x,y,I.fresh,rfl,rfl,fun zs hq=>by rw [I.sqB_inj hq hq1]; exact hx,fun zs hq=>by rw [I.sqB_inj hq hq2]; exact hy⟩,
   ⟨hz',hs'.extBut _ _ D.TIz (a7 _ _ D.TIz D.TITO D.TIi1 D.TIi2 hTI),⟨_,_,hs'.extBut _ _ D.TOz a2⟩,a3.at' fun o e=>hs'.extBut _ _ D.i1z e,a4.at' fun o e=>hs'.extBut _ _ D.i2z e⟩,fun d hd=>?_⟩
  ·exact ⟨by show 2 ≤ sizeLine; decide,[u1,u2],.cons ru1 (.cons ru2 .nil),⟨_,hT2,rfl,_,rfl⟩⟩
  ·have dlt:d < s.heap.objs.size:=by
    have q:d = z ∨ d = TI ∨ d = TO ∨ d = i1 ∨ d = i2:=by simpa using hd
    rcases q with rfl | rfl | rfl | rfl | rfl
    ·exact zlt
    ·exact Heap.lt_size hTI
    ·exact Heap.lt_size hTO
    ·obtain ⟨o,e,_⟩:=h1.obj; exact Heap.lt_size e
    ·obtain ⟨o,e,_⟩:=h2.obj; exact Heap.lt_size e
   rw [ja8 (Nat.ne_of_lt dlt)]
   exact (hf d hd).1
 done:=by
  intro X hP hw hK hc i pins s σ H E I hf st hg
  subst hP hw hK
  obtain ⟨hz,hTI,⟨u0,v0,hTO⟩,h1,h2⟩:=st
  obtain ⟨xs,ys,hq1,hq2,hlen⟩:=hg
  obtain ⟨its1,rv1,p1,hz1⟩:=I.sqB hq1
  obtain ⟨its2,rv2,p2,hz2⟩:=I.sqB hq2
  have e1:=rv1.length
  have e2:=rv2.length
  have D:ZipApart z TI TO i1 i2 a c:=⟨D0.TIz,D0.TOz,D0.i1z,D0.i2z,D0.TITO,D0.TIi1,D0.TIi2,D0.TOi1,D0.TOi2,D0.i12,
   jdn I hq1 (hf z (by simp)),jdn I hq1 (hf TO (by simp)),jdn I hq1 (hf i1 (by simp)),jdn I hq1 (hf i2 (by simp)),jdn I hq2 (hf z (by simp)),jdn I hq2 (hf TO (by simp)),jdn I hq2 (hf i1 (by simp)),jdn I hq2 (hf i2 (by simp))⟩
  have hT:s.TypeIs (.ref z) "zip":=⟨_,hz,rfl⟩
  unfold pyNext
  refine wpAny_bind (wpAny_attempt (wpAny_callSpecial?_slot (name:=Str.ofString "__next__") hT F.slot_zip_next (wpAny_call_entry F.slot_zip_next hT F.entry_zip_next
   (jiw (b:=b) (I.ok.hd hc) D hz hTI hTO h1 h2 p1 p2 (by rcases hlen with h | h; exact .inl (by simp; omega); exact .inr (by simp; omega)) fun h' e hk he=>?_) (F.args_zip_next_1 _))))
  obtain ⟨o,ho,hcl⟩:=he
  refine wpAny_bind (wpAny_isInstance (T:="StopIteration") (b:=true) ⟨o,ho,hcl⟩ isSubtype_stop ?_)
  exact wpAny_pure ⟨rfl,I.turnedAll (ch:=[z,TI,TO,i1,i2]) (t':=s.toks) (fun d ob hd q=>by
   have hd':d ≠ z∧d ≠ TI∧d ≠ TO∧d ≠ i1∧d ≠ i2:=by simpa using hd
   exact hk d ob hd'.1 hd'.2.2.1 hd'.2.2.2.1 hd'.2.2.2.2 q) hf⟩
 self:=fun _ _ _ _ _ st h=>wpAny_pyIter_zip st.1 h
theorem jiv {X:Cx} {b:Bool} {elts:List Expr} {x1:Nat} {tpos:Pos} {pins:List (Addr × Obj)} {σ:St} {H1:Hp} {s1:Shared} {R:It→Hp→Prop} {a c:Addr} {xs ys:List V} (I1:Inv X pins σ H1 s1) (hq1:SqB b X.K H1 a xs) (hq2:SqB b X.K H1 c ys) (q:R (Itz b X.K a c) H1) :
  wpAny (model X.prog X.w) X.A (call (.type "zip") [.ref a,.ref c]) (fun v s2=>wpAny (model X.prog X.w) X.A (pyIter v) (PIE X pins σ (.Tuple elts x1 tpos) R) X.xe s2) X.xe s1:=by
 obtain ⟨its1,rv1,p1,hz1⟩:=I1.sqB hq1
 obtain ⟨its2,rv2,p2,hz2⟩:=I1.sqB hq2
 refine jt8 p1 p2 fun h' a1 a2 a3 a4 a5 hk=>?_
 refine wpAny_pyIter_zip a1 ?_
 have I2:Inv X pins σ H1 { s1 with heap:=h' }:=I1.kept (t':=s1.toks) fun b o q=>hk b o q
 have ne:∀ i j:Nat,i ≠ j→s1.heap.objs.size + i ≠ s1.heap.objs.size + j:=fun i j h e=>h (Nat.add_left_cancel e)
 refine ⟨_,[s1.heap.objs.size + 4,s1.heap.objs.size + 2,s1.heap.objs.size + 3,s1.heap.objs.size,s1.heap.objs.size + 1],_,_,H1,rfl,I2,jpg b a c _ _ _ _ _ ⟨ne 2 4 (by decide),ne 3 4 (by decide),ne 0 4 (by decide),ne 1 4 (by decide),ne 2 3 (by decide),ne 2 0 (by decide),ne 2 1 (by decide),ne 3 0 (by decide),ne 3 1 (by decide),ne 0 1 (by decide)⟩,
  ⟨a1,a2,⟨_,_,a3⟩,a4,a5⟩,fun d hd=>?_,q⟩
 have hd':d = s1.heap.objs.size + 4 ∨ d = s1.heap.objs.size + 2 ∨ d = s1.heap.objs.size + 3 ∨ d = s1.heap.objs.size ∨ d = s1.heap.objs.size + 1:=by simpa using hd
 have hle:s1.heap.objs.size ≤ d:=by
  rcases hd' with e | e | e | e | e <;> rw [e]
  ·exact Nat.le_add_right _ _
  ·exact Nat.le_add_right _ _
  ·exact Nat.le_add_right _ _
  ·exact Nat.le_refl _
  ·exact Nat.le_add_right _ _
 exact I1.fpOk hle (I1.hok.fresh hle)
def jok (K:PySem.W.Frag) (ta:TA):TI:=fun σ H R=>ta σ H fun vs H1=>∃ (b:Bool) (a c:Addr),vs = [.ref a,.ref c]∧(∃ xs,SqB b K H1 a xs)∧(∃ ys,SqB b K H1 c ys)∧R (Itz b K a c) H1
theorem jj6 {X:Cx} {elts:List Expr} {x1:Nat} {tpos:Pos} {a c:Expr} {ta:TA} {p pos:Pos} (hg:Gl X "zip") (hm:X.mg "zip" = none) (ha:PA X [a,c] ta) (hs:starEach [a,c] X.env = [(false,eval a X.env),(false,eval c X.env)]:=by rfl) (hs2:starEach [c] X.env = [(false,eval c X.env)]:=by rfl) :
  PI X (.Tuple elts x1 tpos) (.Call (.Name "zip" p) [a,c] [] pos) (jok X.K ta):=by
 intro pins s σ H R I h
 refine Call_ (jej I hg hm boot_zip (PyProof.Rows.callWith_type1 (thn (ha pos pins s σ H _ I h) fun us s1 ⟨vs,H1,I1,r1,q1⟩=>?_) (by rw [hs,hs2]) (by rw [hs2]; rfl)))
 obtain ⟨b,a,c,e,⟨xs,hq1⟩,⟨ys,hq2⟩,q⟩:=q1
 subst e
 cases r1 with
 | cons r rr =>
  cases rr with
  | cons r' rr =>
   cases rr
   cases r
   cases r'
   exact jiv I1 hq1 hq2 q
end L2
namespace L2
open PySem PySem.Spec PyProof.Rows
theorem jia:typeLookup (.type "list") "keys" = pure none:=by rw [typeLookup_type,builtinLookup_eq_fast]; kernel_rfl
theorem jfg:typeLookup (.type "list") "__getattr__" = pure none:=by rw [typeLookup_type,builtinLookup_eq_fast]; kernel_rfl
theorem jgn:isSubtype (.type "AttributeError") (.type "AttributeError") = pure true:=by rw [isSubtype_type]; kernel_rfl
section
variable {prog:Program} {w:World} {A:Around} {E:Value→Shared→Prop} {h:Heap} {g:Array GenState} {d:Drawn} {t:Nat} {os:OsState} {a:Addr} {o:Obj}
theorem jli {α:Type} {Q:α→Shared→Prop} {u:Value} {x msg:Str} (hh:A.handled = none) (hm:msg.length ≤ sizeLine)
  (hE:∀ h' e tk,(∀ b o,h.get? b = some o→h'.get? b = some o)→(∃ o,h'.get? e = some o∧o.cls = .type "AttributeError")→E (.ref e) ⟨h',g,d,tk,os⟩) :
  wpAny (model prog w) A (raiseAttrError u x msg:Sem α) Q E ⟨h,g,d,t,os⟩:=by
 unfold raiseAttrError
 refine wpAny_bind (wpAny_mkStr ?_ hm)
 simp only [newExc,newTuple]
 refine wpAny_bind (wpAny_bind (wpAny_newObj_type ?_ (by size_fits)))
 refine wpAny_bind (m:=firstArgMember _ _) (wpAny_of_eq (a:=Value.none) (by first | rfl | (simp only [firstArgMember]; rfl)) ?_)
 refine wpAny_newObj_type ?_ (by size_fits)
 refine wpAny_bind (wpAny_mkText ?_)
 dsimp only
 refine wpAny_bind ?_
 unfold noteAttr
 generalize hh1:h.push { cls:=.type "tuple",data:=.seq #[.str msg t] } = h1
 have k1:∀ b o,h.get? b = some o→h1.get? b = some o:=fun b o q=>by rw [← hh1]; exact Heap.get?_push_of_some _ q
 have hg:(h1.push { cls:=.type "AttributeError",data:=.fields #[.ref h.objs.size,.none,.none,.none,.bool false,.none,unsetMember,unsetMember] }).get? h1.objs.size = some _:=Heap.get?_push_size _ rfl
 have k2:∀ b o,h.get? b = some o→(h1.push { cls:=.type "AttributeError",data:=.fields #[.ref h.objs.size,.none,.none,.none,.bool false,.none,unsetMember,unsetMember] }).get? b = some o:=fun b o q=>Heap.get?_push_of_some _ (k1 b o q)
 have nb:∀ b o,h.get? b = some o→b ≠ h1.objs.size:=fun b o q=>Nat.ne_of_lt (Heap.lt_size (k1 b o q))
 show wpAny _ _ (lacksNameAndObj (.ref h1.objs.size) >>= _) _ _ ⟨h1.push { cls:=.type "AttributeError",data:=.fields #[.ref h.objs.size,.none,.none,.none,.bool false,.none,unsetMember,unsetMember] },g,d,t + 1 + 1,os⟩
 generalize hh2:h1.push { cls:=.type "AttributeError",data:=.fields #[.ref h.objs.size,.none,.none,.none,.bool false,.none,unsetMember,unsetMember] } = h2 at hg k2
 generalize h1.objs.size = e at hg nb
 clear hh2 k1 hh1
 have hT:(⟨h2,g,d,t + 1 + 1,os⟩:Shared).TypeIs (.ref e) "AttributeError":=⟨_,hg,rfl⟩
 refine wpAny_bind ?_
 unfold lacksNameAndObj
 refine wpAny_bind (wpAny_isInstance hT jgn ?_)
 simp only [Bool.not_true,Bool.false_eq_true,if_false]
 refine wpAny_bind (wpAny_load hg ?_)
 show wpAny _ _ (pure true) _ _ _
 refine wpAny_pure ?_
 simp only [if_true]
 refine wpAny_bind (wpAny_rule (wpAny_bind (wpAny_typeOf hT ?_)))
 show wpAny _ _ (layMembers e 6 #[_,u]) _ _ _
 unfold layMembers
 refine wpAny_bind (wpAny_load hg ?_)
 show wpAny _ _ (update e _) _ _ _
 refine wpAny_update hg ?_
 refine wpAny_raiseNew_none hh (hE _ _ _ (fun b o q=>?_) ⟨_,Heap.get?_update_self _ hg rfl,rfl⟩)
 exact (Heap.get?_update_other _ _ (nb b o q).symm).trans (k2 b o q)
theorem ji8 {tk:Tok} {Q:PySem.Fin→Shared→Prop} {its:Array Value} {n:Nat} (hx:h.get? a = some { cls:=.type "list",dict:=none,data:=.seq its n,slots:=#[] }) (hh:A.handled = none)
  (hE:∀ h' e tk,(∀ b o,h.get? b = some o→h'.get? b = some o)→(∃ o,h'.get? e = some o∧o.cls = .type "AttributeError")→E (.ref e) ⟨h',g,d,tk,os⟩) :
  wpAny (model prog w) A (Builtin.«object.__getattribute__» ⟨[.ref a,.str "keys" tk],[]⟩) Q E ⟨h,g,d,t,os⟩:=by
 have hT:(⟨h,g,d,t,os⟩:Shared).TypeIs (.ref a) "list":=⟨_,hx,rfl⟩
 have f4:=jia
 repeat (any_goals (first | assumption | wp_step))
 refine jli hh (by decide +kernel) hE
theorem jnr {tk:Tok} {Q:Value→Shared→Prop} {its:Array Value} {n:Nat} (hx:h.get? a = some { cls:=.type "list",dict:=none,data:=.seq its n,slots:=#[] }) (hh:A.handled = none)
  (hE:∀ h' e tk,(∀ b o,h.get? b = some o→h'.get? b = some o)→(∃ o,h'.get? e = some o∧o.cls = .type "AttributeError")→E (.ref e) ⟨h',g,d,tk,os⟩) :
  wpAny (model prog w) A (getAttrBy (.ref a) (.str "keys" tk) false) Q E ⟨h,g,d,t,os⟩:=by
 have hT:(⟨h,g,d,t,os⟩:Shared).TypeIs (.ref a) "list":=⟨_,hx,rfl⟩
 have f2:=F.slot_list_getattribute.lookup
 have f3:=F.slot_list_getattribute.bind (.ref a)
 repeat (any_goals (first | assumption | wp_step))
 refine codeAny_call_builtin F.slot_list_getattribute.plain F.entry_list_ga (F.slot_list_getattribute.check _ _ _ _ _ _ _ _ (show (⟨h,g,d,t,os⟩:Shared).TypeIs (.ref a) "list" from ⟨_,hx,rfl⟩) (F.args_list_getattribute_2 _ _) (ji8 hx ?_ ?_))
 ·exact hh
 ·intro h' e tk k q
  obtain ⟨oe,he,hc⟩:=q
  have hT2:(⟨h',g,d,tk,os⟩:Shared).TypeIs (.ref e) "AttributeError":=⟨_,he,hc⟩
  have f5:=jgn
  have f6:=jfg
  show wpAny _ A (getattributeRaised (Value.ref a) _ (Value.type "list") (.ref e) none false false) _ _ _
  have done:=hE h' e tk k ⟨oe,he,hc⟩
  unfold getattributeRaised
  repeat (any_goals (first | assumption | wp_step))
theorem nokeys {Q:Option Value→Shared→Prop} {its:Array Value} {n:Nat} (hx:h.get? a = some { cls:=.type "list",dict:=none,data:=.seq its n,slots:=#[] }) (hh:A.handled = none)
  (hq:∀ h' tk,(∀ b o,h.get? b = some o→h'.get? b = some o)→Q none ⟨h',g,d,tk,os⟩):wpAny (model prog w) A (getAttr? (.ref a) "keys") Q E ⟨h,g,d,t,os⟩:=by
 unfold getAttr? getAttrBy?
 refine wpAny_bind (wpAny_mkText (wpAny_bind (wpAny_attempt (jnr hx hh fun h' e tk k q=>?_))))
 obtain ⟨oe,he,hc⟩:=q
 refine wpAny_bind (wpAny_isInstance (T:="AttributeError") (b:=true) ⟨_,he,hc⟩ jgn ?_)
 exact wpAny_pure (hq h' tk k)
end
end L2
namespace L2
open PySem PySem.Spec PyProof.Rows
theorem jbv:entryFor table "dict.update.loop" = some Builtin.«dict.update.loop»:=entryFor_of_fast (by kernel_rfl)
theorem jav:plainId "dict.update.loop" = true:=by decide +kernel
theorem jlh {K:Type} [DecidableEq K] (kvs:List (K × Value)) (k:K) (v:Value):(stored kvs k v).length ≤ kvs.length + 1:=by
 unfold stored
 split
 ·rw [List.length_map]; omega
 ·rw [List.length_append]; exact Nat.le_refl _
section
variable {prog:Program} {w:World} {A:Around} {E:Value→Shared→Prop} {K:Type} [DecidableEq K] {knd:KeyKind prog w K} {R:Result→Shared→Prop}
theorem jox {d it l:Addr} {its:Array Value} {more:List (K × Value)} (hh:A.handled = none) (hlen:more.length = its.size) (hsz:its.size ≤ 1000) (hdl:l ≠ d) (hdi:it ≠ d) (hil:l ≠ it) :
  ∀ (k i:Nat) (tk0:Tok) (s:Shared) (kvs:List (K × Value)),its.size - i = k→i ≤ its.size→kvs.length ≤ i→s.heap.IsListIter it l i→s.heap.IsList l its→s.heap.DictOf knd d kvs →
   (∀ (j:Nat) (q:K × Value),more[j]? = some q→∃ t kv,its[j]? = some (.ref t)∧s.heap.IsTuple t #[kv,q.2]∧knd.is q.1 kv = true) →
   (∀ h' tk,h'.DictOf knd d (merged kvs (more.drop i))→(∀ b o,b ≠ d→b ≠ it→s.heap.get? b = some o→h'.get? b = some o)→R (.ok (.ret .none)) { s with heap:=h',toks:=tk }) →
   codeAny (model prog w) A (.builtin "dict.update.loop" ⟨[.ref d,.ref it,.int i tk0,.none],[]⟩) R s:=by
 intro k
 induction k with
 | zero =>
  intro i tk0 s kvs hk hi hkl hit hl hd hp hR
  have e:i = its.size:=by omega
  subst e
  refine codeAny_builtin jbv ?_
  rw [Around.under_plainId jav _]
  show wpAny _ A.in1 (pyNext (.ref it) >>= _) _ _ s
  refine wpAny_bind (wpAny_pyNext_list_end hh hit hl (by simp) fun h' eb=>?_)
  show wpAny _ A.in1 (Builtin.Dict.addKeywords d [] >>= _) _ _ _
  refine wpAny_bind (wpAny_pure (wpAny_pure ?_))
  refine hR h' s.toks ?_ fun b o _ hb q=>eb b o hb q
  rw [List.drop_eq_nil_of_le (by omega)]
  exact hd.extBut eb hdi.symm
 | succ k ih =>
  intro i tk0 s kvs hk hi hkl hit hl hd hp hR
  have hlt:i < its.size:=by omega
  have hlm:i < more.length:=by omega
  obtain ⟨t,kv,hu,ht,hkey⟩:=hp i more[i] (by simp [hlm])
  refine codeAny_builtin jbv ?_
  rw [Around.under_plainId jav _]
  show wpAny _ A.in1 (pyNext (.ref it) >>= _) _ _ s
  refine wpAny_bind (wpAny_pyNext_list_item hit hl hu fun h1 hit1 sb1=>?_)
  have nti:t ≠ it:=fun z=>by
   subst z
   obtain ⟨o,e1,c1,_⟩:=ht
   obtain ⟨o',e2,c2,_⟩:=hit
   rw [e1] at e2; cases e2; rw [c1] at c2; exact absurd c2 (by decide)
  have ntd:t ≠ d:=fun z=>by
   subst z
   obtain ⟨o,e1,c1,_⟩:=ht
   obtain ⟨o',_,_,e2,c2,_⟩:=hd
   rw [e1] at e2; cases e2; rw [c2.1] at c1; exact absurd c1 (by decide)
  have ht1:h1.IsTuple t #[kv,more[i].2]:=ht.extBut sb1.extBut nti
  have hd1:h1.DictOf knd d kvs:=hd.extBut sb1.extBut hdi.symm
  show wpAny _ A.in1 (holding [.ref t] _ >>= _) _ _ _
  refine wpAny_bind (wpAny_holding ?_)
  refine wpAny_bind (m:=(Builtin.Dict.pairItems (.ref t)).tryCatch _) ?_
  refine wpAny_tryCatch ?_
  unfold Builtin.Dict.pairItems
  refine wpAny_bind (wpAny_typeOf ht1.typeIs ?_)
  obtain ⟨ot,e1,c1,n1,d1⟩:=id ht1
  rw [if_pos (by decide)]
  refine wpAny_bind (wpAny_seqItems e1 d1 ?_)
  refine wpAny_pure ?_
  show wpAny _ A.in1 (holding [kv,more[i].2] (dictSet d kv more[i].2)) _ _ _
  refine wpAny_holding (wpAny_dictSet_pairs hkey hd1 (fun h2 hd2 sb2=>?_) (by have:=(by decide:1000 ≤ sizeLine); omega))
  replace sb2:Heap.SameBut d h1 h2:=sb2
  have kk:∀ b o,b ≠ d→b ≠ it→s.heap.get? b = some o→h2.get? b = some o:=fun b o b1 b2 q=>sb2.extBut b o b1 (sb1.extBut b o b2 q)
  refine wpAny_pure ⟨plainId_quiet jav _,?_⟩
  have hik:((i:Int) + 1) = ((i + 1:Nat):Int):=by omega
  show codeAny _ _ (.builtin "dict.update.loop" ⟨[.ref d,.ref it,rawInt ((i:Int) + 1),.none],[]⟩) _ _
  rw [hik]
  refine ih (i + 1) 0 _ (stored kvs more[i].1 more[i].2) (by omega) (by omega) ?_ (hit1.extBut sb2.extBut hdi) ((hl.extBut sb1.extBut hil).extBut sb2.extBut hdl) hd2 ?_ ?_
  ·have:=jlh kvs more[i].1 more[i].2
   omega
  ·intro j q hq
   obtain ⟨t',kv',a1,a2,a3⟩:=hp j q hq
   have n1:t' ≠ it:=fun z=>by
    subst z
    obtain ⟨o,e1,c1,_⟩:=a2
    obtain ⟨o',e2,c2,_⟩:=hit
    rw [e1] at e2; cases e2; rw [c1] at c2; exact absurd c2 (by decide)
   have n2:t' ≠ d:=fun z=>by
    subst z
    obtain ⟨o,e1,c1,_⟩:=a2
    obtain ⟨o',_,_,e2,c2,_⟩:=hd
    rw [e1] at e2; cases e2; rw [c2.1] at c1; exact absurd c1 (by decide)
   exact ⟨t',kv',a1,(a2.extBut sb1.extBut n1).extBut sb2.extBut n2,a3⟩
  ·intro h' tk hd' k'
   refine hR h' tk ?_ fun b o b1 b2 q=>k' b o b1 b2 (kk b o b1 b2 q)
   rw [List.drop_eq_getElem_cons hlm]
   exact hd'
theorem jg0 {l:Addr} {its:Array Value} {c:Nat} {more:List (K × Value)} {s:Shared} {Q:Value→Shared→Prop} (hh:A.handled = none) (hl:s.heap.get? l = some { cls:=.type "list",dict:=none,data:=.seq its c,slots:=#[] }) (hlen:more.length = its.size) (hsz:its.size ≤ 1000)
  (hp:∀ (j:Nat) (q:K × Value),more[j]? = some q→∃ t kv,its[j]? = some (.ref t)∧s.heap.IsTuple t #[kv,q.2]∧knd.is q.1 kv = true)
  (h:∀ h' tk,h'.DictOf knd s.heap.objs.size (merged [] more)→(∀ b o,s.heap.get? b = some o→h'.get? b = some o)→Q (.ref s.heap.objs.size) { s with heap:=h',toks:=tk }) :
  wpAny (model prog w) A (call (.type "dict") [.ref l]) Q E s:=by
 refine callType_codes (Q₁:=fun obj s₁=>obj = .ref s.heap.objs.size∧s₁ = { s with heap:=s.heap.push { cls:=.type "dict",data:=.dict #[] } }) F.kt_called_dict (F.kt_typeCall_dict_1 _) F.entry_dict_init (kt_code_dict_new _ ⟨rfl,rfl⟩) ?_
 rintro obj s₁ ⟨rfl,rfl⟩
 have hnew:(s.heap.push { cls:=.type "dict",data:=.dict #[] }).DictOf knd s.heap.objs.size []:=Heap.DictOf.new s.heap
 have hl1:(s.heap.push { cls:=.type "dict",data:=.dict #[] }).get? l = some { cls:=.type "list",dict:=none,data:=.seq its c,slots:=#[] }:=Heap.get?_push_of_some _ hl
 have k1:∀ b o,s.heap.get? b = some o→(s.heap.push { cls:=.type "dict",data:=.dict #[] }).get? b = some o:=fun b o q=>Heap.get?_push_of_some _ q
 have llt:l < s.heap.objs.size:=Heap.lt_size hl
 generalize s.heap.push { cls:=.type "dict",data:=.dict #[] } = h1 at hnew hl1 k1
 refine ⟨hnew.typeIs,F.args_dict_init_2 _ _,?_⟩
 unfold Builtin.«dict.__init__»
 refine wpAny_bind ?_
 unfold Builtin.Dict.selfAndRest
 refine wpAny_bind (wpAny_notOrdered_dict hnew.typeIs ?_)
 show wpAny _ _ (pure (s.heap.objs.size,[Value.ref l])) _ _ _
 refine wpAny_pure ?_
 show wpAny _ _ (Builtin.Dict.updateFrom "dict.__init__" s.heap.objs.size (.ref l) [] .none) _ _ _
 unfold Builtin.Dict.updateFrom
 refine wpAny_bind (wpAny_typeOf (T:="list") ⟨_,hl1,rfl⟩ ?_)
 rw [if_pos (by decide)]
 refine wpAny_bind (nokeys hl1 hh fun h2 tk2 k2=>?_)
 have hl2:=k2 _ _ hl1
 have hd2:h2.DictOf knd s.heap.objs.size []:=let ⟨o,es,ep,ho,r⟩:=hnew; ⟨o,es,ep,k2 _ _ ho,r⟩
 have dlt:s.heap.objs.size < h2.objs.size:=by obtain ⟨_,_,_,ho,_⟩:=hd2; exact Heap.lt_size ho
 simp only [Option.isNone_none,if_true]
 refine wpAny_bind (wpAny_rule ?_)
 have hL:Heap.IsList h2 l its:=⟨_,hl2,rfl,_,rfl⟩
 refine wpAny_bind (wpAny_pyIter_list (s:={ s with heap:=h2,toks:=tk2 }) hL ?_)
 refine wpAny_pure ⟨plainId_quiet jav _,?_⟩
 have hit:(h2.push { cls:=.type "list_iterator",data:=.fields #[.ref l,.int 0 0] }).IsListIter h2.objs.size l 0:=⟨_,Heap.get?_push_size _ rfl,rfl,rfl⟩
 refine jox (A:=A.in1) (knd:=knd) (more:=more) hh hlen hsz (Nat.ne_of_lt llt) (Nat.ne_of_gt dlt) (Nat.ne_of_lt (Nat.lt_trans llt dlt)) its.size 0 0 { s with heap:=h2.push { cls:=.type "list_iterator",data:=.fields #[.ref l,.int 0 0] },toks:=tk2 } [] rfl (Nat.zero_le _) (Nat.le_refl _) hit (hL.push _) (hd2.push _) ?_ ?_
 ·intro j q hq
  obtain ⟨t,kv,a1,a2,a3⟩:=hp j q hq
  obtain ⟨o,e,r⟩:=a2
  exact ⟨t,kv,a1,⟨o,Heap.get?_push_of_some _ (k2 _ _ (k1 _ _ e)),r⟩,a3⟩
 ·intro h' tk hd' k'
  rw [List.drop_zero] at hd'
  refine ⟨rfl,h h' tk hd' fun b o q=>k' b o (Nat.ne_of_lt (Heap.lt_size q)) (Nat.ne_of_lt (Heap.lt_size (k2 _ _ (k1 _ _ q)))) (Heap.get?_push_of_some _ (k2 _ _ (k1 _ _ q)))⟩
end
def PairAt (H:Hp) (v:V) (p:Key × V):Prop:=∃ t,v = .ref t∧H t = some (.tup [kV p.1,p.2])
def rDictL (K:PySem.W.Frag):List V→Hp→VK→Prop:=fun vs H Q=>∃ l xs kvs,vs = [.ref l]∧H l = some (.lst xs)∧Paired (PairAt H) xs kvs∧xs.length ≤ 1000∧(kvs.map (·.1)).Nodup∧∀ d,H d = none→Q (.ref d) (upd H d (.dK kvs))
theorem jg8 {X:Cx} {pins:List (Addr × Obj)} {σ:St} {H:Hp} {s:Shared} (I:Inv X pins σ H s):∀ {xs:List V} {kvs:List (Key × V)} {its:List Value},Paired (PairAt H) xs kvs→Vals xs its →
  ∃ more:List (Key × Value),KV kvs more∧∀ (j:Nat) (q:Key × Value),more[j]? = some q→∃ t kv,its[j]? = some (.ref t)∧s.heap.IsTuple t #[kv,q.2]∧(jax X.prog X.w).is q.1 kv = true
 | _,_,_,.nil,.nil=>⟨[],.nil,fun j q h=>by simp at h⟩
 | _,_,_,.cons hp tp,.cons rv tr=>by
  obtain ⟨more,hk,hm⟩:=jg8 I tp tr
  obtain ⟨t,rfl,ht⟩:=hp
  cases rv
  obtain ⟨_,its',rt,hi⟩:=I.hok t _ ht
  obtain ⟨u1,u2,rfl,r1,r2⟩:=rt.two
  refine ⟨(_,u2) :: more,.cons ⟨rfl,r2⟩ hk,fun j q h=>?_⟩
  cases j with
  | zero =>
   simp at h
   subst h
   exact ⟨t,u1,rfl,hi,jjo r1⟩
  | succ j =>
   obtain ⟨t',kv,a1,a2,a3⟩:=hm j q (by simpa using h)
   exact ⟨t',kv,by simpa using a1,a2,a3⟩
theorem jlx {X:Cx} (hc:X.calm = true):jc7 X (.type "dict") (rDictL X.K):=by
 intro pins s σ H vs us Q I rv h
 obtain ⟨l,xs,kvs,rfl,hl,hp,hz,hn,q⟩:=h
 obtain ⟨u,rfl,ru⟩:=rv.one
 cases ru
 obtain ⟨z,its,n,r,hlen,e⟩:=I.lstM hl
 obtain ⟨more,hkv,hm⟩:=jg8 I hp r
 have hlm:kvs.length = more.length:=Paired.length hkv
 have hlx:xs.length = kvs.length:=Paired.length hp
 refine jg0 (knd:=jax X.prog X.w) (more:=more) (I.ok.hd hc) e (by rw [List.size_toArray]; omega) (by rw [List.size_toArray]; omega) (fun j q hj=>?_) fun h' tk dd k=>?_
 ·obtain ⟨t,kv,a1,a2,a3⟩:=hm j q hj
  exact ⟨t,kv,by simpa using a1,a2,a3⟩
 ·refine ⟨.ref s.heap.objs.size,upd H s.heap.objs.size (.dK kvs),I.laid k (Nat.le_refl _) ?_,rfl,q _ I.fresh⟩
  rw [merged_nil_of_nodup more (by rw [← hkv.keys]; exact hn)] at dd
  exact jil (by have:=(by decide:1000 ≤ sizeLine); omega) (by have:=I.big; exact beq_false_of_ne (Nat.ne_of_gt this)) hkv dd
end L2
namespace L2
open PySem PySem.Spec PyProof.Rows
def jn7 (f:List Bool→Bool):List V→Hp→VK→Prop:=fun vs H Q=>∃ l bs,vs = [.ref l]∧H l = some (.lst (bs.map V.bl))∧Q (.bl (f bs)) H
theorem jp8 {bs:List Bool} {tr:Nat→Bool} (h:∀ i b,bs[i]? = some b→tr i = b):(List.range bs.length).all tr = bs.all id:=by
 rw [Bool.eq_iff_iff,List.all_eq_true,List.all_eq_true]
 constructor
 ·intro q b hb
  obtain ⟨i,hi,e⟩:=List.mem_iff_getElem.mp hb
  have:=q i (List.mem_range.mpr hi)
  rw [h i b (by rw [List.getElem?_eq_getElem hi,e])] at this
  exact this
 ·intro q i hi
  have hi':=List.mem_range.mp hi
  rw [h i bs[i] (List.getElem?_eq_getElem hi')]
  exact q _ (List.getElem_mem hi')
theorem jp7 {bs:List Bool} {tr:Nat→Bool} (h:∀ i b,bs[i]? = some b→tr i = b):(List.range bs.length).any tr = bs.any id:=by
 rw [Bool.eq_iff_iff,List.any_eq_true,List.any_eq_true]
 constructor
 ·rintro ⟨i,hi,q⟩
  have hi':=List.mem_range.mp hi
  rw [h i bs[i] (List.getElem?_eq_getElem hi')] at q
  exact ⟨_,List.getElem_mem hi',q⟩
 ·rintro ⟨b,hb,q⟩
  obtain ⟨i,hi,e⟩:=List.mem_iff_getElem.mp hb
  exact ⟨i,List.mem_range.mpr hi,by rw [h i b (by rw [List.getElem?_eq_getElem hi,e])]; exact q⟩
theorem jiy:∀ {bs:List Bool} {us:List Value},Vals (bs.map V.bl) us→us = bs.map Value.bool
 | [],_,.nil=>rfl
 | b :: r,_,.cons q t=>by
  cases (show _ = Value.bool b from q)
  rw [jiy t]
  rfl
theorem jqj {X:Cx} (hc:X.calm = true):jc7 X (.builtin "all") (jn7 fun bs=>bs.all id):=by
 intro pins s σ H vs us Q I rv h
 obtain ⟨l,bs,rfl,hl,q⟩:=h
 obtain ⟨u,rfl,ru⟩:=rv.one
 cases ru
 obtain ⟨z,its,n,r,hlen,e⟩:=I.lstM hl
 have e2:=jiy r
 subst e2
 have llt:l < s.heap.objs.size:=Heap.lt_size e
 have hL:s.heap.IsList l (bs.map Value.bool).toArray:=⟨_,e,rfl,_,rfl⟩
 refine call_all_walk (wpAny_pyIter_list hL ⟨s.heap.objs.size,[s.heap.objs.size,l],[s.heap.objs.size],_,_,_,fun i=>bs[i]?.getD true,rfl,Walks.list (A:=X.A.in1) (show X.A.in1.handled = none from I.ok.hd hc) s.heap.objs.size l (Nat.ne_of_lt llt) (bs.map Value.bool).toArray,
  (show Heap.IsListIter _ _ _ _∧Heap.IsList _ _ _ from ⟨⟨_,Heap.get?_push_size _ rfl,rfl,rfl⟩,hL.push _⟩),fun i v s' Q' E' hv hq=>?_,fun h' tk k=>?_⟩)
 ·have hv':(bs.map Value.bool)[i]? = some v:=by simpa using hv
  rw [List.getElem?_map] at hv'
  cases eb:bs[i]? with
  | none=>rw [eb] at hv'; cases hv'
  | some b =>
   rw [eb] at hv'
   cases hv'
   have hq':Q' b s':=by dsimp only at hq; rw [eb] at hq; exact hq
   exact wpAny_pure hq'
 ·have ez:((bs.map Value.bool).toArray).size = bs.length:=by simp
  rw [ez,jp8 (bs:=bs) (tr:=fun i=>bs[i]?.getD true) (fun i b hb=>by rw [hb]; rfl)]
  refine ⟨.bl _,H,I.kept fun b o qq=>k b o ?_ (Heap.get?_push_of_some _ qq),rfl,q⟩
  intro hb
  have:b = s.heap.objs.size:=by simpa using hb
  subst this
  exact absurd (Heap.lt_size qq) (Nat.lt_irrefl _)
theorem jqi {X:Cx} (hc:X.calm = true):jc7 X (.builtin "any") (jn7 fun bs=>bs.any id):=by
 intro pins s σ H vs us Q I rv h
 obtain ⟨l,bs,rfl,hl,q⟩:=h
 obtain ⟨u,rfl,ru⟩:=rv.one
 cases ru
 obtain ⟨z,its,n,r,hlen,e⟩:=I.lstM hl
 have e2:=jiy r
 subst e2
 have llt:l < s.heap.objs.size:=Heap.lt_size e
 have hL:s.heap.IsList l (bs.map Value.bool).toArray:=⟨_,e,rfl,_,rfl⟩
 refine call_any_walk (wpAny_pyIter_list hL ⟨s.heap.objs.size,[s.heap.objs.size,l],[s.heap.objs.size],_,_,_,fun i=>bs[i]?.getD true,rfl,Walks.list (A:=X.A.in1) (show X.A.in1.handled = none from I.ok.hd hc) s.heap.objs.size l (Nat.ne_of_lt llt) (bs.map Value.bool).toArray,
  (show Heap.IsListIter _ _ _ _∧Heap.IsList _ _ _ from ⟨⟨_,Heap.get?_push_size _ rfl,rfl,rfl⟩,hL.push _⟩),fun i v s' Q' E' hv hq=>?_,fun h' tk k=>?_⟩)
 ·have hv':(bs.map Value.bool)[i]? = some v:=by simpa using hv
  rw [List.getElem?_map] at hv'
  cases eb:bs[i]? with
  | none=>rw [eb] at hv'; cases hv'
  | some b =>
   rw [eb] at hv'
   cases hv'
   have hq':Q' b s':=by dsimp only at hq; rw [eb] at hq; exact hq
   exact wpAny_pure hq'
 ·have ez:((bs.map Value.bool).toArray).size = bs.length:=by simp
  rw [ez,jp7 (bs:=bs) (tr:=fun i=>bs[i]?.getD true) (fun i b hb=>by rw [hb]; rfl)]
  refine ⟨.bl _,H,I.kept fun b o qq=>k b o ?_ (Heap.get?_push_of_some _ qq),rfl,q⟩
  intro hb
  have:b = s.heap.objs.size:=by simpa using hb
  subst this
  exact absurd (Heap.lt_size qq) (Nat.lt_irrefl _)
inductive Knd (H:Hp):V→String→Prop where
 | non:Knd H .non "NoneType"
 | bl {x:Bool}:Knd H (.bl x) "bool"
 | int {i:Int}:Knd H (.int i) "int"
 | str {x:Str}:Knd H (.str x) "str"
 | lst {a:Addr} {xs:List V} (e:H a = some (.lst xs)):Knd H (.ref a) "list"
 | tup {a:Addr} {xs:List V} (e:H a = some (.tup xs)):Knd H (.ref a) "tuple"
 | dK {a:Addr} {kvs:List (Key × V)} (e:H a = some (.dK kvs)):Knd H (.ref a) "dict"
theorem Knd.ty {K:PySem.W.Frag} {H:Hp} {v:V} {n:String} (h:Knd H v n):TyOf K H v (.type n):=by
 cases h with
 | non=>exact .non
 | bl=>exact .bl _
 | int=>exact .int _
 | str=>exact .str _
 | lst e=>exact .lst e
 | tup e=>exact .tup e
 | dK e=>exact .dK e
def isiK (a b:String):Bool:=a == b || (a == "bool" && b == "int")
def jhc:List String:=["NoneType","bool","int","str","list","tuple","dict"]
theorem jsq {K:PySem.W.Frag}:∀ a ∈ jhc,∀ b ∈ jhc,PySem.W.kitOne K (.type a) (.type b) = some (isiK a b):=by
 intro a ha b hb
 have ha':a = "NoneType" ∨ a = "bool" ∨ a = "int" ∨ a = "str" ∨ a = "list" ∨ a = "tuple" ∨ a = "dict":=by simpa [jhc] using ha
 have hb':b = "NoneType" ∨ b = "bool" ∨ b = "int" ∨ b = "str" ∨ b = "list" ∨ b = "tuple" ∨ b = "dict":=by simpa [jhc] using hb
 rcases ha' with rfl | rfl | rfl | rfl | rfl | rfl | rfl <;> rcases hb' with rfl | rfl | rfl | rfl | rfl | rfl | rfl <;> rfl
def rIsi:List V→Hp→VK→Prop:=fun vs H Q=>∃ x n T,vs = [x,.ty T]∧Knd H x n∧T ∈ jhc∧Q (.bl (isiK n T)) H
theorem Knd.mem {H:Hp} {v:V} {n:String} (h:Knd H v n):n ∈ jhc:=by cases h <;> simp [jhc]
theorem jqh {X:Cx}:jc7 X (.builtin "isinstance") rIsi:=by
 intro pins s σ H vs us Q I rv h
 obtain ⟨x,n,T,rfl,hk,hT,q⟩:=h
 obtain ⟨u1,u2,rfl,r1,r2⟩:=rv.two
 cases (show u2 = Value.type T from r2)
 exact joh I r1 hk.ty (jsq n hk.mem T hT) fun tk=>⟨.bl _,H,I.tok tk,rfl,q⟩
end L2
namespace L2
open PySem PySem.Spec PyProof.Rows
section
variable {X:Cx} {e a b c o i:Expr} {es:List Expr} {t t' ta tb tc td te:TE} {pos p p2:Pos}
theorem PE.imp (h:PE X e t) (hi:∀ σ H Q,t' σ H Q→t σ H Q):PE X e t':=fun pins s σ H Q I q=>h pins s σ H Q I (hi σ H Q q)
theorem PG.imp {t t':TG} (h:PG X e t) (hi:∀ v σ H Q,t' v σ H Q→t v σ H Q):PG X e t':=fun pins s σ H v u Q I r q=>h pins s σ H v u Q I r (hi v σ H Q q)
theorem PGs.imp {t t':TGs} (h:PGs X es t) (hi:∀ v σ H Q,t' v σ H Q→t v σ H Q):PGs X es t':=fun pins s σ H v u Q I r q=>h pins s σ H v u Q I r (hi v σ H Q q)
theorem OpR.imp {f:Value→Value→Sem Value} {r r':R2} (h:OpR X f r) (hi:∀ x y H Q,r' x y H Q→r x y H Q):OpR X f r':=fun pins s σ H x y v u Q I rx ry q=>h pins s σ H x y v u Q I rx ry (hi x y H Q q)
theorem jc7.imp {f:Value} {r r':List V→Hp→VK→Prop} (h:jc7 X f r) (hi:∀ vs H Q,r' vs H Q→r vs H Q):jc7 X f r':=fun pins s σ H xs us Q I rv q=>h pins s σ H xs us Q I rv (hi xs H Q q)
theorem IxR.imp {r r':R2} (h:IxR X r) (hi:∀ x y H Q,r' x y H Q→r x y H Q):IxR X r':=fun value slice pins s σ H x y v u Q I rx ry q hs=>h value slice pins s σ H x y v u Q I rx ry (hi x y H Q q) hs
theorem MtR.imp {id:String} {r r':V→List V→Hp→VK→Prop} (h:MtR X id r) (hi:∀ x vs H Q,r' x vs H Q→r x vs H Q):MtR X id r':=fun pins s σ H x xs v us Q I rx rv q=>h pins s σ H x xs v us Q I rx rv (hi x xs H Q q)
theorem PSet.imp {t t':TSet} (h:PSet X t) (hi:∀ o i v H Q,t' o i v H Q→t o i v H Q):PSet X t':=fun pins s σ H o i v ov iv u Q I r1 r2 r3 q=>h pins s σ H o i v ov iv u Q I r1 r2 r3 (hi o i v H Q q)
theorem SlR.imp {r r':V→Option Int→Option Int→Hp→VK→Prop} (h:SlR X r) (hi:∀ x l u H Q,r' x l u H Q→r x l u H Q):SlR X r':=fun pins s σ H x v vl vu lo hi' sl Q I rx hs pl pu q=>h pins s σ H x v vl vu lo hi' sl Q I rx hs pl pu (hi x lo hi' H Q q)
def fVar (i:Nat):TE:=fun σ H Q=>match σ[i]? with
 | some (some v)=>Q v H
 | _=>False
theorem qv (i:Nat) {x:Str} {pos:Pos} (hN:X.N[i]? = some x:=by rfl) (hv:Vis X.env.scope x:=by first | exact Or.inl rfl | exact Or.inr (Or.inl rfl) | exact Or.inr (Or.inr rfl)) (hd:(x == ("__debug__":Str)) = false:=by decide)
  (hcd:(x == ("__classdict__":Str)) = false:=by decide):PE X (.Name x pos) (fVar i):=(pe_var hN hv hd hcd).imp fun σ H Q q=>by
 unfold fVar at q
 split at q
 ·rename_i v e; exact ⟨v,e,q⟩
 ·exact q.elim
def fI (g:Int→Int→V):R2:=fun x y H Q=>match x,y with
 | .int i,.int j=>Q (g i j) H
 | _,_=>False
def fIC (C:Int→Int→Prop) (g:Int→Int→V):R2:=fun x y H Q=>match x,y with
 | .int i,.int j=>C i j∧Q (g i j) H
 | _,_=>False
theorem fI.r {g:Int→Int→V} {x y:V} {H:Hp} {Q:VK} (h:fI g x y H Q):rI0 g x y H Q:=by
 unfold fI at h
 split at h
 ·exact ⟨_,_,rfl,rfl,h⟩
 ·exact h.elim
theorem fIC.r {C:Int→Int→Prop} {g:Int→Int→V} {x y:V} {H:Hp} {Q:VK} (h:fIC C g x y H Q):rI C g x y H Q:=by
 unfold fIC at h
 split at h
 ·exact ⟨_,_,rfl,rfl,h.1,h.2⟩
 ·exact h.elim
theorem jdr:OpR X (binaryOp .Add) (fI fun i j=>.int (i + j)):=op_add.imp fun _ _ _ _=>fI.r
theorem q_sub:OpR X (binaryOp .Sub) (fI fun i j=>.int (i - j)):=op_sub.imp fun _ _ _ _=>fI.r
theorem jj3:OpR X (binaryOp .Mult) (fIC CMul fun i j=>.int (i * j)):=op_mul.imp fun _ _ _ _=>fIC.r
theorem jhw:OpR X (binaryOp .Mod) (fIC (fun _ j=>0 < j) fun i j=>.int (i % j)):=op_mod.imp fun _ _ _ _=>fIC.r
theorem jna:OpR X (binaryOp .FloorDiv) (fIC CDiv fun i j=>.int (i / j)):=jsc.imp fun _ _ _ _=>fIC.r
theorem js3:OpR X (binaryOp .Pow) (fIC CPow fun i j=>.int (i ^ j.toNat)):=op_pow.imp fun _ _ _ _=>fIC.r
theorem q_lt:OpR X (compareOp .Lt) (fI fun i j=>.bl (decide (i < j))):=op_lt.imp fun _ _ _ _=>fI.r
theorem q_le:OpR X (compareOp .LtE) (fI fun i j=>.bl (decide (i ≤ j))):=op_le.imp fun _ _ _ _=>fI.r
theorem q_gt:OpR X (compareOp .Gt) (fI fun i j=>.bl (decide (i > j))):=op_gt.imp fun _ _ _ _=>fI.r
theorem q_ge:OpR X (compareOp .GtE) (fI fun i j=>.bl (decide (i ≥ j))):=op_ge.imp fun _ _ _ _=>fI.r
theorem jr1:PIp X .Add (fI fun i j=>.int (i + j)):=fun pins s σ H x y v u Q I rx ry q=>jsv pins s σ H x y v u Q I rx ry q.r
def fNeg:V→Hp→VK→Prop:=fun x H Q=>match x with
 | .int i=>Q (.int (-i)) H
 | _=>False
theorem jpp:UnR X (unaryOp .USub) fNeg:=fun pins s σ H x v Q I rx q=>by
 cases x <;> first
  | exact False.elim q
  | exact un_neg pins s σ H _ v Q I rx ⟨_,rfl,q⟩
def fEq:R2:=fun x y H Q=>match x,y with
 | .int i,.int j=>Q (.bl (decide (i = j))) H
 | .bl i,.bl j=>Q (.bl (decide (i = j))) H
 | .str i,.str j=>Q (.bl (decide (i = j))) H
 | _,_=>False
def fNe:R2:=fun x y H Q=>match x,y with
 | .int i,.int j=>Q (.bl (!decide (i = j))) H
 | .bl i,.bl j=>Q (.bl (!decide (i = j))) H
 | .str i,.str j=>Q (.bl (!decide (i = j))) H
 | _,_=>False
theorem dI (i j:Int):decide (V.int i = V.int j) = decide (i = j):=by simp
theorem dB (i j:Bool):decide (V.bl i = V.bl j) = decide (i = j):=by simp
theorem dS (i j:Str):decide (V.str i = V.str j) = decide (i = j):=by simp
theorem q_eq:OpR X (compareOp .Eq) fEq:=op_eq.imp fun x y H Q h=>by
 unfold fEq at h
 split at h
 ·exact ⟨rfl,by rw [dI]; exact h⟩
 ·exact ⟨rfl,by rw [dB]; exact h⟩
 ·exact ⟨rfl,by rw [dS]; exact h⟩
 ·exact h.elim
theorem q_ne:OpR X (compareOp .NotEq) fNe:=op_ne.imp fun x y H Q h=>by
 unfold fNe at h
 split at h
 ·exact ⟨rfl,by rw [dI]; exact h⟩
 ·exact ⟨rfl,by rw [dB]; exact h⟩
 ·exact ⟨rfl,by rw [dS]; exact h⟩
 ·exact h.elim
def joi:V→Bool
 | .non=>true
 | _=>false
def fIsN (f:Bool→Bool):R2:=fun x y H Q=>match y with
 | .non=>Q (.bl (f (joi x))) H
 | _=>False
theorem dN (x:V):decide (x = V.non) = joi x:=by cases x <;> simp [joi]
theorem js4:OpR X (compareOp .Is) (fIsN id):=op_isN.imp fun x y H Q h=>by
 unfold fIsN at h
 split at h
 ·exact ⟨rfl,by rw [dN]; exact h⟩
 ·exact h.elim
theorem q_notN:OpR X (compareOp .IsNot) (fIsN not):=jsb.imp fun x y H Q h=>by
 unfold fIsN at h
 split at h
 ·exact ⟨rfl,by rw [dN]; exact h⟩
 ·exact h.elim
def fAnd (ta tb:TE):TE:=fun σ H Q=>ta σ H fun x H1=>match x with
 | .bl c=>if c = true then tb σ H1 Q else Q (.bl false) H1
 | _=>False
def fOr (ta tb:TE):TE:=fun σ H Q=>ta σ H fun x H1=>match x with
 | .bl c=>if c = true then Q (.bl true) H1 else tb σ H1 Q
 | _=>False
def fNot (ta:TE):TE:=fun σ H Q=>ta σ H fun x H1=>match x with
 | .bl c=>Q (.bl (!c)) H1
 | _=>False
def fB (t:TE):TT:=fun σ H Q=>t σ H fun x H1=>match x with
 | .bl c=>Q c H1
 | _=>False
variable {rest:List Expr}
theorem jdy (ha:PE X a ta) (hb:PE X (.BoolOp .And (b :: rest) pos) tb):PE X (.BoolOp .And (a :: b :: rest) pos) (fAnd ta tb):=by
  intro pins s σ H Q I h
  refine BoolOp_and (thn (ha pins s σ H _ I h) fun v s1 ⟨x,H1,I1,r1,q1⟩=>?_)
  cases x <;> first
    | exact False.elim q1
    | (rename_i c
       cases r1
       refine wpAny_truthy_bool ?_
       cases c with
       | true=>exact hb pins s1 σ H1 Q I1 q1
       | false=>exact ⟨.bl false,H1,I1,rfl,q1⟩)
theorem q_not (ha:PE X a ta):PE X (.UnaryOp .Not a pos) (fNot ta):=by
  intro pins s σ H Q I h
  refine UnaryOp_ (thn (ha pins s σ H _ I h) fun v s1 ⟨x,H1,I1,r1,q1⟩=>?_)
  cases x <;> first
    | exact False.elim q1
    | (rename_i c
       cases r1
       exact not_of (wpAny_truthy_bool ⟨.bl (!c),H1,I1,rfl,q1⟩))
theorem jb4 {t:TE} (h:PE X e t) (he:∀ whole,isTrue e X.env whole = (do let v ← whole; standAt e.pos; holding [v] (truthy v)):=by intro _; rfl):PT X e (fB t):=by
  intro pins s σ H Q I hw
  refine isTrue_plain (thn (h pins s σ H _ I hw) fun v s1 ⟨x,H1,I1,r1,q1⟩=>?_) (he _)
  cases x <;> first
    | exact False.elim q1
    | (cases r1
       exact wpAny_truthy_bool ⟨H1,I1,q1⟩)
theorem jaw {op:CmpOp} {r:R2} (ho:OpR X (compareOp op) r) (ha:PE X a ta) (hb:PE X b tb) (hm:behindInMarks op b = false):PT X (.Compare a [op] [b] pos) (fB (tOp r ta tb)):=by
  intro pins s σ H Q I h
  refine wpAny_isTrue_Compare1 (thn (ha pins s σ H _ I h) fun v s1 ⟨x,H1,I1,r1,q1⟩=>thn (hb pins s1 σ H1 _ I1 q1) fun u s2 ⟨y,H2,I2,r2,q2⟩ =>
    thn (ho pins s2 σ H2 x y v u _ I2 r1 r2 q2) fun c s3 ⟨z,H3,I3,r3,q3⟩=>?_) hm
  cases z <;> first
    | exact False.elim q3
    | (cases r3
       exact wpAny_truthy_bool ⟨H3,I3,q3⟩)
theorem qt_pc {op:CmpOp} {t:TE} (h:PC X op a b t) (h1:behindInMarks op b = false:=by first | exact jh5 _ (by decide) (by decide) | rfl):PT X (.Compare a [op] [b] pos) (fB t):=by
  intro pins s σ H Q I hw
  refine wpAny_isTrue_Compare1 (thn (h pins s σ H _ I hw) fun v s1 h1=>thn h1 fun u s2 h2=>thn h2 fun c s3 ⟨x,H1,I1,r1,q1⟩=>?_) h1
  cases x <;> first
    | exact False.elim q1
    | (cases r1
       exact wpAny_truthy_bool ⟨H1,I1,q1⟩)
def jow (r r':R2) (ta tb tc:TE):TE:=fun σ H Q=>ta σ H fun x H1=>tb σ H1 fun y H2=>r x y H2 fun z H3=>match z with
 | .bl k=>(if k = true then tc σ H3 fun w' H4=>r' y w' H4 Q else Q (.bl false) H3)
 | _=>False
theorem jnb {op op':CmpOp} {g:Int→Int→Bool} {r':R2} (ho:OpR X (compareOp op) (fI fun i j=>.bl (g i j))) (ho':OpR X (compareOp op') r') (ha:PE X a ta) (hb:PE X b tb) (hc:PE X c tc)
  (hm:lastMarks [op,op'] [b,c] = false:=by with_unfolding_all rfl):PE X (.Compare a [op,op'] [b,c] pos) (jow (fI fun i j=>.bl (g i j)) r' ta tb tc):=by
 intro pins s σ H Q I h
 refine Compare_chain (thn (ha pins s σ H _ I h) fun v s1 ⟨x,H1,I1,r1,q1⟩=>chain_link (thn (hb pins s1 σ H1 _ I1 q1) fun u s2 ⟨y,H2,I2,r2,q2⟩ =>
  thn (ho pins s2 σ H2 x y v u (fun z H3=>∃ k,z = .bl k∧(if k = true then tc σ H3 fun w' H4=>r' y w' H4 Q else Q (.bl false) H3)) I2 r1 r2 ?_) fun d s3 ⟨z,H3,I3,r3,k,e,q3⟩=>?_)) hm
 ·dsimp only at q2
  unfold fI at q2 ⊢
  cases x <;> cases y <;> first
   | exact q2.elim
   | exact ⟨_,rfl,q2⟩
 ·subst e
  cases r3
  refine wpAny_truthy_bool ?_
  cases k with
  | false=>exact ite_ff ⟨.bl false,H3,I3,rfl,q3⟩
  | true=>exact ite_tt (chain_last (thn (hc pins s3 σ H3 _ I3 q3) fun w' s4 ⟨z',H4,I4,r4,q4⟩=>ho' pins s4 σ H4 y z' u w' Q I4 r2 r4 q4))
def jam (H:Hp) (p:Addr):Option (List V):=match H p with
 | some (.lst xs)=>some xs
 | some (.tup xs)=>some xs
 | some (.frz _ (.lst xs))=>some xs
 | _=>none
theorem jes {K:PySem.W.Frag} {H:Hp} {p:Addr} {xs:List V} (h:jam H p = some xs):SqL K H p xs ∨ SqT K H p xs:=by
 unfold jam at h
 split at h
 ·rename_i ys e; cases h; exact .inl (.inl (.inl e))
 ·rename_i ys e; cases h; exact .inr (SqT.of e)
 ·rename_i o ys e; cases h; exact .inl (.inl (.inr ⟨_,e⟩))
 ·cases h
def fIx:R2:=fun x y H Q=>match x,y with
 | .ref p,.int i=>match jam H p with
  | some xs=>match atI xs i with
   | some v=>Q v H
   | none=>False
  | none=>False
 | _,_=>False
theorem q_ix:IxR X fIx:=(jof.or jcm).imp fun x y H Q h=>by
 unfold fIx at h
 split at h
 ·split at h
  ·rename_i xs e
   split at h
   ·rename_i v ev
    rcases jes (K:=X.K) e with z | z
    ·exact .inl ⟨_,_,_,_,rfl,rfl,z,ev,h⟩
    ·exact .inr ⟨_,_,_,_,rfl,rfl,z,ev,h⟩
   ·exact h.elim
  ·exact h.elim
 ·exact h.elim
def fLen:List V→Hp→VK→Prop:=fun vs H Q=>match vs with
 | [.ref p]=>match jam H p with
  | some xs=>Q (.int xs.length) H
  | none=>False
 | _=>False
theorem jeb:jc7 X (.builtin "len") fLen:=jek.imp fun vs H Q h=>by
 unfold fLen at h
 split at h
 ·split at h
  ·rename_i xs e; exact ⟨_,xs,rfl,jes e,h⟩
  ·exact h.elim
 ·exact h.elim
def jhf:List V→Hp→VK→Prop:=fun vs H Q=>match vs with
 | [.ref p]=>match jam H p with
  | some xs=>∀ l,H l = none→Q (.ref l) (upd H l (.lst xs))
  | none=>False
 | _=>False
theorem jkh:jc7 X (.type "list") jhf:=jip.imp fun vs H Q h=>by
 unfold jhf at h
 split at h
 ·split at h
  ·rename_i xs e; exact ⟨_,xs,rfl,jes e,h⟩
  ·exact h.elim
 ·exact h.elim
def fMin:List V→Hp→VK→Prop:=fun vs H Q=>match vs with
 | [.int i,.int j]=>Q (.int (if j < i then j else i)) H
 | _=>False
def fSlL:V→Option Int→Option Int→Hp→VK→Prop:=fun x lo hi H Q=>match x with
 | .ref a=>match H a with
  | some (.lst xs)=>∀ p,H p = none→Q (.ref p) (upd H p (.lst (cutV xs lo hi)))
  | _=>False
 | _=>False
theorem q_slL:SlR X fSlL:=js2.imp fun x l u H Q h=>by
 unfold fSlL at h
 split at h
 ·split at h
  ·rename_i xs e; exact ⟨_,xs,rfl,SqL.of e,h⟩
  ·exact h.elim
 ·exact h.elim
def jhg:V→List V→Hp→VK→Prop:=fun x vs H Q=>match x,vs with
 | .ref l,[y]=>match H l with
  | some (.lst xs)=>xs.length < sizeLine∧Q .non (upd H l (.lst (xs ++ [y])))
  | _=>False
 | _,_=>False
theorem jdi:MtR X "list.append" jhg:=MtR.imp (r:=jn8) (fun pins s σ H x xs v us Q I rx rv q=>ji9 pins s σ H x xs v us Q I rx rv q) fun x vs H Q h=>by
 unfold jhg at h
 split at h
 ·split at h
  ·rename_i xs e; exact ⟨_,xs,_,rfl,rfl,e,h.1,h.2⟩
  ·exact h.elim
 ·exact h.elim
def fBM (r:V→List V→Hp→VK→Prop) (to:TE) (t:TA):TE:=fun σ H Q=>to σ H fun x H1=>(∃ a xs,x = .ref a∧H1 a = some (.lst xs))∧t σ H1 fun xs H2=>r x xs H2 Q
def jqe:TSet:=fun o i v H Q=>match o,i with
 | .ref p,.int k=>match H p with
  | some (.lst xs)=>match ixN xs.length k with
   | some j=>Q (upd H p (.lst (xs.set j v)))
   | none=>False
  | _=>False
 | _,_=>False
theorem jkg:PSet X jqe:=jpo.imp fun o i v H Q h=>by
 unfold jqe at h
 split at h
 ·split at h
  ·rename_i xs e
   split at h
   ·rename_i j ej; exact ⟨_,xs,_,j,rfl,rfl,e,ej,h⟩
   ·exact h.elim
  ·exact h.elim
 ·exact h.elim
def jov:TGs:=fun vs σ H Q=>match vs with
 | []=>Q σ H
 | _=>False
def jij (t:TG) (u:TGs):TGs:=fun vs σ H Q=>match vs with
 | v :: r=>t v σ H fun σ' H'=>u r σ' H' Q
 | []=>False
theorem jbw:PGs X [] jov:=js8.imp fun v σ H Q h=>by
 unfold jov at h
 split at h
 ·exact ⟨rfl,h⟩
 ·exact h.elim
theorem jaj {t:TG} {u:TGs} (h1:PG X e t) (h2:PGs X es u) (hs:(assignEach (e :: es) X.env).map (·.2) = assign e X.env :: (assignEach es X.env).map (·.2):=by rfl):PGs X (e :: es) (jij t u):=(jpv h1 h2 hs).imp fun v σ H Q h=>by
 unfold jij at h
 split at h
 ·exact ⟨_,_,rfl,h⟩
 ·exact h.elim
def jou (n:Nat) (t:TGs):TG:=fun v σ H Q=>match v with
 | .ref a=>match H a with
  | some (.tup xs)=>xs.length = n∧t xs σ H Q
  | _=>False
 | _=>False
theorem jcp {k:Nat} {t:TGs} {n:Nat} (hc:X.calm = true) (h:PGs X es t) (hn:(assignEach es X.env).length = n:=by rfl) (hst:(assignEach es X.env).findIdx? (·.1) = none:=by rfl):PG X (.Tuple es k pos) (jou n t) :=
 (pg_tup hc h hn hst).imp fun v σ H Q q=>by
  unfold jou at q
  split at q
  ·split at q
   ·rename_i xs e; exact ⟨_,xs,rfl,SqT.of e,q.1,q.2⟩
   ·exact q.elim
  ·exact q.elim
def fDIn (f:Bool→Bool) (ty td:TE):TE:=fun σ H Q=>ty σ H fun y H1=>td σ H1 fun x H2=>match y,x with
 | .int n,.ref a=>match H2 a with
  | some (.dK kvs)=>Q (.bl (f (valV kvs (Sum.inl n:Key)).isSome)) H2
  | _=>False
 | _,_=>False
def jt1 (td ty:TE):TE:=fun σ H Q=>td σ H fun x H1=>ty σ H1 fun y H2=>match x,y with
 | .ref a,.int n=>match H2 a with
  | some (.dK kvs)=>match valV kvs (Sum.inl n:Key) with
   | some v=>Q v H2
   | none=>False
  | _=>False
 | _,_=>False
end
section
variable {X:Cx} {o i:Expr} {td ty:TE} {pos:Pos}
theorem jrg {f:Bool→Bool} {H2:Hp} {Q:VK} {y x:V} (h:(match y,x with
  | .int n,.ref a=>match H2 a with
    | some (.dK kvs)=>Q (.bl (f (valV kvs (Sum.inl n:Key)).isSome)) H2
    | _=>False
  | _,_=>False)):∃ a ov,x = .ref a∧DGet H2 a y ov∧Q (.bl (f ov.isSome)) H2:=by
  cases y <;> cases x <;> first
    | exact h.elim
    | (rename_i n a
       dsimp only at h
       split at h
       · rename_i kvs e; exact ⟨a,_,rfl,DGet.k (k:=Sum.inl n) e,h⟩
       · exact h.elim)
theorem q_din (hu:X.A.units + 1 < cLine) (hi:PE X i ty) (ho:PE X o td):PC X .In i o (fDIn id ty td):=by
 intro pins s σ H Q I h
 refine thn (hi pins s σ H _ I h) fun iv s1 ⟨y,H1,I1,ry,q1⟩=>thn (ho pins s1 σ H1 _ I1 q1) fun u s2 ⟨x,H2,I2,rx,q2⟩=>?_
 obtain ⟨a,ov,ex,g,q3⟩:=jrg q2
 subst ex
 obtain rfl:u = Value.ref a:=rx
 exact d_in hu I2 g ry fun s' I3=>⟨.bl ov.isSome,H2,I3,rfl,q3⟩
theorem jkj (hu:X.A.units + 1 < cLine) (hi:PE X i ty) (ho:PE X o td):PC X .NotIn i o (fDIn not ty td):=by
 intro pins s σ H Q I h
 refine thn (hi pins s σ H _ I h) fun iv s1 ⟨y,H1,I1,ry,q1⟩=>thn (ho pins s1 σ H1 _ I1 q1) fun u s2 ⟨x,H2,I2,rx,q2⟩=>?_
 obtain ⟨a,ov,ex,g,q3⟩:=jrg q2
 subst ex
 obtain rfl:u = Value.ref a:=rx
 exact jt7 hu I2 g ry fun s' I3=>⟨.bl (!ov.isSome),H2,I3,rfl,q3⟩
theorem jeh (hu:X.A.units + 1 < cLine) (ho:PE X o td) (hi:PE X i ty) (hs:NoSl i):PE X (.Subscript o i pos) (jt1 td ty):=by
  intro pins s σ H Q I h
  refine jmo PySem.F.slot_dict_getitem.lookup hs (thn (ho pins s σ H _ I h) fun u s1 ⟨x,H1,I1,rx,q1⟩=>thn (hi pins s1 σ H1 _ I1 q1) fun iv s2 ⟨y,H2,I2,ry,q2⟩=>?_)
  cases x <;> cases y <;> first
    | exact False.elim q2
    | (dsimp only at q2
       split at q2
       · rename_i kvs e
         split at q2
         · rename_i v ev
           cases rx
           have g:∀ {a:Addr} {n:Int},H2 a = some (.dK kvs)→valV kvs (Sum.inl n:Key) = some v→DGet H2 a (.int n) (some v):=fun e1 e2=>e2 ▸ DGet.k (k:=Sum.inl _) e1
           have g:=g e ev
           exact ⟨jfm I2 g,jin hu I2 g ry fun w' s3 I3 rw'=>⟨v,H2,I3,rw',q2⟩⟩
         · exact q2.elim
       · exact q2.elim)
theorem q_bm {e:Expr} {es:List Expr} {to:TE} {t:TA} {name:Str} {apos cpos:Pos} {id:String} {r:V→List V→Hp→VK→Prop} (pa:PlainAttrs "list") (slot:Slot "list" name id) (hty:typeOf (.builtin id) = pure (.type "method_descriptor")) (hm:MtR X id r) (ho:PE X o to) (ha:PA X (e :: es) t)
  (hbase:attributeBase o name X.env (eval o X.env) = eval o X.env:=by rfl)
  (hfew:((backTo cpos (starEach (e :: es) X.env)).all (fun x=>!x.1) && (backToKw cpos (keywordEach [] X.env)).all (fun x=>x.1.isSome)
   && decide ((e :: es).length + ([]:List Keyword).length + (if ([]:List Keyword).isEmpty then 0 else 1) < 30)) = true:=by rfl)
  (hline:(apos.endLine == cpos.line) = true:=by rfl) (hs:starEach (e :: es) X.env = (false,eval e X.env) :: starEach es X.env:=by rfl) (hplain:(backTo cpos (starEach es X.env)).any (·.1) = false:=by rfl) :
  PE X (.Call (.Attribute o name apos) (e :: es) [] cpos) (fBM r to t):=by
 intro pins s σ H Q I h
 refine wpAny_Call_method_late hbase hfew hline rfl (thn (ho pins s σ H _ I h) fun v s1 ⟨x,H1,I1,r1,⟨a,xs,ex,ea⟩,q1⟩=>?_)
 subst ex
 obtain ⟨h1,h2⟩:=tyV_is (T:="list") I1 r1 (.inl ⟨rfl,_,SqL.of ea⟩)
 refine ⟨"list",id,pa,slot,hty,h1,h2,?_⟩
 have hA:=ha cpos pins s1 σ H1 _ I1 q1
 rw [hs] at hA ⊢
 refine Calls.callWith_builtin (by show (false || (backTo cpos (starEach es X.env)).any (·.1)) = false; rw [hplain] <;> rfl) (Calls.evalArgs_plain ?_)
 exact thn hA fun us s2 ⟨vs,H2,I2,r2,q2⟩=>hm pins s2 σ H2 _ vs v us Q I2 r1 r2 q2
end
inductive Kd where
 | non | bl | int | str | lst | tup | dct
 deriving DecidableEq
def Kd.nm:Kd→String
 | .non=>"NoneType"
 | .bl=>"bool"
 | .int=>"int"
 | .str=>"str"
 | .lst=>"list"
 | .tup=>"tuple"
 | .dct=>"dict"
def kd (H:Hp) (v:V):Option Kd:=match v with
 | .non=>some .non
 | .bl _=>some .bl
 | .int _=>some .int
 | .str _=>some .str
 | .ref a=>match H a with
  | some (.lst _)=>some .lst
  | some (.tup _)=>some .tup
  | some (.dK _)=>some .dct
  | _=>none
 | _=>none
def isi (a b:Kd):Bool:=match a,b with
 | .bl,.int=>true
 | .non,.non=>true
 | .bl,.bl=>true
 | .int,.int=>true
 | .str,.str=>true
 | .lst,.lst=>true
 | .tup,.tup=>true
 | .dct,.dct=>true
 | _,_=>false
theorem kd_knd {H:Hp} {v:V} {k:Kd} (h:kd H v = some k):Knd H v k.nm:=by
 unfold kd at h
 split at h
 ·cases h; exact .non
 ·cases h; exact .bl
 ·cases h; exact .int
 ·cases h; exact .str
 ·split at h
  ·rename_i e; cases h; exact .lst e
  ·rename_i e; cases h; exact .tup e
  ·rename_i e; cases h; exact .dK e
  ·cases h
 ·cases h
theorem isi_K (a b:Kd):isiK a.nm b.nm = isi a b:=by cases a <;> cases b <;> rfl
theorem Kd.mem (b:Kd):b.nm ∈ jhc:=by cases b <;> simp [jhc,Kd.nm]
def fIsi (T:Kd):List V→Hp→VK→Prop:=fun vs H Q=>match vs with
 | [x,y]=>y = .ty T.nm∧match kd H x with
  | some k=>Q (.bl (isi k T)) H
  | none=>False
 | _=>False
theorem jcq {X:Cx} (T:Kd):jc7 X (.builtin "isinstance") (fIsi T):=jqh.imp fun vs H Q h=>by
 unfold fIsi at h
 split at h
 ·obtain ⟨rfl,h⟩:=h
  split at h
  ·rename_i k e
   exact ⟨_,_,_,rfl,kd_knd e,Kd.mem T,by rw [isi_K]; exact h⟩
  ·exact h.elim
 ·exact h.elim
def fAug (i:Nat) (te:TE) (ti:TIp):TS:=fun D σ H=>match σ[i]? with
 | some (some x)=>te σ H fun y H1=>ti x y H1 fun z H2=>D.nx (σ.set i (some z)) H2
 | _=>False
theorem jr0 {X:Cx} {pos:Pos} {i:Nat} {x:Str} {e:Expr} {te:TE} {op:Operator} {ti:TIp} {pos':Pos} (hN:X.N.Nodup) (hi:X.N[i]? = some x) (hx:Loc X.env.scope x) (he:PE X e te) (ho:PIp X op ti) (hf:X.fn x = true ∨ X.env.scope.names.lookup x = some .local:=by first | exact .inl rfl | exact .inr rfl | assumption) :
  PS X (.AugAssign (.Name x pos') op e pos) (fAug i te ti):=fun pins s σ H D I h=>ps_aug hN hi hx he ho hf pins s σ H D I (by
 unfold fAug at h
 split at h
 ·rename_i x e; exact ⟨x,e,h⟩
 ·exact h.elim)
def jt0 (t:TE):TO:=fun σ H Q=>t σ H fun x H1=>match x with
 | .int i=>Q (some i) H1
 | _=>False
theorem jn9 {X:Cx} {e:Expr} {te:TE} (h:PE X e te):PO X (some e) (jt0 te):=by
  intro pins s σ H Q I hw
  rw [evalPart_some]
  refine thn (h pins s σ H _ I hw) fun u s1 ⟨x,H1,I1,r1,q1⟩=>?_
  cases x <;> first
    | exact False.elim q1
    | (obtain ⟨t,rfl⟩:=r1
       exact ⟨some _,H1,I1,.int _ t,q1⟩)
def jgg (f:List Bool→Bool):List V→Hp→VK→Prop:=fun vs H Q=>match vs with
 | [.ref l]=>match H l with
  | some (.lst xs)=>∃ bs:List Bool,xs = bs.map V.bl∧Q (.bl (f bs)) H
  | _=>False
 | _=>False
theorem jl4 {f:List Bool→Bool} {vs:List V} {H:Hp} {Q:VK} (h:jgg f vs H Q):jn7 f vs H Q:=by
 unfold jgg at h
 split at h
 ·split at h
  ·rename_i xs e
   obtain ⟨bs,rfl,h⟩:=h
   exact ⟨_,bs,rfl,e,h⟩
  ·exact h.elim
 ·exact h.elim
theorem q_all {X:Cx} (hc:X.calm = true):jc7 X (.builtin "all") (jgg fun bs=>bs.all id):=(jqj hc).imp fun _ _ _=>jl4
theorem q_any {X:Cx} (hc:X.calm = true):jc7 X (.builtin "any") (jgg fun bs=>bs.any id):=(jqi hc).imp fun _ _ _=>jl4
def jl3:List V→Hp→VK→Prop:=fun vs H Q=>match vs with
 | [.ref l]=>match H l with
  | some (.lst xs)=>∃ kvs:List (Key × V),Paired (PairAt H) xs kvs∧xs.length ≤ 1000∧(kvs.map (·.1)).Nodup∧∀ d,H d = none→Q (.ref d) (upd H d (.dK kvs))
  | _=>False
 | _=>False
theorem jf4 {X:Cx} (hc:X.calm = true):jc7 X (.type "dict") jl3:=(jlx hc).imp fun vs H Q h=>by
 unfold jl3 at h
 split at h
 ·split at h
  ·rename_i xs e
   obtain ⟨kvs,h1,h2,h3,h4⟩:=h
   exact ⟨_,xs,kvs,rfl,e,h1,h2,h3,h4⟩
  ·exact h.elim
 ·exact h.elim
def fLtT:R2:=fun x y H Q=>match x,y with
 | .ref a,.ref b=>match H a,H b with
  | some (.tup [.int i,.int j]),some (.tup [.int k,.int l])=>Q (.bl (HT.lexLt [i,j] [k,l])) H
  | _,_=>False
 | _,_=>False
theorem q_ltT {X:Cx} (hu:X.A.units < cLine):OpR X (compareOp .Lt) fLtT:=(op_ltT hu).imp fun x y H Q h=>by
 unfold fLtT at h
 split at h
 ·split at h
  ·rename_i a b _ _ i j k l e1 e2
   exact ⟨a,b,[i,j],[k,l],rfl,rfl,SqT.of e1,SqT.of e2,h⟩
  ·exact h.elim
 ·exact h.elim
def capB (XN:List Str) (names:List (Str × NameKind)):List Str→List (Option Nat)→Bool
 | [],[]=>true
 | x :: N,none :: r=>capB XN names N r
 | x :: N,some j :: r=>(XN[j]? == some x) && (names.lookup x == some .free) && capB XN names N r
 | _,_=>false
theorem jjx {XN:List Str} {names:List (Str × NameKind)}:∀ {N:List Str} {src:List (Option Nat)},capB XN names N src = true→src.length = N.length∧∀ (i j:Nat),src[i]? = some (some j)→XN[j]? = N[i]?∧(N[i]?).elim False (fun x=>names.lookup x = some .free)
 | [],[],_=>⟨rfl,fun i j e=>by simp at e⟩
 | x :: N,none :: r,h=>by
  obtain ⟨h1,h2⟩:=jjx (N:=N) (src:=r) h
  refine ⟨by simp [h1],fun i j e=>?_⟩
  cases i with
  | zero=>simp at e
  | succ i=>exact h2 i j (by simpa using e)
 | x :: N,some k :: r,h=>by
  have h':((XN[k]? == some x) && (names.lookup x == some .free) && capB XN names N r) = true:=h
  rw [Bool.and_eq_true,Bool.and_eq_true] at h'
  obtain ⟨h1,h2⟩:=jjx (N:=N) (src:=r) h'.2
  refine ⟨by simp [h1],fun i j e=>?_⟩
  cases i with
  | zero =>
   have e':k = j:=by simpa using e
   subst e'
   exact ⟨by simpa using h'.1.1,by simpa using h'.1.2⟩
  | succ i=>exact h2 i j (by simpa using e)
def jkt:List Str→Bool
 | []=>true
 | x :: r=>!(r.contains x) && jkt r
theorem jai:∀ {l:List Str},jkt l = true→l.Nodup
 | [],_=>List.nodup_nil
 | x :: r,h=>by
  have h':(!(r.contains x) && jkt r) = true:=h
  rw [Bool.and_eq_true] at h'
  exact List.nodup_cons.mpr ⟨by simpa using h'.1,jai h'.2⟩
def cpB (XN:List Str) (outer:List (Str × NameKind)) (scope:Scope) (N:List Str) (src:List (Option Nat)):Bool :=
 (scope.kind == .function) && scope.names.all (fun y=>y.2 != .cell) && scope.names.all (fun y=>y.2 != .local || scope.names.lookup y.1 == some .local) &&
  scope.names.all (fun y=>y.2 != .free || (scope.names.lookup y.1 == some .free && outer.lookup y.1 == some .cell)) && jkt N && capB XN scope.names N src
theorem CpScope.of {X:Cx} {scope:Scope} {N:List Str} {src:List (Option Nat)} (h:cpB X.N X.env.scope.names scope N src = true):CpScope X scope N src:=by
 unfold cpB at h
 simp only [Bool.and_eq_true] at h
 obtain ⟨⟨⟨⟨⟨h1,h2⟩,h3⟩,h4⟩,h5⟩,h6⟩:=h
 rw [List.all_eq_true] at h2 h3 h4
 obtain ⟨l,c⟩:=jjx h6
 refine ⟨by simpa using h1,fun y hy=>by simpa using h2 y hy,fun y hy e=>?_,fun y hy e=>?_,jai h5,l,c⟩
 ·have:=h3 y hy
  rw [e] at this
  simpa using this
 ·have:=h4 y hy
  rw [e] at this
  simpa using this
end L2
namespace L2
open PySem PySem.Spec PyProof.Rows
theorem jl1 {K:PySem.W.Frag} {a:Addr} {xs:List V} {g:TG} {tb:TS} {D:Ends} {σ:St} {H:Hp} (Pv:Nat→St→Hp→Prop) (h0:Pv 0 σ H) (hl:∀ i σ H,i ≤ xs.length→Pv i σ H→SqL K H a xs)
  (hs:∀ i x σ H t,xs[i]? = some x→Pv i σ H→H t = none→g (.ref t) σ (upd H t (.tup [.int i,x])) fun σ2 H2=>tb { D with nx:=Pv (i + 1),ct:=Pv (i + 1),bk:=D.nx } σ2 H2) (hd:∀ σ H,Pv xs.length σ H→D.nx σ H) :
  ∃ W:Nat→Nat→St→Hp→Prop,(∃ m,W 0 m σ H)∧∀ i m σ H,W i m σ H →
   ((Ite K a).stop i H∧D.nx σ H) ∨ ((Ite K a).go i H∧∃ N:St→Hp→Prop,(∀ σ' H',N σ' H'→∃ m',m' < m∧W (i + 1) m' σ' H')∧∀ x H',(Ite K a).yld i H x H'→g x σ H' fun σ2 H2=>tb { D with nx:=N,ct:=N,bk:=D.nx } σ2 H2):=by
 refine ⟨fun i m σ H=>m = xs.length - i∧i ≤ xs.length∧Pv i σ H,⟨xs.length,by simp,Nat.zero_le _,h0⟩,?_⟩
 rintro i m σ H ⟨rfl,hi,p⟩
 have q:=hl i σ H hi p
 by_cases hlt:i < xs.length
 ·refine .inr ⟨⟨xs,xs[i],q,by simp [hlt]⟩,Pv (i + 1),fun σ' H' p'=>⟨xs.length - (i + 1),by omega,rfl,hlt,p'⟩,fun x H' y=>?_⟩
  obtain ⟨t,z,ht,e1,e2,y⟩:=y
  subst e1 e2
  exact hs i z σ _ t (y xs q) p ht
 ·have e:i = xs.length:=by omega
  subst e
  exact .inl ⟨⟨xs,q,Nat.le_refl _⟩,hd σ H p⟩
theorem jco {wi:TI} {g:TG} {tb:TS} {D:Ends} {σ:St} {H:Hp} (J:It) (H1:Hp) (h1:∀ R:It→Hp→Prop,R J H1→wi σ H R)
  (h2:∃ W:Nat→Nat→St→Hp→Prop,(∃ m,W 0 m σ H1)∧∀ i m σ H,W i m σ H→(J.stop i H∧D.nx σ H) ∨ (J.go i H∧∃ N:St→Hp→Prop,(∀ σ' H',N σ' H'→∃ m',m' < m∧W (i + 1) m' σ' H')∧∀ x H',J.yld i H x H'→g x σ H' fun σ2 H2=>tb { D with nx:=N,ct:=N,bk:=D.nx } σ2 H2)) :
  tFor wi g tb D σ H:=h1 _ h2
theorem jau {src:List (Option Nat)} {wi:TI} {g:TG} {tc:TT} {te:TE} {Q:VK} {σ:St} {H:Hp} (J:It) (H1:Hp) (h1:∀ R:It→Hp→Prop,R J H1→wi σ H R) (h2:∀ l,H1 l = none→jpe J src g tc te Q σ H1 l):jpj src wi g tc te σ H Q:=h1 _ h2
theorem ja5 {H:Hp} {p:Addr} (h:H p = none) (o:HO):Same H (upd H p o):=fun b u q=>by rw [ja8 (ja7 q h)]; exact q
theorem jas {H H':Hp} {p:Addr} {o:HO} (s:Same H H') (h:H p = none):Same H (upd H' p o):=fun b u q=>by rw [ja8 (ja7 q h)]; exact s b u q
def Pr (H:Hp) (v:V) (p:Int × Int):Prop:=∃ t,v = .ref t∧H t = some (.tup [.int p.1,.int p.2])
theorem Pr.same {H H':Hp} {v:V} {p:Int × Int} (h:Pr H v p) (s:Same H H'):Pr H' v p:=let ⟨t,e,q⟩:=h; ⟨t,e,s _ _ q⟩
def jsu:HO→Bool
 | .tup _=>true
 | .frz _ _=>true
 | _=>false
def TupS (H H':Hp):Prop:=∀ b o,jsu o = true→H b = some o→H' b = some o
theorem Same.tups {H H':Hp} (s:Same H H'):TupS H H':=fun b o _ q=>s b _ q
theorem TupS.trans {H H1 H2:Hp} (a:TupS H H1) (b:TupS H1 H2):TupS H H2:=fun c o i q=>b c o i (a c o i q)
theorem jcg {H:Hp} {l:Addr} {xs ys:List V} (h:H l = some (.lst xs)):TupS H (upd H l (.lst ys)):=fun b o i q=>by
 have:b ≠ l:=fun z=>by rw [z,h] at q; cases q; cases i
 rw [ja8 this]
 exact q
theorem jep {H:Hp} {l:Addr} {o:HO} (h:H l = none):TupS H (upd H l o):=(ja5 h o).tups
theorem Pr.tups {H H':Hp} {v:V} {p:Int × Int} (h:Pr H v p) (s:TupS H H'):Pr H' v p:=let ⟨t,e,q⟩:=h; ⟨t,e,s _ _ rfl q⟩
def Scr (K:PySem.W.Frag) (H:Hp) (a:Addr) (ns:List Int):Prop :=
 (∃ o,H a = some (.frz o (.lst (ns.map V.int)))) ∨ ∃ (o:Obj) (its:Array Value) (n:Nat),K.lookup a = some o∧o.cls = .type "list"∧o.dict = none∧o.data = .seq its n∧its.size ≤ sizeLine∧Vals (ns.map V.int) its.toList
theorem Scr.sq {K:PySem.W.Frag} {H:Hp} {a:Addr} {ns:List Int} (h:Scr K H a ns):SqL K H a (ns.map V.int):=h.elim (fun ⟨o,q⟩=>.inl (.inr ⟨o,q⟩)) .inr
theorem Scr.of {K:PySem.W.Frag} {H:Hp} {a:Addr} {ns:List Int} (h:SqL K H a (ns.map V.int)) (o:Only H):Scr K H a ns:=by
 rcases h with (h | ⟨ob,h⟩) | h
 ·rcases o a with z | ⟨ob,xs,z⟩
  ·rw [h] at z; cases z
  ·rw [h] at z; cases z
 ·exact .inl ⟨ob,h⟩
 ·exact .inr h
theorem Scr.tups {K:PySem.W.Frag} {H H':Hp} {a:Addr} {ns:List Int} (h:Scr K H a ns) (s:TupS H H'):Scr K H' a ns:=h.elim (fun ⟨o,q⟩=>.inl ⟨o,s _ _ rfl q⟩) .inr
abbrev Prs (H:Hp):List V→List (Int × Int)→Prop:=Paired (Pr H)
theorem Prs.tups {H H':Hp} (s:TupS H H') {xs:List V} {ps:List (Int × Int)} (h:Prs H xs ps):Prs H' xs ps:=Paired.mapP h fun _ _ q=>q.tups s
theorem Prs.same {H H':Hp} (s:Same H H') {xs:List V} {ps:List (Int × Int)} (h:Prs H xs ps):Prs H' xs ps:=Prs.tups s.tups h
theorem jao {α β:Type} {F:α→β→Prop}:∀ {xs:List α} {ys:List β} {i:Nat} {x:α},Paired F xs ys→xs[i]? = some x→∃ y,ys[i]? = some y∧F x y
 | _,_,_,_,.nil,e=>by simp at e
 | _,_,0,_,.cons r _,e=>by simp at e; subst e; exact ⟨_,rfl,r⟩
 | _,_,i + 1,y,.cons _ t,e=>by
  obtain ⟨u,h1,h2⟩:=jao (i:=i) t (by simpa using e)
  exact ⟨u,by simpa using h1,h2⟩
theorem jbf {α β:Type} {F:α→β→Prop}:∀ {xs:List α} {ys:List β} {i:Nat} {y:β},Paired F xs ys→ys[i]? = some y→∃ x,xs[i]? = some x∧F x y
 | _,_,_,_,.nil,e=>by simp at e
 | _,_,0,_,.cons r _,e=>by simp at e; subst e; exact ⟨_,rfl,r⟩
 | _,_,i + 1,y,.cons _ t,e=>by
  obtain ⟨u,h1,h2⟩:=jbf (i:=i) t (by simpa using e)
  exact ⟨u,by simpa using h1,h2⟩
theorem jay {α β:Type} {F:α→β→Prop} {a:α} {b:β} {l₁:List α} {l₂:List β} (h:Paired F l₁ l₂) (r:F a b):Paired F (l₁ ++ [a]) (l₂ ++ [b]):=Paired.snoc h r
theorem jl6 {α:Type} {l:List α} {i:Nat} {x:α} (h:l[i]? = some x):l.drop i = x :: l.drop (i + 1):=by
 obtain ⟨h1,h2⟩:=List.getElem?_eq_some_iff.mp h
 rw [List.drop_eq_getElem_cons h1,h2]
theorem jal {α:Type} {l:List α} {i:Nat} {x:α} (h:l[i]? = some x):l.take (i + 1) = l.take i ++ [x]:=by
 obtain ⟨h1,h2⟩:=List.getElem?_eq_some_iff.mp h
 rw [List.take_succ,h]
 rfl
inductive Dt where
 | non
 | bl (b:Bool)
 | int (i:Int)
 | str (x:Str)
 | tup (ds:List Dt)
 | lst (ds:List Dt)
mutual
def Rep (H:Hp):Dt→V→Prop
 | .non,v=>v = .non
 | .bl b,v=>v = .bl b
 | .int i,v=>v = .int i
 | .str x,v=>v = .str x
 | .tup ds,v=>∃ a vs,v = .ref a∧H a = some (.tup vs)∧Reps H ds vs
 | .lst ds,v=>∃ a vs,v = .ref a∧H a = some (.lst vs)∧Reps H ds vs
def Reps (H:Hp):List Dt→List V→Prop
 | [],vs=>vs = []
 | d :: ds,vs=>∃ v r,vs = v :: r∧Rep H d v∧Reps H ds r
end
mutual
theorem Rep.same {H H':Hp} (s:Same H H'):∀ (d:Dt) {v:V},Rep H d v→Rep H' d v
 | .non,_,h=>by rw [Rep] at *; exact h
 | .bl _,_,h=>by rw [Rep] at *; exact h
 | .int _,_,h=>by rw [Rep] at *; exact h
 | .str _,_,h=>by rw [Rep] at *; exact h
 | .tup ds,_,h=>by
  rw [Rep] at *
  obtain ⟨a,vs,e,q,r⟩:=h
  exact ⟨a,vs,e,s _ _ q,Reps.same s ds r⟩
 | .lst ds,_,h=>by
  rw [Rep] at *
  obtain ⟨a,vs,e,q,r⟩:=h
  exact ⟨a,vs,e,s _ _ q,Reps.same s ds r⟩
theorem Reps.same {H H':Hp} (s:Same H H'):∀ (ds:List Dt) {vs:List V},Reps H ds vs→Reps H' ds vs
 | [],_,h=>by rw [Reps] at *; exact h
 | d :: ds,_,h=>by
  rw [Reps] at *
  obtain ⟨v,r,e,h1,h2⟩:=h
  exact ⟨v,r,e,Rep.same s d h1,Reps.same s ds h2⟩
end
theorem Reps.len {H:Hp}:∀ {ds:List Dt} {vs:List V},Reps H ds vs→vs.length = ds.length
 | [],_,h=>by rw [Reps] at h; subst h; rfl
 | d :: ds,_,h=>by
  rw [Reps] at h
  obtain ⟨v,r,e,h1,h2⟩:=h
  rw [e,List.length_cons,List.length_cons,Reps.len h2]
theorem Reps.at {H:Hp}:∀ {ds:List Dt} {vs:List V} {i:Nat} {v:V},Reps H ds vs→vs[i]? = some v→∃ d,ds[i]? = some d∧Rep H d v
 | [],_,i,v,h,e=>by rw [Reps] at h; rw [h] at e; simp at e
 | d :: ds,_,i,v,h,e=>by
  rw [Reps] at h
  obtain ⟨w,r,e1,h1,h2⟩:=h
  subst e1
  cases i with
  | zero=>simp at e; subst e; exact ⟨d,rfl,h1⟩
  | succ i =>
   obtain ⟨d',q1,q2⟩:=Reps.at h2 (i:=i) (by simpa using e)
   exact ⟨d',by simpa using q1,q2⟩
def jd4 (p:Int × Int):Dt:=.tup [.int p.1,.int p.2]
theorem Pr.rep {H:Hp} {v:V} {p:Int × Int} (h:Pr H v p):Rep H (jd4 p) v:=by
 obtain ⟨t,e,q⟩:=h
 rw [jd4,Rep]
 refine ⟨t,_,e,q,?_⟩
 rw [Reps]
 refine ⟨_,_,rfl,(by rw [Rep]),?_⟩
 rw [Reps]
 exact ⟨_,_,rfl,(by rw [Rep]),(by rw [Reps])⟩
theorem Prs.reps {H:Hp}:∀ {xs:List V} {ps:List (Int × Int)},Prs H xs ps→Reps H (ps.map jd4) xs
 | _,_,.nil=>by rw [List.map_nil,Reps]
 | _,_,.cons r t=>by rw [List.map_cons,Reps]; exact ⟨_,_,rfl,r.rep,Prs.reps t⟩
end L2
namespace L2
open PySem PySem.Spec PyProof.Rows
def fMax:List V→Hp→VK→Prop:=fun vs H Q=>match vs with
 | [.int i,.int j]=>Q (.int (if i < j then j else i)) H
 | _=>False
def fInL (neg:Bool):R2:=fun x y H Q=>match y with
 | .ref p=>match jam H p with
  | some xs=>jdu x = true∧xs.all jdu = true∧Q (.bl (if neg = true then !inV x xs else inV x xs)) H
  | none=>False
 | _=>False
theorem jrf {K:PySem.W.Frag} {neg:Bool} {x y:V} {H:Hp} {Q:VK} (h:fInL neg x y H Q):rIn K neg x y H Q:=by
 unfold fInL at h
 split at h
 ·split at h
  ·rename_i xs e
   obtain ⟨h1,h2,h3⟩:=h
   exact ⟨_,xs,rfl,jes e,h1,h2,h3⟩
  ·exact h.elim
 ·exact h.elim
theorem jpq {X:Cx}:OpR X (compareOp .In) (fInL false):=jnp.imp fun _ _ _ _=>jrf
theorem jgs {X:Cx}:OpR X (compareOp .NotIn) (fInL true):=ji3.imp fun _ _ _ _=>jrf
theorem jih (ns:List Int):(ns.map V.int).all jdu = true:=by
 rw [List.all_eq_true]
 intro v hv
 obtain ⟨n,_,e⟩:=List.mem_map.mp hv
 rw [← e]
 rfl
theorem jey (n:Int) (ns:List Int):inV (.int n) (ns.map V.int) = decide (n ∈ ns):=by
 rw [Bool.eq_iff_iff,inV,List.any_eq_true,decide_eq_true_iff]
 constructor
 ·rintro ⟨v,hv,e⟩
  obtain ⟨m,hm,e2⟩:=List.mem_map.mp hv
  subst e2
  have:m = n:=by simpa [eqV] using e
  rw [← this]
  exact hm
 ·intro h
  exact ⟨.int n,List.mem_map_of_mem h,by simp [eqV]⟩
end L2
namespace L2
open PySem PySem.Spec PyProof.Rows
end L2
namespace L2
open PySem PySem.Spec PyProof.Rows
section
variable {X:Cx} {pins:List (Addr × Obj)} {σ:St} {H:Hp} {s:Shared}
end
end L2
namespace L2
open PySem PySem.Spec PyProof.Rows
section
variable {prog:Program} {w:World} {A:Around} {R:Result→Shared→Prop} {I:Addr} {fp wr:List Addr} {n:Nat} {P:Nat→Value→Prop} {St:Nat→Heap→Prop}
def Best (val:Nat→Int) (n:Nat) (m:Int):Prop:=(∃ i,i < n∧m = val i)∧∀ i,i < n→val i ≤ m
theorem Best.keep {val:Nat→Int} {j:Nat} {m:Int} (h:Best val j m) (hb:¬ val j > m):Best val (j + 1) m :=
 ⟨let ⟨i,hi,e⟩:=h.1; ⟨i,Nat.lt_succ_of_lt hi,e⟩,fun i hi=>by
  rcases Nat.lt_succ_iff_lt_or_eq.mp hi with z | z
  ·exact h.2 i z
  ·rw [z]; omega⟩
end
section
variable {X:Cx}
def tCBK (r:List V→List V→Hp→VK→Prop) (t tk:TA):TE:=fun σ H Q=>t σ H fun vs H1=>tk σ H1 fun zs H2=>r vs zs H2 Q
end
end L2
namespace L2
open PySem PySem.Spec PyProof.Rows
section
variable {X:Cx} {pins:List (Addr × Obj)} {σ:St} {H:Hp} {s:Shared}
end
end L2
namespace L2
open PySem PySem.Spec PyProof.Rows
section
variable {X:Cx} {o i e f value:Expr} {td ty tv tx:TE} {pos pos' apos cpos:Pos}
def jn3 (td ty tv:TE):TS:=fun D σ H=>tv σ H fun v H1=>td σ H1 fun x H2=>ty σ H2 fun y H3=>match x,y with
 | .ref a,.int n=>match H3 a with
  | some (.dK kvs)=>kvs.length < sizeLine∧D.nx σ (upd H3 a (.dK (putK kvs (Sum.inl n:Key) v)))
  | _=>False
 | _,_=>False
theorem dput_r {x y:V} {H3:Hp} {R:List (Key × V)→Addr→Int→Prop} (h:match x,y with
 | .ref a,.int n=>match H3 a with
  | some (.dK kvs)=>R kvs a n
  | _=>False
 | _,_=>False):∃ a n kvs,x = .ref a∧y = .int n∧H3 a = some (.dK kvs)∧R kvs a n:=by
 split at h
 ·split at h
  ·rename_i e; exact ⟨_,_,_,rfl,rfl,e,h⟩
  ·exact h.elim
 ·exact h.elim
theorem jki (hu:X.A.units + 1 < cLine) (ho:PE X o td) (hi:PE X i ty) (hv:PE X value tv) (hs:swapsWith value (some (.Subscript o i pos')) pos.line X.env = pure false:=by rfl) :
  PS X (.Assign [.Subscript o i pos'] value pos) (jn3 td ty tv):=by
 intro pins s σ H D I h
 refine wpAny_Assign_Subscript (thn (hv pins s σ H _ I h) fun r s1 ⟨v,H1,I1,rv,q1⟩=>thn (ho pins s1 σ H1 _ I1 q1) fun u s2 ⟨x,H2,I2,rx,q2⟩=>thn (hi pins s2 σ H2 _ I2 q2) fun iv s3 ⟨y,H3,I3,ry,q3⟩=>?_) hs
 obtain ⟨a,n,kvs,rfl,rfl,ea,q4,q5⟩:=dput_r (R:=fun kvs a n=>kvs.length < sizeLine∧D.nx σ (upd H3 a (.dK (putK kvs (Sum.inl n:Key) v)))) q3
 obtain rfl:u = Value.ref a:=rx
 exact jim hu I3 (DPut.k (k:=Sum.inl n) ea q4) ry rv fun s4 I4=>⟨σ,_,I4,q5⟩
def jrh (td ty tx:TE):TE:=fun σ H Q=>td σ H fun x H1=>match x with
 | .ref a=>(∃ kvs,H1 a = some (.dK kvs))∧ty σ H1 fun y H2=>tx σ H2 fun z H3=>match y with
  | .int n=>match H3 a with
   | some (.dK kvs)=>Q ((valV kvs (Sum.inl n:Key)).getD z) H3
   | _=>False
  | _=>False
 | _=>False
def fCat:R2:=fun x y H Q=>match x,y with
 | .ref l,.ref b=>match H l,H b with
  | some (.lst xs),some (.lst zs)=>xs.length + zs.length ≤ sizeLine∧∀ p,H p = none→Q (.ref p) (upd H p (.lst (xs ++ zs)))
  | _,_=>False
 | _,_=>False
theorem js5:OpR X (binaryOp .Add) fCat:=op_cat.imp fun x y H Q h=>by
 unfold fCat at h
 split at h
 ·split at h
  ·rename_i e1 e2; exact ⟨_,_,_,_,rfl,rfl,e1,e2,h.1,h.2⟩
  ·exact h.elim
 ·exact h.elim
def jri:V→List V→Hp→VK→Prop:=fun x vs H Q=>match x,vs with
 | .ref l,[]=>match H l with
  | some (.lst _)=>Q .non (upd H l (.lst []))
  | _=>False
 | _,_=>False
def fBM0 (r:V→List V→Hp→VK→Prop) (to:TE):TE:=fun σ H Q=>to σ H fun x H1=>(∃ a xs,x = .ref a∧H1 a = some (.lst xs))∧r x [] H1 Q
def fSlT:V→Option Int→Option Int→Hp→VK→Prop:=fun x lo hi H Q=>match x with
 | .ref a=>match H a with
  | some (.tup xs)=>¬ (HT.sIx xs.length 0 lo = 0∧HT.sIx xs.length xs.length hi = xs.length)∧∀ p,H p = none→Q (.ref p) (upd H p (.tup (cutV xs lo hi)))
  | _=>False
 | _=>False
theorem q_slT:SlR X fSlT:=sl_tup.imp fun x l u H Q h=>by
 unfold fSlT at h
 split at h
 ·split at h
  ·rename_i xs e; exact ⟨_,xs,rfl,SqT.of e,h.1,h.2⟩
  ·exact h.elim
 ·exact h.elim
def fInt1:List V→Hp→VK→Prop:=fun vs H Q=>match vs with
 | [.bl k]=>Q (.int (if k = true then 1 else 0)) H
 | [.int i]=>Q (.int i) H
 | _=>False
end
end L2
namespace L2
open PySem PySem.Spec PyProof.Rows
section
variable {prog:Program} {w:World} {A:Around} {E:Value→Shared→Prop}
end
section
variable {X:Cx} {es:List Expr} {pos:Pos}
def fGLst (n:Nat) (t:TGs):TG:=fun v σ H Q=>match v with
 | .ref a=>match H a with
  | some (.lst xs)=>xs.length = n∧t xs σ H Q
  | _=>False
 | _=>False
end
end L2
namespace So
open PySem PyProof.Rows
def kv (R:Keyed→Int) (xs:Array Keyed) (i:Nat):Int:=(xs[i]?.map R).getD 0
theorem jfz {R:Keyed→Int} {xs ys:Array Keyed} {i j:Nat} (h:xs[i]? = ys[j]?):kv R xs i = kv R ys j:=by unfold kv; rw [h]
theorem kv_at {R:Keyed→Int} {xs:Array Keyed} {i:Nat} {x:Keyed} (h:xs[i]? = some x):kv R xs i = R x:=by unfold kv; rw [h]; rfl
def Up (R:Keyed→Int) (xs:Array Keyed) (a b:Nat):Prop:=∀ i j,a ≤ i→i ≤ j→j < b→kv R xs i ≤ kv R xs j
def Dn (R:Keyed→Int) (xs:Array Keyed) (a b:Nat):Prop:=∀ i j,a ≤ i→i ≤ j→j < b→kv R xs j ≤ kv R xs i
def Fore (lo:Nat) (xs ys:Array Keyed):Prop:=∀ i,i < lo→ys[i]? = xs[i]?
theorem Fore.rfl' {lo:Nat} {xs:Array Keyed}:Fore lo xs xs:=fun _ _=>rfl
theorem Fore.tr {lo:Nat} {xs ys zs:Array Keyed} (a:Fore lo xs ys) (b:Fore lo ys zs):Fore lo xs zs:=fun i h=>(b i h).trans (a i h)
theorem Up.one {R:Keyed→Int} {xs:Array Keyed} {a b:Nat} (h:b ≤ a + 1):Up R xs a b:=fun i j h1 h2 h3=>by
 have e:i = j:=by omega
 rw [e]; exact Int.le_refl _
theorem Up.grow {R:Keyed→Int} {xs:Array Keyed} {a b:Nat} (h:Up R xs a b) (h2:a < b) (hl:kv R xs (b - 1) ≤ kv R xs b):Up R xs a (b + 1):=fun i j h3 h4 h5=>by
 by_cases hj:j < b
 ·exact h i j h3 h4 hj
 ·have e:j = b:=by omega
  rw [e] at h4 ⊢
  by_cases hi:i = b
  ·rw [hi]; exact Int.le_refl _
  ·exact Int.le_trans (h i (b - 1) h3 (by omega) (by omega)) hl
theorem Dn.grow {R:Keyed→Int} {xs:Array Keyed} {a b:Nat} (h:Dn R xs a b) (h2:a < b) (hl:kv R xs b ≤ kv R xs (b - 1)):Dn R xs a (b + 1):=fun i j h3 h4 h5=>by
 by_cases hj:j < b
 ·exact h i j h3 h4 hj
 ·have e:j = b:=by omega
  rw [e] at h4 ⊢
  by_cases hi:i = b
  ·rw [hi]; exact Int.le_refl _
  ·exact Int.le_trans hl (h i (b - 1) h3 (by omega) (by omega))
theorem Dn.like {R:Keyed→Int} {xs ys:Array Keyed} {a b:Nat} (h:Dn R xs a b) (e:∀ k,kv R ys k = kv R xs k):Dn R ys a b:=fun i j h1 h2 h3=>by rw [e,e]; exact h i j h1 h2 h3
theorem jjn {R:Keyed→Int} {xs:Array Keyed} {i j:Nat} (hj:j ≤ xs.size) (k:Nat) :
  kv R (mirror xs i j ((j - i) / 2)) k = if i ≤ k∧k < j then kv R xs (i + j - 1 - k) else kv R xs k:=by
 have e:=getElem?_mirror_all (i:=i) hj k
 by_cases c:i ≤ k∧k < j
 ·rw [if_pos c] at e ⊢; exact jfz e
 ·rw [if_neg c] at e ⊢; exact jfz e
theorem jdb {R:Keyed→Int} {xs:Array Keyed} {i j:Nat} (hj:j ≤ xs.size) (q:∀ k,i ≤ k→k < j→kv R xs k = kv R xs (j - 1)) (k:Nat) :
  kv R (mirror xs i j ((j - i) / 2)) k = kv R xs k:=by
 rw [jjn hj]
 split
 ·rename_i c; rw [q _ (by omega) (by omega),q k c.1 c.2]
 ·rfl
theorem je4 {lo:Nat} {xs:Array Keyed} {i j:Nat} (hj:j ≤ xs.size) (hi:lo ≤ i):Fore lo xs (mirror xs i j ((j - i) / 2)):=fun k hk=>by
 rw [getElem?_mirror_all hj,if_neg (by omega)]
theorem joa {R:Keyed→Int} {xs:Array Keyed} {src d:Nat} (hs:src < xs.size) (hd:d ≤ src) (k:Nat) :
  kv R (bubble xs src d) k = if k = src - d then kv R xs src else if src - d < k∧k ≤ src then kv R xs (k - 1) else kv R xs k:=by
 have e:=getElem?_bubble hs d hd k
 by_cases c:k = src - d
 ·rw [if_pos c] at e ⊢; exact jfz e
 ·rw [if_neg c] at e ⊢
  by_cases c2:src - d < k∧k ≤ src
  ·rw [if_pos c2] at e ⊢; exact jfz e
  ·rw [if_neg c2] at e ⊢; exact jfz e
theorem jor {lo:Nat} {xs:Array Keyed} {src d:Nat} (hs:src < xs.size) (hd:lo + d ≤ src):Fore lo xs (bubble xs src d):=fun k hk=>by
 rw [getElem?_bubble hs d (by omega),if_neg (by omega),if_neg (by omega)]
structure Bs (κ:SortKind) (a₀:Array Keyed) (pd:Array (Nat × Nat × Nat)) (st:SortSt):Prop where
 perm:(arrOf st).Perm a₀
 kind:kindOf st = κ
 ok:failedOf st = none
 pend:pendingOf st = pd
section
variable {prog:Program} {w:World} {A:Around} {E:Value→Shared→Prop} {s:Shared} {R:Keyed→Int} {κ:SortKind} {a₀:Array Keyed} {pd:Array (Nat × Nat × Nat)}
theorem Bs.size {st:SortSt} (b:Bs κ a₀ pd st):(arrOf st).size = a₀.size:=b.perm.size_eq
theorem Bs.put {st:SortSt} (b:Bs κ a₀ pd st) {xs:Array Keyed} (p:xs.Perm (arrOf st)):Bs κ a₀ pd (setArr st xs):=⟨p.trans b.perm,b.kind,b.ok,b.pend⟩
theorem Bs.get {st:SortSt} (b:Bs κ a₀ pd st) {i:Nat} (hi:i < a₀.size):∃ x,(arrOf st)[i]? = some x∧x ∈ a₀.toList:=by
 have h1:i < (arrOf st).size:=by rw [b.size]; exact hi
 exact ⟨(arrOf st)[i],getElem?_pos _ i h1,(Array.perm_iff_toList_perm.mp b.perm).mem_iff.mp (by simp)⟩
def Cm (prog:Program) (w:World) (A:Around) (s:Shared) (R:Keyed→Int) (κ:SortKind) (a₀:Array Keyed):Prop :=
 ∀ x y,x ∈ a₀.toList→y ∈ a₀.toList→∀ (Q:Bool→Shared→Prop) (E:Value→Shared→Prop),Q (decide (R x < R y)) s→wpAny (model prog w) A (keyLt' κ x.1 y.1) Q E s
theorem w_lt (C:Cm prog w A s R κ a₀) {st:SortSt} {x y:Keyed} (hk:kindOf st = κ) (hx:x ∈ a₀.toList) (hy:y ∈ a₀.toList) {Q:Option Bool→SortSt→Prop} (h:Q (some (decide (R x < R y))) st) :
  wpS (model prog w) A E s (lt' x y) Q st:=by
 rw [lt'_eq]
 refine wpS_bind (wpS_get ?_)
 rw [hk]
 refine wpS_bind (wpS_lift (wpAny_attempt (C x y hx hy _ _ ⟨rfl,?_⟩)))
 exact wpS_pure h
theorem jbc {st:SortSt} {xs:Array Keyed} {i:Nat} {x:Keyed} (e:xs[i]? = some x) {Q:Keyed→SortSt→Prop} (h:Q x st):wpS (model prog w) A E s (elem' xs i) Q st:=by
 rw [elem'_eq,e]; exact wpS_pure h
theorem jho (C:Cm prog w A s R κ a₀) {st:SortSt} (b:Bs κ a₀ pd st) {i j:Nat} (hi:i < a₀.size) (hj:j < a₀.size) {Q:Option Bool→SortSt→Prop}
  (h:Q (some (decide (kv R (arrOf st) i < kv R (arrOf st) j))) st):wpS (model prog w) A E s (ltAt' i j) Q st:=by
 obtain ⟨x,e1,m1⟩:=b.get hi
 obtain ⟨y,e2,m2⟩:=b.get hj
 rw [ltAt'_eq]
 refine wpS_bind (wpS_get (wpS_bind (jbc e1 (wpS_bind (jbc e2 (w_lt C b.kind m1 m2 ?_))))))
 rw [kv_at e1,kv_at e2] at h
 exact h
abbrev UpSt:=Option (Option Nat) × Nat
abbrev DnSt:=Option (Option Nat) × Nat × Nat
def goUp (lo a nrem:Nat):StateT SortSt Sem UpSt :=
 forIn [a:nrem] ((none,a):UpSt) fun _ c=>do
  let z ← ltAt' (lo + c.snd) (lo + c.snd - 1)
  match z with
  | some less=>if less = true then pure (.done (none,c.snd)) else pure (.yield (none,c.snd + 1))
  | _=>pure (.done (some none,c.snd))
def jic (lo n nrem:Nat):StateT SortSt Sem (Option Nat):=do
 reverseSlice' lo (lo + n)
 let c ← goUp lo n nrem
 match c.fst with
 | some r=>pure r
 | none=>pure (some c.snd)
def goDn (lo n nrem:Nat):StateT SortSt Sem DnSt :=
 forIn [n:nrem] ((none,n,0):DnSt) fun _ c=>do
  let z ← ltAt' (lo + c.snd.fst) (lo + c.snd.fst - 1)
  match z with
  | some less =>
   if less = true then
    if c.snd.snd > 0 then do
     reverseSlice' (lo + c.snd.fst - (c.snd.snd + 1)) (lo + c.snd.fst)
     pure (.yield (none,c.snd.fst + 1,0))
    else pure (.yield (none,c.snd.fst + 1,0))
   else do
    let y ← ltAt' (lo + c.snd.fst - 1) (lo + c.snd.fst)
    match y with
    | some more=>if more = true then pure (.done (none,c.snd.fst,c.snd.snd)) else pure (.yield (none,c.snd.fst + 1,c.snd.snd + 1))
    | _=>pure (.done (some none,c.snd.fst,c.snd.snd))
  | _=>pure (.done (some none,c.snd.fst,c.snd.snd))
def jp9 (lo n nrem:Nat):StateT SortSt Sem (Option Nat):=do
 liftM (rule "list.sort.descending-run")
 let c ← goDn lo (n + 1) nrem
 match c.fst with
 | some r=>pure r
 | none =>
  if c.snd.snd > 0 then do
   reverseSlice' (lo + c.snd.fst - (c.snd.snd + 1)) (lo + c.snd.fst)
   jic lo c.snd.fst nrem
  else jic lo c.snd.fst nrem
theorem jqg (lo nrem:Nat):countRun' lo nrem = (do
    let c ← goUp lo 1 nrem
    match c.fst with
    | some r=>pure r
    | none =>
      if (c.snd == nrem) = true then pure (some c.snd)
      else if c.snd > 1 then do
        let z ← ltAt' lo (lo + c.snd - 1)
        match z with
        | some rose=>if rose = true then pure (some c.snd) else do
            reverseSlice' lo (lo + c.snd)
            jp9 lo c.snd nrem
        | _=>pure none
      else jp9 lo c.snd nrem):=by
  rw [countRun'_eq]
  unfold jp9 jic goDn goUp
  dsimp only
  congr 1
  funext c
  obtain ⟨r,n⟩:=c
  cases r with
  | some r=>rfl
  | none =>
    dsimp only
    split
    · rfl
    · split
      · congr 1
        funext z
        cases z with
        | none=>rfl
        | some rose =>
          dsimp only
          split
          · rfl
          · congr 1
            funext _r
            (congr 1; funext _u; congr 1; congr 1; funext c2; obtain ⟨r2,n2,q2⟩:=c2; cases r2 with
            | some r2=>rfl
            | none =>
              dsimp only
              split
              · congr 1; funext _t; congr 1; funext _v; congr 1; funext c3; obtain ⟨r3,n3⟩:=c3; cases r3 <;> rfl
              · congr 1; funext _v; congr 1; funext c3; obtain ⟨r3,n3⟩:=c3; cases r3 <;> rfl)
      · (congr 1; funext _u; congr 1; congr 1; funext c2; obtain ⟨r2,n2,q2⟩:=c2; cases r2 with
            | some r2=>rfl
            | none =>
              dsimp only
              split
              · congr 1; funext _t; congr 1; funext _v; congr 1; funext c3; obtain ⟨r3,n3⟩:=c3; cases r3 <;> rfl
              · congr 1; funext _v; congr 1; funext c3; obtain ⟨r3,n3⟩:=c3; cases r3 <;> rfl)
theorem jk0 {st:SortSt} {i j:Nat} {Q:Unit→SortSt→Prop} (h:Q () (setArr st (mirror (arrOf st) i j ((j - i) / 2)))) :
  wpS (model prog w) A E s (reverseSlice' i j) Q st:=by
 rw [reverseSlice'_eq]; exact wpS_modify h
theorem jqm (C:Cm prog w A s R κ a₀) {st:SortSt} {lo a nrem:Nat} {Q:UpSt→SortSt→Prop} (hn:lo + nrem ≤ a₀.size) (ha:1 ≤ a) (han:a ≤ nrem) (b:Bs κ a₀ pd st) (u:Up R (arrOf st) lo (lo + a))
  (h:∀ n,a ≤ n→n ≤ nrem→Up R (arrOf st) lo (lo + n)→(n = nrem ∨ kv R (arrOf st) (lo + n) < kv R (arrOf st) (lo + n - 1))→Q (none,n) st) :
  wpS (model prog w) A E s (goUp lo a nrem) Q st:=by
 unfold goUp
 refine wpS_forRange (I:=fun x c st'=>st' = st∧c = (none,x)∧Up R (arrOf st) lo (lo + x)) ?step ?fin ⟨rfl,rfl,u⟩
 case fin =>
  rintro c st' ⟨rfl,rfl,u'⟩
  rw [show max a nrem = nrem by omega] at u' ⊢
  exact h nrem han (Nat.le_refl _) u' (.inl rfl)
 case step =>
  rintro x c st' hax hxn ⟨rfl,rfl,u'⟩
  dsimp only
  refine wpS_bind (jho C b (by omega) (by omega) ?_)
  by_cases c:kv R (arrOf st') (lo + x) < kv R (arrOf st') (lo + x - 1)
  ·simp only [c,decide_true,if_true]
   exact wpS_pure (h x hax (by omega) u' (.inr c))
  ·simp only [c,decide_false,Bool.false_eq_true,if_false]
   exact wpS_pure ⟨rfl,rfl,u'.grow (by omega) (by omega)⟩
theorem jk2 (C:Cm prog w A s R κ a₀) {st:SortSt} {lo n nrem:Nat} {Q:Option Nat→SortSt→Prop} (hn:lo + nrem ≤ a₀.size) (h1:1 ≤ n) (hnn:n ≤ nrem) (b:Bs κ a₀ pd st) (d:Dn R (arrOf st) lo (lo + n))
  (h:∀ m st',Bs κ a₀ pd st'→Fore lo (arrOf st) (arrOf st')→1 ≤ m→m ≤ nrem→Up R (arrOf st') lo (lo + m)→Q (some m) st') :
  wpS (model prog w) A E s (jic lo n nrem) Q st:=by
 unfold jic
 have hsz:lo + n ≤ (arrOf st).size:=by rw [b.size]; omega
 refine wpS_bind (jk0 ?_)
 have b':=b.put (mirror_perm (arrOf st) lo (lo + n) ((lo + n - lo) / 2))
 refine wpS_bind (jqm C hn h1 hnn b' ?_ fun m hm1 hm2 u _=>wpS_pure (h m _ b' (je4 hsz (Nat.le_refl _)) (by omega) hm2 u))
 intro i j h3 h4 h5
 show kv R (mirror (arrOf st) lo (lo + n) _) i ≤ kv R (mirror (arrOf st) lo (lo + n) _) j
 rw [jjn hsz,jjn hsz,if_pos (by omega),if_pos (by omega)]
 exact d _ _ (by omega) (by omega) (by omega)
theorem w_goDn (C:Cm prog w A s R κ a₀) {st:SortSt} {lo n nrem:Nat} {Q:DnSt→SortSt→Prop} (hn:lo + nrem ≤ a₀.size) (h1:1 ≤ n) (hnn:n ≤ nrem) (b:Bs κ a₀ pd st) (d:Dn R (arrOf st) lo (lo + n))
  (h:∀ m q st',Bs κ a₀ pd st'→Fore lo (arrOf st) (arrOf st')→n ≤ m→m ≤ nrem→Dn R (arrOf st') lo (lo + m)→q + 1 ≤ m→(∀ i,lo + m - (q + 1) ≤ i→i < lo + m→kv R (arrOf st') i = kv R (arrOf st') (lo + m - 1))→Q (none,m,q) st') :
  wpS (model prog w) A E s (goDn lo n nrem) Q st:=by
 unfold goDn
 refine wpS_forRange (I:=fun x c st'=>∃ q,c = (none,x,q)∧Bs κ a₀ pd st'∧Fore lo (arrOf st) (arrOf st')∧Dn R (arrOf st') lo (lo + x)∧q + 1 ≤ x ∧
   (∀ i,lo + x - (q + 1) ≤ i→i < lo + x→kv R (arrOf st') i = kv R (arrOf st') (lo + x - 1))) ?step ?fin ⟨0,rfl,b,Fore.rfl',d,by omega,fun i h1 h2=>by congr 1; omega⟩
 case fin =>
  rintro c st' ⟨q,rfl,b',f,d',hq,he⟩
  rw [show max n nrem = nrem by omega] at d' hq he ⊢
  exact h nrem q st' b' f hnn (Nat.le_refl _) d' hq he
 case step =>
  rintro x c st' hax hxn ⟨q,rfl,b',f,d',hq,he⟩
  dsimp only
  have hsz:lo + x ≤ (arrOf st').size:=by rw [b'.size]; omega
  refine wpS_bind (jho C b' (by omega) (by omega) ?_)
  by_cases c:kv R (arrOf st') (lo + x) < kv R (arrOf st') (lo + x - 1)
  ·simp only [c,decide_true,if_true]
   have g:=d'.grow (by omega) (Int.le_of_lt c)
   by_cases hq0:q > 0
   ·rw [if_pos hq0]
    exact wpS_bind (jk0 (wpS_pure ⟨0,rfl,b'.put (mirror_perm _ _ _ _),f.tr (je4 hsz (by omega)),g.like (jdb hsz he),by omega,fun i h1 h2=>by congr 1; omega⟩))
   ·rw [if_neg hq0]
    exact wpS_pure ⟨0,rfl,b',f,g,by omega,fun i h1 h2=>by congr 1; omega⟩
  ·simp only [c,decide_false,Bool.false_eq_true,if_false]
   refine wpS_bind (jho C b' (by omega) (by omega) ?_)
   by_cases c2:kv R (arrOf st') (lo + x - 1) < kv R (arrOf st') (lo + x)
   ·simp only [c2,decide_true,if_true]
    exact wpS_pure (h x q st' b' f hax (by omega) d' hq he)
   ·simp only [c2,decide_false,Bool.false_eq_true,if_false]
    have e2:kv R (arrOf st') (lo + x) = kv R (arrOf st') (lo + x - 1):=by omega
    refine wpS_pure ⟨q + 1,rfl,b',f,d'.grow (by omega) (by omega),by omega,fun i h1 h2=>?_⟩
    rw [show lo + (x + 1) - 1 = lo + x by omega]
    by_cases hix:i = lo + x
    ·rw [hix]
    ·rw [e2]; exact he i (by omega) (by omega)
theorem jm8 (C:Cm prog w A s R κ a₀) {st:SortSt} {lo n nrem:Nat} {Q:Option Nat→SortSt→Prop} (hn:lo + nrem ≤ a₀.size) (hnn:n + 1 ≤ nrem) (b:Bs κ a₀ pd st) (d:Dn R (arrOf st) lo (lo + (n + 1)))
  (h:∀ m st',Bs κ a₀ pd st'→Fore lo (arrOf st) (arrOf st')→1 ≤ m→m ≤ nrem→Up R (arrOf st') lo (lo + m)→Q (some m) st') :
  wpS (model prog w) A E s (jp9 lo n nrem) Q st:=by
 unfold jp9
 refine wpS_bind (wpS_lift (wpAny_rule ⟨rfl,?_⟩))
 refine wpS_bind (w_goDn C hn (by omega) hnn b d fun m q st' b' f hm1 hm2 d' hq he=>?_)
 dsimp only
 have hsz:lo + m ≤ (arrOf st').size:=by rw [b'.size]; omega
 by_cases hq0:q > 0
 ·rw [if_pos hq0]
  exact wpS_bind (jk0 (jk2 C hn (by omega) hm2 (b'.put (mirror_perm _ _ _ _)) (d'.like (jdb hsz he)) fun m2 st2 a1 a2=>h m2 st2 a1 ((f.tr (je4 hsz (by omega))).tr a2)))
 ·rw [if_neg hq0]
  exact jk2 C hn (by omega) hm2 b' d' fun m2 st2 a1 a2=>h m2 st2 a1 (f.tr a2)
theorem jrr (C:Cm prog w A s R κ a₀) {st:SortSt} {lo nrem:Nat} {Q:Option Nat→SortSt→Prop} (hn:lo + nrem ≤ a₀.size) (h1:1 ≤ nrem) (b:Bs κ a₀ pd st)
  (h:∀ m st',Bs κ a₀ pd st'→Fore lo (arrOf st) (arrOf st')→1 ≤ m→m ≤ nrem→Up R (arrOf st') lo (lo + m)→Q (some m) st') :
  wpS (model prog w) A E s (countRun' lo nrem) Q st:=by
 rw [jqg]
 refine wpS_bind (jqm C hn (Nat.le_refl 1) h1 b (Up.one (Nat.le_refl _)) fun n hn1 hn2 u hor=>?_)
 dsimp only
 by_cases c:n = nrem
 ·rw [if_pos (by simpa using c)]
  exact wpS_pure (h n st b Fore.rfl' hn1 hn2 u)
 ·rw [if_neg (by simpa using c)]
  have hlt:=hor.resolve_left c
  by_cases hgt:n > 1
  ·rw [if_pos hgt]
   refine wpS_bind (jho C b (by omega) (by omega) ?_)
   by_cases c2:kv R (arrOf st) lo < kv R (arrOf st) (lo + n - 1)
   ·simp only [c2,decide_true,if_true]
    exact wpS_pure (h n st b Fore.rfl' hn1 hn2 u)
   ·simp only [c2,decide_false,Bool.false_eq_true,if_false]
    have hsz:lo + n ≤ (arrOf st).size:=by rw [b.size]; omega
    have hall:∀ k,lo ≤ k→k < lo + n→kv R (arrOf st) k = kv R (arrOf st) (lo + n - 1):=by
     intro k h2 h3
     have a1:=u lo k (Nat.le_refl _) h2 h3
     have a2:=u k (lo + n - 1) h2 (by omega) (by omega)
     omega
    have d:Dn R (arrOf st) lo (lo + n):=fun i j h3 h4 h5=>by rw [hall i h3 (by omega),hall j (by omega) h5]; exact Int.le_refl _
    have g:Dn R (arrOf st) lo (lo + (n + 1)):=d.grow (by omega) (Int.le_of_lt hlt)
    exact wpS_bind (jk0 (jm8 C hn (by omega) (b.put (mirror_perm _ _ _ _)) (g.like (jdb hsz hall)) fun m st' a1 a2=>h m st' a1 ((je4 hsz (Nat.le_refl _)).tr a2)))
  ·rw [if_neg hgt]
   have e:n = 1:=by omega
   subst e
   have d:Dn R (arrOf st) lo (lo + 1):=fun i j h3 h4 h5=>by
    have e:i = j:=by omega
    rw [e]; exact Int.le_refl _
   exact jm8 C hn (by omega) b (d.grow (by omega) (Int.le_of_lt hlt)) h
theorem w_ins (C:Cm prog w A s R κ a₀) {st:SortSt} {lo n ok:Nat} {Q:Bool→SortSt→Prop} (hn:lo + n ≤ a₀.size) (hok:ok ≤ n) (b:Bs κ a₀ pd st) (u:Up R (arrOf st) lo (lo + ok))
  (h:∀ st',Bs κ a₀ pd st'→Fore lo (arrOf st) (arrOf st')→Up R (arrOf st') lo (lo + n)→Q true st'):wpS (model prog w) A E s (binarySort' lo n ok) Q st:=by
 rw [binarySort'_eq]
 refine wpS_bind (wpS_mono (wpS_forRange (I:=fun k c st'=>c = (none,())∧Bs κ a₀ pd st'∧Fore lo (arrOf st) (arrOf st')∧Up R (arrOf st') lo (lo + min k n))
  (Q:=fun c st'=>c = (none,())∧Bs κ a₀ pd st'∧Fore lo (arrOf st) (arrOf st')∧Up R (arrOf st') lo (lo + n)) ?step ?fin ?init) ?post)
 case post =>
  rintro c st' ⟨rfl,b',f,u'⟩
  exact wpS_pure (h st' b' f u')
 case init =>
  refine ⟨rfl,b,Fore.rfl',fun i j h1 h2 h3=>?_⟩
  by_cases c:ok = 0
  ·have e:i = j:=by omega
   rw [e]; exact Int.le_refl _
  ·exact u i j h1 h2 (by omega)
 case fin =>
  rintro c st' ⟨hc,b',f,u'⟩
  rw [show min (max (max ok 1) n) n = n by omega] at u'
  exact ⟨hc,b',f,u'⟩
 case step =>
  rintro k c st' hak hkn ⟨rfl,b',f,u'⟩
  rw [show min k n = k by omega] at u'
  refine wpS_bind (wpS_mono (wpS_forRange (I:=fun x c st2=>st2 = st'∧∃ l r,c = (none,l,r)∧l ≤ r∧r ≤ k∧r - l ≤ k - x ∧
    (∀ i,i < l→kv R (arrOf st') (lo + i) ≤ kv R (arrOf st') (lo + k))∧(∀ i,r ≤ i→i < k→kv R (arrOf st') (lo + k) < kv R (arrOf st') (lo + i)))
   (Q:=fun c st2=>st2 = st'∧∃ l r,c = (none,l,r)∧l ≤ k ∧
    (∀ i,i < l→kv R (arrOf st') (lo + i) ≤ kv R (arrOf st') (lo + k))∧(∀ i,l ≤ i→i < k→kv R (arrOf st') (lo + k) < kv R (arrOf st') (lo + i))) ?istep ?ifin ?iinit) ?ipost)
  case iinit=>exact ⟨rfl,0,k,rfl,by omega,by omega,by omega,fun i hi=>by omega,fun i h1 h2=>by omega⟩
  case ifin =>
   rintro c st2 ⟨rfl,l,r,rfl,hlr,hrk,hm,hlo,hhi⟩
   have e:l = r:=by omega
   subst e
   exact ⟨rfl,l,l,rfl,hrk,hlo,hhi⟩
  case istep =>
   rintro x c st2 _ hxk ⟨rfl,l,r,rfl,hlr,hrk,hm,hlo,hhi⟩
   dsimp only
   by_cases hge:l ≥ r
   ·rw [if_pos hge]
    have e:l = r:=by omega
    subst e
    exact wpS_pure ⟨rfl,l,l,rfl,hrk,hlo,hhi⟩
   ·rw [if_neg hge]
    refine wpS_bind (jho C b' (by omega) (by omega) ?_)
    by_cases c:kv R (arrOf st2) (lo + k) < kv R (arrOf st2) (lo + (l + r) / 2)
    ·simp only [c,decide_true,if_true]
     exact wpS_pure ⟨rfl,l,(l + r) / 2,rfl,by omega,by omega,by omega,hlo,fun i h1 h2=>Int.lt_of_lt_of_le c (u' _ _ (by omega) (by omega) (by omega))⟩
    ·simp only [c,decide_false,Bool.false_eq_true,if_false]
     exact wpS_pure ⟨rfl,(l + r) / 2 + 1,r,rfl,by omega,by omega,by omega,fun i h1=>Int.le_trans (u' (lo + i) (lo + (l + r) / 2) (by omega) (by omega) (by omega)) (Int.not_lt.mp c),hhi⟩
  case ipost =>
   rintro c st2 ⟨rfl,l,r,rfl,hlk,hlo,hhi⟩
   show wpS _ _ _ _ (do moveDown' (lo + k) (lo + l); pure (ForInStep.yield (none,()))) _ _
   rw [moveDown'_eq]
   have hks:lo + k < (arrOf st2).size:=by rw [b'.size]; omega
   refine wpS_bind (wpS_modify (wpS_pure ⟨rfl,b'.put (bubble_perm _ _ _),f.tr (jor hks (by omega)),?_⟩))
   rw [show min (k + 1) n = k + 1 by omega]
   intro i j h1 h2 h3
   show kv R (bubble (arrOf st2) (lo + k) (lo + k - (lo + l))) i ≤ kv R (bubble (arrOf st2) (lo + k) (lo + k - (lo + l))) j
   rw [joa hks (by omega),joa hks (by omega),show lo + k - (lo + k - (lo + l)) = lo + l by omega]
   have lowof:∀ i,lo ≤ i→i < lo + l→kv R (arrOf st2) i ≤ kv R (arrOf st2) (lo + k):=fun i a1 a2=>by
    have z:=hlo (i - lo) (by omega)
    rwa [show lo + (i - lo) = i by omega] at z
   have highof:∀ i,lo + l ≤ i→i < lo + k→kv R (arrOf st2) (lo + k) < kv R (arrOf st2) i:=fun i a1 a2=>by
    have z:=hhi (i - lo) (by omega) (by omega)
    rwa [show lo + (i - lo) = i by omega] at z
   repeat' split
   all_goals first
    | (exfalso; omega)
    | exact Int.le_refl _
    | exact lowof _ (by omega) (by omega)
    | exact Int.le_of_lt (highof _ (by omega) (by omega))
    | exact u' _ _ (by omega) (by omega) (by omega)
end
end So
namespace So
open PySem PyProof.Rows
def joq:Bool→Keyed→Array Keyed→Nat→Nat→Nat→StateT SortSt Sem (Option Nat):=sortPriv% PySem.Builtin.gallop
def gl (R:Keyed→Int) (left:Bool) (key:Keyed) (v:Int):Bool:=if left = true then decide (v < R key) else !decide (R key < v)
theorem gl_le {R:Keyed→Int} {left:Bool} {key:Keyed} {u v:Int} (h:gl R left key v = true) (huv:u ≤ v):gl R left key u = true:=by
 unfold gl at h ⊢
 cases left
 ·simp only [Bool.false_eq_true,if_false,Bool.not_eq_true',decide_eq_false_iff_not] at h ⊢; omega
 ·simp only [if_true,decide_eq_true_eq] at h ⊢; omega
section
variable {prog:Program} {w:World} {A:Around} {E:Value→Shared→Prop} {s:Shared} {R:Keyed→Int} {κ:SortKind} {a₀:Array Keyed} {pd:Array (Nat × Nat × Nat)}
abbrev BiSt:=Option (Option Nat) × Nat × Nat
theorem w_bis {st:SortSt} {n:Nat} {g:Nat→Bool} {M:Model} {f:Nat→BiSt→StateT SortSt Sem (ForInStep BiSt)} {z:BiSt→StateT SortSt Sem (Option Nat)}
  (up:∀ i j,i ≤ j→j < n→g j = true→g i = true) {Q:Option Nat→SortSt→Prop} (h:∀ k,k ≤ n→(∀ i,i < k→g i = true)→(∀ i,k ≤ i→i < n→g i = false)→Q (some k) st)
  (hf:∀ x l r (Q':ForInStep BiSt→SortSt→Prop),l < r→r ≤ n→(g (l + (r - l) / 2) = true→Q' (.yield (none,l + (r - l) / 2 + 1,r)) st)→(g (l + (r - l) / 2) = false→Q' (.yield (none,l,l + (r - l) / 2)) st)→wpS M A E s (f x (none,l,r)) Q' st)
  (hf0:∀ x l (Q':ForInStep BiSt→SortSt→Prop),Q' (.done (none,l,l)) st→wpS M A E s (f x (none,l,l)) Q' st)
  (hz:∀ l (Q':Option Nat→SortSt→Prop),Q' (some l) st→wpS M A E s (z (none,l,l)) Q' st)
  {lo hi:Nat} (h1:lo ≤ hi) (h2:hi ≤ n) (h3:∀ i,i < lo→g i = true) (h4:∀ i,hi ≤ i→i < n→g i = false) :
  wpS M A E s (forIn [0:n] ((none,lo,hi):BiSt) f >>= z) Q st:=by
 refine wpS_bind (wpS_mono (wpS_forRange (I:=fun x c st'=>st' = st∧∃ l r,c = (none,l,r)∧l ≤ r∧r ≤ n∧r - l ≤ n - x∧(∀ i,i < l→g i = true)∧(∀ i,r ≤ i→i < n→g i = false))
  (Q:=fun c st'=>st' = st∧∃ r,c = (none,r,r)∧r ≤ n∧(∀ i,i < r→g i = true)∧(∀ i,r ≤ i→i < n→g i = false)) ?step ?fin ⟨rfl,lo,hi,rfl,h1,h2,by omega,h3,h4⟩) ?post)
 case post =>
  rintro c st' ⟨rfl,r,rfl,a1,a2,a3⟩
  exact hz r Q (h r a1 a2 a3)
 case fin =>
  rintro c st' ⟨rfl,l,r,rfl,a1,a2,a3,a4,a5⟩
  have e:l = r:=by omega
  subst e
  exact ⟨rfl,l,rfl,a2,a4,a5⟩
 case step =>
  rintro x c st' _ hx ⟨rfl,l,r,rfl,a1,a2,a3,a4,a5⟩
  by_cases hge:l = r
  ·subst hge
   exact hf0 x l _ ⟨rfl,l,rfl,a2,a4,a5⟩
  ·refine hf x l r _ (by omega) a2 (fun hg=>?_) fun hg=>?_
   ·exact ⟨rfl,_,r,rfl,by omega,a2,by omega,fun i hi=>up i (l + (r - l) / 2) (by omega) (by omega) hg,a5⟩
   ·refine ⟨rfl,l,_,rfl,by omega,by omega,by omega,a4,fun i hi1 hi2=>?_⟩
    cases hgi:g i with
    | false=>rfl
    | true=>rw [up _ i hi1 hi2 hgi] at hg; cases hg
theorem jdg (C:Cm prog w A s R κ a₀) {st:SortSt} (hk:kindOf st = κ) {left:Bool} {key:Keyed} {arr:Array Keyed} {base n hint:Nat} (hkey:key ∈ a₀.toList) (harr:∀ i,i < n→∃ x,arr[base + i]? = some x∧x ∈ a₀.toList)
  (hh:hint < n) (u:Up R arr base (base + n)) {Q:Option Nat→SortSt→Prop}
  (h:∀ k,k ≤ n→(∀ i,i < k→gl R left key (kv R arr (base + i)) = true)→(∀ i,k ≤ i→i < n→gl R left key (kv R arr (base + i)) = false)→Q (some k) st) :
  wpS (model prog w) A E s (joq left key arr base n hint) Q st:=by
 have bey:∀ (i:Nat),i < n→∀ (Q':Option Bool→SortSt→Prop),Q' (some (gl R left key (kv R arr (base + i)))) st →
   wpS (model prog w) A E s (do let x ← elem' arr (base + i); if left = true then lt' x key else do let z ← lt' key x; pure (z.map (!·))) Q' st:=by
  intro i hi Q' hq
  obtain ⟨x,e,m⟩:=harr i hi
  rw [kv_at e] at hq
  refine wpS_bind (jbc e ?_)
  unfold gl at hq
  cases left
  ·simp only [Bool.false_eq_true,if_false] at hq ⊢
   exact wpS_bind (w_lt C hk hkey m (wpS_pure hq))
  ·simp only [if_true] at hq ⊢
   exact w_lt C hk m hkey hq
 have up:∀ i j,i ≤ j→j < n→gl R left key (kv R arr (base + j)) = true→gl R left key (kv R arr (base + i)) = true:=fun i j h1 h2 h3=>gl_le h3 (u _ _ (by omega) (by omega) (by omega))
 have dn:∀ i j,i ≤ j→j < n→gl R left key (kv R arr (base + i)) = false→gl R left key (kv R arr (base + j)) = false:=fun i j h1 h2 h3=>by
  cases hj:gl R left key (kv R arr (base + j)) with
  | false=>rfl
  | true=>rw [up i j h1 h2 hj] at h3; cases h3
 clear u harr hkey
 generalize hg:(fun i=>gl R left key (kv R arr (base + i))) = g at *
 have hgi:∀ i,gl R left key (kv R arr (base + i)) = g i:=fun i=>by rw [← hg]
 simp only [hgi] at h bey up dn
 unfold joq
 refine wpS_bind (bey hint hh _ ?_)
 cases hgh:g hint with
 | true =>
  dsimp only
  rw [if_pos rfl]
  refine wpS_bind (wpS_mono (wpS_forRange (I:=fun x c st'=>st' = st∧∃ l o,c = (none,l,o)∧l < o∧x < o∧hint + l < n∧g (hint + l) = true)
   (Q:=fun c st'=>st' = st∧∃ l o,c = (none,l,o)∧l < o∧hint + l < n∧g (hint + l) = true∧(n - hint ≤ o ∨ g (hint + o) = false)) ?step ?fin ⟨rfl,0,1,rfl,by omega,by omega,by omega,hgh⟩) ?post)
  case fin =>
   rintro c st' ⟨rfl,l,o,rfl,a1,a2,a3,a4⟩
   exact ⟨rfl,l,o,rfl,a1,a3,a4,.inl (by omega)⟩
  case step =>
   rintro x c st' _ hx ⟨rfl,l,o,rfl,a1,a2,a3,a4⟩
   dsimp only
   by_cases hge:o ≥ n - hint
   ·rw [if_pos hge]
    exact wpS_pure ⟨rfl,l,o,rfl,a1,a3,a4,.inl hge⟩
   ·rw [if_neg hge]
    refine wpS_bind (bey _ (by omega) _ ?_)
    cases hgo:g (hint + o) with
    | true=>exact wpS_pure ⟨rfl,o,_,rfl,by omega,by omega,by omega,hgo⟩
    | false=>exact wpS_pure ⟨rfl,l,o,rfl,a1,a3,a4,.inr hgo⟩
  case post =>
   rintro c st' ⟨rfl,l,o,rfl,a1,a2,a3,a4⟩
   dsimp only
   refine w_bis up h (fun x l r Q' c1 c2 y1 y2=>?hf) (fun x l Q' q=>?hf0) (fun l Q' q=>wpS_pure q) (lo:=hint + l + 1) (hi:=hint + min o (n - hint)) (by omega) (by omega) (fun i hi=>up i (hint + l) (by omega) (by omega) a3) fun i hi1 hi2=>?_
   case hf =>
    dsimp only
    rw [if_neg (by omega)]
    refine wpS_bind (bey _ (by omega) _ ?_)
    cases hg:g (l + (r - l) / 2) with
    | true=>exact wpS_pure (y1 hg)
    | false=>exact wpS_pure (y2 hg)
   case hf0 =>
    dsimp only
    rw [if_pos (Nat.le_refl _)]
    exact wpS_pure q
   rcases a4 with a4 | a4
   ·omega
   ·exact dn _ i (by omega) hi2 a4
 | false =>
  dsimp only
  rw [if_neg (by simp)]
  refine wpS_bind (wpS_mono (wpS_forRange (I:=fun x c st'=>st' = st∧∃ l o,c = (none,l,o)∧l < o∧x < o∧l ≤ hint∧g (hint - l) = false)
   (Q:=fun c st'=>st' = st∧∃ l o,c = (none,l,o)∧l < o∧l ≤ hint∧g (hint - l) = false∧(hint + 1 ≤ o ∨ g (hint - o) = true)) ?step2 ?fin2 ⟨rfl,0,1,rfl,by omega,by omega,by omega,hgh⟩) ?post2)
  case fin2 =>
   rintro c st' ⟨rfl,l,o,rfl,a1,a2,a3,a4⟩
   exact ⟨rfl,l,o,rfl,a1,a3,a4,.inl (by omega)⟩
  case step2 =>
   rintro x c st' _ hx ⟨rfl,l,o,rfl,a1,a2,a3,a4⟩
   dsimp only
   by_cases hge:o ≥ hint + 1
   ·rw [if_pos hge]
    exact wpS_pure ⟨rfl,l,o,rfl,a1,a3,a4,.inl hge⟩
   ·rw [if_neg hge]
    refine wpS_bind (bey _ (by omega) _ ?_)
    cases hgo:g (hint - o) with
    | true=>exact wpS_pure ⟨rfl,l,o,rfl,a1,a3,a4,.inr hgo⟩
    | false=>exact wpS_pure ⟨rfl,o,_,rfl,by omega,by omega,by omega,hgo⟩
  case post2 =>
   rintro c st' ⟨rfl,l,o,rfl,a1,a2,a3,a4⟩
   dsimp only
   refine w_bis up h (fun x l r Q' c1 c2 y1 y2=>?hf2) (fun x l Q' q=>?hf02) (fun l Q' q=>wpS_pure q) (lo:=hint + 1 - min o (hint + 1)) (hi:=hint - l) (by omega) (by omega) (fun i hi=>?_) fun i hi1 hi2=>dn (hint - l) i (by omega) hi2 a3
   case hf2 =>
    dsimp only
    rw [if_neg (by omega)]
    refine wpS_bind (bey _ (by omega) _ ?_)
    cases hg:g (l + (r - l) / 2) with
    | true=>exact wpS_pure (y1 hg)
    | false=>exact wpS_pure (y2 hg)
   case hf02 =>
    dsimp only
    rw [if_pos (Nat.le_refl _)]
    exact wpS_pure q
   rcases a4 with a4 | a4
   ·omega
   ·exact up i (hint - o) (by omega) (by omega) a4
end
end So
namespace So
open PySem PyProof.Rows
def Le (R:Keyed→Int):Keyed→Keyed→Prop:=fun x y=>R x ≤ R y
def MS (R:Keyed→Int) (o la lb tot:List Keyed):Prop:=(o ++ la).Pairwise (Le R)∧(o ++ lb).Pairwise (Le R)∧(o ++ (la ++ lb)).Perm tot
def Fi (R:Keyed→Int) (l tot:List Keyed):Prop:=l.Pairwise (Le R)∧l.Perm tot
section
variable {R:Keyed→Int} {o la lb tot xs:List Keyed}
theorem MS.a (h:MS R o (xs ++ la) lb tot) (hx:∀ x ∈ xs,∀ y ∈ lb,R x ≤ R y):MS R (o ++ xs) la lb tot:=by
 obtain ⟨h1,h2,h3⟩:=h
 refine ⟨by rw [List.append_assoc]; exact h1,?_,by rw [List.append_assoc,← List.append_assoc xs]; exact h3⟩
 rw [List.append_assoc,List.pairwise_append]
 rw [List.pairwise_append] at h1 h2
 obtain ⟨o1,o2,o3⟩:=h1
 obtain ⟨p1,p2,p3⟩:=h2
 rw [List.pairwise_append] at o2
 refine ⟨o1,List.pairwise_append.mpr ⟨o2.1,p2,hx⟩,fun x m y n=>?_⟩
 rcases List.mem_append.mp n with n | n
 ·exact o3 x m y (List.mem_append_left _ n)
 ·exact p3 x m y n
theorem MS.b (h:MS R o la (xs ++ lb) tot) (hx:∀ x ∈ xs,∀ y ∈ la,R x ≤ R y):MS R (o ++ xs) la lb tot:=by
 have z:MS R o (xs ++ lb) la tot:=⟨h.2.1,h.1,(List.Perm.append_left _ List.perm_append_comm).trans h.2.2⟩
 have q:=z.a hx
 exact ⟨q.2.1,q.1,(List.Perm.append_left _ List.perm_append_comm).trans q.2.2⟩
theorem MS.endA (h:MS R o la [] tot):Fi R (o ++ la) tot:=⟨h.1,by have z:=h.2.2; rwa [List.append_nil] at z⟩
theorem MS.endB (h:MS R o [] lb tot):Fi R (o ++ lb) tot:=⟨h.2.1,h.2.2⟩
theorem MS.last (h:MS R o la lb tot) (hx:∀ y ∈ lb,∀ x ∈ la,R y ≤ R x):Fi R (o ++ lb ++ la) tot:=by
 obtain ⟨h1,h2,h3⟩:=h
 refine ⟨?_,?_⟩
 ·rw [List.append_assoc,List.pairwise_append]
  rw [List.pairwise_append] at h1 h2
  refine ⟨h1.1,List.pairwise_append.mpr ⟨h2.2.1,h1.2.1,hx⟩,fun x m y n=>?_⟩
  rcases List.mem_append.mp n with n | n
  ·exact h2.2.2 x m y n
  ·exact h1.2.2 x m y n
 ·rw [List.append_assoc]; exact (List.Perm.append_left _ List.perm_append_comm).trans h3
end
section
variable {a:Array Keyed} {R:Keyed→Int} {i k:Nat}
theorem jju {x:Keyed} (e:a[i]? = some x):a.toList.drop i = x :: a.toList.drop (i + 1):=by
 have hi:i < a.toList.length:=by
  rw [Array.length_toList]
  exact (Array.getElem?_eq_some_iff.mp e).1
 rw [List.drop_eq_getElem_cons hi]
 congr 1
 obtain ⟨h1,h2⟩:=Array.getElem?_eq_some_iff.mp e
 rw [← h2,Array.getElem_toList]
theorem jcn (a:Array Keyed) (i k:Nat):(a.extract i k).toList = (a.toList.drop i).take (k - i):=by
 rw [Array.toList_extract]
theorem jhh (a:Array Keyed) (i:Nat):(a.extract i a.size).toList = a.toList.drop i:=by
 rw [jcn]
 apply List.take_of_length_le
 rw [List.length_drop,Array.length_toList]
 exact Nat.le_refl _
theorem jl7 (a:Array Keyed) (i k:Nat):a.toList.drop i = (a.extract i (i + k)).toList ++ a.toList.drop (i + k):=by
 rw [jcn,Nat.add_sub_cancel_left,← List.drop_drop,List.take_append_drop]
theorem jnx {x:Keyed} (h:x ∈ (a.extract i (i + k)).toList):∃ j,j < k∧a[i + j]? = some x:=by
 rw [jcn,Nat.add_sub_cancel_left] at h
 obtain ⟨j,hj,e⟩:=List.getElem_of_mem h
 rw [List.getElem_take,List.getElem_drop] at e
 rw [List.length_take] at hj
 refine ⟨j,by omega,?_⟩
 rw [← e,← Array.getElem?_toList]
 exact List.getElem?_eq_getElem _
theorem jcl {x:Keyed} (h:x ∈ a.toList.drop i):∃ j,i ≤ j∧j < a.size∧a[j]? = some x:=by
 obtain ⟨j,hj,e⟩:=List.getElem_of_mem h
 rw [List.getElem_drop] at e
 rw [List.length_drop,Array.length_toList] at hj
 refine ⟨i + j,by omega,by omega,?_⟩
 rw [← e,← Array.getElem?_toList]
 exact List.getElem?_eq_getElem _
theorem jb9 (h:i < a.size):∃ x,a[i]? = some x∧x ∈ a.toList:=⟨a[i],getElem?_pos _ i h,by simp⟩
theorem Up.le (u:Up R a 0 a.size) {j:Nat} {x y:Keyed} (hx:a[i]? = some x) (hy:a[j]? = some y) (h:i ≤ j):R x ≤ R y:=by
 have z:=u i j (Nat.zero_le _) h (Array.getElem?_eq_some_iff.mp hy).1
 rwa [kv_at hx,kv_at hy] at z
end
theorem jjs {R:Keyed→Int} {key:Keyed} {v:Int} (h:gl R true key v = true):v < R key:=by unfold gl at h; simpa using h
theorem jhd {R:Keyed→Int} {key:Keyed} {v:Int} (h:gl R true key v = false):R key ≤ v:=by unfold gl at h; simpa using h
theorem jhe {R:Keyed→Int} {key:Keyed} {v:Int} (h:gl R false key v = true):v ≤ R key:=by unfold gl at h; simpa using h
theorem jfj {R:Keyed→Int} {key:Keyed} {v:Int} (h:gl R false key v = false):R key < v:=by unfold gl at h; simpa using h
section
variable {M:Model} {A:Around} {E:Value→Shared→Prop} {s:Shared} {σ α:Type}
theorem jb6 {c:Prop} [Decidable c] {m n:StateT σ Sem α} {Q:α→σ→Prop} {st:σ} (h1:c→wpS M A E s m Q st) (h2:¬ c→wpS M A E s n Q st):wpS M A E s (if c then m else n) Q st:=by
 by_cases h:c
 ·rw [if_pos h]; exact h1 h
 ·rw [if_neg h]; exact h2 h
end
structure Lk (st st':SortSt):Prop where
 kind:kindOf st' = kindOf st
 arr:arrOf st' = arrOf st
 pend:pendingOf st' = pendingOf st
 ok:failedOf st' = failedOf st
theorem Lk.refl (st:SortSt):Lk st st:=⟨rfl,rfl,rfl,rfl⟩
theorem Lk.setg {st st':SortSt} (l:Lk st st') (g:Nat):Lk st (SortSt.mk' (kindOf st') (arrOf st') (pendingOf st') g (failedOf st')):=⟨l.kind,l.arr,l.pend,l.ok⟩
def setg:Nat→StateT SortSt Sem Unit:=sortPriv% PySem.Builtin.setMinGallop
section
variable {R:Keyed→Int} {a b out:Array Keyed} {ia ib k:Nat} {tot:List Keyed}
theorem pushB (m:MS R out.toList (a.toList.drop ia) (b.toList.drop ib) tot) {x:Keyed} (e:b[ib]? = some x) (h:∀ y ∈ a.toList.drop ia,R x ≤ R y):MS R (out.push x).toList (a.toList.drop ia) (b.toList.drop (ib + 1)) tot:=by
 rw [jju e] at m
 rw [Array.toList_push]
 refine MS.b (xs:=[x]) m fun z hz y hy=>?_
 rw [List.mem_singleton.mp hz]; exact h y hy
theorem pushA (m:MS R out.toList (a.toList.drop ia) (b.toList.drop ib) tot) {x:Keyed} (e:a[ia]? = some x) (h:∀ y ∈ b.toList.drop ib,R x ≤ R y):MS R (out.push x).toList (a.toList.drop (ia + 1)) (b.toList.drop ib) tot:=by
 rw [jju e] at m
 rw [Array.toList_push]
 refine MS.a (xs:=[x]) m fun z hz y hy=>?_
 rw [List.mem_singleton.mp hz]; exact h y hy
theorem appA (m:MS R out.toList (a.toList.drop ia) (b.toList.drop ib) tot) (h:∀ x ∈ (a.extract ia (ia + k)).toList,∀ y ∈ b.toList.drop ib,R x ≤ R y):MS R (out ++ a.extract ia (ia + k)).toList (a.toList.drop (ia + k)) (b.toList.drop ib) tot:=by
 rw [jl7 a ia k] at m
 rw [Array.toList_append]
 exact MS.a m h
theorem appB (m:MS R out.toList (a.toList.drop ia) (b.toList.drop ib) tot) (h:∀ x ∈ (b.extract ib (ib + k)).toList,∀ y ∈ a.toList.drop ia,R x ≤ R y):MS R (out ++ b.extract ib (ib + k)).toList (a.toList.drop ia) (b.toList.drop (ib + k)) tot:=by
 rw [jl7 b ib k] at m
 rw [Array.toList_append]
 exact MS.b m h
end
def mLo:Array Keyed→Array Keyed→StateT SortSt Sem (Array Keyed):=sortPriv% PySem.Builtin.mergeLo
def mHi:Array Keyed→Array Keyed→StateT SortSt Sem (Array Keyed):=sortPriv% PySem.Builtin.mergeHi
section
variable {prog:Program} {w:World} {A:Around} {E:Value→Shared→Prop} {s:Shared} {R:Keyed→Int} {κ:SortKind} {a₀:Array Keyed} {pd:Array (Nat × Nat × Nat)}
theorem jk1 {st st':SortSt} {g:Nat} {Q:Unit→SortSt→Prop} (l:Lk st st') (h:∀ st2,Lk st st2→Q () st2):wpS (model prog w) A E s (setg g) Q st':=wpS_modify (h _ (l.setg g))
abbrev LoSt:=Option (Array Keyed) × Array Keyed × Nat × Nat × Nat
theorem w_mLo (C:Cm prog w A s R κ a₀) {st:SortSt} (hk:kindOf st = κ) {a b:Array Keyed} {tot:List Keyed} (ha:∀ x ∈ a.toList,x ∈ a₀.toList) (hb:∀ x ∈ b.toList,x ∈ a₀.toList) (ua:Up R a 0 a.size) (ub:Up R b 0 b.size)
  (na:1 ≤ a.size) (nb:1 ≤ b.size) (h0:∀ x y,b[0]? = some x→a[0]? = some y→R x < R y) (hl:∀ x y,x ∈ b.toList→a[a.size - 1]? = some y→R x < R y) (ht:(a.toList ++ b.toList).Perm tot)
  {Q:Array Keyed→SortSt→Prop} (h:∀ m st',Lk st st'→Fi R m.toList tot→Q m st'):wpS (model prog w) A E s (mLo a b) Q st:=by
 obtain ⟨b0,eb0,mb0⟩:=jb9 (a:=b) (i:=0) nb
 obtain ⟨a0,ea0,ma0⟩:=jb9 (a:=a) (i:=0) na
 have m0:MS R [b0] (a.toList.drop 0) (b.toList.drop 1) tot:=by
  have e:=jju eb0
  have z:MS R [] (a.toList.drop 0) ([b0] ++ b.toList.drop 1) tot:=by
   refine ⟨?_,?_,?_⟩
   ·rw [List.nil_append,List.drop_zero,List.pairwise_iff_getElem]
    intro i j hi hj hij
    rw [Array.length_toList] at hi hj
    exact ua.le (getElem?_pos a i hi) (getElem?_pos a j hj) (Nat.le_of_lt hij)
   ·rw [List.nil_append,List.singleton_append,← e,List.drop_zero,List.pairwise_iff_getElem]
    intro i j hi hj hij
    rw [Array.length_toList] at hi hj
    exact ub.le (getElem?_pos b i hi) (getElem?_pos b j hj) (Nat.le_of_lt hij)
   ·rw [List.nil_append,List.singleton_append,← e,List.drop_zero,List.drop_zero]; exact ht
  refine z.b fun x hx y hy=>?_
  rw [List.mem_singleton] at hx
  subst hx
  obtain ⟨j,j1,j2,j3⟩:=jcl hy
  exact Int.le_of_lt (Int.lt_of_lt_of_le (h0 _ _ eb0 ea0) (ua.le ea0 j3 (Nat.zero_le _)))
 have dn:∀ (out:Array Keyed) (ia ib:Nat),MS R out.toList (a.toList.drop ia) (b.toList.drop ib) tot→(ia = a.size ∨ ib = b.size)→Fi R (out ++ a.extract ia a.size ++ b.extract ib b.size).toList tot:=by
  intro out ia ib m hor
  rw [Array.toList_append,Array.toList_append,jhh,jhh]
  rcases hor with e | e
  ·have e2:a.toList.drop ia = []:=by rw [e]; apply List.drop_of_length_le; rw [Array.length_toList]; exact Nat.le_refl _
   rw [e2] at m ⊢
   rw [List.append_nil]; exact m.endB
  ·have e2:b.toList.drop ib = []:=by rw [e]; apply List.drop_of_length_le; rw [Array.length_toList]; exact Nat.le_refl _
   rw [e2] at m ⊢
   rw [List.append_nil]; exact m.endA
 have ls:∀ (out:Array Keyed) (ia ib:Nat),MS R out.toList (a.toList.drop ia) (b.toList.drop ib) tot→ia + 1 = a.size→Fi R (out ++ b.extract ib b.size ++ a.extract ia a.size).toList tot:=by
  intro out ia ib m e
  rw [Array.toList_append,Array.toList_append,jhh,jhh]
  refine m.last fun y hy x hx=>?_
  obtain ⟨j,j1,j2,j3⟩:=jcl hx
  have ej:j = a.size - 1:=by omega
  rw [ej] at j3
  exact Int.le_of_lt (hl _ _ (List.mem_of_mem_drop hy) j3)
 unfold mLo
 refine wpS_bind (wpS_lift (wpAny_rule ⟨rfl,?_⟩))
 refine wpS_bind (jbc eb0 ?_)
 refine jb6 (fun c=>wpS_pure (h _ _ (.refl _) (dn _ _ _ m0 (.inr (by simpa using c))))) fun c1=>?_
 refine jb6 (fun c=>wpS_pure (h _ _ (.refl _) (ls _ _ _ m0 (by simpa using c)))) fun c2=>?_
 have c1':1 < b.size:=by simp at c1; omega
 have c2':1 < a.size:=by simp at c2; omega
 refine wpS_bind (wpS_get ?_)
 refine wpS_bind (wpS_mono (wpS_forRange (I:=fun x (c:LoSt) st'=>Lk st st'∧∃ out ia ib mg,c = (none,out,ia,ib,mg)∧MS R out.toList (a.toList.drop ia) (b.toList.drop ib) tot∧ia + 1 < a.size∧ib < b.size∧x < ia + ib)
  (Q:=fun (c:LoSt) st'=>Lk st st'∧∃ m out ia ib mg,c = (some m,out,ia,ib,mg)∧Fi R m.toList tot) ?step ?fin ⟨.refl _,#[b0],0,1,_,rfl,m0,by omega,by omega,by omega⟩) ?post)
 case fin =>
  rintro c st' ⟨l,out,ia,ib,mg,rfl,m,d1,d2,d3⟩
  omega
 case post =>
  rintro c st' ⟨l,m,out,ia,ib,mg,rfl,f⟩
  exact wpS_pure (h m st' l f)
 case step =>
  rintro x c st' _ hx ⟨l,out,ia,ib,mg,rfl,m,d1,d2,d3⟩
  refine wpS_bind (wpS_mono (wpS_forRange (I:=fun y (c:Option (Array Keyed) × Array Keyed × Nat × Nat × Nat × Nat) st2=>st2 = st'∧∃ out ia ib ac bc,c = (none,out,ia,ib,ac,bc)∧MS R out.toList (a.toList.drop ia) (b.toList.drop ib) tot∧ia + 1 < a.size∧ib < b.size∧x + min y 1 < ia + ib)
   (Q:=fun (c:Option (Array Keyed) × Array Keyed × Nat × Nat × Nat × Nat) st2=>st2 = st'∧((∃ m out ia ib ac bc,c = (some m,out,ia,ib,ac,bc)∧Fi R m.toList tot) ∨
    (∃ out ia ib ac bc,c = (none,out,ia,ib,ac,bc)∧MS R out.toList (a.toList.drop ia) (b.toList.drop ib) tot∧ia + 1 < a.size∧ib < b.size∧x + 1 < ia + ib))) ?s1 ?f1 ⟨rfl,out,ia,ib,0,0,rfl,m,d1,d2,by omega⟩) ?p1)
  case f1 =>
   rintro c st2 ⟨rfl,out,ia,ib,ac,bc,rfl,m,d1,d2,d3⟩
   exact ⟨rfl,.inr ⟨out,ia,ib,ac,bc,rfl,m,d1,d2,by omega⟩⟩
  case s1 =>
   rintro y c st2 _ hy ⟨rfl,out,ia,ib,ac,bc,rfl,m,d1,d2,d3⟩
   obtain ⟨bx,eb,mb⟩:=jb9 (a:=b) d2
   obtain ⟨ax,ea,ma⟩:=jb9 (a:=a) (i:=ia) (by omega)
   refine wpS_bind (jbc eb ?_)
   refine wpS_bind (jbc ea ?_)
   refine wpS_bind (w_lt C (l.kind.trans hk) (hb _ mb) (ha _ ma) ?_)
   by_cases hlt:R bx < R ax
   ·rw [decide_eq_true hlt]
    refine wpS_bind (jbc eb ?_)
    have m2:=pushB m eb fun z hz=>by
     obtain ⟨j,j1,j2,j3⟩:=jcl hz
     exact Int.le_of_lt (Int.lt_of_lt_of_le hlt (ua.le ea j3 j1))
    refine jb6 (fun c=>wpS_pure ⟨rfl,.inl ⟨_,_,_,_,_,_,rfl,dn _ _ _ m2 (.inr (by simpa using c))⟩⟩) fun c=>?_
    have c':ib + 1 < b.size:=by simp at c; omega
    have n1:x + 1 < ia + (ib + 1):=by omega
    have n2:x + min (y + 1) 1 < ia + (ib + 1):=by omega
    exact jb6 (fun _=>wpS_pure ⟨rfl,.inr ⟨_,_,_,_,_,rfl,m2,d1,c',n1⟩⟩) fun _=>wpS_pure ⟨rfl,_,_,_,_,_,rfl,m2,d1,c',n2⟩
   ·rw [decide_eq_false hlt]
    refine wpS_bind (jbc ea ?_)
    have m2:=pushA m ea fun z hz=>by
     obtain ⟨j,j1,j2,j3⟩:=jcl hz
     exact Int.le_trans (Int.not_lt.mp hlt) (ub.le eb j3 j1)
    refine jb6 (fun c=>wpS_pure ⟨rfl,.inl ⟨_,_,_,_,_,_,rfl,ls _ _ _ m2 (by simpa using c)⟩⟩) fun c=>?_
    have c':ia + 1 + 1 < a.size:=by simp at c; omega
    have n1:x + 1 < ia + 1 + ib:=by omega
    have n2:x + min (y + 1) 1 < ia + 1 + ib:=by omega
    exact jb6 (fun _=>wpS_pure ⟨rfl,.inr ⟨_,_,_,_,_,rfl,m2,c',d2,n1⟩⟩) fun _=>wpS_pure ⟨rfl,_,_,_,_,_,rfl,m2,c',d2,n2⟩
  case p1 =>
   rintro c st2 ⟨rfl,⟨m',out,ia,ib,ac,bc,rfl,f⟩ | ⟨out,ia,ib,ac,bc,rfl,m,d1,d2,d3⟩⟩
   ·exact wpS_pure ⟨l,m',_,_,_,_,rfl,f⟩
   ·refine wpS_bind (wpS_lift (wpAny_rule ⟨rfl,?_⟩))
    refine wpS_bind (wpS_mono (wpS_forRange (I:=fun y (c:Option (Array Keyed) × Array Keyed × Nat × Nat × Nat × Nat × Nat) st2=>Lk st st2∧∃ out ia ib mg ac bc,c = (none,out,ia,ib,mg,ac,bc)∧MS R out.toList (a.toList.drop ia) (b.toList.drop ib) tot∧ia + 1 < a.size∧ib < b.size∧x + 1 < ia + ib)
     (Q:=fun (c:Option (Array Keyed) × Array Keyed × Nat × Nat × Nat × Nat × Nat) st2=>Lk st st2∧((∃ m out ia ib mg ac bc,c = (some m,out,ia,ib,mg,ac,bc)∧Fi R m.toList tot) ∨
      (∃ out ia ib mg ac bc,c = (none,out,ia,ib,mg,ac,bc)∧MS R out.toList (a.toList.drop ia) (b.toList.drop ib) tot∧ia + 1 < a.size∧ib < b.size∧x + 1 < ia + ib))) ?s2 ?f2 ⟨l,out,ia,ib,_,ac,bc,rfl,m,d1,d2,d3⟩) ?p2)
    case f2 =>
     rintro c st3 ⟨l3,out,ia,ib,mg,ac,bc,rfl,m,d1,d2,d3⟩
     exact ⟨l3,.inr ⟨out,ia,ib,mg,ac,bc,rfl,m,d1,d2,d3⟩⟩
    case p2 =>
     rintro c st3 ⟨l3,⟨m',out,ia,ib,mg,ac,bc,rfl,f⟩ | ⟨out,ia,ib,mg,ac,bc,rfl,m,d1,d2,d3⟩⟩
     ·exact wpS_pure ⟨l3,m',_,_,_,_,rfl,f⟩
     ·exact wpS_bind (jk1 l3 fun st4 l4=>wpS_pure ⟨l4,_,_,_,_,rfl,m,d1,d2,d3⟩)
    case s2 =>
     rintro y c st3 _ hy ⟨l2,out,ia,ib,mg,ac,bc,rfl,m,d1,d2,d3⟩
     obtain ⟨bx,eb,mb⟩:=jb9 (a:=b) d2
     refine jb6 (fun _=>?_) fun _=>?_
     all_goals
      refine wpS_bind (jk1 l2 fun st4 l3=>?_)
      refine wpS_bind (jbc eb ?_)
      refine wpS_bind (jdg (base:=ia) (n:=a.size - ia) (hint:=0) C (l3.kind.trans hk) (hb _ mb) (fun i hi=>by
       obtain ⟨z,z1,z2⟩:=jb9 (a:=a) (i:=ia + i) (by omega)
       exact ⟨z,z1,ha _ z2⟩) (by omega) (fun i j q1 q2 q3=>ua i j (Nat.zero_le _) q2 (by omega)) fun k k1 k2 k3=>?_)
      have lowA:∀ x ∈ (a.extract ia (ia + k)).toList,∀ y ∈ b.toList.drop ib,R x ≤ R y:=fun x hx y hy=>by
       obtain ⟨j,j1,j2⟩:=jnx hx
       obtain ⟨i,i1,i2,i3⟩:=jcl hy
       have q:=jhe (k2 j j1)
       rw [kv_at j2] at q
       exact Int.le_trans q (ub.le eb i3 i1)
      have upA:∀ y ∈ a.toList.drop (ia + k),R bx ≤ R y:=fun y hy=>by
       obtain ⟨i,i1,i2,i3⟩:=jcl hy
       have q:=jfj (k3 (i - ia) (by omega) (by omega))
       rw [show ia + (i - ia) = i by omega,kv_at i3] at q
       exact Int.le_of_lt q
      have mk:=appA m lowA
      refine jb6 (fun ck=>?_) fun ck=>?_
      case' refine_1 =>
       refine jb6 (fun c=>wpS_pure ⟨l3,.inl ⟨_,_,_,_,_,_,_,rfl,ls _ _ _ mk (by simpa using c)⟩⟩) fun c3=>?_
       refine jb6 (fun c=>wpS_pure ⟨l3,.inl ⟨_,_,_,_,_,_,_,rfl,dn _ _ _ mk (.inl (by simpa using c))⟩⟩) fun c4=>?_
       have d4:ia + k + 1 < a.size:=by simp at c3 c4; omega
       have n1:∀ z,x + 1 < ia + k + 1 + (ib + 1 + z):=fun z=>by omega
       obtain ⟨ax,ea,ma⟩:=jb9 (a:=a) (i:=ia + k) (by omega)
      case' refine_2 =>
       have e0:k = 0:=by omega
       subst e0
       have d4:ia + 0 + 1 < a.size:=d1
       have n1:∀ z,x + 1 < ia + 0 + 1 + (ib + 1 + z):=fun z=>by omega
       replace mk:=m
       obtain ⟨ax,ea,ma⟩:=jb9 (a:=a) (i:=ia + 0) (by omega)
      all_goals
       refine wpS_bind (jbc eb ?_)
       have m3:=pushB mk eb upA
       refine jb6 (fun c=>wpS_pure ⟨l3,.inl ⟨_,_,_,_,_,_,_,rfl,dn _ _ _ m3 (.inr (by simpa using c))⟩⟩) fun c5=>?_
       have d5:ib + 1 < b.size:=by simp at c5; omega
       refine wpS_bind (jbc ea ?_)
       refine wpS_bind (jdg (base:=ib + 1) (n:=b.size - (ib + 1)) (hint:=0) C (l3.kind.trans hk) (ha _ ma) (fun i hi=>by
        obtain ⟨z,z1,z2⟩:=jb9 (a:=b) (i:=ib + 1 + i) (by omega)
        exact ⟨z,z1,hb _ z2⟩) (by omega) (fun i j q1 q2 q3=>ub i j (Nat.zero_le _) q2 (by omega)) fun k' j1 j2 j3=>?_)
       have m4:=appB (k:=k') m3 fun x hx y hy=>by
        obtain ⟨j,i1,i2⟩:=jnx hx
        obtain ⟨i,i3,i4,i5⟩:=jcl hy
        have q:=jjs (j2 j i1)
        rw [kv_at i2] at q
        exact Int.le_of_lt (Int.lt_of_lt_of_le q (ua.le ea i5 i3))
       have upB:∀ y ∈ b.toList.drop (ib + 1 + k'),R ax ≤ R y:=fun y hy=>by
        obtain ⟨i,i1,i2,i3⟩:=jcl hy
        have q:=jhd (j3 (i - (ib + 1)) (by omega) (by omega))
        rwa [show ib + 1 + (i - (ib + 1)) = i by omega,kv_at i3] at q
       refine jb6 (fun ck=>?_) fun ck=>?_
       case' refine_1 =>
        refine jb6 (fun c=>wpS_pure ⟨l3,.inl ⟨_,_,_,_,_,_,_,rfl,dn _ _ _ m4 (.inr (by simpa using c))⟩⟩) fun c6=>?_
        have d6:ib + 1 + k' < b.size:=by simp at c6; omega
        have n2:=n1 k'
       case' refine_2 =>
        have e0:k' = 0:=by omega
        subst e0
        have d6:ib + 1 + 0 < b.size:=d5
        have n2:=n1 0
        replace m4:=m3
       all_goals
        refine wpS_bind (jbc ea ?_)
        have m5:=pushA m4 ea upB
        refine jb6 (fun c=>wpS_pure ⟨l3,.inl ⟨_,_,_,_,_,_,_,rfl,ls _ _ _ m5 (by simpa using c)⟩⟩) fun c7=>?_
        have d7:=Nat.lt_of_le_of_ne (Nat.succ_le_of_lt d4) (by simpa using c7)
        exact jb6 (fun _=>wpS_pure ⟨l3,.inr ⟨_,_,_,_,_,_,rfl,m5,d7,d6,n2⟩⟩) fun _=>wpS_pure ⟨l3,_,_,_,_,_,_,rfl,m5,d7,d6,n2⟩
end
end So
namespace So
open PySem PyProof.Rows
def MH (R:Keyed→Int) (la lb o tot:List Keyed):Prop:=(la ++ o).Pairwise (Le R)∧(lb ++ o).Pairwise (Le R)∧(la ++ (lb ++ o)).Perm tot
section
variable {R:Keyed→Int} {o la lb tot xs:List Keyed}
theorem MH.a (h:MH R (la ++ xs) lb o tot) (hx:∀ x ∈ xs,∀ y ∈ lb,R y ≤ R x):MH R la lb (xs ++ o) tot:=by
 obtain ⟨h1,h2,h3⟩:=h
 refine ⟨by rw [← List.append_assoc]; exact h1,?_,?_⟩
 ·rw [List.append_assoc,List.pairwise_append] at h1
  rw [List.pairwise_append] at h2 ⊢
  refine ⟨h2.1,h1.2.1,fun y hy x hx2=>?_⟩
  rcases List.mem_append.mp hx2 with n | n
  ·exact hx x n y hy
  ·exact h2.2.2 y hy x n
 ·refine List.Perm.trans ?_ h3
  rw [List.append_assoc]
  refine List.Perm.append_left _ ?_
  rw [← List.append_assoc,← List.append_assoc]
  exact List.Perm.append_right _ List.perm_append_comm
theorem MH.swap (h:MH R la lb o tot):MH R lb la o tot:=by
 refine ⟨h.2.1,h.1,List.Perm.trans ?_ h.2.2⟩
 rw [← List.append_assoc,← List.append_assoc]
 exact List.Perm.append_right _ List.perm_append_comm
theorem MH.b (h:MH R la (lb ++ xs) o tot) (hx:∀ x ∈ xs,∀ y ∈ la,R y ≤ R x):MH R la lb (xs ++ o) tot:=(h.swap.a hx).swap
theorem MH.endB (h:MH R [] lb o tot):Fi R (lb ++ o) tot:=⟨h.2.1,h.2.2⟩
theorem MH.endA (h:MH R la [] o tot):Fi R (la ++ o) tot:=⟨h.1,h.2.2⟩
theorem MH.first (h:MH R la lb o tot) (hx:∀ y ∈ lb,∀ x ∈ la,R y ≤ R x):Fi R (lb ++ la ++ o) tot:=by
 obtain ⟨h1,h2,h3⟩:=h.swap
 refine ⟨?_,by rw [List.append_assoc]; exact h3⟩
 rw [List.append_assoc]
 rw [List.pairwise_append] at h1 h2 ⊢
 refine ⟨h1.1,List.pairwise_append.mpr h2,fun y hy x hx2=>?_⟩
 rcases List.mem_append.mp hx2 with n | n
 ·exact hx y hy x n
 ·exact h1.2.2 y hy x n
end
section
variable {a:Array Keyed} {R:Keyed→Int} {i k n:Nat}
theorem jmg {x:Keyed} (h:0 < n) (e:a[n - 1]? = some x):a.toList.take n = a.toList.take (n - 1) ++ [x]:=by
 have e2:a.toList[n - 1]? = some x:=by rw [Array.getElem?_toList]; exact e
 have z:a.toList.take (n - 1 + 1) = a.toList.take (n - 1) ++ a.toList[n - 1]?.toList:=List.take_succ
 rw [e2,Nat.sub_add_cancel h] at z
 exact z
theorem jk5 (h:i ≤ n):a.toList.take n = a.toList.take i ++ (a.extract i n).toList:=by
 rw [jcn]
 have z:a.toList.take (i + (n - i)) = a.toList.take i ++ (a.toList.drop i).take (n - i):=List.take_add
 rwa [Nat.add_sub_cancel' h] at z
theorem ext0 (a:Array Keyed) (n:Nat):(a.extract 0 n).toList = a.toList.take n:=by rw [jcn]; rfl
theorem jck {x:Keyed} (h:x ∈ a.toList.take n):∃ j,j < n∧j < a.size∧a[j]? = some x:=by
 obtain ⟨j,hj,e⟩:=List.getElem_of_mem h
 rw [List.getElem_take] at e
 rw [List.length_take,Array.length_toList] at hj
 refine ⟨j,by omega,by omega,?_⟩
 rw [← e,← Array.getElem?_toList]
 exact List.getElem?_eq_getElem _
theorem jcy {x:Keyed} (h:x ∈ (a.extract i n).toList):∃ j,i ≤ j∧j < n∧a[j]? = some x:=by
 rw [jcn] at h
 obtain ⟨j,hj,e⟩:=List.getElem_of_mem h
 rw [List.getElem_take,List.getElem_drop] at e
 rw [List.length_take] at hj
 refine ⟨i + j,by omega,by omega,?_⟩
 rw [← e,← Array.getElem?_toList]
 exact List.getElem?_eq_getElem _
end
section
variable {R:Keyed→Int} {a b out:Array Keyed} {na nb k:Nat} {tot:List Keyed}
abbrev MHa (R:Keyed→Int) (a b:Array Keyed) (tot:List Keyed) (na nb:Nat) (out:Array Keyed):Prop:=MH R (a.toList.take na) (b.toList.take nb) out.toList.reverse tot
theorem jom (m:MHa R a b tot na nb out) (h:0 < na) {x:Keyed} (e:a[na - 1]? = some x) (hx:∀ y ∈ b.toList.take nb,R y ≤ R x):MHa R a b tot (na - 1) nb (out.push x):=by
 unfold MHa at m ⊢
 rw [jmg h e] at m
 rw [Array.toList_push,List.reverse_append]
 exact m.a (xs:=[x]) fun z hz=>by rw [List.mem_singleton.mp hz]; exact hx
theorem jrb (m:MHa R a b tot na nb out) (h:0 < nb) {x:Keyed} (e:b[nb - 1]? = some x) (hx:∀ y ∈ a.toList.take na,R y ≤ R x):MHa R a b tot na (nb - 1) (out.push x):=by
 unfold MHa at m ⊢
 rw [jmg h e] at m
 rw [Array.toList_push,List.reverse_append]
 exact m.b (xs:=[x]) fun z hz=>by rw [List.mem_singleton.mp hz]; exact hx
theorem happA (m:MHa R a b tot na nb out) (h:k ≤ na) (hx:∀ x ∈ (a.extract k na).toList,∀ y ∈ b.toList.take nb,R y ≤ R x):MHa R a b tot k nb (out ++ (a.extract k na).reverse):=by
 unfold MHa at m ⊢
 rw [jk5 h] at m
 rw [Array.toList_append,List.reverse_append,Array.toList_reverse,List.reverse_reverse]
 exact m.a hx
theorem happB (m:MHa R a b tot na nb out) (h:k ≤ nb) (hx:∀ x ∈ (b.extract k nb).toList,∀ y ∈ a.toList.take na,R y ≤ R x):MHa R a b tot na k (out ++ (b.extract k nb).reverse):=by
 unfold MHa at m ⊢
 rw [jk5 h] at m
 rw [Array.toList_append,List.reverse_append,Array.toList_reverse,List.reverse_reverse]
 exact m.b hx
end
section
variable {prog:Program} {w:World} {A:Around} {E:Value→Shared→Prop} {s:Shared} {R:Keyed→Int} {κ:SortKind} {a₀:Array Keyed} {pd:Array (Nat × Nat × Nat)}
abbrev HiSt:=Option (Array Keyed) × Nat × Nat × Array Keyed × Nat
theorem w_mHi (C:Cm prog w A s R κ a₀) {st:SortSt} (hk:kindOf st = κ) {a b:Array Keyed} {tot:List Keyed} (ha:∀ x ∈ a.toList,x ∈ a₀.toList) (hb:∀ x ∈ b.toList,x ∈ a₀.toList) (ua:Up R a 0 a.size) (ub:Up R b 0 b.size)
  (na1:1 ≤ a.size) (nb1:1 ≤ b.size) (h0:∀ x y,b[0]? = some x→a[0]? = some y→R x < R y) (hl:∀ x y,x ∈ b.toList→a[a.size - 1]? = some y→R x < R y) (ht:(a.toList ++ b.toList).Perm tot)
  {Q:Array Keyed→SortSt→Prop} (h:∀ m st',Lk st st'→Fi R m.toList tot→Q m st'):wpS (model prog w) A E s (mHi a b) Q st:=by
 obtain ⟨al,eal,mal⟩:=jb9 (a:=a) (i:=a.size - 1) (by omega)
 obtain ⟨b0,eb0,mb0⟩:=jb9 (a:=b) (i:=0) nb1
 obtain ⟨a0,ea0,ma0⟩:=jb9 (a:=a) (i:=0) na1
 have alla:a.toList.take a.size = a.toList:=List.take_of_length_le (by rw [Array.length_toList]; exact Nat.le_refl _)
 have allb:b.toList.take b.size = b.toList:=List.take_of_length_le (by rw [Array.length_toList]; exact Nat.le_refl _)
 have m0:MHa R a b tot (a.size - 1) b.size #[al]:=by
  have z:MHa R a b tot a.size b.size #[]:=by
   refine ⟨?_,?_,?_⟩
   ·rw [show (#[]:Array Keyed).toList.reverse = [] from rfl,List.append_nil,alla,List.pairwise_iff_getElem]
    intro i j hi hj hij
    rw [Array.length_toList] at hi hj
    exact ua.le (getElem?_pos a i hi) (getElem?_pos a j hj) (Nat.le_of_lt hij)
   ·rw [show (#[]:Array Keyed).toList.reverse = [] from rfl,List.append_nil,allb,List.pairwise_iff_getElem]
    intro i j hi hj hij
    rw [Array.length_toList] at hi hj
    exact ub.le (getElem?_pos b i hi) (getElem?_pos b j hj) (Nat.le_of_lt hij)
   ·rw [show (#[]:Array Keyed).toList.reverse = [] from rfl,List.append_nil,alla,allb]; exact ht
  refine jom z (by omega) eal fun y hy=>?_
  rw [allb] at hy
  exact Int.le_of_lt (hl _ _ hy eal)
 have dn:∀ (na nb:Nat) (out:Array Keyed),MHa R a b tot na nb out→(na = 0 ∨ nb = 0)→Fi R (a.extract 0 na ++ b.extract 0 nb ++ out.reverse).toList tot:=by
  intro na nb out m hor
  unfold MHa at m
  rw [Array.toList_append,Array.toList_append,ext0,ext0,Array.toList_reverse]
  rcases hor with e | e
  ·rw [e,List.take_zero] at m ⊢
   exact m.endB
  ·rw [e,List.take_zero] at m ⊢
   rw [List.append_nil]; exact m.endA
 have fs:∀ (na nb:Nat) (out:Array Keyed),MHa R a b tot na nb out→nb = 1→Fi R (b.extract 0 nb ++ a.extract 0 na ++ out.reverse).toList tot:=by
  intro na nb out m e
  unfold MHa at m
  rw [Array.toList_append,Array.toList_append,ext0,ext0,Array.toList_reverse]
  refine m.first fun y hy x hx=>?_
  obtain ⟨j,j1,j2,j3⟩:=jck hy
  obtain ⟨i,i1,i2,i3⟩:=jck hx
  have ej:j = 0:=by omega
  rw [ej] at j3
  exact Int.le_of_lt (Int.lt_of_lt_of_le (h0 _ _ j3 ea0) (ua.le ea0 i3 (Nat.zero_le _)))
 unfold mHi
 refine wpS_bind (wpS_lift (wpAny_rule ⟨rfl,?_⟩))
 refine wpS_bind (jbc eal ?_)
 refine jb6 (fun c=>wpS_pure (h _ _ (.refl _) (dn _ _ _ m0 (.inl (by simpa using c))))) fun c1=>?_
 refine jb6 (fun c=>wpS_pure (h _ _ (.refl _) (fs _ _ _ m0 (by simpa using c)))) fun c2=>?_
 have c1':0 < a.size - 1:=by
  rcases Nat.eq_zero_or_pos (a.size - 1) with z | z
  ·exact absurd (by rw [z]; rfl) c1
  ·exact z
 have c2':1 < b.size:=by simp at c2; omega
 refine wpS_bind (wpS_get ?_)
 refine wpS_bind (wpS_mono (wpS_forRange (I:=fun x (c:HiSt) st'=>Lk st st'∧∃ na nb out mg,c = (none,na,nb,out,mg)∧MHa R a b tot na nb out∧0 < na∧na ≤ a.size∧1 < nb∧nb ≤ b.size∧x + na + nb < a.size + b.size)
  (Q:=fun (c:HiSt) st'=>Lk st st'∧∃ m na nb out mg,c = (some m,na,nb,out,mg)∧Fi R m.toList tot) ?step ?fin ⟨.refl _,a.size - 1,b.size,#[al],_,rfl,m0,c1',by omega,c2',Nat.le_refl _,by omega⟩) ?post)
 case fin =>
  rintro c st' ⟨l,na,nb,out,mg,rfl,m,d1,d2,d3,d4,d5⟩
  omega
 case post =>
  rintro c st' ⟨l,m,na,nb,out,mg,rfl,f⟩
  exact wpS_pure (h m st' l f)
 case step =>
  rintro x c st' _ hx ⟨l,na,nb,out,mg,rfl,m,d1,d2,d3,d4,d5⟩
  refine wpS_bind (wpS_mono (wpS_forRange (I:=fun y (c:Option (Array Keyed) × Nat × Nat × Array Keyed × Nat × Nat) st2=>st2 = st'∧∃ na nb out ac bc,c = (none,na,nb,out,ac,bc)∧MHa R a b tot na nb out∧0 < na∧na ≤ a.size∧1 < nb∧nb ≤ b.size∧x + min y 1 + na + nb < a.size + b.size)
   (Q:=fun (c:Option (Array Keyed) × Nat × Nat × Array Keyed × Nat × Nat) st2=>st2 = st'∧((∃ m na nb out ac bc,c = (some m,na,nb,out,ac,bc)∧Fi R m.toList tot) ∨
    (∃ na nb out ac bc,c = (none,na,nb,out,ac,bc)∧MHa R a b tot na nb out∧0 < na∧na ≤ a.size∧1 < nb∧nb ≤ b.size∧x + 1 + na + nb < a.size + b.size))) ?s1 ?f1 ⟨rfl,na,nb,out,0,0,rfl,m,d1,d2,d3,d4,by omega⟩) ?p1)
  case f1 =>
   rintro c st2 ⟨rfl,na,nb,out,ac,bc,rfl,m,d1,d2,d3,d4,d5⟩
   exact ⟨rfl,.inr ⟨na,nb,out,ac,bc,rfl,m,d1,d2,d3,d4,by omega⟩⟩
  case s1 =>
   rintro y c st2 _ hy ⟨rfl,na,nb,out,ac,bc,rfl,m,d1,d2,d3,d4,d5⟩
   obtain ⟨bx,eb,mb⟩:=jb9 (a:=b) (i:=nb - 1) (by omega)
   obtain ⟨ax,ea,ma⟩:=jb9 (a:=a) (i:=na - 1) (by omega)
   refine wpS_bind (jbc eb ?_)
   refine wpS_bind (jbc ea ?_)
   refine wpS_bind (w_lt C (l.kind.trans hk) (hb _ mb) (ha _ ma) ?_)
   by_cases hlt:R bx < R ax
   ·rw [decide_eq_true hlt]
    refine wpS_bind (jbc ea ?_)
    have m2:=jom m d1 ea fun z hz=>by
     obtain ⟨j,j1,j2,j3⟩:=jck hz
     exact Int.le_trans (ub.le j3 eb (by omega)) (Int.le_of_lt hlt)
    refine jb6 (fun c=>wpS_pure ⟨rfl,.inl ⟨_,_,_,_,_,_,rfl,dn _ _ _ m2 (.inl (by simpa using c))⟩⟩) fun c=>?_
    have c':0 < na - 1:=by
     rcases Nat.eq_zero_or_pos (na - 1) with z | z
     ·exact absurd (by rw [show (none,na,nb,out,ac,bc).snd.fst = na from rfl,z]; rfl) c
     ·exact z
    have n0:na - 1 ≤ a.size:=by omega
    have n1:x + 1 + (na - 1) + nb < a.size + b.size:=by omega
    have n2:x + min (y + 1) 1 + (na - 1) + nb < a.size + b.size:=by omega
    exact jb6 (fun _=>wpS_pure ⟨rfl,.inr ⟨_,_,_,_,_,rfl,m2,c',n0,d3,d4,n1⟩⟩) fun _=>wpS_pure ⟨rfl,_,_,_,_,_,rfl,m2,c',n0,d3,d4,n2⟩
   ·rw [decide_eq_false hlt]
    refine wpS_bind (jbc eb ?_)
    have m2:=jrb m (by omega) eb fun z hz=>by
     obtain ⟨j,j1,j2,j3⟩:=jck hz
     exact Int.le_trans (ua.le j3 ea (by omega)) (Int.not_lt.mp hlt)
    refine jb6 (fun c=>wpS_pure ⟨rfl,.inl ⟨_,_,_,_,_,_,rfl,fs _ _ _ m2 (by simpa using c)⟩⟩) fun c=>?_
    have c':1 < nb - 1:=by
     have z:nb - 1 ≠ 1:=fun z=>c (by rw [show (none,na,nb,out,ac,bc).snd.snd.fst = nb from rfl,z]; rfl)
     omega
    have n0:nb - 1 ≤ b.size:=by omega
    have n1:x + 1 + na + (nb - 1) < a.size + b.size:=by omega
    have n2:x + min (y + 1) 1 + na + (nb - 1) < a.size + b.size:=by omega
    exact jb6 (fun _=>wpS_pure ⟨rfl,.inr ⟨_,_,_,_,_,rfl,m2,d1,d2,c',n0,n1⟩⟩) fun _=>wpS_pure ⟨rfl,_,_,_,_,_,rfl,m2,d1,d2,c',n0,n2⟩
  case p1 =>
   rintro c st2 ⟨rfl,⟨m',na,nb,out,ac,bc,rfl,f⟩ | ⟨na,nb,out,ac,bc,rfl,m,d1,d2,d3,d4,d5⟩⟩
   ·exact wpS_pure ⟨l,m',_,_,_,_,rfl,f⟩
   ·refine wpS_bind (wpS_lift (wpAny_rule ⟨rfl,?_⟩))
    refine wpS_bind (wpS_mono (wpS_forRange (I:=fun y (c:Option (Array Keyed) × Nat × Nat × Array Keyed × Nat × Nat × Nat) st2=>Lk st st2∧∃ na nb out mg ac bc,c = (none,na,nb,out,mg,ac,bc)∧MHa R a b tot na nb out∧0 < na∧na ≤ a.size∧1 < nb∧nb ≤ b.size∧x + 1 + na + nb < a.size + b.size)
     (Q:=fun (c:Option (Array Keyed) × Nat × Nat × Array Keyed × Nat × Nat × Nat) st2=>Lk st st2∧((∃ m na nb out mg ac bc,c = (some m,na,nb,out,mg,ac,bc)∧Fi R m.toList tot) ∨
      (∃ na nb out mg ac bc,c = (none,na,nb,out,mg,ac,bc)∧MHa R a b tot na nb out∧0 < na∧na ≤ a.size∧1 < nb∧nb ≤ b.size∧x + 1 + na + nb < a.size + b.size))) ?s2 ?f2 ⟨l,na,nb,out,_,ac,bc,rfl,m,d1,d2,d3,d4,d5⟩) ?p2)
    case f2 =>
     rintro c st3 ⟨l3,na,nb,out,mg,ac,bc,rfl,m,d⟩
     exact ⟨l3,.inr ⟨na,nb,out,mg,ac,bc,rfl,m,d⟩⟩
    case p2 =>
     rintro c st3 ⟨l3,⟨m',na,nb,out,mg,ac,bc,rfl,f⟩ | ⟨na,nb,out,mg,ac,bc,rfl,m,d⟩⟩
     ·exact wpS_pure ⟨l3,m',_,_,_,_,rfl,f⟩
     ·exact wpS_bind (jk1 l3 fun st4 l4=>wpS_pure ⟨l4,_,_,_,_,rfl,m,d⟩)
    case s2 =>
     rintro y c st3 _ hy ⟨l2,na,nb,out,mg,ac,bc,rfl,m,d1,d2,d3,d4,d5⟩
     obtain ⟨bx,eb,mb⟩:=jb9 (a:=b) (i:=nb - 1) (by omega)
     refine jb6 (fun _=>?_) fun _=>?_
     all_goals
      refine wpS_bind (jk1 l2 fun st4 l3=>?_)
      refine wpS_bind (jbc eb ?_)
      refine wpS_bind (jdg (base:=0) (n:=na) (hint:=na - 1) C (l3.kind.trans hk) (hb _ mb) (fun i hi=>by
       obtain ⟨z,z1,z2⟩:=jb9 (a:=a) (i:=0 + i) (by omega)
       exact ⟨z,z1,ha _ z2⟩) (by omega) (fun i j q1 q2 q3=>ua i j (Nat.zero_le _) q2 (by omega)) fun k k1 k2 k3=>?_)
      have upA:∀ y ∈ a.toList.take k,R y ≤ R bx:=fun y hy=>by
       obtain ⟨j,j1,j2,j3⟩:=jck hy
       have q:=jhe (k2 j j1)
       rwa [Nat.zero_add,kv_at j3] at q
      have mk:=happA m k1 fun x hx y hy=>by
       obtain ⟨j,j1,j2,j3⟩:=jcy hx
       obtain ⟨i,i1,i2,i3⟩:=jck hy
       have q:=jfj (k3 j j1 j2)
       rw [Nat.zero_add,kv_at j3] at q
       exact Int.le_trans (ub.le i3 eb (by omega)) (Int.le_of_lt q)
      refine jb6 (fun ck=>?_) fun ck=>?_
      case' refine_1 =>
       refine jb6 (fun c=>wpS_pure ⟨l3,.inl ⟨_,_,_,_,_,_,_,rfl,dn _ _ _ mk (.inl (by simpa using c))⟩⟩) fun c3=>?_
       have e1:0 < k:=by simp at c3; omega
       have e2:k ≤ a.size:=by omega
       have n1:∀ z,z ≤ nb - 1→x + 1 + (k - 1) + z < a.size + b.size:=fun z hz=>by omega
       obtain ⟨ax,ea,ma⟩:=jb9 (a:=a) (i:=k - 1) (by omega)
       have e3:∀ i,i < k→i ≤ k - 1:=fun i hi=>by omega
      case' refine_2 =>
       have e0:k = na:=by
        have ck':¬ na - k > 0:=ck
        omega
       subst e0
       have e1:=d1
       have e2:=d2
       have n1:∀ z,z ≤ nb - 1→x + 1 + (k - 1) + z < a.size + b.size:=fun z hz=>by omega
       replace mk:=m
       obtain ⟨ax,ea,ma⟩:=jb9 (a:=a) (i:=k - 1) (by omega)
       have e3:∀ i,i < k→i ≤ k - 1:=fun i hi=>by omega
      all_goals
       refine wpS_bind (jbc eb ?_)
       have m3:=jrb mk (by omega) eb upA
       refine jb6 (fun c=>wpS_pure ⟨l3,.inl ⟨_,_,_,_,_,_,_,rfl,fs _ _ _ m3 (by simpa using c)⟩⟩) fun c5=>?_
       have d6:1 < nb - 1:=by
        have z:nb - 1 ≠ 1:=fun z=>c5 (by
         show (nb - 1 == 1) = true
         rw [z]; rfl)
        omega
       refine wpS_bind (jbc ea ?_)
       refine wpS_bind (jdg (base:=0) (n:=nb - 1) (hint:=nb - 1 - 1) C (l3.kind.trans hk) (ha _ ma) (fun i hi=>by
        obtain ⟨z,z1,z2⟩:=jb9 (a:=b) (i:=0 + i) (by omega)
        exact ⟨z,z1,hb _ z2⟩) (by omega) (fun i j q1 q2 q3=>ub i j (Nat.zero_le _) q2 (by omega)) fun k' j1 j2 j3=>?_)
       have upB:∀ y ∈ b.toList.take k',R y ≤ R ax:=fun y hy=>by
        obtain ⟨i,i1,i2,i3⟩:=jck hy
        have q:=jjs (j2 i i1)
        rw [Nat.zero_add,kv_at i3] at q
        exact Int.le_of_lt q
       have m4:=happB m3 j1 fun x hx y hy=>by
        obtain ⟨j,i1,i2,i3⟩:=jcy hx
        obtain ⟨i,i4,i5,i6⟩:=jck hy
        have q:=jhd (j3 j i1 i2)
        rw [Nat.zero_add,kv_at i3] at q
        exact Int.le_trans (ua.le i6 ea (e3 i i4)) q
       refine jb6 (fun ck2=>?_) fun ck2=>?_
       case' refine_1 =>
        refine jb6 (fun c=>wpS_pure ⟨l3,.inl ⟨_,_,_,_,_,_,_,rfl,fs _ _ _ m4 (by simpa using c)⟩⟩) fun c6=>?_
        refine jb6 (fun c=>wpS_pure ⟨l3,.inl ⟨_,_,_,_,_,_,_,rfl,dn _ _ _ m4 (.inr (by simpa using c))⟩⟩) fun c7=>?_
        have d7:1 < k':=by simp at c6 c7; omega
        have d8:k' ≤ b.size:=by omega
        have n2:=n1 k' j1
       case' refine_2 =>
        have e0:k' = nb - 1:=by
         have ck':¬ nb - 1 - k' > 0:=ck2
         omega
        subst e0
        replace m4:=m3
        have d7:=d6
        have d8:nb - 1 ≤ b.size:=by omega
        have n2:=n1 (nb - 1) (Nat.le_refl _)
       all_goals
        refine wpS_bind (jbc ea ?_)
        have m5:=jom m4 e1 ea upB
        refine jb6 (fun c=>wpS_pure ⟨l3,.inl ⟨_,_,_,_,_,_,_,rfl,dn _ _ _ m5 (.inl (by simpa using c))⟩⟩) fun c8=>?_
        have d9:0 < k - 1:=by
         rcases Nat.eq_zero_or_pos (k - 1) with z | z
         ·refine absurd ?_ c8
          show (k - 1 == 0) = true
          rw [z]; rfl
         ·exact z
        have d10:k - 1 ≤ a.size:=by omega
        exact jb6 (fun _=>wpS_pure ⟨l3,.inr ⟨_,_,_,_,_,_,rfl,m5,d9,d10,d7,d8,n2⟩⟩) fun _=>wpS_pure ⟨l3,_,_,_,_,_,_,rfl,m5,d9,d10,d7,d8,n2⟩
end
end So
namespace So
open PySem PyProof.Rows
def jch (off:Nat) (l:List (Keyed × Nat)) (xs:Array Keyed):Array Keyed:=l.foldl (fun a p=>a.setIfInBounds (off + p.2) p.1) xs
theorem jec (off:Nat):∀ (m:List Keyed) (j:Nat) (xs:Array Keyed),off + j + m.length ≤ xs.size→∀ i,
  (jch off (m.zipIdx j) xs)[i]? = if off + j ≤ i∧i < off + j + m.length then m[i - (off + j)]? else xs[i]?
 | [],j,xs,_,i=>by rw [if_neg (by simp)]; rfl
 | p :: m,j,xs,h,i=>by
  rw [List.zipIdx_cons]
  show (jch off (m.zipIdx (j + 1)) (xs.setIfInBounds (off + j) p))[i]? = _
  rw [List.length_cons] at h ⊢
  rw [jec off m (j + 1) _ (by rw [Array.size_setIfInBounds]; omega) i]
  by_cases c:i = off + j
  ·rw [if_neg (by omega),if_pos (by omega),c,Nat.sub_self,List.getElem?_cons_zero,Array.getElem?_setIfInBounds]
   rw [if_pos rfl,if_pos (by omega)]
  ·by_cases c2:off + j ≤ i∧i < off + j + (m.length + 1)
   ·rw [if_pos (by omega),if_pos c2,show i - (off + j) = i - (off + (j + 1)) + 1 by omega,List.getElem?_cons_succ]
   ·rw [if_neg (by omega),if_neg c2,Array.getElem?_setIfInBounds,if_neg (by omega)]
theorem jj4 {off:Nat} {m:List Keyed} {xs:Array Keyed} (h:off + m.length ≤ xs.size) (hp:m.Perm ((xs.toList.drop off).take m.length)):(jch off (m.zipIdx 0) xs).Perm xs:=by
 rw [Array.perm_iff_toList_perm]
 have e:(jch off (m.zipIdx 0) xs).toList = xs.toList.take off ++ (m ++ xs.toList.drop (off + m.length)):=by
  apply List.ext_getElem?
  intro i
  have hlen:xs.toList.length = xs.size:=Array.length_toList
  rw [Array.getElem?_toList,jec off m 0 xs (by omega),List.getElem?_append,List.length_take,hlen,Nat.min_eq_left (by omega)]
  by_cases c:i < off
  ·rw [if_neg (by omega),if_pos c,List.getElem?_take,if_pos c,Array.getElem?_toList]
  ·rw [if_neg c,List.getElem?_append]
   by_cases c2:i < off + m.length
   ·rw [if_pos (by omega),if_pos (by omega),Nat.add_zero]
   ·rw [if_neg (by omega),if_neg (by omega),List.getElem?_drop,Array.getElem?_toList,show off + m.length + (i - off - m.length) = i by omega]
 rw [e]
 have e2:xs.toList = xs.toList.take off ++ ((xs.toList.drop off).take m.length ++ xs.toList.drop (off + m.length)):=by
  rw [← List.drop_drop,List.take_append_drop,List.take_append_drop]
 conv=>rhs; rw [e2]
 exact List.Perm.append_left _ (List.Perm.append_right _ hp)
section
variable {prog:Program} {w:World} {A:Around} {E:Value→Shared→Prop} {s:Shared} {R:Keyed→Int} {κ:SortKind} {a₀:Array Keyed} {pd:Array (Nat × Nat × Nat)}
theorem w_set {σ:Type} {M:Model} {st0:σ} {Q:PUnit→σ→Prop} {st:σ} (h:Q ⟨⟩ st0):wpS M A E s (set st0:StateT σ Sem PUnit) Q st:=by
 unfold wpS; exact wpAny_pure ⟨rfl,h⟩
theorem Up.ext {xs:Array Keyed} {lo hi:Nat} (u:Up R xs lo hi) (h:hi ≤ xs.size):Up R (xs.extract lo hi) 0 (xs.extract lo hi).size:=fun i j _ h2 h3=>by
 rw [Array.size_extract] at h3
 have e:∀ k,k < hi - lo→(xs.extract lo hi)[k]? = xs[lo + k]?:=fun k hk=>by
  rw [Array.getElem?_extract]
  rw [if_pos (by omega)]
 rw [jfz (e i (by omega)),jfz (e j (by omega))]
 exact u _ _ (by omega) (by omega) (by omega)
theorem jm7 (C:Cm prog w A s R κ a₀) {st:SortSt} (b:Bs κ a₀ pd st) {i:Nat} {sa na pa nb pb:Nat} (hp1:pd[i]? = some (sa,na,pa)) (hp2:pd[i + 1]? = some (sa + na,nb,pb))
  (h1:1 ≤ na) (h2:1 ≤ nb) (hs:sa + na + nb ≤ a₀.size) (ua:Up R (arrOf st) sa (sa + na)) (ub:Up R (arrOf st) (sa + na) (sa + na + nb)) {Q:Bool→SortSt→Prop}
  (h:∀ st',Bs κ a₀ ((pd.setIfInBounds i (sa,na + nb,pa)).eraseIdxIfInBounds (i + 1)) st'→(∀ j,(j < sa ∨ sa + na + nb ≤ j)→(arrOf st')[j]? = (arrOf st)[j]?)→Up R (arrOf st') sa (sa + na + nb)→Q true st') :
  wpS (model prog w) A E s (mergeAt' i) Q st:=by
 rcases st with ⟨kd,xs,pn,mg,fl⟩
 have e1:pn = pd:=b.pend
 have e2:kd = κ:=b.kind
 have e3:fl = none:=b.ok
 subst e1 e2 e3
 have hsz:xs.size = a₀.size:=b.size
 have hin:∀ x,x ∈ xs.toList→x ∈ a₀.toList:=fun x hx=>(Array.perm_iff_toList_perm.mp (show xs.Perm a₀ from b.perm)).mem_iff.mp hx
 change Up R xs sa (sa + na) at ua
 change Up R xs (sa + na) (sa + na + nb) at ub
 change ∀ st',_→(∀ j,_→(arrOf st')[j]? = xs[j]?)→_ at h
 generalize hpd':(pn.setIfInBounds i (sa,na + nb,pa)).eraseIdxIfInBounds (i + 1) = pd' at h
 have hle:∀ {i j:Nat} {x y:Keyed},xs[i]? = some x→xs[j]? = some y→kv R xs i ≤ kv R xs j→R x ≤ R y:=fun q1 q2 q3=>by rwa [kv_at q1,kv_at q2] at q3
 unfold mergeAt'
 refine wpS_bind (wpS_get ?_)
 dsimp only
 rw [hp1,hp2]
 refine wpS_bind (w_set ?_)
 rw [hpd']
 have st1:Bs kd a₀ pd' (SortSt.mk' kd xs pd' mg none):=⟨b.perm,rfl,rfl,rfl⟩
 obtain ⟨b0,eb0,mb0⟩:=jb9 (a:=xs) (i:=sa + na) (by omega)
 refine wpS_bind (jbc eb0 ?_)
 refine wpS_bind (jdg (base:=sa) (n:=na) (hint:=0) C rfl (hin _ mb0) (fun i hi=>by
  obtain ⟨z,z1,z2⟩:=jb9 (a:=xs) (i:=sa + i) (by omega)
  exact ⟨z,z1,hin _ z2⟩) (by omega) ua fun k k1 k2 k3=>?_)
 have lowk:∀ j,sa ≤ j→j < sa + k→kv R xs j ≤ R b0:=fun j q1 q2=>by
  have q:=jhe (k2 (j - sa) (by omega))
  rwa [show sa + (j - sa) = j by omega] at q
 have upk:∀ j,sa + k ≤ j→j < sa + na→R b0 < kv R xs j:=fun j q1 q2=>by
  have q:=jfj (k3 (j - sa) (by omega) (by omega))
  rwa [show sa + (j - sa) = j by omega] at q
 have upb:∀ j,sa + na ≤ j→j < sa + na + nb→R b0 ≤ kv R xs j:=fun j q1 q2=>by
  have q:=ub (sa + na) j (Nat.le_refl _) q1 q2
  rwa [kv_at eb0] at q
 refine jb6 (fun c=>wpS_pure (h _ st1 (fun _ _=>rfl) ?_)) fun c1=>?_
 ·have ek:k = na:=by
   have c':na - k = 0:=by simpa using c
   omega
  intro i j q1 q2 q3
  show kv R xs i ≤ kv R xs j
  by_cases cj:j < sa + na
  ·exact ua i j q1 q2 cj
  ·by_cases ci:i < sa + na
   ·exact Int.le_trans (lowk i q1 (by omega)) (upb j (by omega) q3)
   ·exact ub i j (by omega) q2 q3
 have c1':k < na:=by
  have c':na - k ≠ 0:=by simpa using c1
  omega
 obtain ⟨al,eal,mal⟩:=jb9 (a:=xs) (i:=sa + k + (na - k) - 1) (by omega)
 refine wpS_bind (jbc eal ?_)
 refine wpS_bind (jdg (base:=sa + na) (n:=nb) (hint:=nb - 1) C rfl (hin _ mal) (fun i hi=>by
  obtain ⟨z,z1,z2⟩:=jb9 (a:=xs) (i:=sa + na + i) (by omega)
  exact ⟨z,z1,hin _ z2⟩) (by omega) ub fun n2 j1 j2 j3=>?_)
 rw [show sa + k + (na - k) - 1 = sa + na - 1 by omega] at eal
 have lastA:∀ j,sa ≤ j→j < sa + na→kv R xs j ≤ R al:=fun j q1 q2=>by
  have q:=ua j (sa + na - 1) q1 (by omega) (by omega)
  rwa [kv_at eal] at q
 have lowB:∀ j,sa + na ≤ j→j < sa + na + n2→kv R xs j < R al:=fun j q1 q2=>by
  have q:=jjs (j2 (j - (sa + na)) (by omega))
  rwa [show sa + na + (j - (sa + na)) = j by omega] at q
 have upB:∀ j,sa + na + n2 ≤ j→j < sa + na + nb→R al ≤ kv R xs j:=fun j q1 q2=>by
  have q:=jhd (j3 (j - (sa + na)) (by omega) (by omega))
  rwa [show sa + na + (j - (sa + na)) = j by omega] at q
 refine jb6 (fun c=>wpS_pure (h _ st1 (fun _ _=>rfl) ?_)) fun c2=>?_
 ·have e2:n2 = 0:=by simpa using c
  intro i j q1 q2 q3
  show kv R xs i ≤ kv R xs j
  by_cases cj:j < sa + na
  ·exact ua i j q1 q2 cj
  ·by_cases ci:i < sa + na
   ·exact Int.le_trans (lastA i q1 ci) (upB j (by omega) q3)
   ·exact ub i j (by omega) q2 q3
 have c2':1 ≤ n2:=by
  have c':n2 ≠ 0:=by simpa using c2
  omega
 have hx:Up R (xs.extract (sa + k) (sa + na)) 0 (xs.extract (sa + k) (sa + na)).size:=Up.ext (fun i j q1 q2 q3=>ua i j (by omega) q2 q3) (by omega)
 have hy:Up R (xs.extract (sa + na) (sa + na + n2)) 0 (xs.extract (sa + na) (sa + na + n2)).size:=Up.ext (fun i j q1 q2 q3=>ub i j (by omega) q2 (by omega)) (by omega)
 have sx:(xs.extract (sa + k) (sa + na)).size = na - k:=by rw [Array.size_extract]; omega
 have sy:(xs.extract (sa + na) (sa + na + n2)).size = n2:=by rw [Array.size_extract]; omega
 have gx:∀ j,j < na - k→(xs.extract (sa + k) (sa + na))[j]? = xs[sa + k + j]?:=fun j hj=>by rw [Array.getElem?_extract,if_pos (by omega)]
 have gy:∀ j,j < n2→(xs.extract (sa + na) (sa + na + n2))[j]? = xs[sa + na + j]?:=fun j hj=>by rw [Array.getElem?_extract,if_pos (by omega)]
 have ix:∀ z ∈ (xs.extract (sa + k) (sa + na)).toList,z ∈ a₀.toList:=fun z hz=>by
  obtain ⟨j,q1,q2,q3⟩:=jcy hz
  obtain ⟨v,v1,v2⟩:=jb9 (a:=xs) (i:=j) (by omega)
  rw [q3] at v1
  cases v1
  exact hin _ v2
 have iy:∀ z ∈ (xs.extract (sa + na) (sa + na + n2)).toList,z ∈ a₀.toList:=fun z hz=>by
  obtain ⟨j,q1,q2,q3⟩:=jcy hz
  obtain ⟨v,v1,v2⟩:=jb9 (a:=xs) (i:=j) (by omega)
  rw [q3] at v1
  cases v1
  exact hin _ v2
 have p0:∀ x y,(xs.extract (sa + na) (sa + na + n2))[0]? = some x→(xs.extract (sa + k) (sa + na))[0]? = some y→R x < R y:=fun x y q1 q2=>by
  rw [gy 0 (by omega)] at q1
  rw [gx 0 (by omega)] at q2
  have q:=upk (sa + k + 0) (by omega) (by omega)
  rw [kv_at q2] at q
  have e:x = b0:=by
   rw [Nat.add_zero,eb0] at q1
   cases q1; rfl
  rw [e]; exact q
 have pl:∀ x y,x ∈ (xs.extract (sa + na) (sa + na + n2)).toList→(xs.extract (sa + k) (sa + na))[(xs.extract (sa + k) (sa + na)).size - 1]? = some y→R x < R y:=fun x y q1 q2=>by
  rw [sx,gx _ (by omega),show sa + k + (na - k - 1) = sa + na - 1 by omega,eal] at q2
  cases q2
  obtain ⟨j,r1,r2,r3⟩:=jcy q1
  have q:=lowB j r1 r2
  rwa [kv_at r3] at q
 have fini:∀ (m:Array Keyed) (st':SortSt),Lk (SortSt.mk' kd xs pd' mg none) st'→Fi R m.toList ((xs.extract (sa + k) (sa + na)).toList ++ (xs.extract (sa + na) (sa + na + n2)).toList) →
   Q true (SortSt.mk' (kindOf st') (jch (sa + k) (m.toList.zipIdx 0) (arrOf st')) (pendingOf st') (gallopOf st') (failedOf st'))∧failedOf st' = none:=by
  intro m st' l f
  have ea:arrOf st' = xs:=l.arr
  have hml:m.toList.length = na - k + n2:=by
   rw [f.2.length_eq,List.length_append,Array.length_toList,Array.length_toList,sx,sy]
  have hmz:∀ z ∈ m.toList,∃ j,sa + k ≤ j∧j < sa + na + n2∧xs[j]? = some z:=fun z hz=>by
   rcases List.mem_append.mp (f.2.mem_iff.mp hz) with q | q
   ·obtain ⟨j,q1,q2,q3⟩:=jcy q
    exact ⟨j,q1,by omega,q3⟩
   ·obtain ⟨j,q1,q2,q3⟩:=jcy q
    exact ⟨j,by omega,q2,q3⟩
  have hperm:(jch (sa + k) (m.toList.zipIdx 0) xs).Perm xs:=by
   refine jj4 (by omega) (f.2.trans ?_)
   rw [hml,List.take_add,jcn,jcn,List.drop_drop,show sa + na - (sa + k) = na - k by omega,show sa + k + (na - k) = sa + na by omega,show sa + na + n2 - (sa + na) = n2 by omega]
  have hget:=jec (sa + k) m.toList 0 xs (by omega)
  rw [hml] at hget
  refine ⟨h _ ⟨?_,l.kind,l.ok,l.pend⟩ ?_ ?_,l.ok⟩
  ·show (jch (sa + k) (m.toList.zipIdx 0) (arrOf st')).Perm a₀
   rw [ea]; exact hperm.trans b.perm
  ·intro j hj
   show (jch (sa + k) (m.toList.zipIdx 0) (arrOf st'))[j]? = xs[j]?
   rw [ea,hget,if_neg (by omega)]
  ·intro i j q1 q2 q3
   show kv R (jch (sa + k) (m.toList.zipIdx 0) (arrOf st')) i ≤ kv R (jch (sa + k) (m.toList.zipIdx 0) (arrOf st')) j
   rw [ea]
   have out:∀ i,¬ (sa + k ≤ i∧i < sa + na + n2)→kv R (jch (sa + k) (m.toList.zipIdx 0) xs) i = kv R xs i:=fun i hi=>jfz (by rw [hget,if_neg (by omega)])
   have ins:∀ i,sa + k ≤ i→i < sa + na + n2→∃ z,m.toList[i - (sa + k)]? = some z∧z ∈ m.toList∧kv R (jch (sa + k) (m.toList.zipIdx 0) xs) i = R z:=fun i hi1 hi2=>by
    have hlt:i - (sa + k) < m.toList.length:=by omega
    refine ⟨m.toList[i - (sa + k)],List.getElem?_eq_getElem hlt,List.getElem_mem _,kv_at ?_⟩
    rw [hget,if_pos (by omega),Nat.add_zero]
    exact List.getElem?_eq_getElem hlt
   by_cases ci:sa + k ≤ i∧i < sa + na + n2
   ·obtain ⟨z,z1,z2,z3⟩:=ins i ci.1 ci.2
    obtain ⟨iz,y1,y2,y3⟩:=hmz z z2
    by_cases cj:sa + k ≤ j∧j < sa + na + n2
    ·obtain ⟨v,v1,v2,v3⟩:=ins j cj.1 cj.2
     rw [z3,v3]
     by_cases eij:i = j
     ·rw [eij] at z1
      rw [z1] at v1
      cases v1
      exact Int.le_refl _
     ·have hlt1:i - (sa + k) < m.toList.length:=by omega
      have hlt2:j - (sa + k) < m.toList.length:=by omega
      have q:=List.pairwise_iff_getElem.mp f.1 (i - (sa + k)) (j - (sa + k)) hlt1 hlt2 (by omega)
      rw [List.getElem?_eq_getElem hlt1] at z1
      rw [List.getElem?_eq_getElem hlt2] at v1
      cases z1
      cases v1
      exact q
    ·rw [z3,out j cj,← kv_at (R:=R) y3]
     have hj2:sa + na + n2 ≤ j:=by omega
     refine Int.le_trans ?_ (upB j hj2 q3)
     by_cases cz:iz < sa + na
     ·exact lastA iz (by omega) cz
     ·exact Int.le_of_lt (lowB iz (by omega) y2)
   ·rw [out i ci]
    by_cases cj:sa + k ≤ j∧j < sa + na + n2
    ·obtain ⟨v,v1,v2,v3⟩:=ins j cj.1 cj.2
     obtain ⟨iz,y1,y2,y3⟩:=hmz v v2
     rw [v3,← kv_at (R:=R) y3]
     refine Int.le_trans (lowk i q1 (by omega)) ?_
     by_cases cz:iz < sa + na
     ·exact Int.le_of_lt (upk iz y1 cz)
     ·exact upb iz (by omega) (by omega)
    ·rw [out j cj]
     by_cases c3:j < sa + na
     ·exact ua i j q1 q2 c3
     ·by_cases c4:i < sa + na
      ·exact Int.le_trans (lowk i q1 (by omega)) (upb j (by omega) q3)
      ·exact ub i j (by omega) q2 q3
 have close:∀ (m:Array Keyed) (st':SortSt),Lk (SortSt.mk' kd xs pd' mg none) st'→Fi R m.toList ((xs.extract (sa + k) (sa + na)).toList ++ (xs.extract (sa + na) (sa + na + n2)).toList) →
   Q (failedOf (SortSt.mk' (kindOf st') (jch (sa + k) (m.toList.zipIdx 0) (arrOf st')) (pendingOf st') (gallopOf st') (failedOf st'))).isNone (SortSt.mk' (kindOf st') (jch (sa + k) (m.toList.zipIdx 0) (arrOf st')) (pendingOf st') (gallopOf st') (failedOf st')):=by
  intro m st' l f
  obtain ⟨z1,z2⟩:=fini m st' l f
  show Q (failedOf st').isNone _
  rw [z2] at z1 ⊢
  exact z1
 refine jb6 (fun c=>?_) fun c=>?_
 ·exact wpS_bind (w_mLo C rfl ix iy hx hy (by omega) (by omega) p0 pl (List.Perm.refl _) fun m st' l f=>wpS_bind (wpS_modify (wpS_bind (wpS_get (wpS_pure (close m st' l f))))))
 ·exact wpS_bind (w_mHi C rfl ix iy hx hy (by omega) (by omega) p0 pl (List.Perm.refl _) fun m st' l f=>wpS_bind (wpS_modify (wpS_bind (wpS_get (wpS_pure (close m st' l f))))))
end
end So
namespace So
open PySem PyProof.Rows
def two (pd:Array (Nat × Nat × Nat)):List (Nat × Nat):=pd.toList.map fun t=>(t.1,t.2.1)
def Ch (R:Keyed→Int) (xs:Array Keyed):Nat→List (Nat × Nat)→Nat→Prop
 | p,[],q=>p = q
 | p,(s,n) :: r,q=>s = p∧1 ≤ n∧Up R xs s (s + n)∧Ch R xs (s + n) r q
section
variable {R:Keyed→Int} {xs ys:Array Keyed}
theorem Ch.app:∀ {l1 l2:List (Nat × Nat)} {p q:Nat},Ch R xs p (l1 ++ l2) q ↔ ∃ m,Ch R xs p l1 m∧Ch R xs m l2 q
 | [],l2,p,q=>⟨fun h=>⟨p,rfl,h⟩,fun ⟨m,e,h⟩=>by rw [show p = m from e]; exact h⟩
 | (s,n) :: l1,l2,p,q=>by
  show s = p∧1 ≤ n∧Up R xs s (s + n)∧Ch R xs (s + n) (l1 ++ l2) q ↔ _
  rw [Ch.app (l1:=l1)]
  exact ⟨fun ⟨a,b,c,m,d,e⟩=>⟨m,⟨a,b,c,d⟩,e⟩,fun ⟨m,⟨a,b,c,d⟩,e⟩=>⟨a,b,c,m,d,e⟩⟩
theorem Ch.le:∀ {l:List (Nat × Nat)} {p q:Nat},Ch R xs p l q→p + l.length ≤ q
 | [],p,q,h=>by rw [show p = q from h]; exact Nat.le_refl _
 | (s,n) :: l,p,q,⟨a,b,c,d⟩=>by
  have z:=Ch.le d
  rw [List.length_cons]; omega
theorem Up.like {lo hi:Nat} (u:Up R xs lo hi) (h:∀ i,lo ≤ i→i < hi→ys[i]? = xs[i]?):Up R ys lo hi:=fun i j h1 h2 h3=>by
 rw [jfz (h i h1 (by omega)),jfz (h j (by omega) h3)]
 exact u i j h1 h2 h3
theorem Ch.like:∀ {l:List (Nat × Nat)} {p q:Nat},Ch R xs p l q→(∀ i,p ≤ i→i < q→ys[i]? = xs[i]?)→Ch R ys p l q
 | [],p,q,h,_=>h
 | (s,n) :: l,p,q,⟨a,b,c,d⟩,e=>by
  have z:=Ch.le d
  exact ⟨a,b,c.like fun i h1 h2=>e i (by omega) (by omega),d.like fun i h1 h2=>e i (by omega) h2⟩
end
theorem split2 {α:Type} {l:List α} {i:Nat} (h:i + 1 < l.length):∃ P x y S,l = P ++ x :: y :: S∧P.length = i∧l[i]? = some x∧l[i + 1]? = some y:=by
 refine ⟨l.take i,l[i],l[i + 1],l.drop (i + 2),?_,by rw [List.length_take]; omega,List.getElem?_eq_getElem _,List.getElem?_eq_getElem _⟩
 rw [← List.drop_eq_getElem_cons,← List.drop_eq_getElem_cons,List.take_append_drop]
theorem mid {α:Type} {P S:List α} {x y v:α}:((P ++ x :: y :: S).set P.length v).eraseIdx (P.length + 1) = P ++ v :: S:=by
 rw [List.set_append_right _ _ (Nat.le_refl _),Nat.sub_self,List.set_cons_zero,List.eraseIdx_append_of_length_le (Nat.le_succ _),show P.length.succ - P.length = 1 by omega]
 rfl
section
variable {prog:Program} {w:World} {A:Around} {E:Value→Shared→Prop} {s:Shared} {R:Keyed→Int} {κ:SortKind} {a₀:Array Keyed} {pd:Array (Nat × Nat × Nat)}
theorem jhn (C:Cm prog w A s R κ a₀) {st:SortSt} (b:Bs κ a₀ pd st) {i lo:Nat} (ch:Ch R (arrOf st) 0 (two pd) lo) (hlo:lo ≤ a₀.size) (hi:i + 1 < pd.size) {Q:Bool→SortSt→Prop}
  (h:∀ st' pd',Bs κ a₀ pd' st'→pd'.size + 1 = pd.size→Ch R (arrOf st') 0 (two pd') lo→(∀ j,lo ≤ j→(arrOf st')[j]? = (arrOf st)[j]?)→Q true st'):wpS (model prog w) A E s (mergeAt' i) Q st:=by
 obtain ⟨P,x,y,S,e1,e2,e3,e4⟩:=split2 (l:=pd.toList) (i:=i) (by rw [Array.length_toList]; exact hi)
 obtain ⟨s1,n1,p1⟩:=x
 obtain ⟨s2,n2,p2⟩:=y
 rw [Array.getElem?_toList] at e3 e4
 unfold two at ch
 rw [e1,List.map_append,Ch.app] at ch
 obtain ⟨m,c1,c2⟩:=ch
 rw [List.map_cons,List.map_cons] at c2
 obtain ⟨z1,z2,z3,z4,z5,z6,z7⟩:=c2
 have z1':s1 = m:=z1
 have z4':s2 = s1 + n1:=z4
 subst z1' z4'
 have z5':1 ≤ n2:=z5
 have le2:=Ch.le z7
 have le2':s1 + n1 + n2 + (S.map fun t=>(t.1,t.2.1)).length ≤ lo:=le2
 have le1:=Ch.le c1
 refine jm7 C b e3 e4 z2 z5' (by omega) z3 z6 fun st' b' hout u=>h st' _ b' ?_ ?_ fun j hj=>hout j (.inr (by omega))
 ·have q:((pd.setIfInBounds i (s1,n1 + n2,p1)).eraseIdxIfInBounds (i + 1)).toList.length + 1 = pd.toList.length:=by
   rw [Array.toList_eraseIdxIfInBounds,Array.toList_setIfInBounds,e1,← e2,mid]
   simp only [List.length_append,List.length_cons]
   omega
  rwa [Array.length_toList,Array.length_toList] at q
 ·unfold two
  rw [Array.toList_eraseIdxIfInBounds,Array.toList_setIfInBounds,e1,← e2,mid,List.map_append,Ch.app]
  refine ⟨s1,c1.like fun k q1 q2=>hout k (.inl q2),rfl,by show 1 ≤ n1 + n2; omega,?_,?_⟩
  ·show Up R (arrOf st') s1 (s1 + (n1 + n2))
   rw [← Nat.add_assoc]; exact u
  ·show Ch R (arrOf st') (s1 + (n1 + n2)) _ lo
   rw [← Nat.add_assoc]
   exact z7.like fun k q1 q2=>hout k (.inr q1)
theorem jpf (x:Nat × Nat × Nat):two (pd.push x) = two pd ++ [(x.1,x.2.1)]:=by
 unfold two; rw [Array.toList_push,List.map_append]; rfl
theorem jrs (i p:Nat):two (pd.modify i fun x=>match x with | (a,n,_)=>(a,n,p)) = two pd:=by
 unfold two
 rw [Array.toList_modify]
 apply List.ext_getElem?
 intro j
 rw [List.getElem?_map,List.getElem?_map,List.getElem?_modify]
 cases pd.toList[j]? with
 | none=>rfl
 | some t =>
  obtain ⟨a,n,q⟩:=t
  by_cases c:i = j <;> simp [c]
theorem w_sort (C:Cm prog w A s R κ a₀) {st:SortSt} (b:Bs κ a₀ #[] st) (h1:1 ≤ a₀.size) {Q:Unit→SortSt→Prop}
  (h:∀ st',(arrOf st').Perm a₀→failedOf st' = none→Up R (arrOf st') 0 a₀.size→Q () st'):wpS (model prog w) A E s sortRuns' Q st:=by
 have pn:∀ {st:SortSt} {pd:Array (Nat × Nat × Nat)},Bs κ a₀ pd st→(sortPriv% PySem.Builtin.SortState.pending) st = pd:=fun b=>b.pend
 have sz:(sortPriv% PySem.Builtin.SortState.a) st = arrOf st:=rfl
 unfold sortRuns'
 refine wpS_bind (wpS_get ?_)
 rw [sz,b.size]
 refine wpS_bind (wpS_mono (wpS_forRange (I:=fun x (c:Option Unit × Nat) st'=>∃ lo pd,c = (none,lo)∧Bs κ a₀ pd st'∧Ch R (arrOf st') 0 (two pd) lo∧lo ≤ a₀.size∧min x a₀.size ≤ lo)
  (Q:=fun (c:Option Unit × Nat) st'=>∃ pd,c = (none,a₀.size)∧Bs κ a₀ pd st'∧Ch R (arrOf st') 0 (two pd) a₀.size) ?step ?fin ⟨0,#[],rfl,b,rfl,Nat.zero_le _,by omega⟩) ?post)
 case fin =>
  rintro c st' ⟨lo,pd,rfl,b',ch,q1,q2⟩
  have e:lo = a₀.size:=by omega
  subst e
  exact ⟨pd,rfl,b',ch⟩
 case post =>
  rintro c st' ⟨pd,rfl,b',ch⟩
  refine wpS_bind (wpS_mono (wpS_forRange (I:=fun x (c:Option Unit × Unit) st'=>∃ pd,c = (none,())∧Bs κ a₀ pd st'∧Ch R (arrOf st') 0 (two pd) a₀.size∧(pd.size + x ≤ a₀.size ∨ pd.size ≤ 1))
   (Q:=fun (c:Option Unit × Unit) st'=>∃ pd,c = (none,())∧Bs κ a₀ pd st'∧Ch R (arrOf st') 0 (two pd) a₀.size∧pd.size ≤ 1) ?s2 ?f2 ⟨pd,rfl,b',ch,?_⟩) ?p2)
  case f2 =>
   rintro c st2 ⟨pd,rfl,b2,ch2,q⟩
   exact ⟨pd,rfl,b2,ch2,by omega⟩
  case p2 =>
   rintro c st2 ⟨pd,rfl,b2,ch2,q⟩
   refine wpS_pure (h st2 b2.perm b2.ok ?_)
   match hl:two pd,ch2 with
   | [],e=>exact absurd (show 0 = a₀.size from e) (by omega)
   | [(p1,n1)],⟨e1,e2,e3,e4⟩ =>
    have e1':p1 = 0:=e1
    have e4':p1 + n1 = a₀.size:=e4
    rw [e4'] at e3
    rw [e1'] at e3
    exact e3
   | x :: y :: r,_ =>
    have z:(two pd).length = pd.size:=by unfold two; rw [List.length_map,Array.length_toList]
    rw [hl,List.length_cons,List.length_cons] at z
    omega
  case s2 =>
   rintro x c st2 _ hx ⟨pd,rfl,b2,ch2,q⟩
   refine wpS_bind (wpS_get ?_)
   rw [pn b2]
   refine jb6 (fun c=>wpS_pure ⟨pd,rfl,b2,ch2,c⟩) fun c=>?_
   refine wpS_bind (jhn C b2 ch2 (Nat.le_refl _) ?_ fun st3 pd3 b3 q3 ch3 _=>?_)
   ·exact (fun (c:Prop) [Decidable c]=>(by split <;> omega:(if c then pd.size - 2 - 1 else pd.size - 2) + 1 < pd.size)) _
   ·exact jb6 (fun c=>by cases c) fun _=>wpS_pure ⟨pd3,rfl,b3,ch3,by omega⟩
  ·have z:=Ch.le ch
   unfold two at z
   rw [List.length_map,Array.length_toList] at z
   omega
 case step =>
  rintro x c st' _ hx ⟨lo,pd,rfl,b',ch,q1,q2⟩
  refine jb6 (fun c=>?_) fun c=>?_
  ·have e:lo = a₀.size:=by
    have c':lo ≥ a₀.size:=c
    omega
   subst e
   exact wpS_pure ⟨pd,rfl,b',ch⟩
  have c':lo < a₀.size:=Nat.lt_of_not_le c
  refine wpS_bind (jrr (lo:=lo) (nrem:=a₀.size - lo) C (by omega) (by omega) b' fun m st2 b2 f2 m1 m2 u2=>?_)
  have ch2:Ch R (arrOf st2) 0 (two pd) lo:=ch.like fun i _ hi=>f2 i hi
  have push:∀ (n:Nat) (st4:SortSt) (pd4:Array (Nat × Nat × Nat)),Bs κ a₀ pd4 st4→Ch R (arrOf st4) 0 (two pd4) lo→Up R (arrOf st4) lo (lo + n)→1 ≤ n→lo + n ≤ a₀.size →
    ∃ lo' pd',((none,lo + n):Option Unit × Nat) = (none,lo')∧Bs κ a₀ pd' (SortSt.mk' (kindOf st4) (arrOf st4) ((pendingOf st4).push (lo,n,0)) (gallopOf st4) (failedOf st4))∧Ch R (arrOf st4) 0 (two pd') lo'∧lo' ≤ a₀.size∧min (x + 1) a₀.size ≤ lo':=by
   intro n st4 pd4 b4 ch4 u4 n1 n2
   refine ⟨lo + n,pd4.push (lo,n,0),rfl,⟨b4.perm,b4.kind,b4.ok,?_⟩,?_,n2,by omega⟩
   ·show (pendingOf st4).push (lo,n,0) = _
    rw [b4.pend]
   ·rw [jpf,Ch.app]
    exact ⟨lo,ch4,rfl,n1,u4,rfl⟩
  refine jb6 (fun cm=>?_) fun cm=>?_
  case' refine_1 =>
   refine wpS_bind (wpS_lift (wpAny_rule ⟨rfl,?_⟩))
   refine wpS_bind (w_ins (lo:=lo) (n:=min (a₀.size - lo) (minRun' a₀.size a₀.size 0)) (ok:=m) C (by omega) (by
    have cm':m < minRun' a₀.size a₀.size 0:=cm
    omega) b2 u2 fun st3 b3 f3 u3=>?_)
   refine jb6 (fun c=>by cases c) fun _=>?_
   have ch3:Ch R (arrOf st3) 0 (two pd) lo:=ch2.like fun i _ hi=>f3 i hi
   have n1:1 ≤ min (a₀.size - lo) (minRun' a₀.size a₀.size 0):=by
    have cm':m < minRun' a₀.size a₀.size 0:=cm
    omega
   have n2:lo + min (a₀.size - lo) (minRun' a₀.size a₀.size 0) ≤ a₀.size:=by omega
   obtain ⟨n,hn⟩:∃ n,n = min (a₀.size - lo) (minRun' a₀.size a₀.size 0):=⟨_,rfl⟩
  case' refine_2 =>
   have ch3:=ch2
   have b3:=b2
   have u3:=u2
   have n1:=m1
   have n2:lo + m ≤ a₀.size:=by omega
   obtain ⟨n,hn⟩:∃ n,n = m:=⟨_,rfl⟩
  all_goals
   refine wpS_bind (wpS_get ?_)
   rw [pn b3]
   cases hb:pd.back? with
   | none=>exact wpS_bind (wpS_modify (wpS_pure (push _ _ _ b3 ch3 u3 n1 n2)))
   | some t =>
    obtain ⟨s1,k1,p1⟩:=t
    rw [← hn] at u3
    refine wpS_bind (wpS_mono (wpS_forRange (I:=fun y (c:Option Unit × Unit) st4=>c = (none,())∧∃ pd4,Bs κ a₀ pd4 st4∧Ch R (arrOf st4) 0 (two pd4) lo∧Up R (arrOf st4) lo (lo + n))
     (Q:=fun (c:Option Unit × Unit) st4=>c = (none,())∧∃ pd4,Bs κ a₀ pd4 st4∧Ch R (arrOf st4) 0 (two pd4) lo∧Up R (arrOf st4) lo (lo + n)) ?s4 (fun _ _ z=>z) ⟨rfl,pd,b3,ch3,u3⟩) ?p4)
    case s4 =>
     rintro y c st4 _ hy ⟨rfl,pd4,b4,ch4,u4⟩
     refine wpS_bind (wpS_get ?_)
     rw [pn b4]
     dsimp only
     by_cases c4:pd4.size > 1
     ·have e:(if pd4.size > 1 then pd4[pd4.size - 2]? else none) = some (pd4[pd4.size - 2]'(by omega)):=by rw [if_pos c4]; exact getElem?_pos _ _ (by omega)
      rw [e]
      obtain ⟨v1,v2,v3⟩:=pd4[pd4.size - 2]'(by omega)
      refine jb6 (fun _=>wpS_pure ⟨rfl,pd4,b4,ch4,u4⟩) fun _=>?_
      refine wpS_bind (jhn C b4 ch4 (by omega) (by omega) fun st5 pd5 b5 _ ch5 o5=>?_)
      exact jb6 (fun c=>by cases c) fun _=>wpS_pure ⟨rfl,pd5,b5,ch5,u4.like fun i h1 _=>o5 i h1⟩
     ·rw [if_neg c4]
      exact wpS_pure ⟨rfl,pd4,b4,ch4,u4⟩
    case p4 =>
     rintro c st4 ⟨rfl,pd4,b4,ch4,u4⟩
     rw [hn] at u4
     refine wpS_bind (wpS_modify (wpS_bind (wpS_modify (wpS_pure ?_))))
     refine push _ _ _ ⟨b4.perm,b4.kind,b4.ok,rfl⟩ ?_ u4 n1 n2
     refine (congrArg (fun z=>Ch R (arrOf st4) 0 z lo) (jrs (pd:=pendingOf st4) _ _)).mpr ?_
     rw [b4.pend]
     exact ch4
end
end So
namespace So
open PySem PyProof.Rows
section
variable {prog:Program} {w:World} {A:Around} {E:Value→Shared→Prop} {s:Shared}
theorem jjy (vs:List Value):vs.zip vs = vs.map fun v=>(v,v):=by
 induction vs with
 | nil=>rfl
 | cons v vs ih=>rw [List.zip_cons_cons,ih,List.map_cons]
theorem Up.all {R:Keyed→Int} {xs:Array Keyed} (u:Up R xs 0 xs.size):xs.toList.Pairwise (Le R):=by
 rw [List.pairwise_iff_getElem]
 intro i j hi hj hij
 rw [Array.length_toList] at hi hj
 exact u.le (getElem?_pos xs i hi) (getElem?_pos xs j hj) (Nat.le_of_lt hij)
theorem out_of {R:Keyed→Int} {vs:List Value} {xs:Array Keyed} (p:xs.Perm (pairsOf vs)) (u:Up R xs 0 xs.size):(xs.map (·.2)).toList.Perm vs∧(xs.map (·.2)).toList.Pairwise fun a b=>R (a,a) ≤ R (b,b):=by
 have hp:xs.toList.Perm (vs.map fun v=>(v,v)):=by rw [← jjy,← pairsOf_toList]; exact Array.perm_iff_toList_perm.mp p
 rw [Array.toList_map]
 refine ⟨?_,?_⟩
 ·have z:=hp.map (·.2)
  rw [List.map_map] at z
  have e:vs.map ((fun x:Keyed=>x.2) ∘ fun v=>(v,v)) = vs:=by
   rw [show ((fun x:Keyed=>x.2) ∘ fun v=>(v,v)) = id from rfl,List.map_id]
  rwa [e] at z
 ·rw [List.pairwise_map]
  refine List.Pairwise.imp_of_mem ?_ u.all
  intro a b ha hb hab
  obtain ⟨v,_,rfl⟩:=List.mem_map.mp (hp.mem_iff.mp ha)
  obtain ⟨u',_,rfl⟩:=List.mem_map.mp (hp.mem_iff.mp hb)
  exact hab
def Asks (prog:Program) (w:World) (s:Shared) (vs:List Value) (R:Keyed→Int) (κ:SortKind):Prop :=
 ∀ (A:Around) (h':Heap),(∀ b o,s.heap.get? b = some o→h'.get? b = some o) →
  (∀ (Q:SortKind→Shared→Prop) (E:Value→Shared→Prop),Q κ { s with heap:=h' }→wpAny (model prog w) A (keyKind' vs.toArray) Q E { s with heap:=h' })∧Cm prog w A { s with heap:=h' } R κ (pairsOf vs)
theorem js1 {a:Addr} {vs:List Value} {n:Nat} {P:PySem.Fin→Shared→Prop} {R:Keyed→Int} {κ:SortKind} {h₁:Heap} (ho:s.heap.get? a = some (seqObj "list" vs.toArray n)) (hz:vs.length ≤ sizeLine)
  (hold:∀ b o,h₁.get? b = some o→b ≠ a∧s.heap.get? b = some o) (hk:2 ≤ vs.length→Asks prog w { s with heap:=h₁ } vs R κ)
  (h:∀ out:Array Value,out.toList.Perm vs→out.toList.Pairwise (fun a b=>R (a,a) ≤ R (b,b))→P (.done (.ret .none)) { s with heap:=sortedHeap s.heap a vs out }) :
  wpAny (model prog w) A (Builtin.«list.sort» ⟨[.ref a],[]⟩) P E s:=by
 rw [list_sort_plain]
 have ha:a < s.heap.objs.size:=Heap.lt_size ho
 have hz1:vs.toArray.size ≤ sizeLine:=by rw [List.size_toArray]; exact hz
 refine wpAny_bind (listItems_at ho rfl (wpAny_bind (listUpdate_at ho rfl ?_ hz1 (Nat.zero_le _))))
 obtain ⟨e1,ho1⟩:∃ e1,(s.heap.update a (Obj.mapSeq fun _=>(#[]:Array Value))).get? a = some (seqObj "list" #[] e1):=⟨_,get?_update_seq ho fun _=>#[]⟩
 refine wpAny_bind (seqEpoch_at ho1 rfl (wpAny_bind (wpAny_newTuple (wpAny_bind (wpAny_newList (wpAny_holding ?_) (Nat.zero_le _))) hz)))
 have keep:∀ b o,b ≠ a→s.heap.get? b = some o→(((s.heap.update a (Obj.mapSeq fun _=>(#[]:Array Value))).push (seqObj "tuple" vs.toArray 0)).push (seqObj "list" #[] 0)).get? b = some o:=fun b o hne q =>
  Heap.get?_push_of_some _ (Heap.get?_push_of_some _ (by rw [Heap.get?_update_ne _ _ _ _ hne]; exact q))
 have ho6:(((s.heap.update a (Obj.mapSeq fun _=>(#[]:Array Value))).push (seqObj "tuple" vs.toArray 0)).push (seqObj "list" #[] 0)).get? a = some (seqObj "list" #[] e1):=Heap.get?_push_of_some _ (Heap.get?_push_of_some _ ho1)
 show wpAny (model prog w) A _ P E { s with heap:=((s.heap.update a (Obj.mapSeq fun _=>(#[]:Array Value))).push (seqObj "tuple" vs.toArray 0)).push (seqObj "list" #[] 0) }
 dsimp only
 have fin:∀ st':SortSt,(arrOf st').Perm (pairsOf vs)→Up R (arrOf st') 0 (arrOf st').size→P (.done (.ret .none)) { s with heap:=sortedHeap s.heap a vs ((arrOf st').map (·.2)) }:=fun st' p u=>by
  obtain ⟨z1,z2⟩:=out_of p u
  exact h _ z1 z2
 by_cases c2:vs.toArray.size < 2
 ·rw [if_pos c2,if_pos c2]
  refine wpAny_bind (wpAny_pure ?_)
  rw [StateT.run_pure]
  refine wpAny_bind (wpAny_pure (wpAny_bind (seqEpoch_at ho6 rfl (wpAny_bind (listUpdate_at ho6 rfl ?_ (Nat.zero_le _) (by rw [Array.size_map]; show (pairsOf vs).size ≤ _; rw [pairsOf_size]; exact Nat.le_succ_of_le hz))))))
  simp only [bne_self_eq_false,Bool.false_eq_true,if_false]
  refine wpAny_pure (fin (SortSt.mk' general' (vs.toArray.zip vs.toArray) #[] 7 none) (Array.Perm.refl _) (Up.one ?_))
  show (pairsOf vs).size ≤ 1
  rw [pairsOf_size]
  rw [List.size_toArray] at c2
  omega
 ·rw [if_neg c2,if_neg c2]
  rw [List.size_toArray] at c2
  obtain ⟨k1,k2⟩:=hk (by omega) A _ fun b o q=>keep b o (hold b o q).1 (hold b o q).2
  refine wpAny_bind (k1 _ _ ?_)
  have k3:=w_sort (E:=E) (st:=SortSt.mk' κ (pairsOf vs) #[] 7 none) (Q:=fun _ st'=>(arrOf st').Perm (pairsOf vs)∧failedOf st' = none∧Up R (arrOf st') 0 (pairsOf vs).size) k2 ⟨Array.Perm.refl _,rfl,rfl,rfl⟩ (by rw [pairsOf_size]; omega) fun st' a1 a2 a3=>⟨a1,a2,a3⟩
  refine wpAny_bind (wpAny_mono k3 ?_ fun _ _ e=>e)
  rintro ⟨⟨⟩,st'⟩ s' ⟨rfl,hp,hf,hs⟩
  dsimp only
  refine wpAny_bind (seqEpoch_at ho6 rfl (wpAny_bind (listUpdate_at ho6 rfl ?_ (Nat.zero_le _) (by refine Nat.le_trans (Nat.le_of_eq ((Array.size_map ..).trans (hp.size_eq.trans (pairsOf_size _)))) (Nat.le_succ_of_le hz)))))
  rw [hf]
  simp only [bne_self_eq_false,Bool.false_eq_true,if_false]
  rw [← hp.size_eq] at hs
  exact wpAny_pure (fin st' hp hs)
theorem jn0 {l:Addr} {vs:List Value} {Q:Value→Shared→Prop} {R:Keyed→Int} {κ:SortKind} (hl:s.heap.IsList l vs.toArray) (hz:vs.length ≤ sizeLine) (hk:2 ≤ vs.length→Asks prog w s vs R κ)
  (h:∀ out:Array Value,out.toList.Perm vs→out.toList.Pairwise (fun a b=>R (a,a) ≤ R (b,b))→Q (.ref (s.heap.objs.size + 1)) { s with heap:=sortedAll s.heap vs out }) :
  wpAny (model prog w) A (call (.builtin "sorted") [.ref l]) Q E s:=by
 refine Calls.call_function_entry kind_sorted plain_sorted entry_sorted (args_sorted1 _) ?_
 unfold Builtin.«sorted»
 refine wpAny_bind (m:=checkCount "sorted" 1 1 _) (wpAny_pure (wpAny_bind (collect_list hl (wpAny_bind (wpAny_newList ?_ hz)) hz)))
 have hsz:((s.heap.push (seqObj "list" #[] 0)).update s.heap.objs.size (Obj.mapSeq (· ++ vs.toArray))).objs.size = s.heap.objs.size + 1:=by rw [Heap.size_update,size_push']
 generalize hh:((s.heap.push (seqObj "list" #[] 0)).update s.heap.objs.size (Obj.mapSeq (· ++ vs.toArray))).push (seqObj "list" vs.toArray 0) = h2
 have hoL:h2.get? (s.heap.objs.size + 1) = some (seqObj "list" vs.toArray 0):=by rw [← hh,← hsz]; exact Heap.get?_push_size _ rfl
 have keep:∀ b o,s.heap.get? b = some o→b ≠ s.heap.objs.size + 1∧h2.get? b = some o:=fun b o q=>by
  have hlt:b < s.heap.objs.size:=Heap.lt_size q
  refine ⟨Nat.ne_of_lt (Nat.lt_succ_of_lt hlt),?_⟩
  rw [← hh]
  exact Heap.get?_push_of_some _ (by rw [Heap.get?_update_ne _ _ _ _ (Nat.ne_of_lt hlt)]; exact Heap.get?_push_of_some _ q)
 show wpAny _ _ _ _ _ { s with heap:=h2 }
 rw [hsz]
 refine wpAny_bind (wpAny_holding (wpAny_call_entry slot_list_sort ⟨_,hoL,rfl⟩ entry_list_sort (js1 (s:={ s with heap:=h2 }) (h₁:=s.heap) hoL hz keep hk fun out p1 p2=>⟨_,rfl,?_⟩) (args_list_sort _)))
 refine wpAny_pure ⟨_,rfl,?_⟩
 have z:=h out p1 p2
 unfold sortedAll at z
 rw [hh] at z
 exact z
def PairAt (h:Heap) (v:Value) (x y:Int):Prop:=∃ a o t u n,v = .ref a∧h.get? a = some o∧o.cls = .type "tuple"∧o.data = .seq #[.int x t,.int y u] n
theorem jii {h:Heap}:∀ {vs:List Value},(∀ v ∈ vs,∃ x y,PairAt h v x y)→∃ fs,PySem.W.KatTups h vs fs∧fs.length = vs.length∧∀ f ∈ fs,∃ i t,f = .int i t
 | [],_=>⟨[],trivial,rfl,fun _ q=>by cases q⟩
 | v :: vs,hv=>by
  obtain ⟨fs,h1,h2,h3⟩:=jii (vs:=vs) fun v m=>hv v (.tail _ m)
  obtain ⟨x,y,a,o,t,u,n,rfl,e1,e2,e3⟩:=hv v (.head _)
  refine ⟨.int x t :: fs,.cons e1 e2 e3 rfl h1,by rw [List.length_cons,List.length_cons,h2],fun f m=>?_⟩
  rcases List.mem_cons.mp m with rfl | m
  ·exact ⟨x,t,rfl⟩
  ·exact h3 f m
theorem jo3 {B x y x' y':Int} (h1:0 ≤ y) (h2:y < B) (h3:0 ≤ y') (h4:y' < B):x * B + y < x' * B + y' ↔ x < x' ∨ (x = x'∧y < y'):=by
 constructor
 ·intro h
  rcases Int.lt_trichotomy x x' with c | c | c
  ·exact .inl c
  ·subst c; exact .inr ⟨rfl,by omega⟩
  ·exfalso
   have q:(x' + 1) * B ≤ x * B:=Int.mul_le_mul_of_nonneg_right (by omega) (by omega)
   rw [Int.add_mul,Int.one_mul] at q
   omega
 ·rintro (c | ⟨rfl,c⟩)
  ·have q:(x + 1) * B ≤ x' * B:=Int.mul_le_mul_of_nonneg_right (by omega) (by omega)
   rw [Int.add_mul,Int.one_mul] at q
   omega
  ·omega
theorem jlz {vs:List Value} {R:Keyed→Int} {B:Int} (hv:∀ v ∈ vs,∃ x y,PairAt s.heap v x y∧R (v,v) = x * B + y∧0 ≤ y∧y < B) (h2:2 ≤ vs.length):Asks prog w s vs R (tuples' true):=by
 intro A h' keep
 refine ⟨fun Q E q=>?_,fun x y hx hy Q E q=>?_⟩
 ·obtain ⟨fs,k1,k2,k3⟩:=jii (h:=h') (vs:=vs) fun v m=>by
   obtain ⟨x,y,⟨a,o,t,u,n,e0,e1,e2⟩,_⟩:=hv v m
   exact ⟨x,y,a,o,t,u,n,e0,keep _ _ e1,e2⟩
  refine PySem.W.kat_kind (T:=.type "int") k1 (by omega) (fun f m=>?_) rfl q
  obtain ⟨i,t,rfl⟩:=k3 f m
  exact PySem.W.Looks.of_pure rfl
 ·rw [pairsOf_toList,jjy] at hx hy
  obtain ⟨v,mv,rfl⟩:=List.mem_map.mp hx
  obtain ⟨u,mu,rfl⟩:=List.mem_map.mp hy
  obtain ⟨x1,y1,⟨a,o,t1,t2,n,rfl,e1,e2,e3⟩,r1,r2,r3⟩:=hv v mv
  obtain ⟨x2,y2,⟨b,p,t3,t4,m,rfl,e4,e5,e6⟩,r4,r5,r6⟩:=hv u mu
  rw [r1,r4] at q
  have lx:=jo3 (x:=x1) (x':=x2) r2 r3 r5 r6
  refine PySem.W.kat_lt (b:=true) (s:={ s with heap:=h' }) (keep _ _ e1) e3 (keep _ _ e4) e6 ?_
  refine PySem.W.kat_cons (wpAny_eqBool_int ?_)
  by_cases c:x1 = x2
  ·rw [show (x1 == x2) = true by rw [c]; exact beq_self_eq_true _]
   refine PySem.W.kat_yes (PySem.W.kat_cons (wpAny_eqBool_int ?_))
   by_cases c2:y1 = y2
   ·rw [show (y1 == y2) = true by rw [c2]; exact beq_self_eq_true _]
    refine PySem.W.kat_yes (PySem.W.kat_nil ?_)
    rw [show decide (x1 * B + y1 < x2 * B + y2) = false by rw [decide_eq_false_iff_not,lx]; omega] at q
    exact q
   ·rw [show (y1 == y2) = false by rw [beq_eq_false_iff_ne]; exact c2]
    refine PySem.W.kat_no (PySem.W.kat_one _ _ (lt_int ?_))
    rw [show decide (x1 * B + y1 < x2 * B + y2) = decide (y1 < y2) by rw [decide_eq_decide,lx]; omega] at q
    exact q
  ·rw [show (x1 == x2) = false by rw [beq_eq_false_iff_ne]; exact c]
   refine PySem.W.kat_no (oneLt_int ?_)
   rw [show decide (x1 * B + y1 < x2 * B + y2) = decide (x1 < x2) by rw [decide_eq_decide,lx]; omega] at q
   exact q
end
end So
namespace L2
open PySem PySem.Spec PyProof.Rows
def jq6 (a b:Int × Int):Prop:=a.1 < b.1 ∨ (a.1 = b.1∧a.2 ≤ b.2)
def pvOf (H:Hp):Value→Int × Int
 | .ref a=>match H a with
  | some (.tup [.int x,.int y])=>(x,y)
  | _=>(0,0)
 | _=>(0,0)
def tvOf:Value→V
 | .ref a=>.ref a
 | _=>.non
def rSortP:List V→Hp→VK→Prop:=fun vs H Q=>∃ (p:Addr) (xs:List V) (ps:List (Int × Int)) (B:Int),vs = [.ref p]∧H p = some (.lst xs)∧Prs H xs ps∧xs.length ≤ 1000∧(∀ q ∈ ps,0 ≤ q.2∧q.2 < B) ∧
 ∀ (l:Addr) (ys:List V) (qs:List (Int × Int)),H l = none→Prs H ys qs→qs.Perm ps→qs.Pairwise jq6→Q (.ref l) (upd H l (.lst ys))
theorem jm9 {H:Hp}:∀ {xs:List V} {its:List Value} {ps:List (Int × Int)},Vals xs its→Prs H xs ps→its.map (pvOf H) = ps∧∀ v ∈ its,RelV (tvOf v) v∧Pr H (tvOf v) (pvOf H v)
 | _,_,_,.nil,.nil=>⟨rfl,fun _ m=>by cases m⟩
 | _,_,_,.cons r t,.cons q u=>by
  obtain ⟨e1,e2⟩:=jm9 t u
  obtain ⟨a,rfl,ea⟩:=q
  cases r
  rename_i b _
  have e:pvOf H (.ref a) = b:=by unfold pvOf; dsimp only; rw [ea]
  refine ⟨?_,fun v m=>?_⟩
  ·rw [List.map_cons,e1,e]
  ·rcases List.mem_cons.mp m with rfl | m
   ·rw [e]; exact ⟨rfl,a,rfl,ea⟩
   ·exact e2 v m
theorem jp5 {H:Hp}:∀ {us:List Value},(∀ v ∈ us,RelV (tvOf v) v∧Pr H (tvOf v) (pvOf H v))→Vals (us.map tvOf) us∧Prs H (us.map tvOf) (us.map (pvOf H))
 | [],_=>⟨.nil,.nil⟩
 | v :: us,h=>by
  obtain ⟨a,b⟩:=jp5 (us:=us) fun v m=>h v (.tail _ m)
  obtain ⟨c,d⟩:=h v (.head _)
  exact ⟨.cons c a,.cons d b⟩
theorem jlw {X:Cx}:jc7 X (.builtin "sorted") rSortP:=by
 intro pins s σ H xs us Q I r h
 obtain ⟨p,xs,ps,B,rfl,e,pp,hz,hB,q⟩:=h
 obtain ⟨u,rfl,rx⟩:=jlc r
 cases rx
 obtain ⟨its,r',pl,_⟩:=I.list (SqL.of e)
 have hlen:=r'.length
 obtain ⟨m1,m2⟩:=jm9 r' pp
 have hz2:(1000:Nat) ≤ sizeLine:=by decide
 have hpv:∀ v ∈ its,pvOf H v ∈ ps:=fun v m=>by rw [← m1]; exact List.mem_map_of_mem m
 refine So.jn0 (R:=fun k=>(pvOf H k.1).1 * B + (pvOf H k.1).2) pl.isList (by omega) (fun h2=>So.jlz (B:=B) (fun v m=>?_) h2) fun out o1 o2=>?_
 ·obtain ⟨a,ea,eh⟩:=(m2 v m).2
  have ev:v = .ref a:=by
   have z:=(m2 v m).1
   rw [ea] at z
   exact z
  obtain ⟨_,is2,rv,ob,eo,ec,n,en⟩:=I.hok _ _ eh
  match is2,rv with
  | _,.cons ⟨t1,e1⟩ (.cons ⟨t2,e2⟩ .nil) =>
   subst e1 e2
   exact ⟨(pvOf H v).1,(pvOf H v).2,⟨a,ob,t1,t2,n,ev,eo,ec,en⟩,rfl,hB _ (hpv v m)⟩
 ·obtain ⟨c,hc⟩:=sortedAll_at s.heap its out
  obtain ⟨b1,b2⟩:=jp5 (H:=H) (us:=out.toList) fun v m=>m2 v (o1.mem_iff.mp m)
  have hol:=o1.length_eq
  refine ⟨.ref (s.heap.objs.size + 1),_,I.laid (t':=s.toks) (fun _ _=>sortedAll_old) (Nat.le_succ _) (show jbb X.prog X.w _ _ _ (.lst (out.toList.map tvOf)) from ⟨?_,out.toList,c,b1,?_⟩),rfl,q _ _ (out.toList.map (pvOf H)) (I.hok.fresh (Nat.le_succ _)) b2 ?_ ?_⟩
  ·rw [List.length_map]; omega
  ·rw [hc]
  ·have z:=o1.map (pvOf H)
   rwa [m1] at z
  ·rw [List.pairwise_map]
   refine List.Pairwise.imp_of_mem ?_ o2
   intro u v mu mv huv
   have g1:=hB _ (hpv u (o1.mem_iff.mp mu))
   have g2:=hB _ (hpv v (o1.mem_iff.mp mv))
   have z:=So.jo3 (x:=(pvOf H v).1) (x':=(pvOf H u).1) g2.1 g2.2 g1.1 g1.2
   have z2:¬ ((pvOf H v).1 < (pvOf H u).1 ∨ ((pvOf H v).1 = (pvOf H u).1∧(pvOf H v).2 < (pvOf H u).2)):=fun w=>by
    have:=z.mpr w
    dsimp only at huv
    omega
   unfold jq6
   omega
end L2
namespace L2
open PySem PySem.Spec PyProof.Rows
def rSum:List V→Hp→VK→Prop:=fun vs H Q=>∃ (p:Addr) (ns:List Int),vs = [.ref p]∧H p = some (.lst (ns.map V.int))∧Q (.int ns.sum) H
theorem q_sum {X:Cx} (hc:X.calm = true):jc7 X (.builtin "sum") rSum:=by
 intro pins s σ H xs us Q I r h
 obtain ⟨p,ns,rfl,e,q⟩:=h
 obtain ⟨u,rfl,rx⟩:=jlc r
 cases rx
 obtain ⟨its,r',pl,_⟩:=I.list (SqL.of e)
 have hI:=jc0 r'
 obtain ⟨zs,hz⟩:=hI.allInts.items
 have hn:=hI.numsOf
 have hl:=pl.isList
 rw [hz] at hl
 refine sum_intListG (I.ok.hd hc) hl fun h' tk t' hk=>?_
 have e2:preSum (numAt zs) zs.size = ns.sum:=by
  rw [preSum_eq,List.take_of_length_le (by simp),← hn,← nums_intItems,← hz]
 rw [e2]
 exact ⟨.int ns.sum,H,I.kept hk,⟨t',rfl⟩,q⟩
def fIsB (f:Bool→Bool):R2:=fun x y H Q=>match x,y with
 | .bl a,.bl b=>Q (.bl (f (a == b))) H
 | _,_=>False
end L2
namespace L2
open PySem PySem.Spec PyProof.Rows
def Itd (d:Addr) (o:Obj) (kvs:List (Key × V)):It :=
 ⟨fun i H=>H d = some (.frz o (.dK kvs))∧i < kvs.length,fun i H x H'=>H' = H∧∃ kv,kvs[i]? = some kv∧x = kV kv.1,fun i H=>H d = some (.frz o (.dK kvs))∧kvs.length ≤ i⟩
theorem jke {k:Key} {v:Value} (h:jie k v = true):RelV (kV k) v:=by
 rcases jaz h with ⟨i,t,rfl,rfl⟩ | ⟨x,t,rfl,rfl⟩
 ·exact ⟨t,rfl⟩
 ·exact ⟨t,rfl⟩
theorem kv_at {kvs:List (Key × V)} {vs:List (Key × Value)} (r:KV kvs vs) {i:Nat} {k:Key} {x:Value} (e:vs[i]? = some (k,x)):∃ kv,kvs[i]? = some kv∧kv.1 = k:=by
 obtain ⟨kv,e1,e2⟩:=jbf r e
 exact ⟨kv,e1,e2.1⟩
theorem jhr {P:Program} {w:World} {K:PySem.W.Frag} {tg:Expr} (d it:Addr) (o:Obj) (kvs:List (Key × V)) (vs:List (Key × Value)) (ep:Nat) (hne:d ≠ it) (rk:KV kvs vs)
  (hD:∀ h:Heap,h.get? d = some o→h.DictAt (jax P w) d vs ep):Turn P w K tg (Itd d o kvs) [it] it (fun i h=>h.IsKeyIter it d i vs.length ep) where
 mem:=by simp
 obj:=fun i h st b hb=>by
  have e:b = it:=by simpa using hb
  subst e
  obtain ⟨o,e,c,d⟩:=st
  exact ⟨o,e,fun v z=>by rw [d] at z; cases z⟩
 keep:=fun i h h' st k=>st.at fun o e=>k it (by simp) o e
 item:=by
  intro X hP hw hK hc i pins s σ H E I hf st hg
  subst hP hw hK
  obtain ⟨hq,hx⟩:=hg
  obtain ⟨eo,_⟩:=(show s.heap.get? d = some o∧_ from I.hok _ _ hq)
  have hl:=rk.length
  obtain ⟨⟨k,x⟩,hx'⟩:∃ p,vs[i]? = some p:=⟨vs[i]'(by omega),List.getElem?_eq_getElem _⟩
  obtain ⟨f0,f1,f2,f3,f4,f5⟩:=hf it (by simp)
  refine wpAny_pyNext_dict_item st (hD _ eo) hx' fun key h' hkey st' sb=>?_
  have I1:Inv X pins σ H { s with heap:=h' }:=I.turned (t':=s.toks) (fun b o hb e=>(sb.2 b hb).trans e) f0 f1 f3 f4 f5
  obtain ⟨kv,e1,e2⟩:=kv_at rk hx'
  obtain ⟨o',e,c,dd⟩:=id st'
  exact ⟨key,rfl,jls (s:={ s with heap:=h' }) e c dd (by decide) ⟨kV k,H,I1,jke hkey,⟨rfl,kv,e1,by rw [e2]⟩,st',fun b hb=>(hf b hb).1⟩⟩
 done:=by
  intro X hP hw hK hc i pins s σ H E I hf st hg
  subst hP hw hK
  obtain ⟨hq,hx⟩:=hg
  obtain ⟨eo,_⟩:=(show s.heap.get? d = some o∧_ from I.hok _ _ hq)
  have hl:=rk.length
  obtain ⟨f0,f1,f2,f3,f4,f5⟩:=hf it (by simp)
  exact wpAny_pyNext_dict_end (I.ok.hd hc) st (hD _ eo) (List.getElem?_eq_none_iff.mpr (by omega)) fun h' eb=>⟨rfl,I.turned (t':=s.toks) (fun b o hb e=>eb b o hb e) f0 f1 f3 f4 f5⟩
 self:=fun _ _ _ _ _ st h=>wpAny_pyIter_keyiter st h
def iDct (tl:TE):TI:=fun σ H R=>tl σ H fun v H1=>∃ d kvs,v = .ref d∧H1 d = some (.dK kvs)∧∀ o,R (Itd d o kvs) (upd H1 d (.frz o (.dK kvs)))
theorem jj8 {X:Cx} {tg l:Expr} {tl:TE} (hl:PE X l tl):PI X tg l (iDct tl):=by
 intro pins s σ H R I h
 refine thn (hl pins s σ H _ I h) fun v s1 ⟨x,H1,I1,r1,q1⟩=>?_
 obtain ⟨d,kvs,e,hd,q⟩:=q1
 subst e
 cases r1
 obtain ⟨z,lo,vs,rel,dd⟩:=jlv I1.hok hd
 obtain ⟨ep,hat⟩:=dd.dictAt
 obtain ⟨o,es,eo,rest⟩:=id hat
 have I2:Inv X pins σ (upd H1 d (.frz o (.dK kvs))) { s1 with heap:=s1.heap,toks:=s1.toks } :=
  I1.write (x:=d) (e:=d) (by rw [hd]; exact True.intro) (.inl rfl) (fun b u _ q=>q) ⟨o,eo⟩ (show jbb X.prog X.w _ s1.heap d (.frz o (.dK kvs)) from ⟨eo,z,lo,vs,rel,dd⟩)
 have I2:Inv X pins σ (upd H1 d (.frz o (.dK kvs))) s1:=I2
 have hdl:d < s1.heap.objs.size:=Heap.lt_size eo
 refine wpAny_pyIter_dict lo hat ?_
 refine ⟨s1.heap.objs.size,[s1.heap.objs.size],_,_,_,rfl,I2.kept (t':=s1.toks) fun b o e=>Heap.get?_push_of_some _ e,jhr d _ o kvs vs ep (Nat.ne_of_lt hdl) rel fun h e=>⟨o,es,e,rest⟩,⟨_,Heap.get?_push_size _ rfl,rfl,rfl⟩,fun b hb=>?_,q o⟩
 have e:b = s1.heap.objs.size:=by simpa using hb
 subst e
 exact I2.fpOk (Nat.le_refl _) (I2.hok.fresh (Nat.le_refl _))
theorem jez {d:Addr} {o:Obj} {kvs:List (Key × V)} {g:TG} {tb:TS} {D:Ends} {σ:St} {H:Hp} (Pv:Nat→St→Hp→Prop) (h0:Pv 0 σ H) (hl:∀ i σ H,i ≤ kvs.length→Pv i σ H→H d = some (.frz o (.dK kvs)))
  (hs:∀ i kv σ H,kvs[i]? = some kv→Pv i σ H→g (kV kv.1) σ H fun σ2 H2=>tb { D with nx:=Pv (i + 1),ct:=Pv (i + 1),bk:=D.nx } σ2 H2) (hd:∀ σ H,Pv kvs.length σ H→D.nx σ H) :
  ∃ W:Nat→Nat→St→Hp→Prop,(∃ m,W 0 m σ H)∧∀ i m σ H,W i m σ H →
   ((Itd d o kvs).stop i H∧D.nx σ H) ∨ ((Itd d o kvs).go i H∧∃ N:St→Hp→Prop,(∀ σ' H',N σ' H'→∃ m',m' < m∧W (i + 1) m' σ' H')∧∀ x H',(Itd d o kvs).yld i H x H'→g x σ H' fun σ2 H2=>tb { D with nx:=N,ct:=N,bk:=D.nx } σ2 H2):=by
 refine ⟨fun i m σ H=>m = kvs.length - i∧i ≤ kvs.length∧Pv i σ H,⟨kvs.length,by simp,Nat.zero_le _,h0⟩,?_⟩
 rintro i m σ H ⟨rfl,hi,p⟩
 have q:=hl i σ H hi p
 by_cases hlt:i < kvs.length
 ·refine .inr ⟨⟨q,hlt⟩,Pv (i + 1),fun σ' H' p'=>⟨kvs.length - (i + 1),by omega,rfl,hlt,p'⟩,fun x H' y=>?_⟩
  obtain ⟨e,kv,e1,e2⟩:=y
  subst e e2
  exact hs i kv σ H' e1 p
 ·have e:i = kvs.length:=by omega
  subst e
  exact .inl ⟨⟨q,Nat.le_refl _⟩,hd σ H p⟩
def tDUpd (td ty:TE):TE:=fun σ H Q=>td σ H fun x H1=>∃ a,x = .ref a∧IsD H1 a∧ty σ H1 fun y H2=>∃ b kvs more,y = .ref b∧a ≠ b∧H2 a = some (.dK kvs)∧H2 b = some (.dK more)∧kvs.length + more.length ≤ 1000∧Q .non (upd H2 a (.dK (jcj kvs more)))
theorem js9 {X:Cx} {o e:Expr} {apos cpos:Pos} {td ty:TE} (ho:PE X o td) (he:PE X e ty) (m:M1 X o "update" apos e cpos:=by exact ⟨rfl,rfl,rfl,rfl⟩):PE X (.Call (.Attribute o "update" apos) [e] [] cpos) (tDUpd td ty):=by
 intro pins s σ H Q I h
 refine wpAny_Call_method m.base m.few m.line PySem.F.plainAttrs_dict PySem.F.slot_dict_update PySem.F.type_dict_update (thn (ho pins s σ H _ I h) fun u s1 ⟨x,H1,I1,rx,a,ex,d,q1⟩=>?_)
 subst ex
 obtain rfl:u = Value.ref a:=rx
 obtain ⟨t1,t2,_⟩:=isD_at I1 d
 refine ⟨t1,t2,?_⟩
 rw [m.trees]
 refine Calls.callWith_builtin rfl (Calls.evalArgs_plain (Calls.spliced_cons (thn (he pins s1 σ H1 _ I1 q1) fun iv s2 ⟨y,H2,I2,ry,b,kvs,more,ey,hab,ea,eb,hl,q2⟩=>Calls.spliced_nil ?_)))
 subst ey
 obtain rfl:iv = Value.ref b:=ry
 obtain ⟨z1,lo1,vs1,rel1,dd1⟩:=jlv I2.hok ea
 obtain ⟨z2,lo2,vs2,rel2,dd2⟩:=jlv I2.hok eb
 have h1000:(1000:Nat) ≤ sizeLine:=by decide
 refine call_meetsIn PySem.F.slot_dict_update dd1.typeIs PySem.F.entry_dict_update (PySem.F.args_dict_update_2 _ _) (meets_dict_update (jax X.prog X.w) a b hab lo2)
  ⟨vs1,vs2,dd1,dd2,by rw [← rel1.length,← rel2.length]; omega,fun h' dd' _ hs=>?_⟩
 have hm:=jc6 more kvs
 have he:∃ q,h'.get? a = some q:=let ⟨q,_,_,hq,_⟩:=dd'; ⟨q,hq⟩
 exact ⟨.non,_,jfn I2 (by rw [ea]; exact True.intro) hs he (jil (by omega) lo1 (rel2.merge rel1) dd'),rfl,q2⟩
theorem jhp:∀ {kvs:List (Key × V)} {vs:List (Key × Value)} {us:List Value},KV kvs vs→us.length = vs.length→(∀ (j:Nat) (v:Value),us[j]? = some v→∃ k x,vs[j]? = some (k,x)∧jie k v = true)→Vals (kvs.map fun kv=>kV kv.1) us
 | [],_,us,.nil,hl,_=>by
  cases us with
  | nil=>exact .nil
  | cons _ _=>simp at hl
 | kv :: kvs,_,us,.cons (b:=b) r t,hl,hv=>by
  cases us with
  | nil=>simp at hl
  | cons u us =>
   obtain ⟨k,x,e1,e2⟩:=hv 0 u rfl
   simp only [List.getElem?_cons_zero,Option.some.injEq] at e1
   have hk:kv.1 = k:=by rw [r.1,e1]
   refine .cons (by show RelV (kV kv.1) u; rw [hk]; exact jke e2) (jhp t (by simpa using hl) fun j v hj=>?_)
   obtain ⟨k',x',z1,z2⟩:=hv (j + 1) v (by simpa using hj)
   exact ⟨k',x',by simpa using z1,z2⟩
end L2
namespace L2
open PySem PySem.Spec PyProof.Rows
section
variable {X:Cx}
def fInsS:V→List V→Hp→VK→Prop:=fun x vs H Q=>match x,vs with
 | .ref l,[.int k,y]=>match H l with
  | some (.lst xs)=>(0 ≤ k∧k ≤ xs.length∧xs.length < 1000)∧Q .non (upd H l (.lst (xs.take k.toNat ++ y :: xs.drop k.toNat)))
  | _=>False
 | _,_=>False
end
end L2
namespace L2
open PySem PySem.Spec PyProof.Rows
section
variable {prog:Program} {w:World} {A:Around} {E:Value→Shared→Prop} {s:Shared}
theorem jno:Builtin.Dict_items.ownsTuple "dict_keyiterator" = false:=by decide
theorem jq9 {it d i ep:Nat} {o:Obj} {es:Array DictEntry} {Q:Option Value→Shared→Prop} (hi:s.heap.IsKeyIter it d i es.size ep) (ho:s.heap.get? d = some o) (hd:o.data = .dict es ep) (hl:i < es.size)
  (hQ:∀ h',h'.IsKeyIter it d (i + 1) es.size ep→Heap.SameBut it s.heap h'→Q (some es[i].key) { s with heap:=h' }):wpAny (model prog w) A (pyNext (.ref it)) Q E s:=by
 obtain ⟨q,g1,g2,g3⟩:=id hi
 have ty:=hi.typeIs
 unfold pyNext
 refine wpAny_bind (wpAny_attempt (wpAny_callSpecial?_slot (name:=Str.ofString "__next__") ty F.slot_dict_keyiterator_next (wpAny_call_entry F.slot_dict_keyiterator_next ty F.entry_dict_keyiterator_next ?_ (F.args_dict_keyiterator_next_1 _))))
 refine wpAny_bind (wpAny_pure (wpAny_bind (wpAny_bind ?_)))
 first | refine wpAny_bind (wpAny_typeNameOfWhole_keyiter ty (wpAny_pure (wpAny_bind (wpAny_fieldsOf g1 g3 ?_)))) | refine wpAny_bind (wpAny_typeNameOf_keyiter ty (wpAny_pure (wpAny_bind (wpAny_fieldsOf g1 g3 ?_))))
 simp only [jno,Bool.false_eq_true,if_false]
 have nn:¬ ((Value.ref d == Value.none) = true):=fun z=>Bool.false_ne_true z
 change wpAny _ _ (ite ((Value.ref d == Value.none) = true) _ _) _ _ s
 rw [if_neg nn]
 refine wpAny_bind (wpAny_pure (wpAny_bind (wpAny_dictEntries ho hd ?_)))
 rw [if_neg (by simp)]
 refine wpAny_bind (wpAny_pure (wpAny_bind (wpAny_dictEpoch ho hd ?_)))
 rw [if_neg (by simp)]
 have n0:¬ ((i:Int) < 0):=by omega
 refine wpAny_pure ?_
 simp only [n0,if_false,Int.toNat_natCast,Array.getElem?_eq_getElem hl]
 refine wpAny_bind ?_
 first | refine wpAny_bind (wpAny_typeNameOfWhole_keyiter ty (wpAny_pure (wpAny_bind (wpAny_isOneOf_keyiter ty ?_)))) | refine wpAny_bind (wpAny_typeNameOf_keyiter ty (wpAny_pure (wpAny_bind (wpAny_isOneOf_keyiter ty ?_))))
 change wpAny _ _ (setField (.ref it) 1 (rawInt ((i:Int) + 1)) >>= fun _=>_) _ _ s
 refine wpAny_bind (wpAny_setField g1 g3 (by simp) ?_)
 have hi2:(s.heap.update it (Obj.mapFields (·.setIfInBounds 1 (rawInt ((i:Int) + 1))))).IsKeyIter it d (i + 1) es.size ep:=by
  refine ⟨_,Heap.get?_update_self _ g1 (Obj.isFreed_of_fields (Obj.data_mapFields g3 _)),(Obj.cls_mapFields ..).trans g2,?_⟩
  rw [Obj.data_mapFields g3]
  simp [rawInt]
 refine wpAny_bind (wpAny_holding (wpAny_bind (wpAny_isOneOf_keyiter (s:={ s with heap:=_ }) hi2.typeIs ?_)))
 exact wpAny_pure (wpAny_pure ⟨_,rfl,wpAny_pure (hQ _ hi2 (Heap.SameBut.update ..))⟩)
theorem jsp {it d i ep:Nat} {o:Obj} {es:Array DictEntry} {Q:Option Value→Shared→Prop} (hh:A.handled = none) (hi:s.heap.IsKeyIter it d i es.size ep) (ho:s.heap.get? d = some o) (hd:o.data = .dict es ep) (hl:es.size ≤ i)
  (hQ:∀ h',Heap.ExtBut it s.heap h'→Q none { s with heap:=h' }):wpAny (model prog w) A (pyNext (.ref it)) Q E s:=by
 obtain ⟨q,g1,g2,g3⟩:=id hi
 have ty:=hi.typeIs
 unfold pyNext
 refine wpAny_bind (wpAny_attempt (wpAny_callSpecial?_slot (name:=Str.ofString "__next__") ty F.slot_dict_keyiterator_next (wpAny_call_entry F.slot_dict_keyiterator_next ty F.entry_dict_keyiterator_next ?_ (F.args_dict_keyiterator_next_1 _))))
 refine wpAny_bind (wpAny_pure (wpAny_bind (wpAny_bind ?_)))
 first | refine wpAny_bind (wpAny_typeNameOfWhole_keyiter ty (wpAny_pure (wpAny_bind (wpAny_fieldsOf g1 g3 ?_)))) | refine wpAny_bind (wpAny_typeNameOf_keyiter ty (wpAny_pure (wpAny_bind (wpAny_fieldsOf g1 g3 ?_))))
 simp only [jno,Bool.false_eq_true,if_false]
 have nn:¬ ((Value.ref d == Value.none) = true):=fun z=>Bool.false_ne_true z
 change wpAny _ _ (ite ((Value.ref d == Value.none) = true) _ _) _ _ s
 rw [if_neg nn]
 refine wpAny_bind (wpAny_pure (wpAny_bind (wpAny_dictEntries ho hd ?_)))
 rw [if_neg (by simp)]
 refine wpAny_bind (wpAny_pure (wpAny_bind (wpAny_dictEpoch ho hd ?_)))
 rw [if_neg (by simp)]
 have n0:¬ ((i:Int) < 0):=by omega
 refine wpAny_pure ?_
 simp only [n0,if_false,Int.toNat_natCast,Array.getElem?_eq_none hl]
 refine wpAny_bind ?_
 first | refine wpAny_bind (wpAny_typeNameOfWhole_keyiter ty (wpAny_pure ?_)) | refine wpAny_bind (wpAny_typeNameOf_keyiter ty (wpAny_pure ?_))
 change wpAny _ _ (setField (.ref it) 0 .none >>= fun _=>_) _ _ s
 refine wpAny_bind (wpAny_setField g1 g3 (by simp) ?_)
 change wpAny _ _ (newExc (.type "StopIteration") [] >>= fun _=>_) _ _ _
 refine wpAny_bind ?_
 simp only [newExc,newTuple]
 refine wpAny_bind (wpAny_newObj_type (wpAny_bind (m:=firstArgMember _ _) (wpAny_of_eq (a:=Value.none) (by first | rfl | (simp only [firstArgMember]; rfl)) (wpAny_newObj_type ?_ (by size_fits)))) (by size_fits))
 simp only [raiseNew]
 refine wpAny_bind (wpAny_handled ?_)
 have h1:A.in1.handled = none:=hh
 rw [h1]
 refine wpAny_bind (wpAny_pure (wpAny_throw (wpAny_bind ?_)))
 refine wpAny_isInstance (T:="StopIteration") (b:=true) ⟨_,Heap.get?_push_size _ rfl,rfl⟩ isSubtype_stop ?_
 exact wpAny_pure (hQ _ (((Heap.SameBut.update ..).extBut.push _).push _))
theorem jqa {d ep:Nat} {o:Obj} {es:Array DictEntry} {Q:Value→Shared→Prop} (hs:(d == sysModules) = false) (ho:s.heap.get? d = some o) (hx:o.ExactDict) (hd:o.data = .dict es ep)
  (hQ:Q (.ref s.heap.objs.size) { s with heap:=s.heap.push { cls:=.type "dict_keyiterator",data:=.fields #[.ref d,.int 0 0,.int es.size 0,.int ep 0] } }):wpAny (model prog w) A (pyIter (.ref d)) Q E s:=by
 have ty:s.TypeIs (.ref d) "dict":=⟨o,ho,hx.1⟩
 refine wpAny_pyIter_slot ty F.slot_dict_iter (wpAny_call_entry F.slot_dict_iter ty F.entry_dict_iter ?_ (F.args_dict_iter_1 _))
 unfold Builtin.«dict.__iter__»
 refine wpAny_bind ?_
 unfold Builtin.Dict.dictSlotNone
 refine wpAny_bind (wpAny_notOrdered_dict ty ?_)
 change wpAny _ _ (pure (Value.ref d)) _ _ s
 refine wpAny_pure ?_
 change wpAny _ _ (Builtin.Dict.showsAll d >>= fun _=>_) _ _ s
 unfold Builtin.Dict.showsAll
 have n1:¬ ((d == sysModules) = true):=by rw [hs]; exact Bool.false_ne_true
 rw [if_neg n1]
 refine wpAny_bind (wpAny_pure (wpAny_bind (wpAny_dictEntries ho hd (wpAny_bind (wpAny_dictEpoch ho hd ?_)))))
 refine wpAny_bind (wpAny_newObj_type (wpAny_pure ⟨_,rfl,"dict_keyiterator",_,⟨_,Heap.get?_push_size _ rfl,rfl⟩,F.slot_dict_keyiterator_next.lookup,?_⟩))
 simpa [rawInt] using hQ
end
def ItT2 (d:Addr) (o:Obj) (kvs:List (List Key × V)):It :=
 ⟨fun i H=>H d = some (.frz o (.dT kvs))∧i < kvs.length,fun i H x H'=>H' = H∧∃ kv b,kvs[i]? = some kv∧x = .ref b∧H b = some (.tup (kv.1.map kV)),fun i H=>H d = some (.frz o (.dT kvs))∧kvs.length ≤ i⟩
theorem jlf {P:Program} {w:World} {K:PySem.W.Frag} {tg:Expr} (d it:Addr) (o:Obj) (kvs:List (List Key × V)) (es:Array DictEntry) (ep:Nat) (hd:o.data = .dict es ep) (hes:es.size = kvs.length):Turn P w K tg (ItT2 d o kvs) [it] it (fun i h=>h.IsKeyIter it d i es.size ep) where
 mem:=by simp
 obj:=fun i h st b hb=>by
  have e:b = it:=by simpa using hb
  subst e
  obtain ⟨o,e,c,d⟩:=st
  exact ⟨o,e,fun v z=>by rw [d] at z; cases z⟩
 keep:=fun i h h' st k=>st.at fun o e=>k it (by simp) o e
 item:=by
  intro X hP hw hK hc i pins s σ H E I hf st hg
  subst hP hw hK
  obtain ⟨hq,hx⟩:=hg
  obtain ⟨eo,z,lo,xs,rel,o',es',ep',h1,h2,h3,h4,h5⟩:=(show s.heap.get? d = some o∧jbb X.prog X.w H s.heap d (.dT kvs) from I.hok _ _ hq)
  obtain rfl:o = o':=Option.some.inj (eo.symm.trans h1)
  rw [hd] at h3
  cases h3
  have hlx:xs.length = kvs.length:=(Paired.length rel).symm
  have hi':i < es.size:=by omega
  obtain ⟨f0,f1,f2,f3,f4,f5⟩:=hf it (by simp)
  refine jq9 st eo hd hi' fun h' st' sb=>?_
  have I1:Inv X pins σ H { s with heap:=h' }:=I.turned (t':=s.toks) (fun b o hb e=>(sb.2 b hb).trans e) f0 f1 f3 f4 f5
  have hxi:xs[i]? = some (xs[i]'(by omega)):=List.getElem?_eq_getElem _
  obtain ⟨kv,e1,e2⟩:=jbf rel hxi
  have hk:es[i].key = .ref (xs[i]'(by omega)).2.1:=by
   have:=congrArg (fun l=>l[i]?) h4
   simp only [Array.getElem?_toList,List.getElem?_map,hxi,Array.getElem?_eq_getElem hi'] at this
   rw [Option.some.inj this]
   rfl
  rw [hk]
  obtain ⟨o',e,c,dd⟩:=id st'
  exact ⟨_,rfl,jls (s:={ s with heap:=h' }) e c dd (by decide) ⟨.ref (xs[i]'(by omega)).2.1,H,I1,rfl,⟨rfl,kv,_,e1,rfl,e2.2.1⟩,st',fun b hb=>(hf b hb).1⟩⟩
 done:=by
  intro X hP hw hK hc i pins s σ H E I hf st hg
  subst hP hw hK
  obtain ⟨hq,hx⟩:=hg
  obtain ⟨eo,_⟩:=(show s.heap.get? d = some o∧_ from I.hok _ _ hq)
  obtain ⟨f0,f1,f2,f3,f4,f5⟩:=hf it (by simp)
  exact jsp (I.ok.hd hc) st eo hd (by omega) fun h' eb=>⟨rfl,I.turned (t':=s.toks) (fun b o hb e=>eb b o hb e) f0 f1 f3 f4 f5⟩
 self:=fun _ _ _ _ _ st h=>wpAny_pyIter_keyiter st h
def iDctT (tl:TE):TI:=fun σ H R=>tl σ H fun v H1=>∃ d kvs,v = .ref d∧H1 d = some (.dT kvs)∧∀ o,R (ItT2 d o kvs) (upd H1 d (.frz o (.dT kvs)))
theorem jpu {X:Cx} {tg l:Expr} {tl:TE} (hl:PE X l tl):PI X tg l (iDctT tl):=by
 intro pins s σ H R I h
 refine thn (hl pins s σ H _ I h) fun v s1 ⟨x,H1,I1,r1,q1⟩=>?_
 obtain ⟨d,kvs,e,hd,q⟩:=q1
 subst e
 cases r1
 have ok:=(show jbb X.prog X.w H1 s1.heap d (.dT kvs) from I1.hok _ _ hd)
 obtain ⟨z,lo,xs,rel,o,es,ep,h1,h2,h3,h4,h5⟩:=id ok
 have kT':∀ b ys,H1 b = some (.tup ys)→upd H1 d (.frz o (.dT kvs)) b = some (.tup ys):=fun b ys q=>by rw [ja8 (fun z=>by rw [z,hd] at q; cases q)]; exact q
 have I2:Inv X pins σ (upd H1 d (.frz o (.dT kvs))) { s1 with heap:=s1.heap,toks:=s1.toks } :=
  I1.write (x:=d) (e:=d) (by rw [hd]; exact True.intro) (.inl rfl) (fun b u _ q=>q) ⟨o,h1⟩ (show jbb X.prog X.w _ s1.heap d (.frz o (.dT kvs)) from ⟨h1,z,lo,xs,Paired.mapP rel fun _ _ q=>⟨q.1,kT' _ _ q.2.1,q.2.2⟩,o,es,ep,h1,h2,h3,h4,h5⟩)
 have I2:Inv X pins σ (upd H1 d (.frz o (.dT kvs))) s1:=I2
 have hes:es.size = kvs.length:=by
  rw [← Array.length_toList,h4,List.length_map]
  exact (Paired.length rel).symm
 refine jqa lo h1 h2 h3 ?_
 refine ⟨s1.heap.objs.size,[s1.heap.objs.size],_,_,_,rfl,I2.kept (t':=s1.toks) fun b o e=>Heap.get?_push_of_some _ e,jlf d _ o kvs es ep h3 hes,⟨_,Heap.get?_push_size _ rfl,rfl,rfl⟩,fun b hb=>?_,q o⟩
 have e:b = s1.heap.objs.size:=by simpa using hb
 subst e
 exact I2.fpOk (Nat.le_refl _) (I2.hok.fresh (Nat.le_refl _))
theorem jos {d:Addr} {o:Obj} {kvs:List (List Key × V)} {g:TG} {tb:TS} {D:Ends} {σ:St} {H:Hp} (Pv:Nat→St→Hp→Prop) (h0:Pv 0 σ H) (hl:∀ i σ H,i ≤ kvs.length→Pv i σ H→H d = some (.frz o (.dT kvs)))
  (hs:∀ i kv b σ H,kvs[i]? = some kv→H b = some (.tup (kv.1.map kV))→Pv i σ H→g (.ref b) σ H fun σ2 H2=>tb { D with nx:=Pv (i + 1),ct:=Pv (i + 1),bk:=D.nx } σ2 H2) (hd:∀ σ H,Pv kvs.length σ H→D.nx σ H) :
  ∃ W:Nat→Nat→St→Hp→Prop,(∃ m,W 0 m σ H)∧∀ i m σ H,W i m σ H →
   ((ItT2 d o kvs).stop i H∧D.nx σ H) ∨ ((ItT2 d o kvs).go i H∧∃ N:St→Hp→Prop,(∀ σ' H',N σ' H'→∃ m',m' < m∧W (i + 1) m' σ' H')∧∀ x H',(ItT2 d o kvs).yld i H x H'→g x σ H' fun σ2 H2=>tb { D with nx:=N,ct:=N,bk:=D.nx } σ2 H2):=by
 refine ⟨fun i m σ H=>m = kvs.length - i∧i ≤ kvs.length∧Pv i σ H,⟨kvs.length,by simp,Nat.zero_le _,h0⟩,?_⟩
 rintro i m σ H ⟨rfl,hi,p⟩
 have q:=hl i σ H hi p
 by_cases hlt:i < kvs.length
 ·refine .inr ⟨⟨q,hlt⟩,Pv (i + 1),fun σ' H' p'=>⟨kvs.length - (i + 1),by omega,rfl,hlt,p'⟩,fun x H' y=>?_⟩
  obtain ⟨e,kv,b,e1,e2,e3⟩:=y
  subst e e2
  exact hs i kv b σ H' e1 e3 p
 ·have e:i = kvs.length:=by omega
  subst e
  exact .inl ⟨⟨q,Nat.le_refl _⟩,hd σ H p⟩
end L2
namespace L2
open PySem PySem.Spec PyProof.Rows
theorem jaf {a b:TS} {D:Ends} {σ:St} {H:Hp} (h:∀ R,R = b→tSeq a R D σ H):tSeq a b D σ H:=h b rfl
theorem tFor_hideI {ι:Type} {wi:TI} {g:TG} {tb:TS} {D:Ends} {σ:St} {H:Hp} (J:ι→It) (H1:ι→Hp) (ok:ι→Prop) (h1:∀ R:It→Hp→Prop,(∀ i,ok i→R (J i) (H1 i))→wi σ H R)
  (h2:∀ i0,ok i0→∃ W:Nat→Nat→St→Hp→Prop,(∃ m,W 0 m σ (H1 i0))∧∀ i m σ H,W i m σ H→((J i0).stop i H∧D.nx σ H) ∨ ((J i0).go i H∧∃ N:St→Hp→Prop,(∀ σ' H',N σ' H'→∃ m',m' < m∧W (i + 1) m' σ' H')∧∀ x H',(J i0).yld i H x H'→g x σ H' fun σ2 H2=>tb { D with nx:=N,ct:=N,bk:=D.nx } σ2 H2)) :
  tFor wi g tb D σ H:=h1 _ h2
section
variable {X:Cx}
def jqo (tk tv:TE):TE:=fun σ H Q=>∀ p,H p = none→tk σ (upd H p (.dT [])) fun x H1=>tv σ H1 fun y H2=>∃ b ks,H2 p = some (.dT [])∧x = .ref b∧H2 b = some (.tup (ks.map kV))∧Q (.ref p) (upd H2 p (.dT [(ks,y)]))
theorem jpy {pos:Pos} {k v:Expr} {tk tv:TE} (hu:X.A.units + 1 < cLine) (hk:PE X k tk) (hv:PE X v tv):PE X (.Dict [some k] [v] pos) (jqo tk tv):=by
 intro pins s σ H Q I q
 have hn:=I.hok.fresh (Nat.le_refl s.heap.objs.size)
 have I1:=I.laid (a:=s.heap.objs.size) (o:=.dT []) (h':=s.heap.push { cls:=.type "dict",data:=.dict #[] }) (t':=s.toks) (fun _ _ q=>Heap.get?_push_of_some _ q) (Nat.le_refl _) (jl5 s.heap I.big)
 have h1:=jkm (pos:=pos) hk hv jng pins _ σ _ (fun ps H2=>match ps with
  | [(x,y)]=>∃ b ks,H2 s.heap.objs.size = some (.dT [])∧x = .ref b∧H2 b = some (.tup (ks.map kV))∧Q (.ref s.heap.objs.size) (upd H2 s.heap.objs.size (.dT [(ks,y)]))
  | _=>False) I1 (q _ hn)
 rw [arm_eval_Dict,zip_pairTrees [some k] [v] X.env pos rfl rfl,dictDisplay_pairs _ (by simp [pairTrees]) (by simp [pairTrees])]
 refine wpAny_bind (wpAny_standAt (wpAny_bind ?_))
 unfold subDict
 refine wpAny_bind (wpAny_alloc (wpAny_bind (wpAny_holding ?_)))
 rw [if_pos (by simp [pairTrees])]
 refine wpAny_bind (thn h1 fun vs s2 ⟨ps,H2,I2,rel,q1⟩=>?_)
 split at q1
 case h_2=>exact q1.elim
 obtain ⟨b,ks,ed,ex,eb,q2⟩:=q1
 subst ex
 cases rel with
 | @cons p0 q0 ps0 qs0 r0 t0 =>
 cases t0
 obtain ⟨u1,u2⟩:=q0
 obtain ⟨r1,r2⟩:=r0
 cases (show u1 = Value.ref b from r1)
 refine wpAny_holding ?_
 obtain ⟨z,hd,xs,rx,dd⟩:=dt_of I2.hok ed
 cases rx
 simp only [List.forIn_cons,List.forIn_nil]
 refine wpAny_bind (wpAny_bind (wpAny_bind (wpAny_dictSet_heap (hsz:=by decide) (show (tupleKind (jax X.prog X.w)).room X.A from Nat.lt_of_succ_lt hu) (jge I2.hok eb) dd fun h' dd' hs=>?_)))
 refine wpAny_pure (wpAny_pure (wpAny_pure (wpAny_pure (wpAny_pure ⟨.ref s.heap.objs.size,_,?_,rfl,q2⟩))))
 obtain ⟨q,es,ep,hq,h2,h3,h4,_,h5⟩:=dd'
 refine jfn I2 (by rw [ed]; exact True.intro) hs ⟨q,hq⟩ ⟨by show 1 ≤ sizeLine; decide,hd,_,((show KT H2 [] [] from .nil).put ks eb r2).keeps fun c ys ec=>?_,q,es,ep,hq,h2,h3,h4,h5⟩
 rw [ja8 (ne_of ec ed (fun z=>nomatch z))]
 exact ec
def jt2:R2:=fun x y H Q=>match x,y with
 | .ref a,.ref b=>match H a,H b with
  | some (.tup xs),some (.tup ys)=>xs.length + ys.length ≤ sizeLine∧ys ≠ []∧if xs = [] then Q (.ref b) H else ∀ p,H p = none→Q (.ref p) (upd H p (.tup (xs ++ ys)))
  | _,_=>False
 | _,_=>False
theorem q_catT:OpR X (binaryOp .Add) jt2:=by
 intro pins s σ H x y v u Q I rx ry h
 unfold jt2 at h
 split at h
 ·rename_i a b
  split at h
  ·rename_i xs ys ha hb
   obtain ⟨hz,hy,h⟩:=h
   by_cases c:xs = []
   ·rw [if_pos c] at h
    subst c
    cases rx
    cases ry
    obtain ⟨its,r1,p1,_⟩:=I.tuple (SqT.of ha)
    obtain ⟨its2,r2,p2,_⟩:=I.tuple (SqT.of hb)
    cases r1
    obtain ⟨⟨cls,dd,data,sl⟩,ho,hc,n,hd⟩:=id p1
    obtain ⟨⟨cls2,dd2,data2,sl2⟩,ho2,hc2,n2,hd2⟩:=id p2
    simp only at hc hd hc2 hd2
    subst hc hd hc2 hd2
    exact concat_meets (T:="tuple") ⟨_,ho,rfl⟩ ⟨_,ho2,rfl⟩ noFill_tuple_add seq_tuple_add PySem.F.slot_tuple_add PySem.F.entry_tuple_add (PySem.F.args_tuple_add_2 _ _) (tuple_addW0 a b _ _ n n2 dd dd2 sl sl2 (by simp)) ⟨ho,ho2,⟨.ref b,H,I,rfl,h⟩⟩
   ·rw [if_neg c] at h
    exact jsd pins s σ H _ _ v u Q I rx ry ⟨a,b,xs,ys,rfl,rfl,SqT.of ha,SqT.of hb,c,hz,fun z=>absurd z hy,fun _=>h⟩
  ·exact h.elim
 ·exact h.elim
def jk6 (fs:List (Addr × Sp)) (te:TE) (t:TA):TE:=fun σ H Q=>te σ H fun x H1=>∃ f sp,(f,sp) ∈ fs∧x = .ref f∧t σ H1 fun vs H2=>sp vs H2 Q (fun _ _ _=>False)
theorem jkp {fs:List (Addr × Sp)} {k:Nat} {e a:Expr} {as:List Expr} {te:TE} {t:TA} {pos:Pos} (he:PE X e te) (hF:∀ f sp,(f,sp) ∈ fs→∃ fd ps,FnOk X.prog X.w X.K X.mg X.base CX0 k f fd ps sp∧PySem.W.keepIn X.K (.ref f) = true∧jhl X.K fd ps []) (hr:Room k X.A) (ha:PA X (a :: as) t)
  (ht:eval (.Call e (a :: as) [] pos) X.env = (do let f ← eval e X.env; callWith pos f [] (backTo pos (starEach (a :: as) X.env)) (backToKw pos (keywordEach [] X.env))):=by rfl)
  (hst:starEach (a :: as) X.env = (false,eval a X.env) :: starEach as X.env:=by rfl) (hpl:(backTo pos (starEach as X.env)).any (·.1) = false:=by rfl) :
  PE X (.Call e (a :: as) [] pos) (jk6 fs te t):=by
 intro pins s σ H Q I h
 rw [ht]
 refine wpAny_bind (thn (he pins s σ H _ I h) fun u s1 ⟨x,H1,I1,rx,f,sp,hm,ex,q⟩=>?_)
 subst ex
 obtain rfl:u = Value.ref f:=rx
 obtain ⟨fd,ps,F,hk,hb⟩:=hF f sp hm
 refine PySem.W.callWith_K (h₀:=X.base) I.ok.mod.kin hk (thn (ha pos pins s1 σ H1 _ I1 q) fun us s2 ⟨vs,H2,I2,r,q2⟩=>⟨I2.kIn,?_⟩) hst hpl
 exact jqx (ds:=[]) (dvs:=[]) F hr hb .nil jan I2 r (by simpa using q2)
end
end L2
namespace L2
open PySem PySem.Spec PyProof.Rows
def jol (tl:TE):TI:=fun σ H R=>tl σ H fun v H1=>∃ d kvs,v = .ref d∧((H1 d = some (.dK kvs)∧∀ o,R (Itd d o kvs) (upd H1 d (.frz o (.dK kvs)))) ∨ ∃ o,H1 d = some (.frz o (.dK kvs))∧R (Itd d o kvs) H1)
theorem jeu {X:Cx} {tg l:Expr} {tl:TE} (hl:PE X l tl):PI X tg l (jol tl):=by
 intro pins s σ H R I h
 refine thn (hl pins s σ H _ I h) fun v s1 ⟨x,H1,I1,r1,q1⟩=>?_
 obtain ⟨d,kvs,e,q⟩:=q1
 subst e
 cases r1
 have go:∀ (H2:Hp) (o:Obj),Inv X pins σ H2 s1→H2 d = some (.frz o (.dK kvs))→R (Itd d o kvs) H2→wpAny (model X.prog X.w) X.A (pyIter (.ref d)) (PIE X pins σ tg R) X.xe s1:=by
  intro H2 o I2 hd2 q2
  obtain ⟨eo,z,lo,vs,rel,dd⟩:=(show s1.heap.get? d = some o∧_ from I2.hok _ _ hd2)
  obtain ⟨ep,hat⟩:=dd.dictAt
  obtain ⟨o',es,eo',rest⟩:=id hat
  obtain rfl:o = o':=Option.some.inj (eo.symm.trans eo')
  have hdl:d < s1.heap.objs.size:=Heap.lt_size eo
  refine wpAny_pyIter_dict lo hat ⟨s1.heap.objs.size,[s1.heap.objs.size],_,_,_,rfl,I2.kept (t':=s1.toks) fun b o e=>Heap.get?_push_of_some _ e,jhr d _ o kvs vs ep (Nat.ne_of_lt hdl) rel fun h e=>⟨o,es,e,rest⟩,⟨_,Heap.get?_push_size _ rfl,rfl,rfl⟩,fun b hb=>?_,q2⟩
  have e:b = s1.heap.objs.size:=by simpa using hb
  subst e
  exact I2.fpOk (Nat.le_refl _) (I2.hok.fresh (Nat.le_refl _))
 rcases q with ⟨hd,q⟩ | ⟨o,hd,q⟩
 ·obtain ⟨z,lo,vs,rel,dd⟩:=jlv I1.hok hd
  obtain ⟨ep,hat⟩:=dd.dictAt
  obtain ⟨o,es,eo,rest⟩:=id hat
  have I2:Inv X pins σ (upd H1 d (.frz o (.dK kvs))) { s1 with heap:=s1.heap,toks:=s1.toks } :=
   I1.write (x:=d) (e:=d) (by rw [hd]; exact True.intro) (.inl rfl) (fun b u _ q=>q) ⟨o,eo⟩ (show jbb X.prog X.w _ s1.heap d (.frz o (.dK kvs)) from ⟨eo,z,lo,vs,rel,dd⟩)
  exact go _ o I2 ja1 (q o)
 ·exact go _ o I1 hd q
theorem jpt {X:Cx} {tg:Expr} {K:PySem.W.Frag} (hK:X.K = K) {l:Expr} {tl:TE} (hl:PE X l tl):PI X tg l (jdm K tl):=hK ▸ jbm hl
theorem jgx {X:Cx} {x:Str} {p:Pos} {a:Addr} (hg:Gl X x) (hm:X.mg x = some (.ref a)) (hdb:(x == ("__debug__":Str)) = false:=by decide):PE X (.Name x p) (tC (.ref a)):=by
 intro pins s σ H Q I h
 exact jjm I hg hm ⟨.ref a,H,I,rfl,h⟩ hdb
end L2
namespace L2
open PySem PySem.Spec PyProof.Rows
theorem jjp:∀ {vs:List Value} {ns:List Int} {i:Nat},IntsAre vs ns→i < vs.length→∃ a t,vs[i]? = some (.int a t)∧ns[i]? = some a
 | _,_,i,.nil,h=>by simp at h
 | _,_,0,.cons n t _,_=>⟨n,t,rfl,rfl⟩
 | _,_,i + 1,.cons n t r,h=>by
  obtain ⟨a,u,h1,h2⟩:=jjp (i:=i) r (by simpa using h)
  exact ⟨a,u,by simpa using h1,by simpa using h2⟩
section
open PySem.SeqAt
open PySem.AutoSeq1 (wpAny_loadPart')
open PySem.MeetsSeq PySem.MeetsSeq2 PySem.MeetsSeq3
theorem jnz (l b:Addr) (items items2:Array Value) (n n2:Nat) (dd dd2:Option Addr) (sl sl2:Array (Option Value)) (ns ms:List Int) (hi:IntsAre items.toList ns) (hj:IntsAre items2.toList ms) (k:Nat) :
  ∀ i:Nat,items.size - i = k→i ≤ items.size→i ≤ items2.size→Meets (Builtin.«list.__eq__.loop» ⟨[.ref l,.ref b,rawInt i,rawInt 0],[]⟩)
   (fun A R s=>s.heap.get? l = some { cls:=.type "list",dict:=dd,data:=.seq items n,slots:=sl }∧s.heap.get? b = some { cls:=.type "list",dict:=dd2,data:=.seq items2 n2,slots:=sl2 } ∧
    R (.ok (.ret (.bool (HT.lexLt (ns.drop i) (ms.drop i))))) s):=by
 have z1:items.size = ns.length:=by rw [← hi.length]; simp
 have z2:items2.size = ms.length:=by rw [← hj.length]; simp
 induction k with
 | zero =>
  intro i hk hi1 hi2 prog w A R s h
  obtain ⟨hp,g,d,tk,os⟩:=s; obtain ⟨hl,hb,h⟩:=h
  wp_walk using wpAny_loadPart' hl,wpAny_loadPart' hb
  have e1:items[((i:Nat):Int).toNat]? = none:=by simp; omega
  have d1:ns.drop i = []:=List.drop_of_length_le (by omega)
  rw [d1] at h
  rw [e1]
  wp_walk using wpAny_loadPart' hl,wpAny_loadPart' hb
  show R (.ok (.ret (.bool (decide (items.size < items2.size))))) _
  have:HT.lexLt [] (ms.drop i) = decide (items.size < items2.size):=by
   cases hm:ms.drop i with
   | nil =>
    have:=List.drop_eq_nil_iff.mp hm
    rw [HT.lexLt_nil_nil]
    exact (decide_eq_false (by omega)).symm
   | cons x r =>
    have:i < ms.length:=by
     have:=congrArg List.length hm
     rw [List.length_drop,List.length_cons] at this
     omega
    rw [HT.lexLt_nil_cons]
    exact (decide_eq_true (by omega)).symm
  rw [this] at h
  exact h
 | succ k ih =>
  intro i hk hi1 hi2 prog w A R s h
  obtain ⟨hp,g,d,tk,os⟩:=s; obtain ⟨hl,hb,h⟩:=h
  wp_walk using wpAny_loadPart' hl,wpAny_loadPart' hb
  have hlt:i < items.size:=by omega
  obtain ⟨x,t,hx,hnx⟩:=jjp hi (i:=i) (by simpa using hlt)
  have e1:items[((i:Nat):Int).toNat]? = some (.int x t):=by simpa using hx
  have d1:ns.drop i = x :: ns.drop (i + 1):=by
   obtain ⟨q1,q2⟩:=List.getElem?_eq_some_iff.mp hnx
   rw [List.drop_eq_getElem_cons q1,q2]
  rw [d1] at h
  rw [e1]
  by_cases hlt2:i < items2.size
  ·obtain ⟨y,u,hy,hmy⟩:=jjp hj (i:=i) (by simpa using hlt2)
   have e2:items2[((i:Nat):Int).toNat]? = some (.int y u):=by simpa using hy
   have d2:ms.drop i = y :: ms.drop (i + 1):=by
    obtain ⟨q1,q2⟩:=List.getElem?_eq_some_iff.mp hmy
    rw [List.drop_eq_getElem_cons q1,q2]
   rw [d2,HT.lexLt_cons] at h
   rw [e2]
   have hc:((i:Int) + 1) = ((i + 1:Nat):Int):=by push_cast; rfl
   obtain ⟨e,he,hiff⟩:=HT.eqAt_int A.in1 ⟨hp,g,d,tk,os⟩ x t y u
   refine wpAny_bind (he prog w _ _ ?_)
   cases e with
   | true =>
    rw [if_pos (hiff.mp rfl)] at h
    wp_walk
    rw [hc]
    exact ⟨plainId_quiet plain_eq_loop _,codeAny_builtin entry_eq_loop (by
     rw [Around.under_plainId plain_eq_loop _]
     exact ih (i + 1) (by omega) (by omega) (by omega) prog w A R _ ⟨hl,hb,h⟩)⟩
   | false =>
    rw [if_neg (fun q=>absurd (hiff.mpr q) Bool.false_ne_true)] at h
    have hri:=HT.rcLt_int A.in1 ⟨hp,g,d,tk,os⟩ x t y u prog w
    wp_walk using wpAny_loadPart' hl,wpAny_loadPart' hb
    rw [e1,e2]
    wp_walk using hri
    exact h
  ·have e2:items2[((i:Nat):Int).toNat]? = none:=by simp; omega
   have d2:ms.drop i = []:=List.drop_of_length_le (by omega)
   rw [d2,HT.lexLt_cons_nil] at h
   rw [e2]
   wp_walk using wpAny_loadPart' hl,wpAny_loadPart' hb
   show R (.ok (.ret (.bool (decide (items.size < items2.size))))) _
   rw [decide_eq_false (by omega)]
   exact h
theorem jo2 (l b:Addr) (items items2:Array Value) (n n2:Nat) (dd dd2:Option Addr) (sl sl2:Array (Option Value)) (ns ms:List Int) (hi:IntsAre items.toList ns) (hj:IntsAre items2.toList ms) :
  Meets (Builtin.«list.__lt__» ⟨[.ref l,.ref b],[]⟩)
   (fun A R s=>s.heap.get? l = some { cls:=.type "list",dict:=dd,data:=.seq items n,slots:=sl }∧s.heap.get? b = some { cls:=.type "list",dict:=dd2,data:=.seq items2 n2,slots:=sl2 } ∧
    R (.ok (.ret (.bool (HT.lexLt ns ms)))) s):=by
 intro prog w A R s h
 obtain ⟨hp,g,d,tk,os⟩:=s; obtain ⟨hl,hb,h⟩:=h
 have f3:=AutoSeq1.sub_list_list
 wp_walk using wpAny_loadPart' hl,wpAny_loadPart' hb
 exact ⟨plainId_quiet plain_eq_loop _,codeAny_builtin entry_eq_loop (by
  rw [Around.under_plainId plain_eq_loop _]
  exact jnz l b items items2 n n2 dd dd2 sl sl2 ns ms hi hj _ 0 rfl (Nat.zero_le _) (Nat.zero_le _) prog w A R _ ⟨hl,hb,h⟩)⟩
end
section
variable {prog:Program} {w:World} {A:Around} {E:Value→Shared→Prop} {s:Shared}
theorem jjk {l b:Addr} {items items2:Array Value} {n n2:Nat} {dd dd2:Option Addr} {sl sl2:Array (Option Value)} {ns ms:List Int} {Q:Value→Shared→Prop} (ho:s.heap.get? l = some { cls:=.type "list",dict:=dd,data:=.seq items n,slots:=sl }) (ho2:s.heap.get? b = some { cls:=.type "list",dict:=dd2,data:=.seq items2 n2,slots:=sl2 }) (hi:IntsAre items.toList ns) (hj:IntsAre items2.toList ms)
  (hu:A.units < cLine) (h:Q (.bool (HT.lexLt ns ms)) s):wpAny (model prog w) A (compareOp .Lt (.ref l) (.ref b)) Q E s :=
 richCompare_meets_room (op:=.Lt) ⟨_,ho,rfl⟩ ⟨_,ho2,rfl⟩ PySem.F.slot_list_lt PySem.F.entry_list_lt (PySem.F.args_list_lt_2 _ _) (jo2 l b items items2 n n2 dd dd2 sl sl2 ns ms hi hj)
  ⟨ho,ho2,show Value.bool (HT.lexLt ns ms) ≠ Value.notImplemented∧Q (.bool (HT.lexLt ns ms)) s from ⟨(fun x=>nomatch x),h⟩⟩ hu
end
end L2
namespace L2
open PySem PySem.Spec PyProof.Rows
theorem je2:(toString "min" ++ toString ".loop":String) = "min.loop":=by decide
section
variable {prog:Program} {w:World} {A:Around} {R:Result→Shared→Prop} {I:Addr} {fp wr:List Addr} {P:Nat→Value→Prop} {St:Nat→Heap→Prop} {a b:Value} {bt:Bool}
theorem jnw (W:Walks prog w A.in1 I fp wr 2 P St) (S:Addr) (hSf:S ∉ fp) {s:Shared} {c:Nat} {v:Value} (hst:St 2 s.heap)
  (hS:s.heap.get? S = some { cls:=.type "list",dict:=none,data:=.seq #[v,v] c,slots:=#[] })
  (hR:∀ h' tk,(∀ b o,b ∉ wr→b ≠ S→s.heap.get? b = some o→h'.get? b = some o)→R (.ok (.ret v)) { s with heap:=h',toks:=tk }) :
  codeAny (model prog w) A (.builtin "min.loop" ⟨[.ref I,.none,.ref S],[]⟩) R s:=by
 have hSw:S ∉ wr:=fun h=>hSf (W.sub _ h)
 refine codeAny_builtin PySem.F.entry_min_loop ?_
 rw [Around.under_plainId PySem.F.plain_min_loop _]
 show wpAny _ A.in1 (seqItems? (.ref S) >>= _) _ _ s
 refine wpAny_bind (wpAny_seqItems hS rfl ?_)
 show wpAny _ A.in1 (tryCatch (pyNext (.ref I)) _ >>= _) _ _ s
 refine wpAny_bind (wpAny_tryCatch (W.done s _ _ hst fun h' tk hk'=>?_))
 have hS':=hk' S _ hSw hS
 show wpAny _ A.in1 (updateSeq S (fun _=>#[]) >>= _) _ _ _
 refine wpAny_bind ?_
 refine wpAny_updateSeq hS' rfl (wpAny_bind (wpAny_letGo (wpAny_pure ?_)))
 exact hR _ tk fun b o hbw hbS e=>(Heap.get?_update_other _ _ (Ne.symm hbS)).trans (hk' b o hbw e)
theorem jsh (W:Walks prog w A.in1 I fp wr 2 P St) (h1:∀ v,P 1 v→v = b) (S:Addr) (hSf:S ∉ fp) {s:Shared} {c:Nat} (hst:St 1 s.heap)
  (hS:s.heap.get? S = some { cls:=.type "list",dict:=none,data:=.seq #[a,a] c,slots:=#[] })
  (hcmp:∀ h' tk (Q':Value→Shared→Prop) (E':Value→Shared→Prop),(∀ b o,b ∉ wr→b ≠ S→s.heap.get? b = some o→h'.get? b = some o)→Q' (.bool bt) { s with heap:=h',toks:=tk }→wpAny (model prog w) A.in1 (richCompare .Lt b a) Q' E' { s with heap:=h',toks:=tk })
  (hR:∀ h' tk,(∀ b o,b ∉ wr→b ≠ S→s.heap.get? b = some o→h'.get? b = some o)→R (.ok (.ret (if bt = true then b else a))) { s with heap:=h',toks:=tk }) :
  codeAny (model prog w) A (.builtin "min.loop" ⟨[.ref I,.none,.ref S],[]⟩) R s:=by
 have hSw:S ∉ wr:=fun h=>hSf (W.sub _ h)
 refine codeAny_builtin PySem.F.entry_min_loop ?_
 rw [Around.under_plainId PySem.F.plain_min_loop _]
 show wpAny _ A.in1 (seqItems? (.ref S) >>= _) _ _ s
 refine wpAny_bind (wpAny_seqItems hS rfl ?_)
 show wpAny _ A.in1 (tryCatch (pyNext (.ref I)) _ >>= _) _ _ s
 refine wpAny_bind (wpAny_tryCatch (W.item 1 s _ _ (by decide) hst fun v h' tk hP hst' hk'=>?_))
 cases h1 v hP
 have hS':=hk' S _ hSw hS
 show wpAny _ A.in1 (tryCatch (holding [b,b] (richCompare .Lt b a >>= _)) _ >>= _) _ _ _
 refine wpAny_bind (wpAny_tryCatch (wpAny_holding (wpAny_bind (hcmp _ _ _ _ (fun b o hbw _ e=>hk' b o hbw e) ?_))))
 refine wpAny_bind (wpAny_holding (wpAny_truthy_bool ?_))
 refine wpAny_bind (wpAny_letGo (wpAny_pure ?_))
 cases bt with
 | true =>
  simp only [if_true]
  refine wpAny_bind ?_
  refine wpAny_updateSeq hS' rfl (wpAny_bind (wpAny_letGo ?_))
  rw [je2]
  refine wpAny_pure ⟨plainId_quiet PySem.F.plain_min_loop _,jnw W S hSf (W.frame _ _ _ hst' fun b hbf o e=>?_) (Heap.get?_update_self _ hS' rfl) fun h'' tk'' hk''=>?_⟩
  ·exact (Heap.get?_update_other _ _ (fun h:S = b=>hSf (by rw [h]; exact hbf))).trans e
  ·exact hR h'' tk'' fun b o hbw hbS e=>hk'' b o hbw hbS ((Heap.get?_update_other _ _ (Ne.symm hbS)).trans (hk' b o hbw e))
 | false =>
  simp only [Bool.false_eq_true,if_false]
  refine wpAny_bind (wpAny_letGo ?_)
  rw [je2]
  refine wpAny_pure ⟨plainId_quiet PySem.F.plain_min_loop _,jnw W S hSf hst' hS' fun h'' tk'' hk''=>?_⟩
  exact hR h'' tk'' fun b o hbw hbS e=>hk'' b o hbw hbS (hk' b o hbw e)
theorem jnv (W:Walks prog w A.in1 I fp wr 2 P St) (h0:∀ v,P 0 v→v = a) (h1:∀ v,P 1 v→v = b) (S:Addr) (hSf:S ∉ fp) {s:Shared} {c:Nat} (hst:St 0 s.heap)
  (hS:s.heap.get? S = some { cls:=.type "list",dict:=none,data:=.seq #[] c,slots:=#[] })
  (hcmp:∀ h' tk (Q':Value→Shared→Prop) (E':Value→Shared→Prop),(∀ b o,b ∉ wr→b ≠ S→s.heap.get? b = some o→h'.get? b = some o)→Q' (.bool bt) { s with heap:=h',toks:=tk }→wpAny (model prog w) A.in1 (richCompare .Lt b a) Q' E' { s with heap:=h',toks:=tk })
  (hR:∀ h' tk,(∀ b o,b ∉ wr→b ≠ S→s.heap.get? b = some o→h'.get? b = some o)→R (.ok (.ret (if bt = true then b else a))) { s with heap:=h',toks:=tk }) :
  codeAny (model prog w) A (.builtin "min.loop" ⟨[.ref I,.none,.ref S],[]⟩) R s:=by
 have hSw:S ∉ wr:=fun h=>hSf (W.sub _ h)
 refine codeAny_builtin PySem.F.entry_min_loop ?_
 rw [Around.under_plainId PySem.F.plain_min_loop _]
 show wpAny _ A.in1 (seqItems? (.ref S) >>= _) _ _ s
 refine wpAny_bind (wpAny_seqItems hS rfl ?_)
 show wpAny _ A.in1 (tryCatch (pyNext (.ref I)) _ >>= _) _ _ s
 refine wpAny_bind (wpAny_tryCatch (W.item 0 s _ _ (by decide) hst fun v h' tk hP hst' hk'=>?_))
 cases h0 v hP
 have hS':=hk' S _ hSw hS
 show wpAny _ A.in1 (updateSeq S (fun _=>#[a,a]) >>= _) _ _ _
 refine wpAny_bind ?_
 refine wpAny_updateSeq hS' rfl ?_
 rw [je2]
 refine wpAny_pure ⟨plainId_quiet PySem.F.plain_min_loop _,jsh W h1 S hSf (W.frame _ _ _ hst' fun b hbf o e=>?_) (Heap.get?_update_self _ hS' rfl) (fun h'' tk'' Q' E' hk'' q=>hcmp h'' tk'' Q' E' (fun b o hbw hbS e=>hk'' b o hbw hbS ((Heap.get?_update_other _ _ (Ne.symm hbS)).trans (hk' b o hbw e))) q) fun h'' tk'' hk''=>?_⟩
 ·exact (Heap.get?_update_other _ _ (fun h:S = b=>hSf (by rw [h]; exact hbf))).trans e
 ·exact hR h'' tk'' fun b o hbw hbS e=>hk'' b o hbw hbS ((Heap.get?_update_other _ _ (Ne.symm hbS)).trans (hk' b o hbw e))
end
section
variable {prog:Program} {w:World} {A:Around} {E:Value→Shared→Prop} {s:Shared} {a b:Value} {bt:Bool}
theorem jg9 {Q:Value→Shared→Prop} (hh:A.handled = none)
  (hcmp:∀ h' tk (Q':Value→Shared→Prop) (E':Value→Shared→Prop),(∀ c o,s.heap.get? c = some o→h'.get? c = some o)→Q' (.bool bt) { s with heap:=h',toks:=tk }→wpAny (model prog w) A.in1 (richCompare .Lt b a) Q' E' { s with heap:=h',toks:=tk })
  (h:∀ h' tk,(∀ c o,s.heap.get? c = some o→h'.get? c = some o)→Q (if bt = true then b else a) { s with heap:=h',toks:=tk }) :
  wpAny (model prog w) A (call (.builtin "min") [a,b]) Q E s:=by
 have hT:(s.heap.push { cls:=.type "tuple",data:=.seq #[a,b] }).IsTuple s.heap.objs.size #[a,b]:=⟨_,Heap.get?_push_size _ rfl,rfl,0,rfl⟩
 have hsz:(s.heap.push { cls:=.type "tuple",data:=.seq #[a,b] }).objs.size = s.heap.objs.size + 1:=Heap.size_push ..
 refine call_function_tree PySem.F.kind_min PySem.F.plain_min PySem.F.entry_min (PySem.F.args_min2 _ _) ?_
 show wpAny _ A.in1 (Builtin.Builtins.bindParams "min" ["key","default"] 0 ⟨[],[]⟩ >>= _) _ _ s
 refine wpAny_bind (wpAny_of_eq (show Builtin.Builtins.bindParams "min" ["key","default"] 0 ⟨[],[]⟩ = pure [none,none] from rfl) ?_)
 show wpAny _ A.in1 (newTuple [a,b] >>= _) _ _ s
 refine wpAny_bind (wpAny_newObj_type ?_)
 refine wpAny_bind (wpAny_pyIter_tuple hT ?_)
 refine wpAny_bind (wpAny_newObj_type ?_)
 rw [je2]
 have W:=Walks.tuple (prog:=prog) (w:=w) (A:=A.in1) hh (s.heap.push { cls:=.type "tuple",data:=.seq #[a,b] }).objs.size s.heap.objs.size (by rw [hsz]; exact Nat.ne_of_lt (Nat.lt_succ_self _)) #[a,b]
 refine wpAny_pure ⟨plainId_quiet PySem.F.plain_min_loop _,jnv (a:=a) (b:=b) (bt:=bt) W (fun v hv=>by simpa using hv.symm) (fun v hv=>by simpa using hv.symm) _ ?_ ⟨⟨_,Heap.get?_push_of_some _ (Heap.get?_push_size _ rfl),rfl,rfl⟩,(hT.push _).push _⟩ (Heap.get?_push_size _ rfl) ?_ ?_⟩
 ·intro hc
  have hs2:∀ o:Obj,((s.heap.push { cls:=.type "tuple",data:=.seq #[a,b] }).push o).objs.size = s.heap.objs.size + 1 + 1:=fun o=>by rw [Heap.size_push,hsz]
  rcases List.mem_cons.mp hc with e | hc
  ·rw [hs2,hsz] at e; exact absurd e (Nat.succ_ne_self _)
  ·have e:=List.mem_singleton.mp hc
   rw [hs2] at e
   exact Nat.ne_of_gt (Nat.lt_succ_of_lt (Nat.lt_succ_self _)) e
 ·intro h' tk Q' E' hk q
  refine hcmp h' tk Q' E' (fun c o e=>hk c o ?_ ?_ (Heap.get?_push_of_some _ (Heap.get?_push_of_some _ (Heap.get?_push_of_some _ e)))) q
  ·intro z
   have z:=List.mem_singleton.mp z
   have:=Heap.lt_size e
   rw [z,hsz] at this
   exact absurd this (Nat.lt_asymm (Nat.lt_succ_self _))
  ·have:=Heap.lt_size e
   show c ≠ ((s.heap.push _).push _).objs.size
   rw [Heap.size_push,hsz]
   exact Nat.ne_of_lt (Nat.lt_succ_of_lt (Nat.lt_succ_of_lt this))
 ·intro h' tk hk
  refine h h' tk fun c o e=>hk c o ?_ ?_ (Heap.get?_push_of_some _ (Heap.get?_push_of_some _ (Heap.get?_push_of_some _ e)))
  ·intro z
   have z:=List.mem_singleton.mp z
   have:=Heap.lt_size e
   rw [z,hsz] at this
   exact absurd this (Nat.lt_asymm (Nat.lt_succ_self _))
  ·have:=Heap.lt_size e
   show c ≠ ((s.heap.push _).push _).objs.size
   rw [Heap.size_push,hsz]
   exact Nat.ne_of_lt (Nat.lt_succ_of_lt (Nat.lt_succ_of_lt this))
end
section
variable {X:Cx}
def rMinL:List V→Hp→VK→Prop:=fun vs H Q=>∃ (p q:Addr) (ns ms:List Int),vs = [.ref p,.ref q]∧H p = some (.lst (ns.map V.int))∧H q = some (.lst (ms.map V.int))∧Q (.ref (if HT.lexLt ms ns = true then q else p)) H
theorem jp4 (hc:X.calm = true) (hu:X.A.in1.units < cLine):jc7 X (.builtin "min") rMinL:=by
 intro pins s σ H xs us Q I r h
 obtain ⟨p,q,ns,ms,rfl,ep,eq,h⟩:=h
 obtain ⟨u,w',rfl,r1,r2⟩:=vals2 r
 cases r1
 cases r2
 obtain ⟨_,its,c,rr,hl,e1⟩:=I.lstM ep
 obtain ⟨_,its2,c2,rr2,hl2,e2⟩:=I.lstM eq
 have i1:IntsAre its.toArray.toList ns:=jc0 rr
 have i2:IntsAre its2.toArray.toList ms:=jc0 rr2
 refine jg9 (bt:=HT.lexLt ms ns) (I.ok.hd hc) (fun h' tk Q' E' k q'=>?_) fun h' tk k=>⟨_,H,I.kept k,?_,h⟩
 ·exact jjk (k _ _ e2) (k _ _ e1) i2 i1 hu q'
 ·cases HT.lexLt ms ns <;> rfl
end
end L2
namespace So
open PySem PyProof.Rows
section
variable {prog:Program} {w:World} {A:Around} {E:Value→Shared→Prop} {s:Shared}
end
end So
namespace L2
open PySem PySem.Spec PyProof.Rows
theorem jha:∀ (a:List Int),HT.lexLt a a = false
 | []=>rfl
 | x :: r=>by rw [HT.lexLt_cons,if_pos rfl]; exact jha r
theorem jkw:∀ {a b c:List Int},HT.lexLt a b = true→HT.lexLt b c = true→HT.lexLt a c = true
 | [],[],_,h,_=>by rw [HT.lexLt_nil_nil] at h; cases h
 | [],_ :: _,[],_,h=>by rw [HT.lexLt_cons_nil] at h; cases h
 | [],_ :: _,_ :: _,_,_=>rfl
 | _ :: _,[],_,h,_=>by rw [HT.lexLt_cons_nil] at h; cases h
 | _ :: _,_ :: _,[],_,h=>by rw [HT.lexLt_cons_nil] at h; cases h
 | x :: r,y :: q,z :: p,h1,h2=>by
  rw [HT.lexLt_cons] at h1 h2 ⊢
  by_cases c1:x = y
  ·rw [if_pos c1] at h1
   by_cases c2:y = z
   ·rw [if_pos c2] at h2
    rw [if_pos (c1.trans c2)]
    exact jkw h1 h2
   ·rw [if_neg c2] at h2
    rw [if_neg (by rw [c1]; exact c2),c1]
    exact h2
  ·rw [if_neg c1] at h1
   have h1:=of_decide_eq_true h1
   by_cases c2:y = z
   ·rw [if_neg (by omega)]
    exact decide_eq_true (by omega)
   ·rw [if_neg c2] at h2
    have h2:=of_decide_eq_true h2
    rw [if_neg (by omega)]
    exact decide_eq_true (by omega)
theorem jh8:∀ (a b:List Int),HT.lexLt a b = true ∨ a = b ∨ HT.lexLt b a = true
 | [],[]=>.inr (.inl rfl)
 | [],_ :: _=>.inl rfl
 | _ :: _,[]=>.inr (.inr rfl)
 | x :: r,y :: q=>by
  rw [HT.lexLt_cons,HT.lexLt_cons]
  by_cases c:x = y
  ·subst c
   rw [if_pos rfl,if_pos rfl]
   rcases jh8 r q with h | h | h
   ·exact .inl h
   ·exact .inr (.inl (by rw [h]))
   ·exact .inr (.inr h)
  ·rw [if_neg c,if_neg (fun z=>c z.symm)]
   by_cases d:x < y
   ·exact .inl (decide_eq_true d)
   ·exact .inr (.inr (decide_eq_true (by omega)))
end L2
namespace So
open PySem PyProof.Rows
section
variable {prog:Program} {w:World} {s:Shared}
end
end So
namespace L2
open PySem PySem.Spec PyProof.Rows
end L2
namespace L2
open PySem PySem.Spec PyProof.Rows
def Itv (K:PySem.W.Frag) (a:Addr) (xs:List V):It :=
 ⟨fun i H=>SqL K H a xs∧i < xs.length,fun i H x H'=>H' = H∧xs[xs.length - 1 - i]? = some x,fun i H=>SqL K H a xs∧xs.length ≤ i⟩
theorem jph {P:Program} {w:World} {K:PySem.W.Frag} {tg:Expr} (a it:Addr) (xs:List V):Turn P w K tg (Itv K a xs) [it] it (fun i h=>i ≤ xs.length∧h.IsRevIter it a ((xs.length:Int) - 1 - i)) where
 mem:=by simp
 obj:=fun i h st b hb=>by
  have e:b = it:=by simpa using hb
  subst e
  obtain ⟨_,o,e,c,d⟩:=st
  exact ⟨o,e,fun v z=>by rw [d] at z; cases z⟩
 keep:=fun i h h' st k=>⟨st.1,st.2.at fun o e=>k it (by simp) o e⟩
 item:=by
  intro X hP hw hK hc i pins s σ H E I hf st hg
  subst hP hw hK
  obtain ⟨hq,hx⟩:=hg
  obtain ⟨its,rv,p,hz⟩:=I.list hq
  have hx1:xs[xs.length - 1 - i]? = some (xs[xs.length - 1 - i]'(by omega)):=List.getElem?_eq_getElem _
  generalize xs[xs.length - 1 - i]'(by omega) = x at hx1
  obtain ⟨u,hu,ru⟩:=rv.get hx1
  obtain ⟨f0,f1,f2,f3,f4,f5⟩:=hf it (by simp)
  have st2:s.heap.IsRevIter it a (((xs.length - 1 - i:Nat)):Int):=by
   have e:(((xs.length - 1 - i:Nat)):Int) = (xs.length:Int) - 1 - i:=by omega
   rw [e]
   exact st.2
  refine wpAny_pyNext_rev_item st2 p.isList (x:=u) (by simpa using hu) fun h' st' sb=>?_
  have I1:Inv X pins σ H { s with heap:=h' }:=I.turned (t':=s.toks) (fun b o hb e=>(sb.2 b hb).trans e) f0 f1 f3 f4 f5
  have st3:h'.IsRevIter it a ((xs.length:Int) - 1 - (i + 1:Nat)):=by
   have e:(xs.length:Int) - 1 - (i + 1:Nat) = (((xs.length - 1 - i:Nat)):Int) - 1:=by omega
   rw [e]
   exact st'
  obtain ⟨o,e,c,d⟩:=id st'
  exact ⟨u,rfl,jls (s:={ s with heap:=h' }) e c d (by decide) ⟨x,H,I1,ru,⟨rfl,hx1⟩,⟨hx,st3⟩,fun b hb=>(hf b hb).1⟩⟩
 done:=by
  intro X hP hw hK hc i pins s σ H E I hf st hg
  subst hP hw hK
  obtain ⟨hq,hx⟩:=hg
  obtain ⟨f0,f1,f2,f3,f4,f5⟩:=hf it (by simp)
  have st2:s.heap.IsRevIter it a (-1):=by
   have e:(-1:Int) = (xs.length:Int) - 1 - i:=by have:=st.1; omega
   rw [e]
   exact st.2
  exact wpAny_pyNext_rev_end (I.ok.hd hc) st2 fun h' eb=>⟨rfl,I.turned (t':=s.toks) (fun b o hb e=>eb b o hb e) f0 f1 f3 f4 f5⟩
 self:=fun _ _ _ _ _ st h=>wpAny_pyIter_revIter st.2 h
def iRev (K:PySem.W.Frag) (ta:TA):TI:=fun σ H R=>ta σ H fun vs H1=>∃ a xs,vs = [.ref a]∧SqL K H1 a xs∧R (Itv K a xs) H1
theorem jj7 {X:Cx} {tg:Expr} {a:Expr} {ta:TA} {p pos:Pos} (hg:Gl X "reversed") (hm:X.mg "reversed" = none) (ha:PA X [a] ta) (hs:starEach [a] X.env = [(false,eval a X.env)]:=by rfl) :
  PI X tg (.Call (.Name "reversed" p) [a] [] pos) (iRev X.K ta):=by
 intro pins s σ H R I h
 refine Call_ (jej I hg hm boot_reversed (PyProof.Rows.callWith_type1 (thn (ha pos pins s σ H _ I h) fun us s1 ⟨vs,H1,I1,r1,q1⟩=>?_) hs rfl))
 obtain ⟨a,xs,e,hq,q⟩:=q1
 subst e
 cases r1 with
 | cons r rr =>
  cases rr
  cases r
  obtain ⟨its,rv,pl,hz⟩:=I1.list hq
  have hlen:=rv.length
  refine call_reversed_list pl.isList ?_
  have hr:(s1.heap.push (revObj a ((its.toArray.size:Int) - 1))).IsRevIter s1.heap.objs.size a ((xs.length:Int) - 1 - (0:Nat)):=by
   refine ⟨_,Heap.get?_push_size _ rfl,rfl,?_⟩
   have e:(xs.length:Int) - 1 - (0:Nat) = (its.toArray.size:Int) - 1:=by rw [List.size_toArray,← hlen]; omega
   rw [e]
   rfl
  refine wpAny_pyIter_revIter (s:={ s1 with heap:=s1.heap.push (revObj a ((its.toArray.size:Int) - 1)) }) hr ?_
  refine ⟨_,[s1.heap.objs.size],_,_,H1,rfl,I1.kept (t':=s1.toks) fun b o e=>Heap.get?_push_of_some _ e,jph a _ xs,⟨Nat.zero_le _,hr⟩,fun b hb=>?_,q⟩
  have e:b = s1.heap.objs.size:=by simpa using hb
  subst e
  exact I1.fpOk (Nat.le_refl _) (I1.hok.fresh (Nat.le_refl _))
theorem jsz {K:PySem.W.Frag} {a:Addr} {xs:List V} {g:TG} {tb:TS} {D:Ends} {σ:St} {H:Hp} (Pv:Nat→St→Hp→Prop) (h0:Pv 0 σ H) (hl:∀ i σ H,i ≤ xs.length→Pv i σ H→SqL K H a xs)
  (hs:∀ i x σ H,xs[xs.length - 1 - i]? = some x→i < xs.length→Pv i σ H→g x σ H fun σ2 H2=>tb { D with nx:=Pv (i + 1),ct:=Pv (i + 1),bk:=D.nx } σ2 H2) (hd:∀ σ H,Pv xs.length σ H→D.nx σ H) :
  ∃ W:Nat→Nat→St→Hp→Prop,(∃ m,W 0 m σ H)∧∀ i m σ H,W i m σ H →
   ((Itv K a xs).stop i H∧D.nx σ H) ∨ ((Itv K a xs).go i H∧∃ N:St→Hp→Prop,(∀ σ' H',N σ' H'→∃ m',m' < m∧W (i + 1) m' σ' H')∧∀ x H',(Itv K a xs).yld i H x H'→g x σ H' fun σ2 H2=>tb { D with nx:=N,ct:=N,bk:=D.nx } σ2 H2):=by
 refine ⟨fun i m σ H=>m = xs.length - i∧i ≤ xs.length∧Pv i σ H,⟨xs.length,by simp,Nat.zero_le _,h0⟩,?_⟩
 rintro i m σ H ⟨rfl,hi,p⟩
 have q:=hl i σ H hi p
 by_cases hlt:i < xs.length
 ·refine .inr ⟨⟨q,hlt⟩,Pv (i + 1),fun σ' H' p'=>⟨xs.length - (i + 1),by omega,rfl,hlt,p'⟩,fun x H' y=>?_⟩
  obtain ⟨e,e1⟩:=y
  subst e
  exact hs i x σ H' e1 hlt p
 ·have e:i = xs.length:=by omega
  subst e
  exact .inl ⟨⟨q,Nat.le_refl _⟩,hd σ H p⟩
def rMinT (K:PySem.W.Frag):List V→Hp→VK→Prop:=fun vs H Q=>∃ (p q:Addr) (ns ms:List Int),vs = [.ref p,.ref q]∧SqT K H p (ns.map V.int)∧SqT K H q (ms.map V.int)∧Q (.ref (if HT.lexLt ms ns = true then q else p)) H
theorem jp3 {X:Cx} (hc:X.calm = true) (hu:X.A.in1.units < cLine):jc7 X (.builtin "min") (rMinT X.K):=by
 intro pins s σ H xs us Q I r h
 obtain ⟨p,q,ns,ms,rfl,ep,eq,h⟩:=h
 obtain ⟨u,w',rfl,r1,r2⟩:=vals2 r
 cases r1
 cases r2
 obtain ⟨its,rr,e1,_⟩:=I.tuple ep
 obtain ⟨its2,rr2,e2,_⟩:=I.tuple eq
 have i1:IntsAre its.toArray.toList ns:=jc0 rr
 have i2:IntsAre its2.toArray.toList ms:=jc0 rr2
 refine jg9 (bt:=HT.lexLt ms ns) (I.ok.hd hc) (fun h' tk Q' E' k q'=>?_) fun h' tk k=>⟨_,H,I.kept k,?_,h⟩
 ·exact HT.lt_tupInts (s:={ s with heap:=h',toks:=tk }) (e2.keeps k) (e1.keeps k) i2 i1 hu q'
 ·cases HT.lexLt ms ns <;> rfl
def fNeO:R2:=fun x y H Q=>match x,y with
 | .int i,.int j=>Q (.bl (!decide (i = j))) H
 | .non,.int _=>Q (.bl true) H
 | _,_=>False
theorem q_neO {X:Cx}:OpR X (compareOp .NotEq) fNeO:=op_ne.imp fun x y H Q h=>by
 unfold fNeO at h
 split at h
 ·rename_i i j
  refine ⟨rfl,?_⟩
  have e:decide (V.int i = V.int j) = decide (i = j):=by simp
  rw [e]; exact h
 ·refine ⟨rfl,?_⟩
  have e:decide ((V.non:V) = V.int ‹Int›) = false:=by simp
  rw [e]; exact h
 ·exact h.elim
section
variable {prog:Program} {w:World} {A:Around} {E:Value→Shared→Prop} {K:Type} [DecidableEq K] {knd:KeyKind prog w K}
theorem jg1 {d:Addr} {more:List (K × Value)} {s:Shared} {Q:Value→Shared→Prop} (hh:A.handled = none) (hdS:(d == sysModules) = false) (hd:s.heap.DictOf knd d more) (hsz:more.length ≤ sizeLine)
  (h:∀ h' tk,h'.DictOf knd s.heap.objs.size (merged [] more)→(∀ b o,s.heap.get? b = some o→h'.get? b = some o)→Q (.ref s.heap.objs.size) { s with heap:=h',toks:=tk }) :
  wpAny (model prog w) A (call (.type "dict") [.ref d]) Q E s:=by
 refine callType_codes (Q₁:=fun obj s₁=>obj = .ref s.heap.objs.size∧s₁ = { s with heap:=s.heap.push { cls:=.type "dict",data:=.dict #[] } }) F.kt_called_dict (F.kt_typeCall_dict_1 _) F.entry_dict_init (kt_code_dict_new _ ⟨rfl,rfl⟩) ?_
 rintro obj s₁ ⟨rfl,rfl⟩
 have hnew:(s.heap.push { cls:=.type "dict",data:=.dict #[] }).DictOf knd s.heap.objs.size []:=Heap.DictOf.new s.heap
 have k1:∀ b o,s.heap.get? b = some o→(s.heap.push { cls:=.type "dict",data:=.dict #[] }).get? b = some o:=fun b o q=>Heap.get?_push_of_some _ q
 obtain ⟨od,hod⟩:∃ o,s.heap.get? d = some o:=by
  obtain ⟨o,ho,_⟩:=hd.typeIs (s:=s)
  exact ⟨o,ho⟩
 have llt:d < s.heap.objs.size:=Heap.lt_size hod
 have hd1:(s.heap.push { cls:=.type "dict",data:=.dict #[] }).DictOf knd d more:=let ⟨o,es,ep,ho,r⟩:=hd; ⟨o,es,ep,k1 _ _ ho,r⟩
 generalize s.heap.push { cls:=.type "dict",data:=.dict #[] } = h1 at hnew k1 hd1
 refine ⟨hnew.typeIs,F.args_dict_init_2 _ _,?_⟩
 unfold Builtin.«dict.__init__»
 refine wpAny_bind ?_
 unfold Builtin.Dict.selfAndRest
 refine wpAny_bind (wpAny_notOrdered_dict hnew.typeIs ?_)
 show wpAny _ _ (pure (s.heap.objs.size,[Value.ref d])) _ _ _
 refine wpAny_pure ?_
 show wpAny _ _ (Builtin.Dict.updateFrom "dict.__init__" s.heap.objs.size (.ref d) [] .none) _ _ _
 unfold Builtin.Dict.updateFrom
 refine wpAny_bind (wpAny_typeOf hd1.typeIs ?_)
 rw [if_neg (by decide)]
 refine wpAny_bind ?_
 unfold Builtin.Dict.merge
 refine wpAny_bind ?_
 unfold Builtin.Dict.readDirectly
 refine wpAny_bind (wpAny_isInstance hd1.typeIs isSubtype_dict_dict ?_)
 simp only [Bool.not_true,Bool.false_eq_true,if_false]
 refine wpAny_bind (wpAny_specialOf hd1.typeIs PySem.F.slot_dict_iter.lookup (wpAny_pure ?_))
 simp only [beq_self_eq_true,if_true]
 refine wpAny_bind (wpAny_pure ?_)
 refine wpAny_mergeDict (hsz:=by simpa using hsz) (Nat.ne_of_gt llt) hdS hnew hd1 fun h' hd' ho' hs'=>?_
 show wpAny _ _ (Builtin.Dict.addKeywords s.heap.objs.size [] >>= _) _ _ _
 refine wpAny_bind (wpAny_pure (wpAny_pure ⟨rfl,h h' s.toks hd' fun b o e=>?_⟩))
 rw [hs'.2 b (Nat.ne_of_lt (Heap.lt_size e))]
 exact k1 b o e
end
def jqz:List V→Hp→VK→Prop:=fun vs H Q=>∃ (d:Addr) (kvs:List (Key × V)),vs = [.ref d]∧Rd H d (.dK kvs)∧kvs.length ≤ 1000∧∀ e,H e = none→Q (.ref e) (upd H e (.dK (jcj [] kvs)))
theorem jly {X:Cx} (hc:X.calm = true):jc7 X (.type "dict") jqz:=by
 intro pins s σ H vs us Q I rv h
 obtain ⟨d,kvs,rfl,hd,hz,q⟩:=h
 obtain ⟨u,rfl,ru⟩:=rv.one
 cases ru
 obtain ⟨z1,lo1,vs1,rel1,dd1⟩:=jik I.hok hd
 have h1000:(1000:Nat) ≤ sizeLine:=by decide
 refine jg1 (knd:=jax X.prog X.w) (I.ok.hd hc) lo1 dd1 (by rw [← rel1.length]; omega) fun h' tk dd k=>?_
 have hm:=jc6 kvs []
 refine ⟨.ref s.heap.objs.size,upd H s.heap.objs.size (.dK (jcj [] kvs)),I.laid k (Nat.le_refl _) ?_,rfl,q _ I.fresh⟩
 exact jil (by simp at hm; omega) (by have:=I.big; exact beq_false_of_ne (Nat.ne_of_gt this)) (rel1.merge .nil) dd
def jn6:List V→Hp→VK→Prop:=fun vs H Q=>∃ (p:Addr) (kvs:List (Key × V)),vs = [.ref p]∧Rd H p (.dK kvs)∧∀ l,H l = none→Q (.ref l) (upd H l (.lst (kvs.map fun kv=>kV kv.1)))
theorem jgi {X:Cx} (hc:X.calm = true):jc7 X (.type "list") jn6:=by
 intro pins s σ H xs us Q I r h
 obtain ⟨p,kvs,rfl,e,q⟩:=h
 obtain ⟨u,rfl,rx⟩:=jlc r
 cases rx
 obtain ⟨z,lo,vs',rel,dd⟩:=jik I.hok e
 obtain ⟨ep,hat⟩:=dd.dictAt
 have hkl:=rel.length
 refine PySem.W.kdl_call (PySem.W.kdl_dict (knd:=jax X.prog X.w) (kvs:=vs') (ep:=ep) lo) (I.ok.hd hc) hat (by omega) fun h' tk acc c hkp hS hacc=>?_
 have hl:acc.toList.length = vs'.length:=by rw [Array.length_toList]; exact hacc.1
 have hv:=jhp rel hl fun j v ej=>hacc.2 j v (by rw [← Array.getElem?_toList]; exact ej)
 refine ⟨.ref s.heap.objs.size,_,I.laid (t':=tk) hkp (Nat.le_refl _) (show jbb X.prog X.w _ _ _ (.lst _) from ⟨by rw [List.length_map]; exact z,acc.toList,c,hv,?_⟩),rfl,q _ (I.hok.fresh (Nat.le_refl _))⟩
 rw [Array.toArray_toList]
 exact hS
end L2
namespace My
open PySem L2
theorem sl0:(0 ≤ sizeLine) = True:=eq_true (by decide)
theorem sl1:(1 ≤ sizeLine) = True:=eq_true (by decide)
theorem sl2:(2 ≤ sizeLine) = True:=eq_true (by decide)
theorem sl3:(3 ≤ sizeLine) = True:=eq_true (by decide)
theorem sl4:(4 ≤ sizeLine) = True:=eq_true (by decide)
end My
local macro_rules | `(tactic| walk_at "RD") => `(tactic| try simp only [L2.fInsS, L2.fIsB, L2.tSeq, L2.jru, L2.jrv, L2.tRet, L2.tRetN, L2.tIfS, L2.tAsg, L2.jd1, L2.fAug, L2.tOp, L2.tUn, L2.tC, L2.fVar, L2.fI, L2.fIC, L2.fNeg, L2.fEq, L2.fNe, L2.fIsN, L2.joi, L2.fAnd, L2.fOr, L2.fNot, L2.fB, L2.tNot, L2.tAnd, L2.tOr, L2.jow, L2.fIx, L2.fLen, L2.jhf, L2.fMin, L2.fMax, L2.fInL, L2.fSlL, L2.tSl, L2.jt0, L2.jj0, L2.jhg, L2.fBM, L2.jqe, L2.gSub, L2.jov, L2.jij, L2.jou, L2.fGLst, L2.jrh, L2.jn3, L2.jmi, L2.fCat, L2.jri, L2.fBM0, L2.fSlT, L2.fInt1, L2.tCBK, L2.fDIn, L2.jt1, L2.fIsi, L2.jgg, L2.jl3, L2.fLtT, L2.jrx, L2.tCB, L2.jrw, L2.tNil, L2.tTup, L2.tLst, L2.tIf, L2.jrt, L2.Kd.nm, L2.start, List.map_cons, List.map_nil, List.length_cons, List.length_nil, Nat.reduceAdd, Nat.reduceSub, List.replicate_succ, List.replicate_zero, List.getElem?_cons_zero, List.getElem?_cons_succ, List.set_cons_zero, List.set_cons_succ, List.append_nil, List.nil_append, List.cons_append, eq_self, true_and, and_true, if_true, Bool.false_eq_true, if_false, Bool.not_true, Bool.not_false, id_eq, My.sl0, My.sl1, My.sl2, My.sl3, My.sl4])
local macro_rules | `(tactic| simp_arith [$args,*]) => `(tactic| try simp only [L2.fInsS, L2.fIsB, L2.tSeq, L2.jru, L2.jrv, L2.tRet, L2.tRetN, L2.tIfS, L2.tAsg, L2.jd1, L2.fAug, L2.tOp, L2.tUn, L2.tC, L2.fVar, L2.fI, L2.fIC, L2.fNeg, L2.fEq, L2.fNe, L2.fIsN, L2.joi, L2.fAnd, L2.fOr, L2.fNot, L2.fB, L2.tNot, L2.tAnd, L2.tOr, L2.jow, L2.fIx, L2.fLen, L2.jhf, L2.fMin, L2.fMax, L2.fInL, L2.fSlL, L2.tSl, L2.jt0, L2.jj0, L2.jhg, L2.fBM, L2.jqe, L2.gSub, L2.jov, L2.jij, L2.jou, L2.fGLst, L2.jrh, L2.jn3, L2.jmi, L2.fCat, L2.jri, L2.fBM0, L2.fSlT, L2.fInt1, L2.tCBK, L2.fDIn, L2.jt1, L2.fIsi, L2.jgg, L2.jl3, L2.fLtT, L2.jrx, L2.tCB, L2.jrw, L2.tNil, L2.tTup, L2.tLst, L2.tIf, L2.jrt, L2.Kd.nm, L2.start, List.map_cons, List.map_nil, List.length_cons, List.length_nil, Nat.reduceAdd, Nat.reduceSub, List.replicate_succ, List.replicate_zero, List.getElem?_cons_zero, List.getElem?_cons_succ, List.set_cons_zero, List.set_cons_succ, List.append_nil, List.nil_append, List.cons_append, eq_self, true_and, and_true, if_true, Bool.false_eq_true, if_false, Bool.not_true, Bool.not_false, id_eq, My.sl0, My.sl1, My.sl2, My.sl3, My.sl4, $args,*])
namespace My
open PySem L2
theorem szl' {n:Nat} (h:n ≤ 1000):n < sizeLine:=Nat.lt_of_le_of_lt h (by decide)
def top (i:Nat):Stmt:=PySem.Challenge.pw_touchall_k69_groves_along_a_string.main.body.getD i (.Pass ⟨0,0,0,0⟩)
structure DefAt (K:PySem.W.Frag) (mg:Str→Option Value) (x:Str) (st:Stmt) (ps:List Str) (f:Addr) (fd:FuncData):Prop where
 F:Fun K x x st f fd
 b:jhl K fd ps []
 m:mg x = some (.ref f)
structure Blt (mg:Str→Option Value):Prop where
 len:mg "len" = none
 isinstance:mg "isinstance" = none
 all:mg "all" = none
 min:mg "min" = none
 list:mg "list" = none
 dict:mg "dict" = none
 int:mg "int" = none
 bool:mg "bool" = none
 str:mg "str" = none
 tuple:mg "tuple" = none
 range:mg "range" = none
 enumerate:mg "enumerate" = none
 zip:mg "zip" = none
 max:mg "max" = none
 any:mg "any" = none
 sum:mg "sum" = none
 sorted:mg "sorted" = none
structure Cst (mg:Str→Option Value) (t1 t2 t3 t4:Tok):Prop where
 MOST_PLACES:mg "MOST_PLACES" = some (.int 40 t1)
 MOST_TIES:mg "MOST_TIES" = some (.int 120 t2)
 LAST_PLACE:mg "LAST_PLACE" = some (.int 999 t3)
 MOST_PRICE:mg "MOST_PRICE" = some (.int 1000000000000 t4)
section
variable {P:Program} {w:World} {K:PySem.W.Frag} {mg:Str→Option Value} {base:Heap} {c1 c2 c3 c4:Tok}
theorem at0 {α:Type} {x:α} {r:List α}:atI (x :: r) 0 = some x:=by
 have e:atI (x :: r) ((0:Nat):Int) = some x:=jc4 rfl
 exact e
theorem at1 {α:Type} {x y:α} {r:List α}:atI (x :: y :: r) 1 = some y:=by
 have e:atI (x :: y :: r) ((1:Nat):Int) = some y:=jc4 rfl
 exact e
theorem at2 {α:Type} {x y z:α} {r:List α}:atI (x :: y :: z :: r) 2 = some z:=by
 have e:atI (x :: y :: z :: r) ((2:Nat):Int) = some z:=jc4 rfl
 exact e
def jm5:Kd→Bool
 | .int=>true
 | _=>false
def jmq:Sp:=fun vs H Q _=>∃ x k,vs = [x]∧kd H x = some k∧Q (.bl (jm5 k)) H
def jf1:Sp:=fun vs H Q _=>∃ a xs m,vs = [.ref a,.int m]∧H a = some (.tup xs)∧Q (.bl (decide ((xs.length:Int) = m))) H
def jea:Sp:=fun vs H Q _=>∃ a xs m,vs = [.ref a,.int m]∧H a = some (.lst xs)∧Q (.bl (decide ((xs.length:Int) ≤ m))) H
def jms:Sp:=fun vs H Q _=>∃ x p,vs = [x]∧Pr H x p∧Q (.bl true) H
def jdv:Sp:=fun vs H Q _=>∃ x p l s,vs = [x,.int l,.int s]∧Pr H x p∧(l < p.1∧p.1 ≤ 999∧1 ≤ p.2∧p.2 ≤ 1000000000000 - s)∧Q (.bl true) H
def hasK (kvs:List (Key × V)) (n:Int):Bool:=(valV kvs (Sum.inl n:Key)).isSome
def jf2:Sp:=fun vs H Q _=>∃ x p y q d kvs,vs = [x,y,.ref d]∧Pr H x p∧Pr H y q∧H d = some (.dK kvs)∧(HT.lexLt [q.1,q.2] [p.1,p.2] = true∧p.1 < p.2∧hasK kvs p.1 = true∧hasK kvs p.2 = true)∧Q (.bl true) H
theorem jjg {f:Addr} {fd:FuncData}  (B:Blt mg) (D:DefAt K mg "is_whole" (top 7) ["thing"] f fd):FnOk P w K mg base CX0 1 f fd ["thing"] jmq:=by
 have sc:FnScope ["thing"] ["thing"] (jaa (top 7)):=⟨rfl,rfl,rfl,by decide +kernel,rfl,by decide +kernel,by decide +kernel⟩
 refine D.F.ok sc (fun vs H Q E h=>?_) (fun cdv A outer s H vs Q E hr h=>?_)
 ·obtain ⟨x,k,rfl,_⟩:=h
  rfl
 obtain ⟨x,k,rfl,ek,h⟩:=h
 have hu:=jbg hr
 have hu0:_ < PySem.cLine:=Nat.lt_of_succ_lt hu
 refine ⟨_,(ja6 (jah (jdy (jab (jcq .int) rfl B.isinstance PyProof.Rows.boot_isinstance (ja0 (qv 0) (ja0 (jb5 (v:=.ty "int") rfl B.int PyProof.Rows.boot_int rfl) ja3))) (jdo (q_not (jab (jcq .bl) rfl B.isinstance PyProof.Rows.boot_isinstance (ja0 (qv 0) (ja0 (jb5 (v:=.ty "bool") rfl B.bool PyProof.Rows.boot_bool rfl) ja3)))))))),?_⟩
 simp_arith [ek]
 cases k <;> simpa only [isi,jm5,if_true,if_false,Bool.false_eq_true,Bool.not_true,Bool.not_false] using h
theorem jfv {f:Addr} {fd:FuncData}  (B:Blt mg) (D:DefAt K mg "is_tuple_of" (top 8) ["thing","many"] f fd):FnOk P w K mg base CX0 1 f fd ["thing","many"] jf1:=by
 have sc:FnScope ["thing","many"] ["thing","many"] (jaa (top 8)):=⟨rfl,rfl,rfl,by decide +kernel,rfl,by decide +kernel,by decide +kernel⟩
 refine D.F.ok sc (fun vs H Q E h=>?_) (fun cdv A outer s H vs Q E hr h=>?_)
 ·obtain ⟨a,xs,m,rfl,_⟩:=h
  rfl
 obtain ⟨a,xs,m,rfl,ea,h⟩:=h
 have hu:=jbg hr
 have hu0:_ < PySem.cLine:=Nat.lt_of_succ_lt hu
 refine ⟨_,(ja6 (jah (jdy (jab (jcq .tup) rfl B.isinstance PyProof.Rows.boot_isinstance (ja0 (qv 0) (ja0 (jb5 (v:=.ty "tuple") rfl B.tuple PyProof.Rows.boot_tuple rfl) ja3))) (jdo (jbz q_eq (jab jeb rfl B.len PySem.boot_len (ja0 (qv 0) ja3)) (qv 1) (jap _)))))),?_⟩
 simp_arith [kd,ea,jam,isi]
 exact h
theorem jeo {f:Addr} {fd:FuncData}  (B:Blt mg) (D:DefAt K mg "is_list_up_to" (top 10) ["thing","most"] f fd):FnOk P w K mg base CX0 1 f fd ["thing","most"] jea:=by
 have sc:FnScope ["thing","most"] ["thing","most"] (jaa (top 10)):=⟨rfl,rfl,rfl,by decide +kernel,rfl,by decide +kernel,by decide +kernel⟩
 refine D.F.ok sc (fun vs H Q E h=>?_) (fun cdv A outer s H vs Q E hr h=>?_)
 ·obtain ⟨a,xs,m,rfl,_⟩:=h
  rfl
 obtain ⟨a,xs,m,rfl,ea,h⟩:=h
 have hu:=jbg hr
 have hu0:_ < PySem.cLine:=Nat.lt_of_succ_lt hu
 refine ⟨_,(ja6 (jah (jdy (jab (jcq .lst) rfl B.isinstance PyProof.Rows.boot_isinstance (ja0 (qv 0) (ja0 (jb5 (v:=.ty "list") rfl B.list PyProof.Rows.boot_list rfl) ja3))) (jdo (jbz q_le (jab jeb rfl B.len PySem.boot_len (ja0 (qv 0) ja3)) (qv 1) (jap _)))))),?_⟩
 simp_arith [kd,ea,jam,isi]
 exact h
theorem jdl {f:Addr} {fd:FuncData} {f_is_tuple_of:Addr} {d_is_tuple_of:FuncData} {f_is_whole:Addr} {d_is_whole:FuncData} (B:Blt mg) (D:DefAt K mg "is_pair_of_wholes" (top 9) ["thing"] f fd) (D_is_tuple_of:DefAt K mg "is_tuple_of" (top 8) ["thing","many"] f_is_tuple_of d_is_tuple_of) (G_is_tuple_of:FnOk P w K mg base CX0 1 f_is_tuple_of d_is_tuple_of ["thing","many"] jf1) (D_is_whole:DefAt K mg "is_whole" (top 7) ["thing"] f_is_whole d_is_whole) (G_is_whole:FnOk P w K mg base CX0 1 f_is_whole d_is_whole ["thing"] jmq):FnOk P w K mg base CX0 2 f fd ["thing"] jms:=by
 have sc:FnScope ["thing"] ["thing"] (jaa (top 9)):=⟨rfl,rfl,rfl,by decide +kernel,rfl,by decide +kernel,by decide +kernel⟩
 refine D.F.ok sc (fun vs H Q E h=>?_) (fun cdv A outer s H vs Q E hr h=>?_)
 ·obtain ⟨x,p,rfl,_⟩:=h
  rfl
 obtain ⟨x,p,rfl,⟨a,rfl,ea⟩,h⟩:=h
 have hu:=jbg hr
 have hu0:_ < PySem.cLine:=Nat.lt_of_succ_lt hu
 refine ⟨_,(ja6 (jah (jdy (ja9 G_is_tuple_of (hr.mono (by decide)) rfl D_is_tuple_of.m D_is_tuple_of.F.kp D_is_tuple_of.b .nil jan (ja0 (qv 0) (ja0 ja4 ja3))) (jdy (ja9 G_is_whole (hr.mono (by decide)) rfl D_is_whole.m D_is_whole.F.kp D_is_whole.b .nil jan (ja0 (jae q_ix (qv 0) ja4 (fun _ _=>rfl)) ja3)) (jdo (ja9 G_is_whole (hr.mono (by decide)) rfl D_is_whole.m D_is_whole.F.kp D_is_whole.b .nil jan (ja0 (jae q_ix (qv 0) ja4 (fun _ _=>rfl)) ja3))))))),?_⟩
 simp_arith [jam,ea,at0,at1]
 refine ⟨a,_,2,rfl,ea,?_⟩
 simp_arith [jam,ea,at0,at1,Int.cast_ofNat_Int,decide_true]
 refine ⟨_,.int,rfl,rfl,?_⟩
 simp_arith [jm5,jam,ea,at0,at1]
 exact ⟨_,.int,rfl,rfl,h⟩
theorem jf9 {f:Addr} {fd:FuncData} {f_is_pair_of_wholes:Addr} {d_is_pair_of_wholes:FuncData} (B:Blt mg) (C:Cst mg c1 c2 c3 c4) (D:DefAt K mg "place_stands" (top 16) ["thing","last","spent"] f fd) (D_is_pair_of_wholes:DefAt K mg "is_pair_of_wholes" (top 9) ["thing"] f_is_pair_of_wholes d_is_pair_of_wholes) (G_is_pair_of_wholes:FnOk P w K mg base CX0 2 f_is_pair_of_wholes d_is_pair_of_wholes ["thing"] jms):FnOk P w K mg base CX0 3 f fd ["thing","last","spent"] jdv:=by
 have sc:FnScope ["thing","last","spent"] ["thing","last","spent"] (jaa (top 16)):=⟨rfl,rfl,rfl,by decide +kernel,rfl,by decide +kernel,by decide +kernel⟩
 refine D.F.ok sc (fun vs H Q E h=>?_) (fun cdv A outer s H vs Q E hr h=>?_)
 ·obtain ⟨x,p,l,s,rfl,_⟩:=h
  rfl
 obtain ⟨x,p,l,sp,rfl,hp,⟨b1,b2,b3,b4⟩,h⟩:=h
 obtain ⟨a,rfl,ea⟩:=id hp
 have hu:=jbg hr
 have hu0:_ < PySem.cLine:=Nat.lt_of_succ_lt hu
 refine ⟨_,(ja2 (jbd (jc5 (jb4 (ja9 G_is_pair_of_wholes (hr.mono (by decide)) rfl D_is_pair_of_wholes.m D_is_pair_of_wholes.F.kp D_is_pair_of_wholes.b .nil jan (ja0 (qv 0) ja3)))) (ja6 (jah je0)) jak) (ja6 (jah (jdy (jnb q_lt q_le (qv 1) (jae q_ix (qv 0) ja4 (fun _ _=>rfl)) (jf6 (v:=.int 999) rfl C.LAST_PLACE ⟨_,rfl⟩)) (jdo (jnb q_le q_le ja4 (jae q_ix (qv 0) ja4 (fun _ _=>rfl)) (jb0 q_sub (jf6 (v:=.int 1000000000000) rfl C.MOST_PRICE ⟨_,rfl⟩) (qv 2)))))))),?_⟩
 walk_at "RD"
 refine ⟨_,p,rfl,hp,?_⟩
 simp_arith [jam,ea,at0,at1,decide_eq_true b1,decide_eq_true b2,decide_eq_true b3,decide_eq_true b4]
 exact h
theorem jh0 {f:Addr} {fd:FuncData} {f_is_pair_of_wholes:Addr} {d_is_pair_of_wholes:FuncData} (B:Blt mg) (D:DefAt K mg "tie_stands" (top 17) ["thing","last","prices"] f fd) (D_is_pair_of_wholes:DefAt K mg "is_pair_of_wholes" (top 9) ["thing"] f_is_pair_of_wholes d_is_pair_of_wholes) (G_is_pair_of_wholes:FnOk P w K mg base CX0 2 f_is_pair_of_wholes d_is_pair_of_wholes ["thing"] jms):FnOk P w K mg base CX0 3 f fd ["thing","last","prices"] jf2:=by
 have sc:FnScope ["thing","last","prices"] ["thing","last","prices"] (jaa (top 17)):=⟨rfl,rfl,rfl,by decide +kernel,rfl,by decide +kernel,by decide +kernel⟩
 refine D.F.ok sc (fun vs H Q E h=>?_) (fun cdv A outer s H vs Q E hr h=>?_)
 ·obtain ⟨x,p,y,q,d,kvs,rfl,_⟩:=h
  rfl
 obtain ⟨x,p,y,q,d,kvs,rfl,hp,hq,hd,⟨b1,b2,b3,b4⟩,h⟩:=h
 obtain ⟨a,rfl,ea⟩:=id hp
 obtain ⟨b,rfl,eb⟩:=id hq
 unfold hasK at b3 b4
 have hu:=jbg hr
 have hu0:_ < PySem.cLine:=Nat.lt_of_succ_lt hu
 refine ⟨_,(ja2 (jbd (jc5 (jb4 (ja9 G_is_pair_of_wholes (hr.mono (by decide)) rfl D_is_pair_of_wholes.m D_is_pair_of_wholes.F.kp D_is_pair_of_wholes.b .nil jan (ja0 (qv 0) ja3)))) (ja6 (jah je0)) jak) (ja6 (jah (jdy (jbz (q_ltT hu0) (qv 1) (qv 0) (jap _)) (jdy (jbz q_lt (jae q_ix (qv 0) ja4 (fun _ _=>rfl)) (jae q_ix (qv 0) ja4 (fun _ _=>rfl)) (jap _)) (jdy (jr6 (q_din hu (jae q_ix (qv 0) ja4 (fun _ _=>rfl)) (qv 2))) (jdo (jr6 (q_din hu (jae q_ix (qv 0) ja4 (fun _ _=>rfl)) (qv 2)))))))))),?_⟩
 walk_at "RD"
 refine ⟨_,p,rfl,hp,?_⟩
 simp_arith [jam,ea,eb,hd,at0,at1,b1,decide_eq_true b2,b3,b4]
 exact h
end
end My
namespace My
open PySem L2
section
variable {P:Program} {w:World} {K:PySem.W.Frag} {mg:Str→Option Value} {base:Heap} {c1 c2 c3 c4:Tok}
def PlOk:Int→Int→List (Int × Int)→Prop
 | _,_,[]=>True
 | l,s,p :: r=>(l < p.1∧p.1 ≤ 999∧1 ≤ p.2∧p.2 ≤ 1000000000000 - s)∧PlOk p.1 (s + p.2) r
def jbk (ps:List (Int × Int)):List (Key × V):=ps.map fun p=>(Sum.inl p.1,V.int p.2)
def TiOk (kvs:List (Key × V)):Int × Int→List (Int × Int)→Prop
 | _,[]=>True
 | q,p :: r=>(HT.lexLt [q.1,q.2] [p.1,p.2] = true∧p.1 < p.2∧hasK kvs p.1 = true∧hasK kvs p.2 = true)∧TiOk kvs p r
structure WebOk (ps ts:List (Int × Int)):Prop where
 pl:ps.length ≤ 40
 p:PlOk (-1) 0 ps
 tl:ts.length ≤ 120
 t:TiOk (jbk ps) (-1,-1) ts
def jd5 (H:Hp) (v:V) (ps ts:List (Int × Int)):Prop :=
 ∃ u pa ta xs ys,v = .ref u∧H u = some (.tup [.ref pa,.ref ta])∧H pa = some (.lst xs)∧H ta = some (.lst ys)∧Prs H xs ps∧Prs H ys ts
theorem jd5.same {H H':Hp} {v:V} {ps ts:List (Int × Int)} (h:jd5 H v ps ts) (s:Same H H'):jd5 H' v ps ts:=by
 obtain ⟨u,pa,ta,xs,ys,e,h1,h2,h3,h4,h5⟩:=h
 exact ⟨u,pa,ta,xs,ys,e,s _ _ h1,s _ _ h2,s _ _ h3,Prs.same s h4,Prs.same s h5⟩
theorem PlOk.gt:∀ {ps:List (Int × Int)} {l s:Int},PlOk l s ps→∀ p ∈ ps,l < p.1
 | [],_,_,_,_,h=>by cases h
 | q :: r,l,s,h,p,hp=>by
  rcases List.mem_cons.mp hp with e | hp
  ·rw [e]; exact h.1.1
  ·have:=PlOk.gt h.2 p hp
   have:=h.1.1
   omega
theorem PlOk.nodup:∀ {ps:List (Int × Int)} {l s:Int},PlOk l s ps→(ps.map (·.1)).Nodup
 | [],_,_,_=>List.nodup_nil
 | q :: r,l,s,h=>by
  rw [List.map_cons]
  refine List.nodup_cons.mpr ⟨fun hm=>?_,PlOk.nodup h.2⟩
  obtain ⟨p,hp,e⟩:=List.mem_map.mp hm
  have:=PlOk.gt h.2 p hp
  omega
theorem jgd {ps:List (Int × Int)} (h:(ps.map (·.1)).Nodup):((jbk ps).map (·.1)).Nodup:=by
 unfold jbk
 rw [List.map_map]
 have e:((fun (x:Key × V)=>x.1) ∘ fun (p:Int × Int)=>((Sum.inl p.1:Key),V.int p.2)) = (fun (n:Int)=>(Sum.inl n:Key)) ∘ fun (p:Int × Int)=>p.1:=rfl
 rw [e,← List.map_map]
 unfold List.Nodup at h ⊢
 rw [List.pairwise_map]
 exact h.imp fun q z=>q (Sum.inl.inj z)
theorem jgz {H:Hp}:∀ {xs:List V} {ps:List (Int × Int)},Prs H xs ps→Paired (PairAt H) xs (jbk ps)
 | _,_,.nil=>.nil
 | _,_,.cons r t=>by
  obtain ⟨a,e,q⟩:=r
  exact .cons ⟨a,e,q⟩ (jgz t)
theorem jma:∀ {ps:List (Int × Int)} {p:Int × Int},(ps.map (·.1)).Nodup→p ∈ ps→valV (jbk ps) (Sum.inl p.1:Key) = some (.int p.2)
 | [],_,_,h=>by cases h
 | q :: r,p,hn,h=>by
  rw [List.map_cons] at hn
  unfold jbk valV
  rw [List.map_cons,List.find?_cons]
  rcases List.mem_cons.mp h with e | h
  ·rw [e]
   simp
  ·have hne:q.1 ≠ p.1:=fun z=>(List.nodup_cons.mp hn).1 (by rw [z]; exact List.mem_map_of_mem h)
   have hd:decide ((Sum.inl q.1:Key) = Sum.inl p.1) = false:=decide_eq_false fun z=>hne (Sum.inl.inj z)
   dsimp only
   rw [hd]
   exact jma (List.nodup_cons.mp hn).2 h
theorem jjr {ps:List (Int × Int)} {p:Int × Int} (hn:(ps.map (·.1)).Nodup) (h:p ∈ ps):hasK (jbk ps) p.1 = true:=by
 unfold hasK
 rw [jma hn h]
 rfl
def jeg:Sp:=fun vs H Q _=>∃ a xs ps,vs = [.ref a]∧H a = some (.lst xs)∧Prs H xs ps∧ps.length ≤ 40∧PlOk (-1) 0 ps∧∀ H',Same H H'→Q .non H'
def jg4:Sp:=fun vs H Q _=>∃ a d xs ts kvs,vs = [.ref a,.ref d]∧H a = some (.lst xs)∧H d = some (.dK kvs)∧Prs H xs ts∧ts.length ≤ 120∧TiOk kvs (-1,-1) ts∧∀ H',Same H H'→Q .non H'
def jf3:Sp:=fun vs H Q _=>∃ v ps ts,vs = [v]∧jd5 H v ps ts∧WebOk ps ts∧∀ H',Same H H'→Q .non H'
theorem jed {f:Addr} {fd:FuncData} {f_is_list_up_to:Addr} {d_is_list_up_to:FuncData} {f_place_stands:Addr} {d_place_stands:FuncData} (B:Blt mg) (C:Cst mg c1 c2 c3 c4) (D:DefAt K mg "look_at_places" (top 18) ["places"] f fd) (D_is_list_up_to:DefAt K mg "is_list_up_to" (top 10) ["thing","most"] f_is_list_up_to d_is_list_up_to) (G_is_list_up_to:FnOk P w K mg base CX0 1 f_is_list_up_to d_is_list_up_to ["thing","most"] jea) (D_place_stands:DefAt K mg "place_stands" (top 16) ["thing","last","spent"] f_place_stands d_place_stands) (G_place_stands:FnOk P w K mg base CX0 3 f_place_stands d_place_stands ["thing","last","spent"] jdv):FnOk P w K mg base CX0 4 f fd ["places"] jeg:=by
 have sc:FnScope ["places","last","spent","number","thing"] ["places"] (jaa (top 18)):=⟨rfl,rfl,rfl,by decide +kernel,rfl,by decide +kernel,by decide +kernel⟩
 refine D.F.ok sc (fun vs H Q E h=>?_) (fun cdv A outer s H vs Q E hr h=>?_)
 ·obtain ⟨a,xs,ps,rfl,_⟩:=h
  rfl
 obtain ⟨a,xs,ps,rfl,ea,hp,hl,ok,h⟩:=h
 have hlx:xs.length = ps.length:=Paired.length hp
 have hu:=jbg hr
 have hu0:_ < PySem.cLine:=Nat.lt_of_succ_lt hu
 refine ⟨_,(ja2 (jbd (jc5 (jb4 (ja9 G_is_list_up_to (hr.mono (by decide)) rfl D_is_list_up_to.m D_is_list_up_to.F.kp D_is_list_up_to.b .nil jan (ja0 (qv 0) (ja0 (jf6 (v:=.int 40) rfl C.MOST_PLACES ⟨_,rfl⟩) ja3))))) (ja6 jci) jak) (ja2 (jag (i:=1) sc.nd rfl (Or.inl rfl) (jpw jpp ja4)) (ja2 (jag (i:=2) sc.nd rfl (Or.inl rfl) ja4) (ja6 (jbu PassesOwn.never rfl (jnl rfl B.enumerate (ja0 (qv 0) ja3)) (jcp (n:=2) rfl (jaj (jad (i:=3) sc.nd rfl (Or.inl rfl)) (jaj (jad (i:=4) sc.nd rfl (Or.inl rfl)) jbw))) (ja2 (jbd (jc5 (jb4 (ja9 G_place_stands (hr.mono (by decide)) rfl D_place_stands.m D_place_stands.F.kp D_place_stands.b .nil jan (ja0 (qv 4) (ja0 (qv 1) (ja0 (qv 2) ja3)))))) (ja6 jci) jak) (ja2 (jag (i:=1) sc.nd rfl (Or.inl rfl) (jae q_ix (qv 4) ja4 (fun _ _=>rfl))) (ja6 (jr0 (i:=2) sc.nd rfl (Or.inl rfl) (jae q_ix (qv 4) ja4 (fun _ _=>rfl)) jr1))))))))),?_⟩
 walk_at "RD"
 refine ⟨a,xs,40,rfl,ea,?_⟩
 rw [decide_eq_true (show (xs.length:Int) ≤ 40 by omega)]
 walk_at "RD"
 refine ⟨a,rfl,⟨xs,SqL.of ea⟩,jl1 (K:=K) (a:=a) (xs:=xs) (fun i σ H1=>∃ l sp nb th,σ = [some (.ref a),some (.int l),some (.int sp),nb,th]∧Same H H1∧PlOk l sp (ps.drop i)) ⟨-1,0,none,none,rfl,Same.refl _,ok⟩ (fun i σ H1 _ ⟨_,_,_,_,_,s1,_⟩=>SqL.of (s1 _ _ ea)) ?_ ?_⟩
 ·rintro i x σ H1 t hi ⟨l,sp,nb,th,rfl,s1,ok1⟩ ht
  obtain ⟨p,hpi,px⟩:=jao hp hi
  rw [jl6 hpi] at ok1
  have s2:Same H (upd H1 t (.tup [.int i,x])):=s1.trans (ja5 ht _)
  have px2:=px.same s2
  obtain ⟨u,rfl,eu⟩:=id px2
  simp_arith [ja1]
  refine ⟨_,p,l,sp,rfl,px2,ok1.1,?_⟩
  simp_arith [jam,eu,at0,at1]
  exact ⟨_,_,_,_,rfl,s2,ok1.2⟩
 ·rintro σ H1 ⟨l,sp,nb,th,rfl,s1,_⟩
  exact h H1 s1
theorem jfa {f:Addr} {fd:FuncData} {f_is_list_up_to:Addr} {d_is_list_up_to:FuncData} {f_tie_stands:Addr} {d_tie_stands:FuncData} (B:Blt mg) (C:Cst mg c1 c2 c3 c4) (D:DefAt K mg "look_at_ties" (top 19) ["ties","prices"] f fd) (D_is_list_up_to:DefAt K mg "is_list_up_to" (top 10) ["thing","most"] f_is_list_up_to d_is_list_up_to) (G_is_list_up_to:FnOk P w K mg base CX0 1 f_is_list_up_to d_is_list_up_to ["thing","most"] jea) (D_tie_stands:DefAt K mg "tie_stands" (top 17) ["thing","last","prices"] f_tie_stands d_tie_stands) (G_tie_stands:FnOk P w K mg base CX0 3 f_tie_stands d_tie_stands ["thing","last","prices"] jf2):FnOk P w K mg base CX0 4 f fd ["ties","prices"] jg4:=by
 have sc:FnScope ["ties","prices","last","number","thing"] ["ties","prices"] (jaa (top 19)):=⟨rfl,rfl,rfl,by decide +kernel,rfl,by decide +kernel,by decide +kernel⟩
 refine D.F.ok sc (fun vs H Q E h=>?_) (fun cdv A outer s H vs Q E hr h=>?_)
 ·obtain ⟨a,d,xs,ts,kvs,rfl,_⟩:=h
  rfl
 obtain ⟨a,d,xs,ts,kvs,rfl,ea,ed,hp,hl,ok,h⟩:=h
 have hlx:xs.length = ts.length:=Paired.length hp
 have hu:=jbg hr
 have hu0:_ < PySem.cLine:=Nat.lt_of_succ_lt hu
 refine ⟨_,(ja2 (jbd (jc5 (jb4 (ja9 G_is_list_up_to (hr.mono (by decide)) rfl D_is_list_up_to.m D_is_list_up_to.F.kp D_is_list_up_to.b .nil jan (ja0 (qv 0) (ja0 (jf6 (v:=.int 120) rfl C.MOST_TIES ⟨_,rfl⟩) ja3))))) (ja6 jci) jak) (ja2 (jag (i:=2) sc.nd rfl (Or.inl rfl) (jb8 (ja0 (jpw jpp ja4) (ja0 (jpw jpp ja4) ja3)))) (ja6 (jbu PassesOwn.never rfl (jnl rfl B.enumerate (ja0 (qv 0) ja3)) (jcp (n:=2) rfl (jaj (jad (i:=3) sc.nd rfl (Or.inl rfl)) (jaj (jad (i:=4) sc.nd rfl (Or.inl rfl)) jbw))) (ja2 (jbd (jc5 (jb4 (ja9 G_tie_stands (hr.mono (by decide)) rfl D_tie_stands.m D_tie_stands.F.kp D_tie_stands.b .nil jan (ja0 (qv 4) (ja0 (qv 2) (ja0 (qv 1) ja3)))))) (ja6 jci) jak) (ja6 (jag (i:=2) sc.nd rfl (Or.inl rfl) (qv 4)))))))),?_⟩
 walk_at "RD"
 refine ⟨a,xs,120,rfl,ea,?_⟩
 rw [decide_eq_true (show (xs.length:Int) ≤ 120 by omega)]
 walk_at "RD"
 intro t0 ht0
 refine ⟨a,rfl,⟨xs,SqL.of (ja5 ht0 _ _ _ ea)⟩,jl1 (K:=K) (a:=a) (xs:=xs) (fun i σ H1=>∃ lv q nb th,σ = [some (.ref a),some (.ref d),some lv,nb,th]∧Same H H1∧Pr H1 lv q∧TiOk kvs q (ts.drop i)) ⟨_,(-1,-1),none,none,rfl,ja5 ht0 _,⟨t0,rfl,ja1⟩,ok⟩ (fun i σ H1 _ ⟨_,_,_,_,_,s1,_⟩=>SqL.of (s1 _ _ ea)) ?_ ?_⟩
 ·rintro i x σ H1 t hi ⟨lv,q,nb,th,rfl,s1,pq,ok1⟩ ht
  obtain ⟨p,hpi,px⟩:=jao hp hi
  rw [jl6 hpi] at ok1
  have s2:Same H (upd H1 t (.tup [.int i,x])):=s1.trans (ja5 ht _)
  have px2:=px.same s2
  simp_arith [ja1]
  refine ⟨_,p,_,q,d,kvs,rfl,px2,pq.same (ja5 ht _),s2 _ _ ed,ok1.1,?_⟩
  walk_at "RD"
  exact ⟨_,_,_,_,rfl,s2,px2,ok1.2⟩
 ·rintro σ H1 ⟨lv,q,nb,th,rfl,s1,_⟩
  exact h H1 s1
theorem jft {f:Addr} {fd:FuncData} {f_is_tuple_of:Addr} {d_is_tuple_of:FuncData} {f_look_at_places:Addr} {d_look_at_places:FuncData} {f_look_at_ties:Addr} {d_look_at_ties:FuncData} (B:Blt mg) (D:DefAt K mg "look_at_web" (top 20) ["thing"] f fd) (D_is_tuple_of:DefAt K mg "is_tuple_of" (top 8) ["thing","many"] f_is_tuple_of d_is_tuple_of) (G_is_tuple_of:FnOk P w K mg base CX0 1 f_is_tuple_of d_is_tuple_of ["thing","many"] jf1) (D_look_at_places:DefAt K mg "look_at_places" (top 18) ["places"] f_look_at_places d_look_at_places) (G_look_at_places:FnOk P w K mg base CX0 4 f_look_at_places d_look_at_places ["places"] jeg) (D_look_at_ties:DefAt K mg "look_at_ties" (top 19) ["ties","prices"] f_look_at_ties d_look_at_ties) (G_look_at_ties:FnOk P w K mg base CX0 4 f_look_at_ties d_look_at_ties ["ties","prices"] jg4):FnOk P w K mg base CX0 5 f fd ["thing"] jf3:=by
 have sc:FnScope ["thing"] ["thing"] (jaa (top 20)):=⟨rfl,rfl,rfl,by decide +kernel,rfl,by decide +kernel,by decide +kernel⟩
 refine D.F.ok sc (fun vs H Q E h=>?_) (fun cdv A outer s H vs Q E hr h=>?_)
 ·obtain ⟨v,ps,ts,rfl,_⟩:=h
  rfl
 obtain ⟨v,ps,ts,rfl,hw,ok,h⟩:=h
 obtain ⟨u,pa,ta,xs,ys,rfl,eu,ep,et,pp,pt⟩:=hw
 have hlx:xs.length = ps.length:=Paired.length pp
 have okl:=ok.pl
 have hu:=jbg hr
 have hu0:_ < PySem.cLine:=Nat.lt_of_succ_lt hu
 refine ⟨_,(ja2 (jbd (jc5 (jb4 (ja9 G_is_tuple_of (hr.mono (by decide)) rfl D_is_tuple_of.m D_is_tuple_of.F.kp D_is_tuple_of.b .nil jan (ja0 (qv 0) (ja0 ja4 ja3))))) (ja6 jci) jak) (ja2 (jc3 (ja9 G_look_at_places (hr.mono (by decide)) rfl D_look_at_places.m D_look_at_places.F.kp D_look_at_places.b .nil jan (ja0 (jae q_ix (qv 0) ja4 (fun _ _=>rfl)) ja3))) (ja6 (jc3 (ja9 G_look_at_ties (hr.mono (by decide)) rfl D_look_at_ties.m D_look_at_ties.F.kp D_look_at_ties.b .nil jan (ja0 (jae q_ix (qv 0) ja4 (fun _ _=>rfl)) (ja0 (jbe (jf4 rfl) rfl B.dict PyProof.Rows.boot_dict (ja0 (jae q_ix (qv 0) ja4 (fun _ _=>rfl)) ja3)) ja3))))))),?_⟩
 walk_at "RD"
 refine ⟨u,_,2,rfl,eu,?_⟩
 simp_arith [jam,eu,at0,at1,Int.cast_ofNat_Int,decide_true]
 refine ⟨pa,xs,ps,rfl,ep,pp,ok.pl,ok.p,fun H1 s1=>?_⟩
 simp_arith [jam,s1 _ _ eu,s1 _ _ ep,at0,at1]
 refine ⟨jbk ps,jgz (Prs.same s1 pp),by omega,jgd ok.p.nodup,fun d hd=>?_⟩
 have s2:Same H (upd H1 d (.dK (jbk ps))):=s1.trans (ja5 hd _)
 exact ⟨ta,d,ys,ts,_,rfl,s2 _ _ et,ja1,Prs.same s2 pt,ok.tl,ok.t,fun H3 s3=>h H3 (s2.trans s3)⟩
end
end My
namespace My
open PySem L2
section
variable {P:Program} {w:World} {K:PySem.W.Frag} {mg:Str→Option Value} {base:Heap} {c1 c2 c3 c4:Tok}
theorem ix30:ixN 3 0 = some 0:=rfl
theorem ix31:ixN 3 1 = some 1:=rfl
theorem ix32:ixN 3 2 = some 2:=rfl
def StO (o:HO):Prop:=∃ c st fl,o = .lst [.int c,.int st,.bl fl]∧0 ≤ st∧st < 4294967296
theorem StO.imm {o:HO} (h:StO o):jsu o = false:=by obtain ⟨_,_,_,rfl,_⟩:=h; rfl
def jj2 (K:PySem.W.Frag):Sp:=fun vs H Q _=>∃ a k ns,vs = [.ref a,.int k]∧Scr K H a ns∧0 ≤ k∧k ≤ 1000∧∀ s o,H s = none→StO o→Q (.ref s) (upd H s o)
def jk9:Sp:=fun vs H Q _=>∃ s o m,vs = [.ref s,.int m]∧H s = some o∧StO o∧1 ≤ m∧m < 1073741824∧∀ d o,0 ≤ d→d < m→StO o→Q (.int d) (upd H s o)
theorem cmR {i j:Int} (h1:-(2 ^ 64) < j) (h2:j < 2 ^ 64):CMul i j:=.inr ⟨h1,h2⟩
theorem cmL {i j:Int} (h1:-(2 ^ 64) < i) (h2:i < 2 ^ 64):CMul i j:=.inl ⟨h1,h2⟩
def Dr:Int→List (Int × Int)→Prop
 | _,[]=>True
 | l,p :: r=>(l < p.1∧p.1 ≤ l + 23∧1 ≤ p.2∧p.2 ≤ 1000000000)∧Dr p.1 r
def jo7 (l:Int):List (Int × Int)→Int
 | []=>l
 | p :: r=>jo7 p.1 r
theorem Dr.snoc:∀ {ps:List (Int × Int)} {l:Int} {p:Int × Int},Dr l ps→(jo7 l ps < p.1∧p.1 ≤ jo7 l ps + 23∧1 ≤ p.2∧p.2 ≤ 1000000000)→Dr l (ps ++ [p])
 | [],_,_,_,h=>⟨h,trivial⟩
 | q :: r,_,_,h,h2=>⟨h.1,Dr.snoc h.2 h2⟩
theorem jgb:∀ {ps:List (Int × Int)} {l:Int} {p:Int × Int},jo7 l (ps ++ [p]) = p.1
 | [],_,_=>rfl
 | q :: r,_,_=>jgb (ps:=r)
def But (s:Addr) (H H':Hp):Prop:=∀ b o,b ≠ s→H b = some o→H' b = some o
theorem But.refl (s:Addr) (H:Hp):But s H H:=fun _ _ _ q=>q
theorem But.trans {s:Addr} {H H1 H2:Hp} (a:But s H H1) (b:But s H1 H2):But s H H2:=fun c o n q=>b c o n (a c o n q)
theorem But.at (s:Addr) (H:Hp) (o:HO):But s H (upd H s o):=fun b u n q=>by rw [ja8 n]; exact q
theorem But.new {s t:Addr} {H:Hp} {o:HO} (h:H t = none):But s H (upd H t o):=fun b u n q=>by rw [ja8 (ja7 q h)]; exact q
theorem But.tups {s:Addr} {H H':Hp} (h:But s H H') {o:HO} (e:H s = some o) (i:jsu o = false):TupS H H':=fun b u z q=>h b u (fun x=>by rw [x,e] at q; cases q; rw [i] at z; cases z) q
theorem at3 {α:Type} {x y z u:α} {r:List α}:atI (x :: y :: z :: u :: r) 3 = some u:=by
 have e:atI (x :: y :: z :: u :: r) ((3:Nat):Int) = some u:=jc4 rfl
 exact e
theorem menu4 {a b c e d:Int} (h0:0 ≤ d) (h1:d < 4):∃ v,atI [V.int a,.int b,.int c,.int e] d = some (.int v)∧(v = a ∨ v = b ∨ v = c ∨ v = e):=by
 have hd:d = 0 ∨ d = 1 ∨ d = 2 ∨ d = 3:=by omega
 rcases hd with rfl | rfl | rfl | rfl
 ·exact ⟨a,at0,.inl rfl⟩
 ·exact ⟨b,at1,.inr (.inl rfl)⟩
 ·exact ⟨c,at2,.inr (.inr (.inl rfl))⟩
 ·exact ⟨e,at3,.inr (.inr (.inr rfl))⟩
theorem p9:(10:Int) ^ Int.toNat 9 = 1000000000:=by decide
def jka:Sp:=fun vs H Q _=>∃ s o n,vs = [.ref s,.int n]∧H s = some o∧StO o∧0 ≤ n∧n ≤ 100 ∧
 ∀ r H' o' xs ps,H r = none→But s H H'→H' s = some o'→StO o'→H' r = some (.lst xs)→Prs H' xs ps→(ps.length:Int) = n→Dr (-1) ps→Q (.ref r) H'
theorem jjc {f:Addr} {fd:FuncData}  (B:Blt mg) (D:DefAt K mg "_law_take" (top 47) ["_law_state","_law_many"] f fd):FnOk P w K mg base CX0 1 f fd ["_law_state","_law_many"] jk9:=by
 have sc:FnScope ["_law_state","_law_many","_law_digit","_law_number"] ["_law_state","_law_many"] (jaa (top 47)):=⟨rfl,rfl,rfl,by decide +kernel,rfl,by decide +kernel,by decide +kernel⟩
 refine D.F.ok sc (fun vs H Q E h=>?_) (fun cdv A outer s H vs Q E hr h=>?_)
 ·obtain ⟨s,o,m,rfl,_⟩:=h
  rfl
 obtain ⟨st,o,m,rfl,es,⟨c,x,fl,rfl,x0,x1⟩,m0,m1,h⟩:=h
 have hu:=jbg hr
 have hu0:_ < PySem.cLine:=Nat.lt_of_succ_lt hu
 refine ⟨_,(ja2 (jbd (jb4 (jae q_ix (qv 0) ja4 (fun _ _=>rfl))) (ja2 (jag (i:=2) sc.nd rfl (Or.inl rfl) (jb0 jhw (jae q_ix (qv 0) ja4 (fun _ _=>rfl)) (qv 1))) (ja2 (jg6 (jb0 jna (jae q_ix (qv 0) ja4 (fun _ _=>rfl)) (qv 1)) (jkn (qv 0) ja4 jkg)) (ja2 (jg6 (jbz q_gt (jae q_ix (qv 0) ja4 (fun _ _=>rfl)) ja4 (jap _)) (jkn (qv 0) ja4 jkg)) (ja6 (jah (qv 2)))))) jak) (ja2 (jg6 (jb0 jhw (jb0 jdr (jb0 jj3 (jae q_ix (qv 0) ja4 (fun _ _=>rfl)) ja4) ja4) ja4) (jkn (qv 0) ja4 jkg)) (ja2 (jag (i:=3) sc.nd rfl (Or.inl rfl) (jb0 jna (jb0 jhw (jb0 jj3 (jae q_ix (qv 0) ja4 (fun _ _=>rfl)) (jae q_ix (qv 0) ja4 (fun _ _=>rfl))) ja4) ja4)) (ja2 (jbd (jaw q_gt (qv 1) (jb0 js3 ja4 ja4) (jap _)) (ja2 (jg6 (jb0 jhw (jb0 jdr (jb0 jj3 (jae q_ix (qv 0) ja4 (fun _ _=>rfl)) ja4) ja4) ja4) (jkn (qv 0) ja4 jkg)) (ja6 (jag (i:=3) sc.nd rfl (Or.inl rfl) (jb0 jdr (jb0 jj3 (qv 3) ja4) (jae q_ix (qv 0) ja4 (fun _ _=>rfl)))))) jak) (ja6 (jah (jb0 jhw (qv 3) (qv 1)))))))),?_⟩
 simp_arith [jam,es,at0,at1,at2,ix30,ix31,ix32,ja1,jiz]
 have lo:∀ n:Int,0 ≤ n % m:=fun n=>Int.emod_nonneg _ (by omega)
 have hi:∀ n:Int,n % m < m:=fun n=>Int.emod_lt_of_pos _ (by omega)
 have y0:0 ≤ (x * 48271 + 39373) % 2147483647:=Int.emod_nonneg _ (by decide)
 have y1:(x * 48271 + 39373) % 2147483647 < 2147483647:=Int.emod_lt_of_pos _ (by decide)
 generalize (x * 48271 + 39373) % 2147483647 = y at y0 y1
 have z0:0 ≤ (y * 48271 + 39373) % 2147483647:=Int.emod_nonneg _ (by decide)
 have z1:(y * 48271 + 39373) % 2147483647 < 2147483647:=Int.emod_lt_of_pos _ (by decide)
 generalize (y * 48271 + 39373) % 2147483647 = z at z0 z1
 have cd:CDiv c m:=⟨by omega,by omega⟩
 have cd2:∀ n:Int,CDiv n 16:=fun n=>⟨by decide,by decide⟩
 have cp:CPow 10 6:=⟨by decide,by decide,by decide⟩
 refine ite2 (fun _=>⟨by omega,cd,h _ _ (lo _) (hi _) ⟨_,_,_,rfl,x0,x1⟩⟩) (fun _=>⟨cmR (by decide) (by decide),by decide,cmL (by omega) (by omega),by decide,cd2 _,cp,?_⟩)
 refine ite2 (fun _=>⟨cmR (by decide) (by decide),by decide,cmR (by decide) (by decide),by omega,h _ _ (lo _) (hi _) ⟨_,_,_,rfl,z0,by omega⟩⟩) (fun _=>⟨by omega,h _ _ (lo _) (hi _) ⟨_,_,_,rfl,y0,by omega⟩⟩)
theorem ji6 {f:Addr} {fd:FuncData}  (B:Blt mg) (D:DefAt K mg "_law_begun" (top 46) ["_law_script","_law_k"] f fd):FnOk P w K mg base CX0 1 f fd ["_law_script","_law_k"] (jj2 K):=by
 have sc:FnScope ["_law_script","_law_k","_law_cell","_law_start"] ["_law_script","_law_k"] (jaa (top 46)):=⟨rfl,rfl,rfl,by decide +kernel,rfl,by decide +kernel,by decide +kernel⟩
 refine D.F.ok sc (fun vs H Q E h=>?_) (fun cdv A outer s H vs Q E hr h=>?_)
 ·obtain ⟨a,k,ns,rfl,_⟩:=h
  rfl
 obtain ⟨a,k,ns,rfl,hs,k0,k1,h⟩:=h
 have hu:=jbg hr
 have hu0:_ < PySem.cLine:=Nat.lt_of_succ_lt hu
 refine ⟨_,(ja2 (jag (i:=2) sc.nd rfl (Or.inl rfl) ja4) (ja2 (jbd (jaw q_lt (qv 1) (jab jek rfl B.len PySem.boot_len (ja0 (qv 0) ja3)) (jap _)) (ja6 (jag (i:=2) sc.nd rfl (Or.inl rfl) (jae jof (qv 0) (qv 1) (fun _ _=>rfl)))) jak) (ja2 (jag (i:=3) sc.nd rfl (Or.inl rfl) (jb0 jdr (jb0 jdr (jb0 jhw (qv 2) ja4) (jb0 jj3 ja4 (qv 1))) (jb0 jj3 ja4 (jb0 jna (qv 1) ja4)))) (ja6 (jah (jc9 (ja0 (qv 2) (ja0 (jb0 jhw (qv 3) ja4) (ja0 (jbz q_ge (qv 2) (jb0 js3 ja4 ja4) (jap _)) ja3))))))))),?_⟩
 walk_at "RD"
 refine ⟨a,_,rfl,.inl hs.sq,?_⟩
 simp_arith [List.length_map,rIxL]
 have q0:∀ n:Int,0 ≤ n % 2147483629:=fun n=>Int.emod_nonneg _ (by decide)
 have q1:∀ n:Int,n % 2147483629 < 2147483629:=fun n=>Int.emod_lt_of_pos _ (by decide)
 have cp:CPow 10 18:=⟨by decide,by decide,by decide⟩
 have cd:CDiv k 7:=⟨by decide,by decide⟩
 refine ite2 (fun c=>?_) (fun c=>?_)
 ·have c':k < (ns.length:Int):=of_decide_eq_true c
  have hk:k.toNat < ns.length:=by omega
  have e1:atI (ns.map V.int) ((k.toNat:Nat):Int) = some (.int ns[k.toNat]):=jc4 (by rw [List.getElem?_map,List.getElem?_eq_getElem hk]; rfl)
  rw [show ((k.toNat:Nat):Int) = k by omega] at e1
  refine ⟨a,_,k,_,rfl,rfl,hs.sq,e1,?_⟩
  walk_at "RD"
  exact ⟨by decide,cmL (by decide) (by decide),cd,cmL (by decide) (by decide),by decide,cp,fun p hp=>h p _ hp ⟨_,_,_,rfl,q0 _,by have:=q1 (ns[k.toNat] % 2147483629 + 104729 * k + 7919 * (k / 7)); omega⟩⟩
 ·exact ⟨by decide,cmL (by decide) (by decide),cd,cmL (by decide) (by decide),by decide,cp,fun p hp=>h p _ hp ⟨_,_,_,rfl,q0 _,by have:=q1 (0 % 2147483629 + 104729 * k + 7919 * (k / 7)); omega⟩⟩
theorem jh2 {f:Addr} {fd:FuncData} {f_law_take:Addr} {d_law_take:FuncData} (B:Blt mg) (D:DefAt K mg "_law_places" (top 48) ["_law_state","_law_count"] f fd) (D_law_take:DefAt K mg "_law_take" (top 47) ["_law_state","_law_many"] f_law_take d_law_take) (G_law_take:FnOk P w K mg base CX0 1 f_law_take d_law_take ["_law_state","_law_many"] jk9):FnOk P w K mg base CX0 2 f fd ["_law_state","_law_count"] jka:=by
 have sc:FnScope ["_law_state","_law_count","_law_kind","_law_places_here","_law_number","_law_k"] ["_law_state","_law_count"] (jaa (top 48)):=⟨rfl,rfl,rfl,by decide +kernel,rfl,by decide +kernel,by decide +kernel⟩
 refine D.F.ok sc (fun vs H Q E h=>?_) (fun cdv A outer s H vs Q E hr h=>?_)
 ·obtain ⟨s,o,n,rfl,_⟩:=h
  rfl
 obtain ⟨st,o,n,rfl,es,so,n0,n1,h⟩:=h
 have hu:=jbg hr
 have hu0:_ < PySem.cLine:=Nat.lt_of_succ_lt hu
 refine ⟨_,(ja2 (jag (i:=2) sc.nd rfl (Or.inl rfl) (ja9 G_law_take (hr.mono (by decide)) rfl D_law_take.m D_law_take.F.kp D_law_take.b .nil jan (ja0 (qv 0) (ja0 ja4 ja3)))) (ja2 (jag (i:=3) sc.nd rfl (Or.inl rfl) (jc9 ja3)) (ja2 (jag (i:=4) sc.nd rfl (Or.inl rfl) (jpw jpp ja4)) (ja2 (jbu PassesOwn.never rfl (jnk rfl B.range (ja0 (qv 1) ja3)) (jad (i:=5) sc.nd rfl (Or.inl rfl)) (ja2 (jag (i:=4) sc.nd rfl (Or.inl rfl) (jb0 jdr (jb0 jdr (qv 4) ja4) (ja9 G_law_take (hr.mono (by decide)) rfl D_law_take.m D_law_take.F.kp D_law_take.b .nil jan (ja0 (qv 0) (ja0 (jae q_ix (jc9 (ja0 ja4 (ja0 ja4 (ja0 ja4 (ja0 ja4 ja3))))) (ja9 G_law_take (hr.mono (by decide)) rfl D_law_take.m D_law_take.F.kp D_law_take.b .nil jan (ja0 (qv 0) (ja0 ja4 ja3))) (fun _ _=>rfl)) ja3))))) (ja6 (jc3 (q_bm PySem.F.plainAttrs_list PySem.F.slot_list_append PySem.F.type_list_append jdi (qv 3) (ja0 (jb8 (ja0 (qv 4) (ja0 (jb0 jdr ja4 (ja9 G_law_take (hr.mono (by decide)) rfl D_law_take.m D_law_take.F.kp D_law_take.b .nil jan (ja0 (qv 0) (ja0 (jae q_ix (jc9 (ja0 ja4 (ja0 ja4 (ja0 ja4 (ja0 (jb0 js3 ja4 ja4) ja3))))) (qv 2) (fun _ _=>rfl)) ja3)))) ja3))) ja3)))))) (ja6 (jah (qv 3))))))),?_⟩
 walk_at "RD"
 refine ⟨st,o,4,rfl,es,so,by decide,by decide,fun kind o1 k0 k1 so1=>?_⟩
 walk_at "RD"
 intro r hr1
 have nr:r ≠ st:=fun z=>by rw [z,ja1] at hr1; cases hr1
 have hr0:H r = none:=by rw [← hr1,ja8 nr]
 refine ⟨n,rfl,by omega,by omega,jig (n:=n.toNat) (fun i σ H1=>∃ l kk ps xs o',σ = [some (.ref st),some (.int n),some (.int kind),some (.ref r),some (.int l),kk]∧But st H H1∧H1 st = some o'∧StO o'∧H1 r = some (.lst xs)∧Prs H1 xs ps∧ps.length = i∧Dr (-1) ps∧l = jo7 (-1) ps) ?_ ?_ ?_⟩
 ·refine ⟨-1,none,[],[],o1,rfl,fun b u nb q=>?_,by rw [ja8 nr.symm,ja1],so1,ja1,.nil,rfl,trivial,rfl⟩
  rw [ja8 (ja7 q hr0),ja8 nb]
  exact q
 ·rintro i σ H1 hi ⟨l,kk,ps,xs,o',rfl,b1,e1,so',er,pp,hlen,dr,el⟩
  have hlx:xs.length = ps.length:=Paired.length pp
  walk_at "RD"
  intro p1 hp1
  have np:p1 ≠ st:=(ja7 e1 hp1).symm
  have nr1:r ≠ p1:=ja7 er hp1
  refine ⟨st,o',4,rfl,(by rw [ja8 np.symm]; exact e1),so',by decide,by decide,fun d1 o2 d10 d11 so2=>?_⟩
  obtain ⟨v,ev,v0,v1⟩:∃ v,atI [V.int 1,.int 2,.int 6,.int 23] d1 = some (.int v)∧1 ≤ v∧v ≤ 23:=by
   obtain ⟨v,ev,hv⟩:=menu4 (a:=1) (b:=2) (c:=6) (e:=23) d10 d11
   exact ⟨v,ev,by omega,by omega⟩
  simp_arith [jam,ja8 np,ja1,ev]
  refine ⟨st,o2,v,rfl,ja1,so2,by omega,by omega,fun d2 o3 d20 d21 so3=>?_⟩
  simp_arith [jiz]
  have b3:But st H1 (upd (upd H1 p1 (.lst [.int 1,.int 2,.int 6,.int 23])) st o3):=(But.new hp1).trans (But.at _ _ _)
  have e3:(upd (upd H1 p1 (.lst [.int 1,.int 2,.int 6,.int 23])) st o3) st = some o3:=ja1
  generalize upd (upd H1 p1 (.lst [.int 1,.int 2,.int 6,.int 23])) st o3 = H3 at b3 e3
  have t3:TupS H1 H3:=b3.tups e1 so'.imm
  have er3:=b3 _ _ nr er
  refine ⟨⟨r,xs,rfl,er3⟩,⟨by decide,by decide,by decide⟩,?_⟩
  intro p2 hp2
  have np2:p2 ≠ st:=(ja7 e3 hp2).symm
  have nr2:r ≠ p2:=ja7 er3 hp2
  obtain ⟨v2,ev2,v20,v21⟩:∃ v,atI [V.int 1,.int 3,.int 9,.int (10 ^ Int.toNat 9)] kind = some (.int v)∧1 ≤ v∧v ≤ 1000000000:=by
   obtain ⟨v,ev,hv⟩:=menu4 (a:=1) (b:=3) (c:=9) (e:=10 ^ Int.toNat 9) k0 k1
   rw [p9] at hv
   exact ⟨v,ev,by omega,by omega⟩
  simp_arith [jam,ja1,ev2]
  refine ⟨st,o3,v2,rfl,(by rw [ja8 np2.symm]; exact e3),so3,by omega,by omega,fun d3 o4 d30 d31 so4=>?_⟩
  walk_at "RD"
  have b4:But st H3 (upd (upd H3 p2 (.lst [.int 1,.int 3,.int 9,.int (10 ^ Int.toNat 9)])) st o4):=(But.new hp2).trans (But.at _ _ _)
  have e4:(upd (upd H3 p2 (.lst [.int 1,.int 3,.int 9,.int (10 ^ Int.toNat 9)])) st o4) st = some o4:=ja1
  generalize upd (upd H3 p2 (.lst [.int 1,.int 3,.int 9,.int (10 ^ Int.toNat 9)])) st o4 = H4 at b4 e4
  have t4:TupS H3 H4:=b4.tups e3 so3.imm
  have er4:=b4 _ _ nr er3
  intro t ht
  have nt:t ≠ st:=(ja7 e4 ht).symm
  have er5:upd H4 t (.tup [.int (l + 1 + d2),.int (1 + d3)]) r = some (.lst xs):=by rw [ja8 (ja7 er4 ht)]; exact er4
  simp_arith [er5]
  have t5:TupS H4 (upd H4 t (.tup [.int (l + 1 + d2),.int (1 + d3)])):=jep ht
  have t6:=jcg (ys:=xs ++ [.ref t]) er5
  refine ⟨szl' (by omega),l + 1 + d2,_,ps ++ [(l + 1 + d2,1 + d3)],_,o4,rfl,fun b u nb q=>?_,?_,so4,(by first | rfl | exact ja1),?_,?_,?_,?_⟩
  ·have q1:=b4 _ _ nb (b3 _ _ nb (b1 _ _ nb q))
   rw [ja8 (ja7 q hr0),ja8 (ja7 q1 ht)]
   exact q1
  ·rw [ja8 nr.symm,ja8 nt.symm]
   exact e4
  ·exact jay (Prs.tups (((t3.trans t4).trans t5).trans t6) pp) (Pr.tups ⟨t,rfl,ja1⟩ t6)
  ·rw [List.length_append,hlen]
   rfl
  ·exact dr.snoc ⟨by show _ < l + 1 + d2; omega,by show l + 1 + d2 ≤ _; omega,by show 1 ≤ 1 + d3; omega,by show 1 + d3 ≤ _; omega⟩
  ·rw [jgb]
 ·rintro σ H1 ⟨l,kk,ps,xs,o',rfl,b1,e1,so',er,pp,hlen,dr,el⟩
  walk_at "RD"
  exact h r H1 o' xs ps hr0 b1 e1 so' er pp (by omega) dr
end
end My
namespace My
open PySem L2
section
variable {P:Program} {w:World} {K:PySem.W.Frag} {mg:Str→Option Value} {base:Heap} {c1 c2 c3 c4:Tok}
mutual
def dep:Dt→Nat
 | .tup ds=>deps ds + 1
 | .lst ds=>deps ds + 1
 | _=>1
def deps:List Dt→Nat
 | []=>0
 | d :: ds=>max (dep d) (deps ds)
end
mutual
def wid:Dt→Nat
 | .tup ds=>max ds.length (wids ds)
 | .lst ds=>max ds.length (wids ds)
 | _=>0
def wids:List Dt→Nat
 | []=>0
 | d :: ds=>max (wid d) (wids ds)
end
theorem jjv:∀ {ds:List Dt} {i:Nat} {d:Dt},ds[i]? = some d→dep d ≤ deps ds
 | [],i,d,h=>by simp at h
 | x :: r,0,d,h=>by simp at h; subst h; rw [deps]; exact Nat.le_max_left _ _
 | x :: r,i + 1,d,h=>by rw [deps]; exact Nat.le_trans (jjv (i:=i) (by simpa using h)) (Nat.le_max_right _ _)
theorem jix:∀ {ds:List Dt} {i:Nat} {d:Dt},ds[i]? = some d→wid d ≤ wids ds
 | [],i,d,h=>by simp at h
 | x :: r,0,d,h=>by simp at h; subst h; rw [wids]; exact Nat.le_max_left _ _
 | x :: r,i + 1,d,h=>by rw [wids]; exact Nat.le_trans (jix (i:=i) (by simpa using h)) (Nat.le_max_right _ _)
def jg3 (n:Nat):Sp:=fun vs H Q _=>∃ v1 v2 d,vs = [v1,v2]∧Rep H d v1∧Rep H d v2∧dep d ≤ n∧wid d ≤ 1000∧∀ H',Same H H'→Q (.bl true) H'
theorem jgr:∀ {i:Nat},(List.replicate i true).map V.bl ++ [V.bl true] = V.bl true :: (List.replicate i true).map V.bl
 | 0=>rfl
 | i + 1=>by
  rw [List.replicate_succ,List.map_cons,List.cons_append,jgr]
theorem jn5 {n:Nat}:((List.replicate n true).all id) = true:=by
 rw [List.all_eq_true]
 intro b hb
 rw [(List.mem_replicate.mp hb).2]
 rfl
theorem jjd {n:Nat} {f:Addr} {fd:FuncData} {f_law_same:Addr} {d_law_same:FuncData} (B:Blt mg) (D:DefAt K mg "_law_same" (top 49) ["_law_found","_law_due"] f fd) (D_law_same:DefAt K mg "_law_same" (top 49) ["_law_found","_law_due"] f_law_same d_law_same) (G_law_same:FnOk P w K mg base CX0 n f_law_same d_law_same ["_law_found","_law_due"] (jg3 n)):FnOk P w K mg base CX0 (n + 1) f fd ["_law_found","_law_due"] (jg3 (n + 1)):=by
 have sc:FnScope ["_law_found","_law_due"] ["_law_found","_law_due"] (jaa (top 49)):=⟨rfl,rfl,rfl,by decide +kernel,rfl,by decide +kernel,by decide +kernel⟩
 refine D.F.ok sc (fun vs H Q E h=>?_) (fun cdv A outer s H vs Q E hr h=>?_)
 ·obtain ⟨v1,v2,d,rfl,_⟩:=h
  rfl
 obtain ⟨v1,v2,d,rfl,r1,r2,hdep,hwid,h⟩:=h
 have hu:=jbg hr
 have hu0:_ < PySem.cLine:=Nat.lt_of_succ_lt hu
 refine ⟨_,(ja2 (jbd (PW.pt (jgt (jb4 (jab (jcq .lst) rfl B.isinstance PyProof.Rows.boot_isinstance (ja0 (qv 1) (ja0 (jb5 (v:=.ty "list") rfl B.list PyProof.Rows.boot_list rfl) ja3)))) (jei (jb4 (jab (jcq .tup) rfl B.isinstance PyProof.Rows.boot_isinstance (ja0 (qv 1) (ja0 (jb5 (v:=.ty "tuple") rfl B.tuple PyProof.Rows.boot_tuple rfl) ja3))))))) (ja2 (jbd (PW.pt (jhx (jc5 (jb4 (jab (jcq .lst) rfl B.isinstance PyProof.Rows.boot_isinstance (ja0 (qv 0) (ja0 (jb5 (v:=.ty "list") rfl B.list PyProof.Rows.boot_list rfl) ja3))))) (jf5 (jc5 (jb4 (jab (jcq .tup) rfl B.isinstance PyProof.Rows.boot_isinstance (ja0 (qv 0) (ja0 (jb5 (v:=.ty "tuple") rfl B.tuple PyProof.Rows.boot_tuple rfl) ja3)))))))) (ja6 (jah je0)) jak) (ja2 (jbd (PW.pt (jgt (jaw q_ne (jab (jcq .lst) rfl B.isinstance PyProof.Rows.boot_isinstance (ja0 (qv 0) (ja0 (jb5 (v:=.ty "list") rfl B.list PyProof.Rows.boot_list rfl) ja3))) (jab (jcq .lst) rfl B.isinstance PyProof.Rows.boot_isinstance (ja0 (qv 1) (ja0 (jb5 (v:=.ty "list") rfl B.list PyProof.Rows.boot_list rfl) ja3))) (jap _)) (jei (jaw q_ne (jab jeb rfl B.len PySem.boot_len (ja0 (qv 0) ja3)) (jab jeb rfl B.len PySem.boot_len (ja0 (qv 1) ja3)) (jap _))))) (ja6 (jah je0)) jak) (ja6 (jah (jab (q_all rfl) rfl B.all PyProof.Rows.boot_all (ja0 (jcb (CpScope.of (N:=["_law_one","_law_other"]) (src:=[none,none]) (by rfl)) rfl (jj6 rfl B.zip (ja0 (qv 0) (ja0 (qv 1) ja3))) (fun _ _ _ _=>(jcp (n:=2) rfl (jaj (jad (i:=0) (jai (l:=["_law_one","_law_other"]) (by rfl)) rfl (Or.inl rfl)) (jaj (jad (i:=1) (jai (l:=["_law_one","_law_other"]) (by rfl)) rfl (Or.inl rfl)) jbw)))) (fun _ _ _ _=>jd6) (fun _ _ _ _=>(ja9 G_law_same hr rfl D_law_same.m D_law_same.F.kp D_law_same.b .nil jan (ja0 (qv 0) (ja0 (qv 1) ja3))))) ja3)))))) jak) (ja2 (jbd (jaw js4 (qv 1) jg7 (jap _)) (ja6 (jah (jbz js4 (qv 0) jg7 (jap _)))) jak) (ja2 (jbd (PW.pt (jgt (jb4 (jab (jcq .bl) rfl B.isinstance PyProof.Rows.boot_isinstance (ja0 (qv 1) (ja0 (jb5 (v:=.ty "bool") rfl B.bool PyProof.Rows.boot_bool rfl) ja3)))) (jei (jb4 (jab (jcq .bl) rfl B.isinstance PyProof.Rows.boot_isinstance (ja0 (qv 0) (ja0 (jb5 (v:=.ty "bool") rfl B.bool PyProof.Rows.boot_bool rfl) ja3))))))) (ja6 (jah (jdy (jab (jcq .bl) rfl B.isinstance PyProof.Rows.boot_isinstance (ja0 (qv 1) (ja0 (jb5 (v:=.ty "bool") rfl B.bool PyProof.Rows.boot_bool rfl) ja3))) (jdy (jab (jcq .bl) rfl B.isinstance PyProof.Rows.boot_isinstance (ja0 (qv 0) (ja0 (jb5 (v:=.ty "bool") rfl B.bool PyProof.Rows.boot_bool rfl) ja3))) (jdo (jbz q_eq (qv 0) (qv 1) (jap _))))))) jak) (ja2 (jbd (jb4 (jab (jcq .str) rfl B.isinstance PyProof.Rows.boot_isinstance (ja0 (qv 1) (ja0 (jb5 (v:=.ty "str") rfl B.str PyProof.Rows.boot_str rfl) ja3)))) (ja6 (jah (jdy (jab (jcq .str) rfl B.isinstance PyProof.Rows.boot_isinstance (ja0 (qv 0) (ja0 (jb5 (v:=.ty "str") rfl B.str PyProof.Rows.boot_str rfl) ja3))) (jdo (jbz q_eq (qv 0) (qv 1) (jap _)))))) jak) (ja6 (jah (jdy (jab (jcq .int) rfl B.isinstance PyProof.Rows.boot_isinstance (ja0 (qv 0) (ja0 (jb5 (v:=.ty "int") rfl B.int PyProof.Rows.boot_int rfl) ja3))) (jdo (jbz q_eq (qv 0) (qv 1) (jap _)))))))))),?_⟩
 cases d with
 | non =>
  rw [Rep] at r1 r2
  subst r1 r2
  simp_arith [kd,isi]
  exact h H (Same.refl _)
 | bl b =>
  rw [Rep] at r1 r2
  subst r1 r2
  simp_arith [kd,isi,decide_true]
  exact h H (Same.refl _)
 | int b =>
  rw [Rep] at r1 r2
  subst r1 r2
  simp_arith [kd,isi,decide_true]
  exact h H (Same.refl _)
 | str b =>
  rw [Rep] at r1 r2
  subst r1 r2
  simp_arith [kd,isi,decide_true]
  exact h H (Same.refl _)
 | tup ds =>
  rw [Rep] at r1 r2
  rw [dep] at hdep
  rw [wid] at hwid
  obtain ⟨a1,vs1,rfl,e1,q1⟩:=r1
  obtain ⟨a2,vs2,rfl,e2,q2⟩:=r2
  have l1:=q1.len
  have l2:=q2.len
  simp_arith [kd,isi,e1,e2,jam,l1,l2,decide_true]
  refine jau (Itz false K a1 a2) H (fun R hR=>?_) (fun l hl=>jb1 ds.length (fun i σ' Hc=>∃ w1 w2,σ' = [w1,w2]∧Same H Hc∧Hc l = some (.lst ((List.replicate i true).map V.bl))) ⟨none,none,rfl,ja5 hl _,ja1⟩ ?_ ?_)
  ·unfold jok
   walk_at "RD"
   exact ⟨false,a1,a2,rfl,⟨vs1,SqT.of e1⟩,⟨vs2,SqT.of e2⟩,hR⟩
  ·rintro i σ' Hc hi ⟨w1,w2,rfl,s2,el⟩
   have x1:vs1[i]? = some (vs1[i]'(by omega)):=List.getElem?_eq_getElem _
   have x2:vs2[i]? = some (vs2[i]'(by omega)):=List.getElem?_eq_getElem _
   have z1:SqB false K Hc a1 vs1:=SqT.of (s2 _ _ e1)
   have z2:SqB false K Hc a2 vs2:=SqT.of (s2 _ _ e2)
   refine ⟨⟨vs1,vs2,_,_,z1,z2,x1,x2⟩,?_⟩
   rintro x H' ⟨t,y1,y2,ht,rfl,rfl,g1,g2⟩
   obtain ⟨d1,hd1,rr1⟩:=q1.at (g1 _ z1)
   obtain ⟨d2,hd2,rr2⟩:=q2.at (g2 _ z2)
   have ed:d1 = d2:=Option.some.inj (hd1.symm.trans hd2)
   subst ed
   have s3:Same H (upd Hc t (.tup [y1,y2])):=s2.trans (ja5 ht _)
   have b1:=jjv hd1
   have b2:=jix hd1
   simp_arith [ja1]
   refine ⟨y1,y2,d1,rfl,Rep.same s3 _ rr1,Rep.same s3 _ rr2,by omega,by omega,fun H5 s5=>?_⟩
   have el5:=s5 _ _ (ja5 ht _ _ _ el)
   refine ⟨_,el5,?_,_,_,rfl,jas (s3.trans s5) hl,?_⟩
   ·rw [List.length_map,List.length_replicate]
    exact szl' (by omega)
   ·exact congrArg (fun z=>some (HO.lst z)) jgr
  ·rintro σ' Hc ⟨w1,w2,rfl,s2,el⟩
   refine ⟨⟨vs1,vs2,SqT.of (s2 _ _ e1),SqT.of (s2 _ _ e2),.inl (by omega)⟩,?_⟩
   simp_arith [el]
   refine ⟨_,rfl,?_⟩
   rw [jn5]
   exact h Hc s2
 | lst ds =>
  rw [Rep] at r1 r2
  rw [dep] at hdep
  rw [wid] at hwid
  obtain ⟨a1,vs1,rfl,e1,q1⟩:=r1
  obtain ⟨a2,vs2,rfl,e2,q2⟩:=r2
  have l1:=q1.len
  have l2:=q2.len
  simp_arith [kd,isi,e1,e2,jam,l1,l2,decide_true]
  refine jau (Itz true K a1 a2) H (fun R hR=>?_) (fun l hl=>jb1 ds.length (fun i σ' Hc=>∃ w1 w2,σ' = [w1,w2]∧Same H Hc∧Hc l = some (.lst ((List.replicate i true).map V.bl))) ⟨none,none,rfl,ja5 hl _,ja1⟩ ?_ ?_)
  ·unfold jok
   walk_at "RD"
   exact ⟨true,a1,a2,rfl,⟨vs1,SqL.of e1⟩,⟨vs2,SqL.of e2⟩,hR⟩
  ·rintro i σ' Hc hi ⟨w1,w2,rfl,s2,el⟩
   have x1:vs1[i]? = some (vs1[i]'(by omega)):=List.getElem?_eq_getElem _
   have x2:vs2[i]? = some (vs2[i]'(by omega)):=List.getElem?_eq_getElem _
   have z1:SqB true K Hc a1 vs1:=SqL.of (s2 _ _ e1)
   have z2:SqB true K Hc a2 vs2:=SqL.of (s2 _ _ e2)
   refine ⟨⟨vs1,vs2,_,_,z1,z2,x1,x2⟩,?_⟩
   rintro x H' ⟨t,y1,y2,ht,rfl,rfl,g1,g2⟩
   obtain ⟨d1,hd1,rr1⟩:=q1.at (g1 _ z1)
   obtain ⟨d2,hd2,rr2⟩:=q2.at (g2 _ z2)
   have ed:d1 = d2:=Option.some.inj (hd1.symm.trans hd2)
   subst ed
   have s3:Same H (upd Hc t (.tup [y1,y2])):=s2.trans (ja5 ht _)
   have b1:=jjv hd1
   have b2:=jix hd1
   simp_arith [ja1]
   refine ⟨y1,y2,d1,rfl,Rep.same s3 _ rr1,Rep.same s3 _ rr2,by omega,by omega,fun H5 s5=>?_⟩
   have el5:=s5 _ _ (ja5 ht _ _ _ el)
   refine ⟨_,el5,?_,_,_,rfl,jas (s3.trans s5) hl,?_⟩
   ·rw [List.length_map,List.length_replicate]
    exact szl' (by omega)
   ·exact congrArg (fun z=>some (HO.lst z)) jgr
  ·rintro σ' Hc ⟨w1,w2,rfl,s2,el⟩
   refine ⟨⟨vs1,vs2,SqL.of (s2 _ _ e1),SqL.of (s2 _ _ e2),.inl (by omega)⟩,?_⟩
   simp_arith [el]
   refine ⟨_,rfl,?_⟩
   rw [jn5]
   exact h Hc s2
end
end My
namespace My
open PySem L2
section
variable {P:Program} {w:World} {K:PySem.W.Frag} {mg:Str→Option Value} {base:Heap} {c1 c2 c3 c4:Tok}
def mk (ss:List Int):List (Key × V):=ss.map fun n=>(Sum.inl n,V.bl true)
theorem jnu:∀ (ss:List Int) (n:Int),(valV (mk ss) (Sum.inl n:Key)).isSome = decide (n ∈ ss)
 | [],n=>by simp [mk,valV]
 | m :: r,n=>by
  have ih:=jnu r n
  unfold mk valV at ih ⊢
  rw [List.map_cons,List.find?_cons]
  by_cases h:m = n
  ·subst h; simp
  ·have hd:decide ((Sum.inl m:Key) = Sum.inl n) = false:=decide_eq_false fun z=>h (Sum.inl.inj z)
   dsimp only
   rw [hd]
   dsimp only
   rw [ih]
   have hn:¬ n = m:=fun z=>h z.symm
   simp [hn]
end
end My
namespace My
open PySem L2
section
variable {P:Program} {w:World} {K:PySem.W.Frag} {mg:Str→Option Value} {base:Heap} {c1 c2 c3 c4:Tok}
def nr (n:Int) (t:Int × Int):List Int:=if t.1 = n then [t.2] else if t.2 = n then [t.1] else []
def jar (ts:List (Int × Int)) (n:Int):List Int:=ts.flatMap (nr n)
theorem jlo {ts:List (Int × Int)} {j:Nat} {t:Int × Int} (h:ts[j]? = some t) (n:Int):jar (ts.take (j + 1)) n = jar (ts.take j) n ++ nr n t:=by
 unfold jar
 rw [jal h,List.flatMap_append]
 simp
theorem jd8:∀ (ts:List (Int × Int)) (n:Int),(jar ts n).length ≤ ts.length
 | [],n=>by simp [jar]
 | t :: r,n=>by
  have ih:=jd8 r n
  have e:jar (t :: r) n = nr n t ++ jar r n:=by simp [jar]
  have e2:(nr n t).length ≤ 1:=by
   unfold nr
   split
   ·simp
   ·split <;> simp
  rw [e,List.length_append,List.length_cons]
  omega
def kz:List (Int × Int)→List Addr→List (Key × V)
 | p :: r,a :: s=>(Sum.inl p.1,V.ref a) :: kz r s
 | _,_=>[]
theorem jo8:∀ {ps:List (Int × Int)} {as:List Addr} {p:Int × Int} {a:Addr},ps.length = as.length→kz (ps ++ [p]) (as ++ [a]) = kz ps as ++ [(Sum.inl p.1,V.ref a)]
 | [],[],_,_,_=>rfl
 | [],_ :: _,_,_,h=>by simp at h
 | _ :: _,[],_,_,h=>by simp at h
 | q :: r,b :: s,p,a,h=>by
  have ih:=jo8 (ps:=r) (as:=s) (p:=p) (a:=a) (by simpa using h)
  show (Sum.inl q.1,V.ref b) :: kz (r ++ [p]) (s ++ [a]) = _
  rw [ih]
  rfl
theorem jee:∀ {ps:List (Int × Int)} {as:List Addr},ps.length = as.length→(kz ps as).map (·.1) = ps.map fun p=>(Sum.inl p.1:Key)
 | [],[],_=>rfl
 | [],_ :: _,h=>by simp at h
 | _ :: _,[],h=>by simp at h
 | q :: r,b :: s,h=>by
  show (Sum.inl q.1:Key) :: (kz r s).map (·.1) = _
  rw [jee (by simpa using h)]
  rfl
theorem jgc:∀ {ps:List (Int × Int)} {as:List Addr} {i:Nat} {p:Int × Int} {a:Addr},(ps.map (·.1)).Nodup→ps[i]? = some p→as[i]? = some a→valV (kz ps as) (Sum.inl p.1:Key) = some (.ref a)
 | [],_,i,_,_,_,h,_=>by simp at h
 | _ :: _,[],i,_,_,_,_,h=>by simp at h
 | q :: r,b :: s,i,p,a,hn,h1,h2=>by
  rw [List.map_cons] at hn
  unfold valV
  show Option.map _ (List.find? _ ((Sum.inl q.1,V.ref b) :: kz r s)) = _
  rw [List.find?_cons]
  cases i with
  | zero =>
   simp at h1 h2
   subst h1 h2
   simp
  | succ i =>
   have hp:p ∈ r:=List.mem_of_getElem? (by simpa using h1)
   have hne:q.1 ≠ p.1:=fun z=>(List.nodup_cons.mp hn).1 (by rw [z]; exact List.mem_map_of_mem hp)
   have hd:decide ((Sum.inl q.1:Key) = Sum.inl p.1) = false:=decide_eq_false fun z=>hne (Sum.inl.inj z)
   dsimp only
   rw [hd]
   exact jgc (List.nodup_cons.mp hn).2 (i:=i) (by simpa using h1) (by simpa using h2)
theorem jd0 {ps:List (Int × Int)} {n:Int} (h:hasK (jbk ps) n = true):∃ (i:Nat) (p:Int × Int),ps[i]? = some p∧p.1 = n:=by
 unfold hasK valV jbk at h
 rw [Option.isSome_map,List.find?_isSome] at h
 obtain ⟨kv,hm,he⟩:=h
 obtain ⟨p,hp,e⟩:=List.mem_map.mp hm
 subst e
 obtain ⟨i,hi,e2⟩:=List.mem_iff_getElem.mp hp
 refine ⟨i,p,by rw [List.getElem?_eq_getElem hi,e2],?_⟩
 exact Sum.inl.inj (of_decide_eq_true he)
theorem TiOk.at {kvs:List (Key × V)}:∀ {ts:List (Int × Int)} {q:Int × Int},TiOk kvs q ts→∀ t ∈ ts,t.1 < t.2∧hasK kvs t.1 = true∧hasK kvs t.2 = true
 | [],_,_,_,h=>by cases h
 | p :: r,q,h,t,ht=>by
  rcases List.mem_cons.mp ht with e | ht
  ·rw [e]; exact ⟨h.1.2.1,h.1.2.2.1,h.1.2.2.2⟩
  ·exact TiOk.at h.2 t ht
def jhk (H:Hp) (ps ts:List (Int × Int)) (as:List Addr):Prop:=∀ (i:Nat) (p:Int × Int) (a:Addr),ps[i]? = some p→as[i]? = some a→H a = some (.lst ((jar ts p.1).map V.int))
def jdw:Sp:=fun vs H Q _=>∃ v ps ts,vs = [v]∧jd5 H v ps ts∧WebOk ps ts∧∀ d as H',H d = none→Same H H'→H' d = some (.dK (kz ps as))→as.length = ps.length→jhk H' ps ts as→Q (.ref d) H'
theorem jex {α:Type} {l:List α} (h:l.Nodup) {i j:Nat} {a b:α} (h1:l[i]? = some a) (h2:l[j]? = some b) (hij:i ≠ j):a ≠ b:=by
 intro e
 subst e
 obtain ⟨p1,q1⟩:=List.getElem?_eq_some_iff.mp h1
 obtain ⟨p2,q2⟩:=List.getElem?_eq_some_iff.mp h2
 exact hij ((List.getElem_inj h).mp (q1.trans q2.symm))
theorem jqd {α:Type} {l:List α} {x y:α} {i:Nat} (h:(l ++ [x])[i]? = some y):l[i]? = some y ∨ (i = l.length∧y = x):=by
 by_cases hi:i < l.length
 ·left
  rw [List.getElem?_append_left hi] at h
  exact h
 ·right
  rw [List.getElem?_append_right (by omega)] at h
  by_cases h0:i - l.length = 0
  ·rw [h0] at h
   simp at h
   exact ⟨by omega,h.symm⟩
  ·have:i - l.length = (i - l.length - 1) + 1:=by omega
   rw [this] at h
   simp at h
theorem jja {f:Addr} {fd:FuncData}  (B:Blt mg) (D:DefAt K mg "nears_in" (top 21) ["web"] f fd):FnOk P w K mg base CX0 1 f fd ["web"] jdw:=by
 have sc:FnScope ["web","nears","one","other"] ["web"] (jaa (top 21)):=⟨rfl,rfl,rfl,by decide +kernel,rfl,by decide +kernel,by decide +kernel⟩
 refine D.F.ok sc (fun vs H Q E h=>?_) (fun cdv A outer s H vs Q E hr h=>?_)
 ·obtain ⟨v,ps,ts,rfl,_⟩:=h
  rfl
 obtain ⟨v,ps,ts,rfl,hw,wok,h⟩:=h
 obtain ⟨x,pa,ta,xs,ys,rfl,ex,ep,et,pp,pt⟩:=id hw
 have hlx:xs.length = ps.length:=Paired.length pp
 have hly:ys.length = ts.length:=Paired.length pt
 have okl:=wok.pl
 have okt:=wok.tl
 have hnd:=wok.p.nodup
 have hu:=jbg hr
 have hu0:_ < PySem.cLine:=Nat.lt_of_succ_lt hu
 refine ⟨_,(ja2 (jag (i:=1) sc.nd rfl (Or.inl rfl) (jbe (jf4 rfl) rfl B.dict PyProof.Rows.boot_dict (ja0 (jcb (CpScope.of (N:=["place","price"]) (src:=[none,none]) (by rfl)) rfl (jbm (jae q_ix (qv 0) ja4 (fun _ _=>rfl))) (fun _ _ _ _=>(jcp (n:=2) rfl (jaj (jad (i:=0) (jai (l:=["place","price"]) (by rfl)) rfl (Or.inl rfl)) (jaj (jad (i:=1) (jai (l:=["place","price"]) (by rfl)) rfl (Or.inl rfl)) jbw)))) (fun _ _ _ _=>jd6) (fun _ _ _ _=>(jb8 (ja0 (qv 0) (ja0 (jc9 ja3) ja3))))) ja3))) (ja2 (jbu PassesOwn.never rfl (jbm (jae q_ix (qv 0) ja4 (fun _ _=>rfl))) (jcp (n:=2) rfl (jaj (jad (i:=2) sc.nd rfl (Or.inl rfl)) (jaj (jad (i:=3) sc.nd rfl (Or.inl rfl)) jbw))) (ja2 (jc3 (q_bm PySem.F.plainAttrs_list PySem.F.slot_list_append PySem.F.type_list_append jdi (jeh hu (qv 1) (qv 2) (fun _ _=>rfl)) (ja0 (qv 3) ja3))) (ja6 (jc3 (q_bm PySem.F.plainAttrs_list PySem.F.slot_list_append PySem.F.type_list_append jdi (jeh hu (qv 1) (qv 3) (fun _ _=>rfl)) (ja0 (qv 2) ja3)))))) (ja6 (jah (qv 1))))),?_⟩
 walk_at "RD"
 refine jau (Itl K pa) H (fun R hR=>?_) (fun l hl0=>jb1 ps.length (fun i σ' Hc=>∃ w1 w2 zs as,σ' = [w1,w2]∧Same H Hc∧Hc l = some (.lst zs)∧as.length = i∧as.Nodup∧(∀ a ∈ as,H a = none∧a ≠ l∧Hc a = some (.lst []))∧Paired (PairAt Hc) zs (kz (ps.take i) as)) ⟨none,none,[],[],rfl,ja5 hl0 _,ja1,rfl,List.nodup_nil,(fun _ h=>by cases h),.nil⟩ ?_ ?_)
 ·unfold jdm
  simp_arith [jam,ex,at0]
  exact ⟨pa,rfl,⟨_,SqL.of ep⟩,hR⟩
 ·rintro i σ' Hc hi ⟨w1,w2,zs,as,rfl,s2,ez,hla,nda,ha,pz⟩
  have x1:xs[i]? = some (xs[i]'(by omega)):=List.getElem?_eq_getElem _
  have z1:SqL K Hc pa xs:=SqL.of (s2 _ _ ep)
  have hlt:(ps.take i).length = as.length:=by rw [List.length_take]; omega
  have hlz:zs.length = (kz (ps.take i) as).length:=Paired.length pz
  have hlz2:zs.length ≤ i:=by
   have e:=congrArg List.length (jee hlt)
   rw [List.length_map,List.length_map] at e
   omega
  refine ⟨⟨_,_,z1,x1⟩,?_⟩
  rintro y H' ⟨rfl,hy⟩
  obtain ⟨q,hq,pq⟩:=jao pp (hy _ z1)
  obtain ⟨t,rfl,ht⟩:=pq.same s2
  simp_arith [ht]
  intro a1 ha1 t2 ht2
  have na1:a1 ≠ l:=fun z=>by rw [z,ez] at ha1; cases ha1
  have nt2:t2 ≠ a1:=fun z=>by rw [z,ja1] at ht2; cases ht2
  have s3:=ja5 ha1 (.lst [])
  have s4:=ja5 ht2 (.tup [.int q.1,.ref a1])
  have ez2:=s4 _ _ (s3 _ _ ez)
  have t6:=jcg (ys:=zs ++ [.ref t2]) ez2
  refine ⟨zs,ez2,szl' (by omega),_,_,zs ++ [.ref t2],as ++ [a1],rfl,jas (s2.trans (s3.trans s4)) hl0,(by first | rfl | exact ja1),(by rw [List.length_append,hla]; rfl),?_,?_,?_⟩
  ·rw [List.nodup_append]
   refine ⟨nda,(by simp),fun a hm b hb=>?_⟩
   have hb':b = a1:=by simpa using hb
   intro z
   rw [hb'] at z
   have:=(ha a hm).2.2
   rw [z,ha1] at this
   cases this
  ·intro a hm
   rcases List.mem_append.mp hm with hm | hm
   ·obtain ⟨q1,q2,q3⟩:=ha a hm
    refine ⟨q1,q2,?_⟩
    rw [ja8 q2]
    exact s4 _ _ (s3 _ _ q3)
   ·have e:a = a1:=by simpa using hm
    subst e
    refine ⟨s2.free ha1,na1,?_⟩
    rw [ja8 na1]
    exact s4 _ _ ja1
  ·rw [jal hq,jo8 hlt]
   refine jay (Paired.mapP pz fun v p q=>?_) ⟨t2,rfl,t6 _ _ rfl ja1⟩
   obtain ⟨b,e,q⟩:=q
   exact ⟨b,e,t6 _ _ rfl (s4 _ _ (s3 _ _ q))⟩
 rintro σ' Hc ⟨w1,w2,zs,as,rfl,s2,ez,hla,nda,ha,pz⟩
 refine ⟨⟨_,SqL.of (s2 _ _ ep),by omega⟩,?_⟩
 rw [List.take_length] at pz
 have hlz:zs.length = (kz ps as).length:=Paired.length pz
 have hkk:=jee (ps:=ps) (as:=as) hla.symm
 have hlz2:zs.length = ps.length:=by
  have e:=congrArg List.length hkk
  rw [List.length_map,List.length_map] at e
  omega
 simp_arith [ez]
 refine ⟨kz ps as,pz,by omega,?_,fun d hd=>?_⟩
 ·rw [hkk]
  have hnd2:=hnd
  unfold List.Nodup at hnd2 ⊢
  rw [List.pairwise_map] at hnd2 ⊢
  exact hnd2.imp fun q z=>q (Sum.inl.inj z)
 have s3:=ja5 hd (.dK (kz ps as))
 have ed:upd Hc d (.dK (kz ps as)) d = some (.dK (kz ps as)):=ja1
 have hd0:=s2.free hd
 have ha3:∀ a ∈ as,H a = none∧a ≠ d∧upd Hc d (.dK (kz ps as)) a = some (.lst []):=fun a hm=>by
  obtain ⟨q1,q2,q3⟩:=ha a hm
  exact ⟨q1,ja7 q3 hd,s3 _ _ q3⟩
 have s23:=s2.trans s3
 generalize upd Hc d (.dK (kz ps as)) = H2 at s23 ed ha3
 clear s3 s2 ez pz ha hlz hd
 refine jco (Itl K ta) H2 (fun R hR=>?_) (jd2 (K:=K) (a:=ta) (xs:=ys) (fun j σ H3=>∃ v1 v2,σ = [some (.ref x),some (.ref d),v1,v2]∧Same H H3∧H3 d = some (.dK (kz ps as))∧jhk H3 ps (ts.take j) as) ⟨none,none,rfl,s23,ed,fun i p a _ h2=>(ha3 a (List.mem_of_getElem? h2)).2.2⟩ (fun i σ H3 _ ⟨_,_,_,s3,_⟩=>SqL.of (s3 _ _ et)) ?_ ?_)
 ·unfold jdm
  simp_arith [jam,s23 _ _ ex,at1]
  exact ⟨ta,rfl,⟨_,SqL.of (s23 _ _ et)⟩,hR⟩
 ·rintro j y σ H3 hj ⟨v1,v2,rfl,s3,ed3,hN⟩
  obtain ⟨q,hq,pq⟩:=jao pt hj
  obtain ⟨t,rfl,ht⟩:=pq.same s3
  obtain ⟨b1,b2,b3⟩:=wok.t.at q (List.mem_of_getElem? hq)
  obtain ⟨i1,p1,g1,e1⟩:=jd0 b2
  obtain ⟨i2,p2,g2,e2⟩:=jd0 b3
  have hi1:i1 < as.length:=by have:=(List.getElem?_eq_some_iff.mp g1).1; omega
  have hi2:i2 < as.length:=by have:=(List.getElem?_eq_some_iff.mp g2).1; omega
  have A1:as[i1]? = some as[i1]:=List.getElem?_eq_getElem hi1
  have A2:as[i2]? = some as[i2]:=List.getElem?_eq_getElem hi2
  generalize as[i1] = a1 at A1
  generalize as[i2] = a2 at A2
  have V1:=jgc hnd g1 A1
  have V2:=jgc hnd g2 A2
  have n12:i1 ≠ i2:=fun z=>by rw [z,g2] at g1; cases g1; omega
  have na:a1 ≠ a2:=jex nda A1 A2 n12
  rw [e1] at V1
  rw [e2] at V2
  have M1:=hN i1 p1 a1 g1 A1
  have M2:=hN i2 p2 a2 g2 A2
  have hlj:∀ n,(jar (ts.take j) n).length ≤ 120:=fun n=>Nat.le_trans (jd8 _ _) (by rw [List.length_take]; omega)
  have nd1:d ≠ a1:=((ha3 a1 (List.mem_of_getElem? A1)).2.1).symm
  have nd2:d ≠ a2:=((ha3 a2 (List.mem_of_getElem? A2)).2.1).symm
  simp_arith [ht,ed3,V1]
  refine ⟨⟨a1,_,rfl,M1⟩,?_⟩
  simp_arith [M1]
  refine ⟨szl' (by rw [List.length_map]; have:=hlj p1.1; omega),?_⟩
  simp_arith [ja8 nd1,ed3,V2]
  refine ⟨⟨a2,_,rfl,(by rw [ja8 na.symm]; exact M2)⟩,?_⟩
  simp_arith [ja8 na.symm,M2]
  refine ⟨szl' (by rw [List.length_map]; have:=hlj p2.1; omega),_,_,rfl,?_,?_,?_⟩
  ·intro b o hb
   rw [ja8 (ja7 hb (ha3 a2 (List.mem_of_getElem? A2)).1),ja8 (ja7 hb (ha3 a1 (List.mem_of_getElem? A1)).1)]
   exact s3 b o hb
  ·rw [ja8 nd2,ja8 nd1]
   exact ed3
  ·intro i p a hp ha'
   rw [jlo hq,List.map_append]
   have hpe:∀ {k:Nat} {r:Int × Int},ps[k]? = some r→r.1 = p.1→k = i:=fun {k r} hr he=>by
    have h1:(ps.map (·.1))[k]? = some r.1:=by rw [List.getElem?_map,hr]; rfl
    have h2:(ps.map (·.1))[i]? = some p.1:=by rw [List.getElem?_map,hp]; rfl
    by_cases z:k = i
    ·exact z
    ·exact absurd he (jex hnd h1 h2 z)
   by_cases c2:i = i2
   ·subst c2
    rw [g2] at hp
    cases hp
    rw [A2] at ha'
    cases ha'
    have e3:nr p2.1 q = [q.1]:=by
     unfold nr
     rw [if_neg (by omega),if_pos e2.symm]
    rw [ja1,e3]
    rfl
   by_cases c1:i = i1
   ·subst c1
    rw [g1] at hp
    cases hp
    rw [A1] at ha'
    cases ha'
    have e3:nr p1.1 q = [q.2]:=by
     unfold nr
     rw [if_pos e1.symm]
    rw [ja8 na,ja1,e3]
    rfl
   have n1:a ≠ a1:=jex nda ha' A1 c1
   have n2:a ≠ a2:=jex nda ha' A2 c2
   have e3:nr p.1 q = []:=by
    unfold nr
    rw [if_neg (fun z=>c1 (hpe g1 (e1.trans z)).symm),if_neg (fun z=>c2 (hpe g2 (e2.trans z)).symm)]
   rw [ja8 n2,ja8 n1,e3,List.map_nil,List.append_nil]
   exact hN i p a hp ha'
 ·rintro σ H3 ⟨v1,v2,rfl,s3,ed3,hN⟩
  rw [hly,List.take_length] at hN
  walk_at "RD"
  exact h d as H3 hd0 s3 ed3 hla hN
end
end My
namespace My
open PySem L2
section
variable {P:Program} {w:World} {K:PySem.W.Frag} {mg:Str→Option Value} {base:Heap} {c1 c2 c3 c4:Tok}
theorem Dr.pl:∀ {ps:List (Int × Int)} {l s:Int},Dr l ps→l + 23 * ps.length ≤ 999→s + 1000000000 * ps.length ≤ 1000000000000→PlOk l s ps
 | [],_,_,_,_,_=>trivial
 | p :: r,l,s,h,h1,h2=>by
  have e:((p :: r).length:Int) = r.length + 1:=by simp
  rw [e] at h1 h2
  obtain ⟨⟨a1,a2,a3,a4⟩,h3⟩:=h
  exact ⟨⟨a1,by omega,a3,by omega⟩,Dr.pl h3 (by omega) (by omega)⟩
theorem Dr.gt:∀ {ps:List (Int × Int)} {l:Int},Dr l ps→∀ p ∈ ps,l < p.1
 | [],_,_,_,h=>by cases h
 | q :: r,l,h,p,hp=>by
  rcases List.mem_cons.mp hp with e | hp
  ·rw [e]; exact h.1.1
  ·have:=Dr.gt h.2 p hp
   have:=h.1.1
   omega
theorem Dr.rise:∀ {ps:List (Int × Int)} {l:Int},Dr l ps→∀ (i j:Nat) (p q:Int × Int),i < j→ps[i]? = some p→ps[j]? = some q→p.1 < q.1
 | [],_,_,i,j,p,q,_,h,_=>by simp at h
 | r :: rs,l,h,i,j,p,q,hij,hi,hj=>by
  cases j with
  | zero=>omega
  | succ j =>
   have hj':rs[j]? = some q:=by simpa using hj
   cases i with
   | zero =>
    have e:r = p:=by simpa using hi
    subst e
    exact Dr.gt h.2 q (List.mem_of_getElem? hj')
   | succ i=>exact Dr.rise h.2 i j p q (by omega) (by simpa using hi) hj'
theorem lex_lt {a b c d:Int} (h:a < c):HT.lexLt [a,b] [c,d] = true:=by
 rw [HT.lexLt_cons,if_neg (by omega)]
 exact decide_eq_true h
theorem lex_eq {a b d:Int} (h:b < d):HT.lexLt [a,b] [a,d] = true:=by
 rw [HT.lexLt_cons,if_pos rfl,HT.lexLt_cons,if_neg (by omega)]
 exact decide_eq_true h
theorem PlOk.rise:∀ {ps:List (Int × Int)} {l s:Int},PlOk l s ps→∀ (i j:Nat) (p q:Int × Int),i < j→ps[i]? = some p→ps[j]? = some q→p.1 < q.1
 | [],_,_,_,i,j,p,q,_,h,_=>by simp at h
 | r :: rs,l,s,h,i,j,p,q,hij,hi,hj=>by
  cases j with
  | zero=>omega
  | succ j =>
   have hj':rs[j]? = some q:=by simpa using hj
   cases i with
   | zero =>
    have e:r = p:=by simpa using hi
    subst e
    exact PlOk.gt h.2 q (List.mem_of_getElem? hj')
   | succ i=>exact PlOk.rise h.2 i j p q (by omega) (by simpa using hi) hj'
end
end My
namespace My
open PySem L2
section
variable {P:Program} {w:World} {K:PySem.W.Frag} {mg:Str→Option Value} {base:Heap} {c1 c2 c3 c4:Tok}
theorem jdq {ι:Type} {src:List (Option Nat)} {wi:TI} {g:TG} {tc:TT} {te:TE} {Q:VK} {σ:St} {H:Hp} (J:ι→It) (H1:ι→Hp) (ok:ι→Prop) (h1:∀ R:It→Hp→Prop,(∀ p,ok p→R (J p) (H1 p))→wi σ H R)
  (h2:∀ p,ok p→∀ l,H1 p l = none→jpe (J p) src g tc te Q σ (H1 p) l):jpj src wi g tc te σ H Q:=h1 _ h2
theorem jq8:∀ {ps:List (Int × Int)} {as:List Addr} {i:Nat} {kv:Key × V},as.length = ps.length→(kz ps as)[i]? = some kv→∃ p a,ps[i]? = some p∧as[i]? = some a∧kv = (Sum.inl p.1,.ref a)
 | [],[],i,kv,_,h=>by
  have e:kz [] [] = []:=rfl
  rw [e] at h
  simp at h
 | [],_ :: _,_,_,h,_=>by simp at h
 | p :: ps,[],_,_,h,_=>by simp at h
 | p :: ps,a :: as,0,kv,_,h=>by
  rw [kz] at h
  simp at h
  exact ⟨p,a,rfl,rfl,h.symm⟩
 | p :: ps,a :: as,i + 1,kv,hl,h=>by
  rw [kz,List.getElem?_cons_succ] at h
  have hl':as.length = ps.length:=by simpa using hl
  obtain ⟨q,b,h1,h2,h3⟩:=jq8 hl' h
  exact ⟨q,b,h1,h2,h3⟩
def jba (ps ts:List (Int × Int)) (n:Int):List Int:=(ps.map (·.1)).filter fun one=>decide (one ≤ n) && (jar ts one).any fun m=>decide (n < m)
def NrE (H:Hp) (d:Addr) (ps ts:List (Int × Int)):Prop:=∃ as,Rd H d (.dK (kz ps as))∧as.length = ps.length∧jhk H ps ts as
def NrF (H:Hp) (d:Addr) (ps ts:List (Int × Int)):Prop:=∃ o as,H d = some (.frz o (.dK (kz ps as)))∧as.length = ps.length∧jhk H ps ts as
theorem NrF.e {H:Hp} {d:Addr} {ps ts:List (Int × Int)} (h:NrF H d ps ts):NrE H d ps ts:=let ⟨o,as,a,b,c⟩:=h; ⟨as,.inr ⟨o,a⟩,b,c⟩
theorem NrF.same {H H':Hp} {d:Addr} {ps ts:List (Int × Int)} (h:NrF H d ps ts) (s:Same H H'):NrF H' d ps ts:=let ⟨o,as,a,b,c⟩:=h; ⟨o,as,s _ _ a,b,fun i p q h1 h2=>s _ _ (c i p q h1 h2)⟩
theorem NrE.get {H:Hp} {d:Addr} {ps ts:List (Int × Int)} (h:NrE H d ps ts) (hn:(ps.map (·.1)).Nodup) {n:Int} (m:n ∈ ps.map (·.1)):∃ a,DGet H d (.int n) (some (.ref a))∧H a = some (.lst ((jar ts n).map V.int)):=by
 obtain ⟨as,e,l,nr⟩:=h
 obtain ⟨p,hp,rfl⟩:=List.mem_map.mp m
 obtain ⟨i,hi,e2⟩:=List.mem_iff_getElem.mp hp
 have h1:ps[i]? = some p:=by rw [List.getElem?_eq_getElem hi,e2]
 have h2:as[i]? = some (as[i]'(by omega)):=List.getElem?_eq_getElem _
 refine ⟨_,.inl ⟨_,Sum.inl p.1,e,rfl,(jgc hn h1 h2).symm⟩,nr i p _ h1 h2⟩
def jmw:Sp:=fun vs H Q _=>∃ d n ps ts,vs = [.ref d,.int n]∧NrE H d ps ts∧(ps.map (·.1)).Nodup∧ps.length ≤ 40∧ts.length ≤ 120 ∧
 ∀ l H',H l = none→l ≠ d→But d H H'→NrF H' d ps ts→(∀ o u,H d = some (.frz o u)→H' d = some (.frz o u))→H' l = some (.lst ((jba ps ts n).map V.int))→Q (.ref l) H'
theorem jdd {α:Type} {f:α→Bool} {l:List α} {i:Nat} {x:α} (h:l[i]? = some x):(l.take (i + 1)).filter f = (l.take i).filter f ++ (if f x = true then [x] else []):=by
 rw [jal h,List.filter_append,List.filter_cons]
 rfl
theorem jm0 (f:Int→Bool) (l:List Int):(l.map f).any id = l.any f:=by rw [List.any_map]; rfl
theorem jh4 {f:Addr} {fd:FuncData}  (B:Blt mg) (D:DefAt K mg "edge_known" (top 24) ["nears","place"] f fd):FnOk P w K mg base CX0 1 f fd ["nears","place"] jmw:=by
 have sc:FnScope ["nears","place"] ["nears","place"] (jaa (top 24)):=⟨rfl,rfl,rfl,by decide +kernel,rfl,by decide +kernel,by decide +kernel⟩
 refine D.F.ok sc (fun vs H Q E h=>?_) (fun cdv A outer s H vs Q E hr h=>?_)
 ·obtain ⟨d,n,ps,ts,rfl,_⟩:=h
  rfl
 obtain ⟨d,n,ps,ts,rfl,nr,hnd,hpl,htl,h⟩:=h
 obtain ⟨as,erd,hla,hnr⟩:=id nr
 have hu:=jbg hr
 have hu0:_ < PySem.cLine:=Nat.lt_of_succ_lt hu
 refine ⟨_,(ja6 (jah (jcb (CpScope.of (N:=["one","place","nears"]) (src:=[none,some 1,some 0]) (by rfl)) rfl (jeu (qv 0)) (fun _ _ _ _=>(jad (i:=0) (jai (l:=["one","place","nears"]) (by rfl)) rfl (Or.inl rfl))) (fun _ _ _ _=>(jds (PW.pt (jhx (jaw q_le (qv 0) (qv 1) (jap _)) (jf5 (jb4 (jab (q_any rfl) rfl B.any PyProof.Rows.boot_any (ja0 (jcb (CpScope.of (N:=["other","place"]) (src:=[none,some 1]) (by rfl)) rfl (jpt (K:=K) rfl (jca (by exact hu) (qv 2) (qv 0) (fun _ _=>rfl))) (fun _ _ _ _=>(jad (i:=0) (jai (l:=["other","place"]) (by rfl)) rfl (Or.inl rfl))) (fun _ _ _ _=>jd6) (fun _ _ _ _=>(jbz q_gt (qv 0) (qv 1) (jap _)))) ja3)))))))) (fun _ _ _ _=>(qv 0))))),?_⟩
 walk_at "RD"
 refine jdq (ι:=Obj × Hp) (fun i0=>Itd d i0.1 (kz ps as)) (fun i0=>i0.2) (fun i0=>But d H i0.2∧i0.2 d = some (.frz i0.1 (.dK (kz ps as)))∧(∀ l,i0.2 l = none→H l = none)∧∀ o u,H d = some (.frz o u)→i0.2 d = some (.frz o u)) (fun R' hR'=>?_) (fun i0 ok0=>?_)
 ·unfold jol
  walk_at "RD"
  refine ⟨d,kz ps as,rfl,?_⟩
  rcases erd with e | ⟨o,e⟩
  ·refine .inl ⟨e,fun o=>hR' (o,upd H d (.frz o (.dK (kz ps as)))) ⟨But.at d H _,ja1,fun l hl=>?_,fun o' u q=>by rw [e] at q; cases q⟩⟩
   have hl':upd H d (.frz o (.dK (kz ps as))) l = none:=hl
   by_cases c:l = d
   ·rw [c,ja1] at hl'; cases hl'
   ·rwa [ja8 c] at hl'
  ·exact .inr ⟨o,e,hR' (o,H) ⟨But.refl _ _,e,fun _ q=>q,fun _ _ q=>q⟩⟩
 obtain ⟨o,H1⟩:=i0
 obtain ⟨b1,ed1,hfr,hfz⟩:=ok0
 dsimp only at b1 ed1 hfr hfz
 have nr1:NrF H1 d ps ts:=⟨o,as,ed1,hla,fun i p a h1 h2=>b1 _ _ (fun z=>by
  have:=hnr i p a h1 h2
  rw [z] at this
  rcases erd with e | ⟨o',e⟩
  ·rw [e] at this; cases this
  ·rw [e] at this; cases this) (hnr i p a h1 h2)⟩
 have hkl:(kz ps as).length = ps.length:=by
  have e:=congrArg List.length (jee hla.symm)
  rwa [List.length_map,List.length_map] at e
 intro z hz
 refine jb1 ps.length (fun i σ' Hc=>∃ w1,σ' = [w1,some (.int n),some (.ref d)]∧Same H1 Hc∧Hc z = some (.lst ((((ps.map (·.1)).take i).filter fun one=>decide (one ≤ n) && (jar ts one).any fun m=>decide (n < m)).map V.int))) ⟨none,rfl,ja5 hz _,ja1⟩ ?_ ?_
 ·rintro i σ' Hc hi ⟨w1,rfl,s2,ez⟩
  have hik:i < (kz ps as).length:=by omega
  refine ⟨⟨s2 _ _ ed1,hik⟩,?_⟩
  rintro y H' ⟨rfl,kv,hkv,rfl⟩
  obtain ⟨p,a,hp,ha,rfl⟩:=jq8 hla hkv
  have hp':(ps.map (·.1))[i]? = some p.1:=by rw [List.getElem?_map,hp]; rfl
  have hpm:p.1 ∈ ps.map (·.1):=List.mem_of_getElem? hp'
  show jd1 0 (.int p.1) _ _ _
  rw [jdd hp']
  walk_at "RD"
  by_cases c:p.1 ≤ n
  ·rw [decide_eq_true c]
   walk_at "RD"
   obtain ⟨a2,g1,g2⟩:=((nr1.same s2).e).get hnd hpm
   refine jau (Itl K a2) H' (fun R2 hR2=>?_) (fun z2 hz2=>jb1 (jar ts p.1).length (fun j σ2 Hd=>∃ w2,σ2 = [w2,some (.int n)]∧Same H' Hd∧Hd z2 = some (.lst ((((jar ts p.1).take j).map fun m=>decide (n < m)).map V.bl))) ⟨none,rfl,ja5 hz2 _,ja1⟩ ?_ ?_)
   ·unfold jdm
    simp_arith [jfr]
    exact ⟨d,_,rfl,g1,a2,rfl,⟨_,SqL.of g2⟩,hR2⟩
   ·rintro j σ2 Hd hj ⟨w2,rfl,s3,ez2⟩
    have x1:((jar ts p.1).map V.int)[j]? = some (.int (jar ts p.1)[j]):=by rw [List.getElem?_map,List.getElem?_eq_getElem hj]; rfl
    have x2:(jar ts p.1)[j]? = some (jar ts p.1)[j]:=List.getElem?_eq_getElem hj
    generalize (jar ts p.1)[j] = m at x1 x2
    have z1:SqL K Hd a2 ((jar ts p.1).map V.int):=SqL.of (s3 _ _ g2)
    refine ⟨⟨_,_,z1,x1⟩,?_⟩
    rintro y H9 ⟨rfl,hy⟩
    have E1:V.int m = y:=Option.some.inj (x1.symm.trans (hy _ z1))
    subst E1
    walk_at "RD"
    refine ⟨_,ez2,?_,_,rfl,jas s3 hz2,?_⟩
    ·rw [List.length_map,List.length_map,List.length_take]
     have:=jd8 ts p.1
     exact szl' (by omega)
    ·rw [ja1,jal x2,List.map_append,List.map_append]
     rfl
   rintro σ2 H3 ⟨w2,rfl,s3,ez2⟩
   refine ⟨⟨_,SqL.of (s3 _ _ g2),by rw [List.length_map]; exact Nat.le_refl _⟩,?_⟩
   rw [List.take_length] at ez2
   have ez3:=s3 _ _ ez
   simp_arith [ez2]
   refine ⟨_,rfl,?_⟩
   have ha:=jm0 (fun m=>decide (n < m)) (jar ts p.1)
   cases hb:(jar ts p.1).any fun m=>decide (n < m)
   ·rw [hb] at ha
    simp only [ha,Bool.true_and,Bool.false_eq_true,if_false,List.append_nil]
    exact ⟨_,rfl,s2.trans s3,ez3⟩
   ·rw [hb] at ha
    simp only [ha,Bool.true_and,if_true]
    refine ⟨_,ez3,?_,_,rfl,jas (s2.trans s3) hz,?_⟩
    ·rw [List.length_map]
     exact szl' (Nat.le_trans (List.length_filter_le _ _) (by rw [List.length_take,List.length_map]; omega))
    ·rw [ja1,List.map_append]
     rfl
  ·rw [decide_eq_false c]
   walk_at "RD"
   simp only [Bool.false_and,Bool.false_eq_true,if_false,List.append_nil]
   exact ⟨_,rfl,s2,ez⟩
 rintro σ' H2 ⟨w1,rfl,s2,ez⟩
 refine ⟨⟨s2 _ _ ed1,by omega⟩,?_⟩
 rw [← List.length_map (f:=(·.1)),List.take_length] at ez
 have nzd:z ≠ d:=(ja7 ed1 hz).symm
 exact h z H2 (hfr z hz) nzd (fun b u nb q=>s2 _ _ (b1 _ _ nb q)) (nr1.same s2) (fun o u q=>s2 _ _ (hfz o u q)) ez
def jfs (a b:List Int):List Int:=(a.zip b).map fun p=>p.1 + p.2
def jqs:Sp:=fun vs H Q _=>∃ (a b:Addr) (xs ys:List Int),vs = [.ref a,.ref b]∧H a = some (.lst (xs.map V.int))∧H b = some (.lst (ys.map V.int))∧xs.length ≤ 1000∧xs.length = ys.length∧∀ l H',H l = none→Same H H'→H' l = some (.lst ((jfs xs ys).map V.int))→Q (.ref l) H'
theorem jlg {xs ys:List Int} {i:Nat} {x y:Int} (h1:xs[i]? = some x) (h2:ys[i]? = some y):jfs (xs.take (i + 1)) (ys.take (i + 1)) = jfs (xs.take i) (ys.take i) ++ [x + y]:=by
 unfold jfs
 have hl:(xs.take i).length = (ys.take i).length:=by
  rw [List.length_take,List.length_take]
  have a:=(List.getElem?_eq_some_iff.mp h1).1
  have b:=(List.getElem?_eq_some_iff.mp h2).1
  omega
 rw [jal h1,jal h2,List.zip_append hl,List.map_append]
 rfl
theorem jse {f:Addr} {fd:FuncData}  (B:Blt mg) (D:DefAt K mg "sums" (top 27) ["one","other"] f fd):FnOk P w K mg base CX0 1 f fd ["one","other"] jqs:=by
 have sc:FnScope ["one","other"] ["one","other"] (jaa (top 27)):=⟨rfl,rfl,rfl,by decide +kernel,rfl,by decide +kernel,by decide +kernel⟩
 refine D.F.ok sc (fun vs H Q E h=>?_) (fun cdv A outer s H vs Q E hr h=>?_)
 ·obtain ⟨a,b,xs,ys,rfl,_⟩:=h
  rfl
 obtain ⟨a,b,xs,ys,rfl,ea,eb,hl9,hle,h⟩:=h
 have hu:=jbg hr
 have hu0:_ < PySem.cLine:=Nat.lt_of_succ_lt hu
 refine ⟨_,(ja6 (jah (jcb (CpScope.of (N:=["left","right"]) (src:=[none,none]) (by rfl)) rfl (jj6 rfl B.zip (ja0 (qv 0) (ja0 (qv 1) ja3))) (fun _ _ _ _=>(jcp (n:=2) rfl (jaj (jad (i:=0) (jai (l:=["left","right"]) (by rfl)) rfl (Or.inl rfl)) (jaj (jad (i:=1) (jai (l:=["left","right"]) (by rfl)) rfl (Or.inl rfl)) jbw)))) (fun _ _ _ _=>jd6) (fun _ _ _ _=>(jb0 jdr (qv 0) (qv 1)))))),?_⟩
 walk_at "RD"
 refine jau (Itz true K a b) H (fun R hR=>?_) (fun z hz=>jb1 xs.length (fun i σ' Hc=>∃ w1 w2,σ' = [w1,w2]∧Same H Hc∧Hc z = some (.lst ((jfs (xs.take i) (ys.take i)).map V.int))) ⟨none,none,rfl,ja5 hz _,ja1⟩ ?_ ?_)
 ·unfold jok
  walk_at "RD"
  exact ⟨true,a,b,rfl,⟨_,show SqL K H a _ from SqL.of ea⟩,⟨_,show SqL K H b _ from SqL.of eb⟩,hR⟩
 ·rintro i σ' Hc hi ⟨w1,w2,rfl,s1,ez⟩
  have x1:xs[i]? = some xs[i]:=List.getElem?_eq_getElem hi
  have y1:ys[i]? = some (ys[i]'(by omega)):=List.getElem?_eq_getElem _
  generalize xs[i] = x at x1
  generalize (ys[i]'(by omega)) = y at y1
  have X1:(xs.map V.int)[i]? = some (.int x):=by rw [List.getElem?_map,x1]; rfl
  have Y1:(ys.map V.int)[i]? = some (.int y):=by rw [List.getElem?_map,y1]; rfl
  have za:SqB true K Hc a (xs.map V.int):=show SqL K Hc a _ from SqL.of (s1 _ _ ea)
  have zb:SqB true K Hc b (ys.map V.int):=show SqL K Hc b _ from SqL.of (s1 _ _ eb)
  refine ⟨⟨_,_,_,_,za,zb,X1,Y1⟩,?_⟩
  rintro v H' ⟨t,x',y',ht,rfl,rfl,hx,hy⟩
  have E1:V.int x = x':=Option.some.inj (X1.symm.trans (hx _ za))
  have E2:V.int y = y':=Option.some.inj (Y1.symm.trans (hy _ zb))
  subst E1 E2
  have s2:=ja5 ht (.tup [.int x,.int y])
  have et:upd Hc t (.tup [.int x,.int y]) t = some (.tup [.int x,.int y]):=ja1
  have ez2:=s2 _ _ ez
  have s12:=s1.trans s2
  generalize upd Hc t (.tup [.int x,.int y]) = H2 at s2 et ez2 s12
  simp_arith [et]
  refine ⟨_,ez2,?_,_,_,rfl,jas s12 hz,?_⟩
  ·rw [List.length_map]
   unfold jfs
   rw [List.length_map,List.length_zip,List.length_take]
   exact szl' (by omega)
  ·rw [ja1,jlg x1 y1,List.map_append]
   rfl
 rintro σ' H1 ⟨w1,w2,rfl,s1,ez⟩
 refine ⟨⟨_,_,show SqL K H1 a _ from SqL.of (s1 _ _ ea),show SqL K H1 b _ from SqL.of (s1 _ _ eb),.inl (by rw [List.length_map]; exact Nat.le_refl _)⟩,?_⟩
 rw [List.take_length,hle,List.take_length] at ez
 exact h z H1 hz s1 ez
end
end My
namespace My
open PySem L2
section
variable {P:Program} {w:World} {K:PySem.W.Frag} {mg:Str→Option Value} {base:Heap} {c1 c2 c3 c4:Tok}
variable {α:Type}
def Kp (H H':Hp):Prop:=(∀ b xs,H b = some (.lst xs)→H' b = some (.lst xs))∧∀ b xs,H b = some (.tup xs)→H' b = some (.tup xs)
theorem Kp.trans {H H1 H2:Hp} (a:Kp H H1) (b:Kp H1 H2):Kp H H2:=⟨fun c xs q=>b.1 c xs (a.1 c xs q),fun c xs q=>b.2 c xs (a.2 c xs q)⟩
theorem jbn {H H':Hp} (s:Same H H'):Kp H H':=⟨fun b xs q=>s _ _ q,fun b xs q=>s _ _ q⟩
theorem But.kp {d:Addr} {H H':Hp} (b:But d H H') (hl:∀ xs,H d ≠ some (.lst xs)) (ht:∀ xs,H d ≠ some (.tup xs)):Kp H H':=⟨fun c xs q=>b _ _ (fun z=>hl xs (z ▸ q)) q,fun c xs q=>b _ _ (fun z=>ht xs (z ▸ q)) q⟩
structure Vl (α:Type) where
 VR:Hp→V→α→Prop
 ok:Nat→α→Prop
 gr:α→Int→Int→Bool→α
 jn:α→α→α
 kp:∀ {H H':Hp} {v:V} {a:α},Kp H H'→VR H v a→VR H' v a
def spGr (A:Vl α):Sp:=fun vs H Q _=>∃ v p q b a i,vs = [v,.int p,.int q,.bl b]∧A.VR H v a∧A.ok i a∧i ≤ 40∧∀ v' H',Same H H'→A.VR H' v' (A.gr a p q b)→A.ok (i + 1) (A.gr a p q b)→Q v' H'
def spJn (A:Vl α):Sp:=fun vs H Q _=>∃ v u a b i,vs = [v,u]∧A.VR H v a∧A.VR H u b∧A.ok i a∧A.ok i b∧i ≤ 41∧∀ v' H',Same H H'→A.VR H' v' (A.jn a b)→A.ok i (A.jn a b)→Q v' H'
abbrev AL (α:Type):=List (List Int × α)
def lkA (L:AL α) (c:List Int):Option α:=(L.find? fun x=>decide (x.1 = c)).map (·.2)
def ptA (L:AL α) (c:List Int) (a:α):AL α:=if (L.any fun x=>decide (x.1 = c)) = true then L.map (fun x=>if x.1 = c then (x.1,a) else x) else L ++ [(c,a)]
def jnV (jn:α→α→α) (o:Option α) (a:α):α:=match o with
 | some b=>jn b a
 | none=>a
def jnA (jn:α→α→α) (L:AL α) (c:List Int) (a:α):AL α:=ptA L c (jnV jn (lkA L c) a)
def jbp (ts:List (Int × Int)) (n:Int):List Int:=(jar ts n).filter fun m=>decide (m < n)
def acrL (edge:List Int) (c:List Int) (p:Int) (b:Bool):List Int:=(if b = true then c ++ [p] else c).filter fun m=>decide (m ∈ edge)
def st1 (A:Vl α) (edge ahead:List Int) (p q:Int) (c:List Int) (a:α) (L:AL α) (b:Bool):AL α :=
 if b = true ∨ (ahead.all fun m=>decide (m ∈ c)) = true then jnA A.jn L (acrL edge c p b) (A.gr a p q b) else L
def stP (A:Vl α) (ps ts:List (Int × Int)) (L:AL α) (p:Int × Int):AL α :=
 L.foldl (fun M x=>st1 A (jba ps ts p.1) (jbp ts p.1) p.1 p.2 x.1 x.2 (st1 A (jba ps ts p.1) (jbp ts p.1) p.1 p.2 x.1 x.2 M true) false) []
def alL (A:Vl α) (ps ts:List (Int × Int)) (a0:α) (qs:List (Int × Int)):AL α:=qs.foldl (stP A ps ts) [([],a0)]
theorem js6 (L:AL α) (c:List Int) (a:α):(ptA L c a).length ≤ L.length + 1:=by
 unfold ptA
 split
 ·rw [List.length_map]; omega
 ·rw [List.length_append]; exact Nat.le_refl _
theorem jgp (A:Vl α) (edge ahead:List Int) (p q:Int) (c:List Int) (a:α) (L:AL α) (b:Bool):(st1 A edge ahead p q c a L b).length ≤ L.length + 1:=by
 unfold st1 jnA
 split
 ·exact js6 _ _ _
 ·omega
abbrev ks (c:List Int):List Key:=c.map Sum.inl
theorem jso (c:List Int):(ks c).map kV = c.map V.int:=by rw [List.map_map]; rfl
theorem jid:∀ {a b:List Int},ks a = ks b→a = b
 | [],[],_=>rfl
 | [],_ :: _,h=>by cases h
 | _ :: _,[],h=>by cases h
 | x :: a,y :: b,h=>by
  have h':(Sum.inl x:Key) :: ks a = Sum.inl y :: ks b:=h
  injection h' with h1 h2
  rw [Sum.inl.inj h1,jid h2]
def TD (A:Vl α) (H:Hp) (kvs:List (List Key × V)) (L:AL α) (i:Nat):Prop:=Paired (fun kv x=>kv.1 = ks x.1∧A.VR H kv.2 x.2∧A.ok i x.2) kvs L
theorem TD.kp {A:Vl α} {H H':Hp} {kvs:List (List Key × V)} {L:AL α} {i:Nat} (h:TD A H kvs L i) (k:Kp H H'):TD A H' kvs L i:=Paired.mapP h fun _ _ q=>⟨q.1,A.kp k q.2.1,q.2.2⟩
theorem jsr {k:List Key} {c x:List Int} (h:k = ks x):decide (k = ks c) = decide (x = c):=by
 subst h
 by_cases e:x = c
 ·rw [e,decide_eq_true rfl,decide_eq_true rfl]
 ·rw [decide_eq_false e,decide_eq_false fun z=>e (jid z)]
theorem TD.val {A:Vl α} {H:Hp} {i:Nat} {c:List Int}:∀ {kvs:List (List Key × V)} {L:AL α},TD A H kvs L i→(lkA L c = none∧valV kvs (ks c) = none) ∨ ∃ a v,lkA L c = some a∧valV kvs (ks c) = some v∧A.VR H v a∧A.ok i a
 | _,_,.nil=>.inl ⟨rfl,rfl⟩
 | _,_,.cons (a:=kv) (b:=x) r t=>by
  by_cases e:x.1 = c
  ·refine .inr ⟨x.2,kv.2,?_,?_,r.2⟩
   ·unfold lkA; rw [List.find?_cons,decide_eq_true e]; rfl
   ·exact jce (by rw [r.1,e])
  ·have h1:∀ M:AL α,lkA (x :: M) c = lkA M c:=fun M=>by unfold lkA; rw [List.find?_cons,decide_eq_false e]
   have h2:∀ M:List (List Key × V),valV (kv :: M) (ks c) = valV M (ks c):=fun M=>jcf (fun z=>e (jid (r.1.symm.trans z)))
   rw [h1,h2]
   exact TD.val t
theorem TD.any {A:Vl α} {H:Hp} {i:Nat} {c:List Int}:∀ {kvs:List (List Key × V)} {L:AL α},TD A H kvs L i→(kvs.any fun kv=>decide (kv.1 = ks c)) = L.any fun x=>decide (x.1 = c)
 | _,_,.nil=>rfl
 | _,_,.cons r t=>by rw [List.any_cons,List.any_cons,jsr r.1,TD.any t]
theorem TD.mapE {A:Vl α} {H:Hp} {i:Nat} {c:List Int} {v:V} {a:α} (hv:A.VR H v a) (ho:A.ok i a):∀ {kvs:List (List Key × V)} {L:AL α},TD A H kvs L i→TD A H (kvs.map fun kv=>if kv.1 = ks c then (kv.1,v) else kv) (L.map fun x=>if x.1 = c then (x.1,a) else x) i
 | _,_,.nil=>.nil
 | _,_,.cons (a:=kv) (b:=x) r t=>by
  refine .cons ?_ (TD.mapE hv ho t)
  dsimp only
  by_cases e:x.1 = c
  ·rw [if_pos (by rw [r.1,e]),if_pos e]
   exact ⟨r.1,hv,ho⟩
  ·rw [if_neg (fun z=>e (jid (r.1.symm.trans z))),if_neg e]
   exact r
theorem TD.put {A:Vl α} {H:Hp} {i:Nat} {c:List Int} {v:V} {a:α} {kvs:List (List Key × V)} {L:AL α} (h:TD A H kvs L i) (hv:A.VR H v a) (ho:A.ok i a):TD A H (putK kvs (ks c) v) (ptA L c a) i:=by
 unfold putK ptA
 rw [TD.any h]
 split
 ·exact TD.mapE hv ho h
 ·exact jay h ⟨rfl,hv,ho⟩
def jgj (ps ts:List (Int × Int)):Bool:=(ps.map (·.1)).all fun n=>decide ((jba ps ts n).length ≤ 6)
def jmz (A:Vl α) (fs:List (Addr × Sp)):Sp:=fun vs H Q _=>∃ v s fg fj ps ts a0 a,vs = [v,s,.ref fg,.ref fj]∧(fg,spGr A) ∈ fs∧(fj,spJn A) ∈ fs∧jd5 H v ps ts∧WebOk ps ts∧jgj ps ts = true∧A.VR H s a0∧A.ok 0 a0∧lkA (alL A ps ts a0 ps) [] = some a∧∀ v' H',Same H H'→A.VR H' v' a→Q v' H'
end
end My
namespace My
open PySem L2
section
variable {P:Program} {w:World} {K:PySem.W.Frag} {mg:Str→Option Value} {base:Heap} {c1 c2 c3 c4:Tok}
variable {α:Type}
theorem NrE.nl {H:Hp} {d:Addr} {ps ts:List (Int × Int)} (h:NrE H d ps ts):(∀ xs,H d ≠ some (.lst xs))∧(∀ xs,H d ≠ some (.tup xs))∧∀ kvs,H d ≠ some (.dT kvs):=by
 obtain ⟨as,e,_⟩:=h
 rcases e with e | ⟨o,e⟩
 ·exact ⟨(fun xs z=>by rw [e] at z; cases z),(fun xs z=>by rw [e] at z; cases z),(fun xs z=>by rw [e] at z; cases z)⟩
 ·exact ⟨(fun xs z=>by rw [e] at z; cases z),(fun xs z=>by rw [e] at z; cases z),(fun xs z=>by rw [e] at z; cases z)⟩
theorem jf0 (A:Vl α) (ps ts:List (Int × Int)) (a0:α) {qs:List (Int × Int)} {i:Nat} {p:Int × Int} (h:qs[i]? = some p):alL A ps ts a0 (qs.take (i + 1)) = stP A ps ts (alL A ps ts a0 (qs.take i)) p:=by
 unfold alL
 rw [jal h,List.foldl_append]
 rfl
def stF (A:Vl α) (edge ahead:List Int) (p q:Int) (L:AL α):AL α:=L.foldl (fun M x=>st1 A edge ahead p q x.1 x.2 (st1 A edge ahead p q x.1 x.2 M true) false) []
theorem jpl (A:Vl α) (edge ahead:List Int) (p q:Int) {L:AL α} {j:Nat} {x:List Int × α} (h:L[j]? = some x):stF A edge ahead p q (L.take (j + 1)) = st1 A edge ahead p q x.1 x.2 (st1 A edge ahead p q x.1 x.2 (stF A edge ahead p q (L.take j)) true) false:=by
 unfold stF
 rw [jal h,List.foldl_append]
 rfl
theorem je5:∀ (gs:List Int),(gs.map V.int).all jdu = true
 | []=>rfl
 | _ :: r=>je5 r
theorem jjq (m:Int) (c:List Int):inV (.int m) (c.map V.int) = decide (m ∈ c):=jey _ _
theorem ptA_nd {L:AL α} {c:List Int} {a:α} (h:(L.map (·.1)).Nodup):((ptA L c a).map (·.1)).Nodup:=by
 unfold ptA
 split
 ·rw [List.map_map]
  have:((fun x:List Int × α=>x.1) ∘ fun x=>if x.1 = c then (x.1,a) else x) = fun x=>x.1:=by
   funext x
   show (if x.1 = c then (x.1,a) else x).1 = x.1
   split <;> rfl
  rw [this]
  exact h
 ·rename_i hn
  rw [List.map_append,List.nodup_append]
  refine ⟨h,by simp,fun x hx y hy e=>hn ?_⟩
  rw [List.map_cons,List.map_nil,List.mem_singleton] at hy
  obtain ⟨z,hz,rfl⟩:=List.mem_map.mp hx
  rw [List.any_eq_true]
  exact ⟨z,hz,decide_eq_true (e.trans hy)⟩
theorem jk7 (A:Vl α) (edge ahead:List Int) (p q:Int) (c:List Int) (a:α) (L:AL α) (b:Bool) (h:(L.map (·.1)).Nodup):((st1 A edge ahead p q c a L b).map (·.1)).Nodup:=by
 unfold st1 jnA
 split
 ·exact ptA_nd h
 ·exact h
theorem jmp (A:Vl α) (edge ahead:List Int) (p q:Int) (L:AL α):((stF A edge ahead p q L).map (·.1)).Nodup∧(stF A edge ahead p q L).length ≤ 2 * L.length:=by
 unfold stF
 have:∀ (L M:AL α),(M.map (·.1)).Nodup→((L.foldl (fun M x=>st1 A edge ahead p q x.1 x.2 (st1 A edge ahead p q x.1 x.2 M true) false) M).map (·.1)).Nodup∧(L.foldl (fun M x=>st1 A edge ahead p q x.1 x.2 (st1 A edge ahead p q x.1 x.2 M true) false) M).length ≤ M.length + 2 * L.length:=fun L=>by
  induction L with
  | nil=>intro M h; exact ⟨h,by simp⟩
  | cons x r ih =>
   intro M h
   rw [List.foldl_cons,List.length_cons]
   have h1:=jgp A edge ahead p q x.1 x.2 M true
   have h2:=jgp A edge ahead p q x.1 x.2 (st1 A edge ahead p q x.1 x.2 M true) false
   obtain ⟨a,b⟩:=ih _ (jk7 A edge ahead p q x.1 x.2 _ false (jk7 A edge ahead p q x.1 x.2 M true h))
   exact ⟨a,by omega⟩
 have:=this L [] List.nodup_nil
 simpa using this
theorem jrp (A:Vl α) (ps ts:List (Int × Int)) (a0:α) (qs:List (Int × Int)):((alL A ps ts a0 qs).map (·.1)).Nodup:=by
 unfold alL
 have:∀ (qs:List (Int × Int)) (L:AL α),(L.map (·.1)).Nodup→((qs.foldl (stP A ps ts) L).map (·.1)).Nodup:=fun qs=>by
  induction qs with
  | nil=>intro L h; exact h
  | cons q r ih=>intro L h; rw [List.foldl_cons]; exact ih _ (jmp A _ _ q.1 q.2 L).1
 exact this qs _ (by simp)
theorem jnc {L:AL α} {c:List Int} {a:α} {x:List Int × α} (h:x ∈ ptA L c a):x.1 = c ∨ ∃ y ∈ L,y.1 = x.1:=by
 unfold ptA at h
 split at h
 ·obtain ⟨y,hy,e⟩:=List.mem_map.mp h
  refine .inr ⟨y,hy,?_⟩
  rw [← e]
  split <;> rfl
 ·rcases List.mem_append.mp h with h | h
  ·exact .inr ⟨x,h,rfl⟩
  ·rw [List.mem_singleton.mp h]
   exact .inl rfl
theorem jk8 (A:Vl α) (edge ahead:List Int) (p q:Int) (c:List Int) (a:α) (L:AL α) (b:Bool) {k:Nat} (hc:c.length ≤ k) (h:∀ x ∈ L,x.1.length ≤ k + 1):∀ x ∈ st1 A edge ahead p q c a L b,x.1.length ≤ k + 1:=by
 unfold st1 jnA
 split
 ·intro x hx
  rcases jnc hx with e | ⟨y,hy,e⟩
  ·rw [e]
   unfold acrL
   refine Nat.le_trans (List.length_filter_le _ _) ?_
   split
   ·rw [List.length_append]; show c.length + 1 ≤ _; omega
   ·omega
  ·rw [← e]; exact h y hy
 ·exact h
theorem jpm (A:Vl α) (edge ahead:List Int) (p q:Int) {L:AL α} {k:Nat} (h:∀ x ∈ L,x.1.length ≤ k):∀ x ∈ stF A edge ahead p q L,x.1.length ≤ k + 1:=by
 unfold stF
 have:∀ (L M:AL α),(∀ x ∈ L,x.1.length ≤ k)→(∀ x ∈ M,x.1.length ≤ k + 1)→∀ x ∈ L.foldl (fun M x=>st1 A edge ahead p q x.1 x.2 (st1 A edge ahead p q x.1 x.2 M true) false) M,x.1.length ≤ k + 1:=fun L=>by
  induction L with
  | nil=>intro M _ hM; exact hM
  | cons x r ih =>
   intro M hL hM
   rw [List.foldl_cons]
   have hx:=hL x (.head _)
   exact ih _ (fun y hy=>hL y (.tail _ hy)) (jk8 A edge ahead p q x.1 x.2 _ false hx (jk8 A edge ahead p q x.1 x.2 M true hx hM))
 exact this L [] h (fun _ h=>by cases h)
theorem jql (A:Vl α) (ps ts:List (Int × Int)) (a0:α):∀ (qs:List (Int × Int)),∀ x ∈ alL A ps ts a0 qs,x.1.length ≤ qs.length:=fun qs=>by
 have:∀ (qs:List (Int × Int)) (L:AL α) (k:Nat),(∀ x ∈ L,x.1.length ≤ k)→∀ x ∈ qs.foldl (stP A ps ts) L,x.1.length ≤ k + qs.length:=fun qs=>by
  induction qs with
  | nil=>intro L k h; exact h
  | cons q r ih =>
   intro L k h x hx
   rw [List.foldl_cons] at hx
   have:=ih _ (k + 1) (jpm A (jba ps ts q.1) (jbp ts q.1) q.1 q.2 h) x hx
   rw [List.length_cons]
   omega
 intro x hx
 have:=this qs [([],a0)] 0 (fun y hy=>by rw [List.mem_singleton.mp hy]; exact Nat.le_refl _) x hx
 omega
theorem jqq (A:Vl α) (edge ahead:List Int) (p q:Int) {L:AL α} {Pr:List Int→Prop} (h:∀ x ∈ L,∀ b,Pr (acrL edge x.1 p b)):∀ x ∈ stF A edge ahead p q L,Pr x.1:=by
 unfold stF
 have one:∀ (c:List Int) (a:α) (M:AL α) (b:Bool),Pr (acrL edge c p b)→(∀ x ∈ M,Pr x.1)→∀ x ∈ st1 A edge ahead p q c a M b,Pr x.1:=fun c a M b hc hM=>by
  unfold st1 jnA
  split
  ·intro x hx
   rcases jnc hx with e | ⟨y,hy,e⟩
   ·rw [e]; exact hc
   ·rw [← e]; exact hM y hy
  ·exact hM
 have:∀ (L M:AL α),(∀ x ∈ L,∀ b,Pr (acrL edge x.1 p b))→(∀ x ∈ M,Pr x.1)→∀ x ∈ L.foldl (fun M x=>st1 A edge ahead p q x.1 x.2 (st1 A edge ahead p q x.1 x.2 M true) false) M,Pr x.1:=fun L=>by
  induction L with
  | nil=>intro M _ hM; exact hM
  | cons x r ih =>
   intro M hL hM
   rw [List.foldl_cons]
   exact ih _ (fun y hy=>hL y (.tail _ hy)) (one _ _ _ _ (hL x (.head _) false) (one _ _ _ _ (hL x (.head _) true) hM))
 exact this L [] h (fun _ h=>by cases h)
def sbs:List Int→List (List Int)
 | []=>[[]]
 | n :: r=>sbs r ++ (sbs r).map (n :: ·)
theorem jn2:∀ e:List Int,(sbs e).length = 2 ^ e.length
 | []=>rfl
 | n :: r=>by
  rw [sbs,List.length_append,List.length_map,jn2 r,List.length_cons,Nat.pow_succ]
  omega
theorem jj1:∀ {e c:List Int},e.Pairwise (· < ·)→c.Pairwise (· < ·)→(∀ x ∈ c,x ∈ e)→c ∈ sbs e
 | [],[],_,_,_=>.head _
 | [],m :: _,_,_,h=>by cases h m (.head _)
 | n :: r,c,he,hc,h=>by
  rw [List.pairwise_cons] at he
  rw [sbs,List.mem_append]
  by_cases hn:n ∈ c
  ·cases c with
   | nil=>cases hn
   | cons m t =>
    rw [List.pairwise_cons] at hc
    have hmn:m = n:=by
     rcases List.mem_cons.mp hn with z | z
     ·exact z.symm
     ·have h1:=hc.1 n z
      rcases List.mem_cons.mp (h m (.head _)) with w | w
      ·exact w
      ·have:=he.1 m w; omega
    subst hmn
    refine .inr (List.mem_map.mpr ⟨t,jj1 he.2 hc.2 fun x hx=>?_,rfl⟩)
    rcases List.mem_cons.mp (h x (.tail _ hx)) with w | w
    ·have:=hc.1 x hx; omega
    ·exact w
  ·exact .inl (jj1 he.2 hc fun x hx=>(List.mem_cons.mp (h x hx)).resolve_left fun z=>hn (z ▸ hx))
theorem jnt {α:Type} [DecidableEq α]:∀ {a b:List α},a.Nodup→(∀ x ∈ a,x ∈ b)→a.length ≤ b.length
 | [],_,_,_=>Nat.zero_le _
 | x :: r,b,hn,h=>by
  rw [List.nodup_cons] at hn
  have hx:=h x (.head _)
  have:=jnt (b:=b.erase x) hn.2 fun y hy=>(List.mem_erase_of_ne (fun z:y = x=>hn.1 (z ▸ hy))).mpr (h y (.tail _ hy))
  rw [List.length_erase_of_mem hx] at this
  have:=List.length_pos_of_mem hx
  rw [List.length_cons]
  omega
theorem jr4:∀ {ps:List (Int × Int)} {l s:Int},PlOk l s ps→(ps.map (·.1)).Pairwise (· < ·)
 | [],_,_,_=>.nil
 | p :: r,l,s,h=>by
  rw [List.map_cons]
  exact .cons (fun n hn=>by
   obtain ⟨q,hq,e⟩:=List.mem_map.mp hn
   rw [← e]
   exact PlOk.gt h.2 q hq) (jr4 h.2)
theorem jpa (A:Vl α) {ps ts:List (Int × Int)} (wok:WebOk ps ts) (a0:α):∀ i,i ≤ ps.length→∀ x ∈ alL A ps ts a0 (ps.take i),x.1.Pairwise (· < ·)∧∀ m ∈ x.1,∀ (j:Nat) (p:Int × Int),i ≤ j→ps[j]? = some p→m < p.1
 | 0,_,x,hx=>by
  have hx':x = ([],a0):=List.mem_singleton.mp hx
  rw [hx']
  exact ⟨.nil,fun m hm=>by cases hm⟩
 | i + 1,hi,x,hx=>by
  have ih:=jpa A wok a0 i (by omega)
  have hp:ps[i]? = some (ps[i]'(by omega)):=List.getElem?_eq_getElem _
  generalize ps[i]'(by omega) = p at hp
  rw [jf0 A ps ts a0 hp] at hx
  refine jqq A (jba ps ts p.1) (jbp ts p.1) p.1 p.2 (Pr:=fun c=>c.Pairwise (· < ·)∧∀ m ∈ c,∀ (j:Nat) (q:Int × Int),i + 1 ≤ j→ps[j]? = some q→m < q.1) (fun y hy b=>?_) x hx
  obtain ⟨h1,h2⟩:=ih y hy
  unfold acrL
  have hs:∀ c:List Int,(c.Pairwise (· < ·)∧∀ m ∈ c,∀ (j:Nat) (q:Int × Int),i + 1 ≤ j→ps[j]? = some q→m < q.1)→(c.filter fun m=>decide (m ∈ jba ps ts p.1)).Pairwise (· < ·)∧∀ m ∈ c.filter fun m=>decide (m ∈ jba ps ts p.1),∀ (j:Nat) (q:Int × Int),i + 1 ≤ j→ps[j]? = some q→m < q.1:=fun c hc=>⟨hc.1.sublist List.filter_sublist,fun m hm=>hc.2 m (List.mem_filter.mp hm).1⟩
  refine hs _ ?_
  cases b with
  | false=>exact ⟨h1,fun m hm j q hj hq=>h2 m hm j q (by omega) hq⟩
  | true =>
   refine ⟨List.pairwise_append.mpr ⟨h1,List.pairwise_singleton _ _,fun m hm n hn=>?_⟩,fun m hm j q hj hq=>?_⟩
   ·rw [List.mem_singleton.mp hn]
    exact h2 m hm i p (Nat.le_refl _) hp
   ·rcases List.mem_append.mp hm with z | z
    ·exact h2 m z j q (by omega) hq
    ·rw [List.mem_singleton.mp z]
     exact wok.p.rise i j p q (by omega) hp hq
theorem jqk (A:Vl α) {ps ts:List (Int × Int)} (wok:WebOk ps ts) (hw:jgj ps ts = true) (a0:α) {i:Nat} (hi:i ≤ ps.length):(alL A ps ts a0 (ps.take i)).length ≤ 64:=by
 cases i with
 | zero=>show 1 ≤ 64; omega
 | succ i =>
  have hp:ps[i]? = some (ps[i]'(by omega)):=List.getElem?_eq_getElem _
  generalize ps[i]'(by omega) = p at hp
  have hs:=jpa A wok a0 (i + 1) hi
  have hnd:=jrp A ps ts a0 (ps.take (i + 1))
  have he:∀ x ∈ alL A ps ts a0 (ps.take (i + 1)),∀ m ∈ x.1,m ∈ jba ps ts p.1:=fun x hx=>by
   rw [jf0 A ps ts a0 hp] at hx
   exact jqq A (jba ps ts p.1) (jbp ts p.1) p.1 p.2 (Pr:=fun c=>∀ m ∈ c,m ∈ jba ps ts p.1) (fun y _ b m hm=>of_decide_eq_true (List.mem_filter.mp hm).2) x hx
  have hes:(jba ps ts p.1).Pairwise (· < ·):=by
   unfold jba
   exact (jr4 wok.p).sublist List.filter_sublist
  have h6:(jba ps ts p.1).length ≤ 6:=by
   unfold jgj at hw
   rw [List.all_eq_true] at hw
   exact of_decide_eq_true (hw p.1 (List.mem_map_of_mem (List.mem_of_getElem? hp)))
  have h1:=jnt hnd (b:=sbs (jba ps ts p.1)) fun c hc=>by
   obtain ⟨x,hx,e⟩:=List.mem_map.mp hc
   rw [← e]
   exact jj1 hes (hs x hx).1 (he x hx)
  rw [List.length_map,jn2] at h1
  exact Nat.le_trans h1 (Nat.le_trans (Nat.pow_le_pow_right (by decide) h6) (by decide))
theorem jdx {a b:TS} {D:Ends} {σ:St} {H:Hp} (h:∀ R D',R = b→D' = D→tSeq a R D' σ H):tSeq a b D σ H:=h b D rfl rfl
theorem jmb {κ:Type} [DecidableEq κ]:∀ {kvs:List (κ × V)} {kv:κ × V},(kvs.map (·.1)).Nodup→kv ∈ kvs→valV kvs kv.1 = some kv.2
 | x :: r,kv,hn,h=>by
  rw [List.map_cons,List.nodup_cons] at hn
  rcases List.mem_cons.mp h with e | h
  ·subst e
   exact jce rfl
  ·rw [jcf (fun z=>hn.1 (z ▸ List.mem_map_of_mem h))]
   exact jmb hn.2 h
theorem TD.nd {A:Vl α} {H:Hp} {i:Nat}:∀ {kvs:List (List Key × V)} {L:AL α},TD A H kvs L i→(L.map (·.1)).Nodup→(kvs.map (·.1)).Nodup:=fun {kvs L} h hn=>by
 have e:kvs.map (·.1) = (L.map (·.1)).map ks:=by
  induction h with
  | nil=>rfl
  | cons r t ih=>rw [List.map_cons,List.map_cons,List.map_cons,r.1,ih (List.nodup_cons.mp hn).2]
 rw [e]
 exact List.pairwise_map.mpr (List.Pairwise.imp (fun h z=>h (jid z)) hn)
theorem NrF.kp {H H':Hp} {d:Addr} {ps ts:List (Int × Int)} (h:NrF H d ps ts) (k:Kp H H') (e:∀ u,H d = some u→H' d = some u):NrF H' d ps ts:=let ⟨o,as,a,b,c⟩:=h; ⟨o,as,e _ a,b,fun i p q h1 h2=>k.1 _ _ (c i p q h1 h2)⟩
theorem jqb {t:TT} {a b:TS} {D:Ends} {σ:St} {H:Hp} (h:∀ TH D',TH = a→D' = D→tIfS t TH b D' σ H):tIfS t a b D σ H:=h a D rfl rfl
theorem jm1 (f:Int→Bool) (l:List Int):(l.map f).all id = l.all f:=by rw [List.all_map]; rfl
theorem job {d:Addr} {H H':Hp} {kvs:List (List Key × V)} (b:But d H H') (e:H d = some (.dT kvs)):Kp H H':=b.kp (fun xs z=>by rw [e] at z; cases z) (fun xs z=>by rw [e] at z; cases z)
theorem jq1 {f:Addr} {fd:FuncData} {f_nears_in:Addr} {d_nears_in:FuncData} {f_edge_known:Addr} {d_edge_known:FuncData} (B:Blt mg) (D:DefAt K mg "along" (top 26) ["web","start","grown","joined"] f fd) (D_nears_in:DefAt K mg "nears_in" (top 21) ["web"] f_nears_in d_nears_in) (G_nears_in:FnOk P w K mg base CX0 1 f_nears_in d_nears_in ["web"] jdw) (D_edge_known:DefAt K mg "edge_known" (top 24) ["nears","place"] f_edge_known d_edge_known) (G_edge_known:FnOk P w K mg base CX0 1 f_edge_known d_edge_known ["nears","place"] jmw) {VA:Vl α} {fs:List (Addr × Sp)} (hFV:∀ f sp,(f,sp) ∈ fs→∃ fd ps,FnOk P w K mg base CX0 2 f fd ps sp∧PySem.W.keepIn K (.ref f) = true∧jhl K fd ps []):FnOk P w K mg base CX0 3 f fd ["web","start","grown","joined"] (jmz VA fs):=by
 have sc:FnScope ["web","start","grown","joined","nears","told","place","price","edge","ahead","here","chosen","is_in","all_chosen","across","value"] ["web","start","grown","joined"] (jaa (top 26)):=⟨rfl,rfl,rfl,by decide +kernel,rfl,by decide +kernel,by decide +kernel⟩
 refine D.F.ok sc (fun vs H Q E h=>?_) (fun cdv A outer s H vs Q E hr h=>?_)
 ·obtain ⟨v,s,fg,fj,ps,ts,a0,a,rfl,_⟩:=h
  rfl
 obtain ⟨v,s0,fg,fj,ps,ts,a0,af,rfl,hfg,hfj,hw,wok,hwd,hs0,ok0,hlk,h⟩:=h
 obtain ⟨xv,pa,ta,xs,ys,rfl,ex,ep,et,pp,pt⟩:=id hw
 have hlx:xs.length = ps.length:=Paired.length pp
 have hnd:=wok.p.nodup
 have htl:=wok.tl
 have hp40:=wok.pl
 have h1m:(1000000:Nat) ≤ sizeLine:=by decide
 have hu:=jbg hr
 have hu0:_ < PySem.cLine:=Nat.lt_of_succ_lt hu
 refine ⟨_,(ja2 (jag (i:=4) sc.nd rfl (Or.inl rfl) (ja9 G_nears_in (hr.mono (by decide)) rfl D_nears_in.m D_nears_in.F.kp D_nears_in.b .nil jan (ja0 (qv 0) ja3))) (ja2 (jag (i:=5) sc.nd rfl (Or.inl rfl) (jpy hu (jb8 ja3) (qv 1))) (ja2 (jbu PassesOwn.never rfl (jbm (jae q_ix (qv 0) ja4 (fun _ _=>rfl))) (jcp (n:=2) rfl (jaj (jad (i:=6) sc.nd rfl (Or.inr rfl)) (jaj (jad (i:=7) sc.nd rfl (Or.inl rfl)) jbw))) (ja2 (jag (i:=8) sc.nd rfl (Or.inr rfl) (ja9 G_edge_known (hr.mono (by decide)) rfl D_edge_known.m D_edge_known.F.kp D_edge_known.b .nil jan (ja0 (qv 4) (ja0 (qv 6) ja3)))) (ja2 (jgu (i:=9) sc.nd rfl (Or.inl rfl) (CpScope.of (N:=["one","place"]) (src:=[none,some 6]) (by rfl)) rfl (jbm (jca hu (qv 4) (qv 6) (fun _ _=>rfl))) (fun _ _ _ _=>(jad (i:=0) (jai (l:=["one","place"]) (by rfl)) rfl (Or.inl rfl))) (fun _ _ _ _=>(jds (jaw q_lt (qv 0) (qv 1) (jap _)))) (fun _ _ _ _=>(qv 0))) (ja2 (jag (i:=10) sc.nd rfl (Or.inl rfl) jpx) (ja2 (jbu PassesOwn.never rfl (jpu (qv 5)) (jad (i:=11) sc.nd rfl (Or.inr rfl)) (ja6 (jbu PassesOwn.never rfl (jr5 (jb8 (ja0 je0 (ja0 je0 ja3)))) (jad (i:=12) sc.nd rfl (Or.inl rfl)) (ja6 (jbd (PW.pt (jgt (jb4 (qv 12)) (jei (jb4 (jab (q_all rfl) rfl B.all PyProof.Rows.boot_all (ja0 (jcb (CpScope.of (N:=["one","chosen"]) (src:=[none,some 11]) (by rfl)) rfl (jbm (qv 9)) (fun _ _ _ _=>(jad (i:=0) (jai (l:=["one","chosen"]) (by rfl)) rfl (Or.inl rfl))) (fun _ _ _ _=>jd6) (fun _ _ _ _=>(jbz jpq (qv 0) (qv 1) (by with_unfolding_all rfl)))) ja3)))))) (ja2 (jag (i:=13) sc.nd rfl (Or.inl rfl) (jev (jb4 (qv 12)) (jb0 q_catT (qv 11) (jb8 (ja0 (qv 6) ja3))) (qv 11))) (ja2 (jag (i:=14) sc.nd rfl (Or.inl rfl) (jbe jhj rfl B.tuple PyProof.Rows.boot_tuple (ja0 (jcb (CpScope.of (N:=["one","edge"]) (src:=[none,some 8]) (by rfl)) rfl (jr5 (qv 13)) (fun _ _ _ _=>(jad (i:=0) (jai (l:=["one","edge"]) (by rfl)) rfl (Or.inl rfl))) (fun _ _ _ _=>(jds (jaw jpq (qv 0) (qv 1) (by with_unfolding_all rfl)))) (fun _ _ _ _=>(qv 0))) ja3))) (ja2 (jag (i:=15) sc.nd rfl (Or.inl rfl) (jkp (fs:=fs) (qv 2) hFV (hr.mono (by decide)) (ja0 (jca hu (qv 5) (qv 11) (fun _ _=>rfl)) (ja0 (qv 6) (ja0 (qv 7) (ja0 (qv 12) ja3)))))) (ja6 (js7 hu (qv 10) (qv 14) (jev (jr2 (jr7 hu (qv 14) (qv 10))) (jkp (fs:=fs) (qv 3) hFV (hr.mono (by decide)) (ja0 (jca hu (qv 10) (qv 14) (fun _ _=>rfl)) (ja0 (qv 15) ja3))) (qv 15)) rfl))))) jak))))) (ja6 (jag (i:=5) sc.nd rfl (Or.inl rfl) (qv 10)))))))) (ja6 (jah (jca hu (qv 5) (jb8 ja3) (fun _ _=>rfl))))))),?_⟩
 refine jaf fun R hR=>?_
 walk_at "RD"
 refine ⟨_,ps,ts,rfl,hw,wok,fun nd as H1 hnd0 s1 end1 hla hnr=>?_⟩
 have nr1:NrE H1 nd ps ts:=⟨as,.inl end1,hla,hnr⟩
 walk_at "RD"
 subst hR
 refine jaf fun R hR=>?_
 simp_arith [jqo]
 intro td htd
 have s2:=ja5 htd (.dT [])
 have etd2:upd H1 td (.dT []) td = some (.dT []):=ja1
 generalize upd H1 td (.dT []) = H2 at s2 etd2
 intro e0 he0
 have s3:=ja5 he0 (.tup [])
 have ee0:upd H2 e0 (.tup []) e0 = some (.tup []):=ja1
 have etd3:=s3 _ _ etd2
 have S3:=s2.trans s3
 generalize upd H2 e0 (.tup []) = H3 at s3 ee0 etd3 S3
 refine ⟨e0,[],etd3,rfl,ee0,?_⟩
 have htd0:H td = none:=s1.free htd
 have s04:Same H (upd H3 td (.dT [([],s0)])):=jas (s1.trans S3) htd0
 have etd4:upd H3 td (.dT [([],s0)]) td = some (.dT [([],s0)]):=ja1
 have nnt:nd ≠ td:=fun z=>by rw [z,htd] at end1; cases end1
 have nr4:NrE (upd H3 td (.dT [([],s0)])) nd ps ts:=by
  refine ⟨as,.inl (by rw [ja8 nnt]; exact S3 _ _ end1),hla,fun i p a h1 h2=>?_⟩
  have:=S3 _ _ (hnr i p a h1 h2)
  rw [ja8 (fun z=>by rw [z,etd3] at this; cases this)]
  exact this
 generalize upd H3 td (.dT [([],s0)]) = H4 at s04 etd4 nr4
 have td4:TD VA H4 [([],s0)] (alL VA ps ts a0 (ps.take 0)) 0:=.cons ⟨rfl,VA.kp (jbn s04) hs0,ok0⟩ .nil
 walk_at "RD"
 subst hR
 refine jaf fun R hR=>?_
 refine jco (Itl K pa) H4 (fun R' hR'=>?_) (jd2 (K:=K) (a:=pa) (xs:=xs) (fun i σ H5=>∃ dd kvs w6 w7 w8 w9 w10 w11 w12 w13 w14 w15,σ = [some (.ref xv),some s0,some (.ref fg),some (.ref fj),some (.ref nd),some (.ref dd),w6,w7,w8,w9,w10,w11,w12,w13,w14,w15]∧Same H H5∧H dd = none∧NrE H5 nd ps ts∧H5 dd = some (.dT kvs)∧TD VA H5 kvs (alL VA ps ts a0 (ps.take i)) i) ⟨td,_,none,none,none,none,none,none,none,none,none,none,rfl,s04,htd0,nr4,etd4,td4⟩ (fun i σ H5 _ ⟨_,_,_,_,_,_,_,_,_,_,_,_,_,s5,_⟩=>SqL.of (s5 _ _ ep)) ?_ ?_)
 ·unfold jdm
  simp_arith [jam,s04 _ _ ex,at0]
  exact ⟨pa,rfl,⟨_,SqL.of (s04 _ _ ep)⟩,hR'⟩
 ·rintro i y σ H5 hi ⟨dd,kvs,w6,w7,w8,w9,w10,w11,w12,w13,w14,w15,rfl,s5,hdd,nr5,edd,tdv⟩
  obtain ⟨p,hp,tq,rfl,etq⟩:=jao pp hi
  have hil:i < ps.length:=(List.getElem?_eq_some_iff.mp hp).1
  have etq5:=s5 _ _ etq
  obtain ⟨n,pr⟩:=p
  dsimp only at etq5
  have hnp:n ∈ ps.map (·.1):=List.mem_map_of_mem (List.mem_of_getElem? hp)
  have hLl:(alL VA ps ts a0 (ps.take i)).length ≤ 4096:=by
   exact Nat.le_trans (jqk VA wok hwd a0 (by omega)) (by decide)
  generalize hL:alL VA ps ts a0 (ps.take i) = L at tdv hLl
  have hkl:kvs.length = L.length:=Paired.length tdv
  simp only [jou,jij,jov,jd1,etq5,List.length_cons,List.length_nil,List.set_cons_zero,List.set_cons_succ,true_and,Nat.reduceAdd]
  refine jaf fun R9 hR9=>?_
  walk_at "RD"
  obtain ⟨q1,q2,q3⟩:=nr5.nl
  refine ⟨nd,n,ps,ts,rfl,nr5,hnd,by omega,htl,fun el H6 hel nel b6 nr6 _ eel=>?_⟩
  have kp6:Kp H5 H6:=b6.kp q1 q2
  have ndd:dd ≠ nd:=fun z=>q3 kvs (z ▸ edd)
  have edd6:=b6 _ _ ndd edd
  have td6:=tdv.kp kp6
  have hnd0':H nd = none:=hnd0
  have s6:Same H H6:=fun b u q=>b6 _ _ (fun z=>by rw [z,hnd0'] at q; cases q) (s5 _ _ q)
  walk_at "RD"
  subst hR9
  refine jaf fun R9 hR9=>?_
  walk_at "RD"
  obtain ⟨na,g1,g2⟩:=(nr6.e).get hnd hnp
  refine jau (Itl K na) H6 (fun R2 hR2=>?_) (fun al hal=>jb1 (jar ts n).length (fun j σ2 Hd=>∃ w2,σ2 = [w2,some (.int n)]∧Same H6 Hd∧Hd al = some (.lst ((((jar ts n).take j).filter fun m=>decide (m < n)).map V.int))) ⟨none,rfl,ja5 hal _,ja1⟩ ?_ ?_)
  ·unfold jdm
   simp_arith [jfr]
   exact ⟨nd,_,rfl,g1,na,rfl,⟨_,SqL.of g2⟩,hR2⟩
  ·rintro j σ2 Hd hj ⟨w2,rfl,s3,ez2⟩
   have x1:((jar ts n).map V.int)[j]? = some (.int (jar ts n)[j]):=by rw [List.getElem?_map,List.getElem?_eq_getElem hj]; rfl
   have x2:(jar ts n)[j]? = some (jar ts n)[j]:=List.getElem?_eq_getElem hj
   generalize (jar ts n)[j] = m at x1 x2
   have z1:SqL K Hd na ((jar ts n).map V.int):=SqL.of (s3 _ _ g2)
   refine ⟨⟨_,_,z1,x1⟩,?_⟩
   rintro y H9 ⟨rfl,hy⟩
   have E1:V.int m = y:=Option.some.inj (x1.symm.trans (hy _ z1))
   subst E1
   rw [jdd x2]
   walk_at "RD"
   by_cases c:m < n
   ·simp only [c,decide_true,if_true]
    refine ⟨_,ez2,?_,_,rfl,jas s3 hal,?_⟩
    ·rw [List.length_map]
     have:=jd8 ts n
     exact szl' (Nat.le_trans (List.length_filter_le _ _) (by rw [List.length_take]; omega))
    ·rw [ja1,List.map_append]
     rfl
   ·simp only [c,decide_false,Bool.false_eq_true,if_false,List.append_nil]
    exact ⟨_,rfl,s3,ez2⟩
  rintro σ2 H7 ⟨w2,rfl,s67,eal⟩
  refine ⟨⟨_,SqL.of (s67 _ _ g2),by rw [List.length_map]; exact Nat.le_refl _⟩,?_⟩
  rw [List.take_length] at eal
  have eal:H7 al = some (.lst ((jbp ts n).map V.int)):=eal
  have eel7:=s67 _ _ eel
  have edd7:=s67 _ _ edd6
  have nr7:=nr6.same s67
  have td7:=td6.kp (jbn s67)
  have s7:=s6.trans s67
  clear g1 g2 s67 eel edd6 nr6 td6
  walk_at "RD"
  subst hR9
  refine jaf fun R9 hR9=>?_
  simp_arith [jqp]
  intro hd hhd
  have s78:=ja5 hhd (.dT [])
  have ehd8:upd H7 hd (.dT []) hd = some (.dT []):=ja1
  generalize upd H7 hd (.dT []) = H8 at s78 ehd8
  have hhd0:H hd = none:=s7.free hhd
  have ndh:dd ≠ hd:=fun z=>by rw [z,hhd] at edd7; cases edd7
  have edd8:=s78 _ _ edd7
  have eel8:=s78 _ _ eel7
  have eal8:=s78 _ _ eal
  have nr8:=nr7.same s78
  have td8:=td7.kp (jbn s78)
  have s8:=s7.trans s78
  subst hR9
  refine jaf fun R9 hR9=>?_
  generalize hE:jba ps ts n = edge at eel8
  generalize hA:jbp ts n = ahead at eal8
  refine tFor_hideI (ι:=Obj) (fun o=>ItT2 dd o kvs) (fun o=>upd H8 dd (.frz o (.dT kvs))) (fun _=>True) (fun R' hR'=>?_) (fun o _=>?_)
  ·unfold iDctT
   walk_at "RD"
   exact ⟨dd,kvs,rfl,edd8,fun o=>hR' o trivial⟩
  have b9:But dd H8 (upd H8 dd (.frz o (.dT kvs))):=But.at dd H8 _
  have edd9:upd H8 dd (.frz o (.dT kvs)) dd = some (.frz o (.dT kvs)):=ja1
  have kp9:Kp H8 (upd H8 dd (.frz o (.dT kvs))):=job b9 edd8
  have ehd9:=b9 _ _ ndh.symm ehd8
  generalize upd H8 dd (.frz o (.dT kvs)) = H9 at b9 edd9 kp9 ehd9
  have s9:Same H H9:=fun b u q=>b9 _ _ (fun z=>by rw [z,hdd] at q; cases q) (s8 _ _ q)
  have eel9:=kp9.1 _ _ eel8
  have eal9:=kp9.1 _ _ eal8
  have td9:=td8.kp kp9
  refine jos (Pv:=fun j σ HA=>∃ kvs2 w11 w12 w13 w14 w15,σ = [some (.ref xv),some s0,some (.ref fg),some (.ref fj),some (.ref nd),some (.ref dd),some (.int n),some (.int pr),some (.ref el),some (.ref al),some (.ref hd),w11,w12,w13,w14,w15]∧But hd H9 HA∧HA hd = some (.dT kvs2)∧TD VA HA kvs2 (stF VA edge ahead n pr (L.take j)) (i + 1)) ⟨[],_,_,_,_,_,rfl,But.refl _ _,ehd9,.nil⟩ (fun j σ HA _ ⟨_,_,_,_,_,_,_,bA,_⟩=>bA _ _ ndh edd9) ?_ ?_
  ·rintro j kv b σ HA hj hb ⟨kvs2,w11,w12,w13,w14,w15,rfl,bA,ehdA,tdA⟩
   obtain ⟨x,hx,hkx,hVx,hox⟩:=jao td9 hj
   have hjl:j < L.length:=(List.getElem?_eq_some_iff.mp hx).1
   rw [hkx,jso] at hb
   have hLn:(L.map (·.1)).Nodup:=by rw [← hL]; exact jrp VA ps ts a0 _
   have hcl:x.1.length ≤ 40:=by
    have:=jql VA ps ts a0 (ps.take i) x (by rw [hL]; exact List.mem_of_getElem? hx)
    rw [List.length_take] at this
    omega
   have hahl:ahead.length ≤ 120:=by
    rw [← hA]
    exact Nat.le_trans (List.length_filter_le _ _) (Nat.le_trans (jd8 ts n) htl)
   have hval:valV kvs (ks x.1) = some kv.2:=by
    rw [← hkx]
    exact jmb (td9.nd hLn) (List.mem_of_getElem? hj)
   obtain ⟨hM0n,hM0l⟩:=jmp VA edge ahead n pr (L.take j)
   rw [List.length_take] at hM0l
   simp only [jd1,List.set_cons_zero,List.set_cons_succ]
   refine tFor_hideI (ι:=Addr) (fun tt=>Itt K tt) (fun tt=>upd HA tt (.tup [.bl true,.bl false])) (fun tt=>HA tt = none) (fun R' hR'=>?_) (fun tt htt=>?_)
   ·unfold iTup
    walk_at "RD"
    intro tt htt
    exact ⟨tt,rfl,⟨_,SqT.of ja1⟩,hR' tt htt⟩
   have sAB:=ja5 htt (.tup [.bl true,.bl false])
   have ett:upd HA tt (.tup [.bl true,.bl false]) tt = some (.tup [.bl true,.bl false]):=ja1
   generalize upd HA tt (.tup [.bl true,.bl false]) = HB at sAB ett
   have ehdB:=sAB _ _ ehdA
   have tdB:=tdA.kp (jbn sAB)
   have kpA:Kp H9 HA:=job bA ehd9
   have kpB:Kp H9 HB:=kpA.trans (jbn sAB)
   have hbB:=sAB _ _ hb
   have eddB:=sAB _ _ (bA _ _ ndh edd9)
   generalize hM0:stF VA edge ahead n pr (L.take j) = M0 at tdB hM0l
   obtain ⟨mk,hmk⟩:∃ mk:Nat→AL α,mk = fun k=>if k = 0 then M0 else if k = 1 then st1 VA edge ahead n pr x.1 x.2 M0 true else st1 VA edge ahead n pr x.1 x.2 (st1 VA edge ahead n pr x.1 x.2 M0 true) false:=⟨_,rfl⟩
   have hml:∀ k,(mk k).length ≤ 10000:=fun k=>by
    have h1:=jgp VA edge ahead n pr x.1 x.2 M0 true
    have h2:=jgp VA edge ahead n pr x.1 x.2 (st1 VA edge ahead n pr x.1 x.2 M0 true) false
    rw [hmk]
    dsimp only
    split
    ·omega
    ·split <;> omega
   refine jsy (K:=K) (a:=tt) (xs:=[.bl true,.bl false]) (fun k σ HC=>∃ kvs3 w12 w13 w14 w15,σ = [some (.ref xv),some s0,some (.ref fg),some (.ref fj),some (.ref nd),some (.ref dd),some (.int n),some (.int pr),some (.ref el),some (.ref al),some (.ref hd),some (.ref b),w12,w13,w14,w15]∧But hd HB HC∧HC hd = some (.dT kvs3)∧TD VA HC kvs3 (mk k) (i + 1)) ⟨kvs2,_,_,_,_,rfl,But.refl _ _,ehdB,by rw [hmk]; exact tdB⟩ (fun k σ HC _ ⟨_,_,_,_,_,_,bC,_⟩=>SqT.of (bC _ _ (fun z=>by rw [z,ehdB] at ett; cases ett) ett)) ?_ ?_
   ·rintro k y σ HC hk ⟨kvs3,w12,w13,w14,w15,rfl,bC,ehdC,tdC⟩
    obtain ⟨bv,rfl,hstep⟩:∃ bv:Bool,y = .bl bv∧mk (k + 1) = st1 VA edge ahead n pr x.1 x.2 (mk k) bv:=by
     match k,hk with
     | 0,hk=>cases hk; exact ⟨true,rfl,by rw [hmk]; rfl⟩
     | 1,hk=>cases hk; exact ⟨false,rfl,by rw [hmk]; rfl⟩
     | k + 2,hk=>simp at hk
    have kpC:Kp HB HC:=job bC ehdB
    have kp9C:=kpB.trans kpC
    have hbC:=kpC.2 _ _ hbB
    have eddC:=bC _ _ ndh eddB
    have eelC:=kp9C.1 _ _ eel9
    have ealC:=kp9C.1 _ _ eal9
    have hk3:kvs3.length ≤ 10000:=by rw [Paired.length tdC]; exact hml k
    simp only [jd1,List.set_cons_zero,List.set_cons_succ]
    refine jqb fun TH D' hTH hD'=>?_
    have key:(bv = true ∨ (ahead.all fun m=>decide (m ∈ x.1)) = true)→∀ HD,Same HC HD→TH D' [some (.ref xv),some s0,some (.ref fg),some (.ref fj),some (.ref nd),some (.ref dd),some (.int n),some (.int pr),some (.ref el),some (.ref al),some (.ref hd),some (.ref b),some (.bl bv),w13,w14,w15] HD:=by
     intro hcond HD sD
     subst hTH hD'
     refine jdx fun R8 D8 hR8 hD8=>?_
     have key2:∀ ac HE,Same HD HE→HE ac = some (.tup ((if bv = true then x.1 ++ [n] else x.1).map V.int))→R8 D8 [some (.ref xv),some s0,some (.ref fg),some (.ref fj),some (.ref nd),some (.ref dd),some (.int n),some (.int pr),some (.ref el),some (.ref al),some (.ref hd),some (.ref b),some (.bl bv),some (.ref ac),w14,w15] HE:=by
      intro ac HE sE eac
      subst hR8 hD8
      refine jaf fun R7 hR7=>?_
      generalize hall:(if bv = true then x.1 ++ [n] else x.1) = all9 at eac
      have hall9:all9.length ≤ 50:=by
       rw [← hall]
       split
       ·rw [List.length_append]; show x.1.length + 1 ≤ 50; omega
       ·omega
      have sCE:=sD.trans sE
      have eelE:=sCE _ _ eelC
      walk_at "RD"
      refine jau (Itt K ac) HE (fun R2 hR2=>?_) (fun z2 hz2=>jb1 all9.length (fun m σ2 Hd=>∃ w2,σ2 = [w2,some (.ref el)]∧Same HE Hd∧Hd z2 = some (.lst (((all9.take m).filter fun q=>decide (q ∈ edge)).map V.int))) ⟨none,rfl,ja5 hz2 _,ja1⟩ ?_ ?_)
      ·unfold iTup
       walk_at "RD"
       exact ⟨ac,rfl,⟨_,SqT.of eac⟩,hR2⟩
      ·rintro m σ2 Hd hm ⟨w2,rfl,s3,ez2⟩
       have x1:(all9.map V.int)[m]? = some (.int all9[m]):=by rw [List.getElem?_map,List.getElem?_eq_getElem hm]; rfl
       have x2:all9[m]? = some all9[m]:=List.getElem?_eq_getElem hm
       generalize all9[m] = q at x1 x2
       have z1:SqT K Hd ac (all9.map V.int):=SqT.of (s3 _ _ eac)
       refine ⟨⟨_,_,z1,x1⟩,?_⟩
       rintro y H9' ⟨rfl,hy⟩
       have E1:V.int q = y:=Option.some.inj (x1.symm.trans (hy _ z1))
       subst E1
       rw [jdd x2]
       simp_arith [jam,s3 _ _ eelE,jjq,je5,jdu]
       by_cases c:q ∈ edge
       ·simp only [c,decide_true,if_true]
        refine ⟨_,ez2,?_,_,rfl,jas s3 hz2,?_⟩
        ·rw [List.length_map]
         exact szl' (Nat.le_trans (List.length_filter_le _ _) (by rw [List.length_take]; omega))
        ·rw [ja1,List.map_append]
         rfl
       ·simp only [c,decide_false,Bool.false_eq_true,if_false,List.append_nil]
        exact ⟨_,rfl,s3,ez2⟩
      rintro σ2 HF ⟨w2,rfl,sEF,ez2⟩
      refine ⟨⟨_,SqT.of (sEF _ _ eac),by rw [List.length_map]; exact Nat.le_refl _⟩,?_⟩
      rw [List.take_length] at ez2
      have hacr:(all9.filter fun q=>decide (q ∈ edge)) = acrL edge x.1 n bv:=by rw [← hall]; rfl
      rw [hacr] at ez2
      refine ⟨z2,_,rfl,.inl ⟨SqL.of ez2,fun tx htx=>?_⟩⟩
      have sFG:=ja5 htx (.tup ((acrL edge x.1 n bv).map V.int))
      have etx:upd HF tx (.tup ((acrL edge x.1 n bv).map V.int)) tx = some (.tup ((ks (acrL edge x.1 n bv)).map kV)):=by rw [jso]; exact ja1
      have sCG:=(sCE.trans sEF).trans sFG
      generalize upd HF tx (.tup ((acrL edge x.1 n bv).map V.int)) = HG at sFG etx sCG
      walk_at "RD"
      subst hR7
      refine jaf fun R6 hR6=>?_
      simp_arith [jk6,jfr]
      have hbG:HG b = some (.tup ((ks x.1).map kV)):=by rw [jso]; exact sCG _ _ hbC
      refine ⟨fg,_,hfg,rfl,dd,kv.2,rfl,.inr ⟨kvs,ks x.1,b,.inr ⟨o,sCG _ _ eddC⟩,rfl,hbG,hval.symm⟩,?_⟩
      refine ⟨kv.2,n,pr,bv,x.2,i,rfl,VA.kp (kp9C.trans (jbn sCG)) hVx,hox,by omega,fun v' HI sGI hv' hok'=>?_⟩
      have sCI:=sCG.trans sGI
      have etxI:=sGI _ _ etx
      have ehdI:=sCI _ _ ehdC
      have tdI:=tdC.kp (jbn sCI)
      walk_at "RD"
      subst hR6
      simp_arith [sDPut,tDIn,jk6,jfr]
      have fin:∀ vv HJ,Same HI HJ→VA.VR HJ vv (jnV VA.jn (lkA (mk k) (acrL edge x.1 n bv)) (VA.gr x.2 n pr bv))→VA.ok (i + 1) (jnV VA.jn (lkA (mk k) (acrL edge x.1 n bv)) (VA.gr x.2 n pr bv))→∃ kvs4,But hd HB (upd HJ hd (.dT (putK kvs3 (ks (acrL edge x.1 n bv)) vv)))∧upd HJ hd (.dT (putK kvs3 (ks (acrL edge x.1 n bv)) vv)) hd = some (.dT kvs4)∧TD VA (upd HJ hd (.dT (putK kvs3 (ks (acrL edge x.1 n bv)) vv))) kvs4 (mk (k + 1)) (i + 1):=by
       intro vv HJ sJ hvv hokv
       have sCJ:=sCI.trans sJ
       have bJ:But hd HJ (upd HJ hd (.dT (putK kvs3 (ks (acrL edge x.1 n bv)) vv))):=But.at hd HJ _
       have kpJ:=job bJ (sCJ _ _ ehdC)
       refine ⟨_,fun c u nb q=>bJ _ _ nb (sCJ _ _ (bC _ _ nb q)),ja1,?_⟩
       rw [hstep]
       unfold st1 jnA
       rw [if_pos hcond]
       exact ((tdC.kp (jbn sCJ)).kp kpJ).put (VA.kp kpJ hvv) hokv
      rcases tdI.val (c:=acrL edge x.1 n bv) with ⟨l1,l2⟩ | ⟨aa,ww,l1,l2,l3,l4⟩
      ·have g:=DGet.t ehdI etxI
       rw [l2] at g
       refine ⟨hd,none,rfl,g,?_⟩
       simp_arith [Option.isSome_none]
       refine ⟨false,rfl,?_⟩
       rw [if_neg (by decide)]
       refine ⟨hd,_,rfl,DPut.t ehdI etxI (by omega),?_⟩
       rw [l1] at fin
       obtain ⟨kvs4,f1,f2,f3⟩:=fin v' HI (Same.refl _) hv' hok'
       exact ⟨kvs4,_,_,_,_,rfl,f1,f2,f3⟩
      ·have g:=DGet.t ehdI etxI
       rw [l2] at g
       refine ⟨hd,some ww,rfl,g,?_⟩
       simp_arith [jk6,jfr,Option.isSome_some]
       refine ⟨true,rfl,?_⟩
       rw [if_pos rfl]
       refine ⟨fj,_,hfj,rfl,hd,ww,rfl,g,?_⟩
       refine ⟨ww,v',aa,VA.gr x.2 n pr bv,i + 1,rfl,l3,hv',l4,hok',by omega,fun v2 HJ sJ hv2 hok2=>?_⟩
       refine ⟨hd,_,rfl,DPut.t (sJ _ _ ehdI) (sJ _ _ etxI) (by omega),?_⟩
       rw [l1] at fin
       obtain ⟨kvs4,f1,f2,f3⟩:=fin v2 HJ sJ hv2 hok2
       exact ⟨kvs4,_,_,_,_,rfl,f1,f2,f3⟩
     walk_at "RD"
     cases bv with
     | true =>
      walk_at "RD"
      intro pt hpt
      have q1:=ja5 hpt (.tup [.int n])
      have ept:upd HD pt (.tup [.int n]) pt = some (.tup [.int n]):=ja1
      have hb1:=q1 _ _ (sD _ _ hbC)
      generalize upd HD pt (.tup [.int n]) = HE at q1 ept hb1
      simp only [jt2,hb1,ept]
      refine ⟨by rw [List.length_map]; show x.1.length + 1 ≤ _; have:=hcl; omega,by simp,?_⟩
      by_cases hc:x.1 = []
      ·rw [if_pos (by rw [hc]; rfl)]
       exact key2 pt HE q1 (by rw [hc]; exact ept)
      ·rw [if_neg (fun z=>hc (List.map_eq_nil_iff.mp z))]
       intro ac hac
       exact key2 ac _ (q1.trans (ja5 hac _)) (by rw [ja1]; simp)
     | false =>
      walk_at "RD"
      exact key2 b HD (Same.refl _) (sD _ _ hbC)
    unfold tIfS
    walk_at "RD"
    cases bv with
    | true =>
     walk_at "RD"
     exact key (.inl rfl) HC (Same.refl _)
    | false =>
     walk_at "RD"
     refine jau (Itl K al) HC (fun R2 hR2=>?_) (fun z2 hz2=>jb1 ahead.length (fun m σ2 Hd=>∃ w2,σ2 = [w2,some (.ref b)]∧Same HC Hd∧Hd z2 = some (.lst (((ahead.take m).map fun q=>decide (q ∈ x.1)).map V.bl))) ⟨none,rfl,ja5 hz2 _,ja1⟩ ?_ ?_)
     ·unfold jdm
      walk_at "RD"
      exact ⟨al,rfl,⟨_,SqL.of ealC⟩,hR2⟩
     ·rintro m σ2 Hd hm ⟨w2,rfl,s3,ez2⟩
      have x1:(ahead.map V.int)[m]? = some (.int ahead[m]):=by rw [List.getElem?_map,List.getElem?_eq_getElem hm]; rfl
      have x2:ahead[m]? = some ahead[m]:=List.getElem?_eq_getElem hm
      generalize ahead[m] = q at x1 x2
      have z1:SqL K Hd al (ahead.map V.int):=SqL.of (s3 _ _ ealC)
      refine ⟨⟨_,_,z1,x1⟩,?_⟩
      rintro y H9' ⟨rfl,hy⟩
      have E1:V.int q = y:=Option.some.inj (x1.symm.trans (hy _ z1))
      subst E1
      simp_arith [jam,s3 _ _ hbC,jjq,je5,jdu]
      refine ⟨_,ez2,?_,_,rfl,jas s3 hz2,?_⟩
      ·rw [List.length_map,List.length_map,List.length_take]
       exact szl' (by have:=hahl; omega)
      ·rw [ja1,jal x2,List.map_append,List.map_append]
       rfl
     rintro σ2 HD ⟨w2,rfl,sD,ez2⟩
     refine ⟨⟨_,SqL.of (sD _ _ ealC),by rw [List.length_map]; exact Nat.le_refl _⟩,?_⟩
     rw [List.take_length] at ez2
     simp_arith [ez2]
     refine ⟨_,rfl,?_⟩
     have ha:=jm1 (fun q=>decide (q ∈ x.1)) ahead
     cases hb9:ahead.all fun q=>decide (q ∈ x.1)
     ·rw [hb9] at ha
      simp only [ha,Bool.false_eq_true,if_false]
      subst hD'
      refine ⟨kvs3,_,_,_,_,rfl,fun c u nb q=>sD _ _ (bC _ _ nb q),sD _ _ ehdC,?_⟩
      rw [hstep]
      unfold st1
      rw [if_neg (by rw [hb9]; simp)]
      exact tdC.kp (jbn sD)
     ·rw [hb9] at ha
      simp only [ha,if_true]
      exact key (.inr hb9) HD sD
   ·rintro σ HC ⟨kvs3,w12,w13,w14,w15,rfl,bC,ehdC,tdC⟩
    refine ⟨kvs3,_,_,_,_,_,rfl,fun c u nb q=>bC _ _ nb (sAB _ _ (bA _ _ nb q)),ehdC,?_⟩
    rw [jpl VA edge ahead n pr hx,hM0]
    rw [hmk] at tdC
    exact tdC
  ·rintro σ HA ⟨kvs2,w11,w12,w13,w14,w15,rfl,bA,ehdA,tdA⟩
   rw [hkl,List.take_length] at tdA
   walk_at "RD"
   subst hR9
   walk_at "RD"
   have kpA:Kp H9 HA:=job bA ehd9
   have nnd:nd ≠ dd:=fun z=>by
    obtain ⟨o',as',e,_⟩:=nr8
    rw [z,edd8] at e
    cases e
   have nnh:nd ≠ hd:=fun z=>by
    obtain ⟨o',as',e,_⟩:=nr8
    rw [z,ehd8] at e
    cases e
   refine ⟨hd,kvs2,_,_,_,_,_,_,_,_,_,_,rfl,fun c u q=>bA _ _ (fun z=>by rw [z,hhd0] at q; cases q) (s9 _ _ q),hhd0,((nr8.kp kp9 fun u q=>b9 _ _ nnd q).kp kpA fun u q=>bA _ _ nnh q).e,ehdA,?_⟩
   rw [jf0 VA ps ts a0 hp,hL]
   show TD VA HA kvs2 (stF VA (jba ps ts n) (jbp ts n) n pr L) (i + 1)
   rw [hE,hA]
   exact tdA
 ·rintro σ H5 ⟨dd,kvs,w6,w7,w8,w9,w10,w11,w12,w13,w14,w15,rfl,s5,hdd,nr5,edd,tdv⟩
  rw [hlx,List.take_length] at tdv
  walk_at "RD"
  subst hR
  simp_arith [jfr]
  intro e9 he9
  have q1:=ja5 he9 (.tup [])
  have ee9:upd H5 e9 (.tup []) e9 = some (.tup ((ks []).map kV)):=ja1
  rcases tdv.val (c:=[]) with ⟨l1,l2⟩ | ⟨aa,ww,l1,l2,l3,l4⟩
  ·rw [hlk] at l1
   cases l1
  ·rw [hlk] at l1
   cases l1
   have g:=DGet.t (q1 _ _ edd) ee9
   rw [l2] at g
   exact ⟨dd,ww,rfl,g,h ww _ (s5.trans q1) (VA.kp (jbn q1) l3)⟩
end
end My
namespace My
open PySem L2
def subL (ns:List Int):List (List Int):=ns.foldl (fun f n=>f ++ f.map fun s=>s ++ [n]) [[]]
theorem jc1 (ns:List Int) (n:Int):subL (ns ++ [n]) = subL ns ++ (subL ns).map fun s=>s ++ [n]:=by
 unfold subL
 rw [List.foldl_append]
 rfl
theorem jbr:∀ (ns:List Int),∀ s ∈ subL ns,s.Sublist ns:=fun ns=>by
 have:∀ (ns pre:List Int) (f:List (List Int)),(∀ s ∈ f,s.Sublist pre)→∀ s ∈ ns.foldl (fun f n=>f ++ f.map fun s=>s ++ [n]) f,s.Sublist (pre ++ ns):=fun ns=>by
  induction ns with
  | nil=>intro pre f hf s hs; rw [List.append_nil]; exact hf s hs
  | cons a r ih =>
   intro pre f hf s hs
   rw [List.foldl_cons] at hs
   have:=ih (pre ++ [a]) _ (fun t ht=>?_) s hs
   ·simpa using this
   ·rcases List.mem_append.mp ht with ht | ht
    ·exact (hf t ht).trans (List.sublist_append_left _ _)
    ·obtain ⟨q,hq,rfl⟩:=List.mem_map.mp ht
     exact List.Sublist.append (hf q hq) (List.Sublist.refl _)
 intro s hs
 have:=this ns [] [[]] (fun t ht=>by rw [List.mem_singleton.mp ht]; exact List.Sublist.slnil) s hs
 simpa using this
def toT (ts:List (Int × Int)) (m:Int) (s:List Int):Bool:=ts.all fun t=>decide (m < t.2) || (decide (t.1 ∈ s) || decide (t.2 ∈ s))
def covL (ns:List Int) (ts:List (Int × Int)) (m:Int):List (List Int):=(subL ns).filter (toT ts m)
section
variable {α β:Type}
theorem jst {h:α→β} {ja:α→α→α} {jb:β→β→β} {S:α→Prop} (hj:∀ a b,S a→S b→h (ja a b) = jb (h a) (h b)) {L:AL α} {c:List Int} {a:α} (hL:∀ x ∈ L,S x.2) (ha:S a) :
  (jnA ja L c a).map (fun x=>(x.1,h x.2)) = jnA jb (L.map fun x=>(x.1,h x.2)) c (h a):=by
 have hlk:lkA (L.map fun x=>(x.1,h x.2)) c = (lkA L c).map h:=by
  unfold lkA
  rw [List.find?_map,Option.map_map,Option.map_map]
  rfl
 have hany:((L.map fun x=>(x.1,h x.2)).any fun x=>decide (x.1 = c)) = L.any fun x=>decide (x.1 = c):=by rw [List.any_map]; rfl
 unfold jnA
 rw [hlk]
 have hv:h (jnV ja (lkA L c) a) = jnV jb ((lkA L c).map h) (h a):=by
  cases e:lkA L c with
  | none=>rfl
  | some b =>
   have hb:S b:=by
    unfold lkA at e
    obtain ⟨x,hx,rfl⟩:=Option.map_eq_some_iff.mp e
    exact hL x (List.mem_of_find?_eq_some hx)
   exact hj b a hb ha
 rw [← hv]
 generalize jnV ja (lkA L c) a = v
 unfold ptA
 rw [hany]
 split
 ·rw [List.map_map,List.map_map]
  refine List.map_congr_left fun x _=>?_
  show ((if x.1 = c then (x.1,v) else x).1,h (if x.1 = c then (x.1,v) else x).2) = if x.1 = c then (x.1,h v) else (x.1,h x.2)
  split <;> rfl
 ·rw [List.map_append]
  rfl
theorem jss {ja:α→α→α} {S:α→Prop} (hj:∀ a b,S a→S b→S (ja a b)) {L:AL α} {c:List Int} {a:α} (hL:∀ x ∈ L,S x.2) (ha:S a):∀ x ∈ jnA ja L c a,S x.2:=by
 have hv:S (jnV ja (lkA L c) a):=by
  cases e:lkA L c with
  | none=>exact ha
  | some b =>
   unfold lkA at e
   obtain ⟨x,hx,rfl⟩:=Option.map_eq_some_iff.mp e
   exact hj _ _ (hL x (List.mem_of_find?_eq_some hx)) ha
 unfold jnA ptA
 generalize jnV ja (lkA L c) a = v at hv
 split
 ·intro x hx
  obtain ⟨y,hy,rfl⟩:=List.mem_map.mp hx
  split
  ·exact hv
  ·exact hL y hy
 ·intro x hx
  rcases List.mem_append.mp hx with hx | hx
  ·exact hL x hx
  ·rw [List.mem_singleton.mp hx]; exact hv
theorem jry {A:Vl α} {B:Vl β} {h h':α→β} {S S':α→Prop} {edge ahead:List Int} {p q:Int} (hg:∀ a b,S a→h' (A.gr a p q b) = B.gr (h a) p q b∧S' (A.gr a p q b)) (hj:∀ a b,S' a→S' b→h' (A.jn a b) = B.jn (h' a) (h' b)∧S' (A.jn a b)) {L:AL α} (hL:∀ x ∈ L,S x.2) :
  (stF A edge ahead p q L).map (fun x=>(x.1,h' x.2)) = stF B edge ahead p q (L.map fun x=>(x.1,h x.2))∧∀ x ∈ stF A edge ahead p q L,S' x.2:=by
 unfold stF
 have one:∀ (c:List Int) (a:α) (b:Bool) (M:AL α) (M':AL β),S a→(∀ x ∈ M,S' x.2)→M.map (fun x=>(x.1,h' x.2)) = M'→(st1 A edge ahead p q c a M b).map (fun x=>(x.1,h' x.2)) = st1 B edge ahead p q c (h a) M' b∧∀ x ∈ st1 A edge ahead p q c a M b,S' x.2:=by
  intro c a b M M' ha hM e
  unfold st1
  split
  ·have hh:=hg a b ha
   refine ⟨?_,jss (fun x y h1 h2=>(hj x y h1 h2).2) hM hh.2⟩
   rw [jst (h:=h') (fun x y h1 h2=>(hj x y h1 h2).1) hM hh.2,e,hh.1]
  ·exact ⟨e,hM⟩
 have:∀ (L:AL α) (M:AL α) (M':AL β),(∀ x ∈ L,S x.2)→(∀ x ∈ M,S' x.2)→M.map (fun x=>(x.1,h' x.2)) = M' →
   (L.foldl (fun M x=>st1 A edge ahead p q x.1 x.2 (st1 A edge ahead p q x.1 x.2 M true) false) M).map (fun x=>(x.1,h' x.2)) = (L.map fun x=>(x.1,h x.2)).foldl (fun M x=>st1 B edge ahead p q x.1 x.2 (st1 B edge ahead p q x.1 x.2 M true) false) M' ∧
   ∀ x ∈ L.foldl (fun M x=>st1 A edge ahead p q x.1 x.2 (st1 A edge ahead p q x.1 x.2 M true) false) M,S' x.2:=fun L=>by
  induction L with
  | nil=>intro M M' _ hM e; exact ⟨e,hM⟩
  | cons x r ih =>
   intro M M' hL hM e
   rw [List.map_cons,List.foldl_cons,List.foldl_cons]
   obtain ⟨e1,m1⟩:=one x.1 x.2 true M M' (hL x (.head _)) hM e
   obtain ⟨e2,m2⟩:=one x.1 x.2 false _ _ (hL x (.head _)) m1 e1
   exact ih _ _ (fun y hy=>hL y (.tail _ hy)) m2 e2
 exact this L [] [] hL (fun _ h=>by cases h) rfl
end
def VG:Vl (List (List Int)) where
 VR:=fun _ _ _=>True
 ok:=fun _ _=>True
 gr:=fun F p _ b=>if b = true then F.map (fun s=>s ++ [p]) else F
 jn:=fun F G=>F ++ G
 kp:=fun _ h=>h
end My
namespace My
open PySem L2
abbrev GL:=AL (List (List Int))
theorem jk3 {c:List Int} {F:List (List Int)}:∀ {M:GL},(M.map (·.1)).Nodup→(M.any fun x=>decide (x.1 = c)) = true→∃ b,lkA M c = some b∧((M.map fun x=>if x.1 = c then (x.1,b ++ F) else x).flatMap (·.2)).Perm (M.flatMap (·.2) ++ F)
 | [],_,h=>by cases h
 | x :: r,hn,h=>by
  rw [List.map_cons,List.nodup_cons] at hn
  by_cases e:x.1 = c
  ·refine ⟨x.2,by unfold lkA; rw [List.find?_cons,decide_eq_true e]; rfl,?_⟩
   have hr:(r.map fun y=>if y.1 = c then (y.1,x.2 ++ F) else y) = r:=by
    have:∀ y ∈ r,(if y.1 = c then (y.1,x.2 ++ F) else y) = y:=fun y hy=>if_neg fun z=>hn.1 (by rw [e,← z]; exact List.mem_map_of_mem hy)
    rw [List.map_congr_left this,List.map_id']
   rw [List.map_cons,hr,if_pos e,List.flatMap_cons,List.flatMap_cons]
   show (x.2 ++ F ++ r.flatMap (·.2)).Perm (x.2 ++ r.flatMap (·.2) ++ F)
   rw [List.append_assoc,List.append_assoc]
   exact List.Perm.append_left _ List.perm_append_comm
  ·rw [List.any_cons,decide_eq_false e,Bool.false_or] at h
   obtain ⟨b,h1,h2⟩:=jk3 hn.2 h
   refine ⟨b,by unfold lkA; rw [List.find?_cons,decide_eq_false e]; exact h1,?_⟩
   rw [List.map_cons,if_neg e,List.flatMap_cons,List.flatMap_cons,List.append_assoc]
   exact List.Perm.append_left _ h2
theorem jo1 {α:Type} {c:List Int}:∀ {M:AL α},(M.any fun x=>decide (x.1 = c)) = false→lkA M c = none
 | [],_=>rfl
 | x :: r,h=>by
  rw [List.any_cons,Bool.or_eq_false_iff] at h
  unfold lkA
  rw [List.find?_cons,h.1]
  exact jo1 h.2
theorem jky {M:GL} (hn:(M.map (·.1)).Nodup) (c:List Int) (F:List (List Int)):((jnA VG.jn M c F).flatMap (·.2)).Perm (M.flatMap (·.2) ++ F):=by
 unfold jnA ptA
 cases h:M.any fun x=>decide (x.1 = c) with
 | true =>
  obtain ⟨b,h1,h2⟩:=jk3 (F:=F) hn h
  rw [if_pos rfl,h1]
  exact h2
 | false =>
  rw [if_neg (by decide),jo1 h,List.flatMap_append,List.flatMap_cons,List.flatMap_nil,List.append_nil]
  exact List.Perm.refl _
theorem jnA_P {α:Type} {ja:α→α→α} {P:List Int→α→Prop} (hj:∀ c a b,P c a→P c b→P c (ja a b)) {L:AL α} {c:List Int} {a:α} (hL:∀ x ∈ L,P x.1 x.2) (ha:P c a):∀ x ∈ jnA ja L c a,P x.1 x.2:=by
 have hv:P c (jnV ja (lkA L c) a):=by
  cases e:lkA L c with
  | none=>exact ha
  | some b =>
   unfold lkA at e
   obtain ⟨x,hx,rfl⟩:=Option.map_eq_some_iff.mp e
   have hc:x.1 = c:=by
    have q:=List.find?_some hx
    exact of_decide_eq_true q
   have:=hL x (List.mem_of_find?_eq_some hx)
   rw [hc] at this
   exact hj _ _ _ this ha
 unfold jnA ptA
 generalize jnV ja (lkA L c) a = v at hv
 split
 ·intro x hx
  obtain ⟨y,hy,rfl⟩:=List.mem_map.mp hx
  by_cases e:y.1 = c
  ·rw [if_pos e]
   show P y.1 v
   rw [e]
   exact hv
  ·rw [if_neg e]
   exact hL y hy
 ·intro x hx
  rcases List.mem_append.mp hx with hx | hx
  ·exact hL x hx
  ·rw [List.mem_singleton.mp hx]; exact hv
def OkG (edge:List Int) (c:List Int) (F:List (List Int)):Prop:=F ≠ []∧∀ s ∈ F,(s.filter fun m=>decide (m ∈ edge)) = c
theorem OkG.app {edge c:List Int} {F G:List (List Int)} (h:OkG edge c F) (g:OkG edge c G):OkG edge c (F ++ G):=⟨fun z=>h.1 (List.append_eq_nil_iff.mp z).1,fun s hs=>(List.mem_append.mp hs).elim (h.2 s) (g.2 s)⟩
structure GI (ps ts:List (Int × Int)) (ns:List Int) (m:Int) (G:GL):Prop where
 nd:(G.map (·.1)).Nodup
 ok:∀ g ∈ G,OkG (jba ps ts m) g.1 g.2
 pm:(G.flatMap (·.2)).Perm (covL ns ts m)
def ctr (ahead:List Int) (n:Int) (g:List Int × List (List Int)):List (List Int):=g.2.map (fun s=>s ++ [n]) ++ if (ahead.all fun m=>decide (m ∈ g.1)) = true then g.2 else []
theorem jrd {edge ahead:List Int} {n pr:Int}:∀ (Gs M:GL),(∀ g ∈ Gs,g.2 ≠ []∧∀ s ∈ g.2,(s.filter fun m=>decide (m ∈ edge)) = acrL edge g.1 n false∧((s ++ [n]).filter fun m=>decide (m ∈ edge)) = acrL edge g.1 n true)→(M.map (·.1)).Nodup→(∀ g ∈ M,OkG edge g.1 g.2) →
  let M':=Gs.foldl (fun M x=>st1 VG edge ahead n pr x.1 x.2 (st1 VG edge ahead n pr x.1 x.2 M true) false) M
  (M'.map (·.1)).Nodup∧(∀ g ∈ M',OkG edge g.1 g.2)∧(M'.flatMap (·.2)).Perm (M.flatMap (·.2) ++ Gs.flatMap (ctr ahead n))
 | [],M,_,hn,ho=>⟨hn,ho,by rw [List.flatMap_nil,List.append_nil]; exact List.Perm.refl _⟩
 | g :: Gs,M,hG,hn,ho=>by
  obtain ⟨h1,h2⟩:=hG g (.head _)
  have n1:=jk7 VG edge ahead n pr g.1 g.2 M true hn
  have n2:=jk7 VG edge ahead n pr g.1 g.2 _ false n1
  have e1:st1 VG edge ahead n pr g.1 g.2 M true = jnA VG.jn M (acrL edge g.1 n true) (g.2.map fun s=>s ++ [n]):=if_pos (.inl rfl)
  have p1:((st1 VG edge ahead n pr g.1 g.2 M true).flatMap (·.2)).Perm (M.flatMap (·.2) ++ g.2.map fun s=>s ++ [n]):=by rw [e1]; exact jky hn _ _
  have o1:∀ x ∈ st1 VG edge ahead n pr g.1 g.2 M true,OkG edge x.1 x.2:=by
   rw [e1]
   refine jnA_P (P:=OkG edge) (fun c a b=>OkG.app) ho ⟨fun z=>h1 (List.map_eq_nil_iff.mp z),fun s hs=>?_⟩
   obtain ⟨q,hq,rfl⟩:=List.mem_map.mp hs
   exact (h2 q hq).2
  have p2:((st1 VG edge ahead n pr g.1 g.2 (st1 VG edge ahead n pr g.1 g.2 M true) false).flatMap (·.2)).Perm (M.flatMap (·.2) ++ ctr ahead n g)∧∀ x ∈ st1 VG edge ahead n pr g.1 g.2 (st1 VG edge ahead n pr g.1 g.2 M true) false,OkG edge x.1 x.2:=by
   by_cases c:(ahead.all fun m=>decide (m ∈ g.1)) = true
   ·have e2:st1 VG edge ahead n pr g.1 g.2 (st1 VG edge ahead n pr g.1 g.2 M true) false = jnA VG.jn (st1 VG edge ahead n pr g.1 g.2 M true) (acrL edge g.1 n false) g.2:=if_pos (.inr c)
    rw [e2]
    refine ⟨(jky n1 _ _).trans ?_,jnA_P (P:=OkG edge) (fun c a b=>OkG.app) o1 ⟨h1,fun s hs=>(h2 s hs).1⟩⟩
    unfold ctr
    rw [if_pos c,← List.append_assoc]
    exact List.Perm.append_right _ p1
   ·have e2:st1 VG edge ahead n pr g.1 g.2 (st1 VG edge ahead n pr g.1 g.2 M true) false = st1 VG edge ahead n pr g.1 g.2 M true:=if_neg fun z=>z.elim (fun y=>Bool.false_ne_true y) c
    rw [e2]
    unfold ctr
    rw [if_neg c,List.append_nil]
    exact ⟨p1,o1⟩
  have ih:=jrd (edge:=edge) (ahead:=ahead) (n:=n) (pr:=pr) Gs _ (fun x hx=>hG x (.tail _ hx)) n2 p2.2
  refine ⟨ih.1,ih.2.1,ih.2.2.trans ?_⟩
  rw [List.flatMap_cons,← List.append_assoc]
  exact List.Perm.append_right _ p2.1
theorem jbl {ts:List (Int × Int)} {n m:Int} (h:∀ t ∈ ts,t.1 < t.2):m ∈ jar ts n ↔ (n,m) ∈ ts ∨ (m,n) ∈ ts:=by
 unfold jar
 rw [List.mem_flatMap]
 constructor
 ·rintro ⟨t,ht,hm⟩
  unfold nr at hm
  split at hm
  ·rename_i e
   rw [List.mem_singleton] at hm
   exact .inl (by rw [← e,hm]; exact ht)
  ·split at hm
   ·rename_i e
    rw [List.mem_singleton] at hm
    exact .inr (by rw [← e,hm]; exact ht)
   ·cases hm
 ·rintro (q | q)
  ·exact ⟨_,q,by unfold nr; rw [if_pos rfl]; exact .head _⟩
  ·refine ⟨_,q,?_⟩
   unfold nr
   have:=h _ q
   dsimp only at this ⊢
   rw [if_neg (by omega),if_pos rfl]
   exact .head _
theorem je6 {ps ts:List (Int × Int)} {n x:Int}:x ∈ jba ps ts n ↔ x ∈ ps.map (·.1)∧x ≤ n∧∃ y ∈ jar ts x,n < y:=by
 unfold jba
 rw [List.mem_filter,Bool.and_eq_true,decide_eq_true_eq,List.any_eq_true]
 constructor
 ·rintro ⟨a,b,y,hy,c⟩
  exact ⟨a,b,y,hy,of_decide_eq_true c⟩
 ·rintro ⟨a,b,y,hy,c⟩
  exact ⟨a,b,y,hy,decide_eq_true c⟩
section
variable {ps ts:List (Int × Int)} {ns:List Int} {m n:Int} (htt:∀ t ∈ ts,t.1 < t.2∧t.1 ∈ ps.map (·.1)∧t.2 ∈ ps.map (·.1)) (hns:∀ x ∈ ns,x ≤ m) (hnp:∀ x ∈ ps.map (·.1),x ≤ m→x ∈ ns) (hmn:m < n) (hgap:∀ x ∈ ps.map (·.1),x ≤ m ∨ n ≤ x)
include htt hns hmn hgap
theorem toT_in {s:List Int} (hs:∀ x ∈ s,x ∈ ns):toT ts n (s ++ [n]) = toT ts m s:=by
 unfold toT
 have:∀ t ∈ ts,(decide (n < t.2) || (decide (t.1 ∈ s ++ [n]) || decide (t.2 ∈ s ++ [n]))) = (decide (m < t.2) || (decide (t.1 ∈ s) || decide (t.2 ∈ s))):=by
  intro t ht
  obtain ⟨h1,h2,h3⟩:=htt t ht
  by_cases c:m < t.2
  ·rw [decide_eq_true c,Bool.true_or]
   rcases hgap _ h3 with q | q
   ·omega
   ·by_cases c2:n < t.2
    ·rw [decide_eq_true c2]; rfl
    ·have e:t.2 = n:=by omega
     rw [decide_eq_true (show t.2 ∈ s ++ [n] by rw [e]; simp)]
     simp
  ·have a1:t.1 ∈ s ++ [n] ↔ t.1 ∈ s:=by
    rw [List.mem_append,List.mem_singleton]
    exact ⟨fun z=>z.elim id fun z=>by omega,.inl⟩
   have a2:t.2 ∈ s ++ [n] ↔ t.2 ∈ s:=by
    rw [List.mem_append,List.mem_singleton]
    exact ⟨fun z=>z.elim id fun z=>by omega,.inl⟩
   rw [decide_eq_false c,decide_eq_false (show ¬ n < t.2 by omega),decide_eq_decide.mpr a1,decide_eq_decide.mpr a2]
 rw [Bool.eq_iff_iff,List.all_eq_true,List.all_eq_true]
 exact ⟨fun z t ht=>by rw [← this t ht]; exact z t ht,fun z t ht=>by rw [this t ht]; exact z t ht⟩
theorem jmf {s:List Int} (hs:∀ x ∈ s,x ∈ ns):toT ts n s = (toT ts m s && (jbp ts n).all fun q=>decide (q ∈ s)):=by
 have ht0:∀ t ∈ ts,t.1 < t.2:=fun t ht=>(htt t ht).1
 have nn:n ∉ s:=fun z=>by have:=hns _ (hs _ z); omega
 rw [Bool.eq_iff_iff,Bool.and_eq_true]
 unfold toT jbp
 rw [List.all_eq_true,List.all_eq_true,List.all_eq_true]
 constructor
 ·intro z
  refine ⟨fun t ht=>?_,fun q hq=>?_⟩
  ·have:=z t ht
   simp only [Bool.or_eq_true,decide_eq_true_eq] at this ⊢
   rcases this with c | c
   ·exact .inl (by omega)
   ·exact .inr c
  ·rw [List.mem_filter,decide_eq_true_eq] at hq
   rcases (jbl ht0).mp hq.1 with c | c
   ·have:=ht0 _ c
    dsimp only at this
    omega
   ·have:=z _ c
    simp only [Bool.or_eq_true,decide_eq_true_eq] at this ⊢
    rcases this with d | d | d
    ·omega
    ·exact d
    ·exact absurd d nn
 ·rintro ⟨z1,z2⟩ t ht
  obtain ⟨h1,h2,h3⟩:=htt t ht
  have:=z1 t ht
  simp only [Bool.or_eq_true,decide_eq_true_eq] at this ⊢
  rcases this with c | c
  ·rcases hgap _ h3 with q | q
   ·omega
   ·by_cases c2:n < t.2
    ·exact .inl c2
    ·have e:t.2 = n:=by omega
     refine .inr (.inl (of_decide_eq_true (z2 t.1 ?_)))
     rw [List.mem_filter,decide_eq_true_eq]
     refine ⟨(jbl ht0).mpr (.inr ?_),by omega⟩
     rw [← e]
     exact ht
  ·exact .inr c
theorem jt9 {s c:List Int} (hs:∀ x ∈ s,x ∈ ns) (hc:(s.filter fun x=>decide (x ∈ jba ps ts m)) = c):((jbp ts n).all fun q=>decide (q ∈ s)) = (jbp ts n).all fun q=>decide (q ∈ c):=by
 have ht0:∀ t ∈ ts,t.1 < t.2:=fun t ht=>(htt t ht).1
 have:∀ q ∈ jbp ts n,(q ∈ s ↔ q ∈ c):=by
  intro q hq
  unfold jbp at hq
  rw [List.mem_filter,decide_eq_true_eq] at hq
  rw [← hc,List.mem_filter,decide_eq_true_eq]
  refine ⟨fun z=>⟨z,je6.mpr ?_⟩,fun z=>z.1⟩
  rcases (jbl ht0).mp hq.1 with c | c
  ·have:=ht0 _ c
   dsimp only at this
   omega
  ·have hp:=(htt _ c).2.1
   refine ⟨hp,?_,n,(jbl ht0).mpr (.inl c),hmn⟩
   rcases hgap _ hp with d | d
   ·exact d
   ·dsimp only at d
    omega
 rw [Bool.eq_iff_iff,List.all_eq_true,List.all_eq_true]
 exact ⟨fun z q hq=>decide_eq_true ((this q hq).mp (of_decide_eq_true (z q hq))),fun z q hq=>decide_eq_true ((this q hq).mpr (of_decide_eq_true (z q hq)))⟩
theorem acr_s {s c:List Int} (hs:∀ x ∈ s,x ∈ ns) (hc:(s.filter fun x=>decide (x ∈ jba ps ts m)) = c):(s.filter fun x=>decide (x ∈ jba ps ts n)) = acrL (jba ps ts n) c n false∧((s ++ [n]).filter fun x=>decide (x ∈ jba ps ts n)) = acrL (jba ps ts n) c n true:=by
 have e:(s.filter fun x=>decide (x ∈ jba ps ts n)) = c.filter fun x=>decide (x ∈ jba ps ts n):=by
  rw [← hc,List.filter_filter]
  refine List.filter_congr fun x hx=>?_
  by_cases q:x ∈ jba ps ts n
  ·obtain ⟨a,b,y,hy,d⟩:=je6.mp q
   have:x ∈ jba ps ts m:=je6.mpr ⟨a,hns _ (hs _ hx),y,hy,by omega⟩
   rw [decide_eq_true q,decide_eq_true this]
   rfl
  ·rw [decide_eq_false q]
   rfl
 unfold acrL
 refine ⟨e,?_⟩
 rw [if_pos rfl,List.filter_append,List.filter_append,e]
theorem jqf:(covL (ns ++ [n]) ts n).Perm ((covL ns ts m).map (fun s=>s ++ [n]) ++ (covL ns ts m).filter (toT ts n)):=by
 have hsub:∀ s ∈ subL ns,∀ x ∈ s,x ∈ ns:=fun s hs x hx=>(jbr ns s hs).subset hx
 unfold covL
 rw [jc1,List.filter_append,List.filter_map]
 have e1:(subL ns).filter ((toT ts n) ∘ fun s=>s ++ [n]) = (subL ns).filter (toT ts m):=List.filter_congr fun s hs=>toT_in htt hns hmn hgap (hsub s hs)
 have e2:(subL ns).filter (toT ts n) = ((subL ns).filter (toT ts m)).filter (toT ts n):=by
  rw [List.filter_filter]
  refine List.filter_congr fun s hs=>?_
  rw [jmf htt hns hmn hgap (hsub s hs)]
  cases toT ts m s <;> simp
 rw [e1,← e2]
 exact List.perm_append_comm
theorem GI.step {G:GL} {pr:Int} (h:GI ps ts ns m G):GI ps ts (ns ++ [n]) n (stF VG (jba ps ts n) (jbp ts n) n pr G):=by
 have hin:∀ g ∈ G,∀ s ∈ g.2,(∀ x ∈ s,x ∈ ns)∧toT ts m s = true:=fun g hg s hs=>by
  have:=h.pm.mem_iff.mp (List.mem_flatMap.mpr ⟨g,hg,hs⟩)
  unfold covL at this
  rw [List.mem_filter] at this
  exact ⟨fun x hx=>(jbr ns s this.1).subset hx,this.2⟩
 obtain ⟨a,b,c⟩:=jrd (edge:=jba ps ts n) (ahead:=jbp ts n) (n:=n) (pr:=pr) G [] (fun g hg=>⟨(h.ok g hg).1,fun s hs=>acr_s htt hns hmn hgap (hin g hg s hs).1 ((h.ok g hg).2 s hs)⟩) List.nodup_nil (fun _ h=>by cases h)
 refine ⟨a,b,c.trans ?_⟩
 rw [List.flatMap_nil,List.nil_append]
 refine List.Perm.trans ?_ (jqf htt hns hmn hgap).symm
 have hG:∀ (Gs:GL),(∀ g ∈ Gs,g ∈ G)→(Gs.flatMap (ctr (jbp ts n) n)).Perm ((Gs.flatMap (·.2)).map (fun s=>s ++ [n]) ++ (Gs.flatMap (·.2)).filter (toT ts n)):=fun Gs=>by
  induction Gs with
  | nil=>intro _; exact List.Perm.refl _
  | cons g r ih =>
   intro hsub
   have hg:=hsub g (.head _)
   rw [List.flatMap_cons,List.flatMap_cons,List.map_append,List.filter_append]
   have ef:(if ((jbp ts n).all fun q=>decide (q ∈ g.1)) = true then g.2 else []) = g.2.filter (toT ts n):=by
    have hall:∀ s ∈ g.2,toT ts n s = (jbp ts n).all fun q=>decide (q ∈ g.1):=fun s hs=>by
     rw [jmf htt hns hmn hgap (hin g hg s hs).1,(hin g hg s hs).2,Bool.true_and,jt9 htt hns hmn hgap (hin g hg s hs).1 ((h.ok g hg).2 s hs)]
    split
    ·rename_i q
     exact (List.filter_eq_self.mpr fun s hs=>by rw [hall s hs]; exact q).symm
    ·rename_i q
     exact (List.filter_eq_nil_iff.mpr fun s hs=>by rw [hall s hs]; exact q).symm
   unfold ctr
   rw [ef]
   have:=ih fun x hx=>hsub x (.tail _ hx)
   refine (List.Perm.append_left _ this).trans ?_
   simp only [List.append_assoc]
   refine List.Perm.append_left _ ?_
   rw [← List.append_assoc,← List.append_assoc]
   exact List.Perm.append_right _ List.perm_append_comm
 exact (hG G fun _ h=>h).trans (List.Perm.append (h.pm.map _) (h.pm.filter _))
end
end My
namespace My
open PySem L2
def mL (ps:List (Int × Int)):Nat→Int
 | 0=>-1
 | i + 1=>((ps[i]?).map (·.1)).getD 0
theorem jjj (ps:List (Int × Int)) (i:Nat):mL ps (i + 1) = ((ps[i]?).map (·.1)).getD 0:=rfl
theorem je9 {ps ts:List (Int × Int)} (wok:WebOk ps ts):∀ t ∈ ts,t.1 < t.2∧t.1 ∈ ps.map (·.1)∧t.2 ∈ ps.map (·.1):=fun t ht=>by
 obtain ⟨a,b,c⟩:=wok.t.at t ht
 obtain ⟨i,p,hp,e⟩:=jd0 b
 obtain ⟨j,q,hq,f⟩:=jd0 c
 exact ⟨a,e ▸ List.mem_map_of_mem (List.mem_of_getElem? hp),f ▸ List.mem_map_of_mem (List.mem_of_getElem? hq)⟩
theorem jsn {ps:List (Int × Int)} (h:PlOk (-1) 0 ps) {i j:Nat} {p:Int × Int} (hj:ps[j]? = some p) (hji:j < i) (hi:i ≤ ps.length):p.1 ≤ mL ps i:=by
 match i,hji with
 | i + 1,hji =>
  have e:ps[i]? = some ps[i]:=List.getElem?_eq_getElem (by omega)
  rw [jjj,e]
  show p.1 ≤ (ps[i]).1
  rcases Nat.lt_or_eq_of_le (Nat.le_of_lt_succ hji) with c | c
  ·have:=h.rise j i p _ c hj e
   omega
  ·subst c
   rw [e] at hj
   cases hj
   exact Int.le_refl _
theorem mL_lt {ps:List (Int × Int)} (h:PlOk (-1) 0 ps) {i:Nat} {p:Int × Int} (hp:ps[i]? = some p):mL ps i < p.1:=by
 match i,hp with
 | 0,hp=>exact h.gt p (List.mem_of_getElem? hp)
 | i + 1,hp =>
  have hl:i + 1 < ps.length:=(List.getElem?_eq_some_iff.mp hp).1
  have e:ps[i]? = some ps[i]:=List.getElem?_eq_getElem (by omega)
  rw [jjj,e]
  exact h.rise i (i + 1) _ p (by omega) e hp
theorem jro {ps ts:List (Int × Int)} (wok:WebOk ps ts):∀ i,i ≤ ps.length→GI ps ts ((ps.take i).map (·.1)) (mL ps i) (alL VG ps ts [[]] (ps.take i))
 | 0,_=>by
  have hc:covL [] ts (-1) = [[]]:=by
   unfold covL
   show ([[]]:List (List Int)).filter (toT ts (-1)) = [[]]
   have:toT ts (-1) [] = true:=by
    unfold toT
    rw [List.all_eq_true]
    intro t ht
    obtain ⟨p,hp,e⟩:=List.mem_map.mp (je9 wok t ht).2.2
    have:=wok.p.gt p hp
    rw [decide_eq_true (show -1 < t.2 by omega)]
    rfl
   rw [List.filter_cons,if_pos this]
   rfl
  refine ⟨?_,?_,?_⟩
  ·show ([[]]:List (List Int)).Nodup
   simp
  ·intro g hg
   have hg:g ∈ [(([]:List Int),[([]:List Int)])]:=hg
   rw [List.mem_singleton.mp hg]
   exact ⟨by simp,fun s hs=>by rw [List.mem_singleton.mp hs]; rfl⟩
  ·show ([[]]:List (List Int)).Perm (covL [] ts (-1))
   rw [hc]
 | i + 1,hi=>by
  have ih:=jro wok i (by omega)
  have e:ps[i]? = some ps[i]:=List.getElem?_eq_getElem (by omega)
  generalize ps[i] = p at e
  have hns:∀ x ∈ (ps.take i).map (·.1),x ≤ mL ps i:=fun x hx=>by
   obtain ⟨q,hq,rfl⟩:=List.mem_map.mp hx
   obtain ⟨j,hj,e2⟩:=List.mem_iff_getElem.mp hq
   rw [List.length_take] at hj
   rw [List.getElem_take] at e2
   exact jsn wok.p (j:=j) (by rw [List.getElem?_eq_getElem (by omega),e2]) (by omega) (by omega)
  have hgap:∀ x ∈ ps.map (·.1),x ≤ mL ps i ∨ p.1 ≤ x:=fun x hx=>by
   obtain ⟨q,hq,rfl⟩:=List.mem_map.mp hx
   obtain ⟨j,hj,e2⟩:=List.mem_iff_getElem.mp hq
   have hj':ps[j]? = some q:=by rw [List.getElem?_eq_getElem hj,e2]
   rcases Nat.lt_or_ge j i with c | c
   ·exact .inl (jsn wok.p hj' c (by omega))
   ·right
    rcases Nat.lt_or_eq_of_le c with c | c
    ·have:=wok.p.rise i j p q c e hj'
     omega
    ·subst c
     rw [e] at hj'
     cases hj'
     exact Int.le_refl _
  have st:=GI.step (pr:=p.2) (je9 wok) hns (mL_lt wok.p e) hgap ih
  have e1:(ps.take (i + 1)).map (·.1) = (ps.take i).map (·.1) ++ [p.1]:=by rw [jal e,List.map_append]; rfl
  have e2:mL ps (i + 1) = p.1:=by rw [jjj,e]; rfl
  rw [e1,e2,jf0 VG ps ts [[]] e]
  exact st
theorem jet:∀ (ns:List Int),ns ∈ subL ns:=fun ns=>by
 have:∀ (ns pre:List Int) (f:List (List Int)),pre ∈ f→pre ++ ns ∈ ns.foldl (fun f n=>f ++ f.map fun s=>s ++ [n]) f:=fun ns=>by
  induction ns with
  | nil=>intro pre f h; rw [List.append_nil]; exact h
  | cons a r ih =>
   intro pre f h
   rw [List.foldl_cons]
   have:=ih (pre ++ [a]) _ (List.mem_append_right f (List.mem_map_of_mem (f:=fun s=>s ++ [a]) h))
   simpa using this
 exact this ns [] [[]] (by simp)
def touB (ts:List (Int × Int)) (s:List Int):Bool:=ts.all fun t=>decide (t.1 ∈ s) || decide (t.2 ∈ s)
theorem jsm {α β:Type} (h:α→β) (L:AL α) (c:List Int):lkA (L.map fun x=>(x.1,h x.2)) c = (lkA L c).map h:=by
 unfold lkA
 rw [List.find?_map,Option.map_map,Option.map_map]
 rfl
theorem jlr {ps ts:List (Int × Int)} (wok:WebOk ps ts):∃ F,lkA (alL VG ps ts [[]] ps) [] = some F∧F.Perm ((subL (ps.map (·.1))).filter (touB ts)):=by
 have hg:=jro wok ps.length (Nat.le_refl _)
 rw [List.take_length] at hg
 generalize alL VG ps ts [[]] ps = G at hg
 have hle:∀ x ∈ ps.map (·.1),x ≤ mL ps ps.length:=fun x hx=>by
  obtain ⟨q,hq,rfl⟩:=List.mem_map.mp hx
  obtain ⟨j,hj,e2⟩:=List.mem_iff_getElem.mp hq
  exact jsn wok.p (j:=j) (by rw [List.getElem?_eq_getElem hj,e2]) hj (Nat.le_refl _)
 have ht:=je9 wok
 have hed:∀ x,x ∉ jba ps ts (mL ps ps.length):=fun x hx=>by
  obtain ⟨_,_,y,hy,c⟩:=je6.mp hx
  have hyp:y ∈ ps.map (·.1):=by
   rcases (jbl fun t h=>(ht t h).1).mp hy with q | q
   ·exact (ht _ q).2.2
   ·exact (ht _ q).2.1
  have:=hle y hyp
  omega
 have hkey:∀ g ∈ G,g.1 = []:=fun g hgm=>by
  obtain ⟨h1,h2⟩:=hg.ok g hgm
  match hF:g.2,h1 with
  | s :: r,_ =>
   rw [← h2 s (by rw [hF]; exact .head _)]
   exact List.filter_eq_nil_iff.mpr fun x _=>by rw [decide_eq_true_eq]; exact hed x
 have hcov:covL (ps.map (·.1)) ts (mL ps ps.length) = (subL (ps.map (·.1))).filter (touB ts):=by
  unfold covL
  refine List.filter_congr fun s _=>?_
  unfold toT touB
  rw [Bool.eq_iff_iff,List.all_eq_true,List.all_eq_true]
  have:∀ t ∈ ts,decide (mL ps ps.length < t.2) = false:=fun t h=>decide_eq_false (by have:=hle _ (ht t h).2.2; omega)
  exact ⟨fun z t h=>by have q:=z t h; rw [this t h] at q; exact q,fun z t h=>by rw [this t h]; exact z t h⟩
 have hne:(ps.map (·.1)) ∈ (subL (ps.map (·.1))).filter (touB ts):=by
  rw [List.mem_filter]
  refine ⟨jet _,?_⟩
  unfold touB
  rw [List.all_eq_true]
  intro t h
  rw [decide_eq_true (ht t h).2.1]
  rfl
 have hpm:=hg.pm
 rw [hcov] at hpm
 match G,hg.nd,hkey,hpm with
 | [],_,_,hpm =>
  have:=hpm.mem_iff.mpr hne
  cases this
 | [g],_,hkey,hpm =>
  refine ⟨g.2,?_,?_⟩
  ·unfold lkA
   rw [List.find?_cons,decide_eq_true (hkey g (.head _))]
   rfl
  ·rw [List.flatMap_cons,List.flatMap_nil,List.append_nil] at hpm
   exact hpm
 | g1 :: g2 :: r,hn,hkey,_ =>
  rw [List.map_cons,List.map_cons,List.nodup_cons] at hn
  exact absurd (by rw [hkey g1 (.head _),hkey g2 (.tail _ (.head _))]; exact .head _) hn.1
end My
namespace My
open PySem L2
abbrev Lv:=Int × Int × List Int × List Int
def jjl (a:Lv) (p q:Int) (b:Bool):Lv:=if b = true then (a.1 + q,a.2.1,a.2.2.1 ++ [p],a.2.2.2 ++ [a.2.1]) else (a.1,a.2.1,a.2.2.1,a.2.2.2 ++ [0])
def jcz (a b:Lv):Lv:=if a.1 ≠ b.1 then (if a.1 < b.1 then a else b) else (a.1,a.2.1 + b.2.1,if HT.lexLt b.2.2.1 a.2.2.1 = true then b.2.2.1 else a.2.2.1,jfs a.2.2.2 b.2.2.2)
def cst:List (Int × Int)→List Int→Int
 | [],_=>0
 | q :: r,s=>(if q.1 ∈ s then q.2 else 0) + cst r s
theorem jjw:∀ (qs rs:List (Int × Int)) (s:List Int),cst (qs ++ rs) s = cst qs s + cst rs s
 | [],rs,s=>by rw [List.nil_append]; show _ = 0 + _; rw [Int.zero_add]
 | q :: r,rs,s=>by rw [List.cons_append,cst,cst,jjw r rs s,Int.add_assoc]
theorem jfp:∀ {qs:List (Int × Int)} {s t:List Int},(∀ q ∈ qs,q.1 ∈ s ↔ q.1 ∈ t)→cst qs s = cst qs t
 | [],_,_,_=>rfl
 | q :: r,s,t,h=>by
  rw [cst,cst,jfp (qs:=r) fun q hq=>h q (.tail _ hq)]
  have:=h q (.head _)
  by_cases c:q.1 ∈ s
  ·rw [if_pos c,if_pos (this.mp c)]
  ·rw [if_neg c,if_neg fun z=>c (this.mpr z)]
theorem jrm:∀ {qs:List (Int × Int)} {s t:List Int},(∀ q ∈ qs,1 ≤ q.2)→(∀ x ∈ s,x ∈ t)→cst qs s ≤ cst qs t
 | [],_,_,_,_=>Int.le_refl _
 | q :: r,s,t,hp,h=>by
  have ih:=jrm (qs:=r) (fun q hq=>hp q (.tail _ hq)) h
  have:=hp q (.head _)
  rw [cst,cst]
  by_cases c:q.1 ∈ s
  ·rw [if_pos c,if_pos (h _ c)]; omega
  ·rw [if_neg c]
   split <;> omega
theorem jp1:∀ {qs:List (Int × Int)} {s t:List Int} {q:Int × Int},(∀ q ∈ qs,1 ≤ q.2)→(∀ x ∈ s,x ∈ t)→q ∈ qs→q.1 ∉ s→q.1 ∈ t→cst qs s < cst qs t
 | p :: r,s,t,q,hp,h,hq,h1,h2=>by
  have hl:=jrm (qs:=r) (fun q hq=>hp q (.tail _ hq)) h
  have hp0:=hp p (.head _)
  rw [cst,cst]
  rcases List.mem_cons.mp hq with e | hq
  ·subst e
   rw [if_neg h1,if_pos h2]; omega
  ·have ih:=jp1 (qs:=r) (fun q hq=>hp q (.tail _ hq)) h hq h1 h2
   by_cases c:p.1 ∈ s
   ·rw [if_pos c,if_pos (h _ c)]; omega
   ·rw [if_neg c]
    split <;> omega
theorem jq5 {a b:List Int} (h:HT.lexLt a b = true):HT.lexLt b a = false:=by
 cases c:HT.lexLt b a with
 | false=>rfl
 | true=>exact absurd (jkw h c) (by rw [jha]; exact Bool.false_ne_true)
theorem jkx (n:Int):∀ {t s:List Int},HT.lexLt t s = true→(∃ u,u ≠ []∧s = t ++ u) ∨ HT.lexLt (t ++ [n]) (s ++ [n]) = true
 | [],[],h=>by rw [HT.lexLt_nil_nil] at h; cases h
 | [],y :: q,_=>.inl ⟨y :: q,by simp,rfl⟩
 | _ :: _,[],h=>by rw [HT.lexLt_cons_nil] at h; cases h
 | x :: r,y :: q,h=>by
  rw [HT.lexLt_cons] at h
  by_cases c:x = y
  ·rw [if_pos c] at h
   rcases jkx n h with ⟨u,h1,h2⟩ | h2
   ·exact .inl ⟨u,h1,by rw [h2,c]; rfl⟩
   ·right
    rw [List.cons_append,List.cons_append,HT.lexLt_cons,if_pos c]
    exact h2
  ·rw [if_neg c] at h
   right
   rw [List.cons_append,List.cons_append,HT.lexLt_cons,if_neg c]
   exact h
structure Lst (qs:List (Int × Int)) (F:List (List Int)) (a:Lv):Prop where
 le:∀ s ∈ F,a.1 ≤ cst qs s
 many:a.2.1 = ((F.filter fun s=>decide (cst qs s = a.1)).length:Int)
 mem:a.2.2.1 ∈ F∧cst qs a.2.2.1 = a.1
 lex:∀ s ∈ F,cst qs s = a.1→HT.lexLt s a.2.2.1 = false
 cnt:a.2.2.2 = qs.map fun q=>(((F.filter fun s=>decide (cst qs s = a.1)).filter fun s=>decide (q.1 ∈ s)).length:Int)
theorem Lst.uniq {qs:List (Int × Int)} {F:List (List Int)} {a b:Lv} (h:Lst qs F a) (g:Lst qs F b):a = b:=by
 have e1:a.1 = b.1:=by
  have h1:=h.le _ g.mem.1
  have h2:=g.le _ h.mem.1
  rw [g.mem.2] at h1
  rw [h.mem.2] at h2
  omega
 obtain ⟨a1,a2,a3,a4⟩:=a
 obtain ⟨b1,b2,b3,b4⟩:=b
 dsimp only at e1
 subst e1
 have e2:a2 = b2:=h.many.trans g.many.symm
 have e4:a4 = b4:=h.cnt.trans g.cnt.symm
 have e3:a3 = b3:=by
  have h1:=h.lex _ g.mem.1 g.mem.2
  have h2:=g.lex _ h.mem.1 h.mem.2
  dsimp only at h1 h2
  rcases jh8 a3 b3 with c | c | c
  ·rw [c] at h2; cases h2
  ·exact c
  ·rw [c] at h1; cases h1
 rw [e2,e3,e4]
theorem jfl {α:Type} {p:α→Bool} {l:List α} (h:∀ x ∈ l,p x = false):l.filter p = []:=List.filter_eq_nil_iff.mpr fun x hx=>by rw [h x hx]; exact Bool.false_ne_true
theorem Lst.app {qs:List (Int × Int)} {F G:List (List Int)} {a b:Lv} (h:Lst qs F a) (g:Lst qs G b):Lst qs (F ++ G) (jcz a b):=by
 unfold jcz
 by_cases c:a.1 ≠ b.1
 ·rw [if_pos c]
  by_cases d:a.1 < b.1
  ·rw [if_pos d]
   have hn:(G.filter fun s=>decide (cst qs s = a.1)) = []:=jfl fun s hs=>decide_eq_false (by have:=g.le s hs; omega)
   refine ⟨fun s hs=>(List.mem_append.mp hs).elim (h.le s) fun q=>by have:=g.le s q; omega,?_,⟨List.mem_append_left _ h.mem.1,h.mem.2⟩,fun s hs e=>(List.mem_append.mp hs).elim (fun q=>h.lex s q e) fun q=>by have:=g.le s q; omega,?_⟩
   ·rw [List.filter_append,hn,List.append_nil]; exact h.many
   ·rw [List.filter_append,hn,List.append_nil]; exact h.cnt
  ·rw [if_neg d]
   have hn:(F.filter fun s=>decide (cst qs s = b.1)) = []:=jfl fun s hs=>decide_eq_false (by have:=h.le s hs; omega)
   refine ⟨fun s hs=>(List.mem_append.mp hs).elim (fun q=>by have:=h.le s q; omega) (g.le s),?_,⟨List.mem_append_right _ g.mem.1,g.mem.2⟩,fun s hs e=>(List.mem_append.mp hs).elim (fun q=>by have:=h.le s q; omega) fun q=>g.lex s q e,?_⟩
   ·rw [List.filter_append,hn,List.nil_append]; exact g.many
   ·rw [List.filter_append,hn,List.nil_append]; exact g.cnt
 ·rw [if_neg c]
  have e:b.1 = a.1:=by omega
  have g1:=g.le
  have g2:=g.many
  have g3:=g.mem
  have g4:=g.lex
  have g5:=g.cnt
  rw [e] at g1 g2 g3 g4 g5
  refine ⟨fun s hs=>(List.mem_append.mp hs).elim (h.le s) (g1 s),?_,?_,?_,?_⟩
  ·dsimp only
   rw [List.filter_append,List.length_append,h.many,g2]
   rfl
  ·dsimp only
   split
   ·exact ⟨List.mem_append_right _ g3.1,g3.2⟩
   ·exact ⟨List.mem_append_left _ h.mem.1,h.mem.2⟩
  ·intro s hs es
   dsimp only at es ⊢
   by_cases k:HT.lexLt b.2.2.1 a.2.2.1 = true
   ·rw [if_pos k]
    rcases List.mem_append.mp hs with q | q
    ·cases z:HT.lexLt s b.2.2.1 with
     | false=>rfl
     | true=>rw [← h.lex s q es]; exact (jkw z k).symm
    ·exact g4 s q es
   ·rw [if_neg k]
    rcases List.mem_append.mp hs with q | q
    ·exact h.lex s q es
    ·cases z:HT.lexLt s a.2.2.1 with
     | false=>rfl
     | true =>
      rcases jh8 a.2.2.1 b.2.2.1 with w | w | w
      ·rw [← g4 s q es]; exact (jkw z w).symm
      ·rw [w] at z; rw [← g4 s q es]; exact z.symm
      ·exact absurd w k
  ·dsimp only
   rw [h.cnt,g5]
   unfold jfs
   rw [List.zip_map',List.map_map]
   refine List.map_congr_left fun q _=>?_
   rw [List.filter_append,List.filter_append,List.length_append]
   rfl
end My
namespace My
open PySem L2
theorem Lst.perm {qs:List (Int × Int)} {F G:List (List Int)} {a:Lv} (h:Lst qs F a) (p:F.Perm G):Lst qs G a :=
 ⟨fun s hs=>h.le s (p.mem_iff.mpr hs),by rw [h.many,(p.filter _).length_eq],⟨p.mem_iff.mp h.mem.1,h.mem.2⟩,fun s hs=>h.lex s (p.mem_iff.mpr hs),by
  rw [h.cnt]
  refine List.map_congr_left fun q _=>?_
  rw [((p.filter _).filter _).length_eq]⟩
def oneF (qs:List (Int × Int)) (s:List Int):Lv:=(cst qs s,1,s,qs.map fun q=>if q.1 ∈ s then 1 else 0)
theorem Lst.one (qs:List (Int × Int)) (s:List Int):Lst qs [s] (oneF qs s):=by
 have hf:([s].filter fun t=>decide (cst qs t = (oneF qs s).1)) = [s]:=by
  have:decide (cst qs s = (oneF qs s).1) = true:=decide_eq_true rfl
  rw [List.filter_cons,if_pos this]
  rfl
 refine ⟨fun t ht=>by rw [List.mem_singleton.mp ht]; exact Int.le_refl _,by rw [hf]; rfl,⟨.head _,rfl⟩,fun t ht _=>by rw [List.mem_singleton.mp ht]; exact jha s,?_⟩
 rw [hf]
 show (qs.map fun q=>if q.1 ∈ s then 1 else 0) = _
 refine List.map_congr_left fun q _=>?_
 by_cases c:q.1 ∈ s
 ·rw [if_pos c,List.filter_cons,if_pos (decide_eq_true c)]; rfl
 ·rw [if_neg c,List.filter_cons,if_neg (by rw [decide_eq_false c]; exact Bool.false_ne_true)]; rfl
def lstF (qs:List (Int × Int)):List (List Int)→Lv
 | []=>(0,0,[],[])
 | [s]=>oneF qs s
 | s :: t :: F=>jcz (oneF qs s) (lstF qs (t :: F))
theorem jd9 (qs:List (Int × Int)):∀ {F:List (List Int)},F ≠ []→Lst qs F (lstF qs F)
 | [],h=>absurd rfl h
 | [s],_=>Lst.one qs s
 | s :: t :: F,_=>(Lst.one qs s).app (jd9 qs (F:=t :: F) (by simp))
theorem jh7 {qs:List (Int × Int)} {F:List (List Int)} {a:Lv} (hF:F ≠ []) (h:Lst qs F a):lstF qs F = a:=(jd9 qs hF).uniq h
section
variable {qs:List (Int × Int)} {r:Int × Int} {F:List (List Int)} {a:Lv}
theorem jr9 (hn:((qs ++ [r]).map (·.1)).Nodup) {s:List Int} (hs:s.Sublist (qs.map (·.1))):r.1 ∉ s:=fun z=>by
 rw [List.map_append,List.nodup_append] at hn
 exact hn.2.2 _ (hs.subset z) _ (.head _) rfl
theorem ne_r (hn:((qs ++ [r]).map (·.1)).Nodup) {q:Int × Int} (hq:q ∈ qs):q.1 ≠ r.1:=fun z=>by
 rw [List.map_append,List.nodup_append] at hn
 exact hn.2.2 _ (List.mem_map_of_mem hq) _ (.head _) z
theorem jla (hn:((qs ++ [r]).map (·.1)).Nodup) (s:List Int):cst (qs ++ [r]) (s ++ [r.1]) = cst qs s + r.2:=by
 rw [jjw,jfp (s:=s ++ [r.1]) (t:=s) fun q hq=>by rw [List.mem_append,List.mem_singleton]; exact ⟨fun z=>z.elim id fun z=>absurd z (ne_r hn hq),.inl⟩]
 show _ + ((if r.1 ∈ s ++ [r.1] then r.2 else 0) + 0) = _
 rw [if_pos (by simp)]
 omega
theorem jhi (hn:((qs ++ [r]).map (·.1)).Nodup) {s:List Int} (hs:s.Sublist (qs.map (·.1))):cst (qs ++ [r]) s = cst qs s:=by
 rw [jjw]
 show _ + ((if r.1 ∈ s then r.2 else 0) + 0) = _
 rw [if_neg (jr9 hn hs)]
 omega
theorem Lst.out (hn:((qs ++ [r]).map (·.1)).Nodup) (hF:∀ s ∈ F,s.Sublist (qs.map (·.1))) (h:Lst qs F a):Lst (qs ++ [r]) F (jjl a r.1 r.2 false):=by
 have hf:(F.filter fun s=>decide (cst (qs ++ [r]) s = a.1)) = F.filter fun s=>decide (cst qs s = a.1):=List.filter_congr fun s hs=>by rw [jhi hn (hF s hs)]
 show Lst (qs ++ [r]) F (a.1,a.2.1,a.2.2.1,a.2.2.2 ++ [0])
 refine ⟨fun s hs=>by rw [jhi hn (hF s hs)]; exact h.le s hs,by dsimp only; rw [hf]; exact h.many,⟨h.mem.1,by dsimp only; rw [jhi hn (hF _ h.mem.1)]; exact h.mem.2⟩,fun s hs e=>h.lex s hs (by rw [← jhi hn (hF s hs)]; exact e),?_⟩
 dsimp only
 rw [hf,List.map_append,← h.cnt]
 congr 1
 rw [List.map_cons,List.map_nil]
 rw [jfl (p:=fun s=>decide (r.1 ∈ s)) fun s hs=>decide_eq_false (jr9 hn (hF s (List.mem_filter.mp hs).1))]
 rfl
theorem Lst.inn (hn:((qs ++ [r]).map (·.1)).Nodup) (hp:∀ q ∈ qs,1 ≤ q.2) (hF:∀ s ∈ F,s.Sublist (qs.map (·.1))) (h:Lst qs F a):Lst (qs ++ [r]) (F.map fun s=>s ++ [r.1]) (jjl a r.1 r.2 true):=by
 have hf:((F.map fun s=>s ++ [r.1]).filter fun s=>decide (cst (qs ++ [r]) s = a.1 + r.2)) = (F.filter fun s=>decide (cst qs s = a.1)).map fun s=>s ++ [r.1]:=by
  rw [List.filter_map]
  congr 1
  refine List.filter_congr fun s _=>?_
  show decide (cst (qs ++ [r]) (s ++ [r.1]) = a.1 + r.2) = _
  rw [jla hn,decide_eq_decide]
  omega
 show Lst (qs ++ [r]) _ (a.1 + r.2,a.2.1,a.2.2.1 ++ [r.1],a.2.2.2 ++ [a.2.1])
 refine ⟨fun s hs=>?_,?_,⟨List.mem_map_of_mem h.mem.1,?_⟩,fun s hs e=>?_,?_⟩
 ·obtain ⟨t,ht,rfl⟩:=List.mem_map.mp hs
  have:=h.le t ht
  rw [jla hn]
  dsimp only
  omega
 ·dsimp only
  rw [hf,List.length_map]
  exact h.many
 ·dsimp only
  rw [jla hn,h.mem.2]
 ·obtain ⟨t,ht,rfl⟩:=List.mem_map.mp hs
  dsimp only at e ⊢
  rw [jla hn] at e
  have et:cst qs t = a.1:=by omega
  have hl:=h.lex t ht et
  rcases jh8 a.2.2.1 t with c | c | c
  ·rcases jkx r.1 c with ⟨u,hu,eu⟩ | c2
   ·exfalso
    obtain ⟨x,hx⟩:=List.exists_mem_of_ne_nil u hu
    have hnd:t.Nodup:=(hF t ht).nodup (by
     rw [List.map_append,List.nodup_append] at hn
     exact hn.1)
    have hxt:x ∈ t:=by rw [eu]; exact List.mem_append_right _ hx
    obtain ⟨q,hq,eq⟩:=List.mem_map.mp ((hF t ht).subset hxt)
    have:=jp1 (qs:=qs) (s:=a.2.2.1) (t:=t) hp (fun y hy=>by rw [eu]; exact List.mem_append_left _ hy) hq (by
     rw [eq]
     intro z
     rw [eu,List.nodup_append] at hnd
     exact hnd.2.2 _ z _ hx rfl) (by rw [eq]; exact hxt)
    have:=h.mem.2
    omega
   ·exact jq5 c2
  ·rw [c]; exact jha _
  ·rw [c] at hl; cases hl
 ·dsimp only
  rw [hf,List.map_append,h.cnt]
  congr 1
  ·refine List.map_congr_left fun q hq=>?_
   rw [List.filter_map,List.length_map]
   congr 2
   refine List.filter_congr fun s _=>?_
   show _ = decide (q.1 ∈ s ++ [r.1])
   rw [decide_eq_decide,List.mem_append,List.mem_singleton]
   exact ⟨.inl,fun z=>z.elim id fun z=>absurd z (ne_r hn hq)⟩
  ·rw [List.map_cons,List.map_nil]
   rw [List.filter_map,List.length_map,List.filter_eq_self.mpr (fun s _=>by simp),h.many]
end
def VL (H0:Hp):Vl Lv where
 VR:=fun H v a=>Kp H0 H∧∃ t l2 l3,v = .ref t∧H t = some (.tup [.int a.1,.int a.2.1,.ref l2,.ref l3])∧(∀ xs,H0 l2 ≠ some (.lst xs))∧H l2 = some (.lst (a.2.2.1.map V.int))∧H l3 = some (.lst (a.2.2.2.map V.int))
 ok:=fun i a=>a.2.2.2.length = i∧a.2.2.1.length ≤ i
 gr:=jjl
 jn:=jcz
 kp:=fun k ⟨k0,t,l2,l3,e,h1,h2,h3,h4⟩=>⟨k0.trans k,t,l2,l3,e,k.2 _ _ h1,h2,k.1 _ _ h3,k.1 _ _ h4⟩
def SF (qs:List (Int × Int)) (F:List (List Int)):Prop:=F ≠ []∧∀ s ∈ F,s.Sublist (qs.map (·.1))
theorem jon (H0:Hp) (ps ts:List (Int × Int)):∀ (rs qs:List (Int × Int)) (L:AL (List (List Int))),((qs ++ rs).map (·.1)).Nodup→(∀ q ∈ qs ++ rs,1 ≤ q.2)→(∀ x ∈ L,SF qs x.2)→(rs.foldl (stP VG ps ts) L).map (fun x=>(x.1,lstF (qs ++ rs) x.2)) = rs.foldl (stP (VL H0) ps ts) (L.map fun x=>(x.1,lstF qs x.2)):=fun rs=>by
 induction rs with
 | nil=>intro qs L _ _ h; rw [List.append_nil]; rfl
 | cons r t ih =>
  intro qs L hn hp h
  rw [List.foldl_cons,List.foldl_cons]
  have hn':((qs ++ [r]).map (·.1)).Nodup:=by
   have e:qs ++ r :: t = (qs ++ [r]) ++ t:=by simp
   rw [e,List.map_append,List.nodup_append] at hn
   exact hn.1
  have hp':∀ q ∈ qs,1 ≤ q.2:=fun q hq=>hp q (List.mem_append_left _ hq)
  have st:=jry (A:=VG) (B:=VL H0) (h:=lstF qs) (h':=lstF (qs ++ [r])) (S:=SF qs) (S':=SF (qs ++ [r])) (edge:=jba ps ts r.1) (ahead:=jbp ts r.1) (p:=r.1) (q:=r.2) (fun F b hF=>by
    have hl:=jd9 qs hF.1
    cases b with
    | true=>exact ⟨jh7 (by show F.map _ ≠ []; simpa using hF.1) (hl.inn hn' hp' hF.2),by show F.map _ ≠ []; simpa using hF.1,fun s hs=>by
      obtain ⟨q,hq,rfl⟩:=List.mem_map.mp hs
      rw [List.map_append]
      exact (hF.2 q hq).append (List.Sublist.refl _)⟩
    | false=>exact ⟨jh7 hF.1 (hl.out hn' hF.2),hF.1,fun s hs=>by
      rw [List.map_append]
      exact (hF.2 s hs).trans (List.sublist_append_left _ _)⟩)
   (fun F G hF hG=>⟨jh7 (fun z=>hF.1 (List.append_eq_nil_iff.mp z).1) ((jd9 _ hF.1).app (jd9 _ hG.1)),fun z=>hF.1 (List.append_eq_nil_iff.mp z).1,fun s hs=>(List.mem_append.mp hs).elim (hF.2 s) (hG.2 s)⟩) (L:=L) h
  have e:stP (VL H0) ps ts (L.map fun x=>(x.1,lstF qs x.2)) r = (stP VG ps ts L r).map fun x=>(x.1,lstF (qs ++ [r]) x.2):=st.1.symm
  rw [e]
  have:=ih (qs ++ [r]) (stP VG ps ts L r) (by rw [List.append_assoc]; exact hn) (by rw [List.append_assoc]; exact hp) st.2
  rw [List.append_assoc] at this
  exact this
def jac (ps ts:List (Int × Int)):Lv:=lstF ps ((subL (ps.map (·.1))).filter (touB ts))
theorem jo6 (H0:Hp) {ps ts:List (Int × Int)} (wok:WebOk ps ts) (hp:∀ q ∈ ps,1 ≤ q.2):lkA (alL (VL H0) ps ts (0,1,[],[]) ps) [] = some (jac ps ts):=by
 obtain ⟨F,h1,h2⟩:=jlr wok
 have hne:(subL (ps.map (·.1))).filter (touB ts) ≠ []:=by
  refine List.ne_nil_of_mem (a:=ps.map (·.1)) ?_
  rw [List.mem_filter]
  refine ⟨jet _,?_⟩
  unfold touB
  rw [List.all_eq_true]
  intro t h
  rw [decide_eq_true (je9 wok t h).2.1]
  rfl
 have hF:F ≠ []:=fun z=>hne (List.Perm.nil_eq (by rw [← z]; exact h2)).symm
 have hm:=jon H0 ps ts ps [] [([],[[]])] (by rw [List.nil_append]; exact wok.p.nodup) hp (fun x hx=>by
  rw [List.mem_singleton.mp hx]
  exact ⟨by simp,fun s hs=>by rw [List.mem_singleton.mp hs]; exact List.Sublist.refl _⟩)
 have hm:(alL VG ps ts [[]] ps).map (fun x=>(x.1,lstF ps x.2)) = alL (VL H0) ps ts (0,1,[],[]) ps:=hm
 rw [← hm,jsm,h1]
 show some (lstF ps F) = _
 rw [jh7 hF ((jd9 ps hne).perm h2.symm)]
 rfl
end My
namespace My
open PySem L2
abbrev Wt:=Int × Int
def pluW (a b:Wt):Wt:=if a.1 = b.1 then (a.1,a.2 + b.2) else if a.1 < b.1 then a else b
def mulW (a b:Wt):Wt:=(a.1 + b.1,a.2 * b.2)
theorem jdz (a b:Wt):pluW a b = pluW b a:=by
 obtain ⟨a1,a2⟩:=a
 obtain ⟨b1,b2⟩:=b
 unfold pluW
 dsimp only
 by_cases c:a1 = b1
 ·rw [if_pos c,if_pos c.symm,c,Int.add_comm]
 ·have c':¬ b1 = a1:=fun z=>c z.symm
  rw [if_neg c,if_neg c']
  by_cases d:a1 < b1
  ·have d':¬ b1 < a1:=by omega
   rw [if_pos d,if_neg d']
  ·have d':b1 < a1:=by omega
   rw [if_neg d,if_pos d']
theorem jby {a b:Wt} (h:a.1 < b.1):pluW a b = a:=by
 unfold pluW
 rw [if_neg (by omega),if_pos h]
theorem jc8 {a b:Wt} (h:b.1 < a.1):pluW a b = b:=by rw [jdz,jby h]
theorem jcx {a b:Wt} (h:a.1 = b.1):pluW a b = (a.1,a.2 + b.2):=by
 unfold pluW
 rw [if_pos h]
theorem jlk (a b c:Wt):pluW (pluW a b) c = pluW a (pluW b c):=by
 rcases Int.lt_trichotomy a.1 b.1 with h | h | h
 ·rw [jby h]
  rcases Int.lt_trichotomy b.1 c.1 with k | k | k
  ·rw [jby k,jby h,jby (by omega)]
  ·rw [jcx k,jby (b:=(b.1,b.2 + c.2)) h,jby (by omega)]
  ·rw [jc8 k]
 ·rw [jcx h]
  rcases Int.lt_trichotomy b.1 c.1 with k | k | k
  ·rw [jby k,jby (a:=(a.1,a.2 + b.2)) (by dsimp only; omega),jcx h]
  ·rw [jcx k,jcx (a:=(a.1,a.2 + b.2)) (by dsimp only; omega),jcx (b:=(b.1,b.2 + c.2)) h]
   dsimp only
   rw [Int.add_assoc]
  ·rw [jc8 k,jc8 (a:=(a.1,a.2 + b.2)) (by dsimp only; omega),jc8 (by omega)]
 ·rw [jc8 h]
  rcases Int.lt_trichotomy b.1 c.1 with k | k | k
  ·rw [jby k,jc8 h]
  ·rw [jcx k,jc8 (b:=(b.1,b.2 + c.2)) h]
  ·rw [jc8 k,jc8 (by omega)]
theorem jcs (a b:Wt):mulW a b = mulW b a:=by
 unfold mulW
 rw [Int.add_comm,Int.mul_comm]
theorem jbj (a b c:Wt):mulW (mulW a b) c = mulW a (mulW b c):=by
 unfold mulW
 dsimp only
 rw [Int.add_assoc,Int.mul_assoc]
theorem jh6 (c a b:Wt):mulW c (pluW a b) = pluW (mulW c a) (mulW c b):=by
 rcases Int.lt_trichotomy a.1 b.1 with h | h | h
 ·rw [jby h,jby (by unfold mulW; dsimp only; omega)]
 ·rw [jcx h,jcx (by unfold mulW; dsimp only; omega)]
  unfold mulW
  dsimp only
  rw [Int.mul_add]
 ·rw [jc8 h,jc8 (by unfold mulW; dsimp only; omega)]
abbrev Wo:=Option Wt
def pluO:Wo→Wo→Wo
 | none,b=>b
 | a,none=>a
 | some a,some b=>some (pluW a b)
theorem ji0 (a b:Wo):pluO a b = pluO b a:=by
 cases a <;> cases b <;> simp only [pluO]
 rw [jdz]
theorem jbi (a b c:Wo):pluO (pluO a b) c = pluO a (pluO b c):=by
 cases a <;> cases b <;> cases c <;> simp only [pluO]
 rw [jlk]
theorem jhz (a:Wo):pluO a none = a:=by cases a <;> rfl
def mulO (c:Wt) (a:Wo):Wo:=a.map (mulW c)
theorem jq3 (c:Wt) (a b:Wo):mulO c (pluO a b) = pluO (mulO c a) (mulO c b):=by
 cases a <;> cases b <;> simp only [pluO,mulO,Option.map_none,Option.map_some]
 rw [jh6]
section
variable {α β:Type}
def sumF (l:List α) (f:α→Wo):Wo:=l.foldr (fun x acc=>pluO (f x) acc) none
theorem jb2 (x:α) (l:List α) (f:α→Wo):sumF (x :: l) f = pluO (f x) (sumF l f):=rfl
theorem jer (l r:List α) (f:α→Wo):sumF (l ++ r) f = pluO (sumF l f) (sumF r f):=by
 induction l with
 | nil=>rfl
 | cons x l ih=>rw [List.cons_append,jb2,jb2,ih,jbi]
theorem jeq (l:List α) (g:α→β) (f:β→Wo):sumF (l.map g) f = sumF l fun x=>f (g x):=by
 induction l with
 | nil=>rfl
 | cons x l ih=>rw [List.map_cons,jb2,jb2,ih]
theorem jgm (l:List α) (f g:α→Wo):pluO (sumF l f) (sumF l g) = sumF l fun x=>pluO (f x) (g x):=by
 induction l with
 | nil=>rfl
 | cons x l ih =>
  rw [jb2,jb2,jb2,← ih,jbi,jbi]
  congr 1
  rw [← jbi,ji0 (sumF l f) (g x),jbi]
theorem jbh {l:List α} {f g:α→Wo} (h:∀ x ∈ l,f x = g x):sumF l f = sumF l g:=by
 induction l with
 | nil=>rfl
 | cons x l ih=>rw [jb2,jb2,h x (.head _),ih fun y hy=>h y (.tail _ hy)]
theorem jpk (c:Wt) (l:List α) (f:α→Wo):mulO c (sumF l f) = sumF l fun x=>mulO c (f x):=by
 induction l with
 | nil=>rfl
 | cons x l ih=>rw [jb2,jb2,jq3,ih]
end
def Inv0 (f:List Int→Wo):Prop:=∀ s t:List Int,(∀ x,x ∈ s ↔ x ∈ t)→f s = f t
theorem jb7 {f:List Int→Wo}:∀ (ys xs:List Int),sumF (subL (xs ++ ys)) f = sumF (subL xs) fun s=>sumF (subL ys) fun t=>f (s ++ t):=fun ys=>by
 have key:∀ (zs:List Int) (xs:List Int) (f:List Int→Wo),sumF (subL (xs ++ zs.reverse)) f = sumF (subL xs) fun s=>sumF (subL zs.reverse) fun t=>f (s ++ t):=fun zs=>by
  induction zs with
  | nil =>
   intro xs f
   rw [List.reverse_nil,List.append_nil]
   refine jbh fun s _=>?_
   show f s = pluO (f (s ++ [])) none
   rw [List.append_nil,jhz]
  | cons z r ih =>
   intro xs f
   rw [List.reverse_cons,← List.append_assoc,jc1,jc1,jer,jeq,ih,ih,jgm]
   refine jbh fun s _=>?_
   rw [jer,jeq]
   congr 1
   refine jbh fun t _=>?_
   rw [List.append_assoc]
 intro xs
 have:=key ys.reverse xs f
 rwa [List.reverse_reverse] at this
theorem jml {f:List Int→Wo} (hf:Inv0 f) {xs ys:List Int} (p:xs.Perm ys):sumF (subL xs) f = sumF (subL ys) f:=by
 induction p generalizing f with
 | nil=>rfl
 | cons x _ ih =>
  rename_i l r _
  rw [show x :: l = [x] ++ l from rfl,show x :: r = [x] ++ r from rfl,jb7,jb7]
  refine jbh fun s _=>ih fun t u h=>hf _ _ fun y=>?_
  rw [List.mem_append,List.mem_append,h]
 | swap x y l =>
  rw [show y :: x :: l = [y] ++ ([x] ++ l) from rfl,show x :: y :: l = [x] ++ ([y] ++ l) from rfl,jb7,jb7]
  have two:∀ (a:Int) (g:List Int→Wo),sumF (subL [a]) g = pluO (g []) (g [a]):=fun a g=>by
   have e:subL [a] = [[],[a]]:=(jc1 [] a).trans rfl
   rw [e]
   show pluO (g []) (pluO (g [a]) none) = _
   rw [jhz]
  rw [two,two,jb7,jb7,jb7,jb7,two,two,two,two]
  have c1:sumF (subL l) (fun t=>f ([y] ++ ([] ++ t))) = sumF (subL l) (fun t=>f ([] ++ ([y] ++ t))):=rfl
  have c2:sumF (subL l) (fun t=>f ([y] ++ ([x] ++ t))) = sumF (subL l) (fun t=>f ([x] ++ ([y] ++ t))):=jbh fun t _=>hf _ _ fun z=>by
   simp only [List.mem_append,List.mem_singleton]
   constructor <;> rintro (h | h | h) <;> simp [h]
  have c3:sumF (subL l) (fun t=>f ([] ++ ([x] ++ t))) = sumF (subL l) (fun t=>f ([x] ++ ([] ++ t))):=rfl
  rw [c1,c2,c3]
  generalize sumF (subL l) (fun t=>f ([] ++ ([] ++ t))) = A
  generalize sumF (subL l) (fun t=>f ([x] ++ ([] ++ t))) = B
  generalize sumF (subL l) (fun t=>f ([] ++ ([y] ++ t))) = C
  generalize sumF (subL l) (fun t=>f ([x] ++ ([y] ++ t))) = D
  rw [jbi,jbi,← jbi B,← jbi C,ji0 B C]
 | trans _ _ h1 h2=>exact (h1 hf).trans (h2 hf)
end My
namespace My
open PySem L2
abbrev Fn:=Int→Wt
def setW (I:Fn) (u:Int) (a:Wt):Fn:=fun x=>if x = u then a else I x
theorem jcw (I:Fn) (u:Int) (a:Wt):setW I u a u = a:=if_pos rfl
theorem jb3 {I:Fn} {u x:Int} {a:Wt} (h:x ≠ u):setW I u a x = I x:=if_neg h
def jdk (I O:Fn) (s:List Int):List Int→Wt
 | []=>(0,1)
 | v :: r=>mulW (if v ∈ s then I v else O v) (jdk I O s r)
theorem jcr (I O:Fn) (s:List Int) (v:Int):∀ vs:List Int,jdk I O s (vs ++ [v]) = mulW (jdk I O s vs) (if v ∈ s then I v else O v)
 | []=>by
  show mulW _ (0,1) = mulW (0,1) _
  rw [jcs]
 | w :: r=>by
  show mulW _ (jdk I O s (r ++ [v])) = mulW (mulW _ _) _
  rw [jcr I O s v r,jbj]
theorem jbx {I O I' O':Fn} {s s':List Int}:∀ {vs:List Int},(∀ v ∈ vs,(v ∈ s ↔ v ∈ s')∧I v = I' v∧O v = O' v)→jdk I O s vs = jdk I' O' s' vs
 | [],_=>rfl
 | w :: r,h=>by
  obtain ⟨h1,h2,h3⟩:=h w (.head _)
  show mulW _ _ = mulW _ _
  rw [jbx (vs:=r) fun v hv=>h v (.tail _ hv)]
  by_cases c:w ∈ s
  ·rw [if_pos c,if_pos (h1.mp c),h2]
  ·rw [if_neg c,if_neg fun z=>c (h1.mpr z),h3]
theorem jnf {I O:Fn} {s:List Int} {u:Int} {x y:Wt} (hs:u ∈ s):∀ {vs:List Int},vs.Nodup→u ∈ vs→jdk (setW I u (mulW (I u) x)) (setW O u y) s vs = mulW (jdk I O s vs) x
 | w :: r,hn,hu=>by
  rw [List.nodup_cons] at hn
  show mulW _ _ = mulW (mulW _ _) _
  by_cases e:w = u
  ·subst e
   rw [if_pos hs,if_pos hs,jcw,jbx (I':=I) (O':=O) (s':=s) (vs:=r) fun v hv=>⟨Iff.rfl,jb3 (u:=w) (fun z:v = w=>hn.1 (z ▸ hv)),jb3 (u:=w) (fun z:v = w=>hn.1 (z ▸ hv))⟩]
   rw [jbj,jbj,jcs x]
  ·rw [jb3 e,jb3 e,jnf hs hn.2 ((List.mem_cons.mp hu).resolve_left fun z=>e z.symm),jbj]
theorem jkk {I O:Fn} {s:List Int} {u:Int} {x y:Wt} (hs:u ∉ s):∀ {vs:List Int},vs.Nodup→u ∈ vs→jdk (setW I u y) (setW O u (mulW (O u) x)) s vs = mulW (jdk I O s vs) x
 | w :: r,hn,hu=>by
  rw [List.nodup_cons] at hn
  show mulW _ _ = mulW (mulW _ _) _
  by_cases e:w = u
  ·subst e
   rw [if_neg hs,if_neg hs,jcw,jbx (I':=I) (O':=O) (s':=s) (vs:=r) fun v hv=>⟨Iff.rfl,jb3 (u:=w) (fun z:v = w=>hn.1 (z ▸ hv)),jb3 (u:=w) (fun z:v = w=>hn.1 (z ▸ hv))⟩]
   rw [jbj,jbj,jcs x]
  ·rw [jb3 e,jb3 e,jkk hs hn.2 ((List.mem_cons.mp hu).resolve_left fun z=>e z.symm),jbj]
section
variable (par:Int→Option Int) (ch:Int→Bool)
def ok1 (s:List Int) (v:Int):Bool:=decide (v ∈ s) || (!ch v && (match par v with | none=>true | some u=>decide (u ∈ s)))
def allW (I O:Fn) (vs:List Int):Wo:=sumF (subL vs) fun s=>if vs.all (ok1 par ch s) = true then some (jdk I O s vs) else none
def jda (O:Fn) (v:Int):Wo:=if ch v = true then none else some (O v)
def pluX (a:Wt):Wo→Wt
 | none=>a
 | some b=>pluW a b
end
section
variable {par:Int→Option Int} {ch:Int→Bool} {I O:Fn} {vs:List Int} {v u:Int}
theorem jsf {s t:List Int} {w:Int} (h:∀ x,x = w ∨ par w = some x→(x ∈ s ↔ x ∈ t)):ok1 par ch s w = ok1 par ch t w:=by
 unfold ok1
 have e1:decide (w ∈ s) = decide (w ∈ t):=by rw [decide_eq_decide]; exact h w (.inl rfl)
 rw [e1]
 cases q:par w with
 | none=>rfl
 | some x =>
  have e2:decide (x ∈ s) = decide (x ∈ t):=by rw [decide_eq_decide]; exact h x (.inr q)
  dsimp only
  rw [e2]
theorem jiu {s:List Int} (hv:v ∉ vs) (hp:∀ w ∈ vs,∀ x,par w = some x→x ∈ vs):vs.all (ok1 par ch (s ++ [v])) = vs.all (ok1 par ch s):=by
 rw [Bool.eq_iff_iff,List.all_eq_true,List.all_eq_true]
 have e:∀ w ∈ vs,ok1 par ch (s ++ [v]) w = ok1 par ch s w:=fun w hw=>jsf fun x hx=>by
  have hx2:x ∈ vs:=by
   rcases hx with rfl | hx
   ·exact hw
   ·exact hp w hw x hx
  rw [List.mem_append,List.mem_singleton]
  exact ⟨fun z=>z.elim id fun z=>absurd (z ▸ hx2) hv,.inl⟩
 exact ⟨fun h w hw=>(e w hw) ▸ h w hw,fun h w hw=>(e w hw).symm ▸ h w hw⟩
theorem jr8 (s:List Int):ok1 par ch (s ++ [v]) v = true:=by
 unfold ok1
 rw [decide_eq_true (List.mem_append_right _ (.head _))]
 rfl
theorem jmk {s:List Int} (hv:v ∉ vs) (hs:s ∈ subL vs):v ∉ s:=fun z=>hv ((jbr _ s hs).subset z)
theorem jt3 (hv:v ∉ vs) (hnd:vs.Nodup) (hp:∀ w ∈ vs,∀ x,par w = some x→x ∈ vs) (hu:par v = some u) (huv:u ∈ vs) :
  allW par ch I O (vs ++ [v]) = allW par ch (setW I u (mulW (I u) (pluX (I v) (jda ch O v)))) (setW O u (mulW (O u) (I v))) vs:=by
 unfold allW
 rw [jc1,jer,jeq,jgm]
 refine jbh fun s hs=>?_
 have hvs:=jmk hv hs
 have e1:(vs ++ [v]).all (ok1 par ch s) = (vs.all (ok1 par ch s) && (!ch v && decide (u ∈ s))):=by
  rw [List.all_append]
  congr 1
  rw [List.all_cons,List.all_nil,Bool.and_true]
  unfold ok1
  rw [decide_eq_false hvs,hu,Bool.false_or]
 have e2:(vs ++ [v]).all (ok1 par ch (s ++ [v])) = vs.all (ok1 par ch s):=by
  rw [List.all_append,jiu hv hp,List.all_cons,List.all_nil,jr8,Bool.and_true,Bool.and_true]
 rw [e1,e2,jcr,jcr,if_neg hvs,if_pos (List.mem_append_right _ (.head _)),jbx (I:=I) (O:=O) (I':=I) (O':=O) (s:=s ++ [v]) (s':=s) (vs:=vs) fun w hw=>⟨by
  rw [List.mem_append,List.mem_singleton]
  exact ⟨fun z=>z.elim id fun z=>absurd (z ▸ hw) hv,.inl⟩,rfl,rfl⟩]
 cases vs.all (ok1 par ch s) with
 | false=>rfl
 | true =>
  rw [if_pos rfl,if_pos rfl]
  by_cases c:u ∈ s
  ·rw [jnf c hnd huv,decide_eq_true c]
   cases hc:ch v with
   | true =>
    unfold jda
    rw [hc]
    rfl
   | false =>
    unfold jda
    rw [hc]
    show some (pluW _ _) = some (mulW _ (pluW _ _))
    rw [jh6,jdz]
  ·rw [jkk c hnd huv,decide_eq_false c,Bool.and_false,Bool.and_false]
   rfl
theorem jt4 (hv:v ∉ vs) (hp:∀ w ∈ vs,∀ x,par w = some x→x ∈ vs) (hu:par v = none):allW par ch I O (vs ++ [v]) = mulO (pluX (I v) (jda ch O v)) (allW par ch I O vs):=by
 unfold allW
 rw [jc1,jer,jeq,jgm,jpk]
 refine jbh fun s hs=>?_
 have hvs:=jmk hv hs
 have e1:(vs ++ [v]).all (ok1 par ch s) = (vs.all (ok1 par ch s) && !ch v):=by
  rw [List.all_append]
  congr 1
  rw [List.all_cons,List.all_nil,Bool.and_true]
  unfold ok1
  rw [decide_eq_false hvs,hu,Bool.false_or,Bool.and_true]
 have e2:(vs ++ [v]).all (ok1 par ch (s ++ [v])) = vs.all (ok1 par ch s):=by
  rw [List.all_append,jiu hv hp,List.all_cons,List.all_nil,jr8,Bool.and_true,Bool.and_true]
 rw [e1,e2,jcr,jcr,if_neg hvs,if_pos (List.mem_append_right _ (.head _)),jbx (I:=I) (O:=O) (I':=I) (O':=O) (s:=s ++ [v]) (s':=s) (vs:=vs) fun w hw=>⟨by
  rw [List.mem_append,List.mem_singleton]
  exact ⟨fun z=>z.elim id fun z=>absurd (z ▸ hw) hv,.inl⟩,rfl,rfl⟩]
 cases vs.all (ok1 par ch s) with
 | false=>rfl
 | true =>
  rw [if_pos rfl,if_pos rfl]
  show _ = some (mulW _ _)
  rw [jcs (pluX _ _)]
  cases hc:ch v with
  | true =>
   unfold jda
   rw [hc]
   rfl
  | false =>
   unfold jda
   rw [hc]
   show some (pluW _ _) = some (mulW _ (pluW _ _))
   rw [jh6,jdz]
theorem jm2 {I' O':Fn} (h:∀ v ∈ vs,I v = I' v∧O v = O' v):allW par ch I O vs = allW par ch I' O' vs:=by
 unfold allW
 refine jbh fun s _=>?_
 rw [jbx (I':=I') (O':=O') (s':=s) (vs:=vs) fun v hv=>⟨Iff.rfl,h v hv⟩]
end
def runT (par:Int→Option Int) (ch:Int→Bool):List Int→Fn→Fn→Wt→Wt
 | [],_,_,top=>top
 | v :: r,I,O,top=>match par v with
  | none=>runT par ch r I O (pluX (I v) (jda ch O v))
  | some u=>runT par ch r (setW I u (mulW (I u) (pluX (I v) (jda ch O v)))) (setW O u (mulW (O u) (I v))) top
def je8 (par:Int→Option Int):List Int→Prop
 | []=>True
 | v :: r=>(r = []∧par v = none ∨ r ≠ []∧∃ u,par v = some u∧u ∈ r)∧je8 par r
theorem jk4 {par:Int→Option Int} {ch:Int→Bool} {vs:List Int} (hp:∀ w ∈ vs,∀ x,par w = some x→x ∈ vs):∀ (zs:List Int) (I O:Fn) (top:Wt),zs ≠ []→je8 par zs→(vs ++ zs.reverse).Nodup→allW par ch I O (vs ++ zs.reverse) = mulO (runT par ch zs I O top) (allW par ch I O vs)
 | [],_,_,_,h,_,_=>absurd rfl h
 | v :: r,I,O,top,_,ht,hn=>by
  rw [List.reverse_cons,← List.append_assoc] at hn ⊢
  rw [List.nodup_append] at hn
  have hv:v ∉ vs ++ r.reverse:=fun z=>hn.2.2 _ z _ (.head _) rfl
  rcases ht.1 with ⟨rfl,hu⟩ | ⟨hr,u,hu,hur⟩
  ·rw [List.reverse_nil,List.append_nil] at hv ⊢
   rw [jt4 hv hp hu]
   unfold runT
   rw [hu]
   rfl
  ·have hp2:∀ w ∈ vs ++ r.reverse,∀ x,par w = some x→x ∈ vs ++ r.reverse:=fun w hw x hx=>by
    rcases List.mem_append.mp hw with z | z
    ·exact List.mem_append_left _ (hp w z x hx)
    ·refine List.mem_append_right _ ?_
     rw [List.mem_reverse] at z ⊢
     have:∀ (l:List Int),je8 par l→∀ w ∈ l,∀ x,par w = some x→x ∈ l:=fun l=>by
      induction l with
      | nil=>intro _ w hw; cases hw
      | cons y t ih =>
       intro h w hw x hx
       rcases List.mem_cons.mp hw with e | hw
       ·rw [e] at hx
        rcases h.1 with ⟨_,q⟩ | ⟨_,q,q1,q2⟩
        ·rw [q] at hx; cases hx
        ·rw [q1] at hx; cases hx; exact .tail _ q2
       ·exact .tail _ (ih h.2 w hw x hx)
     exact this r ht.2 w z x hx
   rw [jt3 hv hn.1 hp2 hu (List.mem_append_right _ (List.mem_reverse.mpr hur)),jk4 hp r _ _ top hr ht.2 hn.1]
   have hune:∀ w ∈ vs,w ≠ u:=fun w hw z=>by
    rw [List.nodup_append] at hn
    exact hn.1.2.2 _ hw _ (List.mem_reverse.mpr hur) z
   rw [jm2 (I:=setW _ _ _) (O:=setW _ _ _) (I':=I) (O':=O) fun w hw=>⟨jb3 (hune w hw),jb3 (hune w hw)⟩]
   conv=>rhs; unfold runT
   rw [hu]
end My
namespace My
open PySem L2
inductive Rch (ts:List (Int × Int)) (a:Int):Int→Prop
 | refl:Rch ts a a
 | step {m n:Int}:Rch ts a m→n ∈ jar ts m→Rch ts a n
section
variable {ts:List (Int × Int)} {m n a b:Int}
theorem jns (ho:∀ t ∈ ts,t.1 < t.2) (h:n ∈ jar ts m):m ∈ jar ts n:=by
 rw [jbl ho] at h ⊢
 exact h.symm
theorem Rch.trans {c:Int} (h1:Rch ts a b) (h2:Rch ts b c):Rch ts a c:=by
 induction h2 with
 | refl=>exact h1
 | step _ hn ih=>exact .step ih hn
theorem Rch.symm (ho:∀ t ∈ ts,t.1 < t.2) (h:Rch ts a b):Rch ts b a:=by
 induction h with
 | refl=>exact .refl
 | step _ hn ih=>exact (Rch.step .refl (jns ho hn)).trans ih
end
def Ends (ps ts:List (Int × Int)):Prop:=∀ t ∈ ts,t.1 < t.2∧t.1 ∈ ps.map (·.1)∧t.2 ∈ ps.map (·.1)
theorem Ends.near {ps ts:List (Int × Int)} (h:Ends ps ts) {m n:Int} (hn:n ∈ jar ts m):n ∈ ps.map (·.1):=by
 rcases (jbl fun t ht=>(h t ht).1).mp hn with z | z
 ·exact (h _ z).2.2
 ·exact (h _ z).2.1
theorem Rch.pl {ps ts:List (Int × Int)} (h:Ends ps ts) {a b:Int} (ha:a ∈ ps.map (·.1)) (r:Rch ts a b):b ∈ ps.map (·.1):=by
 induction r with
 | refl=>exact ha
 | step _ hn _=>exact h.near hn
theorem jra {ks:List Int} {n:Int} (h:n ∉ ks):putK (mk ks) (Sum.inl n:Key) (.bl true) = mk (ks ++ [n]):=by
 unfold putK
 rw [if_neg]
 ·unfold mk; rw [List.map_append]; rfl
 ·rw [jdh,jnu]
  simpa using h
theorem jku:∀ {more ks:List Int},(∀ n ∈ more,n ∉ ks)→more.Nodup→jcj (mk ks) (mk more) = mk (ks ++ more)
 | [],ks,_,_=>by rw [List.append_nil]; rfl
 | n :: r,ks,h,nd=>by
  rw [List.nodup_cons] at nd
  show jcj (putK (mk ks) (Sum.inl n:Key) (.bl true)) (mk r) = _
  rw [jra (h n (.head _)),jku (fun m hm=>?_) nd.2,List.append_assoc]
  ·rfl
  ·intro z
   rcases List.mem_append.mp z with z | z
   ·exact h m (.tail _ hm) z
   ·rw [List.mem_singleton.mp z] at hm; exact nd.1 hm
section
variable {P:Program} {w:World} {K:PySem.W.Frag} {mg:Str→Option Value} {base:Heap} {c1 c2 c3 c4:Tok}
theorem jd7:∀ {ks L:List Int},ks.Nodup→(∀ n ∈ ks,n ∈ L)→ks.length ≤ L.length
 | [],_,_,_=>Nat.zero_le _
 | k :: r,L,h,hs=>by
  rw [List.nodup_cons] at h
  have hk:=hs k (.head _)
  have ih:=jd7 (ks:=r) (L:=L.erase k) h.2 fun n hn=>(List.mem_erase_of_ne (fun z=>h.1 (by rw [← z]; exact hn))).mpr (hs n (.tail _ hn))
  have e:=List.length_erase_of_mem hk
  have hp:0 < L.length:=List.length_pos_of_mem hk
  rw [List.length_cons]
  omega
theorem Rd.same {H H':Hp} {a:Addr} {u:HO} (h:Rd H a u) (s:Same H H'):Rd H' a u:=by
 rcases h with e | ⟨o,e⟩
 ·exact .inl (s _ _ e)
 ·exact .inr ⟨o,s _ _ e⟩
theorem tFor_hideI {ι:Type} {wi:TI} {g:TG} {tb:TS} {D:L2.Ends} {σ:St} {H:Hp} (J:ι→It) (H1:ι→Hp) (ok:ι→Prop) (h1:∀ R:It→Hp→Prop,(∀ i,ok i→R (J i) (H1 i))→wi σ H R)
  (h2:∀ i0,ok i0→∃ W:Nat→Nat→St→Hp→Prop,(∃ m,W 0 m σ (H1 i0))∧∀ i m σ H,W i m σ H→((J i0).stop i H∧D.nx σ H) ∨ ((J i0).go i H∧∃ N:St→Hp→Prop,(∀ σ' H',N σ' H'→∃ m',m' < m∧W (i + 1) m' σ' H')∧∀ x H',(J i0).yld i H x H'→g x σ H' fun σ2 H2=>tb { D with nx:=N,ct:=N,bk:=D.nx } σ2 H2)) :
  tFor wi g tb D σ H:=h1 _ h2
theorem kz_len {ps:List (Int × Int)} {as:List Addr} (hl:as.length = ps.length):(kz ps as).length = ps.length:=by
 have z:=congrArg List.length (jee (ps:=ps) (as:=as) hl.symm)
 rwa [List.length_map,List.length_map] at z
theorem WebOk.ends {ps ts:List (Int × Int)} (h:WebOk ps ts):Ends ps ts:=fun t ht=>by
 obtain ⟨a,b,c⟩:=h.t.at t ht
 obtain ⟨i,p,hp,e⟩:=jd0 b
 obtain ⟨i2,p2,hp2,e2⟩:=jd0 c
 exact ⟨a,by rw [← e]; exact List.mem_map_of_mem (List.mem_of_getElem? hp),by rw [← e2]; exact List.mem_map_of_mem (List.mem_of_getElem? hp2)⟩
def gk (l:List (Int × V)):List (Key × V):=l.map fun p=>((Sum.inl p.1:Key),p.2)
theorem jop (l:List (Int × V)) (n:Int):(valV (gk l) (Sum.inl n:Key)).isSome = decide (n ∈ l.map (·.1)):=by
 rw [← jdh]
 unfold gk
 rw [Bool.eq_iff_iff,List.any_eq_true,decide_eq_true_iff]
 constructor
 ·rintro ⟨kv,hkv,e⟩
  obtain ⟨q,hq,rfl⟩:=List.mem_map.mp hkv
  have e2:q.1 = n:=Sum.inl.inj (of_decide_eq_true e)
  rw [← e2]
  exact List.mem_map_of_mem hq
 ·intro h
  obtain ⟨q,hq,e⟩:=List.mem_map.mp h
  have e':q.1 = n:=e
  exact ⟨_,List.mem_map_of_mem hq,decide_eq_true (by rw [e'])⟩
theorem jgf:∀ {l:List (Int × V)} {p:Int × V},(l.map (·.1)).Nodup→p ∈ l→valV (gk l) (Sum.inl p.1:Key) = some p.2
 | [],_,_,h=>by cases h
 | q :: r,p,hn,h=>by
  rw [List.map_cons,List.nodup_cons] at hn
  by_cases c:q.1 = p.1
  ·rcases List.mem_cons.mp h with e | h
   ·rw [e]
    exact jce (p:=((Sum.inl q.1:Key),q.2)) rfl
   ·exact absurd (by rw [c]; exact List.mem_map_of_mem h) hn.1
  ·rcases List.mem_cons.mp h with e | h
   ·exact absurd (by rw [e]) c
   ·show valV (((Sum.inl q.1:Key),q.2) :: gk r) _ = _
    rw [jcf (fun z=>c (Sum.inl.inj z))]
    exact jgf hn.2 h
theorem jrc {l:List (Int × V)} {n:Int} {v:V} (h:n ∉ l.map (·.1)):putK (gk l) (Sum.inl n:Key) v = gk (l ++ [(n,v)]):=by
 unfold putK
 rw [if_neg]
 ·unfold gk; rw [List.map_append]; rfl
 ·rw [jdh,jop]
  simpa using h
theorem jl0:∀ {more l:List (Int × V)},(∀ n ∈ more.map (·.1),n ∉ l.map (·.1))→(more.map (·.1)).Nodup→jcj (gk l) (gk more) = gk (l ++ more)
 | [],l,_,_=>by rw [List.append_nil]; rfl
 | p :: r,l,h,nd=>by
  rw [List.map_cons,List.nodup_cons] at nd
  show jcj (putK (gk l) (Sum.inl p.1:Key) p.2) (gk r) = _
  rw [jrc (h p.1 (.head _)),jl0 (fun m hm=>?_) nd.2,List.append_assoc]
  ·rfl
  ·intro z
   rw [List.map_append] at z
   rcases List.mem_append.mp z with z | z
   ·exact h m (by rw [List.map_cons]; exact .tail _ hm) z
   ·have e:m = p.1:=by simpa using z
    rw [e] at hm; exact nd.1 hm
theorem jfk (l:List (Int × V)):(gk l).length = l.length:=by unfold gk; rw [List.length_map]
theorem jsx {l:List (Int × V)} {j:Nat} {kv:Key × V} (h:(gk l)[j]? = some kv):∃ p,l[j]? = some p∧kv.1 = Sum.inl p.1:=by
 unfold gk at h
 rw [List.getElem?_map] at h
 obtain ⟨p,hp,e⟩:=Option.map_eq_some_iff.mp h
 exact ⟨p,hp,by rw [← e]⟩
def Tree (ts:List (Int × Int)) (c:Int) (ab:List (Int × V)):Prop:=∀ (i:Nat) (p:Int × V),ab[i]? = some p→(p.2 = .non∧p.1 = c) ∨ ∃ m,p.2 = .int m∧m ∈ (ab.take i).map (·.1)∧p.1 ∈ jar ts m
structure MetOk (ts:List (Int × Int)) (c:Int) (ab:List (Int × V)):Prop where
 nd:(ab.map (·.1)).Nodup
 all:∀ n,n ∈ ab.map (·.1) ↔ Rch ts c n
 tree:Tree ts c ab
theorem Tree.snoc {ts:List (Int × Int)} {c m n:Int} {ab:List (Int × V)} (h:Tree ts c ab) (hm:m ∈ ab.map (·.1)) (hn:n ∈ jar ts m):Tree ts c (ab ++ [(n,.int m)]):=fun i p hp=>by
 rcases jqd hp with e | ⟨rfl,rfl⟩
 ·have hi:=(List.getElem?_eq_some_iff.mp e).1
  rcases h i p e with z | ⟨k,z1,z2,z3⟩
  ·exact .inl z
  ·refine .inr ⟨k,z1,?_,z3⟩
   rw [List.take_append_of_le_length (by omega)]
   exact z2
 ·refine .inr ⟨m,rfl,?_,hn⟩
  rw [List.take_left']
  ·exact hm
  ·rfl
structure Bf (ps ts:List (Int × Int)) (c:Int) (i:Nat) (x:Option Int) (j:Nat) (ab:List (Int × V)):Prop where
 c_in:c ∈ ab.map (·.1)
 nd:(ab.map (·.1)).Nodup
 sub:∀ n ∈ ab.map (·.1),Rch ts c n
 cl:∀ m ∈ (ab.map (·.1)).take i,∀ n ∈ jar ts m,n ∈ ab.map (·.1)
 xin:∀ m,x = some m→(ab.map (·.1))[i]? = some m∧∀ n ∈ (jar ts m).take j,n ∈ ab.map (·.1)
 tree:Tree ts c ab
 il:i ≤ ab.length
theorem Bf.len {ps ts:List (Int × Int)} {c:Int} {i:Nat} {x:Option Int} {j:Nat} {ab:List (Int × V)} (h:Bf ps ts c i x j ab) (he:Ends ps ts) (hc:c ∈ ps.map (·.1)):ab.length ≤ ps.length:=by
 have z:=jd7 h.nd fun n hn=>(h.sub n hn).pl he hc
 rwa [List.length_map,List.length_map] at z
def js0:Sp:=fun vs H Q _=>∃ nd c ps ts as,vs = [.ref nd,.int c]∧Rd H nd (.dK (kz ps as))∧as.length = ps.length∧jhk H ps ts as∧Ends ps ts∧(ps.map (·.1)).Nodup∧ps.length ≤ 40∧ts.length ≤ 120∧c ∈ ps.map (·.1) ∧
 ∀ d H' ab,H d = none→Same H H'→H' d = some (.dK (gk ab))→MetOk ts c ab→ab.length ≤ 40→Q (.ref d) H'
theorem jjb {f:Addr} {fd:FuncData}  (B:Blt mg) (D:DefAt K mg "met_from" (top 32) ["nears","place"] f fd):FnOk P w K mg base CX0 1 f fd ["nears","place"] js0:=by
 have sc:FnScope ["nears","place","above","line","done","here","there"] ["nears","place"] (jaa (top 32)):=⟨rfl,rfl,rfl,by decide +kernel,rfl,by decide +kernel,by decide +kernel⟩
 refine D.F.ok sc (fun vs H Q E h=>?_) (fun cdv A outer s H vs Q E hr h=>?_)
 ·obtain ⟨nd,c,ps,ts,as,rfl,_⟩:=h
  rfl
 obtain ⟨nd,c,ps,ts,as,rfl,hrd,hla,hne,hen,hnd,hpl,htl,hc,h⟩:=h
 have hu:=jbg hr
 have hu0:_ < PySem.cLine:=Nat.lt_of_succ_lt hu
 refine ⟨_,(ja2 (jag (i:=2) sc.nd rfl (Or.inl rfl) (jsa (jkm (qv 1) jg7 jng) rfl rfl (fun z=>nomatch z) (by decide))) (ja2 (jag (i:=3) sc.nd rfl (Or.inl rfl) (jc9 (ja0 (qv 1) ja3))) (ja2 (jag (i:=4) sc.nd rfl (Or.inl rfl) ja4) (ja2 (jpr PassesOwn.never (jaw q_lt (qv 4) (jab jeb rfl B.len PySem.boot_len (ja0 (qv 3) ja3)) (jap _)) (ja2 (jag (i:=5) sc.nd rfl (Or.inl rfl) (jae q_ix (qv 3) (qv 4) (fun _ _=>rfl))) (ja2 (jbu PassesOwn.never rfl (jbm (jca hu (qv 0) (qv 5) (fun _ _=>rfl))) (jad (i:=6) sc.nd rfl (Or.inl rfl)) (ja6 (jbd (qt_pc (jkj hu (qv 6) (qv 2))) (ja2 (jki hu (qv 2) (qv 6) (qv 5)) (ja6 (jc3 (q_bm PySem.F.plainAttrs_list PySem.F.slot_list_append PySem.F.type_list_append jdi (qv 3) (ja0 (qv 6) ja3))))) jak))) (ja6 (jr0 (i:=4) sc.nd rfl (Or.inl rfl) ja4 jr1))))) (ja6 (jah (qv 2))))))),?_⟩
 walk_at "RD"
 intro md hmd
 walk_at "RD"
 refine ⟨ja1,[((Sum.inl c:Key),V.non)],rfl,(by show 1 ≤ 15; decide),?_⟩
 rw [jiz,show jcj [] [((Sum.inl c:Key),V.non)] = gk [(c,.non)] from rfl]
 intro tl htl1
 have nmt:md ≠ tl:=fun z=>by rw [← z,ja1] at htl1; cases htl1
 have htl0:H tl = none:=by rw [← htl1,ja8 nmt.symm]
 have s0:Same H (upd (upd H md (.dK (gk [(c,.non)]))) tl (.lst [.int c])):=(ja5 hmd _).trans (ja5 htl1 _)
 have em0:upd (upd H md (.dK (gk [(c,.non)]))) tl (.lst [.int c]) md = some (.dK (gk [(c,.non)])):=by rw [ja8 nmt,ja1]
 have et0:upd (upd H md (.dK (gk [(c,.non)]))) tl (.lst [.int c]) tl = some (.lst ((([(c,V.non)]:List (Int × V)).map (·.1)).map V.int)):=ja1
 generalize upd (upd H md (.dK (gk [(c,.non)]))) tl (.lst [.int c]) = H0 at s0 em0 et0
 have t0:Tree ts c [(c,.non)]:=fun i p hp=>by
  have hi:=(List.getElem?_eq_some_iff.mp hp).1
  have e:i = 0:=by simp at hi; omega
  subst e
  cases hp
  exact .inl ⟨rfl,rfl⟩
 have b0:Bf ps ts c 0 none 0 [(c,.non)]:=⟨.head _,by simp,fun n hn=>by rw [List.mem_singleton.mp hn]; exact .refl,(fun m hm=>by rw [List.take_zero] at hm; cases hm),(fun _ z=>nomatch z),t0,Nat.zero_le _⟩
 refine ⟨fun m σ H1=>∃ hh th i ab,σ = [some (.ref nd),some (.int c),some (.ref md),some (.ref tl),some (.int ((i:Nat):Int)),hh,th]∧Same H H1∧H1 md = some (.dK (gk ab))∧H1 tl = some (.lst ((ab.map (·.1)).map V.int))∧Bf ps ts c i none 0 ab∧m = ps.length - i,⟨_,none,none,0,[(c,.non)],rfl,s0,em0,et0,b0,rfl⟩,?_⟩
 rintro m σ H1 ⟨hh,th,i,ab,rfl,s1,em,et,g,rfl⟩
 have hlen:=g.len hen hc
 simp_arith [jam,et,List.length_map]
 by_cases ci:i < ab.length
 ·rw [if_pos (decide_eq_true (by omega))]
  refine ⟨_,fun σ' H' q=>q,?_⟩
  obtain ⟨x,hx⟩:∃ x,(ab.map (·.1))[i]? = some x:=⟨_,List.getElem?_eq_getElem (by rw [List.length_map]; exact ci)⟩
  have hxk:x ∈ ab.map (·.1):=List.mem_of_getElem? hx
  have hxp:x ∈ ps.map (·.1):=(g.sub x hxk).pl hen hc
  rw [show atI ((ab.map (·.1)).map V.int) ((i:Nat):Int) = some (.int x) from jc4 (by rw [List.getElem?_map,hx]; rfl)]
  obtain ⟨p,hp,epx⟩:=List.mem_map.mp hxp
  obtain ⟨k,hk,epk⟩:=List.mem_iff_getElem.mp hp
  have xi:ps[k]? = some p:=by rw [List.getElem?_eq_getElem hk,epk]
  have ai:as[k]? = some (as[k]'(by omega)):=List.getElem?_eq_getElem _
  generalize as[k]'(by omega) = ax at ai
  have eax:=hne k p ax xi ai
  rw [epx] at eax
  have vax:=jgc hnd xi ai
  rw [epx] at vax
  have g2:Bf ps ts c i (some x) 0 ab:=⟨g.c_in,g.nd,g.sub,g.cl,fun m hm=>by cases hm; exact ⟨hx,fun n hn=>by rw [List.take_zero] at hn; cases hn⟩,g.tree,g.il⟩
  clear g
  dsimp only
  refine jco (Itl K ax) H1 (fun R hR=>?_) (jd2 (K:=K) (a:=ax) (xs:=(jar ts x).map V.int) (fun j σ H3=>∃ th ab1,σ = [some (.ref nd),some (.int c),some (.ref md),some (.ref tl),some (.int ((i:Nat):Int)),some (.int x),th]∧Same H H3∧H3 md = some (.dK (gk ab1))∧H3 tl = some (.lst ((ab1.map (·.1)).map V.int))∧Bf ps ts c i (some x) j ab1) ⟨_,ab,rfl,s1,em,et,g2⟩ (fun j σ H3 _ ⟨_,_,_,s3,_⟩=>SqL.of (s3 _ _ eax)) ?_ ?_)
  ·unfold jdm
   walk_at "RD"
   exact ⟨nd,_,rfl,.inl ⟨_,Sum.inl x,My.Rd.same hrd s1,rfl,vax.symm⟩,ax,rfl,⟨_,SqL.of (s1 _ _ eax)⟩,hR⟩
  ·rintro j y σ H3 hj ⟨th1,ab1,rfl,s3,em3,et3,g3⟩
   rw [List.getElem?_map] at hj
   obtain ⟨n,hn,rfl⟩:=Option.map_eq_some_iff.mp hj
   have hnn:n ∈ jar ts x:=List.mem_of_getElem? hn
   have htk:∀ q ∈ (jar ts x).take (j + 1),q ∈ (jar ts x).take j ∨ q = n:=fun q hq=>by
    rw [jal hn] at hq
    rcases List.mem_append.mp hq with z | z
    ·exact .inl z
    ·exact .inr (List.mem_singleton.mp z)
   have hx3:=(g3.xin x rfl).1
   have hxk3:x ∈ ab1.map (·.1):=List.mem_of_getElem? hx3
   simp_arith [em3,jop]
   by_cases cn:n ∈ ab1.map (·.1)
   ·rw [decide_eq_true cn]
    walk_at "RD"
    exact ⟨_,ab1,rfl,s3,(by first | exact em3 | rfl),et3,⟨g3.c_in,g3.nd,g3.sub,g3.cl,fun m hm=>⟨(g3.xin m hm).1,fun q hq=>by
     cases hm
     rcases htk q hq with z | z
     ·exact (g3.xin _ rfl).2 q z
     ·rw [z]; exact cn⟩,g3.tree,g3.il⟩⟩
   ·rw [decide_eq_false cn]
    have em1:(ab1 ++ [(n,V.int x)]).map (·.1) = ab1.map (·.1) ++ [n]:=by rw [List.map_append]; rfl
    have g4:Bf ps ts c i (some x) (j + 1) (ab1 ++ [(n,V.int x)]):=by
     refine ⟨?_,?_,fun q hq=>?_,fun q hq z hz=>?_,fun q hq=>⟨?_,fun z hz=>?_⟩,g3.tree.snoc hxk3 hnn,?_⟩
     ·rw [em1]; exact List.mem_append_left _ g3.c_in
     ·rw [em1,List.nodup_append]
      exact ⟨g3.nd,by simp,fun a ha b hb=>fun z=>cn (by rw [List.mem_singleton.mp hb] at z; rw [← z]; exact ha)⟩
     ·rw [em1] at hq
      rcases List.mem_append.mp hq with z | z
      ·exact g3.sub q z
      ·rw [List.mem_singleton.mp z]; exact .step (g3.sub x hxk3) hnn
     ·rw [em1,List.take_append_of_le_length (by rw [List.length_map]; exact g3.il)] at hq
      rw [em1]
      exact List.mem_append_left _ (g3.cl q hq z hz)
     ·cases hq
      rw [em1,List.getElem?_append_left (List.getElem?_eq_some_iff.mp hx3).1]
      exact hx3
     ·cases hq
      rw [em1]
      rcases htk z hz with w1 | w1
      ·exact List.mem_append_left _ ((g3.xin _ rfl).2 z w1)
      ·exact List.mem_append_right _ (by rw [w1]; exact List.mem_singleton.mpr rfl)
     ·have:=g3.il
      rw [List.length_append]
      omega
    have hl4:=g4.len hen hc
    rw [List.length_append] at hl4
    have hl4':ab1.length + 1 ≤ ps.length:=hl4
    simp_arith [em3]
    refine ⟨by rw [jfk]; exact szl' (by omega),?_⟩
    rw [jrc cn]
    have et4:upd H3 md (.dK (gk (ab1 ++ [(n,.int x)]))) tl = some (.lst ((ab1.map (·.1)).map V.int)):=by rw [ja8 nmt.symm]; exact et3
    refine ⟨⟨tl,_,rfl,et4⟩,?_⟩
    rw [et4]
    refine ⟨by rw [List.length_map,List.length_map]; exact szl' (by omega),_,ab1 ++ [(n,.int x)],rfl,jas (jas s3 hmd) htl0,?_,?_,g4⟩
    ·rw [ja8 nmt,ja1]
    ·rw [ja1,em1,List.map_append]; rfl
  ·rintro σ H3 ⟨th1,ab1,rfl,s3,em3,et3,g3⟩
   have hx3:=(g3.xin x rfl).1
   have hil:i < ab1.length:=by
    have:=(List.getElem?_eq_some_iff.mp hx3).1
    rwa [List.length_map] at this
   walk_at "RD"
   refine ⟨ps.length - (i + 1),by omega,_,_,i + 1,ab1,rfl,s3,em3,et3,⟨g3.c_in,g3.nd,g3.sub,fun m hm n hn=>?_,(fun _ z=>nomatch z),g3.tree,hil⟩,rfl⟩
   rw [jal hx3] at hm
   rcases List.mem_append.mp hm with z | z
   ·exact g3.cl m z n hn
   ·rw [List.mem_singleton.mp z] at hn
    refine (g3.xin x rfl).2 n ?_
    rw [List.length_map,List.take_length]
    exact hn
 ·rw [if_neg (by simp; omega)]
  walk_at "RD"
  have hil:=g.il
  have ei:i = ab.length:=by omega
  refine h md H1 ab hmd s1 em ⟨g.nd,fun n=>⟨g.sub n,fun r=>?_⟩,g.tree⟩ (by omega)
  induction r with
  | refl=>exact g.c_in
  | step _ hn ih=>exact g.cl _ (by rw [ei,← List.length_map (f:=fun (x:Int × V)=>x.1),List.take_length]; exact ih) _ hn
end
end My
namespace My
open PySem L2
theorem jff {α:Type}:∀ {l:List α} {i j:Nat} {x:α},l.Nodup→l[i]? = some x→l[j]? = some x→i = j
 | [],i,_,_,_,h,_=>by simp at h
 | a :: r,0,0,_,_,_,_=>rfl
 | a :: r,0,j + 1,x,hn,h1,h2=>by
  simp at h1 h2
  subst h1
  exact absurd (List.mem_of_getElem? h2) (List.nodup_cons.mp hn).1
 | a :: r,i + 1,0,x,hn,h1,h2=>by
  simp at h1 h2
  subst h2
  exact absurd (List.mem_of_getElem? h1) (List.nodup_cons.mp hn).1
 | a :: r,i + 1,j + 1,x,hn,h1,h2=>by
  simp at h1 h2
  rw [jff (List.nodup_cons.mp hn).2 h1 h2]
structure Gro (ts:List (Int × Int)):Prop where
 lt:∀ t ∈ ts,t.1 < t.2
 nd:ts.Nodup
 one:∀ t ∈ ts,∀ t' ∈ ts,t.2 = t'.2→t = t'
theorem jfd {α:Type} [DecidableEq α]:∀ {a b:List α},a.Nodup→(∀ x ∈ a,x ∈ b)→a.length ≤ b.length
 | [],_,_,_=>Nat.zero_le _
 | x :: r,b,hn,h=>by
  rw [List.nodup_cons] at hn
  have hx:=h x (.head _)
  have:=jfd (a:=r) (b:=b.erase x) hn.2 fun y hy=>by
   exact (List.mem_erase_of_ne (fun z:y = x=>hn.1 (z ▸ hy))).mpr (h y (.tail _ hy))
  rw [List.length_erase_of_mem hx] at this
  have hp:0 < b.length:=List.length_pos_of_mem hx
  rw [List.length_cons]
  omega
theorem jlm {α:Type} [DecidableEq α] {a b:List α} (hn:a.Nodup) (hs:∀ x ∈ a,x ∈ b) (hl:b.length ≤ a.length):∀ x ∈ b,x ∈ a:=fun x hx=>by
 by_cases c:x ∈ a
 ·exact c
 ·have h1:(x :: a).Nodup:=List.nodup_cons.mpr ⟨c,hn⟩
  have h2:=jfd h1 (b:=b) fun y hy=>by
   rcases List.mem_cons.mp hy with e | hy
   ·rw [e]; exact hx
   ·exact hs y hy
  rw [List.length_cons] at h2
  omega
def srt2 (a b:Int):Int × Int:=if a < b then (a,b) else (b,a)
def parV (al:List (Int × V)) (n:Int):Option Int:=match al.find? (fun p=>decide (p.1 = n)) with
 | some (_,.int m)=>some m
 | _=>none
theorem jjt:∀ {al:List (Int × V)} {p:Int × V},(al.map (·.1)).Nodup→p ∈ al→al.find? (fun q=>decide (q.1 = p.1)) = some p
 | q :: r,p,hn,h=>by
  rw [List.map_cons,List.nodup_cons] at hn
  rw [List.find?_cons]
  rcases List.mem_cons.mp h with e | h
  ·rw [e,decide_eq_true rfl]
  ·rw [decide_eq_false (fun z:q.1 = p.1=>hn.1 (z ▸ List.mem_map_of_mem h))]
   exact jjt hn.2 h
theorem jew {al:List (Int × V)} {n m:Int} (hn:(al.map (·.1)).Nodup) (h:(n,V.int m) ∈ al):parV al n = some m:=by
 unfold parV
 rw [jjt (p:=(n,V.int m)) hn h]
theorem jkq {al:List (Int × V)} {n:Int} (hn:(al.map (·.1)).Nodup) (h:(n,V.non) ∈ al):parV al n = none:=by
 unfold parV
 rw [jjt (p:=(n,V.non)) hn h]
theorem jib:∀ (l:List Int),l ≠ []→∃ m ∈ l,∀ x ∈ l,m ≤ x
 | [],h=>absurd rfl h
 | [a],_=>⟨a,.head _,fun x hx=>by rw [List.mem_singleton.mp hx]; exact Int.le_refl _⟩
 | a :: b :: r,_=>by
  obtain ⟨m,hm,h⟩:=jib (b :: r) (by simp)
  by_cases c:a ≤ m
  ·refine ⟨a,.head _,fun x hx=>?_⟩
   rcases List.mem_cons.mp hx with e | hx
   ·rw [e]; exact Int.le_refl _
   ·have:=h x hx; omega
  ·refine ⟨m,.tail _ hm,fun x hx=>?_⟩
   rcases List.mem_cons.mp hx with e | hx
   ·rw [e]; omega
   ·exact h x hx
theorem jkz {ts:List (Int × Int)} {c:Int} {ab:List (Int × V)} (g:Gro ts) (h:MetOk ts c ab):∀ t ∈ ts,t.1 ∈ ab.map (·.1)→(t.1,V.int t.2) ∈ ab ∨ (t.2,V.int t.1) ∈ ab:=by
 have hcl:∀ m n,m ∈ ab.map (·.1)→n ∈ jar ts m→n ∈ ab.map (·.1):=fun m n hm hn=>(h.all n).mpr (((h.all m).mp hm).trans (.step (.refl) hn))
 have hc:c ∈ ab.map (·.1):=(h.all c).mpr .refl
 let E:=ts.filter fun t=>decide (t.1 ∈ ab.map (·.1))
 have hE:∀ t ∈ E,t ∈ ts∧t.1 ∈ ab.map (·.1)∧t.2 ∈ ab.map (·.1):=fun t ht=>by
  obtain ⟨h1,h2⟩:=List.mem_filter.mp ht
  have h2:=of_decide_eq_true h2
  exact ⟨h1,h2,hcl _ _ h2 ((jbl g.lt).mpr (.inl h1))⟩
 have hEn:E.Nodup:=g.nd.filter _
 obtain ⟨m,hm,hmin⟩:=jib (ab.map (·.1)) (List.ne_nil_of_mem hc)
 have hE2:(E.map (·.2)).Nodup:=by
  refine List.pairwise_map.mpr (List.Pairwise.imp_of_mem ?_ hEn)
  intro a b ha hb n z
  exact n (g.one a (hE a ha).1 b (hE b hb).1 z)
 have hlen:E.length + 1 ≤ ab.length:=by
  have:(m :: E.map (·.2)).Nodup:=List.nodup_cons.mpr ⟨fun z=>by
   obtain ⟨t,ht,e⟩:=List.mem_map.mp z
   have h1:=g.lt t (hE t ht).1
   have h2:=hmin t.1 (hE t ht).2.1
   have e:t.2 = m:=e
   omega,hE2⟩
  have:=jfd this (b:=ab.map (·.1)) fun y hy=>by
   rcases List.mem_cons.mp hy with e | hy
   ·rw [e]; exact hm
   ·obtain ⟨t,ht,e⟩:=List.mem_map.mp hy
    rw [← e]
    exact (hE t ht).2.2
  rw [List.length_cons,List.length_map,List.length_map] at this
  exact this
 let pt:Int × V→Int × Int:=fun p=>match p.2 with
  | .int k=>srt2 p.1 k
  | _=>(p.1,p.1)
 have hPT:∀ (i:Nat) (p:Int × V),ab[i + 1]? = some p→∃ k,p.2 = .int k∧k ∈ (ab.take (i + 1)).map (·.1)∧p.1 ∈ jar ts k:=fun i p hp=>by
  rcases h.tree (i + 1) p hp with ⟨_,e⟩ | q
  ·exfalso
   have h0:∃ q,ab[0]? = some q:=by
    cases ab with
    | nil=>simp at hp
    | cons q r=>exact ⟨q,rfl⟩
   obtain ⟨q,hq⟩:=h0
   have hq1:q.1 = c:=by
    rcases h.tree 0 q hq with ⟨_,e⟩ | ⟨k,_,e,_⟩
    ·exact e
    ·simp at e
   have g1:(ab.map (·.1))[i + 1]? = some c:=by rw [List.getElem?_map,hp]; show some p.1 = _; rw [e]
   have g2:(ab.map (·.1))[0]? = some c:=by rw [List.getElem?_map,hq]; show some q.1 = _; rw [hq1]
   have:=jff h.nd g1 g2
   omega
  ·exact q
 have hmem:∀ p ∈ ab.tail,∃ (i:Nat) (k:Int),ab[i + 1]? = some p∧p.2 = .int k∧k ∈ (ab.take (i + 1)).map (·.1)∧p.1 ∈ jar ts k:=fun p hp=>by
  obtain ⟨i,hi⟩:=List.getElem?_of_mem hp
  rw [List.getElem?_tail] at hi
  obtain ⟨k,q⟩:=hPT i p hi
  exact ⟨i,k,hi,q⟩
 have hsub:∀ x ∈ ab.tail.map pt,x ∈ E:=fun x hx=>by
  obtain ⟨p,hp,rfl⟩:=List.mem_map.mp hx
  obtain ⟨i,k,hi,e,hk,hn⟩:=hmem p hp
  have hk2:k ∈ ab.map (·.1):=by
   obtain ⟨q,hq,e⟩:=List.mem_map.mp hk
   rw [← e]
   exact List.mem_map_of_mem (List.mem_of_mem_take hq)
  have hp2:p.1 ∈ ab.map (·.1):=List.mem_map_of_mem (List.mem_of_getElem? hi)
  have ht:srt2 p.1 k ∈ ts:=by
   rcases (jbl g.lt).mp hn with z | z
   ·have:=g.lt _ z
    unfold srt2
    rw [if_neg (by dsimp only at this; omega)]
    exact z
   ·have:=g.lt _ z
    unfold srt2
    rw [if_pos (by dsimp only at this; omega)]
    exact z
  refine List.mem_filter.mpr ⟨?_,decide_eq_true ?_⟩
  ·show pt p ∈ ts
   have:pt p = srt2 p.1 k:=by show (match p.2 with | .int k=>srt2 p.1 k | _=>(p.1,p.1)) = _; rw [e]
   rw [this]; exact ht
  ·have:pt p = srt2 p.1 k:=by show (match p.2 with | .int k=>srt2 p.1 k | _=>(p.1,p.1)) = _; rw [e]
   rw [this]
   unfold srt2
   split
   ·exact hp2
   ·exact hk2
 have hnd:(ab.tail.map pt).Nodup:=by
  have key:∀ (i j:Nat) (p q:Int × V),i < j→ab[i + 1]? = some p→ab[j + 1]? = some q→pt p ≠ pt q:=fun i j p q hij hp hq z=>by
   obtain ⟨k,e,hk,_⟩:=hPT i p hp
   obtain ⟨l,e',hl,hnl⟩:=hPT j q hq
   have p1:pt p = srt2 p.1 k:=by show (match p.2 with | .int k=>srt2 p.1 k | _=>(p.1,p.1)) = _; rw [e]
   have p2:pt q = srt2 q.1 l:=by show (match q.2 with | .int k=>srt2 q.1 k | _=>(q.1,q.1)) = _; rw [e']
   rw [p1,p2] at z
   have hq1:q.1 = p.1 ∨ q.1 = k:=by
    unfold srt2 at z
    split at z <;> split at z <;> (injection z with z1 z2; omega)
   have gq:(ab.map (·.1))[j + 1]? = some q.1:=by rw [List.getElem?_map,hq]; rfl
   rcases hq1 with z | z
   ·have gp:(ab.map (·.1))[i + 1]? = some q.1:=by rw [List.getElem?_map,hp,z]; rfl
    have:=jff h.nd gq gp
    omega
   ·rw [← z,List.map_take] at hk
    obtain ⟨a,ha⟩:=List.getElem?_of_mem hk
    rw [List.getElem?_take] at ha
    split at ha
    ·have:=jff h.nd gq ha
     omega
    ·cases ha
  rw [List.nodup_iff_pairwise_ne,List.pairwise_iff_getElem]
  intro i j hi hj hij
  rw [List.getElem_map,List.getElem_map]
  refine key i j _ _ hij ?_ ?_
  ·rw [← List.getElem?_tail]; exact List.getElem?_eq_getElem _
  ·rw [← List.getElem?_tail]; exact List.getElem?_eq_getElem _
 have hfill:=jlm hnd hsub (by rw [List.length_map,List.length_tail]; omega)
 intro t ht hta
 have htE:t ∈ E:=List.mem_filter.mpr ⟨ht,decide_eq_true hta⟩
 obtain ⟨p,hp,e⟩:=List.mem_map.mp (hfill t htE)
 obtain ⟨i,k,hi,e2,_⟩:=hmem p hp
 have p1:pt p = srt2 p.1 k:=by show (match p.2 with | .int k=>srt2 p.1 k | _=>(p.1,p.1)) = _; rw [e2]
 rw [p1] at e
 have hpm:(p.1,V.int k) ∈ ab:=by rw [← e2]; exact List.mem_of_getElem? hi
 unfold srt2 at e
 split at e
 ·rw [← e]; exact .inl hpm
 ·rw [← e]; exact .inr hpm
end My
namespace My
open PySem L2
theorem PlOk.pos:∀ {ps:List (Int × Int)} {l s:Int},PlOk l s ps→∀ p ∈ ps,1 ≤ p.2
 | [],_,_,_,_,h=>by cases h
 | q :: r,l,s,h,p,hp=>by
  rcases List.mem_cons.mp hp with e | hp
  ·rw [e]; exact h.1.2.2.1
  ·exact PlOk.pos h.2 p hp
theorem jpi {ps ts:List (Int × Int)} (wok:WebOk ps ts):(subL (ps.map (·.1))).filter (touB ts) ≠ []:=by
 refine List.ne_nil_of_mem (a:=ps.map (·.1)) ?_
 rw [List.mem_filter]
 refine ⟨jet _,?_⟩
 unfold touB
 rw [List.all_eq_true]
 intro t h
 rw [decide_eq_true (je9 wok t h).2.1]
 rfl
theorem jc2 {ps ts:List (Int × Int)} (wok:WebOk ps ts):Lst ps ((subL (ps.map (·.1))).filter (touB ts)) (jac ps ts):=jd9 ps (jpi wok)
def priO (ps:List (Int × Int)) (v:Int):Int:=((ps.find? fun p=>decide (p.1 = v)).map (·.2)).getD 0
def I0 (ps:List (Int × Int)):Fn:=fun v=>(priO ps v,1)
def O0:Fn:=fun _=>(0,1)
theorem jgv:∀ {ps:List (Int × Int)} {p:Int × Int},(ps.map (·.1)).Nodup→p ∈ ps→priO ps p.1 = p.2
 | q :: r,p,hn,h=>by
  rw [List.map_cons,List.nodup_cons] at hn
  unfold priO
  rw [List.find?_cons]
  rcases List.mem_cons.mp h with e | h
  ·rw [e,decide_eq_true rfl]; rfl
  ·rw [decide_eq_false (fun z:q.1 = p.1=>hn.1 (z ▸ List.mem_map_of_mem h))]
   exact jgv hn.2 h
theorem jkl {qs:List (Int × Int)} {s:List Int}:∀ {ps:List (Int × Int)},(∀ p ∈ ps,priO qs p.1 = p.2)→jdk (I0 qs) O0 s (ps.map (·.1)) = (cst ps s,1)
 | [],_=>rfl
 | p :: r,h=>by
  rw [List.map_cons]
  show mulW (if p.1 ∈ s then I0 qs p.1 else O0 p.1) (jdk (I0 qs) O0 s (r.map (·.1))) = _
  rw [jkl fun q hq=>h q (.tail _ hq)]
  show _ = ((if p.1 ∈ s then p.2 else 0) + cst r s,1)
  by_cases c:p.1 ∈ s
  ·rw [if_pos c,if_pos c]
   show (priO qs p.1 + _,(1:Int) * 1) = _
   rw [h p (.head _)]
   rfl
  ·rw [if_neg c,if_neg c]
   rfl
theorem jlj {I O:Fn} {s:List Int} {vs ws:List Int} (p:vs.Perm ws):jdk I O s vs = jdk I O s ws:=by
 induction p with
 | nil=>rfl
 | cons x _ ih=>show mulW _ _ = mulW _ _; rw [ih]
 | swap x y l=>show mulW _ (mulW _ _) = mulW _ (mulW _ _); rw [← jbj,← jbj,jcs (if y ∈ s then I y else O y)]
 | trans _ _ h1 h2=>exact h1.trans h2
def piL (a:Lv):Wt:=(a.1,a.2.1)
theorem pi_jn (a b:Lv):piL (jcz a b) = pluW (piL a) (piL b):=by
 unfold jcz pluW piL
 dsimp only
 by_cases c:a.1 = b.1
 ·rw [if_neg (fun z=>z c),if_pos c]
 ·rw [if_pos c,if_neg c]
  split <;> rfl
theorem jmj (qs:List (Int × Int)):∀ {F:List (List Int)},F ≠ []→sumF F (fun s=>some (cst qs s,1)) = some (piL (lstF qs F))
 | [],h=>absurd rfl h
 | [s],_=>rfl
 | s :: t :: F,_=>by
  rw [jb2,jmj qs (F:=t :: F) (by simp)]
  show some (pluW _ _) = some (piL (jcz _ _))
  rw [pi_jn]
  rfl
theorem jg2 {α:Type} {p:α→Bool} {f:α→Wo}:∀ {l:List α},sumF l (fun x=>if p x = true then f x else none) = sumF (l.filter p) f
 | []=>rfl
 | x :: l=>by
  rw [jb2,List.filter_cons,jg2 (l:=l)]
  cases p x with
  | true=>rfl
  | false=>rfl
def famC (ps ts:List (Int × Int)) (ch:Int→Bool):List (List Int):=(subL (ps.map (·.1))).filter fun s=>touB ts s && (ps.map (·.1)).all fun v=>!ch v || decide (v ∈ s)
structure Trs (ps ts:List (Int × Int)) (T:List (List (Int × V))):Prop where
 nd:((T.flatten).map (·.1)).Nodup
 pm:((T.flatten).map (·.1)).Perm (ps.map (·.1))
 tr:∀ ab ∈ T,ab ≠ []∧je8 (parV T.flatten) ((ab.map (·.1)).reverse)
 tie:∀ t ∈ ts,parV T.flatten t.1 = some t.2 ∨ parV T.flatten t.2 = some t.1
 par:∀ v u,parV T.flatten v = some u→(v,u) ∈ ts ∨ (u,v) ∈ ts
def jn4 (par:Int→Option Int) (ch:Int→Bool) (I O:Fn) (top:Wt) (T:List (List Int)) (a:Wt):Wt:=T.foldl (fun a ws=>mulW a (runT par ch ws.reverse I O top)) a
theorem jhs {par:Int→Option Int} {ch:Int→Bool} {I O:Fn} {top:Wt}:∀ (T:List (List Int)) (vs:List Int) (a:Wt),(∀ w ∈ vs,∀ x,par w = some x→x ∈ vs)→(vs ++ T.flatten).Nodup→(∀ ws ∈ T,ws ≠ []∧je8 par ws.reverse)→allW par ch I O vs = some a→allW par ch I O (vs ++ T.flatten) = some (jn4 par ch I O top T a)
 | [],vs,a,_,_,_,h=>by rw [List.flatten_nil,List.append_nil]; exact h
 | ws :: T,vs,a,hp,hn,ht,h=>by
  rw [List.flatten_cons,← List.append_assoc] at hn ⊢
  have hn1:(vs ++ ws).Nodup:=(List.nodup_append.mp hn).1
  obtain ⟨h1,h2⟩:=ht ws (.head _)
  have hcl:∀ (l:List Int),je8 par l→∀ w ∈ l,∀ x,par w = some x→x ∈ l:=fun l=>by
   induction l with
   | nil=>intro _ w hw; cases hw
   | cons y t ih =>
    intro h w hw x hx
    rcases List.mem_cons.mp hw with e | hw
    ·rw [e] at hx
     rcases h.1 with ⟨_,q⟩ | ⟨_,q,q1,q2⟩
     ·rw [q] at hx; cases hx
     ·rw [q1] at hx; cases hx; exact .tail _ q2
    ·exact .tail _ (ih h.2 w hw x hx)
  have hr:=jk4 (par:=par) (ch:=ch) (vs:=vs) hp ws.reverse I O top (by simpa using h1) h2 (by rw [List.reverse_reverse]; exact hn1)
  rw [List.reverse_reverse,h] at hr
  refine jhs T (vs ++ ws) _ (fun w hw x hx=>?_) hn (fun q hq=>ht q (.tail _ hq)) (hr.trans ?_)
  ·rcases List.mem_append.mp hw with z | z
   ·exact List.mem_append_left _ (hp w z x hx)
   ·exact List.mem_append_right _ (List.mem_reverse.mp (hcl _ h2 w (List.mem_reverse.mpr z) x hx))
  ·show some (mulW _ a) = some (mulW a _)
   rw [jcs]
theorem Trs.ok {ps ts:List (Int × Int)} {T:List (List (Int × V))} (h:Trs ps ts T) (he:Ends ps ts) (ch:Int→Bool) (s:List Int):((T.flatten).map (·.1)).all (ok1 (parV T.flatten) ch s) = (touB ts s && (ps.map (·.1)).all fun v=>!ch v || decide (v ∈ s)):=by
 rw [Bool.eq_iff_iff,Bool.and_eq_true,List.all_eq_true,List.all_eq_true]
 unfold touB
 rw [List.all_eq_true]
 have mem:∀ v,v ∈ (T.flatten).map (·.1) ↔ v ∈ ps.map (·.1):=fun v=>h.pm.mem_iff
 constructor
 ·intro q
  refine ⟨fun t ht=>?_,fun v hv=>?_⟩
  ·obtain ⟨_,m1,m2⟩:=he t ht
   rw [Bool.or_eq_true,decide_eq_true_eq,decide_eq_true_eq]
   rcases h.tie t ht with z | z
   ·have:=q t.1 ((mem _).mpr m1)
    unfold ok1 at this
    rw [z] at this
    simp only [Bool.or_eq_true,Bool.and_eq_true,decide_eq_true_eq] at this
    exact this.elim .inl fun w=>.inr w.2
   ·have:=q t.2 ((mem _).mpr m2)
    unfold ok1 at this
    rw [z] at this
    simp only [Bool.or_eq_true,Bool.and_eq_true,decide_eq_true_eq] at this
    exact this.elim .inr fun w=>.inl w.2
  ·have:=q v ((mem v).mpr hv)
   unfold ok1 at this
   simp only [Bool.or_eq_true,Bool.and_eq_true,decide_eq_true_eq] at this ⊢
   exact this.elim .inr fun w=>.inl w.1
 ·rintro ⟨q1,q2⟩ v hv
  unfold ok1
  simp only [Bool.or_eq_true,Bool.and_eq_true,decide_eq_true_eq]
  by_cases c:v ∈ s
  ·exact .inl c
  ·refine .inr ⟨?_,?_⟩
   ·have:=q2 v ((mem v).mp hv)
    simp only [Bool.or_eq_true,decide_eq_true_eq] at this
    exact this.resolve_right c
   ·cases e:parV T.flatten v with
    | none=>rfl
    | some u =>
     dsimp only
     refine decide_eq_true ?_
     rcases h.par v u e with z | z
     ·have:=q1 _ z
      simp only [Bool.or_eq_true,decide_eq_true_eq] at this
      exact this.resolve_left c
     ·have:=q1 _ z
      simp only [Bool.or_eq_true,decide_eq_true_eq] at this
      exact this.resolve_right c
theorem jre {ps ts:List (Int × Int)} (wok:WebOk ps ts) (ch:Int→Bool):famC ps ts ch ≠ []:=by
 refine List.ne_nil_of_mem (a:=ps.map (·.1)) ?_
 unfold famC
 rw [List.mem_filter,Bool.and_eq_true]
 refine ⟨jet _,?_,?_⟩
 ·unfold touB
  rw [List.all_eq_true]
  intro t h
  rw [decide_eq_true (je9 wok t h).2.1]
  rfl
 ·rw [List.all_eq_true]
  intro v hv
  rw [decide_eq_true hv,Bool.or_true]
theorem jjz {ps ts:List (Int × Int)} {T:List (List (Int × V))} (wok:WebOk ps ts) (he:Ends ps ts) (h:Trs ps ts T) (ch:Int→Bool) (top:Wt) :
  jn4 (parV T.flatten) ch (I0 ps) O0 top (T.map fun ab=>ab.map (·.1)) (0,1) = piL (lstF ps (famC ps ts ch)):=by
 have hnd:=wok.p.nodup
 have efl:(T.map fun ab=>ab.map (·.1)).flatten = (T.flatten).map (·.1):=by rw [List.map_flatten]
 have h1:=jhs (par:=parV T.flatten) (ch:=ch) (I:=I0 ps) (O:=O0) (top:=top) (T.map fun ab=>ab.map (·.1)) [] (0,1) (fun w hw=>by cases hw) (by rw [List.nil_append,efl]; exact h.nd) (fun ws hws=>by
  obtain ⟨ab,hab,rfl⟩:=List.mem_map.mp hws
  obtain ⟨a,b⟩:=h.tr ab hab
  exact ⟨by simpa using a,b⟩) rfl
 rw [List.nil_append,efl] at h1
 have h2:allW (parV T.flatten) ch (I0 ps) O0 ((T.flatten).map (·.1)) = some (piL (lstF ps (famC ps ts ch))):=by
  unfold allW
  have e1:sumF (subL ((T.flatten).map (·.1))) (fun s=>if ((T.flatten).map (·.1)).all (ok1 (parV T.flatten) ch s) = true then some (jdk (I0 ps) O0 s ((T.flatten).map (·.1))) else none) = sumF (subL ((T.flatten).map (·.1))) (fun s=>if (touB ts s && (ps.map (·.1)).all fun v=>!ch v || decide (v ∈ s)) = true then some (cst ps s,1) else none):=jbh fun s _=>by
   rw [h.ok he,jlj h.pm,jkl fun p hp=>jgv hnd hp]
  rw [e1,jml (fun s t hst=>?_) h.pm,jg2 (f:=fun s=>some (cst ps s,1))]
  ·exact jmj ps (jre wok ch)
  ·have a1:touB ts s = touB ts t:=by
    unfold touB
    rw [Bool.eq_iff_iff,List.all_eq_true,List.all_eq_true]
    simp only [Bool.or_eq_true,decide_eq_true_eq,hst]
   have a2:((ps.map (·.1)).all fun v=>!ch v || decide (v ∈ s)) = (ps.map (·.1)).all fun v=>!ch v || decide (v ∈ t):=by
    rw [Bool.eq_iff_iff,List.all_eq_true,List.all_eq_true]
    simp only [Bool.or_eq_true,decide_eq_true_eq,hst]
   rw [a1,a2,jfp (qs:=ps) fun q _=>hst q.1]
 exact Option.some.inj (h1.symm.trans h2)
theorem jh9:∀ {ns s t:List Int} {p:Int},ns.Pairwise (· < ·)→s.Sublist ns→t.Sublist ns→p ∈ s→p ∉ t→(∀ x,x < p→x ∈ t→x ∈ s)→¬ (∀ x ∈ t,x ∈ s)→HT.lexLt s t = true
 | [],s,t,p,_,hs,_,hp,_,_,_=>by cases hs; cases hp
 | n :: r,s,t,p,hr,hs,ht,hps,hpt,hlt,hsub=>by
  rw [List.pairwise_cons] at hr
  cases hs with
  | cons _ hs =>
   cases ht with
   | cons _ ht=>exact jh9 hr.2 hs ht hps hpt hlt hsub
   | cons_cons _ ht =>
    exfalso
    have hnp:=hr.1 p (hs.subset hps)
    have:=hlt n hnp (.head _)
    exact absurd (hr.1 n (hs.subset this)) (by omega)
  | cons_cons _ hs =>
   rename_i s'
   cases ht with
   | cons _ ht =>
    cases t with
    | nil=>exact absurd (fun x hx=>by cases hx) hsub
    | cons y t' =>
     have hy:=hr.1 y (ht.subset (.head _))
     rw [HT.lexLt_cons,if_neg (by omega)]
     exact decide_eq_true hy
   | cons_cons _ ht =>
    rename_i t'
    rw [HT.lexLt_cons,if_pos rfl]
    have hpn:p ≠ n:=fun z=>hpt (z ▸ .head _)
    have hps':p ∈ s':=(List.mem_cons.mp hps).resolve_left hpn
    have n_s:∀ x ∈ s',x ≠ n:=fun x hx z=>absurd (hr.1 x (hs.subset hx)) (by omega)
    have n_t:∀ x ∈ t',x ≠ n:=fun x hx z=>absurd (hr.1 x (ht.subset hx)) (by omega)
    refine jh9 hr.2 hs ht hps' (fun z=>hpt (.tail _ z)) (fun x hx hxt=>(List.mem_cons.mp (hlt x hx (.tail _ hxt))).resolve_left (n_t x hxt)) (fun q=>hsub fun x hx=>?_)
    rcases List.mem_cons.mp hx with e | hx
    ·rw [e]; exact .head _
    ·exact .tail _ (q x hx)
theorem jlt {ps ts:List (Int × Int)} (wok:WebOk ps ts) (hsr:(ps.map (·.1)).Pairwise (· < ·)) {k:Nat} {p:Int × Int} (hk:ps[k]? = some p) {ch:Int→Bool}
  (hch:∀ v,ch v = true ↔ v = p.1 ∨ (v ∈ (ps.take k).map (·.1)∧v ∈ (jac ps ts).2.2.1)):(lstF ps (famC ps ts ch)).1 = (jac ps ts).1 ↔ p.1 ∈ (jac ps ts).2.2.1:=by
 have hL:=jc2 wok
 have hF:=jd9 ps (jre wok ch)
 have hLs:=(jbr _ _ (List.mem_filter.mp hL.mem.1).1)
 have hpm:p.1 ∈ ps.map (·.1):=List.mem_map_of_mem (List.mem_of_getElem? hk)
 have hfam:∀ s,s ∈ famC ps ts ch ↔ s ∈ (subL (ps.map (·.1))).filter (touB ts)∧∀ v ∈ ps.map (·.1),ch v = true→v ∈ s:=fun s=>by
  unfold famC
  rw [List.mem_filter,List.mem_filter,Bool.and_eq_true,List.all_eq_true,and_assoc]
  refine and_congr_right fun _=>and_congr_right fun _=>?_
  constructor
  ·intro q v hv hc
   have:=q v hv
   rw [hc] at this
   simpa using this
  ·intro q v hv
   cases hc:ch v with
   | false=>rfl
   | true=>rw [decide_eq_true (q v hv hc)]; rfl
 constructor
 ·intro e
  obtain ⟨m1,m2⟩:=hF.mem
  rw [e] at m2
  obtain ⟨h1,h2⟩:=(hfam _).mp m1
  generalize (lstF ps (famC ps ts ch)).2.2.1 = S at m1 m2 h1 h2
  by_cases c:p.1 ∈ (jac ps ts).2.2.1
  ·exact c
  ·exfalso
   have hpS:p.1 ∈ S:=h2 _ hpm ((hch _).mpr (.inl rfl))
   have hSs:=jbr _ _ (List.mem_filter.mp h1).1
   have hlex:=hL.lex S h1 m2
   have:HT.lexLt S (jac ps ts).2.2.1 = true:=jh9 hsr hSs hLs hpS c (fun x hx hxL=>?_) (fun q=>?_)
   ·rw [this] at hlex; cases hlex
   ·refine h2 x (hLs.subset hxL) ((hch _).mpr (.inr ⟨?_,hxL⟩))
    obtain ⟨j,hj⟩:=List.getElem?_of_mem (hLs.subset hxL)
    have hkn:(ps.map (·.1))[k]? = some p.1:=by rw [List.getElem?_map,hk]; rfl
    have hjk:j < k:=by
     rw [List.pairwise_iff_getElem] at hsr
     obtain ⟨l1,e1⟩:=List.getElem?_eq_some_iff.mp hj
     obtain ⟨l2,e2⟩:=List.getElem?_eq_some_iff.mp hkn
     rcases Nat.lt_trichotomy j k with z | z | z
     ·exact z
     ·subst z
      rw [hj] at hkn
      have:=Option.some.inj hkn
      omega
     ·have:=hsr k j l2 l1 z
      rw [e1,e2] at this
      omega
    rw [List.map_take]
    refine List.mem_of_getElem? (i:=j) ?_
    rw [List.getElem?_take,if_pos hjk]
    exact hj
   ·have hp:=wok.p.pos
    obtain ⟨q0,hq0,eq0⟩:=List.mem_map.mp hpm
    have:=jp1 (qs:=ps) (s:=(jac ps ts).2.2.1) (t:=S) hp q hq0 (by rw [eq0]; exact c) (by rw [eq0]; exact hpS)
    have h5:=hL.mem.2
    omega
 ·intro c
  have hmem:(jac ps ts).2.2.1 ∈ famC ps ts ch:=(hfam _).mpr ⟨hL.mem.1,fun v hv hc=>by
   rcases (hch v).mp hc with e | ⟨_,q⟩
   ·rw [e]; exact c
   ·exact q⟩
  have a1:=hF.le _ hmem
  rw [hL.mem.2] at a1
  have a2:=hL.le _ ((hfam _).mp hF.mem.1).1
  rw [hF.mem.2] at a2
  omega
end My
namespace My
open PySem L2
structure TrI (ps ts:List (Int × Int)) (T:List (List (Int × V))):Prop where
 nd:((T.flatten).map (·.1)).Nodup
 met:∀ ab ∈ T,∃ c,MetOk ts c ab
 cl:∀ m ∈ (T.flatten).map (·.1),∀ n ∈ jar ts m,n ∈ (T.flatten).map (·.1)
 sub:∀ n ∈ (T.flatten).map (·.1),n ∈ ps.map (·.1)
theorem TrI.nil (ps ts:List (Int × Int)):TrI ps ts []:=⟨List.nodup_nil,(fun _ h=>by cases h),(fun _ h=>by cases h),(fun _ h=>by cases h)⟩
theorem jct (T:List (List (Int × V))) (ab:List (Int × V)):(T ++ [ab]).flatten = T.flatten ++ ab:=by simp
theorem TrI.put {ps ts:List (Int × Int)} {T:List (List (Int × V))} {c:Int} {ab:List (Int × V)} (h:TrI ps ts T) (he:Ends ps ts) (hc:c ∈ ps.map (·.1)) (hn:c ∉ (T.flatten).map (·.1)) (m:MetOk ts c ab):TrI ps ts (T ++ [ab]):=by
 have ho:∀ t ∈ ts,t.1 < t.2:=fun t ht=>(he t ht).1
 have dis:∀ n ∈ ab.map (·.1),n ∉ (T.flatten).map (·.1):=fun n hn1 hn2=>by
  have hr:=((m.all n).mp hn1).symm ho
  have:∀ {b:Int},Rch ts n b→b ∈ (T.flatten).map (·.1):=fun r=>by
   induction r with
   | refl=>exact hn2
   | step _ q ih=>exact h.cl _ ih _ q
  exact hn (this hr)
 refine ⟨?_,?_,?_,?_⟩
 ·rw [jct,List.map_append,List.nodup_append]
  exact ⟨h.nd,m.nd,fun a ha b hb e=>dis b hb (e ▸ ha)⟩
 ·intro q hq
  rcases List.mem_append.mp hq with z | z
  ·exact h.met q z
  ·rw [List.mem_singleton.mp z]; exact ⟨c,m⟩
 ·rw [jct,List.map_append]
  intro a ha n hn1
  rcases List.mem_append.mp ha with z | z
  ·exact List.mem_append_left _ (h.cl a z n hn1)
  ·exact List.mem_append_right _ ((m.all n).mpr (((m.all a).mp z).trans (.step .refl hn1)))
 ·rw [jct,List.map_append]
  intro n hn1
  rcases List.mem_append.mp hn1 with z | z
  ·exact h.sub n z
  ·exact ((m.all n).mp z).pl he hc
theorem jme {ts:List (Int × Int)} {c:Int} {ab:List (Int × V)} (m:MetOk ts c ab) {par:Int→Option Int} (h1:∀ n k,(n,V.int k) ∈ ab→par n = some k) (h2:∀ n,(n,V.non) ∈ ab→par n = none):∀ i,i ≤ ab.length→je8 par (((ab.take i).map (·.1)).reverse)
 | 0,_=>by rw [List.take_zero]; trivial
 | i + 1,hi=>by
  have ih:=jme m h1 h2 i (by omega)
  have hp:ab[i]? = some (ab[i]'(by omega)):=List.getElem?_eq_getElem _
  generalize ab[i]'(by omega) = p at hp
  rw [jal hp,List.map_append,List.map_cons,List.map_nil,List.reverse_append,List.reverse_cons,List.reverse_nil,List.nil_append,List.singleton_append]
  refine ⟨?_,ih⟩
  have hpm:=List.mem_of_getElem? hp
  rcases m.tree i p hp with ⟨e1,e2⟩ | ⟨k,e,hk,_⟩
  ·have hi0:i = 0:=by
    have h0:∃ q,ab[0]? = some q:=⟨ab[0]'(by omega),List.getElem?_eq_getElem _⟩
    obtain ⟨q,hq⟩:=h0
    have hq1:q.1 = c:=by
     rcases m.tree 0 q hq with ⟨_,e⟩ | ⟨k,_,e,_⟩
     ·exact e
     ·simp at e
    exact jff m.nd (i:=i) (j:=0) (x:=c) (by rw [List.getElem?_map,hp]; show some p.1 = _; rw [e2]) (by rw [List.getElem?_map,hq]; show some q.1 = _; rw [hq1])
   subst hi0
   refine .inl ⟨by simp,h2 p.1 ?_⟩
   rw [← e1]; exact hpm
  ·refine .inr ⟨fun z=>?_,k,h1 p.1 k (by rw [← e]; exact hpm),List.mem_reverse.mpr hk⟩
   rw [List.reverse_eq_nil_iff] at z
   rw [z] at hk
   cases hk
theorem TrI.trs {ps ts:List (Int × Int)} {T:List (List (Int × V))} (h:TrI ps ts T) (he:Ends ps ts) (g:Gro ts) (hnd:(ps.map (·.1)).Nodup) (hall:∀ n ∈ ps.map (·.1),n ∈ (T.flatten).map (·.1)):Trs ps ts T:=by
 have hin:∀ ab ∈ T,∀ p ∈ ab,p ∈ T.flatten:=fun ab hab p hp=>List.mem_flatten.mpr ⟨ab,hab,hp⟩
 refine ⟨h.nd,?_,fun ab hab=>?_,fun t ht=>?_,fun v u e=>?_⟩
 ·exact (List.perm_ext_iff_of_nodup h.nd hnd).mpr fun n=>⟨h.sub n,hall n⟩
 ·obtain ⟨c,m⟩:=h.met ab hab
  refine ⟨fun z=>?_,?_⟩
  ·have:=(m.all c).mpr .refl
   rw [z] at this
   cases this
  ·have:=jme m (par:=parV T.flatten) (fun n k q=>jew h.nd (hin ab hab _ q)) (fun n q=>jkq h.nd (hin ab hab _ q)) ab.length (Nat.le_refl _)
   rwa [List.take_length] at this
 ·obtain ⟨_,m1,_⟩:=he t ht
  obtain ⟨q,hq,eq⟩:=List.mem_map.mp (hall _ m1)
  obtain ⟨ab,hab,hqa⟩:=List.mem_flatten.mp hq
  obtain ⟨c,m⟩:=h.met ab hab
  rcases jkz g m t ht (by rw [← eq]; exact List.mem_map_of_mem hqa) with z | z
  ·exact .inl (jew h.nd (hin ab hab _ z))
  ·exact .inr (jew h.nd (hin ab hab _ z))
 ·unfold parV at e
  split at e
  ·rename_i n k hf
   cases e
   have hm:=List.mem_of_find?_eq_some hf
   have hv0:=List.find?_some hf
   have hv:n = v:=of_decide_eq_true hv0
   subst hv
   obtain ⟨ab,hab,hp⟩:=List.mem_flatten.mp hm
   obtain ⟨c,m⟩:=h.met ab hab
   obtain ⟨i,hi⟩:=List.getElem?_of_mem hp
   rcases m.tree i _ hi with ⟨z,_⟩ | ⟨k',z,_,hn⟩
   ·cases z
   ·cases z
    rcases (jbl g.lt).mp hn with w | w
    ·exact .inr w
    ·exact .inl w
  ·cases e
end My
namespace My
open PySem L2
section
variable {P:Program} {w:World} {K:PySem.W.Frag} {mg:Str→Option Value} {base:Heap} {c1 c2 c3 c4:Tok}
def TwA (K:PySem.W.Frag) (H:Hp) (p:Addr) (a:Wt):Prop:=SqT K H p [.int a.1,.int a.2]
theorem TwA.tups {K:PySem.W.Frag} {H H':Hp} {p:Addr} {a:Wt} (h:TwA K H p a) (t:TupS H H'):TwA K H' p a:=by
 rcases h with (h | ⟨o,h⟩) | h
 ·exact .inl (.inl (t _ _ rfl h))
 ·exact .inl (.inr ⟨o,t _ _ rfl h⟩)
 ·exact .inr h
def jkc (K:PySem.W.Frag):Sp:=fun vs H Q _=>∃ p q a b,vs = [.ref p,.ref q]∧TwA K H p a∧TwA K H q b∧∀ r H',Same H H'→TwA K H' r (pluW a b)→Q (.ref r) H'
def jmy (K:PySem.W.Frag):Sp:=fun vs H Q _=>∃ p q a b,vs = [.ref p,.ref q]∧TwA K H p a∧TwA K H q b∧0 ≤ b.2∧b.2 < 18446744073709551616∧∀ r H',Same H H'→TwA K H' r (mulW a b)→Q (.ref r) H'
theorem jh3 {f:Addr} {fd:FuncData}  (B:Blt mg) (D:DefAt K mg "either_way" (top 38) ["one","other"] f fd):FnOk P w K mg base CX0 1 f fd ["one","other"] (jkc K):=by
 have sc:FnScope ["one","other"] ["one","other"] (jaa (top 38)):=⟨rfl,rfl,rfl,by decide +kernel,rfl,by decide +kernel,by decide +kernel⟩
 refine D.F.ok sc (fun vs H Q E h=>?_) (fun cdv A outer s H vs Q E hr h=>?_)
 ·obtain ⟨p,q,a,b,rfl,_⟩:=h
  rfl
 obtain ⟨p,q,a,b,rfl,ha,hb,h⟩:=h
 have hu:=jbg hr
 have hu0:_ < PySem.cLine:=Nat.lt_of_succ_lt hu
 refine ⟨_,(ja2 (jbd (jaw q_eq (jae jcm (qv 0) ja4 (fun _ _=>rfl)) (jae jcm (qv 1) ja4 (fun _ _=>rfl)) (jap _)) (ja6 (jah (jb8 (ja0 (jae jcm (qv 0) ja4 (fun _ _=>rfl)) (ja0 (jb0 jdr (jae jcm (qv 0) ja4 (fun _ _=>rfl)) (jae jcm (qv 1) ja4 (fun _ _=>rfl))) ja3))))) jak) (ja6 (jah (jab (jp3 rfl hu) rfl B.min PyProof.Rows.boot_min (ja0 (qv 0) (ja0 (qv 1) ja3)))))),?_⟩
 simp_arith [rIxT]
 refine ⟨p,_,0,_,rfl,rfl,ha,rfl,q,_,0,_,rfl,rfl,hb,rfl,?_⟩
 walk_at "RD"
 unfold pluW at h
 by_cases c:a.1 = b.1
 ·rw [if_pos (decide_eq_true c)]
  rw [if_pos c] at h
  simp_arith [rIxT]
  refine ⟨p,_,0,_,rfl,rfl,ha,rfl,p,_,1,_,rfl,rfl,ha,rfl,q,_,1,_,rfl,rfl,hb,rfl,?_⟩
  walk_at "RD"
  intro r hr9
  exact h r _ (ja5 hr9 _) (SqT.of ja1)
 ·rw [if_neg (fun z=>c (of_decide_eq_true z))]
  rw [if_neg c] at h
  refine ⟨p,q,[a.1,a.2],[b.1,b.2],rfl,ha,hb,?_⟩
  by_cases d:a.1 < b.1
  ·rw [if_pos d] at h
   rw [if_neg (by rw [HT.lexLt_cons,if_neg (fun z=>c z.symm),decide_eq_false (by omega)]; exact Bool.false_ne_true)]
   exact h p _ (Same.refl _) ha
  ·rw [if_neg d] at h
   rw [if_pos (by rw [HT.lexLt_cons,if_neg (fun z=>c z.symm),decide_eq_true (by omega)])]
   exact h q _ (Same.refl _) hb
theorem ji7 {f:Addr} {fd:FuncData}  (B:Blt mg) (D:DefAt K mg "both_ways" (top 39) ["one","other"] f fd):FnOk P w K mg base CX0 1 f fd ["one","other"] (jmy K):=by
 have sc:FnScope ["one","other"] ["one","other"] (jaa (top 39)):=⟨rfl,rfl,rfl,by decide +kernel,rfl,by decide +kernel,by decide +kernel⟩
 refine D.F.ok sc (fun vs H Q E h=>?_) (fun cdv A outer s H vs Q E hr h=>?_)
 ·obtain ⟨p,q,a,b,rfl,_⟩:=h
  rfl
 obtain ⟨p,q,a,b,rfl,ha,hb,h0,h1,h⟩:=h
 have hu:=jbg hr
 have hu0:_ < PySem.cLine:=Nat.lt_of_succ_lt hu
 refine ⟨_,(ja6 (jah (jb8 (ja0 (jb0 jdr (jae jcm (qv 0) ja4 (fun _ _=>rfl)) (jae jcm (qv 1) ja4 (fun _ _=>rfl))) (ja0 (jb0 jj3 (jae jcm (qv 0) ja4 (fun _ _=>rfl)) (jae jcm (qv 1) ja4 (fun _ _=>rfl))) ja3))))),?_⟩
 simp_arith [rIxT]
 refine ⟨p,_,0,_,rfl,rfl,ha,rfl,q,_,0,_,rfl,rfl,hb,rfl,?_⟩
 simp_arith [rIxT]
 refine ⟨p,_,1,_,rfl,rfl,ha,rfl,q,_,1,_,rfl,rfl,hb,rfl,?_⟩
 walk_at "RD"
 refine ⟨.inr ⟨by omega,by omega⟩,?_⟩
 intro r hr9
 exact h r _ (ja5 hr9 _) (SqT.of ja1)
end
end My
namespace My
open PySem L2
def psiW (I:Fn):List Int→Int
 | []=>0
 | v :: r=>(I v).1 + psiW I r
def phiW (I O:Fn):List Int→Int
 | []=>1
 | v :: r=>((I v).2 + (O v).2) * phiW I O r
structure Bd (I O:Fn) (zs:List Int):Prop where
 e:∀ v ∈ zs,0 ≤ (I v).1∧0 ≤ (O v).1∧1 ≤ (I v).2∧1 ≤ (O v).2
 psi:psiW I zs ≤ 1000000000000
 phi:phiW I O zs ≤ 1099511627776
theorem jne {I:Fn}:∀ {zs:List Int},(∀ v ∈ zs,0 ≤ (I v).1)→0 ≤ psiW I zs
 | [],_=>Int.le_refl _
 | v :: r,h=>by
  have h1:=h v (.head _)
  have h2:=jne (zs:=r) fun w hw=>h w (.tail _ hw)
  show 0 ≤ (I v).1 + psiW I r
  omega
theorem jr3 {I:Fn}:∀ {zs:List Int},(∀ v ∈ zs,0 ≤ (I v).1)→∀ v ∈ zs,(I v).1 ≤ psiW I zs
 | w :: r,h,v,hv=>by
  have h1:=h w (.head _)
  have h2:=jne (zs:=r) fun x hx=>h x (.tail _ hx)
  show _ ≤ (I w).1 + psiW I r
  rcases List.mem_cons.mp hv with e | hv
  ·rw [e]; omega
  ·have:=jr3 (zs:=r) (fun x hx=>h x (.tail _ hx)) v hv
   omega
theorem jgw {I O:Fn}:∀ {zs:List Int},(∀ v ∈ zs,1 ≤ (I v).2∧1 ≤ (O v).2)→1 ≤ phiW I O zs
 | [],_=>Int.le_refl _
 | v :: r,h=>by
  have h1:=h v (.head _)
  have h2:=jgw (zs:=r) fun w hw=>h w (.tail _ hw)
  show 1 ≤ ((I v).2 + (O v).2) * phiW I O r
  have:=Int.mul_le_mul (show (1:Int) ≤ (I v).2 + (O v).2 by omega) h2 (by decide) (by omega)
  simpa using this
theorem jnn {I O:Fn}:∀ {zs:List Int},(∀ v ∈ zs,1 ≤ (I v).2∧1 ≤ (O v).2)→∀ v ∈ zs,(I v).2 + (O v).2 ≤ phiW I O zs
 | w :: r,h,v,hv=>by
  have h1:=h w (.head _)
  have hp:=jgw (zs:=r) fun x hx=>h x (.tail _ hx)
  show _ ≤ ((I w).2 + (O w).2) * phiW I O r
  rcases List.mem_cons.mp hv with e | hv
  ·rw [e]
   have:=Int.mul_le_mul_of_nonneg_left hp (show 0 ≤ (I w).2 + (O w).2 by omega)
   simpa using this
  ·have h3:=jnn (zs:=r) (fun x hx=>h x (.tail _ hx)) v hv
   have:=Int.mul_le_mul_of_nonneg_right (show (1:Int) ≤ (I w).2 + (O w).2 by omega) (show 0 ≤ phiW I O r by omega)
   rw [Int.one_mul] at this
   omega
theorem jhy {I J:Fn}:∀ {zs:List Int},(∀ v ∈ zs,I v = J v)→psiW I zs = psiW J zs
 | [],_=>rfl
 | v :: r,h=>by
  show (I v).1 + _ = (J v).1 + _
  rw [h v (.head _),jhy fun w hw=>h w (.tail _ hw)]
theorem ji2 {I J O Q:Fn}:∀ {zs:List Int},(∀ v ∈ zs,I v = J v∧O v = Q v)→phiW I O zs = phiW J Q zs
 | [],_=>rfl
 | v :: r,h=>by
  show ((I v).2 + (O v).2) * _ = ((J v).2 + (Q v).2) * _
  rw [(h v (.head _)).1,(h v (.head _)).2,ji2 fun w hw=>h w (.tail _ hw)]
theorem jnd {I:Fn} {u:Int} {a:Wt}:∀ {zs:List Int},zs.Nodup→u ∈ zs→psiW (setW I u a) zs = psiW I zs - (I u).1 + a.1
 | w :: r,hn,hu=>by
  rw [List.nodup_cons] at hn
  show (setW I u a w).1 + psiW (setW I u a) r = (I w).1 + psiW I r - _ + _
  by_cases e:w = u
  ·subst e
   rw [jcw,jhy (J:=I) (zs:=r) fun v hv=>jb3 (u:=w) (fun z:v = w=>hn.1 (z ▸ hv))]
   omega
  ·rw [jb3 e,jnd hn.2 ((List.mem_cons.mp hu).resolve_left fun z=>e z.symm)]
   omega
theorem jnm {I O:Fn} {u:Int} {a b:Wt} {f:Int} (hf:0 ≤ f) (hab:a.2 + b.2 ≤ ((I u).2 + (O u).2) * f):∀ {zs:List Int},zs.Nodup→u ∈ zs→(∀ v ∈ zs,1 ≤ (I v).2∧1 ≤ (O v).2)→phiW (setW I u a) (setW O u b) zs ≤ phiW I O zs * f
 | w :: r,hn,hu,h=>by
  rw [List.nodup_cons] at hn
  have h1:=h w (.head _)
  have hp:=jgw (zs:=r) fun x hx=>h x (.tail _ hx)
  show ((setW I u a w).2 + (setW O u b w).2) * phiW (setW I u a) (setW O u b) r ≤ ((I w).2 + (O w).2) * phiW I O r * f
  by_cases e:w = u
  ·subst e
   rw [jcw,jcw,ji2 (J:=I) (Q:=O) (zs:=r) fun v hv=>⟨jb3 (u:=w) (fun z:v = w=>hn.1 (z ▸ hv)),jb3 (u:=w) (fun z:v = w=>hn.1 (z ▸ hv))⟩]
   have:=Int.mul_le_mul_of_nonneg_right hab (show 0 ≤ phiW I O r by omega)
   rw [Int.mul_assoc,Int.mul_comm f,← Int.mul_assoc] at this
   exact this
  ·rw [jb3 e,jb3 e,Int.mul_assoc]
   exact Int.mul_le_mul_of_nonneg_left (jnm hf hab hn.2 ((List.mem_cons.mp hu).resolve_left fun z=>e z.symm) fun x hx=>h x (.tail _ hx)) (by omega)
theorem jj5 {a:Wt} {o:Wo} {b:Wt} (ho:o = none ∨ o = some b) (ha:0 ≤ a.1∧1 ≤ a.2) (hb:0 ≤ b.1∧1 ≤ b.2):0 ≤ (pluX a o).1∧(pluX a o).1 ≤ a.1∧1 ≤ (pluX a o).2∧(pluX a o).2 ≤ a.2 + b.2:=by
 rcases ho with rfl | rfl
 ·show 0 ≤ a.1∧a.1 ≤ a.1∧1 ≤ a.2∧a.2 ≤ a.2 + b.2
  omega
 ·show 0 ≤ (pluW a b).1∧(pluW a b).1 ≤ a.1∧1 ≤ (pluW a b).2∧(pluW a b).2 ≤ a.2 + b.2
  unfold pluW
  split
  ·dsimp only; omega
  ·split <;> omega
theorem jhb (ch:Int→Bool) (O:Fn) (v:Int):jda ch O v = none ∨ jda ch O v = some (O v):=by
 unfold jda
 split
 ·exact .inl rfl
 ·exact .inr rfl
theorem Bd.tail {I O:Fn} {v:Int} {r:List Int} (h:Bd I O (v :: r)):Bd I O r:=by
 have h1:=h.e v (.head _)
 have hp:=jgw (I:=I) (O:=O) (zs:=r) fun x hx=>(h.e x (.tail _ hx)).2.2
 refine ⟨fun w hw=>h.e w (.tail _ hw),?_,?_⟩
 ·have:=h.psi
  have e:psiW I (v :: r) = (I v).1 + psiW I r:=rfl
  omega
 ·have:=h.phi
  have e:phiW I O (v :: r) = ((I v).2 + (O v).2) * phiW I O r:=rfl
  have:=Int.mul_le_mul_of_nonneg_right (show (1:Int) ≤ (I v).2 + (O v).2 by omega) (show 0 ≤ phiW I O r by omega)
  rw [Int.one_mul] at this
  omega
theorem Bd.step {ch:Int→Bool} {I O:Fn} {v u:Int} {r:List Int} (h:Bd I O (v :: r)) (hn:r.Nodup) (hu:u ∈ r):Bd (setW I u (mulW (I u) (pluX (I v) (jda ch O v)))) (setW O u (mulW (O u) (I v))) r:=by
 have hv:=h.e v (.head _)
 have hu1:=h.e u (.tail _ hu)
 have ht:∀ w ∈ r,1 ≤ (I w).2∧1 ≤ (O w).2:=fun w hw=>(h.e w (.tail _ hw)).2.2
 obtain ⟨x1,x2,x3,x4⟩:=jj5 (jhb ch O v) (a:=I v) (b:=O v) ⟨hv.1,hv.2.2.1⟩ ⟨hv.2.1,hv.2.2.2⟩
 generalize pluX (I v) (jda ch O v) = X at x1 x2 x3 x4
 refine ⟨fun w hw=>?_,?_,?_⟩
 ·by_cases e:w = u
  ·subst e
   rw [jcw,jcw]
   unfold mulW
   dsimp only
   have m1:=Int.mul_le_mul (show (1:Int) ≤ (I w).2 from hu1.2.2.1) x3 (by decide) (by omega)
   have m2:=Int.mul_le_mul (show (1:Int) ≤ (O w).2 from hu1.2.2.2) hv.2.2.1 (by decide) (by omega)
   simp only [Int.one_mul] at m1 m2
   omega
  ·rw [jb3 e,jb3 e]
   exact h.e w (.tail _ hw)
 ·rw [jnd hn hu]
  have:=h.psi
  have e:psiW I (v :: r) = (I v).1 + psiW I r:=rfl
  show _ - _ + ((I u).1 + X.1) ≤ _
  omega
 ·refine Int.le_trans (jnm (f:=(I v).2 + (O v).2) (by omega) ?_ hn hu ht) ?_
  ·show (I u).2 * X.2 + (O u).2 * (I v).2 ≤ _
   have m1:=Int.mul_le_mul_of_nonneg_left x4 (show 0 ≤ (I u).2 by omega)
   have m2:=Int.mul_le_mul_of_nonneg_left (show (I v).2 ≤ (I v).2 + (O v).2 by omega) (show 0 ≤ (O u).2 by omega)
   rw [Int.add_mul]
   omega
  ·have e:phiW I O (v :: r) = ((I v).2 + (O v).2) * phiW I O r:=rfl
   rw [Int.mul_comm,← e]
   exact h.phi
def NEV:Wt:=(1000000000001,0)
theorem jq2 {ch:Int→Bool} {I O:Fn} {v:Int} {r:List Int} (h:Bd I O (v :: r)):pluW (I v) (if ch v = true then NEV else O v) = pluX (I v) (jda ch O v):=by
 unfold jda
 by_cases c:ch v = true
 ·rw [if_pos c,if_pos c]
  have h1:=jr3 (I:=I) (fun w hw=>(h.e w hw).1) v (.head r)
  have h2:=h.psi
  exact jby (show (I v).1 < 1000000000001 by omega)
 ·rw [if_neg c,if_neg c]
  rfl
theorem bd0 {ps:List (Int × Int)} {zs:List Int} (hp:∀ p ∈ ps,1 ≤ p.2) (hnd:(ps.map (·.1)).Nodup) (hz:zs.Nodup) (hs:∀ v ∈ zs,v ∈ ps.map (·.1)) (hsum:(ps.map (·.2)).sum ≤ 1000000000000) (hl:zs.length ≤ 40):Bd (I0 ps) O0 zs:=by
 have hpr:∀ v ∈ ps.map (·.1),1 ≤ priO ps v:=fun v hv=>by
  obtain ⟨p,hp1,e⟩:=List.mem_map.mp hv
  rw [← e,jgv hnd hp1]
  exact hp p hp1
 have psum:psiW (I0 ps) (ps.map (·.1)) = (ps.map (·.2)).sum:=by
  have:∀ (qs:List (Int × Int)),(∀ q ∈ qs,q ∈ ps)→psiW (I0 ps) (qs.map (·.1)) = (qs.map (·.2)).sum:=fun qs=>by
   induction qs with
   | nil=>intro _; rfl
   | cons q t ih =>
    intro h
    rw [List.map_cons,List.map_cons,List.sum_cons,← ih fun x hx=>h x (.tail _ hx)]
    show priO ps q.1 + _ = _
    rw [jgv hnd (h q (.head _))]
  exact this ps fun q hq=>hq
 have sub:∀ (zs:List Int) (L:List Int),zs.Nodup→(∀ v ∈ zs,v ∈ L)→(∀ v ∈ L,0 ≤ (I0 ps v).1)→psiW (I0 ps) zs ≤ psiW (I0 ps) L:=fun zs=>by
  induction zs with
  | nil=>intro L _ _ h; exact jne h
  | cons v r ih =>
   intro L hn hs h
   rw [List.nodup_cons] at hn
   have hv:=hs v (.head _)
   have e:psiW (I0 ps) L = (I0 ps v).1 + psiW (I0 ps) (L.erase v):=by
    have pm:=List.perm_cons_erase hv
    have:∀ {a b:List Int},a.Perm b→psiW (I0 ps) a = psiW (I0 ps) b:=fun q=>by
     induction q with
     | nil=>rfl
     | cons x _ ih=>show _ + _ = _ + _; rw [ih]
     | swap x y l=>show _ + (_ + _) = _ + (_ + _); omega
     | trans _ _ h1 h2=>exact h1.trans h2
    rw [this pm]
    rfl
   have:=ih (L.erase v) hn.2 (fun w hw=>(List.mem_erase_of_ne (fun z:w = v=>hn.1 (z ▸ hw))).mpr (hs w (.tail _ hw))) fun w hw=>h w (List.mem_of_mem_erase hw)
   rw [e]
   show (I0 ps v).1 + _ ≤ _
   omega
 refine ⟨fun v hv=>?_,?_,?_⟩
 ·have:=hpr v (hs v hv)
  show 0 ≤ priO ps v∧(0:Int) ≤ 0∧(1:Int) ≤ 1∧(1:Int) ≤ 1
  omega
 ·have:=sub zs (ps.map (·.1)) hz hs fun v hv=>by have:=hpr v hv; show 0 ≤ priO ps v; omega
  omega
 ·have:∀ zs:List Int,phiW (I0 ps) O0 zs = 2 ^ zs.length:=fun zs=>by
   induction zs with
   | nil=>rfl
   | cons v r ih =>
    show ((1:Int) + 1) * _ = _
    rw [ih,List.length_cons,Int.pow_succ,Int.mul_comm]
    rfl
  rw [this]
  have h2:(2:Int) ^ zs.length ≤ 2 ^ 40:=by
   have:=Nat.pow_le_pow_right (show 0 < 2 by decide) hl
   exact_mod_cast this
  exact Int.le_trans h2 (by decide)
end My
namespace My
open PySem L2
section
variable {P:Program} {w:World} {K:PySem.W.Frag} {mg:Str→Option Value} {base:Heap} {c1 c2 c3 c4:Tok}
def Fz (D H H':Hp):Prop:=∀ b o,H b = some o→H' b = some o ∨ ∃ ob kvs,o = .dK kvs∧H' b = some (.frz ob (.dK kvs))∧D b = none
theorem Fz.of {D H H':Hp} (s:Same H H'):Fz D H H':=fun b o e=>.inl (s b o e)
theorem Fz.trans {D H H1 H2:Hp} (a:Fz D H H1) (b:Fz D H1 H2):Fz D H H2:=fun c o e=>by
 rcases a c o e with q | ⟨ob,kvs,e1,q,n⟩
 ·exact b c o q
 ·rcases b c _ q with z | ⟨_,_,z,_⟩
  ·exact .inr ⟨ob,kvs,e1,z,n⟩
  ·cases z
theorem Fz.tups {D H H':Hp} (f:Fz D H H'):TupS H H':=fun b o i e=>by
 rcases f b o e with q | ⟨_,_,z,_⟩
 ·exact q
 ·subst z; cases i
theorem Fz.lst {D H H':Hp} (f:Fz D H H') {b:Addr} {xs:List V} (e:H b = some (.lst xs)):H' b = some (.lst xs):=by
 rcases f b _ e with q | ⟨_,_,z,_⟩
 ·exact q
 ·cases z
theorem Fz.rd {D H H':Hp} (f:Fz D H H') {b:Addr} {kvs:List (Key × V)} (h:Rd H b (.dK kvs)):Rd H' b (.dK kvs):=by
 rcases h with e | ⟨o,e⟩
 ·rcases f b _ e with q | ⟨ob,k2,z,q,_⟩
  ·exact .inl q
  ·cases z; exact .inr ⟨ob,q⟩
 ·rcases f b _ e with q | ⟨_,_,z,_⟩
  ·exact .inr ⟨o,q⟩
  ·cases z
theorem Fz.frz {D H:Hp} {d:Addr} {o:Obj} {kvs:List (Key × V)} (n:D d = none) (e:H d = some (.dK kvs)):Fz D H (upd H d (.frz o (.dK kvs))):=fun b u q=>by
 by_cases c:b = d
 ·subst c
  rw [e] at q
  cases q
  exact .inr ⟨o,kvs,rfl,ja1,n⟩
 ·exact .inl (by rw [ja8 c]; exact q)
theorem Fz.free {D H H':Hp} (f:Fz D H H') {l:Addr} (h:H' l = none):H l = none:=by
 cases q:H l with
 | none=>rfl
 | some o =>
  rcases f l o q with z | ⟨_,_,_,z,_⟩
  ·rw [h] at z; cases z
  ·rw [h] at z; cases z
def fnD (ks:List Int) (ri:Int→Addr):List (Key × V):=ks.map fun n=>((Sum.inl n:Key),V.ref (ri n))
theorem jdc:∀ {ks:List Int} {n:Int} (ri:Int→Addr),n ∈ ks→valV (fnD ks ri) (Sum.inl n:Key) = some (.ref (ri n))
 | m :: r,n,ri,h=>by
  by_cases c:m = n
  ·subst c; exact jce rfl
  ·show valV (((Sum.inl m:Key),V.ref (ri m)) :: fnD r ri) _ = _
   rw [jcf (fun z=>c (Sum.inl.inj z))]
   exact jdc ri ((List.mem_cons.mp h).resolve_left fun z=>c z.symm)
theorem jot {ks:List Int} {u:Int} {ri:Int→Addr} {r:Addr} (h:u ∈ ks):putK (fnD ks ri) (Sum.inl u:Key) (.ref r) = fnD ks (fun x=>if x = u then r else ri x):=by
 unfold putK
 have hv:=jdc ri h
 rw [if_pos (by rw [jdh,hv]; rfl)]
 unfold fnD
 rw [List.map_map]
 refine List.map_congr_left fun n _=>?_
 show (if (Sum.inl n:Key) = Sum.inl u then ((Sum.inl n:Key),V.ref r) else (Sum.inl n,V.ref (ri n))) = _
 by_cases c:n = u
 ·rw [if_pos (by rw [c])]
  dsimp only
  rw [if_pos c]
 ·rw [if_neg (fun z=>c (Sum.inl.inj z))]
  dsimp only
  rw [if_neg c]
theorem jl2 (ks:List Int) (ri:Int→Addr):(fnD ks ri).map (·.1) = ks.map Sum.inl:=by
 unfold fnD
 rw [List.map_map]
 rfl
theorem jo9:∀ {ps:List (Int × Int)} {n:Int},(ps.map (·.1)).Nodup→n ∈ ps.map (·.1)→valV (jbk ps) (Sum.inl n:Key) = some (.int (priO ps n))
 | p :: r,n,hn,h=>by
  rw [List.map_cons,List.nodup_cons] at hn
  unfold priO
  rw [List.find?_cons]
  by_cases c:p.1 = n
  ·rw [decide_eq_true c]
   exact jce (show (Sum.inl p.1:Key) = Sum.inl n by rw [c])
  ·rw [decide_eq_false c]
   show valV (((Sum.inl p.1:Key),V.int p.2) :: jbk r) _ = _
   rw [jcf (fun z=>c (Sum.inl.inj z))]
   exact jo9 hn.2 ((List.mem_cons.mp h).resolve_left fun z=>c z.symm)
structure TrA (ps:List (Int × Int)) (par:Int→Option Int) (ab:List (Int × V)):Prop where
 nd:(ab.map (·.1)).Nodup
 sub:∀ n ∈ ab.map (·.1),n ∈ ps.map (·.1)
 tr:je8 par ((ab.map (·.1)).reverse)
 pr:∀ p ∈ ab,p.2 = .non∧par p.1 = none ∨ ∃ m,p.2 = .int m∧par p.1 = some m
 len:ab.length ≤ 40
def B2 (s d:Addr) (H H':Hp):Prop:=∀ b o,b ≠ s→b ≠ d→H b = some o→H' b = some o
theorem B2.refl (s d:Addr) (H:Hp):B2 s d H H:=fun _ _ _ _ q=>q
theorem B2.same {s d:Addr} {H H1 H2:Hp} (h:B2 s d H H1) (q:Same H1 H2):B2 s d H H2:=fun b o a c e=>q _ _ (h b o a c e)
theorem B2.u1 {s d:Addr} {H H1:Hp} (h:B2 s d H H1) (o:HO):B2 s d H (upd H1 s o):=fun b u a c e=>by rw [ja8 a]; exact h b u a c e
theorem B2.u2 {s d:Addr} {H H1:Hp} (h:B2 s d H H1) (o:HO):B2 s d H (upd H1 d o):=fun b u a c e=>by rw [ja8 c]; exact h b u a c e
theorem je8.drop {par:Int→Option Int}:∀ {zs:List Int} (i:Nat),je8 par zs→je8 par (zs.drop i)
 | _,0,h=>h
 | [],_ + 1,h=>h
 | _ :: _,i + 1,h=>je8.drop i h.2
structure PsA (ps:List (Int × Int)):Prop where
 nd:(ps.map (·.1)).Nodup
 pos:∀ p ∈ ps,1 ≤ p.2
 sum:(ps.map (·.2)).sum ≤ 1000000000000
def jqr (K:PySem.W.Frag):Sp:=fun vs H Q _=>∃ D pd ad cd ps par ab cs,vs = [.ref pd,.ref ad,.ref cd]∧D ad = none∧Rd H pd (.dK (jbk ps))∧Rd H ad (.dK (gk ab))∧Rd H cd (.dK (mk cs))∧PsA ps∧TrA ps par ab ∧
 ∀ r H',Fz D H H'→TwA K H' r (runT par (fun v=>decide (v ∈ cs)) ((ab.map (·.1)).reverse) (I0 ps) O0 NEV)→Q (.ref r) H'
theorem jdp {ks:List Int} {i:Nat} {n:Int} (hn:ks.Nodup) (h:ks[i]? = some n):n ∉ ks.take i:=fun z=>by
 obtain ⟨j,hj⟩:=List.getElem?_of_mem z
 rw [List.getElem?_take] at hj
 split at hj
 ·have:=jff hn h hj
  omega
 ·cases hj
theorem jf7 {f:Addr} {fd:FuncData} {f_either_way:Addr} {d_either_way:FuncData} {f_both_ways:Addr} {d_both_ways:FuncData} (B:Blt mg) (D:DefAt K mg "ways_of_tree" (top 40) ["prices","above","chosen"] f fd) (D_either_way:DefAt K mg "either_way" (top 38) ["one","other"] f_either_way d_either_way) (G_either_way:FnOk P w K mg base CX0 1 f_either_way d_either_way ["one","other"] (jkc K)) (D_both_ways:DefAt K mg "both_ways" (top 39) ["one","other"] f_both_ways d_both_ways) (G_both_ways:FnOk P w K mg base CX0 1 f_both_ways d_both_ways ["one","other"] (jmy K)) {aN:Addr} (m_NEVER:mg "NEVER" = some (.ref aN)) (hNv:∀ H:Hp,TwA K H aN NEV) (hRv:mg "reversed" = none):FnOk P w K mg base CX0 2 f fd ["prices","above","chosen"] (jqr K):=by
 have sc:FnScope ["prices","above","chosen","ins","outs","top","place","less_it","up"] ["prices","above","chosen"] (jaa (top 40)):=⟨rfl,rfl,rfl,by decide +kernel,rfl,by decide +kernel,by decide +kernel⟩
 refine D.F.ok sc (fun vs H Q E h=>?_) (fun cdv A outer s H vs Q E hr h=>?_)
 ·obtain ⟨D,pd,ad,cd,ps,par,ab,cs,rfl,_⟩:=h
  rfl
 obtain ⟨D,pd,ad,cd,ps,par,ab,cs,rfl,hDa,hpd,had,hcd,hps,htr,h⟩:=h
 have hu:=jbg hr
 have hu0:_ < PySem.cLine:=Nat.lt_of_succ_lt hu
 refine ⟨_,(ja2 (jag (i:=3) sc.nd rfl (Or.inl rfl) (jbe (jf4 rfl) rfl B.dict PyProof.Rows.boot_dict (ja0 (jcb (CpScope.of (N:=["place","prices"]) (src:=[none,some 0]) (by rfl)) rfl (jeu (qv 1)) (fun _ _ _ _=>(jad (i:=0) (jai (l:=["place","prices"]) (by rfl)) rfl (Or.inl rfl))) (fun _ _ _ _=>jd6) (fun _ _ _ _=>(jb8 (ja0 (qv 0) (ja0 (jb8 (ja0 (jca (by exact hu) (qv 1) (qv 0) (fun _ _=>rfl)) (ja0 ja4 ja3))) ja3))))) ja3))) (ja2 (jag (i:=4) sc.nd rfl (Or.inl rfl) (jbe (jf4 rfl) rfl B.dict PyProof.Rows.boot_dict (ja0 (jcb (CpScope.of (N:=["place"]) (src:=[none]) (by rfl)) rfl (jeu (qv 1)) (fun _ _ _ _=>(jad (i:=0) (jai (l:=["place"]) (by rfl)) rfl (Or.inl rfl))) (fun _ _ _ _=>jd6) (fun _ _ _ _=>(jb8 (ja0 (qv 0) (ja0 (jb8 (ja0 ja4 (ja0 ja4 ja3))) ja3))))) ja3))) (ja2 (jag (i:=5) sc.nd rfl (Or.inl rfl) (jgx rfl m_NEVER)) (ja2 (jbu PassesOwn.never rfl (jj7 rfl hRv (ja0 (jbe (jgi rfl) rfl B.list PyProof.Rows.boot_list (ja0 (qv 1) ja3)) ja3)) (jad (i:=6) sc.nd rfl (Or.inl rfl)) (ja2 (jag (i:=7) sc.nd rfl (Or.inl rfl) (jev (jr2 (jr7 hu (qv 6) (qv 2))) (jgx rfl m_NEVER) (jeh hu (qv 4) (qv 6) (fun _ _=>rfl)))) (ja2 (jag (i:=8) sc.nd rfl (Or.inl rfl) (jca hu (qv 1) (qv 6) (fun _ _=>rfl))) (ja6 (jbd (jaw js4 (qv 8) jg7 (jap _)) (ja6 (jag (i:=5) sc.nd rfl (Or.inl rfl) (ja9 G_either_way (hr.mono (by decide)) rfl D_either_way.m D_either_way.F.kp D_either_way.b .nil jan (ja0 (jeh hu (qv 3) (qv 6) (fun _ _=>rfl)) (ja0 (qv 7) ja3))))) (ja2 (jki hu (qv 3) (qv 8) (ja9 G_both_ways (hr.mono (by decide)) rfl D_both_ways.m D_both_ways.F.kp D_both_ways.b .nil jan (ja0 (jeh hu (qv 3) (qv 8) (fun _ _=>rfl)) (ja0 (ja9 G_either_way (hr.mono (by decide)) rfl D_either_way.m D_either_way.F.kp D_either_way.b .nil jan (ja0 (jeh hu (qv 3) (qv 6) (fun _ _=>rfl)) (ja0 (qv 7) ja3))) ja3)))) (ja6 (jki hu (qv 4) (qv 8) (ja9 G_both_ways (hr.mono (by decide)) rfl D_both_ways.m D_both_ways.F.kp D_both_ways.b .nil jan (ja0 (jeh hu (qv 4) (qv 8) (fun _ _=>rfl)) (ja0 (jeh hu (qv 3) (qv 6) (fun _ _=>rfl)) ja3))))))))))) (ja6 (jah (qv 5))))))),?_⟩
 refine jaf fun R hR=>?_
 walk_at "RD"
 refine jdq (ι:=Obj × Hp) (fun i0=>Itd ad i0.1 (gk ab)) (fun i0=>i0.2) (fun i0=>(Fz D H i0.2∧But ad H i0.2)∧i0.2 ad = some (.frz i0.1 (.dK (gk ab)))) (fun R' hR'=>?_) (fun i0 ok0=>?_)
 ·unfold jol
  walk_at "RD"
  refine ⟨ad,gk ab,rfl,?_⟩
  rcases ((Fz.of (D:=D) (Same.refl H)).rd had) with e | ⟨o,e⟩
  ·exact .inl ⟨e,fun o=>hR' (o,_) ⟨⟨Fz.frz hDa e,But.at ad _ _⟩,ja1⟩⟩
  ·exact .inr ⟨o,e,hR' (o,H) ⟨⟨Fz.of (Same.refl _),But.refl _ _⟩,e⟩⟩
 obtain ⟨odi,HFdi⟩:=i0
 obtain ⟨⟨fdi,btdi⟩,eddi⟩:=ok0
 dsimp only at fdi btdi eddi
 intro zdi hzdi
 refine jb1 ab.length (fun i σ' Hc=>∃ w1 zs ri,σ' = [w1,some (.ref pd)]∧Same HFdi Hc∧Hc zdi = some (.lst zs)∧Paired (PairAt Hc) zs (fnD ((ab.map (fun x:Int × V=>x.1)).take i) ri)∧∀ n ∈ (ab.map (fun x:Int × V=>x.1)).take i,TwA K Hc (ri n) (I0 ps n)) ⟨none,[],fun _=>0,rfl,ja5 hzdi _,ja1,.nil,(fun n hn=>by cases hn)⟩ ?_ ?_
 ·rintro i σ' Hc hi ⟨w1,zs,ri,rfl,s2,ez,pz,tw⟩
  refine ⟨⟨s2 _ _ eddi,by rw [jfk]; exact hi⟩,?_⟩
  rintro y H' ⟨rfl,kv,hkv,rfl⟩
  obtain ⟨p,hp,ekv⟩:=jsx hkv
  have hp':(ab.map (fun x:Int × V=>x.1))[i]? = some p.1:=by rw [List.getElem?_map,hp]; rfl
  have hpm:p.1 ∈ (ab.map (fun x:Int × V=>x.1)):=List.mem_of_getElem? hp'
  have hnew:=jdp htr.nd hp'
  rw [ekv]
  show jd1 0 (.int p.1) _ _ _
  simp_arith [jfr]
  refine ⟨pd,.int (priO ps p.1),rfl,.inl ⟨jbk ps,Sum.inl p.1,(fdi.trans (Fz.of s2)).rd hpd,rfl,(jo9 hps.nd (htr.sub _ hpm)).symm⟩,?_⟩
  intro t1 ht1
  have s3:=ja5 ht1 (.tup [.int (priO ps p.1),.int 1])
  have et1:upd H' t1 (.tup [.int (priO ps p.1),.int 1]) t1 = some (.tup [.int (priO ps p.1),.int 1]):=ja1
  generalize upd H' t1 (.tup [.int (priO ps p.1),.int 1]) = H3 at s3 et1
  intro t2 ht2
  have s4:=ja5 ht2 (.tup [.int p.1,.ref t1])
  have et2:upd H3 t2 (.tup [.int p.1,.ref t1]) t2 = some (.tup [.int p.1,.ref t1]):=ja1
  generalize upd H3 t2 (.tup [.int p.1,.ref t1]) = H4 at s4 et2
  have s34:=s3.trans s4
  have ez4:=s34 _ _ ez
  have hzl:zs.length ≤ 40:=by
   have:=Paired.length pz
   unfold fnD at this
   rw [List.length_map,List.length_take] at this
   have:=htr.len
   omega
  have t7:=jcg (ys:=zs ++ [.ref t2]) ez4
  refine ⟨_,ez4,szl' (by omega),_,_,(fun x=>if x = p.1 then t1 else ri x),rfl,jas (s2.trans s34) hzdi,ja1,?_,fun n hn=>?_⟩
  ·rw [jal hp']
   have e1:fnD ((ab.map (fun x:Int × V=>x.1)).take i ++ [p.1]) (fun x=>if x = p.1 then t1 else ri x) = fnD ((ab.map (fun x:Int × V=>x.1)).take i) ri ++ [((Sum.inl p.1:Key),V.ref t1)]:=by
    unfold fnD
    rw [List.map_append,List.map_cons,List.map_nil]
    dsimp only
    rw [if_pos rfl]
    congr 1
    exact List.map_congr_left fun n hn=>by rw [if_neg (show ¬ n = p.1 from fun z=>hnew (z ▸ hn))]
   rw [e1]
   refine jay (Paired.mapP pz fun u q ⟨t,a1,a2⟩=>⟨t,a1,t7 _ _ rfl (s34 _ _ a2)⟩) ⟨t2,rfl,t7 _ _ rfl et2⟩
  ·rw [jal hp'] at hn
   show TwA K _ (if n = p.1 then t1 else ri n) _
   by_cases c:n = p.1
   ·rw [if_pos c,c]
    exact SqT.of (t7 _ _ rfl (s4 _ _ et1))
   ·rw [if_neg c]
    have hn2:n ∈ (ab.map (fun x:Int × V=>x.1)).take i:=(List.mem_append.mp hn).resolve_right fun z=>c (List.mem_singleton.mp z)
    exact ((tw n hn2).tups s34.tups).tups t7
 rintro σ' Hc ⟨w1,zs,ridi,rfl,s2,ez,pz,twdi⟩
 refine ⟨⟨s2 _ _ eddi,by rw [jfk]; exact Nat.le_refl _⟩,?_⟩
 have hkl:(ab.map (fun x:Int × V=>x.1)).length = ab.length:=List.length_map _
 rw [← hkl,List.take_length] at pz twdi
 have hzl:zs.length ≤ 40:=by
  have:=Paired.length pz
  unfold fnD at this
  rw [List.length_map] at this
  have:=htr.len
  omega
 simp_arith [ez]
 refine ⟨_,pz,by omega,by rw [jl2]; exact List.pairwise_map.mpr (List.Pairwise.imp (fun h z=>h (Sum.inl.inj z)) htr.nd),fun di hdi=>?_⟩
 have sD:=ja5 hdi (.dK (fnD (ab.map (fun x:Int × V=>x.1)) ridi))
 have edi:upd Hc di (.dK (fnD (ab.map (fun x:Int × V=>x.1)) ridi)) di = some (.dK (fnD (ab.map (fun x:Int × V=>x.1)) ridi)):=ja1
 have Fdi:Fz D H (upd Hc di (.dK (fnD (ab.map (fun x:Int × V=>x.1)) ridi))):=(fdi.trans (Fz.of s2)).trans (Fz.of sD)
 have hdi0:H di = none:=(fdi.trans (Fz.of s2)).free hdi
 have Bdi:But ad H (upd Hc di (.dK (fnD (ab.map (fun x:Int × V=>x.1)) ridi))):=fun c u nc q=>sD _ _ (s2 _ _ (btdi _ _ nc q))
 have eddi':=sD _ _ (s2 _ _ eddi)
 have ndi:di ≠ ad:=fun z=>by rw [z,s2 _ _ eddi] at hdi; cases hdi
 replace twdi:=fun n hn=>(twdi n hn).tups sD.tups
 generalize upd Hc di (.dK (fnD (ab.map (fun x:Int × V=>x.1)) ridi)) = HI at sD edi Fdi Bdi eddi' twdi
 clear pz ez s2
 walk_at "RD"
 subst hR
 refine jaf fun R hR=>?_
 walk_at "RD"
 refine jdq (ι:=Obj × Hp) (fun i0=>Itd ad i0.1 (gk ab)) (fun i0=>i0.2) (fun i0=>(Fz D HI i0.2∧But ad HI i0.2)∧i0.2 ad = some (.frz i0.1 (.dK (gk ab)))) (fun R' hR'=>?_) (fun i0 ok0=>?_)
 ·unfold jol
  walk_at "RD"
  refine ⟨ad,gk ab,rfl,?_⟩
  rcases (Fdi.rd had) with e | ⟨o,e⟩
  ·exact .inl ⟨e,fun o=>hR' (o,_) ⟨⟨Fz.frz hDa e,But.at ad _ _⟩,ja1⟩⟩
  ·exact .inr ⟨o,e,hR' (o,HI) ⟨⟨Fz.of (Same.refl _),But.refl _ _⟩,e⟩⟩
 obtain ⟨odo_,HFdo_⟩:=i0
 obtain ⟨⟨fdo_,btdo_⟩,eddo_⟩:=ok0
 dsimp only at fdo_ btdo_ eddo_
 intro zdo_ hzdo_
 refine jb1 ab.length (fun i σ' Hc=>∃ w1 zs ri,σ' = [w1]∧Same HFdo_ Hc∧Hc zdo_ = some (.lst zs)∧Paired (PairAt Hc) zs (fnD ((ab.map (fun x:Int × V=>x.1)).take i) ri)∧∀ n ∈ (ab.map (fun x:Int × V=>x.1)).take i,TwA K Hc (ri n) (O0 n)) ⟨none,[],fun _=>0,rfl,ja5 hzdo_ _,ja1,.nil,(fun n hn=>by cases hn)⟩ ?_ ?_
 ·rintro i σ' Hc hi ⟨w1,zs,ri,rfl,s2,ez,pz,tw⟩
  refine ⟨⟨s2 _ _ eddo_,by rw [jfk]; exact hi⟩,?_⟩
  rintro y H' ⟨rfl,kv,hkv,rfl⟩
  obtain ⟨p,hp,ekv⟩:=jsx hkv
  have hp':(ab.map (fun x:Int × V=>x.1))[i]? = some p.1:=by rw [List.getElem?_map,hp]; rfl
  have hpm:p.1 ∈ (ab.map (fun x:Int × V=>x.1)):=List.mem_of_getElem? hp'
  have hnew:=jdp htr.nd hp'
  rw [ekv]
  show jd1 0 (.int p.1) _ _ _
  walk_at "RD"
  intro t1 ht1
  have s3:=ja5 ht1 (.tup [.int 0,.int 1])
  have et1:upd H' t1 (.tup [.int 0,.int 1]) t1 = some (.tup [.int 0,.int 1]):=ja1
  generalize upd H' t1 (.tup [.int 0,.int 1]) = H3 at s3 et1
  intro t2 ht2
  have s4:=ja5 ht2 (.tup [.int p.1,.ref t1])
  have et2:upd H3 t2 (.tup [.int p.1,.ref t1]) t2 = some (.tup [.int p.1,.ref t1]):=ja1
  generalize upd H3 t2 (.tup [.int p.1,.ref t1]) = H4 at s4 et2
  have s34:=s3.trans s4
  have ez4:=s34 _ _ ez
  have hzl:zs.length ≤ 40:=by
   have:=Paired.length pz
   unfold fnD at this
   rw [List.length_map,List.length_take] at this
   have:=htr.len
   omega
  have t7:=jcg (ys:=zs ++ [.ref t2]) ez4
  refine ⟨_,ez4,szl' (by omega),_,_,(fun x=>if x = p.1 then t1 else ri x),rfl,jas (s2.trans s34) hzdo_,ja1,?_,fun n hn=>?_⟩
  ·rw [jal hp']
   have e1:fnD ((ab.map (fun x:Int × V=>x.1)).take i ++ [p.1]) (fun x=>if x = p.1 then t1 else ri x) = fnD ((ab.map (fun x:Int × V=>x.1)).take i) ri ++ [((Sum.inl p.1:Key),V.ref t1)]:=by
    unfold fnD
    rw [List.map_append,List.map_cons,List.map_nil]
    dsimp only
    rw [if_pos rfl]
    congr 1
    exact List.map_congr_left fun n hn=>by rw [if_neg (show ¬ n = p.1 from fun z=>hnew (z ▸ hn))]
   rw [e1]
   refine jay (Paired.mapP pz fun u q ⟨t,a1,a2⟩=>⟨t,a1,t7 _ _ rfl (s34 _ _ a2)⟩) ⟨t2,rfl,t7 _ _ rfl et2⟩
  ·rw [jal hp'] at hn
   show TwA K _ (if n = p.1 then t1 else ri n) _
   by_cases c:n = p.1
   ·rw [if_pos c,c]
    exact SqT.of (t7 _ _ rfl (s4 _ _ et1))
   ·rw [if_neg c]
    have hn2:n ∈ (ab.map (fun x:Int × V=>x.1)).take i:=(List.mem_append.mp hn).resolve_right fun z=>c (List.mem_singleton.mp z)
    exact ((tw n hn2).tups s34.tups).tups t7
 rintro σ' Hc ⟨w1,zs,rido_,rfl,s2,ez,pz,twdo_⟩
 refine ⟨⟨s2 _ _ eddo_,by rw [jfk]; exact Nat.le_refl _⟩,?_⟩
 have hkl:(ab.map (fun x:Int × V=>x.1)).length = ab.length:=List.length_map _
 rw [← hkl,List.take_length] at pz twdo_
 have hzl:zs.length ≤ 40:=by
  have:=Paired.length pz
  unfold fnD at this
  rw [List.length_map] at this
  have:=htr.len
  omega
 simp_arith [ez]
 refine ⟨_,pz,by omega,by rw [jl2]; exact List.pairwise_map.mpr (List.Pairwise.imp (fun h z=>h (Sum.inl.inj z)) htr.nd),fun do_ hdo_=>?_⟩
 have sD:=ja5 hdo_ (.dK (fnD (ab.map (fun x:Int × V=>x.1)) rido_))
 have edo_:upd Hc do_ (.dK (fnD (ab.map (fun x:Int × V=>x.1)) rido_)) do_ = some (.dK (fnD (ab.map (fun x:Int × V=>x.1)) rido_)):=ja1
 have Fdo_:Fz D HI (upd Hc do_ (.dK (fnD (ab.map (fun x:Int × V=>x.1)) rido_))):=(fdo_.trans (Fz.of s2)).trans (Fz.of sD)
 have nio:di ≠ do_:=fun z=>by have:=s2 _ _ (btdo_ _ _ ndi edi); rw [z,hdo_] at this; cases this
 have hdo0:H do_ = none:=((Fdi.trans fdo_).trans (Fz.of s2)).free hdo_
 have Bdo_:But ad HI (upd Hc do_ (.dK (fnD (ab.map (fun x:Int × V=>x.1)) rido_))):=fun c u nc q=>sD _ _ (s2 _ _ (btdo_ _ _ nc q))
 have eddo_':=sD _ _ (s2 _ _ eddo_)
 have ndo_:do_ ≠ ad:=fun z=>by rw [z,s2 _ _ eddo_] at hdo_; cases hdo_
 replace twdo_:=fun n hn=>(twdo_ n hn).tups sD.tups
 generalize upd Hc do_ (.dK (fnD (ab.map (fun x:Int × V=>x.1)) rido_)) = HO at sD edo_ Fdo_ Bdo_ eddo_' twdo_
 clear pz ez s2
 have edi2:HO di = some (.dK (fnD (ab.map (fun x:Int × V=>x.1)) ridi)):=Bdo_ _ _ ndi edi
 have twi:∀ n ∈ (ab.map (fun x:Int × V=>x.1)),TwA K HO (ridi n) (I0 ps n):=fun n hn=>(twdi n hn).tups Fdo_.tups
 have FH:=Fdi.trans Fdo_
 have hcdO:=FH.rd hcd
 walk_at "RD"
 subst hR
 refine jaf fun R hR=>?_
 walk_at "RD"
 subst hR
 refine jaf fun R hR=>?_
 have hlen:=htr.len
 have bd:=bd0 (zs:=(ab.map (fun x:Int × V=>x.1)).reverse) hps.pos hps.nd ((List.reverse_perm _).nodup_iff.mpr htr.nd) (fun v hv=>htr.sub v (List.mem_reverse.mp hv)) hps.sum (by rw [List.length_reverse,List.length_map]; exact hlen)
 refine tFor_hideI (ι:=Addr × Hp) (fun j=>Itv K j.1 ((ab.map (fun x:Int × V=>x.1)).map V.int)) (fun j=>j.2) (fun j=>Same HO j.2∧j.2 j.1 = some (.lst ((ab.map (fun x:Int × V=>x.1)).map V.int))) (fun R' hR'=>?_) (fun j0 ok0=>?_)
 ·unfold iRev
  simp_arith [jn6]
  refine ⟨ad,gk ab,rfl,.inr ⟨_,eddo_'⟩,fun l hl=>?_⟩
  have ek:((gk ab).map fun kv=>kV kv.1) = (ab.map (fun x:Int × V=>x.1)).map V.int:=by
   unfold gk
   rw [List.map_map,List.map_map]
   rfl
  rw [ek]
  walk_at "RD"
  exact ⟨l,_,rfl,SqL.of ja1,hR' (l,_) ⟨ja5 hl _,ja1⟩⟩
 obtain ⟨L,HL⟩:=j0
 obtain ⟨sL,eL⟩:=ok0
 dsimp only at sL eL
 have hkl2:((ab.map (fun x:Int × V=>x.1)).map V.int).length = (ab.map (fun x:Int × V=>x.1)).length:=List.length_map _
 have nLi:L ≠ di:=fun z=>by rw [z,sL _ _ edi2] at eL; cases eL
 have nLo:L ≠ do_:=fun z=>by rw [z,sL _ _ edo_] at eL; cases eL
 have ncdi:cd ≠ di:=fun z=>by rw [z] at hcd; rcases hcd with q | ⟨_,q⟩ <;> (rw [hdi0] at q; cases q)
 have ncdo:cd ≠ do_:=fun z=>by rw [z] at hcd; rcases hcd with q | ⟨_,q⟩ <;> (rw [hdo0] at q; cases q)
 have hcdL:Rd HL cd (.dK (mk cs)):=(Fz.of (D:=D) sL).rd hcdO
 refine jsz (K:=K) (a:=L) (xs:=(ab.map (fun x:Int × V=>x.1)).map V.int) (fun i σ H5=>∃ tp w6 w7 w8 ri ro I O top,σ = [some (.ref pd),some (.ref ad),some (.ref cd),some (.ref di),some (.ref do_),some (.ref tp),w6,w7,w8]∧B2 di do_ HL H5∧H5 di = some (.dK (fnD (ab.map (fun x:Int × V=>x.1)) ri))∧H5 do_ = some (.dK (fnD (ab.map (fun x:Int × V=>x.1)) ro))∧(∀ n ∈ (ab.map (fun x:Int × V=>x.1)),TwA K H5 (ri n) (I n))∧(∀ n ∈ (ab.map (fun x:Int × V=>x.1)),TwA K H5 (ro n) (O n))∧TwA K H5 tp top∧Bd I O ((ab.map (fun x:Int × V=>x.1)).reverse.drop i)∧runT par (fun v=>decide (v ∈ cs)) ((ab.map (fun x:Int × V=>x.1)).reverse.drop i) I O top = runT par (fun v=>decide (v ∈ cs)) (ab.map (fun x:Int × V=>x.1)).reverse (I0 ps) O0 NEV) ⟨aN,_,_,_,ridi,rido_,I0 ps,O0,NEV,rfl,B2.refl _ _ _,sL _ _ edi2,sL _ _ edo_,fun n hn=>(twi n hn).tups sL.tups,fun n hn=>(twdo_ n hn).tups sL.tups,hNv _,bd,rfl⟩ (fun i σ H5 _ ⟨_,_,_,_,_,_,_,_,_,_,b,_⟩=>SqL.of (b _ _ nLi nLo eL)) ?_ ?_
 ·rintro i x σ H5 hx hi ⟨tp,w6,w7,w8,ri,ro,I,O,top,rfl,b5,edi5,edo5,ti,to_,ttp,bd5,hrun⟩
  rw [hkl2] at hx hi
  rw [List.getElem?_map] at hx
  obtain ⟨v,hv,rfl⟩:=Option.map_eq_some_iff.mp hx
  have hvm:v ∈ (ab.map (fun x:Int × V=>x.1)):=List.mem_of_getElem? hv
  have hdr:(ab.map (fun x:Int × V=>x.1)).reverse.drop i = v :: (ab.map (fun x:Int × V=>x.1)).reverse.drop (i + 1):=by
   have hl:i < (ab.map (fun x:Int × V=>x.1)).reverse.length:=by rw [List.length_reverse]; exact hi
   rw [List.drop_eq_getElem_cons hl]
   congr 1
   have:=List.getElem?_eq_getElem hl
   rw [List.getElem?_reverse hi,hv] at this
   exact (Option.some.inj this).symm
  have hrn:((ab.map (fun x:Int × V=>x.1)).reverse.drop (i + 1)).Nodup:=List.Nodup.sublist (List.drop_sublist _ _) ((List.reverse_perm _).nodup_iff.mpr htr.nd)
  have htp:=je8.drop i htr.tr
  rw [hdr] at bd5 hrun htp
  have hvr:v ∉ (ab.map (fun x:Int × V=>x.1)).reverse.drop (i + 1):=by
   have:=List.Nodup.sublist (List.drop_sublist i _) ((List.reverse_perm (ab.map (fun x:Int × V=>x.1))).nodup_iff.mpr htr.nd)
   rw [hdr] at this
   exact (List.nodup_cons.mp this).1
  have hsub:∀ u ∈ (ab.map (fun x:Int × V=>x.1)).reverse.drop (i + 1),u ∈ (ab.map (fun x:Int × V=>x.1)):=fun u hu=>List.mem_reverse.mp (List.mem_of_mem_drop hu)
  generalize (ab.map (fun x:Int × V=>x.1)).reverse.drop (i + 1) = r at hdr hrn htp bd5 hrun hvr hsub
  obtain ⟨p,hp,ep⟩:=List.mem_map.mp hvm
  subst ep
  have fz5:∀ {kvs:List (Key × V)} {c:Addr},Rd HL c (.dK kvs)→c ≠ di→c ≠ do_→Rd H5 c (.dK kvs):=fun q n1 n2=>by
   rcases q with e | ⟨o,e⟩
   ·exact .inl (b5 _ _ n1 n2 e)
   ·exact .inr ⟨o,b5 _ _ n1 n2 e⟩
  simp only [jd1,List.set_cons_zero,List.set_cons_succ]
  refine jdx fun R8 D8 hR8 hD8=>?_
  have key:∀ lr,TwA K H5 lr (if decide (p.1 ∈ cs) = true then NEV else O p.1)→R8 D8 [some (.ref pd),some (.ref ad),some (.ref cd),some (.ref di),some (.ref do_),some (.ref tp),some (.int p.1),some (.ref lr),w8] H5:=by
   intro lr hlr
   subst hR8 hD8
   have hpl:=jq2 (ch:=fun v=>decide (v ∈ cs)) bd5
   refine jaf fun R7 hR7=>?_
   simp_arith [jfr]
   refine ⟨ad,p.2,rfl,.inl ⟨gk ab,Sum.inl p.1,fz5 (.inr ⟨_,sL _ _ eddo_'⟩) ndi.symm ndo_.symm,rfl,(jgf htr.nd hp).symm⟩,?_⟩
   walk_at "RD"
   subst hR7
   rcases htr.pr p hp with ⟨e1,e2⟩ | ⟨u,e1,e2⟩
   ·rw [e1]
    simp_arith [edi5,jdc ri hvm]
    refine ⟨ri p.1,lr,I p.1,_,rfl,ti _ hvm,hlr,fun r2 H6 s6 t6=>?_⟩
    rw [hpl] at t6
    walk_at "RD"
    refine ⟨r2,_,_,_,ri,ro,I,O,pluX (I p.1) (jda (fun v=>decide (v ∈ cs)) O p.1),rfl,b5.same s6,s6 _ _ edi5,s6 _ _ edo5,fun n hn=>(ti n hn).tups s6.tups,fun n hn=>(to_ n hn).tups s6.tups,t6,bd5.tail,?_⟩
    rw [← hrun]
    conv=>rhs; unfold runT
    rw [e2]
   ·have hur:u ∈ r:=by
     rcases htp.1 with ⟨_,z⟩ | ⟨_,u',z,hu'⟩
     ·rw [e2] at z; cases z
     ·rw [e2] at z; cases z; exact hu'
    have hum:=hsub u hur
    have huv:p.1 ≠ u:=fun z=>hvr (z ▸ hur)
    have bdn:=bd5.step (ch:=fun v=>decide (v ∈ cs)) hrn hur
    have hbv:=bd5.e p.1 (.head _)
    obtain ⟨x1,x2,x3,x4⟩:=jj5 (jhb (fun v=>decide (v ∈ cs)) O p.1) (a:=I p.1) (b:=O p.1) ⟨hbv.1,hbv.2.2.1⟩ ⟨hbv.2.1,hbv.2.2.2⟩
    have hph:=jnn (I:=I) (O:=O) (zs:=p.1 :: r) (fun v hv=>(bd5.e v hv).2.2) p.1 (.head _)
    have hph2:=bd5.phi
    rw [e1]
    simp_arith [edi5,jdc ri hum,jdc ri hvm]
    refine ⟨ri p.1,lr,I p.1,_,rfl,ti _ hvm,hlr,fun r2 H6 s6 t6=>?_⟩
    rw [hpl] at t6
    generalize hX:pluX (I p.1) (jda (fun v=>decide (v ∈ cs)) O p.1) = X at t6 bdn x1 x2 x3 x4
    refine ⟨ri u,r2,I u,X,rfl,(ti u hum).tups s6.tups,t6,by omega,by omega,fun r3 H7 s7 t7=>?_⟩
    have s67:=s6.trans s7
    have edi7:=s67 _ _ edi5
    have edo7:=s67 _ _ edo5
    simp_arith [edi7]
    have hsz:(fnD (ab.map (fun x:Int × V=>x.1)) ri).length < sizeLine:=by unfold fnD; rw [List.length_map,List.length_map]; exact szl' (by omega)
    refine ⟨hsz,?_⟩
    rw [jot hum]
    have tu8:=(show TupS H7 (upd H7 di (.dK (fnD (ab.map (fun x:Int × V=>x.1)) fun x=>if x = u then r3 else ri x))) from fun b o im q=>by
     rw [ja8 (fun z=>by rw [z,edi7] at q; cases q; cases im)]; exact q)
    have edi8:upd H7 di (.dK (fnD (ab.map (fun x:Int × V=>x.1)) fun x=>if x = u then r3 else ri x)) di = some (.dK (fnD (ab.map (fun x:Int × V=>x.1)) fun x=>if x = u then r3 else ri x)):=ja1
    have edo8:upd H7 di (.dK (fnD (ab.map (fun x:Int × V=>x.1)) fun x=>if x = u then r3 else ri x)) do_ = some (.dK (fnD (ab.map (fun x:Int × V=>x.1)) ro)):=by rw [ja8 nio.symm]; exact edo7
    have b8:=(b5.same s67).u1 (.dK (fnD (ab.map (fun x:Int × V=>x.1)) fun x=>if x = u then r3 else ri x))
    have t78:∀ {q:Addr} {a:Wt},TwA K H5 q a→TwA K (upd H7 di (.dK (fnD (ab.map (fun x:Int × V=>x.1)) fun x=>if x = u then r3 else ri x))) q a:=fun z=>(z.tups s67.tups).tups tu8
    have t38:=t7.tups tu8
    generalize upd H7 di (.dK (fnD (ab.map (fun x:Int × V=>x.1)) fun x=>if x = u then r3 else ri x)) = H8 at tu8 edi8 edo8 b8 t78 t38
    have hiv:valV (fnD (ab.map (fun x:Int × V=>x.1)) fun x=>if x = u then r3 else ri x) (Sum.inl p.1:Key) = some (.ref (ri p.1)):=by rw [jdc _ hvm,if_neg huv]
    simp_arith [edi8,edo8,jdc ro hum,hiv]
    refine ⟨ro u,ri p.1,O u,I p.1,rfl,t78 (to_ u hum),t78 (ti _ hvm),by omega,by omega,fun r4 H9 s9 t9=>?_⟩
    have edi9:=s9 _ _ edi8
    have edo9:=s9 _ _ edo8
    simp_arith [edo9]
    have hsz2:(fnD (ab.map (fun x:Int × V=>x.1)) ro).length < sizeLine:=by unfold fnD; rw [List.length_map,List.length_map]; exact szl' (by omega)
    refine ⟨hsz2,?_⟩
    rw [jot hum]
    have tuA:=(show TupS H9 (upd H9 do_ (.dK (fnD (ab.map (fun x:Int × V=>x.1)) fun x=>if x = u then r4 else ro x))) from fun b o im q=>by
     rw [ja8 (fun z=>by rw [z,edo9] at q; cases q; cases im)]; exact q)
    refine ⟨tp,_,_,_,_,_,setW I u (mulW (I u) X),setW O u (mulW (O u) (I p.1)),top,rfl,(b8.same s9).u2 _,by rw [ja8 nio]; exact edi9,ja1,fun n hn=>?_,fun n hn=>?_,((t78 ttp).tups s9.tups).tups tuA,bdn,?_⟩
    ·show TwA K _ (if n = u then r3 else ri n) _
     by_cases c:n = u
     ·rw [if_pos c,c,jcw]
      exact (t38.tups s9.tups).tups tuA
     ·rw [if_neg c,jb3 c]
      exact ((t78 (ti n hn)).tups s9.tups).tups tuA
    ·show TwA K _ (if n = u then r4 else ro n) _
     by_cases c:n = u
     ·rw [if_pos c,c,jcw]
      exact t9.tups tuA
     ·rw [if_neg c,jb3 c]
      exact ((t78 (to_ n hn)).tups s9.tups).tups tuA
    ·rw [← hrun]
     conv=>rhs; unfold runT
     rw [e2]
     dsimp only
     rw [hX]
  simp_arith [tDIn]
  refine ⟨cd,_,rfl,.inl ⟨mk cs,Sum.inl p.1,fz5 (hcdL) ncdi ncdo,rfl,rfl⟩,?_⟩
  rw [jnu]
  refine ⟨_,rfl,?_⟩
  by_cases c:p.1 ∈ cs
  ·dsimp only
   rw [if_pos (decide_eq_true c)]
   exact key aN (by rw [if_pos (decide_eq_true c)]; exact hNv _)
  ·dsimp only
   rw [if_neg (fun z=>c (of_decide_eq_true z))]
   simp_arith [edo5,jdc ro hvm]
   exact key (ro p.1) (by rw [if_neg (fun z=>c (of_decide_eq_true z))]; exact to_ _ hvm)
 ·rintro σ H5 ⟨tp,w6,w7,w8,ri,ro,I,O,top,rfl,b5,edi5,edo5,ti,to_,ttp,bd5,hrun⟩
  rw [hkl2] at hrun
  rw [List.drop_eq_nil_of_le (by rw [List.length_reverse]; exact Nat.le_refl _)] at hrun
  walk_at "RD"
  subst hR
  walk_at "RD"
  refine h tp H5 (fun b o e=>?_) (by rw [← hrun]; exact ttp)
  have n1:b ≠ di:=fun z=>by rw [z,hdi0] at e; cases e
  have n2:b ≠ do_:=fun z=>by rw [z,hdo0] at e; cases e
  rcases FH b o e with q | ⟨ob,kvs,q1,q,n⟩
  ·exact .inl (b5 _ _ n1 n2 (sL _ _ q))
  ·exact .inr ⟨ob,kvs,q1,b5 _ _ n1 n2 (sL _ _ q),n⟩
end
end My
namespace My
open PySem L2
section
variable {P:Program} {w:World} {K:PySem.W.Frag} {mg:Str→Option Value} {base:Heap} {c1 c2 c3 c4:Tok}
theorem jqy {par:Int→Option Int} {ch:Int→Bool}:∀ {zs:List Int} {I O:Fn} {top:Wt},zs ≠ []→zs.Nodup→je8 par zs→Bd I O zs→0 ≤ (runT par ch zs I O top).2∧(runT par ch zs I O top).2 < 18446744073709551616
 | [],_,_,_,h,_,_,_=>absurd rfl h
 | v :: r,I,O,top,_,hn,ht,bd=>by
  have hbv:=bd.e v (.head _)
  have hph:=jnn (I:=I) (O:=O) (zs:=v :: r) (fun v hv=>(bd.e v hv).2.2) v (.head _)
  have hph2:=bd.phi
  obtain ⟨x1,x2,x3,x4⟩:=jj5 (jhb ch O v) (a:=I v) (b:=O v) ⟨hbv.1,hbv.2.2.1⟩ ⟨hbv.2.1,hbv.2.2.2⟩
  unfold runT
  rcases ht.1 with ⟨e1,e2⟩ | ⟨e1,u,e2,hu⟩
  ·rw [e2,e1]
   show 0 ≤ (pluX _ _).2∧(pluX _ _).2 < _
   omega
  ·rw [e2]
   exact jqy e1 (List.nodup_cons.mp hn).2 ht.2 (bd.step (List.nodup_cons.mp hn).2 hu)
def jpc (D H:Hp) (v:V) (ab:List (Int × V)):Prop:=∃ a,v = .ref a∧Rd H a (.dK (gk ab))∧D a = none
def jrz (K:PySem.W.Frag):Sp:=fun vs H Q _=>∃ D pd ta cd ps par xs T cs,vs = [.ref pd,.ref ta,.ref cd]∧Rd H pd (.dK (jbk ps))∧H ta = some (.lst xs)∧Paired (jpc D H) xs T∧Rd H cd (.dK (mk cs))∧PsA ps∧(∀ ab ∈ T,ab ≠ []∧TrA ps par ab) ∧
 ∀ r H',Fz D H H'→TwA K H' r (jn4 par (fun v=>decide (v ∈ cs)) (I0 ps) O0 NEV (T.map fun ab=>ab.map (·.1)) (0,1))→Q (.ref r) H'
theorem jem {f:Addr} {fd:FuncData} {f_both_ways:Addr} {d_both_ways:FuncData} {f_ways_of_tree:Addr} {d_ways_of_tree:FuncData} (B:Blt mg) (D:DefAt K mg "ways_of_trees" (top 41) ["prices","trees","chosen"] f fd) (D_both_ways:DefAt K mg "both_ways" (top 39) ["one","other"] f_both_ways d_both_ways) (G_both_ways:FnOk P w K mg base CX0 1 f_both_ways d_both_ways ["one","other"] (jmy K)) (D_ways_of_tree:DefAt K mg "ways_of_tree" (top 40) ["prices","above","chosen"] f_ways_of_tree d_ways_of_tree) (G_ways_of_tree:FnOk P w K mg base CX0 2 f_ways_of_tree d_ways_of_tree ["prices","above","chosen"] (jqr K)):FnOk P w K mg base CX0 3 f fd ["prices","trees","chosen"] (jrz K):=by
 have sc:FnScope ["prices","trees","chosen","ways","above"] ["prices","trees","chosen"] (jaa (top 41)):=⟨rfl,rfl,rfl,by decide +kernel,rfl,by decide +kernel,by decide +kernel⟩
 refine D.F.ok sc (fun vs H Q E h=>?_) (fun cdv A outer s H vs Q E hr h=>?_)
 ·obtain ⟨D,pd,ta,cd,ps,par,xs,T,cs,rfl,_⟩:=h
  rfl
 obtain ⟨D,pd,ta,cd,ps,par,xs,T,cs,rfl,hpd,hta,hT,hcd,hps,hok,h⟩:=h
 have hu:=jbg hr
 have hu0:_ < PySem.cLine:=Nat.lt_of_succ_lt hu
 refine ⟨_,(ja2 (jag (i:=3) sc.nd rfl (Or.inl rfl) (jb8 (ja0 ja4 (ja0 ja4 ja3)))) (ja2 (jbu PassesOwn.never rfl (jbm (qv 1)) (jad (i:=4) sc.nd rfl (Or.inl rfl)) (ja6 (jag (i:=3) sc.nd rfl (Or.inl rfl) (ja9 G_both_ways (hr.mono (by decide)) rfl D_both_ways.m D_both_ways.F.kp D_both_ways.b .nil jan (ja0 (qv 3) (ja0 (ja9 G_ways_of_tree (hr.mono (by decide)) rfl D_ways_of_tree.m D_ways_of_tree.F.kp D_ways_of_tree.b .nil jan (ja0 (qv 0) (ja0 (qv 4) (ja0 (qv 2) ja3)))) ja3)))))) (ja6 (jah (qv 3))))),?_⟩
 refine jaf fun R hR=>?_
 walk_at "RD"
 intro wa hwa
 have s1:=ja5 hwa (.tup [.int 0,.int 1])
 have ew:upd H wa (.tup [.int 0,.int 1]) wa = some (.tup [.int 0,.int 1]):=ja1
 generalize upd H wa (.tup [.int 0,.int 1]) = H1 at s1 ew
 walk_at "RD"
 subst hR
 refine jaf fun R hR=>?_
 walk_at "RD"
 refine ⟨ta,rfl,⟨xs,SqL.of (s1 _ _ hta)⟩,?_⟩
 refine jd2 (K:=K) (a:=ta) (xs:=xs) (fun i σ H5=>∃ wr w4,σ = [some (.ref pd),some (.ref ta),some (.ref cd),some (.ref wr),w4]∧Fz D H H5∧TwA K H5 wr (jn4 par (fun v=>decide (v ∈ cs)) (I0 ps) O0 NEV ((T.take i).map fun ab:List (Int × V)=>ab.map (fun x:Int × V=>x.1)) (0,1))) ⟨wa,_,rfl,Fz.of s1,SqT.of ew⟩ (fun i σ H5 _ ⟨_,_,_,b,_⟩=>SqL.of (b.lst hta)) ?_ ?_
 ·rintro i x σ H5 hx ⟨wr,w4,rfl,f5,t5⟩
  obtain ⟨ab,hab,a,rfl,hra,hDa⟩:=jao hT hx
  have habm:=List.mem_of_getElem? hab
  obtain ⟨hne,htr⟩:=hok ab habm
  simp only [jd1,List.set_cons_zero,List.set_cons_succ]
  walk_at "RD"
  refine ⟨D,pd,a,cd,ps,par,ab,cs,rfl,hDa,f5.rd hpd,f5.rd hra,f5.rd hcd,hps,htr,fun r2 H6 f6 t6=>?_⟩
  have hb:=jqy (ch:=fun v=>decide (v ∈ cs)) (top:=NEV) (fun z=>hne (List.map_eq_nil_iff.mp (List.reverse_eq_nil_iff.mp z))) ((List.reverse_perm _).nodup_iff.mpr htr.nd) htr.tr (bd0 (zs:=(ab.map (fun x:Int × V=>x.1)).reverse) hps.pos hps.nd ((List.reverse_perm _).nodup_iff.mpr htr.nd) (fun v hv=>htr.sub v (List.mem_reverse.mp hv)) hps.sum (by rw [List.length_reverse,List.length_map]; exact htr.len))
  refine ⟨wr,r2,_,_,rfl,t5.tups f6.tups,t6,hb.1,hb.2,fun r3 H7 s7 t7=>?_⟩
  walk_at "RD"
  refine ⟨r3,_,rfl,(f5.trans f6).trans (Fz.of s7),?_⟩
  rw [jal hab,List.map_append]
  unfold jn4 at t7 ⊢
  rw [List.foldl_append]
  exact t7
 ·rintro σ H5 ⟨wr,w4,rfl,f5,t5⟩
  walk_at "RD"
  subst hR
  walk_at "RD"
  have hl:=Paired.length hT
  rw [hl,List.take_length] at t5
  exact h wr H5 f5 t5
end
end My
namespace My
open PySem L2
section
variable {P:Program} {w:World} {K:PySem.W.Frag} {mg:Str→Option Value} {base:Heap} {c1 c2 c3 c4:Tok}
def jqt:Sp:=fun vs H Q _=>∃ nd c ps ts as,vs = [.ref nd,.int c]∧Rd H nd (.dK (kz ps as))∧as.length = ps.length∧jhk H ps ts as∧Ends ps ts∧(ps.map (·.1)).Nodup∧ps.length ≤ 40∧ts.length ≤ 120∧c ∈ ps.map (·.1)∧Gro ts∧∀ H',Same H H'→Q .non H'
theorem ji4 {f:Addr} {fd:FuncData} {f_met_from:Addr} {d_met_from:FuncData} (B:Blt mg) (D:DefAt K mg "ring_from" (top 35) ["nears","place"] f fd) (D_met_from:DefAt K mg "met_from" (top 32) ["nears","place"] f_met_from d_met_from) (G_met_from:FnOk P w K mg base CX0 1 f_met_from d_met_from ["nears","place"] js0):FnOk P w K mg base CX0 2 f fd ["nears","place"] jqt:=by
 have sc:FnScope ["nears","place","above","here","there"] ["nears","place"] (jaa (top 35)):=⟨rfl,rfl,rfl,by decide +kernel,rfl,by decide +kernel,by decide +kernel⟩
 refine D.F.ok sc (fun vs H Q E h=>?_) (fun cdv A outer s H vs Q E hr h=>?_)
 ·obtain ⟨nd,c,ps,ts,as,rfl,_⟩:=h
  rfl
 obtain ⟨nd,c,ps,ts,as,rfl,hrd,hla,hne,hen,hnd,hpl,htl,hc,hgr,h⟩:=h
 have hu:=jbg hr
 have hu0:_ < PySem.cLine:=Nat.lt_of_succ_lt hu
 refine ⟨_,(ja2 (jag (i:=2) sc.nd rfl (Or.inl rfl) (ja9 G_met_from (hr.mono (by decide)) rfl D_met_from.m D_met_from.F.kp D_met_from.b .nil jan (ja0 (qv 0) (ja0 (qv 1) ja3)))) (ja2 (jbu PassesOwn.never rfl (jj8 (qv 2)) (jad (i:=3) sc.nd rfl (Or.inl rfl)) (ja6 (jbu PassesOwn.never rfl (jbm (jca hu (qv 0) (qv 3) (fun _ _=>rfl))) (jad (i:=4) sc.nd rfl (Or.inl rfl)) (ja6 (jbd (PW.pt (jhx (jaw q_neO (jca hu (qv 2) (qv 3) (fun _ _=>rfl)) (qv 4) (jap _)) (jf5 (jaw q_neO (jca hu (qv 2) (qv 4) (fun _ _=>rfl)) (qv 3) (jap _))))) (ja6 jci) jak))))) (ja6 (jah jg7)))),?_⟩
 walk_at "RD"
 refine ⟨nd,c,ps,ts,as,rfl,hrd,hla,hne,hen,hnd,hpl,htl,hc,fun md H1 ab hmd s1 em mok hal=>?_⟩
 have hgt:=jkz hgr mok
 walk_at "RD"
 refine tFor_hideI (ι:=Obj) (fun o=>Itd md o (gk ab)) (fun o=>upd H1 md (.frz o (.dK (gk ab)))) (fun _=>True) (fun R hR=>?_) (fun o _=>?_)
 ·unfold iDct
  walk_at "RD"
  exact ⟨md,_,rfl,em,fun o=>hR o trivial⟩
 have s2:Same H (upd H1 md (.frz o (.dK (gk ab)))):=jas s1 hmd
 have em2:upd H1 md (.frz o (.dK (gk ab))) md = some (.frz o (.dK (gk ab))):=ja1
 generalize upd H1 md (.frz o (.dK (gk ab))) = H2 at s2 em2
 refine jez (fun j σ H3=>∃ v1 v2,σ = [some (.ref nd),some (.int c),some (.ref md),v1,v2]∧H3 = H2) ⟨none,none,rfl,rfl⟩ (fun j σ H3 _ ⟨_,_,_,e⟩=>by rw [e]; exact em2) ?_ ?_
 ·rintro j kv σ H3 hj ⟨v1,v2,rfl,rfl⟩
  obtain ⟨p0,hp0,ekv⟩:=jsx hj
  rw [ekv]
  show jd1 3 (.int p0.1) _ _ _
  have hp0m:=List.mem_of_getElem? hp0
  have hxk:p0.1 ∈ ab.map (·.1):=List.mem_map_of_mem hp0m
  have hxr:=(mok.all _).mp hxk
  have hxp:p0.1 ∈ ps.map (·.1):=hxr.pl hen hc
  obtain ⟨p,hp,epx⟩:=List.mem_map.mp hxp
  obtain ⟨k,hk0,epk⟩:=List.mem_iff_getElem.mp hp
  have xi:ps[k]? = some p:=by rw [List.getElem?_eq_getElem hk0,epk]
  have ai:as[k]? = some (as[k]'(by omega)):=List.getElem?_eq_getElem _
  generalize as[k]'(by omega) = ax at ai
  have eax:=hne k p ax xi ai
  rw [epx] at eax
  have vax:=jgc hnd xi ai
  rw [epx] at vax
  walk_at "RD"
  refine jco (Itl K ax) H3 (fun R hR=>?_) (jd2 (K:=K) (a:=ax) (xs:=(jar ts p0.1).map V.int) (fun j σ H4=>∃ v2,σ = [some (.ref nd),some (.int c),some (.ref md),some (.int p0.1),v2]∧H4 = H3) ⟨_,rfl,rfl⟩ (fun j σ H4 _ ⟨_,_,e⟩=>by rw [e]; exact SqL.of (s2 _ _ eax)) ?_ ?_)
  ·unfold jdm
   walk_at "RD"
   exact ⟨nd,_,rfl,.inl ⟨_,Sum.inl p0.1,My.Rd.same hrd s2,rfl,vax.symm⟩,ax,rfl,⟨_,SqL.of (s2 _ _ eax)⟩,hR⟩
  ·rintro i y σ H4 hi ⟨v2,rfl,rfl⟩
   rw [List.getElem?_map] at hi
   obtain ⟨n,hn,rfl⟩:=Option.map_eq_some_iff.mp hi
   have hnn:n ∈ jar ts p0.1:=List.mem_of_getElem? hn
   have hnk:=(mok.all _).mpr (.step hxr hnn)
   have hab:(p0.1,V.int n) ∈ ab ∨ (n,V.int p0.1) ∈ ab:=by
    rcases (jbl hgr.lt).mp hnn with ht | ht
    ·exact hgt _ ht hxk
    ·exact (hgt _ ht hnk).symm
   obtain ⟨q,hq,eq⟩:=List.mem_map.mp hnk
   have eq':q.1 = n:=eq
   have vx:=jgf mok.nd hp0m
   have vn:=jgf mok.nd hq
   rw [eq'] at vn
   simp only [jd1,List.set_cons_zero,List.set_cons_succ]
   simp_arith [jfr]
   refine ⟨md,p0.2,rfl,.inl ⟨gk ab,Sum.inl p0.1,.inr ⟨o,em2⟩,rfl,vx.symm⟩,?_⟩
   rcases hab with ha | ha
   ·have e:p0.2 = .int n:=by
     have:=jgf mok.nd ha
     rw [vx] at this
     exact Option.some.inj this
    rw [e]
    show (if (!decide (n = n)) = true then _ else _)
    rw [decide_eq_true rfl,if_neg (by simp)]
    exact ⟨_,rfl,rfl⟩
   ·have e2:q.2 = .int p0.1:=by
     have:=jgf mok.nd ha
     rw [vn] at this
     exact Option.some.inj this
    have fin:∀ Qx:V→Hp→Prop,Qx (.bl false) H4→∃ a v,V.ref md = V.ref a∧DGet H4 a (V.int n) (some v)∧fNeO v (V.int p0.1) H4 Qx:=fun Qx hq=>⟨md,q.2,rfl,.inl ⟨gk ab,Sum.inl n,.inr ⟨o,em2⟩,rfl,vn.symm⟩,by
     rw [e2]
     show Qx (.bl (!decide (p0.1 = p0.1))) H4
     rw [decide_eq_true rfl]
     exact hq⟩
    have two:∀ e:Bool,(if e = true then (∃ a v,V.ref md = V.ref a∧DGet H4 a (V.int n) (some v)∧fNeO v (V.int p0.1) H4 fun x H1=>match x with
      | .bl c2=>if c2 = true then False else ∃ v2,[some (V.ref nd),some (V.int c),some (V.ref md),some (V.int p0.1),some (V.int n)] = [some (V.ref nd),some (V.int c),some (V.ref md),some (V.int p0.1),v2]∧H1 = H4
      | _=>False) else ∃ v2,[some (V.ref nd),some (V.int c),some (V.ref md),some (V.int p0.1),some (V.int n)] = [some (V.ref nd),some (V.int c),some (V.ref md),some (V.int p0.1),v2]∧H4 = H4):=fun e=>by
     cases e
     ·rw [if_neg Bool.false_ne_true]; exact ⟨_,rfl,rfl⟩
     ·rw [if_pos rfl]
      refine fin _ ?_
      show (if false = true then _ else _)
      rw [if_neg Bool.false_ne_true]; exact ⟨_,rfl,rfl⟩
    rcases mok.tree j p0 hp0 with ⟨e,_⟩ | ⟨m,e,_⟩
    ·rw [e]; exact two true
    ·rw [e]; exact two (!decide (m = n))
  ·rintro σ H4 ⟨v2,rfl,rfl⟩
   first | exact ⟨_,_,rfl,rfl⟩ | rfl | simp
 ·rintro σ H3 ⟨v1,v2,rfl,rfl⟩
  walk_at "RD"
  exact h H3 s2
end
end My
namespace My
open PySem L2
section
variable {P:Program} {w:World} {K:PySem.W.Frag} {mg:Str→Option Value} {base:Heap} {c1 c2 c3 c4:Tok}
theorem Fz.upd {D H H':Hp} {b:Addr} {o:HO} (f:Fz D H H') (h:H b = none):Fz D H (upd H' b o):=fun c u e=>by
 have n:c ≠ b:=fun z=>by rw [z,h] at e; cases e
 rcases f c u e with q | ⟨ob,kvs,z,q,m⟩
 ·exact .inl (by rw [ja8 n]; exact q)
 ·exact .inr ⟨ob,kvs,z,by rw [ja8 n]; exact q,m⟩
def jpb (D H:Hp) (md:Addr) (v:V) (ab:List (Int × V)):Prop:=∃ a,v = .ref a∧H a = some (.dK (gk ab))∧a ≠ md∧D a = none
def jhu:Sp:=fun vs H Q _=>∃ D nd ps ts as,vs = [.ref nd]∧D nd = none∧(∀ b,H b = none→D b = none)∧H nd = some (.dK (kz ps as))∧as.length = ps.length∧jhk H ps ts as∧Ends ps ts∧(ps.map (·.1)).Nodup∧ps.length ≤ 40∧ts.length ≤ 120∧Gro ts ∧
 ∀ tl xs T H',Fz D H H'→H' tl = some (.lst xs)→Paired (jpc D H') xs T→TrI ps ts T→(∀ n ∈ ps.map (·.1),n ∈ (T.flatten).map (·.1))→Q (.ref tl) H'
theorem jj9 {f:Addr} {fd:FuncData} {f_ring_from:Addr} {d_ring_from:FuncData} {f_met_from:Addr} {d_met_from:FuncData} (B:Blt mg) (D:DefAt K mg "trees_of" (top 42) ["nears"] f fd) (D_ring_from:DefAt K mg "ring_from" (top 35) ["nears","place"] f_ring_from d_ring_from) (G_ring_from:FnOk P w K mg base CX0 2 f_ring_from d_ring_from ["nears","place"] jqt) (D_met_from:DefAt K mg "met_from" (top 32) ["nears","place"] f_met_from d_met_from) (G_met_from:FnOk P w K mg base CX0 1 f_met_from d_met_from ["nears","place"] js0):FnOk P w K mg base CX0 3 f fd ["nears"] jhu:=by
 have sc:FnScope ["nears","met","trees","place","ring","above"] ["nears"] (jaa (top 42)):=⟨rfl,rfl,rfl,by decide +kernel,rfl,by decide +kernel,by decide +kernel⟩
 refine D.F.ok sc (fun vs H Q E h=>?_) (fun cdv A outer s H vs Q E hr h=>?_)
 ·obtain ⟨D,nd,ps,ts,as,rfl,_⟩:=h
  rfl
 obtain ⟨D,nd,ps,ts,as,rfl,hDn,hDo,hnd0,hla,hne,hen,hnd,hpl,htl9,hgr,h⟩:=h
 have hu:=jbg hr
 have hu0:_ < PySem.cLine:=Nat.lt_of_succ_lt hu
 refine ⟨_,(ja2 (jag (i:=1) sc.nd rfl (Or.inl rfl) jgy) (ja2 (jag (i:=2) sc.nd rfl (Or.inl rfl) (jc9 ja3)) (ja2 (jbu PassesOwn.never rfl (jj8 (qv 0)) (jad (i:=3) sc.nd rfl (Or.inl rfl)) (ja6 (jbd (qt_pc (jkj hu (qv 3) (qv 1))) (ja2 (jag (i:=4) sc.nd rfl (Or.inl rfl) (ja9 G_ring_from (hr.mono (by decide)) rfl D_ring_from.m D_ring_from.F.kp D_ring_from.b .nil jan (ja0 (qv 0) (ja0 (qv 3) ja3)))) (ja2 (jbd (jaw q_notN (qv 4) jg7 (jap _)) (ja6 jci) jak) (ja2 (jag (i:=5) sc.nd rfl (Or.inl rfl) (ja9 G_met_from (hr.mono (by decide)) rfl D_met_from.m D_met_from.F.kp D_met_from.b .nil jan (ja0 (qv 0) (ja0 (qv 3) ja3)))) (ja2 (jc3 (js9 (qv 1) (qv 5))) (ja6 (jc3 (q_bm PySem.F.plainAttrs_list PySem.F.slot_list_append PySem.F.type_list_append jdi (qv 2) (ja0 (qv 5) ja3)))))))) jak))) (ja6 (jah (qv 2)))))),?_⟩
 walk_at "RD"
 intro md hmd
 have s1:=ja5 hmd (.dK [])
 have em1:upd H md (.dK []) md = some (.dK []):=ja1
 generalize upd H md (.dK []) = H1 at s1 em1
 walk_at "RD"
 intro tl htl
 have s2:=ja5 htl (.lst [])
 have et2:upd H1 tl (.lst []) tl = some (.lst []):=ja1
 have htl0:H tl = none:=s1.free htl
 have em2:=s2 _ _ em1
 have nmt:md ≠ tl:=ja7 em1 htl
 have s12:=s1.trans s2
 generalize upd H1 tl (.lst []) = H2 at s2 et2 em2 s12
 have en2:=s12 _ _ hnd0
 have nnm:nd ≠ md:=ja7 hnd0 hmd
 have nnt:nd ≠ tl:=ja7 hnd0 htl0
 walk_at "RD"
 have hkl:=kz_len hla
 refine tFor_hideI (ι:=Obj) (fun o=>Itd nd o (kz ps as)) (fun o=>upd H2 nd (.frz o (.dK (kz ps as)))) (fun _=>True) (fun R hR=>?_) (fun o _=>?_)
 ·unfold iDct
  walk_at "RD"
  exact ⟨nd,_,rfl,en2,fun o=>hR o trivial⟩
 have f3:Fz D H (upd H2 nd (.frz o (.dK (kz ps as)))):=(Fz.of s12).trans (Fz.frz hDn en2)
 have en3:upd H2 nd (.frz o (.dK (kz ps as))) nd = some (.frz o (.dK (kz ps as))):=ja1
 have em3:upd H2 nd (.frz o (.dK (kz ps as))) md = some (.dK []):=by rw [ja8 nnm.symm]; exact em2
 have et3:upd H2 nd (.frz o (.dK (kz ps as))) tl = some (.lst []):=by rw [ja8 nnt.symm]; exact et2
 generalize upd H2 nd (.frz o (.dK (kz ps as))) = H3 at f3 en3 em3 et3
 clear en2 et2 em2 s12 s2
 have hne5:∀ {H5:Hp},Fz D H H5→jhk H5 ps ts as:=fun f5 i p a h1 h2=>f5.lst (hne i p a h1 h2)
 refine jez (fun j σ H5=>∃ v1 v2 v3 xs T,σ = [some (.ref nd),some (.ref md),some (.ref tl),v1,v2,v3]∧Fz D H H5∧H5 nd = some (.frz o (.dK (kz ps as)))∧H5 md = some (.dK (gk (List.flatten T)))∧H5 tl = some (.lst xs)∧Paired (jpb D H5 md) xs T∧TrI ps ts T∧xs.length ≤ j∧∀ n ∈ (ps.take j).map (fun x:Int × Int=>x.1),n ∈ ((List.flatten T).map (fun x:Int × V=>x.1))) ⟨none,none,none,[],[],rfl,f3,en3,em3,et3,.nil,TrI.nil _ _,Nat.le_refl _,(fun n hn=>by cases hn)⟩ (fun j σ H5 _ ⟨_,_,_,_,_,_,_,en5,_⟩=>en5) ?_ ?_
 ·rintro j kv σ H5 hj ⟨v1,v2,v3,xs,T,rfl,f5,en5,em5,et5,pT,tri,hxl,hcov⟩
  obtain ⟨p,pa,hp,_,ekv⟩:=jq8 hla hj
  rw [ekv]
  have hpm:p ∈ ps:=List.mem_of_getElem? hp
  have hpn:p.1 ∈ ps.map (·.1):=List.mem_map_of_mem hpm
  have hjl:j < ps.length:=(List.getElem?_eq_some_iff.mp hp).1
  show jd1 3 (.int p.1) _ _ _
  simp_arith [em5,jop]
  by_cases cf:p.1 ∈ (T.flatten).map (·.1)
  ·rw [decide_eq_true cf]
   walk_at "RD"
   refine ⟨_,_,_,xs,T,rfl,f5,en5,(by first | exact em5 | rfl),et5,pT,tri,by omega,fun n hn=>?_⟩
   rw [jal hp,List.map_append,List.mem_append] at hn
   rcases hn with hn | hn
   ·exact hcov n hn
   ·rw [List.mem_singleton.mp hn]; exact cf
  ·rw [decide_eq_false cf]
   walk_at "RD"
   refine ⟨nd,p.1,ps,ts,as,rfl,.inr ⟨o,en5⟩,hla,hne5 f5,hen,hnd,hpl,htl9,hpn,hgr,fun H6 s6=>?_⟩
   walk_at "RD"
   refine ⟨nd,p.1,ps,ts,as,rfl,.inr ⟨o,s6 _ _ en5⟩,hla,hne5 (f5.trans (Fz.of s6)),hen,hnd,hpl,htl9,hpn,fun ad H7 ab had s7 ead mok hal=>?_⟩
   have s57:=s6.trans s7
   have f7:=f5.trans (Fz.of s57)
   have em7:=s57 _ _ em5
   have et7:=s57 _ _ et5
   have nma:md ≠ ad:=ja7 (s6 _ _ em5) had
   have nta:tl ≠ ad:=ja7 (s6 _ _ et5) had
   have tri2:=tri.put hen hpn cf mok
   have dis:∀ n ∈ ab.map (fun x:Int × V=>x.1),n ∉ (T.flatten).map (fun x:Int × V=>x.1):=fun n h1 h2=>by
    have:=tri2.nd
    rw [jct,List.map_append,List.nodup_append] at this
    exact this.2.2 n h2 n h1 rfl
   have hfl:(T.flatten).length ≤ 40:=by
    have:=jd7 tri.nd tri.sub
    rw [List.length_map,List.length_map] at this
    omega
   walk_at "RD"
   refine ⟨md,rfl,.inl ⟨_,.inl em7⟩,ad,gk T.flatten,gk ab,rfl,nma,em7,ead,by rw [jfk,jfk]; omega,?_⟩
   rw [jl0 dis mok.nd]
   have k8:∀ b u,b ≠ md→H5 b = some u→upd H7 md (.dK (gk (T.flatten ++ ab))) b = some u:=fun b u nb q=>by rw [ja8 nb]; exact s57 _ _ q
   have em8:upd H7 md (.dK (gk (T.flatten ++ ab))) md = some (.dK (gk (T.flatten ++ ab))):=ja1
   have ea8:upd H7 md (.dK (gk (T.flatten ++ ab))) ad = some (.dK (gk ab)):=by rw [ja8 nma.symm]; exact ead
   have f8:Fz D H (upd H7 md (.dK (gk (T.flatten ++ ab)))):=f7.upd hmd
   have et8:=k8 tl _ nmt.symm et5
   have en8:=k8 nd _ nnm en5
   have pT8:Paired (jpb D (upd H7 md (.dK (gk (T.flatten ++ ab)))) md) xs T:=Paired.mapP pT fun _ _ ⟨a,e1,e2,e3,e4⟩=>⟨a,e1,k8 _ _ e3 e2,e3,e4⟩
   generalize upd H7 md (.dK (gk (T.flatten ++ ab))) = H8 at em8 ea8 f8 et8 en8 pT8
   simp_arith [et8]
   refine ⟨⟨tl,xs,rfl,et8⟩,szl' (by omega),_,_,_,xs ++ [.ref ad],T ++ [ab],rfl,f8.upd htl0,by rw [ja8 nnt]; exact en8,by rw [ja8 nmt,jct]; exact em8,ja1,jay (Paired.mapP pT8 fun _ _ ⟨a,e1,e2,e3,e4⟩=>⟨a,e1,by rw [ja8 (fun z=>by rw [z,et8] at e2; cases e2)]; exact e2,e3,e4⟩) ⟨ad,rfl,by rw [ja8 nta.symm]; exact ea8,nma.symm,hDo _ ((f5.trans (Fz.of s6)).free had)⟩,tri2,by rw [List.length_append]; simp only [List.length_singleton]; omega,fun n hn=>?_⟩
   rw [jct,List.map_append,List.mem_append]
   rw [jal hp,List.map_append,List.mem_append] at hn
   rcases hn with hn | hn
   ·exact .inl (hcov n hn)
   ·rw [List.mem_singleton.mp hn]; exact .inr ((mok.all _).mpr .refl)
 rintro σ H5 ⟨v1,v2,v3,xs,T,rfl,f5,en5,em5,et5,pT,tri,hxl,hcov⟩
 rw [hkl,List.take_length] at hcov
 walk_at "RD"
 exact h tl xs T H5 f5 et5 (Paired.mapP pT fun _ _ ⟨a,e1,e2,_,e4⟩=>⟨a,e1,.inl e2,e4⟩) tri hcov
end
end My
namespace My
open PySem L2
section
variable {P:Program} {w:World} {K:PySem.W.Frag} {mg:Str→Option Value} {base:Heap} {c1 c2 c3 c4:Tok}
theorem PlOk.sum:∀ {ps:List (Int × Int)} {l s:Int},s ≤ 1000000000000→PlOk l s ps→s + (ps.map (·.2)).sum ≤ 1000000000000
 | [],_,_,hs,_=>by rw [List.map_nil,List.sum_nil]; omega
 | p :: r,l,s,hs,h=>by
  have:=PlOk.sum (s:=s + p.2) (by have:=h.1.2.2.2; omega) h.2
  rw [List.map_cons,List.sum_cons]
  omega
theorem WebOk.psa {ps ts:List (Int × Int)} (h:WebOk ps ts):PsA ps:=⟨h.p.nodup,h.p.pos,by have:=PlOk.sum (by omega) h.p; omega⟩
theorem jqn {ps ts:List (Int × Int)} {T:List (List (Int × V))} (tri:TrI ps ts T) (trs:Trs ps ts T) (hpl:ps.length ≤ 40):∀ ab ∈ T,ab ≠ []∧TrA ps (parV T.flatten) ab:=fun ab hab=>by
 have sub:∀ p ∈ ab,p ∈ T.flatten:=fun p hp=>List.mem_flatten.mpr ⟨ab,hab,hp⟩
 have hnd:(ab.map (·.1)).Nodup:=by
  obtain ⟨c,m⟩:=tri.met ab hab
  exact m.nd
 have hsb:∀ n ∈ ab.map (·.1),n ∈ ps.map (·.1):=fun n hn=>by
  obtain ⟨p,hp,e⟩:=List.mem_map.mp hn
  exact tri.sub n (e ▸ List.mem_map_of_mem (sub p hp))
 refine ⟨(trs.tr ab hab).1,hnd,hsb,(trs.tr ab hab).2,fun p hp=>?_,?_⟩
 ·obtain ⟨c,m⟩:=tri.met ab hab
  obtain ⟨i,hi⟩:=List.getElem?_of_mem hp
  rcases m.tree i p hi with ⟨e,_⟩ | ⟨k,e,_⟩
  ·exact .inl ⟨e,jkq trs.nd (by rw [← e]; exact sub p hp)⟩
  ·exact .inr ⟨k,e,jew trs.nd (by rw [← e]; exact sub p hp)⟩
 ·have:=jd7 hnd hsb
  rw [List.length_map,List.length_map] at this
  omega
def jmv (K:PySem.W.Frag):Sp:=fun vs H Q _=>∃ D pd ta ps ts xs T,vs = [.ref pd,.ref ta,.int (jac ps ts).1]∧D pd = none∧Rd H pd (.dK (jbk ps))∧H ta = some (.lst xs)∧Paired (jpc D H) xs T∧WebOk ps ts∧TrI ps ts T∧Trs ps ts T ∧
 ∀ l H',H l = none→Fz D H H'→H' l = some (.lst ((jac ps ts).2.2.1.map V.int))→Q (.ref l) H'
theorem kvs_at {ps:List (Int × Int)} {j:Nat} {kv:Key × V} (h:(jbk ps)[j]? = some kv):∃ p,ps[j]? = some p∧kv.1 = Sum.inl p.1:=by
 unfold jbk at h
 rw [List.getElem?_map] at h
 obtain ⟨p,hp,rfl⟩:=Option.map_eq_some_iff.mp h
 exact ⟨p,hp,rfl⟩
theorem PlOk.srt:∀ {ps:List (Int × Int)} {l s:Int},PlOk l s ps→(ps.map (·.1)).Pairwise (· < ·)
 | [],_,_,_=>.nil
 | p :: r,l,s,h=>by
  rw [List.map_cons]
  exact .cons (fun n hn=>by
   obtain ⟨q,hq,e⟩:=List.mem_map.mp hn
   rw [← e]
   exact PlOk.gt h.2 q hq) (PlOk.srt h.2)
theorem jbo:∀ {l ns:List Int},ns.Nodup→l.Sublist ns→ns.filter (fun n=>decide (n ∈ l)) = l
 | l,[],_,h=>by rw [List.sublist_nil.mp h]; rfl
 | l,n :: r,hn,h=>by
  rw [List.nodup_cons] at hn
  cases h with
  | cons _ h =>
   have:n ∉ l:=fun z=>hn.1 (h.subset z)
   rw [List.filter_cons,if_neg (by rw [decide_eq_false this]; exact Bool.false_ne_true)]
   exact jbo hn.2 h
  | cons_cons _ h =>
   rename_i l'
   rw [List.filter_cons,if_pos (by rw [decide_eq_true List.mem_cons_self])]
   congr 1
   rw [← jbo hn.2 h]
   refine List.filter_congr fun x hx=>?_
   rw [jbo hn.2 h]
   have:x ≠ n:=fun z=>hn.1 (z ▸ hx)
   by_cases c:x ∈ l'
   ·rw [decide_eq_true c,decide_eq_true (List.mem_cons_of_mem _ c)]
   ·rw [decide_eq_false c,decide_eq_false fun z=>(List.mem_cons.mp z).elim this c]
theorem jfw {f:Addr} {fd:FuncData} {f_ways_of_trees:Addr} {d_ways_of_trees:FuncData} (B:Blt mg) (D:DefAt K mg "first_least" (top 43) ["prices","trees","least"] f fd) (D_ways_of_trees:DefAt K mg "ways_of_trees" (top 41) ["prices","trees","chosen"] f_ways_of_trees d_ways_of_trees) (G_ways_of_trees:FnOk P w K mg base CX0 3 f_ways_of_trees d_ways_of_trees ["prices","trees","chosen"] (jrz K)):FnOk P w K mg base CX0 4 f fd ["prices","trees","least"] (jmv K):=by
 have sc:FnScope ["prices","trees","least","chosen","place","more"] ["prices","trees","least"] (jaa (top 43)):=⟨rfl,rfl,rfl,by decide +kernel,rfl,by decide +kernel,by decide +kernel⟩
 refine D.F.ok sc (fun vs H Q E h=>?_) (fun cdv A outer s H vs Q E hr h=>?_)
 ·obtain ⟨D,pd,ta,ps,ts,xs,T,rfl,_⟩:=h
  rfl
 obtain ⟨D,pd,ta,ps,ts,xs,T,rfl,hDp,hpd,hta,hT,wok,tri,trs,h⟩:=h
 have hu:=jbg hr
 have hu0:_ < PySem.cLine:=Nat.lt_of_succ_lt hu
 refine ⟨_,(ja2 (jag (i:=3) sc.nd rfl (Or.inl rfl) jgy) (ja2 (jbu PassesOwn.never rfl (jeu (qv 0)) (jad (i:=4) sc.nd rfl (Or.inl rfl)) (ja2 (jag (i:=5) sc.nd rfl (Or.inl rfl) (jbe (jly rfl) rfl B.dict PyProof.Rows.boot_dict (ja0 (qv 3) ja3))) (ja2 (jki hu (qv 5) (qv 4) je0) (ja6 (jbd (jaw q_eq (jae jcm (ja9 G_ways_of_trees (hr.mono (by decide)) rfl D_ways_of_trees.m D_ways_of_trees.F.kp D_ways_of_trees.b .nil jan (ja0 (qv 0) (ja0 (qv 1) (ja0 (qv 5) ja3)))) ja4 (fun _ _=>rfl)) (qv 2) (jap _)) (ja6 (jag (i:=3) sc.nd rfl (Or.inl rfl) (qv 5))) jak))))) (ja6 (jah (jbe (jgi rfl) rfl B.list PyProof.Rows.boot_list (ja0 (qv 3) ja3)))))),?_⟩
 have hnd:=wok.p.nodup
 have okl:=wok.pl
 walk_at "RD"
 intro ch0 hch0
 have s1:=ja5 hch0 (.dK [])
 have ec1:upd H ch0 (.dK []) ch0 = some (.dK []):=ja1
 generalize upd H ch0 (.dK []) = H1 at s1 ec1
 walk_at "RD"
 have f1:=Fz.of (D:=D) s1
 refine tFor_hideI (ι:=Obj × Hp) (fun i0=>Itd pd i0.1 (jbk ps)) (fun i0=>i0.2) (fun i0=>Fz D H1 i0.2∧i0.2 pd = some (.frz i0.1 (.dK (jbk ps)))) (fun R' hR'=>?_) (fun i0 ok0=>?_)
 ·unfold jol
  walk_at "RD"
  refine ⟨pd,jbk ps,rfl,?_⟩
  rcases (f1.rd hpd) with e | ⟨o,e⟩
  ·exact .inl ⟨e,fun o=>hR' (o,_) ⟨Fz.frz hDp e,ja1⟩⟩
  ·exact .inr ⟨o,e,hR' (o,H1) ⟨Fz.of (Same.refl _),e⟩⟩
 obtain ⟨o,H2⟩:=i0
 obtain ⟨f2,ep2⟩:=ok0
 dsimp only at f2 ep2
 have hkl:(jbk ps).length = ps.length:=by unfold jbk; rw [List.length_map]
 refine jez (fun j σ H5=>∃ cd v1 v2,σ = [some (.ref pd),some (.ref ta),some (.int (jac ps ts).1),some (.ref cd),v1,v2]∧Fz D H H5∧H5 pd = some (.frz o (.dK (jbk ps)))∧Rd H5 cd (.dK (mk (((ps.take j).map (fun x:Int × Int=>x.1)).filter fun n=>decide (n ∈ (jac ps ts).2.2.1))))) ⟨ch0,none,none,rfl,f1.trans f2,ep2,f2.rd (.inl ec1)⟩ (fun j σ H5 _ ⟨_,_,_,_,_,e,_⟩=>e) ?_ ?_
 ·rintro j kv σ H5 hj ⟨cd,v1,v2,rfl,f5,ep5,rc⟩
  obtain ⟨p,hp,ekv⟩:=kvs_at hj
  rw [ekv]
  have hpm:p ∈ ps:=List.mem_of_getElem? hp
  have hpn:p.1 ∈ ps.map (·.1):=List.mem_map_of_mem hpm
  have hjl:j < ps.length:=(List.getElem?_eq_some_iff.mp hp).1
  have hnj:p.1 ∉ (ps.take j).map (fun x:Int × Int=>x.1):=fun z=>by
   rw [List.map_take] at z
   exact jdp hnd (by rw [List.getElem?_map,hp]; rfl) z
  have hcs:((ps.take (j + 1)).map (fun x:Int × Int=>x.1)).filter (fun n=>decide (n ∈ (jac ps ts).2.2.1)) = if p.1 ∈ (jac ps ts).2.2.1 then (((ps.take j).map (fun x:Int × Int=>x.1)).filter fun n=>decide (n ∈ (jac ps ts).2.2.1)) ++ [p.1] else (((ps.take j).map (fun x:Int × Int=>x.1)).filter fun n=>decide (n ∈ (jac ps ts).2.2.1)):=by
   rw [jal hp,List.map_append,List.filter_append]
   by_cases c:p.1 ∈ (jac ps ts).2.2.1
   ·rw [if_pos c]; congr 1; show List.filter _ [p.1] = _; rw [List.filter_cons,if_pos (decide_eq_true c)]; rfl
   ·rw [if_neg c]; show _ ++ List.filter _ [p.1] = _; rw [List.filter_cons,if_neg (fun z=>c (of_decide_eq_true z))]; exact List.append_nil _
  have hst:=jlt wok wok.p.srt hp (ch:=fun v=>decide (v ∈ (((ps.take j).map (fun x:Int × Int=>x.1)).filter fun n=>decide (n ∈ (jac ps ts).2.2.1)) ++ [p.1])) (fun v=>by
   rw [decide_eq_true_iff,List.mem_append,List.mem_filter,List.mem_singleton,decide_eq_true_iff]
   exact Or.comm)
  have hcn:(((ps.take j).map (fun x:Int × Int=>x.1)).filter fun n=>decide (n ∈ (jac ps ts).2.2.1)).Nodup:=List.Nodup.sublist List.filter_sublist (List.Nodup.sublist (List.Sublist.map _ (List.take_sublist _ _)) hnd)
  have hcl:(((ps.take j).map (fun x:Int × Int=>x.1)).filter fun n=>decide (n ∈ (jac ps ts).2.2.1)).length ≤ 40:=by
   have:=jd7 hcn (L:=ps.map (·.1)) (fun n hn=>(List.Sublist.map _ (List.take_sublist j ps)).subset (List.mem_filter.mp hn).1)
   rw [List.length_map] at this
   omega
  have hpc:p.1 ∉ (((ps.take j).map (fun x:Int × Int=>x.1)).filter fun n=>decide (n ∈ (jac ps ts).2.2.1)):=fun z=>hnj (List.mem_filter.mp z).1
  generalize (((ps.take j).map (fun x:Int × Int=>x.1)).filter fun n=>decide (n ∈ (jac ps ts).2.2.1)) = cs at hcs hst hcn hcl hpc rc
  show jd1 4 (.int p.1) _ _ _
  simp_arith [jqz]
  have hml:(mk cs).length ≤ 40:=by unfold mk; rw [List.length_map]; exact hcl
  refine ⟨cd,mk cs,rfl,rc,by omega,fun md hmd=>?_⟩
  have em0:jcj [] (mk cs) = mk cs:=jku (ks:=[]) (fun _ _ z=>by cases z) hcn
  rw [em0]
  have s6:=ja5 hmd (.dK (mk cs))
  have em6:upd H5 md (.dK (mk cs)) md = some (.dK (mk cs)):=ja1
  generalize upd H5 md (.dK (mk cs)) = H6 at s6 em6
  have hmd0:H md = none:=f5.free hmd
  simp_arith [em6]
  refine ⟨szl' (by omega),?_⟩
  rw [jra hpc]
  have em7:upd H6 md (.dK (mk (cs ++ [p.1]))) md = some (.dK (mk (cs ++ [p.1]))):=ja1
  have f7:Fz D H (upd H6 md (.dK (mk (cs ++ [p.1])))):=(f5.trans (Fz.of s6)).upd hmd0
  have k7:∀ b u,H5 b = some u→upd H6 md (.dK (mk (cs ++ [p.1]))) b = some u:=fun b u q=>by rw [ja8 (ja7 q hmd)]; exact s6 _ _ q
  have ep7:=k7 _ _ ep5
  have rc7:Rd (upd H6 md (.dK (mk (cs ++ [p.1])))) cd (.dK (mk cs)):=(Fz.of (D:=D) k7).rd rc
  generalize upd H6 md (.dK (mk (cs ++ [p.1]))) = H7 at em7 f7 ep7 rc7
  walk_at "RD"
  refine ⟨D,pd,ta,md,ps,parV T.flatten,xs,T,cs ++ [p.1],rfl,.inr ⟨o,ep7⟩,f7.lst hta,Paired.mapP hT (fun _ _ ⟨a,e,q,n⟩=>⟨a,e,f7.rd q,n⟩),.inl em7,wok.psa,jqn tri trs okl,fun r8 H8 f8 t8=>?_⟩
  rw [jjz wok wok.ends trs] at t8
  have rc8:=f8.rd rc7
  have rm8:=f8.rd (.inl em7)
  have ep8:H8 pd = some (.frz o (.dK (jbk ps))):=by
   rcases f8 _ _ ep7 with q | ⟨_,_,z,_⟩
   ·exact q
   ·cases z
  simp_arith [rIxT]
  refine ⟨r8,_,0,_,rfl,rfl,t8,rfl,?_⟩
  walk_at "RD"
  show (if decide ((lstF ps (famC ps ts fun v=>decide (v ∈ cs ++ [p.1]))).1 = (jac ps ts).1) = true then _ else _)
  by_cases c:p.1 ∈ (jac ps ts).2.2.1
  ·rw [if_pos (decide_eq_true (hst.mpr c))]
   walk_at "RD"
   refine ⟨md,_,_,rfl,f7.trans f8,ep8,?_⟩
   rw [hcs,if_pos c]
   exact rm8
  ·rw [if_neg (fun z=>c (hst.mp (of_decide_eq_true z)))]
   refine ⟨cd,_,_,rfl,f7.trans f8,ep8,?_⟩
   rw [hcs,if_neg c]
   exact rc8
 rintro σ H5 ⟨cd,v1,v2,rfl,f5,ep5,rc⟩
 rw [hkl,List.take_length,jbo hnd (jbr _ _ (List.mem_filter.mp (jc2 wok).mem.1).1)] at rc
 simp_arith [jn6]
 refine ⟨cd,_,rfl,rc,fun l hl=>?_⟩
 have ek:((mk (jac ps ts).2.2.1).map fun kv=>kV kv.1) = (jac ps ts).2.2.1.map V.int:=by
  unfold mk
  rw [List.map_map]
  rfl
 rw [ek]
 walk_at "RD"
 exact h l _ (f5.free hl) (f5.trans (Fz.of (ja5 hl _))) ja1
end
end My
namespace My
open PySem L2
section
variable {P:Program} {w:World} {K:PySem.W.Frag} {mg:Str→Option Value} {base:Heap} {c1 c2 c3 c4:Tok}
theorem Fz.same {H H':Hp} (f:Fz H H H'):Same H H':=fun b o e=>by
 rcases f b o e with q | ⟨_,_,_,_,n⟩
 ·exact q
 ·rw [e] at n; cases n
theorem Fz.at {D H H':Hp} (f:Fz D H H') {b:Addr} {o:HO} (h:H b = some o) (hi:∀ kvs,o ≠ .dK kvs):H' b = some o:=by
 rcases f b o h with q | ⟨_,_,z,_⟩
 ·exact q
 ·exact absurd z (hi _)
def jkb:Sp:=fun vs H Q _=>∃ v ps ts,vs = [v]∧jd5 H v ps ts∧WebOk ps ts∧Gro ts ∧
 ∀ t l H',H t = none→H l = none→Same H H'→H' t = some (.tup [.int (jac ps ts).1,.int (jac ps ts).2.1,.ref l])→H' l = some (.lst ((jac ps ts).2.2.1.map V.int))→Q (.ref t) H'
theorem jfc {f:Addr} {fd:FuncData} {f_look_at_web:Addr} {d_look_at_web:FuncData} {f_nears_in:Addr} {d_nears_in:FuncData} {f_trees_of:Addr} {d_trees_of:FuncData} {f_ways_of_trees:Addr} {d_ways_of_trees:FuncData} {f_first_least:Addr} {d_first_least:FuncData} (B:Blt mg) (D:DefAt K mg "forest_least" (top 44) ["web"] f fd) (D_look_at_web:DefAt K mg "look_at_web" (top 20) ["thing"] f_look_at_web d_look_at_web) (G_look_at_web:FnOk P w K mg base CX0 5 f_look_at_web d_look_at_web ["thing"] jf3) (D_nears_in:DefAt K mg "nears_in" (top 21) ["web"] f_nears_in d_nears_in) (G_nears_in:FnOk P w K mg base CX0 1 f_nears_in d_nears_in ["web"] jdw) (D_trees_of:DefAt K mg "trees_of" (top 42) ["nears"] f_trees_of d_trees_of) (G_trees_of:FnOk P w K mg base CX0 3 f_trees_of d_trees_of ["nears"] jhu) (D_ways_of_trees:DefAt K mg "ways_of_trees" (top 41) ["prices","trees","chosen"] f_ways_of_trees d_ways_of_trees) (G_ways_of_trees:FnOk P w K mg base CX0 3 f_ways_of_trees d_ways_of_trees ["prices","trees","chosen"] (jrz K)) (D_first_least:DefAt K mg "first_least" (top 43) ["prices","trees","least"] f_first_least d_first_least) (G_first_least:FnOk P w K mg base CX0 4 f_first_least d_first_least ["prices","trees","least"] (jmv K)):FnOk P w K mg base CX0 6 f fd ["web"] jkb:=by
 have sc:FnScope ["web","prices","trees","ways"] ["web"] (jaa (top 44)):=⟨rfl,rfl,rfl,by decide +kernel,rfl,by decide +kernel,by decide +kernel⟩
 refine D.F.ok sc (fun vs H Q E h=>?_) (fun cdv A outer s H vs Q E hr h=>?_)
 ·obtain ⟨v,ps,ts,rfl,_⟩:=h
  rfl
 obtain ⟨v,ps,ts,rfl,hw,wok,hgr,h⟩:=h
 have hu:=jbg hr
 have hu0:_ < PySem.cLine:=Nat.lt_of_succ_lt hu
 refine ⟨_,(ja2 (jc3 (ja9 G_look_at_web (hr.mono (by decide)) rfl D_look_at_web.m D_look_at_web.F.kp D_look_at_web.b .nil jan (ja0 (qv 0) ja3))) (ja2 (jag (i:=1) sc.nd rfl (Or.inl rfl) (jbe (jf4 rfl) rfl B.dict PyProof.Rows.boot_dict (ja0 (jae q_ix (qv 0) ja4 (fun _ _=>rfl)) ja3))) (ja2 (jag (i:=2) sc.nd rfl (Or.inl rfl) (ja9 G_trees_of (hr.mono (by decide)) rfl D_trees_of.m D_trees_of.F.kp D_trees_of.b .nil jan (ja0 (ja9 G_nears_in (hr.mono (by decide)) rfl D_nears_in.m D_nears_in.F.kp D_nears_in.b .nil jan (ja0 (qv 0) ja3)) ja3))) (ja2 (jag (i:=3) sc.nd rfl (Or.inl rfl) (ja9 G_ways_of_trees (hr.mono (by decide)) rfl D_ways_of_trees.m D_ways_of_trees.F.kp D_ways_of_trees.b .nil jan (ja0 (qv 1) (ja0 (qv 2) (ja0 jgy ja3))))) (ja6 (jah (jb8 (ja0 (jae jcm (qv 3) ja4 (fun _ _=>rfl)) (ja0 (jae jcm (qv 3) ja4 (fun _ _=>rfl)) (ja0 (ja9 G_first_least (hr.mono (by decide)) rfl D_first_least.m D_first_least.F.kp D_first_least.b .nil jan (ja0 (qv 1) (ja0 (qv 2) (ja0 (jae jcm (qv 3) ja4 (fun _ _=>rfl)) ja3)))) ja3)))))))))),?_⟩
 have hnd:=wok.p.nodup
 have okl:=wok.pl
 walk_at "RD"
 refine ⟨v,ps,ts,rfl,hw,wok,fun H1 s1=>?_⟩
 obtain ⟨u,pa,ta0,xs0,ys0,rfl,hu1,hu2,hu3,pp,pt⟩:=hw
 have hw':jd5 H (.ref u) ps ts:=⟨u,pa,ta0,xs0,ys0,rfl,hu1,hu2,hu3,pp,pt⟩
 have e1:=s1 _ _ hu1
 have e2:=s1 _ _ hu2
 have hxl:=Paired.length pp
 simp_arith [jam,e1,at0,e2]
 refine ⟨jbk ps,jgz (Prs.same s1 pp),by omega,jgd hnd,fun d hd=>?_⟩
 have s2:=ja5 hd (.dK (jbk ps))
 have ed2:upd H1 d (.dK (jbk ps)) d = some (.dK (jbk ps)):=ja1
 have hd0:H d = none:=s1.free hd
 generalize upd H1 d (.dK (jbk ps)) = H2 at s2 ed2
 have s12:=s1.trans s2
 walk_at "RD"
 refine ⟨_,ps,ts,rfl,hw'.same s12,wok,fun nd as H3 hn3 s3 en3 hla ne3=>?_⟩
 have s13:=s12.trans s3
 have ed3:=s3 _ _ ed2
 walk_at "RD"
 refine ⟨H,nd,ps,ts,as,rfl,s12.free hn3,fun b hb=>s13.free hb,en3,hla,ne3,wok.ends,hnd,okl,wok.tl,hgr,fun tl xs T H4 f4 et4 pT tri hcov=>?_⟩
 have trs:=tri.trs wok.ends hgr hnd hcov
 have f14:=(Fz.of (D:=H) s13).trans f4
 have rd4:=f4.rd (.inl ed3)
 walk_at "RD"
 intro c0 hc0
 have s5:=ja5 hc0 (.dK [])
 have ec5:upd H4 c0 (.dK []) c0 = some (.dK (mk [])):=ja1
 generalize upd H4 c0 (.dK []) = H5 at s5 ec5
 have f15:=f14.trans (Fz.of s5)
 have rd5:=(Fz.of (D:=H) s5).rd rd4
 refine ⟨H,d,tl,c0,ps,parV T.flatten,xs,T,[],rfl,rd5,s5 _ _ et4,Paired.mapP pT (fun _ _ ⟨a,e,q,n⟩=>⟨a,e,(Fz.of (D:=H) s5).rd q,n⟩),.inl ec5,wok.psa,jqn tri trs okl,fun r6 H6 f6 t6=>?_⟩
 rw [jjz wok wok.ends trs] at t6
 have hlst:lstF ps (famC ps ts fun v=>decide (v ∈ ([]:List Int))) = jac ps ts:=by
  unfold jac famC
  congr 1
  refine List.filter_congr fun s _=>?_
  have:((ps.map (·.1)).all fun v=>!decide (v ∈ ([]:List Int)) || decide (v ∈ s)) = true:=List.all_eq_true.mpr fun v _=>by rw [decide_eq_false (fun z=>by cases z)]; rfl
  rw [this,Bool.and_true]
 rw [hlst] at t6
 have f16:=f15.trans f6
 simp_arith [rIxT]
 refine ⟨r6,_,0,_,rfl,rfl,t6,rfl,r6,_,1,_,rfl,rfl,t6,rfl,r6,_,0,_,rfl,rfl,t6,rfl,?_⟩
 walk_at "RD"
 refine ⟨H,d,tl,ps,ts,xs,T,rfl,hd0,f6.rd rd5,f6.lst (s5 _ _ et4),Paired.mapP pT (fun _ _ ⟨a,e,q,n⟩=>⟨a,e,f6.rd ((Fz.of (D:=H) s5).rd q),n⟩),wok,tri,trs,fun l H7 hl f7 el=>?_⟩
 have f17:=f16.trans f7
 walk_at "RD"
 intro t ht
 exact h t l _ (f17.free ht) (f16.free hl) (f17.trans (Fz.of (ja5 ht _))).same ja1 (ja5 ht _ _ _ el)
end
end My
namespace My
open PySem L2
section
variable {P:Program} {w:World} {K:PySem.W.Frag} {mg:Str→Option Value} {base:Heap} {c1 c2 c3 c4:Tok}
def jmt:Sp:=fun vs H Q _=>∃ v ps ts,vs = [v]∧jd5 H v ps ts∧WebOk ps ts∧jgj ps ts = true∧∀ H',Same H H'→Q .non H'
theorem jen {f:Addr} {fd:FuncData} {f_look_at_web:Addr} {d_look_at_web:FuncData} {f_nears_in:Addr} {d_nears_in:FuncData} {f_edge_known:Addr} {d_edge_known:FuncData} (B:Blt mg) (D:DefAt K mg "look_at_edges" (top 25) ["web"] f fd) (D_look_at_web:DefAt K mg "look_at_web" (top 20) ["thing"] f_look_at_web d_look_at_web) (G_look_at_web:FnOk P w K mg base CX0 5 f_look_at_web d_look_at_web ["thing"] jf3) (D_nears_in:DefAt K mg "nears_in" (top 21) ["web"] f_nears_in d_nears_in) (G_nears_in:FnOk P w K mg base CX0 1 f_nears_in d_nears_in ["web"] jdw) (D_edge_known:DefAt K mg "edge_known" (top 24) ["nears","place"] f_edge_known d_edge_known) (G_edge_known:FnOk P w K mg base CX0 1 f_edge_known d_edge_known ["nears","place"] jmw) {c5:Tok} (hMA:mg "MOST_ACROSS" = some (.int 6 c5)):FnOk P w K mg base CX0 7 f fd ["web"] jmt:=by
 have sc:FnScope ["web","nears","place"] ["web"] (jaa (top 25)):=⟨rfl,rfl,rfl,by decide +kernel,rfl,by decide +kernel,by decide +kernel⟩
 refine D.F.ok sc (fun vs H Q E h=>?_) (fun cdv A outer s H vs Q E hr h=>?_)
 ·obtain ⟨v,ps,ts,rfl,_⟩:=h
  rfl
 obtain ⟨v,ps,ts,rfl,hw,wok,hwd,h⟩:=h
 have hnd:=wok.p.nodup
 have hpl:=wok.pl
 have htl:=wok.tl
 have hu:=jbg hr
 have hu0:_ < PySem.cLine:=Nat.lt_of_succ_lt hu
 refine ⟨_,(ja2 (jc3 (ja9 G_look_at_web (hr.mono (by decide)) rfl D_look_at_web.m D_look_at_web.F.kp D_look_at_web.b .nil jan (ja0 (qv 0) ja3))) (ja2 (jag (i:=1) sc.nd rfl (Or.inl rfl) (ja9 G_nears_in (hr.mono (by decide)) rfl D_nears_in.m D_nears_in.F.kp D_nears_in.b .nil jan (ja0 (qv 0) ja3))) (ja6 (jbu PassesOwn.never rfl (jj8 (qv 1)) (jad (i:=2) sc.nd rfl (Or.inl rfl)) (ja6 (jbd (jaw q_gt (jab jeb rfl B.len PySem.boot_len (ja0 (ja9 G_edge_known (hr.mono (by decide)) rfl D_edge_known.m D_edge_known.F.kp D_edge_known.b .nil jan (ja0 (qv 1) (ja0 (qv 2) ja3))) ja3)) (jf6 (v:=.int 6) rfl hMA ⟨_,rfl⟩) (jap _)) (ja6 jci) jak)))))),?_⟩
 refine jaf fun R hR=>?_
 walk_at "RD"
 refine ⟨v,ps,ts,rfl,hw,wok,fun H1 s1=>?_⟩
 walk_at "RD"
 subst hR
 refine jaf fun R hR=>?_
 walk_at "RD"
 refine ⟨v,ps,ts,rfl,hw.same s1,wok,fun nd as H2 hnd0 s2 end2 hla hnr=>?_⟩
 walk_at "RD"
 subst hR
 have s02:=s1.trans s2
 have hnd00:H nd = none:=s1.free hnd0
 have hkl:(kz ps as).length = ps.length:=by
  have e:=congrArg List.length (jee hla.symm)
  rwa [List.length_map,List.length_map] at e
 refine tFor_hideI (ι:=Obj) (fun o=>Itd nd o (kz ps as)) (fun o=>upd H2 nd (.frz o (.dK (kz ps as)))) (fun _=>True) (fun R' hR'=>?_) (fun o _=>?_)
 ·unfold iDct
  walk_at "RD"
  exact ⟨nd,_,rfl,end2,fun o=>hR' o trivial⟩
 have b3:But nd H2 (upd H2 nd (.frz o (.dK (kz ps as)))):=But.at nd H2 _
 have e3:upd H2 nd (.frz o (.dK (kz ps as))) nd = some (.frz o (.dK (kz ps as))):=ja1
 generalize upd H2 nd (.frz o (.dK (kz ps as))) = H3 at b3 e3
 refine jez (Pv:=fun i σ H4=>∃ v2,σ = [some v,some (.ref nd),v2]∧Same H H4∧H4 nd = some (.frz o (.dK (kz ps as)))∧jhk H4 ps ts as) ⟨none,rfl,fun b u q=>b3 _ _ (fun z=>by rw [z,hnd00] at q; cases q) (s02 _ _ q),e3,fun i p a h1 h2=>b3 _ _ (fun z=>by have:=hnr i p a h1 h2; rw [z,end2] at this; cases this) (hnr i p a h1 h2)⟩ (fun i σ H4 _ ⟨_,_,_,q,_⟩=>q) ?_ ?_
 ·rintro i kv σ H4 hi ⟨v2,rfl,s4,e4,hnr4⟩
  obtain ⟨p,a,hp,ha,rfl⟩:=jq8 hla hi
  show jd1 2 (.int p.1) _ _ _
  walk_at "RD"
  refine ⟨nd,p.1,ps,ts,rfl,⟨as,.inr ⟨o,e4⟩,hla,hnr4⟩,hnd,hpl,htl,fun l H5 hl nl b5 nr5 hfz el=>?_⟩
  have hw9:(jba ps ts p.1).length ≤ 6:=by
   unfold jgj at hwd
   rw [List.all_eq_true] at hwd
   exact of_decide_eq_true (hwd p.1 (List.mem_map_of_mem (List.mem_of_getElem? hp)))
  simp_arith [jam,el,List.length_map,decide_eq_false (show ¬ (6:Int) < ((jba ps ts p.1).length:Int) by omega)]
  refine ⟨_,rfl,fun b u q=>b5 _ _ (fun z=>by rw [z,hnd00] at q; cases q) (s4 _ _ q),hfz _ _ e4,fun i p a h1 h2=>b5 _ _ (fun z=>by have:=hnr4 i p a h1 h2; rw [z,e4] at this; cases this) (hnr4 i p a h1 h2)⟩
 ·rintro σ H4 ⟨v2,rfl,s4,_⟩
  exact h _ s4
end
end My
namespace My
open PySem L2
section
variable {P:Program} {w:World} {K:PySem.W.Frag} {mg:Str→Option Value} {base:Heap} {c1 c2 c3 c4:Tok}
theorem at2' {a b c:V} {r:List V}:atI (a :: b :: c :: r) 2 = some c:=by
 refine (jc4 (j:=2) (xs:=a :: b :: c :: r) (v:=c) ?_)
 rfl
theorem at3' {a b c d:V} {r:List V}:atI (a :: b :: c :: d :: r) 3 = some d:=by
 refine (jc4 (j:=3) (xs:=a :: b :: c :: d :: r) (v:=d) ?_)
 rfl
theorem jfu {H0:Hp} {f:Addr} {fd:FuncData}  (B:Blt mg) (D:DefAt K mg "least_grown" (top 28) ["value","place","price","is_in"] f fd):FnOk P w K mg base CX0 2 f fd ["value","place","price","is_in"] (spGr (VL H0)):=by
 have sc:FnScope ["value","place","price","is_in"] ["value","place","price","is_in"] (jaa (top 28)):=⟨rfl,rfl,rfl,by decide +kernel,rfl,by decide +kernel,by decide +kernel⟩
 refine D.F.ok sc (fun vs H Q E h=>?_) (fun cdv A outer s H vs Q E hr h=>?_)
 ·obtain ⟨v,p,q,b,a,i,rfl,_⟩:=h
  rfl
 obtain ⟨v,p,q,b,a,i,rfl,⟨k0,t,l2,l3,rfl,et,f2,e2,e3⟩,ok,hi,h⟩:=h
 obtain ⟨o1,o2⟩:a.2.2.2.length = i∧a.2.2.1.length ≤ i:=ok
 have h1m:(1000000:Nat) ≤ sizeLine:=by decide
 have hu:=jbg hr
 have hu0:_ < PySem.cLine:=Nat.lt_of_succ_lt hu
 refine ⟨_,(ja2 (jbd (jb4 (qv 3)) (ja6 (jah (jb8 (ja0 (jb0 jdr (jae q_ix (qv 0) ja4 (fun _ _=>rfl)) (qv 2)) (ja0 (jae q_ix (qv 0) ja4 (fun _ _=>rfl)) (ja0 (jb0 js5 (jae q_ix (qv 0) ja4 (fun _ _=>rfl)) (jc9 (ja0 (qv 1) ja3))) (ja0 (jb0 js5 (jae q_ix (qv 0) ja4 (fun _ _=>rfl)) (jc9 (ja0 (jae q_ix (qv 0) ja4 (fun _ _=>rfl)) ja3))) ja3))))))) jak) (ja6 (jah (jb8 (ja0 (jae q_ix (qv 0) ja4 (fun _ _=>rfl)) (ja0 (jae q_ix (qv 0) ja4 (fun _ _=>rfl)) (ja0 (jae q_ix (qv 0) ja4 (fun _ _=>rfl)) (ja0 (jb0 js5 (jae q_ix (qv 0) ja4 (fun _ _=>rfl)) (jc9 (ja0 ja4 ja3))) ja3)))))))),?_⟩
 cases b with
 | true =>
  simp_arith [jam,et,at0,at1,at2',at3']
  intro c1 hc1
  have s1:=ja5 hc1 (.lst [.int p])
  have ec1:upd H c1 (.lst [.int p]) c1 = some (.lst [.int p]):=ja1
  have e2':=s1 _ _ e2
  have e3':=s1 _ _ e3
  have et':=s1 _ _ et
  have hk1:=jbn s1
  generalize upd H c1 (.lst [.int p]) = H1 at s1 ec1 e2' e3' et' hk1
  simp only [e2',ec1]
  refine ⟨by rw [List.length_map]; show _ + 1 ≤ _; omega,?_⟩
  intro c2 hc2
  have s2:=ja5 hc2 (.lst (a.2.2.1.map V.int ++ [.int p]))
  have ec2:upd H1 c2 (.lst (a.2.2.1.map V.int ++ [.int p])) c2 = some (.lst (a.2.2.1.map V.int ++ [.int p])):=ja1
  have e3'':=s2 _ _ e3'
  have et'':=s2 _ _ et'
  have hc20:∀ xs,H0 c2 ≠ some (.lst xs):=fun xs z=>by
   have:=hk1.1 _ _ (k0.1 _ _ z)
   rw [hc2] at this
   cases this
  have S2:=s1.trans s2
  generalize upd H1 c2 (.lst (a.2.2.1.map V.int ++ [.int p])) = H2 at s2 ec2 e3'' et'' S2
  simp_arith [et'',at1,at3']
  intro c3 hc3
  have s3:=ja5 hc3 (.lst [.int a.2.1])
  have ec3:upd H2 c3 (.lst [.int a.2.1]) c3 = some (.lst [.int a.2.1]):=ja1
  have e33:=s3 _ _ e3''
  have S3:=S2.trans s3
  have ec23:=s3 _ _ ec2
  generalize upd H2 c3 (.lst [.int a.2.1]) = H3 at s3 ec3 e33 S3 ec23
  simp only [e33,ec3]
  refine ⟨by rw [List.length_map]; show _ + 1 ≤ _; omega,?_⟩
  intro c4 hc4
  have s4:=ja5 hc4 (.lst (a.2.2.2.map V.int ++ [.int a.2.1]))
  have ec4:upd H3 c4 (.lst (a.2.2.2.map V.int ++ [.int a.2.1])) c4 = some (.lst (a.2.2.2.map V.int ++ [.int a.2.1])):=ja1
  have S4:=S3.trans s4
  have ec24:=s4 _ _ ec23
  generalize upd H3 c4 (.lst (a.2.2.2.map V.int ++ [.int a.2.1])) = H4 at s4 ec4 S4 ec24
  intro c5 hc5
  have s5:=ja5 hc5 (.tup [.int (a.1 + q),.int a.2.1,.ref c2,.ref c4])
  refine h _ _ (S4.trans s5) ⟨k0.trans (jbn (S4.trans s5)),c5,c2,c4,rfl,ja1,hc20,?_,?_⟩ ⟨?_,?_⟩
  ·rw [s5 _ _ ec24]
   show _ = some (HO.lst ((a.2.2.1 ++ [p]).map V.int))
   rw [List.map_append]
   rfl
  ·rw [s5 _ _ ec4]
   show _ = some (HO.lst ((a.2.2.2 ++ [a.2.1]).map V.int))
   rw [List.map_append]
   rfl
  ·show (a.2.2.2 ++ [a.2.1]).length = i + 1
   rw [List.length_append,o1]
   rfl
  ·show (a.2.2.1 ++ [p]).length ≤ i + 1
   rw [List.length_append]
   show _ + 1 ≤ _
   omega
 | false =>
  simp_arith [jam,et,at0,at1,at2',at3']
  intro c3 hc3
  have s3:=ja5 hc3 (.lst [.int 0])
  have ec3:upd H c3 (.lst [.int 0]) c3 = some (.lst [.int 0]):=ja1
  have e33:=s3 _ _ e3
  have e23:=s3 _ _ e2
  generalize upd H c3 (.lst [.int 0]) = H3 at s3 ec3 e33 e23
  simp only [e33,ec3]
  refine ⟨by rw [List.length_map]; show _ + 1 ≤ _; omega,?_⟩
  intro c4 hc4
  have s4:=ja5 hc4 (.lst (a.2.2.2.map V.int ++ [.int 0]))
  have ec4:upd H3 c4 (.lst (a.2.2.2.map V.int ++ [.int 0])) c4 = some (.lst (a.2.2.2.map V.int ++ [.int 0])):=ja1
  have S4:=s3.trans s4
  have e24:=s4 _ _ e23
  generalize upd H3 c4 (.lst (a.2.2.2.map V.int ++ [.int 0])) = H4 at s4 ec4 S4 e24
  intro c5 hc5
  have s5:=ja5 hc5 (.tup [.int a.1,.int a.2.1,.ref l2,.ref c4])
  refine h _ _ (S4.trans s5) ⟨k0.trans (jbn (S4.trans s5)),c5,l2,c4,rfl,ja1,f2,s5 _ _ e24,?_⟩ ⟨?_,?_⟩
  ·rw [s5 _ _ ec4]
   show _ = some (HO.lst ((a.2.2.2 ++ [0]).map V.int))
   rw [List.map_append]
   rfl
  ·show (a.2.2.2 ++ [0]).length = i + 1
   rw [List.length_append,o1]
   rfl
  ·show a.2.2.1.length ≤ i + 1
   omega
theorem jfb {H0:Hp} {f:Addr} {fd:FuncData} {f_sums:Addr} {d_sums:FuncData} (B:Blt mg) (D:DefAt K mg "least_joined" (top 29) ["one","other"] f fd) (D_sums:DefAt K mg "sums" (top 27) ["one","other"] f_sums d_sums) (G_sums:FnOk P w K mg base CX0 1 f_sums d_sums ["one","other"] jqs):FnOk P w K mg base CX0 2 f fd ["one","other"] (spJn (VL H0)):=by
 have sc:FnScope ["one","other"] ["one","other"] (jaa (top 29)):=⟨rfl,rfl,rfl,by decide +kernel,rfl,by decide +kernel,by decide +kernel⟩
 refine D.F.ok sc (fun vs H Q E h=>?_) (fun cdv A outer s H vs Q E hr h=>?_)
 ·obtain ⟨v,u,a,b,i,rfl,_⟩:=h
  rfl
 obtain ⟨v,u,a,b,i,rfl,⟨k0,t,l2,l3,rfl,et,f2,e2,e3⟩,⟨_,t',m2,m3,rfl,et',g2,d2,d3⟩,⟨o1,o2⟩,⟨o3,o4⟩,hi,h⟩:=h
 have hu:=jbg hr
 have hu0:_ < PySem.cLine:=Nat.lt_of_succ_lt hu
 refine ⟨_,(ja2 (jbd (jaw q_ne (jae q_ix (qv 0) ja4 (fun _ _=>rfl)) (jae q_ix (qv 1) ja4 (fun _ _=>rfl)) (jap _)) (ja6 (jah (jev (jaw q_lt (jae q_ix (qv 0) ja4 (fun _ _=>rfl)) (jae q_ix (qv 1) ja4 (fun _ _=>rfl)) (jap _)) (qv 0) (qv 1)))) jak) (ja6 (jah (jb8 (ja0 (jae q_ix (qv 0) ja4 (fun _ _=>rfl)) (ja0 (jb0 jdr (jae q_ix (qv 0) ja4 (fun _ _=>rfl)) (jae q_ix (qv 1) ja4 (fun _ _=>rfl))) (ja0 (jab (jp4 rfl hu) rfl B.min PyProof.Rows.boot_min (ja0 (jae q_ix (qv 0) ja4 (fun _ _=>rfl)) (ja0 (jae q_ix (qv 1) ja4 (fun _ _=>rfl)) ja3))) (ja0 (ja9 G_sums (hr.mono (by decide)) rfl D_sums.m D_sums.F.kp D_sums.b .nil jan (ja0 (jae q_ix (qv 0) ja4 (fun _ _=>rfl)) (ja0 (jae q_ix (qv 1) ja4 (fun _ _=>rfl)) ja3))) ja3)))))))),?_⟩
 simp_arith [jam,et,at0,et',at1,at2',at3']
 have hjn:(VL H0).jn a b = jcz a b:=rfl
 rw [hjn] at h
 unfold jcz at h
 by_cases c:a.1 = b.1
 ·rw [if_neg (by rw [decide_eq_true c]; exact Bool.false_ne_true)]
  rw [if_neg (fun z=>z c)] at h
  refine ⟨l2,m2,a.2.2.1,b.2.2.1,rfl,e2,d2,?_⟩
  simp_arith [et,et',at3']
  refine ⟨l3,m3,a.2.2.2,b.2.2.2,rfl,e3,d3,by omega,by omega,fun l H' hl s el=>?_⟩
  intro c5 hc5
  have s5:=ja5 hc5 (.tup [.int a.1,.int (a.2.1 + b.2.1),.ref (if HT.lexLt b.2.2.1 a.2.2.1 = true then m2 else l2),.ref l])
  have et5:upd H' c5 (.tup [.int a.1,.int (a.2.1 + b.2.1),.ref (if HT.lexLt b.2.2.1 a.2.2.1 = true then m2 else l2),.ref l]) c5 = some (.tup [.int a.1,.int (a.2.1 + b.2.1),.ref (if HT.lexLt b.2.2.1 a.2.2.1 = true then m2 else l2),.ref l]):=ja1
  generalize upd H' c5 (.tup [.int a.1,.int (a.2.1 + b.2.1),.ref (if HT.lexLt b.2.2.1 a.2.2.1 = true then m2 else l2),.ref l]) = H5 at s5 et5
  refine h _ _ (s.trans s5) ⟨k0.trans (jbn (s.trans s5)),c5,_,l,rfl,et5,?_,?_,s5 _ _ el⟩ ⟨?_,?_⟩
  ·split
   ·exact g2
   ·exact f2
  ·dsimp only
   split
   ·exact (s.trans s5) _ _ d2
   ·exact (s.trans s5) _ _ e2
  ·show (jfs a.2.2.2 b.2.2.2).length = i
   unfold jfs
   rw [List.length_map,List.length_zip]
   omega
  ·dsimp only
   split
   ·exact o4
   ·exact o2
 ·rw [if_pos (by rw [decide_eq_false c]; rfl)]
  rw [if_pos c] at h
  by_cases d:a.1 < b.1
  ·rw [if_pos d] at h
   rw [if_pos (decide_eq_true d)]
   exact h _ _ (Same.refl _) ⟨k0,t,l2,l3,rfl,et,f2,e2,e3⟩ ⟨o1,o2⟩
  ·rw [if_neg d] at h
   rw [if_neg (by rw [decide_eq_false d]; exact Bool.false_ne_true)]
   exact h _ _ (Same.refl _) ⟨k0,t',m2,m3,rfl,et',g2,d2,d3⟩ ⟨o3,o4⟩
end
end My
namespace My
open PySem L2
section
variable {P:Program} {w:World} {K:PySem.W.Frag} {mg:Str→Option Value} {base:Heap} {c1 c2 c3 c4:Tok}
theorem jga {ps ts:List (Int × Int)} (wok:WebOk ps ts):(jac ps ts).2.2.2.length = ps.length:=by rw [(jc2 wok).cnt,List.length_map]
def jfy (ps ts:List (Int × Int)):List (Int × Int):=(ps.map (·.1)).zip (jac ps ts).2.2.2
def jmu:Sp:=fun vs H Q _=>∃ v ps ts,vs = [v]∧jd5 H v ps ts∧WebOk ps ts∧jgj ps ts = true ∧
 ∀ t l2 l3 zs H',(∀ xs,H l2 ≠ some (.lst xs))→H l3 = none→l2 ≠ l3→Same H H'→H' t = some (.tup [.int (jac ps ts).1,.int (jac ps ts).2.1,.ref l2,.ref l3])→H' l2 = some (.lst ((jac ps ts).2.2.1.map V.int))→H' l3 = some (.lst zs)→Prs H' zs (jfy ps ts)→Q (.ref t) H'
theorem jf8 {f:Addr} {fd:FuncData} {f_look_at_edges:Addr} {d_look_at_edges:FuncData} {f_along:Addr} {d_along:FuncData} {f_least_grown:Addr} {d_least_grown:FuncData} {f_least_joined:Addr} {d_least_joined:FuncData} (B:Blt mg) (D:DefAt K mg "string_least" (top 30) ["web"] f fd) (D_look_at_edges:DefAt K mg "look_at_edges" (top 25) ["web"] f_look_at_edges d_look_at_edges) (G_look_at_edges:FnOk P w K mg base CX0 7 f_look_at_edges d_look_at_edges ["web"] jmt) (D_along:DefAt K mg "along" (top 26) ["web","start","grown","joined"] f_along d_along) (G_along0:∀ H0:Hp,FnOk P w K mg base CX0 3 f_along d_along ["web","start","grown","joined"] (jmz (VL H0) [(f_least_grown,spGr (VL H0)),(f_least_joined,spJn (VL H0))])) (D_least_grown:DefAt K mg "least_grown" (top 28) ["value","place","price","is_in"] f_least_grown d_least_grown) (D_least_joined:DefAt K mg "least_joined" (top 29) ["one","other"] f_least_joined d_least_joined):FnOk P w K mg base CX0 8 f fd ["web"] jmu:=by
 have sc:FnScope ["web","told","many_with"] ["web"] (jaa (top 30)):=⟨rfl,rfl,rfl,by decide +kernel,rfl,by decide +kernel,by decide +kernel⟩
 refine D.F.ok sc (fun vs H Q E h=>?_) (fun cdv A outer s H vs Q E hr h=>?_)
 ·obtain ⟨v,ps,ts,rfl,_⟩:=h
  rfl
 obtain ⟨v,ps,ts,rfl,hw,wok,hwd,h⟩:=h
 have hp40:=wok.pl
 have G_along:=G_along0 H
 have hll:=jga wok
 have hle:=jo6 H wok wok.p.pos
 have hu:=jbg hr
 have hu0:_ < PySem.cLine:=Nat.lt_of_succ_lt hu
 refine ⟨_,(ja2 (jc3 (ja9 G_look_at_edges (hr.mono (by decide)) rfl D_look_at_edges.m D_look_at_edges.F.kp D_look_at_edges.b .nil jan (ja0 (qv 0) ja3))) (ja2 (jag (i:=1) sc.nd rfl (Or.inl rfl) (ja9 G_along (hr.mono (by decide)) rfl D_along.m D_along.F.kp D_along.b .nil jan (ja0 (qv 0) (ja0 (jb8 (ja0 ja4 (ja0 ja4 (ja0 (jc9 ja3) (ja0 (jc9 ja3) ja3))))) (ja0 (jgx rfl D_least_grown.m) (ja0 (jgx rfl D_least_joined.m) ja3)))))) (ja2 (jgu (i:=2) sc.nd rfl (Or.inl rfl) (CpScope.of (N:=["pair","many"]) (src:=[none,none]) (by rfl)) rfl (jj6 rfl B.zip (ja0 (jae q_ix (qv 0) ja4 (fun _ _=>rfl)) (ja0 (jae q_ix (qv 1) ja4 (fun _ _=>rfl)) ja3))) (fun _ _ _ _=>(jcp (n:=2) rfl (jaj (jad (i:=0) (jai (l:=["pair","many"]) (by rfl)) rfl (Or.inl rfl)) (jaj (jad (i:=1) (jai (l:=["pair","many"]) (by rfl)) rfl (Or.inl rfl)) jbw)))) (fun _ _ _ _=>jd6) (fun _ _ _ _=>(jb8 (ja0 (jae q_ix (qv 0) ja4 (fun _ _=>rfl)) (ja0 (qv 1) ja3))))) (ja6 (jah (jb8 (ja0 (jae q_ix (qv 1) ja4 (fun _ _=>rfl)) (ja0 (jae q_ix (qv 1) ja4 (fun _ _=>rfl)) (ja0 (jae q_ix (qv 1) ja4 (fun _ _=>rfl)) (ja0 (qv 2) ja3)))))))))),?_⟩
 refine jaf fun R hR=>?_
 walk_at "RD"
 refine ⟨v,ps,ts,rfl,hw,wok,hwd,fun H1 s1=>?_⟩
 walk_at "RD"
 subst hR
 refine jaf fun R hR=>?_
 walk_at "RD"
 intro l1 hl1
 have s2:=s1.trans (ja5 hl1 (.lst []))
 have el1:upd H1 l1 (.lst []) l1 = some (.lst []):=ja1
 have hl10:H l1 = none:=s1.free hl1
 generalize upd H1 l1 (.lst []) = H2 at s2 el1
 intro l2 hl2
 have s3:=s2.trans (ja5 hl2 (.lst []))
 have el2:upd H2 l2 (.lst []) l2 = some (.lst []):=ja1
 have el13:=(ja5 hl2 (.lst [])) _ _ el1
 generalize upd H2 l2 (.lst []) = H3 at s3 el2 el13
 intro l3 hl3
 have s4:=s3.trans (ja5 hl3 (.tup [.int 0,.int 1,.ref l1,.ref l2]))
 have el3:upd H3 l3 (.tup [.int 0,.int 1,.ref l1,.ref l2]) l3 = some (.tup [.int 0,.int 1,.ref l1,.ref l2]):=ja1
 have el14:=(ja5 hl3 (.tup [.int 0,.int 1,.ref l1,.ref l2])) _ _ el13
 have el24:=(ja5 hl3 (.tup [.int 0,.int 1,.ref l1,.ref l2])) _ _ el2
 generalize upd H3 l3 (.tup [.int 0,.int 1,.ref l1,.ref l2]) = H4 at s4 el3 el14 el24
 refine ⟨v,.ref l3,f_least_grown,f_least_joined,ps,ts,(0,1,[],[]),jac ps ts,rfl,.head _,.tail _ (.head _),hw.same s4,wok,hwd,⟨jbn s4,l3,l1,l2,rfl,el3,(fun xs z=>by rw [hl10] at z; cases z),el14,el24⟩,⟨rfl,Nat.le_refl _⟩,hle,fun v' H5 s5 q=>?_⟩
 obtain ⟨_,t,m2,m3,rfl,et,f2,e2,e3⟩:=q
 have S5:=s4.trans s5
 have hw5:=hw.same S5
 clear el14 el24 el3 el13 el1 el2 hl1 hl2 hl3 s1 s2 s3 s4 s5 hl10
 walk_at "RD"
 subst hR
 refine jaf fun R hR=>?_
 walk_at "RD"
 obtain ⟨x,pa,ta,xs,ys,rfl,ex,ep,eta,pp,pt⟩:=id hw5
 have hlx:xs.length = ps.length:=Paired.length pp
 generalize hcc:(jac ps ts).2.2.2 = cc at e3 hll
 refine jau (Itz true K pa m3) H5 (fun R2 hR2=>?_) (fun z hz=>jb1 xs.length (fun i σ' Hc=>∃ w1 w2 zs,σ' = [w1,w2]∧Same H5 Hc∧Hc z = some (.lst zs)∧Prs Hc zs ((jfy ps ts).take i)) ⟨none,none,[],rfl,ja5 hz _,ja1,.nil⟩ ?_ ?_)
 ·unfold jok
  simp_arith [jam,ex,at0,et,at3']
  exact ⟨true,pa,m3,rfl,⟨_,show SqL K H5 pa _ from SqL.of ep⟩,⟨_,show SqL K H5 m3 _ from SqL.of e3⟩,hR2⟩
 ·rintro i σ' Hc hi ⟨w1,w2,zs,rfl,s1,ez,pz⟩
  have x1:xs[i]? = some xs[i]:=List.getElem?_eq_getElem hi
  have y1:cc[i]? = some (cc[i]'(by omega)):=List.getElem?_eq_getElem _
  generalize xs[i] = xv at x1
  generalize (cc[i]'(by omega)) = y at y1
  have Y1:(cc.map V.int)[i]? = some (.int y):=by rw [List.getElem?_map,y1]; rfl
  have za:SqB true K Hc pa xs:=show SqL K Hc pa _ from SqL.of (s1 _ _ ep)
  have zb:SqB true K Hc m3 (cc.map V.int):=show SqL K Hc m3 _ from SqL.of (s1 _ _ e3)
  refine ⟨⟨_,_,_,_,za,zb,x1,Y1⟩,?_⟩
  rintro vv H' ⟨t',x',y',ht,rfl,rfl,hx,hy⟩
  have E1:xv = x':=Option.some.inj (x1.symm.trans (hx _ za))
  have E2:V.int y = y':=Option.some.inj (Y1.symm.trans (hy _ zb))
  subst E1 E2
  obtain ⟨p,hp,tq,rfl,etq⟩:=jao pp x1
  have hzl:zs.length ≤ 40:=by
   have:=Paired.length pz
   rw [List.length_take] at this
   omega
  have s2:=ja5 ht (.tup [.ref tq,.int y])
  have et2:upd Hc t' (.tup [.ref tq,.int y]) t' = some (.tup [.ref tq,.int y]):=ja1
  have ez2:=s2 _ _ ez
  have s12:=s1.trans s2
  have etq2:=s12 _ _ etq
  have pz2:=Prs.same s2 pz
  generalize upd Hc t' (.tup [.ref tq,.int y]) = H2 at s2 et2 ez2 s12 etq2 pz2
  simp_arith [et2,jam,etq2,at0]
  intro t3 ht3
  have s3:=ja5 ht3 (.tup [.int p.1,.int y])
  have et3:upd H2 t3 (.tup [.int p.1,.int y]) t3 = some (.tup [.int p.1,.int y]):=ja1
  have ez3:=s3 _ _ ez2
  have pz3:=Prs.same s3 pz2
  have s13:=s12.trans s3
  generalize upd H2 t3 (.tup [.int p.1,.int y]) = H6 at s3 et3 ez3 pz3 s13
  have hm:(jfy ps ts)[i]? = some (p.1,y):=by
   unfold jfy
   rw [hcc,List.getElem?_zip_eq_some]
   exact ⟨by rw [List.getElem?_map,hp]; rfl,y1⟩
  have t7:=jcg (ys:=zs ++ [.ref t3]) ez3
  refine ⟨_,ez3,szl' (by omega),_,_,_,rfl,jas s13 hz,ja1,?_⟩
  rw [jal hm]
  exact jay (Prs.tups t7 pz3) (Pr.tups ⟨t3,rfl,et3⟩ t7)
 rintro σ' H6 ⟨w1,w2,zs,rfl,s6,ez,pz⟩
 refine ⟨⟨_,_,show SqL K H6 pa _ from SqL.of (s6 _ _ ep),show SqL K H6 m3 _ from SqL.of (s6 _ _ e3),.inl (Nat.le_refl _)⟩,?_⟩
 have hml:(jfy ps ts).length = xs.length:=by
  unfold jfy
  rw [List.length_zip,hcc,List.length_map]
  omega
 rw [← hml,List.take_length] at pz
 walk_at "RD"
 subst hR
 simp_arith [jam,s6 _ _ et,at0,at1,at2']
 intro t9 ht9
 have s9:=ja5 ht9 (.tup [.int (jac ps ts).1,.int (jac ps ts).2.1,.ref m2,.ref z])
 refine h t9 m2 z zs _ f2 (S5.free hz) ?_ ((S5.trans s6).trans s9) ja1 (s9 _ _ (s6 _ _ e2)) (s9 _ _ ez) (Prs.same s9 pz)
 intro q
 rw [q,hz] at e2
 cases e2
end
end My
namespace My
open PySem L2
theorem jmn {ns s:List Int} (h:s.Sublist ns):s ∈ subL ns:=by
 have key:∀ m:List Int,∀ s:List Int,s.Sublist m.reverse→s ∈ subL m.reverse:=fun m=>by
  induction m with
  | nil=>intro s h; rw [List.reverse_nil] at h; rw [List.sublist_nil.mp h]; exact .head _
  | cons n r ih =>
   intro s h
   rw [List.reverse_cons] at h ⊢
   rw [jc1,List.mem_append]
   obtain ⟨a,b,e,ha,hb⟩:=List.sublist_append_iff.mp h
   cases hb with
   | cons _ hb =>
    rw [List.sublist_nil.mp hb,List.append_nil] at e
    rw [e]; exact .inl (ih a ha)
   | cons_cons _ hb =>
    rw [List.sublist_nil.mp hb] at e
    rw [e]; exact .inr (List.mem_map.mpr ⟨a,ih a ha,rfl⟩)
 have:=key ns.reverse s (by rw [List.reverse_reverse]; exact h)
 rwa [List.reverse_reverse] at this
theorem jmm {ns:List Int} (h:ns.Nodup):(subL ns).Nodup:=by
 have key:∀ m:List Int,m.Nodup→(subL m.reverse).Nodup:=fun m=>by
  induction m with
  | nil=>intro _; simp [subL]
  | cons n r ih =>
   intro hn
   rw [List.nodup_cons] at hn
   rw [List.reverse_cons,jc1,List.nodup_append]
   refine ⟨ih hn.2,List.pairwise_map.mpr (List.Pairwise.imp (fun h z=>h (List.append_cancel_right z)) (ih hn.2)),fun a ha b hb z=>?_⟩
   obtain ⟨t,_,e⟩:=List.mem_map.mp hb
   have:n ∈ a:=by rw [z,← e]; simp
   exact hn.1 (List.mem_reverse.mp ((jbr _ a ha).subset this))
 have:=key ns.reverse ((List.reverse_perm ns).nodup_iff.mpr h)
 rwa [List.reverse_reverse] at this
def lsP (g:Int) (q:Int × Int):Bool:=!decide (q.1 = g)
def lsT (g:Int) (t:Int × Int):Bool:=!decide (g ∈ [t.1,t.2])
def lsS (g:Int) (s:List Int):List Int:=s.filter fun n=>!decide (n = g)
theorem jcc {g n:Int} {s:List Int}:n ∈ lsS g s ↔ n ∈ s∧n ≠ g:=by
 unfold lsS
 rw [List.mem_filter,Bool.not_eq_true',decide_eq_false_iff_not]
theorem jsl (g:Int) (ps:List (Int × Int)):(ps.filter (lsP g)).map (·.1) = lsS g (ps.map (·.1)):=by
 unfold lsS
 rw [List.filter_map]
 rfl
theorem jrl {g:Int} {s:List Int}:∀ {r:List (Int × Int)},g ∉ r.map (·.1)→cst r s = cst (r.filter (lsP g)) (lsS g s)
 | [],_=>rfl
 | q :: r,h=>by
  rw [List.map_cons,List.mem_cons,not_or] at h
  have hq:lsP g q = true:=by unfold lsP; rw [decide_eq_false fun z=>h.1 z.symm]; rfl
  rw [List.filter_cons,if_pos hq,cst,cst,jrl h.2]
  congr 1
  by_cases c:q.1 ∈ s
  ·rw [if_pos c,if_pos (jcc.mpr ⟨c,fun z=>h.1 z.symm⟩)]
  ·rw [if_neg c,if_neg fun z=>c (jcc.mp z).1]
theorem jl9 {p:Int × Int} {s:List Int}:∀ {r:List (Int × Int)},(r.map (·.1)).Nodup→p ∈ r→p.1 ∈ s→cst r s = cst (r.filter (lsP p.1)) (lsS p.1 s) + p.2
 | q :: r,hn,h,hs=>by
  rw [List.map_cons,List.nodup_cons] at hn
  rcases List.mem_cons.mp h with e | h
  ·subst e
   have hq:¬ lsP p.1 p = true:=by unfold lsP; rw [decide_eq_true rfl]; exact Bool.false_ne_true
   rw [List.filter_cons,if_neg hq,cst,if_pos hs,jrl hn.1]
   omega
  ·have hne:q.1 ≠ p.1:=fun z=>hn.1 (z ▸ List.mem_map_of_mem h)
   have hq:lsP p.1 q = true:=by unfold lsP; rw [decide_eq_false hne]; rfl
   rw [List.filter_cons,if_pos hq,cst,cst,jl9 hn.2 h hs]
   have:(q.1 ∈ s) = (q.1 ∈ lsS p.1 s):=propext ⟨fun z=>jcc.mpr ⟨z,hne⟩,fun z=>(jcc.mp z).1⟩
   simp only [this]
   omega
theorem jgl {g:Int} {s:List Int} (hs:g ∈ s):∀ {ts:List (Int × Int)},touB ts s = touB (ts.filter (lsT g)) (lsS g s)
 | []=>rfl
 | t :: r=>by
  have ih:=jgl hs (ts:=r)
  by_cases c:g ∈ [t.1,t.2]
  ·have hq:¬ lsT g t = true:=by unfold lsT; rw [decide_eq_true c]; exact Bool.false_ne_true
   rw [List.filter_cons,if_neg hq,← ih]
   show ((decide (t.1 ∈ s) || decide (t.2 ∈ s)) && touB r s) = _
   have:(decide (t.1 ∈ s) || decide (t.2 ∈ s)) = true:=by
    rw [Bool.or_eq_true,decide_eq_true_iff,decide_eq_true_iff]
    simp only [List.mem_cons,List.not_mem_nil,or_false] at c
    rcases c with c | c
    ·exact .inl (c ▸ hs)
    ·exact .inr (c ▸ hs)
   rw [this,Bool.true_and]
  ·have hq:lsT g t = true:=by unfold lsT; rw [decide_eq_false c]; rfl
   simp only [List.mem_cons,List.not_mem_nil,or_false,not_or] at c
   rw [List.filter_cons,if_pos hq]
   show ((decide (t.1 ∈ s) || decide (t.2 ∈ s)) && touB r s) = ((decide (t.1 ∈ lsS g s) || decide (t.2 ∈ lsS g s)) && touB (r.filter (lsT g)) (lsS g s))
   rw [ih]
   have e1:(t.1 ∈ s) = (t.1 ∈ lsS g s):=propext ⟨fun z=>jcc.mpr ⟨z,fun w=>c.1 w.symm⟩,fun z=>(jcc.mp z).1⟩
   have e2:(t.2 ∈ s) = (t.2 ∈ lsS g s):=propext ⟨fun z=>jcc.mpr ⟨z,fun w=>c.2 w.symm⟩,fun z=>(jcc.mp z).1⟩
   simp only [e1,e2]
theorem jo4 {ns:List Int} {g:Int} (hn:ns.Nodup) (hg:g ∈ ns) {ts:List (Int × Int)} :
  (((subL ns).filter fun s=>touB ts s && decide (g ∈ s)).map (lsS g)).Perm ((subL (lsS g ns)).filter (touB (ts.filter (lsT g)))):=by
 have hG:∀ s,s ∈ (subL ns).filter (fun s=>touB ts s && decide (g ∈ s)) ↔ s.Sublist ns∧touB ts s = true∧g ∈ s:=fun s=>by
  rw [List.mem_filter,Bool.and_eq_true,decide_eq_true_iff]
  exact ⟨fun h=>⟨jbr _ _ h.1,h.2⟩,fun h=>⟨jmn h.1,h.2⟩⟩
 have hn':(lsS g ns).Nodup:=List.Nodup.sublist List.filter_sublist hn
 have inj:∀ a b,a ∈ (subL ns).filter (fun s=>touB ts s && decide (g ∈ s))→b ∈ (subL ns).filter (fun s=>touB ts s && decide (g ∈ s))→lsS g a = lsS g b→a = b:=fun a b ha hb z=>by
  obtain ⟨a1,_,a3⟩:=(hG a).mp ha
  obtain ⟨b1,_,b3⟩:=(hG b).mp hb
  rw [← jbo hn a1,← jbo hn b1]
  refine List.filter_congr fun n _=>decide_eq_decide.mpr ?_
  by_cases c:n = g
  ·rw [c]; exact ⟨fun _=>b3,fun _=>a3⟩
  ·have h1:n ∈ lsS g a ↔ n ∈ lsS g b:=by rw [z]
   rw [jcc,jcc] at h1
   exact ⟨fun q=>(h1.mp ⟨q,c⟩).1,fun q=>(h1.mpr ⟨q,c⟩).1⟩
 refine (List.perm_ext_iff_of_nodup (List.pairwise_map.mpr (List.Pairwise.imp_of_mem (fun ha hb hne z=>hne (inj _ _ ha hb z)) (List.Nodup.sublist List.filter_sublist (jmm hn)))) (List.Nodup.sublist List.filter_sublist (jmm hn'))).mpr fun x=>?_
 ·rw [List.mem_map,List.mem_filter]
  constructor
  ·rintro ⟨s,hs,rfl⟩
   obtain ⟨s1,s2,s3⟩:=(hG s).mp hs
   exact ⟨jmn (List.Sublist.filter _ s1),by rw [← jgl s3]; exact s2⟩
  ·rintro ⟨h1,h2⟩
   have hx:=jbr _ _ h1
   have hxg:g ∉ x:=fun z=>(jcc.mp (hx.subset z)).2 rfl
   have hs:(ns.filter fun n=>decide (n ∈ x) || decide (n = g)).Sublist ns:=List.filter_sublist
   have hgs:g ∈ ns.filter fun n=>decide (n ∈ x) || decide (n = g):=List.mem_filter.mpr ⟨hg,by rw [decide_eq_true (rfl:g = g),Bool.or_true]⟩
   have e:lsS g (ns.filter fun n=>decide (n ∈ x) || decide (n = g)) = x:=by
    refine Eq.trans ?_ (jbo hn' hx)
    unfold lsS
    rw [List.filter_filter,List.filter_filter]
    refine List.filter_congr fun n _=>?_
    by_cases c:n = g
    ·rw [decide_eq_true c]; simp
    ·rw [decide_eq_false c]; simp
   refine ⟨_,(hG _).mpr ⟨hs,?_,hgs⟩,e⟩
   rw [jgl hgs,e]
   exact h2
theorem jo5 {ps ts:List (Int × Int)} (wok:WebOk ps ts) {p:Int × Int} (hp:p ∈ ps) (wok':WebOk (ps.filter (lsP p.1)) (ts.filter (lsT p.1))) :
  (((((subL (ps.map (·.1))).filter (touB ts)).filter fun s=>decide (cst ps s = (jac ps ts).1)).filter fun s=>decide (p.1 ∈ s)).length:Int) = if (jac (ps.filter (lsP p.1)) (ts.filter (lsT p.1))).1 + p.2 = (jac ps ts).1 then (jac (ps.filter (lsP p.1)) (ts.filter (lsT p.1))).2.1 else 0:=by
 have hn:=wok.p.nodup
 have hpn:p.1 ∈ ps.map (·.1):=List.mem_map_of_mem hp
 have hL:=jc2 wok
 have hL':=jc2 wok'
 have hpm:=jo4 hn hpn (ts:=ts)
 rw [← jsl] at hpm
 generalize jac ps ts = a at hL
 generalize jac (ps.filter (lsP p.1)) (ts.filter (lsT p.1)) = b at hL'
 have e1:((((subL (ps.map (·.1))).filter (touB ts)).filter fun s=>decide (cst ps s = a.1)).filter fun s=>decide (p.1 ∈ s)) = ((subL (ps.map (·.1))).filter fun s=>touB ts s && decide (p.1 ∈ s)).filter fun s=>decide (cst ps s = a.1):=by
  rw [List.filter_filter,List.filter_filter,List.filter_filter]
  refine List.filter_congr fun s _=>?_
  cases touB ts s <;> cases decide (p.1 ∈ s) <;> cases decide (cst ps s = a.1) <;> rfl
 have hc:∀ s ∈ (subL (ps.map (·.1))).filter (fun s=>touB ts s && decide (p.1 ∈ s)),cst ps s = cst (ps.filter (lsP p.1)) (lsS p.1 s) + p.2:=fun s hs=>by
  rw [List.mem_filter,Bool.and_eq_true,decide_eq_true_iff] at hs
  exact jl9 hn hp hs.2.2
 have e2:(((subL (ps.map (·.1))).filter fun s=>touB ts s && decide (p.1 ∈ s)).filter fun s=>decide (cst ps s = a.1)).length = (((subL ((ps.filter (lsP p.1)).map (·.1))).filter (touB (ts.filter (lsT p.1)))).filter fun s=>decide (cst (ps.filter (lsP p.1)) s = a.1 - p.2)).length:=by
  rw [← (hpm.filter _).length_eq,List.filter_map,List.length_map]
  congr 1
  refine List.filter_congr fun s hs=>?_
  show decide (cst ps s = a.1) = decide (cst (ps.filter (lsP p.1)) (lsS p.1 s) = a.1 - p.2)
  rw [hc s hs]
  exact decide_eq_decide.mpr (by omega)
 rw [e1,e2]
 have hge:a.1 ≤ b.1 + p.2:=by
  obtain ⟨s,hs,e⟩:=List.mem_map.mp (hpm.mem_iff.mpr hL'.mem.1)
  have h1:=hc s hs
  rw [e,hL'.mem.2] at h1
  rw [List.mem_filter,Bool.and_eq_true] at hs
  have:=hL.le s (List.mem_filter.mpr ⟨hs.1,hs.2.1⟩)
  omega
 by_cases c:b.1 + p.2 = a.1
 ·rw [if_pos c,hL'.many,show a.1 - p.2 = b.1 by omega]
 ·rw [if_neg c,List.filter_eq_nil_iff.mpr fun s hs z=>?_]
  ·rfl
  ·have h1:=hL'.le s hs
   have h2:=of_decide_eq_true z
   omega
end My
namespace My
open PySem L2
section
variable {P:Program} {w:World} {K:PySem.W.Frag} {mg:Str→Option Value} {base:Heap} {c1 c2 c3 c4:Tok}
def webD (ps ts:List (Int × Int)):Dt:=.tup [.lst (ps.map jd4),.lst (ts.map jd4)]
theorem jd5.rep {H:Hp} {v:V} {ps ts:List (Int × Int)} (h:jd5 H v ps ts):Rep H (webD ps ts) v:=by
 obtain ⟨u,pa,ta,xs,ys,e,h1,h2,h3,h4,h5⟩:=h
 rw [webD,Rep]
 refine ⟨u,_,e,h1,?_⟩
 rw [Reps]
 refine ⟨_,_,rfl,?_,?_⟩
 ·rw [Rep]
  exact ⟨pa,xs,rfl,h2,Prs.reps h4⟩
 ·rw [Reps]
  refine ⟨_,_,rfl,?_,(by rw [Reps])⟩
  rw [Rep]
  exact ⟨ta,ys,rfl,h3,Prs.reps h5⟩
theorem jcu:∀ (ps:List (Int × Int)),deps (ps.map jd4) ≤ 2∧wids (ps.map jd4) ≤ 2
 | []=>by rw [List.map_nil,deps,wids]; omega
 | p :: r=>by
  have h:=jcu r
  have e1:dep (jd4 p) = 2:=by simp [jd4,dep,deps]
  have e2:wid (jd4 p) = 2:=by simp [jd4,wid,wids]
  rw [List.map_cons,deps,wids,e1,e2]
  omega
theorem jde:∀ (ns:List Int),deps (ns.map Dt.int) ≤ 1∧wids (ns.map Dt.int) = 0
 | []=>by rw [List.map_nil,deps,wids]; omega
 | n :: r=>by
  have h:=jde r
  rw [List.map_cons,deps,wids]
  have e1:dep (Dt.int n) = 1:=by simp [dep]
  have e2:wid (Dt.int n) = 0:=by simp [wid]
  rw [e1,e2]
  omega
theorem jt5 (ps ts:List (Int × Int)):dep (webD ps ts) ≤ 4:=by
 have h1:=(jcu ps).1
 have h2:=(jcu ts).1
 simp only [webD,dep,deps]
 omega
theorem jrq {ps ts:List (Int × Int)} (h1:ps.length ≤ 40) (h2:ts.length ≤ 120):wid (webD ps ts) ≤ 1000:=by
 have h3:=(jcu ps).2
 have h4:=(jcu ts).2
 simp only [webD,wid,wids,List.length_map,List.length_cons,List.length_nil]
 omega
theorem jkd {H:Hp}:∀ (ns:List Int),Reps H (ns.map Dt.int) (ns.map V.int)
 | []=>by rw [List.map_nil,Reps]; rfl
 | n :: r=>by
  rw [List.map_cons,List.map_cons,Reps]
  exact ⟨_,_,rfl,by rw [Rep],jkd r⟩
theorem repL {H:Hp} {a:Addr} {ns:List Int} (e:H a = some (.lst (ns.map V.int))):Rep H (.lst (ns.map Dt.int)) (.ref a):=by
 rw [Rep]
 exact ⟨a,_,rfl,e,jkd ns⟩
theorem dep_L (ns:List Int):dep (.lst (ns.map Dt.int)) ≤ 6:=by
 have:=(jde ns).1
 rw [dep]
 omega
theorem wid_L {ns:List Int} (h:ns.length ≤ 1000):wid (.lst (ns.map Dt.int)) ≤ 1000:=by
 have:=(jde ns).2
 rw [wid,List.length_map]
 omega
end
end My
namespace My
open PySem L2
section
variable {P:Program} {w:World} {K:PySem.W.Frag} {mg:Str→Option Value} {base:Heap} {c1 c2 c3 c4:Tok}
def jmx:Sp:=fun vs H Q _=>∃ v ps ts,vs = [v]∧jd5 H v ps ts∧∀ t l1 l2 xs ys H',Same H H'→H l1 = none→H l2 = none→l1 ≠ l2→H' t = some (.tup [.ref l1,.ref l2])→H' l1 = some (.lst xs)→H' l2 = some (.lst ys)→Prs H' xs ps→Prs H' ys ts→Q (.ref t) H'
theorem ji5 {f:Addr} {fd:FuncData}  (B:Blt mg) (D:DefAt K mg "_law_copy" (top 50) ["_law_web"] f fd):FnOk P w K mg base CX0 1 f fd ["_law_web"] jmx:=by
 have sc:FnScope ["_law_web"] ["_law_web"] (jaa (top 50)):=⟨rfl,rfl,rfl,by decide +kernel,rfl,by decide +kernel,by decide +kernel⟩
 refine D.F.ok sc (fun vs H Q E h=>?_) (fun cdv A outer s H vs Q E hr h=>?_)
 ·obtain ⟨v,ps,ts,rfl,_⟩:=h
  rfl
 obtain ⟨v,ps,ts,rfl,hw,h⟩:=h
 obtain ⟨x,pa,ta,xs,ys,rfl,ex,ep,et,pp,pt⟩:=id hw
 have hu:=jbg hr
 have hu0:_ < PySem.cLine:=Nat.lt_of_succ_lt hu
 refine ⟨_,(ja6 (jah (jb8 (ja0 (jbe jkh rfl B.list PyProof.Rows.boot_list (ja0 (jae q_ix (qv 0) ja4 (fun _ _=>rfl)) ja3)) (ja0 (jbe jkh rfl B.list PyProof.Rows.boot_list (ja0 (jae q_ix (qv 0) ja4 (fun _ _=>rfl)) ja3)) ja3))))),?_⟩
 simp_arith [jam,ex,at0,ep]
 intro l1 hl1
 have s1:=ja5 hl1 (.lst xs)
 have e1:upd H l1 (.lst xs) l1 = some (.lst xs):=ja1
 generalize upd H l1 (.lst xs) = H1 at s1 e1
 simp_arith [jam,s1 _ _ ex,at1,s1 _ _ et]
 intro l2 hl2
 have s2:=ja5 hl2 (.lst ys)
 have e2:upd H1 l2 (.lst ys) l2 = some (.lst ys):=ja1
 have e12:=s2 _ _ e1
 have n12:l1 ≠ l2:=fun z=>by rw [z,hl2] at e1; cases e1
 have s02:=s1.trans s2
 generalize upd H1 l2 (.lst ys) = H2 at s2 e2 e12 s02
 intro t ht
 have s3:=ja5 ht (.tup [.ref l1,.ref l2])
 exact h t l1 l2 xs ys _ (s02.trans s3) hl1 (s1.free hl2) n12 ja1 (s3 _ _ e12) (s3 _ _ e2) (Prs.same (s02.trans s3) pp) (Prs.same (s02.trans s3) pt)
end
end My
namespace My
open PySem L2
section
variable {P:Program} {w:World} {K:PySem.W.Frag} {mg:Str→Option Value} {base:Heap} {c1 c2 c3 c4:Tok}
theorem PlOk.le:∀ {ps:List (Int × Int)} {l s:Int},PlOk l s ps→∀ p ∈ ps,p.1 ≤ 999
 | [],_,_,_,_,h=>by cases h
 | q :: r,l,s,h,p,hp=>by
  rcases List.mem_cons.mp hp with e | hp
  ·rw [e]; exact h.1.2.1
  ·exact PlOk.le h.2 p hp
theorem TiOk.of {kvs:List (Key × V)}:∀ {qs:List (Int × Int)} {q:Int × Int},(∀ t ∈ qs,q.1 < t.1 ∨ (q.1 = t.1∧q.2 < t.2))→qs.Pairwise jq6→qs.Nodup→(∀ t ∈ qs,t.1 < t.2∧hasK kvs t.1 = true∧hasK kvs t.2 = true)→TiOk kvs q qs
 | [],_,_,_,_,_=>trivial
 | p :: r,q,h1,h2,h3,h4=>by
  rw [List.pairwise_cons] at h2
  rw [List.nodup_cons] at h3
  refine ⟨⟨?_,h4 p (.head _)⟩,TiOk.of (fun t m=>?_) h2.2 h3.2 fun t m=>h4 t (.tail _ m)⟩
  ·rcases h1 p (.head _) with c | ⟨c,d⟩
   ·exact lex_lt c
   ·rw [c]; exact lex_eq d
  ·have z:=h2.1 t m
   unfold jq6 at z
   by_cases c:p.1 = t.1
   ·have ne:p.2 ≠ t.2:=fun d=>h3.1 (by rw [show p = t from Prod.ext c d]; exact m)
    omega
   ·omega
structure GrI (ps:List (Int × Int)) (k:Nat) (ts:List (Int × Int)):Prop where
 e:∀ t ∈ ts,t.1 < t.2∧(∃ p ∈ ps,p.1 = t.1)∧∃ p ∈ ps,p.1 = t.2
 nd:(ts.map (·.2)).Nodup
 lt:∀ t ∈ ts,∀ (j:Nat) (p:Int × Int),k ≤ j→ps[j]? = some p→t.2 < p.1
 len:ts.length ≤ k
theorem GrI.nil (ps:List (Int × Int)) (k:Nat):GrI ps k []:=⟨(fun _ h=>by cases h),List.nodup_nil,(fun _ h=>by cases h),Nat.zero_le _⟩
theorem GrI.up {ps ts:List (Int × Int)} {k:Nat} (h:GrI ps k ts):GrI ps (k + 1) ts:=⟨h.e,h.nd,fun t ht j p hj=>h.lt t ht j p (by omega),by have:=h.len; omega⟩
theorem GrI.snoc {ps ts:List (Int × Int)} {k i:Nat} {p q:Int × Int} (h:GrI ps k ts) (rise:∀ (i j:Nat) (p q:Int × Int),i < j→ps[i]? = some p→ps[j]? = some q→p.1 < q.1) (hi:i < k) (hp:ps[i]? = some p) (hq:ps[k]? = some q):GrI ps (k + 1) (ts ++ [(p.1,q.1)]):=by
 refine ⟨fun t ht=>?_,?_,fun t ht j x hj hx=>?_,?_⟩
 ·rcases List.mem_append.mp ht with z | z
  ·exact h.e t z
  ·rw [List.mem_singleton.mp z]
   exact ⟨rise i k p q hi hp hq,⟨p,List.mem_of_getElem? hp,rfl⟩,q,List.mem_of_getElem? hq,rfl⟩
 ·rw [List.map_append,List.nodup_append]
  refine ⟨h.nd,by simp,fun a ha b hb z=>?_⟩
  obtain ⟨t,ht,e⟩:=List.mem_map.mp ha
  have:=h.lt t ht k q (Nat.le_refl _) hq
  have hb':b = q.1:=by simpa using hb
  omega
 ·rcases List.mem_append.mp ht with z | z
  ·exact h.lt t z j x (by omega) hx
  ·rw [List.mem_singleton.mp z]
   exact rise k j q x (by omega) hq hx
 ·rw [List.length_append]
  have:=h.len
  show _ + 1 ≤ _
  omega
theorem GrI.gro {ps ts qs:List (Int × Int)} {k:Nat} (h:GrI ps k ts) (pm:qs.Perm ts):Gro qs:=by
 have hnd:(qs.map (·.2)).Nodup:=(pm.map _).nodup_iff.mpr h.nd
 refine ⟨fun t ht=>(h.e t (pm.mem_iff.mp ht)).1,(List.pairwise_map.mp hnd).imp (fun h z=>h (by rw [z])),fun t ht t' ht' e=>?_⟩
 obtain ⟨i,hi⟩:=List.getElem?_of_mem ht
 obtain ⟨j,hj⟩:=List.getElem?_of_mem ht'
 have a:(qs.map (·.2))[i]? = some t.2:=by rw [List.getElem?_map,hi]; rfl
 have b:(qs.map (·.2))[j]? = some t.2:=by rw [List.getElem?_map,hj,e]; rfl
 have:=jff hnd a b
 rw [this,hj] at hi
 exact (Option.some.inj hi).symm
def Span (ps ts:List (Int × Int)):Prop:=∀ t ∈ ts,∃ (i j:Nat) (p q:Int × Int),ps[i]? = some p∧ps[j]? = some q∧t = (p.1,q.1)∧i < j∧j ≤ i + 4
theorem Span.wide {ps ts:List (Int × Int)} (h:Span ps ts) (wok:WebOk ps ts):jgj ps ts = true:=by
 have hlt:∀ t ∈ ts,t.1 < t.2:=fun t ht=>(wok.ends t ht).1
 have rise:=wok.p.rise
 unfold jgj
 rw [List.all_eq_true]
 intro n hn
 refine decide_eq_true ?_
 obtain ⟨p,hp,rfl⟩:=List.mem_map.mp hn
 obtain ⟨i,hi⟩:=List.getElem?_of_mem hp
 have hnd:(jba ps ts p.1).Nodup:=by
  unfold jba
  exact List.Nodup.sublist List.filter_sublist wok.p.nodup
 have h1:=jnt hnd (b:=((ps.drop (i - 3)).take 4).map (·.1)) fun x hx=>by
  obtain ⟨hxp,hxn,y,hy,hny⟩:=je6.mp hx
  have ht:(x,y) ∈ ts:=by
   rcases (jbl hlt).mp hy with z | z
   ·exact z
   ·have:y < x:=hlt _ z
    omega
  obtain ⟨a,b,q,r,hq,hr,e,hab,hb4⟩:=h _ ht
  have e1:x = q.1:=congrArg Prod.fst e
  have e2:y = r.1:=congrArg Prod.snd e
  have ha:a ≤ i:=by
   rcases Nat.lt_or_ge i a with c | c
   ·have:=rise i a p q c hi hq
    omega
   ·exact c
  have hb:i < b:=by
   rcases Nat.lt_or_ge i b with c | c
   ·exact c
   ·rcases Nat.lt_or_ge b i with d | d
    ·have:=rise b i r p d hr hi
     omega
    ·have:b = i:=by omega
     rw [this,hi] at hr
     cases hr
     omega
  rw [e1]
  refine List.mem_map_of_mem (List.mem_of_getElem? (i:=a - (i - 3)) ?_)
  rw [List.getElem?_take,if_pos (by omega),List.getElem?_drop,show i - 3 + (a - (i - 3)) = a by omega]
  exact hq
 have h2:(((ps.drop (i - 3)).take 4).map (·.1)).length ≤ 4:=by
  rw [List.length_map,List.length_take]
  omega
 omega
def jmr (K:PySem.W.Frag):Sp:=fun vs H Q _=>∃ a ns s o,vs = [.ref a,.ref s]∧Scr K H a ns∧H s = some o∧StO o ∧
 ∀ v H' ps ts,But s H H'→jd5 H' v ps ts→WebOk ps ts→Gro ts→jgj ps ts = true→Q v H'
theorem at3n {a b c:V} {d:Int} (h0:0 ≤ d) (h1:d < 3):∃ v,atI [a,b,c] d = some v∧(v = a ∨ v = b ∨ v = c):=by
 have:d = 0 ∨ d = 1 ∨ d = 2:=by omega
 rcases this with e | e | e <;> subst e
 ·exact ⟨a,rfl,.inl rfl⟩
 ·exact ⟨b,rfl,.inr (.inl rfl)⟩
 ·exact ⟨c,rfl,.inr (.inr rfl)⟩
theorem jh1 {f:Addr} {fd:FuncData} {f_law_take:Addr} {d_law_take:FuncData} {f_law_places:Addr} {d_law_places:FuncData} {f_law_begun:Addr} {d_law_begun:FuncData} (B:Blt mg) (D:DefAt K mg "_law_web_by" (top 51) ["_law_script","_law_state"] f fd) (D_law_take:DefAt K mg "_law_take" (top 47) ["_law_state","_law_many"] f_law_take d_law_take) (G_law_take:FnOk P w K mg base CX0 1 f_law_take d_law_take ["_law_state","_law_many"] jk9) (D_law_places:DefAt K mg "_law_places" (top 48) ["_law_state","_law_count"] f_law_places d_law_places) (G_law_places:FnOk P w K mg base CX0 2 f_law_places d_law_places ["_law_state","_law_count"] jka) (D_law_begun:DefAt K mg "_law_begun" (top 46) ["_law_script","_law_k"] f_law_begun d_law_begun) (G_law_begun:FnOk P w K mg base CX0 1 f_law_begun d_law_begun ["_law_script","_law_k"] (jj2 K)):FnOk P w K mg base CX0 3 f fd ["_law_script","_law_state"] (jmr K):=by
 have sc:FnScope ["_law_script","_law_state","_law_places_here","_law_ties","_law_k","_law_ago"] ["_law_script","_law_state"] (jaa (top 51)):=⟨rfl,rfl,rfl,by decide +kernel,rfl,by decide +kernel,by decide +kernel⟩
 refine D.F.ok sc (fun vs H Q E h=>?_) (fun cdv A outer s H vs Q E hr h=>?_)
 ·obtain ⟨a,ns,s,o,rfl,_⟩:=h
  rfl
 obtain ⟨a,ns,st,o,rfl,hs,es,so,h⟩:=h
 have hu:=jbg hr
 have hu0:_ < PySem.cLine:=Nat.lt_of_succ_lt hu
 refine ⟨_,(ja2 (jag (i:=2) sc.nd rfl (Or.inl rfl) (ja9 G_law_places (hr.mono (by decide)) rfl D_law_places.m D_law_places.F.kp D_law_places.b .nil jan (ja0 (qv 1) (ja0 (ja9 G_law_take (hr.mono (by decide)) rfl D_law_take.m D_law_take.F.kp D_law_take.b .nil jan (ja0 (qv 1) (ja0 ja4 ja3))) ja3)))) (ja2 (jag (i:=3) sc.nd rfl (Or.inl rfl) (jc9 ja3)) (ja2 (jbu PassesOwn.never rfl (jnj rfl B.range (ja0 ja4 (ja0 (jab jeb rfl B.len PySem.boot_len (ja0 (qv 2) ja3)) ja3))) (jad (i:=4) sc.nd rfl (Or.inl rfl)) (ja2 (jag (i:=1) sc.nd rfl (Or.inl rfl) (ja9 G_law_begun (hr.mono (by decide)) rfl D_law_begun.m D_law_begun.F.kp D_law_begun.b .nil jan (ja0 (qv 0) (ja0 (qv 4) ja3)))) (ja2 (jag (i:=5) sc.nd rfl (Or.inl rfl) (jb0 jdr ja4 (ja9 G_law_take (hr.mono (by decide)) rfl D_law_take.m D_law_take.F.kp D_law_take.b .nil jan (ja0 (qv 1) (ja0 (jae q_ix (jc9 (ja0 ja4 (ja0 ja4 (ja0 ja4 ja3)))) (ja9 G_law_take (hr.mono (by decide)) rfl D_law_take.m D_law_take.F.kp D_law_take.b .nil jan (ja0 (qv 1) (ja0 ja4 ja3))) (fun _ _=>rfl)) ja3))))) (ja6 (jbd (PW.pt (jhx (jaw q_le (qv 5) (qv 4) (jap _)) (jf5 (jaw q_gt (ja9 G_law_take (hr.mono (by decide)) rfl D_law_take.m D_law_take.F.kp D_law_take.b .nil jan (ja0 (qv 1) (ja0 ja4 ja3))) ja4 (jap _))))) (ja6 (jc3 (q_bm PySem.F.plainAttrs_list PySem.F.slot_list_append PySem.F.type_list_append jdi (qv 3) (ja0 (jb8 (ja0 (jae q_ix (jae q_ix (qv 2) (jb0 q_sub (qv 4) (qv 5)) (fun _ _=>rfl)) ja4 (fun _ _=>rfl)) (ja0 (jae q_ix (jae q_ix (qv 2) (qv 4) (fun _ _=>rfl)) ja4 (fun _ _=>rfl)) ja3))) ja3)))) jak))))) (ja6 (jah (jb8 (ja0 (qv 2) (ja0 (jab jlw rfl B.sorted PyProof.Rows.boot_sorted (ja0 (qv 3) ja3)) ja3)))))))),?_⟩
 walk_at "RD"
 refine ⟨st,o,41,rfl,es,so,by omega,by omega,fun n o1 n0 n1 so1=>?_⟩
 walk_at "RD"
 refine ⟨st,o1,n,rfl,ja1,so1,n0,by omega,fun r HA oA xs ps hr0 bA eA soA er pp hlen dr=>?_⟩
 have nr:r ≠ st:=fun z=>by rw [z,ja1] at hr0; cases hr0
 have bB:But st H HA:=(But.at st H o1).trans bA
 have hpl:ps.length ≤ 40:=by omega
 have hsA:Scr K HA a ns:=hs.tups (bB.tups es so.imm)
 have plok:=dr.pl (s:=0) (by omega) (by omega)
 have hnd:=plok.nodup
 have hlx:xs.length = ps.length:=Paired.length pp
 have rise:=dr.rise
 clear bA
 walk_at "RD"
 intro tl htl
 have ntl:tl ≠ st:=(ja7 eA htl).symm
 have nrt:r ≠ tl:=ja7 er htl
 have htl0:H tl = none:=by
  cases q:H tl with
  | none=>rfl
  | some u=>rw [bB _ _ ntl q] at htl; cases htl
 refine jco (Itr 1 (ps.length - 1)) (upd HA tl (.lst [])) (fun R hR=>?_) (jig (n:=ps.length - 1) (fun i σ H1=>∃ ss kk gg zs ts,σ = [some (.ref a),ss,some (.ref r),some (.ref tl),kk,gg]∧But st H H1∧Scr K H1 a ns∧H1 r = some (.lst xs)∧Prs H1 xs ps∧H1 tl = some (.lst zs)∧Prs H1 zs ts∧GrI ps (i + 1) ts∧Span ps ts) ?_ ?_ ?_)
 ·unfold iRng2
  have erT:upd HA tl (.lst []) r = some (.lst xs):=by rw [ja8 nrt]; exact er
  simp_arith [jam,erT]
  refine ⟨1,(xs.length:Int),rfl,⟨by omega,by omega,by omega,by omega⟩,?_⟩
  have e:((xs.length:Int) - 1).toNat = ps.length - 1:=by omega
  rw [e]
  exact hR
 ·exact ⟨_,none,none,[],[],rfl,bB.trans (But.new htl),hsA.tups (jep htl),by rw [ja8 nrt]; exact er,Prs.tups (jep htl) pp,ja1,.nil,GrI.nil _ _,(fun _ h=>by cases h)⟩
 ·rintro i σ H0 hi ⟨ss,kk,gg,zs,ts,rfl,b0,hs0,er0,pp0,etl0,pz0,gri,hspan⟩
  have hk:i + 1 < ps.length:=by omega
  have xk:ps[i + 1]? = some ps[i + 1]:=List.getElem?_eq_getElem hk
  generalize ps[i + 1] = pk at xk
  walk_at "RD"
  refine ⟨a,1 + (i:Int),ns,rfl,hs0,by omega,by omega,fun st2 o2 hst2 so2=>?_⟩
  have sN:=ja5 hst2 o2
  have e2:upd H0 st2 o2 st2 = some o2:=ja1
  have b2:But st H (upd H0 st2 o2):=fun b u nb q=>sN _ _ (b0 _ _ nb q)
  have hs2:=hs0.tups sN.tups
  have er2:=sN _ _ er0
  have pp2:=Prs.same sN pp0
  have etl2:=sN _ _ etl0
  have pz2:=Prs.same sN pz0
  have nr2:r ≠ st2:=ja7 er0 hst2
  have ntl2:tl ≠ st2:=ja7 etl0 hst2
  have hstn:H st2 = none ∨ st2 = st:=by
   by_cases c:st2 = st
   ·exact .inr c
   ·cases q:H st2 with
    | none=>exact .inl rfl
    | some u=>rw [b0 _ _ c q] at hst2; cases hst2
  have bb:∀ {HX:Hp},But st2 (upd H0 st2 o2) HX→But st H HX:=fun bX b u nb q=>bX _ _ (fun z=>by
   rcases hstn with w | w
   ·rw [z,w] at q; cases q
   ·exact nb (z.trans w)) (b2 _ _ nb q)
  generalize upd H0 st2 o2 = H2 at sN e2 b2 hs2 er2 pp2 etl2 pz2 bb
  walk_at "RD"
  intro L hL
  have sL:=ja5 hL (.lst [.int 1,.int 2,.int 4])
  have eL:upd H2 L (.lst [.int 1,.int 2,.int 4]) L = some (.lst [.int 1,.int 2,.int 4]):=ja1
  generalize upd H2 L (.lst [.int 1,.int 2,.int 4]) = HL at sL eL
  have nLs:L ≠ st2:=fun z=>by rw [z,e2] at hL; cases hL
  refine ⟨st2,o2,3,rfl,sL _ _ e2,so2,by decide,by decide,fun d o3 d0 d1 so3=>?_⟩
  have b3:But st2 HL (upd HL st2 o3):=But.at _ _ _
  have t3:TupS H2 (upd HL st2 o3):=sL.tups.trans (b3.tups (sL _ _ e2) so2.imm)
  have eL3:=b3 _ _ nLs eL
  have B3:But st2 H2 (upd HL st2 o3):=fun b u nb q=>b3 _ _ nb (sL _ _ q)
  have e3:upd HL st2 o3 st2 = some o3:=ja1
  generalize upd HL st2 o3 = H3 at b3 t3 eL3 B3 e3
  obtain ⟨mv,hmv,hor⟩:=at3n (a:=.int 1) (b:=.int 2) (c:=.int 4) d0 d1
  obtain ⟨mi,rfl,mi0,mi1⟩:∃ mi:Int,mv = .int mi∧1 ≤ mi∧mi ≤ 4:=by
   rcases hor with e | e | e
   ·exact ⟨_,e,by omega,by omega⟩
   ·exact ⟨_,e,by omega,by omega⟩
   ·exact ⟨_,e,by omega,by omega⟩
  simp_arith [jam,eL3,hmv]
  refine ⟨st2,o3,mi,rfl,e3,so3,by omega,by omega,fun ago o4 g0 g1 so4=>?_⟩
  have b4:But st2 H3 (upd H3 st2 o4):=But.at _ _ _
  have t4:TupS H2 (upd H3 st2 o4):=t3.trans (b4.tups e3 so3.imm)
  have B4:But st2 H2 (upd H3 st2 o4):=B3.trans b4
  have e4:upd H3 st2 o4 st2 = some o4:=ja1
  generalize upd H3 st2 o4 = H4 at b4 t4 B4 e4
  have stay:∀ (gg:Option V) (HX:Hp),But st2 H2 HX→TupS H2 HX→∃ ss kk gg' zs ts,[some (V.ref a),some (.ref st2),some (.ref r),some (.ref tl),some (.int (1 + (i:Int))),gg] = [some (V.ref a),ss,some (.ref r),some (.ref tl),kk,gg']∧But st H HX∧Scr K HX a ns∧HX r = some (.lst xs)∧Prs HX xs ps∧HX tl = some (.lst zs)∧Prs HX zs ts∧GrI ps (i + 1 + 1) ts∧Span ps ts:=fun gg HX bX tX=>⟨_,_,_,zs,ts,rfl,bb bX,hs2.tups tX,bX _ _ nr2 er2,Prs.tups tX pp2,bX _ _ ntl2 etl2,Prs.tups tX pz2,gri.up,hspan⟩
  walk_at "RD"
  refine ite2 (fun c=>?_) (fun c=>?_)
  case' refine_2=>exact stay _ _ B4 t4
  refine ⟨st2,o4,7,rfl,e4,so4,by decide,by decide,fun d5 o5 d50 d51 so5=>?_⟩
  have b5:But st2 H4 (upd H4 st2 o5):=But.at _ _ _
  have t5:TupS H2 (upd H4 st2 o5):=t4.trans (b5.tups e4 so4.imm)
  have B5:But st2 H2 (upd H4 st2 o5):=B4.trans b5
  have e5:upd H4 st2 o5 st2 = some o5:=ja1
  generalize upd H4 st2 o5 = H5 at b5 t5 B5 e5
  walk_at "RD"
  refine ite2 (fun c2=>?_) (fun c2=>?_)
  case' refine_2=>exact stay _ _ B5 t5
  have hc:=of_decide_eq_true c
  have xj:ps[i - ago.toNat]? = some (ps[i - ago.toNat]'(by omega)):=List.getElem?_eq_getElem _
  generalize ps[i - ago.toNat]'(by omega) = pj at xj
  obtain ⟨uk,gk1,hgk⟩:=jbf pp2 xk
  obtain ⟨uj,gj,hgj⟩:=jbf pp2 xj
  obtain ⟨tk,ek,hk3⟩:=hgk.tups t5
  obtain ⟨tj,ej,hj3⟩:=hgj.tups t5
  have ak:atI xs (1 + (i:Int)) = some (.ref tk):=by rw [show 1 + (i:Int) = ((i + 1:Nat):Int) by omega,← ek]; exact jc4 gk1
  have aj:atI xs (1 + (i:Int) - (1 + ago)) = some (.ref tj):=by
   rw [show 1 + (i:Int) - (1 + ago) = ((i - ago.toNat:Nat):Int) by omega,← ej]
   exact jc4 gj
  have er5:=B5 _ _ nr2 er2
  have etl5:=B5 _ _ ntl2 etl2
  have hz2:zs.length = ts.length:=Paired.length pz2
  have hgl:=gri.len
  refine ⟨⟨tl,_,rfl,etl5⟩,?_⟩
  simp_arith [jam,er5,ak,aj,hk3,hj3,at0]
  intro t ht
  have s6:=ja5 ht (.tup [.int pj.1,.int pk.1])
  have et6:upd H5 t (.tup [.int pj.1,.int pk.1]) t = some (.tup [.int pj.1,.int pk.1]):=ja1
  generalize upd H5 t (.tup [.int pj.1,.int pk.1]) = H6 at s6 et6
  have etl6:=s6 _ _ etl5
  have t6:TupS H2 H6:=t5.trans s6.tups
  simp_arith [etl6]
  have t7:=jcg (ys:=zs ++ [.ref t]) etl6
  have t27:=t6.trans t7
  refine ⟨szl' (by omega),_,_,_,zs ++ [.ref t],ts ++ [(pj.1,pk.1)],rfl,fun b u nb q=>?_,hs2.tups t27,?_,Prs.tups t27 pp2,ja1,jay (Prs.tups t27 pz2) (Pr.tups ⟨t,rfl,et6⟩ t7),gri.snoc rise (by omega) xj xk,fun t' ht'=>?_⟩
  ·rw [ja8 (ja7 q htl0)]
   exact s6 _ _ (bb B5 _ _ nb q)
  ·rw [ja8 nrt]; exact s6 _ _ er5
  ·rcases List.mem_append.mp ht' with z | z
   ·exact hspan t' z
   ·exact ⟨_,_,_,_,xj,xk,List.mem_singleton.mp z,by omega,by omega⟩
 ·rintro σ H1 ⟨ss,kk,gg,zs,ts,rfl,b1,hs1,er1,pp1,etl,pz,gri,hspan⟩
  have hz:zs.length = ts.length:=Paired.length pz
  have hgl:=gri.len
  walk_at "RD"
  refine ⟨tl,zs,ts,1000,rfl,etl,pz,by omega,fun t ht=>?_,fun l ys qs hl pq perm pw=>?_⟩
  ·obtain ⟨_,_,p,hp,e⟩:=gri.e t ht
   have g1:=dr.gt p hp
   have g2:=PlOk.le plok p hp
   omega
  ·walk_at "RD"
   intro wv hwv
   have sl:=ja5 hl (.lst ys)
   have s2:=ja5 hwv (.tup [.ref r,.ref l])
   have s3:=sl.trans s2
   have hq:∀ t ∈ qs,t ∈ ts:=fun t ht=>perm.mem_iff.mp ht
   have hql:=perm.length_eq
   have hgro:=gri.gro perm
   have wok:WebOk ps qs:=⟨by omega,plok,by omega,TiOk.of (fun t ht=>?_) pw hgro.nd fun t ht=>?_⟩
   ·exact h _ _ ps qs (fun b u nb q=>s3 _ _ (b1 _ _ nb q)) ⟨wv,r,l,xs,ys,rfl,ja1,s3 _ _ er1,s2 _ _ ja1,Prs.same s3 pp1,Prs.same s3 pq⟩ wok hgro (Span.wide (fun t ht=>hspan t (hq t ht)) wok)
   ·obtain ⟨_,⟨p,hp,e⟩,_⟩:=gri.e t (hq t ht)
    have g1:=dr.gt p hp
    refine .inl ?_
    show -1 < t.1
    omega
   ·obtain ⟨g1,⟨p,hp,e⟩,p2,hp2,e2⟩:=gri.e t (hq t ht)
    refine ⟨g1,?_,?_⟩
    ·rw [← e]; exact jjr hnd hp
    ·rw [← e2]; exact jjr hnd hp2
end
end My
namespace My
open PySem L2
section
variable {P:Program} {w:World} {K:PySem.W.Frag} {mg:Str→Option Value} {base:Heap} {c1 c2 c3 c4:Tok}
def jqu:Sp:=fun vs H Q _=>∃ v g ps ts,vs = [v,.int g]∧jd5 H v ps ts∧ps.length ≤ 40∧ts.length ≤ 120∧∀ v' H',Same H H'→jd5 H' v' (ps.filter (lsP g)) (ts.filter (lsT g))→Q v' H'
def jqv:Sp:=fun vs H Q _=>∃ v t l ps ts c m ss,vs = [v,.ref t]∧jd5 H v ps ts∧WebOk ps ts∧H t = some (.tup [.int c,.int m,.ref l])∧H l = some (.lst (ss.map V.int))∧ss.Sublist (ps.map (·.1))∧cst ps ss = c∧touB ts ss = true∧∀ H',Same H H'→Q (.bl true) H'
theorem jrn:∀ (ps:List (Int × Int)) (ss:List Int),((ps.filter fun p=>decide (p.1 ∈ ss)).map (·.2)).sum = cst ps ss
 | [],_=>rfl
 | p :: r,ss=>by
  have ih:=jrn r ss
  rw [cst,← ih,List.filter_cons]
  by_cases c:p.1 ∈ ss
  ·rw [if_pos (decide_eq_true c),if_pos c,List.map_cons,List.sum_cons]
  ·rw [if_neg (by rw [decide_eq_false c]; exact Bool.false_ne_true),if_neg c,Int.zero_add]
theorem jje {f:Addr} {fd:FuncData}  (B:Blt mg) (D:DefAt K mg "_law_less" (top 52) ["_law_web","_law_gone"] f fd):FnOk P w K mg base CX0 1 f fd ["_law_web","_law_gone"] jqu:=by
 have sc:FnScope ["_law_web","_law_gone","_law_places_here"] ["_law_web","_law_gone"] (jaa (top 52)):=⟨rfl,rfl,rfl,by decide +kernel,rfl,by decide +kernel,by decide +kernel⟩
 refine D.F.ok sc (fun vs H Q E h=>?_) (fun cdv A outer s H vs Q E hr h=>?_)
 ·obtain ⟨v,g,ps,ts,rfl,_⟩:=h
  rfl
 obtain ⟨v,g,ps,ts,rfl,hw,hpl,htl,h⟩:=h
 obtain ⟨x,pa,ta,xs,ys,rfl,ex,ep,et,pp,pt⟩:=id hw
 have hlx:xs.length = ps.length:=Paired.length pp
 have hly:ys.length = ts.length:=Paired.length pt
 have hu:=jbg hr
 have hu0:_ < PySem.cLine:=Nat.lt_of_succ_lt hu
 refine ⟨_,(ja2 (jgu (i:=2) sc.nd rfl (Or.inl rfl) (CpScope.of (N:=["_law_one","_law_gone"]) (src:=[none,some 1]) (by rfl)) rfl (jbm (jae q_ix (qv 0) ja4 (fun _ _=>rfl))) (fun _ _ _ _=>(jad (i:=0) (jai (l:=["_law_one","_law_gone"]) (by rfl)) rfl (Or.inl rfl))) (fun _ _ _ _=>(jds (jaw q_ne (jae q_ix (qv 0) ja4 (fun _ _=>rfl)) (qv 1) (jap _)))) (fun _ _ _ _=>(qv 0))) (ja6 (jah (jb8 (ja0 (qv 2) (ja0 (jcb (CpScope.of (N:=["_law_tie","_law_gone"]) (src:=[none,some 1]) (by rfl)) rfl (jbm (jae q_ix (qv 0) ja4 (fun _ _=>rfl))) (fun _ _ _ _=>(jad (i:=0) (jai (l:=["_law_tie","_law_gone"]) (by rfl)) rfl (Or.inl rfl))) (fun _ _ _ _=>(jds (jaw jgs (qv 1) (qv 0) (by with_unfolding_all rfl)))) (fun _ _ _ _=>(qv 0))) ja3)))))),?_⟩
 walk_at "RD"
 refine jau (Itl K pa) H (fun R hR=>?_) (fun z hz=>jb1 ps.length (fun i σ' Hc=>∃ w1 zs,σ' = [w1,some (.int g)]∧Same H Hc∧Hc z = some (.lst zs)∧Prs Hc zs ((ps.take i).filter (lsP g))) ⟨none,[],rfl,ja5 hz _,ja1,.nil⟩ ?_ ?_)
 ·unfold jdm
  simp_arith [jam,ex,at0]
  exact ⟨pa,rfl,⟨_,SqL.of ep⟩,hR⟩
 ·rintro i σ' Hc hi ⟨w1,zs,rfl,s4,ez,pz⟩
  have x1:xs[i]? = some (xs[i]'(by omega)):=List.getElem?_eq_getElem _
  have z1:SqL K Hc pa xs:=SqL.of (s4 _ _ ep)
  refine ⟨⟨_,_,z1,x1⟩,?_⟩
  rintro y H' ⟨rfl,hy⟩
  obtain ⟨q,hq,pq⟩:=jao pp (hy _ z1)
  obtain ⟨t,rfl,ht⟩:=pq.same s4
  have hzl:zs.length ≤ 120:=by
   have:=Paired.length pz
   have h2:=List.length_filter_le (lsP g) (ps.take i)
   rw [List.length_take] at h2
   omega
  rw [jal hq,List.filter_append,List.filter_cons,List.filter_nil]
  simp_arith [ht,jam,at0]
  skip
  by_cases c:lsP g q = true
  ·rw [if_pos (show (!decide (q.1 = g)) = true from c),if_pos c]
   have t7:=jcg (ys:=zs ++ [.ref t]) ez
   exact ⟨_,ez,szl' (by omega),_,_,rfl,jas s4 hz,ja1,jay (Prs.tups t7 pz) (Pr.tups ⟨t,rfl,ht⟩ t7)⟩
  ·rw [if_neg (show ¬ (!decide (q.1 = g)) = true from c),if_neg c,List.append_nil]
   exact ⟨_,_,rfl,s4,ez,pz⟩
 rintro σ' H1 ⟨w1,zs1,rfl,s1,ez1,pz1⟩
 refine ⟨⟨_,SqL.of (s1 _ _ ep),by omega⟩,?_⟩
 rw [List.take_length] at pz1
 have nz:=z
 have et1:=s1 _ _ et
 have ex1:=s1 _ _ ex
 have pt1:=Prs.same s1 pt
 walk_at "RD"
 refine jau (Itl K ta) H1 (fun R hR=>?_) (fun z2 hz=>jb1 ts.length (fun i σ' Hc=>∃ w1 zs,σ' = [w1,some (.int g)]∧Same H1 Hc∧Hc z2 = some (.lst zs)∧Prs Hc zs ((ts.take i).filter (lsT g))) ⟨none,[],rfl,ja5 hz _,ja1,.nil⟩ ?_ ?_)
 ·unfold jdm
  simp_arith [jam,ex1,at1]
  exact ⟨ta,rfl,⟨_,SqL.of et1⟩,hR⟩
 ·rintro i σ' Hc hi ⟨w1,zs,rfl,s4,ez,pz⟩
  have x1:ys[i]? = some (ys[i]'(by omega)):=List.getElem?_eq_getElem _
  have z1:SqL K Hc ta ys:=SqL.of (s4 _ _ et1)
  refine ⟨⟨_,_,z1,x1⟩,?_⟩
  rintro y H' ⟨rfl,hy⟩
  obtain ⟨q,hq,pq⟩:=jao pt1 (hy _ z1)
  obtain ⟨t,rfl,ht⟩:=pq.same s4
  have hzl:zs.length ≤ 120:=by
   have:=Paired.length pz
   have h2:=List.length_filter_le (lsT g) (ts.take i)
   rw [List.length_take] at h2
   omega
  rw [jal hq,List.filter_append,List.filter_cons,List.filter_nil]
  simp_arith [ht,jam,at0]
  refine ⟨rfl,rfl,?_⟩
  rw [show inV (.int g) [V.int q.1,.int q.2] = decide (g ∈ [q.1,q.2]) from jey g [q.1,q.2]]
  by_cases c:lsT g q = true
  ·rw [if_pos (show (!decide (g ∈ [q.1,q.2])) = true from c),if_pos c]
   have t7:=jcg (ys:=zs ++ [.ref t]) ez
   exact ⟨_,ez,szl' (by omega),_,_,rfl,jas s4 hz,ja1,jay (Prs.tups t7 pz) (Pr.tups ⟨t,rfl,ht⟩ t7)⟩
  ·rw [if_neg (show ¬ (!decide (g ∈ [q.1,q.2])) = true from c),if_neg c,List.append_nil]
   exact ⟨_,_,rfl,s4,ez,pz⟩
 rintro σ' H2 ⟨w1,zs2,rfl,s2,ez2,pz2⟩
 refine ⟨⟨_,SqL.of (s2 _ _ et1),by omega⟩,?_⟩
 rw [List.take_length] at pz2
 walk_at "RD"
 intro t ht
 have s3:=ja5 ht (.tup [.ref z,.ref z2])
 exact h _ _ ((s1.trans s2).trans s3) ⟨t,z,z2,zs1,zs2,rfl,ja1,s3 _ _ (s2 _ _ ez1),s3 _ _ ez2,Prs.same (s2.trans s3) pz1,Prs.same s3 pz2⟩
theorem jjf {f:Addr} {fd:FuncData} {f_law_same:Addr} {d_law_same:FuncData} (B:Blt mg) (D:DefAt K mg "_law_fits" (top 53) ["_law_web","_law_told"] f fd) (D_law_same:DefAt K mg "_law_same" (top 49) ["_law_found","_law_due"] f_law_same d_law_same) (G_law_same:FnOk P w K mg base CX0 6 f_law_same d_law_same ["_law_found","_law_due"] (jg3 6)):FnOk P w K mg base CX0 7 f fd ["_law_web","_law_told"] jqv:=by
 have sc:FnScope ["_law_web","_law_told","_law_numbers","_law_cost","_law_one","_law_other"] ["_law_web","_law_told"] (jaa (top 53)):=⟨rfl,rfl,rfl,by decide +kernel,rfl,by decide +kernel,by decide +kernel⟩
 refine D.F.ok sc (fun vs H Q E h=>?_) (fun cdv A outer s H vs Q E hr h=>?_)
 ·obtain ⟨v,t,l,ps,ts,c,m,ss,rfl,_⟩:=h
  rfl
 obtain ⟨v,t,l,ps,ts,c,m,ss,rfl,hw,wok,ett,el,hsub,hcst,htou,h⟩:=h
 obtain ⟨x,pa,ta,xs,ys,rfl,ex,ep,et,pp,pt⟩:=id hw
 have hlx:xs.length = ps.length:=Paired.length pp
 have hpl:=wok.pl
 have hu:=jbg hr
 have hu0:_ < PySem.cLine:=Nat.lt_of_succ_lt hu
 refine ⟨_,(ja2 (jgu (i:=2) sc.nd rfl (Or.inl rfl) (CpScope.of (N:=["_law_place","_law_price","_law_told"]) (src:=[none,none,some 1]) (by rfl)) rfl (jbm (jae q_ix (qv 0) ja4 (fun _ _=>rfl))) (fun _ _ _ _=>(jcp (n:=2) rfl (jaj (jad (i:=0) (jai (l:=["_law_place","_law_price","_law_told"]) (by rfl)) rfl (Or.inl rfl)) (jaj (jad (i:=1) (jai (l:=["_law_place","_law_price","_law_told"]) (by rfl)) rfl (Or.inl rfl)) jbw)))) (fun _ _ _ _=>(jds (jaw jpq (qv 0) (jae q_ix (qv 2) ja4 (fun _ _=>rfl)) (by with_unfolding_all rfl)))) (fun _ _ _ _=>(qv 0))) (ja2 (jag (i:=3) sc.nd rfl (Or.inl rfl) (jab (q_sum rfl) rfl B.sum PyProof.Rows.boot_sum (ja0 (jcb (CpScope.of (N:=["_law_place","_law_price","_law_told"]) (src:=[none,none,some 1]) (by rfl)) rfl (jbm (jae q_ix (qv 0) ja4 (fun _ _=>rfl))) (fun _ _ _ _=>(jcp (n:=2) rfl (jaj (jad (i:=0) (jai (l:=["_law_place","_law_price","_law_told"]) (by rfl)) rfl (Or.inl rfl)) (jaj (jad (i:=1) (jai (l:=["_law_place","_law_price","_law_told"]) (by rfl)) rfl (Or.inl rfl)) jbw)))) (fun _ _ _ _=>(jds (jaw jpq (qv 0) (jae q_ix (qv 2) ja4 (fun _ _=>rfl)) (by with_unfolding_all rfl)))) (fun _ _ _ _=>(qv 1))) ja3))) (ja2 (jbu PassesOwn.never rfl (jbm (jae q_ix (qv 0) ja4 (fun _ _=>rfl))) (jcp (n:=2) rfl (jaj (jad (i:=4) sc.nd rfl (Or.inl rfl)) (jaj (jad (i:=5) sc.nd rfl (Or.inl rfl)) jbw))) (ja6 (jbd (PW.pt (jhx (jaw jgs (qv 4) (qv 2) (by with_unfolding_all rfl)) (jf5 (jaw jgs (qv 5) (qv 2) (by with_unfolding_all rfl))))) (ja6 (jah je0)) jak))) (ja6 (jah (jdy (ja9 G_law_same (hr.mono (by decide)) rfl D_law_same.m D_law_same.F.kp D_law_same.b .nil jan (ja0 (jae q_ix (qv 1) ja4 (fun _ _=>rfl)) (ja0 (qv 2) ja3))) (jdo (jbz q_eq (jae q_ix (qv 1) ja4 (fun _ _=>rfl)) (qv 3) (jap _))))))))),?_⟩
 refine jaf fun R1 hR1=>?_
 walk_at "RD"
 refine jau (Itl K pa) H (fun R hR=>?_) (fun z1 hz=>jb1 ps.length (fun i σ' Hc=>∃ w1 w2,σ' = [w1,w2,some (.ref t)]∧Same H Hc∧Hc z1 = some (.lst ((((ps.take i).filter fun p:Int × Int=>decide (p.1 ∈ ss)).map (fun p:Int × Int=>p.1)).map V.int))) ⟨none,none,rfl,ja5 hz _,ja1⟩ ?_ ?_)
 ·unfold jdm
  simp_arith [jam,id ex,at0]
  exact ⟨pa,rfl,⟨_,SqL.of (id ep)⟩,hR⟩
 ·rintro i σ' Hc hi ⟨w1,w2,rfl,s4,ez⟩
  have x1:xs[i]? = some (xs[i]'(by omega)):=List.getElem?_eq_getElem _
  have z1:SqL K Hc pa xs:=SqL.of (s4 _ _ (id ep))
  refine ⟨⟨_,_,z1,x1⟩,?_⟩
  rintro y H' ⟨rfl,hy⟩
  obtain ⟨q,hq,pq⟩:=jao pp (hy _ z1)
  obtain ⟨tq,rfl,htq⟩:=(pq.same (Same.refl _)).same s4
  have es':=s4 _ _ (id el)
  have et':=s4 _ _ (id ett)
  simp_arith [htq,jam,et',at2',es']
  refine ⟨rfl,jih _,?_⟩
  rw [jey,jal hq,List.filter_append]
  by_cases c:q.1 ∈ ss
  ·rw [if_pos (decide_eq_true c)]
   refine ⟨_,ez,?_,_,_,rfl,jas s4 hz,?_⟩
   ·rw [List.length_map,List.length_map]
    have:=List.length_filter_le (fun p:Int × Int=>decide (p.1 ∈ ss)) (ps.take i)
    rw [List.length_take] at this
    exact szl' (by omega)
   ·rw [ja1,List.map_append,List.map_append,List.filter_cons,if_pos (decide_eq_true c)]
    rfl
  ·rw [if_neg (fun z=>c (of_decide_eq_true z)),List.filter_cons,if_neg (by rw [decide_eq_false c]; decide),List.filter_nil,List.append_nil]
   exact ⟨_,_,rfl,s4,ez⟩
 rintro σ' H1 ⟨w1,w2,rfl,s1,ez1⟩
 refine ⟨⟨_,SqL.of (s1 _ _ ep),by omega⟩,?_⟩
 rw [List.take_length] at ez1
 have hnum:(ps.filter fun p:Int × Int=>decide (p.1 ∈ ss)).map (fun p:Int × Int=>p.1) = ss:=by
  have:=jbo wok.p.nodup hsub
  rw [List.filter_map] at this
  exact this
 rw [hnum] at ez1
 walk_at "RD"
 subst hR1
 refine jaf fun R1 hR1=>?_
 walk_at "RD"
 refine jau (Itl K pa) H1 (fun R hR=>?_) (fun z2 hz=>jb1 ps.length (fun i σ' Hc=>∃ w1 w2,σ' = [w1,w2,some (.ref t)]∧Same H1 Hc∧Hc z2 = some (.lst ((((ps.take i).filter fun p:Int × Int=>decide (p.1 ∈ ss)).map (fun p:Int × Int=>p.2)).map V.int))) ⟨none,none,rfl,ja5 hz _,ja1⟩ ?_ ?_)
 ·unfold jdm
  simp_arith [jam,s1 _ _ ex,at0]
  exact ⟨pa,rfl,⟨_,SqL.of (s1 _ _ ep)⟩,hR⟩
 ·rintro i σ' Hc hi ⟨w1,w2,rfl,s4,ez⟩
  have x1:xs[i]? = some (xs[i]'(by omega)):=List.getElem?_eq_getElem _
  have z1:SqL K Hc pa xs:=SqL.of (s4 _ _ (s1 _ _ ep))
  refine ⟨⟨_,_,z1,x1⟩,?_⟩
  rintro y H' ⟨rfl,hy⟩
  obtain ⟨q,hq,pq⟩:=jao pp (hy _ z1)
  obtain ⟨tq,rfl,htq⟩:=(pq.same s1).same s4
  have es':=s4 _ _ (s1 _ _ el)
  have et':=s4 _ _ (s1 _ _ ett)
  simp_arith [htq,jam,et',at2',es']
  refine ⟨rfl,jih _,?_⟩
  rw [jey,jal hq,List.filter_append]
  by_cases c:q.1 ∈ ss
  ·rw [if_pos (decide_eq_true c)]
   refine ⟨_,ez,?_,_,_,rfl,jas s4 hz,?_⟩
   ·rw [List.length_map,List.length_map]
    have:=List.length_filter_le (fun p:Int × Int=>decide (p.1 ∈ ss)) (ps.take i)
    rw [List.length_take] at this
    exact szl' (by omega)
   ·rw [ja1,List.map_append,List.map_append,List.filter_cons,if_pos (decide_eq_true c)]
    rfl
  ·rw [if_neg (fun z=>c (of_decide_eq_true z)),List.filter_cons,if_neg (by rw [decide_eq_false c]; decide),List.filter_nil,List.append_nil]
   exact ⟨_,_,rfl,s4,ez⟩
 rintro σ' H2 ⟨w1,w2,rfl,s2,ez2⟩
 refine ⟨⟨_,SqL.of (s2 _ _ (s1 _ _ ep)),by omega⟩,?_⟩
 rw [List.take_length] at ez2
 have s12:=s1.trans s2
 have ezn:=s2 _ _ ez1
 refine ⟨z2,_,rfl,ez2,?_⟩
 rw [jrn,hcst]
 walk_at "RD"
 subst hR1
 refine jaf fun R1 hR1=>?_
 refine jco (Itl K ta) H2 (fun R' hR'=>?_) (jd2 (K:=K) (a:=ta) (xs:=ys) (fun i σ H3=>∃ v1 v2,σ = [some (.ref x),some (.ref t),some (.ref z1),some (.int c),v1,v2]∧H3 = H2) ⟨none,none,rfl,rfl⟩ (fun i σ H3 _ ⟨_,_,_,e⟩=>e ▸ SqL.of (s12 _ _ et)) ?_ ?_)
 ·unfold jdm
  simp_arith [jam,s12 _ _ ex,at1]
  exact ⟨ta,rfl,⟨_,SqL.of (s12 _ _ et)⟩,hR'⟩
 ·rintro i y σ H3 hi ⟨v1,v2,rfl,rfl⟩
  obtain ⟨q,hq,pq⟩:=jao pt hi
  obtain ⟨tq,rfl,etq⟩:=pq.same s12
  have hb:(decide (q.1 ∈ ss) || decide (q.2 ∈ ss)) = true:=List.all_eq_true.mp htou q (List.mem_of_getElem? hq)
  simp_arith [etq,jam,ezn,jjq,je5,jdu]
  by_cases c1:q.1 ∈ ss
  ·rw [decide_eq_true c1]
   walk_at "RD"
   first | exact ⟨_,_,rfl,rfl⟩ | rfl | simp
  ·rw [decide_eq_false c1]
   walk_at "RD"
   rw [decide_eq_false c1,Bool.false_or] at hb
   rw [hb]
   walk_at "RD"
   first | exact ⟨_,_,rfl,rfl⟩ | rfl | simp
 ·rintro σ H3 ⟨v1,v2,rfl,rfl⟩
  walk_at "RD"
  subst hR1
  simp_arith [jam,s12 _ _ ett,at2']
  have hsl:ss.length ≤ 40:=by
   have:=hsub.length_le
   rw [List.length_map] at this
   have:=wok.pl
   omega
  refine ⟨.ref l,.ref z1,_,rfl,repL (s12 _ _ el),repL ezn,dep_L _,wid_L (by omega),fun H4 s4=>?_⟩
  simp_arith [jam,s4 _ _ (s12 _ _ ett),at0]
  exact h H4 (s12.trans s4)
end
end My
namespace My
open PySem L2
section
variable {P:Program} {w:World} {K:PySem.W.Frag} {mg:Str→Option Value} {base:Heap} {c1 c2 c3 c4:Tok}
def jpn (K:PySem.W.Frag):Sp:=fun vs H Q _=>∃ a ns,vs = [.ref a]∧Scr K H a ns∧∀ H',Q (.bl true) H'
theorem jfh (a b c d:Int):HT.lexLt [a,b] [c,d] = true ↔ a < c ∨ (a = c∧b < d):=by
 simp only [HT.lexLt]
 by_cases h1:a = c
 ·subst h1
  by_cases h2:b = d <;> simp [h2] <;> omega
 ·simp [h1]
theorem jlq {ps ts:List (Int × Int)} (wok:WebOk ps ts):(jac ps ts).2.2.1.length ≤ ps.length:=by
 have:=(jbr _ _ (List.mem_filter.mp (jc2 wok).mem.1).1).length_le
 rwa [List.length_map] at this
theorem jq4 {ps ts:List (Int × Int)} (wok:WebOk ps ts):(jfy ps ts).length = ps.length:=by
 unfold jfy
 rw [List.length_zip,List.length_map,jga wok]
 omega
def lv3 (a:Lv):Dt:=.tup [.int a.1,.int a.2.1,.lst (a.2.2.1.map Dt.int)]
theorem jny {H:Hp} {t l2:Addr} {a:Lv} (et:H t = some (.tup [.int a.1,.int a.2.1,.ref l2])) (e2:H l2 = some (.lst (a.2.2.1.map V.int))):Rep H (lv3 a) (.ref t):=by
 rw [lv3,Rep]
 refine ⟨t,_,rfl,et,?_⟩
 rw [Reps]
 refine ⟨_,_,rfl,by rw [Rep],?_⟩
 rw [Reps]
 refine ⟨_,_,rfl,by rw [Rep],?_⟩
 rw [Reps]
 exact ⟨_,_,rfl,repL e2,(by rw [Reps])⟩
theorem jsk (a:Lv):dep (lv3 a) ≤ 6:=by
 have h1:=(jde a.2.2.1).1
 simp only [lv3,dep,deps]
 omega
theorem jsj {a:Lv} (h1:a.2.2.1.length ≤ 100):wid (lv3 a) ≤ 1000:=by
 have h3:=(jde a.2.2.1).2
 simp only [lv3,wid,wids,List.length_map,List.length_cons,List.length_nil]
 omega
theorem PlOk.low:∀ {ps:List (Int × Int)} {l l' s:Int},PlOk l s ps→l' ≤ l→PlOk l' s ps
 | [],_,_,_,_,_=>trivial
 | p :: r,l,l',s,h,hl=>⟨by have:=h.1; omega,h.2⟩
theorem PlOk.filter {f:Int × Int→Bool}:∀ {ps:List (Int × Int)} {l s s':Int},PlOk l s ps→s' ≤ s→PlOk l s' (ps.filter f)
 | [],_,_,_,_,_=>trivial
 | p :: r,l,s,s',h,hs=>by
  rw [List.filter_cons]
  split
  ·exact ⟨by have:=h.1; omega,PlOk.filter h.2 (by omega)⟩
  ·have h2:=PlOk.filter (f:=f) h.2 (s':=s') (by have:=h.1; omega)
   exact PlOk.low h2 (by have:=h.1; omega)
theorem TiOk.low2 {kvs:List (Key × V)}:∀ {ts:List (Int × Int)} {q p:Int × Int},HT.lexLt [q.1,q.2] [p.1,p.2] = true→TiOk kvs p ts→TiOk kvs q ts
 | [],_,_,_,_=>trivial
 | t :: r,q,p,hq,h=>⟨⟨by
   have a:=(jfh _ _ _ _).mp hq
   have b:=(jfh _ _ _ _).mp h.1.1
   exact (jfh _ _ _ _).mpr (by omega),h.1.2⟩,h.2⟩
theorem TiOk.filter {kvs kvs':List (Key × V)} {f:Int × Int→Bool} (hk:∀ t,f t = true→hasK kvs t.1 = true→hasK kvs t.2 = true→hasK kvs' t.1 = true∧hasK kvs' t.2 = true):∀ {ts:List (Int × Int)} {q:Int × Int},TiOk kvs q ts→TiOk kvs' q (ts.filter f)
 | [],_,_=>trivial
 | t :: r,q,h=>by
  rw [List.filter_cons]
  split
  ·rename_i hf
   obtain ⟨k1,k2⟩:=hk t hf h.1.2.2.1 h.1.2.2.2
   exact ⟨⟨h.1.1,h.1.2.1,k1,k2⟩,TiOk.filter hk h.2⟩
  ·exact TiOk.low2 h.1.1 (TiOk.filter hk h.2)
theorem WebOk.ls {ps ts:List (Int × Int)} {g:Int} (h:WebOk ps ts):WebOk (ps.filter (lsP g)) (ts.filter (lsT g)):=by
 have hp:PlOk (-1) 0 (ps.filter (lsP g)):=h.p.filter (Int.le_refl _)
 refine ⟨Nat.le_trans (List.length_filter_le _ _) h.pl,hp,Nat.le_trans (List.length_filter_le _ _) h.tl,h.t.filter fun t hf h1 h2=>?_⟩
 unfold lsT at hf
 simp only [Bool.not_eq_true',decide_eq_false_iff_not,List.mem_cons,List.not_mem_nil,or_false,not_or] at hf
 have one:∀ n,hasK (jbk ps) n = true→g ≠ n→hasK (jbk (ps.filter (lsP g))) n = true:=fun n hn hg=>by
  obtain ⟨_,p,hp1,rfl⟩:=jd0 hn
  refine jjr hp.nodup (List.mem_filter.mpr ⟨List.mem_of_getElem? hp1,?_⟩)
  unfold lsP
  simp only [Bool.not_eq_true',decide_eq_false_iff_not]
  exact fun z=>hg z.symm
 exact ⟨one _ h1 hf.1,one _ h2 hf.2⟩
theorem Gro.ls {ts:List (Int × Int)} {f:Int × Int→Bool} (h:Gro ts):Gro (ts.filter f):=⟨fun t ht=>h.lt t (List.mem_filter.mp ht).1,List.Nodup.sublist List.filter_sublist h.nd,fun t ht t' ht'=>h.one t (List.mem_filter.mp ht).1 t' (List.mem_filter.mp ht').1⟩
theorem cut2 (d1 d2:Int):∀ m:Nat,cutV [V.int d1,V.int d2] none (some (m:Int)) = ([d1,d2].take m).map V.int
 | 0=>rfl
 | 1=>rfl
 | m + 2=>by
  have e2:HT.sIx 2 2 (some ((m + 2:Nat):Int)) = 2:=by
   unfold HT.sIx
   dsimp only
   rw [if_neg (by omega)]
   omega
  unfold cutV
  show List.take (HT.sIx 2 2 (some ((m + 2:Nat):Int)) - HT.sIx 2 0 none) (List.drop (HT.sIx 2 0 none) [V.int d1,V.int d2]) = _
  rw [e2,List.take_of_length_le (l:=[d1,d2]) (by simp only [List.length_cons,List.length_nil]; omega)]
  rfl
theorem jkr {H:Hp} {t:Addr} {q:Int × Int} (e:H t = some (.tup [.int q.1,.int q.2])):Rep H (jd4 q) (.ref t):=by
 rw [jd4,Rep]
 refine ⟨t,_,rfl,e,?_⟩
 rw [Reps]
 refine ⟨_,_,rfl,by rw [Rep],?_⟩
 rw [Reps]
 exact ⟨_,_,rfl,by rw [Rep],(by rw [Reps])⟩
theorem jq0 (q:Int × Int):dep (jd4 q) ≤ 6:=by simp [jd4,dep,deps]
theorem jpz (q:Int × Int):wid (jd4 q) ≤ 1000:=by simp [jd4,wid,wids]
theorem jsi {ps ts:List (Int × Int)} (wok:WebOk ps ts) {k:Nat} {p:Int × Int} (hk:ps[k]? = some p):(jfy ps ts)[k]? = some (p.1,if (jac (ps.filter (lsP p.1)) (ts.filter (lsT p.1))).1 + p.2 = (jac ps ts).1 then (jac (ps.filter (lsP p.1)) (ts.filter (lsT p.1))).2.1 else 0):=by
 rw [← jo5 wok (List.mem_of_getElem? hk) wok.ls]
 unfold jfy
 rw [(jc2 wok).cnt,List.zip_map',List.getElem?_map,hk]
 rfl
theorem ok_law {f:Addr} {fd:FuncData} {f_law_begun:Addr} {d_law_begun:FuncData} {f_law_take:Addr} {d_law_take:FuncData} {f_law_web_by:Addr} {d_law_web_by:FuncData} {f_law_copy:Addr} {d_law_copy:FuncData} {f_forest_least:Addr} {d_forest_least:FuncData} {f_string_least:Addr} {d_string_least:FuncData} {f_law_same:Addr} {d_law_same:FuncData} {f_law_fits:Addr} {d_law_fits:FuncData} {f_law_less:Addr} {d_law_less:FuncData} (B:Blt mg) (D:DefAt K mg "law" (top 54) ["_law_script"] f fd) (D_law_begun:DefAt K mg "_law_begun" (top 46) ["_law_script","_law_k"] f_law_begun d_law_begun) (G_law_begun:FnOk P w K mg base CX0 1 f_law_begun d_law_begun ["_law_script","_law_k"] (jj2 K)) (D_law_take:DefAt K mg "_law_take" (top 47) ["_law_state","_law_many"] f_law_take d_law_take) (G_law_take:FnOk P w K mg base CX0 1 f_law_take d_law_take ["_law_state","_law_many"] jk9) (D_law_web_by:DefAt K mg "_law_web_by" (top 51) ["_law_script","_law_state"] f_law_web_by d_law_web_by) (G_law_web_by:FnOk P w K mg base CX0 3 f_law_web_by d_law_web_by ["_law_script","_law_state"] (jmr K)) (D_law_copy:DefAt K mg "_law_copy" (top 50) ["_law_web"] f_law_copy d_law_copy) (G_law_copy:FnOk P w K mg base CX0 1 f_law_copy d_law_copy ["_law_web"] jmx) (D_forest_least:DefAt K mg "forest_least" (top 44) ["web"] f_forest_least d_forest_least) (G_forest_least:FnOk P w K mg base CX0 6 f_forest_least d_forest_least ["web"] jkb) (D_string_least:DefAt K mg "string_least" (top 30) ["web"] f_string_least d_string_least) (G_string_least:FnOk P w K mg base CX0 8 f_string_least d_string_least ["web"] jmu) (D_law_same:DefAt K mg "_law_same" (top 49) ["_law_found","_law_due"] f_law_same d_law_same) (G_law_same:FnOk P w K mg base CX0 6 f_law_same d_law_same ["_law_found","_law_due"] (jg3 6)) (D_law_fits:DefAt K mg "_law_fits" (top 53) ["_law_web","_law_told"] f_law_fits d_law_fits) (G_law_fits:FnOk P w K mg base CX0 7 f_law_fits d_law_fits ["_law_web","_law_told"] jqv) (D_law_less:DefAt K mg "_law_less" (top 52) ["_law_web","_law_gone"] f_law_less d_law_less) (G_law_less:FnOk P w K mg base CX0 1 f_law_less d_law_less ["_law_web","_law_gone"] jqu):FnOk P w K mg base CX0 9 f fd ["_law_script"] (jpn K):=by
 have sc:FnScope ["_law_script","_law_state","_law_spots","_law_web","_law_handed","_law_whole","_law_told","_law_spot","_law_k","_law_place","_law_price","_law_least","_law_many","_law_first"] ["_law_script"] (jaa (top 54)):=⟨rfl,rfl,rfl,by decide +kernel,rfl,by decide +kernel,by decide +kernel⟩
 refine D.F.ok sc (fun vs H Q E h=>?_) (fun cdv A outer s H vs Q E hr h=>?_)
 ·obtain ⟨a,ns,rfl,_⟩:=h
  rfl
 obtain ⟨a,ns,rfl,hs,h⟩:=h
 have hu:=jbg hr
 have hu0:_ < PySem.cLine:=Nat.lt_of_succ_lt hu
 refine ⟨_,(ja2 (jag (i:=1) sc.nd rfl (Or.inl rfl) (ja9 G_law_begun (hr.mono (by decide)) rfl D_law_begun.m D_law_begun.F.kp D_law_begun.b .nil jan (ja0 (qv 0) (ja0 ja4 ja3)))) (ja2 (jag (i:=2) sc.nd rfl (Or.inl rfl) (jc9 (ja0 (ja9 G_law_take (hr.mono (by decide)) rfl D_law_take.m D_law_take.F.kp D_law_take.b .nil jan (ja0 (qv 1) (ja0 ja4 ja3))) (ja0 (ja9 G_law_take (hr.mono (by decide)) rfl D_law_take.m D_law_take.F.kp D_law_take.b .nil jan (ja0 (qv 1) (ja0 ja4 ja3))) ja3)))) (ja2 (jag (i:=3) sc.nd rfl (Or.inl rfl) (ja9 G_law_web_by (hr.mono (by decide)) rfl D_law_web_by.m D_law_web_by.F.kp D_law_web_by.b .nil jan (ja0 (qv 0) (ja0 (qv 1) ja3)))) (ja2 (jag (i:=4) sc.nd rfl (Or.inl rfl) (ja9 G_law_copy (hr.mono (by decide)) rfl D_law_copy.m D_law_copy.F.kp D_law_copy.b .nil jan (ja0 (qv 3) ja3))) (ja2 (jag (i:=5) sc.nd rfl (Or.inl rfl) (ja9 G_forest_least (hr.mono (by decide)) rfl D_forest_least.m D_forest_least.F.kp D_forest_least.b .nil jan (ja0 (qv 4) ja3))) (ja2 (jag (i:=6) sc.nd rfl (Or.inl rfl) (ja9 G_string_least (hr.mono (by decide)) rfl D_string_least.m D_string_least.F.kp D_string_least.b .nil jan (ja0 (qv 4) ja3))) (ja2 (jbd (PW.pt (jgt (jc5 (jb4 (jab (jcq .tup) rfl B.isinstance PyProof.Rows.boot_isinstance (ja0 (qv 5) (ja0 (jb5 (v:=.ty "tuple") rfl B.tuple PyProof.Rows.boot_tuple rfl) ja3))))) (jei (jaw q_ne (jab jeb rfl B.len PySem.boot_len (ja0 (qv 5) ja3)) ja4 (jap _))))) (ja6 (jah je0)) jak) (ja2 (jbd (PW.pt (jgt (jc5 (jb4 (jab (jcq .tup) rfl B.isinstance PyProof.Rows.boot_isinstance (ja0 (qv 6) (ja0 (jb5 (v:=.ty "tuple") rfl B.tuple PyProof.Rows.boot_tuple rfl) ja3))))) (jei (jaw q_ne (jab jeb rfl B.len PySem.boot_len (ja0 (qv 6) ja3)) ja4 (jap _))))) (ja6 (jah je0)) jak) (ja2 (jbd (PW.pt (jgt (jc5 (jb4 (ja9 G_law_same (hr.mono (by decide)) rfl D_law_same.m D_law_same.F.kp D_law_same.b .nil jan (ja0 (jko q_slT (qv 6) jni (jn9 ja4)) (ja0 (qv 5) ja3))))) (jgt (jc5 (jb4 (ja9 G_law_fits (hr.mono (by decide)) rfl D_law_fits.m D_law_fits.F.kp D_law_fits.b .nil jan (ja0 (qv 3) (ja0 (qv 5) ja3))))) (jei (jc5 (jb4 (ja9 G_law_same (hr.mono (by decide)) rfl D_law_same.m D_law_same.F.kp D_law_same.b .nil jan (ja0 (qv 4) (ja0 (qv 3) ja3))))))))) (ja6 (jah je0)) jak) (ja2 (jbd (PW.pt (jgt (jc5 (jb4 (jab (jcq .lst) rfl B.isinstance PyProof.Rows.boot_isinstance (ja0 (jae q_ix (qv 6) ja4 (fun _ _=>rfl)) (ja0 (jb5 (v:=.ty "list") rfl B.list PyProof.Rows.boot_list rfl) ja3))))) (jei (jaw q_ne (jab jeb rfl B.len PySem.boot_len (ja0 (jae q_ix (qv 6) ja4 (fun _ _=>rfl)) ja3)) (jab jeb rfl B.len PySem.boot_len (ja0 (jae q_ix (qv 3) ja4 (fun _ _=>rfl)) ja3)) (jap _))))) (ja6 (jah je0)) jak) (ja2 (jbu PassesOwn.never rfl (jbm (jko q_slL (qv 2) jni (jn9 (jab jeb rfl B.len PySem.boot_len (ja0 (jae q_ix (qv 3) ja4 (fun _ _=>rfl)) ja3))))) (jad (i:=7) sc.nd rfl (Or.inl rfl)) (ja2 (jag (i:=8) sc.nd rfl (Or.inl rfl) (jb0 jhw (qv 7) (jab jeb rfl B.len PySem.boot_len (ja0 (jae q_ix (qv 3) ja4 (fun _ _=>rfl)) ja3)))) (ja2 (jg6 (jae q_ix (jae q_ix (qv 3) ja4 (fun _ _=>rfl)) (qv 8) (fun _ _=>rfl)) (jcp (n:=2) rfl (jaj (jad (i:=9) sc.nd rfl (Or.inl rfl)) (jaj (jad (i:=10) sc.nd rfl (Or.inl rfl)) jbw)))) (ja2 (jg6 (ja9 G_forest_least (hr.mono (by decide)) rfl D_forest_least.m D_forest_least.F.kp D_forest_least.b .nil jan (ja0 (ja9 G_law_less (hr.mono (by decide)) rfl D_law_less.m D_law_less.F.kp D_law_less.b .nil jan (ja0 (qv 3) (ja0 (qv 9) ja3))) ja3)) (jcp (n:=3) rfl (jaj (jad (i:=11) sc.nd rfl (Or.inl rfl)) (jaj (jad (i:=12) sc.nd rfl (Or.inl rfl)) (jaj (jad (i:=13) sc.nd rfl (Or.inl rfl)) jbw))))) (ja2 (jbd (jaw q_ne (jb0 jdr (qv 11) (qv 10)) (jae q_ix (qv 5) ja4 (fun _ _=>rfl)) (jap _)) (ja6 (jag (i:=12) sc.nd rfl (Or.inl rfl) ja4)) jak) (ja6 (jbd (jc5 (jb4 (ja9 G_law_same (hr.mono (by decide)) rfl D_law_same.m D_law_same.F.kp D_law_same.b .nil jan (ja0 (jae q_ix (jae q_ix (qv 6) ja4 (fun _ _=>rfl)) (qv 8) (fun _ _=>rfl)) (ja0 (jb8 (ja0 (qv 9) (ja0 (qv 12) ja3))) ja3))))) (ja6 (jah je0)) jak))))))) (ja6 (jah je0))))))))))))),?_⟩
 refine jaf fun R1 hR1=>?_
 walk_at "RD"
 refine ⟨a,0,ns,rfl,hs,by omega,by omega,fun st o hst so=>?_⟩
 have hs1:Scr K (upd H st o) a ns:=hs.tups (jep hst)
 have eO:upd H st o st = some o:=ja1
 generalize upd H st o = H1 at hs1 eO
 walk_at "RD"
 subst hR1
 refine jaf fun R1 hR1=>?_
 walk_at "RD"
 refine ⟨st,o,40,rfl,eO,so,by omega,by omega,fun d1 o1 d10 d11 so1=>?_⟩
 refine ⟨st,o1,40,rfl,ja1,so1,by omega,by omega,fun d2 o2 d20 d21 so2=>?_⟩
 have b2:But st H1 (upd (upd H1 st o1) st o2):=(But.at st H1 o1).trans (But.at st _ o2)
 have hs2:Scr K (upd (upd H1 st o1) st o2) a ns:=hs1.tups (b2.tups eO so.imm)
 have e2:upd (upd H1 st o1) st o2 st = some o2:=ja1
 generalize upd (upd H1 st o1) st o2 = H2 at b2 hs2 e2
 intro sl hsl
 have s3:=ja5 hsl (.lst [.int d1,.int d2])
 have esl:upd H2 sl (.lst [.int d1,.int d2]) sl = some (.lst [.int d1,.int d2]):=ja1
 have e3:=s3 _ _ e2
 have hs3:=hs2.tups s3.tups
 have nsl:sl ≠ st:=fun z=>by rw [z,e2] at hsl; cases hsl
 generalize upd H2 sl (.lst [.int d1,.int d2]) = H3 at s3 esl e3 hs3
 walk_at "RD"
 subst hR1
 refine jaf fun R1 hR1=>?_
 walk_at "RD"
 refine ⟨a,ns,st,o2,rfl,hs3,e3,so2,fun v HB ps ts bB hw wok hgr hwd=>?_⟩
 have eslB:=bB _ _ nsl esl
 clear hs1 hs2 hs3 eO b2 e2 s3 esl e3
 have hl40:=wok.pl
 have ht120:=wok.tl
 obtain ⟨x,pa,ta,xs,us,rfl,ex,ep,eta,pp,pt⟩:=id hw
 have hlx:xs.length = ps.length:=Paired.length pp
 walk_at "RD"
 subst hR1
 refine jaf fun R1 hR1=>?_
 walk_at "RD"
 refine ⟨.ref x,ps,ts,rfl,hw,fun t l1 l2 xs' ys' HC sC h1 h2 h12 et e1 e2 p1 p2=>?_⟩
 have hhC:jd5 HC (.ref t) ps ts:=⟨t,l1,l2,xs',ys',rfl,et,e1,e2,p1,p2⟩
 walk_at "RD"
 subst hR1
 refine jaf fun R1 hR1=>?_
 walk_at "RD"
 refine ⟨.ref t,ps,ts,rfl,hhC,wok,hgr,fun wt wl HD f1 f2 sD ewt ewl=>?_⟩
 walk_at "RD"
 subst hR1
 refine jaf fun R1 hR1=>?_
 walk_at "RD"
 refine ⟨.ref t,ps,ts,rfl,hhC.same sD,wok,hwd,fun tt m2 m3 zz HE g2 g3 n23 sE ett em2 em3 pzz=>?_⟩
 have S0:=(sC.trans sD).trans sE
 have ewtE:=sE _ _ ewt
 have ewlE:=sE _ _ ewl
 have hwE:=hw.same S0
 have hhE:=(hhC.same sD).same sE
 have eslE:=S0 _ _ eslB
 clear sC sD sE S0 ewt ewl et e1 e2 p1 p2 g2 g3 n23 f1 f2 h1 h2 h12 eslB hw hhC
 have l3l:=jlq wok
 walk_at "RD"
 subst hR1
 refine jaf fun R1 hR1=>?_
 simp_arith [kd,isi,jam,ewtE]
 rw [if_neg (by simp)]
 subst hR1
 refine jaf fun R1 hR1=>?_
 simp_arith [kd,isi,jam,ett]
 rw [if_neg (by simp)]
 subst hR1
 refine jaf fun R1 hR1=>?_
 simp_arith [jam,ett]
 refine ⟨by decide,fun cp hcp=>?_⟩
 have ecut:cutV [V.int (jac ps ts).1,V.int (jac ps ts).2.1,V.ref m2,V.ref m3] none (some 3) = [.int (jac ps ts).1,.int (jac ps ts).2.1,.ref m2]:=rfl
 rw [ecut]
 have sN:=ja5 hcp (.tup [.int (jac ps ts).1,.int (jac ps ts).2.1,.ref m2])
 have eN:upd HE cp (.tup [.int (jac ps ts).1,.int (jac ps ts).2.1,.ref m2]) cp = some (.tup [.int (jac ps ts).1,.int (jac ps ts).2.1,.ref m2]):=ja1
 generalize upd HE cp (.tup [.int (jac ps ts).1,.int (jac ps ts).2.1,.ref m2]) = HN at sN eN
 have hmem:=(jc2 wok).mem
 refine ⟨.ref cp,.ref wt,lv3 (jac ps ts),rfl,jny eN (sN _ _ em2),jny (sN _ _ ewtE) (sN _ _ ewlE),jsk _,jsj (by omega),fun HG sG=>?_⟩
 have s1:=sN.trans sG
 walk_at "RD"
 refine ⟨.ref x,wt,wl,ps,ts,_,_,(jac ps ts).2.2.1,rfl,hwE.same s1,wok,s1 _ _ ewtE,s1 _ _ ewlE,jbr _ _ (List.mem_filter.mp hmem.1).1,hmem.2,(List.mem_filter.mp hmem.1).2,fun HH sH=>?_⟩
 have s2:=s1.trans sH
 walk_at "RD"
 refine ⟨.ref t,.ref x,webD ps ts,rfl,(hhE.same s2).rep,(hwE.same s2).rep,Nat.le_trans (jt5 _ _) (by decide),jrq (by omega) (by omega),fun HI sI=>?_⟩
 have s3:=s2.trans sI
 have ettI:=s3 _ _ ett
 have em3I:=s3 _ _ em3
 have pzzI:=Prs.same s3 pzz
 have ewtI:=s3 _ _ ewtE
 have hwI:=hwE.same s3
 have eslI:=s3 _ _ eslE
 clear s1 s2 s3 sI sH sG sN eN ett em3 pzz ewtE ewlE hwE eslE hhE em2 ex ep eta pp pt hcp
 obtain ⟨_,pa,ta,xs,us,ex0,ex,ep,eta,pp,pt⟩:=id hwI
 cases ex0
 have hlx:xs.length = ps.length:=Paired.length pp
 have hlz:zz.length = ps.length:=by rw [Paired.length pzzI,jq4 wok]
 walk_at "RD"
 subst hR1
 refine jaf fun R1 hR1=>?_
 simp_arith [kd,isi,jam,ettI,at3',em3I,ex,ep,at0]
 rw [if_neg (by rw [hlx,hlz]; simp)]
 subst hR1
 refine jaf fun R1 hR1=>?_
 refine tFor_hideI (ι:=Addr × Hp) (fun j=>Itl K j.1) (fun j=>j.2) (fun j=>Same HI j.2∧j.2 j.1 = some (.lst (([d1,d2].take ps.length).map V.int))) (fun R' hR'=>?_) (fun j0 ok0=>?_)
 ·unfold jdm
  simp_arith [jam,ex,ep,at0,eslI]
  intro cp hcp
  have ec:cutV [V.int d1,V.int d2] none (some (xs.length:Int)) = ([d1,d2].take ps.length).map V.int:=by
   rw [hlx]
   exact cut2 d1 d2 ps.length
  rw [ec]
  exact ⟨cp,rfl,⟨_,SqL.of ja1⟩,hR' (cp,_) ⟨ja5 hcp _,ja1⟩⟩
 obtain ⟨cl,HJ⟩:=j0
 obtain ⟨sJ,ecl⟩:=ok0
 dsimp only at sJ ecl
 refine jd2 (K:=K) (a:=cl) (xs:=([d1,d2].take ps.length).map V.int) (fun i σ H5=>∃ v7 v8 v9 v10 v11 v12 v13,σ = [some (.ref a),some (.ref st),some (.ref sl),some (.ref x),some (.ref t),some (.ref wt),some (.ref tt),v7,v8,v9,v10,v11,v12,v13]∧Same HJ H5) ⟨_,_,_,_,_,_,_,rfl,Same.refl _⟩ (fun i σ H5 _ ⟨_,_,_,_,_,_,_,_,e⟩=>SqL.of (e _ _ ecl)) ?_ ?_
 ·rintro i y σ H5 hi ⟨v7,v8,v9,v10,v11,v12,v13,rfl,s5⟩
  rw [List.getElem?_map] at hi
  obtain ⟨d,hd,rfl⟩:=Option.map_eq_some_iff.mp hi
  have hdm:d = d1 ∨ d = d2:=by
   have:=List.mem_of_mem_take (List.mem_of_getElem? hd)
   simpa using this
  have hd0:0 ≤ d:=by rcases hdm with e | e <;> omega
  have hpos:1 ≤ ps.length:=by
   rcases Nat.eq_zero_or_pos ps.length with c | c
   ·rw [c] at hd; cases hd
   ·exact c
  have S5:=sJ.trans s5
  have ex5:=S5 _ _ ex
  have ep5:=S5 _ _ ep
  have hk0:=Int.emod_nonneg d (show (ps.length:Int) ≠ 0 by omega)
  have hk1:=Int.emod_lt_of_pos d (show (0:Int) < (ps.length:Int) by omega)
  obtain ⟨k,hk⟩:∃ k:Nat,d % (ps.length:Int) = k:=⟨(d % (ps.length:Int)).toNat,by omega⟩
  have xk:ps[k]? = some (ps[k]'(by omega)):=List.getElem?_eq_getElem _
  generalize ps[k]'(by omega) = p at xk
  obtain ⟨uk,gk1,hgk⟩:=jbf pp xk
  obtain ⟨tk,ek,hk3⟩:=hgk.same S5
  have ak:atI xs (k:Int) = some (.ref tk):=by rw [← ek]; exact jc4 gk1
  simp only [jd1,List.set_cons_zero,List.set_cons_succ]
  refine jdx fun R2 D2 hR2 hD2=>?_
  simp_arith [jam,ex5,ep5,at0,hlx]
  refine ⟨by omega,?_⟩
  rw [hk]
  subst hR2
  refine jaf fun R2 hR2=>?_
  simp_arith [jam,ex5,ep5,at0,ak,hk3]
  subst hR2
  refine jaf fun R2 hR2=>?_
  walk_at "RD"
  refine ⟨.ref x,p.1,ps,ts,rfl,hwI.same S5,by omega,by omega,fun v' H6 s6 hw6=>?_⟩
  refine ⟨v',_,_,rfl,hw6,wok.ls,hgr.ls,fun t9 l9 H7 f1 f2 s7 et9 el9=>?_⟩
  have hma:=jsi wok xk
  generalize jac (ps.filter (lsP p.1)) (ts.filter (lsT p.1)) = b9 at hma et9 el9
  have s57:=s6.trans s7
  have S7:=S5.trans s57
  have ewt7:=S7 _ _ ewtI
  have ett7:=S7 _ _ ettI
  have em37:=S7 _ _ em3I
  have pz7:=Prs.same S7 pzzI
  obtain ⟨uz,gz,tz,rfl,etz⟩:=jbf pz7 hma
  have az:atI zz (k:Int) = some (.ref tz):=jc4 gz
  simp_arith [et9]
  subst hR2
  refine jdx fun R2 D3 hR2 hD3=>?_
  have key:R2 D3 [some (.ref a),some (.ref st),some (.ref sl),some (.ref x),some (.ref t),some (.ref wt),some (.ref tt),some (.int d),some (.int (k:Int)),some (.int p.1),some (.int p.2),some (.int b9.1),some (.int (if b9.1 + p.2 = (jac ps ts).1 then b9.2.1 else 0)),some (.ref l9)] H7:=by
   generalize (if b9.1 + p.2 = (jac ps ts).1 then b9.2.1 else 0) = M9 at etz
   subst hR2 hD3
   simp_arith [jam,ett7,at3',em37,az]
   intro np hnp
   have s8:=ja5 hnp (.tup [.int p.1,.int M9])
   have e8:upd H7 np (.tup [.int p.1,.int M9]) np = some (.tup [.int p.1,.int M9]):=ja1
   generalize upd H7 np (.tup [.int p.1,.int M9]) = H8 at s8 e8
   refine ⟨.ref tz,.ref np,jd4 (p.1,M9),rfl,jkr (s8 _ _ etz),jkr e8,jq0 _,jpz _,fun H9 s9=>?_⟩
   walk_at "RD"
   subst hD2
   exact ⟨_,_,_,_,_,_,_,rfl,(s5.trans s57).trans (s8.trans s9)⟩
  simp_arith [jam,ewt7,at0]
  by_cases c:b9.1 + p.2 = (jac ps ts).1
  ·rw [if_pos c] at key
   rw [decide_eq_true c]
   walk_at "RD"
   exact key
  ·rw [if_neg c] at key
   rw [decide_eq_false c]
   walk_at "RD"
   exact key
 ·rintro σ H5 ⟨v7,v8,v9,v10,v11,v12,v13,rfl,s5⟩
  walk_at "RD"
  subst hR1
  walk_at "RD"
  exact h _
end
end My
set_option autoImplicit true
namespace My
open PySem L2
abbrev aT (K:PySem.W.Frag) (x:Str) (f:Addr):Prop:=PySem.W.nsIn K mainGlobals x = some (some (.ref f))
abbrev lT (K:PySem.W.Frag) (x q:Str) (st:Stmt) (f:Addr) (oc:Value) (od an:Option Addr) (sl:Array (Option Value)) (kV dc pm cd ct:Value):Prop:=K.lookup f = some ⟨oc,od,.func (PySem.W.fnOf x q (jdf st) (jd3 st) (jaa st) .none kV dc pm an cd ct),sl⟩
abbrev cT (K:PySem.W.Frag) (cd:Value) (x:Str):Prop:=PySem.W.codeIn K cd x = true
abbrev kT (K:PySem.W.Frag) (f:Addr):Prop:=PySem.W.keepIn K (.ref f) = true
abbrev zT (K:PySem.W.Frag) (x:Str):Prop:=PySem.W.nsIn K mainGlobals x = some none
theorem dmk {K:PySem.W.Frag} {h:Heap} {mg:Str→Option Value} (X:K.In h) (G:h.Ns mainGlobals mg) {x:Str} {st:Stmt} {f:Addr} {oc:Value} {od an:Option Addr} {sl:Array (Option Value)} {kV dc pm cd ct:Value} (a:aT K x f) (l:lT K x x st f oc od an sl kV dc pm cd ct) (c:cT K cd x) (k:kT K f) (ps:List Str)
  (b:jhl K (PySem.W.fnOf x x (jdf st) (jd3 st) (jaa st) .none kV dc pm an cd ct) ps []):DefAt K mg x st ps f (PySem.W.fnOf x x (jdf st) (jd3 st) (jaa st) .none kV dc pm an cd ct):=⟨jaq l c k,b,PySem.W.mg_of X G a⟩
theorem jt6 (d:Dt):1 ≤ dep d:=by cases d <;> simp [dep]
theorem jqw {P:Program} {w:World} {K:PySem.W.Frag} {mg:Str→Option Value} {base:Heap} {f:Addr} {fd:FuncData} (B:Blt mg) (D:DefAt K mg "_law_same" (top 49) ["_law_found","_law_due"] f fd) :
  ∀ n:Nat,FnOk P w K mg base CX0 n f fd ["_law_found","_law_due"] (jg3 n)
 | 0=>by
  have no:∀ vs H Q E,¬ jg3 0 vs H Q E:=fun vs H Q E h=>by
   obtain ⟨v1,v2,d,_,_,_,hd,_⟩:=h
   have:=jt6 d
   omega
  exact ⟨fun vs H Q E h=>absurd h (no vs H Q E),fun A outer s H args us vs Q E _ _ _ _ h=>absurd h (no vs H Q E)⟩
 | n + 1=>jjd B D D (jqw B D n)
theorem all_mk {l:PySem.W.OpenLaw} {w:World} {K:PySem.W.Frag} {h:Heap} {mg:Str→Option Value} {fa:Addr} (X:K.In h) (G:h.Ns mainGlobals mg) (hfa:mg "law" = some (.ref fa)) (a0:aT K "is_whole" f0) (l0:lT K "is_whole" "is_whole" (top 7) f0 oc0 od0 an0 sq0 kV0 dc0 pm0 cd0 ct0) (g0:cT K cd0 "is_whole") (k0:kT K f0) (a1:aT K "is_tuple_of" f1) (l1:lT K "is_tuple_of" "is_tuple_of" (top 8) f1 oc1 od1 an1 sq1 kV1 dc1 pm1 cd1 ct1) (g1:cT K cd1 "is_tuple_of") (k1:kT K f1) (a2:aT K "is_pair_of_wholes" f2) (l2:lT K "is_pair_of_wholes" "is_pair_of_wholes" (top 9) f2 oc2 od2 an2 sq2 kV2 dc2 pm2 cd2 ct2) (g2:cT K cd2 "is_pair_of_wholes") (k2:kT K f2) (a3:aT K "is_list_up_to" f3) (l3:lT K "is_list_up_to" "is_list_up_to" (top 10) f3 oc3 od3 an3 sq3 kV3 dc3 pm3 cd3 ct3) (g3:cT K cd3 "is_list_up_to") (k3:kT K f3) (a4:aT K "place_stands" f4) (l4:lT K "place_stands" "place_stands" (top 16) f4 oc4 od4 an4 sq4 kV4 dc4 pm4 cd4 ct4) (g4:cT K cd4 "place_stands") (k4:kT K f4) (a5:aT K "tie_stands" f5) (l5:lT K "tie_stands" "tie_stands" (top 17) f5 oc5 od5 an5 sq5 kV5 dc5 pm5 cd5 ct5) (g5:cT K cd5 "tie_stands") (k5:kT K f5) (a6:aT K "look_at_places" f6) (l6:lT K "look_at_places" "look_at_places" (top 18) f6 oc6 od6 an6 sq6 kV6 dc6 pm6 cd6 ct6) (g6:cT K cd6 "look_at_places") (k6:kT K f6) (a7:aT K "look_at_ties" f7) (l7:lT K "look_at_ties" "look_at_ties" (top 19) f7 oc7 od7 an7 sq7 kV7 dc7 pm7 cd7 ct7) (g7:cT K cd7 "look_at_ties") (k7:kT K f7) (a8:aT K "look_at_web" f8) (l8:lT K "look_at_web" "look_at_web" (top 20) f8 oc8 od8 an8 sq8 kV8 dc8 pm8 cd8 ct8) (g8:cT K cd8 "look_at_web") (k8:kT K f8) (a9:aT K "nears_in" f9) (l9:lT K "nears_in" "nears_in" (top 21) f9 oc9 od9 an9 sq9 kV9 dc9 pm9 cd9 ct9) (g9:cT K cd9 "nears_in") (k9:kT K f9) (a10:aT K "met_from" f10) (l10:lT K "met_from" "met_from" (top 32) f10 oc10 od10 an10 sq10 kV10 dc10 pm10 cd10 ct10) (g10:cT K cd10 "met_from") (k10:kT K f10) (a11:aT K "ring_from" f11) (l11:lT K "ring_from" "ring_from" (top 35) f11 oc11 od11 an11 sq11 kV11 dc11 pm11 cd11 ct11) (g11:cT K cd11 "ring_from") (k11:kT K f11) (a12:aT K "either_way" f12) (l12:lT K "either_way" "either_way" (top 38) f12 oc12 od12 an12 sq12 kV12 dc12 pm12 cd12 ct12) (g12:cT K cd12 "either_way") (k12:kT K f12) (a13:aT K "both_ways" f13) (l13:lT K "both_ways" "both_ways" (top 39) f13 oc13 od13 an13 sq13 kV13 dc13 pm13 cd13 ct13) (g13:cT K cd13 "both_ways") (k13:kT K f13) (a14:aT K "ways_of_tree" f14) (l14:lT K "ways_of_tree" "ways_of_tree" (top 40) f14 oc14 od14 an14 sq14 kV14 dc14 pm14 cd14 ct14) (g14:cT K cd14 "ways_of_tree") (k14:kT K f14) (a15:aT K "ways_of_trees" f15) (l15:lT K "ways_of_trees" "ways_of_trees" (top 41) f15 oc15 od15 an15 sq15 kV15 dc15 pm15 cd15 ct15) (g15:cT K cd15 "ways_of_trees") (k15:kT K f15) (a16:aT K "trees_of" f16) (l16:lT K "trees_of" "trees_of" (top 42) f16 oc16 od16 an16 sq16 kV16 dc16 pm16 cd16 ct16) (g16:cT K cd16 "trees_of") (k16:kT K f16) (a17:aT K "first_least" f17) (l17:lT K "first_least" "first_least" (top 43) f17 oc17 od17 an17 sq17 kV17 dc17 pm17 cd17 ct17) (g17:cT K cd17 "first_least") (k17:kT K f17) (a18:aT K "forest_least" f18) (l18:lT K "forest_least" "forest_least" (top 44) f18 oc18 od18 an18 sq18 kV18 dc18 pm18 cd18 ct18) (g18:cT K cd18 "forest_least") (k18:kT K f18) (a19:aT K "edge_known" f19) (l19:lT K "edge_known" "edge_known" (top 24) f19 oc19 od19 an19 sq19 kV19 dc19 pm19 cd19 ct19) (g19:cT K cd19 "edge_known") (k19:kT K f19) (a20:aT K "look_at_edges" f20) (l20:lT K "look_at_edges" "look_at_edges" (top 25) f20 oc20 od20 an20 sq20 kV20 dc20 pm20 cd20 ct20) (g20:cT K cd20 "look_at_edges") (k20:kT K f20) (a21:aT K "along" f21) (l21:lT K "along" "along" (top 26) f21 oc21 od21 an21 sq21 kV21 dc21 pm21 cd21 ct21) (g21:cT K cd21 "along") (k21:kT K f21) (a22:aT K "sums" f22) (l22:lT K "sums" "sums" (top 27) f22 oc22 od22 an22 sq22 kV22 dc22 pm22 cd22 ct22) (g22:cT K cd22 "sums") (k22:kT K f22) (a23:aT K "least_grown" f23) (l23:lT K "least_grown" "least_grown" (top 28) f23 oc23 od23 an23 sq23 kV23 dc23 pm23 cd23 ct23) (g23:cT K cd23 "least_grown") (k23:kT K f23) (a24:aT K "least_joined" f24) (l24:lT K "least_joined" "least_joined" (top 29) f24 oc24 od24 an24 sq24 kV24 dc24 pm24 cd24 ct24) (g24:cT K cd24 "least_joined") (k24:kT K f24) (a25:aT K "string_least" f25) (l25:lT K "string_least" "string_least" (top 30) f25 oc25 od25 an25 sq25 kV25 dc25 pm25 cd25 ct25) (g25:cT K cd25 "string_least") (k25:kT K f25) (a26:aT K "_law_begun" f26) (l26:lT K "_law_begun" "_law_begun" (top 46) f26 oc26 od26 an26 sq26 kV26 dc26 pm26 cd26 ct26) (g26:cT K cd26 "_law_begun") (k26:kT K f26) (a27:aT K "_law_take" f27) (l27:lT K "_law_take" "_law_take" (top 47) f27 oc27 od27 an27 sq27 kV27 dc27 pm27 cd27 ct27) (g27:cT K cd27 "_law_take") (k27:kT K f27) (a28:aT K "_law_places" f28) (l28:lT K "_law_places" "_law_places" (top 48) f28 oc28 od28 an28 sq28 kV28 dc28 pm28 cd28 ct28) (g28:cT K cd28 "_law_places") (k28:kT K f28) (a29:aT K "_law_web_by" f29) (l29:lT K "_law_web_by" "_law_web_by" (top 51) f29 oc29 od29 an29 sq29 kV29 dc29 pm29 cd29 ct29) (g29:cT K cd29 "_law_web_by") (k29:kT K f29) (a30:aT K "_law_same" f30) (l30:lT K "_law_same" "_law_same" (top 49) f30 oc30 od30 an30 sq30 kV30 dc30 pm30 cd30 ct30) (g30:cT K cd30 "_law_same") (k30:kT K f30) (a31:aT K "_law_copy" f31) (l31:lT K "_law_copy" "_law_copy" (top 50) f31 oc31 od31 an31 sq31 kV31 dc31 pm31 cd31 ct31) (g31:cT K cd31 "_law_copy") (k31:kT K f31) (a32:aT K "_law_less" f32) (l32:lT K "_law_less" "_law_less" (top 52) f32 oc32 od32 an32 sq32 kV32 dc32 pm32 cd32 ct32) (g32:cT K cd32 "_law_less") (k32:kT K f32) (a33:aT K "_law_fits" f33) (l33:lT K "_law_fits" "_law_fits" (top 53) f33 oc33 od33 an33 sq33 kV33 dc33 pm33 cd33 ct33) (g33:cT K cd33 "_law_fits") (k33:kT K f33) (a34:aT K "law" f34) (l34:lT K "law" "law" (top 54) f34 oc34 od34 an34 sq34 kV34 dc34 pm34 cd34 ct34) (g34:cT K cd34 "law") (k34:kT K f34) (z_len:zT K "len") (z_isinstance:zT K "isinstance") (z_all:zT K "all") (z_min:zT K "min") (z_list:zT K "list") (z_dict:zT K "dict") (z_int:zT K "int") (z_bool:zT K "bool") (z_str:zT K "str") (z_tuple:zT K "tuple") (z_range:zT K "range") (z_enumerate:zT K "enumerate") (z_zip:zT K "zip") (z_max:zT K "max") (z_any:zT K "any") (z_sum:zT K "sum") (z_sorted:zT K "sorted") (n_MOST_PLACES:PySem.W.nsIn K mainGlobals "MOST_PLACES" = some (some (.int 40 c1))) (n_MOST_TIES:PySem.W.nsIn K mainGlobals "MOST_TIES" = some (some (.int 120 c2))) (n_LAST_PLACE:PySem.W.nsIn K mainGlobals "LAST_PLACE" = some (some (.int 999 c3))) (n_MOST_PRICE:PySem.W.nsIn K mainGlobals "MOST_PRICE" = some (some (.int 1000000000000 c4))) (n_MA:PySem.W.nsIn K mainGlobals "MOST_ACROSS" = some (some (.int 6 c5))) (n_NV:PySem.W.nsIn K mainGlobals "NEVER" = some (some (.ref aN))) (l_NV:K.lookup aN = some ⟨.type "tuple",odN,.seq #[.int 1000000000001 tk1,.int 0 tk2] nN,slN⟩) (z_reversed:zT K "reversed")
 :∃ fd:FuncData,(∀ (s:Shared) (v:Value),BindsTo s fd ⟨[v],[]⟩ [("_law_script",v)])∧∀ base:Heap,K.In base→base.Ns mainGlobals mg→FnOk l.prog w K mg base CX0 9 fa fd ["_law_script"] (jpn K):=by
 have e:=hfa.symm.trans (PySem.W.mg_of X G a34)
 cases e
 have B:Blt mg:=⟨PySem.W.mg_none_of X G z_len,PySem.W.mg_none_of X G z_isinstance,PySem.W.mg_none_of X G z_all,PySem.W.mg_none_of X G z_min,PySem.W.mg_none_of X G z_list,PySem.W.mg_none_of X G z_dict,PySem.W.mg_none_of X G z_int,PySem.W.mg_none_of X G z_bool,PySem.W.mg_none_of X G z_str,PySem.W.mg_none_of X G z_tuple,PySem.W.mg_none_of X G z_range,PySem.W.mg_none_of X G z_enumerate,PySem.W.mg_none_of X G z_zip,PySem.W.mg_none_of X G z_max,PySem.W.mg_none_of X G z_any,PySem.W.mg_none_of X G z_sum,PySem.W.mg_none_of X G z_sorted⟩
 have C:Cst mg c1 c2 c3 c4:=⟨PySem.W.mg_of X G n_MOST_PLACES,PySem.W.mg_of X G n_MOST_TIES,PySem.W.mg_of X G n_LAST_PLACE,PySem.W.mg_of X G n_MOST_PRICE⟩
 have D_is_whole:=dmk X G a0 l0 g0 k0 ["thing"] ((jaq l0 g0 k0).binds fun _ _ _ _ _ _ us hl=>match us,hl with | [_],_=>rfl)
 have D_is_tuple_of:=dmk X G a1 l1 g1 k1 ["thing","many"] ((jaq l1 g1 k1).binds fun _ _ _ _ _ _ us hl=>match us,hl with | [_,_],_=>rfl)
 have D_is_pair_of_wholes:=dmk X G a2 l2 g2 k2 ["thing"] ((jaq l2 g2 k2).binds fun _ _ _ _ _ _ us hl=>match us,hl with | [_],_=>rfl)
 have D_is_list_up_to:=dmk X G a3 l3 g3 k3 ["thing","most"] ((jaq l3 g3 k3).binds fun _ _ _ _ _ _ us hl=>match us,hl with | [_,_],_=>rfl)
 have D_place_stands:=dmk X G a4 l4 g4 k4 ["thing","last","spent"] ((jaq l4 g4 k4).binds fun _ _ _ _ _ _ us hl=>match us,hl with | [_,_,_],_=>rfl)
 have D_tie_stands:=dmk X G a5 l5 g5 k5 ["thing","last","prices"] ((jaq l5 g5 k5).binds fun _ _ _ _ _ _ us hl=>match us,hl with | [_,_,_],_=>rfl)
 have D_look_at_places:=dmk X G a6 l6 g6 k6 ["places"] ((jaq l6 g6 k6).binds fun _ _ _ _ _ _ us hl=>match us,hl with | [_],_=>rfl)
 have D_look_at_ties:=dmk X G a7 l7 g7 k7 ["ties","prices"] ((jaq l7 g7 k7).binds fun _ _ _ _ _ _ us hl=>match us,hl with | [_,_],_=>rfl)
 have D_look_at_web:=dmk X G a8 l8 g8 k8 ["thing"] ((jaq l8 g8 k8).binds fun _ _ _ _ _ _ us hl=>match us,hl with | [_],_=>rfl)
 have D_nears_in:=dmk X G a9 l9 g9 k9 ["web"] ((jaq l9 g9 k9).binds fun _ _ _ _ _ _ us hl=>match us,hl with | [_],_=>rfl)
 have D_met_from:=dmk X G a10 l10 g10 k10 ["nears","place"] ((jaq l10 g10 k10).binds fun _ _ _ _ _ _ us hl=>match us,hl with | [_,_],_=>rfl)
 have D_ring_from:=dmk X G a11 l11 g11 k11 ["nears","place"] ((jaq l11 g11 k11).binds fun _ _ _ _ _ _ us hl=>match us,hl with | [_,_],_=>rfl)
 have D_either_way:=dmk X G a12 l12 g12 k12 ["one","other"] ((jaq l12 g12 k12).binds fun _ _ _ _ _ _ us hl=>match us,hl with | [_,_],_=>rfl)
 have D_both_ways:=dmk X G a13 l13 g13 k13 ["one","other"] ((jaq l13 g13 k13).binds fun _ _ _ _ _ _ us hl=>match us,hl with | [_,_],_=>rfl)
 have D_ways_of_tree:=dmk X G a14 l14 g14 k14 ["prices","above","chosen"] ((jaq l14 g14 k14).binds fun _ _ _ _ _ _ us hl=>match us,hl with | [_,_,_],_=>rfl)
 have D_ways_of_trees:=dmk X G a15 l15 g15 k15 ["prices","trees","chosen"] ((jaq l15 g15 k15).binds fun _ _ _ _ _ _ us hl=>match us,hl with | [_,_,_],_=>rfl)
 have D_trees_of:=dmk X G a16 l16 g16 k16 ["nears"] ((jaq l16 g16 k16).binds fun _ _ _ _ _ _ us hl=>match us,hl with | [_],_=>rfl)
 have D_first_least:=dmk X G a17 l17 g17 k17 ["prices","trees","least"] ((jaq l17 g17 k17).binds fun _ _ _ _ _ _ us hl=>match us,hl with | [_,_,_],_=>rfl)
 have D_forest_least:=dmk X G a18 l18 g18 k18 ["web"] ((jaq l18 g18 k18).binds fun _ _ _ _ _ _ us hl=>match us,hl with | [_],_=>rfl)
 have D_edge_known:=dmk X G a19 l19 g19 k19 ["nears","place"] ((jaq l19 g19 k19).binds fun _ _ _ _ _ _ us hl=>match us,hl with | [_,_],_=>rfl)
 have D_look_at_edges:=dmk X G a20 l20 g20 k20 ["web"] ((jaq l20 g20 k20).binds fun _ _ _ _ _ _ us hl=>match us,hl with | [_],_=>rfl)
 have D_along:=dmk X G a21 l21 g21 k21 ["web","start","grown","joined"] ((jaq l21 g21 k21).binds fun _ _ _ _ _ _ us hl=>match us,hl with | [_,_,_,_],_=>rfl)
 have D_sums:=dmk X G a22 l22 g22 k22 ["one","other"] ((jaq l22 g22 k22).binds fun _ _ _ _ _ _ us hl=>match us,hl with | [_,_],_=>rfl)
 have D_least_grown:=dmk X G a23 l23 g23 k23 ["value","place","price","is_in"] ((jaq l23 g23 k23).binds fun _ _ _ _ _ _ us hl=>match us,hl with | [_,_,_,_],_=>rfl)
 have D_least_joined:=dmk X G a24 l24 g24 k24 ["one","other"] ((jaq l24 g24 k24).binds fun _ _ _ _ _ _ us hl=>match us,hl with | [_,_],_=>rfl)
 have D_string_least:=dmk X G a25 l25 g25 k25 ["web"] ((jaq l25 g25 k25).binds fun _ _ _ _ _ _ us hl=>match us,hl with | [_],_=>rfl)
 have D_law_begun:=dmk X G a26 l26 g26 k26 ["_law_script","_law_k"] ((jaq l26 g26 k26).binds fun _ _ _ _ _ _ us hl=>match us,hl with | [_,_],_=>rfl)
 have D_law_take:=dmk X G a27 l27 g27 k27 ["_law_state","_law_many"] ((jaq l27 g27 k27).binds fun _ _ _ _ _ _ us hl=>match us,hl with | [_,_],_=>rfl)
 have D_law_places:=dmk X G a28 l28 g28 k28 ["_law_state","_law_count"] ((jaq l28 g28 k28).binds fun _ _ _ _ _ _ us hl=>match us,hl with | [_,_],_=>rfl)
 have D_law_web_by:=dmk X G a29 l29 g29 k29 ["_law_script","_law_state"] ((jaq l29 g29 k29).binds fun _ _ _ _ _ _ us hl=>match us,hl with | [_,_],_=>rfl)
 have D_law_same:=dmk X G a30 l30 g30 k30 ["_law_found","_law_due"] ((jaq l30 g30 k30).binds fun _ _ _ _ _ _ us hl=>match us,hl with | [_,_],_=>rfl)
 have D_law_copy:=dmk X G a31 l31 g31 k31 ["_law_web"] ((jaq l31 g31 k31).binds fun _ _ _ _ _ _ us hl=>match us,hl with | [_],_=>rfl)
 have D_law_less:=dmk X G a32 l32 g32 k32 ["_law_web","_law_gone"] ((jaq l32 g32 k32).binds fun _ _ _ _ _ _ us hl=>match us,hl with | [_,_],_=>rfl)
 have D_law_fits:=dmk X G a33 l33 g33 k33 ["_law_web","_law_told"] ((jaq l33 g33 k33).binds fun _ _ _ _ _ _ us hl=>match us,hl with | [_,_],_=>rfl)
 have D_law:=dmk X G a34 l34 g34 k34 ["_law_script"] ((jaq l34 g34 k34).binds fun _ _ _ _ _ _ us hl=>match us,hl with | [_],_=>rfl)
 refine ⟨PySem.W.fnOf "law" "law" (jdf (top 54)) (jd3 (top 54)) (jaa (top 54)) .none kV34 dc34 pm34 an34 cd34 ct34,fun s v=>.of_eq rfl,fun base _ _=>?_⟩
 have hNv:∀ H:Hp,TwA K H aN NEV:=fun H=>.inr ⟨_,_,_,l_NV,rfl,rfl,(show (2:Nat) ≤ sizeLine by decide),.cons ⟨_,rfl⟩ (.cons ⟨_,rfl⟩ .nil)⟩
 have m_NV:=PySem.W.mg_of X G n_NV
 have hRv:=PySem.W.mg_none_of X G z_reversed
 have G_is_whole:=jjg (P:=l.prog) (w:=w) (base:=base) B D_is_whole
 have G_is_tuple_of:=jfv (P:=l.prog) (w:=w) (base:=base) B D_is_tuple_of
 have G_is_list_up_to:=jeo (P:=l.prog) (w:=w) (base:=base) B D_is_list_up_to
 have G_is_pair_of_wholes:=jdl (P:=l.prog) (w:=w) (base:=base) B D_is_pair_of_wholes D_is_tuple_of G_is_tuple_of D_is_whole G_is_whole
 have G_place_stands:=jf9 (P:=l.prog) (w:=w) (base:=base) B C D_place_stands D_is_pair_of_wholes G_is_pair_of_wholes
 have G_tie_stands:=jh0 (P:=l.prog) (w:=w) (base:=base) B D_tie_stands D_is_pair_of_wholes G_is_pair_of_wholes
 have G_look_at_places:=jed (P:=l.prog) (w:=w) (base:=base) B C D_look_at_places D_is_list_up_to G_is_list_up_to D_place_stands G_place_stands
 have G_look_at_ties:=jfa (P:=l.prog) (w:=w) (base:=base) B C D_look_at_ties D_is_list_up_to G_is_list_up_to D_tie_stands G_tie_stands
 have G_look_at_web:=jft (P:=l.prog) (w:=w) (base:=base) B D_look_at_web D_is_tuple_of G_is_tuple_of D_look_at_places G_look_at_places D_look_at_ties G_look_at_ties
 have G_nears_in:=jja (P:=l.prog) (w:=w) (base:=base) B D_nears_in
 have G_met_from:=jjb (P:=l.prog) (w:=w) (base:=base) B D_met_from
 have G_ring_from:=ji4 (P:=l.prog) (w:=w) (base:=base) B D_ring_from D_met_from G_met_from
 have G_either_way:=jh3 (P:=l.prog) (w:=w) (base:=base) B D_either_way
 have G_both_ways:=ji7 (P:=l.prog) (w:=w) (base:=base) B D_both_ways
 have G_ways_of_tree:=jf7 (P:=l.prog) (w:=w) (base:=base) B D_ways_of_tree D_either_way G_either_way D_both_ways G_both_ways m_NV hNv hRv
 have G_ways_of_trees:=jem (P:=l.prog) (w:=w) (base:=base) B D_ways_of_trees D_both_ways G_both_ways D_ways_of_tree G_ways_of_tree
 have G_trees_of:=jj9 (P:=l.prog) (w:=w) (base:=base) B D_trees_of D_ring_from G_ring_from D_met_from G_met_from
 have G_first_least:=jfw (P:=l.prog) (w:=w) (base:=base) B D_first_least D_ways_of_trees G_ways_of_trees
 have G_forest_least:=jfc (P:=l.prog) (w:=w) (base:=base) B D_forest_least D_look_at_web G_look_at_web D_nears_in G_nears_in D_trees_of G_trees_of D_ways_of_trees G_ways_of_trees D_first_least G_first_least
 have G_edge_known:=jh4 (P:=l.prog) (w:=w) (base:=base) B D_edge_known
 have G_look_at_edges:=jen (P:=l.prog) (w:=w) (base:=base) B D_look_at_edges D_look_at_web G_look_at_web D_nears_in G_nears_in D_edge_known G_edge_known (PySem.W.mg_of X G n_MA)
 have G_sums:=jse (P:=l.prog) (w:=w) (base:=base) B D_sums
 have G_lg:=fun H0:Hp=>jfu (P:=l.prog) (w:=w) (base:=base) (H0:=H0) B D_least_grown
 have G_lj:=fun H0:Hp=>jfb (P:=l.prog) (w:=w) (base:=base) (H0:=H0) B D_least_joined D_sums G_sums
 have G_along0:=fun H0:Hp=>jq1 (P:=l.prog) (w:=w) (base:=base) B D_along D_nears_in G_nears_in D_edge_known G_edge_known (VA:=VL H0) (fs:=[(_,spGr (VL H0)),(_,spJn (VL H0))]) fun f sp hm=>by
  rcases List.mem_cons.mp hm with e | hm
  ·cases e
   exact ⟨_,_,G_lg H0,D_least_grown.F.kp,D_least_grown.b⟩
  ·cases List.mem_singleton.mp hm
   exact ⟨_,_,G_lj H0,D_least_joined.F.kp,D_least_joined.b⟩
 have G_string_least:=jf8 (P:=l.prog) (w:=w) (base:=base) B D_string_least D_look_at_edges G_look_at_edges D_along G_along0 D_least_grown D_least_joined
 have G_law_begun:=ji6 (P:=l.prog) (w:=w) (base:=base) B D_law_begun
 have G_law_take:=jjc (P:=l.prog) (w:=w) (base:=base) B D_law_take
 have G_law_places:=jh2 (P:=l.prog) (w:=w) (base:=base) B D_law_places D_law_take G_law_take
 have G_law_web_by:=jh1 (P:=l.prog) (w:=w) (base:=base) B D_law_web_by D_law_take G_law_take D_law_places G_law_places D_law_begun G_law_begun
 have G_law_same:=jqw (P:=l.prog) (w:=w) (base:=base) B D_law_same 6
 have G_law_copy:=ji5 (P:=l.prog) (w:=w) (base:=base) B D_law_copy
 have G_law_less:=jje (P:=l.prog) (w:=w) (base:=base) B D_law_less
 have G_law_fits:=jjf (P:=l.prog) (w:=w) (base:=base) B D_law_fits D_law_same G_law_same
 exact ok_law B D_law D_law_begun G_law_begun D_law_take G_law_take D_law_web_by G_law_web_by D_law_copy G_law_copy D_forest_least G_forest_least D_string_least G_string_least D_law_same G_law_same D_law_fits G_law_fits D_law_less G_law_less
theorem walk {l:PySem.W.OpenLaw} {q:Program} {loose:List Str} {XP:(Str→Option Value)→Heap→Prop} {YP:World→Heap→Prop} {d:DefRec} {K:Params→PySem.W.Frag} (hn:l.most = some 63) (hdf:d.params.defaults = [])
  (hY:∀ (w:World) (h:Heap),YP w h→(K w.params).In h)
  (F:∀ (w:World) (mg:Str→Option Value) (fa:Addr) (h:Heap),(K w.params).In h→h.Ns mainGlobals mg→mg d.name = some (.ref fa) →
   ∃ fd:FuncData,(∀ (s:Shared) (u:Value),BindsTo s fd ⟨[u],[]⟩ [("_law_script",u)])∧∀ base:Heap,(K w.params).In base→base.Ns mainGlobals mg→FnOk l.prog w (K w.params) mg base CX0 9 fa fd ["_law_script"] (jpn (K w.params))) :
  PySem.W.WalkO q loose XP YP l.row.toRowW d [] (fun f vs=>PySem.call f vs) :=
 L2.jm6 (n:=63) (k:=9) (x:="_law_script") (CX:=fun _=>CX0) (sp:=fun w=>jpn (K w.params)) hn (by decide) hdf ⟨rfl,by decide,by decide,rfl⟩ hY F (fun _ _ a ns hl hO hS=>⟨a,ns,rfl,Scr.of hS hO,fun _=>rfl⟩) fun _ _ _ _ _ z=>z
end My
open PySem PySem.W PyProof.Rows
set_option maxRecDepth 100000 in
set_option maxHeartbeats 0 in
theorem PySem.Challenge.cw_touchall_k69_groves_along_a_string_holds : PySem.Challenge.rw_touchall_k69_groves_along_a_string.Holds := by
 refine MyHead ?_
 k_fill
 refine My.walk (l:=PySem.Challenge.rw_touchall_k69_groves_along_a_string) rfl rfl (fun w h Y=>PySem.W.kIn_of Y) ?F
 case F =>
  intro w mg fa h KX G hmg
  refine' My.all_mk KX G hmg ?_ ?_ ?_ ?_ ?_ ?_ ?_ ?_ ?_ ?_ ?_ ?_ ?_ ?_ ?_ ?_ ?_ ?_ ?_ ?_ ?_ ?_ ?_ ?_ ?_ ?_ ?_ ?_ ?_ ?_ ?_ ?_ ?_ ?_ ?_ ?_ ?_ ?_ ?_ ?_ ?_ ?_ ?_ ?_ ?_ ?_ ?_ ?_ ?_ ?_ ?_ ?_ ?_ ?_ ?_ ?_ ?_ ?_ ?_ ?_ ?_ ?_ ?_ ?_ ?_ ?_ ?_ ?_ ?_ ?_ ?_ ?_ ?_ ?_ ?_ ?_ ?_ ?_ ?_ ?_ ?_ ?_ ?_ ?_ ?_ ?_ ?_ ?_ ?_ ?_ ?_ ?_ ?_ ?_ ?_ ?_ ?_ ?_ ?_ ?_ ?_ ?_ ?_ ?_ ?_ ?_ ?_ ?_ ?_ ?_ ?_ ?_ ?_ ?_ ?_ ?_ ?_ ?_ ?_ ?_ ?_ ?_ ?_ ?_ ?_ ?_ ?_ ?_ ?_ ?_ ?_ ?_ ?_ ?_ ?_ ?_ ?_ ?_ ?_ ?_ ?_ ?_ ?_ ?_ ?_ ?_ ?_ ?_ ?_ ?_ ?_ ?_ ?_ ?_ ?_ ?_ ?_ ?_ ?_ ?_ ?_ ?_ ?_ ?_ ?_
  any_goals first | k_is | (delta My.aT; k_is) | (delta My.lT; k_is) | (delta My.cT; k_is) | (delta My.kT; k_is) | (delta My.zT; k_is) | kernel_rfl | rfl
#print axioms PySem.Challenge.cw_touchall_k69_groves_along_a_string_holds
