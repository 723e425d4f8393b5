import PyProof.Rows.All
import Wide.All
import OpenK.AllK
import Wide.FinOn
import Lean
import PyProof.EqAt
import PyProof.EqKinds
import PyProof.TupleCall
import PyProof.NeKinds
import PyProof.NeData
import PySem.Challenge.RW_touchall_k36_folds_that_fit
import PyProof.StationsW
import PyProof.ExcInit
import PyProof.InstStoreFacts
import PyProof.NsDelKeeps
import PyProof.RulesAs
import PyProof.ExcAttrAll.ValueError
import KE.KIsAll
import PyProof.AutoSeq1
import PyProof.Rows.SetFrom
import PyProof.SetRoads
import PyProof.Rows.SortRuns
import PyProof.Rows.SortShell
import KE.KSortTup
import PyProof.Rows.SumAny
section
open PySem PySem.W PyProof.Rows
set_option Elab.async false
set_option maxRecDepth 100000
set_option maxHeartbeats 0
namespace PySem.W.Fast
theorem tw1675651210951066025:True:=⟨⟩
theorem tw1842545590595054091:True:=⟨⟩
theorem tw14781562103584300300:True:=⟨⟩
theorem tw9460297890377761805:True:=⟨⟩
theorem tw16599119404929089777:True:=⟨⟩
theorem tw12864298934089389650:True:=⟨⟩
theorem tw10277216313517438195:True:=⟨⟩
theorem tw280475905095942100:True:=⟨⟩
theorem tw17883986908372840214:True:=⟨⟩
theorem tw6482508660291388407:True:=⟨⟩
theorem tw14444337273729473304:True:=⟨⟩
theorem tw2931302938565754747:True:=⟨⟩
theorem tw8184350958359025885:True:=⟨⟩
theorem tw4851398703335325437:True:=⟨⟩
theorem tw833100370499951229:True:=⟨⟩
theorem tw5024311612598442896:True:=⟨⟩
theorem tw4797910653062698329:True:=⟨⟩
theorem tw13242178929776231284:True:=⟨⟩
theorem tw4993535481166183151:True:=⟨⟩
theorem tw16621345285488354935:True:=⟨⟩
theorem tw9300622626429570422:True:=⟨⟩
theorem tw18412816545115006207:True:=⟨⟩
theorem tw11463903968044550017:True:=⟨⟩
theorem tw7776265952824830946:True:=⟨⟩
theorem tw2490168159750464933:True:=⟨⟩
theorem tw2305170695127674745:True:=⟨⟩
theorem tw18406394319825488089:True:=⟨⟩
theorem tw12723252421524380382:True:=⟨⟩
theorem tw1226126816076504030:True:=⟨⟩
theorem tw14079483211463739728:True:=⟨⟩
theorem tw3386007157573418628:True:=⟨⟩
theorem tw760989484626043395:True:=⟨⟩
theorem tw2962389570615649833:True:=⟨⟩
theorem tw1254726082602250670:True:=⟨⟩
theorem tw9983246530437217887:True:=⟨⟩
theorem tw13586414748893568851:True:=⟨⟩
theorem tw6733287294774218101:True:=⟨⟩
theorem tw14982153563136074336:True:=⟨⟩
theorem tw598913056240112703:True:=⟨⟩
theorem tw6654934050380821986:True:=⟨⟩
theorem tw16764879798957253549:True:=⟨⟩
theorem tw7182748549700119884:True:=⟨⟩
theorem tw6521518918535766600:True:=⟨⟩
theorem tw11845121057717500690:True:=⟨⟩
theorem tw8933711008320621455:True:=⟨⟩
theorem tw16539750171811967457:True:=⟨⟩
theorem tw17955352225296809:True:=⟨⟩
theorem tw4419083898468804903:True:=⟨⟩
theorem tw7552589387619456655:True:=⟨⟩
theorem tw6080368645660506305:True:=⟨⟩
theorem tw3898517711134442070:True:=⟨⟩
theorem tw11033941645859556090:True:=⟨⟩
theorem tw5741868628440793479:True:=⟨⟩
theorem tw14756317111538670632:True:=⟨⟩
theorem tw8556881319794653275:True:=⟨⟩
theorem tw1349069014647357223:True:=⟨⟩
theorem tw17699127499869388257:True:=⟨⟩
theorem tw162473700425539603:True:=⟨⟩
theorem tw13957831022968771053:True:=⟨⟩
theorem tw6749682013178273063:True:=⟨⟩
theorem tw5786271111882089314:True:=⟨⟩
theorem tw17746213073180106855:True:=⟨⟩
theorem tw12021910400016799448:True:=⟨⟩
theorem tw12832714438019067581:True:=⟨⟩
theorem tw18281609995975707841:True:=⟨⟩
theorem tw16568485113996511727:True:=⟨⟩
theorem tw16042470173560958907:True:=⟨⟩
theorem tw593414006488225192:True:=⟨⟩
theorem tw11388765831873443430:True:=⟨⟩
theorem tw10485983645851997345:True:=⟨⟩
theorem tw16255763314203305198:True:=⟨⟩
theorem tw6145129637773361727:True:=⟨⟩
theorem tw12274256780947587003:True:=⟨⟩
theorem tw17040265546129833713:True:=⟨⟩
theorem tw7761872477267044100:True:=⟨⟩
theorem tw1709369397895544754:True:=⟨⟩
theorem tw18111414595329612538:True:=⟨⟩
theorem tw7001522343913608149:True:=⟨⟩
theorem tw13990930123094078712:True:=⟨⟩
theorem tw18074669270637765023:True:=⟨⟩
theorem tw5576238831551449830:True:=⟨⟩
theorem tw11435906062788071858:True:=⟨⟩
theorem tw14978731467003240592:True:=⟨⟩
theorem tw6356490350672987232:True:=⟨⟩
theorem tw7038596651363693363:True:=⟨⟩
theorem tw2766017732037652418:True:=⟨⟩
theorem tw11737177560275070378:True:=⟨⟩
theorem tw8871029021759738552:True:=⟨⟩
theorem tw12549199338888590937:True:=⟨⟩
theorem tw404403461788371284:True:=⟨⟩
theorem tw13557064101490781197:True:=⟨⟩
theorem tw13527872405176336012:True:=⟨⟩
theorem tw13058793742947418118:True:=⟨⟩
theorem tw18442223865690583646:True:=⟨⟩
theorem tw7264120421309663093:True:=⟨⟩
theorem tw6238900285969046887:True:=⟨⟩
theorem tw5193228197388695436:True:=⟨⟩
theorem tw8212859607379937844:True:=⟨⟩
theorem tw11647574858823915943:True:=⟨⟩
theorem tw12653114381597422123:True:=⟨⟩
theorem tw7492884703717757881:True:=⟨⟩
theorem tw14295450787131531452:True:=⟨⟩
theorem tw11136914164223361463:True:=⟨⟩
theorem tw8549602738571025238:True:=⟨⟩
theorem tw13281483970742848924:True:=⟨⟩
theorem tw17457086080872000736:True:=⟨⟩
theorem tw17225890555602619104:True:=⟨⟩
theorem tw14075567622485590124:True:=⟨⟩
theorem tw13651674943635200488:True:=⟨⟩
theorem tw14508702681240927338:True:=⟨⟩
theorem tw9986159386596041291:True:=⟨⟩
theorem tw6542929942557814982:True:=⟨⟩
theorem tw13166968430877283740:True:=⟨⟩
theorem tw1204304298147611602:True:=⟨⟩
theorem tw4755141612544394983:True:=⟨⟩
theorem tw12343798008286848705:True:=⟨⟩
theorem tw994784650385719441:True:=⟨⟩
theorem tw5101450760185418553:True:=⟨⟩
theorem tw16409236330492884371:True:=⟨⟩
theorem tw2269460933442521542:True:=⟨⟩
theorem tw429126050991680652:True:=⟨⟩
theorem tw11247763399507659385:True:=⟨⟩
theorem tw11867328985658093342:True:=⟨⟩
theorem tw17899455434026235383:True:=⟨⟩
theorem tw5729796969671028974:True:=⟨⟩
theorem tw1118109838406661019:True:=⟨⟩
theorem tw11752198495680197036:True:=⟨⟩
theorem tw14278096135980503484:True:=⟨⟩
theorem tw17478704713776998801:True:=⟨⟩
theorem tw2377688178443341648:True:=⟨⟩
theorem tw420471366415179010:True:=⟨⟩
theorem tw17670709185726934248:True:=⟨⟩
theorem tw12260765946192292528:True:=⟨⟩
theorem tw2994093840504715005:True:=⟨⟩
theorem tw12427681057240079959:True:=⟨⟩
theorem tw17617909281238425753:True:=⟨⟩
theorem tw3251091792226649815:True:=⟨⟩
theorem tw2204380585850004632:True:=⟨⟩
theorem tw11182244786485069041:True:=⟨⟩
theorem tw12010976375034376571:True:=⟨⟩
theorem tw11081487935797344181:True:=⟨⟩
theorem tw10340114976711878602:True:=⟨⟩
theorem tw7494416671395988296:True:=⟨⟩
theorem tw14162606385346639759:True:=⟨⟩
theorem tw9297663727785247985:True:=⟨⟩
theorem tw6499570430222579456:True:=⟨⟩
theorem tw7213155722094151984:True:=⟨⟩
theorem tw1477800894226905496:True:=⟨⟩
theorem tw15188817593048362529:True:=⟨⟩
theorem tw17998473541372339751:True:=⟨⟩
theorem tw1495474450647618605:True:=⟨⟩
theorem tw6866683891151582221:True:=⟨⟩
theorem tw7547061875069642281:True:=⟨⟩
theorem tw5774174942400694725:True:=⟨⟩
theorem tw3316017791842677514:True:=⟨⟩
theorem tw17790621613727568432:True:=⟨⟩
theorem tw17001195906241442773:True:=⟨⟩
theorem tw15037228842536186244:True:=⟨⟩
theorem tw7120315761109200815:True:=⟨⟩
theorem tw15227233571305852144:True:=⟨⟩
theorem tw1459643596898847606:True:=⟨⟩
theorem tw5140643216894729713:True:=⟨⟩
theorem tw12285054315132010732:True:=⟨⟩
theorem tw18438347639502009901:True:=⟨⟩
theorem tw6245827768647603512:True:=⟨⟩
theorem tw1446046372975601066:True:=⟨⟩
theorem tw18259904567720872237:True:=⟨⟩
theorem tw7698447048043514017:True:=⟨⟩
theorem tw8656658807441475152:True:=⟨⟩
theorem tw9562907100761335393:True:=⟨⟩
theorem tw8956578309298014497:True:=⟨⟩
theorem tw11207535551202950041:True:=⟨⟩
theorem tw15335128613735910151:True:=⟨⟩
theorem tw17426358754788277328:True:=⟨⟩
theorem tw9482120283554068594:True:=⟨⟩
theorem tw6743641750472775847:True:=⟨⟩
theorem tw5061831166103267206:True:=⟨⟩
theorem tw6822298609184292527:True:=⟨⟩
theorem tw7830369994248853982:True:=⟨⟩
theorem tw14973742723826984120:True:=⟨⟩
theorem tw850951039455432525:True:=⟨⟩
theorem tw5047764800839148311:True:=⟨⟩
theorem tw1718328181716237790:True:=⟨⟩
theorem tw13626826527460705081:True:=⟨⟩
theorem tw18065466543452598238:True:=⟨⟩
theorem tw12084875070278405943:True:=⟨⟩
theorem tw16546778057378974778:True:=⟨⟩
theorem tw14126711560844903301:True:=⟨⟩
theorem tw13429004783999240505:True:=⟨⟩
theorem tw15500006721023040547:True:=⟨⟩
theorem tw6014219777646665041:True:=⟨⟩
theorem tw5160066459553266816:True:=⟨⟩
theorem tw17748391171391791682:True:=⟨⟩
theorem tw16134669214637943945:True:=⟨⟩
theorem tw7202037326456345769:True:=⟨⟩
theorem tw5799083521025948683:True:=⟨⟩
theorem tw9857830821546525648:True:=⟨⟩
theorem tw2418372970533406711:True:=⟨⟩
theorem tw9360046480592557864:True:=⟨⟩
theorem tw17214794808516251772:True:=⟨⟩
theorem tw17507916543043632276:True:=⟨⟩
theorem tw16167534320156721182:True:=⟨⟩
theorem tw14327726190135316050:True:=⟨⟩
end PySem.W.Fast
open_top MyHead for PySem.Challenge.rw_touchall_k36_folds_that_fit
end
-- CHANGE: your row's module here, as the last of these rows
noncomputable section
set_option Elab.async false
set_option linter.all false
set_option maxRecDepth 100000
namespace L2
open PySem PySem.Spec PyProof.Rows
abbrev Key:=Sum Int Str
def jlz:Key→Value→Bool
 | .inl k,v=>Value.isInt k v
 | .inr x,v=>Value.isStrOf x v
def keyH (w:World):Key→Int
 | .inl k=>hashInt k
 | .inr x=>hashStr w x
theorem jb1:∀ {k:Key} {v:Value},jlz k v = true→(∃ i t,k = Sum.inl i∧v = Value.int i t) ∨ (∃ x t,k = Sum.inr x∧v = Value.str x t)
 | .inl i,v,h=>by
  obtain ⟨t,e⟩:=Value.isInt_shape (k:=i) (v:=v) h
  exact .inl ⟨i,t,rfl,e⟩
 | .inr x,v,h=>by
  obtain ⟨t,e⟩:=Value.isStrOf_shape (x:=x) (v:=v) h
  exact .inr ⟨x,t,rfl,e⟩
theorem jnq (i:Int) (t:Tok):jlz (.inl i) (.int i t) = true:=by simp [jlz,Value.isInt]
theorem jnp (x:Str) (t:Tok):jlz (.inr x) (.str x t) = true:=by simp [jlz,Value.isStrOf]
theorem key_ll (a b:Int):decide ((Sum.inl a:Key) = Sum.inl b) = (a == b):=by
 by_cases e:a = b
 ·subst e; simp
 ·have h:¬ (Sum.inl a:Key) = Sum.inl b:=fun q=>e (Sum.inl.inj q)
  rw [decide_eq_false h]
  exact (beq_eq_false_iff_ne.mpr e).symm
theorem key_rr (a b:Str):decide ((Sum.inr a:Key) = Sum.inr b) = decide (a = b):=by
 by_cases e:a = b
 ·subst e; simp
 ·have h:¬ (Sum.inr a:Key) = Sum.inr b:=fun q=>e (Sum.inr.inj q)
  rw [decide_eq_false h,decide_eq_false e]
theorem key_lr (a:Int) (b:Str):decide ((Sum.inl a:Key) = Sum.inr b) = false:=decide_eq_false (fun q=>nomatch q)
theorem key_rl (a:Str) (b:Int):decide ((Sum.inr a:Key) = Sum.inl b) = false:=decide_eq_false (fun q=>nomatch q)
def jbc (prog:Program) (w:World):PySem.KeyKind prog w Key where
 is:=jlz
 hash:=keyH w
 inj:=fun v a b ha hb=>by
  rcases jb1 ha with ⟨i,t,rfl,rfl⟩ | ⟨x,t,rfl,rfl⟩
  ·rcases jb1 hb with ⟨j,u,rfl,e⟩ | ⟨y,u,rfl,e⟩
   ·injection e with e1 _; rw [e1]
   ·exact nomatch e
  ·rcases jb1 hb with ⟨j,u,rfl,e⟩ | ⟨y,u,rfl,e⟩
   ·exact nomatch e
   ·injection e with e1 _; rw [e1]
 byValue:=fun k v h=>by
  rcases jb1 h with ⟨i,t,rfl,rfl⟩ | ⟨x,t,rfl,rfl⟩ <;> rfl
 pyHash:=fun hv h=>by
  rcases jb1 hv with ⟨i,t,rfl,rfl⟩ | ⟨x,t,rfl,rfl⟩
  ·exact wpAny_pyHash_int h
  ·exact wpAny_pyHash_str h
 eqBool:=fun hu hv h=>by
  rcases jb1 hu with ⟨i,t,rfl,rfl⟩ | ⟨x,t,rfl,rfl⟩
  ·rcases jb1 hv with ⟨j,u,rfl,rfl⟩ | ⟨y,u,rfl,rfl⟩
   ·rw [key_ll] at h; exact wpAny_eqBool_int h
   ·rw [key_lr] at h; exact SeqAt.EqAt.int_str i t y u _ _ _ _ h
  ·rcases jb1 hv with ⟨j,u,rfl,rfl⟩ | ⟨y,u,rfl,rfl⟩
   ·rw [key_rl] at h; exact SeqAt.EqAt.str_int x t j u _ _ _ _ h
   ·rw [key_rr] at h; exact wpAny_eqBool_str h
 «strs»:=fun k x t v h=>by
  rcases jb1 h with ⟨i,u,rfl,e⟩ | ⟨y,u,rfl,e⟩
  ·exact nomatch e
  ·injection e with e1 _
   subst e1
   cases v <;> rfl
theorem jk1 (prog:Program) (w:World) (i:Int) (t:Tok):(jbc prog w).is (.inl i) (.int i t) = true:=jnq i t
theorem jk0 (prog:Program) (w:World) (x:Str) (t:Tok):(jbc prog w).is (.inr x) (.str x t) = true:=jnp x t
end L2
namespace L2
open PySem PySem.Spec PyProof.Rows
inductive V where
 | non | bl (b:Bool) | int (i:Int) | str (x:Str) | byt (b:Array UInt8) | flt (b:UInt64) | ref (a:Addr) | ty (n:String)
 deriving DecidableEq
def RelV:V→Value→Prop
 | .non,u=>u = Value.none
 | .bl b,u=>u = Value.bool b
 | .int i,u=>∃ t,u = Value.int i t
 | .str x,u=>∃ t,u = Value.str x t
 | .byt b,u=>∃ t,u = Value.bytes b t
 | .flt b,u=>∃ t,u = Value.float b t
 | .ref a,u=>u = Value.ref a
 | .ty n,u=>u = Value.type n
abbrev Vals:List V→List Value→Prop:=Paired RelV
theorem Vals.length {xs:List V} {us:List Value} (r:Vals xs us):xs.length = us.length:=Paired.length r
theorem Vals.get:∀ {xs:List V} {us:List Value} {i:Nat} {x:V},Vals xs us→xs[i]? = some x→∃ u,us[i]? = some u∧RelV x u
 | _,_,_,_,.nil,e=>by simp at e
 | _,_,0,_,.cons r _,e=>by simp at e; subst e; exact ⟨_,rfl,r⟩
 | _,_,i + 1,x,.cons _ t,e=>by
  obtain ⟨u,h1,h2⟩:=Vals.get (i:=i) (x:=x) t (by simpa using e)
  exact ⟨u,by simpa using h1,h2⟩
theorem Vals.set {x:V} {u:Value} (r:RelV x u):∀ {xs:List V} {us:List Value} (i:Nat),Vals xs us→Vals (xs.set i x) (us.set i u)
 | _,_,_,.nil=>.nil
 | _,_,0,.cons _ t=>.cons r t
 | _,_,i + 1,.cons q t=>.cons q (Vals.set r i t)
theorem Vals.append:∀ {xs ys:List V} {us ws:List Value},Vals xs us→Vals ys ws→Vals (xs ++ ys) (us ++ ws)
 | _,_,_,_,.nil,s=>s
 | _,_,_,_,.cons r t,s=>.cons r (Vals.append t s)
theorem Vals.take:∀ {xs:List V} {us:List Value} (n:Nat),Vals xs us→Vals (xs.take n) (us.take n)
 | _,_,0,_=>.nil
 | _,_,_ + 1,.nil=>.nil
 | _,_,n + 1,.cons r t=>.cons r (Vals.take n t)
theorem Vals.drop:∀ {xs:List V} {us:List Value} (n:Nat),Vals xs us→Vals (xs.drop n) (us.drop n)
 | _,_,0,r=>r
 | _,_,_ + 1,.nil=>.nil
 | _,_,n + 1,.cons _ t=>Vals.drop n t
def RelO:Option V→Option Value→Prop
 | some v,some u=>RelV v u
 | none,none=>True
 | _,_=>False
def KV {κ:Type}:List (κ × V)→List (κ × Value)→Prop:=Paired fun (p:κ × V) (q:κ × Value)=>p.1 = q.1∧RelV p.2 q.2
def kV:Key→V
 | .inl i=>.int i
 | .inr x=>.str x
inductive HO where
 | lst (xs:List V)
 | tup (xs:List V)
 | dK (kvs:List (Key × V)) | dT (kvs:List (List Key × V))
 | set (S:Int→Bool) (n:Nat)
 | ins (C dx:Addr) (fs:List (Str × V))
 | own (x:Addr)
 | xd (fs:List (Str × V))
 | met (f x:Addr)
 | rng (lo hi:Int)
 | frz (o:Obj) (u:HO)
 | tbl (ps:Array Value)
 | ext (φ:Heap→Prop)
abbrev Hp:=Addr→Option HO
def upd (H:Hp) (a:Addr) (o:HO):Hp:=fun b=>if b = a then some o else H b
theorem ja1 {H:Hp} {a:Addr} {o:HO}:upd H a o a = some o:=by unfold upd; rw [if_pos rfl]
theorem ja7 {H:Hp} {a b:Addr} {o:HO} (h:b ≠ a):upd H a o b = H b:=by unfold upd; rw [if_neg h]
theorem jmg {H:Hp} {a:Addr} {o u:HO}:upd (upd H a o) a u = upd H a u:=by
 funext b; unfold upd; split <;> rfl
theorem ne_of {H:Hp} {a b:Addr} {o u:HO} (h:H a = some o) (h':H b = some u) (d:o ≠ u):a ≠ b:=by
 intro e; subst e; rw [h] at h'; exact d (Option.some.inj h')
theorem ja9 {H:Hp} {a b:Addr} {o:HO} (h:H a = some o) (h':H b = none):a ≠ b:=by
 intro e; subst e; rw [h] at h'; cases h'
section
variable (P:Program) (w:World)
def jb2 (H:Hp) (h:Heap) (a:Addr):HO→Prop
 | .lst xs=>xs.length ≤ sizeLine∧∃ (its:List Value) (n:Nat),Vals xs its∧h.get? a = some { cls:=.type "list",data:=.seq its.toArray n }
 | .tup xs=>xs.length ≤ sizeLine∧∃ its:List Value,Vals xs its∧IsTup h a its.toArray
 | .dK kvs=>kvs.length ≤ sizeLine∧(a == sysModules) = false∧∃ vs,KV kvs vs∧h.DictOf (jbc P w) a vs
 | .dT kvs=>kvs.length ≤ sizeLine∧(a == sysModules) = false∧∃ xs:List (List Key × Addr × Value),
   Paired (fun (p:List Key × V) (q:List Key × Addr × Value)=>p.1 = q.1∧H q.2.1 = some (.tup (p.1.map kV))∧RelV p.2 q.2.2) kvs xs ∧
   ∃ o es ep,h.get? a = some o∧o.ExactDict∧o.data = .dict es ep∧es.toList = xs.map (entryOfKey (tupleKind (jbc P w)))∧(xs.map (·.1)).Nodup
 | .set S n=>h.SetOf (intKind P w) a S n
 | .ins C dx fs=>H dx = some (.own a)∧fs.length ≤ 1000∧dx ≠ a∧h.get? a = some (PySem.W.instObj C dx) ∧
   ∃ mA,h.Ns1 dx mA∧(∀ f,RelO (fs.lookup f) (mA f))∧PySem.Within mA (fs.map (·.1))
 | .own _=>∃ o,h.get? a = some o
 | .xd fs=>∃ mA,h.Ns1 a mA∧∀ f,RelO (fs.lookup f) (mA f)
 | .rng lo hi=>∃ t u v,h.get? a = some { cls:=.type "range",data:=.fields #[.int lo t,.int hi u,.int 1 v] }
 | .frz o u=>h.get? a = some o∧jb2 H h a u
 | .tbl ps=>h.get? a = some { cls:=.none,data:=.fields ps }
 | .met f x=>h.get? a = some (PySem.W.methodObj (.ref f) (.ref x))
 | .ext φ=>φ h∧(∃ o,h.get? a = some o)∧∀ h1 h2:Heap,φ h1→(∀ o,h1.get? a = some o→h2.get? a = some o)→φ h2
def HOk (H:Hp) (h:Heap):Prop:=∀ a o,H a = some o→jb2 P w H h a o
end
section
variable {P:Program} {w:World} {H H':Hp} {h h':Heap} {a:Addr} {o:HO}
theorem jb2.lt (x:jb2 P w H h a o):a < h.objs.size:=by
 cases o with
 | lst xs=>obtain ⟨_,_,_,_,e⟩:=x; exact Heap.lt_size e
 | tup xs=>obtain ⟨_,_,_,p⟩:=x; exact p.lt
 | dK kvs=>obtain ⟨_,_,_,_,o,_,_,e,_⟩:=x; exact Heap.lt_size e
 | dT kvs=>obtain ⟨_,_,_,_,o,_,_,e,_⟩:=x; exact Heap.lt_size e
 | set S n=>obtain ⟨o,_,_,_,e,_⟩:=x; exact Heap.lt_size e
 | ins C dx fs=>obtain ⟨_,_,_,e,_⟩:=x; exact Heap.lt_size e
 | own y=>obtain ⟨_,e⟩:=x; exact Heap.lt_size e
 | xd fs=>obtain ⟨_,⟨_,_,_,e,_⟩,_⟩:=x; exact Heap.lt_size e
 | rng lo hi=>obtain ⟨_,_,_,e⟩:=x; exact Heap.lt_size e
 | frz ob u=>obtain ⟨e,_⟩:=x; exact Heap.lt_size e
 | tbl ps=>exact Heap.lt_size (show h.get? a = some _ from x)
 | met f y=>exact Heap.lt_size (show h.get? a = some _ from x)
 | ext φ=>obtain ⟨_,⟨_,e⟩,_⟩:=x; exact Heap.lt_size e
theorem Paired.mapP {α β:Type} {F G:α→β→Prop}:∀ {l₁:List α} {l₂:List β},Paired F l₁ l₂→(∀ a b,F a b→G a b)→Paired G l₁ l₂
 | _,_,.nil,_=>.nil
 | _,_,.cons r t,f=>.cons (f _ _ r) (Paired.mapP t f)
theorem jb2.stay (x:jb2 P w H h a o) (k:∀ b u,(b = a ∨ H b = some (.own a))→h.get? b = some u→h'.get? b = some u)
  (ho:∀ b,H b = some (.own a)→H' b = some (.own a)) (ht:∀ b xs,H b = some (.tup xs)→H' b = some (.tup xs)):jb2 P w H' h' a o:=by
 induction o with
 | lst xs=>obtain ⟨z,its,n,r,e⟩:=x; exact ⟨z,its,n,r,k _ _ (.inl rfl) e⟩
 | tup xs=>obtain ⟨z,its,r,ob,e,c⟩:=x; exact ⟨z,its,r,ob,k _ _ (.inl rfl) e,c⟩
 | dK kvs=>obtain ⟨z,y,vs,r,ob,es,ep,e,c⟩:=x; exact ⟨z,y,vs,r,ob,es,ep,k _ _ (.inl rfl) e,c⟩
 | dT kvs =>
  obtain ⟨z,y,xs,r,ob,es,ep,e,c⟩:=x
  exact ⟨z,y,xs,Paired.mapP r fun p q z=>⟨z.1,ht _ _ z.2.1,z.2.2⟩,ob,es,ep,k _ _ (.inl rfl) e,c⟩
 | set S n=>obtain ⟨ob,es,ep,t,e,c⟩:=x; exact ⟨ob,es,ep,t,k _ _ (.inl rfl) e,c⟩
 | ins C dx fs =>
  obtain ⟨d,z,ne,e,mA,⟨od,es,ep,e2,c⟩,r⟩:=x
  exact ⟨ho _ d,z,ne,k _ _ (.inl rfl) e,mA,⟨od,es,ep,k _ _ (.inr d) e2,c⟩,r⟩
 | own y=>obtain ⟨ob,e⟩:=x; exact ⟨ob,k _ _ (.inl rfl) e⟩
 | xd fs=>obtain ⟨mA,⟨od,es,ep,e,c⟩,r⟩:=x; exact ⟨mA,⟨od,es,ep,k _ _ (.inl rfl) e,c⟩,r⟩
 | rng lo hi=>obtain ⟨t,u,v,e⟩:=x; exact ⟨t,u,v,k _ _ (.inl rfl) e⟩
 | frz ob u ih=>obtain ⟨e,q⟩:=x; exact ⟨k _ _ (.inl rfl) e,ih q⟩
 | tbl ps =>
  have e:h.get? a = some { cls:=.none,data:=.fields ps }:=x
  show h'.get? a = some { cls:=.none,data:=.fields ps }
  exact k a _ (.inl rfl) e
 | met f y =>
  have e:h.get? a = some (PySem.W.methodObj (.ref f) (.ref y)):=x
  show h'.get? a = some (PySem.W.methodObj (.ref f) (.ref y))
  exact k a _ (.inl rfl) e
 | ext φ=>obtain ⟨p,⟨o,e⟩,st⟩:=x; exact ⟨st _ _ p fun o q=>k _ _ (.inl rfl) q,⟨o,k _ _ (.inl rfl) e⟩,st⟩
theorem HOk.lt (x:HOk P w H h) (e:H a = some o):a < h.objs.size:=(x a o e).lt
theorem HOk.fresh (x:HOk P w H h) (e:h.objs.size ≤ a):H a = none:=by
 cases q:H a with
 | none=>rfl
 | some u=>exact absurd (Nat.lt_of_lt_of_le (x.lt q) e) (Nat.lt_irrefl _)
theorem HOk.kept (x:HOk P w H h) (k:∀ b u,h.get? b = some u→h'.get? b = some u):HOk P w H h':=fun a o e =>
 (x a o e).stay (fun b u _ q=>k b u q) (fun _ q=>q) fun _ _ q=>q
theorem HOk.laid (x:HOk P w H h) (k:∀ b u,h.get? b = some u→h'.get? b = some u) (hp:h.objs.size ≤ a) (new:jb2 P w (upd H a o) h' a o):HOk P w (upd H a o) h':=fun b u e=>by
 have hn:=x.fresh hp
 by_cases hb:b = a
 ·subst hb; rw [ja1] at e; cases e; exact new
 ·rw [ja7 hb] at e
  exact (x b u e).stay (fun c v _ q=>k c v q) (fun c q=>by rw [ja7 (ja9 q hn)]; exact q) fun c xs q=>by rw [ja7 (ja9 q hn)]; exact q
end
def Rd (H:Hp) (a:Addr) (u:HO):Prop:=H a = some u ∨ ∃ o,H a = some (.frz o u)
theorem Rd.of {H:Hp} {a:Addr} {u:HO} (h:H a = some u):Rd H a u:=.inl h
theorem Rd.ok {P:Program} {w:World} {H:Hp} {h:Heap} {a:Addr} {u:HO} (r:Rd H a u) (x:HOk P w H h):jb2 P w H h a u:=by
 rcases r with r | ⟨o,r⟩
 ·exact x a u r
 ·obtain ⟨_,q⟩:=x a _ r
  exact q
def Mut:Option HO→Prop
 | some (.lst _)=>True
 | some (.dK _)=>True
 | some (.dT _)=>True
 | some (.set _ _)=>True
 | some (.ins _ _ _)=>True
 | some (.ext _)=>True
 | _=>False
section
variable {P:Program} {w:World} {H:Hp} {h h':Heap} {x e:Addr} {o':HO}
theorem HOk.write (ok:HOk P w H h) (mu:Mut (H x)) (he:e = x ∨ H e = some (.own x)) (k:∀ b u,b ≠ e→h.get? b = some u→h'.get? b = some u) (heo:∃ u,h'.get? e = some u)
  (new:jb2 P w (upd H x o') h' x o'):HOk P w (upd H x o') h':=fun b u q=>by
 have nown:∀ c y,H c = some (.own y)→c ≠ x:=fun c y r z=>by subst z; rw [r] at mu; exact mu
 have ntup:∀ c xs,H c = some (.tup xs)→c ≠ x:=fun c xs r z=>by subst z; rw [r] at mu; exact mu
 by_cases hb:b = x
 ·subst hb; rw [ja1] at q; cases q; exact new
 ·rw [ja7 hb] at q
  by_cases hbe:b = e
  ·have q':H b = some (.own x):=by
    rcases he with z | z
    ·exact absurd (hbe.trans z) hb
    ·rw [hbe]; exact z
   rw [q] at q'; cases q'
   obtain ⟨v,hv⟩:=heo
   exact ⟨v,by rw [hbe]; exact hv⟩
  ·refine (ok b u q).stay (fun c v hc r=>k c v ?_ r) (fun c r=>by rw [ja7 (nown c b r)]; exact r) fun c xs r=>by rw [ja7 (ntup c xs r)]; exact r
   rcases hc with rfl | hc
   ·exact hbe
   ·rintro rfl
    rcases he with z | z
    ·exact nown c b hc z
    ·rw [hc] at z; cases z; exact hb rfl
end
structure Un (fs ex:List Addr) (H H':Hp) (h h':Heap):Prop where
 keep:∀ b o,h.get? b = some o→H b = none→b ∉ fs→b ∉ ex→h'.get? b = some o
 slot:∀ b o,h.get? b = some o→H b = none→b ∈ fs→b ∉ ex→∃ sl,h'.get? b = some { o with slots:=sl }
 free:∀ b o,h.get? b = some o→H b = none→b ∉ ex→H' b = none
 there:∀ b o,h.get? b = some o→b ∉ ex→∃ o',h'.get? b = some o'
 tups:∀ b xs,H b = some (.tup xs)→H' b = some (.tup xs)
 frzs:∀ b o u,H b = some (.frz o u)→H' b = some (.frz o u)
 tbls:∀ b ps,H b = some (.tbl ps)→∃ more,H' b = some (.tbl (ps ++ more))
section
variable {fs fs' ex ex':List Addr} {H H1 H2:Hp} {h h1 h2 h':Heap} {a x e:Addr} {o:HO}
theorem Un.any (u:Un fs ex H H1 h h1) {b:Addr} {ob:Obj} (q:h.get? b = some ob) (n:H b = none) (hx:b ∉ ex):∃ sl,h1.get? b = some { ob with slots:=sl }:=by
 by_cases hb:b ∈ fs
 ·exact u.slot b ob q n hb hx
 ·exact ⟨ob.slots,u.keep b ob q n hb hx⟩
theorem Un.trans (a:Un fs ex H H1 h h1) (b:Un fs ex H1 H2 h1 h2):Un fs ex H H2 h h2 where
 keep:=fun c ob q n hc hx=>b.keep c ob (a.keep c ob q n hc hx) (a.free c ob q n hx) hc hx
 slot:=fun c ob q n hc hx=>by
  obtain ⟨sl,e1⟩:=a.slot c ob q n hc hx
  obtain ⟨sl',e2⟩:=b.slot c _ e1 (a.free c ob q n hx) hc hx
  exact ⟨sl',e2⟩
 free:=fun c ob q n hx=>by
  obtain ⟨o',e1⟩:=a.there c ob q hx
  exact b.free c o' e1 (a.free c ob q n hx) hx
 there:=fun c ob q hx=>by
  obtain ⟨o',e1⟩:=a.there c ob q hx
  exact b.there c o' e1 hx
 tups:=fun c xs q=>b.tups c xs (a.tups c xs q)
 frzs:=fun c ob xs q=>b.frzs c ob xs (a.frzs c ob xs q)
 tbls:=fun c ps q=>by
  obtain ⟨m1,e1⟩:=a.tbls c ps q
  obtain ⟨m2,e2⟩:=b.tbls c _ e1
  exact ⟨m1 ++ m2,by rw [e2,Array.append_assoc]⟩
theorem Un.kept (k:∀ b u,h.get? b = some u→h'.get? b = some u):Un fs ex H H h h' :=
 ⟨fun b ob q _ _ _=>k b ob q,fun b ob q _ _ _=>⟨ob.slots,k b ob q⟩,fun _ _ _ n _=>n,fun b ob q _=>⟨ob,k b ob q⟩,fun _ _ q=>q,fun _ _ _ q=>q,fun _ ps q=>⟨#[],by rw [q]; simp⟩⟩
theorem Un.refl:Un fs ex H H h h:=Un.kept fun _ _ q=>q
theorem Un.laid (k:∀ b u,h.get? b = some u→h'.get? b = some u) (hp:h.objs.size ≤ a) (hn:H a = none):Un fs ex H (upd H a o) h h' where
 keep:=fun b u q _ _ _=>k b u q
 slot:=fun b u q _ _ _=>⟨u.slots,k b u q⟩
 free:=fun b u q n _=>by rw [ja7 (Nat.ne_of_lt (Nat.lt_of_lt_of_le (Heap.lt_size q) hp))]; exact n
 there:=fun b u q _=>⟨u,k b u q⟩
 tups:=fun b xs q=>by rw [ja7 (ja9 q hn)]; exact q
 frzs:=fun b u xs q=>by rw [ja7 (ja9 q hn)]; exact q
 tbls:=fun b ps q=>⟨#[],by rw [ja7 (ja9 q hn),q]; simp⟩
theorem Un.write (mu:Mut (H x)) (he:e = x ∨ H e = some (.own x)) (k:∀ b u,b ≠ e→h.get? b = some u→h'.get? b = some u) (heo:∃ u,h'.get? e = some u):Un fs ex H (upd H x o) h h':=by
 have hx:∀ b,H b = none→b ≠ x:=fun b n z=>by subst z; rw [n] at mu; exact mu
 have hb:∀ b,H b = none→b ≠ e:=fun b n z=>by
  subst z
  rcases he with r | r
  ·exact hx b n r
  ·rw [n] at r; cases r
 have hm:∀ b u,H b = some u→¬ Mut (some u)→b ≠ x:=fun b u q nm z=>by subst z; rw [q] at mu; exact nm mu
 refine ⟨fun b u q n _ _=>k b u (hb b n) q,fun b u q n _ _=>⟨u.slots,k b u (hb b n) q⟩,fun b u q n _=>by rw [ja7 (hx b n)]; exact n,fun b u q _=>?_,
  fun b xs q=>by rw [ja7 (hm b _ q fun z=>z)]; exact q,fun b u xs q=>by rw [ja7 (hm b _ q fun z=>z)]; exact q,fun b ps q=>⟨#[],by rw [ja7 (hm b _ q fun z=>z),q]; simp⟩⟩
 by_cases hbe:b = e
 ·subst hbe; exact heo
 ·exact ⟨u,k b u hbe q⟩
theorem Un.mono (u:Un fs ex H H1 h h1) (hs:∀ b ∈ fs,b ∈ fs') (hx:∀ b ∈ ex,b ∈ ex'):Un fs' ex' H H1 h h1 :=
 ⟨fun b ob q n hb he=>u.keep b ob q n (fun z=>hb (hs b z)) fun z=>he (hx b z),fun _ _ q n _ he=>u.any q n fun z=>he (hx _ z),fun b ob q n he=>u.free b ob q n fun z=>he (hx b z),fun b ob q he=>u.there b ob q fun z=>he (hx b z),u.tups,u.frzs,u.tbls⟩
end
def trk (h:Heap) (H:Hp):List Addr:=(List.range h.objs.size).filter fun a=>(H a).isSome
def hidT (h:Heap) (H:Hp):Heap:=PySem.W.hideAll h (trk h H)
theorem jny (h:Heap) (H:Hp):(hidT h H).objs.size = h.objs.size:=PySem.W.hideAll_size _ _
theorem jpk {h:Heap} {H:Hp} {b:Addr} {o:Obj} (e:h.get? b = some o) (n:H b = none):(hidT h H).get? b = some o :=
 PySem.W.hideAll_get _ e fun hm=>by
  have q:(H b).isSome = true:=(List.mem_filter.mp hm).2
  rw [n] at q; simp at q
theorem jqx {h:Heap} {H:Hp} {b:Addr} {o:Obj} (e:(hidT h H).get? b = some o):h.get? b = some o∧H b = none:=by
 have e':h.get? b = some o:=PySem.W.of_hideAll (trk h H) e
 refine ⟨e',?_⟩
 cases q:H b with
 | none=>rfl
 | some x =>
  have hm:b ∈ trk h H:=List.mem_filter.mpr ⟨List.mem_range.mpr (Heap.lt_size e'),by simp [q]⟩
  have z:(hidT h H).get? b = none:=PySem.W.hideAll_none (trk h H) hm
  rw [z] at e; cases e
end L2
namespace L2
open PySem PySem.Spec PyProof.Rows
structure Mod (K:PySem.W.Frag) (mg:Str→Option Value) (base:Heap):Prop where
 kin:K.In base
 glob:base.Ns mainGlobals mg
 blt:∃ mb,base.Ns builtinsNs mb∧∀ x:Str,x ≠ "__name__"→mb x = bootBuiltins x
 nolimit:base.NoLimit
structure Cx where
 prog:Program
 w:World
 K:PySem.W.Frag
 mg:Str→Option Value
 base:Heap
 A:Around
 N:List Str
 s₀:Shared
 H₀:Hp
 env:Env
 outer:List Env
 stack:List Env
 ex:List Addr
 fn:Str→Bool
 calm:Bool
 pn:List (Addr × Obj)
 xe:Value→Shared→Prop
def frs (l:List Env):List Addr:=l.filterMap (·.frame)
abbrev Cx.fs (X:Cx):List Addr:=frs X.outer
def Vis (sc:Scope) (x:Str):Prop:=sc.names.lookup x = some .local ∨ sc.names.lookup x = some .cell ∨ sc.names.lookup x = some .free
def Loc (sc:Scope) (x:Str):Prop:=sc.names.lookup x = some .local ∨ sc.names.lookup x = some .cell
def Look (env:Env) (h:Heap) (m:Str→Option Value) (x:Str) (u:Value):Prop :=
 (env.kindOf x = some .local∧m x = some u) ∨ ((env.kindOf x = some .cell ∨ env.kindOf x = some .free)∧∃ c,env.cells.lookup x = some c∧h.IsCell c (some u))
structure Cx.Ok (X:Cx):Prop where
 mod:Mod X.K X.mg X.base
 kind:X.env.scope.kind = .function
 glob:X.env.globals = mainGlobals
 blt:X.env.builtins = builtinsNs
 above:X.s₀.heap.objs.size ≤ X.env.locals
 inj:∀ x y c,X.env.cells.lookup x = some c→X.env.cells.lookup y = some c→x = y
 has:∀ x,(X.env.kindOf x = some .cell ∨ X.env.kindOf x = some .free)→∃ c,X.env.cells.lookup x = some c
 cab:∀ x c,X.fn x = true→X.env.cells.lookup x = some c→X.s₀.heap.objs.size ≤ c
 hd:X.calm = true→X.A.handled = none
 frames:X.A.frames = some X.stack
 stk:X.stack = X.outer ∨ (X.stack = X.env :: X.outer∧X.env.frame = some X.env.locals)
 exf:∀ b ∈ X.ex,b ≠ X.env.locals∧∀ x c,X.env.cells.lookup x = some c→c ≠ b
 bs:∀ b o,X.base.get? b = some o→X.s₀.heap.get? b = some o∧X.H₀ b = none
 bsz:X.base.objs.size ≤ X.s₀.heap.objs.size
 noex:∀ b o,X.base.get? b = some o→b ∉ X.ex
 exfs:∀ b ∈ X.ex,b ∉ X.fs
 funs:X.s₀.heap.FunFrames X.base X.outer
 frf:∀ b ∈ X.fs,X.H₀ b = none
structure Inv (X:Cx) (pins:List (Addr × Obj)) (σ:List (Option V)) (H:Hp) (s:Shared):Prop where
 ok:X.Ok
 os:s.os = X.s₀.os
 bare:AllBare s.gens
 base:Un X.fs X.ex X.H₀ H X.s₀.heap s.heap
 loc:∃ m,s.heap.Ns X.env.locals m∧∀ (i:Nat) (x:Str) (v:V),X.N[i]? = some x→σ[i]? = some (some v)→Vis X.env.scope x→∃ u,RelV v u∧Look X.env s.heap m x u
 cell:∀ x c,X.env.cells.lookup x = some c→∃ v,s.heap.IsCell c v
 free:H X.env.locals = none
 freeC:∀ x c,X.env.cells.lookup x = some c→H c = none
 pin:∀ p ∈ X.pn ++ pins,s.heap.get? p.1 = some p.2∧H p.1 = none∧p.1 ≠ X.env.locals∧p.1 ∉ X.fs∧∀ v,p.2.data ≠ .cell v
 hok:HOk X.prog X.w H s.heap
 len:σ.length = X.N.length
section
variable {X:Cx} {pins:List (Addr × Obj)} {σ:List (Option V)} {H H':Hp} {s:Shared} {h':Heap}
theorem Cx.Ok.nofr (ok:X.Ok) {b:Addr} {o:Obj} (e:X.base.get? b = some o):b ∉ X.fs:=fun hb=>by
 have:=(ok.funs.mem hb).1
 rw [e] at this; cases this
theorem Inv.bs (I:Inv X pins σ H s):∀ b o,X.base.get? b = some o→s.heap.get? b = some o∧H b = none:=fun b o e =>
 ⟨I.base.keep b o (I.ok.bs b o e).1 (I.ok.bs b o e).2 (I.ok.nofr e) (I.ok.noex b o e),I.base.free b o (I.ok.bs b o e).1 (I.ok.bs b o e).2 (I.ok.noex b o e)⟩
theorem Inv.bk (I:Inv X pins σ H s):∀ b o,X.base.get? b = some o→s.heap.get? b = some o:=fun b o e=>(I.bs b o e).1
theorem Inv.mod (I:Inv X pins σ H s):Mod X.K X.mg X.base:=I.ok.mod
theorem Inv.kIn (I:Inv X pins σ H s):X.K.In s.heap:=I.ok.mod.kin.keeps I.bk
theorem Inv.lt (I:Inv X pins σ H s):X.env.locals < s.heap.objs.size:=let ⟨_,hn,_⟩:=I.loc; hn.lt
theorem Inv.sz (I:Inv X pins σ H s):X.s₀.heap.objs.size ≤ s.heap.objs.size:=Nat.le_trans I.ok.above (Nat.le_of_lt I.lt)
theorem Inv.nofs (I:Inv X pins σ H s) {a:Addr} (h:s.heap.objs.size ≤ a):a ∉ X.fs:=fun hb=>by
 obtain ⟨_,o,ho,_⟩:=I.ok.funs.mem hb
 exact absurd (Nat.lt_of_lt_of_le (Heap.lt_size ho) (Nat.le_trans I.sz h)) (Nat.lt_irrefl _)
theorem Inv.cne (I:Inv X pins σ H s):∀ x c,X.env.cells.lookup x = some c→c ≠ X.env.locals:=fun x c e z=>by
 obtain ⟨v,o,ho,hd⟩:=I.cell x c e
 obtain ⟨m,⟨o',es,ep,ho',hd',_⟩,_⟩:=I.loc
 rw [z,ho'] at ho; cases ho; rw [hd'] at hd; cases hd
theorem Inv.funs (I:Inv X pins σ H s):s.heap.FunFrames X.base X.outer:=by
 have all:∀ (l:List Env),(∀ b ∈ frs l,b ∈ X.fs)→X.s₀.heap.FunFrames X.base l→s.heap.FunFrames X.base l:=by
  intro l
  induction l with
  | nil=>intro _ _; trivial
  | cons env r ih =>
   intro hs hl
   obtain ⟨hk,⟨L,o,hf,hn,ho,hd⟩,hr⟩:=hl
   have hL:L ∈ X.fs:=hs L (by unfold frs; rw [List.filterMap_cons,hf]; exact List.mem_cons_self)
   obtain ⟨sl,e⟩:=I.base.slot L o ho (I.ok.frf L hL) hL fun z=>I.ok.exfs L z hL
   exact ⟨hk,⟨L,_,hf,hn,e,hd⟩,ih (fun b hb=>hs b (by unfold frs; rw [List.filterMap_cons,hf]; exact List.mem_cons_of_mem _ hb)) hr⟩
 exact all X.outer (fun _ hb=>hb) I.ok.funs
theorem Inv.stack (I:Inv X pins σ H s):s.heap.FunFrames X.base X.stack:=by
 rcases I.ok.stk with e | ⟨e,hf⟩
 ·rw [e]; exact I.funs
 ·rw [e]
  obtain ⟨m,hn,_⟩:=I.loc
  refine .cons (by rw [I.ok.kind]; decide) hf hn ?_ I.funs
  exact Heap.get?_none_of_le (Nat.le_trans I.ok.bsz I.ok.above)
theorem Inv.stkSub (I:Inv X pins σ H s):∀ b ∈ frs X.stack,b ∈ X.env.locals :: X.fs:=fun b hb=>by
 rcases I.ok.stk with e | ⟨e,hf⟩
 ·rw [e] at hb; exact List.mem_cons_of_mem _ hb
 ·rw [e] at hb
  unfold frs at hb
  rw [List.filterMap_cons,hf] at hb
  exact hb
theorem Inv.stkFree (I:Inv X pins σ H s):∀ b ∈ frs X.stack,H b = none:=fun b hb=>by
 rcases List.mem_cons.mp (I.stkSub b hb) with e | hb
 ·rw [e]; exact I.free
 ·obtain ⟨_,o,ho,_⟩:=I.ok.funs.mem hb
  exact I.base.free b o ho (I.ok.frf b hb) fun z=>I.ok.exfs b z hb
theorem Inv.step {g':Array GenState} {t':Nat} {d':Drawn} {ch:List Addr} (I:Inv X pins σ H s)
  (hch:∀ b ∈ ch,(b ∈ X.ex ∨ X.s₀.heap.objs.size ≤ b)∧b ≠ X.env.locals∧(∀ x c,X.env.cells.lookup x = some c→c ≠ b)∧∀ p ∈ X.pn ++ pins,p.1 ≠ b)
  (keep:∀ b o,b ≠ X.env.locals→b ∉ X.fs→b ∉ ch→s.heap.get? b = some o→H b = none→h'.get? b = some o)
  (slot:∀ b o,b ≠ X.env.locals→b ∈ X.fs→b ∉ ch→s.heap.get? b = some o→H b = none→∃ sl,h'.get? b = some { o with slots:=sl }) (free:∀ b o,b ∉ ch→s.heap.get? b = some o→H b = none→H' b = none)
  (there:∀ b o,b ∉ ch→s.heap.get? b = some o→∃ o',h'.get? b = some o')
  (tups:∀ b xs,H b = some (.tup xs)→H' b = some (.tup xs)) (frzs:∀ b o u,H b = some (.frz o u)→H' b = some (.frz o u)) (tbls:∀ b ps,H b = some (.tbl ps)→∃ more,H' b = some (.tbl (ps ++ more)))
  (ns:∀ m,s.heap.Ns X.env.locals m→h'.Ns X.env.locals m) (hok:HOk X.prog X.w H' h') (hg:AllBare g') :
  Inv X pins σ H' { s with heap:=h',gens:=g',drawn:=d',toks:=t' }:=by
 have neL:∀ b o,X.s₀.heap.get? b = some o→b ≠ X.env.locals:=fun b o e=>Nat.ne_of_lt (Nat.lt_of_lt_of_le (Heap.lt_size e) I.ok.above)
 have neC:∀ b o,X.s₀.heap.get? b = some o→b ∉ X.ex→b ∉ ch:=fun b o e hx hb=>by
  rcases (hch b hb).1 with z | z
  ·exact hx z
  ·exact absurd (Nat.lt_of_lt_of_le (Heap.lt_size e) z) (Nat.lt_irrefl _)
 have cellK:∀ x c,X.env.cells.lookup x = some c→∀ v,s.heap.IsCell c v→h'.IsCell c v:=fun x c e v ⟨o,ho,hd⟩=>by
  have nch:c ∉ ch:=fun z=>(hch c z).2.2.1 x c e rfl
  by_cases hc:c ∈ X.fs
  ·obtain ⟨sl,q⟩:=slot c o (I.cne x c e) hc nch ho (I.freeC x c e)
   exact ⟨_,q,hd⟩
  ·exact ⟨o,keep c o (I.cne x c e) hc nch ho (I.freeC x c e),hd⟩
 refine ⟨I.ok,I.os,hg,⟨fun b o e n hb hx=>?_,fun b o e n hb hx=>?_,fun b o e n hx=>?_,fun b o e hx=>?_,fun b xs e=>tups b xs (I.base.tups b xs e),fun b o xs e=>frzs b o xs (I.base.frzs b o xs e),fun b ps e=>?_⟩,?_,fun x c e=>?_,?_,fun x c e=>?_,fun p hp=>?_,hok,I.len⟩
 ·exact keep b o (neL b o e) hb (neC b o e hx) (I.base.keep b o e n hb hx) (I.base.free b o e n hx)
 ·obtain ⟨sl,e1⟩:=I.base.slot b o e n hb hx
  obtain ⟨sl',e2⟩:=slot b _ (neL b o e) hb (neC b o e hx) e1 (I.base.free b o e n hx)
  exact ⟨sl',e2⟩
 ·obtain ⟨o',e1⟩:=I.base.there b o e hx
  exact free b o' (neC b o e hx) e1 (I.base.free b o e n hx)
 ·obtain ⟨o',e1⟩:=I.base.there b o e hx
  exact there b o' (neC b o e hx) e1
 ·obtain ⟨m1,e1⟩:=I.base.tbls b ps e
  obtain ⟨m2,e2⟩:=tbls b _ e1
  exact ⟨m1 ++ m2,by rw [e2,Array.append_assoc]⟩
 ·obtain ⟨m,hn,hl⟩:=I.loc
  refine ⟨m,ns m hn,fun i x v e1 e2 e3=>?_⟩
  obtain ⟨u,r,l⟩:=hl i x v e1 e2 e3
  refine ⟨u,r,?_⟩
  rcases l with l | ⟨k,c,e,z⟩
  ·exact .inl l
  ·exact .inr ⟨k,c,e,cellK x c e _ z⟩
 ·obtain ⟨v,z⟩:=I.cell x c e
  exact ⟨v,cellK x c e v z⟩
 ·obtain ⟨m,⟨o,_,_,ho,_⟩,_⟩:=I.loc
  exact free _ o (fun z=>(hch _ z).2.1 rfl) ho I.free
 ·obtain ⟨v,o,ho,hd⟩:=I.cell x c e
  exact free c o (fun z=>(hch c z).2.2.1 x c e rfl) ho (I.freeC x c e)
 ·obtain ⟨e,n,ne,nf,d⟩:=I.pin p hp
  have nch:p.1 ∉ ch:=fun z=>(hch p.1 z).2.2.2 p hp rfl
  exact ⟨keep p.1 p.2 ne nf nch e n,free p.1 p.2 nch e n,ne,nf,d⟩
theorem Inv.un {t':Nat} (I:Inv X pins σ H s) (u:Un X.fs [] H H' s.heap h') (hok:HOk X.prog X.w H' h'):Inv X pins σ H' { s with heap:=h',toks:=t' }:=by
 obtain ⟨m,⟨o,es,ep,ho,r⟩,_⟩:=id I.loc
 obtain ⟨sl,hL⟩:=u.any ho I.free (by simp)
 exact I.step (g':=s.gens) (d':=s.drawn) (ch:=[]) (fun _ z=>nomatch z) (fun b o _ hb _ e n=>u.keep b o e n hb (by simp)) (fun b o _ hb _ e n=>u.slot b o e n hb (by simp)) (fun b o _ e n=>u.free b o e n (by simp)) (fun b o _ e=>u.there b o e (by simp)) u.tups u.frzs u.tbls (fun m' hm=>by
  obtain ⟨o',es',ep',ho',r'⟩:=hm
  rw [ho] at ho'; cases ho'
  exact ⟨_,es',ep',hL,r'⟩) hok I.bare
theorem Inv.call {g':Array GenState} {t':Nat} {d':Drawn} {ch:List Addr} (I:Inv X pins σ H s) (u:Un (frs X.stack) ch H H' s.heap h') (hok:HOk X.prog X.w H' h') (hg:AllBare g')
  (hch:∀ b ∈ ch,(b ∈ X.ex ∨ X.s₀.heap.objs.size ≤ b)∧b ≠ X.env.locals∧(∀ x c,X.env.cells.lookup x = some c→c ≠ b)∧∀ p ∈ X.pn ++ pins,p.1 ≠ b) :
  Inv X pins σ H' { s with heap:=h',gens:=g',drawn:=d',toks:=t' }:=by
 obtain ⟨m,⟨o,es,ep,ho,r⟩,_⟩:=id I.loc
 obtain ⟨sl,hL⟩:=u.any ho I.free fun z=>(hch _ z).2.1 rfl
 exact I.step (ch:=ch) hch (fun b o hL hb hc e n=>u.keep b o e n (fun z=>(List.mem_cons.mp (I.stkSub b z)).elim hL hb) hc) (fun b o _ _ hc e n=>u.any e n hc) (fun b o hc e n=>u.free b o e n hc) (fun b o hc e=>u.there b o e hc) u.tups u.frzs u.tbls (fun m' hm=>by
  obtain ⟨o',es',ep',ho',r'⟩:=hm
  rw [ho] at ho'; cases ho'
  exact ⟨_,es',ep',hL,r'⟩) hok hg
theorem Inv.turned {t':Nat} {it:Addr} (I:Inv X pins σ H s) (k:∀ b o,b ≠ it→s.heap.get? b = some o→h'.get? b = some o) (hn:H it = none) (hL:it ≠ X.env.locals)
  (h1:it ∈ X.ex ∨ X.s₀.heap.objs.size ≤ it) (h2:∀ x c,X.env.cells.lookup x = some c→c ≠ it) (h3:∀ p ∈ X.pn ++ pins,p.1 ≠ it):Inv X pins σ H { s with heap:=h',toks:=t' }:=by
 have nit:∀ b u,H b = some u→b ≠ it:=fun b u e z=>by rw [z,hn] at e; cases e
 refine I.step (g':=s.gens) (d':=s.drawn) (ch:=[it]) (fun b hb=>?_) (fun b o _ _ hc e _=>k b o (fun z=>hc (by simp [z])) e) (fun b o _ _ hc e _=>⟨o.slots,k b o (fun z=>hc (by simp [z])) e⟩) (fun _ _ _ _ n=>n)
  (fun b o hc e=>⟨o,k b o (fun z=>hc (by simp [z])) e⟩) (fun _ _ e=>e) (fun _ _ _ e=>e) (fun b ps e=>⟨#[],by rw [e]; simp⟩) (fun m hm=>?_) (fun b u e=>?_) I.bare
 ·have e:b = it:=by simpa using hb
  subst e
  exact ⟨h1,hL,h2,h3⟩
 ·obtain ⟨o,es,ep,ho,r⟩:=hm
  exact ⟨o,es,ep,k _ o (Ne.symm hL) ho,r⟩
 ·refine (I.hok b u e).stay (fun c v hc q=>k c v ?_ q) (fun _ q=>q) fun _ _ q=>q
  rcases hc with z | z
  ·rw [z]; exact nit b u e
  ·exact nit c _ z
theorem Inv.tok (I:Inv X pins σ H s) (t:Nat):Inv X pins σ H { s with toks:=t }:=I.un (h':=s.heap) (t':=t) Un.refl I.hok
theorem Inv.kept {t':Nat} (I:Inv X pins σ H s) (k:∀ b u,s.heap.get? b = some u→h'.get? b = some u):Inv X pins σ H { s with heap:=h',toks:=t' }:=I.un (Un.kept k) (I.hok.kept k)
theorem Inv.laid {a:Addr} {o:HO} {t':Nat} (I:Inv X pins σ H s) (k:∀ b u,s.heap.get? b = some u→h'.get? b = some u) (hp:s.heap.objs.size ≤ a) (new:jb2 X.prog X.w (upd H a o) h' a o) :
  Inv X pins σ (upd H a o) { s with heap:=h',toks:=t' }:=I.un (Un.laid k hp (I.hok.fresh hp)) (I.hok.laid k hp new)
theorem Inv.write {x e:Addr} {o:HO} {t':Nat} (I:Inv X pins σ H s) (mu:Mut (H x)) (he:e = x ∨ H e = some (.own x)) (k:∀ b u,b ≠ e→s.heap.get? b = some u→h'.get? b = some u) (heo:∃ u,h'.get? e = some u)
  (new:jb2 X.prog X.w (upd H x o) h' x o):Inv X pins σ (upd H x o) { s with heap:=h',toks:=t' }:=I.un (Un.write mu he k heo) (I.hok.write mu he k heo new)
theorem Inv.pins_of {pins':List (Addr × Obj)} (I:Inv X pins σ H s) (h:∀ p ∈ pins',s.heap.get? p.1 = some p.2∧H p.1 = none∧p.1 ≠ X.env.locals∧p.1 ∉ X.fs∧∀ v,p.2.data ≠ .cell v):Inv X pins' σ H s :=
 ⟨I.ok,I.os,I.bare,I.base,I.loc,I.cell,I.free,I.freeC,fun p hp=>(List.mem_append.mp hp).elim (fun z=>I.pin p (List.mem_append_left _ z)) (h p),I.hok,I.len⟩
theorem jgr {N:List Str} (hN:N.Nodup) {i j:Nat} {x:Str} (a:N[i]? = some x) (b:N[j]? = some x):i = j:=by
 obtain ⟨h1,e1⟩:=List.getElem?_eq_some_iff.mp a
 obtain ⟨h2,e2⟩:=List.getElem?_eq_some_iff.mp b
 exact (List.getElem_inj hN).mp (e1.trans e2.symm)
theorem jhq {M:Model} {A:Around} {E:Value→Shared→Prop} {i:Nat} {x:Str} {v:V} {u:Value} {Q:Unit→Shared→Prop} (I:Inv X pins σ H s) (hN:X.N.Nodup) (hi:X.N[i]? = some x) (hx:Loc X.env.scope x) (r:RelV v u)
  (h:∀ s',Inv X pins (σ.set i (some v)) H s'→(∃ a,Heap.SameBut a s.heap s'.heap∧(a = X.env.locals ∨ X.env.cells.lookup x = some a))→Q () s') (hf:X.fn x = true ∨ X.env.scope.names.lookup x = some .local:=by first | exact .inl rfl | exact .inr rfl | assumption):wpAny M A (storeName X.env x u) Q E s:=by
 obtain ⟨m,hn,hl⟩:=id I.loc
 have hcls:(X.env.scope.kind == .class || (X.env.scope.kind == .module && X.env.locals != X.env.globals)) = false:=by rw [I.ok.kind]; rfl
 have hiσ:i < σ.length:=by rw [I.len]; exact (List.getElem?_eq_some_iff.mp hi).1
 have cne:=I.cne
 have tracked:∀ {a:Addr} {h':Heap},(∃ o,s.heap.get? a = some o∧H a = none)→Heap.SameBut a s.heap h'→HOk X.prog X.w H h':=fun {a h'} ha hs b ob e=>by
  obtain ⟨_,_,hfree⟩:=ha
  refine (I.hok b ob e).stay (fun c w' hc q=>(hs.2 c ?_).trans q) (fun _ q=>q) fun _ _ q=>q
  rintro rfl
  rcases hc with rfl | hc
  ·rw [hfree] at e; cases e
  ·rw [hfree] at hc; cases hc
 rcases hx with hk | hk
 ·refine wpAny_storeName_local hk hn (fun h' hn' hs=>?_) hcls
  obtain ⟨oL,_,_,hoL,_⟩:=id hn
  refine h _ ⟨I.ok,I.os,I.bare,⟨fun b o e n hb hx=>?_,fun b o e n hb hx=>?_,I.base.free,fun b o e hx=>?_,I.base.tups,I.base.frzs,I.base.tbls⟩,⟨_,hn',fun j y v' e1 e2 e3=>?_⟩,fun y c e=>?_,I.free,I.freeC,fun p hp=>?_,tracked ⟨oL,hoL,I.free⟩ hs,by simpa using I.len⟩ ⟨_,hs,.inl rfl⟩
  ·exact (hs.2 b (Nat.ne_of_lt (Nat.lt_of_lt_of_le (Heap.lt_size e) I.ok.above))).trans (I.base.keep b o e n hb hx)
  ·obtain ⟨sl,e1⟩:=I.base.slot b o e n hb hx
   exact ⟨sl,(hs.2 b (Nat.ne_of_lt (Nat.lt_of_lt_of_le (Heap.lt_size e) I.ok.above))).trans e1⟩
  ·obtain ⟨o',e1⟩:=I.base.there b o e hx
   exact ⟨o',(hs.2 b (Nat.ne_of_lt (Nat.lt_of_lt_of_le (Heap.lt_size e) I.ok.above))).trans e1⟩
  ·by_cases hj:j = i
   ·subst hj
    rw [hi] at e1; cases e1
    rw [List.getElem?_set_self hiσ] at e2
    cases e2
    exact ⟨u,r,.inl ⟨hk,by simp⟩⟩
   ·rw [List.getElem?_set_ne (Ne.symm hj)] at e2
    obtain ⟨u',r',q⟩:=hl j y v' e1 e2 e3
    refine ⟨u',r',?_⟩
    rcases q with ⟨k,e⟩ | ⟨k,c,e,z⟩
    ·refine .inl ⟨k,?_⟩
     have:y ≠ x:=fun e=>hj (jgr hN e1 (e ▸ hi))
     simp [this,e]
    ·exact .inr ⟨k,c,e,z.sameBut hs (cne y c e)⟩
  ·obtain ⟨w',z⟩:=I.cell y c e
   exact ⟨w',z.sameBut hs (cne y c e)⟩
  ·obtain ⟨e,n,ne,nf,d⟩:=I.pin p hp
   exact ⟨(hs.2 p.1 ne).trans e,n,ne,nf,d⟩
 ·have hfn:X.fn x = true:=by
   rcases hf with z | z
   ·exact z
   ·rw [z] at hk; cases hk
  obtain ⟨c,hc⟩:=I.ok.has x (.inl hk)
  obtain ⟨w',z⟩:=I.cell x c hc
  refine wpAny_storeName_cell I.ok.kind hk hc z (fun h' hc' hs=>?_)
  obtain ⟨oc,hoc,hocd⟩:=id z
  refine h { s with heap:=h' } ⟨I.ok,I.os,I.bare,⟨fun b o e n hb hx=>?_,fun b o e n hb hx=>?_,I.base.free,fun b o e hx=>?_,I.base.tups,I.base.frzs,I.base.tbls⟩,⟨m,hn.sameBut hs (Ne.symm (cne x c hc)),fun j y v' e1 e2 e3=>?_⟩,fun y c' e=>?_,I.free,I.freeC,fun p hp=>?_,tracked ⟨oc,hoc,I.freeC x c hc⟩ hs,by simpa using I.len⟩ ⟨c,hs,.inr hc⟩
  ·exact (hs.2 b (Nat.ne_of_lt (Nat.lt_of_lt_of_le (Heap.lt_size e) (I.ok.cab x c hfn hc)))).trans (I.base.keep b o e n hb hx)
  ·obtain ⟨sl,e1⟩:=I.base.slot b o e n hb hx
   exact ⟨sl,(hs.2 b (Nat.ne_of_lt (Nat.lt_of_lt_of_le (Heap.lt_size e) (I.ok.cab x c hfn hc)))).trans e1⟩
  ·obtain ⟨o',e1⟩:=I.base.there b o e hx
   exact ⟨o',(hs.2 b (Nat.ne_of_lt (Nat.lt_of_lt_of_le (Heap.lt_size e) (I.ok.cab x c hfn hc)))).trans e1⟩
  ·by_cases hj:j = i
   ·subst hj
    rw [hi] at e1; cases e1
    rw [List.getElem?_set_self hiσ] at e2
    cases e2
    exact ⟨u,r,.inr ⟨.inl hk,c,hc,hc'⟩⟩
   ·rw [List.getElem?_set_ne (Ne.symm hj)] at e2
    obtain ⟨u',r',q⟩:=hl j y v' e1 e2 e3
    refine ⟨u',r',?_⟩
    rcases q with q | ⟨k,c',e,z'⟩
    ·exact .inl q
    ·refine .inr ⟨k,c',e,z'.sameBut hs ?_⟩
     rintro rfl
     exact hj (jgr hN e1 (I.ok.inj _ _ _ e hc ▸ hi))
  ·by_cases hcc:c' = c
   ·subst hcc; exact ⟨_,hc'⟩
   ·obtain ⟨w2,z2⟩:=I.cell y c' e
    exact ⟨w2,z2.sameBut hs hcc⟩
  ·obtain ⟨e,n,ne,nf,d⟩:=I.pin p hp
   refine ⟨(hs.2 p.1 ?_).trans e,n,ne,nf,d⟩
   intro q
   rw [q,hoc] at e
   have q':oc = p.2:=Option.some.inj e
   exact d w' (by rw [← q']; exact hocd)
theorem jea {M:Model} {A:Around} {E:Value→Shared→Prop} {i:Nat} {x:Str} {v:V} {u:Value} {Q:Unit→Shared→Prop} (I:Inv X pins σ H s) (hN:X.N.Nodup) (hi:X.N[i]? = some x) (hx:Loc X.env.scope x) (r:RelV v u)
  (h:∀ s',Inv X pins (σ.set i (some v)) H s'→Q () s') (hf:X.fn x = true ∨ X.env.scope.names.lookup x = some .local:=by first | exact .inl rfl | exact .inr rfl | assumption):wpAny M A (storeName X.env x u) Q E s :=
 jhq I hN hi hx r (fun s' I' _=>h s' I') hf
theorem Inv.call' {s':Shared} {ch:List Addr} (I:Inv X pins σ H s) (ho:s'.os = s.os) (u:Un (frs X.stack) ch H H' s.heap s'.heap) (hok:HOk X.prog X.w H' s'.heap) (hg:AllBare s'.gens)
  (hch:∀ b ∈ ch,(b ∈ X.ex ∨ X.s₀.heap.objs.size ≤ b)∧b ≠ X.env.locals∧(∀ x c,X.env.cells.lookup x = some c→c ≠ b)∧∀ p ∈ X.pn ++ pins,p.1 ≠ b):Inv X pins σ H' s':=by
 obtain ⟨h',g',d',t',o'⟩:=s'
 have e:o' = s.os:=ho
 subst e
 exact I.call (g':=g') (t':=t') (d':=d') u hok hg hch
end
abbrev XK:=Value→Option Addr→Hp→Prop
abbrev St:=List (Option V)
abbrev VK:=V→Hp→Prop
abbrev TE:=St→Hp→VK→Prop
abbrev TT:=St→Hp→(Bool→Hp→Prop)→Prop
abbrev TA:=St→Hp→(List V→Hp→Prop)→Prop
structure Ends where
 nx:St→Hp→Prop
 rt:VK
 bk:St→Hp→Prop:=fun _ _=>False
 ct:St→Hp→Prop:=fun _ _=>False
abbrev TS:=Ends→St→Hp→Prop
def EP (X:Cx) (pins:List (Addr × Obj)) (σ:St) (Q:VK) (u:Value) (s':Shared):Prop:=∃ v H',Inv X pins σ H' s'∧RelV v u∧Q v H'
def TP (X:Cx) (pins:List (Addr × Obj)) (σ:St) (Q:Bool→Hp→Prop) (b:Bool) (s':Shared):Prop:=∃ H',Inv X pins σ H' s'∧Q b H'
def AP (X:Cx) (pins:List (Addr × Obj)) (σ:St) (Q:List V→Hp→Prop) (us:List Value) (s':Shared):Prop:=∃ vs H',Inv X pins σ H' s'∧Vals vs us∧Q vs H'
def SP (X:Cx) (pins:List (Addr × Obj)) (D:Ends) (f:Flow) (s':Shared):Prop :=
 match f with
 | .next=>∃ σ' H',Inv X pins σ' H' s'∧D.nx σ' H'
 | .brk=>∃ σ' H',Inv X pins σ' H' s'∧D.bk σ' H'
 | .cont=>∃ σ' H',Inv X pins σ' H' s'∧D.ct σ' H'
 | .ret u=>∃ v σ' H',Inv X pins σ' H' s'∧RelV v u∧D.rt v H'
def PE (X:Cx) (e:Expr) (t:TE):Prop :=
 ∀ (pins:List (Addr × Obj)) (s:Shared) (σ:St) (H:Hp) (Q:VK),Inv X pins σ H s→t σ H Q→wpAny (model X.prog X.w) X.A (eval e X.env) (EP X pins σ Q) X.xe s
def PT (X:Cx) (e:Expr) (t:TT):Prop :=
 ∀ (pins:List (Addr × Obj)) (s:Shared) (σ:St) (H:Hp) (Q:Bool→Hp→Prop),Inv X pins σ H s→t σ H Q→wpAny (model X.prog X.w) X.A (isTrue e X.env (eval e X.env)) (TP X pins σ Q) X.xe s
def PW (X:Cx) (e:Expr) (t:TT):Prop :=
 ∀ (whole:Sem Value) (pins:List (Addr × Obj)) (s:Shared) (σ:St) (H:Hp) (Q:Bool→Hp→Prop),Inv X pins σ H s→t σ H Q→wpAny (model X.prog X.w) X.A (isTrue e X.env whole) (TP X pins σ Q) X.xe s
theorem PW.pt {X:Cx} {e:Expr} {t:TT} (h:PW X e t):PT X e t:=h _
def PA (X:Cx) (es:List Expr) (t:TA):Prop :=
 ∀ (pos:Pos) (pins:List (Addr × Obj)) (s:Shared) (σ:St) (H:Hp) (Q:List V→Hp→Prop),Inv X pins σ H s→t σ H Q→wpAny (model X.prog X.w) X.A (spliced (backTo pos (starEach es X.env))) (AP X pins σ Q) X.xe s
def PS (X:Cx) (st:Stmt) (t:TS):Prop :=
 ∀ (pins:List (Addr × Obj)) (s:Shared) (σ:St) (H:Hp) (D:Ends),Inv X pins σ H s→t D σ H→wpAny (model X.prog X.w) X.A (exec st X.env) (SP X pins D) X.xe s
def PSs (X:Cx) (st:List Stmt) (t:TS):Prop :=
 ∀ (pins:List (Addr × Obj)) (s:Shared) (σ:St) (H:Hp) (D:Ends),Inv X pins σ H s→t D σ H→wpAny (model X.prog X.w) X.A (execs st X.env) (SP X pins D) X.xe s
theorem thn {α:Type} {t:Sem α} {Q Q':α→Shared→Prop} {M:Model} {A:Around} {E:Value→Shared→Prop} {s:Shared} (h:wpAny M A t Q E s) (hQ:∀ a s,Q a s→Q' a s):wpAny M A t Q' E s:=wpAny_mono h hQ fun _ _ x=>x
end L2
namespace L2
open PySem PySem.Spec PyProof.Rows
section
variable {X:Cx}
def tVar (i:Nat):TE:=fun σ H Q=>∃ v,σ[i]? = some (some v)∧Q v H
def tC (v:V):TE:=fun _ H Q=>Q v H
theorem pe_var {i:Nat} {x:Str} {pos:Pos} (hN:X.N[i]? = some x) (hv:Vis X.env.scope x) (hd:(x == ("__debug__":Str)) = false:=by decide) (hcd:(x == ("__classdict__":Str)) = false:=by decide):PE X (.Name x pos) (tVar i):=by
 intro pins s σ H Q I h
 obtain ⟨v,e,h⟩:=h
 obtain ⟨m,hn,hl⟩:=I.loc
 obtain ⟨u,r,l⟩:=hl i x v hN e hv
 have fin:EP X pins σ Q u s:=⟨v,H,I,r,h⟩
 rcases l with ⟨hk,hm⟩ | ⟨hk,c,hc,hcell⟩
 ·exact wpAny_Name (wpAny_loadName_local I.ok.kind hk hn hm fin) hd
 ·rcases hk with hk | hk
  ·exact wpAny_Name (wpAny_loadName_cell I.ok.kind hk hc hcell fin) hd
  ·exact wpAny_Name (wpAny_loadName_free I.ok.kind hk hc hcell fin hcd) hd
theorem ja4 {i j pos}:PE X (.Constant (.int i) j pos) (tC (.int i)):=fun _ _ _ H _ I h=>wpAny_Constant_int ⟨.int i,H,I.tok _,⟨_,rfl⟩,h⟩
theorem jdh {b j pos}:PE X (.Constant (.bool b) j pos) (tC (.bl b)):=fun _ _ _ H _ I h=>Constant_bool ⟨.bl b,H,I,rfl,h⟩
theorem jn8 {j pos}:PE X (.Constant .none j pos) (tC .non):=fun _ _ _ H _ I h=>Constant_none ⟨.non,H,I,rfl,h⟩
theorem jbt {x j pos}:PE X (.Constant (.str x) j pos) (tC (.str x)):=fun _ _ _ H _ I h=>Calls.Constant_str ⟨.str x,H,I.tok _,⟨_,rfl⟩,h⟩
def Gl (X:Cx) (x:Str):Prop:=X.env.kindOf x = some .globalImplicit
theorem jdy {E:Value→Shared→Prop} {pins:List (Addr × Obj)} {s:Shared} {σ:St} {H:Hp} {x:Str} {u:Value} {pos:Pos} {Q:Value→Shared→Prop} (I:Inv X pins σ H s) (hg:Gl X x) (hm:X.mg x = some u) (h:Q u s)
  (hd:(x == ("__debug__":Str)) = false:=by decide):wpAny (model X.prog X.w) X.A (eval (.Name x pos) X.env) Q E s :=
 Calls.Name_function_global I.ok.kind hg (Calls.loadGlobal_global (by rw [I.ok.glob]; exact I.mod.glob.keeps I.bk) hm h) hd
theorem jf5 {E:Value→Shared→Prop} {pins:List (Addr × Obj)} {s:Shared} {σ:St} {H:Hp} {x:Str} {u:Value} {pos:Pos} {Q:Value→Shared→Prop} (I:Inv X pins σ H s) (hg:Gl X x) (hm:X.mg x = none) (hv:bootBuiltins x = some u) (h:Q u s)
  (hn:x ≠ "__name__":=by decide) (hd:(x == ("__debug__":Str)) = false:=by decide):wpAny (model X.prog X.w) X.A (eval (.Name x pos) X.env) Q E s:=by
 obtain ⟨mb,h1,h2⟩:=I.mod.blt
 exact Calls.Name_function_global I.ok.kind hg (Calls.loadGlobal_builtin (by rw [I.ok.glob]; exact I.mod.glob.keeps I.bk) hm (by rw [I.ok.blt]; exact h1.keeps I.bk) ((h2 x hn).trans hv) h) hd
theorem jgj {x:Str} {v:V} {u:Value} {pos:Pos} (hg:Gl X x) (hm:X.mg x = some u) (r:RelV v u) (hd:(x == ("__debug__":Str)) = false:=by decide):PE X (.Name x pos) (tC v) :=
 fun _ _ _ H _ I h=>jdy I hg hm ⟨v,H,I,r,h⟩ hd
theorem jd9 {x:Str} {v:V} {u:Value} {pos:Pos} (hg:Gl X x) (hm:X.mg x = none) (hv:bootBuiltins x = some u) (r:RelV v u) (hn:x ≠ "__name__":=by decide) (hd:(x == ("__debug__":Str)) = false:=by decide):PE X (.Name x pos) (tC v) :=
 fun _ _ _ H _ I h=>jf5 I hg hm hv ⟨v,H,I,r,h⟩ hn hd
variable {a b:Expr} {ta tb:TE} {pos:Pos}
def PC (X:Cx) (op:CmpOp) (a b:Expr) (t:TE):Prop :=
 ∀ (pins:List (Addr × Obj)) (s:Shared) (σ:St) (H:Hp) (Q:VK),Inv X pins σ H s→t σ H Q →
  wpAny (model X.prog X.w) X.A (eval a X.env) (fun v s₁=>wpAny (model X.prog X.w) X.A (eval b X.env) (fun u s₂=>wpAny (model X.prog X.w) X.A (compareOp op v u) (EP X pins σ Q) X.xe s₂) X.xe s₁) X.xe s
theorem jpd (b:Expr) {op:CmpOp} (h:op ≠ .In) (h2:op ≠ .NotIn):behindInMarks op b = false:=by
 have e1:(op == CmpOp.In) = false:=by cases op <;> first | rfl | exact absurd rfl h
 have e2:(op == CmpOp.NotIn) = false:=by cases op <;> first | rfl | exact absurd rfl h2
 cases b <;> simp [behindInMarks,e1,e2]
theorem jn9 {op:CmpOp} {t:TE} (h:PC X op a b t) (h1:behindInMarks op b = false:=by first | exact jpd _ (by decide) (by decide) | rfl):PE X (.Compare a [op] [b] pos) t:=fun pins s σ H Q I hw=>wpAny_Compare1 (h pins s σ H Q I hw) h1
variable {tA tB':TT} {rest:List Expr}
def tAnd (t u:TT):TT:=fun σ H Q=>t σ H fun c H1=>if c = true then u σ H1 Q else Q false H1
def tOr (t u:TT):TT:=fun σ H Q=>t σ H fun c H1=>if c = true then Q true H1 else u σ H1 Q
def tNot (t:TT):TT:=fun σ H Q=>t σ H fun c H1=>Q (!c) H1
theorem jgi (ha:PT X a tA):PW X (.BoolOp .And [a] pos) tA:=by
 intro wh pins s σ H Q I h
 refine isTrue_and (thn (ha pins s σ H Q I h) fun c s1 e=>?_)
 cases c with
 | true=>exact isTrue_and_nil e
 | false=>exact e
theorem jfw (ha:PT X a tA):PW X (.BoolOp .Or [a] pos) tA:=by
 intro wh pins s σ H Q I h
 refine isTrue_or (thn (ha pins s σ H Q I h) fun c s1 e=>?_)
 cases c with
 | false=>exact isTrue_or_nil e
 | true=>exact e
theorem jku (ha:PT X a tA) (hb:PW X (.BoolOp .And (b :: rest) pos) tB'):PW X (.BoolOp .And (a :: b :: rest) pos) (tAnd tA tB'):=by
 intro wh pins s σ H Q I h
 refine isTrue_and (thn (ha pins s σ H _ I h) fun c s1 ⟨H1,I1,q1⟩=>?_)
 cases c with
 | true=>exact hb wh pins s1 σ H1 Q I1 q1
 | false=>exact ⟨H1,I1,q1⟩
theorem jjl (ha:PT X a tA) (hb:PW X (.BoolOp .Or (b :: rest) pos) tB'):PW X (.BoolOp .Or (a :: b :: rest) pos) (tOr tA tB'):=by
 intro wh pins s σ H Q I h
 refine isTrue_or (thn (ha pins s σ H _ I h) fun c s1 ⟨H1,I1,q1⟩=>?_)
 cases c with
 | true=>exact ⟨H1,I1,q1⟩
 | false=>exact hb wh pins s1 σ H1 Q I1 q1
theorem jc5 (ha:PT X a tA):PT X (.UnaryOp .Not a pos) (tNot tA):=by
 intro pins s σ H Q I h
 exact isTrue_not (ha pins s σ H (fun c H1=>Q (!c) H1) I h)
theorem jbz {op} {t:TE} (h:PE X a t):PE X (.BoolOp op [a] pos) t:=fun pins s σ H Q I hw=>BoolOp_one (h pins s σ H Q I hw)
def tIf (t:TT) (ta tb:TE):TE:=fun σ H Q=>t σ H fun c H1=>if c = true then ta σ H1 Q else tb σ H1 Q
end
end L2
namespace L2
open PySem PySem.Spec PyProof.Rows
def SqL (K:PySem.W.Frag) (H:Hp) (a:Addr) (xs:List V):Prop :=
 Rd H a (.lst xs) ∨
  ∃ (o:Obj) (its:Array Value) (n:Nat),K.lookup a = some o∧o.cls = .type "list"∧o.dict = none∧o.data = .seq its n∧its.size ≤ sizeLine∧Vals xs its.toList
def SqT (K:PySem.W.Frag) (H:Hp) (a:Addr) (xs:List V):Prop :=
 Rd H a (.tup xs) ∨
  ∃ (o:Obj) (its:Array Value) (n:Nat),K.lookup a = some o∧o.cls = .type "tuple"∧o.data = .seq its n∧its.size ≤ sizeLine∧Vals xs its.toList
def absV:Value→Option V
 | .none=>some .non
 | .bool b=>some (.bl b)
 | .int i _=>some (.int i)
 | .str x _=>some (.str x)
 | .bytes b _=>some (.byt b)
 | .float b _=>some (.flt b)
 | .ref a=>some (.ref a)
 | .type n=>some (.ty n)
 | _=>none
theorem RelV.abs {x:V} {u:Value} (r:RelV x u):absV u = some x:=by
 cases x with
 | non=>cases r; rfl
 | bl _=>cases r; rfl
 | int _=>obtain ⟨t,rfl⟩:=r; rfl
 | str _=>obtain ⟨t,rfl⟩:=r; rfl
 | byt _=>obtain ⟨t,rfl⟩:=r; rfl
 | flt _=>obtain ⟨t,rfl⟩:=r; rfl
 | ref _=>cases r; rfl
 | ty _=>cases r; rfl
theorem RelV.inj {x y:V} {u:Value} (r:RelV x u) (q:RelV y u):x = y:=Option.some.inj (r.abs.symm.trans q.abs)
theorem Vals.inj:∀ {xs ys:List V} {us:List Value},Vals xs us→Vals ys us→xs = ys
 | _,_,_,.nil,.nil=>rfl
 | _,_,_,.cons r t,.cons r' t'=>by rw [r.inj r',Vals.inj t t']
section
variable {X:Cx} {pins:List (Addr × Obj)} {σ:St} {H:Hp} {s:Shared} {a:Addr} {xs ys:List V}
theorem SqL.of {K:PySem.W.Frag} (h:H a = some (.lst xs)):SqL K H a xs:=.inl (.inl h)
theorem SqT.of {K:PySem.W.Frag} (h:H a = some (.tup xs)):SqT K H a xs:=.inl (.inl h)
theorem Inv.list (I:Inv X pins σ H s) (h:SqL X.K H a xs):∃ its:List Value,Vals xs its∧PlainL s.heap a its.toArray∧xs.length ≤ sizeLine:=by
 rcases h with h | ⟨o,its,n,hk,hc,hd,hs,hz,r⟩
 ·obtain ⟨z,its,n,r,e⟩:=h.ok I.hok
  exact ⟨its,r,⟨_,n,e,rfl,rfl,rfl⟩,z⟩
 ·refine ⟨its.toList,r,⟨o,n,I.kIn a o hk,hc,hd,by simpa using hs⟩,?_⟩
  have e:=r.length
  simp only [Array.length_toList] at e
  omega
theorem Inv.tuple (I:Inv X pins σ H s) (h:SqT X.K H a xs):∃ its:List Value,Vals xs its∧IsTup s.heap a its.toArray∧xs.length ≤ sizeLine:=by
 rcases h with h | ⟨o,its,n,hk,hc,hs,hz,r⟩
 ·obtain ⟨z,its,r,p⟩:=h.ok I.hok
  exact ⟨its,r,p,z⟩
 ·refine ⟨its.toList,r,⟨o,I.kIn a o hk,hc,n,by simpa using hs⟩,?_⟩
  have e:=r.length
  simp only [Array.length_toList] at e
  omega
theorem Inv.list_inj (I:Inv X pins σ H s) (h:SqL X.K H a xs) (h':SqL X.K H a ys):xs = ys:=by
 obtain ⟨its,r,⟨o,n,e,_,_,d⟩,_⟩:=I.list h
 obtain ⟨its',r',⟨o',n',e',_,_,d'⟩,_⟩:=I.list h'
 rw [e] at e'; cases e'
 rw [d] at d'
 injection d' with d1 _
 have:its = its':=by simpa using congrArg Array.toList d1
 subst this
 exact r.inj r'
theorem Inv.tuple_inj (I:Inv X pins σ H s) (h:SqT X.K H a xs) (h':SqT X.K H a ys):xs = ys:=by
 obtain ⟨its,r,⟨o,e,_,n,d⟩,_⟩:=I.tuple h
 obtain ⟨its',r',⟨o',e',_,n',d'⟩,_⟩:=I.tuple h'
 rw [e] at e'; cases e'
 rw [d] at d'
 injection d' with d1 _
 have:its = its':=by simpa using congrArg Array.toList d1
 subst this
 exact r.inj r'
end
abbrev Cx.wish (X:Cx) (E:Value→Shared→Prop):Cx:={ X with xe:=E }
abbrev Cx.nox (X:Cx):Cx:=X.wish fun _ _=>False
theorem Cx.Ok.wish {X:Cx} (ok:X.Ok) (E:Value→Shared→Prop):(X.wish E).Ok :=
 ⟨ok.mod,ok.kind,ok.glob,ok.blt,ok.above,ok.inj,ok.has,ok.cab,ok.hd,ok.frames,ok.stk,ok.exf,ok.bs,ok.bsz,ok.noex,ok.exfs,ok.funs,ok.frf⟩
theorem Cx.Ok.unwish {X:Cx} {E:Value→Shared→Prop} (ok:(X.wish E).Ok):X.Ok :=
 ⟨ok.mod,ok.kind,ok.glob,ok.blt,ok.above,ok.inj,ok.has,ok.cab,ok.hd,ok.frames,ok.stk,ok.exf,ok.bs,ok.bsz,ok.noex,ok.exfs,ok.funs,ok.frf⟩
section
variable {X:Cx} {pins:List (Addr × Obj)} {σ:St} {H:Hp} {s:Shared} {E:Value→Shared→Prop}
theorem Inv.wish (I:Inv X pins σ H s) (E:Value→Shared→Prop):Inv (X.wish E) pins σ H s:=⟨I.ok.wish E,I.os,I.bare,I.base,I.loc,I.cell,I.free,I.freeC,I.pin,I.hok,I.len⟩
theorem Inv.unwish (I:Inv (X.wish E) pins σ H s):Inv X pins σ H s:=⟨I.ok.unwish,I.os,I.bare,I.base,I.loc,I.cell,I.free,I.freeC,I.pin,I.hok,I.len⟩
theorem SP.unwish {D:Ends} {f:Flow} {s':Shared} (h:SP (X.wish E) pins D f s'):SP X pins D f s':=by
 cases f with
 | next=>obtain ⟨σ',H',I,q⟩:=h; exact ⟨σ',H',I.unwish,q⟩
 | brk=>obtain ⟨σ',H',I,q⟩:=h; exact ⟨σ',H',I.unwish,q⟩
 | cont=>obtain ⟨σ',H',I,q⟩:=h; exact ⟨σ',H',I.unwish,q⟩
 | ret u=>obtain ⟨v,σ',H',I,r,q⟩:=h; exact ⟨v,σ',H',I.unwish,r,q⟩
theorem PSs.nox {st:List Stmt} {t:TS} (h:PSs X.nox st t):PSs X st t:=fun pins s σ H D I hw =>
 wpAny_mono (h pins s σ H D (I.wish _) hw) (fun _ _ q=>q.unwish) fun _ _ z=>False.elim z
end
section
variable {X:Cx} {st:Stmt} {rest:List Stmt} {t u:TS} {e:Expr} {te:TE} {pos:Pos}
def jja:TS:=fun D σ H=>D.nx σ H
def tSeq (t u:TS):TS:=fun D σ H=>t { D with nx:=u D } σ H
theorem jah:PSs X [] jja:=fun _ _ σ H _ I h=>wpAny_execs_nil ⟨σ,H,I,h⟩
theorem ja3 (h1:PS X st t) (h2:PSs X rest u):PSs X (st :: rest) (tSeq t u):=by
 intro pins s σ H D I h
 refine wpAny_execs_cons (thn (h1 pins s σ H { D with nx:=u D } I h) fun f s1 q=>?_)
 cases f with
 | next =>
  obtain ⟨σ',H',I',q⟩:=q
  exact h2 pins s1 σ' H' D I' q
 | ret v=>exact q
 | brk=>exact q
 | cont=>exact q
theorem ja6 (h1:PS X st t):PSs X [st] t:=by
 intro pins s σ H D I h
 refine wpAny_execs_cons (thn (h1 pins s σ H D I h) fun f s1 q=>?_)
 cases f with
 | next=>exact wpAny_execs_nil q
 | ret v=>exact q
 | brk=>exact q
 | cont=>exact q
theorem Inv.quiet {pins:List (Addr × Obj)} {σ:St} {H:Hp} {s:Shared} (I:Inv X pins σ H s):interactive X.env = false:=by simp [interactive,I.ok.kind]
def jjb (te:TE):TS:=fun D σ H=>te σ H fun _ H1=>D.nx σ H1
theorem jb8 (he:PE X e te) (hs:swapsWith e none pos.line X.env = pure false:=by rfl):PS X (.Expr e pos) (jjb te):=by
 intro pins s σ H D I h
 exact wpAny_Expr_any (thn (he pins s σ H _ I h) fun v s1 ⟨x,H1,I1,r1,q1⟩=>⟨σ,H1,I1,q1⟩) I.quiet hs
def tRet (te:TE):TS:=fun D σ H=>te σ H D.rt
theorem jag (he:PE X e te):PS X (.Return (some e) pos) (tRet te):=by
 intro pins s σ H D I h
 exact wpAny_Return_some (thn (he pins s σ H _ I h) fun v s1 ⟨x,H1,I1,r1,q1⟩=>⟨x,σ,H1,I1,r1,q1⟩)
def jlh:TS:=fun D _ H=>D.rt .non H
def tIfS (c:TT) (t u:TS):TS:=fun D σ H=>c σ H fun b H1=>if b = true then t D σ H1 else u D σ H1
theorem jba {c:Expr} {a b:List Stmt} {tc:TT} (hc:PT X c tc) (ha:PSs X a t) (hb:PSs X b u):PS X (.If c a b pos) (tIfS tc t u):=by
 intro pins s σ H D I h
 refine wpAny_If (thn (hc pins s σ H _ I h) fun d s1 ⟨H1,I1,q1⟩=>?_)
 cases d with
 | true=>exact ha pins s1 σ H1 D I1 q1
 | false=>exact hb pins s1 σ H1 D I1 q1
def tNever:TS:=fun _ _ _=>False
theorem jcw:PS X st tNever:=fun _ _ _ _ _ _ h=>h.elim
end
abbrev TG:=V→St→Hp→(St→Hp→Prop)→Prop
abbrev TGs:=List V→St→Hp→(St→Hp→Prop)→Prop
def PG (X:Cx) (target:Expr) (t:TG):Prop :=
 ∀ (pins:List (Addr × Obj)) (s:Shared) (σ:St) (H:Hp) (v:V) (u:Value) (Q:St→Hp→Prop),Inv X pins σ H s→RelV v u→t v σ H Q →
  wpAny (model X.prog X.w) X.A (assign target X.env u) (fun _ s'=>∃ σ' H',Inv X pins σ' H' s'∧Q σ' H') X.xe s
def PGs (X:Cx) (ts:List Expr) (t:TGs):Prop :=
 ∀ (pins:List (Addr × Obj)) (s:Shared) (σ:St) (H:Hp) (vs:List V) (us:List Value) (Q:St→Hp→Prop),Inv X pins σ H s→Vals vs us→t vs σ H Q →
  wpAny (model X.prog X.w) X.A (assignInOrder ((assignEach ts X.env).map (·.2)) us) (fun _ s'=>∃ σ' H',Inv X pins σ' H' s'∧Q σ' H') X.xe s
abbrev TSet:=V→V→V→Hp→(Hp→Prop)→Prop
def PSet (X:Cx) (t:TSet):Prop :=
 ∀ (pins:List (Addr × Obj)) (s:Shared) (σ:St) (H:Hp) (o i v:V) (ov iv u:Value) (Q:Hp→Prop),Inv X pins σ H s→RelV o ov→RelV i iv→RelV v u→t o i v H Q →
  wpAny (model X.prog X.w) X.A (setItem ov iv u) (fun _ s'=>∃ H',Inv X pins σ H' s'∧Q H') X.xe s
abbrev TIp:=V→V→Hp→VK→Prop
def PIp (X:Cx) (op:Operator) (t:TIp):Prop :=
 ∀ (pins:List (Addr × Obj)) (s:Shared) (σ:St) (H:Hp) (x y:V) (v u:Value) (Q:VK),Inv X pins σ H s→RelV x v→RelV y u→t x y H Q →
  wpAny (model X.prog X.w) X.A (inplaceOp op v u) (EP X pins σ Q) X.xe s
section
variable {X:Cx} {pos:Pos}
def jf9 (i:Nat):TG:=fun v σ H Q=>Q (σ.set i (some v)) H
theorem jaf {i:Nat} {x:Str} (hN:X.N.Nodup) (hi:X.N[i]? = some x) (hx:Loc X.env.scope x) (hf:X.fn x = true ∨ X.env.scope.names.lookup x = some .local:=by first | exact .inl rfl | exact .inr rfl | assumption):PG X (.Name x pos) (jf9 i):=by
 intro pins s σ H v u Q I r h
 exact wpAny_assign_Name (jea I hN hi hx r (fun s' I'=>⟨_,H,I',h⟩) hf)
def gNil:TGs:=fun vs σ H Q=>vs = []∧Q σ H
def gCons (t:TG) (u:TGs):TGs:=fun vs σ H Q=>∃ v r,vs = v :: r∧t v σ H fun σ' H'=>u r σ' H' Q
theorem jqs:PGs X [] gNil:=by
 intro pins s σ H vs us Q I r h
 obtain ⟨e,h⟩:=h
 subst e
 cases r
 exact assignInOrder_nil ⟨σ,H,I,h⟩
theorem jp7 {e:Expr} {es:List Expr} {t:TG} {u:TGs} (h1:PG X e t) (h2:PGs X es u)
  (hs:(assignEach (e :: es) X.env).map (·.2) = assign e X.env :: (assignEach es X.env).map (·.2):=by rfl):PGs X (e :: es) (gCons t u):=by
 intro pins s σ H vs us Q I r h
 obtain ⟨v,vr,e1,h⟩:=h
 subst e1
 cases r with
 | cons r rr =>
  rw [hs]
  refine assignInOrder_cons (thn (h1 pins s σ H _ _ _ I r h) fun _ s1 ⟨σ1,H1,I1,q1⟩=>?_)
  exact h2 pins s1 σ1 H1 _ _ Q I1 rr q1
def gTup (K:PySem.W.Frag) (n:Nat) (t:TGs):TG:=fun v σ H Q=>∃ a xs,v = .ref a∧SqT K H a xs∧xs.length = n∧t xs σ H Q
theorem pg_tup {es:List Expr} {k:Nat} {t:TGs} {n:Nat} (hc:X.calm = true) (h:PGs X es t)
  (hn:(assignEach es X.env).length = n:=by rfl) (hst:(assignEach es X.env).findIdx? (·.1) = none:=by rfl):PG X (.Tuple es k pos) (gTup X.K n t):=by
 intro pins s σ H v u Q I r hw
 obtain ⟨a,xs,e1,hq,hl,hw⟩:=hw
 subst e1
 cases r
 obtain ⟨its,rv,ht,hz⟩:=I.tuple hq
 refine assign_Tuple_tuple (I.ok.hd hc) ht (by simp [hn,← hl,rv.length]) hst fun h' hx=>?_
 have I1:Inv X pins σ H { s with heap:=h' }:=I.kept (t':=s.toks) fun b o e=>hx b o (Nat.ne_of_lt (Heap.lt_size e)) e
 exact h pins _ σ H xs _ Q I1 (by simpa using rv) hw
def gSub (to ti:TE) (t:TSet):TG:=fun v σ H Q=>to σ H fun o H1=>ti σ H1 fun i H2=>t o i v H2 fun H3=>Q σ H3
theorem ji3 {o i:Expr} {to ti:TE} {t:TSet} (ho:PE X o to) (hi:PE X i ti) (hs:PSet X t)
  (ha:∀ v,assign (.Subscript o i pos) X.env v = (do
   let ov ← holding [v] (eval o X.env)
   let iv ← holding [v,ov] (eval i X.env)
   standAt pos
   holding [v,ov,iv] (setItem ov iv v)
   release [v,ov,iv] []):=by intro _; rfl):PG X (.Subscript o i pos) (gSub to ti t):=by
 intro pins s σ H v u Q I r h
 rw [ha]
 refine wpAny_bind (wpAny_holding (thn (ho pins s σ H _ I h) fun ov s1 ⟨x,H1,I1,r1,q1⟩=>?_))
 refine wpAny_bind (wpAny_holding (thn (hi pins s1 σ H1 _ I1 q1) fun iv s2 ⟨y,H2,I2,r2,q2⟩=>?_))
 refine wpAny_bind (wpAny_standAt (wpAny_bind (wpAny_holding (thn (hs pins s2 σ H2 x y v ov iv u _ I2 r1 r2 r q2) fun _ s3 ⟨H3,I3,q3⟩=>?_))))
 exact wpAny_release ⟨σ,H3,I3,q3⟩
def tAsg (te:TE) (g:TG):TS:=fun D σ H=>te σ H fun x H1=>g x σ H1 D.nx
theorem ji0 {tg e:Expr} {te:TE} {g:TG} (he:PE X e te) (hg:PG X tg g) (hs:swapsWithSole [tg] e pos.line X.env = pure false:=by rfl) (hw:swappedStores [tg] e X.env = pure none:=by rfl)
  (h1:(assignEach [tg] X.env).map (·.2) = [assign tg X.env]:=by rfl):PS X (.Assign [tg] e pos) (tAsg te g):=by
 intro pins s σ H D I h
 refine wpAny_Assign_stores (thn (he pins s σ H _ I h) fun v s1 ⟨x,H1,I1,r1,q1⟩=>?_) hs hw
 rw [h1]
 exact thn (hg pins s1 σ H1 x v _ I1 r1 q1) fun _ s2 q=>q
theorem jal {i:Nat} {x:Str} {e:Expr} {te:TE} {pos':Pos} (hN:X.N.Nodup) (hi:X.N[i]? = some x) (hx:Loc X.env.scope x) (he:PE X e te) (hs:swapsWith e (some (.Name x pos')) pos.line X.env = pure false:=by rfl) (hf:X.fn x = true ∨ X.env.scope.names.lookup x = some .local:=by first | exact .inl rfl | exact .inr rfl | assumption) :
  PS X (.Assign [.Name x pos'] e pos) (tAsg te (jf9 i)):=by
 intro pins s σ H D I h
 refine wpAny_Assign_Name (thn (he pins s σ H _ I h) fun v s1 ⟨y,H1,I1,r1,q1⟩=>?_) hs
 exact jea I1 hN hi hx r1 (fun s2 I2=>⟨_,H1,I2,q1⟩) hf
def tAug (i:Nat) (te:TE) (ti:TIp):TS:=fun D σ H=>∃ x,σ[i]? = some (some x)∧te σ H fun y H1=>ti x y H1 fun z H2=>D.nx (σ.set i (some z)) H2
theorem ps_aug {i:Nat} {x:Str} {e:Expr} {te:TE} {op:Operator} {ti:TIp} {pos':Pos} (hN:X.N.Nodup) (hi:X.N[i]? = some x) (hx:Loc X.env.scope x) (he:PE X e te) (ho:PIp X op ti) (hf:X.fn x = true ∨ X.env.scope.names.lookup x = some .local:=by first | exact .inl rfl | exact .inr rfl | assumption) :
  PS X (.AugAssign (.Name x pos') op e pos) (tAug i te ti):=by
 intro pins s σ H D I h
 obtain ⟨v,e1,h⟩:=h
 obtain ⟨m,hn,hl⟩:=I.loc
 have vis:Vis X.env.scope x:=by rcases hx with k | k; exact .inl k; exact .inr (.inl k)
 obtain ⟨u,r,l⟩:=hl i x v hi e1 vis
 refine wpAny_AugAssign_Name ?_
 have go:wpAny (model X.prog X.w) X.A (eval e X.env) (fun w s₂=>wpAny (model X.prog X.w) X.A (inplaceOp op u w) (fun r s₃=>wpAny (model X.prog X.w) X.A (storeName X.env x r) (fun _=>SP X pins D .next) X.xe s₃) X.xe s₂) X.xe s:=by
  refine thn (he pins s σ H _ I h) fun w s1 ⟨y,H1,I1,r1,q1⟩=>?_
  refine thn (ho pins s1 σ H1 v y u w _ I1 r r1 q1) fun z s2 ⟨zv,H2,I2,r2,q2⟩=>?_
  exact jea I2 hN hi hx r2 (fun s3 I3=>⟨_,H2,I3,q2⟩) hf
 rcases l with ⟨hk,hm⟩ | ⟨hk,c,hc,hcell⟩
 ·exact wpAny_loadName_local I.ok.kind hk hn hm go
 ·rcases hk with hk | hk
  ·exact wpAny_loadName_cell I.ok.kind hk hc hcell go
  ·rcases hx with k | k
   ·have:X.env.scope.names.lookup x = some .free:=hk
    rw [k] at this; cases this
   ·have:X.env.scope.names.lookup x = some .free:=hk
    rw [k] at this; cases this
end
section
variable {X:Cx} {pos:Pos}
end
structure It where
 go:Nat→Hp→Prop
 yld:Nat→Hp→V→Hp→Prop
 stop:Nat→Hp→Prop
def FpOk (X:Cx) (pins:List (Addr × Obj)) (H:Hp) (b:Addr):Prop :=
 H b = none∧b ≠ X.env.locals∧b ∉ X.fs∧(b ∈ X.ex ∨ X.s₀.heap.objs.size ≤ b)∧(∀ x c,X.env.cells.lookup x = some c→c ≠ b)∧∀ p ∈ X.pn ++ pins,p.1 ≠ b
theorem Inv.fpOk {X:Cx} {pins:List (Addr × Obj)} {σ:St} {H H':Hp} {s:Shared} {b:Addr} (I:Inv X pins σ H s) (hb:s.heap.objs.size ≤ b) (hn:H' b = none):FpOk X pins H' b:=by
 refine ⟨hn,Nat.ne_of_gt (Nat.lt_of_lt_of_le I.lt hb),I.nofs hb,.inr (Nat.le_trans I.sz hb),fun x c e z=>?_,fun p hp z=>?_⟩
 ·obtain ⟨v,q⟩:=I.cell x c e
  exact absurd (Nat.lt_of_lt_of_le q.lt (by rw [z]; exact hb)) (Nat.lt_irrefl _)
 ·exact absurd (Nat.lt_of_lt_of_le (Heap.lt_size (I.pin p hp).1) (by rw [z]; exact hb)) (Nat.lt_irrefl _)
structure Turn (P:Program) (w:World) (K:PySem.W.Frag) (tg:Expr) (J:It) (fp:List Addr) (it:Addr) (tn:Nat→Heap→Prop):Prop where
 mem:it ∈ fp
 obj:∀ i h,tn i h→∀ b ∈ fp,∃ o,h.get? b = some o∧∀ v,o.data ≠ .cell v
 keep:∀ i h h',tn i h→(∀ b ∈ fp,∀ o,h.get? b = some o→h'.get? b = some o)→tn i h'
 item:∀ (X:Cx),X.prog = P→X.w = w→X.K = K→X.calm = true→∀ (i:Nat) (pins:List (Addr × Obj)) (s:Shared) (σ:St) (H:Hp) (E:Value→Shared→Prop),Inv X pins σ H s→(∀ b ∈ fp,FpOk X pins H b)→tn i s.heap→J.go i H →
  wpAny (model P w) X.A (pyNext (.ref it)) (fun r s1=>∃ u,r = some u ∧
   wpAny (model P w) X.A (letOwnedTupleGo tg (.ref it) u) (fun _ s2=>∃ x H',Inv X pins σ H' s2∧RelV x u∧J.yld i H x H'∧tn (i + 1) s2.heap∧∀ b ∈ fp,H' b = none) E s1) E s
 done:∀ (X:Cx),X.prog = P→X.w = w→X.K = K→X.calm = true→∀ (i:Nat) (pins:List (Addr × Obj)) (s:Shared) (σ:St) (H:Hp) (E:Value→Shared→Prop),Inv X pins σ H s→(∀ b ∈ fp,FpOk X pins H b)→tn i s.heap→J.stop i H →
  wpAny (model P w) X.A (pyNext (.ref it)) (fun r s1=>r = none∧Inv X pins σ H s1) E s
 self:∀ (A:Around) (i:Nat) (s:Shared) (Q:Value→Shared→Prop) (E:Value→Shared→Prop),tn i s.heap→Q (.ref it) s→wpAny (model P w) A (pyIter (.ref it)) Q E s
abbrev TI:=St→Hp→(It→Hp→Prop)→Prop
def PIE (X:Cx) (pins:List (Addr × Obj)) (σ:St) (tg:Expr) (R:It→Hp→Prop) (itv:Value) (s2:Shared):Prop :=
 ∃ (it:Addr) (fp:List Addr) (tn:Nat→Heap→Prop) (J:It) (H':Hp),itv = .ref it∧Inv X pins σ H' s2∧Turn X.prog X.w X.K tg J fp it tn∧tn 0 s2.heap∧(∀ b ∈ fp,FpOk X pins H' b)∧R J H'
def PI (X:Cx) (tg iter:Expr) (wi:TI):Prop :=
 ∀ (pins:List (Addr × Obj)) (s:Shared) (σ:St) (H:Hp) (R:It→Hp→Prop),Inv X pins σ H s→wi σ H R →
  wpAny (model X.prog X.w) X.A (eval iter X.env) (fun v s1=>wpAny (model X.prog X.w) X.A (pyIter v) (PIE X pins σ tg R) X.xe s1) X.xe s
theorem jra {M:Model} {A:Around} {E:Value→Shared→Prop} {s:Shared} {tg:Expr} {it:Addr} {u:Value} {o:Obj} {n:String} {vs:Array Value} {Q:Unit→Shared→Prop} (ho:s.heap.get? it = some o) (hc:o.cls = .type n) (hd:o.data = .fields vs)
    (hn:["enumerate","zip","dict_itemiterator","dict_reverseitemiterator","odict_iterator","itertools.zip_longest","itertools.pairwise"].contains n = false) (hQ:Q () s):wpAny M A (letOwnedTupleGo tg (.ref it) u) Q E s:=by
  unfold letOwnedTupleGo
  cases tg <;> first
    | exact wpAny_pure hQ
    | (cases u <;> first
        | exact wpAny_pure hQ
        | (refine wpAny_bind (wpAny_load ho ?_)
           rw [hc,hd]
           show wpAny M A (if (["enumerate","zip","dict_itemiterator","dict_reverseitemiterator","odict_iterator","itertools.zip_longest","itertools.pairwise"].contains n && vs[0]? == some (rawInt _)) = true then _ else _) Q E s
           rw [if_neg (by intro h; rw [hn,Bool.false_and] at h; cases h)]
           exact wpAny_pure hQ))
def Itl (K:PySem.W.Frag) (a:Addr):It :=
 ⟨fun i H=>∃ xs x,SqL K H a xs∧xs[i]? = some x,fun i H x H'=>H' = H∧∀ xs,SqL K H a xs→xs[i]? = some x,fun i H=>∃ xs,SqL K H a xs∧xs.length ≤ i⟩
def Itt (K:PySem.W.Frag) (a:Addr):It :=
 ⟨fun i H=>∃ xs x,SqT K H a xs∧xs[i]? = some x,fun i H x H'=>H' = H∧∀ xs,SqT K H a xs→xs[i]? = some x,fun i H=>∃ xs,SqT K H a xs∧xs.length ≤ i⟩
def Itr (lo:Int) (n:Nat):It:=⟨fun i _=>i < n,fun i H x H'=>H' = H∧x = .int (lo + i),fun i _=>n ≤ i⟩
theorem jmi {P:Program} {w:World} {K:PySem.W.Frag} {tg:Expr} (a it:Addr):Turn P w K tg (Itl K a) [it] it (fun i h=>h.IsListIter it a i) where
 mem:=by simp
 obj:=fun i h st b hb=>by
  have e:b = it:=by simpa using hb
  subst e
  obtain ⟨o,e,c,d⟩:=st
  exact ⟨o,e,fun v z=>by rw [d] at z; cases z⟩
 keep:=fun i h h' st k=>st.at fun o e=>k it (by simp) o e
 item:=by
  intro X hP hw hK hc i pins s σ H E I hf st hg
  subst hP hw hK
  obtain ⟨xs,x,hq,hx⟩:=hg
  obtain ⟨its,rv,p,hz⟩:=I.list hq
  obtain ⟨u,hu,ru⟩:=rv.get hx
  obtain ⟨f0,f1,f2,f3,f4,f5⟩:=hf it (by simp)
  refine wpAny_pyNext_list_item st p.isList (x:=u) (by simpa using hu) fun h' st' sb=>?_
  have I1:Inv X pins σ H { s with heap:=h' }:=I.turned (t':=s.toks) (fun b o hb e=>(sb.2 b hb).trans e) f0 f1 f3 f4 f5
  obtain ⟨o,e,c,d⟩:=id st'
  exact ⟨u,rfl,jra (s:={ s with heap:=h' }) e c d (by decide) ⟨x,H,I1,ru,⟨rfl,fun ys hy=>by rw [I.list_inj hy hq]; exact hx⟩,st',fun b hb=>(hf b hb).1⟩⟩
 done:=by
  intro X hP hw hK hc i pins s σ H E I hf st hg
  subst hP hw hK
  obtain ⟨xs,hq,hx⟩:=hg
  obtain ⟨its,rv,p,hz⟩:=I.list hq
  obtain ⟨f0,f1,f2,f3,f4,f5⟩:=hf it (by simp)
  have hl:=rv.length
  exact wpAny_pyNext_list_end (I.ok.hd hc) st p.isList (by simp; omega) fun h' eb=>⟨rfl,I.turned (t':=s.toks) (fun b o hb e=>eb b o hb e) f0 f1 f3 f4 f5⟩
 self:=fun _ _ _ _ _ st h=>wpAny_pyIter_listiter st h
theorem jlf {P:Program} {w:World} {K:PySem.W.Frag} {tg:Expr} (a it:Addr):Turn P w K tg (Itt K a) [it] it (fun i h=>h.IsTupleIter it a i) where
 mem:=by simp
 obj:=fun i h st b hb=>by
  have e:b = it:=by simpa using hb
  subst e
  obtain ⟨o,e,c,d⟩:=st
  exact ⟨o,e,fun v z=>by rw [d] at z; cases z⟩
 keep:=fun i h h' st k=>st.at fun o e=>k it (by simp) o e
 item:=by
  intro X hP hw hK hc i pins s σ H E I hf st hg
  subst hP hw hK
  obtain ⟨xs,x,hq,hx⟩:=hg
  obtain ⟨its,rv,p,hz⟩:=I.tuple hq
  obtain ⟨u,hu,ru⟩:=rv.get hx
  obtain ⟨f0,f1,f2,f3,f4,f5⟩:=hf it (by simp)
  refine wpAny_pyNext_tuple_item st (show s.heap.IsTuple a its.toArray from p) (x:=u) (by simpa using hu) fun h' st' sb=>?_
  have I1:Inv X pins σ H { s with heap:=h' }:=I.turned (t':=s.toks) (fun b o hb e=>(sb.2 b hb).trans e) f0 f1 f3 f4 f5
  obtain ⟨o,e,c,d⟩:=id st'
  exact ⟨u,rfl,jra (s:={ s with heap:=h' }) e c d (by decide) ⟨x,H,I1,ru,⟨rfl,fun ys hy=>by rw [I.tuple_inj hy hq]; exact hx⟩,st',fun b hb=>(hf b hb).1⟩⟩
 done:=by
  intro X hP hw hK hc i pins s σ H E I hf st hg
  subst hP hw hK
  obtain ⟨xs,hq,hx⟩:=hg
  obtain ⟨its,rv,p,hz⟩:=I.tuple hq
  obtain ⟨f0,f1,f2,f3,f4,f5⟩:=hf it (by simp)
  have hl:=rv.length
  exact wpAny_pyNext_tuple_end (I.ok.hd hc) st (show s.heap.IsTuple a its.toArray from p) (by simp; omega) fun h' eb=>⟨rfl,I.turned (t':=s.toks) (fun b o hb e=>eb b o hb e) f0 f1 f3 f4 f5⟩
 self:=fun _ _ _ _ _ st h=>wpAny_pyIter_tupleiter st h
theorem jlg {P:Program} {w:World} {K:PySem.W.Frag} {tg:Expr} (it:Addr) (lo:Int) (n:Nat):Turn P w K tg (Itr lo n) [it] it (fun i h=>IsRangeIter h it (lo + (i:Nat) * 1) ((n:Int) - (i:Nat)) 1) where
 mem:=by simp
 obj:=fun i h st b hb=>by
  have e:b = it:=by simpa using hb
  subst e
  exact ⟨_,st,fun v z=>by
   have z':Data.fields _ = Data.cell v:=z
   cases z'⟩
 keep:=fun i h h' st k=>k it (by simp) _ st
 item:=by
  intro X hP hw hK hc i pins s σ H E I hf st hg
  subst hP hw hK
  obtain ⟨f0,f1,f2,f3,f4,f5⟩:=hf it (by simp)
  have W:=Walks.range (prog:=X.prog) (w:=X.w) (I.ok.hd hc) it lo 1 n
  refine W.item i s _ _ hg st fun v h' tk hv st' kk=>?_
  obtain ⟨t,rfl⟩:=hv
  have I1:Inv X pins σ H { s with heap:=h',toks:=tk }:=I.turned (fun b o hb e=>kk b o (by simpa using hb) e) f0 f1 f3 f4 f5
  refine ⟨_,rfl,jra (s:={ s with heap:=h',toks:=tk }) (n:="range_iterator") st' rfl rfl (by decide) ⟨.int (lo + i),H,I1,⟨t,?_⟩,⟨rfl,rfl⟩,st',fun b hb=>(hf b hb).1⟩⟩
  rw [Int.mul_one]
 done:=by
  intro X hP hw hK hc i pins s σ H E I hf st hg
  subst hP hw hK
  obtain ⟨f0,f1,f2,f3,f4,f5⟩:=hf it (by simp)
  exact wpAny_pyNext_range_end (I.ok.hd hc) st (by have:n ≤ i:=hg; omega) fun h' eb=>⟨rfl,I.turned (t':=s.toks) (fun b o hb e=>eb b o hb e) f0 f1 f3 f4 f5⟩
 self:=fun _ _ _ _ _ st h=>wpAny_pyIter_rangeiter st h
end L2
namespace L2
open PySem PySem.Spec PyProof.Rows
section
variable {X:Cx} {tg:Expr}
def jc8 (K:PySem.W.Frag) (tl:TE):TI:=fun σ H R=>tl σ H fun x H1=>∃ a,x = .ref a∧(∃ xs,SqL K H1 a xs)∧R (Itl K a) H1
def iTup (K:PySem.W.Frag) (tl:TE):TI:=fun σ H R=>tl σ H fun x H1=>∃ a,x = .ref a∧(∃ xs,SqT K H1 a xs)∧R (Itt K a) H1
theorem jb0 {l:Expr} {tl:TE} (hl:PE X l tl):PI X tg l (jc8 X.K tl):=by
 intro pins s σ H R I h
 refine thn (hl pins s σ H _ I h) fun v s1 ⟨x,H1,I1,r1,q1⟩=>?_
 obtain ⟨a,e,⟨xs,hq⟩,q⟩:=q1
 subst e
 cases r1
 obtain ⟨its,rv,p,hz⟩:=I1.list hq
 refine wpAny_pyIter_list p.isList ?_
 refine ⟨s1.heap.objs.size,[s1.heap.objs.size],_,_,H1,rfl,I1.kept (t':=s1.toks) fun b o e=>Heap.get?_push_of_some _ e,jmi a _,⟨_,Heap.get?_push_size _ rfl,rfl,rfl⟩,fun b hb=>?_,q⟩
 have e:b = s1.heap.objs.size:=by simpa using hb
 subst e
 exact I1.fpOk (Nat.le_refl _) (I1.hok.fresh (Nat.le_refl _))
theorem pi_tup {l:Expr} {tl:TE} (hl:PE X l tl):PI X tg l (iTup X.K tl):=by
 intro pins s σ H R I h
 refine thn (hl pins s σ H _ I h) fun v s1 ⟨x,H1,I1,r1,q1⟩=>?_
 obtain ⟨a,e,⟨xs,hq⟩,q⟩:=q1
 subst e
 cases r1
 obtain ⟨its,rv,p,hz⟩:=I1.tuple hq
 refine wpAny_pyIter_tuple (show s1.heap.IsTuple a its.toArray from p) ?_
 refine ⟨s1.heap.objs.size,[s1.heap.objs.size],_,_,H1,rfl,I1.kept (t':=s1.toks) fun b o e=>Heap.get?_push_of_some _ e,jlf a _,⟨_,Heap.get?_push_size _ rfl,rfl,rfl⟩,fun b hb=>?_,q⟩
 have e:b = s1.heap.objs.size:=by simpa using hb
 subst e
 exact I1.fpOk (Nat.le_refl _) (I1.hok.fresh (Nat.le_refl _))
theorem jp0 {pins:List (Addr × Obj)} {σ:St} {H:Hp} {s:Shared} {R:It→Hp→Prop} {E:Value→Shared→Prop} {lo hi:Int} {t u v:Tok} {tk:Nat} (I:Inv X pins σ H s) (h1:-(2 ^ 62) ≤ lo) (h2:lo < 2 ^ 62) (h3:-(2 ^ 62) ≤ hi) (h4:hi < 2 ^ 62)
  (q:R (Itr lo (hi - lo).toNat) H):wpAny (model X.prog X.w) X.A (pyIter (.ref s.heap.objs.size)) (PIE X pins σ tg R) E { s with heap:=s.heap.push { cls:=.type "range",data:=.fields #[.int lo t,.int hi u,.int 1 v] },toks:=tk }:=by
 refine wpAny_pyIter_range (IsRange.new ..) (small_one h1 h2 h3 h4) ?_
 have I1:Inv X pins σ H { s with heap:=s.heap.push { cls:=.type "range",data:=.fields #[.int lo t,.int hi u,.int 1 v] },toks:=tk }:=I.kept fun b o e=>Heap.get?_push_of_some _ e
 refine ⟨(s.heap.push { cls:=.type "range",data:=.fields #[.int lo t,.int hi u,.int 1 v] }).objs.size,[(s.heap.push { cls:=.type "range",data:=.fields #[.int lo t,.int hi u,.int 1 v] }).objs.size],_,_,H,rfl,
  I1.kept (t':=tk) fun b o e=>Heap.get?_push_of_some _ e,jlg _ lo (hi - lo).toNat,?_,fun b hb=>?_,q⟩
 ·have e1:lo + ((0:Nat):Int) * 1 = lo:=by simp
  have e2:(((hi - lo).toNat:Nat):Int) - ((0:Nat):Int) = Builtin.Range.rangeSize lo hi 1:=by rw [rangeSize_one]; split <;> omega
  show IsRangeIter _ _ (lo + ((0:Nat):Int) * 1) ((((hi - lo).toNat:Nat):Int) - ((0:Nat):Int)) 1
  rw [e1,e2]
  exact Heap.get?_push_size _ rfl
 ·have e:b = (s.heap.push { cls:=.type "range",data:=.fields #[.int lo t,.int hi u,.int 1 v] }).objs.size:=by simpa using hb
  subst e
  exact I1.fpOk (Nat.le_refl _) (I1.hok.fresh (Nat.le_refl _))
def jr9 (ta:TA):TI:=fun σ H R=>ta σ H fun vs H1=>∃ j:Int,vs = [.int j]∧-(2 ^ 62) ≤ j∧j < 2 ^ 62∧R (Itr 0 j.toNat) H1
theorem jes {a:Expr} {ta:TA} {p pos:Pos} (hg:Gl X "range") (hm:X.mg "range" = none) (ha:PA X [a] ta) (hs:starEach [a] X.env = [(false,eval a X.env)]:=by rfl):PI X tg (.Call (.Name "range" p) [a] [] pos) (jr9 ta):=by
 intro pins s σ H R I h
 refine Call_ (jf5 I hg hm boot_range (PyProof.Rows.callWith_type1 (thn (ha pos pins s σ H _ I h) fun us s1 ⟨vs,H1,I1,r1,q1⟩=>?_) hs rfl))
 obtain ⟨j,e,q1,q2,q⟩:=q1
 subst e
 cases r1 with
 | cons r rr =>
  cases rr
  obtain ⟨t,rfl⟩:=r
  exact call_range_1 (jp0 I1 (by omega) (by omega) q1 q2 (by simpa using q))
def tFor (wi:TI) (g:TG) (tb:TS):TS:=fun D σ H=>wi σ H fun J H1=>∃ W:Nat→Nat→St→Hp→Prop,(∃ m,W 0 m σ H1)∧∀ i m σ H,W i m σ H →
 (J.stop i H∧D.nx σ H) ∨ (J.go i H∧∃ N:St→Hp→Prop,(∀ σ' H',N σ' H'→∃ m',m' < m∧W (i + 1) m' σ' H')∧∀ x H',J.yld i H x H'→g x σ H' fun σ2 H2=>tb { D with nx:=N,ct:=N,bk:=D.nx } σ2 H2)
def ji2 (fp:List Addr) (h:Heap):List (Addr × Obj):=fp.filterMap fun b=>(h.get? b).map fun o=>(b,o)
theorem jcy {fp:List Addr} {h:Heap} {b:Addr} {o:Obj} (hb:b ∈ fp) (e:h.get? b = some o):(b,o) ∈ ji2 fp h:=List.mem_filterMap.mpr ⟨b,hb,by rw [e]; rfl⟩
theorem jnb {fp:List Addr} {h:Heap} {p:Addr × Obj} (hp:p ∈ ji2 fp h):p.1 ∈ fp∧h.get? p.1 = some p.2:=by
 obtain ⟨b,hb,e⟩:=List.mem_filterMap.mp hp
 cases q:h.get? b with
 | none=>rw [q] at e; cases e
 | some o =>
  rw [q] at e
  have e':(b,o) = p:=Option.some.inj e
  subst e'
  exact ⟨hb,q⟩
theorem Inv.pinned {pins:List (Addr × Obj)} {σ:St} {H:Hp} {s:Shared} {fp:List Addr} (I:Inv X pins σ H s) (hf:∀ b ∈ fp,FpOk X pins H b) (ho:∀ b ∈ fp,∃ o,s.heap.get? b = some o∧∀ v,o.data ≠ .cell v):Inv X (pins ++ ji2 fp s.heap) σ H s :=
 I.pins_of fun p hp=>(List.mem_append.mp hp).elim (fun z=>I.pin p (List.mem_append_right _ z)) fun z=>by
  obtain ⟨hb,e⟩:=jnb z
  obtain ⟨f0,f1,f2,_⟩:=hf p.1 hb
  obtain ⟨o,e',d⟩:=ho p.1 hb
  rw [e] at e'; cases e'
  exact ⟨e,f0,f1,f2,d⟩
theorem Inv.unpinned {pins pl:List (Addr × Obj)} {σ:St} {H:Hp} {s:Shared} (I:Inv X (pins ++ pl) σ H s):Inv X pins σ H s:=I.pins_of fun p hp=>I.pin p (List.mem_append_right _ (List.mem_append_left _ hp))
theorem jcl {iter:Expr} {body:List Stmt} {wi:TI} {g:TG} {tb:TS} {pos:Pos} (hp:PassesOwn (model X.prog X.w) X.A X.env X.xe) (hc:X.calm = true) (hi:PI X tg iter wi) (hg:PG X tg g) (hb:PSs X body tb)
  (hs:∀ x,foldedSetIterable iter X.env x = pure x:=by intro _; rfl):PS X (.For tg iter body [] pos) (tFor wi g tb):=by
 intro pins s σ H D I h
 refine wpAny_For (thn (hi pins s σ H _ I h) fun v s1 h1=>thn h1 fun itv s2 h2=>?_) hs
 obtain ⟨it,fp,tn,J,H2,e,I2,T,st2,f2,W,⟨m0,w0⟩,turn⟩:=h2
 subst e
  -- what stays true of the iterator's objects through the loop
 have stat:∀ {H':Hp},(∀ b ∈ fp,H' b = none)→∀ b ∈ fp,FpOk X pins H' b:=fun hn b hb=>⟨hn b hb,(f2 b hb).2⟩
 refine codeAny_forLoop_any (fun n s'=>∃ i σ' H',Inv X pins σ' H' s'∧tn i s'.heap∧(∀ b ∈ fp,H' b = none)∧W i n σ' H') ?_ m0 ⟨0,σ,H2,I2,st2,fun b hb=>(f2 b hb).1,w0⟩
 rintro n s3 ⟨i,σ3,H3,I3,st3,fr3,w3⟩
 rcases turn i n σ3 H3 w3 with ⟨stop,qn⟩ | ⟨go,N,hN,step⟩
 ·refine wpAny_passesOwn hp (thn (T.done X rfl rfl rfl hc i pins s3 σ3 H3 X.xe I3 (stat fr3) st3 stop) fun r s4 ⟨hr,I4⟩=>?_)
  subst hr
  exact wpAny_execs_nil ⟨σ3,H3,I4,qn⟩
 ·refine wpAny_passesOwn hp (thn (T.item X rfl rfl rfl hc i pins s3 σ3 H3 X.xe I3 (stat fr3) st3 go) fun r s4 ⟨u,hr,h4⟩=>?_)
  subst hr
  refine wpAny_passesOwn hp (thn h4 fun _ s5 ⟨x,H5,I5,r5,y5,st5,fr5⟩=>?_)
  have I5':=I5.pinned (stat fr5) (T.obj _ _ st5)
  refine wpAny_passesOwn hp (thn (hg _ s5 σ3 H5 x u _ I5' r5 (step x H5 y5)) fun _ s6 ⟨σ6,H6,I6,q6⟩=>?_)
  refine wpAny_passesOwn hp (thn (hb _ s6 σ6 H6 _ I6 q6) fun f s7 q7=>?_)
  have again:∀ {σ7:St} {H7:Hp},Inv X (pins ++ ji2 fp s5.heap) σ7 H7 s7→N σ7 H7→∃ m,m < n∧∃ i σ' H',Inv X pins σ' H' s7∧tn i s7.heap∧(∀ b ∈ fp,H' b = none)∧W i m σ' H':=fun {σ7 H7} I7 n7=>by
   obtain ⟨m',hm,w7⟩:=hN σ7 H7 n7
   refine ⟨m',hm,i + 1,σ7,H7,I7.unpinned,T.keep _ _ _ st5 fun b hb o e=>(I7.pin (b,o) (List.mem_append_right _ (List.mem_append_right _ (jcy hb e)))).1,fun b hb=>?_,w7⟩
   obtain ⟨o,e,d⟩:=T.obj _ _ st5 b hb
   exact (I7.pin (b,o) (List.mem_append_right _ (List.mem_append_right _ (jcy hb e)))).2.1
  cases f with
  | next=>obtain ⟨σ7,H7,I7,n7⟩:=q7; exact again I7 n7
  | cont=>obtain ⟨σ7,H7,I7,n7⟩:=q7; exact again I7 n7
  | brk=>obtain ⟨σ7,H7,I7,q7⟩:=q7; exact ⟨σ7,H7,I7.unpinned,q7⟩
  | ret v=>obtain ⟨x7,σ7,H7,I7,r7,q7⟩:=q7; exact ⟨x7,σ7,H7,I7.unpinned,r7,q7⟩
end
theorem jcd {K:PySem.W.Frag} {a:Addr} {xs:List V} {g:TG} {tb:TS} {D:Ends} {σ:St} {H:Hp} (Pv:Nat→St→Hp→Prop) (h0:Pv 0 σ H) (hl:∀ i σ H,i ≤ xs.length→Pv i σ H→SqL K H a xs)
  (hs:∀ i x σ H,xs[i]? = some x→Pv i σ H→g x σ H fun σ2 H2=>tb { D with nx:=Pv (i + 1),ct:=Pv (i + 1),bk:=D.nx } σ2 H2) (hd:∀ σ H,Pv xs.length σ H→D.nx σ H) :
  ∃ W:Nat→Nat→St→Hp→Prop,(∃ m,W 0 m σ H)∧∀ i m σ H,W i m σ H →
   ((Itl K a).stop i H∧D.nx σ H) ∨ ((Itl K a).go i H∧∃ N:St→Hp→Prop,(∀ σ' H',N σ' H'→∃ m',m' < m∧W (i + 1) m' σ' H')∧∀ x H',(Itl K a).yld i H x H'→g x σ H' fun σ2 H2=>tb { D with nx:=N,ct:=N,bk:=D.nx } σ2 H2):=by
 refine ⟨fun i m σ H=>m = xs.length - i∧i ≤ xs.length∧Pv i σ H,⟨xs.length,by simp,Nat.zero_le _,h0⟩,?_⟩
 rintro i m σ H ⟨rfl,hi,p⟩
 have q:=hl i σ H hi p
 by_cases hlt:i < xs.length
 ·refine .inr ⟨⟨xs,xs[i],q,by simp [hlt]⟩,Pv (i + 1),fun σ' H' p'=>⟨xs.length - (i + 1),by omega,rfl,hlt,p'⟩,fun x H' y=>?_⟩
  obtain ⟨e,y⟩:=y
  subst e
  exact hs i x σ _ (y xs q) p
 ·have e:i = xs.length:=by omega
  subst e
  exact .inl ⟨⟨xs,q,Nat.le_refl _⟩,hd σ H p⟩
theorem jfa {lo:Int} {n:Nat} {g:TG} {tb:TS} {D:Ends} {σ:St} {H:Hp} (Pv:Nat→St→Hp→Prop) (h0:Pv 0 σ H)
  (hs:∀ i σ H,i < n→Pv i σ H→g (.int (lo + i)) σ H fun σ2 H2=>tb { D with nx:=Pv (i + 1),ct:=Pv (i + 1),bk:=D.nx } σ2 H2) (hd:∀ σ H,Pv n σ H→D.nx σ H) :
  ∃ W:Nat→Nat→St→Hp→Prop,(∃ m,W 0 m σ H)∧∀ i m σ H,W i m σ H →
   ((Itr lo n).stop i H∧D.nx σ H) ∨ ((Itr lo n).go i H∧∃ N:St→Hp→Prop,(∀ σ' H',N σ' H'→∃ m',m' < m∧W (i + 1) m' σ' H')∧∀ x H',(Itr lo n).yld i H x H'→g x σ H' fun σ2 H2=>tb { D with nx:=N,ct:=N,bk:=D.nx } σ2 H2):=by
 refine ⟨fun i m σ H=>m = n - i∧i ≤ n∧Pv i σ H,⟨n,by simp,Nat.zero_le _,h0⟩,?_⟩
 rintro i m σ H ⟨rfl,hi,p⟩
 by_cases hlt:i < n
 ·refine .inr ⟨hlt,Pv (i + 1),fun σ' H' p'=>⟨n - (i + 1),by omega,rfl,hlt,p'⟩,fun x H' y=>?_⟩
  obtain ⟨e,y⟩:=y
  subst e y
  exact hs i σ _ hlt p
 ·have e:i = n:=by omega
  subst e
  exact .inl ⟨Nat.le_refl _,hd σ H p⟩
end L2
namespace L2
open PySem PySem.Spec PyProof.Rows
abbrev R2:=V→V→Hp→VK→Prop
def OpR (X:Cx) (f:Value→Value→Sem Value) (r:R2):Prop :=
 ∀ (pins:List (Addr × Obj)) (s:Shared) (σ:St) (H:Hp) (x y:V) (v u:Value) (Q:VK),Inv X pins σ H s→RelV x v→RelV y u→r x y H Q →
  wpAny (model X.prog X.w) X.A (f v u) (EP X pins σ Q) X.xe s
def UnR (X:Cx) (f:Value→Sem Value) (r:V→Hp→VK→Prop):Prop :=
 ∀ (pins:List (Addr × Obj)) (s:Shared) (σ:St) (H:Hp) (x:V) (v:Value) (Q:VK),Inv X pins σ H s→RelV x v→r x H Q →
  wpAny (model X.prog X.w) X.A (f v) (EP X pins σ Q) X.xe s
def jbi (X:Cx) (f:Value) (r:List V→Hp→VK→Prop):Prop :=
 ∀ (pins:List (Addr × Obj)) (s:Shared) (σ:St) (H:Hp) (xs:List V) (us:List Value) (Q:VK),Inv X pins σ H s→Vals xs us→r xs H Q →
  wpAny (model X.prog X.w) X.A (call f us) (EP X pins σ Q) X.xe s
def tOp (r:R2) (ta tb:TE):TE:=fun σ H Q=>ta σ H fun x H1=>tb σ H1 fun y H2=>r x y H2 Q
def tUn (r:V→Hp→VK→Prop) (ta:TE):TE:=fun σ H Q=>ta σ H fun x H1=>r x H1 Q
def rI (C:Int→Int→Prop) (g:Int→Int→V):R2:=fun x y H Q=>∃ i j,x = .int i∧y = .int j∧C i j∧Q (g i j) H
def rI0 (g:Int→Int→V):R2:=fun x y H Q=>∃ i j,x = .int i∧y = .int j∧Q (g i j) H
def rU (g:Int→V):V→Hp→VK→Prop:=fun x H Q=>∃ i,x = .int i∧Q (g i) H
section
variable {X:Cx} {a b c:Expr} {ta tb tc:TE} {pos:Pos}
theorem binT (ha:PE X a ta) (hb:PE X b tb) {pins:List (Addr × Obj)} {s:Shared} {σ:St} {H:Hp} {R:V→V→Hp→Prop} (I:Inv X pins σ H s)
  (h:ta σ H fun x H1=>tb σ H1 fun y H2=>R x y H2) {Q:Value→Shared→Prop} {f:Value→Value→Sem Value}
  (hf:∀ v u s2 x y H2,Inv X pins σ H2 s2→RelV x v→RelV y u→R x y H2→wpAny (model X.prog X.w) X.A (f v u) Q X.xe s2) :
  wpAny (model X.prog X.w) X.A (eval a X.env) (fun v s₁=>wpAny (model X.prog X.w) X.A (eval b X.env) (fun u s₂=>wpAny (model X.prog X.w) X.A (f v u) Q X.xe s₂) X.xe s₁) X.xe s:=by
 refine thn (ha pins s σ H _ I h) fun v s1 ⟨x,H1,I1,r1,q1⟩=>?_
 refine thn (hb pins s1 σ H1 _ I1 q1) fun u s2 ⟨y,H2,I2,r2,q2⟩=>?_
 exact hf v u s2 x y H2 I2 r1 r2 q2
theorem jar {op:Operator} {r:R2} (ho:OpR X (binaryOp op) r) (ha:PE X a ta) (hb:PE X b tb):PE X (.BinOp a op b pos) (tOp r ta tb):=by
 intro pins s σ H Q I h
 exact wpAny_BinOp (binT ha hb I h fun v u s2 x y H2 I2 rx ry q=>ho pins s2 σ H2 x y v u Q I2 rx ry q)
theorem jp8 {op:UnaryOp} {r:V→Hp→VK→Prop} (ho:UnR X (unaryOp op) r) (ha:PE X a ta):PE X (.UnaryOp op a pos) (tUn r ta):=by
 intro pins s σ H Q I h
 exact UnaryOp_ (thn (ha pins s σ H _ I h) fun v s1 ⟨x,H1,I1,r1,q1⟩=>ho pins s1 σ H1 x v Q I1 r1 q1)
theorem opI {f:Value→Value→Sem Value} {C:Int→Int→Prop} {g:Int→Int→Int}
  (rule:∀ (i j:Int) (t u:Tok) (s:Shared) (Q:Value→Shared→Prop) (E:Value→Shared→Prop),C i j→Q (.int (g i j) s.toks) { s with toks:=s.toks + 1 }→wpAny (model X.prog X.w) X.A (f (.int i t) (.int j u)) Q E s) :
  OpR X f (rI C fun i j=>.int (g i j)):=by
 intro pins s σ H x y v u Q I rx ry h
 obtain ⟨i,j,rfl,rfl,hc,q⟩:=h
 obtain ⟨t,rfl⟩:=rx
 obtain ⟨t',rfl⟩:=ry
 exact rule i j t t' s _ _ hc ⟨.int (g i j),H,I.tok _,⟨_,rfl⟩,q⟩
theorem opI0 {f:Value→Value→Sem Value} {g:Int→Int→Int}
  (rule:∀ (i j:Int) (t u:Tok) (s:Shared) (Q:Value→Shared→Prop) (E:Value→Shared→Prop),Q (.int (g i j) s.toks) { s with toks:=s.toks + 1 }→wpAny (model X.prog X.w) X.A (f (.int i t) (.int j u)) Q E s) :
  OpR X f (rI0 fun i j=>.int (g i j)):=by
 intro pins s σ H x y v u Q I rx ry h
 obtain ⟨i,j,rfl,rfl,q⟩:=h
 obtain ⟨t,rfl⟩:=rx
 obtain ⟨t',rfl⟩:=ry
 exact rule i j t t' s _ _ ⟨.int (g i j),H,I.tok _,⟨_,rfl⟩,q⟩
theorem opB0 {f:Value→Value→Sem Value} {g:Int→Int→Bool}
  (rule:∀ (i j:Int) (t u:Tok) (s:Shared) (Q:Value→Shared→Prop) (E:Value→Shared→Prop),Q (.bool (g i j)) s→wpAny (model X.prog X.w) X.A (f (.int i t) (.int j u)) Q E s) :
  OpR X f (rI0 fun i j=>.bl (g i j)):=by
 intro pins s σ H x y v u Q I rx ry h
 obtain ⟨i,j,rfl,rfl,q⟩:=h
 obtain ⟨t,rfl⟩:=rx
 obtain ⟨t',rfl⟩:=ry
 exact rule i j t t' s _ _ ⟨.bl (g i j),H,I,rfl,q⟩
def CDiv (i j:Int):Prop:=0 < j∧j < 1073741824
def CPow (i j:Int):Prop:=0 ≤ j∧j ≤ 1000000∧i.natAbs < 2 ^ 64
def CMul (i j:Int):Prop:=(-(2 ^ 64) < i∧i < 2 ^ 64) ∨ (-(2 ^ 64) < j∧j < 2 ^ 64)
theorem CMul.ok {i j:Int} (h:CMul i j):IntMulOk i j:=by
 rcases h with ⟨h1,h2⟩ | ⟨h1,h2⟩
 ·exact .of_left (intBits_le_64 h1 h2)
 ·exact .of_right (intBits_le_64 h1 h2)
theorem op_add:OpR X (binaryOp .Add) (rI0 fun i j=>.int (i + j)):=opI0 fun _ _ _ _ _ _ _ q=>add_int q
theorem op_sub:OpR X (binaryOp .Sub) (rI0 fun i j=>.int (i - j)):=opI0 fun _ _ _ _ _ _ _ q=>sub_int q
theorem op_mul:OpR X (binaryOp .Mult) (rI CMul fun i j=>.int (i * j)):=opI fun _ _ _ _ _ _ _ hc q=>mul_int q hc.ok
theorem jqu:OpR X (binaryOp .FloorDiv) (rI CDiv fun i j=>.int (i / j)):=opI fun i j _ _ _ _ _ hc q=>by
 have h1:(0:Int) < j:=hc.1
 have h2:j < 1073741824:=hc.2
 exact floordiv_int (by omega) (by rw [Int.fdiv_eq_ediv_of_nonneg i (by omega)]; exact q) (.inl (PyProof.noPylong_small (by omega)))
theorem op_mod:OpR X (binaryOp .Mod) (rI (fun _ j=>0 < j) fun i j=>.int (i % j)):=opI fun i j _ _ _ _ _ hc q=>by
 have h1:(0:Int) < j:=hc
 exact mod_int' (by omega) (by rw [Int.fmod_eq_emod_of_nonneg i (by omega)]; exact q)
theorem op_pow:OpR X (binaryOp .Pow) (rI CPow fun i j=>.int (i ^ j.toNat)):=opI fun _ _ _ _ _ _ _ hc q=>pow_int_small hc.1 hc.2.1 hc.2.2 q
theorem jr7:OpR X (inplaceOp .Add) (rI0 fun i j=>.int (i + j)):=opI0 fun _ _ _ _ _ _ _ q=>iadd_int q
theorem unI {f:Value→Sem Value} {g:Int→Int}
  (rule:∀ (i:Int) (t:Tok) (s:Shared) (Q:Value→Shared→Prop) (E:Value→Shared→Prop),Q (.int (g i) s.toks) { s with toks:=s.toks + 1 }→wpAny (model X.prog X.w) X.A (f (.int i t)) Q E s) :
  UnR X f (rU fun i=>.int (g i)):=by
 intro pins s σ H x v Q I rx h
 obtain ⟨i,rfl,q⟩:=h
 obtain ⟨t,rfl⟩:=rx
 exact rule i t s _ _ ⟨.int (g i),H,I.tok _,⟨_,rfl⟩,q⟩
theorem un_neg:UnR X (unaryOp .USub) (rU fun i=>.int (-i)):=unI fun _ _ _ _ _ q=>neg_int q
end
def scal:V→V→Bool
 | .non,.non=>true | .non,.int _=>true | .int _,.non=>true | .non,.bl _=>true | .bl _,.non=>true | .non,.str _=>true | .str _,.non=>true
 | .int _,.int _=>true | .bl _,.bl _=>true | .str _,.str _=>true | .byt _,.byt _=>true
 | .int _,.str _=>true | .str _,.int _=>true | .bl _,.str _=>true | .str _,.bl _=>true
 | _,_=>false
def rEq:R2:=fun x y H Q=>scal x y = true∧Q (.bl (decide (x = y))) H
def rNe:R2:=fun x y H Q=>scal x y = true∧Q (.bl (!decide (x = y))) H
theorem jo7 {i j:Int}:decide (V.int i = V.int j) = (i == j):=by
 rw [Bool.eq_iff_iff]
 simp
theorem jqh {i j:Bool}:decide (V.bl i = V.bl j) = (i == j):=by
 rw [Bool.eq_iff_iff]
 simp
theorem jo6 {i j:Str}:decide (V.str i = V.str j) = (i == j):=by
 rw [Bool.eq_iff_iff]
 simp
theorem jo8 {i j:Array UInt8}:decide (V.byt i = V.byt j) = (i.toList == j.toList):=by
 rw [Bool.eq_iff_iff]
 cases i
 cases j
 simp
section
variable {X:Cx} {a b c:Expr} {ta tb tc:TE} {pos:Pos}
theorem jaw {pins:List (Addr × Obj)} {σ:St} {H:Hp} {s:Shared} {Q:VK} {k k':Bool} (I:Inv X pins σ H s) (q:Q (.bl k) H) (e:k = k'):EP X pins σ Q (.bool k') s:=by
 subst e
 exact ⟨.bl k,H,I,rfl,q⟩
theorem op_eq:OpR X (compareOp .Eq) rEq:=by
 intro pins s σ H x y v u Q I rx ry h
 obtain ⟨hs,q⟩:=h
 cases x with
 | non =>
  cases rx
  cases y with
  | non=>cases ry; exact PySem.EqNone.eq_none_none (jaw I q (by simp))
  | bl j=>cases ry; exact PySem.EqNone.eq_none_bool (jaw I q (by simp))
  | int j=>obtain ⟨t',rfl⟩:=ry; exact PySem.EqNone.eq_none_int (jaw I q (by simp))
  | str j=>obtain ⟨t',rfl⟩:=ry; exact PySem.EqNone.eq_none_str (jaw I q (by simp))
  | _=>exact absurd (show false = true from hs) Bool.false_ne_true
 | bl i =>
  cases rx
  cases y with
  | non=>cases ry; exact PySem.EqNone.eq_bool_none (jaw I q (by simp))
  | bl j=>cases ry; exact eq_bool (jaw I q jqh)
  | str j=>obtain ⟨t',rfl⟩:=ry; exact PySem.EqMixed.eq_bool_str (jaw I q (by simp))
  | _=>exact absurd (show false = true from hs) Bool.false_ne_true
 | int i =>
  obtain ⟨t,rfl⟩:=rx
  cases y with
  | non=>cases ry; exact PySem.EqNone.eq_int_none (jaw I q (by simp))
  | int j=>obtain ⟨t',rfl⟩:=ry; exact eq_int (jaw I q jo7)
  | str j=>obtain ⟨t',rfl⟩:=ry; exact PySem.EqMixed.eq_int_str (jaw I q (by simp))
  | _=>exact absurd (show false = true from hs) Bool.false_ne_true
 | str i =>
  obtain ⟨t,rfl⟩:=rx
  cases y with
  | non=>cases ry; exact PySem.EqNone.eq_str_none (jaw I q (by simp))
  | bl j=>cases ry; exact PySem.EqMixed.eq_str_bool (jaw I q (by simp))
  | int j=>obtain ⟨t',rfl⟩:=ry; exact PySem.EqMixed.eq_str_int (jaw I q (by simp))
  | str j=>obtain ⟨t',rfl⟩:=ry; exact eq_str (jaw I q jo6)
  | _=>exact absurd (show false = true from hs) Bool.false_ne_true
 | byt i =>
  obtain ⟨t,rfl⟩:=rx
  cases y with
  | byt j=>obtain ⟨t',rfl⟩:=ry; exact PySem.W.eq_bytes (jaw I q jo8)
  | _=>exact absurd (show false = true from hs) Bool.false_ne_true
 | _=>cases y <;> exact absurd (show false = true from hs) Bool.false_ne_true
theorem op_ne:OpR X (compareOp .NotEq) rNe:=by
 intro pins s σ H x y v u Q I rx ry h
 obtain ⟨hs,q⟩:=h
 cases x with
 | non =>
  cases rx
  cases y with
  | non=>cases ry; exact PySem.EqNone.ne_none_none (jaw I q (by simp))
  | bl j=>cases ry; exact PySem.EqNone.ne_none_bool (jaw I q (by simp))
  | int j=>obtain ⟨t',rfl⟩:=ry; exact PySem.EqNone.ne_none_int (jaw I q (by simp))
  | str j=>obtain ⟨t',rfl⟩:=ry; exact PySem.EqNone.ne_none_str (jaw I q (by simp))
  | _=>exact absurd (show false = true from hs) Bool.false_ne_true
 | bl i =>
  cases rx
  cases y with
  | non=>cases ry; exact PySem.EqNone.ne_bool_none (jaw I q (by simp))
  | bl j=>cases ry; exact ne_bool (jaw I q (congrArg not jqh))
  | str j=>obtain ⟨t',rfl⟩:=ry; exact PySem.EqMixed.ne_bool_str (jaw I q (by simp))
  | _=>exact absurd (show false = true from hs) Bool.false_ne_true
 | int i =>
  obtain ⟨t,rfl⟩:=rx
  cases y with
  | non=>cases ry; exact PySem.EqNone.ne_int_none (jaw I q (by simp))
  | int j=>obtain ⟨t',rfl⟩:=ry; exact ne_int (jaw I q (congrArg not jo7))
  | str j=>obtain ⟨t',rfl⟩:=ry; exact PySem.EqMixed.ne_int_str (jaw I q (by simp))
  | _=>exact absurd (show false = true from hs) Bool.false_ne_true
 | str i =>
  obtain ⟨t,rfl⟩:=rx
  cases y with
  | non=>cases ry; exact PySem.EqNone.ne_str_none (jaw I q (by simp))
  | bl j=>cases ry; exact PySem.EqMixed.ne_str_bool (jaw I q (by simp))
  | int j=>obtain ⟨t',rfl⟩:=ry; exact PySem.EqMixed.ne_str_int (jaw I q (by simp))
  | str j=>obtain ⟨t',rfl⟩:=ry; exact ne_str (jaw I q (congrArg not jo6))
  | _=>exact absurd (show false = true from hs) Bool.false_ne_true
 | byt i =>
  obtain ⟨t,rfl⟩:=rx
  cases y with
  | byt j=>obtain ⟨t',rfl⟩:=ry; exact PySem.W.ne_bytes (jaw I q (congrArg not jo8))
  | _=>exact absurd (show false = true from hs) Bool.false_ne_true
 | _=>cases y <;> exact absurd (show false = true from hs) Bool.false_ne_true
theorem op_lt:OpR X (compareOp .Lt) (rI0 fun i j=>.bl (decide (i < j))):=opB0 fun _ _ _ _ _ _ _ q=>lt_int q
theorem op_le:OpR X (compareOp .LtE) (rI0 fun i j=>.bl (decide (i ≤ j))):=opB0 fun _ _ _ _ _ _ _ q=>le_int q
theorem op_gt:OpR X (compareOp .Gt) (rI0 fun i j=>.bl (decide (j < i))):=opB0 fun _ _ _ _ _ _ _ q=>gt_int q
theorem op_ge:OpR X (compareOp .GtE) (rI0 fun i j=>.bl (decide (j ≤ i))):=opB0 fun _ _ _ _ _ _ _ q=>ge_int q
theorem jae (b:Expr) {op:CmpOp} (h:op ≠ .In:=by decide) (h2:op ≠ .NotIn:=by decide):behindInMarks op b = false:=by
 have e1:(op == CmpOp.In) = false:=by cases op <;> first | rfl | exact absurd rfl h
 have e2:(op == CmpOp.NotIn) = false:=by cases op <;> first | rfl | exact absurd rfl h2
 cases b <;> simp [behindInMarks,e1,e2]
theorem jas {op:CmpOp} {r:R2} (ho:OpR X (compareOp op) r) (ha:PE X a ta) (hb:PE X b tb) (hm:behindInMarks op b = false):PE X (.Compare a [op] [b] pos) (tOp r ta tb):=by
 intro pins s σ H Q I h
 exact wpAny_Compare1 (binT ha hb I h fun v u s2 x y H2 I2 rx ry q=>ho pins s2 σ H2 x y v u Q I2 rx ry q) hm
theorem jin:(sizeLine:Nat) < 2 ^ 63:=by rw [sizeLine_eq]; decide
theorem jhg {x:V} {us:List Value} (r:Vals [x] us):∃ u,us = [u]∧RelV x u:=by
 cases r with
 | cons r1 r2=>cases r2; exact ⟨_,rfl,r1⟩
theorem vals2 {x y:V} {us:List Value} (r:Vals [x,y] us):∃ u w',us = [u,w']∧RelV x u∧RelV y w':=by
 cases r with
 | cons r1 r2 =>
  cases r2 with
  | cons r3 r4=>cases r4; exact ⟨_,_,rfl,r1,r3⟩
theorem jof (hc:X.calm = true):jbi X (.builtin "max") (fun xs H Q=>∃ i j,xs = [.int i,.int j]∧Q (.int (if j > i then j else i)) H):=by
 intro pins s σ H xs us Q I r h
 obtain ⟨i,j,rfl,q⟩:=h
 obtain ⟨u,w',rfl,⟨t,rfl⟩,⟨t',rfl⟩⟩:=vals2 r
 refine max_two_ints (I.ok.hd hc) fun h' tk k=>⟨_,H,I.kept k,?_,q⟩
 by_cases hj:j > i
 ·rw [if_pos hj,if_pos hj]; exact ⟨_,rfl⟩
 ·rw [if_neg hj,if_neg hj]; exact ⟨_,rfl⟩
theorem joe (hc:X.calm = true):jbi X (.builtin "min") (fun xs H Q=>∃ i j,xs = [.int i,.int j]∧Q (.int (if j < i then j else i)) H):=by
 intro pins s σ H xs us Q I r h
 obtain ⟨i,j,rfl,q⟩:=h
 obtain ⟨u,w',rfl,⟨t,rfl⟩,⟨t',rfl⟩⟩:=vals2 r
 refine min_two_ints (I.ok.hd hc) fun h' tk k=>⟨_,H,I.kept k,?_,q⟩
 by_cases hj:j < i
 ·rw [if_pos hj,if_pos hj]; exact ⟨_,rfl⟩
 ·rw [if_neg hj,if_neg hj]; exact ⟨_,rfl⟩
theorem jog:jbi X (.type "int") (fun xs H Q=>(∃ i,xs = [.int i]∧Q (.int i) H) ∨ ∃ k,xs = [.bl k]∧Q (.int (if k then 1 else 0)) H):=by
 intro pins s σ H xs us Q I r h
 rcases h with ⟨i,rfl,q⟩ | ⟨k,rfl,q⟩
 ·obtain ⟨u,rfl,t,rfl⟩:=jhg r
  exact call_int_int ⟨.int i,H,I,⟨_,rfl⟩,q⟩
 ·obtain ⟨u,rfl,r1⟩:=jhg r
  cases r1
  exact call_int_bool ⟨.int (if k then 1 else 0),H,I.tok _,⟨_,rfl⟩,q⟩
end
end L2
namespace L2
open PySem PySem.Spec PyProof.Rows
structure ObjM (h:Heap) (x dx C:Addr) (mA:Str→Option Value):Prop where
 obj:h.get? x = some (PySem.W.instObj C dx)
 ns:h.Ns1 dx mA
 ne:dx ≠ x
theorem jil {h:Heap} {dx:Addr} {mA:Str→Option Value} (n:h.Ns1 dx mA):∃ od,h.get? dx = some od∧∀ name,PySem.W.lookIn name od = some (mA name):=by
 obtain ⟨o,es,ep,ho,hd,hk,_,hm⟩:=n
 refine ⟨o,ho,fun name=>?_⟩
 have e:=hm name
 unfold nsFind findBy at e
 rw [← Array.find?_toList] at e
 unfold PySem.W.lookIn
 rw [hd]
 dsimp only
 split
 ·rename_i y q
  rw [q] at e
  exact congrArg some e
 ·rename_i q
  rw [q] at e
  have a:es.toList.any (·.refKey) = false:=by
   rw [List.any_eq_false]
   intro y hy
   obtain ⟨z,t,hkey⟩:=hk y (Array.mem_toList_iff.mp hy)
   simp [DictEntry.refKey,hkey]
  have a':¬ es.toList.any (·.refKey) = true:=by rw [a]; exact Bool.false_ne_true
  rw [if_neg a']
  exact congrArg some e
theorem ObjM.look {h:Heap} {x dx C:Addr} {mA:Str→Option Value} (I:ObjM h x dx C mA):∃ od,PySem.W.InstAt h x (PySem.W.instObj C dx) C (some od)∧∀ name,PySem.W.lookIn name od = some (mA name) :=
 let ⟨od,ho,hl⟩:=jil I.ns
 ⟨od,⟨I.obj,rfl,rfl,ho⟩,hl⟩
section
variable {prog:Program} {w:World} {A:Around} {E:Value→Shared→Prop} {s:Shared} {K:PySem.W.Frag} {x dx C f:Addr} {mA:Str→Option Value} {name:Str} {v:Value}
end
def putF (f:Str) (v:V):List (Str × V)→List (Str × V)
 | []=>[(f,v)]
 | (g,x) :: r=>if g = f then (g,v) :: r else (g,x) :: putF f v r
theorem jf2 (f g:Str) (v:V):∀ fs:List (Str × V),(putF f v fs).lookup g = if g = f then some v else fs.lookup g
 | []=>by
  show List.lookup g [(f,v)] = _
  by_cases h:g = f
  ·have hb:(g == f) = true:=beq_iff_eq.mpr h
   simp only [List.lookup,hb,if_pos h]
  ·have hb:(g == f) = false:=beq_eq_false_iff_ne.mpr h
   simp only [List.lookup,hb,if_neg h]
 | (k,x) :: r=>by
  have ih:=jf2 f g v r
  rw [show putF f v ((k,x) :: r) = (if k = f then (k,v) :: r else (k,x) :: putF f v r) from rfl]
  by_cases hk:k = f
  ·rw [if_pos hk]
   by_cases h:g = k
   ·have hb:(g == k) = true:=beq_iff_eq.mpr h
    simp only [List.lookup,hb,if_pos (h.trans hk)]
   ·have hb:(g == k) = false:=beq_eq_false_iff_ne.mpr h
    simp only [List.lookup,hb,if_neg (fun e:g = f=>h (e.trans hk.symm))]
  ·rw [if_neg hk]
   by_cases h:g = k
   ·have hb:(g == k) = true:=beq_iff_eq.mpr h
    simp only [List.lookup,hb,if_neg (fun e:g = f=>hk (h.symm.trans e))]
   ·have hb:(g == k) = false:=beq_eq_false_iff_ne.mpr h
    simp only [List.lookup,hb]
    exact ih
theorem jf6 (f:Str) (v:V):∀ fs:List (Str × V),f ∈ (putF f v fs).map (·.1)∧∀ g,g ∈ fs.map (·.1)→g ∈ (putF f v fs).map (·.1)
 | []=>⟨by simp [putF],fun g h=>by simp at h⟩
 | (k,x) :: r=>by
  obtain ⟨i1,i2⟩:=jf6 f v r
  rw [show putF f v ((k,x) :: r) = (if k = f then (k,v) :: r else (k,x) :: putF f v r) from rfl]
  by_cases hk:k = f
  ·rw [if_pos hk]
   subst hk
   exact ⟨by simp,fun g h=>by simpa using h⟩
  ·rw [if_neg hk]
   refine ⟨?_,fun g h=>?_⟩
   ·rw [List.map_cons]
    exact List.mem_cons_of_mem _ i1
   ·rw [List.map_cons] at h ⊢
    rcases List.mem_cons.mp h with e | e
    ·exact List.mem_cons.mpr (.inl e)
    ·exact List.mem_cons_of_mem _ (i2 g e)
theorem RelO.some_of {v:V} {o:Option Value} (r:RelO (some v) o):∃ u,o = some u∧RelV v u:=by
 cases o with
 | none=>exact (show False from r).elim
 | some u=>exact ⟨u,rfl,r⟩
theorem jnz {v:V} {u:Value} (r:RelV v u):PySem.W.handedIn u = true:=by
 cases v with
 | non=>cases (show u = Value.none from r); rfl
 | bl b=>cases (show u = Value.bool b from r); rfl
 | int i=>obtain ⟨t,e⟩:=(show ∃ t,u = Value.int i t from r); cases e; rfl
 | str x=>obtain ⟨t,e⟩:=(show ∃ t,u = Value.str x t from r); cases e; rfl
 | byt b=>obtain ⟨t,e⟩:=(show ∃ t,u = Value.bytes b t from r); cases e; rfl
 | flt b=>obtain ⟨t,e⟩:=(show ∃ t,u = Value.float b t from r); cases e; rfl
 | ref a=>cases (show u = Value.ref a from r); rfl
 | ty n=>cases (show u = Value.type n from r); rfl
section
variable {P:Program} {w:World} {H H':Hp} {h h':Heap} {a C dx:Addr} {fs fs':List (Str × V)}
theorem jr8 (hok:HOk P w H h) (e:H a = some (.ins C dx fs)):∃ mA,ObjM h a dx C mA∧(∀ f,RelO (fs.lookup f) (mA f))∧PySem.Within mA (fs.map (·.1))∧fs.length ≤ 1000∧H dx = some (.own a):=by
 obtain ⟨d,z,ne,ob,mA,n,r,q⟩:=(show jb2 P w H h a (.ins C dx fs) from hok a _ e)
 exact ⟨mA,⟨ob,n,ne⟩,r,q,z,d⟩
end
structure Cls (K:PySem.W.Frag) (C:Addr):Prop where
 pg:PySem.W.plainGet K C Str.empty = true
 hd:PySem.W.hasDictIn K C = true
 po:PySem.W.plainOver K C = true
 sa:PySem.W.findIn K (.ref C) "__setattr__" = some (some (.builtin "object.__setattr__"))
theorem Cls.get {K:PySem.W.Frag} {C:Addr} (c:Cls K C) (f:Str):PySem.W.plainGet K C f = true:=c.pg
section
variable {X:Cx} {pins:List (Addr × Obj)} {σ:St} {H:Hp} {s:Shared} {a C dx:Addr} {fs:List (Str × V)} {f:Str} {v:V} {A:Around} {E:Value→Shared→Prop}
theorem jrg {prog:Program} {w:World} {env:Env} {e:Expr} {f:Str} {pos:Pos} {s:Shared} {Q:Value→Shared→Prop} (hb:attributeBase e f env (eval e env) = eval e env)
  (h:wpAny (model prog w) A (eval e env) (fun o s₁=>wpAny (model prog w) A (getAttr o f true) Q E s₁) E s):wpAny (model prog w) A (eval (.Attribute e f pos) env) Q E s :=
 Attribute_any_ h (by rw [arm_eval_Attribute,hb])
end
section
variable {X:Cx} {o e value:Expr} {f:Str} {pos pos' tpos:Pos} {ta tv:TE}
end
section
variable {X:Cx} {pins:List (Addr × Obj)} {σ:St} {H:Hp} {s:Shared} {A:Around} {E:Value→Shared→Prop} {Q:Value→Shared→Prop} {c:Value} {b:Bool}
inductive TyOf (K:PySem.W.Frag) (H:Hp):V→Value→Prop where
 | non:TyOf K H .non (.type "NoneType")
 | bl (x:Bool):TyOf K H (.bl x) (.type "bool")
 | int (i:Int):TyOf K H (.int i) (.type "int")
 | str (x:Str):TyOf K H (.str x) (.type "str")
 | flt (x:UInt64):TyOf K H (.flt x) (.type "float")
 | lst {a:Addr} {xs:List V} (e:H a = some (.lst xs)):TyOf K H (.ref a) (.type "list")
 | frz {a:Addr} {o:Obj} {xs:List V} (e:H a = some (.frz o (.lst xs))):TyOf K H (.ref a) (.type "list")
 | tup {a:Addr} {xs:List V} (e:H a = some (.tup xs)):TyOf K H (.ref a) (.type "tuple")
 | dK {a:Addr} {kvs:List (Key × V)} (e:H a = some (.dK kvs)):TyOf K H (.ref a) (.type "dict")
 | dT {a:Addr} {kvs:List (List Key × V)} (e:H a = some (.dT kvs)):TyOf K H (.ref a) (.type "dict")
 | ins {a C dx:Addr} {fs:List (Str × V)} (e:H a = some (.ins C dx fs)) (cl:Cls K C) (ha:PySem.W.findIn K (.ref C) "__class__" = some (some (.builtin "object.__class__")))
   (hn:PySem.W.specialIn K (.builtin "object.__class__") "__get__" = some (some (.builtin "getset_descriptor.__get__"))) (htk:PySem.W.takesIn K (.builtin "object.__class__") = some true)
   (hm:PySem.W.mroIn K C (.type "object") = some true):TyOf K H (.ref a) (.ref C)
theorem jnv {x:V} {u t:Value} (I:Inv X pins σ H s) (rx:RelV x u) (ty:TyOf X.K H x t) (e:PySem.W.kitOne X.K t c = some b) (h:∀ tk,Q (.bool b) { s with toks:=tk }) :
  wpAny (model X.prog X.w) A (call (.builtin "isinstance") [u,c]) Q E s:=by
 cases ty with
 | non=>cases (show u = Value.none from rx); exact PySem.W.kia_one PySem.W.kitx_none I.kIn True.intro e (fun z=>nomatch z) h
 | bl y=>cases (show u = Value.bool y from rx); exact PySem.W.kia_one PySem.W.kitx_bool I.kIn True.intro e (fun z=>nomatch z) h
 | int i=>obtain ⟨t,q⟩:=(show ∃ t,u = Value.int i t from rx); cases q; exact PySem.W.kia_one PySem.W.kitx_int I.kIn True.intro e (fun z=>nomatch z) h
 | str y=>obtain ⟨t,q⟩:=(show ∃ t,u = Value.str y t from rx); cases q; exact PySem.W.kia_one PySem.W.kitx_str I.kIn True.intro e (fun z=>nomatch z) h
 | flt y=>obtain ⟨t,q⟩:=(show ∃ t,u = Value.float y t from rx); cases q; exact PySem.W.kia_one PySem.W.kitx_float I.kIn True.intro e (fun z=>nomatch z) h
 | @lst a xs ea =>
  cases (show u = Value.ref a from rx)
  obtain ⟨_,_,n,_,h1⟩:=(show jb2 X.prog X.w H s.heap a (.lst xs) from I.hok a _ ea)
  exact PySem.W.kia_one PySem.W.kitx_list I.kIn ⟨_,h1,rfl⟩ e (fun z=>nomatch z) h
 | @frz a ob xs ea =>
  cases (show u = Value.ref a from rx)
  obtain ⟨_,_,_,n,_,h1⟩:=(show jb2 X.prog X.w H s.heap a (.frz ob (.lst xs)) from I.hok a _ ea)
  exact PySem.W.kia_one PySem.W.kitx_list I.kIn ⟨_,h1,rfl⟩ e (fun z=>nomatch z) h
 | @tup a xs ea =>
  cases (show u = Value.ref a from rx)
  obtain ⟨_,_,_,p⟩:=(show jb2 X.prog X.w H s.heap a (.tup xs) from I.hok a _ ea)
  obtain ⟨o,h1,h2,_⟩:=p
  exact PySem.W.kia_one PySem.W.kitx_tuple I.kIn ⟨o,h1,h2⟩ e (fun z=>nomatch z) h
 | @dK a kvs ea =>
  cases (show u = Value.ref a from rx)
  obtain ⟨_,_,vs,_,p⟩:=(show jb2 X.prog X.w H s.heap a (.dK kvs) from I.hok a _ ea)
  obtain ⟨o,es,ep,h1,h2,_⟩:=p
  exact PySem.W.kia_one PySem.W.kitx_dict I.kIn ⟨o,h1,h2.1⟩ e (fun z=>nomatch z) h
 | @dT a kvs ea =>
  cases (show u = Value.ref a from rx)
  obtain ⟨_,_,xs,_,o,es,ep,h1,h2,_⟩:=(show jb2 X.prog X.w H s.heap a (.dT kvs) from I.hok a _ ea)
  exact PySem.W.kia_one PySem.W.kitx_dict I.kIn ⟨o,h1,h2.1⟩ e (fun z=>nomatch z) h
 | @ins a C dx fs ea cl ha hn htk hm =>
  cases (show u = Value.ref a from rx)
  obtain ⟨mA,O,_⟩:=jr8 I.hok ea
  obtain ⟨od,J,_⟩:=O.look
  exact PySem.W.kia_one (PySem.W.kitx_own (cl.get _) cl.hd ha hn htk hm) I.kIn J e (fun z=>nomatch z) h
end
end L2
namespace L2
open PySem PySem.Spec PyProof.Rows
structure Room (k:Nat) (A:Around):Prop where
 hd:A.handled = none
 dp:A.depth + 3 * k + 5 < recursionLimit
 un:A.units + 16 * k + 200 < cLine
 gd:A.guards = some []
theorem Room.mono {j k:Nat} {A:Around} (r:Room k A) (h:j ≤ k):Room j A:=⟨r.hd,by have:=r.dp; omega,by have:=r.un; omega,by first | exact r.gd | (simp only [Around.deeper,Around.in1,Around.under]; exact r.gd)⟩
theorem Room.deeper {k:Nat} {A:Around} (r:Room (k + 1) A) (env:Env):Room k (A.deeper env) :=
 ⟨r.hd,by have:=r.dp; show A.depth + 1 + 3 * k + 5 < _; omega,by have:=r.un; show A.units + 3 + 16 * k + 200 < _; omega,by first | exact r.gd | (simp only [Around.deeper,Around.in1,Around.under]; exact r.gd)⟩
theorem jlx {A:Around} {C:Addr} {us:List Value} {kw:List (Str × Value)}:(A.under (.builtin "type.__call__" ⟨.ref C :: us,kw⟩)).depth = A.depth + 1:=by
 first | rfl | simp [Around.under,Code.weight,Code.isCreation,Code.isGuard,Code.isCaller,Code.frames,Code.isFrame,guardIds]
theorem jlw {A:Around} {C:Addr} {us:List Value} {kw:List (Str × Value)}:(A.under (.builtin "type.__call__" ⟨.ref C :: us,kw⟩)).units = A.units + 1:=by
 first | rfl | simp [Around.under,Code.cUnits,Code.frames,Code.isFrame]
theorem Room.make {k:Nat} {A:Around} (r:Room (k + 1) A) (C:Addr) (us:List Value) (kw:List (Str × Value)):Room k (A.under (.builtin "type.__call__" ⟨.ref C :: us,kw⟩)) :=
 ⟨r.hd,by have:=r.dp; rw [jlx]; omega,by have:=r.un; rw [jlw]; omega,by first | exact r.gd | (simp only [Around.deeper,Around.in1,Around.under]; exact r.gd)⟩
theorem Room.depth {k:Nat} {A:Around} (r:Room k A):A.depth < recursionLimit:=by have:=r.dp; omega
theorem Room.units {k:Nat} {A:Around} (r:Room k A):A.units + 64 < cLine:=by have:=r.un; omega
def tNil:TA:=fun _ H Q=>Q [] H
def jdr (ta:TE) (tr:TA):TA:=fun σ H Q=>ta σ H fun x H1=>tr σ H1 fun xs H2=>Q (x :: xs) H2
section
variable {X:Cx} {e:Expr} {es:List Expr} {te:TE} {t:TA} {pos:Pos}
theorem ja2:PA X [] tNil:=fun _ _ _ _ H Q I h=>Calls.spliced_nil ⟨[],H,I,.nil,h⟩
theorem ja0 (ha:PE X e te) (hr:PA X es t) (hs:starEach (e :: es) X.env = (false,eval e X.env) :: starEach es X.env:=by rfl):PA X (e :: es) (jdr te t):=by
 intro pos pins s σ H Q I h
 rw [hs]
 show wpAny _ _ (spliced ((false,eval e X.env) :: backTo pos (starEach es X.env))) _ _ s
 refine Calls.spliced_cons (thn (ha pins s σ H _ I h) fun u s1 ⟨x,H1,I1,r1,q1⟩=>?_)
 exact thn (hr pos pins s1 σ H1 _ I1 q1) fun us s2 ⟨xs,H2,I2,r2,q2⟩=>⟨x :: xs,H2,I2,.cons r1 r2,q2⟩
def tTup (t:TA):TE:=fun σ H Q=>t σ H fun xs H1=>xs.length ≤ sizeLine∧∀ p,H1 p = none→Q (.ref p) (upd H1 p (.tup xs))
def tLst (t:TA):TE:=fun σ H Q=>t σ H fun xs H1=>xs.length ≤ sizeLine∧∀ p,H1 p = none→Q (.ref p) (upd H1 p (.lst xs))
theorem jdg {x1} (h:PA X es t):PE X (.Tuple es x1 pos) (tTup t):=by
 intro pins s σ H Q I hq
 refine wpAny_Tuple_spliced (thn (h pos pins s σ H _ I hq) fun us s1 ⟨xs,H1,I1,r,z,q⟩=>⟨by rw [← r.length]; exact z,?_⟩)
 have hf:H1 s1.heap.objs.size = none:=I1.hok.fresh (Nat.le_refl _)
 refine ⟨.ref s1.heap.objs.size,upd H1 s1.heap.objs.size (.tup xs),I1.laid (t':=s1.toks) (fun b u e=>Heap.get?_push_of_some _ e) (Nat.le_refl _) ?_,rfl,q _ hf⟩
 exact ⟨z,us,r,⟨_,Heap.get?_push_size _ rfl,rfl,_,rfl⟩⟩
theorem jd3 (h:PA X es t):PE X (.List es pos) (tLst t):=by
 intro pins s σ H Q I hq
 refine wpAny_List_spliced (thn (h pos pins s σ H _ I hq) fun us s1 ⟨xs,H1,I1,r,z,q⟩=>⟨by rw [← r.length]; exact z,?_⟩)
 have hf:H1 s1.heap.objs.size = none:=I1.hok.fresh (Nat.le_refl _)
 refine ⟨.ref s1.heap.objs.size,upd H1 s1.heap.objs.size (.lst xs),I1.laid (t':=s1.toks) (fun b u e=>Heap.get?_push_of_some _ e) (Nat.le_refl _) ?_,rfl,q _ hf⟩
 exact ⟨z,us,0,r,Heap.get?_push_size _ rfl⟩
end
abbrev Sp:=List V→Hp→VK→XK→Prop
abbrev CXT:=List Env→Hp→Shared→XK→Value→Shared→Prop
structure Env0 (P:Program) (w:World) (K:PySem.W.Frag) (mg:Str→Option Value) (base:Heap) (A:Around) (outer:List Env) (s:Shared) (H:Hp):Prop where
 frames:A.frames = some outer
 mod:Mod K mg base
 bs:∀ b o,base.get? b = some o→s.heap.get? b = some o∧H b = none
 bsz:base.objs.size ≤ s.heap.objs.size
 funs:s.heap.FunFrames base outer
 frf:∀ b ∈ frs outer,H b = none
 hok:HOk P w H s.heap
 bare:AllBare s.gens
def CE (outer:List Env) (P:Program) (w:World) (H:Hp) (s:Shared) (Q:VK) (u:Value) (s':Shared):Prop :=
 ∃ v H',s'.os = s.os∧AllBare s'.gens∧Un (frs outer) [] H H' s.heap s'.heap∧HOk P w H' s'.heap∧RelV v u∧Q v H'
def CR (CX:CXT) (outer:List Env) (P:Program) (w:World) (H:Hp) (s:Shared) (Q:VK) (E:XK) (r:Result) (s':Shared):Prop :=
 match r with
 | .ok (.ret u)=>CE outer P w H s Q u s'
 | .ok _=>False
 | .error e=>CX outer H s E e s'
structure FnOk (P:Program) (w:World) (K:PySem.W.Frag) (mg:Str→Option Value) (base:Heap) (CX:CXT) (k:Nat) (f:Addr) (fd:FuncData) (ps:List Str) (sp:Sp):Prop where
 len:∀ vs H Q E,sp vs H Q E→vs.length = ps.length
 run:∀ (A:Around) (outer:List Env) (s:Shared) (H:Hp) (args:Args) (us:List Value) (vs:List V) (Q:VK) (E:XK),Room k A→Env0 P w K mg base A outer s H→BindsTo s fd args (ps.zip us)→Vals vs us→sp vs H Q E →
  codeAny (model P w) A (.call (.ref f) args) (CR CX outer P w H s Q E) s
theorem FnOk.mono {P:Program} {w:World} {K:PySem.W.Frag} {mg:Str→Option Value} {base:Heap} {CX:CXT} {j k:Nat} {f:Addr} {fd:FuncData} {ps:List Str} {sp:Sp} (F:FnOk P w K mg base CX j f fd ps sp) (h:j ≤ k) :
  FnOk P w K mg base CX k f fd ps sp:=⟨F.len,fun A outer s H args us vs Q E hr=>F.run A outer s H args us vs Q E (hr.mono h)⟩
theorem Env0.make {P:Program} {w:World} {K:PySem.W.Frag} {mg:Str→Option Value} {base:Heap} {A:Around} {outer:List Env} {s:Shared} {H:Hp} (e:Env0 P w K mg base A outer s H) (C:Addr) (us:List Value) (kw:List (Str × Value)) :
  Env0 P w K mg base (A.under (.builtin "type.__call__" ⟨.ref C :: us,kw⟩)) outer s H:=⟨by first | exact e.frames | (simpa [Around.under,Code.envs,Code.isFrame,pushEnvs] using e.frames),e.mod,e.bs,e.bsz,e.funs,e.frf,e.hok,e.bare⟩
section
variable {X:Cx} {pins:List (Addr × Obj)} {σ:St} {H:Hp} {s s':Shared}
theorem Inv.env0 (I:Inv X pins σ H s):Env0 X.prog X.w X.K X.mg X.base X.A X.stack s H :=
 ⟨I.ok.frames,I.ok.mod,I.bs,Nat.le_trans I.ok.bsz I.sz,I.stack,I.stkFree,I.hok,I.bare⟩
theorem Inv.after {Q:VK} {u:Value} (I:Inv X pins σ H s) (h:CE X.stack X.prog X.w H s Q u s'):EP X pins σ Q u s':=by
 obtain ⟨v,H',os,bare,un,hok,r,q⟩:=h
 obtain ⟨hh,g,d,t,os'⟩:=s'
 obtain rfl:os' = s.os:=os
 exact ⟨v,H',I.call (h':=hh) (g':=g) (d':=d) (t':=t) (ch:=[]) un hok bare (fun b z=>absurd z (by simp)),r,q⟩
end
def jjc (sp:Sp) (dvs:List V) (E:XK) (t:TA):TE:=fun σ H Q=>t σ H fun vs H1=>sp (vs ++ dvs) H1 Q E
def jfr (K:PySem.W.Frag) (fd:FuncData) (ps:List Str) (ds:List Value):Prop :=
 ∀ (s:Shared) (us:List Value),K.In s.heap→(us ++ ds).length = ps.length→BindsTo s fd ⟨us,[]⟩ (ps.zip (us ++ ds))
theorem jfr.all {K:PySem.W.Frag} {fd:FuncData} {ps:List Str} (h:∀ us:List Value,us.length = ps.length→bindArgs fd ⟨us,[]⟩ = pure (ps.zip us)):jfr K fd ps []:=fun s us _ hl=>by
 rw [List.append_nil] at hl ⊢
 exact .of_eq (h us hl)
def jon (CX:CXT) (X:Cx) (E:XK):Prop:=∀ (pins:List (Addr × Obj)) (σ:St) (H:Hp) (s:Shared) (e:Value) (s':Shared),Inv X pins σ H s→CX X.stack H s E e s'→X.xe e s'
section
variable {X:Cx} {CX:CXT} {k:Nat} {f C:Addr} {fd:FuncData} {ps:List Str} {sp:Sp} {dvs:List V} {ds:List Value} {E:XK} {x m:Str} {p pos apos:Pos} {e o:Expr} {es:List Expr} {ta:TE} {t:TA}
theorem run_fn {pins:List (Addr × Obj)} {σ:St} {H:Hp} {s:Shared} {Q:VK} {us:List Value} {vs:List V} (F:FnOk X.prog X.w X.K X.mg X.base CX k f fd ps sp) (hr:Room k X.A) (hb:jfr X.K fd ps ds) (hd:Vals dvs ds) (hx:jon CX X E)
  (I:Inv X pins σ H s) (r:Vals vs us) (h:sp (vs ++ dvs) H Q E):wpAny (model X.prog X.w) X.A (call (.ref f) us) (EP X pins σ Q) X.xe s:=by
 have r2:Vals (vs ++ dvs) (us ++ ds):=r.append hd
 have hl:(us ++ ds).length = ps.length:=by rw [← r2.length]; exact F.len _ _ _ _ h
 refine wpAny_call (codeAny_mono (F.run X.A X.stack s H ⟨us,[]⟩ (us ++ ds) (vs ++ dvs) Q E hr I.env0 (hb s us I.kIn hl) r2 h) fun r s' hq=>?_)
 cases r with
 | error e=>exact hx pins σ H s e s' I hq
 | ok fl =>
  cases fl with
  | ret u=>exact I.after hq
  | next=>exact False.elim hq
  | brk=>exact False.elim hq
  | cont=>exact False.elim hq
theorem jad (F:FnOk X.prog X.w X.K X.mg X.base CX k f fd ps sp) (hr:Room k X.A) (hg:Gl X x) (hm:X.mg x = some (.ref f)) (hk:PySem.W.keepIn X.K (.ref f) = true) (hb:jfr X.K fd ps ds) (hd:Vals dvs ds) (hx:jon CX X E)
  (ha:PA X (e :: es) t) (hdb:(x == ("__debug__":Str)) = false:=by decide) (he:starEach (e :: es) X.env = (false,eval e X.env) :: starEach es X.env:=by rfl) (hpl:(backTo pos (starEach es X.env)).any (·.1) = false:=by rfl) :
  PE X (.Call (.Name x p) (e :: es) [] pos) (jjc sp dvs E t):=by
 intro pins s σ H Q I h
 refine wpAny_Call_Name_kw (jdy I hg hm ?_ hdb)
 refine PySem.W.callWith_K (h₀:=X.base) I.ok.mod.kin hk (thn (ha pos pins s σ H _ I h) fun us s1 ⟨vs,H1,I1,r,q⟩=>⟨I1.kIn,?_⟩) he hpl
 exact run_fn F hr hb hd hx I1 r q
end
section
variable {X:Cx} {CX:CXT} {k:Nat} {f C:Addr} {fd:FuncData} {ps ks:List Str} {sp:Sp} {E:XK} {x m:Str} {p pos apos kpos:Pos} {e o:Expr} {es:List Expr} {kws:List Keyword} {te ta:TE} {t tk:TA} {nm:Option Str}
variable {g:List Value→List Value→List Value} {gV:List V→List V→List V}
end
structure FnScope (N P:List Str) (sc:Scope):Prop where
 kind:sc.kind = .function
 co:sc.isCoroutine = false
 gen:sc.isGenerator = false
 nd:N.Nodup
 pre:N.take P.length = P
 par:∀ x ∈ P,sc.names.lookup x = some .local ∨ sc.names.lookup x = some .cell
 nofree:∀ y ∈ sc.names,y.2 ≠ .free
theorem jiz {kindOf:Str→Option NameKind} {x:Str}:∀ {binds:List (Str × Value)} {m:Str→Option Value},(∀ v,(x,v) ∉ binds)→bindL kindOf binds m x = m x
 | [],_,_=>rfl
 | (n,v) :: r,m,h=>by
  unfold bindL
  rw [jiz fun w hw=>h w (List.mem_cons_of_mem _ hw)]
  split
  ·have:x ≠ n:=by rintro rfl; exact h v List.mem_cons_self
   simp [this]
  ·rfl
theorem jj1 {kindOf:Str→Option NameKind} {x:Str}:∀ {binds:List (Str × Value)} {m:Str→Option Value},(∀ v,(x,v) ∉ binds)→bindC kindOf binds m x = m x
 | [],_,_=>rfl
 | (n,v) :: r,m,h=>by
  unfold bindC
  rw [jj1 fun w hw=>h w (List.mem_cons_of_mem _ hw)]
  split
  ·rfl
  ·have:x ≠ n:=by rintro rfl; exact h v List.mem_cons_self
   simp [this]
theorem jj0 {kindOf:Str→Option NameKind} {x:Str} {v:Value}:∀ {P:List Str} {vs:List Value} {i:Nat} {m:Str→Option Value},P.Nodup→P[i]? = some x→vs[i]? = some v→kindOf x = some .local →
  bindL kindOf (P.zip vs) m x = some v
 | [],_,_,_,_,h,_,_=>by simp at h
 | _ :: _,[],_,_,_,_,h,_=>by simp at h
 | p :: P,w :: vs,0,m,nd,h1,h2,hk=>by
  simp at h1 h2; subst h1; subst h2
  show bindL kindOf ((p,w) :: P.zip vs) m p = _
  unfold bindL
  rw [jiz fun v hv=>(List.nodup_cons.mp nd).1 (List.of_mem_zip hv).1,if_pos hk]
  simp
 | p :: P,w :: vs,i + 1,m,nd,h1,h2,hk=>by
  show bindL kindOf ((p,w) :: P.zip vs) m x = _
  unfold bindL
  exact jj0 (i:=i) (List.nodup_cons.mp nd).2 (by simpa using h1) (by simpa using h2) hk
theorem jj2 {kindOf:Str→Option NameKind} {x:Str} {v:Value}:∀ {P:List Str} {vs:List Value} {i:Nat} {m:Str→Option Value},P.Nodup→P[i]? = some x→vs[i]? = some v→kindOf x ≠ some .local →
  bindC kindOf (P.zip vs) m x = some v
 | [],_,_,_,_,h,_,_=>by simp at h
 | _ :: _,[],_,_,_,_,h,_=>by simp at h
 | p :: P,w :: vs,0,m,nd,h1,h2,hk=>by
  simp at h1 h2; subst h1; subst h2
  show bindC kindOf ((p,w) :: P.zip vs) m p = _
  unfold bindC
  rw [jj1 fun v hv=>(List.nodup_cons.mp nd).1 (List.of_mem_zip hv).1,if_neg hk]
  simp
 | p :: P,w :: vs,i + 1,m,nd,h1,h2,hk=>by
  show bindC kindOf ((p,w) :: P.zip vs) m x = _
  unfold bindC
  exact jj2 (i:=i) (List.nodup_cons.mp nd).2 (by simpa using h1) (by simpa using h2) hk
def jd8 (N:List Str) (vs:List V):St:=vs.map some ++ List.replicate (N.length - vs.length) none
def cxOf (CX:CXT) (P:Program) (w:World) (K:PySem.W.Frag) (mg:Str→Option Value) (base:Heap) (N:List Str) (qual:Str) (scope:Scope) (f:Addr) (cd:Value) (A:Around) (outer:List Env) (s:Shared) (H:Hp) (E:XK):Cx where
 prog:=P
 w:=w
 K:=K
 mg:=mg
 base:=base
 A:=A.deeper (envOfC qual scope s.heap.objs.size f cd)
 N:=N
 s₀:=s
 H₀:=H
 env:=envOfC qual scope s.heap.objs.size f cd
 outer:=outer
 stack:=envOfC qual scope s.heap.objs.size f cd :: outer
 ex:=[]
 calm:=true
 fn:=fun _=>true
 pn:=[]
 xe:=fun e s'=>wpAny (model P w) (A.deeper (envOfC qual scope s.heap.objs.size f cd)) (leaving (envOfC qual scope s.heap.objs.size f cd) e) (fun _ s''=>CX outer H s E e s'') (fun e' s''=>CX outer H s E e' s'') s'
theorem jla {sc:Scope} {n:Nat} {x:Str} (h:sc.names.lookup x = some .cell):∃ c,(cellsFrom n sc.names []).lookup x = some c:=by
 have q:=PySem.W.cellsFrom_some sc.names n [] (.inl h)
 exact Option.isSome_iff_exists.mp q
theorem jnw {CX:CXT} {P:Program} {w:World} {K:PySem.W.Frag} {mg:Str→Option Value} {base:Heap} {N ps:List Str} {qual:Str} {scope:Scope} {f:Addr} {cd:Value} {A:Around} {outer:List Env} {s s1:Shared} {H:Hp} {E:XK} {us:List Value} {vs:List V}
  (S:FnScope N ps scope) (hd:A.handled = none) (e0:Env0 P w K mg base A outer s H) (hl:vs.length = ps.length) (r:Vals vs us)
  (x:InCallC s s.heap.objs.size (bindL (envOfC qual scope s.heap.objs.size f cd).kindOf (ps.zip us) fun _=>none) (cellsFrom (s.heap.objs.size + 1) scope.names []) (bindC (envOfC qual scope s.heap.objs.size f cd).kindOf (ps.zip us) fun _=>none) s1) :
  Inv (cxOf CX P w K mg base N qual scope f cd A outer s H E) [] (jd8 N vs) H s1:=by
 have hpl:ps.length ≤ N.length:=by have:=congrArg List.length S.pre; rw [List.length_take] at this; omega
 obtain ⟨h1,tk,rfl,hk⟩:=x.done
 have noA:∀ b:Addr,b ∉ (cxOf CX P w K mg base N qual scope f cd A outer s H E).ex:=fun b z=>absurd (show b ∈ ([]:List Addr) from z) (by simp)
 refine ⟨⟨e0.mod,S.kind,rfl,rfl,Nat.le_refl _,fun y z c h1 h2=>?_,fun y hy=>?_,fun y c _ h=>?_,fun _=>hd,Around.frames_deeper e0.frames,.inr ⟨rfl,rfl⟩,fun b z=>absurd z (noA b),e0.bs,e0.bsz,fun b _ _=>noA b,fun b z=>absurd z (noA b),e0.funs,e0.frf⟩,
  rfl,e0.bare,Un.kept hk,⟨_,x.toInCall.ns,fun i y v h1 h2 h3=>?_⟩,fun y c h=>⟨_,x.cell y c h⟩,e0.hok.fresh (Nat.le_refl _),fun y c h=>?_,fun p hp=>absurd (show p ∈ ([]:List (Addr × Obj)) from hp) (by simp),e0.hok.kept hk,?_⟩
 ·exact name_of_addr x.apart (PySem.mem_of_lookup h1) (PySem.mem_of_lookup h2)
 ·have hy:scope.names.lookup y = some .cell ∨ scope.names.lookup y = some .free:=hy
  rcases hy with hy | hy
  ·exact jla hy
  ·exact absurd rfl (S.nofree _ (PySem.mem_of_lookup hy))
 ·exact Nat.le_of_lt (x.above y c (PySem.mem_of_lookup h))
 ·have hi:i < vs.length:=by
   unfold jd8 at h2
   by_cases hi:i < vs.length
   ·exact hi
   ·rw [List.getElem?_append_right (by simpa using hi)] at h2
    rw [List.getElem?_replicate] at h2
    split at h2 <;> cases h2
  have ha:vs[i]? = some v:=by
   unfold jd8 at h2
   rw [List.getElem?_append_left (by simpa using hi),List.getElem?_map] at h2
   cases e:vs[i]? with
   | none=>rw [e] at h2; cases h2
   | some a=>rw [e] at h2; cases h2; rfl
  obtain ⟨u,hu,rv⟩:=r.get ha
  have hp:ps[i]? = some y:=by
   rw [← S.pre,List.getElem?_take_of_lt (by omega)]; exact h1
  have ndP:ps.Nodup:=by rw [← S.pre]; exact S.nd.sublist (List.take_sublist _ _)
  refine ⟨u,rv,?_⟩
  rcases S.par y (List.mem_of_getElem? hp) with k | k
  ·exact .inl ⟨k,jj0 ndP hp hu k⟩
  ·obtain ⟨c,e⟩:=jla (n:=s.heap.objs.size + 1) k
   refine .inr ⟨.inl k,c,e,?_⟩
   have q:=x.cell y c e
   rw [jj2 ndP hp hu (by show scope.names.lookup y ≠ _; rw [k]; decide)] at q
   exact q
 ·exact e0.hok.fresh (Nat.le_of_lt (x.above y c (PySem.mem_of_lookup h)))
 ·unfold jd8
  show _ = N.length
  rw [List.length_append,List.length_map,List.length_replicate]
  omega
theorem fn_of {CX:CXT} {P:Program} {w:World} {K:PySem.W.Frag} {mg:Str→Option Value} {base:Heap} {k:Nat} {f:Addr} {name qual:Str} {params:Arguments} {body:List Stmt} {scope:Scope} {dV kV doc pm cdv ct oc:Value} {an od:Option Addr}
  {osl:Array (Option Value)} {N ps:List Str} {sp:Sp} (lk:K.lookup f = some ⟨oc,od,.func (PySem.W.fnOf name qual params body scope dV kV doc pm an cdv ct),osl⟩) (hcd:PySem.W.codeIn K cdv qual = true) (S:FnScope N ps scope)
  (len:∀ vs H Q E,sp vs H Q E→vs.length = ps.length)
  (hbody:∀ (A:Around) (outer:List Env) (s:Shared) (H:Hp) (vs:List V) (Q:VK) (E:XK),Room k (A.deeper (envOfC qual scope s.heap.objs.size f cdv))→sp vs H Q E →
   ∃ t,PSs (cxOf CX P w K mg base N qual scope f cdv A outer s H E) body t∧t { nx:=fun _ H'=>Q .non H',rt:=Q } (jd8 N vs) H) :
  FnOk P w K mg base CX (k + 1) f (PySem.W.fnOf name qual params body scope dV kV doc pm an cdv ct) ps sp:=by
 refine ⟨len,fun A outer s H args us vs Q E hr e0 hb r hsp=>?_⟩
 have hl:=len _ _ _ _ hsp
 have KX:K.In s.heap:=e0.mod.kin.keeps fun b o e=>(e0.bs b o e).1
 have lim:s.heap.NoLimit:=e0.mod.nolimit.keeps fun b o e=>(e0.bs b o e).1
 have hkind:∀ y ∈ ps.zip us,scope.names.lookup y.1 = some .local ∨ (scope.names.lookup y.1 = some .cell∧((cellsFrom (s.heap.objs.size + 1) scope.names []).lookup y.1).isSome = true):=fun ⟨n,v⟩ hy=>by
  rcases S.par n (List.of_mem_zip hy).1 with q | q
  ·exact .inl q
  ·exact .inr ⟨q,PySem.W.cellsFrom_some _ _ _ (.inl q)⟩
 refine codeAny_call_function hr.depth (KX _ _ lk) rfl S.co S.gen rfl (PySem.W.codeRec_of KX hcd) (hb _ _ _ _ ?_)
 refine wpAny_newFunctionEnv_cells S.kind hkind fun env he s1 x=>?_
 subst he
 refine ⟨lim.keeps x.toInCall.keep,codeAny_func ?_⟩
 obtain ⟨t,ht,hq⟩:=hbody A outer s H vs Q E (hr.deeper _) hsp
 have I:Inv (cxOf CX P w K mg base N qual scope f cdv A outer s H E) [] (jd8 N vs) H s1:=jnw S hr.hd e0 hl r x
 refine wpAny_mono (ht [] s1 (jd8 N vs) H _ I hq) (fun fl s' hs=>?_) fun e s' hs=>hs
 have fin:∀ {σ':St} {H':Hp} {v:V} {u:Value},Inv (cxOf CX P w K mg base N qual scope f cdv A outer s H E) [] σ' H' s'→RelV v u→Q v H'→CE outer P w H s Q u s' :=
  fun {σ' H' v u} J rv q=>⟨v,H',J.os,J.bare,J.base,J.hok,rv,q⟩
 cases fl with
 | ret u =>
  obtain ⟨v,σ',H',J,rv,q⟩:=hs
  exact fin J rv q
 | next =>
  obtain ⟨σ',H',J,q⟩:=hs
  exact fin (v:=V.non) (u:=Value.none) J rfl q
 | brk =>
  obtain ⟨_,_,_,q⟩:=hs
  exact False.elim q
 | cont =>
  obtain ⟨_,_,_,q⟩:=hs
  exact False.elim q
end L2
namespace L2
open PySem PySem.Spec PyProof.Rows
section
variable {X:Cx} {x:Str} {p pos:Pos} {e:Expr} {es:List Expr} {t:TA} {id T:String} {r:List V→Hp→VK→Prop}
def tCB (r:List V→Hp→VK→Prop) (t:TA):TE:=fun σ H Q=>t σ H fun vs H1=>r vs H1 Q
theorem jac (hc:jbi X (.builtin id) r) (hg:Gl X x) (hm:X.mg x = none) (hv:bootBuiltins x = some (.builtin id)) (ha:PA X (e :: es) t) (hn:x ≠ "__name__":=by decide) (hdb:(x == ("__debug__":Str)) = false:=by decide)
  (he:starEach (e :: es) X.env = (false,eval e X.env) :: starEach es X.env:=by rfl) (hpl:(backTo pos (starEach es X.env)).any (·.1) = false:=by rfl):PE X (.Call (.Name x p) (e :: es) [] pos) (tCB r t):=by
 intro pins s σ H Q I h
 refine wpAny_Call_Name_kw (jf5 I hg hm hv ?_ hn hdb)
 exact PyProof.Rows.callWith_builtin1 (thn (ha pos pins s σ H _ I h) fun us s1 ⟨vs,H1,I1,r1,q1⟩=>hc pins s1 σ H1 vs us Q I1 r1 q1) he hpl
theorem jbk (hc:jbi X (.type T) r) (hg:Gl X x) (hm:X.mg x = none) (hv:bootBuiltins x = some (.type T)) (ha:PA X (e :: es) t) (hn:x ≠ "__name__":=by decide) (hdb:(x == ("__debug__":Str)) = false:=by decide)
  (he:starEach (e :: es) X.env = (false,eval e X.env) :: starEach es X.env:=by rfl) (hpl:(backTo pos (starEach es X.env)).any (·.1) = false:=by rfl):PE X (.Call (.Name x p) (e :: es) [] pos) (tCB r t):=by
 intro pins s σ H Q I h
 refine wpAny_Call_Name_kw (jf5 I hg hm hv ?_ hn hdb)
 exact PyProof.Rows.callWith_type1 (thn (ha pos pins s σ H _ I h) fun us s1 ⟨vs,H1,I1,r1,q1⟩=>hc pins s1 σ H1 vs us Q I1 r1 q1) he hpl
end
end L2
namespace HT
open PySem PyProof.Rows
def lexLt:List Int→List Int→Bool
 | [],[]=>false
 | [],_ :: _=>true
 | _ :: _,[]=>false
 | x :: xs,y :: ys=>if x = y then lexLt xs ys else decide (x < y)
theorem lexLt_cons (x y:Int) (xs ys:List Int):lexLt (x :: xs) (y :: ys) = if x = y then lexLt xs ys else decide (x < y):=rfl
theorem jgs:lexLt [] [] = false:=rfl
theorem jfn (y:Int) (ys:List Int):lexLt [] (y :: ys) = true:=rfl
theorem jfo (x:Int) (xs:List Int):lexLt (x :: xs) [] = false:=rfl
theorem jpo (A:Around) (s:Shared) (a:Int) (t:Tok) (c:Int) (u:Tok):∃ e,SeqAt.EqAt A s (.int a t) (.int c u) e∧(e = true ↔ a = c) :=
 ⟨(a == c),SeqAt.EqAt.int_int a t c u,by simp⟩
theorem joz (A:Around) (s:Shared) (a:Int) (t:Tok) (c:Int) (u:Tok) (prog:Program) (w:World) (E:Value→Shared→Prop) (Q:Value→Shared→Prop) (h:Q (.bool (decide (a < c))) s) :
  wpAny (model prog w) A (richCompare .Lt (.int a t) (.int c u)) Q E s :=
 (PyProof.Rows.lt_int h:wpAny (model prog w) A (compareOp .Lt (.int a t) (.int c u)) Q E s)
section
open PySem.SeqAt
open PySem.AutoSeq1 (wpAny_loadPart')
open PySem.MeetsSeq PySem.MeetsSeq2 PySem.MeetsSeq3
theorem jgc (l b:Addr) (items items2:Array Value) (n n2:Nat) (dd dd2:Option Addr) (sl sl2:Array (Option Value)) (ns ms:List Int) (hi:IntsAre items.toList ns) (hj:IntsAre items2.toList ms) :
  Meets (Builtin.«tuple.__lt__» ⟨[.ref l,.ref b],[]⟩)
   (fun _ R s=>s.heap.get? l = some { cls:=.type "tuple",dict:=dd,data:=.seq items n,slots:=sl }∧s.heap.get? b = some { cls:=.type "tuple",dict:=dd2,data:=.seq items2 n2,slots:=sl2 } ∧
    R (.ok (.ret (.bool (lexLt ns ms)))) s) :=
 .of_wp fun prog w A R s h=>by
  obtain ⟨hp,g,d,tk,os⟩:=s; obtain ⟨hl,hb,h⟩:=h
  have f2:=AutoSeq1.sub_tuple_tuple
  have z1:items.size = ns.length:=by rw [← hi.length]; simp
  have z2:items2.size = ms.length:=by rw [← hj.length]; simp
  wp_walk using wpAny_loadPart' hl,wpAny_loadPart' hb,wpAny_forIn_list _ (fun rest b s'=>b.1 = none∧s' = ⟨hp,g,d,tk,os⟩∧∃ (vs ws:List Value) (ns' ms':List Int),rest = vs.zip ws ∧
   IntsAre vs ns'∧IntsAre ws ms'∧ns'.length + items2.size = ms'.length + items.size∧R (.ok (.ret (.bool (lexLt ns' ms')))) ⟨hp,g,d,tk,os⟩) _
  case turn =>
   rintro ⟨y,x⟩ rest b s' ⟨hb',rfl,vs,ws,ns',ms',hz,hvi,hwi,hlen,hR⟩
   cases hvi with
   | nil=>rw [List.zip_nil_left] at hz; cases hz
   | cons a t hvi' =>
    cases hwi with
    | nil=>rw [List.zip_nil_right] at hz; cases hz
    | cons c u hwi' =>
     rw [List.zip_cons_cons] at hz
     injection hz with hyx hrest
     injection hyx with hy hx
     subst hy hx
     rw [lexLt_cons] at hR
     simp only [List.length_cons] at hlen
     obtain ⟨e,he,hiff⟩:=jpo A.in1 ⟨hp,g,d,tk,os⟩ a t c u
     refine wpAny_bind (he prog w _ _ ?_)
     cases e with
     | true =>
      rw [if_pos (hiff.mp rfl)] at hR
      wp_walk
      exact ⟨rfl,rfl,_,_,_,_,hrest,hvi',hwi',by omega,hR⟩
     | false =>
      rw [if_neg (fun q=>absurd (hiff.mpr q) Bool.false_ne_true)] at hR
      have hri:=joz A.in1 ⟨hp,g,d,tk,os⟩ a t c u prog w
      wp_walk using hri
      exact ⟨_,rfl,by simpa using hR⟩
  case fin =>
   rintro ⟨b1,b2⟩ s' ⟨hb',rfl,vs,ws,ns',ms',hz,hvi,hwi,hlen,hR⟩
   simp only at hb'
   subst hb'
   have hv:lexLt ns' ms' = decide (items.size < items2.size):=by
    cases hvi with
    | nil =>
     cases hwi with
     | nil =>
      simp only [List.length_nil] at hlen
      rw [jgs]
      exact (decide_eq_false (by omega)).symm
     | cons c u hw =>
      simp only [List.length_nil,List.length_cons] at hlen
      rw [jfn]
      exact (decide_eq_true (by omega)).symm
    | cons a t hv =>
     cases hwi with
     | nil =>
      simp only [List.length_nil,List.length_cons] at hlen
      rw [jfo]
      exact (decide_eq_false (by omega)).symm
     | cons c u hw =>
      rw [List.zip_cons_cons] at hz
      cases hz
   rw [hv] at hR
   wp_walk
   exact ⟨_,rfl,by simpa [Builtin.Tuple.tupleCompareSizes] using hR⟩
  case h =>
   exact ⟨rfl,rfl,items.toList,items2.toList,ns,ms,rfl,hi,hj,by omega,h⟩
end
section
variable {prog:Program} {w:World} {A:Around} {E:Value→Shared→Prop} {s:Shared}
theorem lt_tupInts {l b:Addr} {items items2:Array Value} {ns ms:List Int} {Q:Value→Shared→Prop} (hl:IsTup s.heap l items) (hb:IsTup s.heap b items2) (hi:IntsAre items.toList ns) (hj:IntsAre items2.toList ms)
  (hu:A.units < cLine) (h:Q (.bool (lexLt ns ms)) s):wpAny (model prog w) A (compareOp .Lt (.ref l) (.ref b)) Q E s:=by
 obtain ⟨⟨cls,dd,data,sl⟩,ho,hc,n,hd⟩:=id hl
 obtain ⟨⟨cls2,dd2,data2,sl2⟩,ho2,hc2,n2,hd2⟩:=id hb
 simp only at hc hd hc2 hd2
 subst hc hd hc2 hd2
 exact richCompare_meets_room (op:=.Lt) ⟨_,ho,rfl⟩ ⟨_,ho2,rfl⟩ PySem.F.slot_tuple_lt PySem.F.entry_tuple_lt (PySem.F.args_tuple_lt_2 _ _) (jgc l b items items2 n n2 dd dd2 sl sl2 ns ms hi hj)
  ⟨ho,ho2,show Value.bool (lexLt ns ms) ≠ Value.notImplemented∧Q (.bool (lexLt ns ms)) s from ⟨(fun x=>nomatch x),h⟩⟩ hu
def sIx (n d:Nat):Option Int→Nat
 | none=>d
 | some v=>if v < 0 then (v + (n:Int)).toNat else min v.toNat n
theorem sIx_le (n d:Nat) (hd:d ≤ n) (o:Option Int):sIx n d o ≤ n:=by
 cases o with
 | none=>exact hd
 | some v =>
  show (if v < 0 then (v + (n:Int)).toNat else min v.toNat n) ≤ n
  by_cases hv:v < 0
  ·rw [if_pos hv]; omega
  ·rw [if_neg hv]; exact Nat.min_le_right _ _
theorem jod (v:Int) (n d:Nat):(if v < 0 then max (v + (n:Int)) 0 else min v (n:Int)) = ((sIx n d (some v):Nat):Int):=by
 show (if v < 0 then max (v + (n:Int)) 0 else min v (n:Int)) = (((if v < 0 then (v + (n:Int)).toNat else min v.toNat n):Nat):Int)
 by_cases hv:v < 0
 ·simp only [if_pos hv]; omega
 ·simp only [if_neg hv]; omega
theorem jm6 (lo hi:Option Int) (n:Nat):Builtin.Slice.sliceAdjust lo hi 1 (n:Int) = (((sIx n 0 lo:Nat):Int),((sIx n n hi:Nat):Int)):=by
 have h1:¬ ((1:Int) < 0):=by omega
 unfold Builtin.Slice.sliceAdjust
 simp only [h1,if_false]
 refine Prod.ext ?_ ?_
 ·cases lo with
  | none=>rfl
  | some v=>exact jod v n 0
 ·cases hi with
  | none=>rfl
  | some v=>exact jod v n n
theorem jlm (i j:Nat):Builtin.Slice.slicePlaces (i:Int) (j:Int) 1 = j - i:=by
 unfold Builtin.Slice.slicePlaces
 have h1:(1:Int) > 0:=by omega
 simp only [h1,if_true,Int.ediv_one]
 split <;> omega
theorem jfv {v:Value} {o:Option Int} {Q:Option Int→Shared→Prop} (p:IsPart v o) (h:Q o s):wpAny (model prog w) A (Builtin.Slice.slicePartIndex v) Q E s:=by
 cases p with
 | none=>exact slicePart_none h
 | int i t=>exact slicePart_int h
theorem je7 {sl:Addr} {vl vu:Value} {lo hi:Option Int} {n:Nat} {Q:Int × Int × Nat→Shared→Prop} (hs:s.heap.IsSliceOf sl vl vu .none) (pl:IsPart vl lo) (pu:IsPart vu hi)
  (h:Q (((sIx n 0 lo:Nat):Int),1,sIx n n hi - sIx n 0 lo) s):wpAny (model prog w) A (Builtin.Slice.sliceApplied (.ref sl) (pure (n:Int))) Q E s:=by
 obtain ⟨os,hos,hcs,hds⟩:=id hs
 unfold Builtin.Slice.sliceApplied Builtin.Slice.sliceFields
 refine wpAny_bind (wpAny_bind (wpAny_field hos hds (x:=vl) rfl (wpAny_bind (wpAny_field hos hds (x:=vu) rfl (wpAny_bind (wpAny_field hos hds (x:=.none) rfl (wpAny_pure ?_)))))))
 refine wpAny_bind (slicePart_none ?_)
 show wpAny _ _ (if ((1:Int) == 0) = true then _ else _) _ _ s
 rw [if_neg (by decide)]
 refine wpAny_bind (jfv pl (wpAny_bind (jfv pu (wpAny_bind (wpAny_pure ?_)))))
 show wpAny _ _ (match Builtin.Slice.sliceAdjust lo hi 1 (n:Int) with | (lo,hi)=>pure (lo,(1:Int),Builtin.Slice.slicePlaces lo hi 1)) _ _ s
 rw [jm6 lo hi n]
 show wpAny _ _ (pure (((sIx n 0 lo:Nat):Int),(1:Int),Builtin.Slice.slicePlaces ((sIx n 0 lo:Nat):Int) ((sIx n n hi:Nat):Int) 1)) _ _ s
 rw [jlm]
 exact wpAny_pure h
theorem jp6 (xs:Array Value) (i k:Nat):((List.range k).filterMap fun (m:Nat)=>xs[((i:Int) + (m:Int) * 1).toNat]?).toArray = ((xs.toList.drop i).take k).toArray:=by
 have e:(fun (m:Nat)=>xs[((i:Int) + (m:Int) * 1).toNat]?) = fun m=>xs[i + m]?:=by
  funext m
  have:((i:Int) + (m:Int) * 1).toNat = i + m:=by omega
  rw [this]
 rw [e]
 have:=pick_run xs i k
 rw [List.filterMap_map] at this
 have e2:((fun x=>xs[x]?) ∘ fun x=>i + x) = fun m=>xs[i + m]?:=rfl
 rw [e2] at this
 rw [this]
theorem getItem_tuple_cut {t sl:Addr} {items:Array Value} {vl vu:Value} {lo hi:Option Int} {Q:Value→Shared→Prop} (ht:IsTup s.heap t items) (hs:s.heap.IsSliceOf sl vl vu .none) (pl:IsPart vl lo) (pu:IsPart vu hi)
  (hw:¬ (sIx items.size 0 lo = 0∧sIx items.size items.size hi = items.size))
  (h:Q (.ref s.heap.objs.size) { s with heap:=s.heap.push { cls:=.type "tuple",data:=.seq ((items.toList.drop (sIx items.size 0 lo)).take (sIx items.size items.size hi - sIx items.size 0 lo)).toArray } })
  (hsz:items.size ≤ sizeLine):wpAny (model prog w) A (getItem (.ref t) (.ref sl)) Q E s:=by
 have htake:sizeOk (.seq ((items.toList.drop (sIx items.size 0 lo)).take (sIx items.size items.size hi - sIx items.size 0 lo)).toArray):=by
  show ((items.toList.drop (sIx items.size 0 lo)).take (sIx items.size items.size hi - sIx items.size 0 lo)).toArray.size ≤ sizeLine
  rw [List.size_toArray,List.length_take,List.length_drop,Array.length_toList]
  omega
 have hj:sIx items.size items.size hi ≤ items.size:=sIx_le _ _ (Nat.le_refl _) hi
 obtain ⟨os,hos,hcs,hds⟩:=id hs
 have hTs:s.TypeIs (.ref sl) "slice":=⟨os,hos,hcs⟩
 unfold getItem
 try with_reducible refine wpAny_holding ?_
 first | refine wpAny_bind (wpAny_pure ?_) | skip
 refine wpAny_bind (wpAny_sequenceKey ht.typeIs (by decide) ?_)
 refine wpAny_bind (wpAny_callSpecial?_slot (name:=Str.ofString "__getitem__") ht.typeIs PyProof.Rows.slot_tuple_getitem
  (wpAny_call_entry PyProof.Rows.slot_tuple_getitem ht.typeIs entry_tuple_getitem ?_ (args_tuple_getitem _ _)))
 show wpAny _ _ (Builtin.Tuple.tupleItemsOf (.ref t) >>= _) _ _ s
 refine wpAny_bind (tupleItemsOf_ ht ?_)
 refine wpAny_bind (wpAny_typeOf hTs ?_)
 rw [if_pos (by decide)]
 refine wpAny_bind (je7 hs pl pu ?_)
 have hno:¬ ((((sIx items.size 0 lo:Nat):Int) == 0 && (1:Int) == 1 && (sIx items.size items.size hi - sIx items.size 0 lo) == items.size) = true):=by
  intro q
  rw [Bool.and_eq_true,Bool.and_eq_true] at q
  have q1:((sIx items.size 0 lo:Nat):Int) = 0:=eq_of_beq q.1.1
  have q2:sIx items.size items.size hi - sIx items.size 0 lo = items.size:=eq_of_beq q.2
  exact hw ⟨by omega,by omega⟩
 show wpAny _ _ (if (((sIx items.size 0 lo:Nat):Int) == 0 && (1:Int) == 1 && (sIx items.size items.size hi - sIx items.size 0 lo) == items.size) = true then _ else _) _ _ s
 rw [if_neg hno,jp6]
 first
  | exact wpAny_bind (m:=Builtin.Tuple.tupleExact _) (wpAny_newObj_type (wpAny_pure ⟨_,rfl,wpAny_pure h⟩) htake)
  | exact wpAny_bind (m:=Builtin.Tuple.tupleExact _) (wpAny_newObj_type (wpAny_bind (wpAny_pure (wpAny_pure ⟨_,rfl,wpAny_pure h⟩))) htake)
  | exact wpAny_bind (wpAny_bind (m:=Builtin.Tuple.tupleExact _) (wpAny_newObj_type (wpAny_pure (wpAny_pure ⟨_,rfl,wpAny_pure h⟩)) htake))
  | exact wpAny_bind (wpAny_bind (m:=Builtin.Tuple.tupleExact _) (wpAny_newObj_type (wpAny_pure ⟨_,rfl,wpAny_pure h⟩) htake))
end
end HT
namespace L2
open PySem PySem.Spec PyProof.Rows
abbrev TO:=St→Hp→(Option Int→Hp→Prop)→Prop
def PO (X:Cx) (e:Option Expr) (t:TO):Prop :=
 ∀ (pins:List (Addr × Obj)) (s:Shared) (σ:St) (H:Hp) (Q:Option Int→Hp→Prop),Inv X pins σ H s→t σ H Q →
  wpAny (model X.prog X.w) X.A (evalPart e X.env) (fun u s'=>∃ o H',Inv X pins σ H' s'∧IsPart u o∧Q o H') X.xe s
def jd6:TO:=fun _ H Q=>Q none H
theorem jc7 {ns:List Int}:∀ {us:List Value},Vals (ns.map V.int) us→IntsAre us ns:=by
 induction ns with
 | nil=>intro us r; rw [List.map_nil] at r; cases r; exact .nil
 | cons n ns ih =>
  intro us r
  rw [List.map_cons] at r
  cases r with
  | cons r1 r2 =>
   obtain ⟨t,e⟩:=r1
   subst e
   exact .cons n t (ih r2)
section
variable {X:Cx} {e:Expr} {te:TE} {lo hi:Option Expr} {tl th:TO} {pos p2:Pos}
theorem jdv:PO X none jd6:=by
 intro pins s σ H Q I h
 rw [evalPart_none]
 exact wpAny_pure ⟨none,H,I,.none,h⟩
def SlR (X:Cx) (r:V→Option Int→Option Int→Hp→VK→Prop):Prop :=
 ∀ (pins:List (Addr × Obj)) (s:Shared) (σ:St) (H:Hp) (x:V) (v vl vu:Value) (lo hi:Option Int) (sl:Addr) (Q:VK),Inv X pins σ H s→RelV x v→s.heap.IsSliceOf sl vl vu .none→IsPart vl lo→IsPart vu hi→r x lo hi H Q →
  ∃ T id,typeLookup (.type T) "__getitem__" = pure (some (.builtin id))∧s.TypeIs v T∧wpAny (model X.prog X.w) X.A (getItem v (.ref sl)) (EP X pins σ Q) X.xe s
def tSl (r:V→Option Int→Option Int→Hp→VK→Prop) (te:TE) (tl th:TO):TE:=fun σ H Q=>te σ H fun x H1=>tl σ H1 fun l H2=>th σ H2 fun u H3=>r x l u H3 Q
theorem jbn {r:V→Option Int→Option Int→Hp→VK→Prop} (hr:SlR X r) (he:PE X e te) (hl:PO X lo tl) (hu:PO X hi th):PE X (.Subscript e (.Slice lo hi none p2) pos) (tSl r te tl th):=by
 intro pins s σ H Q I h
 refine Subscript_ (thn (he pins s σ H _ I h) fun v s1 ⟨x,H1,I1,r1,q1⟩=>?_)
 refine wpAny_Slice (thn (hl pins s1 σ H1 _ I1 q1) fun vl s2 ⟨l,H2,I2,pl,q2⟩=>thn (hu pins s2 σ H2 _ I2 q2) fun vu s3 ⟨u,H3,I3,pu,q3⟩=>?_)
 rw [evalPart_none]
 refine wpAny_pure ?_
 have I4:Inv X pins σ H3 { s3 with heap:=s3.heap.push { cls:=.type "slice",data:=.fields #[vl,vu,.none] } }:=I3.kept (t':=s3.toks) fun b ob q=>Heap.get?_push_of_some _ q
 obtain ⟨T,id,hT,ht,hg⟩:=hr pins { s3 with heap:=s3.heap.push { cls:=.type "slice",data:=.fields #[vl,vu,.none] } } σ H3 x v vl vu l u s3.heap.objs.size Q I4 r1 (Heap.IsSliceOf.new ..) pl pu q3
 show wpAny (model X.prog X.w) X.A (subscriptTail e (.Slice lo hi none p2) v (.ref s3.heap.objs.size)) (EP X pins σ Q) X.xe { s3 with heap:=s3.heap.push { cls:=.type "slice",data:=.fields #[vl,vu,.none] } }
 exact tail_any (ops:=[.ref s3.heap.objs.size,v]) ht hT hg (by with_unfolding_all rfl)
def cutV (xs:List V) (lo hi:Option Int):List V:=(xs.drop (HT.sIx xs.length 0 lo)).take (HT.sIx xs.length xs.length hi - HT.sIx xs.length 0 lo)
theorem jff (xs:List V) (lo hi:Option Int):(cutV xs lo hi).length ≤ xs.length:=by
 unfold cutV
 rw [List.length_take,List.length_drop]
 omega
def rSlT (K:PySem.W.Frag):V→Option Int→Option Int→Hp→VK→Prop:=fun x lo hi H Q=>∃ a xs,x = .ref a∧SqT K H a xs ∧
 ¬ (HT.sIx xs.length 0 lo = 0∧HT.sIx xs.length xs.length hi = xs.length)∧∀ p,H p = none→Q (.ref p) (upd H p (.tup (cutV xs lo hi)))
theorem sl_tup:SlR X (rSlT X.K):=by
 intro pins s σ H x v vl vu lo hi sl Q I rx hs pl pu h
 obtain ⟨a,xs,rfl,hx,hw,q⟩:=h
 cases rx
 obtain ⟨its,r,ht,hz⟩:=I.tuple hx
 have hlen:its.toArray.size = xs.length:=by rw [List.size_toArray]; exact r.length.symm
 refine ⟨"tuple",_,PyProof.Rows.slot_tuple_getitem.lookup,ht.typeIs,?_⟩
 refine HT.getItem_tuple_cut ht hs pl pu (by rw [hlen]; exact hw) ?_ (by rw [hlen]; exact hz)
 rw [hlen]
 refine ⟨.ref s.heap.objs.size,_,I.laid (t':=s.toks) (o:=.tup (cutV xs lo hi)) (fun b ob q=>Heap.get?_push_of_some _ q) (Nat.le_refl _) ?_,rfl,q _ (I.hok.fresh (Nat.le_refl _))⟩
 exact ⟨Nat.le_trans (jff xs lo hi) hz,_,(r.drop (HT.sIx xs.length 0 lo)).take (HT.sIx xs.length xs.length hi - HT.sIx xs.length 0 lo),IsTup.new _ _⟩
def rLtT (K:PySem.W.Frag):R2:=fun x y H Q=>∃ a b ns ms,x = .ref a∧y = .ref b∧SqT K H a (ns.map V.int)∧SqT K H b (ms.map V.int)∧Q (.bl (HT.lexLt ns ms)) H
theorem op_ltT (hu:X.A.units < cLine):OpR X (compareOp .Lt) (rLtT X.K):=by
 intro pins s σ H x y v u Q I rx ry h
 obtain ⟨a,b,ns,ms,rfl,rfl,ha,hb,q⟩:=h
 cases rx
 cases ry
 obtain ⟨its,r1,p1,_⟩:=I.tuple ha
 obtain ⟨its2,r2,p2,_⟩:=I.tuple hb
 have i1:IntsAre its.toArray.toList ns:=jc7 r1
 have i2:IntsAre its2.toArray.toList ms:=jc7 r2
 exact HT.lt_tupInts p1 p2 i1 i2 hu ⟨.bl (HT.lexLt ns ms),H,I,rfl,q⟩
end
end L2
namespace L2
open PySem PySem.Spec PyProof.Rows
def ixN (n:Nat) (i:Int):Option Nat:=if 0 ≤ i then (if i < n then some i.toNat else none) else if -(n:Int) ≤ i then some (i + n).toNat else none
def atI {α:Type} (xs:List α) (i:Int):Option α:=(ixN xs.length i).bind fun j=>xs[j]?
theorem jnu {n:Nat} {i:Int} {j:Nat} (h:ixN n i = some j):seqIndex? i n = some j∧j < n∧-(n:Int) ≤ i∧i < n:=by
 unfold ixN at h
 by_cases h0:0 ≤ i
 ·rw [if_pos h0] at h
  by_cases h1:i < n
  ·rw [if_pos h1] at h
   have e:i.toNat = j:=Option.some.inj h
   exact ⟨by rw [seqIndex_of h0 h1,e],by omega,by omega,h1⟩
  ·rw [if_neg h1] at h; cases h
 ·rw [if_neg h0] at h
  by_cases h1:-(n:Int) ≤ i
  ·rw [if_pos h1] at h
   have e:(i + n).toNat = j:=Option.some.inj h
   exact ⟨by rw [seqIndex_neg (by omega) h1,e],by omega,h1,by omega⟩
  ·rw [if_neg h1] at h; cases h
theorem joi {α:Type} {xs:List α} {i:Int} {v:α} (h:atI xs i = some v):∃ j,seqIndex? i xs.length = some j∧xs[j]? = some v∧j < xs.length∧-(xs.length:Int) ≤ i∧i < xs.length:=by
 unfold atI at h
 cases e:ixN xs.length i with
 | none=>rw [e] at h; cases h
 | some j =>
  rw [e] at h
  obtain ⟨h1,h2,h3,h4⟩:=jnu e
  exact ⟨j,h1,h,h2,h3,h4⟩
theorem jdb {α:Type} {xs:List α} {j:Nat} {v:α} (h:xs[j]? = some v):atI xs (j:Int) = some v:=by
 have hj:j < xs.length:=(List.getElem?_eq_some_iff.mp h).1
 have e:ixN xs.length (j:Int) = some j:=by
  unfold ixN
  rw [if_pos (by omega),if_pos (by omega)]; simp
 unfold atI; rw [e]; exact h
def jri (b:Expr):Prop:=∀ o i,subscripted b false o i = operate [o,i] (getItem o i)
def IxR (X:Cx) (r:R2):Prop :=
 ∀ (value slice:Expr) (pins:List (Addr × Obj)) (s:Shared) (σ:St) (H:Hp) (x y:V) (v u:Value) (Q:VK),Inv X pins σ H s→RelV x v→RelV y u→r x y H Q →
  subscripted slice false v u = operate [v,u] (getItem v u)→wpAny (model X.prog X.w) X.A (subscriptTail value slice v u) (EP X pins σ Q) X.xe s
def MtR (X:Cx) (id:String) (r:V→List V→Hp→VK→Prop):Prop :=
 ∀ (pins:List (Addr × Obj)) (s:Shared) (σ:St) (H:Hp) (x:V) (xs:List V) (v:Value) (us:List Value) (Q:VK),Inv X pins σ H s→RelV x v→Vals xs us→r x xs H Q →
  wpAny (model X.prog X.w) X.A (call (.builtin id) (v :: us)) (EP X pins σ Q) X.xe s
section
variable {X:Cx} {a b:Expr} {ta tb:TE} {pos:Pos}
theorem IxR.or {r r':R2} (h:IxR X r) (h':IxR X r'):IxR X (fun x y H Q=>r x y H Q ∨ r' x y H Q):=by
 intro value slice pins s σ H x y v u Q I rx ry q hs
 rcases q with q | q
 ·exact h value slice pins s σ H x y v u Q I rx ry q hs
 ·exact h' value slice pins s σ H x y v u Q I rx ry q hs
theorem jaq {r:R2} (hr:IxR X r) (ha:PE X a ta) (hb:PE X b tb) (hs:jri b):PE X (.Subscript a b pos) (tOp r ta tb):=by
 intro pins s σ H Q I h
 exact Subscript_ (binT ha hb I h fun v u s2 x y H2 I2 rx ry q=>hr a b pins s2 σ H2 x y v u Q I2 rx ry q (hs _ _))
def rIxL (K:PySem.W.Frag):R2:=fun x y H Q=>∃ p xs i v,x = .ref p∧y = .int i∧SqL K H p xs∧atI xs i = some v∧Q v H
def rIxT (K:PySem.W.Frag):R2:=fun x y H Q=>∃ p xs i v,x = .ref p∧y = .int i∧SqT K H p xs∧atI xs i = some v∧Q v H
theorem jnt:IxR X (rIxL X.K):=by
 intro value slice pins s σ H x y v u Q I rx ry h hs
 obtain ⟨p,xs,i,z,rfl,rfl,hq,he,q⟩:=h
 cases rx
 obtain ⟨t,rfl⟩:=ry
 obtain ⟨its,r,pl,hz⟩:=I.list hq
 obtain ⟨j,h1,h2,h3,h4,h5⟩:=joi he
 obtain ⟨w,ew,rw'⟩:=r.get h2
 have hl:=r.length
 have hn:=jin
 have fin:EP X pins σ Q w s:=⟨z,H,I,rw',q⟩
 by_cases h0:0 ≤ i
 ·have hj:i.toNat = j:=by
   rw [seqIndex_of h0 h5] at h1
   exact Option.some.inj h1
  exact item_listR pl.isList h0 (by omega) (by rw [hj]; simpa using ew) fin hs
 ·have hj:(i + (its.toArray.size:Int)).toNat = j:=by
   rw [seqIndex_neg (by omega) h4] at h1
   rw [List.size_toArray,← hl]
   exact Option.some.inj h1
  exact subscriptTail_builtinR (x:=w) pl.isList.typeIs slot_list_getitem.lookup
   (wpAny_getItem_list_neg (Q:=fun r s'=>r = w∧EP X pins σ Q r s') pl.isList (by omega) (by rw [List.size_toArray] <;> omega) (by omega) (by rw [hj]; simpa using ew) ⟨rfl,fin⟩) hs
theorem ix_tup:IxR X (rIxT X.K):=by
 intro value slice pins s σ H x y v u Q I rx ry h hs
 obtain ⟨p,xs,i,z,rfl,rfl,hq,he,q⟩:=h
 cases rx
 obtain ⟨t,rfl⟩:=ry
 obtain ⟨its,r,pl,hz⟩:=I.tuple hq
 obtain ⟨j,h1,h2,h3,h4,h5⟩:=joi he
 obtain ⟨w,ew,rw'⟩:=r.get h2
 have hl:=r.length
 have hn:=jin
 have fin:EP X pins σ Q w s:=⟨z,H,I,rw',q⟩
 exact subscriptTail_builtinR (x:=w) pl.typeIs slot_tuple_getitem.lookup
  (getItem_tuple (j:=j) (Q:=fun r s'=>r = w∧EP X pins σ Q r s') pl (by omega) (by omega) (by rw [List.size_toArray,← hl]; exact h1) (by simpa using ew) ⟨rfl,fin⟩) hs
theorem jlv (its:List Value) (n j:Nat) (u:Value):Obj.mapSeq (·.setIfInBounds j u) { cls:=.type "list",data:=.seq its.toArray n } = { cls:=.type "list",data:=.seq (its.set j u).toArray n }:=by
 simp [Obj.mapSeq]
theorem Inv.lst {pins:List (Addr × Obj)} {σ:St} {H:Hp} {s:Shared} {p:Addr} {xs:List V} (I:Inv X pins σ H s) (h:H p = some (.lst xs)) :
  ∃ (its:List Value) (n:Nat),Vals xs its∧s.heap.get? p = some { cls:=.type "list",data:=.seq its.toArray n }∧xs.length ≤ sizeLine:=by
 obtain ⟨z,its,n,r,e⟩:=I.hok p _ h
 exact ⟨its,n,r,e,z⟩
theorem Inv.lstUpd {pins:List (Addr × Obj)} {σ:St} {H:Hp} {s:Shared} {p:Addr} {xs ys:List V} {its its':List Value} {n n':Nat} {f:Obj→Obj} (I:Inv X pins σ H s) (h:H p = some (.lst xs))
  (ho:s.heap.get? p = some { cls:=.type "list",data:=.seq its.toArray n }) (hf:f { cls:=.type "list",data:=.seq its.toArray n } = { cls:=.type "list",data:=.seq its'.toArray n' }) (r:Vals ys its') (hz:ys.length ≤ sizeLine) (t:Nat) :
  Inv X pins σ (upd H p (.lst ys)) { s with heap:=s.heap.update p f,toks:=t }:=by
 have e:(s.heap.update p f).get? p = some { cls:=.type "list",data:=.seq its'.toArray n' }:=by
  rw [Heap.get?_update_self f ho (by rw [hf] <;> rfl),hf]
 refine I.write (x:=p) (e:=p) (by rw [h]; trivial) (.inl rfl) (fun b u hb q=>(Heap.get?_update_other _ _ (Ne.symm hb)).trans q) ⟨_,e⟩ ?_
 exact ⟨hz,its',n',r,e⟩
def rSetL:V→V→V→Hp→(Hp→Prop)→Prop:=fun o i v H Q=>∃ p xs k j,o = .ref p∧i = .int k∧H p = some (.lst xs)∧ixN xs.length k = some j∧Q (upd H p (.lst (xs.set j v)))
theorem jox:PSet X rSetL:=by
 intro pins s σ H o i v ov iv u Q I ro ri rv h
 obtain ⟨p,xs,k,j,rfl,rfl,hp,hj,q⟩:=h
 cases ro
 obtain ⟨t,rfl⟩:=ri
 obtain ⟨its,n,r,ho,hz⟩:=I.lst hp
 obtain ⟨h1,h2,h3,h4⟩:=jnu hj
 have hl:=r.length
 have hn:=jin
 have I':Inv X pins σ (upd H p (.lst (xs.set j v))) { s with heap:=s.heap.update p (Obj.mapSeq (·.setIfInBounds j u)) } :=
  I.lstUpd hp ho (jlv its n j u) (r.set rv j) (by rw [List.length_set]; exact hz) s.toks
 by_cases h0:0 ≤ k
 ·have hk:k.toNat = j:=by
   rw [seqIndex_of h0 h4] at h1
   exact Option.some.inj h1
  exact PySem.W.ki_setAt ho h0 (by omega) (by rw [List.size_toArray,← hl]; exact h4) (by rw [hk]; exact ⟨_,I',q⟩)
 ·have hk:(k + (its.toArray.size:Int)).toNat = j:=by
   rw [seqIndex_neg (by omega) h3] at h1
   rw [List.size_toArray,← hl]
   exact Option.some.inj h1
  exact PySem.W.ki_setBack ho (by omega) (by rw [List.size_toArray,← hl]; exact h3) (by omega) (by rw [hk]; exact ⟨_,I',q⟩)
theorem jhv (lo hi:Option Int) (n:Nat):(sliceBounds lo hi none n).1 = ((HT.sIx n 0 lo:Nat):Int)∧(sliceBounds lo hi none n).2.1 = ((HT.sIx n n hi:Nat):Int)∧(sliceBounds lo hi none n).2.2 = 1:=by
 refine ⟨?_,?_,rfl⟩
 ·cases lo with
  | none=>simp [sliceBounds,HT.sIx]
  | some i =>
   simp only [sliceBounds,HT.sIx,Option.getD_none,show (1:Int) > 0 by decide,if_true]
   by_cases h:i < 0
   ·simp only [h,if_true] <;> omega
   ·simp only [h,if_false] <;> omega
 ·cases hi with
  | none=>simp [sliceBounds,HT.sIx]
  | some i =>
   simp only [sliceBounds,HT.sIx,Option.getD_none,show (1:Int) > 0 by decide,if_true]
   by_cases h:i < 0
   ·simp only [h,if_true] <;> omega
   ·simp only [h,if_false] <;> omega
theorem jgg (its:List Value) (lo hi:Option Int):slicePick its.toArray lo hi none = ((its.drop (HT.sIx its.length 0 lo)).take (HT.sIx its.length its.length hi - HT.sIx its.length 0 lo)).toArray:=by
 obtain ⟨h1,h2,h3⟩:=jhv lo hi its.toArray.size
 unfold slicePick
 rw [h1,h2,h3]
 simp only [sliceRange_one,pick_run,List.size_toArray] <;> rfl
def rSlL (K:PySem.W.Frag):V→Option Int→Option Int→Hp→VK→Prop:=fun x lo hi H Q=>∃ a xs,x = .ref a∧SqL K H a xs∧∀ p,H p = none→Q (.ref p) (upd H p (.lst (cutV xs lo hi)))
theorem jqn:SlR X (rSlL X.K):=by
 intro pins s σ H x v vl vu lo hi sl Q I rx hs pl pu h
 obtain ⟨a,xs,rfl,hx,q⟩:=h
 cases rx
 obtain ⟨its,r,ht,hz⟩:=I.list hx
 have hlen:=r.length
 refine ⟨"list",_,slot_list_getitem.lookup,ht.isList.typeIs,?_⟩
 refine wpAny_getItem_list_slice ht.isList hs pl pu .none (by simp) ?_ (by rw [List.size_toArray] <;> omega)
 rw [jgg,← hlen]
 refine ⟨.ref s.heap.objs.size,_,I.laid (t':=s.toks) (o:=.lst (cutV xs lo hi)) (fun b ob q=>Heap.get?_push_of_some _ q) (Nat.le_refl _) ?_,rfl,q _ (I.hok.fresh (Nat.le_refl _))⟩
 exact ⟨Nat.le_trans (jff xs lo hi) hz,_,0,(r.drop (HT.sIx xs.length 0 lo)).take (HT.sIx xs.length xs.length hi - HT.sIx xs.length 0 lo),Heap.get?_push_size _ rfl⟩
def jco:V→Bool
 | .non=>true
 | .bl _=>true
 | .int _=>true
 | .str _=>true
 | _=>false
def eqV:V→V→Bool
 | .non,.non=>true
 | .bl a,.bl b=>a == b
 | .bl a,.int b=>(if a then 1 else 0) == b
 | .int a,.bl b=>a == (if b then 1 else 0)
 | .int a,.int b=>a == b
 | .str a,.str b=>a == b
 | _,_=>false
theorem jqe {A:Around} {s:Shared} {y x:V} {u v:Value} (ry:RelV y u) (rx:RelV x v) (fy:jco y = true) (fx:jco x = true):SeqAt.EqAt A s u v (eqV y x):=by
 cases y with
 | non =>
  cases ry
  cases x with
  | non=>cases rx; exact SeqAt.EqAt.same _
  | bl b=>cases rx; exact SeqAt.EqAt.none_bool b
  | int b=>obtain ⟨t,rfl⟩:=rx; exact SeqAt.EqAt.none_int b t
  | str b=>obtain ⟨t,rfl⟩:=rx; exact SeqAt.EqAt.none_str b t
  | _=>exact absurd (show false = true from fx) Bool.false_ne_true
 | bl a =>
  cases ry
  cases x with
  | non=>cases rx; exact SeqAt.EqAt.bool_none a
  | bl b=>cases rx; exact SeqAt.EqAt.bool_bool a b
  | int b=>obtain ⟨t,rfl⟩:=rx; exact SeqAt.EqAt.bool_int a b t
  | str b=>obtain ⟨t,rfl⟩:=rx; exact SeqAt.EqAt.bool_str a b t
  | _=>exact absurd (show false = true from fx) Bool.false_ne_true
 | int a =>
  obtain ⟨t',rfl⟩:=ry
  cases x with
  | non=>cases rx; exact SeqAt.EqAt.int_none a t'
  | bl b=>cases rx; exact SeqAt.EqAt.int_bool a t' b
  | int b=>obtain ⟨t,rfl⟩:=rx; exact SeqAt.EqAt.int_int a t' b t
  | str b=>obtain ⟨t,rfl⟩:=rx; exact SeqAt.EqAt.int_str a t' b t
  | _=>exact absurd (show false = true from fx) Bool.false_ne_true
 | str a =>
  obtain ⟨t',rfl⟩:=ry
  cases x with
  | non=>cases rx; exact SeqAt.EqAt.str_none a t'
  | bl b=>cases rx; exact SeqAt.EqAt.str_bool a t' b
  | int b=>obtain ⟨t,rfl⟩:=rx; exact SeqAt.EqAt.str_int a t' b t
  | str b=>obtain ⟨t,rfl⟩:=rx; exact SeqAt.EqAt.str_str a t' b t
  | _=>exact absurd (show false = true from fx) Bool.false_ne_true
 | _=>exact absurd (show false = true from fy) Bool.false_ne_true
def eqU (x:V) (u:Value):Bool:=match u with
 | .none=>eqV .non x
 | .bool b=>eqV (.bl b) x
 | .int i _=>eqV (.int i) x
 | .str z _=>eqV (.str z) x
 | _=>false
theorem jqd {x y:V} {u:Value} (r:RelV y u) (f:jco y = true):eqU x u = eqV y x:=by
 cases y with
 | non=>cases r; rfl
 | bl b=>cases r; rfl
 | int i=>obtain ⟨t,rfl⟩:=r; rfl
 | str z=>obtain ⟨t,rfl⟩:=r; rfl
 | _=>exact absurd (show false = true from f) Bool.false_ne_true
theorem jfh {x:V}:∀ {xs:List V} {us:List Value},Vals xs us→xs.all jco = true→us.any (eqU x) = xs.any fun y=>eqV y x
 | _,_,.nil,_=>rfl
 | y :: xs,u :: us,.cons r t,f=>by
  rw [List.all_cons,Bool.and_eq_true] at f
  rw [List.any_cons,List.any_cons,jqd r f.1,jfh t f.2]
theorem jdi {A:Around} {s:Shared} {x:V} {v:Value} (rx:RelV x v) (fx:jco x = true):∀ {xs:List V} {us:List Value},Vals xs us→xs.all jco = true→∀ u ∈ us,SeqAt.EqAt A s u v (eqU x u)
 | _,_,.nil,_=>fun u hu=>by cases hu
 | y :: xs,u :: us,.cons r t,f=>fun u' hu=>by
  rw [List.all_cons,Bool.and_eq_true] at f
  rcases List.mem_cons.mp hu with rfl | hu
  ·rw [jqd r f.1]; exact jqe r rx f.1 fx
  ·exact jdi rx fx t f.2 u' hu
def inV (x:V) (xs:List V):Bool:=xs.any fun y=>eqV y x
def rIn (K:PySem.W.Frag) (neg:Bool):R2:=fun x y H Q=>∃ p xs,y = .ref p∧(SqL K H p xs ∨ SqT K H p xs)∧jco x = true∧xs.all jco = true∧Q (.bl (if neg then !inV x xs else inV x xs)) H
theorem jna:OpR X (compareOp .In) (rIn X.K false):=by
 intro pins s σ H x y v u Q I rx ry h
 obtain ⟨p,xs,rfl,hq,fx,fs,q⟩:=h
 cases ry
 rcases hq with hq | hq
 ·obtain ⟨its,r,pl,hz⟩:=I.list hq
  refine SeqAt.in_listAt (eqU x) pl.isList (fun w hw=>jdi rx fx r fs w (by simpa using hw)) ⟨.bl _,H,I,rfl,?_⟩
  rw [show its.toArray.any (eqU x) = its.any (eqU x) by simp,jfh r fs]
  exact q
 ·obtain ⟨its,r,pl,hz⟩:=I.tuple hq
  refine SeqAt.in_tupleAt (eqU x) pl (fun w hw=>jdi rx fx r fs w (by simpa using hw)) ⟨.bl _,H,I,rfl,?_⟩
  rw [show its.toArray.any (eqU x) = its.any (eqU x) by simp,jfh r fs]
  exact q
theorem ji5:OpR X (compareOp .NotIn) (rIn X.K true):=by
 intro pins s σ H x y v u Q I rx ry h
 obtain ⟨p,xs,rfl,hq,fx,fs,q⟩:=h
 cases ry
 rcases hq with hq | hq
 ·obtain ⟨its,r,pl,hz⟩:=I.list hq
  refine SeqAt.notIn_listAt (eqU x) pl.isList (fun w hw=>jdi rx fx r fs w (by simpa using hw)) ⟨.bl _,H,I,rfl,?_⟩
  rw [show its.toArray.any (eqU x) = its.any (eqU x) by simp,jfh r fs]
  exact q
 ·obtain ⟨its,r,pl,hz⟩:=I.tuple hq
  refine SeqAt.notIn_tupleAt (eqU x) pl (fun w hw=>jdi rx fx r fs w (by simpa using hw)) ⟨.bl _,H,I,rfl,?_⟩
  rw [show its.toArray.any (eqU x) = its.any (eqU x) by simp,jfh r fs]
  exact q
theorem jcs:jbi X (.builtin "len") (fun xs H Q=>∃ p ys,xs = [.ref p]∧(SqL X.K H p ys ∨ SqT X.K H p ys)∧Q (.int ys.length) H):=by
 intro pins s σ H xs us Q I r h
 obtain ⟨p,ys,rfl,hq,q⟩:=h
 obtain ⟨u,rfl,rx⟩:=jhg r
 cases rx
 have hn:=jin
 rcases hq with hq | hq
 ·obtain ⟨its,r',pl,hz⟩:=I.list hq
  have hlen:=r'.length
  exact Calls.call_len_list pl.isList (by simp only [List.size_toArray] <;> omega) ⟨.int ys.length,H,I.tok _,⟨s.toks + 1,by rw [List.size_toArray,hlen]⟩,q⟩
 ·obtain ⟨its,r',pl,hz⟩:=I.tuple hq
  have hlen:=r'.length
  exact len_tuple pl (by simp only [List.size_toArray] <;> omega) ⟨.int ys.length,H,I.tok _,⟨s.toks + 1,by rw [List.size_toArray,hlen]⟩,q⟩
theorem jiy:jbi X (.type "list") (fun xs H Q=>∃ p ys,xs = [.ref p]∧(SqL X.K H p ys ∨ SqT X.K H p ys)∧∀ l,H l = none→Q (.ref l) (upd H l (.lst ys))):=by
 intro pins s σ H xs us Q I r h
 obtain ⟨p,ys,rfl,hq,q⟩:=h
 obtain ⟨u,rfl,rx⟩:=jhg r
 cases rx
 have fin:∀ (its:List Value),Vals ys its→ys.length ≤ sizeLine→∀ (h':Heap) (c':Nat),(∀ b o',s.heap.get? b = some o'→h'.get? b = some o') →
   h'.get? s.heap.objs.size = some { cls:=.type "list",dict:=none,data:=.seq its.toArray c',slots:=#[] }→EP X pins σ Q (.ref s.heap.objs.size) { s with heap:=h' }:=fun its r' hz h' c' kp e =>
  ⟨.ref s.heap.objs.size,_,I.laid (t':=s.toks) kp (Nat.le_refl _) (show jb2 X.prog X.w _ h' _ (.lst ys) from ⟨hz,its,c',r',e⟩),rfl,q _ (I.hok.fresh (Nat.le_refl _))⟩
 rcases hq with hq | hq
 ·obtain ⟨its,r',pl,hz⟩:=I.list hq
  have hlen:=r'.length
  obtain ⟨o,ho,hc,n,hd⟩:=pl.isList
  exact call_list_seq p (.inl rfl) ho hc hd (fun h' c' kp e=>fin its r' hz h' c' kp e) (by simp only [List.size_toArray] <;> omega)
 ·obtain ⟨its,r',pl,hz⟩:=I.tuple hq
  have hlen:=r'.length
  obtain ⟨o,ho,hc,n,hd⟩:=pl
  exact call_list_seq p (.inr rfl) ho hc hd (fun h' c' kp e=>fin its r' hz h' c' kp e) (by simp only [List.size_toArray] <;> omega)
def tyV (K:PySem.W.Frag) (T:String) (x:V) (H:Hp):Prop:=match x with
 | .str _=>T = "str"
 | .int _=>T = "int"
 | .ref p=>(T = "list"∧∃ xs,SqL K H p xs) ∨ (T = "tuple"∧∃ o,K.lookup p = some o∧o.cls = .type "tuple"∧o.dict = none) ∨
   (T = "dict"∧((∃ kvs,H p = some (.dK kvs)) ∨ ∃ kvs,H p = some (.dT kvs))) ∨ (T = "set"∧∃ S n,H p = some (.set S n))
 | _=>False
theorem tyV_is {pins:List (Addr × Obj)} {σ:St} {H:Hp} {s:Shared} {T:String} {x:V} {v:Value} (I:Inv X pins σ H s) (r:RelV x v) (ty:tyV X.K T x H) :
  s.TypeIs v T∧∀ a,v = .ref a→∃ ob,s.heap.get? a = some ob∧ob.dict = none:=by
 cases x with
 | str z =>
  obtain ⟨t,rfl⟩:=r
  cases (show T = "str" from ty)
  exact ⟨typeIs_str s z t,fun _ e=>nomatch e⟩
 | int i =>
  obtain ⟨t,rfl⟩:=r
  cases (show T = "int" from ty)
  exact ⟨typeIs_int s i t,fun _ e=>nomatch e⟩
 | ref p =>
  cases r
  rcases ty with ⟨rfl,xs,hq⟩ | ⟨rfl,o,hk,hc,hd⟩ | ⟨rfl,hk⟩ | ⟨rfl,S,n,hk⟩
  ·obtain ⟨its,_,pl,_⟩:=I.list hq
   refine ⟨pl.isList.typeIs,fun a e=>?_⟩
   cases e
   obtain ⟨o,n,e,c,hd,_⟩:=pl
   exact ⟨o,e,hd⟩
  ·refine ⟨⟨o,I.kIn p o hk,hc⟩,fun a e=>?_⟩
   cases e
   exact ⟨o,I.kIn _ o hk,hd⟩
  ·have z:∃ o,s.heap.get? p = some o∧o.ExactDict:=by
    rcases hk with ⟨kvs,hk⟩ | ⟨kvs,hk⟩
    ·obtain ⟨_,_,_,_,o,_,_,e,ex,_⟩:=I.hok p _ hk
     exact ⟨o,e,ex⟩
    ·obtain ⟨_,_,_,_,o,_,_,e,ex,_⟩:=I.hok p _ hk
     exact ⟨o,e,ex⟩
   obtain ⟨o,e,ex⟩:=z
   refine ⟨⟨o,e,ex.1⟩,fun a e2=>?_⟩
   cases e2
   exact ⟨o,e,ex.2.1⟩
  ·obtain ⟨o,_,_,_,e,ex,_⟩:=I.hok p _ hk
   refine ⟨⟨o,e,ex.1⟩,fun a e2=>?_⟩
   cases e2
   exact ⟨o,e,ex.2.1⟩
 | _=>exact False.elim ty
variable {o e:Expr} {es:List Expr} {to:TE} {t:TA} {name:Str} {apos cpos:Pos} {T id:String} {r:V→List V→Hp→VK→Prop}
/- xs.append(e),list.index on a module's tuple .. are MtR facts of 06m -/
end
end L2
namespace L2
open PySem PySem.Spec PyProof.Rows
def MtM (X:Cx) (id:String) (r:V→List V→Hp→VK→Prop):Prop :=
 ∀ (pins:List (Addr × Obj)) (s:Shared) (σ:St) (H:Hp) (x:V) (xs:List V) (v:Value) (us:List Value) (Q:VK),Inv X pins σ H s→RelV x v→Vals xs us→r x xs H Q →
  wpAny (model X.prog X.w) X.A (call (.builtin id) (v :: us)) (EP X pins σ Q) X.xe s
theorem Vals.one:∀ {x:V} {us:List Value},Vals [x] us→∃ u,us = [u]∧RelV x u
 | _,_,.cons r .nil=>⟨_,rfl,r⟩
theorem Vals.two:∀ {x y:V} {us:List Value},Vals [x,y] us→∃ u v,us = [u,v]∧RelV x u∧RelV y v
 | _,_,_,.cons r (.cons q .nil)=>⟨_,_,rfl,r,q⟩
theorem Vals.rep {xs:List V} {us:List Value} (h:Vals xs us):∀ k:Nat,Vals (List.replicate k xs).flatten (List.replicate k us).flatten
 | 0=>.nil
 | k + 1=>by
  rw [List.replicate_succ,List.replicate_succ,List.flatten_cons,List.flatten_cons]
  exact Vals.append h (Vals.rep h k)
theorem jis (its:List Value):∀ (k:Nat) (acc:List Value),
  List.foldl (fun x1 x2=>x1 ++ x2) acc.toArray (List.replicate k its.toArray) = (acc ++ (List.replicate k its).flatten).toArray
 | 0,acc=>by simp
 | k + 1,acc=>by
  have e:acc.toArray ++ its.toArray = (acc ++ its).toArray:=by simp
  have e2:(acc ++ its) ++ (List.replicate k its).flatten = acc ++ (List.replicate (k + 1) its).flatten:=by
   rw [List.replicate_succ,List.flatten_cons,List.append_assoc]
  rw [← e2,← jis its k (acc ++ its),← e,List.replicate_succ,List.foldl_cons]
section
variable {X:Cx} {pins:List (Addr × Obj)} {σ:St} {H:Hp} {s:Shared} {l b:Addr} {xs ys zs:List V}
theorem Inv.lset {its its':List Value} {n:Nat} {f:Array Value→Array Value} {t':Nat} (I:Inv X pins σ H s) (hH:H l = some (.lst xs))
  (e:s.heap.get? l = some { cls:=.type "list",data:=.seq its.toArray n }) (hf:f its.toArray = its'.toArray) (hv:Vals ys its') (hz:ys.length ≤ sizeLine) :
  Inv X pins σ (upd H l (.lst ys)) { s with heap:=s.heap.update l (Obj.mapSeq f),toks:=t' }:=by
 have q:=PySem.IsL.update e f
 rw [hf] at q
 refine I.write (x:=l) (e:=l) (by rw [hH]; exact trivial) (.inl rfl) (fun b' u hb hu=>(Heap.get?_update_other s.heap (Obj.mapSeq f) (Ne.symm hb)).trans hu) ⟨_,q⟩ ?_
 exact ⟨hz,its',_,hv,q⟩
theorem Inv.lnew {its:List Value} {t':Nat} (I:Inv X pins σ H s) (hv:Vals ys its) (hz:ys.length ≤ sizeLine) :
  Inv X pins σ (upd H s.heap.objs.size (.lst ys)) { s with heap:=s.heap.push { cls:=.type "list",data:=.seq its.toArray },toks:=t' } :=
 I.laid (fun _ _ q=>Heap.get?_push_of_some _ q) (Nat.le_refl _) ⟨hz,its,0,hv,Heap.get?_push_size _ rfl⟩
theorem Inv.fresh (I:Inv X pins σ H s):H s.heap.objs.size = none:=I.hok.fresh (Nat.le_refl _)
theorem Inv.lstM (I:Inv X pins σ H s) (hH:H l = some (.lst xs)):xs.length ≤ sizeLine∧∃ (its:List Value) (n:Nat),Vals xs its∧xs.length = its.length∧s.heap.get? l = some { cls:=.type "list",data:=.seq its.toArray n }:=by
 obtain ⟨z,its,n,r,e⟩:=I.hok l _ hH
 exact ⟨z,its,n,r,r.length,e⟩
theorem jpc {n:Nat} (h:n ≤ sizeLine):Builtin.List.listTooLong n = false:=by
 unfold Builtin.List.listTooLong
 exact decide_eq_false (by omega)
end
section
variable {X:Cx}
def jn0:V→List V→Hp→VK→Prop:=fun x vs H Q=>∃ l xs y,x = .ref l∧vs = [y]∧H l = some (.lst xs)∧xs.length < sizeLine∧Q .non (upd H l (.lst (xs ++ [y])))
theorem jij:MtM X "list.append" jn0:=by
 intro pins s σ H x vs v us Q I rx rv h
 obtain ⟨l,xs,y,rfl,rfl,hH,hz,q⟩:=h
 cases rx
 obtain ⟨u,rfl,ru⟩:=rv.one
 obtain ⟨z,its,n,r,hl,e⟩:=I.lstM hH
 refine call_meets F.slot_list_append ⟨_,e,rfl⟩ F.entry_list_append (F.args_list_append_2 _ _) (PySem.list_append l its.toArray n u (by rw [List.size_toArray]; omega)) ⟨e,?_⟩
 refine ⟨.non,_,I.lset (its':=its ++ [u]) hH e (by simp) (r.append (.cons ru .nil)) ?_,rfl,q⟩
 rw [List.length_append,List.length_singleton]
 omega
def rCat:R2:=fun x y H Q=>∃ l b xs zs,x = .ref l∧y = .ref b∧H l = some (.lst xs)∧H b = some (.lst zs)∧xs.length + zs.length ≤ sizeLine∧∀ p,H p = none→Q (.ref p) (upd H p (.lst (xs ++ zs)))
theorem op_cat:OpR X (binaryOp .Add) rCat:=by
 intro pins s σ H x y v u Q I rx ry h
 obtain ⟨l,b,xs,zs,rfl,rfl,hH,hB,hz,q⟩:=h
 cases rx
 cases ry
 obtain ⟨z,its,n,r,hl,e⟩:=I.lstM hH
 obtain ⟨z2,its2,n2,r2,hl2,e2⟩:=I.lstM hB
 refine PySem.P.add_list e e2 ?_ (by rw [List.size_toArray,List.size_toArray]; omega)
 have ea:its.toArray ++ its2.toArray = (its ++ its2).toArray:=by simp
 rw [ea]
 exact ⟨.ref _,_,I.lnew (t':=s.toks) (r.append r2) (by rw [List.length_append]; omega),rfl,q _ I.fresh⟩
def rRep:R2:=fun x y H Q=>∃ l k xs,x = .ref l∧y = .int k∧H l = some (.lst xs)∧-(2 ^ 63) ≤ k∧k < 2 ^ 63∧xs.length * k.toNat ≤ sizeLine ∧
 ∀ p,H p = none→Q (.ref p) (upd H p (.lst (List.replicate k.toNat xs).flatten))
theorem jr1 {α:Type} (xs:List α) (k:Nat):(List.replicate k xs).flatten.length = k * xs.length:=by
 induction k with
 | zero=>simp
 | succ k ih=>rw [List.replicate_succ,List.flatten_cons,List.length_append,ih,Nat.succ_mul,Nat.add_comm]
theorem op_rep:OpR X (binaryOp .Mult) rRep:=by
 intro pins s σ H x y v u Q I rx ry h
 obtain ⟨l,k,xs,rfl,rfl,hH,h1,h2,hz,q⟩:=h
 cases rx
 obtain ⟨t,rfl⟩:=ry
 obtain ⟨z,its,n,r,hl,e⟩:=I.lstM hH
 have hlen:its.toArray.size * k.toNat ≤ sizeLine:=by rw [List.size_toArray,← hl]; exact hz
 have hcap:¬ its.toArray.size * k.toNat > (2 ^ 63 - 1) / 8:=by
  have:(sizeLine:Nat) ≤ (2 ^ 63 - 1) / 8:=by decide
  omega
 have hfit:¬ (!Builtin.List.listFitsIndex k) = true:=by
  rw [fitsIndex_both h1 h2]
  exact Bool.false_ne_true
 have hlong:¬ Builtin.List.listTooLong (its.toArray.size * k.toNat) = true:=by
  rw [jpc hlen]
  exact Bool.false_ne_true
 have hnew:List.foldl (fun x1 x2=>x1 ++ x2) #[] (List.replicate (if its.toArray.isEmpty = true then 0 else k.toNat) its.toArray) = (List.replicate k.toNat its).flatten.toArray:=by
  have f0:∀ m:Nat,List.foldl (fun x1 x2=>x1 ++ x2) #[] (List.replicate m its.toArray) = (List.replicate m its).flatten.toArray:=fun m=>by
   have:=jis its m []
   rw [List.nil_append] at this
   exact this
  rw [f0]
  cases its with
  | nil=>simp
  | cons a r'=>rw [if_neg (by simp)]
 refine wpAny_binaryOp_repeat_ref (T:="list") (U:="int") (by decide) ⟨_,e,rfl⟩ (fun s'=>typeIs_int s' k t) noFill_list_mul F.fills_int_mul F.slot_int_rmul repeat_list F.slot_int_index.lookup
  (call_meets F.slot_int_rmul (typeIs_int s k t) F.entry_int_rmul (F.args_int_rmul_2 _ _) (int___rmul___int_list k t l its.toArray n)
   ⟨e,rfl,⟨_,e,rfl⟩,call_meets F.slot_list_mul ⟨_,e,rfl⟩ F.entry_list_mul (F.args_list_mul_2 _ _) (AutoListH.list___mul___list_int_3 l its.toArray n k t hfit hcap hlong) ⟨e,?_⟩⟩)
 rw [hnew]
 exact ⟨.ref _,_,I.lnew (t':=s.toks) (r.rep k.toNat) (by rw [jr1,Nat.mul_comm]; exact hz),rfl,q _ I.fresh⟩
end
section
variable {prog:Program} {w:World} {A:Around} {E:Value→Shared→Prop} {s:Shared}
end
section
variable {X:Cx}
end
end L2
namespace Att
open PySem PySem.W PySem.Calls PyProof.Rows
theorem jf7 {P:Params} {h:Heap}:∀ (ns:List Int) (vs:List Value),WellAll P h vs (ns.map WData.int)→IntsAre vs ns:=by
 intro ns
 induction ns with
 | nil =>
  intro vs w
  rw [List.map_nil] at w
  cases w
  exact .nil
 | cons n ns ih =>
  intro vs w
  rw [List.map_cons] at w
  cases w with
  | cons a b =>
   cases a
   exact .cons _ _ (ih _ b)
theorem jmt {l:OpenLaw} {n:Nat} (hn:l.most = some n) {P:Params} {h:Heap} {args:List WData} {vals:List Value}
  (hpre:l.row.toRowW.claim.pre args = true) (hwl:WellAll P h vals args) :
  ∃ a vs ns,vals = [Value.ref a]∧args = [WData.list (ns.map WData.int)]∧h.get? a = some { cls:=.type "list",data:=.seq vs.toArray }∧IntsAre vs ns∧ns.length ≤ n:=by
 have hsh:WShape.hasAll [] args [.list .int] = true:=(pre_splitW hpre).1
 have hc:l.pre.holds [] { args:=args } = true:=(pre_splitW hpre).2
 obtain ⟨d,r,rfl,h1,h2⟩:=hasAllW_cons hsh
 obtain rfl:=hasAllW_nil h2
 obtain ⟨xs,rfl,h3⟩:=hasW_list h1
 obtain ⟨ns,rfl⟩:=items_int h3
 have hlen:ns.length ≤ n:=by
  unfold OpenLaw.pre at hc
  have h4:(WTm.not (.lt (.lit (.int (n:Int))) (.len (.arg 0)))).holds [] { args:=[.list (ns.map .int)] } = true:=by
   have h4:=(holds_andW hc).1
   rw [hn] at h4
   exact h4
  have h5:=condW_of h4 (w_not (w_lt w_lit (w_len_list (w_arg rfl))))
  rw [List.length_map] at h5
  refine Nat.le_of_not_lt fun q=>?_
  have q':(n:Int) < ((ns.length:Nat):Int):=by omega
  first
   | (rw [decide_eq_true q'] at h5; exact absurd h5 (by decide))
   | (simp at h5; omega)
 cases hwl with
 | cons w1 w2 =>
  cases w2
  cases w1 with
  | list ho hall=>exact ⟨_,_,ns,rfl,rfl,ho,jf7 ns _ hall,hlen⟩
theorem jn5 (l:OpenLaw) (args:List WData):l.row.toRowW.claim.post args (.bool true) args = true :=
 postW_of (r:=l.row.toRowW) (X:=(true == true))
  (show WShape.has [] (.bool true) .bool = true by first | rfl | decide | simp [WShape.has,WShape.arms,WShape.armsAll])
  (show (WTm.eq .res (.lit (.bool true))).value [] { args:=args,res:=some (.bool true),after:=args } = some (.bool (true == true)) from w_eq_bool (w_res rfl) w_lit) rfl
theorem attach_call {l:OpenLaw} {n:Nat} {q:Program} {loose:List Str} {XP:(Str→Option Value)→Heap→Prop} {YP:World→Heap→Prop} {d:DefRec}
  (hn:l.most = some n) (hdf:d.params.defaults = [])
  (call:∀ (w:World) (s₀ s₁:Shared) (mg mb:Str→Option Value) (fa:Addr) (o:Obj) (pm cd doc:Value) (a:Addr) (vs:List Value) (ns:List Int),
   Ground q loose [] XP w s₀ mg mb s₁.heap→YP w s₁.heap →
   s₁.heap.get? fa = some o→o.data = .func (docDef d.name d.params d.body d.scope pm cd doc)→s₁.heap.CodeRec cd d.name→mg d.name = some (.ref fa) →
   s₁.heap.get? a = some { cls:=.type "list",data:=.seq vs.toArray }→IntsAre vs ns→ns.length ≤ n→s₁.gens = #[] →
   codeAny (model l.prog w) callerA (.call (.ref fa) ⟨[.ref a],[]⟩) (fun r s'=>r = .ok (.ret (.bool true))∧OldK s₁.heap s'.heap∧s'.os = s₁.os∧AllBare s'.gens) s₁) :
  WalkO q loose XP YP l.row.toRowW d [] (fun f vs=>PySem.call f vs):=by
 intro w s₀ s₁ mg mb G Y fa o pm cd doc dV kV ho hd hcd hD hmg hg args vals as hpre hlay hrd hwl hlo
 obtain rfl:dV = .none:=Dflts.none hD hdf
 obtain rfl:kV = .none:=Dflts.noKw hD
 obtain ⟨a,vs,ns,rfl,rfl,hobj,hints,hlen⟩:=jmt hn hpre hwl
 refine enter_call (codeAny_mono (call w s₀ s₁ mg mb fa o pm cd doc a vs ns G Y ho (fd_plain hd) hcd hmg hobj hints hlen hg) fun r s' hq=>?_)
 obtain ⟨rfl,h2,h3,h4⟩:=hq
 exact ⟨.inl ⟨.bool true,.bool true,[],rfl,fun _=>rfl,.bool true,jn5 l _,fun _=>⟨List.Pairwise.nil,fun _ hm=>(nomatch hm)⟩⟩,h2,h3,h4⟩
section
variable {prog:Program} {w:World} {A:Around} {E:Value→Shared→Prop} {s:Shared} {K:Frag}
end
end Att
namespace L2
open PySem PySem.Spec PyProof.Rows
theorem jei:∀ {vs:List Value} {ns:List Int},IntsAre vs ns→Vals (ns.map V.int) vs
 | _,_,.nil=>.nil
 | _,_,.cons n t h=>.cons ⟨t,rfl⟩ (jei h)
def Only (H:Hp):Prop:=∀ b,H b = none ∨ ∃ o xs,H b = some (.frz o (.lst xs))
theorem jpi {P:Program} {w:World} {K:PySem.W.Frag} {mg mb:Str→Option Value} {CX:CXT} {k:Nat} {fa a:Addr} {fd:FuncData} {x:Str} {sp:Sp} {s₁:Shared} {vs:List Value} {ns:List Int}
  (KX:K.In s₁.heap) (hns:s₁.heap.Ns mainGlobals mg) (hb:s₁.heap.Ns builtinsNs mb) (hbb:∀ x:Str,x ≠ "__name__"→mb x = bootBuiltins x) (hlim:s₁.heap.NoLimit) (hg:s₁.gens = #[])
  (ha:s₁.heap.get? a = some { cls:=.type "list",data:=.seq vs.toArray }) (hi:IntsAre vs ns) (hl:ns.length ≤ sizeLine) (hr:Room k callerA)
  (F:∀ base:Heap,K.In base→base.Ns mainGlobals mg→FnOk P w K mg base CX k fa fd [x] sp) (hbind:∀ (s:Shared) (u:Value),BindsTo s fd ⟨[u],[]⟩ [(x,u)])
  (hsp:∀ H:Hp,Only H→SqL K H a (ns.map V.int)→sp [.ref a] H (fun v _=>v = .bl true) fun _ _ _=>False)
  (hCX:∀ H e s',CX [] H s₁ (fun _ _ _=>False) e s'→False) :
  codeAny (model P w) callerA (.call (.ref fa) ⟨[.ref a],[]⟩) (fun r s'=>r = .ok (.ret (.bool true))∧OldK s₁.heap s'.heap∧s'.os = s₁.os∧AllBare s'.gens) s₁:=by
 have rv:=jei hi
 have lenV:=hi.length
  -- from an abstract heap in which nothing but the script may be tracked
 have core:∀ H:Hp,Only H→SqL K H a (ns.map V.int)→HOk P w H s₁.heap→(∀ b,H b ≠ none→b = a)→(H a ≠ none→K.lookup a = none) →
   codeAny (model P w) callerA (.call (.ref fa) ⟨[.ref a],[]⟩) (fun r s'=>r = .ok (.ret (.bool true))∧OldK s₁.heap s'.heap∧s'.os = s₁.os∧AllBare s'.gens) s₁:=by
  intro H hO hS hok hA hK
  have base_of:∀ {b:Addr} {o:Obj},s₁.heap.get? b = some o→H b = none→(hidT s₁.heap H).get? b = some o:=fun e n=>jpk e n
  have noA:∀ {b:Addr} {o:Obj} {es:Array DictEntry} {ep:Nat},s₁.heap.get? b = some o→o.data = .dict es ep→H b = none:=fun {b o es ep} e d=>by
   cases q:H b with
   | none=>rfl
   | some u =>
    have e':b = a:=hA b (by rw [q]; simp)
    subst e'
    rw [ha] at e; cases e
    have d':Data.seq vs.toArray _ = Data.dict es ep:=d
    cases d'
  have nsK:∀ {b:Addr} {m:Str→Option Value},s₁.heap.Ns b m→(hidT s₁.heap H).Ns b m:=fun {b m} ⟨o,es,ep,e,d,r⟩=>⟨o,es,ep,base_of e (noA e d),d,r⟩
  have hKb:K.In (hidT s₁.heap H):=fun b o e=>base_of (KX b o e) (by
   cases q:H b with
   | none=>rfl
   | some u =>
    have e':b = a:=hA b (by rw [q]; simp)
    subst e'
    rw [hK (by rw [q]; simp)] at e; cases e)
  have hM:Mod K mg (hidT s₁.heap H):=⟨hKb,nsK hns,⟨mb,nsK hb,hbb⟩,let ⟨mc,h1,h2⟩:=hlim; ⟨mc,nsK h1,h2⟩⟩
  have e0:Env0 P w K mg (hidT s₁.heap H) callerA [] s₁ H:=⟨rfl,hM,fun b o e=>jqx e,Nat.le_of_eq (jny _ _),trivial,fun b hb=>absurd (show b ∈ ([]:List Addr) from hb) (by simp),hok,.of_eq hg⟩
  refine codeAny_mono ((F _ hKb (nsK hns)).run callerA [] s₁ H ⟨[.ref a],[]⟩ [.ref a] [.ref a] _ _ hr e0 (hbind s₁ (.ref a)) (.cons rfl .nil) (hsp H hO hS)) fun r s' h=>?_
  cases r with
  | error e=>exact (hCX H e s' h).elim
  | ok fl =>
   cases fl with
   | next=>exact False.elim h
   | brk=>exact False.elim h
   | cont=>exact False.elim h
   | ret u =>
    obtain ⟨v,H',os,bare,un,hok',r',q⟩:=h
    have q':v = .bl true:=q
    subst q'
    obtain rfl:u = Value.bool true:=r'
    refine ⟨rfl,OldK.of_keep fun b o e=>?_,os,bare⟩
    cases q:H b with
    | none=>exact un.keep b o e q (by intro z; exact absurd (show b ∈ ([]:List Addr) from z) (by simp)) (by simp)
    | some u =>
     rcases hO b with z | ⟨ob,xs,z⟩
     ·rw [q] at z; cases z
     ·have z2:=un.frzs b ob _ z
      obtain ⟨e1,_⟩:=hok b _ z
      obtain ⟨e2,_⟩:=hok' b _ z2
      rw [e] at e1; cases e1
      exact e2
 cases hk:K.lookup a with
 | some o =>
    -- the script is one of the module's own objects
  have e:=KX a o hk
  rw [ha] at e
  cases e
  refine core (fun _=>none) (fun _=>.inl rfl) (.inr ⟨_,vs.toArray,_,hk,rfl,rfl,rfl,by rw [List.size_toArray,lenV]; exact hl,by simpa using rv⟩) (fun b u z=>by have z':(none:Option HO) = some u:=z; cases z') (fun b z=>absurd rfl z) fun z=>absurd rfl z
 | none =>
  refine core (fun b=>if b = a then some (.frz { cls:=.type "list",data:=.seq vs.toArray } (.lst (ns.map V.int))) else none) (fun b=>?_) (.inl (.inr ⟨{ cls:=.type "list",data:=.seq vs.toArray },if_pos rfl⟩)) (fun b u z=>?_) (fun b z=>?_) fun _=>hk
  ·by_cases hb:b = a
   ·exact .inr ⟨_,_,if_pos hb⟩
   ·exact .inl (if_neg hb)
  ·by_cases hb:b = a
   ·have z':=(if_pos hb).symm.trans z
    cases z'
    subst hb
    exact ⟨ha,by rw [List.length_map]; exact hl,vs,_,rv,ha⟩
   ·have z':=(if_neg hb).symm.trans z
    cases z'
  ·by_cases hb:b = a
   ·exact hb
   ·exact absurd (if_neg hb) z
end L2
namespace L2
open PySem PySem.Spec PyProof.Rows
abbrev KOf {K:PySem.W.Frag} {h:Heap} (_:K.In h):PySem.W.Frag:=K
theorem jmc {l:PySem.W.OpenLaw} {n k:Nat} {q:Program} {loose:List Str} {XP:(Str→Option Value)→Heap→Prop} {YP:World→Heap→Prop} {d:DefRec} {K:Params→PySem.W.Frag} {CX:World→CXT} {sp:World→Sp} {x:Str}
    (hn:l.most = some n) (hn2:n ≤ sizeLine) (hdf:d.params.defaults = []) (hr:Room k callerA)
    (hY:∀ (w:World) (h:Heap),YP w h→(K w.params).In h)
    (F:∀ (w:World) (mg:Str→Option Value) (fa:Addr) (h:Heap),(K w.params).In h→h.Ns mainGlobals mg→mg d.name = some (.ref fa) →
      ∃ fd:FuncData,(∀ (s:Shared) (u:Value),BindsTo s fd ⟨[u],[]⟩ [(x,u)]) ∧
        ∀ base:Heap,(K w.params).In base→base.Ns mainGlobals mg→FnOk l.prog w (K w.params) mg base (CX w) k fa fd [x] (sp w))
    (hsp:∀ (w:World) (H:Hp) (a:Addr) (ns:List Int),ns.length ≤ n→Only H→SqL (K w.params) H a (ns.map V.int)→sp w [.ref a] H (fun v _=>v = .bl true) fun _ _ _=>False)
    (hCX:∀ (w:World) (H:Hp) (s:Shared) (e:Value) (s':Shared),CX w [] H s (fun _ _ _=>False) e s'→False) :
    PySem.W.WalkO q loose XP YP l.row.toRowW d [] (fun f vs=>PySem.call f vs):=by
  refine Att.attach_call hn hdf fun w s₀ s₁ mg mb fa o pm cd doc a vs ns G Y ho hd hcd hmg hobj hints hlen hg=>?_
  have KX:=hY w _ Y
  obtain ⟨fd,hb,hF⟩:=F w mg fa _ KX G.T.g hmg
  exact jpi KX G.T.g G.T.b G.T.builtins G.T.nolimit hg hobj hints (Nat.le_trans hlen hn2) hr hF hb (fun H hO hS=>hsp w H a ns hlen hO hS) fun H e s'=>hCX w H s₁ e s'
end L2
/- THE LAST THEOREM (shape; LID,My.* are yours):
   My.Adr: a structure of the addresses that your layer names (classes,functions); My.Txt K t: a structure (Prop) of the equations over K;
   My.txt_mk:{K} {implicit addresses ..} (e1:nsIn K mainGlobals "law" = some (some (.ref f))) (e2:K.lookup f = some ⟨oc,od,.func (fnOf "law" "law" params body scope dV kV doc pm an cdv ct),sl⟩) (e3:codeIn K cdv "law" = true) ..:∃ t,My.Txt K t
set_option maxRecDepth 100000 in
set_option maxHeartbeats 0 in
theorem PySem.Challenge.cw_LID_holds : PySem.Challenge.rw_LID.Holds := by
 w_on; o_law; k_head; (case hw=>w_witness2)
 k_fill
 refine L2.jmc (l:=PySem.Challenge.rw_LID) (n:=63) (k:=40) (x:="script") (CX:=fun w=>..) (sp:=fun _=>My.sp_law) rfl (by decide) rfl ⟨rfl,by decide,by decide⟩ (fun w h Y=>PySem.W.kIn_of Y) ?F ?S ?C
 case F =>
  intro w mg fa h KX G hmg
  have T:∃ t,My.Txt (L2.KOf KX) t:=by
   dsimp only [L2.KOf]                          -- K must stand as «<heap const> w.params» for k_is
   refine' My.txt_mk ?e1 ?e2 ?e3 ..
   (case e1=>PySem.W.k_is)                    -- in the order: a name -> its address -> its object -> its parts
   (case e2=>PySem.W.k_is)
   ..
  obtain ⟨t,T⟩:=T
  have e0:=hmg.symm.trans (PySem.W.mg_of KX G T.law)
  cases e0                                       -- fa is the law's own address
  exact ⟨_,fun s u=>.of_eq rfl,fun base kb nb=>My.law_fn T kb nb⟩     -- if «.of_eq rfl» comes too early: refine' ⟨_,?b,fun base kb nb=>My.law_fn T kb nb⟩; exact fun s u=>.of_eq rfl
 case S=>exact fun w H a ns hl hO hS=>..
 case C=>exact ..
(the tactic k_is has no namespace: write k_is) -/
namespace L2
open PySem PySem.Spec PyProof.Rows
def jcr (s:Stmt):Arguments:=match s with
 | .FunctionDef _ a _ _ _ _ _ _ _ _=>a
 | _=>{ posonlyargs:=[],args:=[],vararg:=none,kwonlyargs:=[],kw_defaults:=[],kwarg:=none,defaults:=[] }
def jc4 (s:Stmt):List Stmt:=match s with
 | .FunctionDef _ _ b _ _ _ _ _ _ _=>b
 | _=>[]
def ja8 (s:Stmt):Scope:=match s with
 | .FunctionDef _ _ _ _ _ _ sc _ _ _=>sc
 | _=>{ kind:=.function,names:=[],isGenerator:=false,isCoroutine:=false }
abbrev CX0:CXT:=fun _ _ _ _ _ _=>False
abbrev E0:XK:=fun _ _ _=>False
theorem jap {X:Cx}:jon CX0 X E0:=fun _ _ _ _ _ _ _ h=>h.elim
structure Fun (K:PySem.W.Frag) (x qual:Str) (st:Stmt) (f:Addr) (fd:FuncData):Prop where
 ex:∃ (oc:Value) (od:Option Addr) (kV doc pm:Value) (an:Option Addr) (cdv ct:Value) (osl:Array (Option Value)),
  fd = PySem.W.fnOf x qual (jcr st) (jc4 st) (ja8 st) .none kV doc pm an cdv ct∧K.lookup f = some ⟨oc,od,.func fd,osl⟩∧PySem.W.codeIn K cdv qual = true
 kp:PySem.W.keepIn K (.ref f) = true
section
variable {P:Program} {w:World} {K:PySem.W.Frag} {mg:Str→Option Value} {base:Heap}
theorem Fun.ok {x qual:Str} {st:Stmt} {f:Addr} {fd:FuncData} {N ps:List Str} {k:Nat} {sp:Sp} (F:Fun K x qual st f fd) (S:FnScope N ps (ja8 st)) (len:∀ vs H Q E,sp vs H Q E→vs.length = ps.length)
  (hbody:∀ (cdv:Value) (A:Around) (outer:List Env) (s:Shared) (H:Hp) (vs:List V) (Q:VK) (E:XK),Room k (A.deeper (envOfC qual (ja8 st) s.heap.objs.size f cdv))→sp vs H Q E →
   ∃ t,PSs (cxOf CX0 P w K mg base N qual (ja8 st) f cdv A outer s H E).nox (jc4 st) t∧t { nx:=fun _ H'=>Q .non H',rt:=Q } (jd8 N vs) H):FnOk P w K mg base CX0 (k + 1) f fd ps sp:=by
 obtain ⟨oc,od,kV,doc,pm,an,cdv,ct,osl,rfl,lk,hcd⟩:=F.ex
 refine fn_of lk hcd S len fun A outer s H vs Q E hr hsp=>?_
 obtain ⟨t,h,q⟩:=hbody cdv A outer s H vs Q E hr hsp
 exact ⟨t,h.nox,q⟩
theorem Fun.binds {x qual:Str} {st:Stmt} {f:Addr} {fd:FuncData} {ps:List Str} (F:Fun K x qual st f fd)
  (h:∀ (kV doc pm:Value) (an:Option Addr) (cdv ct:Value) (us:List Value),us.length = ps.length→bindArgs (PySem.W.fnOf x qual (jcr st) (jc4 st) (ja8 st) .none kV doc pm an cdv ct) ⟨us,[]⟩ = pure (ps.zip us)):jfr K fd ps []:=by
 obtain ⟨oc,od,kV,doc,pm,an,cdv,ct,osl,rfl,lk,hcd⟩:=F.ex
 exact .all (h kV doc pm an cdv ct)
theorem jak {x qual:Str} {st:Stmt} {f:Addr} {oc:Value} {od an:Option Addr} {osl:Array (Option Value)} {kV doc pm cdv ct:Value} (l:K.lookup f = some ⟨oc,od,.func (PySem.W.fnOf x qual (jcr st) (jc4 st) (ja8 st) .none kV doc pm an cdv ct),osl⟩)
  (c:PySem.W.codeIn K cdv qual = true) (k:PySem.W.keepIn K (.ref f) = true):Fun K x qual st f (PySem.W.fnOf x qual (jcr st) (jc4 st) (ja8 st) .none kV doc pm an cdv ct):=⟨⟨oc,od,kV,doc,pm,an,cdv,ct,osl,rfl,l,c⟩,k⟩
end
theorem jb5 {A:Around} {k:Nat} (hr:Room k A):A.units + 1 < cLine:=Nat.lt_of_le_of_lt (Nat.add_le_add_left (by decide:1 ≤ 64) _) hr.units
section
variable {X:Cx}
end
theorem ite2 {c A B:Prop} [Decidable c] (h1:c→A) (h2:¬ c→B):if c then A else B:=by
 by_cases h:c
 ·rw [if_pos h]
  exact h1 h
 ·rw [if_neg h]
  exact h2 h
def Same (H H':Hp):Prop:=∀ b o,H b = some o→H' b = some o
theorem Same.refl (H:Hp):Same H H:=fun _ _ h=>h
theorem Same.trans {H H1 H2:Hp} (a:Same H H1) (b:Same H1 H2):Same H H2:=fun c o h=>b c o (a c o h)
theorem Same.free {H H':Hp} (e:Same H H') {l:Addr} (h:H' l = Option.none):H l = Option.none:=by
 cases q:H l with
 | none=>rfl
 | some o =>
  rw [e l o q] at h
  cases h
end L2
set_option maxHeartbeats 8000000
namespace L2
open PySem PySem.Spec PyProof.Rows
section
variable {κ:Type} [DecidableEq κ]
def valV (kvs:List (κ × V)) (k:κ):Option V:=(kvs.find? fun kv=>decide (kv.1 = k)).map (·.2)
def putK (kvs:List (κ × V)) (k:κ) (v:V):List (κ × V) :=
 if (kvs.any fun kv=>decide (kv.1 = k)) = true then kvs.map (fun kv=>if kv.1 = k then (kv.1,v) else kv) else kvs ++ [(k,v)]
def dropK (kvs:List (κ × V)) (k:κ):List (κ × V):=kvs.filter fun kv=>decide (kv.1 ≠ k)
theorem jg9 {p:κ × V} {r:List (κ × V)} {k:κ} (e:p.1 = k):valV (p :: r) k = some p.2:=by simp [valV,List.find?_cons,e]
theorem jga {p:κ × V} {r:List (κ × V)} {k:κ} (e:¬ p.1 = k):valV (p :: r) k = valV r k:=by simp [valV,List.find?_cons,e]
theorem jgb (k:κ):∀ kvs:List (κ × V),(kvs.any fun kv=>decide (kv.1 = k)) = (valV kvs k).isSome
 | []=>rfl
 | p :: r=>by
  rw [List.any_cons]
  by_cases e:p.1 = k
  ·simp only [jg9 e,decide_eq_true e,Bool.true_or,Option.isSome_some]
  ·rw [jga e,decide_eq_false e,Bool.false_or]; exact jgb k r
theorem jf4 (kvs:List (κ × V)) (k:κ) (v:V):(putK kvs k v).length ≤ kvs.length + 1:=by
 unfold putK
 split
 ·rw [List.length_map]; omega
 ·rw [List.length_append,List.length_cons,List.length_nil]; omega
theorem putK_new {kvs:List (κ × V)} {k:κ} (v:V) (h:valV kvs k = none):putK kvs k v = kvs ++ [(k,v)]:=by
 unfold putK
 rw [jgb,h]
 exact if_neg (by decide)
theorem RelO.isSome_eq {o:Option V} {u:Option Value} (r:RelO o u):o.isSome = u.isSome:=by
 cases o with
 | none=>cases u with
  | none=>rfl
  | some _=>exact (show False from r).elim
 | some _=>cases u with
  | none=>exact (show False from r).elim
  | some _=>rfl
theorem KV.val {kvs:List (κ × V)} {vs:List (κ × Value)} (r:KV kvs vs) (k:κ):RelO (valV kvs k) (valueAt vs k):=by
 unfold KV at r
 induction r with
 | nil=>exact True.intro
 | @cons p q ps qs h t ih =>
  obtain ⟨h1,h2⟩:=h
  by_cases e:p.1 = k
  ·have e':q.1 = k:=h1.symm.trans e
   have b:valueAt (q :: qs) k = some q.2:=by simp [valueAt,List.find?_cons,e']
   rw [jg9 e,b]; exact h2
  ·have e':¬ q.1 = k:=fun z=>e (h1.trans z)
   have b:valueAt (q :: qs) k = valueAt qs k:=by simp [valueAt,List.find?_cons,e']
   rw [jga e,b]; exact ih
theorem KV.any {kvs:List (κ × V)} {vs:List (κ × Value)} (r:KV kvs vs) (k:κ):(kvs.any fun kv=>decide (kv.1 = k)) = vs.any fun kv=>decide (kv.1 = k):=by
 unfold KV at r
 induction r with
 | nil=>rfl
 | cons h t ih=>rw [List.any_cons,List.any_cons,ih,h.1]
theorem KV.repl {kvs:List (κ × V)} {vs:List (κ × Value)} (r:KV kvs vs) (k:κ) {y:V} {u:Value} (ry:RelV y u) :
  KV (kvs.map fun kv=>if kv.1 = k then (kv.1,y) else kv) (vs.map fun kv=>if kv.1 = k then (kv.1,u) else kv):=by
 unfold KV at r ⊢
 induction r with
 | nil=>exact .nil
 | @cons p q ps qs h t ih =>
  rw [List.map_cons,List.map_cons]
  refine .cons ?_ ih
  obtain ⟨h1,h2⟩:=h
  by_cases e:p.1 = k
  ·rw [if_pos e,if_pos (h1.symm.trans e)]; exact ⟨h1,ry⟩
  ·rw [if_neg e,if_neg (fun z=>e (h1.trans z))]; exact ⟨h1,h2⟩
theorem KV.put {kvs:List (κ × V)} {vs:List (κ × Value)} (r:KV kvs vs) (k:κ) {y:V} {u:Value} (ry:RelV y u):KV (putK kvs k y) (stored vs k u):=by
 unfold putK stored
 rw [r.any k]
 by_cases e:(vs.any fun kv=>decide (kv.1 = k)) = true
 ·rw [if_pos e,if_pos e]; exact r.repl k ry
 ·rw [if_neg e,if_neg e]; exact Paired.snoc r ⟨rfl,ry⟩
theorem KV.drop {kvs:List (κ × V)} {vs:List (κ × Value)} (r:KV kvs vs) (k:κ):KV (dropK kvs k) (without vs k):=by
 unfold KV at r ⊢
 unfold dropK without
 induction r with
 | nil=>exact .nil
 | @cons p q ps qs h t ih =>
  obtain ⟨h1,h2⟩:=h
  rw [List.filter_cons,List.filter_cons]
  by_cases e:p.1 = k
  ·have a:¬ decide (p.1 ≠ k) = true:=by simp [e]
   have b:¬ decide (q.1 ≠ k) = true:=by simp [h1.symm.trans e]
   rw [if_neg a,if_neg b]; exact ih
  ·have e':¬ q.1 = k:=fun z=>e (h1.trans z)
   have a:decide (p.1 ≠ k) = true:=by simp [e]
   have b:decide (q.1 ≠ k) = true:=by simp [e']
   rw [if_pos a,if_pos b]; exact .cons ⟨h1,h2⟩ ih
theorem KV.keys {kvs:List (κ × V)} {vs:List (κ × Value)} (r:KV kvs vs):kvs.map (·.1) = vs.map (·.1):=by
 unfold KV at r
 induction r with
 | nil=>rfl
 | cons h t ih=>rw [List.map_cons,List.map_cons,ih,h.1]
theorem KV.length {kvs:List (κ × V)} {vs:List (κ × Value)} (r:KV kvs vs):kvs.length = vs.length:=Paired.length r
end
theorem jnr {P:Program} {w:World} {k:Key} {u:Value} (r:RelV (kV k) u):(jbc P w).is k u = true:=by
 cases k with
 | inl i=>obtain ⟨t,e⟩:=(show ∃ t,u = Value.int i t from r); subst e; exact jk1 P w i t
 | inr x=>obtain ⟨t,e⟩:=(show ∃ t,u = Value.str x t from r); subst e; exact jk0 P w x t
theorem jip {P:Program} {w:World}:∀ {ks:List Key} {us:List Value},Vals (ks.map kV) us→ItemsAre (jbc P w) ks us
 | [],_,r=>by rw [List.map_nil] at r; cases r; exact .nil
 | k :: ks,_,r=>by
  rw [List.map_cons] at r
  cases r with
  | cons h t=>exact .cons (jnr h) (jip t)
abbrev KT (H:Hp):List (List Key × V)→List (List Key × Addr × Value)→Prop:=Paired fun p q=>p.1 = q.1∧H q.2.1 = some (.tup (p.1.map kV))∧RelV p.2 q.2.2
theorem KT.val {H:Hp} {kvs:List (List Key × V)} {xs:List (List Key × Addr × Value)} (r:KT H kvs xs) (k:List Key):RelO (valV kvs k) ((atKey xs k).map (·.2)):=by
 induction r with
 | nil=>exact True.intro
 | @cons p q ps qs h t ih =>
  obtain ⟨h1,_,h2⟩:=h
  by_cases e:p.1 = k
  ·have e':q.1 = k:=h1.symm.trans e
   have b:atKey (q :: qs) k = some q.2:=by simp [atKey,List.find?_cons,e']
   rw [jg9 e,b]; exact h2
  ·have e':¬ q.1 = k:=fun z=>e (h1.trans z)
   have b:atKey (q :: qs) k = atKey qs k:=by simp [atKey,List.find?_cons,e']
   rw [jga e,b]; exact ih
theorem KT.repl {H:Hp} {kvs:List (List Key × V)} {xs:List (List Key × Addr × Value)} (r:KT H kvs xs) (k:List Key) {y:V} {u:Value} (ry:RelV y u) :
  KT H (kvs.map fun kv=>if kv.1 = k then (kv.1,y) else kv) (xs.map (putAt k u)):=by
 induction r with
 | nil=>exact .nil
 | @cons p q ps qs h t ih =>
  rw [List.map_cons,List.map_cons]
  refine .cons ?_ ih
  obtain ⟨h1,h2,h3⟩:=h
  unfold putAt
  by_cases e:p.1 = k
  ·rw [if_pos e,if_pos (h1.symm.trans e)]; exact ⟨h1,h2,ry⟩
  ·rw [if_neg e,if_neg (fun z=>e (h1.trans z))]; exact ⟨h1,h2,h3⟩
theorem KT.put {H:Hp} {kvs:List (List Key × V)} {xs:List (List Key × Addr × Value)} (r:KT H kvs xs) (k:List Key) {b:Addr} {y:V} {u:Value} (hb:H b = some (.tup (k.map kV))) (ry:RelV y u) :
  KT H (putK kvs k y) (storedH xs k b u):=by
 have e:(kvs.any fun kv=>decide (kv.1 = k)) = (atKey xs k).isSome:=by
  rw [jgb,(r.val k).isSome_eq,Option.isSome_map]
 unfold putK storedH
 rw [e]
 by_cases q:(atKey xs k).isSome = true
 ·rw [if_pos q,if_pos q]; exact r.repl k ry
 ·rw [if_neg q,if_neg q]; exact Paired.snoc r ⟨rfl,hb,ry⟩
theorem KT.keeps {H H':Hp} {kvs:List (List Key × V)} {xs:List (List Key × Addr × Value)} (r:KT H kvs xs) (ht:∀ b ys,H b = some (.tup ys)→H' b = some (.tup ys)):KT H' kvs xs :=
 Paired.mapP r fun _ _ z=>⟨z.1,ht _ _ z.2.1,z.2.2⟩
section
variable {P:Program} {w:World} {H:Hp} {h:Heap} {a:Addr}
theorem rd_of {u:HO} (ok:HOk P w H h) (e:Rd H a u):jb2 P w H h a u:=e.ok ok
theorem jpq {kvs:List (Key × V)} (ok:HOk P w H h) (e:Rd H a (.dK kvs)):kvs.length ≤ sizeLine∧(a == sysModules) = false∧∃ vs,KV kvs vs∧h.DictOf (jbc P w) a vs :=
 show jb2 P w H h a (.dK kvs) from rd_of ok e
theorem dk_of {kvs:List (Key × V)} (ok:HOk P w H h) (e:H a = some (.dK kvs)):kvs.length ≤ sizeLine∧(a == sysModules) = false∧∃ vs,KV kvs vs∧h.DictOf (jbc P w) a vs:=jpq ok (.inl e)
theorem jl1 {ks:List Key} (ok:HOk P w H h) (e:H a = some (.tup (ks.map kV))):(tupleKind (jbc P w)).is h ks a:=by
 obtain ⟨_,its,r,o,h1,h2,n,h3⟩:=(show jb2 P w H h a (.tup (ks.map kV)) from ok a _ e)
 exact ⟨o,its.toArray,n,h1,h2,h3,by simpa using jip r⟩
theorem jpp {kvs:List (List Key × V)} (ok:HOk P w H h) (e:Rd H a (.dT kvs)):kvs.length ≤ sizeLine∧(a == sysModules) = false ∧
  ∃ xs,KT H kvs xs∧h.DictOfH (tupleKind (jbc P w)) a xs:=by
 obtain ⟨z,y,xs,r,o,es,ep,h1,h2,h3,h4,h5⟩:=(show jb2 P w H h a (.dT kvs) from rd_of ok e)
 refine ⟨z,y,xs,r,o,es,ep,h1,h2,h3,h4,fun x hx=>?_,h5⟩
 have all:∀ {l:List (List Key × V)} {m:List (List Key × Addr × Value)},KT H l m→∀ x ∈ m,(tupleKind (jbc P w)).is h x.1 x.2.1:=by
  intro l m q
  induction q with
  | nil=>intro x hx; exact nomatch hx
  | @cons p q ps qs hq t ih =>
   intro x hx
   rcases List.mem_cons.mp hx with e | hx
   ·subst e
    exact jl1 ok (by rw [← hq.1]; exact hq.2.1)
   ·exact ih x hx
 exact all r x hx
theorem dt_of {kvs:List (List Key × V)} (ok:HOk P w H h) (e:H a = some (.dT kvs)):kvs.length ≤ sizeLine∧(a == sysModules) = false ∧
  ∃ xs,KT H kvs xs∧h.DictOfH (tupleKind (jbc P w)) a xs:=jpp ok (.inl e)
end
def DGet (H:Hp) (a:Addr) (y:V) (r:Option V):Prop :=
 (∃ kvs k,Rd H a (.dK kvs)∧y = kV k∧r = valV kvs k) ∨ ∃ kvs k b,Rd H a (.dT kvs)∧y = .ref b∧H b = some (.tup (k.map kV))∧r = valV kvs k
def DPut (H:Hp) (a:Addr) (y v:V) (H':Hp):Prop :=
 (∃ kvs k,H a = some (.dK kvs)∧y = kV k∧kvs.length < sizeLine∧H' = upd H a (.dK (putK kvs k v))) ∨
 ∃ kvs k b,H a = some (.dT kvs)∧y = .ref b∧H b = some (.tup (k.map kV))∧kvs.length < sizeLine∧H' = upd H a (.dT (putK kvs k v))
theorem DGet.k {H:Hp} {a:Addr} {kvs:List (Key × V)} {k:Key} (e:H a = some (.dK kvs)):DGet H a (kV k) (valV kvs k):=.inl ⟨kvs,k,.inl e,rfl,rfl⟩
theorem DGet.t {H:Hp} {a b:Addr} {kvs:List (List Key × V)} {k:List Key} (e:H a = some (.dT kvs)) (eb:H b = some (.tup (k.map kV))):DGet H a (.ref b) (valV kvs k):=.inr ⟨kvs,k,b,.inl e,rfl,eb,rfl⟩
theorem DPut.k {H:Hp} {a:Addr} {kvs:List (Key × V)} {k:Key} {v:V} (e:H a = some (.dK kvs)) (hl:kvs.length < sizeLine):DPut H a (kV k) v (upd H a (.dK (putK kvs k v))):=.inl ⟨kvs,k,e,rfl,hl,rfl⟩
theorem DPut.t {H:Hp} {a b:Addr} {kvs:List (List Key × V)} {k:List Key} {v:V} (e:H a = some (.dT kvs)) (eb:H b = some (.tup (k.map kV))) (hl:kvs.length < sizeLine) :
  DPut H a (.ref b) v (upd H a (.dT (putK kvs k v))):=.inr ⟨kvs,k,b,e,rfl,eb,hl,rfl⟩
section
variable {X:Cx} {pins:List (Addr × Obj)} {σ:St} {H:Hp} {s:Shared} {a:Addr} {y v:V} {u r:Value} {o:Option V} {A:Around} {E:Value→Shared→Prop}
theorem Inv.big (I:Inv X pins σ H s):sysModules < s.heap.objs.size:=by
 have h:mainGlobals < s.heap.objs.size:=(I.mod.glob.keeps I.bk).lt
 exact Nat.lt_trans (by decide) h
theorem job {Q:Value→Shared→Prop} (hu:A.units + 1 < cLine) (I:Inv X pins σ H s) (g:DGet H a y (some v)) (ry:RelV y u) (h:∀ w' s',Inv X pins σ H s'→RelV v w'→Q w' s') :
  wpAny (model X.prog X.w) A (getItem (.ref a) u) Q E s:=by
 rcases g with ⟨kvs,k,e,ey,l⟩ | ⟨kvs,k,b,e,ey,eb,l⟩
 ·subst ey
  obtain ⟨z,hd,vs,rel,dd⟩:=jpq I.hok e
  obtain ⟨w',hw,rw'⟩:=RelO.some_of (v:=v) (o:=valueAt vs k) (by rw [l]; exact rel.val k)
  exact wpAny_getItem_of (jnr ry) dd.mapOf hw (h w' _ (I.tok _) rw')
 ·subst ey
  cases (show u = Value.ref b from ry)
  obtain ⟨z,hd,xs,rel,dd⟩:=jpp I.hok e
  obtain ⟨w',hw,rw'⟩:=RelO.some_of (v:=v) (o:=(atKey xs k).map (·.2)) (by rw [l]; exact rel.val k)
  obtain ⟨p,hp,hp2⟩:=Option.map_eq_some_iff.mp hw
  refine wpAny_getItem_heap (tupleKind_room_in1 hu) (jl1 I.hok eb) dd hp ?_
  rw [hp2]
  exact h w' _ (I.tok _) rw'
theorem d_in {Q:Value→Shared→Prop} (hu:A.units + 1 < cLine) (I:Inv X pins σ H s) (g:DGet H a y o) (ry:RelV y u) (h:∀ s',Inv X pins σ H s'→Q (.bool o.isSome) s') :
  wpAny (model X.prog X.w) A (compareOp .In u (.ref a)) Q E s:=by
 rcases g with ⟨kvs,k,e,ey,l⟩ | ⟨kvs,k,b,e,ey,eb,l⟩
 ·subst ey
  obtain ⟨z,hd,vs,rel,dd⟩:=jpq I.hok e
  refine wpAny_in_of (jnr ry) hd dd.mapOf ?_
  rw [← (rel.val k).isSome_eq,← l]
  exact h _ (I.tok _)
 ·subst ey
  cases (show u = Value.ref b from ry)
  obtain ⟨z,hd,xs,rel,dd⟩:=jpp I.hok e
  refine wpAny_in_heap (tupleKind_room_in1 hu) (jl1 I.hok eb) hd dd ?_
  have q:=(rel.val k).isSome_eq
  rw [Option.isSome_map] at q
  rw [← q,← l]
  exact h _ (I.tok _)
theorem jo9 {h':Heap} {t':Nat} {ob:HO} (I:Inv X pins σ H s) (mu:Mut (H a)) (hs:Heap.SameBut a s.heap h') (he:∃ q,h'.get? a = some q) (new:jb2 X.prog X.w (upd H a ob) h' a ob) :
  Inv X pins σ (upd H a ob) { s with heap:=h',toks:=t' } :=
 I.write (x:=a) (e:=a) mu (.inl rfl) (fun b q hb z=>(hs.2 b hb).trans z) he new
theorem jqg {P:Program} {w:World} {H':Hp} {h':Heap} {kvs:List (Key × V)} {vs:List (Key × Value)} (z:kvs.length ≤ sizeLine) (hd:(a == sysModules) = false) (rel:KV kvs vs) (dd:h'.DictOf (jbc P w) a vs) :
  jb2 P w H' h' a (.dK kvs):=⟨z,hd,vs,rel,dd⟩
theorem joa {H':Hp} {Q:Unit→Shared→Prop} (hu:A.units + 1 < cLine) (I:Inv X pins σ H s) (g:DPut H a y v H') (ry:RelV y u) (rv:RelV v r) (h:∀ s',Inv X pins σ H' s'→Q () s') :
  wpAny (model X.prog X.w) A (setItem (.ref a) u r) Q E s:=by
 rcases g with ⟨kvs,k,e,ey,l,eH⟩ | ⟨kvs,k,b,e,ey,eb,l,eH⟩
 ·subst ey eH
  obtain ⟨z,hd,vs,rel,dd⟩:=dk_of I.hok e
  have hz:vs.length ≤ sizeLine:=by rw [← rel.length]; exact z
  have hl:(putK kvs k v).length ≤ sizeLine:=by have:=jf4 kvs k v; omega
  refine wpAny_setItem_pairs (hsz:=hz) (jnr ry) dd fun h' dd' hs=>h _ ?_
  have he:∃ q,h'.get? a = some q:=let ⟨q,_,_,hq,_⟩:=dd'; ⟨q,hq⟩
  exact jo9 I (by rw [e]; exact True.intro) hs he (jqg hl hd (rel.put k rv) dd')
 ·subst ey eH
  cases (show u = Value.ref b from ry)
  obtain ⟨z,hd,xs,rel,dd⟩:=dt_of I.hok e
  have hz:xs.length ≤ sizeLine:=by rw [← Paired.length rel]; exact z
  have hl:(putK kvs k v).length ≤ sizeLine:=by have:=jf4 kvs k v; omega
  refine wpAny_setItem_heap (hsz:=hz) (tupleKind_room_in1 hu) (jl1 I.hok eb) dd fun h' dd' hs=>h _ ?_
  obtain ⟨q,es,ep,hq,h2,h3,h4,_,h5⟩:=dd'
  refine jo9 I (by rw [e]; exact True.intro) hs ⟨q,hq⟩ ⟨hl,hd,_,(rel.put k eb rv).keeps fun c ys ec=>?_,q,es,ep,hq,h2,h3,h4,h5⟩
  rw [ja7 (ne_of ec e (fun z=>nomatch z))]
  exact ec
end
section
variable {X:Cx} {pins:List (Addr × Obj)} {σ:St} {H:Hp} {s:Shared} {a:Addr} {kvs:List (Key × V)} {k:Key} {u:Value} {A:Around} {E:Value→Shared→Prop}
end
def NoSl (i:Expr):Prop:=∀ ov iv,subscripted i false ov iv = operate [ov,iv] (getItem ov iv)
theorem jql {prog:Program} {w:World} {A:Around} {E:Value→Shared→Prop} {s:Shared} {env:Env} {value slice:Expr} {pos:Pos} {T id:String} {Q:Value→Shared→Prop}
  (hl:typeLookup (.type T) "__getitem__" = pure (some (.builtin id))) (hs:NoSl slice)
  (h:wpAny (model prog w) A (eval value env) (fun o s₁=>wpAny (model prog w) A (eval slice env) (fun i s₂=>s₂.TypeIs o T∧wpAny (model prog w) A (getItem o i) Q E s₂) E s₁) E s) :
  wpAny (model prog w) A (eval (.Subscript value slice pos) env) Q E s:=by
 refine Subscript_ (wpAny_mono h (fun o s₁ h₁=>wpAny_mono h₁ (fun i s₂ h₂=>?_) fun _ _ x=>x) fun _ _ x=>x)
 obtain ⟨hT,h₂⟩:=h₂
 unfold subscriptTail
 refine wpAny_bind ?_
 rw [getitemInPython_of_ne hT.not_modules]
 refine wpAny_bind (wpAny_specialOf hT hl ?_)
 have fin:wpAny (model prog w) A (subscripted slice false o i) (fun r s₃=>wpAny (model prog w) A (letTemporaryGo value o r >>= fun _=>pure r) Q E s₃) E s₂:=by
  rw [hs o i]
  exact wpAny_operating (wpAny_mono h₂ (fun r s₃ h₃=>wpAny_bind (wpAny_letTemporaryGo (wpAny_pure h₃))) fun _ _ x=>x)
 first
  | exact wpAny_pure (wpAny_bind fin)
  | exact wpAny_bind (wpAny_pure (wpAny_bind fin))
  | exact wpAny_bind fin
theorem jkb {X:Cx} {pins:List (Addr × Obj)} {σ:St} {H:Hp} {s:Shared} {a:Addr} {y:V} {o:Option V} (I:Inv X pins σ H s) (g:DGet H a y o):s.TypeIs (.ref a) "dict":=by
 rcases g with ⟨kvs,k,e,_,_⟩ | ⟨kvs,k,b,e,_,_,_⟩
 ·obtain ⟨_,_,vs,_,dd⟩:=jpq I.hok e
  exact dd.typeIs
 ·obtain ⟨_,_,xs,_,dd⟩:=jpp I.hok e
  exact dd.typeIs
section
variable {X:Cx} {o i e value:Expr} {pos pos' tpos:Pos} {td ty tv:TE}
end
theorem jpr {P:Program} {w:World} {H:Hp} (h:Heap) (hb:sysModules < h.objs.size):jb2 P w H (h.push { cls:=.type "dict",data:=.dict #[] }) h.objs.size (.dK []) :=
 ⟨Nat.zero_le _,beq_eq_false_iff_ne.mpr (Ne.symm (Nat.ne_of_lt hb)),[],.nil,Heap.DictOf.new h⟩
def jek:TE:=fun _ H Q=>∀ p,H p = none→Q (.ref p) (upd H p (.dK []))
section
variable {X:Cx} {pos:Pos}
theorem jp9:PE X (.Dict [] [] pos) jek:=fun pins s σ H Q I h =>
 wpAny_Dict_empty ⟨.ref s.heap.objs.size,_,I.laid (a:=s.heap.objs.size) (o:=.dK []) (t':=s.toks) (fun _ _ q=>Heap.get?_push_of_some _ q) (Nat.le_refl _) (jpr s.heap I.big),rfl,h _ (I.hok.fresh (Nat.le_refl _))⟩
end
structure M1 (X:Cx) (o:Expr) (m:Str) (apos:Pos) (e:Expr) (cpos:Pos):Prop where
 base:attributeBase o m X.env (eval o X.env) = eval o X.env
 few:((backTo cpos (starEach [e] X.env)).all (fun x=>!x.1) && (backToKw cpos (keywordEach [] X.env)).all (fun x=>x.1.isSome)
  && decide (([e]:List Expr).length + ([]:List Keyword).length + (if ([]:List Keyword).isEmpty then 0 else 1) < 30)) = true
 line:(apos.endLine == cpos.line) = true
 trees:backTo cpos (starEach [e] X.env) = [(false,eval e X.env)]
structure M2 (X:Cx) (o:Expr) (m:Str) (apos:Pos) (e f:Expr) (cpos:Pos):Prop where
 base:attributeBase o m X.env (eval o X.env) = eval o X.env
 few:((backTo cpos (starEach [e,f] X.env)).all (fun x=>!x.1) && (backToKw cpos (keywordEach [] X.env)).all (fun x=>x.1.isSome)
  && decide (([e,f]:List Expr).length + ([]:List Keyword).length + (if ([]:List Keyword).isEmpty then 0 else 1) < 30)) = true
 line:(apos.endLine == cpos.line) = true
 trees:backTo cpos (starEach [e,f] X.env) = [(false,eval e X.env),(false,eval f X.env)]
section
variable {X:Cx} {pins:List (Addr × Obj)} {σ:St} {H:Hp} {s:Shared} {a:Addr} {y d:V} {u r:Value} {o:Option V} {A:Around} {E:Value→Shared→Prop}
end
section
variable {X:Cx} {o e f:Expr} {apos cpos:Pos} {td ty tx:TE}
end
section
variable {X:Cx} {pins:List (Addr × Obj)} {σ:St} {H:Hp} {s:Shared} {a:Addr} {kvs:List (Key × V)} {A:Around} {E:Value→Shared→Prop}
end
section
variable {X:Cx} {pins:List (Addr × Obj)} {σ:St} {H:Hp} {s:Shared} {a:Addr} {y:V} {u:Value} {A:Around} {E:Value→Shared→Prop}
end
end L2
namespace L2
open PySem PySem.Spec PyProof.Rows
section
variable {κ:Type} [DecidableEq κ]
end
end L2
namespace L2
open PySem PySem.Spec PyProof.Rows
def jbf (env:Env):List (Str × NameKind)→List (Str × Addr)→List (Str × Addr)
 | [],acc=>acc
 | (n,k) :: r,acc=>jbf env r (if k == .free then (n,(env.cells.lookup n).getD 0) :: acc else acc)
theorem jc9 {scope:Scope} {env:Env} (h:∀ y ∈ scope.names,y.2 = .free→∃ c,env.cells.lookup y.1 = some c) :
    closureFor scope env = pure (jbf env scope.names []):=by
  have key:∀ (l:List (Str × NameKind)) (acc:List (Str × Addr)),(∀ y ∈ l,y.2 = .free→∃ c,env.cells.lookup y.1 = some c) →
      (forIn l acc fun (x:Str × NameKind) (r:List (Str × Addr)) =>
        (if x.2 == NameKind.free then do
          let c ← cellOf env x.1
          pure (ForInStep.yield ((x.1,c) :: r))
        else pure (ForInStep.yield r):Sem (ForInStep (List (Str × Addr))))) = pure (jbf env l acc):=by
    intro l
    induction l with
    | nil=>intro acc _; rfl
    | cons y r ih =>
      intro acc hy
      obtain ⟨n,k⟩:=y
      rw [List.forIn_cons]
      by_cases hk:k = .free
      · subst hk
        obtain ⟨c,hc⟩:=hy (n,.free) List.mem_cons_self rfl
        have e1:cellOf env n = pure c:=by unfold cellOf; rw [hc]
        simp only [beq_self_eq_true,if_true]
        rw [e1]
        show (pure c >>= fun c=>pure (ForInStep.yield ((n,c) :: acc))) >>= _ = _
        have e2:jbf env ((n,NameKind.free) :: r) acc = jbf env r ((n,c) :: acc):=by
          have hc':env.cells.lookup n = some c:=hc
          show jbf env r (if (NameKind.free == NameKind.free) = true then (n,(env.cells.lookup n).getD 0) :: acc else acc) = _
          rw [hc']
          rfl
        rw [e2]
        exact ih _ fun z hz=>hy z (List.mem_cons_of_mem _ hz)
      · have hb:(k == NameKind.free) = false:=by simpa using hk
        simp only [hb,Bool.false_eq_true,if_false]
        have e2:jbf env ((n,k) :: r) acc = jbf env r acc:=by
          show jbf env r (if (k == NameKind.free) = true then _ else acc) = _
          rw [hb]; rfl
        rw [e2]
        exact ih _ fun z hz=>hy z (List.mem_cons_of_mem _ hz)
  unfold closureFor
  have e:=key scope.names [] h
  have e3:∀ (f:Str × NameKind→List (Str × Addr)→Sem (ForInStep (List (Str × Addr)))),(f = fun x r=>(if x.2 == NameKind.free then do
          let c ← cellOf env x.1
          pure (ForInStep.yield ((x.1,c) :: r))
        else pure (ForInStep.yield r)))→(forIn scope.names [] f >>= fun r=>pure r) = (pure (jbf env scope.names []):Sem (List (Str × Addr))):=by
    intro f hf
    rw [hf,e]
    rfl
  exact e3 _ rfl
theorem jdn {env:Env} {x:Str}:∀ (l:List (Str × NameKind)) (acc:List (Str × Addr)) (c:Addr),(jbf env l acc).lookup x = some c →
  ((∃ y ∈ l,y.1 = x∧y.2 = .free)∧(env.cells.lookup x).getD 0 = c) ∨ acc.lookup x = some c
 | [],acc,c,h=>.inr h
 | (n,k) :: r,acc,c,h=>by
  rcases jdn r _ c h with ⟨⟨y,hy,e⟩,q⟩ | q
  ·exact .inl ⟨⟨y,List.mem_cons_of_mem _ hy,e⟩,q⟩
  ·by_cases hk:k = .free
   ·subst hk
    have q':List.lookup x ((n,(env.cells.lookup n).getD 0) :: acc) = some c:=q
    rw [List.lookup_cons] at q'
    cases hx:x == n with
    | true =>
     rw [hx] at q'
     have hx':x = n:=by simpa using hx
     subst hx'
     exact .inl ⟨⟨_,List.mem_cons_self,rfl,rfl⟩,Option.some.inj q'⟩
    | false=>rw [hx] at q'; exact .inr q'
   ·have hb:(k == NameKind.free) = false:=by simpa using hk
    rw [hb] at q
    exact .inr q
theorem je2 {env:Env} {x:Str}:∀ (l:List (Str × NameKind)) (acc:List (Str × Addr)),((∃ y ∈ l,y.1 = x∧y.2 = .free) ∨ (acc.lookup x).isSome)→((jbf env l acc).lookup x).isSome
 | [],acc,h=>by
  rcases h with ⟨y,hy,_⟩ | h
  ·cases hy
  ·exact h
 | (n,k) :: r,acc,h=>by
  show ((jbf env r (if (k == NameKind.free) = true then _ else acc)).lookup x).isSome
  refine je2 r _ ?_
  rcases h with ⟨y,hy,e1,e2⟩ | h
  ·rcases List.mem_cons.mp hy with rfl | hy
   ·have e2':k = .free:=e2
    have e1':n = x:=e1
    subst e2' e1'
    refine .inr ?_
    simp [List.lookup_cons]
   ·exact .inl ⟨y,hy,e1,e2⟩
  ·refine .inr ?_
   split
   ·rw [List.lookup_cons]
    split
    ·rfl
    ·exact h
   ·exact h
structure CpScope (X:Cx) (scope:Scope) (N:List Str) (src:List (Option Nat)):Prop where
 kind:scope.kind = .function
 nocell:∀ y ∈ scope.names,y.2 ≠ .cell
 locs:∀ y ∈ scope.names,y.2 = .local→scope.names.lookup y.1 = some .local
 frees:∀ y ∈ scope.names,y.2 = .free→scope.names.lookup y.1 = some .free∧X.env.scope.names.lookup y.1 = some .cell
 nd:N.Nodup
 len:src.length = N.length
 cap:∀ (i j:Nat),src[i]? = some (some j)→X.N[j]? = N[i]?∧(N[i]?).elim False (fun x=>scope.names.lookup x = some .free)
def cst (src:List (Option Nat)) (σ:St):St:=src.map fun o=>o.bind fun j=>(σ[j]?).join
theorem jbv {env:Env} (hk:env.scope.kind = .function):∀ {names:List (Str × NameKind)} {x:Str},names.lookup x = some .free→env.kindOf x = some .cell →
  (names.map fun (n,k)=>if (k == NameKind.free && env.scope.kind == .function && env.kindOf n == some .cell) then (n,NameKind.cell) else (n,k)).lookup x = some .cell
 | [],_,h,_=>by simp at h
 | (n,k) :: r,x,h,hc=>by
  have ih:=@jbv env hk r x
  show List.lookup x ((if (k == NameKind.free && env.scope.kind == .function && env.kindOf n == some .cell) = true then (n,NameKind.cell) else (n,k)) :: _) = _
  cases hx:x == n with
  | true =>
   simp only [List.lookup_cons,hx] at h
   cases h
   have hx':x = n:=by simpa using hx
   subst hx'
   rw [if_pos (by rw [hk,hc]; rfl)]
   simp [List.lookup_cons]
  | false =>
   simp only [List.lookup_cons,hx] at h
   by_cases hq:(k == NameKind.free && env.scope.kind == .function && env.kindOf n == some .cell) = true
   ·rw [if_pos hq]; simp only [List.lookup_cons,hx]; exact ih h hc
   ·rw [if_neg hq]; simp only [List.lookup_cons,hx]; exact ih h hc
theorem jbd {env:Env}:∀ {names:List (Str × NameKind)} {x:Str} {k':NameKind},
  (names.map fun (n,k)=>if (k == NameKind.free && env.scope.kind == .function && env.kindOf n == some .cell) then (n,NameKind.cell) else (n,k)).lookup x = some k' →
   names.lookup x = some k' ∨ (names.lookup x = some .free∧k' = .cell)
 | [],_,_,h=>by simp at h
 | (n,k) :: r,x,k',h=>by
  have ih:=@jbd env r x k'
  have h:List.lookup x ((if (k == NameKind.free && env.scope.kind == .function && env.kindOf n == some .cell) = true then (n,NameKind.cell) else (n,k)) :: _) = _:=h
  cases hx:x == n with
  | true =>
   by_cases hq:(k == NameKind.free && env.scope.kind == .function && env.kindOf n == some .cell) = true
   ·rw [if_pos hq] at h
    have h1:=h
    simp only [List.lookup_cons,hx]
    have:k = .free:=by
     have:=(Bool.and_eq_true _ _ ▸ (Bool.and_eq_true _ _ ▸ hq).1).1
     simpa using this
    subst this
    refine .inr ⟨rfl,?_⟩
    have h2:List.lookup x ((n,NameKind.cell) :: (r.map fun (n,k)=>if (k == NameKind.free && env.scope.kind == .function && env.kindOf n == some .cell) then (n,NameKind.cell) else (n,k))) = some k':=h1
    simp only [List.lookup_cons,hx] at h2
    exact (Option.some.inj h2).symm
   ·rw [if_neg hq] at h
    simp only [List.lookup_cons,hx] at h ⊢
    exact .inl h
  | false =>
   have h':List.lookup x (r.map fun (n,k)=>if (k == NameKind.free && env.scope.kind == .function && env.kindOf n == some .cell) then (n,NameKind.cell) else (n,k)) = some k':=by
    by_cases hq:(k == NameKind.free && env.scope.kind == .function && env.kindOf n == some .cell) = true
    ·rw [if_pos hq] at h
     simpa only [List.lookup_cons,hx] using h
    ·rw [if_neg hq] at h
     simpa only [List.lookup_cons,hx] using h
   simp only [List.lookup_cons,hx]
   exact ih h'
def Cx.block (X:Cx) (scope:Scope) (N:List Str) (fp:List Addr) (s₀:Shared) (H₀:Hp) (C:Addr):Cx where
 prog:=X.prog
 w:=X.w
 K:=X.K
 mg:=X.mg
 base:=X.base
 A:=X.A
 N:=N
 s₀:=s₀
 H₀:=H₀
 env:=compEnvC scope (jbf X.env scope.names []) C X.env
 outer:=X.stack
 stack:=X.stack
 ex:=fp
 calm:=X.calm
 fn:=fun _=>false
 pn:=[]
 xe:=fun _ _=>False
theorem jns {o:Option (Option V)} {v:V} (h:o.join = some v):o = some (some v):=by
 cases o with
 | none=>cases h
 | some z=>cases z with
  | none=>cases h
  | some z=>rw [show z = v from Option.some.inj h]
theorem Inv.enter {X:Cx} {scope:Scope} {N:List Str} {src:List (Option Nat)} {pins:List (Addr × Obj)} {σ:St} {H:Hp} {s s4:Shared} {fp:List Addr} (S:CpScope X scope N src) (I:Inv X pins σ H s)
  (f2:∀ b ∈ fp,FpOk X pins H b) (lt:∀ b ∈ fp,b < s.heap.objs.size) (hns:s4.heap.Ns s.heap.objs.size fun _=>none) (hk:∀ b o,s.heap.get? b = some o→s4.heap.get? b = some o) (hos:s4.os = s.os) (hg:s4.gens = s.gens) :
  Inv (X.block scope N fp s H s.heap.objs.size) [] (cst src σ) H s4:=by
 have cells:∀ x c,(jbf X.env scope.names []).lookup x = some c→X.env.cells.lookup x = some c:=fun x c e=>by
  rcases jdn _ _ _ e with ⟨⟨y,hy,e1,e2⟩,q⟩ | q
  ·obtain ⟨c',hc'⟩:=I.ok.has y.1 (.inl (S.frees y hy e2).2)
   rw [e1] at hc'
   rw [hc'] at q ⊢
   exact congrArg some q
  ·cases q
 refine ⟨⟨I.mod,S.kind,I.ok.glob,I.ok.blt,Nat.le_refl _,fun x y c h1 h2=>I.ok.inj x y c (cells x c h1) (cells y c h2),fun x hx=>?_,fun x c h=>absurd (show false = true from h) Bool.false_ne_true,I.ok.hd,I.ok.frames,.inl rfl,fun b hb=>?_,I.bs,
   Nat.le_trans I.ok.bsz I.sz,fun b o e hb=>?_,fun b hb z=>?_,I.stack,I.stkFree⟩,hos,?_,Un.kept hk,⟨fun _=>none,hns,fun i x v h1 h2 h3=>?_⟩,fun x c e=>?_,I.fresh,fun x c e=>I.freeC x c (cells x c e),fun p hp=>?_,I.hok.kept hk,?_⟩
 ·have hx':(scope.names.map fun (n,k)=>if (k == NameKind.free && X.env.scope.kind == .function && X.env.kindOf n == some .cell) then (n,NameKind.cell) else (n,k)).lookup x = some .cell ∨ (scope.names.map fun (n,k)=>if (k == NameKind.free && X.env.scope.kind == .function && X.env.kindOf n == some .cell) then (n,NameKind.cell) else (n,k)).lookup x = some .free:=hx
  have hf:scope.names.lookup x = some .free:=by
   rcases hx' with h | h
   ·rcases jbd h with h | h
    ·exact absurd rfl (S.nocell _ (PySem.mem_of_lookup h))
    ·exact h.1
   ·rcases jbd h with h | h
    ·exact h
    ·cases h.2
  have hsome:=je2 (env:=X.env) (x:=x) scope.names [] (.inl ⟨_,PySem.mem_of_lookup hf,rfl,rfl⟩)
  exact Option.isSome_iff_exists.mp hsome
 ·exact ⟨Nat.ne_of_lt (lt b hb),fun x c e=>(f2 b hb).2.2.2.2.1 x c (cells x c e)⟩
 ·have hb':b ∈ fp:=hb
  rcases (f2 b hb').2.2.2.1 with z | z
  ·exact I.ok.noex b o e z
  ·exact absurd (Nat.lt_of_lt_of_le (Heap.lt_size e) (Nat.le_trans I.ok.bsz z)) (Nat.lt_irrefl _)
 ·have hb':b ∈ fp:=hb
  have z':b ∈ frs X.stack:=z
  rcases List.mem_cons.mp (I.stkSub b z') with e | e
  ·exact (f2 b hb').2.1 e
  ·exact (f2 b hb').2.2.1 e
 ·rw [hg]; exact I.bare
 ·have h2':(src.map fun o=>o.bind fun j=>(σ[j]?).join)[i]? = some (some v):=h2
  rw [List.getElem?_map] at h2'
  cases e:src[i]? with
  | none=>rw [e] at h2'; cases h2'
  | some o =>
   rw [e] at h2'
   cases o with
   | none=>cases h2'
   | some j =>
    have h4:(σ[j]?).join = some v:=Option.some.inj h2'
    have h5:=jns h4
    obtain ⟨c1,c2⟩:=S.cap i j e
    have h1':N[i]? = some x:=h1
    rw [h1'] at c1 c2
    have c2':scope.names.lookup x = some .free:=c2
    have c3:=(S.frees _ (PySem.mem_of_lookup c2') rfl).2
    obtain ⟨m,hn,hl⟩:=I.loc
    obtain ⟨u,r,l⟩:=hl j x v c1 h5 (.inr (.inl c3))
    refine ⟨u,r,?_⟩
    have c3':X.env.kindOf x = some .cell:=c3
    rcases l with ⟨k,_⟩ | ⟨_,c,e1,z⟩
    ·rw [c3'] at k; cases k
    ·refine .inr ⟨.inl (jbv I.ok.kind c2' c3'),c,?_,?_⟩
     ·have hs:=je2 (env:=X.env) (x:=x) scope.names [] (.inl ⟨_,PySem.mem_of_lookup c2',rfl,rfl⟩)
      obtain ⟨c',hc'⟩:=Option.isSome_iff_exists.mp hs
      have:=cells x c' hc'
      rw [e1] at this
      cases this
      exact hc'
     ·obtain ⟨o,ho,hd⟩:=z
      exact ⟨o,hk c o ho,hd⟩
 ·obtain ⟨v,o,ho,hd⟩:=I.cell x c (cells x c e)
  exact ⟨v,o,hk c o ho,hd⟩
 ·exact absurd (show p ∈ ([]:List (Addr × Obj)) from hp) (by simp)
 ·show (src.map _).length = N.length
  rw [List.length_map]
  exact S.len
def PIf (X:Cx) (ifs:List Expr) (t:TT):Prop :=
 ∀ (pins:List (Addr × Obj)) (s:Shared) (σ:St) (H:Hp) (Q:Bool→Hp→Prop),Inv X pins σ H s→t σ H Q →
  wpAny (model X.prog X.w) X.A (forIn ifs true fun c r=>if r = true then do let ok ← isTrue c X.env (eval c X.env); pure (ForInStep.yield ok) else pure (ForInStep.yield r)) (TP X pins σ Q) X.xe s
def jj9:TT:=fun _ H Q=>Q true H
theorem jbs {X:Cx}:PIf X [] jj9:=fun pins s σ H Q I h=>wpAny_tests_nil ⟨H,I,h⟩
theorem jn6 {X:Cx} {c:Expr} {t:TT} (h:PT X c t):PIf X [c] t:=fun pins s σ H Q I hq=>wpAny_tests_one (h pins s σ H Q I hq)
def joo (J:It) (src:List (Option Nat)) (g:TG) (tc:TT) (te:TE) (Q:VK) (σ:St) (H:Hp) (l:Addr):Prop :=
 ∃ W:Nat→Nat→St→Hp→Prop,(∃ m,W 0 m (cst src σ) (upd H l (.lst [])))∧∀ i m σ' H,W i m σ' H →
  (J.stop i H∧Q (.ref l) H) ∨ (J.go i H∧∃ N:St→Hp→Prop,(∀ σ' H',N σ' H'→∃ m',m' < m∧W (i + 1) m' σ' H')∧∀ x H',J.yld i H x H'→g x σ' H' fun σ2 H2=>tc σ2 H2 fun b H3 =>
   if b = true then te σ2 H3 fun v H4=>∃ xs,H4 l = some (.lst xs)∧xs.length < sizeLine∧N σ2 (upd H4 l (.lst (xs ++ [v]))) else N σ2 H3)
theorem jb9 {J:It} {src:List (Option Nat)} {g:TG} {tc:TT} {te:TE} {Q:VK} {σ:St} {H:Hp} {l:Addr} (n:Nat) (Iv:Nat→St→Hp→Prop) (h0:Iv 0 (cst src σ) (upd H l (.lst [])))
  (hs:∀ i σ' Hc,i < n→Iv i σ' Hc→J.go i Hc∧∀ x H',J.yld i Hc x H'→g x σ' H' fun σ2 H2=>tc σ2 H2 fun b H3 =>
   if b = true then te σ2 H3 fun v H4=>∃ xs,H4 l = some (.lst xs)∧xs.length < sizeLine∧Iv (i + 1) σ2 (upd H4 l (.lst (xs ++ [v]))) else Iv (i + 1) σ2 H3)
  (hd:∀ σ' Hc,Iv n σ' Hc→J.stop n Hc∧Q (.ref l) Hc):joo J src g tc te Q σ H l:=by
 refine ⟨fun i m σ' Hc=>m = n - i∧i ≤ n∧Iv i σ' Hc,⟨n,by simp,Nat.zero_le _,h0⟩,?_⟩
 rintro i m σ' Hc ⟨rfl,hi,p⟩
 by_cases hlt:i < n
 ·obtain ⟨go,step⟩:=hs i σ' Hc hlt p
  exact .inr ⟨go,Iv (i + 1),fun σ2 H2 p'=>⟨n - (i + 1),by omega,rfl,hlt,p'⟩,step⟩
 ·have e:i = n:=by omega
  subst e
  exact .inl (hd σ' Hc p)
theorem jix {X:Cx} {elt tg iter:Expr} {ifs:List Expr} {scope:Scope} {pos:Pos} {N:List Str} {src:List (Option Nat)} {g:TG} {tc:TT} {te:TE} {pins:List (Addr × Obj)} {σ:St} {H2:Hp} {s2:Shared}
  {fp:List Addr} {it:Addr} {tn:Nat→Heap→Prop} {J:It} {Q:VK} {E:Value→Shared→Prop} {RR:Value→Addr→Result→Shared→Prop} (S:CpScope X scope N src) (hc:X.calm = true)
  (hg:∀ fp s₀ H₀ C,PG (X.block scope N fp s₀ H₀ C) tg g) (ht:∀ fp s₀ H₀ C,PIf (X.block scope N fp s₀ H₀ C) ifs tc) (he:∀ fp s₀ H₀ C,PE (X.block scope N fp s₀ H₀ C) elt te)
  (I2:Inv X pins σ H2 s2) (T:Turn X.prog X.w X.K tg J fp it tn) (st2:tn 0 s2.heap) (f2:∀ b ∈ fp,FpOk X pins H2 b) (hw:∀ l,H2 l = none→joo J src g tc te Q σ H2 l)
  (hRR:∀ l C H' s',Inv X pins σ H' s'→(∃ m,s'.heap.Ns C m)→FpOk X pins H' C→Q (.ref l) H'→RR (.ref l) C (.ok .next) s') :
  wpAny (model X.prog X.w) X.A (newList []) (fun acc s₃=>wpAny (model X.prog X.w) X.A (newFunctionEnv scope X.env.globals (jbf X.env scope.names []) [] X.env.qual none .none (some X.env)) (fun cenv s₄ =>
   codeAny (model X.prog X.w) X.A (.compStart (.ListComp elt [⟨tg,iter,ifs,0⟩] scope pos) 0 (.ref it) acc { cenv with scope:=relabel scope X.env }) (RR acc cenv.locals) s₄) E s₃) E s2:=by
 have hl0:H2 s2.heap.objs.size = none:=I2.fresh
 have I3:Inv X pins σ (upd H2 s2.heap.objs.size (.lst [])) { s2 with heap:=s2.heap.push { cls:=.type "list",data:=.seq ([]:List Value).toArray } }:=I2.lnew (ys:=[]) (its:=[]) (t':=s2.toks) .nil (Nat.zero_le _)
 have ltf:∀ b ∈ fp,b < s2.heap.objs.size:=fun b hb=>by
  obtain ⟨o,e,_⟩:=T.obj _ _ st2 b hb
  exact Heap.lt_size e
 have f3:∀ b ∈ fp,FpOk X pins (upd H2 s2.heap.objs.size (.lst [])) b:=fun b hb=>⟨by rw [ja7 (Nat.ne_of_lt (ltf b hb))]; exact (f2 b hb).1,(f2 b hb).2⟩
 obtain ⟨W,⟨m0,w0⟩,turn⟩:=hw _ hl0
 refine wpAny_newObj_type (wpAny_newFunctionEnv S.nocell (by intro y hy; simp at hy) (fun h₁ hns₁ hsb₁=>?_) S.kind)
 dsimp only at hns₁ hsb₁ ⊢
 revert I3 f3
 intro I3 f3
 have st1:tn 0 (s2.heap.push { cls:=.type "list",data:=.seq ([]:List Value).toArray }):=T.keep _ _ _ st2 fun b hb o e=>Heap.get?_push_of_some _ e
 have lt3:∀ b ∈ fp,b < (s2.heap.push { cls:=.type "list",data:=.seq ([]:List Value).toArray }).objs.size:=fun b hb=>by rw [Heap.size_push]; exact Nat.lt_succ_of_lt (ltf b hb)
 generalize hH:s2.heap.push { cls:=.type "list",data:=.seq ([]:List Value).toArray } = h3 at I3 st1 lt3 hns₁ hsb₁ ⊢
 have hk:∀ b o,h3.get? b = some o→h₁.get? b = some o:=fun b o e=>hsb₁.extBut b o (Nat.ne_of_lt (Heap.lt_size e)) (Heap.get?_push_of_some _ e)
 have Ib:Inv (X.block scope N fp { s2 with heap:=h3 } (upd H2 s2.heap.objs.size (.lst [])) h3.objs.size) [] (cst src σ) (upd H2 s2.heap.objs.size (.lst [])) { s2 with heap:=h₁,toks:=s2.toks + ([]:List (Str × Value)).length } :=
  Inv.enter (s:={ s2 with heap:=h3 }) S I3 f3 lt3 hns₁ hk rfl rfl
 have fpB:∀ {H':Hp},(∀ b ∈ fp,H' b = none)→∀ b ∈ fp,FpOk (X.block scope N fp { s2 with heap:=h3 } (upd H2 s2.heap.objs.size (.lst [])) h3.objs.size) [] H' b:=fun hn b hb =>
  ⟨hn b hb,(Ib.ok.exf b hb).1,Ib.ok.exfs b hb,.inl hb,(Ib.ok.exf b hb).2,fun p hp=>absurd (show p ∈ ([]:List (Addr × Obj)) from hp) (by simp)⟩
 have tn1:tn 0 h₁:=T.keep _ _ _ st1 fun b _ o e=>hk b o e
 have loop:∀ s₃:Shared,s₃ = { s2 with heap:=h₁,toks:=s2.toks + ([]:List (Str × Value)).length } →
   codeAny (model X.prog X.w) X.A (.compLoop (.ListComp elt [⟨tg,iter,ifs,0⟩] scope pos) 0 (.ref it) (.ref s2.heap.objs.size) (compEnvC scope (jbf X.env scope.names []) h3.objs.size X.env))
    (RR (.ref s2.heap.objs.size) h3.objs.size) s₃:=by
  rintro s₃ rfl
  refine codeAny_loop rfl (fun n s'=>∃ i σ' H',Inv (X.block scope N fp { s2 with heap:=h3 } (upd H2 s2.heap.objs.size (.lst [])) h3.objs.size) [] σ' H' s'∧tn i s'.heap∧(∀ b ∈ fp,H' b = none)∧W i n σ' H') ?_ m0
   ⟨0,_,_,Ib,tn1,fun b hb=>(f3 b hb).1,w0⟩
  rintro n s5 ⟨i,σ5,H5,I5,st5,fr5,w5⟩
  show wpAny _ X.A ((compTurn (.ListComp elt [⟨tg,iter,ifs,0⟩] scope pos) 0 (.ref it) (.ref s2.heap.objs.size) (compEnvC scope (jbf X.env scope.names []) h3.objs.size X.env)).onRaise (fun x=>do noteFrame x (compEnvC scope (jbf X.env scope.names []) h3.objs.size X.env); theTreesLotGoes x)) _ _ s5
  refine wpAny_noted ?_
  rw [compTurn_list]
  refine wpAny_bind (wpAny_standAt (wpAny_bind ?_))
  rcases turn i n σ5 H5 w5 with ⟨stop,qn⟩ | ⟨go,N',hN',step⟩
  ·refine thn (T.done (X.block scope N fp { s2 with heap:=h3 } (upd H2 s2.heap.objs.size (.lst [])) h3.objs.size) rfl rfl rfl hc i [] s5 σ5 H5 _ I5 (fpB fr5) st5 stop) fun r s6 ⟨hr,I6⟩=>?_
   subst hr
   refine wpAny_pure ?_
   have u6:Un (frs X.stack) fp (upd H2 s2.heap.objs.size (.lst [])) H5 h3 s6.heap:=I6.base
   have hf6:H5 h3.objs.size = none:=I6.free
   have I7:Inv X pins σ H5 s6:=I3.call' (ch:=fp) I6.os u6 I6.hok I6.bare fun b hb=>⟨(f3 b hb).2.2.2.1,(f3 b hb).2.1,(f3 b hb).2.2.2.2.1,(f3 b hb).2.2.2.2.2⟩
   obtain ⟨m,hm,_⟩:=I6.loc
   exact hRR _ _ H5 s6 I7 ⟨m,hm⟩ (I3.fpOk (Nat.le_refl _) hf6) qn
  ·refine thn (T.item (X.block scope N fp { s2 with heap:=h3 } (upd H2 s2.heap.objs.size (.lst [])) h3.objs.size) rfl rfl rfl hc i [] s5 σ5 H5 _ I5 (fpB fr5) st5 go) fun r s6 ⟨u,hr,h6⟩=>?_
   subst hr
   refine wpAny_bind (thn h6 fun _ s7 ⟨x,H7,I7,r7,y7,st7,fr7⟩=>?_)
   have I7':=I7.pinned (fpB fr7) (T.obj _ _ st7)
   have fin:∀ {σ9:St} {H9:Hp} {s9:Shared},Inv (X.block scope N fp { s2 with heap:=h3 } (upd H2 s2.heap.objs.size (.lst [])) h3.objs.size) ([] ++ ji2 fp s7.heap) σ9 H9 s9→N' σ9 H9 →
     ∃ m,m < n∧∃ i σ' H',Inv (X.block scope N fp { s2 with heap:=h3 } (upd H2 s2.heap.objs.size (.lst [])) h3.objs.size) [] σ' H' s9∧tn i s9.heap∧(∀ b ∈ fp,H' b = none)∧W i m σ' H':=fun {σ9 H9 s9} I9 n9=>by
    obtain ⟨m',hm,w9⟩:=hN' σ9 H9 n9
    refine ⟨m',hm,i + 1,σ9,H9,I9.unpinned,T.keep _ _ _ st7 fun b hb o e=>(I9.pin (b,o) (List.mem_append_right _ (List.mem_append_right _ (jcy hb e)))).1,fun b hb=>?_,w9⟩
    obtain ⟨o,e,d⟩:=T.obj _ _ st7 b hb
    exact (I9.pin (b,o) (List.mem_append_right _ (List.mem_append_right _ (jcy hb e)))).2.1
   refine wpAny_bind (wpAny_mono (hg fp _ _ _ _ s7 σ5 H7 x u _ I7' r7 (step x H7 y7)) (fun _ s8 ⟨σ8,H8,I8,q8⟩=>?_) fun _ _ z=>False.elim z)
   refine wpAny_bind (wpAny_mono (ht fp _ _ _ _ s8 σ8 H8 _ I8 q8) (fun ok s9 ⟨H9,I9,q9⟩=>?_) fun _ _ z=>False.elim z)
   cases ok with
   | false=>exact wpAny_pure ⟨rfl,fin I9 q9⟩
   | true =>
    refine wpAny_bind (wpAny_bind (wpAny_mono (he fp _ _ _ _ s9 σ8 H9 _ I9 q9) (fun v s10 ⟨y,H10,I10,r10,xs,hx,hz,q10⟩=>?_) fun _ _ z=>False.elim z))
    refine wpAny_bind (wpAny_mono (jij (X:=X.block scope N fp { s2 with heap:=h3 } (upd H2 s2.heap.objs.size (.lst [])) h3.objs.size) _ s10 σ8 H10 (.ref s2.heap.objs.size) [y] _ [v] (fun _ H11=>N' σ8 H11) I10 rfl (.cons r10 .nil) ⟨_,xs,y,rfl,rfl,hx,hz,q10⟩)
     (fun _ s11 ⟨_,H11,I11,_,q11⟩=>wpAny_pure (wpAny_pure ⟨rfl,fin I11 q11⟩)) fun _ _ z=>False.elim z)
 exact codeAny_compStart_list (loop _ rfl) (T.self _ 0 _ _ _ tn1 (loop _ rfl))
def jov (src:List (Option Nat)) (wi:TI) (g:TG) (tc:TT) (te:TE):TE:=fun σ H Q=>wi σ H fun J H1=>∀ l,H1 l = none→joo J src g tc te Q σ H1 l
theorem jc3 {X:Cx} {elt tg iter:Expr} {ifs:List Expr} {scope:Scope} {pos:Pos} {N:List Str} {src:List (Option Nat)} {wi:TI} {g:TG} {tc:TT} {te:TE} (S:CpScope X scope N src) (hc:X.calm = true)
  (hi:PI X tg iter wi) (hg:∀ fp s₀ H₀ C,PG (X.block scope N fp s₀ H₀ C) tg g) (ht:∀ fp s₀ H₀ C,PIf (X.block scope N fp s₀ H₀ C) ifs tc) (he:∀ fp s₀ H₀ C,PE (X.block scope N fp s₀ H₀ C) elt te)
  (hs:∀ x,foldedSetIterable iter X.env x = pure x:=by intro _; rfl):PE X (.ListComp elt [⟨tg,iter,ifs,0⟩] scope pos) (jov src wi g tc te):=by
 intro pins s σ H Q I h
 rw [eval_ListComp]
 refine wpAny_comprehension_free (use:=none) rfl hs (jc9 fun y hy e=>I.ok.has y.1 (.inl (S.frees y hy e).2)) S.kind S.locs ?_
 refine thn (hi pins s σ H _ I h) fun v s1 h1=>thn h1 fun itv s2 h2=>?_
 obtain ⟨it,fp,tn,J,H2,e,I2,T,st2,f2,hw⟩:=h2
 subst e
 refine jix (RR:=fun acc C=>compPost (model X.prog X.w) X.A X.xe none (EP X pins σ Q) acc C) S hc hg ht he I2 T st2 f2 hw ?_
 intro l C H' s' I' hm fC q
 obtain ⟨m,hm⟩:=hm
 refine ⟨m,hm,fun h' hs'=>?_⟩
 exact ⟨.ref l,H',I'.turned (t':=s'.toks) (fun b o hb e=>hs'.extBut b o hb e) fC.1 fC.2.1 fC.2.2.2.1 fC.2.2.2.2.1 fC.2.2.2.2.2,rfl,q⟩
theorem jjo {X:Cx} {i:Nat} {x:Str} {pos' spos:Pos} {elt tg iter:Expr} {ifs:List Expr} {scope:Scope} {pos:Pos} {N:List Str} {src:List (Option Nat)} {wi:TI} {g:TG} {tc:TT} {te:TE} (hN:X.N.Nodup) (hix:X.N[i]? = some x) (hx:Loc X.env.scope x)
  (S:CpScope X scope N src) (hc:X.calm = true)
  (hi:PI X tg iter wi) (hg:∀ fp s₀ H₀ C,PG (X.block scope N fp s₀ H₀ C) tg g) (ht:∀ fp s₀ H₀ C,PIf (X.block scope N fp s₀ H₀ C) ifs tc) (he:∀ fp s₀ H₀ C,PE (X.block scope N fp s₀ H₀ C) elt te)
  (hsw:swapsWith (.ListComp elt [⟨tg,iter,ifs,0⟩] scope pos) (some (.Name x pos')) spos.line X.env = pure true:=by rfl)
  (hs:∀ x,foldedSetIterable iter X.env x = pure x:=by intro _; rfl) (hf:X.fn x = true ∨ X.env.scope.names.lookup x = some .local:=by first | exact .inl rfl | exact .inr rfl | assumption) :
  PS X (.Assign [.Name x pos'] (.ListComp elt [⟨tg,iter,ifs,0⟩] scope pos) spos) (tAsg (jov src wi g tc te) (jf9 i)):=by
 intro pins s σ H D I h
 rw [exec_Assign_Name_used _ _ _ _ hsw]
 refine wpAny_bind (wpAny_standAt (wpAny_bind ?_))
 show wpAny _ X.A (do let _ ← comprehension (.ListComp elt [⟨tg,iter,ifs,0⟩] scope pos) scope X.env _ (newList []) false (eval iter X.env) (some (assign (.Name x pos') X.env))) _ _ s
 refine wpAny_bind (wpAny_mono (wpAny_comprehension_free (use:=some (assign (.Name x pos') X.env)) (Q:=fun _ s'=>SP X pins D .next s') rfl hs (jc9 fun y hy e=>I.ok.has y.1 (.inl (S.frees y hy e).2)) S.kind S.locs
  (thn (hi pins s σ H _ I h) fun v s1 h1=>thn h1 fun itv s2 h2=>?_)) (fun _ s' hq=>wpAny_pure (wpAny_pure hq)) fun _ _ e=>e)
 obtain ⟨it,fp,tn,J,H2,e,I2,T,st2,f2,hw⟩:=h2
 subst e
 refine jix (Q:=fun v H'=>D.nx (σ.set i (some v)) H') (RR:=fun acc C=>compPost (model X.prog X.w) X.A X.xe (some (assign (.Name x pos') X.env)) (fun _ s'=>SP X pins D .next s') acc C) S hc hg ht he I2 T st2 f2 hw ?_
 intro l C H' s' I' hm fC q
 obtain ⟨m,hm⟩:=hm
 show wpAny _ X.A (assign (.Name x pos') X.env (.ref l)) _ _ _
 refine wpAny_assign_Name (jhq I' hN hix hx (v:=.ref l) rfl (fun s'' I'' ⟨a,sb,ha⟩=>?_) hf)
 have hCa:C ≠ a:=by
  rcases ha with rfl | ha
  ·exact fC.2.1
  ·exact fun z=>fC.2.2.2.2.1 x a ha z.symm
 refine ⟨m,hm.sameBut sb hCa,fun h' hs'=>?_⟩
 exact ⟨_,H',I''.turned (t':=s''.toks) (fun b o hb e=>hs'.extBut b o hb e) fC.1 fC.2.1 fC.2.2.2.1 fC.2.2.2.2.1 fC.2.2.2.2.2,q⟩
end L2
namespace L2
open PySem PySem.Spec PyProof.Rows
theorem Inv.turnedNew {X:Cx} {pins:List (Addr × Obj)} {σ:St} {H:Hp} {s:Shared} {h':Heap} {ch:List Addr} {t:Addr} {o:HO} {t':Nat} (I:Inv X pins σ H s) (hsz:s.heap.objs.size ≤ t)
  (k:∀ b ob,b ∉ ch→s.heap.get? b = some ob→h'.get? b = some ob) (hch:∀ b ∈ ch,FpOk X pins H b) (new:jb2 X.prog X.w (upd H t o) h' t o) :
  Inv X pins σ (upd H t o) { s with heap:=h',toks:=t' }:=by
 have hn:H t = none:=I.hok.fresh hsz
 have nt:∀ {b ob},s.heap.get? b = some ob→b ≠ t:=fun q=>Nat.ne_of_lt (Nat.lt_of_lt_of_le (Heap.lt_size q) hsz)
 have u:Un (frs X.stack) ch H (upd H t o) s.heap h' :=
  ⟨fun b ob q _ _ hx=>k b ob hx q,fun b ob q _ _ hx=>⟨ob.slots,k b ob hx q⟩,fun b ob q n _=>by rw [ja7 (nt q)]; exact n,fun b ob q hx=>⟨ob,k b ob hx q⟩,
   fun b xs q=>by rw [ja7 (ja9 q hn)]; exact q,fun b ob xs q=>by rw [ja7 (ja9 q hn)]; exact q,fun b ps q=>⟨#[],by rw [ja7 (ja9 q hn),q]; simp⟩⟩
 refine I.call (g':=s.gens) (t':=t') (d':=s.drawn) u (fun b ob e=>?_) I.bare fun b hb=>⟨(hch b hb).2.2.2.1,(hch b hb).2.1,(hch b hb).2.2.2.2.1,(hch b hb).2.2.2.2.2⟩
 by_cases hb:b = t
 ·subst hb; rw [ja1] at e; cases e; exact new
 ·rw [ja7 hb] at e
  have ntr:∀ {c u},H c = some u→c ∉ ch:=fun q z=>by rw [(hch _ z).1] at q; cases q
  refine (I.hok b ob e).stay (fun c v hc q=>k c v ?_ q) (fun c q=>by rw [ja7 (ja9 q hn)]; exact q) fun c xs q=>by rw [ja7 (ja9 q hn)]; exact q
  rcases hc with z | z
  ·rw [z]; exact ntr e
  ·exact ntr z
theorem Inv.turnedAll {X:Cx} {pins:List (Addr × Obj)} {σ:St} {H:Hp} {s:Shared} {h':Heap} {ch:List Addr} {t':Nat} (I:Inv X pins σ H s)
  (k:∀ b ob,b ∉ ch→s.heap.get? b = some ob→h'.get? b = some ob) (hch:∀ b ∈ ch,FpOk X pins H b):Inv X pins σ H { s with heap:=h',toks:=t' }:=by
 have u:Un (frs X.stack) ch H H s.heap h' :=
  ⟨fun b ob q _ _ hx=>k b ob hx q,fun b ob q _ _ hx=>⟨ob.slots,k b ob hx q⟩,fun b ob q n _=>n,fun b ob q hx=>⟨ob,k b ob hx q⟩,fun b xs q=>q,fun b ob xs q=>q,fun b ps q=>⟨#[],by rw [q]; simp⟩⟩
 refine I.call (g':=s.gens) (t':=t') (d':=s.drawn) u (fun b ob e=>?_) I.bare fun b hb=>⟨(hch b hb).2.2.2.1,(hch b hb).2.1,(hch b hb).2.2.2.2.1,(hch b hb).2.2.2.2.2⟩
 have ntr:∀ {c u},H c = some u→c ∉ ch:=fun q z=>by rw [(hch _ z).1] at q; cases q
 refine (I.hok b ob e).stay (fun c v hc q=>k c v ?_ q) (fun c q=>q) fun c xs q=>q
 rcases hc with z | z
 ·rw [z]; exact ntr e
 ·exact ntr z
def Ite (K:PySem.W.Frag) (a:Addr):It :=
 ⟨fun i H=>∃ xs x,SqL K H a xs∧xs[i]? = some x,fun i H x H'=>∃ t y,H t = none∧x = .ref t∧H' = upd H t (.tup [.int i,y])∧∀ xs,SqL K H a xs→xs[i]? = some y,fun i H=>∃ xs,SqL K H a xs∧xs.length ≤ i⟩
theorem jmj {P:Program} {w:World} {K:PySem.W.Frag} {elts:List Expr} {x1:Nat} {pos:Pos} (a e it:Addr) (hne:e ≠ it) :
  Turn P w K (.Tuple elts x1 pos) (Ite K a) [e,it] e (fun i h=>(∃ old,IsEnum h e it i old)∧h.IsListIter it a i) where
 mem:=by simp
 obj:=fun i h st b hb=>by
  obtain ⟨⟨old,he⟩,hit⟩:=st
  have q:b = e ∨ b = it:=by simpa using hb
  rcases q with rfl | rfl
  ·exact ⟨_,he,fun v z=>by
    have z':Data.fields _ = Data.cell v:=z
    cases z'⟩
  ·obtain ⟨o,e1,c,d⟩:=hit
   exact ⟨o,e1,fun v z=>by rw [d] at z; cases z⟩
 keep:=fun i h h' st k=>by
  obtain ⟨⟨old,he⟩,hit⟩:=st
  exact ⟨⟨old,k e (by simp) _ he⟩,hit.at fun o z=>k it (by simp) o z⟩
 item:=by
  intro X hP hw hK hc i pins s σ H E I hf st hg
  subst hP hw hK
  obtain ⟨⟨old,he⟩,hit⟩:=st
  obtain ⟨xs,x,hq,hx⟩:=hg
  obtain ⟨its,rv,p,hz⟩:=I.list hq
  obtain ⟨u,hu,ru⟩:=rv.get hx
  have elt:e < s.heap.objs.size:=Heap.lt_size he
  have ilt:it < s.heap.objs.size:=by obtain ⟨_,z,_⟩:=hit; exact Heap.lt_size z
  refine wpAny_pyNext_enum_item he hit p.isList (x:=u) (by simpa using hu) hne fun h1 ho hit1 hT hsz1 hk1=>?_
  refine ⟨_,rfl,wpAny_letOwnedTupleGo_enum ho fun h2 he2 hs2=>?_⟩
  replace hs2:Heap.SameBut e h1 h2:=hs2
  have kk:∀ b ob,b ∉ [e,it]→s.heap.get? b = some ob→h2.get? b = some ob:=fun b ob hb q=>by
   have hb':b ≠ e∧b ≠ it:=by simpa using hb
   exact hs2.extBut b ob hb'.1 (hk1 b ob hb'.1 hb'.2 q)
  have hT2:h2.get? s.heap.objs.size = some { cls:=.type "tuple",data:=.seq #[.int i s.toks,u] }:=(hs2.2 _ (Nat.ne_of_gt elt)).trans hT
  refine ⟨.ref s.heap.objs.size,upd H s.heap.objs.size (.tup [.int i,x]),I.turnedNew (ch:=[e,it]) (Nat.le_refl _) kk hf ?_,rfl,⟨_,x,I.fresh,rfl,rfl,fun ys hy=>by rw [I.list_inj hy hq]; exact hx⟩,⟨⟨u,by simpa using he2⟩,hit1.at fun o z=>(hs2.2 it hne.symm).trans z⟩,fun b hb=>?_⟩
  ·exact ⟨by show 2 ≤ sizeLine; decide,[.int i s.toks,u],.cons ⟨_,rfl⟩ (.cons ru .nil),⟨_,hT2,rfl,_,rfl⟩⟩
  ·have hb':b = e ∨ b = it:=by simpa using hb
   have:b ≠ s.heap.objs.size:=by
    rcases hb' with rfl | rfl
    ·exact Nat.ne_of_lt elt
    ·exact Nat.ne_of_lt ilt
   rw [ja7 this]
   exact (hf b hb).1
 done:=by
  intro X hP hw hK hc i pins s σ H E I hf st hg
  subst hP hw hK
  obtain ⟨⟨old,he⟩,hit⟩:=st
  obtain ⟨xs,hq,hx⟩:=hg
  obtain ⟨its,rv,p,hz⟩:=I.list hq
  have hl:=rv.length
  refine wpAny_pyNext_enum_end (I.ok.hd hc) he hit p.isList (by simp; omega) fun h' eb=>⟨rfl,I.turnedAll (ch:=[e,it]) (t':=s.toks) (fun b o hb q=>eb b o (fun z=>hb (by simp [z])) q) hf⟩
 self:=fun _ _ _ _ _ st h=>by
  obtain ⟨⟨old,he⟩,_⟩:=st
  exact wpAny_pyIter_enum he h
def iEnum (K:PySem.W.Frag) (ta:TA):TI:=fun σ H R=>ta σ H fun vs H1=>∃ a,vs = [.ref a]∧(∃ xs,SqL K H1 a xs)∧R (Ite K a) H1
theorem jn7 {X:Cx} {elts:List Expr} {x1:Nat} {tpos:Pos} {a:Expr} {ta:TA} {p pos:Pos} (hg:Gl X "enumerate") (hm:X.mg "enumerate" = none) (ha:PA X [a] ta) (hs:starEach [a] X.env = [(false,eval a X.env)]:=by rfl) :
  PI X (.Tuple elts x1 tpos) (.Call (.Name "enumerate" p) [a] [] pos) (iEnum X.K ta):=by
 intro pins s σ H R I h
 refine Call_ (jf5 I hg hm boot_enumerate (PyProof.Rows.callWith_type1 (thn (ha pos pins s σ H _ I h) fun us s1 ⟨vs,H1,I1,r1,q1⟩=>?_) hs rfl))
 obtain ⟨a,e,⟨xs,hq⟩,q⟩:=q1
 subst e
 cases r1 with
 | cons r rr =>
  cases rr
  cases r
  obtain ⟨its,rv,pl,hz⟩:=I1.list hq
  refine call_enumerate_list pl.isList fun h' he hit hsz hk=>?_
  refine wpAny_pyIter_enum he ?_
  have I2:Inv X pins σ H1 { s1 with heap:=h' }:=I1.kept (t':=s1.toks) fun b o q=>hk b o q
  refine ⟨_,[s1.heap.objs.size + 1,s1.heap.objs.size],_,_,H1,rfl,I2,jmj a _ _ (Nat.succ_ne_self _),⟨⟨_,he⟩,hit⟩,fun b hb=>?_,q⟩
  have hb':b = s1.heap.objs.size + 1 ∨ b = s1.heap.objs.size:=by simpa using hb
  rcases hb' with rfl | rfl
  ·exact I1.fpOk (Nat.le_succ _) (I1.hok.fresh (Nat.le_succ _))
  ·exact I1.fpOk (Nat.le_refl _) (I1.hok.fresh (Nat.le_refl _))
end L2
namespace L2
open PySem PySem.Spec PyProof.Rows
section
variable {prog:Program} {w:World} {A:Around} {E:Value→Shared→Prop} {s:Shared}
theorem jls {j t:Addr} {k:Nat} {ar:Array Value} {x:Value} {Q:Value→Shared→Prop} (hj:s.heap.IsTupleIter j t k) (ht:s.heap.IsTuple t ar) (hx:ar[k]? = some x)
  (hQ:∀ h',h'.IsTupleIter j t (k + 1)→Heap.SameBut j s.heap h'→Q x { s with heap:=h' }):wpAny (model prog w) A (Builtin.SmallTypes.nextOf (.ref j)) Q E s:=by
 obtain ⟨ob,e0,hcl,hdt⟩:=id hj
 obtain ⟨ot,e1,_,nt,hdl⟩:=ht
 unfold Builtin.SmallTypes.nextOf
 refine wpAny_bind (wpAny_callSpecial?_slot (name:=Str.ofString "__next__") hj.typeIs F.slot_tuple_iterator_next (wpAny_call_entry F.slot_tuple_iterator_next hj.typeIs F.entry_tuple_iterator_next ?_ (F.args_tuple_iterator_next_1 _)))
 show wpAny _ _ (field (.ref j) 0 >>= _) _ _ s
 refine wpAny_bind (wpAny_field e0 hdt (x:=.ref t) rfl ?_)
 show wpAny _ _ (if (Value.ref t == Value.none) = true then _ else _) _ _ s
 rw [if_neg (show ¬ ((Value.ref t == Value.none) = true) from Bool.false_ne_true)]
 show wpAny _ _ (field (.ref j) 1 >>= _) _ _ s
 refine wpAny_bind (wpAny_field e0 hdt (x:=.int k 0) rfl ?_)
 show wpAny _ _ (seqItems? (.ref t) >>= _) _ _ s
 refine wpAny_bind (wpAny_seqItems e1 hdl ?_)
 simp only [Int.toNat_natCast,hx]
 refine wpAny_bind (wpAny_setField e0 hdt (by simp) (wpAny_pure ⟨x,rfl,wpAny_pure (hQ _ ?_ (Heap.SameBut.update ..))⟩))
 exact ⟨_,Heap.get?_update_self _ e0 (Obj.isFreed_of_fields (Obj.data_mapFields hdt _)),(Obj.cls_mapFields ..).trans hcl,by rw [Obj.data_mapFields hdt]; simp [rawInt]⟩
theorem jfm {j t:Addr} {k:Nat} {ar:Array Value} {Q:Value→Shared→Prop} (hh:A.handled = none) (hj:s.heap.IsTupleIter j t k) (ht:s.heap.IsTuple t ar) (hx:ar[k]? = none)
  (hE:∀ h' e,Heap.ExtBut j s.heap h'→(∃ o,h'.get? e = some o∧o.cls = .type "StopIteration")→E (.ref e) { s with heap:=h' }):wpAny (model prog w) A (Builtin.SmallTypes.nextOf (.ref j)) Q E s:=by
 obtain ⟨ob,e0,hcl,hdt⟩:=id hj
 obtain ⟨ot,e1,_,nt,hdl⟩:=ht
 unfold Builtin.SmallTypes.nextOf
 refine wpAny_bind (wpAny_callSpecial?_slot (name:=Str.ofString "__next__") hj.typeIs F.slot_tuple_iterator_next (wpAny_call_entry F.slot_tuple_iterator_next hj.typeIs F.entry_tuple_iterator_next ?_ (F.args_tuple_iterator_next_1 _)))
 show wpAny _ _ (field (.ref j) 0 >>= _) _ _ s
 refine wpAny_bind (wpAny_field e0 hdt (x:=.ref t) rfl ?_)
 show wpAny _ _ (if (Value.ref t == Value.none) = true then _ else _) _ _ s
 rw [if_neg (show ¬ ((Value.ref t == Value.none) = true) from Bool.false_ne_true)]
 show wpAny _ _ (field (.ref j) 1 >>= _) _ _ s
 refine wpAny_bind (wpAny_field e0 hdt (x:=.int k 0) rfl ?_)
 show wpAny _ _ (seqItems? (.ref t) >>= _) _ _ s
 refine wpAny_bind (wpAny_seqItems e1 hdl ?_)
 simp only [Int.toNat_natCast,hx]
 refine wpAny_bind (wpAny_rule (wpAny_bind (wpAny_setField e0 hdt (by simp) ?_)))
 show wpAny _ _ (newExc (.type "StopIteration") [] >>= _) _ _ _
 refine wpAny_bind ?_
 simp only [newExc,newTuple]
 refine wpAny_bind (wpAny_newObj_type ?_ (by size_fits))
 refine wpAny_bind (m:=firstArgMember _ _) (wpAny_of_eq (a:=Value.none) (by first | rfl | (simp only [firstArgMember]; rfl)) ?_)
 refine wpAny_newObj_type ?_ (by size_fits)
 simp only [raiseNew]
 refine wpAny_bind (wpAny_handled ?_)
 first | rw [show A.in1.handled = none from hh] | rw [hh]
 refine wpAny_bind (wpAny_pure (wpAny_throw ?_))
 exact hE _ _ (((Heap.SameBut.update ..).extBut.push _).push _) ⟨_,Heap.get?_push_size _ rfl,rfl⟩
def IsSq (b:Bool) (h:Heap) (l:Addr) (ar:Array Value):Prop:=if b = true then h.IsList l ar else h.IsTuple l ar
def jb6 (b:Bool) (h:Heap) (j l:Addr) (k:Nat):Prop:=if b = true then h.IsListIter j l k else h.IsTupleIter j l k
theorem IsSq.at' {b:Bool} {h h':Heap} {l:Addr} {ar:Array Value} (x:IsSq b h l ar) (k:∀ o,h.get? l = some o→h'.get? l = some o):IsSq b h' l ar:=by
 cases b with
 | true=>obtain ⟨o,e,r⟩:=(show h.IsList l ar from x); exact (show h'.IsList l ar from ⟨o,k o e,r⟩)
 | false=>obtain ⟨o,e,r⟩:=(show h.IsTuple l ar from x); exact (show h'.IsTuple l ar from ⟨o,k o e,r⟩)
theorem jb6.at' {b:Bool} {h h':Heap} {j l:Addr} {i:Nat} (x:jb6 b h j l i) (k:∀ o,h.get? j = some o→h'.get? j = some o):jb6 b h' j l i:=by
 cases b with
 | true=>obtain ⟨o,e,r⟩:=(show h.IsListIter j l i from x); exact (show h'.IsListIter j l i from ⟨o,k o e,r⟩)
 | false=>obtain ⟨o,e,r⟩:=(show h.IsTupleIter j l i from x); exact (show h'.IsTupleIter j l i from ⟨o,k o e,r⟩)
theorem jb6.obj {b:Bool} {h:Heap} {j l:Addr} {i:Nat} (x:jb6 b h j l i):∃ o,h.get? j = some o∧∀ v,o.data ≠ .cell v:=by
 cases b with
 | true=>obtain ⟨o,e,_,d⟩:=(show h.IsListIter j l i from x); exact ⟨o,e,fun v z=>by rw [d] at z; cases z⟩
 | false=>obtain ⟨o,e,_,d⟩:=(show h.IsTupleIter j l i from x); exact ⟨o,e,fun v z=>by rw [d] at z; cases z⟩
theorem jc6 {b:Bool} {j l:Addr} {k:Nat} {ar:Array Value} {x:Value} {Q:Value→Shared→Prop} (hj:jb6 b s.heap j l k) (hl:IsSq b s.heap l ar) (hx:ar[k]? = some x)
  (hQ:∀ h',jb6 b h' j l (k + 1)→Heap.SameBut j s.heap h'→Q x { s with heap:=h' }):wpAny (model prog w) A (Builtin.SmallTypes.nextOf (.ref j)) Q E s:=by
 cases b with
 | true=>exact wpAny_nextOf_list_item (show s.heap.IsListIter j l k from hj) (show s.heap.IsList l ar from hl) hx fun h' a b=>hQ h' a b
 | false=>exact jls (show s.heap.IsTupleIter j l k from hj) (show s.heap.IsTuple l ar from hl) hx fun h' a b=>hQ h' a b
theorem jbo {b:Bool} {j l:Addr} {k:Nat} {ar:Array Value} {Q:Value→Shared→Prop} (hh:A.handled = none) (hj:jb6 b s.heap j l k) (hl:IsSq b s.heap l ar) (hx:ar[k]? = none)
  (hE:∀ h' e,Heap.ExtBut j s.heap h'→(∃ o,h'.get? e = some o∧o.cls = .type "StopIteration")→E (.ref e) { s with heap:=h' }):wpAny (model prog w) A (Builtin.SmallTypes.nextOf (.ref j)) Q E s:=by
 cases b with
 | true=>exact wpAny_nextOf_list_end hh (show s.heap.IsListIter j l k from hj) (show s.heap.IsList l ar from hl) hx hE
 | false=>exact jfm hh (show s.heap.IsTupleIter j l k from hj) (show s.heap.IsTuple l ar from hl) hx hE
end
abbrev zpIt (b:Bool) (l:Addr):Obj:={ cls:=.type (if b = true then "list_iterator" else "tuple_iterator"),data:=.fields #[.ref l,.int 0 0] }
abbrev zp2 (b:Bool) (h:Heap) (l1 l2:Addr):Heap:=(h.push (zpIt b l1)).push (zpIt b l2)
abbrev zp3 (b:Bool) (h:Heap) (l1 l2:Addr):Heap:=(zp2 b h l1 l2).push { cls:=.type "tuple",data:=.seq #[.ref h.objs.size,.ref (h.push (zpIt b l1)).objs.size] }
abbrev zp4 (b:Bool) (h:Heap) (l1 l2:Addr):Heap:=(zp3 b h l1 l2).push { cls:=.type "tuple",data:=.seq #[.none,.none] }
abbrev zp5 (b:Bool) (h:Heap) (l1 l2:Addr):Heap:=(zp4 b h l1 l2).push { cls:=.type "zip",data:=.fields #[.none,.bool false,.bool false,.ref (zp2 b h l1 l2).objs.size,.ref (zp3 b h l1 l2).objs.size] }
theorem jm8 (l1 l2:Addr) (xs ys:Array Value) :
  Meets (Builtin.«zip.__new__» ⟨[.type "zip",.ref l1,.ref l2],[]⟩) (fun _ R s=>s.heap.IsTuple l1 xs∧s.heap.IsTuple l2 ys∧R (.ok (.ret (.ref (zp4 false s.heap l1 l2).objs.size))) { s with heap:=zp5 false s.heap l1 l2 }) :=
 .of_wp fun prog w A R s h=>by
  obtain ⟨hp,g,d,tk,os⟩:=s; obtain ⟨hl1,hl2,h⟩:=h
  have hsub:=sub_zip
  have hL1:Heap.IsTuple (Shared.heap ⟨hp,g,d,tk,os⟩) l1 xs:=hl1
  have hL2:Heap.IsTuple (Shared.heap ⟨hp.push { cls:=.type "tuple_iterator",data:=.fields #[.ref l1,.int 0 0] },g,d,tk,os⟩) l2 ys:=Heap.IsTuple.push hl2 _
  wp_walk using wpAny_pyIter_tuple hL1,wpAny_pyIter_tuple hL2
  exact ⟨_,rfl,h⟩
section
variable {prog:Program} {w:World} {A:Around} {E:Value→Shared→Prop} {s:Shared}
theorem jre {b:Bool} {l1 l2:Addr} {xs ys:Array Value} {Q:Value→Shared→Prop} (hl1:IsSq b s.heap l1 xs) (hl2:IsSq b s.heap l2 ys)
  (h:∀ h',IsZip h' (s.heap.objs.size + 4) (s.heap.objs.size + 2) (s.heap.objs.size + 3) .none→IsPair h' (s.heap.objs.size + 2) (.ref s.heap.objs.size) (.ref (s.heap.objs.size + 1)) →
   IsPair h' (s.heap.objs.size + 3) .none .none→jb6 b h' s.heap.objs.size l1 0→jb6 b h' (s.heap.objs.size + 1) l2 0→(∀ c o,s.heap.get? c = some o→h'.get? c = some o)→Q (.ref (s.heap.objs.size + 4)) { s with heap:=h' }) :
  wpAny (model prog w) A (call (.type "zip") [.ref l1,.ref l2]) Q E s:=by
 cases b with
 | true=>exact call_zip_2 (show s.heap.IsList l1 xs from hl1) (show s.heap.IsList l2 ys from hl2) fun h' a1 a2 a3 a4 a5 _ a7=>h h' a1 a2 a3 a4 a5 a7
 | false =>
  refine callType_new F.called_zip (by decide) (F.typeCall_zip_2 _ _) (F.newCall_zip_2 _ _) (fun obj=>F.args_object_init_3 obj _ _) F.entry_zip_new (jm8 l1 l2 xs ys) ⟨hl1,hl2,?_⟩
  have q1:(s.heap.push (zpIt false l1)).objs.size = s.heap.objs.size + 1:=Heap.size_push ..
  have q2:(zp2 false s.heap l1 l2).objs.size = s.heap.objs.size + 2:=by rw [Heap.size_push,q1]
  have q3:(zp3 false s.heap l1 l2).objs.size = s.heap.objs.size + 3:=by rw [Heap.size_push,q2]
  have q4:(zp4 false s.heap l1 l2).objs.size = s.heap.objs.size + 4:=by rw [Heap.size_push,q3]
  have p5:(zp5 false s.heap l1 l2).get? (zp4 false s.heap l1 l2).objs.size = some _:=Heap.get?_push_size _ rfl
  have p4:(zp5 false s.heap l1 l2).get? (zp3 false s.heap l1 l2).objs.size = some _:=Heap.get?_push_of_some _ (Heap.get?_push_size _ rfl)
  have p3:(zp5 false s.heap l1 l2).get? (zp2 false s.heap l1 l2).objs.size = some _:=Heap.get?_push_of_some _ (Heap.get?_push_of_some _ (Heap.get?_push_size _ rfl))
  have p2:(zp5 false s.heap l1 l2).get? (s.heap.push (zpIt false l1)).objs.size = some _:=Heap.get?_push_of_some _ (Heap.get?_push_of_some _ (Heap.get?_push_of_some _ (Heap.get?_push_size _ rfl)))
  have p1:(zp5 false s.heap l1 l2).get? s.heap.objs.size = some _:=Heap.get?_push_of_some _ (Heap.get?_push_of_some _ (Heap.get?_push_of_some _ (Heap.get?_push_of_some _ (Heap.get?_push_size _ rfl))))
  show _∧_
  rw [q2,q3,q4] at p5
  rw [q1,q2] at p3
  rw [q3] at p4
  rw [q1] at p2
  rw [q4]
  exact ⟨⟨_,p5,rfl⟩,h _ p5 p3 p4 (show Heap.IsTupleIter _ _ _ _ from ⟨_,p1,rfl,rfl⟩) (show Heap.IsTupleIter _ _ _ _ from ⟨_,p2,rfl,rfl⟩) fun c o x =>
   Heap.get?_push_of_some _ (Heap.get?_push_of_some _ (Heap.get?_push_of_some _ (Heap.get?_push_of_some _ (Heap.get?_push_of_some _ x))))⟩
end
end L2
namespace L2
open PySem PySem.Spec PyProof.Rows
theorem jim:typeLookup (.type "list") "keys" = pure none:=by rw [typeLookup_type,builtinLookup_eq_fast]; kernel_rfl
theorem jf3:typeLookup (.type "list") "__getattr__" = pure none:=by rw [typeLookup_type,builtinLookup_eq_fast]; kernel_rfl
theorem jge:isSubtype (.type "AttributeError") (.type "AttributeError") = pure true:=by rw [isSubtype_type]; kernel_rfl
section
variable {prog:Program} {w:World} {A:Around} {E:Value→Shared→Prop} {h:Heap} {g:Array GenState} {d:Drawn} {t:Nat} {os:OsState} {a:Addr} {o:Obj}
theorem jlj {α:Type} {Q:α→Shared→Prop} {u:Value} {x msg:Str} (hh:A.handled = none) (hm:msg.length ≤ sizeLine)
  (hE:∀ h' e tk,(∀ b o,h.get? b = some o→h'.get? b = some o)→(∃ o,h'.get? e = some o∧o.cls = .type "AttributeError")→E (.ref e) ⟨h',g,d,tk,os⟩) :
  wpAny (model prog w) A (raiseAttrError u x msg:Sem α) Q E ⟨h,g,d,t,os⟩:=by
 unfold raiseAttrError
 refine wpAny_bind (wpAny_mkStr ?_ hm)
 simp only [newExc,newTuple]
 refine wpAny_bind (wpAny_bind (wpAny_newObj_type ?_ (by size_fits)))
 refine wpAny_bind (m:=firstArgMember _ _) (wpAny_of_eq (a:=Value.none) (by first | rfl | (simp only [firstArgMember]; rfl)) ?_)
 refine wpAny_newObj_type ?_ (by size_fits)
 refine wpAny_bind (wpAny_mkText ?_)
 dsimp only
 refine wpAny_bind ?_
 unfold noteAttr
 generalize hh1:h.push { cls:=.type "tuple",data:=.seq #[.str msg t] } = h1
 have k1:∀ b o,h.get? b = some o→h1.get? b = some o:=fun b o q=>by rw [← hh1]; exact Heap.get?_push_of_some _ q
 have hg:(h1.push { cls:=.type "AttributeError",data:=.fields #[.ref h.objs.size,.none,.none,.none,.bool false,.none,unsetMember,unsetMember] }).get? h1.objs.size = some _:=Heap.get?_push_size _ rfl
 have k2:∀ b o,h.get? b = some o→(h1.push { cls:=.type "AttributeError",data:=.fields #[.ref h.objs.size,.none,.none,.none,.bool false,.none,unsetMember,unsetMember] }).get? b = some o:=fun b o q=>Heap.get?_push_of_some _ (k1 b o q)
 have nb:∀ b o,h.get? b = some o→b ≠ h1.objs.size:=fun b o q=>Nat.ne_of_lt (Heap.lt_size (k1 b o q))
 show wpAny _ _ (lacksNameAndObj (.ref h1.objs.size) >>= _) _ _ ⟨h1.push { cls:=.type "AttributeError",data:=.fields #[.ref h.objs.size,.none,.none,.none,.bool false,.none,unsetMember,unsetMember] },g,d,t + 1 + 1,os⟩
 generalize hh2:h1.push { cls:=.type "AttributeError",data:=.fields #[.ref h.objs.size,.none,.none,.none,.bool false,.none,unsetMember,unsetMember] } = h2 at hg k2
 generalize h1.objs.size = e at hg nb
 clear hh2 k1 hh1
 have hT:(⟨h2,g,d,t + 1 + 1,os⟩:Shared).TypeIs (.ref e) "AttributeError":=⟨_,hg,rfl⟩
 refine wpAny_bind ?_
 unfold lacksNameAndObj
 refine wpAny_bind (wpAny_isInstance hT jge ?_)
 simp only [Bool.not_true,Bool.false_eq_true,if_false]
 refine wpAny_bind (wpAny_load hg ?_)
 show wpAny _ _ (pure true) _ _ _
 refine wpAny_pure ?_
 simp only [if_true]
 refine wpAny_bind (wpAny_rule (wpAny_bind (wpAny_typeOf hT ?_)))
 show wpAny _ _ (layMembers e 6 #[_,u]) _ _ _
 unfold layMembers
 refine wpAny_bind (wpAny_load hg ?_)
 show wpAny _ _ (update e _) _ _ _
 refine wpAny_update hg ?_
 refine wpAny_raiseNew_none hh (hE _ _ _ (fun b o q=>?_) ⟨_,Heap.get?_update_self _ hg rfl,rfl⟩)
 exact (Heap.get?_update_other _ _ (nb b o q).symm).trans (k2 b o q)
theorem jif {tk:Tok} {Q:PySem.Fin→Shared→Prop} {its:Array Value} {n:Nat} (hx:h.get? a = some { cls:=.type "list",dict:=none,data:=.seq its n,slots:=#[] }) (hh:A.handled = none)
  (hE:∀ h' e tk,(∀ b o,h.get? b = some o→h'.get? b = some o)→(∃ o,h'.get? e = some o∧o.cls = .type "AttributeError")→E (.ref e) ⟨h',g,d,tk,os⟩) :
  wpAny (model prog w) A (Builtin.«object.__getattribute__» ⟨[.ref a,.str "keys" tk],[]⟩) Q E ⟨h,g,d,t,os⟩:=by
 have hT:(⟨h,g,d,t,os⟩:Shared).TypeIs (.ref a) "list":=⟨_,hx,rfl⟩
 have f4:=jim
 repeat (any_goals (first | assumption | wp_step))
 refine jlj hh (by decide +kernel) hE
theorem jnf {tk:Tok} {Q:Value→Shared→Prop} {its:Array Value} {n:Nat} (hx:h.get? a = some { cls:=.type "list",dict:=none,data:=.seq its n,slots:=#[] }) (hh:A.handled = none)
  (hE:∀ h' e tk,(∀ b o,h.get? b = some o→h'.get? b = some o)→(∃ o,h'.get? e = some o∧o.cls = .type "AttributeError")→E (.ref e) ⟨h',g,d,tk,os⟩) :
  wpAny (model prog w) A (getAttrBy (.ref a) (.str "keys" tk) false) Q E ⟨h,g,d,t,os⟩:=by
 have hT:(⟨h,g,d,t,os⟩:Shared).TypeIs (.ref a) "list":=⟨_,hx,rfl⟩
 have f2:=F.slot_list_getattribute.lookup
 have f3:=F.slot_list_getattribute.bind (.ref a)
 repeat (any_goals (first | assumption | wp_step))
 refine codeAny_call_builtin F.slot_list_getattribute.plain F.entry_list_ga (F.slot_list_getattribute.check _ _ _ _ _ _ _ _ (show (⟨h,g,d,t,os⟩:Shared).TypeIs (.ref a) "list" from ⟨_,hx,rfl⟩) (F.args_list_getattribute_2 _ _) (jif hx ?_ ?_))
 ·exact hh
 ·intro h' e tk k q
  obtain ⟨oe,he,hc⟩:=q
  have hT2:(⟨h',g,d,tk,os⟩:Shared).TypeIs (.ref e) "AttributeError":=⟨_,he,hc⟩
  have f5:=jge
  have f6:=jf3
  show wpAny _ A (getattributeRaised (Value.ref a) _ (Value.type "list") (.ref e) none false false) _ _ _
  have done:=hE h' e tk k ⟨oe,he,hc⟩
  unfold getattributeRaised
  repeat (any_goals (first | assumption | wp_step))
theorem nokeys {Q:Option Value→Shared→Prop} {its:Array Value} {n:Nat} (hx:h.get? a = some { cls:=.type "list",dict:=none,data:=.seq its n,slots:=#[] }) (hh:A.handled = none)
  (hq:∀ h' tk,(∀ b o,h.get? b = some o→h'.get? b = some o)→Q none ⟨h',g,d,tk,os⟩):wpAny (model prog w) A (getAttr? (.ref a) "keys") Q E ⟨h,g,d,t,os⟩:=by
 unfold getAttr? getAttrBy?
 refine wpAny_bind (wpAny_mkText (wpAny_bind (wpAny_attempt (jnf hx hh fun h' e tk k q=>?_))))
 obtain ⟨oe,he,hc⟩:=q
 refine wpAny_bind (wpAny_isInstance (T:="AttributeError") (b:=true) ⟨_,he,hc⟩ jge ?_)
 exact wpAny_pure (hq h' tk k)
end
end L2
namespace L2
open PySem PySem.Spec PyProof.Rows
theorem jbg:entryFor table "dict.update.loop" = some Builtin.«dict.update.loop»:=entryFor_of_fast (by kernel_rfl)
theorem jau:plainId "dict.update.loop" = true:=by decide +kernel
theorem jli {K:Type} [DecidableEq K] (kvs:List (K × Value)) (k:K) (v:Value):(stored kvs k v).length ≤ kvs.length + 1:=by
 unfold stored
 split
 ·rw [List.length_map]; omega
 ·rw [List.length_append]; exact Nat.le_refl _
section
variable {prog:Program} {w:World} {A:Around} {E:Value→Shared→Prop} {K:Type} [DecidableEq K] {knd:KeyKind prog w K} {R:Result→Shared→Prop}
theorem jo4 {d it l:Addr} {its:Array Value} {more:List (K × Value)} (hh:A.handled = none) (hlen:more.length = its.size) (hsz:its.size ≤ 1000) (hdl:l ≠ d) (hdi:it ≠ d) (hil:l ≠ it) :
  ∀ (k i:Nat) (tk0:Tok) (s:Shared) (kvs:List (K × Value)),its.size - i = k→i ≤ its.size→kvs.length ≤ i→s.heap.IsListIter it l i→s.heap.IsList l its→s.heap.DictOf knd d kvs →
   (∀ (j:Nat) (q:K × Value),more[j]? = some q→∃ t kv,its[j]? = some (.ref t)∧s.heap.IsTuple t #[kv,q.2]∧knd.is q.1 kv = true) →
   (∀ h' tk,h'.DictOf knd d (merged kvs (more.drop i))→(∀ b o,b ≠ d→b ≠ it→s.heap.get? b = some o→h'.get? b = some o)→R (.ok (.ret .none)) { s with heap:=h',toks:=tk }) →
   codeAny (model prog w) A (.builtin "dict.update.loop" ⟨[.ref d,.ref it,.int i tk0,.none],[]⟩) R s:=by
 intro k
 induction k with
 | zero =>
  intro i tk0 s kvs hk hi hkl hit hl hd hp hR
  have e:i = its.size:=by omega
  subst e
  refine codeAny_builtin jbg ?_
  rw [Around.under_plainId jau _]
  show wpAny _ A.in1 (pyNext (.ref it) >>= _) _ _ s
  refine wpAny_bind (wpAny_pyNext_list_end hh hit hl (by simp) fun h' eb=>?_)
  show wpAny _ A.in1 (Builtin.Dict.addKeywords d [] >>= _) _ _ _
  refine wpAny_bind (wpAny_pure (wpAny_pure ?_))
  refine hR h' s.toks ?_ fun b o _ hb q=>eb b o hb q
  rw [List.drop_eq_nil_of_le (by omega)]
  exact hd.extBut eb hdi.symm
 | succ k ih =>
  intro i tk0 s kvs hk hi hkl hit hl hd hp hR
  have hlt:i < its.size:=by omega
  have hlm:i < more.length:=by omega
  obtain ⟨t,kv,hu,ht,hkey⟩:=hp i more[i] (by simp [hlm])
  refine codeAny_builtin jbg ?_
  rw [Around.under_plainId jau _]
  show wpAny _ A.in1 (pyNext (.ref it) >>= _) _ _ s
  refine wpAny_bind (wpAny_pyNext_list_item hit hl hu fun h1 hit1 sb1=>?_)
  have nti:t ≠ it:=fun z=>by
   subst z
   obtain ⟨o,e1,c1,_⟩:=ht
   obtain ⟨o',e2,c2,_⟩:=hit
   rw [e1] at e2; cases e2; rw [c1] at c2; exact absurd c2 (by decide)
  have ntd:t ≠ d:=fun z=>by
   subst z
   obtain ⟨o,e1,c1,_⟩:=ht
   obtain ⟨o',_,_,e2,c2,_⟩:=hd
   rw [e1] at e2; cases e2; rw [c2.1] at c1; exact absurd c1 (by decide)
  have ht1:h1.IsTuple t #[kv,more[i].2]:=ht.extBut sb1.extBut nti
  have hd1:h1.DictOf knd d kvs:=hd.extBut sb1.extBut hdi.symm
  show wpAny _ A.in1 (holding [.ref t] _ >>= _) _ _ _
  refine wpAny_bind (wpAny_holding ?_)
  refine wpAny_bind (m:=(Builtin.Dict.pairItems (.ref t)).tryCatch _) ?_
  refine wpAny_tryCatch ?_
  unfold Builtin.Dict.pairItems
  refine wpAny_bind (wpAny_typeOf ht1.typeIs ?_)
  obtain ⟨ot,e1,c1,n1,d1⟩:=id ht1
  rw [if_pos (by decide)]
  refine wpAny_bind (wpAny_seqItems e1 d1 ?_)
  refine wpAny_pure ?_
  show wpAny _ A.in1 (holding [kv,more[i].2] (dictSet d kv more[i].2)) _ _ _
  refine wpAny_holding (wpAny_dictSet_pairs hkey hd1 (fun h2 hd2 sb2=>?_) (by have:=(by decide:1000 ≤ sizeLine); omega))
  replace sb2:Heap.SameBut d h1 h2:=sb2
  have kk:∀ b o,b ≠ d→b ≠ it→s.heap.get? b = some o→h2.get? b = some o:=fun b o b1 b2 q=>sb2.extBut b o b1 (sb1.extBut b o b2 q)
  refine wpAny_pure ⟨plainId_quiet jau _,?_⟩
  have hik:((i:Int) + 1) = ((i + 1:Nat):Int):=by omega
  show codeAny _ _ (.builtin "dict.update.loop" ⟨[.ref d,.ref it,rawInt ((i:Int) + 1),.none],[]⟩) _ _
  rw [hik]
  refine ih (i + 1) 0 _ (stored kvs more[i].1 more[i].2) (by omega) (by omega) ?_ (hit1.extBut sb2.extBut hdi) ((hl.extBut sb1.extBut hil).extBut sb2.extBut hdl) hd2 ?_ ?_
  ·have:=jli kvs more[i].1 more[i].2
   omega
  ·intro j q hq
   obtain ⟨t',kv',a1,a2,a3⟩:=hp j q hq
   have n1:t' ≠ it:=fun z=>by
    subst z
    obtain ⟨o,e1,c1,_⟩:=a2
    obtain ⟨o',e2,c2,_⟩:=hit
    rw [e1] at e2; cases e2; rw [c1] at c2; exact absurd c2 (by decide)
   have n2:t' ≠ d:=fun z=>by
    subst z
    obtain ⟨o,e1,c1,_⟩:=a2
    obtain ⟨o',_,_,e2,c2,_⟩:=hd
    rw [e1] at e2; cases e2; rw [c2.1] at c1; exact absurd c1 (by decide)
   exact ⟨t',kv',a1,(a2.extBut sb1.extBut n1).extBut sb2.extBut n2,a3⟩
  ·intro h' tk hd' k'
   refine hR h' tk ?_ fun b o b1 b2 q=>k' b o b1 b2 (kk b o b1 b2 q)
   rw [List.drop_eq_getElem_cons hlm]
   exact hd'
theorem jfq {l:Addr} {its:Array Value} {c:Nat} {more:List (K × Value)} {s:Shared} {Q:Value→Shared→Prop} (hh:A.handled = none) (hl:s.heap.get? l = some { cls:=.type "list",dict:=none,data:=.seq its c,slots:=#[] }) (hlen:more.length = its.size) (hsz:its.size ≤ 1000)
  (hp:∀ (j:Nat) (q:K × Value),more[j]? = some q→∃ t kv,its[j]? = some (.ref t)∧s.heap.IsTuple t #[kv,q.2]∧knd.is q.1 kv = true)
  (h:∀ h' tk,h'.DictOf knd s.heap.objs.size (merged [] more)→(∀ b o,s.heap.get? b = some o→h'.get? b = some o)→Q (.ref s.heap.objs.size) { s with heap:=h',toks:=tk }) :
  wpAny (model prog w) A (call (.type "dict") [.ref l]) Q E s:=by
 refine callType_codes (Q₁:=fun obj s₁=>obj = .ref s.heap.objs.size∧s₁ = { s with heap:=s.heap.push { cls:=.type "dict",data:=.dict #[] } }) F.kt_called_dict (F.kt_typeCall_dict_1 _) F.entry_dict_init (kt_code_dict_new _ ⟨rfl,rfl⟩) ?_
 rintro obj s₁ ⟨rfl,rfl⟩
 have hnew:(s.heap.push { cls:=.type "dict",data:=.dict #[] }).DictOf knd s.heap.objs.size []:=Heap.DictOf.new s.heap
 have hl1:(s.heap.push { cls:=.type "dict",data:=.dict #[] }).get? l = some { cls:=.type "list",dict:=none,data:=.seq its c,slots:=#[] }:=Heap.get?_push_of_some _ hl
 have k1:∀ b o,s.heap.get? b = some o→(s.heap.push { cls:=.type "dict",data:=.dict #[] }).get? b = some o:=fun b o q=>Heap.get?_push_of_some _ q
 have llt:l < s.heap.objs.size:=Heap.lt_size hl
 generalize s.heap.push { cls:=.type "dict",data:=.dict #[] } = h1 at hnew hl1 k1
 refine ⟨hnew.typeIs,F.args_dict_init_2 _ _,?_⟩
 unfold Builtin.«dict.__init__»
 refine wpAny_bind ?_
 unfold Builtin.Dict.selfAndRest
 refine wpAny_bind (wpAny_notOrdered_dict hnew.typeIs ?_)
 show wpAny _ _ (pure (s.heap.objs.size,[Value.ref l])) _ _ _
 refine wpAny_pure ?_
 show wpAny _ _ (Builtin.Dict.updateFrom "dict.__init__" s.heap.objs.size (.ref l) [] .none) _ _ _
 unfold Builtin.Dict.updateFrom
 refine wpAny_bind (wpAny_typeOf (T:="list") ⟨_,hl1,rfl⟩ ?_)
 rw [if_pos (by decide)]
 refine wpAny_bind (nokeys hl1 hh fun h2 tk2 k2=>?_)
 have hl2:=k2 _ _ hl1
 have hd2:h2.DictOf knd s.heap.objs.size []:=let ⟨o,es,ep,ho,r⟩:=hnew; ⟨o,es,ep,k2 _ _ ho,r⟩
 have dlt:s.heap.objs.size < h2.objs.size:=by obtain ⟨_,_,_,ho,_⟩:=hd2; exact Heap.lt_size ho
 simp only [Option.isNone_none,if_true]
 refine wpAny_bind (wpAny_rule ?_)
 have hL:Heap.IsList h2 l its:=⟨_,hl2,rfl,_,rfl⟩
 refine wpAny_bind (wpAny_pyIter_list (s:={ s with heap:=h2,toks:=tk2 }) hL ?_)
 refine wpAny_pure ⟨plainId_quiet jau _,?_⟩
 have hit:(h2.push { cls:=.type "list_iterator",data:=.fields #[.ref l,.int 0 0] }).IsListIter h2.objs.size l 0:=⟨_,Heap.get?_push_size _ rfl,rfl,rfl⟩
 refine jo4 (A:=A.in1) (knd:=knd) (more:=more) hh hlen hsz (Nat.ne_of_lt llt) (Nat.ne_of_gt dlt) (Nat.ne_of_lt (Nat.lt_trans llt dlt)) its.size 0 0 { s with heap:=h2.push { cls:=.type "list_iterator",data:=.fields #[.ref l,.int 0 0] },toks:=tk2 } [] rfl (Nat.zero_le _) (Nat.le_refl _) hit (hL.push _) (hd2.push _) ?_ ?_
 ·intro j q hq
  obtain ⟨t,kv,a1,a2,a3⟩:=hp j q hq
  obtain ⟨o,e,r⟩:=a2
  exact ⟨t,kv,a1,⟨o,Heap.get?_push_of_some _ (k2 _ _ (k1 _ _ e)),r⟩,a3⟩
 ·intro h' tk hd' k'
  rw [List.drop_zero] at hd'
  refine ⟨rfl,h h' tk hd' fun b o q=>k' b o (Nat.ne_of_lt (Heap.lt_size q)) (Nat.ne_of_lt (Heap.lt_size (k2 _ _ (k1 _ _ q)))) (Heap.get?_push_of_some _ (k2 _ _ (k1 _ _ q)))⟩
end
def PairAt (H:Hp) (v:V) (p:Key × V):Prop:=∃ t,v = .ref t∧H t = some (.tup [kV p.1,p.2])
def rDictL (K:PySem.W.Frag):List V→Hp→VK→Prop:=fun vs H Q=>∃ l xs kvs,vs = [.ref l]∧H l = some (.lst xs)∧Paired (PairAt H) xs kvs∧xs.length ≤ 1000∧(kvs.map (·.1)).Nodup∧∀ d,H d = none→Q (.ref d) (upd H d (.dK kvs))
theorem jfy {X:Cx} {pins:List (Addr × Obj)} {σ:St} {H:Hp} {s:Shared} (I:Inv X pins σ H s):∀ {xs:List V} {kvs:List (Key × V)} {its:List Value},Paired (PairAt H) xs kvs→Vals xs its →
  ∃ more:List (Key × Value),KV kvs more∧∀ (j:Nat) (q:Key × Value),more[j]? = some q→∃ t kv,its[j]? = some (.ref t)∧s.heap.IsTuple t #[kv,q.2]∧(jbc X.prog X.w).is q.1 kv = true
 | _,_,_,.nil,.nil=>⟨[],.nil,fun j q h=>by simp at h⟩
 | _,_,_,.cons hp tp,.cons rv tr=>by
  obtain ⟨more,hk,hm⟩:=jfy I tp tr
  obtain ⟨t,rfl,ht⟩:=hp
  cases rv
  obtain ⟨_,its',rt,hi⟩:=I.hok t _ ht
  obtain ⟨u1,u2,rfl,r1,r2⟩:=rt.two
  refine ⟨(_,u2) :: more,.cons ⟨rfl,r2⟩ hk,fun j q h=>?_⟩
  cases j with
  | zero =>
   simp at h
   subst h
   exact ⟨t,u1,rfl,hi,jnr r1⟩
  | succ j =>
   obtain ⟨t',kv,a1,a2,a3⟩:=hm j q (by simpa using h)
   exact ⟨t',kv,by simpa using a1,a2,a3⟩
theorem jm4 {X:Cx} (hc:X.calm = true):jbi X (.type "dict") (rDictL X.K):=by
 intro pins s σ H vs us Q I rv h
 obtain ⟨l,xs,kvs,rfl,hl,hp,hz,hn,q⟩:=h
 obtain ⟨u,rfl,ru⟩:=rv.one
 cases ru
 obtain ⟨z,its,n,r,hlen,e⟩:=I.lstM hl
 obtain ⟨more,hkv,hm⟩:=jfy I hp r
 have hlm:kvs.length = more.length:=Paired.length hkv
 have hlx:xs.length = kvs.length:=Paired.length hp
 refine jfq (knd:=jbc X.prog X.w) (more:=more) (I.ok.hd hc) e (by rw [List.size_toArray]; omega) (by rw [List.size_toArray]; omega) (fun j q hj=>?_) fun h' tk dd k=>?_
 ·obtain ⟨t,kv,a1,a2,a3⟩:=hm j q hj
  exact ⟨t,kv,by simpa using a1,a2,a3⟩
 ·refine ⟨.ref s.heap.objs.size,upd H s.heap.objs.size (.dK kvs),I.laid k (Nat.le_refl _) ?_,rfl,q _ I.fresh⟩
  rw [merged_nil_of_nodup more (by rw [← hkv.keys]; exact hn)] at dd
  exact jqg (by have:=(by decide:1000 ≤ sizeLine); omega) (by have:=I.big; exact beq_false_of_ne (Nat.ne_of_gt this)) hkv dd
end L2
namespace L2
open PySem PySem.Spec PyProof.Rows
def jmz (f:List Bool→Bool):List V→Hp→VK→Prop:=fun vs H Q=>∃ l bs,vs = [.ref l]∧H l = some (.lst (bs.map V.bl))∧Q (.bl (f bs)) H
theorem jok {bs:List Bool} {tr:Nat→Bool} (h:∀ i b,bs[i]? = some b→tr i = b):(List.range bs.length).all tr = bs.all id:=by
 rw [Bool.eq_iff_iff,List.all_eq_true,List.all_eq_true]
 constructor
 ·intro q b hb
  obtain ⟨i,hi,e⟩:=List.mem_iff_getElem.mp hb
  have:=q i (List.mem_range.mpr hi)
  rw [h i b (by rw [List.getElem?_eq_getElem hi,e])] at this
  exact this
 ·intro q i hi
  have hi':=List.mem_range.mp hi
  rw [h i bs[i] (List.getElem?_eq_getElem hi')]
  exact q _ (List.getElem_mem hi')
theorem joj {bs:List Bool} {tr:Nat→Bool} (h:∀ i b,bs[i]? = some b→tr i = b):(List.range bs.length).any tr = bs.any id:=by
 rw [Bool.eq_iff_iff,List.any_eq_true,List.any_eq_true]
 constructor
 ·rintro ⟨i,hi,q⟩
  have hi':=List.mem_range.mp hi
  rw [h i bs[i] (List.getElem?_eq_getElem hi')] at q
  exact ⟨_,List.getElem_mem hi',q⟩
 ·rintro ⟨b,hb,q⟩
  obtain ⟨i,hi,e⟩:=List.mem_iff_getElem.mp hb
  exact ⟨i,List.mem_range.mpr hi,by rw [h i b (by rw [List.getElem?_eq_getElem hi,e])]; exact q⟩
theorem jj8:∀ {bs:List Bool} {us:List Value},Vals (bs.map V.bl) us→us = bs.map Value.bool
 | [],_,.nil=>rfl
 | b :: r,_,.cons q t=>by
  cases (show _ = Value.bool b from q)
  rw [jj8 t]
  rfl
theorem jpx {X:Cx} (hc:X.calm = true):jbi X (.builtin "all") (jmz fun bs=>bs.all id):=by
 intro pins s σ H vs us Q I rv h
 obtain ⟨l,bs,rfl,hl,q⟩:=h
 obtain ⟨u,rfl,ru⟩:=rv.one
 cases ru
 obtain ⟨z,its,n,r,hlen,e⟩:=I.lstM hl
 have e2:=jj8 r
 subst e2
 have llt:l < s.heap.objs.size:=Heap.lt_size e
 have hL:s.heap.IsList l (bs.map Value.bool).toArray:=⟨_,e,rfl,_,rfl⟩
 refine call_all_walk (wpAny_pyIter_list hL ⟨s.heap.objs.size,[s.heap.objs.size,l],[s.heap.objs.size],_,_,_,fun i=>bs[i]?.getD true,rfl,Walks.list (A:=X.A.in1) (show X.A.in1.handled = none from I.ok.hd hc) s.heap.objs.size l (Nat.ne_of_lt llt) (bs.map Value.bool).toArray,
  (show Heap.IsListIter _ _ _ _∧Heap.IsList _ _ _ from ⟨⟨_,Heap.get?_push_size _ rfl,rfl,rfl⟩,hL.push _⟩),fun i v s' Q' E' hv hq=>?_,fun h' tk k=>?_⟩)
 ·have hv':(bs.map Value.bool)[i]? = some v:=by simpa using hv
  rw [List.getElem?_map] at hv'
  cases eb:bs[i]? with
  | none=>rw [eb] at hv'; cases hv'
  | some b =>
   rw [eb] at hv'
   cases hv'
   have hq':Q' b s':=by dsimp only at hq; rw [eb] at hq; exact hq
   exact wpAny_pure hq'
 ·have ez:((bs.map Value.bool).toArray).size = bs.length:=by simp
  rw [ez,jok (bs:=bs) (tr:=fun i=>bs[i]?.getD true) (fun i b hb=>by rw [hb]; rfl)]
  refine ⟨.bl _,H,I.kept fun b o qq=>k b o ?_ (Heap.get?_push_of_some _ qq),rfl,q⟩
  intro hb
  have:b = s.heap.objs.size:=by simpa using hb
  subst this
  exact absurd (Heap.lt_size qq) (Nat.lt_irrefl _)
theorem jpw {X:Cx} (hc:X.calm = true):jbi X (.builtin "any") (jmz fun bs=>bs.any id):=by
 intro pins s σ H vs us Q I rv h
 obtain ⟨l,bs,rfl,hl,q⟩:=h
 obtain ⟨u,rfl,ru⟩:=rv.one
 cases ru
 obtain ⟨z,its,n,r,hlen,e⟩:=I.lstM hl
 have e2:=jj8 r
 subst e2
 have llt:l < s.heap.objs.size:=Heap.lt_size e
 have hL:s.heap.IsList l (bs.map Value.bool).toArray:=⟨_,e,rfl,_,rfl⟩
 refine call_any_walk (wpAny_pyIter_list hL ⟨s.heap.objs.size,[s.heap.objs.size,l],[s.heap.objs.size],_,_,_,fun i=>bs[i]?.getD true,rfl,Walks.list (A:=X.A.in1) (show X.A.in1.handled = none from I.ok.hd hc) s.heap.objs.size l (Nat.ne_of_lt llt) (bs.map Value.bool).toArray,
  (show Heap.IsListIter _ _ _ _∧Heap.IsList _ _ _ from ⟨⟨_,Heap.get?_push_size _ rfl,rfl,rfl⟩,hL.push _⟩),fun i v s' Q' E' hv hq=>?_,fun h' tk k=>?_⟩)
 ·have hv':(bs.map Value.bool)[i]? = some v:=by simpa using hv
  rw [List.getElem?_map] at hv'
  cases eb:bs[i]? with
  | none=>rw [eb] at hv'; cases hv'
  | some b =>
   rw [eb] at hv'
   cases hv'
   have hq':Q' b s':=by dsimp only at hq; rw [eb] at hq; exact hq
   exact wpAny_pure hq'
 ·have ez:((bs.map Value.bool).toArray).size = bs.length:=by simp
  rw [ez,joj (bs:=bs) (tr:=fun i=>bs[i]?.getD true) (fun i b hb=>by rw [hb]; rfl)]
  refine ⟨.bl _,H,I.kept fun b o qq=>k b o ?_ (Heap.get?_push_of_some _ qq),rfl,q⟩
  intro hb
  have:b = s.heap.objs.size:=by simpa using hb
  subst this
  exact absurd (Heap.lt_size qq) (Nat.lt_irrefl _)
inductive Knd (H:Hp):V→String→Prop where
 | non:Knd H .non "NoneType"
 | bl {x:Bool}:Knd H (.bl x) "bool"
 | int {i:Int}:Knd H (.int i) "int"
 | str {x:Str}:Knd H (.str x) "str"
 | lst {a:Addr} {xs:List V} (e:H a = some (.lst xs)):Knd H (.ref a) "list"
 | tup {a:Addr} {xs:List V} (e:H a = some (.tup xs)):Knd H (.ref a) "tuple"
 | dK {a:Addr} {kvs:List (Key × V)} (e:H a = some (.dK kvs)):Knd H (.ref a) "dict"
theorem Knd.ty {K:PySem.W.Frag} {H:Hp} {v:V} {n:String} (h:Knd H v n):TyOf K H v (.type n):=by
 cases h with
 | non=>exact .non
 | bl=>exact .bl _
 | int=>exact .int _
 | str=>exact .str _
 | lst e=>exact .lst e
 | tup e=>exact .tup e
 | dK e=>exact .dK e
def isiK (a b:String):Bool:=a == b || (a == "bool" && b == "int")
def jgt:List String:=["NoneType","bool","int","str","list","tuple","dict"]
theorem jr4 {K:PySem.W.Frag}:∀ a ∈ jgt,∀ b ∈ jgt,PySem.W.kitOne K (.type a) (.type b) = some (isiK a b):=by
 intro a ha b hb
 have ha':a = "NoneType" ∨ a = "bool" ∨ a = "int" ∨ a = "str" ∨ a = "list" ∨ a = "tuple" ∨ a = "dict":=by simpa [jgt] using ha
 have hb':b = "NoneType" ∨ b = "bool" ∨ b = "int" ∨ b = "str" ∨ b = "list" ∨ b = "tuple" ∨ b = "dict":=by simpa [jgt] using hb
 rcases ha' with rfl | rfl | rfl | rfl | rfl | rfl | rfl <;> rcases hb' with rfl | rfl | rfl | rfl | rfl | rfl | rfl <;> rfl
def rIsi:List V→Hp→VK→Prop:=fun vs H Q=>∃ x n T,vs = [x,.ty T]∧Knd H x n∧T ∈ jgt∧Q (.bl (isiK n T)) H
theorem Knd.mem {H:Hp} {v:V} {n:String} (h:Knd H v n):n ∈ jgt:=by cases h <;> simp [jgt]
theorem jpv {X:Cx}:jbi X (.builtin "isinstance") rIsi:=by
 intro pins s σ H vs us Q I rv h
 obtain ⟨x,n,T,rfl,hk,hT,q⟩:=h
 obtain ⟨u1,u2,rfl,r1,r2⟩:=rv.two
 cases (show u2 = Value.type T from r2)
 exact jnv I r1 hk.ty (jr4 n hk.mem T hT) fun tk=>⟨.bl _,H,I.tok tk,rfl,q⟩
end L2
namespace L2
open PySem PySem.Spec PyProof.Rows
section
variable {X:Cx} {e a b c o i:Expr} {es:List Expr} {t t' ta tb tc td te:TE} {pos p p2:Pos}
theorem PE.imp (h:PE X e t) (hi:∀ σ H Q,t' σ H Q→t σ H Q):PE X e t':=fun pins s σ H Q I q=>h pins s σ H Q I (hi σ H Q q)
theorem PG.imp {t t':TG} (h:PG X e t) (hi:∀ v σ H Q,t' v σ H Q→t v σ H Q):PG X e t':=fun pins s σ H v u Q I r q=>h pins s σ H v u Q I r (hi v σ H Q q)
theorem PGs.imp {t t':TGs} (h:PGs X es t) (hi:∀ v σ H Q,t' v σ H Q→t v σ H Q):PGs X es t':=fun pins s σ H v u Q I r q=>h pins s σ H v u Q I r (hi v σ H Q q)
theorem OpR.imp {f:Value→Value→Sem Value} {r r':R2} (h:OpR X f r) (hi:∀ x y H Q,r' x y H Q→r x y H Q):OpR X f r':=fun pins s σ H x y v u Q I rx ry q=>h pins s σ H x y v u Q I rx ry (hi x y H Q q)
theorem jbi.imp {f:Value} {r r':List V→Hp→VK→Prop} (h:jbi X f r) (hi:∀ vs H Q,r' vs H Q→r vs H Q):jbi X f r':=fun pins s σ H xs us Q I rv q=>h pins s σ H xs us Q I rv (hi xs H Q q)
theorem IxR.imp {r r':R2} (h:IxR X r) (hi:∀ x y H Q,r' x y H Q→r x y H Q):IxR X r':=fun value slice pins s σ H x y v u Q I rx ry q hs=>h value slice pins s σ H x y v u Q I rx ry (hi x y H Q q) hs
theorem MtR.imp {id:String} {r r':V→List V→Hp→VK→Prop} (h:MtR X id r) (hi:∀ x vs H Q,r' x vs H Q→r x vs H Q):MtR X id r':=fun pins s σ H x xs v us Q I rx rv q=>h pins s σ H x xs v us Q I rx rv (hi x xs H Q q)
theorem PSet.imp {t t':TSet} (h:PSet X t) (hi:∀ o i v H Q,t' o i v H Q→t o i v H Q):PSet X t':=fun pins s σ H o i v ov iv u Q I r1 r2 r3 q=>h pins s σ H o i v ov iv u Q I r1 r2 r3 (hi o i v H Q q)
theorem SlR.imp {r r':V→Option Int→Option Int→Hp→VK→Prop} (h:SlR X r) (hi:∀ x l u H Q,r' x l u H Q→r x l u H Q):SlR X r':=fun pins s σ H x v vl vu lo hi' sl Q I rx hs pl pu q=>h pins s σ H x v vl vu lo hi' sl Q I rx hs pl pu (hi x lo hi' H Q q)
def fVar (i:Nat):TE:=fun σ H Q=>match σ[i]? with
 | some (some v)=>Q v H
 | _=>False
theorem qv (i:Nat) {x:Str} {pos:Pos} (hN:X.N[i]? = some x:=by rfl) (hv:Vis X.env.scope x:=by first | exact Or.inl rfl | exact Or.inr (Or.inl rfl) | exact Or.inr (Or.inr rfl)) (hd:(x == ("__debug__":Str)) = false:=by decide)
  (hcd:(x == ("__classdict__":Str)) = false:=by decide):PE X (.Name x pos) (fVar i):=(pe_var hN hv hd hcd).imp fun σ H Q q=>by
 unfold fVar at q
 split at q
 ·rename_i v e; exact ⟨v,e,q⟩
 ·exact q.elim
def fI (g:Int→Int→V):R2:=fun x y H Q=>match x,y with
 | .int i,.int j=>Q (g i j) H
 | _,_=>False
def fIC (C:Int→Int→Prop) (g:Int→Int→V):R2:=fun x y H Q=>match x,y with
 | .int i,.int j=>C i j∧Q (g i j) H
 | _,_=>False
theorem fI.r {g:Int→Int→V} {x y:V} {H:Hp} {Q:VK} (h:fI g x y H Q):rI0 g x y H Q:=by
 unfold fI at h
 split at h
 ·exact ⟨_,_,rfl,rfl,h⟩
 ·exact h.elim
theorem fIC.r {C:Int→Int→Prop} {g:Int→Int→V} {x y:V} {H:Hp} {Q:VK} (h:fIC C g x y H Q):rI C g x y H Q:=by
 unfold fIC at h
 split at h
 ·exact ⟨_,_,rfl,rfl,h.1,h.2⟩
 ·exact h.elim
theorem jca:OpR X (binaryOp .Add) (fI fun i j=>.int (i + j)):=op_add.imp fun _ _ _ _=>fI.r
theorem jhx:OpR X (binaryOp .Sub) (fI fun i j=>.int (i - j)):=op_sub.imp fun _ _ _ _=>fI.r
theorem jll:OpR X (binaryOp .Mult) (fIC CMul fun i j=>.int (i * j)):=op_mul.imp fun _ _ _ _=>fIC.r
theorem jjh:OpR X (binaryOp .Mod) (fIC (fun _ j=>0 < j) fun i j=>.int (i % j)):=op_mod.imp fun _ _ _ _=>fIC.r
theorem jn2:OpR X (binaryOp .FloorDiv) (fIC CDiv fun i j=>.int (i / j)):=jqu.imp fun _ _ _ _=>fIC.r
theorem jqo:OpR X (binaryOp .Pow) (fIC CPow fun i j=>.int (i ^ j.toNat)):=op_pow.imp fun _ _ _ _=>fIC.r
theorem q_lt:OpR X (compareOp .Lt) (fI fun i j=>.bl (decide (i < j))):=op_lt.imp fun _ _ _ _=>fI.r
theorem q_le:OpR X (compareOp .LtE) (fI fun i j=>.bl (decide (i ≤ j))):=op_le.imp fun _ _ _ _=>fI.r
theorem q_gt:OpR X (compareOp .Gt) (fI fun i j=>.bl (decide (i > j))):=op_gt.imp fun _ _ _ _=>fI.r
theorem q_ge:OpR X (compareOp .GtE) (fI fun i j=>.bl (decide (i ≥ j))):=op_ge.imp fun _ _ _ _=>fI.r
theorem q_iadd:PIp X .Add (fI fun i j=>.int (i + j)):=fun pins s σ H x y v u Q I rx ry q=>jr7 pins s σ H x y v u Q I rx ry q.r
def fNeg:V→Hp→VK→Prop:=fun x H Q=>match x with
 | .int i=>Q (.int (-i)) H
 | _=>False
theorem jp2:UnR X (unaryOp .USub) fNeg:=fun pins s σ H x v Q I rx q=>by
 cases x <;> first
  | exact False.elim q
  | exact un_neg pins s σ H _ v Q I rx ⟨_,rfl,q⟩
def fEq:R2:=fun x y H Q=>match x,y with
 | .int i,.int j=>Q (.bl (decide (i = j))) H
 | .bl i,.bl j=>Q (.bl (decide (i = j))) H
 | .str i,.str j=>Q (.bl (decide (i = j))) H
 | _,_=>False
def fNe:R2:=fun x y H Q=>match x,y with
 | .int i,.int j=>Q (.bl (!decide (i = j))) H
 | .bl i,.bl j=>Q (.bl (!decide (i = j))) H
 | .str i,.str j=>Q (.bl (!decide (i = j))) H
 | _,_=>False
theorem dI (i j:Int):decide (V.int i = V.int j) = decide (i = j):=by simp
theorem dB (i j:Bool):decide (V.bl i = V.bl j) = decide (i = j):=by simp
theorem dS (i j:Str):decide (V.str i = V.str j) = decide (i = j):=by simp
theorem q_eq:OpR X (compareOp .Eq) fEq:=op_eq.imp fun x y H Q h=>by
 unfold fEq at h
 split at h
 ·exact ⟨rfl,by rw [dI]; exact h⟩
 ·exact ⟨rfl,by rw [dB]; exact h⟩
 ·exact ⟨rfl,by rw [dS]; exact h⟩
 ·exact h.elim
theorem q_ne:OpR X (compareOp .NotEq) fNe:=op_ne.imp fun x y H Q h=>by
 unfold fNe at h
 split at h
 ·exact ⟨rfl,by rw [dI]; exact h⟩
 ·exact ⟨rfl,by rw [dB]; exact h⟩
 ·exact ⟨rfl,by rw [dS]; exact h⟩
 ·exact h.elim
def jk6:V→Bool
 | .non=>true
 | _=>false
def fIsN (f:Bool→Bool):R2:=fun x y H Q=>match y with
 | .non=>Q (.bl (f (jk6 x))) H
 | _=>False
def fAnd (ta tb:TE):TE:=fun σ H Q=>ta σ H fun x H1=>match x with
 | .bl c=>if c = true then tb σ H1 Q else Q (.bl false) H1
 | _=>False
def fOr (ta tb:TE):TE:=fun σ H Q=>ta σ H fun x H1=>match x with
 | .bl c=>if c = true then Q (.bl true) H1 else tb σ H1 Q
 | _=>False
def fNot (ta:TE):TE:=fun σ H Q=>ta σ H fun x H1=>match x with
 | .bl c=>Q (.bl (!c)) H1
 | _=>False
def fB (t:TE):TT:=fun σ H Q=>t σ H fun x H1=>match x with
 | .bl c=>Q c H1
 | _=>False
variable {rest:List Expr}
theorem jck (ha:PE X a ta) (hb:PE X (.BoolOp .And (b :: rest) pos) tb):PE X (.BoolOp .And (a :: b :: rest) pos) (fAnd ta tb):=by
  intro pins s σ H Q I h
  refine BoolOp_and (thn (ha pins s σ H _ I h) fun v s1 ⟨x,H1,I1,r1,q1⟩=>?_)
  cases x <;> first
    | exact False.elim q1
    | (rename_i c
       cases r1
       refine wpAny_truthy_bool ?_
       cases c with
       | true=>exact hb pins s1 σ H1 Q I1 q1
       | false=>exact ⟨.bl false,H1,I1,rfl,q1⟩)
theorem q_or (ha:PE X a ta) (hb:PE X (.BoolOp .Or (b :: rest) pos) tb):PE X (.BoolOp .Or (a :: b :: rest) pos) (fOr ta tb):=by
  intro pins s σ H Q I h
  refine BoolOp_or (thn (ha pins s σ H _ I h) fun v s1 ⟨x,H1,I1,r1,q1⟩=>?_)
  cases x <;> first
    | exact False.elim q1
    | (rename_i c
       cases r1
       refine wpAny_truthy_bool ?_
       cases c with
       | false=>exact hb pins s1 σ H1 Q I1 q1
       | true=>exact ⟨.bl true,H1,I1,rfl,q1⟩)
theorem q_not (ha:PE X a ta):PE X (.UnaryOp .Not a pos) (fNot ta):=by
  intro pins s σ H Q I h
  refine UnaryOp_ (thn (ha pins s σ H _ I h) fun v s1 ⟨x,H1,I1,r1,q1⟩=>?_)
  cases x <;> first
    | exact False.elim q1
    | (rename_i c
       cases r1
       exact not_of (wpAny_truthy_bool ⟨.bl (!c),H1,I1,rfl,q1⟩))
theorem jbm {t:TE} (h:PE X e t) (he:∀ whole,isTrue e X.env whole = (do let v ← whole; standAt e.pos; holding [v] (truthy v)):=by intro _; rfl):PT X e (fB t):=by
  intro pins s σ H Q I hw
  refine isTrue_plain (thn (h pins s σ H _ I hw) fun v s1 ⟨x,H1,I1,r1,q1⟩=>?_) (he _)
  cases x <;> first
    | exact False.elim q1
    | (cases r1
       exact wpAny_truthy_bool ⟨H1,I1,q1⟩)
theorem jav {op:CmpOp} {r:R2} (ho:OpR X (compareOp op) r) (ha:PE X a ta) (hb:PE X b tb) (hm:behindInMarks op b = false):PT X (.Compare a [op] [b] pos) (fB (tOp r ta tb)):=by
  intro pins s σ H Q I h
  refine wpAny_isTrue_Compare1 (thn (ha pins s σ H _ I h) fun v s1 ⟨x,H1,I1,r1,q1⟩=>thn (hb pins s1 σ H1 _ I1 q1) fun u s2 ⟨y,H2,I2,r2,q2⟩ =>
    thn (ho pins s2 σ H2 x y v u _ I2 r1 r2 q2) fun c s3 ⟨z,H3,I3,r3,q3⟩=>?_) hm
  cases z <;> first
    | exact False.elim q3
    | (cases r3
       exact wpAny_truthy_bool ⟨H3,I3,q3⟩)
def jfb (r r':R2) (ta tb tc:TE):TE:=fun σ H Q=>ta σ H fun x H1=>tb σ H1 fun y H2=>r x y H2 fun z H3=>match z with
 | .bl k=>(if k = true then tc σ H3 fun w' H4=>r' y w' H4 Q else Q (.bl false) H3)
 | _=>False
theorem jjk {op op':CmpOp} {g:Int→Int→Bool} {r':R2} (ho:OpR X (compareOp op) (fI fun i j=>.bl (g i j))) (ho':OpR X (compareOp op') r') (ha:PE X a ta) (hb:PE X b tb) (hc:PE X c tc)
  (hm:lastMarks [op,op'] [b,c] = false:=by with_unfolding_all rfl):PE X (.Compare a [op,op'] [b,c] pos) (jfb (fI fun i j=>.bl (g i j)) r' ta tb tc):=by
 intro pins s σ H Q I h
 refine Compare_chain (thn (ha pins s σ H _ I h) fun v s1 ⟨x,H1,I1,r1,q1⟩=>chain_link (thn (hb pins s1 σ H1 _ I1 q1) fun u s2 ⟨y,H2,I2,r2,q2⟩ =>
  thn (ho pins s2 σ H2 x y v u (fun z H3=>∃ k,z = .bl k∧(if k = true then tc σ H3 fun w' H4=>r' y w' H4 Q else Q (.bl false) H3)) I2 r1 r2 ?_) fun d s3 ⟨z,H3,I3,r3,k,e,q3⟩=>?_)) hm
 ·dsimp only at q2
  unfold fI at q2 ⊢
  cases x <;> cases y <;> first
   | exact q2.elim
   | exact ⟨_,rfl,q2⟩
 ·subst e
  cases r3
  refine wpAny_truthy_bool ?_
  cases k with
  | false=>exact ite_ff ⟨.bl false,H3,I3,rfl,q3⟩
  | true=>exact ite_tt (chain_last (thn (hc pins s3 σ H3 _ I3 q3) fun w' s4 ⟨z',H4,I4,r4,q4⟩=>ho' pins s4 σ H4 y z' u w' Q I4 r2 r4 q4))
def jam (H:Hp) (p:Addr):Option (List V):=match H p with
 | some (.lst xs)=>some xs
 | some (.tup xs)=>some xs
 | some (.frz _ (.lst xs))=>some xs
 | _=>none
theorem jec {K:PySem.W.Frag} {H:Hp} {p:Addr} {xs:List V} (h:jam H p = some xs):SqL K H p xs ∨ SqT K H p xs:=by
 unfold jam at h
 split at h
 ·rename_i ys e; cases h; exact .inl (.inl (.inl e))
 ·rename_i ys e; cases h; exact .inr (SqT.of e)
 ·rename_i o ys e; cases h; exact .inl (.inl (.inr ⟨_,e⟩))
 ·cases h
def fIx:R2:=fun x y H Q=>match x,y with
 | .ref p,.int i=>match jam H p with
  | some xs=>match atI xs i with
   | some v=>Q v H
   | none=>False
  | none=>False
 | _,_=>False
theorem q_ix:IxR X fIx:=(jnt.or ix_tup).imp fun x y H Q h=>by
 unfold fIx at h
 split at h
 ·split at h
  ·rename_i xs e
   split at h
   ·rename_i v ev
    rcases jec (K:=X.K) e with z | z
    ·exact .inl ⟨_,_,_,_,rfl,rfl,z,ev,h⟩
    ·exact .inr ⟨_,_,_,_,rfl,rfl,z,ev,h⟩
   ·exact h.elim
  ·exact h.elim
 ·exact h.elim
def fLen:List V→Hp→VK→Prop:=fun vs H Q=>match vs with
 | [.ref p]=>match jam H p with
  | some xs=>Q (.int xs.length) H
  | none=>False
 | _=>False
theorem jde:jbi X (.builtin "len") fLen:=jcs.imp fun vs H Q h=>by
 unfold fLen at h
 split at h
 ·split at h
  ·rename_i xs e; exact ⟨_,xs,rfl,jec e,h⟩
  ·exact h.elim
 ·exact h.elim
def jcp:List V→Hp→VK→Prop:=fun vs H Q=>match vs with
 | [.ref p]=>match jam H p with
  | some xs=>∀ l,H l = none→Q (.ref l) (upd H l (.lst xs))
  | none=>False
 | _=>False
theorem jkt:jbi X (.type "list") jcp:=jiy.imp fun vs H Q h=>by
 unfold jcp at h
 split at h
 ·split at h
  ·rename_i xs e; exact ⟨_,xs,rfl,jec e,h⟩
  ·exact h.elim
 ·exact h.elim
def fMin:List V→Hp→VK→Prop:=fun vs H Q=>match vs with
 | [.int i,.int j]=>Q (.int (if j < i then j else i)) H
 | _=>False
theorem q_min (hc:X.calm = true):jbi X (.builtin "min") fMin:=(joe hc).imp fun vs H Q h=>by
 unfold fMin at h
 split at h
 ·exact ⟨_,_,rfl,h⟩
 ·exact h.elim
def fSlL:V→Option Int→Option Int→Hp→VK→Prop:=fun x lo hi H Q=>match x with
 | .ref a=>match H a with
  | some (.lst xs)=>∀ p,H p = none→Q (.ref p) (upd H p (.lst (cutV xs lo hi)))
  | _=>False
 | _=>False
theorem jhy:SlR X fSlL:=jqn.imp fun x l u H Q h=>by
 unfold fSlL at h
 split at h
 ·split at h
  ·rename_i xs e; exact ⟨_,xs,rfl,SqL.of e,h⟩
  ·exact h.elim
 ·exact h.elim
def jcq:V→List V→Hp→VK→Prop:=fun x vs H Q=>match x,vs with
 | .ref l,[y]=>match H l with
  | some (.lst xs)=>xs.length < sizeLine∧Q .non (upd H l (.lst (xs ++ [y])))
  | _=>False
 | _,_=>False
theorem jdf:MtR X "list.append" jcq:=MtR.imp (r:=jn0) (fun pins s σ H x xs v us Q I rx rv q=>jij pins s σ H x xs v us Q I rx rv q) fun x vs H Q h=>by
 unfold jcq at h
 split at h
 ·split at h
  ·rename_i xs e; exact ⟨_,xs,_,rfl,rfl,e,h.1,h.2⟩
  ·exact h.elim
 ·exact h.elim
def fBM (r:V→List V→Hp→VK→Prop) (to:TE) (t:TA):TE:=fun σ H Q=>to σ H fun x H1=>(∃ a xs,x = .ref a∧H1 a = some (.lst xs))∧t σ H1 fun xs H2=>r x xs H2 Q
def jiu:TSet:=fun o i v H Q=>match o,i with
 | .ref p,.int k=>match H p with
  | some (.lst xs)=>match ixN xs.length k with
   | some j=>Q (upd H p (.lst (xs.set j v)))
   | none=>False
  | _=>False
 | _,_=>False
theorem jhz:PSet X jiu:=jox.imp fun o i v H Q h=>by
 unfold jiu at h
 split at h
 ·split at h
  ·rename_i xs e
   split at h
   ·rename_i j ej; exact ⟨_,xs,_,j,rfl,rfl,e,ej,h⟩
   ·exact h.elim
  ·exact h.elim
 ·exact h.elim
def jh0:TGs:=fun vs σ H Q=>match vs with
 | []=>Q σ H
 | _=>False
def jdl (t:TG) (u:TGs):TGs:=fun vs σ H Q=>match vs with
 | v :: r=>t v σ H fun σ' H'=>u r σ' H' Q
 | []=>False
theorem jbr:PGs X [] jh0:=jqs.imp fun v σ H Q h=>by
 unfold jh0 at h
 split at h
 ·exact ⟨rfl,h⟩
 ·exact h.elim
theorem jan {t:TG} {u:TGs} (h1:PG X e t) (h2:PGs X es u) (hs:(assignEach (e :: es) X.env).map (·.2) = assign e X.env :: (assignEach es X.env).map (·.2):=by rfl):PGs X (e :: es) (jdl t u):=(jp7 h1 h2 hs).imp fun v σ H Q h=>by
 unfold jdl at h
 split at h
 ·exact ⟨_,_,rfl,h⟩
 ·exact h.elim
def jgz (n:Nat) (t:TGs):TG:=fun v σ H Q=>match v with
 | .ref a=>match H a with
  | some (.tup xs)=>xs.length = n∧t xs σ H Q
  | _=>False
 | _=>False
theorem jcj {k:Nat} {t:TGs} {n:Nat} (hc:X.calm = true) (h:PGs X es t) (hn:(assignEach es X.env).length = n:=by rfl) (hst:(assignEach es X.env).findIdx? (·.1) = none:=by rfl):PG X (.Tuple es k pos) (jgz n t) :=
 (pg_tup hc h hn hst).imp fun v σ H Q q=>by
  unfold jgz at q
  split at q
  ·split at q
   ·rename_i xs e; exact ⟨_,xs,rfl,SqT.of e,q.1,q.2⟩
   ·exact q.elim
  ·exact q.elim
def fDIn (f:Bool→Bool) (ty td:TE):TE:=fun σ H Q=>ty σ H fun y H1=>td σ H1 fun x H2=>match y,x with
 | .int n,.ref a=>match H2 a with
  | some (.dK kvs)=>Q (.bl (f (valV kvs (Sum.inl n:Key)).isSome)) H2
  | _=>False
 | _,_=>False
def jk9 (td ty:TE):TE:=fun σ H Q=>td σ H fun x H1=>ty σ H1 fun y H2=>match x,y with
 | .ref a,.int n=>match H2 a with
  | some (.dK kvs)=>match valV kvs (Sum.inl n:Key) with
   | some v=>Q v H2
   | none=>False
  | _=>False
 | _,_=>False
end
section
variable {X:Cx} {o i:Expr} {td ty:TE} {pos:Pos}
theorem fDIn_r {f:Bool→Bool} {H2:Hp} {Q:VK} {y x:V} (h:(match y,x with
  | .int n,.ref a=>match H2 a with
    | some (.dK kvs)=>Q (.bl (f (valV kvs (Sum.inl n:Key)).isSome)) H2
    | _=>False
  | _,_=>False)):∃ a ov,x = .ref a∧DGet H2 a y ov∧Q (.bl (f ov.isSome)) H2:=by
  cases y <;> cases x <;> first
    | exact h.elim
    | (rename_i n a
       dsimp only at h
       split at h
       · rename_i kvs e; exact ⟨a,_,rfl,DGet.k (k:=Sum.inl n) e,h⟩
       · exact h.elim)
theorem jqr (hu:X.A.units + 1 < cLine) (hi:PE X i ty) (ho:PE X o td):PC X .In i o (fDIn id ty td):=by
 intro pins s σ H Q I h
 refine thn (hi pins s σ H _ I h) fun iv s1 ⟨y,H1,I1,ry,q1⟩=>thn (ho pins s1 σ H1 _ I1 q1) fun u s2 ⟨x,H2,I2,rx,q2⟩=>?_
 obtain ⟨a,ov,ex,g,q3⟩:=fDIn_r q2
 subst ex
 obtain rfl:u = Value.ref a:=rx
 exact d_in hu I2 g ry fun s' I3=>⟨.bl ov.isSome,H2,I3,rfl,q3⟩
theorem jax (hu:X.A.units + 1 < cLine) (ho:PE X o td) (hi:PE X i ty) (hs:NoSl i):PE X (.Subscript o i pos) (jk9 td ty):=by
  intro pins s σ H Q I h
  refine jql PySem.F.slot_dict_getitem.lookup hs (thn (ho pins s σ H _ I h) fun u s1 ⟨x,H1,I1,rx,q1⟩=>thn (hi pins s1 σ H1 _ I1 q1) fun iv s2 ⟨y,H2,I2,ry,q2⟩=>?_)
  cases x <;> cases y <;> first
    | exact False.elim q2
    | (dsimp only at q2
       split at q2
       · rename_i kvs e
         split at q2
         · rename_i v ev
           cases rx
           have g:∀ {a:Addr} {n:Int},H2 a = some (.dK kvs)→valV kvs (Sum.inl n:Key) = some v→DGet H2 a (.int n) (some v):=fun e1 e2=>e2 ▸ DGet.k (k:=Sum.inl _) e1
           have g:=g e ev
           exact ⟨jkb I2 g,job hu I2 g ry fun w' s3 I3 rw'=>⟨v,H2,I3,rw',q2⟩⟩
         · exact q2.elim
       · exact q2.elim)
theorem q_bm {e:Expr} {es:List Expr} {to:TE} {t:TA} {name:Str} {apos cpos:Pos} {id:String} {r:V→List V→Hp→VK→Prop} (pa:PlainAttrs "list") (slot:Slot "list" name id) (hty:typeOf (.builtin id) = pure (.type "method_descriptor")) (hm:MtR X id r) (ho:PE X o to) (ha:PA X (e :: es) t)
  (hbase:attributeBase o name X.env (eval o X.env) = eval o X.env:=by rfl)
  (hfew:((backTo cpos (starEach (e :: es) X.env)).all (fun x=>!x.1) && (backToKw cpos (keywordEach [] X.env)).all (fun x=>x.1.isSome)
   && decide ((e :: es).length + ([]:List Keyword).length + (if ([]:List Keyword).isEmpty then 0 else 1) < 30)) = true:=by rfl)
  (hline:(apos.endLine == cpos.line) = true:=by rfl) (hs:starEach (e :: es) X.env = (false,eval e X.env) :: starEach es X.env:=by rfl) (hplain:(backTo cpos (starEach es X.env)).any (·.1) = false:=by rfl) :
  PE X (.Call (.Attribute o name apos) (e :: es) [] cpos) (fBM r to t):=by
 intro pins s σ H Q I h
 refine wpAny_Call_method_late hbase hfew hline rfl (thn (ho pins s σ H _ I h) fun v s1 ⟨x,H1,I1,r1,⟨a,xs,ex,ea⟩,q1⟩=>?_)
 subst ex
 obtain ⟨h1,h2⟩:=tyV_is (T:="list") I1 r1 (.inl ⟨rfl,_,SqL.of ea⟩)
 refine ⟨"list",id,pa,slot,hty,h1,h2,?_⟩
 have hA:=ha cpos pins s1 σ H1 _ I1 q1
 rw [hs] at hA ⊢
 refine Calls.callWith_builtin (by show (false || (backTo cpos (starEach es X.env)).any (·.1)) = false; rw [hplain] <;> rfl) (Calls.evalArgs_plain ?_)
 exact thn hA fun us s2 ⟨vs,H2,I2,r2,q2⟩=>hm pins s2 σ H2 _ vs v us Q I2 r1 r2 q2
end
inductive Kd where
 | non | bl | int | str | lst | tup | dct
 deriving DecidableEq
def Kd.nm:Kd→String
 | .non=>"NoneType"
 | .bl=>"bool"
 | .int=>"int"
 | .str=>"str"
 | .lst=>"list"
 | .tup=>"tuple"
 | .dct=>"dict"
def kd (H:Hp) (v:V):Option Kd:=match v with
 | .non=>some .non
 | .bl _=>some .bl
 | .int _=>some .int
 | .str _=>some .str
 | .ref a=>match H a with
  | some (.lst _)=>some .lst
  | some (.tup _)=>some .tup
  | some (.dK _)=>some .dct
  | _=>none
 | _=>none
def isi (a b:Kd):Bool:=match a,b with
 | .bl,.int=>true
 | .non,.non=>true
 | .bl,.bl=>true
 | .int,.int=>true
 | .str,.str=>true
 | .lst,.lst=>true
 | .tup,.tup=>true
 | .dct,.dct=>true
 | _,_=>false
theorem kd_knd {H:Hp} {v:V} {k:Kd} (h:kd H v = some k):Knd H v k.nm:=by
 unfold kd at h
 split at h
 ·cases h; exact .non
 ·cases h; exact .bl
 ·cases h; exact .int
 ·cases h; exact .str
 ·split at h
  ·rename_i e; cases h; exact .lst e
  ·rename_i e; cases h; exact .tup e
  ·rename_i e; cases h; exact .dK e
  ·cases h
 ·cases h
theorem isi_K (a b:Kd):isiK a.nm b.nm = isi a b:=by cases a <;> cases b <;> rfl
theorem Kd.mem (b:Kd):b.nm ∈ jgt:=by cases b <;> simp [jgt,Kd.nm]
def fIsi (T:Kd):List V→Hp→VK→Prop:=fun vs H Q=>match vs with
 | [x,y]=>y = .ty T.nm∧match kd H x with
  | some k=>Q (.bl (isi k T)) H
  | none=>False
 | _=>False
theorem jji {X:Cx} (T:Kd):jbi X (.builtin "isinstance") (fIsi T):=jpv.imp fun vs H Q h=>by
 unfold fIsi at h
 split at h
 ·obtain ⟨rfl,h⟩:=h
  split at h
  ·rename_i k e
   exact ⟨_,_,_,rfl,kd_knd e,Kd.mem T,by rw [isi_K]; exact h⟩
  ·exact h.elim
 ·exact h.elim
def fAug (i:Nat) (te:TE) (ti:TIp):TS:=fun D σ H=>match σ[i]? with
 | some (some x)=>te σ H fun y H1=>ti x y H1 fun z H2=>D.nx (σ.set i (some z)) H2
 | _=>False
theorem qs_aug {X:Cx} {pos:Pos} {i:Nat} {x:Str} {e:Expr} {te:TE} {op:Operator} {ti:TIp} {pos':Pos} (hN:X.N.Nodup) (hi:X.N[i]? = some x) (hx:Loc X.env.scope x) (he:PE X e te) (ho:PIp X op ti) (hf:X.fn x = true ∨ X.env.scope.names.lookup x = some .local:=by first | exact .inl rfl | exact .inr rfl | assumption) :
  PS X (.AugAssign (.Name x pos') op e pos) (fAug i te ti):=fun pins s σ H D I h=>ps_aug hN hi hx he ho hf pins s σ H D I (by
 unfold fAug at h
 split at h
 ·rename_i x e; exact ⟨x,e,h⟩
 ·exact h.elim)
def jk8 (t:TE):TO:=fun σ H Q=>t σ H fun x H1=>match x with
 | .int i=>Q (some i) H1
 | _=>False
theorem jbl {X:Cx} {e:Expr} {te:TE} (h:PE X e te):PO X (some e) (jk8 te):=by
  intro pins s σ H Q I hw
  rw [evalPart_some]
  refine thn (h pins s σ H _ I hw) fun u s1 ⟨x,H1,I1,r1,q1⟩=>?_
  cases x <;> first
    | exact False.elim q1
    | (obtain ⟨t,rfl⟩:=r1
       exact ⟨some _,H1,I1,.int _ t,q1⟩)
def jd5 (f:List Bool→Bool):List V→Hp→VK→Prop:=fun vs H Q=>match vs with
 | [.ref l]=>match H l with
  | some (.lst xs)=>∃ bs:List Bool,xs = bs.map V.bl∧Q (.bl (f bs)) H
  | _=>False
 | _=>False
theorem jl5 {f:List Bool→Bool} {vs:List V} {H:Hp} {Q:VK} (h:jd5 f vs H Q):jmz f vs H Q:=by
 unfold jd5 at h
 split at h
 ·split at h
  ·rename_i xs e
   obtain ⟨bs,rfl,h⟩:=h
   exact ⟨_,bs,rfl,e,h⟩
  ·exact h.elim
 ·exact h.elim
theorem q_all {X:Cx} (hc:X.calm = true):jbi X (.builtin "all") (jd5 fun bs=>bs.all id):=(jpx hc).imp fun _ _ _=>jl5
theorem q_any {X:Cx} (hc:X.calm = true):jbi X (.builtin "any") (jd5 fun bs=>bs.any id):=(jpw hc).imp fun _ _ _=>jl5
def je4:List V→Hp→VK→Prop:=fun vs H Q=>match vs with
 | [.ref l]=>match H l with
  | some (.lst xs)=>∃ kvs:List (Key × V),Paired (PairAt H) xs kvs∧xs.length ≤ 1000∧(kvs.map (·.1)).Nodup∧∀ d,H d = none→Q (.ref d) (upd H d (.dK kvs))
  | _=>False
 | _=>False
theorem jjj {X:Cx} (hc:X.calm = true):jbi X (.type "dict") je4:=(jm4 hc).imp fun vs H Q h=>by
 unfold je4 at h
 split at h
 ·split at h
  ·rename_i xs e
   obtain ⟨kvs,h1,h2,h3,h4⟩:=h
   exact ⟨_,xs,kvs,rfl,e,h1,h2,h3,h4⟩
  ·exact h.elim
 ·exact h.elim
def fLtT:R2:=fun x y H Q=>match x,y with
 | .ref a,.ref b=>match H a,H b with
  | some (.tup [.int i,.int j]),some (.tup [.int k,.int l])=>Q (.bl (HT.lexLt [i,j] [k,l])) H
  | _,_=>False
 | _,_=>False
theorem q_ltT {X:Cx} (hu:X.A.units < cLine):OpR X (compareOp .Lt) fLtT:=(op_ltT hu).imp fun x y H Q h=>by
 unfold fLtT at h
 split at h
 ·split at h
  ·rename_i a b _ _ i j k l e1 e2
   exact ⟨a,b,[i,j],[k,l],rfl,rfl,SqT.of e1,SqT.of e2,h⟩
  ·exact h.elim
 ·exact h.elim
def capB (XN:List Str) (names:List (Str × NameKind)):List Str→List (Option Nat)→Bool
 | [],[]=>true
 | x :: N,none :: r=>capB XN names N r
 | x :: N,some j :: r=>(XN[j]? == some x) && (names.lookup x == some .free) && capB XN names N r
 | _,_=>false
theorem jkc {XN:List Str} {names:List (Str × NameKind)}:∀ {N:List Str} {src:List (Option Nat)},capB XN names N src = true→src.length = N.length∧∀ (i j:Nat),src[i]? = some (some j)→XN[j]? = N[i]?∧(N[i]?).elim False (fun x=>names.lookup x = some .free)
 | [],[],_=>⟨rfl,fun i j e=>by simp at e⟩
 | x :: N,none :: r,h=>by
  obtain ⟨h1,h2⟩:=jkc (N:=N) (src:=r) h
  refine ⟨by simp [h1],fun i j e=>?_⟩
  cases i with
  | zero=>simp at e
  | succ i=>exact h2 i j (by simpa using e)
 | x :: N,some k :: r,h=>by
  have h':((XN[k]? == some x) && (names.lookup x == some .free) && capB XN names N r) = true:=h
  rw [Bool.and_eq_true,Bool.and_eq_true] at h'
  obtain ⟨h1,h2⟩:=jkc (N:=N) (src:=r) h'.2
  refine ⟨by simp [h1],fun i j e=>?_⟩
  cases i with
  | zero =>
   have e':k = j:=by simpa using e
   subst e'
   exact ⟨by simpa using h'.1.1,by simpa using h'.1.2⟩
  | succ i=>exact h2 i j (by simpa using e)
def jkz:List Str→Bool
 | []=>true
 | x :: r=>!(r.contains x) && jkz r
theorem jai:∀ {l:List Str},jkz l = true→l.Nodup
 | [],_=>List.nodup_nil
 | x :: r,h=>by
  have h':(!(r.contains x) && jkz r) = true:=h
  rw [Bool.and_eq_true] at h'
  exact List.nodup_cons.mpr ⟨by simpa using h'.1,jai h'.2⟩
def cpB (XN:List Str) (outer:List (Str × NameKind)) (scope:Scope) (N:List Str) (src:List (Option Nat)):Bool :=
 (scope.kind == .function) && scope.names.all (fun y=>y.2 != .cell) && scope.names.all (fun y=>y.2 != .local || scope.names.lookup y.1 == some .local) &&
  scope.names.all (fun y=>y.2 != .free || (scope.names.lookup y.1 == some .free && outer.lookup y.1 == some .cell)) && jkz N && capB XN scope.names N src
theorem CpScope.of {X:Cx} {scope:Scope} {N:List Str} {src:List (Option Nat)} (h:cpB X.N X.env.scope.names scope N src = true):CpScope X scope N src:=by
 unfold cpB at h
 simp only [Bool.and_eq_true] at h
 obtain ⟨⟨⟨⟨⟨h1,h2⟩,h3⟩,h4⟩,h5⟩,h6⟩:=h
 rw [List.all_eq_true] at h2 h3 h4
 obtain ⟨l,c⟩:=jkc h6
 refine ⟨by simpa using h1,fun y hy=>by simpa using h2 y hy,fun y hy e=>?_,fun y hy e=>?_,jai h5,l,c⟩
 ·have:=h3 y hy
  rw [e] at this
  simpa using this
 ·have:=h4 y hy
  rw [e] at this
  simpa using this
end L2
namespace L2
open PySem PySem.Spec PyProof.Rows
theorem jl3 {K:PySem.W.Frag} {a:Addr} {xs:List V} {g:TG} {tb:TS} {D:Ends} {σ:St} {H:Hp} (Pv:Nat→St→Hp→Prop) (h0:Pv 0 σ H) (hl:∀ i σ H,i ≤ xs.length→Pv i σ H→SqL K H a xs)
  (hs:∀ i x σ H t,xs[i]? = some x→Pv i σ H→H t = none→g (.ref t) σ (upd H t (.tup [.int i,x])) fun σ2 H2=>tb { D with nx:=Pv (i + 1),ct:=Pv (i + 1),bk:=D.nx } σ2 H2) (hd:∀ σ H,Pv xs.length σ H→D.nx σ H) :
  ∃ W:Nat→Nat→St→Hp→Prop,(∃ m,W 0 m σ H)∧∀ i m σ H,W i m σ H →
   ((Ite K a).stop i H∧D.nx σ H) ∨ ((Ite K a).go i H∧∃ N:St→Hp→Prop,(∀ σ' H',N σ' H'→∃ m',m' < m∧W (i + 1) m' σ' H')∧∀ x H',(Ite K a).yld i H x H'→g x σ H' fun σ2 H2=>tb { D with nx:=N,ct:=N,bk:=D.nx } σ2 H2):=by
 refine ⟨fun i m σ H=>m = xs.length - i∧i ≤ xs.length∧Pv i σ H,⟨xs.length,by simp,Nat.zero_le _,h0⟩,?_⟩
 rintro i m σ H ⟨rfl,hi,p⟩
 have q:=hl i σ H hi p
 by_cases hlt:i < xs.length
 ·refine .inr ⟨⟨xs,xs[i],q,by simp [hlt]⟩,Pv (i + 1),fun σ' H' p'=>⟨xs.length - (i + 1),by omega,rfl,hlt,p'⟩,fun x H' y=>?_⟩
  obtain ⟨t,z,ht,e1,e2,y⟩:=y
  subst e1 e2
  exact hs i z σ _ t (y xs q) p ht
 ·have e:i = xs.length:=by omega
  subst e
  exact .inl ⟨⟨xs,q,Nat.le_refl _⟩,hd σ H p⟩
theorem jbq {wi:TI} {g:TG} {tb:TS} {D:Ends} {σ:St} {H:Hp} (J:It) (H1:Hp) (h1:∀ R:It→Hp→Prop,R J H1→wi σ H R)
  (h2:∃ W:Nat→Nat→St→Hp→Prop,(∃ m,W 0 m σ H1)∧∀ i m σ H,W i m σ H→(J.stop i H∧D.nx σ H) ∨ (J.go i H∧∃ N:St→Hp→Prop,(∀ σ' H',N σ' H'→∃ m',m' < m∧W (i + 1) m' σ' H')∧∀ x H',J.yld i H x H'→g x σ H' fun σ2 H2=>tb { D with nx:=N,ct:=N,bk:=D.nx } σ2 H2)) :
  tFor wi g tb D σ H:=h1 _ h2
theorem jb4 {src:List (Option Nat)} {wi:TI} {g:TG} {tc:TT} {te:TE} {Q:VK} {σ:St} {H:Hp} (J:It) (H1:Hp) (h1:∀ R:It→Hp→Prop,R J H1→wi σ H R) (h2:∀ l,H1 l = none→joo J src g tc te Q σ H1 l):jov src wi g tc te σ H Q:=h1 _ h2
theorem ja5 {H:Hp} {p:Addr} (h:H p = none) (o:HO):Same H (upd H p o):=fun b u q=>by rw [ja7 (ja9 q h)]; exact q
theorem jaz {H H':Hp} {p:Addr} {o:HO} (s:Same H H') (h:H p = none):Same H (upd H' p o):=fun b u q=>by rw [ja7 (ja9 q h)]; exact s b u q
def Pr (H:Hp) (v:V) (p:Int × Int):Prop:=∃ t,v = .ref t∧H t = some (.tup [.int p.1,.int p.2])
theorem Pr.same {H H':Hp} {v:V} {p:Int × Int} (h:Pr H v p) (s:Same H H'):Pr H' v p:=let ⟨t,e,q⟩:=h; ⟨t,e,s _ _ q⟩
def jr6:HO→Bool
 | .tup _=>true
 | .frz _ _=>true
 | _=>false
def TupS (H H':Hp):Prop:=∀ b o,jr6 o = true→H b = some o→H' b = some o
theorem Same.tups {H H':Hp} (s:Same H H'):TupS H H':=fun b o _ q=>s b _ q
theorem TupS.trans {H H1 H2:Hp} (a:TupS H H1) (b:TupS H1 H2):TupS H H2:=fun c o i q=>b c o i (a c o i q)
theorem jdc {H:Hp} {l:Addr} {xs ys:List V} (h:H l = some (.lst xs)):TupS H (upd H l (.lst ys)):=fun b o i q=>by
 have:b ≠ l:=fun z=>by rw [z,h] at q; cases q; cases i
 rw [ja7 this]
 exact q
theorem jos {H:Hp} {l:Addr} {o:HO} (h:H l = none):TupS H (upd H l o):=(ja5 h o).tups
theorem Pr.tups {H H':Hp} {v:V} {p:Int × Int} (h:Pr H v p) (s:TupS H H'):Pr H' v p:=let ⟨t,e,q⟩:=h; ⟨t,e,s _ _ rfl q⟩
def Scr (K:PySem.W.Frag) (H:Hp) (a:Addr) (ns:List Int):Prop :=
 (∃ o,H a = some (.frz o (.lst (ns.map V.int)))) ∨ ∃ (o:Obj) (its:Array Value) (n:Nat),K.lookup a = some o∧o.cls = .type "list"∧o.dict = none∧o.data = .seq its n∧its.size ≤ sizeLine∧Vals (ns.map V.int) its.toList
theorem Scr.sq {K:PySem.W.Frag} {H:Hp} {a:Addr} {ns:List Int} (h:Scr K H a ns):SqL K H a (ns.map V.int):=h.elim (fun ⟨o,q⟩=>.inl (.inr ⟨o,q⟩)) .inr
theorem Scr.of {K:PySem.W.Frag} {H:Hp} {a:Addr} {ns:List Int} (h:SqL K H a (ns.map V.int)) (o:Only H):Scr K H a ns:=by
 rcases h with (h | ⟨ob,h⟩) | h
 ·rcases o a with z | ⟨ob,xs,z⟩
  ·rw [h] at z; cases z
  ·rw [h] at z; cases z
 ·exact .inl ⟨ob,h⟩
 ·exact .inr h
theorem Scr.tups {K:PySem.W.Frag} {H H':Hp} {a:Addr} {ns:List Int} (h:Scr K H a ns) (s:TupS H H'):Scr K H' a ns:=h.elim (fun ⟨o,q⟩=>.inl ⟨o,s _ _ rfl q⟩) .inr
abbrev Prs (H:Hp):List V→List (Int × Int)→Prop:=Paired (Pr H)
theorem Prs.tups {H H':Hp} (s:TupS H H') {xs:List V} {ps:List (Int × Int)} (h:Prs H xs ps):Prs H' xs ps:=Paired.mapP h fun _ _ q=>q.tups s
theorem Prs.same {H H':Hp} (s:Same H H') {xs:List V} {ps:List (Int × Int)} (h:Prs H xs ps):Prs H' xs ps:=Prs.tups s.tups h
theorem jao {α β:Type} {F:α→β→Prop}:∀ {xs:List α} {ys:List β} {i:Nat} {x:α},Paired F xs ys→xs[i]? = some x→∃ y,ys[i]? = some y∧F x y
 | _,_,_,_,.nil,e=>by simp at e
 | _,_,0,_,.cons r _,e=>by simp at e; subst e; exact ⟨_,rfl,r⟩
 | _,_,i + 1,y,.cons _ t,e=>by
  obtain ⟨u,h1,h2⟩:=jao (i:=i) t (by simpa using e)
  exact ⟨u,by simpa using h1,h2⟩
theorem jbu {α β:Type} {F:α→β→Prop} {a:α} {b:β} {l₁:List α} {l₂:List β} (h:Paired F l₁ l₂) (r:F a b):Paired F (l₁ ++ [a]) (l₂ ++ [b]):=Paired.snoc h r
theorem jl6 {α:Type} {l:List α} {i:Nat} {x:α} (h:l[i]? = some x):l.drop i = x :: l.drop (i + 1):=by
 obtain ⟨h1,h2⟩:=List.getElem?_eq_some_iff.mp h
 rw [List.drop_eq_getElem_cons h1,h2]
theorem jaj {α:Type} {l:List α} {i:Nat} {x:α} (h:l[i]? = some x):l.take (i + 1) = l.take i ++ [x]:=by
 obtain ⟨h1,h2⟩:=List.getElem?_eq_some_iff.mp h
 rw [List.take_succ,h]
 rfl
inductive Dt where
 | non
 | bl (b:Bool)
 | int (i:Int)
 | str (x:Str)
 | tup (ds:List Dt)
 | lst (ds:List Dt)
mutual
def Rep (H:Hp):Dt→V→Prop
 | .non,v=>v = .non
 | .bl b,v=>v = .bl b
 | .int i,v=>v = .int i
 | .str x,v=>v = .str x
 | .tup ds,v=>∃ a vs,v = .ref a∧H a = some (.tup vs)∧Reps H ds vs
 | .lst ds,v=>∃ a vs,v = .ref a∧H a = some (.lst vs)∧Reps H ds vs
def Reps (H:Hp):List Dt→List V→Prop
 | [],vs=>vs = []
 | d :: ds,vs=>∃ v r,vs = v :: r∧Rep H d v∧Reps H ds r
end
mutual
theorem Rep.same {H H':Hp} (s:Same H H'):∀ (d:Dt) {v:V},Rep H d v→Rep H' d v
 | .non,_,h=>by rw [Rep] at *; exact h
 | .bl _,_,h=>by rw [Rep] at *; exact h
 | .int _,_,h=>by rw [Rep] at *; exact h
 | .str _,_,h=>by rw [Rep] at *; exact h
 | .tup ds,_,h=>by
  rw [Rep] at *
  obtain ⟨a,vs,e,q,r⟩:=h
  exact ⟨a,vs,e,s _ _ q,Reps.same s ds r⟩
 | .lst ds,_,h=>by
  rw [Rep] at *
  obtain ⟨a,vs,e,q,r⟩:=h
  exact ⟨a,vs,e,s _ _ q,Reps.same s ds r⟩
theorem Reps.same {H H':Hp} (s:Same H H'):∀ (ds:List Dt) {vs:List V},Reps H ds vs→Reps H' ds vs
 | [],_,h=>by rw [Reps] at *; exact h
 | d :: ds,_,h=>by
  rw [Reps] at *
  obtain ⟨v,r,e,h1,h2⟩:=h
  exact ⟨v,r,e,Rep.same s d h1,Reps.same s ds h2⟩
end
theorem Reps.len {H:Hp}:∀ {ds:List Dt} {vs:List V},Reps H ds vs→vs.length = ds.length
 | [],_,h=>by rw [Reps] at h; subst h; rfl
 | d :: ds,_,h=>by
  rw [Reps] at h
  obtain ⟨v,r,e,h1,h2⟩:=h
  rw [e,List.length_cons,List.length_cons,Reps.len h2]
theorem Reps.at {H:Hp}:∀ {ds:List Dt} {vs:List V} {i:Nat} {v:V},Reps H ds vs→vs[i]? = some v→∃ d,ds[i]? = some d∧Rep H d v
 | [],_,i,v,h,e=>by rw [Reps] at h; rw [h] at e; simp at e
 | d :: ds,_,i,v,h,e=>by
  rw [Reps] at h
  obtain ⟨w,r,e1,h1,h2⟩:=h
  subst e1
  cases i with
  | zero=>simp at e; subst e; exact ⟨d,rfl,h1⟩
  | succ i =>
   obtain ⟨d',q1,q2⟩:=Reps.at h2 (i:=i) (by simpa using e)
   exact ⟨d',by simpa using q1,q2⟩
def jcg (p:Int × Int):Dt:=.tup [.int p.1,.int p.2]
theorem Pr.rep {H:Hp} {v:V} {p:Int × Int} (h:Pr H v p):Rep H (jcg p) v:=by
 obtain ⟨t,e,q⟩:=h
 rw [jcg,Rep]
 refine ⟨t,_,e,q,?_⟩
 rw [Reps]
 refine ⟨_,_,rfl,(by rw [Rep]),?_⟩
 rw [Reps]
 exact ⟨_,_,rfl,(by rw [Rep]),(by rw [Reps])⟩
theorem Prs.reps {H:Hp}:∀ {xs:List V} {ps:List (Int × Int)},Prs H xs ps→Reps H (ps.map jcg) xs
 | _,_,.nil=>by rw [List.map_nil,Reps]
 | _,_,.cons r t=>by rw [List.map_cons,Reps]; exact ⟨_,_,rfl,r.rep,Prs.reps t⟩
end L2
namespace L2
open PySem PySem.Spec PyProof.Rows
def fMax:List V→Hp→VK→Prop:=fun vs H Q=>match vs with
 | [.int i,.int j]=>Q (.int (if i < j then j else i)) H
 | _=>False
theorem jqp {X:Cx} (hc:X.calm = true):jbi X (.builtin "max") fMax:=(jof hc).imp fun vs H Q h=>by
 unfold fMax at h
 split at h
 ·refine ⟨_,_,rfl,?_⟩
  first | exact h | (rename_i i j; by_cases c:i < j <;> simp_all)
 ·exact h.elim
def fInL (neg:Bool):R2:=fun x y H Q=>match y with
 | .ref p=>match jam H p with
  | some xs=>jco x = true∧xs.all jco = true∧Q (.bl (if neg = true then !inV x xs else inV x xs)) H
  | none=>False
 | _=>False
theorem jqc {K:PySem.W.Frag} {neg:Bool} {x y:V} {H:Hp} {Q:VK} (h:fInL neg x y H Q):rIn K neg x y H Q:=by
 unfold fInL at h
 split at h
 ·split at h
  ·rename_i xs e
   obtain ⟨h1,h2,h3⟩:=h
   exact ⟨_,xs,rfl,jec e,h1,h2,h3⟩
  ·exact h.elim
 ·exact h.elim
theorem jp3 {X:Cx}:OpR X (compareOp .In) (fInL false):=jna.imp fun _ _ _ _=>jqc
theorem jp1 {X:Cx}:OpR X (compareOp .NotIn) (fInL true):=ji5.imp fun _ _ _ _=>jqc
theorem flat_ints (ns:List Int):(ns.map V.int).all jco = true:=by
 rw [List.all_eq_true]
 intro v hv
 obtain ⟨n,_,e⟩:=List.mem_map.mp hv
 rw [← e]
 rfl
theorem jef (n:Int) (ns:List Int):inV (.int n) (ns.map V.int) = decide (n ∈ ns):=by
 rw [Bool.eq_iff_iff,inV,List.any_eq_true,decide_eq_true_iff]
 constructor
 ·rintro ⟨v,hv,e⟩
  obtain ⟨m,hm,e2⟩:=List.mem_map.mp hv
  subst e2
  have:m = n:=by simpa [eqV] using e
  rw [← this]
  exact hm
 ·intro h
  exact ⟨.int n,List.mem_map_of_mem h,by simp [eqV]⟩
end L2
namespace L2
open PySem PySem.Spec PyProof.Rows
def rSortL:List V→Hp→VK→Prop:=fun vs H Q=>∃ (p:Addr) (ns:List Int),vs = [.ref p]∧H p = some (.lst (ns.map V.int))∧ns.length < 64 ∧
 ∀ (l:Addr) (ms:List Int),H l = none→ms.Perm ns→ms.Pairwise (· ≤ ·)→Q (.ref l) (upd H l (.lst (ms.map V.int)))
theorem jm2 {X:Cx}:jbi X (.builtin "sorted") rSortL:=by
 intro pins s σ H xs us Q I r h
 obtain ⟨p,ns,rfl,e,h64,q⟩:=h
 obtain ⟨u,rfl,rx⟩:=jhg r
 cases rx
 obtain ⟨its,r',pl,hz⟩:=I.list (SqL.of e)
 have hI:=jc7 r'
 have hlen:=r'.length
 rw [List.length_map] at hlen
 refine sorted_ints pl.isList hI (by omega) fun out ms a1 a2 a3=>?_
 obtain ⟨c,hc⟩:=sortedAll_at s.heap its out
 have hml:=a2.length_eq
 have hz2:=jin
 refine ⟨.ref (s.heap.objs.size + 1),_,I.laid (t':=s.toks) (fun _ _=>sortedAll_old) (Nat.le_succ _) (show jb2 X.prog X.w _ _ _ (.lst (ms.map V.int)) from ⟨?_,out.toList,c,jei a1,?_⟩),rfl,q _ ms (I.hok.fresh (Nat.le_succ _)) a2 a3⟩
 ·rw [List.length_map,hml]; exact Nat.le_trans (Nat.le_of_lt h64) (by decide)
 ·rw [hc]
end L2
namespace L2
open PySem PySem.Spec PyProof.Rows
mutual
def eqP:Dt→Dt→Bool
 | .non,.non=>true
 | .bl a,.bl b=>a == b
 | .bl a,.int b=>(if a then 1 else 0) == b
 | .int a,.bl b=>a == (if b then 1 else 0)
 | .int a,.int b=>a == b
 | .str a,.str b=>a == b
 | .tup a,.tup b=>eqPs a b
 | .lst a,.lst b=>eqPs a b
 | _,_=>false
def eqPs:List Dt→List Dt→Bool
 | [],[]=>true
 | a :: r,b :: t=>eqP a b && eqPs r t
 | _,_=>false
end
mutual
def depP:Dt→Nat
 | .tup a=>jce a + 1
 | .lst a=>jce a + 1
 | _=>0
def jce:List Dt→Nat
 | []=>0
 | a :: r=>max (depP a) (jce r)
end
def je1 (a b:List Dt) (j:Nat):Bool:=match a[j]?,b[j]? with
 | some x,some y=>eqP x y
 | _,_=>false
theorem jcz:∀ {a b:List Dt},a.length ≠ b.length→eqPs a b = false
 | [],[],h=>absurd rfl h
 | [],_ :: _,_=>by simp [eqPs]
 | _ :: _,[],_=>by simp [eqPs]
 | x :: a,y :: b,h=>by
  rw [eqPs,jcz (by simpa using h),Bool.and_false]
theorem jmx:∀ (n:Nat) (f:Nat→Bool),(List.range (n + 1)).all f = (f 0 && (List.range n).all fun j=>f (j + 1)):=fun n f=>by
 rw [List.range_succ_eq_map,List.all_cons,List.all_map]
 rfl
theorem jbp:∀ {a b:List Dt},a.length = b.length→eqPs a b = (List.range a.length).all (je1 a b)
 | [],[],_=>by rw [eqPs]; rfl
 | [],_ :: _,h=>by simp at h
 | _ :: _,[],h=>by simp at h
 | x :: a,y :: b,h=>by
  rw [eqPs,jbp (a:=a) (b:=b) (by simpa using h),List.length_cons,jmx]
  rfl
theorem jh3:∀ {a:List Dt} {j:Nat} {d:Dt},a[j]? = some d→depP d ≤ jce a
 | [],_,_,h=>by simp at h
 | x :: a,0,d,h=>by
  simp at h; subst h
  rw [jce]; omega
 | x :: a,j + 1,d,h=>by
  have:=jh3 (a:=a) (j:=j) (by simpa using h)
  rw [jce]; omega
def flatD:Dt→Option V
 | .non=>some .non
 | .bl b=>some (.bl b)
 | .int i=>some (.int i)
 | .str x=>some (.str x)
 | _=>none
theorem jpn {d e:Dt} {x y:V} (hd:flatD d = some x) (he:flatD e = some y):eqP d e = eqV x y:=by
 cases d <;> cases e <;> simp only [flatD,Option.some.injEq,reduceCtorEq] at hd he <;> subst hd <;> subst he <;> simp [eqP,eqV]
theorem jgh {H:Hp} {d:Dt} {x v:V} (hd:flatD d = some x) (h:Rep H d v):v = x∧jco x = true:=by
 cases d <;> simp only [flatD,Option.some.injEq,reduceCtorEq] at hd <;> subst hd <;> rw [Rep] at h <;> exact ⟨h,rfl⟩
section
variable {X:Cx} {pins:List (Addr × Obj)} {σ:St} {H:Hp} {s:Shared}
theorem Inv.tupE (I:Inv X pins σ H s) {a:Addr} {vs:List V} (e:H a = some (.tup vs)):∃ its:List Value,Vals vs its∧s.heap.IsTuple a its.toArray:=by
 obtain ⟨its,r,p,_⟩:=I.tuple (SqT.of e)
 exact ⟨its,r,p⟩
theorem Inv.lstE (I:Inv X pins σ H s) {a:Addr} {vs:List V} (e:H a = some (.lst vs)):∃ its:List Value,Vals vs its∧s.heap.IsList a its.toArray:=by
 obtain ⟨its,r,p,_⟩:=I.list (SqL.of e)
 exact ⟨its,r,p.isList⟩
mutual
theorem jeg:∀ d:Dt,eqP d d = true
 | .non=>by simp [eqP]
 | .bl _=>by simp [eqP]
 | .int _=>by simp [eqP]
 | .str _=>by simp [eqP]
 | .tup a=>by rw [eqP]; exact jfc a
 | .lst a=>by rw [eqP]; exact jfc a
theorem jfc:∀ a:List Dt,eqPs a a = true
 | []=>by rw [eqPs]
 | d :: r=>by rw [eqPs,jeg d,jfc r]; rfl
end
mutual
theorem Rep.inj {H:Hp}:∀ {d e:Dt} {v:V},Rep H d v→Rep H e v→d = e
 | .non,e,v,h1,h2=>by rw [Rep] at h1; subst h1; cases e <;> simp [Rep] at h2 ⊢
 | .bl _,e,v,h1,h2=>by rw [Rep] at h1; subst h1; cases e <;> simp [Rep] at h2 ⊢; exact h2
 | .int _,e,v,h1,h2=>by rw [Rep] at h1; subst h1; cases e <;> simp [Rep] at h2 ⊢; exact h2
 | .str _,e,v,h1,h2=>by rw [Rep] at h1; subst h1; cases e <;> simp [Rep] at h2 ⊢; exact h2
 | .tup ds,e,v,h1,h2=>by
  rw [Rep] at h1
  obtain ⟨a,vs,rfl,q,r⟩:=h1
  cases e with
  | tup es =>
   rw [Rep] at h2
   obtain ⟨a',vs',e',q',r'⟩:=h2
   cases e'
   rw [q] at q'; cases q'
   rw [Reps.inj r r']
  | lst es =>
   rw [Rep] at h2
   obtain ⟨a',vs',e',q',r'⟩:=h2
   cases e'
   rw [q] at q'; cases q'
  | non=>rw [Rep] at h2; cases h2
  | bl _=>rw [Rep] at h2; cases h2
  | int _=>rw [Rep] at h2; cases h2
  | str _=>rw [Rep] at h2; cases h2
 | .lst ds,e,v,h1,h2=>by
  rw [Rep] at h1
  obtain ⟨a,vs,rfl,q,r⟩:=h1
  cases e with
  | lst es =>
   rw [Rep] at h2
   obtain ⟨a',vs',e',q',r'⟩:=h2
   cases e'
   rw [q] at q'; cases q'
   rw [Reps.inj r r']
  | tup es =>
   rw [Rep] at h2
   obtain ⟨a',vs',e',q',r'⟩:=h2
   cases e'
   rw [q] at q'; cases q'
  | non=>rw [Rep] at h2; cases h2
  | bl _=>rw [Rep] at h2; cases h2
  | int _=>rw [Rep] at h2; cases h2
  | str _=>rw [Rep] at h2; cases h2
theorem Reps.inj {H:Hp}:∀ {ds es:List Dt} {vs:List V},Reps H ds vs→Reps H es vs→ds = es
 | [],es,vs,h1,h2=>by
  rw [Reps] at h1; subst h1
  cases es with
  | nil=>rfl
  | cons e es=>rw [Reps] at h2; obtain ⟨_,_,z,_⟩:=h2; cases z
 | d :: ds,es,vs,h1,h2=>by
  rw [Reps] at h1
  obtain ⟨v,r,rfl,q1,q2⟩:=h1
  cases es with
  | nil=>rw [Reps] at h2; cases h2
  | cons e es =>
   rw [Reps] at h2
   obtain ⟨v',r',z,p1,p2⟩:=h2
   cases z
   rw [Rep.inj q1 p1,Reps.inj q2 p2]
end
theorem je5 {d e:Dt} (hd:flatD d = none) {y:V} (he:flatD e = some y):eqP d e = false∧eqP e d = false:=by
 cases d <;> cases e <;> simp only [flatD,Option.some.injEq,reduceCtorEq] at hd he <;> simp [eqP]
theorem eqAt_D:∀ (n:Nat) {A:Around} (I:Inv X pins σ H s) {d e:Dt} {x y:V} {u v:Value},depP d ≤ n→A.units + n < cLine→Rep H d x→Rep H e y→RelV x u→RelV y v→SeqAt.EqAt A s u v (eqP d e):=by
 intro n
 induction n with
 | zero =>
  intro A I d e x y u v hn hu rd re rx ry
  have hf:∃ z,flatD d = some z:=by
   cases d <;> simp only [depP,flatD] at hn ⊢ <;> first | exact ⟨_,rfl⟩ | omega
  obtain ⟨z,hz⟩:=hf
  obtain ⟨rfl,fz⟩:=jgh hz rd
  cases he:flatD e with
  | some y' =>
   obtain ⟨rfl,fy⟩:=jgh he re
   rw [jpn hz he]
   exact jqe rx ry fz fy
  | none =>
   rw [(je5 he hz).2]
   have hu0:A.units < cLine:=by omega
   cases e <;> simp only [flatD,reduceCtorEq] at he
   ·rw [Rep] at re
    obtain ⟨a,vs,rfl,q,_⟩:=re
    cases ry
    obtain ⟨its,_,p⟩:=I.tupE q
    cases d <;> simp only [flatD,Option.some.injEq,reduceCtorEq] at hz <;> subst hz
    ·cases rx; exact SeqAt.EqAt.none_tuple p hu0
    ·cases rx; exact SeqAt.EqAt.bool_tuple _ p hu0
    ·obtain ⟨t,rfl⟩:=rx; exact SeqAt.EqAt.int_tuple _ _ p hu0
    ·obtain ⟨t,rfl⟩:=rx; exact SeqAt.EqAt.str_tuple _ _ p hu0
   ·rw [Rep] at re
    obtain ⟨a,vs,rfl,q,_⟩:=re
    cases ry
    obtain ⟨its,_,p⟩:=I.lstE q
    cases d <;> simp only [flatD,Option.some.injEq,reduceCtorEq] at hz <;> subst hz
    ·cases rx; exact SeqAt.EqAt.none_list p hu0
    ·cases rx; exact SeqAt.EqAt.bool_list _ p hu0
    ·obtain ⟨t,rfl⟩:=rx; exact SeqAt.EqAt.int_list _ _ p hu0
    ·obtain ⟨t,rfl⟩:=rx; exact SeqAt.EqAt.str_list _ _ p hu0
 | succ n ih =>
  intro A I d e x y u v hn hu rd re rx ry
  have hu0:A.units < cLine:=by omega
  have items:∀ {ds es:List Dt} {vs ws:List V} {its its2:List Value},jce ds ≤ n→Reps H ds vs→Reps H es ws→Vals vs its→Vals ws its2 →
    ∀ j (h1:j < its.toArray.size) (h2:j < its2.toArray.size),SeqAt.EqAt A.in1 s its.toArray[j] its2.toArray[j] (je1 ds es j):=by
   intro ds es vs ws its its2 hdp r1 r2 w1 w2 j h1 h2
   rw [List.size_toArray] at h1 h2
   have l1:=w1.length
   have l2:=w2.length
   obtain ⟨u',e1,q1⟩:=w1.get (i:=j) (x:=vs[j]'(by omega)) (List.getElem?_eq_getElem _)
   obtain ⟨v',e2,q2⟩:=w2.get (i:=j) (x:=ws[j]'(by omega)) (List.getElem?_eq_getElem _)
   obtain ⟨d',f1,g1⟩:=r1.at (i:=j) (List.getElem?_eq_getElem (by omega))
   obtain ⟨e',f2,g2⟩:=r2.at (i:=j) (List.getElem?_eq_getElem (by omega))
   rw [List.getElem?_eq_getElem h1] at e1
   rw [List.getElem?_eq_getElem h2] at e2
   cases e1; cases e2
   have hj:je1 ds es j = eqP d' e':=by unfold je1; rw [f1,f2]
   rw [hj]
   have:=jh3 f1
   exact ih (A:=A.in1) I (by omega) (by show A.units + 1 + n < cLine; omega) g1 g2 q1 q2
  cases hf:flatD d with
  | some z =>
   refine ih I ?_ (by omega) rd re rx ry
   cases d <;> simp only [flatD,reduceCtorEq] at hf <;> simp [depP]
  | none =>
   cases he:flatD e with
   | some y' =>
    rw [(je5 hf he).1]
    obtain ⟨rfl,fy⟩:=jgh he re
    cases d <;> simp only [flatD,reduceCtorEq] at hf
    ·rw [Rep] at rd
     obtain ⟨a,vs,rfl,q,_⟩:=rd
     cases rx
     obtain ⟨its,_,p⟩:=I.tupE q
     cases e <;> simp only [flatD,Option.some.injEq,reduceCtorEq] at he <;> subst he
     ·cases ry; exact SeqAt.EqAt.tuple_none p hu0
     ·cases ry; exact SeqAt.EqAt.tuple_bool _ p hu0
     ·obtain ⟨t,rfl⟩:=ry; exact SeqAt.EqAt.tuple_int _ _ p hu0
     ·obtain ⟨t,rfl⟩:=ry; exact SeqAt.EqAt.tuple_str _ _ p hu0
    ·rw [Rep] at rd
     obtain ⟨a,vs,rfl,q,_⟩:=rd
     cases rx
     obtain ⟨its,_,p⟩:=I.lstE q
     cases e <;> simp only [flatD,Option.some.injEq,reduceCtorEq] at he <;> subst he
     ·cases ry; exact SeqAt.EqAt.list_none p hu0
     ·cases ry; exact SeqAt.EqAt.list_bool _ p hu0
     ·obtain ⟨t,rfl⟩:=ry; exact SeqAt.EqAt.list_int _ _ p hu0
     ·obtain ⟨t,rfl⟩:=ry; exact SeqAt.EqAt.list_str _ _ p hu0
   | none =>
    cases d <;> simp only [flatD,reduceCtorEq] at hf <;> cases e <;> simp only [flatD,reduceCtorEq] at he
    ·rename_i ds es
     have hn':jce ds ≤ n:=by rw [depP] at hn; omega
     have rd0:=rd
     have re0:=re
     rw [Rep] at rd
     rw [Rep] at re
     obtain ⟨a,vs,rfl,q,r1⟩:=rd
     obtain ⟨b,ws,rfl,q2,r2⟩:=re
     cases rx; cases ry
     by_cases hab:a = b
     ·subst hab
      rw [Rep.inj rd0 re0,jeg]
      exact SeqAt.EqAt.same _
     ·obtain ⟨its,w1,p1⟩:=I.tupE q
      obtain ⟨its2,w2,p2⟩:=I.tupE q2
      have k:=SeqAt.RcAt.tuples p1 p2 hu0 (items hn' r1 r2 w1 w2)
      have e0:((List.range (min its.toArray.size its2.toArray.size)).all (je1 ds es) && its.toArray.size == its2.toArray.size) = eqP (.tup ds) (.tup es):=by
       have l1:=w1.length
       have l2:=w2.length
       have l3:=r1.len
       have l4:=r2.len
       rw [eqP,List.size_toArray,List.size_toArray]
       by_cases hl:ds.length = es.length
       ·rw [jbp hl,← l1,← l2,l3,l4,hl,Nat.min_self]
        simp
       ·rw [jcz hl]
        have:(its.length == its2.length) = false:=by
         rw [beq_eq_false_iff_ne]; omega
        rw [this,Bool.and_false]
      rw [e0] at k
      exact .of_refs hab k
    ·rename_i ds es
     rw [Rep] at rd
     rw [Rep] at re
     obtain ⟨a,vs,rfl,q,r1⟩:=rd
     obtain ⟨b,ws,rfl,q2,r2⟩:=re
     cases rx; cases ry
     obtain ⟨its,w1,p1⟩:=I.tupE q
     obtain ⟨its2,w2,p2⟩:=I.lstE q2
     have:eqP (.tup ds) (.lst es) = false:=by simp [eqP]
     rw [this]
     exact SeqAt.EqAt.tuple_list p1 p2 hu0
    ·rename_i ds es
     rw [Rep] at rd
     rw [Rep] at re
     obtain ⟨a,vs,rfl,q,r1⟩:=rd
     obtain ⟨b,ws,rfl,q2,r2⟩:=re
     cases rx; cases ry
     obtain ⟨its,w1,p1⟩:=I.lstE q
     obtain ⟨its2,w2,p2⟩:=I.tupE q2
     have:eqP (.lst ds) (.tup es) = false:=by simp [eqP]
     rw [this]
     exact SeqAt.EqAt.list_tuple p1 p2 hu0
    ·rename_i ds es
     have hn':jce ds ≤ n:=by rw [depP] at hn; omega
     have rd0:=rd
     have re0:=re
     rw [Rep] at rd
     rw [Rep] at re
     obtain ⟨a,vs,rfl,q,r1⟩:=rd
     obtain ⟨b,ws,rfl,q2,r2⟩:=re
     cases rx; cases ry
     by_cases hab:a = b
     ·subst hab
      rw [Rep.inj rd0 re0,jeg]
      exact SeqAt.EqAt.same _
     ·obtain ⟨its,w1,p1⟩:=I.lstE q
      obtain ⟨its2,w2,p2⟩:=I.lstE q2
      have l1:=w1.length
      have l2:=w2.length
      have l3:=r1.len
      have l4:=r2.len
      refine .of_refs hab ?_
      rw [eqP]
      by_cases hl:ds.length = es.length
      ·rw [jbp hl]
       have k:=SeqAt.RcAt.lists p1 p2 (by rw [List.size_toArray,List.size_toArray]; omega) hu0 (items hn' r1 r2 w1 w2)
       rw [List.size_toArray,← l1,l3] at k
       exact k
      ·rw [jcz hl]
       exact SeqAt.RcAt.lists_lengths p1 p2 (by rw [List.size_toArray,List.size_toArray]; simp; omega) hu0
end
end L2
namespace L2
open PySem PySem.Spec PyProof.Rows
section
variable {prog:Program} {w:World} {A:Around} {R:Result→Shared→Prop} {I:Addr} {fp wr:List Addr} {n:Nat} {P:Nat→Value→Prop} {St:Nat→Heap→Prop}
def Best (val:Nat→Int) (n:Nat) (m:Int):Prop:=(∃ i,i < n∧m = val i)∧∀ i,i < n→val i ≤ m
theorem Best.keep {val:Nat→Int} {j:Nat} {m:Int} (h:Best val j m) (hb:¬ val j > m):Best val (j + 1) m :=
 ⟨let ⟨i,hi,e⟩:=h.1; ⟨i,Nat.lt_succ_of_lt hi,e⟩,fun i hi=>by
  rcases Nat.lt_succ_iff_lt_or_eq.mp hi with z | z
  ·exact h.2 i z
  ·rw [z]; omega⟩
end
section
variable {X:Cx}
def tCBK (r:List V→List V→Hp→VK→Prop) (t tk:TA):TE:=fun σ H Q=>t σ H fun vs H1=>tk σ H1 fun zs H2=>r vs zs H2 Q
end
end L2
namespace L2
open PySem PySem.Spec PyProof.Rows
section
variable {X:Cx} {pins:List (Addr × Obj)} {σ:St} {H:Hp} {s:Shared}
theorem jgu (n:Nat) {A:Around} (I:Inv X pins σ H s) {ds es:List Dt} {vs ws:List V} {its its2:List Value} (hdp:jce ds ≤ n) (hu:A.units + n < cLine) (r1:Reps H ds vs) (r2:Reps H es ws) (w1:Vals vs its) (w2:Vals ws its2) :
  ∀ j (h1:j < its.toArray.size) (h2:j < its2.toArray.size),SeqAt.EqAt A s its.toArray[j] its2.toArray[j] (je1 ds es j):=by
 intro j h1 h2
 rw [List.size_toArray] at h1 h2
 have l1:=w1.length
 have l2:=w2.length
 obtain ⟨u',e1,q1⟩:=w1.get (i:=j) (x:=vs[j]'(by omega)) (List.getElem?_eq_getElem _)
 obtain ⟨v',e2,q2⟩:=w2.get (i:=j) (x:=ws[j]'(by omega)) (List.getElem?_eq_getElem _)
 obtain ⟨d',f1,g1⟩:=r1.at (i:=j) (List.getElem?_eq_getElem (by omega))
 obtain ⟨e',f2,g2⟩:=r2.at (i:=j) (List.getElem?_eq_getElem (by omega))
 rw [List.getElem?_eq_getElem h1] at e1
 rw [List.getElem?_eq_getElem h2] at e2
 cases e1; cases e2
 have hj:je1 ds es j = eqP d' e':=by unfold je1; rw [f1,f2]
 rw [hj]
 have:=jh3 f1
 exact eqAt_D n I (by omega) hu g1 g2 q1 q2
theorem jfs {ds es:List Dt} {vs ws:List V} {its its2:List Value} (r1:Reps H ds vs) (r2:Reps H es ws) (w1:Vals vs its) (w2:Vals ws its2) :
  ((List.range (min its.toArray.size its2.toArray.size)).all (je1 ds es) && its.toArray.size == its2.toArray.size) = eqPs ds es:=by
 have l1:=w1.length
 have l2:=w2.length
 have l3:=r1.len
 have l4:=r2.len
 rw [List.size_toArray,List.size_toArray]
 by_cases hl:ds.length = es.length
 ·rw [jbp hl,← l1,← l2,l3,l4,hl,Nat.min_self]
  simp
 ·rw [jcz hl]
  have:(its.length == its2.length) = false:=by
   rw [beq_eq_false_iff_ne]; omega
  rw [this,Bool.and_false]
def rEqD (neg:Bool):R2:=fun x y H Q=>∃ d e,Rep H d x∧Rep H e y∧depP d ≤ 20∧((∃ ds es,d = .lst ds∧e = .lst es) ∨ ∃ ds es,d = .tup ds∧e = .tup es)∧Q (.bl (if neg = true then !eqP d e else eqP d e)) H
theorem op_eqD (hu:X.A.units + 64 < cLine):OpR X (compareOp .Eq) (rEqD false):=by
 intro pins s σ H x y v u Q I rx ry h
 obtain ⟨d,e,rd,re,hd,hk,q⟩:=h
 have hu0:X.A.units < cLine:=by omega
 rcases hk with ⟨ds,es,rfl,rfl⟩ | ⟨ds,es,rfl,rfl⟩
 ·have hn':jce ds ≤ 20:=by rw [depP] at hd; omega
  rw [Rep] at rd re
  obtain ⟨a,vs,rfl,q1,r1⟩:=rd
  obtain ⟨b,ws,rfl,q2,r2⟩:=re
  cases rx; cases ry
  obtain ⟨its,w1,p1⟩:=I.lstE q1
  obtain ⟨its2,w2,p2⟩:=I.lstE q2
  have l1:=w1.length
  have l2:=w2.length
  have l3:=r1.len
  have l4:=r2.len
  by_cases hl:ds.length = es.length
  ·refine SeqAt.RcAt.lists (e:=je1 ds es) p1 p2 (by rw [List.size_toArray,List.size_toArray]; omega) hu0 (jgu 20 I hn' (by show X.A.units + 1 + 20 < cLine; omega) r1 r2 w1 w2) _ _ _ _ ⟨.bl _,H,I,rfl,?_⟩
   rw [List.size_toArray,← l1,l3,← jbp hl]
   rw [eqP] at q
   exact q
  ·refine SeqAt.RcAt.lists_lengths p1 p2 (by rw [List.size_toArray,List.size_toArray]; simp; omega) hu0 _ _ _ _ ⟨.bl _,H,I,rfl,?_⟩
   rw [eqP,jcz hl] at q
   exact q
 ·have hn':jce ds ≤ 20:=by rw [depP] at hd; omega
  rw [Rep] at rd re
  obtain ⟨a,vs,rfl,q1,r1⟩:=rd
  obtain ⟨b,ws,rfl,q2,r2⟩:=re
  cases rx; cases ry
  obtain ⟨its,w1,p1⟩:=I.tupE q1
  obtain ⟨its2,w2,p2⟩:=I.tupE q2
  refine SeqAt.RcAt.tuples (e:=je1 ds es) p1 p2 hu0 (jgu 20 I hn' (by show X.A.units + 1 + 20 < cLine; omega) r1 r2 w1 w2) _ _ _ _ ⟨.bl _,H,I,rfl,?_⟩
  rw [jfs r1 r2 w1 w2]
  rw [eqP] at q
  exact q
theorem op_neD (hu:X.A.units + 64 < cLine):OpR X (compareOp .NotEq) (rEqD true):=by
 intro pins s σ H x y v u Q I rx ry h
 obtain ⟨d,e,rd,re,hd,hk,q⟩:=h
 have hu0:X.A.units < cLine:=by omega
 rcases hk with ⟨ds,es,rfl,rfl⟩ | ⟨ds,es,rfl,rfl⟩
 ·have hn':jce ds ≤ 20:=by rw [depP] at hd; omega
  rw [Rep] at rd re
  obtain ⟨a,vs,rfl,q1,r1⟩:=rd
  obtain ⟨b,ws,rfl,q2,r2⟩:=re
  cases rx; cases ry
  obtain ⟨its,w1,p1⟩:=I.lstE q1
  obtain ⟨its2,w2,p2⟩:=I.lstE q2
  have l1:=w1.length
  have l2:=w2.length
  have l3:=r1.len
  have l4:=r2.len
  by_cases hl:ds.length = es.length
  ·refine SeqAt.RcNeAt.lists (e:=je1 ds es) p1 p2 (by rw [List.size_toArray,List.size_toArray]; omega) hu0 (jgu 20 I hn' (by show X.A.units + 1 + 20 < cLine; omega) r1 r2 w1 w2) _ _ _ _ ⟨.bl _,H,I,rfl,?_⟩
   rw [List.size_toArray,← l1,l3,← jbp hl]
   rw [eqP] at q
   exact q
  ·refine SeqAt.RcNeAt.lists_lengths p1 p2 (by rw [List.size_toArray,List.size_toArray]; simp; omega) hu0 _ _ _ _ ⟨.bl _,H,I,rfl,?_⟩
   rw [eqP,jcz hl] at q
   exact q
 ·have hn':jce ds ≤ 20:=by rw [depP] at hd; omega
  rw [Rep] at rd re
  obtain ⟨a,vs,rfl,q1,r1⟩:=rd
  obtain ⟨b,ws,rfl,q2,r2⟩:=re
  cases rx; cases ry
  obtain ⟨its,w1,p1⟩:=I.tupE q1
  obtain ⟨its2,w2,p2⟩:=I.tupE q2
  refine SeqAt.RcNeAt.tuples (e:=je1 ds es) p1 p2 hu0 (jgu 20 I hn' (by show X.A.units + 1 + 20 < cLine; omega) r1 r2 w1 w2) _ _ _ _ ⟨.bl _,H,I,rfl,?_⟩
  rw [jfs r1 r2 w1 w2]
  rw [eqP] at q
  exact q
end
end L2
namespace L2
open PySem PySem.Spec PyProof.Rows
section
variable {X:Cx} {o i e f value:Expr} {td ty tv tx:TE} {pos pos' apos cpos:Pos}
def jeo (td ty tv:TE):TS:=fun D σ H=>tv σ H fun v H1=>td σ H1 fun x H2=>ty σ H2 fun y H3=>match x,y with
 | .ref a,.int n=>match H3 a with
  | some (.dK kvs)=>kvs.length < sizeLine∧D.nx σ (upd H3 a (.dK (putK kvs (Sum.inl n:Key) v)))
  | _=>False
 | _,_=>False
theorem dput_r {x y:V} {H3:Hp} {R:List (Key × V)→Addr→Int→Prop} (h:match x,y with
 | .ref a,.int n=>match H3 a with
  | some (.dK kvs)=>R kvs a n
  | _=>False
 | _,_=>False):∃ a n kvs,x = .ref a∧y = .int n∧H3 a = some (.dK kvs)∧R kvs a n:=by
 split at h
 ·split at h
  ·rename_i e; exact ⟨_,_,_,rfl,rfl,e,h⟩
  ·exact h.elim
 ·exact h.elim
theorem q_dput (hu:X.A.units + 1 < cLine) (ho:PE X o td) (hi:PE X i ty) (hv:PE X value tv) (hs:swapsWith value (some (.Subscript o i pos')) pos.line X.env = pure false:=by rfl) :
  PS X (.Assign [.Subscript o i pos'] value pos) (jeo td ty tv):=by
 intro pins s σ H D I h
 refine wpAny_Assign_Subscript (thn (hv pins s σ H _ I h) fun r s1 ⟨v,H1,I1,rv,q1⟩=>thn (ho pins s1 σ H1 _ I1 q1) fun u s2 ⟨x,H2,I2,rx,q2⟩=>thn (hi pins s2 σ H2 _ I2 q2) fun iv s3 ⟨y,H3,I3,ry,q3⟩=>?_) hs
 obtain ⟨a,n,kvs,rfl,rfl,ea,q4,q5⟩:=dput_r (R:=fun kvs a n=>kvs.length < sizeLine∧D.nx σ (upd H3 a (.dK (putK kvs (Sum.inl n:Key) v)))) q3
 obtain rfl:u = Value.ref a:=rx
 exact joa hu I3 (DPut.k (k:=Sum.inl n) ea q4) ry rv fun s4 I4=>⟨σ,_,I4,q5⟩
def jg5 (td ty tx:TE):TE:=fun σ H Q=>td σ H fun x H1=>match x with
 | .ref a=>(∃ kvs,H1 a = some (.dK kvs))∧ty σ H1 fun y H2=>tx σ H2 fun z H3=>match y with
  | .int n=>match H3 a with
   | some (.dK kvs)=>Q ((valV kvs (Sum.inl n:Key)).getD z) H3
   | _=>False
  | _=>False
 | _=>False
def fCat:R2:=fun x y H Q=>match x,y with
 | .ref l,.ref b=>match H l,H b with
  | some (.lst xs),some (.lst zs)=>xs.length + zs.length ≤ sizeLine∧∀ p,H p = none→Q (.ref p) (upd H p (.lst (xs ++ zs)))
  | _,_=>False
 | _,_=>False
theorem jp4:OpR X (binaryOp .Add) fCat:=op_cat.imp fun x y H Q h=>by
 unfold fCat at h
 split at h
 ·split at h
  ·rename_i e1 e2; exact ⟨_,_,_,_,rfl,rfl,e1,e2,h.1,h.2⟩
  ·exact h.elim
 ·exact h.elim
def jg6:V→List V→Hp→VK→Prop:=fun x vs H Q=>match x,vs with
 | .ref l,[]=>match H l with
  | some (.lst _)=>Q .non (upd H l (.lst []))
  | _=>False
 | _,_=>False
def fBM0 (r:V→List V→Hp→VK→Prop) (to:TE):TE:=fun σ H Q=>to σ H fun x H1=>(∃ a xs,x = .ref a∧H1 a = some (.lst xs))∧r x [] H1 Q
def fSlT:V→Option Int→Option Int→Hp→VK→Prop:=fun x lo hi H Q=>match x with
 | .ref a=>match H a with
  | some (.tup xs)=>¬ (HT.sIx xs.length 0 lo = 0∧HT.sIx xs.length xs.length hi = xs.length)∧∀ p,H p = none→Q (.ref p) (upd H p (.tup (cutV xs lo hi)))
  | _=>False
 | _=>False
theorem q_slT:SlR X fSlT:=sl_tup.imp fun x l u H Q h=>by
 unfold fSlT at h
 split at h
 ·split at h
  ·rename_i xs e; exact ⟨_,xs,rfl,SqT.of e,h.1,h.2⟩
  ·exact h.elim
 ·exact h.elim
def jiv:List V→Hp→VK→Prop:=fun vs H Q=>match vs with
 | [.bl k]=>Q (.int (if k = true then 1 else 0)) H
 | [.int i]=>Q (.int i) H
 | _=>False
theorem jn1:jbi X (.type "int") jiv:=jog.imp fun vs H Q h=>by
 unfold jiv at h
 split at h
 ·exact .inr ⟨_,rfl,h⟩
 ·exact .inl ⟨_,rfl,h⟩
 ·exact h.elim
end
end L2
namespace L2
open PySem PySem.Spec PyProof.Rows
section
variable {prog:Program} {w:World} {A:Around} {E:Value→Shared→Prop}
end
section
variable {X:Cx} {es:List Expr} {pos:Pos}
def jm1 (n:Nat) (t:TGs):TG:=fun v σ H Q=>match v with
 | .ref a=>match H a with
  | some (.lst xs)=>xs.length = n∧t xs σ H Q
  | _=>False
 | _=>False
end
end L2
namespace L2
open PySem PySem.Spec PyProof.Rows
def TrD (h B:Heap) (x:Addr) (cl:Value) (dd:Option Addr) (fl:Value):Prop :=
 ∃ ox ws T oT ts,h.get? x = some ox∧ox.cls = cl∧ox.dict = dd∧ox.data = .fields ws∧ws[1]? = some (.ref T)∧B.get? T = none∧T ≠ x∧h.get? T = some oT∧oT.data = .fields ts∧ts[3]? = some fl∧(dd ≠ none→ws[2]? = some .none)
structure FlyD (B:Heap) (l:List Env) (x:Addr) (cl:Value) (dd:Option Addr) (fl:Value) (h:Heap):Prop where
 stays:B.StaysIn h
 new:B.get? x = none
 funs:h.FunFrames B l
 tr:TrD h B x cl dd fl
theorem FlyD.tail {B:Heap} {env:Env} {l:List Env} {x:Addr} {cl:Value} {dd:Option Addr} {fl:Value} {h:Heap} (f:FlyD B (env :: l) x cl dd fl h):FlyD B l x cl dd fl h:=⟨f.stays,f.new,f.funs.2.2,f.tr⟩
theorem FlyD.there {B:Heap} {l:List Env} {x:Addr} {cl:Value} {dd:Option Addr} {fl:Value} {h:Heap} (f:FlyD B l x cl dd fl h):∃ ox ws,h.get? x = some ox∧ox.cls = cl∧ox.dict = dd∧ox.data = .fields ws:=by
 obtain ⟨ox,ws,_,_,_,h1,h2,h3,h4,_⟩:=f.tr
 exact ⟨ox,ws,h1,h2,h3,h4⟩
section
variable {M:Model} {A:Around} {E:Value→Shared→Prop} {s:Shared} {B:Heap} {env:Env} {l:List Env} {L x:Addr} {cl:Value} {dd:Option Addr} {Q:Unit→Shared→Prop}
theorem jqf {head:Value} {had:Bool} {ox:Obj} {ws:Array Value} (fr:A.frames = some (env :: l)) (fu:s.heap.FunFrames B (env :: l)) (ef:env.frame = some L) (gx:s.heap.get? x = some ox) (st:B.StaysIn s.heap) (nx:B.get? x = none)
  (dx:ox.data = .fields ws) (sz:1 < ws.size) (w2:ox.dict ≠ none→ws[2]? = some .none) (k:∀ h',FlyD B (env :: l) x ox.cls ox.dict (rawInt L) h'→s.heap.UpToSlots h'→Q () { s with heap:=h' }) :
  wpAny M A (do let a ← frameOf env; let pl ← entryPlaceOf L had; let b ← EntryCells.newEntry head a .none (rawInt L) .none pl; setField (.ref x) 1 b) Q E s:=by
 have xf:x ∉ (env :: l).filterMap (·.frame):=fun z=>by
  obtain ⟨_,o,go,no⟩:=fu.mem z
  rw [gx] at go
  cases go
  exact no ws dx
 refine wpAny_bind (wpAny_frameOf_fun fr fu ef fun h1 z1=>wpAny_bind (wpAny_entryPlaceOf fun pl hp=>?_))
 unfold EntryCells.newEntry newFields
 refine wpAny_bind (wpAny_newObj_type ?_ (hp.sizeOk5 _ _ _ _ _))
 have g1:h1.get? x = some ox:=(z1.2.1 x xf).trans gx
 have s1:B.StaysIn h1:=fun b o q=>(z1.2.1 b fun z=>by rw [(fu.mem z).1] at q; cases q).trans (st b o q)
 generalize hN:({ cls:=.type "traceback",dict:=none,data:=.fields ([head,.ref L,.none,rawInt L,.none] ++ (if pl.isEmpty then List.replicate 6 Value.none else pl)).toArray }:Obj) = oN
 have g2:=Heap.get?_push_of_some (h:=h1) oN g1
 refine wpAny_setField g2 dx sz (k _ ?_ ?_)
 all_goals
  have ne:h1.objs.size ≠ x:=Nat.ne_of_gt (Heap.lt_size g1)
  have kp:∀ b o,b ≠ x→h1.get? b = some o→((h1.push oN).update x (Obj.mapFields (·.setIfInBounds 1 (Value.ref h1.objs.size)))).get? b = some o:=fun b o n q=>by
   rw [Heap.get?_update_other _ _ (Ne.symm n)]; exact Heap.get?_push_of_some _ q
  have nr:∀ b o,s.heap.get? b = some o→(∀ vs,o.data ≠ .fields vs)→b ≠ x:=fun b o q n z=>by
   rw [z,gx] at q; cases q; exact n ws dx
 ·refine ⟨fun b o q=>kp b o (fun z=>by rw [z,nx] at q; cases q) (s1 b o q),nx,fu.of_keeps fun b o q n=>?_,?_⟩
  ·obtain ⟨sl,e⟩:=z1.2.2 b o q
   exact ⟨_,kp b _ (nr b o q n) e,rfl⟩
  ·have d3:=Obj.data_mapFields dx (·.setIfInBounds 1 (Value.ref h1.objs.size))
   have g3:=Heap.get?_update_self (Obj.mapFields (·.setIfInBounds 1 (Value.ref h1.objs.size))) g2 (Obj.isFreed_of_fields d3)
   have gT:=(Heap.get?_update_other (h1.push oN) (Obj.mapFields (·.setIfInBounds 1 (Value.ref h1.objs.size))) (Ne.symm ne)).trans (Heap.get?_push_size h1 (by rw [← hN]; rfl))
   refine ⟨_,_,h1.objs.size,_,_,g3,Obj.cls_mapFields _ _,?_,d3,by simp [sz],s1.fresh,ne,gT,by rw [← hN],?_,fun z=>?_⟩
   ·obtain ⟨c,d,dt,sl⟩:=ox
    dsimp only at dx
    subst dx
    rfl
   ·first | (simp; done) | (rcases hp with rfl | ⟨_,_,_,_,_,_,_,rfl⟩ <;> simp)
   ·rw [Array.getElem?_setIfInBounds_ne (by decide)]; exact w2 z
 ·intro b o q n
  obtain ⟨sl,e⟩:=z1.2.2 b o q
  exact ⟨sl,kp b _ (nr b o q n) e⟩
theorem jne {ox:Obj} {ws:Array Value} (fr:A.frames = some (env :: l)) (fu:s.heap.FunFrames B (env :: l)) (ef:env.frame = some L) (gx:s.heap.get? x = some ox) (st:B.StaysIn s.heap) (nx:B.get? x = none)
  (dx:ox.data = .fields ws) (h1:ws[1]? = some .none) (w2:ox.dict ≠ none→ws[2]? = some .none) (k:∀ h',FlyD B (env :: l) x ox.cls ox.dict (rawInt L) h'→s.heap.UpToSlots h'→Q () { s with heap:=h' }):wpAny M A (noteFrame (.ref x) env) Q E s:=by
 unfold noteFrame
 simp only [ef]
 refine wpAny_bind (wpAny_field gx dx h1 ?_)
 rw [if_neg (by decide)]
 exact jqf fr fu ef gx st nx dx (Array.getElem?_eq_some_iff.mp h1).1 w2 k
theorem jqy (fr:A.frames = some (env :: l)) (ef:env.frame = some L) (f:FlyD B (env :: l) x cl dd .none s.heap) (k:∀ h',FlyD B (env :: l) x cl dd (rawInt L) h'→s.heap.UpToSlots h'→Q () { s with heap:=h' }) :
  wpAny M A (noteFrame (.ref x) env) Q E s:=by
 obtain ⟨st,nx,fu,ox,ws,T,oT,ts,gx,rfl,rfl,dx,w1,nT,ne,gT,dT,t3,w2⟩:=f
 unfold noteFrame
 simp only [ef]
 refine wpAny_bind (wpAny_field gx dx w1 ?_)
 rw [if_pos (show (Value.ref T != Value.none) = true by simp)]
 refine wpAny_bind (wpAny_field gT dT t3 ?_)
 rw [if_neg (show ¬ ((Value.none == rawInt L) = true) by simp [rawInt])]
 refine wpAny_bind (wpAny_setField gT dT (Array.getElem?_eq_some_iff.mp t3).1 ?_)
 have oth:∀ b,b ≠ T→(s.heap.update T (Obj.mapFields (·.setIfInBounds 3 Value.none))).get? b = s.heap.get? b:=fun b n=>Heap.get?_update_other _ _ (Ne.symm n)
 have nr:∀ b o,s.heap.get? b = some o→(∀ vs,o.data ≠ .fields vs)→b ≠ T:=fun b o q n z=>by
  rw [z,gT] at q; cases q; exact n ts dT
 exact jqf fr (fu.of_keeps fun b o q n=>⟨o,(oth b (nr b o q n)).trans q,rfl⟩) ef ((oth x (Ne.symm ne)).trans gx) (fun b o q=>(oth b fun z=>by rw [z,nT] at q; cases q).trans (st b o q)) nx dx (Array.getElem?_eq_some_iff.mp w1).1 w2
  fun h' f' u=>k h' f' fun b o q n=>u b o ((oth b (nr b o q n)).trans q) n
theorem jey (ef:env.frame = some L) (f:FlyD B l x cl dd (rawInt L) s.heap) (k:Q () s):wpAny M A (noteFrame (.ref x) env) Q E s:=by
 obtain ⟨st,nx,fu,ox,ws,T,oT,ts,gx,_,_,dx,w1,nT,ne,gT,dT,t3,w2⟩:=f
 unfold noteFrame
 simp only [ef]
 refine wpAny_bind (wpAny_field gx dx w1 ?_)
 rw [if_pos (show (Value.ref T != Value.none) = true by simp)]
 refine wpAny_bind (wpAny_field gT dT t3 ?_)
 rw [if_pos (show (rawInt L == rawInt L) = true by simp)]
 exact wpAny_pure k
theorem jdz {fl:Value} (of:Option Addr) (f:FlyD B l x cl dd fl s.heap) (k:∀ h',FlyD B l x cl dd (of.elim Value.none fun a=>rawInt a) h'→s.heap.UpToSlots h'→Q () { s with heap:=h' }):wpAny M A (setFlight (.ref x) of) Q E s:=by
 obtain ⟨st,nx,fu,ox,ws,T,oT,ts,gx,c1,c2,dx,w1,nT,ne,gT,dT,t3,w2⟩:=f
 have sz:3 < ts.size:=(Array.getElem?_eq_some_iff.mp t3).1
 have oth:∀ b,b ≠ T→(s.heap.update T (Obj.mapFields (·.setIfInBounds 3 (of.elim Value.none fun f=>rawInt f)))).get? b = s.heap.get? b:=fun b n=>Heap.get?_update_other _ _ (Ne.symm n)
 have nr:∀ b o,s.heap.get? b = some o→(∀ vs,o.data ≠ .fields vs)→b ≠ T:=fun b o q n z=>by
  rw [z,gT] at q; cases q; exact n ts dT
 unfold setFlight
 refine wpAny_bind (wpAny_field gx dx w1 ?_)
 rw [if_pos (show (Value.ref T != Value.none) = true by simp)]
 refine wpAny_setField gT dT sz (k _ ⟨fun b o q=>(oth b fun z=>by rw [z,nT] at q; cases q).trans (st b o q),nx,fu.of_keeps fun b o q n=>⟨o,(oth b (nr b o q n)).trans q,rfl⟩,?_⟩ fun b o q n=>⟨o.slots,(oth b (nr b o q n)).trans q⟩)
 exact ⟨ox,ws,T,_,_,(oth x (Ne.symm ne)).trans gx,c1,c2,dx,w1,nT,ne,Heap.get?_update_self _ gT (Obj.isFreed_of_fields (Obj.data_mapFields dT _)),Obj.data_mapFields dT _,by simp [sz],w2⟩
theorem jr3 {ox:Obj} {ws:Array Value} (fr:A.frames = some (env :: l)) (fu:s.heap.FunFrames B (env :: l)) (ef:env.frame = some L) (gx:s.heap.get? x = some ox) (st:B.StaysIn s.heap) (nx:B.get? x = none)
  (dx:ox.data = .fields ws) (h1:ws[1]? = some .none) (w2:ox.dict ≠ none→ws[2]? = some .none) (k:∀ h',FlyD B l x ox.cls ox.dict .none h'→s.heap.UpToSlots h'→Q () { s with heap:=h' }):wpAny M A (leaving env (.ref x)) Q E s:=by
 unfold leaving
 exact wpAny_bind (jne fr fu ef gx st nx dx h1 w2 fun h1 f1 u1=>jdz none f1 fun h2 f2 u2=>k h2 f2.tail (u1.trans u2))
theorem leaveD (fr:A.frames = some (env :: l)) (ef:env.frame = some L) (f:FlyD B (env :: l) x cl dd .none s.heap) (k:∀ h',FlyD B l x cl dd .none h'→s.heap.UpToSlots h'→Q () { s with heap:=h' }) :
  wpAny M A (leaving env (.ref x)) Q E s:=by
 unfold leaving
 exact wpAny_bind (jqy fr ef f fun h1 f1 u1=>jdz none f1 fun h2 f2 u2=>k h2 f2.tail (u1.trans u2))
theorem jr2 (ef:env.frame = some L) (f:FlyD B (env :: l) x cl dd (rawInt L) s.heap) (k:∀ h',FlyD B l x cl dd .none h'→s.heap.UpToSlots h'→Q () { s with heap:=h' }) :
  wpAny M A (leaving env (.ref x)) Q E s:=by
 unfold leaving
 exact wpAny_bind (jey ef f (jdz none f fun h2 f2 u2=>k h2 f2.tail u2))
end
end L2
namespace L2
open PySem PySem.Spec PyProof.Rows
structure Df (X:Cx):Prop where
 stk:X.stack = X.env :: X.outer
 fr:X.env.frame = some X.env.locals
 ex:X.ex = []
 fn:∀ x,X.fn x = true
structure Cov (X:Cx) (B:Heap) (H:Hp) (h:Heap):Prop where
 tr:∀ b o,H b = some o→∃ q,h.get? b = some q∧B.get? b = some q
 old:∀ b o,X.s₀.heap.get? b = some o→b ∉ frs X.stack→∃ q,h.get? b = some q∧B.get? b = some q
 pin:∀ p ∈ X.pn,B.get? p.1 = some p.2
 cel:∀ x c,X.env.cells.lookup x = some c→∃ q,h.get? c = some q∧B.get? c = some q
theorem jnc {P:Program} {w:World} {H:Hp} {h:Heap} {a:Addr} {o:HO} (x:jb2 P w H h a o):∃ q,h.get? a = some q:=by
 cases o with
 | lst xs=>obtain ⟨_,_,_,_,e⟩:=x; exact ⟨_,e⟩
 | tup xs=>obtain ⟨_,_,_,q,e,_⟩:=x; exact ⟨_,e⟩
 | dK kvs=>obtain ⟨_,_,_,_,o,_,_,e,_⟩:=x; exact ⟨_,e⟩
 | dT kvs=>obtain ⟨_,_,_,_,o,_,_,e,_⟩:=x; exact ⟨_,e⟩
 | set S n=>obtain ⟨o,_,_,_,e,_⟩:=x; exact ⟨_,e⟩
 | ins C dx fs=>obtain ⟨_,_,_,e,_⟩:=x; exact ⟨_,e⟩
 | own y=>exact x
 | xd fs=>obtain ⟨_,⟨_,_,_,e,_⟩,_⟩:=x; exact ⟨_,e⟩
 | rng lo hi=>obtain ⟨_,_,_,e⟩:=x; exact ⟨_,e⟩
 | frz ob u=>obtain ⟨e,_⟩:=x; exact ⟨_,e⟩
 | tbl ps=>exact ⟨_,(show h.get? a = some _ from x)⟩
 | met f y=>exact ⟨_,(show h.get? a = some _ from x)⟩
 | ext φ=>exact x.2.1
theorem HOk.via {P:Program} {w:World} {H:Hp} {h B h':Heap} (x:HOk P w H h) (c:∀ b o,H b = some o→∃ q,h.get? b = some q∧B.get? b = some q) (st:B.StaysIn h'):HOk P w H h':=fun a o e =>
 (x a o e).stay (fun b u hb q=>by
  have hb':∃ o',H b = some o':=hb.elim (fun z=>⟨o,by rw [z]; exact e⟩) fun z=>⟨_,z⟩
  obtain ⟨o',e'⟩:=hb'
  obtain ⟨r,r1,r2⟩:=c b o' e'
  rw [q] at r1; cases r1
  exact st _ _ r2) (fun _ q=>q) fun _ _ q=>q
section
variable {X:Cx} {σ:St} {H:Hp} {s:Shared} {B h':Heap}
theorem jcn (d:Df X):frs X.stack = X.env.locals :: X.fs:=by
 rw [d.stk]
 show List.filterMap _ _ = _
 rw [List.filterMap_cons,d.fr]
 rfl
theorem Inv.viaB (I:Inv X [] σ H s) (d:Df X) (c:Cov X B H s.heap) (st:B.StaysIn h') (u:s.heap.UpToSlots h'):Inv X [] σ H { s with heap:=h' }:=by
 have ex:∀ b,b ∉ X.ex:=fun b=>by rw [d.ex]; exact List.not_mem_nil
 refine ⟨I.ok,I.os,I.bare,⟨fun b o e n nb _=>?_,fun b o e n hb _=>?_,fun b o e n _=>I.base.free b o e n (ex b),fun b o e _=>?_,I.base.tups,I.base.frzs,I.base.tbls⟩,?_,fun x cc e=>?_,I.free,I.freeC,fun p hp=>?_,I.hok.via c.tr st,I.len⟩
 ·have nl:b ≠ X.env.locals:=Nat.ne_of_lt (Nat.lt_of_lt_of_le (Heap.lt_size e) I.ok.above)
  obtain ⟨q,q1,q2⟩:=c.old b o e (by rw [jcn d]; exact fun z=>(List.mem_cons.mp z).elim nl nb)
  rw [I.base.keep b o e n nb (ex b)] at q1; cases q1
  exact st _ _ q2
 ·obtain ⟨sl,e1⟩:=I.base.slot b o e n hb (ex b)
  obtain ⟨_,o1,g1,nf⟩:=I.funs.mem hb
  rw [e1] at g1; cases g1
  obtain ⟨sl2,e2⟩:=u b _ e1 nf
  exact ⟨sl2,e2⟩
 ·by_cases hb:b ∈ frs X.stack
  ·obtain ⟨_,o1,g1,nf⟩:=I.stack.mem hb
   obtain ⟨sl2,e2⟩:=u b _ g1 nf
   exact ⟨_,e2⟩
  ·obtain ⟨q,_,q2⟩:=c.old b o e hb
   exact ⟨q,st _ _ q2⟩
 ·obtain ⟨m,hn,hl⟩:=I.loc
  refine ⟨m,u.ns hn,fun i y v h1 h2 h3=>?_⟩
  obtain ⟨w',r,lk⟩:=hl i y v h1 h2 h3
  refine ⟨w',r,lk.imp id fun ⟨k,cc,e1,o,ho,hd⟩=>⟨k,cc,e1,?_⟩⟩
  obtain ⟨q,q1,q2⟩:=c.cel y cc e1
  rw [ho] at q1; cases q1
  exact ⟨o,st _ _ q2,hd⟩
 ·obtain ⟨v,o,ho,hd⟩:=I.cell x cc e
  obtain ⟨q,q1,q2⟩:=c.cel x cc e
  rw [ho] at q1; cases q1
  exact ⟨v,o,st _ _ q2,hd⟩
 ·have hp':p ∈ X.pn:=by simpa using hp
  obtain ⟨_,p2⟩:=I.pin p hp
  exact ⟨st _ _ (c.pin p hp'),p2⟩
theorem Cov.next (c:Cov X B H s.heap) (st:B.StaysIn h'):Cov X B H h':=⟨fun b o e=>let ⟨q,_,q2⟩:=c.tr b o e; ⟨q,st _ _ q2,q2⟩,fun b o e n=>let ⟨q,_,q2⟩:=c.old b o e n; ⟨q,st _ _ q2,q2⟩,c.pin,fun x cc e=>let ⟨q,_,q2⟩:=c.cel x cc e; ⟨q,st _ _ q2,q2⟩⟩
theorem Inv.notfr (I:Inv X [] σ H s) (d:Df X) {y:Str} {c:Addr} (e:X.env.cells.lookup y = some c):c ∉ frs X.stack:=by
 rw [jcn d]
 intro z
 rcases List.mem_cons.mp z with z | z
 ·exact I.cne y c e z
 ·have:=I.ok.cab y c (d.fn y) e
  obtain ⟨_,o,ho,_⟩:=I.ok.funs.mem z
  exact absurd (Nat.lt_of_lt_of_le (Heap.lt_size ho) this) (Nat.lt_irrefl _)
theorem jpt (I:Inv X [] σ H s) (d:Df X) {x:Addr} (hx:H x = none) (nx:X.s₀.heap.objs.size ≤ x) (px:∀ p ∈ X.pn,p.1 ≠ x) (cx:∀ y c,X.env.cells.lookup y = some c→c ≠ x) :
  Cov X (PySem.W.hideAll s.heap (x :: frs X.stack)) H s.heap∧(PySem.W.hideAll s.heap (x :: frs X.stack)).StaysIn s.heap∧(PySem.W.hideAll s.heap (x :: frs X.stack)).get? x = none∧s.heap.FunFrames (PySem.W.hideAll s.heap (x :: frs X.stack)) X.stack:=by
 have hid:∀ {b o},s.heap.get? b = some o→b ≠ x→b ∉ frs X.stack→(PySem.W.hideAll s.heap (x :: frs X.stack)).get? b = some o:=fun e n1 n2=>PySem.W.hideAll_get _ e fun z=>(List.mem_cons.mp z).elim n1 n2
 refine ⟨⟨fun b o e=>?_,fun b o e nb=>?_,fun p hp=>?_,fun y c e=>?_⟩,fun b o e=>PySem.W.of_hideAll _ e,PySem.W.hideAll_none _ (List.mem_cons_self ..),?_⟩
 ·obtain ⟨q,g⟩:∃ q,s.heap.get? b = some q:=by
   have lt:=I.hok.lt e
   have ok:=I.hok b o e
   cases g:s.heap.get? b with
   | some q=>exact ⟨q,rfl⟩
   | none=>exact absurd g (by
     intro g
     exact (jnc ok).elim fun q z=>by rw [g] at z; cases z)
  exact ⟨q,g,hid g (fun z=>by rw [z,hx] at e; cases e) (fun z=>by rw [I.stkFree b z] at e; cases e)⟩
 ·obtain ⟨q,g⟩:=I.base.there b o e (by rw [d.ex]; exact List.not_mem_nil)
  exact ⟨q,g,hid g (Nat.ne_of_lt (Nat.lt_of_lt_of_le (Heap.lt_size e) nx)) nb⟩
 ·obtain ⟨g,_,nl,nf,_⟩:=I.pin p (by simpa using hp)
  exact hid g (px p hp) (by rw [jcn d]; exact fun z=>(List.mem_cons.mp z).elim nl nf)
 ·obtain ⟨v,o,ho,_⟩:=I.cell y c e
  exact ⟨o,ho,hid ho (cx y c e) (I.notfr d e)⟩
 ·have fu:=I.stack
  have gen:∀ l:List Env,(∀ b ∈ frs l,b ∈ frs X.stack)→s.heap.FunFrames X.base l→s.heap.FunFrames (PySem.W.hideAll s.heap (x :: frs X.stack)) l:=by
   intro l
   induction l with
   | nil=>intro _ _; trivial
   | cons env r ih =>
    intro sub f
    obtain ⟨k,⟨L,o,ef,_,go,no⟩,fr⟩:=f
    have hm:L ∈ frs (env :: r):=by
     show L ∈ List.filterMap _ _
     rw [List.filterMap_cons,ef]
     exact List.mem_cons_self ..
    refine ⟨k,⟨L,o,ef,PySem.W.hideAll_none _ (List.mem_cons_of_mem _ (sub L hm)),go,no⟩,ih (fun b hb=>sub b ?_) fr⟩
    show b ∈ List.filterMap _ _
    rw [List.filterMap_cons]
    split
    ·exact hb
    ·exact List.mem_cons_of_mem _ hb
  exact gen X.stack (fun b hb=>hb) fu
end
inductive Md (B:Heap) (l:List Env) (L x:Addr) (cl:Value) (dd:Option Addr) (h:Heap):Prop where
 | new {ox:Obj} {ws:Array Value}:h.get? x = some ox→ox.cls = cl→ox.dict = dd→ox.data = .fields ws→ws[1]? = some .none→(dd ≠ none→ws[2]? = some .none)→B.StaysIn h→B.get? x = none→h.FunFrames B l→Md B l L x cl dd h
 | fly:FlyD B l x cl dd .none h→Md B l L x cl dd h
 | held:FlyD B l x cl dd (rawInt L) h→Md B l L x cl dd h
def XT (X:Cx) (EX:St→XK):Value→Shared→Prop:=fun e s'=>∃ (x:Addr) (cl:Value) (dd:Option Addr) (σ:St) (H:Hp) (B:Heap),e = .ref x∧Inv X [] σ H s'∧H x = none∧X.s₀.heap.objs.size ≤ x∧Cov X B H s'.heap∧EX σ cl dd H∧Md B X.stack X.env.locals x cl dd s'.heap
def CXE (P:Program) (w:World):CXT:=fun outer H s E e s'=>∃ (x:Addr) (cl:Value) (dd:Option Addr) (H':Hp) (B:Heap),e = .ref x∧s'.os = s.os∧AllBare s'.gens∧Un (frs outer) [] H H' s.heap s'.heap∧HOk P w H' s'.heap ∧
 FlyD B outer x cl dd .none s'.heap∧H' x = none∧s.heap.objs.size ≤ x∧(∀ b o,H' b = some o→∃ q,s'.heap.get? b = some q∧B.get? b = some q)∧(∀ b o,s.heap.get? b = some o→b ∉ frs outer→∃ q,s'.heap.get? b = some q∧B.get? b = some q)∧E cl dd H'
def Cx.tr (X:Cx) (pins:List (Addr × Obj)) (EX:St→XK):Cx:={ X with pn:=X.pn ++ pins,xe:=XT { X with pn:=X.pn ++ pins } EX }
theorem Cx.Ok.pn {X:Cx} (ok:X.Ok) (pn:List (Addr × Obj)) (E:Value→Shared→Prop):({ X with pn:=pn,xe:=E }:Cx).Ok :=
 ⟨ok.mod,ok.kind,ok.glob,ok.blt,ok.above,ok.inj,ok.has,ok.cab,ok.hd,ok.frames,ok.stk,ok.exf,ok.bs,ok.bsz,ok.noex,ok.exfs,ok.funs,ok.frf⟩
theorem Inv.tr {X:Cx} {pins:List (Addr × Obj)} {σ:St} {H:Hp} {s:Shared} (I:Inv X pins σ H s) (EX:St→XK):Inv (X.tr pins EX) [] σ H s :=
 ⟨I.ok.pn _ _,I.os,I.bare,I.base,I.loc,I.cell,I.free,I.freeC,fun p hp=>I.pin p (by
  have:p ∈ (X.pn ++ pins) ++ []:=hp
  simpa using this),I.hok,I.len⟩
theorem Inv.untr {X:Cx} {pins:List (Addr × Obj)} {σ:St} {H:Hp} {s:Shared} {EX:St→XK} (I:Inv (X.tr pins EX) [] σ H s) (ok:X.Ok):Inv X pins σ H s :=
 ⟨ok,I.os,I.bare,I.base,I.loc,I.cell,I.free,I.freeC,fun p hp=>I.pin p (by
  show p ∈ (X.pn ++ pins) ++ []
  simpa using hp),I.hok,I.len⟩
theorem Inv.nopins {X:Cx} {pins:List (Addr × Obj)} {σ:St} {H:Hp} {s:Shared} (I:Inv X pins σ H s):Inv X [] σ H s :=
 ⟨I.ok,I.os,I.bare,I.base,I.loc,I.cell,I.free,I.freeC,fun p hp=>I.pin p (by
  have:p ∈ X.pn:=by simpa using hp
  exact List.mem_append_left _ this),I.hok,I.len⟩
theorem Inv.xe' {X:Cx} {pins:List (Addr × Obj)} {σ:St} {H:Hp} {s:Shared} {E:Value→Shared→Prop} (I:Inv X pins σ H s):Inv { X with xe:=E } pins σ H s:=⟨I.ok.wish E,I.os,I.bare,I.base,I.loc,I.cell,I.free,I.freeC,I.pin,I.hok,I.len⟩
theorem Df.tr {X:Cx} (d:Df X) (pins:List (Addr × Obj)) (EX:St→XK):Df (X.tr pins EX):=⟨d.stk,d.fr,d.ex,d.fn⟩
def jom (CX:CXT) (X:Cx) (EX:St→XK):Prop:=∀ (pins:List (Addr × Obj)) (σ:St) (H:Hp) (s:Shared) (e:Value) (s':Shared),Inv X pins σ H s→CX X.stack H s (EX σ) e s'→X.xe e s'
theorem jfi {X:Cx} (d:Df X) {pins0:List (Addr × Obj)} {EX:St→XK}:jom (CXE X.prog X.w) (X.tr pins0 EX) EX:=by
 intro pins σ H s e s' I h
 obtain ⟨x,cl,dd,H',B,rfl,os,bare,un,hok,fl,hx,nx,c1,c2,q⟩:=h
 obtain ⟨hh,g,dr,t,os'⟩:=s'
 obtain rfl:os' = s.os:=os
 have I0:=I.nopins
 have I2:Inv (X.tr pins0 EX) [] σ H' ⟨hh,g,dr,t,s.os⟩:=I0.call (h':=hh) (g':=g) (d':=dr) (t':=t) (ch:=[]) un hok bare (fun b z=>absurd z (by simp))
 have d':Df (X.tr pins0 EX):=d.tr _ _
 refine ⟨x,cl,dd,σ,H',B,rfl,I2.xe',hx,Nat.le_trans I0.sz nx,⟨c1,fun b o e nb=>?_,fun p hp=>?_,fun y c e=>?_⟩,q,.fly fl⟩
 ·obtain ⟨o1,e1⟩:=I0.base.there b o e (by rw [d'.ex]; exact List.not_mem_nil)
  exact c2 b o1 e1 nb
 ·obtain ⟨g1,_,nl,nf,_⟩:=I0.pin p (List.mem_append_left _ hp)
  obtain ⟨r,r1,r2⟩:=c2 p.1 p.2 g1 (by rw [jcn d']; exact fun z=>(List.mem_cons.mp z).elim nl nf)
  obtain ⟨g2,_⟩:=I2.pin p (List.mem_append_left _ hp)
  rw [show hh.get? p.1 = some p.2 from g2] at r1; cases r1
  exact r2
 ·obtain ⟨v,o,ho,_⟩:=I0.cell y c e
  exact c2 c o ho (I0.notfr d' e)
theorem ownT {X:Cx} (d:Df X) (fr:X.A.frames = some X.stack) {pins0:List (Addr × Obj)} {EX:St→XK}:PassesOwn (model X.prog X.w) X.A X.env (X.tr pins0 EX).xe:=by
 intro e s' h
 obtain ⟨x,cl,dd,σ,H,B,rfl,I,hx,nx,c,q,m⟩:=h
 have d':Df ({ X with pn:=X.pn ++ pins0 }:Cx):=⟨d.stk,d.fr,d.ex,d.fn⟩
 have fr':X.A.frames = some (X.env :: X.outer):=by rw [← d.stk]; exact fr
 have back:∀ h1,FlyD B X.stack x cl dd (rawInt X.env.locals) h1→s'.heap.UpToSlots h1→cameBackBy (model X.prog X.w) X.A X.env (X.tr pins0 EX).xe (.ref x) { s' with heap:=h1 }:=by
  intro h1 f1 u1
  obtain ⟨ox,ws,T,oT,ts,gx,_,_,dx,w1,_⟩:=f1.tr
  show wpAny _ _ (field (.ref x) 1 >>= _) _ _ _
  refine wpAny_bind (wpAny_field gx dx w1 ?_)
  rw [if_neg (by simp)]
  refine jdz (s:={ s' with heap:=h1 }) X.env.frame f1 fun h2 f2 u2=>?_
  rw [d.fr] at f2
  have u:=u1.trans u2
  exact ⟨x,cl,dd,σ,H,B,rfl,I.viaB d' c f2.stays u,hx,nx,c.next f2.stays,q,.held f2⟩
 show wpAny _ _ (noteFrame (.ref x) X.env) _ _ _
 have eqs:∀ l,l = X.stack→l = X.env :: X.outer:=fun l z=>z.trans d.stk
 cases m with
 | new gx c1 c2 dx w1 w2 st nb fu =>
  rw [show ({ X with pn:=X.pn ++ pins0 }:Cx).stack = X.env :: X.outer from d.stk] at fu
  subst c1; subst c2
  refine jne fr' fu d.fr gx st nb dx w1 w2 fun h1 f1 u1=>back h1 (by rw [d.stk]; exact f1) u1
 | fly f =>
  rw [show ({ X with pn:=X.pn ++ pins0 }:Cx).stack = X.env :: X.outer from d.stk] at f
  exact jqy fr' d.fr f fun h1 f1 u1=>back h1 (by rw [d.stk]; exact f1) u1
 | held f=>exact jey d.fr f (back s'.heap f (Heap.UpToSlots.refl _))
theorem leaveT {X:Cx} (d:Df X) (fr:X.A.frames = some X.stack) {EX:St→XK} {E:XK} (hE:∀ σ cl dd H,EX σ cl dd H→E cl dd H) {e:Value} {s':Shared} {E':Value→Shared→Prop} (h:XT X EX e s') :
  wpAny (model X.prog X.w) X.A (leaving X.env e) (fun _ s''=>CXE X.prog X.w X.outer X.H₀ X.s₀ E e s'') E' s':=by
 obtain ⟨x,cl,dd,σ,H,B,rfl,I,hx,nx,c,q,m⟩:=h
 have fr':X.A.frames = some (X.env :: X.outer):=by rw [← d.stk]; exact fr
 have fin:∀ h1,FlyD B X.outer x cl dd .none h1→s'.heap.UpToSlots h1→CXE X.prog X.w X.outer X.H₀ X.s₀ E (.ref x) { s' with heap:=h1 }:=by
  intro h1 f1 u1
  have J:=I.viaB d c f1.stays u1
  have c':=c.next f1.stays
  have un:=J.base
  rw [d.ex] at un
  refine ⟨x,cl,dd,H,B,rfl,J.os,J.bare,un,J.hok,f1,hx,nx,c'.tr,fun b o e nb=>c'.old b o e ?_,hE _ _ _ _ q⟩
  rw [jcn d]
  exact fun z=>(List.mem_cons.mp z).elim (Nat.ne_of_lt (Nat.lt_of_lt_of_le (Heap.lt_size e) J.ok.above)) nb
 cases m with
 | new gx c1 c2 dx w1 w2 st nb fu =>
  rw [d.stk] at fu
  subst c1; subst c2
  exact jr3 fr' fu d.fr gx st nb dx w1 w2 fun h1 f1 u1=>fin h1 f1 u1
 | fly f =>
  rw [d.stk] at f
  exact leaveD fr' d.fr f fun h1 f1 u1=>fin h1 f1 u1
 | held f =>
  rw [d.stk] at f
  exact jr2 d.fr f fun h1 f1 u1=>fin h1 f1 u1
end L2
namespace L2
open PySem PySem.Spec PyProof.Rows
section
variable {X:Cx} {CX:CXT} {k:Nat} {f:Addr} {fd:FuncData} {ps:List Str} {sp:Sp} {EX:St→XK} {x:Str} {p pos:Pos} {e:Expr} {es:List Expr} {t:TA} {ds:List Value} {dvs:List V}
def jel (sp:Sp) (dvs:List V) (EX:St→XK) (t:TA):TE:=fun σ H Q=>t σ H fun vs H1=>sp (vs ++ dvs) H1 Q (EX σ)
theorem jbj (F:FnOk X.prog X.w X.K X.mg X.base CX k f fd ps sp) (hr:Room k X.A) (hg:Gl X x) (hm:X.mg x = some (.ref f)) (hk:PySem.W.keepIn X.K (.ref f) = true) (hb:jfr X.K fd ps ds) (hd:Vals dvs ds) (hx:jom CX X EX)
  (ha:PA X (e :: es) t) (hdb:(x == ("__debug__":Str)) = false:=by decide) (he:starEach (e :: es) X.env = (false,eval e X.env) :: starEach es X.env:=by rfl) (hpl:(backTo pos (starEach es X.env)).any (·.1) = false:=by rfl) :
  PE X (.Call (.Name x p) (e :: es) [] pos) (jel sp dvs EX t):=by
 intro pins s σ H Q I h
 refine wpAny_Call_Name_kw (jdy I hg hm ?_ hdb)
 refine PySem.W.callWith_K (h₀:=X.base) I.ok.mod.kin hk (thn (ha pos pins s σ H _ I h) fun us s1 ⟨vs,H1,I1,r,q⟩=>⟨I1.kIn,?_⟩) he hpl
 have r2:Vals (vs ++ dvs) (us ++ ds):=r.append hd
 have hl:(us ++ ds).length = ps.length:=by rw [← r2.length]; exact F.len _ _ _ _ q
 refine wpAny_call (codeAny_mono (F.run X.A X.stack s1 H1 ⟨us,[]⟩ (us ++ ds) (vs ++ dvs) Q (EX σ) hr I1.env0 (hb s1 us I1.kIn hl) r2 q) fun rr s' hq=>?_)
 cases rr with
 | error e=>exact hx pins σ H1 s1 e s' I1 hq
 | ok fl =>
  cases fl with
  | ret u=>exact I1.after hq
  | next=>exact False.elim hq
  | brk=>exact False.elim hq
  | cont=>exact False.elim hq
end
theorem Inv.tr0 {X:Cx} {pins:List (Addr × Obj)} {σ:St} {H:Hp} {s:Shared} (I:Inv X pins σ H s) (EX:St→XK):Inv (X.tr [] EX) pins σ H s :=
 ⟨I.ok.pn _ _,I.os,I.bare,I.base,I.loc,I.cell,I.free,I.freeC,fun p hp=>I.pin p (by
  have:p ∈ (X.pn ++ []) ++ pins:=hp
  simpa using this),I.hok,I.len⟩
theorem Inv.untr0 {X:Cx} {pins:List (Addr × Obj)} {σ:St} {H:Hp} {s:Shared} {EX:St→XK} (I:Inv (X.tr [] EX) pins σ H s) (ok:X.Ok):Inv X pins σ H s :=
 ⟨ok,I.os,I.bare,I.base,I.loc,I.cell,I.free,I.freeC,fun p hp=>I.pin p (by
  show p ∈ (X.pn ++ []) ++ pins
  simpa using hp),I.hok,I.len⟩
theorem SP.untr0 {X:Cx} {pins:List (Addr × Obj)} {EX:St→XK} {D:Ends} {fl:Flow} {s':Shared} (ok:X.Ok) (h:SP (X.tr [] EX) pins D fl s'):SP X pins D fl s':=by
 cases fl with
 | ret u=>obtain ⟨v,σ',H',J,r,q⟩:=h; exact ⟨v,σ',H',J.untr0 ok,r,q⟩
 | next=>obtain ⟨σ',H',J,q⟩:=h; exact ⟨σ',H',J.untr0 ok,q⟩
 | brk=>obtain ⟨σ',H',J,q⟩:=h; exact ⟨σ',H',J.untr0 ok,q⟩
 | cont=>obtain ⟨σ',H',J,q⟩:=h; exact ⟨σ',H',J.untr0 ok,q⟩
section
variable {P:Program} {w:World} {K:PySem.W.Frag} {mg:Str→Option Value} {base:Heap}
theorem df_of (CX:CXT) (N:List Str) (qual:Str) (sc:Scope) (f:Addr) (cd:Value) (A:Around) (outer:List Env) (s:Shared) (H:Hp) (E:XK):Df (cxOf CX P w K mg base N qual sc f cd A outer s H E):=⟨rfl,rfl,rfl,fun _=>rfl⟩
theorem Fun.okX {x qual:Str} {st:Stmt} {f:Addr} {fd:FuncData} {N ps:List Str} {k:Nat} {sp:Sp} (F:Fun K x qual st f fd) (S:FnScope N ps (ja8 st)) (len:∀ vs H Q E,sp vs H Q E→vs.length = ps.length)
  (hbody:∀ (cdv:Value) (A:Around) (outer:List Env) (s:Shared) (H:Hp) (vs:List V) (Q:VK) (E:XK),Room k (A.deeper (envOfC qual (ja8 st) s.heap.objs.size f cdv))→sp vs H Q E →
   ∃ t,PSs ((cxOf (CXE P w) P w K mg base N qual (ja8 st) f cdv A outer s H E).tr [] fun _=>E) (jc4 st) t∧t { nx:=fun _ H'=>Q .non H',rt:=Q } (jd8 N vs) H):FnOk P w K mg base (CXE P w) (k + 1) f fd ps sp:=by
 obtain ⟨oc,od,kV,doc,pm,an,cdv,ct,osl,rfl,lk,hcd⟩:=F.ex
 refine fn_of lk hcd S len fun A outer s H vs Q E hr hsp=>?_
 obtain ⟨t,h,q⟩:=hbody cdv A outer s H vs Q E hr hsp
 refine ⟨t,fun pins s1 σ H1 D I hw=>?_,q⟩
 refine wpAny_mono (h pins s1 σ H1 D (I.tr0 _) hw) (fun fl s2 z=>z.untr0 I.ok) fun e s2 z=>?_
 have d:=df_of (P:=P) (w:=w) (K:=K) (mg:=mg) (base:=base) (CXE P w) N qual (ja8 st) f cdv A outer s H E
 have z':XT (cxOf (CXE P w) P w K mg base N qual (ja8 st) f cdv A outer s H E) (fun _=>E) e s2:=z
 exact leaveT (EX:=fun _=>E) (E:=E) d I.ok.frames (fun _ _ _ _ q=>q) z'
end
theorem jnd {K:PySem.W.Frag} {h:Heap} {N:Addr} {mN:Str→Option Value} {n:Str} {v:Value} (X:K.In h) (G:h.Ns N mN) (e:PySem.W.nsIn K N n = some (some v)):mN n = some v:=by
 obtain ⟨o,es,ep,ho,hd,_,hf⟩:=G
 unfold PySem.W.nsIn at e
 split at e
 ·rename_i c d es' n' sl q
  have z:=X _ _ q
  rw [ho] at z
  cases z
  cases hd
  split at e
  ·rename_i en he
   cases e
   rw [← hf]
   unfold nsFind findBy
   rw [← Array.find?_toList,he]
   rfl
  ·split at e <;> cases e
 ·cases e
def jhd (K:PySem.W.Frag) (C:Addr) (bmB:List Value) (newId:String) (fI:Addr):Bool:=match K.lookup C with
 | some ⟨.type "type",_,.cls cd,sl⟩=>(match cd.mro,sl.toList with
  | .ref C' :: bm,[_,_,_,_,some (.builtin n),_]=>C' == C && n == newId && !cd.hasDel && cd.hasDict && PySem.W.tailIn K bmB bm && PySem.W.nsOkIn K cd.ns && PySem.W.nsIn K cd.ns "__init__" == some (some (.ref fI))
  | _,_=>false)
 | _=>false
structure XC (C:Addr) (bmB:List Value) (newId:String) (fI:Addr) (h:Heap):Prop where
 ex:∃ (bm:List Value) (N:Addr) (nm q:Str) (bs:List Value) (sn:List Str) (sub:List Value) (ab:Bool) (col:Option Bool) (dd:Option Addr) (k0 k1 k2 k3 k5:Option Value) (mN:Str→Option Value),
  h.get? C = some (excClassObj nm q C N bs bm true sn sub ab col dd k0 k1 k2 k3 k5 newId)∧h.Ns N mN∧mN "__init__" = some (.ref fI)∧OwnTail h bmB bm
theorem joq {K:PySem.W.Frag} {h:Heap} {C fI:Addr} {bmB:List Value} {newId:String} (X:K.In h) (q:jhd K C bmB newId fI = true):XC C bmB newId fI h:=by
 unfold jhd at q
 split at q
 ·rename_i dd cd sl ho
  split at q
  ·rename_i C' bm k0 k1 k2 k3 n k5 hm hs
   simp only [Bool.and_eq_true,beq_iff_eq,Bool.not_eq_true'] at q
   obtain ⟨⟨⟨⟨⟨⟨rfl,rfl⟩,hdel⟩,hdi⟩,ht⟩,hok⟩,hni⟩:=q
   obtain ⟨nm,bs,mro,ns,qn,hd,sn,sub,ab,col,del⟩:=cd
   dsimp only at hm hdel hok hni hdi
   subst hm hdel hdi
   have hsl:sl = #[k0,k1,k2,k3,some (.builtin n),k5]:=by
    obtain ⟨l⟩:=sl
    simp only at hs
    rw [hs]
   subst hsl
   have G:h.Ns ns (h.nsMap ns):=.of_isNs (PySem.W.isNs_of_in X hok)
   exact ⟨bm,ns,nm,qn,bs,sn,sub,ab,col,dd,k0,k1,k2,k3,k5,_,X _ _ ho,G,jnd X G hni,PySem.W.tail_of_in X ht⟩
  ·cases q
 ·cases q
section
variable {prog:Program} {w:World} {A:Around} {E:Value→Shared→Prop} {h:Heap} {g:Array GenState} {d:Drawn} {t:Nat} {os:OsState}
variable {nm q:Str} {C N:Addr} {bs bm bmB:List Value} {hdct:Bool} {sn:List Str} {sub:List Value} {ab:Bool} {col:Option Bool} {dd:Option Addr} {k0 k1 k2 k3 k5:Option Value} {B newId initId:String}
theorem xmake0 (F:ExcBaseFacts B newId initId bmB) (T:OwnTail h bmB bm) {mN:Str→Option Value} {us:List Value} {fI:Addr} {oI:Obj} {Q:Fin→Shared→Prop}
  (hC:h.get? C = some (excClassObj nm q C N bs bm hdct sn sub ab col dd k0 k1 k2 k3 k5 newId)) (hn:h.Ns N mN) (hi:mN "__init__" = some (.ref fI)) (hf:h.get? fI = some oI) (hc:oI.cls = .type "function") (hl:us.length ≤ sizeLine)
  (k:wpAny (model prog w) A (call (.ref fI) (.ref (h.objs.size + 1) :: us)) (fun r s'=>r = .none∧Q (.done (.ret (.ref (h.objs.size + 1)))) s') E
   ⟨(h.push { cls:=.type "tuple",data:=.seq us.toArray }).push { cls:=.ref C,data:=.fields #[.ref h.objs.size,.none,.none,.none,.bool false,.none] },g,d,t,os⟩) :
  wpAny (model prog w) A (Builtin.«type.__call__» ⟨.ref C :: us,[]⟩) Q E ⟨h,g,d,t,os⟩:=by
 repeat (first | with_reducible refine wpAny_loadPart_at hC ?_ | with_reducible refine wpAny_madeBy_exc hC ?_ | wp_step)
 refine codeAny_call_builtin_code (Code.quiet_builtin _ F.quiet) (wpAny_check_new_subT F T hC ?_)
 refine codeAny_exc_new_subT F T hC ?_ hl
 show wpAny _ _ _ _ _ _
 generalize hT:({ cls:=.type "tuple",data:=.seq us.toArray }:Obj) = oT at k ⊢
 generalize hX:({ cls:=.ref C,data:=.fields #[.ref h.objs.size,.none,.none,.none,.bool false,.none] }:Obj) = oX at k ⊢
 have up:∀ b o,h.get? b = some o→((h.push oT).push oX).get? b = some o:=fun b o e=>Heap.get?_push_of_some _ (Heap.get?_push_of_some _ e)
 have gX:((h.push oT).push oX).get? (h.objs.size + 1) = some oX:=Heap.get?_push_at (by rw [Heap.size_push]) (by rw [← hX]; rfl)
 have cX:oX.cls = .ref C:=by rw [← hX]
 have T2:=T.keeps up
 have hC2:=up _ _ hC
 have hn2:=hn.keeps up
 generalize (h.push oT).push oX = h2 at k gX T2 hC2 hn2 up ⊢
 have hcC:(Value.ref C :: bm).contains (.ref C) = true:=by simp
 unfold isInstance
 repeat (first | (with_reducible refine wpAny_loadPart_at gX ?_; rw [cX]) | (with_reducible refine wpAny_isSubtype_exc hC2 ?_; rw [hcC]) | wp_step)
 show wpAny _ _ (typeLookup (.ref C) _) _ _ _
 refine wpAny_typeLookup_tail hC2 hn2 T2 F.mroIs F.init.lookup ?_
 rw [hi]
 refine wpAny_holding (wpAny_bind ?_)
 unfold bindSpecial
 refine wpAny_bind (wpAny_typeOf (T:="function") ⟨_,up _ _ hf,hc⟩ ?_)
 rw [if_pos (by decide)]
 refine wpAny_pure (wpAny_bind (wpAny_mono k (fun r s' hr=>?_) fun _ _ z=>z))
 obtain ⟨rfl,hQ⟩:=hr
 wp_walk
 exact hQ
theorem xmake (F:ExcBaseFacts B newId initId bmB) {us:List Value} {fI:Addr} {oI:Obj} {Q:Value→Shared→Prop} (c:XC C bmB newId fI h) (hf:h.get? fI = some oI) (hc:oI.cls = .type "function") (hl:us.length ≤ sizeLine)
  (k:wpAny (model prog w) (A.under (.builtin "type.__call__" ⟨.ref C :: us,[]⟩)) (call (.ref fI) (.ref (h.objs.size + 1) :: us)) (fun r s'=>r = .none∧Q (.ref (h.objs.size + 1)) s') E
   ⟨(h.push { cls:=.type "tuple",data:=.seq us.toArray }).push { cls:=.ref C,data:=.fields #[.ref h.objs.size,.none,.none,.none,.bool false,.none] },g,d,t,os⟩) :
  wpAny (model prog w) A (call (.ref C) us) Q E ⟨h,g,d,t,os⟩:=by
 obtain ⟨bm,N,nm,q,bs,sn,sub,ab,col,dd,k0,k1,k2,k3,k5,mN,hC,hn,hi,T⟩:=c.ex
 have a1:=tc_lookup
 have a2:=tc_bind (.ref C)
 have ty:(⟨h,g,d,t,os⟩:Shared).TypeIs (.ref C) "type":=⟨_,hC,rfl⟩
 refine wpAny_call (codeAny_of_tree ?_)
 show wpAny _ _ (callAny (.ref C) _) _ _ _
 repeat (any_goals (first | assumption | with_reducible refine wpAny_loadPart_at hC ?_ | wp_step))
 refine ⟨rfl,?_⟩
 exact codeAny_call_builtin_at (Code.quiet_builtin _ (by decide +kernel)) entry_typeCall (wpAny_check_type_call_sub hC (xmake0 F T hC hn hi hf hc hl k))
theorem xraise {M:Model} {s:Shared} {y:Sem Value} {env:Env} {fI:Addr} {Q:Flow→Shared→Prop} (hbase:bmB.contains (.type "BaseException") = true) (hh:A.handled = none)
  (k:wpAny M A y (fun v s1=>∃ e dz a0,v = .ref e∧XC C bmB newId fI s1.heap∧s1.heap.get? e = some { cls:=.ref C,dict:=dz,data:=.fields #[a0,.none,.none,.none,.bool false,.none] }∧E (.ref e) s1) E s):wpAny M A (raiseStmt env (some y) none) Q E s:=by
 unfold raiseStmt
 refine wpAny_bind (wpAny_mono k (fun v s1 h1=>?_) fun _ _ z=>z)
 obtain ⟨e,dz,a0,rfl,c,he,hE⟩:=h1
 obtain ⟨bm,N,nm,q,bs,sn,sub,ab,col,dd,k0,k1,k2,k3,k5,mN,hC,hn,hi,T⟩:=c.ex
 have hcB:(Value.ref C :: bm).contains (.type "BaseException") = true:=by rw [List.contains_cons,T.hasType hbase,Bool.or_true]
 obtain ⟨hp,g,d,tk,os⟩:=s1
 repeat (first | with_reducible refine wpAny_loadPart_at he ?_ | with_reducible refine wpAny_loadPart_at hC ?_ | (with_reducible refine wpAny_isSubtype_exc hC ?_; rw [hcB]) | wp_step)
 exact wpAny_raiseNew_none hh hE
end
end L2
namespace L2
open PySem PySem.Spec PyProof.Rows Builtin Builtin.ObjectAttr
section
variable {prog:Program} {w:World} {A:Around} {E:Value→Shared→Prop} {h:Heap} {g:Array GenState} {d:Drawn} {t:Nat} {os:OsState} {C:Addr} {bmB:List Value} {B newId initId:String}
theorem xinit (F:ExcBaseFacts B newId initId bmB) {x fI:Addr} {dz:Option Addr} {t0:Addr} {us:List Value} {Q:Value→Shared→Prop} (c:XC C bmB newId fI h)
  (he:h.get? x = some { cls:=.ref C,dict:=dz,data:=.fields #[.ref t0,.none,.none,.none,.bool false,.none] }) (hl:us.length ≤ sizeLine)
  (k:∀ h' (t1:Addr),h'.get? x = some { cls:=.ref C,dict:=dz,data:=.fields #[.ref t1,.none,.none,.none,.bool false,.none] }→(∀ b o,b ≠ x→h.get? b = some o→h'.get? b = some o)→h.objs.size ≤ h'.objs.size→Q .none ⟨h',g,d,t,os⟩) :
  wpAny (model prog w) A (call (.builtin initId) (.ref x :: us)) Q E ⟨h,g,d,t,os⟩:=by
 obtain ⟨bm,N,nm,q,bs,sn,sub,ab,col,dd,k0,k1,k2,k3,k5,mN,hC,hn,hi,T⟩:=c.ex
 refine wpAny_call (codeAny_call_builtin F.init.plain F.initEntry (wpAny_check_init_subT F T hC he rfl ?_))
 wp_walk
 refine k _ h.objs.size ?_ (fun b o n e=>?_) ?_
 ·rw [Heap.get?_update_self _ (Heap.get?_push_of_some _ he) rfl]
  rfl
 ·rw [Heap.get?_update_other _ _ (Ne.symm n)]
  exact Heap.get?_push_of_some _ e
 ·first
   | (rw [Heap.size_update,Heap.size_push]; omega)
   | (simp only [Heap.size_push,Heap.size_update]; omega)
end
def jl2:Value→Bool
 | .ref _=>true
 | _=>false
theorem jl2.ex {v:Value} (h:jl2 v = true):∃ a,v = .ref a:=by
 cases v <;> first | exact ⟨_,rfl⟩ | cases h
def jbx (bm:List Value):List Value→Bool
 | []=>false
 | v :: r=>if jl2 v then jbx bm r else v :: r == bm
abbrev bmV:List Value:=[.type "ValueError",.type "Exception",.type "BaseException",.type "object"]
theorem jeq (self:Value):∀ {l:List Value},jbx bmV l = true→refuseLoop self "__setattr__" l = pure ()
 | [],e=>by cases e
 | v :: r,e=>by
  unfold jbx at e
  split at e
  ·rename_i hv
   obtain ⟨c,rfl⟩:=jl2.ex hv
   rw [refuseLoop_ref]
   exact jeq self e
  ·rw [beq_iff_eq.mp e]
   exact PySem.F.store_ValueError.passes self
theorem jks:∀ {l:List Value},jbx bmV l = true→l.contains (.type "object") = true
 | [],e=>by cases e
 | v :: r,e=>by
  unfold jbx at e
  split at e
  ·rw [List.contains_cons,jks e,Bool.or_true]
  ·rw [beq_iff_eq.mp e]; rfl
structure XA (K:PySem.W.Frag) (C:Addr):Prop where
 cd:∃ cd,PySem.W.clsIn K C = some cd∧jbx bmV cd.mro = true∧cd.hasDict = true∧cd.mro.isEmpty = false
 sa:PySem.W.findIn K (.ref C) "__setattr__" = some (some (.builtin "object.__setattr__"))
abbrev xrec (C t0:Addr) (dz:Option Addr):Obj:={ cls:=.ref C,dict:=dz,data:=.fields #[.ref t0,.none,.none,.none,.bool false,.none] }
section
variable {prog:Program} {w:World} {A:Around} {E:Value→Shared→Prop} {s:Shared} {K:PySem.W.Frag} {x C t0:Addr} {dz:Option Addr} {name:Str} {v:Value} {Q:Unit→Shared→Prop}
theorem jhc (X:K.In s.heap) (c:XA K C) {ox:Obj} {od:Option Obj} (I:PySem.W.InstAt s.heap x ox C od) (hf:PySem.W.findIn K (.ref C) name = some none)
  (k:∀ b tk,wpAny (model prog w) A.in1 (storeInOwnDict (.ref x) (.ref C) (.str name tk) name v b) (fun fin s'=>match fin with | .done (.ret _)=>Q () s' | _=>False) E { s with toks:=s.toks + 1 }) :
  wpAny (model prog w) A (setAttr (.ref x) name v) Q E s:=by
 obtain ⟨cd,hc,ho,hdi,ne⟩:=c.cd
 have SF:=PySem.F.store_object
 refine PySem.W.set_plain X I c.sa ?_
 have sub:PySem.W.Looks (model prog w) s.heap (isInstance (.ref x) (.type "object")) true:=I.type.andThen (PySem.W.looks_mroIn X (by unfold PySem.W.mroIn; rw [hc,Option.bind_some,if_neg (by rw [ne]; decide),jks ho]))
 refine codeAny_call_builtin SF.slot.plain SF.entry (@PySem.W.check_slot (model prog w) _ _ { s with toks:=s.toks + 1 } "object.__setattr__" "object" "__setattr__" (.ref x) [.str name s.toks,v] [] _ SF.kind SF.split sub (SF.args (.ref x) (.str name s.toks) v) ?_)
 have hm:PySem.W.Looks (model prog w) s.heap (mroOf (.ref C)) cd.mro:=(PySem.W.looks_clsIn X hc).andThen .now
 rw [PySem.W.osa_eq,refuse_eq]
 refine wpAny_bind (wpAny_bind (PySem.W.Looks.here (s:={ s with toks:=s.toks + 1 }) I.type (wpAny_bind (PySem.W.Looks.here (s:={ s with toks:=s.toks + 1 }) hm ?_))))
 rw [jeq _ ho]
 refine wpAny_pure (wpAny_bind (PySem.W.Looks.here (s:={ s with toks:=s.toks + 1 }) I.type (wpAny_bind (PySem.W.Looks.here (s:={ s with toks:=s.toks + 1 }) (PySem.W.looks_findIn X hf) (wpAny_bind (wpAny_pure ?_))))))
 refine wpAny_mono (k _ _) (fun fin s' z=>?_) fun _ _ z=>z
 rcases fin with (_ | _ | _ | _) | _ <;> first | exact z | exact z.elim
theorem jpy {h:Heap} {g:Array GenState} {d:Drawn} {t:Nat} {os:OsState} {dx:Addr} {tk:Tok} {A:Around} {mA:Str→Option Value} {ns:List Str} {Q:Fin→Shared→Prop} (hn:h.Ns1 dx mA) (hw:Within mA ns) (hz:ns.length ≤ 900)
  (k:∀ h' tk',h'.Ns1 dx (fun y=>if y = name then some v else mA y)→(∀ b,b ≠ dx→h'.get? b = h.get? b)→h.objs.size ≤ h'.objs.size→Q (.done (.ret .none)) ⟨h',g,d,tk',os⟩) :
  wpAny (model prog w) A (storeInDict dx (.str name tk) name v) Q E ⟨h,g,d,t,os⟩:=by
 unfold storeInDict newKeyGuard
 refine wpAny_bind (wpAny_pure (wpAny_bind (wpAny_nsSet1 hn fun h' hn' hs=>?_)))
 obtain ⟨oD,esD,epD,hoD,hdD,hcD⟩:=hn'.count (Within.cons name v hw)
 refine wpAny_bind (wpAny_lookBehind hoD (by rw [hdD]; exact pastItsLine_dict (Nat.le_trans hcD (by rw [List.length_cons,sizeLine_eq]; omega))) ?_)
 wp_walk
 exact k h' _ hn' (fun b n=>hs.2 b n) (by first | exact hs.1 | exact Nat.le_of_eq hs.1.symm | exact Nat.le_of_eq hs.1)
theorem xset0 (X:K.In s.heap) (c:XA K C) (he:s.heap.get? x = some (xrec C t0 none)) (hf:PySem.W.findIn K (.ref C) name = some none)
  (k:∀ h' tk,h'.get? x = some (xrec C t0 (some s.heap.objs.size))→h'.Ns1 s.heap.objs.size (fun y=>if y = name then some v else none)→(∀ b o,b ≠ x→s.heap.get? b = some o→h'.get? b = some o)→s.heap.objs.size ≤ h'.objs.size→Q () { s with heap:=h',toks:=tk }) :
  wpAny (model prog w) A (setAttr (.ref x) name v) Q E s:=by
 refine jhc X c (ox:=xrec C t0 none) (od:=none) ⟨he,rfl,rfl,trivial⟩ hf fun b tk=>?_
 obtain ⟨cd,hc,ho,hdi,ne⟩:=c.cd
 obtain ⟨h,g,d,t,os⟩:=s
 dsimp only at X he k ⊢
 have Lc:PySem.W.Looks (model prog w) h (classData C) cd:=PySem.W.looks_clsIn X hc
 have hxs:x ≠ h.objs.size:=Nat.ne_of_lt (Heap.lt_size he)
 unfold storeInOwnDict ownStreamTells
 refine wpAny_bind (wpAny_pure ?_)
 rw [if_neg (show ¬ (Value.ref C == Value.type "module") = true from fun z=>by cases beq_iff_eq.mp z)]
 refine wpAny_bind ?_
 unfold ownDictForStores instanceDict
 refine wpAny_bind (wpAny_loadPart_at he ?_)
 dsimp only [xrec]
 refine wpAny_bind (PySem.W.Looks.here (s:=⟨h,g,d,t + 1,os⟩) Lc ?_)
 rw [hdi]
 rw [if_neg (by decide),if_neg (by simp [typeHasDict])]
 refine wpAny_bind (wpAny_alloc' ?_)
 refine wpAny_bind (wpAny_update' (Heap.get?_push_of_some _ he) ?_)
 refine wpAny_pure ?_
 have gd:((h.push { cls:=.type "dict",data:=.dict #[] }).update x fun o=>{ cls:=o.cls,dict:=some h.objs.size,data:=o.data,slots:=o.slots }).get? h.objs.size = some { cls:=.type "dict",data:=.dict #[] } :=
  (Heap.get?_update_ne _ _ _ _ hxs.symm).trans (Heap.get?_push_at rfl rfl)
 have gx:((h.push { cls:=.type "dict",data:=.dict #[] }).update x fun o=>{ cls:=o.cls,dict:=some h.objs.size,data:=o.data,slots:=o.slots }).get? x = some (xrec C t0 (some h.objs.size)):=by
  rw [Heap.get?_update_self _ (Heap.get?_push_of_some _ he) rfl]
 have ot:∀ b o,b ≠ x→h.get? b = some o→((h.push { cls:=.type "dict",data:=.dict #[] }).update x fun o=>{ cls:=o.cls,dict:=some h.objs.size,data:=o.data,slots:=o.slots }).get? b = some o:=fun b o n e =>
  (Heap.get?_update_ne _ _ _ _ n).trans (Heap.get?_push_of_some _ e)
 have sz:h.objs.size ≤ ((h.push { cls:=.type "dict",data:=.dict #[] }).update x fun o=>{ cls:=o.cls,dict:=some h.objs.size,data:=o.data,slots:=o.slots }).objs.size:=by
  first | (rw [Heap.size_update,Heap.size_push]; omega) | (simp only [Heap.size_push,Heap.size_update]; omega)
 generalize ((h.push { cls:=.type "dict",data:=.dict #[] }).update x fun o=>{ cls:=o.cls,dict:=some h.objs.size,data:=o.data,slots:=o.slots }) = h2 at gd gx ot sz ⊢
 have nd:h2.Ns h.objs.size (fun _=>none):=⟨_,#[],_,gd,rfl,fun e he=>absurd he (by simp),fun _=>rfl⟩
 refine jpy (Heap.Ns1.of_empty nd) Within.nil (by decide) fun h' tk' n' keep z=>?_
 exact k h' tk' ((keep x hxs).trans gx) n' (fun b o n e=>(keep b (Nat.ne_of_lt (Heap.lt_size e))).trans (ot b o n e)) (Nat.le_trans sz z)
theorem xset1 {dx:Addr} {mA:Str→Option Value} {ns:List Str} (X:K.In s.heap) (c:XA K C) (he:s.heap.get? x = some (xrec C t0 (some dx))) (hn:s.heap.Ns1 dx mA) (hw:Within mA ns) (hz:ns.length ≤ 900) (hne:dx ≠ x) (hf:PySem.W.findIn K (.ref C) name = some none)
  (k:∀ h' tk,h'.Ns1 dx (fun y=>if y = name then some v else mA y)→(∀ b,b ≠ dx→h'.get? b = s.heap.get? b)→s.heap.objs.size ≤ h'.objs.size→Q () { s with heap:=h',toks:=tk }) :
  wpAny (model prog w) A (setAttr (.ref x) name v) Q E s:=by
 obtain ⟨od,es,ep,hod,hdd⟩:=hn
 refine jhc X c (ox:=xrec C t0 (some dx)) (od:=some od) ⟨he,rfl,rfl,hod⟩ hf fun b tk=>?_
 obtain ⟨cd,hc,ho,hdi,ne⟩:=c.cd
 obtain ⟨h,g,d,t,os⟩:=s
 dsimp only at X he k hod ⊢
 have Lc:PySem.W.Looks (model prog w) h (classData C) cd:=PySem.W.looks_clsIn X hc
 unfold storeInOwnDict ownStreamTells
 refine wpAny_bind (wpAny_pure ?_)
 rw [if_neg (show ¬ (Value.ref C == Value.type "module") = true from fun z=>by cases beq_iff_eq.mp z)]
 refine wpAny_bind ?_
 unfold ownDictForStores instanceDict
 refine wpAny_bind (wpAny_loadPart_at he ?_)
 dsimp only [xrec]
 refine wpAny_bind (PySem.W.Looks.here (s:=⟨h,g,d,t + 1,os⟩) Lc ?_)
 rw [hdi]
 rw [if_neg (by decide)]
 refine wpAny_pure ?_
 exact jpy (mA:=mA) ⟨od,es,ep,hod,hdd⟩ hw hz fun h' tk' n' keep z=>k h' tk' n' keep z
end
end L2
namespace L2
open PySem PySem.Spec PyProof.Rows
def exO (a C:Addr) (dd:Option Addr):HO:=.ext fun h=>∃ t0,h.get? a = some (xrec C t0 dd)
def xdO (a:Addr) (fs:List (Str × V)):HO:=.ext fun h=>∃ mA,h.Ns1 a mA∧(∀ f,RelO (fs.lookup f) (mA f))∧Within mA (fs.map (·.1))
section
variable {P:Program} {w:World} {H:Hp} {h:Heap} {a C:Addr} {dd:Option Addr} {fs:List (Str × V)}
theorem jo3 {t0:Addr} (e:h.get? a = some (xrec C t0 dd)):jb2 P w H h a (exO a C dd):=⟨⟨t0,e⟩,⟨_,e⟩,fun _ _ ⟨t,q⟩ k=>⟨t,k _ q⟩⟩
theorem jh2 (e:jb2 P w H h a (exO a C dd)):∃ t0,h.get? a = some (xrec C t0 dd):=e.1
theorem jpz {mA:Str→Option Value} (n:h.Ns1 a mA) (r:∀ f,RelO (fs.lookup f) (mA f)) (wi:Within mA (fs.map (·.1))):jb2 P w H h a (xdO a fs):=by
 obtain ⟨o,es,ep,e,q⟩:=id n
 exact ⟨⟨mA,n,r,wi⟩,⟨o,e⟩,fun _ _ ⟨m,n1,r1,w1⟩ k=>⟨m,n1.at k,r1,w1⟩⟩
theorem jma (e:jb2 P w H h a (xdO a fs)):∃ mA,h.Ns1 a mA∧(∀ f,RelO (fs.lookup f) (mA f))∧Within mA (fs.map (·.1)):=e.1
end
section
variable {X:Cx} {pins:List (Addr × Obj)} {σ:St} {H:Hp} {s:Shared} {h':Heap} {x dx:Addr} {φ:Heap→Prop} {o1 o2:HO} {t':Nat}
theorem Inv.lay2 (I:Inv X pins σ H s) (hx:H x = some (.ext φ)) (hd:s.heap.objs.size ≤ dx) (k:∀ b u,b ≠ x→s.heap.get? b = some u→h'.get? b = some u) (n1:jb2 X.prog X.w (upd (upd H dx o2) x o1) h' x o1) (n2:jb2 X.prog X.w (upd (upd H dx o2) x o1) h' dx o2)
  (e1:∃ u,h'.get? x = some u):Inv X pins σ (upd (upd H dx o2) x o1) { s with heap:=h',toks:=t' }:=by
 have fd:H dx = none:=I.hok.fresh hd
 have nx:∀ b,(∀ ψ,H b ≠ some (.ext ψ))→b ≠ x:=fun b n z=>n φ (by rw [z]; exact hx)
 have nd:∀ b u,s.heap.get? b = some u→b ≠ dx:=fun b u e=>Nat.ne_of_lt (Nat.lt_of_lt_of_le (Heap.lt_size e) hd)
 have ndH:∀ b u,H b = some u→b ≠ dx:=fun b u e z=>by rw [z,fd] at e; cases e
 have keepH:∀ b u,H b = some u→(∀ ψ,u ≠ .ext ψ)→upd (upd H dx o2) x o1 b = some u:=fun b u e n=>by
  rw [ja7 (nx b fun ψ z=>by rw [e] at z; exact n ψ (Option.some.inj z)),ja7 (ndH b u e)]; exact e
 refine I.un ⟨fun b o e n _ _=>k b o (nx b (fun ψ z=>by rw [n] at z; cases z)) e,fun b o e n _ _=>⟨o.slots,k b o (nx b (fun ψ z=>by rw [n] at z; cases z)) e⟩,fun b o e n _=>?_,fun b o e _=>?_,fun b xs e=>keepH b _ e (fun ψ z=>by cases z),fun b o u e=>keepH b _ e (fun ψ z=>by cases z),
  fun b ps e=>⟨#[],by rw [keepH b _ e (fun ψ z=>by cases z)]; simp⟩⟩ fun b u e=>?_
 ·rw [ja7 (nx b (fun ψ z=>by rw [n] at z; cases z)),ja7 (nd b o e)]; exact n
 ·by_cases q:b = x
  ·rw [q]; exact e1
  ·exact ⟨o,k b o q e⟩
 ·by_cases q:b = x
  ·subst q; rw [ja1] at e; cases e; exact n1
  ·rw [ja7 q] at e
   by_cases q2:b = dx
   ·subst q2; rw [ja1] at e; cases e; exact n2
   ·rw [ja7 q2] at e
    refine (I.hok b u e).stay (fun c v hc z=>k c v ?_ z) (fun c z=>keepH c _ z (fun ψ y=>by cases y)) fun c xs z=>keepH c _ z (fun ψ y=>by cases y)
    rcases hc with z | z
    ·rw [z]; exact q
    ·exact nx c fun ψ y=>by rw [z] at y; cases y
end
section
variable {X:Cx} {o value e:Expr} {es:List Expr} {f x:Str} {p pos pos' apos:Pos} {ta tv:TE} {t:TA} {C T:Addr} {bmB:List Value} {B newId initId:String} {fI:Addr}
def sXF (K:PySem.W.Frag) (C:Addr) (ta tv:TE) (f:Str):TS:=fun D σ H=>tv σ H fun y H1=>ta σ H1 fun u H2=>∃ a,u = .ref a ∧
 ((H2 a = some (exO a C none)∧∀ dx,H2 dx = none→dx ≠ a→D.nx σ (upd (upd H2 dx (xdO dx [(f,y)])) a (exO a C (some dx)))) ∨
  ∃ dx fs,H2 a = some (exO a C (some dx))∧H2 dx = some (xdO dx fs)∧dx ≠ a∧fs.length < 900∧D.nx σ (upd H2 dx (xdO dx (putF f y fs))))
theorem jjn (c:XA X.K C) (hf:PySem.W.findIn X.K (.ref C) f = some none) (ha:PE X o ta) (hv:PE X value tv) (hs:swapsWith value (some (.Attribute o f pos')) pos.line X.env = pure false) :
  PS X (.Assign [.Attribute o f pos'] value pos) (sXF X.K C ta tv f):=by
 intro pins s σ H D I h
 refine plainObj_wpAny_Assign_Attribute (thn (hv pins s σ H _ I h) fun u s1 ⟨y,H1,I1,ry,q⟩=>thn (ha pins s1 σ H1 _ I1 q) fun ov s2 ⟨xv,H2,I2,rx,a,ex,q2⟩=>?_) hs
 subst ex
 obtain rfl:ov = Value.ref a:=rx
 rcases q2 with ⟨ea,q2⟩ | ⟨dx,fs,ea,ed,ne,hl,q2⟩
 ·obtain ⟨t0,ga⟩:=jh2 (I2.hok a _ ea)
  refine xset0 I2.kIn c ga hf fun h' tk gx nn kp sz=>?_
  have nd:s2.heap.objs.size ≠ a:=Ne.symm (Nat.ne_of_lt (Heap.lt_size ga))
  refine ⟨σ,_,I2.lay2 (x:=a) (dx:=s2.heap.objs.size) (o1:=exO a C (some s2.heap.objs.size)) (o2:=xdO s2.heap.objs.size [(f,y)]) (t':=tk) ea (Nat.le_refl _) kp (jo3 gx) (jpz nn (fun g=>?_) fun g hg=>?_) ⟨_,gx⟩,q2 _ I2.fresh nd⟩
  ·by_cases e:g = f
   ·subst e; simp only [List.lookup,beq_self_eq_true,if_true]; exact ry
   ·have:(g == f) = false:=by rw [beq_eq_false_iff_ne]; exact e
    simp only [List.lookup,this,if_neg e]
    exact True.intro
  ·by_cases e:g = f
   ·rw [e]; exact List.mem_cons_self ..
   ·exact absurd (if_neg e) hg
 ·obtain ⟨t0,ga⟩:=jh2 (I2.hok a _ ea)
  obtain ⟨mA,n0,r0,w0⟩:=jma (I2.hok dx _ ed)
  refine xset1 I2.kIn c ga n0 w0 (by rw [List.length_map]; omega) ne hf fun h' tk nn kp sz=>?_
  have gd:∃ u,h'.get? dx = some u:=let ⟨o,_,_,e',_⟩:=nn; ⟨o,e'⟩
  refine ⟨σ,_,I2.write (x:=dx) (e:=dx) (t':=tk) (o:=xdO dx (putF f y fs)) (by rw [ed]; exact True.intro) (.inl rfl) (fun b q hb z=>(kp b hb).trans z) gd (jpz nn (fun g=>?_) fun g hg=>?_),q2⟩
  ·rw [jf2]
   by_cases e:g = f
   ·rw [if_pos e,if_pos e]; exact ry
   ·rw [if_neg e,if_neg e]; exact r0 g
  ·by_cases e:g = f
   ·rw [e]; exact (jf6 f y fs).1
   ·refine (jf6 f y fs).2 g (w0 g fun z=>hg ?_)
    rw [if_neg e]; exact z
def tXI (C:Addr) (t:TA):TE:=fun σ H Q=>t σ H fun vs H1=>∃ a rest dd,vs = .ref a :: rest∧H1 a = some (exO a C dd)∧rest.length ≤ sizeLine∧Q .non H1
structure XI (K:PySem.W.Frag) (T:Addr) (initId:String):Prop where
 rd:PySem.W.readsIn K T (.type "type") = true
 sp:PySem.W.specialIn K (.ref T) "__getattribute__" = some (some (.builtin "type.__getattribute__"))
 at_:PySem.W.findCls K (.ref T) (.type "type") "__init__" = some (.val (.builtin initId))
 hd:PySem.W.handedIn (.builtin initId) = true
theorem jkx {pl:Sem Bool} (F:ExcBaseFacts B newId initId bmB) (c:XI X.K T initId) (hC:jhd X.K C bmB newId fI = true) (hg:Gl X x) (hm:X.mg x = some (.ref T)) (ha:PA X (e :: es) t) (hdb:(x == ("__debug__":Str)) = false:=by decide)
  (hst:starEach (e :: es) X.env = (false,eval e X.env) :: starEach es X.env:=by rfl) (hpl:(backTo pos (starEach es X.env)).any (·.1) = false:=by rfl)
  (ht:eval (.Call (.Attribute (.Name x p) "__init__" apos) (e :: es) [] pos) X.env = (do
   let ov ← eval (.Name x p) X.env
   standAt apos.atName
   let (f,first) ← holding [ov] (getMethod ov "__init__" pl)
   callWith pos f first (backTo pos (starEach (e :: es) X.env)) (backToKw pos (keywordEach [] X.env))):=by rfl) :
  PE X (.Call (.Attribute (.Name x p) "__init__" apos) (e :: es) [] pos) (tXI C t):=by
 intro pins s σ H Q I h
 refine PySem.W.methodCall_KW (pl:=pl) (jdy I hg hm ?_ hdb) ht
 refine PySem.W.method_cls I.kIn c.sp (PySem.W.cls_value I.kIn c.rd c.at_ c.hd ?_)
 have I0:=I.tok (s.toks + 1)
 refine PyProof.Rows.callWith_builtin1 (thn (ha pos pins _ σ H _ I0 h) fun us s2 ⟨vs,H2,I2,r,a,rest,dd,ev,ea,hl,q⟩=>?_) hst hpl
 subst ev
 match us,r with
 | u1 :: us,.cons r1 r2 =>
  obtain rfl:u1 = Value.ref a:=r1
  obtain ⟨t0,ga⟩:=jh2 (I2.hok a _ ea)
  obtain ⟨hh,g,d,tk,os⟩:=s2
  have hl2:us.length ≤ sizeLine:=by rw [← r2.length]; exact hl
  refine xinit F (joq I2.kIn hC) ga hl2 fun h' t1 gx kp sz=>?_
  have I3:=I2.write (h':=h') (x:=a) (e:=a) (t':=tk) (o:=exO a C dd) (by rw [ea]; exact True.intro) (.inl rfl) (fun b u n z=>kp b u n z) ⟨_,gx⟩ (jo3 gx)
  have e:upd H2 a (exO a C dd) = H2:=by
   funext b
   by_cases z:b = a
   ·subst z; rw [ja1]; exact ea.symm
   ·rw [ja7 z]
  rw [e] at I3
  exact ⟨.non,H2,I3,rfl,q⟩
end
end L2
namespace L2
open PySem PySem.Spec PyProof.Rows
def del (H:Hp) (x:Addr):Hp:=fun b=>if b = x then none else H b
theorem jh4 {H:Hp} {x:Addr}:del H x x = none:=if_pos rfl
theorem jg7 {H:Hp} {x b:Addr} (n:b ≠ x):del H x b = H b:=if_neg n
theorem jeh {H:Hp} {x b:Addr} (h:H b = none):del H x b = none:=by
 unfold del
 split
 ·rfl
 ·exact h
theorem Inv.drop {X:Cx} {pins:List (Addr × Obj)} {σ:St} {H:Hp} {s:Shared} {x:Addr} {φ:Heap→Prop} (I:Inv X pins σ H s) (hx:H x = some (.ext φ)):Inv X pins σ (del H x) s:=by
 have kp:∀ b u,H b = some u→(∀ ψ,u ≠ .ext ψ)→del H x b = some u:=fun b u e n=>by
  rw [jg7 fun z=>by rw [z,hx] at e; exact n φ (Option.some.inj e).symm]; exact e
 refine ⟨I.ok,I.os,I.bare,⟨I.base.keep,I.base.slot,fun b o e n hb=>jeh (I.base.free b o e n hb),I.base.there,fun b xs e=>kp b _ (I.base.tups b xs e) (fun ψ z=>by cases z),fun b o u e=>kp b _ (I.base.frzs b o u e) (fun ψ z=>by cases z),fun b ps e=>?_⟩,I.loc,I.cell,jeh I.free,fun y c e=>jeh (I.freeC y c e),
  fun p hp=>let ⟨a,b,c⟩:=I.pin p hp; ⟨a,jeh b,c⟩,fun b u e=>?_,I.len⟩
 ·obtain ⟨m,e'⟩:=I.base.tbls b ps e
  exact ⟨m,kp b _ e' (fun ψ z=>by cases z)⟩
 ·have nb:b ≠ x:=fun z=>by rw [z,jh4] at e; cases e
  rw [jg7 nb] at e
  exact (I.hok b u e).stay (fun _ _ _ q=>q) (fun c z=>kp c _ z (fun ψ y=>by cases y)) fun c xs z=>kp c _ z (fun ψ y=>by cases y)
def XO (X:Cx) (EX:St→XK):Prop:=∀ e s',XT X EX e s'→X.xe e s'
theorem jld {Y:Cx} {pins:List (Addr × Obj)} {EX:St→XK}:XO (Y.tr pins EX) EX:=fun e s' ⟨x,cl,dd,σ,H,B,e1,I,hx,nx,c,q,m⟩=>⟨x,cl,dd,σ,H,B,e1,I.xe',hx,nx,⟨c.tr,c.old,c.pin,c.cel⟩,q,m⟩
section
variable {X:Cx} {EX:St→XK} {k:Nat} {fI C:Addr} {fd:FuncData} {ps:List Str} {sp:Sp} {x:Str} {p cpos pos:Pos} {e:Expr} {es:List Expr} {t:TA} {bmB:List Value} {B newId initId:String}
def jdd (C:Addr) (sp:Sp) (EX:St→XK) (t:TA):TS:=fun _ σ H=>t σ H fun vs H1=>vs.length ≤ sizeLine∧∀ a,H1 a = none →
 sp (.ref a :: vs) (upd H1 a (exO a C none)) (fun v H2=>v = .non∧∃ dd,H2 a = some (exO a C dd)∧EX σ (.ref C) dd (del H2 a)) E0
theorem jcv (F:ExcBaseFacts B newId initId bmB) (hC:jhd X.K C bmB newId fI = true) (hfn:PySem.W.typeIn X.K (.ref fI) = some (.type "function")) (G:FnOk X.prog X.w X.K X.mg X.base CX0 k fI fd ps sp) (hb:jfr X.K fd ps []) (hr:Room (k + 1) X.A) (hg:Gl X x)
  (hm:X.mg x = some (.ref C)) (hk:PySem.W.keepIn X.K (.ref C) = true) (d:Df X) (xo:XO X EX) (ha:PA X (e :: es) t) (hdb:(x == ("__debug__":Str)) = false:=by decide)
  (he:starEach (e :: es) X.env = (false,eval e X.env) :: starEach es X.env:=by rfl) (hpl:(backTo cpos (starEach es X.env)).any (·.1) = false:=by rfl) :
  PS X (.Raise (some (.Call (.Name x p) (e :: es) [] cpos)) none pos) (jdd C sp EX t):=by
 intro pins s σ H D I h
 rw [arm_exec_Raise]
 refine wpAny_bind (wpAny_standAt ?_)
 refine xraise (C:=C) (bmB:=bmB) (newId:=newId) (fI:=fI) F.hasBase hr.hd (wpAny_bind (wpAny_mono (wpAny_Call_Name_kw (jdy I hg hm ?_ hdb)) (fun v s3 h3=>wpAny_bind (wpAny_standAt (wpAny_pure h3))) fun _ _ z=>z))
 refine PySem.W.callWith_K (h₀:=X.base) I.ok.mod.kin hk (thn (ha cpos pins s σ H _ I h) fun us s1 ⟨vs,H1,I1,r,hl,q⟩=>⟨I1.kIn,?_⟩) he hpl
 obtain ⟨h,g,dr,tk,os⟩:=s1
 obtain ⟨oI,gI,cI⟩:∃ oI,h.get? fI = some oI∧oI.cls = .type "function":=by
  obtain ⟨o,ho,hc⟩:=Option.map_eq_some_iff.mp (show (X.K.lookup fI).map (·.cls) = some (.type "function") from hfn)
  exact ⟨o,I1.kIn _ _ ho,hc⟩
 have hl2:us.length ≤ sizeLine:=by rw [← r.length]; exact hl
 refine xmake F (joq I1.kIn hC) gI cI hl2 ?_
 have hq:=q (h.objs.size + 1) (I1.hok.fresh (Nat.le_succ _))
 have Ia:=I1.kept (h':=h.push { cls:=.type "tuple",data:=.seq us.toArray }) (t':=tk) (fun b u z=>Heap.get?_push_of_some _ z)
 have gx:((h.push { cls:=.type "tuple",data:=.seq us.toArray }).push (xrec C h.objs.size none)).get? (h.objs.size + 1) = some (xrec C h.objs.size none):=Heap.get?_push_at (by rw [Heap.size_push]) rfl
 have Ib:=Ia.laid (a:=h.objs.size + 1) (o:=exO (h.objs.size + 1) C none) (h':=(h.push { cls:=.type "tuple",data:=.seq us.toArray }).push (xrec C h.objs.size none)) (t':=tk) (fun b u z=>Heap.get?_push_of_some _ z) (Nat.le_of_eq (Heap.size_push _ _)) (jo3 gx)
 have r2:Vals (V.ref (h.objs.size + 1) :: vs) (Value.ref (h.objs.size + 1) :: us):=.cons rfl r
 have hlen:(Value.ref (h.objs.size + 1) :: us).length = ps.length:=by rw [← r2.length]; exact G.len _ _ _ _ hq
 have bd:=hb _ (Value.ref (h.objs.size + 1) :: us) Ib.kIn (by rw [List.append_nil]; exact hlen)
 rw [List.append_nil] at bd
 refine wpAny_call (codeAny_mono (G.run _ X.stack _ _ ⟨Value.ref (h.objs.size + 1) :: us,[]⟩ (Value.ref (h.objs.size + 1) :: us) _ _ E0 (hr.make C us []) (Ib.env0.make C us []) bd r2 hq) fun rr s' hq'=>?_)
 cases rr with
 | error e=>exact jap pins σ _ _ e s' Ib hq'
 | ok fl =>
  cases fl with
  | next=>exact False.elim hq'
  | brk=>exact False.elim hq'
  | cont=>exact False.elim hq'
  | ret u =>
   obtain ⟨v,H2,I3,rv,ev,dd,ea,q3⟩:=Ib.after hq'
   subst ev
   obtain ⟨t0,ga⟩:=jh2 (I3.hok _ _ ea)
   have I4:=(I3.drop ea).nopins
   have px:∀ p ∈ X.pn,p.1 ≠ h.objs.size + 1:=fun p hp=>Nat.ne_of_lt (Nat.lt_succ_of_lt (Heap.lt_size (I1.pin p (List.mem_append_left _ hp)).1))
   have cx:∀ y c,X.env.cells.lookup y = some c→c ≠ h.objs.size + 1:=fun y c e=>by
    obtain ⟨v,o,ho,_⟩:=I1.cell y c e
    exact Nat.ne_of_lt (Nat.lt_succ_of_lt (Heap.lt_size ho))
   have nx:X.s₀.heap.objs.size ≤ h.objs.size + 1:=Nat.le_succ_of_le I1.sz
   obtain ⟨cv,st,nb,fu⟩:=jpt I4 d jh4 nx px cx
   refine ⟨rv,h.objs.size + 1,dd,.ref t0,rfl,joq I3.kIn hC,ga,xo _ _ ⟨h.objs.size + 1,.ref C,dd,σ,_,_,rfl,I4,jh4,nx,cv,q3,.new ga rfl rfl rfl rfl (fun _=>rfl) st nb fu⟩⟩
end
end L2
namespace L2
open PySem PySem.Spec PyProof.Rows
def caO (a:Addr) (cl:Value) (dd:Option Addr):HO:=.ext fun h=>∃ o ws,h.get? a = some o∧o.cls = cl∧o.dict = dd∧o.data = .fields ws
theorem caO_ok {P:Program} {w:World} {H:Hp} {h:Heap} {a:Addr} {cl:Value} {dd:Option Addr} {o:Obj} {ws:Array Value} (e:h.get? a = some o) (h1:o.cls = cl) (h2:o.dict = dd) (h3:o.data = .fields ws):jb2 P w H h a (caO a cl dd) :=
 ⟨⟨o,ws,e,h1,h2,h3⟩,⟨o,e⟩,fun _ _ ⟨o,ws,e,q⟩ k=>⟨o,ws,k _ e,q⟩⟩
theorem jrf {P:Program} {w:World} {H:Hp} {h:Heap} {a:Addr} {cl:Value} {dd:Option Addr} (e:jb2 P w H h a (caO a cl dd)):∃ o ws,h.get? a = some o∧o.cls = cl∧o.dict = dd∧o.data = .fields ws:=e.1
section
variable {X:Cx} {pins:List (Addr × Obj)} {σ:St} {H:Hp} {s:Shared} {x:Addr} {o:HO}
theorem Inv.adopt (I:Inv X pins σ H s) (hx:H x = none) (nx:X.s₀.heap.objs.size ≤ x) (nl:X.env.locals ≠ x) (nc:∀ y c,X.env.cells.lookup y = some c→c ≠ x) (np:∀ p ∈ X.pn ++ pins,p.1 ≠ x) (new:jb2 X.prog X.w (upd H x o) s.heap x o) :
  Inv X pins σ (upd H x o) s:=by
 have kp:∀ b u,H b = some u→upd H x o b = some u:=fun b u e=>by rw [ja7 fun z=>by rw [z,hx] at e; cases e]; exact e
 refine ⟨I.ok,I.os,I.bare,⟨I.base.keep,I.base.slot,fun b o e n hb=>?_,I.base.there,fun b xs e=>kp b _ (I.base.tups b xs e),fun b o u e=>kp b _ (I.base.frzs b o u e),fun b ps e=>?_⟩,I.loc,I.cell,(by rw [ja7 nl]; exact I.free),fun y c e=>by rw [ja7 (nc y c e)]; exact I.freeC y c e,
  fun p hp=>let ⟨a,b,c⟩:=I.pin p hp; ⟨a,by rw [ja7 (np p hp)]; exact b,c⟩,fun b u e=>?_,I.len⟩
 ·rw [ja7 (Nat.ne_of_lt (Nat.lt_of_lt_of_le (Heap.lt_size e) nx))]; exact I.base.free b _ e n hb
 ·obtain ⟨m,e'⟩:=I.base.tbls b ps e
  exact ⟨m,kp b _ e'⟩
 ·by_cases q:b = x
  ·subst q; rw [ja1] at e; cases e; exact new
  ·rw [ja7 q] at e
   exact (I.hok b u e).stay (fun _ _ _ q=>q) (fun c z=>kp c _ z) fun c xs z=>kp c _ z
theorem jgw {M:Model} {A:Around} {E:Value→Shared→Prop} {i:Nat} {n:Str} {pos:Pos} {Q:Unit→Shared→Prop} (I:Inv X pins σ H s) (hN:X.N.Nodup) (hi:X.N[i]? = some n) (hk:X.env.scope.names.lookup n = some .local)
  (h:∀ s',Inv X pins (σ.set i none) H s'→Q () s'):wpAny M A (do bindName X.env n .none; unbindBehindTheSuite X.env n pos) Q E s:=by
 obtain ⟨m,hn,hl⟩:=id I.loc
 have hcls:(X.env.scope.kind == .class || (X.env.scope.kind == .module && X.env.locals != X.env.globals)) = false:=by rw [I.ok.kind]; rfl
 obtain ⟨oL,_,_,hoL,_⟩:=id hn
 have ab:∀ {b o},X.s₀.heap.get? b = some o→b ≠ X.env.locals:=fun e=>Nat.ne_of_lt (Nat.lt_of_lt_of_le (Heap.lt_size e) I.ok.above)
 refine wpAny_nameGoes_keeps hk hn hcls fun h' v hn' hs=>?_
 refine h _ ⟨I.ok,I.os,I.bare,⟨fun b o e n hb hx=>(hs.2 b (ab e)).trans (I.base.keep b o e n hb hx),fun b o e n hb hx=>?_,I.base.free,fun b o e hx=>?_,I.base.tups,I.base.frzs,I.base.tbls⟩,⟨_,hn',fun j y v' e1 e2 e3=>?_⟩,fun y c e=>?_,I.free,I.freeC,fun p hp=>?_,fun b ob e=>?_,by simpa using I.len⟩
 ·obtain ⟨sl,e1⟩:=I.base.slot b o e n hb hx
  exact ⟨sl,(hs.2 b (ab e)).trans e1⟩
 ·obtain ⟨o',e1⟩:=I.base.there b o e hx
  exact ⟨o',(hs.2 b (ab e)).trans e1⟩
 ·have hj:j ≠ i:=fun z=>by
   subst z
   rw [List.getElem?_set_self (by rw [I.len]; exact (List.getElem?_eq_some_iff.mp hi).1)] at e2
   cases e2
  rw [List.getElem?_set_ne (Ne.symm hj)] at e2
  obtain ⟨u',r',q⟩:=hl j y v' e1 e2 e3
  refine ⟨u',r',?_⟩
  rcases q with ⟨k,e⟩ | ⟨k,c,e,z⟩
  ·refine .inl ⟨k,?_⟩
   have:y ≠ n:=fun e=>hj (jgr hN e1 (e ▸ hi))
   simp [this,e]
  ·exact .inr ⟨k,c,e,z.sameBut hs (I.cne y c e)⟩
 ·obtain ⟨v0,z⟩:=I.cell y c e
  exact ⟨v0,z.sameBut hs (I.cne y c e)⟩
 ·obtain ⟨g,q,ne,r⟩:=I.pin p hp
  exact ⟨(hs.2 p.1 ne).trans g,q,ne,r⟩
 ·refine (I.hok b ob e).stay (fun c w' hc q=>(hs.2 c ?_).trans q) (fun _ q=>q) fun _ _ q=>q
  rintro rfl
  rcases hc with rfl | hc
  ·rw [I.free] at e; cases e
  ·rw [I.free] at hc; cases hc
end
def Cx.hnd (X:Cx) (x:Addr):Cx:={ X with A:=X.A.mark (some (.ref x)),calm:=false,xe:=fun _ _=>False }
theorem Cx.Ok.hnd {X:Cx} (ok:X.Ok) (x:Addr):(X.hnd x).Ok:=⟨ok.mod,ok.kind,ok.glob,ok.blt,ok.above,ok.inj,ok.has,ok.cab,(fun z=>by cases z),ok.frames,ok.stk,ok.exf,ok.bs,ok.bsz,ok.noex,ok.exfs,ok.funs,ok.frf⟩
theorem Inv.toHnd {X:Cx} {pins:List (Addr × Obj)} {σ:St} {H:Hp} {s:Shared} (I:Inv X pins σ H s) (x:Addr):Inv (X.hnd x) pins σ H s:=⟨I.ok.hnd x,I.os,I.bare,I.base,I.loc,I.cell,I.free,I.freeC,I.pin,I.hok,I.len⟩
theorem Inv.unHnd {X:Cx} {pins:List (Addr × Obj)} {σ:St} {H:Hp} {s:Shared} {x:Addr} (I:Inv (X.hnd x) pins σ H s) (ok:X.Ok):Inv X pins σ H s:=⟨ok,I.os,I.bare,I.base,I.loc,I.cell,I.free,I.freeC,I.pin,I.hok,I.len⟩
theorem Inv.pn2 {X:Cx} {pins:List (Addr × Obj)} {σ:St} {H:Hp} {s:Shared} (I:Inv ({ X with pn:=X.pn ++ pins }:Cx) [] σ H s) (ok:X.Ok):Inv X pins σ H s :=
 ⟨ok,I.os,I.bare,I.base,I.loc,I.cell,I.free,I.freeC,fun p hp=>I.pin p (by
  show p ∈ (X.pn ++ pins) ++ []
  simpa using hp),I.hok,I.len⟩
def Mch (K:PySem.W.Frag) (C:Addr) (cl:Value):Prop:=∀ (prog:Program) (w:World) (A:Around) (E:Value→Shared→Prop) (s:Shared) (e:Addr) (o:Obj) (Q:Bool→Shared→Prop),K.In s.heap→s.heap.get? e = some o→o.cls = cl→Q true s→wpAny (model prog w) A (excMatches (.ref e) (.ref C)) Q E s
theorem jpe {K:PySem.W.Frag} {C fI:Addr} {bmB:List Value} {newId:String} (q:jhd K C bmB newId fI = true) (hb:bmB.contains (.type "BaseException") = true):Mch K C (.ref C):=by
 intro prog w A E s e o Q X he hc k
 obtain ⟨bm,N,nm,q,bs,sn,sub,ab,col,dd,k0,k1,k2,k3,k5,mN,hC,hn,hi,T⟩:=(joq X q).ex
 obtain ⟨h,g,d,t,os⟩:=s
 exact wpAny_excMatches_sub_self hC he hc (T.hasType hb) k
def Ends.unb (D:Ends) (i:Nat):Ends:={ nx:=fun σ H=>D.nx (σ.set i none) H,rt:=D.rt,bk:=fun σ H=>D.bk (σ.set i none) H,ct:=fun σ H=>D.ct (σ.set i none) H }
def tTry (mt:Value→Prop) (i:Nat) (tb:(St→XK)→TS) (th:TS):TS:=fun D σ H=>tb (fun σ' cl dd H'=>mt cl∧∀ x,H' x = none→th (D.unb i) (σ'.set i (some (.ref x))) (upd H' x (caO x cl dd))) D σ H
section
variable {X:Cx} {x n:Str} {np hpos pos:Pos} {body suite:List Stmt} {b0:Stmt} {C:Addr} {mt:Value→Prop} {i:Nat} {tb:(St→XK)→TS} {th:TS}
theorem jp5 (d:Df X) (hN:X.N.Nodup) (hi:X.N[i]? = some n) (hk:X.env.scope.names.lookup n = some .local) (hg:Gl X x) (hm:X.mg x = some (.ref C)) (hM:∀ cl,mt cl→Mch X.K C cl)
  (hb:∀ pins EX,PSs (X.tr pins EX) body (tb EX)) (hs:∀ a,PSs (X.hnd a) (b0 :: suite) th) (hdb:(x == ("__debug__":Str)) = false:=by decide) :
  PS X (.Try body [.ExceptHandler (some (.Name x np)) (some n) (b0 :: suite) hpos] [] [] pos) (tTry mt i tb th):=by
 intro pins s σ H D I h
 have d':Df ({ X with pn:=X.pn ++ pins }:Cx):=⟨d.stk,d.fr,d.ex,d.fn⟩
 have fr':X.A.frames = some (X.env :: X.outer):=by rw [← d.stk]; exact I.ok.frames
 refine wpAny_Try_except (wpAny_mono (hb pins _ [] s σ H D (I.tr _) h) (fun f s1 hf=>?_) fun e s1 hx=>?_)
 ·cases f with
  | next =>
   obtain ⟨σ',H',J,q⟩:=hf
   exact jah pins s1 σ' H' D (J.untr I.ok) q
  | ret u=>obtain ⟨v,σ',H',J,r,q⟩:=hf; exact ⟨v,σ',H',J.untr I.ok,r,q⟩
  | brk=>obtain ⟨σ',H',J,q⟩:=hf; exact ⟨σ',H',J.untr I.ok,q⟩
  | cont=>obtain ⟨σ',H',J,q⟩:=hf; exact ⟨σ',H',J.untr I.ok,q⟩
 ·obtain ⟨a,cl,dd,σ1,H1,B,rfl,J,hxn,nx,c,⟨hmt,q⟩,m⟩:=hx
  have go:∀ h2,FlyD B X.stack a cl dd (rawInt X.env.locals) h2→s1.heap.UpToSlots h2→wpAny (model X.prog X.w) X.A (setFlight (.ref a) none) (fun _ s3=>wpAny (model X.prog X.w) X.A (handleBy (.ref a) X.env [.ExceptHandler (some (.Name x np)) (some n) (b0 :: suite) hpos]) (SP X pins D) X.xe s3) X.xe { s1 with heap:=h2 }:=by
   intro h2 f2 u2
   refine jdz (s:={ s1 with heap:=h2 }) none f2 fun h3 f3 u3=>?_
   have J3:=(J.viaB d' c f3.stays (u2.trans u3)).pn2 I.ok
   have c3:=c.next f3.stays
   refine wpAny_handleBy_cons (codeAny_handlers_test (jdy (X:=X.hnd a) (J3.toHnd a) hg hm ?_ hdb)) (by intro z; cases z)
   obtain ⟨ox,ws,gx,cx,dx,ex⟩:=f3.there
   refine hM cl hmt _ _ _ _ _ a ox _ J3.kIn gx cx (codeAny_handlers_suite_as ?_)
   refine jdz (s:={ s1 with heap:=h3 }) none f3 fun h4 f4 u4=>?_
   have J4:=(J.viaB d' c f4.stays ((u2.trans u3).trans u4)).pn2 I.ok
   obtain ⟨ox,ws,gx,cx,dx,ex⟩:=f4.there
   have nl:X.env.locals ≠ a:=fun z=>by
    obtain ⟨m,⟨o,es,ep,ho,hd,_⟩,_⟩:=J4.loc
    rw [z] at ho
    rw [show h4.get? a = some ox from gx] at ho
    cases ho
    rw [ex] at hd
    cases hd
   have J5:=J4.adopt (x:=a) (o:=caO a cl dd) hxn nx nl (fun y cc e z=>by
    obtain ⟨q1,_,q2⟩:=c.cel y cc e
    rw [z,f4.new] at q2
    cases q2) (fun p hp z=>by
    have:=c.pin p hp
    rw [z,f4.new] at this
    cases this) (caO_ok gx cx dx ex)
   refine jea (X:=X) (A:=(X.hnd a).A) J5 hN hi (.inl hk) (v:=.ref a) rfl (fun s6 J6=>?_) (.inr hk)
   refine wpAny_mono (hs a pins s6 _ _ (D.unb i) (J6.toHnd a) (q a hxn)) (fun f s7 hf=>?_) fun _ _ z=>z.elim
   cases f with
   | next =>
    obtain ⟨σ',H',J7,q7⟩:=hf
    exact jgw (J7.unHnd I.ok) hN hi hk fun s8 J8=>⟨_,_,J8,q7⟩
   | ret u =>
    obtain ⟨v,σ',H',J7,r,q7⟩:=hf
    exact jgw (J7.unHnd I.ok) hN hi hk fun s8 J8=>⟨v,_,_,J8,r,q7⟩
   | brk =>
    obtain ⟨σ',H',J7,q7⟩:=hf
    exact jgw (J7.unHnd I.ok) hN hi hk fun s8 J8=>⟨_,_,J8,q7⟩
   | cont =>
    obtain ⟨σ',H',J7,q7⟩:=hf
    exact jgw (J7.unHnd I.ok) hN hi hk fun s8 J8=>⟨_,_,J8,q7⟩
  cases m with
  | new gx c1 c2 dx w1 w2 st nb fu =>
   rw [show ({ X with pn:=X.pn ++ pins }:Cx).stack = X.env :: X.outer from d.stk] at fu
   subst c1; subst c2
   exact jne fr' fu d.fr gx st nb dx w1 w2 fun h1 f1 u1=>go h1 (by rw [d.stk]; exact f1) u1
  | fly f =>
   rw [show ({ X with pn:=X.pn ++ pins }:Cx).stack = X.env :: X.outer from d.stk] at f
   exact jqy fr' d.fr f fun h1 f1 u1=>go h1 (by rw [d.stk]; exact f1) u1
  | held f=>exact jey d.fr f (go s1.heap f (Heap.UpToSlots.refl _))
end
end L2
namespace L2
open PySem PySem.Spec PyProof.Rows
section
variable {X:Cx} {C dx a:Addr} {fs:List (Str × V)} {H:Hp} {s:Shared}
theorem xinst {pins:List (Addr × Obj)} {σ:St} (I:Inv X pins σ H s) (ea:H a = some (caO a (.ref C) (some dx))) (ed:H dx = some (xdO dx fs)):∃ (ox od:Obj) (mA:Str→Option Value),PySem.W.InstAt s.heap a ox C (some od)∧(∀ f,RelO (fs.lookup f) (mA f))∧∀ f,PySem.W.lookIn f od = some (mA f):=by
 obtain ⟨o,ws,go,c1,c2,c3⟩:=jrf (I.hok a _ ea)
 obtain ⟨mA,n,r,_⟩:=jma (I.hok dx _ ed)
 obtain ⟨od,gd,hl⟩:=jil n
 refine ⟨o,od,mA,⟨go,c1,?_,?_⟩,r,hl⟩
 ·unfold PySem.W.notCls
  rw [c3]
 ·rw [c2]
  exact gd
end
end L2
namespace L2
open PySem PySem.Spec PyProof.Rows Builtin Builtin.ObjectAttr
structure XG (K:PySem.W.Frag) (C:Addr):Prop where
 ga:PySem.W.findIn K (.ref C) "__getattribute__" = some (some (.builtin "BaseException.__getattribute__"))
 gt:PySem.W.findIn K (.ref C) "__getattr__" = some none
 sub:PySem.W.mroIn K C (.type "BaseException") = some true
section
variable {prog:Program} {w:World} {A:Around} {E:Value→Shared→Prop} {s:Shared} {K:PySem.W.Frag} {x C:Addr} {ox:Obj} {od:Option Obj} {name:Str} {v:Value}
theorem xby {tk:Tok} {fill expr:Bool} {Q:Value→Shared→Prop} (X:K.In s.heap) (c:XG K C) (I:PySem.W.InstAt s.heap x ox C od)
  (k:wpAny (model prog w) A.in1 (Builtin.«object.__getattribute__» ⟨[.ref x,.str name tk],[]⟩) (fun fin s'=>match fin with | .done (.ret v)=>wpAny (model prog w) A (handedOut v) Q E s' | _=>False) (fun _ _=>False) s) :
  wpAny (model prog w) A (getAttrBy (.ref x) (.str name tk) fill expr) Q E s:=by
 have SF:=PySem.F.attr_ValueError.ga
 unfold getAttrBy
 refine wpAny_holding (wpAny_bind (PySem.W.Looks.here I.type (wpAny_bind (PySem.W.Looks.here (PySem.W.looks_findIn X c.ga) ?_))))
 dsimp only
 rw [show (onTheHeap (Value.ref C) && Value.builtin "BaseException.__getattribute__" == Value.builtin "object.__getattribute__") = false from by rw [show (Value.builtin "BaseException.__getattribute__" == Value.builtin "object.__getattribute__") = false from by decide +kernel,Bool.and_false],if_neg (by decide)]
 unfold getAttrByItsOwn
 refine wpAny_bind (PySem.W.Looks.here (PySem.W.looks_hook X (r:=none) (by rw [if_pos (show onTheHeap (Value.ref C) = true from rfl)]; exact c.gt)) (wpAny_bind (wpAny_attempt (wpAny_holding ?_))))
 unfold callGetattribute
 rw [show (expr && onTheHeap (Value.builtin "BaseException.__getattribute__")) = false from Bool.and_false _,if_neg (by decide)]
 unfold boundAndCalled
 rw [SF.bind]
 refine wpAny_bind (wpAny_pure ?_)
 show wpAny _ _ (call (.builtin "BaseException.__getattribute__") [.ref x,.str name tk]) _ _ _
 refine wpAny_call (codeAny_call_builtin SF.plain PySem.F.entry_bexc_ga ?_)
 refine @PySem.W.check_slot (model prog w) _ _ s "BaseException.__getattribute__" "BaseException" "__getattribute__" (.ref x) [.str name tk] [] _ (by decide +kernel) (by decide +kernel) (I.type.andThen (PySem.W.looks_mroIn X c.sub)) (PySem.F.args_bexc_ga (.ref x) (.str name tk)) ?_
 refine wpAny_mono k (fun fin s' z=>?_) fun _ _ z=>z.elim
 rcases fin with (_ | _ | _ | _) | _ <;> first | exact z | exact z.elim
theorem jle {expr:Bool} {Q:Value→Shared→Prop} (X:K.In s.heap) (c:XG K C) (I:PySem.W.InstAt s.heap x ox C od) (hf:PySem.W.findObj K C od name = some (.value v)) (hh:PySem.W.handedIn v = true) (h:Q v { s with toks:=s.toks + 1 }) :
  wpAny (model prog w) A (getAttr (.ref x) name expr) Q E s:=by
 unfold getAttr
 refine wpAny_bind (wpAny_mkText (xby (s:={ s with toks:=s.toks + 1 }) X c I ?_))
 obtain ⟨h0,g,d,t,os⟩:=s
 have L0:=I.type (M:=model prog w)
 have L1:=PySem.W.looks_find (M:=model prog w) X I hf
 refine wpAny_bind (wpAny_pure (wpAny_bind (wpAny_pure (wpAny_bind (L0.at (wpAny_bind (L1.at ?_)))))))
 refine wpAny_pure ?_
 show wpAny _ _ (handedOut v) _ _ _
 rw [PySem.W.handedOut_of hh]
 exact wpAny_pure h
end
structure XY (K:PySem.W.Frag) (C:Addr):Prop where
 g:XG K C
 hd:PySem.W.hasDictIn K C = true
 ha:PySem.W.findIn K (.ref C) "__class__" = some (some (.builtin "object.__class__"))
 hn:PySem.W.specialIn K (.builtin "object.__class__") "__get__" = some (some (.builtin "getset_descriptor.__get__"))
 ht:PySem.W.takesIn K (.builtin "object.__class__") = some true
 hm:PySem.W.mroIn K C (.type "object") = some true
section
variable {X:Cx} {C dx a:Addr} {fs:List (Str × V)} {H:Hp} {s:Shared}
def tXG (C:Addr) (ta:TE) (f:Str):TE:=fun σ H Q=>ta σ H fun u H1=>∃ a dx fs v,u = .ref a∧H1 a = some (caO a (.ref C) (some dx))∧H1 dx = some (xdO dx fs)∧fs.lookup f = some v∧Q v H1
theorem jqt {e:Expr} {f:Str} {pos:Pos} {ta:TE} (y:XY X.K C) (hf:PySem.W.findIn X.K (.ref C) f = some none) (he:PE X e ta) (hb:attributeBase e f X.env (eval e X.env) = eval e X.env):PE X (.Attribute e f pos) (tXG C ta f):=by
 intro pins s σ H Q I h
 refine jrg hb (thn (he pins s σ H _ I h) fun u s1 ⟨x,H1,I1,rx,a,dx,fs,v,ex,ea,ed,l,q⟩=>?_)
 subst ex
 obtain rfl:u = Value.ref a:=rx
 obtain ⟨ox,od,mA,J,r,hl⟩:=xinst I1 ea ed
 obtain ⟨w,hw,rw'⟩:=RelO.some_of (v:=v) (o:=mA f) (by rw [← l]; exact r f)
 exact jle I1.kIn y.g J (PySem.W.findObj_own y.hd hf rfl (by rw [hl,hw])) (jnz rw') ⟨v,H1,I1.tok _,rw',q⟩
end
end L2
namespace L2
open PySem PySem.Spec PyProof.Rows
section
variable {X:Cx}
def je0:V→List V→Hp→VK→Prop:=fun x vs H Q=>match x,vs with
 | .ref l,[.int k,y]=>match H l with
  | some (.lst xs)=>(0 ≤ k∧k ≤ xs.length∧xs.length < 1000)∧Q .non (upd H l (.lst (xs.take k.toNat ++ y :: xs.drop k.toNat)))
  | _=>False
 | _,_=>False
theorem ps_fr {st:Stmt} {t:TS} (h:X.A.frames = some X.stack→PS X st t):PS X st t:=fun pins s σ H D I hw=>h I.ok.frames pins s σ H D I hw
end
theorem jn3 {Y:Cx} {pins:List (Addr × Obj)} {EX:St→XK} {tg iter:Expr} {body:List Stmt} {wi:TI} {g:TG} {tb:TS} {pos:Pos} (d:Df Y) (hc:(Y.tr pins EX).calm = true) (hi:PI (Y.tr pins EX) tg iter wi) (hg:PG (Y.tr pins EX) tg g) (hb:PSs (Y.tr pins EX) body tb)
  (hs:∀ x,foldedSetIterable iter (Y.tr pins EX).env x = pure x:=by intro _; rfl):PS (Y.tr pins EX) (.For tg iter body [] pos) (tFor wi g tb):=ps_fr fun fr=>jcl (ownT (X:=Y) d fr) hc hi hg hb hs
structure ClsX (K:PySem.W.Frag) (mg:Str→Option Value) (x:Str) (C fI:Addr):Prop where
 m:mg x = some (.ref C)
 kp:PySem.W.keepIn K (.ref C) = true
 xin:jhd K C bmV "ValueError.__new__" fI = true
 fn:PySem.W.typeIn K (.ref fI) = some (.type "function")
 a:XA K C
 y:XY K C
structure InitAt (K:PySem.W.Frag) (qual:Str) (st:Stmt) (ps:List Str) (f:Addr) (fd:FuncData):Prop where
 F:Fun K "__init__" qual st f fd
 b:jfr K fd ps []
def jjg (C:Addr) (f:Str):Sp:=fun vs H Q _=>∃ a y,vs = [.ref a,y]∧H a = some (exO a C none)∧∀ dx,H dx = none→dx ≠ a→Q .non (upd (upd H dx (xdO dx [(f,y)])) a (exO a C (some dx)))
def jen (C:Addr) (f g:Str):Sp:=fun vs H Q _=>∃ a y z,vs = [.ref a,y,z]∧H a = some (exO a C none)∧∀ dx,H dx = none→dx ≠ a→Q .non (upd (upd (upd H dx (xdO dx [(f,y)])) a (exO a C (some dx))) dx (xdO dx (putF g z [(f,y)])))
theorem raise1 {C a:Addr} {f:Str} {y:V} {H:Hp} {E:XK} (ha:H a = none) (h:∀ dx H',H dx = none→Same H H'→H' dx = some (xdO dx [(f,y)])→E (.ref C) (some dx) H') :
  jjg C f [.ref a,y] (upd H a (exO a C none)) (fun v H2=>v = .non∧∃ dd,H2 a = some (exO a C dd)∧E (.ref C) dd (del H2 a)) E0:=by
 refine ⟨a,y,rfl,ja1,fun dx hd ne=>⟨rfl,some dx,ja1,?_⟩⟩
 have hd0:H dx = none:=by rw [ja7 ne] at hd; exact hd
 refine h dx _ hd0 (fun b o e=>?_) ?_
 ·have na:b ≠ a:=fun z=>by rw [z,ha] at e; cases e
  have nd:b ≠ dx:=fun z=>by rw [z,hd0] at e; cases e
  rw [jg7 na,ja7 na,ja7 nd,ja7 na]
  exact e
 ·rw [jg7 ne,ja7 ne,ja1]
end L2
namespace L2
open PySem PySem.Spec PyProof.Rows
structure RoomH (k:Nat) (A:Around):Prop where
 dp:A.depth + 3 * k + 5 < recursionLimit
 un:A.units + 16 * k + 200 < cLine
theorem Room.h {j k:Nat} {A:Around} (r:Room k A) (h:j ≤ k):RoomH j A:=⟨(r.mono h).dp,(r.mono h).un⟩
theorem RoomH.mono {j k:Nat} {A:Around} (r:RoomH k A) (h:j ≤ k):RoomH j A:=⟨by have:=r.dp; omega,by have:=r.un; omega⟩
section
variable {P:Program} {w:World} {K:PySem.W.Frag} {mg:Str→Option Value} {base:Heap}
end
section
variable {X:Cx} {k:Nat} {f:Addr} {fd:FuncData} {ps:List Str} {sp:Sp} {x:Str} {p pos:Pos} {e:Expr} {es:List Expr} {t:TA}
end
section
variable {X:Cx} {C:Addr}
end
end L2
namespace L2
open PySem PySem.Spec PyProof.Rows
section
variable {X:Cx} {x n:Str} {np hpos pos:Pos} {body suite:List Stmt} {b0:Stmt} {C:Addr} {mt:Value→Prop} {tb:(St→XK)→TS} {th:TS}
end
theorem jer {C a:Addr} {f g:Str} {y z:V} {H:Hp} {E:XK} (ha:H a = none) (h:∀ dx H',H dx = none→Same H H'→H' dx = some (xdO dx (putF g z [(f,y)]))→E (.ref C) (some dx) H') :
  jen C f g [.ref a,y,z] (upd H a (exO a C none)) (fun v H2=>v = .non∧∃ dd,H2 a = some (exO a C dd)∧E (.ref C) dd (del H2 a)) E0:=by
 refine ⟨a,y,z,rfl,ja1,fun dx hd ne=>⟨rfl,some dx,by rw [ja7 (Ne.symm ne),ja1],?_⟩⟩
 have hd0:H dx = none:=by rw [ja7 ne] at hd; exact hd
 refine h dx _ hd0 (fun b o e=>?_) ?_
 ·have na:b ≠ a:=fun z=>by rw [z,ha] at e; cases e
  have nd:b ≠ dx:=fun z=>by rw [z,hd0] at e; cases e
  rw [jg7 na,ja7 nd,ja7 na,ja7 nd,ja7 na]
  exact e
 ·rw [jg7 ne,ja1]
end L2
namespace L2
open PySem PySem.Spec PyProof.Rows
section
variable {prog:Program} {w:World} {A:Around} {E:Value→Shared→Prop} {s:Shared} {C a:Addr} {bmB:List Value} {newId:String}
end
section
variable {prog:Program} {w:World} {A:Around} {E:Value→Shared→Prop} {h:Heap} {g:Array GenState} {d:Drawn} {t:Nat} {os:OsState}
variable {C:Addr} {bmB:List Value} {B newId initId:String}
end
section
variable {X:Cx} {x y:Str} {np hpos pos p cpos rpos cp:Pos} {kk:Nat} {body:List Stmt} {C D':Addr} {mt:Value→Prop} {tb:(St→XK)→TS} {EX:St→XK} {e:Expr} {es:List Expr} {t:TA} {bmB:List Value} {B newId initId:String}
end
end L2
namespace L2
open PySem PySem.Spec PyProof.Rows
open PySem.Builtin.ObjectAttr
section
variable {X:Cx} {C a:Addr} {H:Hp} {s:Shared}
end
end L2
namespace L2
open PySem PySem.Spec PyProof.Rows
def CDivB (i j:Int):Prop:=0 < j∧j < 1000000000000000000
section
variable {X:Cx}
theorem jqq:OpR X (binaryOp .FloorDiv) (fIC CDivB fun i j=>.int (i / j)):=by
 intro pins s σ H x y v u Q I rx ry h
 unfold fIC at h
 split at h
 ·rename_i i j
  obtain ⟨⟨h1,h2⟩,q⟩:=h
  obtain ⟨t,rfl⟩:=rx
  obtain ⟨t',rfl⟩:=ry
  refine floordiv_int (by omega) ?_ (.inl (PyProof.noPylong_of_log2 ?_))
  ·rw [Int.fdiv_eq_ediv_of_nonneg i (by omega)]
   exact ⟨.int (i / j),H,I.tok _,⟨_,rfl⟩,q⟩
  ·by_cases h0:j.natAbs = 0
   ·rw [h0]; decide
   ·exact Nat.lt_of_lt_of_le ((Nat.log2_lt h0).mpr (show j.natAbs < 2 ^ 60 by omega)) (by decide)
 ·exact h.elim
end
end L2
namespace L2
open PySem PySem.Spec PyProof.Rows
theorem jaa {a b:TS} {D:Ends} {σ:St} {H:Hp} (h:∀ R,R = b→tSeq a R D σ H):tSeq a b D σ H:=h b rfl
theorem jfu {ι:Type} {wi:TI} {g:TG} {tb:TS} {D:Ends} {σ:St} {H:Hp} (J:ι→It) (H1:ι→Hp) (ok:ι→Prop) (h1:∀ R:It→Hp→Prop,(∀ i,ok i→R (J i) (H1 i))→wi σ H R)
  (h2:∀ i0,ok i0→∃ W:Nat→Nat→St→Hp→Prop,(∃ m,W 0 m σ (H1 i0))∧∀ i m σ H,W i m σ H→((J i0).stop i H∧D.nx σ H) ∨ ((J i0).go i H∧∃ N:St→Hp→Prop,(∀ σ' H',N σ' H'→∃ m',m' < m∧W (i + 1) m' σ' H')∧∀ x H',(J i0).yld i H x H'→g x σ H' fun σ2 H2=>tb { D with nx:=N,ct:=N,bk:=D.nx } σ2 H2)) :
  tFor wi g tb D σ H:=h1 _ h2
section
variable {X:Cx}
end
end L2
namespace So
open PySem PyProof.Rows
def kv (R:Keyed→Int) (xs:Array Keyed) (i:Nat):Int:=(xs[i]?.map R).getD 0
theorem jfp {R:Keyed→Int} {xs ys:Array Keyed} {i j:Nat} (h:xs[i]? = ys[j]?):kv R xs i = kv R ys j:=by unfold kv; rw [h]
theorem jbw {R:Keyed→Int} {xs:Array Keyed} {i:Nat} {x:Keyed} (h:xs[i]? = some x):kv R xs i = R x:=by unfold kv; rw [h]; rfl
def Up (R:Keyed→Int) (xs:Array Keyed) (a b:Nat):Prop:=∀ i j,a ≤ i→i ≤ j→j < b→kv R xs i ≤ kv R xs j
def Dn (R:Keyed→Int) (xs:Array Keyed) (a b:Nat):Prop:=∀ i j,a ≤ i→i ≤ j→j < b→kv R xs j ≤ kv R xs i
def Fore (lo:Nat) (xs ys:Array Keyed):Prop:=∀ i,i < lo→ys[i]? = xs[i]?
theorem Fore.rfl' {lo:Nat} {xs:Array Keyed}:Fore lo xs xs:=fun _ _=>rfl
theorem Fore.tr {lo:Nat} {xs ys zs:Array Keyed} (a:Fore lo xs ys) (b:Fore lo ys zs):Fore lo xs zs:=fun i h=>(b i h).trans (a i h)
theorem Up.one {R:Keyed→Int} {xs:Array Keyed} {a b:Nat} (h:b ≤ a + 1):Up R xs a b:=fun i j h1 h2 h3=>by
 have e:i = j:=by omega
 rw [e]; exact Int.le_refl _
theorem Up.grow {R:Keyed→Int} {xs:Array Keyed} {a b:Nat} (h:Up R xs a b) (h2:a < b) (hl:kv R xs (b - 1) ≤ kv R xs b):Up R xs a (b + 1):=fun i j h3 h4 h5=>by
 by_cases hj:j < b
 ·exact h i j h3 h4 hj
 ·have e:j = b:=by omega
  rw [e] at h4 ⊢
  by_cases hi:i = b
  ·rw [hi]; exact Int.le_refl _
  ·exact Int.le_trans (h i (b - 1) h3 (by omega) (by omega)) hl
theorem Dn.grow {R:Keyed→Int} {xs:Array Keyed} {a b:Nat} (h:Dn R xs a b) (h2:a < b) (hl:kv R xs b ≤ kv R xs (b - 1)):Dn R xs a (b + 1):=fun i j h3 h4 h5=>by
 by_cases hj:j < b
 ·exact h i j h3 h4 hj
 ·have e:j = b:=by omega
  rw [e] at h4 ⊢
  by_cases hi:i = b
  ·rw [hi]; exact Int.le_refl _
  ·exact Int.le_trans hl (h i (b - 1) h3 (by omega) (by omega))
theorem Dn.like {R:Keyed→Int} {xs ys:Array Keyed} {a b:Nat} (h:Dn R xs a b) (e:∀ k,kv R ys k = kv R xs k):Dn R ys a b:=fun i j h1 h2 h3=>by rw [e,e]; exact h i j h1 h2 h3
theorem jk5 {R:Keyed→Int} {xs:Array Keyed} {i j:Nat} (hj:j ≤ xs.size) (k:Nat) :
  kv R (mirror xs i j ((j - i) / 2)) k = if i ≤ k∧k < j then kv R xs (i + j - 1 - k) else kv R xs k:=by
 have e:=getElem?_mirror_all (i:=i) hj k
 by_cases c:i ≤ k∧k < j
 ·rw [if_pos c] at e ⊢; exact jfp e
 ·rw [if_neg c] at e ⊢; exact jfp e
theorem jcm {R:Keyed→Int} {xs:Array Keyed} {i j:Nat} (hj:j ≤ xs.size) (q:∀ k,i ≤ k→k < j→kv R xs k = kv R xs (j - 1)) (k:Nat) :
  kv R (mirror xs i j ((j - i) / 2)) k = kv R xs k:=by
 rw [jk5 hj]
 split
 ·rename_i c; rw [q _ (by omega) (by omega),q k c.1 c.2]
 ·rfl
theorem jdk {lo:Nat} {xs:Array Keyed} {i j:Nat} (hj:j ≤ xs.size) (hi:lo ≤ i):Fore lo xs (mirror xs i j ((j - i) / 2)):=fun k hk=>by
 rw [getElem?_mirror_all hj,if_neg (by omega)]
theorem jno {R:Keyed→Int} {xs:Array Keyed} {src d:Nat} (hs:src < xs.size) (hd:d ≤ src) (k:Nat) :
  kv R (bubble xs src d) k = if k = src - d then kv R xs src else if src - d < k∧k ≤ src then kv R xs (k - 1) else kv R xs k:=by
 have e:=getElem?_bubble hs d hd k
 by_cases c:k = src - d
 ·rw [if_pos c] at e ⊢; exact jfp e
 ·rw [if_neg c] at e ⊢
  by_cases c2:src - d < k∧k ≤ src
  ·rw [if_pos c2] at e ⊢; exact jfp e
  ·rw [if_neg c2] at e ⊢; exact jfp e
theorem jo1 {lo:Nat} {xs:Array Keyed} {src d:Nat} (hs:src < xs.size) (hd:lo + d ≤ src):Fore lo xs (bubble xs src d):=fun k hk=>by
 rw [getElem?_bubble hs d (by omega),if_neg (by omega),if_neg (by omega)]
structure Bs (κ:SortKind) (a₀:Array Keyed) (pd:Array (Nat × Nat × Nat)) (st:SortSt):Prop where
 perm:(arrOf st).Perm a₀
 kind:kindOf st = κ
 ok:failedOf st = none
 pend:pendingOf st = pd
section
variable {prog:Program} {w:World} {A:Around} {E:Value→Shared→Prop} {s:Shared} {R:Keyed→Int} {κ:SortKind} {a₀:Array Keyed} {pd:Array (Nat × Nat × Nat)}
theorem Bs.size {st:SortSt} (b:Bs κ a₀ pd st):(arrOf st).size = a₀.size:=b.perm.size_eq
theorem Bs.put {st:SortSt} (b:Bs κ a₀ pd st) {xs:Array Keyed} (p:xs.Perm (arrOf st)):Bs κ a₀ pd (setArr st xs):=⟨p.trans b.perm,b.kind,b.ok,b.pend⟩
theorem Bs.get {st:SortSt} (b:Bs κ a₀ pd st) {i:Nat} (hi:i < a₀.size):∃ x,(arrOf st)[i]? = some x∧x ∈ a₀.toList:=by
 have h1:i < (arrOf st).size:=by rw [b.size]; exact hi
 exact ⟨(arrOf st)[i],getElem?_pos _ i h1,(Array.perm_iff_toList_perm.mp b.perm).mem_iff.mp (by simp)⟩
def Cm (prog:Program) (w:World) (A:Around) (s:Shared) (R:Keyed→Int) (κ:SortKind) (a₀:Array Keyed):Prop :=
 ∀ x y,x ∈ a₀.toList→y ∈ a₀.toList→∀ (Q:Bool→Shared→Prop) (E:Value→Shared→Prop),Q (decide (R x < R y)) s→wpAny (model prog w) A (keyLt' κ x.1 y.1) Q E s
theorem w_lt (C:Cm prog w A s R κ a₀) {st:SortSt} {x y:Keyed} (hk:kindOf st = κ) (hx:x ∈ a₀.toList) (hy:y ∈ a₀.toList) {Q:Option Bool→SortSt→Prop} (h:Q (some (decide (R x < R y))) st) :
  wpS (model prog w) A E s (lt' x y) Q st:=by
 rw [lt'_eq]
 refine wpS_bind (wpS_get ?_)
 rw [hk]
 refine wpS_bind (wpS_lift (wpAny_attempt (C x y hx hy _ _ ⟨rfl,?_⟩)))
 exact wpS_pure h
theorem jb7 {st:SortSt} {xs:Array Keyed} {i:Nat} {x:Keyed} (e:xs[i]? = some x) {Q:Keyed→SortSt→Prop} (h:Q x st):wpS (model prog w) A E s (elem' xs i) Q st:=by
 rw [elem'_eq,e]; exact wpS_pure h
theorem jhf (C:Cm prog w A s R κ a₀) {st:SortSt} (b:Bs κ a₀ pd st) {i j:Nat} (hi:i < a₀.size) (hj:j < a₀.size) {Q:Option Bool→SortSt→Prop}
  (h:Q (some (decide (kv R (arrOf st) i < kv R (arrOf st) j))) st):wpS (model prog w) A E s (ltAt' i j) Q st:=by
 obtain ⟨x,e1,m1⟩:=b.get hi
 obtain ⟨y,e2,m2⟩:=b.get hj
 rw [ltAt'_eq]
 refine wpS_bind (wpS_get (wpS_bind (jb7 e1 (wpS_bind (jb7 e2 (w_lt C b.kind m1 m2 ?_))))))
 rw [jbw e1,jbw e2] at h
 exact h
abbrev UpSt:=Option (Option Nat) × Nat
abbrev DnSt:=Option (Option Nat) × Nat × Nat
def goUp (lo a nrem:Nat):StateT SortSt Sem UpSt :=
 forIn [a:nrem] ((none,a):UpSt) fun _ c=>do
  let z ← ltAt' (lo + c.snd) (lo + c.snd - 1)
  match z with
  | some less=>if less = true then pure (.done (none,c.snd)) else pure (.yield (none,c.snd + 1))
  | _=>pure (.done (some none,c.snd))
def jio (lo n nrem:Nat):StateT SortSt Sem (Option Nat):=do
 reverseSlice' lo (lo + n)
 let c ← goUp lo n nrem
 match c.fst with
 | some r=>pure r
 | none=>pure (some c.snd)
def goDn (lo n nrem:Nat):StateT SortSt Sem DnSt :=
 forIn [n:nrem] ((none,n,0):DnSt) fun _ c=>do
  let z ← ltAt' (lo + c.snd.fst) (lo + c.snd.fst - 1)
  match z with
  | some less =>
   if less = true then
    if c.snd.snd > 0 then do
     reverseSlice' (lo + c.snd.fst - (c.snd.snd + 1)) (lo + c.snd.fst)
     pure (.yield (none,c.snd.fst + 1,0))
    else pure (.yield (none,c.snd.fst + 1,0))
   else do
    let y ← ltAt' (lo + c.snd.fst - 1) (lo + c.snd.fst)
    match y with
    | some more=>if more = true then pure (.done (none,c.snd.fst,c.snd.snd)) else pure (.yield (none,c.snd.fst + 1,c.snd.snd + 1))
    | _=>pure (.done (some none,c.snd.fst,c.snd.snd))
  | _=>pure (.done (some none,c.snd.fst,c.snd.snd))
def jol (lo n nrem:Nat):StateT SortSt Sem (Option Nat):=do
 liftM (rule "list.sort.descending-run")
 let c ← goDn lo (n + 1) nrem
 match c.fst with
 | some r=>pure r
 | none =>
  if c.snd.snd > 0 then do
   reverseSlice' (lo + c.snd.fst - (c.snd.snd + 1)) (lo + c.snd.fst)
   jio lo c.snd.fst nrem
  else jio lo c.snd.fst nrem
theorem jpu (lo nrem:Nat):countRun' lo nrem = (do
    let c ← goUp lo 1 nrem
    match c.fst with
    | some r=>pure r
    | none =>
      if (c.snd == nrem) = true then pure (some c.snd)
      else if c.snd > 1 then do
        let z ← ltAt' lo (lo + c.snd - 1)
        match z with
        | some rose=>if rose = true then pure (some c.snd) else do
            reverseSlice' lo (lo + c.snd)
            jol lo c.snd nrem
        | _=>pure none
      else jol lo c.snd nrem):=by
  rw [countRun'_eq]
  unfold jol jio goDn goUp
  dsimp only
  congr 1
  funext c
  obtain ⟨r,n⟩:=c
  cases r with
  | some r=>rfl
  | none =>
    dsimp only
    split
    · rfl
    · split
      · congr 1
        funext z
        cases z with
        | none=>rfl
        | some rose =>
          dsimp only
          split
          · rfl
          · congr 1
            funext _r
            (congr 1; funext _u; congr 1; congr 1; funext c2; obtain ⟨r2,n2,q2⟩:=c2; cases r2 with
            | some r2=>rfl
            | none =>
              dsimp only
              split
              · congr 1; funext _t; congr 1; funext _v; congr 1; funext c3; obtain ⟨r3,n3⟩:=c3; cases r3 <;> rfl
              · congr 1; funext _v; congr 1; funext c3; obtain ⟨r3,n3⟩:=c3; cases r3 <;> rfl)
      · (congr 1; funext _u; congr 1; congr 1; funext c2; obtain ⟨r2,n2,q2⟩:=c2; cases r2 with
            | some r2=>rfl
            | none =>
              dsimp only
              split
              · congr 1; funext _t; congr 1; funext _v; congr 1; funext c3; obtain ⟨r3,n3⟩:=c3; cases r3 <;> rfl
              · congr 1; funext _v; congr 1; funext c3; obtain ⟨r3,n3⟩:=c3; cases r3 <;> rfl)
theorem jki {st:SortSt} {i j:Nat} {Q:Unit→SortSt→Prop} (h:Q () (setArr st (mirror (arrOf st) i j ((j - i) / 2)))) :
  wpS (model prog w) A E s (reverseSlice' i j) Q st:=by
 rw [reverseSlice'_eq]; exact wpS_modify h
theorem jq0 (C:Cm prog w A s R κ a₀) {st:SortSt} {lo a nrem:Nat} {Q:UpSt→SortSt→Prop} (hn:lo + nrem ≤ a₀.size) (ha:1 ≤ a) (han:a ≤ nrem) (b:Bs κ a₀ pd st) (u:Up R (arrOf st) lo (lo + a))
  (h:∀ n,a ≤ n→n ≤ nrem→Up R (arrOf st) lo (lo + n)→(n = nrem ∨ kv R (arrOf st) (lo + n) < kv R (arrOf st) (lo + n - 1))→Q (none,n) st) :
  wpS (model prog w) A E s (goUp lo a nrem) Q st:=by
 unfold goUp
 refine wpS_forRange (I:=fun x c st'=>st' = st∧c = (none,x)∧Up R (arrOf st) lo (lo + x)) ?step ?fin ⟨rfl,rfl,u⟩
 case fin =>
  rintro c st' ⟨rfl,rfl,u'⟩
  rw [show max a nrem = nrem by omega] at u' ⊢
  exact h nrem han (Nat.le_refl _) u' (.inl rfl)
 case step =>
  rintro x c st' hax hxn ⟨rfl,rfl,u'⟩
  dsimp only
  refine wpS_bind (jhf C b (by omega) (by omega) ?_)
  by_cases c:kv R (arrOf st') (lo + x) < kv R (arrOf st') (lo + x - 1)
  ·simp only [c,decide_true,if_true]
   exact wpS_pure (h x hax (by omega) u' (.inr c))
  ·simp only [c,decide_false,Bool.false_eq_true,if_false]
   exact wpS_pure ⟨rfl,rfl,u'.grow (by omega) (by omega)⟩
theorem jkk (C:Cm prog w A s R κ a₀) {st:SortSt} {lo n nrem:Nat} {Q:Option Nat→SortSt→Prop} (hn:lo + nrem ≤ a₀.size) (h1:1 ≤ n) (hnn:n ≤ nrem) (b:Bs κ a₀ pd st) (d:Dn R (arrOf st) lo (lo + n))
  (h:∀ m st',Bs κ a₀ pd st'→Fore lo (arrOf st) (arrOf st')→1 ≤ m→m ≤ nrem→Up R (arrOf st') lo (lo + m)→Q (some m) st') :
  wpS (model prog w) A E s (jio lo n nrem) Q st:=by
 unfold jio
 have hsz:lo + n ≤ (arrOf st).size:=by rw [b.size]; omega
 refine wpS_bind (jki ?_)
 have b':=b.put (mirror_perm (arrOf st) lo (lo + n) ((lo + n - lo) / 2))
 refine wpS_bind (jq0 C hn h1 hnn b' ?_ fun m hm1 hm2 u _=>wpS_pure (h m _ b' (jdk hsz (Nat.le_refl _)) (by omega) hm2 u))
 intro i j h3 h4 h5
 show kv R (mirror (arrOf st) lo (lo + n) _) i ≤ kv R (mirror (arrOf st) lo (lo + n) _) j
 rw [jk5 hsz,jk5 hsz,if_pos (by omega),if_pos (by omega)]
 exact d _ _ (by omega) (by omega) (by omega)
theorem w_goDn (C:Cm prog w A s R κ a₀) {st:SortSt} {lo n nrem:Nat} {Q:DnSt→SortSt→Prop} (hn:lo + nrem ≤ a₀.size) (h1:1 ≤ n) (hnn:n ≤ nrem) (b:Bs κ a₀ pd st) (d:Dn R (arrOf st) lo (lo + n))
  (h:∀ m q st',Bs κ a₀ pd st'→Fore lo (arrOf st) (arrOf st')→n ≤ m→m ≤ nrem→Dn R (arrOf st') lo (lo + m)→q + 1 ≤ m→(∀ i,lo + m - (q + 1) ≤ i→i < lo + m→kv R (arrOf st') i = kv R (arrOf st') (lo + m - 1))→Q (none,m,q) st') :
  wpS (model prog w) A E s (goDn lo n nrem) Q st:=by
 unfold goDn
 refine wpS_forRange (I:=fun x c st'=>∃ q,c = (none,x,q)∧Bs κ a₀ pd st'∧Fore lo (arrOf st) (arrOf st')∧Dn R (arrOf st') lo (lo + x)∧q + 1 ≤ x ∧
   (∀ i,lo + x - (q + 1) ≤ i→i < lo + x→kv R (arrOf st') i = kv R (arrOf st') (lo + x - 1))) ?step ?fin ⟨0,rfl,b,Fore.rfl',d,by omega,fun i h1 h2=>by congr 1; omega⟩
 case fin =>
  rintro c st' ⟨q,rfl,b',f,d',hq,he⟩
  rw [show max n nrem = nrem by omega] at d' hq he ⊢
  exact h nrem q st' b' f hnn (Nat.le_refl _) d' hq he
 case step =>
  rintro x c st' hax hxn ⟨q,rfl,b',f,d',hq,he⟩
  dsimp only
  have hsz:lo + x ≤ (arrOf st').size:=by rw [b'.size]; omega
  refine wpS_bind (jhf C b' (by omega) (by omega) ?_)
  by_cases c:kv R (arrOf st') (lo + x) < kv R (arrOf st') (lo + x - 1)
  ·simp only [c,decide_true,if_true]
   have g:=d'.grow (by omega) (Int.le_of_lt c)
   by_cases hq0:q > 0
   ·rw [if_pos hq0]
    exact wpS_bind (jki (wpS_pure ⟨0,rfl,b'.put (mirror_perm _ _ _ _),f.tr (jdk hsz (by omega)),g.like (jcm hsz he),by omega,fun i h1 h2=>by congr 1; omega⟩))
   ·rw [if_neg hq0]
    exact wpS_pure ⟨0,rfl,b',f,g,by omega,fun i h1 h2=>by congr 1; omega⟩
  ·simp only [c,decide_false,Bool.false_eq_true,if_false]
   refine wpS_bind (jhf C b' (by omega) (by omega) ?_)
   by_cases c2:kv R (arrOf st') (lo + x - 1) < kv R (arrOf st') (lo + x)
   ·simp only [c2,decide_true,if_true]
    exact wpS_pure (h x q st' b' f hax (by omega) d' hq he)
   ·simp only [c2,decide_false,Bool.false_eq_true,if_false]
    have e2:kv R (arrOf st') (lo + x) = kv R (arrOf st') (lo + x - 1):=by omega
    refine wpS_pure ⟨q + 1,rfl,b',f,d'.grow (by omega) (by omega),by omega,fun i h1 h2=>?_⟩
    rw [show lo + (x + 1) - 1 = lo + x by omega]
    by_cases hix:i = lo + x
    ·rw [hix]
    ·rw [e2]; exact he i (by omega) (by omega)
theorem jme (C:Cm prog w A s R κ a₀) {st:SortSt} {lo n nrem:Nat} {Q:Option Nat→SortSt→Prop} (hn:lo + nrem ≤ a₀.size) (hnn:n + 1 ≤ nrem) (b:Bs κ a₀ pd st) (d:Dn R (arrOf st) lo (lo + (n + 1)))
  (h:∀ m st',Bs κ a₀ pd st'→Fore lo (arrOf st) (arrOf st')→1 ≤ m→m ≤ nrem→Up R (arrOf st') lo (lo + m)→Q (some m) st') :
  wpS (model prog w) A E s (jol lo n nrem) Q st:=by
 unfold jol
 refine wpS_bind (wpS_lift (wpAny_rule ⟨rfl,?_⟩))
 refine wpS_bind (w_goDn C hn (by omega) hnn b d fun m q st' b' f hm1 hm2 d' hq he=>?_)
 dsimp only
 have hsz:lo + m ≤ (arrOf st').size:=by rw [b'.size]; omega
 by_cases hq0:q > 0
 ·rw [if_pos hq0]
  exact wpS_bind (jki (jkk C hn (by omega) hm2 (b'.put (mirror_perm _ _ _ _)) (d'.like (jcm hsz he)) fun m2 st2 a1 a2=>h m2 st2 a1 ((f.tr (jdk hsz (by omega))).tr a2)))
 ·rw [if_neg hq0]
  exact jkk C hn (by omega) hm2 b' d' fun m2 st2 a1 a2=>h m2 st2 a1 (f.tr a2)
theorem jqi (C:Cm prog w A s R κ a₀) {st:SortSt} {lo nrem:Nat} {Q:Option Nat→SortSt→Prop} (hn:lo + nrem ≤ a₀.size) (h1:1 ≤ nrem) (b:Bs κ a₀ pd st)
  (h:∀ m st',Bs κ a₀ pd st'→Fore lo (arrOf st) (arrOf st')→1 ≤ m→m ≤ nrem→Up R (arrOf st') lo (lo + m)→Q (some m) st') :
  wpS (model prog w) A E s (countRun' lo nrem) Q st:=by
 rw [jpu]
 refine wpS_bind (jq0 C hn (Nat.le_refl 1) h1 b (Up.one (Nat.le_refl _)) fun n hn1 hn2 u hor=>?_)
 dsimp only
 by_cases c:n = nrem
 ·rw [if_pos (by simpa using c)]
  exact wpS_pure (h n st b Fore.rfl' hn1 hn2 u)
 ·rw [if_neg (by simpa using c)]
  have hlt:=hor.resolve_left c
  by_cases hgt:n > 1
  ·rw [if_pos hgt]
   refine wpS_bind (jhf C b (by omega) (by omega) ?_)
   by_cases c2:kv R (arrOf st) lo < kv R (arrOf st) (lo + n - 1)
   ·simp only [c2,decide_true,if_true]
    exact wpS_pure (h n st b Fore.rfl' hn1 hn2 u)
   ·simp only [c2,decide_false,Bool.false_eq_true,if_false]
    have hsz:lo + n ≤ (arrOf st).size:=by rw [b.size]; omega
    have hall:∀ k,lo ≤ k→k < lo + n→kv R (arrOf st) k = kv R (arrOf st) (lo + n - 1):=by
     intro k h2 h3
     have a1:=u lo k (Nat.le_refl _) h2 h3
     have a2:=u k (lo + n - 1) h2 (by omega) (by omega)
     omega
    have d:Dn R (arrOf st) lo (lo + n):=fun i j h3 h4 h5=>by rw [hall i h3 (by omega),hall j (by omega) h5]; exact Int.le_refl _
    have g:Dn R (arrOf st) lo (lo + (n + 1)):=d.grow (by omega) (Int.le_of_lt hlt)
    exact wpS_bind (jki (jme C hn (by omega) (b.put (mirror_perm _ _ _ _)) (g.like (jcm hsz hall)) fun m st' a1 a2=>h m st' a1 ((jdk hsz (Nat.le_refl _)).tr a2)))
  ·rw [if_neg hgt]
   have e:n = 1:=by omega
   subst e
   have d:Dn R (arrOf st) lo (lo + 1):=fun i j h3 h4 h5=>by
    have e:i = j:=by omega
    rw [e]; exact Int.le_refl _
   exact jme C hn (by omega) b (d.grow (by omega) (Int.le_of_lt hlt)) h
theorem w_ins (C:Cm prog w A s R κ a₀) {st:SortSt} {lo n ok:Nat} {Q:Bool→SortSt→Prop} (hn:lo + n ≤ a₀.size) (hok:ok ≤ n) (b:Bs κ a₀ pd st) (u:Up R (arrOf st) lo (lo + ok))
  (h:∀ st',Bs κ a₀ pd st'→Fore lo (arrOf st) (arrOf st')→Up R (arrOf st') lo (lo + n)→Q true st'):wpS (model prog w) A E s (binarySort' lo n ok) Q st:=by
 rw [binarySort'_eq]
 refine wpS_bind (wpS_mono (wpS_forRange (I:=fun k c st'=>c = (none,())∧Bs κ a₀ pd st'∧Fore lo (arrOf st) (arrOf st')∧Up R (arrOf st') lo (lo + min k n))
  (Q:=fun c st'=>c = (none,())∧Bs κ a₀ pd st'∧Fore lo (arrOf st) (arrOf st')∧Up R (arrOf st') lo (lo + n)) ?step ?fin ?init) ?post)
 case post =>
  rintro c st' ⟨rfl,b',f,u'⟩
  exact wpS_pure (h st' b' f u')
 case init =>
  refine ⟨rfl,b,Fore.rfl',fun i j h1 h2 h3=>?_⟩
  by_cases c:ok = 0
  ·have e:i = j:=by omega
   rw [e]; exact Int.le_refl _
  ·exact u i j h1 h2 (by omega)
 case fin =>
  rintro c st' ⟨hc,b',f,u'⟩
  rw [show min (max (max ok 1) n) n = n by omega] at u'
  exact ⟨hc,b',f,u'⟩
 case step =>
  rintro k c st' hak hkn ⟨rfl,b',f,u'⟩
  rw [show min k n = k by omega] at u'
  refine wpS_bind (wpS_mono (wpS_forRange (I:=fun x c st2=>st2 = st'∧∃ l r,c = (none,l,r)∧l ≤ r∧r ≤ k∧r - l ≤ k - x ∧
    (∀ i,i < l→kv R (arrOf st') (lo + i) ≤ kv R (arrOf st') (lo + k))∧(∀ i,r ≤ i→i < k→kv R (arrOf st') (lo + k) < kv R (arrOf st') (lo + i)))
   (Q:=fun c st2=>st2 = st'∧∃ l r,c = (none,l,r)∧l ≤ k ∧
    (∀ i,i < l→kv R (arrOf st') (lo + i) ≤ kv R (arrOf st') (lo + k))∧(∀ i,l ≤ i→i < k→kv R (arrOf st') (lo + k) < kv R (arrOf st') (lo + i))) ?istep ?ifin ?iinit) ?ipost)
  case iinit=>exact ⟨rfl,0,k,rfl,by omega,by omega,by omega,fun i hi=>by omega,fun i h1 h2=>by omega⟩
  case ifin =>
   rintro c st2 ⟨rfl,l,r,rfl,hlr,hrk,hm,hlo,hhi⟩
   have e:l = r:=by omega
   subst e
   exact ⟨rfl,l,l,rfl,hrk,hlo,hhi⟩
  case istep =>
   rintro x c st2 _ hxk ⟨rfl,l,r,rfl,hlr,hrk,hm,hlo,hhi⟩
   dsimp only
   by_cases hge:l ≥ r
   ·rw [if_pos hge]
    have e:l = r:=by omega
    subst e
    exact wpS_pure ⟨rfl,l,l,rfl,hrk,hlo,hhi⟩
   ·rw [if_neg hge]
    refine wpS_bind (jhf C b' (by omega) (by omega) ?_)
    by_cases c:kv R (arrOf st2) (lo + k) < kv R (arrOf st2) (lo + (l + r) / 2)
    ·simp only [c,decide_true,if_true]
     exact wpS_pure ⟨rfl,l,(l + r) / 2,rfl,by omega,by omega,by omega,hlo,fun i h1 h2=>Int.lt_of_lt_of_le c (u' _ _ (by omega) (by omega) (by omega))⟩
    ·simp only [c,decide_false,Bool.false_eq_true,if_false]
     exact wpS_pure ⟨rfl,(l + r) / 2 + 1,r,rfl,by omega,by omega,by omega,fun i h1=>Int.le_trans (u' (lo + i) (lo + (l + r) / 2) (by omega) (by omega) (by omega)) (Int.not_lt.mp c),hhi⟩
  case ipost =>
   rintro c st2 ⟨rfl,l,r,rfl,hlk,hlo,hhi⟩
   show wpS _ _ _ _ (do moveDown' (lo + k) (lo + l); pure (ForInStep.yield (none,()))) _ _
   rw [moveDown'_eq]
   have hks:lo + k < (arrOf st2).size:=by rw [b'.size]; omega
   refine wpS_bind (wpS_modify (wpS_pure ⟨rfl,b'.put (bubble_perm _ _ _),f.tr (jo1 hks (by omega)),?_⟩))
   rw [show min (k + 1) n = k + 1 by omega]
   intro i j h1 h2 h3
   show kv R (bubble (arrOf st2) (lo + k) (lo + k - (lo + l))) i ≤ kv R (bubble (arrOf st2) (lo + k) (lo + k - (lo + l))) j
   rw [jno hks (by omega),jno hks (by omega),show lo + k - (lo + k - (lo + l)) = lo + l by omega]
   have lowof:∀ i,lo ≤ i→i < lo + l→kv R (arrOf st2) i ≤ kv R (arrOf st2) (lo + k):=fun i a1 a2=>by
    have z:=hlo (i - lo) (by omega)
    rwa [show lo + (i - lo) = i by omega] at z
   have highof:∀ i,lo + l ≤ i→i < lo + k→kv R (arrOf st2) (lo + k) < kv R (arrOf st2) i:=fun i a1 a2=>by
    have z:=hhi (i - lo) (by omega) (by omega)
    rwa [show lo + (i - lo) = i by omega] at z
   repeat' split
   all_goals first
    | (exfalso; omega)
    | exact Int.le_refl _
    | exact lowof _ (by omega) (by omega)
    | exact Int.le_of_lt (highof _ (by omega) (by omega))
    | exact u' _ _ (by omega) (by omega) (by omega)
end
end So
namespace So
open PySem PyProof.Rows
def jo0:Bool→Keyed→Array Keyed→Nat→Nat→Nat→StateT SortSt Sem (Option Nat):=sortPriv% PySem.Builtin.gallop
def gl (R:Keyed→Int) (left:Bool) (key:Keyed) (v:Int):Bool:=if left = true then decide (v < R key) else !decide (R key < v)
theorem gl_le {R:Keyed→Int} {left:Bool} {key:Keyed} {u v:Int} (h:gl R left key v = true) (huv:u ≤ v):gl R left key u = true:=by
 unfold gl at h ⊢
 cases left
 ·simp only [Bool.false_eq_true,if_false,Bool.not_eq_true',decide_eq_false_iff_not] at h ⊢; omega
 ·simp only [if_true,decide_eq_true_eq] at h ⊢; omega
section
variable {prog:Program} {w:World} {A:Around} {E:Value→Shared→Prop} {s:Shared} {R:Keyed→Int} {κ:SortKind} {a₀:Array Keyed} {pd:Array (Nat × Nat × Nat)}
abbrev BiSt:=Option (Option Nat) × Nat × Nat
theorem w_bis {st:SortSt} {n:Nat} {g:Nat→Bool} {M:Model} {f:Nat→BiSt→StateT SortSt Sem (ForInStep BiSt)} {z:BiSt→StateT SortSt Sem (Option Nat)}
  (up:∀ i j,i ≤ j→j < n→g j = true→g i = true) {Q:Option Nat→SortSt→Prop} (h:∀ k,k ≤ n→(∀ i,i < k→g i = true)→(∀ i,k ≤ i→i < n→g i = false)→Q (some k) st)
  (hf:∀ x l r (Q':ForInStep BiSt→SortSt→Prop),l < r→r ≤ n→(g (l + (r - l) / 2) = true→Q' (.yield (none,l + (r - l) / 2 + 1,r)) st)→(g (l + (r - l) / 2) = false→Q' (.yield (none,l,l + (r - l) / 2)) st)→wpS M A E s (f x (none,l,r)) Q' st)
  (hf0:∀ x l (Q':ForInStep BiSt→SortSt→Prop),Q' (.done (none,l,l)) st→wpS M A E s (f x (none,l,l)) Q' st)
  (hz:∀ l (Q':Option Nat→SortSt→Prop),Q' (some l) st→wpS M A E s (z (none,l,l)) Q' st)
  {lo hi:Nat} (h1:lo ≤ hi) (h2:hi ≤ n) (h3:∀ i,i < lo→g i = true) (h4:∀ i,hi ≤ i→i < n→g i = false) :
  wpS M A E s (forIn [0:n] ((none,lo,hi):BiSt) f >>= z) Q st:=by
 refine wpS_bind (wpS_mono (wpS_forRange (I:=fun x c st'=>st' = st∧∃ l r,c = (none,l,r)∧l ≤ r∧r ≤ n∧r - l ≤ n - x∧(∀ i,i < l→g i = true)∧(∀ i,r ≤ i→i < n→g i = false))
  (Q:=fun c st'=>st' = st∧∃ r,c = (none,r,r)∧r ≤ n∧(∀ i,i < r→g i = true)∧(∀ i,r ≤ i→i < n→g i = false)) ?step ?fin ⟨rfl,lo,hi,rfl,h1,h2,by omega,h3,h4⟩) ?post)
 case post =>
  rintro c st' ⟨rfl,r,rfl,a1,a2,a3⟩
  exact hz r Q (h r a1 a2 a3)
 case fin =>
  rintro c st' ⟨rfl,l,r,rfl,a1,a2,a3,a4,a5⟩
  have e:l = r:=by omega
  subst e
  exact ⟨rfl,l,rfl,a2,a4,a5⟩
 case step =>
  rintro x c st' _ hx ⟨rfl,l,r,rfl,a1,a2,a3,a4,a5⟩
  by_cases hge:l = r
  ·subst hge
   exact hf0 x l _ ⟨rfl,l,rfl,a2,a4,a5⟩
  ·refine hf x l r _ (by omega) a2 (fun hg=>?_) fun hg=>?_
   ·exact ⟨rfl,_,r,rfl,by omega,a2,by omega,fun i hi=>up i (l + (r - l) / 2) (by omega) (by omega) hg,a5⟩
   ·refine ⟨rfl,l,_,rfl,by omega,by omega,by omega,a4,fun i hi1 hi2=>?_⟩
    cases hgi:g i with
    | false=>rfl
    | true=>rw [up _ i hi1 hi2 hgi] at hg; cases hg
theorem jcu (C:Cm prog w A s R κ a₀) {st:SortSt} (hk:kindOf st = κ) {left:Bool} {key:Keyed} {arr:Array Keyed} {base n hint:Nat} (hkey:key ∈ a₀.toList) (harr:∀ i,i < n→∃ x,arr[base + i]? = some x∧x ∈ a₀.toList)
  (hh:hint < n) (u:Up R arr base (base + n)) {Q:Option Nat→SortSt→Prop}
  (h:∀ k,k ≤ n→(∀ i,i < k→gl R left key (kv R arr (base + i)) = true)→(∀ i,k ≤ i→i < n→gl R left key (kv R arr (base + i)) = false)→Q (some k) st) :
  wpS (model prog w) A E s (jo0 left key arr base n hint) Q st:=by
 have bey:∀ (i:Nat),i < n→∀ (Q':Option Bool→SortSt→Prop),Q' (some (gl R left key (kv R arr (base + i)))) st →
   wpS (model prog w) A E s (do let x ← elem' arr (base + i); if left = true then lt' x key else do let z ← lt' key x; pure (z.map (!·))) Q' st:=by
  intro i hi Q' hq
  obtain ⟨x,e,m⟩:=harr i hi
  rw [jbw e] at hq
  refine wpS_bind (jb7 e ?_)
  unfold gl at hq
  cases left
  ·simp only [Bool.false_eq_true,if_false] at hq ⊢
   exact wpS_bind (w_lt C hk hkey m (wpS_pure hq))
  ·simp only [if_true] at hq ⊢
   exact w_lt C hk m hkey hq
 have up:∀ i j,i ≤ j→j < n→gl R left key (kv R arr (base + j)) = true→gl R left key (kv R arr (base + i)) = true:=fun i j h1 h2 h3=>gl_le h3 (u _ _ (by omega) (by omega) (by omega))
 have dn:∀ i j,i ≤ j→j < n→gl R left key (kv R arr (base + i)) = false→gl R left key (kv R arr (base + j)) = false:=fun i j h1 h2 h3=>by
  cases hj:gl R left key (kv R arr (base + j)) with
  | false=>rfl
  | true=>rw [up i j h1 h2 hj] at h3; cases h3
 clear u harr hkey
 generalize hg:(fun i=>gl R left key (kv R arr (base + i))) = g at *
 have hgi:∀ i,gl R left key (kv R arr (base + i)) = g i:=fun i=>by rw [← hg]
 simp only [hgi] at h bey up dn
 unfold jo0
 refine wpS_bind (bey hint hh _ ?_)
 cases hgh:g hint with
 | true =>
  dsimp only
  rw [if_pos rfl]
  refine wpS_bind (wpS_mono (wpS_forRange (I:=fun x c st'=>st' = st∧∃ l o,c = (none,l,o)∧l < o∧x < o∧hint + l < n∧g (hint + l) = true)
   (Q:=fun c st'=>st' = st∧∃ l o,c = (none,l,o)∧l < o∧hint + l < n∧g (hint + l) = true∧(n - hint ≤ o ∨ g (hint + o) = false)) ?step ?fin ⟨rfl,0,1,rfl,by omega,by omega,by omega,hgh⟩) ?post)
  case fin =>
   rintro c st' ⟨rfl,l,o,rfl,a1,a2,a3,a4⟩
   exact ⟨rfl,l,o,rfl,a1,a3,a4,.inl (by omega)⟩
  case step =>
   rintro x c st' _ hx ⟨rfl,l,o,rfl,a1,a2,a3,a4⟩
   dsimp only
   by_cases hge:o ≥ n - hint
   ·rw [if_pos hge]
    exact wpS_pure ⟨rfl,l,o,rfl,a1,a3,a4,.inl hge⟩
   ·rw [if_neg hge]
    refine wpS_bind (bey _ (by omega) _ ?_)
    cases hgo:g (hint + o) with
    | true=>exact wpS_pure ⟨rfl,o,_,rfl,by omega,by omega,by omega,hgo⟩
    | false=>exact wpS_pure ⟨rfl,l,o,rfl,a1,a3,a4,.inr hgo⟩
  case post =>
   rintro c st' ⟨rfl,l,o,rfl,a1,a2,a3,a4⟩
   dsimp only
   refine w_bis up h (fun x l r Q' c1 c2 y1 y2=>?hf) (fun x l Q' q=>?hf0) (fun l Q' q=>wpS_pure q) (lo:=hint + l + 1) (hi:=hint + min o (n - hint)) (by omega) (by omega) (fun i hi=>up i (hint + l) (by omega) (by omega) a3) fun i hi1 hi2=>?_
   case hf =>
    dsimp only
    rw [if_neg (by omega)]
    refine wpS_bind (bey _ (by omega) _ ?_)
    cases hg:g (l + (r - l) / 2) with
    | true=>exact wpS_pure (y1 hg)
    | false=>exact wpS_pure (y2 hg)
   case hf0 =>
    dsimp only
    rw [if_pos (Nat.le_refl _)]
    exact wpS_pure q
   rcases a4 with a4 | a4
   ·omega
   ·exact dn _ i (by omega) hi2 a4
 | false =>
  dsimp only
  rw [if_neg (by simp)]
  refine wpS_bind (wpS_mono (wpS_forRange (I:=fun x c st'=>st' = st∧∃ l o,c = (none,l,o)∧l < o∧x < o∧l ≤ hint∧g (hint - l) = false)
   (Q:=fun c st'=>st' = st∧∃ l o,c = (none,l,o)∧l < o∧l ≤ hint∧g (hint - l) = false∧(hint + 1 ≤ o ∨ g (hint - o) = true)) ?step2 ?fin2 ⟨rfl,0,1,rfl,by omega,by omega,by omega,hgh⟩) ?post2)
  case fin2 =>
   rintro c st' ⟨rfl,l,o,rfl,a1,a2,a3,a4⟩
   exact ⟨rfl,l,o,rfl,a1,a3,a4,.inl (by omega)⟩
  case step2 =>
   rintro x c st' _ hx ⟨rfl,l,o,rfl,a1,a2,a3,a4⟩
   dsimp only
   by_cases hge:o ≥ hint + 1
   ·rw [if_pos hge]
    exact wpS_pure ⟨rfl,l,o,rfl,a1,a3,a4,.inl hge⟩
   ·rw [if_neg hge]
    refine wpS_bind (bey _ (by omega) _ ?_)
    cases hgo:g (hint - o) with
    | true=>exact wpS_pure ⟨rfl,l,o,rfl,a1,a3,a4,.inr hgo⟩
    | false=>exact wpS_pure ⟨rfl,o,_,rfl,by omega,by omega,by omega,hgo⟩
  case post2 =>
   rintro c st' ⟨rfl,l,o,rfl,a1,a2,a3,a4⟩
   dsimp only
   refine w_bis up h (fun x l r Q' c1 c2 y1 y2=>?hf2) (fun x l Q' q=>?hf02) (fun l Q' q=>wpS_pure q) (lo:=hint + 1 - min o (hint + 1)) (hi:=hint - l) (by omega) (by omega) (fun i hi=>?_) fun i hi1 hi2=>dn (hint - l) i (by omega) hi2 a3
   case hf2 =>
    dsimp only
    rw [if_neg (by omega)]
    refine wpS_bind (bey _ (by omega) _ ?_)
    cases hg:g (l + (r - l) / 2) with
    | true=>exact wpS_pure (y1 hg)
    | false=>exact wpS_pure (y2 hg)
   case hf02 =>
    dsimp only
    rw [if_pos (Nat.le_refl _)]
    exact wpS_pure q
   rcases a4 with a4 | a4
   ·omega
   ·exact up i (hint - o) (by omega) (by omega) a4
end
end So
namespace So
open PySem PyProof.Rows
def Le (R:Keyed→Int):Keyed→Keyed→Prop:=fun x y=>R x ≤ R y
def MS (R:Keyed→Int) (o la lb tot:List Keyed):Prop:=(o ++ la).Pairwise (Le R)∧(o ++ lb).Pairwise (Le R)∧(o ++ (la ++ lb)).Perm tot
def Fi (R:Keyed→Int) (l tot:List Keyed):Prop:=l.Pairwise (Le R)∧l.Perm tot
section
variable {R:Keyed→Int} {o la lb tot xs:List Keyed}
theorem MS.a (h:MS R o (xs ++ la) lb tot) (hx:∀ x ∈ xs,∀ y ∈ lb,R x ≤ R y):MS R (o ++ xs) la lb tot:=by
 obtain ⟨h1,h2,h3⟩:=h
 refine ⟨by rw [List.append_assoc]; exact h1,?_,by rw [List.append_assoc,← List.append_assoc xs]; exact h3⟩
 rw [List.append_assoc,List.pairwise_append]
 rw [List.pairwise_append] at h1 h2
 obtain ⟨o1,o2,o3⟩:=h1
 obtain ⟨p1,p2,p3⟩:=h2
 rw [List.pairwise_append] at o2
 refine ⟨o1,List.pairwise_append.mpr ⟨o2.1,p2,hx⟩,fun x m y n=>?_⟩
 rcases List.mem_append.mp n with n | n
 ·exact o3 x m y (List.mem_append_left _ n)
 ·exact p3 x m y n
theorem MS.b (h:MS R o la (xs ++ lb) tot) (hx:∀ x ∈ xs,∀ y ∈ la,R x ≤ R y):MS R (o ++ xs) la lb tot:=by
 have z:MS R o (xs ++ lb) la tot:=⟨h.2.1,h.1,(List.Perm.append_left _ List.perm_append_comm).trans h.2.2⟩
 have q:=z.a hx
 exact ⟨q.2.1,q.1,(List.Perm.append_left _ List.perm_append_comm).trans q.2.2⟩
theorem MS.endA (h:MS R o la [] tot):Fi R (o ++ la) tot:=⟨h.1,by have z:=h.2.2; rwa [List.append_nil] at z⟩
theorem MS.endB (h:MS R o [] lb tot):Fi R (o ++ lb) tot:=⟨h.2.1,h.2.2⟩
theorem MS.last (h:MS R o la lb tot) (hx:∀ y ∈ lb,∀ x ∈ la,R y ≤ R x):Fi R (o ++ lb ++ la) tot:=by
 obtain ⟨h1,h2,h3⟩:=h
 refine ⟨?_,?_⟩
 ·rw [List.append_assoc,List.pairwise_append]
  rw [List.pairwise_append] at h1 h2
  refine ⟨h1.1,List.pairwise_append.mpr ⟨h2.2.1,h1.2.1,hx⟩,fun x m y n=>?_⟩
  rcases List.mem_append.mp n with n | n
  ·exact h2.2.2 x m y n
  ·exact h1.2.2 x m y n
 ·rw [List.append_assoc]; exact (List.Perm.append_left _ List.perm_append_comm).trans h3
end
section
variable {a:Array Keyed} {R:Keyed→Int} {i k:Nat}
theorem jka {x:Keyed} (e:a[i]? = some x):a.toList.drop i = x :: a.toList.drop (i + 1):=by
 have hi:i < a.toList.length:=by
  rw [Array.length_toList]
  exact (Array.getElem?_eq_some_iff.mp e).1
 rw [List.drop_eq_getElem_cons hi]
 congr 1
 obtain ⟨h1,h2⟩:=Array.getElem?_eq_some_iff.mp e
 rw [← h2,Array.getElem_toList]
theorem jc2 (a:Array Keyed) (i k:Nat):(a.extract i k).toList = (a.toList.drop i).take (k - i):=by
 rw [Array.toList_extract]
theorem jh1 (a:Array Keyed) (i:Nat):(a.extract i a.size).toList = a.toList.drop i:=by
 rw [jc2]
 apply List.take_of_length_le
 rw [List.length_drop,Array.length_toList]
 exact Nat.le_refl _
theorem jl7 (a:Array Keyed) (i k:Nat):a.toList.drop i = (a.extract i (i + k)).toList ++ a.toList.drop (i + k):=by
 rw [jc2,Nat.add_sub_cancel_left,← List.drop_drop,List.take_append_drop]
theorem jnk {x:Keyed} (h:x ∈ (a.extract i (i + k)).toList):∃ j,j < k∧a[i + j]? = some x:=by
 rw [jc2,Nat.add_sub_cancel_left] at h
 obtain ⟨j,hj,e⟩:=List.getElem_of_mem h
 rw [List.getElem_take,List.getElem_drop] at e
 rw [List.length_take] at hj
 refine ⟨j,by omega,?_⟩
 rw [← e,← Array.getElem?_toList]
 exact List.getElem?_eq_getElem _
theorem jc1 {x:Keyed} (h:x ∈ a.toList.drop i):∃ j,i ≤ j∧j < a.size∧a[j]? = some x:=by
 obtain ⟨j,hj,e⟩:=List.getElem_of_mem h
 rw [List.getElem_drop] at e
 rw [List.length_drop,Array.length_toList] at hj
 refine ⟨i + j,by omega,by omega,?_⟩
 rw [← e,← Array.getElem?_toList]
 exact List.getElem?_eq_getElem _
theorem jb3 (h:i < a.size):∃ x,a[i]? = some x∧x ∈ a.toList:=⟨a[i],getElem?_pos _ i h,by simp⟩
theorem Up.le (u:Up R a 0 a.size) {j:Nat} {x y:Keyed} (hx:a[i]? = some x) (hy:a[j]? = some y) (h:i ≤ j):R x ≤ R y:=by
 have z:=u i j (Nat.zero_le _) h (Array.getElem?_eq_some_iff.mp hy).1
 rwa [jbw hx,jbw hy] at z
end
theorem jk7 {R:Keyed→Int} {key:Keyed} {v:Int} (h:gl R true key v = true):v < R key:=by unfold gl at h; simpa using h
theorem jgx {R:Keyed→Int} {key:Keyed} {v:Int} (h:gl R true key v = false):R key ≤ v:=by unfold gl at h; simpa using h
theorem jgy {R:Keyed→Int} {key:Keyed} {v:Int} (h:gl R false key v = true):v ≤ R key:=by unfold gl at h; simpa using h
theorem jf8 {R:Keyed→Int} {key:Keyed} {v:Int} (h:gl R false key v = false):R key < v:=by unfold gl at h; simpa using h
section
variable {M:Model} {A:Around} {E:Value→Shared→Prop} {s:Shared} {σ α:Type}
theorem jay {c:Prop} [Decidable c] {m n:StateT σ Sem α} {Q:α→σ→Prop} {st:σ} (h1:c→wpS M A E s m Q st) (h2:¬ c→wpS M A E s n Q st):wpS M A E s (if c then m else n) Q st:=by
 by_cases h:c
 ·rw [if_pos h]; exact h1 h
 ·rw [if_neg h]; exact h2 h
end
structure Lk (st st':SortSt):Prop where
 kind:kindOf st' = kindOf st
 arr:arrOf st' = arrOf st
 pend:pendingOf st' = pendingOf st
 ok:failedOf st' = failedOf st
theorem Lk.refl (st:SortSt):Lk st st:=⟨rfl,rfl,rfl,rfl⟩
theorem Lk.setg {st st':SortSt} (l:Lk st st') (g:Nat):Lk st (SortSt.mk' (kindOf st') (arrOf st') (pendingOf st') g (failedOf st')):=⟨l.kind,l.arr,l.pend,l.ok⟩
def setg:Nat→StateT SortSt Sem Unit:=sortPriv% PySem.Builtin.setMinGallop
section
variable {R:Keyed→Int} {a b out:Array Keyed} {ia ib k:Nat} {tot:List Keyed}
theorem pushB (m:MS R out.toList (a.toList.drop ia) (b.toList.drop ib) tot) {x:Keyed} (e:b[ib]? = some x) (h:∀ y ∈ a.toList.drop ia,R x ≤ R y):MS R (out.push x).toList (a.toList.drop ia) (b.toList.drop (ib + 1)) tot:=by
 rw [jka e] at m
 rw [Array.toList_push]
 refine MS.b (xs:=[x]) m fun z hz y hy=>?_
 rw [List.mem_singleton.mp hz]; exact h y hy
theorem pushA (m:MS R out.toList (a.toList.drop ia) (b.toList.drop ib) tot) {x:Keyed} (e:a[ia]? = some x) (h:∀ y ∈ b.toList.drop ib,R x ≤ R y):MS R (out.push x).toList (a.toList.drop (ia + 1)) (b.toList.drop ib) tot:=by
 rw [jka e] at m
 rw [Array.toList_push]
 refine MS.a (xs:=[x]) m fun z hz y hy=>?_
 rw [List.mem_singleton.mp hz]; exact h y hy
theorem appA (m:MS R out.toList (a.toList.drop ia) (b.toList.drop ib) tot) (h:∀ x ∈ (a.extract ia (ia + k)).toList,∀ y ∈ b.toList.drop ib,R x ≤ R y):MS R (out ++ a.extract ia (ia + k)).toList (a.toList.drop (ia + k)) (b.toList.drop ib) tot:=by
 rw [jl7 a ia k] at m
 rw [Array.toList_append]
 exact MS.a m h
theorem appB (m:MS R out.toList (a.toList.drop ia) (b.toList.drop ib) tot) (h:∀ x ∈ (b.extract ib (ib + k)).toList,∀ y ∈ a.toList.drop ia,R x ≤ R y):MS R (out ++ b.extract ib (ib + k)).toList (a.toList.drop ia) (b.toList.drop (ib + k)) tot:=by
 rw [jl7 b ib k] at m
 rw [Array.toList_append]
 exact MS.b m h
end
def mLo:Array Keyed→Array Keyed→StateT SortSt Sem (Array Keyed):=sortPriv% PySem.Builtin.mergeLo
def mHi:Array Keyed→Array Keyed→StateT SortSt Sem (Array Keyed):=sortPriv% PySem.Builtin.mergeHi
section
variable {prog:Program} {w:World} {A:Around} {E:Value→Shared→Prop} {s:Shared} {R:Keyed→Int} {κ:SortKind} {a₀:Array Keyed} {pd:Array (Nat × Nat × Nat)}
theorem jkj {st st':SortSt} {g:Nat} {Q:Unit→SortSt→Prop} (l:Lk st st') (h:∀ st2,Lk st st2→Q () st2):wpS (model prog w) A E s (setg g) Q st':=wpS_modify (h _ (l.setg g))
abbrev LoSt:=Option (Array Keyed) × Array Keyed × Nat × Nat × Nat
theorem w_mLo (C:Cm prog w A s R κ a₀) {st:SortSt} (hk:kindOf st = κ) {a b:Array Keyed} {tot:List Keyed} (ha:∀ x ∈ a.toList,x ∈ a₀.toList) (hb:∀ x ∈ b.toList,x ∈ a₀.toList) (ua:Up R a 0 a.size) (ub:Up R b 0 b.size)
  (na:1 ≤ a.size) (nb:1 ≤ b.size) (h0:∀ x y,b[0]? = some x→a[0]? = some y→R x < R y) (hl:∀ x y,x ∈ b.toList→a[a.size - 1]? = some y→R x < R y) (ht:(a.toList ++ b.toList).Perm tot)
  {Q:Array Keyed→SortSt→Prop} (h:∀ m st',Lk st st'→Fi R m.toList tot→Q m st'):wpS (model prog w) A E s (mLo a b) Q st:=by
 obtain ⟨b0,eb0,mb0⟩:=jb3 (a:=b) (i:=0) nb
 obtain ⟨a0,ea0,ma0⟩:=jb3 (a:=a) (i:=0) na
 have m0:MS R [b0] (a.toList.drop 0) (b.toList.drop 1) tot:=by
  have e:=jka eb0
  have z:MS R [] (a.toList.drop 0) ([b0] ++ b.toList.drop 1) tot:=by
   refine ⟨?_,?_,?_⟩
   ·rw [List.nil_append,List.drop_zero,List.pairwise_iff_getElem]
    intro i j hi hj hij
    rw [Array.length_toList] at hi hj
    exact ua.le (getElem?_pos a i hi) (getElem?_pos a j hj) (Nat.le_of_lt hij)
   ·rw [List.nil_append,List.singleton_append,← e,List.drop_zero,List.pairwise_iff_getElem]
    intro i j hi hj hij
    rw [Array.length_toList] at hi hj
    exact ub.le (getElem?_pos b i hi) (getElem?_pos b j hj) (Nat.le_of_lt hij)
   ·rw [List.nil_append,List.singleton_append,← e,List.drop_zero,List.drop_zero]; exact ht
  refine z.b fun x hx y hy=>?_
  rw [List.mem_singleton] at hx
  subst hx
  obtain ⟨j,j1,j2,j3⟩:=jc1 hy
  exact Int.le_of_lt (Int.lt_of_lt_of_le (h0 _ _ eb0 ea0) (ua.le ea0 j3 (Nat.zero_le _)))
 have dn:∀ (out:Array Keyed) (ia ib:Nat),MS R out.toList (a.toList.drop ia) (b.toList.drop ib) tot→(ia = a.size ∨ ib = b.size)→Fi R (out ++ a.extract ia a.size ++ b.extract ib b.size).toList tot:=by
  intro out ia ib m hor
  rw [Array.toList_append,Array.toList_append,jh1,jh1]
  rcases hor with e | e
  ·have e2:a.toList.drop ia = []:=by rw [e]; apply List.drop_of_length_le; rw [Array.length_toList]; exact Nat.le_refl _
   rw [e2] at m ⊢
   rw [List.append_nil]; exact m.endB
  ·have e2:b.toList.drop ib = []:=by rw [e]; apply List.drop_of_length_le; rw [Array.length_toList]; exact Nat.le_refl _
   rw [e2] at m ⊢
   rw [List.append_nil]; exact m.endA
 have ls:∀ (out:Array Keyed) (ia ib:Nat),MS R out.toList (a.toList.drop ia) (b.toList.drop ib) tot→ia + 1 = a.size→Fi R (out ++ b.extract ib b.size ++ a.extract ia a.size).toList tot:=by
  intro out ia ib m e
  rw [Array.toList_append,Array.toList_append,jh1,jh1]
  refine m.last fun y hy x hx=>?_
  obtain ⟨j,j1,j2,j3⟩:=jc1 hx
  have ej:j = a.size - 1:=by omega
  rw [ej] at j3
  exact Int.le_of_lt (hl _ _ (List.mem_of_mem_drop hy) j3)
 unfold mLo
 refine wpS_bind (wpS_lift (wpAny_rule ⟨rfl,?_⟩))
 refine wpS_bind (jb7 eb0 ?_)
 refine jay (fun c=>wpS_pure (h _ _ (.refl _) (dn _ _ _ m0 (.inr (by simpa using c))))) fun c1=>?_
 refine jay (fun c=>wpS_pure (h _ _ (.refl _) (ls _ _ _ m0 (by simpa using c)))) fun c2=>?_
 have c1':1 < b.size:=by simp at c1; omega
 have c2':1 < a.size:=by simp at c2; omega
 refine wpS_bind (wpS_get ?_)
 refine wpS_bind (wpS_mono (wpS_forRange (I:=fun x (c:LoSt) st'=>Lk st st'∧∃ out ia ib mg,c = (none,out,ia,ib,mg)∧MS R out.toList (a.toList.drop ia) (b.toList.drop ib) tot∧ia + 1 < a.size∧ib < b.size∧x < ia + ib)
  (Q:=fun (c:LoSt) st'=>Lk st st'∧∃ m out ia ib mg,c = (some m,out,ia,ib,mg)∧Fi R m.toList tot) ?step ?fin ⟨.refl _,#[b0],0,1,_,rfl,m0,by omega,by omega,by omega⟩) ?post)
 case fin =>
  rintro c st' ⟨l,out,ia,ib,mg,rfl,m,d1,d2,d3⟩
  omega
 case post =>
  rintro c st' ⟨l,m,out,ia,ib,mg,rfl,f⟩
  exact wpS_pure (h m st' l f)
 case step =>
  rintro x c st' _ hx ⟨l,out,ia,ib,mg,rfl,m,d1,d2,d3⟩
  refine wpS_bind (wpS_mono (wpS_forRange (I:=fun y (c:Option (Array Keyed) × Array Keyed × Nat × Nat × Nat × Nat) st2=>st2 = st'∧∃ out ia ib ac bc,c = (none,out,ia,ib,ac,bc)∧MS R out.toList (a.toList.drop ia) (b.toList.drop ib) tot∧ia + 1 < a.size∧ib < b.size∧x + min y 1 < ia + ib)
   (Q:=fun (c:Option (Array Keyed) × Array Keyed × Nat × Nat × Nat × Nat) st2=>st2 = st'∧((∃ m out ia ib ac bc,c = (some m,out,ia,ib,ac,bc)∧Fi R m.toList tot) ∨
    (∃ out ia ib ac bc,c = (none,out,ia,ib,ac,bc)∧MS R out.toList (a.toList.drop ia) (b.toList.drop ib) tot∧ia + 1 < a.size∧ib < b.size∧x + 1 < ia + ib))) ?s1 ?f1 ⟨rfl,out,ia,ib,0,0,rfl,m,d1,d2,by omega⟩) ?p1)
  case f1 =>
   rintro c st2 ⟨rfl,out,ia,ib,ac,bc,rfl,m,d1,d2,d3⟩
   exact ⟨rfl,.inr ⟨out,ia,ib,ac,bc,rfl,m,d1,d2,by omega⟩⟩
  case s1 =>
   rintro y c st2 _ hy ⟨rfl,out,ia,ib,ac,bc,rfl,m,d1,d2,d3⟩
   obtain ⟨bx,eb,mb⟩:=jb3 (a:=b) d2
   obtain ⟨ax,ea,ma⟩:=jb3 (a:=a) (i:=ia) (by omega)
   refine wpS_bind (jb7 eb ?_)
   refine wpS_bind (jb7 ea ?_)
   refine wpS_bind (w_lt C (l.kind.trans hk) (hb _ mb) (ha _ ma) ?_)
   by_cases hlt:R bx < R ax
   ·rw [decide_eq_true hlt]
    refine wpS_bind (jb7 eb ?_)
    have m2:=pushB m eb fun z hz=>by
     obtain ⟨j,j1,j2,j3⟩:=jc1 hz
     exact Int.le_of_lt (Int.lt_of_lt_of_le hlt (ua.le ea j3 j1))
    refine jay (fun c=>wpS_pure ⟨rfl,.inl ⟨_,_,_,_,_,_,rfl,dn _ _ _ m2 (.inr (by simpa using c))⟩⟩) fun c=>?_
    have c':ib + 1 < b.size:=by simp at c; omega
    have n1:x + 1 < ia + (ib + 1):=by omega
    have n2:x + min (y + 1) 1 < ia + (ib + 1):=by omega
    exact jay (fun _=>wpS_pure ⟨rfl,.inr ⟨_,_,_,_,_,rfl,m2,d1,c',n1⟩⟩) fun _=>wpS_pure ⟨rfl,_,_,_,_,_,rfl,m2,d1,c',n2⟩
   ·rw [decide_eq_false hlt]
    refine wpS_bind (jb7 ea ?_)
    have m2:=pushA m ea fun z hz=>by
     obtain ⟨j,j1,j2,j3⟩:=jc1 hz
     exact Int.le_trans (Int.not_lt.mp hlt) (ub.le eb j3 j1)
    refine jay (fun c=>wpS_pure ⟨rfl,.inl ⟨_,_,_,_,_,_,rfl,ls _ _ _ m2 (by simpa using c)⟩⟩) fun c=>?_
    have c':ia + 1 + 1 < a.size:=by simp at c; omega
    have n1:x + 1 < ia + 1 + ib:=by omega
    have n2:x + min (y + 1) 1 < ia + 1 + ib:=by omega
    exact jay (fun _=>wpS_pure ⟨rfl,.inr ⟨_,_,_,_,_,rfl,m2,c',d2,n1⟩⟩) fun _=>wpS_pure ⟨rfl,_,_,_,_,_,rfl,m2,c',d2,n2⟩
  case p1 =>
   rintro c st2 ⟨rfl,⟨m',out,ia,ib,ac,bc,rfl,f⟩ | ⟨out,ia,ib,ac,bc,rfl,m,d1,d2,d3⟩⟩
   ·exact wpS_pure ⟨l,m',_,_,_,_,rfl,f⟩
   ·refine wpS_bind (wpS_lift (wpAny_rule ⟨rfl,?_⟩))
    refine wpS_bind (wpS_mono (wpS_forRange (I:=fun y (c:Option (Array Keyed) × Array Keyed × Nat × Nat × Nat × Nat × Nat) st2=>Lk st st2∧∃ out ia ib mg ac bc,c = (none,out,ia,ib,mg,ac,bc)∧MS R out.toList (a.toList.drop ia) (b.toList.drop ib) tot∧ia + 1 < a.size∧ib < b.size∧x + 1 < ia + ib)
     (Q:=fun (c:Option (Array Keyed) × Array Keyed × Nat × Nat × Nat × Nat × Nat) st2=>Lk st st2∧((∃ m out ia ib mg ac bc,c = (some m,out,ia,ib,mg,ac,bc)∧Fi R m.toList tot) ∨
      (∃ out ia ib mg ac bc,c = (none,out,ia,ib,mg,ac,bc)∧MS R out.toList (a.toList.drop ia) (b.toList.drop ib) tot∧ia + 1 < a.size∧ib < b.size∧x + 1 < ia + ib))) ?s2 ?f2 ⟨l,out,ia,ib,_,ac,bc,rfl,m,d1,d2,d3⟩) ?p2)
    case f2 =>
     rintro c st3 ⟨l3,out,ia,ib,mg,ac,bc,rfl,m,d1,d2,d3⟩
     exact ⟨l3,.inr ⟨out,ia,ib,mg,ac,bc,rfl,m,d1,d2,d3⟩⟩
    case p2 =>
     rintro c st3 ⟨l3,⟨m',out,ia,ib,mg,ac,bc,rfl,f⟩ | ⟨out,ia,ib,mg,ac,bc,rfl,m,d1,d2,d3⟩⟩
     ·exact wpS_pure ⟨l3,m',_,_,_,_,rfl,f⟩
     ·exact wpS_bind (jkj l3 fun st4 l4=>wpS_pure ⟨l4,_,_,_,_,rfl,m,d1,d2,d3⟩)
    case s2 =>
     rintro y c st3 _ hy ⟨l2,out,ia,ib,mg,ac,bc,rfl,m,d1,d2,d3⟩
     obtain ⟨bx,eb,mb⟩:=jb3 (a:=b) d2
     refine jay (fun _=>?_) fun _=>?_
     all_goals
      refine wpS_bind (jkj l2 fun st4 l3=>?_)
      refine wpS_bind (jb7 eb ?_)
      refine wpS_bind (jcu (base:=ia) (n:=a.size - ia) (hint:=0) C (l3.kind.trans hk) (hb _ mb) (fun i hi=>by
       obtain ⟨z,z1,z2⟩:=jb3 (a:=a) (i:=ia + i) (by omega)
       exact ⟨z,z1,ha _ z2⟩) (by omega) (fun i j q1 q2 q3=>ua i j (Nat.zero_le _) q2 (by omega)) fun k k1 k2 k3=>?_)
      have lowA:∀ x ∈ (a.extract ia (ia + k)).toList,∀ y ∈ b.toList.drop ib,R x ≤ R y:=fun x hx y hy=>by
       obtain ⟨j,j1,j2⟩:=jnk hx
       obtain ⟨i,i1,i2,i3⟩:=jc1 hy
       have q:=jgy (k2 j j1)
       rw [jbw j2] at q
       exact Int.le_trans q (ub.le eb i3 i1)
      have upA:∀ y ∈ a.toList.drop (ia + k),R bx ≤ R y:=fun y hy=>by
       obtain ⟨i,i1,i2,i3⟩:=jc1 hy
       have q:=jf8 (k3 (i - ia) (by omega) (by omega))
       rw [show ia + (i - ia) = i by omega,jbw i3] at q
       exact Int.le_of_lt q
      have mk:=appA m lowA
      refine jay (fun ck=>?_) fun ck=>?_
      case' refine_1 =>
       refine jay (fun c=>wpS_pure ⟨l3,.inl ⟨_,_,_,_,_,_,_,rfl,ls _ _ _ mk (by simpa using c)⟩⟩) fun c3=>?_
       refine jay (fun c=>wpS_pure ⟨l3,.inl ⟨_,_,_,_,_,_,_,rfl,dn _ _ _ mk (.inl (by simpa using c))⟩⟩) fun c4=>?_
       have d4:ia + k + 1 < a.size:=by simp at c3 c4; omega
       have n1:∀ z,x + 1 < ia + k + 1 + (ib + 1 + z):=fun z=>by omega
       obtain ⟨ax,ea,ma⟩:=jb3 (a:=a) (i:=ia + k) (by omega)
      case' refine_2 =>
       have e0:k = 0:=by omega
       subst e0
       have d4:ia + 0 + 1 < a.size:=d1
       have n1:∀ z,x + 1 < ia + 0 + 1 + (ib + 1 + z):=fun z=>by omega
       replace mk:=m
       obtain ⟨ax,ea,ma⟩:=jb3 (a:=a) (i:=ia + 0) (by omega)
      all_goals
       refine wpS_bind (jb7 eb ?_)
       have m3:=pushB mk eb upA
       refine jay (fun c=>wpS_pure ⟨l3,.inl ⟨_,_,_,_,_,_,_,rfl,dn _ _ _ m3 (.inr (by simpa using c))⟩⟩) fun c5=>?_
       have d5:ib + 1 < b.size:=by simp at c5; omega
       refine wpS_bind (jb7 ea ?_)
       refine wpS_bind (jcu (base:=ib + 1) (n:=b.size - (ib + 1)) (hint:=0) C (l3.kind.trans hk) (ha _ ma) (fun i hi=>by
        obtain ⟨z,z1,z2⟩:=jb3 (a:=b) (i:=ib + 1 + i) (by omega)
        exact ⟨z,z1,hb _ z2⟩) (by omega) (fun i j q1 q2 q3=>ub i j (Nat.zero_le _) q2 (by omega)) fun k' j1 j2 j3=>?_)
       have m4:=appB (k:=k') m3 fun x hx y hy=>by
        obtain ⟨j,i1,i2⟩:=jnk hx
        obtain ⟨i,i3,i4,i5⟩:=jc1 hy
        have q:=jk7 (j2 j i1)
        rw [jbw i2] at q
        exact Int.le_of_lt (Int.lt_of_lt_of_le q (ua.le ea i5 i3))
       have upB:∀ y ∈ b.toList.drop (ib + 1 + k'),R ax ≤ R y:=fun y hy=>by
        obtain ⟨i,i1,i2,i3⟩:=jc1 hy
        have q:=jgx (j3 (i - (ib + 1)) (by omega) (by omega))
        rwa [show ib + 1 + (i - (ib + 1)) = i by omega,jbw i3] at q
       refine jay (fun ck=>?_) fun ck=>?_
       case' refine_1 =>
        refine jay (fun c=>wpS_pure ⟨l3,.inl ⟨_,_,_,_,_,_,_,rfl,dn _ _ _ m4 (.inr (by simpa using c))⟩⟩) fun c6=>?_
        have d6:ib + 1 + k' < b.size:=by simp at c6; omega
        have n2:=n1 k'
       case' refine_2 =>
        have e0:k' = 0:=by omega
        subst e0
        have d6:ib + 1 + 0 < b.size:=d5
        have n2:=n1 0
        replace m4:=m3
       all_goals
        refine wpS_bind (jb7 ea ?_)
        have m5:=pushA m4 ea upB
        refine jay (fun c=>wpS_pure ⟨l3,.inl ⟨_,_,_,_,_,_,_,rfl,ls _ _ _ m5 (by simpa using c)⟩⟩) fun c7=>?_
        have d7:=Nat.lt_of_le_of_ne (Nat.succ_le_of_lt d4) (by simpa using c7)
        exact jay (fun _=>wpS_pure ⟨l3,.inr ⟨_,_,_,_,_,_,rfl,m5,d7,d6,n2⟩⟩) fun _=>wpS_pure ⟨l3,_,_,_,_,_,_,rfl,m5,d7,d6,n2⟩
end
end So
namespace So
open PySem PyProof.Rows
def MH (R:Keyed→Int) (la lb o tot:List Keyed):Prop:=(la ++ o).Pairwise (Le R)∧(lb ++ o).Pairwise (Le R)∧(la ++ (lb ++ o)).Perm tot
section
variable {R:Keyed→Int} {o la lb tot xs:List Keyed}
theorem MH.a (h:MH R (la ++ xs) lb o tot) (hx:∀ x ∈ xs,∀ y ∈ lb,R y ≤ R x):MH R la lb (xs ++ o) tot:=by
 obtain ⟨h1,h2,h3⟩:=h
 refine ⟨by rw [← List.append_assoc]; exact h1,?_,?_⟩
 ·rw [List.append_assoc,List.pairwise_append] at h1
  rw [List.pairwise_append] at h2 ⊢
  refine ⟨h2.1,h1.2.1,fun y hy x hx2=>?_⟩
  rcases List.mem_append.mp hx2 with n | n
  ·exact hx x n y hy
  ·exact h2.2.2 y hy x n
 ·refine List.Perm.trans ?_ h3
  rw [List.append_assoc]
  refine List.Perm.append_left _ ?_
  rw [← List.append_assoc,← List.append_assoc]
  exact List.Perm.append_right _ List.perm_append_comm
theorem MH.swap (h:MH R la lb o tot):MH R lb la o tot:=by
 refine ⟨h.2.1,h.1,List.Perm.trans ?_ h.2.2⟩
 rw [← List.append_assoc,← List.append_assoc]
 exact List.Perm.append_right _ List.perm_append_comm
theorem MH.b (h:MH R la (lb ++ xs) o tot) (hx:∀ x ∈ xs,∀ y ∈ la,R y ≤ R x):MH R la lb (xs ++ o) tot:=(h.swap.a hx).swap
theorem MH.endB (h:MH R [] lb o tot):Fi R (lb ++ o) tot:=⟨h.2.1,h.2.2⟩
theorem MH.endA (h:MH R la [] o tot):Fi R (la ++ o) tot:=⟨h.1,h.2.2⟩
theorem MH.first (h:MH R la lb o tot) (hx:∀ y ∈ lb,∀ x ∈ la,R y ≤ R x):Fi R (lb ++ la ++ o) tot:=by
 obtain ⟨h1,h2,h3⟩:=h.swap
 refine ⟨?_,by rw [List.append_assoc]; exact h3⟩
 rw [List.append_assoc]
 rw [List.pairwise_append] at h1 h2 ⊢
 refine ⟨h1.1,List.pairwise_append.mpr h2,fun y hy x hx2=>?_⟩
 rcases List.mem_append.mp hx2 with n | n
 ·exact hx y hy x n
 ·exact h1.2.2 y hy x n
end
section
variable {a:Array Keyed} {R:Keyed→Int} {i k n:Nat}
theorem jmk {x:Keyed} (h:0 < n) (e:a[n - 1]? = some x):a.toList.take n = a.toList.take (n - 1) ++ [x]:=by
 have e2:a.toList[n - 1]? = some x:=by rw [Array.getElem?_toList]; exact e
 have z:a.toList.take (n - 1 + 1) = a.toList.take (n - 1) ++ a.toList[n - 1]?.toList:=List.take_succ
 rw [e2,Nat.sub_add_cancel h] at z
 exact z
theorem jkm (h:i ≤ n):a.toList.take n = a.toList.take i ++ (a.extract i n).toList:=by
 rw [jc2]
 have z:a.toList.take (i + (n - i)) = a.toList.take i ++ (a.toList.drop i).take (n - i):=List.take_add
 rwa [Nat.add_sub_cancel' h] at z
theorem ext0 (a:Array Keyed) (n:Nat):(a.extract 0 n).toList = a.toList.take n:=by rw [jc2]; rfl
theorem jc0 {x:Keyed} (h:x ∈ a.toList.take n):∃ j,j < n∧j < a.size∧a[j]? = some x:=by
 obtain ⟨j,hj,e⟩:=List.getElem_of_mem h
 rw [List.getElem_take] at e
 rw [List.length_take,Array.length_toList] at hj
 refine ⟨j,by omega,by omega,?_⟩
 rw [← e,← Array.getElem?_toList]
 exact List.getElem?_eq_getElem _
theorem jcc {x:Keyed} (h:x ∈ (a.extract i n).toList):∃ j,i ≤ j∧j < n∧a[j]? = some x:=by
 rw [jc2] at h
 obtain ⟨j,hj,e⟩:=List.getElem_of_mem h
 rw [List.getElem_take,List.getElem_drop] at e
 rw [List.length_take] at hj
 refine ⟨i + j,by omega,by omega,?_⟩
 rw [← e,← Array.getElem?_toList]
 exact List.getElem?_eq_getElem _
end
section
variable {R:Keyed→Int} {a b out:Array Keyed} {na nb k:Nat} {tot:List Keyed}
abbrev MHa (R:Keyed→Int) (a b:Array Keyed) (tot:List Keyed) (na nb:Nat) (out:Array Keyed):Prop:=MH R (a.toList.take na) (b.toList.take nb) out.toList.reverse tot
theorem jnx (m:MHa R a b tot na nb out) (h:0 < na) {x:Keyed} (e:a[na - 1]? = some x) (hx:∀ y ∈ b.toList.take nb,R y ≤ R x):MHa R a b tot (na - 1) nb (out.push x):=by
 unfold MHa at m ⊢
 rw [jmk h e] at m
 rw [Array.toList_push,List.reverse_append]
 exact m.a (xs:=[x]) fun z hz=>by rw [List.mem_singleton.mp hz]; exact hx
theorem jqb (m:MHa R a b tot na nb out) (h:0 < nb) {x:Keyed} (e:b[nb - 1]? = some x) (hx:∀ y ∈ a.toList.take na,R y ≤ R x):MHa R a b tot na (nb - 1) (out.push x):=by
 unfold MHa at m ⊢
 rw [jmk h e] at m
 rw [Array.toList_push,List.reverse_append]
 exact m.b (xs:=[x]) fun z hz=>by rw [List.mem_singleton.mp hz]; exact hx
theorem happA (m:MHa R a b tot na nb out) (h:k ≤ na) (hx:∀ x ∈ (a.extract k na).toList,∀ y ∈ b.toList.take nb,R y ≤ R x):MHa R a b tot k nb (out ++ (a.extract k na).reverse):=by
 unfold MHa at m ⊢
 rw [jkm h] at m
 rw [Array.toList_append,List.reverse_append,Array.toList_reverse,List.reverse_reverse]
 exact m.a hx
theorem happB (m:MHa R a b tot na nb out) (h:k ≤ nb) (hx:∀ x ∈ (b.extract k nb).toList,∀ y ∈ a.toList.take na,R y ≤ R x):MHa R a b tot na k (out ++ (b.extract k nb).reverse):=by
 unfold MHa at m ⊢
 rw [jkm h] at m
 rw [Array.toList_append,List.reverse_append,Array.toList_reverse,List.reverse_reverse]
 exact m.b hx
end
section
variable {prog:Program} {w:World} {A:Around} {E:Value→Shared→Prop} {s:Shared} {R:Keyed→Int} {κ:SortKind} {a₀:Array Keyed} {pd:Array (Nat × Nat × Nat)}
abbrev HiSt:=Option (Array Keyed) × Nat × Nat × Array Keyed × Nat
theorem w_mHi (C:Cm prog w A s R κ a₀) {st:SortSt} (hk:kindOf st = κ) {a b:Array Keyed} {tot:List Keyed} (ha:∀ x ∈ a.toList,x ∈ a₀.toList) (hb:∀ x ∈ b.toList,x ∈ a₀.toList) (ua:Up R a 0 a.size) (ub:Up R b 0 b.size)
  (na1:1 ≤ a.size) (nb1:1 ≤ b.size) (h0:∀ x y,b[0]? = some x→a[0]? = some y→R x < R y) (hl:∀ x y,x ∈ b.toList→a[a.size - 1]? = some y→R x < R y) (ht:(a.toList ++ b.toList).Perm tot)
  {Q:Array Keyed→SortSt→Prop} (h:∀ m st',Lk st st'→Fi R m.toList tot→Q m st'):wpS (model prog w) A E s (mHi a b) Q st:=by
 obtain ⟨al,eal,mal⟩:=jb3 (a:=a) (i:=a.size - 1) (by omega)
 obtain ⟨b0,eb0,mb0⟩:=jb3 (a:=b) (i:=0) nb1
 obtain ⟨a0,ea0,ma0⟩:=jb3 (a:=a) (i:=0) na1
 have alla:a.toList.take a.size = a.toList:=List.take_of_length_le (by rw [Array.length_toList]; exact Nat.le_refl _)
 have allb:b.toList.take b.size = b.toList:=List.take_of_length_le (by rw [Array.length_toList]; exact Nat.le_refl _)
 have m0:MHa R a b tot (a.size - 1) b.size #[al]:=by
  have z:MHa R a b tot a.size b.size #[]:=by
   refine ⟨?_,?_,?_⟩
   ·rw [show (#[]:Array Keyed).toList.reverse = [] from rfl,List.append_nil,alla,List.pairwise_iff_getElem]
    intro i j hi hj hij
    rw [Array.length_toList] at hi hj
    exact ua.le (getElem?_pos a i hi) (getElem?_pos a j hj) (Nat.le_of_lt hij)
   ·rw [show (#[]:Array Keyed).toList.reverse = [] from rfl,List.append_nil,allb,List.pairwise_iff_getElem]
    intro i j hi hj hij
    rw [Array.length_toList] at hi hj
    exact ub.le (getElem?_pos b i hi) (getElem?_pos b j hj) (Nat.le_of_lt hij)
   ·rw [show (#[]:Array Keyed).toList.reverse = [] from rfl,List.append_nil,alla,allb]; exact ht
  refine jnx z (by omega) eal fun y hy=>?_
  rw [allb] at hy
  exact Int.le_of_lt (hl _ _ hy eal)
 have dn:∀ (na nb:Nat) (out:Array Keyed),MHa R a b tot na nb out→(na = 0 ∨ nb = 0)→Fi R (a.extract 0 na ++ b.extract 0 nb ++ out.reverse).toList tot:=by
  intro na nb out m hor
  unfold MHa at m
  rw [Array.toList_append,Array.toList_append,ext0,ext0,Array.toList_reverse]
  rcases hor with e | e
  ·rw [e,List.take_zero] at m ⊢
   exact m.endB
  ·rw [e,List.take_zero] at m ⊢
   rw [List.append_nil]; exact m.endA
 have fs:∀ (na nb:Nat) (out:Array Keyed),MHa R a b tot na nb out→nb = 1→Fi R (b.extract 0 nb ++ a.extract 0 na ++ out.reverse).toList tot:=by
  intro na nb out m e
  unfold MHa at m
  rw [Array.toList_append,Array.toList_append,ext0,ext0,Array.toList_reverse]
  refine m.first fun y hy x hx=>?_
  obtain ⟨j,j1,j2,j3⟩:=jc0 hy
  obtain ⟨i,i1,i2,i3⟩:=jc0 hx
  have ej:j = 0:=by omega
  rw [ej] at j3
  exact Int.le_of_lt (Int.lt_of_lt_of_le (h0 _ _ j3 ea0) (ua.le ea0 i3 (Nat.zero_le _)))
 unfold mHi
 refine wpS_bind (wpS_lift (wpAny_rule ⟨rfl,?_⟩))
 refine wpS_bind (jb7 eal ?_)
 refine jay (fun c=>wpS_pure (h _ _ (.refl _) (dn _ _ _ m0 (.inl (by simpa using c))))) fun c1=>?_
 refine jay (fun c=>wpS_pure (h _ _ (.refl _) (fs _ _ _ m0 (by simpa using c)))) fun c2=>?_
 have c1':0 < a.size - 1:=by
  rcases Nat.eq_zero_or_pos (a.size - 1) with z | z
  ·exact absurd (by rw [z]; rfl) c1
  ·exact z
 have c2':1 < b.size:=by simp at c2; omega
 refine wpS_bind (wpS_get ?_)
 refine wpS_bind (wpS_mono (wpS_forRange (I:=fun x (c:HiSt) st'=>Lk st st'∧∃ na nb out mg,c = (none,na,nb,out,mg)∧MHa R a b tot na nb out∧0 < na∧na ≤ a.size∧1 < nb∧nb ≤ b.size∧x + na + nb < a.size + b.size)
  (Q:=fun (c:HiSt) st'=>Lk st st'∧∃ m na nb out mg,c = (some m,na,nb,out,mg)∧Fi R m.toList tot) ?step ?fin ⟨.refl _,a.size - 1,b.size,#[al],_,rfl,m0,c1',by omega,c2',Nat.le_refl _,by omega⟩) ?post)
 case fin =>
  rintro c st' ⟨l,na,nb,out,mg,rfl,m,d1,d2,d3,d4,d5⟩
  omega
 case post =>
  rintro c st' ⟨l,m,na,nb,out,mg,rfl,f⟩
  exact wpS_pure (h m st' l f)
 case step =>
  rintro x c st' _ hx ⟨l,na,nb,out,mg,rfl,m,d1,d2,d3,d4,d5⟩
  refine wpS_bind (wpS_mono (wpS_forRange (I:=fun y (c:Option (Array Keyed) × Nat × Nat × Array Keyed × Nat × Nat) st2=>st2 = st'∧∃ na nb out ac bc,c = (none,na,nb,out,ac,bc)∧MHa R a b tot na nb out∧0 < na∧na ≤ a.size∧1 < nb∧nb ≤ b.size∧x + min y 1 + na + nb < a.size + b.size)
   (Q:=fun (c:Option (Array Keyed) × Nat × Nat × Array Keyed × Nat × Nat) st2=>st2 = st'∧((∃ m na nb out ac bc,c = (some m,na,nb,out,ac,bc)∧Fi R m.toList tot) ∨
    (∃ na nb out ac bc,c = (none,na,nb,out,ac,bc)∧MHa R a b tot na nb out∧0 < na∧na ≤ a.size∧1 < nb∧nb ≤ b.size∧x + 1 + na + nb < a.size + b.size))) ?s1 ?f1 ⟨rfl,na,nb,out,0,0,rfl,m,d1,d2,d3,d4,by omega⟩) ?p1)
  case f1 =>
   rintro c st2 ⟨rfl,na,nb,out,ac,bc,rfl,m,d1,d2,d3,d4,d5⟩
   exact ⟨rfl,.inr ⟨na,nb,out,ac,bc,rfl,m,d1,d2,d3,d4,by omega⟩⟩
  case s1 =>
   rintro y c st2 _ hy ⟨rfl,na,nb,out,ac,bc,rfl,m,d1,d2,d3,d4,d5⟩
   obtain ⟨bx,eb,mb⟩:=jb3 (a:=b) (i:=nb - 1) (by omega)
   obtain ⟨ax,ea,ma⟩:=jb3 (a:=a) (i:=na - 1) (by omega)
   refine wpS_bind (jb7 eb ?_)
   refine wpS_bind (jb7 ea ?_)
   refine wpS_bind (w_lt C (l.kind.trans hk) (hb _ mb) (ha _ ma) ?_)
   by_cases hlt:R bx < R ax
   ·rw [decide_eq_true hlt]
    refine wpS_bind (jb7 ea ?_)
    have m2:=jnx m d1 ea fun z hz=>by
     obtain ⟨j,j1,j2,j3⟩:=jc0 hz
     exact Int.le_trans (ub.le j3 eb (by omega)) (Int.le_of_lt hlt)
    refine jay (fun c=>wpS_pure ⟨rfl,.inl ⟨_,_,_,_,_,_,rfl,dn _ _ _ m2 (.inl (by simpa using c))⟩⟩) fun c=>?_
    have c':0 < na - 1:=by
     rcases Nat.eq_zero_or_pos (na - 1) with z | z
     ·exact absurd (by rw [show (none,na,nb,out,ac,bc).snd.fst = na from rfl,z]; rfl) c
     ·exact z
    have n0:na - 1 ≤ a.size:=by omega
    have n1:x + 1 + (na - 1) + nb < a.size + b.size:=by omega
    have n2:x + min (y + 1) 1 + (na - 1) + nb < a.size + b.size:=by omega
    exact jay (fun _=>wpS_pure ⟨rfl,.inr ⟨_,_,_,_,_,rfl,m2,c',n0,d3,d4,n1⟩⟩) fun _=>wpS_pure ⟨rfl,_,_,_,_,_,rfl,m2,c',n0,d3,d4,n2⟩
   ·rw [decide_eq_false hlt]
    refine wpS_bind (jb7 eb ?_)
    have m2:=jqb m (by omega) eb fun z hz=>by
     obtain ⟨j,j1,j2,j3⟩:=jc0 hz
     exact Int.le_trans (ua.le j3 ea (by omega)) (Int.not_lt.mp hlt)
    refine jay (fun c=>wpS_pure ⟨rfl,.inl ⟨_,_,_,_,_,_,rfl,fs _ _ _ m2 (by simpa using c)⟩⟩) fun c=>?_
    have c':1 < nb - 1:=by
     have z:nb - 1 ≠ 1:=fun z=>c (by rw [show (none,na,nb,out,ac,bc).snd.snd.fst = nb from rfl,z]; rfl)
     omega
    have n0:nb - 1 ≤ b.size:=by omega
    have n1:x + 1 + na + (nb - 1) < a.size + b.size:=by omega
    have n2:x + min (y + 1) 1 + na + (nb - 1) < a.size + b.size:=by omega
    exact jay (fun _=>wpS_pure ⟨rfl,.inr ⟨_,_,_,_,_,rfl,m2,d1,d2,c',n0,n1⟩⟩) fun _=>wpS_pure ⟨rfl,_,_,_,_,_,rfl,m2,d1,d2,c',n0,n2⟩
  case p1 =>
   rintro c st2 ⟨rfl,⟨m',na,nb,out,ac,bc,rfl,f⟩ | ⟨na,nb,out,ac,bc,rfl,m,d1,d2,d3,d4,d5⟩⟩
   ·exact wpS_pure ⟨l,m',_,_,_,_,rfl,f⟩
   ·refine wpS_bind (wpS_lift (wpAny_rule ⟨rfl,?_⟩))
    refine wpS_bind (wpS_mono (wpS_forRange (I:=fun y (c:Option (Array Keyed) × Nat × Nat × Array Keyed × Nat × Nat × Nat) st2=>Lk st st2∧∃ na nb out mg ac bc,c = (none,na,nb,out,mg,ac,bc)∧MHa R a b tot na nb out∧0 < na∧na ≤ a.size∧1 < nb∧nb ≤ b.size∧x + 1 + na + nb < a.size + b.size)
     (Q:=fun (c:Option (Array Keyed) × Nat × Nat × Array Keyed × Nat × Nat × Nat) st2=>Lk st st2∧((∃ m na nb out mg ac bc,c = (some m,na,nb,out,mg,ac,bc)∧Fi R m.toList tot) ∨
      (∃ na nb out mg ac bc,c = (none,na,nb,out,mg,ac,bc)∧MHa R a b tot na nb out∧0 < na∧na ≤ a.size∧1 < nb∧nb ≤ b.size∧x + 1 + na + nb < a.size + b.size))) ?s2 ?f2 ⟨l,na,nb,out,_,ac,bc,rfl,m,d1,d2,d3,d4,d5⟩) ?p2)
    case f2 =>
     rintro c st3 ⟨l3,na,nb,out,mg,ac,bc,rfl,m,d⟩
     exact ⟨l3,.inr ⟨na,nb,out,mg,ac,bc,rfl,m,d⟩⟩
    case p2 =>
     rintro c st3 ⟨l3,⟨m',na,nb,out,mg,ac,bc,rfl,f⟩ | ⟨na,nb,out,mg,ac,bc,rfl,m,d⟩⟩
     ·exact wpS_pure ⟨l3,m',_,_,_,_,rfl,f⟩
     ·exact wpS_bind (jkj l3 fun st4 l4=>wpS_pure ⟨l4,_,_,_,_,rfl,m,d⟩)
    case s2 =>
     rintro y c st3 _ hy ⟨l2,na,nb,out,mg,ac,bc,rfl,m,d1,d2,d3,d4,d5⟩
     obtain ⟨bx,eb,mb⟩:=jb3 (a:=b) (i:=nb - 1) (by omega)
     refine jay (fun _=>?_) fun _=>?_
     all_goals
      refine wpS_bind (jkj l2 fun st4 l3=>?_)
      refine wpS_bind (jb7 eb ?_)
      refine wpS_bind (jcu (base:=0) (n:=na) (hint:=na - 1) C (l3.kind.trans hk) (hb _ mb) (fun i hi=>by
       obtain ⟨z,z1,z2⟩:=jb3 (a:=a) (i:=0 + i) (by omega)
       exact ⟨z,z1,ha _ z2⟩) (by omega) (fun i j q1 q2 q3=>ua i j (Nat.zero_le _) q2 (by omega)) fun k k1 k2 k3=>?_)
      have upA:∀ y ∈ a.toList.take k,R y ≤ R bx:=fun y hy=>by
       obtain ⟨j,j1,j2,j3⟩:=jc0 hy
       have q:=jgy (k2 j j1)
       rwa [Nat.zero_add,jbw j3] at q
      have mk:=happA m k1 fun x hx y hy=>by
       obtain ⟨j,j1,j2,j3⟩:=jcc hx
       obtain ⟨i,i1,i2,i3⟩:=jc0 hy
       have q:=jf8 (k3 j j1 j2)
       rw [Nat.zero_add,jbw j3] at q
       exact Int.le_trans (ub.le i3 eb (by omega)) (Int.le_of_lt q)
      refine jay (fun ck=>?_) fun ck=>?_
      case' refine_1 =>
       refine jay (fun c=>wpS_pure ⟨l3,.inl ⟨_,_,_,_,_,_,_,rfl,dn _ _ _ mk (.inl (by simpa using c))⟩⟩) fun c3=>?_
       have e1:0 < k:=by simp at c3; omega
       have e2:k ≤ a.size:=by omega
       have n1:∀ z,z ≤ nb - 1→x + 1 + (k - 1) + z < a.size + b.size:=fun z hz=>by omega
       obtain ⟨ax,ea,ma⟩:=jb3 (a:=a) (i:=k - 1) (by omega)
       have e3:∀ i,i < k→i ≤ k - 1:=fun i hi=>by omega
      case' refine_2 =>
       have e0:k = na:=by
        have ck':¬ na - k > 0:=ck
        omega
       subst e0
       have e1:=d1
       have e2:=d2
       have n1:∀ z,z ≤ nb - 1→x + 1 + (k - 1) + z < a.size + b.size:=fun z hz=>by omega
       replace mk:=m
       obtain ⟨ax,ea,ma⟩:=jb3 (a:=a) (i:=k - 1) (by omega)
       have e3:∀ i,i < k→i ≤ k - 1:=fun i hi=>by omega
      all_goals
       refine wpS_bind (jb7 eb ?_)
       have m3:=jqb mk (by omega) eb upA
       refine jay (fun c=>wpS_pure ⟨l3,.inl ⟨_,_,_,_,_,_,_,rfl,fs _ _ _ m3 (by simpa using c)⟩⟩) fun c5=>?_
       have d6:1 < nb - 1:=by
        have z:nb - 1 ≠ 1:=fun z=>c5 (by
         show (nb - 1 == 1) = true
         rw [z]; rfl)
        omega
       refine wpS_bind (jb7 ea ?_)
       refine wpS_bind (jcu (base:=0) (n:=nb - 1) (hint:=nb - 1 - 1) C (l3.kind.trans hk) (ha _ ma) (fun i hi=>by
        obtain ⟨z,z1,z2⟩:=jb3 (a:=b) (i:=0 + i) (by omega)
        exact ⟨z,z1,hb _ z2⟩) (by omega) (fun i j q1 q2 q3=>ub i j (Nat.zero_le _) q2 (by omega)) fun k' j1 j2 j3=>?_)
       have upB:∀ y ∈ b.toList.take k',R y ≤ R ax:=fun y hy=>by
        obtain ⟨i,i1,i2,i3⟩:=jc0 hy
        have q:=jk7 (j2 i i1)
        rw [Nat.zero_add,jbw i3] at q
        exact Int.le_of_lt q
       have m4:=happB m3 j1 fun x hx y hy=>by
        obtain ⟨j,i1,i2,i3⟩:=jcc hx
        obtain ⟨i,i4,i5,i6⟩:=jc0 hy
        have q:=jgx (j3 j i1 i2)
        rw [Nat.zero_add,jbw i3] at q
        exact Int.le_trans (ua.le i6 ea (e3 i i4)) q
       refine jay (fun ck2=>?_) fun ck2=>?_
       case' refine_1 =>
        refine jay (fun c=>wpS_pure ⟨l3,.inl ⟨_,_,_,_,_,_,_,rfl,fs _ _ _ m4 (by simpa using c)⟩⟩) fun c6=>?_
        refine jay (fun c=>wpS_pure ⟨l3,.inl ⟨_,_,_,_,_,_,_,rfl,dn _ _ _ m4 (.inr (by simpa using c))⟩⟩) fun c7=>?_
        have d7:1 < k':=by simp at c6 c7; omega
        have d8:k' ≤ b.size:=by omega
        have n2:=n1 k' j1
       case' refine_2 =>
        have e0:k' = nb - 1:=by
         have ck':¬ nb - 1 - k' > 0:=ck2
         omega
        subst e0
        replace m4:=m3
        have d7:=d6
        have d8:nb - 1 ≤ b.size:=by omega
        have n2:=n1 (nb - 1) (Nat.le_refl _)
       all_goals
        refine wpS_bind (jb7 ea ?_)
        have m5:=jnx m4 e1 ea upB
        refine jay (fun c=>wpS_pure ⟨l3,.inl ⟨_,_,_,_,_,_,_,rfl,dn _ _ _ m5 (.inl (by simpa using c))⟩⟩) fun c8=>?_
        have d9:0 < k - 1:=by
         rcases Nat.eq_zero_or_pos (k - 1) with z | z
         ·refine absurd ?_ c8
          show (k - 1 == 0) = true
          rw [z]; rfl
         ·exact z
        have d10:k - 1 ≤ a.size:=by omega
        exact jay (fun _=>wpS_pure ⟨l3,.inr ⟨_,_,_,_,_,_,rfl,m5,d9,d10,d7,d8,n2⟩⟩) fun _=>wpS_pure ⟨l3,_,_,_,_,_,_,rfl,m5,d9,d10,d7,d8,n2⟩
end
end So
namespace So
open PySem PyProof.Rows
def jby (off:Nat) (l:List (Keyed × Nat)) (xs:Array Keyed):Array Keyed:=l.foldl (fun a p=>a.setIfInBounds (off + p.2) p.1) xs
theorem jdu (off:Nat):∀ (m:List Keyed) (j:Nat) (xs:Array Keyed),off + j + m.length ≤ xs.size→∀ i,
  (jby off (m.zipIdx j) xs)[i]? = if off + j ≤ i∧i < off + j + m.length then m[i - (off + j)]? else xs[i]?
 | [],j,xs,_,i=>by rw [if_neg (by simp)]; rfl
 | p :: m,j,xs,h,i=>by
  rw [List.zipIdx_cons]
  show (jby off (m.zipIdx (j + 1)) (xs.setIfInBounds (off + j) p))[i]? = _
  rw [List.length_cons] at h ⊢
  rw [jdu off m (j + 1) _ (by rw [Array.size_setIfInBounds]; omega) i]
  by_cases c:i = off + j
  ·rw [if_neg (by omega),if_pos (by omega),c,Nat.sub_self,List.getElem?_cons_zero,Array.getElem?_setIfInBounds]
   rw [if_pos rfl,if_pos (by omega)]
  ·by_cases c2:off + j ≤ i∧i < off + j + (m.length + 1)
   ·rw [if_pos (by omega),if_pos c2,show i - (off + j) = i - (off + (j + 1)) + 1 by omega,List.getElem?_cons_succ]
   ·rw [if_neg (by omega),if_neg c2,Array.getElem?_setIfInBounds,if_neg (by omega)]
theorem jjm {off:Nat} {m:List Keyed} {xs:Array Keyed} (h:off + m.length ≤ xs.size) (hp:m.Perm ((xs.toList.drop off).take m.length)):(jby off (m.zipIdx 0) xs).Perm xs:=by
 rw [Array.perm_iff_toList_perm]
 have e:(jby off (m.zipIdx 0) xs).toList = xs.toList.take off ++ (m ++ xs.toList.drop (off + m.length)):=by
  apply List.ext_getElem?
  intro i
  have hlen:xs.toList.length = xs.size:=Array.length_toList
  rw [Array.getElem?_toList,jdu off m 0 xs (by omega),List.getElem?_append,List.length_take,hlen,Nat.min_eq_left (by omega)]
  by_cases c:i < off
  ·rw [if_neg (by omega),if_pos c,List.getElem?_take,if_pos c,Array.getElem?_toList]
  ·rw [if_neg c,List.getElem?_append]
   by_cases c2:i < off + m.length
   ·rw [if_pos (by omega),if_pos (by omega),Nat.add_zero]
   ·rw [if_neg (by omega),if_neg (by omega),List.getElem?_drop,Array.getElem?_toList,show off + m.length + (i - off - m.length) = i by omega]
 rw [e]
 have e2:xs.toList = xs.toList.take off ++ ((xs.toList.drop off).take m.length ++ xs.toList.drop (off + m.length)):=by
  rw [← List.drop_drop,List.take_append_drop,List.take_append_drop]
 conv=>rhs; rw [e2]
 exact List.Perm.append_left _ (List.Perm.append_right _ hp)
section
variable {prog:Program} {w:World} {A:Around} {E:Value→Shared→Prop} {s:Shared} {R:Keyed→Int} {κ:SortKind} {a₀:Array Keyed} {pd:Array (Nat × Nat × Nat)}
theorem w_set {σ:Type} {M:Model} {st0:σ} {Q:PUnit→σ→Prop} {st:σ} (h:Q ⟨⟩ st0):wpS M A E s (set st0:StateT σ Sem PUnit) Q st:=by
 unfold wpS; exact wpAny_pure ⟨rfl,h⟩
theorem Up.ext {xs:Array Keyed} {lo hi:Nat} (u:Up R xs lo hi) (h:hi ≤ xs.size):Up R (xs.extract lo hi) 0 (xs.extract lo hi).size:=fun i j _ h2 h3=>by
 rw [Array.size_extract] at h3
 have e:∀ k,k < hi - lo→(xs.extract lo hi)[k]? = xs[lo + k]?:=fun k hk=>by
  rw [Array.getElem?_extract]
  rw [if_pos (by omega)]
 rw [jfp (e i (by omega)),jfp (e j (by omega))]
 exact u _ _ (by omega) (by omega) (by omega)
theorem jmd (C:Cm prog w A s R κ a₀) {st:SortSt} (b:Bs κ a₀ pd st) {i:Nat} {sa na pa nb pb:Nat} (hp1:pd[i]? = some (sa,na,pa)) (hp2:pd[i + 1]? = some (sa + na,nb,pb))
  (h1:1 ≤ na) (h2:1 ≤ nb) (hs:sa + na + nb ≤ a₀.size) (ua:Up R (arrOf st) sa (sa + na)) (ub:Up R (arrOf st) (sa + na) (sa + na + nb)) {Q:Bool→SortSt→Prop}
  (h:∀ st',Bs κ a₀ ((pd.setIfInBounds i (sa,na + nb,pa)).eraseIdxIfInBounds (i + 1)) st'→(∀ j,(j < sa ∨ sa + na + nb ≤ j)→(arrOf st')[j]? = (arrOf st)[j]?)→Up R (arrOf st') sa (sa + na + nb)→Q true st') :
  wpS (model prog w) A E s (mergeAt' i) Q st:=by
 rcases st with ⟨kd,xs,pn,mg,fl⟩
 have e1:pn = pd:=b.pend
 have e2:kd = κ:=b.kind
 have e3:fl = none:=b.ok
 subst e1 e2 e3
 have hsz:xs.size = a₀.size:=b.size
 have hin:∀ x,x ∈ xs.toList→x ∈ a₀.toList:=fun x hx=>(Array.perm_iff_toList_perm.mp (show xs.Perm a₀ from b.perm)).mem_iff.mp hx
 change Up R xs sa (sa + na) at ua
 change Up R xs (sa + na) (sa + na + nb) at ub
 change ∀ st',_→(∀ j,_→(arrOf st')[j]? = xs[j]?)→_ at h
 generalize hpd':(pn.setIfInBounds i (sa,na + nb,pa)).eraseIdxIfInBounds (i + 1) = pd' at h
 have hle:∀ {i j:Nat} {x y:Keyed},xs[i]? = some x→xs[j]? = some y→kv R xs i ≤ kv R xs j→R x ≤ R y:=fun q1 q2 q3=>by rwa [jbw q1,jbw q2] at q3
 unfold mergeAt'
 refine wpS_bind (wpS_get ?_)
 dsimp only
 rw [hp1,hp2]
 refine wpS_bind (w_set ?_)
 rw [hpd']
 have st1:Bs kd a₀ pd' (SortSt.mk' kd xs pd' mg none):=⟨b.perm,rfl,rfl,rfl⟩
 obtain ⟨b0,eb0,mb0⟩:=jb3 (a:=xs) (i:=sa + na) (by omega)
 refine wpS_bind (jb7 eb0 ?_)
 refine wpS_bind (jcu (base:=sa) (n:=na) (hint:=0) C rfl (hin _ mb0) (fun i hi=>by
  obtain ⟨z,z1,z2⟩:=jb3 (a:=xs) (i:=sa + i) (by omega)
  exact ⟨z,z1,hin _ z2⟩) (by omega) ua fun k k1 k2 k3=>?_)
 have lowk:∀ j,sa ≤ j→j < sa + k→kv R xs j ≤ R b0:=fun j q1 q2=>by
  have q:=jgy (k2 (j - sa) (by omega))
  rwa [show sa + (j - sa) = j by omega] at q
 have upk:∀ j,sa + k ≤ j→j < sa + na→R b0 < kv R xs j:=fun j q1 q2=>by
  have q:=jf8 (k3 (j - sa) (by omega) (by omega))
  rwa [show sa + (j - sa) = j by omega] at q
 have upb:∀ j,sa + na ≤ j→j < sa + na + nb→R b0 ≤ kv R xs j:=fun j q1 q2=>by
  have q:=ub (sa + na) j (Nat.le_refl _) q1 q2
  rwa [jbw eb0] at q
 refine jay (fun c=>wpS_pure (h _ st1 (fun _ _=>rfl) ?_)) fun c1=>?_
 ·have ek:k = na:=by
   have c':na - k = 0:=by simpa using c
   omega
  intro i j q1 q2 q3
  show kv R xs i ≤ kv R xs j
  by_cases cj:j < sa + na
  ·exact ua i j q1 q2 cj
  ·by_cases ci:i < sa + na
   ·exact Int.le_trans (lowk i q1 (by omega)) (upb j (by omega) q3)
   ·exact ub i j (by omega) q2 q3
 have c1':k < na:=by
  have c':na - k ≠ 0:=by simpa using c1
  omega
 obtain ⟨al,eal,mal⟩:=jb3 (a:=xs) (i:=sa + k + (na - k) - 1) (by omega)
 refine wpS_bind (jb7 eal ?_)
 refine wpS_bind (jcu (base:=sa + na) (n:=nb) (hint:=nb - 1) C rfl (hin _ mal) (fun i hi=>by
  obtain ⟨z,z1,z2⟩:=jb3 (a:=xs) (i:=sa + na + i) (by omega)
  exact ⟨z,z1,hin _ z2⟩) (by omega) ub fun n2 j1 j2 j3=>?_)
 rw [show sa + k + (na - k) - 1 = sa + na - 1 by omega] at eal
 have lastA:∀ j,sa ≤ j→j < sa + na→kv R xs j ≤ R al:=fun j q1 q2=>by
  have q:=ua j (sa + na - 1) q1 (by omega) (by omega)
  rwa [jbw eal] at q
 have lowB:∀ j,sa + na ≤ j→j < sa + na + n2→kv R xs j < R al:=fun j q1 q2=>by
  have q:=jk7 (j2 (j - (sa + na)) (by omega))
  rwa [show sa + na + (j - (sa + na)) = j by omega] at q
 have upB:∀ j,sa + na + n2 ≤ j→j < sa + na + nb→R al ≤ kv R xs j:=fun j q1 q2=>by
  have q:=jgx (j3 (j - (sa + na)) (by omega) (by omega))
  rwa [show sa + na + (j - (sa + na)) = j by omega] at q
 refine jay (fun c=>wpS_pure (h _ st1 (fun _ _=>rfl) ?_)) fun c2=>?_
 ·have e2:n2 = 0:=by simpa using c
  intro i j q1 q2 q3
  show kv R xs i ≤ kv R xs j
  by_cases cj:j < sa + na
  ·exact ua i j q1 q2 cj
  ·by_cases ci:i < sa + na
   ·exact Int.le_trans (lastA i q1 ci) (upB j (by omega) q3)
   ·exact ub i j (by omega) q2 q3
 have c2':1 ≤ n2:=by
  have c':n2 ≠ 0:=by simpa using c2
  omega
 have hx:Up R (xs.extract (sa + k) (sa + na)) 0 (xs.extract (sa + k) (sa + na)).size:=Up.ext (fun i j q1 q2 q3=>ua i j (by omega) q2 q3) (by omega)
 have hy:Up R (xs.extract (sa + na) (sa + na + n2)) 0 (xs.extract (sa + na) (sa + na + n2)).size:=Up.ext (fun i j q1 q2 q3=>ub i j (by omega) q2 (by omega)) (by omega)
 have sx:(xs.extract (sa + k) (sa + na)).size = na - k:=by rw [Array.size_extract]; omega
 have sy:(xs.extract (sa + na) (sa + na + n2)).size = n2:=by rw [Array.size_extract]; omega
 have gx:∀ j,j < na - k→(xs.extract (sa + k) (sa + na))[j]? = xs[sa + k + j]?:=fun j hj=>by rw [Array.getElem?_extract,if_pos (by omega)]
 have gy:∀ j,j < n2→(xs.extract (sa + na) (sa + na + n2))[j]? = xs[sa + na + j]?:=fun j hj=>by rw [Array.getElem?_extract,if_pos (by omega)]
 have ix:∀ z ∈ (xs.extract (sa + k) (sa + na)).toList,z ∈ a₀.toList:=fun z hz=>by
  obtain ⟨j,q1,q2,q3⟩:=jcc hz
  obtain ⟨v,v1,v2⟩:=jb3 (a:=xs) (i:=j) (by omega)
  rw [q3] at v1
  cases v1
  exact hin _ v2
 have iy:∀ z ∈ (xs.extract (sa + na) (sa + na + n2)).toList,z ∈ a₀.toList:=fun z hz=>by
  obtain ⟨j,q1,q2,q3⟩:=jcc hz
  obtain ⟨v,v1,v2⟩:=jb3 (a:=xs) (i:=j) (by omega)
  rw [q3] at v1
  cases v1
  exact hin _ v2
 have p0:∀ x y,(xs.extract (sa + na) (sa + na + n2))[0]? = some x→(xs.extract (sa + k) (sa + na))[0]? = some y→R x < R y:=fun x y q1 q2=>by
  rw [gy 0 (by omega)] at q1
  rw [gx 0 (by omega)] at q2
  have q:=upk (sa + k + 0) (by omega) (by omega)
  rw [jbw q2] at q
  have e:x = b0:=by
   rw [Nat.add_zero,eb0] at q1
   cases q1; rfl
  rw [e]; exact q
 have pl:∀ x y,x ∈ (xs.extract (sa + na) (sa + na + n2)).toList→(xs.extract (sa + k) (sa + na))[(xs.extract (sa + k) (sa + na)).size - 1]? = some y→R x < R y:=fun x y q1 q2=>by
  rw [sx,gx _ (by omega),show sa + k + (na - k - 1) = sa + na - 1 by omega,eal] at q2
  cases q2
  obtain ⟨j,r1,r2,r3⟩:=jcc q1
  have q:=lowB j r1 r2
  rwa [jbw r3] at q
 have fini:∀ (m:Array Keyed) (st':SortSt),Lk (SortSt.mk' kd xs pd' mg none) st'→Fi R m.toList ((xs.extract (sa + k) (sa + na)).toList ++ (xs.extract (sa + na) (sa + na + n2)).toList) →
   Q true (SortSt.mk' (kindOf st') (jby (sa + k) (m.toList.zipIdx 0) (arrOf st')) (pendingOf st') (gallopOf st') (failedOf st'))∧failedOf st' = none:=by
  intro m st' l f
  have ea:arrOf st' = xs:=l.arr
  have hml:m.toList.length = na - k + n2:=by
   rw [f.2.length_eq,List.length_append,Array.length_toList,Array.length_toList,sx,sy]
  have hmz:∀ z ∈ m.toList,∃ j,sa + k ≤ j∧j < sa + na + n2∧xs[j]? = some z:=fun z hz=>by
   rcases List.mem_append.mp (f.2.mem_iff.mp hz) with q | q
   ·obtain ⟨j,q1,q2,q3⟩:=jcc q
    exact ⟨j,q1,by omega,q3⟩
   ·obtain ⟨j,q1,q2,q3⟩:=jcc q
    exact ⟨j,by omega,q2,q3⟩
  have hperm:(jby (sa + k) (m.toList.zipIdx 0) xs).Perm xs:=by
   refine jjm (by omega) (f.2.trans ?_)
   rw [hml,List.take_add,jc2,jc2,List.drop_drop,show sa + na - (sa + k) = na - k by omega,show sa + k + (na - k) = sa + na by omega,show sa + na + n2 - (sa + na) = n2 by omega]
  have hget:=jdu (sa + k) m.toList 0 xs (by omega)
  rw [hml] at hget
  refine ⟨h _ ⟨?_,l.kind,l.ok,l.pend⟩ ?_ ?_,l.ok⟩
  ·show (jby (sa + k) (m.toList.zipIdx 0) (arrOf st')).Perm a₀
   rw [ea]; exact hperm.trans b.perm
  ·intro j hj
   show (jby (sa + k) (m.toList.zipIdx 0) (arrOf st'))[j]? = xs[j]?
   rw [ea,hget,if_neg (by omega)]
  ·intro i j q1 q2 q3
   show kv R (jby (sa + k) (m.toList.zipIdx 0) (arrOf st')) i ≤ kv R (jby (sa + k) (m.toList.zipIdx 0) (arrOf st')) j
   rw [ea]
   have out:∀ i,¬ (sa + k ≤ i∧i < sa + na + n2)→kv R (jby (sa + k) (m.toList.zipIdx 0) xs) i = kv R xs i:=fun i hi=>jfp (by rw [hget,if_neg (by omega)])
   have ins:∀ i,sa + k ≤ i→i < sa + na + n2→∃ z,m.toList[i - (sa + k)]? = some z∧z ∈ m.toList∧kv R (jby (sa + k) (m.toList.zipIdx 0) xs) i = R z:=fun i hi1 hi2=>by
    have hlt:i - (sa + k) < m.toList.length:=by omega
    refine ⟨m.toList[i - (sa + k)],List.getElem?_eq_getElem hlt,List.getElem_mem _,jbw ?_⟩
    rw [hget,if_pos (by omega),Nat.add_zero]
    exact List.getElem?_eq_getElem hlt
   by_cases ci:sa + k ≤ i∧i < sa + na + n2
   ·obtain ⟨z,z1,z2,z3⟩:=ins i ci.1 ci.2
    obtain ⟨iz,y1,y2,y3⟩:=hmz z z2
    by_cases cj:sa + k ≤ j∧j < sa + na + n2
    ·obtain ⟨v,v1,v2,v3⟩:=ins j cj.1 cj.2
     rw [z3,v3]
     by_cases eij:i = j
     ·rw [eij] at z1
      rw [z1] at v1
      cases v1
      exact Int.le_refl _
     ·have hlt1:i - (sa + k) < m.toList.length:=by omega
      have hlt2:j - (sa + k) < m.toList.length:=by omega
      have q:=List.pairwise_iff_getElem.mp f.1 (i - (sa + k)) (j - (sa + k)) hlt1 hlt2 (by omega)
      rw [List.getElem?_eq_getElem hlt1] at z1
      rw [List.getElem?_eq_getElem hlt2] at v1
      cases z1
      cases v1
      exact q
    ·rw [z3,out j cj,← jbw (R:=R) y3]
     have hj2:sa + na + n2 ≤ j:=by omega
     refine Int.le_trans ?_ (upB j hj2 q3)
     by_cases cz:iz < sa + na
     ·exact lastA iz (by omega) cz
     ·exact Int.le_of_lt (lowB iz (by omega) y2)
   ·rw [out i ci]
    by_cases cj:sa + k ≤ j∧j < sa + na + n2
    ·obtain ⟨v,v1,v2,v3⟩:=ins j cj.1 cj.2
     obtain ⟨iz,y1,y2,y3⟩:=hmz v v2
     rw [v3,← jbw (R:=R) y3]
     refine Int.le_trans (lowk i q1 (by omega)) ?_
     by_cases cz:iz < sa + na
     ·exact Int.le_of_lt (upk iz y1 cz)
     ·exact upb iz (by omega) (by omega)
    ·rw [out j cj]
     by_cases c3:j < sa + na
     ·exact ua i j q1 q2 c3
     ·by_cases c4:i < sa + na
      ·exact Int.le_trans (lowk i q1 (by omega)) (upb j (by omega) q3)
      ·exact ub i j (by omega) q2 q3
 have close:∀ (m:Array Keyed) (st':SortSt),Lk (SortSt.mk' kd xs pd' mg none) st'→Fi R m.toList ((xs.extract (sa + k) (sa + na)).toList ++ (xs.extract (sa + na) (sa + na + n2)).toList) →
   Q (failedOf (SortSt.mk' (kindOf st') (jby (sa + k) (m.toList.zipIdx 0) (arrOf st')) (pendingOf st') (gallopOf st') (failedOf st'))).isNone (SortSt.mk' (kindOf st') (jby (sa + k) (m.toList.zipIdx 0) (arrOf st')) (pendingOf st') (gallopOf st') (failedOf st')):=by
  intro m st' l f
  obtain ⟨z1,z2⟩:=fini m st' l f
  show Q (failedOf st').isNone _
  rw [z2] at z1 ⊢
  exact z1
 refine jay (fun c=>?_) fun c=>?_
 ·exact wpS_bind (w_mLo C rfl ix iy hx hy (by omega) (by omega) p0 pl (List.Perm.refl _) fun m st' l f=>wpS_bind (wpS_modify (wpS_bind (wpS_get (wpS_pure (close m st' l f))))))
 ·exact wpS_bind (w_mHi C rfl ix iy hx hy (by omega) (by omega) p0 pl (List.Perm.refl _) fun m st' l f=>wpS_bind (wpS_modify (wpS_bind (wpS_get (wpS_pure (close m st' l f))))))
end
end So
namespace So
open PySem PyProof.Rows
def two (pd:Array (Nat × Nat × Nat)):List (Nat × Nat):=pd.toList.map fun t=>(t.1,t.2.1)
def Ch (R:Keyed→Int) (xs:Array Keyed):Nat→List (Nat × Nat)→Nat→Prop
 | p,[],q=>p = q
 | p,(s,n) :: r,q=>s = p∧1 ≤ n∧Up R xs s (s + n)∧Ch R xs (s + n) r q
section
variable {R:Keyed→Int} {xs ys:Array Keyed}
theorem Ch.app:∀ {l1 l2:List (Nat × Nat)} {p q:Nat},Ch R xs p (l1 ++ l2) q ↔ ∃ m,Ch R xs p l1 m∧Ch R xs m l2 q
 | [],l2,p,q=>⟨fun h=>⟨p,rfl,h⟩,fun ⟨m,e,h⟩=>by rw [show p = m from e]; exact h⟩
 | (s,n) :: l1,l2,p,q=>by
  show s = p∧1 ≤ n∧Up R xs s (s + n)∧Ch R xs (s + n) (l1 ++ l2) q ↔ _
  rw [Ch.app (l1:=l1)]
  exact ⟨fun ⟨a,b,c,m,d,e⟩=>⟨m,⟨a,b,c,d⟩,e⟩,fun ⟨m,⟨a,b,c,d⟩,e⟩=>⟨a,b,c,m,d,e⟩⟩
theorem Ch.le:∀ {l:List (Nat × Nat)} {p q:Nat},Ch R xs p l q→p + l.length ≤ q
 | [],p,q,h=>by rw [show p = q from h]; exact Nat.le_refl _
 | (s,n) :: l,p,q,⟨a,b,c,d⟩=>by
  have z:=Ch.le d
  rw [List.length_cons]; omega
theorem Up.like {lo hi:Nat} (u:Up R xs lo hi) (h:∀ i,lo ≤ i→i < hi→ys[i]? = xs[i]?):Up R ys lo hi:=fun i j h1 h2 h3=>by
 rw [jfp (h i h1 (by omega)),jfp (h j (by omega) h3)]
 exact u i j h1 h2 h3
theorem Ch.like:∀ {l:List (Nat × Nat)} {p q:Nat},Ch R xs p l q→(∀ i,p ≤ i→i < q→ys[i]? = xs[i]?)→Ch R ys p l q
 | [],p,q,h,_=>h
 | (s,n) :: l,p,q,⟨a,b,c,d⟩,e=>by
  have z:=Ch.le d
  exact ⟨a,b,c.like fun i h1 h2=>e i (by omega) (by omega),d.like fun i h1 h2=>e i (by omega) h2⟩
end
theorem split2 {α:Type} {l:List α} {i:Nat} (h:i + 1 < l.length):∃ P x y S,l = P ++ x :: y :: S∧P.length = i∧l[i]? = some x∧l[i + 1]? = some y:=by
 refine ⟨l.take i,l[i],l[i + 1],l.drop (i + 2),?_,by rw [List.length_take]; omega,List.getElem?_eq_getElem _,List.getElem?_eq_getElem _⟩
 rw [← List.drop_eq_getElem_cons,← List.drop_eq_getElem_cons,List.take_append_drop]
theorem mid {α:Type} {P S:List α} {x y v:α}:((P ++ x :: y :: S).set P.length v).eraseIdx (P.length + 1) = P ++ v :: S:=by
 rw [List.set_append_right _ _ (Nat.le_refl _),Nat.sub_self,List.set_cons_zero,List.eraseIdx_append_of_length_le (Nat.le_succ _),show P.length.succ - P.length = 1 by omega]
 rfl
section
variable {prog:Program} {w:World} {A:Around} {E:Value→Shared→Prop} {s:Shared} {R:Keyed→Int} {κ:SortKind} {a₀:Array Keyed} {pd:Array (Nat × Nat × Nat)}
theorem jhe (C:Cm prog w A s R κ a₀) {st:SortSt} (b:Bs κ a₀ pd st) {i lo:Nat} (ch:Ch R (arrOf st) 0 (two pd) lo) (hlo:lo ≤ a₀.size) (hi:i + 1 < pd.size) {Q:Bool→SortSt→Prop}
  (h:∀ st' pd',Bs κ a₀ pd' st'→pd'.size + 1 = pd.size→Ch R (arrOf st') 0 (two pd') lo→(∀ j,lo ≤ j→(arrOf st')[j]? = (arrOf st)[j]?)→Q true st'):wpS (model prog w) A E s (mergeAt' i) Q st:=by
 obtain ⟨P,x,y,S,e1,e2,e3,e4⟩:=split2 (l:=pd.toList) (i:=i) (by rw [Array.length_toList]; exact hi)
 obtain ⟨s1,n1,p1⟩:=x
 obtain ⟨s2,n2,p2⟩:=y
 rw [Array.getElem?_toList] at e3 e4
 unfold two at ch
 rw [e1,List.map_append,Ch.app] at ch
 obtain ⟨m,c1,c2⟩:=ch
 rw [List.map_cons,List.map_cons] at c2
 obtain ⟨z1,z2,z3,z4,z5,z6,z7⟩:=c2
 have z1':s1 = m:=z1
 have z4':s2 = s1 + n1:=z4
 subst z1' z4'
 have z5':1 ≤ n2:=z5
 have le2:=Ch.le z7
 have le2':s1 + n1 + n2 + (S.map fun t=>(t.1,t.2.1)).length ≤ lo:=le2
 have le1:=Ch.le c1
 refine jmd C b e3 e4 z2 z5' (by omega) z3 z6 fun st' b' hout u=>h st' _ b' ?_ ?_ fun j hj=>hout j (.inr (by omega))
 ·have q:((pd.setIfInBounds i (s1,n1 + n2,p1)).eraseIdxIfInBounds (i + 1)).toList.length + 1 = pd.toList.length:=by
   rw [Array.toList_eraseIdxIfInBounds,Array.toList_setIfInBounds,e1,← e2,mid]
   simp only [List.length_append,List.length_cons]
   omega
  rwa [Array.length_toList,Array.length_toList] at q
 ·unfold two
  rw [Array.toList_eraseIdxIfInBounds,Array.toList_setIfInBounds,e1,← e2,mid,List.map_append,Ch.app]
  refine ⟨s1,c1.like fun k q1 q2=>hout k (.inl q2),rfl,by show 1 ≤ n1 + n2; omega,?_,?_⟩
  ·show Up R (arrOf st') s1 (s1 + (n1 + n2))
   rw [← Nat.add_assoc]; exact u
  ·show Ch R (arrOf st') (s1 + (n1 + n2)) _ lo
   rw [← Nat.add_assoc]
   exact z7.like fun k q1 q2=>hout k (.inr q1)
theorem jor (x:Nat × Nat × Nat):two (pd.push x) = two pd ++ [(x.1,x.2.1)]:=by
 unfold two; rw [Array.toList_push,List.map_append]; rfl
theorem jqj (i p:Nat):two (pd.modify i fun x=>match x with | (a,n,_)=>(a,n,p)) = two pd:=by
 unfold two
 rw [Array.toList_modify]
 apply List.ext_getElem?
 intro j
 rw [List.getElem?_map,List.getElem?_map,List.getElem?_modify]
 cases pd.toList[j]? with
 | none=>rfl
 | some t =>
  obtain ⟨a,n,q⟩:=t
  by_cases c:i = j <;> simp [c]
theorem w_sort (C:Cm prog w A s R κ a₀) {st:SortSt} (b:Bs κ a₀ #[] st) (h1:1 ≤ a₀.size) {Q:Unit→SortSt→Prop}
  (h:∀ st',(arrOf st').Perm a₀→failedOf st' = none→Up R (arrOf st') 0 a₀.size→Q () st'):wpS (model prog w) A E s sortRuns' Q st:=by
 have pn:∀ {st:SortSt} {pd:Array (Nat × Nat × Nat)},Bs κ a₀ pd st→(sortPriv% PySem.Builtin.SortState.pending) st = pd:=fun b=>b.pend
 have sz:(sortPriv% PySem.Builtin.SortState.a) st = arrOf st:=rfl
 unfold sortRuns'
 refine wpS_bind (wpS_get ?_)
 rw [sz,b.size]
 refine wpS_bind (wpS_mono (wpS_forRange (I:=fun x (c:Option Unit × Nat) st'=>∃ lo pd,c = (none,lo)∧Bs κ a₀ pd st'∧Ch R (arrOf st') 0 (two pd) lo∧lo ≤ a₀.size∧min x a₀.size ≤ lo)
  (Q:=fun (c:Option Unit × Nat) st'=>∃ pd,c = (none,a₀.size)∧Bs κ a₀ pd st'∧Ch R (arrOf st') 0 (two pd) a₀.size) ?step ?fin ⟨0,#[],rfl,b,rfl,Nat.zero_le _,by omega⟩) ?post)
 case fin =>
  rintro c st' ⟨lo,pd,rfl,b',ch,q1,q2⟩
  have e:lo = a₀.size:=by omega
  subst e
  exact ⟨pd,rfl,b',ch⟩
 case post =>
  rintro c st' ⟨pd,rfl,b',ch⟩
  refine wpS_bind (wpS_mono (wpS_forRange (I:=fun x (c:Option Unit × Unit) st'=>∃ pd,c = (none,())∧Bs κ a₀ pd st'∧Ch R (arrOf st') 0 (two pd) a₀.size∧(pd.size + x ≤ a₀.size ∨ pd.size ≤ 1))
   (Q:=fun (c:Option Unit × Unit) st'=>∃ pd,c = (none,())∧Bs κ a₀ pd st'∧Ch R (arrOf st') 0 (two pd) a₀.size∧pd.size ≤ 1) ?s2 ?f2 ⟨pd,rfl,b',ch,?_⟩) ?p2)
  case f2 =>
   rintro c st2 ⟨pd,rfl,b2,ch2,q⟩
   exact ⟨pd,rfl,b2,ch2,by omega⟩
  case p2 =>
   rintro c st2 ⟨pd,rfl,b2,ch2,q⟩
   refine wpS_pure (h st2 b2.perm b2.ok ?_)
   match hl:two pd,ch2 with
   | [],e=>exact absurd (show 0 = a₀.size from e) (by omega)
   | [(p1,n1)],⟨e1,e2,e3,e4⟩ =>
    have e1':p1 = 0:=e1
    have e4':p1 + n1 = a₀.size:=e4
    rw [e4'] at e3
    rw [e1'] at e3
    exact e3
   | x :: y :: r,_ =>
    have z:(two pd).length = pd.size:=by unfold two; rw [List.length_map,Array.length_toList]
    rw [hl,List.length_cons,List.length_cons] at z
    omega
  case s2 =>
   rintro x c st2 _ hx ⟨pd,rfl,b2,ch2,q⟩
   refine wpS_bind (wpS_get ?_)
   rw [pn b2]
   refine jay (fun c=>wpS_pure ⟨pd,rfl,b2,ch2,c⟩) fun c=>?_
   refine wpS_bind (jhe C b2 ch2 (Nat.le_refl _) ?_ fun st3 pd3 b3 q3 ch3 _=>?_)
   ·exact (fun (c:Prop) [Decidable c]=>(by split <;> omega:(if c then pd.size - 2 - 1 else pd.size - 2) + 1 < pd.size)) _
   ·exact jay (fun c=>by cases c) fun _=>wpS_pure ⟨pd3,rfl,b3,ch3,by omega⟩
  ·have z:=Ch.le ch
   unfold two at z
   rw [List.length_map,Array.length_toList] at z
   omega
 case step =>
  rintro x c st' _ hx ⟨lo,pd,rfl,b',ch,q1,q2⟩
  refine jay (fun c=>?_) fun c=>?_
  ·have e:lo = a₀.size:=by
    have c':lo ≥ a₀.size:=c
    omega
   subst e
   exact wpS_pure ⟨pd,rfl,b',ch⟩
  have c':lo < a₀.size:=Nat.lt_of_not_le c
  refine wpS_bind (jqi (lo:=lo) (nrem:=a₀.size - lo) C (by omega) (by omega) b' fun m st2 b2 f2 m1 m2 u2=>?_)
  have ch2:Ch R (arrOf st2) 0 (two pd) lo:=ch.like fun i _ hi=>f2 i hi
  have push:∀ (n:Nat) (st4:SortSt) (pd4:Array (Nat × Nat × Nat)),Bs κ a₀ pd4 st4→Ch R (arrOf st4) 0 (two pd4) lo→Up R (arrOf st4) lo (lo + n)→1 ≤ n→lo + n ≤ a₀.size →
    ∃ lo' pd',((none,lo + n):Option Unit × Nat) = (none,lo')∧Bs κ a₀ pd' (SortSt.mk' (kindOf st4) (arrOf st4) ((pendingOf st4).push (lo,n,0)) (gallopOf st4) (failedOf st4))∧Ch R (arrOf st4) 0 (two pd') lo'∧lo' ≤ a₀.size∧min (x + 1) a₀.size ≤ lo':=by
   intro n st4 pd4 b4 ch4 u4 n1 n2
   refine ⟨lo + n,pd4.push (lo,n,0),rfl,⟨b4.perm,b4.kind,b4.ok,?_⟩,?_,n2,by omega⟩
   ·show (pendingOf st4).push (lo,n,0) = _
    rw [b4.pend]
   ·rw [jor,Ch.app]
    exact ⟨lo,ch4,rfl,n1,u4,rfl⟩
  refine jay (fun cm=>?_) fun cm=>?_
  case' refine_1 =>
   refine wpS_bind (wpS_lift (wpAny_rule ⟨rfl,?_⟩))
   refine wpS_bind (w_ins (lo:=lo) (n:=min (a₀.size - lo) (minRun' a₀.size a₀.size 0)) (ok:=m) C (by omega) (by
    have cm':m < minRun' a₀.size a₀.size 0:=cm
    omega) b2 u2 fun st3 b3 f3 u3=>?_)
   refine jay (fun c=>by cases c) fun _=>?_
   have ch3:Ch R (arrOf st3) 0 (two pd) lo:=ch2.like fun i _ hi=>f3 i hi
   have n1:1 ≤ min (a₀.size - lo) (minRun' a₀.size a₀.size 0):=by
    have cm':m < minRun' a₀.size a₀.size 0:=cm
    omega
   have n2:lo + min (a₀.size - lo) (minRun' a₀.size a₀.size 0) ≤ a₀.size:=by omega
   obtain ⟨n,hn⟩:∃ n,n = min (a₀.size - lo) (minRun' a₀.size a₀.size 0):=⟨_,rfl⟩
  case' refine_2 =>
   have ch3:=ch2
   have b3:=b2
   have u3:=u2
   have n1:=m1
   have n2:lo + m ≤ a₀.size:=by omega
   obtain ⟨n,hn⟩:∃ n,n = m:=⟨_,rfl⟩
  all_goals
   refine wpS_bind (wpS_get ?_)
   rw [pn b3]
   cases hb:pd.back? with
   | none=>exact wpS_bind (wpS_modify (wpS_pure (push _ _ _ b3 ch3 u3 n1 n2)))
   | some t =>
    obtain ⟨s1,k1,p1⟩:=t
    rw [← hn] at u3
    refine wpS_bind (wpS_mono (wpS_forRange (I:=fun y (c:Option Unit × Unit) st4=>c = (none,())∧∃ pd4,Bs κ a₀ pd4 st4∧Ch R (arrOf st4) 0 (two pd4) lo∧Up R (arrOf st4) lo (lo + n))
     (Q:=fun (c:Option Unit × Unit) st4=>c = (none,())∧∃ pd4,Bs κ a₀ pd4 st4∧Ch R (arrOf st4) 0 (two pd4) lo∧Up R (arrOf st4) lo (lo + n)) ?s4 (fun _ _ z=>z) ⟨rfl,pd,b3,ch3,u3⟩) ?p4)
    case s4 =>
     rintro y c st4 _ hy ⟨rfl,pd4,b4,ch4,u4⟩
     refine wpS_bind (wpS_get ?_)
     rw [pn b4]
     dsimp only
     by_cases c4:pd4.size > 1
     ·have e:(if pd4.size > 1 then pd4[pd4.size - 2]? else none) = some (pd4[pd4.size - 2]'(by omega)):=by rw [if_pos c4]; exact getElem?_pos _ _ (by omega)
      rw [e]
      obtain ⟨v1,v2,v3⟩:=pd4[pd4.size - 2]'(by omega)
      refine jay (fun _=>wpS_pure ⟨rfl,pd4,b4,ch4,u4⟩) fun _=>?_
      refine wpS_bind (jhe C b4 ch4 (by omega) (by omega) fun st5 pd5 b5 _ ch5 o5=>?_)
      exact jay (fun c=>by cases c) fun _=>wpS_pure ⟨rfl,pd5,b5,ch5,u4.like fun i h1 _=>o5 i h1⟩
     ·rw [if_neg c4]
      exact wpS_pure ⟨rfl,pd4,b4,ch4,u4⟩
    case p4 =>
     rintro c st4 ⟨rfl,pd4,b4,ch4,u4⟩
     rw [hn] at u4
     refine wpS_bind (wpS_modify (wpS_bind (wpS_modify (wpS_pure ?_))))
     refine push _ _ _ ⟨b4.perm,b4.kind,b4.ok,rfl⟩ ?_ u4 n1 n2
     refine (congrArg (fun z=>Ch R (arrOf st4) 0 z lo) (jqj (pd:=pendingOf st4) _ _)).mpr ?_
     rw [b4.pend]
     exact ch4
end
end So
namespace So
open PySem PyProof.Rows
section
variable {prog:Program} {w:World} {A:Around} {E:Value→Shared→Prop} {s:Shared}
theorem jke (vs:List Value):vs.zip vs = vs.map fun v=>(v,v):=by
 induction vs with
 | nil=>rfl
 | cons v vs ih=>rw [List.zip_cons_cons,ih,List.map_cons]
theorem Up.all {R:Keyed→Int} {xs:Array Keyed} (u:Up R xs 0 xs.size):xs.toList.Pairwise (Le R):=by
 rw [List.pairwise_iff_getElem]
 intro i j hi hj hij
 rw [Array.length_toList] at hi hj
 exact u.le (getElem?_pos xs i hi) (getElem?_pos xs j hj) (Nat.le_of_lt hij)
theorem out_of {R:Keyed→Int} {vs:List Value} {xs:Array Keyed} (p:xs.Perm (pairsOf vs)) (u:Up R xs 0 xs.size):(xs.map (·.2)).toList.Perm vs∧(xs.map (·.2)).toList.Pairwise fun a b=>R (a,a) ≤ R (b,b):=by
 have hp:xs.toList.Perm (vs.map fun v=>(v,v)):=by rw [← jke,← pairsOf_toList]; exact Array.perm_iff_toList_perm.mp p
 rw [Array.toList_map]
 refine ⟨?_,?_⟩
 ·have z:=hp.map (·.2)
  rw [List.map_map] at z
  have e:vs.map ((fun x:Keyed=>x.2) ∘ fun v=>(v,v)) = vs:=by
   rw [show ((fun x:Keyed=>x.2) ∘ fun v=>(v,v)) = id from rfl,List.map_id]
  rwa [e] at z
 ·rw [List.pairwise_map]
  refine List.Pairwise.imp_of_mem ?_ u.all
  intro a b ha hb hab
  obtain ⟨v,_,rfl⟩:=List.mem_map.mp (hp.mem_iff.mp ha)
  obtain ⟨u',_,rfl⟩:=List.mem_map.mp (hp.mem_iff.mp hb)
  exact hab
def Asks (prog:Program) (w:World) (s:Shared) (vs:List Value) (R:Keyed→Int) (κ:SortKind):Prop :=
 ∀ (A:Around) (h':Heap),(∀ b o,s.heap.get? b = some o→h'.get? b = some o) →
  (∀ (Q:SortKind→Shared→Prop) (E:Value→Shared→Prop),Q κ { s with heap:=h' }→wpAny (model prog w) A (keyKind' vs.toArray) Q E { s with heap:=h' })∧Cm prog w A { s with heap:=h' } R κ (pairsOf vs)
theorem jqm {a:Addr} {vs:List Value} {n:Nat} {P:PySem.Fin→Shared→Prop} {R:Keyed→Int} {κ:SortKind} {h₁:Heap} (ho:s.heap.get? a = some (seqObj "list" vs.toArray n)) (hz:vs.length ≤ sizeLine)
  (hold:∀ b o,h₁.get? b = some o→b ≠ a∧s.heap.get? b = some o) (hk:2 ≤ vs.length→Asks prog w { s with heap:=h₁ } vs R κ)
  (h:∀ out:Array Value,out.toList.Perm vs→out.toList.Pairwise (fun a b=>R (a,a) ≤ R (b,b))→P (.done (.ret .none)) { s with heap:=sortedHeap s.heap a vs out }) :
  wpAny (model prog w) A (Builtin.«list.sort» ⟨[.ref a],[]⟩) P E s:=by
 rw [list_sort_plain]
 have ha:a < s.heap.objs.size:=Heap.lt_size ho
 have hz1:vs.toArray.size ≤ sizeLine:=by rw [List.size_toArray]; exact hz
 refine wpAny_bind (listItems_at ho rfl (wpAny_bind (listUpdate_at ho rfl ?_ hz1 (Nat.zero_le _))))
 obtain ⟨e1,ho1⟩:∃ e1,(s.heap.update a (Obj.mapSeq fun _=>(#[]:Array Value))).get? a = some (seqObj "list" #[] e1):=⟨_,get?_update_seq ho fun _=>#[]⟩
 refine wpAny_bind (seqEpoch_at ho1 rfl (wpAny_bind (wpAny_newTuple (wpAny_bind (wpAny_newList (wpAny_holding ?_) (Nat.zero_le _))) hz)))
 have keep:∀ b o,b ≠ a→s.heap.get? b = some o→(((s.heap.update a (Obj.mapSeq fun _=>(#[]:Array Value))).push (seqObj "tuple" vs.toArray 0)).push (seqObj "list" #[] 0)).get? b = some o:=fun b o hne q =>
  Heap.get?_push_of_some _ (Heap.get?_push_of_some _ (by rw [Heap.get?_update_ne _ _ _ _ hne]; exact q))
 have ho6:(((s.heap.update a (Obj.mapSeq fun _=>(#[]:Array Value))).push (seqObj "tuple" vs.toArray 0)).push (seqObj "list" #[] 0)).get? a = some (seqObj "list" #[] e1):=Heap.get?_push_of_some _ (Heap.get?_push_of_some _ ho1)
 show wpAny (model prog w) A _ P E { s with heap:=((s.heap.update a (Obj.mapSeq fun _=>(#[]:Array Value))).push (seqObj "tuple" vs.toArray 0)).push (seqObj "list" #[] 0) }
 dsimp only
 have fin:∀ st':SortSt,(arrOf st').Perm (pairsOf vs)→Up R (arrOf st') 0 (arrOf st').size→P (.done (.ret .none)) { s with heap:=sortedHeap s.heap a vs ((arrOf st').map (·.2)) }:=fun st' p u=>by
  obtain ⟨z1,z2⟩:=out_of p u
  exact h _ z1 z2
 by_cases c2:vs.toArray.size < 2
 ·rw [if_pos c2,if_pos c2]
  refine wpAny_bind (wpAny_pure ?_)
  rw [StateT.run_pure]
  refine wpAny_bind (wpAny_pure (wpAny_bind (seqEpoch_at ho6 rfl (wpAny_bind (listUpdate_at ho6 rfl ?_ (Nat.zero_le _) (by rw [Array.size_map]; show (pairsOf vs).size ≤ _; rw [pairsOf_size]; exact Nat.le_succ_of_le hz))))))
  simp only [bne_self_eq_false,Bool.false_eq_true,if_false]
  refine wpAny_pure (fin (SortSt.mk' general' (vs.toArray.zip vs.toArray) #[] 7 none) (Array.Perm.refl _) (Up.one ?_))
  show (pairsOf vs).size ≤ 1
  rw [pairsOf_size]
  rw [List.size_toArray] at c2
  omega
 ·rw [if_neg c2,if_neg c2]
  rw [List.size_toArray] at c2
  obtain ⟨k1,k2⟩:=hk (by omega) A _ fun b o q=>keep b o (hold b o q).1 (hold b o q).2
  refine wpAny_bind (k1 _ _ ?_)
  have k3:=w_sort (E:=E) (st:=SortSt.mk' κ (pairsOf vs) #[] 7 none) (Q:=fun _ st'=>(arrOf st').Perm (pairsOf vs)∧failedOf st' = none∧Up R (arrOf st') 0 (pairsOf vs).size) k2 ⟨Array.Perm.refl _,rfl,rfl,rfl⟩ (by rw [pairsOf_size]; omega) fun st' a1 a2 a3=>⟨a1,a2,a3⟩
  refine wpAny_bind (wpAny_mono k3 ?_ fun _ _ e=>e)
  rintro ⟨⟨⟩,st'⟩ s' ⟨rfl,hp,hf,hs⟩
  dsimp only
  refine wpAny_bind (seqEpoch_at ho6 rfl (wpAny_bind (listUpdate_at ho6 rfl ?_ (Nat.zero_le _) (by refine Nat.le_trans (Nat.le_of_eq ((Array.size_map ..).trans (hp.size_eq.trans (pairsOf_size _)))) (Nat.le_succ_of_le hz)))))
  rw [hf]
  simp only [bne_self_eq_false,Bool.false_eq_true,if_false]
  rw [← hp.size_eq] at hs
  exact wpAny_pure (fin st' hp hs)
theorem jms {l:Addr} {vs:List Value} {Q:Value→Shared→Prop} {R:Keyed→Int} {κ:SortKind} (hl:s.heap.IsList l vs.toArray) (hz:vs.length ≤ sizeLine) (hk:2 ≤ vs.length→Asks prog w s vs R κ)
  (h:∀ out:Array Value,out.toList.Perm vs→out.toList.Pairwise (fun a b=>R (a,a) ≤ R (b,b))→Q (.ref (s.heap.objs.size + 1)) { s with heap:=sortedAll s.heap vs out }) :
  wpAny (model prog w) A (call (.builtin "sorted") [.ref l]) Q E s:=by
 refine Calls.call_function_entry kind_sorted plain_sorted entry_sorted (args_sorted1 _) ?_
 unfold Builtin.«sorted»
 refine wpAny_bind (m:=checkCount "sorted" 1 1 _) (wpAny_pure (wpAny_bind (collect_list hl (wpAny_bind (wpAny_newList ?_ hz)) hz)))
 have hsz:((s.heap.push (seqObj "list" #[] 0)).update s.heap.objs.size (Obj.mapSeq (· ++ vs.toArray))).objs.size = s.heap.objs.size + 1:=by rw [Heap.size_update,size_push']
 generalize hh:((s.heap.push (seqObj "list" #[] 0)).update s.heap.objs.size (Obj.mapSeq (· ++ vs.toArray))).push (seqObj "list" vs.toArray 0) = h2
 have hoL:h2.get? (s.heap.objs.size + 1) = some (seqObj "list" vs.toArray 0):=by rw [← hh,← hsz]; exact Heap.get?_push_size _ rfl
 have keep:∀ b o,s.heap.get? b = some o→b ≠ s.heap.objs.size + 1∧h2.get? b = some o:=fun b o q=>by
  have hlt:b < s.heap.objs.size:=Heap.lt_size q
  refine ⟨Nat.ne_of_lt (Nat.lt_succ_of_lt hlt),?_⟩
  rw [← hh]
  exact Heap.get?_push_of_some _ (by rw [Heap.get?_update_ne _ _ _ _ (Nat.ne_of_lt hlt)]; exact Heap.get?_push_of_some _ q)
 show wpAny _ _ _ _ _ { s with heap:=h2 }
 rw [hsz]
 refine wpAny_bind (wpAny_holding (wpAny_call_entry slot_list_sort ⟨_,hoL,rfl⟩ entry_list_sort (jqm (s:={ s with heap:=h2 }) (h₁:=s.heap) hoL hz keep hk fun out p1 p2=>⟨_,rfl,?_⟩) (args_list_sort _)))
 refine wpAny_pure ⟨_,rfl,?_⟩
 have z:=h out p1 p2
 unfold sortedAll at z
 rw [hh] at z
 exact z
def PairAt (h:Heap) (v:Value) (x y:Int):Prop:=∃ a o t u n,v = .ref a∧h.get? a = some o∧o.cls = .type "tuple"∧o.data = .seq #[.int x t,.int y u] n
theorem jit {h:Heap}:∀ {vs:List Value},(∀ v ∈ vs,∃ x y,PairAt h v x y)→∃ fs,PySem.W.KatTups h vs fs∧fs.length = vs.length∧∀ f ∈ fs,∃ i t,f = .int i t
 | [],_=>⟨[],trivial,rfl,fun _ q=>by cases q⟩
 | v :: vs,hv=>by
  obtain ⟨fs,h1,h2,h3⟩:=jit (vs:=vs) fun v m=>hv v (.tail _ m)
  obtain ⟨x,y,a,o,t,u,n,rfl,e1,e2,e3⟩:=hv v (.head _)
  refine ⟨.int x t :: fs,.cons e1 e2 e3 rfl h1,by rw [List.length_cons,List.length_cons,h2],fun f m=>?_⟩
  rcases List.mem_cons.mp m with rfl | m
  ·exact ⟨x,t,rfl⟩
  ·exact h3 f m
theorem jnl {B x y x' y':Int} (h1:0 ≤ y) (h2:y < B) (h3:0 ≤ y') (h4:y' < B):x * B + y < x' * B + y' ↔ x < x' ∨ (x = x'∧y < y'):=by
 constructor
 ·intro h
  rcases Int.lt_trichotomy x x' with c | c | c
  ·exact .inl c
  ·subst c; exact .inr ⟨rfl,by omega⟩
  ·exfalso
   have q:(x' + 1) * B ≤ x * B:=Int.mul_le_mul_of_nonneg_right (by omega) (by omega)
   rw [Int.add_mul,Int.one_mul] at q
   omega
 ·rintro (c | ⟨rfl,c⟩)
  ·have q:(x + 1) * B ≤ x' * B:=Int.mul_le_mul_of_nonneg_right (by omega) (by omega)
   rw [Int.add_mul,Int.one_mul] at q
   omega
  ·omega
theorem jm5 {vs:List Value} {R:Keyed→Int} {B:Int} (hv:∀ v ∈ vs,∃ x y,PairAt s.heap v x y∧R (v,v) = x * B + y∧0 ≤ y∧y < B) (h2:2 ≤ vs.length):Asks prog w s vs R (tuples' true):=by
 intro A h' keep
 refine ⟨fun Q E q=>?_,fun x y hx hy Q E q=>?_⟩
 ·obtain ⟨fs,k1,k2,k3⟩:=jit (h:=h') (vs:=vs) fun v m=>by
   obtain ⟨x,y,⟨a,o,t,u,n,e0,e1,e2⟩,_⟩:=hv v m
   exact ⟨x,y,a,o,t,u,n,e0,keep _ _ e1,e2⟩
  refine PySem.W.kat_kind (T:=.type "int") k1 (by omega) (fun f m=>?_) rfl q
  obtain ⟨i,t,rfl⟩:=k3 f m
  exact PySem.W.Looks.of_pure rfl
 ·rw [pairsOf_toList,jke] at hx hy
  obtain ⟨v,mv,rfl⟩:=List.mem_map.mp hx
  obtain ⟨u,mu,rfl⟩:=List.mem_map.mp hy
  obtain ⟨x1,y1,⟨a,o,t1,t2,n,rfl,e1,e2,e3⟩,r1,r2,r3⟩:=hv v mv
  obtain ⟨x2,y2,⟨b,p,t3,t4,m,rfl,e4,e5,e6⟩,r4,r5,r6⟩:=hv u mu
  rw [r1,r4] at q
  have lx:=jnl (x:=x1) (x':=x2) r2 r3 r5 r6
  refine PySem.W.kat_lt (b:=true) (s:={ s with heap:=h' }) (keep _ _ e1) e3 (keep _ _ e4) e6 ?_
  refine PySem.W.kat_cons (wpAny_eqBool_int ?_)
  by_cases c:x1 = x2
  ·rw [show (x1 == x2) = true by rw [c]; exact beq_self_eq_true _]
   refine PySem.W.kat_yes (PySem.W.kat_cons (wpAny_eqBool_int ?_))
   by_cases c2:y1 = y2
   ·rw [show (y1 == y2) = true by rw [c2]; exact beq_self_eq_true _]
    refine PySem.W.kat_yes (PySem.W.kat_nil ?_)
    rw [show decide (x1 * B + y1 < x2 * B + y2) = false by rw [decide_eq_false_iff_not,lx]; omega] at q
    exact q
   ·rw [show (y1 == y2) = false by rw [beq_eq_false_iff_ne]; exact c2]
    refine PySem.W.kat_no (PySem.W.kat_one _ _ (lt_int ?_))
    rw [show decide (x1 * B + y1 < x2 * B + y2) = decide (y1 < y2) by rw [decide_eq_decide,lx]; omega] at q
    exact q
  ·rw [show (x1 == x2) = false by rw [beq_eq_false_iff_ne]; exact c]
   refine PySem.W.kat_no (oneLt_int ?_)
   rw [show decide (x1 * B + y1 < x2 * B + y2) = decide (x1 < x2) by rw [decide_eq_decide,lx]; omega] at q
   exact q
end
end So
namespace L2
open PySem PySem.Spec PyProof.Rows
def jly (a b:Int × Int):Prop:=a.1 < b.1 ∨ (a.1 = b.1∧a.2 ≤ b.2)
def pvOf (H:Hp):Value→Int × Int
 | .ref a=>match H a with
  | some (.tup [.int x,.int y])=>(x,y)
  | _=>(0,0)
 | _=>(0,0)
def tvOf:Value→V
 | .ref a=>.ref a
 | _=>.non
def jmy:List V→Hp→VK→Prop:=fun vs H Q=>∃ (p:Addr) (xs:List V) (ps:List (Int × Int)) (B:Int),vs = [.ref p]∧H p = some (.lst xs)∧Prs H xs ps∧xs.length ≤ 1000∧(∀ q ∈ ps,0 ≤ q.2∧q.2 < B) ∧
 ∀ (l:Addr) (ys:List V) (qs:List (Int × Int)),H l = none→Prs H ys qs→qs.Perm ps→qs.Pairwise jly→Q (.ref l) (upd H l (.lst ys))
theorem jmf {H:Hp}:∀ {xs:List V} {its:List Value} {ps:List (Int × Int)},Vals xs its→Prs H xs ps→its.map (pvOf H) = ps∧∀ v ∈ its,RelV (tvOf v) v∧Pr H (tvOf v) (pvOf H v)
 | _,_,_,.nil,.nil=>⟨rfl,fun _ m=>by cases m⟩
 | _,_,_,.cons r t,.cons q u=>by
  obtain ⟨e1,e2⟩:=jmf t u
  obtain ⟨a,rfl,ea⟩:=q
  cases r
  rename_i b _
  have e:pvOf H (.ref a) = b:=by unfold pvOf; dsimp only; rw [ea]
  refine ⟨?_,fun v m=>?_⟩
  ·rw [List.map_cons,e1,e]
  ·rcases List.mem_cons.mp m with rfl | m
   ·rw [e]; exact ⟨rfl,a,rfl,ea⟩
   ·exact e2 v m
theorem joh {H:Hp}:∀ {us:List Value},(∀ v ∈ us,RelV (tvOf v) v∧Pr H (tvOf v) (pvOf H v))→Vals (us.map tvOf) us∧Prs H (us.map tvOf) (us.map (pvOf H))
 | [],_=>⟨.nil,.nil⟩
 | v :: us,h=>by
  obtain ⟨a,b⟩:=joh (us:=us) fun v m=>h v (.tail _ m)
  obtain ⟨c,d⟩:=h v (.head _)
  exact ⟨.cons c a,.cons d b⟩
theorem jg8 {X:Cx}:jbi X (.builtin "sorted") jmy:=by
 intro pins s σ H xs us Q I r h
 obtain ⟨p,xs,ps,B,rfl,e,pp,hz,hB,q⟩:=h
 obtain ⟨u,rfl,rx⟩:=jhg r
 cases rx
 obtain ⟨its,r',pl,_⟩:=I.list (SqL.of e)
 have hlen:=r'.length
 obtain ⟨m1,m2⟩:=jmf r' pp
 have hz2:(1000:Nat) ≤ sizeLine:=by decide
 have hpv:∀ v ∈ its,pvOf H v ∈ ps:=fun v m=>by rw [← m1]; exact List.mem_map_of_mem m
 refine So.jms (R:=fun k=>(pvOf H k.1).1 * B + (pvOf H k.1).2) pl.isList (by omega) (fun h2=>So.jm5 (B:=B) (fun v m=>?_) h2) fun out o1 o2=>?_
 ·obtain ⟨a,ea,eh⟩:=(m2 v m).2
  have ev:v = .ref a:=by
   have z:=(m2 v m).1
   rw [ea] at z
   exact z
  obtain ⟨_,is2,rv,ob,eo,ec,n,en⟩:=I.hok _ _ eh
  match is2,rv with
  | _,.cons ⟨t1,e1⟩ (.cons ⟨t2,e2⟩ .nil) =>
   subst e1 e2
   exact ⟨(pvOf H v).1,(pvOf H v).2,⟨a,ob,t1,t2,n,ev,eo,ec,en⟩,rfl,hB _ (hpv v m)⟩
 ·obtain ⟨c,hc⟩:=sortedAll_at s.heap its out
  obtain ⟨b1,b2⟩:=joh (H:=H) (us:=out.toList) fun v m=>m2 v (o1.mem_iff.mp m)
  have hol:=o1.length_eq
  refine ⟨.ref (s.heap.objs.size + 1),_,I.laid (t':=s.toks) (fun _ _=>sortedAll_old) (Nat.le_succ _) (show jb2 X.prog X.w _ _ _ (.lst (out.toList.map tvOf)) from ⟨?_,out.toList,c,b1,?_⟩),rfl,q _ _ (out.toList.map (pvOf H)) (I.hok.fresh (Nat.le_succ _)) b2 ?_ ?_⟩
  ·rw [List.length_map]; omega
  ·rw [hc]
  ·have z:=o1.map (pvOf H)
   rwa [m1] at z
  ·rw [List.pairwise_map]
   refine List.Pairwise.imp_of_mem ?_ o2
   intro u v mu mv huv
   have g1:=hB _ (hpv u (o1.mem_iff.mp mu))
   have g2:=hB _ (hpv v (o1.mem_iff.mp mv))
   have z:=So.jnl (x:=(pvOf H v).1) (x':=(pvOf H u).1) g2.1 g2.2 g1.1 g1.2
   have z2:¬ ((pvOf H v).1 < (pvOf H u).1 ∨ ((pvOf H v).1 = (pvOf H u).1∧(pvOf H v).2 < (pvOf H u).2)):=fun w=>by
    have:=z.mpr w
    dsimp only at huv
    omega
   unfold jly
   omega
end L2
namespace L2
open PySem PySem.Spec PyProof.Rows
def rSum:List V→Hp→VK→Prop:=fun vs H Q=>∃ (p:Addr) (ns:List Int),vs = [.ref p]∧H p = some (.lst (ns.map V.int))∧Q (.int ns.sum) H
theorem jlk {X:Cx} (hc:X.calm = true):jbi X (.builtin "sum") rSum:=by
 intro pins s σ H xs us Q I r h
 obtain ⟨p,ns,rfl,e,q⟩:=h
 obtain ⟨u,rfl,rx⟩:=jhg r
 cases rx
 obtain ⟨its,r',pl,_⟩:=I.list (SqL.of e)
 have hI:=jc7 r'
 obtain ⟨zs,hz⟩:=hI.allInts.items
 have hn:=hI.numsOf
 have hl:=pl.isList
 rw [hz] at hl
 refine sum_intListG (I.ok.hd hc) hl fun h' tk t' hk=>?_
 have e2:preSum (numAt zs) zs.size = ns.sum:=by
  rw [preSum_eq,List.take_of_length_le (by simp),← hn,← nums_intItems,← hz]
 rw [e2]
 exact ⟨.int ns.sum,H,I.kept hk,⟨t',rfl⟩,q⟩
def fIsB (f:Bool→Bool):R2:=fun x y H Q=>match x,y with
 | .bl a,.bl b=>Q (.bl (f (a == b))) H
 | _,_=>False
end L2
namespace L2
open PySem PySem.Spec PyProof.Rows
def leL:List Int→List Int→Bool
 | [],_=>true
 | _ :: _,[]=>false
 | x :: xs,y :: ys=>if x = y then leL xs ys else decide (x ≤ y)
section
open PySem.SeqAt
open PySem.AutoSeq1 (wpAny_loadPart')
open PySem.MeetsSeq PySem.MeetsSeq2 PySem.MeetsSeq3
end
section
variable {X:Cx} {a b c:Expr} {ta tb tc:TE} {pos:Pos}
end
def fLeT:R2:=fun x y H Q=>match x,y with
 | .ref a,.ref b=>match H a,H b with
  | some (.tup [.int i,.int j]),some (.tup [.int k,.int l])=>Q (.bl (leL [i,j] [k,l])) H
  | _,_=>False
 | _,_=>False
end L2
namespace My
open PySem L2
theorem sl0:(0 ≤ sizeLine) = True:=eq_true (by decide)
theorem sl1:(1 ≤ sizeLine) = True:=eq_true (by decide)
theorem sl2:(2 ≤ sizeLine) = True:=eq_true (by decide)
theorem sl3:(3 ≤ sizeLine) = True:=eq_true (by decide)
theorem sl4:(4 ≤ sizeLine) = True:=eq_true (by decide)
end My
local macro_rules | `(tactic| walk_at "RD") => `(tactic| try simp only [L2.jel, L2.je0, L2.fLeT, L2.fIsB, L2.tSeq, L2.jja, L2.jjb, L2.tRet, L2.jlh, L2.tIfS, L2.tAsg, L2.jf9, L2.fAug, L2.tOp, L2.tUn, L2.tC, L2.fVar, L2.fI, L2.fIC, L2.fNeg, L2.fEq, L2.fNe, L2.fIsN, L2.jk6, L2.fAnd, L2.fOr, L2.fNot, L2.fB, L2.tNot, L2.tAnd, L2.tOr, L2.jfb, L2.fIx, L2.fLen, L2.jcp, L2.fMin, L2.fMax, L2.fInL, L2.fSlL, L2.tSl, L2.jk8, L2.jd6, L2.jcq, L2.fBM, L2.jiu, L2.gSub, L2.jh0, L2.jdl, L2.jgz, L2.jm1, L2.jg5, L2.jeo, L2.jek, L2.fCat, L2.jg6, L2.fBM0, L2.fSlT, L2.jiv, L2.tCBK, L2.fDIn, L2.jk9, L2.fIsi, L2.jd5, L2.je4, L2.fLtT, L2.jjc, L2.tCB, L2.jdr, L2.tNil, L2.tTup, L2.tLst, L2.tIf, L2.jj9, L2.Kd.nm, L2.jd8, List.map_cons, List.map_nil, List.length_cons, List.length_nil, Nat.reduceAdd, Nat.reduceSub, List.replicate_succ, List.replicate_zero, List.getElem?_cons_zero, List.getElem?_cons_succ, List.set_cons_zero, List.set_cons_succ, List.append_nil, List.nil_append, List.cons_append, eq_self, true_and, and_true, if_true, Bool.false_eq_true, if_false, Bool.not_true, Bool.not_false, id_eq, My.sl0, My.sl1, My.sl2, My.sl3, My.sl4])
local macro_rules | `(tactic| simp_arith [$args,*]) => `(tactic| try simp only [L2.jel, L2.je0, L2.fLeT, L2.fIsB, L2.tSeq, L2.jja, L2.jjb, L2.tRet, L2.jlh, L2.tIfS, L2.tAsg, L2.jf9, L2.fAug, L2.tOp, L2.tUn, L2.tC, L2.fVar, L2.fI, L2.fIC, L2.fNeg, L2.fEq, L2.fNe, L2.fIsN, L2.jk6, L2.fAnd, L2.fOr, L2.fNot, L2.fB, L2.tNot, L2.tAnd, L2.tOr, L2.jfb, L2.fIx, L2.fLen, L2.jcp, L2.fMin, L2.fMax, L2.fInL, L2.fSlL, L2.tSl, L2.jk8, L2.jd6, L2.jcq, L2.fBM, L2.jiu, L2.gSub, L2.jh0, L2.jdl, L2.jgz, L2.jm1, L2.jg5, L2.jeo, L2.jek, L2.fCat, L2.jg6, L2.fBM0, L2.fSlT, L2.jiv, L2.tCBK, L2.fDIn, L2.jk9, L2.fIsi, L2.jd5, L2.je4, L2.fLtT, L2.jjc, L2.tCB, L2.jdr, L2.tNil, L2.tTup, L2.tLst, L2.tIf, L2.jj9, L2.Kd.nm, L2.jd8, List.map_cons, List.map_nil, List.length_cons, List.length_nil, Nat.reduceAdd, Nat.reduceSub, List.replicate_succ, List.replicate_zero, List.getElem?_cons_zero, List.getElem?_cons_succ, List.set_cons_zero, List.set_cons_succ, List.append_nil, List.nil_append, List.cons_append, eq_self, true_and, and_true, if_true, Bool.false_eq_true, if_false, Bool.not_true, Bool.not_false, id_eq, My.sl0, My.sl1, My.sl2, My.sl3, My.sl4, $args,*])
namespace My
open PySem L2
theorem szl {n:Nat} (h:n ≤ 1000):n ≤ sizeLine:=Nat.le_trans h (by decide)
theorem szl' {n:Nat} (h:n ≤ 1000):n < sizeLine:=Nat.lt_of_le_of_lt h (by decide)
def top (i:Nat):Stmt:=PySem.Challenge.pw_touchall_k36_folds_that_fit.main.body.getD i (.Pass ⟨0,0,0,0⟩)
structure DefAt (K:PySem.W.Frag) (mg:Str→Option Value) (x:Str) (st:Stmt) (ps:List Str) (f:Addr) (fd:FuncData):Prop where
 F:Fun K x x st f fd
 b:jfr K fd ps []
 m:mg x = some (.ref f)
structure Blt (mg:Str→Option Value):Prop where
 len:mg "len" = none
 isinstance:mg "isinstance" = none
 all:mg "all" = none
 min:mg "min" = none
 list:mg "list" = none
 dict:mg "dict" = none
 int:mg "int" = none
 bool:mg "bool" = none
 str:mg "str" = none
 tuple:mg "tuple" = none
 range:mg "range" = none
 enumerate:mg "enumerate" = none
 zip:mg "zip" = none
 max:mg "max" = none
 any:mg "any" = none
 sum:mg "sum" = none
 sorted:mg "sorted" = none
 set:mg "set" = none
structure Cst (mg:Str→Option Value) (t1 t2 t3 t4:Tok):Prop where
 MOST_PLACES:mg "MOST_PLACES" = some (.int 40 t1)
 MOST_TIES:mg "MOST_TIES" = some (.int 120 t2)
 LAST_PLACE:mg "LAST_PLACE" = some (.int 999 t3)
 MOST_PRICE:mg "MOST_PRICE" = some (.int 1000000000000 t4)
section
variable {P:Program} {w:World} {K:PySem.W.Frag} {mg:Str→Option Value} {base:Heap} {c1 c2 c3 c4:Tok}
theorem at0 {α:Type} {x:α} {r:List α}:atI (x :: r) 0 = some x:=by
 have e:atI (x :: r) ((0:Nat):Int) = some x:=jdb rfl
 exact e
theorem at1 {α:Type} {x y:α} {r:List α}:atI (x :: y :: r) 1 = some y:=by
 have e:atI (x :: y :: r) ((1:Nat):Int) = some y:=jdb rfl
 exact e
theorem at2 {α:Type} {x y z:α} {r:List α}:atI (x :: y :: z :: r) 2 = some z:=by
 have e:atI (x :: y :: z :: r) ((2:Nat):Int) = some z:=jdb rfl
 exact e
def jd2:Kd→Bool
 | .int=>true
 | _=>false
def jrd:Stmt→List Stmt
 | .ClassDef _ _ _ b _ _ _ _ _ _ _=>b
 | _=>[]
def meth (i j:Nat):Stmt:=(jrd (top i)).getD j (.Pass ⟨0,0,0,0⟩)
def prO:Dt→Option (Int × Int)
 | .tup [.int x,.int y]=>some (x,y)
 | _=>none
def OPr (H:Hp) (x:V) (o:Option (Int × Int)):Prop:=∃ d,Rep H d x∧prO d = o
theorem OPr.same {H H':Hp} {x:V} {o:Option (Int × Int)} (h:OPr H x o) (s:Same H H'):OPr H' x o:=let ⟨d,r,e⟩:=h; ⟨d,Rep.same s d r,e⟩
theorem jkv {d:Dt} {p:Int × Int} (h:prO d = some p):d = jcg p:=by
 unfold prO at h
 split at h
 ·cases h; rfl
 ·cases h
theorem jky {H:Hp} {x:V} {p:Int × Int} (h:Rep H (jcg p) x):Pr H x p:=by
 rw [jcg,Rep] at h
 obtain ⟨a,vs,rfl,ea,r⟩:=h
 rw [Reps] at r
 obtain ⟨v,r1,rfl,e1,r⟩:=r
 rw [Reps] at r
 obtain ⟨v2,r2,rfl,e2,r⟩:=r
 rw [Reps] at r
 subst r
 rw [Rep] at e1 e2
 subst e1 e2
 exact ⟨a,rfl,ea⟩
theorem OPr.pr {H:Hp} {x:V} {p:Int × Int} (h:OPr H x (some p)):Pr H x p:=by
 obtain ⟨d,r,e⟩:=h
 rw [jkv e] at r
 exact jky r
theorem Pr.o {H:Hp} {x:V} {p:Int × Int} (h:Pr H x p):OPr H x (some p):=⟨jcg p,h.rep,rfl⟩
def kdD:Dt→Kd
 | .non=>.non
 | .bl _=>.bl
 | .int _=>.int
 | .str _=>.str
 | .tup _=>.tup
 | .lst _=>.lst
theorem jep {H:Hp} {d:Dt} {x:V} (h:Rep H d x):L2.kd H x = some (kdD d):=by
 cases d with
 | non=>rw [Rep] at h; subst h; rfl
 | bl b=>rw [Rep] at h; subst h; rfl
 | int b=>rw [Rep] at h; subst h; rfl
 | str b=>rw [Rep] at h; subst h; rfl
 | tup ds=>rw [Rep] at h; obtain ⟨a,vs,rfl,e,_⟩:=h; unfold L2.kd; dsimp only; rw [e]; rfl
 | lst ds=>rw [Rep] at h; obtain ⟨a,vs,rfl,e,_⟩:=h; unfold L2.kd; dsimp only; rw [e]; rfl
def tupB (m:Int):Dt→Bool
 | .tup ds=>decide ((ds.length:Int) = m)
 | _=>false
def lstB (m:Int):Dt→Bool
 | .lst ds=>decide ((ds.length:Int) ≤ m)
 | _=>false
def plS (l s:Int):Option (Int × Int)→Bool
 | none=>false
 | some p=>decide (l < p.1∧p.1 ≤ 999∧1 ≤ p.2∧p.2 ≤ 1000000000000 - s)
def hasK (kvs:List (Key × V)) (n:Int):Bool:=(valV kvs (Sum.inl n:Key)).isSome
def tiS (kvs:List (Key × V)) (q:Int × Int):Option (Int × Int)→Bool
 | none=>false
 | some p=>HT.lexLt [q.1,q.2] [p.1,p.2] && (decide (p.1 < p.2) && (hasK kvs p.1 && hasK kvs p.2))
def jjd:Sp:=fun vs H Q _=>∃ x k,vs = [x]∧kd H x = some k∧Q (.bl (jd2 k)) H
def jem:Sp:=fun vs H Q _=>∃ x d m,vs = [x,.int m]∧Rep H d x∧Q (.bl (tupB m d)) H
def jds:Sp:=fun vs H Q _=>∃ x d m,vs = [x,.int m]∧Rep H d x∧Q (.bl (lstB m d)) H
def jjf:Sp:=fun vs H Q _=>∃ x o,vs = [x]∧OPr H x o∧Q (.bl o.isSome) H
def jko:Sp:=fun vs H Q _=>∃ x o l s,vs = [x,.int l,.int s]∧OPr H x o∧Q (.bl (plS l s o)) H
def jq2:Sp:=fun vs H Q _=>∃ x o y q d kvs,vs = [x,y,.ref d]∧OPr H x o∧Pr H y q∧H d = some (.dK kvs)∧Q (.bl (tiS kvs q o)) H
theorem jjx {f:Addr} {fd:FuncData}  (B:Blt mg) (D:DefAt K mg "is_whole" (top 16) ["thing"] f fd):FnOk P w K mg base CX0 1 f fd ["thing"] jjd:=by
 have sc:FnScope ["thing"] ["thing"] (ja8 (top 16)):=⟨rfl,rfl,rfl,by decide +kernel,rfl,by decide +kernel,by decide +kernel⟩
 refine D.F.ok sc (fun vs H Q E h=>?_) (fun cdv A outer s H vs Q E hr h=>?_)
 ·obtain ⟨x,k,rfl,_⟩:=h
  rfl
 obtain ⟨x,k,rfl,ek,h⟩:=h
 have hu:=jb5 hr
 have hu0:_ < PySem.cLine:=Nat.lt_of_succ_lt hu
 refine ⟨_,(ja6 (jag (jck (jac (jji .int) rfl B.isinstance PyProof.Rows.boot_isinstance (ja0 (qv 0) (ja0 (jd9 (v:=.ty "int") rfl B.int PyProof.Rows.boot_int rfl) ja2))) (jbz (q_not (jac (jji .bl) rfl B.isinstance PyProof.Rows.boot_isinstance (ja0 (qv 0) (ja0 (jd9 (v:=.ty "bool") rfl B.bool PyProof.Rows.boot_bool rfl) ja2)))))))),?_⟩
 simp_arith [ek]
 cases k <;> simpa only [isi,jd2,if_true,if_false,Bool.false_eq_true,Bool.not_true,Bool.not_false] using h
theorem jfk {f:Addr} {fd:FuncData}  (B:Blt mg) (D:DefAt K mg "is_tuple_of" (top 17) ["thing","many"] f fd):FnOk P w K mg base CX0 1 f fd ["thing","many"] jem:=by
 have sc:FnScope ["thing","many"] ["thing","many"] (ja8 (top 17)):=⟨rfl,rfl,rfl,by decide +kernel,rfl,by decide +kernel,by decide +kernel⟩
 refine D.F.ok sc (fun vs H Q E h=>?_) (fun cdv A outer s H vs Q E hr h=>?_)
 ·obtain ⟨x,d,m,rfl,_⟩:=h
  rfl
 obtain ⟨x,d,m,rfl,hd,h⟩:=h
 have hk:=jep hd
 have hu:=jb5 hr
 have hu0:_ < PySem.cLine:=Nat.lt_of_succ_lt hu
 refine ⟨_,(ja6 (jag (jck (jac (jji .tup) rfl B.isinstance PyProof.Rows.boot_isinstance (ja0 (qv 0) (ja0 (jd9 (v:=.ty "tuple") rfl B.tuple PyProof.Rows.boot_tuple rfl) ja2))) (jbz (jas q_eq (jac jde rfl B.len PySem.boot_len (ja0 (qv 0) ja2)) (qv 1) (jae _)))))),?_⟩
 cases d with
 | tup ds =>
  rw [Rep] at hd
  obtain ⟨a,vs,rfl,ea,r⟩:=hd
  simp_arith [kd,ea,jam,isi]
  rw [r.len]
  exact h
 | non=>simp_arith [hk,isi,kdD]; exact h
 | bl b=>simp_arith [hk,isi,kdD]; exact h
 | int b=>simp_arith [hk,isi,kdD]; exact h
 | str b=>simp_arith [hk,isi,kdD]; exact h
 | lst b=>simp_arith [hk,isi,kdD]; exact h
theorem je9 {f:Addr} {fd:FuncData}  (B:Blt mg) (D:DefAt K mg "is_list_up_to" (top 19) ["thing","most"] f fd):FnOk P w K mg base CX0 1 f fd ["thing","most"] jds:=by
 have sc:FnScope ["thing","most"] ["thing","most"] (ja8 (top 19)):=⟨rfl,rfl,rfl,by decide +kernel,rfl,by decide +kernel,by decide +kernel⟩
 refine D.F.ok sc (fun vs H Q E h=>?_) (fun cdv A outer s H vs Q E hr h=>?_)
 ·obtain ⟨x,d,m,rfl,_⟩:=h
  rfl
 obtain ⟨x,d,m,rfl,hd,h⟩:=h
 have hk:=jep hd
 have hu:=jb5 hr
 have hu0:_ < PySem.cLine:=Nat.lt_of_succ_lt hu
 refine ⟨_,(ja6 (jag (jck (jac (jji .lst) rfl B.isinstance PyProof.Rows.boot_isinstance (ja0 (qv 0) (ja0 (jd9 (v:=.ty "list") rfl B.list PyProof.Rows.boot_list rfl) ja2))) (jbz (jas q_le (jac jde rfl B.len PySem.boot_len (ja0 (qv 0) ja2)) (qv 1) (jae _)))))),?_⟩
 cases d with
 | lst ds =>
  rw [Rep] at hd
  obtain ⟨a,vs,rfl,ea,r⟩:=hd
  simp_arith [kd,ea,jam,isi]
  rw [r.len]
  exact h
 | non=>simp_arith [hk,isi,kdD]; exact h
 | bl b=>simp_arith [hk,isi,kdD]; exact h
 | int b=>simp_arith [hk,isi,kdD]; exact h
 | str b=>simp_arith [hk,isi,kdD]; exact h
 | tup b=>simp_arith [hk,isi,kdD]; exact h
theorem jd0 {f:Addr} {fd:FuncData} {f_is_tuple_of:Addr} {d_is_tuple_of:FuncData} {f_is_whole:Addr} {d_is_whole:FuncData} (B:Blt mg) (D:DefAt K mg "is_pair_of_wholes" (top 18) ["thing"] f fd) (D_is_tuple_of:DefAt K mg "is_tuple_of" (top 17) ["thing","many"] f_is_tuple_of d_is_tuple_of) (G_is_tuple_of:FnOk P w K mg base CX0 1 f_is_tuple_of d_is_tuple_of ["thing","many"] jem) (D_is_whole:DefAt K mg "is_whole" (top 16) ["thing"] f_is_whole d_is_whole) (G_is_whole:FnOk P w K mg base CX0 1 f_is_whole d_is_whole ["thing"] jjd):FnOk P w K mg base CX0 2 f fd ["thing"] jjf:=by
 have sc:FnScope ["thing"] ["thing"] (ja8 (top 18)):=⟨rfl,rfl,rfl,by decide +kernel,rfl,by decide +kernel,by decide +kernel⟩
 refine D.F.ok sc (fun vs H Q E h=>?_) (fun cdv A outer s H vs Q E hr h=>?_)
 ·obtain ⟨x,o,rfl,_⟩:=h
  rfl
 obtain ⟨x,o,rfl,ho,h⟩:=h
 obtain ⟨d,hd,rfl⟩:=ho
 have hu:=jb5 hr
 have hu0:_ < PySem.cLine:=Nat.lt_of_succ_lt hu
 refine ⟨_,(ja6 (jag (jck (jad G_is_tuple_of (hr.mono (by decide)) rfl D_is_tuple_of.m D_is_tuple_of.F.kp D_is_tuple_of.b .nil jap (ja0 (qv 0) (ja0 ja4 ja2))) (jck (jad G_is_whole (hr.mono (by decide)) rfl D_is_whole.m D_is_whole.F.kp D_is_whole.b .nil jap (ja0 (jaq q_ix (qv 0) ja4 (fun _ _=>rfl)) ja2)) (jbz (jad G_is_whole (hr.mono (by decide)) rfl D_is_whole.m D_is_whole.F.kp D_is_whole.b .nil jap (ja0 (jaq q_ix (qv 0) ja4 (fun _ _=>rfl)) ja2))))))),?_⟩
 walk_at "RD"
 refine ⟨_,d,2,rfl,hd,?_⟩
 cases d with
 | tup ds =>
  rw [Rep] at hd
  obtain ⟨a,vs,rfl,ea,r⟩:=hd
  match ds,r,h with
  | [],r,h =>
   rw [show tupB 2 (.tup []) = false from rfl]
   walk_at "RD"
   exact h
  | [d1],r,h =>
   have e2:prO (.tup [d1]) = none:=by cases d1 <;> rfl
   rw [e2] at h
   rw [show tupB 2 (.tup [d1]) = false from rfl]
   walk_at "RD"
   exact h
  | d1 :: d2 :: d3 :: ds,r,h =>
   have e:tupB 2 (.tup (d1 :: d2 :: d3 :: ds)) = false:=by
    unfold tupB
    refine decide_eq_false ?_
    rw [List.length_cons,List.length_cons,List.length_cons]
    omega
   have e2:prO (.tup (d1 :: d2 :: d3 :: ds)) = none:=by cases d1 <;> cases d2 <;> rfl
   rw [e2] at h
   rw [e]
   walk_at "RD"
   exact h
  | [d1,d2],r,h =>
   rw [Reps] at r
   obtain ⟨v1,r1,rfl,e1,r⟩:=r
   rw [Reps] at r
   obtain ⟨v2,r2,rfl,e2,r⟩:=r
   rw [Reps] at r
   subst r
   rw [show tupB 2 (.tup [d1,d2]) = true from rfl]
   simp_arith [jam,ea,at0,at1]
   refine ⟨_,kdD d1,rfl,jep e1,?_⟩
   cases d1 with
   | int i =>
    simp_arith [kdD,jd2,jam,ea,at0,at1]
    refine ⟨_,kdD d2,rfl,jep e2,?_⟩
    cases d2 <;> exact h
   | _=>simp_arith [kdD,jd2]; exact h
 | _=>simp_arith [tupB]; exact h
theorem jev {f:Addr} {fd:FuncData} {f_is_pair_of_wholes:Addr} {d_is_pair_of_wholes:FuncData} (B:Blt mg) (C:Cst mg c1 c2 c3 c4) (D:DefAt K mg "place_stands" (top 26) ["thing","last","spent"] f fd) (D_is_pair_of_wholes:DefAt K mg "is_pair_of_wholes" (top 18) ["thing"] f_is_pair_of_wholes d_is_pair_of_wholes) (G_is_pair_of_wholes:FnOk P w K mg base CX0 2 f_is_pair_of_wholes d_is_pair_of_wholes ["thing"] jjf):FnOk P w K mg base CX0 3 f fd ["thing","last","spent"] jko:=by
 have sc:FnScope ["thing","last","spent"] ["thing","last","spent"] (ja8 (top 26)):=⟨rfl,rfl,rfl,by decide +kernel,rfl,by decide +kernel,by decide +kernel⟩
 refine D.F.ok sc (fun vs H Q E h=>?_) (fun cdv A outer s H vs Q E hr h=>?_)
 ·obtain ⟨x,o,l,s,rfl,_⟩:=h
  rfl
 obtain ⟨x,o,l,sp,rfl,ho,h⟩:=h
 have hu:=jb5 hr
 have hu0:_ < PySem.cLine:=Nat.lt_of_succ_lt hu
 refine ⟨_,(ja3 (jba (jc5 (jbm (jad G_is_pair_of_wholes (hr.mono (by decide)) rfl D_is_pair_of_wholes.m D_is_pair_of_wholes.F.kp D_is_pair_of_wholes.b .nil jap (ja0 (qv 0) ja2)))) (ja6 (jag jdh)) jah) (ja6 (jag (jck (jjk q_lt q_le (qv 1) (jaq q_ix (qv 0) ja4 (fun _ _=>rfl)) (jgj (v:=.int 999) rfl C.LAST_PLACE ⟨_,rfl⟩)) (jbz (jjk q_le q_le ja4 (jaq q_ix (qv 0) ja4 (fun _ _=>rfl)) (jar jhx (jgj (v:=.int 1000000000000) rfl C.MOST_PRICE ⟨_,rfl⟩) (qv 2)))))))),?_⟩
 walk_at "RD"
 refine ⟨_,o,rfl,ho,?_⟩
 cases o with
 | none =>
  simp_arith [Option.isSome_none]
  exact h
 | some p =>
  obtain ⟨a,rfl,ea⟩:=OPr.pr ho
  simp_arith [Option.isSome_some,jam,ea,at0,at1]
  unfold plS at h
  by_cases b1:l < p.1 <;> by_cases b2:p.1 ≤ 999 <;> by_cases b3:1 ≤ p.2 <;> by_cases b4:p.2 ≤ 1000000000000 - sp <;> simp [b1,b2,b3,b4] at h ⊢ <;> exact h
theorem jgl {f:Addr} {fd:FuncData} {f_is_pair_of_wholes:Addr} {d_is_pair_of_wholes:FuncData} (B:Blt mg) (D:DefAt K mg "tie_stands" (top 27) ["thing","last","prices"] f fd) (D_is_pair_of_wholes:DefAt K mg "is_pair_of_wholes" (top 18) ["thing"] f_is_pair_of_wholes d_is_pair_of_wholes) (G_is_pair_of_wholes:FnOk P w K mg base CX0 2 f_is_pair_of_wholes d_is_pair_of_wholes ["thing"] jjf):FnOk P w K mg base CX0 3 f fd ["thing","last","prices"] jq2:=by
 have sc:FnScope ["thing","last","prices"] ["thing","last","prices"] (ja8 (top 27)):=⟨rfl,rfl,rfl,by decide +kernel,rfl,by decide +kernel,by decide +kernel⟩
 refine D.F.ok sc (fun vs H Q E h=>?_) (fun cdv A outer s H vs Q E hr h=>?_)
 ·obtain ⟨x,o,y,q,d,kvs,rfl,_⟩:=h
  rfl
 obtain ⟨x,o,y,q,d,kvs,rfl,ho,hq,hd,h⟩:=h
 obtain ⟨b,rfl,eb⟩:=id hq
 have hu:=jb5 hr
 have hu0:_ < PySem.cLine:=Nat.lt_of_succ_lt hu
 refine ⟨_,(ja3 (jba (jc5 (jbm (jad G_is_pair_of_wholes (hr.mono (by decide)) rfl D_is_pair_of_wholes.m D_is_pair_of_wholes.F.kp D_is_pair_of_wholes.b .nil jap (ja0 (qv 0) ja2)))) (ja6 (jag jdh)) jah) (ja6 (jag (jck (jas (q_ltT hu0) (qv 1) (qv 0) (jae _)) (jck (jas q_lt (jaq q_ix (qv 0) ja4 (fun _ _=>rfl)) (jaq q_ix (qv 0) ja4 (fun _ _=>rfl)) (jae _)) (jck (jn9 (jqr hu (jaq q_ix (qv 0) ja4 (fun _ _=>rfl)) (qv 2))) (jbz (jn9 (jqr hu (jaq q_ix (qv 0) ja4 (fun _ _=>rfl)) (qv 2)))))))))),?_⟩
 walk_at "RD"
 refine ⟨_,o,rfl,ho,?_⟩
 cases o with
 | none =>
  simp_arith [Option.isSome_none]
  exact h
 | some p =>
  obtain ⟨a,rfl,ea⟩:=OPr.pr ho
  simp_arith [Option.isSome_some,jam,ea,eb,hd,at0,at1]
  unfold tiS hasK at h
  dsimp only at h
  cases b1:HT.lexLt [q.1,q.2] [p.1,p.2] <;> by_cases b2:p.1 < p.2 <;> cases b3:(valV kvs (Sum.inl p.1:Key)).isSome <;> cases b4:(valV kvs (Sum.inl p.2:Key)).isSome <;> simp [b1,b2,b3,b4] at h ⊢ <;> exact h
end
end My
namespace My
open PySem L2
section
variable {P:Program} {w:World} {K:PySem.W.Frag} {mg:Str→Option Value} {base:Heap} {c1 c2 c3 c4:Tok} {C_NoWeb f_NoWeb:Addr} {dI:FuncData}
def PlOk:Int→Int→List (Int × Int)→Prop
 | _,_,[]=>True
 | l,s,p :: r=>(l < p.1∧p.1 ≤ 999∧1 ≤ p.2∧p.2 ≤ 1000000000000 - s)∧PlOk p.1 (s + p.2) r
def jbe (ps:List (Int × Int)):List (Key × V):=ps.map fun p=>(Sum.inl p.1,V.int p.2)
def TiOk (kvs:List (Key × V)):Int × Int→List (Int × Int)→Prop
 | _,[]=>True
 | q,p :: r=>(HT.lexLt [q.1,q.2] [p.1,p.2] = true∧p.1 < p.2∧hasK kvs p.1 = true∧hasK kvs p.2 = true)∧TiOk kvs p r
structure WebOk (ps ts:List (Int × Int)):Prop where
 pl:ps.length ≤ 40
 p:PlOk (-1) 0 ps
 tl:ts.length ≤ 120
 t:TiOk (jbe ps) (-1,-1) ts
def jch (H:Hp) (v:V) (ps ts:List (Int × Int)):Prop :=
 ∃ u pa ta xs ys,v = .ref u∧H u = some (.tup [.ref pa,.ref ta])∧H pa = some (.lst xs)∧H ta = some (.lst ys)∧Prs H xs ps∧Prs H ys ts
theorem jch.same {H H':Hp} {v:V} {ps ts:List (Int × Int)} (h:jch H v ps ts) (s:Same H H'):jch H' v ps ts:=by
 obtain ⟨u,pa,ta,xs,ys,e,h1,h2,h3,h4,h5⟩:=h
 exact ⟨u,pa,ta,xs,ys,e,s _ _ h1,s _ _ h2,s _ _ h3,Prs.same s h4,Prs.same s h5⟩
theorem PlOk.gt:∀ {ps:List (Int × Int)} {l s:Int},PlOk l s ps→∀ p ∈ ps,l < p.1
 | [],_,_,_,_,h=>by cases h
 | q :: r,l,s,h,p,hp=>by
  rcases List.mem_cons.mp hp with e | hp
  ·rw [e]; exact h.1.1
  ·have:=PlOk.gt h.2 p hp
   have:=h.1.1
   omega
theorem PlOk.nodup:∀ {ps:List (Int × Int)} {l s:Int},PlOk l s ps→(ps.map (·.1)).Nodup
 | [],_,_,_=>List.nodup_nil
 | q :: r,l,s,h=>by
  rw [List.map_cons]
  refine List.nodup_cons.mpr ⟨fun hm=>?_,PlOk.nodup h.2⟩
  obtain ⟨p,hp,e⟩:=List.mem_map.mp hm
  have:=PlOk.gt h.2 p hp
  omega
theorem jg4 {ps:List (Int × Int)} (h:(ps.map (·.1)).Nodup):((jbe ps).map (·.1)).Nodup:=by
 unfold jbe
 rw [List.map_map]
 have e:((fun (x:Key × V)=>x.1) ∘ fun (p:Int × Int)=>((Sum.inl p.1:Key),V.int p.2)) = (fun (n:Int)=>(Sum.inl n:Key)) ∘ fun (p:Int × Int)=>p.1:=rfl
 rw [e,← List.map_map]
 unfold List.Nodup at h ⊢
 rw [List.pairwise_map]
 exact h.imp fun q z=>q (Sum.inl.inj z)
theorem jgk {H:Hp}:∀ {xs:List V} {ps:List (Int × Int)},Prs H xs ps→Paired (PairAt H) xs (jbe ps)
 | _,_,.nil=>.nil
 | _,_,.cons r t=>by
  obtain ⟨a,e,q⟩:=r
  exact .cons ⟨a,e,q⟩ (jgk t)
def je8:Int→Int→Nat→List (Option (Int × Int))→Option Nat
 | _,_,_,[]=>none
 | _,_,k,none :: _=>some k
 | l,s,k,some p :: r=>if plS l s (some p) = true then je8 p.1 (s + p.2) (k + 1) r else some k
def je6 (kvs:List (Key × V)):Int × Int→Nat→List (Option (Int × Int))→Option Nat
 | _,_,[]=>none
 | _,k,none :: _=>some k
 | q,k,some p :: r=>if tiS kvs q (some p) = true then je6 kvs p (k + 1) r else some k
def noPl (os:List (Option (Int × Int))):Option (Option Nat):=if os.length ≤ 40 then (je8 (-1) 0 0 os).map some else some none
def noTi (kvs:List (Key × V)) (os:List (Option (Int × Int))):Option (Option Nat):=if os.length ≤ 120 then (je6 kvs (-1,-1) 0 os).map some else some none
theorem jfx:∀ {os:List (Option (Int × Int))} {l s:Int} {k:Nat},je8 l s k os = none→∃ ps,os = ps.map some∧PlOk l s ps
 | [],_,_,_,_=>⟨[],rfl,trivial⟩
 | none :: r,_,_,_,h=>by cases h
 | some p :: r,l,s,k,h=>by
  rw [je8] at h
  by_cases c:plS l s (some p) = true
  ·rw [if_pos c] at h
   obtain ⟨ps,e,q⟩:=jfx h
   exact ⟨p :: ps,by rw [e]; rfl,of_decide_eq_true c,q⟩
  ·rw [if_neg c] at h; cases h
theorem jft {kvs:List (Key × V)}:∀ {os:List (Option (Int × Int))} {q:Int × Int} {k:Nat},je6 kvs q k os = none→∃ ts,os = ts.map some∧TiOk kvs q ts
 | [],_,_,_=>⟨[],rfl,trivial⟩
 | none :: r,_,_,h=>by cases h
 | some p :: r,q,k,h=>by
  rw [je6] at h
  by_cases c:tiS kvs q (some p) = true
  ·rw [if_pos c] at h
   obtain ⟨ts,e,z⟩:=jft h
   refine ⟨p :: ts,by rw [e]; rfl,?_,z⟩
   unfold tiS at c
   simp only [Bool.and_eq_true,decide_eq_true_eq] at c
   exact ⟨c.1,c.2.1,c.2.2.1,c.2.2.2⟩
  ·rw [if_neg c] at h; cases h
def nV:Option Nat→V
 | none=>.non
 | some k=>.int k
def webX (w:Str) (n:Option Nat) (dx:Addr):HO:=xdO dx (putF "number" (nV n) [("part",.str w)])
def Ref (C:Addr) (H:Hp) (E:XK) (w:Str) (n:Option Nat):Prop:=∀ dx H',H dx = none→Same H H'→H' dx = some (webX w n dx)→E (.ref C) (some dx) H'
theorem Ref.back {C:Addr} {H H1:Hp} {E:XK} {w:Str} {n:Option Nat} (h:Ref C H E w n) (s:Same H H1):Ref C H1 E w n:=fun dx H' hd s' e=>h dx H' (s.free hd) (s.trans s') e
theorem jmu {H:Hp}:∀ {ds:List Dt} {xs:List V},Reps H ds xs→Paired (OPr H) xs (ds.map prO)
 | [],_,h=>by rw [Reps] at h; subst h; exact .nil
 | d :: ds,_,h=>by
  rw [Reps] at h
  obtain ⟨v,r,rfl,h1,h2⟩:=h
  exact .cons ⟨d,h1,rfl⟩ (jmu h2)
def jih:Dt→Option (Option Nat)
 | .lst ds=>noPl (ds.map prO)
 | _=>some none
def jig (kvs:List (Key × V)):Dt→Option (Option Nat)
 | .lst ds=>noTi kvs (ds.map prO)
 | _=>some none
def spLP (C:Addr):Sp:=fun vs H Q E=>∃ v d,vs = [v]∧Rep H d v∧(jih d = none→∀ H',Same H H'→Q .non H')∧∀ n,jih d = some n→Ref C H E "places" n
def spLT (C:Addr):Sp:=fun vs H Q E=>∃ v d a kvs,vs = [v,.ref a]∧Rep H d v∧H a = some (.dK kvs)∧(jig kvs d = none→∀ H',Same H H'→Q .non H')∧∀ n,jig kvs d = some n→Ref C H E "ties" n
theorem jgo {f:Addr} {fd:FuncData} {C_TouchError:Addr} (DI:InitAt K "NoWeb.__init__" (meth 2 0) ["self","part","number"] f fd) (X_NoWeb:ClsX K mg "NoWeb" C_NoWeb f_NoWeb) (m_TouchError:mg "TouchError" = some (.ref C_TouchError)) (xi:XI K C_TouchError "ValueError.__init__")
  (hf:PySem.W.findIn K (.ref C_NoWeb) "part" = some none) (hg:PySem.W.findIn K (.ref C_NoWeb) "number" = some none):FnOk P w K mg base CX0 1 f fd ["self","part","number"] (jen C_NoWeb "part" "number"):=by
 have sc:FnScope ["self","part","number"] ["self","part","number"] (ja8 (meth 2 0)):=⟨rfl,rfl,rfl,by decide +kernel,rfl,by decide +kernel,by decide +kernel⟩
 refine DI.F.ok sc (fun vs H Q E h=>?_) (fun cdv A outer s H vs Q E hr h=>?_)
 ·obtain ⟨a,y,z,rfl,_⟩:=h
  rfl
 obtain ⟨a,y,z,rfl,ea,h⟩:=h
 refine ⟨_,(ja3 (jb8 (jkx PySem.F.excBase_ValueError xi X_NoWeb.xin rfl m_TouchError (ja0 (qv 0) (ja0 (qv 1) (ja0 (qv 2) ja2))))) (ja3 (jjn X_NoWeb.a hf (qv 0) (qv 1) rfl) (ja6 (jjn X_NoWeb.a hg (qv 0) (qv 2) rfl)))),?_⟩
 simp only [jel,je0,fLeT,fIsB,tSeq,jja,jjb,tRet,jlh,tIfS,tAsg,jf9,fAug,tOp,tUn,tC,fVar,fI,fIC,fNeg,fEq,fNe,fIsN,jk6,fAnd,fOr,fNot,fB,tNot,tAnd,tOr,jfb,fIx,fLen,jcp,fMin,fMax,fInL,fSlL,tSl,jk8,jd6,jcq,fBM,jiu,gSub,jh0,jdl,jgz,jm1,jg5,jeo,jek,fCat,jg6,fBM0,fSlT,jiv,tCBK,fDIn,jk9,fIsi,jd5,je4,fLtT,jjc,tCB,jdr,tNil,tTup,tLst,tIf,jj9,Kd.nm,L2.jd8,List.map_cons,List.map_nil,List.length_cons,List.length_nil,Nat.reduceAdd,Nat.reduceSub,List.replicate_succ,List.replicate_zero,List.getElem?_cons_zero,List.getElem?_cons_succ,List.set_cons_zero,List.set_cons_succ,List.append_nil,List.nil_append,List.cons_append,eq_self,true_and,and_true,if_true,Bool.false_eq_true,if_false,Bool.not_true,Bool.not_false,id_eq,sl0,sl1,sl2,sl3,sl4,tXI,sXF]
 refine ⟨a,[y,z],none,rfl,ea,(by show 2 ≤ sizeLine; decide),?_⟩
 refine ⟨a,rfl,.inl ⟨ea,fun dx hd ne=>?_⟩⟩
 refine ⟨a,rfl,.inr ⟨dx,[("part",y)],ja1,?_,ne,(by show 1 < 900; decide),h dx hd ne⟩⟩
 rw [ja7 ne,ja1]
theorem jdx {f:Addr} {fd:FuncData} {f_is_list_up_to:Addr} {d_is_list_up_to:FuncData} {f_place_stands:Addr} {d_place_stands:FuncData} (B:Blt mg) (C:Cst mg c1 c2 c3 c4) (D:DefAt K mg "look_at_places" (top 28) ["places"] f fd) (D_is_list_up_to:DefAt K mg "is_list_up_to" (top 19) ["thing","most"] f_is_list_up_to d_is_list_up_to) (G_is_list_up_to:FnOk P w K mg base CX0 1 f_is_list_up_to d_is_list_up_to ["thing","most"] jds) (D_place_stands:DefAt K mg "place_stands" (top 26) ["thing","last","spent"] f_place_stands d_place_stands) (G_place_stands:FnOk P w K mg base CX0 3 f_place_stands d_place_stands ["thing","last","spent"] jko) (X_NoWeb:ClsX K mg "NoWeb" C_NoWeb f_NoWeb) (DI_NoWeb:InitAt K "NoWeb.__init__" (meth 2 0) ["self","part","number"] f_NoWeb dI) (GI_NoWeb:FnOk P w K mg base CX0 1 f_NoWeb dI ["self","part","number"] (jen C_NoWeb "part" "number")):FnOk P w K mg base (CXE P w) 4 f fd ["places"] (spLP C_NoWeb):=by
 have sc:FnScope ["places","last","spent","number","thing"] ["places"] (ja8 (top 28)):=⟨rfl,rfl,rfl,by decide +kernel,rfl,by decide +kernel,by decide +kernel⟩
 refine D.F.okX sc (fun vs H Q E h=>?_) (fun cdv A outer s H vs Q E hr h=>?_)
 ·obtain ⟨v,d,rfl,_⟩:=h
  rfl
 obtain ⟨v,d,rfl,hd,h1,h2⟩:=h
 have hu:=jb5 hr
 have hu0:_ < PySem.cLine:=Nat.lt_of_succ_lt hu
 refine ⟨_,(ja3 (jba (jc5 (jbm (jad G_is_list_up_to (hr.mono (by decide)) rfl D_is_list_up_to.m D_is_list_up_to.F.kp D_is_list_up_to.b .nil jap (ja0 (qv 0) (ja0 (jgj (v:=.int 40) rfl C.MOST_PLACES ⟨_,rfl⟩) ja2))))) (ja6 (jcv PySem.F.excBase_ValueError X_NoWeb.xin X_NoWeb.fn GI_NoWeb DI_NoWeb.b (hr.mono (by decide)) rfl X_NoWeb.m X_NoWeb.kp ⟨rfl,rfl,rfl,fun _=>rfl⟩ jld (ja0 jbt (ja0 jn8 ja2)))) jah) (ja3 (jal (i:=1) sc.nd rfl (Or.inl rfl) (jp8 jp2 ja4)) (ja3 (jal (i:=2) sc.nd rfl (Or.inl rfl) ja4) (ja6 (jn3 ⟨rfl,rfl,rfl,fun _=>rfl⟩ rfl (jn7 rfl B.enumerate (ja0 (qv 0) ja2)) (jcj (n:=2) rfl (jan (jaf (i:=3) sc.nd rfl (Or.inl rfl)) (jan (jaf (i:=4) sc.nd rfl (Or.inl rfl)) jbr))) (ja3 (jba (jc5 (jbm (jad G_place_stands (hr.mono (by decide)) rfl D_place_stands.m D_place_stands.F.kp D_place_stands.b .nil jap (ja0 (qv 4) (ja0 (qv 1) (ja0 (qv 2) ja2)))))) (ja6 (jcv PySem.F.excBase_ValueError X_NoWeb.xin X_NoWeb.fn GI_NoWeb DI_NoWeb.b (hr.mono (by decide)) rfl X_NoWeb.m X_NoWeb.kp ⟨rfl,rfl,rfl,fun _=>rfl⟩ jld (ja0 jbt (ja0 (qv 3) ja2)))) jah) (ja3 (jal (i:=1) sc.nd rfl (Or.inl rfl) (jaq q_ix (qv 4) ja4 (fun _ _=>rfl))) (ja6 (qs_aug (i:=2) sc.nd rfl (Or.inl rfl) (jaq q_ix (qv 4) ja4 (fun _ _=>rfl)) q_iadd))))))))),?_⟩
 walk_at "RD"
 refine ⟨_,d,40,rfl,hd,?_⟩
 cases d with
 | lst ds =>
  rw [Rep] at hd
  obtain ⟨a,xs,rfl,ea,hreps⟩:=hd
  have hp:=jmu hreps
  have hlx0:xs.length = ds.length:=hreps.len
  unfold lstB
  dsimp only
  unfold jih at h1 h2
  dsimp only at h1 h2
  have hlx:xs.length = (ds.map prO).length:=Paired.length hp
  rw [← hlx0]
  generalize ds.map prO = os at hp hlx h1 h2
  by_cases hl:os.length ≤ 40
  ·rw [decide_eq_true (show (xs.length:Int) ≤ 40 by omega)]
   have en:noPl os = (je8 (-1) 0 0 os).map some:=by unfold noPl; rw [if_pos hl]
   walk_at "RD"
   refine ⟨a,rfl,⟨xs,SqL.of ea⟩,jl3 (K:=K) (a:=a) (xs:=xs) (fun i σ H1=>∃ l sp nb th,σ = [some (.ref a),some (.int l),some (.int sp),nb,th]∧Same H H1∧je8 (-1) 0 0 os = je8 l sp i (os.drop i)) ⟨-1,0,none,none,rfl,Same.refl _,rfl⟩ (fun i σ H1 _ ⟨_,_,_,_,_,s1,_⟩=>SqL.of (s1 _ _ ea)) ?_ ?_⟩
   ·rintro i x σ H1 t hi ⟨l,sp,nb,th,rfl,s1,ok1⟩ ht
    obtain ⟨o,hoi,ox⟩:=jao hp hi
    rw [jl6 hoi] at ok1
    have s2:Same H (upd H1 t (.tup [.int i,x])):=s1.trans (ja5 ht _)
    have ox2:=ox.same s2
    simp_arith [ja1]
    refine ⟨_,o,l,sp,rfl,ox2,?_⟩
    cases c:plS l sp o with
    | true =>
     cases o with
     | none=>cases c
     | some p =>
      obtain ⟨u,rfl,eu⟩:=OPr.pr ox2
      simp_arith [jam,eu,at0,at1]
      exact ⟨_,_,_,_,rfl,s2,by rw [ok1,je8,if_pos c]⟩
    | false =>
     have e:je8 (-1) 0 0 os = some i:=by
      rw [ok1]
      cases o with
      | none=>rfl
      | some p=>rw [je8,if_neg (by rw [c]; decide)]
     have hr2:=(h2 (some i) (by rw [en,e]; rfl)).back s2
     simp_arith [jdd]
     exact fun y hy=>jer hy hr2
   ·rintro σ H1 ⟨l,sp,nb,th,rfl,s1,ok1⟩
    rw [hlx,List.drop_length] at ok1
    exact h1 (by rw [en,ok1]; rfl) H1 s1
  ·rw [decide_eq_false (show ¬ (xs.length:Int) ≤ 40 by omega)]
   have hr2:=h2 none (by unfold noPl; rw [if_neg hl])
   simp_arith [jdd]
   exact fun y hy=>jer hy hr2
 | _ =>
  unfold lstB
  dsimp only
  have hr2:=h2 none rfl
  simp_arith [jdd]
  exact fun y hy=>jer hy hr2
theorem jew {f:Addr} {fd:FuncData} {f_is_list_up_to:Addr} {d_is_list_up_to:FuncData} {f_tie_stands:Addr} {d_tie_stands:FuncData} (B:Blt mg) (C:Cst mg c1 c2 c3 c4) (D:DefAt K mg "look_at_ties" (top 29) ["ties","prices"] f fd) (D_is_list_up_to:DefAt K mg "is_list_up_to" (top 19) ["thing","most"] f_is_list_up_to d_is_list_up_to) (G_is_list_up_to:FnOk P w K mg base CX0 1 f_is_list_up_to d_is_list_up_to ["thing","most"] jds) (D_tie_stands:DefAt K mg "tie_stands" (top 27) ["thing","last","prices"] f_tie_stands d_tie_stands) (G_tie_stands:FnOk P w K mg base CX0 3 f_tie_stands d_tie_stands ["thing","last","prices"] jq2) (X_NoWeb:ClsX K mg "NoWeb" C_NoWeb f_NoWeb) (DI_NoWeb:InitAt K "NoWeb.__init__" (meth 2 0) ["self","part","number"] f_NoWeb dI) (GI_NoWeb:FnOk P w K mg base CX0 1 f_NoWeb dI ["self","part","number"] (jen C_NoWeb "part" "number")):FnOk P w K mg base (CXE P w) 4 f fd ["ties","prices"] (spLT C_NoWeb):=by
 have sc:FnScope ["ties","prices","last","number","thing"] ["ties","prices"] (ja8 (top 29)):=⟨rfl,rfl,rfl,by decide +kernel,rfl,by decide +kernel,by decide +kernel⟩
 refine D.F.okX sc (fun vs H Q E h=>?_) (fun cdv A outer s H vs Q E hr h=>?_)
 ·obtain ⟨v,dt,d,kvs,rfl,_⟩:=h
  rfl
 obtain ⟨v,dt,d,kvs,rfl,hd,ed,h1,h2⟩:=h
 have hu:=jb5 hr
 have hu0:_ < PySem.cLine:=Nat.lt_of_succ_lt hu
 refine ⟨_,(ja3 (jba (jc5 (jbm (jad G_is_list_up_to (hr.mono (by decide)) rfl D_is_list_up_to.m D_is_list_up_to.F.kp D_is_list_up_to.b .nil jap (ja0 (qv 0) (ja0 (jgj (v:=.int 120) rfl C.MOST_TIES ⟨_,rfl⟩) ja2))))) (ja6 (jcv PySem.F.excBase_ValueError X_NoWeb.xin X_NoWeb.fn GI_NoWeb DI_NoWeb.b (hr.mono (by decide)) rfl X_NoWeb.m X_NoWeb.kp ⟨rfl,rfl,rfl,fun _=>rfl⟩ jld (ja0 jbt (ja0 jn8 ja2)))) jah) (ja3 (jal (i:=2) sc.nd rfl (Or.inl rfl) (jdg (ja0 (jp8 jp2 ja4) (ja0 (jp8 jp2 ja4) ja2)))) (ja6 (jn3 ⟨rfl,rfl,rfl,fun _=>rfl⟩ rfl (jn7 rfl B.enumerate (ja0 (qv 0) ja2)) (jcj (n:=2) rfl (jan (jaf (i:=3) sc.nd rfl (Or.inl rfl)) (jan (jaf (i:=4) sc.nd rfl (Or.inl rfl)) jbr))) (ja3 (jba (jc5 (jbm (jad G_tie_stands (hr.mono (by decide)) rfl D_tie_stands.m D_tie_stands.F.kp D_tie_stands.b .nil jap (ja0 (qv 4) (ja0 (qv 2) (ja0 (qv 1) ja2)))))) (ja6 (jcv PySem.F.excBase_ValueError X_NoWeb.xin X_NoWeb.fn GI_NoWeb DI_NoWeb.b (hr.mono (by decide)) rfl X_NoWeb.m X_NoWeb.kp ⟨rfl,rfl,rfl,fun _=>rfl⟩ jld (ja0 jbt (ja0 (qv 3) ja2)))) jah) (ja6 (jal (i:=2) sc.nd rfl (Or.inl rfl) (qv 4)))))))),?_⟩
 walk_at "RD"
 refine ⟨_,dt,120,rfl,hd,?_⟩
 cases dt with
 | lst ds =>
  rw [Rep] at hd
  obtain ⟨a,xs,rfl,ea,hreps⟩:=hd
  have hp:=jmu hreps
  have hlx0:xs.length = ds.length:=hreps.len
  unfold lstB
  dsimp only
  unfold jig at h1 h2
  dsimp only at h1 h2
  have hlx:xs.length = (ds.map prO).length:=Paired.length hp
  rw [← hlx0]
  generalize ds.map prO = os at hp hlx h1 h2
  by_cases hl:os.length ≤ 120
  ·rw [decide_eq_true (show (xs.length:Int) ≤ 120 by omega)]
   have en:noTi kvs os = (je6 kvs (-1,-1) 0 os).map some:=by unfold noTi; rw [if_pos hl]
   walk_at "RD"
   intro t0 ht0
   refine ⟨a,rfl,⟨xs,SqL.of (ja5 ht0 _ _ _ ea)⟩,jl3 (K:=K) (a:=a) (xs:=xs) (fun i σ H1=>∃ lv q nb th,σ = [some (.ref a),some (.ref d),some lv,nb,th]∧Same H H1∧Pr H1 lv q∧je6 kvs (-1,-1) 0 os = je6 kvs q i (os.drop i)) ⟨_,(-1,-1),none,none,rfl,ja5 ht0 _,⟨t0,rfl,ja1⟩,rfl⟩ (fun i σ H1 _ ⟨_,_,_,_,_,s1,_⟩=>SqL.of (s1 _ _ ea)) ?_ ?_⟩
   ·rintro i x σ H1 t hi ⟨lv,q,nb,th,rfl,s1,pq,ok1⟩ ht
    obtain ⟨o,hoi,ox⟩:=jao hp hi
    rw [jl6 hoi] at ok1
    have s2:Same H (upd H1 t (.tup [.int i,x])):=s1.trans (ja5 ht _)
    have ox2:=ox.same s2
    simp_arith [ja1]
    refine ⟨_,o,_,q,d,kvs,rfl,ox2,pq.same (ja5 ht _),s2 _ _ ed,?_⟩
    cases c:tiS kvs q o with
    | true =>
     cases o with
     | none=>cases c
     | some p =>
      walk_at "RD"
      exact ⟨_,_,_,_,rfl,s2,OPr.pr ox2,by rw [ok1,je6,if_pos c]⟩
    | false =>
     have e:je6 kvs (-1,-1) 0 os = some i:=by
      rw [ok1]
      cases o with
      | none=>rfl
      | some p=>rw [je6,if_neg (by rw [c]; decide)]
     have hr2:=(h2 (some i) (by rw [en,e]; rfl)).back s2
     simp_arith [jdd]
     exact fun y hy=>jer hy hr2
   ·rintro σ H1 ⟨lv,q,nb,th,rfl,s1,_,ok1⟩
    rw [hlx,List.drop_length] at ok1
    exact h1 (by rw [en,ok1]; rfl) H1 s1
  ·rw [decide_eq_false (show ¬ (xs.length:Int) ≤ 120 by omega)]
   have hr2:=h2 none (by unfold noTi; rw [if_neg hl])
   simp_arith [jdd]
   exact fun y hy=>jer hy hr2
 | _ =>
  unfold lstB
  dsimp only
  have hr2:=h2 none rfl
  simp_arith [jdd]
  exact fun y hy=>jer hy hr2
def psOf (os:List (Option (Int × Int))):List (Int × Int):=os.filterMap id
theorem ji1 (ps:List (Int × Int)):psOf (ps.map some) = ps:=by
 unfold psOf
 rw [List.filterMap_map]
 exact List.filterMap_some
def psD:Dt→List (Int × Int)
 | .lst ds=>psOf (ds.map prO)
 | _=>[]
def jcf:Dt→Option (Str × Option Nat)
 | .tup [a,b]=>match jih a with
  | some n=>some ("places",n)
  | none=>match jig (jbe (psD a)) b with
   | some n=>some ("ties",n)
   | none=>none
 | _=>some ("web",none)
theorem jnh {os:List (Option (Int × Int))} (h:noPl os = none):os.length ≤ 40∧∃ ps,os = ps.map some∧PlOk (-1) 0 ps:=by
 unfold noPl at h
 by_cases c:os.length ≤ 40
 ·rw [if_pos c] at h
  exact ⟨c,jfx (Option.map_eq_none_iff.mp h)⟩
 ·rw [if_neg c] at h; cases h
theorem jng {kvs:List (Key × V)} {os:List (Option (Int × Int))} (h:noTi kvs os = none):os.length ≤ 120∧∃ ts,os = ts.map some∧TiOk kvs (-1,-1) ts:=by
 unfold noTi at h
 by_cases c:os.length ≤ 120
 ·rw [if_pos c] at h
  exact ⟨c,jft (Option.map_eq_none_iff.mp h)⟩
 ·rw [if_neg c] at h; cases h
theorem jk3:∀ {ds:List Dt} {ps:List (Int × Int)},ds.map prO = ps.map some→ds = ps.map jcg
 | [],[],_=>rfl
 | [],_ :: _,h=>by cases h
 | _ :: _,[],h=>by cases h
 | d :: ds,p :: ps,h=>by
  rw [List.map_cons,List.map_cons] at h
  injection h with h1 h2
  rw [List.map_cons,jkv h1,jk3 h2]
theorem jn4:∀ (ps:List (Int × Int)),(ps.map jcg).map prO = ps.map some
 | []=>rfl
 | p :: ps=>by rw [List.map_cons,List.map_cons,jn4 ps]; rfl
def prsD (ts:List (Int × Int)):Dt:=.lst (ts.map jcg)
def webD (ps ts:List (Int × Int)):Dt:=.tup [prsD ps,prsD ts]
theorem jg0 {d:Dt} (h:jih d = none):∃ ps,d = prsD ps∧ps.length ≤ 40∧PlOk (-1) 0 ps:=by
 cases d with
 | lst ds =>
  obtain ⟨l,ps,e,ok⟩:=jnh h
  refine ⟨ps,by rw [jk3 e]; rfl,?_,ok⟩
  rw [e,List.length_map] at l
  exact l
 | _=>cases h
theorem jlr {kvs:List (Key × V)} {d:Dt} (h:jig kvs d = none):∃ ts,d = prsD ts∧ts.length ≤ 120∧TiOk kvs (-1,-1) ts:=by
 cases d with
 | lst ds =>
  obtain ⟨l,ps,e,ok⟩:=jng h
  refine ⟨ps,by rw [jk3 e]; rfl,?_,ok⟩
  rw [e,List.length_map] at l
  exact l
 | _=>cases h
theorem jjp (ps:List (Int × Int)):psD (prsD ps) = ps:=by
 unfold psD prsD
 dsimp only
 rw [jn4,ji1]
theorem jez {d:Dt} (h:jcf d = none):∃ ps ts,d = webD ps ts∧WebOk ps ts:=by
 unfold jcf at h
 split at h
 ·rename_i a b
  cases e:jih a with
  | some n=>rw [e] at h; cases h
  | none =>
   rw [e] at h
   dsimp only at h
   obtain ⟨ps,rfl,l1,ok1⟩:=jg0 e
   rw [jjp] at h
   cases e2:jig (jbe ps) b with
   | some n=>rw [e2] at h; cases h
   | none =>
    obtain ⟨ts,rfl,l2,ok2⟩:=jlr e2
    exact ⟨ps,ts,rfl,l1,ok1,l2,ok2⟩
 ·cases h
theorem jkq {H:Hp}:∀ {ps:List (Int × Int)} {xs:List V},Reps H (ps.map jcg) xs→Prs H xs ps
 | [],_,h=>by rw [List.map_nil,Reps] at h; subst h; exact .nil
 | p :: ps,_,h=>by
  rw [List.map_cons,Reps] at h
  obtain ⟨v,r,rfl,h1,h2⟩:=h
  exact .cons (jky h1) (jkq h2)
theorem jjq {H:Hp} {ps:List (Int × Int)} {v:V} (h:Rep H (prsD ps) v):∃ a xs,v = .ref a∧H a = some (.lst xs)∧Prs H xs ps:=by
 rw [prsD,Rep] at h
 obtain ⟨a,xs,rfl,ea,r⟩:=h
 exact ⟨a,xs,rfl,ea,jkq r⟩
theorem jmw {H:Hp} {a b:Dt} {v:V} (h:Rep H (.tup [a,b]) v):∃ u x y,v = .ref u∧H u = some (.tup [x,y])∧Rep H a x∧Rep H b y:=by
 rw [Rep] at h
 obtain ⟨u,vs,rfl,eu,r⟩:=h
 rw [Reps] at r
 obtain ⟨v1,r1,rfl,e1,r⟩:=r
 rw [Reps] at r
 obtain ⟨v2,r2,rfl,e2,r⟩:=r
 rw [Reps] at r
 subst r
 exact ⟨u,v1,v2,rfl,eu,e1,e2⟩
theorem jmb {H:Hp} {ps ts:List (Int × Int)} {v:V} (h:Rep H (webD ps ts) v):jch H v ps ts:=by
 obtain ⟨u,x,y,rfl,eu,h1,h2⟩:=jmw h
 obtain ⟨pa,xs,rfl,e1,p1⟩:=jjq h1
 obtain ⟨ta,ys,rfl,e2,p2⟩:=jjq h2
 exact ⟨u,pa,ta,xs,ys,rfl,eu,e1,e2,p1,p2⟩
def spLW (C:Addr):Sp:=fun vs H Q E=>∃ v d,vs = [v]∧Rep H d v∧(jcf d = none→∀ H',Same H H'→Q .non H')∧∀ w n,jcf d = some (w,n)→Ref C H E w n
theorem jfj {f:Addr} {fd:FuncData} {f_is_tuple_of:Addr} {d_is_tuple_of:FuncData} {f_look_at_places:Addr} {d_look_at_places:FuncData} {f_look_at_ties:Addr} {d_look_at_ties:FuncData} (B:Blt mg) (D:DefAt K mg "look_at_web" (top 30) ["thing"] f fd) (D_is_tuple_of:DefAt K mg "is_tuple_of" (top 17) ["thing","many"] f_is_tuple_of d_is_tuple_of) (G_is_tuple_of:FnOk P w K mg base CX0 1 f_is_tuple_of d_is_tuple_of ["thing","many"] jem) (D_look_at_places:DefAt K mg "look_at_places" (top 28) ["places"] f_look_at_places d_look_at_places) (G_look_at_places:FnOk P w K mg base (CXE P w) 4 f_look_at_places d_look_at_places ["places"] (spLP C_NoWeb)) (D_look_at_ties:DefAt K mg "look_at_ties" (top 29) ["ties","prices"] f_look_at_ties d_look_at_ties) (G_look_at_ties:FnOk P w K mg base (CXE P w) 4 f_look_at_ties d_look_at_ties ["ties","prices"] (spLT C_NoWeb)) (X_NoWeb:ClsX K mg "NoWeb" C_NoWeb f_NoWeb) (DI_NoWeb:InitAt K "NoWeb.__init__" (meth 2 0) ["self","part","number"] f_NoWeb dI) (GI_NoWeb:FnOk P w K mg base CX0 1 f_NoWeb dI ["self","part","number"] (jen C_NoWeb "part" "number")):FnOk P w K mg base (CXE P w) 5 f fd ["thing"] (spLW C_NoWeb):=by
 have sc:FnScope ["thing"] ["thing"] (ja8 (top 30)):=⟨rfl,rfl,rfl,by decide +kernel,rfl,by decide +kernel,by decide +kernel⟩
 refine D.F.okX sc (fun vs H Q E h=>?_) (fun cdv A outer s H vs Q E hr h=>?_)
 ·obtain ⟨v,d,rfl,_⟩:=h
  rfl
 obtain ⟨v,d,rfl,hd,h1,h2⟩:=h
 have hu:=jb5 hr
 have hu0:_ < PySem.cLine:=Nat.lt_of_succ_lt hu
 refine ⟨_,(ja3 (jba (jc5 (jbm (jad G_is_tuple_of (hr.mono (by decide)) rfl D_is_tuple_of.m D_is_tuple_of.F.kp D_is_tuple_of.b .nil jap (ja0 (qv 0) (ja0 ja4 ja2))))) (ja6 (jcv PySem.F.excBase_ValueError X_NoWeb.xin X_NoWeb.fn GI_NoWeb DI_NoWeb.b (hr.mono (by decide)) rfl X_NoWeb.m X_NoWeb.kp ⟨rfl,rfl,rfl,fun _=>rfl⟩ jld (ja0 jbt (ja0 jn8 ja2)))) jah) (ja3 (jb8 (jbj G_look_at_places (hr.mono (by decide)) rfl D_look_at_places.m D_look_at_places.F.kp D_look_at_places.b .nil (jfi ⟨rfl,rfl,rfl,fun _=>rfl⟩) (ja0 (jaq q_ix (qv 0) ja4 (fun _ _=>rfl)) ja2))) (ja6 (jb8 (jbj G_look_at_ties (hr.mono (by decide)) rfl D_look_at_ties.m D_look_at_ties.F.kp D_look_at_ties.b .nil (jfi ⟨rfl,rfl,rfl,fun _=>rfl⟩) (ja0 (jaq q_ix (qv 0) ja4 (fun _ _=>rfl)) (ja0 (jbk (jjj rfl) rfl B.dict PyProof.Rows.boot_dict (ja0 (jaq q_ix (qv 0) ja4 (fun _ _=>rfl)) ja2)) ja2))))))),?_⟩
 walk_at "RD"
 refine ⟨_,d,2,rfl,hd,?_⟩
 by_cases c:∃ a b,d = .tup [a,b]
 ·obtain ⟨a,b,rfl⟩:=c
  obtain ⟨u,x,y,rfl,eu,ra,rb⟩:=jmw hd
  rw [show tupB 2 (.tup [a,b]) = true from rfl]
  simp_arith [jam,eu,at0,at1]
  refine ⟨x,a,rfl,ra,fun e1 H1 s1=>?_,fun n e1=>h2 "places" n (by unfold jcf; dsimp only; rw [e1])⟩
  obtain ⟨ps,rfl,k1,ok1⟩:=jg0 e1
  obtain ⟨pa,xs,rfl,ep,pp⟩:=jjq ra
  have hlx:xs.length = ps.length:=Paired.length pp
  simp_arith [jam,s1 _ _ eu,s1 _ _ ep,at0,at1]
  refine ⟨jbe ps,jgk (Prs.same s1 pp),by omega,jg4 ok1.nodup,fun d hd=>?_⟩
  have s2:Same H (upd H1 d (.dK (jbe ps))):=s1.trans (ja5 hd _)
  refine ⟨y,b,d,_,rfl,Rep.same s2 _ rb,ja1,fun e2 H3 s3=>h1 ?_ H3 (s2.trans s3),fun n e2=>(h2 "ties" n ?_).back s2⟩
  ·unfold jcf
   dsimp only
   rw [e1,jjp]
   dsimp only
   rw [e2]
  ·unfold jcf
   dsimp only
   rw [e1,jjp]
   dsimp only
   rw [e2]
 ·have e:tupB 2 d = false:=by
   cases d with
   | tup ds =>
    match ds,c with
    | [],_=>rfl
    | [_],_=>rfl
    | [a,b],c=>exact absurd ⟨a,b,rfl⟩ c
    | _ :: _ :: _ :: _,_ =>
     unfold tupB
     refine decide_eq_false ?_
     rw [List.length_cons,List.length_cons,List.length_cons]
     omega
   | _=>rfl
  have e2:jcf d = some (("web":Str),none):=by
   unfold jcf
   split
   ·exact absurd ⟨_,_,rfl⟩ c
   ·rfl
  have hr2:=h2 "web" none e2
  rw [e]
  simp_arith [jdd]
  exact fun y hy=>jer hy hr2
end
end My
namespace My
open PySem L2
section
variable {P:Program} {w:World} {K:PySem.W.Frag} {mg:Str→Option Value} {base:Heap} {c1 c2 c3 c4:Tok}
theorem ix30:ixN 3 0 = some 0:=rfl
theorem ix31:ixN 3 1 = some 1:=rfl
theorem ix32:ixN 3 2 = some 2:=rfl
def StO (o:HO):Prop:=∃ c st fl,o = .lst [.int c,.int st,.bl fl]∧0 ≤ st∧st < 4294967296
theorem StO.imm {o:HO} (h:StO o):jr6 o = false:=by obtain ⟨_,_,_,rfl,_⟩:=h; rfl
def jmr (K:PySem.W.Frag):Sp:=fun vs H Q _=>∃ a k ns,vs = [.ref a,.int k]∧Scr K H a ns∧0 ≤ k∧k ≤ 1000∧∀ s o,H s = none→StO o→Q (.ref s) (upd H s o)
def jhr:Sp:=fun vs H Q _=>∃ s o m,vs = [.ref s,.int m]∧H s = some o∧StO o∧1 ≤ m∧m < 1000000000000000000∧∀ d o,0 ≤ d→d < m→StO o→Q (.int d) (upd H s o)
theorem cmR {i j:Int} (h1:-(2 ^ 64) < j) (h2:j < 2 ^ 64):CMul i j:=.inr ⟨h1,h2⟩
theorem cmL {i j:Int} (h1:-(2 ^ 64) < i) (h2:i < 2 ^ 64):CMul i j:=.inl ⟨h1,h2⟩
def Dr:Int→List (Int × Int)→Prop
 | _,[]=>True
 | l,p :: r=>(l < p.1∧p.1 ≤ l + 23∧1 ≤ p.2∧p.2 ≤ 1000000000)∧Dr p.1 r
def jnm (l:Int):List (Int × Int)→Int
 | []=>l
 | p :: r=>jnm p.1 r
theorem Dr.snoc:∀ {ps:List (Int × Int)} {l:Int} {p:Int × Int},Dr l ps→(jnm l ps < p.1∧p.1 ≤ jnm l ps + 23∧1 ≤ p.2∧p.2 ≤ 1000000000)→Dr l (ps ++ [p])
 | [],_,_,_,h=>⟨h,trivial⟩
 | q :: r,_,_,h,h2=>⟨h.1,Dr.snoc h.2 h2⟩
theorem jg3:∀ {ps:List (Int × Int)} {l:Int} {p:Int × Int},jnm l (ps ++ [p]) = p.1
 | [],_,_=>rfl
 | q :: r,_,_=>jg3 (ps:=r)
def But (s:Addr) (H H':Hp):Prop:=∀ b o,b ≠ s→H b = some o→H' b = some o
theorem But.trans {s:Addr} {H H1 H2:Hp} (a:But s H H1) (b:But s H1 H2):But s H H2:=fun c o n q=>b c o n (a c o n q)
theorem But.at (s:Addr) (H:Hp) (o:HO):But s H (upd H s o):=fun b u n q=>by rw [ja7 n]; exact q
theorem But.new {s t:Addr} {H:Hp} {o:HO} (h:H t = none):But s H (upd H t o):=fun b u n q=>by rw [ja7 (ja9 q h)]; exact q
theorem But.tups {s:Addr} {H H':Hp} (h:But s H H') {o:HO} (e:H s = some o) (i:jr6 o = false):TupS H H':=fun b u z q=>h b u (fun x=>by rw [x,e] at q; cases q; rw [i] at z; cases z) q
theorem at3 {α:Type} {x y z u:α} {r:List α}:atI (x :: y :: z :: u :: r) 3 = some u:=by
 have e:atI (x :: y :: z :: u :: r) ((3:Nat):Int) = some u:=jdb rfl
 exact e
theorem menu4 {a b c e d:Int} (h0:0 ≤ d) (h1:d < 4):∃ v,atI [V.int a,.int b,.int c,.int e] d = some (.int v)∧(v = a ∨ v = b ∨ v = c ∨ v = e):=by
 have hd:d = 0 ∨ d = 1 ∨ d = 2 ∨ d = 3:=by omega
 rcases hd with rfl | rfl | rfl | rfl
 ·exact ⟨a,at0,.inl rfl⟩
 ·exact ⟨b,at1,.inr (.inl rfl)⟩
 ·exact ⟨c,at2,.inr (.inr (.inl rfl))⟩
 ·exact ⟨e,at3,.inr (.inr (.inr rfl))⟩
theorem p9:(10:Int) ^ Int.toNat 9 = 1000000000:=by decide
def jkn:Sp:=fun vs H Q _=>∃ s o n,vs = [.ref s,.int n]∧H s = some o∧StO o∧0 ≤ n∧n ≤ 100 ∧
 ∀ r H' o' xs ps,H r = none→But s H H'→H' s = some o'→StO o'→H' r = some (.lst xs)→Prs H' xs ps→(ps.length:Int) = n→Dr (-1) ps→Q (.ref r) H'
theorem jjt {f:Addr} {fd:FuncData}  (B:Blt mg) (D:DefAt K mg "_law_take" (top 73) ["_law_state","_law_many"] f fd):FnOk P w K mg base CX0 1 f fd ["_law_state","_law_many"] jhr:=by
 have sc:FnScope ["_law_state","_law_many","_law_digit","_law_number"] ["_law_state","_law_many"] (ja8 (top 73)):=⟨rfl,rfl,rfl,by decide +kernel,rfl,by decide +kernel,by decide +kernel⟩
 refine D.F.ok sc (fun vs H Q E h=>?_) (fun cdv A outer s H vs Q E hr h=>?_)
 ·obtain ⟨s,o,m,rfl,_⟩:=h
  rfl
 obtain ⟨st,o,m,rfl,es,⟨c,x,fl,rfl,x0,x1⟩,m0,m1,h⟩:=h
 have hu:=jb5 hr
 have hu0:_ < PySem.cLine:=Nat.lt_of_succ_lt hu
 refine ⟨_,(ja3 (jba (jbm (jaq q_ix (qv 0) ja4 (fun _ _=>rfl))) (ja3 (jal (i:=2) sc.nd rfl (Or.inl rfl) (jar jjh (jaq q_ix (qv 0) ja4 (fun _ _=>rfl)) (qv 1))) (ja3 (ji0 (jar jqq (jaq q_ix (qv 0) ja4 (fun _ _=>rfl)) (qv 1)) (ji3 (qv 0) ja4 jhz)) (ja3 (ji0 (jas q_gt (jaq q_ix (qv 0) ja4 (fun _ _=>rfl)) ja4 (jae _)) (ji3 (qv 0) ja4 jhz)) (ja6 (jag (qv 2)))))) jah) (ja3 (ji0 (jar jjh (jar jca (jar jll (jaq q_ix (qv 0) ja4 (fun _ _=>rfl)) ja4) ja4) ja4) (ji3 (qv 0) ja4 jhz)) (ja3 (jal (i:=3) sc.nd rfl (Or.inl rfl) (jar jn2 (jar jjh (jar jll (jaq q_ix (qv 0) ja4 (fun _ _=>rfl)) (jaq q_ix (qv 0) ja4 (fun _ _=>rfl))) ja4) ja4)) (ja3 (jba (jav q_gt (qv 1) (jar jqo ja4 ja4) (jae _)) (ja3 (ji0 (jar jjh (jar jca (jar jll (jaq q_ix (qv 0) ja4 (fun _ _=>rfl)) ja4) ja4) ja4) (ji3 (qv 0) ja4 jhz)) (ja6 (jal (i:=3) sc.nd rfl (Or.inl rfl) (jar jca (jar jll (qv 3) ja4) (jaq q_ix (qv 0) ja4 (fun _ _=>rfl)))))) jah) (ja6 (jag (jar jjh (qv 3) (qv 1)))))))),?_⟩
 simp_arith [jam,es,at0,at1,at2,ix30,ix31,ix32,ja1,jmg]
 have lo:∀ n:Int,0 ≤ n % m:=fun n=>Int.emod_nonneg _ (by omega)
 have hi:∀ n:Int,n % m < m:=fun n=>Int.emod_lt_of_pos _ (by omega)
 have y0:0 ≤ (x * 48271 + 39373) % 2147483647:=Int.emod_nonneg _ (by decide)
 have y1:(x * 48271 + 39373) % 2147483647 < 2147483647:=Int.emod_lt_of_pos _ (by decide)
 generalize (x * 48271 + 39373) % 2147483647 = y at y0 y1
 have z0:0 ≤ (y * 48271 + 39373) % 2147483647:=Int.emod_nonneg _ (by decide)
 have z1:(y * 48271 + 39373) % 2147483647 < 2147483647:=Int.emod_lt_of_pos _ (by decide)
 generalize (y * 48271 + 39373) % 2147483647 = z at z0 z1
 have cd:CDivB c m:=⟨by omega,by omega⟩
 have cd2:∀ n:Int,CDiv n 16:=fun n=>⟨by decide,by decide⟩
 have cp:CPow 10 6:=⟨by decide,by decide,by decide⟩
 refine ite2 (fun _=>⟨by omega,cd,h _ _ (lo _) (hi _) ⟨_,_,_,rfl,x0,x1⟩⟩) (fun _=>⟨cmR (by decide) (by decide),by decide,cmL (by omega) (by omega),by decide,cd2 _,cp,?_⟩)
 refine ite2 (fun _=>⟨cmR (by decide) (by decide),by decide,cmR (by decide) (by decide),by omega,h _ _ (lo _) (hi _) ⟨_,_,_,rfl,z0,by omega⟩⟩) (fun _=>⟨by omega,h _ _ (lo _) (hi _) ⟨_,_,_,rfl,y0,by omega⟩⟩)
theorem jic {f:Addr} {fd:FuncData}  (B:Blt mg) (D:DefAt K mg "_law_begun" (top 72) ["_law_script","_law_k"] f fd):FnOk P w K mg base CX0 1 f fd ["_law_script","_law_k"] (jmr K):=by
 have sc:FnScope ["_law_script","_law_k","_law_cell"] ["_law_script","_law_k"] (ja8 (top 72)):=⟨rfl,rfl,rfl,by decide +kernel,rfl,by decide +kernel,by decide +kernel⟩
 refine D.F.ok sc (fun vs H Q E h=>?_) (fun cdv A outer s H vs Q E hr h=>?_)
 ·obtain ⟨a,k,ns,rfl,_⟩:=h
  rfl
 obtain ⟨a,k,ns,rfl,hs,k0,k1,h⟩:=h
 have hu:=jb5 hr
 have hu0:_ < PySem.cLine:=Nat.lt_of_succ_lt hu
 refine ⟨_,(ja3 (jal (i:=2) sc.nd rfl (Or.inl rfl) ja4) (ja3 (jba (jav q_lt (qv 1) (jac jcs rfl B.len PySem.boot_len (ja0 (qv 0) ja2)) (jae _)) (ja6 (jal (i:=2) sc.nd rfl (Or.inl rfl) (jaq jnt (qv 0) (qv 1) (fun _ _=>rfl)))) jah) (ja6 (jag (jd3 (ja0 (qv 2) (ja0 (jar jjh (jar jca (jar jca (jar jjh (qv 2) ja4) (jar jll ja4 (qv 1))) (jar jll ja4 (jar jn2 (qv 1) ja4))) ja4) (ja0 (jas q_ge (qv 2) (jar jqo ja4 ja4) (jae _)) ja2)))))))),?_⟩
 walk_at "RD"
 refine ⟨a,_,rfl,.inl hs.sq,?_⟩
 simp_arith [List.length_map,rIxL]
 have q0:∀ n:Int,0 ≤ n % 2147483629:=fun n=>Int.emod_nonneg _ (by decide)
 have q1:∀ n:Int,n % 2147483629 < 2147483629:=fun n=>Int.emod_lt_of_pos _ (by decide)
 have cp:CPow 10 18:=⟨by decide,by decide,by decide⟩
 have cd:CDiv k 7:=⟨by decide,by decide⟩
 refine ite2 (fun c=>?_) (fun c=>?_)
 ·have c':k < (ns.length:Int):=of_decide_eq_true c
  have hk:k.toNat < ns.length:=by omega
  have e1:atI (ns.map V.int) ((k.toNat:Nat):Int) = some (.int ns[k.toNat]):=jdb (by rw [List.getElem?_map,List.getElem?_eq_getElem hk]; rfl)
  rw [show ((k.toNat:Nat):Int) = k by omega] at e1
  refine ⟨a,_,k,_,rfl,rfl,hs.sq,e1,?_⟩
  walk_at "RD"
  exact ⟨by decide,cmL (by decide) (by decide),cd,cmL (by decide) (by decide),by decide,cp,fun p hp=>h p _ hp ⟨_,_,_,rfl,q0 _,by have:=q1 (ns[k.toNat] % 2147483629 + 104729 * k + 7919 * (k / 7)); omega⟩⟩
 ·exact ⟨by decide,cmL (by decide) (by decide),cd,cmL (by decide) (by decide),by decide,cp,fun p hp=>h p _ hp ⟨_,_,_,rfl,q0 _,by have:=q1 (0 % 2147483629 + 104729 * k + 7919 * (k / 7)); omega⟩⟩
theorem jgn {f:Addr} {fd:FuncData} {f_law_take:Addr} {d_law_take:FuncData} (B:Blt mg) (D:DefAt K mg "_law_places" (top 74) ["_law_state","_law_count"] f fd) (D_law_take:DefAt K mg "_law_take" (top 73) ["_law_state","_law_many"] f_law_take d_law_take) (G_law_take:FnOk P w K mg base CX0 1 f_law_take d_law_take ["_law_state","_law_many"] jhr):FnOk P w K mg base CX0 2 f fd ["_law_state","_law_count"] jkn:=by
 have sc:FnScope ["_law_state","_law_count","_law_kind","_law_places_here","_law_number","_law_k"] ["_law_state","_law_count"] (ja8 (top 74)):=⟨rfl,rfl,rfl,by decide +kernel,rfl,by decide +kernel,by decide +kernel⟩
 refine D.F.ok sc (fun vs H Q E h=>?_) (fun cdv A outer s H vs Q E hr h=>?_)
 ·obtain ⟨s,o,n,rfl,_⟩:=h
  rfl
 obtain ⟨st,o,n,rfl,es,so,n0,n1,h⟩:=h
 have hu:=jb5 hr
 have hu0:_ < PySem.cLine:=Nat.lt_of_succ_lt hu
 refine ⟨_,(ja3 (jal (i:=2) sc.nd rfl (Or.inl rfl) (jad G_law_take (hr.mono (by decide)) rfl D_law_take.m D_law_take.F.kp D_law_take.b .nil jap (ja0 (qv 0) (ja0 ja4 ja2)))) (ja3 (jal (i:=3) sc.nd rfl (Or.inl rfl) (jd3 ja2)) (ja3 (jal (i:=4) sc.nd rfl (Or.inl rfl) (jp8 jp2 ja4)) (ja3 (jcl PassesOwn.never rfl (jes rfl B.range (ja0 (qv 1) ja2)) (jaf (i:=5) sc.nd rfl (Or.inl rfl)) (ja3 (jal (i:=4) sc.nd rfl (Or.inl rfl) (jar jca (jar jca (qv 4) ja4) (jad G_law_take (hr.mono (by decide)) rfl D_law_take.m D_law_take.F.kp D_law_take.b .nil jap (ja0 (qv 0) (ja0 (jaq q_ix (jd3 (ja0 ja4 (ja0 ja4 (ja0 ja4 (ja0 ja4 ja2))))) (jad G_law_take (hr.mono (by decide)) rfl D_law_take.m D_law_take.F.kp D_law_take.b .nil jap (ja0 (qv 0) (ja0 ja4 ja2))) (fun _ _=>rfl)) ja2))))) (ja6 (jb8 (q_bm PySem.F.plainAttrs_list PySem.F.slot_list_append PySem.F.type_list_append jdf (qv 3) (ja0 (jdg (ja0 (qv 4) (ja0 (jar jca ja4 (jad G_law_take (hr.mono (by decide)) rfl D_law_take.m D_law_take.F.kp D_law_take.b .nil jap (ja0 (qv 0) (ja0 (jaq q_ix (jd3 (ja0 ja4 (ja0 ja4 (ja0 ja4 (ja0 (jar jqo ja4 ja4) ja2))))) (qv 2) (fun _ _=>rfl)) ja2)))) ja2))) ja2)))))) (ja6 (jag (qv 3))))))),?_⟩
 walk_at "RD"
 refine ⟨st,o,4,rfl,es,so,by decide,by decide,fun kind o1 k0 k1 so1=>?_⟩
 walk_at "RD"
 intro r hr1
 have nr:r ≠ st:=fun z=>by rw [z,ja1] at hr1; cases hr1
 have hr0:H r = none:=by rw [← hr1,ja7 nr]
 refine ⟨n,rfl,by omega,by omega,jfa (n:=n.toNat) (fun i σ H1=>∃ l kk ps xs o',σ = [some (.ref st),some (.int n),some (.int kind),some (.ref r),some (.int l),kk]∧But st H H1∧H1 st = some o'∧StO o'∧H1 r = some (.lst xs)∧Prs H1 xs ps∧ps.length = i∧Dr (-1) ps∧l = jnm (-1) ps) ?_ ?_ ?_⟩
 ·refine ⟨-1,none,[],[],o1,rfl,fun b u nb q=>?_,by rw [ja7 nr.symm,ja1],so1,ja1,.nil,rfl,trivial,rfl⟩
  rw [ja7 (ja9 q hr0),ja7 nb]
  exact q
 ·rintro i σ H1 hi ⟨l,kk,ps,xs,o',rfl,b1,e1,so',er,pp,hlen,dr,el⟩
  have hlx:xs.length = ps.length:=Paired.length pp
  walk_at "RD"
  intro p1 hp1
  have np:p1 ≠ st:=(ja9 e1 hp1).symm
  have nr1:r ≠ p1:=ja9 er hp1
  refine ⟨st,o',4,rfl,(by rw [ja7 np.symm]; exact e1),so',by decide,by decide,fun d1 o2 d10 d11 so2=>?_⟩
  obtain ⟨v,ev,v0,v1⟩:∃ v,atI [V.int 1,.int 2,.int 6,.int 23] d1 = some (.int v)∧1 ≤ v∧v ≤ 23:=by
   obtain ⟨v,ev,hv⟩:=menu4 (a:=1) (b:=2) (c:=6) (e:=23) d10 d11
   exact ⟨v,ev,by omega,by omega⟩
  simp_arith [jam,ja7 np,ja1,ev]
  refine ⟨st,o2,v,rfl,ja1,so2,by omega,by omega,fun d2 o3 d20 d21 so3=>?_⟩
  simp_arith [jmg]
  have b3:But st H1 (upd (upd H1 p1 (.lst [.int 1,.int 2,.int 6,.int 23])) st o3):=(But.new hp1).trans (But.at _ _ _)
  have e3:(upd (upd H1 p1 (.lst [.int 1,.int 2,.int 6,.int 23])) st o3) st = some o3:=ja1
  generalize upd (upd H1 p1 (.lst [.int 1,.int 2,.int 6,.int 23])) st o3 = H3 at b3 e3
  have t3:TupS H1 H3:=b3.tups e1 so'.imm
  have er3:=b3 _ _ nr er
  refine ⟨⟨r,xs,rfl,er3⟩,⟨by decide,by decide,by decide⟩,?_⟩
  intro p2 hp2
  have np2:p2 ≠ st:=(ja9 e3 hp2).symm
  have nr2:r ≠ p2:=ja9 er3 hp2
  obtain ⟨v2,ev2,v20,v21⟩:∃ v,atI [V.int 1,.int 3,.int 9,.int (10 ^ Int.toNat 9)] kind = some (.int v)∧1 ≤ v∧v ≤ 1000000000:=by
   obtain ⟨v,ev,hv⟩:=menu4 (a:=1) (b:=3) (c:=9) (e:=10 ^ Int.toNat 9) k0 k1
   rw [p9] at hv
   exact ⟨v,ev,by omega,by omega⟩
  simp_arith [jam,ja1,ev2]
  refine ⟨st,o3,v2,rfl,(by rw [ja7 np2.symm]; exact e3),so3,by omega,by omega,fun d3 o4 d30 d31 so4=>?_⟩
  walk_at "RD"
  have b4:But st H3 (upd (upd H3 p2 (.lst [.int 1,.int 3,.int 9,.int (10 ^ Int.toNat 9)])) st o4):=(But.new hp2).trans (But.at _ _ _)
  have e4:(upd (upd H3 p2 (.lst [.int 1,.int 3,.int 9,.int (10 ^ Int.toNat 9)])) st o4) st = some o4:=ja1
  generalize upd (upd H3 p2 (.lst [.int 1,.int 3,.int 9,.int (10 ^ Int.toNat 9)])) st o4 = H4 at b4 e4
  have t4:TupS H3 H4:=b4.tups e3 so3.imm
  have er4:=b4 _ _ nr er3
  intro t ht
  have nt:t ≠ st:=(ja9 e4 ht).symm
  have er5:upd H4 t (.tup [.int (l + 1 + d2),.int (1 + d3)]) r = some (.lst xs):=by rw [ja7 (ja9 er4 ht)]; exact er4
  simp_arith [er5]
  have t5:TupS H4 (upd H4 t (.tup [.int (l + 1 + d2),.int (1 + d3)])):=jos ht
  have t6:=jdc (ys:=xs ++ [.ref t]) er5
  refine ⟨szl' (by omega),l + 1 + d2,_,ps ++ [(l + 1 + d2,1 + d3)],_,o4,rfl,fun b u nb q=>?_,?_,so4,(by first | rfl | exact ja1),?_,?_,?_,?_⟩
  ·have q1:=b4 _ _ nb (b3 _ _ nb (b1 _ _ nb q))
   rw [ja7 (ja9 q hr0),ja7 (ja9 q1 ht)]
   exact q1
  ·rw [ja7 nr.symm,ja7 nt.symm]
   exact e4
  ·exact jbu (Prs.tups (((t3.trans t4).trans t5).trans t6) pp) (Pr.tups ⟨t,rfl,ja1⟩ t6)
  ·rw [List.length_append,hlen]
   rfl
  ·exact dr.snoc ⟨by show _ < l + 1 + d2; omega,by show l + 1 + d2 ≤ _; omega,by show 1 ≤ 1 + d3; omega,by show 1 + d3 ≤ _; omega⟩
  ·rw [jg3]
 ·rintro σ H1 ⟨l,kk,ps,xs,o',rfl,b1,e1,so',er,pp,hlen,dr,el⟩
  walk_at "RD"
  exact h r H1 o' xs ps hr0 b1 e1 so' er pp (by omega) dr
end
end My
namespace My
open PySem L2
section
variable {P:Program} {w:World} {K:PySem.W.Frag} {mg:Str→Option Value} {base:Heap} {c1 c2 c3 c4:Tok}
theorem Dr.pl:∀ {ps:List (Int × Int)} {l s:Int},Dr l ps→l + 23 * ps.length ≤ 999→s + 1000000000 * ps.length ≤ 1000000000000→PlOk l s ps
 | [],_,_,_,_,_=>trivial
 | p :: r,l,s,h,h1,h2=>by
  have e:((p :: r).length:Int) = r.length + 1:=by simp
  rw [e] at h1 h2
  obtain ⟨⟨a1,a2,a3,a4⟩,h3⟩:=h
  exact ⟨⟨a1,by omega,a3,by omega⟩,Dr.pl h3 (by omega) (by omega)⟩
theorem lex_lt {a b c d:Int} (h:a < c):HT.lexLt [a,b] [c,d] = true:=by
 rw [HT.lexLt_cons,if_neg (by omega)]
 exact decide_eq_true h
theorem lex_eq {a b d:Int} (h:b < d):HT.lexLt [a,b] [a,d] = true:=by
 rw [HT.lexLt_cons,if_pos rfl,HT.lexLt_cons,if_neg (by omega)]
 exact decide_eq_true h
theorem PlOk.rise:∀ {ps:List (Int × Int)} {l s:Int},PlOk l s ps→∀ (i j:Nat) (p q:Int × Int),i < j→ps[i]? = some p→ps[j]? = some q→p.1 < q.1
 | [],_,_,_,i,j,p,q,_,h,_=>by simp at h
 | r :: rs,l,s,h,i,j,p,q,hij,hi,hj=>by
  cases j with
  | zero=>omega
  | succ j =>
   have hj':rs[j]? = some q:=by simpa using hj
   cases i with
   | zero =>
    have e:r = p:=by simpa using hi
    subst e
    exact PlOk.gt h.2 q (List.mem_of_getElem? hj')
   | succ i=>exact PlOk.rise h.2 i j p q (by omega) (by simpa using hi) hj'
theorem ne_st {H:Hp} {a st:Addr} {xs:List V} {ps:List (Int × Int)} {o:HO} (ha:H a = some (.lst xs)) (pp:Prs H xs ps) (hs:H st = some o) (so:StO o):a ≠ st:=by
 intro z
 obtain ⟨c,s,f,e,_⟩:=so
 rw [z,hs,e] at ha
 cases ha
 cases pp with
 | cons r _=>obtain ⟨t,e,_⟩:=r; cases e
theorem jch.but {H H':Hp} {st:Addr} {o:HO} {v:V} {ps ts:List (Int × Int)} (h:jch H v ps ts) (hs:H st = some o) (so:StO o) (b:But st H H'):jch H' v ps ts:=by
 obtain ⟨u,pa,ta,xs,ys,e,h1,h2,h3,h4,h5⟩:=h
 have t:=b.tups hs so.imm
 exact ⟨u,pa,ta,xs,ys,e,t _ _ rfl h1,b _ _ (ne_st h2 h4 hs so) h2,b _ _ (ne_st h3 h5 hs so) h3,Prs.tups t h4,Prs.tups t h5⟩
end
end My
namespace My
open PySem L2
section
variable {P:Program} {w:World} {K:PySem.W.Frag} {mg:Str→Option Value} {base:Heap} {c1 c2 c3 c4:Tok} {C_NoWeb f_NoWeb:Addr} {dI:FuncData}
def nr (n:Int) (t:Int × Int):List Int:=if t.1 = n then [t.2] else if t.2 = n then [t.1] else []
def jab (ts:List (Int × Int)) (n:Int):List Int:=ts.flatMap (nr n)
theorem jlu {ts:List (Int × Int)} {j:Nat} {t:Int × Int} (h:ts[j]? = some t) (n:Int):jab (ts.take (j + 1)) n = jab (ts.take j) n ++ nr n t:=by
 unfold jab
 rw [jaj h,List.flatMap_append]
 simp
theorem jf1:∀ (ts:List (Int × Int)) (n:Int),(jab ts n).length ≤ ts.length
 | [],n=>by simp [jab]
 | t :: r,n=>by
  have ih:=jf1 r n
  have e:jab (t :: r) n = nr n t ++ jab r n:=by simp [jab]
  have e2:(nr n t).length ≤ 1:=by
   unfold nr
   split
   ·simp
   ·split <;> simp
  rw [e,List.length_append,List.length_cons]
  omega
def kz:List (Int × Int)→List Addr→List (Key × V)
 | p :: r,a :: s=>(Sum.inl p.1,V.ref a) :: kz r s
 | _,_=>[]
theorem jnn:∀ {ps:List (Int × Int)} {as:List Addr} {p:Int × Int} {a:Addr},ps.length = as.length→kz (ps ++ [p]) (as ++ [a]) = kz ps as ++ [(Sum.inl p.1,V.ref a)]
 | [],[],_,_,_=>rfl
 | [],_ :: _,_,_,h=>by simp at h
 | _ :: _,[],_,_,h=>by simp at h
 | q :: r,b :: s,p,a,h=>by
  have ih:=jnn (ps:=r) (as:=s) (p:=p) (a:=a) (by simpa using h)
  show (Sum.inl q.1,V.ref b) :: kz (r ++ [p]) (s ++ [a]) = _
  rw [ih]
  rfl
theorem jk4:∀ {ps:List (Int × Int)} {as:List Addr},ps.length = as.length→(kz ps as).map (·.1) = ps.map fun p=>(Sum.inl p.1:Key)
 | [],[],_=>rfl
 | [],_ :: _,h=>by simp at h
 | _ :: _,[],h=>by simp at h
 | q :: r,b :: s,h=>by
  show (Sum.inl q.1:Key) :: (kz r s).map (·.1) = _
  rw [jk4 (by simpa using h)]
  rfl
theorem jl0:∀ {ps:List (Int × Int)} {as:List Addr} {i:Nat} {p:Int × Int} {a:Addr},(ps.map (·.1)).Nodup→ps[i]? = some p→as[i]? = some a→valV (kz ps as) (Sum.inl p.1:Key) = some (.ref a)
 | [],_,i,_,_,_,h,_=>by simp at h
 | _ :: _,[],i,_,_,_,_,h=>by simp at h
 | q :: r,b :: s,i,p,a,hn,h1,h2=>by
  rw [List.map_cons] at hn
  unfold valV
  show Option.map _ (List.find? _ ((Sum.inl q.1,V.ref b) :: kz r s)) = _
  rw [List.find?_cons]
  cases i with
  | zero =>
   simp at h1 h2
   subst h1 h2
   simp
  | succ i =>
   have hp:p ∈ r:=List.mem_of_getElem? (by simpa using h1)
   have hne:q.1 ≠ p.1:=fun z=>(List.nodup_cons.mp hn).1 (by rw [z]; exact List.mem_map_of_mem hp)
   have hd:decide ((Sum.inl q.1:Key) = Sum.inl p.1) = false:=decide_eq_false fun z=>hne (Sum.inl.inj z)
   dsimp only
   rw [hd]
   exact jl0 (List.nodup_cons.mp hn).2 (i:=i) (by simpa using h1) (by simpa using h2)
theorem jdj {ps:List (Int × Int)} {n:Int} (h:hasK (jbe ps) n = true):∃ (i:Nat) (p:Int × Int),ps[i]? = some p∧p.1 = n:=by
 unfold hasK valV jbe at h
 rw [Option.isSome_map,List.find?_isSome] at h
 obtain ⟨kv,hm,he⟩:=h
 obtain ⟨p,hp,e⟩:=List.mem_map.mp hm
 subst e
 obtain ⟨i,hi,e2⟩:=List.mem_iff_getElem.mp hp
 refine ⟨i,p,by rw [List.getElem?_eq_getElem hi,e2],?_⟩
 exact Sum.inl.inj (of_decide_eq_true he)
theorem TiOk.ats {kvs:List (Key × V)}:∀ {ts:List (Int × Int)} {q:Int × Int},TiOk kvs q ts→∀ t ∈ ts,t.1 < t.2∧hasK kvs t.1 = true∧hasK kvs t.2 = true
 | [],_,_,_,h=>by cases h
 | p :: r,q,h,t,ht=>by
  rcases List.mem_cons.mp ht with e | ht
  ·rw [e]; exact ⟨h.1.2.1,h.1.2.2.1,h.1.2.2.2⟩
  ·exact TiOk.ats h.2 t ht
def jrj (H:Hp) (ps ts:List (Int × Int)) (as:List Addr):Prop:=∀ (i:Nat) (p:Int × Int) (a:Addr),ps[i]? = some p→as[i]? = some a→H a = some (.lst ((jab ts p.1).map V.int))
def jhs:Sp:=fun vs H Q _=>∃ v ps ts,vs = [v]∧jch H v ps ts∧WebOk ps ts∧∀ d as H',H d = none→Same H H'→H' d = some (.dK (kz ps as))→as.length = ps.length→jrj H' ps ts as→Q (.ref d) H'
theorem jcx {α:Type} {l:List α} (h:l.Nodup) {i j:Nat} {a b:α} (h1:l[i]? = some a) (h2:l[j]? = some b) (hij:i ≠ j):a ≠ b:=by
 intro e
 subst e
 obtain ⟨p1,q1⟩:=List.getElem?_eq_some_iff.mp h1
 obtain ⟨p2,q2⟩:=List.getElem?_eq_some_iff.mp h2
 exact hij ((List.getElem_inj h).mp (q1.trans q2.symm))
theorem jjs {f:Addr} {fd:FuncData}  (B:Blt mg) (D:DefAt K mg "nears_in" (top 33) ["web"] f fd):FnOk P w K mg base CX0 1 f fd ["web"] jhs:=by
 have sc:FnScope ["web","nears","one","other"] ["web"] (ja8 (top 33)):=⟨rfl,rfl,rfl,by decide +kernel,rfl,by decide +kernel,by decide +kernel⟩
 refine D.F.ok sc (fun vs H Q E h=>?_) (fun cdv A outer s H vs Q E hr h=>?_)
 ·obtain ⟨v,ps,ts,rfl,_⟩:=h
  rfl
 obtain ⟨v,ps,ts,rfl,hw,wok,h⟩:=h
 obtain ⟨x,pa,ta,xs,ys,rfl,ex,ep,et,pp,pt⟩:=id hw
 have hlx:xs.length = ps.length:=Paired.length pp
 have hly:ys.length = ts.length:=Paired.length pt
 have okl:=wok.pl
 have okt:=wok.tl
 have hnd:=wok.p.nodup
 have hu:=jb5 hr
 have hu0:_ < PySem.cLine:=Nat.lt_of_succ_lt hu
 refine ⟨_,(ja3 (jal (i:=1) sc.nd rfl (Or.inl rfl) (jbk (jjj rfl) rfl B.dict PyProof.Rows.boot_dict (ja0 (jc3 (CpScope.of (N:=["place","price"]) (src:=[none,none]) (by rfl)) rfl (jb0 (jaq q_ix (qv 0) ja4 (fun _ _=>rfl))) (fun _ _ _ _=>(jcj (n:=2) rfl (jan (jaf (i:=0) (jai (l:=["place","price"]) (by rfl)) rfl (Or.inl rfl)) (jan (jaf (i:=1) (jai (l:=["place","price"]) (by rfl)) rfl (Or.inl rfl)) jbr)))) (fun _ _ _ _=>jbs) (fun _ _ _ _=>(jdg (ja0 (qv 0) (ja0 (jd3 ja2) ja2))))) ja2))) (ja3 (jcl PassesOwn.never rfl (jb0 (jaq q_ix (qv 0) ja4 (fun _ _=>rfl))) (jcj (n:=2) rfl (jan (jaf (i:=2) sc.nd rfl (Or.inl rfl)) (jan (jaf (i:=3) sc.nd rfl (Or.inl rfl)) jbr))) (ja3 (jb8 (q_bm PySem.F.plainAttrs_list PySem.F.slot_list_append PySem.F.type_list_append jdf (jax hu (qv 1) (qv 2) (fun _ _=>rfl)) (ja0 (qv 3) ja2))) (ja6 (jb8 (q_bm PySem.F.plainAttrs_list PySem.F.slot_list_append PySem.F.type_list_append jdf (jax hu (qv 1) (qv 3) (fun _ _=>rfl)) (ja0 (qv 2) ja2)))))) (ja6 (jag (qv 1))))),?_⟩
 walk_at "RD"
 refine jb4 (Itl K pa) H (fun R hR=>?_) (fun l hl0=>jb9 ps.length (fun i σ' Hc=>∃ w1 w2 zs as,σ' = [w1,w2]∧Same H Hc∧Hc l = some (.lst zs)∧as.length = i∧as.Nodup∧(∀ a ∈ as,H a = none∧a ≠ l∧Hc a = some (.lst []))∧Paired (PairAt Hc) zs (kz (ps.take i) as)) ⟨none,none,[],[],rfl,ja5 hl0 _,ja1,rfl,List.nodup_nil,(fun _ h=>by cases h),.nil⟩ ?_ ?_)
 ·unfold jc8
  simp_arith [jam,ex,at0]
  exact ⟨pa,rfl,⟨_,SqL.of ep⟩,hR⟩
 ·rintro i σ' Hc hi ⟨w1,w2,zs,as,rfl,s2,ez,hla,nda,ha,pz⟩
  have x1:xs[i]? = some (xs[i]'(by omega)):=List.getElem?_eq_getElem _
  have z1:SqL K Hc pa xs:=SqL.of (s2 _ _ ep)
  have hlt:(ps.take i).length = as.length:=by rw [List.length_take]; omega
  have hlz:zs.length = (kz (ps.take i) as).length:=Paired.length pz
  have hlz2:zs.length ≤ i:=by
   have e:=congrArg List.length (jk4 hlt)
   rw [List.length_map,List.length_map] at e
   omega
  refine ⟨⟨_,_,z1,x1⟩,?_⟩
  rintro y H' ⟨rfl,hy⟩
  obtain ⟨q,hq,pq⟩:=jao pp (hy _ z1)
  obtain ⟨t,rfl,ht⟩:=pq.same s2
  simp_arith [ht]
  intro a1 ha1 t2 ht2
  have na1:a1 ≠ l:=fun z=>by rw [z,ez] at ha1; cases ha1
  have nt2:t2 ≠ a1:=fun z=>by rw [z,ja1] at ht2; cases ht2
  have s3:=ja5 ha1 (.lst [])
  have s4:=ja5 ht2 (.tup [.int q.1,.ref a1])
  have ez2:=s4 _ _ (s3 _ _ ez)
  have t6:=jdc (ys:=zs ++ [.ref t2]) ez2
  refine ⟨zs,ez2,szl' (by omega),_,_,zs ++ [.ref t2],as ++ [a1],rfl,jaz (s2.trans (s3.trans s4)) hl0,(by first | rfl | exact ja1),(by rw [List.length_append,hla]; rfl),?_,?_,?_⟩
  ·rw [List.nodup_append]
   refine ⟨nda,(by simp),fun a hm b hb=>?_⟩
   have hb':b = a1:=by simpa using hb
   intro z
   rw [hb'] at z
   have:=(ha a hm).2.2
   rw [z,ha1] at this
   cases this
  ·intro a hm
   rcases List.mem_append.mp hm with hm | hm
   ·obtain ⟨q1,q2,q3⟩:=ha a hm
    refine ⟨q1,q2,?_⟩
    rw [ja7 q2]
    exact s4 _ _ (s3 _ _ q3)
   ·have e:a = a1:=by simpa using hm
    subst e
    refine ⟨s2.free ha1,na1,?_⟩
    rw [ja7 na1]
    exact s4 _ _ ja1
  ·rw [jaj hq,jnn hlt]
   refine jbu (Paired.mapP pz fun v p q=>?_) ⟨t2,rfl,t6 _ _ rfl ja1⟩
   obtain ⟨b,e,q⟩:=q
   exact ⟨b,e,t6 _ _ rfl (s4 _ _ (s3 _ _ q))⟩
 rintro σ' Hc ⟨w1,w2,zs,as,rfl,s2,ez,hla,nda,ha,pz⟩
 refine ⟨⟨_,SqL.of (s2 _ _ ep),by omega⟩,?_⟩
 rw [List.take_length] at pz
 have hlz:zs.length = (kz ps as).length:=Paired.length pz
 have hkk:=jk4 (ps:=ps) (as:=as) hla.symm
 have hlz2:zs.length = ps.length:=by
  have e:=congrArg List.length hkk
  rw [List.length_map,List.length_map] at e
  omega
 simp_arith [ez]
 refine ⟨kz ps as,pz,by omega,?_,fun d hd=>?_⟩
 ·rw [hkk]
  have hnd2:=hnd
  unfold List.Nodup at hnd2 ⊢
  rw [List.pairwise_map] at hnd2 ⊢
  exact hnd2.imp fun q z=>q (Sum.inl.inj z)
 have s3:=ja5 hd (.dK (kz ps as))
 have ed:upd Hc d (.dK (kz ps as)) d = some (.dK (kz ps as)):=ja1
 have hd0:=s2.free hd
 have ha3:∀ a ∈ as,H a = none∧a ≠ d∧upd Hc d (.dK (kz ps as)) a = some (.lst []):=fun a hm=>by
  obtain ⟨q1,q2,q3⟩:=ha a hm
  exact ⟨q1,ja9 q3 hd,s3 _ _ q3⟩
 have s23:=s2.trans s3
 generalize upd Hc d (.dK (kz ps as)) = H2 at s23 ed ha3
 clear s3 s2 ez pz ha hlz hd
 refine jbq (Itl K ta) H2 (fun R hR=>?_) (jcd (K:=K) (a:=ta) (xs:=ys) (fun j σ H3=>∃ v1 v2,σ = [some (.ref x),some (.ref d),v1,v2]∧Same H H3∧H3 d = some (.dK (kz ps as))∧jrj H3 ps (ts.take j) as) ⟨none,none,rfl,s23,ed,fun i p a _ h2=>(ha3 a (List.mem_of_getElem? h2)).2.2⟩ (fun i σ H3 _ ⟨_,_,_,s3,_⟩=>SqL.of (s3 _ _ et)) ?_ ?_)
 ·unfold jc8
  simp_arith [jam,s23 _ _ ex,at1]
  exact ⟨ta,rfl,⟨_,SqL.of (s23 _ _ et)⟩,hR⟩
 ·rintro j y σ H3 hj ⟨v1,v2,rfl,s3,ed3,hN⟩
  obtain ⟨q,hq,pq⟩:=jao pt hj
  obtain ⟨t,rfl,ht⟩:=pq.same s3
  obtain ⟨b1,b2,b3⟩:=wok.t.ats q (List.mem_of_getElem? hq)
  obtain ⟨i1,p1,g1,e1⟩:=jdj b2
  obtain ⟨i2,p2,g2,e2⟩:=jdj b3
  have hi1:i1 < as.length:=by have:=(List.getElem?_eq_some_iff.mp g1).1; omega
  have hi2:i2 < as.length:=by have:=(List.getElem?_eq_some_iff.mp g2).1; omega
  have A1:as[i1]? = some as[i1]:=List.getElem?_eq_getElem hi1
  have A2:as[i2]? = some as[i2]:=List.getElem?_eq_getElem hi2
  generalize as[i1] = a1 at A1
  generalize as[i2] = a2 at A2
  have V1:=jl0 hnd g1 A1
  have V2:=jl0 hnd g2 A2
  have n12:i1 ≠ i2:=fun z=>by rw [z,g2] at g1; cases g1; omega
  have na:a1 ≠ a2:=jcx nda A1 A2 n12
  rw [e1] at V1
  rw [e2] at V2
  have M1:=hN i1 p1 a1 g1 A1
  have M2:=hN i2 p2 a2 g2 A2
  have hlj:∀ n,(jab (ts.take j) n).length ≤ 120:=fun n=>Nat.le_trans (jf1 _ _) (by rw [List.length_take]; omega)
  have nd1:d ≠ a1:=((ha3 a1 (List.mem_of_getElem? A1)).2.1).symm
  have nd2:d ≠ a2:=((ha3 a2 (List.mem_of_getElem? A2)).2.1).symm
  simp_arith [ht,ed3,V1]
  refine ⟨⟨a1,_,rfl,M1⟩,?_⟩
  simp_arith [M1]
  refine ⟨szl' (by rw [List.length_map]; have:=hlj p1.1; omega),?_⟩
  simp_arith [ja7 nd1,ed3,V2]
  refine ⟨⟨a2,_,rfl,(by rw [ja7 na.symm]; exact M2)⟩,?_⟩
  simp_arith [ja7 na.symm,M2]
  refine ⟨szl' (by rw [List.length_map]; have:=hlj p2.1; omega),_,_,rfl,?_,?_,?_⟩
  ·intro b o hb
   rw [ja7 (ja9 hb (ha3 a2 (List.mem_of_getElem? A2)).1),ja7 (ja9 hb (ha3 a1 (List.mem_of_getElem? A1)).1)]
   exact s3 b o hb
  ·rw [ja7 nd2,ja7 nd1]
   exact ed3
  ·intro i p a hp ha'
   rw [jlu hq,List.map_append]
   have hpe:∀ {k:Nat} {r:Int × Int},ps[k]? = some r→r.1 = p.1→k = i:=fun {k r} hr he=>by
    have h1:(ps.map (·.1))[k]? = some r.1:=by rw [List.getElem?_map,hr]; rfl
    have h2:(ps.map (·.1))[i]? = some p.1:=by rw [List.getElem?_map,hp]; rfl
    by_cases z:k = i
    ·exact z
    ·exact absurd he (jcx hnd h1 h2 z)
   by_cases c2:i = i2
   ·subst c2
    rw [g2] at hp
    cases hp
    rw [A2] at ha'
    cases ha'
    have e3:nr p2.1 q = [q.1]:=by
     unfold nr
     rw [if_neg (by omega),if_pos e2.symm]
    rw [ja1,e3]
    rfl
   by_cases c1:i = i1
   ·subst c1
    rw [g1] at hp
    cases hp
    rw [A1] at ha'
    cases ha'
    have e3:nr p1.1 q = [q.2]:=by
     unfold nr
     rw [if_pos e1.symm]
    rw [ja7 na,ja1,e3]
    rfl
   have n1:a ≠ a1:=jcx nda ha' A1 c1
   have n2:a ≠ a2:=jcx nda ha' A2 c2
   have e3:nr p.1 q = []:=by
    unfold nr
    rw [if_neg (fun z=>c1 (hpe g1 (e1.trans z)).symm),if_neg (fun z=>c2 (hpe g2 (e2.trans z)).symm)]
   rw [ja7 n2,ja7 n1,e3,List.map_nil,List.append_nil]
   exact hN i p a hp ha'
 ·rintro σ H3 ⟨v1,v2,rfl,s3,ed3,hN⟩
  rw [hly,List.take_length] at hN
  walk_at "RD"
  exact h d as H3 hd0 s3 ed3 hla hN
end
end My
namespace My
open PySem L2
section
variable {P:Program} {w:World} {K:PySem.W.Frag} {mg:Str→Option Value} {base:Heap} {c1 c2 c3 c4:Tok} {C_NoWeb f_NoWeb:Addr} {dI:FuncData}
def isPl (kvs:List (Key × V)):Dt→Bool
 | .int n=>hasK kvs n
 | _=>false
def jq7:Sp:=fun vs H Q _=>∃ d kvs x dt,vs = [.ref d,x]∧H d = some (.dK kvs)∧Rep H dt x∧Q (.bl (isPl kvs dt)) H
def jqa:Sp:=fun vs H Q _=>∃ d kvs l ds xs,vs = [.ref d,.ref l]∧H d = some (.dK kvs)∧H l = some (.tup xs)∧Reps H ds xs∧ds.length ≤ 900∧∀ H',Same H H'→Q (.bl (ds.all (isPl kvs))) H'
def NrAt (H:Hp) (d:Addr) (ps ts:List (Int × Int)):Prop:=∃ as,H d = some (.dK (kz ps as))∧as.length = ps.length∧jrj H ps ts as
theorem NrAt.same {H H':Hp} {d:Addr} {ps ts:List (Int × Int)} (h:NrAt H d ps ts) (s:Same H H'):NrAt H' d ps ts:=by
 obtain ⟨as,e,l,n⟩:=h
 exact ⟨as,s _ _ e,l,fun i p a h1 h2=>s _ _ (n i p a h1 h2)⟩
theorem NrAt.get {H:Hp} {d:Addr} {ps ts:List (Int × Int)} (h:NrAt H d ps ts) (hn:(ps.map (·.1)).Nodup) {n:Int} (m:n ∈ ps.map (·.1)):∃ as a,H d = some (.dK (kz ps as))∧valV (kz ps as) (Sum.inl n:Key) = some (.ref a)∧H a = some (.lst ((jab ts n).map V.int)):=by
 obtain ⟨as,e,l,nr⟩:=h
 obtain ⟨p,hp,rfl⟩:=List.mem_map.mp m
 obtain ⟨i,hi,e2⟩:=List.mem_iff_getElem.mp hp
 have h1:ps[i]? = some p:=by rw [List.getElem?_eq_getElem hi,e2]
 have h2:as[i]? = some (as[i]'(by omega)):=List.getElem?_eq_getElem _
 exact ⟨as,_,e,jl0 hn h1 h2,nr i p _ h1 h2⟩
theorem jjy {f:Addr} {fd:FuncData} {f_is_whole:Addr} {d_is_whole:FuncData} (B:Blt mg) (D:DefAt K mg "is_place" (top 31) ["prices","thing"] f fd) (D_is_whole:DefAt K mg "is_whole" (top 16) ["thing"] f_is_whole d_is_whole) (G_is_whole:FnOk P w K mg base CX0 1 f_is_whole d_is_whole ["thing"] jjd):FnOk P w K mg base CX0 2 f fd ["prices","thing"] jq7:=by
 have sc:FnScope ["prices","thing"] ["prices","thing"] (ja8 (top 31)):=⟨rfl,rfl,rfl,by decide +kernel,rfl,by decide +kernel,by decide +kernel⟩
 refine D.F.ok sc (fun vs H Q E h=>?_) (fun cdv A outer s H vs Q E hr h=>?_)
 ·obtain ⟨d,kvs,x,dt,rfl,_⟩:=h
  rfl
 obtain ⟨d,kvs,x,dt,rfl,ed,hd,h⟩:=h
 have hk:=jep hd
 have hu:=jb5 hr
 have hu0:_ < PySem.cLine:=Nat.lt_of_succ_lt hu
 refine ⟨_,(ja6 (jag (jck (jad G_is_whole (hr.mono (by decide)) rfl D_is_whole.m D_is_whole.F.kp D_is_whole.b .nil jap (ja0 (qv 1) ja2)) (jbz (jn9 (jqr hu (qv 1) (qv 0))))))),?_⟩
 cases dt with
 | int n =>
  rw [Rep] at hd
  subst hd
  walk_at "RD"
  refine ⟨_,.int,rfl,rfl,?_⟩
  simp_arith [jd2,ed]
  exact h
 | non=>walk_at "RD"; exact ⟨_,_,rfl,hk,by simp_arith [jd2,kdD]; exact h⟩
 | bl b=>walk_at "RD"; exact ⟨_,_,rfl,hk,by simp_arith [jd2,kdD]; exact h⟩
 | str b=>walk_at "RD"; exact ⟨_,_,rfl,hk,by simp_arith [jd2,kdD]; exact h⟩
 | tup b=>walk_at "RD"; exact ⟨_,_,rfl,hk,by simp_arith [jd2,kdD]; exact h⟩
 | lst b=>walk_at "RD"; exact ⟨_,_,rfl,hk,by simp_arith [jd2,kdD]; exact h⟩
theorem jgq {f:Addr} {fd:FuncData} {f_is_place:Addr} {d_is_place:FuncData} (B:Blt mg) (D:DefAt K mg "are_places" (top 32) ["prices","things"] f fd) (D_is_place:DefAt K mg "is_place" (top 31) ["prices","thing"] f_is_place d_is_place) (G_is_place:FnOk P w K mg base CX0 2 f_is_place d_is_place ["prices","thing"] jq7):FnOk P w K mg base CX0 3 f fd ["prices","things"] jqa:=by
 have sc:FnScope ["prices","things"] ["prices","things"] (ja8 (top 32)):=⟨rfl,rfl,rfl,by decide +kernel,rfl,by decide +kernel,by decide +kernel⟩
 refine D.F.ok sc (fun vs H Q E h=>?_) (fun cdv A outer s H vs Q E hr h=>?_)
 ·obtain ⟨d,kvs,l,ds,xs,rfl,_⟩:=h
  rfl
 obtain ⟨d,kvs,l,ds,xs,rfl,ed,el,hr2,hl9,h⟩:=h
 have hlx:=hr2.len
 have hu:=jb5 hr
 have hu0:_ < PySem.cLine:=Nat.lt_of_succ_lt hu
 refine ⟨_,(ja6 (jag (jac (q_all rfl) rfl B.all PyProof.Rows.boot_all (ja0 (jc3 (CpScope.of (N:=["thing","prices"]) (src:=[none,some 0]) (by rfl)) rfl (pi_tup (qv 1)) (fun _ _ _ _=>(jaf (i:=0) (jai (l:=["thing","prices"]) (by rfl)) rfl (Or.inl rfl))) (fun _ _ _ _=>jbs) (fun _ _ _ _=>(jad G_is_place (hr.mono (by decide)) rfl D_is_place.m D_is_place.F.kp D_is_place.b .nil jap (ja0 (qv 1) (ja0 (qv 0) ja2))))) ja2)))),?_⟩
 walk_at "RD"
 refine jb4 (Itt K l) H (fun R hR=>?_) (fun z hz0=>jb9 ds.length (fun i σ' Hc=>∃ w1,σ' = [w1,some (.ref d)]∧Same H Hc∧Hc z = some (.lst (((ds.take i).map (isPl kvs)).map V.bl))) ⟨none,rfl,ja5 hz0 _,ja1⟩ ?_ ?_)
 ·unfold iTup
  walk_at "RD"
  exact ⟨l,rfl,⟨_,SqT.of el⟩,hR⟩
 ·rintro i σ' Hc hi ⟨w1,rfl,s2,ez⟩
  have x1:xs[i]? = some (xs[i]'(by omega)):=List.getElem?_eq_getElem _
  refine ⟨⟨_,_,SqT.of (s2 _ _ el),x1⟩,?_⟩
  rintro y H' ⟨rfl,hy⟩
  have E1:=Option.some.inj (x1.symm.trans (hy _ (SqT.of (s2 _ _ el))))
  subst E1
  obtain ⟨dt,hdt,rdt⟩:=hr2.at x1
  walk_at "RD"
  refine ⟨d,kvs,_,dt,rfl,s2 _ _ ed,Rep.same s2 _ rdt,?_⟩
  refine ⟨_,ez,?_,_,rfl,jaz s2 hz0,?_⟩
  ·rw [List.length_map,List.length_map,List.length_take]
   exact szl' (by omega)
  ·rw [jaj hdt,List.map_append,List.map_append]
   first | rfl | exact ja1
 ·rintro σ' Hc ⟨w1,rfl,s2,ez⟩
  refine ⟨⟨_,SqT.of (s2 _ _ el),by omega⟩,?_⟩
  rw [List.take_length] at ez
  simp_arith [ez]
  refine ⟨_,rfl,?_⟩
  have e:(ds.map (isPl kvs)).all id = ds.all (isPl kvs):=by
   rw [List.all_map]
   rfl
  rw [e]
  exact h Hc s2
end
end My
namespace My
open PySem L2
section
variable {P:Program} {w:World} {K:PySem.W.Frag} {mg:Str→Option Value} {base:Heap} {c1 c2 c3 c4:Tok} {C_NoWeb f_NoWeb:Addr} {dI:FuncData}
def prc (ps:List (Int × Int)) (n:Int):Int:=((ps.find? fun p=>decide (p.1 = n)).map (·.2)).getD 0
theorem jbh {ps:List (Int × Int)} {n:Int} (h:n ∈ ps.map (·.1)):valV (jbe ps) (Sum.inl n:Key) = some (.int (prc ps n)):=by
 unfold prc valV jbe
 rw [List.find?_map]
 have e:((fun kv:Key × V=>decide (kv.1 = Sum.inl n)) ∘ fun p:Int × Int=>((Sum.inl p.1:Key),V.int p.2)) = fun p:Int × Int=>decide (p.1 = n):=by
  funext p
  show decide ((Sum.inl p.1:Key) = Sum.inl n) = decide (p.1 = n)
  by_cases c:p.1 = n
  ·rw [c,decide_eq_true rfl,decide_eq_true rfl]
  ·rw [decide_eq_false c,decide_eq_false fun z=>c (Sum.inl.inj z)]
 rw [e]
 cases c:ps.find? fun p=>decide (p.1 = n) with
 | none =>
  obtain ⟨p,hp,ep⟩:=List.mem_map.mp h
  have:=List.find?_eq_none.mp c p hp
  rw [ep] at this
  simp at this
 | some p=>rfl
def jdm (ps:List (Int × Int)) (ns:List Int):Int:=(ns.map (prc ps)).sum
theorem jed {ts:List (Int × Int)} (h:∀ t ∈ ts,t.1 < t.2) {n m:Int}:m ∈ jab ts n ↔ (n,m) ∈ ts ∨ (m,n) ∈ ts:=by
 unfold jab
 rw [List.mem_flatMap]
 constructor
 ·rintro ⟨t,ht,hm⟩
  unfold nr at hm
  split at hm
  ·rename_i c
   rw [List.mem_singleton] at hm
   subst hm c
   exact .inl ht
  ·split at hm
   ·rename_i c1 c
    rw [List.mem_singleton] at hm
    subst hm c
    exact .inr ht
   ·cases hm
 ·rintro (q | q)
  ·exact ⟨_,q,by unfold nr; rw [if_pos rfl]; exact List.mem_singleton.mpr rfl⟩
  ·refine ⟨_,q,?_⟩
   have:=h _ q
   unfold nr
   rw [if_neg (fun z=>by simp only at z this; omega),if_pos rfl]
   exact List.mem_singleton.mpr rfl
theorem jda {ps ts:List (Int × Int)} (wok:WebOk ps ts) {n m:Int} (h:m ∈ jab ts n):m ∈ ps.map (·.1):=by
 rcases (jed fun t ht=>(TiOk.ats wok.t t ht).1).mp h with q | q
 ·obtain ⟨i,p,hp,e⟩:=jdj (TiOk.ats wok.t _ q).2.2
  exact List.mem_map.mpr ⟨p,List.mem_of_getElem? hp,e⟩
 ·obtain ⟨i,p,hp,e⟩:=jdj (TiOk.ats wok.t _ q).2.1
  exact List.mem_map.mpr ⟨p,List.mem_of_getElem? hp,e⟩
theorem jcb {ps ts:List (Int × Int)} (wok:WebOk ps ts) (n:Int):(jab ts n).length ≤ 120:=Nat.le_trans (jf1 ts n) wok.tl
theorem jd4 {ns:List Int} {i:Nat} {x:V} (h:(ns.map V.int)[i]? = some x):∃ n,ns[i]? = some n∧x = .int n:=by
 rw [List.getElem?_map] at h
 cases c:ns[i]? with
 | none=>rw [c] at h; cases h
 | some n=>rw [c] at h; cases h; exact ⟨n,rfl,rfl⟩
theorem flat_ints:∀ (gs:List Int),(gs.map V.int).all jco = true
 | []=>rfl
 | g :: r=>by rw [List.map_cons,List.all_cons,flat_ints r]; rfl
structure Bk (H:Hp) (pd nd:Addr) (ps ts:List (Int × Int)):Prop where
 p:H pd = some (.dK (jbe ps))
 n:NrAt H nd ps ts
 ok:WebOk ps ts
theorem Bk.same {H H':Hp} {pd nd:Addr} {ps ts:List (Int × Int)} (h:Bk H pd nd ps ts) (s:Same H H'):Bk H' pd nd ps ts:=⟨s _ _ h.p,h.n.same s,h.ok⟩
def jni (ps ts:List (Int × Int)) (v:Int):Bool:=decide (jab ts v ≠ []) && decide (jdm ps (jab ts v) ≤ prc ps v)
def jph (ps ts:List (Int × Int)) (v:Int):Bool:=match jab ts v with
 | [u]=>decide (prc ps v < prc ps u)
 | _=>false
def jlo (ps ts:List (Int × Int)) (u v:Int):Bool:=decide (v ∈ jab ts u) && decide (prc ps v ≤ prc ps u) && (jab ts u).all fun p=>decide (p = v) || decide (p ∈ jab ts v)
def jmh (ts:List (Int × Int)) (u v:Int):Bool:=decide (u ≠ v) && (decide (jab ts u ≠ []) && decide (jab ts u = jab ts v))
def jdt:Sp:=fun vs H Q _=>∃ pd nd v ps ts,vs = [.ref pd,.ref nd,.int v]∧Bk H pd nd ps ts∧v ∈ ps.map (·.1)∧∀ H',Same H H'→Q (.int (jdm ps (jab ts v))) H'
def spV1 (f:List (Int × Int)→List (Int × Int)→Int→Bool):Sp:=fun vs H Q _=>∃ pd nd v ps ts,vs = [.ref pd,.ref nd,.int v]∧Bk H pd nd ps ts∧v ∈ ps.map (·.1)∧∀ H',Same H H'→Q (.bl (f ps ts v)) H'
def jq6:Sp:=fun vs H Q _=>∃ pd nd u v ps ts,vs = [.ref pd,.ref nd,.int u,.int v]∧Bk H pd nd ps ts∧u ∈ ps.map (·.1)∧v ∈ ps.map (·.1)∧∀ H',Same H H'→Q (.bl (jlo ps ts u v)) H'
def jmn:Sp:=fun vs H Q _=>∃ pd nd u v ps ts,vs = [.ref nd,.int u,.int v]∧Bk H pd nd ps ts∧u ∈ ps.map (·.1)∧v ∈ ps.map (·.1)∧∀ H',Same H H'→Q (.bl (jmh ts u v)) H'
theorem jkr {H:Hp} {a:Addr} {ns:List Int} (e:H a = some (.lst (ns.map V.int))):Rep H (.lst (ns.map Dt.int)) (.ref a):=by
 rw [Rep]
 refine ⟨a,_,rfl,e,?_⟩
 clear e
 induction ns with
 | nil=>rw [List.map_nil,Reps]; rfl
 | cons n r ih=>rw [List.map_cons,Reps]; exact ⟨_,_,rfl,by rw [Rep],ih⟩
theorem jie {f:Addr} {fd:FuncData}  (B:Blt mg) (D:DefAt K mg "cost_near" (top 6) ["prices","nears","v"] f fd):FnOk P w K mg base CX0 1 f fd ["prices","nears","v"] jdt:=by
 have sc:FnScope ["prices","nears","v"] ["prices","nears","v"] (ja8 (top 6)):=⟨rfl,rfl,rfl,by decide +kernel,rfl,by decide +kernel,by decide +kernel⟩
 refine D.F.ok sc (fun vs H Q E h=>?_) (fun cdv A outer s H vs Q E hr h=>?_)
 ·obtain ⟨pd,nd,v,ps,ts,rfl,_⟩:=h
  rfl
 obtain ⟨pd,nd,v,ps,ts,rfl,bk,hv,h⟩:=h
 have hnd:=bk.ok.p.nodup
 obtain ⟨as,a,e1,e2,e3⟩:=bk.n.get hnd hv
 have hla:=jcb bk.ok v
 have hu:=jb5 hr
 have hu0:_ < PySem.cLine:=Nat.lt_of_succ_lt hu
 refine ⟨_,(ja6 (jag (jac (jlk rfl) rfl B.sum PyProof.Rows.boot_sum (ja0 (jc3 (CpScope.of (N:=["place","prices"]) (src:=[none,some 0]) (by rfl)) rfl (jb0 (jax hu (qv 1) (qv 2) (fun _ _=>rfl))) (fun _ _ _ _=>(jaf (i:=0) (jai (l:=["place","prices"]) (by rfl)) rfl (Or.inl rfl))) (fun _ _ _ _=>jbs) (fun _ _ _ _=>(jax hu (qv 1) (qv 0) (fun _ _=>rfl)))) ja2)))),?_⟩
 walk_at "RD"
 refine jb4 (Itl K a) H (fun R hR=>?_) (fun z hz=>jb9 (jab ts v).length (fun i σ' Hc=>∃ w1,σ' = [w1,some (.ref pd)]∧Same H Hc∧Hc z = some (.lst ((((jab ts v).take i).map (prc ps)).map V.int))) ⟨none,rfl,ja5 hz _,ja1⟩ ?_ ?_)
 ·unfold jc8
  simp_arith [e1,e2]
  exact ⟨a,rfl,⟨_,SqL.of e3⟩,hR⟩
 ·rintro i σ' Hc hi ⟨w1,rfl,s4,ez⟩
  have z1:SqL K Hc a ((jab ts v).map V.int):=SqL.of (s4 _ _ e3)
  have x1:((jab ts v).map V.int)[i]? = some (((jab ts v).map V.int)[i]'(by rw [List.length_map]; omega)):=List.getElem?_eq_getElem _
  refine ⟨⟨_,_,z1,x1⟩,?_⟩
  rintro y H' ⟨rfl,hy⟩
  obtain ⟨n,hn,rfl⟩:=jd4 (hy _ z1)
  have ep':=s4 _ _ bk.p
  have hp:=jbh (jda bk.ok (List.mem_of_getElem? hn))
  simp_arith [ep',hp]
  refine ⟨_,ez,?_,_,rfl,jaz s4 hz,?_⟩
  ·rw [List.length_map,List.length_map,List.length_take]
   exact szl' (by omega)
  ·rw [ja1,jaj hn,List.map_append,List.map_append]
   rfl
 rintro σ' H1 ⟨w1,rfl,s1,ez⟩
 refine ⟨⟨_,SqL.of (s1 _ _ e3),by rw [List.length_map]; omega⟩,?_⟩
 rw [List.take_length] at ez
 exact ⟨z,_,rfl,ez,h H1 s1⟩
theorem ji9 {f:Addr} {fd:FuncData} {f_cost_near:Addr} {d_cost_near:FuncData} (B:Blt mg) (D:DefAt K mg "near_fits" (top 7) ["prices","nears","v"] f fd) (D_cost_near:DefAt K mg "cost_near" (top 6) ["prices","nears","v"] f_cost_near d_cost_near) (G_cost_near:FnOk P w K mg base CX0 1 f_cost_near d_cost_near ["prices","nears","v"] jdt):FnOk P w K mg base CX0 2 f fd ["prices","nears","v"] (spV1 jni):=by
 have sc:FnScope ["prices","nears","v"] ["prices","nears","v"] (ja8 (top 7)):=⟨rfl,rfl,rfl,by decide +kernel,rfl,by decide +kernel,by decide +kernel⟩
 refine D.F.ok sc (fun vs H Q E h=>?_) (fun cdv A outer s H vs Q E hr h=>?_)
 ·obtain ⟨pd,nd,v,ps,ts,rfl,_⟩:=h
  rfl
 obtain ⟨pd,nd,v,ps,ts,rfl,bk,hv,h⟩:=h
 have hnd:=bk.ok.p.nodup
 obtain ⟨as,a,e1,e2,e3⟩:=bk.n.get hnd hv
 have hla:=jcb bk.ok v
 have hu:=jb5 hr
 have hu0:_ < PySem.cLine:=Nat.lt_of_succ_lt hu
 refine ⟨_,(ja6 (jag (jck (jas q_gt (jac jde rfl B.len PySem.boot_len (ja0 (jax hu (qv 1) (qv 2) (fun _ _=>rfl)) ja2)) ja4 (jae _)) (jbz (jas q_le (jad G_cost_near (hr.mono (by decide)) rfl D_cost_near.m D_cost_near.F.kp D_cost_near.b .nil jap (ja0 (qv 0) (ja0 (qv 1) (ja0 (qv 2) ja2)))) (jax hu (qv 0) (qv 2) (fun _ _=>rfl)) (jae _)))))),?_⟩
 simp_arith [e1,e2,jam,e3,List.length_map]
 cases c:jab ts v with
 | nil =>
  rw [show decide (((([]:List Int).length:Nat):Int) > 0) = false from rfl]
  walk_at "RD"
  have:=h H (Same.refl _)
  unfold jni at this
  rw [c] at this
  exact this
 | cons m r =>
  rw [decide_eq_true (show (((m :: r).length:Nat):Int) > 0 by rw [List.length_cons]; omega)]
  walk_at "RD"
  refine ⟨pd,nd,v,ps,ts,rfl,bk,hv,fun H1 s1=>?_⟩
  simp_arith [s1 _ _ bk.p,jbh hv]
  have:=h H1 s1
  unfold jni at this
  rw [decide_eq_true (show jab ts v ≠ [] by rw [c]; exact fun z=>nomatch z),Bool.true_and] at this
  exact this
theorem jia {f:Addr} {fd:FuncData}  (B:Blt mg) (D:DefAt K mg "leaf_fits" (top 8) ["prices","nears","v"] f fd):FnOk P w K mg base CX0 1 f fd ["prices","nears","v"] (spV1 jph):=by
 have sc:FnScope ["prices","nears","v"] ["prices","nears","v"] (ja8 (top 8)):=⟨rfl,rfl,rfl,by decide +kernel,rfl,by decide +kernel,by decide +kernel⟩
 refine D.F.ok sc (fun vs H Q E h=>?_) (fun cdv A outer s H vs Q E hr h=>?_)
 ·obtain ⟨pd,nd,v,ps,ts,rfl,_⟩:=h
  rfl
 obtain ⟨pd,nd,v,ps,ts,rfl,bk,hv,h⟩:=h
 have hnd:=bk.ok.p.nodup
 obtain ⟨as,a,e1,e2,e3⟩:=bk.n.get hnd hv
 have hla:=jcb bk.ok v
 have hu:=jb5 hr
 have hu0:_ < PySem.cLine:=Nat.lt_of_succ_lt hu
 refine ⟨_,(ja6 (jag (jck (jas q_eq (jac jde rfl B.len PySem.boot_len (ja0 (jax hu (qv 1) (qv 2) (fun _ _=>rfl)) ja2)) ja4 (jae _)) (jbz (jas q_gt (jax hu (qv 0) (jaq q_ix (jax hu (qv 1) (qv 2) (fun _ _=>rfl)) ja4 (fun _ _=>rfl)) (fun _ _=>rfl)) (jax hu (qv 0) (qv 2) (fun _ _=>rfl)) (jae _)))))),?_⟩
 simp_arith [e1,e2,jam,e3,List.length_map]
 have h0:=h H (Same.refl _)
 unfold jph at h0
 match c:jab ts v,h0 with
 | [],h0 =>
  rw [show decide (((([]:List Int).length:Nat):Int) = 1) = false from rfl]
  walk_at "RD"
  exact h0
 | [u],h0 =>
  rw [show decide (((([u]:List Int).length:Nat):Int) = 1) = true from rfl]
  have hu1:=jbh (jda bk.ok (n:=v) (m:=u) (by rw [c]; exact List.mem_singleton.mpr rfl))
  rw [c] at e3
  simp_arith [e1,e2,jam,e3,at0,bk.p,hu1,jbh hv]
  exact h0
 | m :: n :: r,h0 =>
  rw [decide_eq_false (show ¬ (((m :: n :: r).length:Nat):Int) = 1 by rw [List.length_cons,List.length_cons]; omega)]
  walk_at "RD"
  exact h0
theorem ji8 {f:Addr} {fd:FuncData}  (B:Blt mg) (D:DefAt K mg "over_fits" (top 9) ["prices","nears","u","v"] f fd):FnOk P w K mg base CX0 1 f fd ["prices","nears","u","v"] jq6:=by
 have sc:FnScope ["prices","nears","u","v"] ["prices","nears","u","v"] (ja8 (top 9)):=⟨rfl,rfl,rfl,by decide +kernel,rfl,by decide +kernel,by decide +kernel⟩
 refine D.F.ok sc (fun vs H Q E h=>?_) (fun cdv A outer s H vs Q E hr h=>?_)
 ·obtain ⟨pd,nd,u,v,ps,ts,rfl,_⟩:=h
  rfl
 obtain ⟨pd,nd,u,v,ps,ts,rfl,bk,hu2,hv,h⟩:=h
 have hnd:=bk.ok.p.nodup
 obtain ⟨as,a,e1,e2,e3⟩:=bk.n.get hnd hv
 obtain ⟨as2,a2,f1,f2,f3⟩:=bk.n.get hnd hu2
 have hla:=jcb bk.ok u
 have hu:=jb5 hr
 have hu0:_ < PySem.cLine:=Nat.lt_of_succ_lt hu
 refine ⟨_,(ja3 (jba (PW.pt (jjl (jav jp1 (qv 3) (jax hu (qv 1) (qv 2) (fun _ _=>rfl)) (by with_unfolding_all rfl)) (jfw (jav q_gt (jax hu (qv 0) (qv 3) (fun _ _=>rfl)) (jax hu (qv 0) (qv 2) (fun _ _=>rfl)) (jae _))))) (ja6 (jag jdh)) jah) (ja6 (jag (jac (q_all rfl) rfl B.all PyProof.Rows.boot_all (ja0 (jc3 (CpScope.of (N:=["place","v","nears"]) (src:=[none,some 3,some 1]) (by rfl)) rfl (jb0 (jax hu (qv 1) (qv 2) (fun _ _=>rfl))) (fun _ _ _ _=>(jaf (i:=0) (jai (l:=["place","v","nears"]) (by rfl)) rfl (Or.inl rfl))) (fun _ _ _ _=>jbs) (fun _ _ _ _=>(q_or (jas q_eq (qv 0) (qv 1) (jae _)) (jbz (jas jp3 (qv 0) (jax hu (qv 2) (qv 1) (fun _ _=>rfl)) (by with_unfolding_all rfl)))))) ja2))))),?_⟩
 refine jaa fun R hR=>?_
 simp_arith [f1,f2,f3,jam,jef,flat_ints,jco]
 by_cases c1:v ∈ jab ts u
 ·rw [decide_eq_true c1]
  simp_arith [bk.p,jbh hv,jbh hu2]
  by_cases c2:prc ps v > prc ps u
  ·rw [decide_eq_true c2]
   walk_at "RD"
   have:=h H (Same.refl _)
   unfold jlo at this
   rw [decide_eq_false (show ¬ prc ps v ≤ prc ps u by omega),Bool.and_false,Bool.false_and] at this
   exact this
  ·rw [decide_eq_false c2]
   walk_at "RD"
   subst hR
   have fin:jlo ps ts u v = (jab ts u).all fun p=>decide (p = v) || decide (p ∈ jab ts v):=by
    unfold jlo
    rw [decide_eq_true c1,decide_eq_true (show prc ps v ≤ prc ps u by omega)]
    rfl
   rw [fin] at h
   walk_at "RD"
   refine jb4 (Itl K a2) H (fun R hR=>?_) (fun z hz=>jb9 (jab ts u).length (fun i σ' Hc=>∃ w1,σ' = [w1,some (.int v),some (.ref nd)]∧Same H Hc∧Hc z = some (.lst ((((jab ts u).take i).map fun p=>decide (p = v) || decide (p ∈ jab ts v)).map V.bl))) ⟨none,rfl,ja5 hz _,ja1⟩ ?_ ?_)
   ·unfold jc8
    simp_arith [f1,f2]
    exact ⟨a2,rfl,⟨_,SqL.of f3⟩,hR⟩
   ·rintro i σ' Hc hi ⟨w1,rfl,s4,ez⟩
    have z1:SqL K Hc a2 ((jab ts u).map V.int):=SqL.of (s4 _ _ f3)
    have x1:((jab ts u).map V.int)[i]? = some (((jab ts u).map V.int)[i]'(by rw [List.length_map]; omega)):=List.getElem?_eq_getElem _
    refine ⟨⟨_,_,z1,x1⟩,?_⟩
    rintro y H' ⟨rfl,hy⟩
    obtain ⟨n,hn,rfl⟩:=jd4 (hy _ z1)
    have g1:=s4 _ _ e1
    have g3:=s4 _ _ e3
    by_cases c3:n = v
    ·simp_arith [c3]
     simp only [decide_true,if_true]
     refine ⟨_,ez,?_,_,rfl,jaz s4 hz,?_⟩
     ·rw [List.length_map,List.length_map,List.length_take]
      exact szl' (by omega)
     ·rw [ja1,jaj hn,List.map_append,List.map_append]
      simp [c3]
    ·simp_arith [decide_eq_false c3]
     simp_arith [g1,e2,g3,jam,jef,flat_ints,jco]
     refine ⟨_,ez,?_,_,rfl,jaz s4 hz,?_⟩
     ·rw [List.length_map,List.length_map,List.length_take]
      exact szl' (by omega)
     ·rw [ja1,jaj hn,List.map_append,List.map_append]
      simp [c3]
   rintro σ' H1 ⟨w1,rfl,s1,ez⟩
   refine ⟨⟨_,SqL.of (s1 _ _ f3),by rw [List.length_map]; omega⟩,?_⟩
   rw [List.take_length] at ez
   simp_arith [ez]
   refine ⟨_,rfl,?_⟩
   rw [List.all_map]
   exact h H1 s1
 ·rw [decide_eq_false c1]
  walk_at "RD"
  have:=h H (Same.refl _)
  unfold jlo at this
  rw [decide_eq_false c1,Bool.false_and,Bool.false_and] at this
  exact this
end
end My
namespace L2
open PySem PySem.Spec PyProof.Rows
section
variable {prog:Program} {w:World} {A:Around} {R:Result→Shared→Prop} {I:Addr} {fp wr:List Addr} {n:Nat} {P:Nat→Value→Prop} {St:Nat→Heap→Prop}
def jj3 (val:Nat→Int) (n:Nat) (m:Int):Prop:=(∃ i,i < n∧m = val i)∧∀ i,i < n→m ≤ val i
theorem jj3.up {val:Nat→Int} {j:Nat} {m:Int} (h:jj3 val j m) (hb:val j < m):jj3 val (j + 1) (val j) :=
 ⟨⟨j,Nat.lt_succ_self _,rfl⟩,fun i hi=>by
  rcases Nat.lt_succ_iff_lt_or_eq.mp hi with z | z
  ·have:=h.2 i z; omega
  ·rw [z]; exact Int.le_refl _⟩
theorem jj3.keep {val:Nat→Int} {j:Nat} {m:Int} (h:jj3 val j m) (hb:¬ val j < m):jj3 val (j + 1) m :=
 ⟨let ⟨i,hi,e⟩:=h.1; ⟨i,Nat.lt_succ_of_lt hi,e⟩,fun i hi=>by
  rcases Nat.lt_succ_iff_lt_or_eq.mp hi with z | z
  ·exact h.2 i z
  ·rw [z]; omega⟩
theorem jee:(toString "min" ++ toString ".loop":String) = "min.loop":=by decide
theorem jk2 (W:Walks prog w A.in1 I fp wr n P St) (val:Nat→Int) (hval:∀ i v,P i v→∃ t:Tok,v = Value.int (val i) t) (kw:List (Str × Value)) (S:Addr) (hSf:S ∉ fp) :
  ∀ (k j:Nat) (s:Shared) (m:Int) (t:Tok) (c:Nat),n - j = k→j ≤ n→St j s.heap→jj3 val j m →
  s.heap.get? S = some { cls:=.type "list",dict:=none,data:=.seq #[.int m t,.int m t] c,slots:=#[] } →
  (∀ m' t' h' tk,jj3 val n m'→(∀ b o,b ∉ wr→b ≠ S→s.heap.get? b = some o→h'.get? b = some o)→R (.ok (.ret (.int m' t'))) { s with heap:=h',toks:=tk }) →
  codeAny (model prog w) A (.builtin "min.loop" ⟨[.ref I,.none,.ref S],kw⟩) R s:=by
 have hSw:S ∉ wr:=fun z=>hSf (W.sub _ z)
 intro k
 induction k with
 | zero =>
  intro j s m t c hk hj hst hb hS hR
  have hin:j = n:=by omega
  subst hin
  refine codeAny_builtin PySem.F.entry_min_loop ?_
  rw [Around.under_plainId PySem.F.plain_min_loop _]
  show wpAny _ A.in1 (seqItems? (.ref S) >>= _) _ _ s
  refine wpAny_bind (wpAny_seqItems hS rfl ?_)
  show wpAny _ A.in1 (tryCatch (pyNext (.ref I)) _ >>= _) _ _ s
  refine wpAny_bind (wpAny_tryCatch (W.done s _ _ hst fun h' tk kp=>?_))
  have hS':=kp S _ hSw hS
  show wpAny _ A.in1 (updateSeq S (fun _=>#[]) >>= _) _ _ _
  refine wpAny_bind ?_
  refine wpAny_updateSeq hS' rfl (wpAny_bind (wpAny_letGo (wpAny_pure ?_)))
  exact hR m t _ tk hb fun b o hbw hbS e=>(Heap.get?_update_other _ _ (Ne.symm hbS)).trans (kp b o hbw e)
 | succ k ih =>
  intro j s m t c hk hj hst hb hS hR
  have hlt:j < n:=by omega
  refine codeAny_builtin PySem.F.entry_min_loop ?_
  rw [Around.under_plainId PySem.F.plain_min_loop _]
  show wpAny _ A.in1 (seqItems? (.ref S) >>= _) _ _ s
  refine wpAny_bind (wpAny_seqItems hS rfl ?_)
  show wpAny _ A.in1 (tryCatch (pyNext (.ref I)) _ >>= _) _ _ s
  refine wpAny_bind (wpAny_tryCatch (W.item j s _ _ hlt hst fun v h' tk hP hst' kp=>?_))
  obtain ⟨t',rfl⟩:=hval j v hP
  have hS':=kp S _ hSw hS
  show wpAny _ A.in1 (tryCatch (holding [.int (val j) t',.int (val j) t'] (richCompare .Lt (.int (val j) t') (.int m t) >>= _)) _ >>= _) _ _ _
  refine wpAny_bind (wpAny_tryCatch (wpAny_holding (wpAny_bind (lt_int ?_))))
  refine wpAny_bind (wpAny_holding (wpAny_truthy_bool ?_))
  refine wpAny_bind (wpAny_letGo (wpAny_pure ?_))
  by_cases hc:val j < m
  ·rw [decide_eq_true (show val j < m from hc)]
   simp only [if_true]
   refine wpAny_bind ?_
   refine wpAny_updateSeq hS' rfl (wpAny_bind (wpAny_letGo ?_))
   rw [jee]
   refine wpAny_pure ⟨plainId_quiet PySem.F.plain_min_loop _,ih (j + 1) _ (val j) t' _ (by omega) hlt (W.frame _ _ _ hst' fun b hbf o e=>?_) (hb.up hc) (Heap.get?_update_self _ hS' rfl) fun m' u h'' tk'' hB k''=>?_⟩
   ·exact (Heap.get?_update_other _ _ (fun z:S = b=>hSf (by rw [z]; exact hbf))).trans e
   ·exact hR m' u h'' tk'' hB fun b o hbw hbS e=>k'' b o hbw hbS ((Heap.get?_update_other _ _ (Ne.symm hbS)).trans (kp b o hbw e))
  ·rw [decide_eq_false (show ¬ val j < m from hc)]
   simp only [Bool.false_eq_true,if_false]
   refine wpAny_bind (wpAny_letGo ?_)
   rw [jee]
   refine wpAny_pure ⟨plainId_quiet PySem.F.plain_min_loop _,ih (j + 1) _ m t c (by omega) hlt hst' (hb.keep hc) hS' fun m' u h'' tk'' hB k''=>?_⟩
   exact hR m' u h'' tk'' hB fun b o hbw hbS e=>k'' b o hbw hbS (kp b o hbw e)
end
section
variable {X:Cx}
end
section
variable {X:Cx}
end
end L2
namespace L2
open PySem PySem.Spec PyProof.Rows
section
variable {X:Cx}
theorem jkd (a:Value):argsOk "min" ⟨[a],[]⟩:=by unfold argsOk; kernel_rfl
def rMinN:List V→Hp→VK→Prop:=fun vs H Q=>∃ (p:Addr) (ns:List Int),vs = [.ref p]∧H p = some (.lst (ns.map V.int))∧ns ≠ [] ∧
 ∀ m,m ∈ ns→(∀ x ∈ ns,m ≤ x)→Q (.int m) H
theorem jfg (hc:X.calm = true):jbi X (.builtin "min") rMinN:=by
 intro pins s σ H xs us Q I r h
 obtain ⟨p,ns,rfl,e,hne,q⟩:=h
 obtain ⟨u,rfl,rx⟩:=jhg r
 cases rx
 obtain ⟨z,its,c,r',hlen,e'⟩:=I.lstM e
 have hI:=jc7 r'
 have plt:p < s.heap.objs.size:=Heap.lt_size e'
 have hL:s.heap.IsList p its.toArray:=⟨_,e',rfl,_,rfl⟩
 refine call_function_tree PySem.F.kind_min PySem.F.plain_min PySem.F.entry_min (jkd _) ?_
 show wpAny _ X.A.in1 (Builtin.Builtins.bindParams "min" ["key","default"] 0 ⟨[],[]⟩ >>= _) _ _ s
 refine wpAny_bind (wpAny_of_eq (show Builtin.Builtins.bindParams "min" ["key","default"] 0 ⟨[],[]⟩ = pure [none,none] from rfl) ?_)
 refine wpAny_bind (wpAny_pure ?_)
 refine wpAny_bind (wpAny_pyIter_list hL ?_)
 refine wpAny_bind (wpAny_newList ?_ (Nat.zero_le _))
 rw [jee]
 have hS:(s.heap.push { cls:=.type "list_iterator",data:=.fields #[.ref p,.int 0 0] }).objs.size = s.heap.objs.size + 1:=size_push' ..
 have W:=Walks.list (prog:=X.prog) (w:=X.w) (A:=X.A.in1) (show X.A.in1.handled = none from I.ok.hd hc) s.heap.objs.size p (Nat.ne_of_lt plt) its.toArray
 have hsz:its.toArray.size = ns.length:=by rw [List.size_toArray,← hlen,List.length_map]
 have hval:∀ (i:Nat) (v:Value),its.toArray[i]? = some v→∃ t:Tok,v = Value.int (ns[i]?.getD 0) t:=fun i v hv=>by
  have hv':its[i]? = some v:=by simpa using hv
  have hi:i < ns.length:=by
   have:=(List.getElem?_eq_some_iff.mp hv').1
   rw [List.length_map] at hlen
   omega
  obtain ⟨u,e1,t,e2⟩:=r'.get (i:=i) (x:=.int ns[i]) (by rw [List.getElem?_map,List.getElem?_eq_getElem hi]; rfl)
  rw [hv'] at e1
  cases e1
  exact ⟨t,by rw [e2,List.getElem?_eq_getElem hi]; rfl⟩
 have kp0:∀ (h':Heap) (tk:Nat),(∀ b o,b ∉ [s.heap.objs.size]→b ≠ (s.heap.push { cls:=.type "list_iterator",data:=.fields #[.ref p,.int 0 0] }).objs.size→((s.heap.push { cls:=.type "list_iterator",data:=.fields #[.ref p,.int 0 0] }).push { cls:=.type "list",data:=.seq #[] }).get? b = some o→h'.get? b = some o) →
   Inv X pins σ H { s with heap:=h',toks:=tk }:=fun h' tk k=>I.kept fun b o qq=>k b o (by
    intro z
    have:b = s.heap.objs.size:=by simpa using z
    exact absurd (Heap.lt_size qq) (by rw [this]; exact Nat.lt_irrefl _)) (by rw [hS]; exact Nat.ne_of_lt (Nat.lt_succ_of_lt (Heap.lt_size qq))) (Heap.get?_push_of_some _ (Heap.get?_push_of_some _ qq))
 have hst0:(fun i (h:Heap)=>h.IsListIter s.heap.objs.size p i∧h.IsList p its.toArray) 0 ((s.heap.push { cls:=.type "list_iterator",data:=.fields #[.ref p,.int 0 0] }).push { cls:=.type "list",data:=.seq #[] }) :=
  ⟨⟨_,Heap.get?_push_of_some _ (Heap.get?_push_size _ rfl),rfl,rfl⟩,(hL.push _).push _⟩
 have hSg:((s.heap.push { cls:=.type "list_iterator",data:=.fields #[.ref p,.int 0 0] }).push { cls:=.type "list",data:=.seq #[] }).get? (s.heap.push { cls:=.type "list_iterator",data:=.fields #[.ref p,.int 0 0] }).objs.size = some { cls:=.type "list",dict:=none,data:=.seq #[] 0,slots:=#[] }:=Heap.get?_push_size _ rfl
 have hSf:(s.heap.push { cls:=.type "list_iterator",data:=.fields #[.ref p,.int 0 0] }).objs.size ∉ [s.heap.objs.size,p]:=by
  rw [hS]
  intro z
  rcases List.mem_cons.mp z with z | z
  ·exact absurd z (Nat.succ_ne_self _)
  ·have z:=List.mem_singleton.mp z
   rw [← z] at plt
   exact Nat.lt_irrefl _ (Nat.lt_of_succ_lt plt)
 refine wpAny_pure ⟨plainId_quiet PySem.F.plain_min_loop _,?_⟩
 refine codeAny_builtin PySem.F.entry_min_loop ?_
 rw [Around.under_plainId PySem.F.plain_min_loop _]
 show wpAny _ X.A.in1 (seqItems? (.ref _) >>= _) _ _ _
 refine wpAny_bind (wpAny_seqItems hSg rfl ?_)
 show wpAny _ X.A.in1 (tryCatch (pyNext (.ref s.heap.objs.size)) _ >>= _) _ _ _
 cases hn:ns with
 | nil=>exact absurd hn hne
 | cons n0 rest =>
  have hpos:0 < its.toArray.size:=by rw [hsz,hn]; simp
  refine wpAny_bind (wpAny_tryCatch (W.item 0 _ _ _ hpos hst0 fun v h' tk hP hst' kp=>?_))
  obtain ⟨t',rfl⟩:=hval 0 v hP
  have hS':=kp _ _ (fun z=>hSf (List.mem_cons.mpr (.inl (List.mem_singleton.mp z)))) hSg
  show wpAny _ X.A.in1 (updateSeq _ (fun _=>#[_,_]) >>= _) _ _ _
  refine wpAny_bind ?_
  refine wpAny_updateSeq hS' rfl ?_
  rw [jee]
  refine wpAny_pure ⟨plainId_quiet PySem.F.plain_min_loop _,jk2 W (fun i=>ns[i]?.getD 0) hval _ _ hSf _ 1 _ _ t' _ rfl hpos (W.frame _ _ _ hst' fun b hbf o e=>?_) ⟨⟨0,Nat.one_pos,rfl⟩,fun i hi=>by
   have:i = 0:=by omega
   subst this; exact Int.le_refl _⟩ (Heap.get?_update_self _ hS' rfl) fun m u h'' tk'' hB k''=>?_⟩
  ·exact (Heap.get?_update_other _ _ (fun z=>hSf (by rw [z]; exact hbf))).trans e
  ·refine ⟨.int m,H,kp0 h'' tk'' fun b o h1 h2 h3=>k'' b o h1 h2 ((Heap.get?_update_other _ _ (Ne.symm h2)).trans (kp b o h1 h3)),⟨u,rfl⟩,q m ?_ fun x hx=>?_⟩
   ·obtain ⟨i,hi,e1⟩:=hB.1
    rw [hsz] at hi
    rw [e1]
    show ns[i]?.getD 0 ∈ ns
    rw [List.getElem?_eq_getElem hi]
    exact List.getElem_mem hi
   ·obtain ⟨i,hi,e1⟩:=List.mem_iff_getElem.mp hx
    have:m ≤ ns[i]?.getD 0:=hB.2 i (by rw [hsz]; exact hi)
    rw [List.getElem?_eq_getElem hi] at this
    rw [← e1]
    exact this
end
end L2
namespace My
open PySem L2
section
variable {P:Program} {w:World} {K:PySem.W.Frag} {mg:Str→Option Value} {base:Heap} {c1 c2 c3 c4:Tok} {C_NoWeb f_NoWeb:Addr} {dI:FuncData}
theorem jiw:∀ (ns ms:List Int),eqPs (ns.map Dt.int) (ms.map Dt.int) = decide (ns = ms)
 | [],[]=>rfl
 | [],_ :: _=>rfl
 | _ :: _,[]=>rfl
 | n :: r,m :: t=>by
  rw [List.map_cons,List.map_cons,eqPs,jiw r t,eqP]
  by_cases c:n = m
  ·by_cases d:r = t
   ·simp [c,d]
   ·simp [c,d]
  ·simp [c]
theorem jpm (ns ms:List Int):eqP (.lst (ns.map Dt.int)) (.lst (ms.map Dt.int)) = decide (ns = ms):=by
 rw [eqP]
 exact jiw ns ms
theorem jl8:∀ (ns:List Int),jce (ns.map Dt.int) = 0
 | []=>rfl
 | n :: r=>by simp [jce,depP,jl8 r]
theorem jo5 (ns:List Int):depP (.lst (ns.map Dt.int)) ≤ 20:=by rw [depP,jl8]; decide
def jho (ts:List (Int × Int)) (ns:List Int):Bool:=ns.any fun a=>ns.any fun b=>decide (b ∈ jab ts a)
def minL:List Int→Int
 | []=>0
 | a :: r=>r.foldl min a
theorem jik:∀ (r:List Int) (a:Int),r.foldl min a ∈ a :: r∧∀ x ∈ a :: r,r.foldl min a ≤ x
 | [],a=>⟨List.mem_singleton.mpr rfl,fun x hx=>by rw [List.mem_singleton.mp hx]; exact Int.le_refl _⟩
 | b :: r,a=>by
  obtain ⟨h1,h2⟩:=jik r (min a b)
  rw [List.foldl_cons]
  have h3:=h2 (min a b) (List.mem_cons_self ..)
  refine ⟨?_,fun x hx=>?_⟩
  ·rcases List.mem_cons.mp h1 with e | e
   ·rw [e]
    rcases Int.le_total a b with c | c
    ·rw [Int.min_eq_left c]; exact List.mem_cons_self ..
    ·rw [Int.min_eq_right c]; exact List.mem_cons_of_mem _ (List.mem_cons_self ..)
   ·exact List.mem_cons_of_mem _ (List.mem_cons_of_mem _ e)
  ·rcases List.mem_cons.mp hx with e | e
   ·have:=Int.min_le_left a b; omega
   ·rcases List.mem_cons.mp e with e | e
    ·have:=Int.min_le_right a b; omega
    ·exact h2 x (List.mem_cons_of_mem _ e)
theorem jnj {ns:List Int} {m:Int} (h1:m ∈ ns) (h2:∀ x ∈ ns,m ≤ x):m = minL ns:=by
 cases ns with
 | nil=>cases h1
 | cons a r =>
  obtain ⟨q1,q2⟩:=jik r a
  have:=h2 _ q1
  have:=q2 _ h1
  show m = r.foldl min a
  omega
def jd1 (ps ts:List (Int × Int)) (v:Int):Bool:=(decide (2 ≤ (jab ts v).length) && !(jho ts (jab ts v))) && (decide (jdm ps (jab ts v) - minL ((jab ts v).map (prc ps)) ≤ prc ps v) && decide (prc ps v < jdm ps (jab ts v)))
def jq1:Sp:=fun vs H Q _=>∃ pd nd l ps ts ns,vs = [.ref nd,.ref l]∧Bk H pd nd ps ts∧H l = some (.lst (ns.map V.int))∧(∀ n ∈ ns,n ∈ ps.map (·.1))∧ns.length ≤ 900∧∀ H',Same H H'→Q (.bl (jho ts ns)) H'
theorem ji6 {f:Addr} {fd:FuncData}  (B:Blt mg) (D:DefAt K mg "twins_fit" (top 10) ["nears","u","v"] f fd):FnOk P w K mg base CX0 1 f fd ["nears","u","v"] jmn:=by
 have sc:FnScope ["nears","u","v"] ["nears","u","v"] (ja8 (top 10)):=⟨rfl,rfl,rfl,by decide +kernel,rfl,by decide +kernel,by decide +kernel⟩
 refine D.F.ok sc (fun vs H Q E h=>?_) (fun cdv A outer s H vs Q E hr h=>?_)
 ·obtain ⟨pd,nd,u,v,ps,ts,rfl,_⟩:=h
  rfl
 obtain ⟨pd,nd,u,v,ps,ts,rfl,bk,hu2,hv,h⟩:=h
 have hnd:=bk.ok.p.nodup
 obtain ⟨as,a,e1,e2,e3⟩:=bk.n.get hnd hv
 obtain ⟨as2,a2,f1,f2,f3⟩:=bk.n.get hnd hu2
 have hla:=jcb bk.ok u
 have hu:=jb5 hr
 have hu0:_ < PySem.cLine:=Nat.lt_of_succ_lt hu
 refine ⟨_,(ja6 (jag (jck (jas q_ne (qv 1) (qv 2) (jae _)) (jck (jas q_gt (jac jde rfl B.len PySem.boot_len (ja0 (jax hu (qv 0) (qv 1) (fun _ _=>rfl)) ja2)) ja4 (jae _)) (jbz (jas (op_eqD hr.units) (jax hu (qv 0) (qv 1) (fun _ _=>rfl)) (jax hu (qv 0) (qv 2) (fun _ _=>rfl)) (jae _))))))),?_⟩
 have h0:=h H (Same.refl _)
 unfold jmh at h0
 have eas:kz ps as = kz ps as2:=by
  have:=Option.some.inj (e1.symm.trans f1)
  injection this
 rw [← eas] at f2
 simp_arith [e1,e2,f2,jam,f3,List.length_map]
 by_cases c1:u = v
 ·rw [decide_eq_false (show ¬ u ≠ v from fun z=>z c1)] at h0
  simp only [c1,decide_true,Bool.not_true,Bool.false_and] at h0 ⊢
  walk_at "RD"
  first | exact h0 | simpa using h0
 ·rw [decide_eq_true (show u ≠ v from c1),Bool.true_and] at h0
  simp only [c1,decide_false,Bool.not_false]
  simp_arith [e1,e2,f2,jam,f3,List.length_map]
  by_cases c2:jab ts u = []
  ·rw [decide_eq_false (show ¬ jab ts u ≠ [] from fun z=>z c2),Bool.false_and] at h0
   rw [c2]
   rw [show decide (((([]:List Int).length:Nat):Int) > 0) = false from rfl]
   walk_at "RD"
   exact h0
  ·rw [decide_eq_true (show jab ts u ≠ [] from c2),Bool.true_and] at h0
   have:0 < (jab ts u).length:=List.length_pos_iff.mpr c2
   rw [decide_eq_true (show (((jab ts u).length:Nat):Int) > 0 by omega)]
   simp_arith [e1,e2,f2,jam,f3]
   refine ⟨_,_,jkr f3,jkr e3,jo5 _,.inl ⟨_,_,rfl,rfl⟩,?_⟩
   rw [jpm]
   first | exact h0 | simpa using h0
theorem jjz {f:Addr} {fd:FuncData}  (B:Blt mg) (D:DefAt K mg "any_tied" (top 36) ["nears","places"] f fd):FnOk P w K mg base CX0 1 f fd ["nears","places"] jq1:=by
 have sc:FnScope ["nears","places","one"] ["nears","places"] (ja8 (top 36)):=⟨rfl,rfl,rfl,by decide +kernel,rfl,by decide +kernel,by decide +kernel⟩
 refine D.F.ok sc (fun vs H Q E h=>?_) (fun cdv A outer s H vs Q E hr h=>?_)
 ·obtain ⟨pd,nd,l,ps,ts,ns,rfl,_⟩:=h
  rfl
 obtain ⟨pd,nd,l,ps,ts,ns,rfl,bk,el,hin,hl9,h⟩:=h
 have hnd:=bk.ok.p.nodup
 have hu:=jb5 hr
 have hu0:_ < PySem.cLine:=Nat.lt_of_succ_lt hu
 refine ⟨_,(ja3 (jcl PassesOwn.never rfl (jb0 (qv 1)) (jaf (i:=2) sc.nd rfl (Or.inr rfl)) (ja6 (jba (jbm (jac (q_any rfl) rfl B.any PyProof.Rows.boot_any (ja0 (jc3 (CpScope.of (N:=["other","nears","one"]) (src:=[none,some 0,some 2]) (by rfl)) rfl (jb0 (qv 1)) (fun _ _ _ _=>(jaf (i:=0) (jai (l:=["other","nears","one"]) (by rfl)) rfl (Or.inl rfl))) (fun _ _ _ _=>jbs) (fun _ _ _ _=>(jas jp3 (qv 0) (jax hu (qv 1) (qv 2) (fun _ _=>rfl)) (by with_unfolding_all rfl)))) ja2))) (ja6 (jag jdh)) jah))) (ja6 (jag jdh))),?_⟩
 refine jaa fun R hR=>?_
 refine jbq (Itl K l) H (fun R' hR'=>?_) (jcd (K:=K) (a:=l) (xs:=ns.map V.int) (fun i σ H1=>∃ v1,σ = [some (.ref nd),some (.ref l),v1]∧Same H H1∧((ns.take i).any fun a=>ns.any fun b=>decide (b ∈ jab ts a)) = false) ⟨none,rfl,Same.refl _,rfl⟩ (fun i σ H1 _ ⟨_,_,s1,_⟩=>SqL.of (s1 _ _ el)) ?_ ?_)
 ·unfold jc8
  walk_at "RD"
  exact ⟨l,rfl,⟨_,SqL.of el⟩,hR'⟩
 ·rintro i x σ H1 hx ⟨v1,rfl,s1,hno⟩
  obtain ⟨n,hn,rfl⟩:=jd4 hx
  have nm:=hin n (List.mem_of_getElem? hn)
  walk_at "RD"
  refine jb4 (Itl K l) H1 (fun R' hR'=>?_) (fun z hz=>jb9 ns.length (fun i σ' Hc=>∃ w1,σ' = [w1,some (.ref nd),some (.int n)]∧Same H1 Hc∧Hc z = some (.lst (((ns.take i).map fun b=>decide (b ∈ jab ts n)).map V.bl))) ⟨none,rfl,ja5 hz _,ja1⟩ ?_ ?_)
  ·unfold jc8
   walk_at "RD"
   exact ⟨l,rfl,⟨_,SqL.of (s1 _ _ el)⟩,hR'⟩
  ·rintro j σ' Hc hi ⟨w1,rfl,s4,ez⟩
   have z1:SqL K Hc l (ns.map V.int):=SqL.of (s4 _ _ (s1 _ _ el))
   have x1:(ns.map V.int)[j]? = some ((ns.map V.int)[j]'(by rw [List.length_map]; omega)):=List.getElem?_eq_getElem _
   refine ⟨⟨_,_,z1,x1⟩,?_⟩
   rintro y H' ⟨rfl,hy⟩
   obtain ⟨m,hm,rfl⟩:=jd4 (hy _ z1)
   obtain ⟨as,a,e1,e2,e3⟩:=(bk.n.same (s1.trans s4)).get hnd nm
   simp_arith [e1,e2,e3,jam,jef,flat_ints,jco]
   refine ⟨_,ez,?_,_,rfl,jaz s4 hz,?_⟩
   ·rw [List.length_map,List.length_map,List.length_take]
    exact szl' (by omega)
   ·rw [ja1,jaj hm,List.map_append,List.map_append]
    rfl
  rintro σ' H2 ⟨w1,rfl,s2,ez⟩
  refine ⟨⟨_,SqL.of (s2 _ _ (s1 _ _ el)),by rw [List.length_map]; omega⟩,?_⟩
  rw [List.take_length] at ez
  simp_arith [ez]
  refine ⟨_,rfl,?_⟩
  have ea:(ns.map fun b=>decide (b ∈ jab ts n)).any id = ns.any fun b=>decide (b ∈ jab ts n):=by rw [List.any_map]; rfl
  refine ite2 (fun c=>?_) (fun c=>?_)
  ·have c:=ea.symm.trans c
   have:jho ts ns = true:=by
    unfold jho
    rw [List.any_eq_true]
    exact ⟨n,List.mem_of_getElem? hn,c⟩
   rw [this] at h
   exact h _ (s1.trans s2)
  ·have c:=ea.symm.trans (Bool.eq_false_iff.mpr c)
   refine ⟨_,rfl,s1.trans s2,?_⟩
   rw [jaj hn,List.any_append,hno,Bool.false_or,List.any_cons,List.any_nil,Bool.or_false]
   exact c
 ·rintro σ H1 ⟨v1,rfl,s1,hno⟩
  rw [List.length_map,List.take_length] at hno
  subst hR
  walk_at "RD"
  have:jho ts ns = false:=hno
  rw [this] at h
  exact h _ s1
theorem jid {f:Addr} {fd:FuncData} {f_any_tied:Addr} {d_any_tied:FuncData} {f_cost_near:Addr} {d_cost_near:FuncData} (B:Blt mg) (D:DefAt K mg "fold_fits" (top 37) ["prices","nears","v"] f fd) (D_any_tied:DefAt K mg "any_tied" (top 36) ["nears","places"] f_any_tied d_any_tied) (G_any_tied:FnOk P w K mg base CX0 1 f_any_tied d_any_tied ["nears","places"] jq1) (D_cost_near:DefAt K mg "cost_near" (top 6) ["prices","nears","v"] f_cost_near d_cost_near) (G_cost_near:FnOk P w K mg base CX0 1 f_cost_near d_cost_near ["prices","nears","v"] jdt):FnOk P w K mg base CX0 2 f fd ["prices","nears","v"] (spV1 jd1):=by
 have sc:FnScope ["prices","nears","v","together","cheapest"] ["prices","nears","v"] (ja8 (top 37)):=⟨rfl,rfl,rfl,by decide +kernel,rfl,by decide +kernel,by decide +kernel⟩
 refine D.F.ok sc (fun vs H Q E h=>?_) (fun cdv A outer s H vs Q E hr h=>?_)
 ·obtain ⟨pd,nd,v,ps,ts,rfl,_⟩:=h
  rfl
 obtain ⟨pd,nd,v,ps,ts,rfl,bk,hv,h⟩:=h
 have hnd:=bk.ok.p.nodup
 obtain ⟨as,a,e1,e2,e3⟩:=bk.n.get hnd hv
 have hla:=jcb bk.ok v
 have hu:=jb5 hr
 have hu0:_ < PySem.cLine:=Nat.lt_of_succ_lt hu
 refine ⟨_,(ja3 (jba (PW.pt (jjl (jav q_lt (jac jde rfl B.len PySem.boot_len (ja0 (jax hu (qv 1) (qv 2) (fun _ _=>rfl)) ja2)) ja4 (jae _)) (jfw (jbm (jad G_any_tied (hr.mono (by decide)) rfl D_any_tied.m D_any_tied.F.kp D_any_tied.b .nil jap (ja0 (qv 1) (ja0 (jax hu (qv 1) (qv 2) (fun _ _=>rfl)) ja2))))))) (ja6 (jag jdh)) jah) (ja3 (jal (i:=3) sc.nd rfl (Or.inl rfl) (jad G_cost_near (hr.mono (by decide)) rfl D_cost_near.m D_cost_near.F.kp D_cost_near.b .nil jap (ja0 (qv 0) (ja0 (qv 1) (ja0 (qv 2) ja2))))) (ja3 (jal (i:=4) sc.nd rfl (Or.inl rfl) (jac (jfg rfl) rfl B.min PyProof.Rows.boot_min (ja0 (jc3 (CpScope.of (N:=["place","prices"]) (src:=[none,some 0]) (by rfl)) rfl (jb0 (jax hu (qv 1) (qv 2) (fun _ _=>rfl))) (fun _ _ _ _=>(jaf (i:=0) (jai (l:=["place","prices"]) (by rfl)) rfl (Or.inl rfl))) (fun _ _ _ _=>jbs) (fun _ _ _ _=>(jax hu (qv 1) (qv 0) (fun _ _=>rfl)))) ja2))) (ja6 (jag (jjk q_le q_lt (jar jhx (qv 3) (qv 4)) (jax hu (qv 0) (qv 2) (fun _ _=>rfl)) (qv 3))))))),?_⟩
 refine jaa fun R hR=>?_
 simp_arith [e1,e2,jam,e3,List.length_map]
 by_cases c1:(jab ts v).length < 2
 ·rw [decide_eq_true (show ((jab ts v).length:Int) < 2 by omega)]
  walk_at "RD"
  have h0:=h H (Same.refl _)
  unfold jd1 at h0
  rw [decide_eq_false (show ¬ 2 ≤ (jab ts v).length by omega),Bool.false_and,Bool.false_and] at h0
  exact h0
 rw [decide_eq_false (show ¬ ((jab ts v).length:Int) < 2 by omega)]
 simp_arith [e1,e2]
 refine ⟨pd,nd,a,ps,ts,jab ts v,rfl,bk,e3,fun n hn=>jda bk.ok hn,by omega,fun H1 s1=>?_⟩
 cases c2:jho ts (jab ts v) with
 | true =>
  walk_at "RD"
  have h0:=h H1 s1
  unfold jd1 at h0
  rw [c2,Bool.not_true,Bool.and_false,Bool.false_and] at h0
  exact h0
 | false =>
 have fin:jd1 ps ts v = (decide (jdm ps (jab ts v) - minL ((jab ts v).map (prc ps)) ≤ prc ps v) && decide (prc ps v < jdm ps (jab ts v))):=by
  unfold jd1
  rw [c2,decide_eq_true (show 2 ≤ (jab ts v).length by omega)]
  rfl
 rw [fin] at h
 walk_at "RD"
 subst hR
 refine jaa fun R hR=>?_
 walk_at "RD"
 refine ⟨pd,nd,v,ps,ts,rfl,bk.same s1,hv,fun H2 s2=>?_⟩
 have s12:=s1.trans s2
 walk_at "RD"
 subst hR
 refine jaa fun R hR=>?_
 walk_at "RD"
 refine jb4 (Itl K a) H2 (fun R hR=>?_) (fun z hz=>jb9 (jab ts v).length (fun i σ' Hc=>∃ w1,σ' = [w1,some (.ref pd)]∧Same H2 Hc∧Hc z = some (.lst ((((jab ts v).take i).map (prc ps)).map V.int))) ⟨none,rfl,ja5 hz _,ja1⟩ ?_ ?_)
 ·unfold jc8
  simp_arith [s12 _ _ e1,e2]
  exact ⟨a,rfl,⟨_,SqL.of (s12 _ _ e3)⟩,hR⟩
 ·rintro i σ' Hc hi ⟨w1,rfl,s4,ez⟩
  have z1:SqL K Hc a ((jab ts v).map V.int):=SqL.of (s4 _ _ (s12 _ _ e3))
  have x1:((jab ts v).map V.int)[i]? = some (((jab ts v).map V.int)[i]'(by rw [List.length_map]; omega)):=List.getElem?_eq_getElem _
  refine ⟨⟨_,_,z1,x1⟩,?_⟩
  rintro y H' ⟨rfl,hy⟩
  obtain ⟨n,hn,rfl⟩:=jd4 (hy _ z1)
  have ep':=s4 _ _ (s12 _ _ bk.p)
  have hp:=jbh (jda bk.ok (List.mem_of_getElem? hn))
  simp_arith [ep',hp]
  refine ⟨_,ez,?_,_,rfl,jaz s4 hz,?_⟩
  ·rw [List.length_map,List.length_map,List.length_take]
   exact szl' (by omega)
  ·rw [ja1,jaj hn,List.map_append,List.map_append]
   rfl
 rintro σ' H3 ⟨w1,rfl,s3,ez⟩
 refine ⟨⟨_,SqL.of (s3 _ _ (s12 _ _ e3)),by rw [List.length_map]; omega⟩,?_⟩
 rw [List.take_length] at ez
 refine ⟨z,_,rfl,ez,fun e=>?_,fun m hm1 hm2=>?_⟩
 ·have:=congrArg List.length e
  rw [List.length_map] at this
  simp at this
  rw [this] at c1
  simp at c1
 rw [jnj hm1 hm2]
 have s13:=s12.trans s3
 walk_at "RD"
 subst hR
 simp_arith [s13 _ _ bk.p,jbh hv]
 have h0:=h H3 s13
 by_cases q1:jdm ps (jab ts v) - minL ((jab ts v).map (prc ps)) ≤ prc ps v <;> by_cases q2:prc ps v < jdm ps (jab ts v) <;> simp [q1,q2] at h0 ⊢ <;> exact h0
end
end My
namespace My
open PySem L2
section
variable {P:Program} {w:World} {K:PySem.W.Frag} {mg:Str→Option Value} {base:Heap} {c1 c2 c3 c4:Tok} {C_NoWeb f_NoWeb:Addr} {dI:FuncData}
def jm0:List Dt→List Int
 | .int n :: r=>n :: jm0 r
 | _ :: r=>jm0 r
 | []=>[]
theorem jir:∀ (ns:List Int),jm0 (ns.map Dt.int) = ns
 | []=>rfl
 | n :: r=>by rw [List.map_cons,jm0,jir r]
def jiq (ps:List (Int × Int)):Dt→Bool
 | .int n=>decide (n ∈ ps.map (·.1))
 | _=>false
theorem jlb {ps:List (Int × Int)}:∀ {ds:List Dt},ds.all (jiq ps) = true→∃ ns:List Int,ds = ns.map Dt.int∧∀ n ∈ ns,n ∈ ps.map (·.1)
 | [],_=>⟨[],rfl,fun _ h=>by cases h⟩
 | d :: ds,h=>by
  rw [List.all_cons,Bool.and_eq_true] at h
  obtain ⟨ns,rfl,q⟩:=jlb h.2
  cases d with
  | int n=>exact ⟨n :: ns,rfl,fun m hm=>by
    rcases List.mem_cons.mp hm with rfl | hm
    ·exact of_decide_eq_true h.1
    ·exact q m hm⟩
  | _=>cases h.1
theorem jhw {H:Hp}:∀ {ns:List Int} {xs:List V},Reps H (ns.map Dt.int) xs→xs = ns.map V.int
 | [],_,h=>by rw [List.map_nil,Reps] at h; subst h; rfl
 | n :: ns,_,h=>by
  rw [List.map_cons,Reps] at h
  obtain ⟨v,r,rfl,h1,h2⟩:=h
  rw [Rep] at h1
  subst h1
  rw [jhw h2]
  rfl
theorem jgv {ps:List (Int × Int)} {n:Int}:hasK (jbe ps) n = decide (n ∈ ps.map (·.1)):=by
 by_cases c:n ∈ ps.map (·.1)
 ·rw [decide_eq_true c]
  unfold hasK
  rw [jbh c]
  rfl
 ·rw [decide_eq_false c]
  refine Bool.eq_false_iff.mpr fun z=>?_
  obtain ⟨i,p,hp,e⟩:=jdj z
  exact c (List.mem_map.mpr ⟨p,List.mem_of_getElem? hp,e⟩)
theorem jpj {ps:List (Int × Int)}:isPl (jbe ps) = jiq ps:=by
 funext d
 cases d with
 | int n=>exact jgv
 | _=>rfl
def joy (ps ts:List (Int × Int)) (w:Str):List Int→Bool
 | [v]=>if w = (("lone":String):Str) then decide (jab ts v = []) else if w = (("near":String):Str) then jni ps ts v else decide (w = (("leaf":String):Str)) && jph ps ts v
 | [u,v]=>if w = (("over":String):Str) then jlo ps ts u v else decide (w = (("twins":String):Str)) && jmh ts u v
 | _=>false
def foldO (ps ts:List (Int × Int)):List Int→Bool
 | [v]=>jd1 ps ts v
 | _=>false
def fitW (ps ts:List (Int × Int)) (w:Str) (ns:List Int):Bool:=if w = (("fold":String):Str) then foldO ps ts ns else joy ps ts w ns
def fitB (ps ts:List (Int × Int)):Dt→Bool
 | .tup (.str w :: d :: r)=>(d :: r).all (jiq ps) && fitW ps ts w (jm0 (d :: r))
 | _=>false
def NoHv (d:Dt):Prop:=∀ r,d ≠ .tup (.str (("halves":String):Str) :: r)
def jdo (d:Dt):Prop:=∀ ds,d = .tup ds→ds.length ≤ 900
def jq5:Sp:=fun vs H Q _=>∃ pd nd t ps ts w ns,vs = [.ref pd,.ref nd,.ref t]∧Bk H pd nd ps ts∧H t = some (.tup (.str w :: ns.map V.int))∧ns ≠ []∧(∀ n ∈ ns,n ∈ ps.map (·.1))∧∀ H',Same H H'→Q (.bl (joy ps ts w ns)) H'
def spFK:Sp:=fun vs H Q _=>∃ v x ps ts d,vs = [v,x]∧jch H v ps ts∧WebOk ps ts∧Rep H d x∧NoHv d∧jdo d∧∀ H',Same H H'→Q (.bl (fitB ps ts d)) H'
theorem jrc {x:V} {xs:List V}:cutV (x :: xs) (some 1) none = xs:=by
 unfold cutV HT.sIx
 simp
theorem ji7 {f:Addr} {fd:FuncData} {f_near_fits:Addr} {d_near_fits:FuncData} {f_leaf_fits:Addr} {d_leaf_fits:FuncData} {f_over_fits:Addr} {d_over_fits:FuncData} {f_twins_fit:Addr} {d_twins_fit:FuncData} (B:Blt mg) (D:DefAt K mg "rule_fits" (top 11) ["prices","nears","step"] f fd) (D_near_fits:DefAt K mg "near_fits" (top 7) ["prices","nears","v"] f_near_fits d_near_fits) (G_near_fits:FnOk P w K mg base CX0 2 f_near_fits d_near_fits ["prices","nears","v"] (spV1 jni)) (D_leaf_fits:DefAt K mg "leaf_fits" (top 8) ["prices","nears","v"] f_leaf_fits d_leaf_fits) (G_leaf_fits:FnOk P w K mg base CX0 1 f_leaf_fits d_leaf_fits ["prices","nears","v"] (spV1 jph)) (D_over_fits:DefAt K mg "over_fits" (top 9) ["prices","nears","u","v"] f_over_fits d_over_fits) (G_over_fits:FnOk P w K mg base CX0 1 f_over_fits d_over_fits ["prices","nears","u","v"] jq6) (D_twins_fit:DefAt K mg "twins_fit" (top 10) ["nears","u","v"] f_twins_fit d_twins_fit) (G_twins_fit:FnOk P w K mg base CX0 1 f_twins_fit d_twins_fit ["nears","u","v"] jmn):FnOk P w K mg base CX0 3 f fd ["prices","nears","step"] jq5:=by
 have sc:FnScope ["prices","nears","step","word"] ["prices","nears","step"] (ja8 (top 11)):=⟨rfl,rfl,rfl,by decide +kernel,rfl,by decide +kernel,by decide +kernel⟩
 refine D.F.ok sc (fun vs H Q E h=>?_) (fun cdv A outer s H vs Q E hr h=>?_)
 ·obtain ⟨pd,nd,t,ps,ts,w,ns,rfl,_⟩:=h
  rfl
 obtain ⟨pd,nd,t,ps,ts,w,ns,rfl,bk,et,hne,hin,h⟩:=h
 have hnd:=bk.ok.p.nodup
 have hu:=jb5 hr
 have hu0:_ < PySem.cLine:=Nat.lt_of_succ_lt hu
 refine ⟨_,(ja3 (jal (i:=3) sc.nd rfl (Or.inl rfl) (jaq q_ix (qv 2) ja4 (fun _ _=>rfl))) (ja3 (jba (jav q_eq (jac jde rfl B.len PySem.boot_len (ja0 (qv 2) ja2)) ja4 (jae _)) (ja3 (jba (jav q_eq (qv 3) jbt (jae _)) (ja6 (jag (jas q_eq (jac jde rfl B.len PySem.boot_len (ja0 (jax hu (qv 1) (jaq q_ix (qv 2) ja4 (fun _ _=>rfl)) (fun _ _=>rfl)) ja2)) ja4 (jae _)))) jah) (ja3 (jba (jav q_eq (qv 3) jbt (jae _)) (ja6 (jag (jad G_near_fits (hr.mono (by decide)) rfl D_near_fits.m D_near_fits.F.kp D_near_fits.b .nil jap (ja0 (qv 0) (ja0 (qv 1) (ja0 (jaq q_ix (qv 2) ja4 (fun _ _=>rfl)) ja2)))))) jah) (ja6 (jag (jck (jas q_eq (qv 3) jbt (jae _)) (jbz (jad G_leaf_fits (hr.mono (by decide)) rfl D_leaf_fits.m D_leaf_fits.F.kp D_leaf_fits.b .nil jap (ja0 (qv 0) (ja0 (qv 1) (ja0 (jaq q_ix (qv 2) ja4 (fun _ _=>rfl)) ja2)))))))))) jah) (ja3 (jba (jav q_eq (jac jde rfl B.len PySem.boot_len (ja0 (qv 2) ja2)) ja4 (jae _)) (ja3 (jba (jav q_eq (qv 3) jbt (jae _)) (ja6 (jag (jad G_over_fits (hr.mono (by decide)) rfl D_over_fits.m D_over_fits.F.kp D_over_fits.b .nil jap (ja0 (qv 0) (ja0 (qv 1) (ja0 (jaq q_ix (qv 2) ja4 (fun _ _=>rfl)) (ja0 (jaq q_ix (qv 2) ja4 (fun _ _=>rfl)) ja2))))))) jah) (ja6 (jag (jck (jas q_eq (qv 3) jbt (jae _)) (jbz (jad G_twins_fit (hr.mono (by decide)) rfl D_twins_fit.m D_twins_fit.F.kp D_twins_fit.b .nil jap (ja0 (qv 1) (ja0 (jaq q_ix (qv 2) ja4 (fun _ _=>rfl)) (ja0 (jaq q_ix (qv 2) ja4 (fun _ _=>rfl)) ja2))))))))) jah) (ja6 (jag jdh))))),?_⟩
 refine jaa fun R hR=>?_
 simp_arith [jam,et,at0]
 subst hR
 have nc:∀ b:Bool,(b = true→False)→b = false:=fun b z=>by cases b; rfl; exact absurd rfl z
 match ns,hne,hin,et,h with
 | [v],_,hin,et,h =>
  have hv:=hin v (List.mem_singleton.mpr rfl)
  obtain ⟨as,a,e1,e2,e3⟩:=bk.n.get hnd hv
  have h0:=h H (Same.refl _)
  unfold joy at h
  dsimp only at h
  refine jaa fun R hR=>?_
  rw [List.map_cons,List.map_nil] at et
  simp_arith [jam,et]
  rw [show decide (((2:Nat):Int) = 2) = true from rfl]
  simp only [if_true,at1,e1,e2,e3,List.length_map]
  by_cases c1:w = (("lone":String):Str)
  ·rw [if_pos c1] at h
   simp only [c1,decide_true,if_true]
   have e:decide (((jab ts v).length:Int) = 0) = decide (jab ts v = []):=by
    cases jab ts v with
    | nil=>rfl
    | cons m r=>rw [decide_eq_false (by rw [List.length_cons]; omega),decide_eq_false fun z=>nomatch z]
   rw [e]
   exact h _ (Same.refl _)
  rw [if_neg c1] at h
  simp only [c1,decide_false,Bool.false_eq_true,if_false]
  by_cases c2:w = (("near":String):Str)
  ·rw [if_pos c2] at h
   simp only [c2,decide_true,if_true]
   exact ⟨pd,nd,v,ps,ts,rfl,bk,hv,h⟩
  rw [if_neg c2] at h
  simp only [c2,decide_false,Bool.false_eq_true,if_false]
  by_cases c3:w = (("leaf":String):Str)
  ·simp only [c3,decide_true,if_true,Bool.true_and] at h ⊢
   exact ⟨pd,nd,v,ps,ts,rfl,bk,hv,h⟩
  ·simp only [c3,decide_false,Bool.false_eq_true,if_false,Bool.false_and] at h ⊢
   exact h _ (Same.refl _)
 | [u,v],_,hin,et,h =>
  have hu2:=hin u (List.mem_cons_self ..)
  have hv:=hin v (List.mem_cons_of_mem _ (List.mem_singleton.mpr rfl))
  unfold joy at h
  dsimp only at h
  rw [List.map_cons,List.map_cons,List.map_nil] at et
  refine jaa fun R hR=>?_
  simp_arith [jam,et]
  rw [show decide (((3:Nat):Int) = 2) = false from rfl]
  simp only [Bool.false_eq_true,if_false]
  walk_at "RD"
  subst hR
  refine jaa fun R hR=>?_
  simp_arith [jam,et]
  rw [show decide (((3:Nat):Int) = 3) = true from rfl]
  simp only [if_true,at1,at2]
  by_cases c1:w = (("over":String):Str)
  ·rw [if_pos c1] at h
   simp only [c1,decide_true,if_true]
   exact ⟨pd,nd,u,v,ps,ts,rfl,bk,hu2,hv,h⟩
  rw [if_neg c1] at h
  simp only [c1,decide_false,Bool.false_eq_true,if_false]
  by_cases c3:w = (("twins":String):Str)
  ·simp only [c3,decide_true,if_true,Bool.true_and] at h ⊢
   exact ⟨pd,nd,u,v,ps,ts,rfl,bk,hu2,hv,h⟩
  ·simp only [c3,decide_false,Bool.false_eq_true,if_false,Bool.false_and] at h ⊢
   exact h _ (Same.refl _)
 | u :: v :: m :: r,_,hin,et,h =>
  have hl:(((V.str w :: (u :: v :: m :: r).map V.int).length:Nat):Int) = (r.length:Int) + 4:=by
   rw [List.length_cons,List.length_map,List.length_cons,List.length_cons,List.length_cons]
   omega
  refine jaa fun R hR=>?_
  simp only [List.map_cons] at et hl
  simp only [jam,et,jel,je0,fLeT,fIsB,tSeq,jja,jjb,tRet,jlh,tIfS,tAsg,jf9,fAug,tOp,tUn,tC,fVar,fI,fIC,fNeg,fEq,fNe,fIsN,jk6,fAnd,fOr,fNot,fB,tNot,tAnd,tOr,jfb,fIx,fLen,jcp,fMin,fMax,fInL,fSlL,tSl,jk8,jd6,jcq,fBM,jiu,gSub,jh0,jdl,jgz,jm1,jg5,jeo,jek,fCat,jg6,fBM0,fSlT,jiv,tCBK,fDIn,jk9,fIsi,jd5,je4,fLtT,jjc,tCB,jdr,tNil,tTup,tLst,tIf,jj9,Kd.nm,L2.jd8,List.map_cons,List.map_nil,List.length_nil,Nat.reduceAdd,Nat.reduceSub,List.replicate_succ,List.replicate_zero,List.getElem?_cons_zero,List.getElem?_cons_succ,List.set_cons_zero,List.set_cons_succ,List.append_nil,List.nil_append,List.cons_append,eq_self,true_and,and_true,if_true,Bool.false_eq_true,if_false,Bool.not_true,Bool.not_false,id_eq,sl0,sl1,sl2,sl3,sl4]
  rw [hl,decide_eq_false (show ¬ (r.length:Int) + 4 = 2 by omega)]
  walk_at "RD"
  subst hR
  refine jaa fun R hR=>?_
  simp only [jam,et,jel,je0,fLeT,fIsB,tSeq,jja,jjb,tRet,jlh,tIfS,tAsg,jf9,fAug,tOp,tUn,tC,fVar,fI,fIC,fNeg,fEq,fNe,fIsN,jk6,fAnd,fOr,fNot,fB,tNot,tAnd,tOr,jfb,fIx,fLen,jcp,fMin,fMax,fInL,fSlL,tSl,jk8,jd6,jcq,fBM,jiu,gSub,jh0,jdl,jgz,jm1,jg5,jeo,jek,fCat,jg6,fBM0,fSlT,jiv,tCBK,fDIn,jk9,fIsi,jd5,je4,fLtT,jjc,tCB,jdr,tNil,tTup,tLst,tIf,jj9,Kd.nm,L2.jd8,List.map_cons,List.map_nil,List.length_nil,Nat.reduceAdd,Nat.reduceSub,List.replicate_succ,List.replicate_zero,List.getElem?_cons_zero,List.getElem?_cons_succ,List.set_cons_zero,List.set_cons_succ,List.append_nil,List.nil_append,List.cons_append,eq_self,true_and,and_true,if_true,Bool.false_eq_true,if_false,Bool.not_true,Bool.not_false,id_eq,sl0,sl1,sl2,sl3,sl4]
  rw [hl,decide_eq_false (show ¬ (r.length:Int) + 4 = 3 by omega)]
  walk_at "RD"
  subst hR
  walk_at "RD"
  exact h _ (Same.refl _)
end
end My
namespace My
open PySem L2
section
variable {P:Program} {w:World} {K:PySem.W.Frag} {mg:Str→Option Value} {base:Heap} {c1 c2 c3 c4:Tok} {C_NoWeb f_NoWeb:Addr} {dI:FuncData}
theorem jpl {ps ts:List (Int × Int)} {ds:List Dt} (h:ds.length < 2):fitB ps ts (.tup ds) = false:=by
 match ds,h with
 | [],_=>rfl
 | [d],_=>cases d <;> rfl
 | _ :: _ :: _,h=>simp at h; omega
theorem jgp {f:Addr} {fd:FuncData} {f_are_places:Addr} {d_are_places:FuncData} {f_nears_in:Addr} {d_nears_in:FuncData} {f_fold_fits:Addr} {d_fold_fits:FuncData} {f_rule_fits:Addr} {d_rule_fits:FuncData} (B:Blt mg) (D:DefAt K mg "fits_known" (top 58) ["web","thing"] f fd) (D_are_places:DefAt K mg "are_places" (top 32) ["prices","things"] f_are_places d_are_places) (G_are_places:FnOk P w K mg base CX0 3 f_are_places d_are_places ["prices","things"] jqa) (D_nears_in:DefAt K mg "nears_in" (top 33) ["web"] f_nears_in d_nears_in) (G_nears_in:FnOk P w K mg base CX0 1 f_nears_in d_nears_in ["web"] jhs) (D_fold_fits:DefAt K mg "fold_fits" (top 37) ["prices","nears","v"] f_fold_fits d_fold_fits) (G_fold_fits:FnOk P w K mg base CX0 2 f_fold_fits d_fold_fits ["prices","nears","v"] (spV1 jd1)) (D_rule_fits:DefAt K mg "rule_fits" (top 11) ["prices","nears","step"] f_rule_fits d_rule_fits) (G_rule_fits:FnOk P w K mg base CX0 3 f_rule_fits d_rule_fits ["prices","nears","step"] jq5):FnOk P w K mg base CX0 4 f fd ["web","thing"] spFK:=by
 have sc:FnScope ["web","thing","prices"] ["web","thing"] (ja8 (top 58)):=⟨rfl,rfl,rfl,by decide +kernel,rfl,by decide +kernel,by decide +kernel⟩
 refine D.F.ok sc (fun vs H Q E h=>?_) (fun cdv A outer s H vs Q E hr h=>?_)
 ·obtain ⟨v,x,ps,ts,d,rfl,_⟩:=h
  rfl
 obtain ⟨v,x,ps,ts,d,rfl,hw,wok,hd,nh,fit,h⟩:=h
 have hk:=jep hd
 obtain ⟨u,pa,ta,xs,ys,rfl,eu,ep,et,pp,pt⟩:=id hw
 have hlx:xs.length = ps.length:=Paired.length pp
 have okl:=wok.pl
 have hu:=jb5 hr
 have hu0:_ < PySem.cLine:=Nat.lt_of_succ_lt hu
 refine ⟨_,(ja3 (jba (PW.pt (jjl (jc5 (jbm (jac (jji .tup) rfl B.isinstance PyProof.Rows.boot_isinstance (ja0 (qv 1) (ja0 (jd9 (v:=.ty "tuple") rfl B.tuple PyProof.Rows.boot_tuple rfl) ja2))))) (jjl (jav q_lt (jac jde rfl B.len PySem.boot_len (ja0 (qv 1) ja2)) ja4 (jae _)) (jfw (jc5 (jbm (jac (jji .str) rfl B.isinstance PyProof.Rows.boot_isinstance (ja0 (jaq q_ix (qv 1) ja4 (fun _ _=>rfl)) (ja0 (jd9 (v:=.ty "str") rfl B.str PyProof.Rows.boot_str rfl) ja2))))))))) (ja6 (jag jdh)) jah) (ja3 (jba (jav q_eq (jaq q_ix (qv 1) ja4 (fun _ _=>rfl)) jbt (jae _)) (ja6 jcw) jah) (ja3 (jal (i:=2) sc.nd rfl (Or.inl rfl) (jbk (jjj rfl) rfl B.dict PyProof.Rows.boot_dict (ja0 (jaq q_ix (qv 0) ja4 (fun _ _=>rfl)) ja2))) (ja3 (jba (jc5 (jbm (jad G_are_places (hr.mono (by decide)) rfl D_are_places.m D_are_places.F.kp D_are_places.b .nil jap (ja0 (qv 2) (ja0 (jbn q_slT (qv 1) (jbl ja4) jdv) ja2))))) (ja6 (jag jdh)) jah) (ja3 (jba (jav q_eq (jaq q_ix (qv 1) ja4 (fun _ _=>rfl)) jbt (jae _)) (ja6 (jag (jck (jas q_eq (jac jde rfl B.len PySem.boot_len (ja0 (qv 1) ja2)) ja4 (jae _)) (jbz (jad G_fold_fits (hr.mono (by decide)) rfl D_fold_fits.m D_fold_fits.F.kp D_fold_fits.b .nil jap (ja0 (qv 2) (ja0 (jad G_nears_in (hr.mono (by decide)) rfl D_nears_in.m D_nears_in.F.kp D_nears_in.b .nil jap (ja0 (qv 0) ja2)) (ja0 (jaq q_ix (qv 1) ja4 (fun _ _=>rfl)) ja2)))))))) jah) (ja6 (jag (jad G_rule_fits (hr.mono (by decide)) rfl D_rule_fits.m D_rule_fits.F.kp D_rule_fits.b .nil jap (ja0 (qv 2) (ja0 (jad G_nears_in (hr.mono (by decide)) rfl D_nears_in.m D_nears_in.F.kp D_nears_in.b .nil jap (ja0 (qv 0) ja2)) (ja0 (qv 1) ja2))))))))))),?_⟩
 refine jaa fun R hR=>?_
 cases d with
 | tup ds =>
  rw [Rep] at hd
  obtain ⟨a,vs,rfl,ea,r⟩:=hd
  have hlv:=r.len
  have hka:kd H (.ref a) = some .tup:=hk
  simp_arith [hka,ea,jam,isi]
  by_cases c2:ds.length < 2
  ·rw [decide_eq_true (show (vs.length:Int) < 2 by omega)]
   walk_at "RD"
   rw [jpl c2] at h
   exact h _ (Same.refl _)
  rw [decide_eq_false (show ¬ (vs.length:Int) < 2 by omega)]
  obtain ⟨d0,d1,dr,rfl⟩:∃ d0 d1 dr,ds = d0 :: d1 :: dr:=by
   match ds,c2 with
   | [],c2=>exact absurd (by decide) c2
   | [_],c2=>exact absurd (Nat.lt_succ_self 1) c2
   | a :: b :: c,_=>exact ⟨a,b,c,rfl⟩
  ·have trick:True:=trivial
   rw [Reps] at r
   obtain ⟨v0,r0,rfl,h0,r⟩:=r
   have k0:=jep h0
   simp_arith [jam,ea,at0,k0]
   cases d0 with
   | str w =>
    rw [Rep] at h0
    subst h0
    have hrl:r0.length = (d1 :: dr).length:=r.len
    have h9:(d1 :: dr).length ≤ 900:=by
     have:=fit _ rfl
     rw [List.length_cons] at this
     omega
    simp_arith [kdD,isi]
    subst hR
    refine jaa fun R hR=>?_
    have cw:w ≠ (("halves":String):Str):=fun z=>nh _ (by rw [z])
    simp_arith [jam,ea,at0]
    simp only [cw,decide_false,Bool.false_eq_true,if_false]
    walk_at "RD"
    subst hR
    refine jaa fun R hR=>?_
    simp_arith [jam,eu,at0,ep]
    refine ⟨jbe ps,jgk pp,by omega,jg4 wok.p.nodup,fun pd hpd=>?_⟩
    have s1:=ja5 hpd (.dK (jbe ps))
    have ed:upd H pd (.dK (jbe ps)) pd = some (.dK (jbe ps)):=ja1
    generalize upd H pd (.dK (jbe ps)) = H1 at s1 ed
    walk_at "RD"
    subst hR
    refine jaa fun R hR=>?_
    simp_arith [s1 _ _ ea]
    refine ⟨fun z=>by have:=z.1; unfold HT.sIx at this; simp at this,?_⟩
    intro p hp
    rw [jrc]
    have s2:=s1.trans (ja5 hp (.tup r0))
    have e2:upd H1 p (.tup r0) p = some (.tup r0):=ja1
    have ed2:=ja5 hp (.tup r0) _ _ ed
    generalize upd H1 p (.tup r0) = H2 at s2 e2 ed2
    refine ⟨pd,jbe ps,p,d1 :: dr,r0,rfl,ed2,e2,Reps.same s2 _ r,h9,fun H3 s3=>?_⟩
    rw [jpj]
    have hfit:fitB ps ts (.tup (.str w :: d1 :: dr)) = ((d1 :: dr).all (jiq ps) && fitW ps ts w (jm0 (d1 :: dr))):=rfl
    generalize hds:d1 :: dr = ds at r h9 hfit h hrl
    have hne:ds ≠ []:=by rw [← hds]; exact fun z=>nomatch z
    clear hds
    rw [hfit] at h
    cases ca:ds.all (jiq ps) with
    | false =>
     walk_at "RD"
     rw [ca,Bool.false_and] at h
     exact h _ (s2.trans s3)
    | true =>
    rw [ca,Bool.true_and] at h
    obtain ⟨ns,rfl,hin⟩:=jlb ca
    have exs:=jhw r
    subst exs
    rw [jir] at h
    rw [List.length_map] at h9
    have hne2:ns ≠ []:=fun z=>hne (by rw [z]; rfl)
    have s13:=s2.trans s3
    have ed3:=s3 _ _ ed2
    have ea3:=s13 _ _ ea
    walk_at "RD"
    subst hR
    refine jaa fun R hR=>?_
    simp_arith [jam,ea3,at0]
    unfold fitW at h
    by_cases cf:w = (("fold":String):Str)
    ·rw [if_pos cf] at h
     simp only [cf,decide_true,if_true]
     match ns,hne2,hin,h,ea3 with
     | [n],_,hin,h,ea3 =>
      simp only [List.map_cons,List.map_nil] at ea3
      simp_arith [jam,ea3,at1]
      rw [show decide (((2:Nat):Int) = 2) = true from rfl]
      simp_arith [jam,ea3,at1]
      refine ⟨.ref u,ps,ts,rfl,hw.same s13,wok,fun nd as H4 hnd0 s4 end2 hla hnr=>?_⟩
      simp only [s4 _ _ ea3,at1]
      exact ⟨pd,nd,n,ps,ts,rfl,⟨s4 _ _ ed3,⟨as,end2,hla,hnr⟩,wok⟩,hin n (List.mem_singleton.mpr rfl),fun H5 s5=>h H5 (s13.trans (s4.trans s5))⟩
     | n :: m :: r,_,hin,h,ea3 =>
      simp only [List.map_cons,List.length_cons,List.length_map]
      rw [decide_eq_false (show ¬ ((r.length + 1 + 1 + 1:Nat):Int) = 2 by omega)]
      walk_at "RD"
      exact h _ s13
    ·rw [if_neg cf] at h
     simp only [cf,decide_false,Bool.false_eq_true,if_false]
     walk_at "RD"
     subst hR
     walk_at "RD"
     refine ⟨.ref u,ps,ts,rfl,hw.same s13,wok,fun nd as H4 hnd0 s4 end2 hla hnr=>?_⟩
     walk_at "RD"
     exact ⟨pd,nd,a,ps,ts,w,ns,rfl,⟨s4 _ _ ed3,⟨as,end2,hla,hnr⟩,wok⟩,s4 _ _ ea3,hne2,hin,fun H5 s5=>h H5 (s13.trans (s4.trans s5))⟩
   | _ =>
    simp_arith [kdD,isi]
    exact h _ (Same.refl _)
 | non=>simp_arith [hk,isi,kdD]; exact h _ (Same.refl _)
 | bl b=>simp_arith [hk,isi,kdD]; exact h _ (Same.refl _)
 | int b=>simp_arith [hk,isi,kdD]; exact h _ (Same.refl _)
 | str b=>simp_arith [hk,isi,kdD]; exact h _ (Same.refl _)
 | lst b=>simp_arith [hk,isi,kdD]; exact h _ (Same.refl _)
end
end My
namespace My
open PySem L2
section
variable {P:Program} {w:World} {K:PySem.W.Frag} {mg:Str→Option Value} {base:Heap} {c1 c2 c3 c4:Tok} {C_NoWeb f_NoWeb:Addr} {dI:FuncData}
theorem jfz {ps qs:List (Int × Int)} (h:ps.map jcg = qs.map jcg):ps = qs:=by
 induction ps generalizing qs with
 | nil=>cases qs with
  | nil=>rfl
  | cons _ _=>cases h
 | cons p r ih=>cases qs with
  | nil=>cases h
  | cons q t =>
   rw [List.map_cons,List.map_cons] at h
   injection h with h1 h2
   have e:p = q:=by
    unfold jcg at h1
    injection h1 with h1
    injection h1 with a1 a2
    injection a1 with a1
    injection a2 with a2 _
    injection a2 with a2
    exact Prod.ext a1 a2
   rw [e,ih h2]
theorem jkh {ps ts qs us:List (Int × Int)} (h:webD ps ts = webD qs us):qs = ps∧us = ts:=by
 unfold webD prsD at h
 injection h with h
 injection h with h1 h2
 injection h1 with h1
 injection h2 with h2 _
 injection h2 with h2
 exact ⟨(jfz h1).symm,(jfz h2).symm⟩
theorem jct {H:Hp} {v:V} {ps ts:List (Int × Int)} (h:jch H v ps ts):Rep H (webD ps ts) v:=by
 obtain ⟨u,pa,ta,xs,ys,rfl,h1,h2,h3,h4,h5⟩:=h
 unfold webD prsD
 rw [Rep]
 refine ⟨u,_,rfl,h1,?_⟩
 rw [Reps]
 refine ⟨_,_,rfl,?_,?_⟩
 ·rw [Rep]
  exact ⟨pa,xs,rfl,h2,Prs.reps h4⟩
 ·rw [Reps]
  refine ⟨_,_,rfl,?_,by rw [Reps]⟩
  rw [Rep]
  exact ⟨ta,ys,rfl,h3,Prs.reps h5⟩
theorem jkw:∀ {ps:List (Int × Int)} {l s:Int} {k:Nat},PlOk l s ps→je8 l s k (ps.map some) = none
 | [],_,_,_,_=>rfl
 | p :: r,l,s,k,h=>by
  rw [List.map_cons,je8,if_pos (show plS l s (some p) = true from decide_eq_true h.1)]
  exact jkw h.2
theorem jkl {kvs:List (Key × V)}:∀ {ts:List (Int × Int)} {q:Int × Int} {k:Nat},TiOk kvs q ts→je6 kvs q k (ts.map some) = none
 | [],_,_,_=>rfl
 | p :: r,q,k,h=>by
  have c:tiS kvs q (some p) = true:=by
   unfold tiS
   simp only [Bool.and_eq_true,decide_eq_true_eq]
   exact ⟨h.1.1,h.1.2.1,h.1.2.2.1,h.1.2.2.2⟩
  rw [List.map_cons,je6,if_pos c]
  exact jkl h.2
theorem jjr (ps:List (Int × Int)):(ps.map jcg).map prO = ps.map some:=by
 rw [List.map_map]
 rfl
theorem jkg {ps ts:List (Int × Int)} (h:WebOk ps ts):jcf (webD ps ts) = none:=by
 have e1:jih (prsD ps) = none:=by
  unfold prsD jih noPl
  dsimp only
  rw [jjr,List.length_map,if_pos h.pl,jkw h.p]
  rfl
 have e2:psD (prsD ps) = ps:=by
  show psOf ((ps.map jcg).map prO) = ps
  rw [jjr]
  exact ji1 ps
 have e3:jig (jbe ps) (prsD ts) = none:=by
  unfold prsD jig noTi
  dsimp only
  rw [jjr,List.length_map,if_pos h.tl,jkl h.t]
  rfl
 unfold webD jcf
 dsimp only
 rw [e1]
 dsimp only
 rw [e2,e3]
def RefW (C:Addr) (H:Hp) (E:XK) (d:Dt):Prop:=∀ w n,jcf d = some (w,n)→Ref C H E w n
def Ref1 (C:Addr) (H:Hp) (E:XK) (f:Str) (y:V):Prop:=∀ dx H',H dx = none→Same H H'→H' dx = some (xdO dx [(f,y)])→E (.ref C) (some dx) H'
theorem Ref1.back {C:Addr} {H H1:Hp} {E:XK} {f:Str} {y:V} (h:Ref1 C H E f y) (s:Same H H1):Ref1 C H1 E f y:=fun dx H' hd s' e=>h dx H' (s.free hd) (s.trans s') e
variable {C_NoStep f_NoStep:Addr} {dS:FuncData}
def jgf (CW CS:Addr):Sp:=fun vs H Q E=>∃ v dw x d,vs = [v,x]∧Rep H dw v∧RefW CW H E dw∧∀ ps ts,dw = webD ps ts→WebOk ps ts→Rep H d x∧NoHv d∧jdo d∧(fitB ps ts d = true→∀ H',Same H H'→Q .non H')∧(fitB ps ts d = false→Ref1 CS H E "at" (.int 0))
def jq8 (CW:Addr):Sp:=fun vs H Q E=>∃ v dw x d,vs = [v,x]∧Rep H dw v∧RefW CW H E dw∧∀ ps ts,dw = webD ps ts→WebOk ps ts→Rep H d x∧NoHv d∧jdo d∧∀ H',Same H H'→Q (.bl (fitB ps ts d)) H'
def jje (CW CS:Addr) (us:List V):Sp:=fun vs H Q E=>∃ v dw x d,vs = v :: x :: us∧Rep H dw v∧RefW CW H E dw∧∀ ps ts,dw = webD ps ts→WebOk ps ts→Rep H d x∧NoHv d∧jdo d∧fitB ps ts d = false∧Ref1 CS H E "at" (.int 0)
def jeb (CW CS:Addr):Sp:=fun vs H Q E=>∃ u,jje CW CS [u] vs H Q E
theorem jfl {f:Addr} {fd:FuncData} {C_NoStep f_NoStep C_TouchError:Addr} (DI:InitAt K "NoStep.__init__" (meth 3 0) ["self","at"] f fd) (X_NoStep:ClsX K mg "NoStep" C_NoStep f_NoStep) (m_TouchError:mg "TouchError" = some (.ref C_TouchError)) (xi:XI K C_TouchError "ValueError.__init__")
  (hf:PySem.W.findIn K (.ref C_NoStep) "at" = some none):FnOk P w K mg base CX0 1 f fd ["self","at"] (jjg C_NoStep "at"):=by
 have sc:FnScope ["self","at"] ["self","at"] (ja8 (meth 3 0)):=⟨rfl,rfl,rfl,by decide +kernel,rfl,by decide +kernel,by decide +kernel⟩
 refine DI.F.ok sc (fun vs H Q E h=>?_) (fun cdv A outer s H vs Q E hr h=>?_)
 ·obtain ⟨a,y,rfl,_⟩:=h
  rfl
 obtain ⟨a,y,rfl,ea,h⟩:=h
 refine ⟨_,(ja3 (jb8 (jkx PySem.F.excBase_ValueError xi X_NoStep.xin rfl m_TouchError (ja0 (qv 0) (ja0 (qv 1) ja2)))) (ja6 (jjn X_NoStep.a hf (qv 0) (qv 1) rfl))),?_⟩
 simp only [jel,je0,fLeT,fIsB,tSeq,jja,jjb,tRet,jlh,tIfS,tAsg,jf9,fAug,tOp,tUn,tC,fVar,fI,fIC,fNeg,fEq,fNe,fIsN,jk6,fAnd,fOr,fNot,fB,tNot,tAnd,tOr,jfb,fIx,fLen,jcp,fMin,fMax,fInL,fSlL,tSl,jk8,jd6,jcq,fBM,jiu,gSub,jh0,jdl,jgz,jm1,jg5,jeo,jek,fCat,jg6,fBM0,fSlT,jiv,tCBK,fDIn,jk9,fIsi,jd5,je4,fLtT,jjc,tCB,jdr,tNil,tTup,tLst,tIf,jj9,Kd.nm,L2.jd8,List.map_cons,List.map_nil,List.length_cons,List.length_nil,Nat.reduceAdd,Nat.reduceSub,List.replicate_succ,List.replicate_zero,List.getElem?_cons_zero,List.getElem?_cons_succ,List.set_cons_zero,List.set_cons_succ,List.append_nil,List.nil_append,List.cons_append,eq_self,true_and,and_true,if_true,Bool.false_eq_true,if_false,Bool.not_true,Bool.not_false,id_eq,sl0,sl1,sl2,sl3,sl4,tXI,sXF]
 refine ⟨a,[y],none,rfl,ea,(by show 1 ≤ sizeLine; decide),?_⟩
 exact ⟨a,rfl,.inl ⟨ea,fun dx hd ne=>h dx hd ne⟩⟩
theorem jex {f:Addr} {fd:FuncData} {f_look_at_web:Addr} {d_look_at_web:FuncData} {f_fits_known:Addr} {d_fits_known:FuncData} (B:Blt mg) (D:DefAt K mg "look_at_step" (top 65) ["web","thing"] f fd) (D_look_at_web:DefAt K mg "look_at_web" (top 30) ["thing"] f_look_at_web d_look_at_web) (G_look_at_web:FnOk P w K mg base (CXE P w) 5 f_look_at_web d_look_at_web ["thing"] (spLW C_NoWeb)) (D_fits_known:DefAt K mg "fits_known" (top 58) ["web","thing"] f_fits_known d_fits_known) (G_fits_known:FnOk P w K mg base CX0 4 f_fits_known d_fits_known ["web","thing"] spFK) {C_NoStep f_NoStep:Addr} {dS:FuncData} (X_NoStep:ClsX K mg "NoStep" C_NoStep f_NoStep) (DI_NoStep:InitAt K "NoStep.__init__" (meth 3 0) ["self","at"] f_NoStep dS) (GI_NoStep:FnOk P w K mg base CX0 1 f_NoStep dS ["self","at"] (jjg C_NoStep "at")):FnOk P w K mg base (CXE P w) 6 f fd ["web","thing"] (jgf C_NoWeb C_NoStep):=by
 have sc:FnScope ["web","thing"] ["web","thing"] (ja8 (top 65)):=⟨rfl,rfl,rfl,by decide +kernel,rfl,by decide +kernel,by decide +kernel⟩
 refine D.F.okX sc (fun vs H Q E h=>?_) (fun cdv A outer s H vs Q E hr h=>?_)
 ·obtain ⟨v,dw,x,d,rfl,_⟩:=h
  rfl
 obtain ⟨v,dw,x,d,rfl,hdw,hrw,h⟩:=h
 have hu:=jb5 hr
 have hu0:_ < PySem.cLine:=Nat.lt_of_succ_lt hu
 refine ⟨_,(ja3 (jb8 (jbj G_look_at_web (hr.mono (by decide)) rfl D_look_at_web.m D_look_at_web.F.kp D_look_at_web.b .nil (jfi ⟨rfl,rfl,rfl,fun _=>rfl⟩) (ja0 (qv 0) ja2))) (ja6 (jba (jc5 (jbm (jad G_fits_known (hr.mono (by decide)) rfl D_fits_known.m D_fits_known.F.kp D_fits_known.b .nil jap (ja0 (qv 0) (ja0 (qv 1) ja2))))) (ja6 (jcv PySem.F.excBase_ValueError X_NoStep.xin X_NoStep.fn GI_NoStep DI_NoStep.b (hr.mono (by decide)) rfl X_NoStep.m X_NoStep.kp ⟨rfl,rfl,rfl,fun _=>rfl⟩ jld (ja0 ja4 ja2))) jah))),?_⟩
 refine jaa fun R hR=>?_
 walk_at "RD"
 refine ⟨v,dw,rfl,hdw,fun e H1 s1=>?_,hrw⟩
 obtain ⟨ps,ts,rfl,wok⟩:=jez e
 obtain ⟨hd,nh,fit,hY,hN⟩:=h ps ts rfl wok
 have hw:=jmb hdw
 subst hR
 walk_at "RD"
 refine ⟨v,x,ps,ts,d,rfl,hw.same s1,wok,Rep.same s1 _ hd,nh,fit,fun H2 s2=>?_⟩
 cases c:fitB ps ts d with
 | true =>
  walk_at "RD"
  exact hY c _ (s1.trans s2)
 | false =>
  have hr2:=(hN c).back (s1.trans s2)
  simp_arith [jdd]
  exact fun y hy=>raise1 hy hr2
theorem jqv {f:Addr} {fd:FuncData} {f_look_at_web:Addr} {d_look_at_web:FuncData} {f_fits_known:Addr} {d_fits_known:FuncData} (B:Blt mg) (D:DefAt K mg "fits" (top 67) ["web","thing"] f fd) (D_look_at_web:DefAt K mg "look_at_web" (top 30) ["thing"] f_look_at_web d_look_at_web) (G_look_at_web:FnOk P w K mg base (CXE P w) 5 f_look_at_web d_look_at_web ["thing"] (spLW C_NoWeb)) (D_fits_known:DefAt K mg "fits_known" (top 58) ["web","thing"] f_fits_known d_fits_known) (G_fits_known:FnOk P w K mg base CX0 4 f_fits_known d_fits_known ["web","thing"] spFK):FnOk P w K mg base (CXE P w) 6 f fd ["web","thing"] (jq8 C_NoWeb):=by
 have sc:FnScope ["web","thing"] ["web","thing"] (ja8 (top 67)):=⟨rfl,rfl,rfl,by decide +kernel,rfl,by decide +kernel,by decide +kernel⟩
 refine D.F.okX sc (fun vs H Q E h=>?_) (fun cdv A outer s H vs Q E hr h=>?_)
 ·obtain ⟨v,dw,x,d,rfl,_⟩:=h
  rfl
 obtain ⟨v,dw,x,d,rfl,hdw,hrw,h⟩:=h
 have hu:=jb5 hr
 have hu0:_ < PySem.cLine:=Nat.lt_of_succ_lt hu
 refine ⟨_,(ja3 (jb8 (jbj G_look_at_web (hr.mono (by decide)) rfl D_look_at_web.m D_look_at_web.F.kp D_look_at_web.b .nil (jfi ⟨rfl,rfl,rfl,fun _=>rfl⟩) (ja0 (qv 0) ja2))) (ja6 (jag (jad G_fits_known (hr.mono (by decide)) rfl D_fits_known.m D_fits_known.F.kp D_fits_known.b .nil jap (ja0 (qv 0) (ja0 (qv 1) ja2)))))),?_⟩
 refine jaa fun R hR=>?_
 walk_at "RD"
 refine ⟨v,dw,rfl,hdw,fun e H1 s1=>?_,hrw⟩
 obtain ⟨ps,ts,rfl,wok⟩:=jez e
 obtain ⟨hd,nh,fit,h⟩:=h ps ts rfl wok
 have hw:=jmb hdw
 subst hR
 walk_at "RD"
 exact ⟨v,x,ps,ts,d,rfl,hw.same s1,wok,Rep.same s1 _ hd,nh,fit,fun H2 s2=>h _ (s1.trans s2)⟩
theorem jpb {f:Addr} {fd:FuncData} {f_look_at_step:Addr} {d_look_at_step:FuncData} (B:Blt mg) (D:DefAt K mg "after" (top 68) ["web","step"] f fd) (D_look_at_step:DefAt K mg "look_at_step" (top 65) ["web","thing"] f_look_at_step d_look_at_step) (G_look_at_step:FnOk P w K mg base (CXE P w) 6 f_look_at_step d_look_at_step ["web","thing"] (jgf C_NoWeb C_NoStep)):FnOk P w K mg base (CXE P w) 7 f fd ["web","step"] (jje C_NoWeb C_NoStep []):=by
 have sc:FnScope ["web","step"] ["web","step"] (ja8 (top 68)):=⟨rfl,rfl,rfl,by decide +kernel,rfl,by decide +kernel,by decide +kernel⟩
 refine D.F.okX sc (fun vs H Q E h=>?_) (fun cdv A outer s H vs Q E hr h=>?_)
 ·obtain ⟨v,dw,x,d,rfl,_⟩:=h
  rfl
 obtain ⟨v,dw,x,d,rfl,hdw,hrw,h⟩:=h
 have hu:=jb5 hr
 have hu0:_ < PySem.cLine:=Nat.lt_of_succ_lt hu
 refine ⟨_,(ja3 (jb8 (jbj G_look_at_step (hr.mono (by decide)) rfl D_look_at_step.m D_look_at_step.F.kp D_look_at_step.b .nil (jfi ⟨rfl,rfl,rfl,fun _=>rfl⟩) (ja0 (qv 0) (ja0 (qv 1) ja2)))) (ja6 jcw)),?_⟩
 refine jaa fun R hR=>?_
 walk_at "RD"
 refine ⟨v,dw,x,d,rfl,hdw,hrw,fun ps ts e wok=>?_⟩
 obtain ⟨hd,nh,fit,c,hN⟩:=h ps ts e wok
 exact ⟨hd,nh,fit,(fun z=>by rw [c] at z; cases z),fun _=>hN⟩
theorem jqw {f:Addr} {fd:FuncData} {f_look_at_step:Addr} {d_look_at_step:FuncData} (B:Blt mg) (D:DefAt K mg "back" (top 69) ["web","step","some"] f fd) (D_look_at_step:DefAt K mg "look_at_step" (top 65) ["web","thing"] f_look_at_step d_look_at_step) (G_look_at_step:FnOk P w K mg base (CXE P w) 6 f_look_at_step d_look_at_step ["web","thing"] (jgf C_NoWeb C_NoStep)):FnOk P w K mg base (CXE P w) 7 f fd ["web","step","some"] (jeb C_NoWeb C_NoStep):=by
 have sc:FnScope ["web","step","some"] ["web","step","some"] (ja8 (top 69)):=⟨rfl,rfl,rfl,by decide +kernel,rfl,by decide +kernel,by decide +kernel⟩
 refine D.F.okX sc (fun vs H Q E h=>?_) (fun cdv A outer s H vs Q E hr h=>?_)
 ·obtain ⟨u,v,dw,x,d,rfl,_⟩:=h
  rfl
 obtain ⟨u,v,dw,x,d,rfl,hdw,hrw,h⟩:=h
 have hu:=jb5 hr
 have hu0:_ < PySem.cLine:=Nat.lt_of_succ_lt hu
 refine ⟨_,(ja3 (jb8 (jbj G_look_at_step (hr.mono (by decide)) rfl D_look_at_step.m D_look_at_step.F.kp D_look_at_step.b .nil (jfi ⟨rfl,rfl,rfl,fun _=>rfl⟩) (ja0 (qv 0) (ja0 (qv 1) ja2)))) (ja3 jcw (ja6 jcw))),?_⟩
 refine jaa fun R hR=>?_
 walk_at "RD"
 refine ⟨v,dw,x,d,rfl,hdw,hrw,fun ps ts e wok=>?_⟩
 obtain ⟨hd,nh,fit,c,hN⟩:=h ps ts e wok
 exact ⟨hd,nh,fit,(fun z=>by rw [c] at z; cases z),fun _=>hN⟩
theorem jpa {f:Addr} {fd:FuncData} {f_look_at_step:Addr} {d_look_at_step:FuncData} (B:Blt mg) (D:DefAt K mg "forth" (top 70) ["web","step","some"] f fd) (D_look_at_step:DefAt K mg "look_at_step" (top 65) ["web","thing"] f_look_at_step d_look_at_step) (G_look_at_step:FnOk P w K mg base (CXE P w) 6 f_look_at_step d_look_at_step ["web","thing"] (jgf C_NoWeb C_NoStep)):FnOk P w K mg base (CXE P w) 7 f fd ["web","step","some"] (jeb C_NoWeb C_NoStep):=by
 have sc:FnScope ["web","step","some"] ["web","step","some"] (ja8 (top 70)):=⟨rfl,rfl,rfl,by decide +kernel,rfl,by decide +kernel,by decide +kernel⟩
 refine D.F.okX sc (fun vs H Q E h=>?_) (fun cdv A outer s H vs Q E hr h=>?_)
 ·obtain ⟨u,v,dw,x,d,rfl,_⟩:=h
  rfl
 obtain ⟨u,v,dw,x,d,rfl,hdw,hrw,h⟩:=h
 have hu:=jb5 hr
 have hu0:_ < PySem.cLine:=Nat.lt_of_succ_lt hu
 refine ⟨_,(ja3 (jb8 (jbj G_look_at_step (hr.mono (by decide)) rfl D_look_at_step.m D_look_at_step.F.kp D_look_at_step.b .nil (jfi ⟨rfl,rfl,rfl,fun _=>rfl⟩) (ja0 (qv 0) (ja0 (qv 1) ja2)))) (ja3 jcw (ja6 jcw))),?_⟩
 refine jaa fun R hR=>?_
 walk_at "RD"
 refine ⟨v,dw,x,d,rfl,hdw,hrw,fun ps ts e wok=>?_⟩
 obtain ⟨hd,nh,fit,c,hN⟩:=h ps ts e wok
 exact ⟨hd,nh,fit,(fun z=>by rw [c] at z; cases z),fun _=>hN⟩
end
end My
namespace My
open PySem L2
section
variable {P:Program} {w:World} {K:PySem.W.Frag} {mg:Str→Option Value} {base:Heap} {c1 c2 c3 c4:Tok} {C_NoWeb f_NoWeb:Addr} {dI:FuncData}
def sumP (ps:List (Int × Int)):Int:=(ps.map (·.2)).sum
theorem jbb (p:Int × Int) (ps:List (Int × Int)):sumP (p :: ps) = p.2 + sumP ps:=by
 unfold sumP
 rw [List.map_cons,List.sum_cons]
theorem PlOk.pos:∀ {ps:List (Int × Int)} {l s:Int},PlOk l s ps→∀ p ∈ ps,1 ≤ p.2∧p.1 ≤ 999
 | [],_,_,_,_,h=>by cases h
 | q :: r,l,s,h,p,hp=>by
  rcases List.mem_cons.mp hp with e | hp
  ·rw [e]; exact ⟨h.1.2.2.1,h.1.2.1⟩
  ·exact PlOk.pos h.2 p hp
theorem jml:∀ {ps:List (Int × Int)},(∀ p ∈ ps,1 ≤ p.2)→0 ≤ sumP ps
 | [],_=>Int.le_refl 0
 | p :: r,h=>by
  rw [jbb]
  have:=h p (List.mem_cons_self ..)
  have:=jml (ps:=r) fun q hq=>h q (List.mem_cons_of_mem _ hq)
  omega
theorem jgd:∀ {zs ys:List Int},zs.Sublist ys→(∀ y ∈ ys,1 ≤ y)→0 ≤ zs.sum∧zs.sum ≤ ys.sum∧∀ z ∈ zs,1 ≤ z∧z ≤ zs.sum
 | _,_,.slnil,_=>⟨Int.le_refl _,Int.le_refl _,fun z h=>by cases h⟩
 | _,_,.cons (l₂:=r) y h,p=>by
  obtain ⟨h0,h1,h2⟩:=jgd h fun q hq=>p q (List.mem_cons_of_mem _ hq)
  have:=p y (List.mem_cons_self ..)
  rw [List.sum_cons]
  exact ⟨h0,by omega,h2⟩
 | _,_,.cons₂ (l₁:=l) (l₂:=r) y h,p=>by
  obtain ⟨h0,h1,h2⟩:=jgd h fun q hq=>p q (List.mem_cons_of_mem _ hq)
  have:=p y (List.mem_cons_self ..)
  rw [List.sum_cons,List.sum_cons]
  refine ⟨by omega,by omega,fun z hz=>?_⟩
  rcases List.mem_cons.mp hz with e | hz
  ·rw [e]; omega
  ·have:=h2 z hz
   omega
theorem jfd:∀ (ps:List (Int × Int)),jce (ps.map jcg) ≤ 1
 | []=>by decide
 | p :: r=>by
  have:=jfd r
  simp only [List.map_cons,jce,jcg,depP]
  omega
end
end My
namespace My
open PySem L2
section
variable {P:Program} {w:World} {K:PySem.W.Frag} {mg:Str→Option Value} {base:Heap} {c1 c2 c3 c4:Tok} {C_NoWeb f_NoWeb:Addr} {dI:FuncData}
theorem TiOk.of {kvs:List (Key × V)}:∀ {qs:List (Int × Int)} {q:Int × Int},(∀ t ∈ qs,q.1 < t.1 ∨ (q.1 = t.1∧q.2 < t.2))→qs.Pairwise jly→qs.Nodup→(∀ t ∈ qs,t.1 < t.2∧hasK kvs t.1 = true∧hasK kvs t.2 = true)→TiOk kvs q qs
 | [],_,_,_,_,_=>trivial
 | p :: r,q,h1,h2,h3,h4=>by
  rw [List.pairwise_cons] at h2
  rw [List.nodup_cons] at h3
  refine ⟨⟨?_,h4 p (.head _)⟩,TiOk.of (fun t m=>?_) h2.2 h3.2 fun t m=>h4 t (.tail _ m)⟩
  ·rcases h1 p (.head _) with c | ⟨c,d⟩
   ·exact lex_lt c
   ·rw [c]; exact lex_eq d
  ·have z:=h2.1 t m
   unfold jly at z
   by_cases c:p.1 = t.1
   ·have ne:p.2 ≠ t.2:=fun d=>h3.1 (by rw [show p = t from Prod.ext c d]; exact m)
    omega
   ·omega
theorem jpg {a b c d:Int} (h:HT.lexLt [a,b] [c,d] = true):a < c ∨ (a = c∧b < d):=by
 rw [HT.lexLt_cons] at h
 by_cases e:a = c
 ·rw [if_pos e,HT.lexLt_cons] at h
  by_cases e2:b = d
  ·rw [if_pos e2] at h
   cases h
  ·rw [if_neg e2] at h
   exact .inr ⟨e,of_decide_eq_true h⟩
 ·rw [if_neg e] at h
  exact .inl (of_decide_eq_true h)
theorem TiOk.gt {kvs:List (Key × V)}:∀ {ts:List (Int × Int)} {q:Int × Int},TiOk kvs q ts→∀ t ∈ ts,q.1 < t.1 ∨ (q.1 = t.1∧q.2 < t.2)
 | p :: r,q,⟨h,u⟩,t,m=>by
  have:=jpg h.1
  rcases List.mem_cons.mp m with rfl | m
  ·exact this
  ·have:=TiOk.gt u t m
   omega
theorem Dr.le:∀ {ps:List (Int × Int)} {l:Int},Dr l ps→(∀ p ∈ ps,p.1 ≤ l + 23 * ps.length)∧sumP ps ≤ 1000000000 * ps.length
 | [],_,_=>⟨fun _ h=>(by cases h),by decide⟩
 | q :: r,l,h=>by
  obtain ⟨h1,h2⟩:=Dr.le h.2
  have e:((q :: r).length:Int) = r.length + 1:=by simp
  rw [e,jbb]
  have:=h.1
  refine ⟨fun p hp=>?_,by omega⟩
  rcases List.mem_cons.mp hp with z | hp
  ·rw [z]; omega
  ·have:=h1 p hp
   omega
theorem jdw {α β:Type} {F:α→β→Prop}:∀ {a:List α} {b:List β} {c:List α} {d:List β},Paired F a b→Paired F c d→Paired F (a ++ c) (b ++ d)
 | _,_,_,_,.nil,h=>h
 | _,_,_,_,.cons r t,h=>.cons r (jdw t h)
end
end My
namespace My
open PySem L2
section
variable {P:Program} {w:World} {K:PySem.W.Frag} {mg:Str→Option Value} {base:Heap} {c1 c2 c3 c4:Tok} {C_NoWeb f_NoWeb:Addr} {dI:FuncData}
theorem putK_new {κ:Type} [DecidableEq κ]:∀ {kvs:List (κ × V)} {k:κ} {v:V},k ∉ kvs.map (·.1)→putK kvs k v = kvs ++ [(k,v)]
 | [],k,v,_=>by simp [putK]
 | (a,b) :: r,k,v,h=>by
  have h1:k ≠ a:=fun z=>h (by rw [z]; exact .head _)
  have h2:k ∉ r.map (·.1):=fun z=>h (.tail _ z)
  have ih:=putK_new (v:=v) h2
  unfold putK at ih ⊢
  simp only [List.any_cons,List.map_cons,List.cons_append]
  first
   | (split at ih <;> split <;> simp_all)
   | simp_all
variable {C_NoStep f_NoStep:Addr}
theorem jmm:∀ {a b:List Int},a.Nodup→(∀ x ∈ a,x ∈ b)→a.length ≤ b.length
 | [],_,_,_=>Nat.zero_le _
 | x :: r,b,h,hs=>by
  rw [List.nodup_cons] at h
  have hx:=hs x (List.mem_cons_self ..)
  have:=jmm (b:=b.erase x) h.2 fun y hy=>by
   have ne:y ≠ x:=fun e=>h.1 (e ▸ hy)
   exact (List.mem_erase_of_ne ne).mpr (hs y (List.mem_cons_of_mem _ hy))
  rw [List.length_erase_of_mem hx] at this
  have:0 < b.length:=List.length_pos_of_mem hx
  rw [List.length_cons]
  omega
theorem jg1 (t:Int × Int) (r:List (Int × Int)) (n:Int):jab (t :: r) n = nr n t ++ jab r n:=by
 unfold jab
 rw [List.flatMap_cons]
theorem jf0 {kvs:List (Key × V)} {n:Int}:∀ {ts:List (Int × Int)} {q:Int × Int},TiOk kvs q ts→(jab ts n).Pairwise (· < ·)
 | [],_,_=>List.Pairwise.nil
 | t :: r,q,h=>by
  have ih:=jf0 (n:=n) h.2
  have lt:∀ t ∈ r,t.1 < t.2:=fun t ht=>(TiOk.ats h.2 t ht).1
  rw [jg1,List.pairwise_append]
  refine ⟨?_,ih,fun a ha b hb=>?_⟩
  ·unfold nr
   split
   ·exact List.pairwise_singleton _ _
   ·split
    ·exact List.pairwise_singleton _ _
    ·exact List.Pairwise.nil
  ·have hb':=(jed lt).mp hb
   have h1:=h.1.2.1
   unfold nr at ha
   split at ha
   ·rename_i c
    rw [List.mem_singleton] at ha
    rcases hb' with g | g
    ·have g1:=TiOk.gt h.2 _ g
     simp only at g1
     omega
    ·have g1:=TiOk.gt h.2 _ g
     have g2:=lt _ g
     simp only at g1 g2
     omega
   ·split at ha
    ·rename_i c1 c
     rw [List.mem_singleton] at ha
     rcases hb' with g | g
     ·have g1:=TiOk.gt h.2 _ g
      have g2:=lt _ g
      simp only at g1 g2
      omega
     ·have g1:=TiOk.gt h.2 _ g
      have g2:=lt _ g
      simp only at g1 g2
      omega
    ·cases ha
def lowN (ts:List (Int × Int)) (n:Int):List Int:=(ts.filter fun t=>decide (t.2 = n)).map (·.1)
def higN (ts:List (Int × Int)) (n:Int):List Int:=(ts.filter fun t=>decide (t.1 = n)).map (·.2)
theorem jii {n:Int}:∀ {ts:List (Int × Int)},(∀ t ∈ ts,t.1 < t.2)→(lowN ts n ++ higN ts n).Perm (jab ts n)
 | [],_=>List.Perm.refl _
 | t :: r,h=>by
  have ih:=jii (n:=n) fun t ht=>h t (List.mem_cons_of_mem _ ht)
  have h1:=h t (List.mem_cons_self ..)
  rw [jg1]
  unfold nr
  by_cases c1:t.1 = n
  ·have c2:¬ t.2 = n:=by omega
   rw [if_pos c1]
   have e1:lowN (t :: r) n = lowN r n:=by unfold lowN; rw [List.filter_cons,if_neg (by simpa using c2)]
   have e2:higN (t :: r) n = t.2 :: higN r n:=by unfold higN; rw [List.filter_cons,if_pos (by simpa using c1)]; rfl
   rw [e1,e2]
   exact List.perm_middle.trans (ih.cons _)
  ·rw [if_neg c1]
   have e2:higN (t :: r) n = higN r n:=by unfold higN; rw [List.filter_cons,if_neg (by simpa using c1)]
   by_cases c2:t.2 = n
   ·rw [if_pos c2]
    have e1:lowN (t :: r) n = t.1 :: lowN r n:=by unfold lowN; rw [List.filter_cons,if_pos (by simpa using c2)]; rfl
    rw [e1,e2]
    exact ih.cons _
   ·rw [if_neg c2]
    have e1:lowN (t :: r) n = lowN r n:=by unfold lowN; rw [List.filter_cons,if_neg (by simpa using c2)]
    rw [e1,e2]
    exact ih
theorem jhu:∀ {a b:List Int},a.Perm b→a.Pairwise (· ≤ ·)→b.Pairwise (· < ·)→a = b
 | [],b,p,_,_=>(List.nil_perm.mp p).symm
 | x :: r,[],p,_,_=>by cases (List.perm_nil.mp p)
 | x :: r,y :: t,p,ha,hb=>by
  rw [List.pairwise_cons] at ha hb
  have e:x = y:=by
   have h1:x ∈ y :: t:=p.mem_iff.mp (List.mem_cons_self ..)
   have h2:y ∈ x :: r:=p.mem_iff.mpr (List.mem_cons_self ..)
   rcases List.mem_cons.mp h1 with e | h1
   ·exact e
   ·rcases List.mem_cons.mp h2 with e | h2
    ·exact e.symm
    ·have:=ha.1 y h2
     have:=hb.1 x h1
     omega
  subst e
  rw [jhu (List.Perm.cons_inv p) ha.2 hb.2]
theorem jlt {ps ts:List (Int × Int)} (wok:WebOk ps ts) (n:Int):(jab ts n).Nodup:=(jf0 wok.t).imp fun h=>by omega
theorem jr0 {ps ts:List (Int × Int)} (wok:WebOk ps ts) (n:Int):(jab ts n).length ≤ ps.length:=by
 have:=jmm (b:=ps.map (·.1)) (jlt wok n) fun x hx=>jda wok hx
 rwa [List.length_map] at this
def jht:Sp:=fun vs H Q _=>∃ v ps ts,vs = [v]∧jch H v ps ts∧WebOk ps ts∧∀ d H',H d = none→Same H H'→H' d = some (.dK (jbe ps))→Q (.ref d) H'
def jmo:Sp:=fun vs H Q _=>∃ v n ps ts,vs = [v,.int n]∧jch H v ps ts∧WebOk ps ts∧∀ l H',H l = none→Same H H'→H' l = some (.lst ((jab ts n).map V.int))→Q (.ref l) H'
def jkp:Sp:=fun vs H Q _=>∃ v x ps ts d,vs = [v,x]∧jch H v ps ts∧WebOk ps ts∧Rep H d x∧NoHv d∧jdo d∧fitB ps ts d = false∧∀ H',Same H H'→Q (.bl true) H'
theorem jgm {f:Addr} {fd:FuncData}  (B:Blt mg) (D:DefAt K mg "_law_prices" (top 78) ["_law_web"] f fd):FnOk P w K mg base CX0 1 f fd ["_law_web"] jht:=by
 have sc:FnScope ["_law_web","_law_prices_here","_law_place","_law_price"] ["_law_web"] (ja8 (top 78)):=⟨rfl,rfl,rfl,by decide +kernel,rfl,by decide +kernel,by decide +kernel⟩
 refine D.F.ok sc (fun vs H Q E h=>?_) (fun cdv A outer s H vs Q E hr h=>?_)
 ·obtain ⟨v,ps,ts,rfl,_⟩:=h
  rfl
 obtain ⟨v,ps,ts,rfl,hw,wok,h⟩:=h
 obtain ⟨u,pa,ta,xs,ys,rfl,eu,ep,et,pp,pt⟩:=id hw
 have hlx:xs.length = ps.length:=Paired.length pp
 have hnd:=wok.p.nodup
 have hpl:=wok.pl
 have hu:=jb5 hr
 have hu0:_ < PySem.cLine:=Nat.lt_of_succ_lt hu
 refine ⟨_,(ja3 (jal (i:=1) sc.nd rfl (Or.inl rfl) jp9) (ja3 (jcl PassesOwn.never rfl (jb0 (jaq q_ix (qv 0) ja4 (fun _ _=>rfl))) (jcj (n:=2) rfl (jan (jaf (i:=2) sc.nd rfl (Or.inl rfl)) (jan (jaf (i:=3) sc.nd rfl (Or.inl rfl)) jbr))) (ja6 (q_dput hu (qv 1) (qv 2) (qv 3)))) (ja6 (jag (qv 1))))),?_⟩
 refine jaa fun R hR=>?_
 walk_at "RD"
 intro d hd
 have s1:=ja5 hd (.dK [])
 have ed:upd H d (.dK []) d = some (.dK []):=ja1
 generalize upd H d (.dK []) = H1 at s1 ed
 walk_at "RD"
 subst hR
 refine jaa fun R hR=>?_
 refine jbq (Itl K pa) H1 (fun R' hR'=>?_) (jcd (K:=K) (a:=pa) (xs:=xs) (fun i σ H2=>∃ v1 v2,σ = [some (.ref u),some (.ref d),v1,v2]∧Same H H2∧H2 d = some (.dK (jbe (ps.take i)))) ⟨none,none,rfl,s1,ed⟩ (fun i σ H2 _ ⟨_,_,_,s2,_⟩=>SqL.of (s2 _ _ ep)) ?_ ?_)
 ·unfold jc8
  simp_arith [jam,s1 _ _ eu,at0]
  exact ⟨pa,rfl,⟨_,SqL.of (s1 _ _ ep)⟩,hR'⟩
 ·rintro i x σ H2 hx ⟨v1,v2,rfl,s2,ed2⟩
  obtain ⟨p,hp,px⟩:=jao pp hx
  obtain ⟨t,rfl,ht⟩:=px.same s2
  have hil:=(List.getElem?_eq_some_iff.mp hp).1
  have hnew:(Sum.inl p.1:Key) ∉ (jbe (ps.take i)).map (·.1):=by
   unfold jbe
   rw [List.map_map]
   intro hm
   obtain ⟨q,hq,e⟩:=List.mem_map.mp hm
   have e':q.1 = p.1:=Sum.inl.inj e
   obtain ⟨j,hj⟩:=List.getElem?_of_mem hq
   have hjl:j < i:=by
    have:=(List.getElem?_eq_some_iff.mp hj).1
    rw [List.length_take] at this
    omega
   rw [List.getElem?_take,if_pos hjl] at hj
   have:=wok.p.rise _ _ _ _ hjl hj hp
   omega
  simp_arith [ht,ed2,putK_new hnew]
  have hl2:(jbe (ps.take i)).length ≤ 40:=by
   unfold jbe
   rw [List.length_map,List.length_take]
   omega
  refine ⟨by first | exact szl' (by omega) | exact szl (by omega),_,_,rfl,jaz s2 hd,?_⟩
  rw [jaj hp]
  unfold jbe
  rw [List.map_append]
  exact ja1
 ·rintro σ H2 ⟨v1,v2,rfl,s2,ed2⟩
  rw [hlx,List.take_length] at ed2
  subst hR
  walk_at "RD"
  exact h d H2 hd s2 ed2
theorem jjv {f:Addr} {fd:FuncData}  (B:Blt mg) (D:DefAt K mg "_law_near" (top 79) ["_law_web","_law_place"] f fd):FnOk P w K mg base CX0 1 f fd ["_law_web","_law_place"] jmo:=by
 have sc:FnScope ["_law_web","_law_place","_law_some"] ["_law_web","_law_place"] (ja8 (top 79)):=⟨rfl,rfl,rfl,by decide +kernel,rfl,by decide +kernel,by decide +kernel⟩
 refine D.F.ok sc (fun vs H Q E h=>?_) (fun cdv A outer s H vs Q E hr h=>?_)
 ·obtain ⟨v,n,ps,ts,rfl,_⟩:=h
  rfl
 obtain ⟨v,n,ps,ts,rfl,hw,wok,h⟩:=h
 obtain ⟨u,pa,ta,xs,ys,rfl,eu,ep,et,pp,pt⟩:=id hw
 have hly:ys.length = ts.length:=Paired.length pt
 have htl:=wok.tl
 have hpl:=wok.pl
 have s0:=Same.refl H
 have hu:=jb5 hr
 have hu0:_ < PySem.cLine:=Nat.lt_of_succ_lt hu
 refine ⟨_,(ja3 (jjo (i:=2) sc.nd rfl (Or.inl rfl) (CpScope.of (N:=["_law_one","_law_other","_law_place"]) (src:=[none,none,some 1]) (by rfl)) rfl (jb0 (jaq q_ix (qv 0) ja4 (fun _ _=>rfl))) (fun _ _ _ _=>(jcj (n:=2) rfl (jan (jaf (i:=0) (jai (l:=["_law_one","_law_other","_law_place"]) (by rfl)) rfl (Or.inl rfl)) (jan (jaf (i:=1) (jai (l:=["_law_one","_law_other","_law_place"]) (by rfl)) rfl (Or.inl rfl)) jbr)))) (fun _ _ _ _=>(jn6 (jav q_eq (qv 1) (qv 2) (jae _)))) (fun _ _ _ _=>(qv 0))) (ja6 (jag (jac jm2 rfl B.sorted PyProof.Rows.boot_sorted (ja0 (jar jp4 (qv 2) (jc3 (CpScope.of (N:=["_law_one","_law_other","_law_place"]) (src:=[none,none,some 1]) (by rfl)) rfl (jb0 (jaq q_ix (qv 0) ja4 (fun _ _=>rfl))) (fun _ _ _ _=>(jcj (n:=2) rfl (jan (jaf (i:=0) (jai (l:=["_law_one","_law_other","_law_place"]) (by rfl)) rfl (Or.inl rfl)) (jan (jaf (i:=1) (jai (l:=["_law_one","_law_other","_law_place"]) (by rfl)) rfl (Or.inl rfl)) jbr)))) (fun _ _ _ _=>(jn6 (jav q_eq (qv 0) (qv 2) (jae _)))) (fun _ _ _ _=>(qv 1)))) ja2))))),?_⟩
 refine jaa fun R hR=>?_
 refine jb4 (Itl K ta) H (fun R' hR'=>?_) (fun z1 hzz1=>jb9 ts.length (fun j σ' Hc=>∃ w1 w2,σ' = [w1,w2,some (.int n)]∧Same H Hc∧Hc z1 = some (.lst ((lowN (ts.take j) n).map V.int))) ⟨none,none,rfl,ja5 hzz1 _,ja1⟩ ?_ ?_)
 ·unfold jc8
  simp_arith [jam,s0 _ _ eu,at1]
  exact ⟨ta,rfl,⟨_,SqL.of (s0 _ _ et)⟩,hR'⟩
 ·rintro j σ' Hc hj ⟨w1,w2,rfl,s4,ez⟩
  have z1:SqL K Hc ta ys:=SqL.of (s4 _ _ (s0 _ _ et))
  have x1:ys[j]? = some (ys[j]'(by omega)):=List.getElem?_eq_getElem _
  refine ⟨⟨_,_,z1,x1⟩,?_⟩
  rintro y H' ⟨rfl,hy⟩
  obtain ⟨q,hq,pq⟩:=jao pt (hy _ z1)
  obtain ⟨t,rfl,ht⟩:=pq.same (s0.trans s4)
  have hzl:((lowN (ts.take j) n).map V.int).length ≤ 120:=by
   unfold lowN
   rw [List.length_map,List.length_map]
   exact Nat.le_trans (List.length_filter_le _ _) (by rw [List.length_take]; omega)
  simp_arith [ht]
  have e2:lowN (ts.take (j + 1)) n = lowN (ts.take j) n ++ (if q.2 = n then [q.1] else []):=by
   unfold lowN
   rw [jaj hq,List.filter_append,List.map_append]
   congr 1
   by_cases c:q.2 = n <;> simp [c]
  by_cases c:q.2 = n
  ·rw [if_pos c] at e2
   simp only [c,decide_true,if_true]
   refine ⟨_,ez,szl' (by omega),_,_,rfl,jaz s4 hzz1,?_⟩
   rw [ja1,e2,List.map_append]
   rfl
  ·rw [if_neg c,List.append_nil] at e2
   simp only [c,decide_false,Bool.false_eq_true,if_false]
   exact ⟨_,_,rfl,s4,by rw [e2]; exact ez⟩
 rintro σ' H1 ⟨w1,w2,rfl,s1,ez⟩
 refine ⟨⟨_,SqL.of (s1 _ _ et),by omega⟩,?_⟩
 rw [List.take_length] at ez
 walk_at "RD"
 subst hR
 walk_at "RD"
 refine jb4 (Itl K ta) H1 (fun R' hR'=>?_) (fun z2 hzz2=>jb9 ts.length (fun j σ' Hc=>∃ w1 w2,σ' = [w1,w2,some (.int n)]∧Same H1 Hc∧Hc z2 = some (.lst ((higN (ts.take j) n).map V.int))) ⟨none,none,rfl,ja5 hzz2 _,ja1⟩ ?_ ?_)
 ·unfold jc8
  simp_arith [jam,s1 _ _ eu,at1]
  exact ⟨ta,rfl,⟨_,SqL.of (s1 _ _ et)⟩,hR'⟩
 ·rintro j σ' Hc hj ⟨w1,w2,rfl,s4,ez⟩
  have z1:SqL K Hc ta ys:=SqL.of (s4 _ _ (s1 _ _ et))
  have x1:ys[j]? = some (ys[j]'(by omega)):=List.getElem?_eq_getElem _
  refine ⟨⟨_,_,z1,x1⟩,?_⟩
  rintro y H' ⟨rfl,hy⟩
  obtain ⟨q,hq,pq⟩:=jao pt (hy _ z1)
  obtain ⟨t,rfl,ht⟩:=pq.same (s1.trans s4)
  have hzl:((higN (ts.take j) n).map V.int).length ≤ 120:=by
   unfold higN
   rw [List.length_map,List.length_map]
   exact Nat.le_trans (List.length_filter_le _ _) (by rw [List.length_take]; omega)
  simp_arith [ht]
  have e2:higN (ts.take (j + 1)) n = higN (ts.take j) n ++ (if q.1 = n then [q.2] else []):=by
   unfold higN
   rw [jaj hq,List.filter_append,List.map_append]
   congr 1
   by_cases c:q.1 = n <;> simp [c]
  by_cases c:q.1 = n
  ·rw [if_pos c] at e2
   simp only [c,decide_true,if_true]
   refine ⟨_,ez,szl' (by omega),_,_,rfl,jaz s4 hzz2,?_⟩
   rw [ja1,e2,List.map_append]
   rfl
  ·rw [if_neg c,List.append_nil] at e2
   simp only [c,decide_false,Bool.false_eq_true,if_false]
   exact ⟨_,_,rfl,s4,by rw [e2]; exact ez⟩
 rintro σ' H2 ⟨w3,w4,rfl,s2,ez2⟩
 have s12:=s1.trans s2
 refine ⟨⟨_,SqL.of (s12 _ _ et),by omega⟩,?_⟩
 rw [List.take_length] at ez2
 have prm:=jii (n:=n) (fun t ht=>(TiOk.ats wok.t t ht).1)
 have hle:=jr0 wok n
 have hpe:=prm.length_eq
 rw [List.length_append] at hpe
 simp_arith [s2 _ _ ez,ez2,← List.map_append]
 refine ⟨szl (by rw [List.length_map,List.length_map]; omega),?_⟩
 intro c hc
 refine ⟨c,lowN ts n ++ higN ts n,rfl,(by rw [ja1,List.map_append]),by rw [List.length_append]; omega,fun l ms hl pm pw=>?_⟩
 have:=jhu (pm.trans prm) pw (jf0 wok.t)
 subst this
 exact h l _ ((s12.trans (ja5 hc _)).free hl) (s12.trans ((ja5 hc _).trans (ja5 hl _))) ja1
end
end My
namespace L2
open PySem PySem.Spec PyProof.Rows
abbrev ZpF (h:Heap) (z TI TO:Addr) (f0:Value) (f1:Bool):Prop:=h.get? z = some { cls:=.type "zip",data:=.fields #[f0,.bool f1,.bool false,.ref TI,.ref TO] }
def FrV (f0:Value):Prop:=f0 = .none ∨ ∃ n:Int,f0 = rawInt n
section
variable {prog:Program} {w:World} {A:Around} {E:Value→Shared→Prop} {s:Shared}
theorem jdq {a:Addr} {Q:Option Obj→Shared→Prop} (h:Q (s.heap.get? a) s):wpAny (model prog w) A (loadIfAlive a) Q E s:=by
 intro Γ p hΓ
 unfold loadIfAlive
 rw [Sem.wp_loadIfAlive]
 exact h
theorem jm9 {z TI TO:Addr} {f0:Value} {f1:Bool} {Q:Bool→Shared→Prop} (hz:ZpF s.heap z TI TO f0 f1) (hf:FrV f0) (h1:Q true s) (h2:∀ h',ZpF h' z TI TO f0 true→Heap.SameBut z s.heap h'→Q false { s with heap:=h' }) :
  wpAny (model prog w) A (Builtin.SmallTypes.ownedTupleIsFree (.ref z)) Q E s:=by
 unfold Builtin.SmallTypes.ownedTupleIsFree
 refine wpAny_bind (wpAny_field hz rfl (x:=f0) rfl ?_)
 rcases hf with rfl | ⟨n,rfl⟩
 ·exact wpAny_pure h1
 ·unfold rawInt
  refine wpAny_bind (jdq ?_)
  cases c:s.heap.get? n.toNat with
  | none=>exact wpAny_pure h1
  | some o =>
   refine wpAny_bind (wpAny_field hz rfl (x:=.bool f1) rfl ?_)
   cases f1 with
   | true=>exact wpAny_pure (h2 s.heap hz (Heap.SameBut.refl _ _))
   | false=>exact wpAny_bind (wpAny_setField_rec hz (by simp) fun g1 hzA sA=>wpAny_pure (h2 g1 hzA sA))
theorem jhb {b:Bool} {z TI TO i1 i2 l1 l2:Addr} {k1 k2:Nat} {xs ys:Array Value} {x y v0 v1 f0:Value} {f1:Bool} {Q:Value→Shared→Prop} (D:ZipApart z TI TO i1 i2 l1 l2)
  (hz:ZpF s.heap z TI TO f0 f1) (hf:FrV f0) (hTI:IsPair s.heap TI (.ref i1) (.ref i2)) (hTO:IsPair s.heap TO v0 v1)
  (h1:jb6 b s.heap i1 l1 k1) (h2:jb6 b s.heap i2 l2 k2) (hl1:IsSq b s.heap l1 xs) (hl2:IsSq b s.heap l2 ys) (hx:xs[k1]? = some x) (hy:ys[k2]? = some y)
  (hQ:∀ h' f0 f1,FrV f0→ZpF h' z TI TO f0 f1→(∃ u v,IsPair h' TO u v)→jb6 b h' i1 l1 (k1 + 1)→jb6 b h' i2 l2 (k2 + 1)→IsPair h' s.heap.objs.size x y →
   (∀ c o,c ≠ z→c ≠ TO→c ≠ i1→c ≠ i2→s.heap.get? c = some o→h'.get? c = some o)→Q (.ref s.heap.objs.size) { s with heap:=h' }) :
  wpAny (model prog w) A (Builtin.«zip.__next__» ⟨[.ref z],[]⟩) (fun fin s'=>∃ v,fin = .done (.ret v)∧Q v s') E s:=by
 show wpAny _ _ (field (.ref z) 2 >>= _) _ _ _
 refine wpAny_bind (wpAny_field hz rfl (x:=.bool false) rfl ?_)
 show wpAny _ _ (field (.ref z) 3 >>= _) _ _ _
 refine wpAny_bind (wpAny_field hz rfl (x:=.ref TI) rfl ?_)
 refine wpAny_bind (wpAny_seqItems hTI rfl ?_)
 show wpAny _ _ (Builtin.SmallTypes.ownedTupleIsFree (.ref z) >>= _) _ _ _
 refine wpAny_bind (jm9 hz hf ?_ fun g0 hz0 s0=>?_)
 ·simp only [if_true]
  refine wpAny_bind (wpAny_rule ?_)
  refine wpAny_bind (wpAny_field hz rfl (x:=.ref TO) rfl ?_)
  refine wpAny_bind (wpAny_setField_rec hz (by simp) fun g1 hzA sA=>?_)
  replace hzA:ZpF g1 z TI TO .ellipsis f1:=hzA
  refine wpAny_bind ?_
  simp only [List.zipIdx_cons,List.zipIdx_nil,List.forIn_cons,List.forIn_nil]
  refine wpAny_bind (wpAny_bind (wpAny_onRaise ?_))
  show wpAny _ _ (Builtin.SmallTypes.nextOf (.ref i1) >>= _) _ _ _
  refine wpAny_bind (jc6 (b:=b) (h1.at' fun o e=>sA.extBut _ o D.i1z e) (hl1.at' fun o e=>sA.extBut _ o D.l1z e) hx fun g2 h1B sB=>wpAny_pure ?_)
  have TOB:IsPair g2 TO v0 v1:=sB.extBut _ _ D.TOi1 (sA.extBut _ _ D.TOz hTO)
  refine wpAny_bind (wpAny_seqItems TOB rfl ?_)
  refine wpAny_bind (wpAny_updateSeq_pair TOB fun g3 TOC sC=>?_)
  replace TOC:IsPair g3 TO x v1:=TOC
  refine wpAny_bind (wpAny_letGo (wpAny_pure ?_))
  refine wpAny_bind (wpAny_bind (wpAny_onRaise ?_))
  show wpAny _ _ (Builtin.SmallTypes.nextOf (.ref i2) >>= _) _ _ _
  refine wpAny_bind (jc6 (b:=b) (h2.at' fun o e=>sC.extBut _ o D.TOi2.symm (sB.extBut _ o D.i12.symm (sA.extBut _ o D.i2z e))) (hl2.at' fun o e=>sC.extBut _ o D.l2TO (sB.extBut _ o D.l2i1 (sA.extBut _ o D.l2z e))) hy fun g4 h2D sD=>wpAny_pure ?_)
  have TOD:IsPair g4 TO x v1:=sD.extBut _ _ D.TOi2 TOC
  refine wpAny_bind (wpAny_seqItems TOD rfl ?_)
  refine wpAny_bind (wpAny_updateSeq_pair TOD fun g5 TOE sE=>?_)
  replace TOE:IsPair g5 TO x y:=TOE
  refine wpAny_bind (wpAny_letGo (wpAny_pure (wpAny_pure ?_)))
  refine wpAny_bind (wpAny_seqItems TOE rfl ?_)
  refine wpAny_bind (wpAny_newTuple ?_)
  have hsz:g5.objs.size = s.heap.objs.size:=by rw [sE.1,sD.1,sC.1,sB.1,sA.1]
  have hzE:ZpF g5 z TI TO .ellipsis f1:=sE.extBut _ _ D.TOz.symm (sD.extBut _ _ D.i2z.symm (sC.extBut _ _ D.TOz.symm (sB.extBut _ _ D.i1z.symm hzA)))
  have hkE:∀ c o,c ≠ z→c ≠ TO→c ≠ i1→c ≠ i2→s.heap.get? c = some o→g5.get? c = some o:=fun c o c1 c2 c3 c4 e=>sE.extBut _ _ c2 (sD.extBut _ _ c4 (sC.extBut _ _ c2 (sB.extBut _ _ c3 (sA.extBut _ _ c1 e))))
  have h1E:jb6 b g5 i1 l1 (k1 + 1):=h1B.at' fun o e=>sE.extBut _ o D.TOi1.symm (sD.extBut _ o D.i12 (sC.extBut _ o D.TOi1.symm e))
  have h2E:jb6 b g5 i2 l2 (k2 + 1):=h2D.at' fun o e=>sE.extBut _ o D.TOi2.symm e
  have zlt:z < g5.objs.size:=Heap.lt_size hzE
  show wpAny _ _ (Builtin.SmallTypes.ownedTupleHandOut (.ref z) (.ref g5.objs.size) >>= _) _ _ _
  refine wpAny_bind ?_
  unfold Builtin.SmallTypes.ownedTupleHandOut
  have hzF:ZpF (g5.push { cls:=.type "tuple",data:=.seq #[x,y] }) z TI TO .ellipsis f1:=Heap.get?_push_of_some _ hzE
  refine wpAny_bind (wpAny_setField_rec hzF (by simp) fun g7 hzG sG=>?_)
  replace hzG:ZpF g7 z TI TO (rawInt g5.objs.size) f1:=hzG
  refine wpAny_setField_rec hzG (by simp) fun g8 hzI sI=>?_
  replace hzI:ZpF g8 z TI TO (rawInt g5.objs.size) false:=hzI
  have up:∀ c o,c ≠ z→g5.get? c = some o→g8.get? c = some o:=fun c o c1 e=>sI.extBut _ _ c1 (sG.extBut _ _ c1 (Heap.get?_push_of_some _ e))
  have hTI8:IsPair g8 g5.objs.size x y:=sI.extBut _ _ (Nat.ne_of_gt zlt) (sG.extBut _ _ (Nat.ne_of_gt zlt) (Heap.get?_push_size _ rfl))
  rw [hsz] at hzI hTI8
  refine wpAny_pure ⟨_,rfl,?_⟩
  show Q (.ref g5.objs.size) _
  rw [hsz]
  exact hQ g8 _ _ (.inr ⟨_,rfl⟩) hzI ⟨_,_,up _ _ D.TOz TOE⟩ (h1E.at' fun o e=>up _ o D.i1z e) (h2E.at' fun o e=>up _ o D.i2z e) hTI8 fun c o c1 c2 c3 c4 e=>up c o c1 (hkE c o c1 c2 c3 c4 e)
 ·simp only [Bool.false_eq_true,if_false]
  refine wpAny_bind ?_
  rw [← Array.forIn_toList]
  simp only [List.forIn_cons,List.forIn_nil]
  refine wpAny_bind (wpAny_bind (wpAny_holding ?_))
  show wpAny _ _ (Builtin.SmallTypes.nextOf (.ref i1) >>= _) _ _ _
  refine wpAny_bind (jc6 (b:=b) (h1.at' fun o e=>s0.extBut _ o D.i1z e) (hl1.at' fun o e=>s0.extBut _ o D.l1z e) hx fun g2 h1B sB=>wpAny_pure ?_)
  refine wpAny_pure ?_
  refine wpAny_bind (wpAny_bind (wpAny_holding ?_))
  show wpAny _ _ (Builtin.SmallTypes.nextOf (.ref i2) >>= _) _ _ _
  refine wpAny_bind (jc6 (b:=b) (h2.at' fun o e=>sB.extBut _ o D.i12.symm (s0.extBut _ o D.i2z e)) (hl2.at' fun o e=>sB.extBut _ o D.l2i1 (s0.extBut _ o D.l2z e)) hy fun g4 h2D sD=>wpAny_pure ?_)
  refine wpAny_pure (wpAny_pure ?_)
  refine wpAny_bind (wpAny_newTuple ?_ (by show 2 ≤ sizeLine; decide))
  have hsz:g4.objs.size = s.heap.objs.size:=by rw [sD.1,sB.1,s0.1]
  have kk:∀ c o,c ≠ z→c ≠ i1→c ≠ i2→s.heap.get? c = some o→g4.get? c = some o:=fun c o c1 c3 c4 e=>sD.extBut _ _ c4 (sB.extBut _ _ c3 (s0.extBut _ _ c1 e))
  have hz4:ZpF g4 z TI TO f0 true:=sD.extBut _ _ D.i2z.symm (sB.extBut _ _ D.i1z.symm hz0)
  refine wpAny_pure ⟨_,rfl,?_⟩
  show Q (.ref g4.objs.size) _
  rw [hsz]
  refine hQ _ f0 true hf (Heap.get?_push_of_some _ hz4) ⟨v0,v1,Heap.get?_push_of_some _ (kk _ _ D.TOz D.TOi1 D.TOi2 hTO)⟩ ((h1B.at' fun o e=>sD.extBut _ o D.i12 e).at' fun o e=>Heap.get?_push_of_some _ e) (h2D.at' fun o e=>Heap.get?_push_of_some _ e) (by rw [← hsz]; exact Heap.get?_push_size _ rfl) fun c o c1 _ c3 c4 e=>Heap.get?_push_of_some _ (kk c o c1 c3 c4 e)
theorem jj7 {b:Bool} {z TI TO i1 i2 l1 l2:Addr} {k1 k2:Nat} {xs ys:Array Value} {v0 v1 f0:Value} {f1:Bool} {Q:Fin→Shared→Prop} (hh:A.handled = none) (D:ZipApart z TI TO i1 i2 l1 l2)
  (hz:ZpF s.heap z TI TO f0 f1) (hf:FrV f0) (hTI:IsPair s.heap TI (.ref i1) (.ref i2)) (hTO:IsPair s.heap TO v0 v1)
  (h1:jb6 b s.heap i1 l1 k1) (h2:jb6 b s.heap i2 l2 k2) (hl1:IsSq b s.heap l1 xs) (hl2:IsSq b s.heap l2 ys) (hend:xs[k1]? = none ∨ ys[k2]? = none)
  (hE:∀ h' e,(∀ c o,c ≠ z→c ≠ TO→c ≠ i1→c ≠ i2→s.heap.get? c = some o→h'.get? c = some o)→(∃ o,h'.get? e = some o∧o.cls = .type "StopIteration")→E (.ref e) { s with heap:=h' }) :
  wpAny (model prog w) A (Builtin.«zip.__next__» ⟨[.ref z],[]⟩) Q E s:=by
 show wpAny _ _ (field (.ref z) 2 >>= _) _ _ _
 refine wpAny_bind (wpAny_field hz rfl (x:=.bool false) rfl ?_)
 show wpAny _ _ (field (.ref z) 3 >>= _) _ _ _
 refine wpAny_bind (wpAny_field hz rfl (x:=.ref TI) rfl ?_)
 refine wpAny_bind (wpAny_seqItems hTI rfl ?_)
 show wpAny _ _ (Builtin.SmallTypes.ownedTupleIsFree (.ref z) >>= _) _ _ _
 refine wpAny_bind (jm9 hz hf ?_ fun g0 hz0 s0=>?_)
 ·simp only [if_true]
  refine wpAny_bind (wpAny_rule ?_)
  refine wpAny_bind (wpAny_field hz rfl (x:=.ref TO) rfl ?_)
  refine wpAny_bind (wpAny_setField_rec hz (by simp) fun g1 hzA sA=>?_)
  replace hzA:ZpF g1 z TI TO .ellipsis f1:=hzA
  refine wpAny_bind ?_
  simp only [List.zipIdx_cons,List.zipIdx_nil,List.forIn_cons,List.forIn_nil]
  refine wpAny_bind (wpAny_bind (wpAny_onRaise ?_))
  show wpAny _ _ (Builtin.SmallTypes.nextOf (.ref i1) >>= _) _ _ _
  cases hx:xs[k1]? with
  | none =>
   refine wpAny_bind (jbo (b:=b) hh (h1.at' fun o e=>sA.extBut _ o D.i1z e) (hl1.at' fun o e=>sA.extBut _ o D.l1z e) hx fun g2 ex sB he=>?_)
   obtain ⟨oe,hoe,hce⟩:=he
   have hzB:ZpF g2 z TI TO .ellipsis f1:=sB _ _ D.i1z.symm hzA
   have hez:ex ≠ z:=fun q=>by subst q; rw [hzB] at hoe; cases hoe; simp at hce
   refine wpAny_setField_rec hzB (by simp) fun g3 _ sC=>hE g3 ex (fun c o c1 _ c3 _ q=>sC.extBut _ _ c1 (sB _ _ c3 (sA.extBut _ _ c1 q))) ⟨oe,sC.extBut _ _ hez hoe,hce⟩
  | some x =>
   have hy:ys[k2]? = none:=by rcases hend with h | h; rw [hx] at h; cases h; exact h
   refine wpAny_bind (jc6 (b:=b) (h1.at' fun o e=>sA.extBut _ o D.i1z e) (hl1.at' fun o e=>sA.extBut _ o D.l1z e) hx fun g2 h1B sB=>wpAny_pure ?_)
   have TOB:IsPair g2 TO v0 v1:=sB.extBut _ _ D.TOi1 (sA.extBut _ _ D.TOz hTO)
   refine wpAny_bind (wpAny_seqItems TOB rfl ?_)
   refine wpAny_bind (wpAny_updateSeq_pair TOB fun g3 TOC sC=>?_)
   refine wpAny_bind (wpAny_letGo (wpAny_pure ?_))
   refine wpAny_bind (wpAny_bind (wpAny_onRaise ?_))
   show wpAny _ _ (Builtin.SmallTypes.nextOf (.ref i2) >>= _) _ _ _
   refine wpAny_bind (jbo (b:=b) hh (h2.at' fun o e=>sC.extBut _ o D.TOi2.symm (sB.extBut _ o D.i12.symm (sA.extBut _ o D.i2z e))) (hl2.at' fun o e=>sC.extBut _ o D.l2TO (sB.extBut _ o D.l2i1 (sA.extBut _ o D.l2z e))) hy fun g4 ex sD he=>?_)
   obtain ⟨oe,hoe,hce⟩:=he
   have hzD:ZpF g4 z TI TO .ellipsis f1:=sD _ _ D.i2z.symm (sC.extBut _ _ D.TOz.symm (sB.extBut _ _ D.i1z.symm hzA))
   have hez:ex ≠ z:=fun q=>by subst q; rw [hzD] at hoe; cases hoe; simp at hce
   refine wpAny_setField_rec hzD (by simp) fun g5 _ sE=>hE g5 ex (fun c o c1 c2 c3 c4 q=>sE.extBut _ _ c1 (sD _ _ c4 (sC.extBut _ _ c2 (sB.extBut _ _ c3 (sA.extBut _ _ c1 q))))) ⟨oe,sE.extBut _ _ hez hoe,hce⟩
 ·simp only [Bool.false_eq_true,if_false]
  refine wpAny_bind ?_
  rw [← Array.forIn_toList]
  simp only [List.forIn_cons,List.forIn_nil]
  refine wpAny_bind (wpAny_bind (wpAny_holding ?_))
  show wpAny _ _ (Builtin.SmallTypes.nextOf (.ref i1) >>= _) _ _ _
  cases hx:xs[k1]? with
  | none =>
   refine wpAny_bind (jbo (b:=b) hh (h1.at' fun o e=>s0.extBut _ o D.i1z e) (hl1.at' fun o e=>s0.extBut _ o D.l1z e) hx fun g2 ex sB he=>?_)
   exact hE g2 ex (fun c o c1 _ c3 _ q=>sB _ _ c3 (s0.extBut _ _ c1 q)) he
  | some x =>
   have hy:ys[k2]? = none:=by rcases hend with h | h; rw [hx] at h; cases h; exact h
   refine wpAny_bind (jc6 (b:=b) (h1.at' fun o e=>s0.extBut _ o D.i1z e) (hl1.at' fun o e=>s0.extBut _ o D.l1z e) hx fun g2 h1B sB=>wpAny_pure ?_)
   refine wpAny_pure ?_
   refine wpAny_bind (wpAny_bind (wpAny_holding ?_))
   show wpAny _ _ (Builtin.SmallTypes.nextOf (.ref i2) >>= _) _ _ _
   refine wpAny_bind (jbo (b:=b) hh (h2.at' fun o e=>sB.extBut _ o D.i12.symm (s0.extBut _ o D.i2z e)) (hl2.at' fun o e=>sB.extBut _ o D.l2i1 (s0.extBut _ o D.l2z e)) hy fun g4 ex sD he=>?_)
   exact hE g4 ex (fun c o c1 _ c3 c4 q=>sD _ _ c4 (sB.extBut _ _ c3 (s0.extBut _ _ c1 q))) he
end
end L2
namespace L2
open PySem PySem.Spec PyProof.Rows
def PZt (H:Hp) (v:V) (p:V × V):Prop:=∃ T,v = .ref T∧H T = some (.tup [p.1,p.2])
def ZSt (z TI TO i1 i2 l1 l2:Addr) (i:Nat) (h:Heap):Prop:=∃ f0 f1,FrV f0∧ZpF h z TI TO f0 f1∧IsPair h TI (.ref i1) (.ref i2)∧(∃ u v,IsPair h TO u v)∧jb6 true h i1 l1 i∧jb6 true h i2 l2 i
section
variable {X:Cx} {pins:List (Addr × Obj)} {σ:St} {z TI TO i1 i2 l1 l2 S:Addr} {xs ys:List V} {A:Around} {R:Result→Shared→Prop} {res:Value}
theorem je3 {α β:Type} {F:α→β→Prop}:∀ {a:List α} {b:List β} {x:α} {y:β},Paired F a b→F x y→Paired F (a ++ [x]) (b ++ [y])
 | _,_,_,_,.nil,h=>.cons h .nil
 | _,_,_,_,.cons r t,h=>.cons r (je3 t h)
theorem ji4 {α β:Type} {F G:α→β→Prop} (h:∀ x y,F x y→G x y):∀ {a:List α} {b:List β},Paired F a b→Paired G a b
 | _,_,.nil=>.nil
 | _,_,.cons r t=>.cons (h _ _ r) (ji4 h t)
theorem jop (hh:A.in1.handled = none) (D:ZipApart z TI TO i1 i2 l1 l2) (hS:S ∉ [z,TI,TO,i1,i2]) (hS1:S ≠ l1) (hS2:S ≠ l2) (hn:min xs.length ys.length + 1 ≤ sizeLine) :
  ∀ (k i:Nat) (s:Shared) (H:Hp) (zs:List V),min xs.length ys.length - i = k→i ≤ min xs.length ys.length→Inv X pins σ H s→(∀ d ∈ [z,TI,TO,i1,i2],FpOk X pins H d)→ZSt z TI TO i1 i2 l1 l2 i s.heap →
  H l1 = some (.lst xs)→H l2 = some (.lst ys)→H S = some (.lst zs)→Paired (PZt H) zs ((xs.zip ys).take i) →
  (∀ H' s' zs',Inv X pins σ H' s'→(∀ b o,b ≠ S→H b = some o→H' b = some o)→H' S = some (.lst zs')→Paired (PZt H') zs' (xs.zip ys)→R (.ok (.ret res)) s') →
  codeAny (model X.prog X.w) A (.builtin "list.extend.loop" ⟨[.ref S,.ref z,res],[]⟩) R s:=by
 intro k
 induction k with
 | zero =>
  intro i s H zs hk hi I hf st e1 e2 eS pz hR
  obtain ⟨f0,f1,fr,hz,hTI,⟨u0,v0,hTO⟩,h1,h2⟩:=st
  obtain ⟨its1,rv1,p1⟩:=I.lstE e1
  obtain ⟨its2,rv2,p2⟩:=I.lstE e2
  have q1:=rv1.length
  have q2:=rv2.length
  have hT:s.TypeIs (.ref z) "zip":=⟨_,hz,rfl⟩
  refine codeAny_builtin PySem.F.entry_extend_loop ?_
  rw [Around.under_plainId PySem.F.plain_extend_loop _]
  show wpAny _ A.in1 (pyNext (.ref z) >>= _) _ _ s
  refine wpAny_bind ?_
  unfold pyNext
  have hend:its1.toArray[i]? = none ∨ its2.toArray[i]? = none:=by
   rcases Nat.le_total xs.length ys.length with c | c
   ·left
    rw [Nat.min_eq_left c] at hk hi
    simp
    omega
   ·right
    rw [Nat.min_eq_right c] at hk hi
    simp
    omega
  refine wpAny_bind (wpAny_attempt (wpAny_callSpecial?_slot (name:=Str.ofString "__next__") hT F.slot_zip_next (wpAny_call_entry F.slot_zip_next hT F.entry_zip_next
   (jj7 (b:=true) hh D hz fr hTI hTO h1 h2 p1 p2 hend fun h' e hk' he=>?_) (F.args_zip_next_1 _))))
  obtain ⟨o,ho,hcl⟩:=he
  refine wpAny_bind (wpAny_isInstance (T:="StopIteration") (b:=true) ⟨o,ho,hcl⟩ isSubtype_stop ?_)
  have I':Inv X pins σ H { s with heap:=h' }:=I.turnedAll (ch:=[z,TI,TO,i1,i2]) (t':=s.toks) (fun d ob hd q=>by
   have hd':d ≠ z∧d ≠ TI∧d ≠ TO∧d ≠ i1∧d ≠ i2:=by simpa using hd
   exact hk' d ob hd'.1 hd'.2.2.1 hd'.2.2.2.1 hd'.2.2.2.2 q) hf
  have et:(xs.zip ys).take i = xs.zip ys:=List.take_of_length_le (by rw [List.length_zip]; omega)
  rw [et] at pz
  exact wpAny_pure (wpAny_pure (hR H _ zs I' (fun _ _ _ q=>q) eS pz))
 | succ k ih =>
  intro i s H zs hk hi I hf st e1 e2 eS pz hR
  obtain ⟨f0,f1,fr,hz,hTI,⟨u0,v0,hTO⟩,h1,h2⟩:=st
  obtain ⟨its1,rv1,p1⟩:=I.lstE e1
  obtain ⟨its2,rv2,p2⟩:=I.lstE e2
  have hT:s.TypeIs (.ref z) "zip":=⟨_,hz,rfl⟩
  have hi1:i < xs.length:=by omega
  have hi2:i < ys.length:=by omega
  have hx:xs[i]? = some xs[i]:=List.getElem?_eq_getElem hi1
  have hy:ys[i]? = some ys[i]:=List.getElem?_eq_getElem hi2
  generalize xs[i] = x at hx
  generalize ys[i] = y at hy
  obtain ⟨u1,hu1,ru1⟩:=rv1.get hx
  obtain ⟨u2,hu2,ru2⟩:=rv2.get hy
  have zlt:z < s.heap.objs.size:=Heap.lt_size hz
  refine codeAny_builtin PySem.F.entry_extend_loop ?_
  rw [Around.under_plainId PySem.F.plain_extend_loop _]
  show wpAny _ A.in1 (pyNext (.ref z) >>= _) _ _ s
  refine wpAny_bind ?_
  unfold pyNext
  refine wpAny_bind (wpAny_attempt (wpAny_callSpecial?_slot (name:=Str.ofString "__next__") hT F.slot_zip_next (wpAny_call_entry F.slot_zip_next hT F.entry_zip_next
   (jhb (b:=true) D hz fr hTI hTO h1 h2 p1 p2 (x:=u1) (y:=u2) (by simpa using hu1) (by simpa using hu2) fun h' g0 g1 fr' a1 a2 a3 a4 a5 a7=>?_) (F.args_zip_next_1 _))))
  have lt:∀ d ∈ [z,TI,TO,i1,i2],d < s.heap.objs.size:=fun d hd=>by
   have q:d = z ∨ d = TI ∨ d = TO ∨ d = i1 ∨ d = i2:=by simpa using hd
   rcases q with rfl | rfl | rfl | rfl | rfl
   ·exact zlt
   ·exact Heap.lt_size hTI
   ·exact Heap.lt_size hTO
   ·obtain ⟨o,e,_⟩:=h1.obj; exact Heap.lt_size e
   ·obtain ⟨o,e,_⟩:=h2.obj; exact Heap.lt_size e
  have kk:∀ d ob,d ∉ [z,TI,TO,i1,i2]→s.heap.get? d = some ob→h'.get? d = some ob:=fun d ob hd q=>by
   have hd':d ≠ z∧d ≠ TI∧d ≠ TO∧d ≠ i1∧d ≠ i2:=by simpa using hd
   exact a7 d ob hd'.1 hd'.2.2.1 hd'.2.2.2.1 hd'.2.2.2.2 q
  have fr0:=I.fresh
  have I1:Inv X pins σ (upd H s.heap.objs.size (.tup [x,y])) { s with heap:=h' }:=I.turnedNew (ch:=[z,TI,TO,i1,i2]) (t':=s.toks) (Nat.le_refl _) kk hf ⟨by show 2 ≤ sizeLine; decide,[u1,u2],.cons ru1 (.cons ru2 .nil),⟨_,a5,rfl,_,rfl⟩⟩
  generalize hT0:s.heap.objs.size = T at I1 fr0 lt a5
  have eS1:upd H T (.tup [x,y]) S = some (.lst zs):=by rw [ja7 (ja9 eS fr0)]; exact eS
  obtain ⟨hzl,itS,n,rvS,hlS,oS⟩:=I1.lstM eS1
  have hzi:zs.length = i:=by
   have:=Paired.length pz
   rw [List.length_take,List.length_zip] at this
   omega
  refine wpAny_pure ?_
  show wpAny _ A.in1 (updateSeq S (fun a=>a.push (.ref T)) >>= _) _ _ _
  refine wpAny_bind (wpAny_updateSeq oS rfl ?_ (by rw [List.size_toArray,← hlS]; exact hzl) (by simp; omega))
  have rvN:Vals (zs ++ [.ref T]) (itS ++ [.ref T]):=rvS.append (.cons rfl .nil)
  have I2:Inv X pins σ (upd (upd H T (.tup [x,y])) S (.lst (zs ++ [.ref T]))) { s with heap:=h'.update S (Obj.mapSeq fun a=>a.push (.ref T)) }:=I1.lset (t':=s.toks) eS1 oS (by simp) rvN (by rw [List.length_append]; show zs.length + 1 ≤ _; omega)
  have nS:∀ d ∈ [z,TI,TO,i1,i2],d ≠ S:=fun d hd e=>hS (e ▸ hd)
  have sS:∀ d,d ≠ S→∀ o,h'.get? d = some o→(h'.update S (Obj.mapSeq fun a=>a.push (.ref T))).get? d = some o:=fun d hd o q=>(Heap.get?_update_other _ _ (Ne.symm hd)).trans q
  have keepH:∀ b o,b ≠ S→H b = some o→upd (upd H T (.tup [x,y])) S (.lst (zs ++ [.ref T])) b = some o:=fun b o hb q=>by rw [ja7 hb,ja7 (ja9 q fr0)]; exact q
  have nTS:T ≠ S:=fun e=>by rw [e,eS] at fr0; cases fr0
  refine wpAny_pure ⟨plainId_quiet PySem.F.plain_extend_loop _,ih (i + 1) _ _ _ (by omega) (by omega) I2 (fun d hd=>?_) ?_ (keepH _ _ hS1.symm e1) (keepH _ _ hS2.symm e2) ja1 ?_ fun H' s' zs' I' kp eS' pz'=>hR H' s' zs' I' (fun b o hb q=>kp b o hb (keepH b o hb q)) eS' pz'⟩
  ·obtain ⟨f1,f2⟩:=hf d hd
   exact ⟨by rw [ja7 (nS d hd),ja7 (Nat.ne_of_lt (lt d hd))]; exact f1,f2⟩
  ·obtain ⟨u9,v9,hTO9⟩:=a2
   exact ⟨g0,g1,fr',sS _ (nS z (by simp)) _ a1,sS _ (nS TI (by simp)) _ (a7 _ _ D.TIz D.TITO D.TIi1 D.TIi2 hTI),⟨u9,v9,sS _ (nS TO (by simp)) _ hTO9⟩,a3.at' fun o e=>sS _ (nS i1 (by simp)) o e,a4.at' fun o e=>sS _ (nS i2 (by simp)) o e⟩
  ·rw [jaj (l:=xs.zip ys) (i:=i) (x:=(x,y)) (by rw [List.getElem?_zip_eq_some]; exact ⟨hx,hy⟩)]
   exact je3 (ji4 (fun v p ⟨t,e,q⟩=>⟨t,e,keepH _ _ (fun z=>by rw [z,eS] at q; cases q) q⟩) pz) ⟨T,rfl,by rw [ja7 nTS,ja1]⟩
end
end L2
namespace L2
open PySem PySem.Spec PyProof.Rows
section
variable {X:Cx} {pins:List (Addr × Obj)} {σ:St} {H:Hp} {s:Shared} {z TI TO i1 i2 l1 l2:Addr} {xs ys:List V}
theorem jlc:typeLookup (.type "zip") (Str.ofString "__len__") = pure none:=by kernel_rfl
theorem jj6:typeLookup (.type "zip") (Str.ofString "__length_hint__") = pure none:=by kernel_rfl
theorem jm3 (hc:X.calm = true) {Q:VK} (I:Inv X pins σ H s) (D:ZipApart z TI TO i1 i2 l1 l2) (hf:∀ d ∈ [z,TI,TO,i1,i2],FpOk X pins H d) (hz:IsZip s.heap z TI TO .none) (hTI:IsPair s.heap TI (.ref i1) (.ref i2)) (hTO:∃ u v,IsPair s.heap TO u v) (h1:s.heap.IsListIter i1 l1 0) (h2:s.heap.IsListIter i2 l2 0)
  (e1:H l1 = some (.lst xs)) (e2:H l2 = some (.lst ys)) (hn:min xs.length ys.length + 1 ≤ sizeLine)
  (q:∀ S H' zs,H S = none→Same H H'→H' S = some (.lst zs)→Paired (PZt H') zs (xs.zip ys)→Q (.ref S) H') :
  wpAny (model X.prog X.w) X.A (call (.type "list") [.ref z]) (EP X pins σ Q) X.xe s:=by
 refine callType_codes PySem.F.called_list (F.typeCall_list_1 _) PySem.F.entry_list_init (Q₁:=fun obj s₁=>obj = .ref s.heap.objs.size∧s₁ = { s with heap:=s.heap.push { cls:=.type "list",data:=.seq #[] } }) (code_list_new _ ⟨rfl,rfl⟩) ?_
 rintro obj s1 ⟨rfl,rfl⟩
 have fr0:=I.fresh
 have lt:∀ d ∈ [z,TI,TO,i1,i2],d < s.heap.objs.size:=fun d hd=>by
  have q:d = z ∨ d = TI ∨ d = TO ∨ d = i1 ∨ d = i2:=by simpa using hd
  rcases q with rfl | rfl | rfl | rfl | rfl
  ·exact Heap.lt_size hz
  ·exact Heap.lt_size hTI
  ·obtain ⟨u,v,h⟩:=hTO; exact Heap.lt_size h
  ·obtain ⟨o,e,_⟩:=h1; exact Heap.lt_size e
  ·obtain ⟨o,e,_⟩:=h2; exact Heap.lt_size e
 have I1:Inv X pins σ (upd H s.heap.objs.size (.lst [])) { s with heap:=s.heap.push { cls:=.type "list",data:=.seq #[] } }:=I.lnew (its:=[]) (t':=s.toks) .nil (Nat.zero_le _)
 have oS:(s.heap.push { cls:=.type "list",data:=.seq #[] }).get? s.heap.objs.size = some { cls:=.type "list",data:=.seq #[] }:=Heap.get?_push_size _ rfl
 have kp:∀ d o,s.heap.get? d = some o→(s.heap.push { cls:=.type "list",data:=.seq #[] }).get? d = some o:=fun d o e=>Heap.get?_push_of_some _ e
 generalize hSS:s.heap.objs.size = S at I1 oS fr0 lt
 generalize s.heap.push { cls:=.type "list",data:=.seq #[] } = g at I1 oS kp
 refine ⟨⟨_,oS,rfl⟩,F.args_list_init_2 _ _,?_⟩
 show wpAny _ _ (Builtin.List.listItems (.ref S) >>= _) _ _ _
 refine wpAny_bind (wpAny_listItems oS rfl ?_)
 show wpAny _ _ (updateSeq S (fun _=>#[]) >>= _) _ _ _
 refine wpAny_bind (wpAny_updateSeq oS rfl ?_ (Nat.zero_le _) (Nat.zero_le _))
 have I2:=I1.lset (t':=s.toks) (ys:=[]) (its':=[]) (f:=fun _=>#[]) ja1 oS rfl .nil (Nat.zero_le _)
 have oS2:=PySem.IsL.update oS (fun _=>#[])
 have kp2:∀ d o,d ≠ S→s.heap.get? d = some o→(g.update S (Obj.mapSeq fun _=>#[])).get? d = some o:=fun d o hd e=>(Heap.get?_update_other _ _ (Ne.symm hd)).trans (kp d o e)
 generalize g.update S (Obj.mapSeq fun _=>#[]) = g2 at I2 oS2 kp2
 refine wpAny_bind (wpAny_letGo ?_)
 have nS:∀ d ∈ [z,TI,TO,i1,i2],d ≠ S:=fun d hd=>Nat.ne_of_lt (lt d hd)
 have hz2:IsZip g2 z TI TO .none:=kp2 _ _ (nS z (by simp)) hz
 have hT2:(Shared.TypeIs { s with heap:=g2 } (.ref z) "zip"):=⟨_,hz2,rfl⟩
 show wpAny _ _ (Builtin.List.listExtendWith (.ref S) (.ref z) .none) _ _ _
 unfold Builtin.List.listExtendWith
 refine wpAny_bind (wpAny_typeOf hT2 ?_)
 have nz:z ≠ S:=nS z (by simp)
 rw [if_neg (by
  have:Builtin.List.listSameRef (.ref S) (.ref z) = false:=by
   show (S == z) = false
   exact beq_eq_false_iff_ne.mpr nz.symm
  rw [this]
  decide)]
 refine wpAny_bind (wpAny_pyIter_zip hz2 ?_)
 refine wpAny_bind (wpAny_holding ?_)
 unfold Builtin.List.listLengthHint
 refine wpAny_bind (wpAny_specialOf hT2 jlc ?_)
 show wpAny _ _ (specialOf (.ref z) (Str.ofString "__length_hint__") >>= _) _ _ _
 refine wpAny_bind (wpAny_specialOf hT2 jj6 ?_)
 refine wpAny_pure ?_
 simp only [Bool.true_or,if_true]
 refine wpAny_bind (wpAny_rule ?_)
 refine wpAny_bind ?_
 show wpAny _ _ (updateSeq S (fun a=>a.push .none) >>= fun _=>updateSeq S (fun a=>a.pop)) _ _ _
 refine wpAny_bind (wpAny_updateSeq oS2 rfl ?_ (Nat.zero_le _) (by show 1 ≤ sizeLine + 1; omega))
 have I3:=I2.lset (t':=s.toks) (ys:=[.non]) (its':=[.none]) (f:=fun a=>a.push .none) ja1 oS2 rfl (.cons rfl .nil) (by show 1 ≤ sizeLine; decide)
 have oS3:=PySem.IsL.update oS2 (fun a=>a.push .none)
 have kp3:∀ d o,d ≠ S→s.heap.get? d = some o→(g2.update S (Obj.mapSeq fun a=>a.push .none)).get? d = some o:=fun d o hd e=>(Heap.get?_update_other _ _ (Ne.symm hd)).trans (kp2 d o hd e)
 generalize g2.update S (Obj.mapSeq fun a=>a.push .none) = g3 at I3 oS3 kp3
 refine wpAny_updateSeq oS3 rfl ?_ (by show 1 ≤ sizeLine; decide) (Nat.zero_le _)
 have I4:=I3.lset (t':=s.toks) (ys:=[]) (its:=[.none]) (its':=[]) (f:=fun a=>a.pop) ja1 oS3 rfl .nil (Nat.zero_le _)
 have kp4:∀ d o,d ≠ S→s.heap.get? d = some o→(g3.update S (Obj.mapSeq fun a=>a.pop)).get? d = some o:=fun d o hd e=>(Heap.get?_update_other _ _ (Ne.symm hd)).trans (kp3 d o hd e)
 generalize g3.update S (Obj.mapSeq fun a=>a.pop) = g4 at I4 kp4
 have upH:∀ b o,H b = some o→upd (upd (upd (upd H S (.lst [])) S (.lst [])) S (.lst [.non])) S (.lst []) b = some o:=fun b o e=>by
  have nb:b ≠ S:=ja9 e fr0
  rw [ja7 nb,ja7 nb,ja7 nb,ja7 nb]
  exact e
 have nb1:S ≠ l1:=(ja9 e1 fr0).symm
 have nb2:S ≠ l2:=(ja9 e2 fr0).symm
 refine wpAny_pure ⟨plainId_quiet PySem.F.plain_extend_loop _,?_⟩
 obtain ⟨u,v,hTO⟩:=hTO
 refine jop (A:=X.A.in1) (xs:=xs) (ys:=ys) (I.ok.hd hc) D (fun hd=>nS S hd rfl) nb1 nb2 hn (min xs.length ys.length) 0 _ _ [] (Nat.sub_zero _) (Nat.zero_le _) I4 (fun d hd=>?_) ⟨.none,false,.inl rfl,kp4 _ _ nz hz,kp4 _ _ (nS TI (by simp)) hTI,⟨u,v,kp4 _ _ (nS TO (by simp)) hTO⟩,(show jb6 true _ _ _ _ from jb6.at' (b:=true) h1 fun o e=>kp4 _ _ (nS i1 (by simp)) e),(show jb6 true _ _ _ _ from jb6.at' (b:=true) h2 fun o e=>kp4 _ _ (nS i2 (by simp)) e)⟩ (upH _ _ e1) (upH _ _ e2) ja1 (by rw [List.take_zero]; exact .nil) fun H' s' zs' I' kpH eS' pz'=>?_
 ·obtain ⟨f1,f2⟩:=hf d hd
  have nd:=nS d hd
  exact ⟨by rw [ja7 nd,ja7 nd,ja7 nd,ja7 nd]; exact f1,f2⟩
 ·exact ⟨rfl,.ref S,H',I',rfl,q S H' zs' fr0 (fun b o e=>kpH b o (ja9 e fr0) (upH b o e)) eS' pz'⟩
end
end L2
namespace L2
open PySem PySem.Spec PyProof.Rows
def tLZ (ta:TA):TE:=fun σ H Q=>ta σ H fun vs H1=>∃ l1 l2 xs ys,vs = [.ref l1,.ref l2]∧H1 l1 = some (.lst xs)∧H1 l2 = some (.lst ys)∧xs.length ≤ 1000∧∀ S H' zs,H1 S = none→Same H1 H'→H' S = some (.lst zs)→Paired (PZt H') zs (xs.zip ys)→Q (.ref S) H'
theorem jln {X:Cx} (hc:X.calm = true) {a c:Expr} {ta:TA} {p p2 pos pos2:Pos} (hg:Gl X "list") (hm:X.mg "list" = none) (hg2:Gl X "zip") (hm2:X.mg "zip" = none) (ha:PA X [a,c] ta)
  (hs:starEach [a,c] X.env = [(false,eval a X.env),(false,eval c X.env)]:=by rfl) (hs2:starEach [c] X.env = [(false,eval c X.env)]:=by rfl)
  (he:starEach [.Call (.Name "zip" p2) [a,c] [] pos2] X.env = (false,eval (.Call (.Name "zip" p2) [a,c] [] pos2) X.env) :: starEach [] X.env:=by rfl) :
  PE X (.Call (.Name "list" p) [.Call (.Name "zip" p2) [a,c] [] pos2] [] pos) (tLZ ta):=by
 intro pins s σ H Q I h
 refine wpAny_Call_Name_kw (jf5 I hg hm PyProof.Rows.boot_list ?_ (by decide) (by decide))
 refine PyProof.Rows.callWith_type1 ?_ he rfl
 rw [he]
 show wpAny _ _ (spliced ((false,eval (.Call (.Name "zip" p2) [a,c] [] pos2) X.env) :: backTo pos (starEach [] X.env))) _ _ s
 refine Calls.spliced_cons ?_
 refine wpAny_Call_Name_kw (jf5 I hg2 hm2 boot_zip ?_ (by decide) (by decide))
 refine PyProof.Rows.callWith_type1 (thn (ha pos2 pins s σ H _ I h) fun us s1 ⟨vs,H1,I1,r1,q1⟩=>?_) (by rw [hs,hs2]) (by rw [hs2]; rfl)
 obtain ⟨l1,l2,xs,ys,e,e1,e2,hl,q⟩:=q1
 subst e
 cases r1 with
 | cons r rr =>
  cases rr with
  | cons r' rr =>
   cases rr
   cases r
   cases r'
   obtain ⟨its1,rv1,p1⟩:=I1.lstE e1
   obtain ⟨its2,rv2,p2⟩:=I1.lstE e2
   refine jre (b:=true) p1 p2 fun h' a1 a2 a3 a4 a5 hk=>?_
   refine Calls.spliced_nil ?_
   have I2:Inv X pins σ H1 { s1 with heap:=h' }:=I1.kept (t':=s1.toks) fun b o q=>hk b o q
   have ne:∀ i j:Nat,i ≠ j→s1.heap.objs.size + i ≠ s1.heap.objs.size + j:=fun i j h e=>h (Nat.add_left_cancel e)
   have lt1:∀ i,l1 ≠ s1.heap.objs.size + i:=fun i=>by
    obtain ⟨o,e,_⟩:=p1
    exact Nat.ne_of_lt (Nat.lt_of_lt_of_le (Heap.lt_size e) (Nat.le_add_right _ _))
   have lt2:∀ i,l2 ≠ s1.heap.objs.size + i:=fun i=>by
    obtain ⟨o,e,_⟩:=p2
    exact Nat.ne_of_lt (Nat.lt_of_lt_of_le (Heap.lt_size e) (Nat.le_add_right _ _))
   have D:ZipApart (s1.heap.objs.size + 4) (s1.heap.objs.size + 2) (s1.heap.objs.size + 3) s1.heap.objs.size (s1.heap.objs.size + 1) l1 l2 :=
    ⟨ne 2 4 (by decide),ne 3 4 (by decide),ne 0 4 (by decide),ne 1 4 (by decide),ne 2 3 (by decide),ne 2 0 (by decide),ne 2 1 (by decide),ne 3 0 (by decide),ne 3 1 (by decide),ne 0 1 (by decide),lt1 4,lt1 3,lt1 0,lt1 1,lt2 4,lt2 3,lt2 0,lt2 1⟩
   refine jm3 hc I2 D (fun d hd=>?_) a1 a2 ⟨_,_,a3⟩ a4 a5 e1 e2 ?_ q
   ·have hd':d = s1.heap.objs.size + 4 ∨ d = s1.heap.objs.size + 2 ∨ d = s1.heap.objs.size + 3 ∨ d = s1.heap.objs.size ∨ d = s1.heap.objs.size + 1:=by simpa using hd
    have hle:s1.heap.objs.size ≤ d:=by
     rcases hd' with e | e | e | e | e <;> rw [e]
     ·exact Nat.le_add_right _ _
     ·exact Nat.le_add_right _ _
     ·exact Nat.le_add_right _ _
     ·exact Nat.le_refl _
     ·exact Nat.le_add_right _ _
    exact I1.fpOk hle (I1.hok.fresh hle)
   ·have:min xs.length ys.length ≤ xs.length:=Nat.min_le_left _ _
    exact Nat.le_trans (show min xs.length ys.length + 1 ≤ 1001 by omega) (by decide)
end L2
namespace My
open PySem L2
section
variable {P:Program} {w:World} {K:PySem.W.Frag} {mg:Str→Option Value} {base:Heap} {c1 c2 c3 c4:Tok} {C_NoWeb f_NoWeb:Addr} {dI:FuncData}
theorem good {sp spG:Sp} {k:Nat} {f:Addr} {fd:FuncData} {qs:List Str} (imp:∀ vs H Q E,spG vs H Q E→sp vs H Q (fun _ _ _=>False)) (G:FnOk P w K mg base (CXE P w) k f fd qs sp):FnOk P w K mg base CX0 k f fd qs spG:=by
 refine ⟨fun vs H Q E q=>G.len vs H Q _ (imp _ _ _ _ q),fun A outer s H args us vs Q E hr he hb hv hs=>codeAny_mono (G.run A outer s H args us vs Q _ hr he hb hv (imp _ _ _ _ hs)) fun r s' hq=>?_⟩
 cases r with
 | error e =>
  obtain ⟨_,_,_,_,_,_,_,_,_,_,_,_,_,_,_,z⟩:=hq
  exact z.elim
 | ok fl=>cases fl <;> exact hq
variable {C_NoStep f_NoStep:Addr}
def jmq:Sp:=fun vs H Q _=>∃ v x ps ts d,vs = [v,x]∧jch H v ps ts∧WebOk ps ts∧Rep H d x∧NoHv d∧jdo d∧∀ H',Same H H'→Q (.bl (fitB ps ts d)) H'
theorem jo2 {CW:Addr}:∀ vs H Q E,jmq vs H Q E→jq8 CW vs H Q (fun _ _ _=>False):=by
 rintro vs H Q E ⟨v,x,ps,ts,d,rfl,hw,wok,hd,nh,fit,h⟩
 refine ⟨v,webD ps ts,x,d,rfl,jct hw,fun w n e=>?_,fun qs us e _=>?_⟩
 ·rw [jkg wok] at e
  cases e
 ·obtain ⟨rfl,rfl⟩:=jkh e
  exact ⟨hd,nh,fit,h⟩
def mn (a b:Int):Int:=if b < a then b else a
def mx (a b:Int):Int:=if b > a then b else a
def jat (a b:Int):Int × Int:=(mn a b,mx a b)
def jq3:Sp:=fun vs H Q _=>∃ a b,vs = [.int a,.int b]∧∀ t,H t = none→Q (.ref t) (upd H t (.tup [.int (jat a b).1,.int (jat a b).2]))
def jq9:Sp:=fun vs H Q _=>∃ (st:Addr) (o:HO) (l:Addr) (ms:List Int),vs = [.ref st,.ref l]∧H st = some o∧StO o∧H l = some (.lst (ms.map V.int))∧ms ≠ []∧(∀ m ∈ ms,1 ≤ m)∧∀ x H' o',x ≤ ms.sum→But st H H'→H' st = some o'→StO o'→Q (.int x) H'
def jmp:Sp:=fun vs H Q _=>∃ v n ps ts,vs = [v,.int n]∧jch H v ps ts∧WebOk ps ts∧n ∈ ps.map (·.1)∧∀ H',Same H H'→Q (.bl (jd1 ps ts n)) H'
theorem jg2 {ms:List Int} (h:∀ m ∈ ms,1 ≤ m) {m:Int} (hm:m ∈ ms):1 ≤ m∧m ≤ ms.sum:=(jgd (List.Sublist.refl ms) h).2.2 m hm
theorem jot {ts:List (Int × Int)} {ns:List Int} (lt:∀ t ∈ ts,t.1 < t.2):jho ts ns = ts.any fun t=>decide (t.1 ∈ ns) && decide (t.2 ∈ ns):=by
 rw [Bool.eq_iff_iff]
 unfold jho
 simp only [List.any_eq_true,Bool.and_eq_true,decide_eq_true_eq]
 constructor
 ·rintro ⟨a,ha,b,hb,q⟩
  rcases (jed lt).mp q with q | q
  ·exact ⟨_,q,ha,hb⟩
  ·exact ⟨_,q,hb,ha⟩
 ·rintro ⟨t,ht,h1,h2⟩
  exact ⟨t.1,h1,t.2,h2,(jed lt).mpr (.inl ht)⟩
theorem jlp {f:Addr} {fd:FuncData}  (B:Blt mg) (D:DefAt K mg "_law_tie" (top 75) ["_law_one","_law_other"] f fd):FnOk P w K mg base CX0 1 f fd ["_law_one","_law_other"] jq3:=by
 have sc:FnScope ["_law_one","_law_other"] ["_law_one","_law_other"] (ja8 (top 75)):=⟨rfl,rfl,rfl,by decide +kernel,rfl,by decide +kernel,by decide +kernel⟩
 refine D.F.ok sc (fun vs H Q E h=>?_) (fun cdv A outer s H vs Q E hr h=>?_)
 ·obtain ⟨a,b,rfl,_⟩:=h
  rfl
 obtain ⟨a,b,rfl,h⟩:=h
 have hu:=jb5 hr
 have hu0:_ < PySem.cLine:=Nat.lt_of_succ_lt hu
 refine ⟨_,(ja6 (jag (jdg (ja0 (jac (q_min rfl) rfl B.min PyProof.Rows.boot_min (ja0 (qv 0) (ja0 (qv 1) ja2))) (ja0 (jac (jqp rfl) rfl B.max PyProof.Rows.boot_max (ja0 (qv 0) (ja0 (qv 1) ja2))) ja2))))),?_⟩
 walk_at "RD"
 exact h
theorem jjw {f:Addr} {fd:FuncData} {f_law_take:Addr} {d_law_take:FuncData} (B:Blt mg) (D:DefAt K mg "_law_edge" (top 76) ["_law_state","_law_prices_here"] f fd) (D_law_take:DefAt K mg "_law_take" (top 73) ["_law_state","_law_many"] f_law_take d_law_take) (G_law_take:FnOk P w K mg base CX0 1 f_law_take d_law_take ["_law_state","_law_many"] jhr):FnOk P w K mg base CX0 2 f fd ["_law_state","_law_prices_here"] jq9:=by
 have sc:FnScope ["_law_state","_law_prices_here","_law_low"] ["_law_state","_law_prices_here"] (ja8 (top 76)):=⟨rfl,rfl,rfl,by decide +kernel,rfl,by decide +kernel,by decide +kernel⟩
 refine D.F.ok sc (fun vs H Q E h=>?_) (fun cdv A outer s H vs Q E hr h=>?_)
 ·obtain ⟨st,o,l,ms,rfl,_⟩:=h
  rfl
 obtain ⟨st,o,l,ms,rfl,es,so,el,hne,hpos,h⟩:=h
 have hu:=jb5 hr
 have hu0:_ < PySem.cLine:=Nat.lt_of_succ_lt hu
 refine ⟨_,(ja3 (jal (i:=2) sc.nd rfl (Or.inl rfl) (jar jhx (jac (jlk rfl) rfl B.sum PyProof.Rows.boot_sum (ja0 (qv 1) ja2)) (jac (jfg rfl) rfl B.min PyProof.Rows.boot_min (ja0 (qv 1) ja2)))) (ja6 (jag (jaq q_ix (jd3 (ja0 (jar jhx (qv 2) ja4) (ja0 (qv 2) (ja0 (jar jhx (jac (jlk rfl) rfl B.sum PyProof.Rows.boot_sum (ja0 (qv 1) ja2)) ja4) (ja0 (jac (jlk rfl) rfl B.sum PyProof.Rows.boot_sum (ja0 (qv 1) ja2)) (ja0 (jar jca (qv 2) (jar jn2 (jar jhx (jac (jlk rfl) rfl B.sum PyProof.Rows.boot_sum (ja0 (qv 1) ja2)) (qv 2)) ja4)) ja2)))))) (jad G_law_take (hr.mono (by decide)) rfl D_law_take.m D_law_take.F.kp D_law_take.b .nil jap (ja0 (qv 0) (ja0 ja4 ja2))) (fun _ _=>rfl))))),?_⟩
 have nl:l ≠ st:=fun z=>by
  obtain ⟨c,s,f,rfl,_⟩:=so
  rw [z,es] at el
  injection el with el
  injection el with el
  match ms,el with
  | [_,_,_],el=>simp at el
 refine jaa fun R hR=>?_
 walk_at "RD"
 refine ⟨l,ms,rfl,el,?_⟩
 refine ⟨l,ms,rfl,el,hne,fun m hm1 hm2=>?_⟩
 obtain ⟨q1,q2⟩:=jg2 hpos hm1
 walk_at "RD"
 subst hR
 walk_at "RD"
 refine ⟨l,ms,rfl,el,?_⟩
 walk_at "RD"
 refine ⟨l,ms,rfl,el,?_⟩
 walk_at "RD"
 refine ⟨l,ms,rfl,el,?_⟩
 walk_at "RD"
 refine ⟨⟨by decide,by decide⟩,?_⟩
 refine ⟨by decide,?_⟩
 intro L hL
 have s1:=ja5 hL (.lst [.int (ms.sum - m - 1),.int (ms.sum - m),.int (ms.sum - 1),.int ms.sum,.int (ms.sum - m + (ms.sum - (ms.sum - m)) / 2)])
 have eL:upd H L (.lst [.int (ms.sum - m - 1),.int (ms.sum - m),.int (ms.sum - 1),.int ms.sum,.int (ms.sum - m + (ms.sum - (ms.sum - m)) / 2)]) L = some (.lst [.int (ms.sum - m - 1),.int (ms.sum - m),.int (ms.sum - 1),.int ms.sum,.int (ms.sum - m + (ms.sum - (ms.sum - m)) / 2)]):=ja1
 have nL:L ≠ st:=(ja9 es hL).symm
 generalize upd H L (.lst [.int (ms.sum - m - 1),.int (ms.sum - m),.int (ms.sum - 1),.int ms.sum,.int (ms.sum - m + (ms.sum - (ms.sum - m)) / 2)]) = H1 at s1 eL
 refine ⟨st,o,5,rfl,s1 _ _ es,so,by decide,by decide,fun d o2 d0 d1 so2=>?_⟩
 have b2:But st H (upd H1 st o2):=fun b u nb q=>by rw [ja7 nb]; exact s1 _ _ q
 have e2:upd H1 st o2 st = some o2:=ja1
 have eL2:=But.at st H1 o2 _ _ nL eL
 generalize upd H1 st o2 = H2 at b2 e2 eL2
 obtain ⟨x,hx,hx2⟩:∃ x:Int,atI [V.int (ms.sum - m - 1),.int (ms.sum - m),.int (ms.sum - 1),.int ms.sum,.int (ms.sum - m + (ms.sum - (ms.sum - m)) / 2)] d = some (.int x)∧x ≤ ms.sum:=by
  have:d = 0 ∨ d = 1 ∨ d = 2 ∨ d = 3 ∨ d = 4:=by omega
  rcases this with rfl | rfl | rfl | rfl | rfl
  ·exact ⟨_,rfl,by omega⟩
  ·exact ⟨_,rfl,by omega⟩
  ·exact ⟨_,rfl,by omega⟩
  ·exact ⟨_,rfl,by omega⟩
  ·exact ⟨_,rfl,by omega⟩
 simp_arith [jam,eL2,hx]
 exact h x H2 o2 hx2 b2 e2 so2
theorem jlq {f:Addr} {fd:FuncData} {f_law_prices:Addr} {d_law_prices:FuncData} {f_law_near:Addr} {d_law_near:FuncData} (B:Blt mg) (D:DefAt K mg "_law_due" (top 80) ["_law_web","_law_place"] f fd) (D_law_prices:DefAt K mg "_law_prices" (top 78) ["_law_web"] f_law_prices d_law_prices) (G_law_prices:FnOk P w K mg base CX0 1 f_law_prices d_law_prices ["_law_web"] jht) (D_law_near:DefAt K mg "_law_near" (top 79) ["_law_web","_law_place"] f_law_near d_law_near) (G_law_near:FnOk P w K mg base CX0 1 f_law_near d_law_near ["_law_web","_law_place"] jmo):FnOk P w K mg base CX0 2 f fd ["_law_web","_law_place"] jmp:=by
 have sc:FnScope ["_law_web","_law_place","_law_prices_here","_law_some","_law_total","_law_one","_law_other"] ["_law_web","_law_place"] (ja8 (top 80)):=⟨rfl,rfl,rfl,by decide +kernel,rfl,by decide +kernel,by decide +kernel⟩
 refine D.F.ok sc (fun vs H Q E h=>?_) (fun cdv A outer s H vs Q E hr h=>?_)
 ·obtain ⟨v,n,ps,ts,rfl,_⟩:=h
  rfl
 obtain ⟨v,n,ps,ts,rfl,hw,wok,hn,h⟩:=h
 obtain ⟨u,pa,ta,xs,ys,rfl,eu,ep,et,pp,pt⟩:=id hw
 have hu:=jb5 hr
 have hu0:_ < PySem.cLine:=Nat.lt_of_succ_lt hu
 refine ⟨_,(ja3 (jal (i:=2) sc.nd rfl (Or.inr rfl) (jad G_law_prices (hr.mono (by decide)) rfl D_law_prices.m D_law_prices.F.kp D_law_prices.b .nil jap (ja0 (qv 0) ja2))) (ja3 (jal (i:=3) sc.nd rfl (Or.inl rfl) (jad G_law_near (hr.mono (by decide)) rfl D_law_near.m D_law_near.F.kp D_law_near.b .nil jap (ja0 (qv 0) (ja0 (qv 1) ja2)))) (ja3 (jal (i:=4) sc.nd rfl (Or.inl rfl) (jac (jlk rfl) rfl B.sum PyProof.Rows.boot_sum (ja0 (jc3 (CpScope.of (N:=["_law_one","_law_prices_here"]) (src:=[none,some 2]) (by rfl)) rfl (jb0 (qv 3)) (fun _ _ _ _=>(jaf (i:=0) (jai (l:=["_law_one","_law_prices_here"]) (by rfl)) rfl (Or.inl rfl))) (fun _ _ _ _=>jbs) (fun _ _ _ _=>(jax hu (qv 1) (qv 0) (fun _ _=>rfl)))) ja2))) (ja3 (jba (PW.pt (jjl (jav q_lt (jac jde rfl B.len PySem.boot_len (ja0 (qv 3) ja2)) ja4 (jae _)) (jfw (jav q_le (qv 4) (jax hu (qv 2) (qv 1) (fun _ _=>rfl)) (jae _))))) (ja6 (jag jdh)) jah) (ja3 (jcl PassesOwn.never rfl (jb0 (jaq q_ix (qv 0) ja4 (fun _ _=>rfl))) (jcj (n:=2) rfl (jan (jaf (i:=5) sc.nd rfl (Or.inl rfl)) (jan (jaf (i:=6) sc.nd rfl (Or.inl rfl)) jbr))) (ja6 (jba (PW.pt (jku (jav jp3 (qv 5) (qv 3) (by with_unfolding_all rfl)) (jgi (jav jp3 (qv 6) (qv 3) (by with_unfolding_all rfl))))) (ja6 (jag jdh)) jah))) (ja6 (jag (jas q_le (jar jhx (qv 4) (jac (jfg rfl) rfl B.min PyProof.Rows.boot_min (ja0 (jc3 (CpScope.of (N:=["_law_one","_law_prices_here"]) (src:=[none,some 2]) (by rfl)) rfl (jb0 (qv 3)) (fun _ _ _ _=>(jaf (i:=0) (jai (l:=["_law_one","_law_prices_here"]) (by rfl)) rfl (Or.inl rfl))) (fun _ _ _ _=>jbs) (fun _ _ _ _=>(jax hu (qv 1) (qv 0) (fun _ _=>rfl)))) ja2))) (jax hu (qv 2) (qv 1) (fun _ _=>rfl)) (jae _))))))))),?_⟩
 have lt:∀ t ∈ ts,t.1 < t.2:=fun t ht=>(TiOk.ats wok.t t ht).1
 refine jaa fun R hR=>?_
 walk_at "RD"
 refine ⟨.ref u,ps,ts,rfl,hw,wok,fun pd H1 hpd s1 epd=>?_⟩
 walk_at "RD"
 subst hR
 refine jaa fun R hR=>?_
 walk_at "RD"
 refine ⟨.ref u,n,ps,ts,rfl,hw.same s1,wok,fun a H2 ha s2 e3=>?_⟩
 have s12:=s1.trans s2
 have epd2:=s2 _ _ epd
 have hla:=jcb wok n
 walk_at "RD"
 subst hR
 refine jaa fun R hR=>?_
 walk_at "RD"
 refine jb4 (Itl K a) H2 (fun R hR=>?_) (fun z hz=>jb9 (jab ts n).length (fun i σ' Hc=>∃ w1,σ' = [w1,some (.ref pd)]∧Same H2 Hc∧Hc z = some (.lst ((((jab ts n).take i).map (prc ps)).map V.int))) ⟨none,rfl,ja5 hz _,ja1⟩ ?_ ?_)
 ·unfold jc8
  walk_at "RD"
  exact ⟨a,rfl,⟨_,SqL.of e3⟩,hR⟩
 ·rintro i σ' Hc hi ⟨w1,rfl,s4,ez⟩
  have z1:SqL K Hc a ((jab ts n).map V.int):=SqL.of (s4 _ _ e3)
  have x1:((jab ts n).map V.int)[i]? = some (((jab ts n).map V.int)[i]'(by rw [List.length_map]; omega)):=List.getElem?_eq_getElem _
  refine ⟨⟨_,_,z1,x1⟩,?_⟩
  rintro y H' ⟨rfl,hy⟩
  obtain ⟨m,hm,rfl⟩:=jd4 (hy _ z1)
  have ep':=s4 _ _ epd2
  have hp:=jbh (jda wok (List.mem_of_getElem? hm))
  simp_arith [ep',hp]
  refine ⟨_,ez,?_,_,rfl,jaz s4 hz,?_⟩
  ·rw [List.length_map,List.length_map,List.length_take]
   exact szl' (by omega)
  ·rw [ja1,jaj hm,List.map_append,List.map_append]
   rfl
 rintro σ' H3 ⟨w1,rfl,s3,ez⟩
 refine ⟨⟨_,SqL.of (s3 _ _ e3),by rw [List.length_map]; omega⟩,?_⟩
 rw [List.take_length] at ez
 refine ⟨z,_,rfl,ez,?_⟩
 have e33:=s3 _ _ e3
 have epd3:=s3 _ _ epd2
 have s13:=s12.trans s3
 have hcost:((jab ts n).map (prc ps)).sum = jdm ps (jab ts n):=rfl
 rw [hcost]
 walk_at "RD"
 subst hR
 refine jaa fun R hR=>?_
 simp_arith [jam,e33,List.length_map]
 by_cases c1:(jab ts n).length < 2
 ·rw [decide_eq_true (show ((jab ts n).length:Int) < 2 by omega)]
  walk_at "RD"
  have h0:=h _ s13
  unfold jd1 at h0
  rw [decide_eq_false (show ¬ 2 ≤ (jab ts n).length by omega),Bool.false_and,Bool.false_and] at h0
  exact h0
 rw [decide_eq_false (show ¬ ((jab ts n).length:Int) < 2 by omega)]
 simp_arith [epd3,jbh hn]
 by_cases c2:jdm ps (jab ts n) ≤ prc ps n
 ·rw [decide_eq_true c2]
  walk_at "RD"
  have h0:=h _ s13
  unfold jd1 at h0
  rw [decide_eq_false (show ¬ prc ps n < jdm ps (jab ts n) by omega),Bool.and_false,Bool.and_false] at h0
  exact h0
 rw [decide_eq_false c2]
 walk_at "RD"
 subst hR
 have fin:jd1 ps ts n = (!(ts.any fun t=>decide (t.1 ∈ jab ts n) && decide (t.2 ∈ jab ts n)) && decide (jdm ps (jab ts n) - minL ((jab ts n).map (prc ps)) ≤ prc ps n)):=by
  unfold jd1
  rw [jot lt,decide_eq_true (show 2 ≤ (jab ts n).length by omega),decide_eq_true (show prc ps n < jdm ps (jab ts n) by omega),Bool.true_and,Bool.and_true]
 rw [fin] at h
 refine jaa fun R hR=>?_
 refine jbq (Itl K ta) H3 (fun R' hR'=>?_) (jcd (K:=K) (a:=ta) (xs:=ys) (fun i σ H4=>∃ v1 v2,σ = [some (.ref u),some (.int n),some (.ref pd),some (.ref a),some (.int (jdm ps (jab ts n))),v1,v2]∧Same H3 H4∧((ts.take i).any fun t=>decide (t.1 ∈ jab ts n) && decide (t.2 ∈ jab ts n)) = false) ⟨none,none,rfl,Same.refl _,rfl⟩ (fun i σ H4 _ ⟨_,_,_,s4,_⟩=>SqL.of (s4 _ _ (s13 _ _ et))) ?_ ?_)
 ·unfold jc8
  simp_arith [jam,s13 _ _ eu,at1]
  exact ⟨ta,rfl,⟨_,SqL.of (s13 _ _ et)⟩,hR'⟩
 ·rintro i x σ H4 hx ⟨v1,v2,rfl,s4,hno⟩
  obtain ⟨q,hq,px⟩:=jao pt hx
  obtain ⟨t,rfl,ht⟩:=px.same (s13.trans s4)
  have step:((ts.take (i + 1)).any fun t=>decide (t.1 ∈ jab ts n) && decide (t.2 ∈ jab ts n)) = (decide (q.1 ∈ jab ts n) && decide (q.2 ∈ jab ts n)):=by
   rw [jaj hq,List.any_append,hno,Bool.false_or,List.any_cons,List.any_nil,Bool.or_false]
  simp_arith [ht,jam,s4 _ _ e33,jef,flat_ints,jco]
  by_cases q1:q.1 ∈ jab ts n
  ·by_cases q2:q.2 ∈ jab ts n
   ·simp only [q1,q2,decide_true,if_true]
    have:(ts.any fun t=>decide (t.1 ∈ jab ts n) && decide (t.2 ∈ jab ts n)) = true:=by
     rw [List.any_eq_true]
     exact ⟨q,List.mem_of_getElem? hq,by simp [q1,q2]⟩
    have h0:=h _ (s13.trans s4)
    rw [this,Bool.not_true,Bool.false_and] at h0
    exact h0
   ·simp only [q1,q2,decide_true,decide_false,Bool.false_eq_true,if_false,if_true]
    exact ⟨_,_,rfl,s4,by rw [step,decide_eq_false q2,Bool.and_false]⟩
  ·simp only [q1,decide_false,Bool.false_eq_true,if_false]
   exact ⟨_,_,rfl,s4,by rw [step,decide_eq_false q1,Bool.false_and]⟩
 rintro σ H4 ⟨v1,v2,rfl,s4,hno⟩
 rw [show ys.length = ts.length from Paired.length pt,List.take_length] at hno
 rw [hno,Bool.not_false,Bool.true_and] at h
 have s14:=s13.trans s4
 have e34:=s4 _ _ e33
 have epd4:=s4 _ _ epd3
 subst hR
 walk_at "RD"
 refine jb4 (Itl K a) H4 (fun R hR=>?_) (fun z hz=>jb9 (jab ts n).length (fun i σ' Hc=>∃ w1,σ' = [w1,some (.ref pd)]∧Same H4 Hc∧Hc z = some (.lst ((((jab ts n).take i).map (prc ps)).map V.int))) ⟨none,rfl,ja5 hz _,ja1⟩ ?_ ?_)
 ·unfold jc8
  walk_at "RD"
  exact ⟨a,rfl,⟨_,SqL.of e34⟩,hR⟩
 ·rintro i σ' Hc hi ⟨w1,rfl,s5,ez⟩
  have z1:SqL K Hc a ((jab ts n).map V.int):=SqL.of (s5 _ _ e34)
  have x1:((jab ts n).map V.int)[i]? = some (((jab ts n).map V.int)[i]'(by rw [List.length_map]; omega)):=List.getElem?_eq_getElem _
  refine ⟨⟨_,_,z1,x1⟩,?_⟩
  rintro y H' ⟨rfl,hy⟩
  obtain ⟨m,hm,rfl⟩:=jd4 (hy _ z1)
  have ep':=s5 _ _ epd4
  have hp:=jbh (jda wok (List.mem_of_getElem? hm))
  simp_arith [ep',hp]
  refine ⟨_,ez,?_,_,rfl,jaz s5 hz,?_⟩
  ·rw [List.length_map,List.length_map,List.length_take]
   exact szl' (by omega)
  ·rw [ja1,jaj hm,List.map_append,List.map_append]
   rfl
 rintro σ' H5 ⟨w1,rfl,s5,ez⟩
 refine ⟨⟨_,SqL.of (s5 _ _ e34),by rw [List.length_map]; omega⟩,?_⟩
 rw [List.take_length] at ez
 refine ⟨z,_,rfl,ez,fun e=>?_,fun m hm1 hm2=>?_⟩
 ·have:=congrArg List.length e
  rw [List.length_map] at this
  simp at this
  rw [this] at c1
  simp at c1
 rw [jnj hm1 hm2]
 simp_arith [s5 _ _ epd4,jbh hn]
 exact h _ (s14.trans s5)
theorem jib {f:Addr} {fd:FuncData} {f_after:Addr} {d_after:FuncData} {f_back:Addr} {d_back:FuncData} {f_forth:Addr} {d_forth:FuncData} (B:Blt mg) (D:DefAt K mg "_law_unfit" (top 81) ["_law_web","_law_step"] f fd) (D_after:DefAt K mg "after" (top 68) ["web","step"] f_after d_after) (G_after:FnOk P w K mg base (CXE P w) 7 f_after d_after ["web","step"] (jje C_NoWeb C_NoStep [])) (D_back:DefAt K mg "back" (top 69) ["web","step","some"] f_back d_back) (G_back:FnOk P w K mg base (CXE P w) 7 f_back d_back ["web","step","some"] (jeb C_NoWeb C_NoStep)) (D_forth:DefAt K mg "forth" (top 70) ["web","step","some"] f_forth d_forth) (G_forth:FnOk P w K mg base (CXE P w) 7 f_forth d_forth ["web","step","some"] (jeb C_NoWeb C_NoStep)) (X_NoStep:ClsX K mg "NoStep" C_NoStep f_NoStep) (hfa:PySem.W.findIn K (.ref C_NoStep) "at" = some none):FnOk P w K mg base CX0 8 f fd ["_law_web","_law_step"] jkp:=by
 have sc:FnScope ["_law_web","_law_step","_law_count","_law_turn","e"] ["_law_web","_law_step"] (ja8 (top 81)):=⟨rfl,rfl,rfl,by decide +kernel,rfl,by decide +kernel,by decide +kernel⟩
 refine D.F.ok sc (fun vs H Q E h=>?_) (fun cdv A outer s H vs Q E hr h=>?_)
 ·obtain ⟨v,x,ps,ts,d,rfl,_⟩:=h
  rfl
 obtain ⟨v,x,ps,ts,d,rfl,hw,wok,hd,nh,fit,hno,h⟩:=h
 have hu:=jb5 hr
 have hu0:_ < PySem.cLine:=Nat.lt_of_succ_lt hu
 refine ⟨_,(ja3 (jal (i:=2) sc.nd rfl (Or.inl rfl) ja4) (ja3 (jcl PassesOwn.never rfl (jes rfl B.range (ja0 ja4 ja2)) (jaf (i:=3) sc.nd rfl (Or.inl rfl)) (ja6 (jp5 (mt:=fun cl=>cl = .ref C_NoStep) (i:=4) ⟨rfl,rfl,rfl,fun _=>rfl⟩ sc.nd rfl rfl rfl X_NoStep.m (fun cl e=>e ▸ jpe X_NoStep.xin rfl) (fun pins EX=>(ja6 (jba (jav q_eq (qv 3) ja4 (jae _)) (ja6 (jb8 (jbj G_after (hr.mono (by decide)) rfl D_after.m D_after.F.kp D_after.b .nil (jfi ⟨rfl,rfl,rfl,fun _=>rfl⟩) (ja0 (qv 0) (ja0 (qv 1) ja2))))) (ja6 (jba (jav q_eq (qv 3) ja4 (jae _)) (ja6 (jb8 (jbj G_back (hr.mono (by decide)) rfl D_back.m D_back.F.kp D_back.b .nil (jfi ⟨rfl,rfl,rfl,fun _=>rfl⟩) (ja0 (qv 0) (ja0 (qv 1) (ja0 (jd3 ja2) ja2)))))) (ja6 (jb8 (jbj G_forth (hr.mono (by decide)) rfl D_forth.m D_forth.F.kp D_forth.b .nil (jfi ⟨rfl,rfl,rfl,fun _=>rfl⟩) (ja0 (qv 0) (ja0 (qv 1) (ja0 (jd3 ja2) ja2))))))))))) (fun a=>(ja6 (jal (i:=2) sc.nd rfl (Or.inl rfl) (jar jca (qv 2) (jbk jn1 rfl B.int PyProof.Rows.boot_int (ja0 (jas q_eq (jqt X_NoStep.y hfa (qv 4) rfl) ja4 (jae _)) ja2))))))))) (ja6 (jag (jas q_eq (qv 2) ja4 (jae _)))))),?_⟩
 refine jaa fun R hR=>?_
 walk_at "RD"
 subst hR
 refine jaa fun R hR=>?_
 have ref:∀ (H1 H2:Hp) (E:XK),Same H H1→Same H1 H2→(∀ dx H',H1 dx = none→Same H1 H'→H' dx = some (xdO dx [("at",.int 0)])→E (.ref C_NoStep) (some dx) H')→RefW C_NoWeb H2 E (webD ps ts)∧∀ qs us,webD ps ts = webD qs us→WebOk qs us→Rep H2 d x∧NoHv d∧jdo d∧fitB qs us d = false∧Ref1 C_NoStep H2 E "at" (.int 0):=fun H1 H2 E s1 s2 hE=>by
  refine ⟨fun w n e=>?_,fun qs us e _=>?_⟩
  ·rw [jkg wok] at e
   cases e
  ·obtain ⟨rfl,rfl⟩:=jkh e
   exact ⟨Rep.same (s1.trans s2) _ hd,nh,fit,hno,fun dx H' h1 h2 h3=>hE dx H' (s2.free h1) (s2.trans h2) h3⟩
 refine jbq (Itr 0 3) H (fun R' hR'=>?_) (jfa (n:=3) (fun i σ H1=>∃ v1 v2,σ = [some v,some x,some (.int (i:Int)),v1,v2]∧Same H H1) ⟨none,none,rfl,Same.refl _⟩ ?_ ?_)
 ·unfold jr9
  walk_at "RD"
  exact ⟨3,rfl,by decide,by decide,hR'⟩
 ·rintro i σ H1 hi ⟨v1,v2,rfl,s1⟩
  simp_arith [tTry,Ends.unb]
  have hh:∀ (dx:Addr) (H5:Hp) (N:VK),(∀ H9,Same H1 H9→N (.int 0) H9)→H1 dx = none→Same H1 H5→H5 dx = some (xdO dx [("at",.int 0)])→∀ x9,H5 x9 = none→tXG C_NoStep (fVar 4) "at" [some v,some x,some (.int i),some (.int (0 + (i:Int))),some (.ref x9)] (upd H5 x9 (caO x9 (.ref C_NoStep) (some dx))) N:=fun dx H5 N hN h1 h2 ex x9 hx9=>by
   have ed2:upd H5 x9 (caO x9 (.ref C_NoStep) (some dx)) dx = some (xdO dx [("at",.int 0)]):=by rw [ja7 (ja9 ex hx9)]; exact ex
   have ec:upd H5 x9 (caO x9 (.ref C_NoStep) (some dx)) x9 = some (caO x9 (.ref C_NoStep) (some dx)):=ja1
   have s9:=ja5 hx9 (caO x9 (.ref C_NoStep) (some dx))
   generalize upd H5 x9 (caO x9 (.ref C_NoStep) (some dx)) = H9 at ed2 ec s9
   simp_arith [tXG]
   exact ⟨x9,dx,_,.int 0,rfl,ec,ed2,rfl,hN _ (h2.trans s9)⟩
  have hN:∀ H9,Same H1 H9→∃ v1 v2,([some v,some x,some (V.int ((i:Int) + if decide ((0:Int) = 0) = true then 1 else 0)),some (V.int (0 + (i:Int))),none]:St) = [some v,some x,some (.int ((i + 1:Nat):Int)),v1,v2]∧Same H H9:=fun H9 s9=>⟨_,_,by simp; exact ⟨rfl,rfl⟩,s1.trans s9⟩
  refine ite2 (fun _=>?_) (fun _=>ite2 (fun _=>?_) (fun _=>?_))
  ·refine ⟨v,webD ps ts,x,d,rfl,jct (hw.same s1),?_⟩
   refine ref H1 H1 _ s1 (Same.refl _) ?_
   exact fun dx H5 h1 h2 ex=>⟨rfl,hh dx H5 _ (fun H9 s9=>hN H9 s9) h1 h2 ex⟩
  ·intro p hp
   refine ⟨.ref p,v,webD ps ts,x,d,rfl,jct (hw.same (s1.trans (ja5 hp _))),?_⟩
   refine ref H1 (upd H1 p (.lst [])) _ s1 (ja5 hp _) ?_
   exact fun dx H5 h1 h2 ex=>⟨rfl,hh dx H5 _ (fun H9 s9=>hN H9 s9) h1 h2 ex⟩
  ·intro p hp
   refine ⟨.ref p,v,webD ps ts,x,d,rfl,jct (hw.same (s1.trans (ja5 hp _))),?_⟩
   refine ref H1 (upd H1 p (.lst [])) _ s1 (ja5 hp _) ?_
   exact fun dx H5 h1 h2 ex=>⟨rfl,hh dx H5 _ (fun H9 s9=>hN H9 s9) h1 h2 ex⟩
 ·rintro σ H1 ⟨v1,v2,rfl,s1⟩
  subst hR
  walk_at "RD"
  exact h _ s1
end
end My
namespace My
open PySem L2
section
variable {P:Program} {w:World} {K:PySem.W.Frag} {mg:Str→Option Value} {base:Heap} {c1 c2 c3 c4:Tok} {C_NoWeb f_NoWeb:Addr} {dI:FuncData}
def jow (K:PySem.W.Frag):Sp:=fun vs H Q _=>∃ a ns,vs = [.ref a]∧Scr K H a ns∧∀ H',Q (.bl true) H'
def atV:Dt→V
 | .int n=>.int n
 | .str s=>.str s
 | _=>.non
def flatD:Dt→Bool
 | .int _=>true
 | .str _=>true
 | .non=>true
 | _=>false
theorem rep_at {H:Hp} {d:Dt} (h:flatD d = true):Rep H d (atV d):=by
 cases d <;> first | (rw [Rep]; rfl) | cases h
theorem jmv {H:Hp}:∀ {as:List Dt},as.all flatD = true→Reps H as (as.map atV)
 | [],_=>by rw [List.map_nil,Reps]
 | a :: r,h=>by
  rw [List.all_cons,Bool.and_eq_true] at h
  rw [List.map_cons,Reps]
  exact ⟨_,_,rfl,rep_at h.1,jmv h.2⟩
def jdp (H:Hp) (x:V) (d:Dt):Prop:=∃ t as,x = .ref t∧H t = some (.tup (as.map atV))∧d = .tup as∧as.all flatD = true
theorem jdp.tups {H H':Hp} {x:V} {d:Dt} (h:jdp H x d) (s:TupS H H'):jdp H' x d:=by
 obtain ⟨t,as,e1,e2,e3,e4⟩:=h
 exact ⟨t,as,e1,s _ _ rfl e2,e3,e4⟩
theorem jdp.rep {H:Hp} {x:V} {d:Dt} (h:jdp H x d):Rep H d x:=by
 obtain ⟨t,as,rfl,e2,rfl,e4⟩:=h
 rw [Rep]
 exact ⟨t,_,rfl,e2,jmv e4⟩
theorem jci {H H':Hp} (s:TupS H H'):∀ {xs:List V} {ds:List Dt},Paired (jdp H) xs ds→Paired (jdp H') xs ds
 | _,_,.nil=>.nil
 | _,_,.cons r t=>.cons (r.tups s) (jci s t)
structure Unf (ps ts:List (Int × Int)) (d:Dt):Prop where
 nh:NoHv d
 fit:jdo d
 no:fitB ps ts d = false
theorem jqz {w:Str} {r:List Dt} (h:w ≠ (("halves":String):Str)):NoHv (.tup (.str w :: r)):=fun q e=>by
 injection e with e
 injection e with e _
 injection e with e
 exact h e
theorem jqk {as:List Dt} (h:as.length ≤ 900):jdo (.tup as):=fun ds e=>by cases e; exact h
theorem jr5 {ps ts:List (Int × Int)} (wok:WebOk ps ts):(1000:Int) ∉ ps.map (·.1):=fun h=>by
 obtain ⟨p,hp,e⟩:=List.mem_map.mp h
 have:=(wok.p.pos p hp).2
 omega
theorem jl4 {ps ts:List (Int × Int)} {n:Int} (hn:n ∈ ps.map (·.1)):fitB ps ts (.tup [.str (("fold":String):Str),.int n]) = jd1 ps ts n:=by
 show (([Dt.int n].all (jiq ps)) && fitW ps ts (("fold":String):Str) [n]) = _
 have e:[Dt.int n].all (jiq ps) = true:=by
  rw [List.all_cons,List.all_nil,Bool.and_true]
  exact decide_eq_true hn
 rw [e,Bool.true_and]
 unfold fitW
 rw [if_pos rfl]
 rfl
theorem unf1 {ps ts:List (Int × Int)} {n:Int} (hn:n ∈ ps.map (·.1)) (h:jd1 ps ts n = false):Unf ps ts (.tup [.str (("fold":String):Str),.int n]) :=
 ⟨jqz (by decide),jqk (by simp),(jl4 hn).trans h⟩
theorem unf0 {ps ts:List (Int × Int)} (wok:WebOk ps ts):Unf ps ts (.tup [.str (("fold":String):Str),.int 1000]) :=
 ⟨jqz (by decide),jqk (by decide),by
  show (([Dt.int 1000].all (jiq ps)) && _) = false
  rw [List.all_cons]
  show ((decide ((1000:Int) ∈ ps.map (·.1)) && _) && _) = false
  rw [decide_eq_false (jr5 wok),Bool.false_and,Bool.false_and]⟩
theorem jrb (ps ts:List (Int × Int)):depP (webD ps ts) ≤ 20:=by
 have h1:=jfd ps
 have h2:=jfd ts
 unfold webD prsD
 simp only [depP,jce]
 omega
theorem jrh {H:Hp} {F:Hp→V→Dt→Prop} {zs:List V} {ds:List Dt} (pz:Paired (F H) zs ds) {g:Int} (g0:0 ≤ g) (g1:g < zs.length):∃ x d,atI zs g = some x∧F H x d∧d ∈ ds:=by
 have hg:zs[g.toNat]? = some (zs[g.toNat]'(by omega)):=List.getElem?_eq_getElem _
 obtain ⟨d,hd,f⟩:=jao pz hg
 have e:=jdb hg
 rw [show ((g.toNat:Nat):Int) = g by omega] at e
 exact ⟨_,d,e,f,List.mem_of_getElem? hd⟩
theorem jfe {xs:List V} {k:Int} (h0:0 ≤ k):cutV xs (some k) none = xs.drop k.toNat:=by
 unfold cutV HT.sIx
 dsimp only
 rw [if_neg (by omega)]
 by_cases c:k.toNat ≤ xs.length
 ·rw [Nat.min_eq_left c,List.take_of_length_le (by rw [List.length_drop]; omega)]
 ·rw [Nat.min_eq_right (by omega),List.drop_eq_nil_of_le (Nat.le_refl _),List.drop_eq_nil_of_le (by omega)]
  simp
theorem joc {xs:List V} {k:Int} (h0:0 ≤ k):cutV xs none (some k) = xs.take k.toNat:=by
 unfold cutV HT.sIx
 dsimp only
 rw [List.drop_zero,if_neg (by omega),Nat.sub_zero]
 by_cases c:k.toNat ≤ xs.length
 ·rw [Nat.min_eq_left c]
 ·rw [Nat.min_eq_right (by omega),List.take_length,List.take_of_length_le (by omega)]
theorem jl9 {x:V} {xs:List V} {k:Int} (h0:0 ≤ k) (h1:k ≤ xs.length):cutV (x :: xs) (some 1) (some (k + 1)) = xs.take k.toNat:=by
 unfold cutV HT.sIx
 dsimp only
 rw [if_neg (by omega),if_neg (by omega),List.length_cons]
 rw [show min (1:Int).toNat (xs.length + 1) = 1 by simp,show min (k + 1).toNat (xs.length + 1) = k.toNat + 1 by omega]
 rfl
theorem jps {x:V} {xs:List V} {k:Int} (h0:0 ≤ k):cutV (x :: xs) (some (k + 1)) none = xs.drop k.toNat:=by
 rw [jfe (by omega),show (k + 1).toNat = k.toNat + 1 by omega]
 rfl
theorem jej {a b c d:Int} (h:jat a b = jat c d):(a = c∧b = d) ∨ (a = d∧b = c):=by
 unfold jat mn mx at h
 injection h with h1 h2
 split at h1 <;> split at h1 <;> split at h2 <;> split at h2 <;> omega
theorem jou {a b:Int} (h:a ≠ b):(jat a b).1 < (jat a b).2∧((jat a b).1 = a ∨ (jat a b).1 = b)∧((jat a b).2 = a ∨ (jat a b).2 = b):=by
 unfold jat mn mx
 dsimp only
 split <;> split <;> omega
theorem PlOk.of:∀ {qs:List (Int × Int)} {l s:Int},(∀ q ∈ qs,l < q.1∧q.1 ≤ 999∧1 ≤ q.2)→(qs.map (·.1)).Pairwise (· < ·)→s + sumP qs ≤ 1000000000000→PlOk l s qs
 | [],_,_,_,_,_=>trivial
 | p :: r,l,s,h1,h2,h3=>by
  rw [List.map_cons,List.pairwise_cons] at h2
  rw [jbb] at h3
  have g:=h1 p (List.mem_cons_self ..)
  have g2:=jml (ps:=r) fun z hz=>(h1 z (List.mem_cons_of_mem _ hz)).2.2
  exact ⟨⟨g.1,g.2.1,g.2.2,by omega⟩,PlOk.of (fun q hq=>⟨h2.1 _ (List.mem_map_of_mem hq),(h1 q (List.mem_cons_of_mem _ hq)).2⟩) h2.2 (by omega)⟩
theorem jpf {qs:List (Int × Int)} (h:qs.Pairwise jly) (nd:(qs.map (·.1)).Nodup):(qs.map (·.1)).Pairwise (· < ·):=by
 induction qs with
 | nil=>exact List.Pairwise.nil
 | cons p r ih =>
  rw [List.pairwise_cons] at h
  rw [List.map_cons,List.nodup_cons] at nd
  rw [List.map_cons,List.pairwise_cons]
  refine ⟨fun n hn=>?_,ih h.2 nd.2⟩
  obtain ⟨q,hq,rfl⟩:=List.mem_map.mp hn
  have:=h.1 q hq
  unfold jly at this
  have ne:p.1 ≠ q.1:=fun e=>nd.1 (by rw [e]; exact List.mem_map_of_mem hq)
  omega
theorem jm7 {H:Hp}:∀ {zs:List V} {as bs:List Int},Paired (PZt H) zs ((as.map V.int).zip (bs.map V.int))→Prs H zs (as.zip bs)
 | _,[],_,h=>by cases h; exact .nil
 | _,_ :: _,[],h=>by cases h; exact .nil
 | _,a :: as,b :: bs,h=>by
  cases h with
  | cons r t=>exact .cons r (jm7 t)
theorem jkf:∀ {as bs:List Int},as.length = bs.length→(as.zip bs).map (·.1) = as∧sumP (as.zip bs) = bs.sum∧∀ q ∈ as.zip bs,q.1 ∈ as∧q.2 ∈ bs
 | [],[],_=>⟨rfl,rfl,fun q hq=>(by cases hq)⟩
 | [],_ :: _,h=>by cases h
 | _ :: _,[],h=>by cases h
 | a :: as,b :: bs,h=>by
  obtain ⟨h1,h2,h3⟩:=jkf (as:=as) (bs:=bs) (by simpa using h)
  refine ⟨?_,?_,fun q hq=>?_⟩
  ·show a :: (as.zip bs).map (·.1) = a :: as
   rw [h1]
  ·show sumP ((a,b) :: as.zip bs) = _
   rw [jbb,h2,List.sum_cons]
  ·rcases List.mem_cons.mp hq with e | hq
   ·rw [e]; exact ⟨List.mem_cons_self ..,List.mem_cons_self ..⟩
   ·exact ⟨List.mem_cons_of_mem _ (h3 q hq).1,List.mem_cons_of_mem _ (h3 q hq).2⟩
theorem jhp {a b:List (Int × Int)} (h:a.Perm b):sumP a = sumP b:=by
 induction h with
 | nil=>rfl
 | cons x _ ih=>rw [jbb,jbb,ih]
 | swap x y l=>rw [jbb,jbb,jbb,jbb]; omega
 | trans _ _ h1 h2=>rw [h1,h2]
theorem jeu {α β:Type} {F:α→β→Prop}:∀ (k:Nat) {a:List α} {b:List β},Paired F a b→Paired F (a.drop k) (b.drop k)
 | 0,_,_,h=>h
 | k + 1,_,_,.nil=>by simp; exact .nil
 | k + 1,_,_,.cons r t=>jeu k t
theorem jet {α β:Type} {F:α→β→Prop}:∀ (k:Nat) {a:List α} {b:List β},Paired F a b→Paired F (a.take k) (b.take k)
 | 0,_,_,h=>by simp; exact .nil
 | k + 1,_,_,.nil=>by simp; exact .nil
 | k + 1,_,_,.cons r t=>.cons r (jet k t)
theorem List.nodup_iff_not_mem_take {l:List Int} {i:Nat} {x:Int} (nd:l.Nodup) (h:l[i]? = some x):x ∉ l.take i:=fun m=>by
 obtain ⟨j,hj⟩:=List.getElem?_of_mem m
 have hji:j < i:=by
  have:=(List.getElem?_eq_some_iff.mp hj).1
  rw [List.length_take] at this
  omega
 rw [List.getElem?_take,if_pos hji] at hj
 exact jcx nd hj h (by omega) rfl
theorem jd7 {ι:Type} {src:List (Option Nat)} {wi:TI} {g:TG} {tc:TT} {te:TE} {Q:VK} {σ:St} {H:Hp} (J:ι→It) (H1:ι→Hp) (ok:ι→Prop) (h1:∀ R:It→Hp→Prop,(∀ p,ok p→R (J p) (H1 p))→wi σ H R)
  (h2:∀ p,ok p→∀ l,H1 p l = none→joo (J p) src g tc te Q σ (H1 p) l):jov src wi g tc te σ H Q:=h1 _ h2
def jq4:Sp:=fun vs H Q _=>∃ st o m,vs = [.ref st,.int m]∧H st = some o∧StO o∧1 ≤ m∧m ≤ 38 ∧
 ∀ v H' o' ps ts,But st H H'→H' st = some o'→StO o'→jch H' v ps ts→WebOk ps ts→Q v H'
theorem jju {f:Addr} {fd:FuncData} {f_law_take:Addr} {d_law_take:FuncData} {f_law_places:Addr} {d_law_places:FuncData} {f_law_edge:Addr} {d_law_edge:FuncData} {f_law_tie:Addr} {d_law_tie:FuncData} (B:Blt mg) (D:DefAt K mg "_law_star" (top 77) ["_law_state","_law_most"] f fd) (D_law_take:DefAt K mg "_law_take" (top 73) ["_law_state","_law_many"] f_law_take d_law_take) (G_law_take:FnOk P w K mg base CX0 1 f_law_take d_law_take ["_law_state","_law_many"] jhr) (D_law_places:DefAt K mg "_law_places" (top 74) ["_law_state","_law_count"] f_law_places d_law_places) (G_law_places:FnOk P w K mg base CX0 2 f_law_places d_law_places ["_law_state","_law_count"] jkn) (D_law_edge:DefAt K mg "_law_edge" (top 76) ["_law_state","_law_prices_here"] f_law_edge d_law_edge) (G_law_edge:FnOk P w K mg base CX0 2 f_law_edge d_law_edge ["_law_state","_law_prices_here"] jq9) (D_law_tie:DefAt K mg "_law_tie" (top 75) ["_law_one","_law_other"] f_law_tie d_law_tie) (G_law_tie:FnOk P w K mg base CX0 1 f_law_tie d_law_tie ["_law_one","_law_other"] jq3):FnOk P w K mg base CX0 4 f fd ["_law_state","_law_most"] jq4:=by
 have sc:FnScope ["_law_state","_law_most","_law_leaves","_law_places_here","_law_turn","_law_names","_law_costs","_law_ties","_law_far","_law_one","_law_at"] ["_law_state","_law_most"] (ja8 (top 77)):=⟨rfl,rfl,rfl,by decide +kernel,rfl,by decide +kernel,by decide +kernel⟩
 refine D.F.ok sc (fun vs H Q E h=>?_) (fun cdv A outer s H vs Q E hr h=>?_)
 ·obtain ⟨st,o,m,rfl,_⟩:=h
  rfl
 obtain ⟨st,o,m,rfl,es,so,m0,m1,h⟩:=h
 have hu:=jb5 hr
 have hu0:_ < PySem.cLine:=Nat.lt_of_succ_lt hu
 refine ⟨_,(ja3 (jal (i:=2) sc.nd rfl (Or.inl rfl) (jad G_law_take (hr.mono (by decide)) rfl D_law_take.m D_law_take.F.kp D_law_take.b .nil jap (ja0 (qv 0) (ja0 (qv 1) ja2)))) (ja3 (jal (i:=3) sc.nd rfl (Or.inl rfl) (jad G_law_places (hr.mono (by decide)) rfl D_law_places.m D_law_places.F.kp D_law_places.b .nil jap (ja0 (qv 0) (ja0 (jar jca (jar jca ja4 (qv 2)) (jad G_law_take (hr.mono (by decide)) rfl D_law_take.m D_law_take.F.kp D_law_take.b .nil jap (ja0 (qv 0) (ja0 ja4 ja2)))) ja2)))) (ja3 (jal (i:=4) sc.nd rfl (Or.inl rfl) (jad G_law_take (hr.mono (by decide)) rfl D_law_take.m D_law_take.F.kp D_law_take.b .nil jap (ja0 (qv 0) (ja0 (jac jde rfl B.len PySem.boot_len (ja0 (qv 3) ja2)) ja2)))) (ja3 (jal (i:=5) sc.nd rfl (Or.inr rfl) (jc3 (CpScope.of (N:=["_law_place","_law_price"]) (src:=[none,none]) (by rfl)) rfl (jb0 (jar jp4 (jbn jhy (qv 3) (jbl (qv 4)) jdv) (jbn jhy (qv 3) jdv (jbl (qv 4))))) (fun _ _ _ _=>(jcj (n:=2) rfl (jan (jaf (i:=0) (jai (l:=["_law_place","_law_price"]) (by rfl)) rfl (Or.inl rfl)) (jan (jaf (i:=1) (jai (l:=["_law_place","_law_price"]) (by rfl)) rfl (Or.inl rfl)) jbr)))) (fun _ _ _ _=>jbs) (fun _ _ _ _=>(qv 0)))) (ja3 (jjo (i:=6) sc.nd rfl (Or.inl rfl) (CpScope.of (N:=["_law_place","_law_price"]) (src:=[none,none]) (by rfl)) rfl (jb0 (jar jp4 (jbn jhy (qv 3) (jbl (qv 4)) jdv) (jbn jhy (qv 3) jdv (jbl (qv 4))))) (fun _ _ _ _=>(jcj (n:=2) rfl (jan (jaf (i:=0) (jai (l:=["_law_place","_law_price"]) (by rfl)) rfl (Or.inl rfl)) (jan (jaf (i:=1) (jai (l:=["_law_place","_law_price"]) (by rfl)) rfl (Or.inl rfl)) jbr)))) (fun _ _ _ _=>jbs) (fun _ _ _ _=>(qv 1))) (ja3 (jba (PW.pt (jku (jav q_gt (qv 2) ja4 (jae _)) (jgi (jav q_gt (jad G_law_take (hr.mono (by decide)) rfl D_law_take.m D_law_take.F.kp D_law_take.b .nil jap (ja0 (qv 0) (ja0 ja4 ja2))) ja4 (jae _))))) (ja6 (ji0 (jac (jqp rfl) rfl B.max PyProof.Rows.boot_max (ja0 ja4 (ja0 (jad G_law_edge (hr.mono (by decide)) rfl D_law_edge.m D_law_edge.F.kp D_law_edge.b .nil jap (ja0 (qv 0) (ja0 (jbn jhy (qv 6) (jbl ja4) (jbl (jar jca (qv 2) ja4))) ja2))) ja2))) (ji3 (qv 6) ja4 jhz))) jah) (ja3 (jjo (i:=7) sc.nd rfl (Or.inl rfl) (CpScope.of (N:=["_law_one","_law_names"]) (src:=[none,some 5]) (by rfl)) rfl (jb0 (jbn jhy (qv 5) (jbl ja4) (jbl (jar jca (qv 2) ja4)))) (fun _ _ _ _=>(jaf (i:=0) (jai (l:=["_law_one","_law_names"]) (by rfl)) rfl (Or.inl rfl))) (fun _ _ _ _=>jbs) (fun _ _ _ _=>(jad G_law_tie (hr.mono (by decide)) rfl D_law_tie.m D_law_tie.F.kp D_law_tie.b .nil jap (ja0 (jaq q_ix (qv 1) ja4 (fun _ _=>rfl)) (ja0 (qv 0) ja2))))) (ja3 (jcl PassesOwn.never rfl (jb0 (jbn jhy (qv 5) (jbl (jar jca (qv 2) ja4)) jdv)) (jaf (i:=8) sc.nd rfl (Or.inl rfl)) (ja6 (jcl PassesOwn.never rfl (jb0 (jbn jhy (qv 5) (jbl ja4) (jbl (jar jca (qv 2) ja4)))) (jaf (i:=9) sc.nd rfl (Or.inl rfl)) (ja6 (jba (jav q_eq (jad G_law_take (hr.mono (by decide)) rfl D_law_take.m D_law_take.F.kp D_law_take.b .nil jap (ja0 (qv 0) (ja0 ja4 ja2))) ja4 (jae _)) (ja6 (jb8 (q_bm PySem.F.plainAttrs_list PySem.F.slot_list_append PySem.F.type_list_append jdf (qv 7) (ja0 (jad G_law_tie (hr.mono (by decide)) rfl D_law_tie.m D_law_tie.F.kp D_law_tie.b .nil jap (ja0 (qv 8) (ja0 (qv 9) ja2))) ja2)))) jah))))) (ja3 (jba (PW.pt (jku (jav q_gt (qv 2) ja4 (jae _)) (jgi (jav q_eq (jad G_law_take (hr.mono (by decide)) rfl D_law_take.m D_law_take.F.kp D_law_take.b .nil jap (ja0 (qv 0) (ja0 ja4 ja2))) ja4 (jae _))))) (ja3 (jal (i:=10) sc.nd rfl (Or.inl rfl) (jad G_law_take (hr.mono (by decide)) rfl D_law_take.m D_law_take.F.kp D_law_take.b .nil jap (ja0 (qv 0) (ja0 (jar jhx (qv 2) ja4) ja2)))) (ja6 (jb8 (q_bm PySem.F.plainAttrs_list PySem.F.slot_list_append PySem.F.type_list_append jdf (qv 7) (ja0 (jad G_law_tie (hr.mono (by decide)) rfl D_law_tie.m D_law_tie.F.kp D_law_tie.b .nil jap (ja0 (jaq q_ix (qv 5) (jar jca ja4 (qv 10)) (fun _ _=>rfl)) (ja0 (jaq q_ix (qv 5) (jar jca ja4 (qv 10)) (fun _ _=>rfl)) ja2))) ja2))))) jah) (ja6 (jag (jdg (ja0 (jac jg8 rfl B.sorted PyProof.Rows.boot_sorted (ja0 (jln rfl rfl B.list rfl B.zip (ja0 (qv 5) (ja0 (qv 6) ja2))) ja2)) (ja0 (jac jg8 rfl B.sorted PyProof.Rows.boot_sorted (ja0 (qv 7) ja2)) ja2)))))))))))))),?_⟩
 refine jaa fun R hR=>?_
 walk_at "RD"
 refine ⟨st,o,m,rfl,es,so,by omega,by omega,fun lv o1 lv0 lv1 so1=>?_⟩
 have b1:=But.at st H o1
 have e1:upd H st o1 st = some o1:=ja1
 generalize upd H st o1 = H1 at b1 e1
 walk_at "RD"
 subst hR
 refine jaa fun R hR=>?_
 walk_at "RD"
 refine ⟨st,o1,3,rfl,e1,so1,by decide,by decide,fun d3 o2 d30 d31 so2=>?_⟩
 have b2:=b1.trans (But.at st H1 o2)
 have e2:upd H1 st o2 st = some o2:=ja1
 generalize upd H1 st o2 = H2 at b2 e2
 walk_at "RD"
 refine ⟨st,o2,1 + lv + d3,rfl,e2,so2,by omega,by omega,fun r HA oA xs ps hr0 bA eA soA er pp hlen dr=>?_⟩
 have bHA:=b2.trans bA
 have nr:r ≠ st:=fun z=>by rw [z,e2] at hr0; cases hr0
 have hlx:xs.length = ps.length:=Paired.length pp
 walk_at "RD"
 subst hR
 refine jaa fun R hR=>?_
 simp_arith [jam,er]
 refine ⟨st,oA,(xs.length:Int),rfl,eA,soA,by omega,by omega,fun tn oC tn0 tn1 soC=>?_⟩
 have bC:=bHA.trans (But.at st HA oC)
 have eC:upd HA st oC st = some oC:=ja1
 have erC:=But.at st HA oC _ _ nr er
 have ppC:Prs (upd HA st oC) xs ps:=Prs.tups ((But.at st HA oC).tups eA soA.imm) pp
 generalize upd HA st oC = HC at bC eC erC ppC
 clear bHA bA eA er pp b2 b1 e1 e2 hr0
 obtain ⟨rot,hrot⟩:∃ rot,rot = ps.drop tn.toNat ++ ps.take tn.toNat:=⟨_,rfl⟩
 have ppr:Prs HC (xs.drop tn.toNat ++ xs.take tn.toNat) rot:=by
  rw [hrot]
  exact jdw (jeu _ ppC) (jet _ ppC)
 have hlr:(xs.drop tn.toNat ++ xs.take tn.toNat).length = rot.length:=Paired.length ppr
 have hrp:rot.Perm ps:=by
  rw [hrot]
  exact List.perm_append_comm.trans (by rw [List.take_append_drop])
 have hrl:rot.length = ps.length:=hrp.length_eq
 have plok:=dr.pl (s:=0) (by omega) (by omega)
 have pos:=plok.pos
 obtain ⟨drl,drs⟩:=dr.le
 have rnd:(rot.map (·.1)).Nodup:=((hrp.map (·.1)).nodup_iff).mpr plok.nodup
 have rk:∀ n ∈ rot.map (·.1),-1 < n∧n ≤ 999:=fun n hn=>by
  obtain ⟨p,hp,rfl⟩:=List.mem_map.mp hn
  have hp:=hrp.mem_iff.mp hp
  exact ⟨plok.gt p hp,(pos p hp).2⟩
 have rc1:∀ c ∈ rot.map (·.2),1 ≤ c:=fun c hc=>by
  obtain ⟨p,hp,rfl⟩:=List.mem_map.mp hc
  exact (pos p (hrp.mem_iff.mp hp)).1
 have rcs:(rot.map (·.2)).sum ≤ 40000000000:=by
  have:(rot.map (·.2)).sum = sumP ps:=jhp hrp
  omega
 walk_at "RD"
 subst hR
 refine jaa fun R hR=>?_
 refine jd7 (ι:=Addr × Hp) (fun j=>Itl K j.1) (fun j=>j.2) (fun j=>Same HC j.2∧j.2 j.1 = some (.lst (xs.drop tn.toNat ++ xs.take tn.toNat))) (fun R' hR'=>?_) (fun j0 ok0 nl hz=>?_)
 ·unfold jc8
  simp_arith [erC]
  intro p1 hp1
  have q1:=ja5 hp1 (.lst (cutV xs (some tn) none))
  have f1:upd HC p1 (.lst (cutV xs (some tn) none)) p1 = some (.lst (cutV xs (some tn) none)):=ja1
  generalize upd HC p1 (.lst (cutV xs (some tn) none)) = Hp at q1 f1
  have erp:=q1 _ _ erC
  simp only [erp]
  intro p2 hp2
  have q2:=ja5 hp2 (.lst (cutV xs none (some tn)))
  have f2:upd Hp p2 (.lst (cutV xs none (some tn))) p2 = some (.lst (cutV xs none (some tn))):=ja1
  generalize upd Hp p2 (.lst (cutV xs none (some tn))) = Hq at q2 f2
  have f1q:=q2 _ _ f1
  simp only [f1q,f2]
  rw [jfe tn0,joc tn0]
  refine ⟨szl (by rw [List.length_drop,List.length_take]; omega),?_⟩
  intro p3 hp3
  exact ⟨p3,rfl,⟨_,SqL.of ja1⟩,hR' (p3,_) ⟨q1.trans (q2.trans (ja5 hp3 _)),ja1⟩⟩
 obtain ⟨rl,HD⟩:=j0
 obtain ⟨sD,erl⟩:=ok0
 dsimp only at sD erl hz
 have ppD:Prs HD (xs.drop tn.toNat ++ xs.take tn.toNat) rot:=Prs.same sD ppr
 refine jb9 rot.length (fun i σ' Hc=>∃ w1 w2,σ' = [w1,w2]∧Same HD Hc∧Hc nl = some (.lst (((rot.take i).map (·.1)).map V.int))) ⟨none,none,rfl,ja5 hz _,ja1⟩ ?_ ?_
 ·rintro i σ' Hc hi ⟨w1,w2,rfl,s4,ez⟩
  have z1:SqL K Hc rl (xs.drop tn.toNat ++ xs.take tn.toNat):=SqL.of (s4 _ _ erl)
  have x1:(xs.drop tn.toNat ++ xs.take tn.toNat)[i]? = some ((xs.drop tn.toNat ++ xs.take tn.toNat)[i]'(by rw [hlr]; omega)):=List.getElem?_eq_getElem _
  refine ⟨⟨_,_,z1,x1⟩,?_⟩
  rintro y H' ⟨rfl,hy⟩
  obtain ⟨q,hq,pq⟩:=jao ppD (hy _ z1)
  obtain ⟨t,rfl,ht⟩:=pq.same s4
  simp_arith [ht]
  refine ⟨_,ez,?_,_,_,rfl,jaz s4 hz,?_⟩
  ·rw [List.length_map,List.length_map,List.length_take]
   exact szl' (by omega)
  ·rw [ja1,jaj hq,List.map_append,List.map_append]
   rfl
 rintro σ' HE ⟨w1,w2,rfl,sE,ez⟩
 refine ⟨⟨_,SqL.of (sE _ _ erl),by rw [hlr]; exact Nat.le_refl _⟩,?_⟩
 rw [List.take_length] at ez
 have sCE:=sD.trans sE
 have enl:=ez
 have nnl:nl ≠ st:=fun z=>by rw [z,sD _ _ eC] at hz; cases hz
 have bE:But st H HE:=fun b u nb q=>sCE _ _ (bC _ _ nb q)
 have eE:=sCE _ _ eC
 have erE:=sCE _ _ erC
 have pprE:=Prs.same sCE ppr
 clear sD sE ez erl ppD hz bC eC erC ppC ppr sCE
 walk_at "RD"
 subst hR
 refine jaa fun R hR=>?_
 refine jd7 (ι:=Addr × Hp) (fun j=>Itl K j.1) (fun j=>j.2) (fun j=>Same HE j.2∧j.2 j.1 = some (.lst (xs.drop tn.toNat ++ xs.take tn.toNat))) (fun R' hR'=>?_) (fun j0 ok0 cl hz=>?_)
 ·unfold jc8
  simp_arith [erE]
  intro p1 hp1
  have q1:=ja5 hp1 (.lst (cutV xs (some tn) none))
  have f1:upd HE p1 (.lst (cutV xs (some tn) none)) p1 = some (.lst (cutV xs (some tn) none)):=ja1
  generalize upd HE p1 (.lst (cutV xs (some tn) none)) = Hp at q1 f1
  have erp:=q1 _ _ erE
  simp only [erp]
  intro p2 hp2
  have q2:=ja5 hp2 (.lst (cutV xs none (some tn)))
  have f2:upd Hp p2 (.lst (cutV xs none (some tn))) p2 = some (.lst (cutV xs none (some tn))):=ja1
  generalize upd Hp p2 (.lst (cutV xs none (some tn))) = Hq at q2 f2
  have f1q:=q2 _ _ f1
  simp only [f1q,f2]
  rw [jfe tn0,joc tn0]
  refine ⟨szl (by rw [List.length_drop,List.length_take]; omega),?_⟩
  intro p3 hp3
  exact ⟨p3,rfl,⟨_,SqL.of ja1⟩,hR' (p3,_) ⟨q1.trans (q2.trans (ja5 hp3 _)),ja1⟩⟩
 obtain ⟨rl,HD⟩:=j0
 obtain ⟨sD,erl⟩:=ok0
 dsimp only at sD erl hz
 have ppD:Prs HD (xs.drop tn.toNat ++ xs.take tn.toNat) rot:=Prs.same sD pprE
 refine jb9 rot.length (fun i σ' Hc=>∃ w1 w2,σ' = [w1,w2]∧Same HD Hc∧Hc cl = some (.lst (((rot.take i).map (·.2)).map V.int))) ⟨none,none,rfl,ja5 hz _,ja1⟩ ?_ ?_
 ·rintro i σ' Hc hi ⟨w1,w2,rfl,s4,ez⟩
  have z1:SqL K Hc rl (xs.drop tn.toNat ++ xs.take tn.toNat):=SqL.of (s4 _ _ erl)
  have x1:(xs.drop tn.toNat ++ xs.take tn.toNat)[i]? = some ((xs.drop tn.toNat ++ xs.take tn.toNat)[i]'(by rw [hlr]; omega)):=List.getElem?_eq_getElem _
  refine ⟨⟨_,_,z1,x1⟩,?_⟩
  rintro y H' ⟨rfl,hy⟩
  obtain ⟨q,hq,pq⟩:=jao ppD (hy _ z1)
  obtain ⟨t,rfl,ht⟩:=pq.same s4
  simp_arith [ht]
  refine ⟨_,ez,?_,_,_,rfl,jaz s4 hz,?_⟩
  ·rw [List.length_map,List.length_map,List.length_take]
   exact szl' (by omega)
  ·rw [ja1,jaj hq,List.map_append,List.map_append]
   rfl
 rintro σ' HF ⟨w1,w2,rfl,sE,ez⟩
 refine ⟨⟨_,SqL.of (sE _ _ erl),by rw [hlr]; exact Nat.le_refl _⟩,?_⟩
 rw [List.take_length] at ez
 have sEF:=sD.trans sE
 have ecl:=ez
 have ncl:cl ≠ st:=fun z=>by rw [z,sD _ _ eE] at hz; cases hz
 have nnc:nl ≠ cl:=fun z=>by rw [← z,sD _ _ enl] at hz; cases hz
 have hclH:H cl = none:=by
  cases q:H cl with
  | none=>rfl
  | some u=>rw [sD _ _ (bE _ _ ncl q)] at hz; cases hz
 have bF:But st H HF:=fun b u nb q=>sEF _ _ (bE _ _ nb q)
 have eF:=sEF _ _ eE
 have enF:=sEF _ _ enl
 clear sD sE ez erl ppD hz bE eE erE pprE enl sEF
 obtain ⟨ns,hns⟩:∃ ns,ns = rot.map (·.1):=⟨_,rfl⟩
 obtain ⟨cs,hcs⟩:∃ cs,cs = rot.map (·.2):=⟨_,rfl⟩
 rw [← hns] at rnd rk enF
 rw [← hcs] at rc1 rcs ecl
 have hnl:ns.length = rot.length:=by rw [hns,List.length_map]
 have hcl:cs.length = rot.length:=by rw [hcs,List.length_map]
 clear hns hcs
 obtain ⟨c0,nr2,rfl⟩:∃ c0 nr2,ns = c0 :: nr2:=by
  cases ns with
  | nil=>exfalso; simp at hnl; omega
  | cons a b=>exact ⟨a,b,rfl⟩
 rw [List.length_cons] at hnl
 obtain ⟨k0,cr,rfl⟩:∃ k0 cr,cs = k0 :: cr:=by
  cases cs with
  | nil=>exfalso; simp at hcl; omega
  | cons a b=>exact ⟨a,b,rfl⟩
 have hcr:=hcl
 rw [List.length_cons] at hcr
 have hlvn:lv ≤ nr2.length:=by omega
 have hlvc:lv ≤ cr.length:=by omega
 rw [List.nodup_cons] at rnd
 walk_at "RD"
 subst hR
 refine jaa fun R hR=>?_
 have F:∀ (cs:List Int) (HG:Hp) (oG:HO),cs.length = rot.length→(∀ c ∈ cs,1 ≤ c)→cs.sum ≤ 90000000000→But st H HG→HG st = some oG→StO oG→HG nl = some (.lst ((c0 :: nr2).map V.int))→HG cl = some (.lst (cs.map V.int))→R { nx:=fun _ H'=>Q .non H',rt:=Q } [some (.ref st),some (.int m),some (.int lv),some (.ref r),some (.int tn),some (.ref nl),some (.ref cl),none,none,none,none] HG:=by
  intro cs HG oG hcl hc1 hcs2 bG eG soG enG ecG
  subst hR
  obtain ⟨Lv,hLv⟩:∃ Lv,Lv = nr2.take lv.toNat:=⟨_,rfl⟩
  obtain ⟨Fr,hFr⟩:∃ Fr,Fr = nr2.drop lv.toNat:=⟨_,rfl⟩
  have hsp:nr2 = Lv ++ Fr:=by rw [hLv,hFr,List.take_append_drop]
  have hLl:Lv.length = lv.toNat:=by rw [hLv,List.length_take]; omega
  have hFl:Fr.length ≤ 2:=by rw [hFr,List.length_drop]; omega
  have cutL:cutV ((c0 :: nr2).map V.int) (some 1) (some (lv + 1)) = Lv.map V.int:=by
   rw [List.map_cons,jl9 lv0 (by rw [List.length_map]; exact hlvn),← List.map_take,hLv]
  have cutF:cutV ((c0 :: nr2).map V.int) (some (lv + 1)) none = Fr.map V.int:=by
   rw [List.map_cons,jps lv0,← List.map_drop,hFr]
  have cutL':cutV (V.int c0 :: nr2.map V.int) (some 1) (some (lv + 1)) = Lv.map V.int:=cutL
  have cutF':cutV (V.int c0 :: nr2.map V.int) (some (lv + 1)) none = Fr.map V.int:=cutF
  have nd2:=rnd.2
  rw [hsp] at nd2
  obtain ⟨ndL,ndF,ndLF⟩:=List.nodup_append.mp nd2
  have cL:∀ k ∈ Lv,c0 ≠ k:=fun k hk e=>rnd.1 (by rw [e,hsp]; exact List.mem_append_left _ hk)
  have cF:∀ f ∈ Fr,c0 ≠ f:=fun f hf e=>rnd.1 (by rw [e,hsp]; exact List.mem_append_right _ hf)
  have kin:∀ n ∈ c0 :: nr2,n ∈ c0 :: nr2:=fun n hn=>hn
  have inL:∀ k ∈ Lv,k ∈ c0 :: nr2:=fun k hk=>List.mem_cons_of_mem _ (by rw [hsp]; exact List.mem_append_left _ hk)
  have inF:∀ k ∈ Fr,k ∈ c0 :: nr2:=fun k hk=>List.mem_cons_of_mem _ (by rw [hsp]; exact List.mem_append_right _ hk)
  refine jaa fun R1 hR1=>?_
  refine jd7 (ι:=Addr × Hp) (fun j=>Itl K j.1) (fun j=>j.2) (fun j=>Same HG j.2∧j.2 j.1 = some (.lst (Lv.map V.int))) (fun R' hR'=>?_) (fun j0 ok0 tl htl=>?_)
  ·unfold jc8
   simp_arith [enG,cutL']
   intro p1 hp1
   exact ⟨p1,rfl,⟨_,SqL.of ja1⟩,hR' (p1,_) ⟨ja5 hp1 _,ja1⟩⟩
  obtain ⟨sl,H5⟩:=j0
  obtain ⟨s5,esl⟩:=ok0
  dsimp only at s5 esl htl
  have en5:=s5 _ _ enG
  refine jb9 Lv.length (fun i σ' Hc=>∃ w1,σ' = [w1,some (.ref nl)]∧Same H5 Hc∧∃ vs,Hc tl = some (.lst vs)∧Prs Hc vs ((Lv.take i).map (jat c0))) ⟨none,rfl,ja5 htl _,[],ja1,.nil⟩ ?_ ?_
  ·rintro i σ' Hc hi ⟨w1,rfl,s6,vs,ez,pv⟩
   have z1:SqL K Hc sl (Lv.map V.int):=SqL.of (s6 _ _ esl)
   have x1:(Lv.map V.int)[i]? = some ((Lv.map V.int)[i]'(by rw [List.length_map]; omega)):=List.getElem?_eq_getElem _
   refine ⟨⟨_,_,z1,x1⟩,?_⟩
   rintro y H' ⟨rfl,hy⟩
   obtain ⟨k,hk,rfl⟩:=jd4 (hy _ z1)
   have hvl:vs.length ≤ 40:=by
    have:=Paired.length pv
    rw [List.length_map,List.length_take] at this
    omega
   have en6:=s6 _ _ en5
   rw [List.map_cons] at en6
   simp_arith [jam,en6,at0]
   refine ⟨c0,k,rfl,fun t ht=>?_⟩
   have q7:=ja5 ht (.tup [.int (jat c0 k).1,.int (jat c0 k).2])
   have et:upd H' t (.tup [.int (jat c0 k).1,.int (jat c0 k).2]) t = some (.tup [.int (jat c0 k).1,.int (jat c0 k).2]):=ja1
   have ez7:=q7 _ _ ez
   generalize upd H' t (.tup [.int (jat c0 k).1,.int (jat c0 k).2]) = H7 at q7 et ez7
   have t8:=jdc (ys:=vs ++ [.ref t]) ez7
   refine ⟨_,ez7,szl' (by omega),_,rfl,jaz (s6.trans q7) htl,_,ja1,?_⟩
   rw [jaj hk,List.map_append]
   exact jbu (Prs.tups t8 (Prs.same q7 pv)) (Pr.tups (p:=jat c0 k) ⟨t,rfl,et⟩ t8)
  rintro σ' H6 ⟨w1,rfl,s6,vs0,ev0,pv0⟩
  refine ⟨⟨_,SqL.of (s6 _ _ esl),by rw [List.length_map]; exact Nat.le_refl _⟩,?_⟩
  rw [List.take_length] at pv0
  have S6:=s5.trans s6
  have ntl:tl ≠ st:=fun z=>by rw [z,s5 _ _ eG] at htl; cases htl
  have ntn:tl ≠ nl:=fun z=>by rw [z,en5] at htl; cases htl
  have ntc:tl ≠ cl:=fun z=>by rw [z,s5 _ _ ecG] at htl; cases htl
  have htlH:H tl = none:=by
   cases q:H tl with
   | none=>rfl
   | some u=>rw [s5 _ _ (bG _ _ ntl q)] at htl; cases htl
  have b6:But st H H6:=fun b u nb q=>S6 _ _ (bG _ _ nb q)
  have e6:=S6 _ _ eG
  have en6:=S6 _ _ enG
  have ec6:=S6 _ _ ecG
  clear S6 s5 s6 esl htl en5 bG eG enG ecG
  walk_at "RD"
  subst hR1
  have G:∀ (us:List (Int × Int)) (vs:List V) (w1 w2 w3:Option V) (H9:Hp) (o9:HO),But st H H9→H9 st = some o9→StO o9→H9 nl = some (.lst ((c0 :: nr2).map V.int))→H9 cl = some (.lst (cs.map V.int))→H9 tl = some (.lst vs)→Prs H9 vs us→us.Nodup→us.length ≤ 120→(∀ u ∈ us,∃ a b,u = jat a b∧a ≠ b∧a ∈ c0 :: nr2∧b ∈ c0 :: nr2)→(tRet (tTup (jdr (tCB jmy (jdr (tLZ (jdr (fVar 5) (jdr (fVar 6) tNil))) tNil)) (jdr (tCB jmy (jdr (fVar 7) tNil)) tNil)))) { nx:=fun _ H'=>Q .non H',rt:=Q } [some (.ref st),some (.int m),some (.int lv),some (.ref r),some (.int tn),some (.ref nl),some (.ref cl),some (.ref tl),w1,w2,w3] H9:=by
   intro us vs w1 w2 w3 H9 o9 b9 e9 so9 en9 ec9 et9 pv ndu hul hu
   simp_arith [tLZ]
   refine ⟨nl,cl,_,_,rfl,en9,ec9,by rw [List.length_map,List.length_cons]; omega,fun S HS zs hS sS eS pz=>?_⟩
   obtain ⟨zk,zsum,zin⟩:=jkf (as:=c0 :: nr2) (bs:=cs) (by rw [List.length_cons]; omega)
   have pzz:=jm7 pz
   have hzl:zs.length = rot.length:=by
    have:=Paired.length pzz
    rw [List.length_zip,List.length_cons] at this
    omega
   have cle:∀ c ∈ cs,c ≤ 90000000000:=fun c hc=>by have:=(jg2 hc1 hc).2; omega
   refine ⟨S,zs,_,100000000000,rfl,eS,pzz,by omega,fun q hq=>?_,fun l ys qs hl pq prm srt=>?_⟩
   ·have g1:=hc1 _ (zin q hq).2
    have g2:=cle _ (zin q hq).2
    omega
   have sl:=sS.trans (ja5 hl (.lst ys))
   have el:upd HS l (.lst ys) l = some (.lst ys):=ja1
   have pql:Prs (upd HS l (.lst ys)) ys qs:=Prs.same (ja5 hl _) pq
   generalize upd HS l (.lst ys) = HL at sl el pql
   have etL:=sl _ _ et9
   walk_at "RD"
   have uin:∀ u ∈ us,u.1 < u.2∧u.1 ∈ c0 :: nr2∧u.2 ∈ c0 :: nr2:=fun u hu'=>by
    obtain ⟨a,b,rfl,hab,ha,hb⟩:=hu u hu'
    obtain ⟨g1,g2,g3⟩:=jou hab
    refine ⟨g1,?_,?_⟩
    ·rcases g2 with g | g <;> rw [g] <;> assumption
    ·rcases g3 with g | g <;> rw [g] <;> assumption
   have hvl:vs.length = us.length:=Paired.length pv
   refine ⟨tl,vs,us,1000,rfl,etL,Prs.same sl pv,by omega,fun q hq=>?_,fun l2 ys2 qs2 hl2 pq2 prm2 srt2=>?_⟩
   ·have:=rk _ (uin q hq).2.2
    omega
   have s2:=ja5 hl2 (.lst ys2)
   have el2:upd HL l2 (.lst ys2) l2 = some (.lst ys2):=ja1
   have pql2:Prs (upd HL l2 (.lst ys2)) ys2 qs2:=Prs.same s2 pq2
   generalize upd HL l2 (.lst ys2) = HM at s2 el2 pql2
   intro wv hwv
   have s3:=ja5 hwv (.tup [.ref l,.ref l2])
   have S3:=sl.trans (s2.trans s3)
   have hql:qs.length = rot.length:=by
    have:=prm.length_eq
    rw [List.length_zip,List.length_cons] at this
    omega
   have kqs:∀ n,n ∈ qs.map (·.1) ↔ n ∈ c0 :: nr2:=fun n=>by
    have:=(prm.map (·.1)).mem_iff (a:=n)
    rw [zk] at this
    exact this
   have qnd:(qs.map (·.1)).Nodup:=((prm.map (·.1)).nodup_iff).mpr (by rw [zk]; exact List.nodup_cons.mpr rnd)
   refine h _ _ o9 qs qs2 (fun b u nb q=>S3 _ _ (b9 _ _ nb q)) (S3 _ _ e9) so9 ⟨wv,l,l2,ys,ys2,rfl,ja1,(s2.trans s3) _ _ el,s3 _ _ el2,Prs.same (s2.trans s3) pql,Prs.same s3 pql2⟩ ⟨by omega,PlOk.of (fun q hq=>?_) (jpf srt qnd) ?_,by rw [prm2.length_eq]; exact hul,?_⟩
   ·have hq':=prm.mem_iff.mp hq
    have g1:=rk _ (zin q hq').1
    exact ⟨g1.1,g1.2,hc1 _ (zin q hq').2⟩
   ·rw [jhp prm,zsum]
    omega
   ·refine TiOk.of (fun t ht=>?_) srt2 (prm2.nodup_iff.mpr ndu) fun t ht=>?_
    ·exact .inl (rk _ (uin t (prm2.mem_iff.mp ht)).2.1).1
    ·obtain ⟨g1,g2,g3⟩:=uin t (prm2.mem_iff.mp ht)
     rw [jgv,jgv]
     exact ⟨g1,decide_eq_true ((kqs _).mpr g2),decide_eq_true ((kqs _).mpr g3)⟩
  have at_nm:∀ (i:Nat) (n:Int),nr2[i]? = some n→atI ((c0 :: nr2).map V.int) (((i + 1:Nat):Int)) = some (.int n):=fun i n hn=>jdb (by rw [List.getElem?_map,List.getElem?_cons_succ,hn]; rfl)
  refine jaa fun R2 hR2=>?_
  have G2:∀ (us:List (Int × Int)) (vs:List V) (w1 w2:Option V) (H9:Hp) (o9:HO),But st H H9→H9 st = some o9→StO o9→H9 nl = some (.lst ((c0 :: nr2).map V.int))→H9 cl = some (.lst (cs.map V.int))→H9 tl = some (.lst vs)→Prs H9 vs us→us.Nodup→us.length ≤ 111→(∀ u ∈ us,∃ f k,u = jat f k∧k ∈ Lv∧(f = c0 ∨ f ∈ Fr))→R2 { nx:=fun _ H'=>Q .non H',rt:=Q } [some (.ref st),some (.int m),some (.int lv),some (.ref r),some (.int tn),some (.ref nl),some (.ref cl),some (.ref tl),w1,w2,none] H9:=by
   intro us vs w1 w2 H9 o9 b9 e9 so9 en9 ec9 et9 pv ndu hul hu
   have hvl:vs.length = us.length:=Paired.length pv
   have hu2:∀ u ∈ us,∃ a b,u = jat a b∧a ≠ b∧a ∈ c0 :: nr2∧b ∈ c0 :: nr2:=fun u hu'=>by
    obtain ⟨f,k,e,hk,hf⟩:=hu u hu'
    rcases hf with hf | hf
    ·exact ⟨f,k,e,by rw [hf]; exact cL k hk,by rw [hf]; exact List.mem_cons_self ..,inL k hk⟩
    ·exact ⟨f,k,e,fun z=>ndLF k hk f hf z.symm,inF f hf,inL k hk⟩
   subst hR2
   refine jaa fun R3 hR3=>?_
   walk_at "RD"
   by_cases c:lv > 1
   ·rw [decide_eq_true c]
    walk_at "RD"
    refine ⟨st,o9,4,rfl,e9,so9,by decide,by decide,fun d oA d0 d1 soA=>?_⟩
    have bA:=b9.trans (But.at st H9 oA)
    have tA:=(But.at st H9 oA).tups e9 so9.imm
    have eA:upd H9 st oA st = some oA:=ja1
    have enA:=But.at st H9 oA _ _ nnl en9
    have ecA:=But.at st H9 oA _ _ ncl ec9
    have etA:=But.at st H9 oA _ _ ntl et9
    generalize upd H9 st oA = HA at bA tA eA enA ecA etA
    have pvA:=Prs.tups tA pv
    refine ite2 (fun _=>?_) (fun _=>?_)
    ·refine ⟨st,oA,lv - 1,rfl,eA,soA,by omega,by omega,fun g oB g0 g1 soB=>?_⟩
     have bB:=bA.trans (But.at st HA oB)
     have tB:=(But.at st HA oB).tups eA soA.imm
     have eB:upd HA st oB st = some oB:=ja1
     have enB:=But.at st HA oB _ _ nnl enA
     have ecB:=But.at st HA oB _ _ ncl ecA
     have etB:=But.at st HA oB _ _ ntl etA
     generalize upd HA st oB = HB at bB tB eB enB ecB etB
     have pvB:=Prs.tups tB pvA
     have hg1:Lv[g.toNat]? = some (Lv[g.toNat]'(by omega)):=List.getElem?_eq_getElem _
     have hg2:Lv[g.toNat + 1]? = some (Lv[g.toNat + 1]'(by omega)):=List.getElem?_eq_getElem _
     generalize Lv[g.toNat]'(by omega) = a at hg1
     generalize Lv[g.toNat + 1]'(by omega) = b at hg2
     have hab:a ≠ b:=jcx ndL hg1 hg2 (by omega)
     have am:a ∈ Lv:=List.mem_of_getElem? hg1
     have bm:b ∈ Lv:=List.mem_of_getElem? hg2
     have q1:nr2[g.toNat]? = some a:=by rw [hsp,List.getElem?_append_left (by omega)]; exact hg1
     have q2:nr2[g.toNat + 1]? = some b:=by rw [hsp,List.getElem?_append_left (by omega)]; exact hg2
     have w1':=at_nm _ _ q1
     have w2':=at_nm _ _ q2
     rw [show ((g.toNat + 1:Nat):Int) = 1 + g by omega] at w1'
     rw [show ((g.toNat + 1 + 1:Nat):Int) = 2 + g by omega] at w2'
     refine ⟨⟨tl,_,rfl,etB⟩,?_⟩
     simp only [List.map_cons] at w1' w2' enB
     simp_arith [jam,enB,w1',w2']
     refine ⟨a,b,rfl,fun t ht=>?_⟩
     have qC:=ja5 ht (.tup [.int (jat a b).1,.int (jat a b).2])
     have et:upd HB t (.tup [.int (jat a b).1,.int (jat a b).2]) t = some (.tup [.int (jat a b).1,.int (jat a b).2]):=ja1
     generalize upd HB t (.tup [.int (jat a b).1,.int (jat a b).2]) = HC at qC et
     have etC:=qC _ _ etB
     simp only [etC]
     have t8:=jdc (ys:=vs ++ [.ref t]) etC
     refine ⟨szl' (by omega),?_⟩
     subst hR3
     refine G (us ++ [jat a b]) _ _ _ _ _ oB (fun b' u nb q=>?_) ?_ soB ?_ ?_ ja1 (jbu (Prs.tups t8 (Prs.same qC pvB)) (Pr.tups (p:=jat a b) ⟨t,rfl,et⟩ t8)) ?_ (by rw [List.length_append]; show _ + 1 ≤ _; omega) (fun u hu'=>?_)
     ·rw [ja7 (ja9 q htlH)]
      exact qC _ _ (bB _ _ nb q)
     ·rw [ja7 ntl.symm]
      exact qC _ _ eB
     ·rw [ja7 ntn.symm,List.map_cons]
      exact qC _ _ enB
     ·rw [ja7 ntc.symm]
      exact qC _ _ ecB
     ·refine List.nodup_append.mpr ⟨ndu,by simp,fun x hx y hy e=>?_⟩
      rw [List.mem_singleton.mp hy] at e
      obtain ⟨f,k,e',hk,hf⟩:=hu x hx
      rw [e'] at e
      have fL:f ∉ Lv:=fun z=>by
       rcases hf with hf | hf
       ·exact cL f z hf.symm
       ·exact ndLF f z f hf rfl
      rcases jej e with ⟨e1,e2⟩ | ⟨e1,e2⟩
      ·exact fL (by rw [e1]; exact am)
      ·exact fL (by rw [e1]; exact bm)
     ·rcases List.mem_append.mp hu' with hu' | hu'
      ·exact hu2 u hu'
      ·rw [List.mem_singleton.mp hu']
       exact ⟨a,b,rfl,hab,inL a am,inL b bm⟩
    ·subst hR3
     exact G us vs _ _ _ HA oA bA eA soA enA ecA etA pvA ndu (by omega) hu2
   ·rw [decide_eq_false c]
    walk_at "RD"
    subst hR3
    exact G us vs _ _ _ H9 o9 b9 e9 so9 en9 ec9 et9 pv ndu (by omega) hu2
  clear G
  refine jfu (ι:=Addr × Hp) (fun j=>Itl K j.1) (fun j=>j.2) (fun j=>H6 j.1 = none∧Same H6 j.2∧j.2 j.1 = some (.lst (Fr.map V.int))) (fun R' hR'=>?_) (fun j0 ok0=>?_)
  ·unfold jc8
   simp_arith [en6,cutF']
   intro p1 hp1
   exact ⟨p1,rfl,⟨_,SqL.of ja1⟩,hR' (p1,_) ⟨hp1,ja5 hp1 _,ja1⟩⟩
  obtain ⟨fl,H7⟩:=j0
  obtain ⟨hfl,s7,efl⟩:=ok0
  dsimp only at hfl s7 efl
  have nfl:fl ≠ st:=fun z=>by rw [z,e6] at hfl; cases hfl
  have nft:fl ≠ tl:=fun z=>by rw [z,ev0] at hfl; cases hfl
  have hLl2:Lv.length ≤ 37:=by omega
  refine jcd (K:=K) (a:=fl) (xs:=Fr.map V.int) (fun i σ H8=>∃ w1 w2 us vs o8,σ = [some (.ref st),some (.int m),some (.int lv),some (.ref r),some (.int tn),some (.ref nl),some (.ref cl),some (.ref tl),w1,w2,none]∧(∀ b o,b ≠ st→b ≠ tl→H7 b = some o→H8 b = some o)∧H8 st = some o8∧StO o8∧H8 tl = some (.lst vs)∧Prs H8 vs us∧us.Nodup∧us.length ≤ Lv.length * (1 + i)∧∀ u ∈ us,∃ f k,u = jat f k∧k ∈ Lv∧(f = c0 ∨ f ∈ Fr.take i)) ⟨none,none,Lv.map (jat c0),vs0,oG,rfl,(fun b o _ _ q=>q),s7 _ _ e6,soG,s7 _ _ ev0,Prs.same s7 pv0,?_,by rw [List.length_map]; omega,fun u hu=>?_⟩ (fun i σ H8 _ ⟨_,_,_,_,_,_,kp,_⟩=>SqL.of (kp _ _ nfl nft efl)) ?_ ?_
  ·unfold List.Nodup
   rw [List.pairwise_map]
   refine List.Pairwise.imp_of_mem (fun {a b} ha hb hab e=>?_) ndL
   rcases jej e with ⟨_,e2⟩ | ⟨e1,_⟩
   ·exact hab e2
   ·exact cL b hb e1
  ·obtain ⟨k,hk,rfl⟩:=List.mem_map.mp hu
   exact ⟨c0,k,rfl,hk,.inl rfl⟩
  ·rintro i x σ H8 hx ⟨w1,w2,us,vs,o8,rfl,kp,e8,so8,et8,pv,ndu,hul,hu⟩
   obtain ⟨fa,hfa,rfl⟩:=jd4 hx
   have faF:fa ∈ Fr:=List.mem_of_getElem? hfa
   have en8:=kp _ _ nnl ntn.symm (s7 _ _ en6)
   walk_at "RD"
   refine jfu (ι:=Addr × Hp) (fun j=>Itl K j.1) (fun j=>j.2) (fun j=>H8 j.1 = none∧Same H8 j.2∧j.2 j.1 = some (.lst (Lv.map V.int))) (fun R' hR'=>?_) (fun j0 ok0=>?_)
   ·unfold jc8
    simp_arith [en8,cutL']
    intro p1 hp1
    exact ⟨p1,rfl,⟨_,SqL.of ja1⟩,hR' (p1,_) ⟨hp1,ja5 hp1 _,ja1⟩⟩
   obtain ⟨sl,HI⟩:=j0
   obtain ⟨hsl,sI,esl⟩:=ok0
   dsimp only at hsl sI esl
   have nsl:sl ≠ st:=fun z=>by rw [z,e8] at hsl; cases hsl
   have nst:sl ≠ tl:=fun z=>by rw [z,et8] at hsl; cases hsl
   refine jcd (K:=K) (a:=sl) (xs:=Lv.map V.int) (fun j σ H9=>∃ w2 us vs o9,σ = [some (.ref st),some (.int m),some (.int lv),some (.ref r),some (.int tn),some (.ref nl),some (.ref cl),some (.ref tl),some (.int fa),w2,none]∧(∀ b o,b ≠ st→b ≠ tl→HI b = some o→H9 b = some o)∧H9 st = some o9∧StO o9∧H9 tl = some (.lst vs)∧Prs H9 vs us∧us.Nodup∧us.length ≤ Lv.length * (1 + i) + j∧∀ u ∈ us,∃ f k,u = jat f k∧k ∈ Lv∧(f = c0 ∨ f ∈ Fr.take i ∨ (f = fa∧k ∈ Lv.take j))) ⟨w2,us,vs,o8,rfl,(fun b o _ _ q=>q),sI _ _ e8,so8,sI _ _ et8,Prs.same sI pv,ndu,hul,fun u hu'=>?_⟩ (fun j σ H9 _ ⟨_,_,_,_,_,kp9,_⟩=>SqL.of (kp9 _ _ nsl nst esl)) ?_ ?_
   ·obtain ⟨f,k,e,hk,hf⟩:=hu u hu'
    refine ⟨f,k,e,hk,?_⟩
    rcases hf with hf | hf
    ·exact .inl hf
    ·exact .inr (.inl hf)
   ·rintro j x σ H9 hx ⟨w2,us,vs,o9,rfl,kp9,e9,so9,et9,pv9,nd9,hul9,hu9⟩
    obtain ⟨k,hk,rfl⟩:=jd4 hx
    have hjl:j < Lv.length:=(List.getElem?_eq_some_iff.mp hk).1
    have hil:i < 2:=by
     have:=(List.getElem?_eq_some_iff.mp hfa).1
     omega
    have hmul:Lv.length * (1 + i) ≤ 37 * 2:=Nat.mul_le_mul hLl2 (by omega)
    have kL:k ∈ Lv:=List.mem_of_getElem? hk
    have hvl:vs.length = us.length:=Paired.length pv9
    walk_at "RD"
    refine ⟨st,o9,2,rfl,e9,so9,by decide,by decide,fun d oA d0 d1 soA=>?_⟩
    have kA:=But.at st H9 oA
    have tA:=(But.at st H9 oA).tups e9 so9.imm
    have eA:upd H9 st oA st = some oA:=ja1
    have etA:=But.at st H9 oA _ _ ntl et9
    generalize upd H9 st oA = HA at kA tA eA etA
    have pvA:=Prs.tups tA pv9
    refine ite2 (fun _=>?_) (fun _=>?_)
    ·refine ⟨⟨tl,_,rfl,etA⟩,?_⟩
     walk_at "RD"
     refine ⟨fa,k,rfl,fun t ht=>?_⟩
     have qC:=ja5 ht (.tup [.int (jat fa k).1,.int (jat fa k).2])
     have et:upd HA t (.tup [.int (jat fa k).1,.int (jat fa k).2]) t = some (.tup [.int (jat fa k).1,.int (jat fa k).2]):=ja1
     generalize upd HA t (.tup [.int (jat fa k).1,.int (jat fa k).2]) = HC at qC et
     have etC:=qC _ _ etA
     simp only [etC]
     have t8:=jdc (ys:=vs ++ [.ref t]) etC
     refine ⟨szl' (by omega),_,us ++ [jat fa k],_,oA,rfl,(fun b o nb nb2 q=>by rw [ja7 nb2]; exact qC _ _ (kA _ _ nb (kp9 _ _ nb nb2 q))),(by rw [ja7 ntl.symm]; exact qC _ _ eA),soA,ja1,jbu (Prs.tups t8 (Prs.same qC pvA)) (Pr.tups (p:=jat fa k) ⟨t,rfl,et⟩ t8),?_,by rw [List.length_append]; show _ + 1 ≤ _; omega,fun u hu'=>?_⟩
     ·refine List.nodup_append.mpr ⟨nd9,by simp,fun x hx y hy e=>?_⟩
      rw [List.mem_singleton.mp hy] at e
      obtain ⟨f,k',e',hk',hf⟩:=hu9 x hx
      rw [e'] at e
      rcases jej e with ⟨e1,e2⟩ | ⟨e1,e2⟩
      ·rcases hf with hf | hf | ⟨hf,hkk⟩
       ·exact cF fa faF (by rw [← e1]; exact hf.symm)
       ·rw [e1] at hf
        exact (List.nodup_iff_not_mem_take ndF hfa) hf
       ·rw [e2] at hkk
        exact (List.nodup_iff_not_mem_take ndL hk) hkk
      ·exact ndLF k' hk' fa faF e2
     ·rcases List.mem_append.mp hu' with hu' | hu'
      ·obtain ⟨f,k',e',hk',hf⟩:=hu9 u hu'
       refine ⟨f,k',e',hk',?_⟩
       rcases hf with hf | hf | ⟨hf,hkk⟩
       ·exact .inl hf
       ·exact .inr (.inl hf)
       ·exact .inr (.inr ⟨hf,by rw [jaj hk]; exact List.mem_append_left _ hkk⟩)
      ·rw [List.mem_singleton.mp hu']
       exact ⟨fa,k,rfl,kL,.inr (.inr ⟨rfl,by rw [jaj hk]; exact List.mem_append_right _ (List.mem_singleton.mpr rfl)⟩)⟩
    ·refine ⟨_,us,vs,oA,rfl,(fun b o nb nb2 q=>kA _ _ nb (kp9 _ _ nb nb2 q)),eA,soA,etA,pvA,nd9,by omega,fun u hu'=>?_⟩
     obtain ⟨f,k',e',hk',hf⟩:=hu9 u hu'
     refine ⟨f,k',e',hk',?_⟩
     rcases hf with hf | hf | ⟨hf,hkk⟩
     ·exact .inl hf
     ·exact .inr (.inl hf)
     ·exact .inr (.inr ⟨hf,by rw [jaj hk]; exact List.mem_append_left _ hkk⟩)
   ·rintro σ H9 ⟨w2,us,vs,o9,rfl,kp9,e9,so9,et9,pv9,nd9,hul9,hu9⟩
    rw [List.length_map] at hul9
    refine ⟨_,w2,us,vs,o9,rfl,(fun b o nb nb2 q=>kp9 _ _ nb nb2 (sI _ _ (kp _ _ nb nb2 q))),e9,so9,et9,pv9,nd9,?_,fun u hu'=>?_⟩
    ·rw [show Lv.length * (1 + (i + 1)) = Lv.length * (1 + i) + Lv.length by rw [← Nat.add_assoc,Nat.mul_add,Nat.mul_one]]
     exact hul9
    ·obtain ⟨f,k',e',hk',hf⟩:=hu9 u hu'
     refine ⟨f,k',e',hk',?_⟩
     rcases hf with hf | hf | ⟨hf,hkk⟩
     ·exact .inl hf
     ·exact .inr (by rw [jaj hfa]; exact List.mem_append_left _ hf)
     ·exact .inr (by rw [jaj hfa,hf]; exact List.mem_append_right _ (List.mem_singleton.mpr rfl))
  ·rintro σ H8 ⟨w1,w2,us,vs,o8,rfl,kp,e8,so8,et8,pv,ndu,hul,hu⟩
   rw [List.length_map,List.take_length] at hu
   rw [List.length_map] at hul
   have hmul:Lv.length * (1 + Fr.length) ≤ 37 * 3:=Nat.mul_le_mul hLl2 (by omega)
   exact G2 us vs w1 w2 H8 o8 (fun b u nb q=>kp _ _ nb (ja9 q htlH) (s7 _ _ (b6 _ _ nb q))) e8 so8 (kp _ _ nnl ntn.symm (s7 _ _ en6)) (kp _ _ ncl ntc.symm (s7 _ _ ec6)) et8 pv ndu (by omega) hu
 walk_at "RD"
 by_cases c:lv > 0
 ·rw [decide_eq_true c]
  walk_at "RD"
  refine ⟨st,oC,5,rfl,eF,soC,by decide,by decide,fun d oG d0 d1 soG=>?_⟩
  have bG:=bF.trans (But.at st HF oG)
  have eG:upd HF st oG st = some oG:=ja1
  have enG:=But.at st HF oG _ _ nnl enF
  have ecG:=But.at st HF oG _ _ ncl ecl
  generalize upd HF st oG = HG at bG eG enG ecG
  refine ite2 (fun _=>?_) (fun _=>F (k0 :: cr) HG oG hcl rc1 (by omega) bG eG soG enG ecG)
  have cutC:cutV (V.int k0 :: cr.map V.int) (some 1) (some (lv + 1)) = (cr.take lv.toNat).map V.int:=by
   rw [jl9 lv0 (by rw [List.length_map]; exact hlvc),← List.map_take]
  simp only [List.map_cons] at ecG
  simp_arith [ecG,cutC]
  intro p1 hp1
  have q1:=ja5 hp1 (.lst ((cr.take lv.toNat).map V.int))
  have ep1:upd HG p1 (.lst ((cr.take lv.toNat).map V.int)) p1 = some (.lst ((cr.take lv.toNat).map V.int)):=ja1
  generalize upd HG p1 (.lst ((cr.take lv.toNat).map V.int)) = HI at q1 ep1
  have sb:(cr.take lv.toNat).Sublist cr:=List.take_sublist _ _
  have hrc:∀ c ∈ cr,1 ≤ c:=fun c hc=>rc1 c (List.mem_cons_of_mem _ hc)
  have hk0:=rc1 k0 (List.mem_cons_self ..)
  rw [List.sum_cons] at rcs
  have hss:=jgd sb hrc
  refine ⟨st,oG,p1,cr.take lv.toNat,rfl,q1 _ _ eG,soG,ep1,fun e=>?_,fun m hm=>hrc m (sb.subset hm),fun x H' o' hx b' e' so'=>?_⟩
  ·have:=congrArg List.length e
   rw [List.length_take,List.length_nil] at this
   omega
  have enH:=b' _ _ nnl (q1 _ _ enG)
  have ecH:=b' _ _ ncl (q1 _ _ ecG)
  simp_arith [ecH]
  rw [show ixN (cr.map V.int).length.succ 0 = some 0 from by unfold ixN; simp]
  walk_at "RD"
  refine F ((if x > 1 then x else 1) :: cr) _ o' (by rw [List.length_cons]; omega) (fun c hc=>?_) ?_ (fun b u nb q=>?_) ?_ so' ?_ ja1
  ·rcases List.mem_cons.mp hc with e | hc
   ·rw [e]; split <;> omega
   ·exact hrc c hc
  ·rw [List.sum_cons]
   split <;> omega
  ·rw [ja7 (ja9 q hclH)]
   exact b' _ _ nb (q1 _ _ (bG _ _ nb q))
  ·rw [ja7 ncl.symm]
   exact e'
  ·rw [ja7 nnc]
   exact enH
 ·rw [decide_eq_false c]
  walk_at "RD"
  exact F (k0 :: cr) HF oC hcl rc1 (by omega) bF eF soC enF ecl
theorem ok_law {f:Addr} {fd:FuncData} {f_law_begun:Addr} {d_law_begun:FuncData} {f_law_take:Addr} {d_law_take:FuncData} {f_law_star:Addr} {d_law_star:FuncData} {f_fits:Addr} {d_fits:FuncData} {f_law_due:Addr} {d_law_due:FuncData} {f_law_unfit:Addr} {d_law_unfit:FuncData} (B:Blt mg) (D:DefAt K mg "law" (top 82) ["_law_script"] f fd) (D_law_begun:DefAt K mg "_law_begun" (top 72) ["_law_script","_law_k"] f_law_begun d_law_begun) (G_law_begun:FnOk P w K mg base CX0 1 f_law_begun d_law_begun ["_law_script","_law_k"] (jmr K)) (D_law_take:DefAt K mg "_law_take" (top 73) ["_law_state","_law_many"] f_law_take d_law_take) (G_law_take:FnOk P w K mg base CX0 1 f_law_take d_law_take ["_law_state","_law_many"] jhr) (D_law_star:DefAt K mg "_law_star" (top 77) ["_law_state","_law_most"] f_law_star d_law_star) (G_law_star:FnOk P w K mg base CX0 4 f_law_star d_law_star ["_law_state","_law_most"] jq4) (D_fits:DefAt K mg "fits" (top 67) ["web","thing"] f_fits d_fits) (G_fits:FnOk P w K mg base CX0 6 f_fits d_fits ["web","thing"] jmq) (D_law_due:DefAt K mg "_law_due" (top 80) ["_law_web","_law_place"] f_law_due d_law_due) (G_law_due:FnOk P w K mg base CX0 2 f_law_due d_law_due ["_law_web","_law_place"] jmp) (D_law_unfit:DefAt K mg "_law_unfit" (top 81) ["_law_web","_law_step"] f_law_unfit d_law_unfit) (G_law_unfit:FnOk P w K mg base CX0 8 f_law_unfit d_law_unfit ["_law_web","_law_step"] jkp):FnOk P w K mg base CX0 9 f fd ["_law_script"] (jow K):=by
 have sc:FnScope ["_law_script","_law_k","_law_state","_law_web","_law_handed","_law_unfit_here","_law_place","_law_price","_law_found","_law_step"] ["_law_script"] (ja8 (top 82)):=⟨rfl,rfl,rfl,by decide +kernel,rfl,by decide +kernel,by decide +kernel⟩
 refine D.F.ok sc (fun vs H Q E h=>?_) (fun cdv A outer s H vs Q E hr h=>?_)
 ·obtain ⟨a,ns,rfl,_⟩:=h
  rfl
 obtain ⟨a,ns,rfl,hs,h⟩:=h
 have hu:=jb5 hr
 have hu0:_ < PySem.cLine:=Nat.lt_of_succ_lt hu
 refine ⟨_,(ja3 (jcl PassesOwn.never rfl (jes rfl B.range (ja0 (jac (jqp rfl) rfl B.max PyProof.Rows.boot_max (ja0 ja4 (ja0 (jac (q_min rfl) rfl B.min PyProof.Rows.boot_min (ja0 (jac jcs rfl B.len PySem.boot_len (ja0 (qv 0) ja2)) (ja0 ja4 ja2))) ja2))) ja2)) (jaf (i:=1) sc.nd rfl (Or.inl rfl)) (ja3 (jal (i:=2) sc.nd rfl (Or.inl rfl) (jad G_law_begun (hr.mono (by decide)) rfl D_law_begun.m D_law_begun.F.kp D_law_begun.b .nil jap (ja0 (qv 0) (ja0 (qv 1) ja2)))) (ja3 (jba (PW.pt (jku (jav q_eq (qv 1) ja4 (jae _)) (jgi (jav q_eq (jad G_law_take (hr.mono (by decide)) rfl D_law_take.m D_law_take.F.kp D_law_take.b .nil jap (ja0 (qv 2) (ja0 ja4 ja2))) ja4 (jae _))))) (ja6 (jal (i:=3) sc.nd rfl (Or.inl rfl) (jad G_law_star (hr.mono (by decide)) rfl D_law_star.m D_law_star.F.kp D_law_star.b .nil jap (ja0 (qv 2) (ja0 ja4 ja2))))) (ja6 (jal (i:=3) sc.nd rfl (Or.inl rfl) (jad G_law_star (hr.mono (by decide)) rfl D_law_star.m D_law_star.F.kp D_law_star.b .nil jap (ja0 (qv 2) (ja0 (jar jca ja4 (jbk jn1 rfl B.int PyProof.Rows.boot_int (ja0 (jas q_eq (qv 1) ja4 (jae _)) ja2))) ja2)))))) (ja3 (jal (i:=4) sc.nd rfl (Or.inl rfl) (jdg (ja0 (jbk jkt rfl B.list PyProof.Rows.boot_list (ja0 (jaq q_ix (qv 3) ja4 (fun _ _=>rfl)) ja2)) (ja0 (jbk jkt rfl B.list PyProof.Rows.boot_list (ja0 (jaq q_ix (qv 3) ja4 (fun _ _=>rfl)) ja2)) ja2)))) (ja3 (jal (i:=5) sc.nd rfl (Or.inl rfl) (jd3 (ja0 (jdg (ja0 jbt (ja0 ja4 ja2))) ja2))) (ja3 (jcl PassesOwn.never rfl (jb0 (jaq q_ix (qv 3) ja4 (fun _ _=>rfl))) (jcj (n:=2) rfl (jan (jaf (i:=6) sc.nd rfl (Or.inl rfl)) (jan (jaf (i:=7) sc.nd rfl (Or.inl rfl)) jbr))) (ja3 (jal (i:=8) sc.nd rfl (Or.inl rfl) (jad G_fits (hr.mono (by decide)) rfl D_fits.m D_fits.F.kp D_fits.b .nil jap (ja0 (qv 4) (ja0 (jdg (ja0 jbt (ja0 (qv 6) ja2))) ja2)))) (ja3 (jba (PW.pt (jjl (jc5 (jbm (jac (jji .bl) rfl B.isinstance PyProof.Rows.boot_isinstance (ja0 (qv 8) (ja0 (jd9 (v:=.ty "bool") rfl B.bool PyProof.Rows.boot_bool rfl) ja2))))) (jfw (jav q_ne (qv 8) (jad G_law_due (hr.mono (by decide)) rfl D_law_due.m D_law_due.F.kp D_law_due.b .nil jap (ja0 (qv 3) (ja0 (qv 6) ja2))) (jae _))))) (ja6 (jag jdh)) jah) (ja6 (jal (i:=5) sc.nd rfl (Or.inl rfl) (jar jp4 (qv 5) (jar op_rep (jd3 (ja0 (jdg (ja0 jbt (ja0 (qv 6) ja2))) ja2)) (jbk jn1 rfl B.int PyProof.Rows.boot_int (ja0 (q_not (qv 8)) ja2))))))))) (ja3 (jal (i:=9) sc.nd rfl (Or.inl rfl) (jaq q_ix (qv 5) (jad G_law_take (hr.mono (by decide)) rfl D_law_take.m D_law_take.F.kp D_law_take.b .nil jap (ja0 (qv 2) (ja0 (jac jde rfl B.len PySem.boot_len (ja0 (qv 5) ja2)) ja2))) (fun _ _=>rfl))) (ja6 (jba (PW.pt (jjl (jc5 (jbm (jad G_law_unfit (hr.mono (by decide)) rfl D_law_unfit.m D_law_unfit.F.kp D_law_unfit.b .nil jap (ja0 (qv 4) (ja0 (qv 9) ja2))))) (jfw (jav (op_neD hr.units) (qv 4) (qv 3) (jae _))))) (ja6 (jag jdh)) jah))))))))) (ja6 (jag jdh))),?_⟩
 refine jaa fun R hR=>?_
 obtain ⟨N,hN,hN2⟩:∃ N:Nat,N = (if (1:Int) < (if (63:Int) < (ns.length:Int) then 63 else (ns.length:Int)) then (if (63:Int) < (ns.length:Int) then 63 else (ns.length:Int)) else 1).toNat∧N < 70:=⟨_,rfl,by split <;> split <;> omega⟩
 refine jbq (Itr 0 N) H (fun R' hR'=>?_) (jfa (n:=N) (fun i σ H1=>∃ v1 v2 v3 v4 v5 v6 v7 v8 v9,σ = [some (.ref a),v1,v2,v3,v4,v5,v6,v7,v8,v9]∧Scr K H1 a ns) ⟨none,none,none,none,none,none,none,none,none,rfl,hs⟩ ?_ ?_)
 ·unfold jr9
  walk_at "RD"
  refine ⟨a,_,rfl,.inl hs.sq,?_⟩
  simp_arith [List.length_map]
  refine ⟨_,rfl,?_,?_,?_⟩
  ·split <;> split <;> omega
  ·split <;> split <;> omega
  ·rw [← hN]
   exact hR'
 ·rintro i σ H1 hi ⟨v1,v2,v3,v4,v5,v6,v7,v8,v9,rfl,hs1⟩
  simp only [jf9,List.set_cons_zero,List.set_cons_succ]
  refine jaa fun R9 hR9=>?_
  walk_at "RD"
  refine ⟨a,0 + (i:Int),ns,rfl,hs1,by omega,by omega,fun st o hst so=>?_⟩
  have s2:=ja5 hst o
  have e2:upd H1 st o st = some o:=ja1
  have hs2:=hs1.tups s2.tups
  generalize upd H1 st o = H2 at s2 e2 hs2
  walk_at "RD"
  subst hR9
  refine jaa fun R9 hR9=>?_
  have F:∀ (v:V) (H3:Hp) (o3:HO) (ps ts:List (Int × Int)),But st H2 H3→H3 st = some o3→StO o3→jch H3 v ps ts→WebOk ps ts→R9 { nx:=fun σ H1=>∃ v1 v2 v3 v4 v5 v6 v7 v8 v9,σ = [some (.ref a),v1,v2,v3,v4,v5,v6,v7,v8,v9]∧Scr K H1 a ns,rt:=Q,bk:=R { nx:=fun x H'=>Q .non H',rt:=Q },ct:=fun σ H1=>∃ v1 v2 v3 v4 v5 v6 v7 v8 v9,σ = [some (.ref a),v1,v2,v3,v4,v5,v6,v7,v8,v9]∧Scr K H1 a ns } [some (.ref a),some (.int (0 + (i:Int))),some (.ref st),some v,v4,v5,v6,v7,v8,v9] H3:=by
   intro v H3 o3 ps ts b3 e3 so3 hw wok
   have hs3:=hs2.tups (b3.tups e2 so.imm)
   obtain ⟨u,pa,ta,xs,ys,rfl,eu,ep,et,pp,pt⟩:=id hw
   have hlx:xs.length = ps.length:=Paired.length pp
   have hpl:=wok.pl
   clear s2 e2 hs2 b3 hs1
   subst hR9
   refine jaa fun R9 hR9=>?_
   simp_arith [jam,eu,at0,ep]
   intro l1 hl1
   have s4:=ja5 hl1 (.lst xs)
   have el1:upd H3 l1 (.lst xs) l1 = some (.lst xs):=ja1
   generalize upd H3 l1 (.lst xs) = H4 at s4 el1
   simp_arith [jam,s4 _ _ eu,at1,s4 _ _ et]
   intro l2 hl2
   have s5:=s4.trans (ja5 hl2 (.lst ys))
   have el2:upd H4 l2 (.lst ys) l2 = some (.lst ys):=ja1
   have el1':=ja5 hl2 (.lst ys) _ _ el1
   generalize upd H4 l2 (.lst ys) = H5 at s5 el2 el1'
   intro wv hwv
   have s6:=s5.trans (ja5 hwv (.tup [.ref l1,.ref l2]))
   have q6:=ja5 hwv (.tup [.ref l1,.ref l2])
   have ewv:upd H5 wv (.tup [.ref l1,.ref l2]) wv = some (.tup [.ref l1,.ref l2]):=ja1
   generalize upd H5 wv (.tup [.ref l1,.ref l2]) = H6 at s6 q6 ewv
   have hh:jch H6 (.ref wv) ps ts:=⟨wv,l1,l2,xs,ys,rfl,ewv,q6 _ _ el1',q6 _ _ el2,Prs.same s6 pp,Prs.same s6 pt⟩
   have hw6:=hw.same s6
   have e6:=s6 _ _ e3
   have hs6:=hs3.tups s6.tups
   have ep6:=s6 _ _ ep
   have pp6:=Prs.same s6 pp
   clear s4 s5 q6 el1 el2 el1' ewv hw e3 hs3 et pp pt hl1 hl2 hwv
   have eu6:=s6 _ _ eu
   clear s6 eu ep
   walk_at "RD"
   subst hR9
   refine jaa fun R9 hR9=>?_
   walk_at "RD"
   intro t1 ht1
   have s7:=ja5 ht1 (.tup [.str (("fold":String):Str),.int 1000])
   have et1:upd H6 t1 (.tup [.str (("fold":String):Str),.int 1000]) t1 = some (.tup [.str (("fold":String):Str),.int 1000]):=ja1
   generalize upd H6 t1 (.tup [.str (("fold":String):Str),.int 1000]) = H7 at s7 et1
   intro lu hlu
   have s8:=s7.trans (ja5 hlu (.lst [.ref t1]))
   have elu:upd H7 lu (.lst [.ref t1]) lu = some (.lst [.ref t1]):=ja1
   have et1':=ja5 hlu (.lst [.ref t1]) _ _ et1
   generalize upd H7 lu (.lst [.ref t1]) = H8 at s8 elu et1'
   have hnl:lu ≠ st:=fun z=>by rw [z,s7 _ _ e6] at hlu; cases hlu
   have st0:jdp H8 (.ref t1) (.tup [.str (("fold":String):Str),.int 1000]):=⟨t1,[.str (("fold":String):Str),.int 1000],rfl,et1',rfl,rfl⟩
   walk_at "RD"
   subst hR9
   refine jaa fun R9 hR9=>?_
   clear et1 et1' s7 hlu ht1
   refine jbq (Itl K pa) H8 (fun R' hR'=>?_) (jcd (K:=K) (a:=pa) (xs:=xs) (fun j σ H9=>∃ w1 w2 w3 L zs ds,σ = [some (.ref a),some (.int (0 + (i:Int))),some (.ref st),some (.ref u),some (.ref wv),some (.ref L),w1,w2,w3,v9]∧Same H6 H9∧L ≠ st∧H9 L = some (.lst zs)∧Paired (jdp H9) zs ds∧(∀ d ∈ ds,Unf ps ts d)∧1 ≤ ds.length∧ds.length ≤ 1 + j) ⟨v6,v7,v8,lu,_,_,rfl,s8,hnl,elu,.cons st0 .nil,(fun d hd=>by rw [List.mem_singleton.mp hd]; exact unf0 wok),(by show 1 ≤ 1; decide),(by show 1 ≤ 1 + 0; decide)⟩ (fun j σ H9 _ ⟨_,_,_,_,_,_,_,s9,_⟩=>SqL.of (s9 _ _ ep6)) ?_ ?_)
   ·unfold jc8
    simp_arith [jam,s8 _ _ eu6,at0]
    exact ⟨pa,rfl,⟨_,SqL.of (s8 _ _ ep6)⟩,hR'⟩
   ·rintro j x σ HB hx ⟨w1,w2,w3,L,zs,ds,rfl,s6B,nL,eL,pz,un,hd1,hd2⟩
    obtain ⟨p,hp,px⟩:=jao pp6 hx
    have hjl:j < 40:=by
     have:=(List.getElem?_eq_some_iff.mp hp).1
     omega
    have hpk:p.1 ∈ ps.map (·.1):=List.mem_map_of_mem (List.mem_of_getElem? hp)
    obtain ⟨t,rfl,ht⟩:=px.same s6B
    have hzl:zs.length = ds.length:=Paired.length pz
    simp only [jgz,jdl,jh0,jf9,List.set_cons_zero,List.set_cons_succ,ht]
    refine ⟨rfl,?_⟩
    refine jaa fun R8 hR8=>?_
    walk_at "RD"
    intro tt htt
    have sBC:=ja5 htt (.tup [.str (("fold":String):Str),.int p.1])
    have ett:upd HB tt (.tup [.str (("fold":String):Str),.int p.1]) tt = some (.tup [.str (("fold":String):Str),.int p.1]):=ja1
    generalize upd HB tt (.tup [.str (("fold":String):Str),.int p.1]) = HC at sBC ett
    have s6C:=s6B.trans sBC
    refine ⟨.ref wv,.ref tt,ps,ts,.tup [.str (("fold":String):Str),.int p.1],rfl,hh.same s6C,wok,(jdp.rep ⟨tt,[.str (("fold":String):Str),.int p.1],rfl,ett,rfl,rfl⟩),jqz (by decide),jqk (by show 2 ≤ 900; decide),fun HD sD=>?_⟩
    rw [jl4 hpk]
    have s6D:=s6C.trans sD
    have sBD:=sBC.trans sD
    walk_at "RD"
    subst hR8
    refine jaa fun R8 hR8=>?_
    simp_arith [kd,isi]
    refine ⟨.ref u,p.1,ps,ts,rfl,hw6.same s6D,wok,hpk,fun HE sE=>?_⟩
    have sBE:=sBD.trans sE
    simp only [decide_true,Bool.not_true,Bool.false_eq_true,if_false]
    subst hR8
    walk_at "RD"
    intro a2 ha2
    have q4:=sBE.trans (ja5 ha2 (.tup [.str (("fold":String):Str),.int p.1]))
    have f2:jdp (upd HE a2 (.tup [.str (("fold":String):Str),.int p.1])) (.ref a2) (.tup [.str (("fold":String):Str),.int p.1]):=⟨a2,[.str (("fold":String):Str),.int p.1],rfl,ja1,rfl,rfl⟩
    generalize upd HE a2 (.tup [.str (("fold":String):Str),.int p.1]) = HJ at q4 f2
    intro b3 hb3
    have q5:=q4.trans (ja5 hb3 (.lst [.ref a2]))
    have f5:=(ja5 hb3 (.lst [.ref a2])).tups
    have eb3:upd HJ b3 (.lst [.ref a2]) b3 = some (.lst [.ref a2]):=ja1
    have f2:=f2.tups f5
    generalize upd HJ b3 (.lst [.ref a2]) = HK at q5 eb3 f2
    have eL5:=q5 _ _ eL
    have rep:∀ (k:Int) (gs:List Dt),(k = 0∧gs = [] ∨ k = 1∧gs = [.tup [.str (("fold":String):Str),.int p.1]])→(∀ d ∈ gs,Unf ps ts d)→rRep (.ref b3) (.int k) HK fun x H'=>fCat (.ref L) x H' fun y H'=>∃ w1 w2 w3 L zs ds,([some (.ref a),some (.int (0 + (i:Int))),some (.ref st),some (.ref u),some (.ref wv),some y,some (.int p.1),some (.int p.2),some (.bl (jd1 ps ts p.1)),v9]:St) = [some (.ref a),some (.int (0 + (i:Int))),some (.ref st),some (.ref u),some (.ref wv),some (.ref L),w1,w2,w3,v9]∧Same H6 H'∧L ≠ st∧H' L = some (.lst zs)∧Paired (jdp H') zs ds∧(∀ d ∈ ds,Unf ps ts d)∧1 ≤ ds.length∧ds.length ≤ 1 + (j + 1):=fun k gs hk hg=>by
     have hkr:k = 0 ∨ k = 1:=by rcases hk with h | h; exact .inl h.1; exact .inr h.1
     refine ⟨b3,k,_,rfl,rfl,eb3,by omega,by omega,?_,fun c1 hc1=>?_⟩
     ·show 1 * k.toNat ≤ sizeLine
      exact szl (by omega)
     obtain ⟨ys,hys⟩:∃ ys,ys = (List.replicate k.toNat [V.ref a2]).flatten:=⟨_,rfl⟩
     rw [← hys]
     have pys:Paired (jdp HK) ys gs:=by
      rcases hk with ⟨rfl,rfl⟩ | ⟨rfl,rfl⟩
      ·rw [hys]; exact .nil
      ·rw [hys]; exact .cons f2 .nil
     have hgl2:gs.length ≤ 1:=by rcases hk with ⟨_,rfl⟩ | ⟨_,rfl⟩ <;> simp
     have hyl:ys.length = gs.length:=Paired.length pys
     have q6:=q5.trans (ja5 hc1 (.lst ys))
     have f6:=(ja5 hc1 (.lst ys)).tups
     have ec1:upd HK c1 (.lst ys) c1 = some (.lst ys):=ja1
     have eL6:=ja5 hc1 (.lst ys) _ _ eL5
     have pys:=jci f6 pys
     generalize upd HK c1 (.lst ys) = HL at q6 f6 ec1 eL6 pys
     simp only [fCat,eL6,ec1]
     refine ⟨szl (by omega),fun c2 hc2=>?_⟩
     have q7:=q6.trans (ja5 hc2 (.lst (zs ++ ys)))
     have f7:=(ja5 hc2 (.lst (zs ++ ys))).tups
     have nc2:c2 ≠ st:=fun z=>by rw [z,q6 _ _ (s6B _ _ e6)] at hc2; cases hc2
     refine ⟨_,_,_,c2,_,ds ++ gs,rfl,s6B.trans q7,nc2,ja1,jdw (jci q7.tups pz) (jci f7 pys),fun d hd=>?_,?_,?_⟩
     ·rcases List.mem_append.mp hd with hd | hd
      ·exact un d hd
      ·exact hg d hd
     ·rw [List.length_append]; omega
     ·rw [List.length_append]; omega
    cases cf:jd1 ps ts p.1 with
    | true =>
     rw [cf] at rep
     walk_at "RD"
     exact rep 0 [] (.inl ⟨rfl,rfl⟩) (fun d hd=>by cases hd)
    | false =>
     rw [cf] at rep
     walk_at "RD"
     exact rep 1 _ (.inr ⟨rfl,rfl⟩) (fun d hd=>by rw [List.mem_singleton.mp hd]; exact unf1 hpk cf)
   ·rintro σ H9 ⟨w1,w2,w3,L,zs,ds,rfl,s9,nL,eL,pz,un,hd1,hd2⟩
    have hzl:zs.length = ds.length:=Paired.length pz
    walk_at "RD"
    subst hR9
    refine jaa fun R9 hR9=>?_
    have e9:=s9 _ _ e6
    simp_arith [jam,eL]
    refine ⟨st,o3,(zs.length:Int),rfl,e9,so3,by omega,by omega,fun g oA g0 g1 soA=>?_⟩
    have bA:But st H9 (upd H9 st oA):=But.at st H9 oA
    have eA:upd H9 st oA st = some oA:=ja1
    have tA:=bA.tups e9 so3.imm
    generalize upd H9 st oA = HA at bA eA tA
    obtain ⟨x,d,hxg,fx,hdm⟩:=jrh (F:=jdp) (jci tA pz) g0 g1
    have un1:=un d hdm
    have hhA:=(hh.same s9).but e9 so3 bA
    have hwA:=(hw6.same s9).but e9 so3 bA
    have hsA:=(hs6.tups s9.tups).tups tA
    simp_arith [bA _ _ nL eL,hxg]
    subst hR9
    walk_at "RD"
    refine ⟨.ref wv,x,ps,ts,d,rfl,hhA,wok,fx.rep,un1.nh,un1.fit,un1.no,fun HC sC=>?_⟩
    walk_at "RD"
    refine ⟨_,_,jct (hhA.same sC),jct (hwA.same sC),jrb ps ts,.inr ⟨_,_,rfl,rfl⟩,?_⟩
    rw [jeg]
    walk_at "RD"
    exact ⟨_,_,_,_,_,_,_,_,_,rfl,hsA.tups sC.tups⟩
  walk_at "RD"
  by_cases ci:(0 + (i:Int)) = 0
  ·rw [decide_eq_true ci]
   walk_at "RD"
   refine ⟨st,o,3,rfl,e2,so,by decide,by decide,fun d oD d0 d1 soD=>?_⟩
   have bD:=But.at st H2 oD
   have eD:upd H2 st oD st = some oD:=ja1
   generalize upd H2 st oD = HD at bD eD
   refine ite2 (fun _=>?_) (fun _=>?_)
   ·exact ⟨st,oD,38,rfl,eD,soD,by decide,by decide,fun v H3 o3 ps ts b3 e3 so3 hw wok=>F v H3 o3 ps ts (bD.trans b3) e3 so3 hw wok⟩
   ·refine ⟨st,oD,_,rfl,eD,soD,?_,?_,fun v H3 o3 ps ts b3 e3 so3 hw wok=>F v H3 o3 ps ts (bD.trans b3) e3 so3 hw wok⟩
    ·first | omega | decide | (split <;> omega) | (simp only [ci]; omega) | (simp; omega)
    ·first | omega | decide | (split <;> omega) | (simp only [ci]; omega) | (simp; omega)
  ·rw [decide_eq_false ci]
   walk_at "RD"
   refine ⟨st,o,_,rfl,e2,so,?_,?_,fun v H3 o3 ps ts b3 e3 so3 hw wok=>F v H3 o3 ps ts b3 e3 so3 hw wok⟩
   ·first | omega | decide | (split <;> omega) | (simp only [ci]; omega) | (simp; omega)
   ·first | omega | decide | (split <;> omega) | (simp only [ci]; omega) | (simp; omega)
 ·rintro σ H1 ⟨v1,v2,v3,v4,v5,v6,v7,v8,v9,rfl,hs1⟩
  subst hR
  walk_at "RD"
  exact h _
end
end My
set_option autoImplicit true
namespace My
open PySem L2
abbrev aT (K:PySem.W.Frag) (x:Str) (f:Addr):Prop:=PySem.W.nsIn K mainGlobals x = some (some (.ref f))
abbrev lT (K:PySem.W.Frag) (x q:Str) (st:Stmt) (f:Addr) (oc:Value) (od an:Option Addr) (sl:Array (Option Value)) (kV dc pm cd ct:Value):Prop:=K.lookup f = some ⟨oc,od,.func (PySem.W.fnOf x q (jcr st) (jc4 st) (ja8 st) .none kV dc pm an cd ct),sl⟩
abbrev cT (K:PySem.W.Frag) (cd:Value) (x:Str):Prop:=PySem.W.codeIn K cd x = true
abbrev kT (K:PySem.W.Frag) (f:Addr):Prop:=PySem.W.keepIn K (.ref f) = true
abbrev zT (K:PySem.W.Frag) (x:Str):Prop:=PySem.W.nsIn K mainGlobals x = some none
theorem dmk {K:PySem.W.Frag} {h:Heap} {mg:Str→Option Value} (X:K.In h) (G:h.Ns mainGlobals mg) {x:Str} {st:Stmt} {f:Addr} {oc:Value} {od an:Option Addr} {sl:Array (Option Value)} {kV dc pm cd ct:Value} (a:aT K x f) (l:lT K x x st f oc od an sl kV dc pm cd ct) (c:cT K cd x) (k:kT K f) (ps:List Str)
  (b:jfr K (PySem.W.fnOf x x (jcr st) (jc4 st) (ja8 st) .none kV dc pm an cd ct) ps []):DefAt K mg x st ps f (PySem.W.fnOf x x (jcr st) (jc4 st) (ja8 st) .none kV dc pm an cd ct):=⟨jak l c k,b,PySem.W.mg_of X G a⟩
theorem all_mk {l:PySem.W.OpenLaw} {w:World} {K:PySem.W.Frag} {h:Heap} {mg:Str→Option Value} {fa:Addr} (X:K.In h) (G:h.Ns mainGlobals mg) (hfa:mg "law" = some (.ref fa)) (a0:aT K "is_whole" f0) (l0:lT K "is_whole" "is_whole" (top 16) f0 oc0 od0 an0 sq0 kV0 dc0 pm0 cd0 ct0) (g0:cT K cd0 "is_whole") (k0:kT K f0) (a1:aT K "is_tuple_of" f1) (l1:lT K "is_tuple_of" "is_tuple_of" (top 17) f1 oc1 od1 an1 sq1 kV1 dc1 pm1 cd1 ct1) (g1:cT K cd1 "is_tuple_of") (k1:kT K f1) (a2:aT K "is_pair_of_wholes" f2) (l2:lT K "is_pair_of_wholes" "is_pair_of_wholes" (top 18) f2 oc2 od2 an2 sq2 kV2 dc2 pm2 cd2 ct2) (g2:cT K cd2 "is_pair_of_wholes") (k2:kT K f2) (a3:aT K "is_list_up_to" f3) (l3:lT K "is_list_up_to" "is_list_up_to" (top 19) f3 oc3 od3 an3 sq3 kV3 dc3 pm3 cd3 ct3) (g3:cT K cd3 "is_list_up_to") (k3:kT K f3) (a4:aT K "place_stands" f4) (l4:lT K "place_stands" "place_stands" (top 26) f4 oc4 od4 an4 sq4 kV4 dc4 pm4 cd4 ct4) (g4:cT K cd4 "place_stands") (k4:kT K f4) (a5:aT K "tie_stands" f5) (l5:lT K "tie_stands" "tie_stands" (top 27) f5 oc5 od5 an5 sq5 kV5 dc5 pm5 cd5 ct5) (g5:cT K cd5 "tie_stands") (k5:kT K f5) (a6:aT K "look_at_places" f6) (l6:lT K "look_at_places" "look_at_places" (top 28) f6 oc6 od6 an6 sq6 kV6 dc6 pm6 cd6 ct6) (g6:cT K cd6 "look_at_places") (k6:kT K f6) (a7:aT K "look_at_ties" f7) (l7:lT K "look_at_ties" "look_at_ties" (top 29) f7 oc7 od7 an7 sq7 kV7 dc7 pm7 cd7 ct7) (g7:cT K cd7 "look_at_ties") (k7:kT K f7) (a8:aT K "look_at_web" f8) (l8:lT K "look_at_web" "look_at_web" (top 30) f8 oc8 od8 an8 sq8 kV8 dc8 pm8 cd8 ct8) (g8:cT K cd8 "look_at_web") (k8:kT K f8) (a9:aT K "nears_in" f9) (l9:lT K "nears_in" "nears_in" (top 33) f9 oc9 od9 an9 sq9 kV9 dc9 pm9 cd9 ct9) (g9:cT K cd9 "nears_in") (k9:kT K f9) (a10:aT K "is_place" f10) (l10:lT K "is_place" "is_place" (top 31) f10 oc10 od10 an10 sq10 kV10 dc10 pm10 cd10 ct10) (g10:cT K cd10 "is_place") (k10:kT K f10) (a11:aT K "are_places" f11) (l11:lT K "are_places" "are_places" (top 32) f11 oc11 od11 an11 sq11 kV11 dc11 pm11 cd11 ct11) (g11:cT K cd11 "are_places") (k11:kT K f11) (a12:aT K "cost_near" f12) (l12:lT K "cost_near" "cost_near" (top 6) f12 oc12 od12 an12 sq12 kV12 dc12 pm12 cd12 ct12) (g12:cT K cd12 "cost_near") (k12:kT K f12) (a13:aT K "near_fits" f13) (l13:lT K "near_fits" "near_fits" (top 7) f13 oc13 od13 an13 sq13 kV13 dc13 pm13 cd13 ct13) (g13:cT K cd13 "near_fits") (k13:kT K f13) (a14:aT K "leaf_fits" f14) (l14:lT K "leaf_fits" "leaf_fits" (top 8) f14 oc14 od14 an14 sq14 kV14 dc14 pm14 cd14 ct14) (g14:cT K cd14 "leaf_fits") (k14:kT K f14) (a15:aT K "over_fits" f15) (l15:lT K "over_fits" "over_fits" (top 9) f15 oc15 od15 an15 sq15 kV15 dc15 pm15 cd15 ct15) (g15:cT K cd15 "over_fits") (k15:kT K f15) (a16:aT K "twins_fit" f16) (l16:lT K "twins_fit" "twins_fit" (top 10) f16 oc16 od16 an16 sq16 kV16 dc16 pm16 cd16 ct16) (g16:cT K cd16 "twins_fit") (k16:kT K f16) (a17:aT K "any_tied" f17) (l17:lT K "any_tied" "any_tied" (top 36) f17 oc17 od17 an17 sq17 kV17 dc17 pm17 cd17 ct17) (g17:cT K cd17 "any_tied") (k17:kT K f17) (a18:aT K "fold_fits" f18) (l18:lT K "fold_fits" "fold_fits" (top 37) f18 oc18 od18 an18 sq18 kV18 dc18 pm18 cd18 ct18) (g18:cT K cd18 "fold_fits") (k18:kT K f18) (a19:aT K "rule_fits" f19) (l19:lT K "rule_fits" "rule_fits" (top 11) f19 oc19 od19 an19 sq19 kV19 dc19 pm19 cd19 ct19) (g19:cT K cd19 "rule_fits") (k19:kT K f19) (a20:aT K "fits_known" f20) (l20:lT K "fits_known" "fits_known" (top 58) f20 oc20 od20 an20 sq20 kV20 dc20 pm20 cd20 ct20) (g20:cT K cd20 "fits_known") (k20:kT K f20) (a21:aT K "look_at_step" f21) (l21:lT K "look_at_step" "look_at_step" (top 65) f21 oc21 od21 an21 sq21 kV21 dc21 pm21 cd21 ct21) (g21:cT K cd21 "look_at_step") (k21:kT K f21) (a22:aT K "fits" f22) (l22:lT K "fits" "fits" (top 67) f22 oc22 od22 an22 sq22 kV22 dc22 pm22 cd22 ct22) (g22:cT K cd22 "fits") (k22:kT K f22) (a23:aT K "after" f23) (l23:lT K "after" "after" (top 68) f23 oc23 od23 an23 sq23 kV23 dc23 pm23 cd23 ct23) (g23:cT K cd23 "after") (k23:kT K f23) (a24:aT K "back" f24) (l24:lT K "back" "back" (top 69) f24 oc24 od24 an24 sq24 kV24 dc24 pm24 cd24 ct24) (g24:cT K cd24 "back") (k24:kT K f24) (a25:aT K "forth" f25) (l25:lT K "forth" "forth" (top 70) f25 oc25 od25 an25 sq25 kV25 dc25 pm25 cd25 ct25) (g25:cT K cd25 "forth") (k25:kT K f25) (a26:aT K "_law_begun" f26) (l26:lT K "_law_begun" "_law_begun" (top 72) f26 oc26 od26 an26 sq26 kV26 dc26 pm26 cd26 ct26) (g26:cT K cd26 "_law_begun") (k26:kT K f26) (a27:aT K "_law_take" f27) (l27:lT K "_law_take" "_law_take" (top 73) f27 oc27 od27 an27 sq27 kV27 dc27 pm27 cd27 ct27) (g27:cT K cd27 "_law_take") (k27:kT K f27) (a28:aT K "_law_places" f28) (l28:lT K "_law_places" "_law_places" (top 74) f28 oc28 od28 an28 sq28 kV28 dc28 pm28 cd28 ct28) (g28:cT K cd28 "_law_places") (k28:kT K f28) (a29:aT K "_law_tie" f29) (l29:lT K "_law_tie" "_law_tie" (top 75) f29 oc29 od29 an29 sq29 kV29 dc29 pm29 cd29 ct29) (g29:cT K cd29 "_law_tie") (k29:kT K f29) (a30:aT K "_law_edge" f30) (l30:lT K "_law_edge" "_law_edge" (top 76) f30 oc30 od30 an30 sq30 kV30 dc30 pm30 cd30 ct30) (g30:cT K cd30 "_law_edge") (k30:kT K f30) (a31:aT K "_law_star" f31) (l31:lT K "_law_star" "_law_star" (top 77) f31 oc31 od31 an31 sq31 kV31 dc31 pm31 cd31 ct31) (g31:cT K cd31 "_law_star") (k31:kT K f31) (a32:aT K "_law_prices" f32) (l32:lT K "_law_prices" "_law_prices" (top 78) f32 oc32 od32 an32 sq32 kV32 dc32 pm32 cd32 ct32) (g32:cT K cd32 "_law_prices") (k32:kT K f32) (a33:aT K "_law_near" f33) (l33:lT K "_law_near" "_law_near" (top 79) f33 oc33 od33 an33 sq33 kV33 dc33 pm33 cd33 ct33) (g33:cT K cd33 "_law_near") (k33:kT K f33) (a34:aT K "_law_due" f34) (l34:lT K "_law_due" "_law_due" (top 80) f34 oc34 od34 an34 sq34 kV34 dc34 pm34 cd34 ct34) (g34:cT K cd34 "_law_due") (k34:kT K f34) (a35:aT K "_law_unfit" f35) (l35:lT K "_law_unfit" "_law_unfit" (top 81) f35 oc35 od35 an35 sq35 kV35 dc35 pm35 cd35 ct35) (g35:cT K cd35 "_law_unfit") (k35:kT K f35) (a36:aT K "law" f36) (l36:lT K "law" "law" (top 82) f36 oc36 od36 an36 sq36 kV36 dc36 pm36 cd36 ct36) (g36:cT K cd36 "law") (k36:kT K f36) (z_len:zT K "len") (z_isinstance:zT K "isinstance") (z_all:zT K "all") (z_min:zT K "min") (z_list:zT K "list") (z_dict:zT K "dict") (z_int:zT K "int") (z_bool:zT K "bool") (z_str:zT K "str") (z_tuple:zT K "tuple") (z_range:zT K "range") (z_enumerate:zT K "enumerate") (z_zip:zT K "zip") (z_max:zT K "max") (z_any:zT K "any") (z_sum:zT K "sum") (z_sorted:zT K "sorted") (z_set:zT K "set") (n_MOST_PLACES:PySem.W.nsIn K mainGlobals "MOST_PLACES" = some (some (.int 40 c1))) (n_MOST_TIES:PySem.W.nsIn K mainGlobals "MOST_TIES" = some (some (.int 120 c2))) (n_LAST_PLACE:PySem.W.nsIn K mainGlobals "LAST_PLACE" = some (some (.int 999 c3))) (n_MOST_PRICE:PySem.W.nsIn K mainGlobals "MOST_PRICE" = some (some (.int 1000000000000 c4))) (a_NoWeb:aT K "NoWeb" C_NoWeb) (l_NoWeb:K.lookup C_NoWeb = some ⟨oc_NoWeb,od_NoWeb,.cls cd_NoWeb,sl_NoWeb⟩) (i_NoWeb:PySem.W.nsIn K cd_NoWeb.ns "__init__" = some (some (.ref fI_NoWeb))) (li_NoWeb:lT K "__init__" "NoWeb.__init__" (meth 2 0) fI_NoWeb oci_NoWeb odi_NoWeb ani_NoWeb sli_NoWeb kVi_NoWeb dci_NoWeb pmi_NoWeb cdi_NoWeb cti_NoWeb) (ci_NoWeb:PySem.W.codeIn K cdi_NoWeb "NoWeb.__init__" = true) (ki_NoWeb:PySem.W.keepIn K (.ref fI_NoWeb) = true) (x_NoWeb:jhd K C_NoWeb bmV "ValueError.__new__" fI_NoWeb = true) (kp_NoWeb:PySem.W.keepIn K (.ref C_NoWeb) = true) (fn_NoWeb:PySem.W.typeIn K (.ref fI_NoWeb) = some (.type "function")) (ch_NoWeb:(jbx bmV cd_NoWeb.mro && cd_NoWeb.hasDict && !cd_NoWeb.mro.isEmpty) = true) (sa_NoWeb:PySem.W.findIn K (.ref C_NoWeb) "__setattr__" = some (some (.builtin "object.__setattr__"))) (ga_NoWeb:PySem.W.findIn K (.ref C_NoWeb) "__getattribute__" = some (some (.builtin "BaseException.__getattribute__"))) (gt_NoWeb:PySem.W.findIn K (.ref C_NoWeb) "__getattr__" = some none) (sb_NoWeb:PySem.W.mroIn K C_NoWeb (.type "BaseException") = some true) (f_NoWeb_part:PySem.W.findIn K (.ref C_NoWeb) "part" = some none) (f_NoWeb_number:PySem.W.findIn K (.ref C_NoWeb) "number" = some none) (hd_NoWeb:PySem.W.hasDictIn K C_NoWeb = true) (ha_NoWeb:PySem.W.findIn K (.ref C_NoWeb) "__class__" = some (some (.builtin "object.__class__"))) (hm_NoWeb:PySem.W.mroIn K C_NoWeb (.type "object") = some true) (a_NoStep:aT K "NoStep" C_NoStep) (l_NoStep:K.lookup C_NoStep = some ⟨oc_NoStep,od_NoStep,.cls cd_NoStep,sl_NoStep⟩) (i_NoStep:PySem.W.nsIn K cd_NoStep.ns "__init__" = some (some (.ref fI_NoStep))) (li_NoStep:lT K "__init__" "NoStep.__init__" (meth 3 0) fI_NoStep oci_NoStep odi_NoStep ani_NoStep sli_NoStep kVi_NoStep dci_NoStep pmi_NoStep cdi_NoStep cti_NoStep) (ci_NoStep:PySem.W.codeIn K cdi_NoStep "NoStep.__init__" = true) (ki_NoStep:PySem.W.keepIn K (.ref fI_NoStep) = true) (x_NoStep:jhd K C_NoStep bmV "ValueError.__new__" fI_NoStep = true) (kp_NoStep:PySem.W.keepIn K (.ref C_NoStep) = true) (fn_NoStep:PySem.W.typeIn K (.ref fI_NoStep) = some (.type "function")) (ch_NoStep:(jbx bmV cd_NoStep.mro && cd_NoStep.hasDict && !cd_NoStep.mro.isEmpty) = true) (sa_NoStep:PySem.W.findIn K (.ref C_NoStep) "__setattr__" = some (some (.builtin "object.__setattr__"))) (ga_NoStep:PySem.W.findIn K (.ref C_NoStep) "__getattribute__" = some (some (.builtin "BaseException.__getattribute__"))) (gt_NoStep:PySem.W.findIn K (.ref C_NoStep) "__getattr__" = some none) (sb_NoStep:PySem.W.mroIn K C_NoStep (.type "BaseException") = some true) (f_NoStep_at:PySem.W.findIn K (.ref C_NoStep) "at" = some none) (hd_NoStep:PySem.W.hasDictIn K C_NoStep = true) (ha_NoStep:PySem.W.findIn K (.ref C_NoStep) "__class__" = some (some (.builtin "object.__class__"))) (hm_NoStep:PySem.W.mroIn K C_NoStep (.type "object") = some true) (hn_cls:PySem.W.specialIn K (.builtin "object.__class__") "__get__" = some (some (.builtin "getset_descriptor.__get__"))) (ht_cls:PySem.W.takesIn K (.builtin "object.__class__") = some true) (a_T:PySem.W.nsIn K mainGlobals "TouchError" = some (some (.ref T))) (rd_T:PySem.W.readsIn K T (.type "type") = true) (sp_T:PySem.W.specialIn K (.ref T) "__getattribute__" = some (some (.builtin "type.__getattribute__"))) (at_T:PySem.W.findCls K (.ref T) (.type "type") "__init__" = some (.val (.builtin iid))) (iid_T:iid = "ValueError.__init__") (hd_T:PySem.W.handedIn (.builtin "ValueError.__init__") = true) (q_T:PySem.W.excIn K T bmV "ValueError.__new__" = true)
 :∃ fd:FuncData,(∀ (s:Shared) (v:Value),BindsTo s fd ⟨[v],[]⟩ [("_law_script",v)])∧∀ base:Heap,K.In base→base.Ns mainGlobals mg→FnOk l.prog w K mg base CX0 9 fa fd ["_law_script"] (jow K):=by
 have e:=hfa.symm.trans (PySem.W.mg_of X G a36)
 cases e
 have B:Blt mg:=⟨PySem.W.mg_none_of X G z_len,PySem.W.mg_none_of X G z_isinstance,PySem.W.mg_none_of X G z_all,PySem.W.mg_none_of X G z_min,PySem.W.mg_none_of X G z_list,PySem.W.mg_none_of X G z_dict,PySem.W.mg_none_of X G z_int,PySem.W.mg_none_of X G z_bool,PySem.W.mg_none_of X G z_str,PySem.W.mg_none_of X G z_tuple,PySem.W.mg_none_of X G z_range,PySem.W.mg_none_of X G z_enumerate,PySem.W.mg_none_of X G z_zip,PySem.W.mg_none_of X G z_max,PySem.W.mg_none_of X G z_any,PySem.W.mg_none_of X G z_sum,PySem.W.mg_none_of X G z_sorted,PySem.W.mg_none_of X G z_set⟩
 have C:Cst mg c1 c2 c3 c4:=⟨PySem.W.mg_of X G n_MOST_PLACES,PySem.W.mg_of X G n_MOST_TIES,PySem.W.mg_of X G n_LAST_PLACE,PySem.W.mg_of X G n_MOST_PRICE⟩
 have D_is_whole:=dmk X G a0 l0 g0 k0 ["thing"] ((jak l0 g0 k0).binds fun _ _ _ _ _ _ us hl=>match us,hl with | [_],_=>rfl)
 have D_is_tuple_of:=dmk X G a1 l1 g1 k1 ["thing","many"] ((jak l1 g1 k1).binds fun _ _ _ _ _ _ us hl=>match us,hl with | [_,_],_=>rfl)
 have D_is_pair_of_wholes:=dmk X G a2 l2 g2 k2 ["thing"] ((jak l2 g2 k2).binds fun _ _ _ _ _ _ us hl=>match us,hl with | [_],_=>rfl)
 have D_is_list_up_to:=dmk X G a3 l3 g3 k3 ["thing","most"] ((jak l3 g3 k3).binds fun _ _ _ _ _ _ us hl=>match us,hl with | [_,_],_=>rfl)
 have D_place_stands:=dmk X G a4 l4 g4 k4 ["thing","last","spent"] ((jak l4 g4 k4).binds fun _ _ _ _ _ _ us hl=>match us,hl with | [_,_,_],_=>rfl)
 have D_tie_stands:=dmk X G a5 l5 g5 k5 ["thing","last","prices"] ((jak l5 g5 k5).binds fun _ _ _ _ _ _ us hl=>match us,hl with | [_,_,_],_=>rfl)
 have D_look_at_places:=dmk X G a6 l6 g6 k6 ["places"] ((jak l6 g6 k6).binds fun _ _ _ _ _ _ us hl=>match us,hl with | [_],_=>rfl)
 have D_look_at_ties:=dmk X G a7 l7 g7 k7 ["ties","prices"] ((jak l7 g7 k7).binds fun _ _ _ _ _ _ us hl=>match us,hl with | [_,_],_=>rfl)
 have D_look_at_web:=dmk X G a8 l8 g8 k8 ["thing"] ((jak l8 g8 k8).binds fun _ _ _ _ _ _ us hl=>match us,hl with | [_],_=>rfl)
 have D_nears_in:=dmk X G a9 l9 g9 k9 ["web"] ((jak l9 g9 k9).binds fun _ _ _ _ _ _ us hl=>match us,hl with | [_],_=>rfl)
 have D_is_place:=dmk X G a10 l10 g10 k10 ["prices","thing"] ((jak l10 g10 k10).binds fun _ _ _ _ _ _ us hl=>match us,hl with | [_,_],_=>rfl)
 have D_are_places:=dmk X G a11 l11 g11 k11 ["prices","things"] ((jak l11 g11 k11).binds fun _ _ _ _ _ _ us hl=>match us,hl with | [_,_],_=>rfl)
 have D_cost_near:=dmk X G a12 l12 g12 k12 ["prices","nears","v"] ((jak l12 g12 k12).binds fun _ _ _ _ _ _ us hl=>match us,hl with | [_,_,_],_=>rfl)
 have D_near_fits:=dmk X G a13 l13 g13 k13 ["prices","nears","v"] ((jak l13 g13 k13).binds fun _ _ _ _ _ _ us hl=>match us,hl with | [_,_,_],_=>rfl)
 have D_leaf_fits:=dmk X G a14 l14 g14 k14 ["prices","nears","v"] ((jak l14 g14 k14).binds fun _ _ _ _ _ _ us hl=>match us,hl with | [_,_,_],_=>rfl)
 have D_over_fits:=dmk X G a15 l15 g15 k15 ["prices","nears","u","v"] ((jak l15 g15 k15).binds fun _ _ _ _ _ _ us hl=>match us,hl with | [_,_,_,_],_=>rfl)
 have D_twins_fit:=dmk X G a16 l16 g16 k16 ["nears","u","v"] ((jak l16 g16 k16).binds fun _ _ _ _ _ _ us hl=>match us,hl with | [_,_,_],_=>rfl)
 have D_any_tied:=dmk X G a17 l17 g17 k17 ["nears","places"] ((jak l17 g17 k17).binds fun _ _ _ _ _ _ us hl=>match us,hl with | [_,_],_=>rfl)
 have D_fold_fits:=dmk X G a18 l18 g18 k18 ["prices","nears","v"] ((jak l18 g18 k18).binds fun _ _ _ _ _ _ us hl=>match us,hl with | [_,_,_],_=>rfl)
 have D_rule_fits:=dmk X G a19 l19 g19 k19 ["prices","nears","step"] ((jak l19 g19 k19).binds fun _ _ _ _ _ _ us hl=>match us,hl with | [_,_,_],_=>rfl)
 have D_fits_known:=dmk X G a20 l20 g20 k20 ["web","thing"] ((jak l20 g20 k20).binds fun _ _ _ _ _ _ us hl=>match us,hl with | [_,_],_=>rfl)
 have D_look_at_step:=dmk X G a21 l21 g21 k21 ["web","thing"] ((jak l21 g21 k21).binds fun _ _ _ _ _ _ us hl=>match us,hl with | [_,_],_=>rfl)
 have D_fits:=dmk X G a22 l22 g22 k22 ["web","thing"] ((jak l22 g22 k22).binds fun _ _ _ _ _ _ us hl=>match us,hl with | [_,_],_=>rfl)
 have D_after:=dmk X G a23 l23 g23 k23 ["web","step"] ((jak l23 g23 k23).binds fun _ _ _ _ _ _ us hl=>match us,hl with | [_,_],_=>rfl)
 have D_back:=dmk X G a24 l24 g24 k24 ["web","step","some"] ((jak l24 g24 k24).binds fun _ _ _ _ _ _ us hl=>match us,hl with | [_,_,_],_=>rfl)
 have D_forth:=dmk X G a25 l25 g25 k25 ["web","step","some"] ((jak l25 g25 k25).binds fun _ _ _ _ _ _ us hl=>match us,hl with | [_,_,_],_=>rfl)
 have D_law_begun:=dmk X G a26 l26 g26 k26 ["_law_script","_law_k"] ((jak l26 g26 k26).binds fun _ _ _ _ _ _ us hl=>match us,hl with | [_,_],_=>rfl)
 have D_law_take:=dmk X G a27 l27 g27 k27 ["_law_state","_law_many"] ((jak l27 g27 k27).binds fun _ _ _ _ _ _ us hl=>match us,hl with | [_,_],_=>rfl)
 have D_law_places:=dmk X G a28 l28 g28 k28 ["_law_state","_law_count"] ((jak l28 g28 k28).binds fun _ _ _ _ _ _ us hl=>match us,hl with | [_,_],_=>rfl)
 have D_law_tie:=dmk X G a29 l29 g29 k29 ["_law_one","_law_other"] ((jak l29 g29 k29).binds fun _ _ _ _ _ _ us hl=>match us,hl with | [_,_],_=>rfl)
 have D_law_edge:=dmk X G a30 l30 g30 k30 ["_law_state","_law_prices_here"] ((jak l30 g30 k30).binds fun _ _ _ _ _ _ us hl=>match us,hl with | [_,_],_=>rfl)
 have D_law_star:=dmk X G a31 l31 g31 k31 ["_law_state","_law_most"] ((jak l31 g31 k31).binds fun _ _ _ _ _ _ us hl=>match us,hl with | [_,_],_=>rfl)
 have D_law_prices:=dmk X G a32 l32 g32 k32 ["_law_web"] ((jak l32 g32 k32).binds fun _ _ _ _ _ _ us hl=>match us,hl with | [_],_=>rfl)
 have D_law_near:=dmk X G a33 l33 g33 k33 ["_law_web","_law_place"] ((jak l33 g33 k33).binds fun _ _ _ _ _ _ us hl=>match us,hl with | [_,_],_=>rfl)
 have D_law_due:=dmk X G a34 l34 g34 k34 ["_law_web","_law_place"] ((jak l34 g34 k34).binds fun _ _ _ _ _ _ us hl=>match us,hl with | [_,_],_=>rfl)
 have D_law_unfit:=dmk X G a35 l35 g35 k35 ["_law_web","_law_step"] ((jak l35 g35 k35).binds fun _ _ _ _ _ _ us hl=>match us,hl with | [_,_],_=>rfl)
 have D_law:=dmk X G a36 l36 g36 k36 ["_law_script"] ((jak l36 g36 k36).binds fun _ _ _ _ _ _ us hl=>match us,hl with | [_],_=>rfl)
 refine ⟨PySem.W.fnOf "law" "law" (jcr (top 82)) (jc4 (top 82)) (ja8 (top 82)) .none kV36 dc36 pm36 an36 cd36 ct36,fun s v=>.of_eq rfl,fun base _ _=>?_⟩
 have X_NoWeb:ClsX K mg "NoWeb" C_NoWeb fI_NoWeb:=⟨PySem.W.mg_of X G a_NoWeb,kp_NoWeb,x_NoWeb,fn_NoWeb,⟨⟨cd_NoWeb,by unfold PySem.W.clsIn; rw [l_NoWeb],by
  simp only [Bool.and_eq_true,Bool.not_eq_true'] at ch_NoWeb
  exact ⟨ch_NoWeb.1.1,ch_NoWeb.1.2,ch_NoWeb.2⟩⟩,sa_NoWeb⟩,⟨⟨ga_NoWeb,gt_NoWeb,sb_NoWeb⟩,hd_NoWeb,ha_NoWeb,hn_cls,ht_cls,hm_NoWeb⟩⟩
 have FI_NoWeb:=jak (x:="__init__") (qual:="NoWeb.__init__") (st:=meth 2 0) li_NoWeb ci_NoWeb ki_NoWeb
 have bI_NoWeb:=FI_NoWeb.binds (ps:=["self","part","number"]) fun _ _ _ _ _ _ us hl=>match us,hl with | [_,_,_],_=>rfl
 have DI_NoWeb:InitAt K "NoWeb.__init__" (meth 2 0) ["self","part","number"] _ _:=⟨FI_NoWeb,bI_NoWeb⟩
 have X_NoStep:ClsX K mg "NoStep" C_NoStep fI_NoStep:=⟨PySem.W.mg_of X G a_NoStep,kp_NoStep,x_NoStep,fn_NoStep,⟨⟨cd_NoStep,by unfold PySem.W.clsIn; rw [l_NoStep],by
  simp only [Bool.and_eq_true,Bool.not_eq_true'] at ch_NoStep
  exact ⟨ch_NoStep.1.1,ch_NoStep.1.2,ch_NoStep.2⟩⟩,sa_NoStep⟩,⟨⟨ga_NoStep,gt_NoStep,sb_NoStep⟩,hd_NoStep,ha_NoStep,hn_cls,ht_cls,hm_NoStep⟩⟩
 have FI_NoStep:=jak (x:="__init__") (qual:="NoStep.__init__") (st:=meth 3 0) li_NoStep ci_NoStep ki_NoStep
 have bI_NoStep:=FI_NoStep.binds (ps:=["self","at"]) fun _ _ _ _ _ _ us hl=>match us,hl with | [_,_],_=>rfl
 have DI_NoStep:InitAt K "NoStep.__init__" (meth 3 0) ["self","at"] _ _:=⟨FI_NoStep,bI_NoStep⟩
 have m_T:=PySem.W.mg_of X G a_T
 have xi:XI K T "ValueError.__init__":=⟨rd_T,sp_T,iid_T ▸ at_T,hd_T⟩
 have G_is_whole:=jjx (P:=l.prog) (w:=w) (base:=base) B D_is_whole
 have G_is_tuple_of:=jfk (P:=l.prog) (w:=w) (base:=base) B D_is_tuple_of
 have G_is_list_up_to:=je9 (P:=l.prog) (w:=w) (base:=base) B D_is_list_up_to
 have G_is_pair_of_wholes:=jd0 (P:=l.prog) (w:=w) (base:=base) B D_is_pair_of_wholes D_is_tuple_of G_is_tuple_of D_is_whole G_is_whole
 have G_place_stands:=jev (P:=l.prog) (w:=w) (base:=base) B C D_place_stands D_is_pair_of_wholes G_is_pair_of_wholes
 have G_tie_stands:=jgl (P:=l.prog) (w:=w) (base:=base) B D_tie_stands D_is_pair_of_wholes G_is_pair_of_wholes
 have GI_NoWeb:=jgo (P:=l.prog) (w:=w) (base:=base) DI_NoWeb X_NoWeb m_T xi f_NoWeb_part f_NoWeb_number
 have GI_NoStep:=jfl (P:=l.prog) (w:=w) (base:=base) DI_NoStep X_NoStep m_T xi f_NoStep_at
 have G_look_at_places:=jdx (P:=l.prog) (w:=w) (base:=base) B C D_look_at_places D_is_list_up_to G_is_list_up_to D_place_stands G_place_stands X_NoWeb DI_NoWeb GI_NoWeb
 have G_look_at_ties:=jew (P:=l.prog) (w:=w) (base:=base) B C D_look_at_ties D_is_list_up_to G_is_list_up_to D_tie_stands G_tie_stands X_NoWeb DI_NoWeb GI_NoWeb
 have G_look_at_web:=jfj (P:=l.prog) (w:=w) (base:=base) B D_look_at_web D_is_tuple_of G_is_tuple_of D_look_at_places G_look_at_places D_look_at_ties G_look_at_ties X_NoWeb DI_NoWeb GI_NoWeb
 have G_nears_in:=jjs (P:=l.prog) (w:=w) (base:=base) B D_nears_in
 have G_is_place:=jjy (P:=l.prog) (w:=w) (base:=base) B D_is_place D_is_whole G_is_whole
 have G_are_places:=jgq (P:=l.prog) (w:=w) (base:=base) B D_are_places D_is_place G_is_place
 have G_cost_near:=jie (P:=l.prog) (w:=w) (base:=base) B D_cost_near
 have G_near_fits:=ji9 (P:=l.prog) (w:=w) (base:=base) B D_near_fits D_cost_near G_cost_near
 have G_leaf_fits:=jia (P:=l.prog) (w:=w) (base:=base) B D_leaf_fits
 have G_over_fits:=ji8 (P:=l.prog) (w:=w) (base:=base) B D_over_fits
 have G_twins_fit:=ji6 (P:=l.prog) (w:=w) (base:=base) B D_twins_fit
 have G_any_tied:=jjz (P:=l.prog) (w:=w) (base:=base) B D_any_tied
 have G_fold_fits:=jid (P:=l.prog) (w:=w) (base:=base) B D_fold_fits D_any_tied G_any_tied D_cost_near G_cost_near
 have G_rule_fits:=ji7 (P:=l.prog) (w:=w) (base:=base) B D_rule_fits D_near_fits G_near_fits D_leaf_fits G_leaf_fits D_over_fits G_over_fits D_twins_fit G_twins_fit
 have G_fits_known:=jgp (P:=l.prog) (w:=w) (base:=base) B D_fits_known D_are_places G_are_places D_nears_in G_nears_in D_fold_fits G_fold_fits D_rule_fits G_rule_fits
 have G_look_at_step:=jex (P:=l.prog) (w:=w) (base:=base) B D_look_at_step D_look_at_web G_look_at_web D_fits_known G_fits_known X_NoStep DI_NoStep GI_NoStep
 have G_fits:=jqv (P:=l.prog) (w:=w) (base:=base) B D_fits D_look_at_web G_look_at_web D_fits_known G_fits_known
 have G_after:=jpb (P:=l.prog) (w:=w) (base:=base) B D_after D_look_at_step G_look_at_step
 have G_back:=jqw (P:=l.prog) (w:=w) (base:=base) B D_back D_look_at_step G_look_at_step
 have G_forth:=jpa (P:=l.prog) (w:=w) (base:=base) B D_forth D_look_at_step G_look_at_step
 have G_fig:=good jo2 G_fits
 have G_law_begun:=jic (P:=l.prog) (w:=w) (base:=base) B D_law_begun
 have G_law_take:=jjt (P:=l.prog) (w:=w) (base:=base) B D_law_take
 have G_law_places:=jgn (P:=l.prog) (w:=w) (base:=base) B D_law_places D_law_take G_law_take
 have G_law_tie:=jlp (P:=l.prog) (w:=w) (base:=base) B D_law_tie
 have G_law_edge:=jjw (P:=l.prog) (w:=w) (base:=base) B D_law_edge D_law_take G_law_take
 have G_law_star:=jju (P:=l.prog) (w:=w) (base:=base) B D_law_star D_law_take G_law_take D_law_places G_law_places D_law_edge G_law_edge D_law_tie G_law_tie
 have G_law_prices:=jgm (P:=l.prog) (w:=w) (base:=base) B D_law_prices
 have G_law_near:=jjv (P:=l.prog) (w:=w) (base:=base) B D_law_near
 have G_law_due:=jlq (P:=l.prog) (w:=w) (base:=base) B D_law_due D_law_prices G_law_prices D_law_near G_law_near
 have G_law_unfit:=jib (P:=l.prog) (w:=w) (base:=base) B D_law_unfit D_after G_after D_back G_back D_forth G_forth X_NoStep f_NoStep_at
 exact ok_law B D_law D_law_begun G_law_begun D_law_take G_law_take D_law_star G_law_star D_fits G_fig D_law_due G_law_due D_law_unfit G_law_unfit
theorem walk {l:PySem.W.OpenLaw} {q:Program} {loose:List Str} {XP:(Str→Option Value)→Heap→Prop} {YP:World→Heap→Prop} {d:DefRec} {K:Params→PySem.W.Frag} (hn:l.most = some 63) (hdf:d.params.defaults = [])
  (hY:∀ (w:World) (h:Heap),YP w h→(K w.params).In h)
  (F:∀ (w:World) (mg:Str→Option Value) (fa:Addr) (h:Heap),(K w.params).In h→h.Ns mainGlobals mg→mg d.name = some (.ref fa) →
   ∃ fd:FuncData,(∀ (s:Shared) (u:Value),BindsTo s fd ⟨[u],[]⟩ [("_law_script",u)])∧∀ base:Heap,(K w.params).In base→base.Ns mainGlobals mg→FnOk l.prog w (K w.params) mg base CX0 9 fa fd ["_law_script"] (jow (K w.params))) :
  PySem.W.WalkO q loose XP YP l.row.toRowW d [] (fun f vs=>PySem.call f vs) :=
 L2.jmc (n:=63) (k:=9) (x:="_law_script") (CX:=fun _=>CX0) (sp:=fun w=>jow (K w.params)) hn (by decide) hdf ⟨rfl,by decide,by decide,rfl⟩ hY F (fun _ _ a ns hl hO hS=>⟨a,ns,rfl,Scr.of hS hO,fun _=>rfl⟩) fun _ _ _ _ _ z=>z
end My
open PySem PySem.W PyProof.Rows
set_option maxRecDepth 100000 in
set_option maxHeartbeats 0 in
theorem PySem.Challenge.cw_touchall_k36_folds_that_fit_holds : PySem.Challenge.rw_touchall_k36_folds_that_fit.Holds := by
 refine MyHead ?_
 k_fill
 refine My.walk (l:=PySem.Challenge.rw_touchall_k36_folds_that_fit) rfl rfl (fun w h Y=>PySem.W.kIn_of Y) ?F
 case F =>
  intro w mg fa h KX G hmg
  refine' My.all_mk KX G hmg ?_ ?_ ?_ ?_ ?_ ?_ ?_ ?_ ?_ ?_ ?_ ?_ ?_ ?_ ?_ ?_ ?_ ?_ ?_ ?_ ?_ ?_ ?_ ?_ ?_ ?_ ?_ ?_ ?_ ?_ ?_ ?_ ?_ ?_ ?_ ?_ ?_ ?_ ?_ ?_ ?_ ?_ ?_ ?_ ?_ ?_ ?_ ?_ ?_ ?_ ?_ ?_ ?_ ?_ ?_ ?_ ?_ ?_ ?_ ?_ ?_ ?_ ?_ ?_ ?_ ?_ ?_ ?_ ?_ ?_ ?_ ?_ ?_ ?_ ?_ ?_ ?_ ?_ ?_ ?_ ?_ ?_ ?_ ?_ ?_ ?_ ?_ ?_ ?_ ?_ ?_ ?_ ?_ ?_ ?_ ?_ ?_ ?_ ?_ ?_ ?_ ?_ ?_ ?_ ?_ ?_ ?_ ?_ ?_ ?_ ?_ ?_ ?_ ?_ ?_ ?_ ?_ ?_ ?_ ?_ ?_ ?_ ?_ ?_ ?_ ?_ ?_ ?_ ?_ ?_ ?_ ?_ ?_ ?_ ?_ ?_ ?_ ?_ ?_ ?_ ?_ ?_ ?_ ?_ ?_ ?_ ?_ ?_ ?_ ?_ ?_ ?_ ?_ ?_ ?_ ?_ ?_ ?_ ?_ ?_ ?_ ?_ ?_ ?_ ?_ ?_ ?_ ?_ ?_ ?_ ?_ ?_ ?_ ?_ ?_ ?_ ?_ ?_ ?_ ?_ ?_ ?_ ?_ ?_ ?_ ?_ ?_ ?_ ?_ ?_ ?_ ?_ ?_ ?_ ?_ ?_ ?_ ?_ ?_ ?_ ?_ ?_ ?_ ?_ ?_ ?_ ?_ ?_ ?_ ?_ ?_ ?_ ?_ ?_ ?_ ?_
  any_goals first | k_is | (delta My.aT; k_is) | (delta My.lT; k_is) | (delta My.cT; k_is) | (delta My.kT; k_is) | (delta My.zT; k_is) | kernel_rfl | rfl
#print axioms PySem.Challenge.cw_touchall_k36_folds_that_fit_holds
