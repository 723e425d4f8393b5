import PyProof.Rows.All
import Wide.All
import OpenK.AllK
import Wide.FinOn
import Lean
import PyProof.EqAt
import PyProof.EqKinds
import PyProof.TupleCall
import PyProof.NeKinds
import PyProof.NeData
import PySem.Challenge.RW_touchall_k21_papers_of_halves
import PyProof.StationsW
import PyProof.ExcInit
import PyProof.InstStoreFacts
import PyProof.NsDelKeeps
import PyProof.RulesAs
import PyProof.ExcAttrAll.ValueError
import KE.KIsAll
import PyProof.AutoSeq1
import PyProof.Rows.SetFrom
import PyProof.SetRoads
import PyProof.Rows.SortRuns
import PyProof.Rows.SortShell
import KE.KSortTup
import PyProof.Rows.SumAny
import PyProof.DictWalks
import PyProof.DictUpdate
import KE.KDictList
import PyProof.ReprRoads
import PyProof.FitsInt
section
open PySem PySem.W PyProof.Rows
set_option Elab.async false
set_option maxRecDepth 100000
set_option maxHeartbeats 0
namespace PySem.W.Fast
theorem tw17541362422845486311:True:=⟨⟩
theorem tw17944294655833697864:True:=⟨⟩
theorem tw14781562103584300300:True:=⟨⟩
theorem tw11708235739777486668:True:=⟨⟩
theorem tw16467396488625011024:True:=⟨⟩
theorem tw16599119404929089777:True:=⟨⟩
theorem tw4701448198109260882:True:=⟨⟩
theorem tw280475905095942100:True:=⟨⟩
theorem tw17883986908372840214:True:=⟨⟩
theorem tw10990838814321057018:True:=⟨⟩
theorem tw6706096831018490023:True:=⟨⟩
theorem tw3773057405139938506:True:=⟨⟩
theorem tw10581164851701950017:True:=⟨⟩
theorem tw13058793742947418118:True:=⟨⟩
theorem tw4434424640694691219:True:=⟨⟩
theorem tw5291671171568664792:True:=⟨⟩
theorem tw6099802976542961457:True:=⟨⟩
theorem tw7213155722094151984:True:=⟨⟩
theorem tw7853399458379906777:True:=⟨⟩
theorem tw11388765831873443430:True:=⟨⟩
theorem tw10013146292578147414:True:=⟨⟩
theorem tw850951039455432525:True:=⟨⟩
theorem tw9443149326504112810:True:=⟨⟩
theorem tw162473700425539603:True:=⟨⟩
theorem tw3386007157573418628:True:=⟨⟩
theorem tw11550877504187698619:True:=⟨⟩
theorem tw12021910400016799448:True:=⟨⟩
theorem tw2198618278216875009:True:=⟨⟩
theorem tw2232508010609702249:True:=⟨⟩
theorem tw11930511757121121756:True:=⟨⟩
theorem tw9748736633980905991:True:=⟨⟩
theorem tw17948796234568494333:True:=⟨⟩
theorem tw11845121057717500690:True:=⟨⟩
theorem tw2269460933442521542:True:=⟨⟩
theorem tw6799717253033202974:True:=⟨⟩
theorem tw14826031857019004941:True:=⟨⟩
theorem tw1946033789281374818:True:=⟨⟩
theorem tw885371844316833120:True:=⟨⟩
theorem tw5729796969671028974:True:=⟨⟩
theorem tw6822298609184292527:True:=⟨⟩
theorem tw17341298701788093120:True:=⟨⟩
theorem tw15335128613735910151:True:=⟨⟩
theorem tw8297966634746096414:True:=⟨⟩
theorem tw14003406518076274850:True:=⟨⟩
theorem tw7761872477267044100:True:=⟨⟩
theorem tw13651674943635200488:True:=⟨⟩
theorem tw7482920708577278718:True:=⟨⟩
theorem tw17382730591349914884:True:=⟨⟩
theorem tw12299380988638202590:True:=⟨⟩
theorem tw8212859607379937844:True:=⟨⟩
theorem tw5061831166103267206:True:=⟨⟩
theorem tw16546778057378974778:True:=⟨⟩
theorem tw5870115567283432914:True:=⟨⟩
theorem tw8549602738571025238:True:=⟨⟩
theorem tw16690788079638538773:True:=⟨⟩
theorem tw12343798008286848705:True:=⟨⟩
theorem tw3421753523302657214:True:=⟨⟩
theorem tw5101450760185418553:True:=⟨⟩
theorem tw14100869705339816407:True:=⟨⟩
theorem tw332976832776276163:True:=⟨⟩
theorem tw12262444746191023002:True:=⟨⟩
theorem tw14973742723826984120:True:=⟨⟩
theorem tw429126050991680652:True:=⟨⟩
theorem tw15227233571305852144:True:=⟨⟩
theorem tw5099301408519554050:True:=⟨⟩
theorem tw5310659528658988666:True:=⟨⟩
theorem tw6238900285969046887:True:=⟨⟩
theorem tw14295450787131531452:True:=⟨⟩
theorem tw9482120283554068594:True:=⟨⟩
theorem tw18111414595329612538:True:=⟨⟩
theorem tw18435423981051818222:True:=⟨⟩
theorem tw13990930123094078712:True:=⟨⟩
theorem tw9000492280638625789:True:=⟨⟩
theorem tw15980514055555444097:True:=⟨⟩
theorem tw1446046372975601066:True:=⟨⟩
theorem tw9578137325174995177:True:=⟨⟩
theorem tw16238301872741956780:True:=⟨⟩
theorem tw9769863511298422818:True:=⟨⟩
theorem tw12964706684179383832:True:=⟨⟩
theorem tw4040663737483218468:True:=⟨⟩
theorem tw7202037326456345769:True:=⟨⟩
theorem tw16770910964881924072:True:=⟨⟩
theorem tw5954876327221452193:True:=⟨⟩
theorem tw10661231254371446707:True:=⟨⟩
theorem tw17790621613727568432:True:=⟨⟩
theorem tw4069687752174603861:True:=⟨⟩
theorem tw3202980715671287772:True:=⟨⟩
theorem tw8153494736163193282:True:=⟨⟩
theorem tw530684274474814442:True:=⟨⟩
theorem tw11906391868283360964:True:=⟨⟩
theorem tw7038596651363693363:True:=⟨⟩
theorem tw3778727204222080899:True:=⟨⟩
theorem tw10913997214970868764:True:=⟨⟩
theorem tw3450192468778676572:True:=⟨⟩
theorem tw1092231837839737871:True:=⟨⟩
theorem tw1104488647094209902:True:=⟨⟩
theorem tw1412105097100734851:True:=⟨⟩
theorem tw16042470173560958907:True:=⟨⟩
theorem tw16435145116260540403:True:=⟨⟩
theorem tw787864133665795934:True:=⟨⟩
theorem tw4421343633076843811:True:=⟨⟩
theorem tw9197129900319299892:True:=⟨⟩
theorem tw18438347639502009901:True:=⟨⟩
theorem tw3251091792226649815:True:=⟨⟩
theorem tw14162606385346639759:True:=⟨⟩
theorem tw12832714438019067581:True:=⟨⟩
theorem tw15871576022070521126:True:=⟨⟩
theorem tw6512370430324665260:True:=⟨⟩
theorem tw13777678184960627923:True:=⟨⟩
theorem tw6670132038723899214:True:=⟨⟩
theorem tw18415491594491465074:True:=⟨⟩
theorem tw5047764800839148311:True:=⟨⟩
theorem tw11033941645859556090:True:=⟨⟩
theorem tw14640572693217546273:True:=⟨⟩
theorem tw7851787535860571123:True:=⟨⟩
theorem tw6866683891151582221:True:=⟨⟩
theorem tw6743641750472775847:True:=⟨⟩
theorem tw5755817227132875237:True:=⟨⟩
theorem tw5300736341620111946:True:=⟨⟩
theorem tw4862741975000952055:True:=⟨⟩
theorem tw420471366415179010:True:=⟨⟩
theorem tw2812415958408709537:True:=⟨⟩
theorem tw2807939160141173056:True:=⟨⟩
theorem tw18051402899012708777:True:=⟨⟩
theorem tw17386353614433715009:True:=⟨⟩
theorem tw16556699998316864137:True:=⟨⟩
theorem tw1459643596898847606:True:=⟨⟩
theorem tw14483856630567087015:True:=⟨⟩
theorem tw600212407440205806:True:=⟨⟩
theorem tw1819663710973714041:True:=⟨⟩
theorem tw14376798394326754113:True:=⟨⟩
theorem tw15546968404707699468:True:=⟨⟩
theorem tw577511202878901248:True:=⟨⟩
theorem tw12308534206943208666:True:=⟨⟩
theorem tw17899455434026235383:True:=⟨⟩
theorem tw14229602632353992099:True:=⟨⟩
theorem tw18366049866466480393:True:=⟨⟩
theorem tw12328668147688059386:True:=⟨⟩
theorem tw17594760211624526283:True:=⟨⟩
theorem tw12084875070278405943:True:=⟨⟩
theorem tw4395593587568455176:True:=⟨⟩
theorem tw6245827768647603512:True:=⟨⟩
theorem tw1623218935358935076:True:=⟨⟩
theorem tw4463166748007049108:True:=⟨⟩
theorem tw15514634696500728796:True:=⟨⟩
theorem tw11492615796320202812:True:=⟨⟩
theorem tw13918767385064653732:True:=⟨⟩
theorem tw8706593751649875096:True:=⟨⟩
theorem tw12306747795182409104:True:=⟨⟩
theorem tw14377308959950482725:True:=⟨⟩
theorem tw9297663727785247985:True:=⟨⟩
theorem tw9307431955463701274:True:=⟨⟩
theorem tw1495474450647618605:True:=⟨⟩
theorem tw16409236330492884371:True:=⟨⟩
theorem tw12838189731587688999:True:=⟨⟩
theorem tw11207535551202950041:True:=⟨⟩
theorem tw9016929935483840578:True:=⟨⟩
theorem tw15118457964073289629:True:=⟨⟩
theorem tw12260765946192292528:True:=⟨⟩
theorem tw8885987717333115810:True:=⟨⟩
theorem tw2085475339112882483:True:=⟨⟩
theorem tw18065466543452598238:True:=⟨⟩
theorem tw16106723983093554436:True:=⟨⟩
theorem tw9990162211652564711:True:=⟨⟩
theorem tw9863237375522220903:True:=⟨⟩
theorem tw9643090989392201812:True:=⟨⟩
theorem tw9506547847472607489:True:=⟨⟩
theorem tw8795544817985420263:True:=⟨⟩
theorem tw8556881319794653275:True:=⟨⟩
theorem tw8112447074107057508:True:=⟨⟩
theorem tw8079341929624369548:True:=⟨⟩
theorem tw7835064511630915075:True:=⟨⟩
theorem tw7232841066116858783:True:=⟨⟩
theorem tw7202096296974048930:True:=⟨⟩
theorem tw7129484964119345133:True:=⟨⟩
theorem tw7007092725283629287:True:=⟨⟩
theorem tw6821080607343536927:True:=⟨⟩
theorem tw6730875953044847916:True:=⟨⟩
theorem tw648145590827737737:True:=⟨⟩
theorem tw6425884994113631308:True:=⟨⟩
theorem tw6049868058112198784:True:=⟨⟩
theorem tw5160066459553266816:True:=⟨⟩
theorem tw3902602399963370953:True:=⟨⟩
theorem tw3804045619721632138:True:=⟨⟩
theorem tw3768600909522892029:True:=⟨⟩
theorem tw3436040953348231904:True:=⟨⟩
theorem tw18368650237389215793:True:=⟨⟩
theorem tw18259904567720872237:True:=⟨⟩
theorem tw18198432349956210722:True:=⟨⟩
theorem tw17982551050898188252:True:=⟨⟩
theorem tw17953295521274581375:True:=⟨⟩
theorem tw17748890715401807743:True:=⟨⟩
theorem tw17748391171391791682:True:=⟨⟩
theorem tw17670709185726934248:True:=⟨⟩
theorem tw17426358754788277328:True:=⟨⟩
theorem tw1726813977947389158:True:=⟨⟩
theorem tw17135590481203170121:True:=⟨⟩
theorem tw17001195906241442773:True:=⟨⟩
theorem tw16731634629222179199:True:=⟨⟩
theorem tw16086166043349708051:True:=⟨⟩
theorem tw15168232015531237972:True:=⟨⟩
end PySem.W.Fast
open_top MyHead for PySem.Challenge.rw_touchall_k21_papers_of_halves
end
-- CHANGE: your row's module here, as the last of these rows
noncomputable section
set_option Elab.async false
set_option linter.all false
set_option maxRecDepth 100000
namespace L2
open PySem PySem.Spec PyProof.Rows
abbrev Key:=Sum Int Str
def jlm:Key→Value→Bool
 | .inl k,v=>Value.isInt k v
 | .inr x,v=>Value.isStrOf x v
def keyH (w:World):Key→Int
 | .inl k=>hashInt k
 | .inr x=>hashStr w x
theorem jbd:∀ {k:Key} {v:Value},jlm k v = true→(∃ i t,k = Sum.inl i∧v = Value.int i t) ∨ (∃ x t,k = Sum.inr x∧v = Value.str x t)
 | .inl i,v,h=>by
  obtain ⟨t,e⟩:=Value.isInt_shape (k:=i) (v:=v) h
  exact .inl ⟨i,t,rfl,e⟩
 | .inr x,v,h=>by
  obtain ⟨t,e⟩:=Value.isStrOf_shape (x:=x) (v:=v) h
  exact .inr ⟨x,t,rfl,e⟩
theorem jne (i:Int) (t:Tok):jlm (.inl i) (.int i t) = true:=by simp [jlm,Value.isInt]
theorem jnd (x:Str) (t:Tok):jlm (.inr x) (.str x t) = true:=by simp [jlm,Value.isStrOf]
theorem key_ll (a b:Int):decide ((Sum.inl a:Key) = Sum.inl b) = (a == b):=by
 by_cases e:a = b
 ·subst e; simp
 ·have h:¬ (Sum.inl a:Key) = Sum.inl b:=fun q=>e (Sum.inl.inj q)
  rw [decide_eq_false h]
  exact (beq_eq_false_iff_ne.mpr e).symm
theorem key_rr (a b:Str):decide ((Sum.inr a:Key) = Sum.inr b) = decide (a = b):=by
 by_cases e:a = b
 ·subst e; simp
 ·have h:¬ (Sum.inr a:Key) = Sum.inr b:=fun q=>e (Sum.inr.inj q)
  rw [decide_eq_false h,decide_eq_false e]
theorem key_lr (a:Int) (b:Str):decide ((Sum.inl a:Key) = Sum.inr b) = false:=decide_eq_false (fun q=>nomatch q)
theorem key_rl (a:Str) (b:Int):decide ((Sum.inr a:Key) = Sum.inl b) = false:=decide_eq_false (fun q=>nomatch q)
def jba (prog:Program) (w:World):PySem.KeyKind prog w Key where
 is:=jlm
 hash:=keyH w
 inj:=fun v a b ha hb=>by
  rcases jbd ha with ⟨i,t,rfl,rfl⟩ | ⟨x,t,rfl,rfl⟩
  ·rcases jbd hb with ⟨j,u,rfl,e⟩ | ⟨y,u,rfl,e⟩
   ·injection e with e1 _; rw [e1]
   ·exact nomatch e
  ·rcases jbd hb with ⟨j,u,rfl,e⟩ | ⟨y,u,rfl,e⟩
   ·exact nomatch e
   ·injection e with e1 _; rw [e1]
 byValue:=fun k v h=>by
  rcases jbd h with ⟨i,t,rfl,rfl⟩ | ⟨x,t,rfl,rfl⟩ <;> rfl
 pyHash:=fun hv h=>by
  rcases jbd hv with ⟨i,t,rfl,rfl⟩ | ⟨x,t,rfl,rfl⟩
  ·exact wpAny_pyHash_int h
  ·exact wpAny_pyHash_str h
 eqBool:=fun hu hv h=>by
  rcases jbd hu with ⟨i,t,rfl,rfl⟩ | ⟨x,t,rfl,rfl⟩
  ·rcases jbd hv with ⟨j,u,rfl,rfl⟩ | ⟨y,u,rfl,rfl⟩
   ·rw [key_ll] at h; exact wpAny_eqBool_int h
   ·rw [key_lr] at h; exact SeqAt.EqAt.int_str i t y u _ _ _ _ h
  ·rcases jbd hv with ⟨j,u,rfl,rfl⟩ | ⟨y,u,rfl,rfl⟩
   ·rw [key_rl] at h; exact SeqAt.EqAt.str_int x t j u _ _ _ _ h
   ·rw [key_rr] at h; exact wpAny_eqBool_str h
 «strs»:=fun k x t v h=>by
  rcases jbd h with ⟨i,u,rfl,e⟩ | ⟨y,u,rfl,e⟩
  ·exact nomatch e
  ·injection e with e1 _
   subst e1
   cases v <;> rfl
theorem jjt (prog:Program) (w:World) (i:Int) (t:Tok):(jba prog w).is (.inl i) (.int i t) = true:=jne i t
theorem jjs (prog:Program) (w:World) (x:Str) (t:Tok):(jba prog w).is (.inr x) (.str x t) = true:=jnd x t
end L2
namespace L2
open PySem PySem.Spec PyProof.Rows
inductive V where
 | non | bl (b:Bool) | int (i:Int) | str (x:Str) | byt (b:Array UInt8) | flt (b:UInt64) | ref (a:Addr) | ty (n:String)
 deriving DecidableEq
def RelV:V→Value→Prop
 | .non,u=>u = Value.none
 | .bl b,u=>u = Value.bool b
 | .int i,u=>∃ t,u = Value.int i t
 | .str x,u=>∃ t,u = Value.str x t
 | .byt b,u=>∃ t,u = Value.bytes b t
 | .flt b,u=>∃ t,u = Value.float b t
 | .ref a,u=>u = Value.ref a
 | .ty n,u=>u = Value.type n
abbrev Vals:List V→List Value→Prop:=Paired RelV
theorem Vals.length {xs:List V} {us:List Value} (r:Vals xs us):xs.length = us.length:=Paired.length r
theorem Vals.get:∀ {xs:List V} {us:List Value} {i:Nat} {x:V},Vals xs us→xs[i]? = some x→∃ u,us[i]? = some u∧RelV x u
 | _,_,_,_,.nil,e=>by simp at e
 | _,_,0,_,.cons r _,e=>by simp at e; subst e; exact ⟨_,rfl,r⟩
 | _,_,i + 1,x,.cons _ t,e=>by
  obtain ⟨u,h1,h2⟩:=Vals.get (i:=i) (x:=x) t (by simpa using e)
  exact ⟨u,by simpa using h1,h2⟩
theorem Vals.set {x:V} {u:Value} (r:RelV x u):∀ {xs:List V} {us:List Value} (i:Nat),Vals xs us→Vals (xs.set i x) (us.set i u)
 | _,_,_,.nil=>.nil
 | _,_,0,.cons _ t=>.cons r t
 | _,_,i + 1,.cons q t=>.cons q (Vals.set r i t)
theorem Vals.append:∀ {xs ys:List V} {us ws:List Value},Vals xs us→Vals ys ws→Vals (xs ++ ys) (us ++ ws)
 | _,_,_,_,.nil,s=>s
 | _,_,_,_,.cons r t,s=>.cons r (Vals.append t s)
theorem Vals.take:∀ {xs:List V} {us:List Value} (n:Nat),Vals xs us→Vals (xs.take n) (us.take n)
 | _,_,0,_=>.nil
 | _,_,_ + 1,.nil=>.nil
 | _,_,n + 1,.cons r t=>.cons r (Vals.take n t)
theorem Vals.drop:∀ {xs:List V} {us:List Value} (n:Nat),Vals xs us→Vals (xs.drop n) (us.drop n)
 | _,_,0,r=>r
 | _,_,_ + 1,.nil=>.nil
 | _,_,n + 1,.cons _ t=>Vals.drop n t
def RelO:Option V→Option Value→Prop
 | some v,some u=>RelV v u
 | none,none=>True
 | _,_=>False
def KV {κ:Type}:List (κ × V)→List (κ × Value)→Prop:=Paired fun (p:κ × V) (q:κ × Value)=>p.1 = q.1∧RelV p.2 q.2
def kV:Key→V
 | .inl i=>.int i
 | .inr x=>.str x
inductive HO where
 | lst (xs:List V)
 | tup (xs:List V)
 | dK (kvs:List (Key × V)) | dT (kvs:List (List Key × V))
 | set (S:Int→Bool) (n:Nat)
 | ins (C dx:Addr) (fs:List (Str × V))
 | own (x:Addr)
 | xd (fs:List (Str × V))
 | met (f x:Addr)
 | rng (lo hi:Int)
 | frz (o:Obj) (u:HO)
 | tbl (ps:Array Value)
 | ext (φ:Heap→Prop)
abbrev Hp:=Addr→Option HO
def upd (H:Hp) (a:Addr) (o:HO):Hp:=fun b=>if b = a then some o else H b
theorem ja1 {H:Hp} {a:Addr} {o:HO}:upd H a o a = some o:=by unfold upd; rw [if_pos rfl]
theorem jaa {H:Hp} {a b:Addr} {o:HO} (h:b ≠ a):upd H a o b = H b:=by unfold upd; rw [if_neg h]
theorem jed {H:Hp} {a:Addr} {o u:HO}:upd (upd H a o) a u = upd H a u:=by
 funext b; unfold upd; split <;> rfl
theorem ne_of {H:Hp} {a b:Addr} {o u:HO} (h:H a = some o) (h':H b = some u) (d:o ≠ u):a ≠ b:=by
 intro e; subst e; rw [h] at h'; exact d (Option.some.inj h')
theorem ja7 {H:Hp} {a b:Addr} {o:HO} (h:H a = some o) (h':H b = none):a ≠ b:=by
 intro e; subst e; rw [h] at h'; cases h'
section
variable (P:Program) (w:World)
def jbp (H:Hp) (h:Heap) (a:Addr):HO→Prop
 | .lst xs=>xs.length ≤ sizeLine∧∃ (its:List Value) (n:Nat),Vals xs its∧h.get? a = some { cls:=.type "list",data:=.seq its.toArray n }
 | .tup xs=>xs.length ≤ sizeLine∧∃ its:List Value,Vals xs its∧IsTup h a its.toArray
 | .dK kvs=>kvs.length ≤ sizeLine∧(a == sysModules) = false∧∃ vs,KV kvs vs∧h.DictOf (jba P w) a vs
 | .dT kvs=>kvs.length ≤ sizeLine∧(a == sysModules) = false∧∃ xs:List (List Key × Addr × Value),
   Paired (fun (p:List Key × V) (q:List Key × Addr × Value)=>p.1 = q.1∧H q.2.1 = some (.tup (p.1.map kV))∧RelV p.2 q.2.2) kvs xs ∧
   ∃ o es ep,h.get? a = some o∧o.ExactDict∧o.data = .dict es ep∧es.toList = xs.map (entryOfKey (tupleKind (jba P w)))∧(xs.map (·.1)).Nodup
 | .set S n=>h.SetOf (intKind P w) a S n
 | .ins C dx fs=>H dx = some (.own a)∧fs.length ≤ 1000∧dx ≠ a∧h.get? a = some (PySem.W.instObj C dx) ∧
   ∃ mA,h.Ns1 dx mA∧(∀ f,RelO (fs.lookup f) (mA f))∧PySem.Within mA (fs.map (·.1))
 | .own _=>∃ o,h.get? a = some o
 | .xd fs=>∃ mA,h.Ns1 a mA∧∀ f,RelO (fs.lookup f) (mA f)
 | .rng lo hi=>∃ t u v,h.get? a = some { cls:=.type "range",data:=.fields #[.int lo t,.int hi u,.int 1 v] }
 | .frz o u=>h.get? a = some o∧jbp H h a u
 | .tbl ps=>h.get? a = some { cls:=.none,data:=.fields ps }
 | .met f x=>h.get? a = some (PySem.W.methodObj (.ref f) (.ref x))
 | .ext φ=>φ h∧(∃ o,h.get? a = some o)∧∀ h1 h2:Heap,φ h1→(∀ o,h1.get? a = some o→h2.get? a = some o)→φ h2
def HOk (H:Hp) (h:Heap):Prop:=∀ a o,H a = some o→jbp P w H h a o
end
section
variable {P:Program} {w:World} {H H':Hp} {h h':Heap} {a:Addr} {o:HO}
theorem jbp.lt (x:jbp P w H h a o):a < h.objs.size:=by
 cases o with
 | lst xs=>obtain ⟨_,_,_,_,e⟩:=x; exact Heap.lt_size e
 | tup xs=>obtain ⟨_,_,_,p⟩:=x; exact p.lt
 | dK kvs=>obtain ⟨_,_,_,_,o,_,_,e,_⟩:=x; exact Heap.lt_size e
 | dT kvs=>obtain ⟨_,_,_,_,o,_,_,e,_⟩:=x; exact Heap.lt_size e
 | set S n=>obtain ⟨o,_,_,_,e,_⟩:=x; exact Heap.lt_size e
 | ins C dx fs=>obtain ⟨_,_,_,e,_⟩:=x; exact Heap.lt_size e
 | own y=>obtain ⟨_,e⟩:=x; exact Heap.lt_size e
 | xd fs=>obtain ⟨_,⟨_,_,_,e,_⟩,_⟩:=x; exact Heap.lt_size e
 | rng lo hi=>obtain ⟨_,_,_,e⟩:=x; exact Heap.lt_size e
 | frz ob u=>obtain ⟨e,_⟩:=x; exact Heap.lt_size e
 | tbl ps=>exact Heap.lt_size (show h.get? a = some _ from x)
 | met f y=>exact Heap.lt_size (show h.get? a = some _ from x)
 | ext φ=>obtain ⟨_,⟨_,e⟩,_⟩:=x; exact Heap.lt_size e
theorem Paired.mapP {α β:Type} {F G:α→β→Prop}:∀ {l₁:List α} {l₂:List β},Paired F l₁ l₂→(∀ a b,F a b→G a b)→Paired G l₁ l₂
 | _,_,.nil,_=>.nil
 | _,_,.cons r t,f=>.cons (f _ _ r) (Paired.mapP t f)
theorem jbp.stay (x:jbp P w H h a o) (k:∀ b u,(b = a ∨ H b = some (.own a))→h.get? b = some u→h'.get? b = some u)
  (ho:∀ b,H b = some (.own a)→H' b = some (.own a)) (ht:∀ b xs,H b = some (.tup xs)→H' b = some (.tup xs)):jbp P w H' h' a o:=by
 induction o with
 | lst xs=>obtain ⟨z,its,n,r,e⟩:=x; exact ⟨z,its,n,r,k _ _ (.inl rfl) e⟩
 | tup xs=>obtain ⟨z,its,r,ob,e,c⟩:=x; exact ⟨z,its,r,ob,k _ _ (.inl rfl) e,c⟩
 | dK kvs=>obtain ⟨z,y,vs,r,ob,es,ep,e,c⟩:=x; exact ⟨z,y,vs,r,ob,es,ep,k _ _ (.inl rfl) e,c⟩
 | dT kvs =>
  obtain ⟨z,y,xs,r,ob,es,ep,e,c⟩:=x
  exact ⟨z,y,xs,Paired.mapP r fun p q z=>⟨z.1,ht _ _ z.2.1,z.2.2⟩,ob,es,ep,k _ _ (.inl rfl) e,c⟩
 | set S n=>obtain ⟨ob,es,ep,t,e,c⟩:=x; exact ⟨ob,es,ep,t,k _ _ (.inl rfl) e,c⟩
 | ins C dx fs =>
  obtain ⟨d,z,ne,e,mA,⟨od,es,ep,e2,c⟩,r⟩:=x
  exact ⟨ho _ d,z,ne,k _ _ (.inl rfl) e,mA,⟨od,es,ep,k _ _ (.inr d) e2,c⟩,r⟩
 | own y=>obtain ⟨ob,e⟩:=x; exact ⟨ob,k _ _ (.inl rfl) e⟩
 | xd fs=>obtain ⟨mA,⟨od,es,ep,e,c⟩,r⟩:=x; exact ⟨mA,⟨od,es,ep,k _ _ (.inl rfl) e,c⟩,r⟩
 | rng lo hi=>obtain ⟨t,u,v,e⟩:=x; exact ⟨t,u,v,k _ _ (.inl rfl) e⟩
 | frz ob u ih=>obtain ⟨e,q⟩:=x; exact ⟨k _ _ (.inl rfl) e,ih q⟩
 | tbl ps =>
  have e:h.get? a = some { cls:=.none,data:=.fields ps }:=x
  show h'.get? a = some { cls:=.none,data:=.fields ps }
  exact k a _ (.inl rfl) e
 | met f y =>
  have e:h.get? a = some (PySem.W.methodObj (.ref f) (.ref y)):=x
  show h'.get? a = some (PySem.W.methodObj (.ref f) (.ref y))
  exact k a _ (.inl rfl) e
 | ext φ=>obtain ⟨p,⟨o,e⟩,st⟩:=x; exact ⟨st _ _ p fun o q=>k _ _ (.inl rfl) q,⟨o,k _ _ (.inl rfl) e⟩,st⟩
theorem HOk.lt (x:HOk P w H h) (e:H a = some o):a < h.objs.size:=(x a o e).lt
theorem HOk.fresh (x:HOk P w H h) (e:h.objs.size ≤ a):H a = none:=by
 cases q:H a with
 | none=>rfl
 | some u=>exact absurd (Nat.lt_of_lt_of_le (x.lt q) e) (Nat.lt_irrefl _)
theorem HOk.kept (x:HOk P w H h) (k:∀ b u,h.get? b = some u→h'.get? b = some u):HOk P w H h':=fun a o e =>
 (x a o e).stay (fun b u _ q=>k b u q) (fun _ q=>q) fun _ _ q=>q
theorem HOk.laid (x:HOk P w H h) (k:∀ b u,h.get? b = some u→h'.get? b = some u) (hp:h.objs.size ≤ a) (new:jbp P w (upd H a o) h' a o):HOk P w (upd H a o) h':=fun b u e=>by
 have hn:=x.fresh hp
 by_cases hb:b = a
 ·subst hb; rw [ja1] at e; cases e; exact new
 ·rw [jaa hb] at e
  exact (x b u e).stay (fun c v _ q=>k c v q) (fun c q=>by rw [jaa (ja7 q hn)]; exact q) fun c xs q=>by rw [jaa (ja7 q hn)]; exact q
end
def Rd (H:Hp) (a:Addr) (u:HO):Prop:=H a = some u ∨ ∃ o,H a = some (.frz o u)
theorem Rd.of {H:Hp} {a:Addr} {u:HO} (h:H a = some u):Rd H a u:=.inl h
theorem Rd.ok {P:Program} {w:World} {H:Hp} {h:Heap} {a:Addr} {u:HO} (r:Rd H a u) (x:HOk P w H h):jbp P w H h a u:=by
 rcases r with r | ⟨o,r⟩
 ·exact x a u r
 ·obtain ⟨_,q⟩:=x a _ r
  exact q
def Mut:Option HO→Prop
 | some (.lst _)=>True
 | some (.dK _)=>True
 | some (.dT _)=>True
 | some (.set _ _)=>True
 | some (.ins _ _ _)=>True
 | some (.ext _)=>True
 | _=>False
section
variable {P:Program} {w:World} {H:Hp} {h h':Heap} {x e:Addr} {o':HO}
theorem HOk.write (ok:HOk P w H h) (mu:Mut (H x)) (he:e = x ∨ H e = some (.own x)) (k:∀ b u,b ≠ e→h.get? b = some u→h'.get? b = some u) (heo:∃ u,h'.get? e = some u)
  (new:jbp P w (upd H x o') h' x o'):HOk P w (upd H x o') h':=fun b u q=>by
 have nown:∀ c y,H c = some (.own y)→c ≠ x:=fun c y r z=>by subst z; rw [r] at mu; exact mu
 have ntup:∀ c xs,H c = some (.tup xs)→c ≠ x:=fun c xs r z=>by subst z; rw [r] at mu; exact mu
 by_cases hb:b = x
 ·subst hb; rw [ja1] at q; cases q; exact new
 ·rw [jaa hb] at q
  by_cases hbe:b = e
  ·have q':H b = some (.own x):=by
    rcases he with z | z
    ·exact absurd (hbe.trans z) hb
    ·rw [hbe]; exact z
   rw [q] at q'; cases q'
   obtain ⟨v,hv⟩:=heo
   exact ⟨v,by rw [hbe]; exact hv⟩
  ·refine (ok b u q).stay (fun c v hc r=>k c v ?_ r) (fun c r=>by rw [jaa (nown c b r)]; exact r) fun c xs r=>by rw [jaa (ntup c xs r)]; exact r
   rcases hc with rfl | hc
   ·exact hbe
   ·rintro rfl
    rcases he with z | z
    ·exact nown c b hc z
    ·rw [hc] at z; cases z; exact hb rfl
end
structure Un (fs ex:List Addr) (H H':Hp) (h h':Heap):Prop where
 keep:∀ b o,h.get? b = some o→H b = none→b ∉ fs→b ∉ ex→h'.get? b = some o
 slot:∀ b o,h.get? b = some o→H b = none→b ∈ fs→b ∉ ex→∃ sl,h'.get? b = some { o with slots:=sl }
 free:∀ b o,h.get? b = some o→H b = none→b ∉ ex→H' b = none
 there:∀ b o,h.get? b = some o→b ∉ ex→∃ o',h'.get? b = some o'
 tups:∀ b xs,H b = some (.tup xs)→H' b = some (.tup xs)
 frzs:∀ b o u,H b = some (.frz o u)→H' b = some (.frz o u)
 tbls:∀ b ps,H b = some (.tbl ps)→∃ more,H' b = some (.tbl (ps ++ more))
section
variable {fs fs' ex ex':List Addr} {H H1 H2:Hp} {h h1 h2 h':Heap} {a x e:Addr} {o:HO}
theorem Un.any (u:Un fs ex H H1 h h1) {b:Addr} {ob:Obj} (q:h.get? b = some ob) (n:H b = none) (hx:b ∉ ex):∃ sl,h1.get? b = some { ob with slots:=sl }:=by
 by_cases hb:b ∈ fs
 ·exact u.slot b ob q n hb hx
 ·exact ⟨ob.slots,u.keep b ob q n hb hx⟩
theorem Un.trans (a:Un fs ex H H1 h h1) (b:Un fs ex H1 H2 h1 h2):Un fs ex H H2 h h2 where
 keep:=fun c ob q n hc hx=>b.keep c ob (a.keep c ob q n hc hx) (a.free c ob q n hx) hc hx
 slot:=fun c ob q n hc hx=>by
  obtain ⟨sl,e1⟩:=a.slot c ob q n hc hx
  obtain ⟨sl',e2⟩:=b.slot c _ e1 (a.free c ob q n hx) hc hx
  exact ⟨sl',e2⟩
 free:=fun c ob q n hx=>by
  obtain ⟨o',e1⟩:=a.there c ob q hx
  exact b.free c o' e1 (a.free c ob q n hx) hx
 there:=fun c ob q hx=>by
  obtain ⟨o',e1⟩:=a.there c ob q hx
  exact b.there c o' e1 hx
 tups:=fun c xs q=>b.tups c xs (a.tups c xs q)
 frzs:=fun c ob xs q=>b.frzs c ob xs (a.frzs c ob xs q)
 tbls:=fun c ps q=>by
  obtain ⟨m1,e1⟩:=a.tbls c ps q
  obtain ⟨m2,e2⟩:=b.tbls c _ e1
  exact ⟨m1 ++ m2,by rw [e2,Array.append_assoc]⟩
theorem Un.kept (k:∀ b u,h.get? b = some u→h'.get? b = some u):Un fs ex H H h h' :=
 ⟨fun b ob q _ _ _=>k b ob q,fun b ob q _ _ _=>⟨ob.slots,k b ob q⟩,fun _ _ _ n _=>n,fun b ob q _=>⟨ob,k b ob q⟩,fun _ _ q=>q,fun _ _ _ q=>q,fun _ ps q=>⟨#[],by rw [q]; simp⟩⟩
theorem Un.refl:Un fs ex H H h h:=Un.kept fun _ _ q=>q
theorem Un.laid (k:∀ b u,h.get? b = some u→h'.get? b = some u) (hp:h.objs.size ≤ a) (hn:H a = none):Un fs ex H (upd H a o) h h' where
 keep:=fun b u q _ _ _=>k b u q
 slot:=fun b u q _ _ _=>⟨u.slots,k b u q⟩
 free:=fun b u q n _=>by rw [jaa (Nat.ne_of_lt (Nat.lt_of_lt_of_le (Heap.lt_size q) hp))]; exact n
 there:=fun b u q _=>⟨u,k b u q⟩
 tups:=fun b xs q=>by rw [jaa (ja7 q hn)]; exact q
 frzs:=fun b u xs q=>by rw [jaa (ja7 q hn)]; exact q
 tbls:=fun b ps q=>⟨#[],by rw [jaa (ja7 q hn),q]; simp⟩
theorem Un.write (mu:Mut (H x)) (he:e = x ∨ H e = some (.own x)) (k:∀ b u,b ≠ e→h.get? b = some u→h'.get? b = some u) (heo:∃ u,h'.get? e = some u):Un fs ex H (upd H x o) h h':=by
 have hx:∀ b,H b = none→b ≠ x:=fun b n z=>by subst z; rw [n] at mu; exact mu
 have hb:∀ b,H b = none→b ≠ e:=fun b n z=>by
  subst z
  rcases he with r | r
  ·exact hx b n r
  ·rw [n] at r; cases r
 have hm:∀ b u,H b = some u→¬ Mut (some u)→b ≠ x:=fun b u q nm z=>by subst z; rw [q] at mu; exact nm mu
 refine ⟨fun b u q n _ _=>k b u (hb b n) q,fun b u q n _ _=>⟨u.slots,k b u (hb b n) q⟩,fun b u q n _=>by rw [jaa (hx b n)]; exact n,fun b u q _=>?_,
  fun b xs q=>by rw [jaa (hm b _ q fun z=>z)]; exact q,fun b u xs q=>by rw [jaa (hm b _ q fun z=>z)]; exact q,fun b ps q=>⟨#[],by rw [jaa (hm b _ q fun z=>z),q]; simp⟩⟩
 by_cases hbe:b = e
 ·subst hbe; exact heo
 ·exact ⟨u,k b u hbe q⟩
theorem Un.mono (u:Un fs ex H H1 h h1) (hs:∀ b ∈ fs,b ∈ fs') (hx:∀ b ∈ ex,b ∈ ex'):Un fs' ex' H H1 h h1 :=
 ⟨fun b ob q n hb he=>u.keep b ob q n (fun z=>hb (hs b z)) fun z=>he (hx b z),fun _ _ q n _ he=>u.any q n fun z=>he (hx _ z),fun b ob q n he=>u.free b ob q n fun z=>he (hx b z),fun b ob q he=>u.there b ob q fun z=>he (hx b z),u.tups,u.frzs,u.tbls⟩
end
def trk (h:Heap) (H:Hp):List Addr:=(List.range h.objs.size).filter fun a=>(H a).isSome
def hidT (h:Heap) (H:Hp):Heap:=PySem.W.hideAll h (trk h H)
theorem jnm (h:Heap) (H:Hp):(hidT h H).objs.size = h.objs.size:=PySem.W.hideAll_size _ _
theorem jpb {h:Heap} {H:Hp} {b:Addr} {o:Obj} (e:h.get? b = some o) (n:H b = none):(hidT h H).get? b = some o :=
 PySem.W.hideAll_get _ e fun hm=>by
  have q:(H b).isSome = true:=(List.mem_filter.mp hm).2
  rw [n] at q; simp at q
theorem jqv {h:Heap} {H:Hp} {b:Addr} {o:Obj} (e:(hidT h H).get? b = some o):h.get? b = some o∧H b = none:=by
 have e':h.get? b = some o:=PySem.W.of_hideAll (trk h H) e
 refine ⟨e',?_⟩
 cases q:H b with
 | none=>rfl
 | some x =>
  have hm:b ∈ trk h H:=List.mem_filter.mpr ⟨List.mem_range.mpr (Heap.lt_size e'),by simp [q]⟩
  have z:(hidT h H).get? b = none:=PySem.W.hideAll_none (trk h H) hm
  rw [z] at e; cases e
end L2
namespace L2
open PySem PySem.Spec PyProof.Rows
structure Mod (K:PySem.W.Frag) (mg:Str→Option Value) (base:Heap):Prop where
 kin:K.In base
 glob:base.Ns mainGlobals mg
 blt:∃ mb,base.Ns builtinsNs mb∧∀ x:Str,x ≠ "__name__"→mb x = bootBuiltins x
 nolimit:base.NoLimit
structure Cx where
 prog:Program
 w:World
 K:PySem.W.Frag
 mg:Str→Option Value
 base:Heap
 A:Around
 N:List Str
 s₀:Shared
 H₀:Hp
 env:Env
 outer:List Env
 stack:List Env
 ex:List Addr
 fn:Str→Bool
 calm:Bool
 pn:List (Addr × Obj)
 xe:Value→Shared→Prop
def frs (l:List Env):List Addr:=l.filterMap (·.frame)
abbrev Cx.fs (X:Cx):List Addr:=frs X.outer
def Vis (sc:Scope) (x:Str):Prop:=sc.names.lookup x = some .local ∨ sc.names.lookup x = some .cell ∨ sc.names.lookup x = some .free
def Loc (sc:Scope) (x:Str):Prop:=sc.names.lookup x = some .local ∨ sc.names.lookup x = some .cell
def Look (env:Env) (h:Heap) (m:Str→Option Value) (x:Str) (u:Value):Prop :=
 (env.kindOf x = some .local∧m x = some u) ∨ ((env.kindOf x = some .cell ∨ env.kindOf x = some .free)∧∃ c,env.cells.lookup x = some c∧h.IsCell c (some u))
structure Cx.Ok (X:Cx):Prop where
 mod:Mod X.K X.mg X.base
 kind:X.env.scope.kind = .function
 glob:X.env.globals = mainGlobals
 blt:X.env.builtins = builtinsNs
 above:X.s₀.heap.objs.size ≤ X.env.locals
 inj:∀ x y c,X.env.cells.lookup x = some c→X.env.cells.lookup y = some c→x = y
 has:∀ x,(X.env.kindOf x = some .cell ∨ X.env.kindOf x = some .free)→∃ c,X.env.cells.lookup x = some c
 cab:∀ x c,X.fn x = true→X.env.cells.lookup x = some c→X.s₀.heap.objs.size ≤ c
 hd:X.calm = true→X.A.handled = none
 frames:X.A.frames = some X.stack
 stk:X.stack = X.outer ∨ (X.stack = X.env :: X.outer∧X.env.frame = some X.env.locals)
 exf:∀ b ∈ X.ex,b ≠ X.env.locals∧∀ x c,X.env.cells.lookup x = some c→c ≠ b
 bs:∀ b o,X.base.get? b = some o→X.s₀.heap.get? b = some o∧X.H₀ b = none
 bsz:X.base.objs.size ≤ X.s₀.heap.objs.size
 noex:∀ b o,X.base.get? b = some o→b ∉ X.ex
 exfs:∀ b ∈ X.ex,b ∉ X.fs
 funs:X.s₀.heap.FunFrames X.base X.outer
 frf:∀ b ∈ X.fs,X.H₀ b = none
structure Inv (X:Cx) (pins:List (Addr × Obj)) (σ:List (Option V)) (H:Hp) (s:Shared):Prop where
 ok:X.Ok
 os:s.os = X.s₀.os
 bare:AllBare s.gens
 base:Un X.fs X.ex X.H₀ H X.s₀.heap s.heap
 loc:∃ m,s.heap.Ns X.env.locals m∧∀ (i:Nat) (x:Str) (v:V),X.N[i]? = some x→σ[i]? = some (some v)→Vis X.env.scope x→∃ u,RelV v u∧Look X.env s.heap m x u
 cell:∀ x c,X.env.cells.lookup x = some c→∃ v,s.heap.IsCell c v
 free:H X.env.locals = none
 freeC:∀ x c,X.env.cells.lookup x = some c→H c = none
 pin:∀ p ∈ X.pn ++ pins,s.heap.get? p.1 = some p.2∧H p.1 = none∧p.1 ≠ X.env.locals∧p.1 ∉ X.fs∧∀ v,p.2.data ≠ .cell v
 hok:HOk X.prog X.w H s.heap
 len:σ.length = X.N.length
section
variable {X:Cx} {pins:List (Addr × Obj)} {σ:List (Option V)} {H H':Hp} {s:Shared} {h':Heap}
theorem Cx.Ok.nofr (ok:X.Ok) {b:Addr} {o:Obj} (e:X.base.get? b = some o):b ∉ X.fs:=fun hb=>by
 have:=(ok.funs.mem hb).1
 rw [e] at this; cases this
theorem Inv.bs (I:Inv X pins σ H s):∀ b o,X.base.get? b = some o→s.heap.get? b = some o∧H b = none:=fun b o e =>
 ⟨I.base.keep b o (I.ok.bs b o e).1 (I.ok.bs b o e).2 (I.ok.nofr e) (I.ok.noex b o e),I.base.free b o (I.ok.bs b o e).1 (I.ok.bs b o e).2 (I.ok.noex b o e)⟩
theorem Inv.bk (I:Inv X pins σ H s):∀ b o,X.base.get? b = some o→s.heap.get? b = some o:=fun b o e=>(I.bs b o e).1
theorem Inv.mod (I:Inv X pins σ H s):Mod X.K X.mg X.base:=I.ok.mod
theorem Inv.kIn (I:Inv X pins σ H s):X.K.In s.heap:=I.ok.mod.kin.keeps I.bk
theorem Inv.fr (I:Inv X pins σ H s):∃ m,Fr X.base X.env.locals s.heap m :=
 let ⟨m,hn,_⟩:=I.loc
 ⟨m,hn,I.bk,Nat.le_trans I.ok.bsz I.ok.above⟩
theorem Inv.lt (I:Inv X pins σ H s):X.env.locals < s.heap.objs.size:=let ⟨_,hn,_⟩:=I.loc; hn.lt
theorem Inv.sz (I:Inv X pins σ H s):X.s₀.heap.objs.size ≤ s.heap.objs.size:=Nat.le_trans I.ok.above (Nat.le_of_lt I.lt)
theorem Inv.nofs (I:Inv X pins σ H s) {a:Addr} (h:s.heap.objs.size ≤ a):a ∉ X.fs:=fun hb=>by
 obtain ⟨_,o,ho,_⟩:=I.ok.funs.mem hb
 exact absurd (Nat.lt_of_lt_of_le (Heap.lt_size ho) (Nat.le_trans I.sz h)) (Nat.lt_irrefl _)
theorem Inv.cne (I:Inv X pins σ H s):∀ x c,X.env.cells.lookup x = some c→c ≠ X.env.locals:=fun x c e z=>by
 obtain ⟨v,o,ho,hd⟩:=I.cell x c e
 obtain ⟨m,⟨o',es,ep,ho',hd',_⟩,_⟩:=I.loc
 rw [z,ho'] at ho; cases ho; rw [hd'] at hd; cases hd
theorem Inv.funs (I:Inv X pins σ H s):s.heap.FunFrames X.base X.outer:=by
 have all:∀ (l:List Env),(∀ b ∈ frs l,b ∈ X.fs)→X.s₀.heap.FunFrames X.base l→s.heap.FunFrames X.base l:=by
  intro l
  induction l with
  | nil=>intro _ _; trivial
  | cons env r ih =>
   intro hs hl
   obtain ⟨hk,⟨L,o,hf,hn,ho,hd⟩,hr⟩:=hl
   have hL:L ∈ X.fs:=hs L (by unfold frs; rw [List.filterMap_cons,hf]; exact List.mem_cons_self)
   obtain ⟨sl,e⟩:=I.base.slot L o ho (I.ok.frf L hL) hL fun z=>I.ok.exfs L z hL
   exact ⟨hk,⟨L,_,hf,hn,e,hd⟩,ih (fun b hb=>hs b (by unfold frs; rw [List.filterMap_cons,hf]; exact List.mem_cons_of_mem _ hb)) hr⟩
 exact all X.outer (fun _ hb=>hb) I.ok.funs
theorem Inv.stack (I:Inv X pins σ H s):s.heap.FunFrames X.base X.stack:=by
 rcases I.ok.stk with e | ⟨e,hf⟩
 ·rw [e]; exact I.funs
 ·rw [e]
  obtain ⟨m,hn,_⟩:=I.loc
  refine .cons (by rw [I.ok.kind]; decide) hf hn ?_ I.funs
  exact Heap.get?_none_of_le (Nat.le_trans I.ok.bsz I.ok.above)
theorem Inv.stkSub (I:Inv X pins σ H s):∀ b ∈ frs X.stack,b ∈ X.env.locals :: X.fs:=fun b hb=>by
 rcases I.ok.stk with e | ⟨e,hf⟩
 ·rw [e] at hb; exact List.mem_cons_of_mem _ hb
 ·rw [e] at hb
  unfold frs at hb
  rw [List.filterMap_cons,hf] at hb
  exact hb
theorem Inv.stkFree (I:Inv X pins σ H s):∀ b ∈ frs X.stack,H b = none:=fun b hb=>by
 rcases List.mem_cons.mp (I.stkSub b hb) with e | hb
 ·rw [e]; exact I.free
 ·obtain ⟨_,o,ho,_⟩:=I.ok.funs.mem hb
  exact I.base.free b o ho (I.ok.frf b hb) fun z=>I.ok.exfs b z hb
theorem Inv.step {g':Array GenState} {t':Nat} {d':Drawn} {ch:List Addr} (I:Inv X pins σ H s)
  (hch:∀ b ∈ ch,(b ∈ X.ex ∨ X.s₀.heap.objs.size ≤ b)∧b ≠ X.env.locals∧(∀ x c,X.env.cells.lookup x = some c→c ≠ b)∧∀ p ∈ X.pn ++ pins,p.1 ≠ b)
  (keep:∀ b o,b ≠ X.env.locals→b ∉ X.fs→b ∉ ch→s.heap.get? b = some o→H b = none→h'.get? b = some o)
  (slot:∀ b o,b ≠ X.env.locals→b ∈ X.fs→b ∉ ch→s.heap.get? b = some o→H b = none→∃ sl,h'.get? b = some { o with slots:=sl }) (free:∀ b o,b ∉ ch→s.heap.get? b = some o→H b = none→H' b = none)
  (there:∀ b o,b ∉ ch→s.heap.get? b = some o→∃ o',h'.get? b = some o')
  (tups:∀ b xs,H b = some (.tup xs)→H' b = some (.tup xs)) (frzs:∀ b o u,H b = some (.frz o u)→H' b = some (.frz o u)) (tbls:∀ b ps,H b = some (.tbl ps)→∃ more,H' b = some (.tbl (ps ++ more)))
  (ns:∀ m,s.heap.Ns X.env.locals m→h'.Ns X.env.locals m) (hok:HOk X.prog X.w H' h') (hg:AllBare g') :
  Inv X pins σ H' { s with heap:=h',gens:=g',drawn:=d',toks:=t' }:=by
 have neL:∀ b o,X.s₀.heap.get? b = some o→b ≠ X.env.locals:=fun b o e=>Nat.ne_of_lt (Nat.lt_of_lt_of_le (Heap.lt_size e) I.ok.above)
 have neC:∀ b o,X.s₀.heap.get? b = some o→b ∉ X.ex→b ∉ ch:=fun b o e hx hb=>by
  rcases (hch b hb).1 with z | z
  ·exact hx z
  ·exact absurd (Nat.lt_of_lt_of_le (Heap.lt_size e) z) (Nat.lt_irrefl _)
 have cellK:∀ x c,X.env.cells.lookup x = some c→∀ v,s.heap.IsCell c v→h'.IsCell c v:=fun x c e v ⟨o,ho,hd⟩=>by
  have nch:c ∉ ch:=fun z=>(hch c z).2.2.1 x c e rfl
  by_cases hc:c ∈ X.fs
  ·obtain ⟨sl,q⟩:=slot c o (I.cne x c e) hc nch ho (I.freeC x c e)
   exact ⟨_,q,hd⟩
  ·exact ⟨o,keep c o (I.cne x c e) hc nch ho (I.freeC x c e),hd⟩
 refine ⟨I.ok,I.os,hg,⟨fun b o e n hb hx=>?_,fun b o e n hb hx=>?_,fun b o e n hx=>?_,fun b o e hx=>?_,fun b xs e=>tups b xs (I.base.tups b xs e),fun b o xs e=>frzs b o xs (I.base.frzs b o xs e),fun b ps e=>?_⟩,?_,fun x c e=>?_,?_,fun x c e=>?_,fun p hp=>?_,hok,I.len⟩
 ·exact keep b o (neL b o e) hb (neC b o e hx) (I.base.keep b o e n hb hx) (I.base.free b o e n hx)
 ·obtain ⟨sl,e1⟩:=I.base.slot b o e n hb hx
  obtain ⟨sl',e2⟩:=slot b _ (neL b o e) hb (neC b o e hx) e1 (I.base.free b o e n hx)
  exact ⟨sl',e2⟩
 ·obtain ⟨o',e1⟩:=I.base.there b o e hx
  exact free b o' (neC b o e hx) e1 (I.base.free b o e n hx)
 ·obtain ⟨o',e1⟩:=I.base.there b o e hx
  exact there b o' (neC b o e hx) e1
 ·obtain ⟨m1,e1⟩:=I.base.tbls b ps e
  obtain ⟨m2,e2⟩:=tbls b _ e1
  exact ⟨m1 ++ m2,by rw [e2,Array.append_assoc]⟩
 ·obtain ⟨m,hn,hl⟩:=I.loc
  refine ⟨m,ns m hn,fun i x v e1 e2 e3=>?_⟩
  obtain ⟨u,r,l⟩:=hl i x v e1 e2 e3
  refine ⟨u,r,?_⟩
  rcases l with l | ⟨k,c,e,z⟩
  ·exact .inl l
  ·exact .inr ⟨k,c,e,cellK x c e _ z⟩
 ·obtain ⟨v,z⟩:=I.cell x c e
  exact ⟨v,cellK x c e v z⟩
 ·obtain ⟨m,⟨o,_,_,ho,_⟩,_⟩:=I.loc
  exact free _ o (fun z=>(hch _ z).2.1 rfl) ho I.free
 ·obtain ⟨v,o,ho,hd⟩:=I.cell x c e
  exact free c o (fun z=>(hch c z).2.2.1 x c e rfl) ho (I.freeC x c e)
 ·obtain ⟨e,n,ne,nf,d⟩:=I.pin p hp
  have nch:p.1 ∉ ch:=fun z=>(hch p.1 z).2.2.2 p hp rfl
  exact ⟨keep p.1 p.2 ne nf nch e n,free p.1 p.2 nch e n,ne,nf,d⟩
theorem Inv.un {t':Nat} (I:Inv X pins σ H s) (u:Un X.fs [] H H' s.heap h') (hok:HOk X.prog X.w H' h'):Inv X pins σ H' { s with heap:=h',toks:=t' }:=by
 obtain ⟨m,⟨o,es,ep,ho,r⟩,_⟩:=id I.loc
 obtain ⟨sl,hL⟩:=u.any ho I.free (by simp)
 exact I.step (g':=s.gens) (d':=s.drawn) (ch:=[]) (fun _ z=>nomatch z) (fun b o _ hb _ e n=>u.keep b o e n hb (by simp)) (fun b o _ hb _ e n=>u.slot b o e n hb (by simp)) (fun b o _ e n=>u.free b o e n (by simp)) (fun b o _ e=>u.there b o e (by simp)) u.tups u.frzs u.tbls (fun m' hm=>by
  obtain ⟨o',es',ep',ho',r'⟩:=hm
  rw [ho] at ho'; cases ho'
  exact ⟨_,es',ep',hL,r'⟩) hok I.bare
theorem Inv.call {g':Array GenState} {t':Nat} {d':Drawn} {ch:List Addr} (I:Inv X pins σ H s) (u:Un (frs X.stack) ch H H' s.heap h') (hok:HOk X.prog X.w H' h') (hg:AllBare g')
  (hch:∀ b ∈ ch,(b ∈ X.ex ∨ X.s₀.heap.objs.size ≤ b)∧b ≠ X.env.locals∧(∀ x c,X.env.cells.lookup x = some c→c ≠ b)∧∀ p ∈ X.pn ++ pins,p.1 ≠ b) :
  Inv X pins σ H' { s with heap:=h',gens:=g',drawn:=d',toks:=t' }:=by
 obtain ⟨m,⟨o,es,ep,ho,r⟩,_⟩:=id I.loc
 obtain ⟨sl,hL⟩:=u.any ho I.free fun z=>(hch _ z).2.1 rfl
 exact I.step (ch:=ch) hch (fun b o hL hb hc e n=>u.keep b o e n (fun z=>(List.mem_cons.mp (I.stkSub b z)).elim hL hb) hc) (fun b o _ _ hc e n=>u.any e n hc) (fun b o hc e n=>u.free b o e n hc) (fun b o hc e=>u.there b o e hc) u.tups u.frzs u.tbls (fun m' hm=>by
  obtain ⟨o',es',ep',ho',r'⟩:=hm
  rw [ho] at ho'; cases ho'
  exact ⟨_,es',ep',hL,r'⟩) hok hg
theorem Inv.turned {t':Nat} {it:Addr} (I:Inv X pins σ H s) (k:∀ b o,b ≠ it→s.heap.get? b = some o→h'.get? b = some o) (hn:H it = none) (hL:it ≠ X.env.locals)
  (h1:it ∈ X.ex ∨ X.s₀.heap.objs.size ≤ it) (h2:∀ x c,X.env.cells.lookup x = some c→c ≠ it) (h3:∀ p ∈ X.pn ++ pins,p.1 ≠ it):Inv X pins σ H { s with heap:=h',toks:=t' }:=by
 have nit:∀ b u,H b = some u→b ≠ it:=fun b u e z=>by rw [z,hn] at e; cases e
 refine I.step (g':=s.gens) (d':=s.drawn) (ch:=[it]) (fun b hb=>?_) (fun b o _ _ hc e _=>k b o (fun z=>hc (by simp [z])) e) (fun b o _ _ hc e _=>⟨o.slots,k b o (fun z=>hc (by simp [z])) e⟩) (fun _ _ _ _ n=>n)
  (fun b o hc e=>⟨o,k b o (fun z=>hc (by simp [z])) e⟩) (fun _ _ e=>e) (fun _ _ _ e=>e) (fun b ps e=>⟨#[],by rw [e]; simp⟩) (fun m hm=>?_) (fun b u e=>?_) I.bare
 ·have e:b = it:=by simpa using hb
  subst e
  exact ⟨h1,hL,h2,h3⟩
 ·obtain ⟨o,es,ep,ho,r⟩:=hm
  exact ⟨o,es,ep,k _ o (Ne.symm hL) ho,r⟩
 ·refine (I.hok b u e).stay (fun c v hc q=>k c v ?_ q) (fun _ q=>q) fun _ _ q=>q
  rcases hc with z | z
  ·rw [z]; exact nit b u e
  ·exact nit c _ z
theorem Inv.tok (I:Inv X pins σ H s) (t:Nat):Inv X pins σ H { s with toks:=t }:=I.un (h':=s.heap) (t':=t) Un.refl I.hok
theorem Inv.kept {t':Nat} (I:Inv X pins σ H s) (k:∀ b u,s.heap.get? b = some u→h'.get? b = some u):Inv X pins σ H { s with heap:=h',toks:=t' }:=I.un (Un.kept k) (I.hok.kept k)
theorem Inv.laid {a:Addr} {o:HO} {t':Nat} (I:Inv X pins σ H s) (k:∀ b u,s.heap.get? b = some u→h'.get? b = some u) (hp:s.heap.objs.size ≤ a) (new:jbp X.prog X.w (upd H a o) h' a o) :
  Inv X pins σ (upd H a o) { s with heap:=h',toks:=t' }:=I.un (Un.laid k hp (I.hok.fresh hp)) (I.hok.laid k hp new)
theorem Inv.write {x e:Addr} {o:HO} {t':Nat} (I:Inv X pins σ H s) (mu:Mut (H x)) (he:e = x ∨ H e = some (.own x)) (k:∀ b u,b ≠ e→s.heap.get? b = some u→h'.get? b = some u) (heo:∃ u,h'.get? e = some u)
  (new:jbp X.prog X.w (upd H x o) h' x o):Inv X pins σ (upd H x o) { s with heap:=h',toks:=t' }:=I.un (Un.write mu he k heo) (I.hok.write mu he k heo new)
theorem Inv.pins_of {pins':List (Addr × Obj)} (I:Inv X pins σ H s) (h:∀ p ∈ pins',s.heap.get? p.1 = some p.2∧H p.1 = none∧p.1 ≠ X.env.locals∧p.1 ∉ X.fs∧∀ v,p.2.data ≠ .cell v):Inv X pins' σ H s :=
 ⟨I.ok,I.os,I.bare,I.base,I.loc,I.cell,I.free,I.freeC,fun p hp=>(List.mem_append.mp hp).elim (fun z=>I.pin p (List.mem_append_left _ z)) (h p),I.hok,I.len⟩
theorem jkq {N:List Str} (hN:N.Nodup) {i j:Nat} {x:Str} (a:N[i]? = some x) (b:N[j]? = some x):i = j:=by
 obtain ⟨h1,e1⟩:=List.getElem?_eq_some_iff.mp a
 obtain ⟨h2,e2⟩:=List.getElem?_eq_some_iff.mp b
 exact (List.getElem_inj hN).mp (e1.trans e2.symm)
theorem ji8 {M:Model} {A:Around} {E:Value→Shared→Prop} {i:Nat} {x:Str} {v:V} {u:Value} {Q:Unit→Shared→Prop} (I:Inv X pins σ H s) (hN:X.N.Nodup) (hi:X.N[i]? = some x) (hx:Loc X.env.scope x) (r:RelV v u)
  (h:∀ s',Inv X pins (σ.set i (some v)) H s'→(∃ a,Heap.SameBut a s.heap s'.heap∧(a = X.env.locals ∨ X.env.cells.lookup x = some a))→Q () s') (hf:X.fn x = true ∨ X.env.scope.names.lookup x = some .local:=by first | exact .inl rfl | exact .inr rfl | assumption):wpAny M A (storeName X.env x u) Q E s:=by
 obtain ⟨m,hn,hl⟩:=id I.loc
 have hcls:(X.env.scope.kind == .class || (X.env.scope.kind == .module && X.env.locals != X.env.globals)) = false:=by rw [I.ok.kind]; rfl
 have hiσ:i < σ.length:=by rw [I.len]; exact (List.getElem?_eq_some_iff.mp hi).1
 have cne:=I.cne
 have tracked:∀ {a:Addr} {h':Heap},(∃ o,s.heap.get? a = some o∧H a = none)→Heap.SameBut a s.heap h'→HOk X.prog X.w H h':=fun {a h'} ha hs b ob e=>by
  obtain ⟨_,_,hfree⟩:=ha
  refine (I.hok b ob e).stay (fun c w' hc q=>(hs.2 c ?_).trans q) (fun _ q=>q) fun _ _ q=>q
  rintro rfl
  rcases hc with rfl | hc
  ·rw [hfree] at e; cases e
  ·rw [hfree] at hc; cases hc
 rcases hx with hk | hk
 ·refine wpAny_storeName_local hk hn (fun h' hn' hs=>?_) hcls
  obtain ⟨oL,_,_,hoL,_⟩:=id hn
  refine h _ ⟨I.ok,I.os,I.bare,⟨fun b o e n hb hx=>?_,fun b o e n hb hx=>?_,I.base.free,fun b o e hx=>?_,I.base.tups,I.base.frzs,I.base.tbls⟩,⟨_,hn',fun j y v' e1 e2 e3=>?_⟩,fun y c e=>?_,I.free,I.freeC,fun p hp=>?_,tracked ⟨oL,hoL,I.free⟩ hs,by simpa using I.len⟩ ⟨_,hs,.inl rfl⟩
  ·exact (hs.2 b (Nat.ne_of_lt (Nat.lt_of_lt_of_le (Heap.lt_size e) I.ok.above))).trans (I.base.keep b o e n hb hx)
  ·obtain ⟨sl,e1⟩:=I.base.slot b o e n hb hx
   exact ⟨sl,(hs.2 b (Nat.ne_of_lt (Nat.lt_of_lt_of_le (Heap.lt_size e) I.ok.above))).trans e1⟩
  ·obtain ⟨o',e1⟩:=I.base.there b o e hx
   exact ⟨o',(hs.2 b (Nat.ne_of_lt (Nat.lt_of_lt_of_le (Heap.lt_size e) I.ok.above))).trans e1⟩
  ·by_cases hj:j = i
   ·subst hj
    rw [hi] at e1; cases e1
    rw [List.getElem?_set_self hiσ] at e2
    cases e2
    exact ⟨u,r,.inl ⟨hk,by simp⟩⟩
   ·rw [List.getElem?_set_ne (Ne.symm hj)] at e2
    obtain ⟨u',r',q⟩:=hl j y v' e1 e2 e3
    refine ⟨u',r',?_⟩
    rcases q with ⟨k,e⟩ | ⟨k,c,e,z⟩
    ·refine .inl ⟨k,?_⟩
     have:y ≠ x:=fun e=>hj (jkq hN e1 (e ▸ hi))
     simp [this,e]
    ·exact .inr ⟨k,c,e,z.sameBut hs (cne y c e)⟩
  ·obtain ⟨w',z⟩:=I.cell y c e
   exact ⟨w',z.sameBut hs (cne y c e)⟩
  ·obtain ⟨e,n,ne,nf,d⟩:=I.pin p hp
   exact ⟨(hs.2 p.1 ne).trans e,n,ne,nf,d⟩
 ·have hfn:X.fn x = true:=by
   rcases hf with z | z
   ·exact z
   ·rw [z] at hk; cases hk
  obtain ⟨c,hc⟩:=I.ok.has x (.inl hk)
  obtain ⟨w',z⟩:=I.cell x c hc
  refine wpAny_storeName_cell I.ok.kind hk hc z (fun h' hc' hs=>?_)
  obtain ⟨oc,hoc,hocd⟩:=id z
  refine h { s with heap:=h' } ⟨I.ok,I.os,I.bare,⟨fun b o e n hb hx=>?_,fun b o e n hb hx=>?_,I.base.free,fun b o e hx=>?_,I.base.tups,I.base.frzs,I.base.tbls⟩,⟨m,hn.sameBut hs (Ne.symm (cne x c hc)),fun j y v' e1 e2 e3=>?_⟩,fun y c' e=>?_,I.free,I.freeC,fun p hp=>?_,tracked ⟨oc,hoc,I.freeC x c hc⟩ hs,by simpa using I.len⟩ ⟨c,hs,.inr hc⟩
  ·exact (hs.2 b (Nat.ne_of_lt (Nat.lt_of_lt_of_le (Heap.lt_size e) (I.ok.cab x c hfn hc)))).trans (I.base.keep b o e n hb hx)
  ·obtain ⟨sl,e1⟩:=I.base.slot b o e n hb hx
   exact ⟨sl,(hs.2 b (Nat.ne_of_lt (Nat.lt_of_lt_of_le (Heap.lt_size e) (I.ok.cab x c hfn hc)))).trans e1⟩
  ·obtain ⟨o',e1⟩:=I.base.there b o e hx
   exact ⟨o',(hs.2 b (Nat.ne_of_lt (Nat.lt_of_lt_of_le (Heap.lt_size e) (I.ok.cab x c hfn hc)))).trans e1⟩
  ·by_cases hj:j = i
   ·subst hj
    rw [hi] at e1; cases e1
    rw [List.getElem?_set_self hiσ] at e2
    cases e2
    exact ⟨u,r,.inr ⟨.inl hk,c,hc,hc'⟩⟩
   ·rw [List.getElem?_set_ne (Ne.symm hj)] at e2
    obtain ⟨u',r',q⟩:=hl j y v' e1 e2 e3
    refine ⟨u',r',?_⟩
    rcases q with q | ⟨k,c',e,z'⟩
    ·exact .inl q
    ·refine .inr ⟨k,c',e,z'.sameBut hs ?_⟩
     rintro rfl
     exact hj (jkq hN e1 (I.ok.inj _ _ _ e hc ▸ hi))
  ·by_cases hcc:c' = c
   ·subst hcc; exact ⟨_,hc'⟩
   ·obtain ⟨w2,z2⟩:=I.cell y c' e
    exact ⟨w2,z2.sameBut hs hcc⟩
  ·obtain ⟨e,n,ne,nf,d⟩:=I.pin p hp
   refine ⟨(hs.2 p.1 ?_).trans e,n,ne,nf,d⟩
   intro q
   rw [q,hoc] at e
   have q':oc = p.2:=Option.some.inj e
   exact d w' (by rw [← q']; exact hocd)
theorem jh1 {M:Model} {A:Around} {E:Value→Shared→Prop} {i:Nat} {x:Str} {v:V} {u:Value} {Q:Unit→Shared→Prop} (I:Inv X pins σ H s) (hN:X.N.Nodup) (hi:X.N[i]? = some x) (hx:Loc X.env.scope x) (r:RelV v u)
  (h:∀ s',Inv X pins (σ.set i (some v)) H s'→Q () s') (hf:X.fn x = true ∨ X.env.scope.names.lookup x = some .local:=by first | exact .inl rfl | exact .inr rfl | assumption):wpAny M A (storeName X.env x u) Q E s :=
 ji8 I hN hi hx r (fun s' I' _=>h s' I') hf
theorem Inv.call' {s':Shared} {ch:List Addr} (I:Inv X pins σ H s) (ho:s'.os = s.os) (u:Un (frs X.stack) ch H H' s.heap s'.heap) (hok:HOk X.prog X.w H' s'.heap) (hg:AllBare s'.gens)
  (hch:∀ b ∈ ch,(b ∈ X.ex ∨ X.s₀.heap.objs.size ≤ b)∧b ≠ X.env.locals∧(∀ x c,X.env.cells.lookup x = some c→c ≠ b)∧∀ p ∈ X.pn ++ pins,p.1 ≠ b):Inv X pins σ H' s':=by
 obtain ⟨h',g',d',t',o'⟩:=s'
 have e:o' = s.os:=ho
 subst e
 exact I.call (g':=g') (t':=t') (d':=d') u hok hg hch
end
abbrev XK:=Value→Option Addr→Hp→Prop
abbrev St:=List (Option V)
abbrev VK:=V→Hp→Prop
abbrev TE:=St→Hp→VK→Prop
abbrev TT:=St→Hp→(Bool→Hp→Prop)→Prop
abbrev TA:=St→Hp→(List V→Hp→Prop)→Prop
structure Ends where
 nx:St→Hp→Prop
 rt:VK
 bk:St→Hp→Prop:=fun _ _=>False
 ct:St→Hp→Prop:=fun _ _=>False
abbrev TS:=Ends→St→Hp→Prop
def EP (X:Cx) (pins:List (Addr × Obj)) (σ:St) (Q:VK) (u:Value) (s':Shared):Prop:=∃ v H',Inv X pins σ H' s'∧RelV v u∧Q v H'
def TP (X:Cx) (pins:List (Addr × Obj)) (σ:St) (Q:Bool→Hp→Prop) (b:Bool) (s':Shared):Prop:=∃ H',Inv X pins σ H' s'∧Q b H'
def AP (X:Cx) (pins:List (Addr × Obj)) (σ:St) (Q:List V→Hp→Prop) (us:List Value) (s':Shared):Prop:=∃ vs H',Inv X pins σ H' s'∧Vals vs us∧Q vs H'
def SP (X:Cx) (pins:List (Addr × Obj)) (D:Ends) (f:Flow) (s':Shared):Prop :=
 match f with
 | .next=>∃ σ' H',Inv X pins σ' H' s'∧D.nx σ' H'
 | .brk=>∃ σ' H',Inv X pins σ' H' s'∧D.bk σ' H'
 | .cont=>∃ σ' H',Inv X pins σ' H' s'∧D.ct σ' H'
 | .ret u=>∃ v σ' H',Inv X pins σ' H' s'∧RelV v u∧D.rt v H'
def PE (X:Cx) (e:Expr) (t:TE):Prop :=
 ∀ (pins:List (Addr × Obj)) (s:Shared) (σ:St) (H:Hp) (Q:VK),Inv X pins σ H s→t σ H Q→wpAny (model X.prog X.w) X.A (eval e X.env) (EP X pins σ Q) X.xe s
def PT (X:Cx) (e:Expr) (t:TT):Prop :=
 ∀ (pins:List (Addr × Obj)) (s:Shared) (σ:St) (H:Hp) (Q:Bool→Hp→Prop),Inv X pins σ H s→t σ H Q→wpAny (model X.prog X.w) X.A (isTrue e X.env (eval e X.env)) (TP X pins σ Q) X.xe s
def PW (X:Cx) (e:Expr) (t:TT):Prop :=
 ∀ (whole:Sem Value) (pins:List (Addr × Obj)) (s:Shared) (σ:St) (H:Hp) (Q:Bool→Hp→Prop),Inv X pins σ H s→t σ H Q→wpAny (model X.prog X.w) X.A (isTrue e X.env whole) (TP X pins σ Q) X.xe s
theorem PW.pt {X:Cx} {e:Expr} {t:TT} (h:PW X e t):PT X e t:=h _
def PA (X:Cx) (es:List Expr) (t:TA):Prop :=
 ∀ (pos:Pos) (pins:List (Addr × Obj)) (s:Shared) (σ:St) (H:Hp) (Q:List V→Hp→Prop),Inv X pins σ H s→t σ H Q→wpAny (model X.prog X.w) X.A (spliced (backTo pos (starEach es X.env))) (AP X pins σ Q) X.xe s
def PS (X:Cx) (st:Stmt) (t:TS):Prop :=
 ∀ (pins:List (Addr × Obj)) (s:Shared) (σ:St) (H:Hp) (D:Ends),Inv X pins σ H s→t D σ H→wpAny (model X.prog X.w) X.A (exec st X.env) (SP X pins D) X.xe s
def PSs (X:Cx) (st:List Stmt) (t:TS):Prop :=
 ∀ (pins:List (Addr × Obj)) (s:Shared) (σ:St) (H:Hp) (D:Ends),Inv X pins σ H s→t D σ H→wpAny (model X.prog X.w) X.A (execs st X.env) (SP X pins D) X.xe s
theorem thn {α:Type} {t:Sem α} {Q Q':α→Shared→Prop} {M:Model} {A:Around} {E:Value→Shared→Prop} {s:Shared} (h:wpAny M A t Q E s) (hQ:∀ a s,Q a s→Q' a s):wpAny M A t Q' E s:=wpAny_mono h hQ fun _ _ x=>x
end L2
namespace L2
open PySem PySem.Spec PyProof.Rows
section
variable {X:Cx}
def tVar (i:Nat):TE:=fun σ H Q=>∃ v,σ[i]? = some (some v)∧Q v H
def tC (v:V):TE:=fun _ H Q=>Q v H
theorem pe_var {i:Nat} {x:Str} {pos:Pos} (hN:X.N[i]? = some x) (hv:Vis X.env.scope x) (hd:(x == ("__debug__":Str)) = false:=by decide) (hcd:(x == ("__classdict__":Str)) = false:=by decide):PE X (.Name x pos) (tVar i):=by
 intro pins s σ H Q I h
 obtain ⟨v,e,h⟩:=h
 obtain ⟨m,hn,hl⟩:=I.loc
 obtain ⟨u,r,l⟩:=hl i x v hN e hv
 have fin:EP X pins σ Q u s:=⟨v,H,I,r,h⟩
 rcases l with ⟨hk,hm⟩ | ⟨hk,c,hc,hcell⟩
 ·exact wpAny_Name (wpAny_loadName_local I.ok.kind hk hn hm fin) hd
 ·rcases hk with hk | hk
  ·exact wpAny_Name (wpAny_loadName_cell I.ok.kind hk hc hcell fin) hd
  ·exact wpAny_Name (wpAny_loadName_free I.ok.kind hk hc hcell fin hcd) hd
theorem ja2 {i j pos}:PE X (.Constant (.int i) j pos) (tC (.int i)):=fun _ _ _ H _ I h=>wpAny_Constant_int ⟨.int i,H,I.tok _,⟨_,rfl⟩,h⟩
theorem jc8 {b j pos}:PE X (.Constant (.bool b) j pos) (tC (.bl b)):=fun _ _ _ H _ I h=>Constant_bool ⟨.bl b,H,I,rfl,h⟩
theorem pe_non {j pos}:PE X (.Constant .none j pos) (tC .non):=fun _ _ _ H _ I h=>Constant_none ⟨.non,H,I,rfl,h⟩
theorem pe_str {x j pos}:PE X (.Constant (.str x) j pos) (tC (.str x)):=fun _ _ _ H _ I h=>Calls.Constant_str ⟨.str x,H,I.tok _,⟨_,rfl⟩,h⟩
def Gl (X:Cx) (x:Str):Prop:=X.env.kindOf x = some .globalImplicit
theorem jnb {E:Value→Shared→Prop} {pins:List (Addr × Obj)} {s:Shared} {σ:St} {H:Hp} {x:Str} {u:Value} {pos:Pos} {Q:Value→Shared→Prop} (I:Inv X pins σ H s) (hg:Gl X x) (hm:X.mg x = some u) (h:Q u s)
  (hd:(x == ("__debug__":Str)) = false:=by decide):wpAny (model X.prog X.w) X.A (eval (.Name x pos) X.env) Q E s :=
 Calls.Name_function_global I.ok.kind hg (Calls.loadGlobal_global (by rw [I.ok.glob]; exact I.mod.glob.keeps I.bk) hm h) hd
theorem je5 {E:Value→Shared→Prop} {pins:List (Addr × Obj)} {s:Shared} {σ:St} {H:Hp} {x:Str} {u:Value} {pos:Pos} {Q:Value→Shared→Prop} (I:Inv X pins σ H s) (hg:Gl X x) (hm:X.mg x = none) (hv:bootBuiltins x = some u) (h:Q u s)
  (hn:x ≠ "__name__":=by decide) (hd:(x == ("__debug__":Str)) = false:=by decide):wpAny (model X.prog X.w) X.A (eval (.Name x pos) X.env) Q E s:=by
 obtain ⟨mb,h1,h2⟩:=I.mod.blt
 exact Calls.Name_function_global I.ok.kind hg (Calls.loadGlobal_builtin (by rw [I.ok.glob]; exact I.mod.glob.keeps I.bk) hm (by rw [I.ok.blt]; exact h1.keeps I.bk) ((h2 x hn).trans hv) h) hd
theorem jha {x:Str} {v:V} {u:Value} {pos:Pos} (hg:Gl X x) (hm:X.mg x = some u) (r:RelV v u) (hd:(x == ("__debug__":Str)) = false:=by decide):PE X (.Name x pos) (tC v) :=
 fun _ _ _ H _ I h=>jnb I hg hm ⟨v,H,I,r,h⟩ hd
theorem jbn {x:Str} {v:V} {u:Value} {pos:Pos} (hg:Gl X x) (hm:X.mg x = none) (hv:bootBuiltins x = some u) (r:RelV v u) (hn:x ≠ "__name__":=by decide) (hd:(x == ("__debug__":Str)) = false:=by decide):PE X (.Name x pos) (tC v) :=
 fun _ _ _ H _ I h=>je5 I hg hm hv ⟨v,H,I,r,h⟩ hn hd
variable {a b:Expr} {ta tb:TE} {pos:Pos}
def PC (X:Cx) (op:CmpOp) (a b:Expr) (t:TE):Prop :=
 ∀ (pins:List (Addr × Obj)) (s:Shared) (σ:St) (H:Hp) (Q:VK),Inv X pins σ H s→t σ H Q →
  wpAny (model X.prog X.w) X.A (eval a X.env) (fun v s₁=>wpAny (model X.prog X.w) X.A (eval b X.env) (fun u s₂=>wpAny (model X.prog X.w) X.A (compareOp op v u) (EP X pins σ Q) X.xe s₂) X.xe s₁) X.xe s
theorem jks (b:Expr) {op:CmpOp} (h:op ≠ .In) (h2:op ≠ .NotIn):behindInMarks op b = false:=by
 have e1:(op == CmpOp.In) = false:=by cases op <;> first | rfl | exact absurd rfl h
 have e2:(op == CmpOp.NotIn) = false:=by cases op <;> first | rfl | exact absurd rfl h2
 cases b <;> simp [behindInMarks,e1,e2]
def tB (t:TE):TT:=fun σ H Q=>t σ H fun x H1=>∃ c,x = .bl c∧Q c H1
theorem jq2 {op:CmpOp} {t:TE} (h:PC X op a b t) (h1:behindInMarks op b = false:=by first | exact jks _ (by decide) (by decide) | rfl):PE X (.Compare a [op] [b] pos) t:=fun pins s σ H Q I hw=>wpAny_Compare1 (h pins s σ H Q I hw) h1
theorem pt_cmp {op:CmpOp} {t:TE} (h:PC X op a b t) (h1:behindInMarks op b = false:=by first | exact jks _ (by decide) (by decide) | rfl):PT X (.Compare a [op] [b] pos) (tB t):=by
 intro pins s σ H Q I hw
 refine wpAny_isTrue_Compare1 (thn (h pins s σ H _ I hw) fun v s1 h1=>thn h1 fun u s2 h2=>thn h2 fun c s3 ⟨x,H1,I1,r1,q1⟩=>?_) h1
 obtain ⟨d,rfl,q⟩:=q1
 cases r1
 exact wpAny_truthy_bool ⟨H1,I1,q⟩
variable {tA tB':TT} {rest:List Expr}
def tAnd (t u:TT):TT:=fun σ H Q=>t σ H fun c H1=>if c = true then u σ H1 Q else Q false H1
def tOr (t u:TT):TT:=fun σ H Q=>t σ H fun c H1=>if c = true then Q true H1 else u σ H1 Q
def tNot (t:TT):TT:=fun σ H Q=>t σ H fun c H1=>Q (!c) H1
theorem jdr (ha:PT X a tA):PW X (.BoolOp .And [a] pos) tA:=by
 intro wh pins s σ H Q I h
 refine isTrue_and (thn (ha pins s σ H Q I h) fun c s1 e=>?_)
 cases c with
 | true=>exact isTrue_and_nil e
 | false=>exact e
theorem jcu (ha:PT X a tA):PW X (.BoolOp .Or [a] pos) tA:=by
 intro wh pins s σ H Q I h
 refine isTrue_or (thn (ha pins s σ H Q I h) fun c s1 e=>?_)
 cases c with
 | false=>exact isTrue_or_nil e
 | true=>exact e
theorem jfk (ha:PT X a tA) (hb:PW X (.BoolOp .And (b :: rest) pos) tB'):PW X (.BoolOp .And (a :: b :: rest) pos) (tAnd tA tB'):=by
 intro wh pins s σ H Q I h
 refine isTrue_and (thn (ha pins s σ H _ I h) fun c s1 ⟨H1,I1,q1⟩=>?_)
 cases c with
 | true=>exact hb wh pins s1 σ H1 Q I1 q1
 | false=>exact ⟨H1,I1,q1⟩
theorem jd6 (ha:PT X a tA) (hb:PW X (.BoolOp .Or (b :: rest) pos) tB'):PW X (.BoolOp .Or (a :: b :: rest) pos) (tOr tA tB'):=by
 intro wh pins s σ H Q I h
 refine isTrue_or (thn (ha pins s σ H _ I h) fun c s1 ⟨H1,I1,q1⟩=>?_)
 cases c with
 | true=>exact ⟨H1,I1,q1⟩
 | false=>exact hb wh pins s1 σ H1 Q I1 q1
theorem jbb (ha:PT X a tA):PT X (.UnaryOp .Not a pos) (tNot tA):=by
 intro pins s σ H Q I h
 exact isTrue_not (ha pins s σ H (fun c H1=>Q (!c) H1) I h)
theorem jdn {op} {t:TE} (h:PE X a t):PE X (.BoolOp op [a] pos) t:=fun pins s σ H Q I hw=>BoolOp_one (h pins s σ H Q I hw)
def tIf (t:TT) (ta tb:TE):TE:=fun σ H Q=>t σ H fun c H1=>if c = true then ta σ H1 Q else tb σ H1 Q
end
end L2
namespace L2
open PySem PySem.Spec PyProof.Rows
def SqL (K:PySem.W.Frag) (H:Hp) (a:Addr) (xs:List V):Prop :=
 Rd H a (.lst xs) ∨
  ∃ (o:Obj) (its:Array Value) (n:Nat),K.lookup a = some o∧o.cls = .type "list"∧o.dict = none∧o.data = .seq its n∧its.size ≤ sizeLine∧Vals xs its.toList
def SqT (K:PySem.W.Frag) (H:Hp) (a:Addr) (xs:List V):Prop :=
 Rd H a (.tup xs) ∨
  ∃ (o:Obj) (its:Array Value) (n:Nat),K.lookup a = some o∧o.cls = .type "tuple"∧o.data = .seq its n∧its.size ≤ sizeLine∧Vals xs its.toList
def absV:Value→Option V
 | .none=>some .non
 | .bool b=>some (.bl b)
 | .int i _=>some (.int i)
 | .str x _=>some (.str x)
 | .bytes b _=>some (.byt b)
 | .float b _=>some (.flt b)
 | .ref a=>some (.ref a)
 | .type n=>some (.ty n)
 | _=>none
theorem RelV.abs {x:V} {u:Value} (r:RelV x u):absV u = some x:=by
 cases x with
 | non=>cases r; rfl
 | bl _=>cases r; rfl
 | int _=>obtain ⟨t,rfl⟩:=r; rfl
 | str _=>obtain ⟨t,rfl⟩:=r; rfl
 | byt _=>obtain ⟨t,rfl⟩:=r; rfl
 | flt _=>obtain ⟨t,rfl⟩:=r; rfl
 | ref _=>cases r; rfl
 | ty _=>cases r; rfl
theorem RelV.inj {x y:V} {u:Value} (r:RelV x u) (q:RelV y u):x = y:=Option.some.inj (r.abs.symm.trans q.abs)
theorem Vals.inj:∀ {xs ys:List V} {us:List Value},Vals xs us→Vals ys us→xs = ys
 | _,_,_,.nil,.nil=>rfl
 | _,_,_,.cons r t,.cons r' t'=>by rw [r.inj r',Vals.inj t t']
section
variable {X:Cx} {pins:List (Addr × Obj)} {σ:St} {H:Hp} {s:Shared} {a:Addr} {xs ys:List V}
theorem SqL.of {K:PySem.W.Frag} (h:H a = some (.lst xs)):SqL K H a xs:=.inl (.inl h)
theorem SqT.of {K:PySem.W.Frag} (h:H a = some (.tup xs)):SqT K H a xs:=.inl (.inl h)
theorem Inv.list (I:Inv X pins σ H s) (h:SqL X.K H a xs):∃ its:List Value,Vals xs its∧PlainL s.heap a its.toArray∧xs.length ≤ sizeLine:=by
 rcases h with h | ⟨o,its,n,hk,hc,hd,hs,hz,r⟩
 ·obtain ⟨z,its,n,r,e⟩:=h.ok I.hok
  exact ⟨its,r,⟨_,n,e,rfl,rfl,rfl⟩,z⟩
 ·refine ⟨its.toList,r,⟨o,n,I.kIn a o hk,hc,hd,by simpa using hs⟩,?_⟩
  have e:=r.length
  simp only [Array.length_toList] at e
  omega
theorem Inv.tuple (I:Inv X pins σ H s) (h:SqT X.K H a xs):∃ its:List Value,Vals xs its∧IsTup s.heap a its.toArray∧xs.length ≤ sizeLine:=by
 rcases h with h | ⟨o,its,n,hk,hc,hs,hz,r⟩
 ·obtain ⟨z,its,r,p⟩:=h.ok I.hok
  exact ⟨its,r,p,z⟩
 ·refine ⟨its.toList,r,⟨o,I.kIn a o hk,hc,n,by simpa using hs⟩,?_⟩
  have e:=r.length
  simp only [Array.length_toList] at e
  omega
theorem Inv.list_inj (I:Inv X pins σ H s) (h:SqL X.K H a xs) (h':SqL X.K H a ys):xs = ys:=by
 obtain ⟨its,r,⟨o,n,e,_,_,d⟩,_⟩:=I.list h
 obtain ⟨its',r',⟨o',n',e',_,_,d'⟩,_⟩:=I.list h'
 rw [e] at e'; cases e'
 rw [d] at d'
 injection d' with d1 _
 have:its = its':=by simpa using congrArg Array.toList d1
 subst this
 exact r.inj r'
theorem Inv.tuple_inj (I:Inv X pins σ H s) (h:SqT X.K H a xs) (h':SqT X.K H a ys):xs = ys:=by
 obtain ⟨its,r,⟨o,e,_,n,d⟩,_⟩:=I.tuple h
 obtain ⟨its',r',⟨o',e',_,n',d'⟩,_⟩:=I.tuple h'
 rw [e] at e'; cases e'
 rw [d] at d'
 injection d' with d1 _
 have:its = its':=by simpa using congrArg Array.toList d1
 subst this
 exact r.inj r'
end
abbrev Cx.wish (X:Cx) (E:Value→Shared→Prop):Cx:={ X with xe:=E }
abbrev Cx.nox (X:Cx):Cx:=X.wish fun _ _=>False
theorem Cx.Ok.wish {X:Cx} (ok:X.Ok) (E:Value→Shared→Prop):(X.wish E).Ok :=
 ⟨ok.mod,ok.kind,ok.glob,ok.blt,ok.above,ok.inj,ok.has,ok.cab,ok.hd,ok.frames,ok.stk,ok.exf,ok.bs,ok.bsz,ok.noex,ok.exfs,ok.funs,ok.frf⟩
theorem Cx.Ok.unwish {X:Cx} {E:Value→Shared→Prop} (ok:(X.wish E).Ok):X.Ok :=
 ⟨ok.mod,ok.kind,ok.glob,ok.blt,ok.above,ok.inj,ok.has,ok.cab,ok.hd,ok.frames,ok.stk,ok.exf,ok.bs,ok.bsz,ok.noex,ok.exfs,ok.funs,ok.frf⟩
section
variable {X:Cx} {pins:List (Addr × Obj)} {σ:St} {H:Hp} {s:Shared} {E:Value→Shared→Prop}
theorem Inv.wish (I:Inv X pins σ H s) (E:Value→Shared→Prop):Inv (X.wish E) pins σ H s:=⟨I.ok.wish E,I.os,I.bare,I.base,I.loc,I.cell,I.free,I.freeC,I.pin,I.hok,I.len⟩
theorem Inv.unwish (I:Inv (X.wish E) pins σ H s):Inv X pins σ H s:=⟨I.ok.unwish,I.os,I.bare,I.base,I.loc,I.cell,I.free,I.freeC,I.pin,I.hok,I.len⟩
theorem SP.unwish {D:Ends} {f:Flow} {s':Shared} (h:SP (X.wish E) pins D f s'):SP X pins D f s':=by
 cases f with
 | next=>obtain ⟨σ',H',I,q⟩:=h; exact ⟨σ',H',I.unwish,q⟩
 | brk=>obtain ⟨σ',H',I,q⟩:=h; exact ⟨σ',H',I.unwish,q⟩
 | cont=>obtain ⟨σ',H',I,q⟩:=h; exact ⟨σ',H',I.unwish,q⟩
 | ret u=>obtain ⟨v,σ',H',I,r,q⟩:=h; exact ⟨v,σ',H',I.unwish,r,q⟩
theorem PSs.nox {st:List Stmt} {t:TS} (h:PSs X.nox st t):PSs X st t:=fun pins s σ H D I hw =>
 wpAny_mono (h pins s σ H D (I.wish _) hw) (fun _ _ q=>q.unwish) fun _ _ z=>False.elim z
end
section
variable {X:Cx} {st:Stmt} {rest:List Stmt} {t u:TS} {e:Expr} {te:TE} {pos:Pos}
def jon:TS:=fun D σ H=>D.nx σ H
def tSeq (t u:TS):TS:=fun D σ H=>t { D with nx:=u D } σ H
theorem jam:PSs X [] jon:=fun _ _ σ H _ I h=>wpAny_execs_nil ⟨σ,H,I,h⟩
theorem ja5 (h1:PS X st t) (h2:PSs X rest u):PSs X (st :: rest) (tSeq t u):=by
 intro pins s σ H D I h
 refine wpAny_execs_cons (thn (h1 pins s σ H { D with nx:=u D } I h) fun f s1 q=>?_)
 cases f with
 | next =>
  obtain ⟨σ',H',I',q⟩:=q
  exact h2 pins s1 σ' H' D I' q
 | ret v=>exact q
 | brk=>exact q
 | cont=>exact q
theorem ja6 (h1:PS X st t):PSs X [st] t:=by
 intro pins s σ H D I h
 refine wpAny_execs_cons (thn (h1 pins s σ H D I h) fun f s1 q=>?_)
 cases f with
 | next=>exact wpAny_execs_nil q
 | ret v=>exact q
 | brk=>exact q
 | cont=>exact q
theorem Inv.quiet {pins:List (Addr × Obj)} {σ:St} {H:Hp} {s:Shared} (I:Inv X pins σ H s):interactive X.env = false:=by simp [interactive,I.ok.kind]
def jlb (te:TE):TS:=fun D σ H=>te σ H fun _ H1=>D.nx σ H1
theorem jcn (he:PE X e te) (hs:swapsWith e none pos.line X.env = pure false:=by rfl):PS X (.Expr e pos) (jlb te):=by
 intro pins s σ H D I h
 exact wpAny_Expr_any (thn (he pins s σ H _ I h) fun v s1 ⟨x,H1,I1,r1,q1⟩=>⟨σ,H1,I1,q1⟩) I.quiet hs
def tRet (te:TE):TS:=fun D σ H=>te σ H D.rt
theorem jan (he:PE X e te):PS X (.Return (some e) pos) (tRet te):=by
 intro pins s σ H D I h
 exact wpAny_Return_some (thn (he pins s σ H _ I h) fun v s1 ⟨x,H1,I1,r1,q1⟩=>⟨x,σ,H1,I1,r1,q1⟩)
def tRetN:TS:=fun D _ H=>D.rt .non H
def tIfS (c:TT) (t u:TS):TS:=fun D σ H=>c σ H fun b H1=>if b = true then t D σ H1 else u D σ H1
theorem jb5 {c:Expr} {a b:List Stmt} {tc:TT} (hc:PT X c tc) (ha:PSs X a t) (hb:PSs X b u):PS X (.If c a b pos) (tIfS tc t u):=by
 intro pins s σ H D I h
 refine wpAny_If (thn (hc pins s σ H _ I h) fun d s1 ⟨H1,I1,q1⟩=>?_)
 cases d with
 | true=>exact ha pins s1 σ H1 D I1 q1
 | false=>exact hb pins s1 σ H1 D I1 q1
def tNever:TS:=fun _ _ _=>False
theorem je2:PS X st tNever:=fun _ _ _ _ _ _ h=>h.elim
end
abbrev TG:=V→St→Hp→(St→Hp→Prop)→Prop
abbrev TGs:=List V→St→Hp→(St→Hp→Prop)→Prop
def PG (X:Cx) (target:Expr) (t:TG):Prop :=
 ∀ (pins:List (Addr × Obj)) (s:Shared) (σ:St) (H:Hp) (v:V) (u:Value) (Q:St→Hp→Prop),Inv X pins σ H s→RelV v u→t v σ H Q →
  wpAny (model X.prog X.w) X.A (assign target X.env u) (fun _ s'=>∃ σ' H',Inv X pins σ' H' s'∧Q σ' H') X.xe s
def PGs (X:Cx) (ts:List Expr) (t:TGs):Prop :=
 ∀ (pins:List (Addr × Obj)) (s:Shared) (σ:St) (H:Hp) (vs:List V) (us:List Value) (Q:St→Hp→Prop),Inv X pins σ H s→Vals vs us→t vs σ H Q →
  wpAny (model X.prog X.w) X.A (assignInOrder ((assignEach ts X.env).map (·.2)) us) (fun _ s'=>∃ σ' H',Inv X pins σ' H' s'∧Q σ' H') X.xe s
abbrev TSet:=V→V→V→Hp→(Hp→Prop)→Prop
def PSet (X:Cx) (t:TSet):Prop :=
 ∀ (pins:List (Addr × Obj)) (s:Shared) (σ:St) (H:Hp) (o i v:V) (ov iv u:Value) (Q:Hp→Prop),Inv X pins σ H s→RelV o ov→RelV i iv→RelV v u→t o i v H Q →
  wpAny (model X.prog X.w) X.A (setItem ov iv u) (fun _ s'=>∃ H',Inv X pins σ H' s'∧Q H') X.xe s
abbrev TIp:=V→V→Hp→VK→Prop
def PIp (X:Cx) (op:Operator) (t:TIp):Prop :=
 ∀ (pins:List (Addr × Obj)) (s:Shared) (σ:St) (H:Hp) (x y:V) (v u:Value) (Q:VK),Inv X pins σ H s→RelV x v→RelV y u→t x y H Q →
  wpAny (model X.prog X.w) X.A (inplaceOp op v u) (EP X pins σ Q) X.xe s
section
variable {X:Cx} {pos:Pos}
def jjz (i:Nat):TG:=fun v σ H Q=>Q (σ.set i (some v)) H
theorem jad {i:Nat} {x:Str} (hN:X.N.Nodup) (hi:X.N[i]? = some x) (hx:Loc X.env.scope x) (hf:X.fn x = true ∨ X.env.scope.names.lookup x = some .local:=by first | exact .inl rfl | exact .inr rfl | assumption):PG X (.Name x pos) (jjz i):=by
 intro pins s σ H v u Q I r h
 exact wpAny_assign_Name (jh1 I hN hi hx r (fun s' I'=>⟨_,H,I',h⟩) hf)
def gNil:TGs:=fun vs σ H Q=>vs = []∧Q σ H
def gCons (t:TG) (u:TGs):TGs:=fun vs σ H Q=>∃ v r,vs = v :: r∧t v σ H fun σ' H'=>u r σ' H' Q
theorem jqs:PGs X [] gNil:=by
 intro pins s σ H vs us Q I r h
 obtain ⟨e,h⟩:=h
 subst e
 cases r
 exact assignInOrder_nil ⟨σ,H,I,h⟩
theorem jow {e:Expr} {es:List Expr} {t:TG} {u:TGs} (h1:PG X e t) (h2:PGs X es u)
  (hs:(assignEach (e :: es) X.env).map (·.2) = assign e X.env :: (assignEach es X.env).map (·.2):=by rfl):PGs X (e :: es) (gCons t u):=by
 intro pins s σ H vs us Q I r h
 obtain ⟨v,vr,e1,h⟩:=h
 subst e1
 cases r with
 | cons r rr =>
  rw [hs]
  refine assignInOrder_cons (thn (h1 pins s σ H _ _ _ I r h) fun _ s1 ⟨σ1,H1,I1,q1⟩=>?_)
  exact h2 pins s1 σ1 H1 _ _ Q I1 rr q1
def gTup (K:PySem.W.Frag) (n:Nat) (t:TGs):TG:=fun v σ H Q=>∃ a xs,v = .ref a∧SqT K H a xs∧xs.length = n∧t xs σ H Q
theorem pg_tup {es:List Expr} {k:Nat} {t:TGs} {n:Nat} (hc:X.calm = true) (h:PGs X es t)
  (hn:(assignEach es X.env).length = n:=by rfl) (hst:(assignEach es X.env).findIdx? (·.1) = none:=by rfl):PG X (.Tuple es k pos) (gTup X.K n t):=by
 intro pins s σ H v u Q I r hw
 obtain ⟨a,xs,e1,hq,hl,hw⟩:=hw
 subst e1
 cases r
 obtain ⟨its,rv,ht,hz⟩:=I.tuple hq
 refine assign_Tuple_tuple (I.ok.hd hc) ht (by simp [hn,← hl,rv.length]) hst fun h' hx=>?_
 have I1:Inv X pins σ H { s with heap:=h' }:=I.kept (t':=s.toks) fun b o e=>hx b o (Nat.ne_of_lt (Heap.lt_size e)) e
 exact h pins _ σ H xs _ Q I1 (by simpa using rv) hw
def gSub (to ti:TE) (t:TSet):TG:=fun v σ H Q=>to σ H fun o H1=>ti σ H1 fun i H2=>t o i v H2 fun H3=>Q σ H3
theorem jcv {o i:Expr} {to ti:TE} {t:TSet} (ho:PE X o to) (hi:PE X i ti) (hs:PSet X t)
  (ha:∀ v,assign (.Subscript o i pos) X.env v = (do
   let ov ← holding [v] (eval o X.env)
   let iv ← holding [v,ov] (eval i X.env)
   standAt pos
   holding [v,ov,iv] (setItem ov iv v)
   release [v,ov,iv] []):=by intro _; rfl):PG X (.Subscript o i pos) (gSub to ti t):=by
 intro pins s σ H v u Q I r h
 rw [ha]
 refine wpAny_bind (wpAny_holding (thn (ho pins s σ H _ I h) fun ov s1 ⟨x,H1,I1,r1,q1⟩=>?_))
 refine wpAny_bind (wpAny_holding (thn (hi pins s1 σ H1 _ I1 q1) fun iv s2 ⟨y,H2,I2,r2,q2⟩=>?_))
 refine wpAny_bind (wpAny_standAt (wpAny_bind (wpAny_holding (thn (hs pins s2 σ H2 x y v ov iv u _ I2 r1 r2 r q2) fun _ s3 ⟨H3,I3,q3⟩=>?_))))
 exact wpAny_release ⟨σ,H3,I3,q3⟩
def tAsg (te:TE) (g:TG):TS:=fun D σ H=>te σ H fun x H1=>g x σ H1 D.nx
theorem jcl {tg e:Expr} {te:TE} {g:TG} (he:PE X e te) (hg:PG X tg g) (hs:swapsWithSole [tg] e pos.line X.env = pure false:=by rfl) (hw:swappedStores [tg] e X.env = pure none:=by rfl)
  (h1:(assignEach [tg] X.env).map (·.2) = [assign tg X.env]:=by rfl):PS X (.Assign [tg] e pos) (tAsg te g):=by
 intro pins s σ H D I h
 refine wpAny_Assign_stores (thn (he pins s σ H _ I h) fun v s1 ⟨x,H1,I1,r1,q1⟩=>?_) hs hw
 rw [h1]
 exact thn (hg pins s1 σ H1 x v _ I1 r1 q1) fun _ s2 q=>q
theorem jae {i:Nat} {x:Str} {e:Expr} {te:TE} {pos':Pos} (hN:X.N.Nodup) (hi:X.N[i]? = some x) (hx:Loc X.env.scope x) (he:PE X e te) (hs:swapsWith e (some (.Name x pos')) pos.line X.env = pure false:=by rfl) (hf:X.fn x = true ∨ X.env.scope.names.lookup x = some .local:=by first | exact .inl rfl | exact .inr rfl | assumption) :
  PS X (.Assign [.Name x pos'] e pos) (tAsg te (jjz i)):=by
 intro pins s σ H D I h
 refine wpAny_Assign_Name (thn (he pins s σ H _ I h) fun v s1 ⟨y,H1,I1,r1,q1⟩=>?_) hs
 exact jh1 I1 hN hi hx r1 (fun s2 I2=>⟨_,H1,I2,q1⟩) hf
def tAug (i:Nat) (te:TE) (ti:TIp):TS:=fun D σ H=>∃ x,σ[i]? = some (some x)∧te σ H fun y H1=>ti x y H1 fun z H2=>D.nx (σ.set i (some z)) H2
theorem ps_aug {i:Nat} {x:Str} {e:Expr} {te:TE} {op:Operator} {ti:TIp} {pos':Pos} (hN:X.N.Nodup) (hi:X.N[i]? = some x) (hx:Loc X.env.scope x) (he:PE X e te) (ho:PIp X op ti) (hf:X.fn x = true ∨ X.env.scope.names.lookup x = some .local:=by first | exact .inl rfl | exact .inr rfl | assumption) :
  PS X (.AugAssign (.Name x pos') op e pos) (tAug i te ti):=by
 intro pins s σ H D I h
 obtain ⟨v,e1,h⟩:=h
 obtain ⟨m,hn,hl⟩:=I.loc
 have vis:Vis X.env.scope x:=by rcases hx with k | k; exact .inl k; exact .inr (.inl k)
 obtain ⟨u,r,l⟩:=hl i x v hi e1 vis
 refine wpAny_AugAssign_Name ?_
 have go:wpAny (model X.prog X.w) X.A (eval e X.env) (fun w s₂=>wpAny (model X.prog X.w) X.A (inplaceOp op u w) (fun r s₃=>wpAny (model X.prog X.w) X.A (storeName X.env x r) (fun _=>SP X pins D .next) X.xe s₃) X.xe s₂) X.xe s:=by
  refine thn (he pins s σ H _ I h) fun w s1 ⟨y,H1,I1,r1,q1⟩=>?_
  refine thn (ho pins s1 σ H1 v y u w _ I1 r r1 q1) fun z s2 ⟨zv,H2,I2,r2,q2⟩=>?_
  exact jh1 I2 hN hi hx r2 (fun s3 I3=>⟨_,H2,I3,q2⟩) hf
 rcases l with ⟨hk,hm⟩ | ⟨hk,c,hc,hcell⟩
 ·exact wpAny_loadName_local I.ok.kind hk hn hm go
 ·rcases hk with hk | hk
  ·exact wpAny_loadName_cell I.ok.kind hk hc hcell go
  ·rcases hx with k | k
   ·have:X.env.scope.names.lookup x = some .free:=hk
    rw [k] at this; cases this
   ·have:X.env.scope.names.lookup x = some .free:=hk
    rw [k] at this; cases this
end
section
variable {X:Cx} {pos:Pos}
end
structure It where
 go:Nat→Hp→Prop
 yld:Nat→Hp→V→Hp→Prop
 stop:Nat→Hp→Prop
def FpOk (X:Cx) (pins:List (Addr × Obj)) (H:Hp) (b:Addr):Prop :=
 H b = none∧b ≠ X.env.locals∧b ∉ X.fs∧(b ∈ X.ex ∨ X.s₀.heap.objs.size ≤ b)∧(∀ x c,X.env.cells.lookup x = some c→c ≠ b)∧∀ p ∈ X.pn ++ pins,p.1 ≠ b
theorem Inv.fpOk {X:Cx} {pins:List (Addr × Obj)} {σ:St} {H H':Hp} {s:Shared} {b:Addr} (I:Inv X pins σ H s) (hb:s.heap.objs.size ≤ b) (hn:H' b = none):FpOk X pins H' b:=by
 refine ⟨hn,Nat.ne_of_gt (Nat.lt_of_lt_of_le I.lt hb),I.nofs hb,.inr (Nat.le_trans I.sz hb),fun x c e z=>?_,fun p hp z=>?_⟩
 ·obtain ⟨v,q⟩:=I.cell x c e
  exact absurd (Nat.lt_of_lt_of_le q.lt (by rw [z]; exact hb)) (Nat.lt_irrefl _)
 ·exact absurd (Nat.lt_of_lt_of_le (Heap.lt_size (I.pin p hp).1) (by rw [z]; exact hb)) (Nat.lt_irrefl _)
structure Turn (P:Program) (w:World) (K:PySem.W.Frag) (tg:Expr) (J:It) (fp:List Addr) (it:Addr) (tn:Nat→Heap→Prop):Prop where
 mem:it ∈ fp
 obj:∀ i h,tn i h→∀ b ∈ fp,∃ o,h.get? b = some o∧∀ v,o.data ≠ .cell v
 keep:∀ i h h',tn i h→(∀ b ∈ fp,∀ o,h.get? b = some o→h'.get? b = some o)→tn i h'
 item:∀ (X:Cx),X.prog = P→X.w = w→X.K = K→X.calm = true→∀ (i:Nat) (pins:List (Addr × Obj)) (s:Shared) (σ:St) (H:Hp) (E:Value→Shared→Prop),Inv X pins σ H s→(∀ b ∈ fp,FpOk X pins H b)→tn i s.heap→J.go i H →
  wpAny (model P w) X.A (pyNext (.ref it)) (fun r s1=>∃ u,r = some u ∧
   wpAny (model P w) X.A (letOwnedTupleGo tg (.ref it) u) (fun _ s2=>∃ x H',Inv X pins σ H' s2∧RelV x u∧J.yld i H x H'∧tn (i + 1) s2.heap∧∀ b ∈ fp,H' b = none) E s1) E s
 done:∀ (X:Cx),X.prog = P→X.w = w→X.K = K→X.calm = true→∀ (i:Nat) (pins:List (Addr × Obj)) (s:Shared) (σ:St) (H:Hp) (E:Value→Shared→Prop),Inv X pins σ H s→(∀ b ∈ fp,FpOk X pins H b)→tn i s.heap→J.stop i H →
  wpAny (model P w) X.A (pyNext (.ref it)) (fun r s1=>r = none∧Inv X pins σ H s1) E s
 self:∀ (A:Around) (i:Nat) (s:Shared) (Q:Value→Shared→Prop) (E:Value→Shared→Prop),tn i s.heap→Q (.ref it) s→wpAny (model P w) A (pyIter (.ref it)) Q E s
abbrev TI:=St→Hp→(It→Hp→Prop)→Prop
def PIE (X:Cx) (pins:List (Addr × Obj)) (σ:St) (tg:Expr) (R:It→Hp→Prop) (itv:Value) (s2:Shared):Prop :=
 ∃ (it:Addr) (fp:List Addr) (tn:Nat→Heap→Prop) (J:It) (H':Hp),itv = .ref it∧Inv X pins σ H' s2∧Turn X.prog X.w X.K tg J fp it tn∧tn 0 s2.heap∧(∀ b ∈ fp,FpOk X pins H' b)∧R J H'
def PI (X:Cx) (tg iter:Expr) (wi:TI):Prop :=
 ∀ (pins:List (Addr × Obj)) (s:Shared) (σ:St) (H:Hp) (R:It→Hp→Prop),Inv X pins σ H s→wi σ H R →
  wpAny (model X.prog X.w) X.A (eval iter X.env) (fun v s1=>wpAny (model X.prog X.w) X.A (pyIter v) (PIE X pins σ tg R) X.xe s1) X.xe s
theorem jr2 {M:Model} {A:Around} {E:Value→Shared→Prop} {s:Shared} {tg:Expr} {it:Addr} {u:Value} {o:Obj} {n:String} {vs:Array Value} {Q:Unit→Shared→Prop} (ho:s.heap.get? it = some o) (hc:o.cls = .type n) (hd:o.data = .fields vs)
    (hn:["enumerate","zip","dict_itemiterator","dict_reverseitemiterator","odict_iterator","itertools.zip_longest","itertools.pairwise"].contains n = false) (hQ:Q () s):wpAny M A (letOwnedTupleGo tg (.ref it) u) Q E s:=by
  unfold letOwnedTupleGo
  cases tg <;> first
    | exact wpAny_pure hQ
    | (cases u <;> first
        | exact wpAny_pure hQ
        | (refine wpAny_bind (wpAny_load ho ?_)
           rw [hc,hd]
           show wpAny M A (if (["enumerate","zip","dict_itemiterator","dict_reverseitemiterator","odict_iterator","itertools.zip_longest","itertools.pairwise"].contains n && vs[0]? == some (rawInt _)) = true then _ else _) Q E s
           rw [if_neg (by intro h; rw [hn,Bool.false_and] at h; cases h)]
           exact wpAny_pure hQ))
def Itl (K:PySem.W.Frag) (a:Addr):It :=
 ⟨fun i H=>∃ xs x,SqL K H a xs∧xs[i]? = some x,fun i H x H'=>H' = H∧∀ xs,SqL K H a xs→xs[i]? = some x,fun i H=>∃ xs,SqL K H a xs∧xs.length ≤ i⟩
def Itt (K:PySem.W.Frag) (a:Addr):It :=
 ⟨fun i H=>∃ xs x,SqT K H a xs∧xs[i]? = some x,fun i H x H'=>H' = H∧∀ xs,SqT K H a xs→xs[i]? = some x,fun i H=>∃ xs,SqT K H a xs∧xs.length ≤ i⟩
def Itr (lo:Int) (n:Nat):It:=⟨fun i _=>i < n,fun i H x H'=>H' = H∧x = .int (lo + i),fun i _=>n ≤ i⟩
theorem jly {P:Program} {w:World} {K:PySem.W.Frag} {tg:Expr} (a it:Addr):Turn P w K tg (Itl K a) [it] it (fun i h=>h.IsListIter it a i) where
 mem:=by simp
 obj:=fun i h st b hb=>by
  have e:b = it:=by simpa using hb
  subst e
  obtain ⟨o,e,c,d⟩:=st
  exact ⟨o,e,fun v z=>by rw [d] at z; cases z⟩
 keep:=fun i h h' st k=>st.at fun o e=>k it (by simp) o e
 item:=by
  intro X hP hw hK hc i pins s σ H E I hf st hg
  subst hP hw hK
  obtain ⟨xs,x,hq,hx⟩:=hg
  obtain ⟨its,rv,p,hz⟩:=I.list hq
  obtain ⟨u,hu,ru⟩:=rv.get hx
  obtain ⟨f0,f1,f2,f3,f4,f5⟩:=hf it (by simp)
  refine wpAny_pyNext_list_item st p.isList (x:=u) (by simpa using hu) fun h' st' sb=>?_
  have I1:Inv X pins σ H { s with heap:=h' }:=I.turned (t':=s.toks) (fun b o hb e=>(sb.2 b hb).trans e) f0 f1 f3 f4 f5
  obtain ⟨o,e,c,d⟩:=id st'
  exact ⟨u,rfl,jr2 (s:={ s with heap:=h' }) e c d (by decide) ⟨x,H,I1,ru,⟨rfl,fun ys hy=>by rw [I.list_inj hy hq]; exact hx⟩,st',fun b hb=>(hf b hb).1⟩⟩
 done:=by
  intro X hP hw hK hc i pins s σ H E I hf st hg
  subst hP hw hK
  obtain ⟨xs,hq,hx⟩:=hg
  obtain ⟨its,rv,p,hz⟩:=I.list hq
  obtain ⟨f0,f1,f2,f3,f4,f5⟩:=hf it (by simp)
  have hl:=rv.length
  exact wpAny_pyNext_list_end (I.ok.hd hc) st p.isList (by simp; omega) fun h' eb=>⟨rfl,I.turned (t':=s.toks) (fun b o hb e=>eb b o hb e) f0 f1 f3 f4 f5⟩
 self:=fun _ _ _ _ _ st h=>wpAny_pyIter_listiter st h
theorem jl9 {P:Program} {w:World} {K:PySem.W.Frag} {tg:Expr} (a it:Addr):Turn P w K tg (Itt K a) [it] it (fun i h=>h.IsTupleIter it a i) where
 mem:=by simp
 obj:=fun i h st b hb=>by
  have e:b = it:=by simpa using hb
  subst e
  obtain ⟨o,e,c,d⟩:=st
  exact ⟨o,e,fun v z=>by rw [d] at z; cases z⟩
 keep:=fun i h h' st k=>st.at fun o e=>k it (by simp) o e
 item:=by
  intro X hP hw hK hc i pins s σ H E I hf st hg
  subst hP hw hK
  obtain ⟨xs,x,hq,hx⟩:=hg
  obtain ⟨its,rv,p,hz⟩:=I.tuple hq
  obtain ⟨u,hu,ru⟩:=rv.get hx
  obtain ⟨f0,f1,f2,f3,f4,f5⟩:=hf it (by simp)
  refine wpAny_pyNext_tuple_item st (show s.heap.IsTuple a its.toArray from p) (x:=u) (by simpa using hu) fun h' st' sb=>?_
  have I1:Inv X pins σ H { s with heap:=h' }:=I.turned (t':=s.toks) (fun b o hb e=>(sb.2 b hb).trans e) f0 f1 f3 f4 f5
  obtain ⟨o,e,c,d⟩:=id st'
  exact ⟨u,rfl,jr2 (s:={ s with heap:=h' }) e c d (by decide) ⟨x,H,I1,ru,⟨rfl,fun ys hy=>by rw [I.tuple_inj hy hq]; exact hx⟩,st',fun b hb=>(hf b hb).1⟩⟩
 done:=by
  intro X hP hw hK hc i pins s σ H E I hf st hg
  subst hP hw hK
  obtain ⟨xs,hq,hx⟩:=hg
  obtain ⟨its,rv,p,hz⟩:=I.tuple hq
  obtain ⟨f0,f1,f2,f3,f4,f5⟩:=hf it (by simp)
  have hl:=rv.length
  exact wpAny_pyNext_tuple_end (I.ok.hd hc) st (show s.heap.IsTuple a its.toArray from p) (by simp; omega) fun h' eb=>⟨rfl,I.turned (t':=s.toks) (fun b o hb e=>eb b o hb e) f0 f1 f3 f4 f5⟩
 self:=fun _ _ _ _ _ st h=>wpAny_pyIter_tupleiter st h
theorem jla {P:Program} {w:World} {K:PySem.W.Frag} {tg:Expr} (it:Addr) (lo:Int) (n:Nat):Turn P w K tg (Itr lo n) [it] it (fun i h=>IsRangeIter h it (lo + (i:Nat) * 1) ((n:Int) - (i:Nat)) 1) where
 mem:=by simp
 obj:=fun i h st b hb=>by
  have e:b = it:=by simpa using hb
  subst e
  exact ⟨_,st,fun v z=>by
   have z':Data.fields _ = Data.cell v:=z
   cases z'⟩
 keep:=fun i h h' st k=>k it (by simp) _ st
 item:=by
  intro X hP hw hK hc i pins s σ H E I hf st hg
  subst hP hw hK
  obtain ⟨f0,f1,f2,f3,f4,f5⟩:=hf it (by simp)
  have W:=Walks.range (prog:=X.prog) (w:=X.w) (I.ok.hd hc) it lo 1 n
  refine W.item i s _ _ hg st fun v h' tk hv st' kk=>?_
  obtain ⟨t,rfl⟩:=hv
  have I1:Inv X pins σ H { s with heap:=h',toks:=tk }:=I.turned (fun b o hb e=>kk b o (by simpa using hb) e) f0 f1 f3 f4 f5
  refine ⟨_,rfl,jr2 (s:={ s with heap:=h',toks:=tk }) (n:="range_iterator") st' rfl rfl (by decide) ⟨.int (lo + i),H,I1,⟨t,?_⟩,⟨rfl,rfl⟩,st',fun b hb=>(hf b hb).1⟩⟩
  rw [Int.mul_one]
 done:=by
  intro X hP hw hK hc i pins s σ H E I hf st hg
  subst hP hw hK
  obtain ⟨f0,f1,f2,f3,f4,f5⟩:=hf it (by simp)
  exact wpAny_pyNext_range_end (I.ok.hd hc) st (by have:n ≤ i:=hg; omega) fun h' eb=>⟨rfl,I.turned (t':=s.toks) (fun b o hb e=>eb b o hb e) f0 f1 f3 f4 f5⟩
 self:=fun _ _ _ _ _ st h=>wpAny_pyIter_rangeiter st h
end L2
namespace L2
open PySem PySem.Spec PyProof.Rows
section
variable {X:Cx} {tg:Expr}
def jdc (K:PySem.W.Frag) (tl:TE):TI:=fun σ H R=>tl σ H fun x H1=>∃ a,x = .ref a∧(∃ xs,SqL K H1 a xs)∧R (Itl K a) H1
def iTup (K:PySem.W.Frag) (tl:TE):TI:=fun σ H R=>tl σ H fun x H1=>∃ a,x = .ref a∧(∃ xs,SqT K H1 a xs)∧R (Itt K a) H1
theorem jbm {l:Expr} {tl:TE} (hl:PE X l tl):PI X tg l (jdc X.K tl):=by
 intro pins s σ H R I h
 refine thn (hl pins s σ H _ I h) fun v s1 ⟨x,H1,I1,r1,q1⟩=>?_
 obtain ⟨a,e,⟨xs,hq⟩,q⟩:=q1
 subst e
 cases r1
 obtain ⟨its,rv,p,hz⟩:=I1.list hq
 refine wpAny_pyIter_list p.isList ?_
 refine ⟨s1.heap.objs.size,[s1.heap.objs.size],_,_,H1,rfl,I1.kept (t':=s1.toks) fun b o e=>Heap.get?_push_of_some _ e,jly a _,⟨_,Heap.get?_push_size _ rfl,rfl,rfl⟩,fun b hb=>?_,q⟩
 have e:b = s1.heap.objs.size:=by simpa using hb
 subst e
 exact I1.fpOk (Nat.le_refl _) (I1.hok.fresh (Nat.le_refl _))
theorem jq1 {l:Expr} {tl:TE} (hl:PE X l tl):PI X tg l (iTup X.K tl):=by
 intro pins s σ H R I h
 refine thn (hl pins s σ H _ I h) fun v s1 ⟨x,H1,I1,r1,q1⟩=>?_
 obtain ⟨a,e,⟨xs,hq⟩,q⟩:=q1
 subst e
 cases r1
 obtain ⟨its,rv,p,hz⟩:=I1.tuple hq
 refine wpAny_pyIter_tuple (show s1.heap.IsTuple a its.toArray from p) ?_
 refine ⟨s1.heap.objs.size,[s1.heap.objs.size],_,_,H1,rfl,I1.kept (t':=s1.toks) fun b o e=>Heap.get?_push_of_some _ e,jl9 a _,⟨_,Heap.get?_push_size _ rfl,rfl,rfl⟩,fun b hb=>?_,q⟩
 have e:b = s1.heap.objs.size:=by simpa using hb
 subst e
 exact I1.fpOk (Nat.le_refl _) (I1.hok.fresh (Nat.le_refl _))
theorem jki {pins:List (Addr × Obj)} {σ:St} {H:Hp} {s:Shared} {R:It→Hp→Prop} {E:Value→Shared→Prop} {lo hi:Int} {t u v:Tok} {tk:Nat} (I:Inv X pins σ H s) (h1:-(2 ^ 62) ≤ lo) (h2:lo < 2 ^ 62) (h3:-(2 ^ 62) ≤ hi) (h4:hi < 2 ^ 62)
  (q:R (Itr lo (hi - lo).toNat) H):wpAny (model X.prog X.w) X.A (pyIter (.ref s.heap.objs.size)) (PIE X pins σ tg R) E { s with heap:=s.heap.push { cls:=.type "range",data:=.fields #[.int lo t,.int hi u,.int 1 v] },toks:=tk }:=by
 refine wpAny_pyIter_range (IsRange.new ..) (small_one h1 h2 h3 h4) ?_
 have I1:Inv X pins σ H { s with heap:=s.heap.push { cls:=.type "range",data:=.fields #[.int lo t,.int hi u,.int 1 v] },toks:=tk }:=I.kept fun b o e=>Heap.get?_push_of_some _ e
 refine ⟨(s.heap.push { cls:=.type "range",data:=.fields #[.int lo t,.int hi u,.int 1 v] }).objs.size,[(s.heap.push { cls:=.type "range",data:=.fields #[.int lo t,.int hi u,.int 1 v] }).objs.size],_,_,H,rfl,
  I1.kept (t':=tk) fun b o e=>Heap.get?_push_of_some _ e,jla _ lo (hi - lo).toNat,?_,fun b hb=>?_,q⟩
 ·have e1:lo + ((0:Nat):Int) * 1 = lo:=by simp
  have e2:(((hi - lo).toNat:Nat):Int) - ((0:Nat):Int) = Builtin.Range.rangeSize lo hi 1:=by rw [rangeSize_one]; split <;> omega
  show IsRangeIter _ _ (lo + ((0:Nat):Int) * 1) ((((hi - lo).toNat:Nat):Int) - ((0:Nat):Int)) 1
  rw [e1,e2]
  exact Heap.get?_push_size _ rfl
 ·have e:b = (s.heap.push { cls:=.type "range",data:=.fields #[.int lo t,.int hi u,.int 1 v] }).objs.size:=by simpa using hb
  subst e
  exact I1.fpOk (Nat.le_refl _) (I1.hok.fresh (Nat.le_refl _))
def jhm (ta:TA):TI:=fun σ H R=>ta σ H fun vs H1=>∃ j:Int,vs = [.int j]∧-(2 ^ 62) ≤ j∧j < 2 ^ 62∧R (Itr 0 j.toNat) H1
def iRng2 (ta:TA):TI:=fun σ H R=>ta σ H fun vs H1=>∃ i j:Int,vs = [.int i,.int j]∧(-(2 ^ 62) ≤ i∧i < 2 ^ 62∧-(2 ^ 62) ≤ j∧j < 2 ^ 62)∧R (Itr i (j - i).toNat) H1
theorem jc6 {a:Expr} {ta:TA} {p pos:Pos} (hg:Gl X "range") (hm:X.mg "range" = none) (ha:PA X [a] ta) (hs:starEach [a] X.env = [(false,eval a X.env)]:=by rfl):PI X tg (.Call (.Name "range" p) [a] [] pos) (jhm ta):=by
 intro pins s σ H R I h
 refine Call_ (je5 I hg hm boot_range (PyProof.Rows.callWith_type1 (thn (ha pos pins s σ H _ I h) fun us s1 ⟨vs,H1,I1,r1,q1⟩=>?_) hs rfl))
 obtain ⟨j,e,q1,q2,q⟩:=q1
 subst e
 cases r1 with
 | cons r rr =>
  cases rr
  obtain ⟨t,rfl⟩:=r
  exact call_range_1 (jki I1 (by omega) (by omega) q1 q2 (by simpa using q))
theorem jmr {a b:Expr} {ta:TA} {p pos:Pos} (hg:Gl X "range") (hm:X.mg "range" = none) (ha:PA X [a,b] ta) (hs:starEach [a,b] X.env = [(false,eval a X.env),(false,eval b X.env)]:=by rfl) (hs2:starEach [b] X.env = [(false,eval b X.env)]:=by rfl) :
  PI X tg (.Call (.Name "range" p) [a,b] [] pos) (iRng2 ta):=by
 intro pins s σ H R I h
 refine Call_ (je5 I hg hm boot_range (PyProof.Rows.callWith_type1 (thn (ha pos pins s σ H _ I h) fun us s1 ⟨vs,H1,I1,r1,q1⟩=>?_) (by rw [hs,hs2]) (by rw [hs2]; rfl)))
 obtain ⟨i,j,e,⟨q1,q2,q3,q4⟩,q⟩:=q1
 subst e
 cases r1 with
 | cons r rr =>
  cases rr with
  | cons r' rr =>
   cases rr
   obtain ⟨t,rfl⟩:=r
   obtain ⟨t',rfl⟩:=r'
   exact call_range_2 (jki I1 q1 q2 q3 q4 q)
def tFor (wi:TI) (g:TG) (tb:TS):TS:=fun D σ H=>wi σ H fun J H1=>∃ W:Nat→Nat→St→Hp→Prop,(∃ m,W 0 m σ H1)∧∀ i m σ H,W i m σ H →
 (J.stop i H∧D.nx σ H) ∨ (J.go i H∧∃ N:St→Hp→Prop,(∀ σ' H',N σ' H'→∃ m',m' < m∧W (i + 1) m' σ' H')∧∀ x H',J.yld i H x H'→g x σ H' fun σ2 H2=>tb { D with nx:=N,ct:=N,bk:=D.nx } σ2 H2)
def jih (fp:List Addr) (h:Heap):List (Addr × Obj):=fp.filterMap fun b=>(h.get? b).map fun o=>(b,o)
theorem jdg {fp:List Addr} {h:Heap} {b:Addr} {o:Obj} (hb:b ∈ fp) (e:h.get? b = some o):(b,o) ∈ jih fp h:=List.mem_filterMap.mpr ⟨b,hb,by rw [e]; rfl⟩
theorem jn2 {fp:List Addr} {h:Heap} {p:Addr × Obj} (hp:p ∈ jih fp h):p.1 ∈ fp∧h.get? p.1 = some p.2:=by
 obtain ⟨b,hb,e⟩:=List.mem_filterMap.mp hp
 cases q:h.get? b with
 | none=>rw [q] at e; cases e
 | some o =>
  rw [q] at e
  have e':(b,o) = p:=Option.some.inj e
  subst e'
  exact ⟨hb,q⟩
theorem Inv.pinned {pins:List (Addr × Obj)} {σ:St} {H:Hp} {s:Shared} {fp:List Addr} (I:Inv X pins σ H s) (hf:∀ b ∈ fp,FpOk X pins H b) (ho:∀ b ∈ fp,∃ o,s.heap.get? b = some o∧∀ v,o.data ≠ .cell v):Inv X (pins ++ jih fp s.heap) σ H s :=
 I.pins_of fun p hp=>(List.mem_append.mp hp).elim (fun z=>I.pin p (List.mem_append_right _ z)) fun z=>by
  obtain ⟨hb,e⟩:=jn2 z
  obtain ⟨f0,f1,f2,_⟩:=hf p.1 hb
  obtain ⟨o,e',d⟩:=ho p.1 hb
  rw [e] at e'; cases e'
  exact ⟨e,f0,f1,f2,d⟩
theorem Inv.unpinned {pins pl:List (Addr × Obj)} {σ:St} {H:Hp} {s:Shared} (I:Inv X (pins ++ pl) σ H s):Inv X pins σ H s:=I.pins_of fun p hp=>I.pin p (List.mem_append_right _ (List.mem_append_left _ hp))
theorem jce {iter:Expr} {body:List Stmt} {wi:TI} {g:TG} {tb:TS} {pos:Pos} (hp:PassesOwn (model X.prog X.w) X.A X.env X.xe) (hc:X.calm = true) (hi:PI X tg iter wi) (hg:PG X tg g) (hb:PSs X body tb)
  (hs:∀ x,foldedSetIterable iter X.env x = pure x:=by intro _; rfl):PS X (.For tg iter body [] pos) (tFor wi g tb):=by
 intro pins s σ H D I h
 refine wpAny_For (thn (hi pins s σ H _ I h) fun v s1 h1=>thn h1 fun itv s2 h2=>?_) hs
 obtain ⟨it,fp,tn,J,H2,e,I2,T,st2,f2,W,⟨m0,w0⟩,turn⟩:=h2
 subst e
  -- what stays true of the iterator's objects through the loop
 have stat:∀ {H':Hp},(∀ b ∈ fp,H' b = none)→∀ b ∈ fp,FpOk X pins H' b:=fun hn b hb=>⟨hn b hb,(f2 b hb).2⟩
 refine codeAny_forLoop_any (fun n s'=>∃ i σ' H',Inv X pins σ' H' s'∧tn i s'.heap∧(∀ b ∈ fp,H' b = none)∧W i n σ' H') ?_ m0 ⟨0,σ,H2,I2,st2,fun b hb=>(f2 b hb).1,w0⟩
 rintro n s3 ⟨i,σ3,H3,I3,st3,fr3,w3⟩
 rcases turn i n σ3 H3 w3 with ⟨stop,qn⟩ | ⟨go,N,hN,step⟩
 ·refine wpAny_passesOwn hp (thn (T.done X rfl rfl rfl hc i pins s3 σ3 H3 X.xe I3 (stat fr3) st3 stop) fun r s4 ⟨hr,I4⟩=>?_)
  subst hr
  exact wpAny_execs_nil ⟨σ3,H3,I4,qn⟩
 ·refine wpAny_passesOwn hp (thn (T.item X rfl rfl rfl hc i pins s3 σ3 H3 X.xe I3 (stat fr3) st3 go) fun r s4 ⟨u,hr,h4⟩=>?_)
  subst hr
  refine wpAny_passesOwn hp (thn h4 fun _ s5 ⟨x,H5,I5,r5,y5,st5,fr5⟩=>?_)
  have I5':=I5.pinned (stat fr5) (T.obj _ _ st5)
  refine wpAny_passesOwn hp (thn (hg _ s5 σ3 H5 x u _ I5' r5 (step x H5 y5)) fun _ s6 ⟨σ6,H6,I6,q6⟩=>?_)
  refine wpAny_passesOwn hp (thn (hb _ s6 σ6 H6 _ I6 q6) fun f s7 q7=>?_)
  have again:∀ {σ7:St} {H7:Hp},Inv X (pins ++ jih fp s5.heap) σ7 H7 s7→N σ7 H7→∃ m,m < n∧∃ i σ' H',Inv X pins σ' H' s7∧tn i s7.heap∧(∀ b ∈ fp,H' b = none)∧W i m σ' H':=fun {σ7 H7} I7 n7=>by
   obtain ⟨m',hm,w7⟩:=hN σ7 H7 n7
   refine ⟨m',hm,i + 1,σ7,H7,I7.unpinned,T.keep _ _ _ st5 fun b hb o e=>(I7.pin (b,o) (List.mem_append_right _ (List.mem_append_right _ (jdg hb e)))).1,fun b hb=>?_,w7⟩
   obtain ⟨o,e,d⟩:=T.obj _ _ st5 b hb
   exact (I7.pin (b,o) (List.mem_append_right _ (List.mem_append_right _ (jdg hb e)))).2.1
  cases f with
  | next=>obtain ⟨σ7,H7,I7,n7⟩:=q7; exact again I7 n7
  | cont=>obtain ⟨σ7,H7,I7,n7⟩:=q7; exact again I7 n7
  | brk=>obtain ⟨σ7,H7,I7,q7⟩:=q7; exact ⟨σ7,H7,I7.unpinned,q7⟩
  | ret v=>obtain ⟨x7,σ7,H7,I7,r7,q7⟩:=q7; exact ⟨x7,σ7,H7,I7.unpinned,r7,q7⟩
end
theorem jea {K:PySem.W.Frag} {a:Addr} {xs:List V} {g:TG} {tb:TS} {D:Ends} {σ:St} {H:Hp} (Pv:Nat→St→Hp→Prop) (h0:Pv 0 σ H) (hl:∀ i σ H,i ≤ xs.length→Pv i σ H→SqL K H a xs)
  (hs:∀ i x σ H,xs[i]? = some x→Pv i σ H→g x σ H fun σ2 H2=>tb { D with nx:=Pv (i + 1),ct:=Pv (i + 1),bk:=D.nx } σ2 H2) (hd:∀ σ H,Pv xs.length σ H→D.nx σ H) :
  ∃ W:Nat→Nat→St→Hp→Prop,(∃ m,W 0 m σ H)∧∀ i m σ H,W i m σ H →
   ((Itl K a).stop i H∧D.nx σ H) ∨ ((Itl K a).go i H∧∃ N:St→Hp→Prop,(∀ σ' H',N σ' H'→∃ m',m' < m∧W (i + 1) m' σ' H')∧∀ x H',(Itl K a).yld i H x H'→g x σ H' fun σ2 H2=>tb { D with nx:=N,ct:=N,bk:=D.nx } σ2 H2):=by
 refine ⟨fun i m σ H=>m = xs.length - i∧i ≤ xs.length∧Pv i σ H,⟨xs.length,by simp,Nat.zero_le _,h0⟩,?_⟩
 rintro i m σ H ⟨rfl,hi,p⟩
 have q:=hl i σ H hi p
 by_cases hlt:i < xs.length
 ·refine .inr ⟨⟨xs,xs[i],q,by simp [hlt]⟩,Pv (i + 1),fun σ' H' p'=>⟨xs.length - (i + 1),by omega,rfl,hlt,p'⟩,fun x H' y=>?_⟩
  obtain ⟨e,y⟩:=y
  subst e
  exact hs i x σ _ (y xs q) p
 ·have e:i = xs.length:=by omega
  subst e
  exact .inl ⟨⟨xs,q,Nat.le_refl _⟩,hd σ H p⟩
theorem jcg {lo:Int} {n:Nat} {g:TG} {tb:TS} {D:Ends} {σ:St} {H:Hp} (Pv:Nat→St→Hp→Prop) (h0:Pv 0 σ H)
  (hs:∀ i σ H,i < n→Pv i σ H→g (.int (lo + i)) σ H fun σ2 H2=>tb { D with nx:=Pv (i + 1),ct:=Pv (i + 1),bk:=D.nx } σ2 H2) (hd:∀ σ H,Pv n σ H→D.nx σ H) :
  ∃ W:Nat→Nat→St→Hp→Prop,(∃ m,W 0 m σ H)∧∀ i m σ H,W i m σ H →
   ((Itr lo n).stop i H∧D.nx σ H) ∨ ((Itr lo n).go i H∧∃ N:St→Hp→Prop,(∀ σ' H',N σ' H'→∃ m',m' < m∧W (i + 1) m' σ' H')∧∀ x H',(Itr lo n).yld i H x H'→g x σ H' fun σ2 H2=>tb { D with nx:=N,ct:=N,bk:=D.nx } σ2 H2):=by
 refine ⟨fun i m σ H=>m = n - i∧i ≤ n∧Pv i σ H,⟨n,by simp,Nat.zero_le _,h0⟩,?_⟩
 rintro i m σ H ⟨rfl,hi,p⟩
 by_cases hlt:i < n
 ·refine .inr ⟨hlt,Pv (i + 1),fun σ' H' p'=>⟨n - (i + 1),by omega,rfl,hlt,p'⟩,fun x H' y=>?_⟩
  obtain ⟨e,y⟩:=y
  subst e y
  exact hs i σ _ hlt p
 ·have e:i = n:=by omega
  subst e
  exact .inl ⟨Nat.le_refl _,hd σ H p⟩
end L2
namespace L2
open PySem PySem.Spec PyProof.Rows
abbrev R2:=V→V→Hp→VK→Prop
def OpR (X:Cx) (f:Value→Value→Sem Value) (r:R2):Prop :=
 ∀ (pins:List (Addr × Obj)) (s:Shared) (σ:St) (H:Hp) (x y:V) (v u:Value) (Q:VK),Inv X pins σ H s→RelV x v→RelV y u→r x y H Q →
  wpAny (model X.prog X.w) X.A (f v u) (EP X pins σ Q) X.xe s
def UnR (X:Cx) (f:Value→Sem Value) (r:V→Hp→VK→Prop):Prop :=
 ∀ (pins:List (Addr × Obj)) (s:Shared) (σ:St) (H:Hp) (x:V) (v:Value) (Q:VK),Inv X pins σ H s→RelV x v→r x H Q →
  wpAny (model X.prog X.w) X.A (f v) (EP X pins σ Q) X.xe s
def jch (X:Cx) (f:Value) (r:List V→Hp→VK→Prop):Prop :=
 ∀ (pins:List (Addr × Obj)) (s:Shared) (σ:St) (H:Hp) (xs:List V) (us:List Value) (Q:VK),Inv X pins σ H s→Vals xs us→r xs H Q →
  wpAny (model X.prog X.w) X.A (call f us) (EP X pins σ Q) X.xe s
def tOp (r:R2) (ta tb:TE):TE:=fun σ H Q=>ta σ H fun x H1=>tb σ H1 fun y H2=>r x y H2 Q
def tUn (r:V→Hp→VK→Prop) (ta:TE):TE:=fun σ H Q=>ta σ H fun x H1=>r x H1 Q
def rI (C:Int→Int→Prop) (g:Int→Int→V):R2:=fun x y H Q=>∃ i j,x = .int i∧y = .int j∧C i j∧Q (g i j) H
def rI0 (g:Int→Int→V):R2:=fun x y H Q=>∃ i j,x = .int i∧y = .int j∧Q (g i j) H
def rU (g:Int→V):V→Hp→VK→Prop:=fun x H Q=>∃ i,x = .int i∧Q (g i) H
section
variable {X:Cx} {a b c:Expr} {ta tb tc:TE} {pos:Pos}
theorem binT (ha:PE X a ta) (hb:PE X b tb) {pins:List (Addr × Obj)} {s:Shared} {σ:St} {H:Hp} {R:V→V→Hp→Prop} (I:Inv X pins σ H s)
  (h:ta σ H fun x H1=>tb σ H1 fun y H2=>R x y H2) {Q:Value→Shared→Prop} {f:Value→Value→Sem Value}
  (hf:∀ v u s2 x y H2,Inv X pins σ H2 s2→RelV x v→RelV y u→R x y H2→wpAny (model X.prog X.w) X.A (f v u) Q X.xe s2) :
  wpAny (model X.prog X.w) X.A (eval a X.env) (fun v s₁=>wpAny (model X.prog X.w) X.A (eval b X.env) (fun u s₂=>wpAny (model X.prog X.w) X.A (f v u) Q X.xe s₂) X.xe s₁) X.xe s:=by
 refine thn (ha pins s σ H _ I h) fun v s1 ⟨x,H1,I1,r1,q1⟩=>?_
 refine thn (hb pins s1 σ H1 _ I1 q1) fun u s2 ⟨y,H2,I2,r2,q2⟩=>?_
 exact hf v u s2 x y H2 I2 r1 r2 q2
theorem jap {op:Operator} {r:R2} (ho:OpR X (binaryOp op) r) (ha:PE X a ta) (hb:PE X b tb):PE X (.BinOp a op b pos) (tOp r ta tb):=by
 intro pins s σ H Q I h
 exact wpAny_BinOp (binT ha hb I h fun v u s2 x y H2 I2 rx ry q=>ho pins s2 σ H2 x y v u Q I2 rx ry q)
theorem je3 {op:UnaryOp} {r:V→Hp→VK→Prop} (ho:UnR X (unaryOp op) r) (ha:PE X a ta):PE X (.UnaryOp op a pos) (tUn r ta):=by
 intro pins s σ H Q I h
 exact UnaryOp_ (thn (ha pins s σ H _ I h) fun v s1 ⟨x,H1,I1,r1,q1⟩=>ho pins s1 σ H1 x v Q I1 r1 q1)
theorem opI {f:Value→Value→Sem Value} {C:Int→Int→Prop} {g:Int→Int→Int}
  (rule:∀ (i j:Int) (t u:Tok) (s:Shared) (Q:Value→Shared→Prop) (E:Value→Shared→Prop),C i j→Q (.int (g i j) s.toks) { s with toks:=s.toks + 1 }→wpAny (model X.prog X.w) X.A (f (.int i t) (.int j u)) Q E s) :
  OpR X f (rI C fun i j=>.int (g i j)):=by
 intro pins s σ H x y v u Q I rx ry h
 obtain ⟨i,j,rfl,rfl,hc,q⟩:=h
 obtain ⟨t,rfl⟩:=rx
 obtain ⟨t',rfl⟩:=ry
 exact rule i j t t' s _ _ hc ⟨.int (g i j),H,I.tok _,⟨_,rfl⟩,q⟩
theorem opI0 {f:Value→Value→Sem Value} {g:Int→Int→Int}
  (rule:∀ (i j:Int) (t u:Tok) (s:Shared) (Q:Value→Shared→Prop) (E:Value→Shared→Prop),Q (.int (g i j) s.toks) { s with toks:=s.toks + 1 }→wpAny (model X.prog X.w) X.A (f (.int i t) (.int j u)) Q E s) :
  OpR X f (rI0 fun i j=>.int (g i j)):=by
 intro pins s σ H x y v u Q I rx ry h
 obtain ⟨i,j,rfl,rfl,q⟩:=h
 obtain ⟨t,rfl⟩:=rx
 obtain ⟨t',rfl⟩:=ry
 exact rule i j t t' s _ _ ⟨.int (g i j),H,I.tok _,⟨_,rfl⟩,q⟩
theorem opB0 {f:Value→Value→Sem Value} {g:Int→Int→Bool}
  (rule:∀ (i j:Int) (t u:Tok) (s:Shared) (Q:Value→Shared→Prop) (E:Value→Shared→Prop),Q (.bool (g i j)) s→wpAny (model X.prog X.w) X.A (f (.int i t) (.int j u)) Q E s) :
  OpR X f (rI0 fun i j=>.bl (g i j)):=by
 intro pins s σ H x y v u Q I rx ry h
 obtain ⟨i,j,rfl,rfl,q⟩:=h
 obtain ⟨t,rfl⟩:=rx
 obtain ⟨t',rfl⟩:=ry
 exact rule i j t t' s _ _ ⟨.bl (g i j),H,I,rfl,q⟩
def CDiv (i j:Int):Prop:=0 < j∧j < 1073741824
def CPow (i j:Int):Prop:=0 ≤ j∧j ≤ 1000000∧i.natAbs < 2 ^ 64
def CMul (i j:Int):Prop:=(-(2 ^ 64) < i∧i < 2 ^ 64) ∨ (-(2 ^ 64) < j∧j < 2 ^ 64)
theorem CMul.ok {i j:Int} (h:CMul i j):IntMulOk i j:=by
 rcases h with ⟨h1,h2⟩ | ⟨h1,h2⟩
 ·exact .of_left (intBits_le_64 h1 h2)
 ·exact .of_right (intBits_le_64 h1 h2)
theorem op_add:OpR X (binaryOp .Add) (rI0 fun i j=>.int (i + j)):=opI0 fun _ _ _ _ _ _ _ q=>add_int q
theorem op_sub:OpR X (binaryOp .Sub) (rI0 fun i j=>.int (i - j)):=opI0 fun _ _ _ _ _ _ _ q=>sub_int q
theorem op_mul:OpR X (binaryOp .Mult) (rI CMul fun i j=>.int (i * j)):=opI fun _ _ _ _ _ _ _ hc q=>mul_int q hc.ok
theorem jqu:OpR X (binaryOp .FloorDiv) (rI CDiv fun i j=>.int (i / j)):=opI fun i j _ _ _ _ _ hc q=>by
 have h1:(0:Int) < j:=hc.1
 have h2:j < 1073741824:=hc.2
 exact floordiv_int (by omega) (by rw [Int.fdiv_eq_ediv_of_nonneg i (by omega)]; exact q) (.inl (PyProof.noPylong_small (by omega)))
theorem op_mod:OpR X (binaryOp .Mod) (rI (fun _ j=>0 < j) fun i j=>.int (i % j)):=opI fun i j _ _ _ _ _ hc q=>by
 have h1:(0:Int) < j:=hc
 exact mod_int' (by omega) (by rw [Int.fmod_eq_emod_of_nonneg i (by omega)]; exact q)
theorem op_pow:OpR X (binaryOp .Pow) (rI CPow fun i j=>.int (i ^ j.toNat)):=opI fun _ _ _ _ _ _ _ hc q=>pow_int_small hc.1 hc.2.1 hc.2.2 q
theorem jr0:OpR X (inplaceOp .Add) (rI0 fun i j=>.int (i + j)):=opI0 fun _ _ _ _ _ _ _ q=>iadd_int q
theorem unI {f:Value→Sem Value} {g:Int→Int}
  (rule:∀ (i:Int) (t:Tok) (s:Shared) (Q:Value→Shared→Prop) (E:Value→Shared→Prop),Q (.int (g i) s.toks) { s with toks:=s.toks + 1 }→wpAny (model X.prog X.w) X.A (f (.int i t)) Q E s) :
  UnR X f (rU fun i=>.int (g i)):=by
 intro pins s σ H x v Q I rx h
 obtain ⟨i,rfl,q⟩:=h
 obtain ⟨t,rfl⟩:=rx
 exact rule i t s _ _ ⟨.int (g i),H,I.tok _,⟨_,rfl⟩,q⟩
theorem un_neg:UnR X (unaryOp .USub) (rU fun i=>.int (-i)):=unI fun _ _ _ _ _ q=>neg_int q
end
def scal:V→V→Bool
 | .non,.non=>true | .non,.int _=>true | .int _,.non=>true | .non,.bl _=>true | .bl _,.non=>true | .non,.str _=>true | .str _,.non=>true
 | .int _,.int _=>true | .bl _,.bl _=>true | .str _,.str _=>true | .byt _,.byt _=>true
 | .int _,.str _=>true | .str _,.int _=>true | .bl _,.str _=>true | .str _,.bl _=>true
 | _,_=>false
def rEq:R2:=fun x y H Q=>scal x y = true∧Q (.bl (decide (x = y))) H
def rNe:R2:=fun x y H Q=>scal x y = true∧Q (.bl (!decide (x = y))) H
theorem jnv {i j:Int}:decide (V.int i = V.int j) = (i == j):=by
 rw [Bool.eq_iff_iff]
 simp
theorem jqh {i j:Bool}:decide (V.bl i = V.bl j) = (i == j):=by
 rw [Bool.eq_iff_iff]
 simp
theorem jnu {i j:Str}:decide (V.str i = V.str j) = (i == j):=by
 rw [Bool.eq_iff_iff]
 simp
theorem jnw {i j:Array UInt8}:decide (V.byt i = V.byt j) = (i.toList == j.toList):=by
 rw [Bool.eq_iff_iff]
 cases i
 cases j
 simp
section
variable {X:Cx} {a b c:Expr} {ta tb tc:TE} {pos:Pos}
theorem jay {pins:List (Addr × Obj)} {σ:St} {H:Hp} {s:Shared} {Q:VK} {k k':Bool} (I:Inv X pins σ H s) (q:Q (.bl k) H) (e:k = k'):EP X pins σ Q (.bool k') s:=by
 subst e
 exact ⟨.bl k,H,I,rfl,q⟩
theorem op_eq:OpR X (compareOp .Eq) rEq:=by
 intro pins s σ H x y v u Q I rx ry h
 obtain ⟨hs,q⟩:=h
 cases x with
 | non =>
  cases rx
  cases y with
  | non=>cases ry; exact PySem.EqNone.eq_none_none (jay I q (by simp))
  | bl j=>cases ry; exact PySem.EqNone.eq_none_bool (jay I q (by simp))
  | int j=>obtain ⟨t',rfl⟩:=ry; exact PySem.EqNone.eq_none_int (jay I q (by simp))
  | str j=>obtain ⟨t',rfl⟩:=ry; exact PySem.EqNone.eq_none_str (jay I q (by simp))
  | _=>exact absurd (show false = true from hs) Bool.false_ne_true
 | bl i =>
  cases rx
  cases y with
  | non=>cases ry; exact PySem.EqNone.eq_bool_none (jay I q (by simp))
  | bl j=>cases ry; exact eq_bool (jay I q jqh)
  | str j=>obtain ⟨t',rfl⟩:=ry; exact PySem.EqMixed.eq_bool_str (jay I q (by simp))
  | _=>exact absurd (show false = true from hs) Bool.false_ne_true
 | int i =>
  obtain ⟨t,rfl⟩:=rx
  cases y with
  | non=>cases ry; exact PySem.EqNone.eq_int_none (jay I q (by simp))
  | int j=>obtain ⟨t',rfl⟩:=ry; exact eq_int (jay I q jnv)
  | str j=>obtain ⟨t',rfl⟩:=ry; exact PySem.EqMixed.eq_int_str (jay I q (by simp))
  | _=>exact absurd (show false = true from hs) Bool.false_ne_true
 | str i =>
  obtain ⟨t,rfl⟩:=rx
  cases y with
  | non=>cases ry; exact PySem.EqNone.eq_str_none (jay I q (by simp))
  | bl j=>cases ry; exact PySem.EqMixed.eq_str_bool (jay I q (by simp))
  | int j=>obtain ⟨t',rfl⟩:=ry; exact PySem.EqMixed.eq_str_int (jay I q (by simp))
  | str j=>obtain ⟨t',rfl⟩:=ry; exact eq_str (jay I q jnu)
  | _=>exact absurd (show false = true from hs) Bool.false_ne_true
 | byt i =>
  obtain ⟨t,rfl⟩:=rx
  cases y with
  | byt j=>obtain ⟨t',rfl⟩:=ry; exact PySem.W.eq_bytes (jay I q jnw)
  | _=>exact absurd (show false = true from hs) Bool.false_ne_true
 | _=>cases y <;> exact absurd (show false = true from hs) Bool.false_ne_true
theorem op_ne:OpR X (compareOp .NotEq) rNe:=by
 intro pins s σ H x y v u Q I rx ry h
 obtain ⟨hs,q⟩:=h
 cases x with
 | non =>
  cases rx
  cases y with
  | non=>cases ry; exact PySem.EqNone.ne_none_none (jay I q (by simp))
  | bl j=>cases ry; exact PySem.EqNone.ne_none_bool (jay I q (by simp))
  | int j=>obtain ⟨t',rfl⟩:=ry; exact PySem.EqNone.ne_none_int (jay I q (by simp))
  | str j=>obtain ⟨t',rfl⟩:=ry; exact PySem.EqNone.ne_none_str (jay I q (by simp))
  | _=>exact absurd (show false = true from hs) Bool.false_ne_true
 | bl i =>
  cases rx
  cases y with
  | non=>cases ry; exact PySem.EqNone.ne_bool_none (jay I q (by simp))
  | bl j=>cases ry; exact ne_bool (jay I q (congrArg not jqh))
  | str j=>obtain ⟨t',rfl⟩:=ry; exact PySem.EqMixed.ne_bool_str (jay I q (by simp))
  | _=>exact absurd (show false = true from hs) Bool.false_ne_true
 | int i =>
  obtain ⟨t,rfl⟩:=rx
  cases y with
  | non=>cases ry; exact PySem.EqNone.ne_int_none (jay I q (by simp))
  | int j=>obtain ⟨t',rfl⟩:=ry; exact ne_int (jay I q (congrArg not jnv))
  | str j=>obtain ⟨t',rfl⟩:=ry; exact PySem.EqMixed.ne_int_str (jay I q (by simp))
  | _=>exact absurd (show false = true from hs) Bool.false_ne_true
 | str i =>
  obtain ⟨t,rfl⟩:=rx
  cases y with
  | non=>cases ry; exact PySem.EqNone.ne_str_none (jay I q (by simp))
  | bl j=>cases ry; exact PySem.EqMixed.ne_str_bool (jay I q (by simp))
  | int j=>obtain ⟨t',rfl⟩:=ry; exact PySem.EqMixed.ne_str_int (jay I q (by simp))
  | str j=>obtain ⟨t',rfl⟩:=ry; exact ne_str (jay I q (congrArg not jnu))
  | _=>exact absurd (show false = true from hs) Bool.false_ne_true
 | byt i =>
  obtain ⟨t,rfl⟩:=rx
  cases y with
  | byt j=>obtain ⟨t',rfl⟩:=ry; exact PySem.W.ne_bytes (jay I q (congrArg not jnw))
  | _=>exact absurd (show false = true from hs) Bool.false_ne_true
 | _=>cases y <;> exact absurd (show false = true from hs) Bool.false_ne_true
theorem op_lt:OpR X (compareOp .Lt) (rI0 fun i j=>.bl (decide (i < j))):=opB0 fun _ _ _ _ _ _ _ q=>lt_int q
theorem op_le:OpR X (compareOp .LtE) (rI0 fun i j=>.bl (decide (i ≤ j))):=opB0 fun _ _ _ _ _ _ _ q=>le_int q
theorem op_gt:OpR X (compareOp .Gt) (rI0 fun i j=>.bl (decide (j < i))):=opB0 fun _ _ _ _ _ _ _ q=>gt_int q
theorem op_ge:OpR X (compareOp .GtE) (rI0 fun i j=>.bl (decide (j ≤ i))):=opB0 fun _ _ _ _ _ _ _ q=>ge_int q
theorem jaj (b:Expr) {op:CmpOp} (h:op ≠ .In:=by decide) (h2:op ≠ .NotIn:=by decide):behindInMarks op b = false:=by
 have e1:(op == CmpOp.In) = false:=by cases op <;> first | rfl | exact absurd rfl h
 have e2:(op == CmpOp.NotIn) = false:=by cases op <;> first | rfl | exact absurd rfl h2
 cases b <;> simp [behindInMarks,e1,e2]
theorem jbx {op:CmpOp} {r:R2} (ho:OpR X (compareOp op) r) (ha:PE X a ta) (hb:PE X b tb) (hm:behindInMarks op b = false):PE X (.Compare a [op] [b] pos) (tOp r ta tb):=by
 intro pins s σ H Q I h
 exact wpAny_Compare1 (binT ha hb I h fun v u s2 x y H2 I2 rx ry q=>ho pins s2 σ H2 x y v u Q I2 rx ry q) hm
theorem jkt:(sizeLine:Nat) < 2 ^ 63:=by rw [sizeLine_eq]; decide
theorem jgw {x:V} {us:List Value} (r:Vals [x] us):∃ u,us = [u]∧RelV x u:=by
 cases r with
 | cons r1 r2=>cases r2; exact ⟨_,rfl,r1⟩
theorem vals2 {x y:V} {us:List Value} (r:Vals [x,y] us):∃ u w',us = [u,w']∧RelV x u∧RelV y w':=by
 cases r with
 | cons r1 r2 =>
  cases r2 with
  | cons r3 r4=>cases r4; exact ⟨_,_,rfl,r1,r3⟩
theorem jo7 (hc:X.calm = true):jch X (.builtin "max") (fun xs H Q=>∃ i j,xs = [.int i,.int j]∧Q (.int (if j > i then j else i)) H):=by
 intro pins s σ H xs us Q I r h
 obtain ⟨i,j,rfl,q⟩:=h
 obtain ⟨u,w',rfl,⟨t,rfl⟩,⟨t',rfl⟩⟩:=vals2 r
 refine max_two_ints (I.ok.hd hc) fun h' tk k=>⟨_,H,I.kept k,?_,q⟩
 by_cases hj:j > i
 ·rw [if_pos hj,if_pos hj]; exact ⟨_,rfl⟩
 ·rw [if_neg hj,if_neg hj]; exact ⟨_,rfl⟩
theorem jo5 (hc:X.calm = true):jch X (.builtin "min") (fun xs H Q=>∃ i j,xs = [.int i,.int j]∧Q (.int (if j < i then j else i)) H):=by
 intro pins s σ H xs us Q I r h
 obtain ⟨i,j,rfl,q⟩:=h
 obtain ⟨u,w',rfl,⟨t,rfl⟩,⟨t',rfl⟩⟩:=vals2 r
 refine min_two_ints (I.ok.hd hc) fun h' tk k=>⟨_,H,I.kept k,?_,q⟩
 by_cases hj:j < i
 ·rw [if_pos hj,if_pos hj]; exact ⟨_,rfl⟩
 ·rw [if_neg hj,if_neg hj]; exact ⟨_,rfl⟩
end
end L2
namespace L2
open PySem PySem.Spec PyProof.Rows
structure ObjM (h:Heap) (x dx C:Addr) (mA:Str→Option Value):Prop where
 obj:h.get? x = some (PySem.W.instObj C dx)
 ns:h.Ns1 dx mA
 ne:dx ≠ x
theorem jn9 {h:Heap} {dx:Addr} {mA:Str→Option Value} (n:h.Ns1 dx mA):∃ od,h.get? dx = some od∧∀ name,PySem.W.lookIn name od = some (mA name):=by
 obtain ⟨o,es,ep,ho,hd,hk,_,hm⟩:=n
 refine ⟨o,ho,fun name=>?_⟩
 have e:=hm name
 unfold nsFind findBy at e
 rw [← Array.find?_toList] at e
 unfold PySem.W.lookIn
 rw [hd]
 dsimp only
 split
 ·rename_i y q
  rw [q] at e
  exact congrArg some e
 ·rename_i q
  rw [q] at e
  have a:es.toList.any (·.refKey) = false:=by
   rw [List.any_eq_false]
   intro y hy
   obtain ⟨z,t,hkey⟩:=hk y (Array.mem_toList_iff.mp hy)
   simp [DictEntry.refKey,hkey]
  have a':¬ es.toList.any (·.refKey) = true:=by rw [a]; exact Bool.false_ne_true
  rw [if_neg a']
  exact congrArg some e
theorem ObjM.look {h:Heap} {x dx C:Addr} {mA:Str→Option Value} (I:ObjM h x dx C mA):∃ od,PySem.W.InstAt h x (PySem.W.instObj C dx) C (some od)∧∀ name,PySem.W.lookIn name od = some (mA name) :=
 let ⟨od,ho,hl⟩:=jn9 I.ns
 ⟨od,⟨I.obj,rfl,rfl,ho⟩,hl⟩
section
variable {prog:Program} {w:World} {A:Around} {E:Value→Shared→Prop} {s:Shared} {K:PySem.W.Frag} {x dx C f:Addr} {mA:Str→Option Value} {name:Str} {v:Value}
end
theorem RelO.some_of {v:V} {o:Option Value} (r:RelO (some v) o):∃ u,o = some u∧RelV v u:=by
 cases o with
 | none=>exact (show False from r).elim
 | some u=>exact ⟨u,rfl,r⟩
section
variable {P:Program} {w:World} {H H':Hp} {h h':Heap} {a C dx:Addr} {fs fs':List (Str × V)}
theorem jr1 (hok:HOk P w H h) (e:H a = some (.ins C dx fs)):∃ mA,ObjM h a dx C mA∧(∀ f,RelO (fs.lookup f) (mA f))∧PySem.Within mA (fs.map (·.1))∧fs.length ≤ 1000∧H dx = some (.own a):=by
 obtain ⟨d,z,ne,ob,mA,n,r,q⟩:=(show jbp P w H h a (.ins C dx fs) from hok a _ e)
 exact ⟨mA,⟨ob,n,ne⟩,r,q,z,d⟩
end
structure Cls (K:PySem.W.Frag) (C:Addr):Prop where
 pg:PySem.W.plainGet K C Str.empty = true
 hd:PySem.W.hasDictIn K C = true
 po:PySem.W.plainOver K C = true
 sa:PySem.W.findIn K (.ref C) "__setattr__" = some (some (.builtin "object.__setattr__"))
theorem Cls.get {K:PySem.W.Frag} {C:Addr} (c:Cls K C) (f:Str):PySem.W.plainGet K C f = true:=c.pg
section
variable {X:Cx} {pins:List (Addr × Obj)} {σ:St} {H:Hp} {s:Shared} {a C dx:Addr} {fs:List (Str × V)} {f:Str} {v:V} {A:Around} {E:Value→Shared→Prop}
end
section
variable {X:Cx} {o e value:Expr} {f:Str} {pos pos' tpos:Pos} {ta tv:TE}
end
section
variable {X:Cx} {pins:List (Addr × Obj)} {σ:St} {H:Hp} {s:Shared} {A:Around} {E:Value→Shared→Prop} {Q:Value→Shared→Prop} {c:Value} {b:Bool}
inductive TyOf (K:PySem.W.Frag) (H:Hp):V→Value→Prop where
 | non:TyOf K H .non (.type "NoneType")
 | bl (x:Bool):TyOf K H (.bl x) (.type "bool")
 | int (i:Int):TyOf K H (.int i) (.type "int")
 | str (x:Str):TyOf K H (.str x) (.type "str")
 | flt (x:UInt64):TyOf K H (.flt x) (.type "float")
 | lst {a:Addr} {xs:List V} (e:H a = some (.lst xs)):TyOf K H (.ref a) (.type "list")
 | frz {a:Addr} {o:Obj} {xs:List V} (e:H a = some (.frz o (.lst xs))):TyOf K H (.ref a) (.type "list")
 | tup {a:Addr} {xs:List V} (e:H a = some (.tup xs)):TyOf K H (.ref a) (.type "tuple")
 | dK {a:Addr} {kvs:List (Key × V)} (e:H a = some (.dK kvs)):TyOf K H (.ref a) (.type "dict")
 | dT {a:Addr} {kvs:List (List Key × V)} (e:H a = some (.dT kvs)):TyOf K H (.ref a) (.type "dict")
 | ins {a C dx:Addr} {fs:List (Str × V)} (e:H a = some (.ins C dx fs)) (cl:Cls K C) (ha:PySem.W.findIn K (.ref C) "__class__" = some (some (.builtin "object.__class__")))
   (hn:PySem.W.specialIn K (.builtin "object.__class__") "__get__" = some (some (.builtin "getset_descriptor.__get__"))) (htk:PySem.W.takesIn K (.builtin "object.__class__") = some true)
   (hm:PySem.W.mroIn K C (.type "object") = some true):TyOf K H (.ref a) (.ref C)
theorem jni {x:V} {u t:Value} (I:Inv X pins σ H s) (rx:RelV x u) (ty:TyOf X.K H x t) (e:PySem.W.kitOne X.K t c = some b) (h:∀ tk,Q (.bool b) { s with toks:=tk }) :
  wpAny (model X.prog X.w) A (call (.builtin "isinstance") [u,c]) Q E s:=by
 cases ty with
 | non=>cases (show u = Value.none from rx); exact PySem.W.kia_one PySem.W.kitx_none I.kIn True.intro e (fun z=>nomatch z) h
 | bl y=>cases (show u = Value.bool y from rx); exact PySem.W.kia_one PySem.W.kitx_bool I.kIn True.intro e (fun z=>nomatch z) h
 | int i=>obtain ⟨t,q⟩:=(show ∃ t,u = Value.int i t from rx); cases q; exact PySem.W.kia_one PySem.W.kitx_int I.kIn True.intro e (fun z=>nomatch z) h
 | str y=>obtain ⟨t,q⟩:=(show ∃ t,u = Value.str y t from rx); cases q; exact PySem.W.kia_one PySem.W.kitx_str I.kIn True.intro e (fun z=>nomatch z) h
 | flt y=>obtain ⟨t,q⟩:=(show ∃ t,u = Value.float y t from rx); cases q; exact PySem.W.kia_one PySem.W.kitx_float I.kIn True.intro e (fun z=>nomatch z) h
 | @lst a xs ea =>
  cases (show u = Value.ref a from rx)
  obtain ⟨_,_,n,_,h1⟩:=(show jbp X.prog X.w H s.heap a (.lst xs) from I.hok a _ ea)
  exact PySem.W.kia_one PySem.W.kitx_list I.kIn ⟨_,h1,rfl⟩ e (fun z=>nomatch z) h
 | @frz a ob xs ea =>
  cases (show u = Value.ref a from rx)
  obtain ⟨_,_,_,n,_,h1⟩:=(show jbp X.prog X.w H s.heap a (.frz ob (.lst xs)) from I.hok a _ ea)
  exact PySem.W.kia_one PySem.W.kitx_list I.kIn ⟨_,h1,rfl⟩ e (fun z=>nomatch z) h
 | @tup a xs ea =>
  cases (show u = Value.ref a from rx)
  obtain ⟨_,_,_,p⟩:=(show jbp X.prog X.w H s.heap a (.tup xs) from I.hok a _ ea)
  obtain ⟨o,h1,h2,_⟩:=p
  exact PySem.W.kia_one PySem.W.kitx_tuple I.kIn ⟨o,h1,h2⟩ e (fun z=>nomatch z) h
 | @dK a kvs ea =>
  cases (show u = Value.ref a from rx)
  obtain ⟨_,_,vs,_,p⟩:=(show jbp X.prog X.w H s.heap a (.dK kvs) from I.hok a _ ea)
  obtain ⟨o,es,ep,h1,h2,_⟩:=p
  exact PySem.W.kia_one PySem.W.kitx_dict I.kIn ⟨o,h1,h2.1⟩ e (fun z=>nomatch z) h
 | @dT a kvs ea =>
  cases (show u = Value.ref a from rx)
  obtain ⟨_,_,xs,_,o,es,ep,h1,h2,_⟩:=(show jbp X.prog X.w H s.heap a (.dT kvs) from I.hok a _ ea)
  exact PySem.W.kia_one PySem.W.kitx_dict I.kIn ⟨o,h1,h2.1⟩ e (fun z=>nomatch z) h
 | @ins a C dx fs ea cl ha hn htk hm =>
  cases (show u = Value.ref a from rx)
  obtain ⟨mA,O,_⟩:=jr1 I.hok ea
  obtain ⟨od,J,_⟩:=O.look
  exact PySem.W.kia_one (PySem.W.kitx_own (cl.get _) cl.hd ha hn htk hm) I.kIn J e (fun z=>nomatch z) h
end
end L2
namespace L2
open PySem PySem.Spec PyProof.Rows
structure Room (k:Nat) (A:Around):Prop where
 hd:A.handled = none
 dp:A.depth + 3 * k + 5 < recursionLimit
 un:A.units + 16 * k + 200 < cLine
 gd:A.guards = some []
theorem Room.mono {j k:Nat} {A:Around} (r:Room k A) (h:j ≤ k):Room j A:=⟨r.hd,by have:=r.dp; omega,by have:=r.un; omega,by first | exact r.gd | (simp only [Around.deeper,Around.in1,Around.under]; exact r.gd)⟩
theorem Room.deeper {k:Nat} {A:Around} (r:Room (k + 1) A) (env:Env):Room k (A.deeper env) :=
 ⟨r.hd,by have:=r.dp; show A.depth + 1 + 3 * k + 5 < _; omega,by have:=r.un; show A.units + 3 + 16 * k + 200 < _; omega,by first | exact r.gd | (simp only [Around.deeper,Around.in1,Around.under]; exact r.gd)⟩
theorem Room.depth {k:Nat} {A:Around} (r:Room k A):A.depth < recursionLimit:=by have:=r.dp; omega
theorem Room.units {k:Nat} {A:Around} (r:Room k A):A.units + 64 < cLine:=by have:=r.un; omega
def tNil:TA:=fun _ H Q=>Q [] H
def jdw (ta:TE) (tr:TA):TA:=fun σ H Q=>ta σ H fun x H1=>tr σ H1 fun xs H2=>Q (x :: xs) H2
section
variable {X:Cx} {e:Expr} {es:List Expr} {te:TE} {t:TA} {pos:Pos}
theorem ja3:PA X [] tNil:=fun _ _ _ _ H Q I h=>Calls.spliced_nil ⟨[],H,I,.nil,h⟩
theorem ja0 (ha:PE X e te) (hr:PA X es t) (hs:starEach (e :: es) X.env = (false,eval e X.env) :: starEach es X.env:=by rfl):PA X (e :: es) (jdw te t):=by
 intro pos pins s σ H Q I h
 rw [hs]
 show wpAny _ _ (spliced ((false,eval e X.env) :: backTo pos (starEach es X.env))) _ _ s
 refine Calls.spliced_cons (thn (ha pins s σ H _ I h) fun u s1 ⟨x,H1,I1,r1,q1⟩=>?_)
 exact thn (hr pos pins s1 σ H1 _ I1 q1) fun us s2 ⟨xs,H2,I2,r2,q2⟩=>⟨x :: xs,H2,I2,.cons r1 r2,q2⟩
def tTup (t:TA):TE:=fun σ H Q=>t σ H fun xs H1=>xs.length ≤ sizeLine∧∀ p,H1 p = none→Q (.ref p) (upd H1 p (.tup xs))
def tLst (t:TA):TE:=fun σ H Q=>t σ H fun xs H1=>xs.length ≤ sizeLine∧∀ p,H1 p = none→Q (.ref p) (upd H1 p (.lst xs))
theorem jb7 {x1} (h:PA X es t):PE X (.Tuple es x1 pos) (tTup t):=by
 intro pins s σ H Q I hq
 refine wpAny_Tuple_spliced (thn (h pos pins s σ H _ I hq) fun us s1 ⟨xs,H1,I1,r,z,q⟩=>⟨by rw [← r.length]; exact z,?_⟩)
 have hf:H1 s1.heap.objs.size = none:=I1.hok.fresh (Nat.le_refl _)
 refine ⟨.ref s1.heap.objs.size,upd H1 s1.heap.objs.size (.tup xs),I1.laid (t':=s1.toks) (fun b u e=>Heap.get?_push_of_some _ e) (Nat.le_refl _) ?_,rfl,q _ hf⟩
 exact ⟨z,us,r,⟨_,Heap.get?_push_size _ rfl,rfl,_,rfl⟩⟩
theorem jc1 (h:PA X es t):PE X (.List es pos) (tLst t):=by
 intro pins s σ H Q I hq
 refine wpAny_List_spliced (thn (h pos pins s σ H _ I hq) fun us s1 ⟨xs,H1,I1,r,z,q⟩=>⟨by rw [← r.length]; exact z,?_⟩)
 have hf:H1 s1.heap.objs.size = none:=I1.hok.fresh (Nat.le_refl _)
 refine ⟨.ref s1.heap.objs.size,upd H1 s1.heap.objs.size (.lst xs),I1.laid (t':=s1.toks) (fun b u e=>Heap.get?_push_of_some _ e) (Nat.le_refl _) ?_,rfl,q _ hf⟩
 exact ⟨z,us,0,r,Heap.get?_push_size _ rfl⟩
end
abbrev Sp:=List V→Hp→VK→XK→Prop
abbrev CXT:=List Env→Hp→Shared→XK→Value→Shared→Prop
structure Env0 (P:Program) (w:World) (K:PySem.W.Frag) (mg:Str→Option Value) (base:Heap) (A:Around) (outer:List Env) (s:Shared) (H:Hp):Prop where
 frames:A.frames = some outer
 mod:Mod K mg base
 bs:∀ b o,base.get? b = some o→s.heap.get? b = some o∧H b = none
 bsz:base.objs.size ≤ s.heap.objs.size
 funs:s.heap.FunFrames base outer
 frf:∀ b ∈ frs outer,H b = none
 hok:HOk P w H s.heap
 bare:AllBare s.gens
def CE (outer:List Env) (P:Program) (w:World) (H:Hp) (s:Shared) (Q:VK) (u:Value) (s':Shared):Prop :=
 ∃ v H',s'.os = s.os∧AllBare s'.gens∧Un (frs outer) [] H H' s.heap s'.heap∧HOk P w H' s'.heap∧RelV v u∧Q v H'
def CR (CX:CXT) (outer:List Env) (P:Program) (w:World) (H:Hp) (s:Shared) (Q:VK) (E:XK) (r:Result) (s':Shared):Prop :=
 match r with
 | .ok (.ret u)=>CE outer P w H s Q u s'
 | .ok _=>False
 | .error e=>CX outer H s E e s'
structure FnOk (P:Program) (w:World) (K:PySem.W.Frag) (mg:Str→Option Value) (base:Heap) (CX:CXT) (k:Nat) (f:Addr) (fd:FuncData) (ps:List Str) (sp:Sp):Prop where
 len:∀ vs H Q E,sp vs H Q E→vs.length = ps.length
 run:∀ (A:Around) (outer:List Env) (s:Shared) (H:Hp) (args:Args) (us:List Value) (vs:List V) (Q:VK) (E:XK),Room k A→Env0 P w K mg base A outer s H→BindsTo s fd args (ps.zip us)→Vals vs us→sp vs H Q E →
  codeAny (model P w) A (.call (.ref f) args) (CR CX outer P w H s Q E) s
theorem FnOk.mono {P:Program} {w:World} {K:PySem.W.Frag} {mg:Str→Option Value} {base:Heap} {CX:CXT} {j k:Nat} {f:Addr} {fd:FuncData} {ps:List Str} {sp:Sp} (F:FnOk P w K mg base CX j f fd ps sp) (h:j ≤ k) :
  FnOk P w K mg base CX k f fd ps sp:=⟨F.len,fun A outer s H args us vs Q E hr=>F.run A outer s H args us vs Q E (hr.mono h)⟩
section
variable {X:Cx} {pins:List (Addr × Obj)} {σ:St} {H:Hp} {s s':Shared}
theorem Inv.env0 (I:Inv X pins σ H s):Env0 X.prog X.w X.K X.mg X.base X.A X.stack s H :=
 ⟨I.ok.frames,I.ok.mod,I.bs,Nat.le_trans I.ok.bsz I.sz,I.stack,I.stkFree,I.hok,I.bare⟩
theorem Inv.after {Q:VK} {u:Value} (I:Inv X pins σ H s) (h:CE X.stack X.prog X.w H s Q u s'):EP X pins σ Q u s':=by
 obtain ⟨v,H',os,bare,un,hok,r,q⟩:=h
 obtain ⟨hh,g,d,t,os'⟩:=s'
 obtain rfl:os' = s.os:=os
 exact ⟨v,H',I.call (h':=hh) (g':=g) (d':=d) (t':=t) (ch:=[]) un hok bare (fun b z=>absurd z (by simp)),r,q⟩
end
def jqk (sp:Sp) (dvs:List V) (E:XK) (t:TA):TE:=fun σ H Q=>t σ H fun vs H1=>sp (vs ++ dvs) H1 Q E
def jk7 (K:PySem.W.Frag) (fd:FuncData) (ps:List Str) (ds:List Value):Prop :=
 ∀ (s:Shared) (us:List Value),K.In s.heap→(us ++ ds).length = ps.length→BindsTo s fd ⟨us,[]⟩ (ps.zip (us ++ ds))
theorem jk7.all {K:PySem.W.Frag} {fd:FuncData} {ps:List Str} (h:∀ us:List Value,us.length = ps.length→bindArgs fd ⟨us,[]⟩ = pure (ps.zip us)):jk7 K fd ps []:=fun s us _ hl=>by
 rw [List.append_nil] at hl ⊢
 exact .of_eq (h us hl)
def jof (CX:CXT) (X:Cx) (E:XK):Prop:=∀ (pins:List (Addr × Obj)) (σ:St) (H:Hp) (s:Shared) (e:Value) (s':Shared),Inv X pins σ H s→CX X.stack H s E e s'→X.xe e s'
section
variable {X:Cx} {CX:CXT} {k:Nat} {f C:Addr} {fd:FuncData} {ps:List Str} {sp:Sp} {dvs:List V} {ds:List Value} {E:XK} {x m:Str} {p pos apos:Pos} {e o:Expr} {es:List Expr} {ta:TE} {t:TA}
theorem run_fn {pins:List (Addr × Obj)} {σ:St} {H:Hp} {s:Shared} {Q:VK} {us:List Value} {vs:List V} (F:FnOk X.prog X.w X.K X.mg X.base CX k f fd ps sp) (hr:Room k X.A) (hb:jk7 X.K fd ps ds) (hd:Vals dvs ds) (hx:jof CX X E)
  (I:Inv X pins σ H s) (r:Vals vs us) (h:sp (vs ++ dvs) H Q E):wpAny (model X.prog X.w) X.A (call (.ref f) us) (EP X pins σ Q) X.xe s:=by
 have r2:Vals (vs ++ dvs) (us ++ ds):=r.append hd
 have hl:(us ++ ds).length = ps.length:=by rw [← r2.length]; exact F.len _ _ _ _ h
 refine wpAny_call (codeAny_mono (F.run X.A X.stack s H ⟨us,[]⟩ (us ++ ds) (vs ++ dvs) Q E hr I.env0 (hb s us I.kIn hl) r2 h) fun r s' hq=>?_)
 cases r with
 | error e=>exact hx pins σ H s e s' I hq
 | ok fl =>
  cases fl with
  | ret u=>exact I.after hq
  | next=>exact False.elim hq
  | brk=>exact False.elim hq
  | cont=>exact False.elim hq
theorem ja8 (F:FnOk X.prog X.w X.K X.mg X.base CX k f fd ps sp) (hr:Room k X.A) (hg:Gl X x) (hm:X.mg x = some (.ref f)) (hk:PySem.W.keepIn X.K (.ref f) = true) (hb:jk7 X.K fd ps ds) (hd:Vals dvs ds) (hx:jof CX X E)
  (ha:PA X (e :: es) t) (hdb:(x == ("__debug__":Str)) = false:=by decide) (he:starEach (e :: es) X.env = (false,eval e X.env) :: starEach es X.env:=by rfl) (hpl:(backTo pos (starEach es X.env)).any (·.1) = false:=by rfl) :
  PE X (.Call (.Name x p) (e :: es) [] pos) (jqk sp dvs E t):=by
 intro pins s σ H Q I h
 refine wpAny_Call_Name_kw (jnb I hg hm ?_ hdb)
 refine PySem.W.callWith_K (h₀:=X.base) I.ok.mod.kin hk (thn (ha pos pins s σ H _ I h) fun us s1 ⟨vs,H1,I1,r,q⟩=>⟨I1.kIn,?_⟩) he hpl
 exact run_fn F hr hb hd hx I1 r q
end
def PK (X:Cx) (kws:List Keyword) (t:TA):Prop :=
 ∀ (pos:Pos) (pins:List (Addr × Obj)) (s:Shared) (σ:St) (H:Hp) (Q:List V→Hp→Prop),Inv X pins σ H s→t σ H Q→wpAny (model X.prog X.w) X.A (evalAll ((backToKw pos (keywordEach kws X.env)).map (·.2))) (AP X pins σ Q) X.xe s
section
variable {X:Cx} {CX:CXT} {k:Nat} {f C:Addr} {fd:FuncData} {ps ks:List Str} {sp:Sp} {E:XK} {x m:Str} {p pos apos kpos:Pos} {e o:Expr} {es:List Expr} {kws:List Keyword} {te ta:TE} {t tk:TA} {nm:Option Str}
theorem jq0:PK X [] tNil:=fun _ _ _ _ H Q I h=>wpAny_evalAll_nil ⟨[],H,I,.nil,h⟩
theorem jmq (ha:PE X e te) (hr:PK X kws t):PK X (⟨nm,e,kpos⟩ :: kws) (jdw te t):=by
 intro pos pins s σ H Q I h
 show wpAny _ _ (evalAll ((do let v ← eval e X.env; standAt pos; pure v) :: (backToKw pos (keywordEach kws X.env)).map (·.2))) _ _ s
 refine wpAny_evalAll_cons (wpAny_bind (thn (ha pins s σ H _ I h) fun u s1 ⟨x,H1,I1,r1,q1⟩=>wpAny_bind (wpAny_standAt (wpAny_pure ?_))))
 exact thn (hr pos pins s1 σ H1 _ I1 q1) fun us s2 ⟨xs,H2,I2,r2,q2⟩=>⟨x :: xs,H2,I2,.cons r1 r2,q2⟩
variable {g:List Value→List Value→List Value} {gV:List V→List V→List V}
end
structure FnScope (N P:List Str) (sc:Scope):Prop where
 kind:sc.kind = .function
 co:sc.isCoroutine = false
 gen:sc.isGenerator = false
 nd:N.Nodup
 pre:N.take P.length = P
 par:∀ x ∈ P,sc.names.lookup x = some .local ∨ sc.names.lookup x = some .cell
 nofree:∀ y ∈ sc.names,y.2 ≠ .free
theorem jj5 {kindOf:Str→Option NameKind} {x:Str}:∀ {binds:List (Str × Value)} {m:Str→Option Value},(∀ v,(x,v) ∉ binds)→bindL kindOf binds m x = m x
 | [],_,_=>rfl
 | (n,v) :: r,m,h=>by
  unfold bindL
  rw [jj5 fun w hw=>h w (List.mem_cons_of_mem _ hw)]
  split
  ·have:x ≠ n:=by rintro rfl; exact h v List.mem_cons_self
   simp [this]
  ·rfl
theorem jj7 {kindOf:Str→Option NameKind} {x:Str}:∀ {binds:List (Str × Value)} {m:Str→Option Value},(∀ v,(x,v) ∉ binds)→bindC kindOf binds m x = m x
 | [],_,_=>rfl
 | (n,v) :: r,m,h=>by
  unfold bindC
  rw [jj7 fun w hw=>h w (List.mem_cons_of_mem _ hw)]
  split
  ·rfl
  ·have:x ≠ n:=by rintro rfl; exact h v List.mem_cons_self
   simp [this]
theorem jj6 {kindOf:Str→Option NameKind} {x:Str} {v:Value}:∀ {P:List Str} {vs:List Value} {i:Nat} {m:Str→Option Value},P.Nodup→P[i]? = some x→vs[i]? = some v→kindOf x = some .local →
  bindL kindOf (P.zip vs) m x = some v
 | [],_,_,_,_,h,_,_=>by simp at h
 | _ :: _,[],_,_,_,_,h,_=>by simp at h
 | p :: P,w :: vs,0,m,nd,h1,h2,hk=>by
  simp at h1 h2; subst h1; subst h2
  show bindL kindOf ((p,w) :: P.zip vs) m p = _
  unfold bindL
  rw [jj5 fun v hv=>(List.nodup_cons.mp nd).1 (List.of_mem_zip hv).1,if_pos hk]
  simp
 | p :: P,w :: vs,i + 1,m,nd,h1,h2,hk=>by
  show bindL kindOf ((p,w) :: P.zip vs) m x = _
  unfold bindL
  exact jj6 (i:=i) (List.nodup_cons.mp nd).2 (by simpa using h1) (by simpa using h2) hk
theorem jj8 {kindOf:Str→Option NameKind} {x:Str} {v:Value}:∀ {P:List Str} {vs:List Value} {i:Nat} {m:Str→Option Value},P.Nodup→P[i]? = some x→vs[i]? = some v→kindOf x ≠ some .local →
  bindC kindOf (P.zip vs) m x = some v
 | [],_,_,_,_,h,_,_=>by simp at h
 | _ :: _,[],_,_,_,_,h,_=>by simp at h
 | p :: P,w :: vs,0,m,nd,h1,h2,hk=>by
  simp at h1 h2; subst h1; subst h2
  show bindC kindOf ((p,w) :: P.zip vs) m p = _
  unfold bindC
  rw [jj7 fun v hv=>(List.nodup_cons.mp nd).1 (List.of_mem_zip hv).1,if_neg hk]
  simp
 | p :: P,w :: vs,i + 1,m,nd,h1,h2,hk=>by
  show bindC kindOf ((p,w) :: P.zip vs) m x = _
  unfold bindC
  exact jj8 (i:=i) (List.nodup_cons.mp nd).2 (by simpa using h1) (by simpa using h2) hk
def start (N:List Str) (vs:List V):St:=vs.map some ++ List.replicate (N.length - vs.length) none
def cxOf (CX:CXT) (P:Program) (w:World) (K:PySem.W.Frag) (mg:Str→Option Value) (base:Heap) (N:List Str) (qual:Str) (scope:Scope) (f:Addr) (cd:Value) (A:Around) (outer:List Env) (s:Shared) (H:Hp) (E:XK):Cx where
 prog:=P
 w:=w
 K:=K
 mg:=mg
 base:=base
 A:=A.deeper (envOfC qual scope s.heap.objs.size f cd)
 N:=N
 s₀:=s
 H₀:=H
 env:=envOfC qual scope s.heap.objs.size f cd
 outer:=outer
 stack:=envOfC qual scope s.heap.objs.size f cd :: outer
 ex:=[]
 calm:=true
 fn:=fun _=>true
 pn:=[]
 xe:=fun e s'=>wpAny (model P w) (A.deeper (envOfC qual scope s.heap.objs.size f cd)) (leaving (envOfC qual scope s.heap.objs.size f cd) e) (fun _ s''=>CX outer H s E e s'') (fun e' s''=>CX outer H s E e' s'') s'
theorem jl6 {sc:Scope} {n:Nat} {x:Str} (h:sc.names.lookup x = some .cell):∃ c,(cellsFrom n sc.names []).lookup x = some c:=by
 have q:=PySem.W.cellsFrom_some sc.names n [] (.inl h)
 exact Option.isSome_iff_exists.mp q
theorem jnk {CX:CXT} {P:Program} {w:World} {K:PySem.W.Frag} {mg:Str→Option Value} {base:Heap} {N ps:List Str} {qual:Str} {scope:Scope} {f:Addr} {cd:Value} {A:Around} {outer:List Env} {s s1:Shared} {H:Hp} {E:XK} {us:List Value} {vs:List V}
  (S:FnScope N ps scope) (hd:A.handled = none) (e0:Env0 P w K mg base A outer s H) (hl:vs.length = ps.length) (r:Vals vs us)
  (x:InCallC s s.heap.objs.size (bindL (envOfC qual scope s.heap.objs.size f cd).kindOf (ps.zip us) fun _=>none) (cellsFrom (s.heap.objs.size + 1) scope.names []) (bindC (envOfC qual scope s.heap.objs.size f cd).kindOf (ps.zip us) fun _=>none) s1) :
  Inv (cxOf CX P w K mg base N qual scope f cd A outer s H E) [] (start N vs) H s1:=by
 have hpl:ps.length ≤ N.length:=by have:=congrArg List.length S.pre; rw [List.length_take] at this; omega
 obtain ⟨h1,tk,rfl,hk⟩:=x.done
 have noA:∀ b:Addr,b ∉ (cxOf CX P w K mg base N qual scope f cd A outer s H E).ex:=fun b z=>absurd (show b ∈ ([]:List Addr) from z) (by simp)
 refine ⟨⟨e0.mod,S.kind,rfl,rfl,Nat.le_refl _,fun y z c h1 h2=>?_,fun y hy=>?_,fun y c _ h=>?_,fun _=>hd,Around.frames_deeper e0.frames,.inr ⟨rfl,rfl⟩,fun b z=>absurd z (noA b),e0.bs,e0.bsz,fun b _ _=>noA b,fun b z=>absurd z (noA b),e0.funs,e0.frf⟩,
  rfl,e0.bare,Un.kept hk,⟨_,x.toInCall.ns,fun i y v h1 h2 h3=>?_⟩,fun y c h=>⟨_,x.cell y c h⟩,e0.hok.fresh (Nat.le_refl _),fun y c h=>?_,fun p hp=>absurd (show p ∈ ([]:List (Addr × Obj)) from hp) (by simp),e0.hok.kept hk,?_⟩
 ·exact name_of_addr x.apart (PySem.mem_of_lookup h1) (PySem.mem_of_lookup h2)
 ·have hy:scope.names.lookup y = some .cell ∨ scope.names.lookup y = some .free:=hy
  rcases hy with hy | hy
  ·exact jl6 hy
  ·exact absurd rfl (S.nofree _ (PySem.mem_of_lookup hy))
 ·exact Nat.le_of_lt (x.above y c (PySem.mem_of_lookup h))
 ·have hi:i < vs.length:=by
   unfold start at h2
   by_cases hi:i < vs.length
   ·exact hi
   ·rw [List.getElem?_append_right (by simpa using hi)] at h2
    rw [List.getElem?_replicate] at h2
    split at h2 <;> cases h2
  have ha:vs[i]? = some v:=by
   unfold start at h2
   rw [List.getElem?_append_left (by simpa using hi),List.getElem?_map] at h2
   cases e:vs[i]? with
   | none=>rw [e] at h2; cases h2
   | some a=>rw [e] at h2; cases h2; rfl
  obtain ⟨u,hu,rv⟩:=r.get ha
  have hp:ps[i]? = some y:=by
   rw [← S.pre,List.getElem?_take_of_lt (by omega)]; exact h1
  have ndP:ps.Nodup:=by rw [← S.pre]; exact S.nd.sublist (List.take_sublist _ _)
  refine ⟨u,rv,?_⟩
  rcases S.par y (List.mem_of_getElem? hp) with k | k
  ·exact .inl ⟨k,jj6 ndP hp hu k⟩
  ·obtain ⟨c,e⟩:=jl6 (n:=s.heap.objs.size + 1) k
   refine .inr ⟨.inl k,c,e,?_⟩
   have q:=x.cell y c e
   rw [jj8 ndP hp hu (by show scope.names.lookup y ≠ _; rw [k]; decide)] at q
   exact q
 ·exact e0.hok.fresh (Nat.le_of_lt (x.above y c (PySem.mem_of_lookup h)))
 ·unfold start
  show _ = N.length
  rw [List.length_append,List.length_map,List.length_replicate]
  omega
theorem fn_of {CX:CXT} {P:Program} {w:World} {K:PySem.W.Frag} {mg:Str→Option Value} {base:Heap} {k:Nat} {f:Addr} {name qual:Str} {params:Arguments} {body:List Stmt} {scope:Scope} {dV kV doc pm cdv ct oc:Value} {an od:Option Addr}
  {osl:Array (Option Value)} {N ps:List Str} {sp:Sp} (lk:K.lookup f = some ⟨oc,od,.func (PySem.W.fnOf name qual params body scope dV kV doc pm an cdv ct),osl⟩) (hcd:PySem.W.codeIn K cdv qual = true) (S:FnScope N ps scope)
  (len:∀ vs H Q E,sp vs H Q E→vs.length = ps.length)
  (hbody:∀ (A:Around) (outer:List Env) (s:Shared) (H:Hp) (vs:List V) (Q:VK) (E:XK),Room k (A.deeper (envOfC qual scope s.heap.objs.size f cdv))→sp vs H Q E →
   ∃ t,PSs (cxOf CX P w K mg base N qual scope f cdv A outer s H E) body t∧t { nx:=fun _ H'=>Q .non H',rt:=Q } (start N vs) H) :
  FnOk P w K mg base CX (k + 1) f (PySem.W.fnOf name qual params body scope dV kV doc pm an cdv ct) ps sp:=by
 refine ⟨len,fun A outer s H args us vs Q E hr e0 hb r hsp=>?_⟩
 have hl:=len _ _ _ _ hsp
 have KX:K.In s.heap:=e0.mod.kin.keeps fun b o e=>(e0.bs b o e).1
 have lim:s.heap.NoLimit:=e0.mod.nolimit.keeps fun b o e=>(e0.bs b o e).1
 have hkind:∀ y ∈ ps.zip us,scope.names.lookup y.1 = some .local ∨ (scope.names.lookup y.1 = some .cell∧((cellsFrom (s.heap.objs.size + 1) scope.names []).lookup y.1).isSome = true):=fun ⟨n,v⟩ hy=>by
  rcases S.par n (List.of_mem_zip hy).1 with q | q
  ·exact .inl q
  ·exact .inr ⟨q,PySem.W.cellsFrom_some _ _ _ (.inl q)⟩
 refine codeAny_call_function hr.depth (KX _ _ lk) rfl S.co S.gen rfl (PySem.W.codeRec_of KX hcd) (hb _ _ _ _ ?_)
 refine wpAny_newFunctionEnv_cells S.kind hkind fun env he s1 x=>?_
 subst he
 refine ⟨lim.keeps x.toInCall.keep,codeAny_func ?_⟩
 obtain ⟨t,ht,hq⟩:=hbody A outer s H vs Q E (hr.deeper _) hsp
 have I:Inv (cxOf CX P w K mg base N qual scope f cdv A outer s H E) [] (start N vs) H s1:=jnk S hr.hd e0 hl r x
 refine wpAny_mono (ht [] s1 (start N vs) H _ I hq) (fun fl s' hs=>?_) fun e s' hs=>hs
 have fin:∀ {σ':St} {H':Hp} {v:V} {u:Value},Inv (cxOf CX P w K mg base N qual scope f cdv A outer s H E) [] σ' H' s'→RelV v u→Q v H'→CE outer P w H s Q u s' :=
  fun {σ' H' v u} J rv q=>⟨v,H',J.os,J.bare,J.base,J.hok,rv,q⟩
 cases fl with
 | ret u =>
  obtain ⟨v,σ',H',J,rv,q⟩:=hs
  exact fin J rv q
 | next =>
  obtain ⟨σ',H',J,q⟩:=hs
  exact fin (v:=V.non) (u:=Value.none) J rfl q
 | brk =>
  obtain ⟨_,_,_,q⟩:=hs
  exact False.elim q
 | cont =>
  obtain ⟨_,_,_,q⟩:=hs
  exact False.elim q
end L2
namespace L2
open PySem PySem.Spec PyProof.Rows
section
variable {X:Cx} {x:Str} {p pos:Pos} {e:Expr} {es:List Expr} {t:TA} {id T:String} {r:List V→Hp→VK→Prop}
def tCB (r:List V→Hp→VK→Prop) (t:TA):TE:=fun σ H Q=>t σ H fun vs H1=>r vs H1 Q
theorem ja9 (hc:jch X (.builtin id) r) (hg:Gl X x) (hm:X.mg x = none) (hv:bootBuiltins x = some (.builtin id)) (ha:PA X (e :: es) t) (hn:x ≠ "__name__":=by decide) (hdb:(x == ("__debug__":Str)) = false:=by decide)
  (he:starEach (e :: es) X.env = (false,eval e X.env) :: starEach es X.env:=by rfl) (hpl:(backTo pos (starEach es X.env)).any (·.1) = false:=by rfl):PE X (.Call (.Name x p) (e :: es) [] pos) (tCB r t):=by
 intro pins s σ H Q I h
 refine wpAny_Call_Name_kw (je5 I hg hm hv ?_ hn hdb)
 exact PyProof.Rows.callWith_builtin1 (thn (ha pos pins s σ H _ I h) fun us s1 ⟨vs,H1,I1,r1,q1⟩=>hc pins s1 σ H1 vs us Q I1 r1 q1) he hpl
theorem jat (hc:jch X (.type T) r) (hg:Gl X x) (hm:X.mg x = none) (hv:bootBuiltins x = some (.type T)) (ha:PA X (e :: es) t) (hn:x ≠ "__name__":=by decide) (hdb:(x == ("__debug__":Str)) = false:=by decide)
  (he:starEach (e :: es) X.env = (false,eval e X.env) :: starEach es X.env:=by rfl) (hpl:(backTo pos (starEach es X.env)).any (·.1) = false:=by rfl):PE X (.Call (.Name x p) (e :: es) [] pos) (tCB r t):=by
 intro pins s σ H Q I h
 refine wpAny_Call_Name_kw (je5 I hg hm hv ?_ hn hdb)
 exact PyProof.Rows.callWith_type1 (thn (ha pos pins s σ H _ I h) fun us s1 ⟨vs,H1,I1,r1,q1⟩=>hc pins s1 σ H1 vs us Q I1 r1 q1) he hpl
end
end L2
namespace HT
open PySem PyProof.Rows
def lexLt:List Int→List Int→Bool
 | [],[]=>false
 | [],_ :: _=>true
 | _ :: _,[]=>false
 | x :: xs,y :: ys=>if x = y then lexLt xs ys else decide (x < y)
theorem lexLt_cons (x y:Int) (xs ys:List Int):lexLt (x :: xs) (y :: ys) = if x = y then lexLt xs ys else decide (x < y):=rfl
theorem jhh:lexLt [] [] = false:=rfl
theorem jgc (y:Int) (ys:List Int):lexLt [] (y :: ys) = true:=rfl
theorem jgd (x:Int) (xs:List Int):lexLt (x :: xs) [] = false:=rfl
theorem jpi (A:Around) (s:Shared) (a:Int) (t:Tok) (c:Int) (u:Tok):∃ e,SeqAt.EqAt A s (.int a t) (.int c u) e∧(e = true ↔ a = c) :=
 ⟨(a == c),SeqAt.EqAt.int_int a t c u,by simp⟩
theorem jot (A:Around) (s:Shared) (a:Int) (t:Tok) (c:Int) (u:Tok) (prog:Program) (w:World) (E:Value→Shared→Prop) (Q:Value→Shared→Prop) (h:Q (.bool (decide (a < c))) s) :
  wpAny (model prog w) A (richCompare .Lt (.int a t) (.int c u)) Q E s :=
 (PyProof.Rows.lt_int h:wpAny (model prog w) A (compareOp .Lt (.int a t) (.int c u)) Q E s)
section
open PySem.SeqAt
open PySem.AutoSeq1 (wpAny_loadPart')
open PySem.MeetsSeq PySem.MeetsSeq2 PySem.MeetsSeq3
theorem jgx (l b:Addr) (items items2:Array Value) (n n2:Nat) (dd dd2:Option Addr) (sl sl2:Array (Option Value)) (ns ms:List Int) (hi:IntsAre items.toList ns) (hj:IntsAre items2.toList ms) :
  Meets (Builtin.«tuple.__lt__» ⟨[.ref l,.ref b],[]⟩)
   (fun _ R s=>s.heap.get? l = some { cls:=.type "tuple",dict:=dd,data:=.seq items n,slots:=sl }∧s.heap.get? b = some { cls:=.type "tuple",dict:=dd2,data:=.seq items2 n2,slots:=sl2 } ∧
    R (.ok (.ret (.bool (lexLt ns ms)))) s) :=
 .of_wp fun prog w A R s h=>by
  obtain ⟨hp,g,d,tk,os⟩:=s; obtain ⟨hl,hb,h⟩:=h
  have f2:=AutoSeq1.sub_tuple_tuple
  have z1:items.size = ns.length:=by rw [← hi.length]; simp
  have z2:items2.size = ms.length:=by rw [← hj.length]; simp
  wp_walk using wpAny_loadPart' hl,wpAny_loadPart' hb,wpAny_forIn_list _ (fun rest b s'=>b.1 = none∧s' = ⟨hp,g,d,tk,os⟩∧∃ (vs ws:List Value) (ns' ms':List Int),rest = vs.zip ws ∧
   IntsAre vs ns'∧IntsAre ws ms'∧ns'.length + items2.size = ms'.length + items.size∧R (.ok (.ret (.bool (lexLt ns' ms')))) ⟨hp,g,d,tk,os⟩) _
  case turn =>
   rintro ⟨y,x⟩ rest b s' ⟨hb',rfl,vs,ws,ns',ms',hz,hvi,hwi,hlen,hR⟩
   cases hvi with
   | nil=>rw [List.zip_nil_left] at hz; cases hz
   | cons a t hvi' =>
    cases hwi with
    | nil=>rw [List.zip_nil_right] at hz; cases hz
    | cons c u hwi' =>
     rw [List.zip_cons_cons] at hz
     injection hz with hyx hrest
     injection hyx with hy hx
     subst hy hx
     rw [lexLt_cons] at hR
     simp only [List.length_cons] at hlen
     obtain ⟨e,he,hiff⟩:=jpi A.in1 ⟨hp,g,d,tk,os⟩ a t c u
     refine wpAny_bind (he prog w _ _ ?_)
     cases e with
     | true =>
      rw [if_pos (hiff.mp rfl)] at hR
      wp_walk
      exact ⟨rfl,rfl,_,_,_,_,hrest,hvi',hwi',by omega,hR⟩
     | false =>
      rw [if_neg (fun q=>absurd (hiff.mpr q) Bool.false_ne_true)] at hR
      have hri:=jot A.in1 ⟨hp,g,d,tk,os⟩ a t c u prog w
      wp_walk using hri
      exact ⟨_,rfl,by simpa using hR⟩
  case fin =>
   rintro ⟨b1,b2⟩ s' ⟨hb',rfl,vs,ws,ns',ms',hz,hvi,hwi,hlen,hR⟩
   simp only at hb'
   subst hb'
   have hv:lexLt ns' ms' = decide (items.size < items2.size):=by
    cases hvi with
    | nil =>
     cases hwi with
     | nil =>
      simp only [List.length_nil] at hlen
      rw [jhh]
      exact (decide_eq_false (by omega)).symm
     | cons c u hw =>
      simp only [List.length_nil,List.length_cons] at hlen
      rw [jgc]
      exact (decide_eq_true (by omega)).symm
    | cons a t hv =>
     cases hwi with
     | nil =>
      simp only [List.length_nil,List.length_cons] at hlen
      rw [jgd]
      exact (decide_eq_false (by omega)).symm
     | cons c u hw =>
      rw [List.zip_cons_cons] at hz
      cases hz
   rw [hv] at hR
   wp_walk
   exact ⟨_,rfl,by simpa [Builtin.Tuple.tupleCompareSizes] using hR⟩
  case h =>
   exact ⟨rfl,rfl,items.toList,items2.toList,ns,ms,rfl,hi,hj,by omega,h⟩
end
section
variable {prog:Program} {w:World} {A:Around} {E:Value→Shared→Prop} {s:Shared}
theorem lt_tupInts {l b:Addr} {items items2:Array Value} {ns ms:List Int} {Q:Value→Shared→Prop} (hl:IsTup s.heap l items) (hb:IsTup s.heap b items2) (hi:IntsAre items.toList ns) (hj:IntsAre items2.toList ms)
  (hu:A.units < cLine) (h:Q (.bool (lexLt ns ms)) s):wpAny (model prog w) A (compareOp .Lt (.ref l) (.ref b)) Q E s:=by
 obtain ⟨⟨cls,dd,data,sl⟩,ho,hc,n,hd⟩:=id hl
 obtain ⟨⟨cls2,dd2,data2,sl2⟩,ho2,hc2,n2,hd2⟩:=id hb
 simp only at hc hd hc2 hd2
 subst hc hd hc2 hd2
 exact richCompare_meets_room (op:=.Lt) ⟨_,ho,rfl⟩ ⟨_,ho2,rfl⟩ PySem.F.slot_tuple_lt PySem.F.entry_tuple_lt (PySem.F.args_tuple_lt_2 _ _) (jgx l b items items2 n n2 dd dd2 sl sl2 ns ms hi hj)
  ⟨ho,ho2,show Value.bool (lexLt ns ms) ≠ Value.notImplemented∧Q (.bool (lexLt ns ms)) s from ⟨(fun x=>nomatch x),h⟩⟩ hu
theorem cat_tup {t b:Addr} {vs ws:List Value} {Q:Value→Shared→Prop} (ht:IsTup s.heap t vs.toArray) (hb:IsTup s.heap b ws.toArray) (hv:vs ≠ [])
  (h1:ws = []→Q (.ref t) s) (h2:ws ≠ []→Q (.ref s.heap.objs.size) { s with heap:=s.heap.push { cls:=.type "tuple",data:=.seq (vs ++ ws).toArray } })
  (hsz:vs.length + ws.length ≤ sizeLine):wpAny (model prog w) A (binaryOp .Add (.ref t) (.ref b)) Q E s:=by
 obtain ⟨⟨cls,dd,data,sl⟩,ho,hc,n,hd⟩:=id ht
 obtain ⟨⟨cls2,dd2,data2,sl2⟩,ho2,hc2,n2,hd2⟩:=id hb
 simp only at hc hd hc2 hd2
 subst hc hd hc2 hd2
 have e:vs.toArray ++ ws.toArray = (vs ++ ws).toArray:=by simp
 by_cases hw:ws = []
 ·exact concat_meets ⟨_,ho,rfl⟩ ⟨_,ho2,rfl⟩ noFill_tuple_add seq_tuple_add PySem.F.slot_tuple_add PySem.F.entry_tuple_add (PySem.F.args_tuple_add_2 _ _)
   (tuple_addW1 t b vs.toArray ws.toArray n n2 dd dd2 sl sl2 (by simpa using hv) (by simp [hw])) ⟨ho,ho2,h1 hw⟩
 ·refine concat_meets ⟨_,ho,rfl⟩ ⟨_,ho2,rfl⟩ noFill_tuple_add seq_tuple_add PySem.F.slot_tuple_add PySem.F.entry_tuple_add (PySem.F.args_tuple_add_2 _ _)
   (tuple_addW2 t b vs.toArray ws.toArray n n2 dd dd2 sl sl2 (by simpa using hv) (by simpa using hw) (by rw [List.size_toArray,List.size_toArray]; exact hsz)) ⟨ho,ho2,?_⟩
  rw [e]
  exact h2 hw
def sIx (n d:Nat):Option Int→Nat
 | none=>d
 | some v=>if v < 0 then (v + (n:Int)).toNat else min v.toNat n
theorem jpu (n d:Nat) (hd:d ≤ n) (o:Option Int):sIx n d o ≤ n:=by
 cases o with
 | none=>exact hd
 | some v =>
  show (if v < 0 then (v + (n:Int)).toNat else min v.toNat n) ≤ n
  by_cases hv:v < 0
  ·rw [if_pos hv]; omega
  ·rw [if_neg hv]; exact Nat.min_le_right _ _
theorem jo3 (v:Int) (n d:Nat):(if v < 0 then max (v + (n:Int)) 0 else min v (n:Int)) = ((sIx n d (some v):Nat):Int):=by
 show (if v < 0 then max (v + (n:Int)) 0 else min v (n:Int)) = (((if v < 0 then (v + (n:Int)).toNat else min v.toNat n):Nat):Int)
 by_cases hv:v < 0
 ·simp only [if_pos hv]; omega
 ·simp only [if_neg hv]; omega
theorem jls (lo hi:Option Int) (n:Nat):Builtin.Slice.sliceAdjust lo hi 1 (n:Int) = (((sIx n 0 lo:Nat):Int),((sIx n n hi:Nat):Int)):=by
 have h1:¬ ((1:Int) < 0):=by omega
 unfold Builtin.Slice.sliceAdjust
 simp only [h1,if_false]
 refine Prod.ext ?_ ?_
 ·cases lo with
  | none=>rfl
  | some v=>exact jo3 v n 0
 ·cases hi with
  | none=>rfl
  | some v=>exact jo3 v n n
theorem jle (i j:Nat):Builtin.Slice.slicePlaces (i:Int) (j:Int) 1 = j - i:=by
 unfold Builtin.Slice.slicePlaces
 have h1:(1:Int) > 0:=by omega
 simp only [h1,if_true,Int.ediv_one]
 split <;> omega
theorem jgk {v:Value} {o:Option Int} {Q:Option Int→Shared→Prop} (p:IsPart v o) (h:Q o s):wpAny (model prog w) A (Builtin.Slice.slicePartIndex v) Q E s:=by
 cases p with
 | none=>exact slicePart_none h
 | int i t=>exact slicePart_int h
theorem jd5 {sl:Addr} {vl vu:Value} {lo hi:Option Int} {n:Nat} {Q:Int × Int × Nat→Shared→Prop} (hs:s.heap.IsSliceOf sl vl vu .none) (pl:IsPart vl lo) (pu:IsPart vu hi)
  (h:Q (((sIx n 0 lo:Nat):Int),1,sIx n n hi - sIx n 0 lo) s):wpAny (model prog w) A (Builtin.Slice.sliceApplied (.ref sl) (pure (n:Int))) Q E s:=by
 obtain ⟨os,hos,hcs,hds⟩:=id hs
 unfold Builtin.Slice.sliceApplied Builtin.Slice.sliceFields
 refine wpAny_bind (wpAny_bind (wpAny_field hos hds (x:=vl) rfl (wpAny_bind (wpAny_field hos hds (x:=vu) rfl (wpAny_bind (wpAny_field hos hds (x:=.none) rfl (wpAny_pure ?_)))))))
 refine wpAny_bind (slicePart_none ?_)
 show wpAny _ _ (if ((1:Int) == 0) = true then _ else _) _ _ s
 rw [if_neg (by decide)]
 refine wpAny_bind (jgk pl (wpAny_bind (jgk pu (wpAny_bind (wpAny_pure ?_)))))
 show wpAny _ _ (match Builtin.Slice.sliceAdjust lo hi 1 (n:Int) with | (lo,hi)=>pure (lo,(1:Int),Builtin.Slice.slicePlaces lo hi 1)) _ _ s
 rw [jls lo hi n]
 show wpAny _ _ (pure (((sIx n 0 lo:Nat):Int),(1:Int),Builtin.Slice.slicePlaces ((sIx n 0 lo:Nat):Int) ((sIx n n hi:Nat):Int) 1)) _ _ s
 rw [jle]
 exact wpAny_pure h
theorem jov (xs:Array Value) (i k:Nat):((List.range k).filterMap fun (m:Nat)=>xs[((i:Int) + (m:Int) * 1).toNat]?).toArray = ((xs.toList.drop i).take k).toArray:=by
 have e:(fun (m:Nat)=>xs[((i:Int) + (m:Int) * 1).toNat]?) = fun m=>xs[i + m]?:=by
  funext m
  have:((i:Int) + (m:Int) * 1).toNat = i + m:=by omega
  rw [this]
 rw [e]
 have:=pick_run xs i k
 rw [List.filterMap_map] at this
 have e2:((fun x=>xs[x]?) ∘ fun x=>i + x) = fun m=>xs[i + m]?:=rfl
 rw [e2] at this
 rw [this]
theorem getItem_tuple_cut {t sl:Addr} {items:Array Value} {vl vu:Value} {lo hi:Option Int} {Q:Value→Shared→Prop} (ht:IsTup s.heap t items) (hs:s.heap.IsSliceOf sl vl vu .none) (pl:IsPart vl lo) (pu:IsPart vu hi)
  (hw:¬ (sIx items.size 0 lo = 0∧sIx items.size items.size hi = items.size))
  (h:Q (.ref s.heap.objs.size) { s with heap:=s.heap.push { cls:=.type "tuple",data:=.seq ((items.toList.drop (sIx items.size 0 lo)).take (sIx items.size items.size hi - sIx items.size 0 lo)).toArray } })
  (hsz:items.size ≤ sizeLine):wpAny (model prog w) A (getItem (.ref t) (.ref sl)) Q E s:=by
 have htake:sizeOk (.seq ((items.toList.drop (sIx items.size 0 lo)).take (sIx items.size items.size hi - sIx items.size 0 lo)).toArray):=by
  show ((items.toList.drop (sIx items.size 0 lo)).take (sIx items.size items.size hi - sIx items.size 0 lo)).toArray.size ≤ sizeLine
  rw [List.size_toArray,List.length_take,List.length_drop,Array.length_toList]
  omega
 have hj:sIx items.size items.size hi ≤ items.size:=jpu _ _ (Nat.le_refl _) hi
 obtain ⟨os,hos,hcs,hds⟩:=id hs
 have hTs:s.TypeIs (.ref sl) "slice":=⟨os,hos,hcs⟩
 unfold getItem
 try with_reducible refine wpAny_holding ?_
 first | refine wpAny_bind (wpAny_pure ?_) | skip
 refine wpAny_bind (wpAny_sequenceKey ht.typeIs (by decide) ?_)
 refine wpAny_bind (wpAny_callSpecial?_slot (name:=Str.ofString "__getitem__") ht.typeIs PyProof.Rows.slot_tuple_getitem
  (wpAny_call_entry PyProof.Rows.slot_tuple_getitem ht.typeIs entry_tuple_getitem ?_ (args_tuple_getitem _ _)))
 show wpAny _ _ (Builtin.Tuple.tupleItemsOf (.ref t) >>= _) _ _ s
 refine wpAny_bind (tupleItemsOf_ ht ?_)
 refine wpAny_bind (wpAny_typeOf hTs ?_)
 rw [if_pos (by decide)]
 refine wpAny_bind (jd5 hs pl pu ?_)
 have hno:¬ ((((sIx items.size 0 lo:Nat):Int) == 0 && (1:Int) == 1 && (sIx items.size items.size hi - sIx items.size 0 lo) == items.size) = true):=by
  intro q
  rw [Bool.and_eq_true,Bool.and_eq_true] at q
  have q1:((sIx items.size 0 lo:Nat):Int) = 0:=eq_of_beq q.1.1
  have q2:sIx items.size items.size hi - sIx items.size 0 lo = items.size:=eq_of_beq q.2
  exact hw ⟨by omega,by omega⟩
 show wpAny _ _ (if (((sIx items.size 0 lo:Nat):Int) == 0 && (1:Int) == 1 && (sIx items.size items.size hi - sIx items.size 0 lo) == items.size) = true then _ else _) _ _ s
 rw [if_neg hno,jov]
 first
  | exact wpAny_bind (m:=Builtin.Tuple.tupleExact _) (wpAny_newObj_type (wpAny_pure ⟨_,rfl,wpAny_pure h⟩) htake)
  | exact wpAny_bind (m:=Builtin.Tuple.tupleExact _) (wpAny_newObj_type (wpAny_bind (wpAny_pure (wpAny_pure ⟨_,rfl,wpAny_pure h⟩))) htake)
  | exact wpAny_bind (wpAny_bind (m:=Builtin.Tuple.tupleExact _) (wpAny_newObj_type (wpAny_pure (wpAny_pure ⟨_,rfl,wpAny_pure h⟩)) htake))
  | exact wpAny_bind (wpAny_bind (m:=Builtin.Tuple.tupleExact _) (wpAny_newObj_type (wpAny_pure ⟨_,rfl,wpAny_pure h⟩) htake))
end
end HT
namespace L2
open PySem PySem.Spec PyProof.Rows
abbrev TO:=St→Hp→(Option Int→Hp→Prop)→Prop
def PO (X:Cx) (e:Option Expr) (t:TO):Prop :=
 ∀ (pins:List (Addr × Obj)) (s:Shared) (σ:St) (H:Hp) (Q:Option Int→Hp→Prop),Inv X pins σ H s→t σ H Q →
  wpAny (model X.prog X.w) X.A (evalPart e X.env) (fun u s'=>∃ o H',Inv X pins σ H' s'∧IsPart u o∧Q o H') X.xe s
def jje:TO:=fun _ H Q=>Q none H
theorem jc3 {ns:List Int}:∀ {us:List Value},Vals (ns.map V.int) us→IntsAre us ns:=by
 induction ns with
 | nil=>intro us r; rw [List.map_nil] at r; cases r; exact .nil
 | cons n ns ih =>
  intro us r
  rw [List.map_cons] at r
  cases r with
  | cons r1 r2 =>
   obtain ⟨t,e⟩:=r1
   subst e
   exact .cons n t (ih r2)
section
variable {X:Cx} {e:Expr} {te:TE} {lo hi:Option Expr} {tl th:TO} {pos p2:Pos}
theorem jbj:PO X none jje:=by
 intro pins s σ H Q I h
 rw [evalPart_none]
 exact wpAny_pure ⟨none,H,I,.none,h⟩
def SlR (X:Cx) (r:V→Option Int→Option Int→Hp→VK→Prop):Prop :=
 ∀ (pins:List (Addr × Obj)) (s:Shared) (σ:St) (H:Hp) (x:V) (v vl vu:Value) (lo hi:Option Int) (sl:Addr) (Q:VK),Inv X pins σ H s→RelV x v→s.heap.IsSliceOf sl vl vu .none→IsPart vl lo→IsPart vu hi→r x lo hi H Q →
  ∃ T id,typeLookup (.type T) "__getitem__" = pure (some (.builtin id))∧s.TypeIs v T∧wpAny (model X.prog X.w) X.A (getItem v (.ref sl)) (EP X pins σ Q) X.xe s
def tSl (r:V→Option Int→Option Int→Hp→VK→Prop) (te:TE) (tl th:TO):TE:=fun σ H Q=>te σ H fun x H1=>tl σ H1 fun l H2=>th σ H2 fun u H3=>r x l u H3 Q
theorem jb2 {r:V→Option Int→Option Int→Hp→VK→Prop} (hr:SlR X r) (he:PE X e te) (hl:PO X lo tl) (hu:PO X hi th):PE X (.Subscript e (.Slice lo hi none p2) pos) (tSl r te tl th):=by
 intro pins s σ H Q I h
 refine Subscript_ (thn (he pins s σ H _ I h) fun v s1 ⟨x,H1,I1,r1,q1⟩=>?_)
 refine wpAny_Slice (thn (hl pins s1 σ H1 _ I1 q1) fun vl s2 ⟨l,H2,I2,pl,q2⟩=>thn (hu pins s2 σ H2 _ I2 q2) fun vu s3 ⟨u,H3,I3,pu,q3⟩=>?_)
 rw [evalPart_none]
 refine wpAny_pure ?_
 have I4:Inv X pins σ H3 { s3 with heap:=s3.heap.push { cls:=.type "slice",data:=.fields #[vl,vu,.none] } }:=I3.kept (t':=s3.toks) fun b ob q=>Heap.get?_push_of_some _ q
 obtain ⟨T,id,hT,ht,hg⟩:=hr pins { s3 with heap:=s3.heap.push { cls:=.type "slice",data:=.fields #[vl,vu,.none] } } σ H3 x v vl vu l u s3.heap.objs.size Q I4 r1 (Heap.IsSliceOf.new ..) pl pu q3
 show wpAny (model X.prog X.w) X.A (subscriptTail e (.Slice lo hi none p2) v (.ref s3.heap.objs.size)) (EP X pins σ Q) X.xe { s3 with heap:=s3.heap.push { cls:=.type "slice",data:=.fields #[vl,vu,.none] } }
 exact tail_any (ops:=[.ref s3.heap.objs.size,v]) ht hT hg (by with_unfolding_all rfl)
def cutV (xs:List V) (lo hi:Option Int):List V:=(xs.drop (HT.sIx xs.length 0 lo)).take (HT.sIx xs.length xs.length hi - HT.sIx xs.length 0 lo)
theorem jg5 (xs:List V) (lo hi:Option Int):(cutV xs lo hi).length ≤ xs.length:=by
 unfold cutV
 rw [List.length_take,List.length_drop]
 omega
def rSlT (K:PySem.W.Frag):V→Option Int→Option Int→Hp→VK→Prop:=fun x lo hi H Q=>∃ a xs,x = .ref a∧SqT K H a xs ∧
 ¬ (HT.sIx xs.length 0 lo = 0∧HT.sIx xs.length xs.length hi = xs.length)∧∀ p,H p = none→Q (.ref p) (upd H p (.tup (cutV xs lo hi)))
theorem jpt:SlR X (rSlT X.K):=by
 intro pins s σ H x v vl vu lo hi sl Q I rx hs pl pu h
 obtain ⟨a,xs,rfl,hx,hw,q⟩:=h
 cases rx
 obtain ⟨its,r,ht,hz⟩:=I.tuple hx
 have hlen:its.toArray.size = xs.length:=by rw [List.size_toArray]; exact r.length.symm
 refine ⟨"tuple",_,PyProof.Rows.slot_tuple_getitem.lookup,ht.typeIs,?_⟩
 refine HT.getItem_tuple_cut ht hs pl pu (by rw [hlen]; exact hw) ?_ (by rw [hlen]; exact hz)
 rw [hlen]
 refine ⟨.ref s.heap.objs.size,_,I.laid (t':=s.toks) (o:=.tup (cutV xs lo hi)) (fun b ob q=>Heap.get?_push_of_some _ q) (Nat.le_refl _) ?_,rfl,q _ (I.hok.fresh (Nat.le_refl _))⟩
 exact ⟨Nat.le_trans (jg5 xs lo hi) hz,_,(r.drop (HT.sIx xs.length 0 lo)).take (HT.sIx xs.length xs.length hi - HT.sIx xs.length 0 lo),IsTup.new _ _⟩
def rLtT (K:PySem.W.Frag):R2:=fun x y H Q=>∃ a b ns ms,x = .ref a∧y = .ref b∧SqT K H a (ns.map V.int)∧SqT K H b (ms.map V.int)∧Q (.bl (HT.lexLt ns ms)) H
theorem op_ltT (hu:X.A.units < cLine):OpR X (compareOp .Lt) (rLtT X.K):=by
 intro pins s σ H x y v u Q I rx ry h
 obtain ⟨a,b,ns,ms,rfl,rfl,ha,hb,q⟩:=h
 cases rx
 cases ry
 obtain ⟨its,r1,p1,_⟩:=I.tuple ha
 obtain ⟨its2,r2,p2,_⟩:=I.tuple hb
 have i1:IntsAre its.toArray.toList ns:=jc3 r1
 have i2:IntsAre its2.toArray.toList ms:=jc3 r2
 exact HT.lt_tupInts p1 p2 i1 i2 hu ⟨.bl (HT.lexLt ns ms),H,I,rfl,q⟩
def rCatT (K:PySem.W.Frag):R2:=fun x y H Q=>∃ a b xs ys,x = .ref a∧y = .ref b∧SqT K H a xs∧SqT K H b ys∧xs ≠ []∧xs.length + ys.length ≤ sizeLine ∧
 (ys = []→Q (.ref a) H)∧(ys ≠ []→∀ p,H p = none→Q (.ref p) (upd H p (.tup (xs ++ ys))))
theorem Vals.nil_iff {xs:List V} {us:List Value} (r:Vals xs us):us = [] ↔ xs = []:=by
 cases r with
 | nil=>simp
 | cons _ _=>simp
theorem jmy:OpR X (binaryOp .Add) (rCatT X.K):=by
 intro pins s σ H x y v u Q I rx ry h
 obtain ⟨a,b,xs,ys,rfl,rfl,ha,hb,hx,hz,q1,q2⟩:=h
 cases rx
 cases ry
 obtain ⟨its,r1,p1,_⟩:=I.tuple ha
 obtain ⟨its2,r2,p2,_⟩:=I.tuple hb
 refine HT.cat_tup p1 p2 (fun z=>hx (r1.nil_iff.mp z)) (fun z=>⟨.ref a,H,I,rfl,q1 (r2.nil_iff.mp z)⟩) (fun z=>?_) (by rw [← r1.length,← r2.length]; exact hz)
 refine ⟨.ref s.heap.objs.size,_,I.laid (t':=s.toks) (o:=.tup (xs ++ ys)) (fun b ob q=>Heap.get?_push_of_some _ q) (Nat.le_refl _) ?_,rfl,q2 (fun w=>z (r2.nil_iff.mpr w)) _ (I.hok.fresh (Nat.le_refl _))⟩
 exact ⟨by rw [List.length_append]; exact hz,_,r1.append r2,IsTup.new _ _⟩
end
end L2
namespace L2
open PySem PySem.Spec PyProof.Rows
def ixN (n:Nat) (i:Int):Option Nat:=if 0 ≤ i then (if i < n then some i.toNat else none) else if -(n:Int) ≤ i then some (i + n).toNat else none
def atI {α:Type} (xs:List α) (i:Int):Option α:=(ixN xs.length i).bind fun j=>xs[j]?
theorem jjy {n:Nat} {i:Int} {j:Nat} (h:ixN n i = some j):seqIndex? i n = some j∧j < n∧-(n:Int) ≤ i∧i < n:=by
 unfold ixN at h
 by_cases h0:0 ≤ i
 ·rw [if_pos h0] at h
  by_cases h1:i < n
  ·rw [if_pos h1] at h
   have e:i.toNat = j:=Option.some.inj h
   exact ⟨by rw [seqIndex_of h0 h1,e],by omega,by omega,h1⟩
  ·rw [if_neg h1] at h; cases h
 ·rw [if_neg h0] at h
  by_cases h1:-(n:Int) ≤ i
  ·rw [if_pos h1] at h
   have e:(i + n).toNat = j:=Option.some.inj h
   exact ⟨by rw [seqIndex_neg (by omega) h1,e],by omega,h1,by omega⟩
  ·rw [if_neg h1] at h; cases h
theorem job {α:Type} {xs:List α} {i:Int} {v:α} (h:atI xs i = some v):∃ j,seqIndex? i xs.length = some j∧xs[j]? = some v∧j < xs.length∧-(xs.length:Int) ≤ i∧i < xs.length:=by
 unfold atI at h
 cases e:ixN xs.length i with
 | none=>rw [e] at h; cases h
 | some j =>
  rw [e] at h
  obtain ⟨h1,h2,h3,h4⟩:=jjy e
  exact ⟨j,h1,h,h2,h3,h4⟩
theorem jcr {α:Type} {xs:List α} {j:Nat} {v:α} (h:xs[j]? = some v):atI xs (j:Int) = some v:=by
 have hj:j < xs.length:=(List.getElem?_eq_some_iff.mp h).1
 have e:ixN xs.length (j:Int) = some j:=by
  unfold ixN
  rw [if_pos (by omega),if_pos (by omega)]; simp
 unfold atI; rw [e]; exact h
theorem jl8 {α:Type} (xs:List α) (v:α):atI (xs ++ [v]) (-1) = some v:=by
 have hl:(xs ++ [v]).length = xs.length + 1:=by simp
 have e:ixN (xs ++ [v]).length (-1) = some xs.length:=by
  unfold ixN
  rw [hl,if_neg (by decide),if_pos (by omega)]
  congr 1
  omega
 unfold atI
 rw [e]
 show (xs ++ [v])[xs.length]? = some v
 simp
def jrc (b:Expr):Prop:=∀ o i,subscripted b false o i = operate [o,i] (getItem o i)
def IxR (X:Cx) (r:R2):Prop :=
 ∀ (value slice:Expr) (pins:List (Addr × Obj)) (s:Shared) (σ:St) (H:Hp) (x y:V) (v u:Value) (Q:VK),Inv X pins σ H s→RelV x v→RelV y u→r x y H Q →
  subscripted slice false v u = operate [v,u] (getItem v u)→wpAny (model X.prog X.w) X.A (subscriptTail value slice v u) (EP X pins σ Q) X.xe s
def MtR (X:Cx) (id:String) (r:V→List V→Hp→VK→Prop):Prop :=
 ∀ (pins:List (Addr × Obj)) (s:Shared) (σ:St) (H:Hp) (x:V) (xs:List V) (v:Value) (us:List Value) (Q:VK),Inv X pins σ H s→RelV x v→Vals xs us→r x xs H Q →
  wpAny (model X.prog X.w) X.A (call (.builtin id) (v :: us)) (EP X pins σ Q) X.xe s
section
variable {X:Cx} {a b:Expr} {ta tb:TE} {pos:Pos}
theorem IxR.or {r r':R2} (h:IxR X r) (h':IxR X r'):IxR X (fun x y H Q=>r x y H Q ∨ r' x y H Q):=by
 intro value slice pins s σ H x y v u Q I rx ry q hs
 rcases q with q | q
 ·exact h value slice pins s σ H x y v u Q I rx ry q hs
 ·exact h' value slice pins s σ H x y v u Q I rx ry q hs
theorem jab {r:R2} (hr:IxR X r) (ha:PE X a ta) (hb:PE X b tb) (hs:jrc b):PE X (.Subscript a b pos) (tOp r ta tb):=by
 intro pins s σ H Q I h
 exact Subscript_ (binT ha hb I h fun v u s2 x y H2 I2 rx ry q=>hr a b pins s2 σ H2 x y v u Q I2 rx ry q (hs _ _))
def rIxL (K:PySem.W.Frag):R2:=fun x y H Q=>∃ p xs i v,x = .ref p∧y = .int i∧SqL K H p xs∧atI xs i = some v∧Q v H
def rIxT (K:PySem.W.Frag):R2:=fun x y H Q=>∃ p xs i v,x = .ref p∧y = .int i∧SqT K H p xs∧atI xs i = some v∧Q v H
theorem jnh:IxR X (rIxL X.K):=by
 intro value slice pins s σ H x y v u Q I rx ry h hs
 obtain ⟨p,xs,i,z,rfl,rfl,hq,he,q⟩:=h
 cases rx
 obtain ⟨t,rfl⟩:=ry
 obtain ⟨its,r,pl,hz⟩:=I.list hq
 obtain ⟨j,h1,h2,h3,h4,h5⟩:=job he
 obtain ⟨w,ew,rw'⟩:=r.get h2
 have hl:=r.length
 have hn:=jkt
 have fin:EP X pins σ Q w s:=⟨z,H,I,rw',q⟩
 by_cases h0:0 ≤ i
 ·have hj:i.toNat = j:=by
   rw [seqIndex_of h0 h5] at h1
   exact Option.some.inj h1
  exact item_listR pl.isList h0 (by omega) (by rw [hj]; simpa using ew) fin hs
 ·have hj:(i + (its.toArray.size:Int)).toNat = j:=by
   rw [seqIndex_neg (by omega) h4] at h1
   rw [List.size_toArray,← hl]
   exact Option.some.inj h1
  exact subscriptTail_builtinR (x:=w) pl.isList.typeIs slot_list_getitem.lookup
   (wpAny_getItem_list_neg (Q:=fun r s'=>r = w∧EP X pins σ Q r s') pl.isList (by omega) (by rw [List.size_toArray] <;> omega) (by omega) (by rw [hj]; simpa using ew) ⟨rfl,fin⟩) hs
theorem ix_tup:IxR X (rIxT X.K):=by
 intro value slice pins s σ H x y v u Q I rx ry h hs
 obtain ⟨p,xs,i,z,rfl,rfl,hq,he,q⟩:=h
 cases rx
 obtain ⟨t,rfl⟩:=ry
 obtain ⟨its,r,pl,hz⟩:=I.tuple hq
 obtain ⟨j,h1,h2,h3,h4,h5⟩:=job he
 obtain ⟨w,ew,rw'⟩:=r.get h2
 have hl:=r.length
 have hn:=jkt
 have fin:EP X pins σ Q w s:=⟨z,H,I,rw',q⟩
 exact subscriptTail_builtinR (x:=w) pl.typeIs slot_tuple_getitem.lookup
  (getItem_tuple (j:=j) (Q:=fun r s'=>r = w∧EP X pins σ Q r s') pl (by omega) (by omega) (by rw [List.size_toArray,← hl]; exact h1) (by simpa using ew) ⟨rfl,fin⟩) hs
theorem jlj (its:List Value) (n j:Nat) (u:Value):Obj.mapSeq (·.setIfInBounds j u) { cls:=.type "list",data:=.seq its.toArray n } = { cls:=.type "list",data:=.seq (its.set j u).toArray n }:=by
 simp [Obj.mapSeq]
theorem Inv.lst {pins:List (Addr × Obj)} {σ:St} {H:Hp} {s:Shared} {p:Addr} {xs:List V} (I:Inv X pins σ H s) (h:H p = some (.lst xs)) :
  ∃ (its:List Value) (n:Nat),Vals xs its∧s.heap.get? p = some { cls:=.type "list",data:=.seq its.toArray n }∧xs.length ≤ sizeLine:=by
 obtain ⟨z,its,n,r,e⟩:=I.hok p _ h
 exact ⟨its,n,r,e,z⟩
theorem Inv.lstUpd {pins:List (Addr × Obj)} {σ:St} {H:Hp} {s:Shared} {p:Addr} {xs ys:List V} {its its':List Value} {n n':Nat} {f:Obj→Obj} (I:Inv X pins σ H s) (h:H p = some (.lst xs))
  (ho:s.heap.get? p = some { cls:=.type "list",data:=.seq its.toArray n }) (hf:f { cls:=.type "list",data:=.seq its.toArray n } = { cls:=.type "list",data:=.seq its'.toArray n' }) (r:Vals ys its') (hz:ys.length ≤ sizeLine) (t:Nat) :
  Inv X pins σ (upd H p (.lst ys)) { s with heap:=s.heap.update p f,toks:=t }:=by
 have e:(s.heap.update p f).get? p = some { cls:=.type "list",data:=.seq its'.toArray n' }:=by
  rw [Heap.get?_update_self f ho (by rw [hf] <;> rfl),hf]
 refine I.write (x:=p) (e:=p) (by rw [h]; trivial) (.inl rfl) (fun b u hb q=>(Heap.get?_update_other _ _ (Ne.symm hb)).trans q) ⟨_,e⟩ ?_
 exact ⟨hz,its',n',r,e⟩
def rSetL:V→V→V→Hp→(Hp→Prop)→Prop:=fun o i v H Q=>∃ p xs k j,o = .ref p∧i = .int k∧H p = some (.lst xs)∧ixN xs.length k = some j∧Q (upd H p (.lst (xs.set j v)))
theorem jor:PSet X rSetL:=by
 intro pins s σ H o i v ov iv u Q I ro ri rv h
 obtain ⟨p,xs,k,j,rfl,rfl,hp,hj,q⟩:=h
 cases ro
 obtain ⟨t,rfl⟩:=ri
 obtain ⟨its,n,r,ho,hz⟩:=I.lst hp
 obtain ⟨h1,h2,h3,h4⟩:=jjy hj
 have hl:=r.length
 have hn:=jkt
 have I':Inv X pins σ (upd H p (.lst (xs.set j v))) { s with heap:=s.heap.update p (Obj.mapSeq (·.setIfInBounds j u)) } :=
  I.lstUpd hp ho (jlj its n j u) (r.set rv j) (by rw [List.length_set]; exact hz) s.toks
 by_cases h0:0 ≤ k
 ·have hk:k.toNat = j:=by
   rw [seqIndex_of h0 h4] at h1
   exact Option.some.inj h1
  exact PySem.W.ki_setAt ho h0 (by omega) (by rw [List.size_toArray,← hl]; exact h4) (by rw [hk]; exact ⟨_,I',q⟩)
 ·have hk:(k + (its.toArray.size:Int)).toNat = j:=by
   rw [seqIndex_neg (by omega) h3] at h1
   rw [List.size_toArray,← hl]
   exact Option.some.inj h1
  exact PySem.W.ki_setBack ho (by omega) (by rw [List.size_toArray,← hl]; exact h3) (by omega) (by rw [hk]; exact ⟨_,I',q⟩)
theorem jib (lo hi:Option Int) (n:Nat):(sliceBounds lo hi none n).1 = ((HT.sIx n 0 lo:Nat):Int)∧(sliceBounds lo hi none n).2.1 = ((HT.sIx n n hi:Nat):Int)∧(sliceBounds lo hi none n).2.2 = 1:=by
 refine ⟨?_,?_,rfl⟩
 ·cases lo with
  | none=>simp [sliceBounds,HT.sIx]
  | some i =>
   simp only [sliceBounds,HT.sIx,Option.getD_none,show (1:Int) > 0 by decide,if_true]
   by_cases h:i < 0
   ·simp only [h,if_true] <;> omega
   ·simp only [h,if_false] <;> omega
 ·cases hi with
  | none=>simp [sliceBounds,HT.sIx]
  | some i =>
   simp only [sliceBounds,HT.sIx,Option.getD_none,show (1:Int) > 0 by decide,if_true]
   by_cases h:i < 0
   ·simp only [h,if_true] <;> omega
   ·simp only [h,if_false] <;> omega
theorem jh3 (its:List Value) (lo hi:Option Int):slicePick its.toArray lo hi none = ((its.drop (HT.sIx its.length 0 lo)).take (HT.sIx its.length its.length hi - HT.sIx its.length 0 lo)).toArray:=by
 obtain ⟨h1,h2,h3⟩:=jib lo hi its.toArray.size
 unfold slicePick
 rw [h1,h2,h3]
 simp only [sliceRange_one,pick_run,List.size_toArray] <;> rfl
def rSlL (K:PySem.W.Frag):V→Option Int→Option Int→Hp→VK→Prop:=fun x lo hi H Q=>∃ a xs,x = .ref a∧SqL K H a xs∧∀ p,H p = none→Q (.ref p) (upd H p (.lst (cutV xs lo hi)))
theorem jqm:SlR X (rSlL X.K):=by
 intro pins s σ H x v vl vu lo hi sl Q I rx hs pl pu h
 obtain ⟨a,xs,rfl,hx,q⟩:=h
 cases rx
 obtain ⟨its,r,ht,hz⟩:=I.list hx
 have hlen:=r.length
 refine ⟨"list",_,slot_list_getitem.lookup,ht.isList.typeIs,?_⟩
 refine wpAny_getItem_list_slice ht.isList hs pl pu .none (by simp) ?_ (by rw [List.size_toArray] <;> omega)
 rw [jh3,← hlen]
 refine ⟨.ref s.heap.objs.size,_,I.laid (t':=s.toks) (o:=.lst (cutV xs lo hi)) (fun b ob q=>Heap.get?_push_of_some _ q) (Nat.le_refl _) ?_,rfl,q _ (I.hok.fresh (Nat.le_refl _))⟩
 exact ⟨Nat.le_trans (jg5 xs lo hi) hz,_,0,(r.drop (HT.sIx xs.length 0 lo)).take (HT.sIx xs.length xs.length hi - HT.sIx xs.length 0 lo),Heap.get?_push_size _ rfl⟩
def jeo:V→Bool
 | .non=>true
 | .bl _=>true
 | .int _=>true
 | .str _=>true
 | _=>false
def eqV:V→V→Bool
 | .non,.non=>true
 | .bl a,.bl b=>a == b
 | .bl a,.int b=>(if a then 1 else 0) == b
 | .int a,.bl b=>a == (if b then 1 else 0)
 | .int a,.int b=>a == b
 | .str a,.str b=>a == b
 | _,_=>false
theorem jqe {A:Around} {s:Shared} {y x:V} {u v:Value} (ry:RelV y u) (rx:RelV x v) (fy:jeo y = true) (fx:jeo x = true):SeqAt.EqAt A s u v (eqV y x):=by
 cases y with
 | non =>
  cases ry
  cases x with
  | non=>cases rx; exact SeqAt.EqAt.same _
  | bl b=>cases rx; exact SeqAt.EqAt.none_bool b
  | int b=>obtain ⟨t,rfl⟩:=rx; exact SeqAt.EqAt.none_int b t
  | str b=>obtain ⟨t,rfl⟩:=rx; exact SeqAt.EqAt.none_str b t
  | _=>exact absurd (show false = true from fx) Bool.false_ne_true
 | bl a =>
  cases ry
  cases x with
  | non=>cases rx; exact SeqAt.EqAt.bool_none a
  | bl b=>cases rx; exact SeqAt.EqAt.bool_bool a b
  | int b=>obtain ⟨t,rfl⟩:=rx; exact SeqAt.EqAt.bool_int a b t
  | str b=>obtain ⟨t,rfl⟩:=rx; exact SeqAt.EqAt.bool_str a b t
  | _=>exact absurd (show false = true from fx) Bool.false_ne_true
 | int a =>
  obtain ⟨t',rfl⟩:=ry
  cases x with
  | non=>cases rx; exact SeqAt.EqAt.int_none a t'
  | bl b=>cases rx; exact SeqAt.EqAt.int_bool a t' b
  | int b=>obtain ⟨t,rfl⟩:=rx; exact SeqAt.EqAt.int_int a t' b t
  | str b=>obtain ⟨t,rfl⟩:=rx; exact SeqAt.EqAt.int_str a t' b t
  | _=>exact absurd (show false = true from fx) Bool.false_ne_true
 | str a =>
  obtain ⟨t',rfl⟩:=ry
  cases x with
  | non=>cases rx; exact SeqAt.EqAt.str_none a t'
  | bl b=>cases rx; exact SeqAt.EqAt.str_bool a t' b
  | int b=>obtain ⟨t,rfl⟩:=rx; exact SeqAt.EqAt.str_int a t' b t
  | str b=>obtain ⟨t,rfl⟩:=rx; exact SeqAt.EqAt.str_str a t' b t
  | _=>exact absurd (show false = true from fx) Bool.false_ne_true
 | _=>exact absurd (show false = true from fy) Bool.false_ne_true
def eqU (x:V) (u:Value):Bool:=match u with
 | .none=>eqV .non x
 | .bool b=>eqV (.bl b) x
 | .int i _=>eqV (.int i) x
 | .str z _=>eqV (.str z) x
 | _=>false
theorem jqd {x y:V} {u:Value} (r:RelV y u) (f:jeo y = true):eqU x u = eqV y x:=by
 cases y with
 | non=>cases r; rfl
 | bl b=>cases r; rfl
 | int i=>obtain ⟨t,rfl⟩:=r; rfl
 | str z=>obtain ⟨t,rfl⟩:=r; rfl
 | _=>exact absurd (show false = true from f) Bool.false_ne_true
theorem jk5 {x:V}:∀ {xs:List V} {us:List Value},Vals xs us→xs.all jeo = true→us.any (eqU x) = xs.any fun y=>eqV y x
 | _,_,.nil,_=>rfl
 | y :: xs,u :: us,.cons r t,f=>by
  rw [List.all_cons,Bool.and_eq_true] at f
  rw [List.any_cons,List.any_cons,jqd r f.1,jk5 t f.2]
theorem jhg {A:Around} {s:Shared} {x:V} {v:Value} (rx:RelV x v) (fx:jeo x = true):∀ {xs:List V} {us:List Value},Vals xs us→xs.all jeo = true→∀ u ∈ us,SeqAt.EqAt A s u v (eqU x u)
 | _,_,.nil,_=>fun u hu=>by cases hu
 | y :: xs,u :: us,.cons r t,f=>fun u' hu=>by
  rw [List.all_cons,Bool.and_eq_true] at f
  rcases List.mem_cons.mp hu with rfl | hu
  ·rw [jqd r f.1]; exact jqe r rx f.1 fx
  ·exact jhg rx fx t f.2 u' hu
def inV (x:V) (xs:List V):Bool:=xs.any fun y=>eqV y x
def rIn (K:PySem.W.Frag) (neg:Bool):R2:=fun x y H Q=>∃ p xs,y = .ref p∧(SqL K H p xs ∨ SqT K H p xs)∧jeo x = true∧xs.all jeo = true∧Q (.bl (if neg then !inV x xs else inV x xs)) H
theorem jmx:OpR X (compareOp .In) (rIn X.K false):=by
 intro pins s σ H x y v u Q I rx ry h
 obtain ⟨p,xs,rfl,hq,fx,fs,q⟩:=h
 cases ry
 rcases hq with hq | hq
 ·obtain ⟨its,r,pl,hz⟩:=I.list hq
  refine SeqAt.in_listAt (eqU x) pl.isList (fun w hw=>jhg rx fx r fs w (by simpa using hw)) ⟨.bl _,H,I,rfl,?_⟩
  rw [show its.toArray.any (eqU x) = its.any (eqU x) by simp,jk5 r fs]
  exact q
 ·obtain ⟨its,r,pl,hz⟩:=I.tuple hq
  refine SeqAt.in_tupleAt (eqU x) pl (fun w hw=>jhg rx fx r fs w (by simpa using hw)) ⟨.bl _,H,I,rfl,?_⟩
  rw [show its.toArray.any (eqU x) = its.any (eqU x) by simp,jk5 r fs]
  exact q
theorem jde:jch X (.builtin "len") (fun xs H Q=>∃ p ys,xs = [.ref p]∧(SqL X.K H p ys ∨ SqT X.K H p ys)∧Q (.int ys.length) H):=by
 intro pins s σ H xs us Q I r h
 obtain ⟨p,ys,rfl,hq,q⟩:=h
 obtain ⟨u,rfl,rx⟩:=jgw r
 cases rx
 have hn:=jkt
 rcases hq with hq | hq
 ·obtain ⟨its,r',pl,hz⟩:=I.list hq
  have hlen:=r'.length
  exact Calls.call_len_list pl.isList (by simp only [List.size_toArray] <;> omega) ⟨.int ys.length,H,I.tok _,⟨s.toks + 1,by rw [List.size_toArray,hlen]⟩,q⟩
 ·obtain ⟨its,r',pl,hz⟩:=I.tuple hq
  have hlen:=r'.length
  exact len_tuple pl (by simp only [List.size_toArray] <;> omega) ⟨.int ys.length,H,I.tok _,⟨s.toks + 1,by rw [List.size_toArray,hlen]⟩,q⟩
theorem jj4:jch X (.type "list") (fun xs H Q=>∃ p ys,xs = [.ref p]∧(SqL X.K H p ys ∨ SqT X.K H p ys)∧∀ l,H l = none→Q (.ref l) (upd H l (.lst ys))):=by
 intro pins s σ H xs us Q I r h
 obtain ⟨p,ys,rfl,hq,q⟩:=h
 obtain ⟨u,rfl,rx⟩:=jgw r
 cases rx
 have fin:∀ (its:List Value),Vals ys its→ys.length ≤ sizeLine→∀ (h':Heap) (c':Nat),(∀ b o',s.heap.get? b = some o'→h'.get? b = some o') →
   h'.get? s.heap.objs.size = some { cls:=.type "list",dict:=none,data:=.seq its.toArray c',slots:=#[] }→EP X pins σ Q (.ref s.heap.objs.size) { s with heap:=h' }:=fun its r' hz h' c' kp e =>
  ⟨.ref s.heap.objs.size,_,I.laid (t':=s.toks) kp (Nat.le_refl _) (show jbp X.prog X.w _ h' _ (.lst ys) from ⟨hz,its,c',r',e⟩),rfl,q _ (I.hok.fresh (Nat.le_refl _))⟩
 rcases hq with hq | hq
 ·obtain ⟨its,r',pl,hz⟩:=I.list hq
  have hlen:=r'.length
  obtain ⟨o,ho,hc,n,hd⟩:=pl.isList
  exact call_list_seq p (.inl rfl) ho hc hd (fun h' c' kp e=>fin its r' hz h' c' kp e) (by simp only [List.size_toArray] <;> omega)
 ·obtain ⟨its,r',pl,hz⟩:=I.tuple hq
  have hlen:=r'.length
  obtain ⟨o,ho,hc,n,hd⟩:=pl
  exact call_list_seq p (.inr rfl) ho hc hd (fun h' c' kp e=>fin its r' hz h' c' kp e) (by simp only [List.size_toArray] <;> omega)
theorem jhs:jch X (.type "tuple") (fun xs H Q=>∃ p ys,xs = [.ref p]∧((SqL X.K H p ys∧∀ l,H l = none→Q (.ref l) (upd H l (.tup ys))) ∨ (SqT X.K H p ys∧Q (.ref p) H))):=by
 intro pins s σ H xs us Q I r h
 obtain ⟨p,ys,rfl,h⟩:=h
 obtain ⟨u,rfl,rx⟩:=jgw r
 cases rx
 rcases h with ⟨hq,q⟩ | ⟨hq,q⟩
 ·obtain ⟨its,r',pl,hz⟩:=I.list hq
  have hlen:=r'.length
  refine call_tuple_list pl.isList (fun h' kp=>?_) (by simp only [List.size_toArray] <;> omega)
  have I1:Inv X pins σ H { s with heap:=h' }:=I.kept (t':=s.toks) kp
  have I2:Inv X pins σ (upd H h'.objs.size (.tup ys)) { s with heap:=h'.push { cls:=.type "tuple",data:=.seq its.toArray } } :=
   I1.laid (t':=s.toks) (fun b o e=>Heap.get?_push_of_some _ e) (Nat.le_refl _) (show jbp X.prog X.w _ _ _ (.tup ys) from ⟨hz,its,r',IsTup.new _ _⟩)
  exact ⟨.ref h'.objs.size,_,I2,rfl,q _ (I1.hok.fresh (Nat.le_refl _))⟩
 ·obtain ⟨its,r',pl,hz⟩:=I.tuple hq
  exact call_tuple_same pl ⟨.ref p,H,I,rfl,q⟩
def tyV (K:PySem.W.Frag) (T:String) (x:V) (H:Hp):Prop:=match x with
 | .str _=>T = "str"
 | .int _=>T = "int"
 | .ref p=>(T = "list"∧∃ xs,SqL K H p xs) ∨ (T = "tuple"∧∃ o,K.lookup p = some o∧o.cls = .type "tuple"∧o.dict = none) ∨
   (T = "dict"∧((∃ kvs,H p = some (.dK kvs)) ∨ ∃ kvs,H p = some (.dT kvs))) ∨ (T = "set"∧∃ S n,H p = some (.set S n))
 | _=>False
theorem tyV_is {pins:List (Addr × Obj)} {σ:St} {H:Hp} {s:Shared} {T:String} {x:V} {v:Value} (I:Inv X pins σ H s) (r:RelV x v) (ty:tyV X.K T x H) :
  s.TypeIs v T∧∀ a,v = .ref a→∃ ob,s.heap.get? a = some ob∧ob.dict = none:=by
 cases x with
 | str z =>
  obtain ⟨t,rfl⟩:=r
  cases (show T = "str" from ty)
  exact ⟨typeIs_str s z t,fun _ e=>nomatch e⟩
 | int i =>
  obtain ⟨t,rfl⟩:=r
  cases (show T = "int" from ty)
  exact ⟨typeIs_int s i t,fun _ e=>nomatch e⟩
 | ref p =>
  cases r
  rcases ty with ⟨rfl,xs,hq⟩ | ⟨rfl,o,hk,hc,hd⟩ | ⟨rfl,hk⟩ | ⟨rfl,S,n,hk⟩
  ·obtain ⟨its,_,pl,_⟩:=I.list hq
   refine ⟨pl.isList.typeIs,fun a e=>?_⟩
   cases e
   obtain ⟨o,n,e,c,hd,_⟩:=pl
   exact ⟨o,e,hd⟩
  ·refine ⟨⟨o,I.kIn p o hk,hc⟩,fun a e=>?_⟩
   cases e
   exact ⟨o,I.kIn _ o hk,hd⟩
  ·have z:∃ o,s.heap.get? p = some o∧o.ExactDict:=by
    rcases hk with ⟨kvs,hk⟩ | ⟨kvs,hk⟩
    ·obtain ⟨_,_,_,_,o,_,_,e,ex,_⟩:=I.hok p _ hk
     exact ⟨o,e,ex⟩
    ·obtain ⟨_,_,_,_,o,_,_,e,ex,_⟩:=I.hok p _ hk
     exact ⟨o,e,ex⟩
   obtain ⟨o,e,ex⟩:=z
   refine ⟨⟨o,e,ex.1⟩,fun a e2=>?_⟩
   cases e2
   exact ⟨o,e,ex.2.1⟩
  ·obtain ⟨o,_,_,_,e,ex,_⟩:=I.hok p _ hk
   refine ⟨⟨o,e,ex.1⟩,fun a e2=>?_⟩
   cases e2
   exact ⟨o,e,ex.2.1⟩
 | _=>exact False.elim ty
variable {o e:Expr} {es:List Expr} {to:TE} {t:TA} {name:Str} {apos cpos:Pos} {T id:String} {r:V→List V→Hp→VK→Prop}
/- xs.append(e),list.index on a module's tuple .. are MtR facts of 06m -/
end
end L2
namespace L2
open PySem PySem.Spec PyProof.Rows
def MtM (X:Cx) (id:String) (r:V→List V→Hp→VK→Prop):Prop :=
 ∀ (pins:List (Addr × Obj)) (s:Shared) (σ:St) (H:Hp) (x:V) (xs:List V) (v:Value) (us:List Value) (Q:VK),Inv X pins σ H s→RelV x v→Vals xs us→r x xs H Q →
  wpAny (model X.prog X.w) X.A (call (.builtin id) (v :: us)) (EP X pins σ Q) X.xe s
theorem Vals.one:∀ {x:V} {us:List Value},Vals [x] us→∃ u,us = [u]∧RelV x u
 | _,_,.cons r .nil=>⟨_,rfl,r⟩
theorem Vals.two:∀ {x y:V} {us:List Value},Vals [x,y] us→∃ u v,us = [u,v]∧RelV x u∧RelV y v
 | _,_,_,.cons r (.cons q .nil)=>⟨_,_,rfl,r,q⟩
theorem Vals.eraseIdx:∀ {xs:List V} {us:List Value} (i:Nat),Vals xs us→Vals (xs.eraseIdx i) (us.eraseIdx i)
 | _,_,_,.nil=>.nil
 | _,_,0,.cons _ t=>t
 | _,_,i + 1,.cons r t=>.cons r (Vals.eraseIdx i t)
theorem Vals.rep {xs:List V} {us:List Value} (h:Vals xs us):∀ k:Nat,Vals (List.replicate k xs).flatten (List.replicate k us).flatten
 | 0=>.nil
 | k + 1=>by
  rw [List.replicate_succ,List.replicate_succ,List.flatten_cons,List.flatten_cons]
  exact Vals.append h (Vals.rep h k)
theorem jis {α:Type}:∀ (l:List α) (i:Nat),(l.eraseIdx i).length ≤ l.length
 | [],_=>Nat.le_refl _
 | _ :: _,0=>Nat.le_succ _
 | _ :: r,i + 1=>Nat.succ_le_succ (jis r i)
section
variable {X:Cx} {pins:List (Addr × Obj)} {σ:St} {H:Hp} {s:Shared} {l b:Addr} {xs ys zs:List V}
theorem Inv.lset {its its':List Value} {n:Nat} {f:Array Value→Array Value} {t':Nat} (I:Inv X pins σ H s) (hH:H l = some (.lst xs))
  (e:s.heap.get? l = some { cls:=.type "list",data:=.seq its.toArray n }) (hf:f its.toArray = its'.toArray) (hv:Vals ys its') (hz:ys.length ≤ sizeLine) :
  Inv X pins σ (upd H l (.lst ys)) { s with heap:=s.heap.update l (Obj.mapSeq f),toks:=t' }:=by
 have q:=PySem.IsL.update e f
 rw [hf] at q
 refine I.write (x:=l) (e:=l) (by rw [hH]; exact trivial) (.inl rfl) (fun b' u hb hu=>(Heap.get?_update_other s.heap (Obj.mapSeq f) (Ne.symm hb)).trans hu) ⟨_,q⟩ ?_
 exact ⟨hz,its',_,hv,q⟩
theorem Inv.lnew {its:List Value} {t':Nat} (I:Inv X pins σ H s) (hv:Vals ys its) (hz:ys.length ≤ sizeLine) :
  Inv X pins σ (upd H s.heap.objs.size (.lst ys)) { s with heap:=s.heap.push { cls:=.type "list",data:=.seq its.toArray },toks:=t' } :=
 I.laid (fun _ _ q=>Heap.get?_push_of_some _ q) (Nat.le_refl _) ⟨hz,its,0,hv,Heap.get?_push_size _ rfl⟩
theorem Inv.fresh (I:Inv X pins σ H s):H s.heap.objs.size = none:=I.hok.fresh (Nat.le_refl _)
theorem Inv.lstM (I:Inv X pins σ H s) (hH:H l = some (.lst xs)):xs.length ≤ sizeLine∧∃ (its:List Value) (n:Nat),Vals xs its∧xs.length = its.length∧s.heap.get? l = some { cls:=.type "list",data:=.seq its.toArray n }:=by
 obtain ⟨z,its,n,r,e⟩:=I.hok l _ hH
 exact ⟨z,its,n,r,r.length,e⟩
end
section
variable {X:Cx}
def jmk:V→List V→Hp→VK→Prop:=fun x vs H Q=>∃ l xs y,x = .ref l∧vs = [y]∧H l = some (.lst xs)∧xs.length < sizeLine∧Q .non (upd H l (.lst (xs ++ [y])))
theorem jip:MtM X "list.append" jmk:=by
 intro pins s σ H x vs v us Q I rx rv h
 obtain ⟨l,xs,y,rfl,rfl,hH,hz,q⟩:=h
 cases rx
 obtain ⟨u,rfl,ru⟩:=rv.one
 obtain ⟨z,its,n,r,hl,e⟩:=I.lstM hH
 refine call_meets F.slot_list_append ⟨_,e,rfl⟩ F.entry_list_append (F.args_list_append_2 _ _) (PySem.list_append l its.toArray n u (by rw [List.size_toArray]; omega)) ⟨e,?_⟩
 refine ⟨.non,_,I.lset (its':=its ++ [u]) hH e (by simp) (r.append (.cons ru .nil)) ?_,rfl,q⟩
 rw [List.length_append,List.length_singleton]
 omega
def jpw:V→List V→Hp→VK→Prop:=fun x vs H Q=>∃ l xs i k y,x = .ref l∧vs = [.int i]∧H l = some (.lst xs)∧-(2 ^ 63) ≤ i∧i < 2 ^ 63∧seqIndex? i xs.length = some k∧xs[k]? = some y∧Q y (upd H l (.lst (xs.eraseIdx k)))
theorem jp2:MtM X "list.pop" jpw:=by
 intro pins s σ H x vs v us Q I rx rv h
 obtain ⟨l,xs,i,k,y,rfl,rfl,hH,h1,h2,hk,hy,q⟩:=h
 cases rx
 obtain ⟨u,rfl,ru⟩:=rv.one
 obtain ⟨t,rfl⟩:=ru
 obtain ⟨z,its,n,r,hl,e⟩:=I.lstM hH
 obtain ⟨w,hw,rw'⟩:=r.get hy
 refine call_meets F.slot_list_pop ⟨_,e,rfl⟩ F.entry_list_pop (F.args_list_pop_2 _ _)
  (MeetsSeq.list_pop_at l its.toArray n i t k w (fitsIndex_both h1 h2) (by rw [List.size_toArray,← hl]; exact hk) (by rw [← Array.getElem?_toList]; exact hw) (by rw [List.size_toArray]; omega)) ⟨e,?_⟩
 refine ⟨y,_,I.lset (its':=its.eraseIdx k) hH e ?_ (r.eraseIdx k) ?_,rw',q⟩
 ·show its.toArray.eraseIdxIfInBounds k = (its.eraseIdx k).toArray
  rw [List.eraseIdxIfInBounds_toArray]
 ·have:=jis xs k
  omega
def rCat:R2:=fun x y H Q=>∃ l b xs zs,x = .ref l∧y = .ref b∧H l = some (.lst xs)∧H b = some (.lst zs)∧xs.length + zs.length ≤ sizeLine∧∀ p,H p = none→Q (.ref p) (upd H p (.lst (xs ++ zs)))
theorem op_cat:OpR X (binaryOp .Add) rCat:=by
 intro pins s σ H x y v u Q I rx ry h
 obtain ⟨l,b,xs,zs,rfl,rfl,hH,hB,hz,q⟩:=h
 cases rx
 cases ry
 obtain ⟨z,its,n,r,hl,e⟩:=I.lstM hH
 obtain ⟨z2,its2,n2,r2,hl2,e2⟩:=I.lstM hB
 refine PySem.P.add_list e e2 ?_ (by rw [List.size_toArray,List.size_toArray]; omega)
 have ea:its.toArray ++ its2.toArray = (its ++ its2).toArray:=by simp
 rw [ea]
 exact ⟨.ref _,_,I.lnew (t':=s.toks) (r.append r2) (by rw [List.length_append]; omega),rfl,q _ I.fresh⟩
end
section
variable {prog:Program} {w:World} {A:Around} {E:Value→Shared→Prop} {s:Shared}
end
section
variable {X:Cx}
end
end L2
namespace Att
open PySem PySem.W PySem.Calls PyProof.Rows
theorem jg2 {P:Params} {h:Heap}:∀ (ns:List Int) (vs:List Value),WellAll P h vs (ns.map WData.int)→IntsAre vs ns:=by
 intro ns
 induction ns with
 | nil =>
  intro vs w
  rw [List.map_nil] at w
  cases w
  exact .nil
 | cons n ns ih =>
  intro vs w
  rw [List.map_cons] at w
  cases w with
  | cons a b =>
   cases a
   exact .cons _ _ (ih _ b)
theorem jmh {l:OpenLaw} {n:Nat} (hn:l.most = some n) {P:Params} {h:Heap} {args:List WData} {vals:List Value}
  (hpre:l.row.toRowW.claim.pre args = true) (hwl:WellAll P h vals args) :
  ∃ a vs ns,vals = [Value.ref a]∧args = [WData.list (ns.map WData.int)]∧h.get? a = some { cls:=.type "list",data:=.seq vs.toArray }∧IntsAre vs ns∧ns.length ≤ n:=by
 have hsh:WShape.hasAll [] args [.list .int] = true:=(pre_splitW hpre).1
 have hc:l.pre.holds [] { args:=args } = true:=(pre_splitW hpre).2
 obtain ⟨d,r,rfl,h1,h2⟩:=hasAllW_cons hsh
 obtain rfl:=hasAllW_nil h2
 obtain ⟨xs,rfl,h3⟩:=hasW_list h1
 obtain ⟨ns,rfl⟩:=items_int h3
 have hlen:ns.length ≤ n:=by
  unfold OpenLaw.pre at hc
  have h4:(WTm.not (.lt (.lit (.int (n:Int))) (.len (.arg 0)))).holds [] { args:=[.list (ns.map .int)] } = true:=by
   have h4:=(holds_andW hc).1
   rw [hn] at h4
   exact h4
  have h5:=condW_of h4 (w_not (w_lt w_lit (w_len_list (w_arg rfl))))
  rw [List.length_map] at h5
  refine Nat.le_of_not_lt fun q=>?_
  have q':(n:Int) < ((ns.length:Nat):Int):=by omega
  first
   | (rw [decide_eq_true q'] at h5; exact absurd h5 (by decide))
   | (simp at h5; omega)
 cases hwl with
 | cons w1 w2 =>
  cases w2
  cases w1 with
  | list ho hall=>exact ⟨_,_,ns,rfl,rfl,ho,jg2 ns _ hall,hlen⟩
theorem jmp (l:OpenLaw) (args:List WData):l.row.toRowW.claim.post args (.bool true) args = true :=
 postW_of (r:=l.row.toRowW) (X:=(true == true))
  (show WShape.has [] (.bool true) .bool = true by first | rfl | decide | simp [WShape.has,WShape.arms,WShape.armsAll])
  (show (WTm.eq .res (.lit (.bool true))).value [] { args:=args,res:=some (.bool true),after:=args } = some (.bool (true == true)) from w_eq_bool (w_res rfl) w_lit) rfl
theorem attach_call {l:OpenLaw} {n:Nat} {q:Program} {loose:List Str} {XP:(Str→Option Value)→Heap→Prop} {YP:World→Heap→Prop} {d:DefRec}
  (hn:l.most = some n) (hdf:d.params.defaults = [])
  (call:∀ (w:World) (s₀ s₁:Shared) (mg mb:Str→Option Value) (fa:Addr) (o:Obj) (pm cd doc:Value) (a:Addr) (vs:List Value) (ns:List Int),
   Ground q loose [] XP w s₀ mg mb s₁.heap→YP w s₁.heap →
   s₁.heap.get? fa = some o→o.data = .func (docDef d.name d.params d.body d.scope pm cd doc)→s₁.heap.CodeRec cd d.name→mg d.name = some (.ref fa) →
   s₁.heap.get? a = some { cls:=.type "list",data:=.seq vs.toArray }→IntsAre vs ns→ns.length ≤ n→s₁.gens = #[] →
   codeAny (model l.prog w) callerA (.call (.ref fa) ⟨[.ref a],[]⟩) (fun r s'=>r = .ok (.ret (.bool true))∧OldK s₁.heap s'.heap∧s'.os = s₁.os∧AllBare s'.gens) s₁) :
  WalkO q loose XP YP l.row.toRowW d [] (fun f vs=>PySem.call f vs):=by
 intro w s₀ s₁ mg mb G Y fa o pm cd doc dV kV ho hd hcd hD hmg hg args vals as hpre hlay hrd hwl hlo
 obtain rfl:dV = .none:=Dflts.none hD hdf
 obtain rfl:kV = .none:=Dflts.noKw hD
 obtain ⟨a,vs,ns,rfl,rfl,hobj,hints,hlen⟩:=jmh hn hpre hwl
 refine enter_call (codeAny_mono (call w s₀ s₁ mg mb fa o pm cd doc a vs ns G Y ho (fd_plain hd) hcd hmg hobj hints hlen hg) fun r s' hq=>?_)
 obtain ⟨rfl,h2,h3,h4⟩:=hq
 exact ⟨.inl ⟨.bool true,.bool true,[],rfl,fun _=>rfl,.bool true,jmp l _,fun _=>⟨List.Pairwise.nil,fun _ hm=>(nomatch hm)⟩⟩,h2,h3,h4⟩
section
variable {prog:Program} {w:World} {A:Around} {E:Value→Shared→Prop} {s:Shared} {K:Frag}
end
end Att
namespace L2
open PySem PySem.Spec PyProof.Rows
theorem ji3:∀ {vs:List Value} {ns:List Int},IntsAre vs ns→Vals (ns.map V.int) vs
 | _,_,.nil=>.nil
 | _,_,.cons n t h=>.cons ⟨t,rfl⟩ (ji3 h)
def Only (H:Hp):Prop:=∀ b,H b = none ∨ ∃ o xs,H b = some (.frz o (.lst xs))
theorem jp4 {P:Program} {w:World} {K:PySem.W.Frag} {mg mb:Str→Option Value} {CX:CXT} {k:Nat} {fa a:Addr} {fd:FuncData} {x:Str} {sp:Sp} {s₁:Shared} {vs:List Value} {ns:List Int}
  (KX:K.In s₁.heap) (hns:s₁.heap.Ns mainGlobals mg) (hb:s₁.heap.Ns builtinsNs mb) (hbb:∀ x:Str,x ≠ "__name__"→mb x = bootBuiltins x) (hlim:s₁.heap.NoLimit) (hg:s₁.gens = #[])
  (ha:s₁.heap.get? a = some { cls:=.type "list",data:=.seq vs.toArray }) (hi:IntsAre vs ns) (hl:ns.length ≤ sizeLine) (hr:Room k callerA)
  (F:∀ base:Heap,K.In base→base.Ns mainGlobals mg→FnOk P w K mg base CX k fa fd [x] sp) (hbind:∀ (s:Shared) (u:Value),BindsTo s fd ⟨[u],[]⟩ [(x,u)])
  (hsp:∀ H:Hp,Only H→SqL K H a (ns.map V.int)→sp [.ref a] H (fun v _=>v = .bl true) fun _ _ _=>False)
  (hCX:∀ H e s',CX [] H s₁ (fun _ _ _=>False) e s'→False) :
  codeAny (model P w) callerA (.call (.ref fa) ⟨[.ref a],[]⟩) (fun r s'=>r = .ok (.ret (.bool true))∧OldK s₁.heap s'.heap∧s'.os = s₁.os∧AllBare s'.gens) s₁:=by
 have rv:=ji3 hi
 have lenV:=hi.length
  -- from an abstract heap in which nothing but the script may be tracked
 have core:∀ H:Hp,Only H→SqL K H a (ns.map V.int)→HOk P w H s₁.heap→(∀ b,H b ≠ none→b = a)→(H a ≠ none→K.lookup a = none) →
   codeAny (model P w) callerA (.call (.ref fa) ⟨[.ref a],[]⟩) (fun r s'=>r = .ok (.ret (.bool true))∧OldK s₁.heap s'.heap∧s'.os = s₁.os∧AllBare s'.gens) s₁:=by
  intro H hO hS hok hA hK
  have base_of:∀ {b:Addr} {o:Obj},s₁.heap.get? b = some o→H b = none→(hidT s₁.heap H).get? b = some o:=fun e n=>jpb e n
  have noA:∀ {b:Addr} {o:Obj} {es:Array DictEntry} {ep:Nat},s₁.heap.get? b = some o→o.data = .dict es ep→H b = none:=fun {b o es ep} e d=>by
   cases q:H b with
   | none=>rfl
   | some u =>
    have e':b = a:=hA b (by rw [q]; simp)
    subst e'
    rw [ha] at e; cases e
    have d':Data.seq vs.toArray _ = Data.dict es ep:=d
    cases d'
  have nsK:∀ {b:Addr} {m:Str→Option Value},s₁.heap.Ns b m→(hidT s₁.heap H).Ns b m:=fun {b m} ⟨o,es,ep,e,d,r⟩=>⟨o,es,ep,base_of e (noA e d),d,r⟩
  have hKb:K.In (hidT s₁.heap H):=fun b o e=>base_of (KX b o e) (by
   cases q:H b with
   | none=>rfl
   | some u =>
    have e':b = a:=hA b (by rw [q]; simp)
    subst e'
    rw [hK (by rw [q]; simp)] at e; cases e)
  have hM:Mod K mg (hidT s₁.heap H):=⟨hKb,nsK hns,⟨mb,nsK hb,hbb⟩,let ⟨mc,h1,h2⟩:=hlim; ⟨mc,nsK h1,h2⟩⟩
  have e0:Env0 P w K mg (hidT s₁.heap H) callerA [] s₁ H:=⟨rfl,hM,fun b o e=>jqv e,Nat.le_of_eq (jnm _ _),trivial,fun b hb=>absurd (show b ∈ ([]:List Addr) from hb) (by simp),hok,.of_eq hg⟩
  refine codeAny_mono ((F _ hKb (nsK hns)).run callerA [] s₁ H ⟨[.ref a],[]⟩ [.ref a] [.ref a] _ _ hr e0 (hbind s₁ (.ref a)) (.cons rfl .nil) (hsp H hO hS)) fun r s' h=>?_
  cases r with
  | error e=>exact (hCX H e s' h).elim
  | ok fl =>
   cases fl with
   | next=>exact False.elim h
   | brk=>exact False.elim h
   | cont=>exact False.elim h
   | ret u =>
    obtain ⟨v,H',os,bare,un,hok',r',q⟩:=h
    have q':v = .bl true:=q
    subst q'
    obtain rfl:u = Value.bool true:=r'
    refine ⟨rfl,OldK.of_keep fun b o e=>?_,os,bare⟩
    cases q:H b with
    | none=>exact un.keep b o e q (by intro z; exact absurd (show b ∈ ([]:List Addr) from z) (by simp)) (by simp)
    | some u =>
     rcases hO b with z | ⟨ob,xs,z⟩
     ·rw [q] at z; cases z
     ·have z2:=un.frzs b ob _ z
      obtain ⟨e1,_⟩:=hok b _ z
      obtain ⟨e2,_⟩:=hok' b _ z2
      rw [e] at e1; cases e1
      exact e2
 cases hk:K.lookup a with
 | some o =>
    -- the script is one of the module's own objects
  have e:=KX a o hk
  rw [ha] at e
  cases e
  refine core (fun _=>none) (fun _=>.inl rfl) (.inr ⟨_,vs.toArray,_,hk,rfl,rfl,rfl,by rw [List.size_toArray,lenV]; exact hl,by simpa using rv⟩) (fun b u z=>by have z':(none:Option HO) = some u:=z; cases z') (fun b z=>absurd rfl z) fun z=>absurd rfl z
 | none =>
  refine core (fun b=>if b = a then some (.frz { cls:=.type "list",data:=.seq vs.toArray } (.lst (ns.map V.int))) else none) (fun b=>?_) (.inl (.inr ⟨{ cls:=.type "list",data:=.seq vs.toArray },if_pos rfl⟩)) (fun b u z=>?_) (fun b z=>?_) fun _=>hk
  ·by_cases hb:b = a
   ·exact .inr ⟨_,_,if_pos hb⟩
   ·exact .inl (if_neg hb)
  ·by_cases hb:b = a
   ·have z':=(if_pos hb).symm.trans z
    cases z'
    subst hb
    exact ⟨ha,by rw [List.length_map]; exact hl,vs,_,rv,ha⟩
   ·have z':=(if_neg hb).symm.trans z
    cases z'
  ·by_cases hb:b = a
   ·exact hb
   ·exact absurd (if_neg hb) z
end L2
namespace L2
open PySem PySem.Spec PyProof.Rows
abbrev KOf {K:PySem.W.Frag} {h:Heap} (_:K.In h):PySem.W.Frag:=K
theorem jlv {l:PySem.W.OpenLaw} {n k:Nat} {q:Program} {loose:List Str} {XP:(Str→Option Value)→Heap→Prop} {YP:World→Heap→Prop} {d:DefRec} {K:Params→PySem.W.Frag} {CX:World→CXT} {sp:World→Sp} {x:Str}
    (hn:l.most = some n) (hn2:n ≤ sizeLine) (hdf:d.params.defaults = []) (hr:Room k callerA)
    (hY:∀ (w:World) (h:Heap),YP w h→(K w.params).In h)
    (F:∀ (w:World) (mg:Str→Option Value) (fa:Addr) (h:Heap),(K w.params).In h→h.Ns mainGlobals mg→mg d.name = some (.ref fa) →
      ∃ fd:FuncData,(∀ (s:Shared) (u:Value),BindsTo s fd ⟨[u],[]⟩ [(x,u)]) ∧
        ∀ base:Heap,(K w.params).In base→base.Ns mainGlobals mg→FnOk l.prog w (K w.params) mg base (CX w) k fa fd [x] (sp w))
    (hsp:∀ (w:World) (H:Hp) (a:Addr) (ns:List Int),ns.length ≤ n→Only H→SqL (K w.params) H a (ns.map V.int)→sp w [.ref a] H (fun v _=>v = .bl true) fun _ _ _=>False)
    (hCX:∀ (w:World) (H:Hp) (s:Shared) (e:Value) (s':Shared),CX w [] H s (fun _ _ _=>False) e s'→False) :
    PySem.W.WalkO q loose XP YP l.row.toRowW d [] (fun f vs=>PySem.call f vs):=by
  refine Att.attach_call hn hdf fun w s₀ s₁ mg mb fa o pm cd doc a vs ns G Y ho hd hcd hmg hobj hints hlen hg=>?_
  have KX:=hY w _ Y
  obtain ⟨fd,hb,hF⟩:=F w mg fa _ KX G.T.g hmg
  exact jp4 KX G.T.g G.T.b G.T.builtins G.T.nolimit hg hobj hints (Nat.le_trans hlen hn2) hr hF hb (fun H hO hS=>hsp w H a ns hlen hO hS) fun H e s'=>hCX w H s₁ e s'
end L2
/- THE LAST THEOREM (shape; LID,My.* are yours):
   My.Adr: a structure of the addresses that your layer names (classes,functions); My.Txt K t: a structure (Prop) of the equations over K;
   My.txt_mk:{K} {implicit addresses ..} (e1:nsIn K mainGlobals "law" = some (some (.ref f))) (e2:K.lookup f = some ⟨oc,od,.func (fnOf "law" "law" params body scope dV kV doc pm an cdv ct),sl⟩) (e3:codeIn K cdv "law" = true) ..:∃ t,My.Txt K t
set_option maxRecDepth 100000 in
set_option maxHeartbeats 0 in
theorem PySem.Challenge.cw_LID_holds : PySem.Challenge.rw_LID.Holds := by
 w_on; o_law; k_head; (case hw=>w_witness2)
 k_fill
 refine L2.jlv (l:=PySem.Challenge.rw_LID) (n:=63) (k:=40) (x:="script") (CX:=fun w=>..) (sp:=fun _=>My.sp_law) rfl (by decide) rfl ⟨rfl,by decide,by decide⟩ (fun w h Y=>PySem.W.kIn_of Y) ?F ?S ?C
 case F =>
  intro w mg fa h KX G hmg
  have T:∃ t,My.Txt (L2.KOf KX) t:=by
   dsimp only [L2.KOf]                          -- K must stand as «<heap const> w.params» for k_is
   refine' My.txt_mk ?e1 ?e2 ?e3 ..
   (case e1=>PySem.W.k_is)                    -- in the order: a name -> its address -> its object -> its parts
   (case e2=>PySem.W.k_is)
   ..
  obtain ⟨t,T⟩:=T
  have e0:=hmg.symm.trans (PySem.W.mg_of KX G T.law)
  cases e0                                       -- fa is the law's own address
  exact ⟨_,fun s u=>.of_eq rfl,fun base kb nb=>My.law_fn T kb nb⟩     -- if «.of_eq rfl» comes too early: refine' ⟨_,?b,fun base kb nb=>My.law_fn T kb nb⟩; exact fun s u=>.of_eq rfl
 case S=>exact fun w H a ns hl hO hS=>..
 case C=>exact ..
(the tactic k_is has no namespace: write k_is) -/
namespace L2
open PySem PySem.Spec PyProof.Rows
def jdd (s:Stmt):Arguments:=match s with
 | .FunctionDef _ a _ _ _ _ _ _ _ _=>a
 | _=>{ posonlyargs:=[],args:=[],vararg:=none,kwonlyargs:=[],kw_defaults:=[],kwarg:=none,defaults:=[] }
def jd4 (s:Stmt):List Stmt:=match s with
 | .FunctionDef _ _ b _ _ _ _ _ _ _=>b
 | _=>[]
def jac (s:Stmt):Scope:=match s with
 | .FunctionDef _ _ _ _ _ _ sc _ _ _=>sc
 | _=>{ kind:=.function,names:=[],isGenerator:=false,isCoroutine:=false }
abbrev CX0:CXT:=fun _ _ _ _ _ _=>False
abbrev E0:XK:=fun _ _ _=>False
theorem jar {X:Cx}:jof CX0 X E0:=fun _ _ _ _ _ _ _ h=>h.elim
structure Fun (K:PySem.W.Frag) (x qual:Str) (st:Stmt) (f:Addr) (fd:FuncData):Prop where
 ex:∃ (oc:Value) (od:Option Addr) (kV doc pm:Value) (an:Option Addr) (cdv ct:Value) (osl:Array (Option Value)),
  fd = PySem.W.fnOf x qual (jdd st) (jd4 st) (jac st) .none kV doc pm an cdv ct∧K.lookup f = some ⟨oc,od,.func fd,osl⟩∧PySem.W.codeIn K cdv qual = true
 kp:PySem.W.keepIn K (.ref f) = true
section
variable {P:Program} {w:World} {K:PySem.W.Frag} {mg:Str→Option Value} {base:Heap}
theorem Fun.ok {x qual:Str} {st:Stmt} {f:Addr} {fd:FuncData} {N ps:List Str} {k:Nat} {sp:Sp} (F:Fun K x qual st f fd) (S:FnScope N ps (jac st)) (len:∀ vs H Q E,sp vs H Q E→vs.length = ps.length)
  (hbody:∀ (cdv:Value) (A:Around) (outer:List Env) (s:Shared) (H:Hp) (vs:List V) (Q:VK) (E:XK),Room k (A.deeper (envOfC qual (jac st) s.heap.objs.size f cdv))→sp vs H Q E →
   ∃ t,PSs (cxOf CX0 P w K mg base N qual (jac st) f cdv A outer s H E).nox (jd4 st) t∧t { nx:=fun _ H'=>Q .non H',rt:=Q } (start N vs) H):FnOk P w K mg base CX0 (k + 1) f fd ps sp:=by
 obtain ⟨oc,od,kV,doc,pm,an,cdv,ct,osl,rfl,lk,hcd⟩:=F.ex
 refine fn_of lk hcd S len fun A outer s H vs Q E hr hsp=>?_
 obtain ⟨t,h,q⟩:=hbody cdv A outer s H vs Q E hr hsp
 exact ⟨t,h.nox,q⟩
theorem Fun.binds {x qual:Str} {st:Stmt} {f:Addr} {fd:FuncData} {ps:List Str} (F:Fun K x qual st f fd)
  (h:∀ (kV doc pm:Value) (an:Option Addr) (cdv ct:Value) (us:List Value),us.length = ps.length→bindArgs (PySem.W.fnOf x qual (jdd st) (jd4 st) (jac st) .none kV doc pm an cdv ct) ⟨us,[]⟩ = pure (ps.zip us)):jk7 K fd ps []:=by
 obtain ⟨oc,od,kV,doc,pm,an,cdv,ct,osl,rfl,lk,hcd⟩:=F.ex
 exact .all (h kV doc pm an cdv ct)
theorem jax {x qual:Str} {st:Stmt} {f:Addr} {oc:Value} {od an:Option Addr} {osl:Array (Option Value)} {kV doc pm cdv ct:Value} (l:K.lookup f = some ⟨oc,od,.func (PySem.W.fnOf x qual (jdd st) (jd4 st) (jac st) .none kV doc pm an cdv ct),osl⟩)
  (c:PySem.W.codeIn K cdv qual = true) (k:PySem.W.keepIn K (.ref f) = true):Fun K x qual st f (PySem.W.fnOf x qual (jdd st) (jd4 st) (jac st) .none kV doc pm an cdv ct):=⟨⟨oc,od,kV,doc,pm,an,cdv,ct,osl,rfl,l,c⟩,k⟩
end
theorem jbo {A:Around} {k:Nat} (hr:Room k A):A.units + 1 < cLine:=Nat.lt_of_le_of_lt (Nat.add_le_add_left (by decide:1 ≤ 64) _) hr.units
section
variable {X:Cx}
end
theorem ite2 {c A B:Prop} [Decidable c] (h1:c→A) (h2:¬ c→B):if c then A else B:=by
 by_cases h:c
 ·rw [if_pos h]
  exact h1 h
 ·rw [if_neg h]
  exact h2 h
def Same (H H':Hp):Prop:=∀ b o,H b = some o→H' b = some o
theorem Same.refl (H:Hp):Same H H:=fun _ _ h=>h
theorem Same.trans {H H1 H2:Hp} (a:Same H H1) (b:Same H1 H2):Same H H2:=fun c o h=>b c o (a c o h)
theorem Same.free {H H':Hp} (e:Same H H') {l:Addr} (h:H' l = Option.none):H l = Option.none:=by
 cases q:H l with
 | none=>rfl
 | some o =>
  rw [e l o q] at h
  cases h
end L2
set_option maxHeartbeats 8000000
namespace L2
open PySem PySem.Spec PyProof.Rows
section
variable {κ:Type} [DecidableEq κ]
def valV (kvs:List (κ × V)) (k:κ):Option V:=(kvs.find? fun kv=>decide (kv.1 = k)).map (·.2)
def putK (kvs:List (κ × V)) (k:κ) (v:V):List (κ × V) :=
 if (kvs.any fun kv=>decide (kv.1 = k)) = true then kvs.map (fun kv=>if kv.1 = k then (kv.1,v) else kv) else kvs ++ [(k,v)]
theorem jbt {p:κ × V} {r:List (κ × V)} {k:κ} (e:p.1 = k):valV (p :: r) k = some p.2:=by simp [valV,List.find?_cons,e]
theorem jbu {p:κ × V} {r:List (κ × V)} {k:κ} (e:¬ p.1 = k):valV (p :: r) k = valV r k:=by simp [valV,List.find?_cons,e]
theorem jdv (k:κ):∀ kvs:List (κ × V),(kvs.any fun kv=>decide (kv.1 = k)) = (valV kvs k).isSome
 | []=>rfl
 | p :: r=>by
  rw [List.any_cons]
  by_cases e:p.1 = k
  ·simp only [jbt e,decide_eq_true e,Bool.true_or,Option.isSome_some]
  ·rw [jbu e,decide_eq_false e,Bool.false_or]; exact jdv k r
theorem jk8 (k j:κ) (y:V):∀ kvs:List (κ × V),valV (kvs.map fun kv=>if kv.1 = k then (kv.1,y) else kv) j = (valV kvs j).map fun x=>if j = k then y else x
 | []=>rfl
 | p :: r=>by
  have ih:=jk8 k j y r
  rw [List.map_cons]
  by_cases h:p.1 = k
  ·rw [if_pos h]
   by_cases e:p.1 = j
   ·rw [jbt (p:=(p.1,y)) e,jbt e,Option.map_some,if_pos (e.symm.trans h)]
   ·rw [jbu (p:=(p.1,y)) e,jbu e,ih]
  ·rw [if_neg h]
   by_cases e:p.1 = j
   ·rw [jbt (p:=p) e,jbt e,Option.map_some,if_neg (fun z=>h (e.trans z))]
   ·rw [jbu (p:=p) e,jbu e,ih]
theorem ji4 (k j:κ) (y:V):∀ kvs:List (κ × V),valV kvs k = none→valV (kvs ++ [(k,y)]) j = if j = k then some y else valV kvs j
 | [],_=>by
  by_cases e:k = j
  ·rw [if_pos e.symm]; exact jbt (p:=(k,y)) e
  ·rw [if_neg (fun z=>e z.symm)]; exact jbu (p:=(k,y)) e
 | p :: r,hn=>by
  rw [List.cons_append]
  have hk:¬ p.1 = k:=fun z=>by rw [jbt z] at hn; cases hn
  rw [jbu hk] at hn
  have ih:=ji4 k j y r hn
  by_cases e:p.1 = j
  ·rw [jbt e,jbt e,if_neg (fun z=>hk (e.trans z))]
  ·rw [jbu e,jbu e,ih]
theorem jol (kvs:List (κ × V)) (k j:κ) (y:V):valV (putK kvs k y) j = if j = k then some y else valV kvs j:=by
 unfold putK
 by_cases a:(kvs.any fun kv=>decide (kv.1 = k)) = true
 ·rw [if_pos a,jk8]
  rw [jdv] at a
  by_cases e:j = k
  ·obtain ⟨x,hx⟩:=Option.isSome_iff_exists.mp a
   rw [if_pos e,e,hx,Option.map_some,if_pos rfl]
  ·rw [if_neg e]
   cases valV kvs j with
   | none=>rfl
   | some x=>rw [Option.map_some,if_neg e]
 ·rw [if_neg a]
  refine ji4 k j y kvs ?_
  rw [jdv] at a
  cases q:valV kvs k with
  | none=>rfl
  | some x=>rw [q] at a; exact (a rfl).elim
theorem jdt (kvs:List (κ × V)) (k:κ) (v:V):(putK kvs k v).length ≤ kvs.length + 1:=by
 unfold putK
 split
 ·rw [List.length_map]; omega
 ·rw [List.length_append,List.length_cons,List.length_nil]; omega
theorem jkk {kvs:List (κ × V)} {k:κ} (v:V) (h:valV kvs k = none):putK kvs k v = kvs ++ [(k,v)]:=by
 unfold putK
 rw [jdv,h]
 exact if_neg (by decide)
theorem RelO.isSome_eq {o:Option V} {u:Option Value} (r:RelO o u):o.isSome = u.isSome:=by
 cases o with
 | none=>cases u with
  | none=>rfl
  | some _=>exact (show False from r).elim
 | some _=>cases u with
  | none=>exact (show False from r).elim
  | some _=>rfl
theorem RelO.getD {o:Option V} {u:Option Value} {d:V} {d':Value} (r:RelO o u) (rd:RelV d d'):RelV (o.getD d) (u.getD d'):=by
 cases o with
 | none=>cases u with
  | none=>exact rd
  | some _=>exact (show False from r).elim
 | some _=>cases u with
  | none=>exact (show False from r).elim
  | some _=>exact r
theorem KV.val {kvs:List (κ × V)} {vs:List (κ × Value)} (r:KV kvs vs) (k:κ):RelO (valV kvs k) (valueAt vs k):=by
 unfold KV at r
 induction r with
 | nil=>exact True.intro
 | @cons p q ps qs h t ih =>
  obtain ⟨h1,h2⟩:=h
  by_cases e:p.1 = k
  ·have e':q.1 = k:=h1.symm.trans e
   have b:valueAt (q :: qs) k = some q.2:=by simp [valueAt,List.find?_cons,e']
   rw [jbt e,b]; exact h2
  ·have e':¬ q.1 = k:=fun z=>e (h1.trans z)
   have b:valueAt (q :: qs) k = valueAt qs k:=by simp [valueAt,List.find?_cons,e']
   rw [jbu e,b]; exact ih
theorem KV.any {kvs:List (κ × V)} {vs:List (κ × Value)} (r:KV kvs vs) (k:κ):(kvs.any fun kv=>decide (kv.1 = k)) = vs.any fun kv=>decide (kv.1 = k):=by
 unfold KV at r
 induction r with
 | nil=>rfl
 | cons h t ih=>rw [List.any_cons,List.any_cons,ih,h.1]
theorem KV.repl {kvs:List (κ × V)} {vs:List (κ × Value)} (r:KV kvs vs) (k:κ) {y:V} {u:Value} (ry:RelV y u) :
  KV (kvs.map fun kv=>if kv.1 = k then (kv.1,y) else kv) (vs.map fun kv=>if kv.1 = k then (kv.1,u) else kv):=by
 unfold KV at r ⊢
 induction r with
 | nil=>exact .nil
 | @cons p q ps qs h t ih =>
  rw [List.map_cons,List.map_cons]
  refine .cons ?_ ih
  obtain ⟨h1,h2⟩:=h
  by_cases e:p.1 = k
  ·rw [if_pos e,if_pos (h1.symm.trans e)]; exact ⟨h1,ry⟩
  ·rw [if_neg e,if_neg (fun z=>e (h1.trans z))]; exact ⟨h1,h2⟩
theorem KV.put {kvs:List (κ × V)} {vs:List (κ × Value)} (r:KV kvs vs) (k:κ) {y:V} {u:Value} (ry:RelV y u):KV (putK kvs k y) (stored vs k u):=by
 unfold putK stored
 rw [r.any k]
 by_cases e:(vs.any fun kv=>decide (kv.1 = k)) = true
 ·rw [if_pos e,if_pos e]; exact r.repl k ry
 ·rw [if_neg e,if_neg e]; exact Paired.snoc r ⟨rfl,ry⟩
theorem KV.keys {kvs:List (κ × V)} {vs:List (κ × Value)} (r:KV kvs vs):kvs.map (·.1) = vs.map (·.1):=by
 unfold KV at r
 induction r with
 | nil=>rfl
 | cons h t ih=>rw [List.map_cons,List.map_cons,ih,h.1]
theorem KV.length {kvs:List (κ × V)} {vs:List (κ × Value)} (r:KV kvs vs):kvs.length = vs.length:=Paired.length r
end
theorem jjx {P:Program} {w:World} {k:Key} {u:Value} (r:RelV (kV k) u):(jba P w).is k u = true:=by
 cases k with
 | inl i=>obtain ⟨t,e⟩:=(show ∃ t,u = Value.int i t from r); subst e; exact jjt P w i t
 | inr x=>obtain ⟨t,e⟩:=(show ∃ t,u = Value.str x t from r); subst e; exact jjs P w x t
theorem jiw {P:Program} {w:World}:∀ {ks:List Key} {us:List Value},Vals (ks.map kV) us→ItemsAre (jba P w) ks us
 | [],_,r=>by rw [List.map_nil] at r; cases r; exact .nil
 | k :: ks,_,r=>by
  rw [List.map_cons] at r
  cases r with
  | cons h t=>exact .cons (jjx h) (jiw t)
abbrev KT (H:Hp):List (List Key × V)→List (List Key × Addr × Value)→Prop:=Paired fun p q=>p.1 = q.1∧H q.2.1 = some (.tup (p.1.map kV))∧RelV p.2 q.2.2
theorem KT.val {H:Hp} {kvs:List (List Key × V)} {xs:List (List Key × Addr × Value)} (r:KT H kvs xs) (k:List Key):RelO (valV kvs k) ((atKey xs k).map (·.2)):=by
 induction r with
 | nil=>exact True.intro
 | @cons p q ps qs h t ih =>
  obtain ⟨h1,_,h2⟩:=h
  by_cases e:p.1 = k
  ·have e':q.1 = k:=h1.symm.trans e
   have b:atKey (q :: qs) k = some q.2:=by simp [atKey,List.find?_cons,e']
   rw [jbt e,b]; exact h2
  ·have e':¬ q.1 = k:=fun z=>e (h1.trans z)
   have b:atKey (q :: qs) k = atKey qs k:=by simp [atKey,List.find?_cons,e']
   rw [jbu e,b]; exact ih
theorem KT.repl {H:Hp} {kvs:List (List Key × V)} {xs:List (List Key × Addr × Value)} (r:KT H kvs xs) (k:List Key) {y:V} {u:Value} (ry:RelV y u) :
  KT H (kvs.map fun kv=>if kv.1 = k then (kv.1,y) else kv) (xs.map (putAt k u)):=by
 induction r with
 | nil=>exact .nil
 | @cons p q ps qs h t ih =>
  rw [List.map_cons,List.map_cons]
  refine .cons ?_ ih
  obtain ⟨h1,h2,h3⟩:=h
  unfold putAt
  by_cases e:p.1 = k
  ·rw [if_pos e,if_pos (h1.symm.trans e)]; exact ⟨h1,h2,ry⟩
  ·rw [if_neg e,if_neg (fun z=>e (h1.trans z))]; exact ⟨h1,h2,h3⟩
theorem KT.put {H:Hp} {kvs:List (List Key × V)} {xs:List (List Key × Addr × Value)} (r:KT H kvs xs) (k:List Key) {b:Addr} {y:V} {u:Value} (hb:H b = some (.tup (k.map kV))) (ry:RelV y u) :
  KT H (putK kvs k y) (storedH xs k b u):=by
 have e:(kvs.any fun kv=>decide (kv.1 = k)) = (atKey xs k).isSome:=by
  rw [jdv,(r.val k).isSome_eq,Option.isSome_map]
 unfold putK storedH
 rw [e]
 by_cases q:(atKey xs k).isSome = true
 ·rw [if_pos q,if_pos q]; exact r.repl k ry
 ·rw [if_neg q,if_neg q]; exact Paired.snoc r ⟨rfl,hb,ry⟩
theorem KT.keeps {H H':Hp} {kvs:List (List Key × V)} {xs:List (List Key × Addr × Value)} (r:KT H kvs xs) (ht:∀ b ys,H b = some (.tup ys)→H' b = some (.tup ys)):KT H' kvs xs :=
 Paired.mapP r fun _ _ z=>⟨z.1,ht _ _ z.2.1,z.2.2⟩
section
variable {P:Program} {w:World} {H:Hp} {h:Heap} {a:Addr}
theorem rd_of {u:HO} (ok:HOk P w H h) (e:Rd H a u):jbp P w H h a u:=e.ok ok
theorem jk1 {kvs:List (Key × V)} (ok:HOk P w H h) (e:Rd H a (.dK kvs)):kvs.length ≤ sizeLine∧(a == sysModules) = false∧∃ vs,KV kvs vs∧h.DictOf (jba P w) a vs :=
 show jbp P w H h a (.dK kvs) from rd_of ok e
theorem dk_of {kvs:List (Key × V)} (ok:HOk P w H h) (e:H a = some (.dK kvs)):kvs.length ≤ sizeLine∧(a == sysModules) = false∧∃ vs,KV kvs vs∧h.DictOf (jba P w) a vs:=jk1 ok (.inl e)
theorem jfy {ks:List Key} (ok:HOk P w H h) (e:H a = some (.tup (ks.map kV))):(tupleKind (jba P w)).is h ks a:=by
 obtain ⟨_,its,r,o,h1,h2,n,h3⟩:=(show jbp P w H h a (.tup (ks.map kV)) from ok a _ e)
 exact ⟨o,its.toArray,n,h1,h2,h3,by simpa using jiw r⟩
theorem jk0 {kvs:List (List Key × V)} (ok:HOk P w H h) (e:Rd H a (.dT kvs)):kvs.length ≤ sizeLine∧(a == sysModules) = false ∧
  ∃ xs,KT H kvs xs∧h.DictOfH (tupleKind (jba P w)) a xs:=by
 obtain ⟨z,y,xs,r,o,es,ep,h1,h2,h3,h4,h5⟩:=(show jbp P w H h a (.dT kvs) from rd_of ok e)
 refine ⟨z,y,xs,r,o,es,ep,h1,h2,h3,h4,fun x hx=>?_,h5⟩
 have all:∀ {l:List (List Key × V)} {m:List (List Key × Addr × Value)},KT H l m→∀ x ∈ m,(tupleKind (jba P w)).is h x.1 x.2.1:=by
  intro l m q
  induction q with
  | nil=>intro x hx; exact nomatch hx
  | @cons p q ps qs hq t ih =>
   intro x hx
   rcases List.mem_cons.mp hx with e | hx
   ·subst e
    exact jfy ok (by rw [← hq.1]; exact hq.2.1)
   ·exact ih x hx
 exact all r x hx
theorem dt_of {kvs:List (List Key × V)} (ok:HOk P w H h) (e:H a = some (.dT kvs)):kvs.length ≤ sizeLine∧(a == sysModules) = false ∧
  ∃ xs,KT H kvs xs∧h.DictOfH (tupleKind (jba P w)) a xs:=jk0 ok (.inl e)
end
def DGet (H:Hp) (a:Addr) (y:V) (r:Option V):Prop :=
 (∃ kvs k,Rd H a (.dK kvs)∧y = kV k∧r = valV kvs k) ∨ ∃ kvs k b,Rd H a (.dT kvs)∧y = .ref b∧H b = some (.tup (k.map kV))∧r = valV kvs k
def DPut (H:Hp) (a:Addr) (y v:V) (H':Hp):Prop :=
 (∃ kvs k,H a = some (.dK kvs)∧y = kV k∧kvs.length < sizeLine∧H' = upd H a (.dK (putK kvs k v))) ∨
 ∃ kvs k b,H a = some (.dT kvs)∧y = .ref b∧H b = some (.tup (k.map kV))∧kvs.length < sizeLine∧H' = upd H a (.dT (putK kvs k v))
theorem DGet.k {H:Hp} {a:Addr} {kvs:List (Key × V)} {k:Key} (e:H a = some (.dK kvs)):DGet H a (kV k) (valV kvs k):=.inl ⟨kvs,k,.inl e,rfl,rfl⟩
theorem DGet.t {H:Hp} {a b:Addr} {kvs:List (List Key × V)} {k:List Key} (e:H a = some (.dT kvs)) (eb:H b = some (.tup (k.map kV))):DGet H a (.ref b) (valV kvs k):=.inr ⟨kvs,k,b,.inl e,rfl,eb,rfl⟩
theorem DPut.k {H:Hp} {a:Addr} {kvs:List (Key × V)} {k:Key} {v:V} (e:H a = some (.dK kvs)) (hl:kvs.length < sizeLine):DPut H a (kV k) v (upd H a (.dK (putK kvs k v))):=.inl ⟨kvs,k,e,rfl,hl,rfl⟩
theorem DPut.t {H:Hp} {a b:Addr} {kvs:List (List Key × V)} {k:List Key} {v:V} (e:H a = some (.dT kvs)) (eb:H b = some (.tup (k.map kV))) (hl:kvs.length < sizeLine) :
  DPut H a (.ref b) v (upd H a (.dT (putK kvs k v))):=.inr ⟨kvs,k,b,e,rfl,eb,hl,rfl⟩
section
variable {X:Cx} {pins:List (Addr × Obj)} {σ:St} {H:Hp} {s:Shared} {a:Addr} {y v:V} {u r:Value} {o:Option V} {A:Around} {E:Value→Shared→Prop}
theorem Inv.big (I:Inv X pins σ H s):sysModules < s.heap.objs.size:=by
 have h:mainGlobals < s.heap.objs.size:=(I.mod.glob.keeps I.bk).lt
 exact Nat.lt_trans (by decide) h
theorem jnz {Q:Value→Shared→Prop} (hu:A.units + 1 < cLine) (I:Inv X pins σ H s) (g:DGet H a y (some v)) (ry:RelV y u) (h:∀ w' s',Inv X pins σ H s'→RelV v w'→Q w' s') :
  wpAny (model X.prog X.w) A (getItem (.ref a) u) Q E s:=by
 rcases g with ⟨kvs,k,e,ey,l⟩ | ⟨kvs,k,b,e,ey,eb,l⟩
 ·subst ey
  obtain ⟨z,hd,vs,rel,dd⟩:=jk1 I.hok e
  obtain ⟨w',hw,rw'⟩:=RelO.some_of (v:=v) (o:=valueAt vs k) (by rw [l]; exact rel.val k)
  exact wpAny_getItem_of (jjx ry) dd.mapOf hw (h w' _ (I.tok _) rw')
 ·subst ey
  cases (show u = Value.ref b from ry)
  obtain ⟨z,hd,xs,rel,dd⟩:=jk0 I.hok e
  obtain ⟨w',hw,rw'⟩:=RelO.some_of (v:=v) (o:=(atKey xs k).map (·.2)) (by rw [l]; exact rel.val k)
  obtain ⟨p,hp,hp2⟩:=Option.map_eq_some_iff.mp hw
  refine wpAny_getItem_heap (tupleKind_room_in1 hu) (jfy I.hok eb) dd hp ?_
  rw [hp2]
  exact h w' _ (I.tok _) rw'
theorem d_in {Q:Value→Shared→Prop} (hu:A.units + 1 < cLine) (I:Inv X pins σ H s) (g:DGet H a y o) (ry:RelV y u) (h:∀ s',Inv X pins σ H s'→Q (.bool o.isSome) s') :
  wpAny (model X.prog X.w) A (compareOp .In u (.ref a)) Q E s:=by
 rcases g with ⟨kvs,k,e,ey,l⟩ | ⟨kvs,k,b,e,ey,eb,l⟩
 ·subst ey
  obtain ⟨z,hd,vs,rel,dd⟩:=jk1 I.hok e
  refine wpAny_in_of (jjx ry) hd dd.mapOf ?_
  rw [← (rel.val k).isSome_eq,← l]
  exact h _ (I.tok _)
 ·subst ey
  cases (show u = Value.ref b from ry)
  obtain ⟨z,hd,xs,rel,dd⟩:=jk0 I.hok e
  refine wpAny_in_heap (tupleKind_room_in1 hu) (jfy I.hok eb) hd dd ?_
  have q:=(rel.val k).isSome_eq
  rw [Option.isSome_map] at q
  rw [← q,← l]
  exact h _ (I.tok _)
theorem jra {Q:Value→Shared→Prop} (hu:A.units + 1 < cLine) (I:Inv X pins σ H s) (g:DGet H a y o) (ry:RelV y u) (h:∀ s',Inv X pins σ H s'→Q (.bool (!o.isSome)) s') :
  wpAny (model X.prog X.w) A (compareOp .NotIn u (.ref a)) Q E s:=by
 rcases g with ⟨kvs,k,e,ey,l⟩ | ⟨kvs,k,b,e,ey,eb,l⟩
 ·subst ey
  obtain ⟨z,hd,vs,rel,dd⟩:=jk1 I.hok e
  refine wpAny_notIn_of (jjx ry) hd dd.mapOf ?_
  rw [← (rel.val k).isSome_eq,← l]
  exact h _ (I.tok _)
 ·subst ey
  cases (show u = Value.ref b from ry)
  obtain ⟨z,hd,xs,rel,dd⟩:=jk0 I.hok e
  refine wpAny_notIn_heap (tupleKind_room_in1 hu) (jfy I.hok eb) hd dd ?_
  have q:=(rel.val k).isSome_eq
  rw [Option.isSome_map] at q
  rw [← q,← l]
  exact h _ (I.tok _)
theorem jnx {h':Heap} {t':Nat} {ob:HO} (I:Inv X pins σ H s) (mu:Mut (H a)) (hs:Heap.SameBut a s.heap h') (he:∃ q,h'.get? a = some q) (new:jbp X.prog X.w (upd H a ob) h' a ob) :
  Inv X pins σ (upd H a ob) { s with heap:=h',toks:=t' } :=
 I.write (x:=a) (e:=a) mu (.inl rfl) (fun b q hb z=>(hs.2 b hb).trans z) he new
theorem jqg {P:Program} {w:World} {H':Hp} {h':Heap} {kvs:List (Key × V)} {vs:List (Key × Value)} (z:kvs.length ≤ sizeLine) (hd:(a == sysModules) = false) (rel:KV kvs vs) (dd:h'.DictOf (jba P w) a vs) :
  jbp P w H' h' a (.dK kvs):=⟨z,hd,vs,rel,dd⟩
theorem jny {H':Hp} {Q:Unit→Shared→Prop} (hu:A.units + 1 < cLine) (I:Inv X pins σ H s) (g:DPut H a y v H') (ry:RelV y u) (rv:RelV v r) (h:∀ s',Inv X pins σ H' s'→Q () s') :
  wpAny (model X.prog X.w) A (setItem (.ref a) u r) Q E s:=by
 rcases g with ⟨kvs,k,e,ey,l,eH⟩ | ⟨kvs,k,b,e,ey,eb,l,eH⟩
 ·subst ey eH
  obtain ⟨z,hd,vs,rel,dd⟩:=dk_of I.hok e
  have hz:vs.length ≤ sizeLine:=by rw [← rel.length]; exact z
  have hl:(putK kvs k v).length ≤ sizeLine:=by have:=jdt kvs k v; omega
  refine wpAny_setItem_pairs (hsz:=hz) (jjx ry) dd fun h' dd' hs=>h _ ?_
  have he:∃ q,h'.get? a = some q:=let ⟨q,_,_,hq,_⟩:=dd'; ⟨q,hq⟩
  exact jnx I (by rw [e]; exact True.intro) hs he (jqg hl hd (rel.put k rv) dd')
 ·subst ey eH
  cases (show u = Value.ref b from ry)
  obtain ⟨z,hd,xs,rel,dd⟩:=dt_of I.hok e
  have hz:xs.length ≤ sizeLine:=by rw [← Paired.length rel]; exact z
  have hl:(putK kvs k v).length ≤ sizeLine:=by have:=jdt kvs k v; omega
  refine wpAny_setItem_heap (hsz:=hz) (tupleKind_room_in1 hu) (jfy I.hok eb) dd fun h' dd' hs=>h _ ?_
  obtain ⟨q,es,ep,hq,h2,h3,h4,_,h5⟩:=dd'
  refine jnx I (by rw [e]; exact True.intro) hs ⟨q,hq⟩ ⟨hl,hd,_,(rel.put k eb rv).keeps fun c ys ec=>?_,q,es,ep,hq,h2,h3,h4,h5⟩
  rw [jaa (ne_of ec e (fun z=>nomatch z))]
  exact ec
end
section
variable {X:Cx} {pins:List (Addr × Obj)} {σ:St} {H:Hp} {s:Shared} {a:Addr} {kvs:List (Key × V)} {k:Key} {u:Value} {A:Around} {E:Value→Shared→Prop}
end
def NoSl (i:Expr):Prop:=∀ ov iv,subscripted i false ov iv = operate [ov,iv] (getItem ov iv)
theorem jql {prog:Program} {w:World} {A:Around} {E:Value→Shared→Prop} {s:Shared} {env:Env} {value slice:Expr} {pos:Pos} {T id:String} {Q:Value→Shared→Prop}
  (hl:typeLookup (.type T) "__getitem__" = pure (some (.builtin id))) (hs:NoSl slice)
  (h:wpAny (model prog w) A (eval value env) (fun o s₁=>wpAny (model prog w) A (eval slice env) (fun i s₂=>s₂.TypeIs o T∧wpAny (model prog w) A (getItem o i) Q E s₂) E s₁) E s) :
  wpAny (model prog w) A (eval (.Subscript value slice pos) env) Q E s:=by
 refine Subscript_ (wpAny_mono h (fun o s₁ h₁=>wpAny_mono h₁ (fun i s₂ h₂=>?_) fun _ _ x=>x) fun _ _ x=>x)
 obtain ⟨hT,h₂⟩:=h₂
 unfold subscriptTail
 refine wpAny_bind ?_
 rw [getitemInPython_of_ne hT.not_modules]
 refine wpAny_bind (wpAny_specialOf hT hl ?_)
 have fin:wpAny (model prog w) A (subscripted slice false o i) (fun r s₃=>wpAny (model prog w) A (letTemporaryGo value o r >>= fun _=>pure r) Q E s₃) E s₂:=by
  rw [hs o i]
  exact wpAny_operating (wpAny_mono h₂ (fun r s₃ h₃=>wpAny_bind (wpAny_letTemporaryGo (wpAny_pure h₃))) fun _ _ x=>x)
 first
  | exact wpAny_pure (wpAny_bind fin)
  | exact wpAny_bind (wpAny_pure (wpAny_bind fin))
  | exact wpAny_bind fin
theorem jk2 {X:Cx} {pins:List (Addr × Obj)} {σ:St} {H:Hp} {s:Shared} {a:Addr} {y:V} {o:Option V} (I:Inv X pins σ H s) (g:DGet H a y o):s.TypeIs (.ref a) "dict":=by
 rcases g with ⟨kvs,k,e,_,_⟩ | ⟨kvs,k,b,e,_,_,_⟩
 ·obtain ⟨_,_,vs,_,dd⟩:=jk1 I.hok e
  exact dd.typeIs
 ·obtain ⟨_,_,xs,_,dd⟩:=jk0 I.hok e
  exact dd.typeIs
def jm2 (ty td:TE):TE:=fun σ H Q=>ty σ H fun y H1=>td σ H1 fun x H2=>∃ a o,x = .ref a∧DGet H2 a y o∧Q (.bl (!o.isSome)) H2
section
variable {X:Cx} {o i e value:Expr} {pos pos' tpos:Pos} {td ty tv:TE}
theorem jmt (hu:X.A.units + 1 < cLine) (hi:PE X i ty) (ho:PE X o td):PC X .NotIn i o (jm2 ty td):=by
 intro pins s σ H Q I h
 refine thn (hi pins s σ H _ I h) fun iv s1 ⟨y,H1,I1,ry,q1⟩=>thn (ho pins s1 σ H1 _ I1 q1) fun u s2 ⟨x,H2,I2,rx,a,ov,ex,g,q2⟩=>?_
 subst ex
 obtain rfl:u = Value.ref a:=rx
 exact jra hu I2 g ry fun s3 I3=>⟨.bl (!ov.isSome),H2,I3,rfl,q2⟩
end
theorem jpk {P:Program} {w:World} {H:Hp} (h:Heap) (hb:sysModules < h.objs.size):jbp P w H (h.push { cls:=.type "dict",data:=.dict #[] }) h.objs.size (.dK []) :=
 ⟨Nat.zero_le _,beq_eq_false_iff_ne.mpr (Ne.symm (Nat.ne_of_lt hb)),[],.nil,Heap.DictOf.new h⟩
def jm3:TE:=fun _ H Q=>∀ p,H p = none→Q (.ref p) (upd H p (.dK []))
section
variable {X:Cx} {pos:Pos}
theorem jhb:PE X (.Dict [] [] pos) jm3:=fun pins s σ H Q I h =>
 wpAny_Dict_empty ⟨.ref s.heap.objs.size,_,I.laid (a:=s.heap.objs.size) (o:=.dK []) (t':=s.toks) (fun _ _ q=>Heap.get?_push_of_some _ q) (Nat.le_refl _) (jpk s.heap I.big),rfl,h _ (I.hok.fresh (Nat.le_refl _))⟩
end
structure M2 (X:Cx) (o:Expr) (m:Str) (apos:Pos) (e f:Expr) (cpos:Pos):Prop where
 base:attributeBase o m X.env (eval o X.env) = eval o X.env
 few:((backTo cpos (starEach [e,f] X.env)).all (fun x=>!x.1) && (backToKw cpos (keywordEach [] X.env)).all (fun x=>x.1.isSome)
  && decide (([e,f]:List Expr).length + ([]:List Keyword).length + (if ([]:List Keyword).isEmpty then 0 else 1) < 30)) = true
 line:(apos.endLine == cpos.line) = true
 trees:backTo cpos (starEach [e,f] X.env) = [(false,eval e X.env),(false,eval f X.env)]
def IsD (H:Hp) (a:Addr):Prop:=(∃ kvs,Rd H a (.dK kvs)) ∨ ∃ kvs,Rd H a (.dT kvs)
theorem jqa {X:Cx} {pins:List (Addr × Obj)} {σ:St} {H:Hp} {s:Shared} {a:Addr} (I:Inv X pins σ H s) (d:IsD H a) :
  s.TypeIs (.ref a) "dict"∧(∀ b,Value.ref a = .ref b→∃ ob,s.heap.get? b = some ob∧ob.dict = none)∧(a == sysModules) = false:=by
 rcases d with ⟨kvs,e⟩ | ⟨kvs,e⟩
 ·obtain ⟨_,hd,vs,_,dd⟩:=jk1 I.hok e
  refine ⟨dd.typeIs,fun b q=>?_,hd⟩
  cases q
  obtain ⟨ob,_,_,h1,h2,_⟩:=dd
  exact ⟨ob,h1,h2.2.1⟩
 ·obtain ⟨_,hd,xs,_,dd⟩:=jk0 I.hok e
  refine ⟨dd.typeIs,fun b q=>?_,hd⟩
  cases q
  obtain ⟨ob,_,_,h1,h2,_⟩:=dd
  exact ⟨ob,h1,h2.2.1⟩
section
variable {X:Cx} {pins:List (Addr × Obj)} {σ:St} {H:Hp} {s:Shared} {a:Addr} {y d:V} {u r:Value} {o:Option V} {A:Around} {E:Value→Shared→Prop}
theorem d_get2 {Q:Value→Shared→Prop} (hu:A.units + 1 < cLine) (I:Inv X pins σ H s) (g:DGet H a y o) (ry:RelV y u) (rd:RelV d r) (h:∀ w' s',Inv X pins σ H s'→RelV (o.getD d) w'→Q w' s') :
  wpAny (model X.prog X.w) A (call (.builtin "dict.get") [.ref a,u,r]) Q E s:=by
 rcases g with ⟨kvs,k,e,ey,l⟩ | ⟨kvs,k,b,e,ey,eb,l⟩
 ·subst ey
  obtain ⟨z,hd,vs,rel,dd⟩:=jk1 I.hok e
  refine call_meetsIn PySem.F.slot_dict_get dd.typeIs PySem.F.entry_dict_get (PySem.F.args_dict_get_3 _ _ _) (meets_dict_get_default (jba X.prog X.w) a (jjx ry) hd r) ⟨_,dd.mapOf,h _ _ (I.tok _) ?_⟩
  rw [l]
  exact (rel.val k).getD rd
 ·subst ey
  cases (show u = Value.ref b from ry)
  obtain ⟨z,hd,xs,rel,dd⟩:=jk0 I.hok e
  refine call_meetsIn PySem.F.slot_dict_get dd.typeIs PySem.F.entry_dict_get (PySem.F.args_dict_get_3 _ _ _) (meetsH_dict_get_default (tupleKind (jba X.prog X.w)) a b hd r) ⟨tupleKind_room_in1 hu,k,xs,jfy I.hok eb,dd,h _ _ (I.tok _) ?_⟩
  rw [l]
  exact (rel.val k).getD rd
end
section
variable {X:Cx} {o e f:Expr} {apos cpos:Pos} {td ty tx:TE}
end
section
variable {X:Cx} {pins:List (Addr × Obj)} {σ:St} {H:Hp} {s:Shared} {a:Addr} {kvs:List (Key × V)} {A:Around} {E:Value→Shared→Prop}
end
section
variable {X:Cx} {pins:List (Addr × Obj)} {σ:St} {H:Hp} {s:Shared} {a:Addr} {y:V} {u:Value} {A:Around} {E:Value→Shared→Prop}
end
end L2
namespace L2
open PySem PySem.Spec PyProof.Rows
section
variable {κ:Type} [DecidableEq κ]
end
end L2
namespace L2
open PySem PySem.Spec PyProof.Rows
def jc0 (env:Env):List (Str × NameKind)→List (Str × Addr)→List (Str × Addr)
 | [],acc=>acc
 | (n,k) :: r,acc=>jc0 env r (if k == .free then (n,(env.cells.lookup n).getD 0) :: acc else acc)
theorem jcz {scope:Scope} {env:Env} (h:∀ y ∈ scope.names,y.2 = .free→∃ c,env.cells.lookup y.1 = some c) :
    closureFor scope env = pure (jc0 env scope.names []):=by
  have key:∀ (l:List (Str × NameKind)) (acc:List (Str × Addr)),(∀ y ∈ l,y.2 = .free→∃ c,env.cells.lookup y.1 = some c) →
      (forIn l acc fun (x:Str × NameKind) (r:List (Str × Addr)) =>
        (if x.2 == NameKind.free then do
          let c ← cellOf env x.1
          pure (ForInStep.yield ((x.1,c) :: r))
        else pure (ForInStep.yield r):Sem (ForInStep (List (Str × Addr))))) = pure (jc0 env l acc):=by
    intro l
    induction l with
    | nil=>intro acc _; rfl
    | cons y r ih =>
      intro acc hy
      obtain ⟨n,k⟩:=y
      rw [List.forIn_cons]
      by_cases hk:k = .free
      · subst hk
        obtain ⟨c,hc⟩:=hy (n,.free) List.mem_cons_self rfl
        have e1:cellOf env n = pure c:=by unfold cellOf; rw [hc]
        simp only [beq_self_eq_true,if_true]
        rw [e1]
        show (pure c >>= fun c=>pure (ForInStep.yield ((n,c) :: acc))) >>= _ = _
        have e2:jc0 env ((n,NameKind.free) :: r) acc = jc0 env r ((n,c) :: acc):=by
          have hc':env.cells.lookup n = some c:=hc
          show jc0 env r (if (NameKind.free == NameKind.free) = true then (n,(env.cells.lookup n).getD 0) :: acc else acc) = _
          rw [hc']
          rfl
        rw [e2]
        exact ih _ fun z hz=>hy z (List.mem_cons_of_mem _ hz)
      · have hb:(k == NameKind.free) = false:=by simpa using hk
        simp only [hb,Bool.false_eq_true,if_false]
        have e2:jc0 env ((n,k) :: r) acc = jc0 env r acc:=by
          show jc0 env r (if (k == NameKind.free) = true then _ else acc) = _
          rw [hb]; rfl
        rw [e2]
        exact ih _ fun z hz=>hy z (List.mem_cons_of_mem _ hz)
  unfold closureFor
  have e:=key scope.names [] h
  have e3:∀ (f:Str × NameKind→List (Str × Addr)→Sem (ForInStep (List (Str × Addr)))),(f = fun x r=>(if x.2 == NameKind.free then do
          let c ← cellOf env x.1
          pure (ForInStep.yield ((x.1,c) :: r))
        else pure (ForInStep.yield r)))→(forIn scope.names [] f >>= fun r=>pure r) = (pure (jc0 env scope.names []):Sem (List (Str × Addr))):=by
    intro f hf
    rw [hf,e]
    rfl
  exact e3 _ rfl
theorem jec {env:Env} {x:Str}:∀ (l:List (Str × NameKind)) (acc:List (Str × Addr)) (c:Addr),(jc0 env l acc).lookup x = some c →
  ((∃ y ∈ l,y.1 = x∧y.2 = .free)∧(env.cells.lookup x).getD 0 = c) ∨ acc.lookup x = some c
 | [],acc,c,h=>.inr h
 | (n,k) :: r,acc,c,h=>by
  rcases jec r _ c h with ⟨⟨y,hy,e⟩,q⟩ | q
  ·exact .inl ⟨⟨y,List.mem_cons_of_mem _ hy,e⟩,q⟩
  ·by_cases hk:k = .free
   ·subst hk
    have q':List.lookup x ((n,(env.cells.lookup n).getD 0) :: acc) = some c:=q
    rw [List.lookup_cons] at q'
    cases hx:x == n with
    | true =>
     rw [hx] at q'
     have hx':x = n:=by simpa using hx
     subst hx'
     exact .inl ⟨⟨_,List.mem_cons_self,rfl,rfl⟩,Option.some.inj q'⟩
    | false=>rw [hx] at q'; exact .inr q'
   ·have hb:(k == NameKind.free) = false:=by simpa using hk
    rw [hb] at q
    exact .inr q
theorem jer {env:Env} {x:Str}:∀ (l:List (Str × NameKind)) (acc:List (Str × Addr)),((∃ y ∈ l,y.1 = x∧y.2 = .free) ∨ (acc.lookup x).isSome)→((jc0 env l acc).lookup x).isSome
 | [],acc,h=>by
  rcases h with ⟨y,hy,_⟩ | h
  ·cases hy
  ·exact h
 | (n,k) :: r,acc,h=>by
  show ((jc0 env r (if (k == NameKind.free) = true then _ else acc)).lookup x).isSome
  refine jer r _ ?_
  rcases h with ⟨y,hy,e1,e2⟩ | h
  ·rcases List.mem_cons.mp hy with rfl | hy
   ·have e2':k = .free:=e2
    have e1':n = x:=e1
    subst e2' e1'
    refine .inr ?_
    simp [List.lookup_cons]
   ·exact .inl ⟨y,hy,e1,e2⟩
  ·refine .inr ?_
   split
   ·rw [List.lookup_cons]
    split
    ·rfl
    ·exact h
   ·exact h
structure CpScope (X:Cx) (scope:Scope) (N:List Str) (src:List (Option Nat)):Prop where
 kind:scope.kind = .function
 nocell:∀ y ∈ scope.names,y.2 ≠ .cell
 locs:∀ y ∈ scope.names,y.2 = .local→scope.names.lookup y.1 = some .local
 frees:∀ y ∈ scope.names,y.2 = .free→scope.names.lookup y.1 = some .free∧X.env.scope.names.lookup y.1 = some .cell
 nd:N.Nodup
 len:src.length = N.length
 cap:∀ (i j:Nat),src[i]? = some (some j)→X.N[j]? = N[i]?∧(N[i]?).elim False (fun x=>scope.names.lookup x = some .free)
def cst (src:List (Option Nat)) (σ:St):St:=src.map fun o=>o.bind fun j=>(σ[j]?).join
theorem jcf {env:Env} (hk:env.scope.kind = .function):∀ {names:List (Str × NameKind)} {x:Str},names.lookup x = some .free→env.kindOf x = some .cell →
  (names.map fun (n,k)=>if (k == NameKind.free && env.scope.kind == .function && env.kindOf n == some .cell) then (n,NameKind.cell) else (n,k)).lookup x = some .cell
 | [],_,h,_=>by simp at h
 | (n,k) :: r,x,h,hc=>by
  have ih:=@jcf env hk r x
  show List.lookup x ((if (k == NameKind.free && env.scope.kind == .function && env.kindOf n == some .cell) = true then (n,NameKind.cell) else (n,k)) :: _) = _
  cases hx:x == n with
  | true =>
   simp only [List.lookup_cons,hx] at h
   cases h
   have hx':x = n:=by simpa using hx
   subst hx'
   rw [if_pos (by rw [hk,hc]; rfl)]
   simp [List.lookup_cons]
  | false =>
   simp only [List.lookup_cons,hx] at h
   by_cases hq:(k == NameKind.free && env.scope.kind == .function && env.kindOf n == some .cell) = true
   ·rw [if_pos hq]; simp only [List.lookup_cons,hx]; exact ih h hc
   ·rw [if_neg hq]; simp only [List.lookup_cons,hx]; exact ih h hc
theorem jbv {env:Env}:∀ {names:List (Str × NameKind)} {x:Str} {k':NameKind},
  (names.map fun (n,k)=>if (k == NameKind.free && env.scope.kind == .function && env.kindOf n == some .cell) then (n,NameKind.cell) else (n,k)).lookup x = some k' →
   names.lookup x = some k' ∨ (names.lookup x = some .free∧k' = .cell)
 | [],_,_,h=>by simp at h
 | (n,k) :: r,x,k',h=>by
  have ih:=@jbv env r x k'
  have h:List.lookup x ((if (k == NameKind.free && env.scope.kind == .function && env.kindOf n == some .cell) = true then (n,NameKind.cell) else (n,k)) :: _) = _:=h
  cases hx:x == n with
  | true =>
   by_cases hq:(k == NameKind.free && env.scope.kind == .function && env.kindOf n == some .cell) = true
   ·rw [if_pos hq] at h
    have h1:=h
    simp only [List.lookup_cons,hx]
    have:k = .free:=by
     have:=(Bool.and_eq_true _ _ ▸ (Bool.and_eq_true _ _ ▸ hq).1).1
     simpa using this
    subst this
    refine .inr ⟨rfl,?_⟩
    have h2:List.lookup x ((n,NameKind.cell) :: (r.map fun (n,k)=>if (k == NameKind.free && env.scope.kind == .function && env.kindOf n == some .cell) then (n,NameKind.cell) else (n,k))) = some k':=h1
    simp only [List.lookup_cons,hx] at h2
    exact (Option.some.inj h2).symm
   ·rw [if_neg hq] at h
    simp only [List.lookup_cons,hx] at h ⊢
    exact .inl h
  | false =>
   have h':List.lookup x (r.map fun (n,k)=>if (k == NameKind.free && env.scope.kind == .function && env.kindOf n == some .cell) then (n,NameKind.cell) else (n,k)) = some k':=by
    by_cases hq:(k == NameKind.free && env.scope.kind == .function && env.kindOf n == some .cell) = true
    ·rw [if_pos hq] at h
     simpa only [List.lookup_cons,hx] using h
    ·rw [if_neg hq] at h
     simpa only [List.lookup_cons,hx] using h
   simp only [List.lookup_cons,hx]
   exact ih h'
def Cx.block (X:Cx) (scope:Scope) (N:List Str) (fp:List Addr) (s₀:Shared) (H₀:Hp) (C:Addr):Cx where
 prog:=X.prog
 w:=X.w
 K:=X.K
 mg:=X.mg
 base:=X.base
 A:=X.A
 N:=N
 s₀:=s₀
 H₀:=H₀
 env:=compEnvC scope (jc0 X.env scope.names []) C X.env
 outer:=X.stack
 stack:=X.stack
 ex:=fp
 calm:=X.calm
 fn:=fun _=>false
 pn:=[]
 xe:=fun _ _=>False
theorem jng {o:Option (Option V)} {v:V} (h:o.join = some v):o = some (some v):=by
 cases o with
 | none=>cases h
 | some z=>cases z with
  | none=>cases h
  | some z=>rw [show z = v from Option.some.inj h]
theorem Inv.enter {X:Cx} {scope:Scope} {N:List Str} {src:List (Option Nat)} {pins:List (Addr × Obj)} {σ:St} {H:Hp} {s s4:Shared} {fp:List Addr} (S:CpScope X scope N src) (I:Inv X pins σ H s)
  (f2:∀ b ∈ fp,FpOk X pins H b) (lt:∀ b ∈ fp,b < s.heap.objs.size) (hns:s4.heap.Ns s.heap.objs.size fun _=>none) (hk:∀ b o,s.heap.get? b = some o→s4.heap.get? b = some o) (hos:s4.os = s.os) (hg:s4.gens = s.gens) :
  Inv (X.block scope N fp s H s.heap.objs.size) [] (cst src σ) H s4:=by
 have cells:∀ x c,(jc0 X.env scope.names []).lookup x = some c→X.env.cells.lookup x = some c:=fun x c e=>by
  rcases jec _ _ _ e with ⟨⟨y,hy,e1,e2⟩,q⟩ | q
  ·obtain ⟨c',hc'⟩:=I.ok.has y.1 (.inl (S.frees y hy e2).2)
   rw [e1] at hc'
   rw [hc'] at q ⊢
   exact congrArg some q
  ·cases q
 refine ⟨⟨I.mod,S.kind,I.ok.glob,I.ok.blt,Nat.le_refl _,fun x y c h1 h2=>I.ok.inj x y c (cells x c h1) (cells y c h2),fun x hx=>?_,fun x c h=>absurd (show false = true from h) Bool.false_ne_true,I.ok.hd,I.ok.frames,.inl rfl,fun b hb=>?_,I.bs,
   Nat.le_trans I.ok.bsz I.sz,fun b o e hb=>?_,fun b hb z=>?_,I.stack,I.stkFree⟩,hos,?_,Un.kept hk,⟨fun _=>none,hns,fun i x v h1 h2 h3=>?_⟩,fun x c e=>?_,I.fresh,fun x c e=>I.freeC x c (cells x c e),fun p hp=>?_,I.hok.kept hk,?_⟩
 ·have hx':(scope.names.map fun (n,k)=>if (k == NameKind.free && X.env.scope.kind == .function && X.env.kindOf n == some .cell) then (n,NameKind.cell) else (n,k)).lookup x = some .cell ∨ (scope.names.map fun (n,k)=>if (k == NameKind.free && X.env.scope.kind == .function && X.env.kindOf n == some .cell) then (n,NameKind.cell) else (n,k)).lookup x = some .free:=hx
  have hf:scope.names.lookup x = some .free:=by
   rcases hx' with h | h
   ·rcases jbv h with h | h
    ·exact absurd rfl (S.nocell _ (PySem.mem_of_lookup h))
    ·exact h.1
   ·rcases jbv h with h | h
    ·exact h
    ·cases h.2
  have hsome:=jer (env:=X.env) (x:=x) scope.names [] (.inl ⟨_,PySem.mem_of_lookup hf,rfl,rfl⟩)
  exact Option.isSome_iff_exists.mp hsome
 ·exact ⟨Nat.ne_of_lt (lt b hb),fun x c e=>(f2 b hb).2.2.2.2.1 x c (cells x c e)⟩
 ·have hb':b ∈ fp:=hb
  rcases (f2 b hb').2.2.2.1 with z | z
  ·exact I.ok.noex b o e z
  ·exact absurd (Nat.lt_of_lt_of_le (Heap.lt_size e) (Nat.le_trans I.ok.bsz z)) (Nat.lt_irrefl _)
 ·have hb':b ∈ fp:=hb
  have z':b ∈ frs X.stack:=z
  rcases List.mem_cons.mp (I.stkSub b z') with e | e
  ·exact (f2 b hb').2.1 e
  ·exact (f2 b hb').2.2.1 e
 ·rw [hg]; exact I.bare
 ·have h2':(src.map fun o=>o.bind fun j=>(σ[j]?).join)[i]? = some (some v):=h2
  rw [List.getElem?_map] at h2'
  cases e:src[i]? with
  | none=>rw [e] at h2'; cases h2'
  | some o =>
   rw [e] at h2'
   cases o with
   | none=>cases h2'
   | some j =>
    have h4:(σ[j]?).join = some v:=Option.some.inj h2'
    have h5:=jng h4
    obtain ⟨c1,c2⟩:=S.cap i j e
    have h1':N[i]? = some x:=h1
    rw [h1'] at c1 c2
    have c2':scope.names.lookup x = some .free:=c2
    have c3:=(S.frees _ (PySem.mem_of_lookup c2') rfl).2
    obtain ⟨m,hn,hl⟩:=I.loc
    obtain ⟨u,r,l⟩:=hl j x v c1 h5 (.inr (.inl c3))
    refine ⟨u,r,?_⟩
    have c3':X.env.kindOf x = some .cell:=c3
    rcases l with ⟨k,_⟩ | ⟨_,c,e1,z⟩
    ·rw [c3'] at k; cases k
    ·refine .inr ⟨.inl (jcf I.ok.kind c2' c3'),c,?_,?_⟩
     ·have hs:=jer (env:=X.env) (x:=x) scope.names [] (.inl ⟨_,PySem.mem_of_lookup c2',rfl,rfl⟩)
      obtain ⟨c',hc'⟩:=Option.isSome_iff_exists.mp hs
      have:=cells x c' hc'
      rw [e1] at this
      cases this
      exact hc'
     ·obtain ⟨o,ho,hd⟩:=z
      exact ⟨o,hk c o ho,hd⟩
 ·obtain ⟨v,o,ho,hd⟩:=I.cell x c (cells x c e)
  exact ⟨v,o,hk c o ho,hd⟩
 ·exact absurd (show p ∈ ([]:List (Addr × Obj)) from hp) (by simp)
 ·show (src.map _).length = N.length
  rw [List.length_map]
  exact S.len
def PIf (X:Cx) (ifs:List Expr) (t:TT):Prop :=
 ∀ (pins:List (Addr × Obj)) (s:Shared) (σ:St) (H:Hp) (Q:Bool→Hp→Prop),Inv X pins σ H s→t σ H Q →
  wpAny (model X.prog X.w) X.A (forIn ifs true fun c r=>if r = true then do let ok ← isTrue c X.env (eval c X.env); pure (ForInStep.yield ok) else pure (ForInStep.yield r)) (TP X pins σ Q) X.xe s
def jqj:TT:=fun _ H Q=>Q true H
theorem jco {X:Cx}:PIf X [] jqj:=fun pins s σ H Q I h=>wpAny_tests_nil ⟨H,I,h⟩
theorem jfl {X:Cx} {c:Expr} {t:TT} (h:PT X c t):PIf X [c] t:=fun pins s σ H Q I hq=>wpAny_tests_one (h pins s σ H Q I hq)
def joi (J:It) (src:List (Option Nat)) (g:TG) (tc:TT) (te:TE) (Q:VK) (σ:St) (H:Hp) (l:Addr):Prop :=
 ∃ W:Nat→Nat→St→Hp→Prop,(∃ m,W 0 m (cst src σ) (upd H l (.lst [])))∧∀ i m σ' H,W i m σ' H →
  (J.stop i H∧Q (.ref l) H) ∨ (J.go i H∧∃ N:St→Hp→Prop,(∀ σ' H',N σ' H'→∃ m',m' < m∧W (i + 1) m' σ' H')∧∀ x H',J.yld i H x H'→g x σ' H' fun σ2 H2=>tc σ2 H2 fun b H3 =>
   if b = true then te σ2 H3 fun v H4=>∃ xs,H4 l = some (.lst xs)∧xs.length < sizeLine∧N σ2 (upd H4 l (.lst (xs ++ [v]))) else N σ2 H3)
theorem jbe {J:It} {src:List (Option Nat)} {g:TG} {tc:TT} {te:TE} {Q:VK} {σ:St} {H:Hp} {l:Addr} (n:Nat) (Iv:Nat→St→Hp→Prop) (h0:Iv 0 (cst src σ) (upd H l (.lst [])))
  (hs:∀ i σ' Hc,i < n→Iv i σ' Hc→J.go i Hc∧∀ x H',J.yld i Hc x H'→g x σ' H' fun σ2 H2=>tc σ2 H2 fun b H3 =>
   if b = true then te σ2 H3 fun v H4=>∃ xs,H4 l = some (.lst xs)∧xs.length < sizeLine∧Iv (i + 1) σ2 (upd H4 l (.lst (xs ++ [v]))) else Iv (i + 1) σ2 H3)
  (hd:∀ σ' Hc,Iv n σ' Hc→J.stop n Hc∧Q (.ref l) Hc):joi J src g tc te Q σ H l:=by
 refine ⟨fun i m σ' Hc=>m = n - i∧i ≤ n∧Iv i σ' Hc,⟨n,by simp,Nat.zero_le _,h0⟩,?_⟩
 rintro i m σ' Hc ⟨rfl,hi,p⟩
 by_cases hlt:i < n
 ·obtain ⟨go,step⟩:=hs i σ' Hc hlt p
  exact .inr ⟨go,Iv (i + 1),fun σ2 H2 p'=>⟨n - (i + 1),by omega,rfl,hlt,p'⟩,step⟩
 ·have e:i = n:=by omega
  subst e
  exact .inl (hd σ' Hc p)
theorem jj3 {X:Cx} {elt tg iter:Expr} {ifs:List Expr} {scope:Scope} {pos:Pos} {N:List Str} {src:List (Option Nat)} {g:TG} {tc:TT} {te:TE} {pins:List (Addr × Obj)} {σ:St} {H2:Hp} {s2:Shared}
  {fp:List Addr} {it:Addr} {tn:Nat→Heap→Prop} {J:It} {Q:VK} {E:Value→Shared→Prop} {RR:Value→Addr→Result→Shared→Prop} (S:CpScope X scope N src) (hc:X.calm = true)
  (hg:∀ fp s₀ H₀ C,PG (X.block scope N fp s₀ H₀ C) tg g) (ht:∀ fp s₀ H₀ C,PIf (X.block scope N fp s₀ H₀ C) ifs tc) (he:∀ fp s₀ H₀ C,PE (X.block scope N fp s₀ H₀ C) elt te)
  (I2:Inv X pins σ H2 s2) (T:Turn X.prog X.w X.K tg J fp it tn) (st2:tn 0 s2.heap) (f2:∀ b ∈ fp,FpOk X pins H2 b) (hw:∀ l,H2 l = none→joi J src g tc te Q σ H2 l)
  (hRR:∀ l C H' s',Inv X pins σ H' s'→(∃ m,s'.heap.Ns C m)→FpOk X pins H' C→Q (.ref l) H'→RR (.ref l) C (.ok .next) s') :
  wpAny (model X.prog X.w) X.A (newList []) (fun acc s₃=>wpAny (model X.prog X.w) X.A (newFunctionEnv scope X.env.globals (jc0 X.env scope.names []) [] X.env.qual none .none (some X.env)) (fun cenv s₄ =>
   codeAny (model X.prog X.w) X.A (.compStart (.ListComp elt [⟨tg,iter,ifs,0⟩] scope pos) 0 (.ref it) acc { cenv with scope:=relabel scope X.env }) (RR acc cenv.locals) s₄) E s₃) E s2:=by
 have hl0:H2 s2.heap.objs.size = none:=I2.fresh
 have I3:Inv X pins σ (upd H2 s2.heap.objs.size (.lst [])) { s2 with heap:=s2.heap.push { cls:=.type "list",data:=.seq ([]:List Value).toArray } }:=I2.lnew (ys:=[]) (its:=[]) (t':=s2.toks) .nil (Nat.zero_le _)
 have ltf:∀ b ∈ fp,b < s2.heap.objs.size:=fun b hb=>by
  obtain ⟨o,e,_⟩:=T.obj _ _ st2 b hb
  exact Heap.lt_size e
 have f3:∀ b ∈ fp,FpOk X pins (upd H2 s2.heap.objs.size (.lst [])) b:=fun b hb=>⟨by rw [jaa (Nat.ne_of_lt (ltf b hb))]; exact (f2 b hb).1,(f2 b hb).2⟩
 obtain ⟨W,⟨m0,w0⟩,turn⟩:=hw _ hl0
 refine wpAny_newObj_type (wpAny_newFunctionEnv S.nocell (by intro y hy; simp at hy) (fun h₁ hns₁ hsb₁=>?_) S.kind)
 dsimp only at hns₁ hsb₁ ⊢
 revert I3 f3
 intro I3 f3
 have st1:tn 0 (s2.heap.push { cls:=.type "list",data:=.seq ([]:List Value).toArray }):=T.keep _ _ _ st2 fun b hb o e=>Heap.get?_push_of_some _ e
 have lt3:∀ b ∈ fp,b < (s2.heap.push { cls:=.type "list",data:=.seq ([]:List Value).toArray }).objs.size:=fun b hb=>by rw [Heap.size_push]; exact Nat.lt_succ_of_lt (ltf b hb)
 generalize hH:s2.heap.push { cls:=.type "list",data:=.seq ([]:List Value).toArray } = h3 at I3 st1 lt3 hns₁ hsb₁ ⊢
 have hk:∀ b o,h3.get? b = some o→h₁.get? b = some o:=fun b o e=>hsb₁.extBut b o (Nat.ne_of_lt (Heap.lt_size e)) (Heap.get?_push_of_some _ e)
 have Ib:Inv (X.block scope N fp { s2 with heap:=h3 } (upd H2 s2.heap.objs.size (.lst [])) h3.objs.size) [] (cst src σ) (upd H2 s2.heap.objs.size (.lst [])) { s2 with heap:=h₁,toks:=s2.toks + ([]:List (Str × Value)).length } :=
  Inv.enter (s:={ s2 with heap:=h3 }) S I3 f3 lt3 hns₁ hk rfl rfl
 have fpB:∀ {H':Hp},(∀ b ∈ fp,H' b = none)→∀ b ∈ fp,FpOk (X.block scope N fp { s2 with heap:=h3 } (upd H2 s2.heap.objs.size (.lst [])) h3.objs.size) [] H' b:=fun hn b hb =>
  ⟨hn b hb,(Ib.ok.exf b hb).1,Ib.ok.exfs b hb,.inl hb,(Ib.ok.exf b hb).2,fun p hp=>absurd (show p ∈ ([]:List (Addr × Obj)) from hp) (by simp)⟩
 have tn1:tn 0 h₁:=T.keep _ _ _ st1 fun b _ o e=>hk b o e
 have loop:∀ s₃:Shared,s₃ = { s2 with heap:=h₁,toks:=s2.toks + ([]:List (Str × Value)).length } →
   codeAny (model X.prog X.w) X.A (.compLoop (.ListComp elt [⟨tg,iter,ifs,0⟩] scope pos) 0 (.ref it) (.ref s2.heap.objs.size) (compEnvC scope (jc0 X.env scope.names []) h3.objs.size X.env))
    (RR (.ref s2.heap.objs.size) h3.objs.size) s₃:=by
  rintro s₃ rfl
  refine codeAny_loop rfl (fun n s'=>∃ i σ' H',Inv (X.block scope N fp { s2 with heap:=h3 } (upd H2 s2.heap.objs.size (.lst [])) h3.objs.size) [] σ' H' s'∧tn i s'.heap∧(∀ b ∈ fp,H' b = none)∧W i n σ' H') ?_ m0
   ⟨0,_,_,Ib,tn1,fun b hb=>(f3 b hb).1,w0⟩
  rintro n s5 ⟨i,σ5,H5,I5,st5,fr5,w5⟩
  show wpAny _ X.A ((compTurn (.ListComp elt [⟨tg,iter,ifs,0⟩] scope pos) 0 (.ref it) (.ref s2.heap.objs.size) (compEnvC scope (jc0 X.env scope.names []) h3.objs.size X.env)).onRaise (fun x=>do noteFrame x (compEnvC scope (jc0 X.env scope.names []) h3.objs.size X.env); theTreesLotGoes x)) _ _ s5
  refine wpAny_noted ?_
  rw [compTurn_list]
  refine wpAny_bind (wpAny_standAt (wpAny_bind ?_))
  rcases turn i n σ5 H5 w5 with ⟨stop,qn⟩ | ⟨go,N',hN',step⟩
  ·refine thn (T.done (X.block scope N fp { s2 with heap:=h3 } (upd H2 s2.heap.objs.size (.lst [])) h3.objs.size) rfl rfl rfl hc i [] s5 σ5 H5 _ I5 (fpB fr5) st5 stop) fun r s6 ⟨hr,I6⟩=>?_
   subst hr
   refine wpAny_pure ?_
   have u6:Un (frs X.stack) fp (upd H2 s2.heap.objs.size (.lst [])) H5 h3 s6.heap:=I6.base
   have hf6:H5 h3.objs.size = none:=I6.free
   have I7:Inv X pins σ H5 s6:=I3.call' (ch:=fp) I6.os u6 I6.hok I6.bare fun b hb=>⟨(f3 b hb).2.2.2.1,(f3 b hb).2.1,(f3 b hb).2.2.2.2.1,(f3 b hb).2.2.2.2.2⟩
   obtain ⟨m,hm,_⟩:=I6.loc
   exact hRR _ _ H5 s6 I7 ⟨m,hm⟩ (I3.fpOk (Nat.le_refl _) hf6) qn
  ·refine thn (T.item (X.block scope N fp { s2 with heap:=h3 } (upd H2 s2.heap.objs.size (.lst [])) h3.objs.size) rfl rfl rfl hc i [] s5 σ5 H5 _ I5 (fpB fr5) st5 go) fun r s6 ⟨u,hr,h6⟩=>?_
   subst hr
   refine wpAny_bind (thn h6 fun _ s7 ⟨x,H7,I7,r7,y7,st7,fr7⟩=>?_)
   have I7':=I7.pinned (fpB fr7) (T.obj _ _ st7)
   have fin:∀ {σ9:St} {H9:Hp} {s9:Shared},Inv (X.block scope N fp { s2 with heap:=h3 } (upd H2 s2.heap.objs.size (.lst [])) h3.objs.size) ([] ++ jih fp s7.heap) σ9 H9 s9→N' σ9 H9 →
     ∃ m,m < n∧∃ i σ' H',Inv (X.block scope N fp { s2 with heap:=h3 } (upd H2 s2.heap.objs.size (.lst [])) h3.objs.size) [] σ' H' s9∧tn i s9.heap∧(∀ b ∈ fp,H' b = none)∧W i m σ' H':=fun {σ9 H9 s9} I9 n9=>by
    obtain ⟨m',hm,w9⟩:=hN' σ9 H9 n9
    refine ⟨m',hm,i + 1,σ9,H9,I9.unpinned,T.keep _ _ _ st7 fun b hb o e=>(I9.pin (b,o) (List.mem_append_right _ (List.mem_append_right _ (jdg hb e)))).1,fun b hb=>?_,w9⟩
    obtain ⟨o,e,d⟩:=T.obj _ _ st7 b hb
    exact (I9.pin (b,o) (List.mem_append_right _ (List.mem_append_right _ (jdg hb e)))).2.1
   refine wpAny_bind (wpAny_mono (hg fp _ _ _ _ s7 σ5 H7 x u _ I7' r7 (step x H7 y7)) (fun _ s8 ⟨σ8,H8,I8,q8⟩=>?_) fun _ _ z=>False.elim z)
   refine wpAny_bind (wpAny_mono (ht fp _ _ _ _ s8 σ8 H8 _ I8 q8) (fun ok s9 ⟨H9,I9,q9⟩=>?_) fun _ _ z=>False.elim z)
   cases ok with
   | false=>exact wpAny_pure ⟨rfl,fin I9 q9⟩
   | true =>
    refine wpAny_bind (wpAny_bind (wpAny_mono (he fp _ _ _ _ s9 σ8 H9 _ I9 q9) (fun v s10 ⟨y,H10,I10,r10,xs,hx,hz,q10⟩=>?_) fun _ _ z=>False.elim z))
    refine wpAny_bind (wpAny_mono (jip (X:=X.block scope N fp { s2 with heap:=h3 } (upd H2 s2.heap.objs.size (.lst [])) h3.objs.size) _ s10 σ8 H10 (.ref s2.heap.objs.size) [y] _ [v] (fun _ H11=>N' σ8 H11) I10 rfl (.cons r10 .nil) ⟨_,xs,y,rfl,rfl,hx,hz,q10⟩)
     (fun _ s11 ⟨_,H11,I11,_,q11⟩=>wpAny_pure (wpAny_pure ⟨rfl,fin I11 q11⟩)) fun _ _ z=>False.elim z)
 exact codeAny_compStart_list (loop _ rfl) (T.self _ 0 _ _ _ tn1 (loop _ rfl))
def joo (src:List (Option Nat)) (wi:TI) (g:TG) (tc:TT) (te:TE):TE:=fun σ H Q=>wi σ H fun J H1=>∀ l,H1 l = none→joi J src g tc te Q σ H1 l
theorem jc7 {X:Cx} {elt tg iter:Expr} {ifs:List Expr} {scope:Scope} {pos:Pos} {N:List Str} {src:List (Option Nat)} {wi:TI} {g:TG} {tc:TT} {te:TE} (S:CpScope X scope N src) (hc:X.calm = true)
  (hi:PI X tg iter wi) (hg:∀ fp s₀ H₀ C,PG (X.block scope N fp s₀ H₀ C) tg g) (ht:∀ fp s₀ H₀ C,PIf (X.block scope N fp s₀ H₀ C) ifs tc) (he:∀ fp s₀ H₀ C,PE (X.block scope N fp s₀ H₀ C) elt te)
  (hs:∀ x,foldedSetIterable iter X.env x = pure x:=by intro _; rfl):PE X (.ListComp elt [⟨tg,iter,ifs,0⟩] scope pos) (joo src wi g tc te):=by
 intro pins s σ H Q I h
 rw [eval_ListComp]
 refine wpAny_comprehension_free (use:=none) rfl hs (jcz fun y hy e=>I.ok.has y.1 (.inl (S.frees y hy e).2)) S.kind S.locs ?_
 refine thn (hi pins s σ H _ I h) fun v s1 h1=>thn h1 fun itv s2 h2=>?_
 obtain ⟨it,fp,tn,J,H2,e,I2,T,st2,f2,hw⟩:=h2
 subst e
 refine jj3 (RR:=fun acc C=>compPost (model X.prog X.w) X.A X.xe none (EP X pins σ Q) acc C) S hc hg ht he I2 T st2 f2 hw ?_
 intro l C H' s' I' hm fC q
 obtain ⟨m,hm⟩:=hm
 refine ⟨m,hm,fun h' hs'=>?_⟩
 exact ⟨.ref l,H',I'.turned (t':=s'.toks) (fun b o hb e=>hs'.extBut b o hb e) fC.1 fC.2.1 fC.2.2.2.1 fC.2.2.2.2.1 fC.2.2.2.2.2,rfl,q⟩
theorem jjj {X:Cx} {i:Nat} {x:Str} {pos' spos:Pos} {elt tg iter:Expr} {ifs:List Expr} {scope:Scope} {pos:Pos} {N:List Str} {src:List (Option Nat)} {wi:TI} {g:TG} {tc:TT} {te:TE} (hN:X.N.Nodup) (hix:X.N[i]? = some x) (hx:Loc X.env.scope x)
  (S:CpScope X scope N src) (hc:X.calm = true)
  (hi:PI X tg iter wi) (hg:∀ fp s₀ H₀ C,PG (X.block scope N fp s₀ H₀ C) tg g) (ht:∀ fp s₀ H₀ C,PIf (X.block scope N fp s₀ H₀ C) ifs tc) (he:∀ fp s₀ H₀ C,PE (X.block scope N fp s₀ H₀ C) elt te)
  (hsw:swapsWith (.ListComp elt [⟨tg,iter,ifs,0⟩] scope pos) (some (.Name x pos')) spos.line X.env = pure true:=by rfl)
  (hs:∀ x,foldedSetIterable iter X.env x = pure x:=by intro _; rfl) (hf:X.fn x = true ∨ X.env.scope.names.lookup x = some .local:=by first | exact .inl rfl | exact .inr rfl | assumption) :
  PS X (.Assign [.Name x pos'] (.ListComp elt [⟨tg,iter,ifs,0⟩] scope pos) spos) (tAsg (joo src wi g tc te) (jjz i)):=by
 intro pins s σ H D I h
 rw [exec_Assign_Name_used _ _ _ _ hsw]
 refine wpAny_bind (wpAny_standAt (wpAny_bind ?_))
 show wpAny _ X.A (do let _ ← comprehension (.ListComp elt [⟨tg,iter,ifs,0⟩] scope pos) scope X.env _ (newList []) false (eval iter X.env) (some (assign (.Name x pos') X.env))) _ _ s
 refine wpAny_bind (wpAny_mono (wpAny_comprehension_free (use:=some (assign (.Name x pos') X.env)) (Q:=fun _ s'=>SP X pins D .next s') rfl hs (jcz fun y hy e=>I.ok.has y.1 (.inl (S.frees y hy e).2)) S.kind S.locs
  (thn (hi pins s σ H _ I h) fun v s1 h1=>thn h1 fun itv s2 h2=>?_)) (fun _ s' hq=>wpAny_pure (wpAny_pure hq)) fun _ _ e=>e)
 obtain ⟨it,fp,tn,J,H2,e,I2,T,st2,f2,hw⟩:=h2
 subst e
 refine jj3 (Q:=fun v H'=>D.nx (σ.set i (some v)) H') (RR:=fun acc C=>compPost (model X.prog X.w) X.A X.xe (some (assign (.Name x pos') X.env)) (fun _ s'=>SP X pins D .next s') acc C) S hc hg ht he I2 T st2 f2 hw ?_
 intro l C H' s' I' hm fC q
 obtain ⟨m,hm⟩:=hm
 show wpAny _ X.A (assign (.Name x pos') X.env (.ref l)) _ _ _
 refine wpAny_assign_Name (ji8 I' hN hix hx (v:=.ref l) rfl (fun s'' I'' ⟨a,sb,ha⟩=>?_) hf)
 have hCa:C ≠ a:=by
  rcases ha with rfl | ha
  ·exact fC.2.1
  ·exact fun z=>fC.2.2.2.2.1 x a ha z.symm
 refine ⟨m,hm.sameBut sb hCa,fun h' hs'=>?_⟩
 exact ⟨_,H',I''.turned (t':=s''.toks) (fun b o hb e=>hs'.extBut b o hb e) fC.1 fC.2.1 fC.2.2.2.1 fC.2.2.2.2.1 fC.2.2.2.2.2,q⟩
end L2
namespace L2
open PySem PySem.Spec PyProof.Rows
theorem Inv.turnedNew {X:Cx} {pins:List (Addr × Obj)} {σ:St} {H:Hp} {s:Shared} {h':Heap} {ch:List Addr} {t:Addr} {o:HO} {t':Nat} (I:Inv X pins σ H s) (hsz:s.heap.objs.size ≤ t)
  (k:∀ b ob,b ∉ ch→s.heap.get? b = some ob→h'.get? b = some ob) (hch:∀ b ∈ ch,FpOk X pins H b) (new:jbp X.prog X.w (upd H t o) h' t o) :
  Inv X pins σ (upd H t o) { s with heap:=h',toks:=t' }:=by
 have hn:H t = none:=I.hok.fresh hsz
 have nt:∀ {b ob},s.heap.get? b = some ob→b ≠ t:=fun q=>Nat.ne_of_lt (Nat.lt_of_lt_of_le (Heap.lt_size q) hsz)
 have u:Un (frs X.stack) ch H (upd H t o) s.heap h' :=
  ⟨fun b ob q _ _ hx=>k b ob hx q,fun b ob q _ _ hx=>⟨ob.slots,k b ob hx q⟩,fun b ob q n _=>by rw [jaa (nt q)]; exact n,fun b ob q hx=>⟨ob,k b ob hx q⟩,
   fun b xs q=>by rw [jaa (ja7 q hn)]; exact q,fun b ob xs q=>by rw [jaa (ja7 q hn)]; exact q,fun b ps q=>⟨#[],by rw [jaa (ja7 q hn),q]; simp⟩⟩
 refine I.call (g':=s.gens) (t':=t') (d':=s.drawn) u (fun b ob e=>?_) I.bare fun b hb=>⟨(hch b hb).2.2.2.1,(hch b hb).2.1,(hch b hb).2.2.2.2.1,(hch b hb).2.2.2.2.2⟩
 by_cases hb:b = t
 ·subst hb; rw [ja1] at e; cases e; exact new
 ·rw [jaa hb] at e
  have ntr:∀ {c u},H c = some u→c ∉ ch:=fun q z=>by rw [(hch _ z).1] at q; cases q
  refine (I.hok b ob e).stay (fun c v hc q=>k c v ?_ q) (fun c q=>by rw [jaa (ja7 q hn)]; exact q) fun c xs q=>by rw [jaa (ja7 q hn)]; exact q
  rcases hc with z | z
  ·rw [z]; exact ntr e
  ·exact ntr z
theorem Inv.turnedAll {X:Cx} {pins:List (Addr × Obj)} {σ:St} {H:Hp} {s:Shared} {h':Heap} {ch:List Addr} {t':Nat} (I:Inv X pins σ H s)
  (k:∀ b ob,b ∉ ch→s.heap.get? b = some ob→h'.get? b = some ob) (hch:∀ b ∈ ch,FpOk X pins H b):Inv X pins σ H { s with heap:=h',toks:=t' }:=by
 have u:Un (frs X.stack) ch H H s.heap h' :=
  ⟨fun b ob q _ _ hx=>k b ob hx q,fun b ob q _ _ hx=>⟨ob.slots,k b ob hx q⟩,fun b ob q n _=>n,fun b ob q hx=>⟨ob,k b ob hx q⟩,fun b xs q=>q,fun b ob xs q=>q,fun b ps q=>⟨#[],by rw [q]; simp⟩⟩
 refine I.call (g':=s.gens) (t':=t') (d':=s.drawn) u (fun b ob e=>?_) I.bare fun b hb=>⟨(hch b hb).2.2.2.1,(hch b hb).2.1,(hch b hb).2.2.2.2.1,(hch b hb).2.2.2.2.2⟩
 have ntr:∀ {c u},H c = some u→c ∉ ch:=fun q z=>by rw [(hch _ z).1] at q; cases q
 refine (I.hok b ob e).stay (fun c v hc q=>k c v ?_ q) (fun c q=>q) fun c xs q=>q
 rcases hc with z | z
 ·rw [z]; exact ntr e
 ·exact ntr z
def Ite (K:PySem.W.Frag) (a:Addr):It :=
 ⟨fun i H=>∃ xs x,SqL K H a xs∧xs[i]? = some x,fun i H x H'=>∃ t y,H t = none∧x = .ref t∧H' = upd H t (.tup [.int i,y])∧∀ xs,SqL K H a xs→xs[i]? = some y,fun i H=>∃ xs,SqL K H a xs∧xs.length ≤ i⟩
theorem jlz {P:Program} {w:World} {K:PySem.W.Frag} {elts:List Expr} {x1:Nat} {pos:Pos} (a e it:Addr) (hne:e ≠ it) :
  Turn P w K (.Tuple elts x1 pos) (Ite K a) [e,it] e (fun i h=>(∃ old,IsEnum h e it i old)∧h.IsListIter it a i) where
 mem:=by simp
 obj:=fun i h st b hb=>by
  obtain ⟨⟨old,he⟩,hit⟩:=st
  have q:b = e ∨ b = it:=by simpa using hb
  rcases q with rfl | rfl
  ·exact ⟨_,he,fun v z=>by
    have z':Data.fields _ = Data.cell v:=z
    cases z'⟩
  ·obtain ⟨o,e1,c,d⟩:=hit
   exact ⟨o,e1,fun v z=>by rw [d] at z; cases z⟩
 keep:=fun i h h' st k=>by
  obtain ⟨⟨old,he⟩,hit⟩:=st
  exact ⟨⟨old,k e (by simp) _ he⟩,hit.at fun o z=>k it (by simp) o z⟩
 item:=by
  intro X hP hw hK hc i pins s σ H E I hf st hg
  subst hP hw hK
  obtain ⟨⟨old,he⟩,hit⟩:=st
  obtain ⟨xs,x,hq,hx⟩:=hg
  obtain ⟨its,rv,p,hz⟩:=I.list hq
  obtain ⟨u,hu,ru⟩:=rv.get hx
  have elt:e < s.heap.objs.size:=Heap.lt_size he
  have ilt:it < s.heap.objs.size:=by obtain ⟨_,z,_⟩:=hit; exact Heap.lt_size z
  refine wpAny_pyNext_enum_item he hit p.isList (x:=u) (by simpa using hu) hne fun h1 ho hit1 hT hsz1 hk1=>?_
  refine ⟨_,rfl,wpAny_letOwnedTupleGo_enum ho fun h2 he2 hs2=>?_⟩
  replace hs2:Heap.SameBut e h1 h2:=hs2
  have kk:∀ b ob,b ∉ [e,it]→s.heap.get? b = some ob→h2.get? b = some ob:=fun b ob hb q=>by
   have hb':b ≠ e∧b ≠ it:=by simpa using hb
   exact hs2.extBut b ob hb'.1 (hk1 b ob hb'.1 hb'.2 q)
  have hT2:h2.get? s.heap.objs.size = some { cls:=.type "tuple",data:=.seq #[.int i s.toks,u] }:=(hs2.2 _ (Nat.ne_of_gt elt)).trans hT
  refine ⟨.ref s.heap.objs.size,upd H s.heap.objs.size (.tup [.int i,x]),I.turnedNew (ch:=[e,it]) (Nat.le_refl _) kk hf ?_,rfl,⟨_,x,I.fresh,rfl,rfl,fun ys hy=>by rw [I.list_inj hy hq]; exact hx⟩,⟨⟨u,by simpa using he2⟩,hit1.at fun o z=>(hs2.2 it hne.symm).trans z⟩,fun b hb=>?_⟩
  ·exact ⟨by show 2 ≤ sizeLine; decide,[.int i s.toks,u],.cons ⟨_,rfl⟩ (.cons ru .nil),⟨_,hT2,rfl,_,rfl⟩⟩
  ·have hb':b = e ∨ b = it:=by simpa using hb
   have:b ≠ s.heap.objs.size:=by
    rcases hb' with rfl | rfl
    ·exact Nat.ne_of_lt elt
    ·exact Nat.ne_of_lt ilt
   rw [jaa this]
   exact (hf b hb).1
 done:=by
  intro X hP hw hK hc i pins s σ H E I hf st hg
  subst hP hw hK
  obtain ⟨⟨old,he⟩,hit⟩:=st
  obtain ⟨xs,hq,hx⟩:=hg
  obtain ⟨its,rv,p,hz⟩:=I.list hq
  have hl:=rv.length
  refine wpAny_pyNext_enum_end (I.ok.hd hc) he hit p.isList (by simp; omega) fun h' eb=>⟨rfl,I.turnedAll (ch:=[e,it]) (t':=s.toks) (fun b o hb q=>eb b o (fun z=>hb (by simp [z])) q) hf⟩
 self:=fun _ _ _ _ _ st h=>by
  obtain ⟨⟨old,he⟩,_⟩:=st
  exact wpAny_pyIter_enum he h
def iEnum (K:PySem.W.Frag) (ta:TA):TI:=fun σ H R=>ta σ H fun vs H1=>∃ a,vs = [.ref a]∧(∃ xs,SqL K H1 a xs)∧R (Ite K a) H1
theorem jms {X:Cx} {elts:List Expr} {x1:Nat} {tpos:Pos} {a:Expr} {ta:TA} {p pos:Pos} (hg:Gl X "enumerate") (hm:X.mg "enumerate" = none) (ha:PA X [a] ta) (hs:starEach [a] X.env = [(false,eval a X.env)]:=by rfl) :
  PI X (.Tuple elts x1 tpos) (.Call (.Name "enumerate" p) [a] [] pos) (iEnum X.K ta):=by
 intro pins s σ H R I h
 refine Call_ (je5 I hg hm boot_enumerate (PyProof.Rows.callWith_type1 (thn (ha pos pins s σ H _ I h) fun us s1 ⟨vs,H1,I1,r1,q1⟩=>?_) hs rfl))
 obtain ⟨a,e,⟨xs,hq⟩,q⟩:=q1
 subst e
 cases r1 with
 | cons r rr =>
  cases rr
  cases r
  obtain ⟨its,rv,pl,hz⟩:=I1.list hq
  refine call_enumerate_list pl.isList fun h' he hit hsz hk=>?_
  refine wpAny_pyIter_enum he ?_
  have I2:Inv X pins σ H1 { s1 with heap:=h' }:=I1.kept (t':=s1.toks) fun b o q=>hk b o q
  refine ⟨_,[s1.heap.objs.size + 1,s1.heap.objs.size],_,_,H1,rfl,I2,jlz a _ _ (Nat.succ_ne_self _),⟨⟨_,he⟩,hit⟩,fun b hb=>?_,q⟩
  have hb':b = s1.heap.objs.size + 1 ∨ b = s1.heap.objs.size:=by simpa using hb
  rcases hb' with rfl | rfl
  ·exact I1.fpOk (Nat.le_succ _) (I1.hok.fresh (Nat.le_succ _))
  ·exact I1.fpOk (Nat.le_refl _) (I1.hok.fresh (Nat.le_refl _))
end L2
namespace L2
open PySem PySem.Spec PyProof.Rows
section
variable {prog:Program} {w:World} {A:Around} {E:Value→Shared→Prop} {s:Shared}
theorem jli {j t:Addr} {k:Nat} {ar:Array Value} {x:Value} {Q:Value→Shared→Prop} (hj:s.heap.IsTupleIter j t k) (ht:s.heap.IsTuple t ar) (hx:ar[k]? = some x)
  (hQ:∀ h',h'.IsTupleIter j t (k + 1)→Heap.SameBut j s.heap h'→Q x { s with heap:=h' }):wpAny (model prog w) A (Builtin.SmallTypes.nextOf (.ref j)) Q E s:=by
 obtain ⟨ob,e0,hcl,hdt⟩:=id hj
 obtain ⟨ot,e1,_,nt,hdl⟩:=ht
 unfold Builtin.SmallTypes.nextOf
 refine wpAny_bind (wpAny_callSpecial?_slot (name:=Str.ofString "__next__") hj.typeIs F.slot_tuple_iterator_next (wpAny_call_entry F.slot_tuple_iterator_next hj.typeIs F.entry_tuple_iterator_next ?_ (F.args_tuple_iterator_next_1 _)))
 show wpAny _ _ (field (.ref j) 0 >>= _) _ _ s
 refine wpAny_bind (wpAny_field e0 hdt (x:=.ref t) rfl ?_)
 show wpAny _ _ (if (Value.ref t == Value.none) = true then _ else _) _ _ s
 rw [if_neg (show ¬ ((Value.ref t == Value.none) = true) from Bool.false_ne_true)]
 show wpAny _ _ (field (.ref j) 1 >>= _) _ _ s
 refine wpAny_bind (wpAny_field e0 hdt (x:=.int k 0) rfl ?_)
 show wpAny _ _ (seqItems? (.ref t) >>= _) _ _ s
 refine wpAny_bind (wpAny_seqItems e1 hdl ?_)
 simp only [Int.toNat_natCast,hx]
 refine wpAny_bind (wpAny_setField e0 hdt (by simp) (wpAny_pure ⟨x,rfl,wpAny_pure (hQ _ ?_ (Heap.SameBut.update ..))⟩))
 exact ⟨_,Heap.get?_update_self _ e0 (Obj.isFreed_of_fields (Obj.data_mapFields hdt _)),(Obj.cls_mapFields ..).trans hcl,by rw [Obj.data_mapFields hdt]; simp [rawInt]⟩
theorem jgb {j t:Addr} {k:Nat} {ar:Array Value} {Q:Value→Shared→Prop} (hh:A.handled = none) (hj:s.heap.IsTupleIter j t k) (ht:s.heap.IsTuple t ar) (hx:ar[k]? = none)
  (hE:∀ h' e,Heap.ExtBut j s.heap h'→(∃ o,h'.get? e = some o∧o.cls = .type "StopIteration")→E (.ref e) { s with heap:=h' }):wpAny (model prog w) A (Builtin.SmallTypes.nextOf (.ref j)) Q E s:=by
 obtain ⟨ob,e0,hcl,hdt⟩:=id hj
 obtain ⟨ot,e1,_,nt,hdl⟩:=ht
 unfold Builtin.SmallTypes.nextOf
 refine wpAny_bind (wpAny_callSpecial?_slot (name:=Str.ofString "__next__") hj.typeIs F.slot_tuple_iterator_next (wpAny_call_entry F.slot_tuple_iterator_next hj.typeIs F.entry_tuple_iterator_next ?_ (F.args_tuple_iterator_next_1 _)))
 show wpAny _ _ (field (.ref j) 0 >>= _) _ _ s
 refine wpAny_bind (wpAny_field e0 hdt (x:=.ref t) rfl ?_)
 show wpAny _ _ (if (Value.ref t == Value.none) = true then _ else _) _ _ s
 rw [if_neg (show ¬ ((Value.ref t == Value.none) = true) from Bool.false_ne_true)]
 show wpAny _ _ (field (.ref j) 1 >>= _) _ _ s
 refine wpAny_bind (wpAny_field e0 hdt (x:=.int k 0) rfl ?_)
 show wpAny _ _ (seqItems? (.ref t) >>= _) _ _ s
 refine wpAny_bind (wpAny_seqItems e1 hdl ?_)
 simp only [Int.toNat_natCast,hx]
 refine wpAny_bind (wpAny_rule (wpAny_bind (wpAny_setField e0 hdt (by simp) ?_)))
 show wpAny _ _ (newExc (.type "StopIteration") [] >>= _) _ _ _
 refine wpAny_bind ?_
 simp only [newExc,newTuple]
 refine wpAny_bind (wpAny_newObj_type ?_ (by size_fits))
 refine wpAny_bind (m:=firstArgMember _ _) (wpAny_of_eq (a:=Value.none) (by first | rfl | (simp only [firstArgMember]; rfl)) ?_)
 refine wpAny_newObj_type ?_ (by size_fits)
 simp only [raiseNew]
 refine wpAny_bind (wpAny_handled ?_)
 first | rw [show A.in1.handled = none from hh] | rw [hh]
 refine wpAny_bind (wpAny_pure (wpAny_throw ?_))
 exact hE _ _ (((Heap.SameBut.update ..).extBut.push _).push _) ⟨_,Heap.get?_push_size _ rfl,rfl⟩
def IsSq (b:Bool) (h:Heap) (l:Addr) (ar:Array Value):Prop:=if b = true then h.IsList l ar else h.IsTuple l ar
def jbq (b:Bool) (h:Heap) (j l:Addr) (k:Nat):Prop:=if b = true then h.IsListIter j l k else h.IsTupleIter j l k
theorem IsSq.at' {b:Bool} {h h':Heap} {l:Addr} {ar:Array Value} (x:IsSq b h l ar) (k:∀ o,h.get? l = some o→h'.get? l = some o):IsSq b h' l ar:=by
 cases b with
 | true=>obtain ⟨o,e,r⟩:=(show h.IsList l ar from x); exact (show h'.IsList l ar from ⟨o,k o e,r⟩)
 | false=>obtain ⟨o,e,r⟩:=(show h.IsTuple l ar from x); exact (show h'.IsTuple l ar from ⟨o,k o e,r⟩)
theorem jbq.at' {b:Bool} {h h':Heap} {j l:Addr} {i:Nat} (x:jbq b h j l i) (k:∀ o,h.get? j = some o→h'.get? j = some o):jbq b h' j l i:=by
 cases b with
 | true=>obtain ⟨o,e,r⟩:=(show h.IsListIter j l i from x); exact (show h'.IsListIter j l i from ⟨o,k o e,r⟩)
 | false=>obtain ⟨o,e,r⟩:=(show h.IsTupleIter j l i from x); exact (show h'.IsTupleIter j l i from ⟨o,k o e,r⟩)
theorem jbq.obj {b:Bool} {h:Heap} {j l:Addr} {i:Nat} (x:jbq b h j l i):∃ o,h.get? j = some o∧∀ v,o.data ≠ .cell v:=by
 cases b with
 | true=>obtain ⟨o,e,_,d⟩:=(show h.IsListIter j l i from x); exact ⟨o,e,fun v z=>by rw [d] at z; cases z⟩
 | false=>obtain ⟨o,e,_,d⟩:=(show h.IsTupleIter j l i from x); exact ⟨o,e,fun v z=>by rw [d] at z; cases z⟩
theorem jfv {b:Bool} {j l:Addr} {k:Nat} {ar:Array Value} {x:Value} {Q:Value→Shared→Prop} (hj:jbq b s.heap j l k) (hl:IsSq b s.heap l ar) (hx:ar[k]? = some x)
  (hQ:∀ h',jbq b h' j l (k + 1)→Heap.SameBut j s.heap h'→Q x { s with heap:=h' }):wpAny (model prog w) A (Builtin.SmallTypes.nextOf (.ref j)) Q E s:=by
 cases b with
 | true=>exact wpAny_nextOf_list_item (show s.heap.IsListIter j l k from hj) (show s.heap.IsList l ar from hl) hx fun h' a b=>hQ h' a b
 | false=>exact jli (show s.heap.IsTupleIter j l k from hj) (show s.heap.IsTuple l ar from hl) hx fun h' a b=>hQ h' a b
theorem je4 {b:Bool} {j l:Addr} {k:Nat} {ar:Array Value} {Q:Value→Shared→Prop} (hh:A.handled = none) (hj:jbq b s.heap j l k) (hl:IsSq b s.heap l ar) (hx:ar[k]? = none)
  (hE:∀ h' e,Heap.ExtBut j s.heap h'→(∃ o,h'.get? e = some o∧o.cls = .type "StopIteration")→E (.ref e) { s with heap:=h' }):wpAny (model prog w) A (Builtin.SmallTypes.nextOf (.ref j)) Q E s:=by
 cases b with
 | true=>exact wpAny_nextOf_list_end hh (show s.heap.IsListIter j l k from hj) (show s.heap.IsList l ar from hl) hx hE
 | false=>exact jgb hh (show s.heap.IsTupleIter j l k from hj) (show s.heap.IsTuple l ar from hl) hx hE
theorem ji2 {b:Bool} {z TI TO i1 i2 l1 l2:Addr} {k1 k2:Nat} {xs ys:Array Value} {x y v0 v1:Value} {Q:Value→Shared→Prop} (D:ZipApart z TI TO i1 i2 l1 l2)
  (hz:IsZip s.heap z TI TO .none) (hTI:IsPair s.heap TI (.ref i1) (.ref i2)) (hTO:IsPair s.heap TO v0 v1)
  (h1:jbq b s.heap i1 l1 k1) (h2:jbq b s.heap i2 l2 k2) (hl1:IsSq b s.heap l1 xs) (hl2:IsSq b s.heap l2 ys) (hx:xs[k1]? = some x) (hy:ys[k2]? = some y)
  (hQ:∀ h',IsZip h' z TI TO (rawInt s.heap.objs.size)→IsPair h' TO x y→jbq b h' i1 l1 (k1 + 1)→jbq b h' i2 l2 (k2 + 1)→IsPair h' s.heap.objs.size x y →
   (∀ c o,c ≠ z→c ≠ TO→c ≠ i1→c ≠ i2→s.heap.get? c = some o→h'.get? c = some o)→Q (.ref s.heap.objs.size) { s with heap:=h' }) :
  wpAny (model prog w) A (Builtin.«zip.__next__» ⟨[.ref z],[]⟩) (fun fin s'=>∃ v,fin = .done (.ret v)∧Q v s') E s:=by
 show wpAny _ _ (field (.ref z) 2 >>= _) _ _ _
 refine wpAny_bind (wpAny_field hz rfl (x:=.bool false) rfl ?_)
 show wpAny _ _ (field (.ref z) 3 >>= _) _ _ _
 refine wpAny_bind (wpAny_field hz rfl (x:=.ref TI) rfl ?_)
 refine wpAny_bind (wpAny_seqItems hTI rfl ?_)
 show wpAny _ _ (Builtin.SmallTypes.ownedTupleIsFree (.ref z) >>= _) _ _ _
 refine wpAny_bind ?_
 unfold Builtin.SmallTypes.ownedTupleIsFree
 refine wpAny_bind (wpAny_field hz rfl (x:=.none) rfl (wpAny_pure ?_))
 simp only [if_true]
 refine wpAny_bind (wpAny_rule ?_)
 refine wpAny_bind (wpAny_field hz rfl (x:=.ref TO) rfl ?_)
 refine wpAny_bind (wpAny_setField_rec hz (by simp) fun g1 hzA sA=>?_)
 replace hzA:IsZip g1 z TI TO .ellipsis:=hzA
 refine wpAny_bind ?_
 simp only [List.zipIdx_cons,List.zipIdx_nil,List.forIn_cons,List.forIn_nil]
 refine wpAny_bind (wpAny_bind (wpAny_onRaise ?_))
 show wpAny _ _ (Builtin.SmallTypes.nextOf (.ref i1) >>= _) _ _ _
 refine wpAny_bind (jfv (b:=b) (h1.at' fun o e=>sA.extBut _ o D.i1z e) (hl1.at' fun o e=>sA.extBut _ o D.l1z e) hx fun g2 h1B sB=>wpAny_pure ?_)
 have TOB:IsPair g2 TO v0 v1:=sB.extBut _ _ D.TOi1 (sA.extBut _ _ D.TOz hTO)
 refine wpAny_bind (wpAny_seqItems TOB rfl ?_)
 refine wpAny_bind (wpAny_updateSeq_pair TOB fun g3 TOC sC=>?_)
 replace TOC:IsPair g3 TO x v1:=TOC
 refine wpAny_bind (wpAny_letGo (wpAny_pure ?_))
 refine wpAny_bind (wpAny_bind (wpAny_onRaise ?_))
 show wpAny _ _ (Builtin.SmallTypes.nextOf (.ref i2) >>= _) _ _ _
 refine wpAny_bind (jfv (b:=b) (h2.at' fun o e=>sC.extBut _ o D.TOi2.symm (sB.extBut _ o D.i12.symm (sA.extBut _ o D.i2z e))) (hl2.at' fun o e=>sC.extBut _ o D.l2TO (sB.extBut _ o D.l2i1 (sA.extBut _ o D.l2z e))) hy fun g4 h2D sD=>wpAny_pure ?_)
 have TOD:IsPair g4 TO x v1:=sD.extBut _ _ D.TOi2 TOC
 refine wpAny_bind (wpAny_seqItems TOD rfl ?_)
 refine wpAny_bind (wpAny_updateSeq_pair TOD fun g5 TOE sE=>?_)
 replace TOE:IsPair g5 TO x y:=TOE
 refine wpAny_bind (wpAny_letGo (wpAny_pure (wpAny_pure ?_)))
 refine wpAny_bind (wpAny_seqItems TOE rfl ?_)
 refine wpAny_bind (wpAny_newTuple ?_)
 have hsz:g5.objs.size = s.heap.objs.size:=by rw [sE.1,sD.1,sC.1,sB.1,sA.1]
 have hzE:IsZip g5 z TI TO .ellipsis:=sE.extBut _ _ D.TOz.symm (sD.extBut _ _ D.i2z.symm (sC.extBut _ _ D.TOz.symm (sB.extBut _ _ D.i1z.symm hzA)))
 have hkE:∀ c o,c ≠ z→c ≠ TO→c ≠ i1→c ≠ i2→s.heap.get? c = some o→g5.get? c = some o:=fun c o c1 c2 c3 c4 e=>sE.extBut _ _ c2 (sD.extBut _ _ c4 (sC.extBut _ _ c2 (sB.extBut _ _ c3 (sA.extBut _ _ c1 e))))
 have h1E:jbq b g5 i1 l1 (k1 + 1):=h1B.at' fun o e=>sE.extBut _ o D.TOi1.symm (sD.extBut _ o D.i12 (sC.extBut _ o D.TOi1.symm e))
 have h2E:jbq b g5 i2 l2 (k2 + 1):=h2D.at' fun o e=>sE.extBut _ o D.TOi2.symm e
 have zlt:z < g5.objs.size:=Heap.lt_size hzE
 show wpAny _ _ (Builtin.SmallTypes.ownedTupleHandOut (.ref z) (.ref g5.objs.size) >>= _) _ _ _
 refine wpAny_bind ?_
 unfold Builtin.SmallTypes.ownedTupleHandOut
 have hzF:IsZip (g5.push { cls:=.type "tuple",data:=.seq #[x,y] }) z TI TO .ellipsis:=Heap.get?_push_of_some _ hzE
 refine wpAny_bind (wpAny_setField_rec hzF (by simp) fun g7 hzG sG=>?_)
 replace hzG:IsZip g7 z TI TO (rawInt g5.objs.size):=hzG
 refine wpAny_setField_rec hzG (by simp) fun g8 hzI sI=>?_
 replace hzI:IsZip g8 z TI TO (rawInt g5.objs.size):=hzI
 have up:∀ c o,c ≠ z→g5.get? c = some o→g8.get? c = some o:=fun c o c1 e=>sI.extBut _ _ c1 (sG.extBut _ _ c1 (Heap.get?_push_of_some _ e))
 have hTI8:IsPair g8 g5.objs.size x y:=sI.extBut _ _ (Nat.ne_of_gt zlt) (sG.extBut _ _ (Nat.ne_of_gt zlt) (Heap.get?_push_size _ rfl))
 rw [hsz] at hzI hTI8
 refine wpAny_pure ⟨_,rfl,?_⟩
 show Q (.ref g5.objs.size) _
 rw [hsz]
 exact hQ g8 hzI (up _ _ D.TOz TOE) (h1E.at' fun o e=>up _ o D.i1z e) (h2E.at' fun o e=>up _ o D.i2z e) hTI8 fun c o c1 c2 c3 c4 e=>up c o c1 (hkE c o c1 c2 c3 c4 e)
theorem jjd {b:Bool} {z TI TO i1 i2 l1 l2:Addr} {k1 k2:Nat} {xs ys:Array Value} {v0 v1:Value} {Q:Fin→Shared→Prop} (hh:A.handled = none) (D:ZipApart z TI TO i1 i2 l1 l2)
  (hz:IsZip s.heap z TI TO .none) (hTI:IsPair s.heap TI (.ref i1) (.ref i2)) (hTO:IsPair s.heap TO v0 v1)
  (h1:jbq b s.heap i1 l1 k1) (h2:jbq b s.heap i2 l2 k2) (hl1:IsSq b s.heap l1 xs) (hl2:IsSq b s.heap l2 ys) (hend:xs[k1]? = none ∨ ys[k2]? = none)
  (hE:∀ h' e,(∀ c o,c ≠ z→c ≠ TO→c ≠ i1→c ≠ i2→s.heap.get? c = some o→h'.get? c = some o)→(∃ o,h'.get? e = some o∧o.cls = .type "StopIteration")→E (.ref e) { s with heap:=h' }) :
  wpAny (model prog w) A (Builtin.«zip.__next__» ⟨[.ref z],[]⟩) Q E s:=by
 show wpAny _ _ (field (.ref z) 2 >>= _) _ _ _
 refine wpAny_bind (wpAny_field hz rfl (x:=.bool false) rfl ?_)
 show wpAny _ _ (field (.ref z) 3 >>= _) _ _ _
 refine wpAny_bind (wpAny_field hz rfl (x:=.ref TI) rfl ?_)
 refine wpAny_bind (wpAny_seqItems hTI rfl ?_)
 show wpAny _ _ (Builtin.SmallTypes.ownedTupleIsFree (.ref z) >>= _) _ _ _
 refine wpAny_bind ?_
 unfold Builtin.SmallTypes.ownedTupleIsFree
 refine wpAny_bind (wpAny_field hz rfl (x:=.none) rfl (wpAny_pure ?_))
 simp only [if_true]
 refine wpAny_bind (wpAny_rule ?_)
 refine wpAny_bind (wpAny_field hz rfl (x:=.ref TO) rfl ?_)
 refine wpAny_bind (wpAny_setField_rec hz (by simp) fun g1 hzA sA=>?_)
 replace hzA:IsZip g1 z TI TO .ellipsis:=hzA
 refine wpAny_bind ?_
 simp only [List.zipIdx_cons,List.zipIdx_nil,List.forIn_cons,List.forIn_nil]
 refine wpAny_bind (wpAny_bind (wpAny_onRaise ?_))
 show wpAny _ _ (Builtin.SmallTypes.nextOf (.ref i1) >>= _) _ _ _
 cases hx:xs[k1]? with
 | none =>
  refine wpAny_bind (je4 (b:=b) hh (h1.at' fun o e=>sA.extBut _ o D.i1z e) (hl1.at' fun o e=>sA.extBut _ o D.l1z e) hx fun g2 ex sB he=>?_)
  obtain ⟨oe,hoe,hce⟩:=he
  have hzB:IsZip g2 z TI TO .ellipsis:=sB _ _ D.i1z.symm hzA
  have hez:ex ≠ z:=fun q=>by subst q; rw [hzB] at hoe; cases hoe; simp at hce
  refine wpAny_setField_rec hzB (by simp) fun g3 _ sC=>hE g3 ex (fun c o c1 _ c3 _ q=>sC.extBut _ _ c1 (sB _ _ c3 (sA.extBut _ _ c1 q))) ⟨oe,sC.extBut _ _ hez hoe,hce⟩
 | some x =>
  have hy:ys[k2]? = none:=by rcases hend with h | h; rw [hx] at h; cases h; exact h
  refine wpAny_bind (jfv (b:=b) (h1.at' fun o e=>sA.extBut _ o D.i1z e) (hl1.at' fun o e=>sA.extBut _ o D.l1z e) hx fun g2 h1B sB=>wpAny_pure ?_)
  have TOB:IsPair g2 TO v0 v1:=sB.extBut _ _ D.TOi1 (sA.extBut _ _ D.TOz hTO)
  refine wpAny_bind (wpAny_seqItems TOB rfl ?_)
  refine wpAny_bind (wpAny_updateSeq_pair TOB fun g3 TOC sC=>?_)
  refine wpAny_bind (wpAny_letGo (wpAny_pure ?_))
  refine wpAny_bind (wpAny_bind (wpAny_onRaise ?_))
  show wpAny _ _ (Builtin.SmallTypes.nextOf (.ref i2) >>= _) _ _ _
  refine wpAny_bind (je4 (b:=b) hh (h2.at' fun o e=>sC.extBut _ o D.TOi2.symm (sB.extBut _ o D.i12.symm (sA.extBut _ o D.i2z e))) (hl2.at' fun o e=>sC.extBut _ o D.l2TO (sB.extBut _ o D.l2i1 (sA.extBut _ o D.l2z e))) hy fun g4 ex sD he=>?_)
  obtain ⟨oe,hoe,hce⟩:=he
  have hzD:IsZip g4 z TI TO .ellipsis:=sD _ _ D.i2z.symm (sC.extBut _ _ D.TOz.symm (sB.extBut _ _ D.i1z.symm hzA))
  have hez:ex ≠ z:=fun q=>by subst q; rw [hzD] at hoe; cases hoe; simp at hce
  refine wpAny_setField_rec hzD (by simp) fun g5 _ sE=>hE g5 ex (fun c o c1 c2 c3 c4 q=>sE.extBut _ _ c1 (sD _ _ c4 (sC.extBut _ _ c2 (sB.extBut _ _ c3 (sA.extBut _ _ c1 q))))) ⟨oe,sE.extBut _ _ hez hoe,hce⟩
end
abbrev zpIt (b:Bool) (l:Addr):Obj:={ cls:=.type (if b = true then "list_iterator" else "tuple_iterator"),data:=.fields #[.ref l,.int 0 0] }
abbrev zp2 (b:Bool) (h:Heap) (l1 l2:Addr):Heap:=(h.push (zpIt b l1)).push (zpIt b l2)
abbrev zp3 (b:Bool) (h:Heap) (l1 l2:Addr):Heap:=(zp2 b h l1 l2).push { cls:=.type "tuple",data:=.seq #[.ref h.objs.size,.ref (h.push (zpIt b l1)).objs.size] }
abbrev zp4 (b:Bool) (h:Heap) (l1 l2:Addr):Heap:=(zp3 b h l1 l2).push { cls:=.type "tuple",data:=.seq #[.none,.none] }
abbrev zp5 (b:Bool) (h:Heap) (l1 l2:Addr):Heap:=(zp4 b h l1 l2).push { cls:=.type "zip",data:=.fields #[.none,.bool false,.bool false,.ref (zp2 b h l1 l2).objs.size,.ref (zp3 b h l1 l2).objs.size] }
theorem jlu (l1 l2:Addr) (xs ys:Array Value) :
  Meets (Builtin.«zip.__new__» ⟨[.type "zip",.ref l1,.ref l2],[]⟩) (fun _ R s=>s.heap.IsTuple l1 xs∧s.heap.IsTuple l2 ys∧R (.ok (.ret (.ref (zp4 false s.heap l1 l2).objs.size))) { s with heap:=zp5 false s.heap l1 l2 }) :=
 .of_wp fun prog w A R s h=>by
  obtain ⟨hp,g,d,tk,os⟩:=s; obtain ⟨hl1,hl2,h⟩:=h
  have hsub:=sub_zip
  have hL1:Heap.IsTuple (Shared.heap ⟨hp,g,d,tk,os⟩) l1 xs:=hl1
  have hL2:Heap.IsTuple (Shared.heap ⟨hp.push { cls:=.type "tuple_iterator",data:=.fields #[.ref l1,.int 0 0] },g,d,tk,os⟩) l2 ys:=Heap.IsTuple.push hl2 _
  wp_walk using wpAny_pyIter_tuple hL1,wpAny_pyIter_tuple hL2
  exact ⟨_,rfl,h⟩
section
variable {prog:Program} {w:World} {A:Around} {E:Value→Shared→Prop} {s:Shared}
theorem jrb {b:Bool} {l1 l2:Addr} {xs ys:Array Value} {Q:Value→Shared→Prop} (hl1:IsSq b s.heap l1 xs) (hl2:IsSq b s.heap l2 ys)
  (h:∀ h',IsZip h' (s.heap.objs.size + 4) (s.heap.objs.size + 2) (s.heap.objs.size + 3) .none→IsPair h' (s.heap.objs.size + 2) (.ref s.heap.objs.size) (.ref (s.heap.objs.size + 1)) →
   IsPair h' (s.heap.objs.size + 3) .none .none→jbq b h' s.heap.objs.size l1 0→jbq b h' (s.heap.objs.size + 1) l2 0→(∀ c o,s.heap.get? c = some o→h'.get? c = some o)→Q (.ref (s.heap.objs.size + 4)) { s with heap:=h' }) :
  wpAny (model prog w) A (call (.type "zip") [.ref l1,.ref l2]) Q E s:=by
 cases b with
 | true=>exact call_zip_2 (show s.heap.IsList l1 xs from hl1) (show s.heap.IsList l2 ys from hl2) fun h' a1 a2 a3 a4 a5 _ a7=>h h' a1 a2 a3 a4 a5 a7
 | false =>
  refine callType_new F.called_zip (by decide) (F.typeCall_zip_2 _ _) (F.newCall_zip_2 _ _) (fun obj=>F.args_object_init_3 obj _ _) F.entry_zip_new (jlu l1 l2 xs ys) ⟨hl1,hl2,?_⟩
  have q1:(s.heap.push (zpIt false l1)).objs.size = s.heap.objs.size + 1:=Heap.size_push ..
  have q2:(zp2 false s.heap l1 l2).objs.size = s.heap.objs.size + 2:=by rw [Heap.size_push,q1]
  have q3:(zp3 false s.heap l1 l2).objs.size = s.heap.objs.size + 3:=by rw [Heap.size_push,q2]
  have q4:(zp4 false s.heap l1 l2).objs.size = s.heap.objs.size + 4:=by rw [Heap.size_push,q3]
  have p5:(zp5 false s.heap l1 l2).get? (zp4 false s.heap l1 l2).objs.size = some _:=Heap.get?_push_size _ rfl
  have p4:(zp5 false s.heap l1 l2).get? (zp3 false s.heap l1 l2).objs.size = some _:=Heap.get?_push_of_some _ (Heap.get?_push_size _ rfl)
  have p3:(zp5 false s.heap l1 l2).get? (zp2 false s.heap l1 l2).objs.size = some _:=Heap.get?_push_of_some _ (Heap.get?_push_of_some _ (Heap.get?_push_size _ rfl))
  have p2:(zp5 false s.heap l1 l2).get? (s.heap.push (zpIt false l1)).objs.size = some _:=Heap.get?_push_of_some _ (Heap.get?_push_of_some _ (Heap.get?_push_of_some _ (Heap.get?_push_size _ rfl)))
  have p1:(zp5 false s.heap l1 l2).get? s.heap.objs.size = some _:=Heap.get?_push_of_some _ (Heap.get?_push_of_some _ (Heap.get?_push_of_some _ (Heap.get?_push_of_some _ (Heap.get?_push_size _ rfl))))
  show _∧_
  rw [q2,q3,q4] at p5
  rw [q1,q2] at p3
  rw [q3] at p4
  rw [q1] at p2
  rw [q4]
  exact ⟨⟨_,p5,rfl⟩,h _ p5 p3 p4 (show Heap.IsTupleIter _ _ _ _ from ⟨_,p1,rfl,rfl⟩) (show Heap.IsTupleIter _ _ _ _ from ⟨_,p2,rfl,rfl⟩) fun c o x =>
   Heap.get?_push_of_some _ (Heap.get?_push_of_some _ (Heap.get?_push_of_some _ (Heap.get?_push_of_some _ (Heap.get?_push_of_some _ x))))⟩
end
def SqB (b:Bool) (K:PySem.W.Frag) (H:Hp) (a:Addr) (xs:List V):Prop:=if b = true then SqL K H a xs else SqT K H a xs
theorem Inv.sqB {X:Cx} {pins:List (Addr × Obj)} {σ:St} {H:Hp} {s:Shared} {b:Bool} {a:Addr} {xs:List V} (I:Inv X pins σ H s) (h:SqB b X.K H a xs):∃ its:List Value,Vals xs its∧IsSq b s.heap a its.toArray∧xs.length ≤ sizeLine:=by
 cases b with
 | true =>
  obtain ⟨its,r,p,z⟩:=I.list (show SqL X.K H a xs from h)
  exact ⟨its,r,p.isList,z⟩
 | false =>
  obtain ⟨its,r,p,z⟩:=I.tuple (show SqT X.K H a xs from h)
  exact ⟨its,r,(show s.heap.IsTuple a its.toArray from p),z⟩
theorem Inv.sqB_inj {X:Cx} {pins:List (Addr × Obj)} {σ:St} {H:Hp} {s:Shared} {b:Bool} {a:Addr} {xs ys:List V} (I:Inv X pins σ H s) (h:SqB b X.K H a xs) (h':SqB b X.K H a ys):xs = ys:=by
 cases b with
 | true=>exact I.list_inj (show SqL X.K H a xs from h) (show SqL X.K H a ys from h')
 | false=>exact I.tuple_inj (show SqT X.K H a xs from h) (show SqT X.K H a ys from h')
def Itz (b:Bool) (K:PySem.W.Frag) (a c:Addr):It :=
  ⟨fun i H=>∃ xs ys x y,SqB b K H a xs∧SqB b K H c ys∧xs[i]? = some x∧ys[i]? = some y,
   fun i H v H'=>∃ t x y,H t = none∧v = .ref t∧H' = upd H t (.tup [x,y])∧(∀ xs,SqB b K H a xs→xs[i]? = some x)∧∀ ys,SqB b K H c ys→ys[i]? = some y,
   fun i H=>∃ xs ys,SqB b K H a xs∧SqB b K H c ys∧(xs.length ≤ i ∨ ys.length ≤ i)⟩
theorem jdm {X:Cx} {pins:List (Addr × Obj)} {σ:St} {H:Hp} {s:Shared} {b:Bool} {a j:Addr} {xs:List V} (I:Inv X pins σ H s) (h:SqB b X.K H a xs) (f:FpOk X pins H j):a ≠ j:=by
 intro e
 subst e
 have key:∀ {o},X.K.lookup a = some o→False:=fun {o} q=>by
  have q1:=I.mod.kin a o q
  rcases f.2.2.2.1 with z | z
  ·exact I.ok.noex a o q1 z
  ·exact absurd (Nat.lt_of_lt_of_le (Heap.lt_size q1) (Nat.le_trans I.ok.bsz z)) (Nat.lt_irrefl _)
 cases b with
 | true =>
  rcases (show SqL X.K H a xs from h) with (h | ⟨o,h⟩) | ⟨o,its,n,hk,_⟩
  ·rw [f.1] at h; cases h
  ·rw [f.1] at h; cases h
  ·exact key hk
 | false =>
  rcases (show SqT X.K H a xs from h) with (h | ⟨o,h⟩) | ⟨o,its,n,hk,_⟩
  ·rw [f.1] at h; cases h
  ·rw [f.1] at h; cases h
  ·exact key hk
structure ZpA (z TI TO i1 i2:Addr):Prop where
 TIz:TI ≠ z
 TOz:TO ≠ z
 i1z:i1 ≠ z
 i2z:i2 ≠ z
 TITO:TI ≠ TO
 TIi1:TI ≠ i1
 TIi2:TI ≠ i2
 TOi1:TO ≠ i1
 TOi2:TO ≠ i2
 i12:i1 ≠ i2
theorem jom {P:Program} {w:World} {K:PySem.W.Frag} {elts:List Expr} {x1:Nat} {pos:Pos} (b:Bool) (a c z TI TO i1 i2:Addr) (D0:ZpA z TI TO i1 i2) :
  Turn P w K (.Tuple elts x1 pos) (Itz b K a c) [z,TI,TO,i1,i2] z (fun i h=>IsZip h z TI TO .none∧IsPair h TI (.ref i1) (.ref i2)∧(∃ u v,IsPair h TO u v)∧jbq b h i1 a i∧jbq b h i2 c i) where
 mem:=by simp
 obj:=fun i h st d hd=>by
  obtain ⟨hz,hTI,⟨u,v,hTO⟩,h1,h2⟩:=st
  have q:d = z ∨ d = TI ∨ d = TO ∨ d = i1 ∨ d = i2:=by simpa using hd
  rcases q with rfl | rfl | rfl | rfl | rfl
  ·exact ⟨_,hz,fun v z=>by
    have z':Data.fields _ = Data.cell v:=z
    cases z'⟩
  ·exact ⟨_,hTI,fun v z=>by
    have z':Data.seq _ _ = Data.cell v:=z
    cases z'⟩
  ·exact ⟨_,hTO,fun v z=>by
    have z':Data.seq _ _ = Data.cell v:=z
    cases z'⟩
  ·exact h1.obj
  ·exact h2.obj
 keep:=fun i h h' st k=>by
  obtain ⟨hz,hTI,⟨u,v,hTO⟩,h1,h2⟩:=st
  exact ⟨k z (by simp) _ hz,k TI (by simp) _ hTI,⟨u,v,k TO (by simp) _ hTO⟩,h1.at' fun o e=>k i1 (by simp) o e,h2.at' fun o e=>k i2 (by simp) o e⟩
 item:=by
  intro X hP hw hK hc i pins s σ H E I hf st hg
  subst hP hw hK
  obtain ⟨hz,hTI,⟨u0,v0,hTO⟩,h1,h2⟩:=st
  obtain ⟨xs,ys,x,y,hq1,hq2,hx,hy⟩:=hg
  obtain ⟨its1,rv1,p1,hz1⟩:=I.sqB hq1
  obtain ⟨its2,rv2,p2,hz2⟩:=I.sqB hq2
  obtain ⟨u1,hu1,ru1⟩:=rv1.get hx
  obtain ⟨u2,hu2,ru2⟩:=rv2.get hy
  have D:ZipApart z TI TO i1 i2 a c:=⟨D0.TIz,D0.TOz,D0.i1z,D0.i2z,D0.TITO,D0.TIi1,D0.TIi2,D0.TOi1,D0.TOi2,D0.i12,
   jdm I hq1 (hf z (by simp)),jdm I hq1 (hf TO (by simp)),jdm I hq1 (hf i1 (by simp)),jdm I hq1 (hf i2 (by simp)),jdm I hq2 (hf z (by simp)),jdm I hq2 (hf TO (by simp)),jdm I hq2 (hf i1 (by simp)),jdm I hq2 (hf i2 (by simp))⟩
  have zlt:z < s.heap.objs.size:=Heap.lt_size hz
  have hT:s.TypeIs (.ref z) "zip":=⟨_,hz,rfl⟩
  unfold pyNext
  refine wpAny_bind (wpAny_attempt (wpAny_callSpecial?_slot (name:=Str.ofString "__next__") hT F.slot_zip_next (wpAny_call_entry F.slot_zip_next hT F.entry_zip_next
   (ji2 (b:=b) D hz hTI hTO h1 h2 p1 p2 (x:=u1) (y:=u2) (by simpa using hu1) (by simpa using hu2) fun h' a1 a2 a3 a4 a5 a7=>wpAny_pure ?_) (F.args_zip_next_1 _))))
  refine ⟨_,rfl,wpAny_letOwnedTupleGo_zip a1 fun g hz' hs'=>?_⟩
  replace hs':Heap.SameBut z h' g:=hs'
  have kk:∀ d ob,d ∉ [z,TI,TO,i1,i2]→s.heap.get? d = some ob→g.get? d = some ob:=fun d ob hd q=>by
   have hd':d ≠ z∧d ≠ TI∧d ≠ TO∧d ≠ i1∧d ≠ i2:=by simpa using hd
   exact hs'.extBut _ _ hd'.1 (a7 d ob hd'.1 hd'.2.2.1 hd'.2.2.2.1 hd'.2.2.2.2 q)
  have hT2:g.get? s.heap.objs.size = some { cls:=.type "tuple",data:=.seq #[u1,u2] }:=hs'.extBut _ _ (Nat.ne_of_gt zlt) a5
  refine ⟨.ref s.heap.objs.size,upd H s.heap.objs.size (.tup [x,y]),I.turnedNew (ch:=[z,TI,TO,i1,i2]) (t':=s.toks) (Nat.le_refl _) kk hf ?_,rfl,
   ⟨_,x,y,I.fresh,rfl,rfl,fun zs hq=>by rw [I.sqB_inj hq hq1]; exact hx,fun zs hq=>by rw [I.sqB_inj hq hq2]; exact hy⟩,
   ⟨hz',hs'.extBut _ _ D.TIz (a7 _ _ D.TIz D.TITO D.TIi1 D.TIi2 hTI),⟨_,_,hs'.extBut _ _ D.TOz a2⟩,a3.at' fun o e=>hs'.extBut _ _ D.i1z e,a4.at' fun o e=>hs'.extBut _ _ D.i2z e⟩,fun d hd=>?_⟩
  ·exact ⟨by show 2 ≤ sizeLine; decide,[u1,u2],.cons ru1 (.cons ru2 .nil),⟨_,hT2,rfl,_,rfl⟩⟩
  ·have dlt:d < s.heap.objs.size:=by
    have q:d = z ∨ d = TI ∨ d = TO ∨ d = i1 ∨ d = i2:=by simpa using hd
    rcases q with rfl | rfl | rfl | rfl | rfl
    ·exact zlt
    ·exact Heap.lt_size hTI
    ·exact Heap.lt_size hTO
    ·obtain ⟨o,e,_⟩:=h1.obj; exact Heap.lt_size e
    ·obtain ⟨o,e,_⟩:=h2.obj; exact Heap.lt_size e
   rw [jaa (Nat.ne_of_lt dlt)]
   exact (hf d hd).1
 done:=by
  intro X hP hw hK hc i pins s σ H E I hf st hg
  subst hP hw hK
  obtain ⟨hz,hTI,⟨u0,v0,hTO⟩,h1,h2⟩:=st
  obtain ⟨xs,ys,hq1,hq2,hlen⟩:=hg
  obtain ⟨its1,rv1,p1,hz1⟩:=I.sqB hq1
  obtain ⟨its2,rv2,p2,hz2⟩:=I.sqB hq2
  have e1:=rv1.length
  have e2:=rv2.length
  have D:ZipApart z TI TO i1 i2 a c:=⟨D0.TIz,D0.TOz,D0.i1z,D0.i2z,D0.TITO,D0.TIi1,D0.TIi2,D0.TOi1,D0.TOi2,D0.i12,
   jdm I hq1 (hf z (by simp)),jdm I hq1 (hf TO (by simp)),jdm I hq1 (hf i1 (by simp)),jdm I hq1 (hf i2 (by simp)),jdm I hq2 (hf z (by simp)),jdm I hq2 (hf TO (by simp)),jdm I hq2 (hf i1 (by simp)),jdm I hq2 (hf i2 (by simp))⟩
  have hT:s.TypeIs (.ref z) "zip":=⟨_,hz,rfl⟩
  unfold pyNext
  refine wpAny_bind (wpAny_attempt (wpAny_callSpecial?_slot (name:=Str.ofString "__next__") hT F.slot_zip_next (wpAny_call_entry F.slot_zip_next hT F.entry_zip_next
   (jjd (b:=b) (I.ok.hd hc) D hz hTI hTO h1 h2 p1 p2 (by rcases hlen with h | h; exact .inl (by simp; omega); exact .inr (by simp; omega)) fun h' e hk he=>?_) (F.args_zip_next_1 _))))
  obtain ⟨o,ho,hcl⟩:=he
  refine wpAny_bind (wpAny_isInstance (T:="StopIteration") (b:=true) ⟨o,ho,hcl⟩ isSubtype_stop ?_)
  exact wpAny_pure ⟨rfl,I.turnedAll (ch:=[z,TI,TO,i1,i2]) (t':=s.toks) (fun d ob hd q=>by
   have hd':d ≠ z∧d ≠ TI∧d ≠ TO∧d ≠ i1∧d ≠ i2:=by simpa using hd
   exact hk d ob hd'.1 hd'.2.2.1 hd'.2.2.2.1 hd'.2.2.2.2 q) hf⟩
 self:=fun _ _ _ _ _ st h=>wpAny_pyIter_zip st.1 h
theorem jjc {X:Cx} {b:Bool} {elts:List Expr} {x1:Nat} {tpos:Pos} {pins:List (Addr × Obj)} {σ:St} {H1:Hp} {s1:Shared} {R:It→Hp→Prop} {a c:Addr} {xs ys:List V} (I1:Inv X pins σ H1 s1) (hq1:SqB b X.K H1 a xs) (hq2:SqB b X.K H1 c ys) (q:R (Itz b X.K a c) H1) :
  wpAny (model X.prog X.w) X.A (call (.type "zip") [.ref a,.ref c]) (fun v s2=>wpAny (model X.prog X.w) X.A (pyIter v) (PIE X pins σ (.Tuple elts x1 tpos) R) X.xe s2) X.xe s1:=by
 obtain ⟨its1,rv1,p1,hz1⟩:=I1.sqB hq1
 obtain ⟨its2,rv2,p2,hz2⟩:=I1.sqB hq2
 refine jrb p1 p2 fun h' a1 a2 a3 a4 a5 hk=>?_
 refine wpAny_pyIter_zip a1 ?_
 have I2:Inv X pins σ H1 { s1 with heap:=h' }:=I1.kept (t':=s1.toks) fun b o q=>hk b o q
 have ne:∀ i j:Nat,i ≠ j→s1.heap.objs.size + i ≠ s1.heap.objs.size + j:=fun i j h e=>h (Nat.add_left_cancel e)
 refine ⟨_,[s1.heap.objs.size + 4,s1.heap.objs.size + 2,s1.heap.objs.size + 3,s1.heap.objs.size,s1.heap.objs.size + 1],_,_,H1,rfl,I2,jom b a c _ _ _ _ _ ⟨ne 2 4 (by decide),ne 3 4 (by decide),ne 0 4 (by decide),ne 1 4 (by decide),ne 2 3 (by decide),ne 2 0 (by decide),ne 2 1 (by decide),ne 3 0 (by decide),ne 3 1 (by decide),ne 0 1 (by decide)⟩,
  ⟨a1,a2,⟨_,_,a3⟩,a4,a5⟩,fun d hd=>?_,q⟩
 have hd':d = s1.heap.objs.size + 4 ∨ d = s1.heap.objs.size + 2 ∨ d = s1.heap.objs.size + 3 ∨ d = s1.heap.objs.size ∨ d = s1.heap.objs.size + 1:=by simpa using hd
 have hle:s1.heap.objs.size ≤ d:=by
  rcases hd' with e | e | e | e | e <;> rw [e]
  ·exact Nat.le_add_right _ _
  ·exact Nat.le_add_right _ _
  ·exact Nat.le_add_right _ _
  ·exact Nat.le_refl _
  ·exact Nat.le_add_right _ _
 exact I1.fpOk hle (I1.hok.fresh hle)
def iZipE (K:PySem.W.Frag) (ta:TA):TI:=fun σ H R=>ta σ H fun vs H1=>∃ (b:Bool) (a c:Addr),vs = [.ref a,.ref c]∧(∃ xs,SqB b K H1 a xs)∧(∃ ys,SqB b K H1 c ys)∧R (Itz b K a c) H1
theorem jqr {X:Cx} {elts:List Expr} {x1:Nat} {tpos:Pos} {a c:Expr} {ta:TA} {p pos:Pos} (hg:Gl X "zip") (hm:X.mg "zip" = none) (ha:PA X [a,c] ta) (hs:starEach [a,c] X.env = [(false,eval a X.env),(false,eval c X.env)]:=by rfl) (hs2:starEach [c] X.env = [(false,eval c X.env)]:=by rfl) :
  PI X (.Tuple elts x1 tpos) (.Call (.Name "zip" p) [a,c] [] pos) (iZipE X.K ta):=by
 intro pins s σ H R I h
 refine Call_ (je5 I hg hm boot_zip (PyProof.Rows.callWith_type1 (thn (ha pos pins s σ H _ I h) fun us s1 ⟨vs,H1,I1,r1,q1⟩=>?_) (by rw [hs,hs2]) (by rw [hs2]; rfl)))
 obtain ⟨b,a,c,e,⟨xs,hq1⟩,⟨ys,hq2⟩,q⟩:=q1
 subst e
 cases r1 with
 | cons r rr =>
  cases rr with
  | cons r' rr =>
   cases rr
   cases r
   cases r'
   exact jjc I1 hq1 hq2 q
end L2
namespace L2
open PySem PySem.Spec PyProof.Rows
theorem jiq:typeLookup (.type "list") "keys" = pure none:=by rw [typeLookup_type,builtinLookup_eq_fast]; kernel_rfl
theorem jfx:typeLookup (.type "list") "__getattr__" = pure none:=by rw [typeLookup_type,builtinLookup_eq_fast]; kernel_rfl
theorem jh0:isSubtype (.type "AttributeError") (.type "AttributeError") = pure true:=by rw [isSubtype_type]; kernel_rfl
section
variable {prog:Program} {w:World} {A:Around} {E:Value→Shared→Prop} {h:Heap} {g:Array GenState} {d:Drawn} {t:Nat} {os:OsState} {a:Addr} {o:Obj}
theorem jld {α:Type} {Q:α→Shared→Prop} {u:Value} {x msg:Str} (hh:A.handled = none) (hm:msg.length ≤ sizeLine)
  (hE:∀ h' e tk,(∀ b o,h.get? b = some o→h'.get? b = some o)→(∃ o,h'.get? e = some o∧o.cls = .type "AttributeError")→E (.ref e) ⟨h',g,d,tk,os⟩) :
  wpAny (model prog w) A (raiseAttrError u x msg:Sem α) Q E ⟨h,g,d,t,os⟩:=by
 unfold raiseAttrError
 refine wpAny_bind (wpAny_mkStr ?_ hm)
 simp only [newExc,newTuple]
 refine wpAny_bind (wpAny_bind (wpAny_newObj_type ?_ (by size_fits)))
 refine wpAny_bind (m:=firstArgMember _ _) (wpAny_of_eq (a:=Value.none) (by first | rfl | (simp only [firstArgMember]; rfl)) ?_)
 refine wpAny_newObj_type ?_ (by size_fits)
 refine wpAny_bind (wpAny_mkText ?_)
 dsimp only
 refine wpAny_bind ?_
 unfold noteAttr
 generalize hh1:h.push { cls:=.type "tuple",data:=.seq #[.str msg t] } = h1
 have k1:∀ b o,h.get? b = some o→h1.get? b = some o:=fun b o q=>by rw [← hh1]; exact Heap.get?_push_of_some _ q
 have hg:(h1.push { cls:=.type "AttributeError",data:=.fields #[.ref h.objs.size,.none,.none,.none,.bool false,.none,unsetMember,unsetMember] }).get? h1.objs.size = some _:=Heap.get?_push_size _ rfl
 have k2:∀ b o,h.get? b = some o→(h1.push { cls:=.type "AttributeError",data:=.fields #[.ref h.objs.size,.none,.none,.none,.bool false,.none,unsetMember,unsetMember] }).get? b = some o:=fun b o q=>Heap.get?_push_of_some _ (k1 b o q)
 have nb:∀ b o,h.get? b = some o→b ≠ h1.objs.size:=fun b o q=>Nat.ne_of_lt (Heap.lt_size (k1 b o q))
 show wpAny _ _ (lacksNameAndObj (.ref h1.objs.size) >>= _) _ _ ⟨h1.push { cls:=.type "AttributeError",data:=.fields #[.ref h.objs.size,.none,.none,.none,.bool false,.none,unsetMember,unsetMember] },g,d,t + 1 + 1,os⟩
 generalize hh2:h1.push { cls:=.type "AttributeError",data:=.fields #[.ref h.objs.size,.none,.none,.none,.bool false,.none,unsetMember,unsetMember] } = h2 at hg k2
 generalize h1.objs.size = e at hg nb
 clear hh2 k1 hh1
 have hT:(⟨h2,g,d,t + 1 + 1,os⟩:Shared).TypeIs (.ref e) "AttributeError":=⟨_,hg,rfl⟩
 refine wpAny_bind ?_
 unfold lacksNameAndObj
 refine wpAny_bind (wpAny_isInstance hT jh0 ?_)
 simp only [Bool.not_true,Bool.false_eq_true,if_false]
 refine wpAny_bind (wpAny_load hg ?_)
 show wpAny _ _ (pure true) _ _ _
 refine wpAny_pure ?_
 simp only [if_true]
 refine wpAny_bind (wpAny_rule (wpAny_bind (wpAny_typeOf hT ?_)))
 show wpAny _ _ (layMembers e 6 #[_,u]) _ _ _
 unfold layMembers
 refine wpAny_bind (wpAny_load hg ?_)
 show wpAny _ _ (update e _) _ _ _
 refine wpAny_update hg ?_
 refine wpAny_raiseNew_none hh (hE _ _ _ (fun b o q=>?_) ⟨_,Heap.get?_update_self _ hg rfl,rfl⟩)
 exact (Heap.get?_update_other _ _ (nb b o q).symm).trans (k2 b o q)
theorem jio {tk:Tok} {Q:PySem.Fin→Shared→Prop} {its:Array Value} {n:Nat} (hx:h.get? a = some { cls:=.type "list",dict:=none,data:=.seq its n,slots:=#[] }) (hh:A.handled = none)
  (hE:∀ h' e tk,(∀ b o,h.get? b = some o→h'.get? b = some o)→(∃ o,h'.get? e = some o∧o.cls = .type "AttributeError")→E (.ref e) ⟨h',g,d,tk,os⟩) :
  wpAny (model prog w) A (Builtin.«object.__getattribute__» ⟨[.ref a,.str "keys" tk],[]⟩) Q E ⟨h,g,d,t,os⟩:=by
 have hT:(⟨h,g,d,t,os⟩:Shared).TypeIs (.ref a) "list":=⟨_,hx,rfl⟩
 have f4:=jiq
 repeat (any_goals (first | assumption | wp_step))
 refine jld hh (by decide +kernel) hE
theorem jn6 {tk:Tok} {Q:Value→Shared→Prop} {its:Array Value} {n:Nat} (hx:h.get? a = some { cls:=.type "list",dict:=none,data:=.seq its n,slots:=#[] }) (hh:A.handled = none)
  (hE:∀ h' e tk,(∀ b o,h.get? b = some o→h'.get? b = some o)→(∃ o,h'.get? e = some o∧o.cls = .type "AttributeError")→E (.ref e) ⟨h',g,d,tk,os⟩) :
  wpAny (model prog w) A (getAttrBy (.ref a) (.str "keys" tk) false) Q E ⟨h,g,d,t,os⟩:=by
 have hT:(⟨h,g,d,t,os⟩:Shared).TypeIs (.ref a) "list":=⟨_,hx,rfl⟩
 have f2:=F.slot_list_getattribute.lookup
 have f3:=F.slot_list_getattribute.bind (.ref a)
 repeat (any_goals (first | assumption | wp_step))
 refine codeAny_call_builtin F.slot_list_getattribute.plain F.entry_list_ga (F.slot_list_getattribute.check _ _ _ _ _ _ _ _ (show (⟨h,g,d,t,os⟩:Shared).TypeIs (.ref a) "list" from ⟨_,hx,rfl⟩) (F.args_list_getattribute_2 _ _) (jio hx ?_ ?_))
 ·exact hh
 ·intro h' e tk k q
  obtain ⟨oe,he,hc⟩:=q
  have hT2:(⟨h',g,d,tk,os⟩:Shared).TypeIs (.ref e) "AttributeError":=⟨_,he,hc⟩
  have f5:=jh0
  have f6:=jfx
  show wpAny _ A (getattributeRaised (Value.ref a) _ (Value.type "list") (.ref e) none false false) _ _ _
  have done:=hE h' e tk k ⟨oe,he,hc⟩
  unfold getattributeRaised
  repeat (any_goals (first | assumption | wp_step))
theorem jq7 {Q:Option Value→Shared→Prop} {its:Array Value} {n:Nat} (hx:h.get? a = some { cls:=.type "list",dict:=none,data:=.seq its n,slots:=#[] }) (hh:A.handled = none)
  (hq:∀ h' tk,(∀ b o,h.get? b = some o→h'.get? b = some o)→Q none ⟨h',g,d,tk,os⟩):wpAny (model prog w) A (getAttr? (.ref a) "keys") Q E ⟨h,g,d,t,os⟩:=by
 unfold getAttr? getAttrBy?
 refine wpAny_bind (wpAny_mkText (wpAny_bind (wpAny_attempt (jn6 hx hh fun h' e tk k q=>?_))))
 obtain ⟨oe,he,hc⟩:=q
 refine wpAny_bind (wpAny_isInstance (T:="AttributeError") (b:=true) ⟨_,he,hc⟩ jh0 ?_)
 exact wpAny_pure (hq h' tk k)
end
end L2
namespace L2
open PySem PySem.Spec PyProof.Rows
theorem jb0:entryFor table "dict.update.loop" = some Builtin.«dict.update.loop»:=entryFor_of_fast (by kernel_rfl)
theorem jai:plainId "dict.update.loop" = true:=by decide +kernel
theorem jlc {K:Type} [DecidableEq K] (kvs:List (K × Value)) (k:K) (v:Value):(stored kvs k v).length ≤ kvs.length + 1:=by
 unfold stored
 split
 ·rw [List.length_map]; omega
 ·rw [List.length_append]; exact Nat.le_refl _
section
variable {prog:Program} {w:World} {A:Around} {E:Value→Shared→Prop} {K:Type} [DecidableEq K] {knd:KeyKind prog w K} {R:Result→Shared→Prop}
theorem jns {d it l:Addr} {its:Array Value} {more:List (K × Value)} (hh:A.handled = none) (hlen:more.length = its.size) (hsz:its.size ≤ 1000) (hdl:l ≠ d) (hdi:it ≠ d) (hil:l ≠ it) :
  ∀ (k i:Nat) (tk0:Tok) (s:Shared) (kvs:List (K × Value)),its.size - i = k→i ≤ its.size→kvs.length ≤ i→s.heap.IsListIter it l i→s.heap.IsList l its→s.heap.DictOf knd d kvs →
   (∀ (j:Nat) (q:K × Value),more[j]? = some q→∃ t kv,its[j]? = some (.ref t)∧s.heap.IsTuple t #[kv,q.2]∧knd.is q.1 kv = true) →
   (∀ h' tk,h'.DictOf knd d (merged kvs (more.drop i))→(∀ b o,b ≠ d→b ≠ it→s.heap.get? b = some o→h'.get? b = some o)→R (.ok (.ret .none)) { s with heap:=h',toks:=tk }) →
   codeAny (model prog w) A (.builtin "dict.update.loop" ⟨[.ref d,.ref it,.int i tk0,.none],[]⟩) R s:=by
 intro k
 induction k with
 | zero =>
  intro i tk0 s kvs hk hi hkl hit hl hd hp hR
  have e:i = its.size:=by omega
  subst e
  refine codeAny_builtin jb0 ?_
  rw [Around.under_plainId jai _]
  show wpAny _ A.in1 (pyNext (.ref it) >>= _) _ _ s
  refine wpAny_bind (wpAny_pyNext_list_end hh hit hl (by simp) fun h' eb=>?_)
  show wpAny _ A.in1 (Builtin.Dict.addKeywords d [] >>= _) _ _ _
  refine wpAny_bind (wpAny_pure (wpAny_pure ?_))
  refine hR h' s.toks ?_ fun b o _ hb q=>eb b o hb q
  rw [List.drop_eq_nil_of_le (by omega)]
  exact hd.extBut eb hdi.symm
 | succ k ih =>
  intro i tk0 s kvs hk hi hkl hit hl hd hp hR
  have hlt:i < its.size:=by omega
  have hlm:i < more.length:=by omega
  obtain ⟨t,kv,hu,ht,hkey⟩:=hp i more[i] (by simp [hlm])
  refine codeAny_builtin jb0 ?_
  rw [Around.under_plainId jai _]
  show wpAny _ A.in1 (pyNext (.ref it) >>= _) _ _ s
  refine wpAny_bind (wpAny_pyNext_list_item hit hl hu fun h1 hit1 sb1=>?_)
  have nti:t ≠ it:=fun z=>by
   subst z
   obtain ⟨o,e1,c1,_⟩:=ht
   obtain ⟨o',e2,c2,_⟩:=hit
   rw [e1] at e2; cases e2; rw [c1] at c2; exact absurd c2 (by decide)
  have ntd:t ≠ d:=fun z=>by
   subst z
   obtain ⟨o,e1,c1,_⟩:=ht
   obtain ⟨o',_,_,e2,c2,_⟩:=hd
   rw [e1] at e2; cases e2; rw [c2.1] at c1; exact absurd c1 (by decide)
  have ht1:h1.IsTuple t #[kv,more[i].2]:=ht.extBut sb1.extBut nti
  have hd1:h1.DictOf knd d kvs:=hd.extBut sb1.extBut hdi.symm
  show wpAny _ A.in1 (holding [.ref t] _ >>= _) _ _ _
  refine wpAny_bind (wpAny_holding ?_)
  refine wpAny_bind (m:=(Builtin.Dict.pairItems (.ref t)).tryCatch _) ?_
  refine wpAny_tryCatch ?_
  unfold Builtin.Dict.pairItems
  refine wpAny_bind (wpAny_typeOf ht1.typeIs ?_)
  obtain ⟨ot,e1,c1,n1,d1⟩:=id ht1
  rw [if_pos (by decide)]
  refine wpAny_bind (wpAny_seqItems e1 d1 ?_)
  refine wpAny_pure ?_
  show wpAny _ A.in1 (holding [kv,more[i].2] (dictSet d kv more[i].2)) _ _ _
  refine wpAny_holding (wpAny_dictSet_pairs hkey hd1 (fun h2 hd2 sb2=>?_) (by have:=(by decide:1000 ≤ sizeLine); omega))
  replace sb2:Heap.SameBut d h1 h2:=sb2
  have kk:∀ b o,b ≠ d→b ≠ it→s.heap.get? b = some o→h2.get? b = some o:=fun b o b1 b2 q=>sb2.extBut b o b1 (sb1.extBut b o b2 q)
  refine wpAny_pure ⟨plainId_quiet jai _,?_⟩
  have hik:((i:Int) + 1) = ((i + 1:Nat):Int):=by omega
  show codeAny _ _ (.builtin "dict.update.loop" ⟨[.ref d,.ref it,rawInt ((i:Int) + 1),.none],[]⟩) _ _
  rw [hik]
  refine ih (i + 1) 0 _ (stored kvs more[i].1 more[i].2) (by omega) (by omega) ?_ (hit1.extBut sb2.extBut hdi) ((hl.extBut sb1.extBut hil).extBut sb2.extBut hdl) hd2 ?_ ?_
  ·have:=jlc kvs more[i].1 more[i].2
   omega
  ·intro j q hq
   obtain ⟨t',kv',a1,a2,a3⟩:=hp j q hq
   have n1:t' ≠ it:=fun z=>by
    subst z
    obtain ⟨o,e1,c1,_⟩:=a2
    obtain ⟨o',e2,c2,_⟩:=hit
    rw [e1] at e2; cases e2; rw [c1] at c2; exact absurd c2 (by decide)
   have n2:t' ≠ d:=fun z=>by
    subst z
    obtain ⟨o,e1,c1,_⟩:=a2
    obtain ⟨o',_,_,e2,c2,_⟩:=hd
    rw [e1] at e2; cases e2; rw [c2.1] at c1; exact absurd c1 (by decide)
   exact ⟨t',kv',a1,(a2.extBut sb1.extBut n1).extBut sb2.extBut n2,a3⟩
  ·intro h' tk hd' k'
   refine hR h' tk ?_ fun b o b1 b2 q=>k' b o b1 b2 (kk b o b1 b2 q)
   rw [List.drop_eq_getElem_cons hlm]
   exact hd'
theorem jge {l:Addr} {its:Array Value} {c:Nat} {more:List (K × Value)} {s:Shared} {Q:Value→Shared→Prop} (hh:A.handled = none) (hl:s.heap.get? l = some { cls:=.type "list",dict:=none,data:=.seq its c,slots:=#[] }) (hlen:more.length = its.size) (hsz:its.size ≤ 1000)
  (hp:∀ (j:Nat) (q:K × Value),more[j]? = some q→∃ t kv,its[j]? = some (.ref t)∧s.heap.IsTuple t #[kv,q.2]∧knd.is q.1 kv = true)
  (h:∀ h' tk,h'.DictOf knd s.heap.objs.size (merged [] more)→(∀ b o,s.heap.get? b = some o→h'.get? b = some o)→Q (.ref s.heap.objs.size) { s with heap:=h',toks:=tk }) :
  wpAny (model prog w) A (call (.type "dict") [.ref l]) Q E s:=by
 refine callType_codes (Q₁:=fun obj s₁=>obj = .ref s.heap.objs.size∧s₁ = { s with heap:=s.heap.push { cls:=.type "dict",data:=.dict #[] } }) F.kt_called_dict (F.kt_typeCall_dict_1 _) F.entry_dict_init (kt_code_dict_new _ ⟨rfl,rfl⟩) ?_
 rintro obj s₁ ⟨rfl,rfl⟩
 have hnew:(s.heap.push { cls:=.type "dict",data:=.dict #[] }).DictOf knd s.heap.objs.size []:=Heap.DictOf.new s.heap
 have hl1:(s.heap.push { cls:=.type "dict",data:=.dict #[] }).get? l = some { cls:=.type "list",dict:=none,data:=.seq its c,slots:=#[] }:=Heap.get?_push_of_some _ hl
 have k1:∀ b o,s.heap.get? b = some o→(s.heap.push { cls:=.type "dict",data:=.dict #[] }).get? b = some o:=fun b o q=>Heap.get?_push_of_some _ q
 have llt:l < s.heap.objs.size:=Heap.lt_size hl
 generalize s.heap.push { cls:=.type "dict",data:=.dict #[] } = h1 at hnew hl1 k1
 refine ⟨hnew.typeIs,F.args_dict_init_2 _ _,?_⟩
 unfold Builtin.«dict.__init__»
 refine wpAny_bind ?_
 unfold Builtin.Dict.selfAndRest
 refine wpAny_bind (wpAny_notOrdered_dict hnew.typeIs ?_)
 show wpAny _ _ (pure (s.heap.objs.size,[Value.ref l])) _ _ _
 refine wpAny_pure ?_
 show wpAny _ _ (Builtin.Dict.updateFrom "dict.__init__" s.heap.objs.size (.ref l) [] .none) _ _ _
 unfold Builtin.Dict.updateFrom
 refine wpAny_bind (wpAny_typeOf (T:="list") ⟨_,hl1,rfl⟩ ?_)
 rw [if_pos (by decide)]
 refine wpAny_bind (jq7 hl1 hh fun h2 tk2 k2=>?_)
 have hl2:=k2 _ _ hl1
 have hd2:h2.DictOf knd s.heap.objs.size []:=let ⟨o,es,ep,ho,r⟩:=hnew; ⟨o,es,ep,k2 _ _ ho,r⟩
 have dlt:s.heap.objs.size < h2.objs.size:=by obtain ⟨_,_,_,ho,_⟩:=hd2; exact Heap.lt_size ho
 simp only [Option.isNone_none,if_true]
 refine wpAny_bind (wpAny_rule ?_)
 have hL:Heap.IsList h2 l its:=⟨_,hl2,rfl,_,rfl⟩
 refine wpAny_bind (wpAny_pyIter_list (s:={ s with heap:=h2,toks:=tk2 }) hL ?_)
 refine wpAny_pure ⟨plainId_quiet jai _,?_⟩
 have hit:(h2.push { cls:=.type "list_iterator",data:=.fields #[.ref l,.int 0 0] }).IsListIter h2.objs.size l 0:=⟨_,Heap.get?_push_size _ rfl,rfl,rfl⟩
 refine jns (A:=A.in1) (knd:=knd) (more:=more) hh hlen hsz (Nat.ne_of_lt llt) (Nat.ne_of_gt dlt) (Nat.ne_of_lt (Nat.lt_trans llt dlt)) its.size 0 0 { s with heap:=h2.push { cls:=.type "list_iterator",data:=.fields #[.ref l,.int 0 0] },toks:=tk2 } [] rfl (Nat.zero_le _) (Nat.le_refl _) hit (hL.push _) (hd2.push _) ?_ ?_
 ·intro j q hq
  obtain ⟨t,kv,a1,a2,a3⟩:=hp j q hq
  obtain ⟨o,e,r⟩:=a2
  exact ⟨t,kv,a1,⟨o,Heap.get?_push_of_some _ (k2 _ _ (k1 _ _ e)),r⟩,a3⟩
 ·intro h' tk hd' k'
  rw [List.drop_zero] at hd'
  refine ⟨rfl,h h' tk hd' fun b o q=>k' b o (Nat.ne_of_lt (Heap.lt_size q)) (Nat.ne_of_lt (Heap.lt_size (k2 _ _ (k1 _ _ q)))) (Heap.get?_push_of_some _ (k2 _ _ (k1 _ _ q)))⟩
end
def PairAt (H:Hp) (v:V) (p:Key × V):Prop:=∃ t,v = .ref t∧H t = some (.tup [kV p.1,p.2])
def rDictL (K:PySem.W.Frag):List V→Hp→VK→Prop:=fun vs H Q=>∃ l xs kvs,vs = [.ref l]∧H l = some (.lst xs)∧Paired (PairAt H) xs kvs∧xs.length ≤ 1000∧(kvs.map (·.1)).Nodup∧∀ d,H d = none→Q (.ref d) (upd H d (.dK kvs))
theorem jgn {X:Cx} {pins:List (Addr × Obj)} {σ:St} {H:Hp} {s:Shared} (I:Inv X pins σ H s):∀ {xs:List V} {kvs:List (Key × V)} {its:List Value},Paired (PairAt H) xs kvs→Vals xs its →
  ∃ more:List (Key × Value),KV kvs more∧∀ (j:Nat) (q:Key × Value),more[j]? = some q→∃ t kv,its[j]? = some (.ref t)∧s.heap.IsTuple t #[kv,q.2]∧(jba X.prog X.w).is q.1 kv = true
 | _,_,_,.nil,.nil=>⟨[],.nil,fun j q h=>by simp at h⟩
 | _,_,_,.cons hp tp,.cons rv tr=>by
  obtain ⟨more,hk,hm⟩:=jgn I tp tr
  obtain ⟨t,rfl,ht⟩:=hp
  cases rv
  obtain ⟨_,its',rt,hi⟩:=I.hok t _ ht
  obtain ⟨u1,u2,rfl,r1,r2⟩:=rt.two
  refine ⟨(_,u2) :: more,.cons ⟨rfl,r2⟩ hk,fun j q h=>?_⟩
  cases j with
  | zero =>
   simp at h
   subst h
   exact ⟨t,u1,rfl,hi,jjx r1⟩
  | succ j =>
   obtain ⟨t',kv,a1,a2,a3⟩:=hm j q (by simpa using h)
   exact ⟨t',kv,by simpa using a1,a2,a3⟩
theorem jlq {X:Cx} (hc:X.calm = true):jch X (.type "dict") (rDictL X.K):=by
 intro pins s σ H vs us Q I rv h
 obtain ⟨l,xs,kvs,rfl,hl,hp,hz,hn,q⟩:=h
 obtain ⟨u,rfl,ru⟩:=rv.one
 cases ru
 obtain ⟨z,its,n,r,hlen,e⟩:=I.lstM hl
 obtain ⟨more,hkv,hm⟩:=jgn I hp r
 have hlm:kvs.length = more.length:=Paired.length hkv
 have hlx:xs.length = kvs.length:=Paired.length hp
 refine jge (knd:=jba X.prog X.w) (more:=more) (I.ok.hd hc) e (by rw [List.size_toArray]; omega) (by rw [List.size_toArray]; omega) (fun j q hj=>?_) fun h' tk dd k=>?_
 ·obtain ⟨t,kv,a1,a2,a3⟩:=hm j q hj
  exact ⟨t,kv,by simpa using a1,a2,a3⟩
 ·refine ⟨.ref s.heap.objs.size,upd H s.heap.objs.size (.dK kvs),I.laid k (Nat.le_refl _) ?_,rfl,q _ I.fresh⟩
  rw [merged_nil_of_nodup more (by rw [← hkv.keys]; exact hn)] at dd
  exact jqg (by have:=(by decide:1000 ≤ sizeLine); omega) (by have:=I.big; exact beq_false_of_ne (Nat.ne_of_gt this)) hkv dd
end L2
namespace L2
open PySem PySem.Spec PyProof.Rows
def jpx (f:List Bool→Bool):List V→Hp→VK→Prop:=fun vs H Q=>∃ l bs,vs = [.ref l]∧H l = some (.lst (bs.map V.bl))∧Q (.bl (f bs)) H
theorem joe {bs:List Bool} {tr:Nat→Bool} (h:∀ i b,bs[i]? = some b→tr i = b):(List.range bs.length).all tr = bs.all id:=by
 rw [Bool.eq_iff_iff,List.all_eq_true,List.all_eq_true]
 constructor
 ·intro q b hb
  obtain ⟨i,hi,e⟩:=List.mem_iff_getElem.mp hb
  have:=q i (List.mem_range.mpr hi)
  rw [h i b (by rw [List.getElem?_eq_getElem hi,e])] at this
  exact this
 ·intro q i hi
  have hi':=List.mem_range.mp hi
  rw [h i bs[i] (List.getElem?_eq_getElem hi')]
  exact q _ (List.getElem_mem hi')
theorem jlw:∀ {bs:List Bool} {us:List Value},Vals (bs.map V.bl) us→us = bs.map Value.bool
 | [],_,.nil=>rfl
 | b :: r,_,.cons q t=>by
  cases (show _ = Value.bool b from q)
  rw [jlw t]
  rfl
theorem jpm {X:Cx} (hc:X.calm = true):jch X (.builtin "all") (jpx fun bs=>bs.all id):=by
 intro pins s σ H vs us Q I rv h
 obtain ⟨l,bs,rfl,hl,q⟩:=h
 obtain ⟨u,rfl,ru⟩:=rv.one
 cases ru
 obtain ⟨z,its,n,r,hlen,e⟩:=I.lstM hl
 have e2:=jlw r
 subst e2
 have llt:l < s.heap.objs.size:=Heap.lt_size e
 have hL:s.heap.IsList l (bs.map Value.bool).toArray:=⟨_,e,rfl,_,rfl⟩
 refine call_all_walk (wpAny_pyIter_list hL ⟨s.heap.objs.size,[s.heap.objs.size,l],[s.heap.objs.size],_,_,_,fun i=>bs[i]?.getD true,rfl,Walks.list (A:=X.A.in1) (show X.A.in1.handled = none from I.ok.hd hc) s.heap.objs.size l (Nat.ne_of_lt llt) (bs.map Value.bool).toArray,
  (show Heap.IsListIter _ _ _ _∧Heap.IsList _ _ _ from ⟨⟨_,Heap.get?_push_size _ rfl,rfl,rfl⟩,hL.push _⟩),fun i v s' Q' E' hv hq=>?_,fun h' tk k=>?_⟩)
 ·have hv':(bs.map Value.bool)[i]? = some v:=by simpa using hv
  rw [List.getElem?_map] at hv'
  cases eb:bs[i]? with
  | none=>rw [eb] at hv'; cases hv'
  | some b =>
   rw [eb] at hv'
   cases hv'
   have hq':Q' b s':=by dsimp only at hq; rw [eb] at hq; exact hq
   exact wpAny_pure hq'
 ·have ez:((bs.map Value.bool).toArray).size = bs.length:=by simp
  rw [ez,joe (bs:=bs) (tr:=fun i=>bs[i]?.getD true) (fun i b hb=>by rw [hb]; rfl)]
  refine ⟨.bl _,H,I.kept fun b o qq=>k b o ?_ (Heap.get?_push_of_some _ qq),rfl,q⟩
  intro hb
  have:b = s.heap.objs.size:=by simpa using hb
  subst this
  exact absurd (Heap.lt_size qq) (Nat.lt_irrefl _)
inductive Knd (H:Hp):V→String→Prop where
 | non:Knd H .non "NoneType"
 | bl {x:Bool}:Knd H (.bl x) "bool"
 | int {i:Int}:Knd H (.int i) "int"
 | str {x:Str}:Knd H (.str x) "str"
 | lst {a:Addr} {xs:List V} (e:H a = some (.lst xs)):Knd H (.ref a) "list"
 | tup {a:Addr} {xs:List V} (e:H a = some (.tup xs)):Knd H (.ref a) "tuple"
 | dK {a:Addr} {kvs:List (Key × V)} (e:H a = some (.dK kvs)):Knd H (.ref a) "dict"
theorem Knd.ty {K:PySem.W.Frag} {H:Hp} {v:V} {n:String} (h:Knd H v n):TyOf K H v (.type n):=by
 cases h with
 | non=>exact .non
 | bl=>exact .bl _
 | int=>exact .int _
 | str=>exact .str _
 | lst e=>exact .lst e
 | tup e=>exact .tup e
 | dK e=>exact .dK e
def isiK (a b:String):Bool:=a == b || (a == "bool" && b == "int")
def jhi:List String:=["NoneType","bool","int","str","list","tuple","dict"]
theorem jqy {K:PySem.W.Frag}:∀ a ∈ jhi,∀ b ∈ jhi,PySem.W.kitOne K (.type a) (.type b) = some (isiK a b):=by
 intro a ha b hb
 have ha':a = "NoneType" ∨ a = "bool" ∨ a = "int" ∨ a = "str" ∨ a = "list" ∨ a = "tuple" ∨ a = "dict":=by simpa [jhi] using ha
 have hb':b = "NoneType" ∨ b = "bool" ∨ b = "int" ∨ b = "str" ∨ b = "list" ∨ b = "tuple" ∨ b = "dict":=by simpa [jhi] using hb
 rcases ha' with rfl | rfl | rfl | rfl | rfl | rfl | rfl <;> rcases hb' with rfl | rfl | rfl | rfl | rfl | rfl | rfl <;> rfl
def rIsi:List V→Hp→VK→Prop:=fun vs H Q=>∃ x n T,vs = [x,.ty T]∧Knd H x n∧T ∈ jhi∧Q (.bl (isiK n T)) H
theorem Knd.mem {H:Hp} {v:V} {n:String} (h:Knd H v n):n ∈ jhi:=by cases h <;> simp [jhi]
theorem jpl {X:Cx}:jch X (.builtin "isinstance") rIsi:=by
 intro pins s σ H vs us Q I rv h
 obtain ⟨x,n,T,rfl,hk,hT,q⟩:=h
 obtain ⟨u1,u2,rfl,r1,r2⟩:=rv.two
 cases (show u2 = Value.type T from r2)
 exact jni I r1 hk.ty (jqy n hk.mem T hT) fun tk=>⟨.bl _,H,I.tok tk,rfl,q⟩
end L2
namespace L2
open PySem PySem.Spec PyProof.Rows
section
variable {X:Cx} {e a b c o i:Expr} {es:List Expr} {t t' ta tb tc td te:TE} {pos p p2:Pos}
theorem PE.imp (h:PE X e t) (hi:∀ σ H Q,t' σ H Q→t σ H Q):PE X e t':=fun pins s σ H Q I q=>h pins s σ H Q I (hi σ H Q q)
theorem PG.imp {t t':TG} (h:PG X e t) (hi:∀ v σ H Q,t' v σ H Q→t v σ H Q):PG X e t':=fun pins s σ H v u Q I r q=>h pins s σ H v u Q I r (hi v σ H Q q)
theorem PGs.imp {t t':TGs} (h:PGs X es t) (hi:∀ v σ H Q,t' v σ H Q→t v σ H Q):PGs X es t':=fun pins s σ H v u Q I r q=>h pins s σ H v u Q I r (hi v σ H Q q)
theorem OpR.imp {f:Value→Value→Sem Value} {r r':R2} (h:OpR X f r) (hi:∀ x y H Q,r' x y H Q→r x y H Q):OpR X f r':=fun pins s σ H x y v u Q I rx ry q=>h pins s σ H x y v u Q I rx ry (hi x y H Q q)
theorem jch.imp {f:Value} {r r':List V→Hp→VK→Prop} (h:jch X f r) (hi:∀ vs H Q,r' vs H Q→r vs H Q):jch X f r':=fun pins s σ H xs us Q I rv q=>h pins s σ H xs us Q I rv (hi xs H Q q)
theorem IxR.imp {r r':R2} (h:IxR X r) (hi:∀ x y H Q,r' x y H Q→r x y H Q):IxR X r':=fun value slice pins s σ H x y v u Q I rx ry q hs=>h value slice pins s σ H x y v u Q I rx ry (hi x y H Q q) hs
theorem MtR.imp {id:String} {r r':V→List V→Hp→VK→Prop} (h:MtR X id r) (hi:∀ x vs H Q,r' x vs H Q→r x vs H Q):MtR X id r':=fun pins s σ H x xs v us Q I rx rv q=>h pins s σ H x xs v us Q I rx rv (hi x xs H Q q)
theorem PSet.imp {t t':TSet} (h:PSet X t) (hi:∀ o i v H Q,t' o i v H Q→t o i v H Q):PSet X t':=fun pins s σ H o i v ov iv u Q I r1 r2 r3 q=>h pins s σ H o i v ov iv u Q I r1 r2 r3 (hi o i v H Q q)
theorem SlR.imp {r r':V→Option Int→Option Int→Hp→VK→Prop} (h:SlR X r) (hi:∀ x l u H Q,r' x l u H Q→r x l u H Q):SlR X r':=fun pins s σ H x v vl vu lo hi' sl Q I rx hs pl pu q=>h pins s σ H x v vl vu lo hi' sl Q I rx hs pl pu (hi x lo hi' H Q q)
def fVar (i:Nat):TE:=fun σ H Q=>match σ[i]? with
 | some (some v)=>Q v H
 | _=>False
theorem qv (i:Nat) {x:Str} {pos:Pos} (hN:X.N[i]? = some x:=by rfl) (hv:Vis X.env.scope x:=by first | exact Or.inl rfl | exact Or.inr (Or.inl rfl) | exact Or.inr (Or.inr rfl)) (hd:(x == ("__debug__":Str)) = false:=by decide)
  (hcd:(x == ("__classdict__":Str)) = false:=by decide):PE X (.Name x pos) (fVar i):=(pe_var hN hv hd hcd).imp fun σ H Q q=>by
 unfold fVar at q
 split at q
 ·rename_i v e; exact ⟨v,e,q⟩
 ·exact q.elim
def fI (g:Int→Int→V):R2:=fun x y H Q=>match x,y with
 | .int i,.int j=>Q (g i j) H
 | _,_=>False
def fIC (C:Int→Int→Prop) (g:Int→Int→V):R2:=fun x y H Q=>match x,y with
 | .int i,.int j=>C i j∧Q (g i j) H
 | _,_=>False
theorem fI.r {g:Int→Int→V} {x y:V} {H:Hp} {Q:VK} (h:fI g x y H Q):rI0 g x y H Q:=by
 unfold fI at h
 split at h
 ·exact ⟨_,_,rfl,rfl,h⟩
 ·exact h.elim
theorem fIC.r {C:Int→Int→Prop} {g:Int→Int→V} {x y:V} {H:Hp} {Q:VK} (h:fIC C g x y H Q):rI C g x y H Q:=by
 unfold fIC at h
 split at h
 ·exact ⟨_,_,rfl,rfl,h.1,h.2⟩
 ·exact h.elim
theorem jbr:OpR X (binaryOp .Add) (fI fun i j=>.int (i + j)):=op_add.imp fun _ _ _ _=>fI.r
theorem jmm:OpR X (binaryOp .Sub) (fI fun i j=>.int (i - j)):=op_sub.imp fun _ _ _ _=>fI.r
theorem jeg:OpR X (binaryOp .Mult) (fIC CMul fun i j=>.int (i * j)):=op_mul.imp fun _ _ _ _=>fIC.r
theorem jig:OpR X (binaryOp .Mod) (fIC (fun _ j=>0 < j) fun i j=>.int (i % j)):=op_mod.imp fun _ _ _ _=>fIC.r
theorem jkj:OpR X (binaryOp .FloorDiv) (fIC CDiv fun i j=>.int (i / j)):=jqu.imp fun _ _ _ _=>fIC.r
theorem jqo:OpR X (binaryOp .Pow) (fIC CPow fun i j=>.int (i ^ j.toNat)):=op_pow.imp fun _ _ _ _=>fIC.r
theorem q_lt:OpR X (compareOp .Lt) (fI fun i j=>.bl (decide (i < j))):=op_lt.imp fun _ _ _ _=>fI.r
theorem q_le:OpR X (compareOp .LtE) (fI fun i j=>.bl (decide (i ≤ j))):=op_le.imp fun _ _ _ _=>fI.r
theorem q_gt:OpR X (compareOp .Gt) (fI fun i j=>.bl (decide (i > j))):=op_gt.imp fun _ _ _ _=>fI.r
theorem q_ge:OpR X (compareOp .GtE) (fI fun i j=>.bl (decide (i ≥ j))):=op_ge.imp fun _ _ _ _=>fI.r
theorem q_iadd:PIp X .Add (fI fun i j=>.int (i + j)):=fun pins s σ H x y v u Q I rx ry q=>jr0 pins s σ H x y v u Q I rx ry q.r
def fNeg:V→Hp→VK→Prop:=fun x H Q=>match x with
 | .int i=>Q (.int (-i)) H
 | _=>False
theorem je0:UnR X (unaryOp .USub) fNeg:=fun pins s σ H x v Q I rx q=>by
 cases x <;> first
  | exact False.elim q
  | exact un_neg pins s σ H _ v Q I rx ⟨_,rfl,q⟩
def fEq:R2:=fun x y H Q=>match x,y with
 | .int i,.int j=>Q (.bl (decide (i = j))) H
 | .bl i,.bl j=>Q (.bl (decide (i = j))) H
 | .str i,.str j=>Q (.bl (decide (i = j))) H
 | _,_=>False
def fNe:R2:=fun x y H Q=>match x,y with
 | .int i,.int j=>Q (.bl (!decide (i = j))) H
 | .bl i,.bl j=>Q (.bl (!decide (i = j))) H
 | .str i,.str j=>Q (.bl (!decide (i = j))) H
 | _,_=>False
theorem dI (i j:Int):decide (V.int i = V.int j) = decide (i = j):=by simp
theorem dB (i j:Bool):decide (V.bl i = V.bl j) = decide (i = j):=by simp
theorem dS (i j:Str):decide (V.str i = V.str j) = decide (i = j):=by simp
theorem q_eq:OpR X (compareOp .Eq) fEq:=op_eq.imp fun x y H Q h=>by
 unfold fEq at h
 split at h
 ·exact ⟨rfl,by rw [dI]; exact h⟩
 ·exact ⟨rfl,by rw [dB]; exact h⟩
 ·exact ⟨rfl,by rw [dS]; exact h⟩
 ·exact h.elim
theorem q_ne:OpR X (compareOp .NotEq) fNe:=op_ne.imp fun x y H Q h=>by
 unfold fNe at h
 split at h
 ·exact ⟨rfl,by rw [dI]; exact h⟩
 ·exact ⟨rfl,by rw [dB]; exact h⟩
 ·exact ⟨rfl,by rw [dS]; exact h⟩
 ·exact h.elim
def jqz:V→Bool
 | .non=>true
 | _=>false
def fIsN (f:Bool→Bool):R2:=fun x y H Q=>match y with
 | .non=>Q (.bl (f (jqz x))) H
 | _=>False
def fAnd (ta tb:TE):TE:=fun σ H Q=>ta σ H fun x H1=>match x with
 | .bl c=>if c = true then tb σ H1 Q else Q (.bl false) H1
 | _=>False
def fOr (ta tb:TE):TE:=fun σ H Q=>ta σ H fun x H1=>match x with
 | .bl c=>if c = true then Q (.bl true) H1 else tb σ H1 Q
 | _=>False
def fNot (ta:TE):TE:=fun σ H Q=>ta σ H fun x H1=>match x with
 | .bl c=>Q (.bl (!c)) H1
 | _=>False
def fB (t:TE):TT:=fun σ H Q=>t σ H fun x H1=>match x with
 | .bl c=>Q c H1
 | _=>False
variable {rest:List Expr}
theorem jdq (ha:PE X a ta) (hb:PE X (.BoolOp .And (b :: rest) pos) tb):PE X (.BoolOp .And (a :: b :: rest) pos) (fAnd ta tb):=by
  intro pins s σ H Q I h
  refine BoolOp_and (thn (ha pins s σ H _ I h) fun v s1 ⟨x,H1,I1,r1,q1⟩=>?_)
  cases x <;> first
    | exact False.elim q1
    | (rename_i c
       cases r1
       refine wpAny_truthy_bool ?_
       cases c with
       | true=>exact hb pins s1 σ H1 Q I1 q1
       | false=>exact ⟨.bl false,H1,I1,rfl,q1⟩)
theorem q_not (ha:PE X a ta):PE X (.UnaryOp .Not a pos) (fNot ta):=by
  intro pins s σ H Q I h
  refine UnaryOp_ (thn (ha pins s σ H _ I h) fun v s1 ⟨x,H1,I1,r1,q1⟩=>?_)
  cases x <;> first
    | exact False.elim q1
    | (rename_i c
       cases r1
       exact not_of (wpAny_truthy_bool ⟨.bl (!c),H1,I1,rfl,q1⟩))
theorem jb9 {t:TE} (h:PE X e t) (he:∀ whole,isTrue e X.env whole = (do let v ← whole; standAt e.pos; holding [v] (truthy v)):=by intro _; rfl):PT X e (fB t):=by
  intro pins s σ H Q I hw
  refine isTrue_plain (thn (h pins s σ H _ I hw) fun v s1 ⟨x,H1,I1,r1,q1⟩=>?_) (he _)
  cases x <;> first
    | exact False.elim q1
    | (cases r1
       exact wpAny_truthy_bool ⟨H1,I1,q1⟩)
theorem jaq {op:CmpOp} {r:R2} (ho:OpR X (compareOp op) r) (ha:PE X a ta) (hb:PE X b tb) (hm:behindInMarks op b = false):PT X (.Compare a [op] [b] pos) (fB (tOp r ta tb)):=by
  intro pins s σ H Q I h
  refine wpAny_isTrue_Compare1 (thn (ha pins s σ H _ I h) fun v s1 ⟨x,H1,I1,r1,q1⟩=>thn (hb pins s1 σ H1 _ I1 q1) fun u s2 ⟨y,H2,I2,r2,q2⟩ =>
    thn (ho pins s2 σ H2 x y v u _ I2 r1 r2 q2) fun c s3 ⟨z,H3,I3,r3,q3⟩=>?_) hm
  cases z <;> first
    | exact False.elim q3
    | (cases r3
       exact wpAny_truthy_bool ⟨H3,I3,q3⟩)
def jl0 (r r':R2) (ta tb tc:TE):TE:=fun σ H Q=>ta σ H fun x H1=>tb σ H1 fun y H2=>r x y H2 fun z H3=>match z with
 | .bl k=>(if k = true then tc σ H3 fun w' H4=>r' y w' H4 Q else Q (.bl false) H3)
 | _=>False
theorem jmn {op op':CmpOp} {g:Int→Int→Bool} {r':R2} (ho:OpR X (compareOp op) (fI fun i j=>.bl (g i j))) (ho':OpR X (compareOp op') r') (ha:PE X a ta) (hb:PE X b tb) (hc:PE X c tc)
  (hm:lastMarks [op,op'] [b,c] = false:=by with_unfolding_all rfl):PE X (.Compare a [op,op'] [b,c] pos) (jl0 (fI fun i j=>.bl (g i j)) r' ta tb tc):=by
 intro pins s σ H Q I h
 refine Compare_chain (thn (ha pins s σ H _ I h) fun v s1 ⟨x,H1,I1,r1,q1⟩=>chain_link (thn (hb pins s1 σ H1 _ I1 q1) fun u s2 ⟨y,H2,I2,r2,q2⟩ =>
  thn (ho pins s2 σ H2 x y v u (fun z H3=>∃ k,z = .bl k∧(if k = true then tc σ H3 fun w' H4=>r' y w' H4 Q else Q (.bl false) H3)) I2 r1 r2 ?_) fun d s3 ⟨z,H3,I3,r3,k,e,q3⟩=>?_)) hm
 ·dsimp only at q2
  unfold fI at q2 ⊢
  cases x <;> cases y <;> first
   | exact q2.elim
   | exact ⟨_,rfl,q2⟩
 ·subst e
  cases r3
  refine wpAny_truthy_bool ?_
  cases k with
  | false=>exact ite_ff ⟨.bl false,H3,I3,rfl,q3⟩
  | true=>exact ite_tt (chain_last (thn (hc pins s3 σ H3 _ I3 q3) fun w' s4 ⟨z',H4,I4,r4,q4⟩=>ho' pins s4 σ H4 y z' u w' Q I4 r2 r4 q4))
def jag (H:Hp) (p:Addr):Option (List V):=match H p with
 | some (.lst xs)=>some xs
 | some (.tup xs)=>some xs
 | some (.frz _ (.lst xs))=>some xs
 | _=>none
theorem jf4 {K:PySem.W.Frag} {H:Hp} {p:Addr} {xs:List V} (h:jag H p = some xs):SqL K H p xs ∨ SqT K H p xs:=by
 unfold jag at h
 split at h
 ·rename_i ys e; cases h; exact .inl (.inl (.inl e))
 ·rename_i ys e; cases h; exact .inr (SqT.of e)
 ·rename_i o ys e; cases h; exact .inl (.inl (.inr ⟨_,e⟩))
 ·cases h
def fIx:R2:=fun x y H Q=>match x,y with
 | .ref p,.int i=>match jag H p with
  | some xs=>match atI xs i with
   | some v=>Q v H
   | none=>False
  | none=>False
 | _,_=>False
theorem q_ix:IxR X fIx:=(jnh.or ix_tup).imp fun x y H Q h=>by
 unfold fIx at h
 split at h
 ·split at h
  ·rename_i xs e
   split at h
   ·rename_i v ev
    rcases jf4 (K:=X.K) e with z | z
    ·exact .inl ⟨_,_,_,_,rfl,rfl,z,ev,h⟩
    ·exact .inr ⟨_,_,_,_,rfl,rfl,z,ev,h⟩
   ·exact h.elim
  ·exact h.elim
 ·exact h.elim
def fLen:List V→Hp→VK→Prop:=fun vs H Q=>match vs with
 | [.ref p]=>match jag H p with
  | some xs=>Q (.int xs.length) H
  | none=>False
 | _=>False
theorem jci:jch X (.builtin "len") fLen:=jde.imp fun vs H Q h=>by
 unfold fLen at h
 split at h
 ·split at h
  ·rename_i xs e; exact ⟨_,xs,rfl,jf4 e,h⟩
  ·exact h.elim
 ·exact h.elim
def jho:List V→Hp→VK→Prop:=fun vs H Q=>match vs with
 | [.ref p]=>match jag H p with
  | some xs=>∀ l,H l = none→Q (.ref l) (upd H l (.lst xs))
  | none=>False
 | _=>False
theorem jbl:jch X (.type "list") jho:=jj4.imp fun vs H Q h=>by
 unfold jho at h
 split at h
 ·split at h
  ·rename_i xs e; exact ⟨_,xs,rfl,jf4 e,h⟩
  ·exact h.elim
 ·exact h.elim
def fMin:List V→Hp→VK→Prop:=fun vs H Q=>match vs with
 | [.int i,.int j]=>Q (.int (if j < i then j else i)) H
 | _=>False
theorem q_min (hc:X.calm = true):jch X (.builtin "min") fMin:=(jo5 hc).imp fun vs H Q h=>by
 unfold fMin at h
 split at h
 ·exact ⟨_,_,rfl,h⟩
 ·exact h.elim
def fSlL:V→Option Int→Option Int→Hp→VK→Prop:=fun x lo hi H Q=>match x with
 | .ref a=>match H a with
  | some (.lst xs)=>∀ p,H p = none→Q (.ref p) (upd H p (.lst (cutV xs lo hi)))
  | _=>False
 | _=>False
theorem q_slL:SlR X fSlL:=jqm.imp fun x l u H Q h=>by
 unfold fSlL at h
 split at h
 ·split at h
  ·rename_i xs e; exact ⟨_,xs,rfl,SqL.of e,h⟩
  ·exact h.elim
 ·exact h.elim
def jdu:V→List V→Hp→VK→Prop:=fun x vs H Q=>match x,vs with
 | .ref l,[y]=>match H l with
  | some (.lst xs)=>xs.length < sizeLine∧Q .non (upd H l (.lst (xs ++ [y])))
  | _=>False
 | _,_=>False
theorem je1:MtR X "list.append" jdu:=MtR.imp (r:=jmk) (fun pins s σ H x xs v us Q I rx rv q=>jip pins s σ H x xs v us Q I rx rv q) fun x vs H Q h=>by
 unfold jdu at h
 split at h
 ·split at h
  ·rename_i xs e; exact ⟨_,xs,_,rfl,rfl,e,h.1,h.2⟩
  ·exact h.elim
 ·exact h.elim
def fBM (r:V→List V→Hp→VK→Prop) (to:TE) (t:TA):TE:=fun σ H Q=>to σ H fun x H1=>(∃ a xs,x = .ref a∧H1 a = some (.lst xs))∧t σ H1 fun xs H2=>r x xs H2 Q
def jpc:TSet:=fun o i v H Q=>match o,i with
 | .ref p,.int k=>match H p with
  | some (.lst xs)=>match ixN xs.length k with
   | some j=>Q (upd H p (.lst (xs.set j v)))
   | none=>False
  | _=>False
 | _,_=>False
theorem jct:PSet X jpc:=jor.imp fun o i v H Q h=>by
 unfold jpc at h
 split at h
 ·split at h
  ·rename_i xs e
   split at h
   ·rename_i j ej; exact ⟨_,xs,_,j,rfl,rfl,e,ej,h⟩
   ·exact h.elim
  ·exact h.elim
 ·exact h.elim
def jpe:TGs:=fun vs σ H Q=>match vs with
 | []=>Q σ H
 | _=>False
def jky (t:TG) (u:TGs):TGs:=fun vs σ H Q=>match vs with
 | v :: r=>t v σ H fun σ' H'=>u r σ' H' Q
 | []=>False
theorem jbw:PGs X [] jpe:=jqs.imp fun v σ H Q h=>by
 unfold jpe at h
 split at h
 ·exact ⟨rfl,h⟩
 ·exact h.elim
theorem jah {t:TG} {u:TGs} (h1:PG X e t) (h2:PGs X es u) (hs:(assignEach (e :: es) X.env).map (·.2) = assign e X.env :: (assignEach es X.env).map (·.2):=by rfl):PGs X (e :: es) (jky t u):=(jow h1 h2 hs).imp fun v σ H Q h=>by
 unfold jky at h
 split at h
 ·exact ⟨_,_,rfl,h⟩
 ·exact h.elim
def jpd (n:Nat) (t:TGs):TG:=fun v σ H Q=>match v with
 | .ref a=>match H a with
  | some (.tup xs)=>xs.length = n∧t xs σ H Q
  | _=>False
 | _=>False
theorem jd8 {k:Nat} {t:TGs} {n:Nat} (hc:X.calm = true) (h:PGs X es t) (hn:(assignEach es X.env).length = n:=by rfl) (hst:(assignEach es X.env).findIdx? (·.1) = none:=by rfl):PG X (.Tuple es k pos) (jpd n t) :=
 (pg_tup hc h hn hst).imp fun v σ H Q q=>by
  unfold jpd at q
  split at q
  ·split at q
   ·rename_i xs e; exact ⟨_,xs,rfl,SqT.of e,q.1,q.2⟩
   ·exact q.elim
  ·exact q.elim
def fDIn (f:Bool→Bool) (ty td:TE):TE:=fun σ H Q=>ty σ H fun y H1=>td σ H1 fun x H2=>match y,x with
 | .int n,.ref a=>match H2 a with
  | some (.dK kvs)=>Q (.bl (f (valV kvs (Sum.inl n:Key)).isSome)) H2
  | _=>False
 | _,_=>False
def jr6 (td ty:TE):TE:=fun σ H Q=>td σ H fun x H1=>ty σ H1 fun y H2=>match x,y with
 | .ref a,.int n=>match H2 a with
  | some (.dK kvs)=>match valV kvs (Sum.inl n:Key) with
   | some v=>Q v H2
   | none=>False
  | _=>False
 | _,_=>False
end
section
variable {X:Cx} {o i:Expr} {td ty:TE} {pos:Pos}
theorem fDIn_r {f:Bool→Bool} {H2:Hp} {Q:VK} {y x:V} (h:(match y,x with
  | .int n,.ref a=>match H2 a with
    | some (.dK kvs)=>Q (.bl (f (valV kvs (Sum.inl n:Key)).isSome)) H2
    | _=>False
  | _,_=>False)):∃ a ov,x = .ref a∧DGet H2 a y ov∧Q (.bl (f ov.isSome)) H2:=by
  cases y <;> cases x <;> first
    | exact h.elim
    | (rename_i n a
       dsimp only at h
       split at h
       · rename_i kvs e; exact ⟨a,_,rfl,DGet.k (k:=Sum.inl n) e,h⟩
       · exact h.elim)
theorem q_din (hu:X.A.units + 1 < cLine) (hi:PE X i ty) (ho:PE X o td):PC X .In i o (fDIn id ty td):=by
 intro pins s σ H Q I h
 refine thn (hi pins s σ H _ I h) fun iv s1 ⟨y,H1,I1,ry,q1⟩=>thn (ho pins s1 σ H1 _ I1 q1) fun u s2 ⟨x,H2,I2,rx,q2⟩=>?_
 obtain ⟨a,ov,ex,g,q3⟩:=fDIn_r q2
 subst ex
 obtain rfl:u = Value.ref a:=rx
 exact d_in hu I2 g ry fun s' I3=>⟨.bl ov.isSome,H2,I3,rfl,q3⟩
theorem jfj (hu:X.A.units + 1 < cLine) (ho:PE X o td) (hi:PE X i ty) (hs:NoSl i):PE X (.Subscript o i pos) (jr6 td ty):=by
  intro pins s σ H Q I h
  refine jql PySem.F.slot_dict_getitem.lookup hs (thn (ho pins s σ H _ I h) fun u s1 ⟨x,H1,I1,rx,q1⟩=>thn (hi pins s1 σ H1 _ I1 q1) fun iv s2 ⟨y,H2,I2,ry,q2⟩=>?_)
  cases x <;> cases y <;> first
    | exact False.elim q2
    | (dsimp only at q2
       split at q2
       · rename_i kvs e
         split at q2
         · rename_i v ev
           cases rx
           have g:∀ {a:Addr} {n:Int},H2 a = some (.dK kvs)→valV kvs (Sum.inl n:Key) = some v→DGet H2 a (.int n) (some v):=fun e1 e2=>e2 ▸ DGet.k (k:=Sum.inl _) e1
           have g:=g e ev
           exact ⟨jk2 I2 g,jnz hu I2 g ry fun w' s3 I3 rw'=>⟨v,H2,I3,rw',q2⟩⟩
         · exact q2.elim
       · exact q2.elim)
theorem q_bm {e:Expr} {es:List Expr} {to:TE} {t:TA} {name:Str} {apos cpos:Pos} {id:String} {r:V→List V→Hp→VK→Prop} (pa:PlainAttrs "list") (slot:Slot "list" name id) (hty:typeOf (.builtin id) = pure (.type "method_descriptor")) (hm:MtR X id r) (ho:PE X o to) (ha:PA X (e :: es) t)
  (hbase:attributeBase o name X.env (eval o X.env) = eval o X.env:=by rfl)
  (hfew:((backTo cpos (starEach (e :: es) X.env)).all (fun x=>!x.1) && (backToKw cpos (keywordEach [] X.env)).all (fun x=>x.1.isSome)
   && decide ((e :: es).length + ([]:List Keyword).length + (if ([]:List Keyword).isEmpty then 0 else 1) < 30)) = true:=by rfl)
  (hline:(apos.endLine == cpos.line) = true:=by rfl) (hs:starEach (e :: es) X.env = (false,eval e X.env) :: starEach es X.env:=by rfl) (hplain:(backTo cpos (starEach es X.env)).any (·.1) = false:=by rfl) :
  PE X (.Call (.Attribute o name apos) (e :: es) [] cpos) (fBM r to t):=by
 intro pins s σ H Q I h
 refine wpAny_Call_method_late hbase hfew hline rfl (thn (ho pins s σ H _ I h) fun v s1 ⟨x,H1,I1,r1,⟨a,xs,ex,ea⟩,q1⟩=>?_)
 subst ex
 obtain ⟨h1,h2⟩:=tyV_is (T:="list") I1 r1 (.inl ⟨rfl,_,SqL.of ea⟩)
 refine ⟨"list",id,pa,slot,hty,h1,h2,?_⟩
 have hA:=ha cpos pins s1 σ H1 _ I1 q1
 rw [hs] at hA ⊢
 refine Calls.callWith_builtin (by show (false || (backTo cpos (starEach es X.env)).any (·.1)) = false; rw [hplain] <;> rfl) (Calls.evalArgs_plain ?_)
 exact thn hA fun us s2 ⟨vs,H2,I2,r2,q2⟩=>hm pins s2 σ H2 _ vs v us Q I2 r1 r2 q2
end
inductive Kd where
 | non | bl | int | str | lst | tup | dct
 deriving DecidableEq
def Kd.nm:Kd→String
 | .non=>"NoneType"
 | .bl=>"bool"
 | .int=>"int"
 | .str=>"str"
 | .lst=>"list"
 | .tup=>"tuple"
 | .dct=>"dict"
def kd (H:Hp) (v:V):Option Kd:=match v with
 | .non=>some .non
 | .bl _=>some .bl
 | .int _=>some .int
 | .str _=>some .str
 | .ref a=>match H a with
  | some (.lst _)=>some .lst
  | some (.tup _)=>some .tup
  | some (.dK _)=>some .dct
  | _=>none
 | _=>none
def isi (a b:Kd):Bool:=match a,b with
 | .bl,.int=>true
 | .non,.non=>true
 | .bl,.bl=>true
 | .int,.int=>true
 | .str,.str=>true
 | .lst,.lst=>true
 | .tup,.tup=>true
 | .dct,.dct=>true
 | _,_=>false
theorem kd_knd {H:Hp} {v:V} {k:Kd} (h:kd H v = some k):Knd H v k.nm:=by
 unfold kd at h
 split at h
 ·cases h; exact .non
 ·cases h; exact .bl
 ·cases h; exact .int
 ·cases h; exact .str
 ·split at h
  ·rename_i e; cases h; exact .lst e
  ·rename_i e; cases h; exact .tup e
  ·rename_i e; cases h; exact .dK e
  ·cases h
 ·cases h
theorem isi_K (a b:Kd):isiK a.nm b.nm = isi a b:=by cases a <;> cases b <;> rfl
theorem Kd.mem (b:Kd):b.nm ∈ jhi:=by cases b <;> simp [jhi,Kd.nm]
def fIsi (T:Kd):List V→Hp→VK→Prop:=fun vs H Q=>match vs with
 | [x,y]=>y = .ty T.nm∧match kd H x with
  | some k=>Q (.bl (isi k T)) H
  | none=>False
 | _=>False
theorem jdk {X:Cx} (T:Kd):jch X (.builtin "isinstance") (fIsi T):=jpl.imp fun vs H Q h=>by
 unfold fIsi at h
 split at h
 ·obtain ⟨rfl,h⟩:=h
  split at h
  ·rename_i k e
   exact ⟨_,_,_,rfl,kd_knd e,Kd.mem T,by rw [isi_K]; exact h⟩
  ·exact h.elim
 ·exact h.elim
def fAug (i:Nat) (te:TE) (ti:TIp):TS:=fun D σ H=>match σ[i]? with
 | some (some x)=>te σ H fun y H1=>ti x y H1 fun z H2=>D.nx (σ.set i (some z)) H2
 | _=>False
theorem qs_aug {X:Cx} {pos:Pos} {i:Nat} {x:Str} {e:Expr} {te:TE} {op:Operator} {ti:TIp} {pos':Pos} (hN:X.N.Nodup) (hi:X.N[i]? = some x) (hx:Loc X.env.scope x) (he:PE X e te) (ho:PIp X op ti) (hf:X.fn x = true ∨ X.env.scope.names.lookup x = some .local:=by first | exact .inl rfl | exact .inr rfl | assumption) :
  PS X (.AugAssign (.Name x pos') op e pos) (fAug i te ti):=fun pins s σ H D I h=>ps_aug hN hi hx he ho hf pins s σ H D I (by
 unfold fAug at h
 split at h
 ·rename_i x e; exact ⟨x,e,h⟩
 ·exact h.elim)
def jr4 (t:TE):TO:=fun σ H Q=>t σ H fun x H1=>match x with
 | .int i=>Q (some i) H1
 | _=>False
theorem jbi {X:Cx} {e:Expr} {te:TE} (h:PE X e te):PO X (some e) (jr4 te):=by
  intro pins s σ H Q I hw
  rw [evalPart_some]
  refine thn (h pins s σ H _ I hw) fun u s1 ⟨x,H1,I1,r1,q1⟩=>?_
  cases x <;> first
    | exact False.elim q1
    | (obtain ⟨t,rfl⟩:=r1
       exact ⟨some _,H1,I1,.int _ t,q1⟩)
def jj0 (f:List Bool→Bool):List V→Hp→VK→Prop:=fun vs H Q=>match vs with
 | [.ref l]=>match H l with
  | some (.lst xs)=>∃ bs:List Bool,xs = bs.map V.bl∧Q (.bl (f bs)) H
  | _=>False
 | _=>False
theorem jpg {f:List Bool→Bool} {vs:List V} {H:Hp} {Q:VK} (h:jj0 f vs H Q):jpx f vs H Q:=by
 unfold jj0 at h
 split at h
 ·split at h
  ·rename_i xs e
   obtain ⟨bs,rfl,h⟩:=h
   exact ⟨_,bs,rfl,e,h⟩
  ·exact h.elim
 ·exact h.elim
theorem jqq {X:Cx} (hc:X.calm = true):jch X (.builtin "all") (jj0 fun bs=>bs.all id):=(jpm hc).imp fun _ _ _=>jpg
def jkz:List V→Hp→VK→Prop:=fun vs H Q=>match vs with
 | [.ref l]=>match H l with
  | some (.lst xs)=>∃ kvs:List (Key × V),Paired (PairAt H) xs kvs∧xs.length ≤ 1000∧(kvs.map (·.1)).Nodup∧∀ d,H d = none→Q (.ref d) (upd H d (.dK kvs))
  | _=>False
 | _=>False
theorem jjh {X:Cx} (hc:X.calm = true):jch X (.type "dict") jkz:=(jlq hc).imp fun vs H Q h=>by
 unfold jkz at h
 split at h
 ·split at h
  ·rename_i xs e
   obtain ⟨kvs,h1,h2,h3,h4⟩:=h
   exact ⟨_,xs,kvs,rfl,e,h1,h2,h3,h4⟩
  ·exact h.elim
 ·exact h.elim
def fLtT:R2:=fun x y H Q=>match x,y with
 | .ref a,.ref b=>match H a,H b with
  | some (.tup [.int i,.int j]),some (.tup [.int k,.int l])=>Q (.bl (HT.lexLt [i,j] [k,l])) H
  | _,_=>False
 | _,_=>False
theorem q_ltT {X:Cx} (hu:X.A.units < cLine):OpR X (compareOp .Lt) fLtT:=(op_ltT hu).imp fun x y H Q h=>by
 unfold fLtT at h
 split at h
 ·split at h
  ·rename_i a b _ _ i j k l e1 e2
   exact ⟨a,b,[i,j],[k,l],rfl,rfl,SqT.of e1,SqT.of e2,h⟩
  ·exact h.elim
 ·exact h.elim
def capB (XN:List Str) (names:List (Str × NameKind)):List Str→List (Option Nat)→Bool
 | [],[]=>true
 | x :: N,none :: r=>capB XN names N r
 | x :: N,some j :: r=>(XN[j]? == some x) && (names.lookup x == some .free) && capB XN names N r
 | _,_=>false
theorem jk4 {XN:List Str} {names:List (Str × NameKind)}:∀ {N:List Str} {src:List (Option Nat)},capB XN names N src = true→src.length = N.length∧∀ (i j:Nat),src[i]? = some (some j)→XN[j]? = N[i]?∧(N[i]?).elim False (fun x=>names.lookup x = some .free)
 | [],[],_=>⟨rfl,fun i j e=>by simp at e⟩
 | x :: N,none :: r,h=>by
  obtain ⟨h1,h2⟩:=jk4 (N:=N) (src:=r) h
  refine ⟨by simp [h1],fun i j e=>?_⟩
  cases i with
  | zero=>simp at e
  | succ i=>exact h2 i j (by simpa using e)
 | x :: N,some k :: r,h=>by
  have h':((XN[k]? == some x) && (names.lookup x == some .free) && capB XN names N r) = true:=h
  rw [Bool.and_eq_true,Bool.and_eq_true] at h'
  obtain ⟨h1,h2⟩:=jk4 (N:=N) (src:=r) h'.2
  refine ⟨by simp [h1],fun i j e=>?_⟩
  cases i with
  | zero =>
   have e':k = j:=by simpa using e
   subst e'
   exact ⟨by simpa using h'.1.1,by simpa using h'.1.2⟩
  | succ i=>exact h2 i j (by simpa using e)
def jkr:List Str→Bool
 | []=>true
 | x :: r=>!(r.contains x) && jkr r
theorem jak:∀ {l:List Str},jkr l = true→l.Nodup
 | [],_=>List.nodup_nil
 | x :: r,h=>by
  have h':(!(r.contains x) && jkr r) = true:=h
  rw [Bool.and_eq_true] at h'
  exact List.nodup_cons.mpr ⟨by simpa using h'.1,jak h'.2⟩
def cpB (XN:List Str) (outer:List (Str × NameKind)) (scope:Scope) (N:List Str) (src:List (Option Nat)):Bool :=
 (scope.kind == .function) && scope.names.all (fun y=>y.2 != .cell) && scope.names.all (fun y=>y.2 != .local || scope.names.lookup y.1 == some .local) &&
  scope.names.all (fun y=>y.2 != .free || (scope.names.lookup y.1 == some .free && outer.lookup y.1 == some .cell)) && jkr N && capB XN scope.names N src
theorem CpScope.of {X:Cx} {scope:Scope} {N:List Str} {src:List (Option Nat)} (h:cpB X.N X.env.scope.names scope N src = true):CpScope X scope N src:=by
 unfold cpB at h
 simp only [Bool.and_eq_true] at h
 obtain ⟨⟨⟨⟨⟨h1,h2⟩,h3⟩,h4⟩,h5⟩,h6⟩:=h
 rw [List.all_eq_true] at h2 h3 h4
 obtain ⟨l,c⟩:=jk4 h6
 refine ⟨by simpa using h1,fun y hy=>by simpa using h2 y hy,fun y hy e=>?_,fun y hy e=>?_,jak h5,l,c⟩
 ·have:=h3 y hy
  rw [e] at this
  simpa using this
 ·have:=h4 y hy
  rw [e] at this
  simpa using this
end L2
namespace L2
open PySem PySem.Spec PyProof.Rows
theorem jkx {K:PySem.W.Frag} {a:Addr} {xs:List V} {g:TG} {tb:TS} {D:Ends} {σ:St} {H:Hp} (Pv:Nat→St→Hp→Prop) (h0:Pv 0 σ H) (hl:∀ i σ H,i ≤ xs.length→Pv i σ H→SqL K H a xs)
  (hs:∀ i x σ H t,xs[i]? = some x→Pv i σ H→H t = none→g (.ref t) σ (upd H t (.tup [.int i,x])) fun σ2 H2=>tb { D with nx:=Pv (i + 1),ct:=Pv (i + 1),bk:=D.nx } σ2 H2) (hd:∀ σ H,Pv xs.length σ H→D.nx σ H) :
  ∃ W:Nat→Nat→St→Hp→Prop,(∃ m,W 0 m σ H)∧∀ i m σ H,W i m σ H →
   ((Ite K a).stop i H∧D.nx σ H) ∨ ((Ite K a).go i H∧∃ N:St→Hp→Prop,(∀ σ' H',N σ' H'→∃ m',m' < m∧W (i + 1) m' σ' H')∧∀ x H',(Ite K a).yld i H x H'→g x σ H' fun σ2 H2=>tb { D with nx:=N,ct:=N,bk:=D.nx } σ2 H2):=by
 refine ⟨fun i m σ H=>m = xs.length - i∧i ≤ xs.length∧Pv i σ H,⟨xs.length,by simp,Nat.zero_le _,h0⟩,?_⟩
 rintro i m σ H ⟨rfl,hi,p⟩
 have q:=hl i σ H hi p
 by_cases hlt:i < xs.length
 ·refine .inr ⟨⟨xs,xs[i],q,by simp [hlt]⟩,Pv (i + 1),fun σ' H' p'=>⟨xs.length - (i + 1),by omega,rfl,hlt,p'⟩,fun x H' y=>?_⟩
  obtain ⟨t,z,ht,e1,e2,y⟩:=y
  subst e1 e2
  exact hs i z σ _ t (y xs q) p ht
 ·have e:i = xs.length:=by omega
  subst e
  exact .inl ⟨⟨xs,q,Nat.le_refl _⟩,hd σ H p⟩
theorem jb8 {wi:TI} {g:TG} {tb:TS} {D:Ends} {σ:St} {H:Hp} (J:It) (H1:Hp) (h1:∀ R:It→Hp→Prop,R J H1→wi σ H R)
  (h2:∃ W:Nat→Nat→St→Hp→Prop,(∃ m,W 0 m σ H1)∧∀ i m σ H,W i m σ H→(J.stop i H∧D.nx σ H) ∨ (J.go i H∧∃ N:St→Hp→Prop,(∀ σ' H',N σ' H'→∃ m',m' < m∧W (i + 1) m' σ' H')∧∀ x H',J.yld i H x H'→g x σ H' fun σ2 H2=>tb { D with nx:=N,ct:=N,bk:=D.nx } σ2 H2)) :
  tFor wi g tb D σ H:=h1 _ h2
theorem jaw {src:List (Option Nat)} {wi:TI} {g:TG} {tc:TT} {te:TE} {Q:VK} {σ:St} {H:Hp} (J:It) (H1:Hp) (h1:∀ R:It→Hp→Prop,R J H1→wi σ H R) (h2:∀ l,H1 l = none→joi J src g tc te Q σ H1 l):joo src wi g tc te σ H Q:=h1 _ h2
theorem ja4 {H:Hp} {p:Addr} (h:H p = none) (o:HO):Same H (upd H p o):=fun b u q=>by rw [jaa (ja7 q h)]; exact q
theorem jav {H H':Hp} {p:Addr} {o:HO} (s:Same H H') (h:H p = none):Same H (upd H' p o):=fun b u q=>by rw [jaa (ja7 q h)]; exact s b u q
def Pr (H:Hp) (v:V) (p:Int × Int):Prop:=∃ t,v = .ref t∧H t = some (.tup [.int p.1,.int p.2])
theorem Pr.same {H H':Hp} {v:V} {p:Int × Int} (h:Pr H v p) (s:Same H H'):Pr H' v p:=let ⟨t,e,q⟩:=h; ⟨t,e,s _ _ q⟩
def jnj:HO→Bool
 | .tup _=>true
 | .frz _ _=>true
 | _=>false
def TupS (H H':Hp):Prop:=∀ b o,jnj o = true→H b = some o→H' b = some o
theorem Same.tups {H H':Hp} (s:Same H H'):TupS H H':=fun b o _ q=>s b _ q
theorem TupS.trans {H H1 H2:Hp} (a:TupS H H1) (b:TupS H1 H2):TupS H H2:=fun c o i q=>b c o i (a c o i q)
theorem jaz {H:Hp} {l:Addr} {xs ys:List V} (h:H l = some (.lst xs)):TupS H (upd H l (.lst ys)):=fun b o i q=>by
 have:b ≠ l:=fun z=>by rw [z,h] at q; cases q; cases i
 rw [jaa this]
 exact q
theorem Pr.tups {H H':Hp} {v:V} {p:Int × Int} (h:Pr H v p) (s:TupS H H'):Pr H' v p:=let ⟨t,e,q⟩:=h; ⟨t,e,s _ _ rfl q⟩
def Scr (K:PySem.W.Frag) (H:Hp) (a:Addr) (ns:List Int):Prop :=
 (∃ o,H a = some (.frz o (.lst (ns.map V.int)))) ∨ ∃ (o:Obj) (its:Array Value) (n:Nat),K.lookup a = some o∧o.cls = .type "list"∧o.dict = none∧o.data = .seq its n∧its.size ≤ sizeLine∧Vals (ns.map V.int) its.toList
theorem Scr.sq {K:PySem.W.Frag} {H:Hp} {a:Addr} {ns:List Int} (h:Scr K H a ns):SqL K H a (ns.map V.int):=h.elim (fun ⟨o,q⟩=>.inl (.inr ⟨o,q⟩)) .inr
theorem Scr.of {K:PySem.W.Frag} {H:Hp} {a:Addr} {ns:List Int} (h:SqL K H a (ns.map V.int)) (o:Only H):Scr K H a ns:=by
 rcases h with (h | ⟨ob,h⟩) | h
 ·rcases o a with z | ⟨ob,xs,z⟩
  ·rw [h] at z; cases z
  ·rw [h] at z; cases z
 ·exact .inl ⟨ob,h⟩
 ·exact .inr h
theorem Scr.tups {K:PySem.W.Frag} {H H':Hp} {a:Addr} {ns:List Int} (h:Scr K H a ns) (s:TupS H H'):Scr K H' a ns:=h.elim (fun ⟨o,q⟩=>.inl ⟨o,s _ _ rfl q⟩) .inr
abbrev Prs (H:Hp):List V→List (Int × Int)→Prop:=Paired (Pr H)
theorem Prs.tups {H H':Hp} (s:TupS H H') {xs:List V} {ps:List (Int × Int)} (h:Prs H xs ps):Prs H' xs ps:=Paired.mapP h fun _ _ q=>q.tups s
theorem Prs.same {H H':Hp} (s:Same H H') {xs:List V} {ps:List (Int × Int)} (h:Prs H xs ps):Prs H' xs ps:=Prs.tups s.tups h
theorem jaf {α β:Type} {F:α→β→Prop}:∀ {xs:List α} {ys:List β} {i:Nat} {x:α},Paired F xs ys→xs[i]? = some x→∃ y,ys[i]? = some y∧F x y
 | _,_,_,_,.nil,e=>by simp at e
 | _,_,0,_,.cons r _,e=>by simp at e; subst e; exact ⟨_,rfl,r⟩
 | _,_,i + 1,y,.cons _ t,e=>by
  obtain ⟨u,h1,h2⟩:=jaf (i:=i) t (by simpa using e)
  exact ⟨u,by simpa using h1,h2⟩
theorem jeu {α β:Type} {F:α→β→Prop}:∀ {xs:List α} {ys:List β} {i:Nat} {y:β},Paired F xs ys→ys[i]? = some y→∃ x,xs[i]? = some x∧F x y
 | _,_,_,_,.nil,e=>by simp at e
 | _,_,0,_,.cons r _,e=>by simp at e; subst e; exact ⟨_,rfl,r⟩
 | _,_,i + 1,y,.cons _ t,e=>by
  obtain ⟨u,h1,h2⟩:=jeu (i:=i) t (by simpa using e)
  exact ⟨u,by simpa using h1,h2⟩
theorem jbc {α β:Type} {F:α→β→Prop} {a:α} {b:β} {l₁:List α} {l₂:List β} (h:Paired F l₁ l₂) (r:F a b):Paired F (l₁ ++ [a]) (l₂ ++ [b]):=Paired.snoc h r
theorem jcm {α:Type} {l:List α} {i:Nat} {x:α} (h:l[i]? = some x):l.drop i = x :: l.drop (i + 1):=by
 obtain ⟨h1,h2⟩:=List.getElem?_eq_some_iff.mp h
 rw [List.drop_eq_getElem_cons h1,h2]
theorem jau {α:Type} {l:List α} {i:Nat} {x:α} (h:l[i]? = some x):l.take (i + 1) = l.take i ++ [x]:=by
 obtain ⟨h1,h2⟩:=List.getElem?_eq_some_iff.mp h
 rw [List.take_succ,h]
 rfl
inductive Dt where
 | non
 | bl (b:Bool)
 | int (i:Int)
 | str (x:Str)
 | tup (ds:List Dt)
 | lst (ds:List Dt)
mutual
def Rep (H:Hp):Dt→V→Prop
 | .non,v=>v = .non
 | .bl b,v=>v = .bl b
 | .int i,v=>v = .int i
 | .str x,v=>v = .str x
 | .tup ds,v=>∃ a vs,v = .ref a∧H a = some (.tup vs)∧Reps H ds vs
 | .lst ds,v=>∃ a vs,v = .ref a∧H a = some (.lst vs)∧Reps H ds vs
def Reps (H:Hp):List Dt→List V→Prop
 | [],vs=>vs = []
 | d :: ds,vs=>∃ v r,vs = v :: r∧Rep H d v∧Reps H ds r
end
mutual
theorem Rep.same {H H':Hp} (s:Same H H'):∀ (d:Dt) {v:V},Rep H d v→Rep H' d v
 | .non,_,h=>by rw [Rep] at *; exact h
 | .bl _,_,h=>by rw [Rep] at *; exact h
 | .int _,_,h=>by rw [Rep] at *; exact h
 | .str _,_,h=>by rw [Rep] at *; exact h
 | .tup ds,_,h=>by
  rw [Rep] at *
  obtain ⟨a,vs,e,q,r⟩:=h
  exact ⟨a,vs,e,s _ _ q,Reps.same s ds r⟩
 | .lst ds,_,h=>by
  rw [Rep] at *
  obtain ⟨a,vs,e,q,r⟩:=h
  exact ⟨a,vs,e,s _ _ q,Reps.same s ds r⟩
theorem Reps.same {H H':Hp} (s:Same H H'):∀ (ds:List Dt) {vs:List V},Reps H ds vs→Reps H' ds vs
 | [],_,h=>by rw [Reps] at *; exact h
 | d :: ds,_,h=>by
  rw [Reps] at *
  obtain ⟨v,r,e,h1,h2⟩:=h
  exact ⟨v,r,e,Rep.same s d h1,Reps.same s ds h2⟩
end
theorem Reps.len {H:Hp}:∀ {ds:List Dt} {vs:List V},Reps H ds vs→vs.length = ds.length
 | [],_,h=>by rw [Reps] at h; subst h; rfl
 | d :: ds,_,h=>by
  rw [Reps] at h
  obtain ⟨v,r,e,h1,h2⟩:=h
  rw [e,List.length_cons,List.length_cons,Reps.len h2]
theorem Reps.at {H:Hp}:∀ {ds:List Dt} {vs:List V} {i:Nat} {v:V},Reps H ds vs→vs[i]? = some v→∃ d,ds[i]? = some d∧Rep H d v
 | [],_,i,v,h,e=>by rw [Reps] at h; rw [h] at e; simp at e
 | d :: ds,_,i,v,h,e=>by
  rw [Reps] at h
  obtain ⟨w,r,e1,h1,h2⟩:=h
  subst e1
  cases i with
  | zero=>simp at e; subst e; exact ⟨d,rfl,h1⟩
  | succ i =>
   obtain ⟨d',q1,q2⟩:=Reps.at h2 (i:=i) (by simpa using e)
   exact ⟨d',by simpa using q1,q2⟩
def jbf (p:Int × Int):Dt:=.tup [.int p.1,.int p.2]
theorem Pr.rep {H:Hp} {v:V} {p:Int × Int} (h:Pr H v p):Rep H (jbf p) v:=by
 obtain ⟨t,e,q⟩:=h
 rw [jbf,Rep]
 refine ⟨t,_,e,q,?_⟩
 rw [Reps]
 refine ⟨_,_,rfl,(by rw [Rep]),?_⟩
 rw [Reps]
 exact ⟨_,_,rfl,(by rw [Rep]),(by rw [Reps])⟩
theorem Prs.reps {H:Hp}:∀ {xs:List V} {ps:List (Int × Int)},Prs H xs ps→Reps H (ps.map jbf) xs
 | _,_,.nil=>by rw [List.map_nil,Reps]
 | _,_,.cons r t=>by rw [List.map_cons,Reps]; exact ⟨_,_,rfl,r.rep,Prs.reps t⟩
theorem je8 {H:Hp}:∀ (ns:List Int),Reps H (ns.map Dt.int) (ns.map V.int)
 | []=>by rw [List.map_nil,Reps,List.map_nil]
 | n :: r=>by rw [List.map_cons,Reps,List.map_cons]; exact ⟨_,_,rfl,(by rw [Rep]),je8 r⟩
end L2
namespace L2
open PySem PySem.Spec PyProof.Rows
def fMax:List V→Hp→VK→Prop:=fun vs H Q=>match vs with
 | [.int i,.int j]=>Q (.int (if i < j then j else i)) H
 | _=>False
theorem q_max {X:Cx} (hc:X.calm = true):jch X (.builtin "max") fMax:=(jo7 hc).imp fun vs H Q h=>by
 unfold fMax at h
 split at h
 ·refine ⟨_,_,rfl,?_⟩
  first | exact h | (rename_i i j; by_cases c:i < j <;> simp_all)
 ·exact h.elim
def fInL (neg:Bool):R2:=fun x y H Q=>match y with
 | .ref p=>match jag H p with
  | some xs=>jeo x = true∧xs.all jeo = true∧Q (.bl (if neg = true then !inV x xs else inV x xs)) H
  | none=>False
 | _=>False
theorem fInL_r {K:PySem.W.Frag} {neg:Bool} {x y:V} {H:Hp} {Q:VK} (h:fInL neg x y H Q):rIn K neg x y H Q:=by
 unfold fInL at h
 split at h
 ·split at h
  ·rename_i xs e
   obtain ⟨h1,h2,h3⟩:=h
   exact ⟨_,xs,rfl,jf4 e,h1,h2,h3⟩
  ·exact h.elim
 ·exact h.elim
theorem q_inL {X:Cx}:OpR X (compareOp .In) (fInL false):=jmx.imp fun _ _ _ _=>fInL_r
theorem jnp (ns:List Int):(ns.map V.int).all jeo = true:=by
 rw [List.all_eq_true]
 intro v hv
 obtain ⟨n,_,e⟩:=List.mem_map.mp hv
 rw [← e]
 rfl
theorem jpa (n:Int) (ns:List Int):inV (.int n) (ns.map V.int) = decide (n ∈ ns):=by
 rw [Bool.eq_iff_iff,inV,List.any_eq_true,decide_eq_true_iff]
 constructor
 ·rintro ⟨v,hv,e⟩
  obtain ⟨m,hm,e2⟩:=List.mem_map.mp hv
  subst e2
  have:m = n:=by simpa [eqV] using e
  rw [← this]
  exact hm
 ·intro h
  exact ⟨.int n,List.mem_map_of_mem h,by simp [eqV]⟩
end L2
namespace L2
open PySem PySem.Spec PyProof.Rows
end L2
namespace L2
open PySem PySem.Spec PyProof.Rows
mutual
def eqP:Dt→Dt→Bool
 | .non,.non=>true
 | .bl a,.bl b=>a == b
 | .bl a,.int b=>(if a then 1 else 0) == b
 | .int a,.bl b=>a == (if b then 1 else 0)
 | .int a,.int b=>a == b
 | .str a,.str b=>a == b
 | .tup a,.tup b=>eqPs a b
 | .lst a,.lst b=>eqPs a b
 | _,_=>false
def eqPs:List Dt→List Dt→Bool
 | [],[]=>true
 | a :: r,b :: t=>eqP a b && eqPs r t
 | _,_=>false
end
mutual
def depP:Dt→Nat
 | .tup a=>jb6 a + 1
 | .lst a=>jb6 a + 1
 | _=>0
def jb6:List Dt→Nat
 | []=>0
 | a :: r=>max (depP a) (jb6 r)
end
def jep (a b:List Dt) (j:Nat):Bool:=match a[j]?,b[j]? with
 | some x,some y=>eqP x y
 | _,_=>false
theorem jdh:∀ {a b:List Dt},a.length ≠ b.length→eqPs a b = false
 | [],[],h=>absurd rfl h
 | [],_ :: _,_=>by simp [eqPs]
 | _ :: _,[],_=>by simp [eqPs]
 | x :: a,y :: b,h=>by
  rw [eqPs,jdh (by simpa using h),Bool.and_false]
theorem jmj:∀ (n:Nat) (f:Nat→Bool),(List.range (n + 1)).all f = (f 0 && (List.range n).all fun j=>f (j + 1)):=fun n f=>by
 rw [List.range_succ_eq_map,List.all_cons,List.all_map]
 rfl
theorem jcb:∀ {a b:List Dt},a.length = b.length→eqPs a b = (List.range a.length).all (jep a b)
 | [],[],_=>by rw [eqPs]; rfl
 | [],_ :: _,h=>by simp at h
 | _ :: _,[],h=>by simp at h
 | x :: a,y :: b,h=>by
  rw [eqPs,jcb (a:=a) (b:=b) (by simpa using h),List.length_cons,jmj]
  rfl
theorem jf9:∀ {a:List Dt} {j:Nat} {d:Dt},a[j]? = some d→depP d ≤ jb6 a
 | [],_,_,h=>by simp at h
 | x :: a,0,d,h=>by
  simp at h; subst h
  rw [jb6]; omega
 | x :: a,j + 1,d,h=>by
  have:=jf9 (a:=a) (j:=j) (by simpa using h)
  rw [jb6]; omega
def jcj:Dt→Option V
 | .non=>some .non
 | .bl b=>some (.bl b)
 | .int i=>some (.int i)
 | .str x=>some (.str x)
 | _=>none
theorem jph {d e:Dt} {x y:V} (hd:jcj d = some x) (he:jcj e = some y):eqP d e = eqV x y:=by
 cases d <;> cases e <;> simp only [jcj,Option.some.injEq,reduceCtorEq] at hd he <;> subst hd <;> subst he <;> simp [eqP,eqV]
theorem jh8 {H:Hp} {d:Dt} {x v:V} (hd:jcj d = some x) (h:Rep H d v):v = x∧jeo x = true:=by
 cases d <;> simp only [jcj,Option.some.injEq,reduceCtorEq] at hd <;> subst hd <;> rw [Rep] at h <;> exact ⟨h,rfl⟩
section
variable {X:Cx} {pins:List (Addr × Obj)} {σ:St} {H:Hp} {s:Shared}
theorem Inv.tupE (I:Inv X pins σ H s) {a:Addr} {vs:List V} (e:H a = some (.tup vs)):∃ its:List Value,Vals vs its∧s.heap.IsTuple a its.toArray:=by
 obtain ⟨its,r,p,_⟩:=I.tuple (SqT.of e)
 exact ⟨its,r,p⟩
theorem Inv.lstE (I:Inv X pins σ H s) {a:Addr} {vs:List V} (e:H a = some (.lst vs)):∃ its:List Value,Vals vs its∧s.heap.IsList a its.toArray:=by
 obtain ⟨its,r,p,_⟩:=I.list (SqL.of e)
 exact ⟨its,r,p.isList⟩
mutual
theorem jhp:∀ d:Dt,eqP d d = true
 | .non=>by simp [eqP]
 | .bl _=>by simp [eqP]
 | .int _=>by simp [eqP]
 | .str _=>by simp [eqP]
 | .tup a=>by rw [eqP]; exact jg4 a
 | .lst a=>by rw [eqP]; exact jg4 a
theorem jg4:∀ a:List Dt,eqPs a a = true
 | []=>by rw [eqPs]
 | d :: r=>by rw [eqPs,jhp d,jg4 r]; rfl
end
mutual
theorem Rep.inj {H:Hp}:∀ {d e:Dt} {v:V},Rep H d v→Rep H e v→d = e
 | .non,e,v,h1,h2=>by rw [Rep] at h1; subst h1; cases e <;> simp [Rep] at h2 ⊢
 | .bl _,e,v,h1,h2=>by rw [Rep] at h1; subst h1; cases e <;> simp [Rep] at h2 ⊢; exact h2
 | .int _,e,v,h1,h2=>by rw [Rep] at h1; subst h1; cases e <;> simp [Rep] at h2 ⊢; exact h2
 | .str _,e,v,h1,h2=>by rw [Rep] at h1; subst h1; cases e <;> simp [Rep] at h2 ⊢; exact h2
 | .tup ds,e,v,h1,h2=>by
  rw [Rep] at h1
  obtain ⟨a,vs,rfl,q,r⟩:=h1
  cases e with
  | tup es =>
   rw [Rep] at h2
   obtain ⟨a',vs',e',q',r'⟩:=h2
   cases e'
   rw [q] at q'; cases q'
   rw [Reps.inj r r']
  | lst es =>
   rw [Rep] at h2
   obtain ⟨a',vs',e',q',r'⟩:=h2
   cases e'
   rw [q] at q'; cases q'
  | non=>rw [Rep] at h2; cases h2
  | bl _=>rw [Rep] at h2; cases h2
  | int _=>rw [Rep] at h2; cases h2
  | str _=>rw [Rep] at h2; cases h2
 | .lst ds,e,v,h1,h2=>by
  rw [Rep] at h1
  obtain ⟨a,vs,rfl,q,r⟩:=h1
  cases e with
  | lst es =>
   rw [Rep] at h2
   obtain ⟨a',vs',e',q',r'⟩:=h2
   cases e'
   rw [q] at q'; cases q'
   rw [Reps.inj r r']
  | tup es =>
   rw [Rep] at h2
   obtain ⟨a',vs',e',q',r'⟩:=h2
   cases e'
   rw [q] at q'; cases q'
  | non=>rw [Rep] at h2; cases h2
  | bl _=>rw [Rep] at h2; cases h2
  | int _=>rw [Rep] at h2; cases h2
  | str _=>rw [Rep] at h2; cases h2
theorem Reps.inj {H:Hp}:∀ {ds es:List Dt} {vs:List V},Reps H ds vs→Reps H es vs→ds = es
 | [],es,vs,h1,h2=>by
  rw [Reps] at h1; subst h1
  cases es with
  | nil=>rfl
  | cons e es=>rw [Reps] at h2; obtain ⟨_,_,z,_⟩:=h2; cases z
 | d :: ds,es,vs,h1,h2=>by
  rw [Reps] at h1
  obtain ⟨v,r,rfl,q1,q2⟩:=h1
  cases es with
  | nil=>rw [Reps] at h2; cases h2
  | cons e es =>
   rw [Reps] at h2
   obtain ⟨v',r',z,p1,p2⟩:=h2
   cases z
   rw [Rep.inj q1 p1,Reps.inj q2 p2]
end
theorem jew {d e:Dt} (hd:jcj d = none) {y:V} (he:jcj e = some y):eqP d e = false∧eqP e d = false:=by
 cases d <;> cases e <;> simp only [jcj,Option.some.injEq,reduceCtorEq] at hd he <;> simp [eqP]
theorem jqf:∀ (n:Nat) {A:Around} (I:Inv X pins σ H s) {d e:Dt} {x y:V} {u v:Value},depP d ≤ n→A.units + n < cLine→Rep H d x→Rep H e y→RelV x u→RelV y v→SeqAt.EqAt A s u v (eqP d e):=by
 intro n
 induction n with
 | zero =>
  intro A I d e x y u v hn hu rd re rx ry
  have hf:∃ z,jcj d = some z:=by
   cases d <;> simp only [depP,jcj] at hn ⊢ <;> first | exact ⟨_,rfl⟩ | omega
  obtain ⟨z,hz⟩:=hf
  obtain ⟨rfl,fz⟩:=jh8 hz rd
  cases he:jcj e with
  | some y' =>
   obtain ⟨rfl,fy⟩:=jh8 he re
   rw [jph hz he]
   exact jqe rx ry fz fy
  | none =>
   rw [(jew he hz).2]
   have hu0:A.units < cLine:=by omega
   cases e <;> simp only [jcj,reduceCtorEq] at he
   ·rw [Rep] at re
    obtain ⟨a,vs,rfl,q,_⟩:=re
    cases ry
    obtain ⟨its,_,p⟩:=I.tupE q
    cases d <;> simp only [jcj,Option.some.injEq,reduceCtorEq] at hz <;> subst hz
    ·cases rx; exact SeqAt.EqAt.none_tuple p hu0
    ·cases rx; exact SeqAt.EqAt.bool_tuple _ p hu0
    ·obtain ⟨t,rfl⟩:=rx; exact SeqAt.EqAt.int_tuple _ _ p hu0
    ·obtain ⟨t,rfl⟩:=rx; exact SeqAt.EqAt.str_tuple _ _ p hu0
   ·rw [Rep] at re
    obtain ⟨a,vs,rfl,q,_⟩:=re
    cases ry
    obtain ⟨its,_,p⟩:=I.lstE q
    cases d <;> simp only [jcj,Option.some.injEq,reduceCtorEq] at hz <;> subst hz
    ·cases rx; exact SeqAt.EqAt.none_list p hu0
    ·cases rx; exact SeqAt.EqAt.bool_list _ p hu0
    ·obtain ⟨t,rfl⟩:=rx; exact SeqAt.EqAt.int_list _ _ p hu0
    ·obtain ⟨t,rfl⟩:=rx; exact SeqAt.EqAt.str_list _ _ p hu0
 | succ n ih =>
  intro A I d e x y u v hn hu rd re rx ry
  have hu0:A.units < cLine:=by omega
  have items:∀ {ds es:List Dt} {vs ws:List V} {its its2:List Value},jb6 ds ≤ n→Reps H ds vs→Reps H es ws→Vals vs its→Vals ws its2 →
    ∀ j (h1:j < its.toArray.size) (h2:j < its2.toArray.size),SeqAt.EqAt A.in1 s its.toArray[j] its2.toArray[j] (jep ds es j):=by
   intro ds es vs ws its its2 hdp r1 r2 w1 w2 j h1 h2
   rw [List.size_toArray] at h1 h2
   have l1:=w1.length
   have l2:=w2.length
   obtain ⟨u',e1,q1⟩:=w1.get (i:=j) (x:=vs[j]'(by omega)) (List.getElem?_eq_getElem _)
   obtain ⟨v',e2,q2⟩:=w2.get (i:=j) (x:=ws[j]'(by omega)) (List.getElem?_eq_getElem _)
   obtain ⟨d',f1,g1⟩:=r1.at (i:=j) (List.getElem?_eq_getElem (by omega))
   obtain ⟨e',f2,g2⟩:=r2.at (i:=j) (List.getElem?_eq_getElem (by omega))
   rw [List.getElem?_eq_getElem h1] at e1
   rw [List.getElem?_eq_getElem h2] at e2
   cases e1; cases e2
   have hj:jep ds es j = eqP d' e':=by unfold jep; rw [f1,f2]
   rw [hj]
   have:=jf9 f1
   exact ih (A:=A.in1) I (by omega) (by show A.units + 1 + n < cLine; omega) g1 g2 q1 q2
  cases hf:jcj d with
  | some z =>
   refine ih I ?_ (by omega) rd re rx ry
   cases d <;> simp only [jcj,reduceCtorEq] at hf <;> simp [depP]
  | none =>
   cases he:jcj e with
   | some y' =>
    rw [(jew hf he).1]
    obtain ⟨rfl,fy⟩:=jh8 he re
    cases d <;> simp only [jcj,reduceCtorEq] at hf
    ·rw [Rep] at rd
     obtain ⟨a,vs,rfl,q,_⟩:=rd
     cases rx
     obtain ⟨its,_,p⟩:=I.tupE q
     cases e <;> simp only [jcj,Option.some.injEq,reduceCtorEq] at he <;> subst he
     ·cases ry; exact SeqAt.EqAt.tuple_none p hu0
     ·cases ry; exact SeqAt.EqAt.tuple_bool _ p hu0
     ·obtain ⟨t,rfl⟩:=ry; exact SeqAt.EqAt.tuple_int _ _ p hu0
     ·obtain ⟨t,rfl⟩:=ry; exact SeqAt.EqAt.tuple_str _ _ p hu0
    ·rw [Rep] at rd
     obtain ⟨a,vs,rfl,q,_⟩:=rd
     cases rx
     obtain ⟨its,_,p⟩:=I.lstE q
     cases e <;> simp only [jcj,Option.some.injEq,reduceCtorEq] at he <;> subst he
     ·cases ry; exact SeqAt.EqAt.list_none p hu0
     ·cases ry; exact SeqAt.EqAt.list_bool _ p hu0
     ·obtain ⟨t,rfl⟩:=ry; exact SeqAt.EqAt.list_int _ _ p hu0
     ·obtain ⟨t,rfl⟩:=ry; exact SeqAt.EqAt.list_str _ _ p hu0
   | none =>
    cases d <;> simp only [jcj,reduceCtorEq] at hf <;> cases e <;> simp only [jcj,reduceCtorEq] at he
    ·rename_i ds es
     have hn':jb6 ds ≤ n:=by rw [depP] at hn; omega
     have rd0:=rd
     have re0:=re
     rw [Rep] at rd
     rw [Rep] at re
     obtain ⟨a,vs,rfl,q,r1⟩:=rd
     obtain ⟨b,ws,rfl,q2,r2⟩:=re
     cases rx; cases ry
     by_cases hab:a = b
     ·subst hab
      rw [Rep.inj rd0 re0,jhp]
      exact SeqAt.EqAt.same _
     ·obtain ⟨its,w1,p1⟩:=I.tupE q
      obtain ⟨its2,w2,p2⟩:=I.tupE q2
      have k:=SeqAt.RcAt.tuples p1 p2 hu0 (items hn' r1 r2 w1 w2)
      have e0:((List.range (min its.toArray.size its2.toArray.size)).all (jep ds es) && its.toArray.size == its2.toArray.size) = eqP (.tup ds) (.tup es):=by
       have l1:=w1.length
       have l2:=w2.length
       have l3:=r1.len
       have l4:=r2.len
       rw [eqP,List.size_toArray,List.size_toArray]
       by_cases hl:ds.length = es.length
       ·rw [jcb hl,← l1,← l2,l3,l4,hl,Nat.min_self]
        simp
       ·rw [jdh hl]
        have:(its.length == its2.length) = false:=by
         rw [beq_eq_false_iff_ne]; omega
        rw [this,Bool.and_false]
      rw [e0] at k
      exact .of_refs hab k
    ·rename_i ds es
     rw [Rep] at rd
     rw [Rep] at re
     obtain ⟨a,vs,rfl,q,r1⟩:=rd
     obtain ⟨b,ws,rfl,q2,r2⟩:=re
     cases rx; cases ry
     obtain ⟨its,w1,p1⟩:=I.tupE q
     obtain ⟨its2,w2,p2⟩:=I.lstE q2
     have:eqP (.tup ds) (.lst es) = false:=by simp [eqP]
     rw [this]
     exact SeqAt.EqAt.tuple_list p1 p2 hu0
    ·rename_i ds es
     rw [Rep] at rd
     rw [Rep] at re
     obtain ⟨a,vs,rfl,q,r1⟩:=rd
     obtain ⟨b,ws,rfl,q2,r2⟩:=re
     cases rx; cases ry
     obtain ⟨its,w1,p1⟩:=I.lstE q
     obtain ⟨its2,w2,p2⟩:=I.tupE q2
     have:eqP (.lst ds) (.tup es) = false:=by simp [eqP]
     rw [this]
     exact SeqAt.EqAt.list_tuple p1 p2 hu0
    ·rename_i ds es
     have hn':jb6 ds ≤ n:=by rw [depP] at hn; omega
     have rd0:=rd
     have re0:=re
     rw [Rep] at rd
     rw [Rep] at re
     obtain ⟨a,vs,rfl,q,r1⟩:=rd
     obtain ⟨b,ws,rfl,q2,r2⟩:=re
     cases rx; cases ry
     by_cases hab:a = b
     ·subst hab
      rw [Rep.inj rd0 re0,jhp]
      exact SeqAt.EqAt.same _
     ·obtain ⟨its,w1,p1⟩:=I.lstE q
      obtain ⟨its2,w2,p2⟩:=I.lstE q2
      have l1:=w1.length
      have l2:=w2.length
      have l3:=r1.len
      have l4:=r2.len
      refine .of_refs hab ?_
      rw [eqP]
      by_cases hl:ds.length = es.length
      ·rw [jcb hl]
       have k:=SeqAt.RcAt.lists p1 p2 (by rw [List.size_toArray,List.size_toArray]; omega) hu0 (items hn' r1 r2 w1 w2)
       rw [List.size_toArray,← l1,l3] at k
       exact k
      ·rw [jdh hl]
       exact SeqAt.RcAt.lists_lengths p1 p2 (by rw [List.size_toArray,List.size_toArray]; simp; omega) hu0
end
end L2
namespace L2
open PySem PySem.Spec PyProof.Rows
section
variable {prog:Program} {w:World} {A:Around} {R:Result→Shared→Prop} {I:Addr} {fp wr:List Addr} {n:Nat} {P:Nat→Value→Prop} {St:Nat→Heap→Prop}
def Best (val:Nat→Int) (n:Nat) (m:Int):Prop:=(∃ i,i < n∧m = val i)∧∀ i,i < n→val i ≤ m
theorem Best.up {val:Nat→Int} {j:Nat} {m:Int} (h:Best val j m) (hb:val j > m):Best val (j + 1) (val j) :=
 ⟨⟨j,Nat.lt_succ_self _,rfl⟩,fun i hi=>by
  rcases Nat.lt_succ_iff_lt_or_eq.mp hi with z | z
  ·have:=h.2 i z; omega
  ·rw [z]; exact Int.le_refl _⟩
theorem Best.keep {val:Nat→Int} {j:Nat} {m:Int} (h:Best val j m) (hb:¬ val j > m):Best val (j + 1) m :=
 ⟨let ⟨i,hi,e⟩:=h.1; ⟨i,Nat.lt_succ_of_lt hi,e⟩,fun i hi=>by
  rcases Nat.lt_succ_iff_lt_or_eq.mp hi with z | z
  ·exact h.2 i z
  ·rw [z]; omega⟩
theorem jf7:(toString "max" ++ toString ".loop":String) = "max.loop":=by decide
theorem jjv (W:Walks prog w A.in1 I fp wr n P St) (val:Nat→Int) (hval:∀ i v,P i v→∃ t:Tok,v = Value.int (val i) t) (kw:List (Str × Value)) (S:Addr) (hSf:S ∉ fp) :
  ∀ (k j:Nat) (s:Shared) (m:Int) (t:Tok) (c:Nat),n - j = k→j ≤ n→St j s.heap→Best val j m →
  s.heap.get? S = some { cls:=.type "list",dict:=none,data:=.seq #[.int m t,.int m t] c,slots:=#[] } →
  (∀ m' t' h' tk,Best val n m'→(∀ b o,b ∉ wr→b ≠ S→s.heap.get? b = some o→h'.get? b = some o)→R (.ok (.ret (.int m' t'))) { s with heap:=h',toks:=tk }) →
  codeAny (model prog w) A (.builtin "max.loop" ⟨[.ref I,.none,.ref S],kw⟩) R s:=by
 have hSw:S ∉ wr:=fun z=>hSf (W.sub _ z)
 intro k
 induction k with
 | zero =>
  intro j s m t c hk hj hst hb hS hR
  have hin:j = n:=by omega
  subst hin
  refine codeAny_builtin PySem.F.entry_max_loop ?_
  rw [Around.under_plainId PySem.F.plain_max_loop _]
  show wpAny _ A.in1 (seqItems? (.ref S) >>= _) _ _ s
  refine wpAny_bind (wpAny_seqItems hS rfl ?_)
  show wpAny _ A.in1 (tryCatch (pyNext (.ref I)) _ >>= _) _ _ s
  refine wpAny_bind (wpAny_tryCatch (W.done s _ _ hst fun h' tk kp=>?_))
  have hS':=kp S _ hSw hS
  show wpAny _ A.in1 (updateSeq S (fun _=>#[]) >>= _) _ _ _
  refine wpAny_bind ?_
  refine wpAny_updateSeq hS' rfl (wpAny_bind (wpAny_letGo (wpAny_pure ?_)))
  exact hR m t _ tk hb fun b o hbw hbS e=>(Heap.get?_update_other _ _ (Ne.symm hbS)).trans (kp b o hbw e)
 | succ k ih =>
  intro j s m t c hk hj hst hb hS hR
  have hlt:j < n:=by omega
  refine codeAny_builtin PySem.F.entry_max_loop ?_
  rw [Around.under_plainId PySem.F.plain_max_loop _]
  show wpAny _ A.in1 (seqItems? (.ref S) >>= _) _ _ s
  refine wpAny_bind (wpAny_seqItems hS rfl ?_)
  show wpAny _ A.in1 (tryCatch (pyNext (.ref I)) _ >>= _) _ _ s
  refine wpAny_bind (wpAny_tryCatch (W.item j s _ _ hlt hst fun v h' tk hP hst' kp=>?_))
  obtain ⟨t',rfl⟩:=hval j v hP
  have hS':=kp S _ hSw hS
  show wpAny _ A.in1 (tryCatch (holding [.int (val j) t',.int (val j) t'] (richCompare .Gt (.int (val j) t') (.int m t) >>= _)) _ >>= _) _ _ _
  refine wpAny_bind (wpAny_tryCatch (wpAny_holding (wpAny_bind (gt_int ?_))))
  refine wpAny_bind (wpAny_holding (wpAny_truthy_bool ?_))
  refine wpAny_bind (wpAny_letGo (wpAny_pure ?_))
  by_cases hc:val j > m
  ·rw [decide_eq_true (show m < val j from hc)]
   simp only [if_true]
   refine wpAny_bind ?_
   refine wpAny_updateSeq hS' rfl (wpAny_bind (wpAny_letGo ?_))
   rw [jf7]
   refine wpAny_pure ⟨plainId_quiet PySem.F.plain_max_loop _,ih (j + 1) _ (val j) t' _ (by omega) hlt (W.frame _ _ _ hst' fun b hbf o e=>?_) (hb.up hc) (Heap.get?_update_self _ hS' rfl) fun m' u h'' tk'' hB k''=>?_⟩
   ·exact (Heap.get?_update_other _ _ (fun z:S = b=>hSf (by rw [z]; exact hbf))).trans e
   ·exact hR m' u h'' tk'' hB fun b o hbw hbS e=>k'' b o hbw hbS ((Heap.get?_update_other _ _ (Ne.symm hbS)).trans (kp b o hbw e))
  ·rw [decide_eq_false (show ¬ m < val j from hc)]
   simp only [Bool.false_eq_true,if_false]
   refine wpAny_bind (wpAny_letGo ?_)
   rw [jf7]
   refine wpAny_pure ⟨plainId_quiet PySem.F.plain_max_loop _,ih (j + 1) _ m t c (by omega) hlt hst' (hb.keep hc) hS' fun m' u h'' tk'' hB k''=>?_⟩
   exact hR m' u h'' tk'' hB fun b o hbw hbS e=>k'' b o hbw hbS (kp b o hbw e)
end
section
variable {X:Cx}
theorem jez (a d:Value):argsOk "max" ⟨[a],[(Str.ofString "default",d)]⟩:=by unfold argsOk; kernel_rfl
def rMaxD:List V→List V→Hp→VK→Prop:=fun vs zs H Q=>∃ (p:Addr) (ns:List Int) (d:Int),vs = [.ref p]∧zs = [.int d]∧H p = some (.lst (ns.map V.int)) ∧
 ∀ m,(ns = []→m = d)→(ns ≠ []→m ∈ ns)→(∀ x ∈ ns,x ≤ m)→Q (.int m) H
theorem jo6 (hc:X.calm = true):∀ (pins:List (Addr × Obj)) (s:Shared) (σ:St) (H:Hp) (xs zs:List V) (us ws:List Value) (Q:VK),Inv X pins σ H s→Vals xs us→Vals zs ws→rMaxD xs zs H Q →
  wpAny (model X.prog X.w) X.A (call (.builtin "max") us ([Str.ofString "default"].zip ws)) (EP X pins σ Q) X.xe s:=by
 intro pins s σ H xs zs us ws Q I r rz h
 obtain ⟨p,ns,d,rfl,rfl,e,q⟩:=h
 obtain ⟨u,rfl,rx⟩:=jgw r
 cases rx
 obtain ⟨dv,rfl,td,rfl⟩:=jgw rz
 obtain ⟨z,its,c,r',hlen,e'⟩:=I.lstM e
 have hI:=jc3 r'
 have plt:p < s.heap.objs.size:=Heap.lt_size e'
 have hL:s.heap.IsList p its.toArray:=⟨_,e',rfl,_,rfl⟩
 refine kmk_tree PySem.F.kind_max PySem.F.plain_max PySem.F.entry_max (jez _ _) ?_
 show wpAny _ X.A.in1 (Builtin.Builtins.bindParams "max" ["key","default"] 0 ⟨[],[(Str.ofString "default",.int d td)]⟩ >>= _) _ _ s
 refine wpAny_bind (wpAny_of_eq (show Builtin.Builtins.bindParams "max" ["key","default"] 0 ⟨[],[(Str.ofString "default",.int d td)]⟩ = pure [none,some (.int d td)] from rfl) ?_)
 refine wpAny_bind (wpAny_pure ?_)
 refine wpAny_bind (wpAny_pyIter_list hL ?_)
 refine wpAny_bind (wpAny_newList ?_ (Nat.zero_le _))
 rw [jf7]
 have hS:(s.heap.push { cls:=.type "list_iterator",data:=.fields #[.ref p,.int 0 0] }).objs.size = s.heap.objs.size + 1:=size_push' ..
 have W:=Walks.list (prog:=X.prog) (w:=X.w) (A:=X.A.in1) (show X.A.in1.handled = none from I.ok.hd hc) s.heap.objs.size p (Nat.ne_of_lt plt) its.toArray
 have hsz:its.toArray.size = ns.length:=by rw [List.size_toArray,← hlen,List.length_map]
 have hval:∀ (i:Nat) (v:Value),its.toArray[i]? = some v→∃ t:Tok,v = Value.int (ns[i]?.getD 0) t:=fun i v hv=>by
  have hv':its[i]? = some v:=by simpa using hv
  have hi:i < ns.length:=by
   have:=(List.getElem?_eq_some_iff.mp hv').1
   rw [List.length_map] at hlen
   omega
  obtain ⟨u,e1,t,e2⟩:=r'.get (i:=i) (x:=.int ns[i]) (by rw [List.getElem?_map,List.getElem?_eq_getElem hi]; rfl)
  rw [hv'] at e1
  cases e1
  exact ⟨t,by rw [e2,List.getElem?_eq_getElem hi]; rfl⟩
 have kp0:∀ (h':Heap) (tk:Nat),(∀ b o,b ∉ [s.heap.objs.size]→b ≠ (s.heap.push { cls:=.type "list_iterator",data:=.fields #[.ref p,.int 0 0] }).objs.size→((s.heap.push { cls:=.type "list_iterator",data:=.fields #[.ref p,.int 0 0] }).push { cls:=.type "list",data:=.seq #[] }).get? b = some o→h'.get? b = some o) →
   Inv X pins σ H { s with heap:=h',toks:=tk }:=fun h' tk k=>I.kept fun b o qq=>k b o (by
    intro z
    have:b = s.heap.objs.size:=by simpa using z
    exact absurd (Heap.lt_size qq) (by rw [this]; exact Nat.lt_irrefl _)) (by rw [hS]; exact Nat.ne_of_lt (Nat.lt_succ_of_lt (Heap.lt_size qq))) (Heap.get?_push_of_some _ (Heap.get?_push_of_some _ qq))
 have hst0:(fun i (h:Heap)=>h.IsListIter s.heap.objs.size p i∧h.IsList p its.toArray) 0 ((s.heap.push { cls:=.type "list_iterator",data:=.fields #[.ref p,.int 0 0] }).push { cls:=.type "list",data:=.seq #[] }) :=
  ⟨⟨_,Heap.get?_push_of_some _ (Heap.get?_push_size _ rfl),rfl,rfl⟩,(hL.push _).push _⟩
 have hSg:((s.heap.push { cls:=.type "list_iterator",data:=.fields #[.ref p,.int 0 0] }).push { cls:=.type "list",data:=.seq #[] }).get? (s.heap.push { cls:=.type "list_iterator",data:=.fields #[.ref p,.int 0 0] }).objs.size = some { cls:=.type "list",dict:=none,data:=.seq #[] 0,slots:=#[] }:=Heap.get?_push_size _ rfl
 have hSf:(s.heap.push { cls:=.type "list_iterator",data:=.fields #[.ref p,.int 0 0] }).objs.size ∉ [s.heap.objs.size,p]:=by
  rw [hS]
  intro z
  rcases List.mem_cons.mp z with z | z
  ·exact absurd z (Nat.succ_ne_self _)
  ·have z:=List.mem_singleton.mp z
   rw [← z] at plt
   exact Nat.lt_irrefl _ (Nat.lt_of_succ_lt plt)
 refine wpAny_pure ⟨plainId_quiet PySem.F.plain_max_loop _,?_⟩
 refine codeAny_builtin PySem.F.entry_max_loop ?_
 rw [Around.under_plainId PySem.F.plain_max_loop _]
 show wpAny _ X.A.in1 (seqItems? (.ref _) >>= _) _ _ _
 refine wpAny_bind (wpAny_seqItems hSg rfl ?_)
 show wpAny _ X.A.in1 (tryCatch (pyNext (.ref s.heap.objs.size)) _ >>= _) _ _ _
 cases hn:ns with
 | nil =>
  have h0:its.toArray.size = 0:=by rw [hsz,hn]; rfl
  refine wpAny_bind (wpAny_tryCatch (W.done _ _ _ (by rw [h0]; exact hst0) fun h' tk kp=>?_))
  refine wpAny_bind (wpAny_rule (wpAny_pure ?_))
  exact ⟨.int d,H,kp0 h' tk fun b o h1 _ h3=>kp b o h1 h3,⟨td,rfl⟩,q d (fun _=>rfl) (fun z=>absurd hn z) (by rw [hn]; intro x hx; cases hx)⟩
 | cons n0 rest =>
  have hpos:0 < its.toArray.size:=by rw [hsz,hn]; simp
  refine wpAny_bind (wpAny_tryCatch (W.item 0 _ _ _ hpos hst0 fun v h' tk hP hst' kp=>?_))
  obtain ⟨t',rfl⟩:=hval 0 v hP
  have hS':=kp _ _ (fun z=>hSf (List.mem_cons.mpr (.inl (List.mem_singleton.mp z)))) hSg
  show wpAny _ X.A.in1 (updateSeq _ (fun _=>#[_,_]) >>= _) _ _ _
  refine wpAny_bind ?_
  refine wpAny_updateSeq hS' rfl ?_
  rw [jf7]
  refine wpAny_pure ⟨plainId_quiet PySem.F.plain_max_loop _,jjv W (fun i=>ns[i]?.getD 0) hval _ _ hSf _ 1 _ _ t' _ rfl hpos (W.frame _ _ _ hst' fun b hbf o e=>?_) ⟨⟨0,Nat.one_pos,rfl⟩,fun i hi=>by
   have:i = 0:=by omega
   subst this; exact Int.le_refl _⟩ (Heap.get?_update_self _ hS' rfl) fun m u h'' tk'' hB k''=>?_⟩
  ·exact (Heap.get?_update_other _ _ (fun z=>hSf (by rw [z]; exact hbf))).trans e
  ·refine ⟨.int m,H,kp0 h'' tk'' fun b o h1 h2 h3=>k'' b o h1 h2 ((Heap.get?_update_other _ _ (Ne.symm h2)).trans (kp b o h1 h3)),⟨u,rfl⟩,q m (fun z=>by rw [hn] at z; cases z) (fun _=>?_) fun x hx=>?_⟩
   ·obtain ⟨i,hi,e1⟩:=hB.1
    rw [hsz] at hi
    rw [e1]
    show ns[i]?.getD 0 ∈ ns
    rw [List.getElem?_eq_getElem hi]
    exact List.getElem_mem hi
   ·obtain ⟨i,hi,e1⟩:=List.mem_iff_getElem.mp hx
    have:ns[i]?.getD 0 ≤ m:=hB.2 i (by rw [hsz]; exact hi)
    rw [List.getElem?_eq_getElem hi] at this
    rw [← e1]
    exact this
def tCBK (r:List V→List V→Hp→VK→Prop) (t tk:TA):TE:=fun σ H Q=>t σ H fun vs H1=>tk σ H1 fun zs H2=>r vs zs H2 Q
theorem jii {x k:Str} {p kp pos:Pos} {e g:Expr} {t tk:TA} {id:String} {r:List V→List V→Hp→VK→Prop}
  (hcall:∀ (pins:List (Addr × Obj)) (s:Shared) (σ:St) (H:Hp) (xs zs:List V) (us ws:List Value) (Q:VK),Inv X pins σ H s→Vals xs us→Vals zs ws→r xs zs H Q →
   wpAny (model X.prog X.w) X.A (call (.builtin id) us ([k].zip ws)) (EP X pins σ Q) X.xe s)
  (hg:Gl X x) (hm:X.mg x = none) (hv:bootBuiltins x = some (.builtin id)) (ha:PA X [e] t) (hk:PK X [⟨some k,g,kp⟩] tk) (hn:x ≠ "__name__":=by decide) (hdb:(x == ("__debug__":Str)) = false:=by decide)
  (he:backTo pos (starEach [e] X.env) = (false,eval e X.env) :: backTo pos (starEach [] X.env):=by rfl) (hpl:(backTo pos (starEach [e] X.env)).any (·.1) = false:=by rfl):PE X (.Call (.Name x p) [e] [⟨some k,g,kp⟩] pos) (tCBK r t tk):=by
 intro pins s σ H Q I h
 refine wpAny_Call_Name_kw (je5 I hg hm hv ?_ hn hdb)
 refine callWith_kw (thn (ha pos pins s σ H _ I h) fun us s1 ⟨vs,H1,I1,r1,q1⟩=>thn (hk pos pins s1 σ H1 _ I1 q1) fun ws s2 ⟨zs,H2,I2,r2,q2⟩=>?_) he hpl
 exact hcall pins s2 σ H2 vs zs us ws Q I2 r1 r2 q2
end
end L2
namespace L2
open PySem PySem.Spec PyProof.Rows
section
variable {X:Cx} {pins:List (Addr × Obj)} {σ:St} {H:Hp} {s:Shared}
theorem jhk (n:Nat) {A:Around} (I:Inv X pins σ H s) {ds es:List Dt} {vs ws:List V} {its its2:List Value} (hdp:jb6 ds ≤ n) (hu:A.units + n < cLine) (r1:Reps H ds vs) (r2:Reps H es ws) (w1:Vals vs its) (w2:Vals ws its2) :
  ∀ j (h1:j < its.toArray.size) (h2:j < its2.toArray.size),SeqAt.EqAt A s its.toArray[j] its2.toArray[j] (jep ds es j):=by
 intro j h1 h2
 rw [List.size_toArray] at h1 h2
 have l1:=w1.length
 have l2:=w2.length
 obtain ⟨u',e1,q1⟩:=w1.get (i:=j) (x:=vs[j]'(by omega)) (List.getElem?_eq_getElem _)
 obtain ⟨v',e2,q2⟩:=w2.get (i:=j) (x:=ws[j]'(by omega)) (List.getElem?_eq_getElem _)
 obtain ⟨d',f1,g1⟩:=r1.at (i:=j) (List.getElem?_eq_getElem (by omega))
 obtain ⟨e',f2,g2⟩:=r2.at (i:=j) (List.getElem?_eq_getElem (by omega))
 rw [List.getElem?_eq_getElem h1] at e1
 rw [List.getElem?_eq_getElem h2] at e2
 cases e1; cases e2
 have hj:jep ds es j = eqP d' e':=by unfold jep; rw [f1,f2]
 rw [hj]
 have:=jf9 f1
 exact jqf n I (by omega) hu g1 g2 q1 q2
theorem jgf {ds es:List Dt} {vs ws:List V} {its its2:List Value} (r1:Reps H ds vs) (r2:Reps H es ws) (w1:Vals vs its) (w2:Vals ws its2) :
  ((List.range (min its.toArray.size its2.toArray.size)).all (jep ds es) && its.toArray.size == its2.toArray.size) = eqPs ds es:=by
 have l1:=w1.length
 have l2:=w2.length
 have l3:=r1.len
 have l4:=r2.len
 rw [List.size_toArray,List.size_toArray]
 by_cases hl:ds.length = es.length
 ·rw [jcb hl,← l1,← l2,l3,l4,hl,Nat.min_self]
  simp
 ·rw [jdh hl]
  have:(its.length == its2.length) = false:=by
   rw [beq_eq_false_iff_ne]; omega
  rw [this,Bool.and_false]
def rEqD (neg:Bool):R2:=fun x y H Q=>∃ d e,Rep H d x∧Rep H e y∧depP d ≤ 20∧((∃ ds es,d = .lst ds∧e = .lst es) ∨ ∃ ds es,d = .tup ds∧e = .tup es)∧Q (.bl (if neg = true then !eqP d e else eqP d e)) H
theorem jq5 (hu:X.A.units + 64 < cLine):OpR X (compareOp .Eq) (rEqD false):=by
 intro pins s σ H x y v u Q I rx ry h
 obtain ⟨d,e,rd,re,hd,hk,q⟩:=h
 have hu0:X.A.units < cLine:=by omega
 rcases hk with ⟨ds,es,rfl,rfl⟩ | ⟨ds,es,rfl,rfl⟩
 ·have hn':jb6 ds ≤ 20:=by rw [depP] at hd; omega
  rw [Rep] at rd re
  obtain ⟨a,vs,rfl,q1,r1⟩:=rd
  obtain ⟨b,ws,rfl,q2,r2⟩:=re
  cases rx; cases ry
  obtain ⟨its,w1,p1⟩:=I.lstE q1
  obtain ⟨its2,w2,p2⟩:=I.lstE q2
  have l1:=w1.length
  have l2:=w2.length
  have l3:=r1.len
  have l4:=r2.len
  by_cases hl:ds.length = es.length
  ·refine SeqAt.RcAt.lists (e:=jep ds es) p1 p2 (by rw [List.size_toArray,List.size_toArray]; omega) hu0 (jhk 20 I hn' (by show X.A.units + 1 + 20 < cLine; omega) r1 r2 w1 w2) _ _ _ _ ⟨.bl _,H,I,rfl,?_⟩
   rw [List.size_toArray,← l1,l3,← jcb hl]
   rw [eqP] at q
   exact q
  ·refine SeqAt.RcAt.lists_lengths p1 p2 (by rw [List.size_toArray,List.size_toArray]; simp; omega) hu0 _ _ _ _ ⟨.bl _,H,I,rfl,?_⟩
   rw [eqP,jdh hl] at q
   exact q
 ·have hn':jb6 ds ≤ 20:=by rw [depP] at hd; omega
  rw [Rep] at rd re
  obtain ⟨a,vs,rfl,q1,r1⟩:=rd
  obtain ⟨b,ws,rfl,q2,r2⟩:=re
  cases rx; cases ry
  obtain ⟨its,w1,p1⟩:=I.tupE q1
  obtain ⟨its2,w2,p2⟩:=I.tupE q2
  refine SeqAt.RcAt.tuples (e:=jep ds es) p1 p2 hu0 (jhk 20 I hn' (by show X.A.units + 1 + 20 < cLine; omega) r1 r2 w1 w2) _ _ _ _ ⟨.bl _,H,I,rfl,?_⟩
  rw [jgf r1 r2 w1 w2]
  rw [eqP] at q
  exact q
theorem jkp (hu:X.A.units + 64 < cLine):OpR X (compareOp .NotEq) (rEqD true):=by
 intro pins s σ H x y v u Q I rx ry h
 obtain ⟨d,e,rd,re,hd,hk,q⟩:=h
 have hu0:X.A.units < cLine:=by omega
 rcases hk with ⟨ds,es,rfl,rfl⟩ | ⟨ds,es,rfl,rfl⟩
 ·have hn':jb6 ds ≤ 20:=by rw [depP] at hd; omega
  rw [Rep] at rd re
  obtain ⟨a,vs,rfl,q1,r1⟩:=rd
  obtain ⟨b,ws,rfl,q2,r2⟩:=re
  cases rx; cases ry
  obtain ⟨its,w1,p1⟩:=I.lstE q1
  obtain ⟨its2,w2,p2⟩:=I.lstE q2
  have l1:=w1.length
  have l2:=w2.length
  have l3:=r1.len
  have l4:=r2.len
  by_cases hl:ds.length = es.length
  ·refine SeqAt.RcNeAt.lists (e:=jep ds es) p1 p2 (by rw [List.size_toArray,List.size_toArray]; omega) hu0 (jhk 20 I hn' (by show X.A.units + 1 + 20 < cLine; omega) r1 r2 w1 w2) _ _ _ _ ⟨.bl _,H,I,rfl,?_⟩
   rw [List.size_toArray,← l1,l3,← jcb hl]
   rw [eqP] at q
   exact q
  ·refine SeqAt.RcNeAt.lists_lengths p1 p2 (by rw [List.size_toArray,List.size_toArray]; simp; omega) hu0 _ _ _ _ ⟨.bl _,H,I,rfl,?_⟩
   rw [eqP,jdh hl] at q
   exact q
 ·have hn':jb6 ds ≤ 20:=by rw [depP] at hd; omega
  rw [Rep] at rd re
  obtain ⟨a,vs,rfl,q1,r1⟩:=rd
  obtain ⟨b,ws,rfl,q2,r2⟩:=re
  cases rx; cases ry
  obtain ⟨its,w1,p1⟩:=I.tupE q1
  obtain ⟨its2,w2,p2⟩:=I.tupE q2
  refine SeqAt.RcNeAt.tuples (e:=jep ds es) p1 p2 hu0 (jhk 20 I hn' (by show X.A.units + 1 + 20 < cLine; omega) r1 r2 w1 w2) _ _ _ _ ⟨.bl _,H,I,rfl,?_⟩
  rw [jgf r1 r2 w1 w2]
  rw [eqP] at q
  exact q
theorem RelV.inj' {x y:V} {u:Value} (h1:RelV x u) (h2:RelV y u):x = y:=Option.some.inj (h1.abs.symm.trans h2.abs)
open Classical in
def eqW (H:Hp) (d:Dt) (u:Value):Bool:=if h:∃ c,∃ x,RelV x u∧Rep H c x then eqP h.choose d else false
theorem jqc {H:Hp} {d c:Dt} {x:V} {u:Value} (r:RelV x u) (p:Rep H c x):eqW H d u = eqP c d:=by
 unfold eqW
 have h:∃ c,∃ x,RelV x u∧Rep H c x:=⟨c,x,r,p⟩
 rw [dif_pos h]
 obtain ⟨y,r2,p2⟩:=h.choose_spec
 have:=RelV.inj' r r2
 subst this
 rw [Rep.inj p2 p]
theorem joc {H:Hp} {d:Dt}:∀ {cs:List Dt} {xs:List V} {us:List Value},Reps H cs xs→Vals xs us→us.any (eqW H d) = cs.any fun c=>eqP c d
 | [],_,_,h,r=>by
  rw [Reps] at h; subst h
  cases r
  rfl
 | c :: cs,_,_,h,r=>by
  rw [Reps] at h
  obtain ⟨v,t,rfl,h1,h2⟩:=h
  cases r with
  | cons r1 r2=>rw [List.any_cons,List.any_cons,jqc r1 h1,joc h2 r2]
def rInD (neg:Bool):R2:=fun x y H Q=>∃ (d:Dt) (p:Addr) (xs:List V) (cs:List Dt),Rep H d x∧y = .ref p∧H p = some (.lst xs)∧Reps H cs xs∧jb6 cs ≤ 20∧Q (.bl (if neg = true then !cs.any (fun c=>eqP c d) else cs.any fun c=>eqP c d)) H
theorem jp9 (hu:X.A.units + 64 < cLine) (I:Inv X pins σ H s) {d:Dt} {x:V} {v:Value} {cs:List Dt} {xs:List V} {its:List Value} (rd:Rep H d x) (rx:RelV x v) (rc:Reps H cs xs) (r:Vals xs its) (hd:jb6 cs ≤ 20) :
  ∀ y,y ∈ its.toArray→SeqAt.EqAt X.A.in1 s y v (eqW H d y):=by
 intro y hy
 have hy':y ∈ its:=by simpa using hy
 obtain ⟨j,hj,e⟩:=List.mem_iff_getElem.mp hy'
 have l1:=r.length
 obtain ⟨u',e1,q1⟩:=r.get (i:=j) (x:=xs[j]'(by omega)) (List.getElem?_eq_getElem _)
 obtain ⟨c,f1,g1⟩:=rc.at (i:=j) (List.getElem?_eq_getElem (by omega))
 rw [List.getElem?_eq_getElem hj] at e1
 cases e1
 rw [← e,jqc q1 g1]
 have:=jf9 f1
 exact jqf 20 I (by omega) (by show X.A.units + 1 + 20 < cLine; omega) g1 rd q1 rx
theorem jmw (hu:X.A.units + 64 < cLine):OpR X (compareOp .NotIn) (rInD true):=by
 intro pins s σ H x y v u Q I rx ry h
 obtain ⟨d,p,xs,cs,rd,rfl,e,rc,hd,q⟩:=h
 cases ry
 obtain ⟨its,r,pl⟩:=I.lstE e
 refine SeqAt.notIn_listAt (eqW H d) pl (jp9 hu I rd rx rc r hd) ⟨.bl _,H,I,rfl,?_⟩
 rw [show its.toArray.any (eqW H d) = its.any (eqW H d) by simp,joc rc r]
 exact q
end
end L2
namespace L2
open PySem PySem.Spec PyProof.Rows
section
variable {X:Cx} {o i e f value:Expr} {td ty tv tx:TE} {pos pos' apos cpos:Pos}
def jmi (td ty tv:TE):TS:=fun D σ H=>tv σ H fun v H1=>td σ H1 fun x H2=>ty σ H2 fun y H3=>match x,y with
 | .ref a,.int n=>match H3 a with
  | some (.dK kvs)=>kvs.length < sizeLine∧D.nx σ (upd H3 a (.dK (putK kvs (Sum.inl n:Key) v)))
  | _=>False
 | _,_=>False
theorem dput_r {x y:V} {H3:Hp} {R:List (Key × V)→Addr→Int→Prop} (h:match x,y with
 | .ref a,.int n=>match H3 a with
  | some (.dK kvs)=>R kvs a n
  | _=>False
 | _,_=>False):∃ a n kvs,x = .ref a∧y = .int n∧H3 a = some (.dK kvs)∧R kvs a n:=by
 split at h
 ·split at h
  ·rename_i e; exact ⟨_,_,_,rfl,rfl,e,h⟩
  ·exact h.elim
 ·exact h.elim
theorem jr8 {y:V} {a:Addr} {H3:Hp} {R:List (Key × V)→Int→Prop} (h:match y with
 | .int n=>match H3 a with
  | some (.dK kvs)=>R kvs n
  | _=>False
 | _=>False):∃ n kvs,y = .int n∧H3 a = some (.dK kvs)∧R kvs n:=by
 split at h
 ·split at h
  ·rename_i e; exact ⟨_,_,rfl,e,h⟩
  ·exact h.elim
 ·exact h.elim
theorem jgl (hu:X.A.units + 1 < cLine) (ho:PE X o td) (hi:PE X i ty) (hv:PE X value tv) (hs:swapsWith value (some (.Subscript o i pos')) pos.line X.env = pure false:=by rfl) :
  PS X (.Assign [.Subscript o i pos'] value pos) (jmi td ty tv):=by
 intro pins s σ H D I h
 refine wpAny_Assign_Subscript (thn (hv pins s σ H _ I h) fun r s1 ⟨v,H1,I1,rv,q1⟩=>thn (ho pins s1 σ H1 _ I1 q1) fun u s2 ⟨x,H2,I2,rx,q2⟩=>thn (hi pins s2 σ H2 _ I2 q2) fun iv s3 ⟨y,H3,I3,ry,q3⟩=>?_) hs
 obtain ⟨a,n,kvs,rfl,rfl,ea,q4,q5⟩:=dput_r (R:=fun kvs a n=>kvs.length < sizeLine∧D.nx σ (upd H3 a (.dK (putK kvs (Sum.inl n:Key) v)))) q3
 obtain rfl:u = Value.ref a:=rx
 exact jny hu I3 (DPut.k (k:=Sum.inl n) ea q4) ry rv fun s4 I4=>⟨σ,_,I4,q5⟩
def jnq (td ty tx:TE):TE:=fun σ H Q=>td σ H fun x H1=>match x with
 | .ref a=>(∃ kvs,H1 a = some (.dK kvs))∧ty σ H1 fun y H2=>tx σ H2 fun z H3=>match y with
  | .int n=>match H3 a with
   | some (.dK kvs)=>Q ((valV kvs (Sum.inl n:Key)).getD z) H3
   | _=>False
  | _=>False
 | _=>False
theorem jji (hu:X.A.units + 1 < cLine) (ho:PE X o td) (he:PE X e ty) (hf:PE X f tx) (m:M2 X o "get" apos e f cpos:=by exact ⟨rfl,rfl,rfl,rfl⟩):PE X (.Call (.Attribute o "get" apos) [e,f] [] cpos) (jnq td ty tx):=by
  intro pins s σ H Q I h
  refine wpAny_Call_method m.base m.few m.line PySem.F.plainAttrs_dict PySem.F.slot_dict_get PySem.F.type_dict_get (thn (ho pins s σ H _ I h) fun u s1 ⟨x,H1,I1,rx,q1⟩=>?_)
  cases x <;> first
    | exact False.elim q1
    | (rename_i a
       dsimp only at q1
       obtain ⟨⟨kvs0,e0⟩,q1⟩:=q1
       obtain rfl:u = Value.ref a:=rx
       obtain ⟨t1,t2,_⟩:=jqa I1 (.inl ⟨kvs0,.inl e0⟩)
       refine ⟨t1,t2,?_⟩
       rw [m.trees]
       refine Calls.callWith_builtin rfl (Calls.evalArgs_plain (Calls.spliced_cons (thn (he pins s1 σ H1 _ I1 q1) fun iv s2 ⟨y,H2,I2,ry,q2⟩ =>
         Calls.spliced_cons (thn (hf pins s2 σ H2 _ I2 q2) fun fv s3 ⟨z,H3,I3,rz,q3⟩=>Calls.spliced_nil ?_))))
       obtain ⟨n,kvs,rfl,ea,q4⟩:=jr8 (R:=fun kvs n=>Q ((valV kvs (Sum.inl n:Key)).getD z) H3) q3
       exact d_get2 hu I3 (DGet.k (k:=Sum.inl n) ea) ry rz fun w' s4 I4 rw'=>⟨_,H3,I4,rw',q4⟩)
def fCat:R2:=fun x y H Q=>match x,y with
 | .ref l,.ref b=>match H l,H b with
  | some (.lst xs),some (.lst zs)=>xs.length + zs.length ≤ sizeLine∧∀ p,H p = none→Q (.ref p) (upd H p (.lst (xs ++ zs)))
  | _,_=>False
 | _,_=>False
theorem q_cat:OpR X (binaryOp .Add) fCat:=op_cat.imp fun x y H Q h=>by
 unfold fCat at h
 split at h
 ·split at h
  ·rename_i e1 e2; exact ⟨_,_,_,_,rfl,rfl,e1,e2,h.1,h.2⟩
  ·exact h.elim
 ·exact h.elim
def jqb:V→List V→Hp→VK→Prop:=fun x vs H Q=>match x,vs with
 | .ref l,[]=>match H l with
  | some (.lst _)=>Q .non (upd H l (.lst []))
  | _=>False
 | _,_=>False
def fBM0 (r:V→List V→Hp→VK→Prop) (to:TE):TE:=fun σ H Q=>to σ H fun x H1=>(∃ a xs,x = .ref a∧H1 a = some (.lst xs))∧r x [] H1 Q
def fSlT:V→Option Int→Option Int→Hp→VK→Prop:=fun x lo hi H Q=>match x with
 | .ref a=>match H a with
  | some (.tup xs)=>¬ (HT.sIx xs.length 0 lo = 0∧HT.sIx xs.length xs.length hi = xs.length)∧∀ p,H p = none→Q (.ref p) (upd H p (.tup (cutV xs lo hi)))
  | _=>False
 | _=>False
theorem jdz:SlR X fSlT:=jpt.imp fun x l u H Q h=>by
 unfold fSlT at h
 split at h
 ·split at h
  ·rename_i xs e; exact ⟨_,xs,rfl,SqT.of e,h.1,h.2⟩
  ·exact h.elim
 ·exact h.elim
def fInt1:List V→Hp→VK→Prop:=fun vs H Q=>match vs with
 | [.bl k]=>Q (.int (if k = true then 1 else 0)) H
 | [.int i]=>Q (.int i) H
 | _=>False
end
end L2
namespace L2
open PySem PySem.Spec PyProof.Rows
section
variable {prog:Program} {w:World} {A:Around} {E:Value→Shared→Prop}
theorem drawL {it l:Addr} {items:Array Value} (hne:l ≠ it):∀ (n i:Nat) (s:Shared) (Q:List Value→Shared→Prop),s.heap.IsListIter it l i→s.heap.IsList l items→i + n ≤ items.size →
  (∀ h',h'.IsListIter it l (i + n)→Heap.SameBut it s.heap h'→Q ((items.toList.drop i).take n) { s with heap:=h' })→wpAny (model prog w) A (draw (.ref it) n) Q E s
 | 0,i,s,Q,hit,_,_,hQ=>wpAny_pure (by simpa using hQ s.heap hit (Heap.SameBut.refl ..))
 | n + 1,i,s,Q,hit,hl,hle,hQ=>by
  have hlt:i < items.size:=by omega
  show wpAny _ _ (pyNext (.ref it) >>= _) Q E s
  refine wpAny_bind (wpAny_pyNext_list_item hit hl (x:=items[i]) (by simp [hlt]) fun h1 hit1 hs1=>?_)
  refine wpAny_bind (wpAny_holding (drawL hne n (i + 1) _ _ hit1 (hl.extBut hs1.extBut hne) (by omega) fun h2 hit2 hs2=>wpAny_pure ?_))
  have z:=hQ h2 (by rw [show i + (n + 1) = i + 1 + n by omega]; exact hit2) (hs1.trans hs2)
  have hd:items.toList.drop i = items[i] :: items.toList.drop (i + 1):=by simp [List.drop_eq_getElem_cons,hlt]
  rw [hd,List.take_succ_cons] at z
  exact z
theorem jqi {s:Shared} {l:Addr} {items:Array Value} {Q:List Value→Shared→Prop} (hh:A.handled = none) (hl:s.heap.IsList l items)
  (hQ:∀ h',Heap.ExtBut s.heap.objs.size s.heap h'→Q items.toList { s with heap:=h' }):wpAny (model prog w) A (unpackItems (.ref l) items.size none) Q E s:=by
 have hne:l ≠ s.heap.objs.size:=by obtain ⟨o,ho,_⟩:=hl; exact Nat.ne_of_lt (Heap.lt_size ho)
 unfold unpackItems
 refine wpAny_bind ?_
 unfold notIterableAtAll
 refine wpAny_bind (wpAny_specialOf hl.typeIs slot_list_iter.lookup ?_)
 refine wpAny_pure ?_
 simp only [Bool.false_eq_true,if_false]
 refine wpAny_bind (wpAny_holding (wpAny_pyIter_list hl ?_))
 refine wpAny_bind (wpAny_holding (drawL hne items.size 0 _ _ ⟨_,Heap.get?_push_size _ rfl,rfl,rfl⟩ (hl.push _) (by omega) fun h1 hit1 hs1=>?_))
 rw [show List.take items.size (List.drop 0 items.toList) = items.toList by rw [List.drop_zero]; exact List.take_of_length_le (by simp)]
 rw [if_neg (by simp)]
 refine wpAny_bind (wpAny_holding (wpAny_pyNext_list_end hh hit1 ((hl.push _).extBut hs1.extBut hne) (by simp) fun h2 he2=>?_))
 simp only [Option.isSome_none,Bool.false_eq_true,if_false]
 exact wpAny_pure (hQ h2 fun b o hb e=>he2 b o hb (hs1.extBut b o hb (Heap.get?_push_of_some _ e)))
end
section
variable {X:Cx} {es:List Expr} {pos:Pos}
def jpf (n:Nat) (t:TGs):TG:=fun v σ H Q=>match v with
 | .ref a=>match H a with
  | some (.lst xs)=>xs.length = n∧t xs σ H Q
  | _=>False
 | _=>False
theorem jml {k:Nat} {t:TGs} {n:Nat} (hc:X.calm = true) (h:PGs X es t) (hn:(assignEach es X.env).length = n:=by rfl) (hst:(assignEach es X.env).findIdx? (·.1) = none:=by rfl):PG X (.Tuple es k pos) (jpf n t):=by
 intro pins s σ H v u Q I r hw
 have hw':∃ a xs,v = .ref a∧H a = some (.lst xs)∧xs.length = n∧t xs σ H Q:=by
  unfold jpf at hw
  split at hw
  ·split at hw
   ·rename_i e; exact ⟨_,_,rfl,e,hw.1,hw.2⟩
   ·exact hw.elim
  ·exact hw.elim
 obtain ⟨a,xs,rfl,e,hl,hw⟩:=hw'
 cases r
 obtain ⟨its,rv,ht⟩:=I.lstE e
 rw [assign_Tuple]
 refine wpAny_bind (wpAny_standAt ?_)
 unfold unpack
 have hsz:(assignEach es X.env).length = its.toArray.size:=by rw [hn,← hl,List.size_toArray]; exact rv.length
 rw [hsz,hst]
 refine wpAny_bind (wpAny_holding (jqi (I.ok.hd hc) ht fun h' hx=>?_))
 have I1:Inv X pins σ H { s with heap:=h' }:=I.kept (t':=s.toks) fun b o q=>hx b o (Nat.ne_of_lt (Heap.lt_size q)) q
 exact h pins _ σ H xs _ Q I1 (by simpa using rv) hw
end
end L2
namespace L2
open PySem PySem.Spec PyProof.Rows
def TrD (h B:Heap) (x:Addr) (cl:Value) (dd:Option Addr) (fl:Value):Prop :=
 ∃ ox ws T oT ts,h.get? x = some ox∧ox.cls = cl∧ox.dict = dd∧ox.data = .fields ws∧ws[1]? = some (.ref T)∧B.get? T = none∧T ≠ x∧h.get? T = some oT∧oT.data = .fields ts∧ts[3]? = some fl∧(dd ≠ none→ws[2]? = some .none)
structure FlyD (B:Heap) (l:List Env) (x:Addr) (cl:Value) (dd:Option Addr) (fl:Value) (h:Heap):Prop where
 stays:B.StaysIn h
 new:B.get? x = none
 funs:h.FunFrames B l
 tr:TrD h B x cl dd fl
theorem FlyD.there {B:Heap} {l:List Env} {x:Addr} {cl:Value} {dd:Option Addr} {fl:Value} {h:Heap} (f:FlyD B l x cl dd fl h):∃ ox ws,h.get? x = some ox∧ox.cls = cl∧ox.dict = dd∧ox.data = .fields ws:=by
 obtain ⟨ox,ws,_,_,_,h1,h2,h3,h4,_⟩:=f.tr
 exact ⟨ox,ws,h1,h2,h3,h4⟩
section
variable {M:Model} {A:Around} {E:Value→Shared→Prop} {s:Shared} {B:Heap} {env:Env} {l:List Env} {L x:Addr} {cl:Value} {dd:Option Addr} {Q:Unit→Shared→Prop}
end
end L2
namespace L2
open PySem PySem.Spec PyProof.Rows
structure Df (X:Cx):Prop where
 stk:X.stack = X.env :: X.outer
 fr:X.env.frame = some X.env.locals
 ex:X.ex = []
 fn:∀ x,X.fn x = true
structure Cov (X:Cx) (B:Heap) (H:Hp) (h:Heap):Prop where
 tr:∀ b o,H b = some o→∃ q,h.get? b = some q∧B.get? b = some q
 old:∀ b o,X.s₀.heap.get? b = some o→b ∉ frs X.stack→∃ q,h.get? b = some q∧B.get? b = some q
 pin:∀ p ∈ X.pn,B.get? p.1 = some p.2
 cel:∀ x c,X.env.cells.lookup x = some c→∃ q,h.get? c = some q∧B.get? c = some q
section
variable {X:Cx} {σ:St} {H:Hp} {s:Shared} {B h':Heap}
end
inductive Md (B:Heap) (l:List Env) (L x:Addr) (cl:Value) (dd:Option Addr) (h:Heap):Prop where
 | new {ox:Obj} {ws:Array Value}:h.get? x = some ox→ox.cls = cl→ox.dict = dd→ox.data = .fields ws→ws[1]? = some .none→(dd ≠ none→ws[2]? = some .none)→B.StaysIn h→B.get? x = none→h.FunFrames B l→Md B l L x cl dd h
 | fly:FlyD B l x cl dd .none h→Md B l L x cl dd h
 | held:FlyD B l x cl dd (rawInt L) h→Md B l L x cl dd h
theorem Md.stays {B:Heap} {l:List Env} {L x:Addr} {cl:Value} {dd:Option Addr} {h:Heap} (m:Md B l L x cl dd h):B.StaysIn h:=by
 cases m with
 | new _ _ _ _ _ _ s _ _=>exact s
 | fly f=>exact f.stays
 | held f=>exact f.stays
def XT (X:Cx) (EX:St→XK):Value→Shared→Prop:=fun e s'=>∃ (x:Addr) (cl:Value) (dd:Option Addr) (σ:St) (H:Hp) (B:Heap),e = .ref x∧Inv X [] σ H s'∧H x = none∧X.s₀.heap.objs.size ≤ x∧Cov X B H s'.heap∧EX σ cl dd H∧Md B X.stack X.env.locals x cl dd s'.heap
def Cx.tr (X:Cx) (pins:List (Addr × Obj)) (EX:St→XK):Cx:={ X with pn:=X.pn ++ pins,xe:=XT { X with pn:=X.pn ++ pins } EX }
theorem Cx.Ok.pn {X:Cx} (ok:X.Ok) (pn:List (Addr × Obj)) (E:Value→Shared→Prop):({ X with pn:=pn,xe:=E }:Cx).Ok :=
 ⟨ok.mod,ok.kind,ok.glob,ok.blt,ok.above,ok.inj,ok.has,ok.cab,ok.hd,ok.frames,ok.stk,ok.exf,ok.bs,ok.bsz,ok.noex,ok.exfs,ok.funs,ok.frf⟩
theorem Inv.tr {X:Cx} {pins:List (Addr × Obj)} {σ:St} {H:Hp} {s:Shared} (I:Inv X pins σ H s) (EX:St→XK):Inv (X.tr pins EX) [] σ H s :=
 ⟨I.ok.pn _ _,I.os,I.bare,I.base,I.loc,I.cell,I.free,I.freeC,fun p hp=>I.pin p (by
  have:p ∈ (X.pn ++ pins) ++ []:=hp
  simpa using this),I.hok,I.len⟩
theorem Df.tr {X:Cx} (d:Df X) (pins:List (Addr × Obj)) (EX:St→XK):Df (X.tr pins EX):=⟨d.stk,d.fr,d.ex,d.fn⟩
end L2
namespace L2
open PySem PySem.Spec PyProof.Rows
section
variable {X:Cx} {CX:CXT} {k:Nat} {f:Addr} {fd:FuncData} {ps:List Str} {sp:Sp} {EX:St→XK} {x:Str} {p pos:Pos} {e:Expr} {es:List Expr} {t:TA} {ds:List Value} {dvs:List V}
end
section
variable {P:Program} {w:World} {K:PySem.W.Frag} {mg:Str→Option Value} {base:Heap}
end
section
variable {prog:Program} {w:World} {A:Around} {E:Value→Shared→Prop} {h:Heap} {g:Array GenState} {d:Drawn} {t:Nat} {os:OsState}
variable {nm q:Str} {C N:Addr} {bs bm bmB:List Value} {hdct:Bool} {sn:List Str} {sub:List Value} {ab:Bool} {col:Option Bool} {dd:Option Addr} {k0 k1 k2 k3 k5:Option Value} {B newId initId:String}
end
end L2
namespace L2
open PySem PySem.Spec PyProof.Rows Builtin Builtin.ObjectAttr
section
variable {prog:Program} {w:World} {A:Around} {E:Value→Shared→Prop} {h:Heap} {g:Array GenState} {d:Drawn} {t:Nat} {os:OsState} {C:Addr} {bmB:List Value} {B newId initId:String}
end
def jq9:Value→Bool
 | .ref _=>true
 | _=>false
theorem jq9.ex {v:Value} (h:jq9 v = true):∃ a,v = .ref a:=by
 cases v <;> first | exact ⟨_,rfl⟩ | cases h
section
variable {prog:Program} {w:World} {A:Around} {E:Value→Shared→Prop} {s:Shared} {K:PySem.W.Frag} {x C t0:Addr} {dz:Option Addr} {name:Str} {v:Value} {Q:Unit→Shared→Prop}
end
end L2
namespace L2
open PySem PySem.Spec PyProof.Rows
section
variable {P:Program} {w:World} {H:Hp} {h:Heap} {a C:Addr} {dd:Option Addr} {fs:List (Str × V)}
end
section
variable {X:Cx} {pins:List (Addr × Obj)} {σ:St} {H:Hp} {s:Shared} {h':Heap} {x dx:Addr} {φ:Heap→Prop} {o1 o2:HO} {t':Nat}
end
section
variable {X:Cx} {o value e:Expr} {es:List Expr} {f x:Str} {p pos pos' apos:Pos} {ta tv:TE} {t:TA} {C T:Addr} {bmB:List Value} {B newId initId:String} {fI:Addr}
end
end L2
namespace L2
open PySem PySem.Spec PyProof.Rows
section
variable {X:Cx} {EX:St→XK} {k:Nat} {fI C:Addr} {fd:FuncData} {ps:List Str} {sp:Sp} {x:Str} {p cpos pos:Pos} {e:Expr} {es:List Expr} {t:TA} {bmB:List Value} {B newId initId:String}
end
end L2
namespace L2
open PySem PySem.Spec PyProof.Rows
section
variable {X:Cx} {pins:List (Addr × Obj)} {σ:St} {H:Hp} {s:Shared} {x:Addr} {o:HO}
end
section
variable {X:Cx} {x n:Str} {np hpos pos:Pos} {body suite:List Stmt} {b0:Stmt} {C:Addr} {mt:Value→Prop} {i:Nat} {tb:(St→XK)→TS} {th:TS}
end
end L2
namespace L2
open PySem PySem.Spec PyProof.Rows
section
variable {X:Cx} {C dx a:Addr} {fs:List (Str × V)} {H:Hp} {s:Shared}
end
end L2
namespace L2
open PySem PySem.Spec PyProof.Rows Builtin Builtin.ObjectAttr
structure XG (K:PySem.W.Frag) (C:Addr):Prop where
 ga:PySem.W.findIn K (.ref C) "__getattribute__" = some (some (.builtin "BaseException.__getattribute__"))
 gt:PySem.W.findIn K (.ref C) "__getattr__" = some none
 sub:PySem.W.mroIn K C (.type "BaseException") = some true
section
variable {prog:Program} {w:World} {A:Around} {E:Value→Shared→Prop} {s:Shared} {K:PySem.W.Frag} {x C:Addr} {ox:Obj} {od:Option Obj} {name:Str} {v:Value}
end
structure XY (K:PySem.W.Frag) (C:Addr):Prop where
 g:XG K C
 hd:PySem.W.hasDictIn K C = true
 ha:PySem.W.findIn K (.ref C) "__class__" = some (some (.builtin "object.__class__"))
 hn:PySem.W.specialIn K (.builtin "object.__class__") "__get__" = some (some (.builtin "getset_descriptor.__get__"))
 ht:PySem.W.takesIn K (.builtin "object.__class__") = some true
 hm:PySem.W.mroIn K C (.type "object") = some true
theorem XY.cls {K:PySem.W.Frag} {C:Addr} (y:XY K C):∃ c d cd sl,K.lookup C = some ⟨c,d,.cls cd,sl⟩:=by
 obtain ⟨cd,hc,_⟩:=PySem.W.any_some y.hd
 unfold PySem.W.clsIn at hc
 split at hc
 ·rename_i ho
  exact ⟨_,_,_,_,ho⟩
 ·cases hc
section
variable {X:Cx} {C dx a:Addr} {fs:List (Str × V)} {H:Hp} {s:Shared}
end
end L2
namespace L2
open PySem PySem.Spec PyProof.Rows
section
variable {X:Cx}
end
end L2
namespace L2
open PySem PySem.Spec PyProof.Rows
structure RoomH (k:Nat) (A:Around):Prop where
 dp:A.depth + 3 * k + 5 < recursionLimit
 un:A.units + 16 * k + 200 < cLine
theorem Room.h {j k:Nat} {A:Around} (r:Room k A) (h:j ≤ k):RoomH j A:=⟨(r.mono h).dp,(r.mono h).un⟩
theorem Room.hm {j k:Nat} {A:Around} {o:Option Value} (r:Room k A) (h:j ≤ k):RoomH j (A.mark o):=⟨(r.mono h).dp,(r.mono h).un⟩
theorem RoomH.mono {j k:Nat} {A:Around} (r:RoomH k A) (h:j ≤ k):RoomH j A:=⟨by have:=r.dp; omega,by have:=r.un; omega⟩
section
variable {P:Program} {w:World} {K:PySem.W.Frag} {mg:Str→Option Value} {base:Heap}
end
section
variable {X:Cx} {k:Nat} {f:Addr} {fd:FuncData} {ps:List Str} {sp:Sp} {x:Str} {p pos:Pos} {e:Expr} {es:List Expr} {t:TA}
end
section
variable {X:Cx} {C:Addr}
end
end L2
namespace L2
open PySem PySem.Spec PyProof.Rows
section
variable {X:Cx} {x n:Str} {np hpos pos:Pos} {body suite:List Stmt} {b0:Stmt} {C:Addr} {mt:Value→Prop} {tb:(St→XK)→TS} {th:TS}
end
end L2
namespace L2
open PySem PySem.Spec PyProof.Rows
section
variable {prog:Program} {w:World} {A:Around} {E:Value→Shared→Prop} {s:Shared} {C a:Addr} {bmB:List Value} {newId:String}
end
section
variable {prog:Program} {w:World} {A:Around} {E:Value→Shared→Prop} {h:Heap} {g:Array GenState} {d:Drawn} {t:Nat} {os:OsState}
variable {C:Addr} {bmB:List Value} {B newId initId:String}
end
section
variable {X:Cx} {x y:Str} {np hpos pos p cpos rpos cp:Pos} {kk:Nat} {body:List Stmt} {C D':Addr} {mt:Value→Prop} {tb:(St→XK)→TS} {EX:St→XK} {e:Expr} {es:List Expr} {t:TA} {bmB:List Value} {B newId initId:String}
end
end L2
namespace L2
open PySem PySem.Spec PyProof.Rows
open PySem.Builtin.ObjectAttr
section
variable {X:Cx} {C a:Addr} {H:Hp} {s:Shared}
end
end L2
namespace L2
open PySem PySem.Spec PyProof.Rows
def CDivB (i j:Int):Prop:=0 < j∧j < 1000000000000000000
section
variable {X:Cx}
theorem jqp:OpR X (binaryOp .FloorDiv) (fIC CDivB fun i j=>.int (i / j)):=by
 intro pins s σ H x y v u Q I rx ry h
 unfold fIC at h
 split at h
 ·rename_i i j
  obtain ⟨⟨h1,h2⟩,q⟩:=h
  obtain ⟨t,rfl⟩:=rx
  obtain ⟨t',rfl⟩:=ry
  refine floordiv_int (by omega) ?_ (.inl (PyProof.noPylong_of_log2 ?_))
  ·rw [Int.fdiv_eq_ediv_of_nonneg i (by omega)]
   exact ⟨.int (i / j),H,I.tok _,⟨_,rfl⟩,q⟩
  ·by_cases h0:j.natAbs = 0
   ·rw [h0]; decide
   ·exact Nat.lt_of_lt_of_le ((Nat.log2_lt h0).mpr (show j.natAbs < 2 ^ 60 by omega)) (by decide)
 ·exact h.elim
end
end L2
namespace L2
open PySem PySem.Spec PyProof.Rows
theorem jao {a b:TS} {D:Ends} {σ:St} {H:Hp} (h:∀ R,R = b→tSeq a R D σ H):tSeq a b D σ H:=h b rfl
section
variable {X:Cx}
end
end L2
namespace So
open PySem PyProof.Rows
def Fore (lo:Nat) (xs ys:Array Keyed):Prop:=∀ i,i < lo→ys[i]? = xs[i]?
theorem Fore.tr {lo:Nat} {xs ys zs:Array Keyed} (a:Fore lo xs ys) (b:Fore lo ys zs):Fore lo xs zs:=fun i h=>(b i h).trans (a i h)
structure Bs (κ:SortKind) (a₀:Array Keyed) (pd:Array (Nat × Nat × Nat)) (st:SortSt):Prop where
 perm:(arrOf st).Perm a₀
 kind:kindOf st = κ
 ok:failedOf st = none
 pend:pendingOf st = pd
section
variable {prog:Program} {w:World} {A:Around} {E:Value→Shared→Prop} {s:Shared} {R:Keyed→Int} {κ:SortKind} {a₀:Array Keyed} {pd:Array (Nat × Nat × Nat)}
theorem Bs.size {st:SortSt} (b:Bs κ a₀ pd st):(arrOf st).size = a₀.size:=b.perm.size_eq
end
end So
namespace So
open PySem PyProof.Rows
section
variable {prog:Program} {w:World} {A:Around} {E:Value→Shared→Prop} {s:Shared} {R:Keyed→Int} {κ:SortKind} {a₀:Array Keyed} {pd:Array (Nat × Nat × Nat)}
end
end So
namespace So
open PySem PyProof.Rows
def Le (R:Keyed→Int):Keyed→Keyed→Prop:=fun x y=>R x ≤ R y
def MS (R:Keyed→Int) (o la lb tot:List Keyed):Prop:=(o ++ la).Pairwise (Le R)∧(o ++ lb).Pairwise (Le R)∧(o ++ (la ++ lb)).Perm tot
def Fi (R:Keyed→Int) (l tot:List Keyed):Prop:=l.Pairwise (Le R)∧l.Perm tot
section
variable {R:Keyed→Int} {o la lb tot xs:List Keyed}
theorem MS.a (h:MS R o (xs ++ la) lb tot) (hx:∀ x ∈ xs,∀ y ∈ lb,R x ≤ R y):MS R (o ++ xs) la lb tot:=by
 obtain ⟨h1,h2,h3⟩:=h
 refine ⟨by rw [List.append_assoc]; exact h1,?_,by rw [List.append_assoc,← List.append_assoc xs]; exact h3⟩
 rw [List.append_assoc,List.pairwise_append]
 rw [List.pairwise_append] at h1 h2
 obtain ⟨o1,o2,o3⟩:=h1
 obtain ⟨p1,p2,p3⟩:=h2
 rw [List.pairwise_append] at o2
 refine ⟨o1,List.pairwise_append.mpr ⟨o2.1,p2,hx⟩,fun x m y n=>?_⟩
 rcases List.mem_append.mp n with n | n
 ·exact o3 x m y (List.mem_append_left _ n)
 ·exact p3 x m y n
theorem MS.b (h:MS R o la (xs ++ lb) tot) (hx:∀ x ∈ xs,∀ y ∈ la,R x ≤ R y):MS R (o ++ xs) la lb tot:=by
 have z:MS R o (xs ++ lb) la tot:=⟨h.2.1,h.1,(List.Perm.append_left _ List.perm_append_comm).trans h.2.2⟩
 have q:=z.a hx
 exact ⟨q.2.1,q.1,(List.Perm.append_left _ List.perm_append_comm).trans q.2.2⟩
end
section
variable {a:Array Keyed} {R:Keyed→Int} {i k:Nat}
end
section
variable {M:Model} {A:Around} {E:Value→Shared→Prop} {s:Shared} {σ α:Type}
end
section
variable {R:Keyed→Int} {a b out:Array Keyed} {ia ib k:Nat} {tot:List Keyed}
end
section
variable {prog:Program} {w:World} {A:Around} {E:Value→Shared→Prop} {s:Shared} {R:Keyed→Int} {κ:SortKind} {a₀:Array Keyed} {pd:Array (Nat × Nat × Nat)}
end
end So
namespace So
open PySem PyProof.Rows
def MH (R:Keyed→Int) (la lb o tot:List Keyed):Prop:=(la ++ o).Pairwise (Le R)∧(lb ++ o).Pairwise (Le R)∧(la ++ (lb ++ o)).Perm tot
section
variable {R:Keyed→Int} {o la lb tot xs:List Keyed}
theorem MH.a (h:MH R (la ++ xs) lb o tot) (hx:∀ x ∈ xs,∀ y ∈ lb,R y ≤ R x):MH R la lb (xs ++ o) tot:=by
 obtain ⟨h1,h2,h3⟩:=h
 refine ⟨by rw [← List.append_assoc]; exact h1,?_,?_⟩
 ·rw [List.append_assoc,List.pairwise_append] at h1
  rw [List.pairwise_append] at h2 ⊢
  refine ⟨h2.1,h1.2.1,fun y hy x hx2=>?_⟩
  rcases List.mem_append.mp hx2 with n | n
  ·exact hx x n y hy
  ·exact h2.2.2 y hy x n
 ·refine List.Perm.trans ?_ h3
  rw [List.append_assoc]
  refine List.Perm.append_left _ ?_
  rw [← List.append_assoc,← List.append_assoc]
  exact List.Perm.append_right _ List.perm_append_comm
theorem MH.swap (h:MH R la lb o tot):MH R lb la o tot:=by
 refine ⟨h.2.1,h.1,List.Perm.trans ?_ h.2.2⟩
 rw [← List.append_assoc,← List.append_assoc]
 exact List.Perm.append_right _ List.perm_append_comm
theorem MH.b (h:MH R la (lb ++ xs) o tot) (hx:∀ x ∈ xs,∀ y ∈ la,R y ≤ R x):MH R la lb (xs ++ o) tot:=(h.swap.a hx).swap
theorem MH.first (h:MH R la lb o tot) (hx:∀ y ∈ lb,∀ x ∈ la,R y ≤ R x):Fi R (lb ++ la ++ o) tot:=by
 obtain ⟨h1,h2,h3⟩:=h.swap
 refine ⟨?_,by rw [List.append_assoc]; exact h3⟩
 rw [List.append_assoc]
 rw [List.pairwise_append] at h1 h2 ⊢
 refine ⟨h1.1,List.pairwise_append.mpr h2,fun y hy x hx2=>?_⟩
 rcases List.mem_append.mp hx2 with n | n
 ·exact hx y hy x n
 ·exact h1.2.2 y hy x n
end
section
variable {a:Array Keyed} {R:Keyed→Int} {i k n:Nat}
end
section
variable {R:Keyed→Int} {a b out:Array Keyed} {na nb k:Nat} {tot:List Keyed}
end
section
variable {prog:Program} {w:World} {A:Around} {E:Value→Shared→Prop} {s:Shared} {R:Keyed→Int} {κ:SortKind} {a₀:Array Keyed} {pd:Array (Nat × Nat × Nat)}
end
end So
namespace So
open PySem PyProof.Rows
section
variable {prog:Program} {w:World} {A:Around} {E:Value→Shared→Prop} {s:Shared} {R:Keyed→Int} {κ:SortKind} {a₀:Array Keyed} {pd:Array (Nat × Nat × Nat)}
end
end So
namespace So
open PySem PyProof.Rows
def two (pd:Array (Nat × Nat × Nat)):List (Nat × Nat):=pd.toList.map fun t=>(t.1,t.2.1)
section
variable {R:Keyed→Int} {xs ys:Array Keyed}
end
section
variable {prog:Program} {w:World} {A:Around} {E:Value→Shared→Prop} {s:Shared} {R:Keyed→Int} {κ:SortKind} {a₀:Array Keyed} {pd:Array (Nat × Nat × Nat)}
end
end So
namespace So
open PySem PyProof.Rows
section
variable {prog:Program} {w:World} {A:Around} {E:Value→Shared→Prop} {s:Shared}
def PairAt (h:Heap) (v:Value) (x y:Int):Prop:=∃ a o t u n,v = .ref a∧h.get? a = some o∧o.cls = .type "tuple"∧o.data = .seq #[.int x t,.int y u] n
end
end So
namespace L2
open PySem PySem.Spec PyProof.Rows
end L2
namespace L2
open PySem PySem.Spec PyProof.Rows
def rSum:List V→Hp→VK→Prop:=fun vs H Q=>∃ (p:Addr) (ns:List Int),vs = [.ref p]∧H p = some (.lst (ns.map V.int))∧Q (.int ns.sum) H
theorem jqn {X:Cx} (hc:X.calm = true):jch X (.builtin "sum") rSum:=by
 intro pins s σ H xs us Q I r h
 obtain ⟨p,ns,rfl,e,q⟩:=h
 obtain ⟨u,rfl,rx⟩:=jgw r
 cases rx
 obtain ⟨its,r',pl,_⟩:=I.list (SqL.of e)
 have hI:=jc3 r'
 obtain ⟨zs,hz⟩:=hI.allInts.items
 have hn:=hI.numsOf
 have hl:=pl.isList
 rw [hz] at hl
 refine sum_intListG (I.ok.hd hc) hl fun h' tk t' hk=>?_
 have e2:preSum (numAt zs) zs.size = ns.sum:=by
  rw [preSum_eq,List.take_of_length_le (by simp),← hn,← nums_intItems,← hz]
 rw [e2]
 exact ⟨.int ns.sum,H,I.kept hk,⟨t',rfl⟩,q⟩
def fIsB (f:Bool→Bool):R2:=fun x y H Q=>match x,y with
 | .bl a,.bl b=>Q (.bl (f (a == b))) H
 | _,_=>False
theorem fIsB_r {f:Bool→Bool} {x y:V} {H:Hp} {Q:VK} (h:fIsB f x y H Q):∃ a b,x = .bl a∧y = .bl b∧Q (.bl (f (a == b))) H:=by
 unfold fIsB at h
 split at h
 ·exact ⟨_,_,rfl,rfl,h⟩
 ·exact h.elim
theorem q_notB {X:Cx}:OpR X (compareOp .IsNot) (fIsB not):=by
 intro pins s σ H x y v u Q I rx ry h
 obtain ⟨a,b,rfl,rfl,q⟩:=fIsB_r h
 cases rx
 cases ry
 exact isnot_bool (jay I q rfl)
end L2
namespace L2
open PySem PySem.Spec PyProof.Rows
end L2
namespace So
open PySem PyProof.Rows
section
variable {prog:Program} {w:World} {A:Around} {E:Value→Shared→Prop} {s:Shared}
section
variable {prog:Program} {w:World} {A:Around} {E:Value→Shared→Prop} {s:Shared} {R:Keyed→Int} {κ:SortKind} {a₀:Array Keyed} {pd:Array (Nat × Nat × Nat)}
end
section
variable {prog:Program} {w:World} {A:Around} {E:Value→Shared→Prop} {s:Shared}
end
end
end So
namespace L2
open PySem PySem.Spec PyProof.Rows
end L2
namespace My
open PySem L2
theorem sl0:(0 ≤ sizeLine) = True:=eq_true (by decide)
theorem sl1:(1 ≤ sizeLine) = True:=eq_true (by decide)
theorem sl2:(2 ≤ sizeLine) = True:=eq_true (by decide)
theorem sl3:(3 ≤ sizeLine) = True:=eq_true (by decide)
theorem sl4:(4 ≤ sizeLine) = True:=eq_true (by decide)
end My
local macro_rules | `(tactic| walk_at "RD") => `(tactic| try simp only [L2.fIsB, L2.tSeq, L2.jon, L2.jlb, L2.tRet, L2.tRetN, L2.tIfS, L2.tAsg, L2.jjz, L2.fAug, L2.tOp, L2.tUn, L2.tC, L2.fVar, L2.fI, L2.fIC, L2.fNeg, L2.fEq, L2.fNe, L2.fIsN, L2.jqz, L2.fAnd, L2.fOr, L2.fNot, L2.fB, L2.tNot, L2.tAnd, L2.tOr, L2.jl0, L2.fIx, L2.fLen, L2.jho, L2.fMin, L2.fMax, L2.fInL, L2.fSlL, L2.tSl, L2.jr4, L2.jje, L2.jdu, L2.fBM, L2.jpc, L2.gSub, L2.jpe, L2.jky, L2.jpd, L2.jpf, L2.jnq, L2.jmi, L2.jm3, L2.fCat, L2.jqb, L2.fBM0, L2.fSlT, L2.fInt1, L2.tCBK, L2.fDIn, L2.jr6, L2.fIsi, L2.jj0, L2.jkz, L2.fLtT, L2.jqk, L2.tCB, L2.jdw, L2.tNil, L2.tTup, L2.tLst, L2.tIf, L2.jqj, L2.Kd.nm, L2.start, List.map_cons, List.map_nil, List.length_cons, List.length_nil, Nat.reduceAdd, Nat.reduceSub, List.replicate_succ, List.replicate_zero, List.getElem?_cons_zero, List.getElem?_cons_succ, List.set_cons_zero, List.set_cons_succ, List.append_nil, List.nil_append, List.cons_append, eq_self, true_and, and_true, if_true, Bool.false_eq_true, if_false, Bool.not_true, Bool.not_false, id_eq, My.sl0, My.sl1, My.sl2, My.sl3, My.sl4])
local macro_rules | `(tactic| simp_arith [$args,*]) => `(tactic| try simp only [L2.fIsB, L2.tSeq, L2.jon, L2.jlb, L2.tRet, L2.tRetN, L2.tIfS, L2.tAsg, L2.jjz, L2.fAug, L2.tOp, L2.tUn, L2.tC, L2.fVar, L2.fI, L2.fIC, L2.fNeg, L2.fEq, L2.fNe, L2.fIsN, L2.jqz, L2.fAnd, L2.fOr, L2.fNot, L2.fB, L2.tNot, L2.tAnd, L2.tOr, L2.jl0, L2.fIx, L2.fLen, L2.jho, L2.fMin, L2.fMax, L2.fInL, L2.fSlL, L2.tSl, L2.jr4, L2.jje, L2.jdu, L2.fBM, L2.jpc, L2.gSub, L2.jpe, L2.jky, L2.jpd, L2.jpf, L2.jnq, L2.jmi, L2.jm3, L2.fCat, L2.jqb, L2.fBM0, L2.fSlT, L2.fInt1, L2.tCBK, L2.fDIn, L2.jr6, L2.fIsi, L2.jj0, L2.jkz, L2.fLtT, L2.jqk, L2.tCB, L2.jdw, L2.tNil, L2.tTup, L2.tLst, L2.tIf, L2.jqj, L2.Kd.nm, L2.start, List.map_cons, List.map_nil, List.length_cons, List.length_nil, Nat.reduceAdd, Nat.reduceSub, List.replicate_succ, List.replicate_zero, List.getElem?_cons_zero, List.getElem?_cons_succ, List.set_cons_zero, List.set_cons_succ, List.append_nil, List.nil_append, List.cons_append, eq_self, true_and, and_true, if_true, Bool.false_eq_true, if_false, Bool.not_true, Bool.not_false, id_eq, My.sl0, My.sl1, My.sl2, My.sl3, My.sl4, $args,*])
namespace My
open PySem L2
theorem szl {n:Nat} (h:n ≤ 1000):n ≤ sizeLine:=Nat.le_trans h (by decide)
theorem szl' {n:Nat} (h:n ≤ 1000):n < sizeLine:=Nat.lt_of_le_of_lt h (by decide)
def top (i:Nat):Stmt:=PySem.Challenge.pw_touchall_k21_papers_of_halves.main.body.getD i (.Pass ⟨0,0,0,0⟩)
structure DefAt (K:PySem.W.Frag) (mg:Str→Option Value) (x:Str) (st:Stmt) (ps:List Str) (f:Addr) (fd:FuncData):Prop where
 F:Fun K x x st f fd
 b:jk7 K fd ps []
 m:mg x = some (.ref f)
structure Blt (mg:Str→Option Value):Prop where
 len:mg "len" = none
 isinstance:mg "isinstance" = none
 all:mg "all" = none
 min:mg "min" = none
 list:mg "list" = none
 dict:mg "dict" = none
 int:mg "int" = none
 bool:mg "bool" = none
 str:mg "str" = none
 tuple:mg "tuple" = none
 range:mg "range" = none
 enumerate:mg "enumerate" = none
 zip:mg "zip" = none
 max:mg "max" = none
 any:mg "any" = none
 sum:mg "sum" = none
 sorted:mg "sorted" = none
 set:mg "set" = none
structure Cst (mg:Str→Option Value) (t1 t2 t3 t4:Tok):Prop where
 MOST_PLACES:mg "MOST_PLACES" = some (.int 40 t1)
 MOST_TIES:mg "MOST_TIES" = some (.int 120 t2)
 LAST_PLACE:mg "LAST_PLACE" = some (.int 999 t3)
 MOST_PRICE:mg "MOST_PRICE" = some (.int 1000000000000 t4)
section
variable {P:Program} {w:World} {K:PySem.W.Frag} {mg:Str→Option Value} {base:Heap} {c1 c2 c3 c4:Tok}
theorem at0 {α:Type} {x:α} {r:List α}:atI (x :: r) 0 = some x:=by
 have e:atI (x :: r) ((0:Nat):Int) = some x:=jcr rfl
 exact e
theorem at1 {α:Type} {x y:α} {r:List α}:atI (x :: y :: r) 1 = some y:=by
 have e:atI (x :: y :: r) ((1:Nat):Int) = some y:=jcr rfl
 exact e
theorem at2 {α:Type} {x y z:α} {r:List α}:atI (x :: y :: z :: r) 2 = some z:=by
 have e:atI (x :: y :: z :: r) ((2:Nat):Int) = some z:=jcr rfl
 exact e
def jbs:Kd→Bool
 | .int=>true
 | _=>false
def jdo:Sp:=fun vs H Q _=>∃ x k,vs = [x]∧kd H x = some k∧Q (.bl (jbs k)) H
def jff:Sp:=fun vs H Q _=>∃ a xs m,vs = [.ref a,.int m]∧H a = some (.tup xs)∧Q (.bl (decide ((xs.length:Int) = m))) H
def jee:Sp:=fun vs H Q _=>∃ a xs m,vs = [.ref a,.int m]∧H a = some (.lst xs)∧Q (.bl (decide ((xs.length:Int) ≤ m))) H
def jm6:Sp:=fun vs H Q _=>∃ x p,vs = [x]∧Pr H x p∧Q (.bl true) H
def jdx:Sp:=fun vs H Q _=>∃ x p l s,vs = [x,.int l,.int s]∧Pr H x p∧(l < p.1∧p.1 ≤ 999∧1 ≤ p.2∧p.2 ≤ 1000000000000 - s)∧Q (.bl true) H
def hasK (kvs:List (Key × V)) (n:Int):Bool:=(valV kvs (Sum.inl n:Key)).isSome
def jfg:Sp:=fun vs H Q _=>∃ x p y q d kvs,vs = [x,y,.ref d]∧Pr H x p∧Pr H y q∧H d = some (.dK kvs)∧(HT.lexLt [q.1,q.2] [p.1,p.2] = true∧p.1 < p.2∧hasK kvs p.1 = true∧hasK kvs p.2 = true)∧Q (.bl true) H
theorem jjp {f:Addr} {fd:FuncData}  (B:Blt mg) (D:DefAt K mg "is_whole" (top 1) ["thing"] f fd):FnOk P w K mg base CX0 1 f fd ["thing"] jdo:=by
 have sc:FnScope ["thing"] ["thing"] (jac (top 1)):=⟨rfl,rfl,rfl,by decide +kernel,rfl,by decide +kernel,by decide +kernel⟩
 refine D.F.ok sc (fun vs H Q E h=>?_) (fun cdv A outer s H vs Q E hr h=>?_)
 ·obtain ⟨x,k,rfl,_⟩:=h
  rfl
 obtain ⟨x,k,rfl,ek,h⟩:=h
 have hu:=jbo hr
 have hu0:_ < PySem.cLine:=Nat.lt_of_succ_lt hu
 refine ⟨_,(ja6 (jan (jdq (ja9 (jdk .int) rfl B.isinstance PyProof.Rows.boot_isinstance (ja0 (qv 0) (ja0 (jbn (v:=.ty "int") rfl B.int PyProof.Rows.boot_int rfl) ja3))) (jdn (q_not (ja9 (jdk .bl) rfl B.isinstance PyProof.Rows.boot_isinstance (ja0 (qv 0) (ja0 (jbn (v:=.ty "bool") rfl B.bool PyProof.Rows.boot_bool rfl) ja3)))))))),?_⟩
 simp_arith [ek]
 cases k <;> simpa only [isi,jbs,if_true,if_false,Bool.false_eq_true,Bool.not_true,Bool.not_false] using h
theorem jga {f:Addr} {fd:FuncData}  (B:Blt mg) (D:DefAt K mg "is_tuple_of" (top 2) ["thing","many"] f fd):FnOk P w K mg base CX0 1 f fd ["thing","many"] jff:=by
 have sc:FnScope ["thing","many"] ["thing","many"] (jac (top 2)):=⟨rfl,rfl,rfl,by decide +kernel,rfl,by decide +kernel,by decide +kernel⟩
 refine D.F.ok sc (fun vs H Q E h=>?_) (fun cdv A outer s H vs Q E hr h=>?_)
 ·obtain ⟨a,xs,m,rfl,_⟩:=h
  rfl
 obtain ⟨a,xs,m,rfl,ea,h⟩:=h
 have hu:=jbo hr
 have hu0:_ < PySem.cLine:=Nat.lt_of_succ_lt hu
 refine ⟨_,(ja6 (jan (jdq (ja9 (jdk .tup) rfl B.isinstance PyProof.Rows.boot_isinstance (ja0 (qv 0) (ja0 (jbn (v:=.ty "tuple") rfl B.tuple PyProof.Rows.boot_tuple rfl) ja3))) (jdn (jbx q_eq (ja9 jci rfl B.len PySem.boot_len (ja0 (qv 0) ja3)) (qv 1) (jaj _)))))),?_⟩
 simp_arith [kd,ea,jag,isi]
 exact h
theorem jex {f:Addr} {fd:FuncData}  (B:Blt mg) (D:DefAt K mg "is_list_up_to" (top 4) ["thing","most"] f fd):FnOk P w K mg base CX0 1 f fd ["thing","most"] jee:=by
 have sc:FnScope ["thing","most"] ["thing","most"] (jac (top 4)):=⟨rfl,rfl,rfl,by decide +kernel,rfl,by decide +kernel,by decide +kernel⟩
 refine D.F.ok sc (fun vs H Q E h=>?_) (fun cdv A outer s H vs Q E hr h=>?_)
 ·obtain ⟨a,xs,m,rfl,_⟩:=h
  rfl
 obtain ⟨a,xs,m,rfl,ea,h⟩:=h
 have hu:=jbo hr
 have hu0:_ < PySem.cLine:=Nat.lt_of_succ_lt hu
 refine ⟨_,(ja6 (jan (jdq (ja9 (jdk .lst) rfl B.isinstance PyProof.Rows.boot_isinstance (ja0 (qv 0) (ja0 (jbn (v:=.ty "list") rfl B.list PyProof.Rows.boot_list rfl) ja3))) (jdn (jbx q_le (ja9 jci rfl B.len PySem.boot_len (ja0 (qv 0) ja3)) (qv 1) (jaj _)))))),?_⟩
 simp_arith [kd,ea,jag,isi]
 exact h
theorem jdl {f:Addr} {fd:FuncData} {f_is_tuple_of:Addr} {d_is_tuple_of:FuncData} {f_is_whole:Addr} {d_is_whole:FuncData} (B:Blt mg) (D:DefAt K mg "is_pair_of_wholes" (top 3) ["thing"] f fd) (D_is_tuple_of:DefAt K mg "is_tuple_of" (top 2) ["thing","many"] f_is_tuple_of d_is_tuple_of) (G_is_tuple_of:FnOk P w K mg base CX0 1 f_is_tuple_of d_is_tuple_of ["thing","many"] jff) (D_is_whole:DefAt K mg "is_whole" (top 1) ["thing"] f_is_whole d_is_whole) (G_is_whole:FnOk P w K mg base CX0 1 f_is_whole d_is_whole ["thing"] jdo):FnOk P w K mg base CX0 2 f fd ["thing"] jm6:=by
 have sc:FnScope ["thing"] ["thing"] (jac (top 3)):=⟨rfl,rfl,rfl,by decide +kernel,rfl,by decide +kernel,by decide +kernel⟩
 refine D.F.ok sc (fun vs H Q E h=>?_) (fun cdv A outer s H vs Q E hr h=>?_)
 ·obtain ⟨x,p,rfl,_⟩:=h
  rfl
 obtain ⟨x,p,rfl,⟨a,rfl,ea⟩,h⟩:=h
 have hu:=jbo hr
 have hu0:_ < PySem.cLine:=Nat.lt_of_succ_lt hu
 refine ⟨_,(ja6 (jan (jdq (ja8 G_is_tuple_of (hr.mono (by decide)) rfl D_is_tuple_of.m D_is_tuple_of.F.kp D_is_tuple_of.b .nil jar (ja0 (qv 0) (ja0 ja2 ja3))) (jdq (ja8 G_is_whole (hr.mono (by decide)) rfl D_is_whole.m D_is_whole.F.kp D_is_whole.b .nil jar (ja0 (jab q_ix (qv 0) ja2 (fun _ _=>rfl)) ja3)) (jdn (ja8 G_is_whole (hr.mono (by decide)) rfl D_is_whole.m D_is_whole.F.kp D_is_whole.b .nil jar (ja0 (jab q_ix (qv 0) ja2 (fun _ _=>rfl)) ja3))))))),?_⟩
 simp_arith [jag,ea,at0,at1]
 refine ⟨a,_,2,rfl,ea,?_⟩
 simp_arith [jag,ea,at0,at1,Int.cast_ofNat_Int,decide_true]
 refine ⟨_,.int,rfl,rfl,?_⟩
 simp_arith [jbs,jag,ea,at0,at1]
 exact ⟨_,.int,rfl,rfl,h⟩
theorem jfp {f:Addr} {fd:FuncData} {f_is_pair_of_wholes:Addr} {d_is_pair_of_wholes:FuncData} (B:Blt mg) (C:Cst mg c1 c2 c3 c4) (D:DefAt K mg "place_stands" (top 14) ["thing","last","spent"] f fd) (D_is_pair_of_wholes:DefAt K mg "is_pair_of_wholes" (top 3) ["thing"] f_is_pair_of_wholes d_is_pair_of_wholes) (G_is_pair_of_wholes:FnOk P w K mg base CX0 2 f_is_pair_of_wholes d_is_pair_of_wholes ["thing"] jm6):FnOk P w K mg base CX0 3 f fd ["thing","last","spent"] jdx:=by
 have sc:FnScope ["thing","last","spent"] ["thing","last","spent"] (jac (top 14)):=⟨rfl,rfl,rfl,by decide +kernel,rfl,by decide +kernel,by decide +kernel⟩
 refine D.F.ok sc (fun vs H Q E h=>?_) (fun cdv A outer s H vs Q E hr h=>?_)
 ·obtain ⟨x,p,l,s,rfl,_⟩:=h
  rfl
 obtain ⟨x,p,l,sp,rfl,hp,⟨b1,b2,b3,b4⟩,h⟩:=h
 obtain ⟨a,rfl,ea⟩:=id hp
 have hu:=jbo hr
 have hu0:_ < PySem.cLine:=Nat.lt_of_succ_lt hu
 refine ⟨_,(ja5 (jb5 (jbb (jb9 (ja8 G_is_pair_of_wholes (hr.mono (by decide)) rfl D_is_pair_of_wholes.m D_is_pair_of_wholes.F.kp D_is_pair_of_wholes.b .nil jar (ja0 (qv 0) ja3)))) (ja6 (jan jc8)) jam) (ja6 (jan (jdq (jmn q_lt q_le (qv 1) (jab q_ix (qv 0) ja2 (fun _ _=>rfl)) (jha (v:=.int 999) rfl C.LAST_PLACE ⟨_,rfl⟩)) (jdn (jmn q_le q_le ja2 (jab q_ix (qv 0) ja2 (fun _ _=>rfl)) (jap jmm (jha (v:=.int 1000000000000) rfl C.MOST_PRICE ⟨_,rfl⟩) (qv 2)))))))),?_⟩
 walk_at "RD"
 refine ⟨_,p,rfl,hp,?_⟩
 simp_arith [jag,ea,at0,at1,decide_eq_true b1,decide_eq_true b2,decide_eq_true b3,decide_eq_true b4]
 exact h
theorem jhc {f:Addr} {fd:FuncData} {f_is_pair_of_wholes:Addr} {d_is_pair_of_wholes:FuncData} (B:Blt mg) (D:DefAt K mg "tie_stands" (top 15) ["thing","last","prices"] f fd) (D_is_pair_of_wholes:DefAt K mg "is_pair_of_wholes" (top 3) ["thing"] f_is_pair_of_wholes d_is_pair_of_wholes) (G_is_pair_of_wholes:FnOk P w K mg base CX0 2 f_is_pair_of_wholes d_is_pair_of_wholes ["thing"] jm6):FnOk P w K mg base CX0 3 f fd ["thing","last","prices"] jfg:=by
 have sc:FnScope ["thing","last","prices"] ["thing","last","prices"] (jac (top 15)):=⟨rfl,rfl,rfl,by decide +kernel,rfl,by decide +kernel,by decide +kernel⟩
 refine D.F.ok sc (fun vs H Q E h=>?_) (fun cdv A outer s H vs Q E hr h=>?_)
 ·obtain ⟨x,p,y,q,d,kvs,rfl,_⟩:=h
  rfl
 obtain ⟨x,p,y,q,d,kvs,rfl,hp,hq,hd,⟨b1,b2,b3,b4⟩,h⟩:=h
 obtain ⟨a,rfl,ea⟩:=id hp
 obtain ⟨b,rfl,eb⟩:=id hq
 unfold hasK at b3 b4
 have hu:=jbo hr
 have hu0:_ < PySem.cLine:=Nat.lt_of_succ_lt hu
 refine ⟨_,(ja5 (jb5 (jbb (jb9 (ja8 G_is_pair_of_wholes (hr.mono (by decide)) rfl D_is_pair_of_wholes.m D_is_pair_of_wholes.F.kp D_is_pair_of_wholes.b .nil jar (ja0 (qv 0) ja3)))) (ja6 (jan jc8)) jam) (ja6 (jan (jdq (jbx (q_ltT hu0) (qv 1) (qv 0) (jaj _)) (jdq (jbx q_lt (jab q_ix (qv 0) ja2 (fun _ _=>rfl)) (jab q_ix (qv 0) ja2 (fun _ _=>rfl)) (jaj _)) (jdq (jq2 (q_din hu (jab q_ix (qv 0) ja2 (fun _ _=>rfl)) (qv 2))) (jdn (jq2 (q_din hu (jab q_ix (qv 0) ja2 (fun _ _=>rfl)) (qv 2)))))))))),?_⟩
 walk_at "RD"
 refine ⟨_,p,rfl,hp,?_⟩
 simp_arith [jag,ea,eb,hd,at0,at1,b1,decide_eq_true b2,b3,b4]
 exact h
end
end My
namespace My
open PySem L2
section
variable {P:Program} {w:World} {K:PySem.W.Frag} {mg:Str→Option Value} {base:Heap} {c1 c2 c3 c4:Tok}
def PlOk:Int→Int→List (Int × Int)→Prop
 | _,_,[]=>True
 | l,s,p :: r=>(l < p.1∧p.1 ≤ 999∧1 ≤ p.2∧p.2 ≤ 1000000000000 - s)∧PlOk p.1 (s + p.2) r
def jbk (ps:List (Int × Int)):List (Key × V):=ps.map fun p=>(Sum.inl p.1,V.int p.2)
def TiOk (kvs:List (Key × V)):Int × Int→List (Int × Int)→Prop
 | _,[]=>True
 | q,p :: r=>(HT.lexLt [q.1,q.2] [p.1,p.2] = true∧p.1 < p.2∧hasK kvs p.1 = true∧hasK kvs p.2 = true)∧TiOk kvs p r
structure WebOk (ps ts:List (Int × Int)):Prop where
 pl:ps.length ≤ 40
 p:PlOk (-1) 0 ps
 tl:ts.length ≤ 120
 t:TiOk (jbk ps) (-1,-1) ts
def jdf (H:Hp) (v:V) (ps ts:List (Int × Int)):Prop :=
 ∃ u pa ta xs ys,v = .ref u∧H u = some (.tup [.ref pa,.ref ta])∧H pa = some (.lst xs)∧H ta = some (.lst ys)∧Prs H xs ps∧Prs H ys ts
theorem jdf.same {H H':Hp} {v:V} {ps ts:List (Int × Int)} (h:jdf H v ps ts) (s:Same H H'):jdf H' v ps ts:=by
 obtain ⟨u,pa,ta,xs,ys,e,h1,h2,h3,h4,h5⟩:=h
 exact ⟨u,pa,ta,xs,ys,e,s _ _ h1,s _ _ h2,s _ _ h3,Prs.same s h4,Prs.same s h5⟩
theorem PlOk.gt:∀ {ps:List (Int × Int)} {l s:Int},PlOk l s ps→∀ p ∈ ps,l < p.1
 | [],_,_,_,_,h=>by cases h
 | q :: r,l,s,h,p,hp=>by
  rcases List.mem_cons.mp hp with e | hp
  ·rw [e]; exact h.1.1
  ·have:=PlOk.gt h.2 p hp
   have:=h.1.1
   omega
theorem PlOk.nodup:∀ {ps:List (Int × Int)} {l s:Int},PlOk l s ps→(ps.map (·.1)).Nodup
 | [],_,_,_=>List.nodup_nil
 | q :: r,l,s,h=>by
  rw [List.map_cons]
  refine List.nodup_cons.mpr ⟨fun hm=>?_,PlOk.nodup h.2⟩
  obtain ⟨p,hp,e⟩:=List.mem_map.mp hm
  have:=PlOk.gt h.2 p hp
  omega
theorem jen {ps:List (Int × Int)} (h:(ps.map (·.1)).Nodup):((jbk ps).map (·.1)).Nodup:=by
 unfold jbk
 rw [List.map_map]
 have e:((fun (x:Key × V)=>x.1) ∘ fun (p:Int × Int)=>((Sum.inl p.1:Key),V.int p.2)) = (fun (n:Int)=>(Sum.inl n:Key)) ∘ fun (p:Int × Int)=>p.1:=rfl
 rw [e,← List.map_map]
 unfold List.Nodup at h ⊢
 rw [List.pairwise_map]
 exact h.imp fun q z=>q (Sum.inl.inj z)
theorem jf5 {H:Hp}:∀ {xs:List V} {ps:List (Int × Int)},Prs H xs ps→Paired (PairAt H) xs (jbk ps)
 | _,_,.nil=>.nil
 | _,_,.cons r t=>by
  obtain ⟨a,e,q⟩:=r
  exact .cons ⟨a,e,q⟩ (jf5 t)
theorem jfb:∀ {ps:List (Int × Int)} {p:Int × Int},(ps.map (·.1)).Nodup→p ∈ ps→valV (jbk ps) (Sum.inl p.1:Key) = some (.int p.2)
 | [],_,_,h=>by cases h
 | q :: r,p,hn,h=>by
  rw [List.map_cons] at hn
  unfold jbk valV
  rw [List.map_cons,List.find?_cons]
  rcases List.mem_cons.mp h with e | h
  ·rw [e]
   simp
  ·have hne:q.1 ≠ p.1:=fun z=>(List.nodup_cons.mp hn).1 (by rw [z]; exact List.mem_map_of_mem h)
   have hd:decide ((Sum.inl q.1:Key) = Sum.inl p.1) = false:=decide_eq_false fun z=>hne (Sum.inl.inj z)
   dsimp only
   rw [hd]
   exact jfb (List.nodup_cons.mp hn).2 h
theorem jnn {ps:List (Int × Int)} {p:Int × Int} (hn:(ps.map (·.1)).Nodup) (h:p ∈ ps):hasK (jbk ps) p.1 = true:=by
 unfold hasK
 rw [jfb hn h]
 rfl
def jet:Sp:=fun vs H Q _=>∃ a xs ps,vs = [.ref a]∧H a = some (.lst xs)∧Prs H xs ps∧ps.length ≤ 40∧PlOk (-1) 0 ps∧∀ H',Same H H'→Q .non H'
def jgj:Sp:=fun vs H Q _=>∃ a d xs ts kvs,vs = [.ref a,.ref d]∧H a = some (.lst xs)∧H d = some (.dK kvs)∧Prs H xs ts∧ts.length ≤ 120∧TiOk kvs (-1,-1) ts∧∀ H',Same H H'→Q .non H'
def jia:Sp:=fun vs H Q _=>∃ v ps ts,vs = [v]∧jdf H v ps ts∧WebOk ps ts∧∀ H',Same H H'→Q .non H'
theorem jej {f:Addr} {fd:FuncData} {f_is_list_up_to:Addr} {d_is_list_up_to:FuncData} {f_place_stands:Addr} {d_place_stands:FuncData} (B:Blt mg) (C:Cst mg c1 c2 c3 c4) (D:DefAt K mg "look_at_places" (top 16) ["places"] f fd) (D_is_list_up_to:DefAt K mg "is_list_up_to" (top 4) ["thing","most"] f_is_list_up_to d_is_list_up_to) (G_is_list_up_to:FnOk P w K mg base CX0 1 f_is_list_up_to d_is_list_up_to ["thing","most"] jee) (D_place_stands:DefAt K mg "place_stands" (top 14) ["thing","last","spent"] f_place_stands d_place_stands) (G_place_stands:FnOk P w K mg base CX0 3 f_place_stands d_place_stands ["thing","last","spent"] jdx):FnOk P w K mg base CX0 4 f fd ["places"] jet:=by
 have sc:FnScope ["places","last","spent","number","thing"] ["places"] (jac (top 16)):=⟨rfl,rfl,rfl,by decide +kernel,rfl,by decide +kernel,by decide +kernel⟩
 refine D.F.ok sc (fun vs H Q E h=>?_) (fun cdv A outer s H vs Q E hr h=>?_)
 ·obtain ⟨a,xs,ps,rfl,_⟩:=h
  rfl
 obtain ⟨a,xs,ps,rfl,ea,hp,hl,ok,h⟩:=h
 have hlx:xs.length = ps.length:=Paired.length hp
 have hu:=jbo hr
 have hu0:_ < PySem.cLine:=Nat.lt_of_succ_lt hu
 refine ⟨_,(ja5 (jb5 (jbb (jb9 (ja8 G_is_list_up_to (hr.mono (by decide)) rfl D_is_list_up_to.m D_is_list_up_to.F.kp D_is_list_up_to.b .nil jar (ja0 (qv 0) (ja0 (jha (v:=.int 40) rfl C.MOST_PLACES ⟨_,rfl⟩) ja3))))) (ja6 je2) jam) (ja5 (jae (i:=1) sc.nd rfl (Or.inl rfl) (je3 je0 ja2)) (ja5 (jae (i:=2) sc.nd rfl (Or.inl rfl) ja2) (ja6 (jce PassesOwn.never rfl (jms rfl B.enumerate (ja0 (qv 0) ja3)) (jd8 (n:=2) rfl (jah (jad (i:=3) sc.nd rfl (Or.inl rfl)) (jah (jad (i:=4) sc.nd rfl (Or.inl rfl)) jbw))) (ja5 (jb5 (jbb (jb9 (ja8 G_place_stands (hr.mono (by decide)) rfl D_place_stands.m D_place_stands.F.kp D_place_stands.b .nil jar (ja0 (qv 4) (ja0 (qv 1) (ja0 (qv 2) ja3)))))) (ja6 je2) jam) (ja5 (jae (i:=1) sc.nd rfl (Or.inl rfl) (jab q_ix (qv 4) ja2 (fun _ _=>rfl))) (ja6 (qs_aug (i:=2) sc.nd rfl (Or.inl rfl) (jab q_ix (qv 4) ja2 (fun _ _=>rfl)) q_iadd))))))))),?_⟩
 walk_at "RD"
 refine ⟨a,xs,40,rfl,ea,?_⟩
 rw [decide_eq_true (show (xs.length:Int) ≤ 40 by omega)]
 walk_at "RD"
 refine ⟨a,rfl,⟨xs,SqL.of ea⟩,jkx (K:=K) (a:=a) (xs:=xs) (fun i σ H1=>∃ l sp nb th,σ = [some (.ref a),some (.int l),some (.int sp),nb,th]∧Same H H1∧PlOk l sp (ps.drop i)) ⟨-1,0,none,none,rfl,Same.refl _,ok⟩ (fun i σ H1 _ ⟨_,_,_,_,_,s1,_⟩=>SqL.of (s1 _ _ ea)) ?_ ?_⟩
 ·rintro i x σ H1 t hi ⟨l,sp,nb,th,rfl,s1,ok1⟩ ht
  obtain ⟨p,hpi,px⟩:=jaf hp hi
  rw [jcm hpi] at ok1
  have s2:Same H (upd H1 t (.tup [.int i,x])):=s1.trans (ja4 ht _)
  have px2:=px.same s2
  obtain ⟨u,rfl,eu⟩:=id px2
  simp_arith [ja1]
  refine ⟨_,p,l,sp,rfl,px2,ok1.1,?_⟩
  simp_arith [jag,eu,at0,at1]
  exact ⟨_,_,_,_,rfl,s2,ok1.2⟩
 ·rintro σ H1 ⟨l,sp,nb,th,rfl,s1,_⟩
  exact h H1 s1
theorem jfr {f:Addr} {fd:FuncData} {f_is_list_up_to:Addr} {d_is_list_up_to:FuncData} {f_tie_stands:Addr} {d_tie_stands:FuncData} (B:Blt mg) (C:Cst mg c1 c2 c3 c4) (D:DefAt K mg "look_at_ties" (top 17) ["ties","prices"] f fd) (D_is_list_up_to:DefAt K mg "is_list_up_to" (top 4) ["thing","most"] f_is_list_up_to d_is_list_up_to) (G_is_list_up_to:FnOk P w K mg base CX0 1 f_is_list_up_to d_is_list_up_to ["thing","most"] jee) (D_tie_stands:DefAt K mg "tie_stands" (top 15) ["thing","last","prices"] f_tie_stands d_tie_stands) (G_tie_stands:FnOk P w K mg base CX0 3 f_tie_stands d_tie_stands ["thing","last","prices"] jfg):FnOk P w K mg base CX0 4 f fd ["ties","prices"] jgj:=by
 have sc:FnScope ["ties","prices","last","number","thing"] ["ties","prices"] (jac (top 17)):=⟨rfl,rfl,rfl,by decide +kernel,rfl,by decide +kernel,by decide +kernel⟩
 refine D.F.ok sc (fun vs H Q E h=>?_) (fun cdv A outer s H vs Q E hr h=>?_)
 ·obtain ⟨a,d,xs,ts,kvs,rfl,_⟩:=h
  rfl
 obtain ⟨a,d,xs,ts,kvs,rfl,ea,ed,hp,hl,ok,h⟩:=h
 have hlx:xs.length = ts.length:=Paired.length hp
 have hu:=jbo hr
 have hu0:_ < PySem.cLine:=Nat.lt_of_succ_lt hu
 refine ⟨_,(ja5 (jb5 (jbb (jb9 (ja8 G_is_list_up_to (hr.mono (by decide)) rfl D_is_list_up_to.m D_is_list_up_to.F.kp D_is_list_up_to.b .nil jar (ja0 (qv 0) (ja0 (jha (v:=.int 120) rfl C.MOST_TIES ⟨_,rfl⟩) ja3))))) (ja6 je2) jam) (ja5 (jae (i:=2) sc.nd rfl (Or.inl rfl) (jb7 (ja0 (je3 je0 ja2) (ja0 (je3 je0 ja2) ja3)))) (ja6 (jce PassesOwn.never rfl (jms rfl B.enumerate (ja0 (qv 0) ja3)) (jd8 (n:=2) rfl (jah (jad (i:=3) sc.nd rfl (Or.inl rfl)) (jah (jad (i:=4) sc.nd rfl (Or.inl rfl)) jbw))) (ja5 (jb5 (jbb (jb9 (ja8 G_tie_stands (hr.mono (by decide)) rfl D_tie_stands.m D_tie_stands.F.kp D_tie_stands.b .nil jar (ja0 (qv 4) (ja0 (qv 2) (ja0 (qv 1) ja3)))))) (ja6 je2) jam) (ja6 (jae (i:=2) sc.nd rfl (Or.inl rfl) (qv 4)))))))),?_⟩
 walk_at "RD"
 refine ⟨a,xs,120,rfl,ea,?_⟩
 rw [decide_eq_true (show (xs.length:Int) ≤ 120 by omega)]
 walk_at "RD"
 intro t0 ht0
 refine ⟨a,rfl,⟨xs,SqL.of (ja4 ht0 _ _ _ ea)⟩,jkx (K:=K) (a:=a) (xs:=xs) (fun i σ H1=>∃ lv q nb th,σ = [some (.ref a),some (.ref d),some lv,nb,th]∧Same H H1∧Pr H1 lv q∧TiOk kvs q (ts.drop i)) ⟨_,(-1,-1),none,none,rfl,ja4 ht0 _,⟨t0,rfl,ja1⟩,ok⟩ (fun i σ H1 _ ⟨_,_,_,_,_,s1,_⟩=>SqL.of (s1 _ _ ea)) ?_ ?_⟩
 ·rintro i x σ H1 t hi ⟨lv,q,nb,th,rfl,s1,pq,ok1⟩ ht
  obtain ⟨p,hpi,px⟩:=jaf hp hi
  rw [jcm hpi] at ok1
  have s2:Same H (upd H1 t (.tup [.int i,x])):=s1.trans (ja4 ht _)
  have px2:=px.same s2
  simp_arith [ja1]
  refine ⟨_,p,_,q,d,kvs,rfl,px2,pq.same (ja4 ht _),s2 _ _ ed,ok1.1,?_⟩
  walk_at "RD"
  exact ⟨_,_,_,_,rfl,s2,px2,ok1.2⟩
 ·rintro σ H1 ⟨lv,q,nb,th,rfl,s1,_⟩
  exact h H1 s1
theorem jg7 {f:Addr} {fd:FuncData} {f_is_tuple_of:Addr} {d_is_tuple_of:FuncData} {f_look_at_places:Addr} {d_look_at_places:FuncData} {f_look_at_ties:Addr} {d_look_at_ties:FuncData} (B:Blt mg) (D:DefAt K mg "look_at_web" (top 18) ["thing"] f fd) (D_is_tuple_of:DefAt K mg "is_tuple_of" (top 2) ["thing","many"] f_is_tuple_of d_is_tuple_of) (G_is_tuple_of:FnOk P w K mg base CX0 1 f_is_tuple_of d_is_tuple_of ["thing","many"] jff) (D_look_at_places:DefAt K mg "look_at_places" (top 16) ["places"] f_look_at_places d_look_at_places) (G_look_at_places:FnOk P w K mg base CX0 4 f_look_at_places d_look_at_places ["places"] jet) (D_look_at_ties:DefAt K mg "look_at_ties" (top 17) ["ties","prices"] f_look_at_ties d_look_at_ties) (G_look_at_ties:FnOk P w K mg base CX0 4 f_look_at_ties d_look_at_ties ["ties","prices"] jgj):FnOk P w K mg base CX0 5 f fd ["thing"] jia:=by
 have sc:FnScope ["thing"] ["thing"] (jac (top 18)):=⟨rfl,rfl,rfl,by decide +kernel,rfl,by decide +kernel,by decide +kernel⟩
 refine D.F.ok sc (fun vs H Q E h=>?_) (fun cdv A outer s H vs Q E hr h=>?_)
 ·obtain ⟨v,ps,ts,rfl,_⟩:=h
  rfl
 obtain ⟨v,ps,ts,rfl,hw,ok,h⟩:=h
 obtain ⟨u,pa,ta,xs,ys,rfl,eu,ep,et,pp,pt⟩:=hw
 have hlx:xs.length = ps.length:=Paired.length pp
 have okl:=ok.pl
 have hu:=jbo hr
 have hu0:_ < PySem.cLine:=Nat.lt_of_succ_lt hu
 refine ⟨_,(ja5 (jb5 (jbb (jb9 (ja8 G_is_tuple_of (hr.mono (by decide)) rfl D_is_tuple_of.m D_is_tuple_of.F.kp D_is_tuple_of.b .nil jar (ja0 (qv 0) (ja0 ja2 ja3))))) (ja6 je2) jam) (ja5 (jcn (ja8 G_look_at_places (hr.mono (by decide)) rfl D_look_at_places.m D_look_at_places.F.kp D_look_at_places.b .nil jar (ja0 (jab q_ix (qv 0) ja2 (fun _ _=>rfl)) ja3))) (ja6 (jcn (ja8 G_look_at_ties (hr.mono (by decide)) rfl D_look_at_ties.m D_look_at_ties.F.kp D_look_at_ties.b .nil jar (ja0 (jab q_ix (qv 0) ja2 (fun _ _=>rfl)) (ja0 (jat (jjh rfl) rfl B.dict PyProof.Rows.boot_dict (ja0 (jab q_ix (qv 0) ja2 (fun _ _=>rfl)) ja3)) ja3))))))),?_⟩
 walk_at "RD"
 refine ⟨u,_,2,rfl,eu,?_⟩
 simp_arith [jag,eu,at0,at1,Int.cast_ofNat_Int,decide_true]
 refine ⟨pa,xs,ps,rfl,ep,pp,ok.pl,ok.p,fun H1 s1=>?_⟩
 simp_arith [jag,s1 _ _ eu,s1 _ _ ep,at0,at1]
 refine ⟨jbk ps,jf5 (Prs.same s1 pp),by omega,jen ok.p.nodup,fun d hd=>?_⟩
 have s2:Same H (upd H1 d (.dK (jbk ps))):=s1.trans (ja4 hd _)
 exact ⟨ta,d,ys,ts,_,rfl,s2 _ _ et,ja1,Prs.same s2 pt,ok.tl,ok.t,fun H3 s3=>h H3 (s2.trans s3)⟩
end
end My
namespace My
open PySem L2
section
variable {P:Program} {w:World} {K:PySem.W.Frag} {mg:Str→Option Value} {base:Heap} {c1 c2 c3 c4:Tok}
theorem ix30:ixN 3 0 = some 0:=rfl
theorem ix31:ixN 3 1 = some 1:=rfl
theorem ix32:ixN 3 2 = some 2:=rfl
def StO (o:HO):Prop:=∃ c st fl,o = .lst [.int c,.int st,.bl fl]∧0 ≤ st∧st < 4294967296
theorem StO.imm {o:HO} (h:StO o):jnj o = false:=by obtain ⟨_,_,_,rfl,_⟩:=h; rfl
def jmd (K:PySem.W.Frag):Sp:=fun vs H Q _=>∃ a k ns,vs = [.ref a,.int k]∧Scr K H a ns∧0 ≤ k∧k ≤ 1000∧∀ s o,H s = none→StO o→Q (.ref s) (upd H s o)
def jgi:Sp:=fun vs H Q _=>∃ s o m,vs = [.ref s,.int m]∧H s = some o∧StO o∧1 ≤ m∧m < 1000000000000000000∧∀ d o,0 ≤ d→d < m→StO o→Q (.int d) (upd H s o)
theorem cmR {i j:Int} (h1:-(2 ^ 64) < j) (h2:j < 2 ^ 64):CMul i j:=.inr ⟨h1,h2⟩
theorem cmL {i j:Int} (h1:-(2 ^ 64) < i) (h2:i < 2 ^ 64):CMul i j:=.inl ⟨h1,h2⟩
def But (s:Addr) (H H':Hp):Prop:=∀ b o,b ≠ s→H b = some o→H' b = some o
theorem But.refl (s:Addr) (H:Hp):But s H H:=fun _ _ _ q=>q
theorem But.trans {s:Addr} {H H1 H2:Hp} (a:But s H H1) (b:But s H1 H2):But s H H2:=fun c o n q=>b c o n (a c o n q)
theorem But.at (s:Addr) (H:Hp) (o:HO):But s H (upd H s o):=fun b u n q=>by rw [jaa n]; exact q
theorem But.new {s t:Addr} {H:Hp} {o:HO} (h:H t = none):But s H (upd H t o):=fun b u n q=>by rw [jaa (ja7 q h)]; exact q
theorem But.tups {s:Addr} {H H':Hp} (h:But s H H') {o:HO} (e:H s = some o) (i:jnj o = false):TupS H H':=fun b u z q=>h b u (fun x=>by rw [x,e] at q; cases q; rw [i] at z; cases z) q
theorem at3 {α:Type} {x y z u:α} {r:List α}:atI (x :: y :: z :: u :: r) 3 = some u:=by
 have e:atI (x :: y :: z :: u :: r) ((3:Nat):Int) = some u:=jcr rfl
 exact e
theorem menu4 {a b c e d:Int} (h0:0 ≤ d) (h1:d < 4):∃ v,atI [V.int a,.int b,.int c,.int e] d = some (.int v)∧(v = a ∨ v = b ∨ v = c ∨ v = e):=by
 have hd:d = 0 ∨ d = 1 ∨ d = 2 ∨ d = 3:=by omega
 rcases hd with rfl | rfl | rfl | rfl
 ·exact ⟨a,at0,.inl rfl⟩
 ·exact ⟨b,at1,.inr (.inl rfl)⟩
 ·exact ⟨c,at2,.inr (.inr (.inl rfl))⟩
 ·exact ⟨e,at3,.inr (.inr (.inr rfl))⟩
def jog (H H':Hp) (t:Addr) (ps ts:List (Int × Int)):Prop:=∃ l1 l2 xs ys,H l1 = none∧H l2 = none∧l1 ≠ l2∧H' t = some (.tup [.ref l1,.ref l2])∧H' l1 = some (.lst xs)∧H' l2 = some (.lst ys)∧Prs H' xs ps∧Prs H' ys ts
def jpr:Sp:=fun vs H Q _=>∃ v ps ts,vs = [v]∧jdf H v ps ts∧∀ t H',Same H H'→jog H H' t ps ts→Q (.ref t) H'
theorem jjl {f:Addr} {fd:FuncData}  (B:Blt mg) (D:DefAt K mg "_law_take" (top 30) ["_law_state","_law_many"] f fd):FnOk P w K mg base CX0 1 f fd ["_law_state","_law_many"] jgi:=by
 have sc:FnScope ["_law_state","_law_many","_law_digit","_law_number"] ["_law_state","_law_many"] (jac (top 30)):=⟨rfl,rfl,rfl,by decide +kernel,rfl,by decide +kernel,by decide +kernel⟩
 refine D.F.ok sc (fun vs H Q E h=>?_) (fun cdv A outer s H vs Q E hr h=>?_)
 ·obtain ⟨s,o,m,rfl,_⟩:=h
  rfl
 obtain ⟨st,o,m,rfl,es,⟨c,x,fl,rfl,x0,x1⟩,m0,m1,h⟩:=h
 have hu:=jbo hr
 have hu0:_ < PySem.cLine:=Nat.lt_of_succ_lt hu
 refine ⟨_,(ja5 (jb5 (jb9 (jab q_ix (qv 0) ja2 (fun _ _=>rfl))) (ja5 (jae (i:=2) sc.nd rfl (Or.inl rfl) (jap jig (jab q_ix (qv 0) ja2 (fun _ _=>rfl)) (qv 1))) (ja5 (jcl (jap jqp (jab q_ix (qv 0) ja2 (fun _ _=>rfl)) (qv 1)) (jcv (qv 0) ja2 jct)) (ja5 (jcl (jbx q_gt (jab q_ix (qv 0) ja2 (fun _ _=>rfl)) ja2 (jaj _)) (jcv (qv 0) ja2 jct)) (ja6 (jan (qv 2)))))) jam) (ja5 (jcl (jap jig (jap jbr (jap jeg (jab q_ix (qv 0) ja2 (fun _ _=>rfl)) ja2) ja2) ja2) (jcv (qv 0) ja2 jct)) (ja5 (jae (i:=3) sc.nd rfl (Or.inl rfl) (jap jkj (jap jig (jap jeg (jab q_ix (qv 0) ja2 (fun _ _=>rfl)) (jab q_ix (qv 0) ja2 (fun _ _=>rfl))) ja2) ja2)) (ja5 (jb5 (jaq q_gt (qv 1) (jap jqo ja2 ja2) (jaj _)) (ja5 (jcl (jap jig (jap jbr (jap jeg (jab q_ix (qv 0) ja2 (fun _ _=>rfl)) ja2) ja2) ja2) (jcv (qv 0) ja2 jct)) (ja6 (jae (i:=3) sc.nd rfl (Or.inl rfl) (jap jbr (jap jeg (qv 3) ja2) (jab q_ix (qv 0) ja2 (fun _ _=>rfl)))))) jam) (ja6 (jan (jap jig (qv 3) (qv 1)))))))),?_⟩
 simp_arith [jag,es,at0,at1,at2,ix30,ix31,ix32,ja1,jed]
 have lo:∀ n:Int,0 ≤ n % m:=fun n=>Int.emod_nonneg _ (by omega)
 have hi:∀ n:Int,n % m < m:=fun n=>Int.emod_lt_of_pos _ (by omega)
 have y0:0 ≤ (x * 48271 + 39373) % 2147483647:=Int.emod_nonneg _ (by decide)
 have y1:(x * 48271 + 39373) % 2147483647 < 2147483647:=Int.emod_lt_of_pos _ (by decide)
 generalize (x * 48271 + 39373) % 2147483647 = y at y0 y1
 have z0:0 ≤ (y * 48271 + 39373) % 2147483647:=Int.emod_nonneg _ (by decide)
 have z1:(y * 48271 + 39373) % 2147483647 < 2147483647:=Int.emod_lt_of_pos _ (by decide)
 generalize (y * 48271 + 39373) % 2147483647 = z at z0 z1
 have cd:CDivB c m:=⟨by omega,by omega⟩
 have cd2:∀ n:Int,CDiv n 16:=fun n=>⟨by decide,by decide⟩
 have cp:CPow 10 6:=⟨by decide,by decide,by decide⟩
 refine ite2 (fun _=>⟨by omega,cd,h _ _ (lo _) (hi _) ⟨_,_,_,rfl,x0,x1⟩⟩) (fun _=>⟨cmR (by decide) (by decide),by decide,cmL (by omega) (by omega),by decide,cd2 _,cp,?_⟩)
 refine ite2 (fun _=>⟨cmR (by decide) (by decide),by decide,cmR (by decide) (by decide),by omega,h _ _ (lo _) (hi _) ⟨_,_,_,rfl,z0,by omega⟩⟩) (fun _=>⟨by omega,h _ _ (lo _) (hi _) ⟨_,_,_,rfl,y0,by omega⟩⟩)
theorem jin {f:Addr} {fd:FuncData}  (B:Blt mg) (D:DefAt K mg "_law_begun" (top 29) ["_law_script","_law_k"] f fd):FnOk P w K mg base CX0 1 f fd ["_law_script","_law_k"] (jmd K):=by
 have sc:FnScope ["_law_script","_law_k","_law_cell","_law_mixed"] ["_law_script","_law_k"] (jac (top 29)):=⟨rfl,rfl,rfl,by decide +kernel,rfl,by decide +kernel,by decide +kernel⟩
 refine D.F.ok sc (fun vs H Q E h=>?_) (fun cdv A outer s H vs Q E hr h=>?_)
 ·obtain ⟨a,k,ns,rfl,_⟩:=h
  rfl
 obtain ⟨a,k,ns,rfl,hs,k0,k1,h⟩:=h
 have hu:=jbo hr
 have hu0:_ < PySem.cLine:=Nat.lt_of_succ_lt hu
 refine ⟨_,(ja5 (jae (i:=2) sc.nd rfl (Or.inl rfl) ja2) (ja5 (jb5 (jaq q_lt (qv 1) (ja9 jde rfl B.len PySem.boot_len (ja0 (qv 0) ja3)) (jaj _)) (ja6 (jae (i:=2) sc.nd rfl (Or.inl rfl) (jab jnh (qv 0) (qv 1) (fun _ _=>rfl)))) jam) (ja5 (jae (i:=3) sc.nd rfl (Or.inl rfl) (jap jbr (jap jbr (jap jig (qv 2) ja2) (jap jeg ja2 (qv 1))) (jap jeg ja2 (jap jkj (qv 1) ja2)))) (ja6 (jan (jc1 (ja0 (qv 2) (ja0 (jap jig (qv 3) ja2) (ja0 (jbx q_ge (qv 2) (jap jqo ja2 ja2) (jaj _)) ja3))))))))),?_⟩
 walk_at "RD"
 refine ⟨a,_,rfl,.inl hs.sq,?_⟩
 simp_arith [List.length_map,rIxL]
 have q0:∀ n:Int,0 ≤ n % 2147483629:=fun n=>Int.emod_nonneg _ (by decide)
 have q1:∀ n:Int,n % 2147483629 < 2147483629:=fun n=>Int.emod_lt_of_pos _ (by decide)
 have cp:CPow 10 18:=⟨by decide,by decide,by decide⟩
 have cd:CDiv k 7:=⟨by decide,by decide⟩
 refine ite2 (fun c=>?_) (fun c=>?_)
 ·have c':k < (ns.length:Int):=of_decide_eq_true c
  have hk:k.toNat < ns.length:=by omega
  have e1:atI (ns.map V.int) ((k.toNat:Nat):Int) = some (.int ns[k.toNat]):=jcr (by rw [List.getElem?_map,List.getElem?_eq_getElem hk]; rfl)
  rw [show ((k.toNat:Nat):Int) = k by omega] at e1
  refine ⟨a,_,k,_,rfl,rfl,hs.sq,e1,?_⟩
  walk_at "RD"
  exact ⟨by decide,cmL (by decide) (by decide),cd,cmL (by decide) (by decide),by decide,cp,fun p hp=>h p _ hp ⟨_,_,_,rfl,q0 _,by have:=q1 (ns[k.toNat] % 2147483629 + 104729 * k + 7919 * (k / 7)); omega⟩⟩
 ·exact ⟨by decide,cmL (by decide) (by decide),cd,cmL (by decide) (by decide),by decide,cp,fun p hp=>h p _ hp ⟨_,_,_,rfl,q0 _,by have:=q1 (0 % 2147483629 + 104729 * k + 7919 * (k / 7)); omega⟩⟩
end
end My
namespace So
open PySem PySem.Spec PyProof.Rows
section
variable {prog:Program} {w:World} {s:Shared}
end
end So
namespace L2
open PySem PySem.Spec PyProof.Rows
def Tp (H:Hp) (v:V) (p:Int × Int × Int):Prop:=∃ a,v = .ref a∧H a = some (.tup [.int p.1,.int p.2.1,.int p.2.2])
abbrev Tps (H:Hp) (xs:List V) (ps:List (Int × Int × Int)):Prop:=Paired (Tp H) xs ps
end L2
namespace L2
open PySem PySem.Spec PyProof.Rows
section
variable {X:Cx}
def jiz:R2:=fun x y H Q=>match x,y with
 | .ref a,.ref b=>match H a,H b with
  | some (.tup xs),some (.tup ys)=>xs.length + ys.length ≤ sizeLine∧ys ≠ []∧if xs = [] then Q (.ref b) H else ∀ p,H p = none→Q (.ref p) (upd H p (.tup (xs ++ ys)))
  | _,_=>False
 | _,_=>False
theorem jgm:OpR X (binaryOp .Add) jiz:=by
 intro pins s σ H x y v u Q I rx ry h
 unfold jiz at h
 split at h
 ·rename_i a b
  split at h
  ·rename_i xs ys ha hb
   obtain ⟨hz,hy,h⟩:=h
   by_cases c:xs = []
   ·rw [if_pos c] at h
    subst c
    cases rx
    cases ry
    obtain ⟨its,r1,p1,_⟩:=I.tuple (SqT.of ha)
    obtain ⟨its2,r2,p2,_⟩:=I.tuple (SqT.of hb)
    cases r1
    obtain ⟨⟨cls,dd,data,sl⟩,ho,hc,n,hd⟩:=id p1
    obtain ⟨⟨cls2,dd2,data2,sl2⟩,ho2,hc2,n2,hd2⟩:=id p2
    simp only at hc hd hc2 hd2
    subst hc hd hc2 hd2
    exact concat_meets (T:="tuple") ⟨_,ho,rfl⟩ ⟨_,ho2,rfl⟩ noFill_tuple_add seq_tuple_add PySem.F.slot_tuple_add PySem.F.entry_tuple_add (PySem.F.args_tuple_add_2 _ _) (tuple_addW0 a b _ _ n n2 dd dd2 sl sl2 (by simp)) ⟨ho,ho2,⟨.ref b,H,I,rfl,h⟩⟩
   ·rw [if_neg c] at h
    exact jmy pins s σ H _ _ v u Q I rx ry ⟨a,b,xs,ys,rfl,rfl,SqT.of ha,SqT.of hb,c,hz,fun z=>absurd z hy,fun _=>h⟩
  ·exact h.elim
 ·exact h.elim
theorem q_popI:MtR X "list.pop" jpw:=fun pins s σ H x xs v us Q I rx rv q=>jp2 pins s σ H x xs v us Q I rx rv q
end
end L2
namespace L2
open PySem PySem.Spec PyProof.Rows
theorem jr3 {K:PySem.W.Frag} {a c:Addr} {xs ys:List V} {g:TG} {tb:TS} {D:Ends} {σ:St} {H:Hp} (Pv:Nat→St→Hp→Prop) (hxy:xs.length = ys.length) (h0:Pv 0 σ H) (hl:∀ i σ H,i ≤ xs.length→Pv i σ H→SqL K H a xs∧SqL K H c ys)
  (hs:∀ i x y σ H t,xs[i]? = some x→ys[i]? = some y→Pv i σ H→H t = none→g (.ref t) σ (upd H t (.tup [x,y])) fun σ2 H2=>tb { D with nx:=Pv (i + 1),ct:=Pv (i + 1),bk:=D.nx } σ2 H2) (hd:∀ σ H,Pv xs.length σ H→D.nx σ H) :
  ∃ W:Nat→Nat→St→Hp→Prop,(∃ m,W 0 m σ H)∧∀ i m σ H,W i m σ H →
   ((Itz true K a c).stop i H∧D.nx σ H) ∨ ((Itz true K a c).go i H∧∃ N:St→Hp→Prop,(∀ σ' H',N σ' H'→∃ m',m' < m∧W (i + 1) m' σ' H')∧∀ x H',(Itz true K a c).yld i H x H'→g x σ H' fun σ2 H2=>tb { D with nx:=N,ct:=N,bk:=D.nx } σ2 H2):=by
 refine ⟨fun i m σ H=>m = xs.length - i∧i ≤ xs.length∧Pv i σ H,⟨xs.length,by simp,Nat.zero_le _,h0⟩,?_⟩
 rintro i m σ H ⟨rfl,hi,p⟩
 obtain ⟨q1,q2⟩:=hl i σ H hi p
 have q1':SqB true K H a xs:=by unfold SqB; rw [if_pos rfl]; exact q1
 have q2':SqB true K H c ys:=by unfold SqB; rw [if_pos rfl]; exact q2
 by_cases hlt:i < xs.length
 ·refine .inr ⟨⟨xs,ys,xs[i],ys[i]'(by omega),q1',q2',by simp [hlt],by simp [show i < ys.length by omega]⟩,Pv (i + 1),fun σ' H' p'=>⟨xs.length - (i + 1),by omega,rfl,hlt,p'⟩,fun x H' y=>?_⟩
  obtain ⟨t,z1,z2,ht,e1,e2,y1,y2⟩:=y
  subst e1 e2
  exact hs i z1 z2 σ _ t (y1 xs q1') (y2 ys q2') p ht
 ·have e:i = xs.length:=by omega
  subst e
  exact .inl ⟨⟨xs,ys,q1',q2',.inl (Nat.le_refl _)⟩,hd σ H p⟩
end L2
namespace L2
open PySem PySem.Spec PyProof.Rows
section
variable {X:Cx}
def jr5:V→List V→Hp→VK→Prop:=fun x vs H Q=>match x,vs with
 | .ref l,[.int k,y]=>match H l with
  | some (.lst xs)=>(0 ≤ k∧k ≤ xs.length∧xs.length < 1000)∧Q .non (upd H l (.lst (xs.take k.toNat ++ y :: xs.drop k.toNat)))
  | _=>False
 | _,_=>False
theorem jp8 (its:List Value) (k:Int) (u:Value) (h0:0 ≤ k) (h1:k ≤ its.length) :
  (fun xs:Array Value=>have j:=if k < 0 then (k + (xs.size:Int)).toNat else min k.toNat xs.size; (xs.extract 0 j).push u ++ xs.extract j) its.toArray = (its.take k.toNat ++ u :: its.drop k.toNat).toArray:=by
 have e:(if k < 0 then (k + (its.toArray.size:Int)).toNat else min k.toNat its.toArray.size) = k.toNat:=by
  rw [if_neg (by omega),List.size_toArray]
  omega
 show ((its.toArray.extract 0 (if k < 0 then (k + (its.toArray.size:Int)).toNat else min k.toNat its.toArray.size)).push u ++ its.toArray.extract (if k < 0 then (k + (its.toArray.size:Int)).toNat else min k.toNat its.toArray.size)) = _
 rw [e]
 apply Array.ext'
 simp
 exact List.take_of_length_le (by rw [List.length_drop]; omega)
theorem q_insS:MtR X "list.insert" jr5:=by
 intro pins s σ H x vs v us Q I rx rv h
 unfold jr5 at h
 split at h
 ·rename_i l k y
  split at h
  ·rename_i xs hH
   obtain ⟨⟨h0,h1,hz⟩,q⟩:=h
   cases rx
   obtain ⟨u1,u2,rfl,r1,r2⟩:=rv.two
   obtain ⟨t,rfl⟩:=r1
   obtain ⟨z,its,n,r,hl,e⟩:=I.lstM hH
   have hsz:its.toArray.size ≤ sizeLine:=by rw [List.size_toArray,sizeLine_eq]; omega
   refine call_meets F.slot_list_insert ⟨_,e,rfl⟩ F.entry_list_insert (F.args_list_insert_3 _ _ _) (PySem.AutoSeq1.list_insert_list_int_val_1 l its.toArray n k t u2 (by unfold Builtin.List.listFitsIndex; simp; omega) hsz) ⟨e,?_⟩
   refine ⟨.non,_,I.lset (its':=its.take k.toNat ++ u2 :: its.drop k.toNat) hH e (jp8 its k u2 h0 (by omega)) (Vals.append (r.take _) (.cons r2 (r.drop _))) ?_,rfl,q⟩
   rw [List.length_append,List.length_cons,List.length_take,List.length_drop,sizeLine_eq]
   omega
  ·exact h.elim
 ·exact h.elim
end
end L2
namespace L2
open PySem PySem.Spec PyProof.Rows
section
variable {prog:Program} {w:World} {A:Around} {E:Value→Shared→Prop} {s:Shared}
end
end L2
namespace L2
open PySem PySem.Spec PyProof.Rows
def jem {K:Type} [DecidableEq K] (xs:List (K × Addr × Value)):List (K × Addr × Value)→List (K × Addr × Value)
 | []=>xs
 | q :: r=>jem (storedH xs q.1 q.2.1 q.2.2) r
theorem jjg {K:Type} [DecidableEq K] (xs:List (K × Addr × Value)) (k:K) (a:Addr) (v:Value):(storedH xs k a v).length ≤ xs.length + 1:=by
 unfold storedH
 split
 ·rw [List.length_map]; omega
 ·rw [List.length_append]; exact Nat.le_refl _
section
variable {prog:Program} {w:World} {A:Around} {E:Value→Shared→Prop} {R:Result→Shared→Prop}
abbrev TK (prog:Program) (w:World):HeapKind prog w (List Key):=tupleKind (jba prog w)
theorem jdj {h h':Heap} {d:Addr} {xs:List (List Key × Addr × Value)} (hd:h.DictOfH (TK prog w) d xs) (k0:∀ o,h.get? d = some o→h'.get? d = some o) (k1:∀ b o,o.cls = .type "tuple"→h.get? b = some o→h'.get? b = some o):h'.DictOfH (TK prog w) d xs:=by
 obtain ⟨o,es,ep,e1,e2,e3,e4,e5,e6⟩:=hd
 refine ⟨o,es,ep,k0 _ e1,e2,e3,e4,fun x hx=>?_,e6⟩
 obtain ⟨o2,its,n,f1,f2,f3⟩:=e5 x hx
 exact ⟨o2,its,n,k1 _ _ f2 f1,f2,f3⟩
theorem jln {d it l:Addr} {its:Array Value} {more:List (List Key × Addr × Value)} (hh:A.handled = none) (hu:A.in1.units < cLine) (hlen:more.length = its.size) (hsz:its.size ≤ 1000) (hdl:l ≠ d) (hdi:it ≠ d) (hil:l ≠ it) :
  ∀ (k i:Nat) (tk0:Tok) (s:Shared) (kvs:List (List Key × Addr × Value)),its.size - i = k→i ≤ its.size→kvs.length ≤ i→s.heap.IsListIter it l i→s.heap.IsList l its→s.heap.DictOfH (TK prog w) d kvs →
   (∀ (j:Nat) (q:List Key × Addr × Value),more[j]? = some q→∃ t,its[j]? = some (.ref t)∧s.heap.IsTuple t #[.ref q.2.1,q.2.2]∧(TK prog w).is s.heap q.1 q.2.1) →
   (∀ h' tk,h'.DictOfH (TK prog w) d (jem kvs (more.drop i))→(∀ b o,b ≠ d→b ≠ it→s.heap.get? b = some o→h'.get? b = some o)→R (.ok (.ret .none)) { s with heap:=h',toks:=tk }) →
   codeAny (model prog w) A (.builtin "dict.update.loop" ⟨[.ref d,.ref it,.int i tk0,.none],[]⟩) R s:=by
 intro k
 induction k with
 | zero =>
  intro i tk0 s kvs hk hi hkl hit hl hd hp hR
  have e:i = its.size:=by omega
  subst e
  refine codeAny_builtin jb0 ?_
  rw [Around.under_plainId jai _]
  show wpAny _ A.in1 (pyNext (.ref it) >>= _) _ _ s
  refine wpAny_bind (wpAny_pyNext_list_end hh hit hl (by simp) fun h' eb=>?_)
  show wpAny _ A.in1 (Builtin.Dict.addKeywords d [] >>= _) _ _ _
  refine wpAny_bind (wpAny_pure (wpAny_pure ?_))
  refine hR h' s.toks ?_ fun b o _ hb q=>eb b o hb q
  rw [List.drop_eq_nil_of_le (by omega)]
  refine jdj hd (fun o q=>eb d o hdi.symm q) fun b o c q=>eb b o (fun z=>?_) q
  subst z
  obtain ⟨o',e2,c2,_⟩:=hit
  rw [q] at e2; cases e2; rw [c] at c2; exact absurd c2 (by decide)
 | succ k ih =>
  intro i tk0 s kvs hk hi hkl hit hl hd hp hR
  have hlt:i < its.size:=by omega
  have hlm:i < more.length:=by omega
  obtain ⟨t,hu',ht,hkey⟩:=hp i more[i] (by simp [hlm])
  have nit:∀ {b:Addr} {o:Obj},o.cls = .type "tuple"→s.heap.get? b = some o→b ≠ it:=fun {b o} c q z=>by
   subst z
   obtain ⟨o',e2,c2,_⟩:=hit
   rw [q] at e2; cases e2; rw [c] at c2; exact absurd c2 (by decide)
  have nd:∀ {b:Addr} {o:Obj},o.cls = .type "tuple"→s.heap.get? b = some o→b ≠ d:=fun {b o} c q z=>by
   subst z
   obtain ⟨o',_,_,e2,c2,_⟩:=hd
   rw [q] at e2; cases e2; rw [c2.1] at c; exact absurd c (by decide)
  refine codeAny_builtin jb0 ?_
  rw [Around.under_plainId jai _]
  show wpAny _ A.in1 (pyNext (.ref it) >>= _) _ _ s
  refine wpAny_bind (wpAny_pyNext_list_item hit hl hu' fun h1 hit1 sb1=>?_)
  obtain ⟨ot0,et0,ct0,_⟩:=id ht
  have ht1:h1.IsTuple t #[.ref more[i].2.1,more[i].2.2]:=ht.extBut sb1.extBut (nit ct0 et0)
  have keep1:∀ b o,o.cls = .type "tuple"→s.heap.get? b = some o→h1.get? b = some o:=fun b o c q=>sb1.extBut b o (nit c q) q
  have hd1:h1.DictOfH (TK prog w) d kvs:=jdj hd (fun o q=>sb1.extBut d o hdi.symm q) keep1
  have hkey1:(TK prog w).is h1 more[i].1 more[i].2.1:=by
   obtain ⟨o2,its2,n2,f1,f2,f3⟩:=hkey
   exact ⟨o2,its2,n2,keep1 _ _ f2 f1,f2,f3⟩
  show wpAny _ A.in1 (holding [.ref t] _ >>= _) _ _ _
  refine wpAny_bind (wpAny_holding ?_)
  refine wpAny_bind (m:=(Builtin.Dict.pairItems (.ref t)).tryCatch _) ?_
  refine wpAny_tryCatch ?_
  unfold Builtin.Dict.pairItems
  refine wpAny_bind (wpAny_typeOf ht1.typeIs ?_)
  obtain ⟨ot,e1,c1,n1,d1⟩:=id ht1
  rw [if_pos (by decide)]
  refine wpAny_bind (wpAny_seqItems e1 d1 ?_)
  refine wpAny_pure ?_
  show wpAny _ A.in1 (holding [.ref more[i].2.1,more[i].2.2] (dictSet d (.ref more[i].2.1) more[i].2.2)) _ _ _
  refine wpAny_holding (wpAny_dictSet_heap (knd:=TK prog w) hu hkey1 hd1 (fun h2 hd2 sb2=>?_) (by have:=(by decide:1000 ≤ sizeLine); omega))
  replace sb2:Heap.SameBut d h1 h2:=sb2
  have kk:∀ b o,b ≠ d→b ≠ it→s.heap.get? b = some o→h2.get? b = some o:=fun b o b1 b2 q=>sb2.extBut b o b1 (sb1.extBut b o b2 q)
  refine wpAny_pure ⟨plainId_quiet jai _,?_⟩
  have hik:((i:Int) + 1) = ((i + 1:Nat):Int):=by omega
  show codeAny _ _ (.builtin "dict.update.loop" ⟨[.ref d,.ref it,rawInt ((i:Int) + 1),.none],[]⟩) _ _
  rw [hik]
  refine ih (i + 1) 0 _ (storedH kvs more[i].1 more[i].2.1 more[i].2.2) (by omega) (by omega) ?_ (hit1.extBut sb2.extBut hdi) ((hl.extBut sb1.extBut hil).extBut sb2.extBut hdl) hd2 ?_ ?_
  ·have:=jjg kvs more[i].1 more[i].2.1 more[i].2.2
   omega
  ·intro j q hq
   obtain ⟨t',a1,a2,a3⟩:=hp j q hq
   obtain ⟨o3,f1,f2,f3⟩:=a2
   obtain ⟨o4,its4,n4,g1,g2,g3⟩:=a3
   exact ⟨t',a1,⟨o3,kk _ _ (nd f2 f1) (nit f2 f1) f1,f2,f3⟩,⟨o4,its4,n4,kk _ _ (nd g2 g1) (nit g2 g1) g1,g2,g3⟩⟩
  ·intro h' tk hd' k'
   refine hR h' tk ?_ fun b o b1 b2 q=>k' b o b1 b2 (kk b o b1 b2 q)
   rw [List.drop_eq_getElem_cons hlm]
   exact hd'
theorem jg6 {l:Addr} {its:Array Value} {c:Nat} {more:List (List Key × Addr × Value)} {s:Shared} {Q:Value→Shared→Prop} (hh:A.handled = none) (hu:A.in1.in1.units < cLine) (hl:s.heap.get? l = some { cls:=.type "list",dict:=none,data:=.seq its c,slots:=#[] }) (hlen:more.length = its.size) (hsz:its.size ≤ 1000)
  (hp:∀ (j:Nat) (q:List Key × Addr × Value),more[j]? = some q→∃ t,its[j]? = some (.ref t)∧s.heap.IsTuple t #[.ref q.2.1,q.2.2]∧(TK prog w).is s.heap q.1 q.2.1)
  (h:∀ h' tk,h'.DictOfH (TK prog w) s.heap.objs.size (jem [] more)→(∀ b o,s.heap.get? b = some o→h'.get? b = some o)→Q (.ref s.heap.objs.size) { s with heap:=h',toks:=tk }) :
  wpAny (model prog w) A (call (.type "dict") [.ref l]) Q E s:=by
 refine callType_codes (Q₁:=fun obj s₁=>obj = .ref s.heap.objs.size∧s₁ = { s with heap:=s.heap.push { cls:=.type "dict",data:=.dict #[] } }) F.kt_called_dict (F.kt_typeCall_dict_1 _) F.entry_dict_init (kt_code_dict_new _ ⟨rfl,rfl⟩) ?_
 rintro obj s₁ ⟨rfl,rfl⟩
 have hnew:(s.heap.push { cls:=.type "dict",data:=.dict #[] }).DictOfH (TK prog w) s.heap.objs.size []:=Heap.DictOfH.new s.heap
 have hl1:(s.heap.push { cls:=.type "dict",data:=.dict #[] }).get? l = some { cls:=.type "list",dict:=none,data:=.seq its c,slots:=#[] }:=Heap.get?_push_of_some _ hl
 have k1:∀ b o,s.heap.get? b = some o→(s.heap.push { cls:=.type "dict",data:=.dict #[] }).get? b = some o:=fun b o q=>Heap.get?_push_of_some _ q
 have llt:l < s.heap.objs.size:=Heap.lt_size hl
 generalize s.heap.push { cls:=.type "dict",data:=.dict #[] } = h1 at hnew hl1 k1
 refine ⟨hnew.typeIs,F.args_dict_init_2 _ _,?_⟩
 unfold Builtin.«dict.__init__»
 refine wpAny_bind ?_
 unfold Builtin.Dict.selfAndRest
 refine wpAny_bind (wpAny_notOrdered_dict hnew.typeIs ?_)
 show wpAny _ _ (pure (s.heap.objs.size,[Value.ref l])) _ _ _
 refine wpAny_pure ?_
 show wpAny _ _ (Builtin.Dict.updateFrom "dict.__init__" s.heap.objs.size (.ref l) [] .none) _ _ _
 unfold Builtin.Dict.updateFrom
 refine wpAny_bind (wpAny_typeOf (T:="list") ⟨_,hl1,rfl⟩ ?_)
 rw [if_pos (by decide)]
 refine wpAny_bind (jq7 hl1 hh fun h2 tk2 k2=>?_)
 have hl2:=k2 _ _ hl1
 have hd2:h2.DictOfH (TK prog w) s.heap.objs.size []:=jdj hnew (fun o q=>k2 _ _ q) fun b o _ q=>k2 _ _ q
 have dlt:s.heap.objs.size < h2.objs.size:=by obtain ⟨_,_,_,ho,_⟩:=hd2; exact Heap.lt_size ho
 simp only [Option.isNone_none,if_true]
 refine wpAny_bind (wpAny_rule ?_)
 have hL:Heap.IsList h2 l its:=⟨_,hl2,rfl,_,rfl⟩
 refine wpAny_bind (wpAny_pyIter_list (s:={ s with heap:=h2,toks:=tk2 }) hL ?_)
 refine wpAny_pure ⟨plainId_quiet jai _,?_⟩
 have hit:(h2.push { cls:=.type "list_iterator",data:=.fields #[.ref l,.int 0 0] }).IsListIter h2.objs.size l 0:=⟨_,Heap.get?_push_size _ rfl,rfl,rfl⟩
 refine jln (A:=A.in1) (more:=more) hh hu hlen hsz (Nat.ne_of_lt llt) (Nat.ne_of_gt dlt) (Nat.ne_of_lt (Nat.lt_trans llt dlt)) its.size 0 0 { s with heap:=h2.push { cls:=.type "list_iterator",data:=.fields #[.ref l,.int 0 0] },toks:=tk2 } [] rfl (Nat.zero_le _) (Nat.le_refl _) hit (hL.push _) (jdj hd2 (fun o q=>Heap.get?_push_of_some _ q) fun b o _ q=>Heap.get?_push_of_some _ q) ?_ ?_
 ·intro j q hq
  obtain ⟨t,a1,a2,a3⟩:=hp j q hq
  obtain ⟨o,e,r⟩:=a2
  obtain ⟨o4,its4,n4,g1,g2,g3⟩:=a3
  exact ⟨t,a1,⟨o,Heap.get?_push_of_some _ (k2 _ _ (k1 _ _ e)),r⟩,⟨o4,its4,n4,Heap.get?_push_of_some _ (k2 _ _ (k1 _ _ g1)),g2,g3⟩⟩
 ·intro h' tk hd' k'
  rw [List.drop_zero] at hd'
  refine ⟨rfl,h h' tk hd' fun b o q=>k' b o (Nat.ne_of_lt (Heap.lt_size q)) (Nat.ne_of_lt (Heap.lt_size (k2 _ _ (k1 _ _ q)))) (Heap.get?_push_of_some _ (k2 _ _ (k1 _ _ q)))⟩
end
theorem jlr {K:Type} [DecidableEq K] {xs:List (K × Addr × Value)} {k:K} (h:k ∉ xs.map (·.1)):(atKey xs k).isSome = false:=by
 unfold atKey
 rw [Option.isSome_map]
 refine Bool.eq_false_iff.mpr fun z=>?_
 rw [List.find?_isSome] at z
 obtain ⟨x,hx,e⟩:=z
 exact h (by rw [← of_decide_eq_true e]; exact List.mem_map_of_mem hx)
theorem jfw {K:Type} [DecidableEq K]:∀ (more xs:List (K × Addr × Value)),((xs ++ more).map (·.1)).Nodup→jem xs more = xs ++ more
 | [],xs,_=>by rw [jem,List.append_nil]
 | q :: r,xs,h=>by
  have hq:q.1 ∉ xs.map (·.1):=by
   rw [List.map_append,List.nodup_append] at h
   intro z
   exact h.2.2 _ z _ (List.mem_map_of_mem (List.mem_cons_self ..)) rfl
  rw [jem]
  have e:storedH xs q.1 q.2.1 q.2.2 = xs ++ [q]:=by
   unfold storedH
   rw [jlr hq,if_neg Bool.false_ne_true]
  rw [e,jfw r (xs ++ [q]) (by rw [List.append_assoc]; exact h),List.append_assoc]
  rfl
def jht (H:Hp) (v:V) (p:List Key × V):Prop:=∃ t b,v = .ref t∧H t = some (.tup [.ref b,p.2])∧H b = some (.tup (p.1.map kV))
def rDictT:List V→Hp→VK→Prop:=fun vs H Q=>∃ l xs kvs,vs = [.ref l]∧H l = some (.lst xs)∧Paired (jht H) xs kvs∧xs.length ≤ 1000∧(kvs.map (·.1)).Nodup∧∀ d,H d = none→Q (.ref d) (upd H d (.dT kvs))
theorem jfn {X:Cx} {pins:List (Addr × Obj)} {σ:St} {H:Hp} {s:Shared} (I:Inv X pins σ H s):∀ {xs:List V} {kvs:List (List Key × V)} {its:List Value},Paired (jht H) xs kvs→Vals xs its →
  ∃ more:List (List Key × Addr × Value),KT H kvs more∧∀ (j:Nat) (q:List Key × Addr × Value),more[j]? = some q→∃ t,its[j]? = some (.ref t)∧s.heap.IsTuple t #[.ref q.2.1,q.2.2]∧(TK X.prog X.w).is s.heap q.1 q.2.1
 | _,_,_,.nil,.nil=>⟨[],.nil,fun j q h=>by simp at h⟩
 | _,_,_,.cons hp tp,.cons rv tr=>by
  obtain ⟨more,hk,hm⟩:=jfn I tp tr
  obtain ⟨t,b,rfl,ht,hb⟩:=hp
  cases rv
  obtain ⟨_,its',rt,hi⟩:=I.hok t _ ht
  obtain ⟨u1,u2,rfl,r1,r2⟩:=rt.two
  cases (show u1 = Value.ref b from r1)
  refine ⟨(_,b,u2) :: more,.cons ⟨rfl,hb,r2⟩ hk,fun j q h=>?_⟩
  cases j with
  | zero =>
   have e:=(show some _ = some q from h)
   cases e
   exact ⟨t,rfl,hi,jfy I.hok hb⟩
  | succ j =>
   obtain ⟨t2,a1,a2,a3⟩:=hm j q (by simpa using h)
   exact ⟨t2,by simpa using a1,a2,a3⟩
theorem joh {H:Hp}:∀ {kvs:List (List Key × V)} {xs:List (List Key × Addr × Value)},KT H kvs xs→kvs.map (·.1) = xs.map (·.1)
 | _,_,.nil=>rfl
 | _,_,.cons r t=>by rw [List.map_cons,List.map_cons,r.1,joh t]
theorem jlp {X:Cx} (hc:X.calm = true) (hu:X.A.units + 64 < cLine):jch X (.type "dict") rDictT:=by
 intro pins s σ H vs us Q I rv h
 obtain ⟨l,xs,kvs,rfl,hl,hp,hz,hn,q⟩:=h
 obtain ⟨u,rfl,ru⟩:=rv.one
 cases ru
 obtain ⟨z,its,n,r,hlen,e⟩:=I.lstM hl
 obtain ⟨more,hkv,hm⟩:=jfn I hp r
 have hlm:kvs.length = more.length:=Paired.length hkv
 have hlx:xs.length = kvs.length:=Paired.length hp
 refine jg6 (more:=more) (I.ok.hd hc) (show X.A.units + 1 + 1 < cLine by omega) e (by rw [List.size_toArray]; omega) (by rw [List.size_toArray]; omega) (fun j q hj=>?_) fun h' tk dd k=>?_
 ·obtain ⟨t,a1,a2,a3⟩:=hm j q hj
  exact ⟨t,by simpa using a1,a2,a3⟩
 ·rw [jfw more [] (by rw [List.nil_append,← joh hkv]; exact hn),List.nil_append] at dd
  obtain ⟨o,es,ep,h1,h2,h3,h4,_,h5⟩:=dd
  refine ⟨.ref s.heap.objs.size,upd H s.heap.objs.size (.dT kvs),I.laid k (Nat.le_refl _) (show jbp X.prog X.w _ _ _ (.dT kvs) from ⟨by have:=(by decide:1000 ≤ sizeLine); omega,by have:=I.big; exact beq_false_of_ne (Nat.ne_of_gt this),more,hkv.keeps fun b ys eb=>?_,o,es,ep,h1,h2,h3,h4,h5⟩),rfl,q _ I.fresh⟩
  rw [jaa (ja7 eb I.fresh)]
  exact eb
end L2
namespace L2
open PySem PySem.Spec PyProof.Rows
def leL:List Int→List Int→Bool
 | [],_=>true
 | _ :: _,[]=>false
 | x :: xs,y :: ys=>if x = y then leL xs ys else decide (x ≤ y)
theorem jku (x y:Int) (xs ys:List Int):leL (x :: xs) (y :: ys) = if x = y then leL xs ys else decide (x ≤ y):=rfl
theorem rc_le (A:Around) (s:Shared) (a:Int) (t:Tok) (c:Int) (u:Tok) (prog:Program) (w:World) (E Q:Value→Shared→Prop) (h:Q (.bool (decide (a ≤ c))) s) :
  wpAny (model prog w) A (richCompare .LtE (.int a t) (.int c u)) Q E s :=
 (PyProof.Rows.le_int h:wpAny (model prog w) A (compareOp .LtE (.int a t) (.int c u)) Q E s)
section
open PySem.SeqAt
open PySem.AutoSeq1 (wpAny_loadPart')
open PySem.MeetsSeq PySem.MeetsSeq2 PySem.MeetsSeq3
theorem jp3 (l b:Addr) (is js:Array Value) (n n2:Nat) (dd dd2:Option Addr) (sl sl2:Array (Option Value)) (ns ms:List Int) (hi:IntsAre is.toList ns) (hj:IntsAre js.toList ms) :
  Meets (Builtin.«tuple.__le__» ⟨[.ref l,.ref b],[]⟩)
   (fun _ R s=>s.heap.get? l = some { cls:=.type "tuple",dict:=dd,data:=.seq is n,slots:=sl }∧s.heap.get? b = some { cls:=.type "tuple",dict:=dd2,data:=.seq js n2,slots:=sl2 }∧R (.ok (.ret (.bool (leL ns ms)))) s) :=
 .of_wp fun prog w A R s h=>by
  obtain ⟨hp,g,d,tk,os⟩:=s
  obtain ⟨hl,hb,h⟩:=h
  have f2:=AutoSeq1.sub_tuple_tuple
  have z1:is.size = ns.length:=by rw [← hi.length]; simp
  have z2:js.size = ms.length:=by rw [← hj.length]; simp
  wp_walk using wpAny_loadPart' hl,wpAny_loadPart' hb,wpAny_forIn_list _ (fun rest b s'=>b.1 = none∧s' = ⟨hp,g,d,tk,os⟩∧∃ (vs ws:List Value) (k m:List Int),rest = vs.zip ws∧IntsAre vs k∧IntsAre ws m∧k.length + js.size = m.length + is.size∧R (.ok (.ret (.bool (leL k m)))) ⟨hp,g,d,tk,os⟩) _
  case turn =>
   rintro ⟨y,x⟩ rest b s' ⟨q0,rfl,vs,ws,k,m,hz,q1,q2,q3,q4⟩
   cases q1 with
   | nil=>rw [List.zip_nil_left] at hz; cases hz
   | cons a t q1 =>
    cases q2 with
    | nil=>rw [List.zip_nil_right] at hz; cases hz
    | cons c u q2 =>
     rw [List.zip_cons_cons] at hz
     injection hz with p1 p2
     injection p1 with p3 p4
     subst p3 p4
     rw [jku] at q4
     simp only [List.length_cons] at q3
     refine wpAny_bind (SeqAt.EqAt.int_int a t c u prog w _ _ ?_)
     by_cases e:a = c
     ·rw [if_pos e] at q4
      rw [show (a == c) = true by rw [e]; exact beq_self_eq_true _]
      wp_walk
      exact ⟨rfl,rfl,_,_,_,_,p2,q1,q2,by omega,q4⟩
     ·rw [if_neg e] at q4
      rw [show (a == c) = false by rw [beq_eq_false_iff_ne]; exact e]
      have hri:=rc_le A.in1 ⟨hp,g,d,tk,os⟩ a t c u prog w
      wp_walk using hri
      exact ⟨_,rfl,by simpa using q4⟩
  case fin =>
   rintro ⟨b1,b2⟩ s' ⟨q0,rfl,vs,ws,k,m,hz,q1,q2,q3,q4⟩
   simp only at q0
   subst q0
   have hv:leL k m = decide (is.size ≤ js.size):=by
    cases q1 with
    | nil =>
     simp only [List.length_nil] at q3
     rw [show leL [] m = true by cases m <;> rfl]
     exact (decide_eq_true (by omega)).symm
    | cons a t q1 =>
     cases q2 with
     | nil =>
      simp only [List.length_nil,List.length_cons] at q3
      exact (decide_eq_false (by omega)).symm
     | cons c u q2 =>
      rw [List.zip_cons_cons] at hz
      cases hz
   rw [hv] at q4
   wp_walk
   exact ⟨_,rfl,by simpa [Builtin.Tuple.tupleCompareSizes] using q4⟩
  case h =>
   exact ⟨rfl,rfl,is.toList,js.toList,ns,ms,rfl,hi,hj,by omega,h⟩
end
section
variable {X:Cx} {a b c:Expr} {ta tb tc:TE} {pos:Pos}
theorem jou {op op':CmpOp} {g:Int→Int→Bool} {r':R2} (ho:OpR X (compareOp op) (fI fun i j=>.bl (g i j))) (ho':OpR X (compareOp op') r') (ha:PE X a ta) (hb:PE X b tb) (hc:PE X c tc)
    (hm:lastMarks [op,op'] [b,c] = false:=by with_unfolding_all rfl):PT X (.Compare a [op,op'] [b,c] pos) (fB (jl0 (fI fun i j=>.bl (g i j)) r' ta tb tc)):=by
  intro pins s σ H Q I h
  refine isTrue_chain (thn (ha pins s σ H _ I h) fun v s1 ⟨x,H1,I1,r1,q1⟩=>test_link (thn (hb pins s1 σ H1 _ I1 q1) fun u s2 ⟨y,H2,I2,r2,q2⟩ =>
    thn (ho pins s2 σ H2 x y v u (fun z H3=>∃ k,z = .bl k∧(if k = true then tc σ H3 fun w' H4=>r' y w' H4 fun z2 H5=>match z2 with | .bl q=>Q q H5 | _=>False else Q false H3)) I2 r1 r2 ?_) fun d s3 ⟨z,H3,I3,r3,k,e,q3⟩=>?_)) hm
  · dsimp only at q2
    unfold fI at q2 ⊢
    cases x <;> cases y <;> first
      | exact q2.elim
      | exact ⟨_,rfl,q2⟩
  · subst e
    cases r3
    refine wpAny_truthy_bool ?_
    cases k with
    | false=>exact ite_ff ⟨H3,I3,q3⟩
    | true =>
      refine ite_tt (test_last (thn (hc pins s3 σ H3 _ I3 q3) fun w' s4 ⟨z',H4,I4,r4,q4⟩=>thn (ho' pins s4 σ H4 y z' u w' _ I4 r2 r4 q4) fun d2 s5 ⟨z2,H5,I5,r5,q5⟩=>?_))
      cases z2 <;> first
        | exact False.elim q5
        | (cases r5
           exact wpAny_truthy_bool ⟨H5,I5,q5⟩)
end
def fLeT:R2:=fun x y H Q=>match x,y with
 | .ref a,.ref b=>match H a,H b with
  | some (.tup [.int i,.int j]),some (.tup [.int k,.int l])=>Q (.bl (leL [i,j] [k,l])) H
  | _,_=>False
 | _,_=>False
theorem q_leT {X:Cx} (hu:X.A.units < cLine):OpR X (compareOp .LtE) fLeT:=by
 intro pins s σ H x y v u Q I rx ry h
 unfold fLeT at h
 split at h
 ·split at h
  ·rename_i a b _ _ i j k l e1 e2
   cases rx
   cases ry
   obtain ⟨its,r1,p1,_⟩:=I.tuple (SqT.of e1)
   obtain ⟨its2,r2,p2,_⟩:=I.tuple (SqT.of e2)
   have i1:IntsAre its.toArray.toList [i,j]:=jc3 r1
   have i2:IntsAre its2.toArray.toList [k,l]:=jc3 r2
   obtain ⟨⟨cls,dd,data,sl⟩,ho,hc,n,hd⟩:=id p1
   obtain ⟨⟨cls2,dd2,data2,sl2⟩,ho2,hc2,n2,hd2⟩:=id p2
   simp only at hc hd hc2 hd2
   subst hc hd hc2 hd2
   exact richCompare_meets_room (op:=.LtE) ⟨_,ho,rfl⟩ ⟨_,ho2,rfl⟩ PySem.F.slot_tuple_le PySem.F.entry_tuple_le (PySem.F.args_tuple_le_2 _ _) (jp3 _ _ _ _ n n2 dd dd2 sl sl2 _ _ i1 i2)
    ⟨ho,ho2,(fun z=>nomatch z),.bl _,H,I,rfl,h⟩ hu
  ·exact h.elim
 ·exact h.elim
end L2
namespace My
open PySem L2
section
variable {P:Program} {w:World} {K:PySem.W.Frag} {mg:Str→Option Value} {base:Heap} {c1 c2 c3 c4:Tok} {C_NoWeb f_NoWeb:Addr} {dI:FuncData}
def prO:Dt→Option (Int × Int)
 | .tup [.int x,.int y]=>some (x,y)
 | _=>none
def OPr (H:Hp) (x:V) (o:Option (Int × Int)):Prop:=∃ d,Rep H d x∧prO d = o
theorem jh9 {d:Dt} {p:Int × Int} (h:prO d = some p):d = jbf p:=by
 unfold prO at h
 split at h
 ·cases h; rfl
 ·cases h
theorem jko {H:Hp} {x:V} {p:Int × Int} (h:Rep H (jbf p) x):Pr H x p:=by
 rw [jbf,Rep] at h
 obtain ⟨a,vs,rfl,ea,r⟩:=h
 rw [Reps] at r
 obtain ⟨v,r1,rfl,e1,r⟩:=r
 rw [Reps] at r
 obtain ⟨v2,r2,rfl,e2,r⟩:=r
 rw [Reps] at r
 subst r
 rw [Rep] at e1 e2
 subst e1 e2
 exact ⟨a,rfl,ea⟩
theorem Pr.o {H:Hp} {x:V} {p:Int × Int} (h:Pr H x p):OPr H x (some p):=⟨jbf p,h.rep,rfl⟩
def kdD:Dt→Kd
 | .non=>.non
 | .bl _=>.bl
 | .int _=>.int
 | .str _=>.str
 | .tup _=>.tup
 | .lst _=>.lst
theorem jck {H:Hp} {d:Dt} {x:V} (h:Rep H d x):L2.kd H x = some (kdD d):=by
 cases d with
 | non=>rw [Rep] at h; subst h; rfl
 | bl b=>rw [Rep] at h; subst h; rfl
 | int b=>rw [Rep] at h; subst h; rfl
 | str b=>rw [Rep] at h; subst h; rfl
 | tup ds=>rw [Rep] at h; obtain ⟨a,vs,rfl,e,_⟩:=h; unfold L2.kd; dsimp only; rw [e]; rfl
 | lst ds=>rw [Rep] at h; obtain ⟨a,vs,rfl,e,_⟩:=h; unfold L2.kd; dsimp only; rw [e]; rfl
def tupB (m:Int):Dt→Bool
 | .tup ds=>decide ((ds.length:Int) = m)
 | _=>false
def jkd:Sp:=fun vs H Q _=>∃ x d m,vs = [x,.int m]∧Rep H d x∧Q (.bl (tupB m d)) H
def jm5:Sp:=fun vs H Q _=>∃ x o,vs = [x]∧OPr H x o∧Q (.bl o.isSome) H
def trO:Dt→Option (Int × Int × Int)
 | .tup [.int x,.int y,.int z]=>some (x,y,z)
 | _=>none
def jc2 (d:Int × Int × Int):Dt:=.tup [.int d.1,.int d.2.1,.int d.2.2]
theorem jk9 {d:Dt} {p:Int × Int × Int} (h:trO d = some p):d = jc2 p:=by
 unfold trO at h
 split at h
 ·cases h; rfl
 ·cases h
theorem jf0 {H:Hp} {x:V} {p:Int × Int × Int} (h:Rep H (jc2 p) x):Tp H x p:=by
 rw [jc2,Rep] at h
 obtain ⟨a,vs,rfl,ea,r⟩:=h
 rw [Reps] at r
 obtain ⟨v,r1,rfl,e1,r⟩:=r
 rw [Reps] at r
 obtain ⟨v2,r2,rfl,e2,r⟩:=r
 rw [Reps] at r
 obtain ⟨v3,r3,rfl,e3,r⟩:=r
 rw [Reps] at r
 subst r
 rw [Rep] at e1 e2 e3
 subst e1 e2 e3
 exact ⟨a,rfl,ea⟩
def dueO (d:Dt):Option (Int × Int × Int):=match trO d with
 | some p=>if 1 ≤ p.2.2 then some p else none
 | none=>none
def jm9:Sp:=fun vs H Q _=>∃ x d,vs = [x]∧Rep H d x∧∀ H',Same H H'→Q (.bl (dueO d).isSome) H'
def jfa (ds:List Dt):Bool:=ds.all fun d=>jbs (kdD d)
theorem jj1 {ds:List Dt} (h:ds.length = 3) (hw:jfa ds = true):∃ p:Int × Int × Int,ds = [.int p.1,.int p.2.1,.int p.2.2]:=by
 match ds,h with
 | [a,b,c],_ =>
  unfold jfa at hw
  simp only [List.all_cons,List.all_nil,Bool.and_true,Bool.and_eq_true] at hw
  obtain ⟨h1,h2,h3⟩:=hw
  cases a with
  | int x=>cases b with
   | int y=>cases c with
    | int z=>exact ⟨(x,y,z),rfl⟩
    | _=>cases h3
   | _=>cases h2
  | _=>cases h1
theorem jka {ds:List Dt} (h:¬ ds.length = 3 ∨ jfa ds = false):trO (.tup ds) = none:=by
 unfold trO
 split
 ·rename_i e
  cases e
  rcases h with h | h
  ·exact absurd rfl h
  ·cases h
 ·rfl
def jal (ds:List (Int × Int × Int)) (n:Int):Int:=(ds.map fun d=>(if d.1 = n then d.2.2 else 0) + (if d.2.1 = n then d.2.2 else 0)).sum
def jk6 (kvs:List (Key × V)) (ds:List (Int × Int × Int)):Prop:=∀ n:Int,(valV kvs (Sum.inl n:Key) = none∧jal ds n = 0) ∨ valV kvs (Sum.inl n:Key) = some (.int (jal ds n))
theorem jk6.get {kvs:List (Key × V)} {ds:List (Int × Int × Int)} (h:jk6 kvs ds) (n:Int):(valV kvs (Sum.inl n:Key)).getD (.int 0) = .int (jal ds n):=by
 rcases h n with ⟨e,f⟩ | e
 ·rw [e,f]; rfl
 ·rw [e]; rfl
def jmb:Sp:=fun vs H Q _=>∃ l zs ds,vs = [.ref l]∧H l = some (.lst zs)∧Tps H zs ds∧ds.length ≤ 200∧∀ d kvs H',Same H H'→H' d = some (.dK kvs)→jk6 kvs ds→Q (.ref d) H'
theorem Tp.tups {H H':Hp} {v:V} {p:Int × Int × Int} (h:Tp H v p) (s:TupS H H'):Tp H' v p:=let ⟨a,e,q⟩:=h; ⟨a,e,s _ _ rfl q⟩
theorem jf1 {H H':Hp} (s:TupS H H'):∀ {xs:List V} {ps:List (Int × Int × Int)},Tps H xs ps→Tps H' xs ps
 | _,_,.nil=>.nil
 | _,_,.cons r t=>.cons (Tp.tups r s) (jf1 s t)
theorem jkl (kvs:List (Key × V)) (k:Key) (v:V):(putK kvs k v).length ≤ kvs.length + 1:=jdt kvs k v
theorem jfu {f:Addr} {fd:FuncData}  (B:Blt mg) (D:DefAt K mg "is_tuple_of" (top 2) ["thing","many"] f fd):FnOk P w K mg base CX0 1 f fd ["thing","many"] jkd:=by
 have sc:FnScope ["thing","many"] ["thing","many"] (jac (top 2)):=⟨rfl,rfl,rfl,by decide +kernel,rfl,by decide +kernel,by decide +kernel⟩
 refine D.F.ok sc (fun vs H Q E h=>?_) (fun cdv A outer s H vs Q E hr h=>?_)
 ·obtain ⟨x,d,m,rfl,_⟩:=h
  rfl
 obtain ⟨x,d,m,rfl,hd,h⟩:=h
 have hk:=jck hd
 have hu:=jbo hr
 have hu0:_ < PySem.cLine:=Nat.lt_of_succ_lt hu
 refine ⟨_,(ja6 (jan (jdq (ja9 (jdk .tup) rfl B.isinstance PyProof.Rows.boot_isinstance (ja0 (qv 0) (ja0 (jbn (v:=.ty "tuple") rfl B.tuple PyProof.Rows.boot_tuple rfl) ja3))) (jdn (jbx q_eq (ja9 jci rfl B.len PySem.boot_len (ja0 (qv 0) ja3)) (qv 1) (jaj _)))))),?_⟩
 cases d with
 | tup ds =>
  rw [Rep] at hd
  obtain ⟨a,vs,rfl,ea,r⟩:=hd
  simp_arith [kd,ea,jag,isi]
  rw [r.len]
  exact h
 | non=>simp_arith [hk,isi,kdD]; exact h
 | bl b=>simp_arith [hk,isi,kdD]; exact h
 | int b=>simp_arith [hk,isi,kdD]; exact h
 | str b=>simp_arith [hk,isi,kdD]; exact h
 | lst b=>simp_arith [hk,isi,kdD]; exact h
theorem jd9 {f:Addr} {fd:FuncData} {f_is_tuple_of:Addr} {d_is_tuple_of:FuncData} {f_is_whole:Addr} {d_is_whole:FuncData} (B:Blt mg) (D:DefAt K mg "is_pair_of_wholes" (top 3) ["thing"] f fd) (D_is_tuple_of:DefAt K mg "is_tuple_of" (top 2) ["thing","many"] f_is_tuple_of d_is_tuple_of) (G_is_tuple_of:FnOk P w K mg base CX0 1 f_is_tuple_of d_is_tuple_of ["thing","many"] jkd) (D_is_whole:DefAt K mg "is_whole" (top 1) ["thing"] f_is_whole d_is_whole) (G_is_whole:FnOk P w K mg base CX0 1 f_is_whole d_is_whole ["thing"] jdo):FnOk P w K mg base CX0 2 f fd ["thing"] jm5:=by
 have sc:FnScope ["thing"] ["thing"] (jac (top 3)):=⟨rfl,rfl,rfl,by decide +kernel,rfl,by decide +kernel,by decide +kernel⟩
 refine D.F.ok sc (fun vs H Q E h=>?_) (fun cdv A outer s H vs Q E hr h=>?_)
 ·obtain ⟨x,o,rfl,_⟩:=h
  rfl
 obtain ⟨x,o,rfl,ho,h⟩:=h
 obtain ⟨d,hd,rfl⟩:=ho
 have hu:=jbo hr
 have hu0:_ < PySem.cLine:=Nat.lt_of_succ_lt hu
 refine ⟨_,(ja6 (jan (jdq (ja8 G_is_tuple_of (hr.mono (by decide)) rfl D_is_tuple_of.m D_is_tuple_of.F.kp D_is_tuple_of.b .nil jar (ja0 (qv 0) (ja0 ja2 ja3))) (jdq (ja8 G_is_whole (hr.mono (by decide)) rfl D_is_whole.m D_is_whole.F.kp D_is_whole.b .nil jar (ja0 (jab q_ix (qv 0) ja2 (fun _ _=>rfl)) ja3)) (jdn (ja8 G_is_whole (hr.mono (by decide)) rfl D_is_whole.m D_is_whole.F.kp D_is_whole.b .nil jar (ja0 (jab q_ix (qv 0) ja2 (fun _ _=>rfl)) ja3))))))),?_⟩
 walk_at "RD"
 refine ⟨_,d,2,rfl,hd,?_⟩
 cases d with
 | tup ds =>
  rw [Rep] at hd
  obtain ⟨a,vs,rfl,ea,r⟩:=hd
  match ds,r,h with
  | [],r,h =>
   rw [show tupB 2 (.tup []) = false from rfl]
   walk_at "RD"
   exact h
  | [d1],r,h =>
   have e2:prO (.tup [d1]) = none:=by cases d1 <;> rfl
   rw [e2] at h
   rw [show tupB 2 (.tup [d1]) = false from rfl]
   walk_at "RD"
   exact h
  | d1 :: d2 :: d3 :: ds,r,h =>
   have e:tupB 2 (.tup (d1 :: d2 :: d3 :: ds)) = false:=by
    unfold tupB
    refine decide_eq_false ?_
    rw [List.length_cons,List.length_cons,List.length_cons]
    omega
   have e2:prO (.tup (d1 :: d2 :: d3 :: ds)) = none:=by cases d1 <;> cases d2 <;> rfl
   rw [e2] at h
   rw [e]
   walk_at "RD"
   exact h
  | [d1,d2],r,h =>
   rw [Reps] at r
   obtain ⟨v1,r1,rfl,e1,r⟩:=r
   rw [Reps] at r
   obtain ⟨v2,r2,rfl,e2,r⟩:=r
   rw [Reps] at r
   subst r
   rw [show tupB 2 (.tup [d1,d2]) = true from rfl]
   simp_arith [jag,ea,at0,at1]
   refine ⟨_,kdD d1,rfl,jck e1,?_⟩
   cases d1 with
   | int i =>
    simp_arith [kdD,jbs,jag,ea,at0,at1]
    refine ⟨_,kdD d2,rfl,jck e2,?_⟩
    cases d2 <;> exact h
   | _=>simp_arith [kdD,jbs]; exact h
 | _=>simp_arith [tupB]; exact h
theorem jn0 {f:Addr} {fd:FuncData} {f_is_tuple_of:Addr} {d_is_tuple_of:FuncData} {f_is_whole:Addr} {d_is_whole:FuncData} (B:Blt mg) (D:DefAt K mg "is_due" (top 21) ["thing"] f fd) (D_is_tuple_of:DefAt K mg "is_tuple_of" (top 2) ["thing","many"] f_is_tuple_of d_is_tuple_of) (G_is_tuple_of:FnOk P w K mg base CX0 1 f_is_tuple_of d_is_tuple_of ["thing","many"] jkd) (D_is_whole:DefAt K mg "is_whole" (top 1) ["thing"] f_is_whole d_is_whole) (G_is_whole:FnOk P w K mg base CX0 1 f_is_whole d_is_whole ["thing"] jdo):FnOk P w K mg base CX0 2 f fd ["thing"] jm9:=by
 have sc:FnScope ["thing"] ["thing"] (jac (top 21)):=⟨rfl,rfl,rfl,by decide +kernel,rfl,by decide +kernel,by decide +kernel⟩
 refine D.F.ok sc (fun vs H Q E h=>?_) (fun cdv A outer s H vs Q E hr h=>?_)
 ·obtain ⟨x,d,rfl,_⟩:=h
  rfl
 obtain ⟨x,d,rfl,hd,h⟩:=h
 have hu:=jbo hr
 have hu0:_ < PySem.cLine:=Nat.lt_of_succ_lt hu
 refine ⟨_,(ja6 (jan (jdq (ja8 G_is_tuple_of (hr.mono (by decide)) rfl D_is_tuple_of.m D_is_tuple_of.F.kp D_is_tuple_of.b .nil jar (ja0 (qv 0) (ja0 ja2 ja3))) (jdq (ja9 (jqq rfl) rfl B.all PyProof.Rows.boot_all (ja0 (jc7 (CpScope.of (N:=["part"]) (src:=[none]) (by rfl)) rfl (jq1 (qv 0)) (fun _ _ _ _=>(jad (i:=0) (jak (l:=["part"]) (by rfl)) rfl (Or.inl rfl))) (fun _ _ _ _=>jco) (fun _ _ _ _=>(ja8 G_is_whole (hr.mono (by decide)) rfl D_is_whole.m D_is_whole.F.kp D_is_whole.b .nil jar (ja0 (qv 0) ja3)))) ja3)) (jdn (jbx q_ge (jab q_ix (qv 0) ja2 (fun _ _=>rfl)) ja2 (jaj _))))))),?_⟩
 walk_at "RD"
 refine ⟨_,d,3,rfl,hd,?_⟩
 cases d with
 | tup ds =>
  have hd0:=hd
  rw [Rep] at hd
  obtain ⟨a,vs,rfl,ea,r⟩:=hd
  have hlv:=r.len
  by_cases c3:ds.length = 3
  ·rw [show tupB 3 (.tup ds) = true from decide_eq_true (by omega)]
   walk_at "RD"
   refine jaw (Itt K a) H (fun R hR=>?_) (fun z hz0=>jbe ds.length (fun i σ' Hc=>∃ w1,σ' = [w1]∧Same H Hc∧Hc z = some (.lst (((ds.take i).map fun d=>jbs (kdD d)).map V.bl))) ⟨none,rfl,ja4 hz0 _,ja1⟩ ?_ ?_)
   ·unfold iTup
    walk_at "RD"
    exact ⟨a,rfl,⟨_,SqT.of ea⟩,hR⟩
   ·rintro i σ' Hc hi ⟨w1,rfl,s2,ez⟩
    have x1:vs[i]? = some (vs[i]'(by omega)):=List.getElem?_eq_getElem _
    refine ⟨⟨_,_,SqT.of (s2 _ _ ea),x1⟩,?_⟩
    rintro y H' ⟨rfl,hy⟩
    have E1:=Option.some.inj (x1.symm.trans (hy _ (SqT.of (s2 _ _ ea))))
    subst E1
    obtain ⟨dt,hdt,rdt⟩:=r.at x1
    walk_at "RD"
    refine ⟨_,kdD dt,rfl,jck (Rep.same s2 _ rdt),?_⟩
    refine ⟨_,ez,?_,_,rfl,jav s2 hz0,?_⟩
    ·rw [List.length_map,List.length_map,List.length_take]
     exact szl' (by omega)
    ·rw [ja1,jau hdt,List.map_append,List.map_append]
     rfl
   rintro σ' H1 ⟨w1,rfl,s1,ez⟩
   refine ⟨⟨_,SqT.of (s1 _ _ ea),by omega⟩,?_⟩
   rw [List.take_length] at ez
   simp_arith [ez]
   refine ⟨_,rfl,?_⟩
   have ew:(ds.map fun d=>jbs (kdD d)).all id = jfa ds:=by rw [List.all_map]; rfl
   refine ite2 (fun c=>?_) (fun c=>?_)
   ·have c:=ew.symm.trans c
    obtain ⟨p,hp⟩:=jj1 c3 c
    subst hp
    obtain ⟨a',ea',e3⟩:=jf0 (p:=p) hd0
    cases ea'
    simp_arith [jag,s1 _ _ e3,at2]
    have e9:(dueO (jc2 p)).isSome = decide (p.2.2 ≥ 1):=by
     unfold dueO
     show (match some (p.1,p.2.1,p.2.2) with | some p=>if 1 ≤ p.2.2 then some p else none | none=>none).isSome = _
     dsimp only
     by_cases c9:1 ≤ p.2.2
     ·rw [if_pos c9,decide_eq_true c9]; rfl
     ·rw [if_neg c9,decide_eq_false c9]; rfl
    have:=h H1 s1
    rw [show (Dt.tup [.int p.1,.int p.2.1,.int p.2.2]) = jc2 p from rfl,e9] at this
    exact this
   ·have c:=ew.symm.trans (Bool.eq_false_iff.mpr c)
    have:=h H1 s1
    unfold dueO at this
    rw [jka (.inr c)] at this
    exact this
  ·rw [show tupB 3 (.tup ds) = false from decide_eq_false (by omega)]
   walk_at "RD"
   have:=h H (Same.refl _)
   unfold dueO at this
   rw [jka (.inl c3)] at this
   exact this
 | _=>simp_arith [tupB]; exact h H (Same.refl _)
end
end My
namespace My
open PySem L2
section
variable {P:Program} {w:World} {K:PySem.W.Frag} {mg:Str→Option Value} {base:Heap} {c1 c2 c3 c4:Tok} {C_NoWeb f_NoWeb:Addr} {dI:FuncData}
def mkT (ts:List (Int × Int)):List (List Key × V):=ts.map fun t=>([Sum.inl t.1,Sum.inl t.2],V.bl true)
theorem jn7:∀ (ts:List (Int × Int)) (t:Int × Int),(valV (mkT ts) ([Sum.inl t.1,Sum.inl t.2]:List Key)).isSome = decide (t ∈ ts)
 | [],t=>by simp [mkT,valV]
 | u :: r,t=>by
  have ih:=jn7 r t
  unfold mkT valV at ih ⊢
  rw [List.map_cons,List.find?_cons]
  by_cases h:u = t
  ·subst h; simp
  ·have hne:¬ (([Sum.inl u.1,Sum.inl u.2]:List Key) = [Sum.inl t.1,Sum.inl t.2]):=fun z=>by
    injection z with z1 z2
    injection z2 with z2 _
    exact h (Prod.ext (Sum.inl.inj z1) (Sum.inl.inj z2))
   dsimp only
   rw [decide_eq_false hne]
   dsimp only
   rw [ih]
   have hn:¬ t = u:=fun z=>h z.symm
   simp [hn]
def jm7:Sp:=fun vs H Q _=>∃ u zs ts,vs = [.ref u]∧H u = some (.lst zs)∧Prs H zs ts∧ts.Nodup∧ts.length ≤ 120∧∀ d H',H d = none→Same H H'→H' d = some (.dT (mkT ts))→Q (.ref d) H'
theorem jht.tups {H H':Hp} {v:V} {p:List Key × V} (h:jht H v p) (s:TupS H H'):jht H' v p:=let ⟨t,b,e,q,r⟩:=h; ⟨t,b,e,s _ _ rfl q,s _ _ rfl r⟩
theorem jds {H H':Hp} (s:TupS H H'):∀ {xs:List V} {ps:List (List Key × V)},Paired (jht H) xs ps→Paired (jht H') xs ps
 | _,_,.nil=>.nil
 | _,_,.cons r t=>.cons (jht.tups r s) (jds s t)
theorem jlf {ds:List (Int × Int × Int)} {i:Nat} {d:Int × Int × Int} (h:ds[i]? = some d) (n:Int):jal (ds.take (i + 1)) n = jal (ds.take i) n + ((if d.1 = n then d.2.2 else 0) + (if d.2.1 = n then d.2.2 else 0)):=by
 unfold jal
 rw [jau h,List.map_append,List.sum_append]
 simp
theorem jk6.put {kvs:List (Key × V)} {f:Int→Int} (h:∀ n:Int,(valV kvs (Sum.inl n:Key) = none∧f n = 0) ∨ valV kvs (Sum.inl n:Key) = some (.int (f n))) (m a:Int):∀ n:Int,(valV (putK kvs (Sum.inl m:Key) (.int (f m + a))) (Sum.inl n:Key) = none∧f n + (if m = n then a else 0) = 0) ∨ valV (putK kvs (Sum.inl m:Key) (.int (f m + a))) (Sum.inl n:Key) = some (.int (f n + (if m = n then a else 0))):=fun n=>by
 rw [jol]
 by_cases c:m = n
 ·subst c
  rw [if_pos rfl,if_pos rfl]
  exact .inr rfl
 ·rw [if_neg (fun z=>c (Sum.inl.inj z).symm),if_neg c,Int.add_zero]
  exact h n
theorem jn1 {f:Addr} {fd:FuncData}  (B:Blt mg) (D:DefAt K mg "due_at" (top 22) ["dues"] f fd):FnOk P w K mg base CX0 1 f fd ["dues"] jmb:=by
 have sc:FnScope ["dues","paid","one","other","amount"] ["dues"] (jac (top 22)):=⟨rfl,rfl,rfl,by decide +kernel,rfl,by decide +kernel,by decide +kernel⟩
 refine D.F.ok sc (fun vs H Q E h=>?_) (fun cdv A outer s H vs Q E hr h=>?_)
 ·obtain ⟨l,zs,ds,rfl,_⟩:=h
  rfl
 obtain ⟨l,zs,ds,rfl,el,pz,h200,h⟩:=h
 have hlz:zs.length = ds.length:=Paired.length pz
 have hu:=jbo hr
 have hu0:_ < PySem.cLine:=Nat.lt_of_succ_lt hu
 refine ⟨_,(ja5 (jae (i:=1) sc.nd rfl (Or.inl rfl) jhb) (ja5 (jce PassesOwn.never rfl (jbm (qv 0)) (jd8 (n:=3) rfl (jah (jad (i:=2) sc.nd rfl (Or.inl rfl)) (jah (jad (i:=3) sc.nd rfl (Or.inl rfl)) (jah (jad (i:=4) sc.nd rfl (Or.inl rfl)) jbw)))) (ja5 (jgl hu (qv 1) (qv 2) (jap jbr (jji hu (qv 1) (qv 2) ja2) (qv 4))) (ja6 (jgl hu (qv 1) (qv 3) (jap jbr (jji hu (qv 1) (qv 3) ja2) (qv 4)))))) (ja6 (jan (qv 1))))),?_⟩
 refine jao fun R hR=>?_
 walk_at "RD"
 intro d hd
 have s1:=ja4 hd (.dK [])
 have ed:upd H d (.dK []) d = some (.dK []):=ja1
 generalize upd H d (.dK []) = H1 at s1 ed
 walk_at "RD"
 subst hR
 refine jao fun R hR=>?_
 refine jb8 (Itl K l) H1 (fun R' hR'=>?_) (jea (K:=K) (a:=l) (xs:=zs) (fun i σ H2=>∃ v1 v2 v3 kvs,σ = [some (.ref l),some (.ref d),v1,v2,v3]∧Same H H2∧H2 d = some (.dK kvs)∧jk6 kvs (ds.take i)∧kvs.length ≤ 2 * i) ⟨none,none,none,[],rfl,s1,ed,fun n=>.inl ⟨rfl,rfl⟩,Nat.zero_le _⟩ (fun i σ H2 _ ⟨_,_,_,_,_,s2,_⟩=>SqL.of (s2 _ _ el)) ?_ ?_)
 ·unfold jdc
  walk_at "RD"
  exact ⟨l,rfl,⟨_,SqL.of (s1 _ _ el)⟩,hR'⟩
 ·rintro i x σ H2 hx ⟨v1,v2,v3,kvs,rfl,s2,ed2,pd,hkl⟩
  obtain ⟨p,hp,px⟩:=jaf pz hx
  obtain ⟨t,rfl,ht⟩:=Tp.tups px s2.tups
  have hil:=(List.getElem?_eq_some_iff.mp hp).1
  simp_arith [ht,ed2,pd.get]
  have q1:=jk6.put (f:=jal (ds.take i)) pd p.1 p.2.2
  have kl1:=jkl kvs (Sum.inl p.1:Key) (.int (jal (ds.take i) p.1 + p.2.2))
  refine ⟨⟨_,rfl⟩,szl' (by omega),⟨_,ja1⟩,?_⟩
  generalize putK kvs (Sum.inl p.1:Key) (.int (jal (ds.take i) p.1 + p.2.2)) = k1 at q1 kl1 ⊢
  have g2:(valV k1 (Sum.inl p.2.1:Key)).getD (.int 0) = .int (jal (ds.take i) p.2.1 + (if p.1 = p.2.1 then p.2.2 else 0)):=by
   rcases q1 p.2.1 with ⟨e,z⟩ | e
   ·rw [e,z]; rfl
   ·rw [e]; rfl
  have q2:=jk6.put (f:=fun n=>jal (ds.take i) n + (if p.1 = n then p.2.2 else 0)) q1 p.2.1 p.2.2
  have kl2:=jkl k1 (Sum.inl p.2.1:Key) (.int (jal (ds.take i) p.2.1 + (if p.1 = p.2.1 then p.2.2 else 0) + p.2.2))
  rw [ja1]
  dsimp only
  rw [g2]
  dsimp only
  refine ⟨szl' (by omega),_,_,_,_,rfl,?_,ja1,?_,by omega⟩
  ·exact jav (jav s2 hd) hd
  ·intro n
   rw [jlf hp n,← Int.add_assoc]
   exact q2 n
 ·rintro σ H2 ⟨v1,v2,v3,kvs,rfl,s2,ed2,pd,hkl⟩
  rw [hlz,List.take_length] at pd
  subst hR
  walk_at "RD"
  exact h d kvs H2 s2 ed2 pd
theorem jmz {f:Addr} {fd:FuncData}  (B:Blt mg) (D:DefAt K mg "marked" (top 5) ["places"] f fd):FnOk P w K mg base CX0 1 f fd ["places"] jm7:=by
 have sc:FnScope ["places"] ["places"] (jac (top 5)):=⟨rfl,rfl,rfl,by decide +kernel,rfl,by decide +kernel,by decide +kernel⟩
 refine D.F.ok sc (fun vs H Q E h=>?_) (fun cdv A outer s H vs Q E hr h=>?_)
 ·obtain ⟨u,zs,ts,rfl,_⟩:=h
  rfl
 obtain ⟨u,zs,ts,rfl,eu,pz,nd,h120,h⟩:=h
 have hlz:zs.length = ts.length:=Paired.length pz
 have hu:=jbo hr
 have hu0:_ < PySem.cLine:=Nat.lt_of_succ_lt hu
 refine ⟨_,(ja6 (jan (jat (jlp rfl hr.units) rfl B.dict PyProof.Rows.boot_dict (ja0 (jc7 (CpScope.of (N:=["place"]) (src:=[none]) (by rfl)) rfl (jbm (qv 0)) (fun _ _ _ _=>(jad (i:=0) (jak (l:=["place"]) (by rfl)) rfl (Or.inl rfl))) (fun _ _ _ _=>jco) (fun _ _ _ _=>(jb7 (ja0 (qv 0) (ja0 jc8 ja3))))) ja3)))),?_⟩
 walk_at "RD"
 refine jaw (Itl K u) H (fun R hR=>?_) (fun l hl0=>jbe ts.length (fun i σ' Hc=>∃ w1 vs,σ' = [w1]∧Same H Hc∧Hc l = some (.lst vs)∧Paired (jht Hc) vs (mkT (ts.take i))) ⟨none,[],rfl,ja4 hl0 _,ja1,.nil⟩ ?_ ?_)
 ·unfold jdc
  walk_at "RD"
  exact ⟨u,rfl,⟨_,SqL.of eu⟩,hR⟩
 ·rintro i σ' Hc hi ⟨w1,vs,rfl,s2,ev,pv⟩
  have z1:SqL K Hc u zs:=SqL.of (s2 _ _ eu)
  have x1:zs[i]? = some (zs[i]'(by omega)):=List.getElem?_eq_getElem _
  refine ⟨⟨_,_,z1,x1⟩,?_⟩
  rintro y H' ⟨rfl,hy⟩
  obtain ⟨q,hq,pq⟩:=jaf pz (hy _ z1)
  obtain ⟨b,rfl,hb⟩:=pq.same s2
  have hvl:vs.length ≤ 120:=by
   have:=Paired.length pv
   unfold mkT at this
   rw [List.length_map,List.length_take] at this
   omega
  walk_at "RD"
  intro t ht
  have q3:=ja4 ht (.tup [.ref b,.bl true])
  have ett:upd H' t (.tup [.ref b,.bl true]) t = some (.tup [.ref b,.bl true]):=ja1
  have ev2:=q3 _ _ ev
  have hb2:=q3 _ _ hb
  generalize upd H' t (.tup [.ref b,.bl true]) = H3 at q3 ett ev2 hb2
  have t6:=jaz (ys:=vs ++ [.ref t]) ev2
  refine ⟨vs,ev2,szl' (by omega),_,vs ++ [.ref t],rfl,jav (s2.trans q3) hl0,(by first | rfl | exact ja1),?_⟩
  have em:mkT (ts.take (i + 1)) = mkT (ts.take i) ++ [([Sum.inl q.1,Sum.inl q.2],V.bl true)]:=by
   unfold mkT
   rw [jau hq,List.map_append]
   rfl
  rw [em]
  exact jbc (jds t6 (jds q3.tups pv)) ⟨t,b,rfl,t6 _ _ rfl ett,t6 _ _ rfl hb2⟩
 ·rintro σ' Hc ⟨w1,vs,rfl,s2,ev,pv⟩
  refine ⟨⟨_,SqL.of (s2 _ _ eu),by omega⟩,?_⟩
  rw [List.take_length] at pv
  have hvl:vs.length ≤ 120:=by
   have:=Paired.length pv
   unfold mkT at this
   rw [List.length_map] at this
   omega
  refine ⟨l,vs,mkT ts,rfl,ev,pv,by omega,?_,fun d hd=>h d _ (s2.free hd) (s2.trans (ja4 hd _)) ja1⟩
  unfold mkT
  rw [List.map_map]
  unfold List.Nodup at nd ⊢
  rw [List.pairwise_map]
  refine nd.imp fun {x y} hne e=>hne ?_
  have e:([Sum.inl x.1,Sum.inl x.2]:List Key) = [Sum.inl y.1,Sum.inl y.2]:=e
  injection e with e1 e2
  injection e2 with e2 _
  exact Prod.ext (Sum.inl.inj e1) (Sum.inl.inj e2)
end
end My
namespace My
open PySem L2
section
variable {P:Program} {w:World} {K:PySem.W.Frag} {mg:Str→Option Value} {base:Heap} {c1 c2 c3 c4:Tok} {C_NoWeb f_NoWeb:Addr} {dI:FuncData}
def jbz (ts:List (Int × Int)):Int × Int→List Dt→Option (List (Int × Int × Int))
 | _,[]=>some []
 | q,d :: r=>match dueO d with
  | some p=>if (p.1,p.2.1) ∈ ts∧leL [p.1,p.2.1] [q.1,q.2] = false then (jbz ts (p.1,p.2.1) r).map (p :: ·) else none
  | none=>none
def jfo (ps:List (Int × Int)) (qs:List (Int × Int × Int)):Bool:=ps.all fun p=>decide (jal qs p.1 ≤ 2 * p.2)
def jhq (ps ts:List (Int × Int)):Dt→Bool
 | .lst ds=>match jbz ts (-1,-1) ds with
  | some qs=>jfo ps qs
  | none=>false
 | _=>false
def jmf (d:Dt):Prop:=∀ ds,d = .lst ds→ds.length ≤ 200
def jpq:Sp:=fun vs H Q _=>∃ v ps ts y d,vs = [v,y]∧jdf H v ps ts∧WebOk ps ts∧Rep H d y∧jmf d∧∀ H',Same H H'→Q (.bl (jhq ps ts d)) H'
theorem jf8 {a b c d:Int} (h:HT.lexLt [a,b] [c,d] = true):a < c ∨ (a = c∧b < d):=by
 rw [HT.lexLt_cons] at h
 by_cases e:a = c
 ·rw [if_pos e,HT.lexLt_cons] at h
  by_cases e2:b = d
  ·rw [if_pos e2] at h
   cases h
  ·rw [if_neg e2] at h
   exact .inr ⟨e,of_decide_eq_true h⟩
 ·rw [if_neg e] at h
  exact .inl (of_decide_eq_true h)
theorem jir {a b c d:Int} (h:a < c):HT.lexLt [a,b] [c,d] = true:=by
 rw [HT.lexLt_cons,if_neg (by omega)]
 exact decide_eq_true h
theorem jna {a b d:Int} (h:b < d):HT.lexLt [a,b] [a,d] = true:=by
 rw [HT.lexLt_cons,if_pos rfl,HT.lexLt_cons,if_neg (by omega)]
 exact decide_eq_true h
theorem jc4 {ps ts:List (Int × Int)} {ds:List Dt} (h:jbz ts (-1,-1) ds = none):jhq ps ts (.lst ds) = false:=by
 show (match jbz ts (-1,-1) ds with | some qs=>jfo ps qs | none=>false) = false
 rw [h]
theorem jdi {ps ts:List (Int × Int)} {ds:List Dt} {qs:List (Int × Int × Int)} (h:jbz ts (-1,-1) ds = some qs):jhq ps ts (.lst ds) = jfo ps qs:=by
 show (match jbz ts (-1,-1) ds with | some qs=>jfo ps qs | none=>false) = _
 rw [h]
theorem cut3 (a b c:V):cutV [a,b,c] none (some 2) = [a,b]:=rfl
theorem jk3 (a b c:V):¬ (HT.sIx [a,b,c].length 0 none = 0∧HT.sIx [a,b,c].length [a,b,c].length (some 2) = [a,b,c].length):=fun h=>by cases h.2
theorem jn8 {a b c d e f:Int} (h:HT.lexLt [a,b] [c,d] = true) (g:HT.lexLt [c,d] [e,f] = true):HT.lexLt [a,b] [e,f] = true:=by
 have h:=jf8 h
 have g:=jf8 g
 by_cases c:a < e
 ·exact jir c
 ·have:a = e:=by omega
  subst this
  exact jna (by omega)
theorem TiOk.lt {kvs:List (Key × V)}:∀ {ts:List (Int × Int)} {q:Int × Int},TiOk kvs q ts→∀ p ∈ ts,HT.lexLt [q.1,q.2] [p.1,p.2] = true
 | [],_,_,_,h=>by cases h
 | u :: r,q,h,p,hp=>by
  rcases List.mem_cons.mp hp with e | hp
  ·rw [e]; exact h.1.1
  ·exact jn8 h.1.1 (TiOk.lt h.2 p hp)
theorem TiOk.nodup {kvs:List (Key × V)}:∀ {ts:List (Int × Int)} {q:Int × Int},TiOk kvs q ts→ts.Nodup
 | [],_,_=>List.nodup_nil
 | u :: r,q,h=>by
  refine List.nodup_cons.mpr ⟨fun hm=>?_,TiOk.nodup h.2⟩
  have:=TiOk.lt h.2 u hm
  simp [HT.lexLt] at this
theorem jhf {f:Addr} {fd:FuncData} {f_is_due:Addr} {d_is_due:FuncData} {f_marked:Addr} {d_marked:FuncData} {f_due_at:Addr} {d_due_at:FuncData} (B:Blt mg) (D:DefAt K mg "dues_stand" (top 23) ["web","thing"] f fd) (D_is_due:DefAt K mg "is_due" (top 21) ["thing"] f_is_due d_is_due) (G_is_due:FnOk P w K mg base CX0 2 f_is_due d_is_due ["thing"] jm9) (D_marked:DefAt K mg "marked" (top 5) ["places"] f_marked d_marked) (G_marked:FnOk P w K mg base CX0 1 f_marked d_marked ["places"] jm7) (D_due_at:DefAt K mg "due_at" (top 22) ["dues"] f_due_at d_due_at) (G_due_at:FnOk P w K mg base CX0 1 f_due_at d_due_at ["dues"] jmb):FnOk P w K mg base CX0 4 f fd ["web","thing"] jpq:=by
 have sc:FnScope ["web","thing","ties","last","due","paid"] ["web","thing"] (jac (top 23)):=⟨rfl,rfl,rfl,by decide +kernel,rfl,by decide +kernel,by decide +kernel⟩
 refine D.F.ok sc (fun vs H Q E h=>?_) (fun cdv A outer s H vs Q E hr h=>?_)
 ·obtain ⟨v,ps,ts,y,d,rfl,_⟩:=h
  rfl
 obtain ⟨v,ps,ts,y,d,rfl,hw,wk,hd,hs,h⟩:=h
 obtain ⟨u,pa,ta,xs,ys,rfl,hu1,hpa,hta,hxs,hys⟩:=hw
 have hu:=jbo hr
 have hu0:_ < PySem.cLine:=Nat.lt_of_succ_lt hu
 refine ⟨_,(ja5 (jb5 (jbb (jb9 (ja9 (jdk .lst) rfl B.isinstance PyProof.Rows.boot_isinstance (ja0 (qv 1) (ja0 (jbn (v:=.ty "list") rfl B.list PyProof.Rows.boot_list rfl) ja3))))) (ja6 (jan jc8)) jam) (ja5 (jae (i:=2) sc.nd rfl (Or.inl rfl) (ja8 G_marked (hr.mono (by decide)) rfl D_marked.m D_marked.F.kp D_marked.b .nil jar (ja0 (jab q_ix (qv 0) ja2 (fun _ _=>rfl)) ja3))) (ja5 (jae (i:=3) sc.nd rfl (Or.inl rfl) (jb7 (ja0 (je3 je0 ja2) (ja0 (je3 je0 ja2) ja3)))) (ja5 (jce PassesOwn.never rfl (jbm (qv 1)) (jad (i:=4) sc.nd rfl (Or.inl rfl)) (ja5 (jb5 (PW.pt (jd6 (jbb (jb9 (ja8 G_is_due (hr.mono (by decide)) rfl D_is_due.m D_is_due.F.kp D_is_due.b .nil jar (ja0 (qv 4) ja3)))) (jd6 (pt_cmp (jmt hu (jb2 jdz (qv 4) jbj (jbi ja2)) (qv 2))) (jcu (jaq (q_leT hu0) (jb2 jdz (qv 4) jbj (jbi ja2)) (qv 3) (jaj _)))))) (ja6 (jan jc8)) jam) (ja6 (jae (i:=3) sc.nd rfl (Or.inl rfl) (jb2 jdz (qv 4) jbj (jbi ja2)))))) (ja5 (jae (i:=5) sc.nd rfl (Or.inr rfl) (ja8 G_due_at (hr.mono (by decide)) rfl D_due_at.m D_due_at.F.kp D_due_at.b .nil jar (ja0 (qv 1) ja3))) (ja6 (jan (ja9 (jqq rfl) rfl B.all PyProof.Rows.boot_all (ja0 (jc7 (CpScope.of (N:=["place","price","paid"]) (src:=[none,none,some 5]) (by rfl)) rfl (jbm (jab q_ix (qv 0) ja2 (fun _ _=>rfl))) (fun _ _ _ _=>(jd8 (n:=2) rfl (jah (jad (i:=0) (jak (l:=["place","price","paid"]) (by rfl)) rfl (Or.inl rfl)) (jah (jad (i:=1) (jak (l:=["place","price","paid"]) (by rfl)) rfl (Or.inl rfl)) jbw)))) (fun _ _ _ _=>jco) (fun _ _ _ _=>(jbx q_le (jji hu (qv 2) (qv 0) ja2) (jap jeg ja2 (qv 1)) (jaj _)))) ja3))))))))),?_⟩
 have hkd:=jck hd
 simp_arith [hkd]
 cases d with
 | lst ds =>
  rw [Rep] at hd
  obtain ⟨l,zs,rfl,el,r⟩:=hd
  have hlv:=r.len
  simp_arith [kdD,isi,jag,hu1,at1]
  refine ⟨ta,ys,ts,rfl,hta,hys,wk.t.nodup,wk.tl,fun m H1 hm0 s1 em p hp=>?_⟩
  have s2:=s1.trans (ja4 hp (.tup [.int (-1),.int (-1)]))
  have em2:=ja4 hp (.tup [.int (-1),.int (-1)]) _ _ em
  have ep:upd H1 p (.tup [.int (-1),.int (-1)]) p = some (.tup [.int (-1),.int (-1)]):=ja1
  generalize upd H1 p (.tup [.int (-1),.int (-1)]) = H2 at s2 em2 ep
  refine jb8 (Itl K l) H2 (fun R' hR'=>?_) (jea (K:=K) (a:=l) (xs:=zs) (fun i σ Hc=>∃ v4 pl q qs,σ = [some (.ref u),some (.ref l),some (.ref m),some (.ref pl),v4,none]∧Same H Hc∧Hc m = some (.dT (mkT ts))∧Hc pl = some (.tup [.int q.1,.int q.2])∧jbz ts (-1,-1) ds = (jbz ts q (ds.drop i)).map (qs ++ ·)∧Tps H (zs.take i) qs) ⟨none,p,(-1,-1),[],rfl,s2,em2,ep,by simp,.nil⟩ (fun i σ Hc _ ⟨_,_,_,_,_,s3,_⟩=>SqL.of (s3 _ _ el)) ?_ ?_)
  ·unfold jdc
   walk_at "RD"
   exact ⟨l,rfl,⟨_,SqL.of (s2 _ _ el)⟩,hR'⟩
  ·rintro i x σ Hc hx ⟨v4,pl,q,qs,rfl,s3,em3,epl,hdo,hq⟩
   obtain ⟨dt,hdt,rdt⟩:=r.at hx
   have hdr:ds.drop i = dt :: ds.drop (i + 1):=jcm hdt
   walk_at "RD"
   refine ⟨_,dt,rfl,Rep.same s3 _ rdt,fun H4 s4=>?_⟩
   have s5:=s3.trans s4
   have em4:=s4 _ _ em3
   have ep4:=s4 _ _ epl
   cases hdu:dueO dt with
   | none =>
    simp_arith [Option.isSome]
    have hb:=h H4 s5
    rw [jc4 (by rw [hdo,hdr,jbz,hdu]; rfl)] at hb
    exact hb
   | some p =>
    simp_arith [Option.isSome]
    have htd:dt = jc2 p:=by
     unfold dueO at hdu
     split at hdu
     ·rename_i p' e
      split at hdu
      ·cases hdu; exact jk9 e
      ·cases hdu
     ·cases hdu
    subst htd
    obtain ⟨t,rfl,ht⟩:=jf0 rdt
    have ht4:=s5 _ _ ht
    simp_arith [ht4,tB,jm2]
    refine ⟨jk3 (.int p.1) (.int p.2.1) (.int p.2.2),fun k1 hk1=>?_⟩
    rw [cut3]
    have s6:=ja4 hk1 (.tup [.int p.1,.int p.2.1])
    have e6:upd H4 k1 (.tup [.int p.1,.int p.2.1]) k1 = some (.tup [.int p.1,.int p.2.1]):=ja1
    generalize upd H4 k1 (.tup [.int p.1,.int p.2.1]) = H6 at s6 e6
    refine ⟨m,_,rfl,DGet.t (k:=[Sum.inl p.1,Sum.inl p.2.1]) (s6 _ _ em4) e6,?_⟩
    have hmk:=jn7 ts (p.1,p.2.1)
    dsimp only at hmk
    refine ⟨_,rfl,?_⟩
    rw [hmk]
    by_cases cm:(p.1,p.2.1) ∈ ts
    ·rw [decide_eq_true cm,if_neg (by decide),s6 _ _ ht4]
     refine ⟨jk3 (.int p.1) (.int p.2.1) (.int p.2.2),fun k2 hk2=>?_⟩
     rw [cut3]
     have s7:=ja4 hk2 (.tup [.int p.1,.int p.2.1])
     have e7:upd H6 k2 (.tup [.int p.1,.int p.2.1]) k2 = some (.tup [.int p.1,.int p.2.1]):=ja1
     generalize upd H6 k2 (.tup [.int p.1,.int p.2.1]) = H7 at s7 e7
     have s8:=s6.trans s7
     simp_arith [fLeT,e7,s8 _ _ ep4]
     by_cases cl:leL [p.1,p.2.1] [q.1,q.2] = true
     ·rw [if_pos cl]
      have hb:=h H7 (s5.trans s8)
      rw [jc4 (by rw [hdo,hdr,jbz,hdu]; dsimp only; rw [if_neg (fun z=>by rw [z.2] at cl; cases cl)]; rfl)] at hb
      exact hb
     ·rw [if_neg cl,s8 _ _ ht4]
      refine ⟨jk3 (.int p.1) (.int p.2.1) (.int p.2.2),fun k3 hk3=>?_⟩
      rw [cut3]
      have s9:=s8.trans (ja4 hk3 (.tup [.int p.1,.int p.2.1]))
      refine ⟨_,k3,(p.1,p.2.1),qs ++ [p],rfl,s5.trans s9,s9 _ _ em4,ja1,?_,?_⟩
      ·rw [hdo,hdr,jbz,hdu]
       dsimp only
       rw [if_pos ⟨cm,Bool.eq_false_iff.mpr cl⟩,Option.map_map]
       congr 1
       funext w
       show qs ++ p :: w = (qs ++ [p]) ++ w
       rw [List.append_assoc]
       rfl
      ·rw [jau hx]
       exact jbc hq ⟨t,rfl,ht⟩
    ·rw [decide_eq_false cm,if_pos (by decide)]
     have hb:=h H6 (s5.trans s6)
     rw [jc4 (by rw [hdo,hdr,jbz,hdu]; dsimp only; rw [if_neg (fun z=>cm z.1)]; rfl)] at hb
     exact hb
  ·rintro σ Hc ⟨v4,pl,q,qs,rfl,s3,em3,epl,hdo,hq⟩
   rw [List.drop_eq_nil_of_le (by omega),jbz,Option.map_some,List.append_nil] at hdo
   rw [List.take_length] at hq
   walk_at "RD"
   refine ⟨l,zs,qs,rfl,s3 _ _ el,jf1 s3.tups hq,?_,fun d kvs H5 s5 ed5 pd=>?_⟩
   ·rw [← Paired.length hq,hlv]; exact hs _ rfl
   have s6:=s3.trans s5
   refine jaw (Itl K pa) H5 (fun R hR=>?_) (fun z hz0=>jbe ps.length (fun i σ' Hc=>∃ w1 w2,σ' = [w1,w2,some (.ref d)]∧Same H5 Hc∧Hc z = some (.lst (((ps.take i).map fun p=>decide (jal qs p.1 ≤ 2 * p.2)).map V.bl))) ⟨none,none,rfl,ja4 hz0 _,ja1⟩ ?_ ?_)
   ·unfold jdc
    simp_arith [jag,s6 _ _ hu1,at0]
    exact ⟨pa,rfl,⟨_,SqL.of (s6 _ _ hpa)⟩,hR⟩
   ·rintro i σ' Hc hi ⟨w1,w2,rfl,s7,ez⟩
    have hxl:=Paired.length hxs
    have x1:xs[i]? = some (xs[i]'(by omega)):=List.getElem?_eq_getElem _
    have s8:=s6.trans s7
    refine ⟨⟨_,_,SqL.of (s8 _ _ hpa),x1⟩,?_⟩
    rintro y H' ⟨rfl,hy⟩
    have E1:=Option.some.inj (x1.symm.trans (hy _ (SqL.of (s8 _ _ hpa))))
    obtain ⟨pr,hpr,px⟩:=jaf hxs x1
    rw [E1] at px
    obtain ⟨b,rfl,hb⟩:=px.same s8
    simp_arith [hb,s7 _ _ ed5,pd.get]
    refine ⟨⟨_,rfl⟩,cmL (by decide) (by decide),_,ez,?_,_,_,rfl,jav s7 hz0,?_⟩
    ·rw [List.length_map,List.length_map,List.length_take]
     have:=wk.pl
     exact szl' (by omega)
    ·rw [ja1,jau hpr,List.map_append,List.map_append]
     rfl
   ·rintro σ' Hc ⟨w1,w2,rfl,s7,ez⟩
    have s8:=s6.trans s7
    refine ⟨⟨_,SqL.of (s8 _ _ hpa),by have:=Paired.length hxs; omega⟩,?_⟩
    rw [List.take_length] at ez
    simp_arith [ez]
    refine ⟨_,rfl,?_⟩
    have hb:=h Hc s8
    rw [jdi hdo] at hb
    have ew:(ps.map fun p=>decide (jal qs p.1 ≤ 2 * p.2)).all id = jfo ps qs:=by rw [List.all_map]; rfl
    rw [ew]
    exact hb
 | _=>simp_arith [kdD,isi]; exact h H (Same.refl _)
end
end My
namespace My
open PySem L2
section
variable {P:Program} {w:World} {K:PySem.W.Frag} {mg:Str→Option Value} {base:Heap} {c1 c2 c3 c4:Tok} {C_NoWeb f_NoWeb:Addr} {dI:FuncData}
def halO:List (Int × Int)→List Dt→Option (List (Int × Int))
 | [],[]=>some []
 | p :: ps,d :: ds=>match prO d with
  | some h=>if h.1 = p.1∧0 ≤ h.2∧h.2 ≤ 2 then (halO ps ds).map (h :: ·) else none
  | none=>none
 | _,_=>none
def hOf (hs:List (Int × Int)) (n:Int):Int:=match valV (jbk hs) (Sum.inl n:Key) with
 | some (.int i)=>i
 | _=>0
def jfd (ts hs:List (Int × Int)):Bool:=ts.all fun t=>decide (hOf hs t.1 + hOf hs t.2 ≥ 2)
def halB (ps ts:List (Int × Int)):Dt→Bool
 | .lst ds=>match halO ps ds with
  | some hs=>jfd ts hs
  | none=>false
 | _=>false
theorem jb3 {ps ts:List (Int × Int)} {ds:List Dt} (h:halO ps ds = none):halB ps ts (.lst ds) = false:=by
 show (match halO ps ds with | some hs=>jfd ts hs | none=>false) = false
 rw [h]
theorem je9 {ps ts:List (Int × Int)} {ds:List Dt} {hs:List (Int × Int)} (h:halO ps ds = some hs):halB ps ts (.lst ds) = jfd ts hs:=by
 show (match halO ps ds with | some hs=>jfd ts hs | none=>false) = _
 rw [h]
theorem jhn:∀ {ps:List (Int × Int)} {ds:List Dt},¬ ds.length = ps.length→halO ps ds = none
 | [],[],h=>absurd rfl h
 | [],_ :: _,_=>rfl
 | _ :: _,[],_=>rfl
 | p :: ps,d :: ds,h=>by
  rw [halO,jhn (ps:=ps) (ds:=ds) (fun z=>h (by rw [List.length_cons,List.length_cons,z]))]
  split
  ·split <;> rfl
  ·rfl
theorem jg3 {hs:List (Int × Int)} {n:Int} (hn:(hs.map (·.1)).Nodup) (h:n ∈ hs.map (·.1)):valV (jbk hs) (Sum.inl n:Key) = some (.int (hOf hs n)):=by
 obtain ⟨p,hp,rfl⟩:=List.mem_map.mp h
 have e:=jfb hn hp
 unfold hOf
 rw [e]
theorem TiOk.in {kvs:List (Key × V)}:∀ {ts:List (Int × Int)} {q:Int × Int},TiOk kvs q ts→∀ p ∈ ts,p.1 < p.2∧hasK kvs p.1 = true∧hasK kvs p.2 = true
 | [],_,_,_,h=>by cases h
 | u :: r,q,h,p,hp=>by
  rcases List.mem_cons.mp hp with e | hp
  ·rw [e]; exact h.1.2
  ·exact TiOk.in h.2 p hp
theorem jcq:∀ {ps:List (Int × Int)} {n:Int},hasK (jbk ps) n = true→n ∈ ps.map (·.1)
 | [],_,h=>by cases h
 | p :: r,n,h=>by
  by_cases c:p.1 = n
  ·rw [← c]; exact List.mem_cons_self
  ·refine List.mem_cons_of_mem _ (jcq ?_)
   unfold hasK jbk valV at h
   rw [List.map_cons,List.find?_cons] at h
   dsimp only at h
   rw [decide_eq_false (fun z=>c (Sum.inl.inj z))] at h
   exact h
def jf3:Sp:=fun vs H Q _=>∃ v ps ts y d,vs = [v,y]∧jdf H v ps ts∧WebOk ps ts∧Rep H d y∧∀ H',Same H H'→Q (.bl (halB ps ts d)) H'
def jlo (ps hs:List (Int × Int)):Int:=(hs.map fun h=>hOf ps h.1 * h.2).sum
def jmc:Sp:=fun vs H Q _=>∃ v ps ts l zs hs,vs = [v,.ref l]∧jdf H v ps ts∧WebOk ps ts∧H l = some (.lst zs)∧Prs H zs hs∧hs.length ≤ 200∧(∀ h ∈ hs,h.1 ∈ ps.map (·.1)∧0 ≤ h.2∧h.2 ≤ 2)∧∀ H',Same H H'→Q (.int (jlo ps hs)) H'
theorem jft {f:Addr} {fd:FuncData} {f_is_pair_of_wholes:Addr} {d_is_pair_of_wholes:FuncData} (B:Blt mg) (D:DefAt K mg "halves_stand" (top 20) ["web","thing"] f fd) (D_is_pair_of_wholes:DefAt K mg "is_pair_of_wholes" (top 3) ["thing"] f_is_pair_of_wholes d_is_pair_of_wholes) (G_is_pair_of_wholes:FnOk P w K mg base CX0 2 f_is_pair_of_wholes d_is_pair_of_wholes ["thing"] jm5):FnOk P w K mg base CX0 3 f fd ["web","thing"] jf3:=by
 have sc:FnScope ["web","thing","pair","known","halves"] ["web","thing"] (jac (top 20)):=⟨rfl,rfl,rfl,by decide +kernel,rfl,by decide +kernel,by decide +kernel⟩
 refine D.F.ok sc (fun vs H Q E h=>?_) (fun cdv A outer s H vs Q E hr h=>?_)
 ·obtain ⟨v,ps,ts,y,d,rfl,_⟩:=h
  rfl
 obtain ⟨v,ps,ts,y,d,rfl,hw,wk,hd,h⟩:=h
 obtain ⟨u,pa,ta,xs,ys,rfl,hu1,hpa,hta,hxs,hys⟩:=hw
 have hxl:=Paired.length hxs
 have hu:=jbo hr
 have hu0:_ < PySem.cLine:=Nat.lt_of_succ_lt hu
 refine ⟨_,(ja5 (jb5 (PW.pt (jd6 (jbb (jb9 (ja9 (jdk .lst) rfl B.isinstance PyProof.Rows.boot_isinstance (ja0 (qv 1) (ja0 (jbn (v:=.ty "list") rfl B.list PyProof.Rows.boot_list rfl) ja3))))) (jcu (jaq q_ne (ja9 jci rfl B.len PySem.boot_len (ja0 (qv 1) ja3)) (ja9 jci rfl B.len PySem.boot_len (ja0 (jab q_ix (qv 0) ja2 (fun _ _=>rfl)) ja3)) (jaj _))))) (ja6 (jan jc8)) jam) (ja5 (jce PassesOwn.never rfl (jqr rfl B.zip (ja0 (qv 1) (ja0 (jab q_ix (qv 0) ja2 (fun _ _=>rfl)) ja3))) (jd8 (n:=2) rfl (jah (jad (i:=2) sc.nd rfl (Or.inl rfl)) (jah (jad (i:=3) sc.nd rfl (Or.inl rfl)) jbw))) (ja6 (jb5 (PW.pt (jd6 (jbb (jb9 (ja8 G_is_pair_of_wholes (hr.mono (by decide)) rfl D_is_pair_of_wholes.m D_is_pair_of_wholes.F.kp D_is_pair_of_wholes.b .nil jar (ja0 (qv 2) ja3)))) (jd6 (jaq q_ne (jab q_ix (qv 2) ja2 (fun _ _=>rfl)) (jab q_ix (qv 3) ja2 (fun _ _=>rfl)) (jaj _)) (jcu (jbb (jou q_le q_le ja2 (jab q_ix (qv 2) ja2 (fun _ _=>rfl)) ja2)))))) (ja6 (jan jc8)) jam))) (ja5 (jae (i:=4) sc.nd rfl (Or.inr rfl) (jat (jjh rfl) rfl B.dict PyProof.Rows.boot_dict (ja0 (qv 1) ja3))) (ja6 (jan (ja9 (jqq rfl) rfl B.all PyProof.Rows.boot_all (ja0 (jc7 (CpScope.of (N:=["one","other","halves"]) (src:=[none,none,some 4]) (by rfl)) rfl (jbm (jab q_ix (qv 0) ja2 (fun _ _=>rfl))) (fun _ _ _ _=>(jd8 (n:=2) rfl (jah (jad (i:=0) (jak (l:=["one","other","halves"]) (by rfl)) rfl (Or.inl rfl)) (jah (jad (i:=1) (jak (l:=["one","other","halves"]) (by rfl)) rfl (Or.inl rfl)) jbw)))) (fun _ _ _ _=>jco) (fun _ _ _ _=>(jbx q_ge (jap jbr (jfj hu (qv 2) (qv 0) (fun _ _=>rfl)) (jfj hu (qv 2) (qv 1) (fun _ _=>rfl))) ja2 (jaj _)))) ja3))))))),?_⟩
 have hkd:=jck hd
 simp_arith [hkd]
 cases d with
 | lst ds =>
  rw [Rep] at hd
  obtain ⟨l,zs,rfl,el,r⟩:=hd
  have hlv:=r.len
  simp_arith [kdD,isi,jag,hu1,at0,el,hpa]
  by_cases cl:zs.length = xs.length
  ·rw [decide_eq_true (show (zs.length:Int) = (xs.length:Int) by omega),if_neg (by decide)]
   refine jb8 (Itz true K l pa) H (fun R' hR'=>?_) (jr3 (K:=K) (a:=l) (c:=pa) (xs:=zs) (ys:=xs) (fun i σ H1=>∃ w1 w2 hs,σ = [some (.ref u),some (.ref l),w1,w2,none]∧Same H H1∧halO ps ds = (halO (ps.drop i) (ds.drop i)).map (hs ++ ·)∧Prs H (zs.take i) hs∧hs.map (·.1) = (ps.take i).map (·.1)) cl ⟨none,none,[],rfl,Same.refl _,by simp,.nil,rfl⟩ (fun i σ H1 _ ⟨_,_,_,_,s1,_⟩=>⟨SqL.of (s1 _ _ el),SqL.of (s1 _ _ hpa)⟩) ?_ ?_)
   ·unfold iZipE
    simp_arith [jag,hu1,at0]
    exact ⟨true,l,pa,rfl,⟨zs,by unfold SqB; rw [if_pos rfl]; exact SqL.of el⟩,⟨xs,by unfold SqB; rw [if_pos rfl]; exact SqL.of hpa⟩,hR'⟩
   ·rintro i x y σ H1 t hx hy ⟨w1,w2,hs,rfl,s1,hho,hq,hk⟩ ht
    obtain ⟨dt,hdt,rdt⟩:=r.at hx
    obtain ⟨p,hp,pq⟩:=jaf hxs hy
    rw [jcm hdt,jcm hp,halO] at hho
    have s2:Same H (upd H1 t (.tup [x,y])):=s1.trans (ja4 ht _)
    have et2:upd H1 t (.tup [x,y]) t = some (.tup [x,y]):=ja1
    generalize upd H1 t (.tup [x,y]) = H2 at s2 et2
    obtain ⟨b2,rfl,eb2⟩:=pq.same s2
    simp_arith [et2]
    refine ⟨_,prO dt,rfl,⟨dt,Rep.same s2 _ rdt,rfl⟩,?_⟩
    cases hpd:prO dt with
    | none =>
     simp_arith [Option.isSome]
     have hb:=h H2 s2
     rw [jb3 (by rw [hho,hpd]; rfl)] at hb
     exact hb
    | some k =>
     have hpk:=jh9 hpd
     rw [hpk] at rdt
     have pk:=jko rdt
     obtain ⟨b1,rfl,eb1⟩:=pk.same s2
     rw [hpd] at hho
     dsimp only at hho
     simp_arith [Option.isSome,jag,eb1,eb2,at0,at1]
     by_cases c1:k.1 = p.1
     ·by_cases c2:0 ≤ k.2
      ·by_cases c3:k.2 ≤ 2
       ·rw [if_pos ⟨c1,c2,c3⟩] at hho
        simp only [c1,decide_true,Bool.not_true,Bool.false_eq_true,if_false,decide_eq_true c2,decide_eq_true c3]
        have hn:∃ w1 w2 hs',[some (V.ref u),some (.ref l),some (.ref b1),some (.ref b2),none] = [some (V.ref u),some (.ref l),w1,w2,none]∧Same H H2∧halO ps ds = (halO (ps.drop (i + 1)) (ds.drop (i + 1))).map (hs' ++ ·)∧Prs H (zs.take (i + 1)) hs'∧hs'.map (·.1) = (ps.take (i + 1)).map (·.1):=by
         refine ⟨_,_,hs ++ [k],rfl,s2,?_,?_,?_⟩
         ·rw [hho,Option.map_map]
          congr 1
          funext w
          show hs ++ k :: w = (hs ++ [k]) ++ w
          rw [List.append_assoc]
          rfl
         ·rw [jau hx]
          exact jbc hq pk
         ·rw [jau hp,List.map_append,List.map_append,hk,List.map_singleton,List.map_singleton,c1]
        first | exact hn | (walk_at "RD"; exact hn)
       ·have hb:=h H2 s2
        rw [jb3 (by rw [hho,if_neg (fun z=>c3 z.2.2)]; rfl)] at hb
        simp only [c1,decide_true,Bool.not_true,Bool.false_eq_true,if_false,decide_eq_true c2,decide_eq_false c3]
        first | exact hb | (walk_at "RD"; exact hb)
      ·have hb:=h H2 s2
       rw [jb3 (by rw [hho,if_neg (fun z=>c2 z.2.1)]; rfl)] at hb
       simp only [c1,decide_true,Bool.not_true,Bool.false_eq_true,if_false,decide_eq_false c2]
       first | exact hb | (walk_at "RD"; exact hb)
     ·have hb:=h H2 s2
      rw [jb3 (by rw [hho,if_neg (fun z=>c1 z.1)]; rfl)] at hb
      simp only [decide_eq_false c1]
      first | exact hb | (walk_at "RD"; exact hb)
   ·rintro σ H1 ⟨w1,w2,hs,rfl,s1,hho,hq,hk⟩
    rw [List.drop_eq_nil_of_le (show ps.length ≤ zs.length by omega),List.drop_eq_nil_of_le (show ds.length ≤ zs.length by omega),halO,Option.map_some,List.append_nil] at hho
    rw [List.take_length] at hq
    rw [List.take_of_length_le (by omega)] at hk
    have nd:(hs.map (·.1)).Nodup:=by rw [hk]; exact wk.p.nodup
    have hzl:=Paired.length hq
    have hpl:=wk.pl
    simp_arith [s1 _ _ el]
    refine ⟨jbk hs,jf5 (Prs.same s1 hq),by omega,jen nd,fun d hd0=>?_⟩
    have s2:Same H (upd H1 d (.dK (jbk hs))):=s1.trans (ja4 hd0 _)
    have ed:upd H1 d (.dK (jbk hs)) d = some (.dK (jbk hs)):=ja1
    generalize upd H1 d (.dK (jbk hs)) = H2 at s2 ed
    refine jaw (Itl K ta) H2 (fun R hR=>?_) (fun z hz0=>jbe ts.length (fun i σ' Hc=>∃ w1 w2,σ' = [w1,w2,some (.ref d)]∧Same H2 Hc∧Hc z = some (.lst (((ts.take i).map fun t=>decide (hOf hs t.1 + hOf hs t.2 ≥ 2)).map V.bl))) ⟨none,none,rfl,ja4 hz0 _,ja1⟩ ?_ ?_)
    ·unfold jdc
     simp_arith [jag,s2 _ _ hu1,at1]
     exact ⟨ta,rfl,⟨_,SqL.of (s2 _ _ hta)⟩,hR⟩
    ·rintro i σ' Hc hi ⟨w1,w2,rfl,s7,ez⟩
     have hyl:=Paired.length hys
     have x1:ys[i]? = some (ys[i]'(by omega)):=List.getElem?_eq_getElem _
     have s8:=s2.trans s7
     refine ⟨⟨_,_,SqL.of (s8 _ _ hta),x1⟩,?_⟩
     rintro y H' ⟨rfl,hy⟩
     have E1:=Option.some.inj (x1.symm.trans (hy _ (SqL.of (s8 _ _ hta))))
     obtain ⟨pr,hpr,px⟩:=jaf hys x1
     rw [E1] at px
     obtain ⟨b,rfl,hb⟩:=px.same s8
     obtain ⟨_,k1,k2⟩:=wk.t.in pr (List.mem_of_getElem? hpr)
     have v1:=jg3 nd (by rw [hk]; exact jcq k1)
     have v2:=jg3 nd (by rw [hk]; exact jcq k2)
     simp_arith [hb,s7 _ _ ed,v1,v2]
     refine ⟨_,ez,?_,_,_,rfl,jav s7 hz0,?_⟩
     ·rw [List.length_map,List.length_map,List.length_take]
      have:=wk.tl
      exact szl' (by omega)
     ·rw [ja1,jau hpr,List.map_append,List.map_append]
      rfl
    ·rintro σ' Hc ⟨w1,w2,rfl,s7,ez⟩
     have s8:=s2.trans s7
     refine ⟨⟨_,SqL.of (s8 _ _ hta),by have:=Paired.length hys; omega⟩,?_⟩
     rw [List.take_length] at ez
     simp_arith [ez]
     refine ⟨_,rfl,?_⟩
     have hb:=h Hc s8
     rw [je9 hho] at hb
     have ew:(ts.map fun t=>decide (hOf hs t.1 + hOf hs t.2 ≥ 2)).all id = jfd ts hs:=by rw [List.all_map]; rfl
     rw [ew]
     exact hb
  ·have hb:=h H (Same.refl _)
   rw [jb3 (jhn (by omega))] at hb
   rw [decide_eq_false (show ¬ (zs.length:Int) = (xs.length:Int) by omega),if_pos (by decide)]
   exact hb
 | _=>simp_arith [kdD,isi]; exact h H (Same.refl _)
theorem jel {f:Addr} {fd:FuncData}  (B:Blt mg) (D:DefAt K mg "cost_in_halves" (top 24) ["web","halves"] f fd):FnOk P w K mg base CX0 1 f fd ["web","halves"] jmc:=by
 have sc:FnScope ["web","halves","prices"] ["web","halves"] (jac (top 24)):=⟨rfl,rfl,rfl,by decide +kernel,rfl,by decide +kernel,by decide +kernel⟩
 refine D.F.ok sc (fun vs H Q E h=>?_) (fun cdv A outer s H vs Q E hr h=>?_)
 ·obtain ⟨v,ps,ts,l,zs,hs,rfl,_⟩:=h
  rfl
 obtain ⟨v,ps,ts,l,zs,hs,rfl,hw,wk,el,hz,hl,hh,h⟩:=h
 obtain ⟨u,pa,ta,xs,ys,rfl,hu1,hpa,hta,hxs,hys⟩:=hw
 have hxl:=Paired.length hxs
 have hu:=jbo hr
 have hu0:_ < PySem.cLine:=Nat.lt_of_succ_lt hu
 refine ⟨_,(ja5 (jae (i:=2) sc.nd rfl (Or.inr rfl) (jat (jjh rfl) rfl B.dict PyProof.Rows.boot_dict (ja0 (jab q_ix (qv 0) ja2 (fun _ _=>rfl)) ja3))) (ja6 (jan (ja9 (jqn rfl) rfl B.sum PyProof.Rows.boot_sum (ja0 (jc7 (CpScope.of (N:=["place","h","prices"]) (src:=[none,none,some 2]) (by rfl)) rfl (jbm (qv 1)) (fun _ _ _ _=>(jd8 (n:=2) rfl (jah (jad (i:=0) (jak (l:=["place","h","prices"]) (by rfl)) rfl (Or.inl rfl)) (jah (jad (i:=1) (jak (l:=["place","h","prices"]) (by rfl)) rfl (Or.inl rfl)) jbw)))) (fun _ _ _ _=>jco) (fun _ _ _ _=>(jap jeg (jfj hu (qv 2) (qv 0) (fun _ _=>rfl)) (qv 1)))) ja3))))),?_⟩
 simp_arith [jag,hu1,at0,hpa]
 have hpl:=wk.pl
 refine ⟨jbk ps,jf5 hxs,by omega,jen wk.p.nodup,fun d hd0=>?_⟩
 have s2:Same H (upd H d (.dK (jbk ps))):=ja4 hd0 _
 have ed:upd H d (.dK (jbk ps)) d = some (.dK (jbk ps)):=ja1
 generalize upd H d (.dK (jbk ps)) = H2 at s2 ed
 have hzl:=Paired.length hz
 refine jaw (Itl K l) H2 (fun R hR=>?_) (fun z hz0=>jbe hs.length (fun i σ' Hc=>∃ w1 w2,σ' = [w1,w2,some (.ref d)]∧Same H2 Hc∧Hc z = some (.lst (((hs.take i).map fun h=>hOf ps h.1 * h.2).map V.int))) ⟨none,none,rfl,ja4 hz0 _,ja1⟩ ?_ ?_)
 ·unfold jdc
  walk_at "RD"
  exact ⟨l,rfl,⟨_,SqL.of (s2 _ _ el)⟩,hR⟩
 ·rintro i σ' Hc hi ⟨w1,w2,rfl,s7,ez⟩
  have x1:zs[i]? = some (zs[i]'(by omega)):=List.getElem?_eq_getElem _
  have s8:=s2.trans s7
  refine ⟨⟨_,_,SqL.of (s8 _ _ el),x1⟩,?_⟩
  rintro y H' ⟨rfl,hy⟩
  have E1:=Option.some.inj (x1.symm.trans (hy _ (SqL.of (s8 _ _ el))))
  obtain ⟨pr,hpr,px⟩:=jaf hz x1
  rw [E1] at px
  obtain ⟨b,rfl,hb⟩:=px.same s8
  obtain ⟨k1,k2,k3⟩:=hh pr (List.mem_of_getElem? hpr)
  have v1:=jg3 wk.p.nodup k1
  simp_arith [hb,s7 _ _ ed,v1]
  refine ⟨cmR (by omega) (by omega),_,ez,?_,_,_,rfl,jav s7 hz0,?_⟩
  ·rw [List.length_map,List.length_map,List.length_take]
   exact szl' (by omega)
  ·rw [ja1,jau hpr,List.map_append,List.map_append]
   rfl
 ·rintro σ' Hc ⟨w1,w2,rfl,s7,ez⟩
  have s8:=s2.trans s7
  refine ⟨⟨_,SqL.of (s8 _ _ el),by omega⟩,?_⟩
  rw [List.take_length] at ez
  exact ⟨z,_,rfl,ez,h Hc s8⟩
end
end My
namespace My
open PySem L2
section
variable {P:Program} {w:World} {K:PySem.W.Frag} {mg:Str→Option Value} {base:Heap} {c1 c2 c3 c4:Tok} {C_NoWeb f_NoWeb:Addr} {dI:FuncData}
theorem jcy:∀ {ps:List (Int × Int)} {ds:List Dt} {hs:List (Int × Int)},halO ps ds = some hs→ds = hs.map jbf∧hs.map (·.1) = ps.map (·.1)∧∀ h ∈ hs,0 ≤ h.2∧h.2 ≤ 2
 | [],[],hs,h=>by cases h; exact ⟨rfl,rfl,fun _ z=>by cases z⟩
 | [],_ :: _,_,h=>by cases h
 | _ :: _,[],_,h=>by cases h
 | p :: ps,d :: ds,hs,h=>by
  rw [halO] at h
  split at h
  ·rename_i k hk
   split at h
   ·rename_i c
    cases e:halO ps ds with
    | none=>rw [e] at h; cases h
    | some r =>
     rw [e] at h
     cases h
     obtain ⟨i1,i2,i3⟩:=jcy e
     refine ⟨by rw [List.map_cons,← i1,jh9 hk],by rw [List.map_cons,List.map_cons,i2,c.1],fun z hz=>?_⟩
     rcases List.mem_cons.mp hz with e | hz
     ·rw [e]; exact c.2
     ·exact i3 z hz
   ·cases h
  ·cases h
theorem jj2 {d:Dt} {p:Int × Int × Int} (hdu:dueO d = some p):d = jc2 p∧1 ≤ p.2.2:=by
 unfold dueO at hdu
 split at hdu
 ·rename_i p' e
  split at hdu
  ·rename_i c; cases hdu; exact ⟨jk9 e,c⟩
  ·cases hdu
 ·cases hdu
theorem jgt {ts:List (Int × Int)}:∀ {ds:List Dt} {q:Int × Int} {qs:List (Int × Int × Int)},jbz ts q ds = some qs→ds = qs.map jc2∧∀ d ∈ qs,(d.1,d.2.1) ∈ ts∧1 ≤ d.2.2
 | [],_,qs,h=>by cases h; exact ⟨rfl,fun _ z=>by cases z⟩
 | d :: ds,q,qs,h=>by
  rw [jbz] at h
  split at h
  ·rename_i k hk
   split at h
   ·rename_i c
    cases e:jbz ts (k.1,k.2.1) ds with
    | none=>rw [e] at h; cases h
    | some r =>
     rw [e] at h
     cases h
     obtain ⟨i1,i3⟩:=jgt e
     refine ⟨by rw [List.map_cons,← i1,(jj2 hk).1],fun z hz=>?_⟩
     rcases List.mem_cons.mp hz with e | hz
     ·rw [e]; exact ⟨c.1,(jj2 hk).2⟩
     ·exact i3 z hz
   ·cases h
  ·cases h
theorem jh6 {H:Hp}:∀ {hs:List (Int × Int)} {zs:List V},Reps H (hs.map jbf) zs→Prs H zs hs
 | [],zs,h=>by rw [List.map_nil,Reps] at h; subst h; exact .nil
 | k :: r,zs,h=>by
  rw [List.map_cons,Reps] at h
  obtain ⟨v,vs,rfl,h1,h2⟩:=h
  exact .cons (jko h1) (jh6 h2)
theorem jh5 {H:Hp}:∀ {hs:List (Int × Int × Int)} {zs:List V},Reps H (hs.map jc2) zs→Tps H zs hs
 | [],zs,h=>by rw [List.map_nil,Reps] at h; subst h; exact .nil
 | k :: r,zs,h=>by
  rw [List.map_cons,Reps] at h
  obtain ⟨v,vs,rfl,h1,h2⟩:=h
  exact .cons (jf0 h1) (jh5 h2)
def pap2 (ps ts:List (Int × Int)) (a b:Dt):Bool:=match a,b with
 | .lst as,.lst bs=>match halO ps as,jbz ts (-1,-1) bs with
  | some hs,some qs=>jfd ts hs && (jfo ps qs && decide ((qs.map (·.2.2)).sum = jlo ps hs))
  | _,_=>false
 | _,_=>false
def jcw (ps ts:List (Int × Int)):Dt→Bool
 | .tup [a,b]=>pap2 ps ts a b
 | _=>false
theorem jei {ps ts:List (Int × Int)} {a b:Dt}:jcw ps ts (.tup [a,b]) = pap2 ps ts a b:=rfl
theorem jik {ps ts:List (Int × Int)} {ds:List Dt} (h:¬ ds.length = 2):jcw ps ts (.tup ds) = false:=by
 unfold jcw
 split
 ·rename_i e; cases e; exact absurd rfl h
 ·rfl
theorem jq3 {ps ts:List (Int × Int)} {a b:Dt} (h:halB ps ts a = false):pap2 ps ts a b = false:=by
 unfold pap2
 split
 ·rename_i as bs
  split
  ·rename_i hs qs e1 e2
   rw [je9 e1] at h
   rw [h]; rfl
  ·rfl
 ·rfl
theorem jq4 {ps ts:List (Int × Int)} {a b:Dt} (h:jhq ps ts b = false):pap2 ps ts a b = false:=by
 unfold pap2
 split
 ·rename_i as bs
  split
  ·rename_i hs qs e1 e2
   rw [jdi e2] at h
   rw [h,Bool.false_and,Bool.and_false]
  ·rfl
 ·rfl
theorem jix {ps ts:List (Int × Int)} {a:Dt} (h:halB ps ts a = true):∃ hs,a = .lst (hs.map jbf)∧halO ps (hs.map jbf) = some hs∧jfd ts hs = true:=by
 cases a with
 | lst as =>
  cases e:halO ps as with
  | none=>rw [jb3 e] at h; cases h
  | some hs =>
   rw [je9 e] at h
   have:=(jcy e).1
   subst this
   exact ⟨hs,rfl,e,h⟩
 | _=>cases h
theorem jgu {ps ts:List (Int × Int)} {a:Dt} (h:jhq ps ts a = true):∃ qs,a = .lst (qs.map jc2)∧jbz ts (-1,-1) (qs.map jc2) = some qs∧jfo ps qs = true:=by
 cases a with
 | lst as =>
  cases e:jbz ts (-1,-1) as with
  | none=>rw [jc4 e] at h; cases h
  | some hs =>
   rw [jdi e] at h
   have:=(jgt e).1
   subst this
   exact ⟨hs,rfl,e,h⟩
 | _=>cases h
def jme (d:Dt):Prop:=∀ a b,d = .tup [a,b]→jmf b
def jh2:Sp:=fun vs H Q _=>∃ v ps ts y d,vs = [v,y]∧jdf H v ps ts∧WebOk ps ts∧Rep H d y∧jme d∧∀ H',Same H H'→Q (.bl (jcw ps ts d)) H'
theorem jfq {f:Addr} {fd:FuncData} {f_is_tuple_of:Addr} {d_is_tuple_of:FuncData} {f_halves_stand:Addr} {d_halves_stand:FuncData} {f_dues_stand:Addr} {d_dues_stand:FuncData} {f_cost_in_halves:Addr} {d_cost_in_halves:FuncData} (B:Blt mg) (D:DefAt K mg "paper_stands" (top 25) ["web","thing"] f fd) (D_is_tuple_of:DefAt K mg "is_tuple_of" (top 2) ["thing","many"] f_is_tuple_of d_is_tuple_of) (G_is_tuple_of:FnOk P w K mg base CX0 1 f_is_tuple_of d_is_tuple_of ["thing","many"] jkd) (D_halves_stand:DefAt K mg "halves_stand" (top 20) ["web","thing"] f_halves_stand d_halves_stand) (G_halves_stand:FnOk P w K mg base CX0 3 f_halves_stand d_halves_stand ["web","thing"] jf3) (D_dues_stand:DefAt K mg "dues_stand" (top 23) ["web","thing"] f_dues_stand d_dues_stand) (G_dues_stand:FnOk P w K mg base CX0 4 f_dues_stand d_dues_stand ["web","thing"] jpq) (D_cost_in_halves:DefAt K mg "cost_in_halves" (top 24) ["web","halves"] f_cost_in_halves d_cost_in_halves) (G_cost_in_halves:FnOk P w K mg base CX0 1 f_cost_in_halves d_cost_in_halves ["web","halves"] jmc):FnOk P w K mg base CX0 5 f fd ["web","thing"] jh2:=by
 have sc:FnScope ["web","thing"] ["web","thing"] (jac (top 25)):=⟨rfl,rfl,rfl,by decide +kernel,rfl,by decide +kernel,by decide +kernel⟩
 refine D.F.ok sc (fun vs H Q E h=>?_) (fun cdv A outer s H vs Q E hr h=>?_)
 ·obtain ⟨v,ps,ts,y,d,rfl,_⟩:=h
  rfl
 obtain ⟨v,ps,ts,y,d,rfl,hw,wk,hd,hs,h⟩:=h
 have hu:=jbo hr
 have hu0:_ < PySem.cLine:=Nat.lt_of_succ_lt hu
 refine ⟨_,(ja5 (jb5 (PW.pt (jd6 (jbb (jb9 (ja8 G_is_tuple_of (hr.mono (by decide)) rfl D_is_tuple_of.m D_is_tuple_of.F.kp D_is_tuple_of.b .nil jar (ja0 (qv 1) (ja0 ja2 ja3))))) (jd6 (jbb (jb9 (ja8 G_halves_stand (hr.mono (by decide)) rfl D_halves_stand.m D_halves_stand.F.kp D_halves_stand.b .nil jar (ja0 (qv 0) (ja0 (jab q_ix (qv 1) ja2 (fun _ _=>rfl)) ja3))))) (jcu (jbb (jb9 (ja8 G_dues_stand (hr.mono (by decide)) rfl D_dues_stand.m D_dues_stand.F.kp D_dues_stand.b .nil jar (ja0 (qv 0) (ja0 (jab q_ix (qv 1) ja2 (fun _ _=>rfl)) ja3))))))))) (ja6 (jan jc8)) jam) (ja6 (jan (jbx q_eq (ja9 (jqn rfl) rfl B.sum PyProof.Rows.boot_sum (ja0 (jc7 (CpScope.of (N:=["one","other","amount"]) (src:=[none,none,none]) (by rfl)) rfl (jbm (jab q_ix (qv 1) ja2 (fun _ _=>rfl))) (fun _ _ _ _=>(jd8 (n:=3) rfl (jah (jad (i:=0) (jak (l:=["one","other","amount"]) (by rfl)) rfl (Or.inl rfl)) (jah (jad (i:=1) (jak (l:=["one","other","amount"]) (by rfl)) rfl (Or.inl rfl)) (jah (jad (i:=2) (jak (l:=["one","other","amount"]) (by rfl)) rfl (Or.inl rfl)) jbw))))) (fun _ _ _ _=>jco) (fun _ _ _ _=>(qv 2))) ja3)) (ja8 G_cost_in_halves (hr.mono (by decide)) rfl D_cost_in_halves.m D_cost_in_halves.F.kp D_cost_in_halves.b .nil jar (ja0 (qv 0) (ja0 (jab q_ix (qv 1) ja2 (fun _ _=>rfl)) ja3))) (jaj _))))),?_⟩
 walk_at "RD"
 refine ⟨_,d,2,rfl,hd,?_⟩
 cases d with
 | tup ds =>
  by_cases c2:ds.length = 2
  ·rw [show tupB 2 (.tup ds) = true from decide_eq_true (by omega)]
   match ds,c2 with
   | [a,b],_ =>
   have hsb:=hs a b rfl
   rw [Rep] at hd
   obtain ⟨g,vs,rfl,ea,r⟩:=hd
   rw [Reps] at r
   obtain ⟨v1,r1,rfl,e1,r⟩:=r
   rw [Reps] at r
   obtain ⟨v2,r2,rfl,e2,r⟩:=r
   rw [Reps] at r
   subst r
   simp_arith [jag,ea,at0,at1]
   refine ⟨_,ps,ts,_,a,rfl,hw,wk,e1,fun H1 s1=>?_⟩
   cases ch:halB ps ts a with
   | false =>
    walk_at "RD"
    have hb:=h H1 s1
    rw [show jcw ps ts (.tup [a,b]) = pap2 ps ts a b from rfl,jq3 ch] at hb
    exact hb
   | true =>
    simp_arith [jag,s1 _ _ ea,at1]
    refine ⟨_,ps,ts,_,b,rfl,hw.same s1,wk,Rep.same s1 _ e2,hsb,fun H2 s2=>?_⟩
    have s3:=s1.trans s2
    cases cd:jhq ps ts b with
    | false =>
     walk_at "RD"
     have hb:=h H2 s3
     rw [show jcw ps ts (.tup [a,b]) = pap2 ps ts a b from rfl,jq4 cd] at hb
     exact hb
    | true =>
     obtain ⟨hs',rfl,ho,hti⟩:=jix ch
     obtain ⟨qs,rfl,qo,hpa⟩:=jgu cd
     rw [Rep] at e1 e2
     obtain ⟨l1,z1,rfl,el1,r1⟩:=e1
     obtain ⟨l2,z2,rfl,el2,r2⟩:=e2
     have p1:=jh6 r1
     have p2:=jh5 r2
     obtain ⟨_,hk,hrg⟩:=jcy ho
     have hzl:=Paired.length p2
     have hql:qs.length ≤ 200:=by have:=hsb _ rfl; rw [List.length_map] at this; exact this
     simp_arith [jag,s3 _ _ ea,at1,at0]
     refine jaw (Itl K l2) H2 (fun R hR=>?_) (fun z hz0=>jbe qs.length (fun i σ' Hc=>∃ w1 w2 w3,σ' = [w1,w2,w3]∧Same H2 Hc∧Hc z = some (.lst (((qs.take i).map (·.2.2)).map V.int))) ⟨none,none,none,rfl,ja4 hz0 _,ja1⟩ ?_ ?_)
     ·unfold jdc
      simp_arith [jag,s3 _ _ ea,at1]
      exact ⟨l2,rfl,⟨_,SqL.of (s3 _ _ el2)⟩,hR⟩
     ·rintro i σ' Hc hi ⟨w1,w2,w3,rfl,s7,ez⟩
      have x1:z2[i]? = some (z2[i]'(by omega)):=List.getElem?_eq_getElem _
      have s8:=s3.trans s7
      refine ⟨⟨_,_,SqL.of (s8 _ _ el2),x1⟩,?_⟩
      rintro y H' ⟨rfl,hy⟩
      have E1:=Option.some.inj (x1.symm.trans (hy _ (SqL.of (s8 _ _ el2))))
      obtain ⟨pr,hpr,px⟩:=jaf p2 x1
      rw [E1] at px
      obtain ⟨b,rfl,hb⟩:=Tp.tups px s8.tups
      simp_arith [hb]
      refine ⟨_,ez,?_,_,_,_,rfl,jav s7 hz0,?_⟩
      ·rw [List.length_map,List.length_map,List.length_take]
       exact szl' (by omega)
      ·rw [ja1,jau hpr,List.map_append,List.map_append]
       rfl
     ·rintro σ' Hc ⟨w1,w2,w3,rfl,s7,ez⟩
      have s8:=s3.trans s7
      refine ⟨⟨_,SqL.of (s8 _ _ el2),by omega⟩,?_⟩
      rw [List.take_length] at ez
      refine ⟨z,_,rfl,ez,?_⟩
      simp only [s8 _ _ ea,at0]
      have hpl:hs'.length = ps.length:=by
       have:=congrArg List.length hk
       rw [List.length_map,List.length_map] at this
       exact this
      have h40:=wk.pl
      refine ⟨_,ps,ts,l1,z1,hs',rfl,hw.same s8,wk,s8 _ _ el1,Prs.same s8 p1,by omega,fun k hk'=>⟨by rw [← hk]; exact List.mem_map_of_mem hk',hrg k hk'⟩,fun H9 s9=>?_⟩
      have hb:=h H9 (s8.trans s9)
      have e9:jcw ps ts (.tup [.lst (hs'.map jbf),.lst (qs.map jc2)]) = decide ((qs.map (·.2.2)).sum = jlo ps hs'):=by
       rw [jei]
       unfold pap2
       dsimp only
       rw [ho,qo]
       dsimp only
       rw [hti,hpa,Bool.true_and,Bool.true_and]
      rw [e9] at hb
      exact hb
  ·rw [show tupB 2 (.tup ds) = false from decide_eq_false (by omega)]
   walk_at "RD"
   have hb:=h H (Same.refl _)
   rw [jik c2] at hb
   exact hb
 | _=>simp_arith [tupB]; exact h H (Same.refl _)
theorem jg8 {f:Addr} {fd:FuncData} {f_look_at_web:Addr} {d_look_at_web:FuncData} {f_paper_stands:Addr} {d_paper_stands:FuncData} (B:Blt mg) (D:DefAt K mg "lets_halves" (top 26) ["web","thing"] f fd) (D_look_at_web:DefAt K mg "look_at_web" (top 18) ["thing"] f_look_at_web d_look_at_web) (G_look_at_web:FnOk P w K mg base CX0 5 f_look_at_web d_look_at_web ["thing"] jia) (D_paper_stands:DefAt K mg "paper_stands" (top 25) ["web","thing"] f_paper_stands d_paper_stands) (G_paper_stands:FnOk P w K mg base CX0 5 f_paper_stands d_paper_stands ["web","thing"] jh2):FnOk P w K mg base CX0 6 f fd ["web","thing"] jh2:=by
 have sc:FnScope ["web","thing"] ["web","thing"] (jac (top 26)):=⟨rfl,rfl,rfl,by decide +kernel,rfl,by decide +kernel,by decide +kernel⟩
 refine D.F.ok sc (fun vs H Q E h=>?_) (fun cdv A outer s H vs Q E hr h=>?_)
 ·obtain ⟨v,ps,ts,y,d,rfl,_⟩:=h
  rfl
 obtain ⟨v,ps,ts,y,d,rfl,hw,wk,hd,hs,h⟩:=h
 have hu:=jbo hr
 have hu0:_ < PySem.cLine:=Nat.lt_of_succ_lt hu
 refine ⟨_,(ja5 (jcn (ja8 G_look_at_web (hr.mono (by decide)) rfl D_look_at_web.m D_look_at_web.F.kp D_look_at_web.b .nil jar (ja0 (qv 0) ja3))) (ja6 (jan (ja8 G_paper_stands (hr.mono (by decide)) rfl D_paper_stands.m D_paper_stands.F.kp D_paper_stands.b .nil jar (ja0 (qv 0) (ja0 (qv 1) ja3)))))),?_⟩
 walk_at "RD"
 refine ⟨_,ps,ts,rfl,hw,wk,fun H1 s1=>?_⟩
 exact ⟨_,ps,ts,_,d,rfl,hw.same s1,wk,Rep.same s1 _ hd,hs,fun H2 s2=>h H2 (s1.trans s2)⟩
end
end My
namespace My
open PySem L2
section
variable {P:Program} {w:World} {K:PySem.W.Frag} {mg:Str→Option Value} {base:Heap} {c1 c2 c3 c4:Tok} {C_NoWeb f_NoWeb:Addr} {dI:FuncData}
theorem jeb:∀ (ps:List (Int × Int)),jb6 (ps.map jbf) ≤ 1
 | []=>by rw [List.map_nil,jb6]; omega
 | p :: r=>by
  rw [List.map_cons,jb6]
  have:=jeb r
  have e:depP (jbf p) = 1:=rfl
  omega
theorem jll (hs:List (Int × Int)) (h:Int × Int):jbk (hs ++ [h]) = jbk hs ++ [(Sum.inl h.1,V.int h.2)]:=by
 unfold jbk
 rw [List.map_append]
 rfl
theorem jlx {hs:List (Int × Int)} {n:Int} (h:n ∉ hs.map (·.1)):valV (jbk hs) (Sum.inl n:Key) = none:=by
 cases e:valV (jbk hs) (Sum.inl n:Key) with
 | none=>rfl
 | some v=>exact absurd (jcq (by unfold hasK; rw [e]; rfl)) h
theorem jgg {ns:List Int} (nd:ns.Nodup) {i:Nat} {n:Int} (h:ns[i]? = some n):n ∉ ns.take i:=fun hm=>by
 obtain ⟨j,hj,e⟩:=List.mem_iff_getElem.mp hm
 rw [List.getElem_take] at e
 rw [List.length_take] at hj
 obtain ⟨hi,e2⟩:=List.getElem?_eq_some_iff.mp h
 exact List.pairwise_iff_getElem.mp nd j i (by omega) hi (by omega) (e.trans e2.symm)
theorem jm1 (ts hs:List (Int × Int)):eqP (.lst ((ts.filter fun t=>decide (hOf hs t.1 + hOf hs t.2 < 2)).map jbf)) (.lst []) = jfd ts hs:=by
 unfold jfd
 rw [eqP]
 induction ts with
 | nil=>rfl
 | cons t r ih =>
  rw [List.filter_cons,List.all_cons]
  by_cases c:hOf hs t.1 + hOf hs t.2 < 2
  ·rw [if_pos (decide_eq_true c),decide_eq_false (show ¬ hOf hs t.1 + hOf hs t.2 ≥ 2 by omega),List.map_cons,Bool.false_and]
   rfl
  ·rw [if_neg (by simpa using c),decide_eq_true (show hOf hs t.1 + hOf hs t.2 ≥ 2 by omega),Bool.true_and]
   exact ih
theorem jkn {ds:List Dt} (h:ds.length = 2):∃ a b,ds = [a,b]:=by
 match ds,h with
 | [a,b],_=>exact ⟨a,b,rfl⟩
theorem prO_no {d:Dt} (h:∀ p,d ≠ jbf p):prO d = none:=by
 cases e:prO d with
 | none=>rfl
 | some p=>exact absurd (jh9 e) (h p)
theorem jlh {f:Addr} {fd:FuncData}  (B:Blt mg) (D:DefAt K mg "_law_own" (top 28) ["_law_web"] f fd):FnOk P w K mg base CX0 1 f fd ["_law_web"] jpr:=by
 have sc:FnScope ["_law_web"] ["_law_web"] (jac (top 28)):=⟨rfl,rfl,rfl,by decide +kernel,rfl,by decide +kernel,by decide +kernel⟩
 refine D.F.ok sc (fun vs H Q E h=>?_) (fun cdv A outer s H vs Q E hr h=>?_)
 ·obtain ⟨v,ps,ts,rfl,_⟩:=h
  rfl
 obtain ⟨v,ps,ts,rfl,hw,h⟩:=h
 obtain ⟨u,pa,ta,xs,ys,rfl,eu,ep,et,pp,pt⟩:=id hw
 have hu:=jbo hr
 have hu0:_ < PySem.cLine:=Nat.lt_of_succ_lt hu
 refine ⟨_,(ja6 (jan (jb7 (ja0 (jat jbl rfl B.list PyProof.Rows.boot_list (ja0 (jab q_ix (qv 0) ja2 (fun _ _=>rfl)) ja3)) (ja0 (jat jbl rfl B.list PyProof.Rows.boot_list (ja0 (jab q_ix (qv 0) ja2 (fun _ _=>rfl)) ja3)) ja3))))),?_⟩
 simp_arith [jag,eu,ep,at0,at1]
 intro l1 h1
 have s1:Same H (upd H l1 (.lst xs)):=ja4 h1 _
 simp_arith [jag,s1 _ _ eu,s1 _ _ et,at0,at1]
 intro l2 h2
 have s2:Same H (upd (upd H l1 (.lst xs)) l2 (.lst ys)):=s1.trans (ja4 h2 _)
 intro t h3
 have s3:Same (upd (upd H l1 (.lst xs)) l2 (.lst ys)) (upd (upd (upd H l1 (.lst xs)) l2 (.lst ys)) t (.tup [.ref l1,.ref l2])):=ja4 h3 _
 refine h _ _ (s2.trans s3) ⟨l1,l2,xs,ys,h1,s1.free h2,ja7 ja1 h2,ja1,s3 _ _ (ja4 h2 _ _ _ ja1),s3 _ _ ja1,Prs.same (s2.trans s3) pp,Prs.same (s2.trans s3) pt⟩
theorem jim {f:Addr} {fd:FuncData}  (B:Blt mg) (D:DefAt K mg "_law_whole" (top 33) ["_law_thing"] f fd):FnOk P w K mg base CX0 1 f fd ["_law_thing"] jdo:=by
 have sc:FnScope ["_law_thing"] ["_law_thing"] (jac (top 33)):=⟨rfl,rfl,rfl,by decide +kernel,rfl,by decide +kernel,by decide +kernel⟩
 refine D.F.ok sc (fun vs H Q E h=>?_) (fun cdv A outer s H vs Q E hr h=>?_)
 ·obtain ⟨x,k,rfl,_⟩:=h
  rfl
 obtain ⟨x,k,rfl,ek,h⟩:=h
 have hu:=jbo hr
 have hu0:_ < PySem.cLine:=Nat.lt_of_succ_lt hu
 refine ⟨_,(ja6 (jan (jdq (ja9 (jdk .int) rfl B.isinstance PyProof.Rows.boot_isinstance (ja0 (qv 0) (ja0 (jbn (v:=.ty "int") rfl B.int PyProof.Rows.boot_int rfl) ja3))) (jdn (q_not (ja9 (jdk .bl) rfl B.isinstance PyProof.Rows.boot_isinstance (ja0 (qv 0) (ja0 (jbn (v:=.ty "bool") rfl B.bool PyProof.Rows.boot_bool rfl) ja3)))))))),?_⟩
 simp_arith [ek]
 cases k <;> simpa only [isi,jbs,if_true,if_false,Bool.false_eq_true,Bool.not_true,Bool.not_false] using h
theorem jek {f:Addr} {fd:FuncData} {f_law_whole:Addr} {d_law_whole:FuncData} (B:Blt mg) (D:DefAt K mg "_law_are_halves" (top 34) ["_law_web","_law_thing"] f fd) (D_law_whole:DefAt K mg "_law_whole" (top 33) ["_law_thing"] f_law_whole d_law_whole) (G_law_whole:FnOk P w K mg base CX0 1 f_law_whole d_law_whole ["_law_thing"] jdo):FnOk P w K mg base CX0 2 f fd ["_law_web","_law_thing"] jf3:=by
 have sc:FnScope ["_law_web","_law_thing","_law_hs","_law_k","_law_one"] ["_law_web","_law_thing"] (jac (top 34)):=⟨rfl,rfl,rfl,by decide +kernel,rfl,by decide +kernel,by decide +kernel⟩
 refine D.F.ok sc (fun vs H Q E h=>?_) (fun cdv A outer s H vs Q E hr h=>?_)
 ·obtain ⟨v,ps,ts,y,d,rfl,_⟩:=h
  rfl
 obtain ⟨v,ps,ts,y,d,rfl,hw,wk,hd,h⟩:=h
 obtain ⟨u,pa,ta,xs,ys,rfl,hu1,hpa,hta,hxs,hys⟩:=hw
 have hxl:=Paired.length hxs
 have hu:=jbo hr
 have hu0:_ < PySem.cLine:=Nat.lt_of_succ_lt hu
 refine ⟨_,(ja5 (jb5 (PW.pt (jd6 (jbb (jb9 (ja9 (jdk .lst) rfl B.isinstance PyProof.Rows.boot_isinstance (ja0 (qv 1) (ja0 (jbn (v:=.ty "list") rfl B.list PyProof.Rows.boot_list rfl) ja3))))) (jcu (jaq q_ne (ja9 jci rfl B.len PySem.boot_len (ja0 (qv 1) ja3)) (ja9 jci rfl B.len PySem.boot_len (ja0 (jab q_ix (qv 0) ja2 (fun _ _=>rfl)) ja3)) (jaj _))))) (ja6 (jan jc8)) jam) (ja5 (jae (i:=2) sc.nd rfl (Or.inr rfl) jhb) (ja5 (jce PassesOwn.never rfl (jc6 rfl B.range (ja0 (ja9 jci rfl B.len PySem.boot_len (ja0 (qv 1) ja3)) ja3)) (jad (i:=3) sc.nd rfl (Or.inl rfl)) (ja5 (jae (i:=4) sc.nd rfl (Or.inl rfl) (jab q_ix (qv 1) (qv 3) (fun _ _=>rfl))) (ja5 (jb5 (PW.pt (jd6 (jbb (jb9 (ja9 (jdk .tup) rfl B.isinstance PyProof.Rows.boot_isinstance (ja0 (qv 4) (ja0 (jbn (v:=.ty "tuple") rfl B.tuple PyProof.Rows.boot_tuple rfl) ja3))))) (jcu (jaq q_ne (ja9 jci rfl B.len PySem.boot_len (ja0 (qv 4) ja3)) ja2 (jaj _))))) (ja6 (jan jc8)) jam) (ja5 (jb5 (PW.pt (jd6 (jbb (jb9 (ja8 G_law_whole (hr.mono (by decide)) rfl D_law_whole.m D_law_whole.F.kp D_law_whole.b .nil jar (ja0 (jab q_ix (qv 4) ja2 (fun _ _=>rfl)) ja3)))) (jcu (jbb (jb9 (ja8 G_law_whole (hr.mono (by decide)) rfl D_law_whole.m D_law_whole.F.kp D_law_whole.b .nil jar (ja0 (jab q_ix (qv 4) ja2 (fun _ _=>rfl)) ja3))))))) (ja6 (jan jc8)) jam) (ja5 (jb5 (PW.pt (jd6 (jaq q_ne (jab q_ix (qv 4) ja2 (fun _ _=>rfl)) (jab q_ix (jab q_ix (jab q_ix (qv 0) ja2 (fun _ _=>rfl)) (qv 3) (fun _ _=>rfl)) ja2 (fun _ _=>rfl)) (jaj _)) (jd6 (jaq q_lt (jab q_ix (qv 4) ja2 (fun _ _=>rfl)) ja2 (jaj _)) (jcu (jaq q_gt (jab q_ix (qv 4) ja2 (fun _ _=>rfl)) ja2 (jaj _)))))) (ja6 (jan jc8)) jam) (ja6 (jgl hu (qv 2) (jab q_ix (qv 4) ja2 (fun _ _=>rfl)) (jab q_ix (qv 4) ja2 (fun _ _=>rfl))))))))) (ja6 (jan (jbx (jq5 hr.units) (jc7 (CpScope.of (N:=["_law_tie","_law_hs"]) (src:=[none,some 2]) (by rfl)) rfl (jbm (jab q_ix (qv 0) ja2 (fun _ _=>rfl))) (fun _ _ _ _=>(jad (i:=0) (jak (l:=["_law_tie","_law_hs"]) (by rfl)) rfl (Or.inl rfl))) (fun _ _ _ _=>(jfl (jaq q_lt (jap jbr (jfj hu (qv 1) (jab q_ix (qv 0) ja2 (fun _ _=>rfl)) (fun _ _=>rfl)) (jfj hu (qv 1) (jab q_ix (qv 0) ja2 (fun _ _=>rfl)) (fun _ _=>rfl))) ja2 (jaj _)))) (fun _ _ _ _=>(qv 0))) (jc1 ja3) (jaj _))))))),?_⟩
 have hkd:=jck hd
 simp_arith [hkd]
 cases d with
 | lst ds =>
  rw [Rep] at hd
  obtain ⟨l,zs,rfl,el,r⟩:=hd
  have hlv:=r.len
  simp_arith [kdD,isi,jag,hu1,at0,el,hpa]
  by_cases cl:zs.length = xs.length
  ·rw [decide_eq_true (show (zs.length:Int) = (xs.length:Int) by omega),if_neg (by decide)]
   intro d hd0
   have s1:=ja4 hd0 (.dK [])
   have ed:upd H d (.dK []) d = some (.dK []):=ja1
   generalize upd H d (.dK []) = H1 at s1 ed
   have hpl:=wk.pl
   have nd:(ps.map (·.1)).Nodup:=wk.p.nodup
   refine jb8 (Itr 0 zs.length) H1 (fun R' hR'=>?_) (jcg (n:=zs.length) (fun i σ Hc=>∃ w1 w2 hs,σ = [some (.ref u),some (.ref l),some (.ref d),w1,w2]∧Same H Hc∧Hc d = some (.dK (jbk hs))∧halO ps ds = (halO (ps.drop i) (ds.drop i)).map (hs ++ ·)∧hs.map (·.1) = (ps.take i).map (·.1)) ⟨none,none,[],rfl,s1,ed,by simp,rfl⟩ ?_ ?_)
   ·unfold jhm
    simp_arith [jag,s1 _ _ el]
    exact ⟨_,rfl,by omega,by omega,by simpa using hR'⟩
   ·rintro i σ Hc hi ⟨w1,w2,hs,rfl,s2,ed2,hho,hk⟩
    have hx:zs[i]? = some (zs[i]'(by omega)):=List.getElem?_eq_getElem _
    have hy:xs[i]? = some (xs[i]'(by omega)):=List.getElem?_eq_getElem _
    obtain ⟨dt,hdt,rdt⟩:=r.at hx
    obtain ⟨p,hp,pq⟩:=jaf hxs hy
    rw [jcm hdt,jcm hp,halO] at hho
    rw [Int.zero_add]
    have ax:atI zs (i:Int) = some _:=jcr hx
    have ay:atI xs (i:Int) = some _:=jcr hy
    generalize zs[i] = x at hx rdt ax
    generalize xs[i] = y at hy pq ay
    obtain ⟨b2,rfl,eb2⟩:=pq.same s2
    have hb:=h Hc s2
    have hkx:=jck (Rep.same s2 _ rdt)
    cases dt with
    | tup es =>
     rw [Rep] at rdt
     obtain ⟨b1,vs,rfl,eb1,rr⟩:=rdt
     have hvl:=rr.len
     have eb:=s2 _ _ eb1
     by_cases c2:es.length = 2
     ·obtain ⟨a1,a2,rfl⟩:=jkn c2
      rw [Reps] at rr
      obtain ⟨v1,r1,rfl,e1,rr⟩:=rr
      rw [Reps] at rr
      obtain ⟨v2,r2,rfl,e2,rr⟩:=rr
      rw [Reps] at rr
      subst rr
      simp_arith [jag,s2 _ _ el,ax,hkx,kdD,isi,eb,at0,List.length_cons,List.length_nil]
      have k1:=jck (Rep.same s2 _ e1)
      have k2:=jck (Rep.same s2 _ e2)
      rw [if_neg (by simp)]
      refine ⟨_,kdD a1,rfl,k1,?_⟩
      cases a1 with
      | int n1 =>
       simp_arith [kdD,jbs,eb,at1]
       refine ⟨_,kdD a2,rfl,k2,?_⟩
       cases a2 with
       | int n2 =>
        rw [Rep] at e1 e2
        subst e1 e2
        have ep:=s2 _ _ hpa
        have eu:=s2 _ _ hu1
        simp_arith [kdD,jbs,eb,at0,at1,eu,ep,ay,eb2,ed2]
        have hho:=hho
        rw [show prO (.tup [.int n1,.int n2]) = some (n1,n2) from rfl] at hho
        dsimp only at hho
        by_cases c1:n1 = p.1
        ·by_cases c2:0 ≤ n2
         ·by_cases c3:n2 ≤ 2
          ·rw [if_pos ⟨c1,c2,c3⟩] at hho
           rw [decide_eq_true c1,if_neg (by decide),decide_eq_false (show ¬ n2 < 0 by omega),if_neg (by decide),decide_eq_false (show ¬ n2 > 2 by omega),if_neg (by decide)]
           have hn:n1 ∉ hs.map (·.1):=by
            rw [hk,List.map_take]
            exact jgg nd (by rw [List.getElem?_map,hp,c1]; rfl)
           have hhl:hs.length ≤ i:=by
            have:=congrArg List.length hk
            rw [List.length_map,List.length_map,List.length_take] at this
            omega
           refine ⟨?_,_,_,hs ++ [(n1,n2)],rfl,jav s2 hd0,?_,?_,?_⟩
           ·have:(jbk hs).length = hs.length:=by unfold jbk; rw [List.length_map]
            rw [this]
            exact szl' (by omega)
           ·rw [ja1,jkk _ (jlx hn),jll]
           ·rw [hho,Option.map_map]
            congr 1
            funext w
            show hs ++ (n1,n2) :: w = (hs ++ [(n1,n2)]) ++ w
            rw [List.append_assoc]
            rfl
           ·rw [jau hp,List.map_append,List.map_append,hk,List.map_singleton,List.map_singleton,c1]
          ·rw [decide_eq_true c1,if_neg (by decide),decide_eq_false (show ¬ n2 < 0 by omega),if_neg (by decide),decide_eq_true (show n2 > 2 by omega),if_pos rfl]
           rw [jb3 (by rw [hho,if_neg (fun z=>c3 z.2.2)]; rfl)] at hb
           exact hb
         ·rw [decide_eq_true c1,if_neg (by decide),decide_eq_true (show n2 < 0 by omega),if_pos rfl]
          rw [jb3 (by rw [hho,if_neg (fun z=>c2 z.2.1)]; rfl)] at hb
          exact hb
        ·rw [decide_eq_false c1,if_pos (by decide)]
         rw [jb3 (by rw [hho,if_neg (fun z=>c1 z.1)]; rfl)] at hb
         exact hb
       | _ =>
        simp_arith [kdD,jbs]
        rw [jb3 (by rw [hho]; rfl)] at hb
        exact hb
      | _ =>
       simp_arith [kdD,jbs]
       rw [jb3 (by rw [hho]; rfl)] at hb
       exact hb
     ·have c3:¬ (vs.length:Int) = 2:=by omega
      simp_arith [jag,s2 _ _ el,ax,hkx,kdD,isi,eb,decide_eq_false c3]
      rw [jb3 (by rw [hho,prO_no (fun p z=>by unfold jbf at z; cases z; exact c2 rfl)]; rfl)] at hb
      exact hb
    | _ =>
     simp_arith [jag,s2 _ _ el,ax,hkx,kdD,isi]
     rw [jb3 (by rw [hho]; rfl)] at hb
     exact hb
   ·rintro σ Hc ⟨w1,w2,hs,rfl,s2,ed2,hho,hk⟩
    rw [List.drop_eq_nil_of_le (show ps.length ≤ zs.length by omega),List.drop_eq_nil_of_le (show ds.length ≤ zs.length by omega),halO,Option.map_some,List.append_nil] at hho
    rw [List.take_of_length_le (by omega)] at hk
    have ndh:(hs.map (·.1)).Nodup:=by rw [hk]; exact nd
    walk_at "RD"
    refine jaw (Itl K ta) Hc (fun R hR=>?_) (fun z hz0=>jbe ts.length (fun i σ' Hd=>∃ w1 ws,σ' = [w1,some (.ref d)]∧Same Hc Hd∧Hd z = some (.lst ws)∧Prs Hd ws ((ts.take i).filter fun t=>decide (hOf hs t.1 + hOf hs t.2 < 2))∧ws.length ≤ i) ⟨none,[],rfl,ja4 hz0 _,ja1,.nil,Nat.zero_le _⟩ ?_ ?_)
    ·unfold jdc
     simp_arith [jag,s2 _ _ hu1,at1]
     exact ⟨ta,rfl,⟨_,SqL.of (s2 _ _ hta)⟩,hR⟩
    ·rintro i σ' Hd hi ⟨w1,ws,rfl,s7,ez,pw,hwl⟩
     have hyl:=Paired.length hys
     have htl:=wk.tl
     have x1:ys[i]? = some (ys[i]'(by omega)):=List.getElem?_eq_getElem _
     have s8:=s2.trans s7
     refine ⟨⟨_,_,SqL.of (s8 _ _ hta),x1⟩,?_⟩
     rintro y H' ⟨rfl,hy⟩
     have E1:=Option.some.inj (x1.symm.trans (hy _ (SqL.of (s8 _ _ hta))))
     obtain ⟨pr,hpr,px⟩:=jaf hys x1
     rw [E1] at px
     obtain ⟨b,rfl,hb⟩:=px.same s8
     obtain ⟨_,k1,k2⟩:=wk.t.in pr (List.mem_of_getElem? hpr)
     have v1:=jg3 ndh (by rw [hk]; exact jcq k1)
     have v2:=jg3 ndh (by rw [hk]; exact jcq k2)
     simp_arith [jag,hb,s7 _ _ ed2,at0,at1,v1,v2]
     rw [jau hpr,List.filter_append]
     by_cases c:hOf hs pr.1 + hOf hs pr.2 < 2
     ·rw [if_pos (decide_eq_true c),List.filter_cons,if_pos (decide_eq_true c)]
      have t6:=jaz (ys:=ws ++ [.ref b]) ez
      exact ⟨ws,ez,szl' (by omega),_,ws ++ [.ref b],rfl,jav s7 hz0,ja1,jbc (Prs.tups t6 pw) ⟨b,rfl,t6 _ _ rfl hb⟩,by rw [List.length_append,List.length_singleton]; omega⟩
     ·rw [if_neg (by simpa using c),List.filter_cons,if_neg (by simpa using c),List.filter_nil,List.append_nil]
      exact ⟨_,ws,rfl,s7,ez,pw,by omega⟩
    ·rintro σ' Hd ⟨w1,ws,rfl,s7,ez,pw,hwl⟩
     have s8:=s2.trans s7
     refine ⟨⟨_,SqL.of (s8 _ _ hta),by have:=Paired.length hys; omega⟩,?_⟩
     rw [List.take_length] at pw
     walk_at "RD"
     intro e he
     have s9:=ja4 he (.lst [])
     refine ⟨.lst ((ts.filter fun t=>decide (hOf hs t.1 + hOf hs t.2 < 2)).map jbf),.lst [],?_,?_,?_,.inl ⟨_,_,rfl,rfl⟩,?_⟩
     ·rw [Rep]; exact ⟨z,ws,rfl,s9 _ _ ez,(Prs.same s9 pw).reps⟩
     ·rw [Rep]; exact ⟨e,[],rfl,ja1,by rw [Reps]⟩
     ·have:=jeb (ts.filter fun t=>decide (hOf hs t.1 + hOf hs t.2 < 2))
      rw [depP]; omega
     ·rw [if_neg (by decide),jm1]
      have hb:=h _ (s8.trans s9)
      rw [je9 hho] at hb
      exact hb
  ·have hb:=h H (Same.refl _)
   rw [jb3 (jhn (by omega))] at hb
   rw [decide_eq_false (show ¬ (zs.length:Int) = (xs.length:Int) by omega),if_pos (by decide)]
   exact hb
 | _=>simp_arith [kdD,isi]; exact h H (Same.refl _)
end
end My
namespace L2
open PySem PySem.Spec PyProof.Rows
def tVals (td:TE):TE:=fun σ H Q=>td σ H fun x H1=>∃ a kvs,x = .ref a∧H1 a = some (.dK kvs)∧∀ l,H1 l = none→Q (.ref l) (upd H1 l (.lst (kvs.map (·.2))))
theorem jnc {κ:Type}:∀ {kvs:List (κ × V)} {vs:List (κ × Value)},KV kvs vs→Vals (kvs.map (·.2)) (vs.map (·.2))
 | _,_,.nil=>.nil
 | _,_,.cons r t=>.cons r.2 (jnc t)
theorem jjk {X:Cx} {x:Str} {o:Expr} {td:TE} {p apos vpos cpos:Pos} (hc:X.calm = true) (hg:Gl X x) (hm:X.mg x = none) (hv:bootBuiltins x = some (.type "list")) (ho:PE X o td)
  (hn:x ≠ "__name__":=by decide) (hdb:(x == ("__debug__":Str)) = false:=by decide)
  (hbase:attributeBase o "values" X.env (eval o X.env) = eval o X.env:=by rfl) (hline:(apos.endLine == vpos.line) = true:=by rfl)
  (he:starEach [.Call (.Attribute o "values" apos) [] [] vpos] X.env = (false,eval (.Call (.Attribute o "values" apos) [] [] vpos) X.env) :: starEach [] X.env:=by rfl) :
  PE X (.Call (.Name x p) [.Call (.Attribute o "values" apos) [] [] vpos] [] cpos) (tVals td):=by
 intro pins s σ H Q I h
 refine wpAny_Call_Name_kw (je5 I hg hm hv ?_ hn hdb)
 refine PyProof.Rows.callWith_type1 ?_ he rfl
 rw [he]
 show wpAny _ _ (spliced ((false,eval (.Call (.Attribute o "values" apos) [] [] vpos) X.env) :: backTo cpos (starEach [] X.env))) _ _ s
 refine Calls.spliced_cons ?_
 refine wpAny_Call_method0_late hbase hline (thn (ho pins s σ H _ I h) fun v s1 ⟨x,H1,I1,r1,a,kvs,ex,ea,q1⟩=>?_)
 subst ex
 cases r1
 obtain ⟨z,hd,vs,rel,dd⟩:=dk_of I1.hok ea
 refine ⟨"dict","dict.values",PySem.F.plainAttrs_dict,PySem.F.slot_dict_values,PySem.F.type_dict_values,dd.typeIs,?_,Calls.callWith_builtin rfl (PySem.evalArgs_none ?_)⟩
 ·exact (jqa I1 (.inl ⟨kvs,.inl ea⟩)).2.1
 refine call_meetsIn PySem.F.slot_dict_values dd.typeIs PySem.F.entry_dict_values (PySem.F.args_dict_values_1 _) (meets_dict_values (jba X.prog X.w) a hd) ⟨⟨vs,dd⟩,?_⟩
 show wpAny _ _ (spliced []) _ _ _
 refine wpAny_pure ?_
 obtain ⟨ep,dat⟩:=dd.dictAt
 have hlv:kvs.length = vs.length:=Paired.length rel
 refine PySem.W.kdl_call (PySem.W.kdl_values (prog:=X.prog) (w:=X.w) (knd:=jba X.prog X.w) (r:=s1.heap.objs.size) (d:=a) (kvs:=vs) (ep:=ep)) (I.ok.hd hc) ⟨⟨_,Heap.get?_push_size _ rfl,rfl,rfl⟩,dat.push _⟩ (by omega) fun h' tk acc' c' hk hD hacc=>?_
 have hav:acc'.toList = vs.map (·.2):=by
  refine List.ext_getElem? fun j=>?_
  rw [List.getElem?_map,Array.getElem?_toList]
  cases e:acc'[j]? with
  | some v =>
   obtain ⟨k,hk⟩:=hacc.2 j v e
   rw [hk]; rfl
  | none =>
   have:acc'.size ≤ j:=by simpa using e
   rw [List.getElem?_eq_none (by rw [← hacc.1]; exact this)]
   rfl
 refine ⟨.ref _,_,I1.laid (fun b o' qq=>hk b o' (Heap.get?_push_of_some _ qq)) ?_ (show jbp X.prog X.w _ h' _ (.lst (kvs.map (·.2))) from ⟨by rw [List.length_map]; exact z,vs.map (·.2),c',jnc rel,?_⟩),rfl,q1 _ ?_⟩
 ·show _ ≤ (s1.heap.push _).objs.size
  rw [size_push']
  exact Nat.le_succ _
 ·rw [← hav,Array.toArray_toList]
  exact hD
 ·refine I1.hok.fresh ?_
  show _ ≤ (s1.heap.push _).objs.size
  rw [size_push']
  exact Nat.le_succ _
end L2
namespace L2
open PySem PySem.Spec PyProof.Rows
section
variable {prog:Program} {w:World} {A:Around} {R:Result→Shared→Prop} {I:Addr} {fp wr:List Addr} {n:Nat} {P:Nat→Value→Prop} {St:Nat→Heap→Prop}
def jja (val:Nat→Int) (n:Nat) (m:Int):Prop:=(∃ i,i < n∧m = val i)∧∀ i,i < n→m ≤ val i
theorem jja.up {val:Nat→Int} {j:Nat} {m:Int} (h:jja val j m) (hb:val j < m):jja val (j + 1) (val j) :=
 ⟨⟨j,Nat.lt_succ_self _,rfl⟩,fun i hi=>by
  rcases Nat.lt_succ_iff_lt_or_eq.mp hi with z | z
  ·have:=h.2 i z; omega
  ·rw [z]; exact Int.le_refl _⟩
theorem jja.keep {val:Nat→Int} {j:Nat} {m:Int} (h:jja val j m) (hb:¬ val j < m):jja val (j + 1) m :=
 ⟨let ⟨i,hi,e⟩:=h.1; ⟨i,Nat.lt_succ_of_lt hi,e⟩,fun i hi=>by
  rcases Nat.lt_succ_iff_lt_or_eq.mp hi with z | z
  ·exact h.2 i z
  ·rw [z]; omega⟩
theorem jf6:(toString "min" ++ toString ".loop":String) = "min.loop":=by decide
theorem jju (W:Walks prog w A.in1 I fp wr n P St) (val:Nat→Int) (hval:∀ i v,P i v→∃ t:Tok,v = Value.int (val i) t) (kw:List (Str × Value)) (S:Addr) (hSf:S ∉ fp) :
  ∀ (k j:Nat) (s:Shared) (m:Int) (t:Tok) (c:Nat),n - j = k→j ≤ n→St j s.heap→jja val j m →
  s.heap.get? S = some { cls:=.type "list",dict:=none,data:=.seq #[.int m t,.int m t] c,slots:=#[] } →
  (∀ m' t' h' tk,jja val n m'→(∀ b o,b ∉ wr→b ≠ S→s.heap.get? b = some o→h'.get? b = some o)→R (.ok (.ret (.int m' t'))) { s with heap:=h',toks:=tk }) →
  codeAny (model prog w) A (.builtin "min.loop" ⟨[.ref I,.none,.ref S],kw⟩) R s:=by
 have hSw:S ∉ wr:=fun z=>hSf (W.sub _ z)
 intro k
 induction k with
 | zero =>
  intro j s m t c hk hj hst hb hS hR
  have hin:j = n:=by omega
  subst hin
  refine codeAny_builtin PySem.F.entry_min_loop ?_
  rw [Around.under_plainId PySem.F.plain_min_loop _]
  show wpAny _ A.in1 (seqItems? (.ref S) >>= _) _ _ s
  refine wpAny_bind (wpAny_seqItems hS rfl ?_)
  show wpAny _ A.in1 (tryCatch (pyNext (.ref I)) _ >>= _) _ _ s
  refine wpAny_bind (wpAny_tryCatch (W.done s _ _ hst fun h' tk kp=>?_))
  have hS':=kp S _ hSw hS
  show wpAny _ A.in1 (updateSeq S (fun _=>#[]) >>= _) _ _ _
  refine wpAny_bind ?_
  refine wpAny_updateSeq hS' rfl (wpAny_bind (wpAny_letGo (wpAny_pure ?_)))
  exact hR m t _ tk hb fun b o hbw hbS e=>(Heap.get?_update_other _ _ (Ne.symm hbS)).trans (kp b o hbw e)
 | succ k ih =>
  intro j s m t c hk hj hst hb hS hR
  have hlt:j < n:=by omega
  refine codeAny_builtin PySem.F.entry_min_loop ?_
  rw [Around.under_plainId PySem.F.plain_min_loop _]
  show wpAny _ A.in1 (seqItems? (.ref S) >>= _) _ _ s
  refine wpAny_bind (wpAny_seqItems hS rfl ?_)
  show wpAny _ A.in1 (tryCatch (pyNext (.ref I)) _ >>= _) _ _ s
  refine wpAny_bind (wpAny_tryCatch (W.item j s _ _ hlt hst fun v h' tk hP hst' kp=>?_))
  obtain ⟨t',rfl⟩:=hval j v hP
  have hS':=kp S _ hSw hS
  show wpAny _ A.in1 (tryCatch (holding [.int (val j) t',.int (val j) t'] (richCompare .Lt (.int (val j) t') (.int m t) >>= _)) _ >>= _) _ _ _
  refine wpAny_bind (wpAny_tryCatch (wpAny_holding (wpAny_bind (lt_int ?_))))
  refine wpAny_bind (wpAny_holding (wpAny_truthy_bool ?_))
  refine wpAny_bind (wpAny_letGo (wpAny_pure ?_))
  by_cases hc:val j < m
  ·rw [decide_eq_true (show val j < m from hc)]
   simp only [if_true]
   refine wpAny_bind ?_
   refine wpAny_updateSeq hS' rfl (wpAny_bind (wpAny_letGo ?_))
   rw [jf6]
   refine wpAny_pure ⟨plainId_quiet PySem.F.plain_min_loop _,ih (j + 1) _ (val j) t' _ (by omega) hlt (W.frame _ _ _ hst' fun b hbf o e=>?_) (hb.up hc) (Heap.get?_update_self _ hS' rfl) fun m' u h'' tk'' hB k''=>?_⟩
   ·exact (Heap.get?_update_other _ _ (fun z:S = b=>hSf (by rw [z]; exact hbf))).trans e
   ·exact hR m' u h'' tk'' hB fun b o hbw hbS e=>k'' b o hbw hbS ((Heap.get?_update_other _ _ (Ne.symm hbS)).trans (kp b o hbw e))
  ·rw [decide_eq_false (show ¬ val j < m from hc)]
   simp only [Bool.false_eq_true,if_false]
   refine wpAny_bind (wpAny_letGo ?_)
   rw [jf6]
   refine wpAny_pure ⟨plainId_quiet PySem.F.plain_min_loop _,ih (j + 1) _ m t c (by omega) hlt hst' (hb.keep hc) hS' fun m' u h'' tk'' hB k''=>?_⟩
   exact hR m' u h'' tk'' hB fun b o hbw hbS e=>k'' b o hbw hbS (kp b o hbw e)
end
section
variable {X:Cx}
theorem jey (a d:Value):argsOk "min" ⟨[a],[(Str.ofString "default",d)]⟩:=by unfold argsOk; kernel_rfl
def rMinD:List V→List V→Hp→VK→Prop:=fun vs zs H Q=>∃ (p:Addr) (ns:List Int) (d:Int),vs = [.ref p]∧zs = [.int d]∧H p = some (.lst (ns.map V.int)) ∧
 ∀ m,(ns = []→m = d)→(ns ≠ []→m ∈ ns)→(∀ x ∈ ns,m ≤ x)→Q (.int m) H
theorem jo4 (hc:X.calm = true):∀ (pins:List (Addr × Obj)) (s:Shared) (σ:St) (H:Hp) (xs zs:List V) (us ws:List Value) (Q:VK),Inv X pins σ H s→Vals xs us→Vals zs ws→rMinD xs zs H Q →
  wpAny (model X.prog X.w) X.A (call (.builtin "min") us ([Str.ofString "default"].zip ws)) (EP X pins σ Q) X.xe s:=by
 intro pins s σ H xs zs us ws Q I r rz h
 obtain ⟨p,ns,d,rfl,rfl,e,q⟩:=h
 obtain ⟨u,rfl,rx⟩:=jgw r
 cases rx
 obtain ⟨dv,rfl,td,rfl⟩:=jgw rz
 obtain ⟨z,its,c,r',hlen,e'⟩:=I.lstM e
 have hI:=jc3 r'
 have plt:p < s.heap.objs.size:=Heap.lt_size e'
 have hL:s.heap.IsList p its.toArray:=⟨_,e',rfl,_,rfl⟩
 refine kmk_tree PySem.F.kind_min PySem.F.plain_min PySem.F.entry_min (jey _ _) ?_
 show wpAny _ X.A.in1 (Builtin.Builtins.bindParams "min" ["key","default"] 0 ⟨[],[(Str.ofString "default",.int d td)]⟩ >>= _) _ _ s
 refine wpAny_bind (wpAny_of_eq (show Builtin.Builtins.bindParams "min" ["key","default"] 0 ⟨[],[(Str.ofString "default",.int d td)]⟩ = pure [none,some (.int d td)] from rfl) ?_)
 refine wpAny_bind (wpAny_pure ?_)
 refine wpAny_bind (wpAny_pyIter_list hL ?_)
 refine wpAny_bind (wpAny_newList ?_ (Nat.zero_le _))
 rw [jf6]
 have hS:(s.heap.push { cls:=.type "list_iterator",data:=.fields #[.ref p,.int 0 0] }).objs.size = s.heap.objs.size + 1:=size_push' ..
 have W:=Walks.list (prog:=X.prog) (w:=X.w) (A:=X.A.in1) (show X.A.in1.handled = none from I.ok.hd hc) s.heap.objs.size p (Nat.ne_of_lt plt) its.toArray
 have hsz:its.toArray.size = ns.length:=by rw [List.size_toArray,← hlen,List.length_map]
 have hval:∀ (i:Nat) (v:Value),its.toArray[i]? = some v→∃ t:Tok,v = Value.int (ns[i]?.getD 0) t:=fun i v hv=>by
  have hv':its[i]? = some v:=by simpa using hv
  have hi:i < ns.length:=by
   have:=(List.getElem?_eq_some_iff.mp hv').1
   rw [List.length_map] at hlen
   omega
  obtain ⟨u,e1,t,e2⟩:=r'.get (i:=i) (x:=.int ns[i]) (by rw [List.getElem?_map,List.getElem?_eq_getElem hi]; rfl)
  rw [hv'] at e1
  cases e1
  exact ⟨t,by rw [e2,List.getElem?_eq_getElem hi]; rfl⟩
 have kp0:∀ (h':Heap) (tk:Nat),(∀ b o,b ∉ [s.heap.objs.size]→b ≠ (s.heap.push { cls:=.type "list_iterator",data:=.fields #[.ref p,.int 0 0] }).objs.size→((s.heap.push { cls:=.type "list_iterator",data:=.fields #[.ref p,.int 0 0] }).push { cls:=.type "list",data:=.seq #[] }).get? b = some o→h'.get? b = some o) →
   Inv X pins σ H { s with heap:=h',toks:=tk }:=fun h' tk k=>I.kept fun b o qq=>k b o (by
    intro z
    have:b = s.heap.objs.size:=by simpa using z
    exact absurd (Heap.lt_size qq) (by rw [this]; exact Nat.lt_irrefl _)) (by rw [hS]; exact Nat.ne_of_lt (Nat.lt_succ_of_lt (Heap.lt_size qq))) (Heap.get?_push_of_some _ (Heap.get?_push_of_some _ qq))
 have hst0:(fun i (h:Heap)=>h.IsListIter s.heap.objs.size p i∧h.IsList p its.toArray) 0 ((s.heap.push { cls:=.type "list_iterator",data:=.fields #[.ref p,.int 0 0] }).push { cls:=.type "list",data:=.seq #[] }) :=
  ⟨⟨_,Heap.get?_push_of_some _ (Heap.get?_push_size _ rfl),rfl,rfl⟩,(hL.push _).push _⟩
 have hSg:((s.heap.push { cls:=.type "list_iterator",data:=.fields #[.ref p,.int 0 0] }).push { cls:=.type "list",data:=.seq #[] }).get? (s.heap.push { cls:=.type "list_iterator",data:=.fields #[.ref p,.int 0 0] }).objs.size = some { cls:=.type "list",dict:=none,data:=.seq #[] 0,slots:=#[] }:=Heap.get?_push_size _ rfl
 have hSf:(s.heap.push { cls:=.type "list_iterator",data:=.fields #[.ref p,.int 0 0] }).objs.size ∉ [s.heap.objs.size,p]:=by
  rw [hS]
  intro z
  rcases List.mem_cons.mp z with z | z
  ·exact absurd z (Nat.succ_ne_self _)
  ·have z:=List.mem_singleton.mp z
   rw [← z] at plt
   exact Nat.lt_irrefl _ (Nat.lt_of_succ_lt plt)
 refine wpAny_pure ⟨plainId_quiet PySem.F.plain_min_loop _,?_⟩
 refine codeAny_builtin PySem.F.entry_min_loop ?_
 rw [Around.under_plainId PySem.F.plain_min_loop _]
 show wpAny _ X.A.in1 (seqItems? (.ref _) >>= _) _ _ _
 refine wpAny_bind (wpAny_seqItems hSg rfl ?_)
 show wpAny _ X.A.in1 (tryCatch (pyNext (.ref s.heap.objs.size)) _ >>= _) _ _ _
 cases hn:ns with
 | nil =>
  have h0:its.toArray.size = 0:=by rw [hsz,hn]; rfl
  refine wpAny_bind (wpAny_tryCatch (W.done _ _ _ (by rw [h0]; exact hst0) fun h' tk kp=>?_))
  refine wpAny_bind (wpAny_rule (wpAny_pure ?_))
  exact ⟨.int d,H,kp0 h' tk fun b o h1 _ h3=>kp b o h1 h3,⟨td,rfl⟩,q d (fun _=>rfl) (fun z=>absurd hn z) (by rw [hn]; intro x hx; cases hx)⟩
 | cons n0 rest =>
  have hpos:0 < its.toArray.size:=by rw [hsz,hn]; simp
  refine wpAny_bind (wpAny_tryCatch (W.item 0 _ _ _ hpos hst0 fun v h' tk hP hst' kp=>?_))
  obtain ⟨t',rfl⟩:=hval 0 v hP
  have hS':=kp _ _ (fun z=>hSf (List.mem_cons.mpr (.inl (List.mem_singleton.mp z)))) hSg
  show wpAny _ X.A.in1 (updateSeq _ (fun _=>#[_,_]) >>= _) _ _ _
  refine wpAny_bind ?_
  refine wpAny_updateSeq hS' rfl ?_
  rw [jf6]
  refine wpAny_pure ⟨plainId_quiet PySem.F.plain_min_loop _,jju W (fun i=>ns[i]?.getD 0) hval _ _ hSf _ 1 _ _ t' _ rfl hpos (W.frame _ _ _ hst' fun b hbf o e=>?_) ⟨⟨0,Nat.one_pos,rfl⟩,fun i hi=>by
   have:i = 0:=by omega
   subst this; exact Int.le_refl _⟩ (Heap.get?_update_self _ hS' rfl) fun m u h'' tk'' hB k''=>?_⟩
  ·exact (Heap.get?_update_other _ _ (fun z=>hSf (by rw [z]; exact hbf))).trans e
  ·refine ⟨.int m,H,kp0 h'' tk'' fun b o h1 h2 h3=>k'' b o h1 h2 ((Heap.get?_update_other _ _ (Ne.symm h2)).trans (kp b o h1 h3)),⟨u,rfl⟩,q m (fun z=>by rw [hn] at z; cases z) (fun _=>?_) fun x hx=>?_⟩
   ·obtain ⟨i,hi,e1⟩:=hB.1
    rw [hsz] at hi
    rw [e1]
    show ns[i]?.getD 0 ∈ ns
    rw [List.getElem?_eq_getElem hi]
    exact List.getElem_mem hi
   ·obtain ⟨i,hi,e1⟩:=List.mem_iff_getElem.mp hx
    have:m ≤ ns[i]?.getD 0:=hB.2 i (by rw [hsz]; exact hi)
    rw [List.getElem?_eq_getElem hi] at this
    rw [← e1]
    exact this
end
end L2
namespace My
open PySem L2
section
variable {P:Program} {w:World} {K:PySem.W.Frag} {mg:Str→Option Value} {base:Heap} {c1 c2 c3 c4:Tok} {C_NoWeb f_NoWeb:Addr} {dI:FuncData}
theorem any_eq (ts:List (Int × Int)) (q:Int × Int):((ts.map jbf).any fun c=>eqP c (jbf q)) = decide (q ∈ ts):=by
 induction ts with
 | nil=>simp
 | cons t r ih =>
  rw [List.map_cons,List.any_cons,ih]
  have:eqP (jbf t) (jbf q) = decide (t = q):=by
   obtain ⟨a,b⟩:=t
   obtain ⟨c,d⟩:=q
   simp only [jbf,eqP,eqPs,Bool.and_true]
   by_cases h1:a = c <;> by_cases h2:b = d <;> simp [h1,h2]
  rw [this]
  by_cases c1:t = q
  ·subst c1; simp
  ·by_cases c2:q ∈ r
   ·simp [c2]
   ·simp [c1,c2,Ne.symm c1]
def jcp (ps:List (Int × Int)) (f:Int→Int):List (Key × V):=ps.map fun p=>(Sum.inl p.1,V.int (2 * p.2 - f p.1))
theorem jiu {ps:List (Int × Int)} (nd:(ps.map (·.1)).Nodup) {f:Int→Int} {p:Int × Int} (hp:p ∈ ps) (a:Int):putK (jcp ps f) (Sum.inl p.1:Key) (.int (2 * p.2 - f p.1 - a)) = jcp ps fun m=>f m + (if p.1 = m then a else 0):=by
 unfold putK
 have h1:((jcp ps f).any fun kv=>decide (kv.1 = (Sum.inl p.1:Key))) = true:=by
  unfold jcp
  rw [List.any_map,List.any_eq_true]
  exact ⟨p,hp,by simp⟩
 rw [if_pos h1]
 unfold jcp
 rw [List.map_map]
 refine List.map_congr_left fun q hq=>?_
 dsimp only [Function.comp]
 by_cases c:p.1 = q.1
 ·have e:p = q:=by
   have w:=(List.pairwise_map.mp nd)
   have:∀ x ∈ ps,∀ y ∈ ps,x.1 = y.1→x = y:=fun x hx y hy e=>by
    obtain ⟨i,hi,rfl⟩:=List.mem_iff_getElem.mp hx
    obtain ⟨j,hj,rfl⟩:=List.mem_iff_getElem.mp hy
    rcases Nat.lt_trichotomy i j with z | z | z
    ·exact absurd e (List.pairwise_iff_getElem.mp w i j hi hj z)
    ·subst z; rfl
    ·exact absurd e.symm (List.pairwise_iff_getElem.mp w j i hj hi z)
   exact this p hp q hq c
  subst e
  rw [if_pos rfl,if_pos rfl]
  congr 2
  omega
 ·rw [if_neg (fun z=>c (Sum.inl.inj z).symm),if_neg c,Int.add_zero]
theorem jit {ps:List (Int × Int)} (nd:(ps.map (·.1)).Nodup) {f:Int→Int} {p:Int × Int} (hp:p ∈ ps):valV (jcp ps f) (Sum.inl p.1:Key) = some (.int (2 * p.2 - f p.1)):=by
 have e:jcp ps f = jbk (ps.map fun p=>(p.1,2 * p.2 - f p.1)):=by
  unfold jcp jbk
  rw [List.map_map]
  rfl
 rw [e]
 exact jfb (ps:=ps.map fun p=>(p.1,2 * p.2 - f p.1)) (p:=(p.1,2 * p.2 - f p.1)) (by rw [List.map_map]; exact nd) (List.mem_map.mpr ⟨p,hp,rfl⟩)
theorem jlk {ps:List (Int × Int)} {qs:List (Int × Int × Int)} {m:Int} (h1:(ps.map fun p=>2 * p.2 - jal qs p.1) = []→m = 0) (h2:(ps.map fun p=>2 * p.2 - jal qs p.1) ≠ []→m ∈ ps.map fun p=>2 * p.2 - jal qs p.1) (h3:∀ x ∈ ps.map fun p=>2 * p.2 - jal qs p.1,m ≤ x):decide (m ≥ 0) = jfo ps qs:=by
 unfold jfo
 by_cases c:m ≥ 0
 ·rw [decide_eq_true c]
  refine (List.all_eq_true.mpr fun p hp=>decide_eq_true ?_).symm
  have:=h3 _ (List.mem_map.mpr ⟨p,hp,rfl⟩)
  omega
 ·rw [decide_eq_false c]
  have hne:(ps.map fun p=>2 * p.2 - jal qs p.1) ≠ []:=fun z=>c (by rw [h1 z]; exact Int.le_refl _)
  obtain ⟨p,hp,e⟩:=List.mem_map.mp (h2 hne)
  cases e2:ps.all fun p=>decide (jal qs p.1 ≤ 2 * p.2) with
  | false=>rfl
  | true =>
   have:=of_decide_eq_true (List.all_eq_true.mp e2 p hp)
   omega
theorem jgv (q:Dt→Bool):∀ (ds:List Dt),jb6 (ds.filter q) ≤ jb6 ds
 | []=>Nat.le_refl _
 | d :: r=>by
  have ih:=jgv q r
  rw [List.filter_cons,jb6]
  split
  ·rw [jb6]; omega
  ·omega
theorem jie {H:Hp}:∀ {ds:List Dt} {vs:List V} {d:Dt} {v:V},Reps H ds vs→Rep H d v→Reps H (ds ++ [d]) (vs ++ [v])
 | [],vs,d,v,h,g=>by
  rw [Reps] at h
  subst h
  rw [List.nil_append,List.nil_append,Reps]
  exact ⟨v,[],rfl,g,by rw [Reps]⟩
 | a :: r,vs,d,v,h,g=>by
  rw [Reps] at h
  obtain ⟨x,xs,rfl,h1,h2⟩:=h
  rw [List.cons_append,List.cons_append,Reps]
  exact ⟨x,xs ++ [v],rfl,h1,jie h2 g⟩
theorem jr7 (ds:List Dt):eqP (.lst ds) (.lst []) = decide (ds = []):=by
 cases ds <;> rfl
theorem joj (es:List Dt):decide ((es.filter fun e=>! jbs (kdD e)) = []) = jfa es:=by
 unfold jfa
 induction es with
 | nil=>rfl
 | cons e r ih =>
  rw [List.filter_cons,List.all_cons]
  cases c:jbs (kdD e) with
  | true=>simpa using ih
  | false=>simp
theorem jnt:∀ {ds:List Dt} {d:Dt},d ∈ ds→depP d ≤ jb6 ds
 | a :: r,d,h=>by
  rw [jb6]
  rcases List.mem_cons.mp h with e | h
  ·subst e; omega
  ·have:=jnt h
   omega
def jma:Sp:=fun vs H Q _=>∃ v ps ts y d,vs = [v,y]∧jdf H v ps ts∧WebOk ps ts∧Rep H d y∧jmf d∧depP d ≤ 20∧∀ H',Same H H'→Q (.bl (jhq ps ts d)) H'
theorem jfs {f:Addr} {fd:FuncData} {f_law_whole:Addr} {d_law_whole:FuncData} (B:Blt mg) (D:DefAt K mg "_law_are_dues" (top 35) ["_law_web","_law_thing"] f fd) (D_law_whole:DefAt K mg "_law_whole" (top 33) ["_law_thing"] f_law_whole d_law_whole) (G_law_whole:FnOk P w K mg base CX0 1 f_law_whole d_law_whole ["_law_thing"] jdo):FnOk P w K mg base CX0 2 f fd ["_law_web","_law_thing"] jma:=by
 have sc:FnScope ["_law_web","_law_thing","_law_left","_law_place","_law_price","_law_last","_law_one"] ["_law_web","_law_thing"] (jac (top 35)):=⟨rfl,rfl,rfl,by decide +kernel,rfl,by decide +kernel,by decide +kernel⟩
 refine D.F.ok sc (fun vs H Q E h=>?_) (fun cdv A outer s H vs Q E hr h=>?_)
 ·obtain ⟨v,ps,ts,y,d,rfl,_⟩:=h
  rfl
 obtain ⟨v,ps,ts,y,d,rfl,hw,wk,hd,hs,hdp,h⟩:=h
 obtain ⟨u,pa,ta,xs,ys,rfl,hu1,hpa,hta,hxs,hys⟩:=hw
 have hxl:=Paired.length hxs
 have hu:=jbo hr
 have hu0:_ < PySem.cLine:=Nat.lt_of_succ_lt hu
 refine ⟨_,(ja5 (jb5 (jbb (jb9 (ja9 (jdk .lst) rfl B.isinstance PyProof.Rows.boot_isinstance (ja0 (qv 1) (ja0 (jbn (v:=.ty "list") rfl B.list PyProof.Rows.boot_list rfl) ja3))))) (ja6 (jan jc8)) jam) (ja5 (jae (i:=2) sc.nd rfl (Or.inl rfl) jhb) (ja5 (jce PassesOwn.never rfl (jbm (jab q_ix (qv 0) ja2 (fun _ _=>rfl))) (jd8 (n:=2) rfl (jah (jad (i:=3) sc.nd rfl (Or.inl rfl)) (jah (jad (i:=4) sc.nd rfl (Or.inl rfl)) jbw))) (ja6 (jgl hu (qv 2) (qv 3) (jap jeg ja2 (qv 4))))) (ja5 (jae (i:=5) sc.nd rfl (Or.inl rfl) (jb7 (ja0 (je3 je0 ja2) (ja0 (je3 je0 ja2) ja3)))) (ja5 (jce PassesOwn.never rfl (jbm (qv 1)) (jad (i:=6) sc.nd rfl (Or.inl rfl)) (ja5 (jb5 (PW.pt (jd6 (jbb (jb9 (ja9 (jdk .tup) rfl B.isinstance PyProof.Rows.boot_isinstance (ja0 (qv 6) (ja0 (jbn (v:=.ty "tuple") rfl B.tuple PyProof.Rows.boot_tuple rfl) ja3))))) (jcu (jaq q_ne (ja9 jci rfl B.len PySem.boot_len (ja0 (qv 6) ja3)) ja2 (jaj _))))) (ja6 (jan jc8)) jam) (ja5 (jb5 (jaq (jkp hr.units) (jc7 (CpScope.of (N:=["_law_part"]) (src:=[none]) (by rfl)) rfl (jq1 (qv 6)) (fun _ _ _ _=>(jad (i:=0) (jak (l:=["_law_part"]) (by rfl)) rfl (Or.inl rfl))) (fun _ _ _ _=>(jfl (jbb (jb9 (ja8 G_law_whole (hr.mono (by decide)) rfl D_law_whole.m D_law_whole.F.kp D_law_whole.b .nil jar (ja0 (qv 0) ja3)))))) (fun _ _ _ _=>(qv 0))) (jc1 ja3) (jaj _)) (ja6 (jan jc8)) jam) (ja5 (jb5 (PW.pt (jd6 (jaq q_lt (jab q_ix (qv 6) ja2 (fun _ _=>rfl)) ja2 (jaj _)) (jd6 (jaq (jmw hr.units) (jb2 jdz (qv 6) jbj (jbi ja2)) (jab q_ix (qv 0) ja2 (fun _ _=>rfl)) (by with_unfolding_all rfl)) (jcu (jaq (q_leT hu0) (jb2 jdz (qv 6) jbj (jbi ja2)) (qv 5) (jaj _)))))) (ja6 (jan jc8)) jam) (ja5 (jae (i:=5) sc.nd rfl (Or.inl rfl) (jb2 jdz (qv 6) jbj (jbi ja2))) (ja5 (jgl hu (qv 2) (jab q_ix (qv 6) ja2 (fun _ _=>rfl)) (jap jmm (jfj hu (qv 2) (jab q_ix (qv 6) ja2 (fun _ _=>rfl)) (fun _ _=>rfl)) (jab q_ix (qv 6) ja2 (fun _ _=>rfl)))) (ja6 (jgl hu (qv 2) (jab q_ix (qv 6) ja2 (fun _ _=>rfl)) (jap jmm (jfj hu (qv 2) (jab q_ix (qv 6) ja2 (fun _ _=>rfl)) (fun _ _=>rfl)) (jab q_ix (qv 6) ja2 (fun _ _=>rfl))))))))))) (ja6 (jan (jbx q_ge (jii (jo4 rfl) rfl B.min PyProof.Rows.boot_min (ja0 (jjk rfl rfl B.list PyProof.Rows.boot_list (qv 2)) ja3) (jmq ja2 jq0)) ja2 (jaj _))))))))),?_⟩
 have hkd:=jck hd
 simp_arith [hkd]
 cases d with
 | lst ds =>
  rw [Rep] at hd
  obtain ⟨l,zs,rfl,el,r⟩:=hd
  have hlv:=r.len
  simp_arith [kdD,isi,jag,hu1,at0,el,hpa]
  intro d hd0
  have s1:=ja4 hd0 (.dK [])
  have ed:upd H d (.dK []) d = some (.dK []):=ja1
  generalize upd H d (.dK []) = H1 at s1 ed
  have nd:(ps.map (·.1)).Nodup:=wk.p.nodup
  have hpl:=wk.pl
  refine jb8 (Itl K pa) H1 (fun R' hR'=>?_) (jea (K:=K) (a:=pa) (xs:=xs) (fun i σ Hc=>∃ w1 w2,σ = [some (.ref u),some (.ref l),some (.ref d),w1,w2,none,none]∧Same H Hc∧Hc d = some (.dK (jcp (ps.take i) fun _=>0))) ⟨none,none,rfl,s1,ed⟩ (fun i σ Hc _ ⟨_,_,_,s3,_⟩=>SqL.of (s3 _ _ hpa)) ?_ ?_)
  ·unfold jdc
   simp_arith [jag,s1 _ _ hu1,at0]
   exact ⟨pa,rfl,⟨_,SqL.of (s1 _ _ hpa)⟩,hR'⟩
  ·rintro i x σ Hc hx ⟨w1,w2,rfl,s2,ed2⟩
   obtain ⟨p,hp,px⟩:=jaf hxs hx
   obtain ⟨b,rfl,hb⟩:=px.same s2
   simp_arith [hb,ed2]
   have hi:=(List.getElem?_eq_some_iff.mp hp).1
   refine ⟨cmL (by decide) (by decide),?_,_,_,rfl,jav s2 hd0,?_⟩
   ·unfold jcp
    rw [List.length_map,List.length_take]
    exact szl' (by omega)
   ·have hn:valV (jcp (ps.take i) fun _=>0) (Sum.inl p.1:Key) = none:=by
     have e:(jcp (ps.take i) fun _=>0) = jbk ((ps.take i).map fun p=>(p.1,2 * p.2 - 0)):=by
      unfold jcp jbk
      rw [List.map_map]
      rfl
     rw [e]
     refine jlx ?_
     rw [List.map_map]
     show p.1 ∉ (ps.take i).map (·.1)
     rw [List.map_take]
     exact jgg nd (by rw [List.getElem?_map,hp]; rfl)
    rw [ja1,jkk _ hn,jau hp]
    unfold jcp
    rw [List.map_append,List.map_singleton,Int.sub_zero]
  ·rintro σ H2 ⟨w1,w2,rfl,s2,ed2⟩
   rw [hxl,List.take_length] at ed2
   walk_at "RD"
   intro pl0 hp0
   have s3:=s2.trans (ja4 hp0 (.tup [.int (-1),.int (-1)]))
   have ed3:=ja4 hp0 (.tup [.int (-1),.int (-1)]) _ _ ed2
   have ep:upd H2 pl0 (.tup [.int (-1),.int (-1)]) pl0 = some (.tup [.int (-1),.int (-1)]):=ja1
   generalize upd H2 pl0 (.tup [.int (-1),.int (-1)]) = H3 at s3 ed3 ep
   refine jb8 (Itl K l) H3 (fun R' hR'=>?_) (jea (K:=K) (a:=l) (xs:=zs) (fun i σ Hc=>∃ v4 pl q qs,σ = [some (.ref u),some (.ref l),some (.ref d),w1,w2,some (.ref pl),v4]∧Same H Hc∧Hc d = some (.dK (jcp ps (jal qs)))∧Hc pl = some (.tup [.int q.1,.int q.2])∧jbz ts (-1,-1) ds = (jbz ts q (ds.drop i)).map (qs ++ ·)) ⟨none,pl0,(-1,-1),[],rfl,s3,ed3,ep,by simp⟩ (fun i σ Hc _ ⟨_,_,_,_,_,s3,_⟩=>SqL.of (s3 _ _ el)) ?_ ?_)
   ·unfold jdc
    walk_at "RD"
    exact ⟨l,rfl,⟨_,SqL.of (s3 _ _ el)⟩,hR'⟩
   ·rintro i x σ Hc hx ⟨v4,pl,q,qs,rfl,s4,ed4,epl,hdo⟩
    obtain ⟨dt,hdt,rdt⟩:=r.at hx
    have hdr:ds.drop i = dt :: ds.drop (i + 1):=jcm hdt
    have hb0:=h Hc s4
    have hkx:=jck (Rep.same s4 _ rdt)
    have fail:dueO dt = none→jhq ps ts (.lst ds) = false:=fun e=>jc4 (by rw [hdo,hdr,jbz,e]; rfl)
    have htup:∀ es,dt = .tup es→jb6 es ≤ 18:=fun es e=>by
     have:=jnt (List.mem_of_getElem? hdt)
     rw [e,depP] at this
     rw [depP] at hdp
     omega
    cases dt with
    | tup es =>
     rw [Rep] at rdt
     obtain ⟨t,vs,rfl,et,rr⟩:=rdt
     have et4:=s4 _ _ et
     have hvl:=rr.len
     by_cases c3:es.length = 3
     ·simp_arith [jag,hkx,kdD,isi,et4]
      rw [decide_eq_true (show (vs.length:Int) = 3 by omega),if_neg (by decide)]
      refine jaw (Itt K t) Hc (fun R hR=>?_) (fun z hz0=>jbe es.length (fun i σ' Hd=>∃ w1 ws,σ' = [w1]∧Same Hc Hd∧Hd z = some (.lst ws)∧Reps Hc ((es.take i).filter fun e=>! jbs (kdD e)) ws∧ws.length ≤ i) ⟨none,[],rfl,ja4 hz0 _,ja1,by rw [List.take_zero,List.filter_nil,Reps],Nat.zero_le _⟩ ?_ ?_)
      ·unfold iTup
       walk_at "RD"
       exact ⟨t,rfl,⟨_,SqT.of et4⟩,hR⟩
      ·rintro j σ' Hd hj ⟨w3,ws,rfl,s7,ez,pw,hwl⟩
       have x1:vs[j]? = some (vs[j]'(by omega)):=List.getElem?_eq_getElem _
       refine ⟨⟨_,_,SqT.of (s7 _ _ et4),x1⟩,?_⟩
       rintro y H' ⟨rfl,hy⟩
       have E1:=Option.some.inj (x1.symm.trans (hy _ (SqT.of (s7 _ _ et4))))
       obtain ⟨e0,he0,re0⟩:=rr.at x1
       rw [E1] at re0
       walk_at "RD"
       refine ⟨_,kdD e0,rfl,jck (Rep.same (s4.trans s7) _ re0),?_⟩
       rw [jau he0,List.filter_append]
       cases c:jbs (kdD e0) with
       | true =>
        dsimp only
        rw [if_neg (by decide),List.filter_cons,if_neg (by rw [c]; decide),List.filter_nil,List.append_nil]
        exact ⟨_,ws,rfl,s7,ez,pw,by omega⟩
       | false =>
        dsimp only
        rw [if_pos (by decide),List.filter_cons,if_pos (by rw [c]; rfl),List.filter_nil]
        exact ⟨ws,ez,szl' (by omega),_,ws ++ [y],rfl,jav s7 hz0,ja1,jie pw (Rep.same s4 _ re0),by rw [List.length_append,List.length_singleton]; omega⟩
      ·rintro σ' Hd ⟨w3,ws,rfl,s7,ez,pw,hwl⟩
       refine ⟨⟨_,SqT.of (s7 _ _ et4),by omega⟩,?_⟩
       rw [List.take_length] at pw
       walk_at "RD"
       intro e he
       have s9:=ja4 he (.lst [])
       have ee:upd Hd e (.lst []) e = some (.lst []):=ja1
       generalize upd Hd e (.lst []) = He at s9 ee
       have sA:=s7.trans s9
       have sB:=s4.trans sA
       refine ⟨.lst (es.filter fun e=>! jbs (kdD e)),.lst [],?_,?_,?_,.inl ⟨_,_,rfl,rfl⟩,?_⟩
       ·rw [Rep]; exact ⟨z,ws,rfl,s9 _ _ ez,Reps.same sA _ pw⟩
       ·rw [Rep]; exact ⟨e,[],rfl,ee,by rw [Reps]⟩
       ·have:=jgv (fun e=>! jbs (kdD e)) es
        have:=htup es rfl
        rw [depP]; omega
       rw [if_pos rfl,jr7,joj]
       have hb:=h He sB
       cases cw:jfa es with
       | false =>
        rw [fail (by unfold dueO; rw [jka (.inr cw)])] at hb
        walk_at "RD"
        exact hb
       | true =>
        obtain ⟨p,hp⟩:=jj1 c3 cw
        subst hp
        obtain ⟨t',et',e3⟩:=jf0 (p:=p) (H:=H) (x:=.ref t) (by rw [jc2,Rep]; exact ⟨t,vs,rfl,et,rr⟩)
        cases et'
        rw [et] at e3
        cases e3
        have etB:=sB _ _ et
        have edB:=sA _ _ ed4
        have epB:=sA _ _ epl
        have euB:=sB _ _ hu1
        have etaB:=sB _ _ hta
        simp_arith [etB,at2]
        have dO:dueO (.tup [.int p.1,.int p.2.1,.int p.2.2]) = if 1 ≤ p.2.2 then some p else none:=rfl
        by_cases c1:p.2.2 < 1
        ·rw [decide_eq_true c1,if_pos rfl]
         rw [fail (by rw [dO,if_neg (by omega)])] at hb
         exact hb
        ·rw [decide_eq_false c1,if_neg (by decide)]
         rw [if_pos (by omega)] at dO
         refine ⟨by decide,fun k1 hk1=>?_⟩
         rw [cut3]
         have u1:=ja4 hk1 (.tup [.int p.1,.int p.2.1])
         have e1:upd He k1 (.tup [.int p.1,.int p.2.1]) k1 = some (.tup [.int p.1,.int p.2.1]):=ja1
         generalize upd He k1 (.tup [.int p.1,.int p.2.1]) = H5 at u1 e1
         simp only [u1 _ _ euB,at1]
         refine ⟨jbf (p.1,p.2.1),ta,ys,ts.map jbf,Pr.rep ⟨k1,rfl,e1⟩,rfl,u1 _ _ etaB,(Prs.same (sB.trans u1) hys).reps,by have:=jeb ts; omega,?_⟩
         rw [if_pos rfl,any_eq]
         by_cases cm:(p.1,p.2.1) ∈ ts
         ·rw [decide_eq_true cm]
          have et5:=u1 _ _ etB
          dsimp only [Bool.not_true]
          rw [if_neg (by decide),et5]
          refine ⟨jk3 (.int p.1) (.int p.2.1) (.int p.2.2),fun k2 hk2=>?_⟩
          rw [cut3]
          have u2:=u1.trans (ja4 hk2 (.tup [.int p.1,.int p.2.1]))
          have e2:upd H5 k2 (.tup [.int p.1,.int p.2.1]) k2 = some (.tup [.int p.1,.int p.2.1]):=ja1
          generalize upd H5 k2 (.tup [.int p.1,.int p.2.1]) = H6 at u2 e2
          simp only [fLeT,e2,u2 _ _ epB]
          by_cases cl:leL [p.1,p.2.1] [q.1,q.2] = true
          ·rw [if_pos cl]
           have hb:=h H6 (sB.trans u2)
           rw [jc4 (by rw [hdo,hdr,jbz,dO]; dsimp only; rw [if_neg (fun z=>by rw [z.2] at cl; cases cl)]; rfl)] at hb
           exact hb
          ·rw [if_neg cl,u2 _ _ etB]
           refine ⟨jk3 (.int p.1) (.int p.2.1) (.int p.2.2),fun k3 hk3=>?_⟩
           rw [cut3]
           have u3:=u2.trans (ja4 hk3 (.tup [.int p.1,.int p.2.1]))
           have e3:upd H6 k3 (.tup [.int p.1,.int p.2.1]) k3 = some (.tup [.int p.1,.int p.2.1]):=ja1
           generalize upd H6 k3 (.tup [.int p.1,.int p.2.1]) = H7 at u3 e3
           obtain ⟨_,m1,m2⟩:=wk.t.in _ cm
           obtain ⟨p1,hp1,f1⟩:=List.mem_map.mp (jcq m1)
           obtain ⟨p2,hp2,f2⟩:=List.mem_map.mp (jcq m2)
           dsimp only at f1 f2
           have g1:=jit nd (f:=jal qs) hp1
           rw [f1] at g1
           have et7:=u3 _ _ etB
           have ed7:=u3 _ _ edB
           simp only [et7,ed7,at0,at1,at2,g1]
           have w1:=jiu nd (f:=jal qs) hp1 p.2.2
           rw [f1] at w1
           rw [w1]
           have hgl:∀ g:Int→Int,(jcp ps g).length < sizeLine:=fun g=>by
            unfold jcp
            rw [List.length_map]
            exact szl' (by omega)
           refine ⟨hgl _,?_⟩
           have et8:upd H7 d (.dK (jcp ps fun m=>jal qs m + (if p.1 = m then p.2.2 else 0))) t = some (.tup [.int p.1,.int p.2.1,.int p.2.2]):=by
            rw [jaa (ja7 et hd0)]
            exact et7
           have ed8:upd H7 d (.dK (jcp ps fun m=>jal qs m + (if p.1 = m then p.2.2 else 0))) d = some (.dK (jcp ps fun m=>jal qs m + (if p.1 = m then p.2.2 else 0))):=ja1
           have g2:=jit nd (f:=fun m=>jal qs m + (if p.1 = m then p.2.2 else 0)) hp2
           rw [f2] at g2
           have w2':=jiu nd (f:=fun m=>jal qs m + (if p.1 = m then p.2.2 else 0)) hp2 p.2.2
           rw [f2] at w2'
           have nk:k3 ≠ d:=fun z=>by rw [z,ed7] at e3; cases e3
           simp only [et8,ed8,at1,at2,g2]
           refine ⟨hgl _,_,k3,(p.1,p.2.1),qs ++ [p],rfl,jav (jav (sB.trans u3) hd0) hd0,?_,?_,?_⟩
           ·rw [ja1]
            refine congrArg (fun z=>some (HO.dK z)) (Eq.trans w2' ?_)
            have ef:(fun m=>jal qs m + (if p.1 = m then p.2.2 else 0) + (if p.2.1 = m then p.2.2 else 0)) = jal (qs ++ [p]):=by
             funext m
             unfold jal
             rw [List.map_append,List.sum_append]
             simp
             omega
            rw [← ef]
           ·rw [jaa nk,jaa nk]
            exact e3
           ·rw [hdo,hdr,jbz,dO]
            dsimp only
            rw [if_pos ⟨cm,Bool.eq_false_iff.mpr cl⟩,Option.map_map]
            congr 1
            funext w
            show qs ++ p :: w = (qs ++ [p]) ++ w
            rw [List.append_assoc]
            rfl
         ·rw [decide_eq_false cm]
          have hb:=h H5 (sB.trans u1)
          rw [jc4 (by rw [hdo,hdr,jbz,dO]; dsimp only; rw [if_neg (fun z=>cm z.1)]; rfl)] at hb
          walk_at "RD"
          exact hb
     ·have c4:¬ (vs.length:Int) = 3:=by omega
      simp_arith [jag,hkx,kdD,isi,et4,decide_eq_false c4]
      rw [fail (by unfold dueO; rw [jka (.inl c3)])] at hb0
      exact hb0
    | _ =>
     simp_arith [jag,hkx,kdD,isi]
     rw [fail rfl] at hb0
     exact hb0
   ·rintro σ Hc ⟨v4,pl,q,qs,rfl,s4,ed4,epl,hdo⟩
    rw [List.drop_eq_nil_of_le (by omega),jbz,Option.map_some,List.append_nil] at hdo
    simp_arith [tVals,ed4,tCBK]
    refine ⟨d,_,rfl,ed4,fun z hz=>⟨z,ps.map (fun p=>2 * p.2 - jal qs p.1),0,rfl,rfl,?_,fun m m1 m2 m3=>?_⟩⟩
    ·rw [ja1]
     unfold jcp
     rw [List.map_map,List.map_map]
     rfl
    ·show Q (.bl (decide (m ≥ 0))) _
     rw [jlk m1 m2 m3]
     refine (jdi hdo) ▸ (h _ (s4.trans (ja4 hz _)))
 | _=>simp_arith [kdD,isi]; exact h H (Same.refl _)
end
end My
namespace My
open PySem L2
section
variable {P:Program} {w:World} {K:PySem.W.Frag} {mg:Str→Option Value} {base:Heap} {c1 c2 c3 c4:Tok} {C_NoWeb f_NoWeb:Addr} {dI:FuncData}
theorem jno {ps:List (Int × Int)} {p:Int × Int} (nd:(ps.map (·.1)).Nodup) (h:p ∈ ps):hOf ps p.1 = p.2:=by
 unfold hOf
 rw [jfb nd h]
def jke:Sp:=fun vs H Q _=>∃ v ps ts y d,vs = [v,y]∧jdf H v ps ts∧WebOk ps ts∧Rep H d y∧jme d∧depP d ≤ 20∧∀ H',Same H H'→Q (.bl (jcw ps ts d)) H'
theorem jjm {f:Addr} {fd:FuncData} {f_law_are_halves:Addr} {d_law_are_halves:FuncData} {f_law_are_dues:Addr} {d_law_are_dues:FuncData} (B:Blt mg) (D:DefAt K mg "_law_lets" (top 36) ["_law_web","_law_thing"] f fd) (D_law_are_halves:DefAt K mg "_law_are_halves" (top 34) ["_law_web","_law_thing"] f_law_are_halves d_law_are_halves) (G_law_are_halves:FnOk P w K mg base CX0 2 f_law_are_halves d_law_are_halves ["_law_web","_law_thing"] jf3) (D_law_are_dues:DefAt K mg "_law_are_dues" (top 35) ["_law_web","_law_thing"] f_law_are_dues d_law_are_dues) (G_law_are_dues:FnOk P w K mg base CX0 2 f_law_are_dues d_law_are_dues ["_law_web","_law_thing"] jma):FnOk P w K mg base CX0 3 f fd ["_law_web","_law_thing"] jke:=by
 have sc:FnScope ["_law_web","_law_thing","_law_cost","_law_k"] ["_law_web","_law_thing"] (jac (top 36)):=⟨rfl,rfl,rfl,by decide +kernel,rfl,by decide +kernel,by decide +kernel⟩
 refine D.F.ok sc (fun vs H Q E h=>?_) (fun cdv A outer s H vs Q E hr h=>?_)
 ·obtain ⟨v,ps,ts,y,d,rfl,_⟩:=h
  rfl
 obtain ⟨v,ps,ts,y,d,rfl,hw,wk,hd,hs,hdp,h⟩:=h
 have hu:=jbo hr
 have hu0:_ < PySem.cLine:=Nat.lt_of_succ_lt hu
 refine ⟨_,(ja5 (jb5 (PW.pt (jd6 (jbb (jb9 (ja9 (jdk .tup) rfl B.isinstance PyProof.Rows.boot_isinstance (ja0 (qv 1) (ja0 (jbn (v:=.ty "tuple") rfl B.tuple PyProof.Rows.boot_tuple rfl) ja3))))) (jcu (jaq q_ne (ja9 jci rfl B.len PySem.boot_len (ja0 (qv 1) ja3)) ja2 (jaj _))))) (ja6 (jan jc8)) jam) (ja5 (jb5 (PW.pt (jd6 (jbb (jb9 (ja8 G_law_are_halves (hr.mono (by decide)) rfl D_law_are_halves.m D_law_are_halves.F.kp D_law_are_halves.b .nil jar (ja0 (qv 0) (ja0 (jab q_ix (qv 1) ja2 (fun _ _=>rfl)) ja3))))) (jcu (jbb (jb9 (ja8 G_law_are_dues (hr.mono (by decide)) rfl D_law_are_dues.m D_law_are_dues.F.kp D_law_are_dues.b .nil jar (ja0 (qv 0) (ja0 (jab q_ix (qv 1) ja2 (fun _ _=>rfl)) ja3)))))))) (ja6 (jan jc8)) jam) (ja5 (jae (i:=2) sc.nd rfl (Or.inl rfl) ja2) (ja5 (jce PassesOwn.never rfl (jc6 rfl B.range (ja0 (ja9 jci rfl B.len PySem.boot_len (ja0 (jab q_ix (qv 0) ja2 (fun _ _=>rfl)) ja3)) ja3)) (jad (i:=3) sc.nd rfl (Or.inl rfl)) (ja6 (jae (i:=2) sc.nd rfl (Or.inl rfl) (jap jbr (qv 2) (jap jeg (jab q_ix (jab q_ix (jab q_ix (qv 0) ja2 (fun _ _=>rfl)) (qv 3) (fun _ _=>rfl)) ja2 (fun _ _=>rfl)) (jab q_ix (jab q_ix (jab q_ix (qv 1) ja2 (fun _ _=>rfl)) (qv 3) (fun _ _=>rfl)) ja2 (fun _ _=>rfl))))))) (ja6 (jan (jbx q_eq (ja9 (jqn rfl) rfl B.sum PyProof.Rows.boot_sum (ja0 (jc7 (CpScope.of (N:=["_law_one"]) (src:=[none]) (by rfl)) rfl (jbm (jab q_ix (qv 1) ja2 (fun _ _=>rfl))) (fun _ _ _ _=>(jad (i:=0) (jak (l:=["_law_one"]) (by rfl)) rfl (Or.inl rfl))) (fun _ _ _ _=>jco) (fun _ _ _ _=>(jab q_ix (qv 0) ja2 (fun _ _=>rfl)))) ja3)) (qv 2) (jaj _)))))))),?_⟩
 have hkd:=jck hd
 simp_arith [hkd]
 cases d with
 | tup ds =>
  have hd0:=hd
  rw [Rep] at hd
  obtain ⟨g,vs,rfl,ea,r⟩:=hd
  have hlv:=r.len
  simp_arith [kdD,isi,jag,ea]
  by_cases c2:ds.length = 2
  ·rw [decide_eq_true (show (vs.length:Int) = 2 by omega),if_neg (by decide)]
   obtain ⟨a,b,rfl⟩:=jkn c2
   have hsb:=hs a b rfl
   rw [Reps] at r
   obtain ⟨v1,r1,rfl,e1,r⟩:=r
   rw [Reps] at r
   obtain ⟨v2,r2,rfl,e2,r⟩:=r
   rw [Reps] at r
   subst r
   simp_arith [jag,ea,at0,at1]
   refine ⟨_,ps,ts,_,a,rfl,hw,wk,e1,fun H1 s1=>?_⟩
   cases ch:halB ps ts a with
   | false =>
    walk_at "RD"
    have hb:=h H1 s1
    rw [show jcw ps ts (.tup [a,b]) = pap2 ps ts a b from rfl,jq3 ch] at hb
    exact hb
   | true =>
    simp_arith [jag,s1 _ _ ea,at1]
    refine ⟨_,ps,ts,_,b,rfl,hw.same s1,wk,Rep.same s1 _ e2,hsb,by rw [depP,jb6,jb6] at hdp; omega,fun H2 s2=>?_⟩
    have s3:=s1.trans s2
    cases cd:jhq ps ts b with
    | false =>
     walk_at "RD"
     have hb:=h H2 s3
     rw [show jcw ps ts (.tup [a,b]) = pap2 ps ts a b from rfl,jq4 cd] at hb
     exact hb
    | true =>
     obtain ⟨hs',rfl,ho,hti⟩:=jix ch
     obtain ⟨qs,rfl,qo,hpa⟩:=jgu cd
     rw [Rep] at e1 e2
     obtain ⟨l1,z1,rfl,el1,r1⟩:=e1
     obtain ⟨l2,z2,rfl,el2,r2⟩:=e2
     have p1:=jh6 r1
     have p2:=jh5 r2
     obtain ⟨_,hk,hrg⟩:=jcy ho
     have hzl:=Paired.length p2
     have hz1:=Paired.length p1
     have hql:qs.length ≤ 200:=by have:=hsb _ rfl; rw [List.length_map] at this; exact this
     obtain ⟨u,pa,ta,xs,ys,rfl,hu1,hpl0,hta,hxs,hys⟩:=hw
     have hxl:=Paired.length hxs
     have hpl:hs'.length = ps.length:=by
      have:=congrArg List.length hk
      rw [List.length_map,List.length_map] at this
      exact this
     have h40:=wk.pl
     walk_at "RD"
     refine jb8 (Itr 0 xs.length) H2 (fun R' hR'=>?_) (jcg (n:=xs.length) (fun i σ Hc=>∃ w1,σ = [some (.ref u),some (.ref g),some (.int (((hs'.take i).map fun h=>hOf ps h.1 * h.2).sum)),w1]∧Same H Hc) ⟨none,rfl,s3⟩ ?_ ?_)
     ·unfold jhm
      simp_arith [jag,s3 _ _ hu1,at0,s3 _ _ hpl0]
      exact ⟨_,rfl,by omega,by omega,by simpa using hR'⟩
     ·rintro i σ Hc hi ⟨w1,rfl,s4⟩
      have hx:xs[i]? = some (xs[i]'(by omega)):=List.getElem?_eq_getElem _
      have hy:z1[i]? = some (z1[i]'(by omega)):=List.getElem?_eq_getElem _
      obtain ⟨p,hp,px⟩:=jaf hxs hx
      obtain ⟨k,hk',pk⟩:=jaf p1 hy
      have ax:atI xs (i:Int) = some _:=jcr hx
      have ay:atI z1 (i:Int) = some _:=jcr hy
      rw [Int.zero_add]
      generalize xs[i] = x at hx px ax
      generalize z1[i] = y at hy pk ay
      obtain ⟨b1,rfl,eb1⟩:=px.same s4
      obtain ⟨b2,rfl,eb2⟩:=pk.same s4
      simp_arith [jag,s4 _ _ hu1,at0,s4 _ _ hpl0,ax,eb1,at1,s4 _ _ ea,s4 _ _ el1,ay,eb2]
      obtain ⟨k1,k2⟩:=hrg k (List.mem_of_getElem? hk')
      have ek:k.1 = p.1:=by
       have h1:(hs'.map (·.1))[i]? = some k.1:=by rw [List.getElem?_map,hk']; rfl
       have h2:(ps.map (·.1))[i]? = some p.1:=by rw [List.getElem?_map,hp]; rfl
       rw [hk,h2] at h1
       exact (Option.some.inj h1).symm
      refine ⟨cmR (by omega) (by omega),some (.int i),?_,s4⟩
      rw [jau hk',List.map_append,List.sum_append,List.map_singleton,List.sum_cons,List.sum_nil,Int.add_zero,ek,jno wk.p.nodup (List.mem_of_getElem? hp)]
     ·rintro σ Hc ⟨w1,rfl,s4⟩
      rw [List.take_of_length_le (by omega)]
      walk_at "RD"
      refine jaw (Itl K l2) Hc (fun R hR=>?_) (fun z hz0=>jbe qs.length (fun i σ' Hd=>∃ w1,σ' = [w1]∧Same Hc Hd∧Hd z = some (.lst (((qs.take i).map (·.2.2)).map V.int))) ⟨none,rfl,ja4 hz0 _,ja1⟩ ?_ ?_)
      ·unfold jdc
       simp_arith [jag,s4 _ _ ea,at1]
       exact ⟨l2,rfl,⟨_,SqL.of (s4 _ _ el2)⟩,hR⟩
      ·rintro i σ' Hd hi ⟨w1,rfl,s7,ez⟩
       have x1:z2[i]? = some (z2[i]'(by omega)):=List.getElem?_eq_getElem _
       have s8:=s4.trans s7
       refine ⟨⟨_,_,SqL.of (s8 _ _ el2),x1⟩,?_⟩
       rintro y H' ⟨rfl,hy⟩
       have E1:=Option.some.inj (x1.symm.trans (hy _ (SqL.of (s8 _ _ el2))))
       obtain ⟨pr,hpr,px⟩:=jaf p2 x1
       rw [E1] at px
       obtain ⟨b,rfl,hb⟩:=Tp.tups px s8.tups
       simp_arith [jag,hb,at2]
       refine ⟨_,ez,?_,_,rfl,jav s7 hz0,?_⟩
       ·rw [List.length_map,List.length_map,List.length_take]
        exact szl' (by omega)
       ·rw [ja1,jau hpr,List.map_append,List.map_append]
        rfl
      ·rintro σ' Hd ⟨w1,rfl,s7,ez⟩
       have s8:=s4.trans s7
       refine ⟨⟨_,SqL.of (s8 _ _ el2),by omega⟩,?_⟩
       rw [List.take_length] at ez
       refine ⟨z,_,rfl,ez,?_⟩
       have hb:=h Hd s8
       have e9:jcw ps ts (.tup [.lst (hs'.map jbf),.lst (qs.map jc2)]) = decide ((qs.map (·.2.2)).sum = jlo ps hs'):=by
        rw [jei]
        unfold pap2
        dsimp only
        rw [ho,qo]
        dsimp only
        rw [hti,hpa,Bool.true_and,Bool.true_and]
       rw [e9] at hb
       exact hb
  ·rw [decide_eq_false (show ¬ (vs.length:Int) = 2 by omega),if_pos (by decide)]
   have hb:=h H (Same.refl _)
   rw [jik c2] at hb
   exact hb
 | _=>simp_arith [kdD,isi]; exact h H (Same.refl _)
end
end My
namespace My
open PySem L2
section
variable {P:Program} {w:World} {K:PySem.W.Frag} {mg:Str→Option Value} {base:Heap} {c1 c2 c3 c4:Tok} {C_NoWeb f_NoWeb:Addr} {dI:FuncData}
def jbg:List Int→List Int→List (Int × Int)
 | n :: ns,c :: cs=>if 0 < c then (n,c) :: jbg ns cs else jbg ns cs
 | _,_=>[]
def jb1:List Int→List Int→List Int→List (Int × Int)
 | n :: ns,c :: cs,h :: hs=>if 0 < c then (n,h) :: jb1 ns cs hs else jb1 ns cs hs
 | _,_,_=>[]
theorem jgr:∀ {ns cs:List Int},ns.length = cs.length→∀ (n c:Int),jbg (ns ++ [n]) (cs ++ [c]) = jbg ns cs ++ (if 0 < c then [(n,c)] else [])
 | [],[],_,n,c=>by
  show jbg [n] [c] = _
  rw [jbg]
  split <;> rfl
 | a :: ns,b :: cs,h,n,c=>by
  have ih:=jgr (ns:=ns) (cs:=cs) (by simpa using h) n c
  rw [List.cons_append,List.cons_append,jbg,jbg,ih]
  split <;> rfl
theorem jgs:∀ {ns cs hs:List Int},ns.length = cs.length→ns.length = hs.length→∀ (n c h:Int),jb1 (ns ++ [n]) (cs ++ [c]) (hs ++ [h]) = jb1 ns cs hs ++ (if 0 < c then [(n,h)] else [])
 | [],[],[],_,_,n,c,h=>by
  show jb1 [n] [c] [h] = _
  rw [jb1]
  split <;> rfl
 | a :: ns,b :: cs,e :: hs,h1,h2,n,c,h=>by
  have ih:=jgs (ns:=ns) (cs:=cs) (hs:=hs) (by simpa using h1) (by simpa using h2) n c h
  rw [List.cons_append,List.cons_append,List.cons_append,jb1,jb1,ih]
  split <;> rfl
theorem je6:∀ {ns cs hs:List Int},ns.length = cs.length→ns.length = hs.length→(∀ h ∈ hs,0 ≤ h∧h ≤ 2)→halO (jbg ns cs) ((jb1 ns cs hs).map jbf) = some (jb1 ns cs hs)
 | [],[],[],_,_,_=>rfl
 | n :: ns,c :: cs,h :: hs,h1,h2,hb=>by
  have ih:=je6 (ns:=ns) (cs:=cs) (hs:=hs) (by simpa using h1) (by simpa using h2) (fun x hx=>hb x (List.mem_cons_of_mem _ hx))
  rw [jbg,jb1]
  split
  ·rw [List.map_cons,halO,show prO (jbf (n,h)) = some (n,h) from rfl]
   dsimp only
   rw [if_pos ⟨rfl,hb h (List.mem_cons_self ..)⟩,ih]
   rfl
  ·exact ih
theorem je7:∀ {ns cs:List Int},(jbg ns cs).map (·.1) |>.Sublist ns
 | [],_=>by rw [jbg]; exact List.Sublist.slnil; all_goals (intros; simp_all)
 | n :: ns,[]=>by rw [jbg]; exact List.nil_sublist _; all_goals (intros; simp_all)
 | n :: ns,c :: cs=>by
  rw [jbg]
  split
  ·rw [List.map_cons]; exact (je7 (ns:=ns) (cs:=cs)).cons₂ _
  ·exact (je7 (ns:=ns) (cs:=cs)).cons _
theorem jg0 {f:Int→Int}:∀ {ns cs hs:List Int},ns.length = cs.length→ns.length = hs.length→(∀ c ∈ cs,0 ≤ c)→(∀ p ∈ jbg ns cs,f p.1 = p.2)→((jb1 ns cs hs).map fun h=>f h.1 * h.2).sum = ((cs.zip hs).map fun q=>q.1 * q.2).sum
 | [],[],[],_,_,_,_=>rfl
 | n :: ns,c :: cs,h :: hs,h1,h2,hc,hf=>by
  rw [jbg] at hf
  rw [jb1,List.zip_cons_cons,List.map_cons,List.sum_cons]
  by_cases c0:0 < c
  ·rw [if_pos c0] at hf ⊢
   have ih:=jg0 (f:=f) (ns:=ns) (cs:=cs) (hs:=hs) (by simpa using h1) (by simpa using h2) (fun x hx=>hc x (List.mem_cons_of_mem _ hx)) (fun p hp=>hf p (List.mem_cons_of_mem _ hp))
   have e1:f n = c:=hf (n,c) (List.mem_cons_self ..)
   rw [List.map_cons,List.sum_cons,ih,e1]
  ·rw [if_neg c0] at hf ⊢
   have ih:=jg0 (f:=f) (ns:=ns) (cs:=cs) (hs:=hs) (by simpa using h1) (by simpa using h2) (fun x hx=>hc x (List.mem_cons_of_mem _ hx)) hf
   have:=hc c (List.mem_cons_self ..)
   have:c = 0:=by omega
   rw [ih,this]
   simp
def nth (xs:List Int) (k:Int):Int:=(xs[k.toNat]?).getD 0
theorem jd0 {xs:List Int} {k:Int} (h0:0 ≤ k) (h1:k < xs.length):atI (xs.map V.int) k = some (.int (nth xs k)):=by
 have hk:k.toNat < xs.length:=by omega
 have e:atI (xs.map V.int) ((k.toNat:Nat):Int) = some (.int xs[k.toNat]):=jcr (by rw [List.getElem?_map,List.getElem?_eq_getElem hk]; rfl)
 rw [show ((k.toNat:Nat):Int) = k by omega] at e
 rw [e]
 unfold nth
 rw [List.getElem?_eq_getElem hk]
 rfl
theorem jkw {n:Nat} {k:Int} (h0:0 ≤ k) (h1:k < n):ixN n k = some k.toNat:=by
 unfold ixN
 rw [if_pos h0,if_pos h1]
theorem jjq {xs:List Int} {k i v:Int} (h0:0 ≤ k) (h1:k < xs.length) (hi:0 ≤ i):nth (xs.set k.toNat v) i = if k = i then v else nth xs i:=by
 unfold nth
 rw [List.getElem?_set]
 by_cases c:k = i
 ·subst c
  have:k.toNat < xs.length:=by omega
  simp [this]
 ·have:¬ k.toNat = i.toNat:=by omega
  rw [if_neg this,if_neg c]
def sumN (n:Nat) (g:Int→Int):Int:=((List.range n).map fun (k:Nat)=>g (k:Int)).sum
theorem jbh (n:Nat) (g:Int→Int):sumN (n + 1) g = sumN n g + g (n:Int):=by
 unfold sumN
 rw [List.range_succ,List.map_append,List.sum_append]
 simp
theorem jgz (g h:Int→Int):∀ n:Nat,sumN n (fun k=>g k + h k) = sumN n g + sumN n h
 | 0=>rfl
 | n + 1=>by
  rw [jbh,jbh,jbh,jgz g h n]
  omega
theorem jf2 (g:Int→Int) (a:Int):∀ n:Nat,sumN n (fun k=>g k * a) = sumN n g * a
 | 0=>by simp [sumN]
 | n + 1=>by
  rw [jbh,jbh,jf2 g a n,Int.add_mul]
theorem jcs {g h:Int→Int}:∀ {n:Nat},(∀ k:Int,0 ≤ k→k < n→g k = h k)→sumN n g = sumN n h
 | 0,_=>rfl
 | n + 1,e=>by
  rw [jbh,jbh,jcs (n:=n) (fun k k0 k1=>e k k0 (by omega)),e n (by omega) (by omega)]
theorem ji7 {g:Int→Int} {i d:Int}:∀ {n:Nat},¬ (0 ≤ i∧i < n)→sumN n (fun k=>g k * (if i = k then d else 0)) = 0
 | 0,_=>rfl
 | n + 1,h=>by
  rw [jbh,ji7 (n:=n) (fun z=>h (by omega)),if_neg (fun z=>h (by omega))]
  simp
theorem jgy {g:Int→Int} {i d:Int}:∀ {n:Nat},0 ≤ i→i < n→sumN n (fun k=>g k * (if i = k then d else 0)) = g i * d
 | 0,h0,h1=>by omega
 | n + 1,h0,h1=>by
  rw [jbh]
  by_cases c:i = (n:Int)
  ·rw [if_pos c,ji7 (by omega),c]
   simp
  ·rw [if_neg c,jgy (n:=n) h0 (by omega)]
   simp
theorem jkb {h:Int→Int} {n:Nat}:∀ {raw:List (Int × Int × Int)},(∀ r ∈ raw,0 ≤ r.1∧r.1 < r.2.1∧r.2.1 < n)→sumN n (fun k=>h k * jal raw k) = (raw.map fun r=>(h r.1 + h r.2.1) * r.2.2).sum
 | [],_=>by
  have:sumN n (fun k=>h k * jal [] k) = sumN n fun _=>0 * 0:=jcs fun k _ _=>by simp [jal]
  rw [this,jf2]
  simp
 | r :: raw,hx=>by
  have hr:=hx r (List.mem_cons_self ..)
  have ih:=jkb (h:=h) (raw:=raw) (fun q hq=>hx q (List.mem_cons_of_mem _ hq))
  have e:sumN n (fun k=>h k * jal (r :: raw) k) = sumN n fun k=>(h k * (if r.1 = k then r.2.2 else 0) + h k * (if r.2.1 = k then r.2.2 else 0)) + h k * jal raw k:=jcs fun k _ _=>by
   unfold jal
   rw [List.map_cons,List.sum_cons,Int.mul_add,Int.mul_add]
  rw [e,jgz,jgz,jgy hr.1 (by omega),jgy (by omega) hr.2.2,ih,List.map_cons,List.sum_cons,Int.add_mul]
theorem jgh (g:Int→Int):∀ n:Nat,sumN (n + 1) g = g 0 + sumN n fun k=>g (k + 1)
 | 0=>by simp [sumN]
 | n + 1=>by
  rw [jbh,jgh g n,jbh]
  simp only [Int.natCast_add]
  rw [Int.add_assoc]
  rfl
theorem jda (c:Int) (cs:List Int):nth (c :: cs) 0 = c:=rfl
theorem jby (c:Int) (cs:List Int) {k:Int} (h:0 ≤ k):nth (c :: cs) (k + 1) = nth cs k:=by
 unfold nth
 rw [show (k + 1).toNat = k.toNat + 1 by omega,List.getElem?_cons_succ]
theorem jlt:∀ {cs hs:List Int},cs.length = hs.length→((cs.zip hs).map fun q=>q.1 * q.2).sum = sumN cs.length fun k=>nth cs k * nth hs k
 | [],[],_=>rfl
 | c :: cs,h :: hs,e=>by
  have ih:=jlt (cs:=cs) (hs:=hs) (by simpa using e)
  rw [List.zip_cons_cons,List.map_cons,List.sum_cons,ih,List.length_cons,jgh,jda,jda]
  rw [jcs (n:=cs.length) (g:=fun k=>nth (c :: cs) (k + 1) * nth (h :: hs) (k + 1)) (h:=fun k=>nth cs k * nth hs k) fun k k0 _=>by rw [jby _ _ k0,jby _ _ k0]]
theorem jo2 {hs cs:List Int} {raw:List (Int × Int × Int)} {tw:Int} (hl:cs.length = hs.length) (ix:∀ r ∈ raw,0 ≤ r.1∧r.1 < r.2.1∧r.2.1 < hs.length) (due:∀ r ∈ raw,r.2.2 = 0 ∨ nth hs r.1 + nth hs r.2.1 = 2)
  (pr:∀ k:Int,0 ≤ k→k < hs.length→nth hs k = 0 ∨ 2 * nth cs k = jal raw k * tw):((cs.zip hs).map fun q=>q.1 * q.2).sum = (raw.map fun r=>r.2.2 * tw).sum:=by
 rw [jlt hl,hl]
 have e1:sumN hs.length (fun k=>nth cs k * nth hs k * 2) = sumN hs.length fun k=>nth hs k * jal raw k * tw:=jcs fun k k0 k1=>by
  rcases pr k k0 k1 with z | z
  ·rw [z]; simp
  ·rw [Int.mul_assoc (nth hs k),← z,Int.mul_comm (nth cs k),Int.mul_assoc,Int.mul_comm (nth cs k) 2]
 rw [jf2,jf2,jkb ix] at e1
 have e2:∀ {raw:List (Int × Int × Int)},(∀ r ∈ raw,r.2.2 = 0 ∨ nth hs r.1 + nth hs r.2.1 = 2)→(raw.map fun r=>(nth hs r.1 + nth hs r.2.1) * r.2.2).sum * tw = (raw.map fun r=>r.2.2 * tw).sum * 2:=by
  intro raw
  induction raw with
  | nil=>intro _; simp
  | cons r raw ih =>
   intro hd
   have i:=ih fun q hq=>hd q (List.mem_cons_of_mem _ hq)
   rw [List.map_cons,List.sum_cons,List.map_cons,List.sum_cons]
   have e3:(nth hs r.1 + nth hs r.2.1) * r.2.2 * tw = r.2.2 * tw * 2:=by
    rcases hd r (List.mem_cons_self ..) with z | z
    ·rw [z]; simp
    ·rw [z,Int.mul_assoc,Int.mul_comm]
   rw [Int.add_mul ((nth hs r.1 + nth hs r.2.1) * r.2.2),e3,i,← Int.add_mul]
 rw [e2 due] at e1
 omega
end
end My
namespace My
open PySem L2
section
variable {P:Program} {w:World} {K:PySem.W.Frag} {mg:Str→Option Value} {base:Heap} {c1 c2 c3 c4:Tok} {C_NoWeb f_NoWeb:Addr} {dI:FuncData}
theorem jjr {ns:List Int} (hp:ns.Pairwise (· < ·)) {k j:Int} (k0:0 ≤ k) (k1:k < ns.length) (j0:0 ≤ j) (j1:j < ns.length) (e:nth ns k = nth ns j):k = j:=by
 have a1:k.toNat < ns.length:=by omega
 have a2:j.toNat < ns.length:=by omega
 unfold nth at e
 rw [List.getElem?_eq_getElem a1,List.getElem?_eq_getElem a2] at e
 have e':ns[k.toNat] = ns[j.toNat]:=e
 rcases Nat.lt_trichotomy k.toNat j.toNat with z | z | z
 ·have:=List.pairwise_iff_getElem.mp hp _ _ a1 a2 z
  omega
 ·omega
 ·have:=List.pairwise_iff_getElem.mp hp _ _ a2 a1 z
  omega
theorem jd3 {hs:List Int} {k:Int} (h0:0 ≤ k) (h1:k < hs.length):nth hs k ∈ hs:=by
 have a:k.toNat < hs.length:=by omega
 unfold nth
 rw [List.getElem?_eq_getElem a]
 exact List.getElem_mem a
def jb4 (ns:List Int) (tw:Int) (raw:List (Int × Int × Int)):List (Int × Int × Int):=(raw.filter fun r=>decide (r.2.2 > 0)).map fun r=>(nth ns r.1,nth ns r.2.1,r.2.2 * tw)
theorem jil {ns:List Int} (hp:ns.Pairwise (· < ·)) {tw:Int} {i:Int} (i0:0 ≤ i) (i1:i < ns.length):∀ {raw:List (Int × Int × Int)},(∀ r ∈ raw,0 ≤ r.1∧r.1 < r.2.1∧r.2.1 < ns.length)→(∀ r ∈ raw,0 ≤ r.2.2)→jal (jb4 ns tw raw) (nth ns i) = jal raw i * tw
 | [],_,_=>by simp [jb4,jal,jal]
 | r :: raw,hx,hz=>by
  have ih:=jil hp (tw:=tw) i0 i1 (raw:=raw) (fun q hq=>hx q (List.mem_cons_of_mem _ hq)) (fun q hq=>hz q (List.mem_cons_of_mem _ hq))
  have hr:=hx r (List.mem_cons_self ..)
  have hr0:=hz r (List.mem_cons_self ..)
  have c1:(nth ns r.1 = nth ns i) = (r.1 = i):=propext ⟨fun e=>jjr hp hr.1 (by omega) i0 i1 e,fun e=>by rw [e]⟩
  have c2:(nth ns r.2.1 = nth ns i) = (r.2.1 = i):=propext ⟨fun e=>jjr hp (by omega) hr.2.2 i0 i1 e,fun e=>by rw [e]⟩
  have e1:jal (r :: raw) i = (if r.1 = i then r.2.2 else 0) + (if r.2.1 = i then r.2.2 else 0) + jal raw i:=by
   unfold jal
   rw [List.map_cons,List.sum_cons]
  by_cases c:r.2.2 > 0
  ·have e2:jb4 ns tw (r :: raw) = (nth ns r.1,nth ns r.2.1,r.2.2 * tw) :: jb4 ns tw raw:=by
    unfold jb4
    rw [List.filter_cons,if_pos (decide_eq_true c),List.map_cons]
   rw [e2,e1]
   unfold jal at ih ⊢
   rw [List.map_cons,List.sum_cons,ih]
   simp only [c1,c2]
   rw [Int.add_mul,Int.add_mul]
   split <;> split <;> simp
  ·have e2:jb4 ns tw (r :: raw) = jb4 ns tw raw:=by
    unfold jb4
    rw [List.filter_cons,if_neg (by simpa using c)]
   have r0:r.2.2 = 0:=by omega
   rw [e2,ih,e1,r0]
   simp
theorem jn5 {ns:List Int} (hp:ns.Pairwise (· < ·)) {k j:Int} (k0:0 ≤ k) (kj:k < j) (j1:j < ns.length):nth ns k < nth ns j:=by
 have a1:k.toNat < ns.length:=by omega
 have a2:j.toNat < ns.length:=by omega
 unfold nth
 rw [List.getElem?_eq_getElem a1,List.getElem?_eq_getElem a2]
 exact List.pairwise_iff_getElem.mp hp _ _ a1 a2 (by omega)
abbrev Lx (a b:Int × Int):Prop:=HT.lexLt [a.1,a.2] [b.1,b.2] = true
theorem jq6 {ns:List Int} (hp:ns.Pairwise (· < ·)) {a b:Int × Int} (a0:0 ≤ a.1∧a.1 < a.2∧a.2 < ns.length) (b0:0 ≤ b.1∧b.1 < b.2∧b.2 < ns.length) (h:Lx a b):Lx (nth ns a.1,nth ns a.2) (nth ns b.1,nth ns b.2):=by
 rcases jf8 h with z | ⟨z1,z2⟩
 ·exact jir (jn5 hp a0.1 z (by omega))
 ·unfold Lx
  dsimp only
  rw [z1]
  exact jna (jn5 hp (by omega) z2 b0.2.2)
theorem leL_no {a b:Int × Int} (h:Lx a b):leL [b.1,b.2] [a.1,a.2] = false:=by
 rcases jf8 h with z | ⟨z1,z2⟩
 ·rw [jku,if_neg (by omega)]
  exact decide_eq_false (by omega)
 ·rw [jku,if_pos z1.symm,jku,if_neg (by omega)]
  exact decide_eq_false (by omega)
theorem jm0 {kvs:List (Key × V)}:∀ {ts:List (Int × Int)} {q:Int × Int},ts.Pairwise Lx→(∀ t ∈ ts,Lx q t)→(∀ t ∈ ts,t.1 < t.2∧hasK kvs t.1 = true∧hasK kvs t.2 = true)→TiOk kvs q ts
 | [],_,_,_,_=>trivial
 | t :: r,q,h1,h2,h3=>by
  rw [List.pairwise_cons] at h1
  exact ⟨⟨h2 t (List.mem_cons_self ..),h3 t (List.mem_cons_self ..)⟩,jm0 h1.2 h1.1 fun x hx=>h3 x (List.mem_cons_of_mem _ hx)⟩
theorem jl1 {ts:List (Int × Int)}:∀ {ds:List (Int × Int × Int)} {q:Int × Int},ds.Pairwise (fun a b=>Lx (a.1,a.2.1) (b.1,b.2.1))→(∀ d ∈ ds,Lx q (d.1,d.2.1))→(∀ d ∈ ds,(d.1,d.2.1) ∈ ts∧1 ≤ d.2.2)→jbz ts q (ds.map jc2) = some ds
 | [],_,_,_,_=>rfl
 | d :: r,q,h1,h2,h3=>by
  rw [List.pairwise_cons] at h1
  have hd:=h3 d (List.mem_cons_self ..)
  rw [List.map_cons,jbz,show dueO (jc2 d) = if 1 ≤ d.2.2 then some d else none from rfl,if_pos hd.2]
  dsimp only
  rw [if_pos ⟨hd.1,leL_no (a:=q) (b:=(d.1,d.2.1)) (h2 d (List.mem_cons_self ..))⟩,jl1 h1.2 h1.1 fun x hx=>h3 x (List.mem_cons_of_mem _ hx)]
  rfl
theorem jkc {ns:List Int} {tw:Int}:∀ {raw:List (Int × Int × Int)},(∀ r ∈ raw,0 ≤ r.2.2)→((jb4 ns tw raw).map (·.2.2)).sum = (raw.map fun r=>r.2.2 * tw).sum
 | [],_=>rfl
 | r :: raw,h=>by
  have ih:=jkc (ns:=ns) (tw:=tw) (raw:=raw) fun q hq=>h q (List.mem_cons_of_mem _ hq)
  have h0:=h r (List.mem_cons_self ..)
  unfold jb4 at ih ⊢
  rw [List.filter_cons,List.map_cons,List.sum_cons]
  by_cases c:r.2.2 > 0
  ·rw [if_pos (decide_eq_true c),List.map_cons,List.map_cons,List.sum_cons,ih]
  ·rw [if_neg (by simpa using c),ih,show r.2.2 = 0 by omega]
   simp
end
end My
namespace My
open PySem L2
section
variable {P:Program} {w:World} {K:PySem.W.Frag} {mg:Str→Option Value} {base:Heap} {c1 c2 c3 c4:Tok} {C_NoWeb f_NoWeb:Addr} {dI:FuncData}
theorem jg1:∀ {ns cs:List Int} {p:Int × Int},ns.length = cs.length→p ∈ jbg ns cs→∃ k:Int,0 ≤ k∧k < cs.length∧p = (nth ns k,nth cs k)∧0 < nth cs k
 | [],[],p,_,h=>by cases h
 | n :: ns,c :: cs,p,e,h=>by
  have sub:p ∈ jbg ns cs→∃ k:Int,0 ≤ k∧k < (c :: cs).length∧p = (nth (n :: ns) k,nth (c :: cs) k)∧0 < nth (c :: cs) k:=fun hp=>by
   obtain ⟨k,k0,k1,e1,e2⟩:=jg1 (by simpa using e) hp
   exact ⟨k + 1,by omega,by rw [List.length_cons]; omega,by rw [jby _ _ k0,jby _ _ k0]; exact e1,by rw [jby _ _ k0]; exact e2⟩
  rw [jbg] at h
  split at h
  ·rename_i c0
   rcases List.mem_cons.mp h with z | z
   ·exact ⟨0,by omega,by rw [List.length_cons]; omega,by rw [jda,jda]; exact z,by rw [jda]; exact c0⟩
   ·exact sub z
  ·exact sub h
theorem jhj:∀ {ns cs:List Int},ns.length = cs.length→∀ {k:Nat},k < cs.length→0 < nth cs k→(nth ns k,nth cs k) ∈ jbg ns cs
 | [],[],_,k,h,_=>by cases h
 | n :: ns,c :: cs,e,0,_,h=>by
  have h:0 < c:=h
  rw [jbg,if_pos h]
  exact List.mem_cons_self ..
 | n :: ns,c :: cs,e,k + 1,h1,h2=>by
  have k0:(0:Int) ≤ (k:Int):=by omega
  have e1:((k + 1:Nat):Int) = (k:Int) + 1:=by omega
  rw [e1,jby _ _ k0] at h2
  rw [e1,jby _ _ k0,jby _ _ k0]
  have ih:=jhj (ns:=ns) (cs:=cs) (by simpa using e) (k:=k) (by simpa using h1) h2
  rw [jbg]
  split
  ·exact List.mem_cons_of_mem _ ih
  ·exact ih
theorem jkv:∀ {ns cs hs:List Int},ns.length = cs.length→ns.length = hs.length→∀ {k:Nat},k < cs.length→0 < nth cs k→(nth ns k,nth hs k) ∈ jb1 ns cs hs
 | [],[],[],_,_,k,h,_=>by cases h
 | n :: ns,c :: cs,g :: hs,e,_,0,_,h=>by
  have h:0 < c:=h
  rw [jb1,if_pos h]
  exact List.mem_cons_self ..
 | n :: ns,c :: cs,g :: hs,e,f,k + 1,h1,h2=>by
  have k0:(0:Int) ≤ (k:Int):=by omega
  have e1:((k + 1:Nat):Int) = (k:Int) + 1:=by omega
  rw [e1,jby _ _ k0] at h2
  rw [e1,jby _ _ k0,jby _ _ k0]
  have ih:=jkv (ns:=ns) (cs:=cs) (hs:=hs) (by simpa using e) (by simpa using f) (k:=k) (by simpa using h1) h2
  rw [jb1]
  split
  ·exact List.mem_cons_of_mem _ ih
  ·exact ih
theorem jfz:∀ {ns cs:List Int} {l s:Int},ns.length = cs.length→ns.Pairwise (· < ·)→(∀ n ∈ ns,l < n∧n ≤ 999)→(∀ c ∈ cs,0 ≤ c)→s + cs.sum ≤ 1000000000000→PlOk l s (jbg ns cs)
 | [],[],_,_,_,_,_,_,_=>trivial
 | n :: ns,c :: cs,l,s,e,hp,hn,hc,hs=>by
  rw [List.pairwise_cons] at hp
  have h0:=hn n (List.mem_cons_self ..)
  have h1:=hc c (List.mem_cons_self ..)
  have hc':∀ c ∈ cs,0 ≤ c:=fun x hx=>hc x (List.mem_cons_of_mem _ hx)
  rw [List.sum_cons] at hs
  have pos:∀ {xs:List Int},(∀ c ∈ xs,0 ≤ c)→0 ≤ xs.sum:=by
   intro xs
   induction xs with
   | nil=>intro _; exact Int.le_refl _
   | cons a r ih =>
    intro h
    have:=ih fun x hx=>h x (List.mem_cons_of_mem _ hx)
    have:=h a (List.mem_cons_self ..)
    rw [List.sum_cons]; omega
  have p0:=pos hc'
  rw [jbg]
  split
  ·rename_i c0
   exact ⟨⟨h0.1,h0.2,by show 1 ≤ c; omega,by show c ≤ 1000000000000 - s; omega⟩,jfz (by simpa using e) hp.2 (fun x hx=>⟨hp.1 x hx,(hn x (List.mem_cons_of_mem _ hx)).2⟩) hc' (by show s + c + _ ≤ _; omega)⟩
  ·exact jfz (by simpa using e) hp.2 (fun x hx=>hn x (List.mem_cons_of_mem _ hx)) hc' (by omega)
def jc5 (ns cs:List Int) (raw:List (Int × Int × Int)):List (Int × Int):=(raw.filter fun r=>decide (0 < nth cs r.1) && decide (0 < nth cs r.2.1)).map fun r=>(nth ns r.1,nth ns r.2.1)
structure Laid (hs ns cs:List Int) (raw:List (Int × Int × Int)) (tw:Int):Prop where
 nl:ns.length = hs.length
 cl:cs.length = hs.length
 hl:hs.length ≤ 9
 hb:∀ h ∈ hs,0 ≤ h∧h ≤ 2
 rise:ns.Pairwise (· < ·)
 nb:∀ n ∈ ns,-1 < n∧n ≤ 999
 ix:∀ r ∈ raw,0 ≤ r.1∧r.1 < r.2.1∧r.2.1 < hs.length
 len:raw.length ≤ 81
 up:raw.Pairwise fun a b=>Lx (a.1,a.2.1) (b.1,b.2.1)
 pos:∀ r ∈ raw,0 ≤ r.2.2
 two:∀ r ∈ raw,2 ≤ nth hs r.1 + nth hs r.2.1
 due:∀ r ∈ raw,0 < r.2.2→nth hs r.1 + nth hs r.2.1 = 2
 tw1:1 ≤ tw
 even:∀ k:Int,0 ≤ k→k < hs.length→0 < nth hs k→(jal raw k * tw) % 2 = 0
 some':∀ k:Int,0 ≤ k→k < hs.length→¬ nth hs k = 0→nth cs k = jal raw k * tw / 2
 none':∀ k:Int,0 ≤ k→k < hs.length→nth hs k = 0→1 ≤ nth cs k∧jal raw k * tw ≤ 2 * nth cs k
 cpos:∀ c ∈ cs,0 ≤ c
 cap:cs.sum ≤ 1000000000000
end
end My
namespace My
open PySem L2
section
variable {P:Program} {w:World} {K:PySem.W.Frag} {mg:Str→Option Value} {base:Heap} {c1 c2 c3 c4:Tok} {C_NoWeb f_NoWeb:Addr} {dI:FuncData}
theorem jmu {raw:List (Int × Int × Int)} (h:∀ r ∈ raw,0 ≤ r.2.2) (k:Int):0 ≤ jal raw k:=by
 induction raw with
 | nil=>exact Int.le_refl _
 | cons a t ih =>
  have i:=ih fun x hx=>h x (List.mem_cons_of_mem _ hx)
  have h0:=h a (List.mem_cons_self ..)
  unfold jal at i ⊢
  rw [List.map_cons,List.sum_cons]
  split <;> split <;> omega
theorem jmv {raw:List (Int × Int × Int)} (h:∀ r ∈ raw,0 ≤ r.2.2) {r:Int × Int × Int} (hr:r ∈ raw) {k:Int} (hk:r.1 = k ∨ r.2.1 = k):r.2.2 ≤ jal raw k:=by
 induction raw with
 | nil=>cases hr
 | cons a t ih =>
  have h0:=h a (List.mem_cons_self ..)
  have ht:∀ r ∈ t,0 ≤ r.2.2:=fun x hx=>h x (List.mem_cons_of_mem _ hx)
  have nn:=jmu ht k
  have e:jal (a :: t) k = (if a.1 = k then a.2.2 else 0) + (if a.2.1 = k then a.2.2 else 0) + jal t k:=by
   unfold jal
   rw [List.map_cons,List.sum_cons]
  rw [e]
  rcases List.mem_cons.mp hr with z | z
  ·subst z
   rcases hk with q | q
   ·rw [if_pos q]; split <;> omega
   ·rw [if_pos q]; split <;> omega
  ·have i:=ih ht z
   split <;> split <;> omega
section
variable {hs ns cs:List Int} {raw:List (Int × Int × Int)} {tw:Int}
theorem Laid.plok (L:Laid hs ns cs raw tw):PlOk (-1) 0 (jbg ns cs):=jfz (by rw [L.nl,L.cl]) L.rise L.nb L.cpos (by have:=L.cap; omega)
theorem Laid.kin (L:Laid hs ns cs raw tw) {k:Int} (k0:0 ≤ k) (k1:k < hs.length) (hc:0 < nth cs k):(nth ns k,nth cs k) ∈ jbg ns cs:=by
 have e:((k.toNat:Nat):Int) = k:=by omega
 have:=jhj (ns:=ns) (cs:=cs) (by rw [L.nl,L.cl]) (k:=k.toNat) (by rw [L.cl]; omega) (by rw [e]; exact hc)
 rw [e] at this
 exact this
theorem Laid.web (L:Laid hs ns cs raw tw):WebOk (jbg ns cs) (jc5 ns cs raw):=by
 have hl:=L.hl
 have nl:=L.nl
 refine ⟨?_,L.plok,?_,?_⟩
 ·have:=(je7 (ns:=ns) (cs:=cs)).length_le
  rw [List.length_map] at this
  omega
 ·unfold jc5
  rw [List.length_map]
  have:=List.length_filter_le (fun r:Int × Int × Int=>decide (0 < nth cs r.1) && decide (0 < nth cs r.2.1)) raw
  have:=L.len
  omega
 ·unfold jc5
  refine jm0 ?_ ?_ ?_
  ·rw [List.pairwise_map]
   refine (L.up.filter _).imp_of_mem fun {a b} ha hb h=>?_
   have i1:=L.ix a (List.mem_filter.mp ha).1
   have i2:=L.ix b (List.mem_filter.mp hb).1
   exact jq6 L.rise (a:=(a.1,a.2.1)) (b:=(b.1,b.2.1)) ⟨i1.1,i1.2.1,by show a.2.1 < _; omega⟩ ⟨i2.1,i2.2.1,by show b.2.1 < _; omega⟩ h
  ·intro t ht
   obtain ⟨r,hr,rfl⟩:=List.mem_map.mp ht
   have i1:=L.ix r (List.mem_filter.mp hr).1
   exact jir (L.nb _ (jd3 i1.1 (by omega))).1
  ·intro t ht
   obtain ⟨r,hr,rfl⟩:=List.mem_map.mp ht
   obtain ⟨hr1,hr2⟩:=List.mem_filter.mp hr
   have i1:=L.ix r hr1
   have c:=(Bool.and_eq_true _ _).mp hr2
   exact ⟨jn5 L.rise i1.1 i1.2.1 (by omega),jnn (p:=(nth ns r.1,nth cs r.1)) L.plok.nodup (L.kin i1.1 (by omega) (of_decide_eq_true c.1)),jnn (p:=(nth ns r.2.1,nth cs r.2.1)) L.plok.nodup (L.kin (by omega) i1.2.2 (of_decide_eq_true c.2))⟩
theorem Laid.cpos' (L:Laid hs ns cs raw tw) {r:Int × Int × Int} (hr:r ∈ raw) (h0:0 < r.2.2) {k:Int} (hk:r.1 = k ∨ r.2.1 = k):0 < nth cs k:=by
 have i1:=L.ix r hr
 have g:=jmv L.pos hr hk
 have kr:0 ≤ k∧k < hs.length:=by rcases hk with z | z <;> omega
 by_cases c:nth hs k = 0
 ·have:=(L.none' k kr.1 kr.2 c).1
  omega
 ·have hb:=L.hb _ (jd3 kr.1 kr.2)
  have e:=L.even k kr.1 kr.2 (by omega)
  rw [L.some' k kr.1 kr.2 c]
  have:0 < jal raw k * tw:=Int.mul_pos (by omega) (by have:=L.tw1; omega)
  omega
theorem Laid.half (L:Laid hs ns cs raw tw) {k:Int} (k0:0 ≤ k) (k1:k < hs.length) (hc:0 < nth cs k):hOf (jb1 ns cs hs) (nth ns k) = nth hs k:=by
 have ho:=je6 (ns:=ns) (cs:=cs) (hs:=hs) (by rw [L.nl,L.cl]) L.nl L.hb
 have nd:((jb1 ns cs hs).map (·.1)).Nodup:=by rw [(jcy ho).2.1]; exact L.plok.nodup
 have e:((k.toNat:Nat):Int) = k:=by omega
 have:=jkv (ns:=ns) (cs:=cs) (hs:=hs) (by rw [L.nl,L.cl]) L.nl (k:=k.toNat) (by rw [L.cl]; omega) (by rw [e]; exact hc)
 rw [e] at this
 exact jno nd this
theorem Laid.stands (L:Laid hs ns cs raw tw):jcw (jbg ns cs) (jc5 ns cs raw) (.tup [.lst ((jb1 ns cs hs).map jbf),.lst ((jb4 ns tw raw).map jc2)]) = true:=by
 have hl:=L.hl
 have nl:=L.nl
 have ho:=je6 (ns:=ns) (cs:=cs) (hs:=hs) (by rw [L.nl,L.cl]) L.nl L.hb
 have hix:∀ r ∈ raw,0 ≤ r.1∧r.1 < r.2.1∧r.2.1 < ns.length:=fun r hr=>by have:=L.ix r hr; omega
 have qo:jbz (jc5 ns cs raw) (-1,-1) ((jb4 ns tw raw).map jc2) = some (jb4 ns tw raw):=by
  unfold jb4
  refine jl1 ?_ ?_ ?_
  ·rw [List.pairwise_map]
   refine (L.up.filter _).imp_of_mem fun {a b} ha hb h=>?_
   exact jq6 L.rise (a:=(a.1,a.2.1)) (b:=(b.1,b.2.1)) (hix a (List.mem_filter.mp ha).1) (hix b (List.mem_filter.mp hb).1) h
  ·intro t ht
   obtain ⟨r,hr,rfl⟩:=List.mem_map.mp ht
   have i1:=hix r (List.mem_filter.mp hr).1
   exact jir (L.nb _ (jd3 i1.1 (by omega))).1
  ·intro t ht
   obtain ⟨r,hr,rfl⟩:=List.mem_map.mp ht
   obtain ⟨hr1,hr2⟩:=List.mem_filter.mp hr
   have h0:0 < r.2.2:=of_decide_eq_true hr2
   refine ⟨?_,?_⟩
   ·unfold jc5
    refine List.mem_map.mpr ⟨r,List.mem_filter.mpr ⟨hr1,?_⟩,rfl⟩
    rw [decide_eq_true (L.cpos' hr1 h0 (.inl rfl)),decide_eq_true (L.cpos' hr1 h0 (.inr rfl))]
    rfl
   ·have:0 < r.2.2 * tw:=Int.mul_pos h0 (by have:=L.tw1; omega)
    show 1 ≤ r.2.2 * tw
    omega
 rw [jei]
 unfold pap2
 dsimp only
 rw [ho,qo]
 dsimp only
 have e1:jfd (jc5 ns cs raw) (jb1 ns cs hs) = true:=by
  unfold jfd jc5
  refine List.all_eq_true.mpr fun t ht=>decide_eq_true ?_
  obtain ⟨r,hr,rfl⟩:=List.mem_map.mp ht
  obtain ⟨hr1,hr2⟩:=List.mem_filter.mp hr
  have i1:=L.ix r hr1
  have c:=(Bool.and_eq_true _ _).mp hr2
  dsimp only
  rw [L.half i1.1 (by omega) (of_decide_eq_true c.1),L.half (by omega) i1.2.2 (of_decide_eq_true c.2)]
  exact L.two r hr1
 have e2:jfo (jbg ns cs) (jb4 ns tw raw) = true:=by
  unfold jfo
  refine List.all_eq_true.mpr fun p hp=>decide_eq_true ?_
  obtain ⟨k,k0,k1,rfl,_⟩:=jg1 (by rw [L.nl,L.cl]) hp
  have k2:k < hs.length:=by rw [← L.cl]; exact k1
  dsimp only
  rw [jil L.rise k0 (by omega) hix L.pos]
  by_cases c:nth hs k = 0
  ·exact (L.none' k k0 k2 c).2
  ·have hb:=L.hb _ (jd3 k0 k2)
   have e:=L.even k k0 k2 (by omega)
   rw [L.some' k k0 k2 c]
   omega
 have e3:((jb4 ns tw raw).map (·.2.2)).sum = jlo (jbg ns cs) (jb1 ns cs hs):=by
  unfold jlo
  rw [jg0 (f:=hOf (jbg ns cs)) (by rw [L.nl,L.cl]) L.nl L.cpos (fun p hp=>jno L.plok.nodup hp),jkc L.pos]
  refine (jo2 L.cl L.ix (fun r hr=>?_) fun k k0 k1=>?_).symm
  ·by_cases c:r.2.2 = 0
   ·exact .inl c
   ·exact .inr (L.due r hr (by have:=L.pos r hr; omega))
  ·by_cases c:nth hs k = 0
   ·exact .inl c
   ·have hb:=L.hb _ (jd3 k0 k1)
    have e:=L.even k k0 k1 (by omega)
    refine .inr ?_
    rw [L.some' k k0 k1 c]
    omega
 rw [e1,e2,decide_eq_true e3]
 rfl
end
end
end My
namespace My
open PySem L2
section
variable {P:Program} {w:World} {K:PySem.W.Frag} {mg:Str→Option Value} {base:Heap} {c1 c2 c3 c4:Tok} {C_NoWeb f_NoWeb:Addr} {dI:FuncData}
theorem jlg (ds:List (Int × Int × Int)) (d:Int × Int × Int) (p:Int):jal (ds ++ [d]) p = jal ds p + (if d.1 = p then d.2.2 else 0) + (if d.2.1 = p then d.2.2 else 0):=by
 unfold jal
 rw [List.map_append,List.sum_append]
 simp
 omega
structure RawOk (hs:List Int) (raw:List (Int × Int × Int)):Prop where
 ix:∀ r ∈ raw,0 ≤ r.1∧r.1 < r.2.1∧r.2.1 < hs.length
 pos:∀ r ∈ raw,0 ≤ r.2.2
 top:∀ r ∈ raw,r.2.2 ≤ 1000000000
 two:∀ r ∈ raw,2 ≤ nth hs r.1 + nth hs r.2.1
 due:∀ r ∈ raw,0 < r.2.2→nth hs r.1 + nth hs r.2.1 = 2
 up:raw.Pairwise fun a b=>Lx (a.1,a.2.1) (b.1,b.2.1)
 len:raw.length ≤ 81
 hl:hs.length ≤ 9
 hb:∀ h ∈ hs,0 ≤ h∧h ≤ 2
theorem jqt {raw:List (Int × Int × Int)} (h:∀ r ∈ raw,r.1 < r.2.1∧0 ≤ r.2.2∧r.2.2 ≤ 1000000000) (k:Int):jal raw k ≤ 1000000000 * raw.length:=by
 induction raw with
 | nil=>exact Int.le_refl _
 | cons a t ih =>
  have i:=ih fun x hx=>h x (List.mem_cons_of_mem _ hx)
  have h0:=h a (List.mem_cons_self ..)
  unfold jal at i ⊢
  rw [List.map_cons,List.sum_cons,List.length_cons]
  split <;> split <;> omega
theorem RawOk.ple {hs:List Int} {raw:List (Int × Int × Int)} (R:RawOk hs raw) (k:Int):0 ≤ jal raw k∧jal raw k ≤ 81000000000:=by
 have a:=jqt (raw:=raw) (fun r hr=>⟨(R.ix r hr).2.1,R.pos r hr,R.top r hr⟩) k
 have b:=R.len
 exact ⟨jmu R.pos k,by omega⟩
theorem jpj (ns:List Int) (tw:Int) (raw:List (Int × Int × Int)):(jb4 ns tw raw).length ≤ raw.length:=by
 unfold jb4
 rw [List.length_map]
 exact List.length_filter_le _ _
theorem jnr {ns:List Int} {tw:Int} {raw:List (Int × Int × Int)} {i:Nat} {r:Int × Int × Int} (h:raw[i]? = some r):jb4 ns tw (raw.take (i + 1)) = jb4 ns tw (raw.take i) ++ if decide (r.2.2 > 0) = true then [(nth ns r.1,nth ns r.2.1,r.2.2 * tw)] else []:=by
 unfold jb4
 rw [jau h,List.filter_append,List.map_append]
 congr 1
 rw [List.filter_cons]
 split <;> simp
theorem jp0 {xs:List Int} {n k:Int} (h0:0 ≤ k) (h1:k < xs.length):nth (xs ++ [n]) k = nth xs k:=by
 unfold nth
 rw [List.getElem?_append_left (by omega)]
theorem jp1 {xs:List Int} {n:Int}:nth (xs ++ [n]) xs.length = n:=by
 unfold nth
 simp
def jcx (hs:List Int) (raw:List (Int × Int × Int)) (i:Nat):List Int:=((List.range i).filter fun (k:Nat)=>decide (nth hs (k:Int) > 0)).map fun (k:Nat)=>jal raw (k:Int) % 2
theorem jn3 (hs:List Int) (raw:List (Int × Int × Int)) (i:Nat):jcx hs raw (i + 1) = jcx hs raw i ++ if decide (nth hs i > 0) = true then [jal raw i % 2] else []:=by
 unfold jcx
 rw [List.range_succ,List.filter_append,List.map_append]
 congr 1
 rw [List.filter_cons]
 split <;> simp
theorem joy (hs:List Int) (raw:List (Int × Int × Int)) (i:Nat):(jcx hs raw i).length ≤ i:=by
 unfold jcx
 rw [List.length_map]
 exact Nat.le_trans (List.length_filter_le _ _) (by rw [List.length_range]; exact Nat.le_refl _)
theorem jn4 {hs:List Int} {raw:List (Int × Int × Int)} {m:Int} (h1:jcx hs raw hs.length = []→m = 0) (h2:jcx hs raw hs.length ≠ []→m ∈ jcx hs raw hs.length) (h3:∀ x ∈ jcx hs raw hs.length,x ≤ m) :
  (0 ≤ m∧m ≤ 1)∧∀ k:Int,0 ≤ k→k < hs.length→0 < nth hs k→(jal raw k * (1 + m)) % 2 = 0:=by
 have hb:0 ≤ m∧m ≤ 1:=by
  by_cases c:jcx hs raw hs.length = []
  ·have:=h1 c; omega
  ·obtain ⟨k,_,e⟩:=List.mem_map.mp (h2 c)
   have:=Int.emod_nonneg (jal raw k) (show (2:Int) ≠ 0 by decide)
   have:=Int.emod_lt_of_pos (jal raw k) (show (0:Int) < 2 by decide)
   omega
 refine ⟨hb,fun k k0 k1 hk=>?_⟩
 have hm:jal raw k % 2 ∈ jcx hs raw hs.length:=by
  refine List.mem_map.mpr ⟨k.toNat,List.mem_filter.mpr ⟨List.mem_range.mpr (by omega),?_⟩,?_⟩
  ·rw [show ((k.toNat:Nat):Int) = k by omega]
   exact decide_eq_true hk
  ·rw [show ((k.toNat:Nat):Int) = k by omega]
 have h4:=h3 _ hm
 have:m = 0 ∨ m = 1:=by omega
 rcases this with rfl | rfl
 ·rw [show (1:Int) + 0 = 1 from rfl,Int.mul_one]
  have:=Int.emod_nonneg (jal raw k) (show (2:Int) ≠ 0 by decide)
  omega
 ·rw [show (1:Int) + 1 = 2 from rfl]
  omega
def Rw (H:Hp) (v:V) (r:Int × Int × Int):Prop:=∃ a,v = .ref a∧H a = some (.lst [.int r.1,.int r.2.1,.int r.2.2])
abbrev Rws (H:Hp):List V→List (Int × Int × Int)→Prop:=Paired (Rw H)
theorem Rws.same {H H':Hp} (s:Same H H') {xs:List V} {rs:List (Int × Int × Int)} (h:Rws H xs rs):Rws H' xs rs:=Paired.mapP h fun _ _ ⟨a,e,q⟩=>⟨a,e,s _ _ q⟩
theorem jq8 {H:Hp} {st a:Addr} {o:HO} {ns:List Int} (e:H st = some o) (so:StO o) (ea:H a = some (.lst (ns.map V.int))):a ≠ st:=fun z=>by
 rw [z,e] at ea
 obtain ⟨c,x,fl,rfl,_⟩:=so
 have:[V.int c,.int x,.bl fl] = ns.map V.int:=by injection ea with ea; injection ea
 match ns,this with
 | [a,b,d],h=>simp at h
theorem Rw.but {H H':Hp} {st:Addr} {o:HO} (e:H st = some o) (so:StO o) (b:But st H H') {v:V} {r:Int × Int × Int} (h:Rw H v r):Rw H' v r:=by
 obtain ⟨a,e1,q⟩:=h
 have q':H a = some (.lst ([r.1,r.2.1,r.2.2].map V.int)):=q
 exact ⟨a,e1,b _ _ (jq8 e so q') q⟩
theorem Rws.but {H H':Hp} {st:Addr} {o:HO} (e:H st = some o) (so:StO o) (b:But st H H') {xs:List V} {rs:List (Int × Int × Int)} (h:Rws H xs rs):Rws H' xs rs:=Paired.mapP h fun _ _ q=>q.but e so b
theorem jh4 {H:Hp}:∀ {xs:List V} {ps:List (Int × Int × Int)},Rws H xs ps→∀ v ∈ xs,∃ t,v = .ref t
 | _,_,.nil=>fun v h=>by cases h
 | _,_,.cons r t=>fun v h=>by
  rcases List.mem_cons.mp h with z | z
  ·obtain ⟨b,e,_⟩:=r; rw [z]; exact ⟨b,e⟩
  ·exact jh4 t v z
theorem joz {zs:List Int} (h:∀ x ∈ zs,x = 0) (k:Int):nth zs k = 0:=by
 unfold nth
 cases e:zs[k.toNat]? with
 | none=>rfl
 | some v=>exact h v (List.mem_of_getElem? e)
theorem menu3 {a b c d:Int} (h0:0 ≤ d) (h1:d < 3):∃ v,atI [V.int a,.int b,.int c] d = some (.int v)∧(v = a ∨ v = b ∨ v = c):=by
 have hd:d = 0 ∨ d = 1 ∨ d = 2:=by omega
 rcases hd with rfl | rfl | rfl
 ·exact ⟨a,at0,.inl rfl⟩
 ·exact ⟨b,at1,.inr (.inl rfl)⟩
 ·exact ⟨c,at2,.inr (.inr rfl)⟩
def PrOk (hs:List Int) (raw:List (Int × Int × Int)) (tw:Int) (i:Int) (c:Int):Prop:=(¬ nth hs i = 0→c = jal raw i * tw / 2)∧(nth hs i = 0→1 ≤ c∧jal raw i * tw ≤ 2 * c)∧0 ≤ c∧c ≤ 90000000000
structure PlC (hs:List Int) (raw:List (Int × Int × Int)) (tw:Int) (i:Nat) (ns cs:List Int):Prop where
 len:ns.length = i
 cl:cs.length = i
 rise:ns.Pairwise (· < ·)
 at':∀ k:Int,0 ≤ k→k < i→PrOk hs raw tw k (nth cs k)
def PlW (hs:List Int) (raw:List (Int × Int × Int)) (tw:Int) (i:Nat) (ns:List Int) (ps qs:List (Int × Int)):Prop:=∃ cs,PlC hs raw tw i ns cs∧ps = jbg ns cs∧qs = jb1 ns cs (hs.take i)
theorem jiv:∀ (ns cs hs:List Int),(jb1 ns cs hs).length ≤ ns.length
 | [],_,_=>by simp [jb1]
 | _ :: _,[],_=>by simp [jb1]
 | _ :: _,_ :: _,[]=>by simp [jb1]
 | n :: ns,c :: cs,h :: hs=>by
  have:=jiv ns cs hs
  rw [jb1]
  split <;> simp only [List.length_cons] <;> omega
theorem jnf (ns cs:List Int):(jbg ns cs).length ≤ ns.length:=by
 have:=(je7 (ns:=ns) (cs:=cs)).length_le
 rw [List.length_map] at this
 exact this
theorem PlW.len {hs:List Int} {raw:List (Int × Int × Int)} {tw:Int} {i:Nat} {ns:List Int} {ps qs:List (Int × Int)} (h:PlW hs raw tw i ns ps qs):ns.length = i:=let ⟨_,c,_⟩:=h; c.len
theorem PlW.pl {hs:List Int} {raw:List (Int × Int × Int)} {tw:Int} {i:Nat} {ns:List Int} {ps qs:List (Int × Int)} (h:PlW hs raw tw i ns ps qs):ps.length ≤ i:=by
 obtain ⟨cs,c,rfl,_⟩:=h
 have:=jnf ns cs
 have:=c.len
 omega
theorem PlW.step' {hs:List Int} {raw:List (Int × Int × Int)} {tw:Int} {i:Nat} {ns:List Int} {ps qs:List (Int × Int)} (h:PlW hs raw tw i ns ps qs) (hi:i < hs.length) {n pr:Int} (hn:∀ x ∈ ns,x < n) (hp:PrOk hs raw tw i pr):PlW hs raw tw (i + 1) (ns ++ [n]) (ps ++ if 0 < pr then [(n,pr)] else []) (qs ++ if 0 < pr then [(n,nth hs i)] else []):=by
 obtain ⟨cs,c,rfl,rfl⟩:=h
 have e1:=c.len
 have e2:=c.cl
 have e3:hs[i]? = some (nth hs i):=by
  unfold nth
  rw [show ((i:Int)).toNat = i by omega,List.getElem?_eq_getElem hi]
  rfl
 refine ⟨cs ++ [pr],⟨by rw [List.length_append,List.length_singleton,e1],by rw [List.length_append,List.length_singleton,e2],List.pairwise_append.mpr ⟨c.rise,List.pairwise_singleton _ _,fun a ha b hb=>by rw [List.mem_singleton.mp hb]; exact hn a ha⟩,fun k k0 k1=>?_⟩,?_,?_⟩
 ·by_cases z:k = (i:Int)
  ·have e4:nth (cs ++ [pr]) k = pr:=by rw [z,← e2,jp1]
   rw [e4,z]; exact hp
  ·rw [jp0 k0 (by omega)]
   exact c.at' k k0 (by omega)
 ·rw [jgr (by omega)]
 ·rw [jau e3,jgs (by omega) (by rw [List.length_take]; omega)]
end
end My
namespace My
open PySem L2
section
variable {P:Program} {w:World} {K:PySem.W.Frag} {mg:Str→Option Value} {base:Heap} {c1 c2 c3 c4:Tok} {C_NoWeb f_NoWeb:Addr} {dI:FuncData}
theorem jqx {H:Hp} {st a:Addr} {o:HO} {xs:List V} (e:H st = some o) (so:StO o) (ea:H a = some (.lst xs)) (hx:∀ v ∈ xs,∃ t,v = .ref t):a ≠ st:=fun z=>by
 rw [z,e] at ea
 obtain ⟨c,x,fl,rfl,_⟩:=so
 cases ea
 obtain ⟨t,e⟩:=hx (.int c) (List.mem_cons_self ..)
 cases e
theorem jes {s p:Addr} {H H':Hp} {o:HO} (b:But s H H') (h:H p = none):But s H (upd H' p o):=fun x u nx q=>by rw [jaa (ja7 q h)]; exact b x u nx q
theorem But.same {s:Addr} {H H':Hp} (h:Same H H'):But s H H':=fun b o _ q=>h b o q
theorem RawOk.xle {hs:List Int} {raw:List (Int × Int × Int)} {tw:Int} (R:RawOk hs raw) (h:1 ≤ tw∧tw ≤ 2) (k:Int):0 ≤ jal raw k * tw∧jal raw k * tw ≤ 162000000000:=by
 have p:=R.ple k
 have t:tw = 1 ∨ tw = 2:=by omega
 rcases t with rfl | rfl <;> omega
theorem PlC.mem {hs:List Int} {raw:List (Int × Int × Int)} {tw:Int} {i:Nat} {ns cs:List Int} (C:PlC hs raw tw i ns cs):∀ c ∈ cs,0 ≤ c∧c ≤ 90000000000:=fun c hc=>by
 obtain ⟨j,hj,rfl⟩:=List.mem_iff_getElem.mp hc
 have:=C.at' (j:Int) (by omega) (by have:=C.cl; omega)
 have e:nth cs (j:Int) = cs[j]:=by
  unfold nth
  rw [show ((j:Int)).toNat = j by omega,List.getElem?_eq_getElem hj]
  rfl
 rw [e] at this
 exact this.2.2
theorem jpo {b:Int}:∀ {cs:List Int},(∀ c ∈ cs,c ≤ b)→cs.sum ≤ b * cs.length
 | [],_=>by simp
 | c :: cs,h=>by
  have i:=jpo (cs:=cs) fun x hx=>h x (List.mem_cons_of_mem _ hx)
  have:=h c (List.mem_cons_self ..)
  rw [List.sum_cons,List.length_cons,Int.natCast_add,Int.mul_add]
  omega
theorem jp5 {hs ns cs:List Int} (nl:ns.length = hs.length) (cl:cs.length = hs.length) (hb:∀ h ∈ hs,0 ≤ h∧h ≤ 2) (rise:ns.Pairwise (· < ·)) {k:Int} (k0:0 ≤ k) (k1:k < hs.length):nth ns k ∈ (jb1 ns cs hs).map (·.1) ↔ 0 < nth cs k:=by
 rw [(jcy (je6 (ns:=ns) (cs:=cs) (hs:=hs) (by omega) nl hb)).2.1]
 constructor
 ·intro h
  obtain ⟨p,hp,e⟩:=List.mem_map.mp h
  obtain ⟨j,j0,j1,rfl,j2⟩:=jg1 (by omega) hp
  have:=jjr rise k0 (by omega) j0 (by omega) e.symm
  rw [this]; exact j2
 ·intro h
  have e:((k.toNat:Nat):Int) = k:=by omega
  have:=jhj (ns:=ns) (cs:=cs) (by omega) (k:=k.toNat) (by omega) (by rw [e]; exact h)
  rw [e] at this
  exact List.mem_map.mpr ⟨_,this,rfl⟩
def ji9:Sp:=fun vs H Q _=>∃ (st ha ra:Addr) (o:HO) (hs:List Int) (rx:List V) (raw:List (Int × Int × Int)),vs = [.ref st,.ref ha,.ref ra]∧H st = some o∧StO o∧H ha = some (.lst (hs.map V.int))∧H ra = some (.lst rx)∧Rws H rx raw∧RawOk hs raw ∧
 ∀ (t:Addr) (wv:V) (hl da:Addr) (hx dx:List V) (ns cs:List Int) (tw:Int) (H':Hp) (o':HO),But st H H'→H' st = some o'→StO o'→H' t = some (.tup [wv,.ref hl,.ref da])→jdf H' wv (jbg ns cs) (jc5 ns cs raw)→H' hl = some (.lst hx)→Prs H' hx (jb1 ns cs hs)→H' da = some (.lst dx)→Tps H' dx (jb4 ns tw raw)→Laid hs ns cs raw tw→Q (.ref t) H'
theorem jhd {f:Addr} {fd:FuncData} {f_law_take:Addr} {d_law_take:FuncData} (B:Blt mg) (D:DefAt K mg "_law_priced" (top 31) ["_law_state","_law_hs","_law_raw"] f fd) (D_law_take:DefAt K mg "_law_take" (top 30) ["_law_state","_law_many"] f_law_take d_law_take) (G_law_take:FnOk P w K mg base CX0 1 f_law_take d_law_take ["_law_state","_law_many"] jgi):FnOk P w K mg base CX0 2 f fd ["_law_state","_law_hs","_law_raw"] ji9:=by
 have sc:FnScope ["_law_state","_law_hs","_law_raw","_law_paid","_law_k","_law_j","_law_due","_law_twice","_law_number","_law_names","_law_places","_law_halves","_law_price","_law_kept","_law_ties","_law_dues"] ["_law_state","_law_hs","_law_raw"] (jac (top 31)):=⟨rfl,rfl,rfl,by decide +kernel,rfl,by decide +kernel,by decide +kernel⟩
 refine D.F.ok sc (fun vs H Q E h=>?_) (fun cdv A outer s H vs Q E hr h=>?_)
 ·obtain ⟨st,ha,ra,o,hs,rx,raw,rfl,_⟩:=h
  rfl
 obtain ⟨st,ha,ra,o,hs,rx,raw,rfl,es,so,eh,er,pr,R,h⟩:=h
 have hrx:rx.length = raw.length:=Paired.length pr
 have nha:=jq8 es so eh
 have nra:=jqx es so er (jh4 pr)
 have hhl:=R.hl
 have hrl:=R.len
 have hu:=jbo hr
 have hu0:_ < PySem.cLine:=Nat.lt_of_succ_lt hu
 refine ⟨_,(ja5 (jae (i:=3) sc.nd rfl (Or.inr rfl) (jc7 (CpScope.of (N:=["_law_h"]) (src:=[none]) (by rfl)) rfl (jbm (qv 1)) (fun _ _ _ _=>(jad (i:=0) (jak (l:=["_law_h"]) (by rfl)) rfl (Or.inl rfl))) (fun _ _ _ _=>jco) (fun _ _ _ _=>ja2))) (ja5 (jce PassesOwn.never rfl (jbm (qv 2)) (jml (n:=3) rfl (jah (jad (i:=4) sc.nd rfl (Or.inl rfl)) (jah (jad (i:=5) sc.nd rfl (Or.inl rfl)) (jah (jad (i:=6) sc.nd rfl (Or.inl rfl)) jbw)))) (ja5 (jcl (jap jbr (jab q_ix (qv 3) (qv 4) (fun _ _=>rfl)) (qv 6)) (jcv (qv 3) (qv 4) jct)) (ja6 (jcl (jap jbr (jab q_ix (qv 3) (qv 5) (fun _ _=>rfl)) (qv 6)) (jcv (qv 3) (qv 5) jct))))) (ja5 (jae (i:=7) sc.nd rfl (Or.inr rfl) (jap jbr ja2 (jii (jo6 rfl) rfl B.max PyProof.Rows.boot_max (ja0 (jc7 (CpScope.of (N:=["_law_k","_law_paid","_law_hs"]) (src:=[none,some 3,some 1]) (by rfl)) rfl (jc6 rfl B.range (ja0 (ja9 jci rfl B.len PySem.boot_len (ja0 (qv 1) ja3)) ja3)) (fun _ _ _ _=>(jad (i:=0) (jak (l:=["_law_k","_law_paid","_law_hs"]) (by rfl)) rfl (Or.inl rfl))) (fun _ _ _ _=>(jfl (jaq q_gt (jab q_ix (qv 2) (qv 0) (fun _ _=>rfl)) ja2 (jaj _)))) (fun _ _ _ _=>(jap jig (jab q_ix (qv 1) (qv 0) (fun _ _=>rfl)) ja2))) ja3) (jmq ja2 jq0)))) (ja5 (jae (i:=8) sc.nd rfl (Or.inl rfl) (je3 je0 ja2)) (ja5 (jae (i:=9) sc.nd rfl (Or.inr rfl) (jc1 ja3)) (ja5 (jae (i:=10) sc.nd rfl (Or.inl rfl) (jc1 ja3)) (ja5 (jae (i:=11) sc.nd rfl (Or.inl rfl) (jc1 ja3)) (ja5 (jce PassesOwn.never rfl (jc6 rfl B.range (ja0 (ja9 jci rfl B.len PySem.boot_len (ja0 (qv 1) ja3)) ja3)) (jad (i:=4) sc.nd rfl (Or.inl rfl)) (ja5 (jae (i:=8) sc.nd rfl (Or.inl rfl) (jap jbr (jap jbr (qv 8) ja2) (ja8 G_law_take (hr.mono (by decide)) rfl D_law_take.m D_law_take.F.kp D_law_take.b .nil jar (ja0 (qv 0) (ja0 (jab q_ix (jc1 (ja0 ja2 (ja0 ja2 (ja0 ja2 ja3)))) (ja8 G_law_take (hr.mono (by decide)) rfl D_law_take.m D_law_take.F.kp D_law_take.b .nil jar (ja0 (qv 0) (ja0 ja2 ja3))) (fun _ _=>rfl)) ja3))))) (ja5 (jcn (q_bm PySem.F.plainAttrs_list PySem.F.slot_list_append PySem.F.type_list_append je1 (qv 9) (ja0 (qv 8) ja3))) (ja5 (jae (i:=12) sc.nd rfl (Or.inl rfl) (jap jkj (jap jeg (jab q_ix (qv 3) (qv 4) (fun _ _=>rfl)) (qv 7)) ja2)) (ja5 (jb5 (jaq q_eq (jab q_ix (qv 1) (qv 4) (fun _ _=>rfl)) ja2 (jaj _)) (ja6 (jae (i:=12) sc.nd rfl (Or.inl rfl) (ja9 (q_max rfl) rfl B.max PyProof.Rows.boot_max (ja0 ja2 (ja0 (jap jbr (jap jkj (jap jbr (jap jeg (jab q_ix (qv 3) (qv 4) (fun _ _=>rfl)) (qv 7)) ja2) ja2) (ja8 G_law_take (hr.mono (by decide)) rfl D_law_take.m D_law_take.F.kp D_law_take.b .nil jar (ja0 (qv 0) (ja0 ja2 ja3)))) ja3))))) jam) (ja6 (jb5 (jaq q_gt (qv 12) ja2 (jaj _)) (ja5 (jcn (q_bm PySem.F.plainAttrs_list PySem.F.slot_list_append PySem.F.type_list_append je1 (qv 10) (ja0 (jb7 (ja0 (qv 8) (ja0 (qv 12) ja3))) ja3))) (ja6 (jcn (q_bm PySem.F.plainAttrs_list PySem.F.slot_list_append PySem.F.type_list_append je1 (qv 11) (ja0 (jb7 (ja0 (qv 8) (ja0 (jab q_ix (qv 1) (qv 4) (fun _ _=>rfl)) ja3))) ja3))))) jam))))))) (ja5 (jae (i:=13) sc.nd rfl (Or.inr rfl) (jc7 (CpScope.of (N:=["_law_place","_law_h"]) (src:=[none,none]) (by rfl)) rfl (jbm (qv 11)) (fun _ _ _ _=>(jd8 (n:=2) rfl (jah (jad (i:=0) (jak (l:=["_law_place","_law_h"]) (by rfl)) rfl (Or.inl rfl)) (jah (jad (i:=1) (jak (l:=["_law_place","_law_h"]) (by rfl)) rfl (Or.inl rfl)) jbw)))) (fun _ _ _ _=>jco) (fun _ _ _ _=>(qv 0)))) (ja5 (jjj (i:=14) sc.nd rfl (Or.inl rfl) (CpScope.of (N:=["_law_k","_law_j","_law_due","_law_names","_law_kept"]) (src:=[none,none,none,some 9,some 13]) (by rfl)) rfl (jbm (qv 2)) (fun _ _ _ _=>(jml (n:=3) rfl (jah (jad (i:=0) (jak (l:=["_law_k","_law_j","_law_due","_law_names","_law_kept"]) (by rfl)) rfl (Or.inl rfl)) (jah (jad (i:=1) (jak (l:=["_law_k","_law_j","_law_due","_law_names","_law_kept"]) (by rfl)) rfl (Or.inl rfl)) (jah (jad (i:=2) (jak (l:=["_law_k","_law_j","_law_due","_law_names","_law_kept"]) (by rfl)) rfl (Or.inl rfl)) jbw))))) (fun _ _ _ _=>(jfl (PW.pt (jfk (jaq q_inL (jab q_ix (qv 3) (qv 0) (fun _ _=>rfl)) (qv 4) (by with_unfolding_all rfl)) (jdr (jaq q_inL (jab q_ix (qv 3) (qv 1) (fun _ _=>rfl)) (qv 4) (by with_unfolding_all rfl))))))) (fun _ _ _ _=>(jb7 (ja0 (jab q_ix (qv 3) (qv 0) (fun _ _=>rfl)) (ja0 (jab q_ix (qv 3) (qv 1) (fun _ _=>rfl)) ja3))))) (ja5 (jjj (i:=15) sc.nd rfl (Or.inl rfl) (CpScope.of (N:=["_law_k","_law_j","_law_due","_law_names","_law_twice"]) (src:=[none,none,none,some 9,some 7]) (by rfl)) rfl (jbm (qv 2)) (fun _ _ _ _=>(jml (n:=3) rfl (jah (jad (i:=0) (jak (l:=["_law_k","_law_j","_law_due","_law_names","_law_twice"]) (by rfl)) rfl (Or.inl rfl)) (jah (jad (i:=1) (jak (l:=["_law_k","_law_j","_law_due","_law_names","_law_twice"]) (by rfl)) rfl (Or.inl rfl)) (jah (jad (i:=2) (jak (l:=["_law_k","_law_j","_law_due","_law_names","_law_twice"]) (by rfl)) rfl (Or.inl rfl)) jbw))))) (fun _ _ _ _=>(jfl (jaq q_gt (qv 2) ja2 (jaj _)))) (fun _ _ _ _=>(jb7 (ja0 (jab q_ix (qv 3) (qv 0) (fun _ _=>rfl)) (ja0 (jab q_ix (qv 3) (qv 1) (fun _ _=>rfl)) (ja0 (jap jeg (qv 2) (qv 4)) ja3)))))) (ja6 (jan (jb7 (ja0 (jb7 (ja0 (qv 10) (ja0 (qv 14) ja3))) (ja0 (qv 11) (ja0 (qv 15) ja3))))))))))))))))),?_⟩
 walk_at "RD"
 refine jaw (Itl K ha) H (fun R hR=>?_) (fun pl hpl=>jbe hs.length (fun i σ' Hc=>∃ w1 zs,σ' = [w1]∧Same H Hc∧Hc pl = some (.lst (zs.map V.int))∧zs.length = i∧∀ x ∈ zs,x = (0:Int)) ⟨none,[],rfl,ja4 hpl _,ja1,rfl,(fun x hx=>by cases hx)⟩ ?_ ?_)
 ·unfold jdc
  walk_at "RD"
  exact ⟨ha,rfl,⟨_,SqL.of eh⟩,hR⟩
 ·rintro k σ' Hc hk ⟨w1,zs,rfl,s4,ez,lz,az⟩
  have X1:(hs.map V.int)[k]? = some (.int hs[k]):=by rw [List.getElem?_map,List.getElem?_eq_getElem hk]; rfl
  have z1:SqL K Hc ha (hs.map V.int):=SqL.of (s4 _ _ eh)
  refine ⟨⟨_,_,z1,X1⟩,?_⟩
  rintro y H' ⟨rfl,hy⟩
  walk_at "RD"
  refine ⟨_,ez,by rw [List.length_map]; exact szl' (by omega),_,zs ++ [0],rfl,jav s4 hpl,by rw [List.map_append]; exact ja1,by rw [List.length_append,List.length_singleton,lz],fun x hx=>?_⟩
  rcases List.mem_append.mp hx with z | z
  ·exact az x z
  ·exact List.mem_singleton.mp z
 rintro σ' H1 ⟨w1,zs0,rfl,s1,e1,lz0,az0⟩
 refine ⟨⟨_,SqL.of (s1 _ _ eh),by rw [List.length_map]; exact Nat.le_refl _⟩,?_⟩
 walk_at "RD"
 refine jb8 (Itl K ra) H1 (fun R hR=>?_) (jea (K:=K) (a:=ra) (xs:=rx) (fun j σ H2=>∃ v1 v2 v3 v4 v5 v6 v7 v8 v9 v10 v11 v12 zs,σ = [some (.ref st),some (.ref ha),some (.ref ra),some (.ref pl),v1,v2,v3,v4,v5,v6,v7,v8,v9,v10,v11,v12]∧Same H H2∧H2 pl = some (.lst (zs.map V.int))∧zs.length = hs.length∧∀ i:Int,0 ≤ i→i < hs.length→nth zs i = jal (raw.take j) i) ⟨none,none,none,none,none,none,none,none,none,none,none,none,zs0,rfl,s1,e1,lz0,fun i _ _=>by rw [joz az0]; rfl⟩ (fun j σ H2 _ ⟨_,_,_,_,_,_,_,_,_,_,_,_,_,_,s2,_⟩=>SqL.of (s2 _ _ er)) ?_ ?_)
 ·unfold jdc
  walk_at "RD"
  exact ⟨ra,rfl,⟨_,SqL.of (s1 _ _ er)⟩,hR⟩
 ·rintro j y σ H2 hj ⟨v1,v2,v3,v4,v5,v6,v7,v8,v9,v10,v11,v12,zs,rfl,s2,e2,lz,az⟩
  obtain ⟨r,hr,px⟩:=jaf pr hj
  obtain ⟨t,rfl,e3⟩:=px
  have e3':=s2 _ _ e3
  have rix:=R.ix r (List.mem_of_getElem? hr)
  have a1:=jd0 (xs:=zs) (k:=r.1) (by omega) (by omega)
  have i1:=jkw (n:=zs.length) (k:=r.1) (by omega) (by omega)
  have a2:=jd0 (xs:=zs.set r.1.toNat (nth zs r.1 + r.2.2)) (k:=r.2.1) (by omega) (by rw [List.length_set]; omega)
  have i2:=jkw (n:=zs.length) (k:=r.2.1) (by omega) (by omega)
  have ms:∀ (l:List Int) (k:Nat) (v:Int),(l.map V.int).set k (.int v) = (l.set k v).map V.int:=fun l k v=>(List.map_set ..).symm
  simp_arith [e3',jag,e2,a1,List.length_map,i1,ms,ja1,a2,List.length_set,i2,jed]
  refine ⟨_,_,_,_,_,_,_,_,_,_,_,_,_,rfl,jav s2 hpl,rfl,by rw [List.length_set,List.length_set]; exact lz,fun i i0 i1'=>?_⟩
  rw [jjq (by omega) (by rw [List.length_set]; omega) i0,jjq (by omega) (by omega) (by omega),jjq (by omega) (by omega) i0,jau hr,jlg,az i i0 i1',az r.1 (by omega) (by omega),az r.2.1 (by omega) (by omega)]
  by_cases c1:r.1 = i
  ·by_cases c2:r.2.1 = i
   ·omega
   ·rw [if_neg c2,if_pos c1,if_neg c2,if_pos c1,c1]; omega
  ·by_cases c2:r.2.1 = i
   ·rw [if_pos c2,if_neg (show ¬ r.1 = r.2.1 by omega),if_pos c2,if_neg c1,c2]; omega
   ·rw [if_neg c2,if_neg c1,if_neg c2,if_neg c1]; omega
 rintro σ H2 ⟨v1,v2,v3,v4,v5,v6,v7,v8,v9,v10,v11,v12,zs,rfl,s2,e2,lz,az⟩
 rw [hrx,List.take_length] at az
 have eh2:=s2 _ _ eh
 have er2:=s2 _ _ er
 have pr2:=Rws.same s2 pr
 walk_at "RD"
 refine jaw (Itr 0 hs.length) H2 (fun R hR=>?_) (fun ol hol=>jbe hs.length (fun i σ' Hc=>∃ w1,σ' = [w1,some (.ref pl),some (.ref ha)]∧Same H2 Hc∧Hc ol = some (.lst ((jcx hs raw i).map V.int))) ⟨none,rfl,ja4 hol _,ja1⟩ ?_ ?_)
 ·unfold jhm
  simp_arith [jag,eh2,List.length_map]
  exact ⟨_,rfl,by omega,by omega,hR⟩
 ·rintro k σ' Hc hk ⟨w1,rfl,s3,e3⟩
  refine ⟨hk,?_⟩
  rintro y H' ⟨rfl,rfl⟩
  have a1:=jd0 (xs:=hs) (k:=0 + (k:Int)) (by omega) (by omega)
  have a2:=jd0 (xs:=zs) (k:=0 + (k:Int)) (by omega) (by omega)
  simp_arith [jag,s3 _ _ eh2,s3 _ _ e2,a1,a2]
  rw [jn3]
  refine ite2 (fun c1=>?_) (fun c1=>?_)
  ·rw [if_pos (by rw [Int.zero_add] at c1; exact c1)]
   refine ⟨by decide,_,e3,by rw [List.length_map]; have:=joy hs raw k; exact szl' (by omega),_,rfl,jav s3 hol,?_⟩
   rw [List.map_append,az _ (by omega) (by omega),Int.zero_add]
   exact ja1
  ·rw [if_neg (by rw [Int.zero_add] at c1; exact c1),List.append_nil]
   exact ⟨_,rfl,s3,e3⟩
 rintro σ' H3 ⟨w1,rfl,s3,e3⟩
 refine ⟨Nat.le_refl _,?_⟩
 walk_at "RD"
 refine ⟨ol,jcx hs raw hs.length,0,rfl,rfl,e3,fun m m1 m2 m3=>?_⟩
 obtain ⟨mb,ev⟩:=jn4 m1 m2 m3
 clear m1 m2 m3 e3 hol
 have eh3:=s3 _ _ eh2
 have er3:=s3 _ _ er2
 have pr3:=Rws.same s3 pr2
 have ep3:=s3 _ _ e2
 have s03:=s2.trans s3
 have es3:=s03 _ _ es
 walk_at "RD"
 intro nl hnl pc hpc hc hhc
 have htwb:1 ≤ 1 + m∧1 + m ≤ 2:=by omega
 generalize 1 + m = tw at ev htwb ⊢
 have n1:nl ≠ pc:=fun z=>by rw [← z,ja1] at hpc; cases hpc
 have n2:nl ≠ hc:=fun z=>by rw [← z,jaa n1,ja1] at hhc; cases hhc
 have n3:pc ≠ hc:=fun z=>by rw [← z,ja1] at hhc; cases hhc
 have nst:st ≠ pl:=ja7 es hpl
 have np3:pl ≠ st:=nst.symm
 have hnl3:=hnl
 have hpc3:H3 pc = none:=by rw [jaa n1.symm] at hpc; exact hpc
 have hhc3:H3 hc = none:=by rw [jaa n3.symm,jaa n2.symm] at hhc; exact hhc
 have nls:nl ≠ st:=(ja7 es3 hnl3).symm
 have pcs:pc ≠ st:=(ja7 es3 hpc3).symm
 have hcs:hc ≠ st:=(ja7 es3 hhc3).symm
 have s4:=(ja4 hnl (.lst [])).trans ((ja4 hpc (.lst [])).trans (ja4 hhc (.lst [])))
 have start:upd (upd (upd H3 nl (.lst [])) pc (.lst [])) hc (.lst []) nl = some (.lst [])∧upd (upd (upd H3 nl (.lst [])) pc (.lst [])) hc (.lst []) pc = some (.lst [])∧upd (upd (upd H3 nl (.lst [])) pc (.lst [])) hc (.lst []) hc = some (.lst []):=⟨by rw [jaa n2,jaa n1,ja1],by rw [jaa n3,ja1],ja1⟩
 generalize upd (upd (upd H3 nl (.lst [])) pc (.lst [])) hc (.lst []) = H4 at s4 start
 refine jb8 (Itr 0 hs.length) H4 (fun R hR=>?_) (jcg (lo:=0) (n:=hs.length) (fun i σ H5=>∃ w1 num w2 ns ps qs px qx,σ = [some (.ref st),some (.ref ha),some (.ref ra),some (.ref pl),w1,v2,v3,some (.int tw),some (.int num),some (.ref nl),some (.ref pc),some (.ref hc),w2,v10,v11,v12]∧But st H3 H5∧(∃ o',H5 st = some o'∧StO o')∧H5 nl = some (.lst (ns.map V.int))∧H5 pc = some (.lst px)∧Prs H5 px ps∧H5 hc = some (.lst qx)∧Prs H5 qx qs∧qs.length ≤ i∧PlW hs raw tw i ns ps qs∧(∀ x ∈ ns,-1 < x∧x ≤ num)∧-1 ≤ num∧num ≤ 20 * (i:Int) - 1) ⟨_,-1,_,[],[],[],[],[],rfl,But.same s4,⟨o,s4 _ _ es3,so⟩,start.1,start.2.1,.nil,start.2.2,.nil,Nat.le_refl _,⟨[],⟨rfl,rfl,.nil,fun k k0 k1=>by omega⟩,rfl,by simp [jb1]⟩,(fun x hx=>by cases hx),by omega,by omega⟩ ?_ ?_)
 ·unfold jhm
  simp_arith [jag,s4 _ _ eh3,List.length_map]
  exact ⟨_,rfl,by omega,by omega,hR⟩
 ·rintro i σ H5 hi ⟨w1,num,w2,ns,ps,qs,px,qx,rfl,b5,⟨o5,e5,so5⟩,en5,ep5,pp5,eq5,pq5,lq,W,hnum,hm1,hm2⟩
  generalize hB:tIfS (fB (tOp (fI fun i j=>V.bl (decide (i > j))) (fVar 12) (tC (V.int 0)))) (tSeq (jlb (fBM jdu (fVar 10) (jdw (tTup (jdw (fVar 8) (jdw (fVar 12) tNil))) tNil))) (jlb (fBM jdu (fVar 11) (jdw (tTup (jdw (fVar 8) (jdw (tOp fIx (fVar 1) (fVar 4)) tNil))) tNil)))) jon = B2
  have hpxl:px.length = ps.length:=Paired.length pp5
  have hqxl:qx.length = qs.length:=Paired.length pq5
  have hwl:=W.len
  have hwp:=W.pl
  have key:∀ (D':Ends) (H8:Hp) (num' pr:Int),(∀ (H9:Hp) (ps qs:List (Int × Int)) (px qx:List V),But st H3 H9∧(∃ o',H9 st = some o'∧StO o')∧H9 nl = some (.lst ((ns ++ [num']).map V.int))∧H9 pc = some (.lst px)∧Prs H9 px ps∧H9 hc = some (.lst qx)∧Prs H9 qx qs→qs.length ≤ i + 1→PlW hs raw tw (i + 1) (ns ++ [num']) ps qs→D'.nx [some (.ref st),some (.ref ha),some (.ref ra),some (.ref pl),some (.int (0 + (i:Int))),v2,v3,some (.int tw),some (.int num'),some (.ref nl),some (.ref pc),some (.ref hc),some (.int pr),v10,v11,v12] H9)→(∀ x ∈ ns,x < num')→PrOk hs raw tw i pr→But st H3 H8∧(∃ o',H8 st = some o'∧StO o')∧H8 nl = some (.lst ((ns ++ [num']).map V.int))∧H8 pc = some (.lst px)∧Prs H8 px ps∧H8 hc = some (.lst qx)∧Prs H8 qx qs→B2 D' [some (.ref st),some (.ref ha),some (.ref ra),some (.ref pl),some (.int (0 + (i:Int))),v2,v3,some (.int tw),some (.int num'),some (.ref nl),some (.ref pc),some (.ref hc),some (.int pr),v10,v11,v12] H8:=by
   rintro D' H8 num' pr hD hn hp ⟨b8,⟨o8,e8,so8⟩,en8,ep8,pp8,eq8,pq8⟩
   subst hB
   walk_at "RD"
   refine ite2 (fun c1=>?_) (fun c1=>hD H8 ps qs px qx ⟨b8,⟨o8,e8,so8⟩,en8,ep8,pp8,eq8,pq8⟩ (by omega) (by have z:=W.step' hi hn hp; rw [if_neg (fun y=>c1 (decide_eq_true y)),if_neg (fun y=>c1 (decide_eq_true y)),List.append_nil,List.append_nil] at z; exact z))
   refine ⟨⟨pc,_,rfl,ep8⟩,fun t ht=>?_⟩
   have nt:pc ≠ t:=ja7 ep8 ht
   simp_arith [jaa nt,ep8]
   refine ⟨szl' (by omega),?_⟩
   have sA:=ja4 ht (.tup [.int num',.int pr])
   have eA:=ja1 (H:=H8) (a:=t) (o:=.tup [.int num',.int pr])
   have epA:=sA _ _ ep8
   generalize upd H8 t (.tup [.int num',.int pr]) = HA at sA eA epA
   have tB:TupS HA (upd HA pc (.lst (px ++ [.ref t]))):=jaz epA
   have hcB:upd HA pc (.lst (px ++ [.ref t])) hc = some (.lst qx):=by rw [jaa n3.symm]; exact sA _ _ eq8
   have nlB:upd HA pc (.lst (px ++ [.ref t])) nl = some (.lst ((ns ++ [num']).map V.int)):=by rw [jaa n1]; exact sA _ _ en8
   have pcB:=ja1 (H:=HA) (a:=pc) (o:=.lst (px ++ [.ref t]))
   have stB:upd HA pc (.lst (px ++ [.ref t])) st = some o8:=by rw [jaa pcs.symm]; exact sA _ _ e8
   have bB:But st H3 (upd HA pc (.lst (px ++ [.ref t]))):=jes (b8.trans (But.same sA)) hpc3
   have ppB:Prs (upd HA pc (.lst (px ++ [.ref t]))) (px ++ [.ref t]) (ps ++ [(num',pr)]):=jbc (Prs.tups (sA.tups.trans tB) pp8) ⟨t,rfl,tB _ _ rfl eA⟩
   have pqB:Prs (upd HA pc (.lst (px ++ [.ref t]))) qx qs:=Prs.tups (sA.tups.trans tB) pq8
   generalize upd HA pc (.lst (px ++ [.ref t])) = HB at tB hcB nlB pcB stB bB ppB pqB
   have a1:=jd0 (xs:=hs) (k:=0 + (i:Int)) (by omega) (by omega)
   have ehB:=bB _ _ nha eh3
   refine ⟨⟨hc,_,rfl,hcB⟩,?_⟩
   simp_arith [jag,ehB,a1]
   intro t2 ht2
   have nt2:hc ≠ t2:=ja7 hcB ht2
   simp_arith [jaa nt2,hcB]
   refine ⟨szl' (by omega),?_⟩
   have sC:=ja4 ht2 (.tup [.int num',.int (nth hs (0 + (i:Int)))])
   have eC:=ja1 (H:=HB) (a:=t2) (o:=.tup [.int num',.int (nth hs (0 + (i:Int)))])
   have ehC:=sC _ _ hcB
   generalize upd HB t2 (.tup [.int num',.int (nth hs (0 + (i:Int)))]) = HC at sC eC ehC
   have tD:TupS HC (upd HC hc (.lst (qx ++ [.ref t2]))):=jaz ehC
   refine hD _ (ps ++ [(num',pr)]) (qs ++ [(num',nth hs (0 + (i:Int)))]) _ _ ⟨jes (bB.trans (But.same sC)) hhc3,⟨o8,by rw [jaa hcs.symm]; exact sC _ _ stB,so8⟩,by rw [jaa n2]; exact sC _ _ nlB,by rw [jaa n3]; exact sC _ _ pcB,Prs.tups (sC.tups.trans tD) ppB,ja1,jbc (Prs.tups (sC.tups.trans tD) pqB) ⟨t2,rfl,tD _ _ rfl eC⟩⟩ (by rw [List.length_append,List.length_singleton]; omega) (by have z:=W.step' hi hn hp; rw [if_pos (of_decide_eq_true c1),if_pos (of_decide_eq_true c1)] at z; rw [Int.zero_add]; exact z)
  walk_at "RD"
  intro p1 hp1
  have np1:p1 ≠ st:=(ja7 e5 hp1).symm
  refine ⟨st,o5,3,rfl,(ja4 hp1 _) _ _ e5,so5,by decide,by decide,fun d1 o6 d10 d11 so6=>?_⟩
  obtain ⟨v,ev',v0,v1'⟩:∃ v,atI [V.int 1,.int 2,.int 20] d1 = some (.int v)∧1 ≤ v∧v ≤ 20:=by
   obtain ⟨v,e,hv⟩:=menu3 (a:=1) (b:=2) (c:=20) d10 d11
   exact ⟨v,e,by omega,by omega⟩
  simp_arith [jag,jaa np1,ja1,ev']
  refine ⟨st,o6,v,rfl,ja1,so6,by omega,by omega,fun d2 o7 d20 d21 so7=>?_⟩
  simp_arith [jed]
  have b7:But st H5 (upd (upd H5 p1 (.lst [.int 1,.int 2,.int 20])) st o7):=(But.new hp1).trans (But.at _ _ _)
  have e7:upd (upd H5 p1 (.lst [.int 1,.int 2,.int 20])) st o7 st = some o7:=ja1
  generalize upd (upd H5 p1 (.lst [.int 1,.int 2,.int 20])) st o7 = H7 at b7 e7
  have t7:TupS H5 H7:=b7.tups e5 so5.imm
  have en7:=b7 _ _ nls en5
  refine ⟨⟨nl,_,rfl,en7⟩,?_⟩
  simp_arith [en7]
  refine ⟨by rw [List.length_map]; exact szl' (by omega),?_⟩
  have hnew:∀ x ∈ ns,x < num + 1 + d2:=fun x hx=>by have:=hnum x hx; omega
  have st8:But st H3 (upd H7 nl (.lst (ns.map V.int ++ [.int (num + 1 + d2)])))∧(∃ o',(upd H7 nl (.lst (ns.map V.int ++ [.int (num + 1 + d2)]))) st = some o'∧StO o')∧(upd H7 nl (.lst (ns.map V.int ++ [.int (num + 1 + d2)]))) nl = some (.lst ((ns ++ [num + 1 + d2]).map V.int))∧(upd H7 nl (.lst (ns.map V.int ++ [.int (num + 1 + d2)]))) pc = some (.lst px)∧Prs (upd H7 nl (.lst (ns.map V.int ++ [.int (num + 1 + d2)]))) px ps∧(upd H7 nl (.lst (ns.map V.int ++ [.int (num + 1 + d2)]))) hc = some (.lst qx)∧Prs (upd H7 nl (.lst (ns.map V.int ++ [.int (num + 1 + d2)]))) qx qs:=by
   have t8:TupS H7 (upd H7 nl (.lst (ns.map V.int ++ [.int (num + 1 + d2)]))):=jaz en7
   refine ⟨jes (b5.trans b7) hnl3,⟨o7,by rw [jaa nls.symm]; exact e7,so7⟩,by rw [ja1,List.map_append]; rfl,by rw [jaa n1.symm]; exact b7 _ _ pcs ep5,Prs.tups (t7.trans t8) pp5,by rw [jaa n2.symm]; exact b7 _ _ hcs eq5,Prs.tups (t7.trans t8) pq5⟩
  have epl:=st8.1 _ _ np3 ep3
  have ehl:=st8.1 _ _ nha eh3
  have e8:∃ o',upd H7 nl (.lst (ns.map V.int ++ [.int (num + 1 + d2)])) st = some o'∧StO o':=st8.2.1
  generalize upd H7 nl (.lst (ns.map V.int ++ [.int (num + 1 + d2)])) = H8 at st8 epl ehl e8
  obtain ⟨o8,e8,so8⟩:=e8
  have a1:=jd0 (xs:=hs) (k:=0 + (i:Int)) (by omega) (by omega)
  have a2:=jd0 (xs:=zs) (k:=0 + (i:Int)) (by omega) (by omega)
  have ap:nth zs (0 + (i:Int)) = jal raw (0 + (i:Int)):=az _ (by omega) (by omega)
  simp_arith [jag,epl,ehl,a1,a2]
  refine ⟨cmR (by omega) (by omega),⟨by decide,by decide⟩,?_⟩
  have hfin:∀ (H9:Hp) (ps qs:List (Int × Int)) (px qx:List V) (w2:Option V),But st H3 H9∧(∃ o',H9 st = some o'∧StO o')∧H9 nl = some (.lst ((ns ++ [num + 1 + d2]).map V.int))∧H9 pc = some (.lst px)∧Prs H9 px ps∧H9 hc = some (.lst qx)∧Prs H9 qx qs→qs.length ≤ i + 1→PlW hs raw tw (i + 1) (ns ++ [num + 1 + d2]) ps qs→∃ w1 nn w2' ns ps qs px qx,[some (.ref st),some (.ref ha),some (.ref ra),some (.ref pl),some (.int (0 + (i:Int))),v2,v3,some (.int tw),some (.int (num + 1 + d2)),some (.ref nl),some (.ref pc),some (.ref hc),w2,v10,v11,v12] = [some (.ref st),some (.ref ha),some (.ref ra),some (.ref pl),w1,v2,v3,some (.int tw),some (.int nn),some (.ref nl),some (.ref pc),some (.ref hc),w2',v10,v11,v12]∧But st H3 H9∧(∃ o',H9 st = some o'∧StO o')∧H9 nl = some (.lst (ns.map V.int))∧H9 pc = some (.lst px)∧Prs H9 px ps∧H9 hc = some (.lst qx)∧Prs H9 qx qs∧qs.length ≤ i + 1∧PlW hs raw tw (i + 1) ns ps qs∧(∀ x ∈ ns,-1 < x∧x ≤ nn)∧-1 ≤ nn∧nn ≤ 20 * ((i + 1:Nat):Int) - 1:=fun H9 ps qs px qx w2 z1 z2 z3=>⟨_,num + 1 + d2,_,ns ++ [num + 1 + d2],ps,qs,px,qx,rfl,z1.1,z1.2.1,z1.2.2.1,z1.2.2.2.1,z1.2.2.2.2.1,z1.2.2.2.2.2.1,z1.2.2.2.2.2.2,z2,z3,(fun x hx=>by
   rcases List.mem_append.mp hx with y | y
   ·have:=hnew x y; have:=hnum x y; omega
   ·rw [List.mem_singleton.mp y]; omega),by omega,by omega⟩
  refine ite2 (fun c1=>?_) (fun c1=>?_)
  ·refine ⟨cmR (by omega) (by omega),⟨by decide,by decide⟩,?_⟩
   refine ⟨st,o8,3,rfl,e8,so8,by decide,by decide,fun d3 o9 d30 d31 so9=>?_⟩
   walk_at "RD"
   have c2:nth hs (i:Int) = 0:=by rw [Int.zero_add] at c1; exact of_decide_eq_true c1
   have t9:TupS H8 (upd H8 st o9):=(But.at st H8 o9).tups e8 so8.imm
   refine key _ _ _ _ (fun H9 ps qs px qx z1 z2 z3=>hfin H9 ps qs px qx _ z1 z2 z3) hnew (by refine ⟨fun z=>absurd c2 z,?_⟩; have X:=R.xle htwb (i:Int); rw [ap,Int.zero_add]; generalize jal raw (i:Int) * tw = x at X ⊢; exact ⟨fun _=>⟨by split <;> omega,by split <;> omega⟩,by split <;> omega,by split <;> omega⟩) ⟨st8.1.trans (But.at _ _ _),⟨o9,ja1,so9⟩,by rw [jaa nls]; exact st8.2.2.1,by rw [jaa pcs]; exact st8.2.2.2.1,Prs.tups t9 st8.2.2.2.2.1,by rw [jaa hcs]; exact st8.2.2.2.2.2.1,Prs.tups t9 st8.2.2.2.2.2.2⟩
  ·refine key _ _ _ _ (fun H9 ps qs px qx z1 z2 z3=>hfin H9 ps qs px qx _ z1 z2 z3) hnew (by have X:=R.xle htwb (i:Int); rw [ap]; refine ⟨fun _=>by rw [Int.zero_add],fun z=>absurd (decide_eq_true (by rw [Int.zero_add]; exact z)) c1,?_⟩; rw [Int.zero_add]; omega) st8
 rintro σ H5 ⟨w1,num,w2,ns,ps,qs,px,qx,rfl,b5,⟨o5,e5,so5⟩,en5,ep5,pp5,eq5,pq5,lq,W,hnum,hm1,hm2⟩
 have hwl:=W.len
 obtain ⟨cs,C,rfl,rfl⟩:=W
 rw [List.take_length] at pq5 lq
 have hcl:=C.cl
 have hqxl:qx.length = (jb1 ns cs hs).length:=Paired.length pq5
 have er5:=b5 _ _ nra er3
 have pr5:=Rws.but es3 so b5 pr3
 walk_at "RD"
 refine jaw (Itl K hc) H5 (fun R hR=>?_) (fun kl hkl=>jbe (jb1 ns cs hs).length (fun i σ' Hc=>∃ w1 w2,σ' = [w1,w2]∧Same H5 Hc∧Hc kl = some (.lst ((((jb1 ns cs hs).take i).map (·.1)).map V.int))) ⟨none,none,rfl,ja4 hkl _,ja1⟩ ?_ ?_)
 ·unfold jdc
  walk_at "RD"
  exact ⟨hc,rfl,⟨_,SqL.of eq5⟩,hR⟩
 ·rintro k σ' Hc hk ⟨w1,w2,rfl,s6,e6⟩
  have hkx:k < qx.length:=by omega
  have x1:qx[k]? = some qx[k]:=List.getElem?_eq_getElem hkx
  obtain ⟨p,hp,qp⟩:=jaf pq5 x1
  have z1:SqL K Hc hc qx:=SqL.of (s6 _ _ eq5)
  refine ⟨⟨_,_,z1,x1⟩,?_⟩
  rintro y H' ⟨rfl,hy⟩
  have E1:qx[k] = y:=Option.some.inj (x1.symm.trans (hy _ z1))
  obtain ⟨t,e1,e2'⟩:=qp.same s6
  rw [E1] at e1
  subst e1
  simp_arith [e2']
  refine ⟨_,e6,by rw [List.length_map,List.length_map,List.length_take]; exact szl' (by omega),_,_,rfl,jav s6 hkl,?_⟩
  rw [jau hp,List.map_append,List.map_append]
  exact ja1
 rintro σ' H6 ⟨w1',w2',rfl,s6,e6⟩
 refine ⟨⟨_,SqL.of (s6 _ _ eq5),by rw [hqxl]; exact Nat.le_refl _⟩,?_⟩
 rw [List.take_length] at e6
 have er6:=s6 _ _ er5
 have pr6:=Rws.same s6 pr5
 have en6:=s6 _ _ en5
 walk_at "RD"
 refine jaw (Itl K ra) H6 (fun R hR=>?_) (fun tl htl=>jbe raw.length (fun i σ' Hc=>∃ w1 w2 w3 ys ts,σ' = [w1,w2,w3,some (.ref nl),some (.ref kl)]∧Same H6 Hc∧Hc tl = some (.lst ys)∧Prs Hc ys ts∧ts = jc5 ns cs (raw.take i)∧ts.length ≤ i) ⟨none,none,none,[],[],rfl,ja4 htl _,ja1,.nil,rfl,Nat.le_refl _⟩ ?_ ?_)
 ·unfold jdc
  walk_at "RD"
  exact ⟨ra,rfl,⟨_,SqL.of er6⟩,hR⟩
 ·rintro k σ' Hc hk ⟨w1,w2,w3,ys,ts,rfl,s7,e7,p7,g7,l7⟩
  have hkx:k < rx.length:=by omega
  have x1:rx[k]? = some rx[k]:=List.getElem?_eq_getElem hkx
  obtain ⟨r,hr,qr⟩:=jaf pr6 x1
  have z1:SqL K Hc ra rx:=SqL.of (s7 _ _ er6)
  refine ⟨⟨_,_,z1,x1⟩,?_⟩
  rintro y H' ⟨rfl,hy⟩
  have E1:rx[k] = y:=Option.some.inj (x1.symm.trans (hy _ z1))
  obtain ⟨t,e1,e2'⟩:=qr
  rw [E1] at e1
  subst e1
  have e2'':=s7 _ _ e2'
  have rix:=R.ix r (List.mem_of_getElem? hr)
  have a1:=jd0 (xs:=ns) (k:=r.1) (by omega) (by omega)
  have a2:=jd0 (xs:=ns) (k:=r.2.1) (by omega) (by omega)
  have hyl:ys.length = ts.length:=Paired.length p7
  have hin:∀ k:Int,0 ≤ k→k < hs.length→(nth ns k ∈ (jb1 ns cs hs).map (·.1) ↔ 0 < nth cs k):=fun k k0 k1=>jp5 hwl hcl R.hb C.rise k0 k1
  have tsn:jc5 ns cs (raw.take (k + 1)) = jc5 ns cs (raw.take k) ++ if (decide (0 < nth cs r.1) && decide (0 < nth cs r.2.1)) = true then [(nth ns r.1,nth ns r.2.1)] else []:=by
   unfold jc5
   rw [jau hr,List.filter_append,List.map_append]
   congr 1
   rw [List.filter_cons]
   split <;> simp
  have no1:¬ nth ns r.1 ∈ (jb1 ns cs hs).map (·.1)→ts = jc5 ns cs (raw.take (k + 1)):=fun z=>by
   rw [tsn,decide_eq_false (fun y=>z ((hin _ (by omega) (by omega)).mpr y)),Bool.false_and,if_neg (by decide),List.append_nil]; exact g7
  have no2:¬ nth ns r.2.1 ∈ (jb1 ns cs hs).map (·.1)→ts = jc5 ns cs (raw.take (k + 1)):=fun z=>by
   rw [tsn,decide_eq_false (fun y=>z ((hin _ (by omega) (by omega)).mpr y)),Bool.and_false,if_neg (by decide),List.append_nil]; exact g7
  simp_arith [e2'',jag,s7 _ _ en6,s7 _ _ e6,a1,a2,jeo,jnp,jpa]
  refine ite2 (fun c1=>?_) (fun c1=>⟨_,_,_,ys,ts,rfl,s7,e7,p7,no1 (by simpa using c1),by omega⟩)
  refine ite2 (fun c2=>?_) (fun c2=>⟨_,_,_,ys,ts,rfl,s7,e7,p7,no2 (by simpa using c2),by omega⟩)
  intro t2 ht2
  have sA:=ja4 ht2 (.tup [.int (nth ns r.1),.int (nth ns r.2.1)])
  have tA:=sA.tups.trans (jaz (ys:=ys ++ [.ref t2]) (sA _ _ e7))
  refine ⟨_,sA _ _ e7,szl' (by omega),_,_,_,_,ts ++ [(nth ns r.1,nth ns r.2.1)],rfl,jav (s7.trans sA) htl,ja1,jbc (Prs.tups tA p7) ⟨t2,rfl,by rw [jaa (ja7 e7 ht2).symm,ja1]⟩,?_,by rw [List.length_append,List.length_singleton]; omega⟩
  rw [tsn,decide_eq_true ((hin _ (by omega) (by omega)).mp (by simpa using c1)),decide_eq_true ((hin _ (by omega) (by omega)).mp (by simpa using c2)),Bool.true_and,if_pos rfl,g7]
 rintro σ' H7 ⟨w1'',w2'',w3'',ys,ts,rfl,s7,e7,p7,g7,l7⟩
 refine ⟨⟨_,SqL.of (s7 _ _ er6),by rw [hrx]; exact Nat.le_refl _⟩,?_⟩
 have er7:=s7 _ _ er6
 have pr7:=Rws.same s7 pr6
 have en7:=s7 _ _ en6
 walk_at "RD"
 refine jaw (Itl K ra) H7 (fun R hR=>?_) (fun dl hdl=>jbe raw.length (fun i σ' Hc=>∃ w1 w2 w3 zs,σ' = [w1,w2,w3,some (.ref nl),some (.int tw)]∧Same H7 Hc∧Hc dl = some (.lst zs)∧Tps Hc zs (jb4 ns tw (raw.take i))) ⟨none,none,none,[],rfl,ja4 hdl _,ja1,.nil⟩ ?_ ?_)
 ·unfold jdc
  walk_at "RD"
  exact ⟨ra,rfl,⟨_,SqL.of er7⟩,hR⟩
 ·rintro k σ' Hc hk ⟨w1,w2,w3,zs',rfl,s8,e8,p8⟩
  have hkx:k < rx.length:=by omega
  have x1:rx[k]? = some rx[k]:=List.getElem?_eq_getElem hkx
  obtain ⟨r,hr,qr⟩:=jaf pr7 x1
  have z1:SqL K Hc ra rx:=SqL.of (s8 _ _ er7)
  refine ⟨⟨_,_,z1,x1⟩,?_⟩
  rintro y H' ⟨rfl,hy⟩
  have E1:rx[k] = y:=Option.some.inj (x1.symm.trans (hy _ z1))
  obtain ⟨t,e1,e2'⟩:=qr
  rw [E1] at e1
  subst e1
  have e2'':=s8 _ _ e2'
  have rix:=R.ix r (List.mem_of_getElem? hr)
  have a1:=jd0 (xs:=ns) (k:=r.1) (by omega) (by omega)
  have a2:=jd0 (xs:=ns) (k:=r.2.1) (by omega) (by omega)
  have hzl:zs'.length ≤ 81:=by
   have z2:=Paired.length p8
   have z3:=jpj ns tw (raw.take k)
   rw [List.length_take] at z3
   omega
  simp_arith [e2'',jag,s8 _ _ en7,a1,a2]
  rw [jnr hr]
  refine ite2 (fun c1=>?_) (fun c1=>?_)
  ·rw [if_pos c1]
   refine ⟨cmR (by omega) (by omega),fun t2 ht2=>?_⟩
   have sA:=ja4 ht2 (.tup [.int (nth ns r.1),.int (nth ns r.2.1),.int (r.2.2 * tw)])
   have tA:=sA.tups.trans (jaz (ys:=zs' ++ [.ref t2]) (sA _ _ e8))
   exact ⟨_,sA _ _ e8,szl' (by omega),_,_,_,_,rfl,jav (s8.trans sA) hdl,ja1,jbc (jf1 tA p8) ⟨t2,rfl,by rw [jaa (ja7 e8 ht2).symm,ja1]⟩⟩
  ·rw [if_neg c1,List.append_nil]
   exact ⟨_,_,_,_,rfl,s8,e8,p8⟩
 rintro σ' H8 ⟨wa,wb,wc,dx,rfl,s8,e8,p8⟩
 refine ⟨⟨_,SqL.of (s8 _ _ er7),by rw [hrx]; exact Nat.le_refl _⟩,?_⟩
 rw [List.take_length] at p8
 walk_at "RD"
 intro t1 ht1 t2 ht2
 have sA:=ja4 ht1 (.tup [.ref pc,.ref tl])
 have sB:=ja4 ht2 (.tup [.ref t1,.ref hc,.ref dl])
 have n12:t1 ≠ t2:=fun z=>by rw [← z,ja1] at ht2; cases ht2
 have sAB:=sA.trans sB
 have s58:=s6.trans (s7.trans s8)
 rw [List.take_length] at g7
 subst g7
 exact h t2 (.ref t1) hc dl qx dx ns cs tw _ o5 ((((But.same s03).trans b5).trans (But.same s58)).trans (But.same sAB)) ((s58.trans sAB) _ _ e5) so5 ja1 ⟨t1,pc,tl,px,ys,rfl,sB _ _ ja1,(s58.trans sAB) _ _ ep5,(s8.trans sAB) _ _ e7,Prs.same (s58.trans sAB) pp5,Prs.same (s8.trans sAB) p7⟩ ((s58.trans sAB) _ _ eq5) (Prs.same (s58.trans sAB) pq5) (sAB _ _ e8) (jf1 sAB.tups p8) ⟨hwl,hcl,R.hl,R.hb,C.rise,(fun n hn=>by have:=hnum n hn; omega),R.ix,R.len,R.up,R.pos,R.two,R.due,htwb.1,(fun k k0 k1 kh=>ev k k0 k1 kh),(fun k k0 k1 hk=>(C.at' k k0 k1).1 hk),(fun k k0 k1 hk=>(C.at' k k0 k1).2.1 hk),(fun c hc=>(C.mem c hc).1),by have:=jpo (b:=90000000000) (fun c hc=>(C.mem c hc).2); omega⟩
end
end My
namespace My
open PySem L2
section
variable {P:Program} {w:World} {K:PySem.W.Frag} {mg:Str→Option Value} {base:Heap} {c1 c2 c3 c4:Tok} {C_NoWeb f_NoWeb:Addr} {dI:FuncData}
theorem jjf {ι:Type} {src:List (Option Nat)} {wi:TI} {g:TG} {tc:TT} {te:TE} {Q:VK} {σ:St} {H:Hp} (J:ι→It) (H1:ι→Hp) (ok:ι→Prop) (h1:∀ R:It→Hp→Prop,(∀ p,ok p→R (J p) (H1 p))→wi σ H R)
  (h2:∀ p,ok p→∀ l,H1 p l = none→joi (J p) src g tc te Q σ (H1 p) l):joo src wi g tc te σ H Q:=h1 _ h2
theorem ten9:(10:Int) ^ Int.toNat 9 = 1000000000:=by decide
def GR (hs:List Int) (r:Int × Int × Int):Prop:=(0 ≤ r.1∧r.1 < r.2.1∧r.2.1 < hs.length)∧(0 ≤ r.2.2∧r.2.2 ≤ 1000000000)∧2 ≤ nth hs r.1 + nth hs r.2.1∧(0 < r.2.2→nth hs r.1 + nth hs r.2.1 = 2)
theorem rw_ne {H:Hp} {a b:Addr} {x y z:Int} {rx:List V} (ea:H a = some (.lst [.int x,.int y,.int z])) (eb:H b = some (.lst rx)) (h:∀ v ∈ rx,∃ t,v = .ref t):a ≠ b:=fun e=>by
 rw [e,eb] at ea
 cases ea
 obtain ⟨t,e⟩:=h (.int x) (List.mem_cons_self ..)
 cases e
theorem Rws.upd {H:Hp} {b:Addr} {rx ys:List V} {raw:List (Int × Int × Int)} (h:Rws H rx raw) (eb:H b = some (.lst rx)):Rws (upd H b (.lst ys)) rx raw:=by
 have hr:=jh4 h
 exact Paired.mapP h fun _ _ ⟨a,e,q⟩=>⟨a,e,by rw [jaa (rw_ne q eb hr)]; exact q⟩
def jm8:Sp:=fun vs H Q _=>∃ (st:Addr) (o:HO),vs = [.ref st,.int 9]∧H st = some o∧StO o ∧
 ∀ (t:Addr) (wv:V) (hl da:Addr) (hx dx:List V) (hs ns cs:List Int) (raw:List (Int × Int × Int)) (tw:Int) (H':Hp) (o':HO),But st H H'→H' st = some o'→StO o'→H' t = some (.tup [wv,.ref hl,.ref da])→jdf H' wv (jbg ns cs) (jc5 ns cs raw)→H' hl = some (.lst hx)→Prs H' hx (jb1 ns cs hs)→H' da = some (.lst dx)→Tps H' dx (jb4 ns tw raw)→Laid hs ns cs raw tw→Q (.ref t) H'
def LB (raw:List (Int × Int × Int)) (n:Nat) (a b:Int):Prop:=raw.length ≤ n∧(raw.Pairwise fun x y=>Lx (x.1,x.2.1) (y.1,y.2.1))∧∀ r ∈ raw,r.1 < a ∨ (r.1 = a∧r.2.1 < b)
theorem LB.mono {raw:List (Int × Int × Int)} {n n':Nat} {a b a' b':Int} (h:LB raw n a b) (hn:n ≤ n') (hl:a < a' ∨ (a = a'∧b ≤ b')):LB raw n' a' b':=⟨Nat.le_trans h.1 hn,h.2.1,fun r hr=>by have:=h.2.2 r hr; omega⟩
theorem LB.snoc {raw:List (Int × Int × Int)} {n n':Nat} {a b b':Int} {r:Int × Int × Int} (h:LB raw n a b) (hn:n + 1 ≤ n') (h1:r.1 = a) (h2:r.2.1 = b) (hb:b < b'):LB (raw ++ [r]) n' a b':=by
 refine ⟨by rw [List.length_append,List.length_singleton]; have:=h.1; omega,List.pairwise_append.mpr ⟨h.2.1,List.pairwise_singleton _ _,fun x hx y hy=>?_⟩,fun x hx=>?_⟩
 ·rw [List.mem_singleton.mp hy]
  rcases h.2.2 x hx with z | ⟨z1,z2⟩
  ·exact jir (by show x.1 < r.1; omega)
  ·unfold Lx
   dsimp only
   rw [z1,h1]
   exact jna (by omega)
 ·rcases List.mem_append.mp hx with z | z
  ·have:=h.2.2 x z; omega
  ·rw [List.mem_singleton.mp z]; omega
theorem jjn {f:Addr} {fd:FuncData} {f_law_take:Addr} {d_law_take:FuncData} {f_law_priced:Addr} {d_law_priced:FuncData} (B:Blt mg) (D:DefAt K mg "_law_laid" (top 32) ["_law_state","_law_most"] f fd) (D_law_take:DefAt K mg "_law_take" (top 30) ["_law_state","_law_many"] f_law_take d_law_take) (G_law_take:FnOk P w K mg base CX0 1 f_law_take d_law_take ["_law_state","_law_many"] jgi) (D_law_priced:DefAt K mg "_law_priced" (top 31) ["_law_state","_law_hs","_law_raw"] f_law_priced d_law_priced) (G_law_priced:FnOk P w K mg base CX0 2 f_law_priced d_law_priced ["_law_state","_law_hs","_law_raw"] ji9):FnOk P w K mg base CX0 3 f fd ["_law_state","_law_most"] jm8:=by
 have sc:FnScope ["_law_state","_law_most","_law_great","_law_dense","_law_hs","_law_raw","_law_k","_law_j","_law_due"] ["_law_state","_law_most"] (jac (top 32)):=⟨rfl,rfl,rfl,by decide +kernel,rfl,by decide +kernel,by decide +kernel⟩
 refine D.F.ok sc (fun vs H Q E h=>?_) (fun cdv A outer s H vs Q E hr h=>?_)
 ·obtain ⟨st,o,rfl,_⟩:=h
  rfl
 obtain ⟨st,o,rfl,es,so,h⟩:=h
 have hu:=jbo hr
 have hu0:_ < PySem.cLine:=Nat.lt_of_succ_lt hu
 refine ⟨_,(ja5 (jae (i:=2) sc.nd rfl (Or.inl rfl) (jab q_ix (jc1 (ja0 ja2 (ja0 ja2 (ja0 (jap jqo ja2 ja2) ja3)))) (ja8 G_law_take (hr.mono (by decide)) rfl D_law_take.m D_law_take.F.kp D_law_take.b .nil jar (ja0 (qv 0) (ja0 ja2 ja3))) (fun _ _=>rfl))) (ja5 (jae (i:=3) sc.nd rfl (Or.inl rfl) (jap jbr ja2 (ja8 G_law_take (hr.mono (by decide)) rfl D_law_take.m D_law_take.F.kp D_law_take.b .nil jar (ja0 (qv 0) (ja0 ja2 ja3))))) (ja5 (jjj (i:=4) sc.nd rfl (Or.inl rfl) (CpScope.of (N:=["_law_k","_law_state"]) (src:=[none,some 0]) (by rfl)) rfl (jc6 rfl B.range (ja0 (ja8 G_law_take (hr.mono (by decide)) rfl D_law_take.m D_law_take.F.kp D_law_take.b .nil jar (ja0 (qv 0) (ja0 (jap jbr (qv 1) ja2) ja3))) ja3)) (fun _ _ _ _=>(jad (i:=0) (jak (l:=["_law_k","_law_state"]) (by rfl)) rfl (Or.inl rfl))) (fun _ _ _ _=>jco) (fun _ _ _ _=>(ja8 G_law_take (hr.mono (by decide)) rfl D_law_take.m D_law_take.F.kp D_law_take.b .nil jar (ja0 (qv 1) (ja0 ja2 ja3))))) (ja5 (jae (i:=5) sc.nd rfl (Or.inl rfl) (jc1 ja3)) (ja5 (jce PassesOwn.never rfl (jc6 rfl B.range (ja0 (ja9 jci rfl B.len PySem.boot_len (ja0 (qv 4) ja3)) ja3)) (jad (i:=6) sc.nd rfl (Or.inl rfl)) (ja6 (jce PassesOwn.never rfl (jmr rfl B.range (ja0 (jap jbr (qv 6) ja2) (ja0 (ja9 jci rfl B.len PySem.boot_len (ja0 (qv 4) ja3)) ja3))) (jad (i:=7) sc.nd rfl (Or.inl rfl)) (ja6 (jb5 (PW.pt (jfk (jaq q_gt (jap jbr (jab q_ix (qv 4) (qv 6) (fun _ _=>rfl)) (jab q_ix (qv 4) (qv 7) (fun _ _=>rfl))) ja2 (jaj _)) (jdr (jaq q_lt (ja8 G_law_take (hr.mono (by decide)) rfl D_law_take.m D_law_take.F.kp D_law_take.b .nil jar (ja0 (qv 0) (ja0 ja2 ja3))) (qv 3) (jaj _))))) (ja5 (jae (i:=8) sc.nd rfl (Or.inl rfl) ja2) (ja5 (jb5 (PW.pt (jfk (jaq q_eq (jap jbr (jab q_ix (qv 4) (qv 6) (fun _ _=>rfl)) (jab q_ix (qv 4) (qv 7) (fun _ _=>rfl))) ja2 (jaj _)) (jdr (jaq q_gt (ja8 G_law_take (hr.mono (by decide)) rfl D_law_take.m D_law_take.F.kp D_law_take.b .nil jar (ja0 (qv 0) (ja0 ja2 ja3))) ja2 (jaj _))))) (ja6 (jae (i:=8) sc.nd rfl (Or.inl rfl) (jap jbr ja2 (ja8 G_law_take (hr.mono (by decide)) rfl D_law_take.m D_law_take.F.kp D_law_take.b .nil jar (ja0 (qv 0) (ja0 (qv 2) ja3)))))) jam) (ja6 (jcn (q_bm PySem.F.plainAttrs_list PySem.F.slot_list_append PySem.F.type_list_append je1 (qv 5) (ja0 (jc1 (ja0 (qv 6) (ja0 (qv 7) (ja0 (qv 8) ja3)))) ja3)))))) jam))))) (ja6 (jan (ja8 G_law_priced (hr.mono (by decide)) rfl D_law_priced.m D_law_priced.F.kp D_law_priced.b .nil jar (ja0 (qv 0) (ja0 (qv 4) (ja0 (qv 5) ja3))))))))))),?_⟩
 walk_at "RD"
 refine ⟨⟨by decide,by decide,by decide⟩,?_⟩
 intro p1 hp1
 have np1:p1 ≠ st:=(ja7 es hp1).symm
 refine ⟨st,o,3,rfl,(ja4 hp1 _) _ _ es,so,by decide,by decide,fun d1 o1 d10 d11 so1=>?_⟩
 obtain ⟨g,ev,g0,g1⟩:∃ v,atI [V.int 2,.int 9,.int (10 ^ Int.toNat 9)] d1 = some (.int v)∧1 ≤ v∧v ≤ 1000000000:=by
  obtain ⟨v,e,hv⟩:=menu3 (a:=2) (b:=9) (c:=10 ^ Int.toNat 9) d10 d11
  rw [ten9] at hv
  exact ⟨v,e,by omega,by omega⟩
 simp_arith [jag,jaa np1,ja1,ev]
 refine ⟨st,o1,4,rfl,ja1,so1,by decide,by decide,fun d2 o2 d20 d21 so2=>?_⟩
 simp_arith [jed]
 have b2:But st H (upd (upd H p1 (.lst [.int 2,.int 9,.int (10 ^ Int.toNat 9)])) st o2):=(But.new hp1).trans (But.at _ _ _)
 have e2:upd (upd H p1 (.lst [.int 2,.int 9,.int (10 ^ Int.toNat 9)])) st o2 st = some o2:=ja1
 generalize upd (upd H p1 (.lst [.int 2,.int 9,.int (10 ^ Int.toNat 9)])) st o2 = H1 at b2 e2
 generalize hdn:1 + d2 = dn
 refine jjf (ι:=Int × HO) (fun i=>Itr 0 i.1.toNat) (fun i=>upd H1 st i.2) (fun i=>0 ≤ i.1∧i.1 ≤ 9∧StO i.2) (fun R hR=>?_) (fun i0 ok0 hl hhl=>?_)
 ·unfold jhm
  walk_at "RD"
  refine ⟨st,o2,10,rfl,e2,so2,by decide,by decide,fun d o3 d0 d1 so3=>?_⟩
  exact ⟨d,rfl,by omega,by omega,hR (d,o3) ⟨d0,by show d ≤ 9; omega,so3⟩⟩
 obtain ⟨n,o3⟩:=i0
 obtain ⟨n0,n1,so3⟩:=ok0
 dsimp only at n0 n1 so3 hhl ⊢
 have nhl:hl ≠ st:=fun z=>by rw [z,ja1] at hhl; cases hhl
 have hhl1:H1 hl = none:=by rw [jaa nhl] at hhl; exact hhl
 refine jbe n.toNat (fun i σ' Hc=>∃ w1 o' hs,σ' = [w1,some (.ref st)]∧But st H1 Hc∧Hc st = some o'∧StO o'∧Hc hl = some (.lst (hs.map V.int))∧hs.length = i∧∀ h ∈ hs,0 ≤ h∧h ≤ (2:Int)) ⟨none,o3,[],rfl,jes (But.at _ _ _) hhl1,by rw [jaa nhl.symm,ja1],so3,ja1,rfl,(fun h hh=>by cases hh)⟩ ?_ ?_
 ·rintro k σ' Hc hk ⟨w1,o',hs,rfl,b3,e3,so',eh,lh,ah⟩
  refine ⟨hk,?_⟩
  rintro y H' ⟨rfl,rfl⟩
  walk_at "RD"
  refine ⟨st,o',3,rfl,e3,so',by decide,by decide,fun d o4 d0 d1 so4=>?_⟩
  refine ⟨_,by rw [jaa nhl]; exact eh,by rw [List.length_map]; exact szl' (by omega),_,o4,hs ++ [d],rfl,jes (b3.trans (But.at _ _ _)) hhl1,by rw [jaa nhl.symm,ja1],so4,by rw [List.map_append]; exact ja1,by rw [List.length_append,List.length_singleton,lh],fun x hx=>?_⟩
  rcases List.mem_append.mp hx with z | z
  ·exact ah x z
  ·rw [List.mem_singleton.mp z]; omega
 rintro σ' H2 ⟨w1,o4,hs,rfl,b3,e3,so4,eh,lh,ah⟩
 refine ⟨Nat.le_refl _,?_⟩
 have hhs:hs.length ≤ 9:=by omega
 walk_at "RD"
 intro ra hra
 have nra:ra ≠ st:=(ja7 e3 hra).symm
 have nhr:hl ≠ ra:=ja7 eh hra
 refine jb8 (Itr 0 hs.length) _ (fun R hR=>?_) (jcg (lo:=0) (n:=hs.length) (fun i σ H3=>∃ w1 w2 w3 rx raw,σ = [some (.ref st),some (.int 9),some (.int g),some (.int dn),some (.ref hl),some (.ref ra),w1,w2,w3]∧But st H2 H3∧(∃ o',H3 st = some o'∧StO o')∧H3 ra = some (.lst rx)∧Rws H3 rx raw∧(∀ r ∈ raw,GR hs r)∧LB raw (9 * i) (i:Int) 0) ⟨_,_,_,[],[],rfl,But.new hra,⟨o4,(ja4 hra _) _ _ e3,so4⟩,ja1,.nil,(fun r hr=>by cases hr),⟨Nat.le_refl _,.nil,fun r hr=>by cases hr⟩⟩ ?_ ?_)
 ·unfold jhm
  simp_arith [jag,(ja4 hra (.lst [])) _ _ eh,List.length_map]
  exact ⟨_,rfl,by omega,by omega,hR⟩
 ·rintro i σ H3 hi ⟨w1,w2,w3,rx,raw,rfl,b4,⟨o5,e4,so5⟩,er,pr,gr,lr⟩
  have eh3:=b4 _ _ nhl eh
  walk_at "RD"
  refine jb8 (Itr (0 + (i:Int) + 1) ((hs.length:Int) - (0 + (i:Int) + 1)).toNat) H3 (fun R hR=>?_) (jcg (lo:=0 + (i:Int) + 1) (n:=((hs.length:Int) - (0 + (i:Int) + 1)).toNat) (fun j σ H4=>∃ w2 w3 rx raw,σ = [some (.ref st),some (.int 9),some (.int g),some (.int dn),some (.ref hl),some (.ref ra),some (.int (0 + (i:Int))),w2,w3]∧But st H2 H4∧(∃ o',H4 st = some o'∧StO o')∧H4 ra = some (.lst rx)∧Rws H4 rx raw∧(∀ r ∈ raw,GR hs r)∧LB raw (9 * i + j) (i:Int) ((i:Int) + 1 + j)) ⟨_,_,rx,raw,rfl,b4,⟨o5,e4,so5⟩,er,pr,gr,lr.mono (by omega) (.inr ⟨rfl,by omega⟩)⟩ ?_ ?_)
  ·unfold iRng2
   simp_arith [jag,eh3,List.length_map]
   exact ⟨_,_,rfl,⟨by omega,by omega,by omega,by omega⟩,hR⟩
  ·rintro j σ H4 hj ⟨w2,w3,rx,raw,rfl,b5,⟨o6,e5,so6⟩,er5,pr5,gr5,lr5⟩
   have eh4:=b5 _ _ nhl eh
   have hjj:0 + (i:Int) + 1 + j < hs.length:=by omega
   have a1:=jd0 (xs:=hs) (k:=0 + (i:Int)) (by omega) (by omega)
   have a2:=jd0 (xs:=hs) (k:=0 + (i:Int) + 1 + j) (by omega) (by omega)
   have hrl:rx.length = raw.length:=Paired.length pr5
   have lr5':=lr5.1
   have skip:∀ (H5:Hp) (w3:Option V),But st H4 H5→(∃ o',H5 st = some o'∧StO o')→∃ w2' w3' rx raw,[some (.ref st),some (.int 9),some (.int g),some (.int dn),some (.ref hl),some (.ref ra),some (.int (0 + (i:Int))),some (.int (0 + (i:Int) + 1 + j)),w3] = [some (.ref st),some (.int 9),some (.int g),some (.int dn),some (.ref hl),some (.ref ra),some (.int (0 + (i:Int))),w2',w3']∧But st H2 H5∧(∃ o',H5 st = some o'∧StO o')∧H5 ra = some (.lst rx)∧Rws H5 rx raw∧(∀ r ∈ raw,GR hs r)∧LB raw (9 * i + (j + 1)) (i:Int) ((i:Int) + 1 + ((j + 1:Nat):Int)):=fun H5 w3 b z=>⟨_,_,rx,raw,rfl,b5.trans b,z,b _ _ nra er5,Rws.but e5 so6 b pr5,gr5,lr5.mono (by omega) (.inr ⟨rfl,by omega⟩)⟩
   generalize hB:jlb (fBM jdu (fVar 5) (jdw (tLst (jdw (fVar 6) (jdw (fVar 7) (jdw (fVar 8) tNil)))) tNil)) = B2
   have key:∀ (D':Ends) (H5:Hp) (due:Int),(∀ (H6:Hp) (rx:List V) (raw:List (Int × Int × Int)),But st H2 H6∧(∃ o',H6 st = some o'∧StO o')∧H6 ra = some (.lst rx)∧Rws H6 rx raw∧(∀ r ∈ raw,GR hs r)→LB raw (9 * i + (j + 1)) (i:Int) ((i:Int) + 1 + ((j + 1:Nat):Int))→D'.nx [some (.ref st),some (.int 9),some (.int g),some (.int dn),some (.ref hl),some (.ref ra),some (.int (0 + (i:Int))),some (.int (0 + (i:Int) + 1 + j)),some (.int due)] H6)→But st H4 H5→(∃ o',H5 st = some o'∧StO o')→GR hs (0 + (i:Int),0 + (i:Int) + 1 + j,due)→B2 D' [some (.ref st),some (.int 9),some (.int g),some (.int dn),some (.ref hl),some (.ref ra),some (.int (0 + (i:Int))),some (.int (0 + (i:Int) + 1 + j)),some (.int due)] H5:=by
    rintro D' H5 due hD b6 ⟨o7,e6,so7⟩ gd
    have er6:=b6 _ _ nra er5
    have pr6:=Rws.but e5 so6 b6 pr5
    subst hB
    walk_at "RD"
    refine ⟨⟨ra,_,rfl,er6⟩,fun t ht=>?_⟩
    have nt:ra ≠ t:=ja7 er6 ht
    simp_arith [jaa nt,er6]
    refine ⟨szl' (by omega),?_⟩
    have sA:=ja4 ht (.lst [.int (0 + (i:Int)),.int (0 + (i:Int) + 1 + j),.int due])
    have erA:=sA _ _ er6
    have eA:=ja1 (H:=H5) (a:=t) (o:=.lst [.int (0 + (i:Int)),.int (0 + (i:Int) + 1 + j),.int due])
    have prA:=Rws.same sA pr6
    generalize upd H5 t (.lst [.int (0 + (i:Int)),.int (0 + (i:Int) + 1 + j),.int due]) = HA at sA erA eA prA
    refine hD _ (rx ++ [.ref t]) (raw ++ [(0 + (i:Int),0 + (i:Int) + 1 + j,due)]) ⟨jes ((b5.trans b6).trans (But.same sA)) hra,⟨o7,by rw [jaa nra.symm]; exact sA _ _ e6,so7⟩,ja1,jbc (Rws.upd prA erA) ⟨t,rfl,by rw [jaa nt.symm]; exact eA⟩,fun r hr=>?_⟩ (lr5.snoc (by omega) (by show 0 + (i:Int) = _; omega) (by show 0 + (i:Int) + 1 + j = _; omega) (by omega))
    rcases List.mem_append.mp hr with z | z
    ·exact gr5 r z
    ·rw [List.mem_singleton.mp z]; exact gd
   simp_arith [jag,eh4,a1,a2]
   refine ite2 (fun c1=>?_) (fun c1=>skip H4 _ (But.refl _ _) ⟨o6,e5,so6⟩)
   have c1':nth hs (0 + (i:Int)) + nth hs (0 + (i:Int) + 1 + j) > 1:=of_decide_eq_true c1
   refine ⟨st,o6,5,rfl,e5,so6,by decide,by decide,fun d3 o7 d30 d31 so7=>?_⟩
   walk_at "RD"
   refine ite2 (fun c2=>?_) (fun c2=>skip _ _ (But.at _ _ _) ⟨o7,ja1,so7⟩)
   have eh5:upd H4 st o7 hl = some (.lst (hs.map V.int)):=by rw [jaa nhl]; exact eh4
   simp_arith [jag,eh5,a1,a2]
   have fin:∀ (H6:Hp) (rx:List V) (raw:List (Int × Int × Int)) (w3:Option V),But st H2 H6∧(∃ o',H6 st = some o'∧StO o')∧H6 ra = some (.lst rx)∧Rws H6 rx raw∧(∀ r ∈ raw,GR hs r)→LB raw (9 * i + (j + 1)) (i:Int) ((i:Int) + 1 + ((j + 1:Nat):Int))→∃ w2' w3' rx raw,[some (.ref st),some (.int 9),some (.int g),some (.int dn),some (.ref hl),some (.ref ra),some (.int (0 + (i:Int))),some (.int (0 + (i:Int) + 1 + j)),w3] = [some (.ref st),some (.int 9),some (.int g),some (.int dn),some (.ref hl),some (.ref ra),some (.int (0 + (i:Int))),w2',w3']∧But st H2 H6∧(∃ o',H6 st = some o'∧StO o')∧H6 ra = some (.lst rx)∧Rws H6 rx raw∧(∀ r ∈ raw,GR hs r)∧LB raw (9 * i + (j + 1)) (i:Int) ((i:Int) + 1 + ((j + 1:Nat):Int)):=fun H6 rx raw w3 z1 z2=>⟨_,_,rx,raw,rfl,z1.1,z1.2.1,z1.2.2.1,z1.2.2.2.1,z1.2.2.2.2,z2⟩
   refine ite2 (fun c3=>?_) (fun c3=>?_)
   ·have c3':nth hs (0 + (i:Int)) + nth hs (0 + (i:Int) + 1 + j) = 2:=of_decide_eq_true c3
    refine ⟨st,o7,4,rfl,ja1,so7,by decide,by decide,fun d4 o8 d40 d41 so8=>?_⟩
    simp_arith [jed]
    refine ite2 (fun c4=>?_) (fun c4=>?_)
    ·refine ⟨st,o8,g,rfl,ja1,so8,by omega,by omega,fun d5 o9 d50 d51 so9=>?_⟩
     simp_arith [jed]
     exact key _ _ _ (fun H6 rx raw z1 z2=>fin H6 rx raw _ z1 z2) (But.at _ _ _) ⟨o9,ja1,so9⟩ ⟨⟨by show 0 ≤ 0 + (i:Int); omega,by show 0 + (i:Int) < 0 + (i:Int) + 1 + j; omega,hjj⟩,by show 0 ≤ 1 + d5∧1 + d5 ≤ 1000000000; omega,by show 2 ≤ nth hs (0 + (i:Int)) + nth hs (0 + (i:Int) + 1 + j); omega,fun _=>c3'⟩
    ·exact key _ _ _ (fun H6 rx raw z1 z2=>fin H6 rx raw _ z1 z2) (But.at _ _ _) ⟨o8,ja1,so8⟩ ⟨⟨by show 0 ≤ 0 + (i:Int); omega,by show 0 + (i:Int) < 0 + (i:Int) + 1 + j; omega,hjj⟩,by show (0:Int) ≤ 0∧(0:Int) ≤ 1000000000; omega,by show 2 ≤ nth hs (0 + (i:Int)) + nth hs (0 + (i:Int) + 1 + j); omega,fun _=>c3'⟩
   ·exact key _ _ _ (fun H6 rx raw z1 z2=>fin H6 rx raw _ z1 z2) (But.at _ _ _) ⟨o7,ja1,so7⟩ ⟨⟨by show 0 ≤ 0 + (i:Int); omega,by show 0 + (i:Int) < 0 + (i:Int) + 1 + j; omega,hjj⟩,by show (0:Int) ≤ 0∧(0:Int) ≤ 1000000000; omega,by show 2 ≤ nth hs (0 + (i:Int)) + nth hs (0 + (i:Int) + 1 + j); omega,fun z=>absurd z (by show ¬ (0:Int) < 0; omega)⟩
  ·rintro σ H4 ⟨w2,w3,rx,raw,rfl,b5,z5,er5,pr5,gr5,lr5⟩
   exact ⟨_,_,_,rx,raw,rfl,b5,z5,er5,pr5,gr5,lr5.mono (by omega) (.inl (by omega))⟩
 rintro σ H3 ⟨w1,w2,w3,rx,raw,rfl,b4,⟨o5,e4,so5⟩,er,pr,gr,lr⟩
 walk_at "RD"
 refine ⟨st,hl,ra,o5,hs,rx,raw,rfl,e4,so5,b4 _ _ nhl eh,er,pr,⟨fun r hr=>(gr r hr).1,fun r hr=>(gr r hr).2.1.1,fun r hr=>(gr r hr).2.1.2,fun r hr=>(gr r hr).2.2.1,fun r hr=>(gr r hr).2.2.2,lr.2.1,by have:=lr.1; omega,hhs,ah⟩,fun t wv hl' da hx dx ns cs tw H4 o6 b5 e5 so6 et w5 eh5 ph5 ed pd L=>?_⟩
 exact h t wv hl' da hx dx hs ns cs raw tw H4 o6 (((b2.trans b3).trans b4).trans b5) e5 so6 et w5 eh5 ph5 ed pd L
end
end My
namespace L2
open PySem PySem.Spec PyProof.Rows
mutual
def pdOf:Dt→PyData
 | .non=>.none
 | .bl b=>.bool b
 | .int i=>.int i
 | .str x=>.str x
 | .tup ds=>.tuple (jd7 ds)
 | .lst ds=>.list (jd7 ds)
def jd7:List Dt→List PyData
 | []=>[]
 | d :: ds=>pdOf d :: jd7 ds
end
mutual
def cntD:Dt→Nat
 | .tup ds=>jeq ds + 1
 | .lst ds=>jeq ds + 1
 | _=>1
def jeq:List Dt→Nat
 | []=>0
 | d :: ds=>cntD d + jeq ds
end
mutual
def shrt:Dt→Prop
 | .int i=>i.natAbs.log2 < 60
 | .str x=>(reprText x).length ≤ 60
 | .tup ds=>jdy ds
 | .lst ds=>jdy ds
 | _=>True
def jdy:List Dt→Prop
 | []=>True
 | d :: ds=>shrt d∧jdy ds
end
theorem jfe:∀ (ts:List Str) (k:Nat) (acc:Str),(textFrom k acc ts).length ≤ acc.length + piled ts
 | [],k,acc=>by show acc.length ≤ _; omega
 | t :: r,k,acc=>by
  have h:=jfe r (k + 1) (acc ++ (if k > 0 then ", " else "":String) ++ t)
  have e:(acc ++ (if k > 0 then ", " else "":String) ++ t).length ≤ acc.length + 2 + t.length:=by
   rw [strLen_append,strLen_append]
   by_cases c:k > 0
   ·rw [if_pos c]; exact Nat.le_refl _
   ·rw [if_neg c]
    show acc.length + 0 + _ ≤ _
    omega
  show (textFrom (k + 1) _ r).length ≤ _
  rw [piled_cons]
  omega
theorem jjw (ts:List Str):(listText ts).length ≤ piled ts + 2:=by
 unfold listText
 rw [strLen_append]
 have:=jfe ts 0 (("[":String):Str)
 have e1:((("[":String):Str)).length = 1:=rfl
 have e2:((("]":String):Str)).length = 1:=rfl
 omega
theorem ji6 (ts:List Str):(tupleText ts).length ≤ piled ts + 3:=by
 unfold tupleText
 rw [strLen_append,strLen_append]
 have e1:((("(":String):Str)).length = 1:=rfl
 have e2:(((if ts.length == 1 then ",)" else ")":String):Str)).length ≤ 2:=by
  split
  ·exact Nat.le_refl _
  ·exact Nat.le_succ _
 by_cases c:ts = []
 ·subst c
  have e3:(Str.join ", " []).length = 0:=rfl
  omega
 ·have:=join_length_add ts c
  omega
mutual
theorem jic:∀ (d:Dt),shrt d→(pdOf d).shown.length + 2 ≤ 69 * cntD d
 | .non,_=>by simp only [pdOf,cntD,PyData.shown]; decide
 | .bl b,_=>by simp only [pdOf,cntD,PyData.shown]; cases b <;> decide
 | .int i,h=>by
  simp only [pdOf,cntD,PyData.shown]
  rw [shrt] at h
  have:=int_text_length_le (by decide) h
  have e:(Str.ofString (toString i)).length = (toString i).length:=PySem.ofString_length _
  show (Str.ofString (toString i)).length + 2 ≤ _
  omega
 | .str x,h=>by
  simp only [pdOf,cntD,PyData.shown]
  rw [shrt] at h
  omega
 | .tup ds,h=>by
  rw [shrt] at h
  simp only [pdOf,cntD,PyData.shown]
  have h1:=jef ds h
  have h2:=ji6 (PyData.shownAll (jd7 ds))
  omega
 | .lst ds,h=>by
  rw [shrt] at h
  simp only [pdOf,cntD,PyData.shown]
  have h1:=jef ds h
  have h2:=jjw (PyData.shownAll (jd7 ds))
  omega
theorem jef:∀ (ds:List Dt),jdy ds→piled (PyData.shownAll (jd7 ds)) ≤ 69 * jeq ds
 | [],_=>by simp only [jd7,jeq,PyData.shownAll,piled_nil]; omega
 | d :: ds,h=>by
  rw [jdy] at h
  simp only [jd7,jeq,PyData.shownAll,piled_cons]
  have h1:=jic d h.1
  have h2:=jef ds h.2
  omega
end
mutual
theorem jkf:∀ (d:Dt),shrt d→(pdOf d).showable = true
 | .non,_=>by simp only [pdOf,PyData.showable]
 | .bl b,_=>by simp only [pdOf,PyData.showable]
 | .int i,h=>by
  rw [shrt] at h
  simp only [pdOf,PyData.showable]
  exact decide_eq_true (by omega)
 | .str x,h=>by simp only [pdOf,PyData.showable]
 | .tup ds,h=>by rw [shrt] at h; simp only [pdOf,PyData.showable]; exact jfh ds h
 | .lst ds,h=>by rw [shrt] at h; simp only [pdOf,PyData.showable]; exact jfh ds h
theorem jfh:∀ (ds:List Dt),jdy ds→PyData.showableAll (jd7 ds) = true
 | [],_=>by simp only [jd7,PyData.showableAll]
 | d :: ds,h=>by
  rw [jdy] at h
  simp only [jd7,PyData.showableAll,Bool.and_eq_true]
  exact ⟨jkf d h.1,jfh ds h.2⟩
end
mutual
theorem jij:∀ (d:Dt),(pdOf d).hasDict = false
 | .non=>by simp only [pdOf,PyData.hasDict]
 | .bl b=>by simp only [pdOf,PyData.hasDict]
 | .int i=>by simp only [pdOf,PyData.hasDict]
 | .str x=>by simp only [pdOf,PyData.hasDict]
 | .tup ds=>by simp only [pdOf,PyData.hasDict]; exact jeh ds
 | .lst ds=>by simp only [pdOf,PyData.hasDict]; exact jeh ds
theorem jeh:∀ (ds:List Dt),PyData.hasDictAll (jd7 ds) = false
 | []=>by simp only [jd7,PyData.hasDictAll]
 | d :: ds=>by simp only [jd7,PyData.hasDictAll,jij d,jeh ds,Bool.or_self]
end
mutual
def dpD:Dt→Nat
 | .tup ds=>dpDs ds + 1
 | .lst ds=>dpDs ds + 1
 | _=>0
def dpDs:List Dt→Nat
 | []=>0
 | d :: ds=>max (dpD d) (dpDs ds)
end
mutual
theorem jkm:∀ (d:Dt),(pdOf d).depth ≤ 2 * dpD d + 2
 | .non=>by simp only [pdOf,PyData.depth]; omega
 | .bl b=>by simp only [pdOf,PyData.depth]; omega
 | .int i=>by simp only [pdOf,PyData.depth]; omega
 | .str x=>by simp only [pdOf,PyData.depth]; omega
 | .tup ds=>by
  have:=jfm ds
  simp only [pdOf,PyData.depth,dpD]
  omega
 | .lst ds=>by
  have:=jfm ds
  simp only [pdOf,PyData.depth,dpD]
  omega
theorem jfm:∀ (ds:List Dt),PyData.depthAll (jd7 ds) ≤ 2 * dpDs ds + 2
 | []=>by simp only [jd7,PyData.depthAll]; omega
 | d :: ds=>by
  have h1:=jkm d
  have h2:=jfm ds
  simp only [jd7,PyData.depthAll,dpDs]
  omega
end
section
variable {X:Cx} {pins:List (Addr × Obj)} {σ:St} {H:Hp} {s:Shared}
mutual
theorem jkh (I:Inv X pins σ H s):∀ (d:Dt) {v:V} {u:Value},Rep H d v→RelV v u→∃ as,Reads s.heap u (pdOf d) as
 | .non,_,_,h,r=>by
  rw [Rep] at h; subst h
  cases (show _ = Value.none from r)
  exact ⟨_,.none⟩
 | .bl b,_,_,h,r=>by
  rw [Rep] at h; subst h
  cases (show _ = Value.bool b from r)
  exact ⟨_,.bool b⟩
 | .int i,_,_,h,r=>by
  rw [Rep] at h; subst h
  obtain ⟨t,rfl⟩:=r
  exact ⟨_,.int i t⟩
 | .str x,_,_,h,r=>by
  rw [Rep] at h; subst h
  obtain ⟨t,rfl⟩:=r
  exact ⟨_,.str x t⟩
 | .tup ds,_,_,h,r=>by
  rw [Rep] at h
  obtain ⟨a,vs,rfl,e,rs⟩:=h
  cases (show _ = Value.ref a from r)
  obtain ⟨_,its,rv,o,h1,h2,h3⟩:=(show jbp X.prog X.w H s.heap a (.tup vs) from I.hok a _ e)
  obtain ⟨as,ra⟩:=jfi I ds rs rv
  obtain ⟨n,h3⟩:∃ n,o.data = .seq its.toArray n:=by first | exact ⟨_,h3⟩ | exact h3 | (obtain ⟨n,z⟩:=h3; exact ⟨n,z⟩)
  exact ⟨as,.tuple h1 h2 h3 (by simpa using ra)⟩
 | .lst ds,_,_,h,r=>by
  rw [Rep] at h
  obtain ⟨a,vs,rfl,e,rs⟩:=h
  cases (show _ = Value.ref a from r)
  obtain ⟨_,its,n,rv,_,eo⟩:=I.lstM e
  obtain ⟨as,ra⟩:=jfi I ds rs rv
  exact ⟨_,.list eo rfl rfl (by simpa using ra)⟩
theorem jfi (I:Inv X pins σ H s):∀ (ds:List Dt) {vs:List V} {us:List Value},Reps H ds vs→Vals vs us→∃ as,ReadsAll s.heap us (jd7 ds) as
 | [],_,_,h,r=>by
  rw [Reps] at h; subst h
  cases r
  exact ⟨_,.nil⟩
 | d :: ds,_,_,h,r=>by
  rw [Reps] at h
  obtain ⟨v,q,rfl,h1,h2⟩:=h
  cases r with
  | cons r1 r2 =>
   obtain ⟨as,ra⟩:=jkh I d h1 r1
   obtain ⟨bs,rb⟩:=jfi I ds h2 r2
   exact ⟨_,.cons ra rb⟩
end
end
def fRepr:List V→Hp→VK→Prop:=fun vs H Q=>∃ a d,vs = [.ref a]∧Rep H d (.ref a)∧shrt d∧cntD d ≤ 100000∧dpD d ≤ 20∧Q (.str (pdOf d).shown) H
theorem jpy {X:Cx} {k:Nat} (hr:Room k X.A):jch X (.builtin "repr") fRepr:=by
 intro pins s σ H vs us Q I rv h
 obtain ⟨a,d,rfl,hd,hs,hc,hp,q⟩:=h
 obtain ⟨u,rfl,ru⟩:=jgw rv
 obtain ⟨as,ra⟩:=jkh I d hd ru
 cases ru
 have h1:=jic d hs
 have h2:(7000000:Nat) ≤ sizeLine:=by decide
 have h3:=jkm d
 have h4:=hr.un
 exact repr_of_reads' ra (jkf d hs) (PyData.noDict_hsm (jij d)) hr.gd (by omega) (fun _ _ e=>e) (fun h' t tk hk=>⟨.str (pdOf d).shown,H,I.kept (h':=h') (t':=tk) hk,⟨t,rfl⟩,q⟩) (by omega)
end L2
namespace My
open PySem L2
section
variable {P:Program} {w:World} {K:PySem.W.Frag} {mg:Str→Option Value} {base:Heap} {c1 c2 c3 c4:Tok} {C_NoWeb f_NoWeb:Addr} {dI:FuncData}
def IRow (H:Hp) (v:V) (r:List Int):Prop:=∃ t,v = .ref t∧H t = some (.tup (r.map V.int))
abbrev jas (H:Hp) (xs:List V) (rs:List (List Int)):Prop:=Paired (IRow H) xs rs
theorem IRow.tups {H H':Hp} {v:V} {r:List Int} (h:IRow H v r) (s:TupS H H'):IRow H' v r:=let ⟨t,e,q⟩:=h; ⟨t,e,s _ _ rfl q⟩
theorem jas.tups {H H':Hp} {xs:List V} {rs:List (List Int)} (h:jas H xs rs) (s:TupS H H'):jas H' xs rs:=Paired.mapP h fun _ _ q=>q.tups s
theorem jas.set {H:Hp}:∀ {xs:List V} {rs:List (List Int)} {v:V} {r:List Int} (i:Nat),jas H xs rs→IRow H v r→jas H (xs.set i v) (rs.set i r)
 | _,_,_,_,_,.nil,_=>.nil
 | _,_,_,_,0,.cons _ t,h=>.cons h t
 | _,_,_,_,i + 1,.cons a t,h=>.cons a (jas.set i t h)
theorem jgq {H:Hp} {st a:Addr} {o:HO} {xs:List V} {rs:List (List Int)} (e:H st = some o) (so:StO o) (ea:H a = some (.lst xs)) (p:jas H xs rs):a ≠ st:=jqx e so ea fun v hv=>by
 obtain ⟨i,hi,rfl⟩:=List.mem_iff_getElem.mp hv
 obtain ⟨r,_,t,et,_⟩:=jaf p (List.getElem?_eq_getElem hi)
 exact ⟨t,et⟩
def But2 (s l:Addr) (H H':Hp):Prop:=∀ b o,b ≠ s→b ≠ l→H b = some o→H' b = some o
theorem But2.trans {s l:Addr} {H H1 H2:Hp} (a:But2 s l H H1) (b:But2 s l H1 H2):But2 s l H H2:=fun c o n m q=>b c o n m (a c o n m q)
theorem But.two {s l:Addr} {H H':Hp} (h:But s H H'):But2 s l H H':=fun b o n _ q=>h b o n q
theorem But2.at (s l:Addr) (H:Hp) (o:HO):But2 s l H (upd H l o):=fun b u _ n q=>by rw [jaa n]; exact q
def RwB (B:Int) (r:List Int):Prop:=2 ≤ r.length∧r.length ≤ 3∧∀ i ∈ r,-B ≤ i∧i ≤ B
theorem jid {H:Hp} {xs:List V} {rs:List (List Int)} (p:jas H xs rs) {k:Int} (h0:0 ≤ k) (h1:k < rs.length):∃ t r,atI xs k = some (.ref t)∧H t = some (.tup (r.map V.int))∧r ∈ rs∧ixN xs.length k = some k.toNat:=by
 have hl:xs.length = rs.length:=Paired.length p
 have hk:k.toNat < rs.length:=by omega
 obtain ⟨v,hv,t,rfl,ht⟩:=jeu p (List.getElem?_eq_getElem hk)
 have hx:=jkw (n:=xs.length) h0 (by omega)
 refine ⟨t,_,?_,ht,List.getElem_mem hk,hx⟩
 unfold atI
 rw [hx]
 exact hv
theorem jkg {r:List Int} {B:Int} (h:RwB B r):∃ r0 z,r = r0 ++ [z]∧r0 ≠ []:=by
 obtain ⟨h1,h2,_⟩:=h
 match r,h1,h2 with
 | [a,b],_,_=>exact ⟨[a],b,rfl,by simp⟩
 | [a,b,c],_,_=>exact ⟨[a,b],c,rfl,by simp⟩
theorem jl5 (r0:List V) (z:V):cutV (r0 ++ [z]) none (some (-1)) = r0:=by
 unfold cutV HT.sIx
 have e:((-1:Int) + ((r0 ++ [z]).length:Int)).toNat = r0.length:=by rw [List.length_append,List.length_singleton]; omega
 simp only [show (-1:Int) < 0 by decide,if_true,e,List.drop_zero,Nat.sub_zero]
 exact List.take_left'  rfl
theorem jo1 (r0:List V) (z:V):¬ (HT.sIx (r0 ++ [z]).length 0 none = 0∧HT.sIx (r0 ++ [z]).length (r0 ++ [z]).length (some (-1)) = (r0 ++ [z]).length):=fun h=>by
 have h2:=h.2
 unfold HT.sIx at h2
 simp only [show (-1:Int) < 0 by decide,if_true,List.length_append,List.length_singleton] at h2
 omega
theorem RwB.snoc {B C m:Int} {r0:List Int} {z:Int} (h:RwB B (r0 ++ [z])) (hm:-2 ≤ m∧m ≤ 2) (hc:B + 2 ≤ C):RwB C (r0 ++ [z + m]):=by
 obtain ⟨h1,h2,h3⟩:=h
 rw [List.length_append,List.length_singleton] at h1 h2
 refine ⟨by rw [List.length_append,List.length_singleton]; exact h1,by rw [List.length_append,List.length_singleton]; exact h2,fun i hi=>?_⟩
 rcases List.mem_append.mp hi with q | q
 ·have:=h3 i (List.mem_append_left _ q); omega
 ·have:=h3 z (List.mem_append_right _ (List.mem_singleton.mpr rfl))
  rw [List.mem_singleton.mp q]
  omega
theorem RwB.mono {B C:Int} {r:List Int} (h:RwB B r) (hc:B ≤ C):RwB C r:=⟨h.1,h.2.1,fun i hi=>by have:=h.2.2 i hi; omega⟩
theorem jdp {α:Type} {F:α→Prop} {rs:List α} {r:α} {k:Nat} (h:∀ x ∈ rs,F x) (hr:F r):∀ x ∈ rs.set k r,F x:=fun x hx=>by
 rcases List.mem_or_eq_of_mem_set hx with q | q
 ·exact h x q
 ·rw [q]; exact hr
def jm4:Sp:=fun vs H Q _=>∃ (st l:Addr) (o:HO) (xs:List V) (rs:List (List Int)),vs = [.ref st,.ref l]∧H st = some o∧StO o∧H l = some (.lst xs)∧jas H xs rs∧rs ≠ []∧rs.length ≤ 81∧(∀ r ∈ rs,RwB 2000000000000 r) ∧
 ∀ (H':Hp) (o':HO) (xs':List V) (rs':List (List Int)),But2 st l H H'→H' st = some o'→StO o'→H' l = some (.lst xs')→jas H' xs' rs'→rs'.length = rs.length→(∀ r ∈ rs',RwB 2000000000004 r)→Q (.ref l) H'
def jpp:Sp:=fun vs H Q _=>∃ (st l:Addr) (o:HO) (xs:List V) (rs:List (List Int)),vs = [.ref st,.ref l]∧H st = some o∧StO o∧H l = some (.lst xs)∧jas H xs rs∧rs ≠ []∧rs.length ≤ 81∧(∀ r ∈ rs,RwB 2000000000000 r∧r.length = 3) ∧
 ∀ (p:Addr) (H':Hp) (o':HO) (xs':List V) (rs':List (List Int)),But st H H'→H' st = some o'→StO o'→H' p = some (.lst xs')→jas H' xs' rs'→rs'.length = rs.length + 1→(∀ r ∈ rs',RwB 2000000000004 r)→Q (.ref p) H'
theorem jd1 {α β:Type} {F:α→β→Prop}:∀ (n:Nat) {xs:List α} {ys:List β},Paired F xs ys→Paired F (xs.take n) (ys.take n)
 | 0,_,_,_=>.nil
 | _ + 1,_,_,.nil=>.nil
 | n + 1,_,_,.cons a t=>.cons a (jd1 n t)
theorem jd2 {α β:Type} {F:α→β→Prop}:∀ (n:Nat) {xs:List α} {ys:List β},Paired F xs ys→Paired F (xs.drop n) (ys.drop n)
 | 0,_,_,h=>h
 | _ + 1,_,_,.nil=>.nil
 | n + 1,_,_,.cons _ t=>jd2 n t
theorem jca {α β:Type} {F:α→β→Prop}:∀ {xs xs':List α} {ys ys':List β},Paired F xs ys→Paired F xs' ys'→Paired F (xs ++ xs') (ys ++ ys')
 | _,_,_,_,.nil,h=>h
 | _,_,_,_,.cons a t,h=>.cons a (jca t h)
theorem jo0 {xs:List V} {k:Int} (h0:0 ≤ k) (h1:k ≤ xs.length):cutV xs none (some k) = xs.take k.toNat:=by
 unfold cutV HT.sIx
 simp only [List.drop_zero]
 congr 1
 split <;> omega
theorem jhr {xs:List V} {k:Int} (h0:0 ≤ k) (h1:k ≤ xs.length):cutV xs (some k) none = xs.drop k.toNat:=by
 unfold cutV HT.sIx
 simp only [if_neg (show ¬ k < 0 by omega)]
 rw [Nat.min_eq_left (by omega)]
 exact List.take_of_length_le (by rw [List.length_drop]; exact Nat.le_refl _)
theorem row3 {r:List Int} (h:r.length = 3):∃ a b c,r = [a,b,c]:=by
 match r,h with
 | [a,b,c],_=>exact ⟨a,b,c,rfl⟩
theorem jg9 {f:Addr} {fd:FuncData} {f_law_take:Addr} {d_law_take:FuncData} (B:Blt mg) (D:DefAt K mg "_law_shifted" (top 37) ["_law_state","_law_some"] f fd) (D_law_take:DefAt K mg "_law_take" (top 30) ["_law_state","_law_many"] f_law_take d_law_take) (G_law_take:FnOk P w K mg base CX0 1 f_law_take d_law_take ["_law_state","_law_many"] jgi):FnOk P w K mg base CX0 2 f fd ["_law_state","_law_some"] jm4:=by
 have sc:FnScope ["_law_state","_law_some","_law_at","_law_other","_law_many"] ["_law_state","_law_some"] (jac (top 37)):=⟨rfl,rfl,rfl,by decide +kernel,rfl,by decide +kernel,by decide +kernel⟩
 refine D.F.ok sc (fun vs H Q E h=>?_) (fun cdv A outer s H vs Q E hr h=>?_)
 ·obtain ⟨st,l,o,xs,rs,rfl,_⟩:=h
  rfl
 obtain ⟨st,l,o,xs,rs,rfl,e,so,el,pr,ne,hlen,hb,h⟩:=h
 have hu:=jbo hr
 have hu0:_ < PySem.cLine:=Nat.lt_of_succ_lt hu
 refine ⟨_,(ja5 (jae (i:=2) sc.nd rfl (Or.inl rfl) (ja8 G_law_take (hr.mono (by decide)) rfl D_law_take.m D_law_take.F.kp D_law_take.b .nil jar (ja0 (qv 0) (ja0 (ja9 jci rfl B.len PySem.boot_len (ja0 (qv 1) ja3)) ja3)))) (ja5 (jae (i:=3) sc.nd rfl (Or.inl rfl) (ja8 G_law_take (hr.mono (by decide)) rfl D_law_take.m D_law_take.F.kp D_law_take.b .nil jar (ja0 (qv 0) (ja0 (ja9 jci rfl B.len PySem.boot_len (ja0 (qv 1) ja3)) ja3)))) (ja5 (jae (i:=4) sc.nd rfl (Or.inl rfl) (jap jbr ja2 (ja8 G_law_take (hr.mono (by decide)) rfl D_law_take.m D_law_take.F.kp D_law_take.b .nil jar (ja0 (qv 0) (ja0 ja2 ja3))))) (ja5 (jcl (jap jgm (jb2 jdz (jab q_ix (qv 1) (qv 2) (fun _ _=>rfl)) jbj (jbi (je3 je0 ja2))) (jb7 (ja0 (jap jbr (jab q_ix (jab q_ix (qv 1) (qv 2) (fun _ _=>rfl)) (je3 je0 ja2) (fun _ _=>rfl)) (qv 4)) ja3))) (jcv (qv 1) (qv 2) jct)) (ja5 (jcl (jap jgm (jb2 jdz (jab q_ix (qv 1) (qv 3) (fun _ _=>rfl)) jbj (jbi (je3 je0 ja2))) (jb7 (ja0 (jap jmm (jab q_ix (jab q_ix (qv 1) (qv 3) (fun _ _=>rfl)) (je3 je0 ja2) (fun _ _=>rfl)) (qv 4)) ja3))) (jcv (qv 1) (qv 3) jct)) (ja6 (jan (qv 1)))))))),?_⟩
 have hlx:xs.length = rs.length:=Paired.length pr
 have hpos:0 < rs.length:=List.length_pos_iff.mpr ne
 refine jao fun R hR=>?_
 have nl:l ≠ st:=jgq e so el pr
 simp_arith [jag,el]
 refine ⟨st,o,_,rfl,e,so,by omega,by omega,fun at' o1 a0 a1 so1=>?_⟩
 have b1:=But.at st H o1
 have e1:upd H st o1 st = some o1:=ja1
 have el1:=b1 _ _ nl el
 generalize upd H st o1 = H1 at b1 e1 el1
 subst hR
 refine jao fun R hR=>?_
 simp_arith [jag,el1]
 refine ⟨st,o1,_,rfl,e1,so1,by omega,by omega,fun ot o2 t0 t1 so2=>?_⟩
 have b2:=b1.trans (But.at st H1 o2)
 have e2:upd H1 st o2 st = some o2:=ja1
 have el2:=But.at st H1 o2 _ _ nl el1
 generalize upd H1 st o2 = H2 at b2 e2 el2
 subst hR
 refine jao fun R hR=>?_
 walk_at "RD"
 refine ⟨st,o2,2,rfl,e2,so2,by decide,by decide,fun d o3 d0 d1 so3=>?_⟩
 have b3:=b2.trans (But.at st H2 o3)
 have e3:upd H2 st o3 st = some o3:=ja1
 have el3:=But.at st H2 o3 _ _ nl el2
 generalize upd H2 st o3 = H3 at b3 e3 el3
 subst hR
 refine jao fun R hR=>?_
 have pr3:=jas.tups pr (b3.tups e so.imm)
 clear el1 el2 e1 e2 b1 b2
 obtain ⟨t1,r1,g1,g2,g3,g4⟩:=jid pr3 a0 (by omega)
 obtain ⟨r0,z,rfl,hr0⟩:=jkg (hb _ g3)
 rw [List.map_append] at g2
 have hr0':r0.map V.int ≠ []:=fun q=>hr0 (List.map_eq_nil_iff.mp q)
 have hrl:r0.length ≤ 3:=by have:=(hb _ g3).2.1; rw [List.length_append] at this; omega
 simp_arith [jag,el3,g1,g2,List.map_cons,List.map_nil]
 refine ⟨jo1 _ _,fun p1 hp1=>?_⟩
 rw [jl5]
 have s4:=ja4 hp1 (.tup (r0.map V.int))
 have ep1:upd H3 p1 (.tup (r0.map V.int)) p1 = some (.tup (r0.map V.int)):=ja1
 generalize upd H3 p1 (.tup (r0.map V.int)) = H4 at s4 ep1
 simp_arith [jag,s4 _ _ el3,g1,s4 _ _ g2,List.map_cons,List.map_nil,jl8]
 intro p2 hp2
 have s5:=s4.trans (ja4 hp2 (.tup [.int (z + (1 + d))]))
 have ep2:upd H4 p2 (.tup [.int (z + (1 + d))]) p2 = some (.tup [.int (z + (1 + d))]):=ja1
 have ep1':=ja4 hp2 (.tup [.int (z + (1 + d))]) _ _ ep1
 generalize upd H4 p2 (.tup [.int (z + (1 + d))]) = H5 at s5 ep2 ep1'
 simp_arith [jiz,ep1',ep2]
 refine ⟨szl' (by rw [List.length_map]; omega),by simp,?_⟩
 rw [if_neg hr0']
 intro p3 hp3
 have s6:=s5.trans (ja4 hp3 (.tup (r0.map V.int ++ [.int (z + (1 + d))])))
 have ep3:upd H5 p3 (.tup (r0.map V.int ++ [.int (z + (1 + d))])) p3 = some (.tup (r0.map V.int ++ [.int (z + (1 + d))])):=ja1
 generalize upd H5 p3 (.tup (r0.map V.int ++ [.int (z + (1 + d))])) = H6 at s6 ep3
 have elN:=s6 _ _ el3
 simp only [elN,g4]
 have prN:=jas.set at'.toNat (jas.tups pr3 s6.tups) (r:=r0 ++ [z + (1 + d)]) ⟨p3,rfl,by rw [ep3,List.map_append]; rfl⟩
 have hbN:=jdp (k:=at'.toNat) (fun r hr=>(hb r hr).mono (show 2000000000000 ≤ 2000000000002 by decide)) (RwB.snoc (m:=1 + d) (C:=2000000000002) (hb _ g3) (by omega) (by decide))
 have buN:=(But.two (l:=l) b3).trans (((But.same (s:=st) s6).two (l:=l)).trans (But2.at st l H6 (.lst (xs.set at'.toNat (.ref p3)))))
 have eN:upd H6 l (.lst (xs.set at'.toNat (.ref p3))) st = some o3:=by rw [jaa (Ne.symm nl)]; exact s6 _ _ e3
 have ellN:upd H6 l (.lst (xs.set at'.toNat (.ref p3))) l = some (.lst (xs.set at'.toNat (.ref p3))):=ja1
 have prNN:=jas.tups prN (jaz (ys:=xs.set at'.toNat (.ref p3)) elN)
 generalize hxA:xs.set at'.toNat (.ref p3) = xsA at buN eN ellN prNN ⊢
 generalize upd H6 l (.lst xsA) = HA at buN eN ellN prNN
 generalize hrA:rs.set at'.toNat (r0 ++ [z + (1 + d)]) = rsA at prNN hbN
 have hlA:rsA.length = rs.length:=by rw [← hrA,List.length_set]
 have prA:=prNN
 have hbA:=hbN
 have buA:=buN
 have elA:=ellN
 have eA:=eN
 clear prNN prN hbN buN ellN eN elN ep3 ep2 ep1 ep1' s6 s5 s4 hp1 hp2 hp3 g1 g2 g3 g4 hr0' hrl hr0 hrA el3 pr3 hb b3
 subst hR
 refine jao fun R hR=>?_
 obtain ⟨t1,r1,g1,g2,g3,g4⟩:=jid prA t0 (by omega)
 obtain ⟨r0,z,rfl,hr0⟩:=jkg (hbA _ g3)
 rw [List.map_append] at g2
 have hr0':r0.map V.int ≠ []:=fun q=>hr0 (List.map_eq_nil_iff.mp q)
 have hrl:r0.length ≤ 3:=by have:=(hbA _ g3).2.1; rw [List.length_append] at this; omega
 simp_arith [jag,elA,g1,g2,List.map_cons,List.map_nil]
 refine ⟨jo1 _ _,fun p1 hp1=>?_⟩
 rw [jl5]
 have s4:=ja4 hp1 (.tup (r0.map V.int))
 have ep1:upd HA p1 (.tup (r0.map V.int)) p1 = some (.tup (r0.map V.int)):=ja1
 generalize upd HA p1 (.tup (r0.map V.int)) = H4 at s4 ep1
 simp_arith [jag,s4 _ _ elA,g1,s4 _ _ g2,List.map_cons,List.map_nil,jl8]
 intro p2 hp2
 have s5:=s4.trans (ja4 hp2 (.tup [.int (z - (1 + d))]))
 have ep2:upd H4 p2 (.tup [.int (z - (1 + d))]) p2 = some (.tup [.int (z - (1 + d))]):=ja1
 have ep1':=ja4 hp2 (.tup [.int (z - (1 + d))]) _ _ ep1
 generalize upd H4 p2 (.tup [.int (z - (1 + d))]) = H5 at s5 ep2 ep1'
 simp_arith [jiz,ep1',ep2]
 refine ⟨szl' (by rw [List.length_map]; omega),by simp,?_⟩
 rw [if_neg hr0']
 intro p3 hp3
 have s6:=s5.trans (ja4 hp3 (.tup (r0.map V.int ++ [.int (z - (1 + d))])))
 have ep3:upd H5 p3 (.tup (r0.map V.int ++ [.int (z - (1 + d))])) p3 = some (.tup (r0.map V.int ++ [.int (z - (1 + d))])):=ja1
 generalize upd H5 p3 (.tup (r0.map V.int ++ [.int (z - (1 + d))])) = H6 at s6 ep3
 have elN:=s6 _ _ elA
 simp only [elN,g4]
 have prN:=jas.set ot.toNat (jas.tups prA s6.tups) (r:=r0 ++ [z - (1 + d)]) ⟨p3,rfl,by rw [ep3,List.map_append]; rfl⟩
 have hbN:=jdp (k:=ot.toNat) (fun r hr=>(hbA r hr).mono (show 2000000000002 ≤ 2000000000004 by decide)) (RwB.snoc (m:=-(1 + d)) (C:=2000000000004) (hbA _ g3) (by omega) (by decide))
 have buN:=buA.trans (((But.same (s:=st) s6).two (l:=l)).trans (But2.at st l H6 (.lst (xsA.set ot.toNat (.ref p3)))))
 have eN:upd H6 l (.lst (xsA.set ot.toNat (.ref p3))) st = some o3:=by rw [jaa (Ne.symm nl)]; exact s6 _ _ eA
 have ellN:upd H6 l (.lst (xsA.set ot.toNat (.ref p3))) l = some (.lst (xsA.set ot.toNat (.ref p3))):=ja1
 have prNN:=jas.tups prN (jaz (ys:=xsA.set ot.toNat (.ref p3)) elN)
 subst hR
 walk_at "RD"
 exact h _ o3 _ _ buN eN so3 ellN prNN (by rw [List.length_set]; exact hlA) hbN
theorem jhe {f:Addr} {fd:FuncData} {f_law_take:Addr} {d_law_take:FuncData} (B:Blt mg) (D:DefAt K mg "_law_parted" (top 38) ["_law_state","_law_some"] f fd) (D_law_take:DefAt K mg "_law_take" (top 30) ["_law_state","_law_many"] f_law_take d_law_take) (G_law_take:FnOk P w K mg base CX0 1 f_law_take d_law_take ["_law_state","_law_many"] jgi):FnOk P w K mg base CX0 2 f fd ["_law_state","_law_some"] jpp:=by
 have sc:FnScope ["_law_state","_law_some","_law_at","_law_one"] ["_law_state","_law_some"] (jac (top 38)):=⟨rfl,rfl,rfl,by decide +kernel,rfl,by decide +kernel,by decide +kernel⟩
 refine D.F.ok sc (fun vs H Q E h=>?_) (fun cdv A outer s H vs Q E hr h=>?_)
 ·obtain ⟨st,l,o,xs,rs,rfl,_⟩:=h
  rfl
 obtain ⟨st,l,o,xs,rs,rfl,e,so,el,pr,ne,hlen,hb,h⟩:=h
 have hu:=jbo hr
 have hu0:_ < PySem.cLine:=Nat.lt_of_succ_lt hu
 refine ⟨_,(ja5 (jae (i:=2) sc.nd rfl (Or.inl rfl) (ja8 G_law_take (hr.mono (by decide)) rfl D_law_take.m D_law_take.F.kp D_law_take.b .nil jar (ja0 (qv 0) (ja0 (ja9 jci rfl B.len PySem.boot_len (ja0 (qv 1) ja3)) ja3)))) (ja5 (jae (i:=3) sc.nd rfl (Or.inl rfl) (jab q_ix (qv 1) (qv 2) (fun _ _=>rfl))) (ja6 (jan (jap q_cat (jap q_cat (jb2 q_slL (qv 1) jbj (jbi (qv 2))) (jc1 (ja0 (jap jgm (jb2 jdz (qv 3) jbj (jbi ja2)) (jb7 (ja0 ja2 ja3))) (ja0 (jap jgm (jb2 jdz (qv 3) jbj (jbi ja2)) (jb7 (ja0 (jap jmm (jab q_ix (qv 3) ja2 (fun _ _=>rfl)) ja2) ja3))) ja3)))) (jb2 q_slL (qv 1) (jbi (jap jbr (qv 2) ja2)) jbj)))))),?_⟩
 have hlx:xs.length = rs.length:=Paired.length pr
 have hpos:0 < rs.length:=List.length_pos_iff.mpr ne
 refine jao fun R hR=>?_
 have nl:l ≠ st:=jgq e so el pr
 simp_arith [jag,el]
 refine ⟨st,o,_,rfl,e,so,by omega,by omega,fun k o1 k0 k1 so1=>?_⟩
 have b1:=But.at st H o1
 have e1:upd H st o1 st = some o1:=ja1
 have el1:=b1 _ _ nl el
 have pr1:=jas.tups pr (b1.tups e so.imm)
 generalize upd H st o1 = H1 at b1 e1 el1 pr1
 subst hR
 refine jao fun R hR=>?_
 obtain ⟨t1,r1,g1,g2,g3,g4⟩:=jid pr1 k0 (by omega)
 obtain ⟨a,b,c,rfl⟩:=row3 (hb _ g3).2
 simp_arith [jag,el1,g1]
 subst hR
 simp_arith [jag,el1,g1,g2,List.map_cons,List.map_nil]
 rw [jo0 k0 (by omega)]
 intro p1 hp1
 have q_p1:=ja4 hp1 (.lst (xs.take k.toNat))
 have s2:=(Same.refl H1).trans q_p1
 have e_p1:upd H1 p1 (.lst (xs.take k.toNat)) p1 = some (.lst (xs.take k.toNat)):=ja1
 generalize upd H1 p1 (.lst (xs.take k.toNat)) = H2 at q_p1 s2 e_p1
 have f2:=s2 _ _ g2
 simp only [f2,List.map_cons,List.map_nil,cut3]
 refine ⟨jk3 _ _ _,?_⟩
 intro p2 hp2
 have q_p2:=ja4 hp2 (.tup [.int a,.int b])
 have s3:=s2.trans q_p2
 have e_p2:upd H2 p2 (.tup [.int a,.int b]) p2 = some (.tup [.int a,.int b]):=ja1
 have e_p1:=q_p2 _ _ e_p1
 generalize upd H2 p2 (.tup [.int a,.int b]) = H3 at q_p2 s3 e_p2 e_p1
 intro p3 hp3
 have q_p3:=ja4 hp3 (.tup [.int 1])
 have s4:=s3.trans q_p3
 have e_p3:upd H3 p3 (.tup [.int 1]) p3 = some (.tup [.int 1]):=ja1
 have e_p1:=q_p3 _ _ e_p1
 have e_p2:=q_p3 _ _ e_p2
 generalize upd H3 p3 (.tup [.int 1]) = H4 at q_p3 s4 e_p3 e_p1 e_p2
 simp only [jiz,e_p2,e_p3]
 refine ⟨szl (by simp only [List.length_cons,List.length_nil]; decide),by simp,?_⟩
 rw [if_neg (by simp)]
 simp only [List.cons_append,List.nil_append]
 intro p4 hp4
 have q_p4:=ja4 hp4 (.tup [.int a,.int b,.int 1])
 have s5:=s4.trans q_p4
 have e_p4:upd H4 p4 (.tup [.int a,.int b,.int 1]) p4 = some (.tup [.int a,.int b,.int 1]):=ja1
 have e_p1:=q_p4 _ _ e_p1
 generalize upd H4 p4 (.tup [.int a,.int b,.int 1]) = H5 at q_p4 s5 e_p4 e_p1
 have f5:=s5 _ _ g2
 simp only [f5,List.map_cons,List.map_nil,cut3]
 refine ⟨jk3 _ _ _,?_⟩
 intro p5 hp5
 have q_p5:=ja4 hp5 (.tup [.int a,.int b])
 have s6:=s5.trans q_p5
 have e_p5:upd H5 p5 (.tup [.int a,.int b]) p5 = some (.tup [.int a,.int b]):=ja1
 have e_p1:=q_p5 _ _ e_p1
 have e_p4:=q_p5 _ _ e_p4
 generalize upd H5 p5 (.tup [.int a,.int b]) = H6 at q_p5 s6 e_p5 e_p1 e_p4
 have f6:=s6 _ _ g2
 simp only [f6,List.map_cons,List.map_nil,at2]
 intro p6 hp6
 have q_p6:=ja4 hp6 (.tup [.int (c - 1)])
 have s7:=s6.trans q_p6
 have e_p6:upd H6 p6 (.tup [.int (c - 1)]) p6 = some (.tup [.int (c - 1)]):=ja1
 have e_p1:=q_p6 _ _ e_p1
 have e_p4:=q_p6 _ _ e_p4
 have e_p5:=q_p6 _ _ e_p5
 generalize upd H6 p6 (.tup [.int (c - 1)]) = H7 at q_p6 s7 e_p6 e_p1 e_p4 e_p5
 simp only [jiz,e_p5,e_p6]
 refine ⟨szl (by simp only [List.length_cons,List.length_nil]; decide),by simp,?_⟩
 rw [if_neg (by simp)]
 simp only [List.cons_append,List.nil_append]
 intro p7 hp7
 have q_p7:=ja4 hp7 (.tup [.int a,.int b,.int (c - 1)])
 have s8:=s7.trans q_p7
 have e_p7:upd H7 p7 (.tup [.int a,.int b,.int (c - 1)]) p7 = some (.tup [.int a,.int b,.int (c - 1)]):=ja1
 have e_p1:=q_p7 _ _ e_p1
 have e_p4:=q_p7 _ _ e_p4
 generalize upd H7 p7 (.tup [.int a,.int b,.int (c - 1)]) = H8 at q_p7 s8 e_p7 e_p1 e_p4
 intro p8 hp8
 have q_p8:=ja4 hp8 (.lst [.ref p4,.ref p7])
 have s9:=s8.trans q_p8
 have e_p8:upd H8 p8 (.lst [.ref p4,.ref p7]) p8 = some (.lst [.ref p4,.ref p7]):=ja1
 have e_p1:=q_p8 _ _ e_p1
 have e_p4:=q_p8 _ _ e_p4
 have e_p7:=q_p8 _ _ e_p7
 generalize upd H8 p8 (.lst [.ref p4,.ref p7]) = H9 at q_p8 s9 e_p8 e_p1 e_p4 e_p7
 simp only [e_p1,e_p8]
 refine ⟨szl (by rw [List.length_take]; simp only [List.length_cons,List.length_nil]; omega),?_⟩
 intro p9 hp9
 have q_p9:=ja4 hp9 (.lst (xs.take k.toNat ++ [.ref p4,.ref p7]))
 have sA:=s9.trans q_p9
 have e_p9:upd H9 p9 (.lst (xs.take k.toNat ++ [.ref p4,.ref p7])) p9 = some (.lst (xs.take k.toNat ++ [.ref p4,.ref p7])):=ja1
 have e_p4:=q_p9 _ _ e_p4
 have e_p7:=q_p9 _ _ e_p7
 generalize upd H9 p9 (.lst (xs.take k.toNat ++ [.ref p4,.ref p7])) = HA at q_p9 sA e_p9 e_p4 e_p7
 have fA:=sA _ _ el1
 simp only [fA]
 rw [jhr (by omega) (by omega)]
 intro pA hpA
 have q_pA:=ja4 hpA (.lst (xs.drop (k + 1).toNat))
 have sB:=sA.trans q_pA
 have e_pA:upd HA pA (.lst (xs.drop (k + 1).toNat)) pA = some (.lst (xs.drop (k + 1).toNat)):=ja1
 have e_p4:=q_pA _ _ e_p4
 have e_p7:=q_pA _ _ e_p7
 have e_p9:=q_pA _ _ e_p9
 generalize upd HA pA (.lst (xs.drop (k + 1).toNat)) = HB at q_pA sB e_pA e_p4 e_p7 e_p9
 simp only [e_p9,e_pA]
 refine ⟨szl (by rw [List.length_append,List.length_take,List.length_drop]; simp only [List.length_cons,List.length_nil]; omega),?_⟩
 intro pB hpB
 have q_pB:=ja4 hpB (.lst (xs.take k.toNat ++ [.ref p4,.ref p7] ++ xs.drop (k + 1).toNat))
 have sC:=sB.trans q_pB
 have e_pB:upd HB pB (.lst (xs.take k.toNat ++ [.ref p4,.ref p7] ++ xs.drop (k + 1).toNat)) pB = some (.lst (xs.take k.toNat ++ [.ref p4,.ref p7] ++ xs.drop (k + 1).toNat)):=ja1
 have e_p4:=q_pB _ _ e_p4
 have e_p7:=q_pB _ _ e_p7
 generalize upd HB pB (.lst (xs.take k.toNat ++ [.ref p4,.ref p7] ++ xs.drop (k + 1).toNat)) = HC at q_pB sC e_pB e_p4 e_p7
 have prC:=jas.tups pr1 sC.tups
 have hbr:=(hb _ g3).1.2.2
 have ha:=hbr a (by simp)
 have hb':=hbr b (by simp)
 have hc:=hbr c (by simp)
 refine h pB HC o1 _ (rs.take k.toNat ++ [[a,b,1],[a,b,c - 1]] ++ rs.drop (k + 1).toNat) (b1.trans (But.same sC)) (sC _ _ e1) so1 e_pB (jca (jca (jd1 _ prC) (.cons ⟨p4,rfl,e_p4⟩ (.cons ⟨p7,rfl,e_p7⟩ .nil))) (jd2 _ prC)) ?_ ?_
 ·rw [List.length_append,List.length_append,List.length_take,List.length_drop]
  simp only [List.length_cons,List.length_nil]
  omega
 ·intro r hr
  rcases List.mem_append.mp hr with hr | hr
  ·rcases List.mem_append.mp hr with hr | hr
   ·exact (hb r (List.mem_of_mem_take hr)).1.mono (by decide)
   ·simp only [List.mem_cons,List.not_mem_nil,or_false] at hr
    rcases hr with rfl | rfl
    ·refine ⟨by show 2 ≤ 3; decide,by show 3 ≤ 3; decide,fun i hi=>?_⟩
     simp only [List.mem_cons,List.not_mem_nil,or_false] at hi
     omega
    ·refine ⟨by show 2 ≤ 3; decide,by show 3 ≤ 3; decide,fun i hi=>?_⟩
     simp only [List.mem_cons,List.not_mem_nil,or_false] at hi
     omega
  ·exact (hb r (List.mem_of_mem_drop hr)).1.mono (by decide)
end
end My
namespace HT
open PySem PyProof.Rows
open PySem.SeqAt
open PySem.AutoSeq1 (wpAny_loadPart')
open PySem.MeetsSeq PySem.MeetsSeq2 PySem.MeetsSeq3
section
variable {prog:Program} {w:World} {A:Around} {E:Value→Shared→Prop} {s:Shared}
theorem getItem_tuple_all {t sl:Addr} {items:Array Value} {vl vu:Value} {lo hi:Option Int} {Q:Value→Shared→Prop} (ht:IsTup s.heap t items) (hs:s.heap.IsSliceOf sl vl vu .none) (pl:IsPart vl lo) (pu:IsPart vu hi)
  (hw:sIx items.size 0 lo = 0∧sIx items.size items.size hi = items.size) (h:Q (.ref t) s):wpAny (model prog w) A (getItem (.ref t) (.ref sl)) Q E s:=by
 have hj:sIx items.size items.size hi ≤ items.size:=jpu _ _ (Nat.le_refl _) hi
 obtain ⟨os,hos,hcs,hds⟩:=id hs
 have hTs:s.TypeIs (.ref sl) "slice":=⟨os,hos,hcs⟩
 unfold getItem
 try with_reducible refine wpAny_holding ?_
 first | refine wpAny_bind (wpAny_pure ?_) | skip
 refine wpAny_bind (wpAny_sequenceKey ht.typeIs (by decide) ?_)
 refine wpAny_bind (wpAny_callSpecial?_slot (name:=Str.ofString "__getitem__") ht.typeIs PyProof.Rows.slot_tuple_getitem
  (wpAny_call_entry PyProof.Rows.slot_tuple_getitem ht.typeIs entry_tuple_getitem ?_ (args_tuple_getitem _ _)))
 show wpAny _ _ (Builtin.Tuple.tupleItemsOf (.ref t) >>= _) _ _ s
 refine wpAny_bind (tupleItemsOf_ ht ?_)
 refine wpAny_bind (wpAny_typeOf hTs ?_)
 rw [if_pos (by decide)]
 refine wpAny_bind (jd5 hs pl pu ?_)
 have hyes:(((sIx items.size 0 lo:Nat):Int) == 0 && (1:Int) == 1 && (sIx items.size items.size hi - sIx items.size 0 lo) == items.size) = true:=by
  rw [hw.1,hw.2,Nat.sub_zero]
  simp
 show wpAny _ _ (if (((sIx items.size 0 lo:Nat):Int) == 0 && (1:Int) == 1 && (sIx items.size items.size hi - sIx items.size 0 lo) == items.size) = true then _ else _) _ _ s
 rw [if_pos hyes]
 refine wpAny_bind ?_
 unfold Builtin.Tuple.tupleIsExact
 refine wpAny_bind (wpAny_typeOf ht.typeIs (wpAny_pure ?_))
 rw [if_pos (by decide)]
 refine wpAny_bind (wpAny_rule ?_)
 first
  | exact wpAny_pure ⟨_,rfl,wpAny_pure h⟩
  | exact wpAny_bind (wpAny_pure (wpAny_pure ⟨_,rfl,wpAny_pure h⟩))
  | exact wpAny_bind (wpAny_pure ⟨_,rfl,wpAny_pure h⟩)
end
end HT
namespace L2
open PySem PySem.Spec PyProof.Rows
section
variable {X:Cx}
def rSlA:V→Option Int→Option Int→Hp→VK→Prop:=fun x lo hi H Q=>∃ a xs,x = .ref a∧H a = some (.tup xs) ∧
 ((HT.sIx xs.length 0 lo = 0∧HT.sIx xs.length xs.length hi = xs.length)→Q (.ref a) H) ∧
 (¬ (HT.sIx xs.length 0 lo = 0∧HT.sIx xs.length xs.length hi = xs.length)→∀ p,H p = none→Q (.ref p) (upd H p (.tup (cutV xs lo hi))))
theorem q_slA:SlR X rSlA:=by
 intro pins s σ H x v vl vu lo hi sl Q I rx hs pl pu h
 obtain ⟨a,xs,rfl,hx,q1,q2⟩:=h
 by_cases c:HT.sIx xs.length 0 lo = 0∧HT.sIx xs.length xs.length hi = xs.length
 ·cases rx
  obtain ⟨its,r,ht,hz⟩:=I.tuple (SqT.of (K:=X.K) hx)
  have hlen:its.toArray.size = xs.length:=by rw [List.size_toArray]; exact r.length.symm
  refine ⟨"tuple",_,PyProof.Rows.slot_tuple_getitem.lookup,ht.typeIs,?_⟩
  exact HT.getItem_tuple_all ht hs pl pu (by rw [hlen]; exact c) ⟨.ref a,H,I,rfl,q1 c⟩
 ·exact jpt pins s σ H _ v vl vu lo hi sl Q I rx hs pl pu ⟨a,xs,rfl,SqT.of hx,c,q2 c⟩
def rCatE:R2:=fun x y H Q=>∃ a b xs ys,x = .ref a∧y = .ref b∧H a = some (.tup xs)∧H b = some (.tup ys)∧xs ≠ []∧xs.length + ys.length ≤ sizeLine ∧
 (ys = []→Q (.ref a) H)∧(ys ≠ []→∀ p,H p = none→Q (.ref p) (upd H p (.tup (xs ++ ys))))
theorem jpz:OpR X (binaryOp .Add) rCatE:=jmy.imp fun x y H Q h=>by
 obtain ⟨a,b,xs,ys,e1,e2,h1,h2,h3,h4,h5,h6⟩:=h
 exact ⟨a,b,xs,ys,e1,e2,SqT.of h1,SqT.of h2,h3,h4,h5,h6⟩
end
end L2
namespace My
open PySem L2
section
variable {P:Program} {w:World} {K:PySem.W.Frag} {mg:Str→Option Value} {base:Heap} {c1 c2 c3 c4:Tok} {C_NoWeb f_NoWeb:Addr} {dI:FuncData}
def AtD (B:Int) (d:Dt):Prop:=(∃ i,d = .int i∧-B ≤ i∧i ≤ B) ∨ (∃ b,d = .bl b) ∨ d = .non ∨ ∃ s:Str,d = .str s∧(reprText s).length ≤ 60
def RowD (B:Int) (d:Dt):Prop:=(∃ es,d = .tup es∧es.length ≤ 3∧∀ e ∈ es,AtD B e) ∨ ∃ r:List Int,d = .lst (r.map Dt.int)∧RwB B r
def rowD (r:List Int):Dt:=.tup (r.map Dt.int)
abbrev RDs (H:Hp) (xs:List V) (ds:List Dt):Prop:=Paired (fun v d=>Rep H d v) xs ds
theorem RDs.reps {H:Hp}:∀ {xs:List V} {ds:List Dt},RDs H xs ds→Reps H ds xs
 | _,_,.nil=>by rw [Reps]
 | _,_,.cons a t=>by rw [Reps]; exact ⟨_,_,rfl,a,RDs.reps t⟩
theorem RDs.same {H H':Hp} (s:Same H H') {xs:List V} {ds:List Dt} (h:RDs H xs ds):RDs H' xs ds:=Paired.mapP h fun _ d q=>Rep.same s d q
theorem IRow.rep {H:Hp} {v:V} {r:List Int} (h:IRow H v r):Rep H (rowD r) v:=by
 obtain ⟨t,rfl,e⟩:=h
 unfold rowD
 rw [Rep]
 exact ⟨t,_,rfl,e,je8 r⟩
theorem jas.rds {H:Hp}:∀ {xs:List V} {rs:List (List Int)},jas H xs rs→RDs H xs (rs.map rowD)
 | _,_,.nil=>.nil
 | _,_,.cons a t=>.cons a.rep (jas.rds t)
theorem RwB.rowD {B:Int} {r:List Int} (h:RwB B r):RowD B (rowD r):=.inl ⟨_,rfl,by rw [List.length_map]; exact h.2.1,fun e he=>by
 obtain ⟨i,hi,rfl⟩:=List.mem_map.mp he
 exact .inl ⟨i,rfl,h.2.2 i hi⟩⟩
theorem jc9 {α β:Type} {F:α→β→Prop}:∀ {xs:List α} {ys:List β} {x:α} {y:β} (i:Nat),Paired F xs ys→F x y→Paired F (xs.set i x) (ys.set i y)
 | _,_,_,_,_,.nil,_=>.nil
 | _,_,_,_,0,.cons _ t,h=>.cons h t
 | _,_,_,_,i + 1,.cons a t,h=>.cons a (jc9 i t h)
theorem jgp {α β:Type} {F:α→β→Prop}:∀ {xs:List α} {ys:List β} (i:Nat),Paired F xs ys→Paired F (xs.eraseIdx i) (ys.eraseIdx i)
 | _,_,_,.nil=>.nil
 | _,_,0,.cons _ t=>t
 | _,_,i + 1,.cons a t=>.cons a (jgp i t)
theorem jcd {B C:Int} (hc:B ≤ C) {rs:List (List Int)} (h:∀ r ∈ rs,RwB B r):∀ d ∈ rs.map rowD,RowD C d:=fun d hd=>by
 obtain ⟨r,hr,rfl⟩:=List.mem_map.mp hd
 exact ((h r hr).mono hc).rowD
theorem jr9 (r:List Int):depP (rowD r) ≤ 1:=by
 unfold rowD
 rw [depP]
 have:∀ (ns:List Int),jb6 (ns.map Dt.int) = 0:=fun ns=>by
  induction ns with
  | nil=>rfl
  | cons n ns ih=>rw [List.map_cons,jb6,ih]; rfl
 rw [this]
 omega
theorem jl2:∀ (rs:List (List Int)),jb6 (rs.map rowD) ≤ 1
 | []=>by rw [List.map_nil,jb6]; omega
 | r :: rs=>by
  rw [List.map_cons,jb6]
  have:=jl2 rs
  have:=jr9 r
  omega
theorem jos (rs:List (List Int)):eqP (.lst (rs.map rowD)) (.lst []) = rs.isEmpty:=by
 cases rs with
 | nil=>rfl
 | cons r rs=>rfl
theorem But2.tups {st s:Addr} {H H':Hp} (b:But2 st s H H') {o o2:HO} (e:H st = some o) (i:jnj o = false) (e2:H s = some o2) (i2:jnj o2 = false):TupS H H' :=
 fun b' u z q=>b b' u (fun x=>by rw [x,e] at q; cases q; rw [i] at z; cases z) (fun x=>by rw [x,e2] at q; cases q; rw [i2] at z; cases z) q
theorem jh7 {H:Hp} {l:Addr} (e:H l = some (.lst [])):Rep H (.lst []) (.ref l):=by
 rw [Rep]
 exact ⟨l,[],rfl,e,by rw [Reps]⟩
theorem jiy {a b:Addr} {H:Hp} {Q:VK} {xs ys:List V} (hx:H a = some (.tup xs)) (hy:H b = some (.tup ys)) (hn:ys ≠ []) (hl:xs.length + ys.length ≤ 1000) (k:∀ p H',Same H H'→H' p = some (.tup (xs ++ ys))→Q (.ref p) H'):jiz (.ref a) (.ref b) H Q:=by
 simp only [jiz,hx,hy]
 refine ⟨szl hl,hn,?_⟩
 by_cases c:xs = []
 ·rw [if_pos c]
  exact k b H (Same.refl H) (by rw [hy,c,List.nil_append])
 ·rw [if_neg c]
  exact fun p hp=>k p _ (ja4 hp _) ja1
theorem jif {a b:Addr} {H:Hp} {Q:VK} {xs ys:List V} (hx:H a = some (.tup xs)) (hy:H b = some (.tup ys)) (hn:xs ≠ []) (hl:xs.length + ys.length ≤ 1000) (k:∀ p H',Same H H'→H' p = some (.tup (xs ++ ys))→Q (.ref p) H'):rCatE (.ref a) (.ref b) H Q :=
 ⟨a,b,xs,ys,rfl,rfl,hx,hy,hn,szl hl,fun c=>k a H (Same.refl H) (by rw [hx,c,List.append_nil]),fun _ p hp=>k p _ (ja4 hp _) ja1⟩
theorem jl3 {xs:List V} {m:Int} (h0:0 ≤ m) (h1:m < xs.length):¬ (HT.sIx xs.length 0 none = 0∧HT.sIx xs.length xs.length (some m) = xs.length):=fun h=>by
 have h2:=h.2
 unfold HT.sIx at h2
 simp only [if_neg (show ¬ m < 0 by omega)] at h2
 omega
theorem jl4 {xs:List V} {m:Int} (h0:0 ≤ m) (h1:m < xs.length):¬ (HT.sIx xs.length 0 (some (m + 1)) = 0∧HT.sIx xs.length xs.length none = xs.length):=fun h=>by
 have h2:=h.1
 unfold HT.sIx at h2
 simp only [if_neg (show ¬ m + 1 < 0 by omega)] at h2
 omega
theorem jhl (H:Hp):∀ (ns:List Int),RDs H (ns.map V.int) (ns.map Dt.int)
 | []=>.nil
 | n :: r=>.cons (by rw [Rep]) (jhl H r)
def jo8 (r:List Int) (m:Int) (dv:Dt):Dt:=.tup ((r.map Dt.int).take m.toNat ++ [dv] ++ (r.map Dt.int).drop (m + 1).toNat)
theorem jl7 {H:Hp} {p:Addr} {r:List Int} {m:Int} {v:V} {dv:Dt} (e:H p = some (.tup ((r.map V.int).take m.toNat ++ [v] ++ (r.map V.int).drop (m + 1).toNat))) (hv:Rep H dv v):Rep H (jo8 r m dv) (.ref p):=by
 unfold jo8
 rw [Rep]
 exact ⟨p,_,rfl,e,RDs.reps (jca (jca (jd1 _ (jhl H r)) (.cons hv .nil)) (jd2 _ (jhl H r)))⟩
theorem jj9 {B C:Int} {r:List Int} {m:Int} {dv:Dt} (hr:RwB B r) (h0:0 ≤ m) (h1:m < r.length) (hd:AtD C dv) (hc:B ≤ C):RowD C (jo8 r m dv):=by
 have hi:∀ e ∈ r.map Dt.int,AtD C e:=fun e he=>by
  obtain ⟨i,hi,rfl⟩:=List.mem_map.mp he
  have:=hr.2.2 i hi
  exact .inl ⟨i,rfl,by omega,by omega⟩
 refine .inl ⟨_,rfl,?_,fun e he=>?_⟩
 ·rw [List.length_append,List.length_append,List.length_take,List.length_drop,List.length_map,List.length_singleton]
  have:=hr.2.1
  omega
 ·rcases List.mem_append.mp he with q | q
  ·rcases List.mem_append.mp q with q | q
   ·exact hi e (List.mem_of_mem_take q)
   ·rw [List.mem_singleton.mp q]; exact hd
  ·exact hi e (List.mem_of_mem_drop q)
theorem jox:(reprText (Str.ofString "1")).length ≤ 60:=by
 with_unfolding_all decide
theorem jop {d:Int} (h0:0 ≤ d) (h1:d < 4) (H:Hp):∃ v dv,atI [V.bl true,.bl false,.non,.str (Str.ofString "1")] d = some v∧(∀ H,Rep H dv v)∧AtD 2000000000004 dv:=by
 rcases (by omega:d = 0 ∨ d = 1 ∨ d = 2 ∨ d = 3) with rfl | rfl | rfl | rfl
 ·exact ⟨_,.bl true,at0,fun H=>by rw [Rep],.inr (.inl ⟨_,rfl⟩)⟩
 ·exact ⟨_,.bl false,at1,fun H=>by rw [Rep],.inr (.inl ⟨_,rfl⟩)⟩
 ·exact ⟨_,.non,at2,fun H=>by rw [Rep],.inr (.inr (.inl rfl))⟩
 ·exact ⟨_,.str (Str.ofString "1"),at3,fun H=>by rw [Rep],.inr (.inr (.inr ⟨_,rfl,jox⟩))⟩
theorem jp6 {H:Hp} {p:Addr} {r:List Int} (e:H p = some (.lst (r.map V.int))):Rep H (.lst (r.map Dt.int)) (.ref p):=by
 rw [Rep]
 exact ⟨p,_,rfl,e,je8 r⟩
theorem jnl {B C:Int} {r:List Int} (hr:RwB B r) (hc:B ≤ C):RowD C (.lst (r.map Dt.int)):=.inr ⟨r,rfl,hr.mono hc⟩
def jps:Sp:=fun vs H Q _=>∃ (st t hl da:Addr) (o:HO) (hx dx:List V) (hs ds:List (List Int)),vs = [.ref st,.ref t]∧H st = some o∧StO o∧H t = some (.tup [.ref hl,.ref da])∧H hl = some (.lst hx)∧jas H hx hs∧H da = some (.lst dx)∧jas H dx ds∧hs.length ≤ 81∧ds.length ≤ 81∧(∀ r ∈ hs,RwB 2000000000000 r)∧(∀ r ∈ ds,RwB 2000000000000 r) ∧
 ∀ (p a b:Addr) (H':Hp) (o':HO) (xa xb:List V) (la lb:List Dt),But st H H'→H' st = some o'→StO o'→H' p = some (.tup [.ref a,.ref b])→H' a = some (.lst xa)→RDs H' xa la→H' b = some (.lst xb)→RDs H' xb lb→la.length ≤ 82→lb.length ≤ 82→(∀ d ∈ la,RowD 2000000000004 d)→(∀ d ∈ lb,RowD 2000000000004 d)→Q (.ref p) H'
theorem jjo {f:Addr} {fd:FuncData} {f_law_take:Addr} {d_law_take:FuncData} (B:Blt mg) (D:DefAt K mg "_law_bent" (top 39) ["_law_state","_law_told"] f fd) (D_law_take:DefAt K mg "_law_take" (top 30) ["_law_state","_law_many"] f_law_take d_law_take) (G_law_take:FnOk P w K mg base CX0 1 f_law_take d_law_take ["_law_state","_law_many"] jgi):FnOk P w K mg base CX0 2 f fd ["_law_state","_law_told"] jps:=by
 have sc:FnScope ["_law_state","_law_told","_law_rows","_law_which","_law_some","_law_at","_law_way","_law_one","_law_spot","_law_other"] ["_law_state","_law_told"] (jac (top 39)):=⟨rfl,rfl,rfl,by decide +kernel,rfl,by decide +kernel,by decide +kernel⟩
 refine D.F.ok sc (fun vs H Q E h=>?_) (fun cdv A outer s H vs Q E hr h=>?_)
 ·obtain ⟨st,t,hl,da,o,hx,dx,hs,ds,rfl,_⟩:=h
  rfl
 obtain ⟨st,t,hl,da,o,hx,dx,hs,ds,rfl,e,so,et,eh,ph,ed,pd,lh,ld,bh,bd,h⟩:=h
 have hu:=jbo hr
 have hu0:_ < PySem.cLine:=Nat.lt_of_succ_lt hu
 refine ⟨_,(ja5 (jae (i:=2) sc.nd rfl (Or.inl rfl) (jc1 (ja0 (jat jbl rfl B.list PyProof.Rows.boot_list (ja0 (jab q_ix (qv 1) ja2 (fun _ _=>rfl)) ja3)) (ja0 (jat jbl rfl B.list PyProof.Rows.boot_list (ja0 (jab q_ix (qv 1) ja2 (fun _ _=>rfl)) ja3)) ja3)))) (ja5 (jae (i:=3) sc.nd rfl (Or.inl rfl) (ja8 G_law_take (hr.mono (by decide)) rfl D_law_take.m D_law_take.F.kp D_law_take.b .nil jar (ja0 (qv 0) (ja0 ja2 ja3)))) (ja5 (jae (i:=4) sc.nd rfl (Or.inl rfl) (jab q_ix (qv 2) (qv 3) (fun _ _=>rfl))) (ja5 (jb5 (jaq (jq5 hr.units) (qv 4) (jc1 ja3) (jaj _)) (ja5 (jcn (q_bm PySem.F.plainAttrs_list PySem.F.slot_list_append PySem.F.type_list_append je1 (qv 4) (ja0 (jb2 q_slA (jb7 (ja0 ja2 (ja0 ja2 (ja0 ja2 ja3)))) jbj (jbi (jap jbr ja2 (qv 3)))) ja3))) (ja6 (jan (jat jhs rfl B.tuple PyProof.Rows.boot_tuple (ja0 (qv 2) ja3))))) jam) (ja5 (jae (i:=5) sc.nd rfl (Or.inl rfl) (ja8 G_law_take (hr.mono (by decide)) rfl D_law_take.m D_law_take.F.kp D_law_take.b .nil jar (ja0 (qv 0) (ja0 (ja9 jci rfl B.len PySem.boot_len (ja0 (qv 4) ja3)) ja3)))) (ja5 (jae (i:=6) sc.nd rfl (Or.inl rfl) (ja8 G_law_take (hr.mono (by decide)) rfl D_law_take.m D_law_take.F.kp D_law_take.b .nil jar (ja0 (qv 0) (ja0 ja2 ja3)))) (ja5 (jae (i:=7) sc.nd rfl (Or.inl rfl) (jab q_ix (qv 4) (qv 5) (fun _ _=>rfl))) (ja5 (jae (i:=8) sc.nd rfl (Or.inl rfl) (ja8 G_law_take (hr.mono (by decide)) rfl D_law_take.m D_law_take.F.kp D_law_take.b .nil jar (ja0 (qv 0) (ja0 (ja9 jci rfl B.len PySem.boot_len (ja0 (qv 7) ja3)) ja3)))) (ja5 (jb5 (PW.pt (jfk (jaq q_lt (qv 6) ja2 (jaj _)) (jdr (jb9 (ja9 (jdk .int) rfl B.isinstance PyProof.Rows.boot_isinstance (ja0 (jab q_ix (qv 7) (qv 8) (fun _ _=>rfl)) (ja0 (jbn (v:=.ty "int") rfl B.int PyProof.Rows.boot_int rfl) ja3))))))) (ja6 (jcl (jap jpz (jap jgm (jb2 jdz (qv 7) jbj (jbi (qv 8))) (jb7 (ja0 (jap jbr (jab q_ix (qv 7) (qv 8) (fun _ _=>rfl)) (jab q_ix (jc1 (ja0 ja2 (ja0 (je3 je0 ja2) (ja0 ja2 (ja0 (je3 je0 ja2) ja3))))) (qv 6) (fun _ _=>rfl))) ja3))) (jb2 jdz (qv 7) (jbi (jap jbr (qv 8) ja2)) jbj)) (jcv (qv 4) (qv 5) jct))) (ja6 (jb5 (jaq q_eq (qv 6) ja2 (jaj _)) (ja6 (jcn (q_bm PySem.F.plainAttrs_list PySem.F.slot_list_pop PySem.F.type_list_pop q_popI (qv 4) (ja0 (qv 5) ja3)))) (ja6 (jb5 (jaq q_eq (qv 6) ja2 (jaj _)) (ja6 (jcn (q_bm PySem.F.plainAttrs_list PySem.F.slot_list_insert PySem.F.type_list_insert q_insS (qv 4) (ja0 (qv 5) (ja0 (qv 7) ja3))))) (ja6 (jb5 (jaq q_eq (qv 6) ja2 (jaj _)) (ja5 (jae (i:=9) sc.nd rfl (Or.inl rfl) (ja8 G_law_take (hr.mono (by decide)) rfl D_law_take.m D_law_take.F.kp D_law_take.b .nil jar (ja0 (qv 0) (ja0 (ja9 jci rfl B.len PySem.boot_len (ja0 (qv 4) ja3)) ja3)))) (ja5 (jcl (jab q_ix (qv 4) (qv 9) (fun _ _=>rfl)) (jcv (qv 4) (qv 5) jct)) (ja6 (jcl (qv 7) (jcv (qv 4) (qv 9) jct))))) (ja6 (jb5 (jaq q_eq (qv 6) ja2 (jaj _)) (ja6 (jcl (jat jbl rfl B.list PyProof.Rows.boot_list (ja0 (qv 7) ja3)) (jcv (qv 4) (qv 5) jct))) (ja6 (jb5 (jaq q_eq (qv 6) ja2 (jaj _)) (ja6 (jcl (jap jpz (jap jgm (jb2 jdz (qv 7) jbj (jbi (qv 8))) (jb7 (ja0 (jab q_ix (jc1 (ja0 jc8 (ja0 jc8 (ja0 pe_non (ja0 pe_str ja3))))) (ja8 G_law_take (hr.mono (by decide)) rfl D_law_take.m D_law_take.F.kp D_law_take.b .nil jar (ja0 (qv 0) (ja0 ja2 ja3))) (fun _ _=>rfl)) ja3))) (jb2 jdz (qv 7) (jbi (jap jbr (qv 8) ja2)) jbj)) (jcv (qv 4) (qv 5) jct))) jam))))))))))) (ja6 (jan (jb7 (ja0 (jab q_ix (qv 2) ja2 (fun _ _=>rfl)) (ja0 (jab q_ix (qv 2) ja2 (fun _ _=>rfl)) ja3)))))))))))))),?_⟩
 have nh:hl ≠ st:=jgq e so eh ph
 have nd:da ≠ st:=jgq e so ed pd
 refine jao fun R hR=>?_
 simp_arith [jag,et,eh,ed,at0,at1]
 intro l0 hl0
 have q_l0:=ja4 hl0 (.lst hx)
 have s1:=(Same.refl H).trans q_l0
 have e_l0:upd H l0 (.lst hx) l0 = some (.lst hx):=ja1
 generalize upd H l0 (.lst hx) = H1 at q_l0 s1 e_l0
 have c_l0:=e_l0
 have et1:=s1 _ _ et
 have ed1:=s1 _ _ ed
 simp only [et1,at1,ed1]
 intro l1 hl1
 have q_l1:=ja4 hl1 (.lst dx)
 have s2:=s1.trans q_l1
 have e_l1:upd H1 l1 (.lst dx) l1 = some (.lst dx):=ja1
 have e_l0:=q_l1 _ _ e_l0
 generalize upd H1 l1 (.lst dx) = H2 at q_l1 s2 e_l1 e_l0
 have n01:l0 ≠ l1:=ja7 c_l0 hl1
 have c_l0:=e_l0
 have c_l1:=e_l1
 intro rl hrl
 have q_rl:=ja4 hrl (.lst [.ref l0,.ref l1])
 have s3:=s2.trans q_rl
 have e_rl:upd H2 rl (.lst [.ref l0,.ref l1]) rl = some (.lst [.ref l0,.ref l1]):=ja1
 have e_l0:=q_rl _ _ e_l0
 have e_l1:=q_rl _ _ e_l1
 generalize upd H2 rl (.lst [.ref l0,.ref l1]) = H3 at q_rl s3 e_rl e_l0 e_l1
 have n0r:l0 ≠ rl:=ja7 c_l0 hrl
 have n1r:l1 ≠ rl:=ja7 c_l1 hrl
 have e3:=s3 _ _ e
 have nl0:l0 ≠ st:=(ja7 e hl0).symm
 have nl1:l1 ≠ st:=(ja7 (s1 _ _ e) hl1).symm
 have nrl:rl ≠ st:=(ja7 (s2 _ _ e) hrl).symm
 have hl1H:H l1 = none:=s1.free hl1
 have ph3:=jas.tups ph s3.tups
 have pd3:=jas.tups pd s3.tups
 have FIN0:∀ (H':Hp) (o':HO) (ys:List V) (A:List Dt),But2 st l0 H3 H'→H' st = some o'→StO o'→H' l0 = some (.lst ys)→RDs H' ys A→A.length ≤ 82→(∀ d ∈ A,RowD 2000000000004 d)→H' rl = some (.lst [.ref l0,.ref l1])∧∀ p,H' p = none→Q (.ref p) (upd H' p (.tup [.ref l0,.ref l1])):=by
  intro H' o' ys A b eo soo ey ry la da'
  refine ⟨b _ _ nrl n0r.symm e_rl,fun p hp=>?_⟩
  have q:=ja4 hp (.tup [.ref l0,.ref l1])
  exact h p l0 l1 _ o' ys dx A (ds.map rowD) (fun c u nc qc=>q _ _ (b c u nc (fun z=>by rw [z,hl0] at qc; cases qc) (s3 _ _ qc))) (q _ _ eo) soo ja1 (q _ _ ey) (ry.same q) (q _ _ (b _ _ nl1 n01.symm e_l1)) (jas.rds (jas.tups pd3 ((b.tups e3 so.imm e_l0 rfl).trans q.tups))) la (by rw [List.length_map]; omega) da' (jcd (by decide) bd)
 have FIN1:∀ (H':Hp) (o':HO) (ys:List V) (A:List Dt),But2 st l1 H3 H'→H' st = some o'→StO o'→H' l1 = some (.lst ys)→RDs H' ys A→A.length ≤ 82→(∀ d ∈ A,RowD 2000000000004 d)→H' rl = some (.lst [.ref l0,.ref l1])∧∀ p,H' p = none→Q (.ref p) (upd H' p (.tup [.ref l0,.ref l1])):=by
  intro H' o' ys A b eo soo ey ry la da'
  refine ⟨b _ _ nrl n1r.symm e_rl,fun p hp=>?_⟩
  have q:=ja4 hp (.tup [.ref l0,.ref l1])
  exact h p l0 l1 _ o' hx ys (hs.map rowD) A (fun c u nc qc=>q _ _ (b c u nc (fun z=>by rw [z,hl1H] at qc; cases qc) (s3 _ _ qc))) (q _ _ eo) soo ja1 (q _ _ (b _ _ nl0 n01 e_l0)) (jas.rds (jas.tups ph3 ((b.tups e3 so.imm e_l1 rfl).trans q.tups))) (q _ _ ey) (ry.same q) (by rw [List.length_map]; omega) la (jcd (by decide) bh) da'
 subst hR
 refine jao fun R hR=>?_
 walk_at "RD"
 refine ⟨st,o,2,rfl,e3,so,by decide,by decide,fun w o4 w0 w1 so4=>?_⟩
 obtain ⟨s,xs,rs,ea,es,ps,ls,bs,ns,FIN⟩:∃ (s:Addr) (xs:List V) (rs:List (List Int)),atI [V.ref l0,.ref l1] w = some (.ref s)∧H3 s = some (.lst xs)∧jas H3 xs rs∧rs.length ≤ 81∧(∀ r ∈ rs,RwB 2000000000000 r)∧s ≠ st∧∀ (H':Hp) (o':HO) (ys:List V) (A:List Dt),But2 st s H3 H'→H' st = some o'→StO o'→H' s = some (.lst ys)→RDs H' ys A→A.length ≤ 82→(∀ d ∈ A,RowD 2000000000004 d)→H' rl = some (.lst [.ref l0,.ref l1])∧∀ p,H' p = none→Q (.ref p) (upd H' p (.tup [.ref l0,.ref l1])):=by
  rcases (by omega:w = 0 ∨ w = 1) with rfl | rfl
  ·exact ⟨l0,hx,hs,at0,e_l0,ph3,lh,bh,nl0,FIN0⟩
  ·exact ⟨l1,dx,ds,at1,e_l1,pd3,ld,bd,nl1,FIN1⟩
 have b4:=But.at st H3 o4
 have e4:upd H3 st o4 st = some o4:=ja1
 have erl4:=b4 _ _ nrl e_rl
 have es4:=b4 _ _ ns es
 have ps4:=jas.tups ps (b4.tups e3 so.imm)
 generalize upd H3 st o4 = H4 at b4 e4 erl4 es4 ps4
 clear FIN0 FIN1 h ph3 pd3 e_l0 e_l1 c_l0 c_l1 et1 ed1 q_l0 q_l1 q_rl s1 s2
 have hlx:xs.length = rs.length:=Paired.length ps
 subst hR
 refine jao fun R hR=>?_
 simp_arith [jag,erl4,ea]
 subst hR
 refine jao fun R hR=>?_
 walk_at "RD"
 intro e0 he0
 have q_e0:=ja4 he0 (.lst [])
 have s5:=(Same.refl H4).trans q_e0
 have e_e0:upd H4 e0 (.lst []) e0 = some (.lst []):=ja1
 generalize upd H4 e0 (.lst []) = H5 at q_e0 s5 e_e0
 have es5:=s5 _ _ es4
 have e5:=s5 _ _ e4
 have erl5:=s5 _ _ erl4
 have ps5:=jas.tups ps4 s5.tups
 refine ⟨.lst (rs.map rowD),.lst [],(by rw [Rep]; exact ⟨s,xs,rfl,es5,(jas.rds ps5).reps⟩),jh7 e_e0,(by rw [depP]; have:=jl2 rs; omega),.inl ⟨_,_,rfl,rfl⟩,?_⟩
 simp only [Bool.false_eq_true,if_false,jos]
 by_cases hE:rs = []
 ·have hx0:xs = []:=List.length_eq_zero_iff.mp (by rw [hlx,hE]; rfl)
  rw [hE]
  simp only [List.isEmpty_nil,if_true]
  refine ⟨⟨s,xs,rfl,es5⟩,fun t0 ht0=>?_⟩
  have q_t0:=ja4 ht0 (.tup [.int 0,.int 1,.int 1])
  have e_t0:upd H5 t0 (.tup [.int 0,.int 1,.int 1]) t0 = some (.tup [.int 0,.int 1,.int 1]):=ja1
  generalize upd H5 t0 (.tup [.int 0,.int 1,.int 1]) = H6 at q_t0 e_t0
  have sX:=s5.trans q_t0
  refine ⟨t0,_,rfl,e_t0,fun hc=>?_,fun hc p hp=>?_⟩
  ·have hr:IRow H6 (.ref t0) [0,1,1]:=⟨t0,rfl,e_t0⟩
   have hrb:RwB 2000000000000 [0,1,1]:=⟨by decide,by decide,by decide⟩
   have es6:=sX _ _ es4
   simp only [es6]
   have F:=FIN (upd H6 s (.lst (xs ++ [.ref t0]))) o4 _ [rowD [0,1,1]] ((b4.two.trans (But.two (But.same sX))).trans (But2.at st s H6 _)) (by rw [jaa ns.symm]; exact sX _ _ e4) so4 ja1 (by rw [hx0]; exact .cons (IRow.rep (hr.tups (jaz (ys:=[] ++ [.ref t0]) es6))) .nil) (by decide) (fun d hd=>by rw [List.mem_singleton.mp hd]; exact (hrb.mono (by decide)).rowD)
   exact ⟨szl' (by omega),rl,_,rfl,.inl ⟨SqL.of F.1,F.2⟩⟩
  ·rcases (by omega:w = 0 ∨ w = 1) with rfl | rfl
   ·have ec:cutV [V.int 0,.int 1,.int 1] none (some (2 + 0)) = [V.int 0,.int 1]:=rfl
    rw [ec]
    have q_p:=ja4 hp (.tup [.int 0,.int 1])
    have e_p:upd H6 p (.tup [.int 0,.int 1]) p = some (.tup [.int 0,.int 1]):=ja1
    generalize upd H6 p (.tup [.int 0,.int 1]) = H7 at q_p e_p
    have sX:=sX.trans q_p
    have hr:IRow H7 (.ref p) [0,1]:=⟨p,rfl,e_p⟩
    have hrb:RwB 2000000000000 [0,1]:=⟨by decide,by decide,by decide⟩
    have es6:=sX _ _ es4
    simp only [es6]
    have F:=FIN (upd H7 s (.lst (xs ++ [.ref p]))) o4 _ [rowD [0,1]] ((b4.two.trans (But.two (But.same sX))).trans (But2.at st s H7 _)) (by rw [jaa ns.symm]; exact sX _ _ e4) so4 ja1 (by rw [hx0]; exact .cons (IRow.rep (hr.tups (jaz (ys:=[] ++ [.ref p]) es6))) .nil) (by decide) (fun d hd=>by rw [List.mem_singleton.mp hd]; exact (hrb.mono (by decide)).rowD)
    exact ⟨szl' (by omega),rl,_,rfl,.inl ⟨SqL.of F.1,F.2⟩⟩
   ·exact absurd ⟨rfl,rfl⟩ hc
 have hE2:rs.isEmpty = false:=by cases rs with | nil=>exact absurd rfl hE | cons _ _=>rfl
 rw [hE2]
 simp only [Bool.false_eq_true,if_false]
 have hpos:0 < rs.length:=List.length_pos_iff.mpr hE
 have b5:But st H3 H5:=b4.trans (But.same s5)
 clear b4 e4 erl4 es4 ps4 s5 q_e0 e_e0
 subst hR
 refine jao fun R hR=>?_
 simp_arith [jag,es5]
 refine ⟨st,o4,_,rfl,e5,so4,by omega,by omega,fun k o6 k0 k1 so6=>?_⟩
 have b6:=b5.trans (But.at st H5 o6)
 have e6:upd H5 st o6 st = some o6:=ja1
 have es6:=But.at st H5 o6 _ _ ns es5
 have ps6:=jas.tups ps (b6.tups e3 so.imm)
 generalize upd H5 st o6 = H6 at b6 e6 es6 ps6
 subst hR
 refine jao fun R hR=>?_
 walk_at "RD"
 refine ⟨st,o6,10,rfl,e6,so6,by decide,by decide,fun y o7 y0 y1 so7=>?_⟩
 have b7:=b6.trans (But.at st H6 o7)
 have e7:upd H6 st o7 st = some o7:=ja1
 have es7:=But.at st H6 o7 _ _ ns es6
 have ps7:=jas.tups ps (b7.tups e3 so.imm)
 generalize upd H6 st o7 = H7 at b7 e7 es7 ps7
 obtain ⟨t1,r,g1,g2,g3,g4⟩:=jid ps7 k0 (by omega)
 have hr:=bs _ g3
 have hr1:=hr.1
 have hr2:=hr.2.1
 subst hR
 refine jao fun R hR=>?_
 simp_arith [jag,es7,g1]
 subst hR
 refine jao fun R hR=>?_
 simp_arith [jag,g2,List.length_map]
 refine ⟨st,o7,_,rfl,e7,so7,by omega,by omega,fun m o8 m0 m1 so8=>?_⟩
 have b8:=b7.trans (But.at st H7 o8)
 have e8:upd H7 st o8 st = some o8:=ja1
 have es8:=But.at st H7 o8 _ _ ns es7
 have ps8:=jas.tups ps (b8.tups e3 so.imm)
 have g28:=(But.at st H7 o8).tups e7 so7.imm _ _ rfl g2
 generalize upd H7 st o8 = H8 at b8 e8 es8 ps8 g28
 clear e5 e6 e7 es5 es6 es7 b5 b6 b7 ps5 ps6 ps7 g2 erl5
 subst hR
 refine jao fun R hR=>?_
 have FR:∀ (H':Hp) (o':HO) (ys:List V) (A:List Dt) (v9:Option V),But2 st s H8 H'→H' st = some o'→StO o'→H' s = some (.lst ys)→RDs H' ys A→A.length ≤ 82→(∀ d ∈ A,RowD 2000000000004 d)→R { nx:=fun x H'=>Q V.non H',rt:=Q } [some (V.ref st),some (V.ref t),some (V.ref rl),some (V.int w),some (V.ref s),some (.int k),some (.int y),some (.ref t1),some (.int m),v9] H':=by
  intro H' o' ys A v9 bX eX sX yX rX lX dX
  have F:=FIN H' o' ys A (b8.two.trans bX) eX sX yX rX lX dX
  subst hR
  simp_arith [jag,F.1,at0,at1]
  exact F.2
 obtain ⟨zm,hzm,hzl⟩:∃ z,atI (r.map V.int) m = some (.int z)∧z ∈ r:=by
  have hm:m.toNat < r.length:=by omega
  refine ⟨r[m.toNat],?_,List.getElem_mem hm⟩
  unfold atI
  rw [jkw m0 (by rw [List.length_map]; exact m1)]
  show (r.map V.int)[m.toNat]? = _
  rw [List.getElem?_map,List.getElem?_eq_getElem hm]
  rfl
 simp_arith [jag,g28,hzm]
 have g5:xs[k.toNat]? = some (.ref t1):=by
  unfold atI at g1
  rw [g4] at g1
  exact g1
 by_cases h4:y < 4
 ·simp only [decide_eq_true h4,if_true,kd,isi]
  refine ⟨jl3 m0 (by rw [List.length_map]; exact m1),?_⟩
  rw [jo0 m0 (by rw [List.length_map]; omega)]
  intro p1 hp1
  have q_p1:=ja4 hp1 (.tup ((r.map V.int).take m.toNat))
  have s9:=(Same.refl H8).trans q_p1
  have e_p1:upd H8 p1 (.tup ((r.map V.int).take m.toNat)) p1 = some (.tup ((r.map V.int).take m.toNat)):=ja1
  generalize upd H8 p1 (.tup ((r.map V.int).take m.toNat)) = H9 at q_p1 s9 e_p1
  have g9:=s9 _ _ g28
  simp only [g9,hzm]
  intro p2 hp2
  have q_p2:=ja4 hp2 (.lst [V.int 1,V.int (-1),V.int 2,V.int (-2)])
  have sA:=s9.trans q_p2
  have e_p2:upd H9 p2 (.lst [V.int 1,V.int (-1),V.int 2,V.int (-2)]) p2 = some (.lst [V.int 1,V.int (-1),V.int 2,V.int (-2)]):=ja1
  have e_p1:=q_p2 _ _ e_p1
  generalize upd H9 p2 (.lst [V.int 1,V.int (-1),V.int 2,V.int (-2)]) = HA at q_p2 sA e_p2 e_p1
  obtain ⟨j,hj,hj2⟩:=menu4 (a:=1) (b:=-1) (c:=2) (e:=-2) y0 h4
  simp only [e_p2,hj]
  intro p3 hp3
  have q_p3:=ja4 hp3 (.tup [.int (zm + j)])
  have sB:=sA.trans q_p3
  have e_p3:upd HA p3 (.tup [.int (zm + j)]) p3 = some (.tup [.int (zm + j)]):=ja1
  have e_p1:=q_p3 _ _ e_p1
  generalize upd HA p3 (.tup [.int (zm + j)]) = HB at q_p3 sB e_p3 e_p1
  have bX:But st H8 HB:=But.same sB
  have eX:=sB _ _ e8
  have soX:=so8
  have hzb:=hr.2.2 zm hzl
  have gB:=bX.tups e8 so8.imm _ _ rfl g28
  have esB:=bX _ _ ns es8
  refine jiy e_p1 e_p3 (by simp) (by rw [List.length_take,List.length_map,List.length_singleton]; omega) fun p4 HC sC e_p4=>?_
  have gC:=sC _ _ gB
  simp only [gC]
  refine ⟨jl4 m0 (by rw [List.length_map]; exact m1),?_⟩
  rw [jhr (by omega) (by rw [List.length_map]; omega)]
  intro p5 hp5
  have q_p5:=ja4 hp5 (.tup ((r.map V.int).drop (m + 1).toNat))
  have sD:=sC.trans q_p5
  have e_p5:upd HC p5 (.tup ((r.map V.int).drop (m + 1).toNat)) p5 = some (.tup ((r.map V.int).drop (m + 1).toNat)):=ja1
  have e_p4:=q_p5 _ _ e_p4
  generalize upd HC p5 (.tup ((r.map V.int).drop (m + 1).toNat)) = HD at q_p5 sD e_p5 e_p4
  refine jif e_p4 e_p5 (by simp) (by rw [List.length_append,List.length_take,List.length_drop,List.length_map,List.length_singleton]; omega) fun p6 HE sE e_p6=>?_
  have sBE:=sD.trans sE
  have esE:=sBE _ _ esB
  simp only [esE,g4]
  have tF:=jaz (ys:=xs.set k.toNat (.ref p6)) esE
  exact FR _ o8 _ ((rs.map rowD).set k.toNat (jo8 r m (.int (zm + j)))) none ((But.two (bX.trans (But.same sBE))).trans (But2.at st s HE _)) (by rw [jaa ns.symm]; exact sBE _ _ eX) soX ja1 (jc9 _ (jas.rds (jas.tups ps8 ((bX.tups e8 so8.imm).trans (sBE.tups.trans tF)))) (jl7 (tF _ _ rfl e_p6) (by rw [Rep]))) (by rw [List.length_set,List.length_map]; omega) (jdp (jcd (by decide) bs) (jj9 hr m0 m1 (.inl ⟨_,rfl,by omega,by omega⟩) (by decide)))
 simp only [decide_eq_false h4,Bool.false_eq_true,if_false]
 by_cases c4:y = 4
 ·simp only [decide_eq_true c4,if_true]
  refine ⟨⟨s,xs,rfl,es8⟩,s,xs,k,k.toNat,.ref t1,rfl,rfl,es8,by omega,by omega,(jjy g4).1,g5,?_⟩
  exact FR _ o8 _ ((rs.map rowD).eraseIdx k.toNat) none (But2.at st s H8 _) (by rw [jaa ns.symm]; exact e8) so8 ja1 (jgp _ (jas.rds (jas.tups ps8 (jaz (ys:=xs.eraseIdx k.toNat) es8)))) (by have:=List.length_eraseIdx_le (rs.map rowD) k.toNat; rw [List.length_map] at this; omega) (fun d hd=>jcd (by decide) bs d (List.mem_of_mem_eraseIdx hd))
 simp only [decide_eq_false c4,Bool.false_eq_true,if_false]
 by_cases c5:y = 5
 ·simp only [decide_eq_true c5,if_true,jr5,es8]
  refine ⟨⟨s,xs,rfl,es8⟩,⟨k0,by omega,by omega⟩,?_⟩
  have tF:=jaz (ys:=xs.take k.toNat ++ .ref t1 :: xs.drop k.toNat) es8
  have rF:=jas.rds (jas.tups ps8 tF)
  refine FR _ o8 _ ((rs.map rowD).take k.toNat ++ (rowD r :: (rs.map rowD).drop k.toNat)) none (But2.at st s H8 _) (by rw [jaa ns.symm]; exact e8) so8 ja1 (jca (jd1 _ rF) (.cons (IRow.rep ⟨t1,rfl,tF _ _ rfl g28⟩) (jd2 _ rF))) (by rw [List.length_append,List.length_cons,List.length_take,List.length_drop,List.length_map]; omega) (fun d hd=>?_)
  rcases List.mem_append.mp hd with q | q
  ·exact jcd (by decide) bs d (List.mem_of_mem_take q)
  ·rcases List.mem_cons.mp q with q | q
   ·rw [q]; exact (hr.mono (by decide)).rowD
   ·exact jcd (by decide) bs d (List.mem_of_mem_drop q)
 simp only [decide_eq_false c5,Bool.false_eq_true,if_false]
 by_cases c6:y = 6
 ·simp only [decide_eq_true c6,if_true,es8]
  refine ⟨st,o8,_,rfl,e8,so8,by omega,by omega,fun n9 o9 n0 n1 so9=>?_⟩
  have b9:=But.at st H8 o9
  have e9:upd H8 st o9 st = some o9:=ja1
  have es9:=b9 _ _ ns es8
  have ps9:=jas.tups ps8 (b9.tups e8 so8.imm)
  have g29:=b9.tups e8 so8.imm _ _ rfl g28
  generalize upd H8 st o9 = H9 at b9 e9 es9 ps9 g29
  obtain ⟨t2,r2,f1,f2,f3,f4⟩:=jid ps9 n0 (by omega)
  simp only [es9,f1,g4,ja1,List.length_set,f4]
  have t9:=jaz (ys:=xs.set k.toNat (.ref t2)) es9
  have eA:upd H9 s (.lst (xs.set k.toNat (.ref t2))) s = some (.lst (xs.set k.toNat (.ref t2))):=ja1
  have eAs:upd H9 s (.lst (xs.set k.toNat (.ref t2))) st = some o9:=by rw [jaa ns.symm]; exact e9
  have bA:=(But.two (l:=s) b9).trans (But2.at st s H9 (.lst (xs.set k.toNat (.ref t2))))
  generalize upd H9 s (.lst (xs.set k.toNat (.ref t2))) = HA at t9 eA eAs bA
  have tF:=jaz (ys:=(xs.set k.toNat (.ref t2)).set n9.toNat (.ref t1)) eA
  have tt:=t9.trans tF
  exact FR _ o9 _ (((rs.map rowD).set k.toNat (rowD r2)).set n9.toNat (rowD r)) (some (.int n9)) (bA.trans (But2.at st s HA _)) (by rw [jaa ns.symm]; exact eAs) so9 ja1 (jc9 _ (jc9 _ (jas.rds (jas.tups ps9 tt)) (IRow.rep ⟨t2,rfl,tt _ _ rfl f2⟩)) (IRow.rep ⟨t1,rfl,tt _ _ rfl g29⟩)) (by rw [List.length_set,List.length_set,List.length_map]; omega) (jdp (jdp (jcd (by decide) bs) ((bs _ f3).mono (by decide)).rowD) (hr.mono (by decide)).rowD)
 simp only [decide_eq_false c6,Bool.false_eq_true,if_false]
 by_cases c7:y = 7
 ·simp only [decide_eq_true c7,if_true]
  intro l9 hl9
  have q9:=ja4 hl9 (.lst (r.map V.int))
  have e_l9:upd H8 l9 (.lst (r.map V.int)) l9 = some (.lst (r.map V.int)):=ja1
  have nls:l9 ≠ s:=(ja7 es8 hl9).symm
  generalize upd H8 l9 (.lst (r.map V.int)) = H9 at q9 e_l9
  have es9:=q9 _ _ es8
  simp only [es9,g4]
  have tF:=jaz (ys:=xs.set k.toNat (.ref l9)) es9
  exact FR _ o8 _ ((rs.map rowD).set k.toNat (.lst (r.map Dt.int))) none ((But.two (But.same q9)).trans (But2.at st s H9 _)) (by rw [jaa ns.symm]; exact q9 _ _ e8) so8 ja1 (jc9 _ (jas.rds (jas.tups ps8 (q9.tups.trans tF))) (jp6 (by rw [jaa nls]; exact e_l9))) (by rw [List.length_set,List.length_map]; omega) (jdp (jcd (by decide) bs) (jnl hr (by decide)))
 simp only [decide_eq_false c7,Bool.false_eq_true,if_false]
 by_cases c8:y = 8
 ·simp only [decide_eq_true c8,if_true]
  refine ⟨jl3 m0 (by rw [List.length_map]; exact m1),?_⟩
  rw [jo0 m0 (by rw [List.length_map]; omega)]
  intro p1 hp1
  have q_p1:=ja4 hp1 (.tup ((r.map V.int).take m.toNat))
  have s9:=(Same.refl H8).trans q_p1
  have e_p1:upd H8 p1 (.tup ((r.map V.int).take m.toNat)) p1 = some (.tup ((r.map V.int).take m.toNat)):=ja1
  generalize upd H8 p1 (.tup ((r.map V.int).take m.toNat)) = H9 at q_p1 s9 e_p1
  intro p2 hp2
  have q_p2:=ja4 hp2 (.lst [V.bl true,V.bl false,V.non,V.str (Str.ofString "1")])
  have sA:=s9.trans q_p2
  have e_p2:upd H9 p2 (.lst [V.bl true,V.bl false,V.non,V.str (Str.ofString "1")]) p2 = some (.lst [V.bl true,V.bl false,V.non,V.str (Str.ofString "1")]):=ja1
  have e_p1:=q_p2 _ _ e_p1
  generalize upd H9 p2 (.lst [V.bl true,V.bl false,V.non,V.str (Str.ofString "1")]) = HA at q_p2 sA e_p2 e_p1
  have eA:=sA _ _ e8
  have np1:p1 ≠ st:=fun z=>by rw [z,eA] at e_p1; cases e_p1; cases so8.imm
  have np2:p2 ≠ st:=fun z=>by rw [z,eA] at e_p2; cases e_p2; obtain ⟨_,_,_,z2,_⟩:=so8; cases z2
  refine ⟨st,o8,4,rfl,eA,so8,by decide,by decide,fun n9 o9 n0 n1 so9=>?_⟩
  have bA:=(But.same (s:=st) sA).trans (But.at st HA o9)
  have e9:upd HA st o9 st = some o9:=ja1
  have e_p1:=But.at st HA o9 _ _ np1 e_p1
  have e_p2:=But.at st HA o9 _ _ np2 e_p2
  generalize upd HA st o9 = HA' at bA e9 e_p1 e_p2
  obtain ⟨v,dv,hv,hvr,hva⟩:=jop n0 n1 H8
  simp only [e_p2,hv]
  intro p3 hp3
  have q_p3:=ja4 hp3 (.tup [v])
  have sB:=(Same.refl HA').trans q_p3
  have e_p3:upd HA' p3 (.tup [v]) p3 = some (.tup [v]):=ja1
  have e_p1:=q_p3 _ _ e_p1
  generalize upd HA' p3 (.tup [v]) = HB at q_p3 sB e_p3 e_p1
  have bX:But st H8 HB:=bA.trans (But.same sB)
  have eX:=sB _ _ e9
  have soX:=so9
  have gB:=bX.tups e8 so8.imm _ _ rfl g28
  have esB:=bX _ _ ns es8
  refine jiy e_p1 e_p3 (by simp) (by rw [List.length_take,List.length_map,List.length_singleton]; omega) fun p4 HC sC e_p4=>?_
  have gC:=sC _ _ gB
  simp only [gC]
  refine ⟨jl4 m0 (by rw [List.length_map]; exact m1),?_⟩
  rw [jhr (by omega) (by rw [List.length_map]; omega)]
  intro p5 hp5
  have q_p5:=ja4 hp5 (.tup ((r.map V.int).drop (m + 1).toNat))
  have sD:=sC.trans q_p5
  have e_p5:upd HC p5 (.tup ((r.map V.int).drop (m + 1).toNat)) p5 = some (.tup ((r.map V.int).drop (m + 1).toNat)):=ja1
  have e_p4:=q_p5 _ _ e_p4
  generalize upd HC p5 (.tup ((r.map V.int).drop (m + 1).toNat)) = HD at q_p5 sD e_p5 e_p4
  refine jif e_p4 e_p5 (by simp) (by rw [List.length_append,List.length_take,List.length_drop,List.length_map,List.length_singleton]; omega) fun p6 HE sE e_p6=>?_
  have sBE:=sD.trans sE
  have esE:=sBE _ _ esB
  simp only [esE,g4]
  have tF:=jaz (ys:=xs.set k.toNat (.ref p6)) esE
  exact FR _ o9 _ ((rs.map rowD).set k.toNat (jo8 r m dv)) none ((But.two (bX.trans (But.same sBE))).trans (But2.at st s HE _)) (by rw [jaa ns.symm]; exact sBE _ _ eX) soX ja1 (jc9 _ (jas.rds (jas.tups ps8 ((bX.tups e8 so8.imm).trans (sBE.tups.trans tF)))) (jl7 (tF _ _ rfl e_p6) (hvr _))) (by rw [List.length_set,List.length_map]; omega) (jdp (jcd (by decide) bs) (jj9 hr m0 m1 hva (by decide)))
 simp only [decide_eq_false c8,Bool.false_eq_true,if_false]
 exact FR H8 o8 xs (rs.map rowD) none (fun _ _ _ _ q=>q) e8 so8 es8 (jas.rds ps8) (by rw [List.length_map]; omega) (jcd (by decide) bs)
end
end My
namespace My
open PySem L2
section
variable {P:Program} {w:World} {K:PySem.W.Frag} {mg:Str→Option Value} {base:Heap} {c1 c2 c3 c4:Tok} {C_NoWeb f_NoWeb:Addr} {dI:FuncData}
def prsD (ts:List (Int × Int)):Dt:=.lst (ts.map jbf)
def webD (ps ts:List (Int × Int)):Dt:=.tup [prsD ps,prsD ts]
theorem jok {H:Hp} {v:V} {ps ts:List (Int × Int)} (h:jdf H v ps ts):Rep H (webD ps ts) v:=by
 obtain ⟨u,pa,ta,xs,ys,rfl,h1,h2,h3,h4,h5⟩:=h
 unfold webD prsD
 rw [Rep]
 refine ⟨u,_,rfl,h1,?_⟩
 rw [Reps]
 refine ⟨_,_,rfl,by rw [Rep]; exact ⟨pa,xs,rfl,h2,Prs.reps h4⟩,?_⟩
 rw [Reps]
 exact ⟨_,_,rfl,by rw [Rep]; exact ⟨ta,ys,rfl,h3,Prs.reps h5⟩,by rw [Reps]⟩
theorem Prs.irows {H:Hp}:∀ {xs:List V} {ps:List (Int × Int)},Prs H xs ps→jas H xs (ps.map fun p=>[p.1,p.2])
 | _,_,.nil=>.nil
 | _,_,.cons a t=>.cons (let ⟨u,e,q⟩:=a; ⟨u,e,q⟩) (Prs.irows t)
theorem Tps.irows {H:Hp}:∀ {xs:List V} {ps:List (Int × Int × Int)},Tps H xs ps→jas H xs (ps.map fun p=>[p.1,p.2.1,p.2.2])
 | _,_,.nil=>.nil
 | _,_,.cons a t=>.cons (let ⟨u,e,q⟩:=a; ⟨u,e,q⟩) (Tps.irows t)
theorem jdb:∀ {ns cs hs:List Int} {q:Int × Int},q ∈ jb1 ns cs hs→q.1 ∈ ns∧q.2 ∈ hs
 | [],_,_,q,h=>by simp [jb1] at h
 | _ :: _,[],_,q,h=>by simp [jb1] at h
 | _ :: _,_ :: _,[],q,h=>by simp [jb1] at h
 | n :: ns,c :: cs,x :: hs,q,h=>by
  unfold jb1 at h
  split at h
  ·rcases List.mem_cons.mp h with z | z
   ·rw [z]; exact ⟨.head _,.head _⟩
   ·exact ⟨.tail _ (jdb z).1,.tail _ (jdb z).2⟩
  ·exact ⟨.tail _ (jdb h).1,.tail _ (jdb h).2⟩
theorem jqw {cs:List Int} (h:∀ c ∈ cs,0 ≤ c):∀ {k:Int},0 ≤ k→k < cs.length→nth cs k ≤ cs.sum:=fun {k} k0 k1=>by
 have hm:=jd3 k0 k1
 have:∀ {l:List Int} {x:Int},(∀ c ∈ l,0 ≤ c)→x ∈ l→x ≤ l.sum:=by
  intro l
  induction l with
  | nil=>intro x _ h; cases h
  | cons a l ih =>
   intro x hp hx
   rw [List.sum_cons]
   have ha:=hp a (.head _)
   have hs:0 ≤ l.sum:=by
    clear ih hx
    induction l with
    | nil=>exact Int.le_refl _
    | cons b l ih=>rw [List.sum_cons]; have:=hp b (.tail _ (.head _)); have:=ih (fun c hc=>hp c (by rcases List.mem_cons.mp hc with z | z; exact z ▸ .head _; exact .tail _ (.tail _ z))); omega
   rcases List.mem_cons.mp hx with z | z
   ·omega
   ·have:=ih (fun c hc=>hp c (.tail _ hc)) z; omega
 exact this h hm
section
variable {hs ns cs:List Int} {raw:List (Int × Int × Int)} {tw:Int}
theorem Laid.rowsH (L:Laid hs ns cs raw tw):∀ r ∈ (jb1 ns cs hs).map (fun p=>[p.1,p.2]),RwB 2000000000000 r:=fun r hr=>by
 obtain ⟨q,hq,rfl⟩:=List.mem_map.mp hr
 obtain ⟨h1,h2⟩:=jdb hq
 have n1:=L.nb _ h1
 have n2:=L.hb _ h2
 refine ⟨by show 2 ≤ 2; decide,by show 2 ≤ 3; decide,fun i hi=>?_⟩
 simp only [List.mem_cons,List.not_mem_nil,or_false] at hi
 omega
theorem Laid.rowsD (L:Laid hs ns cs raw tw):∀ r ∈ (jb4 ns tw raw).map (fun p=>[p.1,p.2.1,p.2.2]),RwB 2000000000000 r∧r.length = 3:=fun r hr=>by
 obtain ⟨q,hq,rfl⟩:=List.mem_map.mp hr
 unfold jb4 at hq
 obtain ⟨x,hx,rfl⟩:=List.mem_map.mp hq
 obtain ⟨hx,hp⟩:=List.mem_filter.mp hx
 have hp:=of_decide_eq_true hp
 have i:=L.ix x hx
 have nl:=L.nl
 have n1:=L.nb _ (jd3 (hs:=ns) i.1 (by omega))
 have n2:=L.nb _ (jd3 (hs:=ns) (k:=x.2.1) (by omega) (by omega))
 have g:=jmv L.pos hx (.inl rfl)
 have tw1:=L.tw1
 have k1:x.1 < hs.length:=by omega
 have up:jal raw x.1 * tw ≤ 2 * nth cs x.1:=by
  by_cases c:nth hs x.1 = 0
  ·exact (L.none' x.1 i.1 k1 c).2
  ·have hb:=L.hb _ (jd3 i.1 k1)
   have e:=L.even x.1 i.1 k1 (by omega)
   rw [L.some' x.1 i.1 k1 c]
   omega
 have le:x.2.2 * tw ≤ jal raw x.1 * tw:=Int.mul_le_mul_of_nonneg_right g (by omega)
 have ge:0 ≤ x.2.2 * tw:=Int.mul_nonneg (by omega) (by omega)
 have cs1:=jqw L.cpos i.1 (by rw [L.cl]; exact k1)
 have cap:=L.cap
 refine ⟨⟨by show 2 ≤ 3; decide,by show 3 ≤ 3; decide,fun j hj=>?_⟩,rfl⟩
 simp only [List.mem_cons,List.not_mem_nil,or_false] at hj
 omega
theorem Laid.lenH (L:Laid hs ns cs raw tw):(jb1 ns cs hs).length ≤ 9:=Nat.le_trans (jiv _ _ _) (by rw [L.nl]; exact L.hl)
theorem Laid.lenD (L:Laid hs ns cs raw tw):(jb4 ns tw raw).length ≤ 81:=by
 unfold jb4
 rw [List.length_map]
 exact Nat.le_trans (List.length_filter_le _ _) L.len
end
structure GoodB (la lb:List Dt):Prop where
 l1:la.length ≤ 82
 l2:lb.length ≤ 82
 d1:∀ d ∈ la,RowD 2000000000004 d
 d2:∀ d ∈ lb,RowD 2000000000004 d
def Bnt (H:Hp) (v:V) (la lb:List Dt):Prop:=∃ p a b xa xb,v = .ref p∧H p = some (.tup [.ref a,.ref b])∧H a = some (.lst xa)∧RDs H xa la∧H b = some (.lst xb)∧RDs H xb lb
theorem Bnt.same {H H':Hp} {v:V} {la lb:List Dt} (h:Bnt H v la lb) (s:Same H H'):Bnt H' v la lb:=by
 obtain ⟨p,a,b,xa,xb,e,h1,h2,h3,h4,h5⟩:=h
 exact ⟨p,a,b,xa,xb,e,s _ _ h1,s _ _ h2,h3.same s,s _ _ h4,h5.same s⟩
def papD (la lb:List Dt):Dt:=.tup [.lst la,.lst lb]
theorem Bnt.rep {H:Hp} {v:V} {la lb:List Dt} (h:Bnt H v la lb):Rep H (papD la lb) v:=by
 obtain ⟨p,a,b,xa,xb,rfl,h1,h2,h3,h4,h5⟩:=h
 unfold papD
 rw [Rep]
 refine ⟨p,_,rfl,h1,?_⟩
 rw [Reps]
 refine ⟨_,_,rfl,by rw [Rep]; exact ⟨a,xa,rfl,h2,h3.reps⟩,?_⟩
 rw [Reps]
 exact ⟨_,_,rfl,by rw [Rep]; exact ⟨b,xb,rfl,h4,h5.reps⟩,by rw [Reps]⟩
theorem joa {B:Int} {H H':Hp}:∀ {es:List Dt} {vs:List V},(∀ e ∈ es,AtD B e)→Reps H es vs→Reps H' es vs
 | [],_,_,h=>by rw [Reps] at *; exact h
 | d :: ds,_,ha,h=>by
  rw [Reps] at *
  obtain ⟨v,r,e,h1,h2⟩:=h
  refine ⟨v,r,e,?_,joa (fun x hx=>ha x (.tail _ hx)) h2⟩
  rcases ha d (.head _) with ⟨i,rfl,_⟩ | ⟨b,rfl⟩ | rfl | ⟨s,rfl,_⟩ <;> (rw [Rep] at h1 ⊢; exact h1)
theorem jev {H:Hp}:∀ {r:List Int} {vs:List V},Reps H (r.map Dt.int) vs→vs = r.map V.int
 | [],_,h=>by rw [List.map_nil,Reps] at h; exact h
 | i :: r,_,h=>by
  rw [List.map_cons,Reps] at h
  obtain ⟨v,q,e,h1,h2⟩:=h
  rw [Rep] at h1
  rw [e,h1,jev h2]
  rfl
theorem RowD.but {B:Int} {H H':Hp} {st:Addr} {o:HO} {d:Dt} {v:V} (hd:RowD B d) (h:Rep H d v) (b:But st H H') (e:H st = some o) (so:StO o):Rep H' d v:=by
 obtain ⟨c0,s0,f0,rfl,_⟩:=so
 rcases hd with ⟨es,rfl,_,ha⟩ | ⟨r,rfl,_⟩
 ·rw [Rep] at h ⊢
  obtain ⟨a,vs,rfl,ea,hr⟩:=h
  exact ⟨a,vs,rfl,b _ _ (fun z=>by rw [z,e] at ea; cases ea) ea,joa ha hr⟩
 ·rw [Rep] at h ⊢
  obtain ⟨a,vs,rfl,ea,hr⟩:=h
  have ev:=jev hr
  refine ⟨a,vs,rfl,b _ _ (fun z=>?_) ea,by rw [ev]; exact je8 r⟩
  rw [z,e,ev] at ea
  match r,ea with
  | [],ea=>cases ea
  | [_],ea=>cases ea
  | [_,_],ea=>cases ea
  | _ :: _ :: _ :: _,ea=>simp at ea
theorem RDs.but {B:Int} {H H':Hp} {st:Addr} {o:HO} (b:But st H H') (e:H st = some o) (so:StO o):∀ {xs:List V} {ds:List Dt},(∀ d ∈ ds,RowD B d)→RDs H xs ds→RDs H' xs ds
 | _,_,_,.nil=>.nil
 | _,_,hd,.cons a t=>.cons ((hd _ (.head _)).but a b e so) (RDs.but b e so (fun d h=>hd d (.tail _ h)) t)
theorem jpv {B:Int} {H:Hp} {st a:Addr} {o:HO} {xs:List V} {ds:List Dt} (e:H st = some o) (so:StO o) (ea:H a = some (.lst xs)) (hd:∀ d ∈ ds,RowD B d) (p:RDs H xs ds):a ≠ st:=jqx e so ea fun v hv=>by
 obtain ⟨i,hi,rfl⟩:=List.mem_iff_getElem.mp hv
 obtain ⟨d,hdd,hr⟩:=jaf p (List.getElem?_eq_getElem hi)
 rcases hd d (List.mem_of_getElem? hdd) with ⟨es,rfl,_⟩ | ⟨r,rfl,_⟩
 ·rw [Rep] at hr; obtain ⟨t,_,z,_⟩:=hr; exact ⟨t,z⟩
 ·rw [Rep] at hr; obtain ⟨t,_,z,_⟩:=hr; exact ⟨t,z⟩
theorem Bnt.but {H H':Hp} {st:Addr} {o:HO} {v:V} {la lb:List Dt} (h:Bnt H v la lb) (g:GoodB la lb) (b:But st H H') (e:H st = some o) (so:StO o):Bnt H' v la lb:=by
 obtain ⟨p,a,c,xa,xb,ev,h1,h2,h3,h4,h5⟩:=h
 exact ⟨p,a,c,xa,xb,ev,b.tups e so.imm _ _ rfl h1,b _ _ (jpv e so h2 g.d1 h3) h2,RDs.but b e so g.d1 h3,b _ _ (jpv e so h4 g.d2 h5) h4,RDs.but b e so g.d2 h5⟩
theorem jp7 {i:Int} (h0:-1152921504606846976 < i) (h1:i < 1152921504606846976):i.natAbs.log2 < 60:=by
 by_cases c:i.natAbs = 0
 ·rw [c]; decide
 ·exact (Nat.log2_lt c).mpr (by omega)
theorem jo9:∀ {es:List Dt},(∀ e ∈ es,AtD 2000000000004 e)→jdy es∧jeq es ≤ es.length∧dpDs es = 0∧jb6 es = 0
 | [],_=>⟨by rw [jdy]; trivial,by rw [jeq]; omega,by rw [dpDs],by rw [jb6]⟩
 | d :: ds,h=>by
  obtain ⟨a,b,c,c'⟩:=jo9 (es:=ds) fun x hx=>h x (.tail _ hx)
  have hd:shrt d∧cntD d = 1∧dpD d = 0∧depP d = 0:=by
   rcases h d (.head _) with ⟨i,rfl,h1,h2⟩ | ⟨b,rfl⟩ | rfl | ⟨s,rfl,hs⟩
   ·exact ⟨by rw [shrt]; exact jp7 (by omega) (by omega),by simp [cntD],by simp [dpD],by simp [depP]⟩
   ·exact ⟨by simp [shrt],by simp [cntD],by simp [dpD],by simp [depP]⟩
   ·exact ⟨by simp [shrt],by simp [cntD],by simp [dpD],by simp [depP]⟩
   ·exact ⟨by rw [shrt]; exact hs,by simp [cntD],by simp [dpD],by simp [depP]⟩
  refine ⟨by rw [jdy]; exact ⟨hd.1,a⟩,by rw [jeq,List.length_cons]; omega,by rw [dpDs]; omega,by rw [jb6]; omega⟩
theorem RowD.shrt {d:Dt} (h:RowD 2000000000004 d):L2.shrt d∧cntD d ≤ 4∧dpD d ≤ 1∧depP d ≤ 1:=by
 have key:∀ es:List Dt,es.length ≤ 3→(∀ e ∈ es,AtD 2000000000004 e)→(L2.shrt (.tup es)∧cntD (.tup es) ≤ 4∧dpD (.tup es) ≤ 1∧depP (.tup es) ≤ 1)∧(L2.shrt (.lst es)∧cntD (.lst es) ≤ 4∧dpD (.lst es) ≤ 1∧depP (.lst es) ≤ 1):=fun es hl ha=>by
  obtain ⟨a,b,c,c'⟩:=jo9 ha
  simp only [L2.shrt,cntD,dpD,depP]
  exact ⟨⟨a,by omega,by omega,by omega⟩,a,by omega,by omega,by omega⟩
 rcases h with ⟨es,rfl,hl,ha⟩ | ⟨r,rfl,hr⟩
 ·exact (key es hl ha).1
 ·refine (key _ (by rw [List.length_map]; exact hr.2.1) fun e he=>?_).2
  obtain ⟨i,hi,rfl⟩:=List.mem_map.mp he
  exact .inl ⟨i,rfl,hr.2.2 i hi⟩
theorem jcc:∀ {ds:List Dt},(∀ d ∈ ds,RowD 2000000000004 d)→jdy ds∧jeq ds ≤ 4 * ds.length∧dpDs ds ≤ 1∧jb6 ds ≤ 1
 | [],_=>⟨by rw [jdy]; trivial,by rw [jeq]; omega,by rw [dpDs]; omega,by rw [jb6]; omega⟩
 | d :: ds,h=>by
  obtain ⟨a,b,c,c'⟩:=jcc (ds:=ds) fun x hx=>h x (.tail _ hx)
  have hd:=(h d (.head _)).shrt
  exact ⟨by rw [jdy]; exact ⟨hd.1,a⟩,by rw [jeq,List.length_cons]; omega,by rw [dpDs]; omega,by rw [jb6]; omega⟩
theorem jgo {ps:List (Int × Int)} (h:∀ p ∈ ps,-2000000000004 ≤ p.1∧p.1 ≤ 2000000000004∧-2000000000004 ≤ p.2∧p.2 ≤ 2000000000004):∀ d ∈ ps.map jbf,RowD 2000000000004 d:=fun d hd=>by
 obtain ⟨p,hp,rfl⟩:=List.mem_map.mp hd
 have:=h p hp
 refine .inl ⟨_,rfl,by show 2 ≤ 3; decide,fun e he=>?_⟩
 simp only [List.mem_cons,List.not_mem_nil,or_false] at he
 rcases he with rfl | rfl
 ·exact .inl ⟨_,rfl,by omega,by omega⟩
 ·exact .inl ⟨_,rfl,by omega,by omega⟩
theorem pl_in:∀ {ps:List (Int × Int)} {l s:Int},-1 ≤ l→0 ≤ s→PlOk l s ps→∀ p ∈ ps,0 ≤ p.1∧p.1 ≤ 999∧1 ≤ p.2∧p.2 ≤ 1000000000000
 | [],_,_,_,_,_,_,h=>by cases h
 | q :: r,l,s,hl,hs,h,p,hp=>by
  have h1:=h.1
  rcases List.mem_cons.mp hp with e | hp
  ·rw [e]; omega
  ·exact pl_in (by omega) (by omega) h.2 p hp
theorem ti_in {kvs:List (Key × V)}:∀ {ts:List (Int × Int)} {q:Int × Int},TiOk kvs q ts→∀ t ∈ ts,hasK kvs t.1 = true∧hasK kvs t.2 = true
 | [],_,_,_,h=>by cases h
 | p :: r,q,h,t,ht=>by
  rcases List.mem_cons.mp ht with e | ht
  ·rw [e]; exact ⟨h.1.2.2.1,h.1.2.2.2⟩
  ·exact ti_in h.2 t ht
def allD (ps ts:List (Int × Int)) (la lb:List Dt):Dt:=.tup [webD ps ts,papD la lb]
theorem jpn {ps ts:List (Int × Int)} {la lb:List Dt} (wok:WebOk ps ts) (g:GoodB la lb):shrt (allD ps ts la lb)∧cntD (allD ps ts la lb) ≤ 100000∧dpD (allD ps ts la lb) ≤ 20:=by
 have hps:=pl_in (by decide) (by decide) wok.p
 have hpl:=wok.pl
 have htl:=wok.tl
 have q1:=jcc (jgo (ps:=ps) fun p hp=>by have:=hps p hp; omega)
 have q2:=jcc (jgo (ps:=ts) fun p hp=>by
  have:=ti_in wok.t p hp
  obtain ⟨x,hx,ex⟩:=List.mem_map.mp (jcq this.1)
  obtain ⟨y,hy,ey⟩:=List.mem_map.mp (jcq this.2)
  have:=hps x hx
  have:=hps y hy
  omega)
 have q3:=jcc g.d1
 have q4:=jcc g.d2
 have l1:=g.l1
 have l2:=g.l2
 rw [List.length_map] at q1 q2
 unfold allD webD papD prsD
 simp only [shrt,jdy,cntD,jeq,dpD,dpDs,and_true]
 refine ⟨⟨⟨q1.1,q2.1⟩,q3.1,q4.1⟩,by omega,by omega⟩
theorem GoodB.short {la lb:List Dt} (g:GoodB la lb):jme (papD la lb):=fun a b h ds hb=>by
 unfold papD at h
 injection h with h
 injection h with h1 h2
 injection h2 with h2 _
 rw [← h2] at hb
 injection hb with hb
 rw [← hb]
 have:=g.l2
 omega
theorem GoodB.dep {la lb:List Dt} (g:GoodB la lb):depP (papD la lb) ≤ 20:=by
 have q3:=jcc g.d1
 have q4:=jcc g.d2
 unfold papD
 simp only [depP,jb6]
 omega
theorem jod {H:Hp} {tp:Addr} {v y:V} {ps ts:List (Int × Int)} {la lb:List Dt} (e:H tp = some (.tup [v,y])) (hw:jdf H v ps ts) (hb:Bnt H y la lb):Rep H (allD ps ts la lb) (.ref tp):=by
 unfold allD
 rw [Rep]
 refine ⟨tp,_,rfl,e,?_⟩
 rw [Reps]
 refine ⟨_,_,rfl,jok hw,?_⟩
 rw [Reps]
 exact ⟨_,_,rfl,hb.rep,by rw [Reps]⟩
theorem jog.at {H H':Hp} {t:Addr} {ps ts:List (Int × Int)} (h:jog H H' t ps ts):jdf H' (.ref t) ps ts:=by
 obtain ⟨l1,l2,xs,ys,_,_,_,h1,h2,h3,h4,h5⟩:=h
 exact ⟨t,l1,l2,xs,ys,rfl,h1,h2,h3,h4,h5⟩
end
end My
namespace My
open PySem L2
section
variable {P:Program} {w:World} {K:PySem.W.Frag} {mg:Str→Option Value} {base:Heap} {c1 c2 c3 c4:Tok} {C_NoWeb f_NoWeb:Addr} {dI:FuncData}
def joq (K:PySem.W.Frag):Sp:=fun vs H Q _=>∃ a ns,vs = [.ref a]∧Scr K H a ns∧∀ H',Q (.bl true) H'
theorem nilP {α:Type} (f:α→Dt) (l:List α):eqP (.lst (l.map f)) (.lst []) = l.isEmpty:=by cases l <;> rfl
theorem jfc:∀ (l:List (Int × Int × Int)),jb6 (l.map jc2) ≤ 1
 | []=>by rw [List.map_nil,jb6]; omega
 | p :: r=>by
  rw [List.map_cons,jb6]
  have:=jfc r
  have e:depP (jc2 p) = 1:=rfl
  omega
theorem jmg {a b:TS} {D:Ends} {σ:St} {H:Hp} (h:∀ R E,R = b→E = D→tSeq a R E σ H):tSeq a b D σ H:=h b D rfl rfl
theorem Prs.rds {H:Hp} {xs:List V} {ps:List (Int × Int)} (h:Prs H xs ps):RDs H xs (ps.map jbf):=by
 have:=jas.rds (Prs.irows h)
 rw [List.map_map] at this
 exact this
theorem Tps.rds {H:Hp} {xs:List V} {ps:List (Int × Int × Int)} (h:Tps H xs ps):RDs H xs (ps.map jc2):=by
 have:=jas.rds (Tps.irows h)
 rw [List.map_map] at this
 exact this
structure Kp (K:PySem.W.Frag) (a:Addr) (ns:List Int) (st:Addr) (wv:V) (ps ts:List (Int × Int)) (hl:Addr) (hx:List V) (qs:List (Int × Int)) (da:Addr) (dx:List V) (ds:List (Int × Int × Int)) (H:Hp) (o:HO):Prop where
 scr:Scr K H a ns
 e:H st = some o
 so:StO o
 web:jdf H wv ps ts
 eh:H hl = some (.lst hx)
 ph:Prs H hx qs
 ed:H da = some (.lst dx)
 pd:Tps H dx ds
section
variable {a:Addr} {ns:List Int} {st:Addr} {wv:V} {ps ts:List (Int × Int)} {hl:Addr} {hx:List V} {qs:List (Int × Int)} {da:Addr} {dx:List V} {ds:List (Int × Int × Int)} {H H':Hp} {o o':HO}
theorem Tps.tups' {xs:List V} {ps:List (Int × Int × Int)} (h:Tps H xs ps) (s:TupS H H'):Tps H' xs ps:=Paired.mapP h fun _ _ q=>Tp.tups q s
theorem Kp.same (h:Kp K a ns st wv ps ts hl hx qs da dx ds H o) (s:Same H H'):Kp K a ns st wv ps ts hl hx qs da dx ds H' o :=
 ⟨h.scr.tups s.tups,s _ _ h.e,h.so,h.web.same s,s _ _ h.eh,Prs.same s h.ph,s _ _ h.ed,Tps.tups' h.pd s.tups⟩
theorem jmo {xs:List V} {ps:List (Int × Int)} {c:Addr} (e:H st = some o) (so:StO o) (ea:H c = some (.lst xs)) (p:Prs H xs ps):c ≠ st:=jgq e so ea (Prs.irows p)
theorem Kp.but (h:Kp K a ns st wv ps ts hl hx qs da dx ds H o) (b:But st H H') (e':H' st = some o') (so':StO o'):Kp K a ns st wv ps ts hl hx qs da dx ds H' o':=by
 have t:=b.tups h.e h.so.imm
 refine ⟨h.scr.tups t,e',so',?_,b _ _ (jmo h.e h.so h.eh h.ph) h.eh,Prs.tups t h.ph,b _ _ (jgq h.e h.so h.ed (Tps.irows h.pd)) h.ed,Tps.tups' h.pd t⟩
 obtain ⟨u,pa,ta,xs,ys,e,h1,h2,h3,h4,h5⟩:=h.web
 exact ⟨u,pa,ta,xs,ys,e,t _ _ rfl h1,b _ _ (jmo h.e h.so h2 h4) h2,b _ _ (jmo h.e h.so h3 h5) h3,Prs.tups t h4,Prs.tups t h5⟩
theorem Kp.two {c:Addr} (h:Kp K a ns st wv ps ts hl hx qs da dx ds H o) (hc:H c = none) {H1:Hp} (s:Same H H1) {xs:List V} (ec:H1 c = some (.lst xs)) (b:But2 st c H1 H') (e':H' st = some o') (so':StO o'):Kp K a ns st wv ps ts hl hx qs da dx ds H' o' :=
 h.but (fun d u n q=>b d u n (fun z=>by rw [z,hc] at q; cases q) (s _ _ q)) e' so'
end
theorem ok_law {f:Addr} {fd:FuncData} {f_law_begun:Addr} {d_law_begun:FuncData} {f_law_laid:Addr} {d_law_laid:FuncData} {f_lets_halves:Addr} {d_lets_halves:FuncData} {f_law_own:Addr} {d_law_own:FuncData} {f_law_bent:Addr} {d_law_bent:FuncData} {f_law_shifted:Addr} {d_law_shifted:FuncData} {f_law_parted:Addr} {d_law_parted:FuncData} {f_law_lets:Addr} {d_law_lets:FuncData} (B:Blt mg) (D:DefAt K mg "law" (top 40) ["_law_script"] f fd) (D_law_begun:DefAt K mg "_law_begun" (top 29) ["_law_script","_law_k"] f_law_begun d_law_begun) (G_law_begun:FnOk P w K mg base CX0 1 f_law_begun d_law_begun ["_law_script","_law_k"] (jmd K)) (D_law_laid:DefAt K mg "_law_laid" (top 32) ["_law_state","_law_most"] f_law_laid d_law_laid) (G_law_laid:FnOk P w K mg base CX0 3 f_law_laid d_law_laid ["_law_state","_law_most"] jm8) (D_lets_halves:DefAt K mg "lets_halves" (top 26) ["web","thing"] f_lets_halves d_lets_halves) (G_lets_halves:FnOk P w K mg base CX0 6 f_lets_halves d_lets_halves ["web","thing"] jh2) (D_law_own:DefAt K mg "_law_own" (top 28) ["_law_web"] f_law_own d_law_own) (G_law_own:FnOk P w K mg base CX0 1 f_law_own d_law_own ["_law_web"] jpr) (D_law_bent:DefAt K mg "_law_bent" (top 39) ["_law_state","_law_told"] f_law_bent d_law_bent) (G_law_bent:FnOk P w K mg base CX0 2 f_law_bent d_law_bent ["_law_state","_law_told"] jps) (D_law_shifted:DefAt K mg "_law_shifted" (top 37) ["_law_state","_law_some"] f_law_shifted d_law_shifted) (G_law_shifted:FnOk P w K mg base CX0 2 f_law_shifted d_law_shifted ["_law_state","_law_some"] jm4) (D_law_parted:DefAt K mg "_law_parted" (top 38) ["_law_state","_law_some"] f_law_parted d_law_parted) (G_law_parted:FnOk P w K mg base CX0 2 f_law_parted d_law_parted ["_law_state","_law_some"] jpp) (D_law_lets:DefAt K mg "_law_lets" (top 36) ["_law_web","_law_thing"] f_law_lets d_law_lets) (G_law_lets:FnOk P w K mg base CX0 3 f_law_lets d_law_lets ["_law_web","_law_thing"] jke) (hRp:mg "repr" = none):FnOk P w K mg base CX0 9 f fd ["_law_script"] (joq K):=by
 have sc:FnScope ["_law_script","_law_k","_law_state","_law_web","_law_halves","_law_dues","_law_turn","_law_bent_here","_law_own_here","_law_kept","_law_found"] ["_law_script"] (jac (top 40)):=⟨rfl,rfl,rfl,by decide +kernel,rfl,by decide +kernel,by decide +kernel⟩
 refine D.F.ok sc (fun vs H Q E h=>?_) (fun cdv A outer s H vs Q E hr h=>?_)
 ·obtain ⟨a,ns,rfl,_⟩:=h
  rfl
 obtain ⟨a,ns,rfl,hs,h⟩:=h
 have hu:=jbo hr
 have hu0:_ < PySem.cLine:=Nat.lt_of_succ_lt hu
 refine ⟨_,(ja5 (jce PassesOwn.never rfl (jc6 rfl B.range (ja0 (ja9 (q_max rfl) rfl B.max PyProof.Rows.boot_max (ja0 ja2 (ja0 (ja9 (q_min rfl) rfl B.min PyProof.Rows.boot_min (ja0 (ja9 jde rfl B.len PySem.boot_len (ja0 (qv 0) ja3)) (ja0 ja2 ja3))) ja3))) ja3)) (jad (i:=1) sc.nd rfl (Or.inl rfl)) (ja5 (jae (i:=2) sc.nd rfl (Or.inl rfl) (ja8 G_law_begun (hr.mono (by decide)) rfl D_law_begun.m D_law_begun.F.kp D_law_begun.b .nil jar (ja0 (qv 0) (ja0 (qv 1) ja3)))) (ja5 (jcl (ja8 G_law_laid (hr.mono (by decide)) rfl D_law_laid.m D_law_laid.F.kp D_law_laid.b .nil jar (ja0 (qv 2) (ja0 ja2 ja3))) (jd8 (n:=3) rfl (jah (jad (i:=3) sc.nd rfl (Or.inl rfl)) (jah (jad (i:=4) sc.nd rfl (Or.inl rfl)) (jah (jad (i:=5) sc.nd rfl (Or.inl rfl)) jbw))))) (ja5 (jb5 (jaq q_notB (ja8 G_lets_halves (hr.mono (by decide)) rfl D_lets_halves.m D_lets_halves.F.kp D_lets_halves.b .nil jar (ja0 (ja8 G_law_own (hr.mono (by decide)) rfl D_law_own.m D_law_own.F.kp D_law_own.b .nil jar (ja0 (qv 3) ja3)) (ja0 (jb7 (ja0 (jat jbl rfl B.list PyProof.Rows.boot_list (ja0 (qv 4) ja3)) (ja0 (jat jbl rfl B.list PyProof.Rows.boot_list (ja0 (qv 5) ja3)) ja3))) ja3))) jc8 (jaj _)) (ja6 (jan jc8)) jam) (ja6 (jce PassesOwn.never rfl (jc6 rfl B.range (ja0 ja2 ja3)) (jad (i:=6) sc.nd rfl (Or.inl rfl)) (ja5 (jae (i:=7) sc.nd rfl (Or.inl rfl) (ja8 G_law_bent (hr.mono (by decide)) rfl D_law_bent.m D_law_bent.F.kp D_law_bent.b .nil jar (ja0 (qv 2) (ja0 (jb7 (ja0 (qv 4) (ja0 (qv 5) ja3))) ja3)))) (ja5 (jb5 (PW.pt (jfk (jaq q_eq (qv 6) ja2 (jaj _)) (jdr (jaq (jkp hr.units) (qv 4) (jc1 ja3) (jaj _))))) (ja6 (jae (i:=7) sc.nd rfl (Or.inl rfl) (jb7 (ja0 (ja8 G_law_shifted (hr.mono (by decide)) rfl D_law_shifted.m D_law_shifted.F.kp D_law_shifted.b .nil jar (ja0 (qv 2) (ja0 (jat jbl rfl B.list PyProof.Rows.boot_list (ja0 (qv 4) ja3)) ja3))) (ja0 (jat jbl rfl B.list PyProof.Rows.boot_list (ja0 (qv 5) ja3)) ja3))))) jam) (ja5 (jb5 (PW.pt (jfk (jaq q_eq (qv 6) ja2 (jaj _)) (jdr (jaq (jkp hr.units) (qv 5) (jc1 ja3) (jaj _))))) (ja6 (jae (i:=7) sc.nd rfl (Or.inl rfl) (jb7 (ja0 (jat jbl rfl B.list PyProof.Rows.boot_list (ja0 (qv 4) ja3)) (ja0 (ja8 G_law_shifted (hr.mono (by decide)) rfl D_law_shifted.m D_law_shifted.F.kp D_law_shifted.b .nil jar (ja0 (qv 2) (ja0 (jat jbl rfl B.list PyProof.Rows.boot_list (ja0 (qv 5) ja3)) ja3))) ja3))))) jam) (ja5 (jb5 (PW.pt (jfk (jaq q_eq (qv 6) ja2 (jaj _)) (jdr (jaq (jkp hr.units) (qv 5) (jc1 ja3) (jaj _))))) (ja6 (jae (i:=7) sc.nd rfl (Or.inl rfl) (jb7 (ja0 (jat jbl rfl B.list PyProof.Rows.boot_list (ja0 (qv 4) ja3)) (ja0 (ja8 G_law_parted (hr.mono (by decide)) rfl D_law_parted.m D_law_parted.F.kp D_law_parted.b .nil jar (ja0 (qv 2) (ja0 (jat jbl rfl B.list PyProof.Rows.boot_list (ja0 (qv 5) ja3)) ja3))) ja3))))) jam) (ja5 (jb5 (jaq q_eq (qv 6) ja2 (jaj _)) (ja6 (jae (i:=7) sc.nd rfl (Or.inl rfl) (jb7 (ja0 (jab q_ix (ja8 G_law_bent (hr.mono (by decide)) rfl D_law_bent.m D_law_bent.F.kp D_law_bent.b .nil jar (ja0 (qv 2) (ja0 (jb7 (ja0 (qv 4) (ja0 (qv 5) ja3))) ja3))) ja2 (fun _ _=>rfl)) (ja0 (jab q_ix (qv 7) ja2 (fun _ _=>rfl)) ja3))))) jam) (ja5 (jae (i:=8) sc.nd rfl (Or.inl rfl) (ja8 G_law_own (hr.mono (by decide)) rfl D_law_own.m D_law_own.F.kp D_law_own.b .nil jar (ja0 (qv 3) ja3))) (ja5 (jae (i:=9) sc.nd rfl (Or.inl rfl) (ja9 (jpy hr) rfl hRp PyProof.Rows.boot_repr (ja0 (jb7 (ja0 (qv 3) (ja0 (qv 7) ja3))) ja3))) (ja5 (jae (i:=10) sc.nd rfl (Or.inl rfl) (ja8 G_lets_halves (hr.mono (by decide)) rfl D_lets_halves.m D_lets_halves.F.kp D_lets_halves.b .nil jar (ja0 (qv 8) (ja0 (qv 7) ja3)))) (ja5 (jb5 (jaq q_ne (ja9 (jpy hr) rfl hRp PyProof.Rows.boot_repr (ja0 (jb7 (ja0 (qv 8) (ja0 (qv 7) ja3))) ja3)) (qv 9) (jaj _)) (ja6 (jan jc8)) jam) (ja6 (jb5 (PW.pt (jd6 (jbb (jb9 (ja9 (jdk .bl) rfl B.isinstance PyProof.Rows.boot_isinstance (ja0 (qv 10) (ja0 (jbn (v:=.ty "bool") rfl B.bool PyProof.Rows.boot_bool rfl) ja3))))) (jcu (jaq q_ne (qv 10) (ja8 G_law_lets (hr.mono (by decide)) rfl D_law_lets.m D_law_lets.F.kp D_law_lets.b .nil jar (ja0 (qv 3) (ja0 (qv 7) ja3))) (jaj _))))) (ja6 (jan jc8)) jam))))))))))))))))) (ja6 (jan jc8))),?_⟩
 refine jao fun R hR=>?_
 obtain ⟨N,hN,hN2⟩:∃ N:Nat,N = (if (1:Int) < (if (16:Int) < (ns.length:Int) then 16 else (ns.length:Int)) then (if (16:Int) < (ns.length:Int) then 16 else (ns.length:Int)) else 1).toNat∧N < 70:=⟨_,rfl,by split <;> split <;> omega⟩
 refine jb8 (Itr 0 N) H (fun R' hR'=>?_) (jcg (n:=N) (fun i σ H1=>∃ v1 v2 v3 v4 v5 v6 v7 v8 v9 v10,σ = [some (.ref a),v1,v2,v3,v4,v5,v6,v7,v8,v9,v10]∧Scr K H1 a ns) ⟨none,none,none,none,none,none,none,none,none,none,rfl,hs⟩ ?_ ?_)
 ·unfold jhm
  walk_at "RD"
  refine ⟨a,_,rfl,.inl hs.sq,?_⟩
  simp_arith [List.length_map]
  refine ⟨_,rfl,?_,?_,?_⟩
  ·split <;> split <;> omega
  ·split <;> split <;> omega
  ·rw [← hN]
   exact hR'
 ·rintro i σ H1 hi ⟨v1,v2,v3,v4,v5,v6,v7,v8,v9,v10,rfl,hs1⟩
  simp only [jjz,List.set_cons_zero,List.set_cons_succ]
  refine jao fun R9 hR9=>?_
  walk_at "RD"
  refine ⟨a,0 + (i:Int),ns,rfl,hs1,by omega,by omega,fun st o hst so=>?_⟩
  have s2:=ja4 hst o
  have e2:upd H1 st o st = some o:=ja1
  have hs2:=hs1.tups s2.tups
  generalize upd H1 st o = H2 at s2 e2 hs2
  walk_at "RD"
  subst hR9
  refine jao fun R9 hR9=>?_
  walk_at "RD"
  refine ⟨st,o,rfl,e2,so,fun t wv hl da hx dx hs' ms cs raw tw H3 o3 b3 e3 so3 et hw eh ph ed pd LA=>?_⟩
  have hs3:=hs2.tups (b3.tups e2 so.imm)
  simp_arith [et,jag]
  have wok:=LA.web
  have std:=LA.stands
  have lh:=LA.lenH
  have ld:=LA.lenD
  have bh:=LA.rowsH
  have bd:=LA.rowsD
  clear LA
  generalize jbg ms cs = ps at hw wok std
  generalize jc5 ms cs raw = ts at hw wok std
  generalize jb1 ms cs hs' = qs at ph std lh bh
  generalize jb4 ms tw raw = ds at pd std ld bd
  have k3:Kp K a ns st wv ps ts hl hx qs da dx ds H3 o3:=⟨hs3,e3,so3,hw,eh,ph,ed,pd⟩
  have gd0:GoodB (qs.map jbf) (ds.map jc2):=by
   have z1:=jcd (C:=2000000000004) (by decide) bh
   have z2:=jcd (C:=2000000000004) (by decide) fun r hr=>(bd r hr).1
   rw [List.map_map] at z1 z2
   exact ⟨by rw [List.length_map]; omega,by rw [List.length_map]; omega,z1,z2⟩
  clear hs3 e3 so3 hw eh ph ed pd b3 et hs2 s2 e2 so hs1
  subst hR9
  refine jao fun R9 hR9=>?_
  walk_at "RD"
  refine ⟨wv,ps,ts,rfl,k3.web,fun t4 H4 s4 nw4=>?_⟩
  have k4:=k3.same s4
  simp_arith [jag,k4.eh]
  intro l5 hl5
  have q_l5:=ja4 hl5 (.lst hx)
  have s5:=(Same.refl H4).trans q_l5
  have e_l5:upd H4 l5 (.lst hx) l5 = some (.lst hx):=ja1
  generalize upd H4 l5 (.lst hx) = H5 at q_l5 s5 e_l5
  have k5:=k4.same s5
  simp only [k5.ed]
  intro l6 hl6
  have q_l6:=ja4 hl6 (.lst dx)
  have s6:=s5.trans q_l6
  have e_l6:upd H5 l6 (.lst dx) l6 = some (.lst dx):=ja1
  have e_l5:=q_l6 _ _ e_l5
  generalize upd H5 l6 (.lst dx) = H6 at q_l6 s6 e_l6 e_l5
  intro tp htp
  have q_tp:=ja4 htp (.tup [.ref l5,.ref l6])
  have s7:=s6.trans q_tp
  have e_tp:upd H6 tp (.tup [.ref l5,.ref l6]) tp = some (.tup [.ref l5,.ref l6]):=ja1
  have e_l5:=q_tp _ _ e_l5
  have e_l6:=q_tp _ _ e_l6
  generalize upd H6 tp (.tup [.ref l5,.ref l6]) = H7 at q_tp s7 e_tp e_l5 e_l6
  have k7:=k4.same s7
  have bn7:Bnt H7 (.ref tp) (qs.map jbf) (ds.map jc2):=⟨tp,l5,l6,hx,dx,rfl,e_tp,e_l5,Prs.rds k7.ph,e_l6,Tps.rds k7.pd⟩
  refine ⟨.ref t4,ps,ts,.ref tp,_,rfl,nw4.at.same s7,wok,bn7.rep,gd0.short,fun H8 s8=>?_⟩
  rw [show jcw ps ts (papD (qs.map jbf) (ds.map jc2)) = true from std]
  have k8:=(k7.same s8)
  clear k3 k4 k5 k7 s4 s5 s6 s7 s8 bn7 nw4 e_l5 e_l6 e_tp q_l5 q_l6 q_tp hl5 hl6 htp
  walk_at "RD"
  rw [if_neg (by decide)]
  subst hR9
  refine jb8 (Itr 0 6) H8 (fun R' hR'=>?_) (jcg (n:=6) (fun j σ Hj=>∃ v6 v7 v8 v9 v10 oj,σ = [some (.ref a),some (.int (0 + (i:Int))),some (.ref st),some wv,some (.ref hl),some (.ref da),v6,v7,v8,v9,v10]∧Kp K a ns st wv ps ts hl hx qs da dx ds Hj oj) ⟨v6,v7,v8,v9,v10,o3,rfl,k8⟩ ?_ ?_)
  ·unfold jhm
   walk_at "RD"
   exact ⟨6,rfl,by decide,by decide,hR'⟩
  ·rintro j σ Hj hj ⟨v6,v7,v8,v9,v10,oj,rfl,kj⟩
   simp only [jjz,List.set_cons_zero,List.set_cons_succ]
   refine jao fun R8 hR8=>?_
   walk_at "RD"
   intro tb htb
   have q_tb:=ja4 htb (.tup [.ref hl,.ref da])
   have sA:=(Same.refl Hj).trans q_tb
   have e_tb:upd Hj tb (.tup [.ref hl,.ref da]) tb = some (.tup [.ref hl,.ref da]):=ja1
   generalize upd Hj tb (.tup [.ref hl,.ref da]) = HA at q_tb sA e_tb
   have kA:=kj.same sA
   refine ⟨st,tb,hl,da,oj,hx,dx,_,_,rfl,kA.e,kA.so,e_tb,kA.eh,Prs.irows kA.ph,kA.ed,Tps.irows kA.pd,by rw [List.length_map]; omega,by rw [List.length_map]; omega,bh,fun r hr=>(bd r hr).1,fun p a' b' HB oB xa xb la lb bB eB soB ep ea ra eb rb l1 l2 d1 d2=>?_⟩
   have kB:=kA.but bB eB soB
   have bnB:Bnt HB (.ref p) la lb:=⟨p,a',b',xa,xb,rfl,ep,ea,ra,eb,rb⟩
   have gB:GoodB la lb:=⟨l1,l2,d1,d2⟩
   clear kA sA q_tb e_tb htb bB eB soB ep ea ra eb rb l1 l2 d1 d2
   walk_at "RD"
   subst hR8
   refine jmg fun R8 E hR8 hE=>?_
   have PB:∀ (H':Hp) (o':HO) (v:V) (la lb:List Dt),Kp K a ns st wv ps ts hl hx qs da dx ds H' o'→Bnt H' v la lb→GoodB la lb→R8 E [some (.ref a),some (.int (0 + (i:Int))),some (.ref st),some wv,some (.ref hl),some (.ref da),some (.int (0 + (j:Int))),some v,v8,v9,v10] H':=by
    clear kB bnB gB la lb
    intro HB oB v la lb kB bnB gB
    subst hR8
    refine jao fun R7 hR7=>?_
    have PC:∀ (H':Hp) (o':HO) (v:V) (la lb:List Dt),Kp K a ns st wv ps ts hl hx qs da dx ds H' o'→Bnt H' v la lb→GoodB la lb→R7 E [some (.ref a),some (.int (0 + (i:Int))),some (.ref st),some wv,some (.ref hl),some (.ref da),some (.int (0 + (j:Int))),some v,v8,v9,v10] H':=by
     clear kB bnB gB
     intro HB oB v la lb kB bnB gB
     subst hR7
     refine jao fun R6 hR6=>?_
     have PD:∀ (H':Hp) (o':HO) (v:V) (la lb:List Dt),Kp K a ns st wv ps ts hl hx qs da dx ds H' o'→Bnt H' v la lb→GoodB la lb→R6 E [some (.ref a),some (.int (0 + (i:Int))),some (.ref st),some wv,some (.ref hl),some (.ref da),some (.int (0 + (j:Int))),some v,v8,v9,v10] H':=by
      clear kB bnB gB
      intro HB oB v la lb kB bnB gB
      subst hR6
      refine jao fun R5 hR5=>?_
      have PE:∀ (H':Hp) (o':HO) (v:V) (la lb:List Dt),Kp K a ns st wv ps ts hl hx qs da dx ds H' o'→Bnt H' v la lb→GoodB la lb→R5 E [some (.ref a),some (.int (0 + (i:Int))),some (.ref st),some wv,some (.ref hl),some (.ref da),some (.int (0 + (j:Int))),some v,v8,v9,v10] H':=by
       clear kB bnB gB
       intro HB oB v la lb kB bnB gB
       subst hR5
       subst hE
       refine jao fun R4 hR4=>?_
       walk_at "RD"
       refine ⟨wv,ps,ts,rfl,kB.web,fun t4 HC sC nw4=>?_⟩
       have kC:=kB.same sC
       have bnC:=bnB.same sC
       have owC:=nw4.at
       walk_at "RD"
       subst hR4
       refine jao fun R4 hR4=>?_
       walk_at "RD"
       intro tq htq
       have q_tq:=ja4 htq (.tup [wv,v])
       have sD:=(Same.refl HC).trans q_tq
       have e_tq:upd HC tq (.tup [wv,v]) tq = some (.tup [wv,v]):=ja1
       generalize upd HC tq (.tup [wv,v]) = HD at q_tq sD e_tq
       have kD:=kC.same sD
       have bnD:=bnC.same sD
       have owD:=owC.same sD
       obtain ⟨z1,z2,z3⟩:=jpn (ps:=ps) (ts:=ts) wok gB
       refine ⟨tq,allD ps ts la lb,rfl,jod e_tq kD.web bnD,z1,z2,z3,?_⟩
       generalize hsh:(pdOf (allD ps ts la lb)).shown = sh
       walk_at "RD"
       subst hR4
       refine jao fun R4 hR4=>?_
       walk_at "RD"
       refine ⟨.ref t4,ps,ts,v,_,rfl,owD,wok,bnD.rep,gB.short,fun HE sE=>?_⟩
       have kE:=kD.same sE
       have bnE:=bnD.same sE
       have owE:=owD.same sE
       walk_at "RD"
       subst hR4
       refine jao fun R4 hR4=>?_
       walk_at "RD"
       intro tr htr
       have q_tr:=ja4 htr (.tup [.ref t4,v])
       have sF:=(Same.refl HE).trans q_tr
       have e_tr:upd HE tr (.tup [.ref t4,v]) tr = some (.tup [.ref t4,v]):=ja1
       generalize upd HE tr (.tup [.ref t4,v]) = HF at q_tr sF e_tr
       have kF:=kE.same sF
       have bnF:=bnE.same sF
       refine ⟨tr,allD ps ts la lb,rfl,jod e_tr (owE.same sF) bnF,z1,z2,z3,?_⟩
       rw [hsh]
       simp_arith [decide_true,Bool.not_true,Bool.false_eq_true,if_false]
       subst hR4
       walk_at "RD"
       simp only [kd,isi,Bool.not_true,Bool.false_eq_true,if_false]
       refine ⟨wv,ps,ts,v,_,rfl,kF.web,wok,bnF.rep,gB.short,gB.dep,fun HG sG=>?_⟩
       simp only [decide_true,Bool.not_true,Bool.false_eq_true,if_false]
       exact ⟨_,_,_,_,_,_,rfl,kF.same sG⟩
      walk_at "RD"
      by_cases cj:(0:Int) + (j:Int) = 4
      ·simp only [decide_eq_true cj,if_true]
       intro tb htb
       have q_tb:=ja4 htb (.tup [.ref hl,.ref da])
       have sC:=(Same.refl HB).trans q_tb
       have e_tb:upd HB tb (.tup [.ref hl,.ref da]) tb = some (.tup [.ref hl,.ref da]):=ja1
       generalize upd HB tb (.tup [.ref hl,.ref da]) = HC at q_tb sC e_tb
       have kC:=kB.same sC
       have bnC:=bnB.same sC
       refine ⟨st,tb,hl,da,oB,hx,dx,_,_,rfl,kC.e,kC.so,e_tb,kC.eh,Prs.irows kC.ph,kC.ed,Tps.irows kC.pd,by rw [List.length_map]; omega,by rw [List.length_map]; omega,bh,fun r hr=>(bd r hr).1,fun p a' b' HD oD xa xb la' lb' bD eD soD ep ea ra eb rb l1 l2 d1 d2=>?_⟩
       have kD:=kC.but bD eD soD
       have bnD:=bnC.but gB bD kC.e kC.so
       obtain ⟨p0,a0,b0,xa0,xb0,rfl,f1,f2,f3,f4,f5⟩:=bnD
       simp only [jag,ep,at0,f1,at1]
       intro tq htq
       have q_tq:=ja4 htq (.tup [.ref a',.ref b0])
       have sE:=(Same.refl HD).trans q_tq
       have e_tq:upd HD tq (.tup [.ref a',.ref b0]) tq = some (.tup [.ref a',.ref b0]):=ja1
       have ea:=q_tq _ _ ea
       have f4:=q_tq _ _ f4
       generalize upd HD tq (.tup [.ref a',.ref b0]) = HE at q_tq sE e_tq ea f4
       have kE:=kD.same sE
       exact PE HE oD (.ref tq) la' lb kE ⟨tq,a',b0,xa,xb0,rfl,e_tq,ea,ra.same sE,f4,f5.same sE⟩ ⟨l1,gB.l2,d1,gB.d2⟩
      simp only [decide_eq_false cj,Bool.false_eq_true,if_false]
      exact PE _ _ _ _ _ kB bnB gB
     walk_at "RD"
     by_cases cj:(0:Int) + (j:Int) = 3
     ·simp only [decide_eq_true cj,if_true]
      intro e0 he0
      have q_e0:=ja4 he0 (.lst [])
      have sC:=(Same.refl HB).trans q_e0
      have e_e0:upd HB e0 (.lst []) e0 = some (.lst []):=ja1
      generalize upd HB e0 (.lst []) = HC at q_e0 sC e_e0
      have kC:=kB.same sC
      have bnC:=bnB.same sC
      refine ⟨.lst (ds.map jc2),.lst [],(by rw [Rep]; exact ⟨da,dx,rfl,kC.ed,(Tps.rds kC.pd).reps⟩),jh7 e_e0,(by rw [depP]; have:=jfc ds; omega),.inl ⟨_,_,rfl,rfl⟩,?_⟩
      simp only [if_true,nilP]
      by_cases hE0:ds = []
      ·rw [hE0]
       simp only [List.isEmpty_nil,Bool.not_true,Bool.false_eq_true,if_false]
       exact PD _ _ _ _ _ kC bnC gB
      have hE1:ds.isEmpty = false:=by cases ds with | nil=>exact absurd rfl hE0 | cons _ _=>rfl
      rw [hE1]
      simp only [Bool.not_false,if_true]
      simp only [jag,kC.eh]
      intro lc hlc
      have q_lc:=ja4 hlc (.lst hx)
      have sD:=(Same.refl HC).trans q_lc
      have e_lc:upd HC lc (.lst hx) lc = some (.lst hx):=ja1
      generalize upd HC lc (.lst hx) = HD at q_lc sD e_lc
      have kD:=kC.same sD
      simp only [kD.ed]
      intro l2 hl2
      have q_l2:=ja4 hl2 (.lst dx)
      have sE:=sD.trans q_l2
      have e_l2:upd HD l2 (.lst dx) l2 = some (.lst dx):=ja1
      have e_lc:=q_l2 _ _ e_lc
      generalize upd HD l2 (.lst dx) = HE at q_l2 sE e_l2 e_lc
      have kE:=kC.same sE
      have ncs:lc ≠ st:=(ja7 kC.e hlc).symm
      refine ⟨st,l2,oB,dx,_,rfl,kE.e,kE.so,e_l2,Tps.irows kE.pd,(fun z=>hE0 (List.map_eq_nil_iff.mp z)),by rw [List.length_map]; omega,bd,fun pp HF oF xs' rs' bF eF soF el' pr' len' hb'=>?_⟩
      have kF:=kE.but bF eF soF
      rw [List.length_map] at len'
      have e_lcF:=bF _ _ ncs e_lc
      intro tq htq
      have q_tq:=ja4 htq (.tup [.ref lc,.ref pp])
      have sG:=(Same.refl HF).trans q_tq
      have e_tq:upd HF tq (.tup [.ref lc,.ref pp]) tq = some (.tup [.ref lc,.ref pp]):=ja1
      have el':=q_tq _ _ el'
      have e_lcF:=q_tq _ _ e_lcF
      generalize upd HF tq (.tup [.ref lc,.ref pp]) = HG at q_tq sG e_tq el' e_lcF
      have kG:=kF.same sG
      exact PD HG oF (.ref tq) (qs.map jbf) (rs'.map rowD) kG ⟨tq,lc,pp,hx,xs',rfl,e_tq,e_lcF,Prs.rds kG.ph,el',jas.rds (jas.tups pr' sG.tups)⟩ ⟨gd0.l1,by rw [List.length_map]; omega,gd0.d1,jcd (by decide) hb'⟩
     simp only [decide_eq_false cj,Bool.false_eq_true,if_false]
     exact PD _ _ _ _ _ kB bnB gB
    walk_at "RD"
    by_cases cj:(0:Int) + (j:Int) = 2
    ·simp only [decide_eq_true cj,if_true]
     intro e0 he0
     have q_e0:=ja4 he0 (.lst [])
     have sC:=(Same.refl HB).trans q_e0
     have e_e0:upd HB e0 (.lst []) e0 = some (.lst []):=ja1
     generalize upd HB e0 (.lst []) = HC at q_e0 sC e_e0
     have kC:=kB.same sC
     have bnC:=bnB.same sC
     refine ⟨.lst (ds.map jc2),.lst [],(by rw [Rep]; exact ⟨da,dx,rfl,kC.ed,(Tps.rds kC.pd).reps⟩),jh7 e_e0,(by rw [depP]; have:=jfc ds; omega),.inl ⟨_,_,rfl,rfl⟩,?_⟩
     simp only [if_true,nilP]
     by_cases hE0:ds = []
     ·rw [hE0]
      simp only [List.isEmpty_nil,Bool.not_true,Bool.false_eq_true,if_false]
      exact PC _ _ _ _ _ kC bnC gB
     have hE1:ds.isEmpty = false:=by cases ds with | nil=>exact absurd rfl hE0 | cons _ _=>rfl
     rw [hE1]
     simp only [Bool.not_false,if_true]
     simp only [jag,kC.eh]
     intro lc hlc
     have q_lc:=ja4 hlc (.lst hx)
     have sD:=(Same.refl HC).trans q_lc
     have e_lc:upd HC lc (.lst hx) lc = some (.lst hx):=ja1
     generalize upd HC lc (.lst hx) = HD at q_lc sD e_lc
     have kD:=kC.same sD
     have e_lc0:=e_lc
     simp only [kD.ed]
     intro l2 hl2
     have q_l2:=ja4 hl2 (.lst dx)
     have sE:=sD.trans q_l2
     have e_l2:upd HD l2 (.lst dx) l2 = some (.lst dx):=ja1
     have e_lc:=q_l2 _ _ e_lc
     generalize upd HD l2 (.lst dx) = HE at q_l2 sE e_l2 e_lc
     have kE:=kC.same sE
     have ncs:lc ≠ st:=(ja7 kC.e hlc).symm
     have ncl:lc ≠ l2:=ja7 e_lc0 hl2
     refine ⟨st,l2,oB,dx,_,rfl,kE.e,kE.so,e_l2,Tps.irows kE.pd,(fun z=>hE0 (List.map_eq_nil_iff.mp z)),by rw [List.length_map]; omega,(fun r hr=>(bd r hr).1),fun HF oF xs' rs' bF eF soF el' pr' len' hb'=>?_⟩
     have kF:=kD.two hl2 q_l2 e_l2 bF eF soF
     rw [List.length_map] at len'
     have e_lcF:=bF _ _ ncs ncl e_lc
     intro tq htq
     have q_tq:=ja4 htq (.tup [.ref lc,.ref l2])
     have sG:=(Same.refl HF).trans q_tq
     have e_tq:upd HF tq (.tup [.ref lc,.ref l2]) tq = some (.tup [.ref lc,.ref l2]):=ja1
     have el':=q_tq _ _ el'
     have e_lcF:=q_tq _ _ e_lcF
     generalize upd HF tq (.tup [.ref lc,.ref l2]) = HG at q_tq sG e_tq el' e_lcF
     have kG:=kF.same sG
     exact PC HG oF (.ref tq) (qs.map jbf) (rs'.map rowD) kG ⟨tq,lc,l2,hx,xs',rfl,e_tq,e_lcF,Prs.rds kG.ph,el',jas.rds (jas.tups pr' sG.tups)⟩ ⟨gd0.l1,by rw [List.length_map]; omega,gd0.d1,jcd (by decide) hb'⟩
    simp only [decide_eq_false cj,Bool.false_eq_true,if_false]
    exact PC _ _ _ _ _ kB bnB gB
   walk_at "RD"
   by_cases cj:(0:Int) + (j:Int) = 1
   ·simp only [decide_eq_true cj,if_true]
    intro e0 he0
    have q_e0:=ja4 he0 (.lst [])
    have sC:=(Same.refl HB).trans q_e0
    have e_e0:upd HB e0 (.lst []) e0 = some (.lst []):=ja1
    generalize upd HB e0 (.lst []) = HC at q_e0 sC e_e0
    have kC:=kB.same sC
    have bnC:=bnB.same sC
    refine ⟨.lst (qs.map jbf),.lst [],(by rw [Rep]; exact ⟨hl,hx,rfl,kC.eh,Prs.reps kC.ph⟩),jh7 e_e0,(by rw [depP]; have:=jeb qs; omega),.inl ⟨_,_,rfl,rfl⟩,?_⟩
    simp only [if_true,nilP]
    by_cases hE0:qs = []
    ·rw [hE0]
     simp only [List.isEmpty_nil,Bool.not_true,Bool.false_eq_true,if_false]
     exact PB _ _ _ _ _ kC bnC gB
    have hE1:qs.isEmpty = false:=by cases qs with | nil=>exact absurd rfl hE0 | cons _ _=>rfl
    rw [hE1]
    simp only [Bool.not_false,if_true]
    simp only [jag,kC.eh]
    intro lc hlc
    have q_lc:=ja4 hlc (.lst hx)
    have sD:=(Same.refl HC).trans q_lc
    have e_lc:upd HC lc (.lst hx) lc = some (.lst hx):=ja1
    generalize upd HC lc (.lst hx) = HD at q_lc sD e_lc
    have kD:=kC.same sD
    refine ⟨st,lc,oB,hx,_,rfl,kD.e,kD.so,e_lc,Prs.irows kD.ph,(fun z=>hE0 (List.map_eq_nil_iff.mp z)),by rw [List.length_map]; omega,bh,fun HE oE xs' rs' bE eE soE el' pr' len' hb'=>?_⟩
    have kE:=kC.two hlc sD e_lc bE eE soE
    rw [List.length_map] at len'
    simp only [kE.ed]
    intro l2 hl2
    have q_l2:=ja4 hl2 (.lst dx)
    have sF:=(Same.refl HE).trans q_l2
    have e_l2:upd HE l2 (.lst dx) l2 = some (.lst dx):=ja1
    have el':=q_l2 _ _ el'
    generalize upd HE l2 (.lst dx) = HF at q_l2 sF e_l2 el'
    intro tq htq
    have q_tq:=ja4 htq (.tup [.ref lc,.ref l2])
    have sG:=sF.trans q_tq
    have e_tq:upd HF tq (.tup [.ref lc,.ref l2]) tq = some (.tup [.ref lc,.ref l2]):=ja1
    have el':=q_tq _ _ el'
    have e_l2:=q_tq _ _ e_l2
    generalize upd HF tq (.tup [.ref lc,.ref l2]) = HG at q_tq sG e_tq el' e_l2
    have kG:=kE.same sG
    exact PB HG oE (.ref tq) (rs'.map rowD) (ds.map jc2) kG ⟨tq,lc,l2,xs',dx,rfl,e_tq,el',jas.rds (jas.tups pr' sG.tups),e_l2,Tps.rds kG.pd⟩ ⟨by rw [List.length_map]; omega,gd0.l2,jcd (by decide) hb',gd0.d2⟩
   simp only [decide_eq_false cj,Bool.false_eq_true,if_false]
   exact PB _ _ _ _ _ kB bnB gB
  ·rintro σ Hj ⟨v6,v7,v8,v9,v10,oj,rfl,kj⟩
   exact ⟨_,_,_,_,_,_,_,_,_,_,rfl,kj.scr⟩
 ·rintro σ H1 ⟨v1,v2,v3,v4,v5,v6,v7,v8,v9,v10,rfl,hs1⟩
  subst hR
  walk_at "RD"
  exact h _
end
end My
set_option autoImplicit true
namespace My
open PySem L2
abbrev aT (K:PySem.W.Frag) (x:Str) (f:Addr):Prop:=PySem.W.nsIn K mainGlobals x = some (some (.ref f))
abbrev lT (K:PySem.W.Frag) (x q:Str) (st:Stmt) (f:Addr) (oc:Value) (od an:Option Addr) (sl:Array (Option Value)) (kV dc pm cd ct:Value):Prop:=K.lookup f = some ⟨oc,od,.func (PySem.W.fnOf x q (jdd st) (jd4 st) (jac st) .none kV dc pm an cd ct),sl⟩
abbrev cT (K:PySem.W.Frag) (cd:Value) (x:Str):Prop:=PySem.W.codeIn K cd x = true
abbrev kT (K:PySem.W.Frag) (f:Addr):Prop:=PySem.W.keepIn K (.ref f) = true
abbrev zT (K:PySem.W.Frag) (x:Str):Prop:=PySem.W.nsIn K mainGlobals x = some none
theorem dmk {K:PySem.W.Frag} {h:Heap} {mg:Str→Option Value} (X:K.In h) (G:h.Ns mainGlobals mg) {x:Str} {st:Stmt} {f:Addr} {oc:Value} {od an:Option Addr} {sl:Array (Option Value)} {kV dc pm cd ct:Value} (a:aT K x f) (l:lT K x x st f oc od an sl kV dc pm cd ct) (c:cT K cd x) (k:kT K f) (ps:List Str)
  (b:jk7 K (PySem.W.fnOf x x (jdd st) (jd4 st) (jac st) .none kV dc pm an cd ct) ps []):DefAt K mg x st ps f (PySem.W.fnOf x x (jdd st) (jd4 st) (jac st) .none kV dc pm an cd ct):=⟨jax l c k,b,PySem.W.mg_of X G a⟩
theorem all_mk {l:PySem.W.OpenLaw} {w:World} {K:PySem.W.Frag} {h:Heap} {mg:Str→Option Value} {fa:Addr} (X:K.In h) (G:h.Ns mainGlobals mg) (hfa:mg "law" = some (.ref fa)) (a0:aT K "is_whole" f0) (l0:lT K "is_whole" "is_whole" (top 1) f0 oc0 od0 an0 sq0 kV0 dc0 pm0 cd0 ct0) (g0:cT K cd0 "is_whole") (k0:kT K f0) (a1:aT K "is_tuple_of" f1) (l1:lT K "is_tuple_of" "is_tuple_of" (top 2) f1 oc1 od1 an1 sq1 kV1 dc1 pm1 cd1 ct1) (g1:cT K cd1 "is_tuple_of") (k1:kT K f1) (a2:aT K "is_pair_of_wholes" f2) (l2:lT K "is_pair_of_wholes" "is_pair_of_wholes" (top 3) f2 oc2 od2 an2 sq2 kV2 dc2 pm2 cd2 ct2) (g2:cT K cd2 "is_pair_of_wholes") (k2:kT K f2) (a3:aT K "is_list_up_to" f3) (l3:lT K "is_list_up_to" "is_list_up_to" (top 4) f3 oc3 od3 an3 sq3 kV3 dc3 pm3 cd3 ct3) (g3:cT K cd3 "is_list_up_to") (k3:kT K f3) (a4:aT K "marked" f4) (l4:lT K "marked" "marked" (top 5) f4 oc4 od4 an4 sq4 kV4 dc4 pm4 cd4 ct4) (g4:cT K cd4 "marked") (k4:kT K f4) (a5:aT K "place_stands" f5) (l5:lT K "place_stands" "place_stands" (top 14) f5 oc5 od5 an5 sq5 kV5 dc5 pm5 cd5 ct5) (g5:cT K cd5 "place_stands") (k5:kT K f5) (a6:aT K "tie_stands" f6) (l6:lT K "tie_stands" "tie_stands" (top 15) f6 oc6 od6 an6 sq6 kV6 dc6 pm6 cd6 ct6) (g6:cT K cd6 "tie_stands") (k6:kT K f6) (a7:aT K "look_at_places" f7) (l7:lT K "look_at_places" "look_at_places" (top 16) f7 oc7 od7 an7 sq7 kV7 dc7 pm7 cd7 ct7) (g7:cT K cd7 "look_at_places") (k7:kT K f7) (a8:aT K "look_at_ties" f8) (l8:lT K "look_at_ties" "look_at_ties" (top 17) f8 oc8 od8 an8 sq8 kV8 dc8 pm8 cd8 ct8) (g8:cT K cd8 "look_at_ties") (k8:kT K f8) (a9:aT K "look_at_web" f9) (l9:lT K "look_at_web" "look_at_web" (top 18) f9 oc9 od9 an9 sq9 kV9 dc9 pm9 cd9 ct9) (g9:cT K cd9 "look_at_web") (k9:kT K f9) (a10:aT K "halves_stand" f10) (l10:lT K "halves_stand" "halves_stand" (top 20) f10 oc10 od10 an10 sq10 kV10 dc10 pm10 cd10 ct10) (g10:cT K cd10 "halves_stand") (k10:kT K f10) (a11:aT K "is_due" f11) (l11:lT K "is_due" "is_due" (top 21) f11 oc11 od11 an11 sq11 kV11 dc11 pm11 cd11 ct11) (g11:cT K cd11 "is_due") (k11:kT K f11) (a12:aT K "due_at" f12) (l12:lT K "due_at" "due_at" (top 22) f12 oc12 od12 an12 sq12 kV12 dc12 pm12 cd12 ct12) (g12:cT K cd12 "due_at") (k12:kT K f12) (a13:aT K "dues_stand" f13) (l13:lT K "dues_stand" "dues_stand" (top 23) f13 oc13 od13 an13 sq13 kV13 dc13 pm13 cd13 ct13) (g13:cT K cd13 "dues_stand") (k13:kT K f13) (a14:aT K "cost_in_halves" f14) (l14:lT K "cost_in_halves" "cost_in_halves" (top 24) f14 oc14 od14 an14 sq14 kV14 dc14 pm14 cd14 ct14) (g14:cT K cd14 "cost_in_halves") (k14:kT K f14) (a15:aT K "paper_stands" f15) (l15:lT K "paper_stands" "paper_stands" (top 25) f15 oc15 od15 an15 sq15 kV15 dc15 pm15 cd15 ct15) (g15:cT K cd15 "paper_stands") (k15:kT K f15) (a16:aT K "lets_halves" f16) (l16:lT K "lets_halves" "lets_halves" (top 26) f16 oc16 od16 an16 sq16 kV16 dc16 pm16 cd16 ct16) (g16:cT K cd16 "lets_halves") (k16:kT K f16) (a17:aT K "_law_own" f17) (l17:lT K "_law_own" "_law_own" (top 28) f17 oc17 od17 an17 sq17 kV17 dc17 pm17 cd17 ct17) (g17:cT K cd17 "_law_own") (k17:kT K f17) (a18:aT K "_law_begun" f18) (l18:lT K "_law_begun" "_law_begun" (top 29) f18 oc18 od18 an18 sq18 kV18 dc18 pm18 cd18 ct18) (g18:cT K cd18 "_law_begun") (k18:kT K f18) (a19:aT K "_law_take" f19) (l19:lT K "_law_take" "_law_take" (top 30) f19 oc19 od19 an19 sq19 kV19 dc19 pm19 cd19 ct19) (g19:cT K cd19 "_law_take") (k19:kT K f19) (a20:aT K "_law_priced" f20) (l20:lT K "_law_priced" "_law_priced" (top 31) f20 oc20 od20 an20 sq20 kV20 dc20 pm20 cd20 ct20) (g20:cT K cd20 "_law_priced") (k20:kT K f20) (a21:aT K "_law_laid" f21) (l21:lT K "_law_laid" "_law_laid" (top 32) f21 oc21 od21 an21 sq21 kV21 dc21 pm21 cd21 ct21) (g21:cT K cd21 "_law_laid") (k21:kT K f21) (a22:aT K "_law_whole" f22) (l22:lT K "_law_whole" "_law_whole" (top 33) f22 oc22 od22 an22 sq22 kV22 dc22 pm22 cd22 ct22) (g22:cT K cd22 "_law_whole") (k22:kT K f22) (a23:aT K "_law_are_halves" f23) (l23:lT K "_law_are_halves" "_law_are_halves" (top 34) f23 oc23 od23 an23 sq23 kV23 dc23 pm23 cd23 ct23) (g23:cT K cd23 "_law_are_halves") (k23:kT K f23) (a24:aT K "_law_are_dues" f24) (l24:lT K "_law_are_dues" "_law_are_dues" (top 35) f24 oc24 od24 an24 sq24 kV24 dc24 pm24 cd24 ct24) (g24:cT K cd24 "_law_are_dues") (k24:kT K f24) (a25:aT K "_law_lets" f25) (l25:lT K "_law_lets" "_law_lets" (top 36) f25 oc25 od25 an25 sq25 kV25 dc25 pm25 cd25 ct25) (g25:cT K cd25 "_law_lets") (k25:kT K f25) (a26:aT K "_law_shifted" f26) (l26:lT K "_law_shifted" "_law_shifted" (top 37) f26 oc26 od26 an26 sq26 kV26 dc26 pm26 cd26 ct26) (g26:cT K cd26 "_law_shifted") (k26:kT K f26) (a27:aT K "_law_parted" f27) (l27:lT K "_law_parted" "_law_parted" (top 38) f27 oc27 od27 an27 sq27 kV27 dc27 pm27 cd27 ct27) (g27:cT K cd27 "_law_parted") (k27:kT K f27) (a28:aT K "_law_bent" f28) (l28:lT K "_law_bent" "_law_bent" (top 39) f28 oc28 od28 an28 sq28 kV28 dc28 pm28 cd28 ct28) (g28:cT K cd28 "_law_bent") (k28:kT K f28) (a29:aT K "law" f29) (l29:lT K "law" "law" (top 40) f29 oc29 od29 an29 sq29 kV29 dc29 pm29 cd29 ct29) (g29:cT K cd29 "law") (k29:kT K f29) (z_len:zT K "len") (z_isinstance:zT K "isinstance") (z_all:zT K "all") (z_min:zT K "min") (z_list:zT K "list") (z_dict:zT K "dict") (z_int:zT K "int") (z_bool:zT K "bool") (z_str:zT K "str") (z_tuple:zT K "tuple") (z_range:zT K "range") (z_enumerate:zT K "enumerate") (z_zip:zT K "zip") (z_max:zT K "max") (z_any:zT K "any") (z_sum:zT K "sum") (z_sorted:zT K "sorted") (z_set:zT K "set") (n_MOST_PLACES:PySem.W.nsIn K mainGlobals "MOST_PLACES" = some (some (.int 40 c1))) (n_MOST_TIES:PySem.W.nsIn K mainGlobals "MOST_TIES" = some (some (.int 120 c2))) (n_LAST_PLACE:PySem.W.nsIn K mainGlobals "LAST_PLACE" = some (some (.int 999 c3))) (n_MOST_PRICE:PySem.W.nsIn K mainGlobals "MOST_PRICE" = some (some (.int 1000000000000 c4))) (z_repr:zT K "repr")
 :∃ fd:FuncData,(∀ (s:Shared) (v:Value),BindsTo s fd ⟨[v],[]⟩ [("_law_script",v)])∧∀ base:Heap,K.In base→base.Ns mainGlobals mg→FnOk l.prog w K mg base CX0 9 fa fd ["_law_script"] (joq K):=by
 have e:=hfa.symm.trans (PySem.W.mg_of X G a29)
 cases e
 have B:Blt mg:=⟨PySem.W.mg_none_of X G z_len,PySem.W.mg_none_of X G z_isinstance,PySem.W.mg_none_of X G z_all,PySem.W.mg_none_of X G z_min,PySem.W.mg_none_of X G z_list,PySem.W.mg_none_of X G z_dict,PySem.W.mg_none_of X G z_int,PySem.W.mg_none_of X G z_bool,PySem.W.mg_none_of X G z_str,PySem.W.mg_none_of X G z_tuple,PySem.W.mg_none_of X G z_range,PySem.W.mg_none_of X G z_enumerate,PySem.W.mg_none_of X G z_zip,PySem.W.mg_none_of X G z_max,PySem.W.mg_none_of X G z_any,PySem.W.mg_none_of X G z_sum,PySem.W.mg_none_of X G z_sorted,PySem.W.mg_none_of X G z_set⟩
 have C:Cst mg c1 c2 c3 c4:=⟨PySem.W.mg_of X G n_MOST_PLACES,PySem.W.mg_of X G n_MOST_TIES,PySem.W.mg_of X G n_LAST_PLACE,PySem.W.mg_of X G n_MOST_PRICE⟩
 have D_is_whole:=dmk X G a0 l0 g0 k0 ["thing"] ((jax l0 g0 k0).binds fun _ _ _ _ _ _ us hl=>match us,hl with | [_],_=>rfl)
 have D_is_tuple_of:=dmk X G a1 l1 g1 k1 ["thing","many"] ((jax l1 g1 k1).binds fun _ _ _ _ _ _ us hl=>match us,hl with | [_,_],_=>rfl)
 have D_is_pair_of_wholes:=dmk X G a2 l2 g2 k2 ["thing"] ((jax l2 g2 k2).binds fun _ _ _ _ _ _ us hl=>match us,hl with | [_],_=>rfl)
 have D_is_list_up_to:=dmk X G a3 l3 g3 k3 ["thing","most"] ((jax l3 g3 k3).binds fun _ _ _ _ _ _ us hl=>match us,hl with | [_,_],_=>rfl)
 have D_marked:=dmk X G a4 l4 g4 k4 ["places"] ((jax l4 g4 k4).binds fun _ _ _ _ _ _ us hl=>match us,hl with | [_],_=>rfl)
 have D_place_stands:=dmk X G a5 l5 g5 k5 ["thing","last","spent"] ((jax l5 g5 k5).binds fun _ _ _ _ _ _ us hl=>match us,hl with | [_,_,_],_=>rfl)
 have D_tie_stands:=dmk X G a6 l6 g6 k6 ["thing","last","prices"] ((jax l6 g6 k6).binds fun _ _ _ _ _ _ us hl=>match us,hl with | [_,_,_],_=>rfl)
 have D_look_at_places:=dmk X G a7 l7 g7 k7 ["places"] ((jax l7 g7 k7).binds fun _ _ _ _ _ _ us hl=>match us,hl with | [_],_=>rfl)
 have D_look_at_ties:=dmk X G a8 l8 g8 k8 ["ties","prices"] ((jax l8 g8 k8).binds fun _ _ _ _ _ _ us hl=>match us,hl with | [_,_],_=>rfl)
 have D_look_at_web:=dmk X G a9 l9 g9 k9 ["thing"] ((jax l9 g9 k9).binds fun _ _ _ _ _ _ us hl=>match us,hl with | [_],_=>rfl)
 have D_halves_stand:=dmk X G a10 l10 g10 k10 ["web","thing"] ((jax l10 g10 k10).binds fun _ _ _ _ _ _ us hl=>match us,hl with | [_,_],_=>rfl)
 have D_is_due:=dmk X G a11 l11 g11 k11 ["thing"] ((jax l11 g11 k11).binds fun _ _ _ _ _ _ us hl=>match us,hl with | [_],_=>rfl)
 have D_due_at:=dmk X G a12 l12 g12 k12 ["dues"] ((jax l12 g12 k12).binds fun _ _ _ _ _ _ us hl=>match us,hl with | [_],_=>rfl)
 have D_dues_stand:=dmk X G a13 l13 g13 k13 ["web","thing"] ((jax l13 g13 k13).binds fun _ _ _ _ _ _ us hl=>match us,hl with | [_,_],_=>rfl)
 have D_cost_in_halves:=dmk X G a14 l14 g14 k14 ["web","halves"] ((jax l14 g14 k14).binds fun _ _ _ _ _ _ us hl=>match us,hl with | [_,_],_=>rfl)
 have D_paper_stands:=dmk X G a15 l15 g15 k15 ["web","thing"] ((jax l15 g15 k15).binds fun _ _ _ _ _ _ us hl=>match us,hl with | [_,_],_=>rfl)
 have D_lets_halves:=dmk X G a16 l16 g16 k16 ["web","thing"] ((jax l16 g16 k16).binds fun _ _ _ _ _ _ us hl=>match us,hl with | [_,_],_=>rfl)
 have D_law_own:=dmk X G a17 l17 g17 k17 ["_law_web"] ((jax l17 g17 k17).binds fun _ _ _ _ _ _ us hl=>match us,hl with | [_],_=>rfl)
 have D_law_begun:=dmk X G a18 l18 g18 k18 ["_law_script","_law_k"] ((jax l18 g18 k18).binds fun _ _ _ _ _ _ us hl=>match us,hl with | [_,_],_=>rfl)
 have D_law_take:=dmk X G a19 l19 g19 k19 ["_law_state","_law_many"] ((jax l19 g19 k19).binds fun _ _ _ _ _ _ us hl=>match us,hl with | [_,_],_=>rfl)
 have D_law_priced:=dmk X G a20 l20 g20 k20 ["_law_state","_law_hs","_law_raw"] ((jax l20 g20 k20).binds fun _ _ _ _ _ _ us hl=>match us,hl with | [_,_,_],_=>rfl)
 have D_law_laid:=dmk X G a21 l21 g21 k21 ["_law_state","_law_most"] ((jax l21 g21 k21).binds fun _ _ _ _ _ _ us hl=>match us,hl with | [_,_],_=>rfl)
 have D_law_whole:=dmk X G a22 l22 g22 k22 ["_law_thing"] ((jax l22 g22 k22).binds fun _ _ _ _ _ _ us hl=>match us,hl with | [_],_=>rfl)
 have D_law_are_halves:=dmk X G a23 l23 g23 k23 ["_law_web","_law_thing"] ((jax l23 g23 k23).binds fun _ _ _ _ _ _ us hl=>match us,hl with | [_,_],_=>rfl)
 have D_law_are_dues:=dmk X G a24 l24 g24 k24 ["_law_web","_law_thing"] ((jax l24 g24 k24).binds fun _ _ _ _ _ _ us hl=>match us,hl with | [_,_],_=>rfl)
 have D_law_lets:=dmk X G a25 l25 g25 k25 ["_law_web","_law_thing"] ((jax l25 g25 k25).binds fun _ _ _ _ _ _ us hl=>match us,hl with | [_,_],_=>rfl)
 have D_law_shifted:=dmk X G a26 l26 g26 k26 ["_law_state","_law_some"] ((jax l26 g26 k26).binds fun _ _ _ _ _ _ us hl=>match us,hl with | [_,_],_=>rfl)
 have D_law_parted:=dmk X G a27 l27 g27 k27 ["_law_state","_law_some"] ((jax l27 g27 k27).binds fun _ _ _ _ _ _ us hl=>match us,hl with | [_,_],_=>rfl)
 have D_law_bent:=dmk X G a28 l28 g28 k28 ["_law_state","_law_told"] ((jax l28 g28 k28).binds fun _ _ _ _ _ _ us hl=>match us,hl with | [_,_],_=>rfl)
 have D_law:=dmk X G a29 l29 g29 k29 ["_law_script"] ((jax l29 g29 k29).binds fun _ _ _ _ _ _ us hl=>match us,hl with | [_],_=>rfl)
 refine ⟨PySem.W.fnOf "law" "law" (jdd (top 40)) (jd4 (top 40)) (jac (top 40)) .none kV29 dc29 pm29 an29 cd29 ct29,fun s v=>.of_eq rfl,fun base _ _=>?_⟩
 have G_is_whole:=jjp (P:=l.prog) (w:=w) (base:=base) B D_is_whole
 have G_is_tuple_of:=jga (P:=l.prog) (w:=w) (base:=base) B D_is_tuple_of
 have G_is_pair_of_wholes:=jdl (P:=l.prog) (w:=w) (base:=base) B D_is_pair_of_wholes D_is_tuple_of G_is_tuple_of D_is_whole G_is_whole
 have GD_is_tuple_of:=jfu (P:=l.prog) (w:=w) (base:=base) B D_is_tuple_of
 have GD_is_pair_of_wholes:=jd9 (P:=l.prog) (w:=w) (base:=base) B D_is_pair_of_wholes D_is_tuple_of GD_is_tuple_of D_is_whole G_is_whole
 have G_is_list_up_to:=jex (P:=l.prog) (w:=w) (base:=base) B D_is_list_up_to
 have G_marked:=jmz (P:=l.prog) (w:=w) (base:=base) B D_marked
 have G_place_stands:=jfp (P:=l.prog) (w:=w) (base:=base) B C D_place_stands D_is_pair_of_wholes G_is_pair_of_wholes
 have G_tie_stands:=jhc (P:=l.prog) (w:=w) (base:=base) B D_tie_stands D_is_pair_of_wholes G_is_pair_of_wholes
 have G_look_at_places:=jej (P:=l.prog) (w:=w) (base:=base) B C D_look_at_places D_is_list_up_to G_is_list_up_to D_place_stands G_place_stands
 have G_look_at_ties:=jfr (P:=l.prog) (w:=w) (base:=base) B C D_look_at_ties D_is_list_up_to G_is_list_up_to D_tie_stands G_tie_stands
 have G_look_at_web:=jg7 (P:=l.prog) (w:=w) (base:=base) B D_look_at_web D_is_tuple_of G_is_tuple_of D_look_at_places G_look_at_places D_look_at_ties G_look_at_ties
 have G_halves_stand:=jft (P:=l.prog) (w:=w) (base:=base) B D_halves_stand D_is_pair_of_wholes GD_is_pair_of_wholes
 have G_is_due:=jn0 (P:=l.prog) (w:=w) (base:=base) B D_is_due D_is_tuple_of GD_is_tuple_of D_is_whole G_is_whole
 have G_due_at:=jn1 (P:=l.prog) (w:=w) (base:=base) B D_due_at
 have G_dues_stand:=jhf (P:=l.prog) (w:=w) (base:=base) B D_dues_stand D_is_due G_is_due D_marked G_marked D_due_at G_due_at
 have G_cost_in_halves:=jel (P:=l.prog) (w:=w) (base:=base) B D_cost_in_halves
 have G_paper_stands:=jfq (P:=l.prog) (w:=w) (base:=base) B D_paper_stands D_is_tuple_of GD_is_tuple_of D_halves_stand G_halves_stand D_dues_stand G_dues_stand D_cost_in_halves G_cost_in_halves
 have G_lets_halves:=jg8 (P:=l.prog) (w:=w) (base:=base) B D_lets_halves D_look_at_web G_look_at_web D_paper_stands G_paper_stands
 have G_law_own:=jlh (P:=l.prog) (w:=w) (base:=base) B D_law_own
 have G_law_begun:=jin (P:=l.prog) (w:=w) (base:=base) B D_law_begun
 have G_law_take:=jjl (P:=l.prog) (w:=w) (base:=base) B D_law_take
 have G_law_priced:=jhd (P:=l.prog) (w:=w) (base:=base) B D_law_priced D_law_take G_law_take
 have G_law_laid:=jjn (P:=l.prog) (w:=w) (base:=base) B D_law_laid D_law_take G_law_take D_law_priced G_law_priced
 have G_law_whole:=jim (P:=l.prog) (w:=w) (base:=base) B D_law_whole
 have G_law_are_halves:=jek (P:=l.prog) (w:=w) (base:=base) B D_law_are_halves D_law_whole G_law_whole
 have G_law_are_dues:=jfs (P:=l.prog) (w:=w) (base:=base) B D_law_are_dues D_law_whole G_law_whole
 have G_law_lets:=jjm (P:=l.prog) (w:=w) (base:=base) B D_law_lets D_law_are_halves G_law_are_halves D_law_are_dues G_law_are_dues
 have G_law_shifted:=jg9 (P:=l.prog) (w:=w) (base:=base) B D_law_shifted D_law_take G_law_take
 have G_law_parted:=jhe (P:=l.prog) (w:=w) (base:=base) B D_law_parted D_law_take G_law_take
 have G_law_bent:=jjo (P:=l.prog) (w:=w) (base:=base) B D_law_bent D_law_take G_law_take
 exact ok_law B D_law D_law_begun G_law_begun D_law_laid G_law_laid D_lets_halves G_lets_halves D_law_own G_law_own D_law_bent G_law_bent D_law_shifted G_law_shifted D_law_parted G_law_parted D_law_lets G_law_lets (PySem.W.mg_none_of X G z_repr)
theorem walk {l:PySem.W.OpenLaw} {q:Program} {loose:List Str} {XP:(Str→Option Value)→Heap→Prop} {YP:World→Heap→Prop} {d:DefRec} {K:Params→PySem.W.Frag} (hn:l.most = some 63) (hdf:d.params.defaults = [])
  (hY:∀ (w:World) (h:Heap),YP w h→(K w.params).In h)
  (F:∀ (w:World) (mg:Str→Option Value) (fa:Addr) (h:Heap),(K w.params).In h→h.Ns mainGlobals mg→mg d.name = some (.ref fa) →
   ∃ fd:FuncData,(∀ (s:Shared) (u:Value),BindsTo s fd ⟨[u],[]⟩ [("_law_script",u)])∧∀ base:Heap,(K w.params).In base→base.Ns mainGlobals mg→FnOk l.prog w (K w.params) mg base CX0 9 fa fd ["_law_script"] (joq (K w.params))) :
  PySem.W.WalkO q loose XP YP l.row.toRowW d [] (fun f vs=>PySem.call f vs) :=
 L2.jlv (n:=63) (k:=9) (x:="_law_script") (CX:=fun _=>CX0) (sp:=fun w=>joq (K w.params)) hn (by decide) hdf ⟨rfl,by decide,by decide,rfl⟩ hY F (fun _ _ a ns hl hO hS=>⟨a,ns,rfl,Scr.of hS hO,fun _=>rfl⟩) fun _ _ _ _ _ z=>z
end My
open PySem PySem.W PyProof.Rows
set_option maxRecDepth 100000 in
set_option maxHeartbeats 0 in
theorem PySem.Challenge.cw_touchall_k21_papers_of_halves_holds : PySem.Challenge.rw_touchall_k21_papers_of_halves.Holds := by
 refine MyHead ?_
 k_fill
 refine My.walk (l:=PySem.Challenge.rw_touchall_k21_papers_of_halves) rfl rfl (fun w h Y=>PySem.W.kIn_of Y) ?F
 case F =>
  intro w mg fa h KX G hmg
  refine' My.all_mk KX G hmg ?_ ?_ ?_ ?_ ?_ ?_ ?_ ?_ ?_ ?_ ?_ ?_ ?_ ?_ ?_ ?_ ?_ ?_ ?_ ?_ ?_ ?_ ?_ ?_ ?_ ?_ ?_ ?_ ?_ ?_ ?_ ?_ ?_ ?_ ?_ ?_ ?_ ?_ ?_ ?_ ?_ ?_ ?_ ?_ ?_ ?_ ?_ ?_ ?_ ?_ ?_ ?_ ?_ ?_ ?_ ?_ ?_ ?_ ?_ ?_ ?_ ?_ ?_ ?_ ?_ ?_ ?_ ?_ ?_ ?_ ?_ ?_ ?_ ?_ ?_ ?_ ?_ ?_ ?_ ?_ ?_ ?_ ?_ ?_ ?_ ?_ ?_ ?_ ?_ ?_ ?_ ?_ ?_ ?_ ?_ ?_ ?_ ?_ ?_ ?_ ?_ ?_ ?_ ?_ ?_ ?_ ?_ ?_ ?_ ?_ ?_ ?_ ?_ ?_ ?_ ?_ ?_ ?_ ?_ ?_ ?_ ?_ ?_ ?_ ?_ ?_ ?_ ?_ ?_ ?_ ?_ ?_ ?_ ?_ ?_ ?_ ?_ ?_ ?_ ?_ ?_ ?_ ?_
  any_goals first | k_is | (delta My.aT; k_is) | (delta My.lT; k_is) | (delta My.cT; k_is) | (delta My.kT; k_is) | (delta My.zT; k_is) | kernel_rfl | rfl
#print axioms PySem.Challenge.cw_touchall_k21_papers_of_halves_holds
