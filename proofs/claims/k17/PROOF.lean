import PyProof.Rows.All
import Wide.All
import OpenK.AllK
import Wide.FinOn
import Lean
import PyProof.EqAt
import PyProof.EqKinds
import PyProof.TupleCall
import PyProof.NeKinds
import PyProof.NeData
import PySem.Challenge.RW_touchall_k17_worths_and_bounds
import PyProof.Rows.SortRuns
import PyProof.Rows.SortShell
import KE.KSortTup
import PyProof.Rows.SumAny
import PyProof.DictWalks
import PyProof.DictUpdate
import KE.KDictList
import PyProof.AutoSeq1
import KE.KSortKey
import KE.KLam
import KE.KNestM
import PyProof.StationsW
import PyProof.ExcInit
import PyProof.InstStoreFacts
import PyProof.NsDelKeeps
import PyProof.RulesAs
import PyProof.ExcAttrAll.ValueError
import KE.KIsAll
import PyProof.Rows.SetFrom
import PyProof.SetRoads
import PyProof.ReprRoads
import PyProof.FitsInt
section
open PySem PySem.W PyProof.Rows
set_option Elab.async false
set_option maxRecDepth 100000
set_option maxHeartbeats 0
namespace PySem.W.Fast
def tw3869031063745665383:=0
def tw1842545590595054091:=0
def tw14781562103584300300:=0
def tw9460297890377761805:=0
def tw16599119404929089777:=0
def tw10277216313517438195:=0
def tw280475905095942100:=0
def tw10686920459682923061:=0
def tw17883986908372840214:=0
def tw14444337273729473304:=0
def tw6994370065156668122:=0
def tw9360177084784102716:=0
def tw3965219263190713629:=0
def tw10069604860483706445:=0
def tw3426724899693372452:=0
def tw5069089125698054894:=0
def tw5202776660221476824:=0
def tw14640572693217546273:=0
def tw13557064101490781197:=0
def tw6513457511325554244:=0
def tw7264120421309663093:=0
def tw4475783039337762679:=0
def tw14508702681240927338:=0
def tw11845121057717500690:=0
def tw2305170695127674745:=0
def tw5140643216894729713:=0
def tw14248016213943530440:=0
def tw4943674162513202160:=0
def tw14982153563136074336:=0
def tw12021910400016799448:=0
def tw7182748549700119884:=0
def tw760989484626043395:=0
def tw6733287294774218101:=0
def tw8297966634746096414:=0
def tw2932883342372343814:=0
def tw13058793742947418118:=0
def tw11647574858823915943:=0
def tw17225890555602619104:=0
def tw16409236330492884371:=0
def tw17784476363750532300:=0
def tw1204304298147611602:=0
def tw15514634696500728796:=0
def tw6080368645660506305:=0
def tw1726813977947389158:=0
def tw9857830821546525648:=0
def tw14826031857019004941:=0
def tw4279476487421269338:=0
def tw17670709185726934248:=0
def tw6542929942557814982:=0
def tw6512370430324665260:=0
def tw7232841066116858783:=0
def tw885371844316833120:=0
def tw13990930123094078712:=0
def tw2363903611795592705:=0
def tw14172657290863477674:=0
def tw9580164878673987830:=0
def tw15240104693518809320:=0
def tw9360046480592557864:=0
def tw8556881319794653275:=0
def tw6099802976542961457:=0
def tw1946033789281374818:=0
def tw5310659528658988666:=0
def tw17948796234568494333:=0
def tw6145129637773361727:=0
def tw9769863511298422818:=0
def tw18368650237389215793:=0
def tw12485154272163604117:=0
def tw1292984125890801270:=0
def tw6238900285969046887:=0
def tw12549199338888590937:=0
def tw16238301872741956780:=0
def tw13651674943635200488:=0
def tw4421343633076843811:=0
def tw13166968430877283740:=0
def tw9762787882097571856:=0
def tw6584695149455985699:=0
def tw429126050991680652:=0
def tw1891330909600037723:=0
def tw5755817227132875237:=0
def tw7698447048043514017:=0
def tw14114753284023174821:=0
def tw14566061343962206368:=0
def tw2377688178443341648:=0
def tw15335128613735910151:=0
def tw17953295521274581375:=0
def tw7494416671395988296:=0
def tw12010976375034376571:=0
def tw7202037326456345769:=0
def tw9506547847472607489:=0
def tw15583159890976612112:=0
def tw4862741975000952055:=0
def tw9622471659420483719:=0
def tw5291671171568664792:=0
def tw15693294657385995021:=0
def tw17790621613727568432:=0
def tw1495474450647618605:=0
def tw18198432349956210722:=0
def tw11247763399507659385:=0
def tw5860442181038395455:=0
def tw4014273260406839204:=0
def tw18051402899012708777:=0
def tw10581164851701950017:=0
def tw1446046372975601066:=0
def tw8802154206927592950:=0
def tw162473700425539603:=0
def tw360715681367275602:=0
def tw6654934050380821986:=0
def tw648145590827737737:=0
def tw15266433513615489537:=0
def tw6245827768647603512:=0
def tw17457086080872000736:=0
def tw9562907100761335393:=0
def tw14973742723826984120:=0
def tw17341298701788093120:=0
def tw17426358754788277328:=0
def tw9482120283554068594:=0
def tw7492884703717757881:=0
def tw11906391868283360964:=0
def tw6743641750472775847:=0
def tw16042470173560958907:=0
def tw850951039455432525:=0
def tw5103485604028916769:=0
def tw10485983645851997345:=0
def tw741491041883484307:=0
def tw10073281139201949855:=0
def tw15118457964073289629:=0
def tw7007092725283629287:=0
def tw5047764800839148311:=0
def tw1718328181716237790:=0
def tw13626826527460705081:=0
def tw18053077524576164845:=0
def tw3251091792226649815:=0
def tw12832714438019067581:=0
end PySem.W.Fast
open_top MyHead for PySem.Challenge.rw_touchall_k17_worths_and_bounds
end
-- CHANGE: your row's module here, as the last of these rows
set_option Elab.async false
set_option linter.all false
set_option maxRecDepth 100000
namespace L2
open PySem PySem.Spec PyProof.Rows
noncomputable abbrev Key:=Sum Int Str
noncomputable def jmw : Key→Value→Bool
 | .inl k,v=>Value.isInt k v
 | .inr x,v=>Value.isStrOf x v
noncomputable def keyH (w : World) : Key→Int
 | .inl k=>hashInt k
 | .inr x=>hashStr w x
theorem jb6 : ∀ {k : Key} {v : Value},jmw k v = true→(∃ i t,k = Sum.inl i∧v = Value.int i t) ∨ (∃ x t,k = Sum.inr x∧v = Value.str x t)
 | .inl i,v,h=>by
  obtain ⟨t,e⟩:=Value.isInt_shape (k:=i) (v:=v) h
  exact .inl ⟨i,t,rfl,e⟩
 | .inr x,v,h=>by
  obtain ⟨t,e⟩:=Value.isStrOf_shape (x:=x) (v:=v) h
  exact .inr ⟨x,t,rfl,e⟩
theorem jon (i : Int) (t : Tok) : jmw (.inl i) (.int i t) = true:=by simp [jmw,Value.isInt]
theorem jom (x : Str) (t : Tok) : jmw (.inr x) (.str x t) = true:=by simp [jmw,Value.isStrOf]
theorem key_ll (a b : Int) : decide ((Sum.inl a : Key) = Sum.inl b) = (a == b):=by
 by_cases e : a = b
 ·subst e; simp
 ·have h : ¬ (Sum.inl a : Key) = Sum.inl b:=fun q=>e (Sum.inl.inj q)
  rw [decide_eq_false h]
  exact (beq_eq_false_iff_ne.mpr e).symm
theorem key_rr (a b : Str) : decide ((Sum.inr a : Key) = Sum.inr b) = decide (a = b):=by
 by_cases e : a = b
 ·subst e; simp
 ·have h : ¬ (Sum.inr a : Key) = Sum.inr b:=fun q=>e (Sum.inr.inj q)
  rw [decide_eq_false h,decide_eq_false e]
theorem key_lr (a : Int) (b : Str) : decide ((Sum.inl a : Key) = Sum.inr b) = false:=decide_eq_false (fun q=>nomatch q)
theorem key_rl (a : Str) (b : Int) : decide ((Sum.inr a : Key) = Sum.inl b) = false:=decide_eq_false (fun q=>nomatch q)
noncomputable def jbd (prog : Program) (w : World) : PySem.KeyKind prog w Key where
 is:=jmw
 hash:=keyH w
 inj:=fun v a b ha hb=>by
  rcases jb6 ha with ⟨i,t,rfl,rfl⟩ | ⟨x,t,rfl,rfl⟩
  ·rcases jb6 hb with ⟨j,u,rfl,e⟩ | ⟨y,u,rfl,e⟩
   ·injection e with e1 _; rw [e1]
   ·exact nomatch e
  ·rcases jb6 hb with ⟨j,u,rfl,e⟩ | ⟨y,u,rfl,e⟩
   ·exact nomatch e
   ·injection e with e1 _; rw [e1]
 byValue:=fun k v h=>by
  rcases jb6 h with ⟨i,t,rfl,rfl⟩ | ⟨x,t,rfl,rfl⟩ <;> rfl
 pyHash:=fun hv h=>by
  rcases jb6 hv with ⟨i,t,rfl,rfl⟩ | ⟨x,t,rfl,rfl⟩
  ·exact wpAny_pyHash_int h
  ·exact wpAny_pyHash_str h
 eqBool:=fun hu hv h=>by
  rcases jb6 hu with ⟨i,t,rfl,rfl⟩ | ⟨x,t,rfl,rfl⟩
  ·rcases jb6 hv with ⟨j,u,rfl,rfl⟩ | ⟨y,u,rfl,rfl⟩
   ·rw [key_ll] at h; exact wpAny_eqBool_int h
   ·rw [key_lr] at h; exact SeqAt.EqAt.int_str i t y u _ _ _ _ h
  ·rcases jb6 hv with ⟨j,u,rfl,rfl⟩ | ⟨y,u,rfl,rfl⟩
   ·rw [key_rl] at h; exact SeqAt.EqAt.str_int x t j u _ _ _ _ h
   ·rw [key_rr] at h; exact wpAny_eqBool_str h
 «strs»:=fun k x t v h=>by
  rcases jb6 h with ⟨i,u,rfl,e⟩ | ⟨y,u,rfl,e⟩
  ·exact nomatch e
  ·injection e with e1 _
   subst e1
   cases v <;> rfl
theorem jl1 (prog : Program) (w : World) (i : Int) (t : Tok) : (jbd prog w).is (.inl i) (.int i t) = true:=jon i t
theorem jl0 (prog : Program) (w : World) (x : Str) (t : Tok) : (jbd prog w).is (.inr x) (.str x t) = true:=jom x t
end L2
namespace L2
open PySem PySem.Spec PyProof.Rows
inductive V where
 | non | bl (b : Bool) | int (i : Int) | str (x : Str) | byt (b : Array UInt8) | flt (b : UInt64) | ref (a : Addr) | ty (n : String)
 deriving DecidableEq
noncomputable def RelV : V→Value→Prop
 | .non,u=>u = Value.none
 | .bl b,u=>u = Value.bool b
 | .int i,u=>∃ t,u = Value.int i t
 | .str x,u=>∃ t,u = Value.str x t
 | .byt b,u=>∃ t,u = Value.bytes b t
 | .flt b,u=>∃ t,u = Value.float b t
 | .ref a,u=>u = Value.ref a
 | .ty n,u=>u = Value.type n
noncomputable abbrev Vals : List V→List Value→Prop:=Paired RelV
theorem Vals.length {xs : List V} {us : List Value} (r : Vals xs us) : xs.length = us.length:=Paired.length r
theorem Vals.get : ∀ {xs : List V} {us : List Value} {i : Nat} {x : V},Vals xs us→xs[i]? = some x→∃ u,us[i]? = some u∧RelV x u
 | _,_,_,_,.nil,e=>by simp at e
 | _,_,0,_,.cons r _,e=>by simp at e; subst e; exact ⟨_,rfl,r⟩
 | _,_,i + 1,x,.cons _ t,e=>by
  obtain ⟨u,h1,h2⟩:=Vals.get (i:=i) (x:=x) t (by simpa using e)
  exact ⟨u,by simpa using h1,h2⟩
theorem Vals.set {x : V} {u : Value} (r : RelV x u) : ∀ {xs : List V} {us : List Value} (i : Nat),Vals xs us→Vals (xs.set i x) (us.set i u)
 | _,_,_,.nil=>.nil
 | _,_,0,.cons _ t=>.cons r t
 | _,_,i + 1,.cons q t=>.cons q (Vals.set r i t)
theorem Vals.append : ∀ {xs ys : List V} {us ws : List Value},Vals xs us→Vals ys ws→Vals (xs ++ ys) (us ++ ws)
 | _,_,_,_,.nil,s=>s
 | _,_,_,_,.cons r t,s=>.cons r (Vals.append t s)
theorem Vals.take : ∀ {xs : List V} {us : List Value} (n : Nat),Vals xs us→Vals (xs.take n) (us.take n)
 | _,_,0,_=>.nil
 | _,_,_ + 1,.nil=>.nil
 | _,_,n + 1,.cons r t=>.cons r (Vals.take n t)
theorem Vals.drop : ∀ {xs : List V} {us : List Value} (n : Nat),Vals xs us→Vals (xs.drop n) (us.drop n)
 | _,_,0,r=>r
 | _,_,_ + 1,.nil=>.nil
 | _,_,n + 1,.cons _ t=>Vals.drop n t
noncomputable def RelO : Option V→Option Value→Prop
 | some v,some u=>RelV v u
 | none,none=>True
 | _,_=>False
noncomputable def KV {κ : Type} : List (κ × V)→List (κ × Value)→Prop:=Paired fun (p : κ × V) (q : κ × Value)=>p.1 = q.1∧RelV p.2 q.2
noncomputable def kV : Key→V
 | .inl i=>.int i
 | .inr x=>.str x
inductive HO where
 | lst (xs : List V)
 | tup (xs : List V)
 | dK (kvs : List (Key × V)) | dT (kvs : List (List Key × V))
 | set (S : Int→Bool) (n : Nat)
 | ins (C dx : Addr) (fs : List (Str × V))
 | own (x : Addr)
 | xd (fs : List (Str × V))
 | met (f x : Addr)
 | rng (lo hi : Int)
 | frz (o : Obj) (u : HO)
 | tbl (ps : Array Value)
 | ext (φ : Heap→Prop)
noncomputable abbrev Hp:=Addr→Option HO
noncomputable def upd (H : Hp) (a : Addr) (o : HO) : Hp:=fun b=>if b = a then some o else H b
theorem ja1 {H : Hp} {a : Addr} {o : HO} : upd H a o a = some o:=by unfold upd; rw [if_pos rfl]
theorem ja8 {H : Hp} {a b : Addr} {o : HO} (h : b ≠ a) : upd H a o b = H b:=by unfold upd; rw [if_neg h]
theorem jhx {H : Hp} {a : Addr} {o u : HO} : upd (upd H a o) a u = upd H a u:=by
 funext b; unfold upd; split <;> rfl
theorem ne_of {H : Hp} {a b : Addr} {o u : HO} (h : H a = some o) (h' : H b = some u) (d : o ≠ u) : a ≠ b:=by
 intro e; subst e; rw [h] at h'; exact d (Option.some.inj h')
theorem ja6 {H : Hp} {a b : Addr} {o : HO} (h : H a = some o) (h' : H b = none) : a ≠ b:=by
 intro e; subst e; rw [h] at h'; cases h'
section
variable (P : Program) (w : World)
noncomputable def jb2 (H : Hp) (h : Heap) (a : Addr) : HO→Prop
 | .lst xs=>xs.length ≤ sizeLine∧∃ (its : List Value) (n : Nat),Vals xs its∧h.get? a = some { cls:=.type "list",data:=.seq its.toArray n }
 | .tup xs=>xs.length ≤ sizeLine∧∃ its : List Value,Vals xs its∧IsTup h a its.toArray
 | .dK kvs=>kvs.length ≤ sizeLine∧(a == sysModules) = false∧∃ vs,KV kvs vs∧h.DictOf (jbd P w) a vs
 | .dT kvs=>kvs.length ≤ sizeLine∧(a == sysModules) = false∧∃ xs : List (List Key × Addr × Value),
   Paired (fun (p : List Key × V) (q : List Key × Addr × Value)=>p.1 = q.1∧H q.2.1 = some (.tup (p.1.map kV))∧RelV p.2 q.2.2) kvs xs ∧
   ∃ o es ep,h.get? a = some o∧o.ExactDict∧o.data = .dict es ep∧es.toList = xs.map (entryOfKey (tupleKind (jbd P w)))∧(xs.map (·.1)).Nodup
 | .set S n=>h.SetOf (intKind P w) a S n
 | .ins C dx fs=>H dx = some (.own a)∧fs.length ≤ 1000∧dx ≠ a∧h.get? a = some (PySem.W.instObj C dx) ∧
   ∃ mA,h.Ns1 dx mA∧(∀ f,RelO (fs.lookup f) (mA f))∧PySem.Within mA (fs.map (·.1))
 | .own _=>∃ o,h.get? a = some o
 | .xd fs=>∃ mA,h.Ns1 a mA∧∀ f,RelO (fs.lookup f) (mA f)
 | .rng lo hi=>∃ t u v,h.get? a = some { cls:=.type "range",data:=.fields #[.int lo t,.int hi u,.int 1 v] }
 | .frz o u=>h.get? a = some o∧jb2 H h a u
 | .tbl ps=>h.get? a = some { cls:=.none,data:=.fields ps }
 | .met f x=>h.get? a = some (PySem.W.methodObj (.ref f) (.ref x))
 | .ext φ=>φ h∧(∃ o,h.get? a = some o)∧∀ h1 h2 : Heap,φ h1→(∀ o,h1.get? a = some o→h2.get? a = some o)→φ h2
noncomputable def HOk (H : Hp) (h : Heap) : Prop:=∀ a o,H a = some o→jb2 P w H h a o
end
section
variable {P : Program} {w : World} {H H' : Hp} {h h' : Heap} {a : Addr} {o : HO}
theorem jb2.lt (x : jb2 P w H h a o) : a < h.objs.size:=by
 cases o with
 | lst xs=>obtain ⟨_,_,_,_,e⟩:=x; exact Heap.lt_size e
 | tup xs=>obtain ⟨_,_,_,p⟩:=x; exact p.lt
 | dK kvs=>obtain ⟨_,_,_,_,o,_,_,e,_⟩:=x; exact Heap.lt_size e
 | dT kvs=>obtain ⟨_,_,_,_,o,_,_,e,_⟩:=x; exact Heap.lt_size e
 | set S n=>obtain ⟨o,_,_,_,e,_⟩:=x; exact Heap.lt_size e
 | ins C dx fs=>obtain ⟨_,_,_,e,_⟩:=x; exact Heap.lt_size e
 | own y=>obtain ⟨_,e⟩:=x; exact Heap.lt_size e
 | xd fs=>obtain ⟨_,⟨_,_,_,e,_⟩,_⟩:=x; exact Heap.lt_size e
 | rng lo hi=>obtain ⟨_,_,_,e⟩:=x; exact Heap.lt_size e
 | frz ob u=>obtain ⟨e,_⟩:=x; exact Heap.lt_size e
 | tbl ps=>exact Heap.lt_size (show h.get? a = some _ from x)
 | met f y=>exact Heap.lt_size (show h.get? a = some _ from x)
 | ext φ=>obtain ⟨_,⟨_,e⟩,_⟩:=x; exact Heap.lt_size e
theorem Paired.mapP {α β : Type} {F G : α→β→Prop} : ∀ {l₁ : List α} {l₂ : List β},Paired F l₁ l₂→(∀ a b,F a b→G a b)→Paired G l₁ l₂
 | _,_,.nil,_=>.nil
 | _,_,.cons r t,f=>.cons (f _ _ r) (Paired.mapP t f)
theorem jb2.stay (x : jb2 P w H h a o) (k : ∀ b u,(b = a ∨ H b = some (.own a))→h.get? b = some u→h'.get? b = some u)
  (ho : ∀ b,H b = some (.own a)→H' b = some (.own a)) (ht : ∀ b xs,H b = some (.tup xs)→H' b = some (.tup xs)) : jb2 P w H' h' a o:=by
 induction o with
 | lst xs=>obtain ⟨z,its,n,r,e⟩:=x; exact ⟨z,its,n,r,k _ _ (.inl rfl) e⟩
 | tup xs=>obtain ⟨z,its,r,ob,e,c⟩:=x; exact ⟨z,its,r,ob,k _ _ (.inl rfl) e,c⟩
 | dK kvs=>obtain ⟨z,y,vs,r,ob,es,ep,e,c⟩:=x; exact ⟨z,y,vs,r,ob,es,ep,k _ _ (.inl rfl) e,c⟩
 | dT kvs =>
  obtain ⟨z,y,xs,r,ob,es,ep,e,c⟩:=x
  exact ⟨z,y,xs,Paired.mapP r fun p q z=>⟨z.1,ht _ _ z.2.1,z.2.2⟩,ob,es,ep,k _ _ (.inl rfl) e,c⟩
 | set S n=>obtain ⟨ob,es,ep,t,e,c⟩:=x; exact ⟨ob,es,ep,t,k _ _ (.inl rfl) e,c⟩
 | ins C dx fs =>
  obtain ⟨d,z,ne,e,mA,⟨od,es,ep,e2,c⟩,r⟩:=x
  exact ⟨ho _ d,z,ne,k _ _ (.inl rfl) e,mA,⟨od,es,ep,k _ _ (.inr d) e2,c⟩,r⟩
 | own y=>obtain ⟨ob,e⟩:=x; exact ⟨ob,k _ _ (.inl rfl) e⟩
 | xd fs=>obtain ⟨mA,⟨od,es,ep,e,c⟩,r⟩:=x; exact ⟨mA,⟨od,es,ep,k _ _ (.inl rfl) e,c⟩,r⟩
 | rng lo hi=>obtain ⟨t,u,v,e⟩:=x; exact ⟨t,u,v,k _ _ (.inl rfl) e⟩
 | frz ob u ih=>obtain ⟨e,q⟩:=x; exact ⟨k _ _ (.inl rfl) e,ih q⟩
 | tbl ps =>
  have e : h.get? a = some { cls:=.none,data:=.fields ps }:=x
  show h'.get? a = some { cls:=.none,data:=.fields ps }
  exact k a _ (.inl rfl) e
 | met f y =>
  have e : h.get? a = some (PySem.W.methodObj (.ref f) (.ref y)):=x
  show h'.get? a = some (PySem.W.methodObj (.ref f) (.ref y))
  exact k a _ (.inl rfl) e
 | ext φ=>obtain ⟨p,⟨o,e⟩,st⟩:=x; exact ⟨st _ _ p fun o q=>k _ _ (.inl rfl) q,⟨o,k _ _ (.inl rfl) e⟩,st⟩
theorem HOk.lt (x : HOk P w H h) (e : H a = some o) : a < h.objs.size:=(x a o e).lt
theorem HOk.fresh (x : HOk P w H h) (e : h.objs.size ≤ a) : H a = none:=by
 cases q : H a with
 | none=>rfl
 | some u=>exact absurd (Nat.lt_of_lt_of_le (x.lt q) e) (Nat.lt_irrefl _)
theorem HOk.kept (x : HOk P w H h) (k : ∀ b u,h.get? b = some u→h'.get? b = some u) : HOk P w H h':=fun a o e =>
 (x a o e).stay (fun b u _ q=>k b u q) (fun _ q=>q) fun _ _ q=>q
theorem HOk.laid (x : HOk P w H h) (k : ∀ b u,h.get? b = some u→h'.get? b = some u) (hp : h.objs.size ≤ a) (new : jb2 P w (upd H a o) h' a o) : HOk P w (upd H a o) h':=fun b u e=>by
 have hn:=x.fresh hp
 by_cases hb : b = a
 ·subst hb; rw [ja1] at e; cases e; exact new
 ·rw [ja8 hb] at e
  exact (x b u e).stay (fun c v _ q=>k c v q) (fun c q=>by rw [ja8 (ja6 q hn)]; exact q) fun c xs q=>by rw [ja8 (ja6 q hn)]; exact q
end
noncomputable def Rd (H : Hp) (a : Addr) (u : HO) : Prop:=H a = some u ∨ ∃ o,H a = some (.frz o u)
theorem Rd.of {H : Hp} {a : Addr} {u : HO} (h : H a = some u) : Rd H a u:=.inl h
theorem Rd.ok {P : Program} {w : World} {H : Hp} {h : Heap} {a : Addr} {u : HO} (r : Rd H a u) (x : HOk P w H h) : jb2 P w H h a u:=by
 rcases r with r | ⟨o,r⟩
 ·exact x a u r
 ·obtain ⟨_,q⟩:=x a _ r
  exact q
noncomputable def Mut : Option HO→Prop
 | some (.lst _)=>True
 | some (.dK _)=>True
 | some (.dT _)=>True
 | some (.set _ _)=>True
 | some (.ins _ _ _)=>True
 | some (.ext _)=>True
 | _=>False
section
variable {P : Program} {w : World} {H : Hp} {h h' : Heap} {x e : Addr} {o' : HO}
theorem HOk.write (ok : HOk P w H h) (mu : Mut (H x)) (he : e = x ∨ H e = some (.own x)) (k : ∀ b u,b ≠ e→h.get? b = some u→h'.get? b = some u) (heo : ∃ u,h'.get? e = some u)
  (new : jb2 P w (upd H x o') h' x o') : HOk P w (upd H x o') h':=fun b u q=>by
 have nown : ∀ c y,H c = some (.own y)→c ≠ x:=fun c y r z=>by subst z; rw [r] at mu; exact mu
 have ntup : ∀ c xs,H c = some (.tup xs)→c ≠ x:=fun c xs r z=>by subst z; rw [r] at mu; exact mu
 by_cases hb : b = x
 ·subst hb; rw [ja1] at q; cases q; exact new
 ·rw [ja8 hb] at q
  by_cases hbe : b = e
  ·have q' : H b = some (.own x):=by
    rcases he with z | z
    ·exact absurd (hbe.trans z) hb
    ·rw [hbe]; exact z
   rw [q] at q'; cases q'
   obtain ⟨v,hv⟩:=heo
   exact ⟨v,by rw [hbe]; exact hv⟩
  ·refine (ok b u q).stay (fun c v hc r=>k c v ?_ r) (fun c r=>by rw [ja8 (nown c b r)]; exact r) fun c xs r=>by rw [ja8 (ntup c xs r)]; exact r
   rcases hc with rfl | hc
   ·exact hbe
   ·rintro rfl
    rcases he with z | z
    ·exact nown c b hc z
    ·rw [hc] at z; cases z; exact hb rfl
end
structure Un (fs ex : List Addr) (H H' : Hp) (h h' : Heap) : Prop where
 keep : ∀ b o,h.get? b = some o→H b = none→b ∉ fs→b ∉ ex→h'.get? b = some o
 slot : ∀ b o,h.get? b = some o→H b = none→b ∈ fs→b ∉ ex→∃ sl,h'.get? b = some { o with slots:=sl }
 free : ∀ b o,h.get? b = some o→H b = none→b ∉ ex→H' b = none
 there : ∀ b o,h.get? b = some o→b ∉ ex→∃ o',h'.get? b = some o'
 tups : ∀ b xs,H b = some (.tup xs)→H' b = some (.tup xs)
 frzs : ∀ b o u,H b = some (.frz o u)→H' b = some (.frz o u)
 tbls : ∀ b ps,H b = some (.tbl ps)→∃ more,H' b = some (.tbl (ps ++ more))
section
variable {fs fs' ex ex' : List Addr} {H H1 H2 : Hp} {h h1 h2 h' : Heap} {a x e : Addr} {o : HO}
theorem Un.any (u : Un fs ex H H1 h h1) {b : Addr} {ob : Obj} (q : h.get? b = some ob) (n : H b = none) (hx : b ∉ ex) : ∃ sl,h1.get? b = some { ob with slots:=sl }:=by
 by_cases hb : b ∈ fs
 ·exact u.slot b ob q n hb hx
 ·exact ⟨ob.slots,u.keep b ob q n hb hx⟩
theorem Un.trans (a : Un fs ex H H1 h h1) (b : Un fs ex H1 H2 h1 h2) : Un fs ex H H2 h h2 where
 keep:=fun c ob q n hc hx=>b.keep c ob (a.keep c ob q n hc hx) (a.free c ob q n hx) hc hx
 slot:=fun c ob q n hc hx=>by
  obtain ⟨sl,e1⟩:=a.slot c ob q n hc hx
  obtain ⟨sl',e2⟩:=b.slot c _ e1 (a.free c ob q n hx) hc hx
  exact ⟨sl',e2⟩
 free:=fun c ob q n hx=>by
  obtain ⟨o',e1⟩:=a.there c ob q hx
  exact b.free c o' e1 (a.free c ob q n hx) hx
 there:=fun c ob q hx=>by
  obtain ⟨o',e1⟩:=a.there c ob q hx
  exact b.there c o' e1 hx
 tups:=fun c xs q=>b.tups c xs (a.tups c xs q)
 frzs:=fun c ob xs q=>b.frzs c ob xs (a.frzs c ob xs q)
 tbls:=fun c ps q=>by
  obtain ⟨m1,e1⟩:=a.tbls c ps q
  obtain ⟨m2,e2⟩:=b.tbls c _ e1
  exact ⟨m1 ++ m2,by rw [e2,Array.append_assoc]⟩
theorem Un.kept (k : ∀ b u,h.get? b = some u→h'.get? b = some u) : Un fs ex H H h h' :=
 ⟨fun b ob q _ _ _=>k b ob q,fun b ob q _ _ _=>⟨ob.slots,k b ob q⟩,fun _ _ _ n _=>n,fun b ob q _=>⟨ob,k b ob q⟩,fun _ _ q=>q,fun _ _ _ q=>q,fun _ ps q=>⟨#[],by rw [q]; simp⟩⟩
theorem Un.refl : Un fs ex H H h h:=Un.kept fun _ _ q=>q
theorem Un.laid (k : ∀ b u,h.get? b = some u→h'.get? b = some u) (hp : h.objs.size ≤ a) (hn : H a = none) : Un fs ex H (upd H a o) h h' where
 keep:=fun b u q _ _ _=>k b u q
 slot:=fun b u q _ _ _=>⟨u.slots,k b u q⟩
 free:=fun b u q n _=>by rw [ja8 (Nat.ne_of_lt (Nat.lt_of_lt_of_le (Heap.lt_size q) hp))]; exact n
 there:=fun b u q _=>⟨u,k b u q⟩
 tups:=fun b xs q=>by rw [ja8 (ja6 q hn)]; exact q
 frzs:=fun b u xs q=>by rw [ja8 (ja6 q hn)]; exact q
 tbls:=fun b ps q=>⟨#[],by rw [ja8 (ja6 q hn),q]; simp⟩
theorem Un.write (mu : Mut (H x)) (he : e = x ∨ H e = some (.own x)) (k : ∀ b u,b ≠ e→h.get? b = some u→h'.get? b = some u) (heo : ∃ u,h'.get? e = some u) : Un fs ex H (upd H x o) h h':=by
 have hx : ∀ b,H b = none→b ≠ x:=fun b n z=>by subst z; rw [n] at mu; exact mu
 have hb : ∀ b,H b = none→b ≠ e:=fun b n z=>by
  subst z
  rcases he with r | r
  ·exact hx b n r
  ·rw [n] at r; cases r
 have hm : ∀ b u,H b = some u→¬ Mut (some u)→b ≠ x:=fun b u q nm z=>by subst z; rw [q] at mu; exact nm mu
 refine ⟨fun b u q n _ _=>k b u (hb b n) q,fun b u q n _ _=>⟨u.slots,k b u (hb b n) q⟩,fun b u q n _=>by rw [ja8 (hx b n)]; exact n,fun b u q _=>?_,
  fun b xs q=>by rw [ja8 (hm b _ q fun z=>z)]; exact q,fun b u xs q=>by rw [ja8 (hm b _ q fun z=>z)]; exact q,fun b ps q=>⟨#[],by rw [ja8 (hm b _ q fun z=>z),q]; simp⟩⟩
 by_cases hbe : b = e
 ·subst hbe; exact heo
 ·exact ⟨u,k b u hbe q⟩
theorem Un.mono (u : Un fs ex H H1 h h1) (hs : ∀ b ∈ fs,b ∈ fs') (hx : ∀ b ∈ ex,b ∈ ex') : Un fs' ex' H H1 h h1 :=
 ⟨fun b ob q n hb he=>u.keep b ob q n (fun z=>hb (hs b z)) fun z=>he (hx b z),fun _ _ q n _ he=>u.any q n fun z=>he (hx _ z),fun b ob q n he=>u.free b ob q n fun z=>he (hx b z),fun b ob q he=>u.there b ob q fun z=>he (hx b z),u.tups,u.frzs,u.tbls⟩
end
noncomputable def trk (h : Heap) (H : Hp) : List Addr:=(List.range h.objs.size).filter fun a=>(H a).isSome
noncomputable def hidT (h : Heap) (H : Hp) : Heap:=PySem.W.hideAll h (trk h H)
theorem jot (h : Heap) (H : Hp) : (hidT h H).objs.size = h.objs.size:=PySem.W.hideAll_size _ _
theorem jq1 {h : Heap} {H : Hp} {b : Addr} {o : Obj} (e : h.get? b = some o) (n : H b = none) : (hidT h H).get? b = some o :=
 PySem.W.hideAll_get _ e fun hm=>by
  have q : (H b).isSome = true:=(List.mem_filter.mp hm).2
  rw [n] at q; simp at q
theorem jrj {h : Heap} {H : Hp} {b : Addr} {o : Obj} (e : (hidT h H).get? b = some o) : h.get? b = some o∧H b = none:=by
 have e' : h.get? b = some o:=PySem.W.of_hideAll (trk h H) e
 refine ⟨e',?_⟩
 cases q : H b with
 | none=>rfl
 | some x =>
  have hm : b ∈ trk h H:=List.mem_filter.mpr ⟨List.mem_range.mpr (Heap.lt_size e'),by simp [q]⟩
  have z : (hidT h H).get? b = none:=PySem.W.hideAll_none (trk h H) hm
  rw [z] at e; cases e
end L2
namespace L2
open PySem PySem.Spec PyProof.Rows
structure Mod (K : PySem.W.Frag) (mg : Str→Option Value) (base : Heap) : Prop where
 kin : K.In base
 glob : base.Ns mainGlobals mg
 blt : ∃ mb,base.Ns builtinsNs mb∧∀ x : Str,x ≠ "__name__"→mb x = bootBuiltins x
 nolimit : base.NoLimit
structure Cx where
 prog : Program
 w : World
 K : PySem.W.Frag
 mg : Str→Option Value
 base : Heap
 A : Around
 N : List Str
 s₀ : Shared
 H₀ : Hp
 env : Env
 outer : List Env
 stack : List Env
 ex : List Addr
 fn : Str→Bool
 calm : Bool
 pn : List (Addr × Obj)
 xe : Value→Shared→Prop
noncomputable def frs (l : List Env) : List Addr:=l.filterMap (·.frame)
noncomputable abbrev Cx.fs (X : Cx) : List Addr:=frs X.outer
noncomputable def Vis (sc : Scope) (x : Str) : Prop:=sc.names.lookup x = some .local ∨ sc.names.lookup x = some .cell ∨ sc.names.lookup x = some .free
noncomputable def Loc (sc : Scope) (x : Str) : Prop:=sc.names.lookup x = some .local ∨ sc.names.lookup x = some .cell
noncomputable def Look (env : Env) (h : Heap) (m : Str→Option Value) (x : Str) (u : Value) : Prop :=
 (env.kindOf x = some .local∧m x = some u) ∨ ((env.kindOf x = some .cell ∨ env.kindOf x = some .free)∧∃ c,env.cells.lookup x = some c∧h.IsCell c (some u))
structure Cx.Ok (X : Cx) : Prop where
 mod : Mod X.K X.mg X.base
 kind : X.env.scope.kind = .function
 glob : X.env.globals = mainGlobals
 blt : X.env.builtins = builtinsNs
 above : X.s₀.heap.objs.size ≤ X.env.locals
 inj : ∀ x y c,X.env.cells.lookup x = some c→X.env.cells.lookup y = some c→x = y
 has : ∀ x,(X.env.kindOf x = some .cell ∨ X.env.kindOf x = some .free)→∃ c,X.env.cells.lookup x = some c
 cab : ∀ x c,X.fn x = true→X.env.cells.lookup x = some c→X.s₀.heap.objs.size ≤ c
 hd : X.calm = true→X.A.handled = none
 frames : X.A.frames = some X.stack
 stk : X.stack = X.outer ∨ (X.stack = X.env :: X.outer∧X.env.frame = some X.env.locals)
 exf : ∀ b ∈ X.ex,b ≠ X.env.locals∧∀ x c,X.env.cells.lookup x = some c→c ≠ b
 bs : ∀ b o,X.base.get? b = some o→X.s₀.heap.get? b = some o∧X.H₀ b = none
 bsz : X.base.objs.size ≤ X.s₀.heap.objs.size
 noex : ∀ b o,X.base.get? b = some o→b ∉ X.ex
 exfs : ∀ b ∈ X.ex,b ∉ X.fs
 funs : X.s₀.heap.FunFrames X.base X.outer
 frf : ∀ b ∈ X.fs,X.H₀ b = none
structure Inv (X : Cx) (pins : List (Addr × Obj)) (σ : List (Option V)) (H : Hp) (s : Shared) : Prop where
 ok : X.Ok
 os : s.os = X.s₀.os
 bare : AllBare s.gens
 base : Un X.fs X.ex X.H₀ H X.s₀.heap s.heap
 loc : ∃ m,s.heap.Ns X.env.locals m∧∀ (i : Nat) (x : Str) (v : V),X.N[i]? = some x→σ[i]? = some (some v)→Vis X.env.scope x→∃ u,RelV v u∧Look X.env s.heap m x u
 cell : ∀ x c,X.env.cells.lookup x = some c→∃ v,s.heap.IsCell c v
 free : H X.env.locals = none
 freeC : ∀ x c,X.env.cells.lookup x = some c→H c = none
 pin : ∀ p ∈ X.pn ++ pins,s.heap.get? p.1 = some p.2∧H p.1 = none∧p.1 ≠ X.env.locals∧p.1 ∉ X.fs∧∀ v,p.2.data ≠ .cell v
 hok : HOk X.prog X.w H s.heap
 len : σ.length = X.N.length
section
variable {X : Cx} {pins : List (Addr × Obj)} {σ : List (Option V)} {H H' : Hp} {s : Shared} {h' : Heap}
theorem Cx.Ok.nofr (ok : X.Ok) {b : Addr} {o : Obj} (e : X.base.get? b = some o) : b ∉ X.fs:=fun hb=>by
 have:=(ok.funs.mem hb).1
 rw [e] at this; cases this
theorem Inv.bs (I : Inv X pins σ H s) : ∀ b o,X.base.get? b = some o→s.heap.get? b = some o∧H b = none:=fun b o e =>
 ⟨I.base.keep b o (I.ok.bs b o e).1 (I.ok.bs b o e).2 (I.ok.nofr e) (I.ok.noex b o e),I.base.free b o (I.ok.bs b o e).1 (I.ok.bs b o e).2 (I.ok.noex b o e)⟩
theorem Inv.bk (I : Inv X pins σ H s) : ∀ b o,X.base.get? b = some o→s.heap.get? b = some o:=fun b o e=>(I.bs b o e).1
theorem Inv.mod (I : Inv X pins σ H s) : Mod X.K X.mg X.base:=I.ok.mod
theorem Inv.kIn (I : Inv X pins σ H s) : X.K.In s.heap:=I.ok.mod.kin.keeps I.bk
theorem Inv.lt (I : Inv X pins σ H s) : X.env.locals < s.heap.objs.size:=let ⟨_,hn,_⟩:=I.loc; hn.lt
theorem Inv.sz (I : Inv X pins σ H s) : X.s₀.heap.objs.size ≤ s.heap.objs.size:=Nat.le_trans I.ok.above (Nat.le_of_lt I.lt)
theorem Inv.nofs (I : Inv X pins σ H s) {a : Addr} (h : s.heap.objs.size ≤ a) : a ∉ X.fs:=fun hb=>by
 obtain ⟨_,o,ho,_⟩:=I.ok.funs.mem hb
 exact absurd (Nat.lt_of_lt_of_le (Heap.lt_size ho) (Nat.le_trans I.sz h)) (Nat.lt_irrefl _)
theorem Inv.cne (I : Inv X pins σ H s) : ∀ x c,X.env.cells.lookup x = some c→c ≠ X.env.locals:=fun x c e z=>by
 obtain ⟨v,o,ho,hd⟩:=I.cell x c e
 obtain ⟨m,⟨o',es,ep,ho',hd',_⟩,_⟩:=I.loc
 rw [z,ho'] at ho; cases ho; rw [hd'] at hd; cases hd
theorem Inv.funs (I : Inv X pins σ H s) : s.heap.FunFrames X.base X.outer:=by
 have all : ∀ (l : List Env),(∀ b ∈ frs l,b ∈ X.fs)→X.s₀.heap.FunFrames X.base l→s.heap.FunFrames X.base l:=by
  intro l
  induction l with
  | nil=>intro _ _; trivial
  | cons env r ih =>
   intro hs hl
   obtain ⟨hk,⟨L,o,hf,hn,ho,hd⟩,hr⟩:=hl
   have hL : L ∈ X.fs:=hs L (by unfold frs; rw [List.filterMap_cons,hf]; exact List.mem_cons_self)
   obtain ⟨sl,e⟩:=I.base.slot L o ho (I.ok.frf L hL) hL fun z=>I.ok.exfs L z hL
   exact ⟨hk,⟨L,_,hf,hn,e,hd⟩,ih (fun b hb=>hs b (by unfold frs; rw [List.filterMap_cons,hf]; exact List.mem_cons_of_mem _ hb)) hr⟩
 exact all X.outer (fun _ hb=>hb) I.ok.funs
theorem Inv.stack (I : Inv X pins σ H s) : s.heap.FunFrames X.base X.stack:=by
 rcases I.ok.stk with e | ⟨e,hf⟩
 ·rw [e]; exact I.funs
 ·rw [e]
  obtain ⟨m,hn,_⟩:=I.loc
  refine .cons (by rw [I.ok.kind]; decide) hf hn ?_ I.funs
  exact Heap.get?_none_of_le (Nat.le_trans I.ok.bsz I.ok.above)
theorem Inv.stkSub (I : Inv X pins σ H s) : ∀ b ∈ frs X.stack,b ∈ X.env.locals :: X.fs:=fun b hb=>by
 rcases I.ok.stk with e | ⟨e,hf⟩
 ·rw [e] at hb; exact List.mem_cons_of_mem _ hb
 ·rw [e] at hb
  unfold frs at hb
  rw [List.filterMap_cons,hf] at hb
  exact hb
theorem Inv.stkFree (I : Inv X pins σ H s) : ∀ b ∈ frs X.stack,H b = none:=fun b hb=>by
 rcases List.mem_cons.mp (I.stkSub b hb) with e | hb
 ·rw [e]; exact I.free
 ·obtain ⟨_,o,ho,_⟩:=I.ok.funs.mem hb
  exact I.base.free b o ho (I.ok.frf b hb) fun z=>I.ok.exfs b z hb
theorem Inv.step {g' : Array GenState} {t' : Nat} {d' : Drawn} {ch : List Addr} (I : Inv X pins σ H s)
  (hch : ∀ b ∈ ch,(b ∈ X.ex ∨ X.s₀.heap.objs.size ≤ b)∧b ≠ X.env.locals∧(∀ x c,X.env.cells.lookup x = some c→c ≠ b)∧∀ p ∈ X.pn ++ pins,p.1 ≠ b)
  (keep : ∀ b o,b ≠ X.env.locals→b ∉ X.fs→b ∉ ch→s.heap.get? b = some o→H b = none→h'.get? b = some o)
  (slot : ∀ b o,b ≠ X.env.locals→b ∈ X.fs→b ∉ ch→s.heap.get? b = some o→H b = none→∃ sl,h'.get? b = some { o with slots:=sl }) (free : ∀ b o,b ∉ ch→s.heap.get? b = some o→H b = none→H' b = none)
  (there : ∀ b o,b ∉ ch→s.heap.get? b = some o→∃ o',h'.get? b = some o')
  (tups : ∀ b xs,H b = some (.tup xs)→H' b = some (.tup xs)) (frzs : ∀ b o u,H b = some (.frz o u)→H' b = some (.frz o u)) (tbls : ∀ b ps,H b = some (.tbl ps)→∃ more,H' b = some (.tbl (ps ++ more)))
  (ns : ∀ m,s.heap.Ns X.env.locals m→h'.Ns X.env.locals m) (hok : HOk X.prog X.w H' h') (hg : AllBare g') :
  Inv X pins σ H' { s with heap:=h',gens:=g',drawn:=d',toks:=t' }:=by
 have neL : ∀ b o,X.s₀.heap.get? b = some o→b ≠ X.env.locals:=fun b o e=>Nat.ne_of_lt (Nat.lt_of_lt_of_le (Heap.lt_size e) I.ok.above)
 have neC : ∀ b o,X.s₀.heap.get? b = some o→b ∉ X.ex→b ∉ ch:=fun b o e hx hb=>by
  rcases (hch b hb).1 with z | z
  ·exact hx z
  ·exact absurd (Nat.lt_of_lt_of_le (Heap.lt_size e) z) (Nat.lt_irrefl _)
 have cellK : ∀ x c,X.env.cells.lookup x = some c→∀ v,s.heap.IsCell c v→h'.IsCell c v:=fun x c e v ⟨o,ho,hd⟩=>by
  have nch : c ∉ ch:=fun z=>(hch c z).2.2.1 x c e rfl
  by_cases hc : c ∈ X.fs
  ·obtain ⟨sl,q⟩:=slot c o (I.cne x c e) hc nch ho (I.freeC x c e)
   exact ⟨_,q,hd⟩
  ·exact ⟨o,keep c o (I.cne x c e) hc nch ho (I.freeC x c e),hd⟩
 refine ⟨I.ok,I.os,hg,⟨fun b o e n hb hx=>?_,fun b o e n hb hx=>?_,fun b o e n hx=>?_,fun b o e hx=>?_,fun b xs e=>tups b xs (I.base.tups b xs e),fun b o xs e=>frzs b o xs (I.base.frzs b o xs e),fun b ps e=>?_⟩,?_,fun x c e=>?_,?_,fun x c e=>?_,fun p hp=>?_,hok,I.len⟩
 ·exact keep b o (neL b o e) hb (neC b o e hx) (I.base.keep b o e n hb hx) (I.base.free b o e n hx)
 ·obtain ⟨sl,e1⟩:=I.base.slot b o e n hb hx
  obtain ⟨sl',e2⟩:=slot b _ (neL b o e) hb (neC b o e hx) e1 (I.base.free b o e n hx)
  exact ⟨sl',e2⟩
 ·obtain ⟨o',e1⟩:=I.base.there b o e hx
  exact free b o' (neC b o e hx) e1 (I.base.free b o e n hx)
 ·obtain ⟨o',e1⟩:=I.base.there b o e hx
  exact there b o' (neC b o e hx) e1
 ·obtain ⟨m1,e1⟩:=I.base.tbls b ps e
  obtain ⟨m2,e2⟩:=tbls b _ e1
  exact ⟨m1 ++ m2,by rw [e2,Array.append_assoc]⟩
 ·obtain ⟨m,hn,hl⟩:=I.loc
  refine ⟨m,ns m hn,fun i x v e1 e2 e3=>?_⟩
  obtain ⟨u,r,l⟩:=hl i x v e1 e2 e3
  refine ⟨u,r,?_⟩
  rcases l with l | ⟨k,c,e,z⟩
  ·exact .inl l
  ·exact .inr ⟨k,c,e,cellK x c e _ z⟩
 ·obtain ⟨v,z⟩:=I.cell x c e
  exact ⟨v,cellK x c e v z⟩
 ·obtain ⟨m,⟨o,_,_,ho,_⟩,_⟩:=I.loc
  exact free _ o (fun z=>(hch _ z).2.1 rfl) ho I.free
 ·obtain ⟨v,o,ho,hd⟩:=I.cell x c e
  exact free c o (fun z=>(hch c z).2.2.1 x c e rfl) ho (I.freeC x c e)
 ·obtain ⟨e,n,ne,nf,d⟩:=I.pin p hp
  have nch : p.1 ∉ ch:=fun z=>(hch p.1 z).2.2.2 p hp rfl
  exact ⟨keep p.1 p.2 ne nf nch e n,free p.1 p.2 nch e n,ne,nf,d⟩
theorem Inv.un {t' : Nat} (I : Inv X pins σ H s) (u : Un X.fs [] H H' s.heap h') (hok : HOk X.prog X.w H' h') : Inv X pins σ H' { s with heap:=h',toks:=t' }:=by
 obtain ⟨m,⟨o,es,ep,ho,r⟩,_⟩:=id I.loc
 obtain ⟨sl,hL⟩:=u.any ho I.free (by simp)
 exact I.step (g':=s.gens) (d':=s.drawn) (ch:=[]) (fun _ z=>nomatch z) (fun b o _ hb _ e n=>u.keep b o e n hb (by simp)) (fun b o _ hb _ e n=>u.slot b o e n hb (by simp)) (fun b o _ e n=>u.free b o e n (by simp)) (fun b o _ e=>u.there b o e (by simp)) u.tups u.frzs u.tbls (fun m' hm=>by
  obtain ⟨o',es',ep',ho',r'⟩:=hm
  rw [ho] at ho'; cases ho'
  exact ⟨_,es',ep',hL,r'⟩) hok I.bare
theorem Inv.call {g' : Array GenState} {t' : Nat} {d' : Drawn} {ch : List Addr} (I : Inv X pins σ H s) (u : Un (frs X.stack) ch H H' s.heap h') (hok : HOk X.prog X.w H' h') (hg : AllBare g')
  (hch : ∀ b ∈ ch,(b ∈ X.ex ∨ X.s₀.heap.objs.size ≤ b)∧b ≠ X.env.locals∧(∀ x c,X.env.cells.lookup x = some c→c ≠ b)∧∀ p ∈ X.pn ++ pins,p.1 ≠ b) :
  Inv X pins σ H' { s with heap:=h',gens:=g',drawn:=d',toks:=t' }:=by
 obtain ⟨m,⟨o,es,ep,ho,r⟩,_⟩:=id I.loc
 obtain ⟨sl,hL⟩:=u.any ho I.free fun z=>(hch _ z).2.1 rfl
 exact I.step (ch:=ch) hch (fun b o hL hb hc e n=>u.keep b o e n (fun z=>(List.mem_cons.mp (I.stkSub b z)).elim hL hb) hc) (fun b o _ _ hc e n=>u.any e n hc) (fun b o hc e n=>u.free b o e n hc) (fun b o hc e=>u.there b o e hc) u.tups u.frzs u.tbls (fun m' hm=>by
  obtain ⟨o',es',ep',ho',r'⟩:=hm
  rw [ho] at ho'; cases ho'
  exact ⟨_,es',ep',hL,r'⟩) hok hg
theorem Inv.turned {t' : Nat} {it : Addr} (I : Inv X pins σ H s) (k : ∀ b o,b ≠ it→s.heap.get? b = some o→h'.get? b = some o) (hn : H it = none) (hL : it ≠ X.env.locals)
  (h1 : it ∈ X.ex ∨ X.s₀.heap.objs.size ≤ it) (h2 : ∀ x c,X.env.cells.lookup x = some c→c ≠ it) (h3 : ∀ p ∈ X.pn ++ pins,p.1 ≠ it) : Inv X pins σ H { s with heap:=h',toks:=t' }:=by
 have nit : ∀ b u,H b = some u→b ≠ it:=fun b u e z=>by rw [z,hn] at e; cases e
 refine I.step (g':=s.gens) (d':=s.drawn) (ch:=[it]) (fun b hb=>?_) (fun b o _ _ hc e _=>k b o (fun z=>hc (by simp [z])) e) (fun b o _ _ hc e _=>⟨o.slots,k b o (fun z=>hc (by simp [z])) e⟩) (fun _ _ _ _ n=>n)
  (fun b o hc e=>⟨o,k b o (fun z=>hc (by simp [z])) e⟩) (fun _ _ e=>e) (fun _ _ _ e=>e) (fun b ps e=>⟨#[],by rw [e]; simp⟩) (fun m hm=>?_) (fun b u e=>?_) I.bare
 ·have e : b = it:=by simpa using hb
  subst e
  exact ⟨h1,hL,h2,h3⟩
 ·obtain ⟨o,es,ep,ho,r⟩:=hm
  exact ⟨o,es,ep,k _ o (Ne.symm hL) ho,r⟩
 ·refine (I.hok b u e).stay (fun c v hc q=>k c v ?_ q) (fun _ q=>q) fun _ _ q=>q
  rcases hc with z | z
  ·rw [z]; exact nit b u e
  ·exact nit c _ z
theorem Inv.tok (I : Inv X pins σ H s) (t : Nat) : Inv X pins σ H { s with toks:=t }:=I.un (h':=s.heap) (t':=t) Un.refl I.hok
theorem Inv.kept {t' : Nat} (I : Inv X pins σ H s) (k : ∀ b u,s.heap.get? b = some u→h'.get? b = some u) : Inv X pins σ H { s with heap:=h',toks:=t' }:=I.un (Un.kept k) (I.hok.kept k)
theorem Inv.laid {a : Addr} {o : HO} {t' : Nat} (I : Inv X pins σ H s) (k : ∀ b u,s.heap.get? b = some u→h'.get? b = some u) (hp : s.heap.objs.size ≤ a) (new : jb2 X.prog X.w (upd H a o) h' a o) :
  Inv X pins σ (upd H a o) { s with heap:=h',toks:=t' }:=I.un (Un.laid k hp (I.hok.fresh hp)) (I.hok.laid k hp new)
theorem Inv.write {x e : Addr} {o : HO} {t' : Nat} (I : Inv X pins σ H s) (mu : Mut (H x)) (he : e = x ∨ H e = some (.own x)) (k : ∀ b u,b ≠ e→s.heap.get? b = some u→h'.get? b = some u) (heo : ∃ u,h'.get? e = some u)
  (new : jb2 X.prog X.w (upd H x o) h' x o) : Inv X pins σ (upd H x o) { s with heap:=h',toks:=t' }:=I.un (Un.write mu he k heo) (I.hok.write mu he k heo new)
theorem Inv.pins_of {pins' : List (Addr × Obj)} (I : Inv X pins σ H s) (h : ∀ p ∈ pins',s.heap.get? p.1 = some p.2∧H p.1 = none∧p.1 ≠ X.env.locals∧p.1 ∉ X.fs∧∀ v,p.2.data ≠ .cell v) : Inv X pins' σ H s :=
 ⟨I.ok,I.os,I.bare,I.base,I.loc,I.cell,I.free,I.freeC,fun p hp=>(List.mem_append.mp hp).elim (fun z=>I.pin p (List.mem_append_left _ z)) (h p),I.hok,I.len⟩
theorem jip {N : List Str} (hN : N.Nodup) {i j : Nat} {x : Str} (a : N[i]? = some x) (b : N[j]? = some x) : i = j:=by
 obtain ⟨h1,e1⟩:=List.getElem?_eq_some_iff.mp a
 obtain ⟨h2,e2⟩:=List.getElem?_eq_some_iff.mp b
 exact (List.getElem_inj hN).mp (e1.trans e2.symm)
theorem jjf {M : Model} {A : Around} {E : Value→Shared→Prop} {i : Nat} {x : Str} {v : V} {u : Value} {Q : Unit→Shared→Prop} (I : Inv X pins σ H s) (hN : X.N.Nodup) (hi : X.N[i]? = some x) (hx : Loc X.env.scope x) (r : RelV v u)
  (h : ∀ s',Inv X pins (σ.set i (some v)) H s'→(∃ a,Heap.SameBut a s.heap s'.heap∧(a = X.env.locals ∨ X.env.cells.lookup x = some a))→Q () s') (hf : X.fn x = true ∨ X.env.scope.names.lookup x = some .local:=by first | exact .inl rfl | exact .inr rfl | assumption) : wpAny M A (storeName X.env x u) Q E s:=by
 obtain ⟨m,hn,hl⟩:=id I.loc
 have hcls : (X.env.scope.kind == .class || (X.env.scope.kind == .module && X.env.locals != X.env.globals)) = false:=by rw [I.ok.kind]; rfl
 have hiσ : i < σ.length:=by rw [I.len]; exact (List.getElem?_eq_some_iff.mp hi).1
 have cne:=I.cne
 have tracked : ∀ {a : Addr} {h' : Heap},(∃ o,s.heap.get? a = some o∧H a = none)→Heap.SameBut a s.heap h'→HOk X.prog X.w H h':=fun {a h'} ha hs b ob e=>by
  obtain ⟨_,_,hfree⟩:=ha
  refine (I.hok b ob e).stay (fun c w' hc q=>(hs.2 c ?_).trans q) (fun _ q=>q) fun _ _ q=>q
  rintro rfl
  rcases hc with rfl | hc
  ·rw [hfree] at e; cases e
  ·rw [hfree] at hc; cases hc
 rcases hx with hk | hk
 ·refine wpAny_storeName_local hk hn (fun h' hn' hs=>?_) hcls
  obtain ⟨oL,_,_,hoL,_⟩:=id hn
  refine h _ ⟨I.ok,I.os,I.bare,⟨fun b o e n hb hx=>?_,fun b o e n hb hx=>?_,I.base.free,fun b o e hx=>?_,I.base.tups,I.base.frzs,I.base.tbls⟩,⟨_,hn',fun j y v' e1 e2 e3=>?_⟩,fun y c e=>?_,I.free,I.freeC,fun p hp=>?_,tracked ⟨oL,hoL,I.free⟩ hs,by simpa using I.len⟩ ⟨_,hs,.inl rfl⟩
  ·exact (hs.2 b (Nat.ne_of_lt (Nat.lt_of_lt_of_le (Heap.lt_size e) I.ok.above))).trans (I.base.keep b o e n hb hx)
  ·obtain ⟨sl,e1⟩:=I.base.slot b o e n hb hx
   exact ⟨sl,(hs.2 b (Nat.ne_of_lt (Nat.lt_of_lt_of_le (Heap.lt_size e) I.ok.above))).trans e1⟩
  ·obtain ⟨o',e1⟩:=I.base.there b o e hx
   exact ⟨o',(hs.2 b (Nat.ne_of_lt (Nat.lt_of_lt_of_le (Heap.lt_size e) I.ok.above))).trans e1⟩
  ·by_cases hj : j = i
   ·subst hj
    rw [hi] at e1; cases e1
    rw [List.getElem?_set_self hiσ] at e2
    cases e2
    exact ⟨u,r,.inl ⟨hk,by simp⟩⟩
   ·rw [List.getElem?_set_ne (Ne.symm hj)] at e2
    obtain ⟨u',r',q⟩:=hl j y v' e1 e2 e3
    refine ⟨u',r',?_⟩
    rcases q with ⟨k,e⟩ | ⟨k,c,e,z⟩
    ·refine .inl ⟨k,?_⟩
     have : y ≠ x:=fun e=>hj (jip hN e1 (e ▸ hi))
     simp [this,e]
    ·exact .inr ⟨k,c,e,z.sameBut hs (cne y c e)⟩
  ·obtain ⟨w',z⟩:=I.cell y c e
   exact ⟨w',z.sameBut hs (cne y c e)⟩
  ·obtain ⟨e,n,ne,nf,d⟩:=I.pin p hp
   exact ⟨(hs.2 p.1 ne).trans e,n,ne,nf,d⟩
 ·have hfn : X.fn x = true:=by
   rcases hf with z | z
   ·exact z
   ·rw [z] at hk; cases hk
  obtain ⟨c,hc⟩:=I.ok.has x (.inl hk)
  obtain ⟨w',z⟩:=I.cell x c hc
  refine wpAny_storeName_cell I.ok.kind hk hc z (fun h' hc' hs=>?_)
  obtain ⟨oc,hoc,hocd⟩:=id z
  refine h { s with heap:=h' } ⟨I.ok,I.os,I.bare,⟨fun b o e n hb hx=>?_,fun b o e n hb hx=>?_,I.base.free,fun b o e hx=>?_,I.base.tups,I.base.frzs,I.base.tbls⟩,⟨m,hn.sameBut hs (Ne.symm (cne x c hc)),fun j y v' e1 e2 e3=>?_⟩,fun y c' e=>?_,I.free,I.freeC,fun p hp=>?_,tracked ⟨oc,hoc,I.freeC x c hc⟩ hs,by simpa using I.len⟩ ⟨c,hs,.inr hc⟩
  ·exact (hs.2 b (Nat.ne_of_lt (Nat.lt_of_lt_of_le (Heap.lt_size e) (I.ok.cab x c hfn hc)))).trans (I.base.keep b o e n hb hx)
  ·obtain ⟨sl,e1⟩:=I.base.slot b o e n hb hx
   exact ⟨sl,(hs.2 b (Nat.ne_of_lt (Nat.lt_of_lt_of_le (Heap.lt_size e) (I.ok.cab x c hfn hc)))).trans e1⟩
  ·obtain ⟨o',e1⟩:=I.base.there b o e hx
   exact ⟨o',(hs.2 b (Nat.ne_of_lt (Nat.lt_of_lt_of_le (Heap.lt_size e) (I.ok.cab x c hfn hc)))).trans e1⟩
  ·by_cases hj : j = i
   ·subst hj
    rw [hi] at e1; cases e1
    rw [List.getElem?_set_self hiσ] at e2
    cases e2
    exact ⟨u,r,.inr ⟨.inl hk,c,hc,hc'⟩⟩
   ·rw [List.getElem?_set_ne (Ne.symm hj)] at e2
    obtain ⟨u',r',q⟩:=hl j y v' e1 e2 e3
    refine ⟨u',r',?_⟩
    rcases q with q | ⟨k,c',e,z'⟩
    ·exact .inl q
    ·refine .inr ⟨k,c',e,z'.sameBut hs ?_⟩
     rintro rfl
     exact hj (jip hN e1 (I.ok.inj _ _ _ e hc ▸ hi))
  ·by_cases hcc : c' = c
   ·subst hcc; exact ⟨_,hc'⟩
   ·obtain ⟨w2,z2⟩:=I.cell y c' e
    exact ⟨w2,z2.sameBut hs hcc⟩
  ·obtain ⟨e,n,ne,nf,d⟩:=I.pin p hp
   refine ⟨(hs.2 p.1 ?_).trans e,n,ne,nf,d⟩
   intro q
   rw [q,hoc] at e
   have q' : oc = p.2:=Option.some.inj e
   exact d w' (by rw [← q']; exact hocd)
theorem jfn {M : Model} {A : Around} {E : Value→Shared→Prop} {i : Nat} {x : Str} {v : V} {u : Value} {Q : Unit→Shared→Prop} (I : Inv X pins σ H s) (hN : X.N.Nodup) (hi : X.N[i]? = some x) (hx : Loc X.env.scope x) (r : RelV v u)
  (h : ∀ s',Inv X pins (σ.set i (some v)) H s'→Q () s') (hf : X.fn x = true ∨ X.env.scope.names.lookup x = some .local:=by first | exact .inl rfl | exact .inr rfl | assumption) : wpAny M A (storeName X.env x u) Q E s :=
 jjf I hN hi hx r (fun s' I' _=>h s' I') hf
theorem Inv.call' {s' : Shared} {ch : List Addr} (I : Inv X pins σ H s) (ho : s'.os = s.os) (u : Un (frs X.stack) ch H H' s.heap s'.heap) (hok : HOk X.prog X.w H' s'.heap) (hg : AllBare s'.gens)
  (hch : ∀ b ∈ ch,(b ∈ X.ex ∨ X.s₀.heap.objs.size ≤ b)∧b ≠ X.env.locals∧(∀ x c,X.env.cells.lookup x = some c→c ≠ b)∧∀ p ∈ X.pn ++ pins,p.1 ≠ b) : Inv X pins σ H' s':=by
 obtain ⟨h',g',d',t',o'⟩:=s'
 have e : o' = s.os:=ho
 subst e
 exact I.call (g':=g') (t':=t') (d':=d') u hok hg hch
end
noncomputable abbrev XK:=Value→Option Addr→Hp→Prop
noncomputable abbrev St:=List (Option V)
noncomputable abbrev VK:=V→Hp→Prop
noncomputable abbrev TE:=St→Hp→VK→Prop
noncomputable abbrev TT:=St→Hp→(Bool→Hp→Prop)→Prop
noncomputable abbrev TA:=St→Hp→(List V→Hp→Prop)→Prop
structure Ends where
 nx : St→Hp→Prop
 rt : VK
 bk : St→Hp→Prop:=fun _ _=>False
 ct : St→Hp→Prop:=fun _ _=>False
noncomputable abbrev TS:=Ends→St→Hp→Prop
noncomputable def EP (X : Cx) (pins : List (Addr × Obj)) (σ : St) (Q : VK) (u : Value) (s' : Shared) : Prop:=∃ v H',Inv X pins σ H' s'∧RelV v u∧Q v H'
noncomputable def TP (X : Cx) (pins : List (Addr × Obj)) (σ : St) (Q : Bool→Hp→Prop) (b : Bool) (s' : Shared) : Prop:=∃ H',Inv X pins σ H' s'∧Q b H'
noncomputable def AP (X : Cx) (pins : List (Addr × Obj)) (σ : St) (Q : List V→Hp→Prop) (us : List Value) (s' : Shared) : Prop:=∃ vs H',Inv X pins σ H' s'∧Vals vs us∧Q vs H'
noncomputable def SP (X : Cx) (pins : List (Addr × Obj)) (D : Ends) (f : Flow) (s' : Shared) : Prop :=
 match f with
 | .next=>∃ σ' H',Inv X pins σ' H' s'∧D.nx σ' H'
 | .brk=>∃ σ' H',Inv X pins σ' H' s'∧D.bk σ' H'
 | .cont=>∃ σ' H',Inv X pins σ' H' s'∧D.ct σ' H'
 | .ret u=>∃ v σ' H',Inv X pins σ' H' s'∧RelV v u∧D.rt v H'
noncomputable def PE (X : Cx) (e : Expr) (t : TE) : Prop :=
 ∀ (pins : List (Addr × Obj)) (s : Shared) (σ : St) (H : Hp) (Q : VK),Inv X pins σ H s→t σ H Q→wpAny (model X.prog X.w) X.A (eval e X.env) (EP X pins σ Q) X.xe s
noncomputable def PT (X : Cx) (e : Expr) (t : TT) : Prop :=
 ∀ (pins : List (Addr × Obj)) (s : Shared) (σ : St) (H : Hp) (Q : Bool→Hp→Prop),Inv X pins σ H s→t σ H Q→wpAny (model X.prog X.w) X.A (isTrue e X.env (eval e X.env)) (TP X pins σ Q) X.xe s
noncomputable def PW (X : Cx) (e : Expr) (t : TT) : Prop :=
 ∀ (whole : Sem Value) (pins : List (Addr × Obj)) (s : Shared) (σ : St) (H : Hp) (Q : Bool→Hp→Prop),Inv X pins σ H s→t σ H Q→wpAny (model X.prog X.w) X.A (isTrue e X.env whole) (TP X pins σ Q) X.xe s
theorem PW.pt {X : Cx} {e : Expr} {t : TT} (h : PW X e t) : PT X e t:=h _
noncomputable def PA (X : Cx) (es : List Expr) (t : TA) : Prop :=
 ∀ (pos : Pos) (pins : List (Addr × Obj)) (s : Shared) (σ : St) (H : Hp) (Q : List V→Hp→Prop),Inv X pins σ H s→t σ H Q→wpAny (model X.prog X.w) X.A (spliced (backTo pos (starEach es X.env))) (AP X pins σ Q) X.xe s
noncomputable def PS (X : Cx) (st : Stmt) (t : TS) : Prop :=
 ∀ (pins : List (Addr × Obj)) (s : Shared) (σ : St) (H : Hp) (D : Ends),Inv X pins σ H s→t D σ H→wpAny (model X.prog X.w) X.A (exec st X.env) (SP X pins D) X.xe s
noncomputable def PSs (X : Cx) (st : List Stmt) (t : TS) : Prop :=
 ∀ (pins : List (Addr × Obj)) (s : Shared) (σ : St) (H : Hp) (D : Ends),Inv X pins σ H s→t D σ H→wpAny (model X.prog X.w) X.A (execs st X.env) (SP X pins D) X.xe s
theorem thn {α : Type} {t : Sem α} {Q Q' : α→Shared→Prop} {M : Model} {A : Around} {E : Value→Shared→Prop} {s : Shared} (h : wpAny M A t Q E s) (hQ : ∀ a s,Q a s→Q' a s) : wpAny M A t Q' E s:=wpAny_mono h hQ fun _ _ x=>x
end L2
namespace L2
open PySem PySem.Spec PyProof.Rows
section
variable {X : Cx}
noncomputable def tVar (i : Nat) : TE:=fun σ H Q=>∃ v,σ[i]? = some (some v)∧Q v H
noncomputable def tC (v : V) : TE:=fun _ H Q=>Q v H
theorem pe_var {i : Nat} {x : Str} {pos : Pos} (hN : X.N[i]? = some x) (hv : Vis X.env.scope x) (hd : (x == ("__debug__" : Str)) = false:=by decide) (hcd : (x == ("__classdict__" : Str)) = false:=by decide) : PE X (.Name x pos) (tVar i):=by
 intro pins s σ H Q I h
 obtain ⟨v,e,h⟩:=h
 obtain ⟨m,hn,hl⟩:=I.loc
 obtain ⟨u,r,l⟩:=hl i x v hN e hv
 have fin : EP X pins σ Q u s:=⟨v,H,I,r,h⟩
 rcases l with ⟨hk,hm⟩ | ⟨hk,c,hc,hcell⟩
 ·exact wpAny_Name (wpAny_loadName_local I.ok.kind hk hn hm fin) hd
 ·rcases hk with hk | hk
  ·exact wpAny_Name (wpAny_loadName_cell I.ok.kind hk hc hcell fin) hd
  ·exact wpAny_Name (wpAny_loadName_free I.ok.kind hk hc hcell fin hcd) hd
theorem ja4 {i j pos} : PE X (.Constant (.int i) j pos) (tC (.int i)):=fun _ _ _ H _ I h=>wpAny_Constant_int ⟨.int i,H,I.tok _,⟨_,rfl⟩,h⟩
theorem je1 {b j pos} : PE X (.Constant (.bool b) j pos) (tC (.bl b)):=fun _ _ _ H _ I h=>Constant_bool ⟨.bl b,H,I,rfl,h⟩
theorem jd0 {j pos} : PE X (.Constant .none j pos) (tC .non):=fun _ _ _ H _ I h=>Constant_none ⟨.non,H,I,rfl,h⟩
theorem jbb {x j pos} : PE X (.Constant (.str x) j pos) (tC (.str x)):=fun _ _ _ H _ I h=>Calls.Constant_str ⟨.str x,H,I.tok _,⟨_,rfl⟩,h⟩
noncomputable def Gl (X : Cx) (x : Str) : Prop:=X.env.kindOf x = some .globalImplicit
theorem jdb {E : Value→Shared→Prop} {pins : List (Addr × Obj)} {s : Shared} {σ : St} {H : Hp} {x : Str} {u : Value} {pos : Pos} {Q : Value→Shared→Prop} (I : Inv X pins σ H s) (hg : Gl X x) (hm : X.mg x = some u) (h : Q u s)
  (hd : (x == ("__debug__" : Str)) = false:=by decide) : wpAny (model X.prog X.w) X.A (eval (.Name x pos) X.env) Q E s :=
 Calls.Name_function_global I.ok.kind hg (Calls.loadGlobal_global (by rw [I.ok.glob]; exact I.mod.glob.keeps I.bk) hm h) hd
theorem jfc {E : Value→Shared→Prop} {pins : List (Addr × Obj)} {s : Shared} {σ : St} {H : Hp} {x : Str} {u : Value} {pos : Pos} {Q : Value→Shared→Prop} (I : Inv X pins σ H s) (hg : Gl X x) (hm : X.mg x = none) (hv : bootBuiltins x = some u) (h : Q u s)
  (hn : x ≠ "__name__":=by decide) (hd : (x == ("__debug__" : Str)) = false:=by decide) : wpAny (model X.prog X.w) X.A (eval (.Name x pos) X.env) Q E s:=by
 obtain ⟨mb,h1,h2⟩:=I.mod.blt
 exact Calls.Name_function_global I.ok.kind hg (Calls.loadGlobal_builtin (by rw [I.ok.glob]; exact I.mod.glob.keeps I.bk) hm (by rw [I.ok.blt]; exact h1.keeps I.bk) ((h2 x hn).trans hv) h) hd
theorem jgh {x : Str} {v : V} {u : Value} {pos : Pos} (hg : Gl X x) (hm : X.mg x = some u) (r : RelV v u) (hd : (x == ("__debug__" : Str)) = false:=by decide) : PE X (.Name x pos) (tC v) :=
 fun _ _ _ H _ I h=>jdb I hg hm ⟨v,H,I,r,h⟩ hd
theorem jd9 {x : Str} {v : V} {u : Value} {pos : Pos} (hg : Gl X x) (hm : X.mg x = none) (hv : bootBuiltins x = some u) (r : RelV v u) (hn : x ≠ "__name__":=by decide) (hd : (x == ("__debug__" : Str)) = false:=by decide) : PE X (.Name x pos) (tC v) :=
 fun _ _ _ H _ I h=>jfc I hg hm hv ⟨v,H,I,r,h⟩ hn hd
variable {a b : Expr} {ta tb : TE} {pos : Pos}
noncomputable def PC (X : Cx) (op : CmpOp) (a b : Expr) (t : TE) : Prop :=
 ∀ (pins : List (Addr × Obj)) (s : Shared) (σ : St) (H : Hp) (Q : VK),Inv X pins σ H s→t σ H Q →
  wpAny (model X.prog X.w) X.A (eval a X.env) (fun v s₁=>wpAny (model X.prog X.w) X.A (eval b X.env) (fun u s₂=>wpAny (model X.prog X.w) X.A (compareOp op v u) (EP X pins σ Q) X.xe s₂) X.xe s₁) X.xe s
theorem jpy (b : Expr) {op : CmpOp} (h : op ≠ .In) (h2 : op ≠ .NotIn) : behindInMarks op b = false:=by
 have e1 : (op == CmpOp.In) = false:=by cases op <;> first | rfl | exact absurd rfl h
 have e2 : (op == CmpOp.NotIn) = false:=by cases op <;> first | rfl | exact absurd rfl h2
 cases b <;> simp [behindInMarks,e1,e2]
theorem jo4 {op : CmpOp} {t : TE} (h : PC X op a b t) (h1 : behindInMarks op b = false:=by first | exact jpy _ (by decide) (by decide) | rfl) : PE X (.Compare a [op] [b] pos) t:=fun pins s σ H Q I hw=>wpAny_Compare1 (h pins s σ H Q I hw) h1
variable {tA tB' : TT} {rest : List Expr}
noncomputable def tAnd (t u : TT) : TT:=fun σ H Q=>t σ H fun c H1=>if c = true then u σ H1 Q else Q false H1
noncomputable def tOr (t u : TT) : TT:=fun σ H Q=>t σ H fun c H1=>if c = true then Q true H1 else u σ H1 Q
noncomputable def tNot (t : TT) : TT:=fun σ H Q=>t σ H fun c H1=>Q (!c) H1
theorem je0 (ha : PT X a tA) : PW X (.BoolOp .And [a] pos) tA:=by
 intro wh pins s σ H Q I h
 refine isTrue_and (thn (ha pins s σ H Q I h) fun c s1 e=>?_)
 cases c with
 | true=>exact isTrue_and_nil e
 | false=>exact e
theorem jgd (ha : PT X a tA) : PW X (.BoolOp .Or [a] pos) tA:=by
 intro wh pins s σ H Q I h
 refine isTrue_or (thn (ha pins s σ H Q I h) fun c s1 e=>?_)
 cases c with
 | false=>exact isTrue_or_nil e
 | true=>exact e
theorem jfa (ha : PT X a tA) (hb : PW X (.BoolOp .And (b :: rest) pos) tB') : PW X (.BoolOp .And (a :: b :: rest) pos) (tAnd tA tB'):=by
 intro wh pins s σ H Q I h
 refine isTrue_and (thn (ha pins s σ H _ I h) fun c s1 ⟨H1,I1,q1⟩=>?_)
 cases c with
 | true=>exact hb wh pins s1 σ H1 Q I1 q1
 | false=>exact ⟨H1,I1,q1⟩
theorem jid (ha : PT X a tA) (hb : PW X (.BoolOp .Or (b :: rest) pos) tB') : PW X (.BoolOp .Or (a :: b :: rest) pos) (tOr tA tB'):=by
 intro wh pins s σ H Q I h
 refine isTrue_or (thn (ha pins s σ H _ I h) fun c s1 ⟨H1,I1,q1⟩=>?_)
 cases c with
 | true=>exact ⟨H1,I1,q1⟩
 | false=>exact hb wh pins s1 σ H1 Q I1 q1
theorem jbw (ha : PT X a tA) : PT X (.UnaryOp .Not a pos) (tNot tA):=by
 intro pins s σ H Q I h
 exact isTrue_not (ha pins s σ H (fun c H1=>Q (!c) H1) I h)
theorem jdw {op} {t : TE} (h : PE X a t) : PE X (.BoolOp op [a] pos) t:=fun pins s σ H Q I hw=>BoolOp_one (h pins s σ H Q I hw)
noncomputable def tIf (t : TT) (ta tb : TE) : TE:=fun σ H Q=>t σ H fun c H1=>if c = true then ta σ H1 Q else tb σ H1 Q
theorem jpv {c : Expr} (hc : PT X c tA) (ha : PE X a ta) (hb : PE X b tb) : PE X (.IfExp c a b pos) (tIf tA ta tb):=by
 intro pins s σ H Q I h
 refine wpAny_IfExp (thn (hc pins s σ H _ I h) fun d s1 ⟨H1,I1,q1⟩=>?_)
 cases d with
 | true=>exact ha pins s1 σ H1 Q I1 q1
 | false=>exact hb pins s1 σ H1 Q I1 q1
end
end L2
namespace L2
open PySem PySem.Spec PyProof.Rows
noncomputable def SqL (K : PySem.W.Frag) (H : Hp) (a : Addr) (xs : List V) : Prop :=
 Rd H a (.lst xs) ∨
  ∃ (o : Obj) (its : Array Value) (n : Nat),K.lookup a = some o∧o.cls = .type "list"∧o.dict = none∧o.data = .seq its n∧its.size ≤ sizeLine∧Vals xs its.toList
noncomputable def SqT (K : PySem.W.Frag) (H : Hp) (a : Addr) (xs : List V) : Prop :=
 Rd H a (.tup xs) ∨
  ∃ (o : Obj) (its : Array Value) (n : Nat),K.lookup a = some o∧o.cls = .type "tuple"∧o.data = .seq its n∧its.size ≤ sizeLine∧Vals xs its.toList
noncomputable def absV : Value→Option V
 | .none=>some .non
 | .bool b=>some (.bl b)
 | .int i _=>some (.int i)
 | .str x _=>some (.str x)
 | .bytes b _=>some (.byt b)
 | .float b _=>some (.flt b)
 | .ref a=>some (.ref a)
 | .type n=>some (.ty n)
 | _=>none
theorem RelV.abs {x : V} {u : Value} (r : RelV x u) : absV u = some x:=by
 cases x with
 | non=>cases r; rfl
 | bl _=>cases r; rfl
 | int _=>obtain ⟨t,rfl⟩:=r; rfl
 | str _=>obtain ⟨t,rfl⟩:=r; rfl
 | byt _=>obtain ⟨t,rfl⟩:=r; rfl
 | flt _=>obtain ⟨t,rfl⟩:=r; rfl
 | ref _=>cases r; rfl
 | ty _=>cases r; rfl
theorem RelV.inj {x y : V} {u : Value} (r : RelV x u) (q : RelV y u) : x = y:=Option.some.inj (r.abs.symm.trans q.abs)
theorem Vals.inj : ∀ {xs ys : List V} {us : List Value},Vals xs us→Vals ys us→xs = ys
 | _,_,_,.nil,.nil=>rfl
 | _,_,_,.cons r t,.cons r' t'=>by rw [r.inj r',Vals.inj t t']
section
variable {X : Cx} {pins : List (Addr × Obj)} {σ : St} {H : Hp} {s : Shared} {a : Addr} {xs ys : List V}
theorem SqL.of {K : PySem.W.Frag} (h : H a = some (.lst xs)) : SqL K H a xs:=.inl (.inl h)
theorem SqT.of {K : PySem.W.Frag} (h : H a = some (.tup xs)) : SqT K H a xs:=.inl (.inl h)
theorem Inv.list (I : Inv X pins σ H s) (h : SqL X.K H a xs) : ∃ its : List Value,Vals xs its∧PlainL s.heap a its.toArray∧xs.length ≤ sizeLine:=by
 rcases h with h | ⟨o,its,n,hk,hc,hd,hs,hz,r⟩
 ·obtain ⟨z,its,n,r,e⟩:=h.ok I.hok
  exact ⟨its,r,⟨_,n,e,rfl,rfl,rfl⟩,z⟩
 ·refine ⟨its.toList,r,⟨o,n,I.kIn a o hk,hc,hd,by simpa using hs⟩,?_⟩
  have e:=r.length
  simp only [Array.length_toList] at e
  omega
theorem Inv.tuple (I : Inv X pins σ H s) (h : SqT X.K H a xs) : ∃ its : List Value,Vals xs its∧IsTup s.heap a its.toArray∧xs.length ≤ sizeLine:=by
 rcases h with h | ⟨o,its,n,hk,hc,hs,hz,r⟩
 ·obtain ⟨z,its,r,p⟩:=h.ok I.hok
  exact ⟨its,r,p,z⟩
 ·refine ⟨its.toList,r,⟨o,I.kIn a o hk,hc,n,by simpa using hs⟩,?_⟩
  have e:=r.length
  simp only [Array.length_toList] at e
  omega
theorem Inv.list_inj (I : Inv X pins σ H s) (h : SqL X.K H a xs) (h' : SqL X.K H a ys) : xs = ys:=by
 obtain ⟨its,r,⟨o,n,e,_,_,d⟩,_⟩:=I.list h
 obtain ⟨its',r',⟨o',n',e',_,_,d'⟩,_⟩:=I.list h'
 rw [e] at e'; cases e'
 rw [d] at d'
 injection d' with d1 _
 have : its = its':=by simpa using congrArg Array.toList d1
 subst this
 exact r.inj r'
theorem Inv.tuple_inj (I : Inv X pins σ H s) (h : SqT X.K H a xs) (h' : SqT X.K H a ys) : xs = ys:=by
 obtain ⟨its,r,⟨o,e,_,n,d⟩,_⟩:=I.tuple h
 obtain ⟨its',r',⟨o',e',_,n',d'⟩,_⟩:=I.tuple h'
 rw [e] at e'; cases e'
 rw [d] at d'
 injection d' with d1 _
 have : its = its':=by simpa using congrArg Array.toList d1
 subst this
 exact r.inj r'
end
noncomputable abbrev Cx.wish (X : Cx) (E : Value→Shared→Prop) : Cx:={ X with xe:=E }
noncomputable abbrev Cx.nox (X : Cx) : Cx:=X.wish fun _ _=>False
theorem Cx.Ok.wish {X : Cx} (ok : X.Ok) (E : Value→Shared→Prop) : (X.wish E).Ok :=
 ⟨ok.mod,ok.kind,ok.glob,ok.blt,ok.above,ok.inj,ok.has,ok.cab,ok.hd,ok.frames,ok.stk,ok.exf,ok.bs,ok.bsz,ok.noex,ok.exfs,ok.funs,ok.frf⟩
theorem Cx.Ok.unwish {X : Cx} {E : Value→Shared→Prop} (ok : (X.wish E).Ok) : X.Ok :=
 ⟨ok.mod,ok.kind,ok.glob,ok.blt,ok.above,ok.inj,ok.has,ok.cab,ok.hd,ok.frames,ok.stk,ok.exf,ok.bs,ok.bsz,ok.noex,ok.exfs,ok.funs,ok.frf⟩
section
variable {X : Cx} {pins : List (Addr × Obj)} {σ : St} {H : Hp} {s : Shared} {E : Value→Shared→Prop}
theorem Inv.wish (I : Inv X pins σ H s) (E : Value→Shared→Prop) : Inv (X.wish E) pins σ H s:=⟨I.ok.wish E,I.os,I.bare,I.base,I.loc,I.cell,I.free,I.freeC,I.pin,I.hok,I.len⟩
theorem Inv.unwish (I : Inv (X.wish E) pins σ H s) : Inv X pins σ H s:=⟨I.ok.unwish,I.os,I.bare,I.base,I.loc,I.cell,I.free,I.freeC,I.pin,I.hok,I.len⟩
theorem SP.unwish {D : Ends} {f : Flow} {s' : Shared} (h : SP (X.wish E) pins D f s') : SP X pins D f s':=by
 cases f with
 | next=>obtain ⟨σ',H',I,q⟩:=h; exact ⟨σ',H',I.unwish,q⟩
 | brk=>obtain ⟨σ',H',I,q⟩:=h; exact ⟨σ',H',I.unwish,q⟩
 | cont=>obtain ⟨σ',H',I,q⟩:=h; exact ⟨σ',H',I.unwish,q⟩
 | ret u=>obtain ⟨v,σ',H',I,r,q⟩:=h; exact ⟨v,σ',H',I.unwish,r,q⟩
theorem PSs.nox {st : List Stmt} {t : TS} (h : PSs X.nox st t) : PSs X st t:=fun pins s σ H D I hw =>
 wpAny_mono (h pins s σ H D (I.wish _) hw) (fun _ _ q=>q.unwish) fun _ _ z=>False.elim z
end
section
variable {X : Cx} {st : Stmt} {rest : List Stmt} {t u : TS} {e : Expr} {te : TE} {pos : Pos}
noncomputable def ji1 : TS:=fun D σ H=>D.nx σ H
noncomputable def tSeq (t u : TS) : TS:=fun D σ H=>t { D with nx:=u D } σ H
theorem jag : PSs X [] ji1:=fun _ _ σ H _ I h=>wpAny_execs_nil ⟨σ,H,I,h⟩
theorem ja3 (h1 : PS X st t) (h2 : PSs X rest u) : PSs X (st :: rest) (tSeq t u):=by
 intro pins s σ H D I h
 refine wpAny_execs_cons (thn (h1 pins s σ H { D with nx:=u D } I h) fun f s1 q=>?_)
 cases f with
 | next =>
  obtain ⟨σ',H',I',q⟩:=q
  exact h2 pins s1 σ' H' D I' q
 | ret v=>exact q
 | brk=>exact q
 | cont=>exact q
theorem ja7 (h1 : PS X st t) : PSs X [st] t:=by
 intro pins s σ H D I h
 refine wpAny_execs_cons (thn (h1 pins s σ H D I h) fun f s1 q=>?_)
 cases f with
 | next=>exact wpAny_execs_nil q
 | ret v=>exact q
 | brk=>exact q
 | cont=>exact q
theorem Inv.quiet {pins : List (Addr × Obj)} {σ : St} {H : Hp} {s : Shared} (I : Inv X pins σ H s) : interactive X.env = false:=by simp [interactive,I.ok.kind]
noncomputable def ji2 (te : TE) : TS:=fun D σ H=>te σ H fun _ H1=>D.nx σ H1
theorem jb4 (he : PE X e te) (hs : swapsWith e none pos.line X.env = pure false:=by rfl) : PS X (.Expr e pos) (ji2 te):=by
 intro pins s σ H D I h
 exact wpAny_Expr_any (thn (he pins s σ H _ I h) fun v s1 ⟨x,H1,I1,r1,q1⟩=>⟨σ,H1,I1,q1⟩) I.quiet hs
noncomputable def tRet (te : TE) : TS:=fun D σ H=>te σ H D.rt
theorem jae (he : PE X e te) : PS X (.Return (some e) pos) (tRet te):=by
 intro pins s σ H D I h
 exact wpAny_Return_some (thn (he pins s σ H _ I h) fun v s1 ⟨x,H1,I1,r1,q1⟩=>⟨x,σ,H1,I1,r1,q1⟩)
noncomputable def jje : TS:=fun D _ H=>D.rt .non H
noncomputable def tIfS (c : TT) (t u : TS) : TS:=fun D σ H=>c σ H fun b H1=>if b = true then t D σ H1 else u D σ H1
theorem jay {c : Expr} {a b : List Stmt} {tc : TT} (hc : PT X c tc) (ha : PSs X a t) (hb : PSs X b u) : PS X (.If c a b pos) (tIfS tc t u):=by
 intro pins s σ H D I h
 refine wpAny_If (thn (hc pins s σ H _ I h) fun d s1 ⟨H1,I1,q1⟩=>?_)
 cases d with
 | true=>exact ha pins s1 σ H1 D I1 q1
 | false=>exact hb pins s1 σ H1 D I1 q1
end
noncomputable abbrev TG:=V→St→Hp→(St→Hp→Prop)→Prop
noncomputable abbrev TGs:=List V→St→Hp→(St→Hp→Prop)→Prop
noncomputable def PG (X : Cx) (target : Expr) (t : TG) : Prop :=
 ∀ (pins : List (Addr × Obj)) (s : Shared) (σ : St) (H : Hp) (v : V) (u : Value) (Q : St→Hp→Prop),Inv X pins σ H s→RelV v u→t v σ H Q →
  wpAny (model X.prog X.w) X.A (assign target X.env u) (fun _ s'=>∃ σ' H',Inv X pins σ' H' s'∧Q σ' H') X.xe s
noncomputable def PGs (X : Cx) (ts : List Expr) (t : TGs) : Prop :=
 ∀ (pins : List (Addr × Obj)) (s : Shared) (σ : St) (H : Hp) (vs : List V) (us : List Value) (Q : St→Hp→Prop),Inv X pins σ H s→Vals vs us→t vs σ H Q →
  wpAny (model X.prog X.w) X.A (assignInOrder ((assignEach ts X.env).map (·.2)) us) (fun _ s'=>∃ σ' H',Inv X pins σ' H' s'∧Q σ' H') X.xe s
noncomputable abbrev TSet:=V→V→V→Hp→(Hp→Prop)→Prop
noncomputable def PSet (X : Cx) (t : TSet) : Prop :=
 ∀ (pins : List (Addr × Obj)) (s : Shared) (σ : St) (H : Hp) (o i v : V) (ov iv u : Value) (Q : Hp→Prop),Inv X pins σ H s→RelV o ov→RelV i iv→RelV v u→t o i v H Q →
  wpAny (model X.prog X.w) X.A (setItem ov iv u) (fun _ s'=>∃ H',Inv X pins σ H' s'∧Q H') X.xe s
noncomputable abbrev TIp:=V→V→Hp→VK→Prop
noncomputable def PIp (X : Cx) (op : Operator) (t : TIp) : Prop :=
 ∀ (pins : List (Addr × Obj)) (s : Shared) (σ : St) (H : Hp) (x y : V) (v u : Value) (Q : VK),Inv X pins σ H s→RelV x v→RelV y u→t x y H Q →
  wpAny (model X.prog X.w) X.A (inplaceOp op v u) (EP X pins σ Q) X.xe s
section
variable {X : Cx} {pos : Pos}
noncomputable def jf3 (i : Nat) : TG:=fun v σ H Q=>Q (σ.set i (some v)) H
theorem jac {i : Nat} {x : Str} (hN : X.N.Nodup) (hi : X.N[i]? = some x) (hx : Loc X.env.scope x) (hf : X.fn x = true ∨ X.env.scope.names.lookup x = some .local:=by first | exact .inl rfl | exact .inr rfl | assumption) : PG X (.Name x pos) (jf3 i):=by
 intro pins s σ H v u Q I r h
 exact wpAny_assign_Name (jfn I hN hi hx r (fun s' I'=>⟨_,H,I',h⟩) hf)
noncomputable def gNil : TGs:=fun vs σ H Q=>vs = []∧Q σ H
noncomputable def gCons (t : TG) (u : TGs) : TGs:=fun vs σ H Q=>∃ v r,vs = v :: r∧t v σ H fun σ' H'=>u r σ' H' Q
theorem jrf : PGs X [] gNil:=by
 intro pins s σ H vs us Q I r h
 obtain ⟨e,h⟩:=h
 subst e
 cases r
 exact assignInOrder_nil ⟨σ,H,I,h⟩
theorem jpt {e : Expr} {es : List Expr} {t : TG} {u : TGs} (h1 : PG X e t) (h2 : PGs X es u)
  (hs : (assignEach (e :: es) X.env).map (·.2) = assign e X.env :: (assignEach es X.env).map (·.2):=by rfl) : PGs X (e :: es) (gCons t u):=by
 intro pins s σ H vs us Q I r h
 obtain ⟨v,vr,e1,h⟩:=h
 subst e1
 cases r with
 | cons r rr =>
  rw [hs]
  refine assignInOrder_cons (thn (h1 pins s σ H _ _ _ I r h) fun _ s1 ⟨σ1,H1,I1,q1⟩=>?_)
  exact h2 pins s1 σ1 H1 _ _ Q I1 rr q1
noncomputable def gTup (K : PySem.W.Frag) (n : Nat) (t : TGs) : TG:=fun v σ H Q=>∃ a xs,v = .ref a∧SqT K H a xs∧xs.length = n∧t xs σ H Q
theorem pg_tup {es : List Expr} {k : Nat} {t : TGs} {n : Nat} (hc : X.calm = true) (h : PGs X es t)
  (hn : (assignEach es X.env).length = n:=by rfl) (hst : (assignEach es X.env).findIdx? (·.1) = none:=by rfl) : PG X (.Tuple es k pos) (gTup X.K n t):=by
 intro pins s σ H v u Q I r hw
 obtain ⟨a,xs,e1,hq,hl,hw⟩:=hw
 subst e1
 cases r
 obtain ⟨its,rv,ht,hz⟩:=I.tuple hq
 refine assign_Tuple_tuple (I.ok.hd hc) ht (by simp [hn,← hl,rv.length]) hst fun h' hx=>?_
 have I1 : Inv X pins σ H { s with heap:=h' }:=I.kept (t':=s.toks) fun b o e=>hx b o (Nat.ne_of_lt (Heap.lt_size e)) e
 exact h pins _ σ H xs _ Q I1 (by simpa using rv) hw
noncomputable def gSub (to ti : TE) (t : TSet) : TG:=fun v σ H Q=>to σ H fun o H1=>ti σ H1 fun i H2=>t o i v H2 fun H3=>Q σ H3
theorem jlz {o i : Expr} {to ti : TE} {t : TSet} (ho : PE X o to) (hi : PE X i ti) (hs : PSet X t)
  (ha : ∀ v,assign (.Subscript o i pos) X.env v = (do
   let ov ← holding [v] (eval o X.env)
   let iv ← holding [v,ov] (eval i X.env)
   standAt pos
   holding [v,ov,iv] (setItem ov iv v)
   release [v,ov,iv] []):=by intro _; rfl) : PG X (.Subscript o i pos) (gSub to ti t):=by
 intro pins s σ H v u Q I r h
 rw [ha]
 refine wpAny_bind (wpAny_holding (thn (ho pins s σ H _ I h) fun ov s1 ⟨x,H1,I1,r1,q1⟩=>?_))
 refine wpAny_bind (wpAny_holding (thn (hi pins s1 σ H1 _ I1 q1) fun iv s2 ⟨y,H2,I2,r2,q2⟩=>?_))
 refine wpAny_bind (wpAny_standAt (wpAny_bind (wpAny_holding (thn (hs pins s2 σ H2 x y v ov iv u _ I2 r1 r2 r q2) fun _ s3 ⟨H3,I3,q3⟩=>?_))))
 exact wpAny_release ⟨σ,H3,I3,q3⟩
noncomputable def tAsg (te : TE) (g : TG) : TS:=fun D σ H=>te σ H fun x H1=>g x σ H1 D.nx
theorem jhh {tg e : Expr} {te : TE} {g : TG} (he : PE X e te) (hg : PG X tg g) (hs : swapsWithSole [tg] e pos.line X.env = pure false:=by rfl) (hw : swappedStores [tg] e X.env = pure none:=by rfl)
  (h1 : (assignEach [tg] X.env).map (·.2) = [assign tg X.env]:=by rfl) : PS X (.Assign [tg] e pos) (tAsg te g):=by
 intro pins s σ H D I h
 refine wpAny_Assign_stores (thn (he pins s σ H _ I h) fun v s1 ⟨x,H1,I1,r1,q1⟩=>?_) hs hw
 rw [h1]
 exact thn (hg pins s1 σ H1 x v _ I1 r1 q1) fun _ s2 q=>q
theorem jah {i : Nat} {x : Str} {e : Expr} {te : TE} {pos' : Pos} (hN : X.N.Nodup) (hi : X.N[i]? = some x) (hx : Loc X.env.scope x) (he : PE X e te) (hs : swapsWith e (some (.Name x pos')) pos.line X.env = pure false:=by rfl) (hf : X.fn x = true ∨ X.env.scope.names.lookup x = some .local:=by first | exact .inl rfl | exact .inr rfl | assumption) :
  PS X (.Assign [.Name x pos'] e pos) (tAsg te (jf3 i)):=by
 intro pins s σ H D I h
 refine wpAny_Assign_Name (thn (he pins s σ H _ I h) fun v s1 ⟨y,H1,I1,r1,q1⟩=>?_) hs
 exact jfn I1 hN hi hx r1 (fun s2 I2=>⟨_,H1,I2,q1⟩) hf
noncomputable def tAug (i : Nat) (te : TE) (ti : TIp) : TS:=fun D σ H=>∃ x,σ[i]? = some (some x)∧te σ H fun y H1=>ti x y H1 fun z H2=>D.nx (σ.set i (some z)) H2
theorem ps_aug {i : Nat} {x : Str} {e : Expr} {te : TE} {op : Operator} {ti : TIp} {pos' : Pos} (hN : X.N.Nodup) (hi : X.N[i]? = some x) (hx : Loc X.env.scope x) (he : PE X e te) (ho : PIp X op ti) (hf : X.fn x = true ∨ X.env.scope.names.lookup x = some .local:=by first | exact .inl rfl | exact .inr rfl | assumption) :
  PS X (.AugAssign (.Name x pos') op e pos) (tAug i te ti):=by
 intro pins s σ H D I h
 obtain ⟨v,e1,h⟩:=h
 obtain ⟨m,hn,hl⟩:=I.loc
 have vis : Vis X.env.scope x:=by rcases hx with k | k; exact .inl k; exact .inr (.inl k)
 obtain ⟨u,r,l⟩:=hl i x v hi e1 vis
 refine wpAny_AugAssign_Name ?_
 have go : wpAny (model X.prog X.w) X.A (eval e X.env) (fun w s₂=>wpAny (model X.prog X.w) X.A (inplaceOp op u w) (fun r s₃=>wpAny (model X.prog X.w) X.A (storeName X.env x r) (fun _=>SP X pins D .next) X.xe s₃) X.xe s₂) X.xe s:=by
  refine thn (he pins s σ H _ I h) fun w s1 ⟨y,H1,I1,r1,q1⟩=>?_
  refine thn (ho pins s1 σ H1 v y u w _ I1 r r1 q1) fun z s2 ⟨zv,H2,I2,r2,q2⟩=>?_
  exact jfn I2 hN hi hx r2 (fun s3 I3=>⟨_,H2,I3,q2⟩) hf
 rcases l with ⟨hk,hm⟩ | ⟨hk,c,hc,hcell⟩
 ·exact wpAny_loadName_local I.ok.kind hk hn hm go
 ·rcases hk with hk | hk
  ·exact wpAny_loadName_cell I.ok.kind hk hc hcell go
  ·rcases hx with k | k
   ·have : X.env.scope.names.lookup x = some .free:=hk
    rw [k] at this; cases this
   ·have : X.env.scope.names.lookup x = some .free:=hk
    rw [k] at this; cases this
end
section
variable {X : Cx} {pos : Pos}
end
structure It where
 go : Nat→Hp→Prop
 yld : Nat→Hp→V→Hp→Prop
 stop : Nat→Hp→Prop
noncomputable def FpOk (X : Cx) (pins : List (Addr × Obj)) (H : Hp) (b : Addr) : Prop :=
 H b = none∧b ≠ X.env.locals∧b ∉ X.fs∧(b ∈ X.ex ∨ X.s₀.heap.objs.size ≤ b)∧(∀ x c,X.env.cells.lookup x = some c→c ≠ b)∧∀ p ∈ X.pn ++ pins,p.1 ≠ b
theorem Inv.fpOk {X : Cx} {pins : List (Addr × Obj)} {σ : St} {H H' : Hp} {s : Shared} {b : Addr} (I : Inv X pins σ H s) (hb : s.heap.objs.size ≤ b) (hn : H' b = none) : FpOk X pins H' b:=by
 refine ⟨hn,Nat.ne_of_gt (Nat.lt_of_lt_of_le I.lt hb),I.nofs hb,.inr (Nat.le_trans I.sz hb),fun x c e z=>?_,fun p hp z=>?_⟩
 ·obtain ⟨v,q⟩:=I.cell x c e
  exact absurd (Nat.lt_of_lt_of_le q.lt (by rw [z]; exact hb)) (Nat.lt_irrefl _)
 ·exact absurd (Nat.lt_of_lt_of_le (Heap.lt_size (I.pin p hp).1) (by rw [z]; exact hb)) (Nat.lt_irrefl _)
structure Turn (P : Program) (w : World) (K : PySem.W.Frag) (tg : Expr) (J : It) (fp : List Addr) (it : Addr) (tn : Nat→Heap→Prop) : Prop where
 mem : it ∈ fp
 obj : ∀ i h,tn i h→∀ b ∈ fp,∃ o,h.get? b = some o∧∀ v,o.data ≠ .cell v
 keep : ∀ i h h',tn i h→(∀ b ∈ fp,∀ o,h.get? b = some o→h'.get? b = some o)→tn i h'
 item : ∀ (X : Cx),X.prog = P→X.w = w→X.K = K→X.calm = true→∀ (i : Nat) (pins : List (Addr × Obj)) (s : Shared) (σ : St) (H : Hp) (E : Value→Shared→Prop),Inv X pins σ H s→(∀ b ∈ fp,FpOk X pins H b)→tn i s.heap→J.go i H →
  wpAny (model P w) X.A (pyNext (.ref it)) (fun r s1=>∃ u,r = some u ∧
   wpAny (model P w) X.A (letOwnedTupleGo tg (.ref it) u) (fun _ s2=>∃ x H',Inv X pins σ H' s2∧RelV x u∧J.yld i H x H'∧tn (i + 1) s2.heap∧∀ b ∈ fp,H' b = none) E s1) E s
 done : ∀ (X : Cx),X.prog = P→X.w = w→X.K = K→X.calm = true→∀ (i : Nat) (pins : List (Addr × Obj)) (s : Shared) (σ : St) (H : Hp) (E : Value→Shared→Prop),Inv X pins σ H s→(∀ b ∈ fp,FpOk X pins H b)→tn i s.heap→J.stop i H →
  wpAny (model P w) X.A (pyNext (.ref it)) (fun r s1=>r = none∧Inv X pins σ H s1) E s
 self : ∀ (A : Around) (i : Nat) (s : Shared) (Q : Value→Shared→Prop) (E : Value→Shared→Prop),tn i s.heap→Q (.ref it) s→wpAny (model P w) A (pyIter (.ref it)) Q E s
noncomputable abbrev TI:=St→Hp→(It→Hp→Prop)→Prop
noncomputable def PIE (X : Cx) (pins : List (Addr × Obj)) (σ : St) (tg : Expr) (R : It→Hp→Prop) (itv : Value) (s2 : Shared) : Prop :=
 ∃ (it : Addr) (fp : List Addr) (tn : Nat→Heap→Prop) (J : It) (H' : Hp),itv = .ref it∧Inv X pins σ H' s2∧Turn X.prog X.w X.K tg J fp it tn∧tn 0 s2.heap∧(∀ b ∈ fp,FpOk X pins H' b)∧R J H'
noncomputable def PI (X : Cx) (tg iter : Expr) (wi : TI) : Prop :=
 ∀ (pins : List (Addr × Obj)) (s : Shared) (σ : St) (H : Hp) (R : It→Hp→Prop),Inv X pins σ H s→wi σ H R →
  wpAny (model X.prog X.w) X.A (eval iter X.env) (fun v s1=>wpAny (model X.prog X.w) X.A (pyIter v) (PIE X pins σ tg R) X.xe s1) X.xe s
theorem go_of {M : Model} {A : Around} {E : Value→Shared→Prop} {s : Shared} {tg : Expr} {it : Addr} {u : Value} {o : Obj} {n : String} {vs : Array Value} {Q : Unit→Shared→Prop} (ho : s.heap.get? it = some o) (hc : o.cls = .type n) (hd : o.data = .fields vs)
    (hn : ["enumerate","zip","dict_itemiterator","dict_reverseitemiterator","odict_iterator","itertools.zip_longest","itertools.pairwise"].contains n = false) (hQ : Q () s) : wpAny M A (letOwnedTupleGo tg (.ref it) u) Q E s:=by
  unfold letOwnedTupleGo
  cases tg <;> first
    | exact wpAny_pure hQ
    | (cases u <;> first
        | exact wpAny_pure hQ
        | (refine wpAny_bind (wpAny_load ho ?_)
           rw [hc,hd]
           show wpAny M A (if (["enumerate","zip","dict_itemiterator","dict_reverseitemiterator","odict_iterator","itertools.zip_longest","itertools.pairwise"].contains n && vs[0]? == some (rawInt _)) = true then _ else _) Q E s
           rw [if_neg (by intro h; rw [hn,Bool.false_and] at h; cases h)]
           exact wpAny_pure hQ))
noncomputable def Itl (K : PySem.W.Frag) (a : Addr) : It :=
 ⟨fun i H=>∃ xs x,SqL K H a xs∧xs[i]? = some x,fun i H x H'=>H' = H∧∀ xs,SqL K H a xs→xs[i]? = some x,fun i H=>∃ xs,SqL K H a xs∧xs.length ≤ i⟩
noncomputable def Itr (lo : Int) (n : Nat) : It:=⟨fun i _=>i < n,fun i H x H'=>H' = H∧x = .int (lo + i),fun i _=>n ≤ i⟩
theorem jnb {P : Program} {w : World} {K : PySem.W.Frag} {tg : Expr} (a it : Addr) : Turn P w K tg (Itl K a) [it] it (fun i h=>h.IsListIter it a i) where
 mem:=by simp
 obj:=fun i h st b hb=>by
  have e : b = it:=by simpa using hb
  subst e
  obtain ⟨o,e,c,d⟩:=st
  exact ⟨o,e,fun v z=>by rw [d] at z; cases z⟩
 keep:=fun i h h' st k=>st.at fun o e=>k it (by simp) o e
 item:=by
  intro X hP hw hK hc i pins s σ H E I hf st hg
  subst hP hw hK
  obtain ⟨xs,x,hq,hx⟩:=hg
  obtain ⟨its,rv,p,hz⟩:=I.list hq
  obtain ⟨u,hu,ru⟩:=rv.get hx
  obtain ⟨f0,f1,f2,f3,f4,f5⟩:=hf it (by simp)
  refine wpAny_pyNext_list_item st p.isList (x:=u) (by simpa using hu) fun h' st' sb=>?_
  have I1 : Inv X pins σ H { s with heap:=h' }:=I.turned (t':=s.toks) (fun b o hb e=>(sb.2 b hb).trans e) f0 f1 f3 f4 f5
  obtain ⟨o,e,c,d⟩:=id st'
  exact ⟨u,rfl,go_of (s:={ s with heap:=h' }) e c d (by decide) ⟨x,H,I1,ru,⟨rfl,fun ys hy=>by rw [I.list_inj hy hq]; exact hx⟩,st',fun b hb=>(hf b hb).1⟩⟩
 done:=by
  intro X hP hw hK hc i pins s σ H E I hf st hg
  subst hP hw hK
  obtain ⟨xs,hq,hx⟩:=hg
  obtain ⟨its,rv,p,hz⟩:=I.list hq
  obtain ⟨f0,f1,f2,f3,f4,f5⟩:=hf it (by simp)
  have hl:=rv.length
  exact wpAny_pyNext_list_end (I.ok.hd hc) st p.isList (by simp; omega) fun h' eb=>⟨rfl,I.turned (t':=s.toks) (fun b o hb e=>eb b o hb e) f0 f1 f3 f4 f5⟩
 self:=fun _ _ _ _ _ st h=>wpAny_pyIter_listiter st h
theorem jme {P : Program} {w : World} {K : PySem.W.Frag} {tg : Expr} (it : Addr) (lo : Int) (n : Nat) : Turn P w K tg (Itr lo n) [it] it (fun i h=>IsRangeIter h it (lo + (i : Nat) * 1) ((n : Int) - (i : Nat)) 1) where
 mem:=by simp
 obj:=fun i h st b hb=>by
  have e : b = it:=by simpa using hb
  subst e
  exact ⟨_,st,fun v z=>by
   have z' : Data.fields _ = Data.cell v:=z
   cases z'⟩
 keep:=fun i h h' st k=>k it (by simp) _ st
 item:=by
  intro X hP hw hK hc i pins s σ H E I hf st hg
  subst hP hw hK
  obtain ⟨f0,f1,f2,f3,f4,f5⟩:=hf it (by simp)
  have W:=Walks.range (prog:=X.prog) (w:=X.w) (I.ok.hd hc) it lo 1 n
  refine W.item i s _ _ hg st fun v h' tk hv st' kk=>?_
  obtain ⟨t,rfl⟩:=hv
  have I1 : Inv X pins σ H { s with heap:=h',toks:=tk }:=I.turned (fun b o hb e=>kk b o (by simpa using hb) e) f0 f1 f3 f4 f5
  refine ⟨_,rfl,go_of (s:={ s with heap:=h',toks:=tk }) (n:="range_iterator") st' rfl rfl (by decide) ⟨.int (lo + i),H,I1,⟨t,?_⟩,⟨rfl,rfl⟩,st',fun b hb=>(hf b hb).1⟩⟩
  rw [Int.mul_one]
 done:=by
  intro X hP hw hK hc i pins s σ H E I hf st hg
  subst hP hw hK
  obtain ⟨f0,f1,f2,f3,f4,f5⟩:=hf it (by simp)
  exact wpAny_pyNext_range_end (I.ok.hd hc) st (by have : n ≤ i:=hg; omega) fun h' eb=>⟨rfl,I.turned (t':=s.toks) (fun b o hb e=>eb b o hb e) f0 f1 f3 f4 f5⟩
 self:=fun _ _ _ _ _ st h=>wpAny_pyIter_rangeiter st h
end L2
namespace L2
open PySem PySem.Spec PyProof.Rows
section
variable {X : Cx} {tg : Expr}
noncomputable def jcr (K : PySem.W.Frag) (tl : TE) : TI:=fun σ H R=>tl σ H fun x H1=>∃ a,x = .ref a∧(∃ xs,SqL K H1 a xs)∧R (Itl K a) H1
theorem jb5 {l : Expr} {tl : TE} (hl : PE X l tl) : PI X tg l (jcr X.K tl):=by
 intro pins s σ H R I h
 refine thn (hl pins s σ H _ I h) fun v s1 ⟨x,H1,I1,r1,q1⟩=>?_
 obtain ⟨a,e,⟨xs,hq⟩,q⟩:=q1
 subst e
 cases r1
 obtain ⟨its,rv,p,hz⟩:=I1.list hq
 refine wpAny_pyIter_list p.isList ?_
 refine ⟨s1.heap.objs.size,[s1.heap.objs.size],_,_,H1,rfl,I1.kept (t':=s1.toks) fun b o e=>Heap.get?_push_of_some _ e,jnb a _,⟨_,Heap.get?_push_size _ rfl,rfl,rfl⟩,fun b hb=>?_,q⟩
 have e : b = s1.heap.objs.size:=by simpa using hb
 subst e
 exact I1.fpOk (Nat.le_refl _) (I1.hok.fresh (Nat.le_refl _))
theorem jlv {pins : List (Addr × Obj)} {σ : St} {H : Hp} {s : Shared} {R : It→Hp→Prop} {E : Value→Shared→Prop} {lo hi : Int} {t u v : Tok} {tk : Nat} (I : Inv X pins σ H s) (h1 : -(2 ^ 62) ≤ lo) (h2 : lo < 2 ^ 62) (h3 : -(2 ^ 62) ≤ hi) (h4 : hi < 2 ^ 62)
  (q : R (Itr lo (hi - lo).toNat) H) : wpAny (model X.prog X.w) X.A (pyIter (.ref s.heap.objs.size)) (PIE X pins σ tg R) E { s with heap:=s.heap.push { cls:=.type "range",data:=.fields #[.int lo t,.int hi u,.int 1 v] },toks:=tk }:=by
 refine wpAny_pyIter_range (IsRange.new ..) (small_one h1 h2 h3 h4) ?_
 have I1 : Inv X pins σ H { s with heap:=s.heap.push { cls:=.type "range",data:=.fields #[.int lo t,.int hi u,.int 1 v] },toks:=tk }:=I.kept fun b o e=>Heap.get?_push_of_some _ e
 refine ⟨(s.heap.push { cls:=.type "range",data:=.fields #[.int lo t,.int hi u,.int 1 v] }).objs.size,[(s.heap.push { cls:=.type "range",data:=.fields #[.int lo t,.int hi u,.int 1 v] }).objs.size],_,_,H,rfl,
  I1.kept (t':=tk) fun b o e=>Heap.get?_push_of_some _ e,jme _ lo (hi - lo).toNat,?_,fun b hb=>?_,q⟩
 ·have e1 : lo + ((0 : Nat) : Int) * 1 = lo:=by simp
  have e2 : (((hi - lo).toNat : Nat) : Int) - ((0 : Nat) : Int) = Builtin.Range.rangeSize lo hi 1:=by rw [rangeSize_one]; split <;> omega
  show IsRangeIter _ _ (lo + ((0 : Nat) : Int) * 1) ((((hi - lo).toNat : Nat) : Int) - ((0 : Nat) : Int)) 1
  rw [e1,e2]
  exact Heap.get?_push_size _ rfl
 ·have e : b = (s.heap.push { cls:=.type "range",data:=.fields #[.int lo t,.int hi u,.int 1 v] }).objs.size:=by simpa using hb
  subst e
  exact I1.fpOk (Nat.le_refl _) (I1.hok.fresh (Nat.le_refl _))
noncomputable def jmy (ta : TA) : TI:=fun σ H R=>ta σ H fun vs H1=>∃ j : Int,vs = [.int j]∧-(2 ^ 62) ≤ j∧j < 2 ^ 62∧R (Itr 0 j.toNat) H1
noncomputable def iRng2 (ta : TA) : TI:=fun σ H R=>ta σ H fun vs H1=>∃ i j : Int,vs = [.int i,.int j]∧(-(2 ^ 62) ≤ i∧i < 2 ^ 62∧-(2 ^ 62) ≤ j∧j < 2 ^ 62)∧R (Itr i (j - i).toNat) H1
theorem jco {a : Expr} {ta : TA} {p pos : Pos} (hg : Gl X "range") (hm : X.mg "range" = none) (ha : PA X [a] ta) (hs : starEach [a] X.env = [(false,eval a X.env)]:=by rfl) : PI X tg (.Call (.Name "range" p) [a] [] pos) (jmy ta):=by
 intro pins s σ H R I h
 refine Call_ (jfc I hg hm boot_range (PyProof.Rows.callWith_type1 (thn (ha pos pins s σ H _ I h) fun us s1 ⟨vs,H1,I1,r1,q1⟩=>?_) hs rfl))
 obtain ⟨j,e,q1,q2,q⟩:=q1
 subst e
 cases r1 with
 | cons r rr =>
  cases rr
  obtain ⟨t,rfl⟩:=r
  exact call_range_1 (jlv I1 (by omega) (by omega) q1 q2 (by simpa using q))
theorem jo1 {a b : Expr} {ta : TA} {p pos : Pos} (hg : Gl X "range") (hm : X.mg "range" = none) (ha : PA X [a,b] ta) (hs : starEach [a,b] X.env = [(false,eval a X.env),(false,eval b X.env)]:=by rfl) (hs2 : starEach [b] X.env = [(false,eval b X.env)]:=by rfl) :
  PI X tg (.Call (.Name "range" p) [a,b] [] pos) (iRng2 ta):=by
 intro pins s σ H R I h
 refine Call_ (jfc I hg hm boot_range (PyProof.Rows.callWith_type1 (thn (ha pos pins s σ H _ I h) fun us s1 ⟨vs,H1,I1,r1,q1⟩=>?_) (by rw [hs,hs2]) (by rw [hs2]; rfl)))
 obtain ⟨i,j,e,⟨q1,q2,q3,q4⟩,q⟩:=q1
 subst e
 cases r1 with
 | cons r rr =>
  cases rr with
  | cons r' rr =>
   cases rr
   obtain ⟨t,rfl⟩:=r
   obtain ⟨t',rfl⟩:=r'
   exact call_range_2 (jlv I1 q1 q2 q3 q4 q)
noncomputable def tFor (wi : TI) (g : TG) (tb : TS) : TS:=fun D σ H=>wi σ H fun J H1=>∃ W : Nat→Nat→St→Hp→Prop,(∃ m,W 0 m σ H1)∧∀ i m σ H,W i m σ H →
 (J.stop i H∧D.nx σ H) ∨ (J.go i H∧∃ N : St→Hp→Prop,(∀ σ' H',N σ' H'→∃ m',m' < m∧W (i + 1) m' σ' H')∧∀ x H',J.yld i H x H'→g x σ H' fun σ2 H2=>tb { D with nx:=N,ct:=N,bk:=D.nx } σ2 H2)
noncomputable def jjn (fp : List Addr) (h : Heap) : List (Addr × Obj):=fp.filterMap fun b=>(h.get? b).map fun o=>(b,o)
theorem jdl {fp : List Addr} {h : Heap} {b : Addr} {o : Obj} (hb : b ∈ fp) (e : h.get? b = some o) : (b,o) ∈ jjn fp h:=List.mem_filterMap.mpr ⟨b,hb,by rw [e]; rfl⟩
theorem joa {fp : List Addr} {h : Heap} {p : Addr × Obj} (hp : p ∈ jjn fp h) : p.1 ∈ fp∧h.get? p.1 = some p.2:=by
 obtain ⟨b,hb,e⟩:=List.mem_filterMap.mp hp
 cases q : h.get? b with
 | none=>rw [q] at e; cases e
 | some o =>
  rw [q] at e
  have e' : (b,o) = p:=Option.some.inj e
  subst e'
  exact ⟨hb,q⟩
theorem Inv.pinned {pins : List (Addr × Obj)} {σ : St} {H : Hp} {s : Shared} {fp : List Addr} (I : Inv X pins σ H s) (hf : ∀ b ∈ fp,FpOk X pins H b) (ho : ∀ b ∈ fp,∃ o,s.heap.get? b = some o∧∀ v,o.data ≠ .cell v) : Inv X (pins ++ jjn fp s.heap) σ H s :=
 I.pins_of fun p hp=>(List.mem_append.mp hp).elim (fun z=>I.pin p (List.mem_append_right _ z)) fun z=>by
  obtain ⟨hb,e⟩:=joa z
  obtain ⟨f0,f1,f2,_⟩:=hf p.1 hb
  obtain ⟨o,e',d⟩:=ho p.1 hb
  rw [e] at e'; cases e'
  exact ⟨e,f0,f1,f2,d⟩
theorem Inv.unpinned {pins pl : List (Addr × Obj)} {σ : St} {H : Hp} {s : Shared} (I : Inv X (pins ++ pl) σ H s) : Inv X pins σ H s:=I.pins_of fun p hp=>I.pin p (List.mem_append_right _ (List.mem_append_left _ hp))
theorem jbi {iter : Expr} {body : List Stmt} {wi : TI} {g : TG} {tb : TS} {pos : Pos} (hp : PassesOwn (model X.prog X.w) X.A X.env X.xe) (hc : X.calm = true) (hi : PI X tg iter wi) (hg : PG X tg g) (hb : PSs X body tb)
  (hs : ∀ x,foldedSetIterable iter X.env x = pure x:=by intro _; rfl) : PS X (.For tg iter body [] pos) (tFor wi g tb):=by
 intro pins s σ H D I h
 refine wpAny_For (thn (hi pins s σ H _ I h) fun v s1 h1=>thn h1 fun itv s2 h2=>?_) hs
 obtain ⟨it,fp,tn,J,H2,e,I2,T,st2,f2,W,⟨m0,w0⟩,turn⟩:=h2
 subst e
  -- what stays true of the iterator's objects through the loop
 have stat : ∀ {H' : Hp},(∀ b ∈ fp,H' b = none)→∀ b ∈ fp,FpOk X pins H' b:=fun hn b hb=>⟨hn b hb,(f2 b hb).2⟩
 refine codeAny_forLoop_any (fun n s'=>∃ i σ' H',Inv X pins σ' H' s'∧tn i s'.heap∧(∀ b ∈ fp,H' b = none)∧W i n σ' H') ?_ m0 ⟨0,σ,H2,I2,st2,fun b hb=>(f2 b hb).1,w0⟩
 rintro n s3 ⟨i,σ3,H3,I3,st3,fr3,w3⟩
 rcases turn i n σ3 H3 w3 with ⟨stop,qn⟩ | ⟨go,N,hN,step⟩
 ·refine wpAny_passesOwn hp (thn (T.done X rfl rfl rfl hc i pins s3 σ3 H3 X.xe I3 (stat fr3) st3 stop) fun r s4 ⟨hr,I4⟩=>?_)
  subst hr
  exact wpAny_execs_nil ⟨σ3,H3,I4,qn⟩
 ·refine wpAny_passesOwn hp (thn (T.item X rfl rfl rfl hc i pins s3 σ3 H3 X.xe I3 (stat fr3) st3 go) fun r s4 ⟨u,hr,h4⟩=>?_)
  subst hr
  refine wpAny_passesOwn hp (thn h4 fun _ s5 ⟨x,H5,I5,r5,y5,st5,fr5⟩=>?_)
  have I5':=I5.pinned (stat fr5) (T.obj _ _ st5)
  refine wpAny_passesOwn hp (thn (hg _ s5 σ3 H5 x u _ I5' r5 (step x H5 y5)) fun _ s6 ⟨σ6,H6,I6,q6⟩=>?_)
  refine wpAny_passesOwn hp (thn (hb _ s6 σ6 H6 _ I6 q6) fun f s7 q7=>?_)
  have again : ∀ {σ7 : St} {H7 : Hp},Inv X (pins ++ jjn fp s5.heap) σ7 H7 s7→N σ7 H7→∃ m,m < n∧∃ i σ' H',Inv X pins σ' H' s7∧tn i s7.heap∧(∀ b ∈ fp,H' b = none)∧W i m σ' H':=fun {σ7 H7} I7 n7=>by
   obtain ⟨m',hm,w7⟩:=hN σ7 H7 n7
   refine ⟨m',hm,i + 1,σ7,H7,I7.unpinned,T.keep _ _ _ st5 fun b hb o e=>(I7.pin (b,o) (List.mem_append_right _ (List.mem_append_right _ (jdl hb e)))).1,fun b hb=>?_,w7⟩
   obtain ⟨o,e,d⟩:=T.obj _ _ st5 b hb
   exact (I7.pin (b,o) (List.mem_append_right _ (List.mem_append_right _ (jdl hb e)))).2.1
  cases f with
  | next=>obtain ⟨σ7,H7,I7,n7⟩:=q7; exact again I7 n7
  | cont=>obtain ⟨σ7,H7,I7,n7⟩:=q7; exact again I7 n7
  | brk=>obtain ⟨σ7,H7,I7,q7⟩:=q7; exact ⟨σ7,H7,I7.unpinned,q7⟩
  | ret v=>obtain ⟨x7,σ7,H7,I7,r7,q7⟩:=q7; exact ⟨x7,σ7,H7,I7.unpinned,r7,q7⟩
end
theorem jbe {K : PySem.W.Frag} {a : Addr} {xs : List V} {g : TG} {tb : TS} {D : Ends} {σ : St} {H : Hp} (Pv : Nat→St→Hp→Prop) (h0 : Pv 0 σ H) (hl : ∀ i σ H,i ≤ xs.length→Pv i σ H→SqL K H a xs)
  (hs : ∀ i x σ H,xs[i]? = some x→Pv i σ H→g x σ H fun σ2 H2=>tb { D with nx:=Pv (i + 1),ct:=Pv (i + 1),bk:=D.nx } σ2 H2) (hd : ∀ σ H,Pv xs.length σ H→D.nx σ H) :
  ∃ W : Nat→Nat→St→Hp→Prop,(∃ m,W 0 m σ H)∧∀ i m σ H,W i m σ H →
   ((Itl K a).stop i H∧D.nx σ H) ∨ ((Itl K a).go i H∧∃ N : St→Hp→Prop,(∀ σ' H',N σ' H'→∃ m',m' < m∧W (i + 1) m' σ' H')∧∀ x H',(Itl K a).yld i H x H'→g x σ H' fun σ2 H2=>tb { D with nx:=N,ct:=N,bk:=D.nx } σ2 H2):=by
 refine ⟨fun i m σ H=>m = xs.length - i∧i ≤ xs.length∧Pv i σ H,⟨xs.length,by simp,Nat.zero_le _,h0⟩,?_⟩
 rintro i m σ H ⟨rfl,hi,p⟩
 have q:=hl i σ H hi p
 by_cases hlt : i < xs.length
 ·refine .inr ⟨⟨xs,xs[i],q,by simp [hlt]⟩,Pv (i + 1),fun σ' H' p'=>⟨xs.length - (i + 1),by omega,rfl,hlt,p'⟩,fun x H' y=>?_⟩
  obtain ⟨e,y⟩:=y
  subst e
  exact hs i x σ _ (y xs q) p
 ·have e : i = xs.length:=by omega
  subst e
  exact .inl ⟨⟨xs,q,Nat.le_refl _⟩,hd σ H p⟩
theorem jcc {lo : Int} {n : Nat} {g : TG} {tb : TS} {D : Ends} {σ : St} {H : Hp} (Pv : Nat→St→Hp→Prop) (h0 : Pv 0 σ H)
  (hs : ∀ i σ H,i < n→Pv i σ H→g (.int (lo + i)) σ H fun σ2 H2=>tb { D with nx:=Pv (i + 1),ct:=Pv (i + 1),bk:=D.nx } σ2 H2) (hd : ∀ σ H,Pv n σ H→D.nx σ H) :
  ∃ W : Nat→Nat→St→Hp→Prop,(∃ m,W 0 m σ H)∧∀ i m σ H,W i m σ H →
   ((Itr lo n).stop i H∧D.nx σ H) ∨ ((Itr lo n).go i H∧∃ N : St→Hp→Prop,(∀ σ' H',N σ' H'→∃ m',m' < m∧W (i + 1) m' σ' H')∧∀ x H',(Itr lo n).yld i H x H'→g x σ H' fun σ2 H2=>tb { D with nx:=N,ct:=N,bk:=D.nx } σ2 H2):=by
 refine ⟨fun i m σ H=>m = n - i∧i ≤ n∧Pv i σ H,⟨n,by simp,Nat.zero_le _,h0⟩,?_⟩
 rintro i m σ H ⟨rfl,hi,p⟩
 by_cases hlt : i < n
 ·refine .inr ⟨hlt,Pv (i + 1),fun σ' H' p'=>⟨n - (i + 1),by omega,rfl,hlt,p'⟩,fun x H' y=>?_⟩
  obtain ⟨e,y⟩:=y
  subst e y
  exact hs i σ _ hlt p
 ·have e : i = n:=by omega
  subst e
  exact .inl ⟨Nat.le_refl _,hd σ H p⟩
end L2
namespace L2
open PySem PySem.Spec PyProof.Rows
noncomputable abbrev R2:=V→V→Hp→VK→Prop
noncomputable def OpR (X : Cx) (f : Value→Value→Sem Value) (r : R2) : Prop :=
 ∀ (pins : List (Addr × Obj)) (s : Shared) (σ : St) (H : Hp) (x y : V) (v u : Value) (Q : VK),Inv X pins σ H s→RelV x v→RelV y u→r x y H Q →
  wpAny (model X.prog X.w) X.A (f v u) (EP X pins σ Q) X.xe s
noncomputable def UnR (X : Cx) (f : Value→Sem Value) (r : V→Hp→VK→Prop) : Prop :=
 ∀ (pins : List (Addr × Obj)) (s : Shared) (σ : St) (H : Hp) (x : V) (v : Value) (Q : VK),Inv X pins σ H s→RelV x v→r x H Q →
  wpAny (model X.prog X.w) X.A (f v) (EP X pins σ Q) X.xe s
noncomputable def jbu (X : Cx) (f : Value) (r : List V→Hp→VK→Prop) : Prop :=
 ∀ (pins : List (Addr × Obj)) (s : Shared) (σ : St) (H : Hp) (xs : List V) (us : List Value) (Q : VK),Inv X pins σ H s→Vals xs us→r xs H Q →
  wpAny (model X.prog X.w) X.A (call f us) (EP X pins σ Q) X.xe s
noncomputable def tOp (r : R2) (ta tb : TE) : TE:=fun σ H Q=>ta σ H fun x H1=>tb σ H1 fun y H2=>r x y H2 Q
noncomputable def tUn (r : V→Hp→VK→Prop) (ta : TE) : TE:=fun σ H Q=>ta σ H fun x H1=>r x H1 Q
noncomputable def rI (C : Int→Int→Prop) (g : Int→Int→V) : R2:=fun x y H Q=>∃ i j,x = .int i∧y = .int j∧C i j∧Q (g i j) H
noncomputable def rI0 (g : Int→Int→V) : R2:=fun x y H Q=>∃ i j,x = .int i∧y = .int j∧Q (g i j) H
noncomputable def rU (g : Int→V) : V→Hp→VK→Prop:=fun x H Q=>∃ i,x = .int i∧Q (g i) H
section
variable {X : Cx} {a b c : Expr} {ta tb tc : TE} {pos : Pos}
theorem binT (ha : PE X a ta) (hb : PE X b tb) {pins : List (Addr × Obj)} {s : Shared} {σ : St} {H : Hp} {R : V→V→Hp→Prop} (I : Inv X pins σ H s)
  (h : ta σ H fun x H1=>tb σ H1 fun y H2=>R x y H2) {Q : Value→Shared→Prop} {f : Value→Value→Sem Value}
  (hf : ∀ v u s2 x y H2,Inv X pins σ H2 s2→RelV x v→RelV y u→R x y H2→wpAny (model X.prog X.w) X.A (f v u) Q X.xe s2) :
  wpAny (model X.prog X.w) X.A (eval a X.env) (fun v s₁=>wpAny (model X.prog X.w) X.A (eval b X.env) (fun u s₂=>wpAny (model X.prog X.w) X.A (f v u) Q X.xe s₂) X.xe s₁) X.xe s:=by
 refine thn (ha pins s σ H _ I h) fun v s1 ⟨x,H1,I1,r1,q1⟩=>?_
 refine thn (hb pins s1 σ H1 _ I1 q1) fun u s2 ⟨y,H2,I2,r2,q2⟩=>?_
 exact hf v u s2 x y H2 I2 r1 r2 q2
theorem jai {op : Operator} {r : R2} (ho : OpR X (binaryOp op) r) (ha : PE X a ta) (hb : PE X b tb) : PE X (.BinOp a op b pos) (tOp r ta tb):=by
 intro pins s σ H Q I h
 exact wpAny_BinOp (binT ha hb I h fun v u s2 x y H2 I2 rx ry q=>ho pins s2 σ H2 x y v u Q I2 rx ry q)
theorem jkm {op : UnaryOp} {r : V→Hp→VK→Prop} (ho : UnR X (unaryOp op) r) (ha : PE X a ta) : PE X (.UnaryOp op a pos) (tUn r ta):=by
 intro pins s σ H Q I h
 exact UnaryOp_ (thn (ha pins s σ H _ I h) fun v s1 ⟨x,H1,I1,r1,q1⟩=>ho pins s1 σ H1 x v Q I1 r1 q1)
theorem opI {f : Value→Value→Sem Value} {C : Int→Int→Prop} {g : Int→Int→Int}
  (rule : ∀ (i j : Int) (t u : Tok) (s : Shared) (Q : Value→Shared→Prop) (E : Value→Shared→Prop),C i j→Q (.int (g i j) s.toks) { s with toks:=s.toks + 1 }→wpAny (model X.prog X.w) X.A (f (.int i t) (.int j u)) Q E s) :
  OpR X f (rI C fun i j=>.int (g i j)):=by
 intro pins s σ H x y v u Q I rx ry h
 obtain ⟨i,j,rfl,rfl,hc,q⟩:=h
 obtain ⟨t,rfl⟩:=rx
 obtain ⟨t',rfl⟩:=ry
 exact rule i j t t' s _ _ hc ⟨.int (g i j),H,I.tok _,⟨_,rfl⟩,q⟩
theorem opI0 {f : Value→Value→Sem Value} {g : Int→Int→Int}
  (rule : ∀ (i j : Int) (t u : Tok) (s : Shared) (Q : Value→Shared→Prop) (E : Value→Shared→Prop),Q (.int (g i j) s.toks) { s with toks:=s.toks + 1 }→wpAny (model X.prog X.w) X.A (f (.int i t) (.int j u)) Q E s) :
  OpR X f (rI0 fun i j=>.int (g i j)):=by
 intro pins s σ H x y v u Q I rx ry h
 obtain ⟨i,j,rfl,rfl,q⟩:=h
 obtain ⟨t,rfl⟩:=rx
 obtain ⟨t',rfl⟩:=ry
 exact rule i j t t' s _ _ ⟨.int (g i j),H,I.tok _,⟨_,rfl⟩,q⟩
theorem opB0 {f : Value→Value→Sem Value} {g : Int→Int→Bool}
  (rule : ∀ (i j : Int) (t u : Tok) (s : Shared) (Q : Value→Shared→Prop) (E : Value→Shared→Prop),Q (.bool (g i j)) s→wpAny (model X.prog X.w) X.A (f (.int i t) (.int j u)) Q E s) :
  OpR X f (rI0 fun i j=>.bl (g i j)):=by
 intro pins s σ H x y v u Q I rx ry h
 obtain ⟨i,j,rfl,rfl,q⟩:=h
 obtain ⟨t,rfl⟩:=rx
 obtain ⟨t',rfl⟩:=ry
 exact rule i j t t' s _ _ ⟨.bl (g i j),H,I,rfl,q⟩
noncomputable def CDiv (i j : Int) : Prop:=0 < j∧j < 1073741824
noncomputable def CPow (i j : Int) : Prop:=0 ≤ j∧j ≤ 1000000∧i.natAbs < 2 ^ 64
noncomputable def CMul (i j : Int) : Prop:=(-(2 ^ 64) < i∧i < 2 ^ 64) ∨ (-(2 ^ 64) < j∧j < 2 ^ 64)
theorem CMul.ok {i j : Int} (h : CMul i j) : IntMulOk i j:=by
 rcases h with ⟨h1,h2⟩ | ⟨h1,h2⟩
 ·exact .of_left (intBits_le_64 h1 h2)
 ·exact .of_right (intBits_le_64 h1 h2)
theorem op_add : OpR X (binaryOp .Add) (rI0 fun i j=>.int (i + j)):=opI0 fun _ _ _ _ _ _ _ q=>add_int q
theorem op_sub : OpR X (binaryOp .Sub) (rI0 fun i j=>.int (i - j)):=opI0 fun _ _ _ _ _ _ _ q=>sub_int q
theorem op_mul : OpR X (binaryOp .Mult) (rI CMul fun i j=>.int (i * j)):=opI fun _ _ _ _ _ _ _ hc q=>mul_int q hc.ok
theorem jri : OpR X (binaryOp .FloorDiv) (rI CDiv fun i j=>.int (i / j)):=opI fun i j _ _ _ _ _ hc q=>by
 have h1 : (0 : Int) < j:=hc.1
 have h2 : j < 1073741824:=hc.2
 exact floordiv_int (by omega) (by rw [Int.fdiv_eq_ediv_of_nonneg i (by omega)]; exact q) (.inl (PyProof.noPylong_small (by omega)))
theorem op_mod : OpR X (binaryOp .Mod) (rI (fun _ j=>0 < j) fun i j=>.int (i % j)):=opI fun i j _ _ _ _ _ hc q=>by
 have h1 : (0 : Int) < j:=hc
 exact mod_int' (by omega) (by rw [Int.fmod_eq_emod_of_nonneg i (by omega)]; exact q)
theorem op_pow : OpR X (binaryOp .Pow) (rI CPow fun i j=>.int (i ^ j.toNat)):=opI fun _ _ _ _ _ _ _ hc q=>pow_int_small hc.1 hc.2.1 hc.2.2 q
theorem jrs : OpR X (inplaceOp .Add) (rI0 fun i j=>.int (i + j)):=opI0 fun _ _ _ _ _ _ _ q=>iadd_int q
theorem unI {f : Value→Sem Value} {g : Int→Int}
  (rule : ∀ (i : Int) (t : Tok) (s : Shared) (Q : Value→Shared→Prop) (E : Value→Shared→Prop),Q (.int (g i) s.toks) { s with toks:=s.toks + 1 }→wpAny (model X.prog X.w) X.A (f (.int i t)) Q E s) :
  UnR X f (rU fun i=>.int (g i)):=by
 intro pins s σ H x v Q I rx h
 obtain ⟨i,rfl,q⟩:=h
 obtain ⟨t,rfl⟩:=rx
 exact rule i t s _ _ ⟨.int (g i),H,I.tok _,⟨_,rfl⟩,q⟩
theorem un_neg : UnR X (unaryOp .USub) (rU fun i=>.int (-i)):=unI fun _ _ _ _ _ q=>neg_int q
end
noncomputable def scal : V→V→Bool
 | .non,.non=>true | .non,.int _=>true | .int _,.non=>true | .non,.bl _=>true | .bl _,.non=>true | .non,.str _=>true | .str _,.non=>true
 | .int _,.int _=>true | .bl _,.bl _=>true | .str _,.str _=>true | .byt _,.byt _=>true
 | .int _,.str _=>true | .str _,.int _=>true | .bl _,.str _=>true | .str _,.bl _=>true
 | _,_=>false
noncomputable def rEq : R2:=fun x y H Q=>scal x y = true∧Q (.bl (decide (x = y))) H
noncomputable def rNe : R2:=fun x y H Q=>scal x y = true∧Q (.bl (!decide (x = y))) H
theorem jp1 {i j : Int} : decide (V.int i = V.int j) = (i == j):=by
 rw [Bool.eq_iff_iff]
 simp
theorem jr1 {i j : Bool} : decide (V.bl i = V.bl j) = (i == j):=by
 rw [Bool.eq_iff_iff]
 simp
theorem jp0 {i j : Str} : decide (V.str i = V.str j) = (i == j):=by
 rw [Bool.eq_iff_iff]
 simp
theorem jp2 {i j : Array UInt8} : decide (V.byt i = V.byt j) = (i.toList == j.toList):=by
 rw [Bool.eq_iff_iff]
 cases i
 cases j
 simp
section
variable {X : Cx} {a b c : Expr} {ta tb tc : TE} {pos : Pos}
theorem jat {pins : List (Addr × Obj)} {σ : St} {H : Hp} {s : Shared} {Q : VK} {k k' : Bool} (I : Inv X pins σ H s) (q : Q (.bl k) H) (e : k = k') : EP X pins σ Q (.bool k') s:=by
 subst e
 exact ⟨.bl k,H,I,rfl,q⟩
theorem op_eq : OpR X (compareOp .Eq) rEq:=by
 intro pins s σ H x y v u Q I rx ry h
 obtain ⟨hs,q⟩:=h
 cases x with
 | non =>
  cases rx
  cases y with
  | non=>cases ry; exact PySem.EqNone.eq_none_none (jat I q (by simp))
  | bl j=>cases ry; exact PySem.EqNone.eq_none_bool (jat I q (by simp))
  | int j=>obtain ⟨t',rfl⟩:=ry; exact PySem.EqNone.eq_none_int (jat I q (by simp))
  | str j=>obtain ⟨t',rfl⟩:=ry; exact PySem.EqNone.eq_none_str (jat I q (by simp))
  | _=>exact absurd (show false = true from hs) Bool.false_ne_true
 | bl i =>
  cases rx
  cases y with
  | non=>cases ry; exact PySem.EqNone.eq_bool_none (jat I q (by simp))
  | bl j=>cases ry; exact eq_bool (jat I q jr1)
  | str j=>obtain ⟨t',rfl⟩:=ry; exact PySem.EqMixed.eq_bool_str (jat I q (by simp))
  | _=>exact absurd (show false = true from hs) Bool.false_ne_true
 | int i =>
  obtain ⟨t,rfl⟩:=rx
  cases y with
  | non=>cases ry; exact PySem.EqNone.eq_int_none (jat I q (by simp))
  | int j=>obtain ⟨t',rfl⟩:=ry; exact eq_int (jat I q jp1)
  | str j=>obtain ⟨t',rfl⟩:=ry; exact PySem.EqMixed.eq_int_str (jat I q (by simp))
  | _=>exact absurd (show false = true from hs) Bool.false_ne_true
 | str i =>
  obtain ⟨t,rfl⟩:=rx
  cases y with
  | non=>cases ry; exact PySem.EqNone.eq_str_none (jat I q (by simp))
  | bl j=>cases ry; exact PySem.EqMixed.eq_str_bool (jat I q (by simp))
  | int j=>obtain ⟨t',rfl⟩:=ry; exact PySem.EqMixed.eq_str_int (jat I q (by simp))
  | str j=>obtain ⟨t',rfl⟩:=ry; exact eq_str (jat I q jp0)
  | _=>exact absurd (show false = true from hs) Bool.false_ne_true
 | byt i =>
  obtain ⟨t,rfl⟩:=rx
  cases y with
  | byt j=>obtain ⟨t',rfl⟩:=ry; exact PySem.W.eq_bytes (jat I q jp2)
  | _=>exact absurd (show false = true from hs) Bool.false_ne_true
 | _=>cases y <;> exact absurd (show false = true from hs) Bool.false_ne_true
theorem op_ne : OpR X (compareOp .NotEq) rNe:=by
 intro pins s σ H x y v u Q I rx ry h
 obtain ⟨hs,q⟩:=h
 cases x with
 | non =>
  cases rx
  cases y with
  | non=>cases ry; exact PySem.EqNone.ne_none_none (jat I q (by simp))
  | bl j=>cases ry; exact PySem.EqNone.ne_none_bool (jat I q (by simp))
  | int j=>obtain ⟨t',rfl⟩:=ry; exact PySem.EqNone.ne_none_int (jat I q (by simp))
  | str j=>obtain ⟨t',rfl⟩:=ry; exact PySem.EqNone.ne_none_str (jat I q (by simp))
  | _=>exact absurd (show false = true from hs) Bool.false_ne_true
 | bl i =>
  cases rx
  cases y with
  | non=>cases ry; exact PySem.EqNone.ne_bool_none (jat I q (by simp))
  | bl j=>cases ry; exact ne_bool (jat I q (congrArg not jr1))
  | str j=>obtain ⟨t',rfl⟩:=ry; exact PySem.EqMixed.ne_bool_str (jat I q (by simp))
  | _=>exact absurd (show false = true from hs) Bool.false_ne_true
 | int i =>
  obtain ⟨t,rfl⟩:=rx
  cases y with
  | non=>cases ry; exact PySem.EqNone.ne_int_none (jat I q (by simp))
  | int j=>obtain ⟨t',rfl⟩:=ry; exact ne_int (jat I q (congrArg not jp1))
  | str j=>obtain ⟨t',rfl⟩:=ry; exact PySem.EqMixed.ne_int_str (jat I q (by simp))
  | _=>exact absurd (show false = true from hs) Bool.false_ne_true
 | str i =>
  obtain ⟨t,rfl⟩:=rx
  cases y with
  | non=>cases ry; exact PySem.EqNone.ne_str_none (jat I q (by simp))
  | bl j=>cases ry; exact PySem.EqMixed.ne_str_bool (jat I q (by simp))
  | int j=>obtain ⟨t',rfl⟩:=ry; exact PySem.EqMixed.ne_str_int (jat I q (by simp))
  | str j=>obtain ⟨t',rfl⟩:=ry; exact ne_str (jat I q (congrArg not jp0))
  | _=>exact absurd (show false = true from hs) Bool.false_ne_true
 | byt i =>
  obtain ⟨t,rfl⟩:=rx
  cases y with
  | byt j=>obtain ⟨t',rfl⟩:=ry; exact PySem.W.ne_bytes (jat I q (congrArg not jp2))
  | _=>exact absurd (show false = true from hs) Bool.false_ne_true
 | _=>cases y <;> exact absurd (show false = true from hs) Bool.false_ne_true
theorem op_lt : OpR X (compareOp .Lt) (rI0 fun i j=>.bl (decide (i < j))):=opB0 fun _ _ _ _ _ _ _ q=>lt_int q
theorem op_le : OpR X (compareOp .LtE) (rI0 fun i j=>.bl (decide (i ≤ j))):=opB0 fun _ _ _ _ _ _ _ q=>le_int q
theorem op_gt : OpR X (compareOp .Gt) (rI0 fun i j=>.bl (decide (j < i))):=opB0 fun _ _ _ _ _ _ _ q=>gt_int q
theorem op_ge : OpR X (compareOp .GtE) (rI0 fun i j=>.bl (decide (j ≤ i))):=opB0 fun _ _ _ _ _ _ _ q=>ge_int q
theorem jrh : OpR X (compareOp .IsNot) (fun x y H Q=>y = .non∧Q (.bl (!decide (x = .non))) H):=by
 intro pins s σ H x y v u Q I rx ry h
 obtain ⟨rfl,q⟩:=h
 cases ry
 refine isnot_none_gen (jat I q ?_)
 cases x <;> first
  | (cases rx; rfl)
  | (obtain ⟨t,rfl⟩:=rx; rfl)
theorem OpR.or {f : Value→Value→Sem Value} {r r' : R2} (h : OpR X f r) (h' : OpR X f r') : OpR X f (fun x y H Q=>r x y H Q ∨ r' x y H Q):=by
 intro pins s σ H x y v u Q I rx ry q
 rcases q with q | q
 ·exact h pins s σ H x y v u Q I rx ry q
 ·exact h' pins s σ H x y v u Q I rx ry q
theorem jak (b : Expr) {op : CmpOp} (h : op ≠ .In:=by decide) (h2 : op ≠ .NotIn:=by decide) : behindInMarks op b = false:=by
 have e1 : (op == CmpOp.In) = false:=by cases op <;> first | rfl | exact absurd rfl h
 have e2 : (op == CmpOp.NotIn) = false:=by cases op <;> first | rfl | exact absurd rfl h2
 cases b <;> simp [behindInMarks,e1,e2]
theorem jbs {op : CmpOp} {r : R2} (ho : OpR X (compareOp op) r) (ha : PE X a ta) (hb : PE X b tb) (hm : behindInMarks op b = false) : PE X (.Compare a [op] [b] pos) (tOp r ta tb):=by
 intro pins s σ H Q I h
 exact wpAny_Compare1 (binT ha hb I h fun v u s2 x y H2 I2 rx ry q=>ho pins s2 σ H2 x y v u Q I2 rx ry q) hm
theorem jk0 : (sizeLine : Nat) < 2 ^ 63:=by rw [sizeLine_eq]; decide
theorem jfz {x : V} {us : List Value} (r : Vals [x] us) : ∃ u,us = [u]∧RelV x u:=by
 cases r with
 | cons r1 r2=>cases r2; exact ⟨_,rfl,r1⟩
theorem vals2 {x y : V} {us : List Value} (r : Vals [x,y] us) : ∃ u w',us = [u,w']∧RelV x u∧RelV y w':=by
 cases r with
 | cons r1 r2 =>
  cases r2 with
  | cons r3 r4=>cases r4; exact ⟨_,_,rfl,r1,r3⟩
theorem jp8 (hc : X.calm = true) : jbu X (.builtin "max") (fun xs H Q=>∃ i j,xs = [.int i,.int j]∧Q (.int (if j > i then j else i)) H):=by
 intro pins s σ H xs us Q I r h
 obtain ⟨i,j,rfl,q⟩:=h
 obtain ⟨u,w',rfl,⟨t,rfl⟩,⟨t',rfl⟩⟩:=vals2 r
 refine max_two_ints (I.ok.hd hc) fun h' tk k=>⟨_,H,I.kept k,?_,q⟩
 by_cases hj : j > i
 ·rw [if_pos hj,if_pos hj]; exact ⟨_,rfl⟩
 ·rw [if_neg hj,if_neg hj]; exact ⟨_,rfl⟩
theorem jp7 (hc : X.calm = true) : jbu X (.builtin "min") (fun xs H Q=>∃ i j,xs = [.int i,.int j]∧Q (.int (if j < i then j else i)) H):=by
 intro pins s σ H xs us Q I r h
 obtain ⟨i,j,rfl,q⟩:=h
 obtain ⟨u,w',rfl,⟨t,rfl⟩,⟨t',rfl⟩⟩:=vals2 r
 refine min_two_ints (I.ok.hd hc) fun h' tk k=>⟨_,H,I.kept k,?_,q⟩
 by_cases hj : j < i
 ·rw [if_pos hj,if_pos hj]; exact ⟨_,rfl⟩
 ·rw [if_neg hj,if_neg hj]; exact ⟨_,rfl⟩
theorem jp9 : jbu X (.type "int") (fun xs H Q=>(∃ i,xs = [.int i]∧Q (.int i) H) ∨ ∃ k,xs = [.bl k]∧Q (.int (if k then 1 else 0)) H):=by
 intro pins s σ H xs us Q I r h
 rcases h with ⟨i,rfl,q⟩ | ⟨k,rfl,q⟩
 ·obtain ⟨u,rfl,t,rfl⟩:=jfz r
  exact call_int_int ⟨.int i,H,I,⟨_,rfl⟩,q⟩
 ·obtain ⟨u,rfl,r1⟩:=jfz r
  cases r1
  exact call_int_bool ⟨.int (if k then 1 else 0),H,I.tok _,⟨_,rfl⟩,q⟩
end
end L2
namespace L2
open PySem PySem.Spec PyProof.Rows
structure ObjM (h : Heap) (x dx C : Addr) (mA : Str→Option Value) : Prop where
 obj : h.get? x = some (PySem.W.instObj C dx)
 ns : h.Ns1 dx mA
 ne : dx ≠ x
theorem jjy {h : Heap} {dx : Addr} {mA : Str→Option Value} (n : h.Ns1 dx mA) : ∃ od,h.get? dx = some od∧∀ name,PySem.W.lookIn name od = some (mA name):=by
 obtain ⟨o,es,ep,ho,hd,hk,_,hm⟩:=n
 refine ⟨o,ho,fun name=>?_⟩
 have e:=hm name
 unfold nsFind findBy at e
 rw [← Array.find?_toList] at e
 unfold PySem.W.lookIn
 rw [hd]
 dsimp only
 split
 ·rename_i y q
  rw [q] at e
  exact congrArg some e
 ·rename_i q
  rw [q] at e
  have a : es.toList.any (·.refKey) = false:=by
   rw [List.any_eq_false]
   intro y hy
   obtain ⟨z,t,hkey⟩:=hk y (Array.mem_toList_iff.mp hy)
   simp [DictEntry.refKey,hkey]
  have a' : ¬ es.toList.any (·.refKey) = true:=by rw [a]; exact Bool.false_ne_true
  rw [if_neg a']
  exact congrArg some e
theorem ObjM.look {h : Heap} {x dx C : Addr} {mA : Str→Option Value} (I : ObjM h x dx C mA) : ∃ od,PySem.W.InstAt h x (PySem.W.instObj C dx) C (some od)∧∀ name,PySem.W.lookIn name od = some (mA name) :=
 let ⟨od,ho,hl⟩:=jjy I.ns
 ⟨od,⟨I.obj,rfl,rfl,ho⟩,hl⟩
section
variable {prog : Program} {w : World} {A : Around} {E : Value→Shared→Prop} {s : Shared} {K : PySem.W.Frag} {x dx C f : Addr} {mA : Str→Option Value} {name : Str} {v : Value}
end
noncomputable def putF (f : Str) (v : V) : List (Str × V)→List (Str × V)
 | []=>[(f,v)]
 | (g,x) :: r=>if g = f then (g,v) :: r else (g,x) :: putF f v r
theorem jgq (f g : Str) (v : V) : ∀ fs : List (Str × V),(putF f v fs).lookup g = if g = f then some v else fs.lookup g
 | []=>by
  show List.lookup g [(f,v)] = _
  by_cases h : g = f
  ·have hb : (g == f) = true:=beq_iff_eq.mpr h
   simp only [List.lookup,hb,if_pos h]
  ·have hb : (g == f) = false:=beq_eq_false_iff_ne.mpr h
   simp only [List.lookup,hb,if_neg h]
 | (k,x) :: r=>by
  have ih:=jgq f g v r
  rw [show putF f v ((k,x) :: r) = (if k = f then (k,v) :: r else (k,x) :: putF f v r) from rfl]
  by_cases hk : k = f
  ·rw [if_pos hk]
   by_cases h : g = k
   ·have hb : (g == k) = true:=beq_iff_eq.mpr h
    simp only [List.lookup,hb,if_pos (h.trans hk)]
   ·have hb : (g == k) = false:=beq_eq_false_iff_ne.mpr h
    simp only [List.lookup,hb,if_neg (fun e : g = f=>h (e.trans hk.symm))]
  ·rw [if_neg hk]
   by_cases h : g = k
   ·have hb : (g == k) = true:=beq_iff_eq.mpr h
    simp only [List.lookup,hb,if_neg (fun e : g = f=>hk (h.symm.trans e))]
   ·have hb : (g == k) = false:=beq_eq_false_iff_ne.mpr h
    simp only [List.lookup,hb]
    exact ih
theorem jgs (f : Str) (v : V) : ∀ fs : List (Str × V),f ∈ (putF f v fs).map (·.1)∧∀ g,g ∈ fs.map (·.1)→g ∈ (putF f v fs).map (·.1)
 | []=>⟨by simp [putF],fun g h=>by simp at h⟩
 | (k,x) :: r=>by
  obtain ⟨i1,i2⟩:=jgs f v r
  rw [show putF f v ((k,x) :: r) = (if k = f then (k,v) :: r else (k,x) :: putF f v r) from rfl]
  by_cases hk : k = f
  ·rw [if_pos hk]
   subst hk
   exact ⟨by simp,fun g h=>by simpa using h⟩
  ·rw [if_neg hk]
   refine ⟨?_,fun g h=>?_⟩
   ·rw [List.map_cons]
    exact List.mem_cons_of_mem _ i1
   ·rw [List.map_cons] at h ⊢
    rcases List.mem_cons.mp h with e | e
    ·exact List.mem_cons.mpr (.inl e)
    ·exact List.mem_cons_of_mem _ (i2 g e)
theorem RelO.some_of {v : V} {o : Option Value} (r : RelO (some v) o) : ∃ u,o = some u∧RelV v u:=by
 cases o with
 | none=>exact (show False from r).elim
 | some u=>exact ⟨u,rfl,r⟩
theorem jou {v : V} {u : Value} (r : RelV v u) : PySem.W.handedIn u = true:=by
 cases v with
 | non=>cases (show u = Value.none from r); rfl
 | bl b=>cases (show u = Value.bool b from r); rfl
 | int i=>obtain ⟨t,e⟩:=(show ∃ t,u = Value.int i t from r); cases e; rfl
 | str x=>obtain ⟨t,e⟩:=(show ∃ t,u = Value.str x t from r); cases e; rfl
 | byt b=>obtain ⟨t,e⟩:=(show ∃ t,u = Value.bytes b t from r); cases e; rfl
 | flt b=>obtain ⟨t,e⟩:=(show ∃ t,u = Value.float b t from r); cases e; rfl
 | ref a=>cases (show u = Value.ref a from r); rfl
 | ty n=>cases (show u = Value.type n from r); rfl
section
variable {P : Program} {w : World} {H H' : Hp} {h h' : Heap} {a C dx : Addr} {fs fs' : List (Str × V)}
theorem jrt (hok : HOk P w H h) (e : H a = some (.ins C dx fs)) : ∃ mA,ObjM h a dx C mA∧(∀ f,RelO (fs.lookup f) (mA f))∧PySem.Within mA (fs.map (·.1))∧fs.length ≤ 1000∧H dx = some (.own a):=by
 obtain ⟨d,z,ne,ob,mA,n,r,q⟩:=(show jb2 P w H h a (.ins C dx fs) from hok a _ e)
 exact ⟨mA,⟨ob,n,ne⟩,r,q,z,d⟩
end
structure Cls (K : PySem.W.Frag) (C : Addr) : Prop where
 pg : PySem.W.plainGet K C Str.empty = true
 hd : PySem.W.hasDictIn K C = true
 po : PySem.W.plainOver K C = true
 sa : PySem.W.findIn K (.ref C) "__setattr__" = some (some (.builtin "object.__setattr__"))
theorem Cls.get {K : PySem.W.Frag} {C : Addr} (c : Cls K C) (f : Str) : PySem.W.plainGet K C f = true:=c.pg
section
variable {X : Cx} {pins : List (Addr × Obj)} {σ : St} {H : Hp} {s : Shared} {a C dx : Addr} {fs : List (Str × V)} {f : Str} {v : V} {A : Around} {E : Value→Shared→Prop}
theorem js4 {prog : Program} {w : World} {env : Env} {e : Expr} {f : Str} {pos : Pos} {s : Shared} {Q : Value→Shared→Prop} (hb : attributeBase e f env (eval e env) = eval e env)
  (h : wpAny (model prog w) A (eval e env) (fun o s₁=>wpAny (model prog w) A (getAttr o f true) Q E s₁) E s) : wpAny (model prog w) A (eval (.Attribute e f pos) env) Q E s :=
 Attribute_any_ h (by rw [arm_eval_Attribute,hb])
end
section
variable {X : Cx} {o e value : Expr} {f : Str} {pos pos' tpos : Pos} {ta tv : TE}
end
section
variable {X : Cx} {pins : List (Addr × Obj)} {σ : St} {H : Hp} {s : Shared} {A : Around} {E : Value→Shared→Prop} {Q : Value→Shared→Prop} {c : Value} {b : Bool}
inductive TyOf (K : PySem.W.Frag) (H : Hp) : V→Value→Prop where
 | non : TyOf K H .non (.type "NoneType")
 | bl (x : Bool) : TyOf K H (.bl x) (.type "bool")
 | int (i : Int) : TyOf K H (.int i) (.type "int")
 | str (x : Str) : TyOf K H (.str x) (.type "str")
 | flt (x : UInt64) : TyOf K H (.flt x) (.type "float")
 | lst {a : Addr} {xs : List V} (e : H a = some (.lst xs)) : TyOf K H (.ref a) (.type "list")
 | frz {a : Addr} {o : Obj} {xs : List V} (e : H a = some (.frz o (.lst xs))) : TyOf K H (.ref a) (.type "list")
 | tup {a : Addr} {xs : List V} (e : H a = some (.tup xs)) : TyOf K H (.ref a) (.type "tuple")
 | dK {a : Addr} {kvs : List (Key × V)} (e : H a = some (.dK kvs)) : TyOf K H (.ref a) (.type "dict")
 | dT {a : Addr} {kvs : List (List Key × V)} (e : H a = some (.dT kvs)) : TyOf K H (.ref a) (.type "dict")
 | ins {a C dx : Addr} {fs : List (Str × V)} (e : H a = some (.ins C dx fs)) (cl : Cls K C) (ha : PySem.W.findIn K (.ref C) "__class__" = some (some (.builtin "object.__class__")))
   (hn : PySem.W.specialIn K (.builtin "object.__class__") "__get__" = some (some (.builtin "getset_descriptor.__get__"))) (htk : PySem.W.takesIn K (.builtin "object.__class__") = some true)
   (hm : PySem.W.mroIn K C (.type "object") = some true) : TyOf K H (.ref a) (.ref C)
theorem jor {x : V} {u t : Value} (I : Inv X pins σ H s) (rx : RelV x u) (ty : TyOf X.K H x t) (e : PySem.W.kitOne X.K t c = some b) (h : ∀ tk,Q (.bool b) { s with toks:=tk }) :
  wpAny (model X.prog X.w) A (call (.builtin "isinstance") [u,c]) Q E s:=by
 cases ty with
 | non=>cases (show u = Value.none from rx); exact PySem.W.kia_one PySem.W.kitx_none I.kIn True.intro e (fun z=>nomatch z) h
 | bl y=>cases (show u = Value.bool y from rx); exact PySem.W.kia_one PySem.W.kitx_bool I.kIn True.intro e (fun z=>nomatch z) h
 | int i=>obtain ⟨t,q⟩:=(show ∃ t,u = Value.int i t from rx); cases q; exact PySem.W.kia_one PySem.W.kitx_int I.kIn True.intro e (fun z=>nomatch z) h
 | str y=>obtain ⟨t,q⟩:=(show ∃ t,u = Value.str y t from rx); cases q; exact PySem.W.kia_one PySem.W.kitx_str I.kIn True.intro e (fun z=>nomatch z) h
 | flt y=>obtain ⟨t,q⟩:=(show ∃ t,u = Value.float y t from rx); cases q; exact PySem.W.kia_one PySem.W.kitx_float I.kIn True.intro e (fun z=>nomatch z) h
 | @lst a xs ea =>
  cases (show u = Value.ref a from rx)
  obtain ⟨_,_,n,_,h1⟩:=(show jb2 X.prog X.w H s.heap a (.lst xs) from I.hok a _ ea)
  exact PySem.W.kia_one PySem.W.kitx_list I.kIn ⟨_,h1,rfl⟩ e (fun z=>nomatch z) h
 | @frz a ob xs ea =>
  cases (show u = Value.ref a from rx)
  obtain ⟨_,_,_,n,_,h1⟩:=(show jb2 X.prog X.w H s.heap a (.frz ob (.lst xs)) from I.hok a _ ea)
  exact PySem.W.kia_one PySem.W.kitx_list I.kIn ⟨_,h1,rfl⟩ e (fun z=>nomatch z) h
 | @tup a xs ea =>
  cases (show u = Value.ref a from rx)
  obtain ⟨_,_,_,p⟩:=(show jb2 X.prog X.w H s.heap a (.tup xs) from I.hok a _ ea)
  obtain ⟨o,h1,h2,_⟩:=p
  exact PySem.W.kia_one PySem.W.kitx_tuple I.kIn ⟨o,h1,h2⟩ e (fun z=>nomatch z) h
 | @dK a kvs ea =>
  cases (show u = Value.ref a from rx)
  obtain ⟨_,_,vs,_,p⟩:=(show jb2 X.prog X.w H s.heap a (.dK kvs) from I.hok a _ ea)
  obtain ⟨o,es,ep,h1,h2,_⟩:=p
  exact PySem.W.kia_one PySem.W.kitx_dict I.kIn ⟨o,h1,h2.1⟩ e (fun z=>nomatch z) h
 | @dT a kvs ea =>
  cases (show u = Value.ref a from rx)
  obtain ⟨_,_,xs,_,o,es,ep,h1,h2,_⟩:=(show jb2 X.prog X.w H s.heap a (.dT kvs) from I.hok a _ ea)
  exact PySem.W.kia_one PySem.W.kitx_dict I.kIn ⟨o,h1,h2.1⟩ e (fun z=>nomatch z) h
 | @ins a C dx fs ea cl ha hn htk hm =>
  cases (show u = Value.ref a from rx)
  obtain ⟨mA,O,_⟩:=jrt I.hok ea
  obtain ⟨od,J,_⟩:=O.look
  exact PySem.W.kia_one (PySem.W.kitx_own (cl.get _) cl.hd ha hn htk hm) I.kIn J e (fun z=>nomatch z) h
end
end L2
namespace L2
open PySem PySem.Spec PyProof.Rows
structure Room (k : Nat) (A : Around) : Prop where
 hd : A.handled = none
 dp : A.depth + 3 * k + 5 < recursionLimit
 un : A.units + 16 * k + 200 < cLine
 gd : A.guards = some []
theorem Room.mono {j k : Nat} {A : Around} (r : Room k A) (h : j ≤ k) : Room j A:=⟨r.hd,by have:=r.dp; omega,by have:=r.un; omega,by first | exact r.gd | (simp only [Around.deeper,Around.in1,Around.under]; exact r.gd)⟩
theorem Room.deeper {k : Nat} {A : Around} (r : Room (k + 1) A) (env : Env) : Room k (A.deeper env) :=
 ⟨r.hd,by have:=r.dp; show A.depth + 1 + 3 * k + 5 < _; omega,by have:=r.un; show A.units + 3 + 16 * k + 200 < _; omega,by first | exact r.gd | (simp only [Around.deeper,Around.in1,Around.under]; exact r.gd)⟩
theorem jmu {A : Around} {C : Addr} {us : List Value} {kw : List (Str × Value)} : (A.under (.builtin "type.__call__" ⟨.ref C :: us,kw⟩)).depth = A.depth + 1:=by
 first | rfl | simp [Around.under,Code.weight,Code.isCreation,Code.isGuard,Code.isCaller,Code.frames,Code.isFrame,guardIds]
theorem jmt {A : Around} {C : Addr} {us : List Value} {kw : List (Str × Value)} : (A.under (.builtin "type.__call__" ⟨.ref C :: us,kw⟩)).units = A.units + 1:=by
 first | rfl | simp [Around.under,Code.cUnits,Code.frames,Code.isFrame]
theorem Room.make {k : Nat} {A : Around} (r : Room (k + 1) A) (C : Addr) (us : List Value) (kw : List (Str × Value)) : Room k (A.under (.builtin "type.__call__" ⟨.ref C :: us,kw⟩)) :=
 ⟨r.hd,by have:=r.dp; rw [jmu]; omega,by have:=r.un; rw [jmt]; omega,by first | exact r.gd | (simp only [Around.deeper,Around.in1,Around.under]; exact r.gd)⟩
theorem Room.depth {k : Nat} {A : Around} (r : Room k A) : A.depth < recursionLimit:=by have:=r.dp; omega
theorem Room.units {k : Nat} {A : Around} (r : Room k A) : A.units + 64 < cLine:=by have:=r.un; omega
noncomputable def tNil : TA:=fun _ H Q=>Q [] H
noncomputable def jg2 (ta : TE) (tr : TA) : TA:=fun σ H Q=>ta σ H fun x H1=>tr σ H1 fun xs H2=>Q (x :: xs) H2
section
variable {X : Cx} {e : Expr} {es : List Expr} {te : TE} {t : TA} {pos : Pos}
theorem ja2 : PA X [] tNil:=fun _ _ _ _ H Q I h=>Calls.spliced_nil ⟨[],H,I,.nil,h⟩
theorem ja0 (ha : PE X e te) (hr : PA X es t) (hs : starEach (e :: es) X.env = (false,eval e X.env) :: starEach es X.env:=by rfl) : PA X (e :: es) (jg2 te t):=by
 intro pos pins s σ H Q I h
 rw [hs]
 show wpAny _ _ (spliced ((false,eval e X.env) :: backTo pos (starEach es X.env))) _ _ s
 refine Calls.spliced_cons (thn (ha pins s σ H _ I h) fun u s1 ⟨x,H1,I1,r1,q1⟩=>?_)
 exact thn (hr pos pins s1 σ H1 _ I1 q1) fun us s2 ⟨xs,H2,I2,r2,q2⟩=>⟨x :: xs,H2,I2,.cons r1 r2,q2⟩
noncomputable def tTup (t : TA) : TE:=fun σ H Q=>t σ H fun xs H1=>xs.length ≤ sizeLine∧∀ p,H1 p = none→Q (.ref p) (upd H1 p (.tup xs))
noncomputable def tLst (t : TA) : TE:=fun σ H Q=>t σ H fun xs H1=>xs.length ≤ sizeLine∧∀ p,H1 p = none→Q (.ref p) (upd H1 p (.lst xs))
theorem jar {x1} (h : PA X es t) : PE X (.Tuple es x1 pos) (tTup t):=by
 intro pins s σ H Q I hq
 refine wpAny_Tuple_spliced (thn (h pos pins s σ H _ I hq) fun us s1 ⟨xs,H1,I1,r,z,q⟩=>⟨by rw [← r.length]; exact z,?_⟩)
 have hf : H1 s1.heap.objs.size = none:=I1.hok.fresh (Nat.le_refl _)
 refine ⟨.ref s1.heap.objs.size,upd H1 s1.heap.objs.size (.tup xs),I1.laid (t':=s1.toks) (fun b u e=>Heap.get?_push_of_some _ e) (Nat.le_refl _) ?_,rfl,q _ hf⟩
 exact ⟨z,us,r,⟨_,Heap.get?_push_size _ rfl,rfl,_,rfl⟩⟩
theorem jas (h : PA X es t) : PE X (.List es pos) (tLst t):=by
 intro pins s σ H Q I hq
 refine wpAny_List_spliced (thn (h pos pins s σ H _ I hq) fun us s1 ⟨xs,H1,I1,r,z,q⟩=>⟨by rw [← r.length]; exact z,?_⟩)
 have hf : H1 s1.heap.objs.size = none:=I1.hok.fresh (Nat.le_refl _)
 refine ⟨.ref s1.heap.objs.size,upd H1 s1.heap.objs.size (.lst xs),I1.laid (t':=s1.toks) (fun b u e=>Heap.get?_push_of_some _ e) (Nat.le_refl _) ?_,rfl,q _ hf⟩
 exact ⟨z,us,0,r,Heap.get?_push_size _ rfl⟩
end
noncomputable abbrev Sp:=List V→Hp→VK→XK→Prop
noncomputable abbrev CXT:=List Env→Hp→Shared→XK→Value→Shared→Prop
structure Env0 (P : Program) (w : World) (K : PySem.W.Frag) (mg : Str→Option Value) (base : Heap) (A : Around) (outer : List Env) (s : Shared) (H : Hp) : Prop where
 frames : A.frames = some outer
 mod : Mod K mg base
 bs : ∀ b o,base.get? b = some o→s.heap.get? b = some o∧H b = none
 bsz : base.objs.size ≤ s.heap.objs.size
 funs : s.heap.FunFrames base outer
 frf : ∀ b ∈ frs outer,H b = none
 hok : HOk P w H s.heap
 bare : AllBare s.gens
noncomputable def CE (outer : List Env) (P : Program) (w : World) (H : Hp) (s : Shared) (Q : VK) (u : Value) (s' : Shared) : Prop :=
 ∃ v H',s'.os = s.os∧AllBare s'.gens∧Un (frs outer) [] H H' s.heap s'.heap∧HOk P w H' s'.heap∧RelV v u∧Q v H'
noncomputable def CR (CX : CXT) (outer : List Env) (P : Program) (w : World) (H : Hp) (s : Shared) (Q : VK) (E : XK) (r : Result) (s' : Shared) : Prop :=
 match r with
 | .ok (.ret u)=>CE outer P w H s Q u s'
 | .ok _=>False
 | .error e=>CX outer H s E e s'
structure FnOk (P : Program) (w : World) (K : PySem.W.Frag) (mg : Str→Option Value) (base : Heap) (CX : CXT) (k : Nat) (f : Addr) (fd : FuncData) (ps : List Str) (sp : Sp) : Prop where
 len : ∀ vs H Q E,sp vs H Q E→vs.length = ps.length
 run : ∀ (A : Around) (outer : List Env) (s : Shared) (H : Hp) (args : Args) (us : List Value) (vs : List V) (Q : VK) (E : XK),Room k A→Env0 P w K mg base A outer s H→BindsTo s fd args (ps.zip us)→Vals vs us→sp vs H Q E →
  codeAny (model P w) A (.call (.ref f) args) (CR CX outer P w H s Q E) s
theorem FnOk.mono {P : Program} {w : World} {K : PySem.W.Frag} {mg : Str→Option Value} {base : Heap} {CX : CXT} {j k : Nat} {f : Addr} {fd : FuncData} {ps : List Str} {sp : Sp} (F : FnOk P w K mg base CX j f fd ps sp) (h : j ≤ k) :
  FnOk P w K mg base CX k f fd ps sp:=⟨F.len,fun A outer s H args us vs Q E hr=>F.run A outer s H args us vs Q E (hr.mono h)⟩
theorem Env0.make {P : Program} {w : World} {K : PySem.W.Frag} {mg : Str→Option Value} {base : Heap} {A : Around} {outer : List Env} {s : Shared} {H : Hp} (e : Env0 P w K mg base A outer s H) (C : Addr) (us : List Value) (kw : List (Str × Value)) :
  Env0 P w K mg base (A.under (.builtin "type.__call__" ⟨.ref C :: us,kw⟩)) outer s H:=⟨by first | exact e.frames | (simpa [Around.under,Code.envs,Code.isFrame,pushEnvs] using e.frames),e.mod,e.bs,e.bsz,e.funs,e.frf,e.hok,e.bare⟩
section
variable {X : Cx} {pins : List (Addr × Obj)} {σ : St} {H : Hp} {s s' : Shared}
theorem Inv.env0 (I : Inv X pins σ H s) : Env0 X.prog X.w X.K X.mg X.base X.A X.stack s H :=
 ⟨I.ok.frames,I.ok.mod,I.bs,Nat.le_trans I.ok.bsz I.sz,I.stack,I.stkFree,I.hok,I.bare⟩
theorem Inv.after {Q : VK} {u : Value} (I : Inv X pins σ H s) (h : CE X.stack X.prog X.w H s Q u s') : EP X pins σ Q u s':=by
 obtain ⟨v,H',os,bare,un,hok,r,q⟩:=h
 obtain ⟨hh,g,d,t,os'⟩:=s'
 obtain rfl : os' = s.os:=os
 exact ⟨v,H',I.call (h':=hh) (g':=g) (d':=d) (t':=t) (ch:=[]) un hok bare (fun b z=>absurd z (by simp)),r,q⟩
end
noncomputable def ji3 (sp : Sp) (dvs : List V) (E : XK) (t : TA) : TE:=fun σ H Q=>t σ H fun vs H1=>sp (vs ++ dvs) H1 Q E
noncomputable def je3 (K : PySem.W.Frag) (fd : FuncData) (ps : List Str) (ds : List Value) : Prop :=
 ∀ (s : Shared) (us : List Value),K.In s.heap→(us ++ ds).length = ps.length→BindsTo s fd ⟨us,[]⟩ (ps.zip (us ++ ds))
theorem je3.all {K : PySem.W.Frag} {fd : FuncData} {ps : List Str} (h : ∀ us : List Value,us.length = ps.length→bindArgs fd ⟨us,[]⟩ = pure (ps.zip us)) : je3 K fd ps []:=fun s us _ hl=>by
 rw [List.append_nil] at hl ⊢
 exact .of_eq (h us hl)
noncomputable def jpd (CX : CXT) (X : Cx) (E : XK) : Prop:=∀ (pins : List (Addr × Obj)) (σ : St) (H : Hp) (s : Shared) (e : Value) (s' : Shared),Inv X pins σ H s→CX X.stack H s E e s'→X.xe e s'
section
variable {X : Cx} {CX : CXT} {k : Nat} {f C : Addr} {fd : FuncData} {ps : List Str} {sp : Sp} {dvs : List V} {ds : List Value} {E : XK} {x m : Str} {p pos apos : Pos} {e o : Expr} {es : List Expr} {ta : TE} {t : TA}
theorem jqq {pins : List (Addr × Obj)} {σ : St} {H : Hp} {s : Shared} {Q : VK} {us : List Value} {vs : List V} (F : FnOk X.prog X.w X.K X.mg X.base CX k f fd ps sp) (hr : Room k X.A) (hb : je3 X.K fd ps ds) (hd : Vals dvs ds) (hx : jpd CX X E)
  (I : Inv X pins σ H s) (r : Vals vs us) (h : sp (vs ++ dvs) H Q E) : wpAny (model X.prog X.w) X.A (call (.ref f) us) (EP X pins σ Q) X.xe s:=by
 have r2 : Vals (vs ++ dvs) (us ++ ds):=r.append hd
 have hl : (us ++ ds).length = ps.length:=by rw [← r2.length]; exact F.len _ _ _ _ h
 refine wpAny_call (codeAny_mono (F.run X.A X.stack s H ⟨us,[]⟩ (us ++ ds) (vs ++ dvs) Q E hr I.env0 (hb s us I.kIn hl) r2 h) fun r s' hq=>?_)
 cases r with
 | error e=>exact hx pins σ H s e s' I hq
 | ok fl =>
  cases fl with
  | ret u=>exact I.after hq
  | next=>exact False.elim hq
  | brk=>exact False.elim hq
  | cont=>exact False.elim hq
theorem jab (F : FnOk X.prog X.w X.K X.mg X.base CX k f fd ps sp) (hr : Room k X.A) (hg : Gl X x) (hm : X.mg x = some (.ref f)) (hk : PySem.W.keepIn X.K (.ref f) = true) (hb : je3 X.K fd ps ds) (hd : Vals dvs ds) (hx : jpd CX X E)
  (ha : PA X (e :: es) t) (hdb : (x == ("__debug__" : Str)) = false:=by decide) (he : starEach (e :: es) X.env = (false,eval e X.env) :: starEach es X.env:=by rfl) (hpl : (backTo pos (starEach es X.env)).any (·.1) = false:=by rfl) :
  PE X (.Call (.Name x p) (e :: es) [] pos) (ji3 sp dvs E t):=by
 intro pins s σ H Q I h
 refine wpAny_Call_Name_kw (jdb I hg hm ?_ hdb)
 refine PySem.W.callWith_K (h₀:=X.base) I.ok.mod.kin hk (thn (ha pos pins s σ H _ I h) fun us s1 ⟨vs,H1,I1,r,q⟩=>⟨I1.kIn,?_⟩) he hpl
 exact jqq F hr hb hd hx I1 r q
end
noncomputable def PK (X : Cx) (kws : List Keyword) (t : TA) : Prop :=
 ∀ (pos : Pos) (pins : List (Addr × Obj)) (s : Shared) (σ : St) (H : Hp) (Q : List V→Hp→Prop),Inv X pins σ H s→t σ H Q→wpAny (model X.prog X.w) X.A (evalAll ((backToKw pos (keywordEach kws X.env)).map (·.2))) (AP X pins σ Q) X.xe s
section
variable {X : Cx} {CX : CXT} {k : Nat} {f C : Addr} {fd : FuncData} {ps ks : List Str} {sp : Sp} {E : XK} {x m : Str} {p pos apos kpos : Pos} {e o : Expr} {es : List Expr} {kws : List Keyword} {te ta : TE} {t tk : TA} {nm : Option Str}
theorem pk_nil : PK X [] tNil:=fun _ _ _ _ H Q I h=>wpAny_evalAll_nil ⟨[],H,I,.nil,h⟩
theorem jrd (ha : PE X e te) (hr : PK X kws t) : PK X (⟨nm,e,kpos⟩ :: kws) (jg2 te t):=by
 intro pos pins s σ H Q I h
 show wpAny _ _ (evalAll ((do let v ← eval e X.env; standAt pos; pure v) :: (backToKw pos (keywordEach kws X.env)).map (·.2))) _ _ s
 refine wpAny_evalAll_cons (wpAny_bind (thn (ha pins s σ H _ I h) fun u s1 ⟨x,H1,I1,r1,q1⟩=>wpAny_bind (wpAny_standAt (wpAny_pure ?_))))
 exact thn (hr pos pins s1 σ H1 _ I1 q1) fun us s2 ⟨xs,H2,I2,r2,q2⟩=>⟨x :: xs,H2,I2,.cons r1 r2,q2⟩
variable {g : List Value→List Value→List Value} {gV : List V→List V→List V}
end
structure FnScope (N P : List Str) (sc : Scope) : Prop where
 kind : sc.kind = .function
 co : sc.isCoroutine = false
 gen : sc.isGenerator = false
 nd : N.Nodup
 pre : N.take P.length = P
 par : ∀ x ∈ P,sc.names.lookup x = some .local ∨ sc.names.lookup x = some .cell
 nofree : ∀ y ∈ sc.names,y.2 ≠ .free
theorem jk9 {kindOf : Str→Option NameKind} {x : Str} : ∀ {binds : List (Str × Value)} {m : Str→Option Value},(∀ v,(x,v) ∉ binds)→bindL kindOf binds m x = m x
 | [],_,_=>rfl
 | (n,v) :: r,m,h=>by
  unfold bindL
  rw [jk9 fun w hw=>h w (List.mem_cons_of_mem _ hw)]
  split
  ·have : x ≠ n:=by rintro rfl; exact h v List.mem_cons_self
   simp [this]
  ·rfl
theorem jkb {kindOf : Str→Option NameKind} {x : Str} : ∀ {binds : List (Str × Value)} {m : Str→Option Value},(∀ v,(x,v) ∉ binds)→bindC kindOf binds m x = m x
 | [],_,_=>rfl
 | (n,v) :: r,m,h=>by
  unfold bindC
  rw [jkb fun w hw=>h w (List.mem_cons_of_mem _ hw)]
  split
  ·rfl
  ·have : x ≠ n:=by rintro rfl; exact h v List.mem_cons_self
   simp [this]
theorem jka {kindOf : Str→Option NameKind} {x : Str} {v : Value} : ∀ {P : List Str} {vs : List Value} {i : Nat} {m : Str→Option Value},P.Nodup→P[i]? = some x→vs[i]? = some v→kindOf x = some .local →
  bindL kindOf (P.zip vs) m x = some v
 | [],_,_,_,_,h,_,_=>by simp at h
 | _ :: _,[],_,_,_,_,h,_=>by simp at h
 | p :: P,w :: vs,0,m,nd,h1,h2,hk=>by
  simp at h1 h2; subst h1; subst h2
  show bindL kindOf ((p,w) :: P.zip vs) m p = _
  unfold bindL
  rw [jk9 fun v hv=>(List.nodup_cons.mp nd).1 (List.of_mem_zip hv).1,if_pos hk]
  simp
 | p :: P,w :: vs,i + 1,m,nd,h1,h2,hk=>by
  show bindL kindOf ((p,w) :: P.zip vs) m x = _
  unfold bindL
  exact jka (i:=i) (List.nodup_cons.mp nd).2 (by simpa using h1) (by simpa using h2) hk
theorem jkc {kindOf : Str→Option NameKind} {x : Str} {v : Value} : ∀ {P : List Str} {vs : List Value} {i : Nat} {m : Str→Option Value},P.Nodup→P[i]? = some x→vs[i]? = some v→kindOf x ≠ some .local →
  bindC kindOf (P.zip vs) m x = some v
 | [],_,_,_,_,h,_,_=>by simp at h
 | _ :: _,[],_,_,_,_,h,_=>by simp at h
 | p :: P,w :: vs,0,m,nd,h1,h2,hk=>by
  simp at h1 h2; subst h1; subst h2
  show bindC kindOf ((p,w) :: P.zip vs) m p = _
  unfold bindC
  rw [jkb fun v hv=>(List.nodup_cons.mp nd).1 (List.of_mem_zip hv).1,if_neg hk]
  simp
 | p :: P,w :: vs,i + 1,m,nd,h1,h2,hk=>by
  show bindC kindOf ((p,w) :: P.zip vs) m x = _
  unfold bindC
  exact jkc (i:=i) (List.nodup_cons.mp nd).2 (by simpa using h1) (by simpa using h2) hk
noncomputable def start (N : List Str) (vs : List V) : St:=vs.map some ++ List.replicate (N.length - vs.length) none
noncomputable def cxOf (CX : CXT) (P : Program) (w : World) (K : PySem.W.Frag) (mg : Str→Option Value) (base : Heap) (N : List Str) (qual : Str) (scope : Scope) (f : Addr) (cd : Value) (A : Around) (outer : List Env) (s : Shared) (H : Hp) (E : XK) : Cx where
 prog:=P
 w:=w
 K:=K
 mg:=mg
 base:=base
 A:=A.deeper (envOfC qual scope s.heap.objs.size f cd)
 N:=N
 s₀:=s
 H₀:=H
 env:=envOfC qual scope s.heap.objs.size f cd
 outer:=outer
 stack:=envOfC qual scope s.heap.objs.size f cd :: outer
 ex:=[]
 calm:=true
 fn:=fun _=>true
 pn:=[]
 xe:=fun e s'=>wpAny (model P w) (A.deeper (envOfC qual scope s.heap.objs.size f cd)) (leaving (envOfC qual scope s.heap.objs.size f cd) e) (fun _ s''=>CX outer H s E e s'') (fun e' s''=>CX outer H s E e' s'') s'
theorem jmb {sc : Scope} {n : Nat} {x : Str} (h : sc.names.lookup x = some .cell) : ∃ c,(cellsFrom n sc.names []).lookup x = some c:=by
 have q:=PySem.W.cellsFrom_some sc.names n [] (.inl h)
 exact Option.isSome_iff_exists.mp q
theorem jos {CX : CXT} {P : Program} {w : World} {K : PySem.W.Frag} {mg : Str→Option Value} {base : Heap} {N ps : List Str} {qual : Str} {scope : Scope} {f : Addr} {cd : Value} {A : Around} {outer : List Env} {s s1 : Shared} {H : Hp} {E : XK} {us : List Value} {vs : List V}
  (S : FnScope N ps scope) (hd : A.handled = none) (e0 : Env0 P w K mg base A outer s H) (hl : vs.length = ps.length) (r : Vals vs us)
  (x : InCallC s s.heap.objs.size (bindL (envOfC qual scope s.heap.objs.size f cd).kindOf (ps.zip us) fun _=>none) (cellsFrom (s.heap.objs.size + 1) scope.names []) (bindC (envOfC qual scope s.heap.objs.size f cd).kindOf (ps.zip us) fun _=>none) s1) :
  Inv (cxOf CX P w K mg base N qual scope f cd A outer s H E) [] (start N vs) H s1:=by
 have hpl : ps.length ≤ N.length:=by have:=congrArg List.length S.pre; rw [List.length_take] at this; omega
 obtain ⟨h1,tk,rfl,hk⟩:=x.done
 have noA : ∀ b : Addr,b ∉ (cxOf CX P w K mg base N qual scope f cd A outer s H E).ex:=fun b z=>absurd (show b ∈ ([] : List Addr) from z) (by simp)
 refine ⟨⟨e0.mod,S.kind,rfl,rfl,Nat.le_refl _,fun y z c h1 h2=>?_,fun y hy=>?_,fun y c _ h=>?_,fun _=>hd,Around.frames_deeper e0.frames,.inr ⟨rfl,rfl⟩,fun b z=>absurd z (noA b),e0.bs,e0.bsz,fun b _ _=>noA b,fun b z=>absurd z (noA b),e0.funs,e0.frf⟩,
  rfl,e0.bare,Un.kept hk,⟨_,x.toInCall.ns,fun i y v h1 h2 h3=>?_⟩,fun y c h=>⟨_,x.cell y c h⟩,e0.hok.fresh (Nat.le_refl _),fun y c h=>?_,fun p hp=>absurd (show p ∈ ([] : List (Addr × Obj)) from hp) (by simp),e0.hok.kept hk,?_⟩
 ·exact name_of_addr x.apart (PySem.mem_of_lookup h1) (PySem.mem_of_lookup h2)
 ·have hy : scope.names.lookup y = some .cell ∨ scope.names.lookup y = some .free:=hy
  rcases hy with hy | hy
  ·exact jmb hy
  ·exact absurd rfl (S.nofree _ (PySem.mem_of_lookup hy))
 ·exact Nat.le_of_lt (x.above y c (PySem.mem_of_lookup h))
 ·have hi : i < vs.length:=by
   unfold start at h2
   by_cases hi : i < vs.length
   ·exact hi
   ·rw [List.getElem?_append_right (by simpa using hi)] at h2
    rw [List.getElem?_replicate] at h2
    split at h2 <;> cases h2
  have ha : vs[i]? = some v:=by
   unfold start at h2
   rw [List.getElem?_append_left (by simpa using hi),List.getElem?_map] at h2
   cases e : vs[i]? with
   | none=>rw [e] at h2; cases h2
   | some a=>rw [e] at h2; cases h2; rfl
  obtain ⟨u,hu,rv⟩:=r.get ha
  have hp : ps[i]? = some y:=by
   rw [← S.pre,List.getElem?_take_of_lt (by omega)]; exact h1
  have ndP : ps.Nodup:=by rw [← S.pre]; exact S.nd.sublist (List.take_sublist _ _)
  refine ⟨u,rv,?_⟩
  rcases S.par y (List.mem_of_getElem? hp) with k | k
  ·exact .inl ⟨k,jka ndP hp hu k⟩
  ·obtain ⟨c,e⟩:=jmb (n:=s.heap.objs.size + 1) k
   refine .inr ⟨.inl k,c,e,?_⟩
   have q:=x.cell y c e
   rw [jkc ndP hp hu (by show scope.names.lookup y ≠ _; rw [k]; decide)] at q
   exact q
 ·exact e0.hok.fresh (Nat.le_of_lt (x.above y c (PySem.mem_of_lookup h)))
 ·unfold start
  show _ = N.length
  rw [List.length_append,List.length_map,List.length_replicate]
  omega
theorem jrv {CX : CXT} {P : Program} {w : World} {K : PySem.W.Frag} {mg : Str→Option Value} {base : Heap} {k : Nat} {f : Addr} {name qual : Str} {params : Arguments} {body : List Stmt} {scope : Scope} {dV kV doc pm cdv ct oc : Value} {an od : Option Addr}
  {osl : Array (Option Value)} {N ps : List Str} {sp : Sp} (lk : K.lookup f = some ⟨oc,od,.func (PySem.W.fnOf name qual params body scope dV kV doc pm an cdv ct),osl⟩) (hcd : PySem.W.codeIn K cdv qual = true) (S : FnScope N ps scope)
  (len : ∀ vs H Q E,sp vs H Q E→vs.length = ps.length)
  (hbody : ∀ (A : Around) (outer : List Env) (s : Shared) (H : Hp) (vs : List V) (Q : VK) (E : XK),Room k (A.deeper (envOfC qual scope s.heap.objs.size f cdv))→sp vs H Q E →
   ∃ t,PSs (cxOf CX P w K mg base N qual scope f cdv A outer s H E) body t∧t { nx:=fun _ H'=>Q .non H',rt:=Q } (start N vs) H) :
  FnOk P w K mg base CX (k + 1) f (PySem.W.fnOf name qual params body scope dV kV doc pm an cdv ct) ps sp:=by
 refine ⟨len,fun A outer s H args us vs Q E hr e0 hb r hsp=>?_⟩
 have hl:=len _ _ _ _ hsp
 have KX : K.In s.heap:=e0.mod.kin.keeps fun b o e=>(e0.bs b o e).1
 have lim : s.heap.NoLimit:=e0.mod.nolimit.keeps fun b o e=>(e0.bs b o e).1
 have hkind : ∀ y ∈ ps.zip us,scope.names.lookup y.1 = some .local ∨ (scope.names.lookup y.1 = some .cell∧((cellsFrom (s.heap.objs.size + 1) scope.names []).lookup y.1).isSome = true):=fun ⟨n,v⟩ hy=>by
  rcases S.par n (List.of_mem_zip hy).1 with q | q
  ·exact .inl q
  ·exact .inr ⟨q,PySem.W.cellsFrom_some _ _ _ (.inl q)⟩
 refine codeAny_call_function hr.depth (KX _ _ lk) rfl S.co S.gen rfl (PySem.W.codeRec_of KX hcd) (hb _ _ _ _ ?_)
 refine wpAny_newFunctionEnv_cells S.kind hkind fun env he s1 x=>?_
 subst he
 refine ⟨lim.keeps x.toInCall.keep,codeAny_func ?_⟩
 obtain ⟨t,ht,hq⟩:=hbody A outer s H vs Q E (hr.deeper _) hsp
 have I : Inv (cxOf CX P w K mg base N qual scope f cdv A outer s H E) [] (start N vs) H s1:=jos S hr.hd e0 hl r x
 refine wpAny_mono (ht [] s1 (start N vs) H _ I hq) (fun fl s' hs=>?_) fun e s' hs=>hs
 have fin : ∀ {σ' : St} {H' : Hp} {v : V} {u : Value},Inv (cxOf CX P w K mg base N qual scope f cdv A outer s H E) [] σ' H' s'→RelV v u→Q v H'→CE outer P w H s Q u s' :=
  fun {σ' H' v u} J rv q=>⟨v,H',J.os,J.bare,J.base,J.hok,rv,q⟩
 cases fl with
 | ret u =>
  obtain ⟨v,σ',H',J,rv,q⟩:=hs
  exact fin J rv q
 | next =>
  obtain ⟨σ',H',J,q⟩:=hs
  exact fin (v:=V.non) (u:=Value.none) J rfl q
 | brk =>
  obtain ⟨_,_,_,q⟩:=hs
  exact False.elim q
 | cont =>
  obtain ⟨_,_,_,q⟩:=hs
  exact False.elim q
end L2
namespace L2
open PySem PySem.Spec PyProof.Rows
section
variable {X : Cx} {x : Str} {p pos : Pos} {e : Expr} {es : List Expr} {t : TA} {id T : String} {r : List V→Hp→VK→Prop}
noncomputable def tCB (r : List V→Hp→VK→Prop) (t : TA) : TE:=fun σ H Q=>t σ H fun vs H1=>r vs H1 Q
theorem jad (hc : jbu X (.builtin id) r) (hg : Gl X x) (hm : X.mg x = none) (hv : bootBuiltins x = some (.builtin id)) (ha : PA X (e :: es) t) (hn : x ≠ "__name__":=by decide) (hdb : (x == ("__debug__" : Str)) = false:=by decide)
  (he : starEach (e :: es) X.env = (false,eval e X.env) :: starEach es X.env:=by rfl) (hpl : (backTo pos (starEach es X.env)).any (·.1) = false:=by rfl) : PE X (.Call (.Name x p) (e :: es) [] pos) (tCB r t):=by
 intro pins s σ H Q I h
 refine wpAny_Call_Name_kw (jfc I hg hm hv ?_ hn hdb)
 exact PyProof.Rows.callWith_builtin1 (thn (ha pos pins s σ H _ I h) fun us s1 ⟨vs,H1,I1,r1,q1⟩=>hc pins s1 σ H1 vs us Q I1 r1 q1) he hpl
theorem jc9 (hc : jbu X (.type T) r) (hg : Gl X x) (hm : X.mg x = none) (hv : bootBuiltins x = some (.type T)) (ha : PA X (e :: es) t) (hn : x ≠ "__name__":=by decide) (hdb : (x == ("__debug__" : Str)) = false:=by decide)
  (he : starEach (e :: es) X.env = (false,eval e X.env) :: starEach es X.env:=by rfl) (hpl : (backTo pos (starEach es X.env)).any (·.1) = false:=by rfl) : PE X (.Call (.Name x p) (e :: es) [] pos) (tCB r t):=by
 intro pins s σ H Q I h
 refine wpAny_Call_Name_kw (jfc I hg hm hv ?_ hn hdb)
 exact PyProof.Rows.callWith_type1 (thn (ha pos pins s σ H _ I h) fun us s1 ⟨vs,H1,I1,r1,q1⟩=>hc pins s1 σ H1 vs us Q I1 r1 q1) he hpl
end
end L2
namespace HT
open PySem PyProof.Rows
noncomputable def lexLt : List Int→List Int→Bool
 | [],[]=>false
 | [],_ :: _=>true
 | _ :: _,[]=>false
 | x :: xs,y :: ys=>if x = y then lexLt xs ys else decide (x < y)
theorem lexLt_cons (x y : Int) (xs ys : List Int) : lexLt (x :: xs) (y :: ys) = if x = y then lexLt xs ys else decide (x < y):=rfl
theorem jiq : lexLt [] [] = false:=rfl
theorem jh6 (y : Int) (ys : List Int) : lexLt [] (y :: ys) = true:=rfl
theorem jh7 (x : Int) (xs : List Int) : lexLt (x :: xs) [] = false:=rfl
theorem jq6 (A : Around) (s : Shared) (a : Int) (t : Tok) (c : Int) (u : Tok) : ∃ e,SeqAt.EqAt A s (.int a t) (.int c u) e∧(e = true ↔ a = c) :=
 ⟨(a == c),SeqAt.EqAt.int_int a t c u,by simp⟩
theorem jpn (A : Around) (s : Shared) (a : Int) (t : Tok) (c : Int) (u : Tok) (prog : Program) (w : World) (E : Value→Shared→Prop) (Q : Value→Shared→Prop) (h : Q (.bool (decide (a < c))) s) :
  wpAny (model prog w) A (richCompare .Lt (.int a t) (.int c u)) Q E s :=
 (PyProof.Rows.lt_int h : wpAny (model prog w) A (compareOp .Lt (.int a t) (.int c u)) Q E s)
section
open PySem.SeqAt
open PySem.AutoSeq1 (wpAny_loadPart')
open PySem.MeetsSeq PySem.MeetsSeq2 PySem.MeetsSeq3
theorem jhz (l b : Addr) (items items2 : Array Value) (n n2 : Nat) (dd dd2 : Option Addr) (sl sl2 : Array (Option Value)) (ns ms : List Int) (hi : IntsAre items.toList ns) (hj : IntsAre items2.toList ms) :
  Meets (Builtin.«tuple.__lt__» ⟨[.ref l,.ref b],[]⟩)
   (fun _ R s=>s.heap.get? l = some { cls:=.type "tuple",dict:=dd,data:=.seq items n,slots:=sl }∧s.heap.get? b = some { cls:=.type "tuple",dict:=dd2,data:=.seq items2 n2,slots:=sl2 } ∧
    R (.ok (.ret (.bool (lexLt ns ms)))) s) :=
 .of_wp fun prog w A R s h=>by
  obtain ⟨hp,g,d,tk,os⟩:=s; obtain ⟨hl,hb,h⟩:=h
  have f2:=AutoSeq1.sub_tuple_tuple
  have z1 : items.size = ns.length:=by rw [← hi.length]; simp
  have z2 : items2.size = ms.length:=by rw [← hj.length]; simp
  wp_walk using wpAny_loadPart' hl,wpAny_loadPart' hb,wpAny_forIn_list _ (fun rest b s'=>b.1 = none∧s' = ⟨hp,g,d,tk,os⟩∧∃ (vs ws : List Value) (ns' ms' : List Int),rest = vs.zip ws ∧
   IntsAre vs ns'∧IntsAre ws ms'∧ns'.length + items2.size = ms'.length + items.size∧R (.ok (.ret (.bool (lexLt ns' ms')))) ⟨hp,g,d,tk,os⟩) _
  case turn =>
   rintro ⟨y,x⟩ rest b s' ⟨hb',rfl,vs,ws,ns',ms',hz,hvi,hwi,hlen,hR⟩
   cases hvi with
   | nil=>rw [List.zip_nil_left] at hz; cases hz
   | cons a t hvi' =>
    cases hwi with
    | nil=>rw [List.zip_nil_right] at hz; cases hz
    | cons c u hwi' =>
     rw [List.zip_cons_cons] at hz
     injection hz with hyx hrest
     injection hyx with hy hx
     subst hy hx
     rw [lexLt_cons] at hR
     simp only [List.length_cons] at hlen
     obtain ⟨e,he,hiff⟩:=jq6 A.in1 ⟨hp,g,d,tk,os⟩ a t c u
     refine wpAny_bind (he prog w _ _ ?_)
     cases e with
     | true =>
      rw [if_pos (hiff.mp rfl)] at hR
      wp_walk
      exact ⟨rfl,rfl,_,_,_,_,hrest,hvi',hwi',by omega,hR⟩
     | false =>
      rw [if_neg (fun q=>absurd (hiff.mpr q) Bool.false_ne_true)] at hR
      have hri:=jpn A.in1 ⟨hp,g,d,tk,os⟩ a t c u prog w
      wp_walk using hri
      exact ⟨_,rfl,by simpa using hR⟩
  case fin =>
   rintro ⟨b1,b2⟩ s' ⟨hb',rfl,vs,ws,ns',ms',hz,hvi,hwi,hlen,hR⟩
   simp only at hb'
   subst hb'
   have hv : lexLt ns' ms' = decide (items.size < items2.size):=by
    cases hvi with
    | nil =>
     cases hwi with
     | nil =>
      simp only [List.length_nil] at hlen
      rw [jiq]
      exact (decide_eq_false (by omega)).symm
     | cons c u hw =>
      simp only [List.length_nil,List.length_cons] at hlen
      rw [jh6]
      exact (decide_eq_true (by omega)).symm
    | cons a t hv =>
     cases hwi with
     | nil =>
      simp only [List.length_nil,List.length_cons] at hlen
      rw [jh7]
      exact (decide_eq_false (by omega)).symm
     | cons c u hw =>
      rw [List.zip_cons_cons] at hz
      cases hz
   rw [hv] at hR
   wp_walk
   exact ⟨_,rfl,by simpa [Builtin.Tuple.tupleCompareSizes] using hR⟩
  case h =>
   exact ⟨rfl,rfl,items.toList,items2.toList,ns,ms,rfl,hi,hj,by omega,h⟩
end
section
variable {prog : Program} {w : World} {A : Around} {E : Value→Shared→Prop} {s : Shared}
theorem lt_tupInts {l b : Addr} {items items2 : Array Value} {ns ms : List Int} {Q : Value→Shared→Prop} (hl : IsTup s.heap l items) (hb : IsTup s.heap b items2) (hi : IntsAre items.toList ns) (hj : IntsAre items2.toList ms)
  (hu : A.units < cLine) (h : Q (.bool (lexLt ns ms)) s) : wpAny (model prog w) A (compareOp .Lt (.ref l) (.ref b)) Q E s:=by
 obtain ⟨⟨cls,dd,data,sl⟩,ho,hc,n,hd⟩:=id hl
 obtain ⟨⟨cls2,dd2,data2,sl2⟩,ho2,hc2,n2,hd2⟩:=id hb
 simp only at hc hd hc2 hd2
 subst hc hd hc2 hd2
 exact richCompare_meets_room (op:=.Lt) ⟨_,ho,rfl⟩ ⟨_,ho2,rfl⟩ PySem.F.slot_tuple_lt PySem.F.entry_tuple_lt (PySem.F.args_tuple_lt_2 _ _) (jhz l b items items2 n n2 dd dd2 sl sl2 ns ms hi hj)
  ⟨ho,ho2,show Value.bool (lexLt ns ms) ≠ Value.notImplemented∧Q (.bool (lexLt ns ms)) s from ⟨(fun x=>nomatch x),h⟩⟩ hu
noncomputable def sIx (n d : Nat) : Option Int→Nat
 | none=>d
 | some v=>if v < 0 then (v + (n : Int)).toNat else min v.toNat n
end
end HT
namespace L2
open PySem PySem.Spec PyProof.Rows
noncomputable abbrev TO:=St→Hp→(Option Int→Hp→Prop)→Prop
noncomputable def PO (X : Cx) (e : Option Expr) (t : TO) : Prop :=
 ∀ (pins : List (Addr × Obj)) (s : Shared) (σ : St) (H : Hp) (Q : Option Int→Hp→Prop),Inv X pins σ H s→t σ H Q →
  wpAny (model X.prog X.w) X.A (evalPart e X.env) (fun u s'=>∃ o H',Inv X pins σ H' s'∧IsPart u o∧Q o H') X.xe s
noncomputable def jcs : TO:=fun _ H Q=>Q none H
theorem jcq {ns : List Int} : ∀ {us : List Value},Vals (ns.map V.int) us→IntsAre us ns:=by
 induction ns with
 | nil=>intro us r; rw [List.map_nil] at r; cases r; exact .nil
 | cons n ns ih =>
  intro us r
  rw [List.map_cons] at r
  cases r with
  | cons r1 r2 =>
   obtain ⟨t,e⟩:=r1
   subst e
   exact .cons n t (ih r2)
section
variable {X : Cx} {e : Expr} {te : TE} {lo hi : Option Expr} {tl th : TO} {pos p2 : Pos}
theorem jbh : PO X none jcs:=by
 intro pins s σ H Q I h
 rw [evalPart_none]
 exact wpAny_pure ⟨none,H,I,.none,h⟩
noncomputable def SlR (X : Cx) (r : V→Option Int→Option Int→Hp→VK→Prop) : Prop :=
 ∀ (pins : List (Addr × Obj)) (s : Shared) (σ : St) (H : Hp) (x : V) (v vl vu : Value) (lo hi : Option Int) (sl : Addr) (Q : VK),Inv X pins σ H s→RelV x v→s.heap.IsSliceOf sl vl vu .none→IsPart vl lo→IsPart vu hi→r x lo hi H Q →
  ∃ T id,typeLookup (.type T) "__getitem__" = pure (some (.builtin id))∧s.TypeIs v T∧wpAny (model X.prog X.w) X.A (getItem v (.ref sl)) (EP X pins σ Q) X.xe s
theorem SlR.or {r r' : V→Option Int→Option Int→Hp→VK→Prop} (h : SlR X r) (h' : SlR X r') : SlR X (fun x lo hi H Q=>r x lo hi H Q ∨ r' x lo hi H Q):=by
 intro pins s σ H x v vl vu lo hi sl Q I rx hs pl pu q
 rcases q with q | q
 ·exact h pins s σ H x v vl vu lo hi sl Q I rx hs pl pu q
 ·exact h' pins s σ H x v vl vu lo hi sl Q I rx hs pl pu q
noncomputable def tSl (r : V→Option Int→Option Int→Hp→VK→Prop) (te : TE) (tl th : TO) : TE:=fun σ H Q=>te σ H fun x H1=>tl σ H1 fun l H2=>th σ H2 fun u H3=>r x l u H3 Q
theorem jb0 {r : V→Option Int→Option Int→Hp→VK→Prop} (hr : SlR X r) (he : PE X e te) (hl : PO X lo tl) (hu : PO X hi th) : PE X (.Subscript e (.Slice lo hi none p2) pos) (tSl r te tl th):=by
 intro pins s σ H Q I h
 refine Subscript_ (thn (he pins s σ H _ I h) fun v s1 ⟨x,H1,I1,r1,q1⟩=>?_)
 refine wpAny_Slice (thn (hl pins s1 σ H1 _ I1 q1) fun vl s2 ⟨l,H2,I2,pl,q2⟩=>thn (hu pins s2 σ H2 _ I2 q2) fun vu s3 ⟨u,H3,I3,pu,q3⟩=>?_)
 rw [evalPart_none]
 refine wpAny_pure ?_
 have I4 : Inv X pins σ H3 { s3 with heap:=s3.heap.push { cls:=.type "slice",data:=.fields #[vl,vu,.none] } }:=I3.kept (t':=s3.toks) fun b ob q=>Heap.get?_push_of_some _ q
 obtain ⟨T,id,hT,ht,hg⟩:=hr pins { s3 with heap:=s3.heap.push { cls:=.type "slice",data:=.fields #[vl,vu,.none] } } σ H3 x v vl vu l u s3.heap.objs.size Q I4 r1 (Heap.IsSliceOf.new ..) pl pu q3
 show wpAny (model X.prog X.w) X.A (subscriptTail e (.Slice lo hi none p2) v (.ref s3.heap.objs.size)) (EP X pins σ Q) X.xe { s3 with heap:=s3.heap.push { cls:=.type "slice",data:=.fields #[vl,vu,.none] } }
 exact tail_any (ops:=[.ref s3.heap.objs.size,v]) ht hT hg (by with_unfolding_all rfl)
noncomputable def cutV (xs : List V) (lo hi : Option Int) : List V:=(xs.drop (HT.sIx xs.length 0 lo)).take (HT.sIx xs.length xs.length hi - HT.sIx xs.length 0 lo)
theorem jl9 (xs : List V) (lo hi : Option Int) : (cutV xs lo hi).length ≤ xs.length:=by
 unfold cutV
 rw [List.length_take,List.length_drop]
 omega
noncomputable def rLtT (K : PySem.W.Frag) : R2:=fun x y H Q=>∃ a b ns ms,x = .ref a∧y = .ref b∧SqT K H a (ns.map V.int)∧SqT K H b (ms.map V.int)∧Q (.bl (HT.lexLt ns ms)) H
theorem op_ltT (hu : X.A.units < cLine) : OpR X (compareOp .Lt) (rLtT X.K):=by
 intro pins s σ H x y v u Q I rx ry h
 obtain ⟨a,b,ns,ms,rfl,rfl,ha,hb,q⟩:=h
 cases rx
 cases ry
 obtain ⟨its,r1,p1,_⟩:=I.tuple ha
 obtain ⟨its2,r2,p2,_⟩:=I.tuple hb
 have i1 : IntsAre its.toArray.toList ns:=jcq r1
 have i2 : IntsAre its2.toArray.toList ms:=jcq r2
 exact HT.lt_tupInts p1 p2 i1 i2 hu ⟨.bl (HT.lexLt ns ms),H,I,rfl,q⟩
end
end L2
namespace L2
open PySem PySem.Spec PyProof.Rows
noncomputable def ixN (n : Nat) (i : Int) : Option Nat:=if 0 ≤ i then (if i < n then some i.toNat else none) else if -(n : Int) ≤ i then some (i + n).toNat else none
noncomputable def atI {α : Type} (xs : List α) (i : Int) : Option α:=(ixN xs.length i).bind fun j=>xs[j]?
theorem joq {n : Nat} {i : Int} {j : Nat} (h : ixN n i = some j) : seqIndex? i n = some j∧j < n∧-(n : Int) ≤ i∧i < n:=by
 unfold ixN at h
 by_cases h0 : 0 ≤ i
 ·rw [if_pos h0] at h
  by_cases h1 : i < n
  ·rw [if_pos h1] at h
   have e : i.toNat = j:=Option.some.inj h
   exact ⟨by rw [seqIndex_of h0 h1,e],by omega,by omega,h1⟩
  ·rw [if_neg h1] at h; cases h
 ·rw [if_neg h0] at h
  by_cases h1 : -(n : Int) ≤ i
  ·rw [if_pos h1] at h
   have e : (i + n).toNat = j:=Option.some.inj h
   exact ⟨by rw [seqIndex_neg (by omega) h1,e],by omega,h1,by omega⟩
  ·rw [if_neg h1] at h; cases h
theorem jpa {α : Type} {xs : List α} {i : Int} {v : α} (h : atI xs i = some v) : ∃ j,seqIndex? i xs.length = some j∧xs[j]? = some v∧j < xs.length∧-(xs.length : Int) ≤ i∧i < xs.length:=by
 unfold atI at h
 cases e : ixN xs.length i with
 | none=>rw [e] at h; cases h
 | some j =>
  rw [e] at h
  obtain ⟨h1,h2,h3,h4⟩:=joq e
  exact ⟨j,h1,h,h2,h3,h4⟩
theorem jbk {α : Type} {xs : List α} {j : Nat} {v : α} (h : xs[j]? = some v) : atI xs (j : Int) = some v:=by
 have hj : j < xs.length:=(List.getElem?_eq_some_iff.mp h).1
 have e : ixN xs.length (j : Int) = some j:=by
  unfold ixN
  rw [if_pos (by omega),if_pos (by omega)]; simp
 unfold atI; rw [e]; exact h
theorem atI_last {α : Type} (xs : List α) (v : α) : atI (xs ++ [v]) (-1) = some v:=by
 have hl : (xs ++ [v]).length = xs.length + 1:=by simp
 have e : ixN (xs ++ [v]).length (-1) = some xs.length:=by
  unfold ixN
  rw [hl,if_neg (by decide),if_pos (by omega)]
  congr 1
  omega
 unfold atI
 rw [e]
 show (xs ++ [v])[xs.length]? = some v
 simp
noncomputable def js5 (b : Expr) : Prop:=∀ o i,subscripted b false o i = operate [o,i] (getItem o i)
noncomputable def IxR (X : Cx) (r : R2) : Prop :=
 ∀ (value slice : Expr) (pins : List (Addr × Obj)) (s : Shared) (σ : St) (H : Hp) (x y : V) (v u : Value) (Q : VK),Inv X pins σ H s→RelV x v→RelV y u→r x y H Q →
  subscripted slice false v u = operate [v,u] (getItem v u)→wpAny (model X.prog X.w) X.A (subscriptTail value slice v u) (EP X pins σ Q) X.xe s
noncomputable def MtR (X : Cx) (id : String) (r : V→List V→Hp→VK→Prop) : Prop :=
 ∀ (pins : List (Addr × Obj)) (s : Shared) (σ : St) (H : Hp) (x : V) (xs : List V) (v : Value) (us : List Value) (Q : VK),Inv X pins σ H s→RelV x v→Vals xs us→r x xs H Q →
  wpAny (model X.prog X.w) X.A (call (.builtin id) (v :: us)) (EP X pins σ Q) X.xe s
section
variable {X : Cx} {a b : Expr} {ta tb : TE} {pos : Pos}
theorem IxR.or {r r' : R2} (h : IxR X r) (h' : IxR X r') : IxR X (fun x y H Q=>r x y H Q ∨ r' x y H Q):=by
 intro value slice pins s σ H x y v u Q I rx ry q hs
 rcases q with q | q
 ·exact h value slice pins s σ H x y v u Q I rx ry q hs
 ·exact h' value slice pins s σ H x y v u Q I rx ry q hs
theorem MtR.or {id : String} {r r' : V→List V→Hp→VK→Prop} (h : MtR X id r) (h' : MtR X id r') : MtR X id (fun x xs H Q=>r x xs H Q ∨ r' x xs H Q):=by
 intro pins s σ H x xs v us Q I rx rs q
 rcases q with q | q
 ·exact h pins s σ H x xs v us Q I rx rs q
 ·exact h' pins s σ H x xs v us Q I rx rs q
theorem jal {r : R2} (hr : IxR X r) (ha : PE X a ta) (hb : PE X b tb) (hs : js5 b) : PE X (.Subscript a b pos) (tOp r ta tb):=by
 intro pins s σ H Q I h
 exact Subscript_ (binT ha hb I h fun v u s2 x y H2 I2 rx ry q=>hr a b pins s2 σ H2 x y v u Q I2 rx ry q (hs _ _))
noncomputable def rIxL (K : PySem.W.Frag) : R2:=fun x y H Q=>∃ p xs i v,x = .ref p∧y = .int i∧SqL K H p xs∧atI xs i = some v∧Q v H
noncomputable def rIxT (K : PySem.W.Frag) : R2:=fun x y H Q=>∃ p xs i v,x = .ref p∧y = .int i∧SqT K H p xs∧atI xs i = some v∧Q v H
theorem jop : IxR X (rIxL X.K):=by
 intro value slice pins s σ H x y v u Q I rx ry h hs
 obtain ⟨p,xs,i,z,rfl,rfl,hq,he,q⟩:=h
 cases rx
 obtain ⟨t,rfl⟩:=ry
 obtain ⟨its,r,pl,hz⟩:=I.list hq
 obtain ⟨j,h1,h2,h3,h4,h5⟩:=jpa he
 obtain ⟨w,ew,rw'⟩:=r.get h2
 have hl:=r.length
 have hn:=jk0
 have fin : EP X pins σ Q w s:=⟨z,H,I,rw',q⟩
 by_cases h0 : 0 ≤ i
 ·have hj : i.toNat = j:=by
   rw [seqIndex_of h0 h5] at h1
   exact Option.some.inj h1
  exact item_listR pl.isList h0 (by omega) (by rw [hj]; simpa using ew) fin hs
 ·have hj : (i + (its.toArray.size : Int)).toNat = j:=by
   rw [seqIndex_neg (by omega) h4] at h1
   rw [List.size_toArray,← hl]
   exact Option.some.inj h1
  exact subscriptTail_builtinR (x:=w) pl.isList.typeIs slot_list_getitem.lookup
   (wpAny_getItem_list_neg (Q:=fun r s'=>r = w∧EP X pins σ Q r s') pl.isList (by omega) (by rw [List.size_toArray] <;> omega) (by omega) (by rw [hj]; simpa using ew) ⟨rfl,fin⟩) hs
theorem ix_tup : IxR X (rIxT X.K):=by
 intro value slice pins s σ H x y v u Q I rx ry h hs
 obtain ⟨p,xs,i,z,rfl,rfl,hq,he,q⟩:=h
 cases rx
 obtain ⟨t,rfl⟩:=ry
 obtain ⟨its,r,pl,hz⟩:=I.tuple hq
 obtain ⟨j,h1,h2,h3,h4,h5⟩:=jpa he
 obtain ⟨w,ew,rw'⟩:=r.get h2
 have hl:=r.length
 have hn:=jk0
 have fin : EP X pins σ Q w s:=⟨z,H,I,rw',q⟩
 exact subscriptTail_builtinR (x:=w) pl.typeIs slot_tuple_getitem.lookup
  (getItem_tuple (j:=j) (Q:=fun r s'=>r = w∧EP X pins σ Q r s') pl (by omega) (by omega) (by rw [List.size_toArray,← hl]; exact h1) (by simpa using ew) ⟨rfl,fin⟩) hs
theorem jms (its : List Value) (n j : Nat) (u : Value) : Obj.mapSeq (·.setIfInBounds j u) { cls:=.type "list",data:=.seq its.toArray n } = { cls:=.type "list",data:=.seq (its.set j u).toArray n }:=by
 simp [Obj.mapSeq]
theorem Inv.lst {pins : List (Addr × Obj)} {σ : St} {H : Hp} {s : Shared} {p : Addr} {xs : List V} (I : Inv X pins σ H s) (h : H p = some (.lst xs)) :
  ∃ (its : List Value) (n : Nat),Vals xs its∧s.heap.get? p = some { cls:=.type "list",data:=.seq its.toArray n }∧xs.length ≤ sizeLine:=by
 obtain ⟨z,its,n,r,e⟩:=I.hok p _ h
 exact ⟨its,n,r,e,z⟩
theorem Inv.lstUpd {pins : List (Addr × Obj)} {σ : St} {H : Hp} {s : Shared} {p : Addr} {xs ys : List V} {its its' : List Value} {n n' : Nat} {f : Obj→Obj} (I : Inv X pins σ H s) (h : H p = some (.lst xs))
  (ho : s.heap.get? p = some { cls:=.type "list",data:=.seq its.toArray n }) (hf : f { cls:=.type "list",data:=.seq its.toArray n } = { cls:=.type "list",data:=.seq its'.toArray n' }) (r : Vals ys its') (hz : ys.length ≤ sizeLine) (t : Nat) :
  Inv X pins σ (upd H p (.lst ys)) { s with heap:=s.heap.update p f,toks:=t }:=by
 have e : (s.heap.update p f).get? p = some { cls:=.type "list",data:=.seq its'.toArray n' }:=by
  rw [Heap.get?_update_self f ho (by rw [hf] <;> rfl),hf]
 refine I.write (x:=p) (e:=p) (by rw [h]; trivial) (.inl rfl) (fun b u hb q=>(Heap.get?_update_other _ _ (Ne.symm hb)).trans q) ⟨_,e⟩ ?_
 exact ⟨hz,its',n',r,e⟩
noncomputable def rSetL : V→V→V→Hp→(Hp→Prop)→Prop:=fun o i v H Q=>∃ p xs k j,o = .ref p∧i = .int k∧H p = some (.lst xs)∧ixN xs.length k = some j∧Q (upd H p (.lst (xs.set j v)))
theorem jpj : PSet X rSetL:=by
 intro pins s σ H o i v ov iv u Q I ro ri rv h
 obtain ⟨p,xs,k,j,rfl,rfl,hp,hj,q⟩:=h
 cases ro
 obtain ⟨t,rfl⟩:=ri
 obtain ⟨its,n,r,ho,hz⟩:=I.lst hp
 obtain ⟨h1,h2,h3,h4⟩:=joq hj
 have hl:=r.length
 have hn:=jk0
 have I' : Inv X pins σ (upd H p (.lst (xs.set j v))) { s with heap:=s.heap.update p (Obj.mapSeq (·.setIfInBounds j u)) } :=
  I.lstUpd hp ho (jms its n j u) (r.set rv j) (by rw [List.length_set]; exact hz) s.toks
 by_cases h0 : 0 ≤ k
 ·have hk : k.toNat = j:=by
   rw [seqIndex_of h0 h4] at h1
   exact Option.some.inj h1
  exact PySem.W.ki_setAt ho h0 (by omega) (by rw [List.size_toArray,← hl]; exact h4) (by rw [hk]; exact ⟨_,I',q⟩)
 ·have hk : (k + (its.toArray.size : Int)).toNat = j:=by
   rw [seqIndex_neg (by omega) h3] at h1
   rw [List.size_toArray,← hl]
   exact Option.some.inj h1
  exact PySem.W.ki_setBack ho (by omega) (by rw [List.size_toArray,← hl]; exact h3) (by omega) (by rw [hk]; exact ⟨_,I',q⟩)
theorem jjh (lo hi : Option Int) (n : Nat) : (sliceBounds lo hi none n).1 = ((HT.sIx n 0 lo : Nat) : Int)∧(sliceBounds lo hi none n).2.1 = ((HT.sIx n n hi : Nat) : Int)∧(sliceBounds lo hi none n).2.2 = 1:=by
 refine ⟨?_,?_,rfl⟩
 ·cases lo with
  | none=>simp [sliceBounds,HT.sIx]
  | some i =>
   simp only [sliceBounds,HT.sIx,Option.getD_none,show (1 : Int) > 0 by decide,if_true]
   by_cases h : i < 0
   ·simp only [h,if_true] <;> omega
   ·simp only [h,if_false] <;> omega
 ·cases hi with
  | none=>simp [sliceBounds,HT.sIx]
  | some i =>
   simp only [sliceBounds,HT.sIx,Option.getD_none,show (1 : Int) > 0 by decide,if_true]
   by_cases h : i < 0
   ·simp only [h,if_true] <;> omega
   ·simp only [h,if_false] <;> omega
theorem ji6 (its : List Value) (lo hi : Option Int) : slicePick its.toArray lo hi none = ((its.drop (HT.sIx its.length 0 lo)).take (HT.sIx its.length its.length hi - HT.sIx its.length 0 lo)).toArray:=by
 obtain ⟨h1,h2,h3⟩:=jjh lo hi its.toArray.size
 unfold slicePick
 rw [h1,h2,h3]
 simp only [sliceRange_one,pick_run,List.size_toArray] <;> rfl
noncomputable def rSlL (K : PySem.W.Frag) : V→Option Int→Option Int→Hp→VK→Prop:=fun x lo hi H Q=>∃ a xs,x = .ref a∧SqL K H a xs∧∀ p,H p = none→Q (.ref p) (upd H p (.lst (cutV xs lo hi)))
theorem jr5 : SlR X (rSlL X.K):=by
 intro pins s σ H x v vl vu lo hi sl Q I rx hs pl pu h
 obtain ⟨a,xs,rfl,hx,q⟩:=h
 cases rx
 obtain ⟨its,r,ht,hz⟩:=I.list hx
 have hlen:=r.length
 refine ⟨"list",_,slot_list_getitem.lookup,ht.isList.typeIs,?_⟩
 refine wpAny_getItem_list_slice ht.isList hs pl pu .none (by simp) ?_ (by rw [List.size_toArray] <;> omega)
 rw [ji6,← hlen]
 refine ⟨.ref s.heap.objs.size,_,I.laid (t':=s.toks) (o:=.lst (cutV xs lo hi)) (fun b ob q=>Heap.get?_push_of_some _ q) (Nat.le_refl _) ?_,rfl,q _ (I.hok.fresh (Nat.le_refl _))⟩
 exact ⟨Nat.le_trans (jl9 xs lo hi) hz,_,0,(r.drop (HT.sIx xs.length 0 lo)).take (HT.sIx xs.length xs.length hi - HT.sIx xs.length 0 lo),Heap.get?_push_size _ rfl⟩
noncomputable def jcx : V→Bool
 | .non=>true
 | .bl _=>true
 | .int _=>true
 | .str _=>true
 | _=>false
noncomputable def eqV : V→V→Bool
 | .non,.non=>true
 | .bl a,.bl b=>a == b
 | .bl a,.int b=>(if a then 1 else 0) == b
 | .int a,.bl b=>a == (if b then 1 else 0)
 | .int a,.int b=>a == b
 | .str a,.str b=>a == b
 | _,_=>false
theorem jqy {A : Around} {s : Shared} {y x : V} {u v : Value} (ry : RelV y u) (rx : RelV x v) (fy : jcx y = true) (fx : jcx x = true) : SeqAt.EqAt A s u v (eqV y x):=by
 cases y with
 | non =>
  cases ry
  cases x with
  | non=>cases rx; exact SeqAt.EqAt.same _
  | bl b=>cases rx; exact SeqAt.EqAt.none_bool b
  | int b=>obtain ⟨t,rfl⟩:=rx; exact SeqAt.EqAt.none_int b t
  | str b=>obtain ⟨t,rfl⟩:=rx; exact SeqAt.EqAt.none_str b t
  | _=>exact absurd (show false = true from fx) Bool.false_ne_true
 | bl a =>
  cases ry
  cases x with
  | non=>cases rx; exact SeqAt.EqAt.bool_none a
  | bl b=>cases rx; exact SeqAt.EqAt.bool_bool a b
  | int b=>obtain ⟨t,rfl⟩:=rx; exact SeqAt.EqAt.bool_int a b t
  | str b=>obtain ⟨t,rfl⟩:=rx; exact SeqAt.EqAt.bool_str a b t
  | _=>exact absurd (show false = true from fx) Bool.false_ne_true
 | int a =>
  obtain ⟨t',rfl⟩:=ry
  cases x with
  | non=>cases rx; exact SeqAt.EqAt.int_none a t'
  | bl b=>cases rx; exact SeqAt.EqAt.int_bool a t' b
  | int b=>obtain ⟨t,rfl⟩:=rx; exact SeqAt.EqAt.int_int a t' b t
  | str b=>obtain ⟨t,rfl⟩:=rx; exact SeqAt.EqAt.int_str a t' b t
  | _=>exact absurd (show false = true from fx) Bool.false_ne_true
 | str a =>
  obtain ⟨t',rfl⟩:=ry
  cases x with
  | non=>cases rx; exact SeqAt.EqAt.str_none a t'
  | bl b=>cases rx; exact SeqAt.EqAt.str_bool a t' b
  | int b=>obtain ⟨t,rfl⟩:=rx; exact SeqAt.EqAt.str_int a t' b t
  | str b=>obtain ⟨t,rfl⟩:=rx; exact SeqAt.EqAt.str_str a t' b t
  | _=>exact absurd (show false = true from fx) Bool.false_ne_true
 | _=>exact absurd (show false = true from fy) Bool.false_ne_true
noncomputable def eqU (x : V) (u : Value) : Bool:=match u with
 | .none=>eqV .non x
 | .bool b=>eqV (.bl b) x
 | .int i _=>eqV (.int i) x
 | .str z _=>eqV (.str z) x
 | _=>false
theorem jqx {x y : V} {u : Value} (r : RelV y u) (f : jcx y = true) : eqU x u = eqV y x:=by
 cases y with
 | non=>cases r; rfl
 | bl b=>cases r; rfl
 | int i=>obtain ⟨t,rfl⟩:=r; rfl
 | str z=>obtain ⟨t,rfl⟩:=r; rfl
 | _=>exact absurd (show false = true from f) Bool.false_ne_true
theorem jgx {x : V} : ∀ {xs : List V} {us : List Value},Vals xs us→xs.all jcx = true→us.any (eqU x) = xs.any fun y=>eqV y x
 | _,_,.nil,_=>rfl
 | y :: xs,u :: us,.cons r t,f=>by
  rw [List.all_cons,Bool.and_eq_true] at f
  rw [List.any_cons,List.any_cons,jqx r f.1,jgx t f.2]
theorem jek {A : Around} {s : Shared} {x : V} {v : Value} (rx : RelV x v) (fx : jcx x = true) : ∀ {xs : List V} {us : List Value},Vals xs us→xs.all jcx = true→∀ u ∈ us,SeqAt.EqAt A s u v (eqU x u)
 | _,_,.nil,_=>fun u hu=>by cases hu
 | y :: xs,u :: us,.cons r t,f=>fun u' hu=>by
  rw [List.all_cons,Bool.and_eq_true] at f
  rcases List.mem_cons.mp hu with rfl | hu
  ·rw [jqx r f.1]; exact jqy r rx f.1 fx
  ·exact jek rx fx t f.2 u' hu
noncomputable def inV (x : V) (xs : List V) : Bool:=xs.any fun y=>eqV y x
noncomputable def rIn (K : PySem.W.Frag) (neg : Bool) : R2:=fun x y H Q=>∃ p xs,y = .ref p∧(SqL K H p xs ∨ SqT K H p xs)∧jcx x = true∧xs.all jcx = true∧Q (.bl (if neg then !inV x xs else inV x xs)) H
theorem jo6 : OpR X (compareOp .In) (rIn X.K false):=by
 intro pins s σ H x y v u Q I rx ry h
 obtain ⟨p,xs,rfl,hq,fx,fs,q⟩:=h
 cases ry
 rcases hq with hq | hq
 ·obtain ⟨its,r,pl,hz⟩:=I.list hq
  refine SeqAt.in_listAt (eqU x) pl.isList (fun w hw=>jek rx fx r fs w (by simpa using hw)) ⟨.bl _,H,I,rfl,?_⟩
  rw [show its.toArray.any (eqU x) = its.any (eqU x) by simp,jgx r fs]
  exact q
 ·obtain ⟨its,r,pl,hz⟩:=I.tuple hq
  refine SeqAt.in_tupleAt (eqU x) pl (fun w hw=>jek rx fx r fs w (by simpa using hw)) ⟨.bl _,H,I,rfl,?_⟩
  rw [show its.toArray.any (eqU x) = its.any (eqU x) by simp,jgx r fs]
  exact q
theorem jjp : OpR X (compareOp .NotIn) (rIn X.K true):=by
 intro pins s σ H x y v u Q I rx ry h
 obtain ⟨p,xs,rfl,hq,fx,fs,q⟩:=h
 cases ry
 rcases hq with hq | hq
 ·obtain ⟨its,r,pl,hz⟩:=I.list hq
  refine SeqAt.notIn_listAt (eqU x) pl.isList (fun w hw=>jek rx fx r fs w (by simpa using hw)) ⟨.bl _,H,I,rfl,?_⟩
  rw [show its.toArray.any (eqU x) = its.any (eqU x) by simp,jgx r fs]
  exact q
 ·obtain ⟨its,r,pl,hz⟩:=I.tuple hq
  refine SeqAt.notIn_tupleAt (eqU x) pl (fun w hw=>jek rx fx r fs w (by simpa using hw)) ⟨.bl _,H,I,rfl,?_⟩
  rw [show its.toArray.any (eqU x) = its.any (eqU x) by simp,jgx r fs]
  exact q
theorem jdi : jbu X (.builtin "len") (fun xs H Q=>∃ p ys,xs = [.ref p]∧(SqL X.K H p ys ∨ SqT X.K H p ys)∧Q (.int ys.length) H):=by
 intro pins s σ H xs us Q I r h
 obtain ⟨p,ys,rfl,hq,q⟩:=h
 obtain ⟨u,rfl,rx⟩:=jfz r
 cases rx
 have hn:=jk0
 rcases hq with hq | hq
 ·obtain ⟨its,r',pl,hz⟩:=I.list hq
  have hlen:=r'.length
  exact Calls.call_len_list pl.isList (by simp only [List.size_toArray] <;> omega) ⟨.int ys.length,H,I.tok _,⟨s.toks + 1,by rw [List.size_toArray,hlen]⟩,q⟩
 ·obtain ⟨its,r',pl,hz⟩:=I.tuple hq
  have hlen:=r'.length
  exact len_tuple pl (by simp only [List.size_toArray] <;> omega) ⟨.int ys.length,H,I.tok _,⟨s.toks + 1,by rw [List.size_toArray,hlen]⟩,q⟩
theorem jbu.or {f : Value} {r r' : List V→Hp→VK→Prop} (h : jbu X f r) (h' : jbu X f r') : jbu X f (fun xs H Q=>r xs H Q ∨ r' xs H Q):=by
 intro pins s σ H xs us Q I rs q
 rcases q with q | q
 ·exact h pins s σ H xs us Q I rs q
 ·exact h' pins s σ H xs us Q I rs q
theorem jeq : jbu X (.type "tuple") (fun xs H Q=>∃ p ys,xs = [.ref p]∧((SqL X.K H p ys∧∀ l,H l = none→Q (.ref l) (upd H l (.tup ys))) ∨ (SqT X.K H p ys∧Q (.ref p) H))):=by
 intro pins s σ H xs us Q I r h
 obtain ⟨p,ys,rfl,h⟩:=h
 obtain ⟨u,rfl,rx⟩:=jfz r
 cases rx
 rcases h with ⟨hq,q⟩ | ⟨hq,q⟩
 ·obtain ⟨its,r',pl,hz⟩:=I.list hq
  have hlen:=r'.length
  refine call_tuple_list pl.isList (fun h' kp=>?_) (by simp only [List.size_toArray] <;> omega)
  have I1 : Inv X pins σ H { s with heap:=h' }:=I.kept (t':=s.toks) kp
  have I2 : Inv X pins σ (upd H h'.objs.size (.tup ys)) { s with heap:=h'.push { cls:=.type "tuple",data:=.seq its.toArray } } :=
   I1.laid (t':=s.toks) (fun b o e=>Heap.get?_push_of_some _ e) (Nat.le_refl _) (show jb2 X.prog X.w _ _ _ (.tup ys) from ⟨hz,its,r',IsTup.new _ _⟩)
  exact ⟨.ref h'.objs.size,_,I2,rfl,q _ (I1.hok.fresh (Nat.le_refl _))⟩
 ·obtain ⟨its,r',pl,hz⟩:=I.tuple hq
  exact call_tuple_same pl ⟨.ref p,H,I,rfl,q⟩
noncomputable def tyV (K : PySem.W.Frag) (T : String) (x : V) (H : Hp) : Prop:=match x with
 | .str _=>T = "str"
 | .int _=>T = "int"
 | .ref p=>(T = "list"∧∃ xs,SqL K H p xs) ∨ (T = "tuple"∧∃ o,K.lookup p = some o∧o.cls = .type "tuple"∧o.dict = none) ∨
   (T = "dict"∧((∃ kvs,H p = some (.dK kvs)) ∨ ∃ kvs,H p = some (.dT kvs))) ∨ (T = "set"∧∃ S n,H p = some (.set S n))
 | _=>False
theorem tyV_is {pins : List (Addr × Obj)} {σ : St} {H : Hp} {s : Shared} {T : String} {x : V} {v : Value} (I : Inv X pins σ H s) (r : RelV x v) (ty : tyV X.K T x H) :
  s.TypeIs v T∧∀ a,v = .ref a→∃ ob,s.heap.get? a = some ob∧ob.dict = none:=by
 cases x with
 | str z =>
  obtain ⟨t,rfl⟩:=r
  cases (show T = "str" from ty)
  exact ⟨typeIs_str s z t,fun _ e=>nomatch e⟩
 | int i =>
  obtain ⟨t,rfl⟩:=r
  cases (show T = "int" from ty)
  exact ⟨typeIs_int s i t,fun _ e=>nomatch e⟩
 | ref p =>
  cases r
  rcases ty with ⟨rfl,xs,hq⟩ | ⟨rfl,o,hk,hc,hd⟩ | ⟨rfl,hk⟩ | ⟨rfl,S,n,hk⟩
  ·obtain ⟨its,_,pl,_⟩:=I.list hq
   refine ⟨pl.isList.typeIs,fun a e=>?_⟩
   cases e
   obtain ⟨o,n,e,c,hd,_⟩:=pl
   exact ⟨o,e,hd⟩
  ·refine ⟨⟨o,I.kIn p o hk,hc⟩,fun a e=>?_⟩
   cases e
   exact ⟨o,I.kIn _ o hk,hd⟩
  ·have z : ∃ o,s.heap.get? p = some o∧o.ExactDict:=by
    rcases hk with ⟨kvs,hk⟩ | ⟨kvs,hk⟩
    ·obtain ⟨_,_,_,_,o,_,_,e,ex,_⟩:=I.hok p _ hk
     exact ⟨o,e,ex⟩
    ·obtain ⟨_,_,_,_,o,_,_,e,ex,_⟩:=I.hok p _ hk
     exact ⟨o,e,ex⟩
   obtain ⟨o,e,ex⟩:=z
   refine ⟨⟨o,e,ex.1⟩,fun a e2=>?_⟩
   cases e2
   exact ⟨o,e,ex.2.1⟩
  ·obtain ⟨o,_,_,_,e,ex,_⟩:=I.hok p _ hk
   refine ⟨⟨o,e,ex.1⟩,fun a e2=>?_⟩
   cases e2
   exact ⟨o,e,ex.2.1⟩
 | _=>exact False.elim ty
variable {o e : Expr} {es : List Expr} {to : TE} {t : TA} {name : Str} {apos cpos : Pos} {T id : String} {r : V→List V→Hp→VK→Prop}
/- xs.append(e),list.index on a module's tuple .. are MtR facts of 06m -/
end
end L2
namespace L2
open PySem PySem.Spec PyProof.Rows
noncomputable def MtM (X : Cx) (id : String) (r : V→List V→Hp→VK→Prop) : Prop :=
 ∀ (pins : List (Addr × Obj)) (s : Shared) (σ : St) (H : Hp) (x : V) (xs : List V) (v : Value) (us : List Value) (Q : VK),Inv X pins σ H s→RelV x v→Vals xs us→r x xs H Q →
  wpAny (model X.prog X.w) X.A (call (.builtin id) (v :: us)) (EP X pins σ Q) X.xe s
theorem Vals.one : ∀ {x : V} {us : List Value},Vals [x] us→∃ u,us = [u]∧RelV x u
 | _,_,.cons r .nil=>⟨_,rfl,r⟩
theorem Vals.two : ∀ {x y : V} {us : List Value},Vals [x,y] us→∃ u v,us = [u,v]∧RelV x u∧RelV y v
 | _,_,_,.cons r (.cons q .nil)=>⟨_,_,rfl,r,q⟩
theorem Vals.rep {xs : List V} {us : List Value} (h : Vals xs us) : ∀ k : Nat,Vals (List.replicate k xs).flatten (List.replicate k us).flatten
 | 0=>.nil
 | k + 1=>by
  rw [List.replicate_succ,List.replicate_succ,List.flatten_cons,List.flatten_cons]
  exact Vals.append h (Vals.rep h k)
section
variable {X : Cx} {pins : List (Addr × Obj)} {σ : St} {H : Hp} {s : Shared} {l b : Addr} {xs ys zs : List V}
theorem Inv.lset {its its' : List Value} {n : Nat} {f : Array Value→Array Value} {t' : Nat} (I : Inv X pins σ H s) (hH : H l = some (.lst xs))
  (e : s.heap.get? l = some { cls:=.type "list",data:=.seq its.toArray n }) (hf : f its.toArray = its'.toArray) (hv : Vals ys its') (hz : ys.length ≤ sizeLine) :
  Inv X pins σ (upd H l (.lst ys)) { s with heap:=s.heap.update l (Obj.mapSeq f),toks:=t' }:=by
 have q:=PySem.IsL.update e f
 rw [hf] at q
 refine I.write (x:=l) (e:=l) (by rw [hH]; exact trivial) (.inl rfl) (fun b' u hb hu=>(Heap.get?_update_other s.heap (Obj.mapSeq f) (Ne.symm hb)).trans hu) ⟨_,q⟩ ?_
 exact ⟨hz,its',_,hv,q⟩
theorem Inv.lnew {its : List Value} {t' : Nat} (I : Inv X pins σ H s) (hv : Vals ys its) (hz : ys.length ≤ sizeLine) :
  Inv X pins σ (upd H s.heap.objs.size (.lst ys)) { s with heap:=s.heap.push { cls:=.type "list",data:=.seq its.toArray },toks:=t' } :=
 I.laid (fun _ _ q=>Heap.get?_push_of_some _ q) (Nat.le_refl _) ⟨hz,its,0,hv,Heap.get?_push_size _ rfl⟩
theorem Inv.fresh (I : Inv X pins σ H s) : H s.heap.objs.size = none:=I.hok.fresh (Nat.le_refl _)
theorem Inv.lstM (I : Inv X pins σ H s) (hH : H l = some (.lst xs)) : xs.length ≤ sizeLine∧∃ (its : List Value) (n : Nat),Vals xs its∧xs.length = its.length∧s.heap.get? l = some { cls:=.type "list",data:=.seq its.toArray n }:=by
 obtain ⟨z,its,n,r,e⟩:=I.hok l _ hH
 exact ⟨z,its,n,r,r.length,e⟩
end
section
variable {X : Cx}
noncomputable def jns : V→List V→Hp→VK→Prop:=fun x vs H Q=>∃ l xs y,x = .ref l∧vs = [y]∧H l = some (.lst xs)∧xs.length < sizeLine∧Q .non (upd H l (.lst (xs ++ [y])))
theorem jjx : MtM X "list.append" jns:=by
 intro pins s σ H x vs v us Q I rx rv h
 obtain ⟨l,xs,y,rfl,rfl,hH,hz,q⟩:=h
 cases rx
 obtain ⟨u,rfl,ru⟩:=rv.one
 obtain ⟨z,its,n,r,hl,e⟩:=I.lstM hH
 refine call_meets F.slot_list_append ⟨_,e,rfl⟩ F.entry_list_append (F.args_list_append_2 _ _) (PySem.list_append l its.toArray n u (by rw [List.size_toArray]; omega)) ⟨e,?_⟩
 refine ⟨.non,_,I.lset (its':=its ++ [u]) hH e (by simp) (r.append (.cons ru .nil)) ?_,rfl,q⟩
 rw [List.length_append,List.length_singleton]
 omega
noncomputable def rCat : R2:=fun x y H Q=>∃ l b xs zs,x = .ref l∧y = .ref b∧H l = some (.lst xs)∧H b = some (.lst zs)∧xs.length + zs.length ≤ sizeLine∧∀ p,H p = none→Q (.ref p) (upd H p (.lst (xs ++ zs)))
theorem op_cat : OpR X (binaryOp .Add) rCat:=by
 intro pins s σ H x y v u Q I rx ry h
 obtain ⟨l,b,xs,zs,rfl,rfl,hH,hB,hz,q⟩:=h
 cases rx
 cases ry
 obtain ⟨z,its,n,r,hl,e⟩:=I.lstM hH
 obtain ⟨z2,its2,n2,r2,hl2,e2⟩:=I.lstM hB
 refine PySem.P.add_list e e2 ?_ (by rw [List.size_toArray,List.size_toArray]; omega)
 have ea : its.toArray ++ its2.toArray = (its ++ its2).toArray:=by simp
 rw [ea]
 exact ⟨.ref _,_,I.lnew (t':=s.toks) (r.append r2) (by rw [List.length_append]; omega),rfl,q _ I.fresh⟩
end
section
variable {prog : Program} {w : World} {A : Around} {E : Value→Shared→Prop} {s : Shared}
end
section
variable {X : Cx}
end
end L2
namespace Att
open PySem PySem.W PySem.Calls PyProof.Rows
theorem jgu {P : Params} {h : Heap} : ∀ (ns : List Int) (vs : List Value),WellAll P h vs (ns.map WData.int)→IntsAre vs ns:=by
 intro ns
 induction ns with
 | nil =>
  intro vs w
  rw [List.map_nil] at w
  cases w
  exact .nil
 | cons n ns ih =>
  intro vs w
  rw [List.map_cons] at w
  cases w with
  | cons a b =>
   cases a
   exact .cons _ _ (ih _ b)
theorem jnm {l : OpenLaw} {n : Nat} (hn : l.most = some n) {P : Params} {h : Heap} {args : List WData} {vals : List Value}
  (hpre : l.row.toRowW.claim.pre args = true) (hwl : WellAll P h vals args) :
  ∃ a vs ns,vals = [Value.ref a]∧args = [WData.list (ns.map WData.int)]∧h.get? a = some { cls:=.type "list",data:=.seq vs.toArray }∧IntsAre vs ns∧ns.length ≤ n:=by
 have hsh : WShape.hasAll [] args [.list .int] = true:=(pre_splitW hpre).1
 have hc : l.pre.holds [] { args:=args } = true:=(pre_splitW hpre).2
 obtain ⟨d,r,rfl,h1,h2⟩:=hasAllW_cons hsh
 obtain rfl:=hasAllW_nil h2
 obtain ⟨xs,rfl,h3⟩:=hasW_list h1
 obtain ⟨ns,rfl⟩:=items_int h3
 have hlen : ns.length ≤ n:=by
  unfold OpenLaw.pre at hc
  have h4 : (WTm.not (.lt (.lit (.int (n : Int))) (.len (.arg 0)))).holds [] { args:=[.list (ns.map .int)] } = true:=by
   have h4:=(holds_andW hc).1
   rw [hn] at h4
   exact h4
  have h5:=condW_of h4 (w_not (w_lt w_lit (w_len_list (w_arg rfl))))
  rw [List.length_map] at h5
  refine Nat.le_of_not_lt fun q=>?_
  have q' : (n : Int) < ((ns.length : Nat) : Int):=by omega
  first
   | (rw [decide_eq_true q'] at h5; exact absurd h5 (by decide))
   | (simp at h5; omega)
 cases hwl with
 | cons w1 w2 =>
  cases w2
  cases w1 with
  | list ho hall=>exact ⟨_,_,ns,rfl,rfl,ho,jgu ns _ hall,hlen⟩
theorem jnz (l : OpenLaw) (args : List WData) : l.row.toRowW.claim.post args (.bool true) args = true :=
 postW_of (r:=l.row.toRowW) (X:=(true == true))
  (show WShape.has [] (.bool true) .bool = true by first | rfl | decide | simp [WShape.has,WShape.arms,WShape.armsAll])
  (show (WTm.eq .res (.lit (.bool true))).value [] { args:=args,res:=some (.bool true),after:=args } = some (.bool (true == true)) from w_eq_bool (w_res rfl) w_lit) rfl
theorem attach_call {l : OpenLaw} {n : Nat} {q : Program} {loose : List Str} {XP : (Str→Option Value)→Heap→Prop} {YP : World→Heap→Prop} {d : DefRec}
  (hn : l.most = some n) (hdf : d.params.defaults = [])
  (call : ∀ (w : World) (s₀ s₁ : Shared) (mg mb : Str→Option Value) (fa : Addr) (o : Obj) (pm cd doc : Value) (a : Addr) (vs : List Value) (ns : List Int),
   Ground q loose [] XP w s₀ mg mb s₁.heap→YP w s₁.heap →
   s₁.heap.get? fa = some o→o.data = .func (docDef d.name d.params d.body d.scope pm cd doc)→s₁.heap.CodeRec cd d.name→mg d.name = some (.ref fa) →
   s₁.heap.get? a = some { cls:=.type "list",data:=.seq vs.toArray }→IntsAre vs ns→ns.length ≤ n→s₁.gens = #[] →
   codeAny (model l.prog w) callerA (.call (.ref fa) ⟨[.ref a],[]⟩) (fun r s'=>r = .ok (.ret (.bool true))∧OldK s₁.heap s'.heap∧s'.os = s₁.os∧AllBare s'.gens) s₁) :
  WalkO q loose XP YP l.row.toRowW d [] (fun f vs=>PySem.call f vs):=by
 intro w s₀ s₁ mg mb G Y fa o pm cd doc dV kV ho hd hcd hD hmg hg args vals as hpre hlay hrd hwl hlo
 obtain rfl : dV = .none:=Dflts.none hD hdf
 obtain rfl : kV = .none:=Dflts.noKw hD
 obtain ⟨a,vs,ns,rfl,rfl,hobj,hints,hlen⟩:=jnm hn hpre hwl
 refine enter_call (codeAny_mono (call w s₀ s₁ mg mb fa o pm cd doc a vs ns G Y ho (fd_plain hd) hcd hmg hobj hints hlen hg) fun r s' hq=>?_)
 obtain ⟨rfl,h2,h3,h4⟩:=hq
 exact ⟨.inl ⟨.bool true,.bool true,[],rfl,fun _=>rfl,.bool true,jnz l _,fun _=>⟨List.Pairwise.nil,fun _ hm=>(nomatch hm)⟩⟩,h2,h3,h4⟩
section
variable {prog : Program} {w : World} {A : Around} {E : Value→Shared→Prop} {s : Shared} {K : Frag}
end
end Att
namespace L2
open PySem PySem.Spec PyProof.Rows
theorem jfy : ∀ {vs : List Value} {ns : List Int},IntsAre vs ns→Vals (ns.map V.int) vs
 | _,_,.nil=>.nil
 | _,_,.cons n t h=>.cons ⟨t,rfl⟩ (jfy h)
noncomputable def Only (H : Hp) : Prop:=∀ b,H b = none ∨ ∃ o xs,H b = some (.frz o (.lst xs))
end L2
namespace L2
open PySem PySem.Spec PyProof.Rows
noncomputable abbrev KOf {K : PySem.W.Frag} {h : Heap} (_ : K.In h) : PySem.W.Frag:=K
end L2
/- THE LAST THEOREM (shape; LID,My.* are yours):
   My.Adr: a structure of the addresses that your layer names (classes,functions); My.Txt K t: a structure (Prop) of the equations over K;
   My.txt_mk : {K} {implicit addresses ..} (e1 : nsIn K mainGlobals "law" = some (some (.ref f))) (e2 : K.lookup f = some ⟨oc,od,.func (fnOf "law" "law" params body scope dV kV doc pm an cdv ct),sl⟩) (e3 : codeIn K cdv "law" = true) .. : ∃ t,My.Txt K t
set_option maxRecDepth 100000 in
set_option maxHeartbeats 0 in
theorem PySem.Challenge.cw_LID_holds : PySem.Challenge.rw_LID.Holds := by
 w_on; o_law; k_head; (case hw=>w_witness2)
 k_fill
 refine L2.walk_of (l:=PySem.Challenge.rw_LID) (n:=63) (k:=40) (x:="script") (CX:=fun w=>..) (sp:=fun _=>My.sp_law) rfl (by decide) rfl ⟨rfl,by decide,by decide⟩ (fun w h Y=>PySem.W.kIn_of Y) ?F ?S ?C
 case F =>
  intro w mg fa h KX G hmg
  have T : ∃ t,My.Txt (L2.KOf KX) t:=by
   dsimp only [L2.KOf]                          -- K must stand as «<heap const> w.params» for k_is
   refine' My.txt_mk ?e1 ?e2 ?e3 ..
   (case e1=>PySem.W.k_is)                    -- in the order: a name -> its address -> its object -> its parts
   (case e2=>PySem.W.k_is)
   ..
  obtain ⟨t,T⟩:=T
  have e0:=hmg.symm.trans (PySem.W.mg_of KX G T.law)
  cases e0                                       -- fa is the law's own address
  exact ⟨_,fun s u=>.of_eq rfl,fun base kb nb=>My.law_fn T kb nb⟩     -- if «.of_eq rfl» comes too early: refine' ⟨_,?b,fun base kb nb=>My.law_fn T kb nb⟩; exact fun s u=>.of_eq rfl
 case S=>exact fun w H a ns hl hO hS=>..
 case C=>exact ..
(the tactic k_is has no namespace: write k_is) -/
namespace L2
open PySem PySem.Spec PyProof.Rows
noncomputable def jdh (s : Stmt) : Arguments:=match s with
 | .FunctionDef _ a _ _ _ _ _ _ _ _=>a
 | _=>{ posonlyargs:=[],args:=[],vararg:=none,kwonlyargs:=[],kw_defaults:=[],kwarg:=none,defaults:=[] }
noncomputable def jcd (s : Stmt) : List Stmt:=match s with
 | .FunctionDef _ _ b _ _ _ _ _ _ _=>b
 | _=>[]
noncomputable def ja9 (s : Stmt) : Scope:=match s with
 | .FunctionDef _ _ _ _ _ _ sc _ _ _=>sc
 | _=>{ kind:=.function,names:=[],isGenerator:=false,isCoroutine:=false }
noncomputable abbrev CX0 : CXT:=fun _ _ _ _ _ _=>False
noncomputable abbrev E0 : XK:=fun _ _ _=>False
theorem jaq {X : Cx} : jpd CX0 X E0:=fun _ _ _ _ _ _ _ h=>h.elim
structure Fun (K : PySem.W.Frag) (x qual : Str) (st : Stmt) (f : Addr) (fd : FuncData) : Prop where
 ex : ∃ (oc : Value) (od : Option Addr) (kV doc pm : Value) (an : Option Addr) (cdv ct : Value) (osl : Array (Option Value)),
  fd = PySem.W.fnOf x qual (jdh st) (jcd st) (ja9 st) .none kV doc pm an cdv ct∧K.lookup f = some ⟨oc,od,.func fd,osl⟩∧PySem.W.codeIn K cdv qual = true
 kp : PySem.W.keepIn K (.ref f) = true
section
variable {P : Program} {w : World} {K : PySem.W.Frag} {mg : Str→Option Value} {base : Heap}
theorem Fun.ok {x qual : Str} {st : Stmt} {f : Addr} {fd : FuncData} {N ps : List Str} {k : Nat} {sp : Sp} (F : Fun K x qual st f fd) (S : FnScope N ps (ja9 st)) (len : ∀ vs H Q E,sp vs H Q E→vs.length = ps.length)
  (hbody : ∀ (cdv : Value) (A : Around) (outer : List Env) (s : Shared) (H : Hp) (vs : List V) (Q : VK) (E : XK),Room k (A.deeper (envOfC qual (ja9 st) s.heap.objs.size f cdv))→sp vs H Q E →
   ∃ t,PSs (cxOf CX0 P w K mg base N qual (ja9 st) f cdv A outer s H E).nox (jcd st) t∧t { nx:=fun _ H'=>Q .non H',rt:=Q } (start N vs) H) : FnOk P w K mg base CX0 (k + 1) f fd ps sp:=by
 obtain ⟨oc,od,kV,doc,pm,an,cdv,ct,osl,rfl,lk,hcd⟩:=F.ex
 refine jrv lk hcd S len fun A outer s H vs Q E hr hsp=>?_
 obtain ⟨t,h,q⟩:=hbody cdv A outer s H vs Q E hr hsp
 exact ⟨t,h.nox,q⟩
theorem Fun.binds {x qual : Str} {st : Stmt} {f : Addr} {fd : FuncData} {ps : List Str} (F : Fun K x qual st f fd)
  (h : ∀ (kV doc pm : Value) (an : Option Addr) (cdv ct : Value) (us : List Value),us.length = ps.length→bindArgs (PySem.W.fnOf x qual (jdh st) (jcd st) (ja9 st) .none kV doc pm an cdv ct) ⟨us,[]⟩ = pure (ps.zip us)) : je3 K fd ps []:=by
 obtain ⟨oc,od,kV,doc,pm,an,cdv,ct,osl,rfl,lk,hcd⟩:=F.ex
 exact .all (h kV doc pm an cdv ct)
theorem jap {x qual : Str} {st : Stmt} {f : Addr} {oc : Value} {od an : Option Addr} {osl : Array (Option Value)} {kV doc pm cdv ct : Value} (l : K.lookup f = some ⟨oc,od,.func (PySem.W.fnOf x qual (jdh st) (jcd st) (ja9 st) .none kV doc pm an cdv ct),osl⟩)
  (c : PySem.W.codeIn K cdv qual = true) (k : PySem.W.keepIn K (.ref f) = true) : Fun K x qual st f (PySem.W.fnOf x qual (jdh st) (jcd st) (ja9 st) .none kV doc pm an cdv ct):=⟨⟨oc,od,kV,doc,pm,an,cdv,ct,osl,rfl,l,c⟩,k⟩
end
theorem jb8 {A : Around} {k : Nat} (hr : Room k A) : A.units + 1 < cLine:=Nat.lt_of_le_of_lt (Nat.add_le_add_left (by decide : 1 ≤ 64) _) hr.units
section
variable {X : Cx}
end
theorem ite2 {c A B : Prop} [Decidable c] (h1 : c→A) (h2 : ¬ c→B) : if c then A else B:=by
 by_cases h : c
 ·rw [if_pos h]
  exact h1 h
 ·rw [if_neg h]
  exact h2 h
noncomputable def Same (H H' : Hp) : Prop:=∀ b o,H b = some o→H' b = some o
theorem Same.refl (H : Hp) : Same H H:=fun _ _ h=>h
theorem Same.trans {H H1 H2 : Hp} (a : Same H H1) (b : Same H1 H2) : Same H H2:=fun c o h=>b c o (a c o h)
theorem Same.free {H H' : Hp} (e : Same H H') {l : Addr} (h : H' l = Option.none) : H l = Option.none:=by
 cases q : H l with
 | none=>rfl
 | some o =>
  rw [e l o q] at h
  cases h
end L2
set_option maxHeartbeats 8000000
namespace L2
open PySem PySem.Spec PyProof.Rows
section
variable {κ : Type} [DecidableEq κ]
noncomputable def valV (kvs : List (κ × V)) (k : κ) : Option V:=(kvs.find? fun kv=>decide (kv.1 = k)).map (·.2)
noncomputable def putK (kvs : List (κ × V)) (k : κ) (v : V) : List (κ × V) :=
 if (kvs.any fun kv=>decide (kv.1 = k)) = true then kvs.map (fun kv=>if kv.1 = k then (kv.1,v) else kv) else kvs ++ [(k,v)]
noncomputable def dropK (kvs : List (κ × V)) (k : κ) : List (κ × V):=kvs.filter fun kv=>decide (kv.1 ≠ k)
theorem jbm {p : κ × V} {r : List (κ × V)} {k : κ} (e : p.1 = k) : valV (p :: r) k = some p.2:=by simp [valV,List.find?_cons,e]
theorem jbn {p : κ × V} {r : List (κ × V)} {k : κ} (e : ¬ p.1 = k) : valV (p :: r) k = valV r k:=by simp [valV,List.find?_cons,e]
theorem je5 (k : κ) : ∀ kvs : List (κ × V),(kvs.any fun kv=>decide (kv.1 = k)) = (valV kvs k).isSome
 | []=>rfl
 | p :: r=>by
  rw [List.any_cons]
  by_cases e : p.1 = k
  ·simp only [jbm e,decide_eq_true e,Bool.true_or,Option.isSome_some]
  ·rw [jbn e,decide_eq_false e,Bool.false_or]; exact je5 k r
theorem jlf (k j : κ) (y : V) : ∀ kvs : List (κ × V),valV (kvs.map fun kv=>if kv.1 = k then (kv.1,y) else kv) j = (valV kvs j).map fun x=>if j = k then y else x
 | []=>rfl
 | p :: r=>by
  have ih:=jlf k j y r
  rw [List.map_cons]
  by_cases h : p.1 = k
  ·rw [if_pos h]
   by_cases e : p.1 = j
   ·rw [jbm (p:=(p.1,y)) e,jbm e,Option.map_some,if_pos (e.symm.trans h)]
   ·rw [jbn (p:=(p.1,y)) e,jbn e,ih]
  ·rw [if_neg h]
   by_cases e : p.1 = j
   ·rw [jbm (p:=p) e,jbm e,Option.map_some,if_neg (fun z=>h (e.trans z))]
   ·rw [jbn (p:=p) e,jbn e,ih]
theorem jjc (k j : κ) (y : V) : ∀ kvs : List (κ × V),valV kvs k = none→valV (kvs ++ [(k,y)]) j = if j = k then some y else valV kvs j
 | [],_=>by
  by_cases e : k = j
  ·rw [if_pos e.symm]; exact jbm (p:=(k,y)) e
  ·rw [if_neg (fun z=>e z.symm)]; exact jbn (p:=(k,y)) e
 | p :: r,hn=>by
  rw [List.cons_append]
  have hk : ¬ p.1 = k:=fun z=>by rw [jbm z] at hn; cases hn
  rw [jbn hk] at hn
  have ih:=jjc k j y r hn
  by_cases e : p.1 = j
  ·rw [jbm e,jbm e,if_neg (fun z=>hk (e.trans z))]
  ·rw [jbn e,jbn e,ih]
theorem jle (kvs : List (κ × V)) (k j : κ) (y : V) : valV (putK kvs k y) j = if j = k then some y else valV kvs j:=by
 unfold putK
 by_cases a : (kvs.any fun kv=>decide (kv.1 = k)) = true
 ·rw [if_pos a,jlf]
  rw [je5] at a
  by_cases e : j = k
  ·obtain ⟨x,hx⟩:=Option.isSome_iff_exists.mp a
   rw [if_pos e,e,hx,Option.map_some,if_pos rfl]
  ·rw [if_neg e]
   cases valV kvs j with
   | none=>rfl
   | some x=>rw [Option.map_some,if_neg e]
 ·rw [if_neg a]
  refine jjc k j y kvs ?_
  rw [je5] at a
  cases q : valV kvs k with
  | none=>rfl
  | some x=>rw [q] at a; exact (a rfl).elim
theorem jcv (kvs : List (κ × V)) (k : κ) (v : V) : (putK kvs k v).length ≤ kvs.length + 1:=by
 unfold putK
 split
 ·rw [List.length_map]; omega
 ·rw [List.length_append,List.length_cons,List.length_nil]; omega
theorem putK_new {kvs : List (κ × V)} {k : κ} (v : V) (h : valV kvs k = none) : putK kvs k v = kvs ++ [(k,v)]:=by
 unfold putK
 rw [je5,h]
 exact if_neg (by decide)
theorem RelO.isSome_eq {o : Option V} {u : Option Value} (r : RelO o u) : o.isSome = u.isSome:=by
 cases o with
 | none=>cases u with
  | none=>rfl
  | some _=>exact (show False from r).elim
 | some _=>cases u with
  | none=>exact (show False from r).elim
  | some _=>rfl
theorem RelO.getD {o : Option V} {u : Option Value} {d : V} {d' : Value} (r : RelO o u) (rd : RelV d d') : RelV (o.getD d) (u.getD d'):=by
 cases o with
 | none=>cases u with
  | none=>exact rd
  | some _=>exact (show False from r).elim
 | some _=>cases u with
  | none=>exact (show False from r).elim
  | some _=>exact r
theorem KV.val {kvs : List (κ × V)} {vs : List (κ × Value)} (r : KV kvs vs) (k : κ) : RelO (valV kvs k) (valueAt vs k):=by
 unfold KV at r
 induction r with
 | nil=>exact True.intro
 | @cons p q ps qs h t ih =>
  obtain ⟨h1,h2⟩:=h
  by_cases e : p.1 = k
  ·have e' : q.1 = k:=h1.symm.trans e
   have b : valueAt (q :: qs) k = some q.2:=by simp [valueAt,List.find?_cons,e']
   rw [jbm e,b]; exact h2
  ·have e' : ¬ q.1 = k:=fun z=>e (h1.trans z)
   have b : valueAt (q :: qs) k = valueAt qs k:=by simp [valueAt,List.find?_cons,e']
   rw [jbn e,b]; exact ih
theorem KV.any {kvs : List (κ × V)} {vs : List (κ × Value)} (r : KV kvs vs) (k : κ) : (kvs.any fun kv=>decide (kv.1 = k)) = vs.any fun kv=>decide (kv.1 = k):=by
 unfold KV at r
 induction r with
 | nil=>rfl
 | cons h t ih=>rw [List.any_cons,List.any_cons,ih,h.1]
theorem KV.repl {kvs : List (κ × V)} {vs : List (κ × Value)} (r : KV kvs vs) (k : κ) {y : V} {u : Value} (ry : RelV y u) :
  KV (kvs.map fun kv=>if kv.1 = k then (kv.1,y) else kv) (vs.map fun kv=>if kv.1 = k then (kv.1,u) else kv):=by
 unfold KV at r ⊢
 induction r with
 | nil=>exact .nil
 | @cons p q ps qs h t ih =>
  rw [List.map_cons,List.map_cons]
  refine .cons ?_ ih
  obtain ⟨h1,h2⟩:=h
  by_cases e : p.1 = k
  ·rw [if_pos e,if_pos (h1.symm.trans e)]; exact ⟨h1,ry⟩
  ·rw [if_neg e,if_neg (fun z=>e (h1.trans z))]; exact ⟨h1,h2⟩
theorem KV.put {kvs : List (κ × V)} {vs : List (κ × Value)} (r : KV kvs vs) (k : κ) {y : V} {u : Value} (ry : RelV y u) : KV (putK kvs k y) (stored vs k u):=by
 unfold putK stored
 rw [r.any k]
 by_cases e : (vs.any fun kv=>decide (kv.1 = k)) = true
 ·rw [if_pos e,if_pos e]; exact r.repl k ry
 ·rw [if_neg e,if_neg e]; exact Paired.snoc r ⟨rfl,ry⟩
theorem KV.drop {kvs : List (κ × V)} {vs : List (κ × Value)} (r : KV kvs vs) (k : κ) : KV (dropK kvs k) (without vs k):=by
 unfold KV at r ⊢
 unfold dropK without
 induction r with
 | nil=>exact .nil
 | @cons p q ps qs h t ih =>
  obtain ⟨h1,h2⟩:=h
  rw [List.filter_cons,List.filter_cons]
  by_cases e : p.1 = k
  ·have a : ¬ decide (p.1 ≠ k) = true:=by simp [e]
   have b : ¬ decide (q.1 ≠ k) = true:=by simp [h1.symm.trans e]
   rw [if_neg a,if_neg b]; exact ih
  ·have e' : ¬ q.1 = k:=fun z=>e (h1.trans z)
   have a : decide (p.1 ≠ k) = true:=by simp [e]
   have b : decide (q.1 ≠ k) = true:=by simp [e']
   rw [if_pos a,if_pos b]; exact .cons ⟨h1,h2⟩ ih
theorem KV.keys {kvs : List (κ × V)} {vs : List (κ × Value)} (r : KV kvs vs) : kvs.map (·.1) = vs.map (·.1):=by
 unfold KV at r
 induction r with
 | nil=>rfl
 | cons h t ih=>rw [List.map_cons,List.map_cons,ih,h.1]
theorem KV.length {kvs : List (κ × V)} {vs : List (κ × Value)} (r : KV kvs vs) : kvs.length = vs.length:=Paired.length r
end
theorem jmx {P : Program} {w : World} {k : Key} {u : Value} (r : RelV (kV k) u) : (jbd P w).is k u = true:=by
 cases k with
 | inl i=>obtain ⟨t,e⟩:=(show ∃ t,u = Value.int i t from r); subst e; exact jl1 P w i t
 | inr x=>obtain ⟨t,e⟩:=(show ∃ t,u = Value.str x t from r); subst e; exact jl0 P w x t
theorem jk2 {P : Program} {w : World} : ∀ {ks : List Key} {us : List Value},Vals (ks.map kV) us→ItemsAre (jbd P w) ks us
 | [],_,r=>by rw [List.map_nil] at r; cases r; exact .nil
 | k :: ks,_,r=>by
  rw [List.map_cons] at r
  cases r with
  | cons h t=>exact .cons (jmx h) (jk2 t)
noncomputable abbrev KT (H : Hp) : List (List Key × V)→List (List Key × Addr × Value)→Prop:=Paired fun p q=>p.1 = q.1∧H q.2.1 = some (.tup (p.1.map kV))∧RelV p.2 q.2.2
theorem KT.val {H : Hp} {kvs : List (List Key × V)} {xs : List (List Key × Addr × Value)} (r : KT H kvs xs) (k : List Key) : RelO (valV kvs k) ((atKey xs k).map (·.2)):=by
 induction r with
 | nil=>exact True.intro
 | @cons p q ps qs h t ih =>
  obtain ⟨h1,_,h2⟩:=h
  by_cases e : p.1 = k
  ·have e' : q.1 = k:=h1.symm.trans e
   have b : atKey (q :: qs) k = some q.2:=by simp [atKey,List.find?_cons,e']
   rw [jbm e,b]; exact h2
  ·have e' : ¬ q.1 = k:=fun z=>e (h1.trans z)
   have b : atKey (q :: qs) k = atKey qs k:=by simp [atKey,List.find?_cons,e']
   rw [jbn e,b]; exact ih
theorem KT.repl {H : Hp} {kvs : List (List Key × V)} {xs : List (List Key × Addr × Value)} (r : KT H kvs xs) (k : List Key) {y : V} {u : Value} (ry : RelV y u) :
  KT H (kvs.map fun kv=>if kv.1 = k then (kv.1,y) else kv) (xs.map (putAt k u)):=by
 induction r with
 | nil=>exact .nil
 | @cons p q ps qs h t ih =>
  rw [List.map_cons,List.map_cons]
  refine .cons ?_ ih
  obtain ⟨h1,h2,h3⟩:=h
  unfold putAt
  by_cases e : p.1 = k
  ·rw [if_pos e,if_pos (h1.symm.trans e)]; exact ⟨h1,h2,ry⟩
  ·rw [if_neg e,if_neg (fun z=>e (h1.trans z))]; exact ⟨h1,h2,h3⟩
theorem KT.put {H : Hp} {kvs : List (List Key × V)} {xs : List (List Key × Addr × Value)} (r : KT H kvs xs) (k : List Key) {b : Addr} {y : V} {u : Value} (hb : H b = some (.tup (k.map kV))) (ry : RelV y u) :
  KT H (putK kvs k y) (storedH xs k b u):=by
 have e : (kvs.any fun kv=>decide (kv.1 = k)) = (atKey xs k).isSome:=by
  rw [je5,(r.val k).isSome_eq,Option.isSome_map]
 unfold putK storedH
 rw [e]
 by_cases q : (atKey xs k).isSome = true
 ·rw [if_pos q,if_pos q]; exact r.repl k ry
 ·rw [if_neg q,if_neg q]; exact Paired.snoc r ⟨rfl,hb,ry⟩
theorem KT.keeps {H H' : Hp} {kvs : List (List Key × V)} {xs : List (List Key × Addr × Value)} (r : KT H kvs xs) (ht : ∀ b ys,H b = some (.tup ys)→H' b = some (.tup ys)) : KT H' kvs xs :=
 Paired.mapP r fun _ _ z=>⟨z.1,ht _ _ z.2.1,z.2.2⟩
section
variable {P : Program} {w : World} {H : Hp} {h : Heap} {a : Addr}
theorem rd_of {u : HO} (ok : HOk P w H h) (e : Rd H a u) : jb2 P w H h a u:=e.ok ok
theorem jn0 {kvs : List (Key × V)} (ok : HOk P w H h) (e : Rd H a (.dK kvs)) : kvs.length ≤ sizeLine∧(a == sysModules) = false∧∃ vs,KV kvs vs∧h.DictOf (jbd P w) a vs :=
 show jb2 P w H h a (.dK kvs) from rd_of ok e
theorem dk_of {kvs : List (Key × V)} (ok : HOk P w H h) (e : H a = some (.dK kvs)) : kvs.length ≤ sizeLine∧(a == sysModules) = false∧∃ vs,KV kvs vs∧h.DictOf (jbd P w) a vs:=jn0 ok (.inl e)
theorem jk1 {ks : List Key} (ok : HOk P w H h) (e : H a = some (.tup (ks.map kV))) : (tupleKind (jbd P w)).is h ks a:=by
 obtain ⟨_,its,r,o,h1,h2,n,h3⟩:=(show jb2 P w H h a (.tup (ks.map kV)) from ok a _ e)
 exact ⟨o,its.toArray,n,h1,h2,h3,by simpa using jk2 r⟩
theorem jmz {kvs : List (List Key × V)} (ok : HOk P w H h) (e : Rd H a (.dT kvs)) : kvs.length ≤ sizeLine∧(a == sysModules) = false ∧
  ∃ xs,KT H kvs xs∧h.DictOfH (tupleKind (jbd P w)) a xs:=by
 obtain ⟨z,y,xs,r,o,es,ep,h1,h2,h3,h4,h5⟩:=(show jb2 P w H h a (.dT kvs) from rd_of ok e)
 refine ⟨z,y,xs,r,o,es,ep,h1,h2,h3,h4,fun x hx=>?_,h5⟩
 have all : ∀ {l : List (List Key × V)} {m : List (List Key × Addr × Value)},KT H l m→∀ x ∈ m,(tupleKind (jbd P w)).is h x.1 x.2.1:=by
  intro l m q
  induction q with
  | nil=>intro x hx; exact nomatch hx
  | @cons p q ps qs hq t ih =>
   intro x hx
   rcases List.mem_cons.mp hx with e | hx
   ·subst e
    exact jk1 ok (by rw [← hq.1]; exact hq.2.1)
   ·exact ih x hx
 exact all r x hx
theorem dt_of {kvs : List (List Key × V)} (ok : HOk P w H h) (e : H a = some (.dT kvs)) : kvs.length ≤ sizeLine∧(a == sysModules) = false ∧
  ∃ xs,KT H kvs xs∧h.DictOfH (tupleKind (jbd P w)) a xs:=jmz ok (.inl e)
end
noncomputable def DGet (H : Hp) (a : Addr) (y : V) (r : Option V) : Prop :=
 (∃ kvs k,Rd H a (.dK kvs)∧y = kV k∧r = valV kvs k) ∨ ∃ kvs k b,Rd H a (.dT kvs)∧y = .ref b∧H b = some (.tup (k.map kV))∧r = valV kvs k
noncomputable def DPut (H : Hp) (a : Addr) (y v : V) (H' : Hp) : Prop :=
 (∃ kvs k,H a = some (.dK kvs)∧y = kV k∧kvs.length < sizeLine∧H' = upd H a (.dK (putK kvs k v))) ∨
 ∃ kvs k b,H a = some (.dT kvs)∧y = .ref b∧H b = some (.tup (k.map kV))∧kvs.length < sizeLine∧H' = upd H a (.dT (putK kvs k v))
theorem DGet.k {H : Hp} {a : Addr} {kvs : List (Key × V)} {k : Key} (e : H a = some (.dK kvs)) : DGet H a (kV k) (valV kvs k):=.inl ⟨kvs,k,.inl e,rfl,rfl⟩
theorem DGet.t {H : Hp} {a b : Addr} {kvs : List (List Key × V)} {k : List Key} (e : H a = some (.dT kvs)) (eb : H b = some (.tup (k.map kV))) : DGet H a (.ref b) (valV kvs k):=.inr ⟨kvs,k,b,.inl e,rfl,eb,rfl⟩
theorem DPut.k {H : Hp} {a : Addr} {kvs : List (Key × V)} {k : Key} {v : V} (e : H a = some (.dK kvs)) (hl : kvs.length < sizeLine) : DPut H a (kV k) v (upd H a (.dK (putK kvs k v))):=.inl ⟨kvs,k,e,rfl,hl,rfl⟩
theorem DPut.t {H : Hp} {a b : Addr} {kvs : List (List Key × V)} {k : List Key} {v : V} (e : H a = some (.dT kvs)) (eb : H b = some (.tup (k.map kV))) (hl : kvs.length < sizeLine) :
  DPut H a (.ref b) v (upd H a (.dT (putK kvs k v))):=.inr ⟨kvs,k,b,e,rfl,eb,hl,rfl⟩
section
variable {X : Cx} {pins : List (Addr × Obj)} {σ : St} {H : Hp} {s : Shared} {a : Addr} {y v : V} {u r : Value} {o : Option V} {A : Around} {E : Value→Shared→Prop}
theorem Inv.big (I : Inv X pins σ H s) : sysModules < s.heap.objs.size:=by
 have h : mainGlobals < s.heap.objs.size:=(I.mod.glob.keeps I.bk).lt
 exact Nat.lt_trans (by decide) h
theorem jp5 {Q : Value→Shared→Prop} (hu : A.units + 1 < cLine) (I : Inv X pins σ H s) (g : DGet H a y (some v)) (ry : RelV y u) (h : ∀ w' s',Inv X pins σ H s'→RelV v w'→Q w' s') :
  wpAny (model X.prog X.w) A (getItem (.ref a) u) Q E s:=by
 rcases g with ⟨kvs,k,e,ey,l⟩ | ⟨kvs,k,b,e,ey,eb,l⟩
 ·subst ey
  obtain ⟨z,hd,vs,rel,dd⟩:=jn0 I.hok e
  obtain ⟨w',hw,rw'⟩:=RelO.some_of (v:=v) (o:=valueAt vs k) (by rw [l]; exact rel.val k)
  exact wpAny_getItem_of (jmx ry) dd.mapOf hw (h w' _ (I.tok _) rw')
 ·subst ey
  cases (show u = Value.ref b from ry)
  obtain ⟨z,hd,xs,rel,dd⟩:=jmz I.hok e
  obtain ⟨w',hw,rw'⟩:=RelO.some_of (v:=v) (o:=(atKey xs k).map (·.2)) (by rw [l]; exact rel.val k)
  obtain ⟨p,hp,hp2⟩:=Option.map_eq_some_iff.mp hw
  refine wpAny_getItem_heap (tupleKind_room_in1 hu) (jk1 I.hok eb) dd hp ?_
  rw [hp2]
  exact h w' _ (I.tok _) rw'
theorem d_in {Q : Value→Shared→Prop} (hu : A.units + 1 < cLine) (I : Inv X pins σ H s) (g : DGet H a y o) (ry : RelV y u) (h : ∀ s',Inv X pins σ H s'→Q (.bool o.isSome) s') :
  wpAny (model X.prog X.w) A (compareOp .In u (.ref a)) Q E s:=by
 rcases g with ⟨kvs,k,e,ey,l⟩ | ⟨kvs,k,b,e,ey,eb,l⟩
 ·subst ey
  obtain ⟨z,hd,vs,rel,dd⟩:=jn0 I.hok e
  refine wpAny_in_of (jmx ry) hd dd.mapOf ?_
  rw [← (rel.val k).isSome_eq,← l]
  exact h _ (I.tok _)
 ·subst ey
  cases (show u = Value.ref b from ry)
  obtain ⟨z,hd,xs,rel,dd⟩:=jmz I.hok e
  refine wpAny_in_heap (tupleKind_room_in1 hu) (jk1 I.hok eb) hd dd ?_
  have q:=(rel.val k).isSome_eq
  rw [Option.isSome_map] at q
  rw [← q,← l]
  exact h _ (I.tok _)
theorem jp3 {h' : Heap} {t' : Nat} {ob : HO} (I : Inv X pins σ H s) (mu : Mut (H a)) (hs : Heap.SameBut a s.heap h') (he : ∃ q,h'.get? a = some q) (new : jb2 X.prog X.w (upd H a ob) h' a ob) :
  Inv X pins σ (upd H a ob) { s with heap:=h',toks:=t' } :=
 I.write (x:=a) (e:=a) mu (.inl rfl) (fun b q hb z=>(hs.2 b hb).trans z) he new
theorem jr0 {P : Program} {w : World} {H' : Hp} {h' : Heap} {kvs : List (Key × V)} {vs : List (Key × Value)} (z : kvs.length ≤ sizeLine) (hd : (a == sysModules) = false) (rel : KV kvs vs) (dd : h'.DictOf (jbd P w) a vs) :
  jb2 P w H' h' a (.dK kvs):=⟨z,hd,vs,rel,dd⟩
theorem jp4 {H' : Hp} {Q : Unit→Shared→Prop} (hu : A.units + 1 < cLine) (I : Inv X pins σ H s) (g : DPut H a y v H') (ry : RelV y u) (rv : RelV v r) (h : ∀ s',Inv X pins σ H' s'→Q () s') :
  wpAny (model X.prog X.w) A (setItem (.ref a) u r) Q E s:=by
 rcases g with ⟨kvs,k,e,ey,l,eH⟩ | ⟨kvs,k,b,e,ey,eb,l,eH⟩
 ·subst ey eH
  obtain ⟨z,hd,vs,rel,dd⟩:=dk_of I.hok e
  have hz : vs.length ≤ sizeLine:=by rw [← rel.length]; exact z
  have hl : (putK kvs k v).length ≤ sizeLine:=by have:=jcv kvs k v; omega
  refine wpAny_setItem_pairs (hsz:=hz) (jmx ry) dd fun h' dd' hs=>h _ ?_
  have he : ∃ q,h'.get? a = some q:=let ⟨q,_,_,hq,_⟩:=dd'; ⟨q,hq⟩
  exact jp3 I (by rw [e]; exact True.intro) hs he (jr0 hl hd (rel.put k rv) dd')
 ·subst ey eH
  cases (show u = Value.ref b from ry)
  obtain ⟨z,hd,xs,rel,dd⟩:=dt_of I.hok e
  have hz : xs.length ≤ sizeLine:=by rw [← Paired.length rel]; exact z
  have hl : (putK kvs k v).length ≤ sizeLine:=by have:=jcv kvs k v; omega
  refine wpAny_setItem_heap (hsz:=hz) (tupleKind_room_in1 hu) (jk1 I.hok eb) dd fun h' dd' hs=>h _ ?_
  obtain ⟨q,es,ep,hq,h2,h3,h4,_,h5⟩:=dd'
  refine jp3 I (by rw [e]; exact True.intro) hs ⟨q,hq⟩ ⟨hl,hd,_,(rel.put k eb rv).keeps fun c ys ec=>?_,q,es,ep,hq,h2,h3,h4,h5⟩
  rw [ja8 (ne_of ec e (fun z=>nomatch z))]
  exact ec
end
section
variable {X : Cx} {pins : List (Addr × Obj)} {σ : St} {H : Hp} {s : Shared} {a : Addr} {kvs : List (Key × V)} {k : Key} {u : Value} {A : Around} {E : Value→Shared→Prop}
end
noncomputable def NoSl (i : Expr) : Prop:=∀ ov iv,subscripted i false ov iv = operate [ov,iv] (getItem ov iv)
theorem jr4 {prog : Program} {w : World} {A : Around} {E : Value→Shared→Prop} {s : Shared} {env : Env} {value slice : Expr} {pos : Pos} {T id : String} {Q : Value→Shared→Prop}
  (hl : typeLookup (.type T) "__getitem__" = pure (some (.builtin id))) (hs : NoSl slice)
  (h : wpAny (model prog w) A (eval value env) (fun o s₁=>wpAny (model prog w) A (eval slice env) (fun i s₂=>s₂.TypeIs o T∧wpAny (model prog w) A (getItem o i) Q E s₂) E s₁) E s) :
  wpAny (model prog w) A (eval (.Subscript value slice pos) env) Q E s:=by
 refine Subscript_ (wpAny_mono h (fun o s₁ h₁=>wpAny_mono h₁ (fun i s₂ h₂=>?_) fun _ _ x=>x) fun _ _ x=>x)
 obtain ⟨hT,h₂⟩:=h₂
 unfold subscriptTail
 refine wpAny_bind ?_
 rw [getitemInPython_of_ne hT.not_modules]
 refine wpAny_bind (wpAny_specialOf hT hl ?_)
 have fin : wpAny (model prog w) A (subscripted slice false o i) (fun r s₃=>wpAny (model prog w) A (letTemporaryGo value o r >>= fun _=>pure r) Q E s₃) E s₂:=by
  rw [hs o i]
  exact wpAny_operating (wpAny_mono h₂ (fun r s₃ h₃=>wpAny_bind (wpAny_letTemporaryGo (wpAny_pure h₃))) fun _ _ x=>x)
 first
  | exact wpAny_pure (wpAny_bind fin)
  | exact wpAny_bind (wpAny_pure (wpAny_bind fin))
  | exact wpAny_bind fin
theorem jl8 {X : Cx} {pins : List (Addr × Obj)} {σ : St} {H : Hp} {s : Shared} {a : Addr} {y : V} {o : Option V} (I : Inv X pins σ H s) (g : DGet H a y o) : s.TypeIs (.ref a) "dict":=by
 rcases g with ⟨kvs,k,e,_,_⟩ | ⟨kvs,k,b,e,_,_,_⟩
 ·obtain ⟨_,_,vs,_,dd⟩:=jn0 I.hok e
  exact dd.typeIs
 ·obtain ⟨_,_,xs,_,dd⟩:=jmz I.hok e
  exact dd.typeIs
section
variable {X : Cx} {o i e value : Expr} {pos pos' tpos : Pos} {td ty tv : TE}
end
theorem jq7 {P : Program} {w : World} {H : Hp} (h : Heap) (hb : sysModules < h.objs.size) : jb2 P w H (h.push { cls:=.type "dict",data:=.dict #[] }) h.objs.size (.dK []) :=
 ⟨Nat.zero_le _,beq_eq_false_iff_ne.mpr (Ne.symm (Nat.ne_of_lt hb)),[],.nil,Heap.DictOf.new h⟩
noncomputable def je6 : TE:=fun _ H Q=>∀ p,H p = none→Q (.ref p) (upd H p (.dK []))
section
variable {X : Cx} {pos : Pos}
theorem jij : PE X (.Dict [] [] pos) je6:=fun pins s σ H Q I h =>
 wpAny_Dict_empty ⟨.ref s.heap.objs.size,_,I.laid (a:=s.heap.objs.size) (o:=.dK []) (t':=s.toks) (fun _ _ q=>Heap.get?_push_of_some _ q) (Nat.le_refl _) (jq7 s.heap I.big),rfl,h _ (I.hok.fresh (Nat.le_refl _))⟩
end
structure M1 (X : Cx) (o : Expr) (m : Str) (apos : Pos) (e : Expr) (cpos : Pos) : Prop where
 base : attributeBase o m X.env (eval o X.env) = eval o X.env
 few : ((backTo cpos (starEach [e] X.env)).all (fun x=>!x.1) && (backToKw cpos (keywordEach [] X.env)).all (fun x=>x.1.isSome)
  && decide (([e] : List Expr).length + ([] : List Keyword).length + (if ([] : List Keyword).isEmpty then 0 else 1) < 30)) = true
 line : (apos.endLine == cpos.line) = true
 trees : backTo cpos (starEach [e] X.env) = [(false,eval e X.env)]
structure M2 (X : Cx) (o : Expr) (m : Str) (apos : Pos) (e f : Expr) (cpos : Pos) : Prop where
 base : attributeBase o m X.env (eval o X.env) = eval o X.env
 few : ((backTo cpos (starEach [e,f] X.env)).all (fun x=>!x.1) && (backToKw cpos (keywordEach [] X.env)).all (fun x=>x.1.isSome)
  && decide (([e,f] : List Expr).length + ([] : List Keyword).length + (if ([] : List Keyword).isEmpty then 0 else 1) < 30)) = true
 line : (apos.endLine == cpos.line) = true
 trees : backTo cpos (starEach [e,f] X.env) = [(false,eval e X.env),(false,eval f X.env)]
noncomputable def IsD (H : Hp) (a : Addr) : Prop:=(∃ kvs,Rd H a (.dK kvs)) ∨ ∃ kvs,Rd H a (.dT kvs)
theorem isD_at {X : Cx} {pins : List (Addr × Obj)} {σ : St} {H : Hp} {s : Shared} {a : Addr} (I : Inv X pins σ H s) (d : IsD H a) :
  s.TypeIs (.ref a) "dict"∧(∀ b,Value.ref a = .ref b→∃ ob,s.heap.get? b = some ob∧ob.dict = none)∧(a == sysModules) = false:=by
 rcases d with ⟨kvs,e⟩ | ⟨kvs,e⟩
 ·obtain ⟨_,hd,vs,_,dd⟩:=jn0 I.hok e
  refine ⟨dd.typeIs,fun b q=>?_,hd⟩
  cases q
  obtain ⟨ob,_,_,h1,h2,_⟩:=dd
  exact ⟨ob,h1,h2.2.1⟩
 ·obtain ⟨_,hd,xs,_,dd⟩:=jmz I.hok e
  refine ⟨dd.typeIs,fun b q=>?_,hd⟩
  cases q
  obtain ⟨ob,_,_,h1,h2,_⟩:=dd
  exact ⟨ob,h1,h2.2.1⟩
section
variable {X : Cx} {pins : List (Addr × Obj)} {σ : St} {H : Hp} {s : Shared} {a : Addr} {y d : V} {u r : Value} {o : Option V} {A : Around} {E : Value→Shared→Prop}
theorem d_get2 {Q : Value→Shared→Prop} (hu : A.units + 1 < cLine) (I : Inv X pins σ H s) (g : DGet H a y o) (ry : RelV y u) (rd : RelV d r) (h : ∀ w' s',Inv X pins σ H s'→RelV (o.getD d) w'→Q w' s') :
  wpAny (model X.prog X.w) A (call (.builtin "dict.get") [.ref a,u,r]) Q E s:=by
 rcases g with ⟨kvs,k,e,ey,l⟩ | ⟨kvs,k,b,e,ey,eb,l⟩
 ·subst ey
  obtain ⟨z,hd,vs,rel,dd⟩:=jn0 I.hok e
  refine call_meetsIn PySem.F.slot_dict_get dd.typeIs PySem.F.entry_dict_get (PySem.F.args_dict_get_3 _ _ _) (meets_dict_get_default (jbd X.prog X.w) a (jmx ry) hd r) ⟨_,dd.mapOf,h _ _ (I.tok _) ?_⟩
  rw [l]
  exact (rel.val k).getD rd
 ·subst ey
  cases (show u = Value.ref b from ry)
  obtain ⟨z,hd,xs,rel,dd⟩:=jmz I.hok e
  refine call_meetsIn PySem.F.slot_dict_get dd.typeIs PySem.F.entry_dict_get (PySem.F.args_dict_get_3 _ _ _) (meetsH_dict_get_default (tupleKind (jbd X.prog X.w)) a b hd r) ⟨tupleKind_room_in1 hu,k,xs,jk1 I.hok eb,dd,h _ _ (I.tok _) ?_⟩
  rw [l]
  exact (rel.val k).getD rd
end
section
variable {X : Cx} {o e f : Expr} {apos cpos : Pos} {td ty tx : TE}
end
section
variable {X : Cx} {pins : List (Addr × Obj)} {σ : St} {H : Hp} {s : Shared} {a : Addr} {kvs : List (Key × V)} {A : Around} {E : Value→Shared→Prop}
end
section
variable {X : Cx} {pins : List (Addr × Obj)} {σ : St} {H : Hp} {s : Shared} {a : Addr} {y : V} {u : Value} {A : Around} {E : Value→Shared→Prop}
end
end L2
namespace L2
open PySem PySem.Spec PyProof.Rows
section
variable {κ : Type} [DecidableEq κ]
end
end L2
namespace L2
open PySem PySem.Spec PyProof.Rows
noncomputable def jb1 (env : Env) : List (Str × NameKind)→List (Str × Addr)→List (Str × Addr)
 | [],acc=>acc
 | (n,k) :: r,acc=>jb1 env r (if k == .free then (n,(env.cells.lookup n).getD 0) :: acc else acc)
theorem jbz {scope : Scope} {env : Env} (h : ∀ y ∈ scope.names,y.2 = .free→∃ c,env.cells.lookup y.1 = some c) :
    closureFor scope env = pure (jb1 env scope.names []):=by
  have key : ∀ (l : List (Str × NameKind)) (acc : List (Str × Addr)),(∀ y ∈ l,y.2 = .free→∃ c,env.cells.lookup y.1 = some c) →
      (forIn l acc fun (x : Str × NameKind) (r : List (Str × Addr)) =>
        (if x.2 == NameKind.free then do
          let c ← cellOf env x.1
          pure (ForInStep.yield ((x.1,c) :: r))
        else pure (ForInStep.yield r) : Sem (ForInStep (List (Str × Addr))))) = pure (jb1 env l acc):=by
    intro l
    induction l with
    | nil=>intro acc _; rfl
    | cons y r ih =>
      intro acc hy
      obtain ⟨n,k⟩:=y
      rw [List.forIn_cons]
      by_cases hk : k = .free
      · subst hk
        obtain ⟨c,hc⟩:=hy (n,.free) List.mem_cons_self rfl
        have e1 : cellOf env n = pure c:=by unfold cellOf; rw [hc]
        simp only [beq_self_eq_true,if_true]
        rw [e1]
        show (pure c >>= fun c=>pure (ForInStep.yield ((n,c) :: acc))) >>= _ = _
        have e2 : jb1 env ((n,NameKind.free) :: r) acc = jb1 env r ((n,c) :: acc):=by
          have hc' : env.cells.lookup n = some c:=hc
          show jb1 env r (if (NameKind.free == NameKind.free) = true then (n,(env.cells.lookup n).getD 0) :: acc else acc) = _
          rw [hc']
          rfl
        rw [e2]
        exact ih _ fun z hz=>hy z (List.mem_cons_of_mem _ hz)
      · have hb : (k == NameKind.free) = false:=by simpa using hk
        simp only [hb,Bool.false_eq_true,if_false]
        have e2 : jb1 env ((n,k) :: r) acc = jb1 env r acc:=by
          show jb1 env r (if (k == NameKind.free) = true then _ else acc) = _
          rw [hb]; rfl
        rw [e2]
        exact ih _ fun z hz=>hy z (List.mem_cons_of_mem _ hz)
  unfold closureFor
  have e:=key scope.names [] h
  have e3 : ∀ (f : Str × NameKind→List (Str × Addr)→Sem (ForInStep (List (Str × Addr)))),(f = fun x r=>(if x.2 == NameKind.free then do
          let c ← cellOf env x.1
          pure (ForInStep.yield ((x.1,c) :: r))
        else pure (ForInStep.yield r)))→(forIn scope.names [] f >>= fun r=>pure r) = (pure (jb1 env scope.names []) : Sem (List (Str × Addr))):=by
    intro f hf
    rw [hf,e]
    rfl
  exact e3 _ rfl
theorem jep {env : Env} {x : Str} : ∀ (l : List (Str × NameKind)) (acc : List (Str × Addr)) (c : Addr),(jb1 env l acc).lookup x = some c →
  ((∃ y ∈ l,y.1 = x∧y.2 = .free)∧(env.cells.lookup x).getD 0 = c) ∨ acc.lookup x = some c
 | [],acc,c,h=>.inr h
 | (n,k) :: r,acc,c,h=>by
  rcases jep r _ c h with ⟨⟨y,hy,e⟩,q⟩ | q
  ·exact .inl ⟨⟨y,List.mem_cons_of_mem _ hy,e⟩,q⟩
  ·by_cases hk : k = .free
   ·subst hk
    have q' : List.lookup x ((n,(env.cells.lookup n).getD 0) :: acc) = some c:=q
    rw [List.lookup_cons] at q'
    cases hx : x == n with
    | true =>
     rw [hx] at q'
     have hx' : x = n:=by simpa using hx
     subst hx'
     exact .inl ⟨⟨_,List.mem_cons_self,rfl,rfl⟩,Option.some.inj q'⟩
    | false=>rw [hx] at q'; exact .inr q'
   ·have hb : (k == NameKind.free) = false:=by simpa using hk
    rw [hb] at q
    exact .inr q
theorem jf7 {env : Env} {x : Str} : ∀ (l : List (Str × NameKind)) (acc : List (Str × Addr)),((∃ y ∈ l,y.1 = x∧y.2 = .free) ∨ (acc.lookup x).isSome)→((jb1 env l acc).lookup x).isSome
 | [],acc,h=>by
  rcases h with ⟨y,hy,_⟩ | h
  ·cases hy
  ·exact h
 | (n,k) :: r,acc,h=>by
  show ((jb1 env r (if (k == NameKind.free) = true then _ else acc)).lookup x).isSome
  refine jf7 r _ ?_
  rcases h with ⟨y,hy,e1,e2⟩ | h
  ·rcases List.mem_cons.mp hy with rfl | hy
   ·have e2' : k = .free:=e2
    have e1' : n = x:=e1
    subst e2' e1'
    refine .inr ?_
    simp [List.lookup_cons]
   ·exact .inl ⟨y,hy,e1,e2⟩
  ·refine .inr ?_
   split
   ·rw [List.lookup_cons]
    split
    ·rfl
    ·exact h
   ·exact h
structure CpScope (X : Cx) (scope : Scope) (N : List Str) (src : List (Option Nat)) : Prop where
 kind : scope.kind = .function
 nocell : ∀ y ∈ scope.names,y.2 ≠ .cell
 locs : ∀ y ∈ scope.names,y.2 = .local→scope.names.lookup y.1 = some .local
 frees : ∀ y ∈ scope.names,y.2 = .free→scope.names.lookup y.1 = some .free∧X.env.scope.names.lookup y.1 = some .cell
 nd : N.Nodup
 len : src.length = N.length
 cap : ∀ (i j : Nat),src[i]? = some (some j)→X.N[j]? = N[i]?∧(N[i]?).elim False (fun x=>scope.names.lookup x = some .free)
noncomputable def cst (src : List (Option Nat)) (σ : St) : St:=src.map fun o=>o.bind fun j=>(σ[j]?).join
theorem jcb {env : Env} (hk : env.scope.kind = .function) : ∀ {names : List (Str × NameKind)} {x : Str},names.lookup x = some .free→env.kindOf x = some .cell →
  (names.map fun (n,k)=>if (k == NameKind.free && env.scope.kind == .function && env.kindOf n == some .cell) then (n,NameKind.cell) else (n,k)).lookup x = some .cell
 | [],_,h,_=>by simp at h
 | (n,k) :: r,x,h,hc=>by
  have ih:=@jcb env hk r x
  show List.lookup x ((if (k == NameKind.free && env.scope.kind == .function && env.kindOf n == some .cell) = true then (n,NameKind.cell) else (n,k)) :: _) = _
  cases hx : x == n with
  | true =>
   simp only [List.lookup_cons,hx] at h
   cases h
   have hx' : x = n:=by simpa using hx
   subst hx'
   rw [if_pos (by rw [hk,hc]; rfl)]
   simp [List.lookup_cons]
  | false =>
   simp only [List.lookup_cons,hx] at h
   by_cases hq : (k == NameKind.free && env.scope.kind == .function && env.kindOf n == some .cell) = true
   ·rw [if_pos hq]; simp only [List.lookup_cons,hx]; exact ih h hc
   ·rw [if_neg hq]; simp only [List.lookup_cons,hx]; exact ih h hc
theorem jbp {env : Env} : ∀ {names : List (Str × NameKind)} {x : Str} {k' : NameKind},
  (names.map fun (n,k)=>if (k == NameKind.free && env.scope.kind == .function && env.kindOf n == some .cell) then (n,NameKind.cell) else (n,k)).lookup x = some k' →
   names.lookup x = some k' ∨ (names.lookup x = some .free∧k' = .cell)
 | [],_,_,h=>by simp at h
 | (n,k) :: r,x,k',h=>by
  have ih:=@jbp env r x k'
  have h : List.lookup x ((if (k == NameKind.free && env.scope.kind == .function && env.kindOf n == some .cell) = true then (n,NameKind.cell) else (n,k)) :: _) = _:=h
  cases hx : x == n with
  | true =>
   by_cases hq : (k == NameKind.free && env.scope.kind == .function && env.kindOf n == some .cell) = true
   ·rw [if_pos hq] at h
    have h1:=h
    simp only [List.lookup_cons,hx]
    have : k = .free:=by
     have:=(Bool.and_eq_true _ _ ▸ (Bool.and_eq_true _ _ ▸ hq).1).1
     simpa using this
    subst this
    refine .inr ⟨rfl,?_⟩
    have h2 : List.lookup x ((n,NameKind.cell) :: (r.map fun (n,k)=>if (k == NameKind.free && env.scope.kind == .function && env.kindOf n == some .cell) then (n,NameKind.cell) else (n,k))) = some k':=h1
    simp only [List.lookup_cons,hx] at h2
    exact (Option.some.inj h2).symm
   ·rw [if_neg hq] at h
    simp only [List.lookup_cons,hx] at h ⊢
    exact .inl h
  | false =>
   have h' : List.lookup x (r.map fun (n,k)=>if (k == NameKind.free && env.scope.kind == .function && env.kindOf n == some .cell) then (n,NameKind.cell) else (n,k)) = some k':=by
    by_cases hq : (k == NameKind.free && env.scope.kind == .function && env.kindOf n == some .cell) = true
    ·rw [if_pos hq] at h
     simpa only [List.lookup_cons,hx] using h
    ·rw [if_neg hq] at h
     simpa only [List.lookup_cons,hx] using h
   simp only [List.lookup_cons,hx]
   exact ih h'
noncomputable def Cx.block (X : Cx) (scope : Scope) (N : List Str) (fp : List Addr) (s₀ : Shared) (H₀ : Hp) (C : Addr) : Cx where
 prog:=X.prog
 w:=X.w
 K:=X.K
 mg:=X.mg
 base:=X.base
 A:=X.A
 N:=N
 s₀:=s₀
 H₀:=H₀
 env:=compEnvC scope (jb1 X.env scope.names []) C X.env
 outer:=X.stack
 stack:=X.stack
 ex:=fp
 calm:=X.calm
 fn:=fun _=>false
 pn:=[]
 xe:=fun _ _=>False
theorem joo {o : Option (Option V)} {v : V} (h : o.join = some v) : o = some (some v):=by
 cases o with
 | none=>cases h
 | some z=>cases z with
  | none=>cases h
  | some z=>rw [show z = v from Option.some.inj h]
theorem Inv.enter {X : Cx} {scope : Scope} {N : List Str} {src : List (Option Nat)} {pins : List (Addr × Obj)} {σ : St} {H : Hp} {s s4 : Shared} {fp : List Addr} (S : CpScope X scope N src) (I : Inv X pins σ H s)
  (f2 : ∀ b ∈ fp,FpOk X pins H b) (lt : ∀ b ∈ fp,b < s.heap.objs.size) (hns : s4.heap.Ns s.heap.objs.size fun _=>none) (hk : ∀ b o,s.heap.get? b = some o→s4.heap.get? b = some o) (hos : s4.os = s.os) (hg : s4.gens = s.gens) :
  Inv (X.block scope N fp s H s.heap.objs.size) [] (cst src σ) H s4:=by
 have cells : ∀ x c,(jb1 X.env scope.names []).lookup x = some c→X.env.cells.lookup x = some c:=fun x c e=>by
  rcases jep _ _ _ e with ⟨⟨y,hy,e1,e2⟩,q⟩ | q
  ·obtain ⟨c',hc'⟩:=I.ok.has y.1 (.inl (S.frees y hy e2).2)
   rw [e1] at hc'
   rw [hc'] at q ⊢
   exact congrArg some q
  ·cases q
 refine ⟨⟨I.mod,S.kind,I.ok.glob,I.ok.blt,Nat.le_refl _,fun x y c h1 h2=>I.ok.inj x y c (cells x c h1) (cells y c h2),fun x hx=>?_,fun x c h=>absurd (show false = true from h) Bool.false_ne_true,I.ok.hd,I.ok.frames,.inl rfl,fun b hb=>?_,I.bs,
   Nat.le_trans I.ok.bsz I.sz,fun b o e hb=>?_,fun b hb z=>?_,I.stack,I.stkFree⟩,hos,?_,Un.kept hk,⟨fun _=>none,hns,fun i x v h1 h2 h3=>?_⟩,fun x c e=>?_,I.fresh,fun x c e=>I.freeC x c (cells x c e),fun p hp=>?_,I.hok.kept hk,?_⟩
 ·have hx' : (scope.names.map fun (n,k)=>if (k == NameKind.free && X.env.scope.kind == .function && X.env.kindOf n == some .cell) then (n,NameKind.cell) else (n,k)).lookup x = some .cell ∨ (scope.names.map fun (n,k)=>if (k == NameKind.free && X.env.scope.kind == .function && X.env.kindOf n == some .cell) then (n,NameKind.cell) else (n,k)).lookup x = some .free:=hx
  have hf : scope.names.lookup x = some .free:=by
   rcases hx' with h | h
   ·rcases jbp h with h | h
    ·exact absurd rfl (S.nocell _ (PySem.mem_of_lookup h))
    ·exact h.1
   ·rcases jbp h with h | h
    ·exact h
    ·cases h.2
  have hsome:=jf7 (env:=X.env) (x:=x) scope.names [] (.inl ⟨_,PySem.mem_of_lookup hf,rfl,rfl⟩)
  exact Option.isSome_iff_exists.mp hsome
 ·exact ⟨Nat.ne_of_lt (lt b hb),fun x c e=>(f2 b hb).2.2.2.2.1 x c (cells x c e)⟩
 ·have hb' : b ∈ fp:=hb
  rcases (f2 b hb').2.2.2.1 with z | z
  ·exact I.ok.noex b o e z
  ·exact absurd (Nat.lt_of_lt_of_le (Heap.lt_size e) (Nat.le_trans I.ok.bsz z)) (Nat.lt_irrefl _)
 ·have hb' : b ∈ fp:=hb
  have z' : b ∈ frs X.stack:=z
  rcases List.mem_cons.mp (I.stkSub b z') with e | e
  ·exact (f2 b hb').2.1 e
  ·exact (f2 b hb').2.2.1 e
 ·rw [hg]; exact I.bare
 ·have h2' : (src.map fun o=>o.bind fun j=>(σ[j]?).join)[i]? = some (some v):=h2
  rw [List.getElem?_map] at h2'
  cases e : src[i]? with
  | none=>rw [e] at h2'; cases h2'
  | some o =>
   rw [e] at h2'
   cases o with
   | none=>cases h2'
   | some j =>
    have h4 : (σ[j]?).join = some v:=Option.some.inj h2'
    have h5:=joo h4
    obtain ⟨c1,c2⟩:=S.cap i j e
    have h1' : N[i]? = some x:=h1
    rw [h1'] at c1 c2
    have c2' : scope.names.lookup x = some .free:=c2
    have c3:=(S.frees _ (PySem.mem_of_lookup c2') rfl).2
    obtain ⟨m,hn,hl⟩:=I.loc
    obtain ⟨u,r,l⟩:=hl j x v c1 h5 (.inr (.inl c3))
    refine ⟨u,r,?_⟩
    have c3' : X.env.kindOf x = some .cell:=c3
    rcases l with ⟨k,_⟩ | ⟨_,c,e1,z⟩
    ·rw [c3'] at k; cases k
    ·refine .inr ⟨.inl (jcb I.ok.kind c2' c3'),c,?_,?_⟩
     ·have hs:=jf7 (env:=X.env) (x:=x) scope.names [] (.inl ⟨_,PySem.mem_of_lookup c2',rfl,rfl⟩)
      obtain ⟨c',hc'⟩:=Option.isSome_iff_exists.mp hs
      have:=cells x c' hc'
      rw [e1] at this
      cases this
      exact hc'
     ·obtain ⟨o,ho,hd⟩:=z
      exact ⟨o,hk c o ho,hd⟩
 ·obtain ⟨v,o,ho,hd⟩:=I.cell x c (cells x c e)
  exact ⟨v,o,hk c o ho,hd⟩
 ·exact absurd (show p ∈ ([] : List (Addr × Obj)) from hp) (by simp)
 ·show (src.map _).length = N.length
  rw [List.length_map]
  exact S.len
noncomputable def PIf (X : Cx) (ifs : List Expr) (t : TT) : Prop :=
 ∀ (pins : List (Addr × Obj)) (s : Shared) (σ : St) (H : Hp) (Q : Bool→Hp→Prop),Inv X pins σ H s→t σ H Q →
  wpAny (model X.prog X.w) X.A (forIn ifs true fun c r=>if r = true then do let ok ← isTrue c X.env (eval c X.env); pure (ForInStep.yield ok) else pure (ForInStep.yield r)) (TP X pins σ Q) X.xe s
noncomputable def ji0 : TT:=fun _ H Q=>Q true H
theorem jgg {X : Cx} : PIf X [] ji0:=fun pins s σ H Q I h=>wpAny_tests_nil ⟨H,I,h⟩
theorem jo0 {X : Cx} {c : Expr} {t : TT} (h : PT X c t) : PIf X [c] t:=fun pins s σ H Q I hq=>wpAny_tests_one (h pins s σ H Q I hq)
noncomputable def jqf (J : It) (src : List (Option Nat)) (g : TG) (tc : TT) (te : TE) (Q : VK) (σ : St) (H : Hp) (l : Addr) : Prop :=
 ∃ W : Nat→Nat→St→Hp→Prop,(∃ m,W 0 m (cst src σ) (upd H l (.lst [])))∧∀ i m σ' H,W i m σ' H →
  (J.stop i H∧Q (.ref l) H) ∨ (J.go i H∧∃ N : St→Hp→Prop,(∀ σ' H',N σ' H'→∃ m',m' < m∧W (i + 1) m' σ' H')∧∀ x H',J.yld i H x H'→g x σ' H' fun σ2 H2=>tc σ2 H2 fun b H3 =>
   if b = true then te σ2 H3 fun v H4=>∃ xs,H4 l = some (.lst xs)∧xs.length < sizeLine∧N σ2 (upd H4 l (.lst (xs ++ [v]))) else N σ2 H3)
theorem jcy {J : It} {src : List (Option Nat)} {g : TG} {tc : TT} {te : TE} {Q : VK} {σ : St} {H : Hp} {l : Addr} (n : Nat) (Iv : Nat→St→Hp→Prop) (h0 : Iv 0 (cst src σ) (upd H l (.lst [])))
  (hs : ∀ i σ' Hc,i < n→Iv i σ' Hc→J.go i Hc∧∀ x H',J.yld i Hc x H'→g x σ' H' fun σ2 H2=>tc σ2 H2 fun b H3 =>
   if b = true then te σ2 H3 fun v H4=>∃ xs,H4 l = some (.lst xs)∧xs.length < sizeLine∧Iv (i + 1) σ2 (upd H4 l (.lst (xs ++ [v]))) else Iv (i + 1) σ2 H3)
  (hd : ∀ σ' Hc,Iv n σ' Hc→J.stop n Hc∧Q (.ref l) Hc) : jqf J src g tc te Q σ H l:=by
 refine ⟨fun i m σ' Hc=>m = n - i∧i ≤ n∧Iv i σ' Hc,⟨n,by simp,Nat.zero_le _,h0⟩,?_⟩
 rintro i m σ' Hc ⟨rfl,hi,p⟩
 by_cases hlt : i < n
 ·obtain ⟨go,step⟩:=hs i σ' Hc hlt p
  exact .inr ⟨go,Iv (i + 1),fun σ2 H2 p'=>⟨n - (i + 1),by omega,rfl,hlt,p'⟩,step⟩
 ·have e : i = n:=by omega
  subst e
  exact .inl (hd σ' Hc p)
theorem jk8 {X : Cx} {elt tg iter : Expr} {ifs : List Expr} {scope : Scope} {pos : Pos} {N : List Str} {src : List (Option Nat)} {g : TG} {tc : TT} {te : TE} {pins : List (Addr × Obj)} {σ : St} {H2 : Hp} {s2 : Shared}
  {fp : List Addr} {it : Addr} {tn : Nat→Heap→Prop} {J : It} {Q : VK} {E : Value→Shared→Prop} {RR : Value→Addr→Result→Shared→Prop} (S : CpScope X scope N src) (hc : X.calm = true)
  (hg : ∀ fp s₀ H₀ C,PG (X.block scope N fp s₀ H₀ C) tg g) (ht : ∀ fp s₀ H₀ C,PIf (X.block scope N fp s₀ H₀ C) ifs tc) (he : ∀ fp s₀ H₀ C,PE (X.block scope N fp s₀ H₀ C) elt te)
  (I2 : Inv X pins σ H2 s2) (T : Turn X.prog X.w X.K tg J fp it tn) (st2 : tn 0 s2.heap) (f2 : ∀ b ∈ fp,FpOk X pins H2 b) (hw : ∀ l,H2 l = none→jqf J src g tc te Q σ H2 l)
  (hRR : ∀ l C H' s',Inv X pins σ H' s'→(∃ m,s'.heap.Ns C m)→FpOk X pins H' C→Q (.ref l) H'→RR (.ref l) C (.ok .next) s') :
  wpAny (model X.prog X.w) X.A (newList []) (fun acc s₃=>wpAny (model X.prog X.w) X.A (newFunctionEnv scope X.env.globals (jb1 X.env scope.names []) [] X.env.qual none .none (some X.env)) (fun cenv s₄ =>
   codeAny (model X.prog X.w) X.A (.compStart (.ListComp elt [⟨tg,iter,ifs,0⟩] scope pos) 0 (.ref it) acc { cenv with scope:=relabel scope X.env }) (RR acc cenv.locals) s₄) E s₃) E s2:=by
 have hl0 : H2 s2.heap.objs.size = none:=I2.fresh
 have I3 : Inv X pins σ (upd H2 s2.heap.objs.size (.lst [])) { s2 with heap:=s2.heap.push { cls:=.type "list",data:=.seq ([] : List Value).toArray } }:=I2.lnew (ys:=[]) (its:=[]) (t':=s2.toks) .nil (Nat.zero_le _)
 have ltf : ∀ b ∈ fp,b < s2.heap.objs.size:=fun b hb=>by
  obtain ⟨o,e,_⟩:=T.obj _ _ st2 b hb
  exact Heap.lt_size e
 have f3 : ∀ b ∈ fp,FpOk X pins (upd H2 s2.heap.objs.size (.lst [])) b:=fun b hb=>⟨by rw [ja8 (Nat.ne_of_lt (ltf b hb))]; exact (f2 b hb).1,(f2 b hb).2⟩
 obtain ⟨W,⟨m0,w0⟩,turn⟩:=hw _ hl0
 refine wpAny_newObj_type (wpAny_newFunctionEnv S.nocell (by intro y hy; simp at hy) (fun h₁ hns₁ hsb₁=>?_) S.kind)
 dsimp only at hns₁ hsb₁ ⊢
 revert I3 f3
 intro I3 f3
 have st1 : tn 0 (s2.heap.push { cls:=.type "list",data:=.seq ([] : List Value).toArray }):=T.keep _ _ _ st2 fun b hb o e=>Heap.get?_push_of_some _ e
 have lt3 : ∀ b ∈ fp,b < (s2.heap.push { cls:=.type "list",data:=.seq ([] : List Value).toArray }).objs.size:=fun b hb=>by rw [Heap.size_push]; exact Nat.lt_succ_of_lt (ltf b hb)
 generalize hH : s2.heap.push { cls:=.type "list",data:=.seq ([] : List Value).toArray } = h3 at I3 st1 lt3 hns₁ hsb₁ ⊢
 have hk : ∀ b o,h3.get? b = some o→h₁.get? b = some o:=fun b o e=>hsb₁.extBut b o (Nat.ne_of_lt (Heap.lt_size e)) (Heap.get?_push_of_some _ e)
 have Ib : Inv (X.block scope N fp { s2 with heap:=h3 } (upd H2 s2.heap.objs.size (.lst [])) h3.objs.size) [] (cst src σ) (upd H2 s2.heap.objs.size (.lst [])) { s2 with heap:=h₁,toks:=s2.toks + ([] : List (Str × Value)).length } :=
  Inv.enter (s:={ s2 with heap:=h3 }) S I3 f3 lt3 hns₁ hk rfl rfl
 have fpB : ∀ {H' : Hp},(∀ b ∈ fp,H' b = none)→∀ b ∈ fp,FpOk (X.block scope N fp { s2 with heap:=h3 } (upd H2 s2.heap.objs.size (.lst [])) h3.objs.size) [] H' b:=fun hn b hb =>
  ⟨hn b hb,(Ib.ok.exf b hb).1,Ib.ok.exfs b hb,.inl hb,(Ib.ok.exf b hb).2,fun p hp=>absurd (show p ∈ ([] : List (Addr × Obj)) from hp) (by simp)⟩
 have tn1 : tn 0 h₁:=T.keep _ _ _ st1 fun b _ o e=>hk b o e
 have loop : ∀ s₃ : Shared,s₃ = { s2 with heap:=h₁,toks:=s2.toks + ([] : List (Str × Value)).length } →
   codeAny (model X.prog X.w) X.A (.compLoop (.ListComp elt [⟨tg,iter,ifs,0⟩] scope pos) 0 (.ref it) (.ref s2.heap.objs.size) (compEnvC scope (jb1 X.env scope.names []) h3.objs.size X.env))
    (RR (.ref s2.heap.objs.size) h3.objs.size) s₃:=by
  rintro s₃ rfl
  refine codeAny_loop rfl (fun n s'=>∃ i σ' H',Inv (X.block scope N fp { s2 with heap:=h3 } (upd H2 s2.heap.objs.size (.lst [])) h3.objs.size) [] σ' H' s'∧tn i s'.heap∧(∀ b ∈ fp,H' b = none)∧W i n σ' H') ?_ m0
   ⟨0,_,_,Ib,tn1,fun b hb=>(f3 b hb).1,w0⟩
  rintro n s5 ⟨i,σ5,H5,I5,st5,fr5,w5⟩
  show wpAny _ X.A ((compTurn (.ListComp elt [⟨tg,iter,ifs,0⟩] scope pos) 0 (.ref it) (.ref s2.heap.objs.size) (compEnvC scope (jb1 X.env scope.names []) h3.objs.size X.env)).onRaise (fun x=>do noteFrame x (compEnvC scope (jb1 X.env scope.names []) h3.objs.size X.env); theTreesLotGoes x)) _ _ s5
  refine wpAny_noted ?_
  rw [compTurn_list]
  refine wpAny_bind (wpAny_standAt (wpAny_bind ?_))
  rcases turn i n σ5 H5 w5 with ⟨stop,qn⟩ | ⟨go,N',hN',step⟩
  ·refine thn (T.done (X.block scope N fp { s2 with heap:=h3 } (upd H2 s2.heap.objs.size (.lst [])) h3.objs.size) rfl rfl rfl hc i [] s5 σ5 H5 _ I5 (fpB fr5) st5 stop) fun r s6 ⟨hr,I6⟩=>?_
   subst hr
   refine wpAny_pure ?_
   have u6 : Un (frs X.stack) fp (upd H2 s2.heap.objs.size (.lst [])) H5 h3 s6.heap:=I6.base
   have hf6 : H5 h3.objs.size = none:=I6.free
   have I7 : Inv X pins σ H5 s6:=I3.call' (ch:=fp) I6.os u6 I6.hok I6.bare fun b hb=>⟨(f3 b hb).2.2.2.1,(f3 b hb).2.1,(f3 b hb).2.2.2.2.1,(f3 b hb).2.2.2.2.2⟩
   obtain ⟨m,hm,_⟩:=I6.loc
   exact hRR _ _ H5 s6 I7 ⟨m,hm⟩ (I3.fpOk (Nat.le_refl _) hf6) qn
  ·refine thn (T.item (X.block scope N fp { s2 with heap:=h3 } (upd H2 s2.heap.objs.size (.lst [])) h3.objs.size) rfl rfl rfl hc i [] s5 σ5 H5 _ I5 (fpB fr5) st5 go) fun r s6 ⟨u,hr,h6⟩=>?_
   subst hr
   refine wpAny_bind (thn h6 fun _ s7 ⟨x,H7,I7,r7,y7,st7,fr7⟩=>?_)
   have I7':=I7.pinned (fpB fr7) (T.obj _ _ st7)
   have fin : ∀ {σ9 : St} {H9 : Hp} {s9 : Shared},Inv (X.block scope N fp { s2 with heap:=h3 } (upd H2 s2.heap.objs.size (.lst [])) h3.objs.size) ([] ++ jjn fp s7.heap) σ9 H9 s9→N' σ9 H9 →
     ∃ m,m < n∧∃ i σ' H',Inv (X.block scope N fp { s2 with heap:=h3 } (upd H2 s2.heap.objs.size (.lst [])) h3.objs.size) [] σ' H' s9∧tn i s9.heap∧(∀ b ∈ fp,H' b = none)∧W i m σ' H':=fun {σ9 H9 s9} I9 n9=>by
    obtain ⟨m',hm,w9⟩:=hN' σ9 H9 n9
    refine ⟨m',hm,i + 1,σ9,H9,I9.unpinned,T.keep _ _ _ st7 fun b hb o e=>(I9.pin (b,o) (List.mem_append_right _ (List.mem_append_right _ (jdl hb e)))).1,fun b hb=>?_,w9⟩
    obtain ⟨o,e,d⟩:=T.obj _ _ st7 b hb
    exact (I9.pin (b,o) (List.mem_append_right _ (List.mem_append_right _ (jdl hb e)))).2.1
   refine wpAny_bind (wpAny_mono (hg fp _ _ _ _ s7 σ5 H7 x u _ I7' r7 (step x H7 y7)) (fun _ s8 ⟨σ8,H8,I8,q8⟩=>?_) fun _ _ z=>False.elim z)
   refine wpAny_bind (wpAny_mono (ht fp _ _ _ _ s8 σ8 H8 _ I8 q8) (fun ok s9 ⟨H9,I9,q9⟩=>?_) fun _ _ z=>False.elim z)
   cases ok with
   | false=>exact wpAny_pure ⟨rfl,fin I9 q9⟩
   | true =>
    refine wpAny_bind (wpAny_bind (wpAny_mono (he fp _ _ _ _ s9 σ8 H9 _ I9 q9) (fun v s10 ⟨y,H10,I10,r10,xs,hx,hz,q10⟩=>?_) fun _ _ z=>False.elim z))
    refine wpAny_bind (wpAny_mono (jjx (X:=X.block scope N fp { s2 with heap:=h3 } (upd H2 s2.heap.objs.size (.lst [])) h3.objs.size) _ s10 σ8 H10 (.ref s2.heap.objs.size) [y] _ [v] (fun _ H11=>N' σ8 H11) I10 rfl (.cons r10 .nil) ⟨_,xs,y,rfl,rfl,hx,hz,q10⟩)
     (fun _ s11 ⟨_,H11,I11,_,q11⟩=>wpAny_pure (wpAny_pure ⟨rfl,fin I11 q11⟩)) fun _ _ z=>False.elim z)
 exact codeAny_compStart_list (loop _ rfl) (T.self _ 0 _ _ _ tn1 (loop _ rfl))
noncomputable def jr3 (src : List (Option Nat)) (wi : TI) (g : TG) (tc : TT) (te : TE) : TE:=fun σ H Q=>wi σ H fun J H1=>∀ l,H1 l = none→jqf J src g tc te Q σ H1 l
theorem jgi {X : Cx} {elt tg iter : Expr} {ifs : List Expr} {scope : Scope} {pos : Pos} {N : List Str} {src : List (Option Nat)} {wi : TI} {g : TG} {tc : TT} {te : TE} (S : CpScope X scope N src) (hc : X.calm = true)
  (hi : PI X tg iter wi) (hg : ∀ fp s₀ H₀ C,PG (X.block scope N fp s₀ H₀ C) tg g) (ht : ∀ fp s₀ H₀ C,PIf (X.block scope N fp s₀ H₀ C) ifs tc) (he : ∀ fp s₀ H₀ C,PE (X.block scope N fp s₀ H₀ C) elt te)
  (hs : ∀ x,foldedSetIterable iter X.env x = pure x:=by intro _; rfl) : PE X (.ListComp elt [⟨tg,iter,ifs,0⟩] scope pos) (jr3 src wi g tc te):=by
 intro pins s σ H Q I h
 rw [eval_ListComp]
 refine wpAny_comprehension_free (use:=none) rfl hs (jbz fun y hy e=>I.ok.has y.1 (.inl (S.frees y hy e).2)) S.kind S.locs ?_
 refine thn (hi pins s σ H _ I h) fun v s1 h1=>thn h1 fun itv s2 h2=>?_
 obtain ⟨it,fp,tn,J,H2,e,I2,T,st2,f2,hw⟩:=h2
 subst e
 refine jk8 (RR:=fun acc C=>compPost (model X.prog X.w) X.A X.xe none (EP X pins σ Q) acc C) S hc hg ht he I2 T st2 f2 hw ?_
 intro l C H' s' I' hm fC q
 obtain ⟨m,hm⟩:=hm
 refine ⟨m,hm,fun h' hs'=>?_⟩
 exact ⟨.ref l,H',I'.turned (t':=s'.toks) (fun b o hb e=>hs'.extBut b o hb e) fC.1 fC.2.1 fC.2.2.2.1 fC.2.2.2.2.1 fC.2.2.2.2.2,rfl,q⟩
theorem jnw {X : Cx} {i : Nat} {x : Str} {pos' spos : Pos} {elt tg iter : Expr} {ifs : List Expr} {scope : Scope} {pos : Pos} {N : List Str} {src : List (Option Nat)} {wi : TI} {g : TG} {tc : TT} {te : TE} (hN : X.N.Nodup) (hix : X.N[i]? = some x) (hx : Loc X.env.scope x)
  (S : CpScope X scope N src) (hc : X.calm = true)
  (hi : PI X tg iter wi) (hg : ∀ fp s₀ H₀ C,PG (X.block scope N fp s₀ H₀ C) tg g) (ht : ∀ fp s₀ H₀ C,PIf (X.block scope N fp s₀ H₀ C) ifs tc) (he : ∀ fp s₀ H₀ C,PE (X.block scope N fp s₀ H₀ C) elt te)
  (hsw : swapsWith (.ListComp elt [⟨tg,iter,ifs,0⟩] scope pos) (some (.Name x pos')) spos.line X.env = pure true:=by rfl)
  (hs : ∀ x,foldedSetIterable iter X.env x = pure x:=by intro _; rfl) (hf : X.fn x = true ∨ X.env.scope.names.lookup x = some .local:=by first | exact .inl rfl | exact .inr rfl | assumption) :
  PS X (.Assign [.Name x pos'] (.ListComp elt [⟨tg,iter,ifs,0⟩] scope pos) spos) (tAsg (jr3 src wi g tc te) (jf3 i)):=by
 intro pins s σ H D I h
 rw [exec_Assign_Name_used _ _ _ _ hsw]
 refine wpAny_bind (wpAny_standAt (wpAny_bind ?_))
 show wpAny _ X.A (do let _ ← comprehension (.ListComp elt [⟨tg,iter,ifs,0⟩] scope pos) scope X.env _ (newList []) false (eval iter X.env) (some (assign (.Name x pos') X.env))) _ _ s
 refine wpAny_bind (wpAny_mono (wpAny_comprehension_free (use:=some (assign (.Name x pos') X.env)) (Q:=fun _ s'=>SP X pins D .next s') rfl hs (jbz fun y hy e=>I.ok.has y.1 (.inl (S.frees y hy e).2)) S.kind S.locs
  (thn (hi pins s σ H _ I h) fun v s1 h1=>thn h1 fun itv s2 h2=>?_)) (fun _ s' hq=>wpAny_pure (wpAny_pure hq)) fun _ _ e=>e)
 obtain ⟨it,fp,tn,J,H2,e,I2,T,st2,f2,hw⟩:=h2
 subst e
 refine jk8 (Q:=fun v H'=>D.nx (σ.set i (some v)) H') (RR:=fun acc C=>compPost (model X.prog X.w) X.A X.xe (some (assign (.Name x pos') X.env)) (fun _ s'=>SP X pins D .next s') acc C) S hc hg ht he I2 T st2 f2 hw ?_
 intro l C H' s' I' hm fC q
 obtain ⟨m,hm⟩:=hm
 show wpAny _ X.A (assign (.Name x pos') X.env (.ref l)) _ _ _
 refine wpAny_assign_Name (jjf I' hN hix hx (v:=.ref l) rfl (fun s'' I'' ⟨a,sb,ha⟩=>?_) hf)
 have hCa : C ≠ a:=by
  rcases ha with rfl | ha
  ·exact fC.2.1
  ·exact fun z=>fC.2.2.2.2.1 x a ha z.symm
 refine ⟨m,hm.sameBut sb hCa,fun h' hs'=>?_⟩
 exact ⟨_,H',I''.turned (t':=s''.toks) (fun b o hb e=>hs'.extBut b o hb e) fC.1 fC.2.1 fC.2.2.2.1 fC.2.2.2.2.1 fC.2.2.2.2.2,q⟩
end L2
namespace L2
open PySem PySem.Spec PyProof.Rows
theorem Inv.turnedNew {X : Cx} {pins : List (Addr × Obj)} {σ : St} {H : Hp} {s : Shared} {h' : Heap} {ch : List Addr} {t : Addr} {o : HO} {t' : Nat} (I : Inv X pins σ H s) (hsz : s.heap.objs.size ≤ t)
  (k : ∀ b ob,b ∉ ch→s.heap.get? b = some ob→h'.get? b = some ob) (hch : ∀ b ∈ ch,FpOk X pins H b) (new : jb2 X.prog X.w (upd H t o) h' t o) :
  Inv X pins σ (upd H t o) { s with heap:=h',toks:=t' }:=by
 have hn : H t = none:=I.hok.fresh hsz
 have nt : ∀ {b ob},s.heap.get? b = some ob→b ≠ t:=fun q=>Nat.ne_of_lt (Nat.lt_of_lt_of_le (Heap.lt_size q) hsz)
 have u : Un (frs X.stack) ch H (upd H t o) s.heap h' :=
  ⟨fun b ob q _ _ hx=>k b ob hx q,fun b ob q _ _ hx=>⟨ob.slots,k b ob hx q⟩,fun b ob q n _=>by rw [ja8 (nt q)]; exact n,fun b ob q hx=>⟨ob,k b ob hx q⟩,
   fun b xs q=>by rw [ja8 (ja6 q hn)]; exact q,fun b ob xs q=>by rw [ja8 (ja6 q hn)]; exact q,fun b ps q=>⟨#[],by rw [ja8 (ja6 q hn),q]; simp⟩⟩
 refine I.call (g':=s.gens) (t':=t') (d':=s.drawn) u (fun b ob e=>?_) I.bare fun b hb=>⟨(hch b hb).2.2.2.1,(hch b hb).2.1,(hch b hb).2.2.2.2.1,(hch b hb).2.2.2.2.2⟩
 by_cases hb : b = t
 ·subst hb; rw [ja1] at e; cases e; exact new
 ·rw [ja8 hb] at e
  have ntr : ∀ {c u},H c = some u→c ∉ ch:=fun q z=>by rw [(hch _ z).1] at q; cases q
  refine (I.hok b ob e).stay (fun c v hc q=>k c v ?_ q) (fun c q=>by rw [ja8 (ja6 q hn)]; exact q) fun c xs q=>by rw [ja8 (ja6 q hn)]; exact q
  rcases hc with z | z
  ·rw [z]; exact ntr e
  ·exact ntr z
theorem Inv.turnedAll {X : Cx} {pins : List (Addr × Obj)} {σ : St} {H : Hp} {s : Shared} {h' : Heap} {ch : List Addr} {t' : Nat} (I : Inv X pins σ H s)
  (k : ∀ b ob,b ∉ ch→s.heap.get? b = some ob→h'.get? b = some ob) (hch : ∀ b ∈ ch,FpOk X pins H b) : Inv X pins σ H { s with heap:=h',toks:=t' }:=by
 have u : Un (frs X.stack) ch H H s.heap h' :=
  ⟨fun b ob q _ _ hx=>k b ob hx q,fun b ob q _ _ hx=>⟨ob.slots,k b ob hx q⟩,fun b ob q n _=>n,fun b ob q hx=>⟨ob,k b ob hx q⟩,fun b xs q=>q,fun b ob xs q=>q,fun b ps q=>⟨#[],by rw [q]; simp⟩⟩
 refine I.call (g':=s.gens) (t':=t') (d':=s.drawn) u (fun b ob e=>?_) I.bare fun b hb=>⟨(hch b hb).2.2.2.1,(hch b hb).2.1,(hch b hb).2.2.2.2.1,(hch b hb).2.2.2.2.2⟩
 have ntr : ∀ {c u},H c = some u→c ∉ ch:=fun q z=>by rw [(hch _ z).1] at q; cases q
 refine (I.hok b ob e).stay (fun c v hc q=>k c v ?_ q) (fun c q=>q) fun c xs q=>q
 rcases hc with z | z
 ·rw [z]; exact ntr e
 ·exact ntr z
noncomputable def Ite (K : PySem.W.Frag) (a : Addr) : It :=
 ⟨fun i H=>∃ xs x,SqL K H a xs∧xs[i]? = some x,fun i H x H'=>∃ t y,H t = none∧x = .ref t∧H' = upd H t (.tup [.int i,y])∧∀ xs,SqL K H a xs→xs[i]? = some y,fun i H=>∃ xs,SqL K H a xs∧xs.length ≤ i⟩
theorem jnc {P : Program} {w : World} {K : PySem.W.Frag} {elts : List Expr} {x1 : Nat} {pos : Pos} (a e it : Addr) (hne : e ≠ it) :
  Turn P w K (.Tuple elts x1 pos) (Ite K a) [e,it] e (fun i h=>(∃ old,IsEnum h e it i old)∧h.IsListIter it a i) where
 mem:=by simp
 obj:=fun i h st b hb=>by
  obtain ⟨⟨old,he⟩,hit⟩:=st
  have q : b = e ∨ b = it:=by simpa using hb
  rcases q with rfl | rfl
  ·exact ⟨_,he,fun v z=>by
    have z' : Data.fields _ = Data.cell v:=z
    cases z'⟩
  ·obtain ⟨o,e1,c,d⟩:=hit
   exact ⟨o,e1,fun v z=>by rw [d] at z; cases z⟩
 keep:=fun i h h' st k=>by
  obtain ⟨⟨old,he⟩,hit⟩:=st
  exact ⟨⟨old,k e (by simp) _ he⟩,hit.at fun o z=>k it (by simp) o z⟩
 item:=by
  intro X hP hw hK hc i pins s σ H E I hf st hg
  subst hP hw hK
  obtain ⟨⟨old,he⟩,hit⟩:=st
  obtain ⟨xs,x,hq,hx⟩:=hg
  obtain ⟨its,rv,p,hz⟩:=I.list hq
  obtain ⟨u,hu,ru⟩:=rv.get hx
  have elt : e < s.heap.objs.size:=Heap.lt_size he
  have ilt : it < s.heap.objs.size:=by obtain ⟨_,z,_⟩:=hit; exact Heap.lt_size z
  refine wpAny_pyNext_enum_item he hit p.isList (x:=u) (by simpa using hu) hne fun h1 ho hit1 hT hsz1 hk1=>?_
  refine ⟨_,rfl,wpAny_letOwnedTupleGo_enum ho fun h2 he2 hs2=>?_⟩
  replace hs2 : Heap.SameBut e h1 h2:=hs2
  have kk : ∀ b ob,b ∉ [e,it]→s.heap.get? b = some ob→h2.get? b = some ob:=fun b ob hb q=>by
   have hb' : b ≠ e∧b ≠ it:=by simpa using hb
   exact hs2.extBut b ob hb'.1 (hk1 b ob hb'.1 hb'.2 q)
  have hT2 : h2.get? s.heap.objs.size = some { cls:=.type "tuple",data:=.seq #[.int i s.toks,u] }:=(hs2.2 _ (Nat.ne_of_gt elt)).trans hT
  refine ⟨.ref s.heap.objs.size,upd H s.heap.objs.size (.tup [.int i,x]),I.turnedNew (ch:=[e,it]) (Nat.le_refl _) kk hf ?_,rfl,⟨_,x,I.fresh,rfl,rfl,fun ys hy=>by rw [I.list_inj hy hq]; exact hx⟩,⟨⟨u,by simpa using he2⟩,hit1.at fun o z=>(hs2.2 it hne.symm).trans z⟩,fun b hb=>?_⟩
  ·exact ⟨by show 2 ≤ sizeLine; decide,[.int i s.toks,u],.cons ⟨_,rfl⟩ (.cons ru .nil),⟨_,hT2,rfl,_,rfl⟩⟩
  ·have hb' : b = e ∨ b = it:=by simpa using hb
   have : b ≠ s.heap.objs.size:=by
    rcases hb' with rfl | rfl
    ·exact Nat.ne_of_lt elt
    ·exact Nat.ne_of_lt ilt
   rw [ja8 this]
   exact (hf b hb).1
 done:=by
  intro X hP hw hK hc i pins s σ H E I hf st hg
  subst hP hw hK
  obtain ⟨⟨old,he⟩,hit⟩:=st
  obtain ⟨xs,hq,hx⟩:=hg
  obtain ⟨its,rv,p,hz⟩:=I.list hq
  have hl:=rv.length
  refine wpAny_pyNext_enum_end (I.ok.hd hc) he hit p.isList (by simp; omega) fun h' eb=>⟨rfl,I.turnedAll (ch:=[e,it]) (t':=s.toks) (fun b o hb q=>eb b o (fun z=>hb (by simp [z])) q) hf⟩
 self:=fun _ _ _ _ _ st h=>by
  obtain ⟨⟨old,he⟩,_⟩:=st
  exact wpAny_pyIter_enum he h
noncomputable def iEnum (K : PySem.W.Frag) (ta : TA) : TI:=fun σ H R=>ta σ H fun vs H1=>∃ a,vs = [.ref a]∧(∃ xs,SqL K H1 a xs)∧R (Ite K a) H1
theorem jig {X : Cx} {elts : List Expr} {x1 : Nat} {tpos : Pos} {a : Expr} {ta : TA} {p pos : Pos} (hg : Gl X "enumerate") (hm : X.mg "enumerate" = none) (ha : PA X [a] ta) (hs : starEach [a] X.env = [(false,eval a X.env)]:=by rfl) :
  PI X (.Tuple elts x1 tpos) (.Call (.Name "enumerate" p) [a] [] pos) (iEnum X.K ta):=by
 intro pins s σ H R I h
 refine Call_ (jfc I hg hm boot_enumerate (PyProof.Rows.callWith_type1 (thn (ha pos pins s σ H _ I h) fun us s1 ⟨vs,H1,I1,r1,q1⟩=>?_) hs rfl))
 obtain ⟨a,e,⟨xs,hq⟩,q⟩:=q1
 subst e
 cases r1 with
 | cons r rr =>
  cases rr
  cases r
  obtain ⟨its,rv,pl,hz⟩:=I1.list hq
  refine call_enumerate_list pl.isList fun h' he hit hsz hk=>?_
  refine wpAny_pyIter_enum he ?_
  have I2 : Inv X pins σ H1 { s1 with heap:=h' }:=I1.kept (t':=s1.toks) fun b o q=>hk b o q
  refine ⟨_,[s1.heap.objs.size + 1,s1.heap.objs.size],_,_,H1,rfl,I2,jnc a _ _ (Nat.succ_ne_self _),⟨⟨_,he⟩,hit⟩,fun b hb=>?_,q⟩
  have hb' : b = s1.heap.objs.size + 1 ∨ b = s1.heap.objs.size:=by simpa using hb
  rcases hb' with rfl | rfl
  ·exact I1.fpOk (Nat.le_succ _) (I1.hok.fresh (Nat.le_succ _))
  ·exact I1.fpOk (Nat.le_refl _) (I1.hok.fresh (Nat.le_refl _))
end L2
namespace L2
open PySem PySem.Spec PyProof.Rows
section
variable {prog : Program} {w : World} {A : Around} {E : Value→Shared→Prop} {s : Shared}
theorem jmr {j t : Addr} {k : Nat} {ar : Array Value} {x : Value} {Q : Value→Shared→Prop} (hj : s.heap.IsTupleIter j t k) (ht : s.heap.IsTuple t ar) (hx : ar[k]? = some x)
  (hQ : ∀ h',h'.IsTupleIter j t (k + 1)→Heap.SameBut j s.heap h'→Q x { s with heap:=h' }) : wpAny (model prog w) A (Builtin.SmallTypes.nextOf (.ref j)) Q E s:=by
 obtain ⟨ob,e0,hcl,hdt⟩:=id hj
 obtain ⟨ot,e1,_,nt,hdl⟩:=ht
 unfold Builtin.SmallTypes.nextOf
 refine wpAny_bind (wpAny_callSpecial?_slot (name:=Str.ofString "__next__") hj.typeIs F.slot_tuple_iterator_next (wpAny_call_entry F.slot_tuple_iterator_next hj.typeIs F.entry_tuple_iterator_next ?_ (F.args_tuple_iterator_next_1 _)))
 show wpAny _ _ (field (.ref j) 0 >>= _) _ _ s
 refine wpAny_bind (wpAny_field e0 hdt (x:=.ref t) rfl ?_)
 show wpAny _ _ (if (Value.ref t == Value.none) = true then _ else _) _ _ s
 rw [if_neg (show ¬ ((Value.ref t == Value.none) = true) from Bool.false_ne_true)]
 show wpAny _ _ (field (.ref j) 1 >>= _) _ _ s
 refine wpAny_bind (wpAny_field e0 hdt (x:=.int k 0) rfl ?_)
 show wpAny _ _ (seqItems? (.ref t) >>= _) _ _ s
 refine wpAny_bind (wpAny_seqItems e1 hdl ?_)
 simp only [Int.toNat_natCast,hx]
 refine wpAny_bind (wpAny_setField e0 hdt (by simp) (wpAny_pure ⟨x,rfl,wpAny_pure (hQ _ ?_ (Heap.SameBut.update ..))⟩))
 exact ⟨_,Heap.get?_update_self _ e0 (Obj.isFreed_of_fields (Obj.data_mapFields hdt _)),(Obj.cls_mapFields ..).trans hcl,by rw [Obj.data_mapFields hdt]; simp [rawInt]⟩
theorem jh5 {j t : Addr} {k : Nat} {ar : Array Value} {Q : Value→Shared→Prop} (hh : A.handled = none) (hj : s.heap.IsTupleIter j t k) (ht : s.heap.IsTuple t ar) (hx : ar[k]? = none)
  (hE : ∀ h' e,Heap.ExtBut j s.heap h'→(∃ o,h'.get? e = some o∧o.cls = .type "StopIteration")→E (.ref e) { s with heap:=h' }) : wpAny (model prog w) A (Builtin.SmallTypes.nextOf (.ref j)) Q E s:=by
 obtain ⟨ob,e0,hcl,hdt⟩:=id hj
 obtain ⟨ot,e1,_,nt,hdl⟩:=ht
 unfold Builtin.SmallTypes.nextOf
 refine wpAny_bind (wpAny_callSpecial?_slot (name:=Str.ofString "__next__") hj.typeIs F.slot_tuple_iterator_next (wpAny_call_entry F.slot_tuple_iterator_next hj.typeIs F.entry_tuple_iterator_next ?_ (F.args_tuple_iterator_next_1 _)))
 show wpAny _ _ (field (.ref j) 0 >>= _) _ _ s
 refine wpAny_bind (wpAny_field e0 hdt (x:=.ref t) rfl ?_)
 show wpAny _ _ (if (Value.ref t == Value.none) = true then _ else _) _ _ s
 rw [if_neg (show ¬ ((Value.ref t == Value.none) = true) from Bool.false_ne_true)]
 show wpAny _ _ (field (.ref j) 1 >>= _) _ _ s
 refine wpAny_bind (wpAny_field e0 hdt (x:=.int k 0) rfl ?_)
 show wpAny _ _ (seqItems? (.ref t) >>= _) _ _ s
 refine wpAny_bind (wpAny_seqItems e1 hdl ?_)
 simp only [Int.toNat_natCast,hx]
 refine wpAny_bind (wpAny_rule (wpAny_bind (wpAny_setField e0 hdt (by simp) ?_)))
 show wpAny _ _ (newExc (.type "StopIteration") [] >>= _) _ _ _
 refine wpAny_bind ?_
 simp only [newExc,newTuple]
 refine wpAny_bind (wpAny_newObj_type ?_ (by size_fits))
 refine wpAny_bind (m:=firstArgMember _ _) (wpAny_of_eq (a:=Value.none) (by first | rfl | (simp only [firstArgMember]; rfl)) ?_)
 refine wpAny_newObj_type ?_ (by size_fits)
 simp only [raiseNew]
 refine wpAny_bind (wpAny_handled ?_)
 first | rw [show A.in1.handled = none from hh] | rw [hh]
 refine wpAny_bind (wpAny_pure (wpAny_throw ?_))
 exact hE _ _ (((Heap.SameBut.update ..).extBut.push _).push _) ⟨_,Heap.get?_push_size _ rfl,rfl⟩
noncomputable def IsSq (b : Bool) (h : Heap) (l : Addr) (ar : Array Value) : Prop:=if b = true then h.IsList l ar else h.IsTuple l ar
noncomputable def jbl (b : Bool) (h : Heap) (j l : Addr) (k : Nat) : Prop:=if b = true then h.IsListIter j l k else h.IsTupleIter j l k
theorem IsSq.at' {b : Bool} {h h' : Heap} {l : Addr} {ar : Array Value} (x : IsSq b h l ar) (k : ∀ o,h.get? l = some o→h'.get? l = some o) : IsSq b h' l ar:=by
 cases b with
 | true=>obtain ⟨o,e,r⟩:=(show h.IsList l ar from x); exact (show h'.IsList l ar from ⟨o,k o e,r⟩)
 | false=>obtain ⟨o,e,r⟩:=(show h.IsTuple l ar from x); exact (show h'.IsTuple l ar from ⟨o,k o e,r⟩)
theorem jbl.at' {b : Bool} {h h' : Heap} {j l : Addr} {i : Nat} (x : jbl b h j l i) (k : ∀ o,h.get? j = some o→h'.get? j = some o) : jbl b h' j l i:=by
 cases b with
 | true=>obtain ⟨o,e,r⟩:=(show h.IsListIter j l i from x); exact (show h'.IsListIter j l i from ⟨o,k o e,r⟩)
 | false=>obtain ⟨o,e,r⟩:=(show h.IsTupleIter j l i from x); exact (show h'.IsTupleIter j l i from ⟨o,k o e,r⟩)
theorem jbl.obj {b : Bool} {h : Heap} {j l : Addr} {i : Nat} (x : jbl b h j l i) : ∃ o,h.get? j = some o∧∀ v,o.data ≠ .cell v:=by
 cases b with
 | true=>obtain ⟨o,e,_,d⟩:=(show h.IsListIter j l i from x); exact ⟨o,e,fun v z=>by rw [d] at z; cases z⟩
 | false=>obtain ⟨o,e,_,d⟩:=(show h.IsTupleIter j l i from x); exact ⟨o,e,fun v z=>by rw [d] at z; cases z⟩
theorem jgp {b : Bool} {j l : Addr} {k : Nat} {ar : Array Value} {x : Value} {Q : Value→Shared→Prop} (hj : jbl b s.heap j l k) (hl : IsSq b s.heap l ar) (hx : ar[k]? = some x)
  (hQ : ∀ h',jbl b h' j l (k + 1)→Heap.SameBut j s.heap h'→Q x { s with heap:=h' }) : wpAny (model prog w) A (Builtin.SmallTypes.nextOf (.ref j)) Q E s:=by
 cases b with
 | true=>exact wpAny_nextOf_list_item (show s.heap.IsListIter j l k from hj) (show s.heap.IsList l ar from hl) hx fun h' a b=>hQ h' a b
 | false=>exact jmr (show s.heap.IsTupleIter j l k from hj) (show s.heap.IsTuple l ar from hl) hx fun h' a b=>hQ h' a b
theorem jei {b : Bool} {j l : Addr} {k : Nat} {ar : Array Value} {Q : Value→Shared→Prop} (hh : A.handled = none) (hj : jbl b s.heap j l k) (hl : IsSq b s.heap l ar) (hx : ar[k]? = none)
  (hE : ∀ h' e,Heap.ExtBut j s.heap h'→(∃ o,h'.get? e = some o∧o.cls = .type "StopIteration")→E (.ref e) { s with heap:=h' }) : wpAny (model prog w) A (Builtin.SmallTypes.nextOf (.ref j)) Q E s:=by
 cases b with
 | true=>exact wpAny_nextOf_list_end hh (show s.heap.IsListIter j l k from hj) (show s.heap.IsList l ar from hl) hx hE
 | false=>exact jh5 hh (show s.heap.IsTupleIter j l k from hj) (show s.heap.IsTuple l ar from hl) hx hE
theorem jj9 {b : Bool} {z TI TO i1 i2 l1 l2 : Addr} {k1 k2 : Nat} {xs ys : Array Value} {x y v0 v1 : Value} {Q : Value→Shared→Prop} (D : ZipApart z TI TO i1 i2 l1 l2)
  (hz : IsZip s.heap z TI TO .none) (hTI : IsPair s.heap TI (.ref i1) (.ref i2)) (hTO : IsPair s.heap TO v0 v1)
  (h1 : jbl b s.heap i1 l1 k1) (h2 : jbl b s.heap i2 l2 k2) (hl1 : IsSq b s.heap l1 xs) (hl2 : IsSq b s.heap l2 ys) (hx : xs[k1]? = some x) (hy : ys[k2]? = some y)
  (hQ : ∀ h',IsZip h' z TI TO (rawInt s.heap.objs.size)→IsPair h' TO x y→jbl b h' i1 l1 (k1 + 1)→jbl b h' i2 l2 (k2 + 1)→IsPair h' s.heap.objs.size x y →
   (∀ c o,c ≠ z→c ≠ TO→c ≠ i1→c ≠ i2→s.heap.get? c = some o→h'.get? c = some o)→Q (.ref s.heap.objs.size) { s with heap:=h' }) :
  wpAny (model prog w) A (Builtin.«zip.__next__» ⟨[.ref z],[]⟩) (fun fin s'=>∃ v,fin = .done (.ret v)∧Q v s') E s:=by
 show wpAny _ _ (field (.ref z) 2 >>= _) _ _ _
 refine wpAny_bind (wpAny_field hz rfl (x:=.bool false) rfl ?_)
 show wpAny _ _ (field (.ref z) 3 >>= _) _ _ _
 refine wpAny_bind (wpAny_field hz rfl (x:=.ref TI) rfl ?_)
 refine wpAny_bind (wpAny_seqItems hTI rfl ?_)
 show wpAny _ _ (Builtin.SmallTypes.ownedTupleIsFree (.ref z) >>= _) _ _ _
 refine wpAny_bind ?_
 unfold Builtin.SmallTypes.ownedTupleIsFree
 refine wpAny_bind (wpAny_field hz rfl (x:=.none) rfl (wpAny_pure ?_))
 simp only [if_true]
 refine wpAny_bind (wpAny_rule ?_)
 refine wpAny_bind (wpAny_field hz rfl (x:=.ref TO) rfl ?_)
 refine wpAny_bind (wpAny_setField_rec hz (by simp) fun g1 hzA sA=>?_)
 replace hzA : IsZip g1 z TI TO .ellipsis:=hzA
 refine wpAny_bind ?_
 simp only [List.zipIdx_cons,List.zipIdx_nil,List.forIn_cons,List.forIn_nil]
 refine wpAny_bind (wpAny_bind (wpAny_onRaise ?_))
 show wpAny _ _ (Builtin.SmallTypes.nextOf (.ref i1) >>= _) _ _ _
 refine wpAny_bind (jgp (b:=b) (h1.at' fun o e=>sA.extBut _ o D.i1z e) (hl1.at' fun o e=>sA.extBut _ o D.l1z e) hx fun g2 h1B sB=>wpAny_pure ?_)
 have TOB : IsPair g2 TO v0 v1:=sB.extBut _ _ D.TOi1 (sA.extBut _ _ D.TOz hTO)
 refine wpAny_bind (wpAny_seqItems TOB rfl ?_)
 refine wpAny_bind (wpAny_updateSeq_pair TOB fun g3 TOC sC=>?_)
 replace TOC : IsPair g3 TO x v1:=TOC
 refine wpAny_bind (wpAny_letGo (wpAny_pure ?_))
 refine wpAny_bind (wpAny_bind (wpAny_onRaise ?_))
 show wpAny _ _ (Builtin.SmallTypes.nextOf (.ref i2) >>= _) _ _ _
 refine wpAny_bind (jgp (b:=b) (h2.at' fun o e=>sC.extBut _ o D.TOi2.symm (sB.extBut _ o D.i12.symm (sA.extBut _ o D.i2z e))) (hl2.at' fun o e=>sC.extBut _ o D.l2TO (sB.extBut _ o D.l2i1 (sA.extBut _ o D.l2z e))) hy fun g4 h2D sD=>wpAny_pure ?_)
 have TOD : IsPair g4 TO x v1:=sD.extBut _ _ D.TOi2 TOC
 refine wpAny_bind (wpAny_seqItems TOD rfl ?_)
 refine wpAny_bind (wpAny_updateSeq_pair TOD fun g5 TOE sE=>?_)
 replace TOE : IsPair g5 TO x y:=TOE
 refine wpAny_bind (wpAny_letGo (wpAny_pure (wpAny_pure ?_)))
 refine wpAny_bind (wpAny_seqItems TOE rfl ?_)
 refine wpAny_bind (wpAny_newTuple ?_)
 have hsz : g5.objs.size = s.heap.objs.size:=by rw [sE.1,sD.1,sC.1,sB.1,sA.1]
 have hzE : IsZip g5 z TI TO .ellipsis:=sE.extBut _ _ D.TOz.symm (sD.extBut _ _ D.i2z.symm (sC.extBut _ _ D.TOz.symm (sB.extBut _ _ D.i1z.symm hzA)))
 have hkE : ∀ c o,c ≠ z→c ≠ TO→c ≠ i1→c ≠ i2→s.heap.get? c = some o→g5.get? c = some o:=fun c o c1 c2 c3 c4 e=>sE.extBut _ _ c2 (sD.extBut _ _ c4 (sC.extBut _ _ c2 (sB.extBut _ _ c3 (sA.extBut _ _ c1 e))))
 have h1E : jbl b g5 i1 l1 (k1 + 1):=h1B.at' fun o e=>sE.extBut _ o D.TOi1.symm (sD.extBut _ o D.i12 (sC.extBut _ o D.TOi1.symm e))
 have h2E : jbl b g5 i2 l2 (k2 + 1):=h2D.at' fun o e=>sE.extBut _ o D.TOi2.symm e
 have zlt : z < g5.objs.size:=Heap.lt_size hzE
 show wpAny _ _ (Builtin.SmallTypes.ownedTupleHandOut (.ref z) (.ref g5.objs.size) >>= _) _ _ _
 refine wpAny_bind ?_
 unfold Builtin.SmallTypes.ownedTupleHandOut
 have hzF : IsZip (g5.push { cls:=.type "tuple",data:=.seq #[x,y] }) z TI TO .ellipsis:=Heap.get?_push_of_some _ hzE
 refine wpAny_bind (wpAny_setField_rec hzF (by simp) fun g7 hzG sG=>?_)
 replace hzG : IsZip g7 z TI TO (rawInt g5.objs.size):=hzG
 refine wpAny_setField_rec hzG (by simp) fun g8 hzI sI=>?_
 replace hzI : IsZip g8 z TI TO (rawInt g5.objs.size):=hzI
 have up : ∀ c o,c ≠ z→g5.get? c = some o→g8.get? c = some o:=fun c o c1 e=>sI.extBut _ _ c1 (sG.extBut _ _ c1 (Heap.get?_push_of_some _ e))
 have hTI8 : IsPair g8 g5.objs.size x y:=sI.extBut _ _ (Nat.ne_of_gt zlt) (sG.extBut _ _ (Nat.ne_of_gt zlt) (Heap.get?_push_size _ rfl))
 rw [hsz] at hzI hTI8
 refine wpAny_pure ⟨_,rfl,?_⟩
 show Q (.ref g5.objs.size) _
 rw [hsz]
 exact hQ g8 hzI (up _ _ D.TOz TOE) (h1E.at' fun o e=>up _ o D.i1z e) (h2E.at' fun o e=>up _ o D.i2z e) hTI8 fun c o c1 c2 c3 c4 e=>up c o c1 (hkE c o c1 c2 c3 c4 e)
theorem jkg {b : Bool} {z TI TO i1 i2 l1 l2 : Addr} {k1 k2 : Nat} {xs ys : Array Value} {v0 v1 : Value} {Q : Fin→Shared→Prop} (hh : A.handled = none) (D : ZipApart z TI TO i1 i2 l1 l2)
  (hz : IsZip s.heap z TI TO .none) (hTI : IsPair s.heap TI (.ref i1) (.ref i2)) (hTO : IsPair s.heap TO v0 v1)
  (h1 : jbl b s.heap i1 l1 k1) (h2 : jbl b s.heap i2 l2 k2) (hl1 : IsSq b s.heap l1 xs) (hl2 : IsSq b s.heap l2 ys) (hend : xs[k1]? = none ∨ ys[k2]? = none)
  (hE : ∀ h' e,(∀ c o,c ≠ z→c ≠ TO→c ≠ i1→c ≠ i2→s.heap.get? c = some o→h'.get? c = some o)→(∃ o,h'.get? e = some o∧o.cls = .type "StopIteration")→E (.ref e) { s with heap:=h' }) :
  wpAny (model prog w) A (Builtin.«zip.__next__» ⟨[.ref z],[]⟩) Q E s:=by
 show wpAny _ _ (field (.ref z) 2 >>= _) _ _ _
 refine wpAny_bind (wpAny_field hz rfl (x:=.bool false) rfl ?_)
 show wpAny _ _ (field (.ref z) 3 >>= _) _ _ _
 refine wpAny_bind (wpAny_field hz rfl (x:=.ref TI) rfl ?_)
 refine wpAny_bind (wpAny_seqItems hTI rfl ?_)
 show wpAny _ _ (Builtin.SmallTypes.ownedTupleIsFree (.ref z) >>= _) _ _ _
 refine wpAny_bind ?_
 unfold Builtin.SmallTypes.ownedTupleIsFree
 refine wpAny_bind (wpAny_field hz rfl (x:=.none) rfl (wpAny_pure ?_))
 simp only [if_true]
 refine wpAny_bind (wpAny_rule ?_)
 refine wpAny_bind (wpAny_field hz rfl (x:=.ref TO) rfl ?_)
 refine wpAny_bind (wpAny_setField_rec hz (by simp) fun g1 hzA sA=>?_)
 replace hzA : IsZip g1 z TI TO .ellipsis:=hzA
 refine wpAny_bind ?_
 simp only [List.zipIdx_cons,List.zipIdx_nil,List.forIn_cons,List.forIn_nil]
 refine wpAny_bind (wpAny_bind (wpAny_onRaise ?_))
 show wpAny _ _ (Builtin.SmallTypes.nextOf (.ref i1) >>= _) _ _ _
 cases hx : xs[k1]? with
 | none =>
  refine wpAny_bind (jei (b:=b) hh (h1.at' fun o e=>sA.extBut _ o D.i1z e) (hl1.at' fun o e=>sA.extBut _ o D.l1z e) hx fun g2 ex sB he=>?_)
  obtain ⟨oe,hoe,hce⟩:=he
  have hzB : IsZip g2 z TI TO .ellipsis:=sB _ _ D.i1z.symm hzA
  have hez : ex ≠ z:=fun q=>by subst q; rw [hzB] at hoe; cases hoe; simp at hce
  refine wpAny_setField_rec hzB (by simp) fun g3 _ sC=>hE g3 ex (fun c o c1 _ c3 _ q=>sC.extBut _ _ c1 (sB _ _ c3 (sA.extBut _ _ c1 q))) ⟨oe,sC.extBut _ _ hez hoe,hce⟩
 | some x =>
  have hy : ys[k2]? = none:=by rcases hend with h | h; rw [hx] at h; cases h; exact h
  refine wpAny_bind (jgp (b:=b) (h1.at' fun o e=>sA.extBut _ o D.i1z e) (hl1.at' fun o e=>sA.extBut _ o D.l1z e) hx fun g2 h1B sB=>wpAny_pure ?_)
  have TOB : IsPair g2 TO v0 v1:=sB.extBut _ _ D.TOi1 (sA.extBut _ _ D.TOz hTO)
  refine wpAny_bind (wpAny_seqItems TOB rfl ?_)
  refine wpAny_bind (wpAny_updateSeq_pair TOB fun g3 TOC sC=>?_)
  refine wpAny_bind (wpAny_letGo (wpAny_pure ?_))
  refine wpAny_bind (wpAny_bind (wpAny_onRaise ?_))
  show wpAny _ _ (Builtin.SmallTypes.nextOf (.ref i2) >>= _) _ _ _
  refine wpAny_bind (jei (b:=b) hh (h2.at' fun o e=>sC.extBut _ o D.TOi2.symm (sB.extBut _ o D.i12.symm (sA.extBut _ o D.i2z e))) (hl2.at' fun o e=>sC.extBut _ o D.l2TO (sB.extBut _ o D.l2i1 (sA.extBut _ o D.l2z e))) hy fun g4 ex sD he=>?_)
  obtain ⟨oe,hoe,hce⟩:=he
  have hzD : IsZip g4 z TI TO .ellipsis:=sD _ _ D.i2z.symm (sC.extBut _ _ D.TOz.symm (sB.extBut _ _ D.i1z.symm hzA))
  have hez : ex ≠ z:=fun q=>by subst q; rw [hzD] at hoe; cases hoe; simp at hce
  refine wpAny_setField_rec hzD (by simp) fun g5 _ sE=>hE g5 ex (fun c o c1 c2 c3 c4 q=>sE.extBut _ _ c1 (sD _ _ c4 (sC.extBut _ _ c2 (sB.extBut _ _ c3 (sA.extBut _ _ c1 q))))) ⟨oe,sE.extBut _ _ hez hoe,hce⟩
end
noncomputable abbrev zpIt (b : Bool) (l : Addr) : Obj:={ cls:=.type (if b = true then "list_iterator" else "tuple_iterator"),data:=.fields #[.ref l,.int 0 0] }
noncomputable abbrev zp2 (b : Bool) (h : Heap) (l1 l2 : Addr) : Heap:=(h.push (zpIt b l1)).push (zpIt b l2)
noncomputable abbrev zp3 (b : Bool) (h : Heap) (l1 l2 : Addr) : Heap:=(zp2 b h l1 l2).push { cls:=.type "tuple",data:=.seq #[.ref h.objs.size,.ref (h.push (zpIt b l1)).objs.size] }
noncomputable abbrev zp4 (b : Bool) (h : Heap) (l1 l2 : Addr) : Heap:=(zp3 b h l1 l2).push { cls:=.type "tuple",data:=.seq #[.none,.none] }
noncomputable abbrev zp5 (b : Bool) (h : Heap) (l1 l2 : Addr) : Heap:=(zp4 b h l1 l2).push { cls:=.type "zip",data:=.fields #[.none,.bool false,.bool false,.ref (zp2 b h l1 l2).objs.size,.ref (zp3 b h l1 l2).objs.size] }
theorem jn6 (l1 l2 : Addr) (xs ys : Array Value) :
  Meets (Builtin.«zip.__new__» ⟨[.type "zip",.ref l1,.ref l2],[]⟩) (fun _ R s=>s.heap.IsTuple l1 xs∧s.heap.IsTuple l2 ys∧R (.ok (.ret (.ref (zp4 false s.heap l1 l2).objs.size))) { s with heap:=zp5 false s.heap l1 l2 }) :=
 .of_wp fun prog w A R s h=>by
  obtain ⟨hp,g,d,tk,os⟩:=s; obtain ⟨hl1,hl2,h⟩:=h
  have hsub:=sub_zip
  have hL1 : Heap.IsTuple (Shared.heap ⟨hp,g,d,tk,os⟩) l1 xs:=hl1
  have hL2 : Heap.IsTuple (Shared.heap ⟨hp.push { cls:=.type "tuple_iterator",data:=.fields #[.ref l1,.int 0 0] },g,d,tk,os⟩) l2 ys:=Heap.IsTuple.push hl2 _
  wp_walk using wpAny_pyIter_tuple hL1,wpAny_pyIter_tuple hL2
  exact ⟨_,rfl,h⟩
section
variable {prog : Program} {w : World} {A : Around} {E : Value→Shared→Prop} {s : Shared}
theorem js2 {b : Bool} {l1 l2 : Addr} {xs ys : Array Value} {Q : Value→Shared→Prop} (hl1 : IsSq b s.heap l1 xs) (hl2 : IsSq b s.heap l2 ys)
  (h : ∀ h',IsZip h' (s.heap.objs.size + 4) (s.heap.objs.size + 2) (s.heap.objs.size + 3) .none→IsPair h' (s.heap.objs.size + 2) (.ref s.heap.objs.size) (.ref (s.heap.objs.size + 1)) →
   IsPair h' (s.heap.objs.size + 3) .none .none→jbl b h' s.heap.objs.size l1 0→jbl b h' (s.heap.objs.size + 1) l2 0→(∀ c o,s.heap.get? c = some o→h'.get? c = some o)→Q (.ref (s.heap.objs.size + 4)) { s with heap:=h' }) :
  wpAny (model prog w) A (call (.type "zip") [.ref l1,.ref l2]) Q E s:=by
 cases b with
 | true=>exact call_zip_2 (show s.heap.IsList l1 xs from hl1) (show s.heap.IsList l2 ys from hl2) fun h' a1 a2 a3 a4 a5 _ a7=>h h' a1 a2 a3 a4 a5 a7
 | false =>
  refine callType_new F.called_zip (by decide) (F.typeCall_zip_2 _ _) (F.newCall_zip_2 _ _) (fun obj=>F.args_object_init_3 obj _ _) F.entry_zip_new (jn6 l1 l2 xs ys) ⟨hl1,hl2,?_⟩
  have q1 : (s.heap.push (zpIt false l1)).objs.size = s.heap.objs.size + 1:=Heap.size_push ..
  have q2 : (zp2 false s.heap l1 l2).objs.size = s.heap.objs.size + 2:=by rw [Heap.size_push,q1]
  have q3 : (zp3 false s.heap l1 l2).objs.size = s.heap.objs.size + 3:=by rw [Heap.size_push,q2]
  have q4 : (zp4 false s.heap l1 l2).objs.size = s.heap.objs.size + 4:=by rw [Heap.size_push,q3]
  have p5 : (zp5 false s.heap l1 l2).get? (zp4 false s.heap l1 l2).objs.size = some _:=Heap.get?_push_size _ rfl
  have p4 : (zp5 false s.heap l1 l2).get? (zp3 false s.heap l1 l2).objs.size = some _:=Heap.get?_push_of_some _ (Heap.get?_push_size _ rfl)
  have p3 : (zp5 false s.heap l1 l2).get? (zp2 false s.heap l1 l2).objs.size = some _:=Heap.get?_push_of_some _ (Heap.get?_push_of_some _ (Heap.get?_push_size _ rfl))
  have p2 : (zp5 false s.heap l1 l2).get? (s.heap.push (zpIt false l1)).objs.size = some _:=Heap.get?_push_of_some _ (Heap.get?_push_of_some _ (Heap.get?_push_of_some _ (Heap.get?_push_size _ rfl)))
  have p1 : (zp5 false s.heap l1 l2).get? s.heap.objs.size = some _:=Heap.get?_push_of_some _ (Heap.get?_push_of_some _ (Heap.get?_push_of_some _ (Heap.get?_push_of_some _ (Heap.get?_push_size _ rfl))))
  show _∧_
  rw [q2,q3,q4] at p5
  rw [q1,q2] at p3
  rw [q3] at p4
  rw [q1] at p2
  rw [q4]
  exact ⟨⟨_,p5,rfl⟩,h _ p5 p3 p4 (show Heap.IsTupleIter _ _ _ _ from ⟨_,p1,rfl,rfl⟩) (show Heap.IsTupleIter _ _ _ _ from ⟨_,p2,rfl,rfl⟩) fun c o x =>
   Heap.get?_push_of_some _ (Heap.get?_push_of_some _ (Heap.get?_push_of_some _ (Heap.get?_push_of_some _ (Heap.get?_push_of_some _ x))))⟩
end
noncomputable def SqB (b : Bool) (K : PySem.W.Frag) (H : Hp) (a : Addr) (xs : List V) : Prop:=if b = true then SqL K H a xs else SqT K H a xs
theorem Inv.sqB {X : Cx} {pins : List (Addr × Obj)} {σ : St} {H : Hp} {s : Shared} {b : Bool} {a : Addr} {xs : List V} (I : Inv X pins σ H s) (h : SqB b X.K H a xs) : ∃ its : List Value,Vals xs its∧IsSq b s.heap a its.toArray∧xs.length ≤ sizeLine:=by
 cases b with
 | true =>
  obtain ⟨its,r,p,z⟩:=I.list (show SqL X.K H a xs from h)
  exact ⟨its,r,p.isList,z⟩
 | false =>
  obtain ⟨its,r,p,z⟩:=I.tuple (show SqT X.K H a xs from h)
  exact ⟨its,r,(show s.heap.IsTuple a its.toArray from p),z⟩
theorem Inv.sqB_inj {X : Cx} {pins : List (Addr × Obj)} {σ : St} {H : Hp} {s : Shared} {b : Bool} {a : Addr} {xs ys : List V} (I : Inv X pins σ H s) (h : SqB b X.K H a xs) (h' : SqB b X.K H a ys) : xs = ys:=by
 cases b with
 | true=>exact I.list_inj (show SqL X.K H a xs from h) (show SqL X.K H a ys from h')
 | false=>exact I.tuple_inj (show SqT X.K H a xs from h) (show SqT X.K H a ys from h')
noncomputable def Itz (b : Bool) (K : PySem.W.Frag) (a c : Addr) : It :=
  ⟨fun i H=>∃ xs ys x y,SqB b K H a xs∧SqB b K H c ys∧xs[i]? = some x∧ys[i]? = some y,
   fun i H v H'=>∃ t x y,H t = none∧v = .ref t∧H' = upd H t (.tup [x,y])∧(∀ xs,SqB b K H a xs→xs[i]? = some x)∧∀ ys,SqB b K H c ys→ys[i]? = some y,
   fun i H=>∃ xs ys,SqB b K H a xs∧SqB b K H c ys∧(xs.length ≤ i ∨ ys.length ≤ i)⟩
theorem jdv {X : Cx} {pins : List (Addr × Obj)} {σ : St} {H : Hp} {s : Shared} {b : Bool} {a j : Addr} {xs : List V} (I : Inv X pins σ H s) (h : SqB b X.K H a xs) (f : FpOk X pins H j) : a ≠ j:=by
 intro e
 subst e
 have key : ∀ {o},X.K.lookup a = some o→False:=fun {o} q=>by
  have q1:=I.mod.kin a o q
  rcases f.2.2.2.1 with z | z
  ·exact I.ok.noex a o q1 z
  ·exact absurd (Nat.lt_of_lt_of_le (Heap.lt_size q1) (Nat.le_trans I.ok.bsz z)) (Nat.lt_irrefl _)
 cases b with
 | true =>
  rcases (show SqL X.K H a xs from h) with (h | ⟨o,h⟩) | ⟨o,its,n,hk,_⟩
  ·rw [f.1] at h; cases h
  ·rw [f.1] at h; cases h
  ·exact key hk
 | false =>
  rcases (show SqT X.K H a xs from h) with (h | ⟨o,h⟩) | ⟨o,its,n,hk,_⟩
  ·rw [f.1] at h; cases h
  ·rw [f.1] at h; cases h
  ·exact key hk
structure ZpA (z TI TO i1 i2 : Addr) : Prop where
 TIz : TI ≠ z
 TOz : TO ≠ z
 i1z : i1 ≠ z
 i2z : i2 ≠ z
 TITO : TI ≠ TO
 TIi1 : TI ≠ i1
 TIi2 : TI ≠ i2
 TOi1 : TO ≠ i1
 TOi2 : TO ≠ i2
 i12 : i1 ≠ i2
theorem jpg {P : Program} {w : World} {K : PySem.W.Frag} {elts : List Expr} {x1 : Nat} {pos : Pos} (b : Bool) (a c z TI TO i1 i2 : Addr) (D0 : ZpA z TI TO i1 i2) :
  Turn P w K (.Tuple elts x1 pos) (Itz b K a c) [z,TI,TO,i1,i2] z (fun i h=>IsZip h z TI TO .none∧IsPair h TI (.ref i1) (.ref i2)∧(∃ u v,IsPair h TO u v)∧jbl b h i1 a i∧jbl b h i2 c i) where
 mem:=by simp
 obj:=fun i h st d hd=>by
  obtain ⟨hz,hTI,⟨u,v,hTO⟩,h1,h2⟩:=st
  have q : d = z ∨ d = TI ∨ d = TO ∨ d = i1 ∨ d = i2:=by simpa using hd
  rcases q with rfl | rfl | rfl | rfl | rfl
  ·exact ⟨_,hz,fun v z=>by
    have z' : Data.fields _ = Data.cell v:=z
    cases z'⟩
  ·exact ⟨_,hTI,fun v z=>by
    have z' : Data.seq _ _ = Data.cell v:=z
    cases z'⟩
  ·exact ⟨_,hTO,fun v z=>by
    have z' : Data.seq _ _ = Data.cell v:=z
    cases z'⟩
  ·exact h1.obj
  ·exact h2.obj
 keep:=fun i h h' st k=>by
  obtain ⟨hz,hTI,⟨u,v,hTO⟩,h1,h2⟩:=st
  exact ⟨k z (by simp) _ hz,k TI (by simp) _ hTI,⟨u,v,k TO (by simp) _ hTO⟩,h1.at' fun o e=>k i1 (by simp) o e,h2.at' fun o e=>k i2 (by simp) o e⟩
 item:=by
  intro X hP hw hK hc i pins s σ H E I hf st hg
  subst hP hw hK
  obtain ⟨hz,hTI,⟨u0,v0,hTO⟩,h1,h2⟩:=st
  obtain ⟨xs,ys,x,y,hq1,hq2,hx,hy⟩:=hg
  obtain ⟨its1,rv1,p1,hz1⟩:=I.sqB hq1
  obtain ⟨its2,rv2,p2,hz2⟩:=I.sqB hq2
  obtain ⟨u1,hu1,ru1⟩:=rv1.get hx
  obtain ⟨u2,hu2,ru2⟩:=rv2.get hy
  have D : ZipApart z TI TO i1 i2 a c:=⟨D0.TIz,D0.TOz,D0.i1z,D0.i2z,D0.TITO,D0.TIi1,D0.TIi2,D0.TOi1,D0.TOi2,D0.i12,
   jdv I hq1 (hf z (by simp)),jdv I hq1 (hf TO (by simp)),jdv I hq1 (hf i1 (by simp)),jdv I hq1 (hf i2 (by simp)),jdv I hq2 (hf z (by simp)),jdv I hq2 (hf TO (by simp)),jdv I hq2 (hf i1 (by simp)),jdv I hq2 (hf i2 (by simp))⟩
  have zlt : z < s.heap.objs.size:=Heap.lt_size hz
  have hT : s.TypeIs (.ref z) "zip":=⟨_,hz,rfl⟩
  unfold pyNext
  refine wpAny_bind (wpAny_attempt (wpAny_callSpecial?_slot (name:=Str.ofString "__next__") hT F.slot_zip_next (wpAny_call_entry F.slot_zip_next hT F.entry_zip_next
   (jj9 (b:=b) D hz hTI hTO h1 h2 p1 p2 (x:=u1) (y:=u2) (by simpa using hu1) (by simpa using hu2) fun h' a1 a2 a3 a4 a5 a7=>wpAny_pure ?_) (F.args_zip_next_1 _))))
  refine ⟨_,rfl,wpAny_letOwnedTupleGo_zip a1 fun g hz' hs'=>?_⟩
  replace hs' : Heap.SameBut z h' g:=hs'
  have kk : ∀ d ob,d ∉ [z,TI,TO,i1,i2]→s.heap.get? d = some ob→g.get? d = some ob:=fun d ob hd q=>by
   have hd' : d ≠ z∧d ≠ TI∧d ≠ TO∧d ≠ i1∧d ≠ i2:=by simpa using hd
   exact hs'.extBut _ _ hd'.1 (a7 d ob hd'.1 hd'.2.2.1 hd'.2.2.2.1 hd'.2.2.2.2 q)
  have hT2 : g.get? s.heap.objs.size = some { cls:=.type "tuple",data:=.seq #[u1,u2] }:=hs'.extBut _ _ (Nat.ne_of_gt zlt) a5
  refine ⟨.ref s.heap.objs.size,upd H s.heap.objs.size (.tup [x,y]),I.turnedNew (ch:=[z,TI,TO,i1,i2]) (t':=s.toks) (Nat.le_refl _) kk hf ?_,rfl,
   ⟨_,x,y,I.fresh,rfl,rfl,fun zs hq=>by rw [I.sqB_inj hq hq1]; exact hx,fun zs hq=>by rw [I.sqB_inj hq hq2]; exact hy⟩,
   ⟨hz',hs'.extBut _ _ D.TIz (a7 _ _ D.TIz D.TITO D.TIi1 D.TIi2 hTI),⟨_,_,hs'.extBut _ _ D.TOz a2⟩,a3.at' fun o e=>hs'.extBut _ _ D.i1z e,a4.at' fun o e=>hs'.extBut _ _ D.i2z e⟩,fun d hd=>?_⟩
  ·exact ⟨by show 2 ≤ sizeLine; decide,[u1,u2],.cons ru1 (.cons ru2 .nil),⟨_,hT2,rfl,_,rfl⟩⟩
  ·have dlt : d < s.heap.objs.size:=by
    have q : d = z ∨ d = TI ∨ d = TO ∨ d = i1 ∨ d = i2:=by simpa using hd
    rcases q with rfl | rfl | rfl | rfl | rfl
    ·exact zlt
    ·exact Heap.lt_size hTI
    ·exact Heap.lt_size hTO
    ·obtain ⟨o,e,_⟩:=h1.obj; exact Heap.lt_size e
    ·obtain ⟨o,e,_⟩:=h2.obj; exact Heap.lt_size e
   rw [ja8 (Nat.ne_of_lt dlt)]
   exact (hf d hd).1
 done:=by
  intro X hP hw hK hc i pins s σ H E I hf st hg
  subst hP hw hK
  obtain ⟨hz,hTI,⟨u0,v0,hTO⟩,h1,h2⟩:=st
  obtain ⟨xs,ys,hq1,hq2,hlen⟩:=hg
  obtain ⟨its1,rv1,p1,hz1⟩:=I.sqB hq1
  obtain ⟨its2,rv2,p2,hz2⟩:=I.sqB hq2
  have e1:=rv1.length
  have e2:=rv2.length
  have D : ZipApart z TI TO i1 i2 a c:=⟨D0.TIz,D0.TOz,D0.i1z,D0.i2z,D0.TITO,D0.TIi1,D0.TIi2,D0.TOi1,D0.TOi2,D0.i12,
   jdv I hq1 (hf z (by simp)),jdv I hq1 (hf TO (by simp)),jdv I hq1 (hf i1 (by simp)),jdv I hq1 (hf i2 (by simp)),jdv I hq2 (hf z (by simp)),jdv I hq2 (hf TO (by simp)),jdv I hq2 (hf i1 (by simp)),jdv I hq2 (hf i2 (by simp))⟩
  have hT : s.TypeIs (.ref z) "zip":=⟨_,hz,rfl⟩
  unfold pyNext
  refine wpAny_bind (wpAny_attempt (wpAny_callSpecial?_slot (name:=Str.ofString "__next__") hT F.slot_zip_next (wpAny_call_entry F.slot_zip_next hT F.entry_zip_next
   (jkg (b:=b) (I.ok.hd hc) D hz hTI hTO h1 h2 p1 p2 (by rcases hlen with h | h; exact .inl (by simp; omega); exact .inr (by simp; omega)) fun h' e hk he=>?_) (F.args_zip_next_1 _))))
  obtain ⟨o,ho,hcl⟩:=he
  refine wpAny_bind (wpAny_isInstance (T:="StopIteration") (b:=true) ⟨o,ho,hcl⟩ isSubtype_stop ?_)
  exact wpAny_pure ⟨rfl,I.turnedAll (ch:=[z,TI,TO,i1,i2]) (t':=s.toks) (fun d ob hd q=>by
   have hd' : d ≠ z∧d ≠ TI∧d ≠ TO∧d ≠ i1∧d ≠ i2:=by simpa using hd
   exact hk d ob hd'.1 hd'.2.2.1 hd'.2.2.2.1 hd'.2.2.2.2 q) hf⟩
 self:=fun _ _ _ _ _ st h=>wpAny_pyIter_zip st.1 h
theorem jkf {X : Cx} {b : Bool} {elts : List Expr} {x1 : Nat} {tpos : Pos} {pins : List (Addr × Obj)} {σ : St} {H1 : Hp} {s1 : Shared} {R : It→Hp→Prop} {a c : Addr} {xs ys : List V} (I1 : Inv X pins σ H1 s1) (hq1 : SqB b X.K H1 a xs) (hq2 : SqB b X.K H1 c ys) (q : R (Itz b X.K a c) H1) :
  wpAny (model X.prog X.w) X.A (call (.type "zip") [.ref a,.ref c]) (fun v s2=>wpAny (model X.prog X.w) X.A (pyIter v) (PIE X pins σ (.Tuple elts x1 tpos) R) X.xe s2) X.xe s1:=by
 obtain ⟨its1,rv1,p1,hz1⟩:=I1.sqB hq1
 obtain ⟨its2,rv2,p2,hz2⟩:=I1.sqB hq2
 refine js2 p1 p2 fun h' a1 a2 a3 a4 a5 hk=>?_
 refine wpAny_pyIter_zip a1 ?_
 have I2 : Inv X pins σ H1 { s1 with heap:=h' }:=I1.kept (t':=s1.toks) fun b o q=>hk b o q
 have ne : ∀ i j : Nat,i ≠ j→s1.heap.objs.size + i ≠ s1.heap.objs.size + j:=fun i j h e=>h (Nat.add_left_cancel e)
 refine ⟨_,[s1.heap.objs.size + 4,s1.heap.objs.size + 2,s1.heap.objs.size + 3,s1.heap.objs.size,s1.heap.objs.size + 1],_,_,H1,rfl,I2,jpg b a c _ _ _ _ _ ⟨ne 2 4 (by decide),ne 3 4 (by decide),ne 0 4 (by decide),ne 1 4 (by decide),ne 2 3 (by decide),ne 2 0 (by decide),ne 2 1 (by decide),ne 3 0 (by decide),ne 3 1 (by decide),ne 0 1 (by decide)⟩,
  ⟨a1,a2,⟨_,_,a3⟩,a4,a5⟩,fun d hd=>?_,q⟩
 have hd' : d = s1.heap.objs.size + 4 ∨ d = s1.heap.objs.size + 2 ∨ d = s1.heap.objs.size + 3 ∨ d = s1.heap.objs.size ∨ d = s1.heap.objs.size + 1:=by simpa using hd
 have hle : s1.heap.objs.size ≤ d:=by
  rcases hd' with e | e | e | e | e <;> rw [e]
  ·exact Nat.le_add_right _ _
  ·exact Nat.le_add_right _ _
  ·exact Nat.le_add_right _ _
  ·exact Nat.le_refl _
  ·exact Nat.le_add_right _ _
 exact I1.fpOk hle (I1.hok.fresh hle)
noncomputable def iZipE (K : PySem.W.Frag) (ta : TA) : TI:=fun σ H R=>ta σ H fun vs H1=>∃ (b : Bool) (a c : Addr),vs = [.ref a,.ref c]∧(∃ xs,SqB b K H1 a xs)∧(∃ ys,SqB b K H1 c ys)∧R (Itz b K a c) H1
theorem jre {X : Cx} {elts : List Expr} {x1 : Nat} {tpos : Pos} {a c : Expr} {ta : TA} {p pos : Pos} (hg : Gl X "zip") (hm : X.mg "zip" = none) (ha : PA X [a,c] ta) (hs : starEach [a,c] X.env = [(false,eval a X.env),(false,eval c X.env)]:=by rfl) (hs2 : starEach [c] X.env = [(false,eval c X.env)]:=by rfl) :
  PI X (.Tuple elts x1 tpos) (.Call (.Name "zip" p) [a,c] [] pos) (iZipE X.K ta):=by
 intro pins s σ H R I h
 refine Call_ (jfc I hg hm boot_zip (PyProof.Rows.callWith_type1 (thn (ha pos pins s σ H _ I h) fun us s1 ⟨vs,H1,I1,r1,q1⟩=>?_) (by rw [hs,hs2]) (by rw [hs2]; rfl)))
 obtain ⟨b,a,c,e,⟨xs,hq1⟩,⟨ys,hq2⟩,q⟩:=q1
 subst e
 cases r1 with
 | cons r rr =>
  cases rr with
  | cons r' rr =>
   cases rr
   cases r
   cases r'
   exact jkf I1 hq1 hq2 q
end L2
namespace L2
open PySem PySem.Spec PyProof.Rows
theorem jjz : typeLookup (.type "list") "keys" = pure none:=by rw [typeLookup_type,builtinLookup_eq_fast]; kernel_rfl
theorem jgr : typeLookup (.type "list") "__getattr__" = pure none:=by rw [typeLookup_type,builtinLookup_eq_fast]; kernel_rfl
theorem ji4 : isSubtype (.type "AttributeError") (.type "AttributeError") = pure true:=by rw [isSubtype_type]; kernel_rfl
section
variable {prog : Program} {w : World} {A : Around} {E : Value→Shared→Prop} {h : Heap} {g : Array GenState} {d : Drawn} {t : Nat} {os : OsState} {a : Addr} {o : Obj}
theorem jmg {α : Type} {Q : α→Shared→Prop} {u : Value} {x msg : Str} (hh : A.handled = none) (hm : msg.length ≤ sizeLine)
  (hE : ∀ h' e tk,(∀ b o,h.get? b = some o→h'.get? b = some o)→(∃ o,h'.get? e = some o∧o.cls = .type "AttributeError")→E (.ref e) ⟨h',g,d,tk,os⟩) :
  wpAny (model prog w) A (raiseAttrError u x msg : Sem α) Q E ⟨h,g,d,t,os⟩:=by
 unfold raiseAttrError
 refine wpAny_bind (wpAny_mkStr ?_ hm)
 simp only [newExc,newTuple]
 refine wpAny_bind (wpAny_bind (wpAny_newObj_type ?_ (by size_fits)))
 refine wpAny_bind (m:=firstArgMember _ _) (wpAny_of_eq (a:=Value.none) (by first | rfl | (simp only [firstArgMember]; rfl)) ?_)
 refine wpAny_newObj_type ?_ (by size_fits)
 refine wpAny_bind (wpAny_mkText ?_)
 dsimp only
 refine wpAny_bind ?_
 unfold noteAttr
 generalize hh1 : h.push { cls:=.type "tuple",data:=.seq #[.str msg t] } = h1
 have k1 : ∀ b o,h.get? b = some o→h1.get? b = some o:=fun b o q=>by rw [← hh1]; exact Heap.get?_push_of_some _ q
 have hg : (h1.push { cls:=.type "AttributeError",data:=.fields #[.ref h.objs.size,.none,.none,.none,.bool false,.none,unsetMember,unsetMember] }).get? h1.objs.size = some _:=Heap.get?_push_size _ rfl
 have k2 : ∀ b o,h.get? b = some o→(h1.push { cls:=.type "AttributeError",data:=.fields #[.ref h.objs.size,.none,.none,.none,.bool false,.none,unsetMember,unsetMember] }).get? b = some o:=fun b o q=>Heap.get?_push_of_some _ (k1 b o q)
 have nb : ∀ b o,h.get? b = some o→b ≠ h1.objs.size:=fun b o q=>Nat.ne_of_lt (Heap.lt_size (k1 b o q))
 show wpAny _ _ (lacksNameAndObj (.ref h1.objs.size) >>= _) _ _ ⟨h1.push { cls:=.type "AttributeError",data:=.fields #[.ref h.objs.size,.none,.none,.none,.bool false,.none,unsetMember,unsetMember] },g,d,t + 1 + 1,os⟩
 generalize hh2 : h1.push { cls:=.type "AttributeError",data:=.fields #[.ref h.objs.size,.none,.none,.none,.bool false,.none,unsetMember,unsetMember] } = h2 at hg k2
 generalize h1.objs.size = e at hg nb
 clear hh2 k1 hh1
 have hT : (⟨h2,g,d,t + 1 + 1,os⟩ : Shared).TypeIs (.ref e) "AttributeError":=⟨_,hg,rfl⟩
 refine wpAny_bind ?_
 unfold lacksNameAndObj
 refine wpAny_bind (wpAny_isInstance hT ji4 ?_)
 simp only [Bool.not_true,Bool.false_eq_true,if_false]
 refine wpAny_bind (wpAny_load hg ?_)
 show wpAny _ _ (pure true) _ _ _
 refine wpAny_pure ?_
 simp only [if_true]
 refine wpAny_bind (wpAny_rule (wpAny_bind (wpAny_typeOf hT ?_)))
 show wpAny _ _ (layMembers e 6 #[_,u]) _ _ _
 unfold layMembers
 refine wpAny_bind (wpAny_load hg ?_)
 show wpAny _ _ (update e _) _ _ _
 refine wpAny_update hg ?_
 refine wpAny_raiseNew_none hh (hE _ _ _ (fun b o q=>?_) ⟨_,Heap.get?_update_self _ hg rfl,rfl⟩)
 exact (Heap.get?_update_other _ _ (nb b o q).symm).trans (k2 b o q)
theorem jjv {tk : Tok} {Q : PySem.Fin→Shared→Prop} {its : Array Value} {n : Nat} (hx : h.get? a = some { cls:=.type "list",dict:=none,data:=.seq its n,slots:=#[] }) (hh : A.handled = none)
  (hE : ∀ h' e tk,(∀ b o,h.get? b = some o→h'.get? b = some o)→(∃ o,h'.get? e = some o∧o.cls = .type "AttributeError")→E (.ref e) ⟨h',g,d,tk,os⟩) :
  wpAny (model prog w) A (Builtin.«object.__getattribute__» ⟨[.ref a,.str "keys" tk],[]⟩) Q E ⟨h,g,d,t,os⟩:=by
 have hT : (⟨h,g,d,t,os⟩ : Shared).TypeIs (.ref a) "list":=⟨_,hx,rfl⟩
 have f4:=jjz
 repeat (any_goals (first | assumption | wp_step))
 refine jmg hh (by decide +kernel) hE
theorem joe {tk : Tok} {Q : Value→Shared→Prop} {its : Array Value} {n : Nat} (hx : h.get? a = some { cls:=.type "list",dict:=none,data:=.seq its n,slots:=#[] }) (hh : A.handled = none)
  (hE : ∀ h' e tk,(∀ b o,h.get? b = some o→h'.get? b = some o)→(∃ o,h'.get? e = some o∧o.cls = .type "AttributeError")→E (.ref e) ⟨h',g,d,tk,os⟩) :
  wpAny (model prog w) A (getAttrBy (.ref a) (.str "keys" tk) false) Q E ⟨h,g,d,t,os⟩:=by
 have hT : (⟨h,g,d,t,os⟩ : Shared).TypeIs (.ref a) "list":=⟨_,hx,rfl⟩
 have f2:=F.slot_list_getattribute.lookup
 have f3:=F.slot_list_getattribute.bind (.ref a)
 repeat (any_goals (first | assumption | wp_step))
 refine codeAny_call_builtin F.slot_list_getattribute.plain F.entry_list_ga (F.slot_list_getattribute.check _ _ _ _ _ _ _ _ (show (⟨h,g,d,t,os⟩ : Shared).TypeIs (.ref a) "list" from ⟨_,hx,rfl⟩) (F.args_list_getattribute_2 _ _) (jjv hx ?_ ?_))
 ·exact hh
 ·intro h' e tk k q
  obtain ⟨oe,he,hc⟩:=q
  have hT2 : (⟨h',g,d,tk,os⟩ : Shared).TypeIs (.ref e) "AttributeError":=⟨_,he,hc⟩
  have f5:=ji4
  have f6:=jgr
  show wpAny _ A (getattributeRaised (Value.ref a) _ (Value.type "list") (.ref e) none false false) _ _ _
  have done:=hE h' e tk k ⟨oe,he,hc⟩
  unfold getattributeRaised
  repeat (any_goals (first | assumption | wp_step))
theorem nokeys {Q : Option Value→Shared→Prop} {its : Array Value} {n : Nat} (hx : h.get? a = some { cls:=.type "list",dict:=none,data:=.seq its n,slots:=#[] }) (hh : A.handled = none)
  (hq : ∀ h' tk,(∀ b o,h.get? b = some o→h'.get? b = some o)→Q none ⟨h',g,d,tk,os⟩) : wpAny (model prog w) A (getAttr? (.ref a) "keys") Q E ⟨h,g,d,t,os⟩:=by
 unfold getAttr? getAttrBy?
 refine wpAny_bind (wpAny_mkText (wpAny_bind (wpAny_attempt (joe hx hh fun h' e tk k q=>?_))))
 obtain ⟨oe,he,hc⟩:=q
 refine wpAny_bind (wpAny_isInstance (T:="AttributeError") (b:=true) ⟨_,he,hc⟩ ji4 ?_)
 exact wpAny_pure (hq h' tk k)
end
end L2
namespace L2
open PySem PySem.Spec PyProof.Rows
theorem jbx : entryFor table "dict.update.loop" = some Builtin.«dict.update.loop»:=entryFor_of_fast (by kernel_rfl)
theorem jau : plainId "dict.update.loop" = true:=by decide +kernel
theorem jmf {K : Type} [DecidableEq K] (kvs : List (K × Value)) (k : K) (v : Value) : (stored kvs k v).length ≤ kvs.length + 1:=by
 unfold stored
 split
 ·rw [List.length_map]; omega
 ·rw [List.length_append]; exact Nat.le_refl _
section
variable {prog : Program} {w : World} {A : Around} {E : Value→Shared→Prop} {K : Type} [DecidableEq K] {knd : KeyKind prog w K} {R : Result→Shared→Prop}
theorem joy {d it l : Addr} {its : Array Value} {more : List (K × Value)} (hh : A.handled = none) (hlen : more.length = its.size) (hsz : its.size ≤ 1000) (hdl : l ≠ d) (hdi : it ≠ d) (hil : l ≠ it) :
  ∀ (k i : Nat) (tk0 : Tok) (s : Shared) (kvs : List (K × Value)),its.size - i = k→i ≤ its.size→kvs.length ≤ i→s.heap.IsListIter it l i→s.heap.IsList l its→s.heap.DictOf knd d kvs →
   (∀ (j : Nat) (q : K × Value),more[j]? = some q→∃ t kv,its[j]? = some (.ref t)∧s.heap.IsTuple t #[kv,q.2]∧knd.is q.1 kv = true) →
   (∀ h' tk,h'.DictOf knd d (merged kvs (more.drop i))→(∀ b o,b ≠ d→b ≠ it→s.heap.get? b = some o→h'.get? b = some o)→R (.ok (.ret .none)) { s with heap:=h',toks:=tk }) →
   codeAny (model prog w) A (.builtin "dict.update.loop" ⟨[.ref d,.ref it,.int i tk0,.none],[]⟩) R s:=by
 intro k
 induction k with
 | zero =>
  intro i tk0 s kvs hk hi hkl hit hl hd hp hR
  have e : i = its.size:=by omega
  subst e
  refine codeAny_builtin jbx ?_
  rw [Around.under_plainId jau _]
  show wpAny _ A.in1 (pyNext (.ref it) >>= _) _ _ s
  refine wpAny_bind (wpAny_pyNext_list_end hh hit hl (by simp) fun h' eb=>?_)
  show wpAny _ A.in1 (Builtin.Dict.addKeywords d [] >>= _) _ _ _
  refine wpAny_bind (wpAny_pure (wpAny_pure ?_))
  refine hR h' s.toks ?_ fun b o _ hb q=>eb b o hb q
  rw [List.drop_eq_nil_of_le (by omega)]
  exact hd.extBut eb hdi.symm
 | succ k ih =>
  intro i tk0 s kvs hk hi hkl hit hl hd hp hR
  have hlt : i < its.size:=by omega
  have hlm : i < more.length:=by omega
  obtain ⟨t,kv,hu,ht,hkey⟩:=hp i more[i] (by simp [hlm])
  refine codeAny_builtin jbx ?_
  rw [Around.under_plainId jau _]
  show wpAny _ A.in1 (pyNext (.ref it) >>= _) _ _ s
  refine wpAny_bind (wpAny_pyNext_list_item hit hl hu fun h1 hit1 sb1=>?_)
  have nti : t ≠ it:=fun z=>by
   subst z
   obtain ⟨o,e1,c1,_⟩:=ht
   obtain ⟨o',e2,c2,_⟩:=hit
   rw [e1] at e2; cases e2; rw [c1] at c2; exact absurd c2 (by decide)
  have ntd : t ≠ d:=fun z=>by
   subst z
   obtain ⟨o,e1,c1,_⟩:=ht
   obtain ⟨o',_,_,e2,c2,_⟩:=hd
   rw [e1] at e2; cases e2; rw [c2.1] at c1; exact absurd c1 (by decide)
  have ht1 : h1.IsTuple t #[kv,more[i].2]:=ht.extBut sb1.extBut nti
  have hd1 : h1.DictOf knd d kvs:=hd.extBut sb1.extBut hdi.symm
  show wpAny _ A.in1 (holding [.ref t] _ >>= _) _ _ _
  refine wpAny_bind (wpAny_holding ?_)
  refine wpAny_bind (m:=(Builtin.Dict.pairItems (.ref t)).tryCatch _) ?_
  refine wpAny_tryCatch ?_
  unfold Builtin.Dict.pairItems
  refine wpAny_bind (wpAny_typeOf ht1.typeIs ?_)
  obtain ⟨ot,e1,c1,n1,d1⟩:=id ht1
  rw [if_pos (by decide)]
  refine wpAny_bind (wpAny_seqItems e1 d1 ?_)
  refine wpAny_pure ?_
  show wpAny _ A.in1 (holding [kv,more[i].2] (dictSet d kv more[i].2)) _ _ _
  refine wpAny_holding (wpAny_dictSet_pairs hkey hd1 (fun h2 hd2 sb2=>?_) (by have:=(by decide : 1000 ≤ sizeLine); omega))
  replace sb2 : Heap.SameBut d h1 h2:=sb2
  have kk : ∀ b o,b ≠ d→b ≠ it→s.heap.get? b = some o→h2.get? b = some o:=fun b o b1 b2 q=>sb2.extBut b o b1 (sb1.extBut b o b2 q)
  refine wpAny_pure ⟨plainId_quiet jau _,?_⟩
  have hik : ((i : Int) + 1) = ((i + 1 : Nat) : Int):=by omega
  show codeAny _ _ (.builtin "dict.update.loop" ⟨[.ref d,.ref it,rawInt ((i : Int) + 1),.none],[]⟩) _ _
  rw [hik]
  refine ih (i + 1) 0 _ (stored kvs more[i].1 more[i].2) (by omega) (by omega) ?_ (hit1.extBut sb2.extBut hdi) ((hl.extBut sb1.extBut hil).extBut sb2.extBut hdl) hd2 ?_ ?_
  ·have:=jmf kvs more[i].1 more[i].2
   omega
  ·intro j q hq
   obtain ⟨t',kv',a1,a2,a3⟩:=hp j q hq
   have n1 : t' ≠ it:=fun z=>by
    subst z
    obtain ⟨o,e1,c1,_⟩:=a2
    obtain ⟨o',e2,c2,_⟩:=hit
    rw [e1] at e2; cases e2; rw [c1] at c2; exact absurd c2 (by decide)
   have n2 : t' ≠ d:=fun z=>by
    subst z
    obtain ⟨o,e1,c1,_⟩:=a2
    obtain ⟨o',_,_,e2,c2,_⟩:=hd
    rw [e1] at e2; cases e2; rw [c2.1] at c1; exact absurd c1 (by decide)
   exact ⟨t',kv',a1,(a2.extBut sb1.extBut n1).extBut sb2.extBut n2,a3⟩
  ·intro h' tk hd' k'
   refine hR h' tk ?_ fun b o b1 b2 q=>k' b o b1 b2 (kk b o b1 b2 q)
   rw [List.drop_eq_getElem_cons hlm]
   exact hd'
theorem jhc {l : Addr} {its : Array Value} {c : Nat} {more : List (K × Value)} {s : Shared} {Q : Value→Shared→Prop} (hh : A.handled = none) (hl : s.heap.get? l = some { cls:=.type "list",dict:=none,data:=.seq its c,slots:=#[] }) (hlen : more.length = its.size) (hsz : its.size ≤ 1000)
  (hp : ∀ (j : Nat) (q : K × Value),more[j]? = some q→∃ t kv,its[j]? = some (.ref t)∧s.heap.IsTuple t #[kv,q.2]∧knd.is q.1 kv = true)
  (h : ∀ h' tk,h'.DictOf knd s.heap.objs.size (merged [] more)→(∀ b o,s.heap.get? b = some o→h'.get? b = some o)→Q (.ref s.heap.objs.size) { s with heap:=h',toks:=tk }) :
  wpAny (model prog w) A (call (.type "dict") [.ref l]) Q E s:=by
 refine callType_codes (Q₁:=fun obj s₁=>obj = .ref s.heap.objs.size∧s₁ = { s with heap:=s.heap.push { cls:=.type "dict",data:=.dict #[] } }) F.kt_called_dict (F.kt_typeCall_dict_1 _) F.entry_dict_init (kt_code_dict_new _ ⟨rfl,rfl⟩) ?_
 rintro obj s₁ ⟨rfl,rfl⟩
 have hnew : (s.heap.push { cls:=.type "dict",data:=.dict #[] }).DictOf knd s.heap.objs.size []:=Heap.DictOf.new s.heap
 have hl1 : (s.heap.push { cls:=.type "dict",data:=.dict #[] }).get? l = some { cls:=.type "list",dict:=none,data:=.seq its c,slots:=#[] }:=Heap.get?_push_of_some _ hl
 have k1 : ∀ b o,s.heap.get? b = some o→(s.heap.push { cls:=.type "dict",data:=.dict #[] }).get? b = some o:=fun b o q=>Heap.get?_push_of_some _ q
 have llt : l < s.heap.objs.size:=Heap.lt_size hl
 generalize s.heap.push { cls:=.type "dict",data:=.dict #[] } = h1 at hnew hl1 k1
 refine ⟨hnew.typeIs,F.args_dict_init_2 _ _,?_⟩
 unfold Builtin.«dict.__init__»
 refine wpAny_bind ?_
 unfold Builtin.Dict.selfAndRest
 refine wpAny_bind (wpAny_notOrdered_dict hnew.typeIs ?_)
 show wpAny _ _ (pure (s.heap.objs.size,[Value.ref l])) _ _ _
 refine wpAny_pure ?_
 show wpAny _ _ (Builtin.Dict.updateFrom "dict.__init__" s.heap.objs.size (.ref l) [] .none) _ _ _
 unfold Builtin.Dict.updateFrom
 refine wpAny_bind (wpAny_typeOf (T:="list") ⟨_,hl1,rfl⟩ ?_)
 rw [if_pos (by decide)]
 refine wpAny_bind (nokeys hl1 hh fun h2 tk2 k2=>?_)
 have hl2:=k2 _ _ hl1
 have hd2 : h2.DictOf knd s.heap.objs.size []:=let ⟨o,es,ep,ho,r⟩:=hnew; ⟨o,es,ep,k2 _ _ ho,r⟩
 have dlt : s.heap.objs.size < h2.objs.size:=by obtain ⟨_,_,_,ho,_⟩:=hd2; exact Heap.lt_size ho
 simp only [Option.isNone_none,if_true]
 refine wpAny_bind (wpAny_rule ?_)
 have hL : Heap.IsList h2 l its:=⟨_,hl2,rfl,_,rfl⟩
 refine wpAny_bind (wpAny_pyIter_list (s:={ s with heap:=h2,toks:=tk2 }) hL ?_)
 refine wpAny_pure ⟨plainId_quiet jau _,?_⟩
 have hit : (h2.push { cls:=.type "list_iterator",data:=.fields #[.ref l,.int 0 0] }).IsListIter h2.objs.size l 0:=⟨_,Heap.get?_push_size _ rfl,rfl,rfl⟩
 refine joy (A:=A.in1) (knd:=knd) (more:=more) hh hlen hsz (Nat.ne_of_lt llt) (Nat.ne_of_gt dlt) (Nat.ne_of_lt (Nat.lt_trans llt dlt)) its.size 0 0 { s with heap:=h2.push { cls:=.type "list_iterator",data:=.fields #[.ref l,.int 0 0] },toks:=tk2 } [] rfl (Nat.zero_le _) (Nat.le_refl _) hit (hL.push _) (hd2.push _) ?_ ?_
 ·intro j q hq
  obtain ⟨t,kv,a1,a2,a3⟩:=hp j q hq
  obtain ⟨o,e,r⟩:=a2
  exact ⟨t,kv,a1,⟨o,Heap.get?_push_of_some _ (k2 _ _ (k1 _ _ e)),r⟩,a3⟩
 ·intro h' tk hd' k'
  rw [List.drop_zero] at hd'
  refine ⟨rfl,h h' tk hd' fun b o q=>k' b o (Nat.ne_of_lt (Heap.lt_size q)) (Nat.ne_of_lt (Heap.lt_size (k2 _ _ (k1 _ _ q)))) (Heap.get?_push_of_some _ (k2 _ _ (k1 _ _ q)))⟩
end
noncomputable def PairAt (H : Hp) (v : V) (p : Key × V) : Prop:=∃ t,v = .ref t∧H t = some (.tup [kV p.1,p.2])
noncomputable def rDictL (K : PySem.W.Frag) : List V→Hp→VK→Prop:=fun vs H Q=>∃ l xs kvs,vs = [.ref l]∧H l = some (.lst xs)∧Paired (PairAt H) xs kvs∧xs.length ≤ 1000∧(kvs.map (·.1)).Nodup∧∀ d,H d = none→Q (.ref d) (upd H d (.dK kvs))
theorem jhj {X : Cx} {pins : List (Addr × Obj)} {σ : St} {H : Hp} {s : Shared} (I : Inv X pins σ H s) : ∀ {xs : List V} {kvs : List (Key × V)} {its : List Value},Paired (PairAt H) xs kvs→Vals xs its →
  ∃ more : List (Key × Value),KV kvs more∧∀ (j : Nat) (q : Key × Value),more[j]? = some q→∃ t kv,its[j]? = some (.ref t)∧s.heap.IsTuple t #[kv,q.2]∧(jbd X.prog X.w).is q.1 kv = true
 | _,_,_,.nil,.nil=>⟨[],.nil,fun j q h=>by simp at h⟩
 | _,_,_,.cons hp tp,.cons rv tr=>by
  obtain ⟨more,hk,hm⟩:=jhj I tp tr
  obtain ⟨t,rfl,ht⟩:=hp
  cases rv
  obtain ⟨_,its',rt,hi⟩:=I.hok t _ ht
  obtain ⟨u1,u2,rfl,r1,r2⟩:=rt.two
  refine ⟨(_,u2) :: more,.cons ⟨rfl,r2⟩ hk,fun j q h=>?_⟩
  cases j with
  | zero =>
   simp at h
   subst h
   exact ⟨t,u1,rfl,hi,jmx r1⟩
  | succ j =>
   obtain ⟨t',kv,a1,a2,a3⟩:=hm j q (by simpa using h)
   exact ⟨t',kv,by simpa using a1,a2,a3⟩
theorem jn3 {X : Cx} (hc : X.calm = true) : jbu X (.type "dict") (rDictL X.K):=by
 intro pins s σ H vs us Q I rv h
 obtain ⟨l,xs,kvs,rfl,hl,hp,hz,hn,q⟩:=h
 obtain ⟨u,rfl,ru⟩:=rv.one
 cases ru
 obtain ⟨z,its,n,r,hlen,e⟩:=I.lstM hl
 obtain ⟨more,hkv,hm⟩:=jhj I hp r
 have hlm : kvs.length = more.length:=Paired.length hkv
 have hlx : xs.length = kvs.length:=Paired.length hp
 refine jhc (knd:=jbd X.prog X.w) (more:=more) (I.ok.hd hc) e (by rw [List.size_toArray]; omega) (by rw [List.size_toArray]; omega) (fun j q hj=>?_) fun h' tk dd k=>?_
 ·obtain ⟨t,kv,a1,a2,a3⟩:=hm j q hj
  exact ⟨t,kv,by simpa using a1,a2,a3⟩
 ·refine ⟨.ref s.heap.objs.size,upd H s.heap.objs.size (.dK kvs),I.laid k (Nat.le_refl _) ?_,rfl,q _ I.fresh⟩
  rw [merged_nil_of_nodup more (by rw [← hkv.keys]; exact hn)] at dd
  exact jr0 (by have:=(by decide : 1000 ≤ sizeLine); omega) (by have:=I.big; exact beq_false_of_ne (Nat.ne_of_gt this)) hkv dd
end L2
namespace L2
open PySem PySem.Spec PyProof.Rows
noncomputable def jqr (f : List Bool→Bool) : List V→Hp→VK→Prop:=fun vs H Q=>∃ l bs,vs = [.ref l]∧H l = some (.lst (bs.map V.bl))∧Q (.bl (f bs)) H
theorem jpc {bs : List Bool} {tr : Nat→Bool} (h : ∀ i b,bs[i]? = some b→tr i = b) : (List.range bs.length).all tr = bs.all id:=by
 rw [Bool.eq_iff_iff,List.all_eq_true,List.all_eq_true]
 constructor
 ·intro q b hb
  obtain ⟨i,hi,e⟩:=List.mem_iff_getElem.mp hb
  have:=q i (List.mem_range.mpr hi)
  rw [h i b (by rw [List.getElem?_eq_getElem hi,e])] at this
  exact this
 ·intro q i hi
  have hi':=List.mem_range.mp hi
  rw [h i bs[i] (List.getElem?_eq_getElem hi')]
  exact q _ (List.getElem_mem hi')
theorem jn9 : ∀ {bs : List Bool} {us : List Value},Vals (bs.map V.bl) us→us = bs.map Value.bool
 | [],_,.nil=>rfl
 | b :: r,_,.cons q t=>by
  cases (show _ = Value.bool b from q)
  rw [jn9 t]
  rfl
theorem jqb {X : Cx} (hc : X.calm = true) : jbu X (.builtin "all") (jqr fun bs=>bs.all id):=by
 intro pins s σ H vs us Q I rv h
 obtain ⟨l,bs,rfl,hl,q⟩:=h
 obtain ⟨u,rfl,ru⟩:=rv.one
 cases ru
 obtain ⟨z,its,n,r,hlen,e⟩:=I.lstM hl
 have e2:=jn9 r
 subst e2
 have llt : l < s.heap.objs.size:=Heap.lt_size e
 have hL : s.heap.IsList l (bs.map Value.bool).toArray:=⟨_,e,rfl,_,rfl⟩
 refine call_all_walk (wpAny_pyIter_list hL ⟨s.heap.objs.size,[s.heap.objs.size,l],[s.heap.objs.size],_,_,_,fun i=>bs[i]?.getD true,rfl,Walks.list (A:=X.A.in1) (show X.A.in1.handled = none from I.ok.hd hc) s.heap.objs.size l (Nat.ne_of_lt llt) (bs.map Value.bool).toArray,
  (show Heap.IsListIter _ _ _ _∧Heap.IsList _ _ _ from ⟨⟨_,Heap.get?_push_size _ rfl,rfl,rfl⟩,hL.push _⟩),fun i v s' Q' E' hv hq=>?_,fun h' tk k=>?_⟩)
 ·have hv' : (bs.map Value.bool)[i]? = some v:=by simpa using hv
  rw [List.getElem?_map] at hv'
  cases eb : bs[i]? with
  | none=>rw [eb] at hv'; cases hv'
  | some b =>
   rw [eb] at hv'
   cases hv'
   have hq' : Q' b s':=by dsimp only at hq; rw [eb] at hq; exact hq
   exact wpAny_pure hq'
 ·have ez : ((bs.map Value.bool).toArray).size = bs.length:=by simp
  rw [ez,jpc (bs:=bs) (tr:=fun i=>bs[i]?.getD true) (fun i b hb=>by rw [hb]; rfl)]
  refine ⟨.bl _,H,I.kept fun b o qq=>k b o ?_ (Heap.get?_push_of_some _ qq),rfl,q⟩
  intro hb
  have : b = s.heap.objs.size:=by simpa using hb
  subst this
  exact absurd (Heap.lt_size qq) (Nat.lt_irrefl _)
inductive Knd (H : Hp) : V→String→Prop where
 | non : Knd H .non "NoneType"
 | bl {x : Bool} : Knd H (.bl x) "bool"
 | int {i : Int} : Knd H (.int i) "int"
 | str {x : Str} : Knd H (.str x) "str"
 | lst {a : Addr} {xs : List V} (e : H a = some (.lst xs)) : Knd H (.ref a) "list"
 | tup {a : Addr} {xs : List V} (e : H a = some (.tup xs)) : Knd H (.ref a) "tuple"
 | dK {a : Addr} {kvs : List (Key × V)} (e : H a = some (.dK kvs)) : Knd H (.ref a) "dict"
theorem Knd.ty {K : PySem.W.Frag} {H : Hp} {v : V} {n : String} (h : Knd H v n) : TyOf K H v (.type n):=by
 cases h with
 | non=>exact .non
 | bl=>exact .bl _
 | int=>exact .int _
 | str=>exact .str _
 | lst e=>exact .lst e
 | tup e=>exact .tup e
 | dK e=>exact .dK e
noncomputable def isiK (a b : String) : Bool:=a == b || (a == "bool" && b == "int")
noncomputable def jir : List String:=["NoneType","bool","int","str","list","tuple","dict"]
theorem jrp {K : PySem.W.Frag} : ∀ a ∈ jir,∀ b ∈ jir,PySem.W.kitOne K (.type a) (.type b) = some (isiK a b):=by
 intro a ha b hb
 have ha' : a = "NoneType" ∨ a = "bool" ∨ a = "int" ∨ a = "str" ∨ a = "list" ∨ a = "tuple" ∨ a = "dict":=by simpa [jir] using ha
 have hb' : b = "NoneType" ∨ b = "bool" ∨ b = "int" ∨ b = "str" ∨ b = "list" ∨ b = "tuple" ∨ b = "dict":=by simpa [jir] using hb
 rcases ha' with rfl | rfl | rfl | rfl | rfl | rfl | rfl <;> rcases hb' with rfl | rfl | rfl | rfl | rfl | rfl | rfl <;> rfl
noncomputable def rIsi : List V→Hp→VK→Prop:=fun vs H Q=>∃ x n T,vs = [x,.ty T]∧Knd H x n∧T ∈ jir∧Q (.bl (isiK n T)) H
theorem Knd.mem {H : Hp} {v : V} {n : String} (h : Knd H v n) : n ∈ jir:=by cases h <;> simp [jir]
theorem jqa {X : Cx} : jbu X (.builtin "isinstance") rIsi:=by
 intro pins s σ H vs us Q I rv h
 obtain ⟨x,n,T,rfl,hk,hT,q⟩:=h
 obtain ⟨u1,u2,rfl,r1,r2⟩:=rv.two
 cases (show u2 = Value.type T from r2)
 exact jor I r1 hk.ty (jrp n hk.mem T hT) fun tk=>⟨.bl _,H,I.tok tk,rfl,q⟩
end L2
namespace L2
open PySem PySem.Spec PyProof.Rows
section
variable {X : Cx} {e a b c o i : Expr} {es : List Expr} {t t' ta tb tc td te : TE} {pos p p2 : Pos}
theorem PE.imp (h : PE X e t) (hi : ∀ σ H Q,t' σ H Q→t σ H Q) : PE X e t':=fun pins s σ H Q I q=>h pins s σ H Q I (hi σ H Q q)
theorem PG.imp {t t' : TG} (h : PG X e t) (hi : ∀ v σ H Q,t' v σ H Q→t v σ H Q) : PG X e t':=fun pins s σ H v u Q I r q=>h pins s σ H v u Q I r (hi v σ H Q q)
theorem PGs.imp {t t' : TGs} (h : PGs X es t) (hi : ∀ v σ H Q,t' v σ H Q→t v σ H Q) : PGs X es t':=fun pins s σ H v u Q I r q=>h pins s σ H v u Q I r (hi v σ H Q q)
theorem OpR.imp {f : Value→Value→Sem Value} {r r' : R2} (h : OpR X f r) (hi : ∀ x y H Q,r' x y H Q→r x y H Q) : OpR X f r':=fun pins s σ H x y v u Q I rx ry q=>h pins s σ H x y v u Q I rx ry (hi x y H Q q)
theorem jbu.imp {f : Value} {r r' : List V→Hp→VK→Prop} (h : jbu X f r) (hi : ∀ vs H Q,r' vs H Q→r vs H Q) : jbu X f r':=fun pins s σ H xs us Q I rv q=>h pins s σ H xs us Q I rv (hi xs H Q q)
theorem IxR.imp {r r' : R2} (h : IxR X r) (hi : ∀ x y H Q,r' x y H Q→r x y H Q) : IxR X r':=fun value slice pins s σ H x y v u Q I rx ry q hs=>h value slice pins s σ H x y v u Q I rx ry (hi x y H Q q) hs
theorem MtR.imp {id : String} {r r' : V→List V→Hp→VK→Prop} (h : MtR X id r) (hi : ∀ x vs H Q,r' x vs H Q→r x vs H Q) : MtR X id r':=fun pins s σ H x xs v us Q I rx rv q=>h pins s σ H x xs v us Q I rx rv (hi x xs H Q q)
theorem PSet.imp {t t' : TSet} (h : PSet X t) (hi : ∀ o i v H Q,t' o i v H Q→t o i v H Q) : PSet X t':=fun pins s σ H o i v ov iv u Q I r1 r2 r3 q=>h pins s σ H o i v ov iv u Q I r1 r2 r3 (hi o i v H Q q)
theorem SlR.imp {r r' : V→Option Int→Option Int→Hp→VK→Prop} (h : SlR X r) (hi : ∀ x l u H Q,r' x l u H Q→r x l u H Q) : SlR X r':=fun pins s σ H x v vl vu lo hi' sl Q I rx hs pl pu q=>h pins s σ H x v vl vu lo hi' sl Q I rx hs pl pu (hi x lo hi' H Q q)
noncomputable def fVar (i : Nat) : TE:=fun σ H Q=>match σ[i]? with
 | some (some v)=>Q v H
 | _=>False
theorem qv (i : Nat) {x : Str} {pos : Pos} (hN : X.N[i]? = some x:=by rfl) (hv : Vis X.env.scope x:=by first | exact Or.inl rfl | exact Or.inr (Or.inl rfl) | exact Or.inr (Or.inr rfl)) (hd : (x == ("__debug__" : Str)) = false:=by decide)
  (hcd : (x == ("__classdict__" : Str)) = false:=by decide) : PE X (.Name x pos) (fVar i):=(pe_var hN hv hd hcd).imp fun σ H Q q=>by
 unfold fVar at q
 split at q
 ·rename_i v e; exact ⟨v,e,q⟩
 ·exact q.elim
noncomputable def fI (g : Int→Int→V) : R2:=fun x y H Q=>match x,y with
 | .int i,.int j=>Q (g i j) H
 | _,_=>False
noncomputable def fIC (C : Int→Int→Prop) (g : Int→Int→V) : R2:=fun x y H Q=>match x,y with
 | .int i,.int j=>C i j∧Q (g i j) H
 | _,_=>False
theorem fI.r {g : Int→Int→V} {x y : V} {H : Hp} {Q : VK} (h : fI g x y H Q) : rI0 g x y H Q:=by
 unfold fI at h
 split at h
 ·exact ⟨_,_,rfl,rfl,h⟩
 ·exact h.elim
theorem fIC.r {C : Int→Int→Prop} {g : Int→Int→V} {x y : V} {H : Hp} {Q : VK} (h : fIC C g x y H Q) : rI C g x y H Q:=by
 unfold fIC at h
 split at h
 ·exact ⟨_,_,rfl,rfl,h.1,h.2⟩
 ·exact h.elim
theorem jbv : OpR X (binaryOp .Add) (fI fun i j=>.int (i + j)):=op_add.imp fun _ _ _ _=>fI.r
theorem jee : OpR X (binaryOp .Sub) (fI fun i j=>.int (i - j)):=op_sub.imp fun _ _ _ _=>fI.r
theorem jgy : OpR X (binaryOp .Mult) (fIC CMul fun i j=>.int (i * j)):=op_mul.imp fun _ _ _ _=>fIC.r
theorem jgz : OpR X (binaryOp .Mod) (fIC (fun _ j=>0 < j) fun i j=>.int (i % j)):=op_mod.imp fun _ _ _ _=>fIC.r
theorem jhg : OpR X (binaryOp .FloorDiv) (fIC CDiv fun i j=>.int (i / j)):=jri.imp fun _ _ _ _=>fIC.r
theorem jpo : OpR X (binaryOp .Pow) (fIC CPow fun i j=>.int (i ^ j.toNat)):=op_pow.imp fun _ _ _ _=>fIC.r
theorem q_lt : OpR X (compareOp .Lt) (fI fun i j=>.bl (decide (i < j))):=op_lt.imp fun _ _ _ _=>fI.r
theorem q_le : OpR X (compareOp .LtE) (fI fun i j=>.bl (decide (i ≤ j))):=op_le.imp fun _ _ _ _=>fI.r
theorem q_gt : OpR X (compareOp .Gt) (fI fun i j=>.bl (decide (i > j))):=op_gt.imp fun _ _ _ _=>fI.r
theorem q_ge : OpR X (compareOp .GtE) (fI fun i j=>.bl (decide (i ≥ j))):=op_ge.imp fun _ _ _ _=>fI.r
theorem q_iadd : PIp X .Add (fI fun i j=>.int (i + j)):=fun pins s σ H x y v u Q I rx ry q=>jrs pins s σ H x y v u Q I rx ry q.r
noncomputable def fNeg : V→Hp→VK→Prop:=fun x H Q=>match x with
 | .int i=>Q (.int (-i)) H
 | _=>False
theorem jki : UnR X (unaryOp .USub) fNeg:=fun pins s σ H x v Q I rx q=>by
 cases x <;> first
  | exact False.elim q
  | exact un_neg pins s σ H _ v Q I rx ⟨_,rfl,q⟩
noncomputable def fEq : R2:=fun x y H Q=>match x,y with
 | .int i,.int j=>Q (.bl (decide (i = j))) H
 | .bl i,.bl j=>Q (.bl (decide (i = j))) H
 | .str i,.str j=>Q (.bl (decide (i = j))) H
 | _,_=>False
noncomputable def fNe : R2:=fun x y H Q=>match x,y with
 | .int i,.int j=>Q (.bl (!decide (i = j))) H
 | .bl i,.bl j=>Q (.bl (!decide (i = j))) H
 | .str i,.str j=>Q (.bl (!decide (i = j))) H
 | _,_=>False
theorem dI (i j : Int) : decide (V.int i = V.int j) = decide (i = j):=by simp
theorem dB (i j : Bool) : decide (V.bl i = V.bl j) = decide (i = j):=by simp
theorem dS (i j : Str) : decide (V.str i = V.str j) = decide (i = j):=by simp
theorem q_eq : OpR X (compareOp .Eq) fEq:=op_eq.imp fun x y H Q h=>by
 unfold fEq at h
 split at h
 ·exact ⟨rfl,by rw [dI]; exact h⟩
 ·exact ⟨rfl,by rw [dB]; exact h⟩
 ·exact ⟨rfl,by rw [dS]; exact h⟩
 ·exact h.elim
theorem q_ne : OpR X (compareOp .NotEq) fNe:=op_ne.imp fun x y H Q h=>by
 unfold fNe at h
 split at h
 ·exact ⟨rfl,by rw [dI]; exact h⟩
 ·exact ⟨rfl,by rw [dB]; exact h⟩
 ·exact ⟨rfl,by rw [dS]; exact h⟩
 ·exact h.elim
noncomputable def jgt : V→Bool
 | .non=>true
 | _=>false
noncomputable def fIsN (f : Bool→Bool) : R2:=fun x y H Q=>match y with
 | .non=>Q (.bl (f (jgt x))) H
 | _=>False
theorem dN (x : V) : decide (x = V.non) = jgt x:=by cases x <;> simp [jgt]
theorem q_notN : OpR X (compareOp .IsNot) (fIsN not):=jrh.imp fun x y H Q h=>by
 unfold fIsN at h
 split at h
 ·exact ⟨rfl,by rw [dN]; exact h⟩
 ·exact h.elim
noncomputable def fAnd (ta tb : TE) : TE:=fun σ H Q=>ta σ H fun x H1=>match x with
 | .bl c=>if c = true then tb σ H1 Q else Q (.bl false) H1
 | _=>False
noncomputable def fOr (ta tb : TE) : TE:=fun σ H Q=>ta σ H fun x H1=>match x with
 | .bl c=>if c = true then Q (.bl true) H1 else tb σ H1 Q
 | _=>False
noncomputable def fNot (ta : TE) : TE:=fun σ H Q=>ta σ H fun x H1=>match x with
 | .bl c=>Q (.bl (!c)) H1
 | _=>False
noncomputable def fB (t : TE) : TT:=fun σ H Q=>t σ H fun x H1=>match x with
 | .bl c=>Q c H1
 | _=>False
variable {rest : List Expr}
theorem jew (ha : PE X a ta) (hb : PE X (.BoolOp .And (b :: rest) pos) tb) : PE X (.BoolOp .And (a :: b :: rest) pos) (fAnd ta tb):=by
  intro pins s σ H Q I h
  refine BoolOp_and (thn (ha pins s σ H _ I h) fun v s1 ⟨x,H1,I1,r1,q1⟩=>?_)
  cases x <;> first
    | exact False.elim q1
    | (rename_i c
       cases r1
       refine wpAny_truthy_bool ?_
       cases c with
       | true=>exact hb pins s1 σ H1 Q I1 q1
       | false=>exact ⟨.bl false,H1,I1,rfl,q1⟩)
theorem q_not (ha : PE X a ta) : PE X (.UnaryOp .Not a pos) (fNot ta):=by
  intro pins s σ H Q I h
  refine UnaryOp_ (thn (ha pins s σ H _ I h) fun v s1 ⟨x,H1,I1,r1,q1⟩=>?_)
  cases x <;> first
    | exact False.elim q1
    | (rename_i c
       cases r1
       exact not_of (wpAny_truthy_bool ⟨.bl (!c),H1,I1,rfl,q1⟩))
theorem jbq {t : TE} (h : PE X e t) (he : ∀ whole,isTrue e X.env whole = (do let v ← whole; standAt e.pos; holding [v] (truthy v)):=by intro _; rfl) : PT X e (fB t):=by
  intro pins s σ H Q I hw
  refine isTrue_plain (thn (h pins s σ H _ I hw) fun v s1 ⟨x,H1,I1,r1,q1⟩=>?_) (he _)
  cases x <;> first
    | exact False.elim q1
    | (cases r1
       exact wpAny_truthy_bool ⟨H1,I1,q1⟩)
theorem jan {op : CmpOp} {r : R2} (ho : OpR X (compareOp op) r) (ha : PE X a ta) (hb : PE X b tb) (hm : behindInMarks op b = false) : PT X (.Compare a [op] [b] pos) (fB (tOp r ta tb)):=by
  intro pins s σ H Q I h
  refine wpAny_isTrue_Compare1 (thn (ha pins s σ H _ I h) fun v s1 ⟨x,H1,I1,r1,q1⟩=>thn (hb pins s1 σ H1 _ I1 q1) fun u s2 ⟨y,H2,I2,r2,q2⟩ =>
    thn (ho pins s2 σ H2 x y v u _ I2 r1 r2 q2) fun c s3 ⟨z,H3,I3,r3,q3⟩=>?_) hm
  cases z <;> first
    | exact False.elim q3
    | (cases r3
       exact wpAny_truthy_bool ⟨H3,I3,q3⟩)
noncomputable def jeo (r r' : R2) (ta tb tc : TE) : TE:=fun σ H Q=>ta σ H fun x H1=>tb σ H1 fun y H2=>r x y H2 fun z H3=>match z with
 | .bl k=>(if k = true then tc σ H3 fun w' H4=>r' y w' H4 Q else Q (.bl false) H3)
 | _=>False
theorem jnv {op op' : CmpOp} {g : Int→Int→Bool} {r' : R2} (ho : OpR X (compareOp op) (fI fun i j=>.bl (g i j))) (ho' : OpR X (compareOp op') r') (ha : PE X a ta) (hb : PE X b tb) (hc : PE X c tc)
  (hm : lastMarks [op,op'] [b,c] = false:=by with_unfolding_all rfl) : PE X (.Compare a [op,op'] [b,c] pos) (jeo (fI fun i j=>.bl (g i j)) r' ta tb tc):=by
 intro pins s σ H Q I h
 refine Compare_chain (thn (ha pins s σ H _ I h) fun v s1 ⟨x,H1,I1,r1,q1⟩=>chain_link (thn (hb pins s1 σ H1 _ I1 q1) fun u s2 ⟨y,H2,I2,r2,q2⟩ =>
  thn (ho pins s2 σ H2 x y v u (fun z H3=>∃ k,z = .bl k∧(if k = true then tc σ H3 fun w' H4=>r' y w' H4 Q else Q (.bl false) H3)) I2 r1 r2 ?_) fun d s3 ⟨z,H3,I3,r3,k,e,q3⟩=>?_)) hm
 ·dsimp only at q2
  unfold fI at q2 ⊢
  cases x <;> cases y <;> first
   | exact q2.elim
   | exact ⟨_,rfl,q2⟩
 ·subst e
  cases r3
  refine wpAny_truthy_bool ?_
  cases k with
  | false=>exact ite_ff ⟨.bl false,H3,I3,rfl,q3⟩
  | true=>exact ite_tt (chain_last (thn (hc pins s3 σ H3 _ I3 q3) fun w' s4 ⟨z',H4,I4,r4,q4⟩=>ho' pins s4 σ H4 y z' u w' Q I4 r2 r4 q4))
noncomputable def jaj (H : Hp) (p : Addr) : Option (List V):=match H p with
 | some (.lst xs)=>some xs
 | some (.tup xs)=>some xs
 | some (.frz _ (.lst xs))=>some xs
 | _=>none
theorem ji7 {K : PySem.W.Frag} {H : Hp} {p : Addr} {xs : List V} (h : jaj H p = some xs) : SqL K H p xs ∨ SqT K H p xs:=by
 unfold jaj at h
 split at h
 ·rename_i ys e; cases h; exact .inl (.inl (.inl e))
 ·rename_i ys e; cases h; exact .inr (SqT.of e)
 ·rename_i o ys e; cases h; exact .inl (.inl (.inr ⟨_,e⟩))
 ·cases h
noncomputable def fIx : R2:=fun x y H Q=>match x,y with
 | .ref p,.int i=>match jaj H p with
  | some xs=>match atI xs i with
   | some v=>Q v H
   | none=>False
  | none=>False
 | _,_=>False
theorem q_ix : IxR X fIx:=(jop.or ix_tup).imp fun x y H Q h=>by
 unfold fIx at h
 split at h
 ·split at h
  ·rename_i xs e
   split at h
   ·rename_i v ev
    rcases ji7 (K:=X.K) e with z | z
    ·exact .inl ⟨_,_,_,_,rfl,rfl,z,ev,h⟩
    ·exact .inr ⟨_,_,_,_,rfl,rfl,z,ev,h⟩
   ·exact h.elim
  ·exact h.elim
 ·exact h.elim
noncomputable def fLen : List V→Hp→VK→Prop:=fun vs H Q=>match vs with
 | [.ref p]=>match jaj H p with
  | some xs=>Q (.int xs.length) H
  | none=>False
 | _=>False
theorem jci : jbu X (.builtin "len") fLen:=jdi.imp fun vs H Q h=>by
 unfold fLen at h
 split at h
 ·split at h
  ·rename_i xs e; exact ⟨_,xs,rfl,ji7 e,h⟩
  ·exact h.elim
 ·exact h.elim
noncomputable def jdd : List V→Hp→VK→Prop:=fun vs H Q=>match vs with
 | [.ref p]=>match jaj H p with
  | some xs=>∀ l,H l = none→Q (.ref l) (upd H l (.lst xs))
  | none=>False
 | _=>False
noncomputable def fMin : List V→Hp→VK→Prop:=fun vs H Q=>match vs with
 | [.int i,.int j]=>Q (.int (if j < i then j else i)) H
 | _=>False
theorem q_min (hc : X.calm = true) : jbu X (.builtin "min") fMin:=(jp7 hc).imp fun vs H Q h=>by
 unfold fMin at h
 split at h
 ·exact ⟨_,_,rfl,h⟩
 ·exact h.elim
noncomputable def fSlL : V→Option Int→Option Int→Hp→VK→Prop:=fun x lo hi H Q=>match x with
 | .ref a=>match H a with
  | some (.lst xs)=>∀ p,H p = none→Q (.ref p) (upd H p (.lst (cutV xs lo hi)))
  | _=>False
 | _=>False
theorem jdt : SlR X fSlL:=jr5.imp fun x l u H Q h=>by
 unfold fSlL at h
 split at h
 ·split at h
  ·rename_i xs e; exact ⟨_,xs,rfl,SqL.of e,h⟩
  ·exact h.elim
 ·exact h.elim
noncomputable def jcj : V→List V→Hp→VK→Prop:=fun x vs H Q=>match x,vs with
 | .ref l,[y]=>match H l with
  | some (.lst xs)=>xs.length < sizeLine∧Q .non (upd H l (.lst (xs ++ [y])))
  | _=>False
 | _,_=>False
theorem jbr : MtR X "list.append" jcj:=MtR.imp (r:=jns) (fun pins s σ H x xs v us Q I rx rv q=>jjx pins s σ H x xs v us Q I rx rv q) fun x vs H Q h=>by
 unfold jcj at h
 split at h
 ·split at h
  ·rename_i xs e; exact ⟨_,xs,_,rfl,rfl,e,h.1,h.2⟩
  ·exact h.elim
 ·exact h.elim
noncomputable def fBM (r : V→List V→Hp→VK→Prop) (to : TE) (t : TA) : TE:=fun σ H Q=>to σ H fun x H1=>(∃ a xs,x = .ref a∧H1 a = some (.lst xs))∧t σ H1 fun xs H2=>r x xs H2 Q
noncomputable def jh8 : TSet:=fun o i v H Q=>match o,i with
 | .ref p,.int k=>match H p with
  | some (.lst xs)=>match ixN xs.length k with
   | some j=>Q (upd H p (.lst (xs.set j v)))
   | none=>False
  | _=>False
 | _,_=>False
theorem jlw : PSet X jh8:=jpj.imp fun o i v H Q h=>by
 unfold jh8 at h
 split at h
 ·split at h
  ·rename_i xs e
   split at h
   ·rename_i j ej; exact ⟨_,xs,_,j,rfl,rfl,e,ej,h⟩
   ·exact h.elim
  ·exact h.elim
 ·exact h.elim
noncomputable def jhb : TGs:=fun vs σ H Q=>match vs with
 | []=>Q σ H
 | _=>False
noncomputable def jdx (t : TG) (u : TGs) : TGs:=fun vs σ H Q=>match vs with
 | v :: r=>t v σ H fun σ' H'=>u r σ' H' Q
 | []=>False
theorem jbg : PGs X [] jhb:=jrf.imp fun v σ H Q h=>by
 unfold jhb at h
 split at h
 ·exact ⟨rfl,h⟩
 ·exact h.elim
theorem jaf {t : TG} {u : TGs} (h1 : PG X e t) (h2 : PGs X es u) (hs : (assignEach (e :: es) X.env).map (·.2) = assign e X.env :: (assignEach es X.env).map (·.2):=by rfl) : PGs X (e :: es) (jdx t u):=(jpt h1 h2 hs).imp fun v σ H Q h=>by
 unfold jdx at h
 split at h
 ·exact ⟨_,_,rfl,h⟩
 ·exact h.elim
noncomputable def jha (n : Nat) (t : TGs) : TG:=fun v σ H Q=>match v with
 | .ref a=>match H a with
  | some (.tup xs)=>xs.length = n∧t xs σ H Q
  | _=>False
 | _=>False
theorem jc3 {k : Nat} {t : TGs} {n : Nat} (hc : X.calm = true) (h : PGs X es t) (hn : (assignEach es X.env).length = n:=by rfl) (hst : (assignEach es X.env).findIdx? (·.1) = none:=by rfl) : PG X (.Tuple es k pos) (jha n t) :=
 (pg_tup hc h hn hst).imp fun v σ H Q q=>by
  unfold jha at q
  split at q
  ·split at q
   ·rename_i xs e; exact ⟨_,xs,rfl,SqT.of e,q.1,q.2⟩
   ·exact q.elim
  ·exact q.elim
noncomputable def fDIn (f : Bool→Bool) (ty td : TE) : TE:=fun σ H Q=>ty σ H fun y H1=>td σ H1 fun x H2=>match y,x with
 | .int n,.ref a=>match H2 a with
  | some (.dK kvs)=>Q (.bl (f (valV kvs (Sum.inl n : Key)).isSome)) H2
  | _=>False
 | _,_=>False
noncomputable def jix (td ty : TE) : TE:=fun σ H Q=>td σ H fun x H1=>ty σ H1 fun y H2=>match x,y with
 | .ref a,.int n=>match H2 a with
  | some (.dK kvs)=>match valV kvs (Sum.inl n : Key) with
   | some v=>Q v H2
   | none=>False
  | _=>False
 | _,_=>False
end
section
variable {X : Cx} {o i : Expr} {td ty : TE} {pos : Pos}
theorem fDIn_r {f : Bool→Bool} {H2 : Hp} {Q : VK} {y x : V} (h : (match y,x with
  | .int n,.ref a=>match H2 a with
    | some (.dK kvs)=>Q (.bl (f (valV kvs (Sum.inl n : Key)).isSome)) H2
    | _=>False
  | _,_=>False)) : ∃ a ov,x = .ref a∧DGet H2 a y ov∧Q (.bl (f ov.isSome)) H2:=by
  cases y <;> cases x <;> first
    | exact h.elim
    | (rename_i n a
       dsimp only at h
       split at h
       · rename_i kvs e; exact ⟨a,_,rfl,DGet.k (k:=Sum.inl n) e,h⟩
       · exact h.elim)
theorem jrb (hu : X.A.units + 1 < cLine) (hi : PE X i ty) (ho : PE X o td) : PC X .In i o (fDIn id ty td):=by
 intro pins s σ H Q I h
 refine thn (hi pins s σ H _ I h) fun iv s1 ⟨y,H1,I1,ry,q1⟩=>thn (ho pins s1 σ H1 _ I1 q1) fun u s2 ⟨x,H2,I2,rx,q2⟩=>?_
 obtain ⟨a,ov,ex,g,q3⟩:=fDIn_r q2
 subst ex
 obtain rfl : u = Value.ref a:=rx
 exact d_in hu I2 g ry fun s' I3=>⟨.bl ov.isSome,H2,I3,rfl,q3⟩
theorem jef (hu : X.A.units + 1 < cLine) (ho : PE X o td) (hi : PE X i ty) (hs : NoSl i) : PE X (.Subscript o i pos) (jix td ty):=by
  intro pins s σ H Q I h
  refine jr4 PySem.F.slot_dict_getitem.lookup hs (thn (ho pins s σ H _ I h) fun u s1 ⟨x,H1,I1,rx,q1⟩=>thn (hi pins s1 σ H1 _ I1 q1) fun iv s2 ⟨y,H2,I2,ry,q2⟩=>?_)
  cases x <;> cases y <;> first
    | exact False.elim q2
    | (dsimp only at q2
       split at q2
       · rename_i kvs e
         split at q2
         · rename_i v ev
           cases rx
           have g : ∀ {a : Addr} {n : Int},H2 a = some (.dK kvs)→valV kvs (Sum.inl n : Key) = some v→DGet H2 a (.int n) (some v):=fun e1 e2=>e2 ▸ DGet.k (k:=Sum.inl _) e1
           have g:=g e ev
           exact ⟨jl8 I2 g,jp5 hu I2 g ry fun w' s3 I3 rw'=>⟨v,H2,I3,rw',q2⟩⟩
         · exact q2.elim
       · exact q2.elim)
theorem q_bm {e : Expr} {es : List Expr} {to : TE} {t : TA} {name : Str} {apos cpos : Pos} {id : String} {r : V→List V→Hp→VK→Prop} (pa : PlainAttrs "list") (slot : Slot "list" name id) (hty : typeOf (.builtin id) = pure (.type "method_descriptor")) (hm : MtR X id r) (ho : PE X o to) (ha : PA X (e :: es) t)
  (hbase : attributeBase o name X.env (eval o X.env) = eval o X.env:=by rfl)
  (hfew : ((backTo cpos (starEach (e :: es) X.env)).all (fun x=>!x.1) && (backToKw cpos (keywordEach [] X.env)).all (fun x=>x.1.isSome)
   && decide ((e :: es).length + ([] : List Keyword).length + (if ([] : List Keyword).isEmpty then 0 else 1) < 30)) = true:=by rfl)
  (hline : (apos.endLine == cpos.line) = true:=by rfl) (hs : starEach (e :: es) X.env = (false,eval e X.env) :: starEach es X.env:=by rfl) (hplain : (backTo cpos (starEach es X.env)).any (·.1) = false:=by rfl) :
  PE X (.Call (.Attribute o name apos) (e :: es) [] cpos) (fBM r to t):=by
 intro pins s σ H Q I h
 refine wpAny_Call_method_late hbase hfew hline rfl (thn (ho pins s σ H _ I h) fun v s1 ⟨x,H1,I1,r1,⟨a,xs,ex,ea⟩,q1⟩=>?_)
 subst ex
 obtain ⟨h1,h2⟩:=tyV_is (T:="list") I1 r1 (.inl ⟨rfl,_,SqL.of ea⟩)
 refine ⟨"list",id,pa,slot,hty,h1,h2,?_⟩
 have hA:=ha cpos pins s1 σ H1 _ I1 q1
 rw [hs] at hA ⊢
 refine Calls.callWith_builtin (by show (false || (backTo cpos (starEach es X.env)).any (·.1)) = false; rw [hplain] <;> rfl) (Calls.evalArgs_plain ?_)
 exact thn hA fun us s2 ⟨vs,H2,I2,r2,q2⟩=>hm pins s2 σ H2 _ vs v us Q I2 r1 r2 q2
end
inductive Kd where
 | non | bl | int | str | lst | tup | dct
 deriving DecidableEq
noncomputable def Kd.nm : Kd→String
 | .non=>"NoneType"
 | .bl=>"bool"
 | .int=>"int"
 | .str=>"str"
 | .lst=>"list"
 | .tup=>"tuple"
 | .dct=>"dict"
noncomputable def kd (H : Hp) (v : V) : Option Kd:=match v with
 | .non=>some .non
 | .bl _=>some .bl
 | .int _=>some .int
 | .str _=>some .str
 | .ref a=>match H a with
  | some (.lst _)=>some .lst
  | some (.tup _)=>some .tup
  | some (.dK _)=>some .dct
  | _=>none
 | _=>none
noncomputable def isi (a b : Kd) : Bool:=match a,b with
 | .bl,.int=>true
 | .non,.non=>true
 | .bl,.bl=>true
 | .int,.int=>true
 | .str,.str=>true
 | .lst,.lst=>true
 | .tup,.tup=>true
 | .dct,.dct=>true
 | _,_=>false
theorem kd_knd {H : Hp} {v : V} {k : Kd} (h : kd H v = some k) : Knd H v k.nm:=by
 unfold kd at h
 split at h
 ·cases h; exact .non
 ·cases h; exact .bl
 ·cases h; exact .int
 ·cases h; exact .str
 ·split at h
  ·rename_i e; cases h; exact .lst e
  ·rename_i e; cases h; exact .tup e
  ·rename_i e; cases h; exact .dK e
  ·cases h
 ·cases h
theorem isi_K (a b : Kd) : isiK a.nm b.nm = isi a b:=by cases a <;> cases b <;> rfl
theorem Kd.mem (b : Kd) : b.nm ∈ jir:=by cases b <;> simp [jir,Kd.nm]
noncomputable def fIsi (T : Kd) : List V→Hp→VK→Prop:=fun vs H Q=>match vs with
 | [x,y]=>y = .ty T.nm∧match kd H x with
  | some k=>Q (.bl (isi k T)) H
  | none=>False
 | _=>False
theorem jjm {X : Cx} (T : Kd) : jbu X (.builtin "isinstance") (fIsi T):=jqa.imp fun vs H Q h=>by
 unfold fIsi at h
 split at h
 ·obtain ⟨rfl,h⟩:=h
  split at h
  ·rename_i k e
   exact ⟨_,_,_,rfl,kd_knd e,Kd.mem T,by rw [isi_K]; exact h⟩
  ·exact h.elim
 ·exact h.elim
noncomputable def fAug (i : Nat) (te : TE) (ti : TIp) : TS:=fun D σ H=>match σ[i]? with
 | some (some x)=>te σ H fun y H1=>ti x y H1 fun z H2=>D.nx (σ.set i (some z)) H2
 | _=>False
theorem qs_aug {X : Cx} {pos : Pos} {i : Nat} {x : Str} {e : Expr} {te : TE} {op : Operator} {ti : TIp} {pos' : Pos} (hN : X.N.Nodup) (hi : X.N[i]? = some x) (hx : Loc X.env.scope x) (he : PE X e te) (ho : PIp X op ti) (hf : X.fn x = true ∨ X.env.scope.names.lookup x = some .local:=by first | exact .inl rfl | exact .inr rfl | assumption) :
  PS X (.AugAssign (.Name x pos') op e pos) (fAug i te ti):=fun pins s σ H D I h=>ps_aug hN hi hx he ho hf pins s σ H D I (by
 unfold fAug at h
 split at h
 ·rename_i x e; exact ⟨x,e,h⟩
 ·exact h.elim)
noncomputable def jiw (t : TE) : TO:=fun σ H Q=>t σ H fun x H1=>match x with
 | .int i=>Q (some i) H1
 | _=>False
theorem jbf {X : Cx} {e : Expr} {te : TE} (h : PE X e te) : PO X (some e) (jiw te):=by
  intro pins s σ H Q I hw
  rw [evalPart_some]
  refine thn (h pins s σ H _ I hw) fun u s1 ⟨x,H1,I1,r1,q1⟩=>?_
  cases x <;> first
    | exact False.elim q1
    | (obtain ⟨t,rfl⟩:=r1
       exact ⟨some _,H1,I1,.int _ t,q1⟩)
noncomputable def jdf (f : List Bool→Bool) : List V→Hp→VK→Prop:=fun vs H Q=>match vs with
 | [.ref l]=>match H l with
  | some (.lst xs)=>∃ bs : List Bool,xs = bs.map V.bl∧Q (.bl (f bs)) H
  | _=>False
 | _=>False
theorem jq3 {f : List Bool→Bool} {vs : List V} {H : Hp} {Q : VK} (h : jdf f vs H Q) : jqr f vs H Q:=by
 unfold jdf at h
 split at h
 ·split at h
  ·rename_i xs e
   obtain ⟨bs,rfl,h⟩:=h
   exact ⟨_,bs,rfl,e,h⟩
  ·exact h.elim
 ·exact h.elim
theorem q_all {X : Cx} (hc : X.calm = true) : jbu X (.builtin "all") (jdf fun bs=>bs.all id):=(jqb hc).imp fun _ _ _=>jq3
noncomputable def jdy : List V→Hp→VK→Prop:=fun vs H Q=>match vs with
 | [.ref l]=>match H l with
  | some (.lst xs)=>∃ kvs : List (Key × V),Paired (PairAt H) xs kvs∧xs.length ≤ 1000∧(kvs.map (·.1)).Nodup∧∀ d,H d = none→Q (.ref d) (upd H d (.dK kvs))
  | _=>False
 | _=>False
theorem jnu {X : Cx} (hc : X.calm = true) : jbu X (.type "dict") jdy:=(jn3 hc).imp fun vs H Q h=>by
 unfold jdy at h
 split at h
 ·split at h
  ·rename_i xs e
   obtain ⟨kvs,h1,h2,h3,h4⟩:=h
   exact ⟨_,xs,kvs,rfl,e,h1,h2,h3,h4⟩
  ·exact h.elim
 ·exact h.elim
noncomputable def fLtT : R2:=fun x y H Q=>match x,y with
 | .ref a,.ref b=>match H a,H b with
  | some (.tup [.int i,.int j]),some (.tup [.int k,.int l])=>Q (.bl (HT.lexLt [i,j] [k,l])) H
  | _,_=>False
 | _,_=>False
theorem q_ltT {X : Cx} (hu : X.A.units < cLine) : OpR X (compareOp .Lt) fLtT:=(op_ltT hu).imp fun x y H Q h=>by
 unfold fLtT at h
 split at h
 ·split at h
  ·rename_i a b _ _ i j k l e1 e2
   exact ⟨a,b,[i,j],[k,l],rfl,rfl,SqT.of e1,SqT.of e2,h⟩
  ·exact h.elim
 ·exact h.elim
noncomputable def capB (XN : List Str) (names : List (Str × NameKind)) : List Str→List (Option Nat)→Bool
 | [],[]=>true
 | x :: N,none :: r=>capB XN names N r
 | x :: N,some j :: r=>(XN[j]? == some x) && (names.lookup x == some .free) && capB XN names N r
 | _,_=>false
theorem jla {XN : List Str} {names : List (Str × NameKind)} : ∀ {N : List Str} {src : List (Option Nat)},capB XN names N src = true→src.length = N.length∧∀ (i j : Nat),src[i]? = some (some j)→XN[j]? = N[i]?∧(N[i]?).elim False (fun x=>names.lookup x = some .free)
 | [],[],_=>⟨rfl,fun i j e=>by simp at e⟩
 | x :: N,none :: r,h=>by
  obtain ⟨h1,h2⟩:=jla (N:=N) (src:=r) h
  refine ⟨by simp [h1],fun i j e=>?_⟩
  cases i with
  | zero=>simp at e
  | succ i=>exact h2 i j (by simpa using e)
 | x :: N,some k :: r,h=>by
  have h' : ((XN[k]? == some x) && (names.lookup x == some .free) && capB XN names N r) = true:=h
  rw [Bool.and_eq_true,Bool.and_eq_true] at h'
  obtain ⟨h1,h2⟩:=jla (N:=N) (src:=r) h'.2
  refine ⟨by simp [h1],fun i j e=>?_⟩
  cases i with
  | zero =>
   have e' : k = j:=by simpa using e
   subst e'
   exact ⟨by simpa using h'.1.1,by simpa using h'.1.2⟩
  | succ i=>exact h2 i j (by simpa using e)
noncomputable def jm4 : List Str→Bool
 | []=>true
 | x :: r=>!(r.contains x) && jm4 r
theorem jb7 : ∀ {l : List Str},jm4 l = true→l.Nodup
 | [],_=>List.nodup_nil
 | x :: r,h=>by
  have h' : (!(r.contains x) && jm4 r) = true:=h
  rw [Bool.and_eq_true] at h'
  exact List.nodup_cons.mpr ⟨by simpa using h'.1,jb7 h'.2⟩
noncomputable def cpB (XN : List Str) (outer : List (Str × NameKind)) (scope : Scope) (N : List Str) (src : List (Option Nat)) : Bool :=
 (scope.kind == .function) && scope.names.all (fun y=>y.2 != .cell) && scope.names.all (fun y=>y.2 != .local || scope.names.lookup y.1 == some .local) &&
  scope.names.all (fun y=>y.2 != .free || (scope.names.lookup y.1 == some .free && outer.lookup y.1 == some .cell)) && jm4 N && capB XN scope.names N src
theorem CpScope.of {X : Cx} {scope : Scope} {N : List Str} {src : List (Option Nat)} (h : cpB X.N X.env.scope.names scope N src = true) : CpScope X scope N src:=by
 unfold cpB at h
 simp only [Bool.and_eq_true] at h
 obtain ⟨⟨⟨⟨⟨h1,h2⟩,h3⟩,h4⟩,h5⟩,h6⟩:=h
 rw [List.all_eq_true] at h2 h3 h4
 obtain ⟨l,c⟩:=jla h6
 refine ⟨by simpa using h1,fun y hy=>by simpa using h2 y hy,fun y hy e=>?_,fun y hy e=>?_,jb7 h5,l,c⟩
 ·have:=h3 y hy
  rw [e] at this
  simpa using this
 ·have:=h4 y hy
  rw [e] at this
  simpa using this
end L2
namespace L2
open PySem PySem.Spec PyProof.Rows
theorem jfu {K : PySem.W.Frag} {a : Addr} {xs : List V} {g : TG} {tb : TS} {D : Ends} {σ : St} {H : Hp} (Pv : Nat→St→Hp→Prop) (h0 : Pv 0 σ H) (hl : ∀ i σ H,i ≤ xs.length→Pv i σ H→SqL K H a xs)
  (hs : ∀ i x σ H t,xs[i]? = some x→Pv i σ H→H t = none→g (.ref t) σ (upd H t (.tup [.int i,x])) fun σ2 H2=>tb { D with nx:=Pv (i + 1),ct:=Pv (i + 1),bk:=D.nx } σ2 H2) (hd : ∀ σ H,Pv xs.length σ H→D.nx σ H) :
  ∃ W : Nat→Nat→St→Hp→Prop,(∃ m,W 0 m σ H)∧∀ i m σ H,W i m σ H →
   ((Ite K a).stop i H∧D.nx σ H) ∨ ((Ite K a).go i H∧∃ N : St→Hp→Prop,(∀ σ' H',N σ' H'→∃ m',m' < m∧W (i + 1) m' σ' H')∧∀ x H',(Ite K a).yld i H x H'→g x σ H' fun σ2 H2=>tb { D with nx:=N,ct:=N,bk:=D.nx } σ2 H2):=by
 refine ⟨fun i m σ H=>m = xs.length - i∧i ≤ xs.length∧Pv i σ H,⟨xs.length,by simp,Nat.zero_le _,h0⟩,?_⟩
 rintro i m σ H ⟨rfl,hi,p⟩
 have q:=hl i σ H hi p
 by_cases hlt : i < xs.length
 ·refine .inr ⟨⟨xs,xs[i],q,by simp [hlt]⟩,Pv (i + 1),fun σ' H' p'=>⟨xs.length - (i + 1),by omega,rfl,hlt,p'⟩,fun x H' y=>?_⟩
  obtain ⟨t,z,ht,e1,e2,y⟩:=y
  subst e1 e2
  exact hs i z σ _ t (y xs q) p ht
 ·have e : i = xs.length:=by omega
  subst e
  exact .inl ⟨⟨xs,q,Nat.le_refl _⟩,hd σ H p⟩
theorem jav {wi : TI} {g : TG} {tb : TS} {D : Ends} {σ : St} {H : Hp} (J : It) (H1 : Hp) (h1 : ∀ R : It→Hp→Prop,R J H1→wi σ H R)
  (h2 : ∃ W : Nat→Nat→St→Hp→Prop,(∃ m,W 0 m σ H1)∧∀ i m σ H,W i m σ H→(J.stop i H∧D.nx σ H) ∨ (J.go i H∧∃ N : St→Hp→Prop,(∀ σ' H',N σ' H'→∃ m',m' < m∧W (i + 1) m' σ' H')∧∀ x H',J.yld i H x H'→g x σ H' fun σ2 H2=>tb { D with nx:=N,ct:=N,bk:=D.nx } σ2 H2)) :
  tFor wi g tb D σ H:=h1 _ h2
theorem jby {src : List (Option Nat)} {wi : TI} {g : TG} {tc : TT} {te : TE} {Q : VK} {σ : St} {H : Hp} (J : It) (H1 : Hp) (h1 : ∀ R : It→Hp→Prop,R J H1→wi σ H R) (h2 : ∀ l,H1 l = none→jqf J src g tc te Q σ H1 l) : jr3 src wi g tc te σ H Q:=h1 _ h2
theorem ja5 {H : Hp} {p : Addr} (h : H p = none) (o : HO) : Same H (upd H p o):=fun b u q=>by rw [ja8 (ja6 q h)]; exact q
theorem jc5 {H H' : Hp} {p : Addr} {o : HO} (s : Same H H') (h : H p = none) : Same H (upd H' p o):=fun b u q=>by rw [ja8 (ja6 q h)]; exact s b u q
noncomputable def Pr (H : Hp) (v : V) (p : Int × Int) : Prop:=∃ t,v = .ref t∧H t = some (.tup [.int p.1,.int p.2])
theorem Pr.same {H H' : Hp} {v : V} {p : Int × Int} (h : Pr H v p) (s : Same H H') : Pr H' v p:=let ⟨t,e,q⟩:=h; ⟨t,e,s _ _ q⟩
noncomputable def jrr : HO→Bool
 | .tup _=>true
 | .frz _ _=>true
 | _=>false
noncomputable def TupS (H H' : Hp) : Prop:=∀ b o,jrr o = true→H b = some o→H' b = some o
theorem Same.tups {H H' : Hp} (s : Same H H') : TupS H H':=fun b o _ q=>s b _ q
theorem TupS.trans {H H1 H2 : Hp} (a : TupS H H1) (b : TupS H1 H2) : TupS H H2:=fun c o i q=>b c o i (a c o i q)
theorem jhy {H : Hp} {l : Addr} {xs ys : List V} (h : H l = some (.lst xs)) : TupS H (upd H l (.lst ys)):=fun b o i q=>by
 have : b ≠ l:=fun z=>by rw [z,h] at q; cases q; cases i
 rw [ja8 this]
 exact q
theorem jfm {H : Hp} {l : Addr} {o : HO} (h : H l = none) : TupS H (upd H l o):=(ja5 h o).tups
theorem Pr.tups {H H' : Hp} {v : V} {p : Int × Int} (h : Pr H v p) (s : TupS H H') : Pr H' v p:=let ⟨t,e,q⟩:=h; ⟨t,e,s _ _ rfl q⟩
noncomputable def Scr (K : PySem.W.Frag) (H : Hp) (a : Addr) (ns : List Int) : Prop :=
 (∃ o,H a = some (.frz o (.lst (ns.map V.int)))) ∨ ∃ (o : Obj) (its : Array Value) (n : Nat),K.lookup a = some o∧o.cls = .type "list"∧o.dict = none∧o.data = .seq its n∧its.size ≤ sizeLine∧Vals (ns.map V.int) its.toList
theorem Scr.sq {K : PySem.W.Frag} {H : Hp} {a : Addr} {ns : List Int} (h : Scr K H a ns) : SqL K H a (ns.map V.int):=h.elim (fun ⟨o,q⟩=>.inl (.inr ⟨o,q⟩)) .inr
theorem Scr.of {K : PySem.W.Frag} {H : Hp} {a : Addr} {ns : List Int} (h : SqL K H a (ns.map V.int)) (o : Only H) : Scr K H a ns:=by
 rcases h with (h | ⟨ob,h⟩) | h
 ·rcases o a with z | ⟨ob,xs,z⟩
  ·rw [h] at z; cases z
  ·rw [h] at z; cases z
 ·exact .inl ⟨ob,h⟩
 ·exact .inr h
theorem Scr.tups {K : PySem.W.Frag} {H H' : Hp} {a : Addr} {ns : List Int} (h : Scr K H a ns) (s : TupS H H') : Scr K H' a ns:=h.elim (fun ⟨o,q⟩=>.inl ⟨o,s _ _ rfl q⟩) .inr
noncomputable abbrev Prs (H : Hp) : List V→List (Int × Int)→Prop:=Paired (Pr H)
theorem Prs.tups {H H' : Hp} (s : TupS H H') {xs : List V} {ps : List (Int × Int)} (h : Prs H xs ps) : Prs H' xs ps:=Paired.mapP h fun _ _ q=>q.tups s
theorem Prs.same {H H' : Hp} (s : Same H H') {xs : List V} {ps : List (Int × Int)} (h : Prs H xs ps) : Prs H' xs ps:=Prs.tups s.tups h
theorem jam {α β : Type} {F : α→β→Prop} : ∀ {xs : List α} {ys : List β} {i : Nat} {x : α},Paired F xs ys→xs[i]? = some x→∃ y,ys[i]? = some y∧F x y
 | _,_,_,_,.nil,e=>by simp at e
 | _,_,0,_,.cons r _,e=>by simp at e; subst e; exact ⟨_,rfl,r⟩
 | _,_,i + 1,y,.cons _ t,e=>by
  obtain ⟨u,h1,h2⟩:=jam (i:=i) t (by simpa using e)
  exact ⟨u,by simpa using h1,h2⟩
theorem jch {α β : Type} {F : α→β→Prop} : ∀ {xs : List α} {ys : List β} {i : Nat} {y : β},Paired F xs ys→ys[i]? = some y→∃ x,xs[i]? = some x∧F x y
 | _,_,_,_,.nil,e=>by simp at e
 | _,_,0,_,.cons r _,e=>by simp at e; subst e; exact ⟨_,rfl,r⟩
 | _,_,i + 1,y,.cons _ t,e=>by
  obtain ⟨u,h1,h2⟩:=jch (i:=i) t (by simpa using e)
  exact ⟨u,by simpa using h1,h2⟩
theorem jca {α β : Type} {F : α→β→Prop} {a : α} {b : β} {l₁ : List α} {l₂ : List β} (h : Paired F l₁ l₂) (r : F a b) : Paired F (l₁ ++ [a]) (l₂ ++ [b]):=Paired.snoc h r
theorem jm7 {α : Type} {l : List α} {i : Nat} {x : α} (h : l[i]? = some x) : l.drop i = x :: l.drop (i + 1):=by
 obtain ⟨h1,h2⟩:=List.getElem?_eq_some_iff.mp h
 rw [List.drop_eq_getElem_cons h1,h2]
theorem jbo {α : Type} {l : List α} {i : Nat} {x : α} (h : l[i]? = some x) : l.take (i + 1) = l.take i ++ [x]:=by
 obtain ⟨h1,h2⟩:=List.getElem?_eq_some_iff.mp h
 rw [List.take_succ,h]
 rfl
inductive Dt where
 | non
 | bl (b : Bool)
 | int (i : Int)
 | str (x : Str)
 | tup (ds : List Dt)
 | lst (ds : List Dt)
mutual
noncomputable def Rep (H : Hp) : Dt→V→Prop
 | .non,v=>v = .non
 | .bl b,v=>v = .bl b
 | .int i,v=>v = .int i
 | .str x,v=>v = .str x
 | .tup ds,v=>∃ a vs,v = .ref a∧H a = some (.tup vs)∧Reps H ds vs
 | .lst ds,v=>∃ a vs,v = .ref a∧H a = some (.lst vs)∧Reps H ds vs
noncomputable def Reps (H : Hp) : List Dt→List V→Prop
 | [],vs=>vs = []
 | d :: ds,vs=>∃ v r,vs = v :: r∧Rep H d v∧Reps H ds r
end
mutual
theorem Rep.same {H H' : Hp} (s : Same H H') : ∀ (d : Dt) {v : V},Rep H d v→Rep H' d v
 | .non,_,h=>by rw [Rep] at *; exact h
 | .bl _,_,h=>by rw [Rep] at *; exact h
 | .int _,_,h=>by rw [Rep] at *; exact h
 | .str _,_,h=>by rw [Rep] at *; exact h
 | .tup ds,_,h=>by
  rw [Rep] at *
  obtain ⟨a,vs,e,q,r⟩:=h
  exact ⟨a,vs,e,s _ _ q,Reps.same s ds r⟩
 | .lst ds,_,h=>by
  rw [Rep] at *
  obtain ⟨a,vs,e,q,r⟩:=h
  exact ⟨a,vs,e,s _ _ q,Reps.same s ds r⟩
theorem Reps.same {H H' : Hp} (s : Same H H') : ∀ (ds : List Dt) {vs : List V},Reps H ds vs→Reps H' ds vs
 | [],_,h=>by rw [Reps] at *; exact h
 | d :: ds,_,h=>by
  rw [Reps] at *
  obtain ⟨v,r,e,h1,h2⟩:=h
  exact ⟨v,r,e,Rep.same s d h1,Reps.same s ds h2⟩
end
theorem Reps.len {H : Hp} : ∀ {ds : List Dt} {vs : List V},Reps H ds vs→vs.length = ds.length
 | [],_,h=>by rw [Reps] at h; subst h; rfl
 | d :: ds,_,h=>by
  rw [Reps] at h
  obtain ⟨v,r,e,h1,h2⟩:=h
  rw [e,List.length_cons,List.length_cons,Reps.len h2]
theorem Reps.at {H : Hp} : ∀ {ds : List Dt} {vs : List V} {i : Nat} {v : V},Reps H ds vs→vs[i]? = some v→∃ d,ds[i]? = some d∧Rep H d v
 | [],_,i,v,h,e=>by rw [Reps] at h; rw [h] at e; simp at e
 | d :: ds,_,i,v,h,e=>by
  rw [Reps] at h
  obtain ⟨w,r,e1,h1,h2⟩:=h
  subst e1
  cases i with
  | zero=>simp at e; subst e; exact ⟨d,rfl,h1⟩
  | succ i =>
   obtain ⟨d',q1,q2⟩:=Reps.at h2 (i:=i) (by simpa using e)
   exact ⟨d',by simpa using q1,q2⟩
noncomputable def jao (p : Int × Int) : Dt:=.tup [.int p.1,.int p.2]
theorem Pr.rep {H : Hp} {v : V} {p : Int × Int} (h : Pr H v p) : Rep H (jao p) v:=by
 obtain ⟨t,e,q⟩:=h
 rw [jao,Rep]
 refine ⟨t,_,e,q,?_⟩
 rw [Reps]
 refine ⟨_,_,rfl,(by rw [Rep]),?_⟩
 rw [Reps]
 exact ⟨_,_,rfl,(by rw [Rep]),(by rw [Reps])⟩
theorem Prs.reps {H : Hp} : ∀ {xs : List V} {ps : List (Int × Int)},Prs H xs ps→Reps H (ps.map jao) xs
 | _,_,.nil=>by rw [List.map_nil,Reps]
 | _,_,.cons r t=>by rw [List.map_cons,Reps]; exact ⟨_,_,rfl,r.rep,Prs.reps t⟩
end L2
namespace L2
open PySem PySem.Spec PyProof.Rows
noncomputable def fMax : List V→Hp→VK→Prop:=fun vs H Q=>match vs with
 | [.int i,.int j]=>Q (.int (if i < j then j else i)) H
 | _=>False
theorem q_max {X : Cx} (hc : X.calm = true) : jbu X (.builtin "max") fMax:=(jp8 hc).imp fun vs H Q h=>by
 unfold fMax at h
 split at h
 ·refine ⟨_,_,rfl,?_⟩
  first | exact h | (rename_i i j; by_cases c : i < j <;> simp_all)
 ·exact h.elim
noncomputable def fInL (neg : Bool) : R2:=fun x y H Q=>match y with
 | .ref p=>match jaj H p with
  | some xs=>jcx x = true∧xs.all jcx = true∧Q (.bl (if neg = true then !inV x xs else inV x xs)) H
  | none=>False
 | _=>False
theorem jqw {K : PySem.W.Frag} {neg : Bool} {x y : V} {H : Hp} {Q : VK} (h : fInL neg x y H Q) : rIn K neg x y H Q:=by
 unfold fInL at h
 split at h
 ·split at h
  ·rename_i xs e
   obtain ⟨h1,h2,h3⟩:=h
   exact ⟨_,xs,rfl,ji7 e,h1,h2,h3⟩
  ·exact h.elim
 ·exact h.elim
theorem jr9 {X : Cx} : OpR X (compareOp .In) (fInL false):=jo6.imp fun _ _ _ _=>jqw
theorem jib {X : Cx} : OpR X (compareOp .NotIn) (fInL true):=jjp.imp fun _ _ _ _=>jqw
theorem flat_ints (ns : List Int) : (ns.map V.int).all jcx = true:=by
 rw [List.all_eq_true]
 intro v hv
 obtain ⟨n,_,e⟩:=List.mem_map.mp hv
 rw [← e]
 rfl
theorem jdo (n : Int) (ns : List Int) : inV (.int n) (ns.map V.int) = decide (n ∈ ns):=by
 rw [Bool.eq_iff_iff,inV,List.any_eq_true,decide_eq_true_iff]
 constructor
 ·rintro ⟨v,hv,e⟩
  obtain ⟨m,hm,e2⟩:=List.mem_map.mp hv
  subst e2
  have : m = n:=by simpa [eqV] using e
  rw [← this]
  exact hm
 ·intro h
  exact ⟨.int n,List.mem_map_of_mem h,by simp [eqV]⟩
end L2
namespace L2
open PySem PySem.Spec PyProof.Rows
noncomputable def rSortL : List V→Hp→VK→Prop:=fun vs H Q=>∃ (p : Addr) (ns : List Int),vs = [.ref p]∧H p = some (.lst (ns.map V.int))∧ns.length < 64 ∧
 ∀ (l : Addr) (ms : List Int),H l = none→ms.Perm ns→ms.Pairwise (· ≤ ·)→Q (.ref l) (upd H l (.lst (ms.map V.int)))
theorem jn2 {X : Cx} : jbu X (.builtin "sorted") rSortL:=by
 intro pins s σ H xs us Q I r h
 obtain ⟨p,ns,rfl,e,h64,q⟩:=h
 obtain ⟨u,rfl,rx⟩:=jfz r
 cases rx
 obtain ⟨its,r',pl,hz⟩:=I.list (SqL.of e)
 have hI:=jcq r'
 have hlen:=r'.length
 rw [List.length_map] at hlen
 refine sorted_ints pl.isList hI (by omega) fun out ms a1 a2 a3=>?_
 obtain ⟨c,hc⟩:=sortedAll_at s.heap its out
 have hml:=a2.length_eq
 have hz2:=jk0
 refine ⟨.ref (s.heap.objs.size + 1),_,I.laid (t':=s.toks) (fun _ _=>sortedAll_old) (Nat.le_succ _) (show jb2 X.prog X.w _ _ _ (.lst (ms.map V.int)) from ⟨?_,out.toList,c,jfy a1,?_⟩),rfl,q _ ms (I.hok.fresh (Nat.le_succ _)) a2 a3⟩
 ·rw [List.length_map,hml]; exact Nat.le_trans (Nat.le_of_lt h64) (by decide)
 ·rw [hc]
end L2
namespace L2
open PySem PySem.Spec PyProof.Rows
mutual
noncomputable def eqP : Dt→Dt→Bool
 | .non,.non=>true
 | .bl a,.bl b=>a == b
 | .bl a,.int b=>(if a then 1 else 0) == b
 | .int a,.bl b=>a == (if b then 1 else 0)
 | .int a,.int b=>a == b
 | .str a,.str b=>a == b
 | .tup a,.tup b=>eqPs a b
 | .lst a,.lst b=>eqPs a b
 | _,_=>false
noncomputable def eqPs : List Dt→List Dt→Bool
 | [],[]=>true
 | a :: r,b :: t=>eqP a b && eqPs r t
 | _,_=>false
end
mutual
noncomputable def depP : Dt→Nat
 | .tup a=>jck a + 1
 | .lst a=>jck a + 1
 | _=>0
noncomputable def jck : List Dt→Nat
 | []=>0
 | a :: r=>max (depP a) (jck r)
end
noncomputable def jf5 (a b : List Dt) (j : Nat) : Bool:=match a[j]?,b[j]? with
 | some x,some y=>eqP x y
 | _,_=>false
theorem jdp : ∀ {a b : List Dt},a.length ≠ b.length→eqPs a b = false
 | [],[],h=>absurd rfl h
 | [],_ :: _,_=>by simp [eqPs]
 | _ :: _,[],_=>by simp [eqPs]
 | x :: a,y :: b,h=>by
  rw [eqPs,jdp (by simpa using h),Bool.and_false]
theorem jnq : ∀ (n : Nat) (f : Nat→Bool),(List.range (n + 1)).all f = (f 0 && (List.range n).all fun j=>f (j + 1)):=fun n f=>by
 rw [List.range_succ_eq_map,List.all_cons,List.all_map]
 rfl
theorem jc8 : ∀ {a b : List Dt},a.length = b.length→eqPs a b = (List.range a.length).all (jf5 a b)
 | [],[],_=>by rw [eqPs]; rfl
 | [],_ :: _,h=>by simp at h
 | _ :: _,[],h=>by simp at h
 | x :: a,y :: b,h=>by
  rw [eqPs,jc8 (a:=a) (b:=b) (by simpa using h),List.length_cons,jnq]
  rfl
theorem jj3 : ∀ {a : List Dt} {j : Nat} {d : Dt},a[j]? = some d→depP d ≤ jck a
 | [],_,_,h=>by simp at h
 | x :: a,0,d,h=>by
  simp at h; subst h
  rw [jck]; omega
 | x :: a,j + 1,d,h=>by
  have:=jj3 (a:=a) (j:=j) (by simpa using h)
  rw [jck]; omega
noncomputable def jce : Dt→Option V
 | .non=>some .non
 | .bl b=>some (.bl b)
 | .int i=>some (.int i)
 | .str x=>some (.str x)
 | _=>none
theorem jq5 {d e : Dt} {x y : V} (hd : jce d = some x) (he : jce e = some y) : eqP d e = eqV x y:=by
 cases d <;> cases e <;> simp only [jce,Option.some.injEq,reduceCtorEq] at hd he <;> subst hd <;> subst he <;> simp [eqP,eqV]
theorem jia {H : Hp} {d : Dt} {x v : V} (hd : jce d = some x) (h : Rep H d v) : v = x∧jcx x = true:=by
 cases d <;> simp only [jce,Option.some.injEq,reduceCtorEq] at hd <;> subst hd <;> rw [Rep] at h <;> exact ⟨h,rfl⟩
section
variable {X : Cx} {pins : List (Addr × Obj)} {σ : St} {H : Hp} {s : Shared}
theorem Inv.tupE (I : Inv X pins σ H s) {a : Addr} {vs : List V} (e : H a = some (.tup vs)) : ∃ its : List Value,Vals vs its∧s.heap.IsTuple a its.toArray:=by
 obtain ⟨its,r,p,_⟩:=I.tuple (SqT.of e)
 exact ⟨its,r,p⟩
theorem Inv.lstE (I : Inv X pins σ H s) {a : Addr} {vs : List V} (e : H a = some (.lst vs)) : ∃ its : List Value,Vals vs its∧s.heap.IsList a its.toArray:=by
 obtain ⟨its,r,p,_⟩:=I.list (SqL.of e)
 exact ⟨its,r,p.isList⟩
mutual
theorem jj0 : ∀ d : Dt,eqP d d = true
 | .non=>by simp [eqP]
 | .bl _=>by simp [eqP]
 | .int _=>by simp [eqP]
 | .str _=>by simp [eqP]
 | .tup a=>by rw [eqP]; exact jgv a
 | .lst a=>by rw [eqP]; exact jgv a
theorem jgv : ∀ a : List Dt,eqPs a a = true
 | []=>by rw [eqPs]
 | d :: r=>by rw [eqPs,jj0 d,jgv r]; rfl
end
mutual
theorem Rep.inj {H : Hp} : ∀ {d e : Dt} {v : V},Rep H d v→Rep H e v→d = e
 | .non,e,v,h1,h2=>by rw [Rep] at h1; subst h1; cases e <;> simp [Rep] at h2 ⊢
 | .bl _,e,v,h1,h2=>by rw [Rep] at h1; subst h1; cases e <;> simp [Rep] at h2 ⊢; exact h2
 | .int _,e,v,h1,h2=>by rw [Rep] at h1; subst h1; cases e <;> simp [Rep] at h2 ⊢; exact h2
 | .str _,e,v,h1,h2=>by rw [Rep] at h1; subst h1; cases e <;> simp [Rep] at h2 ⊢; exact h2
 | .tup ds,e,v,h1,h2=>by
  rw [Rep] at h1
  obtain ⟨a,vs,rfl,q,r⟩:=h1
  cases e with
  | tup es =>
   rw [Rep] at h2
   obtain ⟨a',vs',e',q',r'⟩:=h2
   cases e'
   rw [q] at q'; cases q'
   rw [Reps.inj r r']
  | lst es =>
   rw [Rep] at h2
   obtain ⟨a',vs',e',q',r'⟩:=h2
   cases e'
   rw [q] at q'; cases q'
  | non=>rw [Rep] at h2; cases h2
  | bl _=>rw [Rep] at h2; cases h2
  | int _=>rw [Rep] at h2; cases h2
  | str _=>rw [Rep] at h2; cases h2
 | .lst ds,e,v,h1,h2=>by
  rw [Rep] at h1
  obtain ⟨a,vs,rfl,q,r⟩:=h1
  cases e with
  | lst es =>
   rw [Rep] at h2
   obtain ⟨a',vs',e',q',r'⟩:=h2
   cases e'
   rw [q] at q'; cases q'
   rw [Reps.inj r r']
  | tup es =>
   rw [Rep] at h2
   obtain ⟨a',vs',e',q',r'⟩:=h2
   cases e'
   rw [q] at q'; cases q'
  | non=>rw [Rep] at h2; cases h2
  | bl _=>rw [Rep] at h2; cases h2
  | int _=>rw [Rep] at h2; cases h2
  | str _=>rw [Rep] at h2; cases h2
theorem Reps.inj {H : Hp} : ∀ {ds es : List Dt} {vs : List V},Reps H ds vs→Reps H es vs→ds = es
 | [],es,vs,h1,h2=>by
  rw [Reps] at h1; subst h1
  cases es with
  | nil=>rfl
  | cons e es=>rw [Reps] at h2; obtain ⟨_,_,z,_⟩:=h2; cases z
 | d :: ds,es,vs,h1,h2=>by
  rw [Reps] at h1
  obtain ⟨v,r,rfl,q1,q2⟩:=h1
  cases es with
  | nil=>rw [Reps] at h2; cases h2
  | cons e es =>
   rw [Reps] at h2
   obtain ⟨v',r',z,p1,p2⟩:=h2
   cases z
   rw [Rep.inj q1 p1,Reps.inj q2 p2]
end
theorem jfe {d e : Dt} (hd : jce d = none) {y : V} (he : jce e = some y) : eqP d e = false∧eqP e d = false:=by
 cases d <;> cases e <;> simp only [jce,Option.some.injEq,reduceCtorEq] at hd he <;> simp [eqP]
theorem eqAt_D : ∀ (n : Nat) {A : Around} (I : Inv X pins σ H s) {d e : Dt} {x y : V} {u v : Value},depP d ≤ n→A.units + n < cLine→Rep H d x→Rep H e y→RelV x u→RelV y v→SeqAt.EqAt A s u v (eqP d e):=by
 intro n
 induction n with
 | zero =>
  intro A I d e x y u v hn hu rd re rx ry
  have hf : ∃ z,jce d = some z:=by
   cases d <;> simp only [depP,jce] at hn ⊢ <;> first | exact ⟨_,rfl⟩ | omega
  obtain ⟨z,hz⟩:=hf
  obtain ⟨rfl,fz⟩:=jia hz rd
  cases he : jce e with
  | some y' =>
   obtain ⟨rfl,fy⟩:=jia he re
   rw [jq5 hz he]
   exact jqy rx ry fz fy
  | none =>
   rw [(jfe he hz).2]
   have hu0 : A.units < cLine:=by omega
   cases e <;> simp only [jce,reduceCtorEq] at he
   ·rw [Rep] at re
    obtain ⟨a,vs,rfl,q,_⟩:=re
    cases ry
    obtain ⟨its,_,p⟩:=I.tupE q
    cases d <;> simp only [jce,Option.some.injEq,reduceCtorEq] at hz <;> subst hz
    ·cases rx; exact SeqAt.EqAt.none_tuple p hu0
    ·cases rx; exact SeqAt.EqAt.bool_tuple _ p hu0
    ·obtain ⟨t,rfl⟩:=rx; exact SeqAt.EqAt.int_tuple _ _ p hu0
    ·obtain ⟨t,rfl⟩:=rx; exact SeqAt.EqAt.str_tuple _ _ p hu0
   ·rw [Rep] at re
    obtain ⟨a,vs,rfl,q,_⟩:=re
    cases ry
    obtain ⟨its,_,p⟩:=I.lstE q
    cases d <;> simp only [jce,Option.some.injEq,reduceCtorEq] at hz <;> subst hz
    ·cases rx; exact SeqAt.EqAt.none_list p hu0
    ·cases rx; exact SeqAt.EqAt.bool_list _ p hu0
    ·obtain ⟨t,rfl⟩:=rx; exact SeqAt.EqAt.int_list _ _ p hu0
    ·obtain ⟨t,rfl⟩:=rx; exact SeqAt.EqAt.str_list _ _ p hu0
 | succ n ih =>
  intro A I d e x y u v hn hu rd re rx ry
  have hu0 : A.units < cLine:=by omega
  have items : ∀ {ds es : List Dt} {vs ws : List V} {its its2 : List Value},jck ds ≤ n→Reps H ds vs→Reps H es ws→Vals vs its→Vals ws its2 →
    ∀ j (h1 : j < its.toArray.size) (h2 : j < its2.toArray.size),SeqAt.EqAt A.in1 s its.toArray[j] its2.toArray[j] (jf5 ds es j):=by
   intro ds es vs ws its its2 hdp r1 r2 w1 w2 j h1 h2
   rw [List.size_toArray] at h1 h2
   have l1:=w1.length
   have l2:=w2.length
   obtain ⟨u',e1,q1⟩:=w1.get (i:=j) (x:=vs[j]'(by omega)) (List.getElem?_eq_getElem _)
   obtain ⟨v',e2,q2⟩:=w2.get (i:=j) (x:=ws[j]'(by omega)) (List.getElem?_eq_getElem _)
   obtain ⟨d',f1,g1⟩:=r1.at (i:=j) (List.getElem?_eq_getElem (by omega))
   obtain ⟨e',f2,g2⟩:=r2.at (i:=j) (List.getElem?_eq_getElem (by omega))
   rw [List.getElem?_eq_getElem h1] at e1
   rw [List.getElem?_eq_getElem h2] at e2
   cases e1; cases e2
   have hj : jf5 ds es j = eqP d' e':=by unfold jf5; rw [f1,f2]
   rw [hj]
   have:=jj3 f1
   exact ih (A:=A.in1) I (by omega) (by show A.units + 1 + n < cLine; omega) g1 g2 q1 q2
  cases hf : jce d with
  | some z =>
   refine ih I ?_ (by omega) rd re rx ry
   cases d <;> simp only [jce,reduceCtorEq] at hf <;> simp [depP]
  | none =>
   cases he : jce e with
   | some y' =>
    rw [(jfe hf he).1]
    obtain ⟨rfl,fy⟩:=jia he re
    cases d <;> simp only [jce,reduceCtorEq] at hf
    ·rw [Rep] at rd
     obtain ⟨a,vs,rfl,q,_⟩:=rd
     cases rx
     obtain ⟨its,_,p⟩:=I.tupE q
     cases e <;> simp only [jce,Option.some.injEq,reduceCtorEq] at he <;> subst he
     ·cases ry; exact SeqAt.EqAt.tuple_none p hu0
     ·cases ry; exact SeqAt.EqAt.tuple_bool _ p hu0
     ·obtain ⟨t,rfl⟩:=ry; exact SeqAt.EqAt.tuple_int _ _ p hu0
     ·obtain ⟨t,rfl⟩:=ry; exact SeqAt.EqAt.tuple_str _ _ p hu0
    ·rw [Rep] at rd
     obtain ⟨a,vs,rfl,q,_⟩:=rd
     cases rx
     obtain ⟨its,_,p⟩:=I.lstE q
     cases e <;> simp only [jce,Option.some.injEq,reduceCtorEq] at he <;> subst he
     ·cases ry; exact SeqAt.EqAt.list_none p hu0
     ·cases ry; exact SeqAt.EqAt.list_bool _ p hu0
     ·obtain ⟨t,rfl⟩:=ry; exact SeqAt.EqAt.list_int _ _ p hu0
     ·obtain ⟨t,rfl⟩:=ry; exact SeqAt.EqAt.list_str _ _ p hu0
   | none =>
    cases d <;> simp only [jce,reduceCtorEq] at hf <;> cases e <;> simp only [jce,reduceCtorEq] at he
    ·rename_i ds es
     have hn' : jck ds ≤ n:=by rw [depP] at hn; omega
     have rd0:=rd
     have re0:=re
     rw [Rep] at rd
     rw [Rep] at re
     obtain ⟨a,vs,rfl,q,r1⟩:=rd
     obtain ⟨b,ws,rfl,q2,r2⟩:=re
     cases rx; cases ry
     by_cases hab : a = b
     ·subst hab
      rw [Rep.inj rd0 re0,jj0]
      exact SeqAt.EqAt.same _
     ·obtain ⟨its,w1,p1⟩:=I.tupE q
      obtain ⟨its2,w2,p2⟩:=I.tupE q2
      have k:=SeqAt.RcAt.tuples p1 p2 hu0 (items hn' r1 r2 w1 w2)
      have e0 : ((List.range (min its.toArray.size its2.toArray.size)).all (jf5 ds es) && its.toArray.size == its2.toArray.size) = eqP (.tup ds) (.tup es):=by
       have l1:=w1.length
       have l2:=w2.length
       have l3:=r1.len
       have l4:=r2.len
       rw [eqP,List.size_toArray,List.size_toArray]
       by_cases hl : ds.length = es.length
       ·rw [jc8 hl,← l1,← l2,l3,l4,hl,Nat.min_self]
        simp
       ·rw [jdp hl]
        have : (its.length == its2.length) = false:=by
         rw [beq_eq_false_iff_ne]; omega
        rw [this,Bool.and_false]
      rw [e0] at k
      exact .of_refs hab k
    ·rename_i ds es
     rw [Rep] at rd
     rw [Rep] at re
     obtain ⟨a,vs,rfl,q,r1⟩:=rd
     obtain ⟨b,ws,rfl,q2,r2⟩:=re
     cases rx; cases ry
     obtain ⟨its,w1,p1⟩:=I.tupE q
     obtain ⟨its2,w2,p2⟩:=I.lstE q2
     have : eqP (.tup ds) (.lst es) = false:=by simp [eqP]
     rw [this]
     exact SeqAt.EqAt.tuple_list p1 p2 hu0
    ·rename_i ds es
     rw [Rep] at rd
     rw [Rep] at re
     obtain ⟨a,vs,rfl,q,r1⟩:=rd
     obtain ⟨b,ws,rfl,q2,r2⟩:=re
     cases rx; cases ry
     obtain ⟨its,w1,p1⟩:=I.lstE q
     obtain ⟨its2,w2,p2⟩:=I.tupE q2
     have : eqP (.lst ds) (.tup es) = false:=by simp [eqP]
     rw [this]
     exact SeqAt.EqAt.list_tuple p1 p2 hu0
    ·rename_i ds es
     have hn' : jck ds ≤ n:=by rw [depP] at hn; omega
     have rd0:=rd
     have re0:=re
     rw [Rep] at rd
     rw [Rep] at re
     obtain ⟨a,vs,rfl,q,r1⟩:=rd
     obtain ⟨b,ws,rfl,q2,r2⟩:=re
     cases rx; cases ry
     by_cases hab : a = b
     ·subst hab
      rw [Rep.inj rd0 re0,jj0]
      exact SeqAt.EqAt.same _
     ·obtain ⟨its,w1,p1⟩:=I.lstE q
      obtain ⟨its2,w2,p2⟩:=I.lstE q2
      have l1:=w1.length
      have l2:=w2.length
      have l3:=r1.len
      have l4:=r2.len
      refine .of_refs hab ?_
      rw [eqP]
      by_cases hl : ds.length = es.length
      ·rw [jc8 hl]
       have k:=SeqAt.RcAt.lists p1 p2 (by rw [List.size_toArray,List.size_toArray]; omega) hu0 (items hn' r1 r2 w1 w2)
       rw [List.size_toArray,← l1,l3] at k
       exact k
      ·rw [jdp hl]
       exact SeqAt.RcAt.lists_lengths p1 p2 (by rw [List.size_toArray,List.size_toArray]; simp; omega) hu0
end
end L2
namespace L2
open PySem PySem.Spec PyProof.Rows
section
variable {prog : Program} {w : World} {A : Around} {R : Result→Shared→Prop} {I : Addr} {fp wr : List Addr} {n : Nat} {P : Nat→Value→Prop} {St : Nat→Heap→Prop}
noncomputable def Best (val : Nat→Int) (n : Nat) (m : Int) : Prop:=(∃ i,i < n∧m = val i)∧∀ i,i < n→val i ≤ m
theorem Best.keep {val : Nat→Int} {j : Nat} {m : Int} (h : Best val j m) (hb : ¬ val j > m) : Best val (j + 1) m :=
 ⟨let ⟨i,hi,e⟩:=h.1; ⟨i,Nat.lt_succ_of_lt hi,e⟩,fun i hi=>by
  rcases Nat.lt_succ_iff_lt_or_eq.mp hi with z | z
  ·exact h.2 i z
  ·rw [z]; omega⟩
end
section
variable {X : Cx}
noncomputable def tCBK (r : List V→List V→Hp→VK→Prop) (t tk : TA) : TE:=fun σ H Q=>t σ H fun vs H1=>tk σ H1 fun zs H2=>r vs zs H2 Q
theorem jo5 {x k : Str} {p kp pos : Pos} {e g : Expr} {t tk : TA} {id : String} {r : List V→List V→Hp→VK→Prop}
  (hcall : ∀ (pins : List (Addr × Obj)) (s : Shared) (σ : St) (H : Hp) (xs zs : List V) (us ws : List Value) (Q : VK),Inv X pins σ H s→Vals xs us→Vals zs ws→r xs zs H Q →
   wpAny (model X.prog X.w) X.A (call (.builtin id) us ([k].zip ws)) (EP X pins σ Q) X.xe s)
  (hg : Gl X x) (hm : X.mg x = none) (hv : bootBuiltins x = some (.builtin id)) (ha : PA X [e] t) (hk : PK X [⟨some k,g,kp⟩] tk) (hn : x ≠ "__name__":=by decide) (hdb : (x == ("__debug__" : Str)) = false:=by decide)
  (he : backTo pos (starEach [e] X.env) = (false,eval e X.env) :: backTo pos (starEach [] X.env):=by rfl) (hpl : (backTo pos (starEach [e] X.env)).any (·.1) = false:=by rfl) : PE X (.Call (.Name x p) [e] [⟨some k,g,kp⟩] pos) (tCBK r t tk):=by
 intro pins s σ H Q I h
 refine wpAny_Call_Name_kw (jfc I hg hm hv ?_ hn hdb)
 refine callWith_kw (thn (ha pos pins s σ H _ I h) fun us s1 ⟨vs,H1,I1,r1,q1⟩=>thn (hk pos pins s1 σ H1 _ I1 q1) fun ws s2 ⟨zs,H2,I2,r2,q2⟩=>?_) he hpl
 exact hcall pins s2 σ H2 vs zs us ws Q I2 r1 r2 q2
end
end L2
namespace L2
open PySem PySem.Spec PyProof.Rows
section
variable {X : Cx} {pins : List (Addr × Obj)} {σ : St} {H : Hp} {s : Shared}
theorem jis (n : Nat) {A : Around} (I : Inv X pins σ H s) {ds es : List Dt} {vs ws : List V} {its its2 : List Value} (hdp : jck ds ≤ n) (hu : A.units + n < cLine) (r1 : Reps H ds vs) (r2 : Reps H es ws) (w1 : Vals vs its) (w2 : Vals ws its2) :
  ∀ j (h1 : j < its.toArray.size) (h2 : j < its2.toArray.size),SeqAt.EqAt A s its.toArray[j] its2.toArray[j] (jf5 ds es j):=by
 intro j h1 h2
 rw [List.size_toArray] at h1 h2
 have l1:=w1.length
 have l2:=w2.length
 obtain ⟨u',e1,q1⟩:=w1.get (i:=j) (x:=vs[j]'(by omega)) (List.getElem?_eq_getElem _)
 obtain ⟨v',e2,q2⟩:=w2.get (i:=j) (x:=ws[j]'(by omega)) (List.getElem?_eq_getElem _)
 obtain ⟨d',f1,g1⟩:=r1.at (i:=j) (List.getElem?_eq_getElem (by omega))
 obtain ⟨e',f2,g2⟩:=r2.at (i:=j) (List.getElem?_eq_getElem (by omega))
 rw [List.getElem?_eq_getElem h1] at e1
 rw [List.getElem?_eq_getElem h2] at e2
 cases e1; cases e2
 have hj : jf5 ds es j = eqP d' e':=by unfold jf5; rw [f1,f2]
 rw [hj]
 have:=jj3 f1
 exact eqAt_D n I (by omega) hu g1 g2 q1 q2
theorem jhd {ds es : List Dt} {vs ws : List V} {its its2 : List Value} (r1 : Reps H ds vs) (r2 : Reps H es ws) (w1 : Vals vs its) (w2 : Vals ws its2) :
  ((List.range (min its.toArray.size its2.toArray.size)).all (jf5 ds es) && its.toArray.size == its2.toArray.size) = eqPs ds es:=by
 have l1:=w1.length
 have l2:=w2.length
 have l3:=r1.len
 have l4:=r2.len
 rw [List.size_toArray,List.size_toArray]
 by_cases hl : ds.length = es.length
 ·rw [jc8 hl,← l1,← l2,l3,l4,hl,Nat.min_self]
  simp
 ·rw [jdp hl]
  have : (its.length == its2.length) = false:=by
   rw [beq_eq_false_iff_ne]; omega
  rw [this,Bool.and_false]
noncomputable def rEqD (neg : Bool) : R2:=fun x y H Q=>∃ d e,Rep H d x∧Rep H e y∧depP d ≤ 20∧((∃ ds es,d = .lst ds∧e = .lst es) ∨ ∃ ds es,d = .tup ds∧e = .tup es)∧Q (.bl (if neg = true then !eqP d e else eqP d e)) H
theorem jo7 (hu : X.A.units + 64 < cLine) : OpR X (compareOp .Eq) (rEqD false):=by
 intro pins s σ H x y v u Q I rx ry h
 obtain ⟨d,e,rd,re,hd,hk,q⟩:=h
 have hu0 : X.A.units < cLine:=by omega
 rcases hk with ⟨ds,es,rfl,rfl⟩ | ⟨ds,es,rfl,rfl⟩
 ·have hn' : jck ds ≤ 20:=by rw [depP] at hd; omega
  rw [Rep] at rd re
  obtain ⟨a,vs,rfl,q1,r1⟩:=rd
  obtain ⟨b,ws,rfl,q2,r2⟩:=re
  cases rx; cases ry
  obtain ⟨its,w1,p1⟩:=I.lstE q1
  obtain ⟨its2,w2,p2⟩:=I.lstE q2
  have l1:=w1.length
  have l2:=w2.length
  have l3:=r1.len
  have l4:=r2.len
  by_cases hl : ds.length = es.length
  ·refine SeqAt.RcAt.lists (e:=jf5 ds es) p1 p2 (by rw [List.size_toArray,List.size_toArray]; omega) hu0 (jis 20 I hn' (by show X.A.units + 1 + 20 < cLine; omega) r1 r2 w1 w2) _ _ _ _ ⟨.bl _,H,I,rfl,?_⟩
   rw [List.size_toArray,← l1,l3,← jc8 hl]
   rw [eqP] at q
   exact q
  ·refine SeqAt.RcAt.lists_lengths p1 p2 (by rw [List.size_toArray,List.size_toArray]; simp; omega) hu0 _ _ _ _ ⟨.bl _,H,I,rfl,?_⟩
   rw [eqP,jdp hl] at q
   exact q
 ·have hn' : jck ds ≤ 20:=by rw [depP] at hd; omega
  rw [Rep] at rd re
  obtain ⟨a,vs,rfl,q1,r1⟩:=rd
  obtain ⟨b,ws,rfl,q2,r2⟩:=re
  cases rx; cases ry
  obtain ⟨its,w1,p1⟩:=I.tupE q1
  obtain ⟨its2,w2,p2⟩:=I.tupE q2
  refine SeqAt.RcAt.tuples (e:=jf5 ds es) p1 p2 hu0 (jis 20 I hn' (by show X.A.units + 1 + 20 < cLine; omega) r1 r2 w1 w2) _ _ _ _ ⟨.bl _,H,I,rfl,?_⟩
  rw [jhd r1 r2 w1 w2]
  rw [eqP] at q
  exact q
theorem jjq (hu : X.A.units + 64 < cLine) : OpR X (compareOp .NotEq) (rEqD true):=by
 intro pins s σ H x y v u Q I rx ry h
 obtain ⟨d,e,rd,re,hd,hk,q⟩:=h
 have hu0 : X.A.units < cLine:=by omega
 rcases hk with ⟨ds,es,rfl,rfl⟩ | ⟨ds,es,rfl,rfl⟩
 ·have hn' : jck ds ≤ 20:=by rw [depP] at hd; omega
  rw [Rep] at rd re
  obtain ⟨a,vs,rfl,q1,r1⟩:=rd
  obtain ⟨b,ws,rfl,q2,r2⟩:=re
  cases rx; cases ry
  obtain ⟨its,w1,p1⟩:=I.lstE q1
  obtain ⟨its2,w2,p2⟩:=I.lstE q2
  have l1:=w1.length
  have l2:=w2.length
  have l3:=r1.len
  have l4:=r2.len
  by_cases hl : ds.length = es.length
  ·refine SeqAt.RcNeAt.lists (e:=jf5 ds es) p1 p2 (by rw [List.size_toArray,List.size_toArray]; omega) hu0 (jis 20 I hn' (by show X.A.units + 1 + 20 < cLine; omega) r1 r2 w1 w2) _ _ _ _ ⟨.bl _,H,I,rfl,?_⟩
   rw [List.size_toArray,← l1,l3,← jc8 hl]
   rw [eqP] at q
   exact q
  ·refine SeqAt.RcNeAt.lists_lengths p1 p2 (by rw [List.size_toArray,List.size_toArray]; simp; omega) hu0 _ _ _ _ ⟨.bl _,H,I,rfl,?_⟩
   rw [eqP,jdp hl] at q
   exact q
 ·have hn' : jck ds ≤ 20:=by rw [depP] at hd; omega
  rw [Rep] at rd re
  obtain ⟨a,vs,rfl,q1,r1⟩:=rd
  obtain ⟨b,ws,rfl,q2,r2⟩:=re
  cases rx; cases ry
  obtain ⟨its,w1,p1⟩:=I.tupE q1
  obtain ⟨its2,w2,p2⟩:=I.tupE q2
  refine SeqAt.RcNeAt.tuples (e:=jf5 ds es) p1 p2 hu0 (jis 20 I hn' (by show X.A.units + 1 + 20 < cLine; omega) r1 r2 w1 w2) _ _ _ _ ⟨.bl _,H,I,rfl,?_⟩
  rw [jhd r1 r2 w1 w2]
  rw [eqP] at q
  exact q
end
end L2
namespace L2
open PySem PySem.Spec PyProof.Rows
section
variable {X : Cx} {o i e f value : Expr} {td ty tv tx : TE} {pos pos' apos cpos : Pos}
noncomputable def jeb (td ty tv : TE) : TS:=fun D σ H=>tv σ H fun v H1=>td σ H1 fun x H2=>ty σ H2 fun y H3=>match x,y with
 | .ref a,.int n=>match H3 a with
  | some (.dK kvs)=>kvs.length < sizeLine∧D.nx σ (upd H3 a (.dK (putK kvs (Sum.inl n : Key) v)))
  | _=>False
 | _,_=>False
theorem dput_r {x y : V} {H3 : Hp} {R : List (Key × V)→Addr→Int→Prop} (h : match x,y with
 | .ref a,.int n=>match H3 a with
  | some (.dK kvs)=>R kvs a n
  | _=>False
 | _,_=>False) : ∃ a n kvs,x = .ref a∧y = .int n∧H3 a = some (.dK kvs)∧R kvs a n:=by
 split at h
 ·split at h
  ·rename_i e; exact ⟨_,_,_,rfl,rfl,e,h⟩
  ·exact h.elim
 ·exact h.elim
theorem jrx {y : V} {a : Addr} {H3 : Hp} {R : List (Key × V)→Int→Prop} (h : match y with
 | .int n=>match H3 a with
  | some (.dK kvs)=>R kvs n
  | _=>False
 | _=>False) : ∃ n kvs,y = .int n∧H3 a = some (.dK kvs)∧R kvs n:=by
 split at h
 ·split at h
  ·rename_i e; exact ⟨_,_,rfl,e,h⟩
  ·exact h.elim
 ·exact h.elim
theorem jnt (hu : X.A.units + 1 < cLine) (ho : PE X o td) (hi : PE X i ty) (hv : PE X value tv) (hs : swapsWith value (some (.Subscript o i pos')) pos.line X.env = pure false:=by rfl) :
  PS X (.Assign [.Subscript o i pos'] value pos) (jeb td ty tv):=by
 intro pins s σ H D I h
 refine wpAny_Assign_Subscript (thn (hv pins s σ H _ I h) fun r s1 ⟨v,H1,I1,rv,q1⟩=>thn (ho pins s1 σ H1 _ I1 q1) fun u s2 ⟨x,H2,I2,rx,q2⟩=>thn (hi pins s2 σ H2 _ I2 q2) fun iv s3 ⟨y,H3,I3,ry,q3⟩=>?_) hs
 obtain ⟨a,n,kvs,rfl,rfl,ea,q4,q5⟩:=dput_r (R:=fun kvs a n=>kvs.length < sizeLine∧D.nx σ (upd H3 a (.dK (putK kvs (Sum.inl n : Key) v)))) q3
 obtain rfl : u = Value.ref a:=rx
 exact jp4 hu I3 (DPut.k (k:=Sum.inl n) ea q4) ry rv fun s4 I4=>⟨σ,_,I4,q5⟩
noncomputable def jen (td ty tx : TE) : TE:=fun σ H Q=>td σ H fun x H1=>match x with
 | .ref a=>(∃ kvs,H1 a = some (.dK kvs))∧ty σ H1 fun y H2=>tx σ H2 fun z H3=>match y with
  | .int n=>match H3 a with
   | some (.dK kvs)=>Q ((valV kvs (Sum.inl n : Key)).getD z) H3
   | _=>False
  | _=>False
 | _=>False
theorem jic (hu : X.A.units + 1 < cLine) (ho : PE X o td) (he : PE X e ty) (hf : PE X f tx) (m : M2 X o "get" apos e f cpos:=by exact ⟨rfl,rfl,rfl,rfl⟩) : PE X (.Call (.Attribute o "get" apos) [e,f] [] cpos) (jen td ty tx):=by
  intro pins s σ H Q I h
  refine wpAny_Call_method m.base m.few m.line PySem.F.plainAttrs_dict PySem.F.slot_dict_get PySem.F.type_dict_get (thn (ho pins s σ H _ I h) fun u s1 ⟨x,H1,I1,rx,q1⟩=>?_)
  cases x <;> first
    | exact False.elim q1
    | (rename_i a
       dsimp only at q1
       obtain ⟨⟨kvs0,e0⟩,q1⟩:=q1
       obtain rfl : u = Value.ref a:=rx
       obtain ⟨t1,t2,_⟩:=isD_at I1 (.inl ⟨kvs0,.inl e0⟩)
       refine ⟨t1,t2,?_⟩
       rw [m.trees]
       refine Calls.callWith_builtin rfl (Calls.evalArgs_plain (Calls.spliced_cons (thn (he pins s1 σ H1 _ I1 q1) fun iv s2 ⟨y,H2,I2,ry,q2⟩ =>
         Calls.spliced_cons (thn (hf pins s2 σ H2 _ I2 q2) fun fv s3 ⟨z,H3,I3,rz,q3⟩=>Calls.spliced_nil ?_))))
       obtain ⟨n,kvs,rfl,ea,q4⟩:=jrx (R:=fun kvs n=>Q ((valV kvs (Sum.inl n : Key)).getD z) H3) q3
       exact d_get2 hu I3 (DGet.k (k:=Sum.inl n) ea) ry rz fun w' s4 I4 rw'=>⟨_,H3,I4,rw',q4⟩)
noncomputable def fCat : R2:=fun x y H Q=>match x,y with
 | .ref l,.ref b=>match H l,H b with
  | some (.lst xs),some (.lst zs)=>xs.length + zs.length ≤ sizeLine∧∀ p,H p = none→Q (.ref p) (upd H p (.lst (xs ++ zs)))
  | _,_=>False
 | _,_=>False
theorem jev : OpR X (binaryOp .Add) fCat:=op_cat.imp fun x y H Q h=>by
 unfold fCat at h
 split at h
 ·split at h
  ·rename_i e1 e2; exact ⟨_,_,_,_,rfl,rfl,e1,e2,h.1,h.2⟩
  ·exact h.elim
 ·exact h.elim
noncomputable def jfd : V→List V→Hp→VK→Prop:=fun x vs H Q=>match x,vs with
 | .ref l,[]=>match H l with
  | some (.lst _)=>Q .non (upd H l (.lst []))
  | _=>False
 | _,_=>False
noncomputable def fBM0 (r : V→List V→Hp→VK→Prop) (to : TE) : TE:=fun σ H Q=>to σ H fun x H1=>(∃ a xs,x = .ref a∧H1 a = some (.lst xs))∧r x [] H1 Q
noncomputable def fSlT : V→Option Int→Option Int→Hp→VK→Prop:=fun x lo hi H Q=>match x with
 | .ref a=>match H a with
  | some (.tup xs)=>¬ (HT.sIx xs.length 0 lo = 0∧HT.sIx xs.length xs.length hi = xs.length)∧∀ p,H p = none→Q (.ref p) (upd H p (.tup (cutV xs lo hi)))
  | _=>False
 | _=>False
noncomputable def jh9 : List V→Hp→VK→Prop:=fun vs H Q=>match vs with
 | [.bl k]=>Q (.int (if k = true then 1 else 0)) H
 | [.int i]=>Q (.int i) H
 | _=>False
theorem jqt : jbu X (.type "int") jh9:=jp9.imp fun vs H Q h=>by
 unfold jh9 at h
 split at h
 ·exact .inr ⟨_,rfl,h⟩
 ·exact .inl ⟨_,rfl,h⟩
 ·exact h.elim
end
end L2
namespace L2
open PySem PySem.Spec PyProof.Rows
section
variable {prog : Program} {w : World} {A : Around} {E : Value→Shared→Prop}
end
section
variable {X : Cx} {es : List Expr} {pos : Pos}
noncomputable def jk4 (n : Nat) (t : TGs) : TG:=fun v σ H Q=>match v with
 | .ref a=>match H a with
  | some (.lst xs)=>xs.length = n∧t xs σ H Q
  | _=>False
 | _=>False
end
end L2
namespace So
open PySem PyProof.Rows
noncomputable def kv (R : Keyed→Int) (xs : Array Keyed) (i : Nat) : Int:=(xs[i]?.map R).getD 0
theorem kv_at {R : Keyed→Int} {xs : Array Keyed} {i : Nat} {x : Keyed} (h : xs[i]? = some x) : kv R xs i = R x:=by unfold kv; rw [h]; rfl
noncomputable def Up (R : Keyed→Int) (xs : Array Keyed) (a b : Nat) : Prop:=∀ i j,a ≤ i→i ≤ j→j < b→kv R xs i ≤ kv R xs j
theorem Up.one {R : Keyed→Int} {xs : Array Keyed} {a b : Nat} (h : b ≤ a + 1) : Up R xs a b:=fun i j h1 h2 h3=>by
 have e : i = j:=by omega
 rw [e]; exact Int.le_refl _
structure Bs (κ : SortKind) (a₀ : Array Keyed) (pd : Array (Nat × Nat × Nat)) (st : SortSt) : Prop where
 perm : (arrOf st).Perm a₀
 kind : kindOf st = κ
 ok : failedOf st = none
 pend : pendingOf st = pd
section
variable {prog : Program} {w : World} {A : Around} {E : Value→Shared→Prop} {s : Shared} {R : Keyed→Int} {κ : SortKind} {a₀ : Array Keyed} {pd : Array (Nat × Nat × Nat)}
theorem Bs.size {st : SortSt} (b : Bs κ a₀ pd st) : (arrOf st).size = a₀.size:=b.perm.size_eq
end
end So
namespace So
open PySem PyProof.Rows
section
variable {prog : Program} {w : World} {A : Around} {E : Value→Shared→Prop} {s : Shared} {R : Keyed→Int} {κ : SortKind} {a₀ : Array Keyed} {pd : Array (Nat × Nat × Nat)}
end
end So
namespace So
open PySem PyProof.Rows
noncomputable def Le (R : Keyed→Int) : Keyed→Keyed→Prop:=fun x y=>R x ≤ R y
noncomputable def MS (R : Keyed→Int) (o la lb tot : List Keyed) : Prop:=(o ++ la).Pairwise (Le R)∧(o ++ lb).Pairwise (Le R)∧(o ++ (la ++ lb)).Perm tot
noncomputable def Fi (R : Keyed→Int) (l tot : List Keyed) : Prop:=l.Pairwise (Le R)∧l.Perm tot
section
variable {R : Keyed→Int} {o la lb tot xs : List Keyed}
theorem MS.a (h : MS R o (xs ++ la) lb tot) (hx : ∀ x ∈ xs,∀ y ∈ lb,R x ≤ R y) : MS R (o ++ xs) la lb tot:=by
 obtain ⟨h1,h2,h3⟩:=h
 refine ⟨by rw [List.append_assoc]; exact h1,?_,by rw [List.append_assoc,← List.append_assoc xs]; exact h3⟩
 rw [List.append_assoc,List.pairwise_append]
 rw [List.pairwise_append] at h1 h2
 obtain ⟨o1,o2,o3⟩:=h1
 obtain ⟨p1,p2,p3⟩:=h2
 rw [List.pairwise_append] at o2
 refine ⟨o1,List.pairwise_append.mpr ⟨o2.1,p2,hx⟩,fun x m y n=>?_⟩
 rcases List.mem_append.mp n with n | n
 ·exact o3 x m y (List.mem_append_left _ n)
 ·exact p3 x m y n
theorem MS.b (h : MS R o la (xs ++ lb) tot) (hx : ∀ x ∈ xs,∀ y ∈ la,R x ≤ R y) : MS R (o ++ xs) la lb tot:=by
 have z : MS R o (xs ++ lb) la tot:=⟨h.2.1,h.1,(List.Perm.append_left _ List.perm_append_comm).trans h.2.2⟩
 have q:=z.a hx
 exact ⟨q.2.1,q.1,(List.Perm.append_left _ List.perm_append_comm).trans q.2.2⟩
end
section
variable {a : Array Keyed} {R : Keyed→Int} {i k : Nat}
theorem Up.le (u : Up R a 0 a.size) {j : Nat} {x y : Keyed} (hx : a[i]? = some x) (hy : a[j]? = some y) (h : i ≤ j) : R x ≤ R y:=by
 have z:=u i j (Nat.zero_le _) h (Array.getElem?_eq_some_iff.mp hy).1
 rwa [kv_at hx,kv_at hy] at z
end
section
variable {M : Model} {A : Around} {E : Value→Shared→Prop} {s : Shared} {σ α : Type}
end
section
variable {R : Keyed→Int} {a b out : Array Keyed} {ia ib k : Nat} {tot : List Keyed}
end
section
variable {prog : Program} {w : World} {A : Around} {E : Value→Shared→Prop} {s : Shared} {R : Keyed→Int} {κ : SortKind} {a₀ : Array Keyed} {pd : Array (Nat × Nat × Nat)}
end
end So
namespace So
open PySem PyProof.Rows
noncomputable def MH (R : Keyed→Int) (la lb o tot : List Keyed) : Prop:=(la ++ o).Pairwise (Le R)∧(lb ++ o).Pairwise (Le R)∧(la ++ (lb ++ o)).Perm tot
section
variable {R : Keyed→Int} {o la lb tot xs : List Keyed}
theorem MH.a (h : MH R (la ++ xs) lb o tot) (hx : ∀ x ∈ xs,∀ y ∈ lb,R y ≤ R x) : MH R la lb (xs ++ o) tot:=by
 obtain ⟨h1,h2,h3⟩:=h
 refine ⟨by rw [← List.append_assoc]; exact h1,?_,?_⟩
 ·rw [List.append_assoc,List.pairwise_append] at h1
  rw [List.pairwise_append] at h2 ⊢
  refine ⟨h2.1,h1.2.1,fun y hy x hx2=>?_⟩
  rcases List.mem_append.mp hx2 with n | n
  ·exact hx x n y hy
  ·exact h2.2.2 y hy x n
 ·refine List.Perm.trans ?_ h3
  rw [List.append_assoc]
  refine List.Perm.append_left _ ?_
  rw [← List.append_assoc,← List.append_assoc]
  exact List.Perm.append_right _ List.perm_append_comm
theorem MH.swap (h : MH R la lb o tot) : MH R lb la o tot:=by
 refine ⟨h.2.1,h.1,List.Perm.trans ?_ h.2.2⟩
 rw [← List.append_assoc,← List.append_assoc]
 exact List.Perm.append_right _ List.perm_append_comm
theorem MH.b (h : MH R la (lb ++ xs) o tot) (hx : ∀ x ∈ xs,∀ y ∈ la,R y ≤ R x) : MH R la lb (xs ++ o) tot:=(h.swap.a hx).swap
theorem MH.first (h : MH R la lb o tot) (hx : ∀ y ∈ lb,∀ x ∈ la,R y ≤ R x) : Fi R (lb ++ la ++ o) tot:=by
 obtain ⟨h1,h2,h3⟩:=h.swap
 refine ⟨?_,by rw [List.append_assoc]; exact h3⟩
 rw [List.append_assoc]
 rw [List.pairwise_append] at h1 h2 ⊢
 refine ⟨h1.1,List.pairwise_append.mpr h2,fun y hy x hx2=>?_⟩
 rcases List.mem_append.mp hx2 with n | n
 ·exact hx y hy x n
 ·exact h1.2.2 y hy x n
end
section
variable {a : Array Keyed} {R : Keyed→Int} {i k n : Nat}
end
section
variable {R : Keyed→Int} {a b out : Array Keyed} {na nb k : Nat} {tot : List Keyed}
end
section
variable {prog : Program} {w : World} {A : Around} {E : Value→Shared→Prop} {s : Shared} {R : Keyed→Int} {κ : SortKind} {a₀ : Array Keyed} {pd : Array (Nat × Nat × Nat)}
end
end So
namespace So
open PySem PyProof.Rows
section
variable {prog : Program} {w : World} {A : Around} {E : Value→Shared→Prop} {s : Shared} {R : Keyed→Int} {κ : SortKind} {a₀ : Array Keyed} {pd : Array (Nat × Nat × Nat)}
end
end So
namespace So
open PySem PyProof.Rows
noncomputable def two (pd : Array (Nat × Nat × Nat)) : List (Nat × Nat):=pd.toList.map fun t=>(t.1,t.2.1)
noncomputable def Ch (R : Keyed→Int) (xs : Array Keyed) : Nat→List (Nat × Nat)→Nat→Prop
 | p,[],q=>p = q
 | p,(s,n) :: r,q=>s = p∧1 ≤ n∧Up R xs s (s + n)∧Ch R xs (s + n) r q
section
variable {R : Keyed→Int} {xs ys : Array Keyed}
theorem Ch.le : ∀ {l : List (Nat × Nat)} {p q : Nat},Ch R xs p l q→p + l.length ≤ q
 | [],p,q,h=>by rw [show p = q from h]; exact Nat.le_refl _
 | (s,n) :: l,p,q,⟨a,b,c,d⟩=>by
  have z:=Ch.le d
  rw [List.length_cons]; omega
end
section
variable {prog : Program} {w : World} {A : Around} {E : Value→Shared→Prop} {s : Shared} {R : Keyed→Int} {κ : SortKind} {a₀ : Array Keyed} {pd : Array (Nat × Nat × Nat)}
end
end So
namespace So
open PySem PyProof.Rows
section
variable {prog : Program} {w : World} {A : Around} {E : Value→Shared→Prop} {s : Shared}
theorem Up.all {R : Keyed→Int} {xs : Array Keyed} (u : Up R xs 0 xs.size) : xs.toList.Pairwise (Le R):=by
 rw [List.pairwise_iff_getElem]
 intro i j hi hj hij
 rw [Array.length_toList] at hi hj
 exact u.le (getElem?_pos xs i hi) (getElem?_pos xs j hj) (Nat.le_of_lt hij)
noncomputable def PairAt (h : Heap) (v : Value) (x y : Int) : Prop:=∃ a o t u n,v = .ref a∧h.get? a = some o∧o.cls = .type "tuple"∧o.data = .seq #[.int x t,.int y u] n
end
end So
namespace L2
open PySem PySem.Spec PyProof.Rows
end L2
namespace L2
open PySem PySem.Spec PyProof.Rows
noncomputable def rSum : List V→Hp→VK→Prop:=fun vs H Q=>∃ (p : Addr) (ns : List Int),vs = [.ref p]∧H p = some (.lst (ns.map V.int))∧Q (.int ns.sum) H
theorem q_sum {X : Cx} (hc : X.calm = true) : jbu X (.builtin "sum") rSum:=by
 intro pins s σ H xs us Q I r h
 obtain ⟨p,ns,rfl,e,q⟩:=h
 obtain ⟨u,rfl,rx⟩:=jfz r
 cases rx
 obtain ⟨its,r',pl,_⟩:=I.list (SqL.of e)
 have hI:=jcq r'
 obtain ⟨zs,hz⟩:=hI.allInts.items
 have hn:=hI.numsOf
 have hl:=pl.isList
 rw [hz] at hl
 refine sum_intListG (I.ok.hd hc) hl fun h' tk t' hk=>?_
 have e2 : preSum (numAt zs) zs.size = ns.sum:=by
  rw [preSum_eq,List.take_of_length_le (by simp),← hn,← nums_intItems,← hz]
 rw [e2]
 exact ⟨.int ns.sum,H,I.kept hk,⟨t',rfl⟩,q⟩
noncomputable def fIsB (f : Bool→Bool) : R2:=fun x y H Q=>match x,y with
 | .bl a,.bl b=>Q (.bl (f (a == b))) H
 | _,_=>False
end L2
namespace L2
open PySem PySem.Spec PyProof.Rows
theorem kv_at {kvs : List (Key × V)} {vs : List (Key × Value)} (r : KV kvs vs) {i : Nat} {k : Key} {x : Value} (e : vs[i]? = some (k,x)) : ∃ kv,kvs[i]? = some kv∧kv.1 = k:=by
 obtain ⟨kv,e1,e2⟩:=jch r e
 exact ⟨kv,e1,e2.1⟩
end L2
namespace L2
open PySem PySem.Spec PyProof.Rows
section
variable {X : Cx}
end
end L2
namespace So
open PySem PyProof.Rows PySem.W
section
variable {prog : Program} {w : World} {A : Around} {E : Value→Shared→Prop} {s : Shared}
end
end So
namespace L2
open PySem PySem.Spec PyProof.Rows
section
variable {prog : Program} {w : World} {A : Around} {s : Shared}
end
end L2
namespace L2
open PySem PySem.Spec PyProof.Rows
noncomputable def codO (c : Addr) (qual : Str) : HO:=.ext fun h=>∃ oc vs tq,h.get? c = some oc∧oc.data = .fields vs∧vs[1]? = some (.str qual tq)
theorem js0 {P : Program} {w : World} {H : Hp} {h : Heap} {c : Addr} {qual : Str} (x : h.CodeRec (.ref c) qual) : jb2 P w H h c (codO c qual):=by
 obtain ⟨c2,oc,vs,tq,e,hoc,hd,hv⟩:=x
 cases e
 exact ⟨⟨oc,vs,tq,hoc,hd,hv⟩,⟨oc,hoc⟩,fun h1 h2 ⟨o1,v1,t1,a1,a2,a3⟩ k=>⟨o1,v1,t1,k _ a1,a2,a3⟩⟩
theorem jq9 {P : Program} {w : World} {H : Hp} {h : Heap} {c : Addr} {qual : Str} (x : jb2 P w H h c (codO c qual)) : h.CodeRec (.ref c) qual:=by
 obtain ⟨⟨oc,vs,tq,h1,h2,h3⟩,_⟩:=x
 exact ⟨c,oc,vs,tq,rfl,h1,h2,h3⟩
noncomputable def ButT (P : Addr) (H H' : Hp) : Prop:=∀ b o,b ≠ P→H b = some o→H' b = some o
structure BltAt (mg : Str→Option Value) (h : Heap) : Prop where
 ex : ∃ bm o,mg "__builtins__" = some (.ref bm)∧bm ≠ builtinsNs∧bm ≠ mainGlobals∧h.get? bm = some o∧o.cls = .type "module"∧o.dict = some builtinsNs∧o.data = .plain
section
variable {X : Cx} {P c0 : Addr} {qual pn dn : Str} {pp p1 p2 p3 p4 p5 pos : Pos} {k : Nat}
end
end L2
namespace L2
open PySem PySem.Spec PyProof.Rows
section
variable {X : Cx} {P c0 : Addr} {qual pn dn xn : Str} {pp p1 p2 p3 p4 p5 pos kp rp cp cpos sp xp : Pos} {k kc i j : Nat}
end
end L2
namespace L2
open PySem PySem.Spec PyProof.Rows
theorem jok {P : Program} {w : World} {K : PySem.W.Frag} {mg mb : Str→Option Value} {CX : CXT} {k : Nat} {fa a c T : Addr} {fd : FuncData} {x : Str} {sp : Sp} {s₁ : Shared} {vs : List Value} {ns : List Int}
  (KX : K.In s₁.heap) (hns : s₁.heap.Ns mainGlobals mg) (hb : s₁.heap.Ns builtinsNs mb) (hbb : ∀ x : Str,x ≠ "__name__"→mb x = bootBuiltins x) (hlim : s₁.heap.NoLimit) (hg : s₁.gens = #[])
  (ha : s₁.heap.get? a = some { cls:=.type "list",data:=.seq vs.toArray }) (hi : IntsAre vs ns) (hl : ns.length ≤ sizeLine) (hr : Room k callerA)
  (hC : PySem.W.CodeHd s₁.heap c T) (hT : s₁.heap.get? T = some (PySem.W.tabObj #[])) (hnt : PySem.W.noTabs K = true) (hB : BltAt mg s₁.heap)
  (F : ∀ base : Heap,K.In base→base.Ns mainGlobals mg→PySem.W.CodeHd base c T→BltAt mg base→FnOk P w K mg base CX k fa fd [x] sp) (hbind : ∀ (s : Shared) (u : Value),BindsTo s fd ⟨[u],[]⟩ [(x,u)])
  (hsp : ∀ H : Hp,Scr K H a ns→H T = some (.tbl #[])→sp [.ref a] H (fun v _=>v = .bl true) fun _ _ _=>False)
  (hCX : ∀ H e s',CX [] H s₁ (fun _ _ _=>False) e s'→False) :
  codeAny (model P w) callerA (.call (.ref fa) ⟨[.ref a],[]⟩) (fun r s'=>r = .ok (.ret (.bool true))∧OldK s₁.heap s'.heap∧s'.os = s₁.os∧AllBare s'.gens) s₁:=by
 have rv:=jfy hi
 have lenV:=hi.length
 have naT : a ≠ T:=fun z=>by rw [z,hT] at ha; cases ha
 have hKT : K.lookup T = none:=by
  cases q : K.lookup T with
  | none=>rfl
  | some o =>
   have e:=KX T o q
   rw [hT] at e
   cases e
   have h2:=List.all_eq_true.mp hnt (T,PySem.W.tabObj #[]) (PySem.W.mem_of_lookupK q)
   exact absurd (show false = true from h2) Bool.false_ne_true
  -- from an abstract heap in which nothing but the script and the table may be tracked
 have core : ∀ H : Hp,Scr K H a ns→H T = some (.tbl #[])→(∀ b u,H b = some u→b = T ∨ (b = a∧∃ o xs,u = .frz o (.lst xs)))→HOk P w H s₁.heap→(H a ≠ none→K.lookup a = none) →
   codeAny (model P w) callerA (.call (.ref fa) ⟨[.ref a],[]⟩) (fun r s'=>r = .ok (.ret (.bool true))∧OldK s₁.heap s'.heap∧s'.os = s₁.os∧AllBare s'.gens) s₁:=by
  intro H hS eT hO hok hK
  have base_of : ∀ {b : Addr} {o : Obj},s₁.heap.get? b = some o→H b = none→(hidT s₁.heap H).get? b = some o:=fun e n=>jq1 e n
  have noA : ∀ {b : Addr} {o : Obj},s₁.heap.get? b = some o→o.cls ≠ .type "list"→o.cls ≠ .none→H b = none:=fun {b o} e d1 d2=>by
   cases q : H b with
   | none=>rfl
   | some u =>
    rcases hO b u q with z | ⟨z,_⟩
    ·rw [z,hT] at e; cases e; exact absurd rfl d2
    ·rw [z,ha] at e; cases e; exact absurd rfl d1
  have noD : ∀ {b : Addr} {o : Obj} {es : Array DictEntry} {ep : Nat},s₁.heap.get? b = some o→o.data = .dict es ep→H b = none:=fun {b o es ep} e d=>by
   cases q : H b with
   | none=>rfl
   | some u =>
    rcases hO b u q with z | ⟨z,_⟩
    ·rw [z,hT] at e; cases e; cases d
    ·rw [z,ha] at e; cases e; cases d
  have nsK : ∀ {b : Addr} {m : Str→Option Value},s₁.heap.Ns b m→(hidT s₁.heap H).Ns b m:=fun {b m} ⟨o,es,ep,e,d,r⟩=>⟨o,es,ep,base_of e (noD e d),d,r⟩
  have hKb : K.In (hidT s₁.heap H):=fun b o e=>base_of (KX b o e) (by
   cases q : H b with
   | none=>rfl
   | some u =>
    rcases hO b u q with z | ⟨z,_⟩
    ·rw [z,hKT] at e; cases e
    ·subst z; rw [hK (by rw [q]; simp)] at e; cases e)
  have hM : Mod K mg (hidT s₁.heap H):=⟨hKb,nsK hns,⟨mb,nsK hb,hbb⟩,let ⟨mc,h1,h2⟩:=hlim; ⟨mc,nsK h1,h2⟩⟩
  have hC2 : PySem.W.CodeHd (hidT s₁.heap H) c T:=by
   obtain ⟨o,fvs,file,tf,flags,tg,inF,text,tt,e1,r1,r⟩:=hC
   exact ⟨o,fvs,file,tf,flags,tg,inF,text,tt,base_of e1 (noA e1 (by rw [r1]; decide) (by rw [r1]; intro z; cases z)),r1,r⟩
  have hB2 : BltAt mg (hidT s₁.heap H):=by
   obtain ⟨bm,o,b1,b2,b3,b4,b5,b6⟩:=hB.ex
   exact ⟨bm,o,b1,b2,b3,base_of b4 (noA b4 (by rw [b5]; decide) (by rw [b5]; intro z; cases z)),b5,b6⟩
  have e0 : Env0 P w K mg (hidT s₁.heap H) callerA [] s₁ H:=⟨rfl,hM,fun b o e=>jrj e,Nat.le_of_eq (jot _ _),trivial,fun b hb=>absurd (show b ∈ ([] : List Addr) from hb) (by simp),hok,.of_eq hg⟩
  refine codeAny_mono ((F _ hKb (nsK hns) hC2 hB2).run callerA [] s₁ H ⟨[.ref a],[]⟩ [.ref a] [.ref a] _ _ hr e0 (hbind s₁ (.ref a)) (.cons rfl .nil) (hsp H hS eT)) fun r s' h=>?_
  cases r with
  | error e=>exact (hCX H e s' h).elim
  | ok fl =>
   cases fl with
   | next=>exact False.elim h
   | brk=>exact False.elim h
   | cont=>exact False.elim h
   | ret u =>
    obtain ⟨v,H',os,bare,un,hok',r',q⟩:=h
    have q' : v = .bl true:=q
    subst q'
    obtain rfl : u = Value.bool true:=r'
    have keep : ∀ b o,b ≠ T→s₁.heap.get? b = some o→s'.heap.get? b = some o:=fun b o nb e=>by
     cases q : H b with
     | none=>exact un.keep b o e q (by intro z; exact absurd (show b ∈ ([] : List Addr) from z) (by simp)) (by simp)
     | some u =>
      rcases hO b u q with z | ⟨_,ob,xs,z⟩
      ·exact absurd z nb
      ·subst z
       have z2:=un.frzs b ob _ q
       obtain ⟨e1,_⟩:=hok b _ q
       obtain ⟨e2,_⟩:=hok' b _ z2
       rw [e] at e1; cases e1
       exact e2
    obtain ⟨more,eT'⟩:=un.tbls T _ eT
    have hT' : s'.heap.get? T = some { cls:=.none,data:=.fields (#[] ++ more) }:=hok' T _ eT'
    refine ⟨rfl,⟨fun b o e=>?_,fun b o e=>?_⟩,os,bare⟩
    ·by_cases hbT : b = T
     ·subst hbT
      rw [hT] at e
      cases e
      exact .inr (.inl ⟨(hC.tab hT).isCodeTable,rfl,#[],more,rfl,hT'⟩)
     ·exact .inl (keep b o hbT e)
    ·by_cases hbT : b = T
     ·rw [hbT]; exact ⟨_,hT'⟩
     ·exact ⟨o,keep b o hbT e⟩
 cases hk : K.lookup a with
 | some o =>
  have e:=KX a o hk
  rw [ha] at e
  cases e
  refine core (fun b=>if b = T then some (.tbl #[]) else none) (.inr ⟨_,vs.toArray,_,hk,rfl,rfl,rfl,by rw [List.size_toArray,lenV]; exact hl,by simpa using rv⟩) (if_pos rfl) (fun b u z=>?_) (fun b u z=>?_) fun z=>absurd (if_neg naT) z
  ·by_cases hbT : b = T
   ·exact .inl hbT
   ·have z':=(if_neg hbT).symm.trans z
    cases z'
  ·by_cases hbT : b = T
   ·have z':=(if_pos hbT).symm.trans z
    cases z'
    rw [hbT]
    exact hT
   ·have z':=(if_neg hbT).symm.trans z
    cases z'
 | none =>
  have hHa : (fun b=>if b = T then some (HO.tbl #[]) else if b = a then some (.frz { cls:=.type "list",data:=.seq vs.toArray } (.lst (ns.map V.int))) else none) a = some (.frz { cls:=.type "list",data:=.seq vs.toArray } (.lst (ns.map V.int))):=by
   show (if a = T then some (HO.tbl #[]) else if a = a then _ else none) = _
   rw [if_neg naT,if_pos rfl]
  refine core (fun b=>if b = T then some (.tbl #[]) else if b = a then some (.frz { cls:=.type "list",data:=.seq vs.toArray } (.lst (ns.map V.int))) else none) (.inl ⟨_,hHa⟩) (if_pos rfl) (fun b u z=>?_) (fun b u z=>?_) fun _=>hk
  ·by_cases hbT : b = T
   ·exact .inl hbT
   ·have z':=(if_neg hbT).symm.trans z
    by_cases hba : b = a
    ·have z2:=(if_pos hba).symm.trans z'
     cases z2
     exact .inr ⟨hba,_,_,rfl⟩
    ·have z2:=(if_neg hba).symm.trans z'
     cases z2
  ·by_cases hbT : b = T
   ·have z':=(if_pos hbT).symm.trans z
    cases z'
    rw [hbT]
    exact hT
   ·have z':=(if_neg hbT).symm.trans z
    by_cases hba : b = a
    ·have z2:=(if_pos hba).symm.trans z'
     cases z2
     rw [hba]
     exact ⟨ha,by rw [List.length_map]; exact hl,vs,_,rv,ha⟩
    ·have z2:=(if_neg hba).symm.trans z'
     cases z2
theorem jpf {l : PySem.W.OpenLaw} {n k : Nat} {q : Program} {loose : List Str} {XP : (Str→Option Value)→Heap→Prop} {YP : World→Heap→Prop} {d : DefRec} {K : Params→PySem.W.Frag} {CX : World→CXT} {sp : World→Addr→Sp} {x tn : Str}
  (hn : l.most = some n) (hn2 : n ≤ sizeLine) (hdf : d.params.defaults = []) (hr : Room k callerA)
  (hY : ∀ (w : World) (h : Heap),YP w h→(K w.params).In h) (hrec : ((PyProof.Rows.recsOf q).find? fun e=>e.name == tn).isSome = true) (hnt : ∀ w : World,PySem.W.noTabs (K w.params) = true)
  (F : ∀ (w : World) (mg : Str→Option Value) (fa : Addr) (h : Heap),(K w.params).In h→h.Ns mainGlobals mg→mg d.name = some (.ref fa) →
   ∃ (fd : FuncData) (c T : Addr),PySem.W.tabIn (K w.params) tn = some (c,T)∧(∀ (s : Shared) (u : Value),BindsTo s fd ⟨[u],[]⟩ [(x,u)]) ∧
    ∀ base : Heap,(K w.params).In base→base.Ns mainGlobals mg→PySem.W.CodeHd base c T→BltAt mg base→FnOk l.prog w (K w.params) mg base (CX w) k fa fd [x] (sp w T))
  (hsp : ∀ (w : World) (H : Hp) (a T : Addr) (ns : List Int),ns.length ≤ n→Scr (K w.params) H a ns→H T = some (.tbl #[])→sp w T [.ref a] H (fun v _=>v = .bl true) fun _ _ _=>False)
  (hCX : ∀ (w : World) (H : Hp) (s : Shared) (e : Value) (s' : Shared),CX w [] H s (fun _ _ _=>False) e s'→False) :
  PySem.W.WalkO q loose XP YP l.row.toRowW d [] (fun f vs=>PySem.call f vs):=by
 refine Att.attach_call hn hdf fun w s₀ s₁ mg mb fa o pm cd doc a vs ns G Y ho hd hcd hmg hobj hints hlen hg=>?_
 have KX:=hY w _ Y
 obtain ⟨fd,c,T,ht,hb,hF⟩:=F w mg fa _ KX G.T.g hmg
 obtain ⟨dr,hdr⟩:=Option.isSome_iff_exists.mp hrec
 obtain ⟨hC,hT⟩:=PySem.W.tab_of G.T KX hdr ht
 have hB : BltAt mg s₁.heap:=by
  obtain ⟨bm,ob,b1,b2,b3,b4,b5⟩:=G.T.bmain
  have hbG : bm ≠ mainGlobals:=fun q=>by
   obtain ⟨o,es,ep,e,hd,_⟩:=G.T.g
   rw [q,e] at b3; cases b3; rw [hd] at b5; cases b5.2
  exact ⟨bm,ob,b1,b2,hbG,b3,b4,b5⟩
 exact jok KX G.T.g G.T.b G.T.builtins G.T.nolimit hg hobj hints (Nat.le_trans hlen hn2) hr hC hT (hnt w) hB hF hb (fun H hS hTT=>hsp w H a T ns hlen hS hTT) fun H e s'=>hCX w H s₁ e s'
theorem Fun.okC {P : Program} {w : World} {K : PySem.W.Frag} {mg : Str→Option Value} {base : Heap} {x qual : Str} {st : Stmt} {f : Addr} {fd : FuncData} {N ps : List Str} {k : Nat} {sp : Sp} (F : Fun K x qual st f fd) (S : FnScope N ps (ja9 st)) (len : ∀ vs H Q E,sp vs H Q E→vs.length = ps.length)
  (hbody : ∀ (A : Around) (outer : List Env) (s : Shared) (H : Hp) (vs : List V) (Q : VK) (E : XK),Room k (A.deeper (envOfC qual (ja9 st) s.heap.objs.size f fd.code))→sp vs H Q E →
   ∃ t,PSs (cxOf CX0 P w K mg base N qual (ja9 st) f fd.code A outer s H E).nox (jcd st) t∧t { nx:=fun _ H'=>Q .non H',rt:=Q } (start N vs) H) : FnOk P w K mg base CX0 (k + 1) f fd ps sp:=by
 obtain ⟨oc,od,kV,doc,pm,an,cdv,ct,osl,rfl,lk,hcd⟩:=F.ex
 refine jrv lk hcd S len fun A outer s H vs Q E hr hsp=>?_
 obtain ⟨t,h,q⟩:=hbody A outer s H vs Q E hr hsp
 exact ⟨t,h.nox,q⟩
end L2
namespace L2
open PySem PySem.Spec PyProof.Rows
noncomputable def TrD (h B : Heap) (x : Addr) (cl : Value) (dd : Option Addr) (fl : Value) : Prop :=
 ∃ ox ws T oT ts,h.get? x = some ox∧ox.cls = cl∧ox.dict = dd∧ox.data = .fields ws∧ws[1]? = some (.ref T)∧B.get? T = none∧T ≠ x∧h.get? T = some oT∧oT.data = .fields ts∧ts[3]? = some fl∧(dd ≠ none→ws[2]? = some .none)
structure FlyD (B : Heap) (l : List Env) (x : Addr) (cl : Value) (dd : Option Addr) (fl : Value) (h : Heap) : Prop where
 stays : B.StaysIn h
 new : B.get? x = none
 funs : h.FunFrames B l
 tr : TrD h B x cl dd fl
theorem FlyD.tail {B : Heap} {env : Env} {l : List Env} {x : Addr} {cl : Value} {dd : Option Addr} {fl : Value} {h : Heap} (f : FlyD B (env :: l) x cl dd fl h) : FlyD B l x cl dd fl h:=⟨f.stays,f.new,f.funs.2.2,f.tr⟩
theorem FlyD.there {B : Heap} {l : List Env} {x : Addr} {cl : Value} {dd : Option Addr} {fl : Value} {h : Heap} (f : FlyD B l x cl dd fl h) : ∃ ox ws,h.get? x = some ox∧ox.cls = cl∧ox.dict = dd∧ox.data = .fields ws:=by
 obtain ⟨ox,ws,_,_,_,h1,h2,h3,h4,_⟩:=f.tr
 exact ⟨ox,ws,h1,h2,h3,h4⟩
section
variable {M : Model} {A : Around} {E : Value→Shared→Prop} {s : Shared} {B : Heap} {env : Env} {l : List Env} {L x : Addr} {cl : Value} {dd : Option Addr} {Q : Unit→Shared→Prop}
theorem jqz {head : Value} {had : Bool} {ox : Obj} {ws : Array Value} (fr : A.frames = some (env :: l)) (fu : s.heap.FunFrames B (env :: l)) (ef : env.frame = some L) (gx : s.heap.get? x = some ox) (st : B.StaysIn s.heap) (nx : B.get? x = none)
  (dx : ox.data = .fields ws) (sz : 1 < ws.size) (w2 : ox.dict ≠ none→ws[2]? = some .none) (k : ∀ h',FlyD B (env :: l) x ox.cls ox.dict (rawInt L) h'→s.heap.UpToSlots h'→Q () { s with heap:=h' }) :
  wpAny M A (do let a ← frameOf env; let pl ← entryPlaceOf L had; let b ← EntryCells.newEntry head a .none (rawInt L) .none pl; setField (.ref x) 1 b) Q E s:=by
 have xf : x ∉ (env :: l).filterMap (·.frame):=fun z=>by
  obtain ⟨_,o,go,no⟩:=fu.mem z
  rw [gx] at go
  cases go
  exact no ws dx
 refine wpAny_bind (wpAny_frameOf_fun fr fu ef fun h1 z1=>wpAny_bind (wpAny_entryPlaceOf fun pl hp=>?_))
 unfold EntryCells.newEntry newFields
 refine wpAny_bind (wpAny_newObj_type ?_ (hp.sizeOk5 _ _ _ _ _))
 have g1 : h1.get? x = some ox:=(z1.2.1 x xf).trans gx
 have s1 : B.StaysIn h1:=fun b o q=>(z1.2.1 b fun z=>by rw [(fu.mem z).1] at q; cases q).trans (st b o q)
 generalize hN : ({ cls:=.type "traceback",dict:=none,data:=.fields ([head,.ref L,.none,rawInt L,.none] ++ (if pl.isEmpty then List.replicate 6 Value.none else pl)).toArray } : Obj) = oN
 have g2:=Heap.get?_push_of_some (h:=h1) oN g1
 refine wpAny_setField g2 dx sz (k _ ?_ ?_)
 all_goals
  have ne : h1.objs.size ≠ x:=Nat.ne_of_gt (Heap.lt_size g1)
  have kp : ∀ b o,b ≠ x→h1.get? b = some o→((h1.push oN).update x (Obj.mapFields (·.setIfInBounds 1 (Value.ref h1.objs.size)))).get? b = some o:=fun b o n q=>by
   rw [Heap.get?_update_other _ _ (Ne.symm n)]; exact Heap.get?_push_of_some _ q
  have nr : ∀ b o,s.heap.get? b = some o→(∀ vs,o.data ≠ .fields vs)→b ≠ x:=fun b o q n z=>by
   rw [z,gx] at q; cases q; exact n ws dx
 ·refine ⟨fun b o q=>kp b o (fun z=>by rw [z,nx] at q; cases q) (s1 b o q),nx,fu.of_keeps fun b o q n=>?_,?_⟩
  ·obtain ⟨sl,e⟩:=z1.2.2 b o q
   exact ⟨_,kp b _ (nr b o q n) e,rfl⟩
  ·have d3:=Obj.data_mapFields dx (·.setIfInBounds 1 (Value.ref h1.objs.size))
   have g3:=Heap.get?_update_self (Obj.mapFields (·.setIfInBounds 1 (Value.ref h1.objs.size))) g2 (Obj.isFreed_of_fields d3)
   have gT:=(Heap.get?_update_other (h1.push oN) (Obj.mapFields (·.setIfInBounds 1 (Value.ref h1.objs.size))) (Ne.symm ne)).trans (Heap.get?_push_size h1 (by rw [← hN]; rfl))
   refine ⟨_,_,h1.objs.size,_,_,g3,Obj.cls_mapFields _ _,?_,d3,by simp [sz],s1.fresh,ne,gT,by rw [← hN],?_,fun z=>?_⟩
   ·obtain ⟨c,d,dt,sl⟩:=ox
    dsimp only at dx
    subst dx
    rfl
   ·first | (simp; done) | (rcases hp with rfl | ⟨_,_,_,_,_,_,_,rfl⟩ <;> simp)
   ·rw [Array.getElem?_setIfInBounds_ne (by decide)]; exact w2 z
 ·intro b o q n
  obtain ⟨sl,e⟩:=z1.2.2 b o q
  exact ⟨sl,kp b _ (nr b o q n) e⟩
theorem jod {ox : Obj} {ws : Array Value} (fr : A.frames = some (env :: l)) (fu : s.heap.FunFrames B (env :: l)) (ef : env.frame = some L) (gx : s.heap.get? x = some ox) (st : B.StaysIn s.heap) (nx : B.get? x = none)
  (dx : ox.data = .fields ws) (h1 : ws[1]? = some .none) (w2 : ox.dict ≠ none→ws[2]? = some .none) (k : ∀ h',FlyD B (env :: l) x ox.cls ox.dict (rawInt L) h'→s.heap.UpToSlots h'→Q () { s with heap:=h' }) : wpAny M A (noteFrame (.ref x) env) Q E s:=by
 unfold noteFrame
 simp only [ef]
 refine wpAny_bind (wpAny_field gx dx h1 ?_)
 rw [if_neg (by decide)]
 exact jqz fr fu ef gx st nx dx (Array.getElem?_eq_some_iff.mp h1).1 w2 k
theorem jrk (fr : A.frames = some (env :: l)) (ef : env.frame = some L) (f : FlyD B (env :: l) x cl dd .none s.heap) (k : ∀ h',FlyD B (env :: l) x cl dd (rawInt L) h'→s.heap.UpToSlots h'→Q () { s with heap:=h' }) :
  wpAny M A (noteFrame (.ref x) env) Q E s:=by
 obtain ⟨st,nx,fu,ox,ws,T,oT,ts,gx,rfl,rfl,dx,w1,nT,ne,gT,dT,t3,w2⟩:=f
 unfold noteFrame
 simp only [ef]
 refine wpAny_bind (wpAny_field gx dx w1 ?_)
 rw [if_pos (show (Value.ref T != Value.none) = true by simp)]
 refine wpAny_bind (wpAny_field gT dT t3 ?_)
 rw [if_neg (show ¬ ((Value.none == rawInt L) = true) by simp [rawInt])]
 refine wpAny_bind (wpAny_setField gT dT (Array.getElem?_eq_some_iff.mp t3).1 ?_)
 have oth : ∀ b,b ≠ T→(s.heap.update T (Obj.mapFields (·.setIfInBounds 3 Value.none))).get? b = s.heap.get? b:=fun b n=>Heap.get?_update_other _ _ (Ne.symm n)
 have nr : ∀ b o,s.heap.get? b = some o→(∀ vs,o.data ≠ .fields vs)→b ≠ T:=fun b o q n z=>by
  rw [z,gT] at q; cases q; exact n ts dT
 exact jqz fr (fu.of_keeps fun b o q n=>⟨o,(oth b (nr b o q n)).trans q,rfl⟩) ef ((oth x (Ne.symm ne)).trans gx) (fun b o q=>(oth b fun z=>by rw [z,nT] at q; cases q).trans (st b o q)) nx dx (Array.getElem?_eq_some_iff.mp w1).1 w2
  fun h' f' u=>k h' f' fun b o q n=>u b o ((oth b (nr b o q n)).trans q) n
theorem jgo (ef : env.frame = some L) (f : FlyD B l x cl dd (rawInt L) s.heap) (k : Q () s) : wpAny M A (noteFrame (.ref x) env) Q E s:=by
 obtain ⟨st,nx,fu,ox,ws,T,oT,ts,gx,_,_,dx,w1,nT,ne,gT,dT,t3,w2⟩:=f
 unfold noteFrame
 simp only [ef]
 refine wpAny_bind (wpAny_field gx dx w1 ?_)
 rw [if_pos (show (Value.ref T != Value.none) = true by simp)]
 refine wpAny_bind (wpAny_field gT dT t3 ?_)
 rw [if_pos (show (rawInt L == rawInt L) = true by simp)]
 exact wpAny_pure k
theorem jf4 {fl : Value} (of : Option Addr) (f : FlyD B l x cl dd fl s.heap) (k : ∀ h',FlyD B l x cl dd (of.elim Value.none fun a=>rawInt a) h'→s.heap.UpToSlots h'→Q () { s with heap:=h' }) : wpAny M A (setFlight (.ref x) of) Q E s:=by
 obtain ⟨st,nx,fu,ox,ws,T,oT,ts,gx,c1,c2,dx,w1,nT,ne,gT,dT,t3,w2⟩:=f
 have sz : 3 < ts.size:=(Array.getElem?_eq_some_iff.mp t3).1
 have oth : ∀ b,b ≠ T→(s.heap.update T (Obj.mapFields (·.setIfInBounds 3 (of.elim Value.none fun f=>rawInt f)))).get? b = s.heap.get? b:=fun b n=>Heap.get?_update_other _ _ (Ne.symm n)
 have nr : ∀ b o,s.heap.get? b = some o→(∀ vs,o.data ≠ .fields vs)→b ≠ T:=fun b o q n z=>by
  rw [z,gT] at q; cases q; exact n ts dT
 unfold setFlight
 refine wpAny_bind (wpAny_field gx dx w1 ?_)
 rw [if_pos (show (Value.ref T != Value.none) = true by simp)]
 refine wpAny_setField gT dT sz (k _ ⟨fun b o q=>(oth b fun z=>by rw [z,nT] at q; cases q).trans (st b o q),nx,fu.of_keeps fun b o q n=>⟨o,(oth b (nr b o q n)).trans q,rfl⟩,?_⟩ fun b o q n=>⟨o.slots,(oth b (nr b o q n)).trans q⟩)
 exact ⟨ox,ws,T,_,_,(oth x (Ne.symm ne)).trans gx,c1,c2,dx,w1,nT,ne,Heap.get?_update_self _ gT (Obj.isFreed_of_fields (Obj.data_mapFields dT _)),Obj.data_mapFields dT _,by simp [sz],w2⟩
theorem jro {ox : Obj} {ws : Array Value} (fr : A.frames = some (env :: l)) (fu : s.heap.FunFrames B (env :: l)) (ef : env.frame = some L) (gx : s.heap.get? x = some ox) (st : B.StaysIn s.heap) (nx : B.get? x = none)
  (dx : ox.data = .fields ws) (h1 : ws[1]? = some .none) (w2 : ox.dict ≠ none→ws[2]? = some .none) (k : ∀ h',FlyD B l x ox.cls ox.dict .none h'→s.heap.UpToSlots h'→Q () { s with heap:=h' }) : wpAny M A (leaving env (.ref x)) Q E s:=by
 unfold leaving
 exact wpAny_bind (jod fr fu ef gx st nx dx h1 w2 fun h1 f1 u1=>jf4 none f1 fun h2 f2 u2=>k h2 f2.tail (u1.trans u2))
theorem jqu (fr : A.frames = some (env :: l)) (ef : env.frame = some L) (f : FlyD B (env :: l) x cl dd .none s.heap) (k : ∀ h',FlyD B l x cl dd .none h'→s.heap.UpToSlots h'→Q () { s with heap:=h' }) :
  wpAny M A (leaving env (.ref x)) Q E s:=by
 unfold leaving
 exact wpAny_bind (jrk fr ef f fun h1 f1 u1=>jf4 none f1 fun h2 f2 u2=>k h2 f2.tail (u1.trans u2))
theorem jrn (ef : env.frame = some L) (f : FlyD B (env :: l) x cl dd (rawInt L) s.heap) (k : ∀ h',FlyD B l x cl dd .none h'→s.heap.UpToSlots h'→Q () { s with heap:=h' }) :
  wpAny M A (leaving env (.ref x)) Q E s:=by
 unfold leaving
 exact wpAny_bind (jgo ef f (jf4 none f fun h2 f2 u2=>k h2 f2.tail u2))
end
end L2
namespace L2
open PySem PySem.Spec PyProof.Rows
structure Df (X : Cx) : Prop where
 stk : X.stack = X.env :: X.outer
 fr : X.env.frame = some X.env.locals
 ex : X.ex = []
 fn : ∀ x,X.fn x = true
structure Cov (X : Cx) (B : Heap) (H : Hp) (h : Heap) : Prop where
 tr : ∀ b o,H b = some o→∃ q,h.get? b = some q∧B.get? b = some q
 old : ∀ b o,X.s₀.heap.get? b = some o→b ∉ frs X.stack→∃ q,h.get? b = some q∧B.get? b = some q
 pin : ∀ p ∈ X.pn,B.get? p.1 = some p.2
 cel : ∀ x c,X.env.cells.lookup x = some c→∃ q,h.get? c = some q∧B.get? c = some q
theorem job {P : Program} {w : World} {H : Hp} {h : Heap} {a : Addr} {o : HO} (x : jb2 P w H h a o) : ∃ q,h.get? a = some q:=by
 cases o with
 | lst xs=>obtain ⟨_,_,_,_,e⟩:=x; exact ⟨_,e⟩
 | tup xs=>obtain ⟨_,_,_,q,e,_⟩:=x; exact ⟨_,e⟩
 | dK kvs=>obtain ⟨_,_,_,_,o,_,_,e,_⟩:=x; exact ⟨_,e⟩
 | dT kvs=>obtain ⟨_,_,_,_,o,_,_,e,_⟩:=x; exact ⟨_,e⟩
 | set S n=>obtain ⟨o,_,_,_,e,_⟩:=x; exact ⟨_,e⟩
 | ins C dx fs=>obtain ⟨_,_,_,e,_⟩:=x; exact ⟨_,e⟩
 | own y=>exact x
 | xd fs=>obtain ⟨_,⟨_,_,_,e,_⟩,_⟩:=x; exact ⟨_,e⟩
 | rng lo hi=>obtain ⟨_,_,_,e⟩:=x; exact ⟨_,e⟩
 | frz ob u=>obtain ⟨e,_⟩:=x; exact ⟨_,e⟩
 | tbl ps=>exact ⟨_,(show h.get? a = some _ from x)⟩
 | met f y=>exact ⟨_,(show h.get? a = some _ from x)⟩
 | ext φ=>exact x.2.1
theorem HOk.via {P : Program} {w : World} {H : Hp} {h B h' : Heap} (x : HOk P w H h) (c : ∀ b o,H b = some o→∃ q,h.get? b = some q∧B.get? b = some q) (st : B.StaysIn h') : HOk P w H h':=fun a o e =>
 (x a o e).stay (fun b u hb q=>by
  have hb' : ∃ o',H b = some o':=hb.elim (fun z=>⟨o,by rw [z]; exact e⟩) fun z=>⟨_,z⟩
  obtain ⟨o',e'⟩:=hb'
  obtain ⟨r,r1,r2⟩:=c b o' e'
  rw [q] at r1; cases r1
  exact st _ _ r2) (fun _ q=>q) fun _ _ q=>q
section
variable {X : Cx} {σ : St} {H : Hp} {s : Shared} {B h' : Heap}
theorem jdc (d : Df X) : frs X.stack = X.env.locals :: X.fs:=by
 rw [d.stk]
 show List.filterMap _ _ = _
 rw [List.filterMap_cons,d.fr]
 rfl
theorem Inv.viaB (I : Inv X [] σ H s) (d : Df X) (c : Cov X B H s.heap) (st : B.StaysIn h') (u : s.heap.UpToSlots h') : Inv X [] σ H { s with heap:=h' }:=by
 have ex : ∀ b,b ∉ X.ex:=fun b=>by rw [d.ex]; exact List.not_mem_nil
 refine ⟨I.ok,I.os,I.bare,⟨fun b o e n nb _=>?_,fun b o e n hb _=>?_,fun b o e n _=>I.base.free b o e n (ex b),fun b o e _=>?_,I.base.tups,I.base.frzs,I.base.tbls⟩,?_,fun x cc e=>?_,I.free,I.freeC,fun p hp=>?_,I.hok.via c.tr st,I.len⟩
 ·have nl : b ≠ X.env.locals:=Nat.ne_of_lt (Nat.lt_of_lt_of_le (Heap.lt_size e) I.ok.above)
  obtain ⟨q,q1,q2⟩:=c.old b o e (by rw [jdc d]; exact fun z=>(List.mem_cons.mp z).elim nl nb)
  rw [I.base.keep b o e n nb (ex b)] at q1; cases q1
  exact st _ _ q2
 ·obtain ⟨sl,e1⟩:=I.base.slot b o e n hb (ex b)
  obtain ⟨_,o1,g1,nf⟩:=I.funs.mem hb
  rw [e1] at g1; cases g1
  obtain ⟨sl2,e2⟩:=u b _ e1 nf
  exact ⟨sl2,e2⟩
 ·by_cases hb : b ∈ frs X.stack
  ·obtain ⟨_,o1,g1,nf⟩:=I.stack.mem hb
   obtain ⟨sl2,e2⟩:=u b _ g1 nf
   exact ⟨_,e2⟩
  ·obtain ⟨q,_,q2⟩:=c.old b o e hb
   exact ⟨q,st _ _ q2⟩
 ·obtain ⟨m,hn,hl⟩:=I.loc
  refine ⟨m,u.ns hn,fun i y v h1 h2 h3=>?_⟩
  obtain ⟨w',r,lk⟩:=hl i y v h1 h2 h3
  refine ⟨w',r,lk.imp id fun ⟨k,cc,e1,o,ho,hd⟩=>⟨k,cc,e1,?_⟩⟩
  obtain ⟨q,q1,q2⟩:=c.cel y cc e1
  rw [ho] at q1; cases q1
  exact ⟨o,st _ _ q2,hd⟩
 ·obtain ⟨v,o,ho,hd⟩:=I.cell x cc e
  obtain ⟨q,q1,q2⟩:=c.cel x cc e
  rw [ho] at q1; cases q1
  exact ⟨v,o,st _ _ q2,hd⟩
 ·have hp' : p ∈ X.pn:=by simpa using hp
  obtain ⟨_,p2⟩:=I.pin p hp
  exact ⟨st _ _ (c.pin p hp'),p2⟩
theorem Cov.next (c : Cov X B H s.heap) (st : B.StaysIn h') : Cov X B H h':=⟨fun b o e=>let ⟨q,_,q2⟩:=c.tr b o e; ⟨q,st _ _ q2,q2⟩,fun b o e n=>let ⟨q,_,q2⟩:=c.old b o e n; ⟨q,st _ _ q2,q2⟩,c.pin,fun x cc e=>let ⟨q,_,q2⟩:=c.cel x cc e; ⟨q,st _ _ q2,q2⟩⟩
theorem Inv.notfr (I : Inv X [] σ H s) (d : Df X) {y : Str} {c : Addr} (e : X.env.cells.lookup y = some c) : c ∉ frs X.stack:=by
 rw [jdc d]
 intro z
 rcases List.mem_cons.mp z with z | z
 ·exact I.cne y c e z
 ·have:=I.ok.cab y c (d.fn y) e
  obtain ⟨_,o,ho,_⟩:=I.ok.funs.mem z
  exact absurd (Nat.lt_of_lt_of_le (Heap.lt_size ho) this) (Nat.lt_irrefl _)
theorem jq8 (I : Inv X [] σ H s) (d : Df X) {x : Addr} (hx : H x = none) (nx : X.s₀.heap.objs.size ≤ x) (px : ∀ p ∈ X.pn,p.1 ≠ x) (cx : ∀ y c,X.env.cells.lookup y = some c→c ≠ x) :
  Cov X (PySem.W.hideAll s.heap (x :: frs X.stack)) H s.heap∧(PySem.W.hideAll s.heap (x :: frs X.stack)).StaysIn s.heap∧(PySem.W.hideAll s.heap (x :: frs X.stack)).get? x = none∧s.heap.FunFrames (PySem.W.hideAll s.heap (x :: frs X.stack)) X.stack:=by
 have hid : ∀ {b o},s.heap.get? b = some o→b ≠ x→b ∉ frs X.stack→(PySem.W.hideAll s.heap (x :: frs X.stack)).get? b = some o:=fun e n1 n2=>PySem.W.hideAll_get _ e fun z=>(List.mem_cons.mp z).elim n1 n2
 refine ⟨⟨fun b o e=>?_,fun b o e nb=>?_,fun p hp=>?_,fun y c e=>?_⟩,fun b o e=>PySem.W.of_hideAll _ e,PySem.W.hideAll_none _ (List.mem_cons_self ..),?_⟩
 ·obtain ⟨q,g⟩ : ∃ q,s.heap.get? b = some q:=by
   have lt:=I.hok.lt e
   have ok:=I.hok b o e
   cases g : s.heap.get? b with
   | some q=>exact ⟨q,rfl⟩
   | none=>exact absurd g (by
     intro g
     exact (job ok).elim fun q z=>by rw [g] at z; cases z)
  exact ⟨q,g,hid g (fun z=>by rw [z,hx] at e; cases e) (fun z=>by rw [I.stkFree b z] at e; cases e)⟩
 ·obtain ⟨q,g⟩:=I.base.there b o e (by rw [d.ex]; exact List.not_mem_nil)
  exact ⟨q,g,hid g (Nat.ne_of_lt (Nat.lt_of_lt_of_le (Heap.lt_size e) nx)) nb⟩
 ·obtain ⟨g,_,nl,nf,_⟩:=I.pin p (by simpa using hp)
  exact hid g (px p hp) (by rw [jdc d]; exact fun z=>(List.mem_cons.mp z).elim nl nf)
 ·obtain ⟨v,o,ho,_⟩:=I.cell y c e
  exact ⟨o,ho,hid ho (cx y c e) (I.notfr d e)⟩
 ·have fu:=I.stack
  have gen : ∀ l : List Env,(∀ b ∈ frs l,b ∈ frs X.stack)→s.heap.FunFrames X.base l→s.heap.FunFrames (PySem.W.hideAll s.heap (x :: frs X.stack)) l:=by
   intro l
   induction l with
   | nil=>intro _ _; trivial
   | cons env r ih =>
    intro sub f
    obtain ⟨k,⟨L,o,ef,_,go,no⟩,fr⟩:=f
    have hm : L ∈ frs (env :: r):=by
     show L ∈ List.filterMap _ _
     rw [List.filterMap_cons,ef]
     exact List.mem_cons_self ..
    refine ⟨k,⟨L,o,ef,PySem.W.hideAll_none _ (List.mem_cons_of_mem _ (sub L hm)),go,no⟩,ih (fun b hb=>sub b ?_) fr⟩
    show b ∈ List.filterMap _ _
    rw [List.filterMap_cons]
    split
    ·exact hb
    ·exact List.mem_cons_of_mem _ hb
  exact gen X.stack (fun b hb=>hb) fu
end
inductive Md (B : Heap) (l : List Env) (L x : Addr) (cl : Value) (dd : Option Addr) (h : Heap) : Prop where
 | new {ox : Obj} {ws : Array Value} : h.get? x = some ox→ox.cls = cl→ox.dict = dd→ox.data = .fields ws→ws[1]? = some .none→(dd ≠ none→ws[2]? = some .none)→B.StaysIn h→B.get? x = none→h.FunFrames B l→Md B l L x cl dd h
 | fly : FlyD B l x cl dd .none h→Md B l L x cl dd h
 | held : FlyD B l x cl dd (rawInt L) h→Md B l L x cl dd h
noncomputable def XT (X : Cx) (EX : St→XK) : Value→Shared→Prop:=fun e s'=>∃ (x : Addr) (cl : Value) (dd : Option Addr) (σ : St) (H : Hp) (B : Heap),e = .ref x∧Inv X [] σ H s'∧H x = none∧X.s₀.heap.objs.size ≤ x∧Cov X B H s'.heap∧EX σ cl dd H∧Md B X.stack X.env.locals x cl dd s'.heap
noncomputable def CXE (P : Program) (w : World) : CXT:=fun outer H s E e s'=>∃ (x : Addr) (cl : Value) (dd : Option Addr) (H' : Hp) (B : Heap),e = .ref x∧s'.os = s.os∧AllBare s'.gens∧Un (frs outer) [] H H' s.heap s'.heap∧HOk P w H' s'.heap ∧
 FlyD B outer x cl dd .none s'.heap∧H' x = none∧s.heap.objs.size ≤ x∧(∀ b o,H' b = some o→∃ q,s'.heap.get? b = some q∧B.get? b = some q)∧(∀ b o,s.heap.get? b = some o→b ∉ frs outer→∃ q,s'.heap.get? b = some q∧B.get? b = some q)∧E cl dd H'
noncomputable def Cx.tr (X : Cx) (pins : List (Addr × Obj)) (EX : St→XK) : Cx:={ X with pn:=X.pn ++ pins,xe:=XT { X with pn:=X.pn ++ pins } EX }
theorem Cx.Ok.pn {X : Cx} (ok : X.Ok) (pn : List (Addr × Obj)) (E : Value→Shared→Prop) : ({ X with pn:=pn,xe:=E } : Cx).Ok :=
 ⟨ok.mod,ok.kind,ok.glob,ok.blt,ok.above,ok.inj,ok.has,ok.cab,ok.hd,ok.frames,ok.stk,ok.exf,ok.bs,ok.bsz,ok.noex,ok.exfs,ok.funs,ok.frf⟩
theorem Inv.tr {X : Cx} {pins : List (Addr × Obj)} {σ : St} {H : Hp} {s : Shared} (I : Inv X pins σ H s) (EX : St→XK) : Inv (X.tr pins EX) [] σ H s :=
 ⟨I.ok.pn _ _,I.os,I.bare,I.base,I.loc,I.cell,I.free,I.freeC,fun p hp=>I.pin p (by
  have : p ∈ (X.pn ++ pins) ++ []:=hp
  simpa using this),I.hok,I.len⟩
theorem Inv.untr {X : Cx} {pins : List (Addr × Obj)} {σ : St} {H : Hp} {s : Shared} {EX : St→XK} (I : Inv (X.tr pins EX) [] σ H s) (ok : X.Ok) : Inv X pins σ H s :=
 ⟨ok,I.os,I.bare,I.base,I.loc,I.cell,I.free,I.freeC,fun p hp=>I.pin p (by
  show p ∈ (X.pn ++ pins) ++ []
  simpa using hp),I.hok,I.len⟩
theorem Inv.nopins {X : Cx} {pins : List (Addr × Obj)} {σ : St} {H : Hp} {s : Shared} (I : Inv X pins σ H s) : Inv X [] σ H s :=
 ⟨I.ok,I.os,I.bare,I.base,I.loc,I.cell,I.free,I.freeC,fun p hp=>I.pin p (by
  have : p ∈ X.pn:=by simpa using hp
  exact List.mem_append_left _ this),I.hok,I.len⟩
theorem Inv.xe' {X : Cx} {pins : List (Addr × Obj)} {σ : St} {H : Hp} {s : Shared} {E : Value→Shared→Prop} (I : Inv X pins σ H s) : Inv { X with xe:=E } pins σ H s:=⟨I.ok.wish E,I.os,I.bare,I.base,I.loc,I.cell,I.free,I.freeC,I.pin,I.hok,I.len⟩
theorem Df.tr {X : Cx} (d : Df X) (pins : List (Addr × Obj)) (EX : St→XK) : Df (X.tr pins EX):=⟨d.stk,d.fr,d.ex,d.fn⟩
noncomputable def jlb (CX : CXT) (X : Cx) (EX : St→XK) : Prop:=∀ (pins : List (Addr × Obj)) (σ : St) (H : Hp) (s : Shared) (e : Value) (s' : Shared),Inv X pins σ H s→CX X.stack H s (EX σ) e s'→X.xe e s'
theorem jmh {X : Cx} (d : Df X) {pins0 : List (Addr × Obj)} {EX : St→XK} : jlb (CXE X.prog X.w) (X.tr pins0 EX) EX:=by
 intro pins σ H s e s' I h
 obtain ⟨x,cl,dd,H',B,rfl,os,bare,un,hok,fl,hx,nx,c1,c2,q⟩:=h
 obtain ⟨hh,g,dr,t,os'⟩:=s'
 obtain rfl : os' = s.os:=os
 have I0:=I.nopins
 have I2 : Inv (X.tr pins0 EX) [] σ H' ⟨hh,g,dr,t,s.os⟩:=I0.call (h':=hh) (g':=g) (d':=dr) (t':=t) (ch:=[]) un hok bare (fun b z=>absurd z (by simp))
 have d' : Df (X.tr pins0 EX):=d.tr _ _
 refine ⟨x,cl,dd,σ,H',B,rfl,I2.xe',hx,Nat.le_trans I0.sz nx,⟨c1,fun b o e nb=>?_,fun p hp=>?_,fun y c e=>?_⟩,q,.fly fl⟩
 ·obtain ⟨o1,e1⟩:=I0.base.there b o e (by rw [d'.ex]; exact List.not_mem_nil)
  exact c2 b o1 e1 nb
 ·obtain ⟨g1,_,nl,nf,_⟩:=I0.pin p (List.mem_append_left _ hp)
  obtain ⟨r,r1,r2⟩:=c2 p.1 p.2 g1 (by rw [jdc d']; exact fun z=>(List.mem_cons.mp z).elim nl nf)
  obtain ⟨g2,_⟩:=I2.pin p (List.mem_append_left _ hp)
  rw [show hh.get? p.1 = some p.2 from g2] at r1; cases r1
  exact r2
 ·obtain ⟨v,o,ho,_⟩:=I0.cell y c e
  exact c2 c o ho (I0.notfr d' e)
theorem ownT {X : Cx} (d : Df X) (fr : X.A.frames = some X.stack) {pins0 : List (Addr × Obj)} {EX : St→XK} : PassesOwn (model X.prog X.w) X.A X.env (X.tr pins0 EX).xe:=by
 intro e s' h
 obtain ⟨x,cl,dd,σ,H,B,rfl,I,hx,nx,c,q,m⟩:=h
 have d' : Df ({ X with pn:=X.pn ++ pins0 } : Cx):=⟨d.stk,d.fr,d.ex,d.fn⟩
 have fr' : X.A.frames = some (X.env :: X.outer):=by rw [← d.stk]; exact fr
 have back : ∀ h1,FlyD B X.stack x cl dd (rawInt X.env.locals) h1→s'.heap.UpToSlots h1→cameBackBy (model X.prog X.w) X.A X.env (X.tr pins0 EX).xe (.ref x) { s' with heap:=h1 }:=by
  intro h1 f1 u1
  obtain ⟨ox,ws,T,oT,ts,gx,_,_,dx,w1,_⟩:=f1.tr
  show wpAny _ _ (field (.ref x) 1 >>= _) _ _ _
  refine wpAny_bind (wpAny_field gx dx w1 ?_)
  rw [if_neg (by simp)]
  refine jf4 (s:={ s' with heap:=h1 }) X.env.frame f1 fun h2 f2 u2=>?_
  rw [d.fr] at f2
  have u:=u1.trans u2
  exact ⟨x,cl,dd,σ,H,B,rfl,I.viaB d' c f2.stays u,hx,nx,c.next f2.stays,q,.held f2⟩
 show wpAny _ _ (noteFrame (.ref x) X.env) _ _ _
 have eqs : ∀ l,l = X.stack→l = X.env :: X.outer:=fun l z=>z.trans d.stk
 cases m with
 | new gx c1 c2 dx w1 w2 st nb fu =>
  rw [show ({ X with pn:=X.pn ++ pins0 } : Cx).stack = X.env :: X.outer from d.stk] at fu
  subst c1; subst c2
  refine jod fr' fu d.fr gx st nb dx w1 w2 fun h1 f1 u1=>back h1 (by rw [d.stk]; exact f1) u1
 | fly f =>
  rw [show ({ X with pn:=X.pn ++ pins0 } : Cx).stack = X.env :: X.outer from d.stk] at f
  exact jrk fr' d.fr f fun h1 f1 u1=>back h1 (by rw [d.stk]; exact f1) u1
 | held f=>exact jgo d.fr f (back s'.heap f (Heap.UpToSlots.refl _))
theorem leaveT {X : Cx} (d : Df X) (fr : X.A.frames = some X.stack) {EX : St→XK} {E : XK} (hE : ∀ σ cl dd H,EX σ cl dd H→E cl dd H) {e : Value} {s' : Shared} {E' : Value→Shared→Prop} (h : XT X EX e s') :
  wpAny (model X.prog X.w) X.A (leaving X.env e) (fun _ s''=>CXE X.prog X.w X.outer X.H₀ X.s₀ E e s'') E' s':=by
 obtain ⟨x,cl,dd,σ,H,B,rfl,I,hx,nx,c,q,m⟩:=h
 have fr' : X.A.frames = some (X.env :: X.outer):=by rw [← d.stk]; exact fr
 have fin : ∀ h1,FlyD B X.outer x cl dd .none h1→s'.heap.UpToSlots h1→CXE X.prog X.w X.outer X.H₀ X.s₀ E (.ref x) { s' with heap:=h1 }:=by
  intro h1 f1 u1
  have J:=I.viaB d c f1.stays u1
  have c':=c.next f1.stays
  have un:=J.base
  rw [d.ex] at un
  refine ⟨x,cl,dd,H,B,rfl,J.os,J.bare,un,J.hok,f1,hx,nx,c'.tr,fun b o e nb=>c'.old b o e ?_,hE _ _ _ _ q⟩
  rw [jdc d]
  exact fun z=>(List.mem_cons.mp z).elim (Nat.ne_of_lt (Nat.lt_of_lt_of_le (Heap.lt_size e) J.ok.above)) nb
 cases m with
 | new gx c1 c2 dx w1 w2 st nb fu =>
  rw [d.stk] at fu
  subst c1; subst c2
  exact jro fr' fu d.fr gx st nb dx w1 w2 fun h1 f1 u1=>fin h1 f1 u1
 | fly f =>
  rw [d.stk] at f
  exact jqu fr' d.fr f fun h1 f1 u1=>fin h1 f1 u1
 | held f =>
  rw [d.stk] at f
  exact jrn d.fr f fun h1 f1 u1=>fin h1 f1 u1
end L2
namespace L2
open PySem PySem.Spec PyProof.Rows
section
variable {X : Cx} {CX : CXT} {k : Nat} {f : Addr} {fd : FuncData} {ps : List Str} {sp : Sp} {EX : St→XK} {x : Str} {p pos : Pos} {e : Expr} {es : List Expr} {t : TA} {ds : List Value} {dvs : List V}
noncomputable def je7 (sp : Sp) (dvs : List V) (EX : St→XK) (t : TA) : TE:=fun σ H Q=>t σ H fun vs H1=>sp (vs ++ dvs) H1 Q (EX σ)
theorem jeg (F : FnOk X.prog X.w X.K X.mg X.base CX k f fd ps sp) (hr : Room k X.A) (hg : Gl X x) (hm : X.mg x = some (.ref f)) (hk : PySem.W.keepIn X.K (.ref f) = true) (hb : je3 X.K fd ps ds) (hd : Vals dvs ds) (hx : jlb CX X EX)
  (ha : PA X (e :: es) t) (hdb : (x == ("__debug__" : Str)) = false:=by decide) (he : starEach (e :: es) X.env = (false,eval e X.env) :: starEach es X.env:=by rfl) (hpl : (backTo pos (starEach es X.env)).any (·.1) = false:=by rfl) :
  PE X (.Call (.Name x p) (e :: es) [] pos) (je7 sp dvs EX t):=by
 intro pins s σ H Q I h
 refine wpAny_Call_Name_kw (jdb I hg hm ?_ hdb)
 refine PySem.W.callWith_K (h₀:=X.base) I.ok.mod.kin hk (thn (ha pos pins s σ H _ I h) fun us s1 ⟨vs,H1,I1,r,q⟩=>⟨I1.kIn,?_⟩) he hpl
 have r2 : Vals (vs ++ dvs) (us ++ ds):=r.append hd
 have hl : (us ++ ds).length = ps.length:=by rw [← r2.length]; exact F.len _ _ _ _ q
 refine wpAny_call (codeAny_mono (F.run X.A X.stack s1 H1 ⟨us,[]⟩ (us ++ ds) (vs ++ dvs) Q (EX σ) hr I1.env0 (hb s1 us I1.kIn hl) r2 q) fun rr s' hq=>?_)
 cases rr with
 | error e=>exact hx pins σ H1 s1 e s' I1 hq
 | ok fl =>
  cases fl with
  | ret u=>exact I1.after hq
  | next=>exact False.elim hq
  | brk=>exact False.elim hq
  | cont=>exact False.elim hq
end
theorem Inv.tr0 {X : Cx} {pins : List (Addr × Obj)} {σ : St} {H : Hp} {s : Shared} (I : Inv X pins σ H s) (EX : St→XK) : Inv (X.tr [] EX) pins σ H s :=
 ⟨I.ok.pn _ _,I.os,I.bare,I.base,I.loc,I.cell,I.free,I.freeC,fun p hp=>I.pin p (by
  have : p ∈ (X.pn ++ []) ++ pins:=hp
  simpa using this),I.hok,I.len⟩
theorem Inv.untr0 {X : Cx} {pins : List (Addr × Obj)} {σ : St} {H : Hp} {s : Shared} {EX : St→XK} (I : Inv (X.tr [] EX) pins σ H s) (ok : X.Ok) : Inv X pins σ H s :=
 ⟨ok,I.os,I.bare,I.base,I.loc,I.cell,I.free,I.freeC,fun p hp=>I.pin p (by
  show p ∈ (X.pn ++ []) ++ pins
  simpa using hp),I.hok,I.len⟩
theorem SP.untr0 {X : Cx} {pins : List (Addr × Obj)} {EX : St→XK} {D : Ends} {fl : Flow} {s' : Shared} (ok : X.Ok) (h : SP (X.tr [] EX) pins D fl s') : SP X pins D fl s':=by
 cases fl with
 | ret u=>obtain ⟨v,σ',H',J,r,q⟩:=h; exact ⟨v,σ',H',J.untr0 ok,r,q⟩
 | next=>obtain ⟨σ',H',J,q⟩:=h; exact ⟨σ',H',J.untr0 ok,q⟩
 | brk=>obtain ⟨σ',H',J,q⟩:=h; exact ⟨σ',H',J.untr0 ok,q⟩
 | cont=>obtain ⟨σ',H',J,q⟩:=h; exact ⟨σ',H',J.untr0 ok,q⟩
section
variable {P : Program} {w : World} {K : PySem.W.Frag} {mg : Str→Option Value} {base : Heap}
theorem df_of (CX : CXT) (N : List Str) (qual : Str) (sc : Scope) (f : Addr) (cd : Value) (A : Around) (outer : List Env) (s : Shared) (H : Hp) (E : XK) : Df (cxOf CX P w K mg base N qual sc f cd A outer s H E):=⟨rfl,rfl,rfl,fun _=>rfl⟩
theorem Fun.okX {x qual : Str} {st : Stmt} {f : Addr} {fd : FuncData} {N ps : List Str} {k : Nat} {sp : Sp} (F : Fun K x qual st f fd) (S : FnScope N ps (ja9 st)) (len : ∀ vs H Q E,sp vs H Q E→vs.length = ps.length)
  (hbody : ∀ (cdv : Value) (A : Around) (outer : List Env) (s : Shared) (H : Hp) (vs : List V) (Q : VK) (E : XK),Room k (A.deeper (envOfC qual (ja9 st) s.heap.objs.size f cdv))→sp vs H Q E →
   ∃ t,PSs ((cxOf (CXE P w) P w K mg base N qual (ja9 st) f cdv A outer s H E).tr [] fun _=>E) (jcd st) t∧t { nx:=fun _ H'=>Q .non H',rt:=Q } (start N vs) H) : FnOk P w K mg base (CXE P w) (k + 1) f fd ps sp:=by
 obtain ⟨oc,od,kV,doc,pm,an,cdv,ct,osl,rfl,lk,hcd⟩:=F.ex
 refine jrv lk hcd S len fun A outer s H vs Q E hr hsp=>?_
 obtain ⟨t,h,q⟩:=hbody cdv A outer s H vs Q E hr hsp
 refine ⟨t,fun pins s1 σ H1 D I hw=>?_,q⟩
 refine wpAny_mono (h pins s1 σ H1 D (I.tr0 _) hw) (fun fl s2 z=>z.untr0 I.ok) fun e s2 z=>?_
 have d:=df_of (P:=P) (w:=w) (K:=K) (mg:=mg) (base:=base) (CXE P w) N qual (ja9 st) f cdv A outer s H E
 have z' : XT (cxOf (CXE P w) P w K mg base N qual (ja9 st) f cdv A outer s H E) (fun _=>E) e s2:=z
 exact leaveT (EX:=fun _=>E) (E:=E) d I.ok.frames (fun _ _ _ _ q=>q) z'
end
theorem joc {K : PySem.W.Frag} {h : Heap} {N : Addr} {mN : Str→Option Value} {n : Str} {v : Value} (X : K.In h) (G : h.Ns N mN) (e : PySem.W.nsIn K N n = some (some v)) : mN n = some v:=by
 obtain ⟨o,es,ep,ho,hd,_,hf⟩:=G
 unfold PySem.W.nsIn at e
 split at e
 ·rename_i c d es' n' sl q
  have z:=X _ _ q
  rw [ho] at z
  cases z
  cases hd
  split at e
  ·rename_i en he
   cases e
   rw [← hf]
   unfold nsFind findBy
   rw [← Array.find?_toList,he]
   rfl
  ·split at e <;> cases e
 ·cases e
noncomputable def jhv (K : PySem.W.Frag) (C : Addr) (bmB : List Value) (newId : String) (fI : Addr) : Bool:=match K.lookup C with
 | some ⟨.type "type",_,.cls cd,sl⟩=>(match cd.mro,sl.toList with
  | .ref C' :: bm,[_,_,_,_,some (.builtin n),_]=>C' == C && n == newId && !cd.hasDel && cd.hasDict && PySem.W.tailIn K bmB bm && PySem.W.nsOkIn K cd.ns && PySem.W.nsIn K cd.ns "__init__" == some (some (.ref fI))
  | _,_=>false)
 | _=>false
structure XC (C : Addr) (bmB : List Value) (newId : String) (fI : Addr) (h : Heap) : Prop where
 ex : ∃ (bm : List Value) (N : Addr) (nm q : Str) (bs : List Value) (sn : List Str) (sub : List Value) (ab : Bool) (col : Option Bool) (dd : Option Addr) (k0 k1 k2 k3 k5 : Option Value) (mN : Str→Option Value),
  h.get? C = some (excClassObj nm q C N bs bm true sn sub ab col dd k0 k1 k2 k3 k5 newId)∧h.Ns N mN∧mN "__init__" = some (.ref fI)∧OwnTail h bmB bm
theorem jpe {K : PySem.W.Frag} {h : Heap} {C fI : Addr} {bmB : List Value} {newId : String} (X : K.In h) (q : jhv K C bmB newId fI = true) : XC C bmB newId fI h:=by
 unfold jhv at q
 split at q
 ·rename_i dd cd sl ho
  split at q
  ·rename_i C' bm k0 k1 k2 k3 n k5 hm hs
   simp only [Bool.and_eq_true,beq_iff_eq,Bool.not_eq_true'] at q
   obtain ⟨⟨⟨⟨⟨⟨rfl,rfl⟩,hdel⟩,hdi⟩,ht⟩,hok⟩,hni⟩:=q
   obtain ⟨nm,bs,mro,ns,qn,hd,sn,sub,ab,col,del⟩:=cd
   dsimp only at hm hdel hok hni hdi
   subst hm hdel hdi
   have hsl : sl = #[k0,k1,k2,k3,some (.builtin n),k5]:=by
    obtain ⟨l⟩:=sl
    simp only at hs
    rw [hs]
   subst hsl
   have G : h.Ns ns (h.nsMap ns):=.of_isNs (PySem.W.isNs_of_in X hok)
   exact ⟨bm,ns,nm,qn,bs,sn,sub,ab,col,dd,k0,k1,k2,k3,k5,_,X _ _ ho,G,joc X G hni,PySem.W.tail_of_in X ht⟩
  ·cases q
 ·cases q
section
variable {prog : Program} {w : World} {A : Around} {E : Value→Shared→Prop} {h : Heap} {g : Array GenState} {d : Drawn} {t : Nat} {os : OsState}
variable {nm q : Str} {C N : Addr} {bs bm bmB : List Value} {hdct : Bool} {sn : List Str} {sub : List Value} {ab : Bool} {col : Option Bool} {dd : Option Addr} {k0 k1 k2 k3 k5 : Option Value} {B newId initId : String}
theorem xmake0 (F : ExcBaseFacts B newId initId bmB) (T : OwnTail h bmB bm) {mN : Str→Option Value} {us : List Value} {fI : Addr} {oI : Obj} {Q : Fin→Shared→Prop}
  (hC : h.get? C = some (excClassObj nm q C N bs bm hdct sn sub ab col dd k0 k1 k2 k3 k5 newId)) (hn : h.Ns N mN) (hi : mN "__init__" = some (.ref fI)) (hf : h.get? fI = some oI) (hc : oI.cls = .type "function") (hl : us.length ≤ sizeLine)
  (k : wpAny (model prog w) A (call (.ref fI) (.ref (h.objs.size + 1) :: us)) (fun r s'=>r = .none∧Q (.done (.ret (.ref (h.objs.size + 1)))) s') E
   ⟨(h.push { cls:=.type "tuple",data:=.seq us.toArray }).push { cls:=.ref C,data:=.fields #[.ref h.objs.size,.none,.none,.none,.bool false,.none] },g,d,t,os⟩) :
  wpAny (model prog w) A (Builtin.«type.__call__» ⟨.ref C :: us,[]⟩) Q E ⟨h,g,d,t,os⟩:=by
 repeat (first | with_reducible refine wpAny_loadPart_at hC ?_ | with_reducible refine wpAny_madeBy_exc hC ?_ | wp_step)
 refine codeAny_call_builtin_code (Code.quiet_builtin _ F.quiet) (wpAny_check_new_subT F T hC ?_)
 refine codeAny_exc_new_subT F T hC ?_ hl
 show wpAny _ _ _ _ _ _
 generalize hT : ({ cls:=.type "tuple",data:=.seq us.toArray } : Obj) = oT at k ⊢
 generalize hX : ({ cls:=.ref C,data:=.fields #[.ref h.objs.size,.none,.none,.none,.bool false,.none] } : Obj) = oX at k ⊢
 have up : ∀ b o,h.get? b = some o→((h.push oT).push oX).get? b = some o:=fun b o e=>Heap.get?_push_of_some _ (Heap.get?_push_of_some _ e)
 have gX : ((h.push oT).push oX).get? (h.objs.size + 1) = some oX:=Heap.get?_push_at (by rw [Heap.size_push]) (by rw [← hX]; rfl)
 have cX : oX.cls = .ref C:=by rw [← hX]
 have T2:=T.keeps up
 have hC2:=up _ _ hC
 have hn2:=hn.keeps up
 generalize (h.push oT).push oX = h2 at k gX T2 hC2 hn2 up ⊢
 have hcC : (Value.ref C :: bm).contains (.ref C) = true:=by simp
 unfold isInstance
 repeat (first | (with_reducible refine wpAny_loadPart_at gX ?_; rw [cX]) | (with_reducible refine wpAny_isSubtype_exc hC2 ?_; rw [hcC]) | wp_step)
 show wpAny _ _ (typeLookup (.ref C) _) _ _ _
 refine wpAny_typeLookup_tail hC2 hn2 T2 F.mroIs F.init.lookup ?_
 rw [hi]
 refine wpAny_holding (wpAny_bind ?_)
 unfold bindSpecial
 refine wpAny_bind (wpAny_typeOf (T:="function") ⟨_,up _ _ hf,hc⟩ ?_)
 rw [if_pos (by decide)]
 refine wpAny_pure (wpAny_bind (wpAny_mono k (fun r s' hr=>?_) fun _ _ z=>z))
 obtain ⟨rfl,hQ⟩:=hr
 wp_walk
 exact hQ
theorem xmake (F : ExcBaseFacts B newId initId bmB) {us : List Value} {fI : Addr} {oI : Obj} {Q : Value→Shared→Prop} (c : XC C bmB newId fI h) (hf : h.get? fI = some oI) (hc : oI.cls = .type "function") (hl : us.length ≤ sizeLine)
  (k : wpAny (model prog w) (A.under (.builtin "type.__call__" ⟨.ref C :: us,[]⟩)) (call (.ref fI) (.ref (h.objs.size + 1) :: us)) (fun r s'=>r = .none∧Q (.ref (h.objs.size + 1)) s') E
   ⟨(h.push { cls:=.type "tuple",data:=.seq us.toArray }).push { cls:=.ref C,data:=.fields #[.ref h.objs.size,.none,.none,.none,.bool false,.none] },g,d,t,os⟩) :
  wpAny (model prog w) A (call (.ref C) us) Q E ⟨h,g,d,t,os⟩:=by
 obtain ⟨bm,N,nm,q,bs,sn,sub,ab,col,dd,k0,k1,k2,k3,k5,mN,hC,hn,hi,T⟩:=c.ex
 have a1:=tc_lookup
 have a2:=tc_bind (.ref C)
 have ty : (⟨h,g,d,t,os⟩ : Shared).TypeIs (.ref C) "type":=⟨_,hC,rfl⟩
 refine wpAny_call (codeAny_of_tree ?_)
 show wpAny _ _ (callAny (.ref C) _) _ _ _
 repeat (any_goals (first | assumption | with_reducible refine wpAny_loadPart_at hC ?_ | wp_step))
 refine ⟨rfl,?_⟩
 exact codeAny_call_builtin_at (Code.quiet_builtin _ (by decide +kernel)) entry_typeCall (wpAny_check_type_call_sub hC (xmake0 F T hC hn hi hf hc hl k))
theorem xraise {M : Model} {s : Shared} {y : Sem Value} {env : Env} {fI : Addr} {Q : Flow→Shared→Prop} (hbase : bmB.contains (.type "BaseException") = true) (hh : A.handled = none)
  (k : wpAny M A y (fun v s1=>∃ e dz a0,v = .ref e∧XC C bmB newId fI s1.heap∧s1.heap.get? e = some { cls:=.ref C,dict:=dz,data:=.fields #[a0,.none,.none,.none,.bool false,.none] }∧E (.ref e) s1) E s) : wpAny M A (raiseStmt env (some y) none) Q E s:=by
 unfold raiseStmt
 refine wpAny_bind (wpAny_mono k (fun v s1 h1=>?_) fun _ _ z=>z)
 obtain ⟨e,dz,a0,rfl,c,he,hE⟩:=h1
 obtain ⟨bm,N,nm,q,bs,sn,sub,ab,col,dd,k0,k1,k2,k3,k5,mN,hC,hn,hi,T⟩:=c.ex
 have hcB : (Value.ref C :: bm).contains (.type "BaseException") = true:=by rw [List.contains_cons,T.hasType hbase,Bool.or_true]
 obtain ⟨hp,g,d,tk,os⟩:=s1
 repeat (first | with_reducible refine wpAny_loadPart_at he ?_ | with_reducible refine wpAny_loadPart_at hC ?_ | (with_reducible refine wpAny_isSubtype_exc hC ?_; rw [hcB]) | wp_step)
 exact wpAny_raiseNew_none hh hE
end
end L2
namespace L2
open PySem PySem.Spec PyProof.Rows Builtin Builtin.ObjectAttr
section
variable {prog : Program} {w : World} {A : Around} {E : Value→Shared→Prop} {h : Heap} {g : Array GenState} {d : Drawn} {t : Nat} {os : OsState} {C : Addr} {bmB : List Value} {B newId initId : String}
theorem xinit (F : ExcBaseFacts B newId initId bmB) {x fI : Addr} {dz : Option Addr} {t0 : Addr} {us : List Value} {Q : Value→Shared→Prop} (c : XC C bmB newId fI h)
  (he : h.get? x = some { cls:=.ref C,dict:=dz,data:=.fields #[.ref t0,.none,.none,.none,.bool false,.none] }) (hl : us.length ≤ sizeLine)
  (k : ∀ h' (t1 : Addr),h'.get? x = some { cls:=.ref C,dict:=dz,data:=.fields #[.ref t1,.none,.none,.none,.bool false,.none] }→(∀ b o,b ≠ x→h.get? b = some o→h'.get? b = some o)→h.objs.size ≤ h'.objs.size→Q .none ⟨h',g,d,t,os⟩) :
  wpAny (model prog w) A (call (.builtin initId) (.ref x :: us)) Q E ⟨h,g,d,t,os⟩:=by
 obtain ⟨bm,N,nm,q,bs,sn,sub,ab,col,dd,k0,k1,k2,k3,k5,mN,hC,hn,hi,T⟩:=c.ex
 refine wpAny_call (codeAny_call_builtin F.init.plain F.initEntry (wpAny_check_init_subT F T hC he rfl ?_))
 wp_walk
 refine k _ h.objs.size ?_ (fun b o n e=>?_) ?_
 ·rw [Heap.get?_update_self _ (Heap.get?_push_of_some _ he) rfl]
  rfl
 ·rw [Heap.get?_update_other _ _ (Ne.symm n)]
  exact Heap.get?_push_of_some _ e
 ·first
   | (rw [Heap.size_update,Heap.size_push]; omega)
   | (simp only [Heap.size_push,Heap.size_update]; omega)
end
noncomputable def jm6 : Value→Bool
 | .ref _=>true
 | _=>false
theorem jm6.ex {v : Value} (h : jm6 v = true) : ∃ a,v = .ref a:=by
 cases v <;> first | exact ⟨_,rfl⟩ | cases h
noncomputable def jc6 (bm : List Value) : List Value→Bool
 | []=>false
 | v :: r=>if jm6 v then jc6 bm r else v :: r == bm
noncomputable abbrev bmV : List Value:=[.type "ValueError",.type "Exception",.type "BaseException",.type "object"]
theorem jga (self : Value) : ∀ {l : List Value},jc6 bmV l = true→refuseLoop self "__setattr__" l = pure ()
 | [],e=>by cases e
 | v :: r,e=>by
  unfold jc6 at e
  split at e
  ·rename_i hv
   obtain ⟨c,rfl⟩:=jm6.ex hv
   rw [refuseLoop_ref]
   exact jga self e
  ·rw [beq_iff_eq.mp e]
   exact PySem.F.store_ValueError.passes self
theorem jlt : ∀ {l : List Value},jc6 bmV l = true→l.contains (.type "object") = true
 | [],e=>by cases e
 | v :: r,e=>by
  unfold jc6 at e
  split at e
  ·rw [List.contains_cons,jlt e,Bool.or_true]
  ·rw [beq_iff_eq.mp e]; rfl
structure XA (K : PySem.W.Frag) (C : Addr) : Prop where
 cd : ∃ cd,PySem.W.clsIn K C = some cd∧jc6 bmV cd.mro = true∧cd.hasDict = true∧cd.mro.isEmpty = false
 sa : PySem.W.findIn K (.ref C) "__setattr__" = some (some (.builtin "object.__setattr__"))
noncomputable abbrev xrec (C t0 : Addr) (dz : Option Addr) : Obj:={ cls:=.ref C,dict:=dz,data:=.fields #[.ref t0,.none,.none,.none,.bool false,.none] }
section
variable {prog : Program} {w : World} {A : Around} {E : Value→Shared→Prop} {s : Shared} {K : PySem.W.Frag} {x C t0 : Addr} {dz : Option Addr} {name : Str} {v : Value} {Q : Unit→Shared→Prop}
theorem jja (X : K.In s.heap) (c : XA K C) {ox : Obj} {od : Option Obj} (I : PySem.W.InstAt s.heap x ox C od) (hf : PySem.W.findIn K (.ref C) name = some none)
  (k : ∀ b tk,wpAny (model prog w) A.in1 (storeInOwnDict (.ref x) (.ref C) (.str name tk) name v b) (fun fin s'=>match fin with | .done (.ret _)=>Q () s' | _=>False) E { s with toks:=s.toks + 1 }) :
  wpAny (model prog w) A (setAttr (.ref x) name v) Q E s:=by
 obtain ⟨cd,hc,ho,hdi,ne⟩:=c.cd
 have SF:=PySem.F.store_object
 refine PySem.W.set_plain X I c.sa ?_
 have sub : PySem.W.Looks (model prog w) s.heap (isInstance (.ref x) (.type "object")) true:=I.type.andThen (PySem.W.looks_mroIn X (by unfold PySem.W.mroIn; rw [hc,Option.bind_some,if_neg (by rw [ne]; decide),jlt ho]))
 refine codeAny_call_builtin SF.slot.plain SF.entry (@PySem.W.check_slot (model prog w) _ _ { s with toks:=s.toks + 1 } "object.__setattr__" "object" "__setattr__" (.ref x) [.str name s.toks,v] [] _ SF.kind SF.split sub (SF.args (.ref x) (.str name s.toks) v) ?_)
 have hm : PySem.W.Looks (model prog w) s.heap (mroOf (.ref C)) cd.mro:=(PySem.W.looks_clsIn X hc).andThen .now
 rw [PySem.W.osa_eq,refuse_eq]
 refine wpAny_bind (wpAny_bind (PySem.W.Looks.here (s:={ s with toks:=s.toks + 1 }) I.type (wpAny_bind (PySem.W.Looks.here (s:={ s with toks:=s.toks + 1 }) hm ?_))))
 rw [jga _ ho]
 refine wpAny_pure (wpAny_bind (PySem.W.Looks.here (s:={ s with toks:=s.toks + 1 }) I.type (wpAny_bind (PySem.W.Looks.here (s:={ s with toks:=s.toks + 1 }) (PySem.W.looks_findIn X hf) (wpAny_bind (wpAny_pure ?_))))))
 refine wpAny_mono (k _ _) (fun fin s' z=>?_) fun _ _ z=>z
 rcases fin with (_ | _ | _ | _) | _ <;> first | exact z | exact z.elim
theorem jqg {h : Heap} {g : Array GenState} {d : Drawn} {t : Nat} {os : OsState} {dx : Addr} {tk : Tok} {A : Around} {mA : Str→Option Value} {ns : List Str} {Q : Fin→Shared→Prop} (hn : h.Ns1 dx mA) (hw : Within mA ns) (hz : ns.length ≤ 900)
  (k : ∀ h' tk',h'.Ns1 dx (fun y=>if y = name then some v else mA y)→(∀ b,b ≠ dx→h'.get? b = h.get? b)→h.objs.size ≤ h'.objs.size→Q (.done (.ret .none)) ⟨h',g,d,tk',os⟩) :
  wpAny (model prog w) A (storeInDict dx (.str name tk) name v) Q E ⟨h,g,d,t,os⟩:=by
 unfold storeInDict newKeyGuard
 refine wpAny_bind (wpAny_pure (wpAny_bind (wpAny_nsSet1 hn fun h' hn' hs=>?_)))
 obtain ⟨oD,esD,epD,hoD,hdD,hcD⟩:=hn'.count (Within.cons name v hw)
 refine wpAny_bind (wpAny_lookBehind hoD (by rw [hdD]; exact pastItsLine_dict (Nat.le_trans hcD (by rw [List.length_cons,sizeLine_eq]; omega))) ?_)
 wp_walk
 exact k h' _ hn' (fun b n=>hs.2 b n) (by first | exact hs.1 | exact Nat.le_of_eq hs.1.symm | exact Nat.le_of_eq hs.1)
theorem xset0 (X : K.In s.heap) (c : XA K C) (he : s.heap.get? x = some (xrec C t0 none)) (hf : PySem.W.findIn K (.ref C) name = some none)
  (k : ∀ h' tk,h'.get? x = some (xrec C t0 (some s.heap.objs.size))→h'.Ns1 s.heap.objs.size (fun y=>if y = name then some v else none)→(∀ b o,b ≠ x→s.heap.get? b = some o→h'.get? b = some o)→s.heap.objs.size ≤ h'.objs.size→Q () { s with heap:=h',toks:=tk }) :
  wpAny (model prog w) A (setAttr (.ref x) name v) Q E s:=by
 refine jja X c (ox:=xrec C t0 none) (od:=none) ⟨he,rfl,rfl,trivial⟩ hf fun b tk=>?_
 obtain ⟨cd,hc,ho,hdi,ne⟩:=c.cd
 obtain ⟨h,g,d,t,os⟩:=s
 dsimp only at X he k ⊢
 have Lc : PySem.W.Looks (model prog w) h (classData C) cd:=PySem.W.looks_clsIn X hc
 have hxs : x ≠ h.objs.size:=Nat.ne_of_lt (Heap.lt_size he)
 unfold storeInOwnDict ownStreamTells
 refine wpAny_bind (wpAny_pure ?_)
 rw [if_neg (show ¬ (Value.ref C == Value.type "module") = true from fun z=>by cases beq_iff_eq.mp z)]
 refine wpAny_bind ?_
 unfold ownDictForStores instanceDict
 refine wpAny_bind (wpAny_loadPart_at he ?_)
 dsimp only [xrec]
 refine wpAny_bind (PySem.W.Looks.here (s:=⟨h,g,d,t + 1,os⟩) Lc ?_)
 rw [hdi]
 rw [if_neg (by decide),if_neg (by simp [typeHasDict])]
 refine wpAny_bind (wpAny_alloc' ?_)
 refine wpAny_bind (wpAny_update' (Heap.get?_push_of_some _ he) ?_)
 refine wpAny_pure ?_
 have gd : ((h.push { cls:=.type "dict",data:=.dict #[] }).update x fun o=>{ cls:=o.cls,dict:=some h.objs.size,data:=o.data,slots:=o.slots }).get? h.objs.size = some { cls:=.type "dict",data:=.dict #[] } :=
  (Heap.get?_update_ne _ _ _ _ hxs.symm).trans (Heap.get?_push_at rfl rfl)
 have gx : ((h.push { cls:=.type "dict",data:=.dict #[] }).update x fun o=>{ cls:=o.cls,dict:=some h.objs.size,data:=o.data,slots:=o.slots }).get? x = some (xrec C t0 (some h.objs.size)):=by
  rw [Heap.get?_update_self _ (Heap.get?_push_of_some _ he) rfl]
 have ot : ∀ b o,b ≠ x→h.get? b = some o→((h.push { cls:=.type "dict",data:=.dict #[] }).update x fun o=>{ cls:=o.cls,dict:=some h.objs.size,data:=o.data,slots:=o.slots }).get? b = some o:=fun b o n e =>
  (Heap.get?_update_ne _ _ _ _ n).trans (Heap.get?_push_of_some _ e)
 have sz : h.objs.size ≤ ((h.push { cls:=.type "dict",data:=.dict #[] }).update x fun o=>{ cls:=o.cls,dict:=some h.objs.size,data:=o.data,slots:=o.slots }).objs.size:=by
  first | (rw [Heap.size_update,Heap.size_push]; omega) | (simp only [Heap.size_push,Heap.size_update]; omega)
 generalize ((h.push { cls:=.type "dict",data:=.dict #[] }).update x fun o=>{ cls:=o.cls,dict:=some h.objs.size,data:=o.data,slots:=o.slots }) = h2 at gd gx ot sz ⊢
 have nd : h2.Ns h.objs.size (fun _=>none):=⟨_,#[],_,gd,rfl,fun e he=>absurd he (by simp),fun _=>rfl⟩
 refine jqg (Heap.Ns1.of_empty nd) Within.nil (by decide) fun h' tk' n' keep z=>?_
 exact k h' tk' ((keep x hxs).trans gx) n' (fun b o n e=>(keep b (Nat.ne_of_lt (Heap.lt_size e))).trans (ot b o n e)) (Nat.le_trans sz z)
theorem xset1 {dx : Addr} {mA : Str→Option Value} {ns : List Str} (X : K.In s.heap) (c : XA K C) (he : s.heap.get? x = some (xrec C t0 (some dx))) (hn : s.heap.Ns1 dx mA) (hw : Within mA ns) (hz : ns.length ≤ 900) (hne : dx ≠ x) (hf : PySem.W.findIn K (.ref C) name = some none)
  (k : ∀ h' tk,h'.Ns1 dx (fun y=>if y = name then some v else mA y)→(∀ b,b ≠ dx→h'.get? b = s.heap.get? b)→s.heap.objs.size ≤ h'.objs.size→Q () { s with heap:=h',toks:=tk }) :
  wpAny (model prog w) A (setAttr (.ref x) name v) Q E s:=by
 obtain ⟨od,es,ep,hod,hdd⟩:=hn
 refine jja X c (ox:=xrec C t0 (some dx)) (od:=some od) ⟨he,rfl,rfl,hod⟩ hf fun b tk=>?_
 obtain ⟨cd,hc,ho,hdi,ne⟩:=c.cd
 obtain ⟨h,g,d,t,os⟩:=s
 dsimp only at X he k hod ⊢
 have Lc : PySem.W.Looks (model prog w) h (classData C) cd:=PySem.W.looks_clsIn X hc
 unfold storeInOwnDict ownStreamTells
 refine wpAny_bind (wpAny_pure ?_)
 rw [if_neg (show ¬ (Value.ref C == Value.type "module") = true from fun z=>by cases beq_iff_eq.mp z)]
 refine wpAny_bind ?_
 unfold ownDictForStores instanceDict
 refine wpAny_bind (wpAny_loadPart_at he ?_)
 dsimp only [xrec]
 refine wpAny_bind (PySem.W.Looks.here (s:=⟨h,g,d,t + 1,os⟩) Lc ?_)
 rw [hdi]
 rw [if_neg (by decide)]
 refine wpAny_pure ?_
 exact jqg (mA:=mA) ⟨od,es,ep,hod,hdd⟩ hw hz fun h' tk' n' keep z=>k h' tk' n' keep z
end
end L2
namespace L2
open PySem PySem.Spec PyProof.Rows
noncomputable def exO (a C : Addr) (dd : Option Addr) : HO:=.ext fun h=>∃ t0,h.get? a = some (xrec C t0 dd)
noncomputable def xdO (a : Addr) (fs : List (Str × V)) : HO:=.ext fun h=>∃ mA,h.Ns1 a mA∧(∀ f,RelO (fs.lookup f) (mA f))∧Within mA (fs.map (·.1))
section
variable {P : Program} {w : World} {H : Hp} {h : Heap} {a C : Addr} {dd : Option Addr} {fs : List (Str × V)}
theorem jox {t0 : Addr} (e : h.get? a = some (xrec C t0 dd)) : jb2 P w H h a (exO a C dd):=⟨⟨t0,e⟩,⟨_,e⟩,fun _ _ ⟨t,q⟩ k=>⟨t,k _ q⟩⟩
theorem jiy (e : jb2 P w H h a (exO a C dd)) : ∃ t0,h.get? a = some (xrec C t0 dd):=e.1
theorem jqh {mA : Str→Option Value} (n : h.Ns1 a mA) (r : ∀ f,RelO (fs.lookup f) (mA f)) (wi : Within mA (fs.map (·.1))) : jb2 P w H h a (xdO a fs):=by
 obtain ⟨o,es,ep,e,q⟩:=id n
 exact ⟨⟨mA,n,r,wi⟩,⟨o,e⟩,fun _ _ ⟨m,n1,r1,w1⟩ k=>⟨m,n1.at k,r1,w1⟩⟩
theorem jn7 (e : jb2 P w H h a (xdO a fs)) : ∃ mA,h.Ns1 a mA∧(∀ f,RelO (fs.lookup f) (mA f))∧Within mA (fs.map (·.1)):=e.1
end
section
variable {X : Cx} {pins : List (Addr × Obj)} {σ : St} {H : Hp} {s : Shared} {h' : Heap} {x dx : Addr} {φ : Heap→Prop} {o1 o2 : HO} {t' : Nat}
theorem Inv.lay2 (I : Inv X pins σ H s) (hx : H x = some (.ext φ)) (hd : s.heap.objs.size ≤ dx) (k : ∀ b u,b ≠ x→s.heap.get? b = some u→h'.get? b = some u) (n1 : jb2 X.prog X.w (upd (upd H dx o2) x o1) h' x o1) (n2 : jb2 X.prog X.w (upd (upd H dx o2) x o1) h' dx o2)
  (e1 : ∃ u,h'.get? x = some u) : Inv X pins σ (upd (upd H dx o2) x o1) { s with heap:=h',toks:=t' }:=by
 have fd : H dx = none:=I.hok.fresh hd
 have nx : ∀ b,(∀ ψ,H b ≠ some (.ext ψ))→b ≠ x:=fun b n z=>n φ (by rw [z]; exact hx)
 have nd : ∀ b u,s.heap.get? b = some u→b ≠ dx:=fun b u e=>Nat.ne_of_lt (Nat.lt_of_lt_of_le (Heap.lt_size e) hd)
 have ndH : ∀ b u,H b = some u→b ≠ dx:=fun b u e z=>by rw [z,fd] at e; cases e
 have keepH : ∀ b u,H b = some u→(∀ ψ,u ≠ .ext ψ)→upd (upd H dx o2) x o1 b = some u:=fun b u e n=>by
  rw [ja8 (nx b fun ψ z=>by rw [e] at z; exact n ψ (Option.some.inj z)),ja8 (ndH b u e)]; exact e
 refine I.un ⟨fun b o e n _ _=>k b o (nx b (fun ψ z=>by rw [n] at z; cases z)) e,fun b o e n _ _=>⟨o.slots,k b o (nx b (fun ψ z=>by rw [n] at z; cases z)) e⟩,fun b o e n _=>?_,fun b o e _=>?_,fun b xs e=>keepH b _ e (fun ψ z=>by cases z),fun b o u e=>keepH b _ e (fun ψ z=>by cases z),
  fun b ps e=>⟨#[],by rw [keepH b _ e (fun ψ z=>by cases z)]; simp⟩⟩ fun b u e=>?_
 ·rw [ja8 (nx b (fun ψ z=>by rw [n] at z; cases z)),ja8 (nd b o e)]; exact n
 ·by_cases q : b = x
  ·rw [q]; exact e1
  ·exact ⟨o,k b o q e⟩
 ·by_cases q : b = x
  ·subst q; rw [ja1] at e; cases e; exact n1
  ·rw [ja8 q] at e
   by_cases q2 : b = dx
   ·subst q2; rw [ja1] at e; cases e; exact n2
   ·rw [ja8 q2] at e
    refine (I.hok b u e).stay (fun c v hc z=>k c v ?_ z) (fun c z=>keepH c _ z (fun ψ y=>by cases y)) fun c xs z=>keepH c _ z (fun ψ y=>by cases y)
    rcases hc with z | z
    ·rw [z]; exact q
    ·exact nx c fun ψ y=>by rw [z] at y; cases y
end
section
variable {X : Cx} {o value e : Expr} {es : List Expr} {f x : Str} {p pos pos' apos : Pos} {ta tv : TE} {t : TA} {C T : Addr} {bmB : List Value} {B newId initId : String} {fI : Addr}
noncomputable def sXF (K : PySem.W.Frag) (C : Addr) (ta tv : TE) (f : Str) : TS:=fun D σ H=>tv σ H fun y H1=>ta σ H1 fun u H2=>∃ a,u = .ref a ∧
 ((H2 a = some (exO a C none)∧∀ dx,H2 dx = none→dx ≠ a→D.nx σ (upd (upd H2 dx (xdO dx [(f,y)])) a (exO a C (some dx)))) ∨
  ∃ dx fs,H2 a = some (exO a C (some dx))∧H2 dx = some (xdO dx fs)∧dx ≠ a∧fs.length < 900∧D.nx σ (upd H2 dx (xdO dx (putF f y fs))))
theorem jie (c : XA X.K C) (hf : PySem.W.findIn X.K (.ref C) f = some none) (ha : PE X o ta) (hv : PE X value tv) (hs : swapsWith value (some (.Attribute o f pos')) pos.line X.env = pure false) :
  PS X (.Assign [.Attribute o f pos'] value pos) (sXF X.K C ta tv f):=by
 intro pins s σ H D I h
 refine plainObj_wpAny_Assign_Attribute (thn (hv pins s σ H _ I h) fun u s1 ⟨y,H1,I1,ry,q⟩=>thn (ha pins s1 σ H1 _ I1 q) fun ov s2 ⟨xv,H2,I2,rx,a,ex,q2⟩=>?_) hs
 subst ex
 obtain rfl : ov = Value.ref a:=rx
 rcases q2 with ⟨ea,q2⟩ | ⟨dx,fs,ea,ed,ne,hl,q2⟩
 ·obtain ⟨t0,ga⟩:=jiy (I2.hok a _ ea)
  refine xset0 I2.kIn c ga hf fun h' tk gx nn kp sz=>?_
  have nd : s2.heap.objs.size ≠ a:=Ne.symm (Nat.ne_of_lt (Heap.lt_size ga))
  refine ⟨σ,_,I2.lay2 (x:=a) (dx:=s2.heap.objs.size) (o1:=exO a C (some s2.heap.objs.size)) (o2:=xdO s2.heap.objs.size [(f,y)]) (t':=tk) ea (Nat.le_refl _) kp (jox gx) (jqh nn (fun g=>?_) fun g hg=>?_) ⟨_,gx⟩,q2 _ I2.fresh nd⟩
  ·by_cases e : g = f
   ·subst e; simp only [List.lookup,beq_self_eq_true,if_true]; exact ry
   ·have : (g == f) = false:=by rw [beq_eq_false_iff_ne]; exact e
    simp only [List.lookup,this,if_neg e]
    exact True.intro
  ·by_cases e : g = f
   ·rw [e]; exact List.mem_cons_self ..
   ·exact absurd (if_neg e) hg
 ·obtain ⟨t0,ga⟩:=jiy (I2.hok a _ ea)
  obtain ⟨mA,n0,r0,w0⟩:=jn7 (I2.hok dx _ ed)
  refine xset1 I2.kIn c ga n0 w0 (by rw [List.length_map]; omega) ne hf fun h' tk nn kp sz=>?_
  have gd : ∃ u,h'.get? dx = some u:=let ⟨o,_,_,e',_⟩:=nn; ⟨o,e'⟩
  refine ⟨σ,_,I2.write (x:=dx) (e:=dx) (t':=tk) (o:=xdO dx (putF f y fs)) (by rw [ed]; exact True.intro) (.inl rfl) (fun b q hb z=>(kp b hb).trans z) gd (jqh nn (fun g=>?_) fun g hg=>?_),q2⟩
  ·rw [jgq]
   by_cases e : g = f
   ·rw [if_pos e,if_pos e]; exact ry
   ·rw [if_neg e,if_neg e]; exact r0 g
  ·by_cases e : g = f
   ·rw [e]; exact (jgs f y fs).1
   ·refine (jgs f y fs).2 g (w0 g fun z=>hg ?_)
    rw [if_neg e]; exact z
noncomputable def tXI (C : Addr) (t : TA) : TE:=fun σ H Q=>t σ H fun vs H1=>∃ a rest dd,vs = .ref a :: rest∧H1 a = some (exO a C dd)∧rest.length ≤ sizeLine∧Q .non H1
structure XI (K : PySem.W.Frag) (T : Addr) (initId : String) : Prop where
 rd : PySem.W.readsIn K T (.type "type") = true
 sp : PySem.W.specialIn K (.ref T) "__getattribute__" = some (some (.builtin "type.__getattribute__"))
 at_ : PySem.W.findCls K (.ref T) (.type "type") "__init__" = some (.val (.builtin initId))
 hd : PySem.W.handedIn (.builtin initId) = true
theorem jih {pl : Sem Bool} (F : ExcBaseFacts B newId initId bmB) (c : XI X.K T initId) (hC : jhv X.K C bmB newId fI = true) (hg : Gl X x) (hm : X.mg x = some (.ref T)) (ha : PA X (e :: es) t) (hdb : (x == ("__debug__" : Str)) = false:=by decide)
  (hst : starEach (e :: es) X.env = (false,eval e X.env) :: starEach es X.env:=by rfl) (hpl : (backTo pos (starEach es X.env)).any (·.1) = false:=by rfl)
  (ht : eval (.Call (.Attribute (.Name x p) "__init__" apos) (e :: es) [] pos) X.env = (do
   let ov ← eval (.Name x p) X.env
   standAt apos.atName
   let (f,first) ← holding [ov] (getMethod ov "__init__" pl)
   callWith pos f first (backTo pos (starEach (e :: es) X.env)) (backToKw pos (keywordEach [] X.env))):=by rfl) :
  PE X (.Call (.Attribute (.Name x p) "__init__" apos) (e :: es) [] pos) (tXI C t):=by
 intro pins s σ H Q I h
 refine PySem.W.methodCall_KW (pl:=pl) (jdb I hg hm ?_ hdb) ht
 refine PySem.W.method_cls I.kIn c.sp (PySem.W.cls_value I.kIn c.rd c.at_ c.hd ?_)
 have I0:=I.tok (s.toks + 1)
 refine PyProof.Rows.callWith_builtin1 (thn (ha pos pins _ σ H _ I0 h) fun us s2 ⟨vs,H2,I2,r,a,rest,dd,ev,ea,hl,q⟩=>?_) hst hpl
 subst ev
 match us,r with
 | u1 :: us,.cons r1 r2 =>
  obtain rfl : u1 = Value.ref a:=r1
  obtain ⟨t0,ga⟩:=jiy (I2.hok a _ ea)
  obtain ⟨hh,g,d,tk,os⟩:=s2
  have hl2 : us.length ≤ sizeLine:=by rw [← r2.length]; exact hl
  refine xinit F (jpe I2.kIn hC) ga hl2 fun h' t1 gx kp sz=>?_
  have I3:=I2.write (h':=h') (x:=a) (e:=a) (t':=tk) (o:=exO a C dd) (by rw [ea]; exact True.intro) (.inl rfl) (fun b u n z=>kp b u n z) ⟨_,gx⟩ (jox gx)
  have e : upd H2 a (exO a C dd) = H2:=by
   funext b
   by_cases z : b = a
   ·subst z; rw [ja1]; exact ea.symm
   ·rw [ja8 z]
  rw [e] at I3
  exact ⟨.non,H2,I3,rfl,q⟩
end
end L2
namespace L2
open PySem PySem.Spec PyProof.Rows
noncomputable def del (H : Hp) (x : Addr) : Hp:=fun b=>if b = x then none else H b
theorem jj4 {H : Hp} {x : Addr} : del H x x = none:=if_pos rfl
theorem jht {H : Hp} {x b : Addr} (n : b ≠ x) : del H x b = H b:=if_neg n
theorem jfw {H : Hp} {x b : Addr} (h : H b = none) : del H x b = none:=by
 unfold del
 split
 ·rfl
 ·exact h
theorem Inv.drop {X : Cx} {pins : List (Addr × Obj)} {σ : St} {H : Hp} {s : Shared} {x : Addr} {φ : Heap→Prop} (I : Inv X pins σ H s) (hx : H x = some (.ext φ)) : Inv X pins σ (del H x) s:=by
 have kp : ∀ b u,H b = some u→(∀ ψ,u ≠ .ext ψ)→del H x b = some u:=fun b u e n=>by
  rw [jht fun z=>by rw [z,hx] at e; exact n φ (Option.some.inj e).symm]; exact e
 refine ⟨I.ok,I.os,I.bare,⟨I.base.keep,I.base.slot,fun b o e n hb=>jfw (I.base.free b o e n hb),I.base.there,fun b xs e=>kp b _ (I.base.tups b xs e) (fun ψ z=>by cases z),fun b o u e=>kp b _ (I.base.frzs b o u e) (fun ψ z=>by cases z),fun b ps e=>?_⟩,I.loc,I.cell,jfw I.free,fun y c e=>jfw (I.freeC y c e),
  fun p hp=>let ⟨a,b,c⟩:=I.pin p hp; ⟨a,jfw b,c⟩,fun b u e=>?_,I.len⟩
 ·obtain ⟨m,e'⟩:=I.base.tbls b ps e
  exact ⟨m,kp b _ e' (fun ψ z=>by cases z)⟩
 ·have nb : b ≠ x:=fun z=>by rw [z,jj4] at e; cases e
  rw [jht nb] at e
  exact (I.hok b u e).stay (fun _ _ _ q=>q) (fun c z=>kp c _ z (fun ψ y=>by cases y)) fun c xs z=>kp c _ z (fun ψ y=>by cases y)
noncomputable def XO (X : Cx) (EX : St→XK) : Prop:=∀ e s',XT X EX e s'→X.xe e s'
theorem jjb {Y : Cx} {pins : List (Addr × Obj)} {EX : St→XK} : XO (Y.tr pins EX) EX:=fun e s' ⟨x,cl,dd,σ,H,B,e1,I,hx,nx,c,q,m⟩=>⟨x,cl,dd,σ,H,B,e1,I.xe',hx,nx,⟨c.tr,c.old,c.pin,c.cel⟩,q,m⟩
section
variable {X : Cx} {EX : St→XK} {k : Nat} {fI C : Addr} {fd : FuncData} {ps : List Str} {sp : Sp} {x : Str} {p cpos pos : Pos} {e : Expr} {es : List Expr} {t : TA} {bmB : List Value} {B newId initId : String}
noncomputable def jd6 (C : Addr) (sp : Sp) (EX : St→XK) (t : TA) : TS:=fun _ σ H=>t σ H fun vs H1=>vs.length ≤ sizeLine∧∀ a,H1 a = none →
 sp (.ref a :: vs) (upd H1 a (exO a C none)) (fun v H2=>v = .non∧∃ dd,H2 a = some (exO a C dd)∧EX σ (.ref C) dd (del H2 a)) E0
theorem jcg (F : ExcBaseFacts B newId initId bmB) (hC : jhv X.K C bmB newId fI = true) (hfn : PySem.W.typeIn X.K (.ref fI) = some (.type "function")) (G : FnOk X.prog X.w X.K X.mg X.base CX0 k fI fd ps sp) (hb : je3 X.K fd ps []) (hr : Room (k + 1) X.A) (hg : Gl X x)
  (hm : X.mg x = some (.ref C)) (hk : PySem.W.keepIn X.K (.ref C) = true) (d : Df X) (xo : XO X EX) (ha : PA X (e :: es) t) (hdb : (x == ("__debug__" : Str)) = false:=by decide)
  (he : starEach (e :: es) X.env = (false,eval e X.env) :: starEach es X.env:=by rfl) (hpl : (backTo cpos (starEach es X.env)).any (·.1) = false:=by rfl) :
  PS X (.Raise (some (.Call (.Name x p) (e :: es) [] cpos)) none pos) (jd6 C sp EX t):=by
 intro pins s σ H D I h
 rw [arm_exec_Raise]
 refine wpAny_bind (wpAny_standAt ?_)
 refine xraise (C:=C) (bmB:=bmB) (newId:=newId) (fI:=fI) F.hasBase hr.hd (wpAny_bind (wpAny_mono (wpAny_Call_Name_kw (jdb I hg hm ?_ hdb)) (fun v s3 h3=>wpAny_bind (wpAny_standAt (wpAny_pure h3))) fun _ _ z=>z))
 refine PySem.W.callWith_K (h₀:=X.base) I.ok.mod.kin hk (thn (ha cpos pins s σ H _ I h) fun us s1 ⟨vs,H1,I1,r,hl,q⟩=>⟨I1.kIn,?_⟩) he hpl
 obtain ⟨h,g,dr,tk,os⟩:=s1
 obtain ⟨oI,gI,cI⟩ : ∃ oI,h.get? fI = some oI∧oI.cls = .type "function":=by
  obtain ⟨o,ho,hc⟩:=Option.map_eq_some_iff.mp (show (X.K.lookup fI).map (·.cls) = some (.type "function") from hfn)
  exact ⟨o,I1.kIn _ _ ho,hc⟩
 have hl2 : us.length ≤ sizeLine:=by rw [← r.length]; exact hl
 refine xmake F (jpe I1.kIn hC) gI cI hl2 ?_
 have hq:=q (h.objs.size + 1) (I1.hok.fresh (Nat.le_succ _))
 have Ia:=I1.kept (h':=h.push { cls:=.type "tuple",data:=.seq us.toArray }) (t':=tk) (fun b u z=>Heap.get?_push_of_some _ z)
 have gx : ((h.push { cls:=.type "tuple",data:=.seq us.toArray }).push (xrec C h.objs.size none)).get? (h.objs.size + 1) = some (xrec C h.objs.size none):=Heap.get?_push_at (by rw [Heap.size_push]) rfl
 have Ib:=Ia.laid (a:=h.objs.size + 1) (o:=exO (h.objs.size + 1) C none) (h':=(h.push { cls:=.type "tuple",data:=.seq us.toArray }).push (xrec C h.objs.size none)) (t':=tk) (fun b u z=>Heap.get?_push_of_some _ z) (Nat.le_of_eq (Heap.size_push _ _)) (jox gx)
 have r2 : Vals (V.ref (h.objs.size + 1) :: vs) (Value.ref (h.objs.size + 1) :: us):=.cons rfl r
 have hlen : (Value.ref (h.objs.size + 1) :: us).length = ps.length:=by rw [← r2.length]; exact G.len _ _ _ _ hq
 have bd:=hb _ (Value.ref (h.objs.size + 1) :: us) Ib.kIn (by rw [List.append_nil]; exact hlen)
 rw [List.append_nil] at bd
 refine wpAny_call (codeAny_mono (G.run _ X.stack _ _ ⟨Value.ref (h.objs.size + 1) :: us,[]⟩ (Value.ref (h.objs.size + 1) :: us) _ _ E0 (hr.make C us []) (Ib.env0.make C us []) bd r2 hq) fun rr s' hq'=>?_)
 cases rr with
 | error e=>exact jaq pins σ _ _ e s' Ib hq'
 | ok fl =>
  cases fl with
  | next=>exact False.elim hq'
  | brk=>exact False.elim hq'
  | cont=>exact False.elim hq'
  | ret u =>
   obtain ⟨v,H2,I3,rv,ev,dd,ea,q3⟩:=Ib.after hq'
   subst ev
   obtain ⟨t0,ga⟩:=jiy (I3.hok _ _ ea)
   have I4:=(I3.drop ea).nopins
   have px : ∀ p ∈ X.pn,p.1 ≠ h.objs.size + 1:=fun p hp=>Nat.ne_of_lt (Nat.lt_succ_of_lt (Heap.lt_size (I1.pin p (List.mem_append_left _ hp)).1))
   have cx : ∀ y c,X.env.cells.lookup y = some c→c ≠ h.objs.size + 1:=fun y c e=>by
    obtain ⟨v,o,ho,_⟩:=I1.cell y c e
    exact Nat.ne_of_lt (Nat.lt_succ_of_lt (Heap.lt_size ho))
   have nx : X.s₀.heap.objs.size ≤ h.objs.size + 1:=Nat.le_succ_of_le I1.sz
   obtain ⟨cv,st,nb,fu⟩:=jq8 I4 d jj4 nx px cx
   refine ⟨rv,h.objs.size + 1,dd,.ref t0,rfl,jpe I3.kIn hC,ga,xo _ _ ⟨h.objs.size + 1,.ref C,dd,σ,_,_,rfl,I4,jj4,nx,cv,q3,.new ga rfl rfl rfl rfl (fun _=>rfl) st nb fu⟩⟩
end
end L2
namespace L2
open PySem PySem.Spec PyProof.Rows
noncomputable def caO (a : Addr) (cl : Value) (dd : Option Addr) : HO:=.ext fun h=>∃ o ws,h.get? a = some o∧o.cls = cl∧o.dict = dd∧o.data = .fields ws
theorem caO_ok {P : Program} {w : World} {H : Hp} {h : Heap} {a : Addr} {cl : Value} {dd : Option Addr} {o : Obj} {ws : Array Value} (e : h.get? a = some o) (h1 : o.cls = cl) (h2 : o.dict = dd) (h3 : o.data = .fields ws) : jb2 P w H h a (caO a cl dd) :=
 ⟨⟨o,ws,e,h1,h2,h3⟩,⟨o,e⟩,fun _ _ ⟨o,ws,e,q⟩ k=>⟨o,ws,k _ e,q⟩⟩
theorem js3 {P : Program} {w : World} {H : Hp} {h : Heap} {a : Addr} {cl : Value} {dd : Option Addr} (e : jb2 P w H h a (caO a cl dd)) : ∃ o ws,h.get? a = some o∧o.cls = cl∧o.dict = dd∧o.data = .fields ws:=e.1
section
variable {X : Cx} {pins : List (Addr × Obj)} {σ : St} {H : Hp} {s : Shared} {x : Addr} {o : HO}
theorem Inv.adopt (I : Inv X pins σ H s) (hx : H x = none) (nx : X.s₀.heap.objs.size ≤ x) (nl : X.env.locals ≠ x) (nc : ∀ y c,X.env.cells.lookup y = some c→c ≠ x) (np : ∀ p ∈ X.pn ++ pins,p.1 ≠ x) (new : jb2 X.prog X.w (upd H x o) s.heap x o) :
  Inv X pins σ (upd H x o) s:=by
 have kp : ∀ b u,H b = some u→upd H x o b = some u:=fun b u e=>by rw [ja8 fun z=>by rw [z,hx] at e; cases e]; exact e
 refine ⟨I.ok,I.os,I.bare,⟨I.base.keep,I.base.slot,fun b o e n hb=>?_,I.base.there,fun b xs e=>kp b _ (I.base.tups b xs e),fun b o u e=>kp b _ (I.base.frzs b o u e),fun b ps e=>?_⟩,I.loc,I.cell,(by rw [ja8 nl]; exact I.free),fun y c e=>by rw [ja8 (nc y c e)]; exact I.freeC y c e,
  fun p hp=>let ⟨a,b,c⟩:=I.pin p hp; ⟨a,by rw [ja8 (np p hp)]; exact b,c⟩,fun b u e=>?_,I.len⟩
 ·rw [ja8 (Nat.ne_of_lt (Nat.lt_of_lt_of_le (Heap.lt_size e) nx))]; exact I.base.free b _ e n hb
 ·obtain ⟨m,e'⟩:=I.base.tbls b ps e
  exact ⟨m,kp b _ e'⟩
 ·by_cases q : b = x
  ·subst q; rw [ja1] at e; cases e; exact new
  ·rw [ja8 q] at e
   exact (I.hok b u e).stay (fun _ _ _ q=>q) (fun c z=>kp c _ z) fun c xs z=>kp c _ z
theorem jiu {M : Model} {A : Around} {E : Value→Shared→Prop} {i : Nat} {n : Str} {pos : Pos} {Q : Unit→Shared→Prop} (I : Inv X pins σ H s) (hN : X.N.Nodup) (hi : X.N[i]? = some n) (hk : X.env.scope.names.lookup n = some .local)
  (h : ∀ s',Inv X pins (σ.set i none) H s'→Q () s') : wpAny M A (do bindName X.env n .none; unbindBehindTheSuite X.env n pos) Q E s:=by
 obtain ⟨m,hn,hl⟩:=id I.loc
 have hcls : (X.env.scope.kind == .class || (X.env.scope.kind == .module && X.env.locals != X.env.globals)) = false:=by rw [I.ok.kind]; rfl
 obtain ⟨oL,_,_,hoL,_⟩:=id hn
 have ab : ∀ {b o},X.s₀.heap.get? b = some o→b ≠ X.env.locals:=fun e=>Nat.ne_of_lt (Nat.lt_of_lt_of_le (Heap.lt_size e) I.ok.above)
 refine wpAny_nameGoes_keeps hk hn hcls fun h' v hn' hs=>?_
 refine h _ ⟨I.ok,I.os,I.bare,⟨fun b o e n hb hx=>(hs.2 b (ab e)).trans (I.base.keep b o e n hb hx),fun b o e n hb hx=>?_,I.base.free,fun b o e hx=>?_,I.base.tups,I.base.frzs,I.base.tbls⟩,⟨_,hn',fun j y v' e1 e2 e3=>?_⟩,fun y c e=>?_,I.free,I.freeC,fun p hp=>?_,fun b ob e=>?_,by simpa using I.len⟩
 ·obtain ⟨sl,e1⟩:=I.base.slot b o e n hb hx
  exact ⟨sl,(hs.2 b (ab e)).trans e1⟩
 ·obtain ⟨o',e1⟩:=I.base.there b o e hx
  exact ⟨o',(hs.2 b (ab e)).trans e1⟩
 ·have hj : j ≠ i:=fun z=>by
   subst z
   rw [List.getElem?_set_self (by rw [I.len]; exact (List.getElem?_eq_some_iff.mp hi).1)] at e2
   cases e2
  rw [List.getElem?_set_ne (Ne.symm hj)] at e2
  obtain ⟨u',r',q⟩:=hl j y v' e1 e2 e3
  refine ⟨u',r',?_⟩
  rcases q with ⟨k,e⟩ | ⟨k,c,e,z⟩
  ·refine .inl ⟨k,?_⟩
   have : y ≠ n:=fun e=>hj (jip hN e1 (e ▸ hi))
   simp [this,e]
  ·exact .inr ⟨k,c,e,z.sameBut hs (I.cne y c e)⟩
 ·obtain ⟨v0,z⟩:=I.cell y c e
  exact ⟨v0,z.sameBut hs (I.cne y c e)⟩
 ·obtain ⟨g,q,ne,r⟩:=I.pin p hp
  exact ⟨(hs.2 p.1 ne).trans g,q,ne,r⟩
 ·refine (I.hok b ob e).stay (fun c w' hc q=>(hs.2 c ?_).trans q) (fun _ q=>q) fun _ _ q=>q
  rintro rfl
  rcases hc with rfl | hc
  ·rw [I.free] at e; cases e
  ·rw [I.free] at hc; cases hc
end
noncomputable def Cx.hnd (X : Cx) (x : Addr) : Cx:={ X with A:=X.A.mark (some (.ref x)),calm:=false,xe:=fun _ _=>False }
theorem Cx.Ok.hnd {X : Cx} (ok : X.Ok) (x : Addr) : (X.hnd x).Ok:=⟨ok.mod,ok.kind,ok.glob,ok.blt,ok.above,ok.inj,ok.has,ok.cab,(fun z=>by cases z),ok.frames,ok.stk,ok.exf,ok.bs,ok.bsz,ok.noex,ok.exfs,ok.funs,ok.frf⟩
theorem Inv.toHnd {X : Cx} {pins : List (Addr × Obj)} {σ : St} {H : Hp} {s : Shared} (I : Inv X pins σ H s) (x : Addr) : Inv (X.hnd x) pins σ H s:=⟨I.ok.hnd x,I.os,I.bare,I.base,I.loc,I.cell,I.free,I.freeC,I.pin,I.hok,I.len⟩
theorem Inv.unHnd {X : Cx} {pins : List (Addr × Obj)} {σ : St} {H : Hp} {s : Shared} {x : Addr} (I : Inv (X.hnd x) pins σ H s) (ok : X.Ok) : Inv X pins σ H s:=⟨ok,I.os,I.bare,I.base,I.loc,I.cell,I.free,I.freeC,I.pin,I.hok,I.len⟩
theorem Inv.pn2 {X : Cx} {pins : List (Addr × Obj)} {σ : St} {H : Hp} {s : Shared} (I : Inv ({ X with pn:=X.pn ++ pins } : Cx) [] σ H s) (ok : X.Ok) : Inv X pins σ H s :=
 ⟨ok,I.os,I.bare,I.base,I.loc,I.cell,I.free,I.freeC,fun p hp=>I.pin p (by
  show p ∈ (X.pn ++ pins) ++ []
  simpa using hp),I.hok,I.len⟩
noncomputable def Mch (K : PySem.W.Frag) (C : Addr) (cl : Value) : Prop:=∀ (prog : Program) (w : World) (A : Around) (E : Value→Shared→Prop) (s : Shared) (e : Addr) (o : Obj) (Q : Bool→Shared→Prop),K.In s.heap→s.heap.get? e = some o→o.cls = cl→Q true s→wpAny (model prog w) A (excMatches (.ref e) (.ref C)) Q E s
theorem jq0 {K : PySem.W.Frag} {C fI : Addr} {bmB : List Value} {newId : String} (q : jhv K C bmB newId fI = true) (hb : bmB.contains (.type "BaseException") = true) : Mch K C (.ref C):=by
 intro prog w A E s e o Q X he hc k
 obtain ⟨bm,N,nm,q,bs,sn,sub,ab,col,dd,k0,k1,k2,k3,k5,mN,hC,hn,hi,T⟩:=(jpe X q).ex
 obtain ⟨h,g,d,t,os⟩:=s
 exact wpAny_excMatches_sub_self hC he hc (T.hasType hb) k
noncomputable def Ends.unb (D : Ends) (i : Nat) : Ends:={ nx:=fun σ H=>D.nx (σ.set i none) H,rt:=D.rt,bk:=fun σ H=>D.bk (σ.set i none) H,ct:=fun σ H=>D.ct (σ.set i none) H }
noncomputable def tTry (mt : Value→Prop) (i : Nat) (tb : (St→XK)→TS) (th : TS) : TS:=fun D σ H=>tb (fun σ' cl dd H'=>mt cl∧∀ x,H' x = none→th (D.unb i) (σ'.set i (some (.ref x))) (upd H' x (caO x cl dd))) D σ H
section
variable {X : Cx} {x n : Str} {np hpos pos : Pos} {body suite : List Stmt} {b0 : Stmt} {C : Addr} {mt : Value→Prop} {i : Nat} {tb : (St→XK)→TS} {th : TS}
theorem jpr (d : Df X) (hN : X.N.Nodup) (hi : X.N[i]? = some n) (hk : X.env.scope.names.lookup n = some .local) (hg : Gl X x) (hm : X.mg x = some (.ref C)) (hM : ∀ cl,mt cl→Mch X.K C cl)
  (hb : ∀ pins EX,PSs (X.tr pins EX) body (tb EX)) (hs : ∀ a,PSs (X.hnd a) (b0 :: suite) th) (hdb : (x == ("__debug__" : Str)) = false:=by decide) :
  PS X (.Try body [.ExceptHandler (some (.Name x np)) (some n) (b0 :: suite) hpos] [] [] pos) (tTry mt i tb th):=by
 intro pins s σ H D I h
 have d' : Df ({ X with pn:=X.pn ++ pins } : Cx):=⟨d.stk,d.fr,d.ex,d.fn⟩
 have fr' : X.A.frames = some (X.env :: X.outer):=by rw [← d.stk]; exact I.ok.frames
 refine wpAny_Try_except (wpAny_mono (hb pins _ [] s σ H D (I.tr _) h) (fun f s1 hf=>?_) fun e s1 hx=>?_)
 ·cases f with
  | next =>
   obtain ⟨σ',H',J,q⟩:=hf
   exact jag pins s1 σ' H' D (J.untr I.ok) q
  | ret u=>obtain ⟨v,σ',H',J,r,q⟩:=hf; exact ⟨v,σ',H',J.untr I.ok,r,q⟩
  | brk=>obtain ⟨σ',H',J,q⟩:=hf; exact ⟨σ',H',J.untr I.ok,q⟩
  | cont=>obtain ⟨σ',H',J,q⟩:=hf; exact ⟨σ',H',J.untr I.ok,q⟩
 ·obtain ⟨a,cl,dd,σ1,H1,B,rfl,J,hxn,nx,c,⟨hmt,q⟩,m⟩:=hx
  have go : ∀ h2,FlyD B X.stack a cl dd (rawInt X.env.locals) h2→s1.heap.UpToSlots h2→wpAny (model X.prog X.w) X.A (setFlight (.ref a) none) (fun _ s3=>wpAny (model X.prog X.w) X.A (handleBy (.ref a) X.env [.ExceptHandler (some (.Name x np)) (some n) (b0 :: suite) hpos]) (SP X pins D) X.xe s3) X.xe { s1 with heap:=h2 }:=by
   intro h2 f2 u2
   refine jf4 (s:={ s1 with heap:=h2 }) none f2 fun h3 f3 u3=>?_
   have J3:=(J.viaB d' c f3.stays (u2.trans u3)).pn2 I.ok
   have c3:=c.next f3.stays
   refine wpAny_handleBy_cons (codeAny_handlers_test (jdb (X:=X.hnd a) (J3.toHnd a) hg hm ?_ hdb)) (by intro z; cases z)
   obtain ⟨ox,ws,gx,cx,dx,ex⟩:=f3.there
   refine hM cl hmt _ _ _ _ _ a ox _ J3.kIn gx cx (codeAny_handlers_suite_as ?_)
   refine jf4 (s:={ s1 with heap:=h3 }) none f3 fun h4 f4 u4=>?_
   have J4:=(J.viaB d' c f4.stays ((u2.trans u3).trans u4)).pn2 I.ok
   obtain ⟨ox,ws,gx,cx,dx,ex⟩:=f4.there
   have nl : X.env.locals ≠ a:=fun z=>by
    obtain ⟨m,⟨o,es,ep,ho,hd,_⟩,_⟩:=J4.loc
    rw [z] at ho
    rw [show h4.get? a = some ox from gx] at ho
    cases ho
    rw [ex] at hd
    cases hd
   have J5:=J4.adopt (x:=a) (o:=caO a cl dd) hxn nx nl (fun y cc e z=>by
    obtain ⟨q1,_,q2⟩:=c.cel y cc e
    rw [z,f4.new] at q2
    cases q2) (fun p hp z=>by
    have:=c.pin p hp
    rw [z,f4.new] at this
    cases this) (caO_ok gx cx dx ex)
   refine jfn (X:=X) (A:=(X.hnd a).A) J5 hN hi (.inl hk) (v:=.ref a) rfl (fun s6 J6=>?_) (.inr hk)
   refine wpAny_mono (hs a pins s6 _ _ (D.unb i) (J6.toHnd a) (q a hxn)) (fun f s7 hf=>?_) fun _ _ z=>z.elim
   cases f with
   | next =>
    obtain ⟨σ',H',J7,q7⟩:=hf
    exact jiu (J7.unHnd I.ok) hN hi hk fun s8 J8=>⟨_,_,J8,q7⟩
   | ret u =>
    obtain ⟨v,σ',H',J7,r,q7⟩:=hf
    exact jiu (J7.unHnd I.ok) hN hi hk fun s8 J8=>⟨v,_,_,J8,r,q7⟩
   | brk =>
    obtain ⟨σ',H',J7,q7⟩:=hf
    exact jiu (J7.unHnd I.ok) hN hi hk fun s8 J8=>⟨_,_,J8,q7⟩
   | cont =>
    obtain ⟨σ',H',J7,q7⟩:=hf
    exact jiu (J7.unHnd I.ok) hN hi hk fun s8 J8=>⟨_,_,J8,q7⟩
  cases m with
  | new gx c1 c2 dx w1 w2 st nb fu =>
   rw [show ({ X with pn:=X.pn ++ pins } : Cx).stack = X.env :: X.outer from d.stk] at fu
   subst c1; subst c2
   exact jod fr' fu d.fr gx st nb dx w1 w2 fun h1 f1 u1=>go h1 (by rw [d.stk]; exact f1) u1
  | fly f =>
   rw [show ({ X with pn:=X.pn ++ pins } : Cx).stack = X.env :: X.outer from d.stk] at f
   exact jrk fr' d.fr f fun h1 f1 u1=>go h1 (by rw [d.stk]; exact f1) u1
  | held f=>exact jgo d.fr f (go s1.heap f (Heap.UpToSlots.refl _))
end
end L2
namespace L2
open PySem PySem.Spec PyProof.Rows
theorem jo3 {X : Cx} {x : Str} {p : Pos} {a : Addr} (hg : Gl X x) (hm : X.mg x = some (.ref a)) (hdb : (x == ("__debug__" : Str)) = false:=by decide) : PE X (.Name x p) (tC (.ref a)):=by
 intro pins s σ H Q I h
 exact jdb I hg hm ⟨.ref a,H,I,rfl,h⟩ hdb
section
variable {X : Cx} {C dx a : Addr} {fs : List (Str × V)} {H : Hp} {s : Shared}
theorem xinst {pins : List (Addr × Obj)} {σ : St} (I : Inv X pins σ H s) (ea : H a = some (caO a (.ref C) (some dx))) (ed : H dx = some (xdO dx fs)) : ∃ (ox od : Obj) (mA : Str→Option Value),PySem.W.InstAt s.heap a ox C (some od)∧(∀ f,RelO (fs.lookup f) (mA f))∧∀ f,PySem.W.lookIn f od = some (mA f):=by
 obtain ⟨o,ws,go,c1,c2,c3⟩:=js3 (I.hok a _ ea)
 obtain ⟨mA,n,r,_⟩:=jn7 (I.hok dx _ ed)
 obtain ⟨od,gd,hl⟩:=jjy n
 refine ⟨o,od,mA,⟨go,c1,?_,?_⟩,r,hl⟩
 ·unfold PySem.W.notCls
  rw [c3]
 ·rw [c2]
  exact gd
end
end L2
namespace L2
open PySem PySem.Spec PyProof.Rows Builtin Builtin.ObjectAttr
structure XG (K : PySem.W.Frag) (C : Addr) : Prop where
 ga : PySem.W.findIn K (.ref C) "__getattribute__" = some (some (.builtin "BaseException.__getattribute__"))
 gt : PySem.W.findIn K (.ref C) "__getattr__" = some none
 sub : PySem.W.mroIn K C (.type "BaseException") = some true
section
variable {prog : Program} {w : World} {A : Around} {E : Value→Shared→Prop} {s : Shared} {K : PySem.W.Frag} {x C : Addr} {ox : Obj} {od : Option Obj} {name : Str} {v : Value}
theorem xby {tk : Tok} {fill expr : Bool} {Q : Value→Shared→Prop} (X : K.In s.heap) (c : XG K C) (I : PySem.W.InstAt s.heap x ox C od)
  (k : wpAny (model prog w) A.in1 (Builtin.«object.__getattribute__» ⟨[.ref x,.str name tk],[]⟩) (fun fin s'=>match fin with | .done (.ret v)=>wpAny (model prog w) A (handedOut v) Q E s' | _=>False) (fun _ _=>False) s) :
  wpAny (model prog w) A (getAttrBy (.ref x) (.str name tk) fill expr) Q E s:=by
 have SF:=PySem.F.attr_ValueError.ga
 unfold getAttrBy
 refine wpAny_holding (wpAny_bind (PySem.W.Looks.here I.type (wpAny_bind (PySem.W.Looks.here (PySem.W.looks_findIn X c.ga) ?_))))
 dsimp only
 rw [show (onTheHeap (Value.ref C) && Value.builtin "BaseException.__getattribute__" == Value.builtin "object.__getattribute__") = false from by rw [show (Value.builtin "BaseException.__getattribute__" == Value.builtin "object.__getattribute__") = false from by decide +kernel,Bool.and_false],if_neg (by decide)]
 unfold getAttrByItsOwn
 refine wpAny_bind (PySem.W.Looks.here (PySem.W.looks_hook X (r:=none) (by rw [if_pos (show onTheHeap (Value.ref C) = true from rfl)]; exact c.gt)) (wpAny_bind (wpAny_attempt (wpAny_holding ?_))))
 unfold callGetattribute
 rw [show (expr && onTheHeap (Value.builtin "BaseException.__getattribute__")) = false from Bool.and_false _,if_neg (by decide)]
 unfold boundAndCalled
 rw [SF.bind]
 refine wpAny_bind (wpAny_pure ?_)
 show wpAny _ _ (call (.builtin "BaseException.__getattribute__") [.ref x,.str name tk]) _ _ _
 refine wpAny_call (codeAny_call_builtin SF.plain PySem.F.entry_bexc_ga ?_)
 refine @PySem.W.check_slot (model prog w) _ _ s "BaseException.__getattribute__" "BaseException" "__getattribute__" (.ref x) [.str name tk] [] _ (by decide +kernel) (by decide +kernel) (I.type.andThen (PySem.W.looks_mroIn X c.sub)) (PySem.F.args_bexc_ga (.ref x) (.str name tk)) ?_
 refine wpAny_mono k (fun fin s' z=>?_) fun _ _ z=>z.elim
 rcases fin with (_ | _ | _ | _) | _ <;> first | exact z | exact z.elim
theorem jmc {expr : Bool} {Q : Value→Shared→Prop} (X : K.In s.heap) (c : XG K C) (I : PySem.W.InstAt s.heap x ox C od) (hf : PySem.W.findObj K C od name = some (.value v)) (hh : PySem.W.handedIn v = true) (h : Q v { s with toks:=s.toks + 1 }) :
  wpAny (model prog w) A (getAttr (.ref x) name expr) Q E s:=by
 unfold getAttr
 refine wpAny_bind (wpAny_mkText (xby (s:={ s with toks:=s.toks + 1 }) X c I ?_))
 obtain ⟨h0,g,d,t,os⟩:=s
 have L0:=I.type (M:=model prog w)
 have L1:=PySem.W.looks_find (M:=model prog w) X I hf
 refine wpAny_bind (wpAny_pure (wpAny_bind (wpAny_pure (wpAny_bind (L0.at (wpAny_bind (L1.at ?_)))))))
 refine wpAny_pure ?_
 show wpAny _ _ (handedOut v) _ _ _
 rw [PySem.W.handedOut_of hh]
 exact wpAny_pure h
end
structure XY (K : PySem.W.Frag) (C : Addr) : Prop where
 g : XG K C
 hd : PySem.W.hasDictIn K C = true
 ha : PySem.W.findIn K (.ref C) "__class__" = some (some (.builtin "object.__class__"))
 hn : PySem.W.specialIn K (.builtin "object.__class__") "__get__" = some (some (.builtin "getset_descriptor.__get__"))
 ht : PySem.W.takesIn K (.builtin "object.__class__") = some true
 hm : PySem.W.mroIn K C (.type "object") = some true
section
variable {X : Cx} {C dx a : Addr} {fs : List (Str × V)} {H : Hp} {s : Shared}
noncomputable def tXG (C : Addr) (ta : TE) (f : Str) : TE:=fun σ H Q=>ta σ H fun u H1=>∃ a dx fs v,u = .ref a∧H1 a = some (caO a (.ref C) (some dx))∧H1 dx = some (xdO dx fs)∧fs.lookup f = some v∧Q v H1
theorem jo2 {e : Expr} {f : Str} {pos : Pos} {ta : TE} (y : XY X.K C) (hf : PySem.W.findIn X.K (.ref C) f = some none) (he : PE X e ta) (hb : attributeBase e f X.env (eval e X.env) = eval e X.env) : PE X (.Attribute e f pos) (tXG C ta f):=by
 intro pins s σ H Q I h
 refine js4 hb (thn (he pins s σ H _ I h) fun u s1 ⟨x,H1,I1,rx,a,dx,fs,v,ex,ea,ed,l,q⟩=>?_)
 subst ex
 obtain rfl : u = Value.ref a:=rx
 obtain ⟨ox,od,mA,J,r,hl⟩:=xinst I1 ea ed
 obtain ⟨w,hw,rw'⟩:=RelO.some_of (v:=v) (o:=mA f) (by rw [← l]; exact r f)
 exact jmc I1.kIn y.g J (PySem.W.findObj_own y.hd hf rfl (by rw [hl,hw])) (jou rw') ⟨v,H1,I1.tok _,rw',q⟩
end
end L2
namespace L2
open PySem PySem.Spec PyProof.Rows
section
variable {X : Cx}
noncomputable def jde : V→List V→Hp→VK→Prop:=fun x vs H Q=>match x,vs with
 | .ref l,[.int k,y]=>match H l with
  | some (.lst xs)=>(0 ≤ k∧k ≤ xs.length∧xs.length < 1000)∧Q .non (upd H l (.lst (xs.take k.toNat ++ y :: xs.drop k.toNat)))
  | _=>False
 | _,_=>False
theorem ps_fr {st : Stmt} {t : TS} (h : X.A.frames = some X.stack→PS X st t) : PS X st t:=fun pins s σ H D I hw=>h I.ok.frames pins s σ H D I hw
end
theorem jif {Y : Cx} {pins : List (Addr × Obj)} {EX : St→XK} {tg iter : Expr} {body : List Stmt} {wi : TI} {g : TG} {tb : TS} {pos : Pos} (d : Df Y) (hc : (Y.tr pins EX).calm = true) (hi : PI (Y.tr pins EX) tg iter wi) (hg : PG (Y.tr pins EX) tg g) (hb : PSs (Y.tr pins EX) body tb)
  (hs : ∀ x,foldedSetIterable iter (Y.tr pins EX).env x = pure x:=by intro _; rfl) : PS (Y.tr pins EX) (.For tg iter body [] pos) (tFor wi g tb):=ps_fr fun fr=>jbi (ownT (X:=Y) d fr) hc hi hg hb hs
structure ClsX (K : PySem.W.Frag) (mg : Str→Option Value) (x : Str) (C fI : Addr) : Prop where
 m : mg x = some (.ref C)
 kp : PySem.W.keepIn K (.ref C) = true
 xin : jhv K C bmV "ValueError.__new__" fI = true
 fn : PySem.W.typeIn K (.ref fI) = some (.type "function")
 a : XA K C
 y : XY K C
structure InitAt (K : PySem.W.Frag) (qual : Str) (st : Stmt) (ps : List Str) (f : Addr) (fd : FuncData) : Prop where
 F : Fun K "__init__" qual st f fd
 b : je3 K fd ps []
noncomputable def jg5 (C : Addr) (f : Str) : Sp:=fun vs H Q _=>∃ a y,vs = [.ref a,y]∧H a = some (exO a C none)∧∀ dx,H dx = none→dx ≠ a→Q .non (upd (upd H dx (xdO dx [(f,y)])) a (exO a C (some dx)))
noncomputable def jg4 (C : Addr) (f g : Str) : Sp:=fun vs H Q _=>∃ a y z,vs = [.ref a,y,z]∧H a = some (exO a C none)∧∀ dx,H dx = none→dx ≠ a→Q .non (upd (upd (upd H dx (xdO dx [(f,y)])) a (exO a C (some dx))) dx (xdO dx (putF g z [(f,y)])))
theorem jnr {C a : Addr} {f : Str} {y : V} {H : Hp} {E : XK} (ha : H a = none) (h : ∀ dx H',H dx = none→Same H H'→H' dx = some (xdO dx [(f,y)])→E (.ref C) (some dx) H') :
  jg5 C f [.ref a,y] (upd H a (exO a C none)) (fun v H2=>v = .non∧∃ dd,H2 a = some (exO a C dd)∧E (.ref C) dd (del H2 a)) E0:=by
 refine ⟨a,y,rfl,ja1,fun dx hd ne=>⟨rfl,some dx,ja1,?_⟩⟩
 have hd0 : H dx = none:=by rw [ja8 ne] at hd; exact hd
 refine h dx _ hd0 (fun b o e=>?_) ?_
 ·have na : b ≠ a:=fun z=>by rw [z,ha] at e; cases e
  have nd : b ≠ dx:=fun z=>by rw [z,hd0] at e; cases e
  rw [jht na,ja8 na,ja8 nd,ja8 na]
  exact e
 ·rw [jht ne,ja8 ne,ja1]
end L2
namespace L2
open PySem PySem.Spec PyProof.Rows
structure RoomH (k : Nat) (A : Around) : Prop where
 dp : A.depth + 3 * k + 5 < recursionLimit
 un : A.units + 16 * k + 200 < cLine
theorem Room.h {j k : Nat} {A : Around} (r : Room k A) (h : j ≤ k) : RoomH j A:=⟨(r.mono h).dp,(r.mono h).un⟩
theorem RoomH.mono {j k : Nat} {A : Around} (r : RoomH k A) (h : j ≤ k) : RoomH j A:=⟨by have:=r.dp; omega,by have:=r.un; omega⟩
section
variable {P : Program} {w : World} {K : PySem.W.Frag} {mg : Str→Option Value} {base : Heap}
end
section
variable {X : Cx} {k : Nat} {f : Addr} {fd : FuncData} {ps : List Str} {sp : Sp} {x : Str} {p pos : Pos} {e : Expr} {es : List Expr} {t : TA}
end
section
variable {X : Cx} {C : Addr}
end
end L2
namespace L2
open PySem PySem.Spec PyProof.Rows
section
variable {X : Cx} {x n : Str} {np hpos pos : Pos} {body suite : List Stmt} {b0 : Stmt} {C : Addr} {mt : Value→Prop} {tb : (St→XK)→TS} {th : TS}
end
theorem jgc {C a : Addr} {f g : Str} {y z : V} {H : Hp} {E : XK} (ha : H a = none) (h : ∀ dx H',H dx = none→Same H H'→H' dx = some (xdO dx (putF g z [(f,y)]))→E (.ref C) (some dx) H') :
  jg4 C f g [.ref a,y,z] (upd H a (exO a C none)) (fun v H2=>v = .non∧∃ dd,H2 a = some (exO a C dd)∧E (.ref C) dd (del H2 a)) E0:=by
 refine ⟨a,y,z,rfl,ja1,fun dx hd ne=>⟨rfl,some dx,by rw [ja8 (Ne.symm ne),ja1],?_⟩⟩
 have hd0 : H dx = none:=by rw [ja8 ne] at hd; exact hd
 refine h dx _ hd0 (fun b o e=>?_) ?_
 ·have na : b ≠ a:=fun z=>by rw [z,ha] at e; cases e
  have nd : b ≠ dx:=fun z=>by rw [z,hd0] at e; cases e
  rw [jht na,ja8 nd,ja8 na,ja8 nd,ja8 na]
  exact e
 ·rw [jht ne,ja1]
end L2
namespace L2
open PySem PySem.Spec PyProof.Rows
noncomputable def leL : List Int→List Int→Bool
 | [],_=>true
 | _ :: _,[]=>false
 | x :: xs,y :: ys=>if x = y then leL xs ys else decide (x ≤ y)
section
open PySem.SeqAt
open PySem.AutoSeq1 (wpAny_loadPart')
open PySem.MeetsSeq PySem.MeetsSeq2 PySem.MeetsSeq3
end
section
variable {X : Cx} {a b c : Expr} {ta tb tc : TE} {pos : Pos}
end
noncomputable def fLeT : R2:=fun x y H Q=>match x,y with
 | .ref a,.ref b=>match H a,H b with
  | some (.tup [.int i,.int j]),some (.tup [.int k,.int l])=>Q (.bl (leL [i,j] [k,l])) H
  | _,_=>False
 | _,_=>False
end L2
namespace L2
open PySem PySem.Spec PyProof.Rows
section
variable {prog : Program} {w : World} {A : Around} {E : Value→Shared→Prop} {s : Shared} {C a : Addr} {bmB : List Value} {newId : String}
end
section
variable {prog : Program} {w : World} {A : Around} {E : Value→Shared→Prop} {h : Heap} {g : Array GenState} {d : Drawn} {t : Nat} {os : OsState}
variable {C : Addr} {bmB : List Value} {B newId initId : String}
end
section
variable {X : Cx} {x y : Str} {np hpos pos p cpos rpos cp : Pos} {kk : Nat} {body : List Stmt} {C D' : Addr} {mt : Value→Prop} {tb : (St→XK)→TS} {EX : St→XK} {e : Expr} {es : List Expr} {t : TA} {bmB : List Value} {B newId initId : String}
end
end L2
namespace L2
open PySem PySem.Spec PyProof.Rows
open PySem.Builtin.ObjectAttr
section
variable {X : Cx} {C a : Addr} {H : Hp} {s : Shared}
end
end L2
namespace L2
open PySem PySem.Spec PyProof.Rows
noncomputable def jqd (P : Program) (w : World) (K : PySem.W.Frag) (mg : Str→Option Value) (base : Heap) (k : Nat) (H : Hp) (v : V) (Q : VK) (E : XK) : Prop :=
 ∃ (f : Addr) (oc : Value) (od : Option Addr) (fd : FuncData) (sl : Array (Option Value)),v = .ref f∧H f = some (.frz ⟨oc,od,.func fd,sl⟩ (.own f)) ∧
  ∀ (A : Around) (outer : List Env) (s : Shared),Room k A→Env0 P w K mg base A outer s H→codeAny (model P w) A (.call (.ref f) ⟨[],[]⟩) (CR (CXE P w) outer P w H s Q E) s
noncomputable def jqi (P : Program) (w : World) (K : PySem.W.Frag) (mg : Str→Option Value) (base : Heap) (k i : Nat) (EX : St→XK) : TE:=fun σ H Q=>∃ v,σ[i]? = some (some v)∧jqd P w K mg base k H v Q (EX σ)
theorem jpu {X : Cx} {P : Program} {w : World} {K : PySem.W.Frag} {mg : Str→Option Value} {base : Heap} {k i : Nat} {x : Str} {p pos : Pos} {EX : St→XK} (hX : X.prog = P∧X.w = w∧X.K = K∧X.mg = mg∧X.base = base) (hr : Room k X.A) (hN : X.N[i]? = some x) (hk : X.env.scope.names.lookup x = some .local) (hx : jlb (CXE X.prog X.w) X EX) (hd : (x == ("__debug__" : Str)) = false:=by decide) :
  PE X (.Call (.Name x p) [] [] pos) (jqi P w K mg base k i EX):=by
 obtain ⟨rfl,rfl,rfl,rfl,rfl⟩:=hX
 intro pins s σ H Q I h
 obtain ⟨v,hσ,f,oc,od,fd,sl,rfl,hf,th⟩:=h
 obtain ⟨m,hn,hl⟩:=id I.loc
 obtain ⟨u,r,l⟩:=hl i x _ hN hσ (.inl hk)
 cases r
 have hm : m x = some (.ref f):=by
  rcases l with ⟨_,hm⟩ | ⟨hk2,_⟩
  ·exact hm
  ·rw [show X.env.kindOf x = some .local from hk] at hk2
   rcases hk2 with z | z <;> cases z
 refine wpAny_Call_Name_kw (wpAny_Name (wpAny_loadName_local I.ok.kind hk hn hm ?_) hd)
 refine PySem.W.callWith_F0 ⟨oc,od,fd,sl,(I.hok f _ hf).1⟩ ?_
 refine wpAny_call (codeAny_mono (th X.A X.stack s hr I.env0) fun rr s' hq=>?_)
 cases rr with
 | error e=>exact hx pins σ H s e s' I hq
 | ok fl =>
  cases fl with
  | ret u=>exact I.after hq
  | next=>exact False.elim hq
  | brk=>exact False.elim hq
  | cont=>exact False.elim hq
noncomputable def jeh : Arguments:={ posonlyargs:=[],args:=[],vararg:=none,kwonlyargs:=[],kw_defaults:=[],kwarg:=none,defaults:=[] }
inductive ThArgs (scope : Scope) (clos : List (Str × Addr)) (H : Hp) : List Expr→List V→Prop where
 | nil : ThArgs scope clos H [] []
 | name {n : Str} {p : Pos} {c : Addr} {oc : Obj} {u : Value} {v : V} {es : List Expr} {vs : List V} : scope.names.lookup n = some .free→clos.lookup n = some c→H c = some (.frz oc (.own c))→oc.data = .cell (some u)→RelV v u →
   (n == ("__debug__" : Str)) = false→(n == ("__classdict__" : Str)) = false→ThArgs scope clos H es vs→ThArgs scope clos H (.Name n p :: es) (v :: vs)
 | non {j : Nat} {p : Pos} {es : List Expr} {vs : List V} : ThArgs scope clos H es vs→ThArgs scope clos H (.Constant .none j p :: es) (.non :: vs)
section
variable {scope : Scope} {clos : List (Str × Addr)} {H : Hp}
theorem ThArgs.plain {es : List Expr} {vs : List V} (a : ThArgs scope clos H es vs) (env : Env) (pos : Pos) : (backTo pos (starEach es env)).any (·.1) = false:=by
 induction a with
 | nil=>rfl
 | name _ _ _ _ _ _ _ _ ih=>exact ih
 | non _ ih=>exact ih
theorem ThArgs.star {e : Expr} {es : List Expr} {vs : List V} (a : ThArgs scope clos H (e :: es) vs) (env : Env) : starEach (e :: es) env = (false,eval e env) :: starEach es env:=by
 cases a <;> rfl
theorem ThArgs.eval {prog : Program} {w : World} {A : Around} {env : Env} {E : Value→Shared→Prop} {pos : Pos} {s : Shared} (he : env.scope = scope) (hc : env.cells = clos) (hk : scope.kind = .function) (hok : ∀ c oc,H c = some (.frz oc (.own c))→s.heap.get? c = some oc) :
  ∀ {es : List Expr} {vs : List V} {Q : List Value→Shared→Prop},ThArgs scope clos H es vs→(∀ us,Vals vs us→Q us s)→wpAny (model prog w) A (spliced (backTo pos (starEach es env))) Q E s
 | _,_,Q,.nil,h=>Calls.spliced_nil (h [] .nil)
 | _,_,Q,@ThArgs.name _ _ _ n p c oc u v es vs h1 h2 h3 h4 h5 h6 h7 t,h=>by
  show wpAny _ _ (spliced ((false,PySem.eval (.Name n p) env) :: backTo pos (starEach es env))) _ _ s
  refine Calls.spliced_cons (wpAny_Name (wpAny_loadName_free (by rw [he]; exact hk) (by show env.scope.names.lookup n = _; rw [he]; exact h1) (by rw [hc]; exact h2) (v:=u) ⟨oc,hok c oc h3,h4⟩ ?_ h7) h6)
  exact ThArgs.eval he hc hk hok t fun us r=>h (u :: us) (.cons h5 r)
 | _,_,Q,@ThArgs.non _ _ _ j p es vs t,h=>by
  show wpAny _ _ (spliced ((false,PySem.eval (.Constant .none j p) env) :: backTo pos (starEach es env))) _ _ s
  refine Calls.spliced_cons (Constant_none ?_)
  exact ThArgs.eval he hc hk hok t fun us r=>h (Value.none :: us) (.cons rfl r)
end
section
variable {P : Program} {w : World} {K : PySem.W.Frag} {mg : Str→Option Value} {base : Heap} {k : Nat} {fg f c' : Addr} {fd : FuncData} {ps : List Str} {sp : Sp} {qual g : Str} {gp cpos : Pos} {e : Expr} {es : List Expr} {scope : Scope} {clos : List (Str × Addr)} {pm ctv : Value} {H : Hp} {vs : List V} {Q : VK} {E : XK}
theorem jph (F : FnOk P w K mg base (CXE P w) k fg fd ps sp) (hm : mg g = some (.ref fg)) (hk : PySem.W.keepIn K (.ref fg) = true) (hb : je3 K fd ps [])
  (hkind : scope.kind = .function) (hco : scope.isCoroutine = false) (hgen : scope.isGenerator = false) (hnc : ∀ x ∈ scope.names,x.2 ≠ .cell) (hgl : scope.names.lookup g = some .globalImplicit) (hgd : (g == ("__debug__" : Str)) = false)
  (hf : H f = some (.frz (PySem.W.kla_obj "<lambda>" qual jeh (.Call (.Name g gp) (e :: es) [] cpos) scope clos pm c' ctv) (.own f))) (hc : H c' = some (codO c' qual)) (ha : ThArgs scope clos H (e :: es) vs) (hsp : sp vs H Q E) :
  jqd P w K mg base (k + 1) H (.ref f) Q E:=by
 refine ⟨f,_,_,_,_,rfl,hf,fun A outer s hr e0=>?_⟩
 have hfo:=(e0.hok f _ hf).1
 have hcr:=jq9 (e0.hok c' _ hc)
 refine PySem.W.kla_callFunE hr.depth hfo rfl hco hgen rfl hcr ?_
 refine (BindsTo.of_eq (show bindArgs (PySem.W.kla_fn "<lambda>" qual jeh (.Call (.Name g gp) (e :: es) [] cpos) scope clos pm (.ref c') ctv) ⟨[],[]⟩ = pure [] from rfl)) _ _ _ _ ?_
 refine wpAny_newFunctionEnv hnc (by intro x hx; cases hx) (fun h4 hns hsb=>⟨?_,PySem.W.kla_codeExpr ?_⟩) hkind
 all_goals have kp : ∀ b o,s.heap.get? b = some o→h4.get? b = some o:=fun b o q=>hsb.extBut b o (Nat.ne_of_lt (Heap.lt_size q)) (Heap.get?_push_of_some _ q)
 ·exact (e0.mod.nolimit.keeps fun b o q=>(e0.bs b o q).1).keeps kp
 generalize henv : newEnv scope s.heap.objs.size mainGlobals clos (qual ++ Str.ofString ".<locals>.") (some f) (Value.ref c') none builtinsNs = env
 have e1 : env.scope = scope:=by rw [← henv]; rfl
 have e2 : env.cells = clos:=by rw [← henv]; rfl
 have e3 : env.locals = s.heap.objs.size:=by rw [← henv]; rfl
 have e4 : env.frame = some s.heap.objs.size:=by rw [← henv]; rfl
 have e5 : env.globals = mainGlobals:=by rw [← henv]; rfl
 have hL : ∀ b o,s.heap.get? b = some o→b ≠ s.heap.objs.size:=fun b o q=>Nat.ne_of_lt (Heap.lt_size q)
 have hfrs : frs (env :: outer) = s.heap.objs.size :: frs outer:=by
  show List.filterMap _ _ = _
  rw [List.filterMap_cons,e4]
  rfl
 have e04 : Env0 P w K mg base (A.deeper env) (env :: outer) { s with heap:=h4,toks:=s.toks + 0 } H:=by
  refine ⟨Around.frames_deeper e0.frames,e0.mod,fun b o q=>⟨kp b o (e0.bs b o q).1,(e0.bs b o q).2⟩,Nat.le_trans e0.bsz (Nat.le_of_lt ?_),?_,fun b hb=>?_,e0.hok.kept kp,e0.bare⟩
  ·exact hns.lt
  ·refine .cons (by rw [e1,hkind]; decide) e4 hns (Heap.get?_none_of_le e0.bsz) ?_
   exact e0.funs.of_keeps fun b o q n=>⟨o,kp b o q,rfl⟩
  ·rw [hfrs] at hb
   rcases List.mem_cons.mp hb with z | z
   ·rw [z]; exact e0.hok.fresh (Nat.le_refl _)
   ·exact e0.frf b z
 have kX : K.In h4:=(e0.mod.kin.keeps fun b o q=>(e0.bs b o q).1).keeps kp
 have hpl : (backTo cpos (starEach es env)).any (·.1) = false:=by
  cases ha with
  | name _ _ _ _ _ _ _ t=>exact t.plain env cpos
  | non t=>exact t.plain env cpos
 refine wpAny_Call_Name_kw (Calls.Name_function_global (by rw [e1]; exact hkind) (by show env.scope.names.lookup g = _; rw [e1]; exact hgl) (Calls.loadGlobal_global (by rw [e5]; exact (e0.mod.glob.keeps fun b o q=>(e0.bs b o q).1).keeps kp) hm ?_) hgd)
 refine PySem.W.callWith_K (h₀:=h4) kX hk (ThArgs.eval e1 e2 hkind (fun c oc q=>kp _ _ (e0.hok c _ q).1) ha fun us r=>⟨kX,?_⟩) (ha.star env) hpl
 have hl : us.length = ps.length:=by rw [← r.length]; exact F.len _ _ _ _ hsp
 refine wpAny_call (codeAny_mono (F.run (A.deeper env) (env :: outer) _ H ⟨us,[]⟩ us vs Q E (hr.deeper env) e04 (by simpa using hb { s with heap:=h4,toks:=s.toks + 0 } us kX (by simpa using hl)) r hsp) fun rr s' hq=>?_)
 have unOf : ∀ {H' : Hp} {h' : Heap},Un (frs (env :: outer)) [] H H' h4 h'→Un (frs outer) [] H H' s.heap h':=fun {H' h'} un=>by
  rw [hfrs] at un
  refine ⟨fun b o q n hb hx=>un.keep b o (kp b o q) n (fun z=>(List.mem_cons.mp z).elim (hL b o q) hb) hx,fun b o q n hb hx=>un.slot b o (kp b o q) n (List.mem_cons_of_mem _ hb) hx,fun b o q n hx=>un.free b o (kp b o q) n hx,fun b o q hx=>un.there b o (kp b o q) hx,un.tups,un.frzs,un.tbls⟩
 cases rr with
 | error e =>
  obtain ⟨x,cl,dd,H',B,rfl,os,bare,un,hok,fl,hx,nx,c1,c2,q⟩:=hq
  refine jqu (Around.frames_deeper e0.frames) e4 fl fun h' f' u'=>?_
  have un1:=unOf un
  have c2' : ∀ b o,s.heap.get? b = some o→b ∉ frs outer→∃ q,h'.get? b = some q∧B.get? b = some q∧s'.heap.get? b = some q:=fun b o e' nb=>by
   obtain ⟨q1,q2,q3⟩:=c2 b o (kp b o e') (by rw [hfrs]; exact fun z=>(List.mem_cons.mp z).elim (hL b o e') nb)
   exact ⟨q1,f'.stays _ _ q3,q3,q2⟩
  refine ⟨x,cl,dd,H',B,rfl,os,bare,⟨fun b o e' n nb hx'=>?_,fun b o e' n hb hx'=>?_,un1.free,fun b o e' hx'=>?_,un1.tups,un1.frzs,un1.tbls⟩,hok.via c1 f'.stays,f',hx,?_,fun b o e'=>?_,fun b o e' nb=>?_,q⟩
  ·obtain ⟨q1,q2,q3,q4⟩:=c2' b o e' nb
   rw [un1.keep b o e' n nb hx'] at q4
   cases q4
   exact q2
  ·obtain ⟨sl,e1'⟩:=un1.slot b o e' n hb hx'
   obtain ⟨_,o1,g1,nf⟩:=fl.funs.mem (show b ∈ frs (env :: outer) by rw [hfrs]; exact List.mem_cons_of_mem _ hb)
   rw [e1'] at g1; cases g1
   obtain ⟨sl2,e2'⟩:=u' b _ e1' nf
   exact ⟨sl2,e2'⟩
  ·by_cases hb : b ∈ frs outer
   ·obtain ⟨_,o1,g1,nf⟩:=fl.funs.mem (show b ∈ frs (env :: outer) by rw [hfrs]; exact List.mem_cons_of_mem _ hb)
    obtain ⟨sl2,e2'⟩:=u' b _ g1 nf
    exact ⟨_,e2'⟩
   ·obtain ⟨q1,q2,_⟩:=c2' b o e' hb
    exact ⟨_,q2⟩
  ·exact Nat.le_trans (Nat.le_of_lt hns.lt) nx
  ·obtain ⟨q1,q2,q3⟩:=c1 b o e'
   exact ⟨q1,f'.stays _ _ q3,q3⟩
  ·obtain ⟨q1,q2,q3,_⟩:=c2' b o e' nb
   exact ⟨q1,q2,q3⟩
 | ok fl =>
  cases fl with
  | ret u =>
   obtain ⟨v,H',os,bare,un,hok,r',q⟩:=hq
   exact ⟨v,H',os,bare,unOf un,hok,r',q⟩
  | next=>exact False.elim hq
  | brk=>exact False.elim hq
  | cont=>exact False.elim hq
end
end L2
namespace L2
open PySem PySem.Spec PyProof.Rows
noncomputable def TabS (qual : Str) (H : Hp) (T : Addr) : Prop :=
 ∃ ps,H T = some (.tbl ps)∧TriplesOk ps.toList∧∀ pos c,codeAmong pos ps.toList = some c→∃ c',c = .ref c'∧H c' = some (codO c' qual)
theorem TabS.start {qual : Str} {H : Hp} {T : Addr} (h : H T = some (.tbl #[])) : TabS qual H T:=⟨#[],h,trivial,fun pos c e=>by cases e⟩
theorem TabS.same {qual : Str} {H H' : Hp} {T : Addr} (t : TabS qual H T) (h : ∀ b o,H b = some o→H' b = some o) : TabS qual H' T:=by
 obtain ⟨ps,e,tr,q⟩:=t
 exact ⟨ps,h _ _ e,tr,fun pos c hc=>let ⟨c',e1,e2⟩:=q pos c hc; ⟨c',e1,h _ _ e2⟩⟩
theorem jn5 {pos pos' : Pos} {c x : Value} (l : List Value) (h : TriplesOk l) (hx : codeAmong pos' (l ++ [rawInt pos.line,rawInt pos.col,c]) = some x) : codeAmong pos' l = some x ∨ x = c:=by
 fun_induction TriplesOk l with
 | case1 =>
  simp only [List.nil_append,codeAmong,rawInt] at hx
  split at hx
  ·cases hx; exact .inr rfl
  ·cases hx
 | case2 a t b u y rest ih =>
  simp only [List.cons_append,codeAmong] at hx ⊢
  split at hx
  ·rename_i hc; rw [if_pos hc]; exact .inl hx
  ·rename_i hc; rw [if_neg hc]; exact ih h hx
 | case3 l h1 h2=>exact h.elim
noncomputable def tLamG (X : Cx) (T : Addr) (qual : Str) (body : Expr) (scope : Scope) : TE:=fun _ H Q=>TabS qual H T∧∀ f c' ctv H',ButT T H H'→TabS qual H' T→H f = none→H' c' = some (codO c' qual) →
 H' f = some (.frz (PySem.W.kla_obj "<lambda>" qual jeh body scope (jb1 X.env scope.names []) ((X.mg "__name__").getD .none) c' ctv) (.own f))→Q (.ref f) H'
section
variable {X : Cx} {T c0 : Addr} {qual : Str} {body : Expr} {scope : Scope} {pos : Pos}
theorem jrg (hcode : X.env.code = .ref c0) (C : PySem.W.CodeHd X.base c0 T) (hb : BltAt X.mg X.base) (hq : X.env.qual ++ Str.ofString "<lambda>" = qual)
  (hcell : ∀ y ∈ scope.names,y.2 = .free→∃ c,X.env.cells.lookup y.1 = some c) :
  PE X (.Lambda jeh body scope pos) (tLamG X T qual body scope):=by
 intro pins s σ H Q I ⟨tab,h⟩
 subst hq
 have hcl:=jbz hcell
 refine PySem.W.kla_eval (show defaultsOf jeh X.env = ([],[]) from rfl) ?_
 obtain ⟨ps,eP,tr,hit⟩:=tab
 have hP : s.heap.get? T = some (PySem.W.tabObj ps):=I.hok T _ eP
 have C':=C.keeps I.bk
 have hg : s.heap.Ns mainGlobals X.mg:=I.mod.glob.keeps I.bk
 have nb : ∀ b o,X.base.get? b = some o→b ≠ T:=fun b o e z=>by
  have:=(I.bs b o e).2
  rw [z,eP] at this
  cases this
 have hgP : mainGlobals ≠ T:=by
  obtain ⟨o,es,ep,e,_⟩:=I.mod.glob
  exact nb _ _ e
 have hb' : s.heap.BuiltinsAt X.mg T:=by
  obtain ⟨bm,o,b1,b2,b3,b4,b5⟩:=hb.ex
  exact ⟨bm,o,b1,b2,b3,nb _ _ b4,I.bk _ _ b4,b5⟩
 cases hca : codeAmong pos ps.toList with
 | none =>
  refine PySem.W.kla_makeFunction hcl I.ok.glob hg hcode C' hP tr hca hgP hb' fun c' ctv h' tk hx hge hlt hrec htb=>?_
  generalize hO : PySem.W.kla_obj "<lambda>" (X.env.qual ++ Str.ofString "<lambda>") jeh body scope (jb1 X.env scope.names []) ((X.mg "__name__").getD .none) c' ctv = ob
  have hfr : ob.isFreed = false:=by rw [← hO]; rfl
  have hPl : T < s.heap.objs.size:=Heap.lt_size hP
  have n1 : T ≠ c':=Nat.ne_of_lt (Nat.lt_of_lt_of_le hPl hge)
  have n2 : c' ≠ h'.objs.size:=Nat.ne_of_lt hlt
  have n3 : T ≠ h'.objs.size:=Nat.ne_of_lt (Nat.lt_trans (Nat.lt_of_lt_of_le hPl hge) hlt)
  have z1 : H c' = none:=I.hok.fresh hge
  have z2 : H h'.objs.size = none:=I.hok.fresh (Nat.le_trans hge (Nat.le_of_lt hlt))
  have kept : ∀ b o,b ≠ T→s.heap.get? b = some o→(h'.push ob).get? b = some o:=fun b o nb e=>Heap.get?_push_of_some _ (hx b o nb e)
  have same : ∀ b o,b ≠ T→H b = some o→upd (upd (upd H T (.tbl (ps ++ #[rawInt pos.line,rawInt pos.col,.ref c']))) c' (codO c' (X.env.qual ++ Str.ofString "<lambda>"))) h'.objs.size (.frz ob (.own h'.objs.size)) b = some o:=fun b o nb e=>by
   rw [ja8 (ja6 e z2),ja8 (ja6 e z1),ja8 nb]
   exact e
  have eP' : upd (upd (upd H T (.tbl (ps ++ #[rawInt pos.line,rawInt pos.col,.ref c']))) c' (codO c' (X.env.qual ++ Str.ofString "<lambda>"))) h'.objs.size (.frz ob (.own h'.objs.size)) T = some (.tbl (ps ++ #[rawInt pos.line,rawInt pos.col,.ref c'])):=by
   rw [ja8 n3,ja8 n1,ja1]
  have ec' : upd (upd (upd H T (.tbl (ps ++ #[rawInt pos.line,rawInt pos.col,.ref c']))) c' (codO c' (X.env.qual ++ Str.ofString "<lambda>"))) h'.objs.size (.frz ob (.own h'.objs.size)) c' = some (codO c' (X.env.qual ++ Str.ofString "<lambda>")):=by
   rw [ja8 n2,ja1]
  have nP : ∀ b,H b = none→b ≠ T:=fun b n z=>by rw [z,eP] at n; cases n
  have I' : Inv X pins σ (upd (upd (upd H T (.tbl (ps ++ #[rawInt pos.line,rawInt pos.col,.ref c']))) c' (codO c' (X.env.qual ++ Str.ofString "<lambda>"))) h'.objs.size (.frz ob (.own h'.objs.size))) { s with heap:=h'.push ob,toks:=tk }:=by
   refine I.un ⟨fun b o e n _ _=>kept b o (nP b n) e,fun b o e n _ _=>⟨o.slots,kept b o (nP b n) e⟩,fun b o e n _=>?_,fun b o e _=>?_,fun b xs e=>same b _ (fun z=>by rw [z,eP] at e; cases e) e,fun b o u e=>same b _ (fun z=>by rw [z,eP] at e; cases e) e,fun b qs e=>?_⟩ fun a o e=>?_
   ·have hb : b < s.heap.objs.size:=Heap.lt_size e
    rw [ja8 (Nat.ne_of_lt (Nat.lt_of_lt_of_le hb (Nat.le_trans hge (Nat.le_of_lt hlt)))),ja8 (Nat.ne_of_lt (Nat.lt_of_lt_of_le hb hge)),ja8 (nP b n)]
    exact n
   ·by_cases hb : b = T
    ·rw [hb]; exact ⟨_,Heap.get?_push_of_some _ htb⟩
    ·exact ⟨o,kept b o hb e⟩
   ·by_cases hb : b = T
    ·rw [hb] at e ⊢
     rw [eP] at e
     cases e
     exact ⟨_,eP'⟩
    ·exact ⟨#[],by rw [same b _ hb e]; simp⟩
   ·by_cases h1 : a = h'.objs.size
    ·rw [h1,ja1] at e
     cases e
     rw [h1]
     exact ⟨Heap.get?_push_size _ hfr,_,Heap.get?_push_size _ hfr⟩
    ·rw [ja8 h1] at e
     by_cases h2 : a = c'
     ·rw [h2,ja1] at e
      cases e
      rw [h2]
      refine js0 ?_
      obtain ⟨c2,oc,vs,tq,q1,q2,q3⟩:=hrec
      exact ⟨c2,oc,vs,tq,q1,Heap.get?_push_of_some _ q2,q3⟩
     ·rw [ja8 h2] at e
      by_cases h3 : a = T
      ·rw [h3,ja1] at e
       cases e
       rw [h3]
       exact Heap.get?_push_of_some _ htb
      ·rw [ja8 h3] at e
       refine (I.hok a o e).stay (fun b u hb q=>kept b u ?_ q) (fun b q=>same b _ ?_ q) fun b xs q=>same b _ ?_ q
       ·rcases hb with hb | hb
        ·rw [hb]; exact h3
        ·intro z; rw [z,eP] at hb; cases hb
       ·intro z; rw [z,eP] at q; cases q
       ·intro z; rw [z,eP] at q; cases q
  refine ⟨.ref _,_,I',rfl,h _ c' ctv _ (fun b o nb e=>same b o nb e) ⟨_,eP',?_,fun pos' x hx'=>?_⟩ z2 ec' (by rw [hO]; exact ja1)⟩
  ·rw [Array.toList_append]
   exact TriplesOk_snoc _ _ _ _ tr
  ·rw [Array.toList_append] at hx'
   rcases jn5 _ tr hx' with q | q
   ·obtain ⟨c2,q1,q2⟩:=hit pos' x q
    exact ⟨c2,q1,same _ _ (fun z=>by rw [z,eP] at q2; cases q2) q2⟩
   ·exact ⟨c',q,ec'⟩
 | some cv =>
  obtain ⟨c',rfl,ec'⟩:=hit pos cv hca
  refine PySem.W.kla_makeFunctionHit hcl I.ok.glob hg hcode C' hP tr hca hb' fun ctv h' tk kp hsz=>?_
  have I1 : Inv X pins σ H { s with heap:=h',toks:=s.toks }:=I.kept kp
  have z2 : H h'.objs.size = none:=I.hok.fresh hsz
  refine ⟨.ref _,_,I1.laid (a:=h'.objs.size) (o:=.frz _ (.own h'.objs.size)) (t':=tk) (fun b u e=>Heap.get?_push_of_some _ e) (Nat.le_refl _) ⟨Heap.get?_push_size _ rfl,_,Heap.get?_push_size _ rfl⟩,rfl,h _ c' ctv _ (fun b o nb e=>by rw [ja8 (ja6 e z2)]; exact e) ⟨ps,by rw [ja8 (ja6 eP z2)]; exact eP,tr,fun pos' x hx'=>?_⟩ z2 (by rw [ja8 (ja6 ec' z2)]; exact ec') ja1⟩
  obtain ⟨c2,q1,q2⟩:=hit pos' x hx'
  exact ⟨c2,q1,by rw [ja8 (ja6 q2 z2)]; exact q2⟩
end
noncomputable def jf1 (H : Hp) (h : Heap) (cs : List Addr) : Hp:=fun b=>if b ∈ cs then (h.get? b).map fun o=>.frz o (.own b) else H b
noncomputable def jf6 (H : Hp) (cs : List Addr) : Hp:=fun b=>if b ∈ cs then none else H b
section
variable {P : Program} {w : World} {K : PySem.W.Frag} {mg : Str→Option Value} {base : Heap} {A : Around} {outer : List Env} {s s' : Shared} {H H' : Hp} {cs : List Addr} {Q : VK} {u : Value} {b : Addr} {o : HO}
theorem jbt (hc : ∀ c ∈ cs,H c = none) {h : Heap} (e : H b = some o) : jf1 H h cs b = some o:=by
 unfold jf1
 rw [if_neg fun z=>by rw [hc b z] at e; cases e]
 exact e
theorem jcp {h : Heap} (e : H b = none) (n : b ∉ cs) : jf1 H h cs b = none:=by
 unfold jf1
 rw [if_neg n]
 exact e
theorem jfr {h : Heap} {ob : Obj} (m : b ∈ cs) (e : h.get? b = some ob) : jf1 H h cs b = some (.frz ob (.own b)):=by
 unfold jf1
 rw [if_pos m,e]
 rfl
theorem joj (e0 : Env0 P w K mg base A outer s H) (hc : ∀ c ∈ cs,H c = none) (ho : ∀ c ∈ cs,∃ ob,s.heap.get? c = some ob) (hb : ∀ c ∈ cs,base.get? c = none) (hf : ∀ c ∈ cs,c ∉ frs outer) : Env0 P w K mg base A outer s (jf1 H s.heap cs):=by
 refine ⟨e0.frames,e0.mod,fun b o e=>⟨(e0.bs b o e).1,jcp (e0.bs b o e).2 fun z=>by rw [hb b z] at e; cases e⟩,e0.bsz,e0.funs,fun b hb'=>jcp (e0.frf b hb') fun z=>hf b z hb',fun a o e=>?_,e0.bare⟩
 by_cases m : a ∈ cs
 ·obtain ⟨ob,g⟩:=ho a m
  rw [jfr m g] at e
  cases e
  exact ⟨g,ob,g⟩
 ·have e2 : H a = some o:=by
   unfold jf1 at e
   rw [if_neg m] at e
   exact e
  exact (e0.hok a o e2).stay (fun _ _ _ q=>q) (fun c q=>jbt hc q) fun c xs q=>jbt hc q
theorem jrw (hc : ∀ c ∈ cs,H c = none) (ho : ∀ c ∈ cs,∃ ob,s.heap.get? c = some ob) (h : CE outer P w (jf1 H s.heap cs) s (fun v H2=>Q v (jf6 H2 cs)) u s') : CE outer P w H s Q u s':=by
 obtain ⟨v,H2,os,bare,un,hok,r,q⟩:=h
 have fz : ∀ c ∈ cs,∃ ob,s.heap.get? c = some ob∧H2 c = some (.frz ob (.own c))∧s'.heap.get? c = some ob:=fun c m=>by
  obtain ⟨ob,g⟩:=ho c m
  have z:=un.frzs c ob _ (jfr m g)
  exact ⟨ob,g,z,(hok c _ z).1⟩
 have dn : ∀ b,b ∉ cs→jf6 H2 cs b = H2 b:=fun b m=>by unfold jf6; rw [if_neg m]
 have ds : ∀ b,b ∈ cs→jf6 H2 cs b = none:=fun b m=>by unfold jf6; rw [if_pos m]
 have kp : ∀ b o,H2 b = some o→(∀ ob,o ≠ .frz ob (.own b))→jf6 H2 cs b = some o:=fun b o e n=>by
  by_cases m : b ∈ cs
  ·obtain ⟨ob,_,z,_⟩:=fz b m
   rw [z] at e
   exact absurd (Option.some.inj e).symm (n ob)
  ·rw [dn b m]; exact e
 refine ⟨v,jf6 H2 cs,os,bare,⟨fun b o e n nb nx=>?_,fun b o e n hb nx=>?_,fun b o e n nx=>?_,fun b o e nx=>un.there b o e nx,fun b xs e=>?_,fun b o u e=>?_,fun b ps e=>?_⟩,fun a o e=>?_,r,q⟩
 ·by_cases m : b ∈ cs
  ·obtain ⟨ob,g,_,g2⟩:=fz b m
   rw [e] at g; cases g
   exact g2
  ·exact un.keep b o e (jcp n m) nb nx
 ·by_cases m : b ∈ cs
  ·obtain ⟨ob,g,_,g2⟩:=fz b m
   rw [e] at g; cases g
   exact ⟨o.slots,g2⟩
  ·exact un.slot b o e (jcp n m) hb nx
 ·by_cases m : b ∈ cs
  ·exact ds b m
  ·rw [dn b m]; exact un.free b o e (jcp n m) nx
 ·exact kp _ _ (un.tups b xs (jbt hc e)) fun _ z=>by cases z
 ·rw [dn b fun z=>by rw [hc b z] at e; cases e]
  exact un.frzs b o u (jbt hc e)
 ·obtain ⟨more,e2⟩:=un.tbls b ps (jbt hc e)
  exact ⟨more,kp _ _ e2 fun _ z=>by cases z⟩
 ·have m : a ∉ cs:=fun m=>by rw [ds a m] at e; cases e
  rw [dn a m] at e
  exact (hok a o e).stay (fun _ _ _ q=>q) (fun c q=>kp _ _ q fun _ z=>by cases z) fun c xs q=>kp _ _ q fun _ z=>by cases z
end
end L2
namespace L2
open PySem PySem.Spec PyProof.Rows
noncomputable def CDivB (i j : Int) : Prop:=0 < j∧j < 1000000000000000000
section
variable {X : Cx}
theorem jra : OpR X (binaryOp .FloorDiv) (fIC CDivB fun i j=>.int (i / j)):=by
 intro pins s σ H x y v u Q I rx ry h
 unfold fIC at h
 split at h
 ·rename_i i j
  obtain ⟨⟨h1,h2⟩,q⟩:=h
  obtain ⟨t,rfl⟩:=rx
  obtain ⟨t',rfl⟩:=ry
  refine floordiv_int (by omega) ?_ (.inl (PyProof.noPylong_of_log2 ?_))
  ·rw [Int.fdiv_eq_ediv_of_nonneg i (by omega)]
   exact ⟨.int (i / j),H,I.tok _,⟨_,rfl⟩,q⟩
  ·by_cases h0 : j.natAbs = 0
   ·rw [h0]; decide
   ·exact Nat.lt_of_lt_of_le ((Nat.log2_lt h0).mpr (show j.natAbs < 2 ^ 60 by omega)) (by decide)
 ·exact h.elim
noncomputable def dedN (ns : List Int) : Nat:=(firstMet (fun i=>ns.getD i 0) ns.length).length
noncomputable def fSetOf : List V→Hp→VK→Prop:=fun vs H Q=>∃ l ns,vs = [.ref l]∧H l = some (.lst (ns.map V.int))∧ns.length ≤ 1000∧∀ p,H p = none→Q (.ref p) (upd H p (.set (fun k=>(firstMet (fun i=>ns.getD i 0) ns.length).any (· == k)) (dedN ns)))
theorem jf8 : ∀ {ns : List Int} {us : List Value},Vals (ns.map V.int) us→IntsAre us ns
 | [],_,.nil=>.nil
 | n :: ns,_,.cons r t=>by
  obtain ⟨k,rfl⟩:=r
  exact .cons n k (jf8 t)
theorem jr8 (hh : X.A.handled = none) : jbu X (.type "set") fSetOf:=by
 intro pins s σ H vs us Q I r h
 obtain ⟨l,ns,rfl,el,hn,q⟩:=h
 obtain ⟨u,rfl,rx⟩:=jfz r
 cases rx
 obtain ⟨z,its,n,r',hlen,e⟩:=I.lstM el
 have hl : its.length = ns.length:=by rw [← hlen,List.length_map]
 have hL : s.heap.IsList l its.toArray:=⟨_,e,rfl,_,rfl⟩
 refine call_set_list (ns:=ns) hh hL (by simpa using jf8 r') (by rw [List.size_toArray,hl]; exact Nat.lt_of_le_of_lt (Nat.succ_le_succ hn) (by decide)) fun h' tk hS kp=>?_
 have e2 : its.toArray.size = ns.length:=by rw [List.size_toArray,hl]
 rw [e2] at hS
 refine ⟨.ref s.heap.objs.size,_,I.laid (t':=tk) (o:=.set _ (dedN ns)) (fun b o g=>kp b o (Heap.lt_size g) g) (Nat.le_refl _) hS,rfl,q _ (I.hok.fresh (Nat.le_refl _))⟩
noncomputable def jl7 : List V→Hp→VK→Prop:=fun vs H Q=>match vs with
 | [.ref p]=>match H p with
  | some (.set S n)=>Q (.int n) H
  | _=>False
 | _=>False
theorem jpp : jbu X (.builtin "len") jl7:=by
 intro pins s σ H vs us Q I r h
 unfold jl7 at h
 split at h
 ·rename_i p
  split at h
  ·rename_i S n eS
   obtain ⟨u,rfl,rx⟩:=jfz r
   cases rx
   have hS : s.heap.SetOf (intKind X.prog X.w) p S n:=I.hok p _ eS
   obtain ⟨o,es,ep,t,ho,hex,hd,_,_,hsz,hf,rfl⟩:=hS
   exact call_len_set ho hex hd hf (Int.ofNat_lt.mpr (Nat.lt_of_lt_of_le hsz (show scanBound ≤ 2 ^ 63 by decide))) ⟨.int es.size,H,I.tok _,⟨_,rfl⟩,h⟩
  ·exact h.elim
 ·exact h.elim
end
theorem jj5 : ∀ (ns acc : List Int),acc.Nodup→(ns.foldl step_dedup acc).length ≤ acc.length + ns.length∧((ns.foldl step_dedup acc).length = acc.length + ns.length ↔ (acc ++ ns).Nodup)
 | [],acc,h=>by simp [h]
 | n :: ns,acc,h=>by
  rw [List.foldl_cons]
  by_cases c : acc.any (· == n) = true
  ·have e : step_dedup acc n = acc:=if_pos c
   rw [e]
   have ih:=jj5 ns acc h
   have hm : n ∈ acc:=by
    obtain ⟨m,hm,e2⟩:=List.any_eq_true.mp c
    rw [beq_iff_eq] at e2
    exact e2 ▸ hm
   rw [List.length_cons]
   refine ⟨by omega,⟨fun z=>by omega,fun z=>?_⟩⟩
   rw [List.nodup_append] at z
   exact absurd rfl (z.2.2 n hm n (.head _))
  ·have e : step_dedup acc n = acc ++ [n]:=if_neg c
   have hm : n ∉ acc:=fun hm=>c (List.any_eq_true.mpr ⟨n,hm,by simp⟩)
   have h2 : (acc ++ [n]).Nodup:=by
    rw [List.nodup_append]
    exact ⟨h,by simp,fun a ha b hb=>by rw [List.mem_singleton] at hb; rw [hb]; exact fun z=>hm (z ▸ ha)⟩
   rw [e]
   have ih:=jj5 ns (acc ++ [n]) h2
   rw [List.length_append,List.length_singleton] at ih
   rw [List.length_cons]
   refine ⟨by omega,?_⟩
   rw [show acc.length + (ns.length + 1) = acc.length + 1 + ns.length by omega,ih.2,List.append_assoc]
   rfl
theorem ded_eq (ns : List Int) : dedN ns = (ns.foldl step_dedup []).length:=by
 unfold dedN firstMet
 congr 2
 apply List.ext_getElem?
 intro i
 rw [List.getElem?_map]
 by_cases h : i < ns.length
 ·rw [List.getElem?_range h,List.getElem?_eq_getElem h]
  show some (ns.getD i 0) = _
  rw [List.getD_eq_getElem?_getD,List.getElem?_eq_getElem h]
  rfl
 ·rw [List.getElem?_eq_none (by simp; omega),List.getElem?_eq_none (by omega)]
  rfl
theorem joz (ns : List Int) : dedN ns = ns.length ↔ ns.Nodup:=by
 have:=(jj5 ns [] List.nodup_nil).2
 rw [ded_eq]
 simpa using this
end L2
namespace L2
open PySem PySem.Spec PyProof.Rows
theorem jaa {a b : TS} {D : Ends} {σ : St} {H : Hp} (h : ∀ R,R = b→tSeq a R D σ H) : tSeq a b D σ H:=h b rfl
theorem jcm {ι : Type} {wi : TI} {g : TG} {tb : TS} {D : Ends} {σ : St} {H : Hp} (J : ι→It) (H1 : ι→Hp) (ok : ι→Prop) (h1 : ∀ R : It→Hp→Prop,(∀ i,ok i→R (J i) (H1 i))→wi σ H R)
  (h2 : ∀ i0,ok i0→∃ W : Nat→Nat→St→Hp→Prop,(∃ m,W 0 m σ (H1 i0))∧∀ i m σ H,W i m σ H→((J i0).stop i H∧D.nx σ H) ∨ ((J i0).go i H∧∃ N : St→Hp→Prop,(∀ σ' H',N σ' H'→∃ m',m' < m∧W (i + 1) m' σ' H')∧∀ x H',(J i0).yld i H x H'→g x σ H' fun σ2 H2=>tb { D with nx:=N,ct:=N,bk:=D.nx } σ2 H2)) :
  tFor wi g tb D σ H:=h1 _ h2
section
variable {X : Cx}
noncomputable def jqj (fs : List (Addr × Sp)) (te : TE) (t : TA) : TE:=fun σ H Q=>te σ H fun x H1=>∃ f sp,(f,sp) ∈ fs∧x = .ref f∧t σ H1 fun vs H2=>sp vs H2 Q (fun _ _ _=>False)
theorem jpw {fs : List (Addr × Sp)} {k : Nat} {e a : Expr} {as : List Expr} {te : TE} {t : TA} {pos : Pos} (he : PE X e te) (hF : ∀ f sp,(f,sp) ∈ fs→∃ fd ps,FnOk X.prog X.w X.K X.mg X.base CX0 k f fd ps sp∧PySem.W.keepIn X.K (.ref f) = true∧je3 X.K fd ps []) (hr : Room k X.A) (ha : PA X (a :: as) t)
  (ht : eval (.Call e (a :: as) [] pos) X.env = (do let f ← eval e X.env; callWith pos f [] (backTo pos (starEach (a :: as) X.env)) (backToKw pos (keywordEach [] X.env))):=by rfl)
  (hst : starEach (a :: as) X.env = (false,eval a X.env) :: starEach as X.env:=by rfl) (hpl : (backTo pos (starEach as X.env)).any (·.1) = false:=by rfl) :
  PE X (.Call e (a :: as) [] pos) (jqj fs te t):=by
 intro pins s σ H Q I h
 rw [ht]
 refine wpAny_bind (thn (he pins s σ H _ I h) fun u s1 ⟨x,H1,I1,rx,f,sp,hm,ex,q⟩=>?_)
 subst ex
 obtain rfl : u = Value.ref f:=rx
 obtain ⟨fd,ps,F,hk,hb⟩:=hF f sp hm
 refine PySem.W.callWith_K (h₀:=X.base) I.ok.mod.kin hk (thn (ha pos pins s1 σ H1 _ I1 q) fun us s2 ⟨vs,H2,I2,r,q2⟩=>⟨I2.kIn,?_⟩) hst hpl
 exact jqq (ds:=[]) (dvs:=[]) F hr hb .nil jaq I2 r (by simpa using q2)
end
end L2
namespace L2
open PySem PySem.Spec PyProof.Rows
theorem jm9 {env : Env} {n : Str} {c : Addr} : ∀ {names : List (Str × NameKind)} {acc : List (Str × Addr)},(n,c) ∈ jb1 env names acc→(n,c) ∈ acc ∨ ((n,NameKind.free) ∈ names∧c = (env.cells.lookup n).getD 0)
 | [],acc,h=>.inl h
 | (m,k) :: r,acc,h=>by
  unfold jb1 at h
  rcases jm9 h with q | ⟨q,e⟩
  ·split at q
   ·rename_i hk
    rcases List.mem_cons.mp q with z | z
    ·cases z
     rw [beq_iff_eq] at hk
     subst hk
     exact .inr ⟨.head _,rfl⟩
    ·exact .inl z
   ·exact .inl q
  ·exact .inr ⟨.tail _ q,e⟩
theorem jma {env : Env} {n : Str} : ∀ {names : List (Str × NameKind)} {acc : List (Str × Addr)},((n,NameKind.free) ∈ names ∨ ∃ c,(n,c) ∈ acc)→∃ c,(n,c) ∈ jb1 env names acc
 | [],acc,h=>by
  rcases h with h | h
  ·cases h
  ·exact h
 | (m,k) :: r,acc,h=>by
  unfold jb1
  refine jma ?_
  rcases h with h | ⟨c,h⟩
  ·rcases List.mem_cons.mp h with z | z
   ·cases z
    exact .inr ⟨_,by rw [if_pos (by rfl)]; exact .head _⟩
   ·exact .inl z
  ·refine .inr ⟨c,?_⟩
   split
   ·exact .tail _ h
   ·exact h
theorem jm5 {n : Str} {v : Addr} : ∀ {l : List (Str × Addr)},(∃ c,(n,c) ∈ l)→(∀ c,(n,c) ∈ l→c = v)→l.lookup n = some v
 | [],⟨_,h⟩,_=>by cases h
 | (m,c) :: r,⟨d,h⟩,q=>by
  rw [List.lookup_cons]
  by_cases e : n = m
  ·subst e
   rw [beq_self_eq_true]
   exact congrArg some (q c (.head _))
  ·rw [beq_false_of_ne e]
   refine jm5 ⟨d,?_⟩ fun c' m'=>q c' (.tail _ m')
   rcases List.mem_cons.mp h with z | z
   ·cases z; exact absurd rfl e
   ·exact z
noncomputable def ArgV (N : List Str) (σ : St) : List Expr→List V→Prop
 | [],vs=>vs = []
 | .Name n _ :: es,vs=>∃ (i : Nat) (v : V) (r : List V),N[i]? = some n∧σ[i]? = some (some v)∧vs = v :: r∧ArgV N σ es r
 | .Constant .none _ _ :: es,vs=>∃ r,vs = .non :: r∧ArgV N σ es r
 | _ :: _,_=>False
noncomputable def jg0 (sc sx : Scope) : List Expr→Bool
 | []=>true
 | .Name n _ :: es=>decide (sc.names.lookup n = some .free) && decide (sx.names.lookup n = some .cell) && !(n == ("__debug__" : Str)) && !(n == ("__classdict__" : Str)) && jg0 sc sx es
 | .Constant .none _ _ :: es=>jg0 sc sx es
 | _ :: _=>false
noncomputable def thOk (sc sx : Scope) (g : Str) (es : List Expr) : Bool :=
 decide (sc.kind = .function) && !sc.isCoroutine && !sc.isGenerator && sc.names.all (fun x=>decide (x.2 ≠ .cell)) && decide (sc.names.lookup g = some .globalImplicit) && !(g == ("__debug__" : Str)) && sc.names.all (fun x=>!decide (x.2 = .free) || decide (sx.names.lookup x.1 = some .cell)) && jg0 sc sx es
structure DropP (H H1 : Hp) (D : Hp→Hp) : Prop where
 new : ∀ H2,Same H1 H2→∀ b o,H2 b = some o→(∀ ob,o ≠ .frz ob (.own b))→D H2 b = some o
 old : ∀ H2 b o,H b = some o→D H2 b = H2 b
noncomputable def jnf (P : Program) (w : World) (K : PySem.W.Frag) (mg : Str→Option Value) (base : Heap) (C : Addr) (k : Nat) : Sp:=fun vs H Q _=>∃ v,vs = [v] ∧
 jqd P w K mg base k H v (fun _ H'=>Q .non H') (fun cl dd H'=>cl = .ref C∧∃ dx p n,dd = some dx∧H' dx = some (xdO dx (putF "number" n [("part",p)]))∧∀ t H2,Same H' H2→H2 t = some (.tup [p,n])→Q (.ref t) H2)
noncomputable def jnd (C : Addr) (N : List Str) (T : Addr) (qual : Str) (es : List Expr) (sp : Sp) : TE:=fun σ H Q=>TabS qual H T∧∃ vs,ArgV N σ es vs∧∀ H1 D,ButT T H H1→TabS qual H1 T→DropP H H1 D →
 sp vs H1 (fun _ H2=>Q .non (D H2)) (fun cl dd H2=>cl = .ref C∧∃ dx p n,dd = some dx∧H2 dx = some (xdO dx (putF "number" n [("part",p)]))∧∀ t H3,Same H2 H3→H3 t = some (.tup [p,n])→Q (.ref t) (D H3))
section
variable {X : Cx} {T c0 C : Addr} {qual : Str} {scope : Scope} {kt k : Nat} {ft fg : Addr} {fdt fd : FuncData} {ps : List Str} {sp : Sp} {tn g : Str} {p gp cpos lpos pos : Pos} {e : Expr} {es : List Expr}
theorem jii (Ft : FnOk X.prog X.w X.K X.mg X.base CX0 kt ft fdt ["_law_call"] (jnf X.prog X.w X.K X.mg X.base C (k + 1))) (hr : Room kt X.A) (hg : Gl X tn) (hm : X.mg tn = some (.ref ft)) (hkp : PySem.W.keepIn X.K (.ref ft) = true) (hbT : je3 X.K fdt ["_law_call"] [])
  (Fg : FnOk X.prog X.w X.K X.mg X.base (CXE X.prog X.w) k fg fd ps sp) (hmg : X.mg g = some (.ref fg)) (hkg : PySem.W.keepIn X.K (.ref fg) = true) (hbg : je3 X.K fd ps [])
  (hcode : X.env.code = .ref c0) (Chd : PySem.W.CodeHd X.base c0 T) (hB : BltAt X.mg X.base) (hq : X.env.qual ++ Str.ofString "<lambda>" = qual) (hfn : ∀ x,X.fn x = true) (hsc : thOk scope X.env.scope g (e :: es) = true) (hdb : (tn == ("__debug__" : Str)) = false:=by decide) :
  PE X (.Call (.Name tn p) [.Lambda jeh (.Call (.Name g gp) (e :: es) [] cpos) scope lpos] [] pos) (jnd C X.N T qual (e :: es) sp):=by
 intro pins s σ H Q I h
 obtain ⟨tab,vs,hav,h⟩:=h
 simp only [thOk,Bool.and_eq_true,decide_eq_true_eq,Bool.not_eq_true',List.all_eq_true,Bool.or_eq_true] at hsc
 obtain ⟨⟨⟨⟨⟨⟨⟨hkind,hco⟩,hgen⟩,hnc⟩,hgl⟩,hgd⟩,hfree⟩,hth⟩:=hsc
 have hcellN : ∀ y ∈ scope.names,y.2 = .free→X.env.scope.names.lookup y.1 = some .cell:=fun y hy hf=>by
  rcases hfree y hy with z | z
  ·rw [hf] at z; simp at z
  ·exact z
 have hcell : ∀ y ∈ scope.names,y.2 = .free→∃ c,X.env.cells.lookup y.1 = some c:=fun y hy hf=>I.ok.has y.1 (.inl (hcellN y hy hf))
 refine wpAny_Call_Name_kw (jdb I hg hm ?_ hdb)
 have ha : PA X [.Lambda jeh (.Call (.Name g gp) (e :: es) [] cpos) scope lpos] (jg2 (tLamG X T qual (.Call (.Name g gp) (e :: es) [] cpos) scope) tNil):=ja0 (jrg hcode Chd hB hq hcell) ja2
 refine PySem.W.callWith_K (h₀:=X.base) I.ok.mod.kin hkp (thn (ha pos pins s σ H (fun us H1=>∃ f c' ctv,us = [.ref f]∧ButT T H H1∧TabS qual H1 T∧H1 c' = some (codO c' qual) ∧
   H1 f = some (.frz (PySem.W.kla_obj "<lambda>" qual jeh (.Call (.Name g gp) (e :: es) [] cpos) scope (jb1 X.env scope.names []) ((X.mg "__name__").getD .none) c' ctv) (.own f))) I ⟨tab,fun f c' ctv H' a1 a2 a3 a4 a5=>⟨f,c',ctv,rfl,a1,a2,a4,a5⟩⟩)
  fun us s1 ⟨zs,H1,I1,r,f,c',ctv,ez,b1,tab1,ec',ef⟩=>⟨I1.kIn,?_⟩)
 subst ez
 obtain ⟨u1,rfl,ru⟩:=r.one
 cases ru
 generalize hcl : jb1 X.env scope.names [] = clos at ef
 have hmem : ∀ n c,(n,c) ∈ clos→X.env.cells.lookup n = some c∧(n,NameKind.free) ∈ scope.names:=fun n c m=>by
  rw [← hcl] at m
  rcases jm9 m with z | ⟨z,z2⟩
  ·cases z
  ·obtain ⟨c2,hc2⟩:=hcell (n,.free) z rfl
   have hc2' : X.env.cells.lookup n = some c2:=hc2
   rw [hc2'] at z2
   rw [hc2',z2]
   exact ⟨rfl,z⟩
 have hcs : ∀ c ∈ clos.map (·.2),∃ n,X.env.cells.lookup n = some c:=fun c m=>by
  obtain ⟨⟨n,c2⟩,m2,rfl⟩:=List.mem_map.mp m
  exact ⟨n,(hmem n c2 m2).1⟩
 have hz : ∀ c ∈ clos.map (·.2),H1 c = none:=fun c m=>let ⟨n,q⟩:=hcs c m; I1.freeC n c q
 have hob : ∀ c ∈ clos.map (·.2),∃ ob,s1.heap.get? c = some ob:=fun c m=>by
  obtain ⟨n,q⟩:=hcs c m
  obtain ⟨v,o,ho,_⟩:=I1.cell n c q
  exact ⟨o,ho⟩
 have hge : ∀ c ∈ clos.map (·.2),X.s₀.heap.objs.size ≤ c:=fun c m=>let ⟨n,q⟩:=hcs c m; I1.ok.cab n c (hfn n) q
 have hbs : ∀ c ∈ clos.map (·.2),X.base.get? c = none:=fun c m=>Heap.get?_none_of_le (Nat.le_trans I1.ok.bsz (hge c m))
 have hfr : ∀ c ∈ clos.map (·.2),c ∉ frs X.stack:=fun c m z=>by
  rcases List.mem_cons.mp (I1.stkSub c z) with z | z
  ·obtain ⟨n,q⟩:=hcs c m
   exact I1.cne n c q z
  ·obtain ⟨_,o,ho,_⟩:=I1.ok.funs.mem z
   exact absurd (Nat.lt_of_lt_of_le (Heap.lt_size ho) (hge c m)) (Nat.lt_irrefl _)
 have hargs : ∀ {fs : List Expr} {ws : List V},jg0 scope X.env.scope fs = true→ArgV X.N σ fs ws→ThArgs scope clos (jf1 H1 s1.heap (clos.map (·.2))) fs ws:=by
  intro fs
  induction fs with
  | nil=>intro ws _ q; rw [show ws = [] from q]; exact .nil
  | cons a fs ih =>
   intro ws hn q
   match a,hn,q with
   | .Name n pn,hn,q =>
    simp only [jg0,Bool.and_eq_true,decide_eq_true_eq,Bool.not_eq_true'] at hn
    obtain ⟨⟨⟨⟨n1,n2⟩,n3⟩,n4⟩,n5⟩:=hn
    obtain ⟨i,v,r,q1,q2,rfl,q3⟩:=q
    obtain ⟨m,hmn,hlk⟩:=I1.loc
    obtain ⟨ud,rud,lk⟩:=hlk i n v q1 q2 (.inr (.inl n2))
    have hfm : (n,NameKind.free) ∈ scope.names:=PySem.mem_of_lookup n1
    obtain ⟨c,hc⟩ : ∃ c,X.env.cells.lookup n = some c:=hcell _ hfm rfl
    have hlook : clos.lookup n = some c:=jm5 (by rw [← hcl]; exact jma (.inl hfm)) fun c2 m2=>by
     have:=(hmem n c2 m2).1
     rw [hc] at this
     cases this
     rfl
    have hin : c ∈ clos.map (·.2):=List.mem_map.mpr ⟨(n,c),PySem.mem_of_lookup hlook,rfl⟩
    rcases lk with ⟨hk1,_⟩ | ⟨_,cc,hcc,oc,hoc,hdc⟩
    ·rw [show X.env.kindOf n = some .cell from n2] at hk1; cases hk1
    ·rw [hc] at hcc
     cases hcc
     exact .name n1 hlook (jfr hin hoc) hdc rud n3 n4 (ih n5 q3)
   | .Constant .none _ _,hn,q =>
    obtain ⟨r,rfl,q3⟩:=q
    exact .non (ih hn q3)
 have hD : DropP H (jf1 H1 s1.heap (clos.map (·.2))) (fun H2=>jf6 H2 (clos.map (·.2))):=by
  refine ⟨fun H2 sm b o q n=>?_,fun H2 b o q=>?_⟩
  ·by_cases m : b ∈ clos.map (·.2)
   ·obtain ⟨ob,g1⟩:=hob b m
    have:=sm _ _ (jfr (H:=H1) m g1)
    rw [q] at this
    exact absurd (Option.some.inj this) (n ob)
   ·unfold jf6; rw [if_neg m]; exact q
  ·unfold jf6
   refine if_neg fun m=>?_
   by_cases ht : b = T
   ·obtain ⟨pst,eT,_⟩:=tab1
    rw [ht] at m
    rw [hz T m] at eT
    cases eT
   ·have:=b1 b o ht q
    rw [hz b m] at this
    cases this
 have th : jqd X.prog X.w X.K X.mg X.base (k + 1) (jf1 H1 s1.heap (clos.map (·.2))) (.ref f) (fun _ H2=>Q .non (jf6 H2 (clos.map (·.2)))) (fun cl dd H2=>cl = .ref C∧∃ dx p n,dd = some dx∧H2 dx = some (xdO dx (putF "number" n [("part",p)]))∧∀ t H3,Same H2 H3→H3 t = some (.tup [p,n])→Q (.ref t) (jf6 H3 (clos.map (·.2)))) :=
  jph Fg hmg hkg hbg hkind hco hgen (fun x hx=>hnc x hx) hgl hgd (jbt hz ef) (jbt hz ec') (hargs hth hav)
   (h _ _ (fun b o nb q=>jbt hz (b1 b o nb q)) (tab1.same fun b o q=>jbt hz q) hD)
 refine wpAny_call (codeAny_mono (Ft.run X.A X.stack s1 (jf1 H1 s1.heap (clos.map (·.2))) ⟨[.ref f],[]⟩ [.ref f] [.ref f] (fun v H2=>Q v (jf6 H2 (clos.map (·.2)))) (fun _ _ _=>False) hr (joj I1.env0 hz hob hbs hfr) (by simpa using hbT s1 [.ref f] I1.kIn rfl) (.cons rfl .nil) ⟨.ref f,rfl,th⟩) fun rr s' hq=>?_)
 cases rr with
 | error e=>exact False.elim hq
 | ok fl =>
  cases fl with
  | ret u=>exact I1.after (jrw hz hob hq)
  | next=>exact False.elim hq
  | brk=>exact False.elim hq
  | cont=>exact False.elim hq
end
end L2
namespace L2
open PySem PySem.Spec PyProof.Rows
section
variable {prog : Program} {w : World} {A : Around} {R : Result→Shared→Prop} {I : Addr} {fp wr : List Addr} {n : Nat} {P : Nat→Value→Prop} {St : Nat→Heap→Prop}
noncomputable def jke (val : Nat→Int) (n : Nat) (m : Int) : Prop:=(∃ i,i < n∧m = val i)∧∀ i,i < n→m ≤ val i
theorem jke.up {val : Nat→Int} {j : Nat} {m : Int} (h : jke val j m) (hb : val j < m) : jke val (j + 1) (val j) :=
 ⟨⟨j,Nat.lt_succ_self _,rfl⟩,fun i hi=>by
  rcases Nat.lt_succ_iff_lt_or_eq.mp hi with z | z
  ·have:=h.2 i z; omega
  ·rw [z]; exact Int.le_refl _⟩
theorem jke.keep {val : Nat→Int} {j : Nat} {m : Int} (h : jke val j m) (hb : ¬ val j < m) : jke val (j + 1) m :=
 ⟨let ⟨i,hi,e⟩:=h.1; ⟨i,Nat.lt_succ_of_lt hi,e⟩,fun i hi=>by
  rcases Nat.lt_succ_iff_lt_or_eq.mp hi with z | z
  ·exact h.2 i z
  ·rw [z]; omega⟩
theorem jfq : (toString "min" ++ toString ".loop" : String) = "min.loop":=by decide
theorem jl2 (W : Walks prog w A.in1 I fp wr n P St) (val : Nat→Int) (hval : ∀ i v,P i v→∃ t : Tok,v = Value.int (val i) t) (kw : List (Str × Value)) (S : Addr) (hSf : S ∉ fp) :
  ∀ (k j : Nat) (s : Shared) (m : Int) (t : Tok) (c : Nat),n - j = k→j ≤ n→St j s.heap→jke val j m →
  s.heap.get? S = some { cls:=.type "list",dict:=none,data:=.seq #[.int m t,.int m t] c,slots:=#[] } →
  (∀ m' t' h' tk,jke val n m'→(∀ b o,b ∉ wr→b ≠ S→s.heap.get? b = some o→h'.get? b = some o)→R (.ok (.ret (.int m' t'))) { s with heap:=h',toks:=tk }) →
  codeAny (model prog w) A (.builtin "min.loop" ⟨[.ref I,.none,.ref S],kw⟩) R s:=by
 have hSw : S ∉ wr:=fun z=>hSf (W.sub _ z)
 intro k
 induction k with
 | zero =>
  intro j s m t c hk hj hst hb hS hR
  have hin : j = n:=by omega
  subst hin
  refine codeAny_builtin PySem.F.entry_min_loop ?_
  rw [Around.under_plainId PySem.F.plain_min_loop _]
  show wpAny _ A.in1 (seqItems? (.ref S) >>= _) _ _ s
  refine wpAny_bind (wpAny_seqItems hS rfl ?_)
  show wpAny _ A.in1 (tryCatch (pyNext (.ref I)) _ >>= _) _ _ s
  refine wpAny_bind (wpAny_tryCatch (W.done s _ _ hst fun h' tk kp=>?_))
  have hS':=kp S _ hSw hS
  show wpAny _ A.in1 (updateSeq S (fun _=>#[]) >>= _) _ _ _
  refine wpAny_bind ?_
  refine wpAny_updateSeq hS' rfl (wpAny_bind (wpAny_letGo (wpAny_pure ?_)))
  exact hR m t _ tk hb fun b o hbw hbS e=>(Heap.get?_update_other _ _ (Ne.symm hbS)).trans (kp b o hbw e)
 | succ k ih =>
  intro j s m t c hk hj hst hb hS hR
  have hlt : j < n:=by omega
  refine codeAny_builtin PySem.F.entry_min_loop ?_
  rw [Around.under_plainId PySem.F.plain_min_loop _]
  show wpAny _ A.in1 (seqItems? (.ref S) >>= _) _ _ s
  refine wpAny_bind (wpAny_seqItems hS rfl ?_)
  show wpAny _ A.in1 (tryCatch (pyNext (.ref I)) _ >>= _) _ _ s
  refine wpAny_bind (wpAny_tryCatch (W.item j s _ _ hlt hst fun v h' tk hP hst' kp=>?_))
  obtain ⟨t',rfl⟩:=hval j v hP
  have hS':=kp S _ hSw hS
  show wpAny _ A.in1 (tryCatch (holding [.int (val j) t',.int (val j) t'] (richCompare .Lt (.int (val j) t') (.int m t) >>= _)) _ >>= _) _ _ _
  refine wpAny_bind (wpAny_tryCatch (wpAny_holding (wpAny_bind (lt_int ?_))))
  refine wpAny_bind (wpAny_holding (wpAny_truthy_bool ?_))
  refine wpAny_bind (wpAny_letGo (wpAny_pure ?_))
  by_cases hc : val j < m
  ·rw [decide_eq_true (show val j < m from hc)]
   simp only [if_true]
   refine wpAny_bind ?_
   refine wpAny_updateSeq hS' rfl (wpAny_bind (wpAny_letGo ?_))
   rw [jfq]
   refine wpAny_pure ⟨plainId_quiet PySem.F.plain_min_loop _,ih (j + 1) _ (val j) t' _ (by omega) hlt (W.frame _ _ _ hst' fun b hbf o e=>?_) (hb.up hc) (Heap.get?_update_self _ hS' rfl) fun m' u h'' tk'' hB k''=>?_⟩
   ·exact (Heap.get?_update_other _ _ (fun z : S = b=>hSf (by rw [z]; exact hbf))).trans e
   ·exact hR m' u h'' tk'' hB fun b o hbw hbS e=>k'' b o hbw hbS ((Heap.get?_update_other _ _ (Ne.symm hbS)).trans (kp b o hbw e))
  ·rw [decide_eq_false (show ¬ val j < m from hc)]
   simp only [Bool.false_eq_true,if_false]
   refine wpAny_bind (wpAny_letGo ?_)
   rw [jfq]
   refine wpAny_pure ⟨plainId_quiet PySem.F.plain_min_loop _,ih (j + 1) _ m t c (by omega) hlt hst' (hb.keep hc) hS' fun m' u h'' tk'' hB k''=>?_⟩
   exact hR m' u h'' tk'' hB fun b o hbw hbS e=>k'' b o hbw hbS (kp b o hbw e)
end
section
variable {X : Cx}
theorem jfl (a d : Value) : argsOk "min" ⟨[a],[(Str.ofString "default",d)]⟩:=by unfold argsOk; kernel_rfl
noncomputable def rMinD : List V→List V→Hp→VK→Prop:=fun vs zs H Q=>∃ (p : Addr) (ns : List Int) (d : Int),vs = [.ref p]∧zs = [.int d]∧H p = some (.lst (ns.map V.int)) ∧
 ∀ m,(ns = []→m = d)→(ns ≠ []→m ∈ ns)→(∀ x ∈ ns,m ≤ x)→Q (.int m) H
theorem jp6 (hc : X.calm = true) : ∀ (pins : List (Addr × Obj)) (s : Shared) (σ : St) (H : Hp) (xs zs : List V) (us ws : List Value) (Q : VK),Inv X pins σ H s→Vals xs us→Vals zs ws→rMinD xs zs H Q →
  wpAny (model X.prog X.w) X.A (call (.builtin "min") us ([Str.ofString "default"].zip ws)) (EP X pins σ Q) X.xe s:=by
 intro pins s σ H xs zs us ws Q I r rz h
 obtain ⟨p,ns,d,rfl,rfl,e,q⟩:=h
 obtain ⟨u,rfl,rx⟩:=jfz r
 cases rx
 obtain ⟨dv,rfl,td,rfl⟩:=jfz rz
 obtain ⟨z,its,c,r',hlen,e'⟩:=I.lstM e
 have hI:=jcq r'
 have plt : p < s.heap.objs.size:=Heap.lt_size e'
 have hL : s.heap.IsList p its.toArray:=⟨_,e',rfl,_,rfl⟩
 refine kmk_tree PySem.F.kind_min PySem.F.plain_min PySem.F.entry_min (jfl _ _) ?_
 show wpAny _ X.A.in1 (Builtin.Builtins.bindParams "min" ["key","default"] 0 ⟨[],[(Str.ofString "default",.int d td)]⟩ >>= _) _ _ s
 refine wpAny_bind (wpAny_of_eq (show Builtin.Builtins.bindParams "min" ["key","default"] 0 ⟨[],[(Str.ofString "default",.int d td)]⟩ = pure [none,some (.int d td)] from rfl) ?_)
 refine wpAny_bind (wpAny_pure ?_)
 refine wpAny_bind (wpAny_pyIter_list hL ?_)
 refine wpAny_bind (wpAny_newList ?_ (Nat.zero_le _))
 rw [jfq]
 have hS : (s.heap.push { cls:=.type "list_iterator",data:=.fields #[.ref p,.int 0 0] }).objs.size = s.heap.objs.size + 1:=size_push' ..
 have W:=Walks.list (prog:=X.prog) (w:=X.w) (A:=X.A.in1) (show X.A.in1.handled = none from I.ok.hd hc) s.heap.objs.size p (Nat.ne_of_lt plt) its.toArray
 have hsz : its.toArray.size = ns.length:=by rw [List.size_toArray,← hlen,List.length_map]
 have hval : ∀ (i : Nat) (v : Value),its.toArray[i]? = some v→∃ t : Tok,v = Value.int (ns[i]?.getD 0) t:=fun i v hv=>by
  have hv' : its[i]? = some v:=by simpa using hv
  have hi : i < ns.length:=by
   have:=(List.getElem?_eq_some_iff.mp hv').1
   rw [List.length_map] at hlen
   omega
  obtain ⟨u,e1,t,e2⟩:=r'.get (i:=i) (x:=.int ns[i]) (by rw [List.getElem?_map,List.getElem?_eq_getElem hi]; rfl)
  rw [hv'] at e1
  cases e1
  exact ⟨t,by rw [e2,List.getElem?_eq_getElem hi]; rfl⟩
 have kp0 : ∀ (h' : Heap) (tk : Nat),(∀ b o,b ∉ [s.heap.objs.size]→b ≠ (s.heap.push { cls:=.type "list_iterator",data:=.fields #[.ref p,.int 0 0] }).objs.size→((s.heap.push { cls:=.type "list_iterator",data:=.fields #[.ref p,.int 0 0] }).push { cls:=.type "list",data:=.seq #[] }).get? b = some o→h'.get? b = some o) →
   Inv X pins σ H { s with heap:=h',toks:=tk }:=fun h' tk k=>I.kept fun b o qq=>k b o (by
    intro z
    have : b = s.heap.objs.size:=by simpa using z
    exact absurd (Heap.lt_size qq) (by rw [this]; exact Nat.lt_irrefl _)) (by rw [hS]; exact Nat.ne_of_lt (Nat.lt_succ_of_lt (Heap.lt_size qq))) (Heap.get?_push_of_some _ (Heap.get?_push_of_some _ qq))
 have hst0 : (fun i (h : Heap)=>h.IsListIter s.heap.objs.size p i∧h.IsList p its.toArray) 0 ((s.heap.push { cls:=.type "list_iterator",data:=.fields #[.ref p,.int 0 0] }).push { cls:=.type "list",data:=.seq #[] }) :=
  ⟨⟨_,Heap.get?_push_of_some _ (Heap.get?_push_size _ rfl),rfl,rfl⟩,(hL.push _).push _⟩
 have hSg : ((s.heap.push { cls:=.type "list_iterator",data:=.fields #[.ref p,.int 0 0] }).push { cls:=.type "list",data:=.seq #[] }).get? (s.heap.push { cls:=.type "list_iterator",data:=.fields #[.ref p,.int 0 0] }).objs.size = some { cls:=.type "list",dict:=none,data:=.seq #[] 0,slots:=#[] }:=Heap.get?_push_size _ rfl
 have hSf : (s.heap.push { cls:=.type "list_iterator",data:=.fields #[.ref p,.int 0 0] }).objs.size ∉ [s.heap.objs.size,p]:=by
  rw [hS]
  intro z
  rcases List.mem_cons.mp z with z | z
  ·exact absurd z (Nat.succ_ne_self _)
  ·have z:=List.mem_singleton.mp z
   rw [← z] at plt
   exact Nat.lt_irrefl _ (Nat.lt_of_succ_lt plt)
 refine wpAny_pure ⟨plainId_quiet PySem.F.plain_min_loop _,?_⟩
 refine codeAny_builtin PySem.F.entry_min_loop ?_
 rw [Around.under_plainId PySem.F.plain_min_loop _]
 show wpAny _ X.A.in1 (seqItems? (.ref _) >>= _) _ _ _
 refine wpAny_bind (wpAny_seqItems hSg rfl ?_)
 show wpAny _ X.A.in1 (tryCatch (pyNext (.ref s.heap.objs.size)) _ >>= _) _ _ _
 cases hn : ns with
 | nil =>
  have h0 : its.toArray.size = 0:=by rw [hsz,hn]; rfl
  refine wpAny_bind (wpAny_tryCatch (W.done _ _ _ (by rw [h0]; exact hst0) fun h' tk kp=>?_))
  refine wpAny_bind (wpAny_rule (wpAny_pure ?_))
  exact ⟨.int d,H,kp0 h' tk fun b o h1 _ h3=>kp b o h1 h3,⟨td,rfl⟩,q d (fun _=>rfl) (fun z=>absurd hn z) (by rw [hn]; intro x hx; cases hx)⟩
 | cons n0 rest =>
  have hpos : 0 < its.toArray.size:=by rw [hsz,hn]; simp
  refine wpAny_bind (wpAny_tryCatch (W.item 0 _ _ _ hpos hst0 fun v h' tk hP hst' kp=>?_))
  obtain ⟨t',rfl⟩:=hval 0 v hP
  have hS':=kp _ _ (fun z=>hSf (List.mem_cons.mpr (.inl (List.mem_singleton.mp z)))) hSg
  show wpAny _ X.A.in1 (updateSeq _ (fun _=>#[_,_]) >>= _) _ _ _
  refine wpAny_bind ?_
  refine wpAny_updateSeq hS' rfl ?_
  rw [jfq]
  refine wpAny_pure ⟨plainId_quiet PySem.F.plain_min_loop _,jl2 W (fun i=>ns[i]?.getD 0) hval _ _ hSf _ 1 _ _ t' _ rfl hpos (W.frame _ _ _ hst' fun b hbf o e=>?_) ⟨⟨0,Nat.one_pos,rfl⟩,fun i hi=>by
   have : i = 0:=by omega
   subst this; exact Int.le_refl _⟩ (Heap.get?_update_self _ hS' rfl) fun m u h'' tk'' hB k''=>?_⟩
  ·exact (Heap.get?_update_other _ _ (fun z=>hSf (by rw [z]; exact hbf))).trans e
  ·refine ⟨.int m,H,kp0 h'' tk'' fun b o h1 h2 h3=>k'' b o h1 h2 ((Heap.get?_update_other _ _ (Ne.symm h2)).trans (kp b o h1 h3)),⟨u,rfl⟩,q m (fun z=>by rw [hn] at z; cases z) (fun _=>?_) fun x hx=>?_⟩
   ·obtain ⟨i,hi,e1⟩:=hB.1
    rw [hsz] at hi
    rw [e1]
    show ns[i]?.getD 0 ∈ ns
    rw [List.getElem?_eq_getElem hi]
    exact List.getElem_mem hi
   ·obtain ⟨i,hi,e1⟩:=List.mem_iff_getElem.mp hx
    have : m ≤ ns[i]?.getD 0:=hB.2 i (by rw [hsz]; exact hi)
    rw [List.getElem?_eq_getElem hi] at this
    rw [← e1]
    exact this
end
section
variable {X : Cx}
end
end L2
namespace L2
open PySem PySem.Spec PyProof.Rows
section
variable {X : Cx}
end
end L2
namespace L2
open PySem PySem.Spec PyProof.Rows
mutual
noncomputable def pdOf : Dt→PyData
 | .non=>.none
 | .bl b=>.bool b
 | .int i=>.int i
 | .str x=>.str x
 | .tup ds=>.tuple (jd2 ds)
 | .lst ds=>.list (jd2 ds)
noncomputable def jd2 : List Dt→List PyData
 | []=>[]
 | d :: ds=>pdOf d :: jd2 ds
end
mutual
noncomputable def cntD : Dt→Nat
 | .tup ds=>jd3 ds + 1
 | .lst ds=>jd3 ds + 1
 | _=>1
noncomputable def jd3 : List Dt→Nat
 | []=>0
 | d :: ds=>cntD d + jd3 ds
end
mutual
noncomputable def shrt : Dt→Prop
 | .int i=>i.natAbs.log2 < 60
 | .str x=>(reprText x).length ≤ 60
 | .tup ds=>jcu ds
 | .lst ds=>jcu ds
 | _=>True
noncomputable def jcu : List Dt→Prop
 | []=>True
 | d :: ds=>shrt d∧jcu ds
end
theorem jg1 : ∀ (ts : List Str) (k : Nat) (acc : Str),(textFrom k acc ts).length ≤ acc.length + piled ts
 | [],k,acc=>by show acc.length ≤ _; omega
 | t :: r,k,acc=>by
  have h:=jg1 r (k + 1) (acc ++ (if k > 0 then ", " else "" : String) ++ t)
  have e : (acc ++ (if k > 0 then ", " else "" : String) ++ t).length ≤ acc.length + 2 + t.length:=by
   rw [strLen_append,strLen_append]
   by_cases c : k > 0
   ·rw [if_pos c]; exact Nat.le_refl _
   ·rw [if_neg c]
    show acc.length + 0 + _ ≤ _
    omega
  show (textFrom (k + 1) _ r).length ≤ _
  rw [piled_cons]
  omega
theorem jl4 (ts : List Str) : (listText ts).length ≤ piled ts + 2:=by
 unfold listText
 rw [strLen_append]
 have:=jg1 ts 0 (("[" : String) : Str)
 have e1 : ((("[" : String) : Str)).length = 1:=rfl
 have e2 : ((("]" : String) : Str)).length = 1:=rfl
 omega
theorem jjd (ts : List Str) : (tupleText ts).length ≤ piled ts + 3:=by
 unfold tupleText
 rw [strLen_append,strLen_append]
 have e1 : ((("(" : String) : Str)).length = 1:=rfl
 have e2 : (((if ts.length == 1 then ",)" else ")" : String) : Str)).length ≤ 2:=by
  split
  ·exact Nat.le_refl _
  ·exact Nat.le_succ _
 by_cases c : ts = []
 ·subst c
  have e3 : (Str.join ", " []).length = 0:=rfl
  omega
 ·have:=join_length_add ts c
  omega
mutual
theorem jji : ∀ (d : Dt),shrt d→(pdOf d).shown.length + 2 ≤ 69 * cntD d
 | .non,_=>by simp only [pdOf,cntD,PyData.shown]; decide
 | .bl b,_=>by simp only [pdOf,cntD,PyData.shown]; cases b <;> decide
 | .int i,h=>by
  simp only [pdOf,cntD,PyData.shown]
  rw [shrt] at h
  have:=int_text_length_le (by decide) h
  have e : (Str.ofString (toString i)).length = (toString i).length:=PySem.ofString_length _
  show (Str.ofString (toString i)).length + 2 ≤ _
  omega
 | .str x,h=>by
  simp only [pdOf,cntD,PyData.shown]
  rw [shrt] at h
  omega
 | .tup ds,h=>by
  rw [shrt] at h
  simp only [pdOf,cntD,PyData.shown]
  have h1:=jet ds h
  have h2:=jjd (PyData.shownAll (jd2 ds))
  omega
 | .lst ds,h=>by
  rw [shrt] at h
  simp only [pdOf,cntD,PyData.shown]
  have h1:=jet ds h
  have h2:=jl4 (PyData.shownAll (jd2 ds))
  omega
theorem jet : ∀ (ds : List Dt),jcu ds→piled (PyData.shownAll (jd2 ds)) ≤ 69 * jd3 ds
 | [],_=>by simp only [jd2,jd3,PyData.shownAll,piled_nil]; omega
 | d :: ds,h=>by
  rw [jcu] at h
  simp only [jd2,jd3,PyData.shownAll,piled_cons]
  have h1:=jji d h.1
  have h2:=jet ds h.2
  omega
end
mutual
theorem jlp : ∀ (d : Dt),shrt d→(pdOf d).showable = true
 | .non,_=>by simp only [pdOf,PyData.showable]
 | .bl b,_=>by simp only [pdOf,PyData.showable]
 | .int i,h=>by
  rw [shrt] at h
  simp only [pdOf,PyData.showable]
  exact decide_eq_true (by omega)
 | .str x,h=>by simp only [pdOf,PyData.showable]
 | .tup ds,h=>by rw [shrt] at h; simp only [pdOf,PyData.showable]; exact jg6 ds h
 | .lst ds,h=>by rw [shrt] at h; simp only [pdOf,PyData.showable]; exact jg6 ds h
theorem jg6 : ∀ (ds : List Dt),jcu ds→PyData.showableAll (jd2 ds) = true
 | [],_=>by simp only [jd2,PyData.showableAll]
 | d :: ds,h=>by
  rw [jcu] at h
  simp only [jd2,PyData.showableAll,Bool.and_eq_true]
  exact ⟨jlp d h.1,jg6 ds h.2⟩
end
mutual
theorem jjo : ∀ (d : Dt),(pdOf d).hasDict = false
 | .non=>by simp only [pdOf,PyData.hasDict]
 | .bl b=>by simp only [pdOf,PyData.hasDict]
 | .int i=>by simp only [pdOf,PyData.hasDict]
 | .str x=>by simp only [pdOf,PyData.hasDict]
 | .tup ds=>by simp only [pdOf,PyData.hasDict]; exact jey ds
 | .lst ds=>by simp only [pdOf,PyData.hasDict]; exact jey ds
theorem jey : ∀ (ds : List Dt),PyData.hasDictAll (jd2 ds) = false
 | []=>by simp only [jd2,PyData.hasDictAll]
 | d :: ds=>by simp only [jd2,PyData.hasDictAll,jjo d,jey ds,Bool.or_self]
end
mutual
noncomputable def dpD : Dt→Nat
 | .tup ds=>dpDs ds + 1
 | .lst ds=>dpDs ds + 1
 | _=>0
noncomputable def dpDs : List Dt→Nat
 | []=>0
 | d :: ds=>max (dpD d) (dpDs ds)
end
mutual
theorem jm0 : ∀ (d : Dt),(pdOf d).depth ≤ 2 * dpD d + 2
 | .non=>by simp only [pdOf,PyData.depth]; omega
 | .bl b=>by simp only [pdOf,PyData.depth]; omega
 | .int i=>by simp only [pdOf,PyData.depth]; omega
 | .str x=>by simp only [pdOf,PyData.depth]; omega
 | .tup ds=>by
  have:=jgj ds
  simp only [pdOf,PyData.depth,dpD]
  omega
 | .lst ds=>by
  have:=jgj ds
  simp only [pdOf,PyData.depth,dpD]
  omega
theorem jgj : ∀ (ds : List Dt),PyData.depthAll (jd2 ds) ≤ 2 * dpDs ds + 2
 | []=>by simp only [jd2,PyData.depthAll]; omega
 | d :: ds=>by
  have h1:=jm0 d
  have h2:=jgj ds
  simp only [jd2,PyData.depthAll,dpDs]
  omega
end
section
variable {X : Cx} {pins : List (Addr × Obj)} {σ : St} {H : Hp} {s : Shared}
mutual
theorem jlu (I : Inv X pins σ H s) : ∀ (d : Dt) {v : V} {u : Value},Rep H d v→RelV v u→∃ as,Reads s.heap u (pdOf d) as
 | .non,_,_,h,r=>by
  rw [Rep] at h; subst h
  cases (show _ = Value.none from r)
  exact ⟨_,.none⟩
 | .bl b,_,_,h,r=>by
  rw [Rep] at h; subst h
  cases (show _ = Value.bool b from r)
  exact ⟨_,.bool b⟩
 | .int i,_,_,h,r=>by
  rw [Rep] at h; subst h
  obtain ⟨t,rfl⟩:=r
  exact ⟨_,.int i t⟩
 | .str x,_,_,h,r=>by
  rw [Rep] at h; subst h
  obtain ⟨t,rfl⟩:=r
  exact ⟨_,.str x t⟩
 | .tup ds,_,_,h,r=>by
  rw [Rep] at h
  obtain ⟨a,vs,rfl,e,rs⟩:=h
  cases (show _ = Value.ref a from r)
  obtain ⟨_,its,rv,o,h1,h2,h3⟩:=(show jb2 X.prog X.w H s.heap a (.tup vs) from I.hok a _ e)
  obtain ⟨as,ra⟩:=jgb I ds rs rv
  obtain ⟨n,h3⟩ : ∃ n,o.data = .seq its.toArray n:=by first | exact ⟨_,h3⟩ | exact h3 | (obtain ⟨n,z⟩:=h3; exact ⟨n,z⟩)
  exact ⟨as,.tuple h1 h2 h3 (by simpa using ra)⟩
 | .lst ds,_,_,h,r=>by
  rw [Rep] at h
  obtain ⟨a,vs,rfl,e,rs⟩:=h
  cases (show _ = Value.ref a from r)
  obtain ⟨_,its,n,rv,_,eo⟩:=I.lstM e
  obtain ⟨as,ra⟩:=jgb I ds rs rv
  exact ⟨_,.list eo rfl rfl (by simpa using ra)⟩
theorem jgb (I : Inv X pins σ H s) : ∀ (ds : List Dt) {vs : List V} {us : List Value},Reps H ds vs→Vals vs us→∃ as,ReadsAll s.heap us (jd2 ds) as
 | [],_,_,h,r=>by
  rw [Reps] at h; subst h
  cases r
  exact ⟨_,.nil⟩
 | d :: ds,_,_,h,r=>by
  rw [Reps] at h
  obtain ⟨v,q,rfl,h1,h2⟩:=h
  cases r with
  | cons r1 r2 =>
   obtain ⟨as,ra⟩:=jlu I d h1 r1
   obtain ⟨bs,rb⟩:=jgb I ds h2 r2
   exact ⟨_,.cons ra rb⟩
end
end
noncomputable def fRepr : List V→Hp→VK→Prop:=fun vs H Q=>∃ a d,vs = [.ref a]∧Rep H d (.ref a)∧shrt d∧cntD d ≤ 100000∧dpD d ≤ 20∧Q (.str (pdOf d).shown) H
theorem jqs {X : Cx} {k : Nat} (hr : Room k X.A) : jbu X (.builtin "repr") fRepr:=by
 intro pins s σ H vs us Q I rv h
 obtain ⟨a,d,rfl,hd,hs,hc,hp,q⟩:=h
 obtain ⟨u,rfl,ru⟩:=jfz rv
 obtain ⟨as,ra⟩:=jlu I d hd ru
 cases ru
 have h1:=jji d hs
 have h2 : (7000000 : Nat) ≤ sizeLine:=by decide
 have h3:=jm0 d
 have h4:=hr.un
 exact repr_of_reads' ra (jlp d hs) (PyData.noDict_hsm (jjo d)) hr.gd (by omega) (fun _ _ e=>e) (fun h' t tk hk=>⟨.str (pdOf d).shown,H,I.kept (h':=h') (t':=tk) hk,⟨t,rfl⟩,q⟩) (by omega)
theorem jps (its : List Value) : slicePick its.toArray none none (some (-1)) = its.reverse.toArray:=by
 unfold slicePick
 congr 1
 have hb : sliceBounds none none (some (-1)) its.toArray.size = ((its.length : Int) - 1,-1,-1):=by
  simp [sliceBounds]
 rw [hb]
 have hr : sliceRange ((its.length : Int) - 1) (-1) (-1) = (List.range its.length).map fun k=>its.length - 1 - k:=by
  unfold sliceRange
  have h0 : ¬ ((-1 : Int) > 0):=by decide
  simp only [h0,if_false]
  have hc : (if (its.length : Int) - 1 > -1 then ((its.length : Int) - 1 - -1 - -1 - 1) / (- -1) else 0).toNat = its.length:=by
   by_cases hn : (its.length : Int) - 1 > -1
   ·rw [if_pos hn]
    have e : (- -1 : Int) = 1:=by decide
    rw [e,Int.ediv_one]; omega
   ·rw [if_neg hn]; omega
  rw [hc]
  refine List.map_congr_left fun k hk=>?_
  have hk' : k < its.length:=List.mem_range.mp hk
  omega
 rw [hr,List.filterMap_map]
 apply List.ext_getElem?
 intro i
 have hm : (List.range its.length).filterMap ((fun x=>its.toArray[x]?) ∘ fun k=>its.length - 1 - k) = (List.range its.length).map fun k=>its.getD (its.length - 1 - k) .none:=by
  have : ∀ l : List Nat,(∀ k ∈ l,k < its.length)→l.filterMap ((fun x=>its.toArray[x]?) ∘ fun k=>its.length - 1 - k) = l.map fun k=>its.getD (its.length - 1 - k) .none:=fun l=>by
   induction l with
   | nil=>intro _; rfl
   | cons k r ih =>
    intro hk
    have hk0:=hk k (.head _)
    have e : (its.toArray[its.length - 1 - k]?) = some (its.getD (its.length - 1 - k) .none):=by
     rw [List.getElem?_toArray,List.getD_eq_getElem?_getD,List.getElem?_eq_getElem (by omega)]
     rfl
    rw [List.filterMap_cons]
    have e' : ((fun x=>its.toArray[x]?) ∘ fun k=>its.length - 1 - k) k = some (its.getD (its.length - 1 - k) .none):=e
    rw [e']
    dsimp only
    rw [List.map_cons,ih fun j hj=>hk j (.tail _ hj)]
  exact this _ fun k hk=>List.mem_range.mp hk
 rw [hm]
 by_cases c : i < its.length
 ·rw [List.getElem?_map,List.getElem?_range c,List.getElem?_reverse c]
  show some (its.getD (its.length - 1 - i) .none) = _
  rw [List.getD_eq_getElem?_getD,List.getElem?_eq_getElem (by omega)]
  rfl
 ·rw [List.getElem?_eq_none (by rw [List.length_map,List.length_range]; omega),List.getElem?_eq_none (by rw [List.length_reverse]; omega)]
noncomputable def fRev (te : TE) : TE:=fun σ H Q=>te σ H fun x H1=>match x with
 | .ref a=>match H1 a with
  | some (.lst xs)=>∀ p,H1 p = none→Q (.ref p) (upd H1 p (.lst xs.reverse))
  | _=>False
 | _=>False
theorem jld : ∀ {vs : List V} {us : List Value},Vals vs us→Vals vs.reverse us.reverse
 | _,_,.nil=>.nil
 | _,_,.cons r t=>by
  rw [List.reverse_cons,List.reverse_cons]
  exact (jld t).append (.cons r .nil)
theorem pe_rev {X : Cx} {e : Expr} {te : TE} {k : Nat} {z1 z2 p2 pos : Pos} (he : PE X e te) : PE X (.Subscript e (.Slice none none (some (.UnaryOp .USub (.Constant (.int 1) k z1) z2)) p2) pos) (fRev te):=by
 intro pins s σ H Q I h
 refine Subscript_ (thn (he pins s σ H _ I h) fun v s1 ⟨x,H1,I1,r1,q1⟩=>?_)
 refine wpAny_Slice ?_
 simp only [evalPart_none]
 refine wpAny_pure (wpAny_pure ?_)
 rw [evalPart_some]
 have hm : PE X (.UnaryOp .USub (.Constant (.int 1) k z1) z2) (tUn fNeg (tC (.int 1))):=jkm jki ja4
 refine thn (hm pins s1 σ H1 (fun y H2=>y = .int (-1)∧H2 = H1) I1 ⟨rfl,rfl⟩) fun st s2 ⟨y,H2,I2,r2,ey,eh⟩=>?_
 subst ey eh
 obtain ⟨t2,rfl⟩:=r2
 split at q1
 ·rename_i a
  split at q1
  ·rename_i xs ea
   cases r1
   have I4 : Inv X pins σ H2 { s2 with heap:=s2.heap.push { cls:=.type "slice",data:=.fields #[.none,.none,.int (-1) t2] } }:=I2.kept (t':=s2.toks) fun b ob q=>Heap.get?_push_of_some _ q
   obtain ⟨its,r,ht,hz⟩:=I4.list (SqL.of ea)
   have hlen:=r.length
   show wpAny (model X.prog X.w) X.A (subscriptTail e (.Slice none none (some (.UnaryOp .USub (.Constant (.int 1) k z1) z2)) p2) (.ref a) (.ref s2.heap.objs.size)) (EP X pins σ Q) X.xe { s2 with heap:=s2.heap.push { cls:=.type "slice",data:=.fields #[.none,.none,.int (-1) t2] } }
   refine tail_any (ops:=[.ref a,.ref s2.heap.objs.size]) ht.isList.typeIs slot_list_getitem.lookup ?_ (by with_unfolding_all rfl)
   refine wpAny_getItem_list_slice ht.isList (Heap.IsSliceOf.new ..) .none .none (.int (-1) t2) (by decide) ?_ (by rw [List.size_toArray] <;> omega)
   rw [jps]
   refine ⟨.ref _,_,I4.laid (t':=s2.toks) (o:=.lst xs.reverse) (fun b ob q=>Heap.get?_push_of_some _ q) (Nat.le_refl _) ?_,rfl,q1 _ (I4.hok.fresh (Nat.le_refl _))⟩
   exact ⟨by rw [List.length_reverse]; exact hz,_,0,jld r,Heap.get?_push_size _ rfl⟩
  ·exact q1.elim
 ·exact q1.elim
end L2
namespace My
open PySem L2
theorem sl0 : (0 ≤ sizeLine) = True:=eq_true (by decide)
theorem sl1 : (1 ≤ sizeLine) = True:=eq_true (by decide)
theorem sl2 : (2 ≤ sizeLine) = True:=eq_true (by decide)
theorem sl3 : (3 ≤ sizeLine) = True:=eq_true (by decide)
theorem sl4 : (4 ≤ sizeLine) = True:=eq_true (by decide)
end My
local macro_rules | `(tactic| walk_at "RD") => `(tactic| try simp only [L2.je7, L2.jde, L2.fLeT, L2.fIsB, L2.tSeq, L2.ji1, L2.ji2, L2.tRet, L2.jje, L2.tIfS, L2.tAsg, L2.jf3, L2.fAug, L2.tOp, L2.tUn, L2.tC, L2.fVar, L2.fI, L2.fIC, L2.fNeg, L2.fEq, L2.fNe, L2.fIsN, L2.jgt, L2.fAnd, L2.fOr, L2.fNot, L2.fB, L2.tNot, L2.tAnd, L2.tOr, L2.jeo, L2.fIx, L2.fLen, L2.jdd, L2.fMin, L2.fMax, L2.fInL, L2.fSlL, L2.tSl, L2.jiw, L2.jcs, L2.jcj, L2.fBM, L2.jh8, L2.gSub, L2.jhb, L2.jdx, L2.jha, L2.jk4, L2.jen, L2.jeb, L2.je6, L2.fCat, L2.jfd, L2.fBM0, L2.fSlT, L2.jh9, L2.tCBK, L2.fDIn, L2.jix, L2.fIsi, L2.jdf, L2.jdy, L2.fLtT, L2.ji3, L2.tCB, L2.jg2, L2.tNil, L2.tTup, L2.tLst, L2.tIf, L2.ji0, L2.Kd.nm, L2.start, List.map_cons, List.map_nil, List.length_cons, List.length_nil, Nat.reduceAdd, Nat.reduceSub, List.replicate_succ, List.replicate_zero, List.getElem?_cons_zero, List.getElem?_cons_succ, List.set_cons_zero, List.set_cons_succ, List.append_nil, List.nil_append, List.cons_append, eq_self, true_and, and_true, if_true, Bool.false_eq_true, if_false, Bool.not_true, Bool.not_false, id_eq, My.sl0, My.sl1, My.sl2, My.sl3, My.sl4])
local macro_rules | `(tactic| simp_arith [$args,*]) => `(tactic| try simp only [L2.je7, L2.jde, L2.fLeT, L2.fIsB, L2.tSeq, L2.ji1, L2.ji2, L2.tRet, L2.jje, L2.tIfS, L2.tAsg, L2.jf3, L2.fAug, L2.tOp, L2.tUn, L2.tC, L2.fVar, L2.fI, L2.fIC, L2.fNeg, L2.fEq, L2.fNe, L2.fIsN, L2.jgt, L2.fAnd, L2.fOr, L2.fNot, L2.fB, L2.tNot, L2.tAnd, L2.tOr, L2.jeo, L2.fIx, L2.fLen, L2.jdd, L2.fMin, L2.fMax, L2.fInL, L2.fSlL, L2.tSl, L2.jiw, L2.jcs, L2.jcj, L2.fBM, L2.jh8, L2.gSub, L2.jhb, L2.jdx, L2.jha, L2.jk4, L2.jen, L2.jeb, L2.je6, L2.fCat, L2.jfd, L2.fBM0, L2.fSlT, L2.jh9, L2.tCBK, L2.fDIn, L2.jix, L2.fIsi, L2.jdf, L2.jdy, L2.fLtT, L2.ji3, L2.tCB, L2.jg2, L2.tNil, L2.tTup, L2.tLst, L2.tIf, L2.ji0, L2.Kd.nm, L2.start, List.map_cons, List.map_nil, List.length_cons, List.length_nil, Nat.reduceAdd, Nat.reduceSub, List.replicate_succ, List.replicate_zero, List.getElem?_cons_zero, List.getElem?_cons_succ, List.set_cons_zero, List.set_cons_succ, List.append_nil, List.nil_append, List.cons_append, eq_self, true_and, and_true, if_true, Bool.false_eq_true, if_false, Bool.not_true, Bool.not_false, id_eq, My.sl0, My.sl1, My.sl2, My.sl3, My.sl4, $args,*])
local macro_rules | `(tactic| walk_at "RN") => `(tactic| try simp only [L2.je7, L2.jde, L2.fLeT, L2.fIsB, L2.tSeq, L2.ji1, L2.ji2, L2.tRet, L2.jje, L2.tIfS, L2.tAsg, L2.jf3, L2.fAug, L2.tOp, L2.tUn, L2.tC, L2.fVar, L2.fI, L2.fIC, L2.fNeg, L2.fEq, L2.fNe, L2.fIsN, L2.jgt, L2.fAnd, L2.fOr, L2.fNot, L2.fB, L2.tNot, L2.tAnd, L2.tOr, L2.jeo, L2.fIx, L2.fLen, L2.jdd, L2.fMin, L2.fMax, L2.fInL, L2.fSlL, L2.tSl, L2.jiw, L2.jcs, L2.jcj, L2.fBM, L2.jh8, L2.gSub, L2.jhb, L2.jdx, L2.jha, L2.jk4, L2.jen, L2.jeb, L2.je6, L2.fCat, L2.jfd, L2.fBM0, L2.fSlT, L2.jh9, L2.tCBK, L2.fDIn, L2.jix, L2.fIsi, L2.jdf, L2.jdy, L2.fLtT, L2.ji3, L2.tCB, L2.jg2, L2.tNil, L2.tTup, L2.tLst, L2.tIf, L2.ji0, L2.Kd.nm, L2.start, List.map_cons, List.map_nil, List.length_cons, List.length_nil, Nat.reduceAdd, Nat.reduceSub, List.replicate_succ, List.replicate_zero, List.getElem?_cons_zero, List.getElem?_cons_succ, List.set_cons_zero, List.set_cons_succ, List.append_nil, List.nil_append, List.cons_append, eq_self, true_and, and_true, if_true, Bool.false_eq_true, if_false, Bool.not_true, Bool.not_false, id_eq, My.sl0, My.sl1, My.sl2, My.sl3, My.sl4, Int.reduceEq, decide_false, decide_true, Bool.false_eq_true, if_false, if_true])
local macro_rules | `(tactic| simp_all_arith [$args,*]) => `(tactic| try simp only [L2.je7, L2.jde, L2.fLeT, L2.fIsB, L2.tSeq, L2.ji1, L2.ji2, L2.tRet, L2.jje, L2.tIfS, L2.tAsg, L2.jf3, L2.fAug, L2.tOp, L2.tUn, L2.tC, L2.fVar, L2.fI, L2.fIC, L2.fNeg, L2.fEq, L2.fNe, L2.fIsN, L2.jgt, L2.fAnd, L2.fOr, L2.fNot, L2.fB, L2.tNot, L2.tAnd, L2.tOr, L2.jeo, L2.fIx, L2.fLen, L2.jdd, L2.fMin, L2.fMax, L2.fInL, L2.fSlL, L2.tSl, L2.jiw, L2.jcs, L2.jcj, L2.fBM, L2.jh8, L2.gSub, L2.jhb, L2.jdx, L2.jha, L2.jk4, L2.jen, L2.jeb, L2.je6, L2.fCat, L2.jfd, L2.fBM0, L2.fSlT, L2.jh9, L2.tCBK, L2.fDIn, L2.jix, L2.fIsi, L2.jdf, L2.jdy, L2.fLtT, L2.ji3, L2.tCB, L2.jg2, L2.tNil, L2.tTup, L2.tLst, L2.tIf, L2.ji0, L2.Kd.nm, L2.start, List.map_cons, List.map_nil, List.length_cons, List.length_nil, Nat.reduceAdd, Nat.reduceSub, List.replicate_succ, List.replicate_zero, List.getElem?_cons_zero, List.getElem?_cons_succ, List.set_cons_zero, List.set_cons_succ, List.append_nil, List.nil_append, List.cons_append, eq_self, true_and, and_true, if_true, Bool.false_eq_true, if_false, Bool.not_true, Bool.not_false, id_eq, My.sl0, My.sl1, My.sl2, My.sl3, My.sl4, $args,*, Int.reduceEq, decide_false, decide_true, Bool.false_eq_true, if_false, if_true])
local macro_rules | `(tactic| walk_at "SK") => `(tactic| (refine L2.jaa fun R hR => ?_; try simp only [L2.je7, L2.jde, L2.fLeT, L2.fIsB, L2.tSeq, L2.ji1, L2.ji2, L2.tRet, L2.jje, L2.tIfS, L2.tAsg, L2.jf3, L2.fAug, L2.tOp, L2.tUn, L2.tC, L2.fVar, L2.fI, L2.fIC, L2.fNeg, L2.fEq, L2.fNe, L2.fIsN, L2.jgt, L2.fAnd, L2.fOr, L2.fNot, L2.fB, L2.tNot, L2.tAnd, L2.tOr, L2.jeo, L2.fIx, L2.fLen, L2.jdd, L2.fMin, L2.fMax, L2.fInL, L2.fSlL, L2.tSl, L2.jiw, L2.jcs, L2.jcj, L2.fBM, L2.jh8, L2.gSub, L2.jhb, L2.jdx, L2.jha, L2.jk4, L2.jen, L2.jeb, L2.je6, L2.fCat, L2.jfd, L2.fBM0, L2.fSlT, L2.jh9, L2.tCBK, L2.fDIn, L2.jix, L2.fIsi, L2.jdf, L2.jdy, L2.fLtT, L2.ji3, L2.tCB, L2.jg2, L2.tNil, L2.tTup, L2.tLst, L2.tIf, L2.ji0, L2.Kd.nm, L2.start, List.map_cons, List.map_nil, List.length_cons, List.length_nil, Nat.reduceAdd, Nat.reduceSub, List.replicate_succ, List.replicate_zero, List.getElem?_cons_zero, List.getElem?_cons_succ, List.set_cons_zero, List.set_cons_succ, List.append_nil, List.nil_append, List.cons_append, eq_self, true_and, and_true, if_true, Bool.false_eq_true, if_false, Bool.not_true, Bool.not_false, id_eq, My.sl0, My.sl1, My.sl2, My.sl3, My.sl4, Int.reduceEq, decide_false, decide_true, Bool.false_eq_true, if_false, if_true]; subst hR))
namespace My
open PySem L2
theorem szl {n : Nat} (h : n ≤ 1000) : n ≤ sizeLine:=Nat.le_trans h (by decide)
theorem szl' {n : Nat} (h : n ≤ 1000) : n < sizeLine:=Nat.lt_of_le_of_lt h (by decide)
noncomputable def top (i : Nat) : Stmt:=PySem.Challenge.pw_touchall_k17_worths_and_bounds.main.body.getD i (.Pass ⟨0,0,0,0⟩)
structure DefAt (K : PySem.W.Frag) (mg : Str→Option Value) (x : Str) (st : Stmt) (ps : List Str) (f : Addr) (fd : FuncData) : Prop where
 F : Fun K x x st f fd
 b : je3 K fd ps []
 m : mg x = some (.ref f)
structure Blt (mg : Str→Option Value) : Prop where
 len : mg "len" = none
 isinstance : mg "isinstance" = none
 all : mg "all" = none
 min : mg "min" = none
 list : mg "list" = none
 dict : mg "dict" = none
 int : mg "int" = none
 bool : mg "bool" = none
 str : mg "str" = none
 tuple : mg "tuple" = none
 range : mg "range" = none
 enumerate : mg "enumerate" = none
 zip : mg "zip" = none
 max : mg "max" = none
 any : mg "any" = none
 sum : mg "sum" = none
 sorted : mg "sorted" = none
 set : mg "set" = none
structure Cst (mg : Str→Option Value) (t1 t2 t3 t4 : Tok) : Prop where
 MOST_PLACES : mg "MOST_PLACES" = some (.int 40 t1)
 MOST_TIES : mg "MOST_TIES" = some (.int 120 t2)
 LAST_PLACE : mg "LAST_PLACE" = some (.int 999 t3)
 MOST_PRICE : mg "MOST_PRICE" = some (.int 1000000000000 t4)
section
variable {P : Program} {w : World} {K : PySem.W.Frag} {mg : Str→Option Value} {base : Heap} {c1 c2 c3 c4 : Tok}
theorem at0 {α : Type} {x : α} {r : List α} : atI (x :: r) 0 = some x:=by
 have e : atI (x :: r) ((0 : Nat) : Int) = some x:=jbk rfl
 exact e
theorem at1 {α : Type} {x y : α} {r : List α} : atI (x :: y :: r) 1 = some y:=by
 have e : atI (x :: y :: r) ((1 : Nat) : Int) = some y:=jbk rfl
 exact e
theorem at2 {α : Type} {x y z : α} {r : List α} : atI (x :: y :: z :: r) 2 = some z:=by
 have e : atI (x :: y :: z :: r) ((2 : Nat) : Int) = some z:=jbk rfl
 exact e
noncomputable def jcz : Kd→Bool
 | .int=>true
 | _=>false
noncomputable def js1 : Stmt→List Stmt
 | .ClassDef _ _ _ b _ _ _ _ _ _ _=>b
 | _=>[]
noncomputable def meth (i j : Nat) : Stmt:=(js1 (top i)).getD j (.Pass ⟨0,0,0,0⟩)
noncomputable def prO : Dt→Option (Int × Int)
 | .tup [.int x,.int y]=>some (x,y)
 | _=>none
noncomputable def OPr (H : Hp) (x : V) (o : Option (Int × Int)) : Prop:=∃ d,Rep H d x∧prO d = o
theorem OPr.same {H H' : Hp} {x : V} {o : Option (Int × Int)} (h : OPr H x o) (s : Same H H') : OPr H' x o:=let ⟨d,r,e⟩:=h; ⟨d,Rep.same s d r,e⟩
theorem jlx {d : Dt} {p : Int × Int} (h : prO d = some p) : d = jao p:=by
 unfold prO at h
 split at h
 ·cases h; rfl
 ·cases h
theorem jm2 {H : Hp} {x : V} {p : Int × Int} (h : Rep H (jao p) x) : Pr H x p:=by
 rw [jao,Rep] at h
 obtain ⟨a,vs,rfl,ea,r⟩:=h
 rw [Reps] at r
 obtain ⟨v,r1,rfl,e1,r⟩:=r
 rw [Reps] at r
 obtain ⟨v2,r2,rfl,e2,r⟩:=r
 rw [Reps] at r
 subst r
 rw [Rep] at e1 e2
 subst e1 e2
 exact ⟨a,rfl,ea⟩
theorem OPr.pr {H : Hp} {x : V} {p : Int × Int} (h : OPr H x (some p)) : Pr H x p:=by
 obtain ⟨d,r,e⟩:=h
 rw [jlx e] at r
 exact jm2 r
theorem Pr.o {H : Hp} {x : V} {p : Int × Int} (h : Pr H x p) : OPr H x (some p):=⟨jao p,h.rep,rfl⟩
noncomputable def kdD : Dt→Kd
 | .non=>.non
 | .bl _=>.bl
 | .int _=>.int
 | .str _=>.str
 | .tup _=>.tup
 | .lst _=>.lst
theorem jf9 {H : Hp} {d : Dt} {x : V} (h : Rep H d x) : L2.kd H x = some (kdD d):=by
 cases d with
 | non=>rw [Rep] at h; subst h; rfl
 | bl b=>rw [Rep] at h; subst h; rfl
 | int b=>rw [Rep] at h; subst h; rfl
 | str b=>rw [Rep] at h; subst h; rfl
 | tup ds=>rw [Rep] at h; obtain ⟨a,vs,rfl,e,_⟩:=h; unfold L2.kd; dsimp only; rw [e]; rfl
 | lst ds=>rw [Rep] at h; obtain ⟨a,vs,rfl,e,_⟩:=h; unfold L2.kd; dsimp only; rw [e]; rfl
noncomputable def tupB (m : Int) : Dt→Bool
 | .tup ds=>decide ((ds.length : Int) = m)
 | _=>false
noncomputable def lstB (m : Int) : Dt→Bool
 | .lst ds=>decide ((ds.length : Int) ≤ m)
 | _=>false
noncomputable def plS (l s : Int) : Option (Int × Int)→Bool
 | none=>false
 | some p=>decide (l < p.1∧p.1 ≤ 999∧1 ≤ p.2∧p.2 ≤ 1000000000000 - s)
noncomputable def hasK (kvs : List (Key × V)) (n : Int) : Bool:=(valV kvs (Sum.inl n : Key)).isSome
noncomputable def tiS (kvs : List (Key × V)) (q : Int × Int) : Option (Int × Int)→Bool
 | none=>false
 | some p=>HT.lexLt [q.1,q.2] [p.1,p.2] && (decide (p.1 < p.2) && (hasK kvs p.1 && hasK kvs p.2))
noncomputable def ji5 : Sp:=fun vs H Q _=>∃ x k,vs = [x]∧kd H x = some k∧Q (.bl (jcz k)) H
noncomputable def je8 : Sp:=fun vs H Q _=>∃ x d m,vs = [x,.int m]∧Rep H d x∧Q (.bl (tupB m d)) H
noncomputable def jdj : Sp:=fun vs H Q _=>∃ x d m,vs = [x,.int m]∧Rep H d x∧Q (.bl (lstB m d)) H
noncomputable def jkh : Sp:=fun vs H Q _=>∃ x o,vs = [x]∧OPr H x o∧Q (.bl o.isSome) H
noncomputable def jll : Sp:=fun vs H Q _=>∃ x o l s,vs = [x,.int l,.int s]∧OPr H x o∧Q (.bl (plS l s o)) H
noncomputable def jql : Sp:=fun vs H Q _=>∃ x o y q d kvs,vs = [x,y,.ref d]∧OPr H x o∧Pr H y q∧H d = some (.dK kvs)∧Q (.bl (tiS kvs q o)) H
theorem jku {f : Addr} {fd : FuncData}  (B : Blt mg) (D : DefAt K mg "is_whole" (top 6) ["thing"] f fd) : FnOk P w K mg base CX0 1 f fd ["thing"] ji5:=by
 have sc : FnScope ["thing"] ["thing"] (ja9 (top 6)):=⟨rfl,rfl,rfl,by decide +kernel,rfl,by decide +kernel,by decide +kernel⟩
 refine D.F.ok sc (fun vs H Q E h=>?_) (fun cdv A outer s H vs Q E hr h=>?_)
 ·obtain ⟨x,k,rfl,_⟩:=h
  rfl
 obtain ⟨x,k,rfl,ek,h⟩:=h
 have hu:=jb8 hr
 have hu0 : _ < PySem.cLine:=Nat.lt_of_succ_lt hu
 refine ⟨_,(ja7 (jae (jew (jad (jjm .int) rfl B.isinstance PyProof.Rows.boot_isinstance (ja0 (qv 0) (ja0 (jd9 (v:=.ty "int") rfl B.int PyProof.Rows.boot_int rfl) ja2))) (jdw (q_not (jad (jjm .bl) rfl B.isinstance PyProof.Rows.boot_isinstance (ja0 (qv 0) (ja0 (jd9 (v:=.ty "bool") rfl B.bool PyProof.Rows.boot_bool rfl) ja2)))))))),?_⟩
 simp_arith [ek]
 cases k <;> simpa only [isi,jcz,if_true,if_false,Bool.false_eq_true,Bool.not_true,Bool.not_false] using h
theorem jh2 {f : Addr} {fd : FuncData}  (B : Blt mg) (D : DefAt K mg "is_tuple_of" (top 7) ["thing","many"] f fd) : FnOk P w K mg base CX0 1 f fd ["thing","many"] je8:=by
 have sc : FnScope ["thing","many"] ["thing","many"] (ja9 (top 7)):=⟨rfl,rfl,rfl,by decide +kernel,rfl,by decide +kernel,by decide +kernel⟩
 refine D.F.ok sc (fun vs H Q E h=>?_) (fun cdv A outer s H vs Q E hr h=>?_)
 ·obtain ⟨x,d,m,rfl,_⟩:=h
  rfl
 obtain ⟨x,d,m,rfl,hd,h⟩:=h
 have hk:=jf9 hd
 have hu:=jb8 hr
 have hu0 : _ < PySem.cLine:=Nat.lt_of_succ_lt hu
 refine ⟨_,(ja7 (jae (jew (jad (jjm .tup) rfl B.isinstance PyProof.Rows.boot_isinstance (ja0 (qv 0) (ja0 (jd9 (v:=.ty "tuple") rfl B.tuple PyProof.Rows.boot_tuple rfl) ja2))) (jdw (jbs q_eq (jad jci rfl B.len PySem.boot_len (ja0 (qv 0) ja2)) (qv 1) (jak _)))))),?_⟩
 cases d with
 | tup ds =>
  rw [Rep] at hd
  obtain ⟨a,vs,rfl,ea,r⟩:=hd
  simp_arith [kd,ea,jaj,isi]
  rw [r.len]
  exact h
 | non=>simp_arith [hk,isi,kdD]; exact h
 | bl b=>simp_arith [hk,isi,kdD]; exact h
 | int b=>simp_arith [hk,isi,kdD]; exact h
 | str b=>simp_arith [hk,isi,kdD]; exact h
 | lst b=>simp_arith [hk,isi,kdD]; exact h
theorem jfg {f : Addr} {fd : FuncData}  (B : Blt mg) (D : DefAt K mg "is_list_up_to" (top 9) ["thing","most"] f fd) : FnOk P w K mg base CX0 1 f fd ["thing","most"] jdj:=by
 have sc : FnScope ["thing","most"] ["thing","most"] (ja9 (top 9)):=⟨rfl,rfl,rfl,by decide +kernel,rfl,by decide +kernel,by decide +kernel⟩
 refine D.F.ok sc (fun vs H Q E h=>?_) (fun cdv A outer s H vs Q E hr h=>?_)
 ·obtain ⟨x,d,m,rfl,_⟩:=h
  rfl
 obtain ⟨x,d,m,rfl,hd,h⟩:=h
 have hk:=jf9 hd
 have hu:=jb8 hr
 have hu0 : _ < PySem.cLine:=Nat.lt_of_succ_lt hu
 refine ⟨_,(ja7 (jae (jew (jad (jjm .lst) rfl B.isinstance PyProof.Rows.boot_isinstance (ja0 (qv 0) (ja0 (jd9 (v:=.ty "list") rfl B.list PyProof.Rows.boot_list rfl) ja2))) (jdw (jbs q_le (jad jci rfl B.len PySem.boot_len (ja0 (qv 0) ja2)) (qv 1) (jak _)))))),?_⟩
 cases d with
 | lst ds =>
  rw [Rep] at hd
  obtain ⟨a,vs,rfl,ea,r⟩:=hd
  simp_arith [kd,ea,jaj,isi]
  rw [r.len]
  exact h
 | non=>simp_arith [hk,isi,kdD]; exact h
 | bl b=>simp_arith [hk,isi,kdD]; exact h
 | int b=>simp_arith [hk,isi,kdD]; exact h
 | str b=>simp_arith [hk,isi,kdD]; exact h
 | tup b=>simp_arith [hk,isi,kdD]; exact h
theorem jdu {f : Addr} {fd : FuncData} {f_is_tuple_of : Addr} {d_is_tuple_of : FuncData} {f_is_whole : Addr} {d_is_whole : FuncData} (B : Blt mg) (D : DefAt K mg "is_pair_of_wholes" (top 8) ["thing"] f fd) (D_is_tuple_of : DefAt K mg "is_tuple_of" (top 7) ["thing","many"] f_is_tuple_of d_is_tuple_of) (G_is_tuple_of : FnOk P w K mg base CX0 1 f_is_tuple_of d_is_tuple_of ["thing","many"] je8) (D_is_whole : DefAt K mg "is_whole" (top 6) ["thing"] f_is_whole d_is_whole) (G_is_whole : FnOk P w K mg base CX0 1 f_is_whole d_is_whole ["thing"] ji5) : FnOk P w K mg base CX0 2 f fd ["thing"] jkh:=by
 have sc : FnScope ["thing"] ["thing"] (ja9 (top 8)):=⟨rfl,rfl,rfl,by decide +kernel,rfl,by decide +kernel,by decide +kernel⟩
 refine D.F.ok sc (fun vs H Q E h=>?_) (fun cdv A outer s H vs Q E hr h=>?_)
 ·obtain ⟨x,o,rfl,_⟩:=h
  rfl
 obtain ⟨x,o,rfl,ho,h⟩:=h
 obtain ⟨d,hd,rfl⟩:=ho
 have hu:=jb8 hr
 have hu0 : _ < PySem.cLine:=Nat.lt_of_succ_lt hu
 refine ⟨_,(ja7 (jae (jew (jab G_is_tuple_of (hr.mono (by decide)) rfl D_is_tuple_of.m D_is_tuple_of.F.kp D_is_tuple_of.b .nil jaq (ja0 (qv 0) (ja0 ja4 ja2))) (jew (jab G_is_whole (hr.mono (by decide)) rfl D_is_whole.m D_is_whole.F.kp D_is_whole.b .nil jaq (ja0 (jal q_ix (qv 0) ja4 (fun _ _=>rfl)) ja2)) (jdw (jab G_is_whole (hr.mono (by decide)) rfl D_is_whole.m D_is_whole.F.kp D_is_whole.b .nil jaq (ja0 (jal q_ix (qv 0) ja4 (fun _ _=>rfl)) ja2))))))),?_⟩
 walk_at "RD"
 refine ⟨_,d,2,rfl,hd,?_⟩
 cases d with
 | tup ds =>
  rw [Rep] at hd
  obtain ⟨a,vs,rfl,ea,r⟩:=hd
  match ds,r,h with
  | [],r,h =>
   rw [show tupB 2 (.tup []) = false from rfl]
   walk_at "RD"
   exact h
  | [d1],r,h =>
   have e2 : prO (.tup [d1]) = none:=by cases d1 <;> rfl
   rw [e2] at h
   rw [show tupB 2 (.tup [d1]) = false from rfl]
   walk_at "RD"
   exact h
  | d1 :: d2 :: d3 :: ds,r,h =>
   have e : tupB 2 (.tup (d1 :: d2 :: d3 :: ds)) = false:=by
    unfold tupB
    refine decide_eq_false ?_
    rw [List.length_cons,List.length_cons,List.length_cons]
    omega
   have e2 : prO (.tup (d1 :: d2 :: d3 :: ds)) = none:=by cases d1 <;> cases d2 <;> rfl
   rw [e2] at h
   rw [e]
   walk_at "RD"
   exact h
  | [d1,d2],r,h =>
   rw [Reps] at r
   obtain ⟨v1,r1,rfl,e1,r⟩:=r
   rw [Reps] at r
   obtain ⟨v2,r2,rfl,e2,r⟩:=r
   rw [Reps] at r
   subst r
   rw [show tupB 2 (.tup [d1,d2]) = true from rfl]
   simp_arith [jaj,ea,at0,at1]
   refine ⟨_,kdD d1,rfl,jf9 e1,?_⟩
   cases d1 with
   | int i =>
    simp_arith [kdD,jcz,jaj,ea,at0,at1]
    refine ⟨_,kdD d2,rfl,jf9 e2,?_⟩
    cases d2 <;> exact h
   | _=>simp_arith [kdD,jcz]; exact h
 | _=>simp_arith [tupB]; exact h
theorem jgk {f : Addr} {fd : FuncData} {f_is_pair_of_wholes : Addr} {d_is_pair_of_wholes : FuncData} (B : Blt mg) (C : Cst mg c1 c2 c3 c4) (D : DefAt K mg "place_stands" (top 15) ["thing","last","spent"] f fd) (D_is_pair_of_wholes : DefAt K mg "is_pair_of_wholes" (top 8) ["thing"] f_is_pair_of_wholes d_is_pair_of_wholes) (G_is_pair_of_wholes : FnOk P w K mg base CX0 2 f_is_pair_of_wholes d_is_pair_of_wholes ["thing"] jkh) : FnOk P w K mg base CX0 3 f fd ["thing","last","spent"] jll:=by
 have sc : FnScope ["thing","last","spent"] ["thing","last","spent"] (ja9 (top 15)):=⟨rfl,rfl,rfl,by decide +kernel,rfl,by decide +kernel,by decide +kernel⟩
 refine D.F.ok sc (fun vs H Q E h=>?_) (fun cdv A outer s H vs Q E hr h=>?_)
 ·obtain ⟨x,o,l,s,rfl,_⟩:=h
  rfl
 obtain ⟨x,o,l,sp,rfl,ho,h⟩:=h
 have hu:=jb8 hr
 have hu0 : _ < PySem.cLine:=Nat.lt_of_succ_lt hu
 refine ⟨_,(ja3 (jay (jbw (jbq (jab G_is_pair_of_wholes (hr.mono (by decide)) rfl D_is_pair_of_wholes.m D_is_pair_of_wholes.F.kp D_is_pair_of_wholes.b .nil jaq (ja0 (qv 0) ja2)))) (ja7 (jae je1)) jag) (ja7 (jae (jew (jnv q_lt q_le (qv 1) (jal q_ix (qv 0) ja4 (fun _ _=>rfl)) (jgh (v:=.int 999) rfl C.LAST_PLACE ⟨_,rfl⟩)) (jdw (jnv q_le q_le ja4 (jal q_ix (qv 0) ja4 (fun _ _=>rfl)) (jai jee (jgh (v:=.int 1000000000000) rfl C.MOST_PRICE ⟨_,rfl⟩) (qv 2)))))))),?_⟩
 walk_at "RD"
 refine ⟨_,o,rfl,ho,?_⟩
 cases o with
 | none =>
  simp_arith [Option.isSome_none]
  exact h
 | some p =>
  obtain ⟨a,rfl,ea⟩:=OPr.pr ho
  simp_arith [Option.isSome_some,jaj,ea,at0,at1]
  unfold plS at h
  by_cases b1 : l < p.1 <;> by_cases b2 : p.1 ≤ 999 <;> by_cases b3 : 1 ≤ p.2 <;> by_cases b4 : p.2 ≤ 1000000000000 - sp <;> simp [b1,b2,b3,b4] at h ⊢ <;> exact h
theorem jik {f : Addr} {fd : FuncData} {f_is_pair_of_wholes : Addr} {d_is_pair_of_wholes : FuncData} (B : Blt mg) (D : DefAt K mg "tie_stands" (top 16) ["thing","last","prices"] f fd) (D_is_pair_of_wholes : DefAt K mg "is_pair_of_wholes" (top 8) ["thing"] f_is_pair_of_wholes d_is_pair_of_wholes) (G_is_pair_of_wholes : FnOk P w K mg base CX0 2 f_is_pair_of_wholes d_is_pair_of_wholes ["thing"] jkh) : FnOk P w K mg base CX0 3 f fd ["thing","last","prices"] jql:=by
 have sc : FnScope ["thing","last","prices"] ["thing","last","prices"] (ja9 (top 16)):=⟨rfl,rfl,rfl,by decide +kernel,rfl,by decide +kernel,by decide +kernel⟩
 refine D.F.ok sc (fun vs H Q E h=>?_) (fun cdv A outer s H vs Q E hr h=>?_)
 ·obtain ⟨x,o,y,q,d,kvs,rfl,_⟩:=h
  rfl
 obtain ⟨x,o,y,q,d,kvs,rfl,ho,hq,hd,h⟩:=h
 obtain ⟨b,rfl,eb⟩:=id hq
 have hu:=jb8 hr
 have hu0 : _ < PySem.cLine:=Nat.lt_of_succ_lt hu
 refine ⟨_,(ja3 (jay (jbw (jbq (jab G_is_pair_of_wholes (hr.mono (by decide)) rfl D_is_pair_of_wholes.m D_is_pair_of_wholes.F.kp D_is_pair_of_wholes.b .nil jaq (ja0 (qv 0) ja2)))) (ja7 (jae je1)) jag) (ja7 (jae (jew (jbs (q_ltT hu0) (qv 1) (qv 0) (jak _)) (jew (jbs q_lt (jal q_ix (qv 0) ja4 (fun _ _=>rfl)) (jal q_ix (qv 0) ja4 (fun _ _=>rfl)) (jak _)) (jew (jo4 (jrb hu (jal q_ix (qv 0) ja4 (fun _ _=>rfl)) (qv 2))) (jdw (jo4 (jrb hu (jal q_ix (qv 0) ja4 (fun _ _=>rfl)) (qv 2)))))))))),?_⟩
 walk_at "RD"
 refine ⟨_,o,rfl,ho,?_⟩
 cases o with
 | none =>
  simp_arith [Option.isSome_none]
  exact h
 | some p =>
  obtain ⟨a,rfl,ea⟩:=OPr.pr ho
  simp_arith [Option.isSome_some,jaj,ea,eb,hd,at0,at1]
  unfold tiS hasK at h
  dsimp only at h
  cases b1 : HT.lexLt [q.1,q.2] [p.1,p.2] <;> by_cases b2 : p.1 < p.2 <;> cases b3 : (valV kvs (Sum.inl p.1 : Key)).isSome <;> cases b4 : (valV kvs (Sum.inl p.2 : Key)).isSome <;> simp [b1,b2,b3,b4] at h ⊢ <;> exact h
end
end My
namespace My
open PySem L2
section
variable {P : Program} {w : World} {K : PySem.W.Frag} {mg : Str→Option Value} {base : Heap} {c1 c2 c3 c4 : Tok} {C_NoWeb f_NoWeb : Addr} {dI : FuncData}
noncomputable def PlOk : Int→Int→List (Int × Int)→Prop
 | _,_,[]=>True
 | l,s,p :: r=>(l < p.1∧p.1 ≤ 999∧1 ≤ p.2∧p.2 ≤ 1000000000000 - s)∧PlOk p.1 (s + p.2) r
noncomputable def jc0 (ps : List (Int × Int)) : List (Key × V):=ps.map fun p=>(Sum.inl p.1,V.int p.2)
noncomputable def TiOk (kvs : List (Key × V)) : Int × Int→List (Int × Int)→Prop
 | _,[]=>True
 | q,p :: r=>(HT.lexLt [q.1,q.2] [p.1,p.2] = true∧p.1 < p.2∧hasK kvs p.1 = true∧hasK kvs p.2 = true)∧TiOk kvs p r
structure WebOk (ps ts : List (Int × Int)) : Prop where
 pl : ps.length ≤ 40
 p : PlOk (-1) 0 ps
 tl : ts.length ≤ 120
 t : TiOk (jc0 ps) (-1,-1) ts
noncomputable def jc2 (H : Hp) (v : V) (ps ts : List (Int × Int)) : Prop :=
 ∃ u pa ta xs ys,v = .ref u∧H u = some (.tup [.ref pa,.ref ta])∧H pa = some (.lst xs)∧H ta = some (.lst ys)∧Prs H xs ps∧Prs H ys ts
theorem jc2.same {H H' : Hp} {v : V} {ps ts : List (Int × Int)} (h : jc2 H v ps ts) (s : Same H H') : jc2 H' v ps ts:=by
 obtain ⟨u,pa,ta,xs,ys,e,h1,h2,h3,h4,h5⟩:=h
 exact ⟨u,pa,ta,xs,ys,e,s _ _ h1,s _ _ h2,s _ _ h3,Prs.same s h4,Prs.same s h5⟩
theorem PlOk.gt : ∀ {ps : List (Int × Int)} {l s : Int},PlOk l s ps→∀ p ∈ ps,l < p.1
 | [],_,_,_,_,h=>by cases h
 | q :: r,l,s,h,p,hp=>by
  rcases List.mem_cons.mp hp with e | hp
  ·rw [e]; exact h.1.1
  ·have:=PlOk.gt h.2 p hp
   have:=h.1.1
   omega
theorem PlOk.nodup : ∀ {ps : List (Int × Int)} {l s : Int},PlOk l s ps→(ps.map (·.1)).Nodup
 | [],_,_,_=>List.nodup_nil
 | q :: r,l,s,h=>by
  rw [List.map_cons]
  refine List.nodup_cons.mpr ⟨fun hm=>?_,PlOk.nodup h.2⟩
  obtain ⟨p,hp,e⟩:=List.mem_map.mp hm
  have:=PlOk.gt h.2 p hp
  omega
theorem jmv {ps : List (Int × Int)} (h : (ps.map (·.1)).Nodup) : ((jc0 ps).map (·.1)).Nodup:=by
 unfold jc0
 rw [List.map_map]
 have e : ((fun (x : Key × V)=>x.1) ∘ fun (p : Int × Int)=>((Sum.inl p.1 : Key),V.int p.2)) = (fun (n : Int)=>(Sum.inl n : Key)) ∘ fun (p : Int × Int)=>p.1:=rfl
 rw [e,← List.map_map]
 unfold List.Nodup at h ⊢
 rw [List.pairwise_map]
 exact h.imp fun q z=>q (Sum.inl.inj z)
theorem jm1 {H : Hp} : ∀ {xs : List V} {ps : List (Int × Int)},Prs H xs ps→Paired (PairAt H) xs (jc0 ps)
 | _,_,.nil=>.nil
 | _,_,.cons r t=>by
  obtain ⟨a,e,q⟩:=r
  exact .cons ⟨a,e,q⟩ (jm1 t)
theorem jna : ∀ {ps : List (Int × Int)} {p : Int × Int},(ps.map (·.1)).Nodup→p ∈ ps→valV (jc0 ps) (Sum.inl p.1 : Key) = some (.int p.2)
 | [],_,_,h=>by cases h
 | q :: r,p,hn,h=>by
  rw [List.map_cons] at hn
  unfold jc0 valV
  rw [List.map_cons,List.find?_cons]
  rcases List.mem_cons.mp h with e | h
  ·rw [e]
   simp
  ·have hne : q.1 ≠ p.1:=fun z=>(List.nodup_cons.mp hn).1 (by rw [z]; exact List.mem_map_of_mem h)
   have hd : decide ((Sum.inl q.1 : Key) = Sum.inl p.1) = false:=decide_eq_false fun z=>hne (Sum.inl.inj z)
   dsimp only
   rw [hd]
   exact jna (List.nodup_cons.mp hn).2 h
theorem jru {ps : List (Int × Int)} {p : Int × Int} (hn : (ps.map (·.1)).Nodup) (h : p ∈ ps) : hasK (jc0 ps) p.1 = true:=by
 unfold hasK
 rw [jna hn h]
 rfl
noncomputable def jd8 : Int→Int→Nat→List (Option (Int × Int))→Option Nat
 | _,_,_,[]=>none
 | _,_,k,none :: _=>some k
 | l,s,k,some p :: r=>if plS l s (some p) = true then jd8 p.1 (s + p.2) (k + 1) r else some k
noncomputable def jd4 (kvs : List (Key × V)) : Int × Int→Nat→List (Option (Int × Int))→Option Nat
 | _,_,[]=>none
 | _,k,none :: _=>some k
 | q,k,some p :: r=>if tiS kvs q (some p) = true then jd4 kvs p (k + 1) r else some k
noncomputable def noPl (os : List (Option (Int × Int))) : Option (Option Nat):=if os.length ≤ 40 then (jd8 (-1) 0 0 os).map some else some none
noncomputable def noTi (kvs : List (Key × V)) (os : List (Option (Int × Int))) : Option (Option Nat):=if os.length ≤ 120 then (jd4 kvs (-1,-1) 0 os).map some else some none
theorem jhi : ∀ {os : List (Option (Int × Int))} {l s : Int} {k : Nat},jd8 l s k os = none→∃ ps,os = ps.map some∧PlOk l s ps
 | [],_,_,_,_=>⟨[],rfl,trivial⟩
 | none :: r,_,_,_,h=>by cases h
 | some p :: r,l,s,k,h=>by
  rw [jd8] at h
  by_cases c : plS l s (some p) = true
  ·rw [if_pos c] at h
   obtain ⟨ps,e,q⟩:=jhi h
   exact ⟨p :: ps,by rw [e]; rfl,of_decide_eq_true c,q⟩
  ·rw [if_neg c] at h; cases h
theorem jhe {kvs : List (Key × V)} : ∀ {os : List (Option (Int × Int))} {q : Int × Int} {k : Nat},jd4 kvs q k os = none→∃ ts,os = ts.map some∧TiOk kvs q ts
 | [],_,_,_=>⟨[],rfl,trivial⟩
 | none :: r,_,_,h=>by cases h
 | some p :: r,q,k,h=>by
  rw [jd4] at h
  by_cases c : tiS kvs q (some p) = true
  ·rw [if_pos c] at h
   obtain ⟨ts,e,z⟩:=jhe h
   refine ⟨p :: ts,by rw [e]; rfl,?_,z⟩
   unfold tiS at c
   simp only [Bool.and_eq_true,decide_eq_true_eq] at c
   exact ⟨c.1,c.2.1,c.2.2.1,c.2.2.2⟩
  ·rw [if_neg c] at h; cases h
noncomputable def nV : Option Nat→V
 | none=>.non
 | some k=>.int k
noncomputable def webX (w : Str) (n : Option Nat) (dx : Addr) : HO:=xdO dx (putF "number" (nV n) [("part",.str w)])
noncomputable def Ref (C : Addr) (H : Hp) (E : XK) (w : Str) (n : Option Nat) : Prop:=∀ dx H',H dx = none→Same H H'→H' dx = some (webX w n dx)→E (.ref C) (some dx) H'
theorem Ref.back {C : Addr} {H H1 : Hp} {E : XK} {w : Str} {n : Option Nat} (h : Ref C H E w n) (s : Same H H1) : Ref C H1 E w n:=fun dx H' hd s' e=>h dx H' (s.free hd) (s.trans s') e
theorem jnn {H : Hp} : ∀ {ds : List Dt} {xs : List V},Reps H ds xs→Paired (OPr H) xs (ds.map prO)
 | [],_,h=>by rw [Reps] at h; subst h; exact .nil
 | d :: ds,_,h=>by
  rw [Reps] at h
  obtain ⟨v,r,rfl,h1,h2⟩:=h
  exact .cons ⟨d,h1,rfl⟩ (jnn h2)
noncomputable def jfj : Dt→Option (Option Nat)
 | .lst ds=>noPl (ds.map prO)
 | _=>some none
noncomputable def jh4 (kvs : List (Key × V)) : Dt→Option (Option Nat)
 | .lst ds=>noTi kvs (ds.map prO)
 | _=>some none
noncomputable def spLP (C : Addr) : Sp:=fun vs H Q E=>∃ v d,vs = [v]∧Rep H d v∧(jfj d = none→∀ H',Same H H'→Q .non H')∧∀ n,jfj d = some n→Ref C H E "places" n
noncomputable def spLT (C : Addr) : Sp:=fun vs H Q E=>∃ v d a kvs,vs = [v,.ref a]∧Rep H d v∧H a = some (.dK kvs)∧(jh4 kvs d = none→∀ H',Same H H'→Q .non H')∧∀ n,jh4 kvs d = some n→Ref C H E "ties" n
theorem jin {f : Addr} {fd : FuncData} {C_TouchError : Addr} (DI : InitAt K "NoWeb.__init__" (meth 2 0) ["self","part","number"] f fd) (X_NoWeb : ClsX K mg "NoWeb" C_NoWeb f_NoWeb) (m_TouchError : mg "TouchError" = some (.ref C_TouchError)) (xi : XI K C_TouchError "ValueError.__init__")
  (hf : PySem.W.findIn K (.ref C_NoWeb) "part" = some none) (hg : PySem.W.findIn K (.ref C_NoWeb) "number" = some none) : FnOk P w K mg base CX0 1 f fd ["self","part","number"] (jg4 C_NoWeb "part" "number"):=by
 have sc : FnScope ["self","part","number"] ["self","part","number"] (ja9 (meth 2 0)):=⟨rfl,rfl,rfl,by decide +kernel,rfl,by decide +kernel,by decide +kernel⟩
 refine DI.F.ok sc (fun vs H Q E h=>?_) (fun cdv A outer s H vs Q E hr h=>?_)
 ·obtain ⟨a,y,z,rfl,_⟩:=h
  rfl
 obtain ⟨a,y,z,rfl,ea,h⟩:=h
 refine ⟨_,(ja3 (jb4 (jih PySem.F.excBase_ValueError xi X_NoWeb.xin rfl m_TouchError (ja0 (qv 0) (ja0 (qv 1) (ja0 (qv 2) ja2))))) (ja3 (jie X_NoWeb.a hf (qv 0) (qv 1) rfl) (ja7 (jie X_NoWeb.a hg (qv 0) (qv 2) rfl)))),?_⟩
 simp only [je7,jde,fLeT,fIsB,tSeq,ji1,ji2,tRet,jje,tIfS,tAsg,jf3,fAug,tOp,tUn,tC,fVar,fI,fIC,fNeg,fEq,fNe,fIsN,jgt,fAnd,fOr,fNot,fB,tNot,tAnd,tOr,jeo,fIx,fLen,jdd,fMin,fMax,fInL,fSlL,tSl,jiw,jcs,jcj,fBM,jh8,gSub,jhb,jdx,jha,jk4,jen,jeb,je6,fCat,jfd,fBM0,fSlT,jh9,tCBK,fDIn,jix,fIsi,jdf,jdy,fLtT,ji3,tCB,jg2,tNil,tTup,tLst,tIf,ji0,Kd.nm,L2.start,List.map_cons,List.map_nil,List.length_cons,List.length_nil,Nat.reduceAdd,Nat.reduceSub,List.replicate_succ,List.replicate_zero,List.getElem?_cons_zero,List.getElem?_cons_succ,List.set_cons_zero,List.set_cons_succ,List.append_nil,List.nil_append,List.cons_append,eq_self,true_and,and_true,if_true,Bool.false_eq_true,if_false,Bool.not_true,Bool.not_false,id_eq,sl0,sl1,sl2,sl3,sl4,tXI,sXF]
 refine ⟨a,[y,z],none,rfl,ea,(by show 2 ≤ sizeLine; decide),?_⟩
 refine ⟨a,rfl,.inl ⟨ea,fun dx hd ne=>?_⟩⟩
 refine ⟨a,rfl,.inr ⟨dx,[("part",y)],ja1,?_,ne,(by show 1 < 900; decide),h dx hd ne⟩⟩
 rw [ja8 ne,ja1]
theorem jf0 {f : Addr} {fd : FuncData} {f_is_list_up_to : Addr} {d_is_list_up_to : FuncData} {f_place_stands : Addr} {d_place_stands : FuncData} (B : Blt mg) (C : Cst mg c1 c2 c3 c4) (D : DefAt K mg "look_at_places" (top 17) ["places"] f fd) (D_is_list_up_to : DefAt K mg "is_list_up_to" (top 9) ["thing","most"] f_is_list_up_to d_is_list_up_to) (G_is_list_up_to : FnOk P w K mg base CX0 1 f_is_list_up_to d_is_list_up_to ["thing","most"] jdj) (D_place_stands : DefAt K mg "place_stands" (top 15) ["thing","last","spent"] f_place_stands d_place_stands) (G_place_stands : FnOk P w K mg base CX0 3 f_place_stands d_place_stands ["thing","last","spent"] jll) (X_NoWeb : ClsX K mg "NoWeb" C_NoWeb f_NoWeb) (DI_NoWeb : InitAt K "NoWeb.__init__" (meth 2 0) ["self","part","number"] f_NoWeb dI) (GI_NoWeb : FnOk P w K mg base CX0 1 f_NoWeb dI ["self","part","number"] (jg4 C_NoWeb "part" "number")) : FnOk P w K mg base (CXE P w) 4 f fd ["places"] (spLP C_NoWeb):=by
 have sc : FnScope ["places","last","spent","number","thing"] ["places"] (ja9 (top 17)):=⟨rfl,rfl,rfl,by decide +kernel,rfl,by decide +kernel,by decide +kernel⟩
 refine D.F.okX sc (fun vs H Q E h=>?_) (fun cdv A outer s H vs Q E hr h=>?_)
 ·obtain ⟨v,d,rfl,_⟩:=h
  rfl
 obtain ⟨v,d,rfl,hd,h1,h2⟩:=h
 have hu:=jb8 hr
 have hu0 : _ < PySem.cLine:=Nat.lt_of_succ_lt hu
 refine ⟨_,(ja3 (jay (jbw (jbq (jab G_is_list_up_to (hr.mono (by decide)) rfl D_is_list_up_to.m D_is_list_up_to.F.kp D_is_list_up_to.b .nil jaq (ja0 (qv 0) (ja0 (jgh (v:=.int 40) rfl C.MOST_PLACES ⟨_,rfl⟩) ja2))))) (ja7 (jcg PySem.F.excBase_ValueError X_NoWeb.xin X_NoWeb.fn GI_NoWeb DI_NoWeb.b (hr.mono (by decide)) rfl X_NoWeb.m X_NoWeb.kp ⟨rfl,rfl,rfl,fun _=>rfl⟩ jjb (ja0 jbb (ja0 jd0 ja2)))) jag) (ja3 (jah (i:=1) sc.nd rfl (Or.inl rfl) (jkm jki ja4)) (ja3 (jah (i:=2) sc.nd rfl (Or.inl rfl) ja4) (ja7 (jif ⟨rfl,rfl,rfl,fun _=>rfl⟩ rfl (jig rfl B.enumerate (ja0 (qv 0) ja2)) (jc3 (n:=2) rfl (jaf (jac (i:=3) sc.nd rfl (Or.inl rfl)) (jaf (jac (i:=4) sc.nd rfl (Or.inl rfl)) jbg))) (ja3 (jay (jbw (jbq (jab G_place_stands (hr.mono (by decide)) rfl D_place_stands.m D_place_stands.F.kp D_place_stands.b .nil jaq (ja0 (qv 4) (ja0 (qv 1) (ja0 (qv 2) ja2)))))) (ja7 (jcg PySem.F.excBase_ValueError X_NoWeb.xin X_NoWeb.fn GI_NoWeb DI_NoWeb.b (hr.mono (by decide)) rfl X_NoWeb.m X_NoWeb.kp ⟨rfl,rfl,rfl,fun _=>rfl⟩ jjb (ja0 jbb (ja0 (qv 3) ja2)))) jag) (ja3 (jah (i:=1) sc.nd rfl (Or.inl rfl) (jal q_ix (qv 4) ja4 (fun _ _=>rfl))) (ja7 (qs_aug (i:=2) sc.nd rfl (Or.inl rfl) (jal q_ix (qv 4) ja4 (fun _ _=>rfl)) q_iadd))))))))),?_⟩
 walk_at "RD"
 refine ⟨_,d,40,rfl,hd,?_⟩
 cases d with
 | lst ds =>
  rw [Rep] at hd
  obtain ⟨a,xs,rfl,ea,hreps⟩:=hd
  have hp:=jnn hreps
  have hlx0 : xs.length = ds.length:=hreps.len
  unfold lstB
  dsimp only
  unfold jfj at h1 h2
  dsimp only at h1 h2
  have hlx : xs.length = (ds.map prO).length:=Paired.length hp
  rw [← hlx0]
  generalize ds.map prO = os at hp hlx h1 h2
  by_cases hl : os.length ≤ 40
  ·rw [decide_eq_true (show (xs.length : Int) ≤ 40 by omega)]
   have en : noPl os = (jd8 (-1) 0 0 os).map some:=by unfold noPl; rw [if_pos hl]
   walk_at "RD"
   refine ⟨a,rfl,⟨xs,SqL.of ea⟩,jfu (K:=K) (a:=a) (xs:=xs) (fun i σ H1=>∃ l sp nb th,σ = [some (.ref a),some (.int l),some (.int sp),nb,th]∧Same H H1∧jd8 (-1) 0 0 os = jd8 l sp i (os.drop i)) ⟨-1,0,none,none,rfl,Same.refl _,rfl⟩ (fun i σ H1 _ ⟨_,_,_,_,_,s1,_⟩=>SqL.of (s1 _ _ ea)) ?_ ?_⟩
   ·rintro i x σ H1 t hi ⟨l,sp,nb,th,rfl,s1,ok1⟩ ht
    obtain ⟨o,hoi,ox⟩:=jam hp hi
    rw [jm7 hoi] at ok1
    have s2 : Same H (upd H1 t (.tup [.int i,x])):=s1.trans (ja5 ht _)
    have ox2:=ox.same s2
    simp_arith [ja1]
    refine ⟨_,o,l,sp,rfl,ox2,?_⟩
    cases c : plS l sp o with
    | true =>
     cases o with
     | none=>cases c
     | some p =>
      obtain ⟨u,rfl,eu⟩:=OPr.pr ox2
      simp_arith [jaj,eu,at0,at1]
      exact ⟨_,_,_,_,rfl,s2,by rw [ok1,jd8,if_pos c]⟩
    | false =>
     have e : jd8 (-1) 0 0 os = some i:=by
      rw [ok1]
      cases o with
      | none=>rfl
      | some p=>rw [jd8,if_neg (by rw [c]; decide)]
     have hr2:=(h2 (some i) (by rw [en,e]; rfl)).back s2
     simp_arith [jd6]
     exact fun y hy=>jgc hy hr2
   ·rintro σ H1 ⟨l,sp,nb,th,rfl,s1,ok1⟩
    rw [hlx,List.drop_length] at ok1
    exact h1 (by rw [en,ok1]; rfl) H1 s1
  ·rw [decide_eq_false (show ¬ (xs.length : Int) ≤ 40 by omega)]
   have hr2:=h2 none (by unfold noPl; rw [if_neg hl])
   simp_arith [jd6]
   exact fun y hy=>jgc hy hr2
 | _ =>
  unfold lstB
  dsimp only
  have hr2:=h2 none rfl
  simp_arith [jd6]
  exact fun y hy=>jgc hy hr2
theorem jgl {f : Addr} {fd : FuncData} {f_is_list_up_to : Addr} {d_is_list_up_to : FuncData} {f_tie_stands : Addr} {d_tie_stands : FuncData} (B : Blt mg) (C : Cst mg c1 c2 c3 c4) (D : DefAt K mg "look_at_ties" (top 18) ["ties","prices"] f fd) (D_is_list_up_to : DefAt K mg "is_list_up_to" (top 9) ["thing","most"] f_is_list_up_to d_is_list_up_to) (G_is_list_up_to : FnOk P w K mg base CX0 1 f_is_list_up_to d_is_list_up_to ["thing","most"] jdj) (D_tie_stands : DefAt K mg "tie_stands" (top 16) ["thing","last","prices"] f_tie_stands d_tie_stands) (G_tie_stands : FnOk P w K mg base CX0 3 f_tie_stands d_tie_stands ["thing","last","prices"] jql) (X_NoWeb : ClsX K mg "NoWeb" C_NoWeb f_NoWeb) (DI_NoWeb : InitAt K "NoWeb.__init__" (meth 2 0) ["self","part","number"] f_NoWeb dI) (GI_NoWeb : FnOk P w K mg base CX0 1 f_NoWeb dI ["self","part","number"] (jg4 C_NoWeb "part" "number")) : FnOk P w K mg base (CXE P w) 4 f fd ["ties","prices"] (spLT C_NoWeb):=by
 have sc : FnScope ["ties","prices","last","number","thing"] ["ties","prices"] (ja9 (top 18)):=⟨rfl,rfl,rfl,by decide +kernel,rfl,by decide +kernel,by decide +kernel⟩
 refine D.F.okX sc (fun vs H Q E h=>?_) (fun cdv A outer s H vs Q E hr h=>?_)
 ·obtain ⟨v,dt,d,kvs,rfl,_⟩:=h
  rfl
 obtain ⟨v,dt,d,kvs,rfl,hd,ed,h1,h2⟩:=h
 have hu:=jb8 hr
 have hu0 : _ < PySem.cLine:=Nat.lt_of_succ_lt hu
 refine ⟨_,(ja3 (jay (jbw (jbq (jab G_is_list_up_to (hr.mono (by decide)) rfl D_is_list_up_to.m D_is_list_up_to.F.kp D_is_list_up_to.b .nil jaq (ja0 (qv 0) (ja0 (jgh (v:=.int 120) rfl C.MOST_TIES ⟨_,rfl⟩) ja2))))) (ja7 (jcg PySem.F.excBase_ValueError X_NoWeb.xin X_NoWeb.fn GI_NoWeb DI_NoWeb.b (hr.mono (by decide)) rfl X_NoWeb.m X_NoWeb.kp ⟨rfl,rfl,rfl,fun _=>rfl⟩ jjb (ja0 jbb (ja0 jd0 ja2)))) jag) (ja3 (jah (i:=2) sc.nd rfl (Or.inl rfl) (jar (ja0 (jkm jki ja4) (ja0 (jkm jki ja4) ja2)))) (ja7 (jif ⟨rfl,rfl,rfl,fun _=>rfl⟩ rfl (jig rfl B.enumerate (ja0 (qv 0) ja2)) (jc3 (n:=2) rfl (jaf (jac (i:=3) sc.nd rfl (Or.inl rfl)) (jaf (jac (i:=4) sc.nd rfl (Or.inl rfl)) jbg))) (ja3 (jay (jbw (jbq (jab G_tie_stands (hr.mono (by decide)) rfl D_tie_stands.m D_tie_stands.F.kp D_tie_stands.b .nil jaq (ja0 (qv 4) (ja0 (qv 2) (ja0 (qv 1) ja2)))))) (ja7 (jcg PySem.F.excBase_ValueError X_NoWeb.xin X_NoWeb.fn GI_NoWeb DI_NoWeb.b (hr.mono (by decide)) rfl X_NoWeb.m X_NoWeb.kp ⟨rfl,rfl,rfl,fun _=>rfl⟩ jjb (ja0 jbb (ja0 (qv 3) ja2)))) jag) (ja7 (jah (i:=2) sc.nd rfl (Or.inl rfl) (qv 4)))))))),?_⟩
 walk_at "RD"
 refine ⟨_,dt,120,rfl,hd,?_⟩
 cases dt with
 | lst ds =>
  rw [Rep] at hd
  obtain ⟨a,xs,rfl,ea,hreps⟩:=hd
  have hp:=jnn hreps
  have hlx0 : xs.length = ds.length:=hreps.len
  unfold lstB
  dsimp only
  unfold jh4 at h1 h2
  dsimp only at h1 h2
  have hlx : xs.length = (ds.map prO).length:=Paired.length hp
  rw [← hlx0]
  generalize ds.map prO = os at hp hlx h1 h2
  by_cases hl : os.length ≤ 120
  ·rw [decide_eq_true (show (xs.length : Int) ≤ 120 by omega)]
   have en : noTi kvs os = (jd4 kvs (-1,-1) 0 os).map some:=by unfold noTi; rw [if_pos hl]
   walk_at "RD"
   intro t0 ht0
   refine ⟨a,rfl,⟨xs,SqL.of (ja5 ht0 _ _ _ ea)⟩,jfu (K:=K) (a:=a) (xs:=xs) (fun i σ H1=>∃ lv q nb th,σ = [some (.ref a),some (.ref d),some lv,nb,th]∧Same H H1∧Pr H1 lv q∧jd4 kvs (-1,-1) 0 os = jd4 kvs q i (os.drop i)) ⟨_,(-1,-1),none,none,rfl,ja5 ht0 _,⟨t0,rfl,ja1⟩,rfl⟩ (fun i σ H1 _ ⟨_,_,_,_,_,s1,_⟩=>SqL.of (s1 _ _ ea)) ?_ ?_⟩
   ·rintro i x σ H1 t hi ⟨lv,q,nb,th,rfl,s1,pq,ok1⟩ ht
    obtain ⟨o,hoi,ox⟩:=jam hp hi
    rw [jm7 hoi] at ok1
    have s2 : Same H (upd H1 t (.tup [.int i,x])):=s1.trans (ja5 ht _)
    have ox2:=ox.same s2
    simp_arith [ja1]
    refine ⟨_,o,_,q,d,kvs,rfl,ox2,pq.same (ja5 ht _),s2 _ _ ed,?_⟩
    cases c : tiS kvs q o with
    | true =>
     cases o with
     | none=>cases c
     | some p =>
      walk_at "RD"
      exact ⟨_,_,_,_,rfl,s2,OPr.pr ox2,by rw [ok1,jd4,if_pos c]⟩
    | false =>
     have e : jd4 kvs (-1,-1) 0 os = some i:=by
      rw [ok1]
      cases o with
      | none=>rfl
      | some p=>rw [jd4,if_neg (by rw [c]; decide)]
     have hr2:=(h2 (some i) (by rw [en,e]; rfl)).back s2
     simp_arith [jd6]
     exact fun y hy=>jgc hy hr2
   ·rintro σ H1 ⟨lv,q,nb,th,rfl,s1,_,ok1⟩
    rw [hlx,List.drop_length] at ok1
    exact h1 (by rw [en,ok1]; rfl) H1 s1
  ·rw [decide_eq_false (show ¬ (xs.length : Int) ≤ 120 by omega)]
   have hr2:=h2 none (by unfold noTi; rw [if_neg hl])
   simp_arith [jd6]
   exact fun y hy=>jgc hy hr2
 | _ =>
  unfold lstB
  dsimp only
  have hr2:=h2 none rfl
  simp_arith [jd6]
  exact fun y hy=>jgc hy hr2
noncomputable def psOf (os : List (Option (Int × Int))) : List (Int × Int):=os.filterMap id
theorem jge (ps : List (Int × Int)) : psOf (ps.map some) = ps:=by
 unfold psOf
 rw [List.filterMap_map]
 exact List.filterMap_some
noncomputable def psD : Dt→List (Int × Int)
 | .lst ds=>psOf (ds.map prO)
 | _=>[]
noncomputable def jax : Dt→Option (Str × Option Nat)
 | .tup [a,b]=>match jfj a with
  | some n=>some ("places",n)
  | none=>match jh4 (jc0 (psD a)) b with
   | some n=>some ("ties",n)
   | none=>none
 | _=>some ("web",none)
theorem joh {os : List (Option (Int × Int))} (h : noPl os = none) : os.length ≤ 40∧∃ ps,os = ps.map some∧PlOk (-1) 0 ps:=by
 unfold noPl at h
 by_cases c : os.length ≤ 40
 ·rw [if_pos c] at h
  exact ⟨c,jhi (Option.map_eq_none_iff.mp h)⟩
 ·rw [if_neg c] at h; cases h
theorem jof {kvs : List (Key × V)} {os : List (Option (Int × Int))} (h : noTi kvs os = none) : os.length ≤ 120∧∃ ts,os = ts.map some∧TiOk kvs (-1,-1) ts:=by
 unfold noTi at h
 by_cases c : os.length ≤ 120
 ·rw [if_pos c] at h
  exact ⟨c,jhe (Option.map_eq_none_iff.mp h)⟩
 ·rw [if_neg c] at h; cases h
theorem jl3 : ∀ {ds : List Dt} {ps : List (Int × Int)},ds.map prO = ps.map some→ds = ps.map jao
 | [],[],_=>rfl
 | [],_ :: _,h=>by cases h
 | _ :: _,[],h=>by cases h
 | d :: ds,p :: ps,h=>by
  rw [List.map_cons,List.map_cons] at h
  injection h with h1 h2
  rw [List.map_cons,jlx h1,jl3 h2]
theorem jny : ∀ (ps : List (Int × Int)),(ps.map jao).map prO = ps.map some
 | []=>rfl
 | p :: ps=>by rw [List.map_cons,List.map_cons,jny ps]; rfl
noncomputable def prsD (ts : List (Int × Int)) : Dt:=.lst (ts.map jao)
noncomputable def webD (ps ts : List (Int × Int)) : Dt:=.tup [prsD ps,prsD ts]
theorem jhn {d : Dt} (h : jfj d = none) : ∃ ps,d = prsD ps∧ps.length ≤ 40∧PlOk (-1) 0 ps:=by
 cases d with
 | lst ds =>
  obtain ⟨l,ps,e,ok⟩:=joh h
  refine ⟨ps,by rw [jl3 e]; rfl,?_,ok⟩
  rw [e,List.length_map] at l
  exact l
 | _=>cases h
theorem jmq {kvs : List (Key × V)} {d : Dt} (h : jh4 kvs d = none) : ∃ ts,d = prsD ts∧ts.length ≤ 120∧TiOk kvs (-1,-1) ts:=by
 cases d with
 | lst ds =>
  obtain ⟨l,ps,e,ok⟩:=jof h
  refine ⟨ps,by rw [jl3 e]; rfl,?_,ok⟩
  rw [e,List.length_map] at l
  exact l
 | _=>cases h
theorem jkj (ps : List (Int × Int)) : psD (prsD ps) = ps:=by
 unfold psD prsD
 dsimp only
 rw [jny,jge]
theorem jky {d : Dt} (h : jax d = none) : ∃ ps ts,d = webD ps ts∧WebOk ps ts:=by
 unfold jax at h
 split at h
 ·rename_i a b
  cases e : jfj a with
  | some n=>rw [e] at h; cases h
  | none =>
   rw [e] at h
   dsimp only at h
   obtain ⟨ps,rfl,l1,ok1⟩:=jhn e
   rw [jkj] at h
   cases e2 : jh4 (jc0 ps) b with
   | some n=>rw [e2] at h; cases h
   | none =>
    obtain ⟨ts,rfl,l2,ok2⟩:=jmq e2
    exact ⟨ps,ts,rfl,l1,ok1,l2,ok2⟩
 ·cases h
theorem jls {H : Hp} : ∀ {ps : List (Int × Int)} {xs : List V},Reps H (ps.map jao) xs→Prs H xs ps
 | [],_,h=>by rw [List.map_nil,Reps] at h; subst h; exact .nil
 | p :: ps,_,h=>by
  rw [List.map_cons,Reps] at h
  obtain ⟨v,r,rfl,h1,h2⟩:=h
  exact .cons (jm2 h1) (jls h2)
theorem jkk {H : Hp} {ps : List (Int × Int)} {v : V} (h : Rep H (prsD ps) v) : ∃ a xs,v = .ref a∧H a = some (.lst xs)∧Prs H xs ps:=by
 rw [prsD,Rep] at h
 obtain ⟨a,xs,rfl,ea,r⟩:=h
 exact ⟨a,xs,rfl,ea,jls r⟩
theorem jno {H : Hp} {a b : Dt} {v : V} (h : Rep H (.tup [a,b]) v) : ∃ u x y,v = .ref u∧H u = some (.tup [x,y])∧Rep H a x∧Rep H b y:=by
 rw [Rep] at h
 obtain ⟨u,vs,rfl,eu,r⟩:=h
 rw [Reps] at r
 obtain ⟨v1,r1,rfl,e1,r⟩:=r
 rw [Reps] at r
 obtain ⟨v2,r2,rfl,e2,r⟩:=r
 rw [Reps] at r
 subst r
 exact ⟨u,v1,v2,rfl,eu,e1,e2⟩
theorem jr2 {H : Hp} {ps ts : List (Int × Int)} {v : V} (h : Rep H (webD ps ts) v) : jc2 H v ps ts:=by
 obtain ⟨u,x,y,rfl,eu,h1,h2⟩:=jno h
 obtain ⟨pa,xs,rfl,e1,p1⟩:=jkk h1
 obtain ⟨ta,ys,rfl,e2,p2⟩:=jkk h2
 exact ⟨u,pa,ta,xs,ys,rfl,eu,e1,e2,p1,p2⟩
noncomputable def spLW (C : Addr) : Sp:=fun vs H Q E=>∃ v d,vs = [v]∧Rep H d v∧(jax d = none→∀ H',Same H H'→Q .non H')∧∀ w n,jax d = some (w,n)→Ref C H E w n
theorem jh0 {f : Addr} {fd : FuncData} {f_is_tuple_of : Addr} {d_is_tuple_of : FuncData} {f_look_at_places : Addr} {d_look_at_places : FuncData} {f_look_at_ties : Addr} {d_look_at_ties : FuncData} (B : Blt mg) (D : DefAt K mg "look_at_web" (top 19) ["thing"] f fd) (D_is_tuple_of : DefAt K mg "is_tuple_of" (top 7) ["thing","many"] f_is_tuple_of d_is_tuple_of) (G_is_tuple_of : FnOk P w K mg base CX0 1 f_is_tuple_of d_is_tuple_of ["thing","many"] je8) (D_look_at_places : DefAt K mg "look_at_places" (top 17) ["places"] f_look_at_places d_look_at_places) (G_look_at_places : FnOk P w K mg base (CXE P w) 4 f_look_at_places d_look_at_places ["places"] (spLP C_NoWeb)) (D_look_at_ties : DefAt K mg "look_at_ties" (top 18) ["ties","prices"] f_look_at_ties d_look_at_ties) (G_look_at_ties : FnOk P w K mg base (CXE P w) 4 f_look_at_ties d_look_at_ties ["ties","prices"] (spLT C_NoWeb)) (X_NoWeb : ClsX K mg "NoWeb" C_NoWeb f_NoWeb) (DI_NoWeb : InitAt K "NoWeb.__init__" (meth 2 0) ["self","part","number"] f_NoWeb dI) (GI_NoWeb : FnOk P w K mg base CX0 1 f_NoWeb dI ["self","part","number"] (jg4 C_NoWeb "part" "number")) : FnOk P w K mg base (CXE P w) 5 f fd ["thing"] (spLW C_NoWeb):=by
 have sc : FnScope ["thing"] ["thing"] (ja9 (top 19)):=⟨rfl,rfl,rfl,by decide +kernel,rfl,by decide +kernel,by decide +kernel⟩
 refine D.F.okX sc (fun vs H Q E h=>?_) (fun cdv A outer s H vs Q E hr h=>?_)
 ·obtain ⟨v,d,rfl,_⟩:=h
  rfl
 obtain ⟨v,d,rfl,hd,h1,h2⟩:=h
 have hu:=jb8 hr
 have hu0 : _ < PySem.cLine:=Nat.lt_of_succ_lt hu
 refine ⟨_,(ja3 (jay (jbw (jbq (jab G_is_tuple_of (hr.mono (by decide)) rfl D_is_tuple_of.m D_is_tuple_of.F.kp D_is_tuple_of.b .nil jaq (ja0 (qv 0) (ja0 ja4 ja2))))) (ja7 (jcg PySem.F.excBase_ValueError X_NoWeb.xin X_NoWeb.fn GI_NoWeb DI_NoWeb.b (hr.mono (by decide)) rfl X_NoWeb.m X_NoWeb.kp ⟨rfl,rfl,rfl,fun _=>rfl⟩ jjb (ja0 jbb (ja0 jd0 ja2)))) jag) (ja3 (jb4 (jeg G_look_at_places (hr.mono (by decide)) rfl D_look_at_places.m D_look_at_places.F.kp D_look_at_places.b .nil (jmh ⟨rfl,rfl,rfl,fun _=>rfl⟩) (ja0 (jal q_ix (qv 0) ja4 (fun _ _=>rfl)) ja2))) (ja7 (jb4 (jeg G_look_at_ties (hr.mono (by decide)) rfl D_look_at_ties.m D_look_at_ties.F.kp D_look_at_ties.b .nil (jmh ⟨rfl,rfl,rfl,fun _=>rfl⟩) (ja0 (jal q_ix (qv 0) ja4 (fun _ _=>rfl)) (ja0 (jc9 (jnu rfl) rfl B.dict PyProof.Rows.boot_dict (ja0 (jal q_ix (qv 0) ja4 (fun _ _=>rfl)) ja2)) ja2))))))),?_⟩
 walk_at "RD"
 refine ⟨_,d,2,rfl,hd,?_⟩
 by_cases c : ∃ a b,d = .tup [a,b]
 ·obtain ⟨a,b,rfl⟩:=c
  obtain ⟨u,x,y,rfl,eu,ra,rb⟩:=jno hd
  rw [show tupB 2 (.tup [a,b]) = true from rfl]
  simp_arith [jaj,eu,at0,at1]
  refine ⟨x,a,rfl,ra,fun e1 H1 s1=>?_,fun n e1=>h2 "places" n (by unfold jax; dsimp only; rw [e1])⟩
  obtain ⟨ps,rfl,k1,ok1⟩:=jhn e1
  obtain ⟨pa,xs,rfl,ep,pp⟩:=jkk ra
  have hlx : xs.length = ps.length:=Paired.length pp
  simp_arith [jaj,s1 _ _ eu,s1 _ _ ep,at0,at1]
  refine ⟨jc0 ps,jm1 (Prs.same s1 pp),by omega,jmv ok1.nodup,fun d hd=>?_⟩
  have s2 : Same H (upd H1 d (.dK (jc0 ps))):=s1.trans (ja5 hd _)
  refine ⟨y,b,d,_,rfl,Rep.same s2 _ rb,ja1,fun e2 H3 s3=>h1 ?_ H3 (s2.trans s3),fun n e2=>(h2 "ties" n ?_).back s2⟩
  ·unfold jax
   dsimp only
   rw [e1,jkj]
   dsimp only
   rw [e2]
  ·unfold jax
   dsimp only
   rw [e1,jkj]
   dsimp only
   rw [e2]
 ·have e : tupB 2 d = false:=by
   cases d with
   | tup ds =>
    match ds,c with
    | [],_=>rfl
    | [_],_=>rfl
    | [a,b],c=>exact absurd ⟨a,b,rfl⟩ c
    | _ :: _ :: _ :: _,_ =>
     unfold tupB
     refine decide_eq_false ?_
     rw [List.length_cons,List.length_cons,List.length_cons]
     omega
   | _=>rfl
  have e2 : jax d = some (("web" : Str),none):=by
   unfold jax
   split
   ·exact absurd ⟨_,_,rfl⟩ c
   ·rfl
  have hr2:=h2 "web" none e2
  rw [e]
  simp_arith [jd6]
  exact fun y hy=>jgc hy hr2
end
end My
namespace My
open PySem L2
section
variable {P : Program} {w : World} {K : PySem.W.Frag} {mg : Str→Option Value} {base : Heap} {c1 c2 c3 c4 : Tok}
theorem ix30 : ixN 3 0 = some 0:=rfl
theorem ix31 : ixN 3 1 = some 1:=rfl
theorem ix32 : ixN 3 2 = some 2:=rfl
noncomputable def StO (o : HO) : Prop:=∃ c st fl,o = .lst [.int c,.int st,.bl fl]∧0 ≤ st∧st < 4294967296
theorem StO.imm {o : HO} (h : StO o) : jrr o = false:=by obtain ⟨_,_,_,rfl,_⟩:=h; rfl
noncomputable def jnl (K : PySem.W.Frag) : Sp:=fun vs H Q _=>∃ a k ns,vs = [.ref a,.int k]∧Scr K H a ns∧0 ≤ k∧k ≤ 1000∧∀ s o,H s = none→StO o→Q (.ref s) (upd H s o)
noncomputable def je9 : Sp:=fun vs H Q _=>∃ s o m,vs = [.ref s,.int m]∧H s = some o∧StO o∧1 ≤ m∧m < 1000000000000000000∧∀ d o,0 ≤ d→d < m→StO o→Q (.int d) (upd H s o)
theorem cmR {i j : Int} (h1 : -(2 ^ 64) < j) (h2 : j < 2 ^ 64) : CMul i j:=.inr ⟨h1,h2⟩
theorem cmL {i j : Int} (h1 : -(2 ^ 64) < i) (h2 : i < 2 ^ 64) : CMul i j:=.inl ⟨h1,h2⟩
noncomputable def Dr : Int→List (Int × Int)→Prop
 | _,[]=>True
 | l,p :: r=>(l < p.1∧p.1 ≤ l + 23∧1 ≤ p.2∧p.2 ≤ 1000000000)∧Dr p.1 r
noncomputable def jcw (l : Int) : List (Int × Int)→Int
 | []=>l
 | p :: r=>jcw p.1 r
theorem Dr.snoc : ∀ {ps : List (Int × Int)} {l : Int} {p : Int × Int},Dr l ps→(jcw l ps < p.1∧p.1 ≤ jcw l ps + 23∧1 ≤ p.2∧p.2 ≤ 1000000000)→Dr l (ps ++ [p])
 | [],_,_,_,h=>⟨h,trivial⟩
 | q :: r,_,_,h,h2=>⟨h.1,Dr.snoc h.2 h2⟩
theorem jdn : ∀ {ps : List (Int × Int)} {l : Int} {p : Int × Int},jcw l (ps ++ [p]) = p.1
 | [],_,_=>rfl
 | q :: r,_,_=>jdn (ps:=r)
noncomputable def But (s : Addr) (H H' : Hp) : Prop:=∀ b o,b ≠ s→H b = some o→H' b = some o
theorem But.trans {s : Addr} {H H1 H2 : Hp} (a : But s H H1) (b : But s H1 H2) : But s H H2:=fun c o n q=>b c o n (a c o n q)
theorem But.at (s : Addr) (H : Hp) (o : HO) : But s H (upd H s o):=fun b u n q=>by rw [ja8 n]; exact q
theorem But.new {s t : Addr} {H : Hp} {o : HO} (h : H t = none) : But s H (upd H t o):=fun b u n q=>by rw [ja8 (ja6 q h)]; exact q
theorem But.tups {s : Addr} {H H' : Hp} (h : But s H H') {o : HO} (e : H s = some o) (i : jrr o = false) : TupS H H':=fun b u z q=>h b u (fun x=>by rw [x,e] at q; cases q; rw [i] at z; cases z) q
theorem at3 {α : Type} {x y z u : α} {r : List α} : atI (x :: y :: z :: u :: r) 3 = some u:=by
 have e : atI (x :: y :: z :: u :: r) ((3 : Nat) : Int) = some u:=jbk rfl
 exact e
theorem menu4 {a b c e d : Int} (h0 : 0 ≤ d) (h1 : d < 4) : ∃ v,atI [V.int a,.int b,.int c,.int e] d = some (.int v)∧(v = a ∨ v = b ∨ v = c ∨ v = e):=by
 have hd : d = 0 ∨ d = 1 ∨ d = 2 ∨ d = 3:=by omega
 rcases hd with rfl | rfl | rfl | rfl
 ·exact ⟨a,at0,.inl rfl⟩
 ·exact ⟨b,at1,.inr (.inl rfl)⟩
 ·exact ⟨c,at2,.inr (.inr (.inl rfl))⟩
 ·exact ⟨e,at3,.inr (.inr (.inr rfl))⟩
theorem p9 : (10 : Int) ^ Int.toNat 9 = 1000000000:=by decide
noncomputable def jlk : Sp:=fun vs H Q _=>∃ s o n,vs = [.ref s,.int n]∧H s = some o∧StO o∧0 ≤ n∧n ≤ 100 ∧
 ∀ r H' o' xs ps,H r = none→But s H H'→H' s = some o'→StO o'→H' r = some (.lst xs)→Prs H' xs ps→(ps.length : Int) = n→Dr (-1) ps→Q (.ref r) H'
theorem jkq {f : Addr} {fd : FuncData}  (B : Blt mg) (D : DefAt K mg "_law_take" (top 37) ["_law_state","_law_many"] f fd) : FnOk P w K mg base CX0 1 f fd ["_law_state","_law_many"] je9:=by
 have sc : FnScope ["_law_state","_law_many","_law_digit","_law_number"] ["_law_state","_law_many"] (ja9 (top 37)):=⟨rfl,rfl,rfl,by decide +kernel,rfl,by decide +kernel,by decide +kernel⟩
 refine D.F.ok sc (fun vs H Q E h=>?_) (fun cdv A outer s H vs Q E hr h=>?_)
 ·obtain ⟨s,o,m,rfl,_⟩:=h
  rfl
 obtain ⟨st,o,m,rfl,es,⟨c,x,fl,rfl,x0,x1⟩,m0,m1,h⟩:=h
 have hu:=jb8 hr
 have hu0 : _ < PySem.cLine:=Nat.lt_of_succ_lt hu
 refine ⟨_,(ja3 (jay (jbq (jal q_ix (qv 0) ja4 (fun _ _=>rfl))) (ja3 (jah (i:=2) sc.nd rfl (Or.inl rfl) (jai jgz (jal q_ix (qv 0) ja4 (fun _ _=>rfl)) (qv 1))) (ja3 (jhh (jai jra (jal q_ix (qv 0) ja4 (fun _ _=>rfl)) (qv 1)) (jlz (qv 0) ja4 jlw)) (ja3 (jhh (jbs q_gt (jal q_ix (qv 0) ja4 (fun _ _=>rfl)) ja4 (jak _)) (jlz (qv 0) ja4 jlw)) (ja7 (jae (qv 2)))))) jag) (ja3 (jhh (jai jgz (jai jbv (jai jgy (jal q_ix (qv 0) ja4 (fun _ _=>rfl)) ja4) ja4) ja4) (jlz (qv 0) ja4 jlw)) (ja3 (jah (i:=3) sc.nd rfl (Or.inl rfl) (jai jhg (jai jgz (jai jgy (jal q_ix (qv 0) ja4 (fun _ _=>rfl)) (jal q_ix (qv 0) ja4 (fun _ _=>rfl))) ja4) ja4)) (ja3 (jay (jan q_gt (qv 1) (jai jpo ja4 ja4) (jak _)) (ja3 (jhh (jai jgz (jai jbv (jai jgy (jal q_ix (qv 0) ja4 (fun _ _=>rfl)) ja4) ja4) ja4) (jlz (qv 0) ja4 jlw)) (ja7 (jah (i:=3) sc.nd rfl (Or.inl rfl) (jai jbv (jai jgy (qv 3) ja4) (jal q_ix (qv 0) ja4 (fun _ _=>rfl)))))) jag) (ja7 (jae (jai jgz (qv 3) (qv 1)))))))),?_⟩
 simp_arith [jaj,es,at0,at1,at2,ix30,ix31,ix32,ja1,jhx]
 have lo : ∀ n : Int,0 ≤ n % m:=fun n=>Int.emod_nonneg _ (by omega)
 have hi : ∀ n : Int,n % m < m:=fun n=>Int.emod_lt_of_pos _ (by omega)
 have y0 : 0 ≤ (x * 48271 + 39373) % 2147483647:=Int.emod_nonneg _ (by decide)
 have y1 : (x * 48271 + 39373) % 2147483647 < 2147483647:=Int.emod_lt_of_pos _ (by decide)
 generalize (x * 48271 + 39373) % 2147483647 = y at y0 y1
 have z0 : 0 ≤ (y * 48271 + 39373) % 2147483647:=Int.emod_nonneg _ (by decide)
 have z1 : (y * 48271 + 39373) % 2147483647 < 2147483647:=Int.emod_lt_of_pos _ (by decide)
 generalize (y * 48271 + 39373) % 2147483647 = z at z0 z1
 have cd : CDivB c m:=⟨by omega,by omega⟩
 have cd2 : ∀ n : Int,CDiv n 16:=fun n=>⟨by decide,by decide⟩
 have cp : CPow 10 6:=⟨by decide,by decide,by decide⟩
 refine ite2 (fun _=>⟨by omega,cd,h _ _ (lo _) (hi _) ⟨_,_,_,rfl,x0,x1⟩⟩) (fun _=>⟨cmR (by decide) (by decide),by decide,cmL (by omega) (by omega),by decide,cd2 _,cp,?_⟩)
 refine ite2 (fun _=>⟨cmR (by decide) (by decide),by decide,cmR (by decide) (by decide),by omega,h _ _ (lo _) (hi _) ⟨_,_,_,rfl,z0,by omega⟩⟩) (fun _=>⟨by omega,h _ _ (lo _) (hi _) ⟨_,_,_,rfl,y0,by omega⟩⟩)
theorem jju {f : Addr} {fd : FuncData}  (B : Blt mg) (D : DefAt K mg "_law_begun" (top 36) ["_law_script","_law_k"] f fd) : FnOk P w K mg base CX0 1 f fd ["_law_script","_law_k"] (jnl K):=by
 have sc : FnScope ["_law_script","_law_k","_law_cell","_law_seed"] ["_law_script","_law_k"] (ja9 (top 36)):=⟨rfl,rfl,rfl,by decide +kernel,rfl,by decide +kernel,by decide +kernel⟩
 refine D.F.ok sc (fun vs H Q E h=>?_) (fun cdv A outer s H vs Q E hr h=>?_)
 ·obtain ⟨a,k,ns,rfl,_⟩:=h
  rfl
 obtain ⟨a,k,ns,rfl,hs,k0,k1,h⟩:=h
 have hu:=jb8 hr
 have hu0 : _ < PySem.cLine:=Nat.lt_of_succ_lt hu
 refine ⟨_,(ja3 (jah (i:=2) sc.nd rfl (Or.inl rfl) ja4) (ja3 (jay (jan q_lt (qv 1) (jad jdi rfl B.len PySem.boot_len (ja0 (qv 0) ja2)) (jak _)) (ja7 (jah (i:=2) sc.nd rfl (Or.inl rfl) (jal jop (qv 0) (qv 1) (fun _ _=>rfl)))) jag) (ja3 (jah (i:=3) sc.nd rfl (Or.inl rfl) (jai jbv (jai jbv (jai jgz (qv 2) ja4) (jai jgy ja4 (qv 1))) (jai jgy ja4 (jai jhg (qv 1) ja4)))) (ja7 (jae (jas (ja0 (qv 2) (ja0 (jai jgz (qv 3) ja4) (ja0 (jbs q_ge (qv 2) (jai jpo ja4 ja4) (jak _)) ja2))))))))),?_⟩
 walk_at "RD"
 refine ⟨a,_,rfl,.inl hs.sq,?_⟩
 simp_arith [List.length_map,rIxL]
 have q0 : ∀ n : Int,0 ≤ n % 2147483629:=fun n=>Int.emod_nonneg _ (by decide)
 have q1 : ∀ n : Int,n % 2147483629 < 2147483629:=fun n=>Int.emod_lt_of_pos _ (by decide)
 have cp : CPow 10 18:=⟨by decide,by decide,by decide⟩
 have cd : CDiv k 7:=⟨by decide,by decide⟩
 refine ite2 (fun c=>?_) (fun c=>?_)
 ·have c' : k < (ns.length : Int):=of_decide_eq_true c
  have hk : k.toNat < ns.length:=by omega
  have e1 : atI (ns.map V.int) ((k.toNat : Nat) : Int) = some (.int ns[k.toNat]):=jbk (by rw [List.getElem?_map,List.getElem?_eq_getElem hk]; rfl)
  rw [show ((k.toNat : Nat) : Int) = k by omega] at e1
  refine ⟨a,_,k,_,rfl,rfl,hs.sq,e1,?_⟩
  walk_at "RD"
  exact ⟨by decide,cmL (by decide) (by decide),cd,cmL (by decide) (by decide),by decide,cp,fun p hp=>h p _ hp ⟨_,_,_,rfl,q0 _,by have:=q1 (ns[k.toNat] % 2147483629 + 104729 * k + 7919 * (k / 7)); omega⟩⟩
 ·exact ⟨by decide,cmL (by decide) (by decide),cd,cmL (by decide) (by decide),by decide,cp,fun p hp=>h p _ hp ⟨_,_,_,rfl,q0 _,by have:=q1 (0 % 2147483629 + 104729 * k + 7919 * (k / 7)); omega⟩⟩
theorem jil {f : Addr} {fd : FuncData} {f_law_take : Addr} {d_law_take : FuncData} (B : Blt mg) (D : DefAt K mg "_law_places" (top 38) ["_law_state","_law_count"] f fd) (D_law_take : DefAt K mg "_law_take" (top 37) ["_law_state","_law_many"] f_law_take d_law_take) (G_law_take : FnOk P w K mg base CX0 1 f_law_take d_law_take ["_law_state","_law_many"] je9) : FnOk P w K mg base CX0 2 f fd ["_law_state","_law_count"] jlk:=by
 have sc : FnScope ["_law_state","_law_count","_law_kind","_law_places_here","_law_number","_law_k"] ["_law_state","_law_count"] (ja9 (top 38)):=⟨rfl,rfl,rfl,by decide +kernel,rfl,by decide +kernel,by decide +kernel⟩
 refine D.F.ok sc (fun vs H Q E h=>?_) (fun cdv A outer s H vs Q E hr h=>?_)
 ·obtain ⟨s,o,n,rfl,_⟩:=h
  rfl
 obtain ⟨st,o,n,rfl,es,so,n0,n1,h⟩:=h
 have hu:=jb8 hr
 have hu0 : _ < PySem.cLine:=Nat.lt_of_succ_lt hu
 refine ⟨_,(ja3 (jah (i:=2) sc.nd rfl (Or.inl rfl) (jab G_law_take (hr.mono (by decide)) rfl D_law_take.m D_law_take.F.kp D_law_take.b .nil jaq (ja0 (qv 0) (ja0 ja4 ja2)))) (ja3 (jah (i:=3) sc.nd rfl (Or.inl rfl) (jas ja2)) (ja3 (jah (i:=4) sc.nd rfl (Or.inl rfl) (jkm jki ja4)) (ja3 (jbi PassesOwn.never rfl (jco rfl B.range (ja0 (qv 1) ja2)) (jac (i:=5) sc.nd rfl (Or.inl rfl)) (ja3 (jah (i:=4) sc.nd rfl (Or.inl rfl) (jai jbv (jai jbv (qv 4) ja4) (jab G_law_take (hr.mono (by decide)) rfl D_law_take.m D_law_take.F.kp D_law_take.b .nil jaq (ja0 (qv 0) (ja0 (jal q_ix (jas (ja0 ja4 (ja0 ja4 (ja0 ja4 (ja0 ja4 ja2))))) (jab G_law_take (hr.mono (by decide)) rfl D_law_take.m D_law_take.F.kp D_law_take.b .nil jaq (ja0 (qv 0) (ja0 ja4 ja2))) (fun _ _=>rfl)) ja2))))) (ja7 (jb4 (q_bm PySem.F.plainAttrs_list PySem.F.slot_list_append PySem.F.type_list_append jbr (qv 3) (ja0 (jar (ja0 (qv 4) (ja0 (jai jbv ja4 (jab G_law_take (hr.mono (by decide)) rfl D_law_take.m D_law_take.F.kp D_law_take.b .nil jaq (ja0 (qv 0) (ja0 (jal q_ix (jas (ja0 ja4 (ja0 ja4 (ja0 ja4 (ja0 (jai jpo ja4 ja4) ja2))))) (qv 2) (fun _ _=>rfl)) ja2)))) ja2))) ja2)))))) (ja7 (jae (qv 3))))))),?_⟩
 walk_at "RD"
 refine ⟨st,o,4,rfl,es,so,by decide,by decide,fun kind o1 k0 k1 so1=>?_⟩
 walk_at "RD"
 intro r hr1
 have nr : r ≠ st:=fun z=>by rw [z,ja1] at hr1; cases hr1
 have hr0 : H r = none:=by rw [← hr1,ja8 nr]
 refine ⟨n,rfl,by omega,by omega,jcc (n:=n.toNat) (fun i σ H1=>∃ l kk ps xs o',σ = [some (.ref st),some (.int n),some (.int kind),some (.ref r),some (.int l),kk]∧But st H H1∧H1 st = some o'∧StO o'∧H1 r = some (.lst xs)∧Prs H1 xs ps∧ps.length = i∧Dr (-1) ps∧l = jcw (-1) ps) ?_ ?_ ?_⟩
 ·refine ⟨-1,none,[],[],o1,rfl,fun b u nb q=>?_,by rw [ja8 nr.symm,ja1],so1,ja1,.nil,rfl,trivial,rfl⟩
  rw [ja8 (ja6 q hr0),ja8 nb]
  exact q
 ·rintro i σ H1 hi ⟨l,kk,ps,xs,o',rfl,b1,e1,so',er,pp,hlen,dr,el⟩
  have hlx : xs.length = ps.length:=Paired.length pp
  walk_at "RD"
  intro p1 hp1
  have np : p1 ≠ st:=(ja6 e1 hp1).symm
  have nr1 : r ≠ p1:=ja6 er hp1
  refine ⟨st,o',4,rfl,(by rw [ja8 np.symm]; exact e1),so',by decide,by decide,fun d1 o2 d10 d11 so2=>?_⟩
  obtain ⟨v,ev,v0,v1⟩ : ∃ v,atI [V.int 1,.int 2,.int 6,.int 23] d1 = some (.int v)∧1 ≤ v∧v ≤ 23:=by
   obtain ⟨v,ev,hv⟩:=menu4 (a:=1) (b:=2) (c:=6) (e:=23) d10 d11
   exact ⟨v,ev,by omega,by omega⟩
  simp_arith [jaj,ja8 np,ja1,ev]
  refine ⟨st,o2,v,rfl,ja1,so2,by omega,by omega,fun d2 o3 d20 d21 so3=>?_⟩
  simp_arith [jhx]
  have b3 : But st H1 (upd (upd H1 p1 (.lst [.int 1,.int 2,.int 6,.int 23])) st o3):=(But.new hp1).trans (But.at _ _ _)
  have e3 : (upd (upd H1 p1 (.lst [.int 1,.int 2,.int 6,.int 23])) st o3) st = some o3:=ja1
  generalize upd (upd H1 p1 (.lst [.int 1,.int 2,.int 6,.int 23])) st o3 = H3 at b3 e3
  have t3 : TupS H1 H3:=b3.tups e1 so'.imm
  have er3:=b3 _ _ nr er
  refine ⟨⟨r,xs,rfl,er3⟩,⟨by decide,by decide,by decide⟩,?_⟩
  intro p2 hp2
  have np2 : p2 ≠ st:=(ja6 e3 hp2).symm
  have nr2 : r ≠ p2:=ja6 er3 hp2
  obtain ⟨v2,ev2,v20,v21⟩ : ∃ v,atI [V.int 1,.int 3,.int 9,.int (10 ^ Int.toNat 9)] kind = some (.int v)∧1 ≤ v∧v ≤ 1000000000:=by
   obtain ⟨v,ev,hv⟩:=menu4 (a:=1) (b:=3) (c:=9) (e:=10 ^ Int.toNat 9) k0 k1
   rw [p9] at hv
   exact ⟨v,ev,by omega,by omega⟩
  simp_arith [jaj,ja1,ev2]
  refine ⟨st,o3,v2,rfl,(by rw [ja8 np2.symm]; exact e3),so3,by omega,by omega,fun d3 o4 d30 d31 so4=>?_⟩
  walk_at "RD"
  have b4 : But st H3 (upd (upd H3 p2 (.lst [.int 1,.int 3,.int 9,.int (10 ^ Int.toNat 9)])) st o4):=(But.new hp2).trans (But.at _ _ _)
  have e4 : (upd (upd H3 p2 (.lst [.int 1,.int 3,.int 9,.int (10 ^ Int.toNat 9)])) st o4) st = some o4:=ja1
  generalize upd (upd H3 p2 (.lst [.int 1,.int 3,.int 9,.int (10 ^ Int.toNat 9)])) st o4 = H4 at b4 e4
  have t4 : TupS H3 H4:=b4.tups e3 so3.imm
  have er4:=b4 _ _ nr er3
  intro t ht
  have nt : t ≠ st:=(ja6 e4 ht).symm
  have er5 : upd H4 t (.tup [.int (l + 1 + d2),.int (1 + d3)]) r = some (.lst xs):=by rw [ja8 (ja6 er4 ht)]; exact er4
  simp_arith [er5]
  have t5 : TupS H4 (upd H4 t (.tup [.int (l + 1 + d2),.int (1 + d3)])):=jfm ht
  have t6:=jhy (ys:=xs ++ [.ref t]) er5
  refine ⟨szl' (by omega),l + 1 + d2,_,ps ++ [(l + 1 + d2,1 + d3)],_,o4,rfl,fun b u nb q=>?_,?_,so4,(by first | rfl | exact ja1),?_,?_,?_,?_⟩
  ·have q1:=b4 _ _ nb (b3 _ _ nb (b1 _ _ nb q))
   rw [ja8 (ja6 q hr0),ja8 (ja6 q1 ht)]
   exact q1
  ·rw [ja8 nr.symm,ja8 nt.symm]
   exact e4
  ·exact jca (Prs.tups (((t3.trans t4).trans t5).trans t6) pp) (Pr.tups ⟨t,rfl,ja1⟩ t6)
  ·rw [List.length_append,hlen]
   rfl
  ·exact dr.snoc ⟨by show _ < l + 1 + d2; omega,by show l + 1 + d2 ≤ _; omega,by show 1 ≤ 1 + d3; omega,by show 1 + d3 ≤ _; omega⟩
  ·rw [jdn]
 ·rintro σ H1 ⟨l,kk,ps,xs,o',rfl,b1,e1,so',er,pp,hlen,dr,el⟩
  walk_at "RD"
  exact h r H1 o' xs ps hr0 b1 e1 so' er pp (by omega) dr
end
end My
namespace My
open PySem L2
section
variable {P : Program} {w : World} {K : PySem.W.Frag} {mg : Str→Option Value} {base : Heap} {c1 c2 c3 c4 : Tok}
theorem Dr.pl : ∀ {ps : List (Int × Int)} {l s : Int},Dr l ps→l + 23 * ps.length ≤ 999→s + 1000000000 * ps.length ≤ 1000000000000→PlOk l s ps
 | [],_,_,_,_,_=>trivial
 | p :: r,l,s,h,h1,h2=>by
  have e : ((p :: r).length : Int) = r.length + 1:=by simp
  rw [e] at h1 h2
  obtain ⟨⟨a1,a2,a3,a4⟩,h3⟩:=h
  exact ⟨⟨a1,by omega,a3,by omega⟩,Dr.pl h3 (by omega) (by omega)⟩
theorem Dr.gt : ∀ {ps : List (Int × Int)} {l : Int},Dr l ps→∀ p ∈ ps,l < p.1
 | [],_,_,_,h=>by cases h
 | q :: r,l,h,p,hp=>by
  rcases List.mem_cons.mp hp with e | hp
  ·rw [e]; exact h.1.1
  ·have:=Dr.gt h.2 p hp
   have:=h.1.1
   omega
theorem Dr.rise : ∀ {ps : List (Int × Int)} {l : Int},Dr l ps→∀ (i j : Nat) (p q : Int × Int),i < j→ps[i]? = some p→ps[j]? = some q→p.1 < q.1
 | [],_,_,i,j,p,q,_,h,_=>by simp at h
 | r :: rs,l,h,i,j,p,q,hij,hi,hj=>by
  cases j with
  | zero=>omega
  | succ j =>
   have hj' : rs[j]? = some q:=by simpa using hj
   cases i with
   | zero =>
    have e : r = p:=by simpa using hi
    subst e
    exact Dr.gt h.2 q (List.mem_of_getElem? hj')
   | succ i=>exact Dr.rise h.2 i j p q (by omega) (by simpa using hi) hj'
theorem lex_lt {a b c d : Int} (h : a < c) : HT.lexLt [a,b] [c,d] = true:=by
 rw [HT.lexLt_cons,if_neg (by omega)]
 exact decide_eq_true h
theorem lex_eq {a b d : Int} (h : b < d) : HT.lexLt [a,b] [a,d] = true:=by
 rw [HT.lexLt_cons,if_pos rfl,HT.lexLt_cons,if_neg (by omega)]
 exact decide_eq_true h
noncomputable def jel (q : Int × Int) : List (Int × Int)→Int × Int
 | []=>q
 | p :: r=>jel p r
theorem jdm : ∀ {ts : List (Int × Int)} {q p : Int × Int},jel q (ts ++ [p]) = p
 | [],_,_=>rfl
 | t :: r,_,_=>jdm (ts:=r)
theorem TiOk.snoc {kvs : List (Key × V)} : ∀ {ts : List (Int × Int)} {q p : Int × Int},TiOk kvs q ts→(HT.lexLt [(jel q ts).1,(jel q ts).2] [p.1,p.2] = true∧p.1 < p.2∧hasK kvs p.1 = true∧hasK kvs p.2 = true)→TiOk kvs q (ts ++ [p])
 | [],_,_,_,h=>⟨h,trivial⟩
 | t :: r,_,_,h,h2=>⟨h.1,TiOk.snoc h.2 h2⟩
theorem jjw {H : Hp} {a st : Addr} {xs : List V} {ps : List (Int × Int)} {o : HO} (ha : H a = some (.lst xs)) (pp : Prs H xs ps) (hs : H st = some o) (so : StO o) : a ≠ st:=by
 intro z
 obtain ⟨c,s,f,e,_⟩:=so
 rw [z,hs,e] at ha
 cases ha
 cases pp with
 | cons r _=>obtain ⟨t,e,_⟩:=r; cases e
theorem jc2.but {H H' : Hp} {st : Addr} {o : HO} {v : V} {ps ts : List (Int × Int)} (h : jc2 H v ps ts) (hs : H st = some o) (so : StO o) (b : But st H H') : jc2 H' v ps ts:=by
 obtain ⟨u,pa,ta,xs,ys,e,h1,h2,h3,h4,h5⟩:=h
 have t:=b.tups hs so.imm
 exact ⟨u,pa,ta,xs,ys,e,t _ _ rfl h1,b _ _ (jjw h2 h4 hs so) h2,b _ _ (jjw h3 h5 hs so) h3,Prs.tups t h4,Prs.tups t h5⟩
noncomputable def jqk : Sp:=fun vs H Q _=>∃ s o m,vs = [.ref s,.int m]∧H s = some o∧StO o∧0 ≤ m∧m ≤ 12 ∧
 ∀ v H' o' ps ts,But s H H'→H' s = some o'→StO o'→jc2 H' v ps ts→WebOk ps ts→Dr (-1) ps→ps.length ≤ 12→ts.length ≤ 111→Q v H'
theorem jqv {ps : List (Int × Int)} (hn : (ps.map (·.1)).Nodup) {i : Nat} {p : Int × Int} (h : ps[i]? = some p) : hasK (jc0 ps) p.1 = true:=jru hn (List.mem_of_getElem? h)
theorem jml {f : Addr} {fd : FuncData} {f_law_take : Addr} {d_law_take : FuncData} {f_law_places : Addr} {d_law_places : FuncData} (B : Blt mg) (D : DefAt K mg "_law_web" (top 39) ["_law_state","_law_most"] f fd) (D_law_take : DefAt K mg "_law_take" (top 37) ["_law_state","_law_many"] f_law_take d_law_take) (G_law_take : FnOk P w K mg base CX0 1 f_law_take d_law_take ["_law_state","_law_many"] je9) (D_law_places : DefAt K mg "_law_places" (top 38) ["_law_state","_law_count"] f_law_places d_law_places) (G_law_places : FnOk P w K mg base CX0 2 f_law_places d_law_places ["_law_state","_law_count"] jlk) : FnOk P w K mg base CX0 3 f fd ["_law_state","_law_most"] jqk:=by
 have sc : FnScope ["_law_state","_law_most","_law_count","_law_places_here","_law_dense","_law_ties","_law_k","_law_j"] ["_law_state","_law_most"] (ja9 (top 39)):=⟨rfl,rfl,rfl,by decide +kernel,rfl,by decide +kernel,by decide +kernel⟩
 refine D.F.ok sc (fun vs H Q E h=>?_) (fun cdv A outer s H vs Q E hr h=>?_)
 ·obtain ⟨s,o,m,rfl,_⟩:=h
  rfl
 obtain ⟨st,o,m,rfl,es,so,m0,m1,h⟩:=h
 have hu:=jb8 hr
 have hu0 : _ < PySem.cLine:=Nat.lt_of_succ_lt hu
 refine ⟨_,(ja3 (jah (i:=2) sc.nd rfl (Or.inl rfl) (jab G_law_take (hr.mono (by decide)) rfl D_law_take.m D_law_take.F.kp D_law_take.b .nil jaq (ja0 (qv 0) (ja0 (jai jbv (qv 1) ja4) ja2)))) (ja3 (jah (i:=3) sc.nd rfl (Or.inl rfl) (jab G_law_places (hr.mono (by decide)) rfl D_law_places.m D_law_places.F.kp D_law_places.b .nil jaq (ja0 (qv 0) (ja0 (qv 2) ja2)))) (ja3 (jah (i:=4) sc.nd rfl (Or.inl rfl) (jai jbv ja4 (jab G_law_take (hr.mono (by decide)) rfl D_law_take.m D_law_take.F.kp D_law_take.b .nil jaq (ja0 (qv 0) (ja0 ja4 ja2))))) (ja3 (jah (i:=5) sc.nd rfl (Or.inl rfl) (jas ja2)) (ja3 (jbi PassesOwn.never rfl (jco rfl B.range (ja0 (qv 2) ja2)) (jac (i:=6) sc.nd rfl (Or.inl rfl)) (ja7 (jbi PassesOwn.never rfl (jo1 rfl B.range (ja0 (jai jbv (qv 6) ja4) (ja0 (qv 2) ja2))) (jac (i:=7) sc.nd rfl (Or.inl rfl)) (ja7 (jay (jan q_lt (jab G_law_take (hr.mono (by decide)) rfl D_law_take.m D_law_take.F.kp D_law_take.b .nil jaq (ja0 (qv 0) (ja0 ja4 ja2))) (qv 4) (jak _)) (ja7 (jb4 (q_bm PySem.F.plainAttrs_list PySem.F.slot_list_append PySem.F.type_list_append jbr (qv 5) (ja0 (jar (ja0 (jal q_ix (jal q_ix (qv 3) (qv 6) (fun _ _=>rfl)) ja4 (fun _ _=>rfl)) (ja0 (jal q_ix (jal q_ix (qv 3) (qv 7) (fun _ _=>rfl)) ja4 (fun _ _=>rfl)) ja2))) ja2)))) jag))))) (ja7 (jae (jar (ja0 (qv 3) (ja0 (qv 5) ja2)))))))))),?_⟩
 walk_at "RD"
 refine ⟨st,o,m + 1,rfl,es,so,by omega,by omega,fun n o1 n0 n1 so1=>?_⟩
 walk_at "RD"
 refine ⟨st,o1,n,rfl,ja1,so1,n0,by omega,fun r HA oA xs ps hr0 bA eA soA er pp hlen dr=>?_⟩
 walk_at "RD"
 refine ⟨st,oA,4,rfl,eA,soA,by decide,by decide,fun dn oB d0 d1 soB=>?_⟩
 have nr : r ≠ st:=fun z=>by rw [z,ja1] at hr0; cases hr0
 have hr1 : H r = none:=by rw [← hr0,ja8 nr]
 have bB : But st H (upd HA st oB):=((But.at st H o1).trans bA).trans (But.at st HA oB)
 have tB : TupS HA (upd HA st oB):=(But.at st HA oB).tups eA soA.imm
 have erB : upd HA st oB r = some (.lst xs):=by rw [ja8 nr]; exact er
 have eB : upd HA st oB st = some oB:=ja1
 have pB : Prs (upd HA st oB) xs ps:=Prs.tups tB pp
 generalize upd HA st oB = HB at bB erB eB pB
 clear tB pp er eA bA soA
 have hpl : ps.length ≤ 12:=by omega
 have plok:=dr.pl (s:=0) (by omega) (by omega)
 have hnd:=plok.nodup
 have hlx : xs.length = ps.length:=Paired.length pB
 have rise:=dr.rise
 walk_at "RD"
 intro tl htl
 have ntl : tl ≠ st:=(ja6 eB htl).symm
 have nrt : r ≠ tl:=ja6 erB htl
 have htl0 : H tl = none:=by
  cases q : H tl with
  | none=>rfl
  | some u=>rw [bB _ _ ntl q] at htl; cases htl
 refine jav (Itr 0 ps.length) (upd HB tl (.lst [])) (fun R hR=>?_) (jcc (n:=ps.length) (fun k σ H1=>∃ kk jj zs ts o',σ = [some (.ref st),some (.int m),some (.int n),some (.ref r),some (.int (1 + dn)),some (.ref tl),kk,jj]∧But st H H1∧H1 st = some o'∧StO o'∧H1 r = some (.lst xs)∧Prs H1 xs ps∧H1 tl = some (.lst zs)∧Prs H1 zs ts∧TiOk (jc0 ps) (-1,-1) ts∧(∀ (j : Nat) (p : Int × Int),k ≤ j→ps[j]? = some p→(jel (-1,-1) ts).1 < p.1)∧(ts.length ≤ 11 * k∧ts.length ≤ 111)) ?_ ?_ ?_)
 ·unfold jmy
  walk_at "RD"
  exact ⟨n,rfl,by omega,by omega,by rw [← hlen]; exact hR⟩
 ·refine ⟨none,none,[],[],oB,rfl,bB.trans (But.new htl),by rw [ja8 ntl.symm]; exact eB,soB,by rw [ja8 nrt]; exact erB,Prs.tups (jfm htl) pB,ja1,.nil,trivial,fun j p _ hp=>?_,by simp⟩
  have:=dr.gt p (List.mem_of_getElem? hp)
  exact this
 ·rintro k σ H1 hk ⟨kk,jj,zs,ts,o',rfl,b1,e1,so',er1,pp1,etl,pz,tok,hlast,htn⟩
  obtain ⟨lt0,hlt0⟩ : ∃ n : Nat,n = ts.length:=⟨_,rfl⟩
  have xk : ps[k]? = some ps[k]:=List.getElem?_eq_getElem hk
  generalize ps[k] = pk at xk
  walk_at "RD"
  refine jav (Itr (0 + (k : Int) + 1) (ps.length - (k + 1))) H1 (fun R hR=>?_) (jcc (n:=ps.length - (k + 1)) (fun i σ H2=>∃ jj zs ts o',σ = [some (.ref st),some (.int m),some (.int n),some (.ref r),some (.int (1 + dn)),some (.ref tl),some (.int (0 + (k : Int))),jj]∧But st H H2∧H2 st = some o'∧StO o'∧H2 r = some (.lst xs)∧Prs H2 xs ps∧H2 tl = some (.lst zs)∧Prs H2 zs ts∧TiOk (jc0 ps) (-1,-1) ts∧((jel (-1,-1) ts).1 < pk.1 ∨ ((jel (-1,-1) ts).1 = pk.1∧∀ (j : Nat) (p : Int × Int),k + 1 + i ≤ j→ps[j]? = some p→(jel (-1,-1) ts).2 < p.1))∧ts.length ≤ lt0 + i) ?_ ?_ ?_)
  ·unfold iRng2
   walk_at "RD"
   refine ⟨_,_,rfl,⟨by omega,by omega,by omega,by omega⟩,?_⟩
   have e : (n - (0 + (k : Int) + 1)).toNat = ps.length - (k + 1):=by omega
   rw [e]
   exact hR
  ·exact ⟨jj,zs,ts,o',rfl,b1,e1,so',er1,pp1,etl,pz,tok,.inl (hlast k pk (Nat.le_refl _) xk),by omega⟩
  ·rintro i σ H2 hi ⟨jj2,zs2,ts2,o2,rfl,b2,e2,so2,er2,pp2,etl2,pz2,tok2,hl2,htn2⟩
   have hj : k + 1 + i < ps.length:=by omega
   have xj : ps[k + 1 + i]? = some ps[k + 1 + i]:=List.getElem?_eq_getElem hj
   generalize ps[k + 1 + i] = pj at xj
   have hkj:=rise k (k + 1 + i) pk pj (by omega) xk xj
   walk_at "RD"
   refine ⟨st,o2,5,rfl,e2,so2,by decide,by decide,fun d3 o3 d30 d31 so3=>?_⟩
   have b3 : But st H2 (upd H2 st o3):=But.at _ _ _
   have t3 : TupS H2 (upd H2 st o3):=b3.tups e2 so2.imm
   have er3:=b3 _ _ nr er2
   have etl3:=b3 _ _ ntl etl2
   have e3 : upd H2 st o3 st = some o3:=ja1
   generalize upd H2 st o3 = H3 at b3 t3 er3 etl3 e3
   walk_at "RD"
   refine ite2 (fun c=>?_) (fun c=>?_)
   ·obtain ⟨uk,gk,hgk⟩:=jch pp2 xk
    obtain ⟨uj,gj,hgj⟩:=jch pp2 xj
    obtain ⟨tk,ek,hk3⟩:=hgk.tups t3
    obtain ⟨tj,ej,hj3⟩:=hgj.tups t3
    have ak : atI xs (0 + (k : Int)) = some (.ref tk):=by rw [Int.zero_add,← ek]; exact jbk gk
    have aj : atI xs (0 + (k : Int) + 1 + (i : Int)) = some (.ref tj):=by
     rw [show 0 + (k : Int) + 1 + (i : Int) = ((k + 1 + i : Nat) : Int) by omega,← ej]
     exact jbk gj
    refine ⟨⟨tl,_,rfl,etl3⟩,?_⟩
    simp_arith [jaj,er3,ak,aj,hk3,hj3,at0]
    intro t ht
    have etl4:=ja5 ht (.tup [.int pk.1,.int pj.1]) _ _ etl3
    simp_arith [etl4]
    have t6:=jhy (ys:=zs2 ++ [.ref t]) etl4
    have nst : st ≠ tl:=ntl.symm
    have hz2 : zs2.length = ts2.length:=Paired.length pz2
    refine ⟨szl' (by omega),_,zs2 ++ [.ref t],ts2 ++ [(pk.1,pj.1)],o3,rfl,fun b u nb q=>?_,?_,so3,?_,Prs.tups ((t3.trans (jfm ht)).trans t6) pp2,(by first | rfl | exact ja1),jca (Prs.tups ((t3.trans (jfm ht)).trans t6) pz2) (Pr.tups ⟨t,rfl,ja1⟩ t6),?_,?_,?_⟩
    ·have q3:=b3 _ _ nb (b2 _ _ nb q)
     rw [ja8 (ja6 q htl0),ja8 (ja6 q3 ht)]
     exact q3
    ·rw [ja8 nst,ja8 (ja6 e3 ht)]
     exact e3
    ·rw [ja8 nrt,ja8 (ja6 er3 ht)]
     exact er3
    ·refine tok2.snoc ⟨?_,hkj,(show hasK _ pk.1 = true from jqv hnd xk),(show hasK _ pj.1 = true from jqv hnd xj)⟩
     rcases hl2 with q | ⟨q1,q2⟩
     ·exact lex_lt q
     ·rw [q1]
      exact lex_eq (q2 _ pj (Nat.le_refl _) xj)
    ·rw [jdm]
     exact .inr ⟨rfl,fun j p hj2 hp=>rise _ _ pj p (by omega) xj hp⟩
    ·rw [List.length_append]
     show _ + 1 ≤ _
     omega
   ·refine ⟨_,zs2,ts2,o3,rfl,b2.trans b3,e3,so3,er3,Prs.tups t3 pp2,etl3,Prs.tups t3 pz2,tok2,?_,by omega⟩
    rcases hl2 with q | ⟨q1,q2⟩
    ·exact .inl q
    ·exact .inr ⟨q1,fun j p hj2 hp=>q2 j p (by omega) hp⟩
  ·rintro σ H2 ⟨jj2,zs2,ts2,o2,rfl,b2,e2,so2,er2,pp2,etl2,pz2,tok2,hl2,htn2⟩
   refine ⟨_,jj2,zs2,ts2,o2,rfl,b2,e2,so2,er2,pp2,etl2,pz2,tok2,fun j p hj hp=>?_,by omega⟩
   have:=rise k j pk p (by omega) xk hp
   rcases hl2 with q | ⟨q1,_⟩
   ·omega
   ·omega
 ·rintro σ H1 ⟨kk,jj,zs,ts,o',rfl,b1,e1,so',er1,pp1,etl,pz,tok,hlast,htn⟩
  walk_at "RD"
  intro wv hwv
  have s1:=ja5 hwv (.tup [.ref r,.ref tl])
  exact h _ _ o' ps ts (b1.trans (But.new hwv)) (s1 _ _ e1) so' ⟨wv,r,tl,xs,zs,rfl,ja1,s1 _ _ er1,s1 _ _ etl,Prs.same s1 pp1,Prs.same s1 pz⟩ ⟨by omega,plok,by omega,tok⟩ dr hpl htn.2
end
end My
namespace My
open PySem L2
section
variable {P : Program} {w : World} {K : PySem.W.Frag} {mg : Str→Option Value} {base : Heap} {c1 c2 c3 c4 : Tok} {C_NoWeb f_NoWeb : Addr} {dI : FuncData}
noncomputable def nr (n : Int) (t : Int × Int) : List Int:=if t.1 = n then [t.2] else if t.2 = n then [t.1] else []
noncomputable def jaz (ts : List (Int × Int)) (n : Int) : List Int:=ts.flatMap (nr n)
theorem jho {ts : List (Int × Int)} {j : Nat} {t : Int × Int} (h : ts[j]? = some t) (n : Int) : jaz (ts.take (j + 1)) n = jaz (ts.take j) n ++ nr n t:=by
 unfold jaz
 rw [jbo h,List.flatMap_append]
 simp
theorem jej : ∀ (ts : List (Int × Int)) (n : Int),(jaz ts n).length ≤ ts.length
 | [],n=>by simp [jaz]
 | t :: r,n=>by
  have ih:=jej r n
  have e : jaz (t :: r) n = nr n t ++ jaz r n:=by simp [jaz]
  have e2 : (nr n t).length ≤ 1:=by
   unfold nr
   split
   ·simp
   ·split <;> simp
  rw [e,List.length_append,List.length_cons]
  omega
noncomputable def kz : List (Int × Int)→List Addr→List (Key × V)
 | p :: r,a :: s=>(Sum.inl p.1,V.ref a) :: kz r s
 | _,_=>[]
theorem jl5 : ∀ {ps : List (Int × Int)} {as : List Addr} {p : Int × Int} {a : Addr},ps.length = as.length→kz (ps ++ [p]) (as ++ [a]) = kz ps as ++ [(Sum.inl p.1,V.ref a)]
 | [],[],_,_,_=>rfl
 | [],_ :: _,_,_,h=>by simp at h
 | _ :: _,[],_,_,h=>by simp at h
 | q :: r,b :: s,p,a,h=>by
  have ih:=jl5 (ps:=r) (as:=s) (p:=p) (a:=a) (by simpa using h)
  show (Sum.inl q.1,V.ref b) :: kz (r ++ [p]) (s ++ [a]) = _
  rw [ih]
  rfl
theorem jf2 : ∀ {ps : List (Int × Int)} {as : List Addr},ps.length = as.length→(kz ps as).map (·.1) = ps.map fun p=>(Sum.inl p.1 : Key)
 | [],[],_=>rfl
 | [],_ :: _,h=>by simp at h
 | _ :: _,[],h=>by simp at h
 | q :: r,b :: s,h=>by
  show (Sum.inl q.1 : Key) :: (kz r s).map (·.1) = _
  rw [jf2 (by simpa using h)]
  rfl
theorem jhs : ∀ {ps : List (Int × Int)} {as : List Addr} {i : Nat} {p : Int × Int} {a : Addr},(ps.map (·.1)).Nodup→ps[i]? = some p→as[i]? = some a→valV (kz ps as) (Sum.inl p.1 : Key) = some (.ref a)
 | [],_,i,_,_,_,h,_=>by simp at h
 | _ :: _,[],i,_,_,_,_,h=>by simp at h
 | q :: r,b :: s,i,p,a,hn,h1,h2=>by
  rw [List.map_cons] at hn
  unfold valV
  show Option.map _ (List.find? _ ((Sum.inl q.1,V.ref b) :: kz r s)) = _
  rw [List.find?_cons]
  cases i with
  | zero =>
   simp at h1 h2
   subst h1 h2
   simp
  | succ i =>
   have hp : p ∈ r:=List.mem_of_getElem? (by simpa using h1)
   have hne : q.1 ≠ p.1:=fun z=>(List.nodup_cons.mp hn).1 (by rw [z]; exact List.mem_map_of_mem hp)
   have hd : decide ((Sum.inl q.1 : Key) = Sum.inl p.1) = false:=decide_eq_false fun z=>hne (Sum.inl.inj z)
   dsimp only
   rw [hd]
   exact jhs (List.nodup_cons.mp hn).2 (i:=i) (by simpa using h1) (by simpa using h2)
theorem jem {ps : List (Int × Int)} {n : Int} (h : hasK (jc0 ps) n = true) : ∃ (i : Nat) (p : Int × Int),ps[i]? = some p∧p.1 = n:=by
 unfold hasK valV jc0 at h
 rw [Option.isSome_map,List.find?_isSome] at h
 obtain ⟨kv,hm,he⟩:=h
 obtain ⟨p,hp,e⟩:=List.mem_map.mp hm
 subst e
 obtain ⟨i,hi,e2⟩:=List.mem_iff_getElem.mp hp
 refine ⟨i,p,by rw [List.getElem?_eq_getElem hi,e2],?_⟩
 exact Sum.inl.inj (of_decide_eq_true he)
theorem TiOk.ats {kvs : List (Key × V)} : ∀ {ts : List (Int × Int)} {q : Int × Int},TiOk kvs q ts→∀ t ∈ ts,t.1 < t.2∧hasK kvs t.1 = true∧hasK kvs t.2 = true
 | [],_,_,_,h=>by cases h
 | p :: r,q,h,t,ht=>by
  rcases List.mem_cons.mp ht with e | ht
  ·rw [e]; exact ⟨h.1.2.1,h.1.2.2.1,h.1.2.2.2⟩
  ·exact TiOk.ats h.2 t ht
noncomputable def jqe (H : Hp) (ps ts : List (Int × Int)) (as : List Addr) : Prop:=∀ (i : Nat) (p : Int × Int) (a : Addr),ps[i]? = some p→as[i]? = some a→H a = some (.lst ((jaz ts p.1).map V.int))
noncomputable def jea : Sp:=fun vs H Q _=>∃ v ps ts,vs = [v]∧jc2 H v ps ts∧WebOk ps ts∧∀ d as H',H d = none→Same H H'→H' d = some (.dK (kz ps as))→as.length = ps.length→jqe H' ps ts as→Q (.ref d) H'
theorem jc7 {α : Type} {l : List α} (h : l.Nodup) {i j : Nat} {a b : α} (h1 : l[i]? = some a) (h2 : l[j]? = some b) (hij : i ≠ j) : a ≠ b:=by
 intro e
 subst e
 obtain ⟨p1,q1⟩:=List.getElem?_eq_some_iff.mp h1
 obtain ⟨p2,q2⟩:=List.getElem?_eq_some_iff.mp h2
 exact hij ((List.getElem_inj h).mp (q1.trans q2.symm))
theorem jiv {α : Type} {l : List α} {x y : α} {i : Nat} (h : (l ++ [x])[i]? = some y) : l[i]? = some y ∨ (i = l.length∧y = x):=by
 by_cases hi : i < l.length
 ·left
  rw [List.getElem?_append_left hi] at h
  exact h
 ·right
  rw [List.getElem?_append_right (by omega)] at h
  by_cases h0 : i - l.length = 0
  ·rw [h0] at h
   simp at h
   exact ⟨by omega,h.symm⟩
  ·have : i - l.length = (i - l.length - 1) + 1:=by omega
   rw [this] at h
   simp at h
theorem jkp {f : Addr} {fd : FuncData}  (B : Blt mg) (D : DefAt K mg "nears_in" (top 22) ["web"] f fd) : FnOk P w K mg base CX0 1 f fd ["web"] jea:=by
 have sc : FnScope ["web","nears","one","other"] ["web"] (ja9 (top 22)):=⟨rfl,rfl,rfl,by decide +kernel,rfl,by decide +kernel,by decide +kernel⟩
 refine D.F.ok sc (fun vs H Q E h=>?_) (fun cdv A outer s H vs Q E hr h=>?_)
 ·obtain ⟨v,ps,ts,rfl,_⟩:=h
  rfl
 obtain ⟨v,ps,ts,rfl,hw,wok,h⟩:=h
 obtain ⟨x,pa,ta,xs,ys,rfl,ex,ep,et,pp,pt⟩:=id hw
 have hlx : xs.length = ps.length:=Paired.length pp
 have hly : ys.length = ts.length:=Paired.length pt
 have okl:=wok.pl
 have okt:=wok.tl
 have hnd:=wok.p.nodup
 have hu:=jb8 hr
 have hu0 : _ < PySem.cLine:=Nat.lt_of_succ_lt hu
 refine ⟨_,(ja3 (jah (i:=1) sc.nd rfl (Or.inl rfl) (jc9 (jnu rfl) rfl B.dict PyProof.Rows.boot_dict (ja0 (jgi (CpScope.of (N:=["place","price"]) (src:=[none,none]) (by rfl)) rfl (jb5 (jal q_ix (qv 0) ja4 (fun _ _=>rfl))) (fun _ _ _ _=>(jc3 (n:=2) rfl (jaf (jac (i:=0) (jb7 (l:=["place","price"]) (by rfl)) rfl (Or.inl rfl)) (jaf (jac (i:=1) (jb7 (l:=["place","price"]) (by rfl)) rfl (Or.inl rfl)) jbg)))) (fun _ _ _ _=>jgg) (fun _ _ _ _=>(jar (ja0 (qv 0) (ja0 (jas ja2) ja2))))) ja2))) (ja3 (jbi PassesOwn.never rfl (jb5 (jal q_ix (qv 0) ja4 (fun _ _=>rfl))) (jc3 (n:=2) rfl (jaf (jac (i:=2) sc.nd rfl (Or.inl rfl)) (jaf (jac (i:=3) sc.nd rfl (Or.inl rfl)) jbg))) (ja3 (jb4 (q_bm PySem.F.plainAttrs_list PySem.F.slot_list_append PySem.F.type_list_append jbr (jef hu (qv 1) (qv 2) (fun _ _=>rfl)) (ja0 (qv 3) ja2))) (ja7 (jb4 (q_bm PySem.F.plainAttrs_list PySem.F.slot_list_append PySem.F.type_list_append jbr (jef hu (qv 1) (qv 3) (fun _ _=>rfl)) (ja0 (qv 2) ja2)))))) (ja7 (jae (qv 1))))),?_⟩
 walk_at "RD"
 refine jby (Itl K pa) H (fun R hR=>?_) (fun l hl0=>jcy ps.length (fun i σ' Hc=>∃ w1 w2 zs as,σ' = [w1,w2]∧Same H Hc∧Hc l = some (.lst zs)∧as.length = i∧as.Nodup∧(∀ a ∈ as,H a = none∧a ≠ l∧Hc a = some (.lst []))∧Paired (PairAt Hc) zs (kz (ps.take i) as)) ⟨none,none,[],[],rfl,ja5 hl0 _,ja1,rfl,List.nodup_nil,(fun _ h=>by cases h),.nil⟩ ?_ ?_)
 ·unfold jcr
  simp_arith [jaj,ex,at0]
  exact ⟨pa,rfl,⟨_,SqL.of ep⟩,hR⟩
 ·rintro i σ' Hc hi ⟨w1,w2,zs,as,rfl,s2,ez,hla,nda,ha,pz⟩
  have x1 : xs[i]? = some (xs[i]'(by omega)):=List.getElem?_eq_getElem _
  have z1 : SqL K Hc pa xs:=SqL.of (s2 _ _ ep)
  have hlt : (ps.take i).length = as.length:=by rw [List.length_take]; omega
  have hlz : zs.length = (kz (ps.take i) as).length:=Paired.length pz
  have hlz2 : zs.length ≤ i:=by
   have e:=congrArg List.length (jf2 hlt)
   rw [List.length_map,List.length_map] at e
   omega
  refine ⟨⟨_,_,z1,x1⟩,?_⟩
  rintro y H' ⟨rfl,hy⟩
  obtain ⟨q,hq,pq⟩:=jam pp (hy _ z1)
  obtain ⟨t,rfl,ht⟩:=pq.same s2
  simp_arith [ht]
  intro a1 ha1 t2 ht2
  have na1 : a1 ≠ l:=fun z=>by rw [z,ez] at ha1; cases ha1
  have nt2 : t2 ≠ a1:=fun z=>by rw [z,ja1] at ht2; cases ht2
  have s3:=ja5 ha1 (.lst [])
  have s4:=ja5 ht2 (.tup [.int q.1,.ref a1])
  have ez2:=s4 _ _ (s3 _ _ ez)
  have t6:=jhy (ys:=zs ++ [.ref t2]) ez2
  refine ⟨zs,ez2,szl' (by omega),_,_,zs ++ [.ref t2],as ++ [a1],rfl,jc5 (s2.trans (s3.trans s4)) hl0,(by first | rfl | exact ja1),(by rw [List.length_append,hla]; rfl),?_,?_,?_⟩
  ·rw [List.nodup_append]
   refine ⟨nda,(by simp),fun a hm b hb=>?_⟩
   have hb' : b = a1:=by simpa using hb
   intro z
   rw [hb'] at z
   have:=(ha a hm).2.2
   rw [z,ha1] at this
   cases this
  ·intro a hm
   rcases List.mem_append.mp hm with hm | hm
   ·obtain ⟨q1,q2,q3⟩:=ha a hm
    refine ⟨q1,q2,?_⟩
    rw [ja8 q2]
    exact s4 _ _ (s3 _ _ q3)
   ·have e : a = a1:=by simpa using hm
    subst e
    refine ⟨s2.free ha1,na1,?_⟩
    rw [ja8 na1]
    exact s4 _ _ ja1
  ·rw [jbo hq,jl5 hlt]
   refine jca (Paired.mapP pz fun v p q=>?_) ⟨t2,rfl,t6 _ _ rfl ja1⟩
   obtain ⟨b,e,q⟩:=q
   exact ⟨b,e,t6 _ _ rfl (s4 _ _ (s3 _ _ q))⟩
 rintro σ' Hc ⟨w1,w2,zs,as,rfl,s2,ez,hla,nda,ha,pz⟩
 refine ⟨⟨_,SqL.of (s2 _ _ ep),by omega⟩,?_⟩
 rw [List.take_length] at pz
 have hlz : zs.length = (kz ps as).length:=Paired.length pz
 have hkk:=jf2 (ps:=ps) (as:=as) hla.symm
 have hlz2 : zs.length = ps.length:=by
  have e:=congrArg List.length hkk
  rw [List.length_map,List.length_map] at e
  omega
 simp_arith [ez]
 refine ⟨kz ps as,pz,by omega,?_,fun d hd=>?_⟩
 ·rw [hkk]
  have hnd2:=hnd
  unfold List.Nodup at hnd2 ⊢
  rw [List.pairwise_map] at hnd2 ⊢
  exact hnd2.imp fun q z=>q (Sum.inl.inj z)
 have s3:=ja5 hd (.dK (kz ps as))
 have ed : upd Hc d (.dK (kz ps as)) d = some (.dK (kz ps as)):=ja1
 have hd0:=s2.free hd
 have ha3 : ∀ a ∈ as,H a = none∧a ≠ d∧upd Hc d (.dK (kz ps as)) a = some (.lst []):=fun a hm=>by
  obtain ⟨q1,q2,q3⟩:=ha a hm
  exact ⟨q1,ja6 q3 hd,s3 _ _ q3⟩
 have s23:=s2.trans s3
 generalize upd Hc d (.dK (kz ps as)) = H2 at s23 ed ha3
 clear s3 s2 ez pz ha hlz hd
 refine jav (Itl K ta) H2 (fun R hR=>?_) (jbe (K:=K) (a:=ta) (xs:=ys) (fun j σ H3=>∃ v1 v2,σ = [some (.ref x),some (.ref d),v1,v2]∧Same H H3∧H3 d = some (.dK (kz ps as))∧jqe H3 ps (ts.take j) as) ⟨none,none,rfl,s23,ed,fun i p a _ h2=>(ha3 a (List.mem_of_getElem? h2)).2.2⟩ (fun i σ H3 _ ⟨_,_,_,s3,_⟩=>SqL.of (s3 _ _ et)) ?_ ?_)
 ·unfold jcr
  simp_arith [jaj,s23 _ _ ex,at1]
  exact ⟨ta,rfl,⟨_,SqL.of (s23 _ _ et)⟩,hR⟩
 ·rintro j y σ H3 hj ⟨v1,v2,rfl,s3,ed3,hN⟩
  obtain ⟨q,hq,pq⟩:=jam pt hj
  obtain ⟨t,rfl,ht⟩:=pq.same s3
  obtain ⟨b1,b2,b3⟩:=wok.t.ats q (List.mem_of_getElem? hq)
  obtain ⟨i1,p1,g1,e1⟩:=jem b2
  obtain ⟨i2,p2,g2,e2⟩:=jem b3
  have hi1 : i1 < as.length:=by have:=(List.getElem?_eq_some_iff.mp g1).1; omega
  have hi2 : i2 < as.length:=by have:=(List.getElem?_eq_some_iff.mp g2).1; omega
  have A1 : as[i1]? = some as[i1]:=List.getElem?_eq_getElem hi1
  have A2 : as[i2]? = some as[i2]:=List.getElem?_eq_getElem hi2
  generalize as[i1] = a1 at A1
  generalize as[i2] = a2 at A2
  have V1:=jhs hnd g1 A1
  have V2:=jhs hnd g2 A2
  have n12 : i1 ≠ i2:=fun z=>by rw [z,g2] at g1; cases g1; omega
  have na : a1 ≠ a2:=jc7 nda A1 A2 n12
  rw [e1] at V1
  rw [e2] at V2
  have M1:=hN i1 p1 a1 g1 A1
  have M2:=hN i2 p2 a2 g2 A2
  have hlj : ∀ n,(jaz (ts.take j) n).length ≤ 120:=fun n=>Nat.le_trans (jej _ _) (by rw [List.length_take]; omega)
  have nd1 : d ≠ a1:=((ha3 a1 (List.mem_of_getElem? A1)).2.1).symm
  have nd2 : d ≠ a2:=((ha3 a2 (List.mem_of_getElem? A2)).2.1).symm
  simp_arith [ht,ed3,V1]
  refine ⟨⟨a1,_,rfl,M1⟩,?_⟩
  simp_arith [M1]
  refine ⟨szl' (by rw [List.length_map]; have:=hlj p1.1; omega),?_⟩
  simp_arith [ja8 nd1,ed3,V2]
  refine ⟨⟨a2,_,rfl,(by rw [ja8 na.symm]; exact M2)⟩,?_⟩
  simp_arith [ja8 na.symm,M2]
  refine ⟨szl' (by rw [List.length_map]; have:=hlj p2.1; omega),_,_,rfl,?_,?_,?_⟩
  ·intro b o hb
   rw [ja8 (ja6 hb (ha3 a2 (List.mem_of_getElem? A2)).1),ja8 (ja6 hb (ha3 a1 (List.mem_of_getElem? A1)).1)]
   exact s3 b o hb
  ·rw [ja8 nd2,ja8 nd1]
   exact ed3
  ·intro i p a hp ha'
   rw [jho hq,List.map_append]
   have hpe : ∀ {k : Nat} {r : Int × Int},ps[k]? = some r→r.1 = p.1→k = i:=fun {k r} hr he=>by
    have h1 : (ps.map (·.1))[k]? = some r.1:=by rw [List.getElem?_map,hr]; rfl
    have h2 : (ps.map (·.1))[i]? = some p.1:=by rw [List.getElem?_map,hp]; rfl
    by_cases z : k = i
    ·exact z
    ·exact absurd he (jc7 hnd h1 h2 z)
   by_cases c2 : i = i2
   ·subst c2
    rw [g2] at hp
    cases hp
    rw [A2] at ha'
    cases ha'
    have e3 : nr p2.1 q = [q.1]:=by
     unfold nr
     rw [if_neg (by omega),if_pos e2.symm]
    rw [ja1,e3]
    rfl
   by_cases c1 : i = i1
   ·subst c1
    rw [g1] at hp
    cases hp
    rw [A1] at ha'
    cases ha'
    have e3 : nr p1.1 q = [q.2]:=by
     unfold nr
     rw [if_pos e1.symm]
    rw [ja8 na,ja1,e3]
    rfl
   have n1 : a ≠ a1:=jc7 nda ha' A1 c1
   have n2 : a ≠ a2:=jc7 nda ha' A2 c2
   have e3 : nr p.1 q = []:=by
    unfold nr
    rw [if_neg (fun z=>c1 (hpe g1 (e1.trans z)).symm),if_neg (fun z=>c2 (hpe g2 (e2.trans z)).symm)]
   rw [ja8 n2,ja8 n1,e3,List.map_nil,List.append_nil]
   exact hN i p a hp ha'
 ·rintro σ H3 ⟨v1,v2,rfl,s3,ed3,hN⟩
  rw [hly,List.take_length] at hN
  walk_at "RD"
  exact h d as H3 hd0 s3 ed3 hla hN
end
end My
namespace My
open PySem L2
section
variable {P : Program} {w : World} {K : PySem.W.Frag} {mg : Str→Option Value} {base : Heap} {c1 c2 c3 c4 : Tok} {C_NoWeb f_NoWeb : Addr} {dI : FuncData}
noncomputable def isPl (kvs : List (Key × V)) : Dt→Bool
 | .int n=>hasK kvs n
 | _=>false
noncomputable def jqm : Sp:=fun vs H Q _=>∃ d kvs x dt,vs = [.ref d,x]∧H d = some (.dK kvs)∧Rep H dt x∧Q (.bl (isPl kvs dt)) H
noncomputable def jqp : Sp:=fun vs H Q _=>∃ d kvs l ds xs,vs = [.ref d,.ref l]∧H d = some (.dK kvs)∧H l = some (.lst xs)∧Reps H ds xs∧ds.length ≤ 900∧∀ H',Same H H'→Q (.bl (ds.all (isPl kvs))) H'
noncomputable def NrAt (H : Hp) (d : Addr) (ps ts : List (Int × Int)) : Prop:=∃ as,H d = some (.dK (kz ps as))∧as.length = ps.length∧jqe H ps ts as
theorem NrAt.same {H H' : Hp} {d : Addr} {ps ts : List (Int × Int)} (h : NrAt H d ps ts) (s : Same H H') : NrAt H' d ps ts:=by
 obtain ⟨as,e,l,n⟩:=h
 exact ⟨as,s _ _ e,l,fun i p a h1 h2=>s _ _ (n i p a h1 h2)⟩
theorem kz_has {ps : List (Int × Int)} {as : List Addr} (hl : as.length = ps.length) {n : Int} : hasK (kz ps as) n = decide (n ∈ ps.map (·.1)):=by
 have hk:=jf2 (ps:=ps) (as:=as) hl.symm
 unfold hasK valV
 rw [Option.isSome_map,Bool.eq_iff_iff,List.find?_isSome,decide_eq_true_eq]
 constructor
 ·rintro ⟨kv,hm,he⟩
  have h1 : kv.1 ∈ (kz ps as).map (·.1):=List.mem_map_of_mem hm
  rw [hk] at h1
  obtain ⟨p,hp,e⟩:=List.mem_map.mp h1
  have e2 : kv.1 = Sum.inl n:=of_decide_eq_true he
  rw [e2] at e
  exact List.mem_map.mpr ⟨p,hp,Sum.inl.inj e⟩
 ·intro h
  obtain ⟨p,hp,e⟩:=List.mem_map.mp h
  have h1 : (Sum.inl n : Key) ∈ (kz ps as).map (·.1):=by rw [hk]; exact List.mem_map.mpr ⟨p,hp,by rw [e]⟩
  obtain ⟨kv,hm,he⟩:=List.mem_map.mp h1
  exact ⟨kv,hm,by rw [he]; simp⟩
theorem NrAt.get {H : Hp} {d : Addr} {ps ts : List (Int × Int)} (h : NrAt H d ps ts) (hn : (ps.map (·.1)).Nodup) {n : Int} (m : n ∈ ps.map (·.1)) : ∃ as a,H d = some (.dK (kz ps as))∧valV (kz ps as) (Sum.inl n : Key) = some (.ref a)∧H a = some (.lst ((jaz ts n).map V.int)):=by
 obtain ⟨as,e,l,nr⟩:=h
 obtain ⟨p,hp,rfl⟩:=List.mem_map.mp m
 obtain ⟨i,hi,e2⟩:=List.mem_iff_getElem.mp hp
 have h1 : ps[i]? = some p:=by rw [List.getElem?_eq_getElem hi,e2]
 have h2 : as[i]? = some (as[i]'(by omega)):=List.getElem?_eq_getElem _
 exact ⟨as,_,e,jhs hn h1 h2,nr i p _ h1 h2⟩
theorem jkv {f : Addr} {fd : FuncData} {f_is_whole : Addr} {d_is_whole : FuncData} (B : Blt mg) (D : DefAt K mg "is_place" (top 20) ["prices","thing"] f fd) (D_is_whole : DefAt K mg "is_whole" (top 6) ["thing"] f_is_whole d_is_whole) (G_is_whole : FnOk P w K mg base CX0 1 f_is_whole d_is_whole ["thing"] ji5) : FnOk P w K mg base CX0 2 f fd ["prices","thing"] jqm:=by
 have sc : FnScope ["prices","thing"] ["prices","thing"] (ja9 (top 20)):=⟨rfl,rfl,rfl,by decide +kernel,rfl,by decide +kernel,by decide +kernel⟩
 refine D.F.ok sc (fun vs H Q E h=>?_) (fun cdv A outer s H vs Q E hr h=>?_)
 ·obtain ⟨d,kvs,x,dt,rfl,_⟩:=h
  rfl
 obtain ⟨d,kvs,x,dt,rfl,ed,hd,h⟩:=h
 have hk:=jf9 hd
 have hu:=jb8 hr
 have hu0 : _ < PySem.cLine:=Nat.lt_of_succ_lt hu
 refine ⟨_,(ja7 (jae (jew (jab G_is_whole (hr.mono (by decide)) rfl D_is_whole.m D_is_whole.F.kp D_is_whole.b .nil jaq (ja0 (qv 1) ja2)) (jdw (jo4 (jrb hu (qv 1) (qv 0))))))),?_⟩
 cases dt with
 | int n =>
  rw [Rep] at hd
  subst hd
  walk_at "RD"
  refine ⟨_,.int,rfl,rfl,?_⟩
  simp_arith [jcz,ed]
  exact h
 | non=>walk_at "RD"; exact ⟨_,_,rfl,hk,by simp_arith [jcz,kdD]; exact h⟩
 | bl b=>walk_at "RD"; exact ⟨_,_,rfl,hk,by simp_arith [jcz,kdD]; exact h⟩
 | str b=>walk_at "RD"; exact ⟨_,_,rfl,hk,by simp_arith [jcz,kdD]; exact h⟩
 | tup b=>walk_at "RD"; exact ⟨_,_,rfl,hk,by simp_arith [jcz,kdD]; exact h⟩
 | lst b=>walk_at "RD"; exact ⟨_,_,rfl,hk,by simp_arith [jcz,kdD]; exact h⟩
theorem jio {f : Addr} {fd : FuncData} {f_is_place : Addr} {d_is_place : FuncData} (B : Blt mg) (D : DefAt K mg "are_places" (top 21) ["prices","things"] f fd) (D_is_place : DefAt K mg "is_place" (top 20) ["prices","thing"] f_is_place d_is_place) (G_is_place : FnOk P w K mg base CX0 2 f_is_place d_is_place ["prices","thing"] jqm) : FnOk P w K mg base CX0 3 f fd ["prices","things"] jqp:=by
 have sc : FnScope ["prices","things"] ["prices","things"] (ja9 (top 21)):=⟨rfl,rfl,rfl,by decide +kernel,rfl,by decide +kernel,by decide +kernel⟩
 refine D.F.ok sc (fun vs H Q E h=>?_) (fun cdv A outer s H vs Q E hr h=>?_)
 ·obtain ⟨d,kvs,l,ds,xs,rfl,_⟩:=h
  rfl
 obtain ⟨d,kvs,l,ds,xs,rfl,ed,el,hr2,hl9,h⟩:=h
 have hlx:=hr2.len
 have hu:=jb8 hr
 have hu0 : _ < PySem.cLine:=Nat.lt_of_succ_lt hu
 refine ⟨_,(ja7 (jae (jad (q_all rfl) rfl B.all PyProof.Rows.boot_all (ja0 (jgi (CpScope.of (N:=["thing","prices"]) (src:=[none,some 0]) (by rfl)) rfl (jb5 (qv 1)) (fun _ _ _ _=>(jac (i:=0) (jb7 (l:=["thing","prices"]) (by rfl)) rfl (Or.inl rfl))) (fun _ _ _ _=>jgg) (fun _ _ _ _=>(jab G_is_place (hr.mono (by decide)) rfl D_is_place.m D_is_place.F.kp D_is_place.b .nil jaq (ja0 (qv 1) (ja0 (qv 0) ja2))))) ja2)))),?_⟩
 walk_at "RD"
 refine jby (Itl K l) H (fun R hR=>?_) (fun z hz0=>jcy ds.length (fun i σ' Hc=>∃ w1,σ' = [w1,some (.ref d)]∧Same H Hc∧Hc z = some (.lst (((ds.take i).map (isPl kvs)).map V.bl))) ⟨none,rfl,ja5 hz0 _,ja1⟩ ?_ ?_)
 ·unfold jcr
  walk_at "RD"
  exact ⟨l,rfl,⟨_,SqL.of el⟩,hR⟩
 ·rintro i σ' Hc hi ⟨w1,rfl,s2,ez⟩
  have x1 : xs[i]? = some (xs[i]'(by omega)):=List.getElem?_eq_getElem _
  refine ⟨⟨_,_,SqL.of (s2 _ _ el),x1⟩,?_⟩
  rintro y H' ⟨rfl,hy⟩
  have E1:=Option.some.inj (x1.symm.trans (hy _ (SqL.of (s2 _ _ el))))
  subst E1
  obtain ⟨dt,hdt,rdt⟩:=hr2.at x1
  walk_at "RD"
  refine ⟨d,kvs,_,dt,rfl,s2 _ _ ed,Rep.same s2 _ rdt,?_⟩
  refine ⟨_,ez,?_,_,rfl,jc5 s2 hz0,?_⟩
  ·rw [List.length_map,List.length_map,List.length_take]
   exact szl' (by omega)
  ·rw [jbo hdt,List.map_append,List.map_append]
   first | rfl | exact ja1
 ·rintro σ' Hc ⟨w1,rfl,s2,ez⟩
  refine ⟨⟨_,SqL.of (s2 _ _ el),by omega⟩,?_⟩
  rw [List.take_length] at ez
  simp_arith [ez]
  refine ⟨_,rfl,?_⟩
  have e : (ds.map (isPl kvs)).all id = ds.all (isPl kvs):=by
   rw [List.all_map]
   rfl
  rw [e]
  exact h Hc s2
end
end My
namespace My
open PySem L2
section
variable {P : Program} {w : World} {K : PySem.W.Frag} {mg : Str→Option Value} {base : Heap} {c1 c2 c3 c4 : Tok} {C_NoWeb f_NoWeb : Addr} {dI : FuncData}
theorem flat_ints : ∀ (gs : List Int),(gs.map V.int).all jcx = true
 | []=>rfl
 | _ :: r=>flat_ints r
noncomputable def pwB (ts : List (Int × Int)) : List Int→Bool
 | []=>true
 | n :: r=>(r.all fun m=>decide (n < m) && decide (m ∈ jaz ts n)) && pwB ts r
noncomputable def allB (ts : List (Int × Int)) (ns : List Int) : Bool:=pwB ts ns && decide (2 ≤ ns.length)
noncomputable def jff (ts : List (Int × Int)) (ns : List Int) : Bool:=(decide (3 ≤ ns.length) && decide (ns.length % 2 = 1) && decide ns.Nodup) && ((ns.zip (ns.drop 1 ++ ns.take 1)).all fun p=>decide (p.2 ∈ jaz ts p.1))
noncomputable def jnk : Sp:=fun vs H Q _=>∃ d l ps ts ns,vs = [.ref d,.ref l]∧NrAt H d ps ts∧(ps.map (·.1)).Nodup∧H l = some (.lst (ns.map V.int))∧(∀ n ∈ ns,n ∈ ps.map (·.1))∧ns.length ≤ 900∧∀ H',Same H H'→Q (.bl (allB ts ns)) H'
noncomputable def jln : Sp:=fun vs H Q _=>∃ d l ps ts ns,vs = [.ref d,.ref l]∧NrAt H d ps ts∧(ps.map (·.1)).Nodup∧H l = some (.lst (ns.map V.int))∧(∀ n ∈ ns,n ∈ ps.map (·.1))∧ns.length ≤ 900∧∀ H',Same H H'→Q (.bl (jff ts ns)) H'
theorem jpq {ts : List (Int × Int)} {ns : List Int} {i : Nat} {n : Int} (h : ns[i]? = some n) : pwB ts (ns.drop i) = (((ns.drop (i + 1)).all fun m=>decide (n < m) && decide (m ∈ jaz ts n)) && pwB ts (ns.drop (i + 1))):=by
 obtain ⟨hi,e⟩:=List.getElem?_eq_some_iff.mp h
 rw [List.drop_eq_getElem_cons hi,e]
 rfl
theorem jk7 {ns : List Int} {k : Nat} (h : k ≤ ns.length) : cutV (ns.map V.int) (some ((k : Nat) : Int)) none = (ns.drop k).map V.int:=by
 unfold cutV HT.sIx
 dsimp only
 have e : (if ((k : Nat) : Int) < 0 then (((k : Nat) : Int) + ((ns.map V.int).length : Int)).toNat else min ((k : Nat) : Int).toNat (ns.map V.int).length) = k:=by
  rw [List.length_map]
  split <;> omega
 rw [e,List.take_of_length_le (by rw [List.length_drop]; omega),List.map_drop]
theorem jrz {ns : List Int} {k : Nat} (h : k ≤ ns.length) : cutV (ns.map V.int) none (some ((k : Nat) : Int)) = (ns.take k).map V.int:=by
 unfold cutV HT.sIx
 dsimp only
 have e : (if ((k : Nat) : Int) < 0 then (((k : Nat) : Int) + ((ns.map V.int).length : Int)).toNat else min ((k : Nat) : Int).toNat (ns.map V.int).length) = k:=by
  rw [List.length_map]
  split <;> omega
 rw [List.drop_zero,e,Nat.sub_zero,List.map_take]
theorem jo9 {f : Addr} {fd : FuncData}  (B : Blt mg) (D : DefAt K mg "is_all" (top 25) ["nears","places"] f fd) : FnOk P w K mg base CX0 1 f fd ["nears","places"] jnk:=by
 have sc : FnScope ["nears","places","at","one","other"] ["nears","places"] (ja9 (top 25)):=⟨rfl,rfl,rfl,by decide +kernel,rfl,by decide +kernel,by decide +kernel⟩
 refine D.F.ok sc (fun vs H Q E h=>?_) (fun cdv A outer s H vs Q E hr h=>?_)
 ·obtain ⟨d,l,ps,ts,ns,rfl,_⟩:=h
  rfl
 obtain ⟨d,l,ps,ts,ns,rfl,nr,hnd,el,hin,hl9,h⟩:=h
 have hu:=jb8 hr
 have hu0 : _ < PySem.cLine:=Nat.lt_of_succ_lt hu
 refine ⟨_,(ja3 (jbi PassesOwn.never rfl (jig rfl B.enumerate (ja0 (qv 1) ja2)) (jc3 (n:=2) rfl (jaf (jac (i:=2) sc.nd rfl (Or.inl rfl)) (jaf (jac (i:=3) sc.nd rfl (Or.inl rfl)) jbg))) (ja7 (jbi PassesOwn.never rfl (jb5 (jb0 jdt (qv 1) (jbf (jai jbv (qv 2) ja4)) jbh)) (jac (i:=4) sc.nd rfl (Or.inl rfl)) (ja7 (jay (PW.pt (jid (jan q_le (qv 4) (qv 3) (jak _)) (jgd (jan jib (qv 4) (jef hu (qv 0) (qv 3) (fun _ _=>rfl)) (by with_unfolding_all rfl))))) (ja7 (jae je1)) jag))))) (ja7 (jae (jbs q_ge (jad jci rfl B.len PySem.boot_len (ja0 (qv 1) ja2)) ja4 (jak _))))),?_⟩
 refine jaa fun R hR=>?_
 walk_at "RD"
 refine ⟨l,rfl,⟨_,SqL.of el⟩,jfu (K:=K) (a:=l) (xs:=ns.map V.int) (fun i σ H1=>∃ v1 v2 v3,σ = [some (.ref d),some (.ref l),v1,v2,v3]∧Same H H1∧pwB ts ns = pwB ts (ns.drop i)) ⟨none,none,none,rfl,Same.refl _,rfl⟩ (fun i σ H1 _ ⟨_,_,_,_,s1,_⟩=>SqL.of (s1 _ _ el)) ?_ ?_⟩
 ·rintro i x σ H1 t hi ⟨v1,v2,v3,rfl,s1,hpw⟩ ht
  obtain ⟨n,hn,rfl⟩ : ∃ n,ns[i]? = some n∧x = .int n:=by
   rw [List.getElem?_map] at hi
   cases c : ns[i]? with
   | none=>rw [c] at hi; cases hi
   | some n=>rw [c] at hi; cases hi; exact ⟨n,rfl,rfl⟩
  have hil : i < ns.length:=(List.getElem?_eq_some_iff.mp hn).1
  have s2 : Same H (upd H1 t (.tup [.int i,.int n])):=s1.trans (ja5 ht _)
  rw [jpq hn] at hpw
  simp_arith [ja1]
  generalize upd H1 t (.tup [.int i,.int n]) = H2 at s2
  have nm : n ∈ ps.map (·.1):=hin n (List.mem_of_getElem? hn)
  refine jcm (ι:=Addr × Hp) (fun i0=>Itl K i0.1) (fun i0=>i0.2) (fun i0=>Same H i0.2∧i0.2 i0.1 = some (.lst ((ns.drop (i + 1)).map V.int))) (fun R' hR'=>?_) (fun i0 ok0=>?_)
  ·unfold jcr
   simp_arith [s2 _ _ el]
   intro p hp
   rw [show ((i : Int) + 1) = ((i + 1 : Nat) : Int) by omega,jk7 (by omega)]
   exact ⟨p,rfl,⟨_,SqL.of ja1⟩,hR' (p,_) ⟨s2.trans (ja5 hp _),ja1⟩⟩
  obtain ⟨lp,H3⟩:=i0
  obtain ⟨s3,ep⟩:=ok0
  dsimp only at s3 ep
  generalize hrs : ns.drop (i + 1) = rs at ep hpw
  refine jbe (K:=K) (a:=lp) (xs:=rs.map V.int) (fun j σ H4=>∃ v3,σ = [some (.ref d),some (.ref l),some (.int i),some (.int n),v3]∧Same H3 H4∧(rs.take j).all (fun m=>decide (n < m) && decide (m ∈ jaz ts n)) = true) ⟨_,rfl,Same.refl _,rfl⟩ (fun j σ H4 _ ⟨_,_,s4,_⟩=>SqL.of (s4 _ _ ep)) ?_ ?_
  ·rintro j x σ H4 hj ⟨v3',rfl,s4,hall⟩
   obtain ⟨m,hm,rfl⟩ : ∃ m,rs[j]? = some m∧x = .int m:=by
    rw [List.getElem?_map] at hj
    cases c : rs[j]? with
    | none=>rw [c] at hj; cases hj
    | some n=>rw [c] at hj; cases hj; exact ⟨n,rfl,rfl⟩
   have mm : m ∈ rs:=List.mem_of_getElem? hm
   have s34:=s3.trans s4
   obtain ⟨as,a,e1,e2,e3⟩:=(nr.same s34).get hnd nm
   have ok : pwB ts ns = true→(decide (n < m) && decide (m ∈ jaz ts n)) = true:=fun z=>by
    rw [hpw,Bool.and_eq_true,List.all_eq_true] at z
    exact z.1 m mm
   simp_arith [e1,e2,e3,jaj,jdo,flat_ints,jcx]
   have bad : (decide (n < m) && decide (m ∈ jaz ts n)) = false→allB ts ns = false:=fun z=>by
    unfold allB
    rw [Bool.and_eq_false_iff]
    refine .inl (Bool.eq_false_iff.mpr fun q=>?_)
    rw [ok q] at z
    cases z
   by_cases c1 : m ≤ n
   ·rw [decide_eq_true c1]
    walk_at "RD"
    have:=bad (by rw [decide_eq_false (by omega),Bool.false_and])
    rw [this] at h
    exact h _ s34
   ·rw [decide_eq_false c1]
    walk_at "RD"
    by_cases c2 : m ∈ jaz ts n
    ·rw [decide_eq_true c2]
     walk_at "RD"
     refine ⟨_,rfl,s4,?_⟩
     rw [jbo hm,List.all_append,hall]
     simp only [List.all_cons,List.all_nil,Bool.and_true,Bool.true_and]
     rw [decide_eq_true (show n < m by omega),decide_eq_true c2]
     rfl
    ·rw [decide_eq_false c2]
     walk_at "RD"
     have:=bad (by rw [decide_eq_false c2,Bool.and_false])
     rw [this] at h
     exact h _ s34
  ·rintro σ H4 ⟨v3',rfl,s4,hall⟩
   rw [List.length_map,List.take_length] at hall
   refine ⟨_,_,_,rfl,s3.trans s4,?_⟩
   rw [hpw,hall,Bool.true_and]
 ·rintro σ H1 ⟨v1,v2,v3,rfl,s1,hpw⟩
  rw [List.length_map,List.drop_length] at hpw
  try subst hR
  simp_arith [jaj,s1 _ _ el,List.length_map]
  have e : allB ts ns = decide ((2 : Int) ≤ (ns.length : Int)):=by
   unfold allB
   rw [hpw,show pwB ts [] = true from rfl,Bool.true_and]
   by_cases c : 2 ≤ ns.length
   ·rw [decide_eq_true c,decide_eq_true (by omega)]
   ·rw [decide_eq_false c,decide_eq_false (by omega)]
  rw [e] at h
  exact h _ s1
theorem jmo {f : Addr} {fd : FuncData}  (B : Blt mg) (D : DefAt K mg "is_ring" (top 26) ["nears","places"] f fd) : FnOk P w K mg base CX0 1 f fd ["nears","places"] jln:=by
 have sc : FnScope ["nears","places","behind"] ["nears","places"] (ja9 (top 26)):=⟨rfl,rfl,rfl,by decide +kernel,rfl,by decide +kernel,by decide +kernel⟩
 refine D.F.ok sc (fun vs H Q E h=>?_) (fun cdv A outer s H vs Q E hr h=>?_)
 ·obtain ⟨d,l,ps,ts,ns,rfl,_⟩:=h
  rfl
 obtain ⟨d,l,ps,ts,ns,rfl,nr,hnd,el,hin,hl9,h⟩:=h
 have hu:=jb8 hr
 have hu0 : _ < PySem.cLine:=Nat.lt_of_succ_lt hu
 refine ⟨_,(ja3 (jay (PW.pt (jid (jan q_lt (jad jci rfl B.len PySem.boot_len (ja0 (qv 1) ja2)) ja4 (jak _)) (jid (jan q_eq (jai jgz (jad jci rfl B.len PySem.boot_len (ja0 (qv 1) ja2)) ja4) ja4 (jak _)) (jgd (jan q_ne (jad jpp rfl B.len PySem.boot_len (ja0 (jc9 (jr8 hr.hd) rfl B.set PyProof.Rows.boot_set (ja0 (qv 1) ja2)) ja2)) (jad jci rfl B.len PySem.boot_len (ja0 (qv 1) ja2)) (jak _)))))) (ja7 (jae je1)) jag) (ja3 (jah (i:=2) sc.nd rfl (Or.inl rfl) (jai jev (jb0 jdt (qv 1) (jbf ja4) jbh) (jb0 jdt (qv 1) jbh (jbf ja4)))) (ja7 (jae (jad (q_all rfl) rfl B.all PyProof.Rows.boot_all (ja0 (jgi (CpScope.of (N:=["one","other","nears"]) (src:=[none,none,some 0]) (by rfl)) rfl (jre rfl B.zip (ja0 (qv 1) (ja0 (qv 2) ja2))) (fun _ _ _ _=>(jc3 (n:=2) rfl (jaf (jac (i:=0) (jb7 (l:=["one","other","nears"]) (by rfl)) rfl (Or.inl rfl)) (jaf (jac (i:=1) (jb7 (l:=["one","other","nears"]) (by rfl)) rfl (Or.inl rfl)) jbg)))) (fun _ _ _ _=>jgg) (fun _ _ _ _=>(jbs jr9 (qv 1) (jef hu (qv 2) (qv 0) (fun _ _=>rfl)) (by with_unfolding_all rfl)))) ja2)))))),?_⟩
 refine jaa fun R hR=>?_
 have hodd : ((ns.length : Int) % 2 = 0) ↔ ¬ (ns.length % 2 = 1):=by omega
 have out : (decide (3 ≤ ns.length) && decide (ns.length % 2 = 1) && decide ns.Nodup) = false→jff ts ns = false:=fun z=>by unfold jff; rw [z,Bool.false_and]
 simp_arith [jaj,el,List.length_map]
 by_cases c1 : ns.length < 3
 ·rw [decide_eq_true (show (ns.length : Int) < 3 by omega)]
  walk_at "RD"
  rw [out (by rw [decide_eq_false (by omega),Bool.false_and,Bool.false_and])] at h
  exact h H (Same.refl _)
 rw [decide_eq_false (show ¬ (ns.length : Int) < 3 by omega)]
 walk_at "RD"
 refine ⟨by decide,?_⟩
 rcases (Classical.em (ns.length % 2 = 1)).symm with c2 | c2
 ·rw [decide_eq_true (hodd.mpr c2)]
  walk_at "RD"
  rw [out (by rw [decide_eq_false c2,Bool.and_false,Bool.false_and])] at h
  exact h H (Same.refl _)
 rw [decide_eq_false (fun z=>hodd.mp z c2)]
 walk_at "RD"
 refine ⟨l,ns,rfl,el,by omega,fun p hp=>?_⟩
 have s1:=ja5 hp (.set (fun k=>(PyProof.Rows.firstMet (fun i=>ns.getD i 0) ns.length).any (· == k)) (dedN ns))
 have es : upd H p (.set (fun k=>(PyProof.Rows.firstMet (fun i=>ns.getD i 0) ns.length).any (· == k)) (dedN ns)) p = some (.set (fun k=>(PyProof.Rows.firstMet (fun i=>ns.getD i 0) ns.length).any (· == k)) (dedN ns)):=ja1
 generalize upd H p (.set (fun k=>(PyProof.Rows.firstMet (fun i=>ns.getD i 0) ns.length).any (· == k)) (dedN ns)) = H1 at s1 es
 simp_arith [jl7,es,jaj,s1 _ _ el,List.length_map]
 rcases (Classical.em ns.Nodup).symm with c3 | c3
 ·have hne : ¬ (dedN ns = ns.length):=fun z=>c3 ((joz ns).mp z)
  rw [decide_eq_false (show ¬ ((dedN ns : Int) = (ns.length : Int)) by omega)]
  walk_at "RD"
  rw [out (by rw [decide_eq_false c3,Bool.and_false])] at h
  exact h H1 s1
 rw [decide_eq_true (show ((dedN ns : Int) = (ns.length : Int)) by rw [(joz ns).mpr c3])]
 walk_at "RD"
 subst hR
 refine jaa fun R hR=>?_
 simp_arith [s1 _ _ el]
 intro p2 hp2
 rw [show (1 : Int) = ((1 : Nat) : Int) from rfl,jk7 (by omega)]
 have s2:=s1.trans (ja5 hp2 (.lst ((ns.drop 1).map V.int)))
 have e2 : upd H1 p2 (.lst ((ns.drop 1).map V.int)) p2 = some (.lst ((ns.drop 1).map V.int)):=ja1
 generalize upd H1 p2 (.lst ((ns.drop 1).map V.int)) = H2 at s2 e2
 simp_arith [s2 _ _ el]
 intro p3 hp3
 rw [jrz (by omega)]
 have s3:=s2.trans (ja5 hp3 (.lst ((ns.take 1).map V.int)))
 have e3 : upd H2 p3 (.lst ((ns.take 1).map V.int)) p3 = some (.lst ((ns.take 1).map V.int)):=ja1
 have e2':=ja5 hp3 (.lst ((ns.take 1).map V.int)) _ _ e2
 generalize upd H2 p3 (.lst ((ns.take 1).map V.int)) = H3 at s3 e3 e2'
 simp_arith [e2',e3]
 refine ⟨by rw [List.length_map,List.length_map,List.length_take,List.length_drop]; exact szl (by omega),fun p4 hp4=>?_⟩
 rw [← List.map_append]
 generalize hbs : ns.drop 1 ++ ns.take 1 = bs
 have hbl : bs.length = ns.length:=by rw [← hbs,List.length_append,List.length_take,List.length_drop]; omega
 have s4:=s3.trans (ja5 hp4 (.lst (bs.map V.int)))
 have e4 : upd H3 p4 (.lst (bs.map V.int)) p4 = some (.lst (bs.map V.int)):=ja1
 generalize upd H3 p4 (.lst (bs.map V.int)) = H4 at s4 e4
 walk_at "RD"
 subst hR
 walk_at "RD"
 refine jby (Itz true K l p4) H4 (fun R hR=>?_) (fun z hz0=>jcy ns.length (fun i σ' Hc=>∃ w1 w2,σ' = [w1,w2,some (.ref d)]∧Same H4 Hc∧Hc z = some (.lst ((((ns.zip bs).take i).map fun p=>decide (p.2 ∈ jaz ts p.1)).map V.bl))) ⟨none,none,rfl,ja5 hz0 _,ja1⟩ ?_ ?_)
 ·unfold iZipE
  walk_at "RD"
  exact ⟨true,l,p4,rfl,⟨_,SqL.of (s4 _ _ el)⟩,⟨_,SqL.of e4⟩,hR⟩
 ·rintro i σ' Hc hi ⟨w1,w2,rfl,s5,ez⟩
  have x1 : (ns.map V.int)[i]? = some (.int ns[i]):=by rw [List.getElem?_map,List.getElem?_eq_getElem hi]; rfl
  have x2 : (bs.map V.int)[i]? = some (.int (bs[i]'(by omega))):=by rw [List.getElem?_map,List.getElem?_eq_getElem (by omega)]; rfl
  have hz : (ns.zip bs)[i]? = some (ns[i],bs[i]'(by omega)):=by
   rw [List.getElem?_zip_eq_some]
   exact ⟨List.getElem?_eq_getElem hi,List.getElem?_eq_getElem (by omega)⟩
  have nm : ns[i] ∈ ps.map (·.1):=hin _ (List.getElem_mem hi)
  generalize ns[i] = n1 at x1 hz nm
  generalize bs[i]'(by omega) = n2 at x2 hz
  have z1 : SqB true K Hc l (ns.map V.int):=SqL.of (s5 _ _ (s4 _ _ el))
  have z2 : SqB true K Hc p4 (bs.map V.int):=SqL.of (s5 _ _ e4)
  refine ⟨⟨_,_,_,_,z1,z2,x1,x2⟩,?_⟩
  rintro x H' ⟨t,y1,y2,ht,rfl,rfl,g1,g2⟩
  have E1 : V.int n1 = y1:=Option.some.inj (x1.symm.trans (g1 _ z1))
  have E2 : V.int n2 = y2:=Option.some.inj (x2.symm.trans (g2 _ z2))
  subst E1 E2
  have s6:=s5.trans (ja5 ht (.tup [.int n1,.int n2]))
  have e6 : upd Hc t (.tup [.int n1,.int n2]) t = some (.tup [.int n1,.int n2]):=ja1
  have ez6:=ja5 ht (.tup [.int n1,.int n2]) _ _ ez
  generalize upd Hc t (.tup [.int n1,.int n2]) = H6 at s6 e6 ez6
  obtain ⟨as,a,q1,q2,q3⟩:=(nr.same (s4.trans s6)).get hnd nm
  simp_arith [e6,q1,q2,q3,jaj,jdo,flat_ints,jcx]
  refine ⟨_,ez6,?_,_,_,rfl,jc5 s6 hz0,?_⟩
  ·rw [List.length_map,List.length_map,List.length_take]
   exact szl' (by omega)
  ·rw [jbo hz,List.map_append,List.map_append]
   first | rfl | exact ja1
 ·rintro σ' Hc ⟨w1,w2,rfl,s5,ez⟩
  refine ⟨⟨_,_,SqL.of (s5 _ _ (s4 _ _ el)),SqL.of (s5 _ _ e4),.inl (by rw [List.length_map]; exact Nat.le_refl _)⟩,?_⟩
  rw [List.take_of_length_le (by rw [List.length_zip]; omega)] at ez
  simp_arith [ez]
  refine ⟨_,rfl,?_⟩
  have e : (((ns.zip bs).map fun p=>decide (p.2 ∈ jaz ts p.1)).all id) = jff ts ns:=by
   unfold jff
   rw [decide_eq_true (show 3 ≤ ns.length by omega),decide_eq_true c2,decide_eq_true c3,hbs,List.all_map]
   rfl
  rw [e]
  exact h _ (s4.trans s5)
end
end My
namespace My
open PySem L2
section
variable {P : Program} {w : World} {K : PySem.W.Frag} {mg : Str→Option Value} {base : Heap} {c1 c2 c3 c4 : Tok} {C_NoWeb f_NoWeb : Addr} {dI : FuncData}
noncomputable def jfk : List Dt→List Int
 | .int n :: r=>n :: jfk r
 | _ :: r=>jfk r
 | []=>[]
theorem jc1 : ∀ (ns : List Int),jfk (ns.map Dt.int) = ns
 | []=>rfl
 | n :: r=>by rw [List.map_cons,jfk,jc1 r]
noncomputable def jl6 (ps : List (Int × Int)) : Dt→Bool
 | .int n=>decide (n ∈ ps.map (·.1))
 | _=>false
theorem jrq {ps : List (Int × Int)} {as : List Addr} (hl : as.length = ps.length) : isPl (kz ps as) = jl6 ps:=by
 funext d
 cases d with
 | int n=>exact kz_has hl
 | _=>rfl
noncomputable def rowT (ps ts : List (Int × Int)) : Dt→Dt→Dt→Bool
 | .str w,.lst ds,.int a=>decide (1 ≤ a) && (ds.all (jl6 ps) && (if w = (("all" : String) : Str) then allB ts (jfk ds) else decide (w = (("ring" : String) : Str)) && jff ts (jfk ds)))
 | _,_,_=>false
noncomputable def rowB (ps ts : List (Int × Int)) : Dt→Bool
 | .tup [a,b,c]=>rowT ps ts a b c
 | _=>false
theorem jj7 {ps : List (Int × Int)} : ∀ {ds : List Dt},ds.all (jl6 ps) = true→∃ ns : List Int,ds = ns.map Dt.int∧∀ n ∈ ns,n ∈ ps.map (·.1)
 | [],_=>⟨[],rfl,fun _ h=>by cases h⟩
 | d :: ds,h=>by
  rw [List.all_cons,Bool.and_eq_true] at h
  obtain ⟨ns,rfl,q⟩:=jj7 h.2
  cases d with
  | int n=>exact ⟨n :: ns,rfl,fun m hm=>by
    rcases List.mem_cons.mp hm with rfl | hm
    ·exact of_decide_eq_true h.1
    ·exact q m hm⟩
  | _=>cases h.1
theorem jed {H : Hp} : ∀ {ns : List Int} {xs : List V},Reps H (ns.map Dt.int) xs→xs = ns.map V.int
 | [],_,h=>by rw [List.map_nil,Reps] at h; subst h; rfl
 | n :: ns,_,h=>by
  rw [List.map_cons,Reps] at h
  obtain ⟨v,r,rfl,h1,h2⟩:=h
  rw [Rep] at h1
  subst h1
  rw [jed h2]
  rfl
theorem jpl {ps ts : List (Int × Int)} {ds : List Dt} (h : ds.length ≠ 3) : rowB ps ts (.tup ds) = false:=by
 match ds,h with
 | [],_=>rfl
 | [_],_=>rfl
 | [_,_],_=>rfl
 | [_,_,_],h=>exact absurd rfl h
 | _ :: _ :: _ :: _ :: _,_=>rfl
noncomputable def jnj : Sp:=fun vs H Q _=>∃ nd ps ts x d,vs = [.ref nd,x]∧NrAt H nd ps ts∧(ps.map (·.1)).Nodup∧Rep H d x∧(∀ a b c,d = .tup [a,.lst b,c]→b.length ≤ 900)∧∀ H',Same H H'→Q (.bl (rowB ps ts d)) H'
theorem jo8 {f : Addr} {fd : FuncData} {f_is_tuple_of : Addr} {d_is_tuple_of : FuncData} {f_is_whole : Addr} {d_is_whole : FuncData} {f_are_places : Addr} {d_are_places : FuncData} {f_is_all : Addr} {d_is_all : FuncData} {f_is_ring : Addr} {d_is_ring : FuncData} (B : Blt mg) (D : DefAt K mg "is_row" (top 27) ["nears","thing"] f fd) (D_is_tuple_of : DefAt K mg "is_tuple_of" (top 7) ["thing","many"] f_is_tuple_of d_is_tuple_of) (G_is_tuple_of : FnOk P w K mg base CX0 1 f_is_tuple_of d_is_tuple_of ["thing","many"] je8) (D_is_whole : DefAt K mg "is_whole" (top 6) ["thing"] f_is_whole d_is_whole) (G_is_whole : FnOk P w K mg base CX0 1 f_is_whole d_is_whole ["thing"] ji5) (D_are_places : DefAt K mg "are_places" (top 21) ["prices","things"] f_are_places d_are_places) (G_are_places : FnOk P w K mg base CX0 3 f_are_places d_are_places ["prices","things"] jqp) (D_is_all : DefAt K mg "is_all" (top 25) ["nears","places"] f_is_all d_is_all) (G_is_all : FnOk P w K mg base CX0 1 f_is_all d_is_all ["nears","places"] jnk) (D_is_ring : DefAt K mg "is_ring" (top 26) ["nears","places"] f_is_ring d_is_ring) (G_is_ring : FnOk P w K mg base CX0 1 f_is_ring d_is_ring ["nears","places"] jln) : FnOk P w K mg base CX0 4 f fd ["nears","thing"] jnj:=by
 have sc : FnScope ["nears","thing"] ["nears","thing"] (ja9 (top 27)):=⟨rfl,rfl,rfl,by decide +kernel,rfl,by decide +kernel,by decide +kernel⟩
 refine D.F.ok sc (fun vs H Q E h=>?_) (fun cdv A outer s H vs Q E hr h=>?_)
 ·obtain ⟨nd,ps,ts,x,d,rfl,_⟩:=h
  rfl
 obtain ⟨nd,ps,ts,x,d,rfl,nr,hnd,hd,h9,h⟩:=h
 have hu:=jb8 hr
 have hu0 : _ < PySem.cLine:=Nat.lt_of_succ_lt hu
 refine ⟨_,(ja3 (jay (PW.pt (jid (jbw (jbq (jab G_is_tuple_of (hr.mono (by decide)) rfl D_is_tuple_of.m D_is_tuple_of.F.kp D_is_tuple_of.b .nil jaq (ja0 (qv 1) (ja0 ja4 ja2))))) (jid (jbw (jbq (jad (jjm .str) rfl B.isinstance PyProof.Rows.boot_isinstance (ja0 (jal q_ix (qv 1) ja4 (fun _ _=>rfl)) (ja0 (jd9 (v:=.ty "str") rfl B.str PyProof.Rows.boot_str rfl) ja2))))) (jgd (jbw (jbq (jad (jjm .lst) rfl B.isinstance PyProof.Rows.boot_isinstance (ja0 (jal q_ix (qv 1) ja4 (fun _ _=>rfl)) (ja0 (jd9 (v:=.ty "list") rfl B.list PyProof.Rows.boot_list rfl) ja2))))))))) (ja7 (jae je1)) jag) (ja3 (jay (PW.pt (jid (jbw (jbq (jab G_is_whole (hr.mono (by decide)) rfl D_is_whole.m D_is_whole.F.kp D_is_whole.b .nil jaq (ja0 (jal q_ix (qv 1) ja4 (fun _ _=>rfl)) ja2)))) (jgd (jan q_lt (jal q_ix (qv 1) ja4 (fun _ _=>rfl)) ja4 (jak _))))) (ja7 (jae je1)) jag) (ja3 (jay (jbw (jbq (jab G_are_places (hr.mono (by decide)) rfl D_are_places.m D_are_places.F.kp D_are_places.b .nil jaq (ja0 (qv 0) (ja0 (jal q_ix (qv 1) ja4 (fun _ _=>rfl)) ja2))))) (ja7 (jae je1)) jag) (ja3 (jay (jan q_eq (jal q_ix (qv 1) ja4 (fun _ _=>rfl)) jbb (jak _)) (ja7 (jae (jab G_is_all (hr.mono (by decide)) rfl D_is_all.m D_is_all.F.kp D_is_all.b .nil jaq (ja0 (qv 0) (ja0 (jal q_ix (qv 1) ja4 (fun _ _=>rfl)) ja2))))) jag) (ja7 (jae (jew (jbs q_eq (jal q_ix (qv 1) ja4 (fun _ _=>rfl)) jbb (jak _)) (jdw (jab G_is_ring (hr.mono (by decide)) rfl D_is_ring.m D_is_ring.F.kp D_is_ring.b .nil jaq (ja0 (qv 0) (ja0 (jal q_ix (qv 1) ja4 (fun _ _=>rfl)) ja2))))))))))),?_⟩
 refine jaa fun R hR=>?_
 walk_at "RD"
 refine ⟨x,d,3,rfl,hd,?_⟩
 have no : tupB 3 d = false→rowB ps ts d = false:=fun z=>by
  cases d with
  | tup ds =>
   refine jpl fun e=>?_
   have : decide ((ds.length : Int) = 3) = true:=decide_eq_true (by omega)
   rw [show tupB 3 (.tup ds) = decide ((ds.length : Int) = 3) from rfl,this] at z
   cases z
  | _=>rfl
 cases htb : tupB 3 d with
 | false =>
  walk_at "RD"
  rw [no htb] at h
  exact h H (Same.refl _)
 | true =>
 clear no
 obtain ⟨d0,d1,d2,rfl⟩ : ∃ d0 d1 d2,d = .tup [d0,d1,d2]:=by
  cases d with
  | tup ds =>
   have e : (ds.length : Int) = 3:=of_decide_eq_true htb
   match ds,e with
   | [a,b,c],_=>exact ⟨a,b,c,rfl⟩
   | [],e=>simp at e
   | [_],e=>simp at e
   | [_,_],e=>simp at e
   | _ :: _ :: _ :: _ :: _,e=>simp at e; omega
  | _=>cases htb
 rw [Rep] at hd
 obtain ⟨a,vs,rfl,ea,rs⟩:=hd
 rw [Reps] at rs
 obtain ⟨v0,r0,rfl,h0,rs⟩:=rs
 rw [Reps] at rs
 obtain ⟨v1,r1,rfl,h1,rs⟩:=rs
 rw [Reps] at rs
 obtain ⟨v2,r2,rfl,h2,rs⟩:=rs
 rw [Reps] at rs
 subst rs
 have k0:=jf9 h0
 have k1:=jf9 h1
 have k2:=jf9 h2
 have fin : rowB ps ts (.tup [d0,d1,d2]) = false→Q (.bl false) H:=fun z=>by
  have:=h H (Same.refl _)
  rw [z] at this
  exact this
 have at2 : ∀ x y z : V,atI [x,y,z] 2 = some z:=fun x y z=>rfl
 have at30 : ∀ x y z : V,atI [x,y,z] 0 = some x:=fun x y z=>rfl
 have at31 : ∀ x y z : V,atI [x,y,z] 1 = some y:=fun x y z=>rfl
 simp_arith [jaj,ea,at30,k0]
 cases d0 with
 | str w =>
  simp_arith [kdD,isi,jaj,ea,at31,k1]
  cases d1 with
  | lst ds =>
   simp_arith [kdD,isi]
   subst hR
   refine jaa fun R hR=>?_
   simp_arith [jaj,ea,at2]
   refine ⟨_,_,rfl,k2,?_⟩
   cases d2 with
   | int n =>
    have h0' : v0 = .str w:=by simpa [Rep] using h0
    have h2' : v2 = .int n:=by simpa [Rep] using h2
    subst h0' h2'
    rw [Rep] at h1
    obtain ⟨l,xs,rfl,el,rx⟩:=h1
    simp_arith [jcz,kdD,jaj,ea,at2]
    by_cases c : n < 1
    ·rw [decide_eq_true c]
     walk_at "RD"
     refine fin ?_
     unfold rowB rowT
     dsimp only
     rw [decide_eq_false (by omega),Bool.false_and]
    ·rw [decide_eq_false c]
     walk_at "RD"
     subst hR
     refine jaa fun R hR=>?_
     simp_arith [jaj,ea,at31]
     obtain ⟨as,e1,hla,nrs⟩:=id nr
     refine ⟨nd,kz ps as,l,ds,xs,rfl,e1,el,rx,h9 _ _ _ rfl,fun H1 s1=>?_⟩
     rw [jrq hla]
     have hrow : rowB ps ts (.tup [.str w,.lst ds,.int n]) = (ds.all (jl6 ps) && (if w = (("all" : String) : Str) then allB ts (jfk ds) else decide (w = (("ring" : String) : Str)) && jff ts (jfk ds))):=by
      unfold rowB rowT
      dsimp only
      rw [decide_eq_true (show (1 : Int) ≤ n by omega),Bool.true_and]
     cases ca : ds.all (jl6 ps) with
     | false =>
      walk_at "RD"
      have:=h H1 s1
      rw [hrow,ca,Bool.false_and] at this
      exact this
     | true =>
      rw [ca,Bool.true_and] at hrow
      obtain ⟨ns,rfl,hin⟩:=jj7 ca
      have exs:=jed rx
      subst exs
      rw [jc1] at hrow
      rw [hrow] at h
      have hl9 : ns.length ≤ 900:=by simpa using h9 _ _ _ rfl
      walk_at "RD"
      subst hR
      refine jaa fun R hR=>?_
      simp_arith [jaj,s1 _ _ ea,at30,at31]
      by_cases cw : w = (("all" : String) : Str)
      ·rw [decide_eq_true cw]
       rw [if_pos cw] at h
       walk_at "RD"
       exact ⟨nd,l,ps,ts,ns,rfl,nr.same s1,hnd,s1 _ _ el,hin,hl9,fun H2 s2=>h H2 (s1.trans s2)⟩
      ·rw [decide_eq_false cw]
       rw [if_neg cw] at h
       walk_at "RD"
       subst hR
       simp_arith [jaj,s1 _ _ ea,at30,at31]
       by_cases cr : w = (("ring" : String) : Str)
       ·rw [decide_eq_true cr] at h ⊢
        rw [Bool.true_and] at h
        walk_at "RD"
        exact ⟨nd,l,ps,ts,ns,rfl,nr.same s1,hnd,s1 _ _ el,hin,hl9,fun H2 s2=>h H2 (s1.trans s2)⟩
       ·rw [decide_eq_false cr] at h ⊢
        rw [Bool.false_and] at h
        walk_at "RD"
        exact h H1 s1
   | _ =>
    simp_arith [jcz,kdD]
    exact fin rfl
  | _ =>
   simp_arith [kdD,isi]
   exact fin rfl
 | _ =>
  simp_arith [kdD,isi]
  exact fin rfl
end
end My
namespace My
open PySem L2
section
variable {P : Program} {w : World} {K : PySem.W.Frag} {mg : Str→Option Value} {base : Heap} {c1 c2 c3 c4 : Tok} {C_NoWeb f_NoWeb : Addr} {dI : FuncData}
theorem szg {n : Nat} (h : n ≤ 1000000) : n < sizeLine:=Nat.lt_of_le_of_lt h (by decide)
theorem jk5 {α : Type} {l : List α} {i : Nat} {x : α} (h : l[i]? = some x) : l.drop i = x :: l.drop (i + 1):=by
 obtain ⟨hi,e⟩:=List.getElem?_eq_some_iff.mp h
 rw [List.drop_eq_getElem_cons hi,e]
noncomputable abbrev Row:=Str × List Int × Int
noncomputable def rowD (r : Row) : Dt:=.tup [.str r.1,.lst (r.2.1.map Dt.int),.int r.2.2]
noncomputable def jb3 (rows : List Row) (n : Int) : Int:=(rows.map fun r=>r.2.2 * (r.2.1.count n : Int)).sum
theorem jmi {rows : List Row} {i : Nat} {r : Row} (h : rows[i]? = some r) (n : Int) : jb3 (rows.take (i + 1)) n = jb3 (rows.take i) n + r.2.2 * (r.2.1.count n : Int):=by
 unfold jb3
 rw [List.take_succ,h,List.map_append,List.sum_append]
 simp
noncomputable def jlm : Sp:=fun vs H Q _=>∃ l xs rows,vs = [.ref l]∧H l = some (.lst xs)∧Reps H (rows.map rowD) xs∧rows.length ≤ 900∧(∀ r ∈ rows,r.2.1.length ≤ 900)∧∀ d kvs H',H d = none→Same H H'→H' d = some (.dK kvs)→(∀ n,(valV kvs (Sum.inl n : Key)).getD (.int 0) = .int (jb3 rows n))→Q (.ref d) H'
noncomputable def ji8 : Dt→Option Row
 | .tup [.str w,.lst ds,.int a]=>some (w,jfk ds,a)
 | _=>none
noncomputable def jcn (ps ts : List (Int × Int)) : Nat→List Dt→Option Nat
 | _,[]=>none
 | k,d :: r=>if rowB ps ts d = true then jcn ps ts (k + 1) r else some k
noncomputable def jd1 (ps ts : List (Int × Int)) : Dt→Option (Option Nat)
 | .lst ds=>if ds.length ≤ 200 then (jcn ps ts 0 ds).map some else some none
 | _=>some none
noncomputable def jg7 : Dt→List Row
 | .lst ds=>ds.filterMap ji8
 | _=>[]
noncomputable def jkn (ps : List (Int × Int)) (rows : List Row) : Option Int:=(ps.find? fun p=>decide (2 * p.2 < jb3 rows p.1)).map (·.1)
noncomputable def jj8 (d : Dt) : Prop:=∀ ds,d = .lst ds→∀ r ∈ ds,∀ a b c,r = .tup [a,.lst b,c]→b.length ≤ 900
theorem jlr {ps ts : List (Int × Int)} {d : Dt} (h : rowB ps ts d = true) : ∃ r : Row,d = rowD r∧ji8 d = some r∧1 ≤ r.2.2∧(∀ n ∈ r.2.1,n ∈ ps.map (·.1)):=by
 unfold rowB at h
 split at h
 ·rename_i a b c
  unfold rowT at h
  split at h
  ·rename_i w ds n
   simp only [Bool.and_eq_true,decide_eq_true_eq] at h
   obtain ⟨h1,h2,_⟩:=h
   obtain ⟨ns,rfl,hin⟩:=jj7 h2
   refine ⟨(w,ns,n),rfl,?_,h1,hin⟩
   show some (w,jfk (ns.map Dt.int),n) = _
   rw [jc1]
  ·cases h
 ·cases h
theorem jdz {ps ts : List (Int × Int)} : ∀ {ds : List Dt} {k : Nat},jcn ps ts k ds = none→ds = (ds.filterMap ji8).map rowD∧∀ r ∈ ds.filterMap ji8,1 ≤ r.2.2∧∀ n ∈ r.2.1,n ∈ ps.map (·.1)
 | [],_,_=>⟨rfl,fun _ h=>by cases h⟩
 | d :: ds,k,h=>by
  rw [jcn] at h
  by_cases c : rowB ps ts d = true
  ·rw [if_pos c] at h
   obtain ⟨e,q⟩:=jdz h
   obtain ⟨r,e1,e2,e3,e4⟩:=jlr c
   rw [List.filterMap_cons,e2]
   dsimp only
   rw [List.map_cons,← e,← e1]
   refine ⟨rfl,fun r' hr=>?_⟩
   rcases List.mem_cons.mp hr with rfl | hr
   ·exact ⟨e3,e4⟩
   ·exact q r' hr
  ·rw [if_neg c] at h
   cases h
noncomputable def RefW (C : Addr) (H : Hp) (E : XK) (d : Dt) : Prop:=∀ w n,jax d = some (w,n)→Ref C H E w n
noncomputable def Ref1 (C : Addr) (H : Hp) (E : XK) (f : Str) (y : V) : Prop:=∀ dx H',H dx = none→Same H H'→H' dx = some (xdO dx [(f,y)])→E (.ref C) (some dx) H'
theorem Ref1.back {C : Addr} {H H1 : Hp} {E : XK} {f : Str} {y : V} (h : Ref1 C H E f y) (s : Same H H1) : Ref1 C H1 E f y:=fun dx H' hd s' e=>h dx H' (s.free hd) (s.trans s') e
noncomputable def jes (CW CR CO : Addr) : Sp:=fun vs H Q E=>∃ v dw u,vs = [v,u]∧Rep H dw v∧RefW CW H E dw∧∀ ps ts,dw = webD ps ts→WebOk ps ts→∃ d,Rep H d u∧jj8 d ∧
 (∀ n,jd1 ps ts d = some n→Ref1 CR H E "number" (nV n))∧(jd1 ps ts d = none→(∀ p,jkn ps (jg7 d) = some p→Ref1 CO H E "place" (.int p))∧(jkn ps (jg7 d) = none→∀ H',Same H H'→Q .non H'))
theorem jh3 {f : Addr} {fd : FuncData} {C_NoRows f_NoRows C_TouchError : Addr} (DI : InitAt K "NoRows.__init__" (meth 3 0) ["self","number"] f fd) (X_NoRows : ClsX K mg "NoRows" C_NoRows f_NoRows) (m_TouchError : mg "TouchError" = some (.ref C_TouchError)) (xi : XI K C_TouchError "ValueError.__init__")
  (hf : PySem.W.findIn K (.ref C_NoRows) "number" = some none) : FnOk P w K mg base CX0 1 f fd ["self","number"] (jg5 C_NoRows "number"):=by
 have sc : FnScope ["self","number"] ["self","number"] (ja9 (meth 3 0)):=⟨rfl,rfl,rfl,by decide +kernel,rfl,by decide +kernel,by decide +kernel⟩
 refine DI.F.ok sc (fun vs H Q E h=>?_) (fun cdv A outer s H vs Q E hr h=>?_)
 ·obtain ⟨a,y,rfl,_⟩:=h
  rfl
 obtain ⟨a,y,rfl,ea,h⟩:=h
 refine ⟨_,(ja3 (jb4 (jih PySem.F.excBase_ValueError xi X_NoRows.xin rfl m_TouchError (ja0 (qv 0) (ja0 (qv 1) ja2)))) (ja7 (jie X_NoRows.a hf (qv 0) (qv 1) rfl))),?_⟩
 simp only [je7,jde,fLeT,fIsB,tSeq,ji1,ji2,tRet,jje,tIfS,tAsg,jf3,fAug,tOp,tUn,tC,fVar,fI,fIC,fNeg,fEq,fNe,fIsN,jgt,fAnd,fOr,fNot,fB,tNot,tAnd,tOr,jeo,fIx,fLen,jdd,fMin,fMax,fInL,fSlL,tSl,jiw,jcs,jcj,fBM,jh8,gSub,jhb,jdx,jha,jk4,jen,jeb,je6,fCat,jfd,fBM0,fSlT,jh9,tCBK,fDIn,jix,fIsi,jdf,jdy,fLtT,ji3,tCB,jg2,tNil,tTup,tLst,tIf,ji0,Kd.nm,L2.start,List.map_cons,List.map_nil,List.length_cons,List.length_nil,Nat.reduceAdd,Nat.reduceSub,List.replicate_succ,List.replicate_zero,List.getElem?_cons_zero,List.getElem?_cons_succ,List.set_cons_zero,List.set_cons_succ,List.append_nil,List.nil_append,List.cons_append,eq_self,true_and,and_true,if_true,Bool.false_eq_true,if_false,Bool.not_true,Bool.not_false,id_eq,sl0,sl1,sl2,sl3,sl4,tXI,sXF]
 refine ⟨a,[y],none,rfl,ea,(by show 1 ≤ sizeLine; decide),?_⟩
 exact ⟨a,rfl,.inl ⟨ea,fun dx hd ne=>h dx hd ne⟩⟩
theorem jfh {f : Addr} {fd : FuncData} {C_Overpaid f_Overpaid C_TouchError : Addr} (DI : InitAt K "Overpaid.__init__" (meth 4 0) ["self","place"] f fd) (X_Overpaid : ClsX K mg "Overpaid" C_Overpaid f_Overpaid) (m_TouchError : mg "TouchError" = some (.ref C_TouchError)) (xi : XI K C_TouchError "ValueError.__init__")
  (hf : PySem.W.findIn K (.ref C_Overpaid) "place" = some none) : FnOk P w K mg base CX0 1 f fd ["self","place"] (jg5 C_Overpaid "place"):=by
 have sc : FnScope ["self","place"] ["self","place"] (ja9 (meth 4 0)):=⟨rfl,rfl,rfl,by decide +kernel,rfl,by decide +kernel,by decide +kernel⟩
 refine DI.F.ok sc (fun vs H Q E h=>?_) (fun cdv A outer s H vs Q E hr h=>?_)
 ·obtain ⟨a,y,rfl,_⟩:=h
  rfl
 obtain ⟨a,y,rfl,ea,h⟩:=h
 refine ⟨_,(ja3 (jb4 (jih PySem.F.excBase_ValueError xi X_Overpaid.xin rfl m_TouchError (ja0 (qv 0) (ja0 (qv 1) ja2)))) (ja7 (jie X_Overpaid.a hf (qv 0) (qv 1) rfl))),?_⟩
 simp only [je7,jde,fLeT,fIsB,tSeq,ji1,ji2,tRet,jje,tIfS,tAsg,jf3,fAug,tOp,tUn,tC,fVar,fI,fIC,fNeg,fEq,fNe,fIsN,jgt,fAnd,fOr,fNot,fB,tNot,tAnd,tOr,jeo,fIx,fLen,jdd,fMin,fMax,fInL,fSlL,tSl,jiw,jcs,jcj,fBM,jh8,gSub,jhb,jdx,jha,jk4,jen,jeb,je6,fCat,jfd,fBM0,fSlT,jh9,tCBK,fDIn,jix,fIsi,jdf,jdy,fLtT,ji3,tCB,jg2,tNil,tTup,tLst,tIf,ji0,Kd.nm,L2.start,List.map_cons,List.map_nil,List.length_cons,List.length_nil,Nat.reduceAdd,Nat.reduceSub,List.replicate_succ,List.replicate_zero,List.getElem?_cons_zero,List.getElem?_cons_succ,List.set_cons_zero,List.set_cons_succ,List.append_nil,List.nil_append,List.cons_append,eq_self,true_and,and_true,if_true,Bool.false_eq_true,if_false,Bool.not_true,Bool.not_false,id_eq,sl0,sl1,sl2,sl3,sl4,tXI,sXF]
 refine ⟨a,[y],none,rfl,ea,(by show 1 ≤ sizeLine; decide),?_⟩
 exact ⟨a,rfl,.inl ⟨ea,fun dx hd ne=>h dx hd ne⟩⟩
theorem jmk {f : Addr} {fd : FuncData}  (B : Blt mg) (D : DefAt K mg "paid_by" (top 28) ["rows"] f fd) : FnOk P w K mg base CX0 1 f fd ["rows"] jlm:=by
 have sc : FnScope ["rows","paid","word","places","amount","place"] ["rows"] (ja9 (top 28)):=⟨rfl,rfl,rfl,by decide +kernel,rfl,by decide +kernel,by decide +kernel⟩
 refine D.F.ok sc (fun vs H Q E h=>?_) (fun cdv A outer s H vs Q E hr h=>?_)
 ·obtain ⟨l,xs,rows,rfl,_⟩:=h
  rfl
 obtain ⟨l,xs,rows,rfl,el,rx,hl2,hw9,h⟩:=h
 have hlx : xs.length = rows.length:=by rw [rx.len,List.length_map]
 have hu:=jb8 hr
 have hu0 : _ < PySem.cLine:=Nat.lt_of_succ_lt hu
 refine ⟨_,(ja3 (jah (i:=1) sc.nd rfl (Or.inl rfl) jij) (ja3 (jbi PassesOwn.never rfl (jb5 (qv 0)) (jc3 (n:=3) rfl (jaf (jac (i:=2) sc.nd rfl (Or.inl rfl)) (jaf (jac (i:=3) sc.nd rfl (Or.inl rfl)) (jaf (jac (i:=4) sc.nd rfl (Or.inl rfl)) jbg)))) (ja7 (jbi PassesOwn.never rfl (jb5 (qv 3)) (jac (i:=5) sc.nd rfl (Or.inl rfl)) (ja7 (jnt hu (qv 1) (qv 5) (jai jbv (jic hu (qv 1) (qv 5) ja4) (qv 4))))))) (ja7 (jae (qv 1))))),?_⟩
 walk_at "RD"
 intro d hd
 have s0:=ja5 hd (.dK [])
 have ed : upd H d (.dK []) d = some (.dK []):=ja1
 generalize upd H d (.dK []) = H0 at s0 ed
 refine jav (Itl K l) H0 (fun R hR=>?_) (jbe (K:=K) (a:=l) (xs:=xs) (fun i σ H1=>∃ v1 v2 v3 v4 kvs,σ = [some (.ref l),some (.ref d),v1,v2,v3,v4]∧Same H H1∧H1 d = some (.dK kvs)∧kvs.length ≤ 900 * i∧∀ n,(valV kvs (Sum.inl n : Key)).getD (.int 0) = .int (jb3 (rows.take i) n)) ⟨none,none,none,none,[],rfl,s0,ed,by simp,fun n=>rfl⟩ (fun i σ H1 _ ⟨_,_,_,_,_,_,s1,_⟩=>SqL.of (s1 _ _ el)) ?_ ?_)
 ·unfold jcr
  walk_at "RD"
  exact ⟨l,rfl,⟨_,SqL.of (s0 _ _ el)⟩,hR⟩
 ·rintro i x σ H1 hx ⟨v1,v2,v3,v4,kvs,rfl,s1,ed1,hk1,hv1⟩
  obtain ⟨dt,hdt,rdt⟩:=rx.at hx
  obtain ⟨r,hr1,rfl⟩ : ∃ r,rows[i]? = some r∧dt = rowD r:=by
   rw [List.getElem?_map] at hdt
   cases c : rows[i]? with
   | none=>rw [c] at hdt; cases hdt
   | some r=>rw [c] at hdt; cases hdt; exact ⟨r,rfl,rfl⟩
  have h9:=hw9 r (List.mem_of_getElem? hr1)
  have hil : i < rows.length:=(List.getElem?_eq_some_iff.mp hr1).1
  have rdt1:=Rep.same s1 _ rdt
  unfold rowD at rdt1
  rw [Rep] at rdt1
  obtain ⟨t,vs,rfl,et,rs⟩:=rdt1
  rw [Reps] at rs
  obtain ⟨w0,r0,rfl,q0,rs⟩:=rs
  rw [Reps] at rs
  obtain ⟨w1,r1,rfl,q1,rs⟩:=rs
  rw [Reps] at rs
  obtain ⟨w2,r2,rfl,q2,rs⟩:=rs
  rw [Reps] at rs
  subst rs
  rw [Rep] at q0
  rw [Rep] at q1
  rw [Rep] at q2
  subst q0 q2
  obtain ⟨la,ys,rfl,ela,ry⟩:=q1
  have exs:=jed ry
  subst exs
  obtain ⟨w,ns,am⟩:=r
  dsimp only at h9 ela et ⊢
  simp_arith [et]
  refine jav (Itl K la) H1 (fun R hR=>?_) (jbe (K:=K) (a:=la) (xs:=ns.map V.int) (fun j σ H2=>∃ v4 kv2,σ = [some (.ref l),some (.ref d),some (.str w),some (.ref la),some (.int am),v4]∧Same H H2∧H2 d = some (.dK kv2)∧kv2.length ≤ 900 * i + j∧H2 la = some (.lst (ns.map V.int))∧∀ n,(valV kv2 (Sum.inl n : Key)).getD (.int 0) = .int (jb3 (rows.take i) n + am * ((ns.take j).count n : Int))) ⟨_,kvs,rfl,s1,ed1,by omega,ela,fun n=>by rw [hv1]; simp⟩ (fun j σ H2 _ ⟨_,_,_,_,_,_,e2,_⟩=>SqL.of e2) ?_ ?_)
  ·unfold jcr
   walk_at "RD"
   exact ⟨la,rfl,⟨_,SqL.of ela⟩,hR⟩
  ·rintro j y σ H2 hj ⟨v4',kv2,rfl,s2,ed2,hk2,ela2,hv2⟩
   obtain ⟨n,hn,rfl⟩ : ∃ n,ns[j]? = some n∧y = .int n:=by
    rw [List.getElem?_map] at hj
    cases c : ns[j]? with
    | none=>rw [c] at hj; cases hj
    | some n=>rw [c] at hj; cases hj; exact ⟨n,rfl,rfl⟩
   have hjl : j < ns.length:=(List.getElem?_eq_some_iff.mp hn).1
   simp_arith [ed2,hv2]
   refine ⟨⟨kv2,rfl⟩,?_⟩
   simp_arith [ed2,hv2]
   refine ⟨szg (by omega),_,_,rfl,jc5 s2 hd,ja1,?_,?_,fun m=>?_⟩
   ·have:=jcv kv2 (Sum.inl n : Key) (V.int (jb3 (rows.take i) n + am * ((ns.take j).count n : Int) + am))
    omega
   ·rw [ja8 (fun z=>by rw [z,ed2] at ela2; cases ela2)]
    exact ela2
   ·rw [jle,jbo hn,List.count_append]
    by_cases c : m = n
    ·subst c
     rw [if_pos rfl]
     simp [Int.mul_add]
     omega
    ·rw [if_neg (fun z=>c (Sum.inl.inj z)),hv2 m]
     simp [List.count_cons,Ne.symm c]
  ·rintro σ H2 ⟨v4',kv2,rfl,s2,ed2,hk2,ela2,hv2⟩
   rw [List.length_map] at hk2 hv2
   rw [List.take_length] at hv2
   refine ⟨_,_,_,_,kv2,rfl,s2,ed2,by omega,fun n=>?_⟩
   rw [hv2,jmi hr1]
 ·rintro σ H1 ⟨v1,v2,v3,v4,kvs,rfl,s1,ed1,hk1,hv1⟩
  rw [hlx,List.take_length] at hv1
  walk_at "RD"
  exact h d kvs H1 hd s1 ed1 hv1
end
end My
namespace My
open PySem L2
section
variable {P : Program} {w : World} {K : PySem.W.Frag} {mg : Str→Option Value} {base : Heap} {c1 c2 c3 c4 : Tok} {C_NoWeb f_NoWeb : Addr} {dI : FuncData}
theorem jow {α : Type} {f : α→Bool} {l : List α} {i : Nat} {x : α} (h : l[i]? = some x) : (l.drop i).find? f = if f x = true then some x else (l.drop (i + 1)).find? f:=by
 rw [jk5 h,List.find?_cons]
 cases f x <;> rfl
theorem jgm {f : Addr} {fd : FuncData} {f_look_at_web : Addr} {d_look_at_web : FuncData} {f_is_list_up_to : Addr} {d_is_list_up_to : FuncData} {f_nears_in : Addr} {d_nears_in : FuncData} {f_is_row : Addr} {d_is_row : FuncData} {f_paid_by : Addr} {d_paid_by : FuncData} (B : Blt mg) (D : DefAt K mg "look_at_rows" (top 29) ["web","thing"] f fd) (D_look_at_web : DefAt K mg "look_at_web" (top 19) ["thing"] f_look_at_web d_look_at_web) (G_look_at_web : FnOk P w K mg base (CXE P w) 5 f_look_at_web d_look_at_web ["thing"] (spLW C_NoWeb)) (D_is_list_up_to : DefAt K mg "is_list_up_to" (top 9) ["thing","most"] f_is_list_up_to d_is_list_up_to) (G_is_list_up_to : FnOk P w K mg base CX0 1 f_is_list_up_to d_is_list_up_to ["thing","most"] jdj) (D_nears_in : DefAt K mg "nears_in" (top 22) ["web"] f_nears_in d_nears_in) (G_nears_in : FnOk P w K mg base CX0 1 f_nears_in d_nears_in ["web"] jea) (D_is_row : DefAt K mg "is_row" (top 27) ["nears","thing"] f_is_row d_is_row) (G_is_row : FnOk P w K mg base CX0 4 f_is_row d_is_row ["nears","thing"] jnj) (D_paid_by : DefAt K mg "paid_by" (top 28) ["rows"] f_paid_by d_paid_by) (G_paid_by : FnOk P w K mg base CX0 1 f_paid_by d_paid_by ["rows"] jlm) {C_NoRows f_NoRows C_Overpaid f_Overpaid : Addr} {dN dO : FuncData} {c5 : Tok} (hMR : mg "MOST_ROWS" = some (.int 200 c5)) (X_NoRows : ClsX K mg "NoRows" C_NoRows f_NoRows) (DI_NoRows : InitAt K "NoRows.__init__" (meth 3 0) ["self","number"] f_NoRows dN) (GI_NoRows : FnOk P w K mg base CX0 1 f_NoRows dN ["self","number"] (jg5 C_NoRows "number")) (X_Overpaid : ClsX K mg "Overpaid" C_Overpaid f_Overpaid) (DI_Overpaid : InitAt K "Overpaid.__init__" (meth 4 0) ["self","place"] f_Overpaid dO) (GI_Overpaid : FnOk P w K mg base CX0 1 f_Overpaid dO ["self","place"] (jg5 C_Overpaid "place")) : FnOk P w K mg base (CXE P w) 6 f fd ["web","thing"] (jes C_NoWeb C_NoRows C_Overpaid):=by
 have sc : FnScope ["web","thing","nears","number","row","paid","place","price"] ["web","thing"] (ja9 (top 29)):=⟨rfl,rfl,rfl,by decide +kernel,rfl,by decide +kernel,by decide +kernel⟩
 refine D.F.okX sc (fun vs H Q E h=>?_) (fun cdv A outer s H vs Q E hr h=>?_)
 ·obtain ⟨v,dw,u,rfl,_⟩:=h
  rfl
 obtain ⟨v,dw,u,rfl,hdw,hrw,h⟩:=h
 have hu:=jb8 hr
 have hu0 : _ < PySem.cLine:=Nat.lt_of_succ_lt hu
 refine ⟨_,(ja3 (jb4 (jeg G_look_at_web (hr.mono (by decide)) rfl D_look_at_web.m D_look_at_web.F.kp D_look_at_web.b .nil (jmh ⟨rfl,rfl,rfl,fun _=>rfl⟩) (ja0 (qv 0) ja2))) (ja3 (jay (jbw (jbq (jab G_is_list_up_to (hr.mono (by decide)) rfl D_is_list_up_to.m D_is_list_up_to.F.kp D_is_list_up_to.b .nil jaq (ja0 (qv 1) (ja0 (jgh (v:=.int 200) rfl hMR ⟨_,rfl⟩) ja2))))) (ja7 (jcg PySem.F.excBase_ValueError X_NoRows.xin X_NoRows.fn GI_NoRows DI_NoRows.b (hr.mono (by decide)) rfl X_NoRows.m X_NoRows.kp ⟨rfl,rfl,rfl,fun _=>rfl⟩ jjb (ja0 jd0 ja2))) jag) (ja3 (jah (i:=2) sc.nd rfl (Or.inl rfl) (jab G_nears_in (hr.mono (by decide)) rfl D_nears_in.m D_nears_in.F.kp D_nears_in.b .nil jaq (ja0 (qv 0) ja2))) (ja3 (jif ⟨rfl,rfl,rfl,fun _=>rfl⟩ rfl (jig rfl B.enumerate (ja0 (qv 1) ja2)) (jc3 (n:=2) rfl (jaf (jac (i:=3) sc.nd rfl (Or.inl rfl)) (jaf (jac (i:=4) sc.nd rfl (Or.inl rfl)) jbg))) (ja7 (jay (jbw (jbq (jab G_is_row (hr.mono (by decide)) rfl D_is_row.m D_is_row.F.kp D_is_row.b .nil jaq (ja0 (qv 2) (ja0 (qv 4) ja2))))) (ja7 (jcg PySem.F.excBase_ValueError X_NoRows.xin X_NoRows.fn GI_NoRows DI_NoRows.b (hr.mono (by decide)) rfl X_NoRows.m X_NoRows.kp ⟨rfl,rfl,rfl,fun _=>rfl⟩ jjb (ja0 (qv 3) ja2))) jag))) (ja3 (jah (i:=5) sc.nd rfl (Or.inl rfl) (jab G_paid_by (hr.mono (by decide)) rfl D_paid_by.m D_paid_by.F.kp D_paid_by.b .nil jaq (ja0 (qv 1) ja2))) (ja7 (jif ⟨rfl,rfl,rfl,fun _=>rfl⟩ rfl (jb5 (jal q_ix (qv 0) ja4 (fun _ _=>rfl))) (jc3 (n:=2) rfl (jaf (jac (i:=6) sc.nd rfl (Or.inl rfl)) (jaf (jac (i:=7) sc.nd rfl (Or.inl rfl)) jbg))) (ja7 (jay (jan q_gt (jic hu (qv 5) (qv 6) ja4) (jai jgy ja4 (qv 7)) (jak _)) (ja7 (jcg PySem.F.excBase_ValueError X_Overpaid.xin X_Overpaid.fn GI_Overpaid DI_Overpaid.b (hr.mono (by decide)) rfl X_Overpaid.m X_Overpaid.kp ⟨rfl,rfl,rfl,fun _=>rfl⟩ jjb (ja0 (qv 6) ja2))) jag))))))))),?_⟩
 refine jaa fun R hR=>?_
 walk_at "RD"
 refine ⟨v,dw,rfl,hdw,fun e H1 s1=>?_,hrw⟩
 obtain ⟨ps,ts,rfl,wok⟩:=jky e
 obtain ⟨d,hd,fit,hN,hO⟩:=h ps ts rfl wok
 have hw:=jr2 hdw
 have hnd:=wok.p.nodup
 obtain ⟨xv,pa,ta,xs,ys,rfl,ex,ep,et,pp,pt⟩:=id hw
 have hlx : xs.length = ps.length:=Paired.length pp
 subst hR
 refine jaa fun R hR=>?_
 walk_at "RD"
 refine ⟨u,d,200,rfl,Rep.same s1 _ hd,?_⟩
 have hnl : lstB 200 d = false→jd1 ps ts d = some none:=fun z=>by
  cases d with
  | lst ds =>
   unfold jd1
   dsimp only
   rw [if_neg fun hl=>?_]
   rw [show lstB 200 (.lst ds) = decide ((ds.length : Int) ≤ 200) from rfl,decide_eq_true (by omega)] at z
   cases z
  | _=>rfl
 cases hb : lstB 200 d with
 | false =>
  have hr2:=(hN none (hnl hb)).back s1
  simp_arith [jd6]
  exact fun y hy=>jnr hy hr2
 | true =>
 clear hnl
 obtain ⟨ds,rfl⟩ : ∃ ds,d = .lst ds:=by
  cases d with
  | lst ds=>exact ⟨ds,rfl⟩
  | _=>cases hb
 have h200 : ds.length ≤ 200:=by
  have : (ds.length : Int) ≤ 200:=of_decide_eq_true hb
  omega
 rw [Rep] at hd
 obtain ⟨l,zs,rfl,el,rz⟩:=hd
 have hlz : zs.length = ds.length:=rz.len
 have en : jd1 ps ts (.lst ds) = (jcn ps ts 0 ds).map some:=by
  unfold jd1
  dsimp only
  rw [if_pos h200]
 walk_at "RD"
 subst hR
 refine jaa fun R hR=>?_
 walk_at "RD"
 refine ⟨_,ps,ts,rfl,hw.same s1,wok,fun nd as H2 hnd0 s2 end2 hla hnr=>?_⟩
 have s12:=s1.trans s2
 have nr2 : NrAt H2 nd ps ts:=⟨as,end2,hla,hnr⟩
 clear end2 hla hnr
 walk_at "RD"
 subst hR
 refine jaa fun R hR=>?_
 walk_at "RD"
 refine ⟨l,rfl,⟨_,SqL.of (s12 _ _ el)⟩,jfu (K:=K) (a:=l) (xs:=zs) (fun i σ H3=>∃ v1 v2,σ = [some (.ref xv),some (.ref l),some (.ref nd),v1,v2,none,none,none]∧Same H2 H3∧jcn ps ts 0 ds = jcn ps ts i (ds.drop i)) ⟨none,none,rfl,Same.refl _,rfl⟩ (fun i σ H3 _ ⟨_,_,_,s3,_⟩=>SqL.of (s3 _ _ (s12 _ _ el))) ?_ ?_⟩
 ·rintro i x σ H3 t hi ⟨v1,v2,rfl,s3,hrb⟩ ht
  obtain ⟨dt,hdt,rdt⟩:=rz.at hi
  have s34:=s3.trans (ja5 ht (.tup [.int i,x]))
  have s14:=s12.trans s34
  simp_arith [ja1]
  generalize upd H3 t (.tup [.int i,x]) = H4 at s34 s14
  refine ⟨nd,ps,ts,x,dt,rfl,nr2.same s34,hnd,Rep.same s14 _ rdt,fun a b c ez=>fit ds rfl dt (List.mem_of_getElem? hdt) a b c ez,fun H5 s5=>?_⟩
  rw [jk5 hdt,jcn] at hrb
  cases hc : rowB ps ts dt with
  | true =>
   rw [if_pos hc] at hrb
   walk_at "RD"
   exact ⟨_,_,rfl,s34.trans s5,hrb⟩
  | false =>
   rw [if_neg (by rw [hc]; decide)] at hrb
   have hr2:=(hN (some i) (by rw [en,hrb]; rfl)).back (s14.trans s5)
   simp_arith [jd6]
   exact fun y hy=>jnr hy hr2
 rintro σ H3 ⟨v1,v2,rfl,s3,hrb⟩
 rw [hlz,List.drop_length] at hrb
 have hrb0 : jcn ps ts 0 ds = none:=hrb
 obtain ⟨eds,hrows⟩:=jdz hrb0
 obtain ⟨hO1,hO2⟩:=hO (by rw [en,hrb0]; rfl)
 have s13:=s12.trans s3
 generalize hrs : ds.filterMap ji8 = rows at eds hrows
 have hrd : jg7 (.lst ds) = rows:=hrs
 rw [hrd] at hO1 hO2
 walk_at "RD"
 subst hR
 refine jaa fun R hR=>?_
 walk_at "RD"
 refine ⟨l,zs,rows,rfl,s13 _ _ el,by rw [← eds]; exact Reps.same s13 _ rz,?_,fun r hr=>?_,fun pd kvs H4 hpd s4 epd hpv=>?_⟩
 ·rw [← hrs]
  exact Nat.le_trans (List.length_filterMap_le _ _) (by omega)
 ·have hm : rowD r ∈ ds:=by rw [eds]; exact List.mem_map_of_mem hr
  have:=fit ds rfl (rowD r) hm _ _ _ rfl
  simpa using this
 have s14:=s13.trans s4
 walk_at "RD"
 subst hR
 refine jav (Itl K pa) H4 (fun R hR=>?_) (jbe (K:=K) (a:=pa) (xs:=xs) (fun i σ H5=>∃ v3 v4,σ = [some (.ref xv),some (.ref l),some (.ref nd),v1,v2,some (.ref pd),v3,v4]∧Same H4 H5∧jkn ps rows = (((ps.drop i).find? fun p=>decide (2 * p.2 < jb3 rows p.1)).map (·.1))) ⟨none,none,rfl,Same.refl _,rfl⟩ (fun i σ H5 _ ⟨_,_,_,s5,_⟩=>SqL.of (s5 _ _ (s14 _ _ ep))) ?_ ?_)
 ·unfold jcr
  simp_arith [jaj,s14 _ _ ex,at0]
  exact ⟨pa,rfl,⟨_,SqL.of (s14 _ _ ep)⟩,hR⟩
 ·rintro i x σ H5 hx ⟨v3,v4,rfl,s5,hov⟩
  obtain ⟨p,hpi,px⟩:=jam pp hx
  have s15:=s14.trans s5
  obtain ⟨t,rfl,ht⟩:=px.same s15
  have epd5:=s5 _ _ epd
  rw [jow hpi] at hov
  simp_arith [ht,epd5,hpv]
  refine ⟨⟨kvs,rfl⟩,?_⟩
  simp_arith [epd5,hpv]
  refine ⟨.inl ⟨by decide,by decide⟩,?_⟩
  by_cases c : 2 * p.2 < jb3 rows p.1
  ·rw [decide_eq_true (show jb3 rows p.1 > 2 * p.2 from c)]
   rw [if_pos (decide_eq_true c)] at hov
   have hr2:=(hO1 p.1 hov).back s15
   simp_arith [jd6]
   exact fun y hy=>jnr hy hr2
  ·rw [decide_eq_false (show ¬ jb3 rows p.1 > 2 * p.2 from c)]
   rw [if_neg (by rw [decide_eq_false c]; decide)] at hov
   walk_at "RD"
   exact ⟨_,_,rfl,s5,hov⟩
 ·rintro σ H5 ⟨v3,v4,rfl,s5,hov⟩
  rw [hlx,List.drop_length] at hov
  exact hO2 hov _ (s14.trans s5)
end
end My
namespace My
open PySem L2
section
variable {P : Program} {w : World} {K : PySem.W.Frag} {mg : Str→Option Value} {base : Heap} {c1 c2 c3 c4 : Tok} {C_NoWeb f_NoWeb : Addr} {dI : FuncData}
theorem putK_new {κ : Type} [DecidableEq κ] : ∀ {kvs : List (κ × V)} {k : κ} {v : V},k ∉ kvs.map (·.1)→putK kvs k v = kvs ++ [(k,v)]
 | [],k,v,_=>by simp [putK]
 | (a,b) :: r,k,v,h=>by
  have h1 : k ≠ a:=fun z=>h (by rw [z]; exact .head _)
  have h2 : k ∉ r.map (·.1):=fun z=>h (.tail _ z)
  have ih:=putK_new (v:=v) h2
  unfold putK at ih ⊢
  simp only [List.any_cons,List.map_cons,List.cons_append]
  first
   | (split at ih <;> split <;> simp_all)
   | simp_all
theorem jkt {f : Addr} {fd : FuncData}  (B : Blt mg) (D : DefAt K mg "_law_near" (top 40) ["_law_web_here"] f fd) : FnOk P w K mg base CX0 1 f fd ["_law_web_here"] jea:=by
 have sc : FnScope ["_law_web_here","_law_book","_law_place","_law_price","_law_one","_law_other"] ["_law_web_here"] (ja9 (top 40)):=⟨rfl,rfl,rfl,by decide +kernel,rfl,by decide +kernel,by decide +kernel⟩
 refine D.F.ok sc (fun vs H Q E h=>?_) (fun cdv A outer s H vs Q E hr h=>?_)
 ·obtain ⟨v,ps,ts,rfl,_⟩:=h
  rfl
 obtain ⟨v,ps,ts,rfl,hw,wok,h⟩:=h
 obtain ⟨x,pa,ta,xs,ys,rfl,ex,ep,et,pp,pt⟩:=id hw
 have hlx : xs.length = ps.length:=Paired.length pp
 have hly : ys.length = ts.length:=Paired.length pt
 have okl:=wok.pl
 have okt:=wok.tl
 have hnd:=wok.p.nodup
 have hu:=jb8 hr
 have hu0 : _ < PySem.cLine:=Nat.lt_of_succ_lt hu
 refine ⟨_,(ja3 (jah (i:=1) sc.nd rfl (Or.inl rfl) jij) (ja3 (jbi PassesOwn.never rfl (jb5 (jal q_ix (qv 0) ja4 (fun _ _=>rfl))) (jc3 (n:=2) rfl (jaf (jac (i:=2) sc.nd rfl (Or.inl rfl)) (jaf (jac (i:=3) sc.nd rfl (Or.inl rfl)) jbg))) (ja7 (jnt hu (qv 1) (qv 2) (jas ja2)))) (ja3 (jbi PassesOwn.never rfl (jb5 (jal q_ix (qv 0) ja4 (fun _ _=>rfl))) (jc3 (n:=2) rfl (jaf (jac (i:=4) sc.nd rfl (Or.inl rfl)) (jaf (jac (i:=5) sc.nd rfl (Or.inl rfl)) jbg))) (ja3 (jb4 (q_bm PySem.F.plainAttrs_list PySem.F.slot_list_append PySem.F.type_list_append jbr (jef hu (qv 1) (qv 4) (fun _ _=>rfl)) (ja0 (qv 5) ja2))) (ja7 (jb4 (q_bm PySem.F.plainAttrs_list PySem.F.slot_list_append PySem.F.type_list_append jbr (jef hu (qv 1) (qv 5) (fun _ _=>rfl)) (ja0 (qv 4) ja2)))))) (ja7 (jae (qv 1)))))),?_⟩
 refine jaa fun R hR=>?_
 walk_at "RD"
 intro d hd0
 have s0:=ja5 hd0 (.dK [])
 have ed0 : upd H d (.dK []) d = some (.dK []):=ja1
 generalize upd H d (.dK []) = H0 at s0 ed0
 try subst hR
 refine jaa fun R hR=>?_
 refine jav (Itl K pa) H0 (fun R' hR'=>?_) (jbe (K:=K) (a:=pa) (xs:=xs) (fun i σ H1=>∃ v1 v2 as,σ = [some (.ref x),some (.ref d),v1,v2,none,none]∧Same H H1∧H1 d = some (.dK (kz (ps.take i) as))∧as.length = i∧as.Nodup∧∀ a ∈ as,H a = none∧a ≠ d∧H1 a = some (.lst [])) ⟨none,none,[],rfl,s0,ed0,rfl,List.nodup_nil,fun _ h=>by cases h⟩ (fun i σ H1 _ ⟨_,_,_,_,s1,_⟩=>SqL.of (s1 _ _ ep)) ?_ ?_)
 ·unfold jcr
  simp_arith [jaj,s0 _ _ ex,at0]
  exact ⟨pa,rfl,⟨_,SqL.of (s0 _ _ ep)⟩,hR'⟩
 ·rintro i y σ H1 hi ⟨v1,v2,as,rfl,s1,ed1,hla,nda,ha⟩
  obtain ⟨q,hq,pq⟩:=jam pp hi
  obtain ⟨t,rfl,ht⟩:=pq.same s1
  have hil : i < ps.length:=(List.getElem?_eq_some_iff.mp hq).1
  have hlt : (ps.take i).length = as.length:=by rw [List.length_take]; omega
  simp_arith [ht]
  intro a1 ha1
  have nd1 : d ≠ a1:=ja6 ed1 ha1
  simp_arith [ja8 nd1,ed1]
  have hkl : (kz (ps.take i) as).length = i:=by
   have e:=congrArg List.length (jf2 hlt)
   rw [List.length_map,List.length_map,List.length_take] at e
   omega
  have hnk : (Sum.inl q.1 : Key) ∉ (kz (ps.take i) as).map (·.1):=by
   rw [jf2 hlt]
   intro z
   obtain ⟨p,hp,e⟩:=List.mem_map.mp z
   have e' : p.1 = q.1:=Sum.inl.inj e
   obtain ⟨k,hk,e2⟩:=List.mem_iff_getElem.mp hp
   have hk2 : k < i:=by rw [List.length_take] at hk; omega
   have g1 : ps[k]? = some p:=by
    rw [List.getElem_take] at e2
    rw [List.getElem?_eq_getElem (by omega),e2]
   have h1 : (ps.map (·.1))[k]? = some p.1:=by rw [List.getElem?_map,g1]; rfl
   have h2 : (ps.map (·.1))[i]? = some q.1:=by rw [List.getElem?_map,hq]; rfl
   exact jc7 hnd h1 h2 (by omega) e'
  refine ⟨szl' (by omega),_,_,as ++ [a1],rfl,jc5 (s1.trans (ja5 ha1 _)) hd0,?_,by rw [List.length_append,hla]; rfl,?_,fun a hm=>?_⟩
  ·rw [ja1,putK_new hnk,jbo hq,jl5 hlt]
  ·rw [List.nodup_append]
   refine ⟨nda,(by simp),fun a hm b hb=>?_⟩
   have hb' : b = a1:=by simpa using hb
   intro z
   rw [hb'] at z
   have:=(ha a hm).2.2
   rw [z,ha1] at this
   cases this
  ·rcases List.mem_append.mp hm with hm | hm
   ·obtain ⟨q1,q2,q3⟩:=ha a hm
    refine ⟨q1,q2,?_⟩
    rw [ja8 q2]
    exact ja5 ha1 _ _ _ q3
   ·have e : a = a1:=by simpa using hm
    subst e
    refine ⟨s1.free ha1,nd1.symm,?_⟩
    rw [ja8 nd1.symm,ja1]
 rintro σ H2 ⟨w3,w4,as,rfl,s23,ed,hla,nda,ha3⟩
 rw [hlx,List.take_length] at ed
 rw [hlx] at hla
 walk_at "RD"
 subst hR
 refine jaa fun R hR=>?_
 refine jav (Itl K ta) H2 (fun R hR=>?_) (jbe (K:=K) (a:=ta) (xs:=ys) (fun j σ H3=>∃ v1 v2,σ = [some (.ref x),some (.ref d),w3,w4,v1,v2]∧Same H H3∧H3 d = some (.dK (kz ps as))∧jqe H3 ps (ts.take j) as) ⟨none,none,rfl,s23,ed,fun i p a _ h2=>(ha3 a (List.mem_of_getElem? h2)).2.2⟩ (fun i σ H3 _ ⟨_,_,_,s3,_⟩=>SqL.of (s3 _ _ et)) ?_ ?_)
 ·unfold jcr
  simp_arith [jaj,s23 _ _ ex,at1]
  exact ⟨ta,rfl,⟨_,SqL.of (s23 _ _ et)⟩,hR⟩
 ·rintro j y σ H3 hj ⟨v1,v2,rfl,s3,ed3,hN⟩
  obtain ⟨q,hq,pq⟩:=jam pt hj
  obtain ⟨t,rfl,ht⟩:=pq.same s3
  obtain ⟨b1,b2,b3⟩:=wok.t.ats q (List.mem_of_getElem? hq)
  obtain ⟨i1,p1,g1,e1⟩:=jem b2
  obtain ⟨i2,p2,g2,e2⟩:=jem b3
  have hi1 : i1 < as.length:=by have:=(List.getElem?_eq_some_iff.mp g1).1; omega
  have hi2 : i2 < as.length:=by have:=(List.getElem?_eq_some_iff.mp g2).1; omega
  have A1 : as[i1]? = some as[i1]:=List.getElem?_eq_getElem hi1
  have A2 : as[i2]? = some as[i2]:=List.getElem?_eq_getElem hi2
  generalize as[i1] = a1 at A1
  generalize as[i2] = a2 at A2
  have V1:=jhs hnd g1 A1
  have V2:=jhs hnd g2 A2
  have n12 : i1 ≠ i2:=fun z=>by rw [z,g2] at g1; cases g1; omega
  have na : a1 ≠ a2:=jc7 nda A1 A2 n12
  rw [e1] at V1
  rw [e2] at V2
  have M1:=hN i1 p1 a1 g1 A1
  have M2:=hN i2 p2 a2 g2 A2
  have hlj : ∀ n,(jaz (ts.take j) n).length ≤ 120:=fun n=>Nat.le_trans (jej _ _) (by rw [List.length_take]; omega)
  have nd1 : d ≠ a1:=((ha3 a1 (List.mem_of_getElem? A1)).2.1).symm
  have nd2 : d ≠ a2:=((ha3 a2 (List.mem_of_getElem? A2)).2.1).symm
  simp_arith [ht,ed3,V1]
  refine ⟨⟨a1,_,rfl,M1⟩,?_⟩
  simp_arith [M1]
  refine ⟨szl' (by rw [List.length_map]; have:=hlj p1.1; omega),?_⟩
  simp_arith [ja8 nd1,ed3,V2]
  refine ⟨⟨a2,_,rfl,(by rw [ja8 na.symm]; exact M2)⟩,?_⟩
  simp_arith [ja8 na.symm,M2]
  refine ⟨szl' (by rw [List.length_map]; have:=hlj p2.1; omega),_,_,rfl,?_,?_,?_⟩
  ·intro b o hb
   rw [ja8 (ja6 hb (ha3 a2 (List.mem_of_getElem? A2)).1),ja8 (ja6 hb (ha3 a1 (List.mem_of_getElem? A1)).1)]
   exact s3 b o hb
  ·rw [ja8 nd2,ja8 nd1]
   exact ed3
  ·intro i p a hp ha'
   rw [jho hq,List.map_append]
   have hpe : ∀ {k : Nat} {r : Int × Int},ps[k]? = some r→r.1 = p.1→k = i:=fun {k r} hr he=>by
    have h1 : (ps.map (·.1))[k]? = some r.1:=by rw [List.getElem?_map,hr]; rfl
    have h2 : (ps.map (·.1))[i]? = some p.1:=by rw [List.getElem?_map,hp]; rfl
    by_cases z : k = i
    ·exact z
    ·exact absurd he (jc7 hnd h1 h2 z)
   by_cases c2 : i = i2
   ·subst c2
    rw [g2] at hp
    cases hp
    rw [A2] at ha'
    cases ha'
    have e3 : nr p2.1 q = [q.1]:=by
     unfold nr
     rw [if_neg (by omega),if_pos e2.symm]
    rw [ja1,e3]
    rfl
   by_cases c1 : i = i1
   ·subst c1
    rw [g1] at hp
    cases hp
    rw [A1] at ha'
    cases ha'
    have e3 : nr p1.1 q = [q.2]:=by
     unfold nr
     rw [if_pos e1.symm]
    rw [ja8 na,ja1,e3]
    rfl
   have n1 : a ≠ a1:=jc7 nda ha' A1 c1
   have n2 : a ≠ a2:=jc7 nda ha' A2 c2
   have e3 : nr p.1 q = []:=by
    unfold nr
    rw [if_neg (fun z=>c1 (hpe g1 (e1.trans z)).symm),if_neg (fun z=>c2 (hpe g2 (e2.trans z)).symm)]
   rw [ja8 n2,ja8 n1,e3,List.map_nil,List.append_nil]
   exact hN i p a hp ha'
 ·rintro σ H3 ⟨v1,v2,rfl,s3,ed3,hN⟩
  rw [hly,List.take_length] at hN
  walk_at "RD"
  try subst hR
  walk_at "RD"
  exact h d as H3 hd0 s3 ed3 hla hN
end
end My
namespace My
open PySem L2
section
variable {P : Program} {w : World} {K : PySem.W.Frag} {mg : Str→Option Value} {base : Heap} {c1 c2 c3 c4 : Tok} {C_NoWeb f_NoWeb : Addr} {dI : FuncData}
theorem jfp {ts : List (Int × Int)} (h : ∀ t ∈ ts,t.1 < t.2) {n m : Int} : m ∈ jaz ts n ↔ (n,m) ∈ ts ∨ (m,n) ∈ ts:=by
 unfold jaz
 rw [List.mem_flatMap]
 constructor
 ·rintro ⟨t,ht,hm⟩
  unfold nr at hm
  split at hm
  ·rename_i e
   rw [List.mem_singleton] at hm
   refine .inl ?_
   rw [← e,hm]
   exact ht
  ·split at hm
   ·rename_i e
    rw [List.mem_singleton] at hm
    refine .inr ?_
    rw [← e,hm]
    exact ht
   ·cases hm
 ·rintro (ht | ht)
  ·exact ⟨_,ht,by unfold nr; rw [if_pos rfl]; exact .head _⟩
  ·have:=h _ ht
   exact ⟨_,ht,by unfold nr; rw [if_neg (by show ¬ m = n; intro z; subst z; exact absurd this (Int.lt_irrefl _)),if_pos rfl]; exact .head _⟩
theorem joi {ts : List (Int × Int)} (h : ∀ t ∈ ts,t.1 < t.2) {n m : Int} (q : m ∈ jaz ts n) : n ∈ jaz ts m:=(jfp h).mpr ((jfp h).mp q).symm
theorem jpz {ts : List (Int × Int)} (h : ∀ t ∈ ts,t.1 < t.2) {n : Int} : n ∉ jaz ts n:=fun q=>by
 rcases (jfp h).mp q with z | z <;> exact absurd (h _ z) (Int.lt_irrefl _)
theorem je2 {α : Type} {f : α→Bool} {l : List α} {i : Nat} {x : α} (h : l[i]? = some x) : (l.take (i + 1)).filter f = (l.take i).filter f ++ (if f x = true then [x] else []):=by
 rw [List.take_succ,h,List.filter_append]
 show _ ++ List.filter f [x] = _
 rw [List.filter_cons]
 rfl
structure Clq (ts : List (Int × Int)) (fs : List Int) : Prop where
 nd : fs.Nodup
 all : ∀ a ∈ fs,∀ b ∈ fs,a ≠ b→b ∈ jaz ts a
theorem Clq.one {ts : List (Int × Int)} (n : Int) : Clq ts [n]:=⟨by simp,fun a ha b hb ne=>by rw [List.mem_singleton] at ha hb; exact absurd (ha.trans hb.symm) ne⟩
theorem Clq.snoc {ts : List (Int × Int)} {fs : List Int} {n : Int} (ht : ∀ t ∈ ts,t.1 < t.2) (h : Clq ts fs) (q : ∀ m ∈ fs,m ∈ jaz ts n) : Clq ts (fs ++ [n]):=by
 have hn : n ∉ fs:=fun z=>jpz ht (q n z)
 refine ⟨?_,fun a ha b hb ne=>?_⟩
 ·rw [List.nodup_append]
  exact ⟨h.nd,by simp,fun a ha b hb=>by rw [List.mem_singleton] at hb; rw [hb]; exact fun z=>hn (z ▸ ha)⟩
 ·rcases List.mem_append.mp ha with ha1 | ha1 <;> rcases List.mem_append.mp hb with hb1 | hb1
  ·exact h.all a ha1 b hb1 ne
  ·rw [List.mem_singleton] at hb1
   subst hb1
   exact joi ht (q a ha1)
  ·rw [List.mem_singleton] at ha1
   subst ha1
   exact q b hb1
  ·rw [List.mem_singleton] at ha1 hb1
   exact absurd (ha1.trans hb1.symm) ne
theorem Clq.perm {ts : List (Int × Int)} {fs gs : List Int} (h : Clq ts fs) (p : gs.Perm fs) : Clq ts gs:=⟨p.nodup_iff.mpr h.nd,fun a ha b hb ne=>h.all a (p.mem_iff.mp ha) b (p.mem_iff.mp hb) ne⟩
theorem Clq.pw {ts : List (Int × Int)} : ∀ {fs : List Int},Clq ts fs→fs.Pairwise (· ≤ ·)→pwB ts fs = true
 | [],_,_=>rfl
 | n :: r,h,p=>by
  rw [List.pairwise_cons] at p
  have hn:=List.nodup_cons.mp h.nd
  rw [pwB,Bool.and_eq_true,List.all_eq_true]
  refine ⟨fun m hm=>?_,Clq.pw ⟨hn.2,fun a ha b hb ne=>h.all a (.tail _ ha) b (.tail _ hb) ne⟩ p.2⟩
  have ne : n ≠ m:=fun z=>hn.1 (z ▸ hm)
  have:=p.1 m hm
  rw [Bool.and_eq_true,decide_eq_true_eq,decide_eq_true_eq]
  exact ⟨by omega,h.all n (.head _) m (.tail _ hm) ne⟩
theorem jhp {H : Hp} {a st : Addr} {ns : List Int} {o : HO} (ha : H a = some (.lst (ns.map V.int))) (hs : H st = some o) (so : StO o) : a ≠ st:=fun z=>by
 obtain ⟨c,s,f,rfl,_⟩:=so
 rw [z,hs] at ha
 injection ha with ha
 injection ha with ha
 match ns,ha with
 | [_,_,_],ha=>simp at ha
theorem NrAt.but {H H' : Hp} {d st : Addr} {o : HO} {ps ts : List (Int × Int)} (h : NrAt H d ps ts) (hs : H st = some o) (so : StO o) (b : But st H H') : NrAt H' d ps ts:=by
 obtain ⟨as,e,l,n⟩:=h
 refine ⟨as,b _ _ (fun z=>?_) e,l,fun i p a h1 h2=>b _ _ (jhp (n i p a h1 h2) hs so) (n i p a h1 h2)⟩
 obtain ⟨_,_,_,rfl,_⟩:=so
 rw [z,hs] at e
 cases e
theorem jiz {ns : List Int} : eqP (.lst (ns.map Dt.int)) (.lst []) = decide (ns = []):=by
 cases ns with
 | nil=>rfl
 | cons a r=>rw [eqP]; rfl
theorem jgw : ∀ (ns : List Int),depP (.lst (ns.map Dt.int)) ≤ 20:=fun ns=>by
 have : ∀ ns : List Int,jck (ns.map Dt.int) = 0:=fun ns=>by
  induction ns with
  | nil=>rfl
  | cons a r ih=>rw [List.map_cons,jck,ih]; rfl
 rw [depP,this]
 omega
theorem jnp {H : Hp} : ∀ (ns : List Int),Reps H (ns.map Dt.int) (ns.map V.int)
 | []=>by rw [List.map_nil,Reps]; rfl
 | n :: r=>by
  rw [List.map_cons,List.map_cons,Reps]
  exact ⟨_,_,rfl,by rw [Rep],jnp r⟩
theorem jcf {H : Hp} {a : Addr} {ns : List Int} (e : H a = some (.lst (ns.map V.int))) : Rep H (.lst (ns.map Dt.int)) (.ref a):=by
 rw [Rep]
 exact ⟨a,_,rfl,e,jnp ns⟩
theorem jj6 {ns : List Int} {k : Int} (h0 : 0 ≤ k) (h1 : k < ns.length) : ∃ n,atI (ns.map V.int) k = some (.int n)∧n ∈ ns:=by
 obtain ⟨i,rfl⟩ : ∃ i : Nat,k = (i : Int):=⟨k.toNat,by omega⟩
 have hi : i < ns.length:=by omega
 refine ⟨ns[i],jbk ?_,List.getElem_mem hi⟩
 rw [List.getElem?_map,List.getElem?_eq_getElem hi]
 rfl
noncomputable def jjg : Sp:=fun vs H Q _=>∃ st o nd lp ps ts,vs = [.ref st,.ref nd,.ref lp]∧H st = some o∧StO o∧NrAt H nd ps ts∧WebOk ps ts∧H lp = some (.lst ((ps.map (·.1)).map V.int))∧ps ≠ [] ∧
 ∀ l ns H' o',But st H H'→H' st = some o'→StO o'→H l = none→l ≠ st→H' l = some (.lst (ns.map V.int))→(∀ n ∈ ns,n ∈ ps.map (·.1))→pwB ts ns = true→ns.Nodup→ns.length ≤ 20→Q (.ref l) H'
theorem jmn {f : Addr} {fd : FuncData} {f_law_take : Addr} {d_law_take : FuncData} (B : Blt mg) (D : DefAt K mg "_law_all" (top 41) ["_law_state","_law_book","_law_places_here"] f fd) (D_law_take : DefAt K mg "_law_take" (top 37) ["_law_state","_law_many"] f_law_take d_law_take) (G_law_take : FnOk P w K mg base CX0 1 f_law_take d_law_take ["_law_state","_law_many"] je9) : FnOk P w K mg base CX0 2 f fd ["_law_state","_law_book","_law_places_here"] jjg:=by
 have sc : FnScope ["_law_state","_law_book","_law_places_here","_law_found","_law_turn","_law_some","_law_place"] ["_law_state","_law_book","_law_places_here"] (ja9 (top 41)):=⟨rfl,rfl,rfl,by decide +kernel,rfl,by decide +kernel,by decide +kernel⟩
 refine D.F.ok sc (fun vs H Q E h=>?_) (fun cdv A outer s H vs Q E hr h=>?_)
 ·obtain ⟨st,o,nd,lp,ps,ts,rfl,_⟩:=h
  rfl
 obtain ⟨st,o,nd,lp,ps,ts,rfl,es,so,nr,wok,elp,hne,h⟩:=h
 have hnd:=wok.p.nodup
 have hpl:=wok.pl
 have htt : ∀ t ∈ ts,t.1 < t.2:=fun t ht=>(wok.t.ats t ht).1
 generalize hqs : ps.map (·.1) = qs at *
 have hql : qs.length = ps.length:=by rw [← hqs,List.length_map]
 have hq1 : 1 ≤ qs.length:=by
  rw [hql]
  cases ps with
  | nil=>exact absurd rfl hne
  | cons _ _=>simp
 have nlp:=jhp elp es so
 have NR : ∀ {H2 : Hp},But st H H2→NrAt H2 nd ps ts:=fun b=>nr.but es so b
 have LP : ∀ {H2 : Hp},But st H H2→H2 lp = some (.lst (qs.map V.int)):=fun b=>b _ _ nlp elp
 have hu:=jb8 hr
 have hu0 : _ < PySem.cLine:=Nat.lt_of_succ_lt hu
 refine ⟨_,(ja3 (jah (i:=3) sc.nd rfl (Or.inl rfl) (jas (ja0 (jal q_ix (qv 2) (jab G_law_take (hr.mono (by decide)) rfl D_law_take.m D_law_take.F.kp D_law_take.b .nil jaq (ja0 (qv 0) (ja0 (jad jci rfl B.len PySem.boot_len (ja0 (qv 2) ja2)) ja2))) (fun _ _=>rfl)) ja2))) (ja3 (jbi PassesOwn.never rfl (jco rfl B.range (ja0 (jai jbv ja4 (jab G_law_take (hr.mono (by decide)) rfl D_law_take.m D_law_take.F.kp D_law_take.b .nil jaq (ja0 (qv 0) (ja0 ja4 ja2)))) ja2)) (jac (i:=4) sc.nd rfl (Or.inl rfl)) (ja3 (jah (i:=5) sc.nd rfl (Or.inl rfl) (jas ja2)) (ja3 (jbi PassesOwn.never rfl (jb5 (qv 2)) (jac (i:=6) sc.nd rfl (Or.inr rfl)) (ja7 (jay (jan (jo7 hr.units) (jgi (CpScope.of (N:=["_law_other","_law_book","_law_place"]) (src:=[none,some 1,some 6]) (by rfl)) rfl (jb5 (qv 3)) (fun _ _ _ _=>(jac (i:=0) (jb7 (l:=["_law_other","_law_book","_law_place"]) (by rfl)) rfl (Or.inl rfl))) (fun _ _ _ _=>(jo0 (jan jib (qv 0) (jef hu (qv 1) (qv 2) (fun _ _=>rfl)) (by with_unfolding_all rfl)))) (fun _ _ _ _=>(qv 0))) (jas ja2) (jak _)) (ja7 (jb4 (q_bm PySem.F.plainAttrs_list PySem.F.slot_list_append PySem.F.type_list_append jbr (qv 5) (ja0 (qv 6) ja2)))) jag))) (ja7 (jay (jan (jjq hr.units) (qv 5) (jas ja2) (jak _)) (ja7 (jb4 (q_bm PySem.F.plainAttrs_list PySem.F.slot_list_append PySem.F.type_list_append jbr (qv 3) (ja0 (jal q_ix (qv 5) (jab G_law_take (hr.mono (by decide)) rfl D_law_take.m D_law_take.F.kp D_law_take.b .nil jaq (ja0 (qv 0) (ja0 (jad jci rfl B.len PySem.boot_len (ja0 (qv 5) ja2)) ja2))) (fun _ _=>rfl)) ja2)))) jag))))) (ja7 (jae (jad jn2 rfl B.sorted PyProof.Rows.boot_sorted (ja0 (qv 3) ja2)))))),?_⟩
 refine jaa fun R hR=>?_
 simp_arith [jaj,elp,List.length_map]
 refine ⟨st,o,_,rfl,es,so,by omega,by omega,fun k0 o1 k00 k01 so1=>?_⟩
 have b1 : But st H (upd H st o1):=But.at st H o1
 have e1 : upd H st o1 st = some o1:=ja1
 generalize upd H st o1 = H1 at b1 e1
 obtain ⟨n0,a0,hn0⟩:=jj6 (ns:=qs) k00 (by omega)
 simp_arith [jaj,LP b1,a0]
 intro fl hfl
 have nfl : fl ≠ st:=(ja6 e1 hfl).symm
 have hfl0 : H fl = none:=by
  cases q : H fl with
  | none=>rfl
  | some u=>rw [b1 _ _ nfl q] at hfl; cases hfl
 have s2:=ja5 hfl (.lst [.int n0])
 have ef2 : upd H1 fl (.lst [.int n0]) fl = some (.lst ([n0].map V.int)):=ja1
 have e2:=s2 _ _ e1
 have b2 : But st H (upd H1 fl (.lst [.int n0])):=fun b u nb q=>s2 _ _ (b1 _ _ nb q)
 generalize upd H1 fl (.lst [.int n0]) = H2 at ef2 e2 b2
 try subst hR
 refine jaa fun R hR=>?_
 refine jcm (ι:=Int × HO) (fun i0=>Itr 0 (1 + i0.1).toNat) (fun i0=>upd H2 st i0.2) (fun i0=>0 ≤ i0.1∧i0.1 < 4∧StO i0.2) (fun R' hR'=>?_) (fun i0 ok0=>?_)
 ·unfold jmy
  walk_at "RD"
  exact ⟨st,o1,4,rfl,e2,so1,by decide,by decide,fun k1 o2 k10 k11 so2=>⟨_,rfl,by omega,by omega,hR' (k1,o2) ⟨k10,k11,so2⟩⟩⟩
 obtain ⟨k1,o2⟩:=i0
 obtain ⟨k10,k11,so2⟩:=ok0
 dsimp only at k10 k11 so2
 have b3 : But st H (upd H2 st o2):=b2.trans (But.at st H2 o2)
 have e3 : upd H2 st o2 st = some o2:=ja1
 have ef3:=But.at st H2 o2 _ _ nfl ef2
 refine jcc (n:=(1 + k1).toNat) (fun i σ H3=>∃ v1 v2 v3 fs o3,σ = [some (.ref st),some (.ref nd),some (.ref lp),some (.ref fl),v1,v2,v3]∧But st H H3∧H3 st = some o3∧StO o3∧H3 fl = some (.lst (fs.map V.int))∧(∀ n ∈ fs,n ∈ qs)∧Clq ts fs∧fs.length ≤ 1 + i) ⟨none,none,none,[n0],o2,rfl,b3,e3,so2,ef3,fun n hn=>by rw [List.mem_singleton.mp hn]; exact hn0,Clq.one n0,by simp⟩ ?_ ?_
 ·rintro i σ H3 hi ⟨v1,v2,v3,fs,o3,rfl,b3,e3,so3,ef3,hfs,clq,hfl3⟩
  have hi5 : i < 5:=by omega
  refine jaa fun R2 hR2=>?_
  walk_at "RD"
  intro sl hsl
  have nsl : sl ≠ st:=(ja6 e3 hsl).symm
  have nfs : fl ≠ sl:=ja6 ef3 hsl
  have hsl0 : H sl = none:=by
   cases q : H sl with
   | none=>rfl
   | some u=>rw [b3 _ _ nsl q] at hsl; cases hsl
  have s4:=ja5 hsl (.lst [])
  have es4 : upd H3 sl (.lst []) sl = some (.lst (([] : List Int).map V.int)):=ja1
  have e4:=s4 _ _ e3
  have ef4:=s4 _ _ ef3
  have b4 : But st H (upd H3 sl (.lst [])):=fun b u nb q=>s4 _ _ (b3 _ _ nb q)
  generalize upd H3 sl (.lst []) = H4 at es4 e4 ef4 b4
  try subst hR2
  refine jaa fun R2 hR2=>?_
  refine jav (Itl K lp) H4 (fun R' hR'=>?_) (jbe (K:=K) (a:=lp) (xs:=qs.map V.int) (fun j σ H5=>∃ v3 ms,σ = [some (.ref st),some (.ref nd),some (.ref lp),some (.ref fl),some (.int (0 + (i : Int))),some (.ref sl),v3]∧But st H H5∧H5 st = some o3∧H5 fl = some (.lst (fs.map V.int))∧H5 sl = some (.lst (ms.map V.int))∧ms.length ≤ j∧∀ m ∈ ms,m ∈ qs∧∀ n ∈ fs,n ∈ jaz ts m) ⟨_,[],rfl,b4,e4,ef4,es4,by simp,fun _ h=>by cases h⟩ (fun j σ H5 _ ⟨_,_,_,b5,_⟩=>SqL.of (LP b5)) ?_ ?_)
  ·unfold jcr
   walk_at "RD"
   exact ⟨lp,rfl,⟨_,SqL.of (LP b4)⟩,hR'⟩
  ·rintro j x σ H5 hj ⟨v3',ms,rfl,b5,e5,ef5,esl5,hml,hms⟩
   obtain ⟨n,hn,rfl⟩ : ∃ n,qs[j]? = some n∧x = .int n:=by
    rw [List.getElem?_map] at hj
    cases c : qs[j]? with
    | none=>rw [c] at hj; cases hj
    | some n=>rw [c] at hj; cases hj; exact ⟨n,rfl,rfl⟩
   have hnq : n ∈ qs:=List.mem_of_getElem? hn
   have hjl : j < qs.length:=(List.getElem?_eq_some_iff.mp hn).1
   walk_at "RD"
   refine jby (Itl K fl) H5 (fun R' hR'=>?_) (fun z hz0=>jcy fs.length (fun t σ' Hc=>∃ w1,σ' = [w1,some (.ref nd),some (.int n)]∧Same H5 Hc∧Hc z = some (.lst (((fs.take t).filter fun m=>!decide (m ∈ jaz ts n)).map V.int))) ⟨none,rfl,ja5 hz0 _,ja1⟩ ?_ ?_)
   ·unfold jcr
    walk_at "RD"
    exact ⟨fl,rfl,⟨_,SqL.of ef5⟩,hR'⟩
   ·rintro t σ' Hc ht ⟨w1,rfl,s6,ez⟩
    have x1 : (fs.map V.int)[t]? = some (.int fs[t]):=by rw [List.getElem?_map,List.getElem?_eq_getElem ht]; rfl
    have x2 : fs[t]? = some fs[t]:=List.getElem?_eq_getElem ht
    generalize fs[t] = m at x1 x2
    have z1 : SqL K Hc fl (fs.map V.int):=SqL.of (s6 _ _ ef5)
    refine ⟨⟨_,_,z1,x1⟩,?_⟩
    rintro y H' ⟨rfl,hy⟩
    have E1 : V.int m = y:=Option.some.inj (x1.symm.trans (hy _ z1))
    subst E1
    obtain ⟨as,a,g1,g2,g3⟩:=((NR b5).same s6).get (by rw [hqs]; exact hnd) (by rw [hqs]; exact hnq)
    have ft:=je2 (f:=fun m=>!decide (m ∈ jaz ts n)) x2
    simp_arith [jaj,g1,g2,g3,jdo,flat_ints,jcx]
    rw [ft]
    by_cases c : m ∈ jaz ts n
    ·simp only [c,decide_true,Bool.not_true,Bool.false_eq_true,if_false,if_true,List.append_nil]
     exact ⟨_,rfl,s6,ez⟩
    ·simp only [c,decide_false,Bool.not_false,if_true]
     refine ⟨_,ez,?_,_,rfl,jc5 s6 hz0,?_⟩
     ·rw [List.length_map]
      exact szl' (Nat.le_trans (List.length_filter_le _ _) (by rw [List.length_take]; omega))
     ·rw [ja1,List.map_append]
      rfl
   ·rintro σ' Hc ⟨w1,rfl,s6,ez⟩
    refine ⟨⟨_,SqL.of (s6 _ _ ef5),by rw [List.length_map]; exact Nat.le_refl _⟩,?_⟩
    rw [List.take_length] at ez
    intro p hp
    have s7:=s6.trans (ja5 hp (.lst []))
    have ez7:=ja5 hp (.lst []) _ _ ez
    have ep7 : upd Hc p (.lst []) p = some (.lst (([] : List Int).map V.int)):=ja1
    generalize upd Hc p (.lst []) = H7 at s7 ez7 ep7
    generalize hfl2 : fs.filter (fun m=>!decide (m ∈ jaz ts n)) = bs at ez7
    refine ⟨.lst (bs.map Dt.int),.lst [],jcf ez7,jcf (ns:=[]) ep7,jgw bs,.inl ⟨_,_,rfl,rfl⟩,?_⟩
    rw [jiz]
    have b7 : But st H H7:=fun b u nb q=>s7 _ _ (b5 _ _ nb q)
    walk_at "RD"
    refine ite2 (fun c=>?_) (fun c=>?_)
    ·have c' : bs = []:=of_decide_eq_true c
     have hall : ∀ m ∈ fs,m ∈ jaz ts n:=fun m hm=>by
      rw [← hfl2,List.filter_eq_nil_iff] at c'
      have:=c' m hm
      simpa using this
     refine ⟨⟨sl,_,rfl,s7 _ _ esl5⟩,?_⟩
     simp_arith [s7 _ _ esl5]
     refine ⟨szl' (by rw [List.length_map]; omega),_,ms ++ [n],rfl,fun b u nb q=>?_,?_,?_,?_,?_,fun m hm=>?_⟩
     ·rw [ja8 (ja6 q hsl0)]
      exact b7 b u nb q
     ·rw [ja8 nsl.symm]
      exact s7 _ _ e5
     ·rw [ja8 nfs]
      exact s7 _ _ ef5
     ·rw [ja1,List.map_append]
      rfl
     ·rw [List.length_append]
      show _ + 1 ≤ _
      omega
     ·rcases List.mem_append.mp hm with hm | hm
      ·exact hms m hm
      ·rw [List.mem_singleton.mp hm]
       exact ⟨hnq,hall⟩
    ·exact ⟨_,ms,rfl,b7,s7 _ _ e5,s7 _ _ ef5,s7 _ _ esl5,by omega,hms⟩
  ·rintro σ H5 ⟨v3',ms,rfl,b5,e5,ef5,esl5,hml,hms⟩
   rw [List.length_map] at hml
   walk_at "RD"
   try subst hR2
   walk_at "RD"
   intro p hp
   have s7:=ja5 hp (.lst [])
   have ep7 : upd H5 p (.lst []) p = some (.lst (([] : List Int).map V.int)):=ja1
   have e7:=s7 _ _ e5
   have ef7:=s7 _ _ ef5
   have esl7:=s7 _ _ esl5
   have b7 : But st H (upd H5 p (.lst [])):=fun b u nb q=>s7 _ _ (b5 _ _ nb q)
   generalize upd H5 p (.lst []) = H7 at ep7 e7 ef7 esl7 b7
   refine ⟨.lst (ms.map Dt.int),.lst [],jcf esl7,jcf (ns:=[]) ep7,jgw ms,.inl ⟨_,_,rfl,rfl⟩,?_⟩
   rw [jiz]
   walk_at "RD"
   by_cases c : ms = []
   ·rw [decide_eq_true c]
    walk_at "RD"
    exact ⟨_,_,_,fs,o3,rfl,b7,e7,so3,ef7,hfs,clq,by omega⟩
   ·rw [decide_eq_false c]
    simp_arith [jaj,esl7,List.length_map]
    refine ⟨⟨fl,_,rfl,ef7⟩,?_⟩
    have hm1 : 1 ≤ ms.length:=by
     cases ms with
     | nil=>exact absurd rfl c
     | cons _ _=>simp
    refine ⟨st,o3,_,rfl,e7,so3,by omega,by omega,fun kk o4 kk0 kk1 so4=>?_⟩
    have b8:=b7.trans (But.at st H7 o4)
    have e8 : upd H7 st o4 st = some o4:=ja1
    have ef8:=But.at st H7 o4 _ _ nfl ef7
    have esl8:=But.at st H7 o4 _ _ nsl esl7
    generalize upd H7 st o4 = H8 at b8 e8 ef8 esl8
    obtain ⟨n1,a1,hn1⟩:=jj6 (ns:=ms) kk0 (by omega)
    simp_arith [jaj,esl8,a1,ef8]
    obtain ⟨q1,q2⟩:=hms n1 hn1
    refine ⟨szl' (by rw [List.length_map]; omega),_,_,_,fs ++ [n1],o4,rfl,fun b u nb q=>?_,?_,so4,?_,fun m hm=>?_,clq.snoc htt q2,?_⟩
    ·rw [ja8 (ja6 q hfl0)]
     exact b8 b u nb q
    ·rw [ja8 nfl.symm]
     exact e8
    ·rw [ja1,List.map_append]
     rfl
    ·rcases List.mem_append.mp hm with hm | hm
     ·exact hfs m hm
     ·rw [List.mem_singleton.mp hm]
      exact q1
    ·rw [List.length_append]
     show _ + 1 ≤ _
     omega
 ·rintro σ H3 ⟨v1,v2,v3,fs,o3,rfl,b3,e3,so3,ef3,hfs,clq,hfl3⟩
  have hf6 : fs.length ≤ 6:=by omega
  walk_at "RD"
  try subst hR
  walk_at "RD"
  refine ⟨fl,fs,rfl,ef3,by omega,fun l ms hl pm pw=>?_⟩
  have nl : l ≠ st:=(ja6 e3 hl).symm
  have s9:=ja5 hl (.lst (ms.map V.int))
  refine h l ms _ o3 (fun b u nb q=>s9 _ _ (b3 _ _ nb q)) (s9 _ _ e3) so3 ?_ nl ja1 (fun n hn=>hfs n (pm.mem_iff.mp hn)) ((clq.perm pm).pw pw) (clq.perm pm).nd (by rw [pm.length_eq]; omega)
  cases q : H l with
  | none=>rfl
  | some u=>rw [b3 _ _ nl q] at hl; cases hl
end
end My
namespace My
open PySem L2
section
variable {P : Program} {w : World} {K : PySem.W.Frag} {mg : Str→Option Value} {base : Heap} {c1 c2 c3 c4 : Tok} {C_NoWeb f_NoWeb : Addr} {dI : FuncData}
structure Chn (ts : List (Int × Int)) (fs : List Int) : Prop where
 nd : fs.Nodup
 nx : ∀ (i : Nat) (a b : Int),fs[i]? = some a→fs[i + 1]? = some b→b ∈ jaz ts a
theorem Chn.one {ts : List (Int × Int)} (n : Int) : Chn ts [n]:=⟨by simp,fun i a b h1 h2=>by simp at h2⟩
theorem Chn.snoc {ts : List (Int × Int)} {fs : List Int} {l n : Int} (h : Chn ts fs) (hl : fs.getLast? = some l) (hn : n ∉ fs) (q : n ∈ jaz ts l) : Chn ts (fs ++ [n]):=by
 refine ⟨?_,fun i a b h1 h2=>?_⟩
 ·rw [List.nodup_append]
  exact ⟨h.nd,by simp,fun a ha b hb=>by rw [List.mem_singleton] at hb; rw [hb]; exact fun z=>hn (z ▸ ha)⟩
 ·rcases jiv h2 with g2 | ⟨e2,eb⟩
  ·have:=(List.getElem?_eq_some_iff.mp g2).1
   rcases jiv h1 with g1 | ⟨e1,_⟩
   ·exact h.nx i a b g1 g2
   ·omega
  ·rcases jiv h1 with g1 | ⟨e1,_⟩
   ·rw [List.getLast?_eq_getElem?,← e2,Nat.add_sub_cancel,g1] at hl
    cases hl
    rw [eb]
    exact q
   ·omega
theorem Chn.ring {ts : List (Int × Int)} {fs : List Int} {f l : Int} (h : Chn ts fs) (h3 : 3 ≤ fs.length) (ho : fs.length % 2 = 1) (hf : fs.head? = some f) (hl : fs.getLast? = some l) (q : f ∈ jaz ts l) : jff ts fs = true:=by
 unfold jff
 rw [decide_eq_true h3,decide_eq_true ho,decide_eq_true h.nd]
 simp only [Bool.and_self,Bool.true_and]
 rw [List.all_eq_true]
 rintro ⟨a,b⟩ hm
 obtain ⟨i,hi,e⟩:=List.mem_iff_getElem.mp hm
 have hz : (fs.zip (fs.drop 1 ++ fs.take 1))[i]? = some (a,b):=by rw [List.getElem?_eq_getElem hi,e]
 rw [List.getElem?_zip_eq_some] at hz
 obtain ⟨g1,g2⟩:=hz
 have hil : i < fs.length:=(List.getElem?_eq_some_iff.mp g1).1
 rw [decide_eq_true_eq]
 by_cases c : i + 1 < fs.length
 ·rw [List.getElem?_append_left (by rw [List.length_drop]; omega),List.getElem?_drop,Nat.add_comm] at g2
  exact h.nx i a b g1 g2
 ·have e2 : i = fs.length - 1:=by omega
  rw [List.getElem?_append_right (by rw [List.length_drop]; omega),List.length_drop,show i - (fs.length - 1) = 0 by omega] at g2
  rw [List.getElem?_take_of_lt (by decide)] at g2
  rw [List.head?_eq_getElem?,g2] at hf
  cases hf
  rw [List.getLast?_eq_getElem?,← e2,g1] at hl
  cases hl
  exact q
theorem jrl {ps ts : List (Int × Int)} (wok : WebOk ps ts) {n m : Int} (h : m ∈ jaz ts n) : m ∈ ps.map (·.1):=by
 have htt : ∀ t ∈ ts,t.1 < t.2:=fun t ht=>(wok.t.ats t ht).1
 have has : ∀ x : Int,hasK (jc0 ps) x = true→x ∈ ps.map (·.1):=fun x hx=>by
  obtain ⟨i,p,h1,rfl⟩:=jem hx
  exact List.mem_map_of_mem (List.mem_of_getElem? h1)
 rcases (jfp htt).mp h with z | z
 ·exact has _ (wok.t.ats _ z).2.2
 ·exact has _ (wok.t.ats _ z).2.1
theorem atI_last {ns : List Int} {l : Int} (h : ns.getLast? = some l) : atI (ns.map V.int) (-1) = some (.int l):=by
 have hn : ns ≠ []:=fun z=>by rw [z] at h; cases h
 have hl : 1 ≤ ns.length:=by cases ns with | nil=>exact absurd rfl hn | cons _ _=>simp
 unfold atI ixN
 rw [if_neg (by decide),List.length_map,if_pos (by omega)]
 rw [List.getLast?_eq_getElem?] at h
 show (ns.map V.int)[(-1 + (ns.length : Int)).toNat]? = _
 rw [show (-1 + (ns.length : Int)).toNat = ns.length - 1 by omega,List.getElem?_map,h]
 rfl
theorem jkd {ns : List Int} {f : Int} (h : ns.head? = some f) : atI (ns.map V.int) 0 = some (.int f):=by
 rw [List.head?_eq_getElem?] at h
 exact jbk (xs:=ns.map V.int) (j:=0) (by rw [List.getElem?_map,h]; rfl)
theorem jol (fs : List Int) (n : Int) : (fs ++ [n]).getLast? = some n:=by simp
noncomputable def jg3 : Sp:=fun vs H Q _=>∃ st o nd lp ps ts,vs = [.ref st,.ref nd,.ref lp]∧H st = some o∧StO o∧NrAt H nd ps ts∧WebOk ps ts∧H lp = some (.lst ((ps.map (·.1)).map V.int))∧ps ≠ [] ∧
 ∀ l ns H' o',But st H H'→H' st = some o'→StO o'→H l = none→l ≠ st→H' l = some (.lst (ns.map V.int))→(∀ n ∈ ns,n ∈ ps.map (·.1))→(ns = [] ∨ jff ts ns = true)→ns.Nodup→ns.length ≤ 20→Q (.ref l) H'
theorem jks {f : Addr} {fd : FuncData} {f_law_take : Addr} {d_law_take : FuncData} (B : Blt mg) (D : DefAt K mg "_law_ring" (top 42) ["_law_state","_law_book","_law_places_here"] f fd) (D_law_take : DefAt K mg "_law_take" (top 37) ["_law_state","_law_many"] f_law_take d_law_take) (G_law_take : FnOk P w K mg base CX0 1 f_law_take d_law_take ["_law_state","_law_many"] je9) : FnOk P w K mg base CX0 2 f fd ["_law_state","_law_book","_law_places_here"] jg3:=by
 have sc : FnScope ["_law_state","_law_book","_law_places_here","_law_found","_law_turn","_law_some"] ["_law_state","_law_book","_law_places_here"] (ja9 (top 42)):=⟨rfl,rfl,rfl,by decide +kernel,rfl,by decide +kernel,by decide +kernel⟩
 refine D.F.ok sc (fun vs H Q E h=>?_) (fun cdv A outer s H vs Q E hr h=>?_)
 ·obtain ⟨st,o,nd,lp,ps,ts,rfl,_⟩:=h
  rfl
 obtain ⟨st,o,nd,lp,ps,ts,rfl,es,so,nr,wok,elp,hne,h⟩:=h
 have hnd:=wok.p.nodup
 have hpl:=wok.pl
 have htt : ∀ t ∈ ts,t.1 < t.2:=fun t ht=>(wok.t.ats t ht).1
 generalize hqs : ps.map (·.1) = qs at *
 have hql : qs.length = ps.length:=by rw [← hqs,List.length_map]
 have hq1 : 1 ≤ qs.length:=by
  rw [hql]
  cases ps with
  | nil=>exact absurd rfl hne
  | cons _ _=>simp
 have nlp:=jhp elp es so
 have NR : ∀ {H2 : Hp},But st H H2→NrAt H2 nd ps ts:=fun b=>nr.but es so b
 have LP : ∀ {H2 : Hp},But st H H2→H2 lp = some (.lst (qs.map V.int)):=fun b=>b _ _ nlp elp
 have hu:=jb8 hr
 have hu0 : _ < PySem.cLine:=Nat.lt_of_succ_lt hu
 refine ⟨_,(ja3 (jah (i:=3) sc.nd rfl (Or.inr rfl) (jas (ja0 (jal q_ix (qv 2) (jab G_law_take (hr.mono (by decide)) rfl D_law_take.m D_law_take.F.kp D_law_take.b .nil jaq (ja0 (qv 0) (ja0 (jad jci rfl B.len PySem.boot_len (ja0 (qv 2) ja2)) ja2))) (fun _ _=>rfl)) ja2))) (ja3 (jbi PassesOwn.never rfl (jco rfl B.range (ja0 ja4 ja2)) (jac (i:=4) sc.nd rfl (Or.inl rfl)) (ja3 (jnw (i:=5) sc.nd rfl (Or.inl rfl) (CpScope.of (N:=["_law_place","_law_found"]) (src:=[none,some 3]) (by rfl)) rfl (jb5 (jef hu (qv 1) (jal q_ix (qv 3) (jkm jki ja4) (fun _ _=>rfl)) (fun _ _=>rfl))) (fun _ _ _ _=>(jac (i:=0) (jb7 (l:=["_law_place","_law_found"]) (by rfl)) rfl (Or.inl rfl))) (fun _ _ _ _=>(jo0 (jan jib (qv 0) (qv 1) (by with_unfolding_all rfl)))) (fun _ _ _ _=>(qv 0))) (ja3 (jay (jan (jo7 hr.units) (qv 5) (jas ja2) (jak _)) (ja7 (jae (jas ja2))) jag) (ja3 (jb4 (q_bm PySem.F.plainAttrs_list PySem.F.slot_list_append PySem.F.type_list_append jbr (qv 3) (ja0 (jal q_ix (qv 5) (jab G_law_take (hr.mono (by decide)) rfl D_law_take.m D_law_take.F.kp D_law_take.b .nil jaq (ja0 (qv 0) (ja0 (jad jci rfl B.len PySem.boot_len (ja0 (qv 5) ja2)) ja2))) (fun _ _=>rfl)) ja2))) (ja7 (jay (PW.pt (jfa (jan q_eq (jai jgz (jad jci rfl B.len PySem.boot_len (ja0 (qv 3) ja2)) ja4) ja4 (jak _)) (jfa (jan jr9 (jal q_ix (qv 3) ja4 (fun _ _=>rfl)) (jef hu (qv 1) (jal q_ix (qv 3) (jkm jki ja4) (fun _ _=>rfl)) (fun _ _=>rfl)) (by with_unfolding_all rfl)) (je0 (jan q_gt (jab G_law_take (hr.mono (by decide)) rfl D_law_take.m D_law_take.F.kp D_law_take.b .nil jaq (ja0 (qv 0) (ja0 ja4 ja2))) ja4 (jak _)))))) (ja7 (jae (qv 3))) jag)))))) (ja7 (jae (jas ja2))))),?_⟩
 refine jaa fun R hR=>?_
 simp_arith [jaj,elp,List.length_map]
 refine ⟨st,o,_,rfl,es,so,by omega,by omega,fun k0 o1 k00 k01 so1=>?_⟩
 have b1 : But st H (upd H st o1):=But.at st H o1
 have e1 : upd H st o1 st = some o1:=ja1
 generalize upd H st o1 = H1 at b1 e1
 obtain ⟨n0,a0,hn0⟩:=jj6 (ns:=qs) k00 (by omega)
 simp_arith [jaj,LP b1,a0]
 intro fl hfl
 have nfl : fl ≠ st:=(ja6 e1 hfl).symm
 have hfl0 : H fl = none:=by
  cases q : H fl with
  | none=>rfl
  | some u=>rw [b1 _ _ nfl q] at hfl; cases hfl
 have s2:=ja5 hfl (.lst [.int n0])
 have ef2 : upd H1 fl (.lst [.int n0]) fl = some (.lst ([n0].map V.int)):=ja1
 have e2:=s2 _ _ e1
 have b2 : But st H (upd H1 fl (.lst [.int n0])):=fun b u nb q=>s2 _ _ (b1 _ _ nb q)
 generalize upd H1 fl (.lst [.int n0]) = H2 at ef2 e2 b2
 try subst hR
 refine jaa fun R hR=>?_
 refine jav (Itr 0 8) H2 (fun R' hR'=>?_) (jcc (n:=8) (fun i σ H3=>∃ v1 v2 fs o3 lst,σ = [some (.ref st),some (.ref nd),some (.ref lp),some (.ref fl),v1,v2]∧But st H H3∧H3 st = some o3∧StO o3∧H3 fl = some (.lst (fs.map V.int))∧(∀ n ∈ fs,n ∈ qs)∧Chn ts fs∧fs.length = 1 + i∧fs.head? = some n0∧fs.getLast? = some lst) ⟨none,none,[n0],o1,n0,rfl,b2,e2,so1,ef2,fun n hn=>by rw [List.mem_singleton.mp hn]; exact hn0,Chn.one n0,by simp,rfl,rfl⟩ ?_ ?_)
 ·unfold jmy
  walk_at "RD"
  exact ⟨8,rfl,by decide,by decide,hR'⟩
 ·rintro i σ H3 hi ⟨v1,v2,fs,o3,lst,rfl,b3,e3,so3,ef3,hfs,chn,hfl3,hhd,hlt⟩
  have hlq : lst ∈ qs:=hfs _ (List.mem_of_getLast? hlt)
  have hla:=atI_last hlt
  obtain ⟨as,a,g1,g2,g3⟩:=(NR b3).get (by rw [hqs]; exact hnd) (by rw [hqs]; exact hlq)
  have hnl : (jaz ts lst).length ≤ 120:=Nat.le_trans (jej _ _) wok.tl
  generalize hNL : jaz ts lst = nls at g3 hnl
  refine jaa fun R2 hR2=>?_
  walk_at "RD"
  refine jby (Itl K a) H3 (fun R' hR'=>?_) (fun z hz0=>jcy nls.length (fun t σ' Hc=>∃ w1,σ' = [w1,some (.ref fl)]∧Same H3 Hc∧Hc z = some (.lst (((nls.take t).filter fun m=>!decide (m ∈ fs)).map V.int))) ⟨none,rfl,ja5 hz0 _,ja1⟩ ?_ ?_)
  ·unfold jcr
   simp_arith [jaj,ef3,hla,g1,g2]
   exact ⟨a,rfl,⟨_,SqL.of g3⟩,hR'⟩
  ·rintro t σ' Hc ht ⟨w1,rfl,s6,ez⟩
   have x1 : (nls.map V.int)[t]? = some (.int nls[t]):=by rw [List.getElem?_map,List.getElem?_eq_getElem ht]; rfl
   have x2 : nls[t]? = some nls[t]:=List.getElem?_eq_getElem ht
   generalize nls[t] = m at x1 x2
   have z1 : SqL K Hc a (nls.map V.int):=SqL.of (s6 _ _ g3)
   refine ⟨⟨_,_,z1,x1⟩,?_⟩
   rintro y H' ⟨rfl,hy⟩
   have E1 : V.int m = y:=Option.some.inj (x1.symm.trans (hy _ z1))
   subst E1
   have ft:=je2 (f:=fun m=>!decide (m ∈ fs)) x2
   simp_arith [jaj,s6 _ _ ef3,jdo,flat_ints,jcx]
   rw [ft]
   by_cases c : m ∈ fs
   ·simp only [c,decide_true,Bool.not_true,Bool.false_eq_true,if_false,if_true,List.append_nil]
    exact ⟨_,rfl,s6,ez⟩
   ·simp only [c,decide_false,Bool.not_false,if_true]
    refine ⟨_,ez,?_,_,rfl,jc5 s6 hz0,?_⟩
    ·rw [List.length_map]
     exact szl' (Nat.le_trans (List.length_filter_le _ _) (by rw [List.length_take]; omega))
    ·rw [ja1,List.map_append]
     rfl
  rintro σ' Hc ⟨w1,rfl,s6,ez⟩
  refine ⟨⟨_,SqL.of (s6 _ _ g3),by rw [List.length_map]; exact Nat.le_refl _⟩,?_⟩
  rw [List.take_length] at ez
  have e6:=s6 _ _ e3
  have ef6:=s6 _ _ ef3
  have b6 : But st H Hc:=fun b u nb q=>s6 _ _ (b3 _ _ nb q)
  have nzs : z ≠ st:=(ja6 e3 hz0).symm
  generalize hms : nls.filter (fun m=>!decide (m ∈ fs)) = ms at ez
  have hml : ms.length ≤ 120:=by rw [← hms]; exact Nat.le_trans (List.length_filter_le _ _) hnl
  have hmm : ∀ m ∈ ms,m ∈ jaz ts lst∧m ∉ fs:=fun m hm=>by
   rw [← hms,List.mem_filter] at hm
   rw [hNL]
   exact ⟨hm.1,by simpa using hm.2⟩
  walk_at "RD"
  try subst hR2
  refine jaa fun R2 hR2=>?_
  walk_at "RD"
  intro p hp
  have s7:=ja5 hp (.lst [])
  have ep7 : upd Hc p (.lst []) p = some (.lst (([] : List Int).map V.int)):=ja1
  have e7:=s7 _ _ e6
  have ef7:=s7 _ _ ef6
  have ez7:=s7 _ _ ez
  have b7 : But st H (upd Hc p (.lst [])):=fun b u nb q=>s7 _ _ (b6 _ _ nb q)
  generalize upd Hc p (.lst []) = H7 at ep7 e7 ef7 ez7 b7
  refine ⟨.lst (ms.map Dt.int),.lst [],jcf ez7,jcf (ns:=[]) ep7,jgw ms,.inl ⟨_,_,rfl,rfl⟩,?_⟩
  rw [jiz]
  walk_at "RD"
  by_cases c : ms = []
  ·rw [decide_eq_true c]
   walk_at "RD"
   intro l hl
   have nl : l ≠ st:=(ja6 e7 hl).symm
   have s9:=ja5 hl (.lst [])
   refine h l [] _ o3 (fun b u nb q=>s9 _ _ (b7 _ _ nb q)) (s9 _ _ e7) so3 ?_ nl ja1 (fun n hn=>by cases hn) (.inl rfl) List.nodup_nil (by simp)
   cases q : H l with
   | none=>rfl
   | some u=>rw [b7 _ _ nl q] at hl; cases hl
  rw [decide_eq_false c]
  walk_at "RD"
  try subst hR2
  refine jaa fun R2 hR2=>?_
  have hm1 : 1 ≤ ms.length:=by
   cases ms with
   | nil=>exact absurd rfl c
   | cons _ _=>simp
  simp_arith [jaj,ez7,List.length_map]
  refine ⟨⟨fl,_,rfl,ef7⟩,?_⟩
  refine ⟨st,o3,_,rfl,e7,so3,by omega,by omega,fun kk o4 kk0 kk1 so4=>?_⟩
  have b8:=b7.trans (But.at st H7 o4)
  have e8 : upd H7 st o4 st = some o4:=ja1
  have ef8:=But.at st H7 o4 _ _ nfl ef7
  have ez8:=But.at st H7 o4 _ _ nzs ez7
  generalize upd H7 st o4 = H8 at b8 e8 ef8 ez8
  obtain ⟨n1,a1,hn1⟩:=jj6 (ns:=ms) kk0 (by omega)
  simp_arith [jaj,ez8,a1,ef8]
  obtain ⟨q1,q2⟩:=hmm n1 hn1
  have hn1q : n1 ∈ qs:=by rw [← hqs]; exact jrl wok q1
  have chn9:=chn.snoc hlt q2 q1
  have hl9 : (fs ++ [n1]).length = 2 + i:=by rw [List.length_append,hfl3]; show 1 + i + 1 = _; omega
  have hd9 : (fs ++ [n1]).head? = some n0:=by
   cases fs with
   | nil=>cases hhd
   | cons x y=>exact hhd
  have lt9:=jol fs n1
  have hq9 : ∀ n ∈ fs ++ [n1],n ∈ qs:=fun m hm=>by
   rcases List.mem_append.mp hm with hm | hm
   ·exact hfs m hm
   ·rw [List.mem_singleton.mp hm]
    exact hn1q
  have b9 : But st H (upd H8 fl (.lst (fs.map V.int ++ [.int n1]))):=fun b u nb q=>by
   rw [ja8 (ja6 q hfl0)]
   exact b8 b u nb q
  have e9 : upd H8 fl (.lst (fs.map V.int ++ [.int n1])) st = some o4:=by rw [ja8 nfl.symm]; exact e8
  have ef9 : upd H8 fl (.lst (fs.map V.int ++ [.int n1])) fl = some (.lst ((fs ++ [n1]).map V.int)):=by rw [ja1,List.map_append]; rfl
  refine ⟨szl' (by rw [List.length_map]; omega),?_⟩
  generalize upd H8 fl (.lst (fs.map V.int ++ [.int n1])) = H9 at b9 e9 ef9
  generalize hgs : fs ++ [n1] = gs at *
  try subst hR2
  simp_arith [jaj,ef9,List.length_map]
  refine ⟨by decide,?_⟩
  have again : ∀ (H' : Hp) (o' : HO),But st H H'→H' st = some o'→StO o'→H' fl = some (.lst (gs.map V.int))→∃ v1 v2 fs o3 lst,([some (.ref st),some (.ref nd),some (.ref lp),some (.ref fl),some (.int (0 + (i : Int))),some (.ref z)] : St) = [some (.ref st),some (.ref nd),some (.ref lp),some (.ref fl),v1,v2]∧But st H H'∧H' st = some o3∧StO o3∧H' fl = some (.lst (fs.map V.int))∧(∀ n ∈ fs,n ∈ qs)∧Chn ts fs∧fs.length = 1 + (i + 1)∧fs.head? = some n0∧fs.getLast? = some lst :=
   fun H' o' a1 a2 a3 a4=>⟨_,_,gs,o',n1,rfl,a1,a2,a3,a4,hq9,chn9,by omega,hd9,lt9⟩
  by_cases c2 : (gs.length : Int) % 2 = 1
  ·rw [decide_eq_true c2]
   simp_arith [jkd hd9,atI_last lt9]
   obtain ⟨as9,a9,k1,k2,k3⟩:=(NR b9).get (by rw [hqs]; exact hnd) (by rw [hqs]; exact hn1q)
   simp_arith [jaj,ef9,jkd hd9,atI_last lt9,k1,k2,k3,jdo,flat_ints,jcx]
   by_cases c3 : n0 ∈ jaz ts n1
   ·rw [decide_eq_true c3]
    walk_at "RD"
    refine ⟨st,o4,3,rfl,e9,so4,by decide,by decide,fun kz o5 kz0 kz1 so5=>?_⟩
    have b10:=b9.trans (But.at st H9 o5)
    have e10 : upd H9 st o5 st = some o5:=ja1
    have ef10:=But.at st H9 o5 _ _ nfl ef9
    generalize upd H9 st o5 = H10 at b10 e10 ef10
    walk_at "RD"
    refine ite2 (fun c4=>?_) (fun c4=>?_)
    ·exact h fl gs _ o5 b10 e10 so5 hfl0 nfl ef10 hq9 (.inr (chn9.ring (by omega) (by omega) hd9 lt9 c3)) chn9.nd (by omega)
    ·exact again H10 o5 b10 e10 so5 ef10
   ·rw [decide_eq_false c3]
    walk_at "RD"
    have q:=again H9 o4 b9 e9 so4 ef9
    simp only [ef9] at q
    exact q
  ·rw [decide_eq_false c2]
   walk_at "RD"
   have q:=again H9 o4 b9 e9 so4 ef9
   simp only [ef9] at q
   exact q
 ·rintro σ H3 ⟨v1,v2,fs,o3,lst,rfl,b3,e3,so3,ef3,hfs,chn,hfl3,hhd,hlt⟩
  walk_at "RD"
  try subst hR
  walk_at "RD"
  intro l hl
  have nl : l ≠ st:=(ja6 e3 hl).symm
  have s9:=ja5 hl (.lst [])
  refine h l [] _ o3 (fun b u nb q=>s9 _ _ (b3 _ _ nb q)) (s9 _ _ e3) so3 ?_ nl ja1 (fun n hn=>by cases hn) (.inl rfl) List.nodup_nil (by simp)
  cases q : H l with
  | none=>rfl
  | some u=>rw [b3 _ _ nl q] at hl; cases hl
end
end My
namespace My
open PySem L2
section
variable {P : Program} {w : World} {K : PySem.W.Frag} {mg : Str→Option Value} {base : Heap} {c1 c2 c3 c4 : Tok} {C_NoWeb f_NoWeb : Addr} {dI : FuncData}
noncomputable def B2 (s d : Addr) (H H' : Hp) : Prop:=∀ b o,b ≠ s→b ≠ d→H b = some o→H' b = some o
theorem B2.trans {s d : Addr} {H H1 H2 : Hp} (a : B2 s d H H1) (b : B2 s d H1 H2) : B2 s d H H2:=fun c o n1 n2 q=>b c o n1 n2 (a c o n1 n2 q)
theorem But.b2 {s d : Addr} {H H1 : Hp} (b : But s H H1) : B2 s d H H1:=fun c o n1 _ q=>b c o n1 q
theorem jd5 {s d : Addr} {H H1 : Hp} (b : Same H H1) : B2 s d H H1:=fun c o _ _ q=>b c o q
theorem B2.at2 {s d : Addr} {H : Hp} {o : HO} : B2 s d H (upd H d o):=fun c u _ n2 q=>by rw [ja8 n2]; exact q
theorem B2.lst {s d a : Addr} {H H1 : Hp} {xs : List V} {kvs : List (Key × V)} (b : B2 s d H H1) (hd : H d = some (.dK kvs)) (hs : a ≠ s) (ha : H a = some (.lst xs)) : H1 a = some (.lst xs):=b _ _ hs (fun z=>by rw [z,hd] at ha; cases ha) ha
theorem B2.tup {s d a : Addr} {H H1 : Hp} {xs : List V} {o : HO} {kvs : List (Key × V)} (b : B2 s d H H1) (hd : H d = some (.dK kvs)) (hs : H s = some o) (so : StO o) (ha : H a = some (.tup xs)) : H1 a = some (.tup xs):=b _ _ (fun z=>by
 obtain ⟨_,_,_,rfl,_⟩:=so
 rw [z,hs] at ha; cases ha) (fun z=>by rw [z,hd] at ha; cases ha) ha
theorem B2.prs {s d : Addr} {H H1 : Hp} {o : HO} {kvs : List (Key × V)} {xs : List V} {ps : List (Int × Int)} (b : B2 s d H H1) (hd : H d = some (.dK kvs)) (hs : H s = some o) (so : StO o) (h : Prs H xs ps) : Prs H1 xs ps:=Paired.mapP h fun x p ⟨t,e,q⟩=>⟨t,e,b.tup hd hs so q⟩
theorem jc2.b2 {s d : Addr} {H H1 : Hp} {o : HO} {kvs : List (Key × V)} {v : V} {ps ts : List (Int × Int)} (h : jc2 H v ps ts) (hd : H d = some (.dK kvs)) (hs : H s = some o) (so : StO o) (b : B2 s d H H1) : jc2 H1 v ps ts:=by
 obtain ⟨u,pa,ta,xs,ys,e,h1,h2,h3,h4,h5⟩:=h
 exact ⟨u,pa,ta,xs,ys,e,b.tup hd hs so h1,b.lst hd (jjw h2 h4 hs so) h2,b.lst hd (jjw h3 h5 hs so) h3,b.prs hd hs so h4,b.prs hd hs so h5⟩
theorem NrAt.b2 {s d n : Addr} {H H1 : Hp} {o : HO} {kvs : List (Key × V)} {ps ts : List (Int × Int)} (h : NrAt H n ps ts) (hd : H d = some (.dK kvs)) (hs : H s = some o) (so : StO o) (ne : n ≠ d) (b : B2 s d H H1) : NrAt H1 n ps ts:=by
 obtain ⟨as,e,l,nn⟩:=h
 refine ⟨as,b _ _ (fun z=>?_) ne e,l,fun i p a h1 h2=>b.lst hd (jhp (nn i p a h1 h2) hs so) (nn i p a h1 h2)⟩
 obtain ⟨_,_,_,rfl,_⟩:=so
 rw [z,hs] at e
 cases e
theorem B2.free {s d a : Addr} {H H1 : Hp} (b : B2 s d H H1) (n1 : a ≠ s) (n2 : a ≠ d) (h : H1 a = none) : H a = none:=by
 cases q : H a with
 | none=>rfl
 | some u=>rw [b _ _ n1 n2 q] at h; cases h
noncomputable def PdAt (H : Hp) (d : Addr) (pl : Int→Int) (m : Nat) : Prop:=∃ kvs,H d = some (.dK kvs)∧kvs.length ≤ m∧∀ n,(valV kvs (Sum.inl n : Key)).getD (.int 0) = .int (pl n)
noncomputable def jg8 (ps : List (Int × Int)) (ns : List Int) (pl : Int→Int) : List Int:=(ps.filter fun p=>decide (p.1 ∈ ns)).map fun p=>2 * p.2 - pl p.1
structure FitR (ps ts : List (Int × Int)) (pl : Int→Int) (r : Row) : Prop where
 ok : rowB ps ts (rowD r) = true
 nd : r.2.1.Nodup
 len : r.2.1.length ≤ 20
 room : ∀ p ∈ ps,p.1 ∈ r.2.1→pl p.1 + r.2.2 ≤ 2 * p.2
noncomputable def jng : Sp:=fun vs H Q _=>∃ st o v nd pd ps ts pl m,vs = [.ref st,v,.ref nd,.ref pd]∧H st = some o∧StO o∧jc2 H v ps ts∧WebOk ps ts∧NrAt H nd ps ts∧nd ≠ pd∧st ≠ pd∧ps ≠ []∧PdAt H pd pl m∧m ≤ 100000∧(∀ n,0 ≤ pl n) ∧
 (∀ H' o',B2 st pd H H'→H' st = some o'→StO o'→PdAt H' pd pl m→Q .non H') ∧
 ∀ u l r H' o',B2 st pd H H'→H' st = some o'→StO o'→H u = none→H l = none→l ≠ st→l ≠ pd→u ≠ st→u ≠ pd→H' u = some (.tup [.str r.1,.ref l,.int r.2.2])→H' l = some (.lst (r.2.1.map V.int))→FitR ps ts pl r→PdAt H' pd (fun n=>pl n + r.2.2 * (r.2.1.count n : Int)) (m + 20)→Q (.ref u) H'
theorem PlOk.nbp : ∀ {ps : List (Int × Int)} {l s : Int},PlOk l s ps→0 ≤ s→∀ p ∈ ps,1 ≤ p.2∧p.2 ≤ 1000000000000
 | [],_,_,_,_,_,h=>by cases h
 | q :: r,l,s,h,hs,p,hp=>by
  rcases List.mem_cons.mp hp with e | hp
  ·rw [e]; have:=h.1; omega
  ·exact PlOk.nbp h.2 (by have:=h.1; omega) p hp
theorem jr6 {ps ts : List (Int × Int)} {ns : List Int} {am : Int} (h1 : ∀ n ∈ ns,n ∈ ps.map (·.1)) (h2 : pwB ts ns = true) (h3 : 2 ≤ ns.length) (h4 : 1 ≤ am) : rowB ps ts (rowD ((("all" : String) : Str),ns,am)) = true:=by
 have hp : (ns.map Dt.int).all (jl6 ps) = true:=by
  rw [List.all_map,List.all_eq_true]
  intro n hn
  exact decide_eq_true (h1 n hn)
 unfold rowD rowB rowT
 dsimp only
 rw [decide_eq_true h4,hp,jc1,if_pos rfl]
 unfold allB
 rw [h2,decide_eq_true h3]
 rfl
theorem jpm : ¬ ((("ring" : String) : Str) = (("all" : String) : Str)):=by decide +kernel
theorem jpk {ps ts : List (Int × Int)} {ns : List Int} {am : Int} (h1 : ∀ n ∈ ns,n ∈ ps.map (·.1)) (h2 : jff ts ns = true) (h4 : 1 ≤ am) : rowB ps ts (rowD ((("ring" : String) : Str),ns,am)) = true:=by
 have hp : (ns.map Dt.int).all (jl6 ps) = true:=by
  rw [List.all_map,List.all_eq_true]
  intro n hn
  exact decide_eq_true (h1 n hn)
 unfold rowD rowB rowT
 dsimp only
 rw [decide_eq_true h4,hp,jc1,if_neg jpm,h2,decide_eq_true rfl]
 rfl
theorem jmm {f : Addr} {fd : FuncData} {f_law_take : Addr} {d_law_take : FuncData} {f_law_all : Addr} {d_law_all : FuncData} {f_law_ring : Addr} {d_law_ring : FuncData} (B : Blt mg) (D : DefAt K mg "_law_row" (top 43) ["_law_state","_law_web_here","_law_book","_law_paid"] f fd) (D_law_take : DefAt K mg "_law_take" (top 37) ["_law_state","_law_many"] f_law_take d_law_take) (G_law_take : FnOk P w K mg base CX0 1 f_law_take d_law_take ["_law_state","_law_many"] je9) (D_law_all : DefAt K mg "_law_all" (top 41) ["_law_state","_law_book","_law_places_here"] f_law_all d_law_all) (G_law_all : FnOk P w K mg base CX0 2 f_law_all d_law_all ["_law_state","_law_book","_law_places_here"] jjg) (D_law_ring : DefAt K mg "_law_ring" (top 42) ["_law_state","_law_book","_law_places_here"] f_law_ring d_law_ring) (G_law_ring : FnOk P w K mg base CX0 2 f_law_ring d_law_ring ["_law_state","_law_book","_law_places_here"] jg3) : FnOk P w K mg base CX0 3 f fd ["_law_state","_law_web_here","_law_book","_law_paid"] jng:=by
 have sc : FnScope ["_law_state","_law_web_here","_law_book","_law_paid","_law_places_here","_law_word","_law_some","_law_rooms","_law_place","_law_price","_law_room","_law_amount"] ["_law_state","_law_web_here","_law_book","_law_paid"] (ja9 (top 43)):=⟨rfl,rfl,rfl,by decide +kernel,rfl,by decide +kernel,by decide +kernel⟩
 refine D.F.ok sc (fun vs H Q E h=>?_) (fun cdv A outer s H vs Q E hr h=>?_)
 ·obtain ⟨st,o,v,nd,pd,ps,ts,pl,m,rfl,_⟩:=h
  rfl
 obtain ⟨st,o,v,nd,pd,ps,ts,pl,m,rfl,es,so,hw,wok,nr,nnp,nsp,hne,hpd,hm9,hpl0,hN,hY⟩:=h
 obtain ⟨kvs,epd,hkl,hpv⟩:=id hpd
 obtain ⟨xv,pa,ta,xs,ys,rfl,ex,ep,et,pp,pt⟩:=id hw
 have hlx : xs.length = ps.length:=Paired.length pp
 have hpl:=wok.pl
 have hnd:=wok.p.nodup
 have WB : ∀ {H2 : Hp},B2 st pd H H2→jc2 H2 (.ref xv) ps ts:=fun b=>hw.b2 epd es so b
 have NB : ∀ {H2 : Hp},B2 st pd H H2→NrAt H2 nd ps ts:=fun b=>nr.b2 epd es so nnp b
 have EX : ∀ {H2 : Hp},B2 st pd H H2→H2 xv = some (.tup [.ref pa,.ref ta]):=fun b=>b.tup epd es so ex
 have EP : ∀ {H2 : Hp},B2 st pd H H2→H2 pa = some (.lst xs):=fun b=>b.lst epd (jjw ep pp es so) ep
 have PP : ∀ {H2 : Hp},B2 st pd H H2→Prs H2 xs ps:=fun b=>b.prs epd es so pp
 have hFE : ∀ (f : Addr) (sp : Sp),(f,sp) ∈ [(f_law_all,jjg),(f_law_ring,jg3)]→∃ fd ps,FnOk P w K mg base CX0 2 f fd ps sp∧PySem.W.keepIn K (.ref f) = true∧je3 K fd ps []:=fun f sp hm=>by
  rcases List.mem_cons.mp hm with e | hm
  ·cases e
   exact ⟨_,_,G_law_all,D_law_all.F.kp,D_law_all.b⟩
  ·rcases List.mem_cons.mp hm with e | hm
   ·cases e
    exact ⟨_,_,G_law_ring,D_law_ring.F.kp,D_law_ring.b⟩
   ·cases hm
 have hu:=jb8 hr
 have hu0 : _ < PySem.cLine:=Nat.lt_of_succ_lt hu
 refine ⟨_,(ja3 (jnw (i:=4) sc.nd rfl (Or.inl rfl) (CpScope.of (N:=["_law_place","_law_price"]) (src:=[none,none]) (by rfl)) rfl (jb5 (jal q_ix (qv 1) ja4 (fun _ _=>rfl))) (fun _ _ _ _=>(jc3 (n:=2) rfl (jaf (jac (i:=0) (jb7 (l:=["_law_place","_law_price"]) (by rfl)) rfl (Or.inl rfl)) (jaf (jac (i:=1) (jb7 (l:=["_law_place","_law_price"]) (by rfl)) rfl (Or.inl rfl)) jbg)))) (fun _ _ _ _=>jgg) (fun _ _ _ _=>(qv 0))) (ja3 (jah (i:=5) sc.nd rfl (Or.inl rfl) (jal q_ix (jas (ja0 jbb (ja0 jbb ja2))) (jab G_law_take (hr.mono (by decide)) rfl D_law_take.m D_law_take.F.kp D_law_take.b .nil jaq (ja0 (qv 0) (ja0 ja4 ja2))) (fun _ _=>rfl))) (ja3 (jah (i:=6) sc.nd rfl (Or.inl rfl) (jpw (fs:=[(f_law_all,jjg),(f_law_ring,jg3)]) (jal q_ix (jas (ja0 (jo3 rfl D_law_all.m) (ja0 (jo3 rfl D_law_ring.m) ja2))) (jc9 jqt rfl B.int PyProof.Rows.boot_int (ja0 (jbs q_eq (qv 5) jbb (jak _)) ja2)) (fun _ _=>rfl)) hFE (hr.mono (by decide)) (ja0 (qv 0) (ja0 (qv 2) (ja0 (qv 4) ja2))))) (ja3 (jah (i:=7) sc.nd rfl (Or.inl rfl) (jas ja2)) (ja3 (jbi PassesOwn.never rfl (jb5 (jal q_ix (qv 1) ja4 (fun _ _=>rfl))) (jc3 (n:=2) rfl (jaf (jac (i:=8) sc.nd rfl (Or.inl rfl)) (jaf (jac (i:=9) sc.nd rfl (Or.inl rfl)) jbg))) (ja7 (jay (jan jr9 (qv 8) (qv 6) (by with_unfolding_all rfl)) (ja7 (jb4 (q_bm PySem.F.plainAttrs_list PySem.F.slot_list_append PySem.F.type_list_append jbr (qv 7) (ja0 (jai jee (jai jgy ja4 (qv 9)) (jic hu (qv 3) (qv 8) ja4)) ja2)))) jag))) (ja3 (jah (i:=10) sc.nd rfl (Or.inl rfl) (jo5 (jp6 rfl) rfl B.min PyProof.Rows.boot_min (ja0 (qv 7) ja2) (jrd ja4 pk_nil))) (ja3 (jay (PW.pt (jid (jan q_lt (jad jci rfl B.len PySem.boot_len (ja0 (qv 6) ja2)) ja4 (jak _)) (jgd (jan q_lt (qv 10) ja4 (jak _))))) (ja7 (jae jd0)) jag) (ja3 (jah (i:=11) sc.nd rfl (Or.inl rfl) (jal q_ix (jas (ja0 ja4 (ja0 (qv 10) (ja0 (jai jbv ja4 (jab G_law_take (hr.mono (by decide)) rfl D_law_take.m D_law_take.F.kp D_law_take.b .nil jaq (ja0 (qv 0) (ja0 (qv 10) ja2)))) ja2)))) (jab G_law_take (hr.mono (by decide)) rfl D_law_take.m D_law_take.F.kp D_law_take.b .nil jaq (ja0 (qv 0) (ja0 ja4 ja2))) (fun _ _=>rfl))) (ja3 (jbi PassesOwn.never rfl (jb5 (qv 6)) (jac (i:=8) sc.nd rfl (Or.inl rfl)) (ja7 (jnt hu (qv 3) (qv 8) (jai jbv (jic hu (qv 3) (qv 8) ja4) (qv 11))))) (ja7 (jae (jar (ja0 (qv 5) (ja0 (qv 6) (ja0 (qv 11) ja2))))))))))))))),?_⟩
 refine jaa fun R hR=>?_
 walk_at "RD"
 refine jby (Itl K pa) H (fun R' hR'=>?_) (fun lp hlp=>jcy ps.length (fun i σ' Hc=>∃ w1 w2,σ' = [w1,w2]∧Same H Hc∧Hc lp = some (.lst (((ps.take i).map (·.1)).map V.int))) ⟨none,none,rfl,ja5 hlp _,ja1⟩ ?_ ?_)
 ·unfold jcr
  simp_arith [jaj,ex,at0]
  exact ⟨pa,rfl,⟨_,SqL.of ep⟩,hR'⟩
 ·rintro i σ' Hc hi ⟨w1,w2,rfl,s4,ez⟩
  have x1 : xs[i]? = some (xs[i]'(by omega)):=List.getElem?_eq_getElem _
  have z1 : SqL K Hc pa xs:=SqL.of (s4 _ _ ep)
  refine ⟨⟨_,_,z1,x1⟩,?_⟩
  rintro y H' ⟨rfl,hy⟩
  obtain ⟨q,hq,pq⟩:=jam pp (hy _ z1)
  obtain ⟨t,rfl,ht⟩:=pq.same s4
  simp_arith [ht]
  refine ⟨_,ez,?_,_,_,rfl,jc5 s4 hlp,?_⟩
  ·rw [List.length_map,List.length_map,List.length_take]
   exact szl' (by omega)
  ·rw [ja1,jbo hq,List.map_append,List.map_append]
   rfl
 rintro σ' H1 ⟨w1,w2,rfl,s1,elp⟩
 refine ⟨⟨_,SqL.of (s1 _ _ ep),by omega⟩,?_⟩
 rw [List.take_length] at elp
 have nlps : lp ≠ st:=(ja6 es hlp).symm
 have nlpp : lp ≠ pd:=(ja6 epd hlp).symm
 have e1:=s1 _ _ es
 have d1:=s1 _ _ epd
 have b1 : B2 st pd H H1:=jd5 s1
 walk_at "RD"
 try subst hR
 refine jaa fun R hR=>?_
 walk_at "RD"
 intro q1 hq1
 have s2:=ja5 hq1 (.lst [.str "all",.str "ring"])
 have eq2 : upd H1 q1 (.lst [.str "all",.str "ring"]) q1 = some (.lst [.str "all",.str "ring"]):=ja1
 have b2 : B2 st pd H (upd H1 q1 (.lst [.str "all",.str "ring"])):=b1.trans (jd5 s2)
 have e2:=s2 _ _ e1
 have d2:=s2 _ _ d1
 have elp2:=s2 _ _ elp
 generalize upd H1 q1 (.lst [.str "all",.str "ring"]) = H2 at eq2 b2 e2 d2 elp2
 have nq1 : q1 ≠ st:=(ja6 e1 hq1).symm
 refine ⟨st,o,2,rfl,e2,so,by decide,by decide,fun kw o3 kw0 kw1 so3=>?_⟩
 have b3 : B2 st pd H (upd H2 st o3):=b2.trans (But.b2 (But.at st H2 o3))
 have e3 : upd H2 st o3 st = some o3:=ja1
 have d3:=But.at st H2 o3 _ _ nsp.symm d2
 have elp3:=But.at st H2 o3 _ _ nlps elp2
 have eq3:=But.at st H2 o3 _ _ nq1 eq2
 generalize upd H2 st o3 = H3 at b3 e3 d3 elp3 eq3
 obtain ⟨w,aw,hw01⟩ : ∃ w : Str,atI [V.str "all",.str "ring"] kw = some (.str w)∧(w = (("all" : String) : Str) ∨ w = (("ring" : String) : Str)):=by
  have : kw = 0 ∨ kw = 1:=by omega
  rcases this with rfl | rfl
  ·exact ⟨_,rfl,.inl rfl⟩
  ·exact ⟨_,rfl,.inr rfl⟩
 simp_arith [jaj,eq3,aw]
 try subst hR
 refine jaa fun R hR=>?_
 simp_arith [jqj]
 intro q4 hq4
 have s4:=ja5 hq4 (.lst [.ref f_law_all,.ref f_law_ring])
 have eq4 : upd H3 q4 (.lst [.ref f_law_all,.ref f_law_ring]) q4 = some (.lst [.ref f_law_all,.ref f_law_ring]):=ja1
 have b4 : B2 st pd H (upd H3 q4 (.lst [.ref f_law_all,.ref f_law_ring])):=b3.trans (jd5 s4)
 have e4:=s4 _ _ e3
 have d4:=s4 _ _ d3
 have elp4:=s4 _ _ elp3
 generalize upd H3 q4 (.lst [.ref f_law_all,.ref f_law_ring]) = H4 at eq4 b4 e4 d4 elp4
  -- what both tell
 have go : ∀ (l : Addr) (ns : List Int) (H5 : Hp) (o5 : HO),But st H4 H5→H5 st = some o5→StO o5→H4 l = none→l ≠ st→H5 l = some (.lst (ns.map V.int))→(∀ n ∈ ns,n ∈ ps.map (·.1))→(2 ≤ ns.length→∀ am : Int,1 ≤ am→rowB ps ts (rowD (w,ns,am)) = true)→ns.Nodup→ns.length ≤ 20 →
   R { nx:=fun _ H'=>Q .non H',rt:=Q } [some (.ref st),some (.ref xv),some (.ref nd),some (.ref pd),some (.ref lp),some (.str w),some (.ref l),none,none,none,none,none] H5:=by
  intro l ns H5 o5 b5 e5 so5 hl4 nls el hin hrow hnn hn20
  have b05 : B2 st pd H H5:=b4.trans (But.b2 b5)
  have d5 : H5 pd = some (.dK kvs):=b5 _ _ nsp.symm d4
  have nlp5 : l ≠ pd:=(ja6 d4 hl4).symm
  have hl0 : H l = none:=b4.free nls nlp5 hl4
  subst hR
  refine jaa fun R hR=>?_
  walk_at "RD"
  intro rl hrl
  have s6:=ja5 hrl (.lst [])
  have erl6 : upd H5 rl (.lst []) rl = some (.lst (([] : List Int).map V.int)):=ja1
  have b06 : B2 st pd H (upd H5 rl (.lst [])):=b05.trans (jd5 s6)
  have e6:=s6 _ _ e5
  have d6:=s6 _ _ d5
  have el6:=s6 _ _ el
  have nrs : rl ≠ st:=(ja6 e5 hrl).symm
  have nrp : rl ≠ pd:=(ja6 d5 hrl).symm
  have nrl : l ≠ rl:=ja6 el hrl
  have hrl0 : H rl = none:=b05.free nrs nrp hrl
  generalize upd H5 rl (.lst []) = H6 at erl6 b06 e6 d6 el6
  try subst hR
  refine jaa fun R hR=>?_
  refine jav (Itl K pa) H6 (fun R' hR'=>?_) (jbe (K:=K) (a:=pa) (xs:=xs) (fun i σ H7=>∃ v1 v2,σ = [some (.ref st),some (.ref xv),some (.ref nd),some (.ref pd),some (.ref lp),some (.str w),some (.ref l),some (.ref rl),v1,v2,none,none]∧B2 st pd H H7∧H7 st = some o5∧H7 pd = some (.dK kvs)∧H7 l = some (.lst (ns.map V.int))∧H7 rl = some (.lst ((jg8 (ps.take i) ns pl).map V.int))) ⟨none,none,rfl,b06,e6,d6,el6,erl6⟩ (fun i σ H7 _ ⟨_,_,_,b7,_⟩=>SqL.of (EP b7)) ?_ ?_)
  ·unfold jcr
   simp_arith [jaj,EX b06,at0]
   exact ⟨pa,rfl,⟨_,SqL.of (EP b06)⟩,hR'⟩
  ·rintro i x σ H7 hx ⟨v1,v2,rfl,b7,e7,d7,el7,erl7⟩
   obtain ⟨p,hpi,px⟩:=jam (PP b7) hx
   obtain ⟨t,rfl,ht⟩:=px
   have hil : i < ps.length:=(List.getElem?_eq_some_iff.mp hpi).1
   have ft : jg8 (ps.take (i + 1)) ns pl = jg8 (ps.take i) ns pl ++ (if decide (p.1 ∈ ns) = true then [2 * p.2 - pl p.1] else []):=by
    unfold jg8
    rw [je2 hpi,List.map_append]
    split <;> rfl
   have hrlen : (jg8 (ps.take i) ns pl).length ≤ i:=by
    unfold jg8
    rw [List.length_map]
    exact Nat.le_trans (List.length_filter_le _ _) (by rw [List.length_take]; omega)
   simp_arith [ht,jaj,el7,jdo,flat_ints,jcx]
   rw [ft]
   by_cases c : p.1 ∈ ns
   ·simp only [c,decide_true,if_true]
    simp_arith [d7,hpv]
    refine ⟨⟨rl,_,rfl,erl7⟩,.inl ⟨by decide,by decide⟩,⟨kvs,rfl⟩,?_⟩
    simp_arith [d7,hpv,erl7]
    refine ⟨szl' (by rw [List.length_map]; omega),_,_,rfl,fun b u n1 n2 q=>?_,?_,?_,?_,?_⟩
    ·rw [ja8 (ja6 q hrl0)]
     exact b7 b u n1 n2 q
    ·rw [ja8 nrs.symm]
     exact e7
    ·rw [ja8 nrp.symm]
     exact d7
    ·rw [ja8 nrl]
     exact el7
    ·rw [ja1,List.map_append]
     rfl
   ·simp only [c,decide_false,Bool.false_eq_true,if_false,List.append_nil]
    exact ⟨_,_,rfl,b7,e7,d7,erl7⟩
  rintro σ H7 ⟨v1,v2,rfl,b7,e7,d7,el7,erl7⟩
  rw [hlx,List.take_length] at erl7
  generalize hrm : jg8 ps ns pl = rms at erl7
  walk_at "RD"
  try subst hR
  refine jaa fun R hR=>?_
  walk_at "RD"
  refine ⟨rl,rms,0,rfl,rfl,erl7,fun room r0 r1 r2=>?_⟩
  walk_at "RD"
  try subst hR
  refine jaa fun R hR=>?_
  simp_arith [jaj,el7,List.length_map]
  have pd7 : PdAt H7 pd pl m:=⟨kvs,d7,hkl,hpv⟩
  by_cases c1 : ns.length < 2
  ·rw [decide_eq_true (show (ns.length : Int) < 2 by omega)]
   walk_at "RD"
   exact hN H7 o5 b7 e7 so5 pd7
  rw [decide_eq_false (show ¬ (ns.length : Int) < 2 by omega)]
  walk_at "RD"
  by_cases c2 : room < 1
  ·rw [decide_eq_true c2]
   walk_at "RD"
   exact hN H7 o5 b7 e7 so5 pd7
  rw [decide_eq_false c2]
  walk_at "RD"
  have hroom : ∀ p ∈ ps,p.1 ∈ ns→room ≤ 2 * p.2 - pl p.1:=fun p hp hn=>by
   refine r2 _ ?_
   rw [← hrm]
   exact List.mem_map.mpr ⟨p,List.mem_filter.mpr ⟨hp,decide_eq_true hn⟩,rfl⟩
  have hmax : room < 1000000000000000000:=by
   by_cases c3 : rms = []
   ·rw [r0 c3]; decide
   ·have h1:=r1 c3
    rw [← hrm] at h1
    obtain ⟨p,hp,e⟩:=List.mem_map.mp h1
    have hp':=(List.mem_filter.mp hp).1
    have:=(wok.p.nbp (by decide) p hp').2
    have:=hpl0 p.1
    omega
  try subst hR
  refine jaa fun R hR=>?_
  walk_at "RD"
  refine ⟨st,o5,room,rfl,e7,so5,by omega,hmax,fun dr o8 dr0 dr1 so8=>?_⟩
  have b8 : B2 st pd H (upd H7 st o8):=b7.trans (But.b2 (But.at st H7 o8))
  have e8 : upd H7 st o8 st = some o8:=ja1
  have d8:=But.at st H7 o8 _ _ nsp.symm d7
  have el8:=But.at st H7 o8 _ _ nls el7
  generalize upd H7 st o8 = H8 at b8 e8 d8 el8
  walk_at "RD"
  intro q9 hq9
  have s9:=ja5 hq9 (.lst [.int 1,.int room,.int (1 + dr)])
  have eq9 : upd H8 q9 (.lst [.int 1,.int room,.int (1 + dr)]) q9 = some (.lst [.int 1,.int room,.int (1 + dr)]):=ja1
  have b9 : B2 st pd H (upd H8 q9 (.lst [.int 1,.int room,.int (1 + dr)])):=b8.trans (jd5 s9)
  have e9:=s9 _ _ e8
  have d9:=s9 _ _ d8
  have el9:=s9 _ _ el8
  have nq9 : q9 ≠ st:=(ja6 e8 hq9).symm
  generalize upd H8 q9 (.lst [.int 1,.int room,.int (1 + dr)]) = H9 at eq9 b9 e9 d9 el9
  refine ⟨st,o8,3,rfl,e9,so8,by decide,by decide,fun ka o10 ka0 ka1 so10=>?_⟩
  have b10 : B2 st pd H (upd H9 st o10):=b9.trans (But.b2 (But.at st H9 o10))
  have e10 : upd H9 st o10 st = some o10:=ja1
  have d10:=But.at st H9 o10 _ _ nsp.symm d9
  have el10:=But.at st H9 o10 _ _ nls el9
  have eq10:=But.at st H9 o10 _ _ nq9 eq9
  generalize upd H9 st o10 = H10 at b10 e10 d10 el10 eq10
  obtain ⟨am,aam,am1,am2⟩ : ∃ am : Int,atI [V.int 1,.int room,.int (1 + dr)] ka = some (.int am)∧1 ≤ am∧am ≤ room:=by
   have : ka = 0 ∨ ka = 1 ∨ ka = 2:=by omega
   rcases this with rfl | rfl | rfl
   ·exact ⟨1,rfl,by omega,by omega⟩
   ·exact ⟨room,rfl,by omega,by omega⟩
   ·exact ⟨1 + dr,rfl,by omega,by omega⟩
  simp_arith [jaj,eq10,aam]
  try subst hR
  refine jaa fun R hR=>?_
  refine jav (Itl K l) H10 (fun R' hR'=>?_) (jbe (K:=K) (a:=l) (xs:=ns.map V.int) (fun j σ H11=>∃ v1 kv2,σ = [some (.ref st),some (.ref xv),some (.ref nd),some (.ref pd),some (.ref lp),some (.str w),some (.ref l),some (.ref rl),v1,v2,some (.int room),some (.int am)]∧B2 st pd H H11∧H11 st = some o10∧H11 l = some (.lst (ns.map V.int))∧H11 pd = some (.dK kv2)∧kv2.length ≤ m + j∧∀ n,(valV kv2 (Sum.inl n : Key)).getD (.int 0) = .int (pl n + am * ((ns.take j).count n : Int))) ⟨_,kvs,rfl,b10,e10,el10,d10,by omega,fun n=>by rw [hpv]; simp⟩ (fun j σ H11 _ ⟨_,_,_,_,_,e11,_⟩=>SqL.of e11) ?_ ?_)
  ·unfold jcr
   walk_at "RD"
   exact ⟨l,rfl,⟨_,SqL.of el10⟩,hR'⟩
  ·rintro j y σ H11 hj ⟨v1',kv2,rfl,b11,e11,el11,d11,hk2,hv2⟩
   obtain ⟨n,hn,rfl⟩ : ∃ n,ns[j]? = some n∧y = .int n:=by
    rw [List.getElem?_map] at hj
    cases c : ns[j]? with
    | none=>rw [c] at hj; cases hj
    | some n=>rw [c] at hj; cases hj; exact ⟨n,rfl,rfl⟩
   have hjl : j < ns.length:=(List.getElem?_eq_some_iff.mp hn).1
   simp_arith [d11,hv2]
   refine ⟨⟨kv2,rfl⟩,?_⟩
   simp_arith [d11,hv2]
   refine ⟨szg (by omega),_,_,rfl,b11.trans B2.at2,?_,?_,ja1,?_,fun k=>?_⟩
   ·rw [ja8 nsp]
    exact e11
   ·rw [ja8 nlp5]
    exact el11
   ·have:=jcv kv2 (Sum.inl n : Key) (V.int (pl n + am * ((ns.take j).count n : Int) + am))
    omega
   ·rw [jle,jbo hn,List.count_append]
    by_cases c : k = n
    ·subst c
     rw [if_pos rfl]
     simp [Int.mul_add]
     omega
    ·rw [if_neg (fun z=>c (Sum.inl.inj z)),hv2 k]
     simp [List.count_cons,Ne.symm c]
  rintro σ H11 ⟨v1',kv2,rfl,b11,e11,el11,d11,hk2,hv2⟩
  rw [List.length_map] at hk2 hv2
  rw [List.take_length] at hv2
  walk_at "RD"
  try subst hR
  walk_at "RD"
  intro u hu11
  have s12:=ja5 hu11 (.tup [.str w,.ref l,.int am])
  have nus : u ≠ st:=(ja6 e11 hu11).symm
  have nup : u ≠ pd:=(ja6 d11 hu11).symm
  refine hY u l (w,ns,am) _ o10 (b11.trans (jd5 s12)) (s12 _ _ e11) so10 (b11.free nus nup hu11) hl0 nls nlp5 nus nup ja1 (s12 _ _ el11) ⟨hrow (by omega) am am1,hnn,hn20,fun p hp hn=>?_⟩ ⟨kv2,s12 _ _ d11,by omega,hv2⟩
  have:=hroom p hp hn
  show pl p.1 + am ≤ 2 * p.2
  omega
 rcases hw01 with rfl | rfl
 ·have hwr : decide ((("all" : String) : Str) = (("ring" : String) : Str)) = false:=by decide +kernel
  simp_arith [hwr,jaj,eq4,at0]
  refine ⟨f_law_all,jjg,.head _,rfl,?_⟩
  walk_at "RD"
  refine ⟨st,o3,nd,lp,ps,ts,rfl,e4,so3,NB b4,wok,elp4,hne,fun l ns H5 o5 b5 e5 so5 hl4 nls el hin hpw hnn hn20=>?_⟩
  walk_at "RD"
  exact go l ns H5 o5 b5 e5 so5 hl4 nls el hin (fun h2 am h1=>jr6 hin hpw h2 h1) hnn hn20
 ·have hwr : decide ((("ring" : String) : Str) = (("ring" : String) : Str)) = true:=by decide +kernel
  simp_arith [hwr,jaj,eq4,at1]
  refine ⟨f_law_ring,jg3,.tail _ (.head _),rfl,?_⟩
  walk_at "RD"
  refine ⟨st,o3,nd,lp,ps,ts,rfl,e4,so3,NB b4,wok,elp4,hne,fun l ns H5 o5 b5 e5 so5 hl4 nls el hin hrg hnn hn20=>?_⟩
  walk_at "RD"
  exact go l ns H5 o5 b5 e5 so5 hl4 nls el hin (fun h2 am h1=>jpk hin (hrg.resolve_left fun z=>by rw [z] at h2; simp at h2) h1) hnn hn20
end
end My
namespace My
open PySem L2
section
variable {P : Program} {w : World} {K : PySem.W.Frag} {mg : Str→Option Value} {base : Heap} {c1 c2 c3 c4 : Tok} {C_NoWeb f_NoWeb : Addr} {dI : FuncData}
noncomputable def RowA (H : Hp) (rl : Addr) (x : V) (r : Row) : Prop:=∃ u l,x = .ref u∧H u = some (.tup [.str r.1,.ref l,.int r.2.2])∧H l = some (.lst (r.2.1.map V.int))∧l ≠ rl
theorem RowA.rep {H : Hp} {rl : Addr} {x : V} {r : Row} (h : RowA H rl x r) : Rep H (rowD r) x:=by
 obtain ⟨u,l,rfl,e1,e2,_⟩:=h
 unfold rowD
 rw [Rep]
 refine ⟨u,_,rfl,e1,?_⟩
 rw [Reps]
 refine ⟨_,_,rfl,by rw [Rep],?_⟩
 rw [Reps]
 refine ⟨_,_,rfl,jcf e2,?_⟩
 rw [Reps]
 exact ⟨_,_,rfl,by rw [Rep],by rw [Reps]⟩
structure GoodRs (ps ts : List (Int × Int)) (rows : List Row) : Prop where
 ok : ∀ r ∈ rows,rowB ps ts (rowD r) = true
 nd : ∀ r ∈ rows,r.2.1.Nodup
 len : ∀ r ∈ rows,r.2.1.length ≤ 20
theorem jm8 : ∀ {ns : List Int} {n : Int},ns.Nodup→n ∈ ns→ns.count n = 1
 | [],_,_,h=>by cases h
 | a :: r,n,h,m=>by
  have h':=List.nodup_cons.mp h
  rw [List.count_cons]
  rcases List.mem_cons.mp m with e | m
  ·subst e
   rw [List.count_eq_zero_of_not_mem h'.1]
   simp
  ·rw [jm8 h'.2 m]
   have : a ≠ n:=fun z=>h'.1 (z ▸ m)
   simp [this]
theorem GoodRs.nil (ps ts : List (Int × Int)) : GoodRs ps ts []:=⟨(fun _ h=>by cases h),(fun _ h=>by cases h),(fun _ h=>by cases h)⟩
theorem ji9 {ps ts : List (Int × Int)} {r : Row} (h : rowB ps ts (rowD r) = true) : 1 ≤ r.2.2∧(∀ n ∈ r.2.1,n ∈ ps.map (·.1))∧2 ≤ r.2.1.length:=by
 obtain ⟨w,ns,am⟩:=r
 have hp : ji8 (rowD (w,ns,am)) = some (w,ns,am):=by
  show some (w,jfk (ns.map Dt.int),am) = _
  rw [jc1]
 obtain ⟨r',e1,e2,e3,e4⟩:=jlr h
 rw [hp] at e2
 cases e2
 refine ⟨e3,e4,?_⟩
 unfold rowD rowB rowT at h
 dsimp only at h
 rw [jc1] at h
 simp only [Bool.and_eq_true] at h
 obtain ⟨_,_,h⟩:=h
 split at h
 ·unfold allB at h
  rw [Bool.and_eq_true] at h
  exact of_decide_eq_true h.2
 ·rw [Bool.and_eq_true] at h
  unfold jff at h
  simp only [Bool.and_eq_true,decide_eq_true_eq] at h
  show 2 ≤ ns.length
  omega
theorem jhm (rows : List Row) (r : Row) (n : Int) : jb3 (rows ++ [r]) n = jb3 rows n + r.2.2 * (r.2.1.count n : Int):=by
 unfold jb3
 rw [List.map_append,List.sum_append]
 simp
theorem jfo {ps ts : List (Int × Int)} {n : Int} : ∀ {rows : List Row},(∀ r ∈ rows,rowB ps ts (rowD r) = true)→0 ≤ jb3 rows n
 | [],_=>by simp [jb3]
 | r :: rs,h=>by
  have h1:=(ji9 (h r (.head _))).1
  have h2:=jfo (n:=n) fun q hq=>h q (.tail _ hq)
  have e : jb3 (r :: rs) n = r.2.2 * (r.2.1.count n : Int) + jb3 rs n:=by simp [jb3]
  rw [e]
  have : 0 ≤ r.2.2 * (r.2.1.count n : Int):=Int.mul_nonneg (by omega) (Int.natCast_nonneg _)
  omega
noncomputable def jlj : Sp:=fun vs H Q _=>∃ st o v most ps ts,vs = [.ref st,v,.int most]∧H st = some o∧StO o∧jc2 H v ps ts∧WebOk ps ts∧0 ≤ most∧most ≤ 12 ∧
 ∀ l xs rows H' o',But st H H'→H' st = some o'→StO o'→H l = none→l ≠ st→H' l = some (.lst xs)→Paired (RowA H' l) xs rows→GoodRs ps ts rows→(rows.length : Int) ≤ most→(∀ p ∈ ps,jb3 rows p.1 ≤ 2 * p.2)→Q (.ref l) H'
theorem jq4 {ts : List (Int × Int)} : eqP (.lst (ts.map jao)) (.lst []) = decide (ts = []):=by
 cases ts with
 | nil=>rfl
 | cons a r=>rw [eqP]; rfl
theorem jn1 : ∀ (ts : List (Int × Int)),depP (.lst (ts.map jao)) ≤ 20:=fun ts=>by
 have : ∀ ts : List (Int × Int),jck (ts.map jao) ≤ 1:=fun ts=>by
  induction ts with
  | nil=>simp [jck]
  | cons a r ih =>
   rw [List.map_cons,jck]
   have : depP (jao a) = 1:=by simp [jao,depP,jck]
   omega
 rw [depP]
 have:=this ts
 omega
theorem jkr {f : Addr} {fd : FuncData} {f_law_near : Addr} {d_law_near : FuncData} {f_law_take : Addr} {d_law_take : FuncData} {f_law_row : Addr} {d_law_row : FuncData} (B : Blt mg) (D : DefAt K mg "_law_rows" (top 44) ["_law_state","_law_web_here","_law_most"] f fd) (D_law_near : DefAt K mg "_law_near" (top 40) ["_law_web_here"] f_law_near d_law_near) (G_law_near : FnOk P w K mg base CX0 1 f_law_near d_law_near ["_law_web_here"] jea) (D_law_take : DefAt K mg "_law_take" (top 37) ["_law_state","_law_many"] f_law_take d_law_take) (G_law_take : FnOk P w K mg base CX0 1 f_law_take d_law_take ["_law_state","_law_many"] je9) (D_law_row : DefAt K mg "_law_row" (top 43) ["_law_state","_law_web_here","_law_book","_law_paid"] f_law_row d_law_row) (G_law_row : FnOk P w K mg base CX0 3 f_law_row d_law_row ["_law_state","_law_web_here","_law_book","_law_paid"] jng) : FnOk P w K mg base CX0 4 f fd ["_law_state","_law_web_here","_law_most"] jlj:=by
 have sc : FnScope ["_law_state","_law_web_here","_law_most","_law_book","_law_paid","_law_rows_here","_law_turn","_law_row_here"] ["_law_state","_law_web_here","_law_most"] (ja9 (top 44)):=⟨rfl,rfl,rfl,by decide +kernel,rfl,by decide +kernel,by decide +kernel⟩
 refine D.F.ok sc (fun vs H Q E h=>?_) (fun cdv A outer s H vs Q E hr h=>?_)
 ·obtain ⟨st,o,v,most,ps,ts,rfl,_⟩:=h
  rfl
 obtain ⟨st,o,v,most,ps,ts,rfl,es,so,hw,wok,m0,m1,h⟩:=h
 obtain ⟨xv,pa,ta,xs,ys,rfl,ex,ep,et,pp,pt⟩:=id hw
 have hnd:=wok.p.nodup
 have WB : ∀ {H2 : Hp},But st H H2→jc2 H2 (.ref xv) ps ts:=fun b=>hw.but es so b
 have nta:=jjw et pt es so
 have nxs : xv ≠ st:=fun z=>by
  rw [z,es] at ex
  obtain ⟨_,_,_,rfl,_⟩:=so
  cases ex
 have hu:=jb8 hr
 have hu0 : _ < PySem.cLine:=Nat.lt_of_succ_lt hu
 refine ⟨_,(ja3 (jah (i:=3) sc.nd rfl (Or.inl rfl) (jab G_law_near (hr.mono (by decide)) rfl D_law_near.m D_law_near.F.kp D_law_near.b .nil jaq (ja0 (qv 1) ja2))) (ja3 (jah (i:=4) sc.nd rfl (Or.inl rfl) jij) (ja3 (jah (i:=5) sc.nd rfl (Or.inl rfl) (jas ja2)) (ja3 (jbi PassesOwn.never rfl (jco rfl B.range (ja0 (jab G_law_take (hr.mono (by decide)) rfl D_law_take.m D_law_take.F.kp D_law_take.b .nil jaq (ja0 (qv 0) (ja0 (jai jbv (qv 2) ja4) ja2))) ja2)) (jac (i:=6) sc.nd rfl (Or.inl rfl)) (ja7 (jay (jan (jjq hr.units) (jal q_ix (qv 1) ja4 (fun _ _=>rfl)) (jas ja2) (jak _)) (ja3 (jah (i:=7) sc.nd rfl (Or.inl rfl) (jab G_law_row (hr.mono (by decide)) rfl D_law_row.m D_law_row.F.kp D_law_row.b .nil jaq (ja0 (qv 0) (ja0 (qv 1) (ja0 (qv 3) (ja0 (qv 4) ja2)))))) (ja7 (jay (jan q_notN (qv 7) jd0 (jak _)) (ja7 (jb4 (q_bm PySem.F.plainAttrs_list PySem.F.slot_list_append PySem.F.type_list_append jbr (qv 5) (ja0 (qv 7) ja2)))) jag))) jag))) (ja7 (jae (qv 5))))))),?_⟩
 refine jaa fun R hR=>?_
 walk_at "RD"
 refine ⟨_,ps,ts,rfl,hw,wok,fun nd as H1 hnd0 s1 end1 hla hnr=>?_⟩
 have nr1 : NrAt H1 nd ps ts:=⟨as,end1,hla,hnr⟩
 have e1:=s1 _ _ es
 have b1 : But st H H1:=fun b u _ q=>s1 _ _ q
 walk_at "RD"
 try subst hR
 refine jaa fun R hR=>?_
 walk_at "RD"
 intro pd hpd
 have s2:=ja5 hpd (.dK [])
 have epd2 : upd H1 pd (.dK []) pd = some (.dK []):=ja1
 have e2:=s2 _ _ e1
 have nr2:=nr1.same s2
 have b2 : But st H (upd H1 pd (.dK [])):=fun b u nb q=>s2 _ _ (b1 _ _ nb q)
 have nnp : nd ≠ pd:=ja6 end1 hpd
 have nsp : st ≠ pd:=ja6 e1 hpd
 have hpd0 : H pd = none:=s1.free hpd
 generalize upd H1 pd (.dK []) = H2 at epd2 e2 nr2 b2
 clear end1 hla hnr nr1
 try subst hR
 refine jaa fun R hR=>?_
 walk_at "RD"
 intro rl hrl
 have s3:=ja5 hrl (.lst [])
 have erl3 : upd H2 rl (.lst []) rl = some (.lst []):=ja1
 have e3:=s3 _ _ e2
 have epd3:=s3 _ _ epd2
 have b3 : But st H (upd H2 rl (.lst [])):=fun b u nb q=>s3 _ _ (b2 _ _ nb q)
 have nrs : rl ≠ st:=(ja6 e2 hrl).symm
 have nrp : rl ≠ pd:=(ja6 epd2 hrl).symm
 have hrl0 : H rl = none:=by
  cases q : H rl with
  | none=>rfl
  | some u=>rw [b2 _ _ nrs q] at hrl; cases hrl
 generalize upd H2 rl (.lst []) = H3 at s3 erl3 e3 epd3 b3
 try subst hR
 refine jaa fun R hR=>?_
 refine jcm (ι:=Int × HO) (fun i0=>Itr 0 i0.1.toNat) (fun i0=>upd H3 st i0.2) (fun i0=>0 ≤ i0.1∧i0.1 < most + 1∧StO i0.2) (fun R' hR'=>?_) (fun i0 ok0=>?_)
 ·unfold jmy
  walk_at "RD"
  exact ⟨st,o,most + 1,rfl,e3,so,by omega,by omega,fun k1 o2 k10 k11 so2=>⟨_,rfl,by omega,by omega,hR' (k1,o2) ⟨k10,k11,so2⟩⟩⟩
 obtain ⟨k1,o4⟩:=i0
 obtain ⟨k10,k11,so4⟩:=ok0
 dsimp only at k10 k11 so4
 have b4 : But st H (upd H3 st o4):=b3.trans (But.at st H3 o4)
 have e4 : upd H3 st o4 st = some o4:=ja1
 have epd4:=But.at st H3 o4 _ _ nsp.symm epd3
 have erl4:=But.at st H3 o4 _ _ nrs erl3
 refine jcc (n:=k1.toNat) (fun i σ H5=>∃ v1 v2 zs rows o5,σ = [some (.ref st),some (.ref xv),some (.int most),some (.ref nd),some (.ref pd),some (.ref rl),v1,v2]∧But st H H5∧H5 st = some o5∧StO o5∧B2 st pd H2 H5∧PdAt H5 pd (jb3 rows) (20 * i)∧H5 rl = some (.lst zs)∧Paired (RowA H5 rl) zs rows∧GoodRs ps ts rows∧rows.length ≤ i∧∀ p ∈ ps,jb3 rows p.1 ≤ 2 * p.2) ⟨none,none,[],[],o4,rfl,b4,e4,so4,(jd5 s3).trans (But.b2 (But.at st _ o4)),⟨[],epd4,by simp,fun n=>rfl⟩,erl4,.nil,GoodRs.nil ps ts,by simp,fun p hp=>?_⟩ ?_ ?_
 ·have:=(wok.p.nbp (by decide) p hp).1
  show (0 : Int) ≤ _
  omega
 ·rintro i σ H5 hi ⟨v1,v2,zs,rows,o5,rfl,b5,e5,so5,n25,pd5,erl5,pz,good,hlen,hfit⟩
  have hi13 : i < 13:=by omega
  obtain ⟨xv',pa',ta',xs',ys',ev,ex5,ep5,et5,pp5,pt5⟩:=WB b5
  cases ev
  have zz1:=ex5.symm.trans (b5 _ _ nxs ex)
  cases zz1
  simp_arith [jaj,ex5,at1]
  intro p hp
  have s6:=ja5 hp (.lst [])
  have ep6 : upd H5 p (.lst []) p = some (.lst []):=ja1
  have e6:=s6 _ _ e5
  have n26 : B2 st pd H2 (upd H5 p (.lst [])):=n25.trans (jd5 s6)
  have pd6 : PdAt (upd H5 p (.lst [])) pd (jb3 rows) (20 * i):=by
   obtain ⟨kvs,q1,q2,q3⟩:=pd5
   exact ⟨kvs,s6 _ _ q1,q2,q3⟩
  have erl6:=s6 _ _ erl5
  have pz6 : Paired (RowA (upd H5 p (.lst [])) rl) zs rows:=Paired.mapP pz fun x r ⟨u,l,q1,q2,q3,q4⟩=>⟨u,l,q1,s6 _ _ q2,s6 _ _ q3,q4⟩
  have b6 : But st H (upd H5 p (.lst [])):=fun b u nb q=>s6 _ _ (b5 _ _ nb q)
  have et6:=s6 _ _ et5
  have pt6:=Prs.same s6 pt5
  generalize upd H5 p (.lst []) = H6 at ep6 e6 n26 pd6 erl6 pz6 b6 et6 pt6
  have rt6 : Rep H6 (.lst (ts.map jao)) (.ref ta):=by
   rw [Rep]
   exact ⟨ta,_,rfl,et6,Prs.reps pt6⟩
  have rn6 : Rep H6 (.lst []) (.ref p):=by
   rw [Rep]
   exact ⟨p,[],rfl,ep6,by rw [Reps]⟩
  refine ⟨.lst (ts.map jao),.lst [],rt6,rn6,jn1 ts,.inl ⟨_,_,rfl,rfl⟩,?_⟩
  rw [jq4]
  walk_at "RD"
  by_cases c : ts = []
  ·rw [decide_eq_true c]
   walk_at "RD"
   exact ⟨_,_,zs,rows,o5,rfl,b6,e6,so5,n26,⟨_,pd6.choose_spec.1,by have:=pd6.choose_spec.2.1; omega,pd6.choose_spec.2.2⟩,erl6,pz6,good,by omega,hfit⟩
  rw [decide_eq_false c]
  have hps : ps ≠ []:=fun z=>by
   cases hts : ts with
   | nil=>exact c hts
   | cons t r =>
    have:=(wok.t.ats t (by rw [hts]; exact .head _)).2.1
    rw [z] at this
    simp [hasK,jc0,valV] at this
  walk_at "RD"
  refine ⟨st,o5,_,nd,pd,ps,ts,jb3 rows,20 * i,rfl,e6,so5,WB b6,wok,nr2.b2 epd2 e2 so nnp n26,nnp,nsp,hps,pd6,by omega,fun n=>jfo good.ok,fun H7 o7 b7 e7 so7 pd7=>?_,fun u l r H7 o7 b7 e7 so7 hu6 hl6 nls nlp nus nup eu el fit pd7=>?_⟩
  all_goals obtain ⟨kvs6,epd6,_,_⟩:=pd6
  all_goals have n27 : B2 st pd H2 H7:=n26.trans b7
  all_goals have erl7:=b7 _ _ nrs nrp erl6
  all_goals have pz7 : Paired (RowA H7 rl) zs rows:=Paired.mapP pz6 fun x r ⟨u,l,q1,q2,q3,q4⟩=>⟨u,l,q1,b7.tup epd6 e6 so5 q2,b7.lst epd6 (jhp q3 e6 so5) q3,q4⟩
  all_goals have b07 : But st H H7:=fun b u nb q=>b7 _ _ nb (fun z=>by rw [z,hpd0] at q; cases q) (b6 _ _ nb q)
  ·walk_at "RD"
   exact ⟨_,_,zs,rows,o7,rfl,b07,e7,so7,n27,⟨_,pd7.choose_spec.1,by have:=pd7.choose_spec.2.1; omega,pd7.choose_spec.2.2⟩,erl7,pz7,good,by omega,hfit⟩
  ·have hlz : zs.length = rows.length:=Paired.length pz
   have nlr : l ≠ rl:=(ja6 erl6 hl6).symm
   have nur : u ≠ rl:=(ja6 erl6 hu6).symm
   walk_at "RD"
   refine ⟨⟨rl,_,rfl,erl7⟩,?_⟩
   simp_arith [erl7]
   have hlen9 : (rows ++ [r]).length ≤ i + 1:=by rw [List.length_append]; show rows.length + 1 ≤ _; omega
   refine ⟨szl' (by omega),_,_,zs ++ [.ref u],rows ++ [r],o7,rfl,fun b w' nb q=>?_,?_,so7,?_,?_,ja1,?_,⟨fun q hq=>?_,fun q hq=>?_,fun q hq=>?_⟩,hlen9,fun q hq=>?_⟩
   ·rw [ja8 (ja6 q hrl0)]
    exact b07 b w' nb q
   ·rw [ja8 nrs.symm]
    exact e7
   ·intro b w' n1 n2 q
    rw [ja8 (ja6 q hrl)]
    exact n27 b w' n1 n2 q
   ·obtain ⟨kv7,q1,q2,q3⟩:=pd7
    refine ⟨kv7,by rw [ja8 nrp.symm]; exact q1,by omega,fun n=>?_⟩
    rw [q3,jhm]
   ·refine jca (Paired.mapP pz7 fun x q ⟨u',l',q1,q2,q3,q4⟩=>⟨u',l',q1,?_,?_,q4⟩) ⟨u,l,rfl,by rw [ja8 nur]; exact eu,by rw [ja8 nlr]; exact el,nlr⟩
    ·rw [ja8 (fun z=>by rw [z,erl7] at q2; cases q2)]
     exact q2
    ·rw [ja8 q4]
     exact q3
   ·rcases List.mem_append.mp hq with hq | hq
    ·exact good.ok q hq
    ·rw [List.mem_singleton.mp hq]; exact fit.ok
   ·rcases List.mem_append.mp hq with hq | hq
    ·exact good.nd q hq
    ·rw [List.mem_singleton.mp hq]; exact fit.nd
   ·rcases List.mem_append.mp hq with hq | hq
    ·exact good.len q hq
    ·rw [List.mem_singleton.mp hq]; exact fit.len
   ·rw [jhm]
    by_cases c9 : q.1 ∈ r.2.1
    ·rw [jm8 fit.nd c9]
     have:=fit.room q hq c9
     omega
    ·rw [List.count_eq_zero_of_not_mem c9]
     have:=hfit q hq
     omega
 ·rintro σ H5 ⟨v1,v2,zs,rows,o5,rfl,b5,e5,so5,n25,pd5,erl5,pz,good,hlen,hfit⟩
  walk_at "RD"
  try subst hR
  walk_at "RD"
  exact h rl zs rows H5 o5 b5 e5 so5 hrl0 nrs erl5 pz good (by omega) hfit
end
end My
namespace My
open PySem L2
section
variable {P : Program} {w : World} {K : PySem.W.Frag} {mg : Str→Option Value} {base : Heap} {c1 c2 c3 c4 : Tok} {C_NoWeb f_NoWeb : Addr} {dI : FuncData}
theorem row_at {H : Hp} {xs : List V} {rows : List Row} {i : Nat} {x : V} (rx : Reps H (rows.map rowD) xs) (hx : xs[i]? = some x) : ∃ r u la,rows[i]? = some r∧x = .ref u∧H u = some (.tup [.str r.1,.ref la,.int r.2.2])∧H la = some (.lst (r.2.1.map V.int)):=by
 obtain ⟨dt,hdt,rdt1⟩:=rx.at hx
 obtain ⟨r,hr1,rfl⟩ : ∃ r,rows[i]? = some r∧dt = rowD r:=by
  rw [List.getElem?_map] at hdt
  cases c : rows[i]? with
  | none=>rw [c] at hdt; cases hdt
  | some r=>rw [c] at hdt; cases hdt; exact ⟨r,rfl,rfl⟩
 unfold rowD at rdt1
 rw [Rep] at rdt1
 obtain ⟨t,vs,rfl,et,rs⟩:=rdt1
 rw [Reps] at rs
 obtain ⟨w0,r0,rfl,q0,rs⟩:=rs
 rw [Reps] at rs
 obtain ⟨w1,r1,rfl,q1,rs⟩:=rs
 rw [Reps] at rs
 obtain ⟨w2,r2,rfl,q2,rs⟩:=rs
 rw [Reps] at rs
 subst rs
 rw [Rep] at q0
 rw [Rep] at q1
 rw [Rep] at q2
 subst q0 q2
 obtain ⟨la,ys,rfl,ela,ry⟩:=q1
 have exs:=jed ry
 subst exs
 exact ⟨r,t,la,hr1,rfl,et,ela⟩
noncomputable def RowR (H : Hp) (x : V) (r : Row) : Prop:=∃ u l,x = .ref u∧H u = some (.tup [.str r.1,.ref l,.int r.2.2])∧H l = some (.lst (r.2.1.map V.int))
theorem RowR.rep {H : Hp} {x : V} {r : Row} (h : RowR H x r) : Rep H (rowD r) x:=by
 obtain ⟨u,l,rfl,e1,e2⟩:=h
 unfold rowD
 rw [Rep]
 refine ⟨u,_,rfl,e1,?_⟩
 rw [Reps]
 refine ⟨_,_,rfl,by rw [Rep],?_⟩
 rw [Reps]
 refine ⟨_,_,rfl,jcf e2,?_⟩
 rw [Reps]
 exact ⟨_,_,rfl,by rw [Rep],by rw [Reps]⟩
theorem RowR.same {H H1 : Hp} {x : V} {r : Row} (s : Same H H1) (h : RowR H x r) : RowR H1 x r:=by
 obtain ⟨u,l,e,e1,e2⟩:=h
 exact ⟨u,l,e,s _ _ e1,s _ _ e2⟩
theorem RowR.but {st : Addr} {o : HO} {H H1 : Hp} {x : V} {r : Row} (hs : H st = some o) (so : StO o) (b : But st H H1) (h : RowR H x r) : RowR H1 x r:=by
 obtain ⟨u,l,e,e1,e2⟩:=h
 refine ⟨u,l,e,b _ _ (fun z=>?_) e1,b _ _ (jhp e2 hs so) e2⟩
 obtain ⟨_,_,_,rfl,_⟩:=so
 rw [z,hs] at e1
 cases e1
noncomputable abbrev RwsR (H : Hp) (xs : List V) (rows : List Row) : Prop:=Paired (RowR H) xs rows
theorem RwsR.reps {H : Hp} : ∀ {xs : List V} {rows : List Row},RwsR H xs rows→Reps H (rows.map rowD) xs
 | _,_,.nil=>by rw [List.map_nil,Reps]
 | _,_,.cons r t=>by
  rw [List.map_cons,Reps]
  exact ⟨_,_,rfl,r.rep,RwsR.reps t⟩
theorem rwsA {H : Hp} {rl : Addr} {xs : List V} {rows : List Row} (h : Paired (RowA H rl) xs rows) : RwsR H xs rows:=Paired.mapP h fun _ _ ⟨u,l,a,b,c,_⟩=>⟨u,l,a,b,c⟩
theorem RwsR.same {H H1 : Hp} {xs : List V} {rows : List Row} (s : Same H H1) (h : RwsR H xs rows) : RwsR H1 xs rows:=Paired.mapP h fun _ _ q=>q.same s
theorem RwsR.but {st : Addr} {o : HO} {H H1 : Hp} {xs : List V} {rows : List Row} (hs : H st = some o) (so : StO o) (b : But st H H1) (h : RwsR H xs rows) : RwsR H1 xs rows:=Paired.mapP h fun _ _ q=>q.but hs so b
theorem jbc {α β : Type} {F : α→β→Prop} : ∀ {a : List α} {b : List β} (k : Nat),Paired F a b→Paired F (a.take k) (b.take k)
 | _,_,0,_=>by rw [List.take_zero,List.take_zero]; exact .nil
 | _,_,_ + 1,.nil=>.nil
 | _,_,k + 1,.cons r t=>.cons r (jbc k t)
theorem jbj {α β : Type} {F : α→β→Prop} : ∀ {a : List α} {b : List β} (k : Nat),Paired F a b→Paired F (a.drop k) (b.drop k)
 | _,_,0,h=>h
 | _,_,_ + 1,.nil=>.nil
 | _,_,k + 1,.cons r t=>jbj k t
theorem GoodRs.one {ps ts : List (Int × Int)} {r : Row} (a : rowB ps ts (rowD r) = true) (b : r.2.1.Nodup) (c : r.2.1.length ≤ 20) : GoodRs ps ts [r]:=⟨fun q hq=>by rw [List.mem_singleton.mp hq]; exact a,fun q hq=>by rw [List.mem_singleton.mp hq]; exact b,fun q hq=>by rw [List.mem_singleton.mp hq]; exact c⟩
noncomputable def gOne (r : Row) : Int:=if r.1 = (("all" : String) : Str) then (r.2.1.length : Int) - 1 else ((r.2.1.length : Int) + 1) / 2
noncomputable def gAll (rows : List Row) : Int:=(rows.map fun r=>gOne r * r.2.2).sum
noncomputable def jqo : Sp:=fun vs H Q _=>∃ x r,vs = [x]∧RowR H x r∧Q (.int (gOne r)) H
noncomputable def spGBy : Sp:=fun vs H Q _=>∃ l xs rows,vs = [.ref l]∧H l = some (.lst xs)∧Reps H (rows.map rowD) xs∧rows.length ≤ 900∧(∀ r ∈ rows,r.2.1.length ≤ 900)∧∀ H',Same H H'→Q (.int (gAll rows)) H'
noncomputable def jqn : Sp:=fun vs H Q _=>∃ n,vs = [.int n]∧Q (.int ((n + 1) / 2)) H
theorem jfi {f : Addr} {fd : FuncData}  (B : Blt mg) (D : DefAt K mg "given_for_one" (top 30) ["row"] f fd) : FnOk P w K mg base CX0 1 f fd ["row"] jqo:=by
 have sc : FnScope ["row","many"] ["row"] (ja9 (top 30)):=⟨rfl,rfl,rfl,by decide +kernel,rfl,by decide +kernel,by decide +kernel⟩
 refine D.F.ok sc (fun vs H Q E h=>?_) (fun cdv A outer s H vs Q E hr h=>?_)
 ·obtain ⟨x,r,rfl,_⟩:=h
  rfl
 obtain ⟨x,r,rfl,⟨u,la,rfl,eu,el⟩,h⟩:=h
 have hu:=jb8 hr
 have hu0 : _ < PySem.cLine:=Nat.lt_of_succ_lt hu
 refine ⟨_,(ja3 (jah (i:=1) sc.nd rfl (Or.inl rfl) (jad jci rfl B.len PySem.boot_len (ja0 (jal q_ix (qv 0) ja4 (fun _ _=>rfl)) ja2))) (ja7 (jae (jpv (jan q_eq (jal q_ix (qv 0) ja4 (fun _ _=>rfl)) jbb (jak _)) (jai jee (qv 1) ja4) (jai jhg (jai jbv (qv 1) ja4) ja4))))),?_⟩
 simp_arith [jaj,eu,el,at0,at1]
 rw [List.length_map]
 unfold gOne at h
 by_cases c : r.1 = (("all" : String) : Str)
 ·rw [if_pos (decide_eq_true c)]
  rw [if_pos c] at h
  exact h
 ·rw [if_neg (fun z=>c (of_decide_eq_true z))]
  rw [if_neg c] at h
  exact ⟨⟨by decide,by decide⟩,h⟩
theorem jkw {f : Addr} {fd : FuncData} {f_given_for_one : Addr} {d_given_for_one : FuncData} (B : Blt mg) (D : DefAt K mg "given_by" (top 31) ["rows"] f fd) (D_given_for_one : DefAt K mg "given_for_one" (top 30) ["row"] f_given_for_one d_given_for_one) (G_given_for_one : FnOk P w K mg base CX0 1 f_given_for_one d_given_for_one ["row"] jqo) : FnOk P w K mg base CX0 2 f fd ["rows"] spGBy:=by
 have sc : FnScope ["rows"] ["rows"] (ja9 (top 31)):=⟨rfl,rfl,rfl,by decide +kernel,rfl,by decide +kernel,by decide +kernel⟩
 refine D.F.ok sc (fun vs H Q E h=>?_) (fun cdv A outer s H vs Q E hr h=>?_)
 ·obtain ⟨l,xs,rows,rfl,_⟩:=h
  rfl
 obtain ⟨l,xs,rows,rfl,el,rx,hl9,hw9,h⟩:=h
 have hlx : xs.length = rows.length:=by rw [rx.len,List.length_map]
 have hu:=jb8 hr
 have hu0 : _ < PySem.cLine:=Nat.lt_of_succ_lt hu
 refine ⟨_,(ja7 (jae (jad (q_sum rfl) rfl B.sum PyProof.Rows.boot_sum (ja0 (jgi (CpScope.of (N:=["row"]) (src:=[none]) (by rfl)) rfl (jb5 (qv 0)) (fun _ _ _ _=>(jac (i:=0) (jb7 (l:=["row"]) (by rfl)) rfl (Or.inl rfl))) (fun _ _ _ _=>jgg) (fun _ _ _ _=>(jai jgy (jab G_given_for_one (hr.mono (by decide)) rfl D_given_for_one.m D_given_for_one.F.kp D_given_for_one.b .nil jaq (ja0 (qv 0) ja2)) (jal q_ix (qv 0) ja4 (fun _ _=>rfl))))) ja2)))),?_⟩
 walk_at "RD"
 refine jby (Itl K l) H (fun R hR=>?_) (fun z hz=>jcy rows.length (fun i σ' Hc=>∃ w1,σ' = [w1]∧Same H Hc∧Hc z = some (.lst (((rows.take i).map fun r=>gOne r * r.2.2).map V.int))) ⟨none,rfl,ja5 hz _,ja1⟩ ?_ ?_)
 ·unfold jcr
  walk_at "RD"
  exact ⟨l,rfl,⟨_,SqL.of el⟩,hR⟩
 ·rintro i σ' Hc hi ⟨w1,rfl,s4,ez⟩
  have x1 : xs[i]? = some (xs[i]'(by omega)):=List.getElem?_eq_getElem _
  have z1 : SqL K Hc l xs:=SqL.of (s4 _ _ el)
  refine ⟨⟨_,_,z1,x1⟩,?_⟩
  rintro y H' ⟨rfl,hy⟩
  obtain ⟨r,u,la,hri,rfl,eu,ela⟩:=row_at rx (hy _ z1)
  have eu':=s4 _ _ eu
  have ela':=s4 _ _ ela
  walk_at "RD"
  refine ⟨_,r,rfl,⟨u,la,rfl,eu',ela'⟩,?_⟩
  simp_arith [jaj,eu',at2]
  have h9:=hw9 r (List.mem_of_getElem? hri)
  have hg : 0 - 1 ≤ gOne r∧gOne r ≤ 1000:=by
   unfold gOne
   split <;> omega
  refine ⟨.inl ⟨by omega,by omega⟩,_,ez,?_,_,rfl,jc5 s4 hz,?_⟩
  ·rw [List.length_map,List.length_map,List.length_take]
   exact szl' (by omega)
  ·rw [ja1,jbo hri,List.map_append,List.map_append]
   rfl
 rintro σ' H1 ⟨w1,rfl,s1,ez⟩
 refine ⟨⟨_,SqL.of (s1 _ _ el),by omega⟩,?_⟩
 rw [List.take_length] at ez
 exact ⟨z,_,rfl,ez,h H1 s1⟩
theorem jmp {f : Addr} {fd : FuncData}  (B : Blt mg) (D : DefAt K mg "half_up" (top 32) ["worth"] f fd) : FnOk P w K mg base CX0 1 f fd ["worth"] jqn:=by
 have sc : FnScope ["worth"] ["worth"] (ja9 (top 32)):=⟨rfl,rfl,rfl,by decide +kernel,rfl,by decide +kernel,by decide +kernel⟩
 refine D.F.ok sc (fun vs H Q E h=>?_) (fun cdv A outer s H vs Q E hr h=>?_)
 ·obtain ⟨n,rfl,_⟩:=h
  rfl
 obtain ⟨n,rfl,h⟩:=h
 have hu:=jb8 hr
 have hu0 : _ < PySem.cLine:=Nat.lt_of_succ_lt hu
 refine ⟨_,(ja7 (jae (jai jhg (jai jbv (qv 0) ja4) ja4))),?_⟩
 walk_at "RD"
 exact ⟨⟨by decide,by decide⟩,h⟩
end
end My
namespace My
open PySem L2
section
variable {P : Program} {w : World} {K : PySem.W.Frag} {mg : Str→Option Value} {base : Heap} {c1 c2 c3 c4 : Tok} {C_NoWeb f_NoWeb : Addr} {dI : FuncData}
noncomputable def jct (g : Int→Int) (CW CR CO : Addr) : Sp:=fun vs H Q E=>∃ v dw u,vs = [v,u]∧Rep H dw v∧RefW CW H E dw∧∀ ps ts,dw = webD ps ts→WebOk ps ts→∃ d,Rep H d u∧jj8 d ∧
 (∀ n,jd1 ps ts d = some n→Ref1 CR H E "number" (nV n))∧(jd1 ps ts d = none→(∀ p,jkn ps (jg7 d) = some p→Ref1 CO H E "place" (.int p))∧(jkn ps (jg7 d) = none→∀ H',Same H H'→Q (.int (g (gAll (jg7 d)))) H'))
theorem jkz {ps ts : List (Int × Int)} {d : Dt} (h : jd1 ps ts d = none) : ∃ rows : List Row,d = .lst (rows.map rowD)∧jg7 d = rows∧rows.length ≤ 200∧∀ r ∈ rows,1 ≤ r.2.2∧∀ n ∈ r.2.1,n ∈ ps.map (·.1):=by
 cases d with
 | lst ds =>
  unfold jd1 at h
  dsimp only at h
  by_cases c : ds.length ≤ 200
  ·rw [if_pos c] at h
   have hb : jcn ps ts 0 ds = none:=by
    cases q : jcn ps ts 0 ds with
    | none=>rfl
    | some k=>rw [q] at h; cases h
   obtain ⟨e,hr⟩:=jdz hb
   refine ⟨ds.filterMap ji8,by rw [← e],rfl,Nat.le_trans (List.length_filterMap_le _ _) c,hr⟩
  ·rw [if_neg c] at h
   cases h
 | _=>cases h
theorem jq2 {rows : List Row} (h : jj8 (.lst (rows.map rowD))) : ∀ r ∈ rows,r.2.1.length ≤ 900:=fun r hr=>by
 have:=h _ rfl (rowD r) (List.mem_map_of_mem hr) _ _ _ rfl
 simpa using this
theorem jko {f : Addr} {fd : FuncData} {f_look_at_rows : Addr} {d_look_at_rows : FuncData} {f_given_by : Addr} {d_given_by : FuncData} (B : Blt mg) (D : DefAt K mg "worth_of" (top 33) ["web","rows"] f fd) (D_look_at_rows : DefAt K mg "look_at_rows" (top 29) ["web","thing"] f_look_at_rows d_look_at_rows) (G_look_at_rows : FnOk P w K mg base (CXE P w) 6 f_look_at_rows d_look_at_rows ["web","thing"] (jes C_NoWeb C_NoRows C_Overpaid)) (D_given_by : DefAt K mg "given_by" (top 31) ["rows"] f_given_by d_given_by) (G_given_by : FnOk P w K mg base CX0 2 f_given_by d_given_by ["rows"] spGBy) : FnOk P w K mg base (CXE P w) 7 f fd ["web","rows"] (jct id C_NoWeb C_NoRows C_Overpaid):=by
 have sc : FnScope ["web","rows"] ["web","rows"] (ja9 (top 33)):=⟨rfl,rfl,rfl,by decide +kernel,rfl,by decide +kernel,by decide +kernel⟩
 refine D.F.okX sc (fun vs H Q E h=>?_) (fun cdv A outer s H vs Q E hr h=>?_)
 ·obtain ⟨v,dw,u,rfl,_⟩:=h
  rfl
 obtain ⟨v,dw,u,rfl,hdw,hrw,h⟩:=h
 have hu:=jb8 hr
 have hu0 : _ < PySem.cLine:=Nat.lt_of_succ_lt hu
 refine ⟨_,(ja3 (jb4 (jeg G_look_at_rows (hr.mono (by decide)) rfl D_look_at_rows.m D_look_at_rows.F.kp D_look_at_rows.b .nil (jmh ⟨rfl,rfl,rfl,fun _=>rfl⟩) (ja0 (qv 0) (ja0 (qv 1) ja2)))) (ja7 (jae (jab G_given_by (hr.mono (by decide)) rfl D_given_by.m D_given_by.F.kp D_given_by.b .nil jaq (ja0 (qv 1) ja2))))),?_⟩
 refine jaa fun R hR=>?_
 walk_at "RD"
 refine ⟨v,dw,u,rfl,hdw,hrw,fun ps ts e wok=>?_⟩
 obtain ⟨d,hd,fit,hN,hO⟩:=h ps ts e wok
 refine ⟨d,hd,fit,hN,fun en=>⟨(hO en).1,fun eo H1 s1=>?_⟩⟩
 subst hR
 obtain ⟨rows,rfl,hrd,hl,_⟩:=jkz en
 have hq:=(hO en).2 eo
 rw [hrd] at hq
 rw [Rep] at hd
 obtain ⟨l,xs,rfl,el,rx⟩:=hd
 walk_at "RD"
 exact ⟨l,xs,rows,rfl,s1 _ _ el,Reps.same s1 _ rx,by omega,jq2 fit,fun H2 s2=>hq H2 (s1.trans s2)⟩
theorem jkx {f : Addr} {fd : FuncData} {f_worth_of : Addr} {d_worth_of : FuncData} {f_half_up : Addr} {d_half_up : FuncData} (B : Blt mg) (D : DefAt K mg "bound_of" (top 34) ["web","rows"] f fd) (D_worth_of : DefAt K mg "worth_of" (top 33) ["web","rows"] f_worth_of d_worth_of) (G_worth_of : FnOk P w K mg base (CXE P w) 7 f_worth_of d_worth_of ["web","rows"] (jct id C_NoWeb C_NoRows C_Overpaid)) (D_half_up : DefAt K mg "half_up" (top 32) ["worth"] f_half_up d_half_up) (G_half_up : FnOk P w K mg base CX0 1 f_half_up d_half_up ["worth"] jqn) : FnOk P w K mg base (CXE P w) 8 f fd ["web","rows"] (jct (fun n=>(n + 1) / 2) C_NoWeb C_NoRows C_Overpaid):=by
 have sc : FnScope ["web","rows"] ["web","rows"] (ja9 (top 34)):=⟨rfl,rfl,rfl,by decide +kernel,rfl,by decide +kernel,by decide +kernel⟩
 refine D.F.okX sc (fun vs H Q E h=>?_) (fun cdv A outer s H vs Q E hr h=>?_)
 ·obtain ⟨v,dw,u,rfl,_⟩:=h
  rfl
 obtain ⟨v,dw,u,rfl,hdw,hrw,h⟩:=h
 have hu:=jb8 hr
 have hu0 : _ < PySem.cLine:=Nat.lt_of_succ_lt hu
 refine ⟨_,(ja7 (jae (jab G_half_up (hr.mono (by decide)) rfl D_half_up.m D_half_up.F.kp D_half_up.b .nil jaq (ja0 (jeg G_worth_of (hr.mono (by decide)) rfl D_worth_of.m D_worth_of.F.kp D_worth_of.b .nil (jmh ⟨rfl,rfl,rfl,fun _=>rfl⟩) (ja0 (qv 0) (ja0 (qv 1) ja2))) ja2)))),?_⟩
 walk_at "RD"
 refine ⟨v,dw,u,rfl,hdw,hrw,fun ps ts e wok=>?_⟩
 obtain ⟨d,hd,fit,hN,hO⟩:=h ps ts e wok
 refine ⟨d,hd,fit,hN,fun en=>⟨(hO en).1,fun eo H1 s1=>?_⟩⟩
 walk_at "RD"
 exact ⟨_,rfl,(hO en).2 eo H1 s1⟩
end
end My
namespace My
open PySem L2
section
variable {P : Program} {w : World} {K : PySem.W.Frag} {mg : Str→Option Value} {base : Heap} {c1 c2 c3 c4 : Tok} {C_NoWeb f_NoWeb : Addr} {dI : FuncData}
theorem jft : ∀ {ps : List (Int × Int)} {n : Int},hasK (jc0 ps) n = true→∃ p ∈ ps,p.1 = n
 | [],n,h=>by simp [hasK,jc0,valV] at h
 | q :: r,n,h=>by
  by_cases c : q.1 = n
  ·exact ⟨q,List.mem_cons_self,c⟩
  ·have hd : decide ((Sum.inl q.1 : Key) = Sum.inl n) = false:=decide_eq_false fun z=>c (Sum.inl.inj z)
   unfold hasK jc0 valV at h
   rw [List.map_cons,List.find?_cons] at h
   dsimp only at h
   rw [hd] at h
   obtain ⟨p,hp,e⟩:=jft (ps:=r) (n:=n) h
   exact ⟨p,List.mem_cons_of_mem _ hp,e⟩
theorem PlOk.le : ∀ {ps : List (Int × Int)} {l s : Int},PlOk l s ps→∀ p ∈ ps,p.1 ≤ 999
 | [],_,_,_,_,h=>by cases h
 | q :: r,l,s,h,p,hp=>by
  rcases List.mem_cons.mp hp with e | hp
  ·rw [e]; exact h.1.2.1
  ·exact PlOk.le h.2 p hp
theorem jgf {H : Hp} {v : V} {p : Int × Int} (h : Pr H v p) : Rep H (jao p) v:=by
 obtain ⟨t,e,q⟩:=h
 unfold jao
 rw [Rep]
 refine ⟨t,_,e,q,?_⟩
 rw [Reps]
 refine ⟨_,_,rfl,by rw [Rep],?_⟩
 rw [Reps]
 exact ⟨_,_,rfl,by rw [Rep],by rw [Reps]⟩
noncomputable def sumP (ps : List (Int × Int)) : Int:=(ps.map (·.2)).sum
theorem jex : ∀ {ps : List (Int × Int)} {l s : Int} {k : Nat} {os : List (Option (Int × Int))},PlOk l s ps→jd8 l s k (ps.map some ++ os) = jd8 (jcw l ps) (s + sumP ps) (k + ps.length) os
 | [],l,s,k,os,_=>by simp [sumP,jcw]
 | p :: r,l,s,k,os,h=>by
  rw [List.map_cons,List.cons_append,jd8,if_pos (show plS l s (some p) = true from decide_eq_true h.1),jex h.2]
  have e1 : s + p.2 + sumP r = s + sumP (p :: r):=by simp [sumP]; omega
  have e2 : k + 1 + r.length = k + (p :: r).length:=by simp; omega
  have e3 : jcw p.1 r = jcw l (p :: r):=rfl
  rw [e1,e2,e3]
theorem jhf {kvs : List (Key × V)} : ∀ {ts : List (Int × Int)} {q : Int × Int} {k : Nat} {os : List (Option (Int × Int))},TiOk kvs q ts→jd4 kvs q k (ts.map some ++ os) = jd4 kvs (jel q ts) (k + ts.length) os
 | [],q,k,os,_=>by simp [jel]
 | p :: r,q,k,os,h=>by
  have c : tiS kvs q (some p) = true:=by
   unfold tiS
   simp only [Bool.and_eq_true,decide_eq_true_eq]
   exact ⟨h.1.1,h.1.2.1,h.1.2.2.1,h.1.2.2.2⟩
  rw [List.map_cons,List.cons_append,jd4,if_pos c,jhf h.2]
  have e2 : k + 1 + r.length = k + (p :: r).length:=by simp; omega
  rw [e2]
  rfl
theorem PlOk.take : ∀ {ps : List (Int × Int)} {l s : Int} (n : Nat),PlOk l s ps→PlOk l s (ps.take n)
 | _,_,_,0,_=>trivial
 | [],_,_,n + 1,_=>trivial
 | p :: r,l,s,n + 1,h=>⟨h.1,PlOk.take n h.2⟩
theorem TiOk.take {kvs : List (Key × V)} : ∀ {ts : List (Int × Int)} {q : Int × Int} (n : Nat),TiOk kvs q ts→TiOk kvs q (ts.take n)
 | _,_,0,_=>trivial
 | [],_,n + 1,_=>trivial
 | p :: r,q,n + 1,h=>⟨h.1,TiOk.take n h.2⟩
theorem PlOk.at : ∀ {ps : List (Int × Int)} {l s : Int} {i : Nat} {p : Int × Int},PlOk l s ps→ps[i]? = some p→jcw l (ps.take i) < p.1∧p.1 ≤ 999∧1 ≤ p.2∧p.2 ≤ 1000000000000 - (s + sumP (ps.take i))
 | [],_,_,i,p,_,e=>by simp at e
 | q :: r,l,s,0,p,h,e=>by
  simp at e
  subst e
  have:=h.1
  simp only [List.take_zero,jcw,sumP,List.map_nil,List.sum_nil,Int.add_zero]
  exact this
 | q :: r,l,s,i + 1,p,h,e=>by
  have:=PlOk.at (i:=i) h.2 (by simpa using e)
  rw [List.take_succ_cons]
  have e1 : sumP (q :: r.take i) = q.2 + sumP (r.take i):=by simp [sumP]
  rw [e1]
  have e3 : jcw l (q :: r.take i) = jcw q.1 (r.take i):=rfl
  rw [e3]
  omega
theorem jhr {ps : List (Int × Int)} {l : Int} {i : Nat} {p : Int × Int} (h : ps[i]? = some p) : jcw l (ps.take (i + 1)) = p.1:=by
 rw [List.take_succ,h]
 exact jdn
theorem jhq {ts : List (Int × Int)} {q : Int × Int} {i : Nat} {p : Int × Int} (h : ts[i]? = some p) : jel q (ts.take (i + 1)) = p:=by
 rw [List.take_succ,h]
 exact jdm
theorem jne {ps : List (Int × Int)} {i : Nat} {p : Int × Int} (h : ps[i]? = some p) : sumP (ps.take (i + 1)) = sumP (ps.take i) + p.2:=by
 rw [List.take_succ,h]
 unfold sumP
 rw [List.map_append,List.sum_append]
 simp
theorem TiOk.at {kvs : List (Key × V)} : ∀ {ts : List (Int × Int)} {q : Int × Int} {i : Nat} {p : Int × Int},TiOk kvs q ts→ts[i]? = some p→HT.lexLt [(jel q (ts.take i)).1,(jel q (ts.take i)).2] [p.1,p.2] = true∧p.1 < p.2∧hasK kvs p.1 = true∧hasK kvs p.2 = true
 | [],_,i,p,_,e=>by simp at e
 | t :: r,q,0,p,h,e=>by
  simp at e
  subst e
  exact h.1
 | t :: r,q,i + 1,p,h,e=>TiOk.at (i:=i) (ts:=r) h.2 (by simpa using e)
theorem jda (a b c d : Int) : HT.lexLt [a,b] [c,d] = true ↔ a < c ∨ (a = c∧b < d):=by
 simp only [HT.lexLt]
 by_cases h1 : a = c
 ·subst h1
  by_cases h2 : b = d <;> simp [h2] <;> omega
 ·simp [h1]
theorem PlOk.sum0 : ∀ {ps : List (Int × Int)} {l s : Int},PlOk l s ps→0 ≤ sumP ps
 | [],_,_,_=>by simp [sumP]
 | p :: r,_,_,h=>by
  have:=PlOk.sum0 h.2
  have:=h.1
  have e : sumP (p :: r) = p.2 + sumP r:=by simp [sumP]
  omega
section
variable {ps ts : List (Int × Int)}
theorem jds {ds : List Dt} {n : Nat} {o : Option (Int × Int)} {r : List (Option (Int × Int))} (good : List (Int × Int)) (h1 : PlOk (-1) 0 good) (e : ds.map prO = good.map some ++ o :: r) (hn : n = good.length) (hl : ds.length ≤ 40)
  (hb : plS (jcw (-1) good) (sumP good) o = false) (x : Dt) : jax (.tup [.lst ds,x]) = some (("places" : Str),some n):=by
 have en : jfj (.lst ds) = some (some n):=by
  unfold jfj noPl
  dsimp only
  rw [List.length_map,if_pos hl,e,jex h1,hn]
  cases o with
  | none=>simp [jd8]
  | some p =>
   rw [jd8]
   rw [Int.zero_add,hb]
   simp
 unfold jax
 dsimp only
 rw [en]
theorem jaw (ps : List (Int × Int)) : (ps.map jao).map prO = ps.map some:=by
 rw [List.map_map]
 rfl
theorem jog (wok : WebOk ps ts) : jfj (.lst (ps.map jao)) = none:=by
 unfold jfj noPl
 dsimp only
 rw [jaw,List.length_map,if_pos wok.pl]
 have:=jex (k:=0) (os:=[]) wok.p
 rw [List.append_nil] at this
 rw [this]
 rfl
theorem jnx (ps : List (Int × Int)) : psD (.lst (ps.map jao)) = ps:=by
 show psOf ((ps.map jao).map prO) = ps
 rw [jaw]
 exact jge ps
theorem jfx (wok : WebOk ps ts) {ds : List Dt} {n : Nat} {o : Option (Int × Int)} {r : List (Option (Int × Int))} (good : List (Int × Int)) (h1 : TiOk (jc0 ps) (-1,-1) good) (e : ds.map prO = good.map some ++ o :: r) (hn : n = good.length) (hl : ds.length ≤ 120)
  (hb : tiS (jc0 ps) (jel (-1,-1) good) o = false) : jax (.tup [.lst (ps.map jao),.lst ds]) = some (("ties" : Str),some n):=by
 have en : jh4 (jc0 ps) (.lst ds) = some (some n):=by
  unfold jh4 noTi
  dsimp only
  rw [List.length_map,if_pos hl,e,jhf h1,hn]
  cases o with
  | none=>simp [jd4]
  | some p =>
   rw [jd4,hb]
   simp
 unfold jax
 dsimp only
 rw [jog wok]
 dsimp only
 rw [jnx,en]
theorem bad0 (x : Dt) (ds : List Dt) : jax (.tup [.tup ds,x]) = some (("places" : Str),none):=rfl
theorem bad1 (wok : WebOk ps ts) (ds : List Dt) : jax (.tup [.lst (ps.map jao),.tup ds]) = some (("ties" : Str),none):=by
 unfold jax
 dsimp only
 rw [jog wok]
 rfl
theorem jk6 {α : Type} {l : List α} {i : Nat} {x : α} (h : l[i]? = some x) : l.drop i = x :: l.drop (i + 1):=by
 obtain ⟨hi,e⟩:=List.getElem?_eq_some_iff.mp h
 rw [List.drop_eq_getElem_cons hi,e]
theorem mapS (l r : List (Int × Int)) : ((l.map jao) ++ (r.map jao)).map prO = l.map some ++ r.map some:=by
 rw [List.map_append,jaw,jaw]
theorem bad2 (wok : WebOk ps ts) (h39 : ps.length ≤ 39) {i : Nat} (hi : i < ps.length) (x : Dt) : jax (.tup [.lst ((ps.take (i + 1)).map jao ++ (ps.drop i).map jao),x]) = some (("places" : Str),some (i + 1)):=by
 have hx : ps[i]? = some ps[i]:=List.getElem?_eq_getElem hi
 generalize ps[i] = p at hx
 refine jds (o:=some p) (r:=(ps.drop (i + 1)).map some) (ps.take (i + 1)) (wok.p.take _) ?_ ?_ ?_ ?_ x
 ·rw [mapS,jk6 hx]; rfl
 ·rw [List.length_take]; omega
 ·simp only [List.length_append,List.length_map,List.length_take,List.length_drop]; omega
 ·rw [jhr hx]; exact decide_eq_false (by omega)
theorem bad3 (wok : WebOk ps ts) {i : Nat} {p : Int × Int} (hx : ps[i]? = some p) {d : Dt} (hd : prO d = none ∨ prO d = some (p.1,0) ∨ prO d = some (p.1,1000000000001)) (x : Dt) : jax (.tup [.lst ((ps.take i).map jao ++ [d] ++ (ps.drop (i + 1)).map jao),x]) = some (("places" : Str),some i):=by
 have hi : i < ps.length:=(List.getElem?_eq_some_iff.mp hx).1
 have h40:=wok.pl
 refine jds (o:=prO d) (r:=(ps.drop (i + 1)).map some) (ps.take i) (wok.p.take _) ?_ ?_ ?_ ?_ x
 ·rw [List.map_append,List.map_append,jaw,jaw,List.append_assoc]; rfl
 ·rw [List.length_take]; omega
 ·simp only [List.length_append,List.length_map,List.length_take,List.length_drop,List.length_cons,List.length_nil]; omega
 ·have h0:=(wok.p.take i).sum0
  rcases hd with e | e | e
  ·rw [e]; rfl
  ·rw [e]; exact decide_eq_false (by show ¬ (_∧_∧(1 : Int) ≤ 0∧_); omega)
  ·rw [e]; exact decide_eq_false (by show ¬ (_∧_∧_∧(1000000000001 : Int) ≤ _); omega)
theorem PlOk.snoc2 : ∀ {ps : List (Int × Int)} {l s : Int} {p : Int × Int},PlOk l s ps→(jcw l ps < p.1∧p.1 ≤ 999∧1 ≤ p.2∧p.2 ≤ 1000000000000 - (s + sumP ps))→PlOk l s (ps ++ [p])
 | [],l,s,p,_,h=>by
  refine ⟨?_,trivial⟩
  simp only [jcw,sumP,List.map_nil,List.sum_nil,Int.add_zero] at h
  exact h
 | q :: r,l,s,p,h1,h=>by
  refine ⟨h1.1,PlOk.snoc2 h1.2 ?_⟩
  have e1 : sumP (q :: r) = q.2 + sumP r:=by simp [sumP]
  rw [e1] at h
  have e3 : jcw l (q :: r) = jcw q.1 r:=rfl
  rw [e3] at h
  omega
theorem bad7 (wok : WebOk ps ts) {i : Nat} {p q : Int × Int} (hp : ps[i]? = some p) (hq : ps[i + 1]? = some q) (x : Dt) : jax (.tup [.lst ((ps.take i).map jao ++ [jao q,jao p] ++ (ps.drop (i + 2)).map jao),x]) = some (("places" : Str),some (i + 1)):=by
 have hi : i + 1 < ps.length:=(List.getElem?_eq_some_iff.mp hq).1
 have h40:=wok.pl
 have a1:=wok.p.at hp
 have a2:=wok.p.at hq
 rw [jhr hp,jne hp] at a2
 have g : PlOk (-1) 0 (ps.take i ++ [q]):=PlOk.snoc2 (wok.p.take i) (by omega)
 refine jds (o:=some p) (r:=(ps.drop (i + 2)).map some) (ps.take i ++ [q]) g ?_ ?_ ?_ ?_ x
 ·rw [List.map_append,List.map_append,jaw,jaw,List.map_append,List.append_assoc,List.append_assoc]; rfl
 ·rw [List.length_append,List.length_take,List.length_cons,List.length_nil]; omega
 ·simp only [List.length_append,List.length_map,List.length_take,List.length_drop,List.length_cons,List.length_nil]; omega
 ·rw [jdn]; exact decide_eq_false (by omega)
theorem bad9 (wok : WebOk ps ts) (h39 : ps.length ≤ 39) (x : Dt) : jax (.tup [.lst (ps.map jao ++ [jao (1000,1)]),x]) = some (("places" : Str),some ps.length):=by
 refine jds (o:=some (1000,1)) (r:=[]) ps wok.p ?_ rfl ?_ ?_ x
 ·rw [List.map_append,jaw]; rfl
 ·simp only [List.length_append,List.length_map,List.length_cons,List.length_nil]; omega
 ·exact decide_eq_false (by show ¬ (_∧(1000 : Int) ≤ 999∧_); omega)
theorem bad4 (wok : WebOk ps ts) (h119 : ts.length ≤ 119) {i : Nat} (hi : i < ts.length) : jax (.tup [.lst (ps.map jao),.lst ((ts.take (i + 1)).map jao ++ (ts.drop i).map jao)]) = some (("ties" : Str),some (i + 1)):=by
 have hx : ts[i]? = some ts[i]:=List.getElem?_eq_getElem hi
 generalize ts[i] = p at hx
 refine jfx wok (o:=some p) (r:=(ts.drop (i + 1)).map some) (ts.take (i + 1)) (wok.t.take _) ?_ ?_ ?_ ?_
 ·rw [mapS,jk6 hx]; rfl
 ·rw [List.length_take]; omega
 ·simp only [List.length_append,List.length_map,List.length_take,List.length_drop]; omega
 ·rw [jhq hx]
  unfold tiS
  rw [Bool.and_eq_false_iff]
  refine .inl ?_
  rw [Bool.eq_false_iff]
  intro z
  rw [jda] at z
  omega
theorem bad5 (wok : WebOk ps ts) {i : Nat} {p : Int × Int} (hx : ts[i]? = some p) : jax (.tup [.lst (ps.map jao),.lst ((ts.take i).map jao ++ [jao (p.2,p.1)] ++ (ts.drop (i + 1)).map jao)]) = some (("ties" : Str),some i):=by
 have hi : i < ts.length:=(List.getElem?_eq_some_iff.mp hx).1
 have h120:=wok.tl
 have a:=wok.t.at hx
 refine jfx wok (o:=some (p.2,p.1)) (r:=(ts.drop (i + 1)).map some) (ts.take i) (wok.t.take _) ?_ ?_ ?_ ?_
 ·rw [List.map_append,List.map_append,jaw,jaw,List.append_assoc]; rfl
 ·rw [List.length_take]; omega
 ·simp only [List.length_append,List.length_map,List.length_take,List.length_drop,List.length_cons,List.length_nil]; omega
 ·unfold tiS
  rw [Bool.and_eq_false_iff]
  refine .inr ?_
  rw [Bool.and_eq_false_iff]
  exact .inl (decide_eq_false (by show ¬ (p.2 < p.1); omega))
theorem bad6 (wok : WebOk ps ts) {i : Nat} {p q : Int × Int} (hp : ts[i]? = some p) (hq : ts[i + 1]? = some q) : jax (.tup [.lst (ps.map jao),.lst ((ts.take i).map jao ++ [jao q,jao p] ++ (ts.drop (i + 2)).map jao)]) = some (("ties" : Str),some (i + 1)):=by
 have hi : i + 1 < ts.length:=(List.getElem?_eq_some_iff.mp hq).1
 have h120:=wok.tl
 have a1:=wok.t.at hp
 have a2:=wok.t.at hq
 rw [jhq hp] at a2
 have l1:=(jda _ _ _ _).mp a1.1
 have l2:=(jda _ _ _ _).mp a2.1
 have g : TiOk (jc0 ps) (-1,-1) (ts.take i ++ [q]):=TiOk.snoc (wok.t.take i) ⟨(jda _ _ _ _).mpr (by omega),a2.2⟩
 refine jfx wok (o:=some p) (r:=(ts.drop (i + 2)).map some) (ts.take i ++ [q]) g ?_ ?_ ?_ ?_
 ·rw [List.map_append,List.map_append,jaw,jaw,List.map_append,List.append_assoc,List.append_assoc]; rfl
 ·rw [List.length_append,List.length_take,List.length_cons,List.length_nil]; omega
 ·simp only [List.length_append,List.length_map,List.length_take,List.length_drop,List.length_cons,List.length_nil]; omega
 ·rw [jdm]
  unfold tiS
  rw [Bool.and_eq_false_iff]
  refine .inl ?_
  rw [Bool.eq_false_iff]
  intro z
  rw [jda] at z
  omega
theorem bad8 (wok : WebOk ps ts) (h119 : ts.length ≤ 119) : jax (.tup [.lst (ps.map jao),.lst (ts.map jao ++ [jao (1000,1001)])]) = some (("ties" : Str),some ts.length):=by
 refine jfx wok (o:=some (1000,1001)) (r:=[]) ts wok.t ?_ rfl ?_ ?_
 ·rw [List.map_append,jaw]; rfl
 ·simp only [List.length_append,List.length_map,List.length_cons,List.length_nil]; omega
 ·unfold tiS
  rw [Bool.and_eq_false_iff]
  refine .inr ?_
  rw [Bool.and_eq_false_iff]
  refine .inr ?_
  rw [Bool.and_eq_false_iff]
  refine .inl ?_
  rw [Bool.eq_false_iff]
  intro z
  obtain ⟨p,hp,e⟩:=jft z
  have:=wok.p.le p hp
  have e' : p.1 = 1000:=e
  omega
end
theorem jgn {k : Nat} {f : Addr} {fd : FuncData}  (B : Blt mg) (D : DefAt K mg "_law_web_told" (top 49) ["_law_call"] f fd) {C_TouchError : Addr} (X_NoWeb : ClsX K mg "NoWeb" C_NoWeb f_NoWeb) (hfp : PySem.W.findIn K (.ref C_NoWeb) "part" = some none) (hfn : PySem.W.findIn K (.ref C_NoWeb) "number" = some none) : FnOk P w K mg base CX0 (k + 1) f fd ["_law_call"] (jnf P w K mg base C_NoWeb k):=by
 have sc : FnScope ["_law_call","_law_told","e"] ["_law_call"] (ja9 (top 49)):=⟨rfl,rfl,rfl,by decide +kernel,rfl,by decide +kernel,by decide +kernel⟩
 refine D.F.ok sc (fun vs H Q E h=>?_) (fun cdv A outer s H vs Q E hr h=>?_)
 ·obtain ⟨v,rfl,_⟩:=h
  rfl
 obtain ⟨v,rfl,h⟩:=h
 have hu:=jb8 hr
 have hu0 : _ < PySem.cLine:=Nat.lt_of_succ_lt hu
 refine ⟨_,(ja3 (jah (i:=1) sc.nd rfl (Or.inl rfl) jd0) (ja3 (jpr (mt:=fun cl=>cl = .ref C_NoWeb) (i:=2) ⟨rfl,rfl,rfl,fun _=>rfl⟩ sc.nd rfl rfl rfl X_NoWeb.m (fun cl e=>e ▸ jq0 X_NoWeb.xin rfl) (fun pins EX=>(ja7 (jb4 (jpu (P:=P) (w:=w) (K:=K) (mg:=mg) (base:=base) (k:=k) (i:=0) (x:="_law_call") ⟨rfl,rfl,rfl,rfl,rfl⟩ hr rfl rfl (jmh ⟨rfl,rfl,rfl,fun _=>rfl⟩))))) (fun a=>(ja7 (jah (i:=1) sc.nd rfl (Or.inl rfl) (jar (ja0 (jo2 X_NoWeb.y hfp (qv 2) rfl) (ja0 (jo2 X_NoWeb.y hfn (qv 2) rfl) ja2))))))) (ja7 (jae (qv 1))))),?_⟩
 simp_arith [tTry,Ends.unb,jqi]
 obtain ⟨f0,oc,od,fdl,sl,ev,hf,th⟩:=h
 refine ⟨v,rfl,f0,oc,od,fdl,sl,ev,hf,fun A2 outer2 s2 hr2 e2=>?_⟩
 refine codeAny_mono (th A2 outer2 s2 hr2 e2) fun r s' hq=>?_
 cases r with
 | ok fl =>
  cases fl with
  | ret u =>
   obtain ⟨v',H',os,bare,un,hok,r',q⟩:=hq
   exact ⟨v',H',os,bare,un,hok,r',q⟩
  | next=>exact hq
  | brk=>exact hq
  | cont=>exact hq
 | error e =>
  obtain ⟨x,cl,dd,H',B',rfl,os,bare,un,hok,fl,hx,nx,q1,q2,rfl,dx,p,n,rfl,ed,q⟩:=hq
  refine ⟨x,_,_,H',B',rfl,os,bare,un,hok,fl,hx,nx,q1,q2,rfl,fun y hy=>?_⟩
  have ed2 : upd H' y (caO y (.ref C_NoWeb) (some dx)) dx = some (xdO dx (putF "number" n [("part",p)])):=by rw [ja8 (ja6 ed hy)]; exact ed
  have ec : upd H' y (caO y (.ref C_NoWeb) (some dx)) y = some (caO y (.ref C_NoWeb) (some dx)):=ja1
  have s3:=ja5 hy (caO y (.ref C_NoWeb) (some dx))
  generalize upd H' y (caO y (.ref C_NoWeb) (some dx)) = H2 at ed2 ec s3
  simp_arith [tXG]
  refine ⟨y,dx,_,p,rfl,ec,ed2,rfl,?_⟩
  refine ⟨y,dx,_,n,rfl,ec,ed2,rfl,?_⟩
  intro t ht
  exact q t _ (s3.trans (ja5 ht _)) ja1
end
end My
namespace My
open PySem L2
section
variable {P : Program} {w : World} {K : PySem.W.Frag} {mg : Str→Option Value} {base : Heap} {c1 c2 c3 c4 : Tok} {C_NoWeb f_NoWeb : Addr} {dI : FuncData}
theorem jhu {xs : List V} {k : Int} (h0 : 0 ≤ k) (h1 : k ≤ xs.length) : cutV xs none (some k) = xs.take k.toNat:=by
 unfold cutV HT.sIx
 simp only [List.drop_zero]
 congr 1
 split <;> omega
theorem jdq {xs : List V} {k : Int} (h0 : 0 ≤ k) (h1 : k ≤ xs.length) : cutV xs (some k) none = xs.drop k.toNat:=by
  unfold cutV HT.sIx
  have e : (if k < 0 then (k + (xs.length : Int)).toNat else min k.toNat xs.length) = k.toNat:=by split <;> omega
  first
    | (simp only [e]; rw [List.take_of_length_le (by rw [List.length_drop]; omega)])
    | (rw [List.take_of_length_le]
       · congr 1
         split <;> omega
       · rw [List.length_drop]; split <;> omega)
theorem jba {H : Hp} : ∀ {d1 d2 : List Dt} {x1 x2 : List V},Reps H d1 x1→Reps H d2 x2→Reps H (d1 ++ d2) (x1 ++ x2)
 | [],d2,x1,x2,h1,h2=>by rw [Reps] at h1; subst h1; exact h2
 | d :: d1,d2,x1,x2,h1,h2=>by
  rw [Reps] at h1
  obtain ⟨v,r,rfl,e,t⟩:=h1
  rw [List.cons_append,Reps]
  exact ⟨v,r ++ x2,rfl,e,jba t h2⟩
theorem jdk {H : Hp} {d : Dt} {v : V} (h : Rep H d v) : Reps H [d] [v]:=by
 rw [Reps]
 exact ⟨v,[],rfl,h,by rw [Reps]⟩
theorem jec {H : Hp} {d e : Dt} {v u : V} (h : Rep H d v) (g : Rep H e u) : Reps H [d,e] [v,u]:=jba (d1:=[d]) (x1:=[v]) (jdk h) (jdk g)
theorem jb9 {H : Hp} {a : Addr} {ds : List Dt} {xs : List V} (e : H a = some (.lst xs)) (r : Reps H ds xs) : Rep H (.lst ds) (.ref a):=by
 rw [Rep]
 exact ⟨a,xs,rfl,e,r⟩
theorem jg9 {H : Hp} {a : Addr} {ds : List Dt} {xs : List V} (e : H a = some (.tup xs)) (r : Reps H ds xs) : Rep H (.tup ds) (.ref a):=by
 rw [Rep]
 exact ⟨a,xs,rfl,e,r⟩
noncomputable def BadK (st : Addr) (H : Hp) (Q : VK) : Prop:=∀ u b w n d H' o',But st H H'→H' st = some o'→StO o'→H' u = some (.tup [b,.str w,nV n])→Rep H' d b→jax d = some (w,n)→Q (.ref u) H'
noncomputable def spBad : Sp:=fun vs H Q _=>∃ st o v ps ts,vs = [.ref st,v]∧H st = some o∧StO o∧jc2 H v ps ts∧WebOk ps ts∧ps.length ≤ 39∧ts.length ≤ 119∧BadK st H Q
theorem jcl {st : Addr} {H Hx : Hp} {Q : VK} {o' : HO} {x y z : V} {d1 d2 : Dt} {w : Str} {n : Option Nat} (h : BadK st H Q) (b : But st H Hx) (e : Hx st = some o') (so : StO o') (r1 : Rep Hx d1 x) (r2 : Rep Hx d2 y) (hn : jax (.tup [d1,d2]) = some (w,n)) (hz : z = nV n) :
  ∀ p,Hx p = none→∀ q,upd Hx p (.tup [x,y]) q = none→Q (.ref q) (upd (upd Hx p (.tup [x,y])) q (.tup [.ref p,.str w,z])):=by
 intro p hp q hq
 subst hz
 have s1:=ja5 hp (.tup [x,y])
 have s2:=s1.trans (ja5 hq (.tup [.ref p,.str w,nV n]))
 refine h q (.ref p) w n (.tup [d1,d2]) _ o' (fun b' o nb q'=>s2 _ _ (b _ _ nb q')) (s2 _ _ e) so ja1 ?_ hn
 refine jg9 (xs:=[x,y]) ?_ (jec (Rep.same s2 _ r1) (Rep.same s2 _ r2))
 exact ja5 hq _ _ _ ja1
theorem jc4 {a b : TS} {D : Ends} {σ : St} {H : Hp} (h : b D σ H) (k : ∀ R : TS,R D σ H→tSeq a R D σ H) : tSeq a b D σ H:=k b h
theorem jfb {k : Int} {n : Nat} (h : k = (n : Int)) : V.int k = nV (some n):=by rw [h]; rfl
theorem p12 : (10 : Int) ^ Int.toNat 12 = 1000000000000:=by decide
theorem jrm {d : Int} (h0 : 0 ≤ d) (h1 : d < 4) (n : Int) : ∃ x dd,atI [V.int 0,.bl true,.non,.int 1000000000001] d = some x∧(∀ H : Hp,Rep H dd x)∧(prO (.tup [.int n,dd]) = none ∨ prO (.tup [.int n,dd]) = some (n,0) ∨ prO (.tup [.int n,dd]) = some (n,1000000000001)):=by
 have : d = 0 ∨ d = 1 ∨ d = 2 ∨ d = 3:=by omega
 rcases this with rfl | rfl | rfl | rfl
 ·exact ⟨_,.int 0,rfl,fun H=>by rw [Rep],.inr (.inl rfl)⟩
 ·exact ⟨_,.bl true,rfl,fun H=>by rw [Rep],.inl rfl⟩
 ·exact ⟨_,.non,rfl,fun H=>by rw [Rep],.inl rfl⟩
 ·exact ⟨_,.int 1000000000001,rfl,fun H=>by rw [Rep],.inr (.inr rfl)⟩
theorem jh1 {f : Addr} {fd : FuncData} {f_law_take : Addr} {d_law_take : FuncData} (B : Blt mg) (D : DefAt K mg "_law_bad_web" (top 48) ["_law_state","_law_web_here"] f fd) (D_law_take : DefAt K mg "_law_take" (top 37) ["_law_state","_law_many"] f_law_take d_law_take) (G_law_take : FnOk P w K mg base CX0 1 f_law_take d_law_take ["_law_state","_law_many"] je9) : FnOk P w K mg base CX0 2 f fd ["_law_state","_law_web_here"] spBad:=by
 have sc : FnScope ["_law_state","_law_web_here","_law_places_here","_law_ties","_law_way","_law_at","_law_spot","_law_row_here","_law_two"] ["_law_state","_law_web_here"] (ja9 (top 48)):=⟨rfl,rfl,rfl,by decide +kernel,rfl,by decide +kernel,by decide +kernel⟩
 refine D.F.ok sc (fun vs H Q E h=>?_) (fun cdv A outer s H vs Q E hr h=>?_)
 ·obtain ⟨st,o,v,ps,ts,rfl,_⟩:=h
  rfl
 obtain ⟨st,o,v,ps,ts,rfl,es,so,hw,wok,h39,h119,h⟩:=h
 obtain ⟨xv,pa,ta,xs,ys,rfl,ex,ep,et,pp,pt⟩:=id hw
 have hlx : xs.length = ps.length:=Paired.length pp
 have hly : ys.length = ts.length:=Paired.length pt
 have npa:=jjw ep pp es so
 have nta:=jjw et pt es so
 have nx : xv ≠ st:=fun z=>by
  rw [z,es] at ex
  obtain ⟨_,_,_,rfl,_⟩:=so
  cases ex
 have hu:=jb8 hr
 have hu0 : _ < PySem.cLine:=Nat.lt_of_succ_lt hu
 refine ⟨_,(ja3 (jhh (qv 1) (jc3 (n:=2) rfl (jaf (jac (i:=2) sc.nd rfl (Or.inl rfl)) (jaf (jac (i:=3) sc.nd rfl (Or.inl rfl)) jbg)))) (ja3 (jah (i:=4) sc.nd rfl (Or.inl rfl) (jab G_law_take (hr.mono (by decide)) rfl D_law_take.m D_law_take.F.kp D_law_take.b .nil jaq (ja0 (qv 0) (ja0 ja4 ja2)))) (ja3 (jah (i:=5) sc.nd rfl (Or.inl rfl) (jab G_law_take (hr.mono (by decide)) rfl D_law_take.m D_law_take.F.kp D_law_take.b .nil jaq (ja0 (qv 0) (ja0 (jai jbv (jad jci rfl B.len PySem.boot_len (ja0 (qv 2) ja2)) ja4) ja2)))) (ja3 (jah (i:=6) sc.nd rfl (Or.inl rfl) (jab G_law_take (hr.mono (by decide)) rfl D_law_take.m D_law_take.F.kp D_law_take.b .nil jaq (ja0 (qv 0) (ja0 (jai jbv (jad jci rfl B.len PySem.boot_len (ja0 (qv 3) ja2)) ja4) ja2)))) (ja3 (jay (jan q_eq (qv 4) ja4 (jak _)) (ja7 (jae (jar (ja0 (jar (ja0 (jc9 jeq rfl B.tuple PyProof.Rows.boot_tuple (ja0 (qv 2) ja2)) (ja0 (qv 3) ja2))) (ja0 jbb (ja0 jd0 ja2)))))) jag) (ja3 (jay (jan q_eq (qv 4) ja4 (jak _)) (ja7 (jae (jar (ja0 (jar (ja0 (qv 2) (ja0 (jc9 jeq rfl B.tuple PyProof.Rows.boot_tuple (ja0 (qv 3) ja2)) ja2))) (ja0 jbb (ja0 jd0 ja2)))))) jag) (ja3 (jay (PW.pt (jfa (jan q_eq (qv 4) ja4 (jak _)) (je0 (jan q_gt (qv 5) ja4 (jak _))))) (ja7 (jae (jar (ja0 (jar (ja0 (jai jev (jb0 jdt (qv 2) jbh (jbf (qv 5))) (jb0 jdt (qv 2) (jbf (jai jee (qv 5) ja4)) jbh)) (ja0 (qv 3) ja2))) (ja0 jbb (ja0 (qv 5) ja2)))))) jag) (ja3 (jay (PW.pt (jfa (jan q_eq (qv 4) ja4 (jak _)) (je0 (jan q_lt (qv 5) (jad jci rfl B.len PySem.boot_len (ja0 (qv 2) ja2)) (jak _))))) (ja3 (jah (i:=7) sc.nd rfl (Or.inl rfl) (jar (ja0 (jal q_ix (jal q_ix (qv 2) (qv 5) (fun _ _=>rfl)) ja4 (fun _ _=>rfl)) (ja0 (jal q_ix (jas (ja0 ja4 (ja0 je1 (ja0 jd0 (ja0 (jai jbv (jai jpo ja4 ja4) ja4) ja2))))) (jab G_law_take (hr.mono (by decide)) rfl D_law_take.m D_law_take.F.kp D_law_take.b .nil jaq (ja0 (qv 0) (ja0 ja4 ja2))) (fun _ _=>rfl)) ja2)))) (ja7 (jae (jar (ja0 (jar (ja0 (jai jev (jai jev (jb0 jdt (qv 2) jbh (jbf (qv 5))) (jas (ja0 (qv 7) ja2))) (jb0 jdt (qv 2) (jbf (jai jbv (qv 5) ja4)) jbh)) (ja0 (qv 3) ja2))) (ja0 jbb (ja0 (qv 5) ja2))))))) jag) (ja3 (jay (PW.pt (jfa (jan q_eq (qv 4) ja4 (jak _)) (je0 (jan q_gt (qv 6) ja4 (jak _))))) (ja7 (jae (jar (ja0 (jar (ja0 (qv 2) (ja0 (jai jev (jb0 jdt (qv 3) jbh (jbf (qv 6))) (jb0 jdt (qv 3) (jbf (jai jee (qv 6) ja4)) jbh)) ja2))) (ja0 jbb (ja0 (qv 6) ja2)))))) jag) (ja3 (jay (PW.pt (jfa (jan q_eq (qv 4) ja4 (jak _)) (je0 (jan q_lt (qv 6) (jad jci rfl B.len PySem.boot_len (ja0 (qv 3) ja2)) (jak _))))) (ja3 (jah (i:=7) sc.nd rfl (Or.inl rfl) (jar (ja0 (jal q_ix (jal q_ix (qv 3) (qv 6) (fun _ _=>rfl)) ja4 (fun _ _=>rfl)) (ja0 (jal q_ix (jal q_ix (qv 3) (qv 6) (fun _ _=>rfl)) ja4 (fun _ _=>rfl)) ja2)))) (ja7 (jae (jar (ja0 (jar (ja0 (qv 2) (ja0 (jai jev (jai jev (jb0 jdt (qv 3) jbh (jbf (qv 6))) (jas (ja0 (qv 7) ja2))) (jb0 jdt (qv 3) (jbf (jai jbv (qv 6) ja4)) jbh)) ja2))) (ja0 jbb (ja0 (qv 6) ja2))))))) jag) (ja3 (jay (PW.pt (jfa (jan q_eq (qv 4) ja4 (jak _)) (je0 (jan q_gt (qv 6) ja4 (jak _))))) (ja3 (jah (i:=8) sc.nd rfl (Or.inl rfl) (jas (ja0 (jal q_ix (qv 3) (jai jee (qv 6) ja4) (fun _ _=>rfl)) (ja0 (jal q_ix (qv 3) (jai jee (qv 6) ja4) (fun _ _=>rfl)) ja2)))) (ja7 (jae (jar (ja0 (jar (ja0 (qv 2) (ja0 (jai jev (jai jev (jb0 jdt (qv 3) jbh (jbf (jai jee (qv 6) ja4))) (qv 8)) (jb0 jdt (qv 3) (jbf (qv 6)) jbh)) ja2))) (ja0 jbb (ja0 (jai jee (qv 6) ja4) ja2))))))) jag) (ja3 (jay (PW.pt (jfa (jan q_eq (qv 4) ja4 (jak _)) (je0 (jan q_gt (qv 5) ja4 (jak _))))) (ja3 (jah (i:=8) sc.nd rfl (Or.inl rfl) (jas (ja0 (jal q_ix (qv 2) (jai jee (qv 5) ja4) (fun _ _=>rfl)) (ja0 (jal q_ix (qv 2) (jai jee (qv 5) ja4) (fun _ _=>rfl)) ja2)))) (ja7 (jae (jar (ja0 (jar (ja0 (jai jev (jai jev (jb0 jdt (qv 2) jbh (jbf (jai jee (qv 5) ja4))) (qv 8)) (jb0 jdt (qv 2) (jbf (qv 5)) jbh)) (ja0 (qv 3) ja2))) (ja0 jbb (ja0 (jai jee (qv 5) ja4) ja2))))))) jag) (ja3 (jay (jan q_eq (qv 4) ja4 (jak _)) (ja7 (jae (jar (ja0 (jar (ja0 (qv 2) (ja0 (jai jev (qv 3) (jas (ja0 (jar (ja0 ja4 (ja0 ja4 ja2))) ja2))) ja2))) (ja0 jbb (ja0 (jad jci rfl B.len PySem.boot_len (ja0 (qv 3) ja2)) ja2)))))) jag) (ja7 (jae (jar (ja0 (jar (ja0 (jai jev (qv 2) (jas (ja0 (jar (ja0 ja4 (ja0 ja4 ja2))) ja2))) (ja0 (qv 3) ja2))) (ja0 jbb (ja0 (jad jci rfl B.len PySem.boot_len (ja0 (qv 2) ja2)) ja2))))))))))))))))))),?_⟩
 refine jaa fun R hR=>?_
 simp_arith [ex]
 subst hR
 refine jaa fun R hR=>?_
 walk_at "RD"
 refine ⟨st,o,10,rfl,es,so,by decide,by decide,fun way o1 w0 w1 so1=>?_⟩
 have ex0:=ex
 have ep0:=ep
 have et0:=et
 subst hR
 refine jaa fun R hR=>?_
 simp_all_arith [jaj,ja8 npa,ep]
 refine ⟨st,o1,_,rfl,ja1,so1,by omega,by omega,fun k o2 a0 a1 so2=>?_⟩
 subst hR
 refine jaa fun R hR=>?_
 simp_all_arith [jaj,ja8 nta,et,jhx]
 refine ⟨st,o2,_,rfl,ja1,so2,by omega,by omega,fun j o3 p0 p1 so3=>?_⟩
 have b3 : But st H (upd H st o3):=But.at st H o3
 have e3 : upd H st o3 st = some o3:=ja1
 have hw3:=hw.but es so b3
 try simp only [jhx]
 generalize upd H st o3 = H3 at b3 e3 hw3
 clear hw ex ep et pp pt
 obtain ⟨x',pa',ta',xs',ys',ev,ex,ep,et,pp,pt⟩:=hw3
 cases ev
 have hexx:=ex.symm.trans (b3 _ _ nx ex0)
 cases hexx
 have hepp:=ep.symm.trans (b3 _ _ npa ep0)
 cases hepp
 have hett:=et.symm.trans (b3 _ _ nta et0)
 cases hett
 subst hR
 refine jc4 ?_ fun R rest=>?_
 rotate_left
 ·simp_arith [jaj,ep,et]
  refine ite2 (fun c0=>?_) (fun _=>rest)
  walk_at "RN"
  refine ⟨pa,xs,rfl,.inl ⟨SqL.of ep,?_⟩⟩
  intro p1 hp1
  have s1:=ja5 hp1 (.tup xs)
  have q1 : upd H3 p1 (.tup xs) p1 = some (.tup xs):=ja1
  generalize upd H3 p1 (.tup xs) = H4 at s1 q1
  replace ex:=s1 _ _ ex
  replace ep:=s1 _ _ ep
  replace et:=s1 _ _ et
  replace pp:=Prs.same s1 pp
  replace pt:=Prs.same s1 pt
  replace e3:=s1 _ _ e3
  replace b3 : But st H _:=fun b o nb q=>s1 _ _ (b3 b o nb q)
  walk_at "RN"
  exact jcl h b3 e3 so3 (jg9 q1 (Prs.reps pp)) (jb9 et (Prs.reps pt)) (bad0 _ _) rfl
 refine jc4 ?_ fun R rest=>?_
 rotate_left
 ·simp_arith [jaj,ep,et]
  refine ite2 (fun c0=>?_) (fun _=>rest)
  walk_at "RN"
  refine ⟨ta,ys,rfl,.inl ⟨SqL.of et,?_⟩⟩
  intro p1 hp1
  have s1:=ja5 hp1 (.tup ys)
  have q1 : upd H3 p1 (.tup ys) p1 = some (.tup ys):=ja1
  generalize upd H3 p1 (.tup ys) = H4 at s1 q1
  replace ex:=s1 _ _ ex
  replace ep:=s1 _ _ ep
  replace et:=s1 _ _ et
  replace pp:=Prs.same s1 pp
  replace pt:=Prs.same s1 pt
  replace e3:=s1 _ _ e3
  replace b3 : But st H _:=fun b o nb q=>s1 _ _ (b3 b o nb q)
  walk_at "RN"
  exact jcl h b3 e3 so3 (jb9 ep (Prs.reps pp)) (jg9 q1 (Prs.reps pt)) (bad1 wok _) rfl
 refine jc4 ?_ fun R rest=>?_
 rotate_left
 ·simp_arith [jaj,ep,et]
  refine ite2 (fun c0=>ite2 (fun c=>?_) (fun _=>rest)) (fun _=>rest)
  have c:=of_decide_eq_true c
  simp_all_arith [ep]
  intro p1 hp1
  have s1:=ja5 hp1 (.lst (cutV xs none (some k)))
  have q1 : upd H3 p1 (.lst (cutV xs none (some k))) p1 = some (.lst (cutV xs none (some k))):=ja1
  generalize upd H3 p1 (.lst (cutV xs none (some k))) = H4 at s1 q1
  replace ex:=s1 _ _ ex
  replace ep:=s1 _ _ ep
  replace et:=s1 _ _ et
  replace pp:=Prs.same s1 pp
  replace pt:=Prs.same s1 pt
  replace e3:=s1 _ _ e3
  replace b3 : But st H _:=fun b o nb q=>s1 _ _ (b3 b o nb q)
  simp_all_arith [ep]
  intro p2 hp2
  have s2:=ja5 hp2 (.lst (cutV xs (some (k - 1)) none))
  have q2 : upd H4 p2 (.lst (cutV xs (some (k - 1)) none)) p2 = some (.lst (cutV xs (some (k - 1)) none)):=ja1
  generalize upd H4 p2 (.lst (cutV xs (some (k - 1)) none)) = H5 at s2 q2
  replace ex:=s2 _ _ ex
  replace ep:=s2 _ _ ep
  replace et:=s2 _ _ et
  replace pp:=Prs.same s2 pp
  replace pt:=Prs.same s2 pt
  replace e3:=s2 _ _ e3
  replace b3 : But st H _:=fun b o nb q=>s2 _ _ (b3 b o nb q)
  replace q1:=s2 _ _ q1
  rw [jhu (by omega) (by omega)] at q1
  rw [jdq (by omega) (by omega)] at q2
  simp_all_arith [q1,q2]
  refine ⟨by rw [List.length_take,List.length_drop]; exact szl (by omega),?_⟩
  intro p3 hp3
  have s3:=ja5 hp3 (.lst (xs.take k.toNat ++ xs.drop (k - 1).toNat))
  have q3 : upd H5 p3 (.lst (xs.take k.toNat ++ xs.drop (k - 1).toNat)) p3 = some (.lst (xs.take k.toNat ++ xs.drop (k - 1).toNat)):=ja1
  generalize upd H5 p3 (.lst (xs.take k.toNat ++ xs.drop (k - 1).toNat)) = H6 at s3 q3
  replace ex:=s3 _ _ ex
  replace ep:=s3 _ _ ep
  replace et:=s3 _ _ et
  replace pp:=Prs.same s3 pp
  replace pt:=Prs.same s3 pt
  replace e3:=s3 _ _ e3
  replace b3 : But st H _:=fun b o nb q=>s3 _ _ (b3 b o nb q)
  replace q1:=s3 _ _ q1
  replace q2:=s3 _ _ q2
  walk_at "RN"
  obtain ⟨i,hi⟩ : ∃ i : Nat,k = (i : Int) + 1:=⟨(k - 1).toNat,by omega⟩
  have hk1 : k.toNat = i + 1:=by omega
  have hk2 : (k - 1).toNat = i:=by omega
  rw [hk1,hk2] at q3
  have new:=jb9 q3 (jba (Prs.reps (jbc (i + 1) pp)) (Prs.reps (jbj i pp)))
  exact jcl h b3 e3 so3 new (jb9 et (Prs.reps pt)) (bad2 (i:=i) wok h39 (by omega) _) (jfb (by omega))
 refine jc4 ?_ fun R rest=>?_
 rotate_left
 ·simp_arith [jaj,ep,et]
  refine ite2 (fun c0=>ite2 (fun c=>?_) (fun _=>rest)) (fun _=>rest)
  have c:=of_decide_eq_true c
  obtain ⟨i,hi⟩ : ∃ i : Nat,k = (i : Int):=⟨k.toNat,by omega⟩
  have x1 : xs[i]? = some (xs[i]'(by omega)):=List.getElem?_eq_getElem _
  obtain ⟨p,hpi,px⟩:=jam pp x1
  obtain ⟨t,et1,ht⟩:=px
  have ai : atI xs k = some (.ref t):=by rw [hi,← et1]; exact jbk x1
  simp_all_arith [jaj,ep,ai,ht,at0,p12,Int.reduceAdd]
  refine ⟨⟨by decide,by decide,by decide⟩,?_⟩
  intro p1 hp1
  have s1:=ja5 hp1 (.lst [.int 0,.bl true,.non,.int 1000000000001])
  have q1 : upd H3 p1 (.lst [.int 0,.bl true,.non,.int 1000000000001]) p1 = some (.lst [.int 0,.bl true,.non,.int 1000000000001]):=ja1
  generalize upd H3 p1 (.lst [.int 0,.bl true,.non,.int 1000000000001]) = H4 at s1 q1
  replace ex:=s1 _ _ ex
  replace ep:=s1 _ _ ep
  replace et:=s1 _ _ et
  replace pp:=Prs.same s1 pp
  replace pt:=Prs.same s1 pt
  replace e3:=s1 _ _ e3
  replace b3 : But st H _:=fun b o nb q=>s1 _ _ (b3 b o nb q)
  have n1 : p1 ≠ st:=fun z=>by
   rw [z,e3] at q1
   obtain ⟨_,_,_,rfl,_⟩:=so3
   cases q1
  refine ⟨st,o3,4,rfl,e3,so3,by decide,by decide,fun d o4 d0 d1 so4=>?_⟩
  obtain ⟨x,dd,ed,rx,hdd⟩:=jrm d0 d1 p.1
  have b4:=But.at st H4 o4
  have e4 : upd H4 st o4 st = some o4:=ja1
  have q1':=b4 _ _ n1 q1
  have w4 : jc2 (upd H4 st o4) (.ref xv) ps ts:=jc2.but ⟨xv,pa,ta,xs,ys,rfl,ex,ep,et,pp,pt⟩ e3 so3 b4
  have ex4:=b4 _ _ nx ex
  have ep4:=b4 _ _ npa ep
  have et4:=b4 _ _ nta et
  have b5:=b3.trans b4
  clear b4
  generalize upd H4 st o4 = H5 at e4 q1' w4 ex4 ep4 et4 b5
  obtain ⟨x9,pa9,ta9,xs9,ys9,ev,ex9,ep9,et9,pp9,pt9⟩:=w4
  cases ev
  have z1:=ex9.symm.trans ex4
  cases z1
  have z2:=ep9.symm.trans ep4
  cases z2
  have z3:=et9.symm.trans et4
  cases z3
  clear ex4 ep4 et4 pp pt ex ep et b3 e3 ht q1
  simp_all_arith [jaj,q1',ed]
  intro p2 hp2
  have s2:=ja5 hp2 (.tup [.int p.1,x])
  have q2 : upd H5 p2 (.tup [.int p.1,x]) p2 = some (.tup [.int p.1,x]):=ja1
  generalize upd H5 p2 (.tup [.int p.1,x]) = H6 at s2 q2
  replace ex9:=s2 _ _ ex9
  replace ep9:=s2 _ _ ep9
  replace et9:=s2 _ _ et9
  replace pp9:=Prs.same s2 pp9
  replace pt9:=Prs.same s2 pt9
  replace e4:=s2 _ _ e4
  replace b5 : But st H _:=fun b o nb q=>s2 _ _ (b5 b o nb q)
  simp_all_arith [ep9]
  intro p3 hp3
  have s3:=ja5 hp3 (.lst (cutV xs none (some k)))
  have q3 : upd H6 p3 (.lst (cutV xs none (some k))) p3 = some (.lst (cutV xs none (some k))):=ja1
  generalize upd H6 p3 (.lst (cutV xs none (some k))) = H7 at s3 q3
  replace ex9:=s3 _ _ ex9
  replace ep9:=s3 _ _ ep9
  replace et9:=s3 _ _ et9
  replace pp9:=Prs.same s3 pp9
  replace pt9:=Prs.same s3 pt9
  replace e4:=s3 _ _ e4
  replace b5 : But st H _:=fun b o nb q=>s3 _ _ (b5 b o nb q)
  replace q2:=s3 _ _ q2
  walk_at "RN"
  intro p4 hp4
  have s4:=ja5 hp4 (.lst [.ref p2])
  have q4 : upd H7 p4 (.lst [.ref p2]) p4 = some (.lst [.ref p2]):=ja1
  generalize upd H7 p4 (.lst [.ref p2]) = H8 at s4 q4
  replace ex9:=s4 _ _ ex9
  replace ep9:=s4 _ _ ep9
  replace et9:=s4 _ _ et9
  replace pp9:=Prs.same s4 pp9
  replace pt9:=Prs.same s4 pt9
  replace e4:=s4 _ _ e4
  replace b5 : But st H _:=fun b o nb q=>s4 _ _ (b5 b o nb q)
  replace q2:=s4 _ _ q2
  replace q3:=s4 _ _ q3
  rw [jhu (by omega) (by omega)] at q3
  simp_all_arith [q3,q4]
  refine ⟨by rw [List.length_take]; exact szl (by (try simp only [List.length_cons,List.length_nil]); omega),?_⟩
  intro p5 hp5
  have s5:=ja5 hp5 (.lst (xs.take k.toNat ++ [.ref p2]))
  have q5 : upd H8 p5 (.lst (xs.take k.toNat ++ [.ref p2])) p5 = some (.lst (xs.take k.toNat ++ [.ref p2])):=ja1
  generalize upd H8 p5 (.lst (xs.take k.toNat ++ [.ref p2])) = H9 at s5 q5
  replace ex9:=s5 _ _ ex9
  replace ep9:=s5 _ _ ep9
  replace et9:=s5 _ _ et9
  replace pp9:=Prs.same s5 pp9
  replace pt9:=Prs.same s5 pt9
  replace e4:=s5 _ _ e4
  replace b5 : But st H _:=fun b o nb q=>s5 _ _ (b5 b o nb q)
  replace q2:=s5 _ _ q2
  replace q3:=s5 _ _ q3
  replace q4:=s5 _ _ q4
  simp_all_arith [ep9]
  intro p6 hp6
  have s6:=ja5 hp6 (.lst (cutV xs (some (k + 1)) none))
  have q6 : upd H9 p6 (.lst (cutV xs (some (k + 1)) none)) p6 = some (.lst (cutV xs (some (k + 1)) none)):=ja1
  generalize upd H9 p6 (.lst (cutV xs (some (k + 1)) none)) = H10 at s6 q6
  replace ex9:=s6 _ _ ex9
  replace ep9:=s6 _ _ ep9
  replace et9:=s6 _ _ et9
  replace pp9:=Prs.same s6 pp9
  replace pt9:=Prs.same s6 pt9
  replace e4:=s6 _ _ e4
  replace b5 : But st H _:=fun b o nb q=>s6 _ _ (b5 b o nb q)
  replace q2:=s6 _ _ q2
  replace q5:=s6 _ _ q5
  rw [jdq (by omega) (by omega)] at q6
  simp_all_arith [q5,q6]
  refine ⟨by simp only [List.length_append,List.length_take,List.length_drop,List.length_cons,List.length_nil]; exact szl (by omega),?_⟩
  intro p7 hp7
  have s7:=ja5 hp7 (.lst (xs.take k.toNat ++ [.ref p2] ++ xs.drop (k + 1).toNat))
  have q7 : upd H10 p7 (.lst (xs.take k.toNat ++ [.ref p2] ++ xs.drop (k + 1).toNat)) p7 = some (.lst (xs.take k.toNat ++ [.ref p2] ++ xs.drop (k + 1).toNat)):=ja1
  generalize upd H10 p7 (.lst (xs.take k.toNat ++ [.ref p2] ++ xs.drop (k + 1).toNat)) = H11 at s7 q7
  replace ex9:=s7 _ _ ex9
  replace ep9:=s7 _ _ ep9
  replace et9:=s7 _ _ et9
  replace pp9:=Prs.same s7 pp9
  replace pt9:=Prs.same s7 pt9
  replace e4:=s7 _ _ e4
  replace b5 : But st H _:=fun b o nb q=>s7 _ _ (b5 b o nb q)
  replace q2:=s7 _ _ q2
  walk_at "RN"
  have hk1 : k.toNat = i:=by omega
  have hk2 : (k + 1).toNat = i + 1:=by omega
  rw [hk1,hk2] at q7
  have r2 : Rep H11 (.tup [.int p.1,dd]) (.ref p2):=jg9 q2 (jec (by rw [Rep]) (rx _))
  have new:=jb9 q7 (jba (jba (Prs.reps (jbc i pp9)) (jdk r2)) (Prs.reps (jbj (i + 1) pp9)))
  exact jcl h b5 e4 so4 new (jb9 et9 (Prs.reps pt9)) (bad3 wok hpi hdd _) (jfb (by omega))
 refine jc4 ?_ fun R rest=>?_
 rotate_left
 ·simp_arith [jaj,ep,et]
  refine ite2 (fun c0=>ite2 (fun c=>?_) (fun _=>rest)) (fun _=>rest)
  have c:=of_decide_eq_true c
  simp_all_arith [et]
  intro p1 hp1
  have s1:=ja5 hp1 (.lst (cutV ys none (some j)))
  have q1 : upd H3 p1 (.lst (cutV ys none (some j))) p1 = some (.lst (cutV ys none (some j))):=ja1
  generalize upd H3 p1 (.lst (cutV ys none (some j))) = H4 at s1 q1
  replace ex:=s1 _ _ ex
  replace ep:=s1 _ _ ep
  replace et:=s1 _ _ et
  replace pp:=Prs.same s1 pp
  replace pt:=Prs.same s1 pt
  replace e3:=s1 _ _ e3
  replace b3 : But st H _:=fun b o nb q=>s1 _ _ (b3 b o nb q)
  simp_all_arith [et]
  intro p2 hp2
  have s2:=ja5 hp2 (.lst (cutV ys (some (j - 1)) none))
  have q2 : upd H4 p2 (.lst (cutV ys (some (j - 1)) none)) p2 = some (.lst (cutV ys (some (j - 1)) none)):=ja1
  generalize upd H4 p2 (.lst (cutV ys (some (j - 1)) none)) = H5 at s2 q2
  replace ex:=s2 _ _ ex
  replace ep:=s2 _ _ ep
  replace et:=s2 _ _ et
  replace pp:=Prs.same s2 pp
  replace pt:=Prs.same s2 pt
  replace e3:=s2 _ _ e3
  replace b3 : But st H _:=fun b o nb q=>s2 _ _ (b3 b o nb q)
  replace q1:=s2 _ _ q1
  rw [jhu (by omega) (by omega)] at q1
  rw [jdq (by omega) (by omega)] at q2
  simp_all_arith [q1,q2]
  refine ⟨by rw [List.length_take,List.length_drop]; exact szl (by omega),?_⟩
  intro p3 hp3
  have s3:=ja5 hp3 (.lst (ys.take j.toNat ++ ys.drop (j - 1).toNat))
  have q3 : upd H5 p3 (.lst (ys.take j.toNat ++ ys.drop (j - 1).toNat)) p3 = some (.lst (ys.take j.toNat ++ ys.drop (j - 1).toNat)):=ja1
  generalize upd H5 p3 (.lst (ys.take j.toNat ++ ys.drop (j - 1).toNat)) = H6 at s3 q3
  replace ex:=s3 _ _ ex
  replace ep:=s3 _ _ ep
  replace et:=s3 _ _ et
  replace pp:=Prs.same s3 pp
  replace pt:=Prs.same s3 pt
  replace e3:=s3 _ _ e3
  replace b3 : But st H _:=fun b o nb q=>s3 _ _ (b3 b o nb q)
  replace q1:=s3 _ _ q1
  replace q2:=s3 _ _ q2
  walk_at "RN"
  obtain ⟨i,hi⟩ : ∃ i : Nat,j = (i : Int) + 1:=⟨(j - 1).toNat,by omega⟩
  have hk1 : j.toNat = i + 1:=by omega
  have hk2 : (j - 1).toNat = i:=by omega
  rw [hk1,hk2] at q3
  have new:=jb9 q3 (jba (Prs.reps (jbc (i + 1) pt)) (Prs.reps (jbj i pt)))
  exact jcl h b3 e3 so3 (jb9 ep (Prs.reps pp)) new (bad4 (i:=i) wok h119 (by omega)) (jfb (by omega))
 refine jc4 ?_ fun R rest=>?_
 rotate_left
 ·simp_arith [jaj,ep,et]
  refine ite2 (fun c0=>ite2 (fun c=>?_) (fun _=>rest)) (fun _=>rest)
  have c:=of_decide_eq_true c
  obtain ⟨i,hi⟩ : ∃ i : Nat,j = (i : Int):=⟨j.toNat,by omega⟩
  have x1 : ys[i]? = some (ys[i]'(by omega)):=List.getElem?_eq_getElem _
  obtain ⟨p,hpi,px⟩:=jam pt x1
  obtain ⟨t,et1,ht⟩:=px
  have ai : atI ys j = some (.ref t):=by rw [hi,← et1]; exact jbk x1
  simp_all_arith [jaj,et,ai,ht,at0,at1]
  intro p1 hp1
  have s1:=ja5 hp1 (.tup [.int p.2,.int p.1])
  have q1 : upd H3 p1 (.tup [.int p.2,.int p.1]) p1 = some (.tup [.int p.2,.int p.1]):=ja1
  generalize upd H3 p1 (.tup [.int p.2,.int p.1]) = H4 at s1 q1
  replace ex:=s1 _ _ ex
  replace ep:=s1 _ _ ep
  replace et:=s1 _ _ et
  replace pp:=Prs.same s1 pp
  replace pt:=Prs.same s1 pt
  replace e3:=s1 _ _ e3
  replace b3 : But st H _:=fun b o nb q=>s1 _ _ (b3 b o nb q)
  simp_all_arith [ep,et]
  intro p2 hp2
  have s2:=ja5 hp2 (.lst (cutV ys none (some j)))
  have q2 : upd H4 p2 (.lst (cutV ys none (some j))) p2 = some (.lst (cutV ys none (some j))):=ja1
  generalize upd H4 p2 (.lst (cutV ys none (some j))) = H5 at s2 q2
  replace ex:=s2 _ _ ex
  replace ep:=s2 _ _ ep
  replace et:=s2 _ _ et
  replace pp:=Prs.same s2 pp
  replace pt:=Prs.same s2 pt
  replace e3:=s2 _ _ e3
  replace b3 : But st H _:=fun b o nb q=>s2 _ _ (b3 b o nb q)
  replace q1:=s2 _ _ q1
  walk_at "RN"
  intro p3 hp3
  have s3:=ja5 hp3 (.lst [.ref p1])
  have q3 : upd H5 p3 (.lst [.ref p1]) p3 = some (.lst [.ref p1]):=ja1
  generalize upd H5 p3 (.lst [.ref p1]) = H6 at s3 q3
  replace ex:=s3 _ _ ex
  replace ep:=s3 _ _ ep
  replace et:=s3 _ _ et
  replace pp:=Prs.same s3 pp
  replace pt:=Prs.same s3 pt
  replace e3:=s3 _ _ e3
  replace b3 : But st H _:=fun b o nb q=>s3 _ _ (b3 b o nb q)
  replace q1:=s3 _ _ q1
  replace q2:=s3 _ _ q2
  rw [jhu (by omega) (by omega)] at q2
  simp_all_arith [q2,q3]
  refine ⟨by rw [List.length_take]; exact szl (by (try simp only [List.length_cons,List.length_nil]); omega),?_⟩
  intro p4 hp4
  have s4:=ja5 hp4 (.lst (ys.take j.toNat ++ [.ref p1]))
  have q4 : upd H6 p4 (.lst (ys.take j.toNat ++ [.ref p1])) p4 = some (.lst (ys.take j.toNat ++ [.ref p1])):=ja1
  generalize upd H6 p4 (.lst (ys.take j.toNat ++ [.ref p1])) = H7 at s4 q4
  replace ex:=s4 _ _ ex
  replace ep:=s4 _ _ ep
  replace et:=s4 _ _ et
  replace pp:=Prs.same s4 pp
  replace pt:=Prs.same s4 pt
  replace e3:=s4 _ _ e3
  replace b3 : But st H _:=fun b o nb q=>s4 _ _ (b3 b o nb q)
  replace q1:=s4 _ _ q1
  simp_all_arith [et]
  intro p5 hp5
  have s5:=ja5 hp5 (.lst (cutV ys (some (j + 1)) none))
  have q5 : upd H7 p5 (.lst (cutV ys (some (j + 1)) none)) p5 = some (.lst (cutV ys (some (j + 1)) none)):=ja1
  generalize upd H7 p5 (.lst (cutV ys (some (j + 1)) none)) = H8 at s5 q5
  replace ex:=s5 _ _ ex
  replace ep:=s5 _ _ ep
  replace et:=s5 _ _ et
  replace pp:=Prs.same s5 pp
  replace pt:=Prs.same s5 pt
  replace e3:=s5 _ _ e3
  replace b3 : But st H _:=fun b o nb q=>s5 _ _ (b3 b o nb q)
  replace q1:=s5 _ _ q1
  replace q4:=s5 _ _ q4
  rw [jdq (by omega) (by omega)] at q5
  simp_all_arith [q4,q5]
  refine ⟨by simp only [List.length_append,List.length_take,List.length_drop,List.length_cons,List.length_nil]; exact szl (by omega),?_⟩
  intro p6 hp6
  have s6:=ja5 hp6 (.lst (ys.take j.toNat ++ [.ref p1] ++ ys.drop (j + 1).toNat))
  have q6 : upd H8 p6 (.lst (ys.take j.toNat ++ [.ref p1] ++ ys.drop (j + 1).toNat)) p6 = some (.lst (ys.take j.toNat ++ [.ref p1] ++ ys.drop (j + 1).toNat)):=ja1
  generalize upd H8 p6 (.lst (ys.take j.toNat ++ [.ref p1] ++ ys.drop (j + 1).toNat)) = H9 at s6 q6
  replace ex:=s6 _ _ ex
  replace ep:=s6 _ _ ep
  replace et:=s6 _ _ et
  replace pp:=Prs.same s6 pp
  replace pt:=Prs.same s6 pt
  replace e3:=s6 _ _ e3
  replace b3 : But st H _:=fun b o nb q=>s6 _ _ (b3 b o nb q)
  replace q1:=s6 _ _ q1
  walk_at "RN"
  have hk1 : j.toNat = i:=by omega
  have hk2 : (j + 1).toNat = i + 1:=by omega
  rw [hk1,hk2] at q6
  have new:=jb9 q6 (jba (jba (Prs.reps (jbc i pt)) (jdk (jgf (p:=(p.2,p.1)) ⟨p1,rfl,q1⟩))) (Prs.reps (jbj (i + 1) pt)))
  exact jcl h b3 e3 so3 (jb9 ep (Prs.reps pp)) new (bad5 wok hpi) (jfb (by omega))
 refine jc4 ?_ fun R rest=>?_
 rotate_left
 ·simp_arith [jaj,ep,et]
  refine ite2 (fun c0=>ite2 (fun c=>?_) (fun _=>rest)) (fun _=>rest)
  have c:=of_decide_eq_true c
  obtain ⟨i,hi⟩ : ∃ i : Nat,j = (i : Int) + 2:=⟨(j - 2).toNat,by omega⟩
  have x1 : ys[i]? = some (ys[i]'(by omega)):=List.getElem?_eq_getElem _
  have x2 : ys[i + 1]? = some (ys[i + 1]'(by omega)):=List.getElem?_eq_getElem _
  obtain ⟨p,hpi,px⟩:=jam pt x1
  obtain ⟨q,hqi,qx⟩:=jam pt x2
  generalize ys[i] = v1 at x1 px
  generalize ys[i + 1] = v2 at x2 qx
  have a1 : atI ys (j - 1) = some v2:=by rw [show j - 1 = ((i + 1 : Nat) : Int) by omega]; exact jbk x2
  have a2 : atI ys (j - 2) = some v1:=by rw [show j - 2 = ((i : Nat) : Int) by omega]; exact jbk x1
  simp_all_arith [jaj,et,a1,a2]
  intro p1 hp1
  have s1:=ja5 hp1 (.lst [v2,v1])
  have q1 : upd H3 p1 (.lst [v2,v1]) p1 = some (.lst [v2,v1]):=ja1
  generalize upd H3 p1 (.lst [v2,v1]) = H4 at s1 q1
  replace ex:=s1 _ _ ex
  replace ep:=s1 _ _ ep
  replace et:=s1 _ _ et
  replace pp:=Prs.same s1 pp
  replace pt:=Prs.same s1 pt
  replace e3:=s1 _ _ e3
  replace b3 : But st H _:=fun b o nb q=>s1 _ _ (b3 b o nb q)
  replace px:=px.same s1
  replace qx:=qx.same s1
  simp_all_arith [ep,et]
  intro p2 hp2
  have s2:=ja5 hp2 (.lst (cutV ys none (some (j - 2))))
  have q2 : upd H4 p2 (.lst (cutV ys none (some (j - 2)))) p2 = some (.lst (cutV ys none (some (j - 2)))):=ja1
  generalize upd H4 p2 (.lst (cutV ys none (some (j - 2)))) = H5 at s2 q2
  replace ex:=s2 _ _ ex
  replace ep:=s2 _ _ ep
  replace et:=s2 _ _ et
  replace pp:=Prs.same s2 pp
  replace pt:=Prs.same s2 pt
  replace e3:=s2 _ _ e3
  replace b3 : But st H _:=fun b o nb q=>s2 _ _ (b3 b o nb q)
  replace q1:=s2 _ _ q1
  replace px:=px.same s2
  replace qx:=qx.same s2
  rw [jhu (by omega) (by omega)] at q2
  simp_all_arith [q1,q2]
  refine ⟨by rw [List.length_take]; exact szl (by (try simp only [List.length_cons,List.length_nil]); omega),?_⟩
  intro p3 hp3
  have s3:=ja5 hp3 (.lst (ys.take (j - 2).toNat ++ [v2,v1]))
  have q3 : upd H5 p3 (.lst (ys.take (j - 2).toNat ++ [v2,v1])) p3 = some (.lst (ys.take (j - 2).toNat ++ [v2,v1])):=ja1
  generalize upd H5 p3 (.lst (ys.take (j - 2).toNat ++ [v2,v1])) = H6 at s3 q3
  replace ex:=s3 _ _ ex
  replace ep:=s3 _ _ ep
  replace et:=s3 _ _ et
  replace pp:=Prs.same s3 pp
  replace pt:=Prs.same s3 pt
  replace e3:=s3 _ _ e3
  replace b3 : But st H _:=fun b o nb q=>s3 _ _ (b3 b o nb q)
  replace px:=px.same s3
  replace qx:=qx.same s3
  simp_all_arith [et]
  intro p4 hp4
  have s4:=ja5 hp4 (.lst (cutV ys (some j) none))
  have q4 : upd H6 p4 (.lst (cutV ys (some j) none)) p4 = some (.lst (cutV ys (some j) none)):=ja1
  generalize upd H6 p4 (.lst (cutV ys (some j) none)) = H7 at s4 q4
  replace ex:=s4 _ _ ex
  replace ep:=s4 _ _ ep
  replace et:=s4 _ _ et
  replace pp:=Prs.same s4 pp
  replace pt:=Prs.same s4 pt
  replace e3:=s4 _ _ e3
  replace b3 : But st H _:=fun b o nb q=>s4 _ _ (b3 b o nb q)
  replace q3:=s4 _ _ q3
  replace px:=px.same s4
  replace qx:=qx.same s4
  rw [jdq (by omega) (by omega)] at q4
  simp_all_arith [q3,q4]
  refine ⟨by simp only [List.length_append,List.length_take,List.length_drop,List.length_cons,List.length_nil]; exact szl (by omega),?_⟩
  intro p5 hp5
  have s5:=ja5 hp5 (.lst (ys.take (j - 2).toNat ++ [v2,v1] ++ ys.drop j.toNat))
  have q5 : upd H7 p5 (.lst (ys.take (j - 2).toNat ++ [v2,v1] ++ ys.drop j.toNat)) p5 = some (.lst (ys.take (j - 2).toNat ++ [v2,v1] ++ ys.drop j.toNat)):=ja1
  generalize upd H7 p5 (.lst (ys.take (j - 2).toNat ++ [v2,v1] ++ ys.drop j.toNat)) = H8 at s5 q5
  replace ex:=s5 _ _ ex
  replace ep:=s5 _ _ ep
  replace et:=s5 _ _ et
  replace pp:=Prs.same s5 pp
  replace pt:=Prs.same s5 pt
  replace e3:=s5 _ _ e3
  replace b3 : But st H _:=fun b o nb q=>s5 _ _ (b3 b o nb q)
  replace px:=px.same s5
  replace qx:=qx.same s5
  walk_at "RN"
  have hk1 : (j - 2).toNat = i:=by omega
  have hk2 : j.toNat = i + 2:=by omega
  rw [hk1,hk2] at q5
  have new:=jb9 q5 (jba (jba (Prs.reps (jbc i pt)) (jec (jgf qx) (jgf px))) (Prs.reps (jbj (i + 2) pt)))
  exact jcl h b3 e3 so3 (jb9 ep (Prs.reps pp)) new (bad6 wok hpi hqi) (jfb (by omega))
 refine jc4 ?_ fun R rest=>?_
 rotate_left
 ·simp_arith [jaj,ep,et]
  refine ite2 (fun c0=>ite2 (fun c=>?_) (fun _=>rest)) (fun _=>rest)
  have c:=of_decide_eq_true c
  obtain ⟨i,hi⟩ : ∃ i : Nat,k = (i : Int) + 2:=⟨(k - 2).toNat,by omega⟩
  have x1 : xs[i]? = some (xs[i]'(by omega)):=List.getElem?_eq_getElem _
  have x2 : xs[i + 1]? = some (xs[i + 1]'(by omega)):=List.getElem?_eq_getElem _
  obtain ⟨p,hpi,px⟩:=jam pp x1
  obtain ⟨q,hqi,qx⟩:=jam pp x2
  generalize xs[i] = v1 at x1 px
  generalize xs[i + 1] = v2 at x2 qx
  have a1 : atI xs (k - 1) = some v2:=by rw [show k - 1 = ((i + 1 : Nat) : Int) by omega]; exact jbk x2
  have a2 : atI xs (k - 2) = some v1:=by rw [show k - 2 = ((i : Nat) : Int) by omega]; exact jbk x1
  simp_all_arith [jaj,ep,a1,a2]
  intro p1 hp1
  have s1:=ja5 hp1 (.lst [v2,v1])
  have q1 : upd H3 p1 (.lst [v2,v1]) p1 = some (.lst [v2,v1]):=ja1
  generalize upd H3 p1 (.lst [v2,v1]) = H4 at s1 q1
  replace ex:=s1 _ _ ex
  replace ep:=s1 _ _ ep
  replace et:=s1 _ _ et
  replace pp:=Prs.same s1 pp
  replace pt:=Prs.same s1 pt
  replace e3:=s1 _ _ e3
  replace b3 : But st H _:=fun b o nb q=>s1 _ _ (b3 b o nb q)
  replace px:=px.same s1
  replace qx:=qx.same s1
  simp_all_arith [ep,et]
  intro p2 hp2
  have s2:=ja5 hp2 (.lst (cutV xs none (some (k - 2))))
  have q2 : upd H4 p2 (.lst (cutV xs none (some (k - 2)))) p2 = some (.lst (cutV xs none (some (k - 2)))):=ja1
  generalize upd H4 p2 (.lst (cutV xs none (some (k - 2)))) = H5 at s2 q2
  replace ex:=s2 _ _ ex
  replace ep:=s2 _ _ ep
  replace et:=s2 _ _ et
  replace pp:=Prs.same s2 pp
  replace pt:=Prs.same s2 pt
  replace e3:=s2 _ _ e3
  replace b3 : But st H _:=fun b o nb q=>s2 _ _ (b3 b o nb q)
  replace q1:=s2 _ _ q1
  replace px:=px.same s2
  replace qx:=qx.same s2
  rw [jhu (by omega) (by omega)] at q2
  simp_all_arith [q1,q2]
  refine ⟨by rw [List.length_take]; exact szl (by (try simp only [List.length_cons,List.length_nil]); omega),?_⟩
  intro p3 hp3
  have s3:=ja5 hp3 (.lst (xs.take (k - 2).toNat ++ [v2,v1]))
  have q3 : upd H5 p3 (.lst (xs.take (k - 2).toNat ++ [v2,v1])) p3 = some (.lst (xs.take (k - 2).toNat ++ [v2,v1])):=ja1
  generalize upd H5 p3 (.lst (xs.take (k - 2).toNat ++ [v2,v1])) = H6 at s3 q3
  replace ex:=s3 _ _ ex
  replace ep:=s3 _ _ ep
  replace et:=s3 _ _ et
  replace pp:=Prs.same s3 pp
  replace pt:=Prs.same s3 pt
  replace e3:=s3 _ _ e3
  replace b3 : But st H _:=fun b o nb q=>s3 _ _ (b3 b o nb q)
  replace px:=px.same s3
  replace qx:=qx.same s3
  simp_all_arith [ep]
  intro p4 hp4
  have s4:=ja5 hp4 (.lst (cutV xs (some k) none))
  have q4 : upd H6 p4 (.lst (cutV xs (some k) none)) p4 = some (.lst (cutV xs (some k) none)):=ja1
  generalize upd H6 p4 (.lst (cutV xs (some k) none)) = H7 at s4 q4
  replace ex:=s4 _ _ ex
  replace ep:=s4 _ _ ep
  replace et:=s4 _ _ et
  replace pp:=Prs.same s4 pp
  replace pt:=Prs.same s4 pt
  replace e3:=s4 _ _ e3
  replace b3 : But st H _:=fun b o nb q=>s4 _ _ (b3 b o nb q)
  replace q3:=s4 _ _ q3
  replace px:=px.same s4
  replace qx:=qx.same s4
  rw [jdq (by omega) (by omega)] at q4
  simp_all_arith [q3,q4]
  refine ⟨by simp only [List.length_append,List.length_take,List.length_drop,List.length_cons,List.length_nil]; exact szl (by omega),?_⟩
  intro p5 hp5
  have s5:=ja5 hp5 (.lst (xs.take (k - 2).toNat ++ [v2,v1] ++ xs.drop k.toNat))
  have q5 : upd H7 p5 (.lst (xs.take (k - 2).toNat ++ [v2,v1] ++ xs.drop k.toNat)) p5 = some (.lst (xs.take (k - 2).toNat ++ [v2,v1] ++ xs.drop k.toNat)):=ja1
  generalize upd H7 p5 (.lst (xs.take (k - 2).toNat ++ [v2,v1] ++ xs.drop k.toNat)) = H8 at s5 q5
  replace ex:=s5 _ _ ex
  replace ep:=s5 _ _ ep
  replace et:=s5 _ _ et
  replace pp:=Prs.same s5 pp
  replace pt:=Prs.same s5 pt
  replace e3:=s5 _ _ e3
  replace b3 : But st H _:=fun b o nb q=>s5 _ _ (b3 b o nb q)
  replace px:=px.same s5
  replace qx:=qx.same s5
  walk_at "RN"
  have hk1 : (k - 2).toNat = i:=by omega
  have hk2 : k.toNat = i + 2:=by omega
  rw [hk1,hk2] at q5
  have new:=jb9 q5 (jba (jba (Prs.reps (jbc i pp)) (jec (jgf qx) (jgf px))) (Prs.reps (jbj (i + 2) pp)))
  exact jcl h b3 e3 so3 new (jb9 et (Prs.reps pt)) (bad7 wok hpi hqi _) (jfb (by omega))
 refine jc4 ?_ fun R rest=>?_
 rotate_left
 ·simp_arith [jaj,ep,et]
  refine ite2 (fun c0=>?_) (fun _=>rest)
  walk_at "RN"
  intro p1 hp1
  have s1:=ja5 hp1 (.tup [.int 1000,.int 1001])
  have q1 : upd H3 p1 (.tup [.int 1000,.int 1001]) p1 = some (.tup [.int 1000,.int 1001]):=ja1
  generalize upd H3 p1 (.tup [.int 1000,.int 1001]) = H4 at s1 q1
  replace ex:=s1 _ _ ex
  replace ep:=s1 _ _ ep
  replace et:=s1 _ _ et
  replace pp:=Prs.same s1 pp
  replace pt:=Prs.same s1 pt
  replace e3:=s1 _ _ e3
  replace b3 : But st H _:=fun b o nb q=>s1 _ _ (b3 b o nb q)
  intro p2 hp2
  have s2:=ja5 hp2 (.lst [.ref p1])
  have q2 : upd H4 p2 (.lst [.ref p1]) p2 = some (.lst [.ref p1]):=ja1
  generalize upd H4 p2 (.lst [.ref p1]) = H5 at s2 q2
  replace ex:=s2 _ _ ex
  replace ep:=s2 _ _ ep
  replace et:=s2 _ _ et
  replace pp:=Prs.same s2 pp
  replace pt:=Prs.same s2 pt
  replace e3:=s2 _ _ e3
  replace b3 : But st H _:=fun b o nb q=>s2 _ _ (b3 b o nb q)
  replace q1:=s2 _ _ q1
  simp_all_arith [et,q2]
  refine ⟨szl (by omega),fun p3 hp3=>?_⟩
  revert p3
  intro p3 hp3
  have s3:=ja5 hp3 (.lst (ys ++ [.ref p1]))
  have q3 : upd H5 p3 (.lst (ys ++ [.ref p1])) p3 = some (.lst (ys ++ [.ref p1])):=ja1
  generalize upd H5 p3 (.lst (ys ++ [.ref p1])) = H6 at s3 q3
  replace ex:=s3 _ _ ex
  replace ep:=s3 _ _ ep
  replace et:=s3 _ _ et
  replace pp:=Prs.same s3 pp
  replace pt:=Prs.same s3 pt
  replace e3:=s3 _ _ e3
  replace b3 : But st H _:=fun b o nb q=>s3 _ _ (b3 b o nb q)
  replace q1:=s3 _ _ q1
  replace q2:=s3 _ _ q2
  walk_at "RN"
  intro p hp
  have sp:=ja5 hp (.tup [.ref pa,.ref p3])
  simp_all_arith [jaj,sp _ _ et]
  intro q hq
  exact jcl h b3 e3 so3 (jb9 ep (Prs.reps pp)) (jb9 q3 (jba (Prs.reps pt) (jdk (jgf ⟨p1,rfl,q1⟩)))) (bad8 wok h119) (jfb (by omega)) p hp q hq
 walk_at "RN"
 intro p1 hp1
 have s1:=ja5 hp1 (.tup [.int 1000,.int 1])
 have q1 : upd H3 p1 (.tup [.int 1000,.int 1]) p1 = some (.tup [.int 1000,.int 1]):=ja1
 generalize upd H3 p1 (.tup [.int 1000,.int 1]) = H4 at s1 q1
 replace ex:=s1 _ _ ex
 replace ep:=s1 _ _ ep
 replace et:=s1 _ _ et
 replace pp:=Prs.same s1 pp
 replace pt:=Prs.same s1 pt
 replace e3:=s1 _ _ e3
 replace b3 : But st H _:=fun b o nb q=>s1 _ _ (b3 b o nb q)
 intro p2 hp2
 have s2:=ja5 hp2 (.lst [.ref p1])
 have q2 : upd H4 p2 (.lst [.ref p1]) p2 = some (.lst [.ref p1]):=ja1
 generalize upd H4 p2 (.lst [.ref p1]) = H5 at s2 q2
 replace ex:=s2 _ _ ex
 replace ep:=s2 _ _ ep
 replace et:=s2 _ _ et
 replace pp:=Prs.same s2 pp
 replace pt:=Prs.same s2 pt
 replace e3:=s2 _ _ e3
 replace b3 : But st H _:=fun b o nb q=>s2 _ _ (b3 b o nb q)
 replace q1:=s2 _ _ q1
 simp_all_arith [ep,q2]
 refine ⟨szl (by omega),fun p3 hp3=>?_⟩
 revert p3
 intro p3 hp3
 have s3:=ja5 hp3 (.lst (xs ++ [.ref p1]))
 have q3 : upd H5 p3 (.lst (xs ++ [.ref p1])) p3 = some (.lst (xs ++ [.ref p1])):=ja1
 generalize upd H5 p3 (.lst (xs ++ [.ref p1])) = H6 at s3 q3
 replace ex:=s3 _ _ ex
 replace ep:=s3 _ _ ep
 replace et:=s3 _ _ et
 replace pp:=Prs.same s3 pp
 replace pt:=Prs.same s3 pt
 replace e3:=s3 _ _ e3
 replace b3 : But st H _:=fun b o nb q=>s3 _ _ (b3 b o nb q)
 replace q1:=s3 _ _ q1
 replace q2:=s3 _ _ q2
 walk_at "RN"
 intro p hp
 have sp:=ja5 hp (.tup [.ref p3,.ref ta])
 simp_all_arith [jaj,sp _ _ ep]
 intro q hq
 exact jcl h b3 e3 so3 (jb9 q3 (jba (Prs.reps pp) (jdk (jgf ⟨p1,rfl,q1⟩)))) (jb9 et (Prs.reps pt)) (bad9 wok h39 _) (jfb (by omega)) p hp q hq
end
end My
namespace My
open PySem L2
section
variable {P : Program} {w : World} {K : PySem.W.Frag} {mg : Str→Option Value} {base : Heap} {c1 c2 c3 c4 : Tok} {C_NoWeb f_NoWeb : Addr} {dI : FuncData}
theorem jhk {ps qs : List (Int × Int)} (h : ps.map jao = qs.map jao) : ps = qs:=by
 induction ps generalizing qs with
 | nil=>cases qs with
  | nil=>rfl
  | cons _ _=>cases h
 | cons p r ih=>cases qs with
  | nil=>cases h
  | cons q t =>
   rw [List.map_cons,List.map_cons] at h
   injection h with h1 h2
   have e : p = q:=by
    unfold jao at h1
    injection h1 with h1
    injection h1 with a1 a2
    injection a1 with a1
    injection a2 with a2 _
    injection a2 with a2
    exact Prod.ext a1 a2
   rw [e,ih h2]
theorem jlc {ps ts qs us : List (Int × Int)} (h : webD ps ts = webD qs us) : qs = ps∧us = ts:=by
 unfold webD prsD at h
 injection h with h
 injection h with h1 h2
 injection h1 with h1
 injection h2 with h2 _
 injection h2 with h2
 exact ⟨(jhk h1).symm,(jhk h2).symm⟩
theorem jhw {H : Hp} {v : V} {ps ts : List (Int × Int)} (h : jc2 H v ps ts) : Rep H (webD ps ts) v:=by
 obtain ⟨u,pa,ta,xs,ys,rfl,h1,h2,h3,h4,h5⟩:=h
 unfold webD prsD
 rw [Rep]
 refine ⟨u,_,rfl,h1,?_⟩
 rw [Reps]
 refine ⟨_,_,rfl,?_,?_⟩
 ·rw [Rep]
  exact ⟨pa,xs,rfl,h2,Prs.reps h4⟩
 ·rw [Reps]
  refine ⟨_,_,rfl,?_,by rw [Reps]⟩
  rw [Rep]
  exact ⟨ta,ys,rfl,h3,Prs.reps h5⟩
theorem jly : ∀ {ps : List (Int × Int)} {l s : Int} {k : Nat},PlOk l s ps→jd8 l s k (ps.map some) = none
 | [],_,_,_,_=>rfl
 | p :: r,l,s,k,h=>by
  rw [List.map_cons,jd8,if_pos (show plS l s (some p) = true from decide_eq_true h.1)]
  exact jly h.2
theorem jlg {kvs : List (Key × V)} : ∀ {ts : List (Int × Int)} {q : Int × Int} {k : Nat},TiOk kvs q ts→jd4 kvs q k (ts.map some) = none
 | [],_,_,_=>rfl
 | p :: r,q,k,h=>by
  have c : tiS kvs q (some p) = true:=by
   unfold tiS
   simp only [Bool.and_eq_true,decide_eq_true_eq]
   exact ⟨h.1.1,h.1.2.1,h.1.2.2.1,h.1.2.2.2⟩
  rw [List.map_cons,jd4,if_pos c]
  exact jlg h.2
theorem jkl (ps : List (Int × Int)) : (ps.map jao).map prO = ps.map some:=by
 rw [List.map_map]
 rfl
theorem je4 {ps ts : List (Int × Int)} (h : WebOk ps ts) : jax (webD ps ts) = none:=by
 have e1 : jfj (prsD ps) = none:=by
  unfold prsD jfj noPl
  dsimp only
  rw [jkl,List.length_map,if_pos h.pl,jly h.p]
  rfl
 have e2 : psD (prsD ps) = ps:=by
  show psOf ((ps.map jao).map prO) = ps
  rw [jkl]
  exact jge ps
 have e3 : jh4 (jc0 ps) (prsD ts) = none:=by
  unfold prsD jh4 noTi
  dsimp only
  rw [jkl,List.length_map,if_pos h.tl,jlg h.t]
  rfl
 unfold webD jax
 dsimp only
 rw [e1]
 dsimp only
 rw [e2,e3]
theorem good {sp spG : Sp} {k : Nat} {f : Addr} {fd : FuncData} {qs : List Str} (imp : ∀ vs H Q E,spG vs H Q E→sp vs H Q (fun _ _ _=>False)) (G : FnOk P w K mg base (CXE P w) k f fd qs sp) : FnOk P w K mg base CX0 k f fd qs spG:=by
 refine ⟨fun vs H Q E q=>G.len vs H Q _ (imp _ _ _ _ q),fun A outer s H args us vs Q E hr he hb hv hs=>codeAny_mono (G.run A outer s H args us vs Q _ hr he hb hv (imp _ _ _ _ hs)) fun r s' hq=>?_⟩
 cases r with
 | error e =>
  obtain ⟨_,_,_,_,_,_,_,_,_,_,_,_,_,_,_,z⟩:=hq
  exact z.elim
 | ok fl=>cases fl <;> exact hq
structure RowsOk (ps ts : List (Int × Int)) (rows : List Row) : Prop where
 no : jd1 ps ts (.lst (rows.map rowD)) = none
 ov : jkn ps rows = none
 fit : ∀ r ∈ rows,r.2.1.length ≤ 900
 len : rows.length ≤ 200
theorem jr7 (r : Row) : ji8 (rowD r) = some r:=by
 obtain ⟨w,ns,am⟩:=r
 show some (w,jfk (ns.map Dt.int),am) = _
 rw [jc1]
theorem jd7 : ∀ (rows : List Row),(rows.map rowD).filterMap ji8 = rows
 | []=>rfl
 | r :: t=>by
  rw [List.map_cons,List.filterMap_cons,jr7]
  dsimp only
  rw [jd7 t]
theorem jlq {rows : List Row} (h : ∀ r ∈ rows,r.2.1.length ≤ 900) : jj8 (.lst (rows.map rowD)):=by
 intro ds e r hr a b c er
 cases e
 obtain ⟨q,hq,rfl⟩:=List.mem_map.mp hr
 have:=h q hq
 unfold rowD at er
 cases er
 rw [List.length_map]
 exact this
noncomputable def jli : Sp:=fun vs H Q _=>∃ v l xs rows ps ts,vs = [v,.ref l]∧jc2 H v ps ts∧WebOk ps ts∧H l = some (.lst xs)∧Reps H (rows.map rowD) xs∧RowsOk ps ts rows∧∀ H',Same H H'→Q (.int (gAll rows)) H'
theorem jmd {CW CR CO : Addr} : ∀ vs H Q E,jli vs H Q E→jct id CW CR CO vs H Q (fun _ _ _=>False):=by
 rintro vs H Q E ⟨v,l,xs,rows,ps,ts,rfl,hw,wok,el,rx,ok,h⟩
 refine ⟨v,webD ps ts,.ref l,rfl,jhw hw,fun w n e=>?_,fun qs us e _=>?_⟩
 ·rw [je4 wok] at e
  cases e
 obtain ⟨rfl,rfl⟩:=jlc e
 refine ⟨.lst (rows.map rowD),by rw [Rep]; exact ⟨l,xs,rfl,el,rx⟩,jlq ok.fit,fun n en=>?_,fun _=>⟨fun p eo=>?_,fun _=>?_⟩⟩
 ·rw [ok.no] at en
  cases en
 ·rw [show jg7 (.lst (rows.map rowD)) = rows from jd7 rows,ok.ov] at eo
  cases eo
 ·rw [show jg7 (.lst (rows.map rowD)) = rows from jd7 rows]
  exact h
noncomputable def jlo : Sp:=fun vs H Q _=>∃ v l xs rows ps ts,vs = [v,.ref l]∧jc2 H v ps ts∧WebOk ps ts∧H l = some (.lst xs)∧Reps H (rows.map rowD) xs∧RowsOk ps ts rows∧∀ H',Same H H'→Q (.int ((gAll rows + 1) / 2)) H'
theorem jn4 {CW CR CO : Addr} : ∀ vs H Q E,jlo vs H Q E→jct (fun n=>(n + 1) / 2) CW CR CO vs H Q (fun _ _ _=>False):=by
 rintro vs H Q E ⟨v,l,xs,rows,ps,ts,rfl,hw,wok,el,rx,ok,h⟩
 refine ⟨v,webD ps ts,.ref l,rfl,jhw hw,fun w n e=>?_,fun qs us e _=>?_⟩
 ·rw [je4 wok] at e
  cases e
 obtain ⟨rfl,rfl⟩:=jlc e
 refine ⟨.lst (rows.map rowD),by rw [Rep]; exact ⟨l,xs,rfl,el,rx⟩,jlq ok.fit,fun n en=>?_,fun _=>⟨fun p eo=>?_,fun _=>?_⟩⟩
 ·rw [ok.no] at en
  cases en
 ·rw [show jg7 (.lst (rows.map rowD)) = rows from jd7 rows,ok.ov] at eo
  cases eo
 ·rw [show jg7 (.lst (rows.map rowD)) = rows from jd7 rows]
  exact h
theorem jit {ps ts : List (Int × Int)} {rows : List Row} (g : GoodRs ps ts rows) (hl : rows.length ≤ 200) (hf : ∀ p ∈ ps,jb3 rows p.1 ≤ 2 * p.2) : RowsOk ps ts rows:=by
 refine ⟨?_,?_,fun r hr=>Nat.le_trans (g.len r hr) (by decide),hl⟩
 ·unfold jd1
  dsimp only
  rw [List.length_map,if_pos hl]
  have : ∀ (rs : List Row) (k : Nat),(∀ r ∈ rs,rowB ps ts (rowD r) = true)→jcn ps ts k (rs.map rowD) = none:=fun rs=>by
   induction rs with
   | nil=>intro _ _; rfl
   | cons r t ih=>intro k h; rw [List.map_cons,jcn,if_pos (h r (.head _))]; exact ih _ fun q hq=>h q (.tail _ hq)
  rw [this rows 0 g.ok]
  rfl
 ·unfold jkn
  rw [List.find?_eq_none.mpr fun p hp=>?_]
  ·rfl
  ·have:=hf p hp
   rw [decide_eq_true_eq]
   omega
noncomputable def spWhl : Sp:=fun vs H Q _=>∃ n,vs = [.int n]∧Q (.bl true) H
noncomputable def Wrd (r : Row) : Prop:=r.1 = (("all" : String) : Str) ∨ r.1 = (("ring" : String) : Str)
noncomputable def jlh : Sp:=fun vs H Q _=>∃ l xs rows,vs = [.ref l]∧H l = some (.lst xs)∧RwsR H xs rows∧(∀ r ∈ rows,Wrd r)∧(∀ r ∈ rows,r.2.1.length ≤ 900)∧rows.length ≤ 900∧∀ H',Same H H'→Q (.int (gAll rows)) H'
noncomputable def jnh : Sp:=fun vs H Q _=>∃ v l xs rows ps ts,vs = [v,.ref l]∧jc2 H v ps ts∧WebOk ps ts∧H l = some (.lst xs)∧RwsR H xs rows∧(∀ r ∈ rows,Wrd r)∧RowsOk ps ts rows∧∀ H',Same H H'→Q (.bl true) H'
theorem jov (rows : List Row) (r : Row) : gAll (rows ++ [r]) = gAll rows + gOne r * r.2.2:=by
 unfold gAll
 rw [List.map_append,List.sum_append]
 simp
theorem jjs {f : Addr} {fd : FuncData}  (B : Blt mg) (D : DefAt K mg "_law_whole" (top 45) ["_law_thing"] f fd) : FnOk P w K mg base CX0 1 f fd ["_law_thing"] spWhl:=by
 have sc : FnScope ["_law_thing"] ["_law_thing"] (ja9 (top 45)):=⟨rfl,rfl,rfl,by decide +kernel,rfl,by decide +kernel,by decide +kernel⟩
 refine D.F.ok sc (fun vs H Q E h=>?_) (fun cdv A outer s H vs Q E hr h=>?_)
 ·obtain ⟨n,rfl,_⟩:=h
  rfl
 obtain ⟨n,rfl,h⟩:=h
 have hu:=jb8 hr
 have hu0 : _ < PySem.cLine:=Nat.lt_of_succ_lt hu
 refine ⟨_,(ja7 (jae (jew (jad (jjm .int) rfl B.isinstance PyProof.Rows.boot_isinstance (ja0 (qv 0) (ja0 (jd9 (v:=.ty "int") rfl B.int PyProof.Rows.boot_int rfl) ja2))) (jdw (q_not (jad (jjm .bl) rfl B.isinstance PyProof.Rows.boot_isinstance (ja0 (qv 0) (ja0 (jd9 (v:=.ty "bool") rfl B.bool PyProof.Rows.boot_bool rfl) ja2)))))))),?_⟩
 walk_at "RD"
 exact h
theorem jjr {f : Addr} {fd : FuncData}  (B : Blt mg) (D : DefAt K mg "_law_worth" (top 46) ["_law_rows_here"] f fd) : FnOk P w K mg base CX0 1 f fd ["_law_rows_here"] jlh:=by
 have sc : FnScope ["_law_rows_here","_law_total","_law_word","_law_places_here","_law_amount","_law_many"] ["_law_rows_here"] (ja9 (top 46)):=⟨rfl,rfl,rfl,by decide +kernel,rfl,by decide +kernel,by decide +kernel⟩
 refine D.F.ok sc (fun vs H Q E h=>?_) (fun cdv A outer s H vs Q E hr h=>?_)
 ·obtain ⟨l,xs,rows,rfl,_⟩:=h
  rfl
 obtain ⟨l,xs,rows,rfl,el,rx,hwd,hl9,hn9,h⟩:=h
 have hlx : xs.length = rows.length:=Paired.length rx
 have hu:=jb8 hr
 have hu0 : _ < PySem.cLine:=Nat.lt_of_succ_lt hu
 refine ⟨_,(ja3 (jah (i:=1) sc.nd rfl (Or.inl rfl) ja4) (ja3 (jbi PassesOwn.never rfl (jb5 (qv 0)) (jc3 (n:=3) rfl (jaf (jac (i:=2) sc.nd rfl (Or.inl rfl)) (jaf (jac (i:=3) sc.nd rfl (Or.inl rfl)) (jaf (jac (i:=4) sc.nd rfl (Or.inl rfl)) jbg)))) (ja3 (jah (i:=5) sc.nd rfl (Or.inl rfl) (jad jci rfl B.len PySem.boot_len (ja0 (qv 3) ja2))) (ja7 (jah (i:=1) sc.nd rfl (Or.inl rfl) (jai jbv (qv 1) (jai jgy (qv 4) (jal q_ix (jas (ja0 (jai jee (qv 5) ja4) (ja0 (jai jhg (jai jbv (qv 5) ja4) ja4) ja2))) (jc9 jqt rfl B.int PyProof.Rows.boot_int (ja0 (jbs q_eq (qv 2) jbb (jak _)) ja2)) (fun _ _=>rfl)))))))) (ja7 (jae (qv 1))))),?_⟩
 walk_at "RD"
 refine jav (Itl K l) H (fun R hR=>?_) (jbe (K:=K) (a:=l) (xs:=xs) (fun i σ H1=>∃ w2 w3 w4 w5,σ = [some (.ref l),some (.int (gAll (rows.take i))),w2,w3,w4,w5]∧Same H H1) ⟨none,none,none,none,rfl,Same.refl _⟩ (fun i σ H1 _ ⟨_,_,_,_,_,s1⟩=>SqL.of (s1 _ _ el)) ?_ ?_)
 ·unfold jcr
  walk_at "RD"
  exact ⟨l,rfl,⟨_,SqL.of el⟩,hR⟩
 ·rintro i y σ H1 hi ⟨w2,w3,w4,w5,rfl,s1⟩
  obtain ⟨r,hr1,u,la,rfl,eu,ela⟩:=jam rx hi
  have eu1:=s1 _ _ eu
  have ela1:=s1 _ _ ela
  have hm:=List.mem_of_getElem? hr1
  have h9:=hl9 r hm
  simp_arith [eu1,jaj,ela1,List.length_map]
  refine ⟨⟨by decide,by decide⟩,?_⟩
  intro p hp
  have s2:=ja5 hp (.lst [.int ((r.2.1.length : Int) - 1),.int (((r.2.1.length : Int) + 1) / 2)])
  have ep : upd H1 p (.lst [.int ((r.2.1.length : Int) - 1),.int (((r.2.1.length : Int) + 1) / 2)]) p = some (.lst [.int ((r.2.1.length : Int) - 1),.int (((r.2.1.length : Int) + 1) / 2)]):=ja1
  generalize upd H1 p (.lst [.int ((r.2.1.length : Int) - 1),.int (((r.2.1.length : Int) + 1) / 2)]) = H2 at s2 ep
  have key : atI [V.int ((r.2.1.length : Int) - 1),.int (((r.2.1.length : Int) + 1) / 2)] (if decide (r.1 = (("ring" : String) : Str)) = true then (1 : Int) else 0) = some (.int (gOne r)):=by
   unfold gOne
   rcases hwd r hm with e | e
   ·rw [e,if_neg (by decide),if_pos rfl]; rfl
   ·rw [e,if_pos (by decide),if_neg (by decide)]; rfl
  simp_arith [ep,key]
  have hg : 0 - 1 ≤ gOne r∧gOne r ≤ 1000:=by
   unfold gOne
   split <;> omega
  have eg : gAll (rows.take i) + r.2.2 * gOne r = gAll (rows.take (i + 1)):=by rw [jbo hr1,jov,Int.mul_comm]
  rw [eg]
  exact ⟨.inr ⟨by omega,by omega⟩,_,_,_,_,rfl,s1.trans s2⟩
 ·rintro σ H1 ⟨w2,w3,w4,w5,rfl,s1⟩
  rw [hlx,List.take_length]
  walk_at "RD"
  exact h H1 s1
theorem jjt {f : Addr} {fd : FuncData} {f_law_worth : Addr} {d_law_worth : FuncData} {f_worth_of : Addr} {d_worth_of : FuncData} {f_bound_of : Addr} {d_bound_of : FuncData} {f_law_whole : Addr} {d_law_whole : FuncData} (B : Blt mg) (D : DefAt K mg "_law_right" (top 47) ["_law_web_here","_law_rows_here"] f fd) (D_law_worth : DefAt K mg "_law_worth" (top 46) ["_law_rows_here"] f_law_worth d_law_worth) (G_law_worth : FnOk P w K mg base CX0 1 f_law_worth d_law_worth ["_law_rows_here"] jlh) (D_worth_of : DefAt K mg "worth_of" (top 33) ["web","rows"] f_worth_of d_worth_of) (G_worth_of : FnOk P w K mg base CX0 7 f_worth_of d_worth_of ["web","rows"] jli) (D_bound_of : DefAt K mg "bound_of" (top 34) ["web","rows"] f_bound_of d_bound_of) (G_bound_of : FnOk P w K mg base CX0 8 f_bound_of d_bound_of ["web","rows"] jlo) (D_law_whole : DefAt K mg "_law_whole" (top 45) ["_law_thing"] f_law_whole d_law_whole) (G_law_whole : FnOk P w K mg base CX0 1 f_law_whole d_law_whole ["_law_thing"] spWhl) : FnOk P w K mg base CX0 9 f fd ["_law_web_here","_law_rows_here"] jnh:=by
 have sc : FnScope ["_law_web_here","_law_rows_here","_law_due","_law_worth_here","_law_bound"] ["_law_web_here","_law_rows_here"] (ja9 (top 47)):=⟨rfl,rfl,rfl,by decide +kernel,rfl,by decide +kernel,by decide +kernel⟩
 refine D.F.ok sc (fun vs H Q E h=>?_) (fun cdv A outer s H vs Q E hr h=>?_)
 ·obtain ⟨v,l,xs,rows,ps,ts,rfl,_⟩:=h
  rfl
 obtain ⟨v,l,xs,rows,ps,ts,rfl,hw,wok,el,rx,hwd,ok,h⟩:=h
 have hl2:=ok.len
 have hu:=jb8 hr
 have hu0 : _ < PySem.cLine:=Nat.lt_of_succ_lt hu
 refine ⟨_,(ja3 (jah (i:=2) sc.nd rfl (Or.inl rfl) (jab G_law_worth (hr.mono (by decide)) rfl D_law_worth.m D_law_worth.F.kp D_law_worth.b .nil jaq (ja0 (qv 1) ja2))) (ja3 (jah (i:=3) sc.nd rfl (Or.inl rfl) (jab G_worth_of (hr.mono (by decide)) rfl D_worth_of.m D_worth_of.F.kp D_worth_of.b .nil jaq (ja0 (qv 0) (ja0 (qv 1) ja2)))) (ja3 (jah (i:=4) sc.nd rfl (Or.inl rfl) (jab G_bound_of (hr.mono (by decide)) rfl D_bound_of.m D_bound_of.F.kp D_bound_of.b .nil jaq (ja0 (qv 0) (ja0 (qv 1) ja2)))) (ja3 (jay (PW.pt (jid (jbw (jbq (jab G_law_whole (hr.mono (by decide)) rfl D_law_whole.m D_law_whole.F.kp D_law_whole.b .nil jaq (ja0 (qv 3) ja2)))) (jgd (jbw (jbq (jab G_law_whole (hr.mono (by decide)) rfl D_law_whole.m D_law_whole.F.kp D_law_whole.b .nil jaq (ja0 (qv 4) ja2))))))) (ja7 (jae je1)) jag) (ja7 (jae (jew (jbs q_eq (qv 3) (qv 2) (jak _)) (jdw (jbs q_eq (qv 4) (jai jbv (jai jhg (qv 2) ja4) (jai jgz (qv 2) ja4)) (jak _)))))))))),?_⟩
 walk_at "RD"
 refine ⟨l,xs,rows,rfl,el,rx,hwd,ok.fit,by omega,fun H1 s1=>?_⟩
 walk_at "RD"
 refine ⟨v,l,xs,rows,ps,ts,rfl,hw.same s1,wok,s1 _ _ el,(rx.same s1).reps,ok,fun H2 s2=>?_⟩
 have s12:=s1.trans s2
 walk_at "RD"
 refine ⟨v,l,xs,rows,ps,ts,rfl,hw.same s12,wok,s12 _ _ el,(rx.same s12).reps,ok,fun H3 s3=>?_⟩
 walk_at "RD"
 refine ⟨_,rfl,?_⟩
 walk_at "RD"
 refine ⟨_,rfl,?_⟩
 walk_at "RD"
 have e : (gAll rows + 1) / 2 = gAll rows / 2 + gAll rows % 2:=by omega
 refine ⟨⟨by decide,by decide⟩,by decide,?_⟩
 rw [decide_eq_true e]
 exact h H3 (s12.trans s3)
end
end My
namespace My
open PySem L2
section
variable {P : Program} {w : World} {K : PySem.W.Frag} {mg : Str→Option Value} {base : Heap} {c1 c2 c3 c4 : Tok} {C_NoWeb f_NoWeb : Addr} {dI : FuncData}
variable {C_NoRows C_Overpaid : Addr}
mutual
theorem jjl {H H' : Hp} (s1 : ∀ b xs,H b = some (.lst xs)→H' b = some (.lst xs)) (s2 : ∀ b xs,H b = some (.tup xs)→H' b = some (.tup xs)) : ∀ (d : Dt) {v : V},Rep H d v→Rep H' d v
 | .non,_,h=>by rw [Rep] at *; exact h
 | .bl _,_,h=>by rw [Rep] at *; exact h
 | .int _,_,h=>by rw [Rep] at *; exact h
 | .str _,_,h=>by rw [Rep] at *; exact h
 | .tup ds,_,h=>by
  rw [Rep] at *
  obtain ⟨a,vs,e,q,r⟩:=h
  exact ⟨a,vs,e,s2 _ _ q,jeu s1 s2 ds r⟩
 | .lst ds,_,h=>by
  rw [Rep] at *
  obtain ⟨a,vs,e,q,r⟩:=h
  exact ⟨a,vs,e,s1 _ _ q,jeu s1 s2 ds r⟩
theorem jeu {H H' : Hp} (s1 : ∀ b xs,H b = some (.lst xs)→H' b = some (.lst xs)) (s2 : ∀ b xs,H b = some (.tup xs)→H' b = some (.tup xs)) : ∀ (ds : List Dt) {vs : List V},Reps H ds vs→Reps H' ds vs
 | [],_,h=>by rw [Reps] at *; exact h
 | d :: ds,_,h=>by
  rw [Reps] at *
  obtain ⟨v,r,e,h1,h2⟩:=h
  exact ⟨v,r,e,jjl s1 s2 d h1,jeu s1 s2 ds h2⟩
end
theorem _root_.L2.TabS.ne {qual : Str} {H : Hp} {T b : Addr} {o : HO} (t : TabS qual H T) (e : H b = some o) (n : ∀ ps,o ≠ .tbl ps) : b ≠ T:=fun z=>by
 obtain ⟨ps,eT,_⟩:=t
 rw [z,eT] at e
 exact n ps (Option.some.inj e).symm
theorem jdr {qual : Str} {H H' : Hp} {T : Addr} {d : Dt} {v : V} (t : TabS qual H T) (b : ButT T H H') (h : Rep H d v) : Rep H' d v :=
 jjl (fun c xs e=>b _ _ (t.ne e fun _ z=>by cases z) e) (fun c xs e=>b _ _ (t.ne e fun _ z=>by cases z) e) d h
theorem _root_.L2.TabS.drop {qual : Str} {H H1 H2 : Hp} {D : Hp→Hp} {T : Addr} (t : TabS qual H1 T) (dp : DropP H H1 D) (s : Same H1 H2) : TabS qual (D H2) T:=by
 obtain ⟨ps,e,tr,q⟩:=t.same s
 refine ⟨ps,dp.new H2 s _ _ e (fun _ z=>by cases z),tr,fun pos c hc=>?_⟩
 obtain ⟨c',e1,e2⟩:=q pos c hc
 exact ⟨c',e1,dp.new H2 s _ _ e2 fun _ z=>by cases z⟩
theorem _root_.L2.TabS.but {qual : Str} {H H' : Hp} {T st : Addr} {o : HO} (t : TabS qual H T) (e : H st = some o) (so : StO o) (b : But st H H') : TabS qual H' T:=by
 obtain ⟨_,_,_,rfl,_⟩:=so
 obtain ⟨ps,eT,tr,q⟩:=t
 refine ⟨ps,b _ _ (fun z=>by rw [z,e] at eT; cases eT) eT,tr,fun pos c hc=>?_⟩
 obtain ⟨c',e1,e2⟩:=q pos c hc
 exact ⟨c',e1,b _ _ (fun z=>by rw [z,e] at e2; cases e2) e2⟩
noncomputable def dueD (w : Str) (n : Option Nat) : Dt:=.tup [.str w,match n with | none=>.non | some k=>.int k]
theorem jdg {H : Hp} {t : Addr} {w : Str} {n : Option Nat} (h : H t = some (.tup [.str w,nV n])) : Rep H (dueD w n) (.ref t):=by
 unfold dueD
 refine jg9 h (jec (by rw [Rep]) ?_)
 cases n with
 | none=>rw [Rep]; rfl
 | some k=>rw [Rep]; rfl
theorem jj1 (w : Str) (n : Option Nat) : eqP (dueD w n) (dueD w n) = true:=by
 cases n <;> simp [dueD,eqP,eqPs]
theorem jfv (w : Str) (n : Option Nat) : depP (dueD w n) ≤ 20:=by
 cases n <;> simp [dueD,depP,jck]
theorem jer {qual : Str} {H H' : Hp} {T : Addr} (t : TabS qual H T) (b : ButT T H H') : TupS H H':=fun c o i q=>b _ _ (t.ne q fun _ z=>by subst z; cases i) q
noncomputable def jni (T : Addr) (qual : Str) : Sp:=fun vs H Q _=>∃ st o v r ps ts,vs = [.ref st,v,r]∧H st = some o∧StO o∧jc2 H v ps ts∧WebOk ps ts∧ps.length ≤ 39∧ts.length ≤ 119∧TabS qual H T∧∀ H',TupS H H'→TabS qual H' T→Q (.bl true) H'
theorem jim {tc tT : Addr} {qual : Str} (hqual : ("_law_no_web" : Str) ++ ".<locals>." ++ Str.ofString "<lambda>" = qual) (hC : PySem.W.CodeHd base tc tT) (hBl : BltAt mg base) {f : Addr} {fd : FuncData} {f_law_bad_web : Addr} {d_law_bad_web : FuncData} {f_law_web_told : Addr} {d_law_web_told : FuncData} {f_worth_of : Addr} {d_worth_of : FuncData} {f_bound_of : Addr} {d_bound_of : FuncData} {f_look_at_rows : Addr} {d_look_at_rows : FuncData} (B : Blt mg) (D : DefAt K mg "_law_no_web" (top 50) ["_law_state","_law_web_here","_law_rows_here"] f fd) (D_law_bad_web : DefAt K mg "_law_bad_web" (top 48) ["_law_state","_law_web_here"] f_law_bad_web d_law_bad_web) (G_law_bad_web : FnOk P w K mg base CX0 2 f_law_bad_web d_law_bad_web ["_law_state","_law_web_here"] spBad) (D_law_web_told : DefAt K mg "_law_web_told" (top 49) ["_law_call"] f_law_web_told d_law_web_told) (G_law_web_told : FnOk P w K mg base CX0 10 f_law_web_told d_law_web_told ["_law_call"] (jnf P w K mg base C_NoWeb (8 + 1))) (D_worth_of : DefAt K mg "worth_of" (top 33) ["web","rows"] f_worth_of d_worth_of) (G_worth_of : FnOk P w K mg base (CXE P w) 8 f_worth_of d_worth_of ["web","rows"] (jct id C_NoWeb C_NoRows C_Overpaid)) (D_bound_of : DefAt K mg "bound_of" (top 34) ["web","rows"] f_bound_of d_bound_of) (G_bound_of : FnOk P w K mg base (CXE P w) 8 f_bound_of d_bound_of ["web","rows"] (jct (fun n=>(n + 1) / 2) C_NoWeb C_NoRows C_Overpaid)) (D_look_at_rows : DefAt K mg "look_at_rows" (top 29) ["web","thing"] f_look_at_rows d_look_at_rows) (G_look_at_rows : FnOk P w K mg base (CXE P w) 8 f_look_at_rows d_look_at_rows ["web","thing"] (jes C_NoWeb C_NoRows C_Overpaid)) (hfc : fd.code = .ref tc) : FnOk P w K mg base CX0 11 f fd ["_law_state","_law_web_here","_law_rows_here"] (jni tT qual):=by
 have sc : FnScope ["_law_state","_law_web_here","_law_rows_here","_law_bad","_law_part","_law_number","_law_thing"] ["_law_state","_law_web_here","_law_rows_here"] (ja9 (top 50)):=⟨rfl,rfl,rfl,by decide +kernel,rfl,by decide +kernel,by decide +kernel⟩
 refine D.F.okC sc (fun vs H Q E h=>?_) (fun A outer s H vs Q E hr h=>?_)
 ·obtain ⟨st,o,v,r,ps,ts,rfl,_⟩:=h
  rfl
 obtain ⟨st,o,v,r,ps,ts,rfl,es,so,hw,wok,h39,h119,tab,h⟩:=h
 have hu:=jb8 hr
 have hu0 : _ < PySem.cLine:=Nat.lt_of_succ_lt hu
 refine ⟨_,(ja3 (jhh (jab G_law_bad_web (hr.mono (by decide)) rfl D_law_bad_web.m D_law_bad_web.F.kp D_law_bad_web.b .nil jaq (ja0 (qv 0) (ja0 (qv 1) ja2))) (jc3 (n:=3) rfl (jaf (jac (i:=3) sc.nd rfl (Or.inr rfl)) (jaf (jac (i:=4) sc.nd rfl (Or.inl rfl)) (jaf (jac (i:=5) sc.nd rfl (Or.inl rfl)) jbg))))) (ja3 (jbi PassesOwn.never rfl (jb5 (jas (ja0 (qv 2) (ja0 jd0 ja2)))) (jac (i:=6) sc.nd rfl (Or.inr rfl)) (ja3 (jay (jan (jjq hr.units) (jii (G_law_web_told) (hr.mono (by decide)) rfl D_law_web_told.m D_law_web_told.F.kp D_law_web_told.b G_worth_of D_worth_of.m D_worth_of.F.kp D_worth_of.b hfc hC hBl hqual (fun _=>rfl) (by rfl)) (jar (ja0 (qv 4) (ja0 (qv 5) ja2))) (jak _)) (ja7 (jae je1)) jag) (ja3 (jay (jan (jjq hr.units) (jii (G_law_web_told) (hr.mono (by decide)) rfl D_law_web_told.m D_law_web_told.F.kp D_law_web_told.b G_bound_of D_bound_of.m D_bound_of.F.kp D_bound_of.b hfc hC hBl hqual (fun _=>rfl) (by rfl)) (jar (ja0 (qv 4) (ja0 (qv 5) ja2))) (jak _)) (ja7 (jae je1)) jag) (ja7 (jay (jan (jjq hr.units) (jii (G_law_web_told) (hr.mono (by decide)) rfl D_law_web_told.m D_law_web_told.F.kp D_law_web_told.b G_look_at_rows D_look_at_rows.m D_look_at_rows.F.kp D_look_at_rows.b hfc hC hBl hqual (fun _=>rfl) (by rfl)) (jar (ja0 (qv 4) (ja0 (qv 5) ja2))) (jak _)) (ja7 (jae je1)) jag))))) (ja7 (jae (jbs (jo7 hr.units) (jii (G_law_web_told) (hr.mono (by decide)) rfl D_law_web_told.m D_law_web_told.F.kp D_law_web_told.b G_bound_of D_bound_of.m D_bound_of.F.kp D_bound_of.b hfc hC hBl hqual (fun _=>rfl) (by rfl)) (jar (ja0 jbb (ja0 jd0 ja2))) (jak _)))))),?_⟩
 refine jaa fun R hR=>?_
 walk_at "RD"
 refine ⟨st,o,v,ps,ts,rfl,es,so,hw,wok,h39,h119,fun u b w9 n9 d H2 o2 b2 e2 so2 eu rb hn=>?_⟩
 simp_arith [eu]
 subst hR
 refine jaa fun R hR=>?_
 have tab2:=tab.but es so b2
 have tu2 : TupS H H2:=b2.tups es so.imm
 refine jcm (ι:=Addr) (fun L=>Itl K L) (fun L=>upd H2 L (.lst [r,.non])) (fun L=>H2 L = none) (fun R' hR'=>?_) (fun L hL=>?_)
 ·unfold jcr
  walk_at "RD"
  intro L hL
  exact ⟨L,rfl,⟨_,SqL.of ja1⟩,hR' L hL⟩
 have sL:=ja5 hL (.lst [r,.non])
 have eL : upd H2 L (.lst [r,.non]) L = some (.lst [r,.non]):=ja1
 generalize upd H2 L (.lst [r,.non]) = HL at sL eL
 refine jbe (K:=K) (a:=L) (xs:=[r,.non]) (fun j σ H1=>∃ w6,σ = [some (.ref st),some v,some r,some b,some (.str w9),some (nV n9),w6]∧TupS H H1∧Rep H1 d b∧TabS qual H1 tT∧H1 L = some (.lst [r,.non])) ⟨none,rfl,tu2.trans sL.tups,Rep.same sL _ rb,tab2.same sL,eL⟩ (fun j σ H1 _ ⟨_,_,_,_,_,e⟩=>SqL.of e) ?_ ?_
 ·rintro j y σ H1 hj ⟨w6,rfl,tu1,rb1,tab1,eL1⟩
  simp only [jf3,List.set_cons_zero,List.set_cons_succ]
  refine jaa fun R1 hR1=>?_
  simp_arith [jnd]
  refine ⟨tab1,[b,y],⟨3,b,[y],rfl,rfl,rfl,6,y,[],rfl,rfl,rfl,rfl⟩,fun H3 D bt tab3 dp=>?_⟩
  refine ⟨b,d,y,rfl,jdr tab1 bt rb1,fun w' n' e'=>?_,fun ps' ts' ed wok'=>?_⟩
  rotate_left
  ·rw [ed,je4 wok'] at hn
   cases hn
  rw [hn] at e'
  cases e'
  intro dx H4 hdx s4 e4
  refine ⟨rfl,dx,.str w9,nV n9,rfl,e4,fun t H5 s5 et5=>?_⟩
  have s35:=s4.trans s5
  have et6 : D H5 t = some (.tup [.str w9,nV n9]):=dp.new H5 s35 _ _ et5 fun _ z=>by cases z
  have tab6 : TabS qual (D H5) tT:=tab3.drop dp s35
  have b6 : ButT tT H1 (D H5):=fun c o nc q=>by rw [dp.old H5 c o q]; exact s35 _ _ (bt c o nc q)
  have rb6:=jdr tab1 b6 rb1
  have tu6:=tu1.trans (jer tab1 b6)
  have eL6:=b6 _ _ (tab1.ne eL1 fun _ z=>by cases z) eL1
  generalize D H5 = H6 at et6 tab6 b6 rb6 tu6 eL6
  clear dp bt tab3 s35 s4 s5 e4 et5 hdx H4 H5 H3
  walk_at "RD"
  intro p hp
  have s7:=ja5 hp (.tup [.str w9,nV n9])
  have ep : upd H6 p (.tup [.str w9,nV n9]) p = some (.tup [.str w9,nV n9]):=ja1
  generalize upd H6 p (.tup [.str w9,nV n9]) = H1b at s7 ep
  refine ⟨dueD w9 n9,dueD w9 n9,jdg (s7 _ _ et6),jdg ep,jfv w9 n9,.inr ⟨_,_,rfl,rfl⟩,?_⟩
  rw [jj1]
  walk_at "RD"
  have tu1b:=tu6.trans s7.tups
  have rb1b:=Rep.same s7 _ rb6
  have tab1b:=tab6.same s7
  have eL1b:=s7 _ _ eL6
  clear rb6 tab6 eL6 tu6 b6 et6 s7 ep hp p t D H6
  subst hR1
  refine jaa fun R1 hR1=>?_
  simp_arith [jnd]
  refine ⟨tab1b,[b,y],⟨3,b,[y],rfl,rfl,rfl,6,y,[],rfl,rfl,rfl,rfl⟩,fun H3 D bt tab3 dp=>?_⟩
  refine ⟨b,d,y,rfl,jdr tab1b bt rb1b,fun w' n' e'=>?_,fun ps' ts' ed wok'=>?_⟩
  rotate_left
  ·rw [ed,je4 wok'] at hn
   cases hn
  rw [hn] at e'
  cases e'
  intro dx H4 hdx s4 e4
  refine ⟨rfl,dx,.str w9,nV n9,rfl,e4,fun t H5 s5 et5=>?_⟩
  have s35:=s4.trans s5
  have et6 : D H5 t = some (.tup [.str w9,nV n9]):=dp.new H5 s35 _ _ et5 fun _ z=>by cases z
  have tab6 : TabS qual (D H5) tT:=tab3.drop dp s35
  have b6 : ButT tT H1b (D H5):=fun c o nc q=>by rw [dp.old H5 c o q]; exact s35 _ _ (bt c o nc q)
  have rb6:=jdr tab1b b6 rb1b
  have tu6:=tu1b.trans (jer tab1b b6)
  have eL6:=b6 _ _ (tab1b.ne eL1b fun _ z=>by cases z) eL1b
  generalize D H5 = H6 at et6 tab6 b6 rb6 tu6 eL6
  clear dp bt tab3 s35 s4 s5 e4 et5 hdx H4 H5 H3
  walk_at "RD"
  intro p hp
  have s7:=ja5 hp (.tup [.str w9,nV n9])
  have ep : upd H6 p (.tup [.str w9,nV n9]) p = some (.tup [.str w9,nV n9]):=ja1
  generalize upd H6 p (.tup [.str w9,nV n9]) = H1c at s7 ep
  refine ⟨dueD w9 n9,dueD w9 n9,jdg (s7 _ _ et6),jdg ep,jfv w9 n9,.inr ⟨_,_,rfl,rfl⟩,?_⟩
  rw [jj1]
  walk_at "RD"
  have tu1c:=tu6.trans s7.tups
  have rb1c:=Rep.same s7 _ rb6
  have tab1c:=tab6.same s7
  have eL1c:=s7 _ _ eL6
  clear rb6 tab6 eL6 tu6 b6 et6 s7 ep hp p t D H6
  subst hR1
  simp_arith [jnd]
  refine ⟨tab1c,[b,y],⟨3,b,[y],rfl,rfl,rfl,6,y,[],rfl,rfl,rfl,rfl⟩,fun H3 D bt tab3 dp=>?_⟩
  refine ⟨b,d,y,rfl,jdr tab1c bt rb1c,fun w' n' e'=>?_,fun ps' ts' ed wok'=>?_⟩
  rotate_left
  ·rw [ed,je4 wok'] at hn
   cases hn
  rw [hn] at e'
  cases e'
  intro dx H4 hdx s4 e4
  refine ⟨rfl,dx,.str w9,nV n9,rfl,e4,fun t H5 s5 et5=>?_⟩
  have s35:=s4.trans s5
  have et6 : D H5 t = some (.tup [.str w9,nV n9]):=dp.new H5 s35 _ _ et5 fun _ z=>by cases z
  have tab6 : TabS qual (D H5) tT:=tab3.drop dp s35
  have b6 : ButT tT H1c (D H5):=fun c o nc q=>by rw [dp.old H5 c o q]; exact s35 _ _ (bt c o nc q)
  have rb6:=jdr tab1c b6 rb1c
  have tu6:=tu1c.trans (jer tab1c b6)
  have eL6:=b6 _ _ (tab1c.ne eL1c fun _ z=>by cases z) eL1c
  generalize D H5 = H6 at et6 tab6 b6 rb6 tu6 eL6
  clear dp bt tab3 s35 s4 s5 e4 et5 hdx H4 H5 H3
  walk_at "RD"
  intro p hp
  have s7:=ja5 hp (.tup [.str w9,nV n9])
  have ep : upd H6 p (.tup [.str w9,nV n9]) p = some (.tup [.str w9,nV n9]):=ja1
  generalize upd H6 p (.tup [.str w9,nV n9]) = H1d at s7 ep
  refine ⟨dueD w9 n9,dueD w9 n9,jdg (s7 _ _ et6),jdg ep,jfv w9 n9,.inr ⟨_,_,rfl,rfl⟩,?_⟩
  rw [jj1]
  walk_at "RD"
  exact ⟨_,rfl,tu6.trans s7.tups,Rep.same s7 _ rb6,tab6.same s7,s7 _ _ eL6⟩
 ·rintro σ H1 ⟨w6,rfl,tu1,rb1,tab1,eL1⟩
  walk_at "RD"
  subst hR
  simp_arith [jnd]
  refine ⟨tab1,[.non,r],⟨[r],rfl,2,r,[],rfl,rfl,rfl,rfl⟩,fun H3 D bt tab3 dp=>?_⟩
  refine ⟨.non,.non,r,rfl,by rw [Rep],fun w' n' e'=>?_,fun ps' ts' ed wok'=>by cases ed⟩
  cases e'
  intro dx H4 hdx s4 e4
  refine ⟨rfl,dx,.str "web",.non,rfl,e4,fun t H5 s5 et5=>?_⟩
  have s35:=s4.trans s5
  have et6 : D H5 t = some (.tup [.str "web",.non]):=dp.new H5 s35 _ _ et5 fun _ z=>by cases z
  have tab6 : TabS qual (D H5) tT:=tab3.drop dp s35
  have b6 : ButT tT H1 (D H5):=fun c o nc q=>by rw [dp.old H5 c o q]; exact s35 _ _ (bt c o nc q)
  have tu6:=tu1.trans (jer tab1 b6)
  generalize D H5 = H6 at et6 tab6 b6 tu6
  walk_at "RD"
  intro p hp
  have s7:=ja5 hp (.tup [.str "web",.non])
  have ep : upd H6 p (.tup [.str "web",.non]) p = some (.tup [.str "web",.non]):=ja1
  generalize upd H6 p (.tup [.str "web",.non]) = H7 at s7 ep
  refine ⟨dueD "web" none,dueD "web" none,jdg (s7 _ _ et6),jdg ep,jfv _ _,.inr ⟨_,_,rfl,rfl⟩,?_⟩
  rw [jj1]
  exact h _ (tu6.trans s7.tups) (tab6.same s7)
end
end My
namespace My
open PySem L2
section
variable {P : Program} {w : World} {K : PySem.W.Frag} {mg : Str→Option Value} {base : Heap} {c1 c2 c3 c4 : Tok} {C_NoWeb f_NoWeb : Addr} {dI : FuncData}
noncomputable def jpi (K : PySem.W.Frag) (T : Addr) (qual : Str) : Sp:=fun vs H Q _=>∃ a ns,vs = [.ref a]∧Scr K H a ns∧TabS qual H T∧∀ H',Q (.bl true) H'
theorem jjk {ps ts : List (Int × Int)} {r : Row} (h : rowB ps ts (rowD r) = true) : Wrd r:=by
 obtain ⟨w,ns,am⟩:=r
 unfold rowD rowB rowT at h
 dsimp only at h
 simp only [Bool.and_eq_true] at h
 obtain ⟨_,_,h⟩:=h
 unfold Wrd
 split at h
 ·rename_i c
  first | exact .inl c | exact .inl (of_decide_eq_true c) | (simp at c; exact .inl c)
 ·rw [Bool.and_eq_true] at h
  have c:=h.1
  first | exact .inr c | exact .inr (of_decide_eq_true c) | (simp at c; exact .inr c)
theorem jmj {rows rs : List Row} (p : rows.Perm rs) (n : Int) : jb3 rows n = jb3 rs n:=by
 unfold jb3
 have hp:=p.map fun r : Row=>r.2.2 * (r.2.1.count n : Int)
 generalize rows.map (fun r : Row=>r.2.2 * (r.2.1.count n : Int)) = a at hp
 generalize rs.map (fun r : Row=>r.2.2 * (r.2.1.count n : Int)) = b at hp
 induction hp with
 | nil=>rfl
 | cons x _ ih=>rw [List.sum_cons,List.sum_cons,ih]
 | swap x y l=>simp only [List.sum_cons]; omega
 | trans _ _ h1 h2=>rw [h1,h2]
theorem jpx {ps ts : List (Int × Int)} {rows : List Row} (g : ∀ r ∈ rows,rowB ps ts (rowD r) = true) (k : Nat) (n : Int) : jb3 (rows.take k) n ≤ jb3 rows n:=by
 have e : jb3 rows n = jb3 (rows.take k) n + jb3 (rows.drop k) n:=by
  unfold jb3
  rw [← List.sum_append,← List.map_append,List.take_append_drop]
 have h:=jfo (n:=n) (ps:=ps) (ts:=ts) (rows:=rows.drop k) fun r hr=>g r (List.mem_of_mem_drop hr)
 omega
theorem jhl {α β : Type} {F : α→β→Prop} : ∀ {a : List α} {b : List β},Paired F a b→Paired F a.reverse b.reverse
 | _,_,.nil=>.nil
 | _,_,.cons r t=>by
  rw [List.reverse_cons,List.reverse_cons]
  exact jca (jhl t) r
noncomputable def allD (ps ts : List (Int × Int)) (rows : List Row) : Dt:=.tup [webD ps ts,.lst (rows.map rowD)]
theorem jfs {i : Int} (h0 : 0 ≤ i) (h1 : i < 1152921504606846976) : i.natAbs.log2 < 60:=by
 by_cases c : i.natAbs = 0
 ·rw [c]; decide
 ·exact (Nat.log2_lt c).mpr (by omega)
theorem jez : ∀ {ps : List (Int × Int)},(∀ p ∈ ps,0 ≤ p.1∧p.1 < 1152921504606846976∧0 ≤ p.2∧p.2 < 1152921504606846976)→jcu (ps.map jao)∧jd3 (ps.map jao) ≤ 3 * ps.length∧dpDs (ps.map jao) ≤ 1
 | [],_=>⟨by rw [List.map_nil,jcu]; trivial,by rw [List.map_nil,jd3]; omega,by rw [List.map_nil,dpDs]; omega⟩
 | p :: r,h=>by
  obtain ⟨a,b,c⟩:=jez (ps:=r) fun q hq=>h q (.tail _ hq)
  obtain ⟨h1,h2,h3,h4⟩:=h p (.head _)
  refine ⟨?_,?_,?_⟩
  ·rw [List.map_cons,jcu]
   refine ⟨?_,a⟩
   unfold jao
   simp only [shrt,jcu,and_true]
   exact ⟨jfs h1 h2,jfs h3 h4⟩
  ·rw [List.map_cons,jd3,List.length_cons]
   have : cntD (jao p) = 3:=by simp [jao,cntD,jd3]
   omega
  ·rw [List.map_cons,dpDs]
   have : dpD (jao p) = 1:=by simp [jao,dpD,dpDs]
   omega
theorem jk3 : ∀ {ns : List Int},(∀ n ∈ ns,0 ≤ n∧n < 1152921504606846976)→jcu (ns.map Dt.int)∧jd3 (ns.map Dt.int) = ns.length∧dpDs (ns.map Dt.int) = 0
 | [],_=>⟨by rw [List.map_nil,jcu]; trivial,by rw [List.map_nil,jd3]; rfl,by rw [List.map_nil,dpDs]⟩
 | n :: r,h=>by
  obtain ⟨a,b,c⟩:=jk3 (ns:=r) fun q hq=>h q (.tail _ hq)
  obtain ⟨h1,h2⟩:=h n (.head _)
  refine ⟨?_,?_,?_⟩
  ·rw [List.map_cons,jcu]
   exact ⟨by rw [shrt]; exact jfs h1 h2,a⟩
  ·have e : cntD (.int n) = 1:=by simp [cntD]
   rw [List.map_cons,jd3,List.length_cons,b,e]; omega
  ·have e : dpD (.int n) = 0:=by simp [dpD]
   rw [List.map_cons,dpDs,c,e]; rfl
theorem jn8 {r : Row} (h : Wrd r) : (PySem.reprText r.1).length ≤ 60:=by
 rcases h with e | e
 ·rw [e]; decide +kernel
 ·rw [e]; decide +kernel
theorem jjj : ∀ {rows : List Row},(∀ r ∈ rows,Wrd r∧r.2.1.length ≤ 20∧(∀ n ∈ r.2.1,0 ≤ n∧n < 1152921504606846976)∧0 ≤ r.2.2∧r.2.2 < 1152921504606846976)→jcu (rows.map rowD)∧jd3 (rows.map rowD) ≤ 24 * rows.length∧dpDs (rows.map rowD) ≤ 2
 | [],_=>⟨by rw [List.map_nil,jcu]; trivial,by rw [List.map_nil,jd3]; omega,by rw [List.map_nil,dpDs]; omega⟩
 | r :: rs,h=>by
  obtain ⟨a,b,c⟩:=jjj (rows:=rs) fun q hq=>h q (.tail _ hq)
  obtain ⟨h1,h2,h3,h4,h5⟩:=h r (.head _)
  obtain ⟨i1,i2,i3⟩:=jk3 h3
  refine ⟨?_,?_,?_⟩
  ·rw [List.map_cons,jcu]
   refine ⟨?_,a⟩
   unfold rowD
   simp only [shrt,jcu,and_true]
   exact ⟨jn8 h1,i1,jfs h4 h5⟩
  ·rw [List.map_cons,jd3,List.length_cons]
   have : cntD (rowD r) = r.2.1.length + 4:=by simp [rowD,cntD,jd3,i2]; omega
   omega
  ·rw [List.map_cons,dpDs]
   have : dpD (rowD r) ≤ 2:=by simp [rowD,dpD,dpDs,i3]
   omega
theorem jrc : ∀ {ps : List (Int × Int)} {l s : Int},-1 ≤ l→0 ≤ s→PlOk l s ps→∀ p ∈ ps,0 ≤ p.1∧p.1 ≤ 999∧1 ≤ p.2∧p.2 ≤ 1000000000000
 | [],_,_,_,_,_,_,h=>by cases h
 | q :: r,l,s,hl,hs,h,p,hp=>by
  have h1:=h.1
  rcases List.mem_cons.mp hp with e | hp
  ·rw [e]; omega
  ·exact jrc (by omega) (by omega) h.2 p hp
theorem ti_in {kvs : List (Key × V)} : ∀ {ts : List (Int × Int)} {q : Int × Int},TiOk kvs q ts→∀ t ∈ ts,hasK kvs t.1 = true∧hasK kvs t.2 = true
 | [],_,_,_,h=>by cases h
 | p :: r,q,h,t,ht=>by
  rcases List.mem_cons.mp ht with e | ht
  ·rw [e]; exact ⟨h.1.2.2.1,h.1.2.2.2⟩
  ·exact ti_in h.2 t ht
theorem jm3 {ps ts : List (Int × Int)} {n : Int} : ∀ {rows : List Row} {r : Row},(∀ r ∈ rows,rowB ps ts (rowD r) = true)→r ∈ rows→r.2.2 * (r.2.1.count n : Int) ≤ jb3 rows n
 | [],_,_,h=>by cases h
 | q :: rs,r,g,h=>by
  have e : jb3 (q :: rs) n = q.2.2 * (q.2.1.count n : Int) + jb3 rs n:=by simp [jb3]
  rw [e]
  rcases List.mem_cons.mp h with z | h
  ·have h2:=jfo (n:=n) (ps:=ps) (ts:=ts) (rows:=rs) fun q hq=>g q (.tail _ hq)
   rw [z]; omega
  ·have h1:=(ji9 (g q (.head _))).1
   have h2 : 0 ≤ q.2.2 * (q.2.1.count n : Int):=Int.mul_nonneg (by omega) (Int.natCast_nonneg _)
   have h3:=jm3 (rows:=rs) (r:=r) (n:=n) (fun q hq=>g q (.tail _ hq)) h
   omega
theorem jqc {ps ts : List (Int × Int)} {rows : List Row} (wok : WebOk ps ts) (g : GoodRs ps ts rows) (hf : ∀ p ∈ ps,jb3 rows p.1 ≤ 2 * p.2) (hl : rows.length ≤ 12) : shrt (allD ps ts rows)∧cntD (allD ps ts rows) ≤ 100000∧dpD (allD ps ts rows) ≤ 20:=by
 have hps:=jrc (by decide) (by decide) wok.p
 have hpl:=wok.pl
 have htl:=wok.tl
 have nm : ∀ n ∈ ps.map (·.1),0 ≤ n∧n < 1152921504606846976:=fun n hn=>by
  obtain ⟨p,hp,rfl⟩:=List.mem_map.mp hn
  have:=hps p hp
  omega
 obtain ⟨a1,a2,a3⟩:=jez (ps:=ps) fun p hp=>by have:=hps p hp; omega
 obtain ⟨b1,b2,b3⟩:=jez (ps:=ts) fun t ht=>by
  obtain ⟨k1,k2⟩:=ti_in wok.t t ht
  obtain ⟨p1,m1,e1⟩:=jft k1
  obtain ⟨p2,m2,e2⟩:=jft k2
  have h1:=hps p1 m1
  have h2:=hps p2 m2
  omega
 obtain ⟨c1,c2,c3⟩:=jjj (rows:=rows) fun r hr=>by
  obtain ⟨p1,p2,p3⟩:=ji9 (g.ok r hr)
  refine ⟨jjk (g.ok r hr),g.len r hr,fun n hn=>nm n (p2 n hn),by omega,?_⟩
  obtain ⟨n,hn⟩:=List.exists_mem_of_ne_nil r.2.1 (fun z=>by rw [z] at p3; exact absurd p3 (by decide))
  obtain ⟨p,hp,ep⟩:=List.mem_map.mp (p2 n hn)
  have h1:=hf p hp
  have h2:=hps p hp
  have h3:=jm3 (n:=n) g.ok hr
  have h4 : 0 < r.2.1.count n:=List.count_pos_iff.mpr hn
  obtain ⟨k,hk⟩ : ∃ k : Nat,r.2.1.count n = k + 1:=⟨r.2.1.count n - 1,by omega⟩
  rw [hk] at h3
  have h5 : r.2.2 * ((k + 1 : Nat) : Int) = r.2.2 * (k : Int) + r.2.2:=by rw [Int.natCast_add,Int.mul_add]; simp
  have h6 : 0 ≤ r.2.2 * (k : Int):=Int.mul_nonneg (by omega) (Int.natCast_nonneg _)
  rw [ep] at h1
  omega
 refine ⟨?_,?_,?_⟩
 ·simp only [allD,webD,prsD,shrt,jcu,and_true]
  exact ⟨⟨a1,b1⟩,c1⟩
 ·simp only [allD,webD,prsD,cntD,jd3]
  omega
 ·simp only [allD,webD,prsD,dpD,dpDs]
  omega
end
end My
namespace My
open PySem L2
section
variable {P : Program} {w : World} {K : PySem.W.Frag} {mg : Str→Option Value} {base : Heap} {c1 c2 c3 c4 : Tok} {C_NoWeb f_NoWeb : Addr} {dI : FuncData}
theorem jry {xs : List V} {k : Int} (h0 : 0 ≤ k) (h1 : k ≤ xs.length) : cutV xs none (some k) = xs.take k.toNat:=by
 unfold cutV HT.sIx
 simp only [List.drop_zero]
 congr 1
 split <;> omega
theorem jpb {H : Hp} {tp l : Addr} {v : V} {xs : List V} {ps ts : List (Int × Int)} {rows : List Row} (e : H tp = some (.tup [v,.ref l])) (hw : jc2 H v ps ts) (el : H l = some (.lst xs)) (rr : RwsR H xs rows) : Rep H (allD ps ts rows) (.ref tp):=by
 unfold allD
 rw [Rep]
 refine ⟨tp,_,rfl,e,?_⟩
 rw [Reps]
 refine ⟨_,_,rfl,jhw hw,?_⟩
 rw [Reps]
 refine ⟨_,_,rfl,?_,by rw [Reps]⟩
 rw [Rep]
 exact ⟨l,xs,rfl,el,rr.reps⟩
theorem ok_law {tT : Addr} {qual : Str} {f : Addr} {fd : FuncData} {f_law_begun : Addr} {d_law_begun : FuncData} {f_law_web : Addr} {d_law_web : FuncData} {f_law_rows : Addr} {d_law_rows : FuncData} {f_law_take : Addr} {d_law_take : FuncData} {f_law_right : Addr} {d_law_right : FuncData} {f_law_no_web : Addr} {d_law_no_web : FuncData} (B : Blt mg) (D : DefAt K mg "law" (top 51) ["_law_script"] f fd) (D_law_begun : DefAt K mg "_law_begun" (top 36) ["_law_script","_law_k"] f_law_begun d_law_begun) (G_law_begun : FnOk P w K mg base CX0 1 f_law_begun d_law_begun ["_law_script","_law_k"] (jnl K)) (D_law_web : DefAt K mg "_law_web" (top 39) ["_law_state","_law_most"] f_law_web d_law_web) (G_law_web : FnOk P w K mg base CX0 3 f_law_web d_law_web ["_law_state","_law_most"] jqk) (D_law_rows : DefAt K mg "_law_rows" (top 44) ["_law_state","_law_web_here","_law_most"] f_law_rows d_law_rows) (G_law_rows : FnOk P w K mg base CX0 4 f_law_rows d_law_rows ["_law_state","_law_web_here","_law_most"] jlj) (D_law_take : DefAt K mg "_law_take" (top 37) ["_law_state","_law_many"] f_law_take d_law_take) (G_law_take : FnOk P w K mg base CX0 1 f_law_take d_law_take ["_law_state","_law_many"] je9) (D_law_right : DefAt K mg "_law_right" (top 47) ["_law_web_here","_law_rows_here"] f_law_right d_law_right) (G_law_right : FnOk P w K mg base CX0 9 f_law_right d_law_right ["_law_web_here","_law_rows_here"] jnh) (D_law_no_web : DefAt K mg "_law_no_web" (top 50) ["_law_state","_law_web_here","_law_rows_here"] f_law_no_web d_law_no_web) (G_law_no_web : FnOk P w K mg base CX0 11 f_law_no_web d_law_no_web ["_law_state","_law_web_here","_law_rows_here"] (jni tT qual)) (hRp : mg "repr" = none) : FnOk P w K mg base CX0 12 f fd ["_law_script"] (jpi K tT qual):=by
 have sc : FnScope ["_law_script","_law_k","_law_state","_law_web_here","_law_rows_here","_law_kept","_law_cut","_law_some"] ["_law_script"] (ja9 (top 51)):=⟨rfl,rfl,rfl,by decide +kernel,rfl,by decide +kernel,by decide +kernel⟩
 refine D.F.ok sc (fun vs H Q E h=>?_) (fun cdv A outer s H vs Q E hr h=>?_)
 ·obtain ⟨a,ns,rfl,_⟩:=h
  rfl
 obtain ⟨a,ns,rfl,hs,tab,h⟩:=h
 have hu:=jb8 hr
 have hu0 : _ < PySem.cLine:=Nat.lt_of_succ_lt hu
 refine ⟨_,(ja3 (jbi PassesOwn.never rfl (jco rfl B.range (ja0 (jad (q_max rfl) rfl B.max PyProof.Rows.boot_max (ja0 ja4 (ja0 (jad (q_min rfl) rfl B.min PyProof.Rows.boot_min (ja0 (jad jdi rfl B.len PySem.boot_len (ja0 (qv 0) ja2)) (ja0 ja4 ja2))) ja2))) ja2)) (jac (i:=1) sc.nd rfl (Or.inl rfl)) (ja3 (jah (i:=2) sc.nd rfl (Or.inl rfl) (jab G_law_begun (hr.mono (by decide)) rfl D_law_begun.m D_law_begun.F.kp D_law_begun.b .nil jaq (ja0 (qv 0) (ja0 (qv 1) ja2)))) (ja3 (jah (i:=3) sc.nd rfl (Or.inl rfl) (jab G_law_web (hr.mono (by decide)) rfl D_law_web.m D_law_web.F.kp D_law_web.b .nil jaq (ja0 (qv 2) (ja0 ja4 ja2)))) (ja3 (jah (i:=4) sc.nd rfl (Or.inl rfl) (jab G_law_rows (hr.mono (by decide)) rfl D_law_rows.m D_law_rows.F.kp D_law_rows.b .nil jaq (ja0 (qv 2) (ja0 (qv 3) (ja0 ja4 ja2))))) (ja3 (jah (i:=5) sc.nd rfl (Or.inl rfl) (jad (jqs hr) rfl hRp PyProof.Rows.boot_repr (ja0 (jar (ja0 (qv 3) (ja0 (qv 4) ja2))) ja2))) (ja3 (jah (i:=6) sc.nd rfl (Or.inl rfl) (jab G_law_take (hr.mono (by decide)) rfl D_law_take.m D_law_take.F.kp D_law_take.b .nil jaq (ja0 (qv 2) (ja0 (jai jbv (jad jci rfl B.len PySem.boot_len (ja0 (qv 4) ja2)) ja4) ja2)))) (ja3 (jbi PassesOwn.never rfl (jb5 (jas (ja0 (qv 4) (ja0 (pe_rev (qv 4)) (ja0 (jb0 jdt (qv 4) jbh (jbf (qv 6))) (ja0 (jas ja2) ja2)))))) (jac (i:=7) sc.nd rfl (Or.inl rfl)) (ja7 (jay (jbw (jbq (jab G_law_right (hr.mono (by decide)) rfl D_law_right.m D_law_right.F.kp D_law_right.b .nil jaq (ja0 (qv 3) (ja0 (qv 7) ja2))))) (ja7 (jae je1)) jag))) (ja7 (jay (PW.pt (jid (jan q_ne (jad (jqs hr) rfl hRp PyProof.Rows.boot_repr (ja0 (jar (ja0 (qv 3) (ja0 (qv 4) ja2))) ja2)) (qv 5) (jak _)) (jgd (jbw (jbq (jab G_law_no_web (hr.mono (by decide)) rfl D_law_no_web.m D_law_no_web.F.kp D_law_no_web.b .nil jaq (ja0 (qv 2) (ja0 (qv 3) (ja0 (qv 4) ja2))))))))) (ja7 (jae je1)) jag))))))))) (ja7 (jae je1))),?_⟩
 refine jaa fun R hR=>?_
 obtain ⟨N,hN,hN2⟩ : ∃ N : Nat,N = (if (1 : Int) < (if (31 : Int) < (ns.length : Int) then 31 else (ns.length : Int)) then (if (31 : Int) < (ns.length : Int) then 31 else (ns.length : Int)) else 1).toNat∧N < 40:=⟨_,rfl,by split <;> split <;> omega⟩
 refine jav (Itr 0 N) H (fun R' hR'=>?_) (jcc (n:=N) (fun i σ H1=>∃ v1 v2 v3 v4 v5 v6 v7,σ = [some (.ref a),v1,v2,v3,v4,v5,v6,v7]∧Scr K H1 a ns∧TabS qual H1 tT) ⟨none,none,none,none,none,none,none,rfl,hs,tab⟩ ?_ ?_)
 ·unfold jmy
  walk_at "RD"
  refine ⟨a,_,rfl,.inl hs.sq,?_⟩
  simp_arith [List.length_map]
  refine ⟨_,rfl,?_,?_,?_⟩
  ·split <;> split <;> omega
  ·split <;> split <;> omega
  ·rw [← hN]
   exact hR'
 ·rintro i σ H1 hi ⟨v1,v2,v3,v4,v5,v6,v7,rfl,hs1,tab1⟩
  simp only [jf3,List.set_cons_zero,List.set_cons_succ]
  refine jaa fun R9 hR9=>?_
  walk_at "RD"
  refine ⟨a,0 + (i : Int),ns,rfl,hs1,by omega,by omega,fun st o hst so=>?_⟩
  have s2:=ja5 hst o
  have e2 : upd H1 st o st = some o:=ja1
  have hs2:=hs1.tups s2.tups
  have tab2:=tab1.same s2
  generalize upd H1 st o = H2 at s2 e2 hs2 tab2
  walk_at "RD"
  subst hR9
  refine jaa fun R9 hR9=>?_
  walk_at "RD"
  refine ⟨st,o,9,rfl,e2,so,by decide,by decide,fun v H3 o3 ps ts b3 e3 so3 hw wok dr hp12 ht111=>?_⟩
  have hs3:=hs2.tups (b3.tups e2 so.imm)
  have tab3:=tab2.but e2 so b3
  walk_at "RD"
  subst hR9
  refine jaa fun R9 hR9=>?_
  walk_at "RD"
  refine ⟨st,o3,v,12,ps,ts,rfl,e3,so3,hw,wok,by decide,by decide,fun l xs rows H7 o7 b7 e7 so7 hl nls el rr0 good hlen hfit=>?_⟩
  have rr:=rwsA rr0
  clear rr0
  have hw7:=hw.but e3 so3 b7
  have hs7:=hs3.tups (b7.tups e3 so3.imm)
  have tab7:=tab3.but e3 so3 b7
  clear hw hs3 tab3 b7 b3 hs2 tab2 s2 hs1 tab1 e2 e3
  have hlx : xs.length = rows.length:=Paired.length rr
  have hl12 : rows.length ≤ 12:=by omega
  obtain ⟨q1,q2,q3⟩:=jqc wok good hfit hl12
  walk_at "RD"
  subst hR9
  refine jaa fun R9 hR9=>?_
  walk_at "RD"
  intro tp htp
  have s8:=ja5 htp (.tup [v,.ref l])
  have etp : upd H7 tp (.tup [v,.ref l]) tp = some (.tup [v,.ref l]):=ja1
  generalize upd H7 tp (.tup [v,.ref l]) = H8 at s8 etp
  have hw8:=hw7.same s8
  have el8:=s8 _ _ el
  have rr8:=rr.same s8
  have e8:=s8 _ _ e7
  have hs8:=hs7.tups s8.tups
  have tab8:=tab7.same s8
  refine ⟨tp,allD ps ts rows,rfl,jpb etp hw8 el8 rr8,q1,q2,q3,?_⟩
  generalize hsh : (pdOf (allD ps ts rows)).shown = sh
  clear hw7 el rr e7 hs7 tab7 s8 etp htp
  walk_at "RD"
  subst hR9
  refine jaa fun R9 hR9=>?_
  simp_arith [jaj,el8]
  refine ⟨st,o7,(xs.length : Int) + 1,rfl,e8,so7,by omega,by omega,fun c o9 c0 c1 so9=>?_⟩
  have b9 : But st H8 (upd H8 st o9):=But.at st H8 _
  have e9 : upd H8 st o9 st = some o9:=ja1
  have hw9:=hw8.but e8 so7 b9
  have el9:=b9 _ _ nls el8
  have rr9:=rr8.but e8 so7 b9
  have hs9:=hs8.tups (b9.tups e8 so7.imm)
  have tab9:=tab8.but e8 so7 b9
  generalize upd H8 st o9 = H9 at b9 e9 hw9 el9 rr9 hs9 tab9
  clear hw8 el8 rr8 e8 hs8 tab8 b9
  walk_at "RD"
  subst hR9
  refine jaa fun R9 hR9=>?_
  refine jcm (ι:=(Addr × Hp) × Addr × Addr × Addr) (fun j=>Itl K j.1.1) (fun j=>j.1.2) (fun j=>Same H9 j.1.2∧j.1.2 j.1.1 = some (.lst [.ref l,.ref j.2.1,.ref j.2.2.1,.ref j.2.2.2])∧j.1.2 j.2.1 = some (.lst xs.reverse)∧j.1.2 j.2.2.1 = some (.lst (xs.take c.toNat))∧j.1.2 j.2.2.2 = some (.lst [])) (fun R' hR'=>?_) (fun j0 ok0=>?_)
  ·unfold jcr
   simp_arith [fRev,el9]
   intro p1 hp1
   have t1:=ja5 hp1 (.lst xs.reverse)
   have f1 : upd H9 p1 (.lst xs.reverse) p1 = some (.lst xs.reverse):=ja1
   generalize upd H9 p1 (.lst xs.reverse) = Ha at t1 f1
   have ela:=t1 _ _ el9
   simp only [ela]
   intro p2 hp2
   rw [jry c0 (by omega)]
   have t2:=ja5 hp2 (.lst (xs.take c.toNat))
   have f2 : upd Ha p2 (.lst (xs.take c.toNat)) p2 = some (.lst (xs.take c.toNat)):=ja1
   generalize upd Ha p2 (.lst (xs.take c.toNat)) = Hb at t2 f2
   intro p3 hp3
   have t3:=ja5 hp3 (.lst [])
   have f3 : upd Hb p3 (.lst []) p3 = some (.lst []):=ja1
   generalize upd Hb p3 (.lst []) = Hc at t3 f3
   intro L hL
   have t4:=ja5 hL (.lst [.ref l,.ref p1,.ref p2,.ref p3])
   have f4 : upd Hc L (.lst [.ref l,.ref p1,.ref p2,.ref p3]) L = some (.lst [.ref l,.ref p1,.ref p2,.ref p3]):=ja1
   generalize upd Hc L (.lst [.ref l,.ref p1,.ref p2,.ref p3]) = Hd at t4 f4
   exact ⟨L,rfl,⟨_,SqL.of f4⟩,hR' ((L,Hd),p1,p2,p3) ⟨((t1.trans t2).trans t3).trans t4,f4,((t2.trans t3).trans t4) _ _ f1,(t3.trans t4) _ _ f2,t4 _ _ f3⟩⟩
  obtain ⟨⟨L,HA⟩,p1,p2,p3⟩:=j0
  obtain ⟨sA,eL,f1,f2,f3⟩:=ok0
  dsimp only at sA eL f1 f2 f3
  have rrA:=rr9.same sA
  have elA:=sA _ _ el9
  have wrd : ∀ r ∈ rows,Wrd r:=fun r hr=>jjk (good.ok r hr)
  have okA:=jit good (by omega) hfit
  have each : ∀ y ∈ [V.ref l,.ref p1,.ref p2,.ref p3],∃ q ws rs,y = .ref q∧HA q = some (.lst ws)∧RwsR HA ws rs∧(∀ r ∈ rs,Wrd r)∧RowsOk ps ts rs:=fun y hy=>by
   have perm : rows.reverse.Perm rows:=List.reverse_perm rows
   simp only [List.mem_cons,List.not_mem_nil,or_false] at hy
   rcases hy with rfl | rfl | rfl | rfl
   ·exact ⟨l,xs,rows,rfl,elA,rrA,wrd,okA⟩
   ·refine ⟨p1,_,rows.reverse,rfl,f1,jhl rrA,fun r hr=>wrd r (List.mem_reverse.mp hr),jit ⟨fun r hr=>good.ok r (List.mem_reverse.mp hr),fun r hr=>good.nd r (List.mem_reverse.mp hr),fun r hr=>good.len r (List.mem_reverse.mp hr)⟩ (by rw [List.length_reverse]; omega) fun p hp=>?_⟩
    rw [jmj perm]
    exact hfit p hp
   ·refine ⟨p2,_,rows.take c.toNat,rfl,f2,jbc _ rrA,fun r hr=>wrd r (List.mem_of_mem_take hr),jit ⟨fun r hr=>good.ok r (List.mem_of_mem_take hr),fun r hr=>good.nd r (List.mem_of_mem_take hr),fun r hr=>good.len r (List.mem_of_mem_take hr)⟩ (by rw [List.length_take]; omega) fun p hp=>?_⟩
    have:=jpx good.ok c.toNat p.1
    have:=hfit p hp
    omega
   ·refine ⟨p3,[],[],rfl,f3,.nil,(fun r hr=>by cases hr),jit (GoodRs.nil ps ts) (by decide) fun p hp=>?_⟩
    have:=(jrc (by decide) (by decide) wok.p p hp)
    show (0 : Int) ≤ _
    omega
  refine jbe (K:=K) (a:=L) (xs:=[.ref l,.ref p1,.ref p2,.ref p3]) (fun j σ HB=>∃ w7,σ = [some (.ref a),some (.int (0 + (i : Int))),some (.ref st),some v,some (.ref l),some (.str sh),some (.int c),w7]∧Same HA HB) ⟨_,rfl,Same.refl _⟩ (fun j σ HB _ ⟨_,_,sB⟩=>SqL.of (sB _ _ eL)) ?_ ?_
  ·rintro j y σ HB hj ⟨w7,rfl,sB⟩
   obtain ⟨q,ws,rs,rfl,eq,rq,wq,oq⟩:=each y (List.mem_of_getElem? hj)
   walk_at "RD"
   refine ⟨v,q,ws,rs,ps,ts,rfl,(hw9.same sA).same sB,wok,sB _ _ eq,rq.same sB,wq,oq,fun HC sC=>?_⟩
   walk_at "RD"
   exact ⟨_,rfl,sB.trans sC⟩
  ·rintro σ HB ⟨w7,rfl,sB⟩
   have sAB:=sA.trans sB
   walk_at "RD"
   subst hR9
   walk_at "RD"
   intro tq htq
   have s5:=ja5 htq (.tup [v,.ref l])
   have etq : upd HB tq (.tup [v,.ref l]) tq = some (.tup [v,.ref l]):=ja1
   generalize upd HB tq (.tup [v,.ref l]) = HD at s5 etq
   have S5:=sAB.trans s5
   have hwD:=hw9.same S5
   refine ⟨tq,allD ps ts rows,rfl,jpb etq hwD (S5 _ _ el9) (rr9.same S5),q1,q2,q3,?_⟩
   rw [hsh]
   simp_arith [decide_true]
   refine ⟨st,o9,v,.ref l,ps,ts,rfl,S5 _ _ e9,so9,hwD,wok,by omega,by omega,tab9.same S5,fun HE tu tabE=>?_⟩
   walk_at "RD"
   exact ⟨_,_,_,_,_,_,_,rfl,(hs9.tups S5.tups).tups tu,tabE⟩
 ·rintro σ H1 ⟨v1,v2,v3,v4,v5,v6,v7,rfl,hs1,tab1⟩
  walk_at "RD"
  subst hR
  walk_at "RD"
  exact h H1
end
end My
set_option autoImplicit true
namespace My
open PySem L2
noncomputable abbrev aT (K : PySem.W.Frag) (x : Str) (f : Addr) : Prop:=PySem.W.nsIn K mainGlobals x = some (some (.ref f))
noncomputable abbrev lT (K : PySem.W.Frag) (x q : Str) (st : Stmt) (f : Addr) (oc : Value) (od an : Option Addr) (sl : Array (Option Value)) (kV dc pm cd ct : Value) : Prop:=K.lookup f = some ⟨oc,od,.func (PySem.W.fnOf x q (jdh st) (jcd st) (ja9 st) .none kV dc pm an cd ct),sl⟩
noncomputable abbrev cT (K : PySem.W.Frag) (cd : Value) (x : Str) : Prop:=PySem.W.codeIn K cd x = true
noncomputable abbrev kT (K : PySem.W.Frag) (f : Addr) : Prop:=PySem.W.keepIn K (.ref f) = true
noncomputable abbrev zT (K : PySem.W.Frag) (x : Str) : Prop:=PySem.W.nsIn K mainGlobals x = some none
theorem dmk {K : PySem.W.Frag} {h : Heap} {mg : Str→Option Value} (X : K.In h) (G : h.Ns mainGlobals mg) {x : Str} {st : Stmt} {f : Addr} {oc : Value} {od an : Option Addr} {sl : Array (Option Value)} {kV dc pm cd ct : Value} (a : aT K x f) (l : lT K x x st f oc od an sl kV dc pm cd ct) (c : cT K cd x) (k : kT K f) (ps : List Str)
  (b : je3 K (PySem.W.fnOf x x (jdh st) (jcd st) (ja9 st) .none kV dc pm an cd ct) ps []) : DefAt K mg x st ps f (PySem.W.fnOf x x (jdh st) (jcd st) (ja9 st) .none kV dc pm an cd ct):=⟨jap l c k,b,PySem.W.mg_of X G a⟩
theorem all_mk {l : PySem.W.OpenLaw} {w : World} {K : PySem.W.Frag} {h : Heap} {mg : Str→Option Value} {fa : Addr} (X : K.In h) (G : h.Ns mainGlobals mg) (hfa : mg "law" = some (.ref fa)) (a0 : aT K "is_whole" f0) (l0 : lT K "is_whole" "is_whole" (top 6) f0 oc0 od0 an0 sq0 kV0 dc0 pm0 cd0 ct0) (g0 : cT K cd0 "is_whole") (k0 : kT K f0) (a1 : aT K "is_tuple_of" f1) (l1 : lT K "is_tuple_of" "is_tuple_of" (top 7) f1 oc1 od1 an1 sq1 kV1 dc1 pm1 cd1 ct1) (g1 : cT K cd1 "is_tuple_of") (k1 : kT K f1) (a2 : aT K "is_pair_of_wholes" f2) (l2 : lT K "is_pair_of_wholes" "is_pair_of_wholes" (top 8) f2 oc2 od2 an2 sq2 kV2 dc2 pm2 cd2 ct2) (g2 : cT K cd2 "is_pair_of_wholes") (k2 : kT K f2) (a3 : aT K "is_list_up_to" f3) (l3 : lT K "is_list_up_to" "is_list_up_to" (top 9) f3 oc3 od3 an3 sq3 kV3 dc3 pm3 cd3 ct3) (g3 : cT K cd3 "is_list_up_to") (k3 : kT K f3) (a4 : aT K "place_stands" f4) (l4 : lT K "place_stands" "place_stands" (top 15) f4 oc4 od4 an4 sq4 kV4 dc4 pm4 cd4 ct4) (g4 : cT K cd4 "place_stands") (k4 : kT K f4) (a5 : aT K "tie_stands" f5) (l5 : lT K "tie_stands" "tie_stands" (top 16) f5 oc5 od5 an5 sq5 kV5 dc5 pm5 cd5 ct5) (g5 : cT K cd5 "tie_stands") (k5 : kT K f5) (a6 : aT K "look_at_places" f6) (l6 : lT K "look_at_places" "look_at_places" (top 17) f6 oc6 od6 an6 sq6 kV6 dc6 pm6 cd6 ct6) (g6 : cT K cd6 "look_at_places") (k6 : kT K f6) (a7 : aT K "look_at_ties" f7) (l7 : lT K "look_at_ties" "look_at_ties" (top 18) f7 oc7 od7 an7 sq7 kV7 dc7 pm7 cd7 ct7) (g7 : cT K cd7 "look_at_ties") (k7 : kT K f7) (a8 : aT K "look_at_web" f8) (l8 : lT K "look_at_web" "look_at_web" (top 19) f8 oc8 od8 an8 sq8 kV8 dc8 pm8 cd8 ct8) (g8 : cT K cd8 "look_at_web") (k8 : kT K f8) (a9 : aT K "nears_in" f9) (l9 : lT K "nears_in" "nears_in" (top 22) f9 oc9 od9 an9 sq9 kV9 dc9 pm9 cd9 ct9) (g9 : cT K cd9 "nears_in") (k9 : kT K f9) (a10 : aT K "is_place" f10) (l10 : lT K "is_place" "is_place" (top 20) f10 oc10 od10 an10 sq10 kV10 dc10 pm10 cd10 ct10) (g10 : cT K cd10 "is_place") (k10 : kT K f10) (a11 : aT K "are_places" f11) (l11 : lT K "are_places" "are_places" (top 21) f11 oc11 od11 an11 sq11 kV11 dc11 pm11 cd11 ct11) (g11 : cT K cd11 "are_places") (k11 : kT K f11) (a12 : aT K "is_all" f12) (l12 : lT K "is_all" "is_all" (top 25) f12 oc12 od12 an12 sq12 kV12 dc12 pm12 cd12 ct12) (g12 : cT K cd12 "is_all") (k12 : kT K f12) (a13 : aT K "is_ring" f13) (l13 : lT K "is_ring" "is_ring" (top 26) f13 oc13 od13 an13 sq13 kV13 dc13 pm13 cd13 ct13) (g13 : cT K cd13 "is_ring") (k13 : kT K f13) (a14 : aT K "is_row" f14) (l14 : lT K "is_row" "is_row" (top 27) f14 oc14 od14 an14 sq14 kV14 dc14 pm14 cd14 ct14) (g14 : cT K cd14 "is_row") (k14 : kT K f14) (a15 : aT K "paid_by" f15) (l15 : lT K "paid_by" "paid_by" (top 28) f15 oc15 od15 an15 sq15 kV15 dc15 pm15 cd15 ct15) (g15 : cT K cd15 "paid_by") (k15 : kT K f15) (a16 : aT K "look_at_rows" f16) (l16 : lT K "look_at_rows" "look_at_rows" (top 29) f16 oc16 od16 an16 sq16 kV16 dc16 pm16 cd16 ct16) (g16 : cT K cd16 "look_at_rows") (k16 : kT K f16) (a17 : aT K "given_for_one" f17) (l17 : lT K "given_for_one" "given_for_one" (top 30) f17 oc17 od17 an17 sq17 kV17 dc17 pm17 cd17 ct17) (g17 : cT K cd17 "given_for_one") (k17 : kT K f17) (a18 : aT K "given_by" f18) (l18 : lT K "given_by" "given_by" (top 31) f18 oc18 od18 an18 sq18 kV18 dc18 pm18 cd18 ct18) (g18 : cT K cd18 "given_by") (k18 : kT K f18) (a19 : aT K "half_up" f19) (l19 : lT K "half_up" "half_up" (top 32) f19 oc19 od19 an19 sq19 kV19 dc19 pm19 cd19 ct19) (g19 : cT K cd19 "half_up") (k19 : kT K f19) (a20 : aT K "worth_of" f20) (l20 : lT K "worth_of" "worth_of" (top 33) f20 oc20 od20 an20 sq20 kV20 dc20 pm20 cd20 ct20) (g20 : cT K cd20 "worth_of") (k20 : kT K f20) (a21 : aT K "bound_of" f21) (l21 : lT K "bound_of" "bound_of" (top 34) f21 oc21 od21 an21 sq21 kV21 dc21 pm21 cd21 ct21) (g21 : cT K cd21 "bound_of") (k21 : kT K f21) (a22 : aT K "_law_begun" f22) (l22 : lT K "_law_begun" "_law_begun" (top 36) f22 oc22 od22 an22 sq22 kV22 dc22 pm22 cd22 ct22) (g22 : cT K cd22 "_law_begun") (k22 : kT K f22) (a23 : aT K "_law_take" f23) (l23 : lT K "_law_take" "_law_take" (top 37) f23 oc23 od23 an23 sq23 kV23 dc23 pm23 cd23 ct23) (g23 : cT K cd23 "_law_take") (k23 : kT K f23) (a24 : aT K "_law_places" f24) (l24 : lT K "_law_places" "_law_places" (top 38) f24 oc24 od24 an24 sq24 kV24 dc24 pm24 cd24 ct24) (g24 : cT K cd24 "_law_places") (k24 : kT K f24) (a25 : aT K "_law_web" f25) (l25 : lT K "_law_web" "_law_web" (top 39) f25 oc25 od25 an25 sq25 kV25 dc25 pm25 cd25 ct25) (g25 : cT K cd25 "_law_web") (k25 : kT K f25) (a26 : aT K "_law_near" f26) (l26 : lT K "_law_near" "_law_near" (top 40) f26 oc26 od26 an26 sq26 kV26 dc26 pm26 cd26 ct26) (g26 : cT K cd26 "_law_near") (k26 : kT K f26) (a27 : aT K "_law_all" f27) (l27 : lT K "_law_all" "_law_all" (top 41) f27 oc27 od27 an27 sq27 kV27 dc27 pm27 cd27 ct27) (g27 : cT K cd27 "_law_all") (k27 : kT K f27) (a28 : aT K "_law_ring" f28) (l28 : lT K "_law_ring" "_law_ring" (top 42) f28 oc28 od28 an28 sq28 kV28 dc28 pm28 cd28 ct28) (g28 : cT K cd28 "_law_ring") (k28 : kT K f28) (a29 : aT K "_law_row" f29) (l29 : lT K "_law_row" "_law_row" (top 43) f29 oc29 od29 an29 sq29 kV29 dc29 pm29 cd29 ct29) (g29 : cT K cd29 "_law_row") (k29 : kT K f29) (a30 : aT K "_law_rows" f30) (l30 : lT K "_law_rows" "_law_rows" (top 44) f30 oc30 od30 an30 sq30 kV30 dc30 pm30 cd30 ct30) (g30 : cT K cd30 "_law_rows") (k30 : kT K f30) (a31 : aT K "_law_whole" f31) (l31 : lT K "_law_whole" "_law_whole" (top 45) f31 oc31 od31 an31 sq31 kV31 dc31 pm31 cd31 ct31) (g31 : cT K cd31 "_law_whole") (k31 : kT K f31) (a32 : aT K "_law_worth" f32) (l32 : lT K "_law_worth" "_law_worth" (top 46) f32 oc32 od32 an32 sq32 kV32 dc32 pm32 cd32 ct32) (g32 : cT K cd32 "_law_worth") (k32 : kT K f32) (a33 : aT K "_law_right" f33) (l33 : lT K "_law_right" "_law_right" (top 47) f33 oc33 od33 an33 sq33 kV33 dc33 pm33 cd33 ct33) (g33 : cT K cd33 "_law_right") (k33 : kT K f33) (a34 : aT K "_law_bad_web" f34) (l34 : lT K "_law_bad_web" "_law_bad_web" (top 48) f34 oc34 od34 an34 sq34 kV34 dc34 pm34 cd34 ct34) (g34 : cT K cd34 "_law_bad_web") (k34 : kT K f34) (a35 : aT K "_law_web_told" f35) (l35 : lT K "_law_web_told" "_law_web_told" (top 49) f35 oc35 od35 an35 sq35 kV35 dc35 pm35 cd35 ct35) (g35 : cT K cd35 "_law_web_told") (k35 : kT K f35) (a36 : aT K "_law_no_web" f36) (l36 : lT K "_law_no_web" "_law_no_web" (top 50) f36 oc36 od36 an36 sq36 kV36 dc36 pm36 cd36 ct36) (g36 : cT K cd36 "_law_no_web") (k36 : kT K f36) (a37 : aT K "law" f37) (l37 : lT K "law" "law" (top 51) f37 oc37 od37 an37 sq37 kV37 dc37 pm37 cd37 ct37) (g37 : cT K cd37 "law") (k37 : kT K f37) (z_len : zT K "len") (z_isinstance : zT K "isinstance") (z_all : zT K "all") (z_min : zT K "min") (z_list : zT K "list") (z_dict : zT K "dict") (z_int : zT K "int") (z_bool : zT K "bool") (z_str : zT K "str") (z_tuple : zT K "tuple") (z_range : zT K "range") (z_enumerate : zT K "enumerate") (z_zip : zT K "zip") (z_max : zT K "max") (z_any : zT K "any") (z_sum : zT K "sum") (z_sorted : zT K "sorted") (z_set : zT K "set") (n_MOST_PLACES : PySem.W.nsIn K mainGlobals "MOST_PLACES" = some (some (.int 40 c1))) (n_MOST_TIES : PySem.W.nsIn K mainGlobals "MOST_TIES" = some (some (.int 120 c2))) (n_LAST_PLACE : PySem.W.nsIn K mainGlobals "LAST_PLACE" = some (some (.int 999 c3))) (n_MOST_PRICE : PySem.W.nsIn K mainGlobals "MOST_PRICE" = some (some (.int 1000000000000 c4))) (a_NoWeb : aT K "NoWeb" C_NoWeb) (l_NoWeb : K.lookup C_NoWeb = some ⟨oc_NoWeb,od_NoWeb,.cls cd_NoWeb,sl_NoWeb⟩) (i_NoWeb : PySem.W.nsIn K cd_NoWeb.ns "__init__" = some (some (.ref fI_NoWeb))) (li_NoWeb : lT K "__init__" "NoWeb.__init__" (meth 2 0) fI_NoWeb oci_NoWeb odi_NoWeb ani_NoWeb sli_NoWeb kVi_NoWeb dci_NoWeb pmi_NoWeb cdi_NoWeb cti_NoWeb) (ci_NoWeb : PySem.W.codeIn K cdi_NoWeb "NoWeb.__init__" = true) (ki_NoWeb : PySem.W.keepIn K (.ref fI_NoWeb) = true) (x_NoWeb : jhv K C_NoWeb bmV "ValueError.__new__" fI_NoWeb = true) (kp_NoWeb : PySem.W.keepIn K (.ref C_NoWeb) = true) (fn_NoWeb : PySem.W.typeIn K (.ref fI_NoWeb) = some (.type "function")) (ch_NoWeb : (jc6 bmV cd_NoWeb.mro && cd_NoWeb.hasDict && !cd_NoWeb.mro.isEmpty) = true) (sa_NoWeb : PySem.W.findIn K (.ref C_NoWeb) "__setattr__" = some (some (.builtin "object.__setattr__"))) (ga_NoWeb : PySem.W.findIn K (.ref C_NoWeb) "__getattribute__" = some (some (.builtin "BaseException.__getattribute__"))) (gt_NoWeb : PySem.W.findIn K (.ref C_NoWeb) "__getattr__" = some none) (sb_NoWeb : PySem.W.mroIn K C_NoWeb (.type "BaseException") = some true) (f_NoWeb_part : PySem.W.findIn K (.ref C_NoWeb) "part" = some none) (f_NoWeb_number : PySem.W.findIn K (.ref C_NoWeb) "number" = some none) (hd_NoWeb : PySem.W.hasDictIn K C_NoWeb = true) (ha_NoWeb : PySem.W.findIn K (.ref C_NoWeb) "__class__" = some (some (.builtin "object.__class__"))) (hm_NoWeb : PySem.W.mroIn K C_NoWeb (.type "object") = some true) (a_NoRows : aT K "NoRows" C_NoRows) (l_NoRows : K.lookup C_NoRows = some ⟨oc_NoRows,od_NoRows,.cls cd_NoRows,sl_NoRows⟩) (i_NoRows : PySem.W.nsIn K cd_NoRows.ns "__init__" = some (some (.ref fI_NoRows))) (li_NoRows : lT K "__init__" "NoRows.__init__" (meth 3 0) fI_NoRows oci_NoRows odi_NoRows ani_NoRows sli_NoRows kVi_NoRows dci_NoRows pmi_NoRows cdi_NoRows cti_NoRows) (ci_NoRows : PySem.W.codeIn K cdi_NoRows "NoRows.__init__" = true) (ki_NoRows : PySem.W.keepIn K (.ref fI_NoRows) = true) (x_NoRows : jhv K C_NoRows bmV "ValueError.__new__" fI_NoRows = true) (kp_NoRows : PySem.W.keepIn K (.ref C_NoRows) = true) (fn_NoRows : PySem.W.typeIn K (.ref fI_NoRows) = some (.type "function")) (ch_NoRows : (jc6 bmV cd_NoRows.mro && cd_NoRows.hasDict && !cd_NoRows.mro.isEmpty) = true) (sa_NoRows : PySem.W.findIn K (.ref C_NoRows) "__setattr__" = some (some (.builtin "object.__setattr__"))) (ga_NoRows : PySem.W.findIn K (.ref C_NoRows) "__getattribute__" = some (some (.builtin "BaseException.__getattribute__"))) (gt_NoRows : PySem.W.findIn K (.ref C_NoRows) "__getattr__" = some none) (sb_NoRows : PySem.W.mroIn K C_NoRows (.type "BaseException") = some true) (f_NoRows_number : PySem.W.findIn K (.ref C_NoRows) "number" = some none) (hd_NoRows : PySem.W.hasDictIn K C_NoRows = true) (ha_NoRows : PySem.W.findIn K (.ref C_NoRows) "__class__" = some (some (.builtin "object.__class__"))) (hm_NoRows : PySem.W.mroIn K C_NoRows (.type "object") = some true) (a_Overpaid : aT K "Overpaid" C_Overpaid) (l_Overpaid : K.lookup C_Overpaid = some ⟨oc_Overpaid,od_Overpaid,.cls cd_Overpaid,sl_Overpaid⟩) (i_Overpaid : PySem.W.nsIn K cd_Overpaid.ns "__init__" = some (some (.ref fI_Overpaid))) (li_Overpaid : lT K "__init__" "Overpaid.__init__" (meth 4 0) fI_Overpaid oci_Overpaid odi_Overpaid ani_Overpaid sli_Overpaid kVi_Overpaid dci_Overpaid pmi_Overpaid cdi_Overpaid cti_Overpaid) (ci_Overpaid : PySem.W.codeIn K cdi_Overpaid "Overpaid.__init__" = true) (ki_Overpaid : PySem.W.keepIn K (.ref fI_Overpaid) = true) (x_Overpaid : jhv K C_Overpaid bmV "ValueError.__new__" fI_Overpaid = true) (kp_Overpaid : PySem.W.keepIn K (.ref C_Overpaid) = true) (fn_Overpaid : PySem.W.typeIn K (.ref fI_Overpaid) = some (.type "function")) (ch_Overpaid : (jc6 bmV cd_Overpaid.mro && cd_Overpaid.hasDict && !cd_Overpaid.mro.isEmpty) = true) (sa_Overpaid : PySem.W.findIn K (.ref C_Overpaid) "__setattr__" = some (some (.builtin "object.__setattr__"))) (ga_Overpaid : PySem.W.findIn K (.ref C_Overpaid) "__getattribute__" = some (some (.builtin "BaseException.__getattribute__"))) (gt_Overpaid : PySem.W.findIn K (.ref C_Overpaid) "__getattr__" = some none) (sb_Overpaid : PySem.W.mroIn K C_Overpaid (.type "BaseException") = some true) (f_Overpaid_place : PySem.W.findIn K (.ref C_Overpaid) "place" = some none) (hd_Overpaid : PySem.W.hasDictIn K C_Overpaid = true) (ha_Overpaid : PySem.W.findIn K (.ref C_Overpaid) "__class__" = some (some (.builtin "object.__class__"))) (hm_Overpaid : PySem.W.mroIn K C_Overpaid (.type "object") = some true) (hn_cls : PySem.W.specialIn K (.builtin "object.__class__") "__get__" = some (some (.builtin "getset_descriptor.__get__"))) (ht_cls : PySem.W.takesIn K (.builtin "object.__class__") = some true) (a_T : PySem.W.nsIn K mainGlobals "TouchError" = some (some (.ref T))) (rd_T : PySem.W.readsIn K T (.type "type") = true) (sp_T : PySem.W.specialIn K (.ref T) "__getattribute__" = some (some (.builtin "type.__getattribute__"))) (at_T : PySem.W.findCls K (.ref T) (.type "type") "__init__" = some (.val (.builtin iid))) (iid_T : iid = "ValueError.__init__") (hd_T : PySem.W.handedIn (.builtin "ValueError.__init__") = true) (q_T : PySem.W.excIn K T bmV "ValueError.__new__" = true) (n_MR : PySem.W.nsIn K mainGlobals "MOST_ROWS" = some (some (.int 200 c5))) (z_repr : zT K "repr") (hcd : cd36 = .ref tc) (lcd : K.lookup tc = some ⟨kcls,kdct,.fields kvs,ksl⟩) (v11 : (kvs[11]? : Option Value) = some (.ref tT))
  : ∃ (fd : FuncData) (c T : Addr),PySem.W.tabIn K "_law_no_web" = some (c,T)∧(∀ (s : Shared) (v : Value),BindsTo s fd ⟨[v],[]⟩ [("_law_script",v)])∧∀ base : Heap,K.In base→base.Ns mainGlobals mg→PySem.W.CodeHd base c T→BltAt mg base→FnOk l.prog w K mg base CX0 12 fa fd ["_law_script"] (jpi K T (("_law_no_web" : Str) ++ ".<locals>." ++ Str.ofString "<lambda>")):=by
 have e:=hfa.symm.trans (PySem.W.mg_of X G a37)
 cases e
 have B : Blt mg:=⟨PySem.W.mg_none_of X G z_len,PySem.W.mg_none_of X G z_isinstance,PySem.W.mg_none_of X G z_all,PySem.W.mg_none_of X G z_min,PySem.W.mg_none_of X G z_list,PySem.W.mg_none_of X G z_dict,PySem.W.mg_none_of X G z_int,PySem.W.mg_none_of X G z_bool,PySem.W.mg_none_of X G z_str,PySem.W.mg_none_of X G z_tuple,PySem.W.mg_none_of X G z_range,PySem.W.mg_none_of X G z_enumerate,PySem.W.mg_none_of X G z_zip,PySem.W.mg_none_of X G z_max,PySem.W.mg_none_of X G z_any,PySem.W.mg_none_of X G z_sum,PySem.W.mg_none_of X G z_sorted,PySem.W.mg_none_of X G z_set⟩
 have C : Cst mg c1 c2 c3 c4:=⟨PySem.W.mg_of X G n_MOST_PLACES,PySem.W.mg_of X G n_MOST_TIES,PySem.W.mg_of X G n_LAST_PLACE,PySem.W.mg_of X G n_MOST_PRICE⟩
 have D_is_whole:=dmk X G a0 l0 g0 k0 ["thing"] ((jap l0 g0 k0).binds fun _ _ _ _ _ _ us hl=>match us,hl with | [_],_=>rfl)
 have D_is_tuple_of:=dmk X G a1 l1 g1 k1 ["thing","many"] ((jap l1 g1 k1).binds fun _ _ _ _ _ _ us hl=>match us,hl with | [_,_],_=>rfl)
 have D_is_pair_of_wholes:=dmk X G a2 l2 g2 k2 ["thing"] ((jap l2 g2 k2).binds fun _ _ _ _ _ _ us hl=>match us,hl with | [_],_=>rfl)
 have D_is_list_up_to:=dmk X G a3 l3 g3 k3 ["thing","most"] ((jap l3 g3 k3).binds fun _ _ _ _ _ _ us hl=>match us,hl with | [_,_],_=>rfl)
 have D_place_stands:=dmk X G a4 l4 g4 k4 ["thing","last","spent"] ((jap l4 g4 k4).binds fun _ _ _ _ _ _ us hl=>match us,hl with | [_,_,_],_=>rfl)
 have D_tie_stands:=dmk X G a5 l5 g5 k5 ["thing","last","prices"] ((jap l5 g5 k5).binds fun _ _ _ _ _ _ us hl=>match us,hl with | [_,_,_],_=>rfl)
 have D_look_at_places:=dmk X G a6 l6 g6 k6 ["places"] ((jap l6 g6 k6).binds fun _ _ _ _ _ _ us hl=>match us,hl with | [_],_=>rfl)
 have D_look_at_ties:=dmk X G a7 l7 g7 k7 ["ties","prices"] ((jap l7 g7 k7).binds fun _ _ _ _ _ _ us hl=>match us,hl with | [_,_],_=>rfl)
 have D_look_at_web:=dmk X G a8 l8 g8 k8 ["thing"] ((jap l8 g8 k8).binds fun _ _ _ _ _ _ us hl=>match us,hl with | [_],_=>rfl)
 have D_nears_in:=dmk X G a9 l9 g9 k9 ["web"] ((jap l9 g9 k9).binds fun _ _ _ _ _ _ us hl=>match us,hl with | [_],_=>rfl)
 have D_is_place:=dmk X G a10 l10 g10 k10 ["prices","thing"] ((jap l10 g10 k10).binds fun _ _ _ _ _ _ us hl=>match us,hl with | [_,_],_=>rfl)
 have D_are_places:=dmk X G a11 l11 g11 k11 ["prices","things"] ((jap l11 g11 k11).binds fun _ _ _ _ _ _ us hl=>match us,hl with | [_,_],_=>rfl)
 have D_is_all:=dmk X G a12 l12 g12 k12 ["nears","places"] ((jap l12 g12 k12).binds fun _ _ _ _ _ _ us hl=>match us,hl with | [_,_],_=>rfl)
 have D_is_ring:=dmk X G a13 l13 g13 k13 ["nears","places"] ((jap l13 g13 k13).binds fun _ _ _ _ _ _ us hl=>match us,hl with | [_,_],_=>rfl)
 have D_is_row:=dmk X G a14 l14 g14 k14 ["nears","thing"] ((jap l14 g14 k14).binds fun _ _ _ _ _ _ us hl=>match us,hl with | [_,_],_=>rfl)
 have D_paid_by:=dmk X G a15 l15 g15 k15 ["rows"] ((jap l15 g15 k15).binds fun _ _ _ _ _ _ us hl=>match us,hl with | [_],_=>rfl)
 have D_look_at_rows:=dmk X G a16 l16 g16 k16 ["web","thing"] ((jap l16 g16 k16).binds fun _ _ _ _ _ _ us hl=>match us,hl with | [_,_],_=>rfl)
 have D_given_for_one:=dmk X G a17 l17 g17 k17 ["row"] ((jap l17 g17 k17).binds fun _ _ _ _ _ _ us hl=>match us,hl with | [_],_=>rfl)
 have D_given_by:=dmk X G a18 l18 g18 k18 ["rows"] ((jap l18 g18 k18).binds fun _ _ _ _ _ _ us hl=>match us,hl with | [_],_=>rfl)
 have D_half_up:=dmk X G a19 l19 g19 k19 ["worth"] ((jap l19 g19 k19).binds fun _ _ _ _ _ _ us hl=>match us,hl with | [_],_=>rfl)
 have D_worth_of:=dmk X G a20 l20 g20 k20 ["web","rows"] ((jap l20 g20 k20).binds fun _ _ _ _ _ _ us hl=>match us,hl with | [_,_],_=>rfl)
 have D_bound_of:=dmk X G a21 l21 g21 k21 ["web","rows"] ((jap l21 g21 k21).binds fun _ _ _ _ _ _ us hl=>match us,hl with | [_,_],_=>rfl)
 have D_law_begun:=dmk X G a22 l22 g22 k22 ["_law_script","_law_k"] ((jap l22 g22 k22).binds fun _ _ _ _ _ _ us hl=>match us,hl with | [_,_],_=>rfl)
 have D_law_take:=dmk X G a23 l23 g23 k23 ["_law_state","_law_many"] ((jap l23 g23 k23).binds fun _ _ _ _ _ _ us hl=>match us,hl with | [_,_],_=>rfl)
 have D_law_places:=dmk X G a24 l24 g24 k24 ["_law_state","_law_count"] ((jap l24 g24 k24).binds fun _ _ _ _ _ _ us hl=>match us,hl with | [_,_],_=>rfl)
 have D_law_web:=dmk X G a25 l25 g25 k25 ["_law_state","_law_most"] ((jap l25 g25 k25).binds fun _ _ _ _ _ _ us hl=>match us,hl with | [_,_],_=>rfl)
 have D_law_near:=dmk X G a26 l26 g26 k26 ["_law_web_here"] ((jap l26 g26 k26).binds fun _ _ _ _ _ _ us hl=>match us,hl with | [_],_=>rfl)
 have D_law_all:=dmk X G a27 l27 g27 k27 ["_law_state","_law_book","_law_places_here"] ((jap l27 g27 k27).binds fun _ _ _ _ _ _ us hl=>match us,hl with | [_,_,_],_=>rfl)
 have D_law_ring:=dmk X G a28 l28 g28 k28 ["_law_state","_law_book","_law_places_here"] ((jap l28 g28 k28).binds fun _ _ _ _ _ _ us hl=>match us,hl with | [_,_,_],_=>rfl)
 have D_law_row:=dmk X G a29 l29 g29 k29 ["_law_state","_law_web_here","_law_book","_law_paid"] ((jap l29 g29 k29).binds fun _ _ _ _ _ _ us hl=>match us,hl with | [_,_,_,_],_=>rfl)
 have D_law_rows:=dmk X G a30 l30 g30 k30 ["_law_state","_law_web_here","_law_most"] ((jap l30 g30 k30).binds fun _ _ _ _ _ _ us hl=>match us,hl with | [_,_,_],_=>rfl)
 have D_law_whole:=dmk X G a31 l31 g31 k31 ["_law_thing"] ((jap l31 g31 k31).binds fun _ _ _ _ _ _ us hl=>match us,hl with | [_],_=>rfl)
 have D_law_worth:=dmk X G a32 l32 g32 k32 ["_law_rows_here"] ((jap l32 g32 k32).binds fun _ _ _ _ _ _ us hl=>match us,hl with | [_],_=>rfl)
 have D_law_right:=dmk X G a33 l33 g33 k33 ["_law_web_here","_law_rows_here"] ((jap l33 g33 k33).binds fun _ _ _ _ _ _ us hl=>match us,hl with | [_,_],_=>rfl)
 have D_law_bad_web:=dmk X G a34 l34 g34 k34 ["_law_state","_law_web_here"] ((jap l34 g34 k34).binds fun _ _ _ _ _ _ us hl=>match us,hl with | [_,_],_=>rfl)
 have D_law_web_told:=dmk X G a35 l35 g35 k35 ["_law_call"] ((jap l35 g35 k35).binds fun _ _ _ _ _ _ us hl=>match us,hl with | [_],_=>rfl)
 have D_law_no_web:=dmk X G a36 l36 g36 k36 ["_law_state","_law_web_here","_law_rows_here"] ((jap l36 g36 k36).binds fun _ _ _ _ _ _ us hl=>match us,hl with | [_,_,_],_=>rfl)
 have D_law:=dmk X G a37 l37 g37 k37 ["_law_script"] ((jap l37 g37 k37).binds fun _ _ _ _ _ _ us hl=>match us,hl with | [_],_=>rfl)
 have tab : PySem.W.tabIn K "_law_no_web" = some (tc,tT):=by
  unfold PySem.W.tabIn
  rw [show PySem.W.nsIn K mainGlobals "_law_no_web" = _ from a36]
  dsimp only
  rw [show K.lookup f36 = _ from l36]
  dsimp only
  rw [hcd]
  dsimp only
  rw [lcd]
  dsimp only
  rw [v11]
 refine ⟨PySem.W.fnOf "law" "law" (jdh (top 51)) (jcd (top 51)) (ja9 (top 51)) .none kV37 dc37 pm37 an37 cd37 ct37,tc,tT,tab,fun s v=>.of_eq rfl,fun base _ _ hC hBl=>?_⟩
 have X_NoWeb : ClsX K mg "NoWeb" C_NoWeb fI_NoWeb:=⟨PySem.W.mg_of X G a_NoWeb,kp_NoWeb,x_NoWeb,fn_NoWeb,⟨⟨cd_NoWeb,by unfold PySem.W.clsIn; rw [l_NoWeb],by
  simp only [Bool.and_eq_true,Bool.not_eq_true'] at ch_NoWeb
  exact ⟨ch_NoWeb.1.1,ch_NoWeb.1.2,ch_NoWeb.2⟩⟩,sa_NoWeb⟩,⟨⟨ga_NoWeb,gt_NoWeb,sb_NoWeb⟩,hd_NoWeb,ha_NoWeb,hn_cls,ht_cls,hm_NoWeb⟩⟩
 have FI_NoWeb:=jap (x:="__init__") (qual:="NoWeb.__init__") (st:=meth 2 0) li_NoWeb ci_NoWeb ki_NoWeb
 have bI_NoWeb:=FI_NoWeb.binds (ps:=["self","part","number"]) fun _ _ _ _ _ _ us hl=>match us,hl with | [_,_,_],_=>rfl
 have DI_NoWeb : InitAt K "NoWeb.__init__" (meth 2 0) ["self","part","number"] _ _:=⟨FI_NoWeb,bI_NoWeb⟩
 have X_NoRows : ClsX K mg "NoRows" C_NoRows fI_NoRows:=⟨PySem.W.mg_of X G a_NoRows,kp_NoRows,x_NoRows,fn_NoRows,⟨⟨cd_NoRows,by unfold PySem.W.clsIn; rw [l_NoRows],by
  simp only [Bool.and_eq_true,Bool.not_eq_true'] at ch_NoRows
  exact ⟨ch_NoRows.1.1,ch_NoRows.1.2,ch_NoRows.2⟩⟩,sa_NoRows⟩,⟨⟨ga_NoRows,gt_NoRows,sb_NoRows⟩,hd_NoRows,ha_NoRows,hn_cls,ht_cls,hm_NoRows⟩⟩
 have FI_NoRows:=jap (x:="__init__") (qual:="NoRows.__init__") (st:=meth 3 0) li_NoRows ci_NoRows ki_NoRows
 have bI_NoRows:=FI_NoRows.binds (ps:=["self","number"]) fun _ _ _ _ _ _ us hl=>match us,hl with | [_,_],_=>rfl
 have DI_NoRows : InitAt K "NoRows.__init__" (meth 3 0) ["self","number"] _ _:=⟨FI_NoRows,bI_NoRows⟩
 have X_Overpaid : ClsX K mg "Overpaid" C_Overpaid fI_Overpaid:=⟨PySem.W.mg_of X G a_Overpaid,kp_Overpaid,x_Overpaid,fn_Overpaid,⟨⟨cd_Overpaid,by unfold PySem.W.clsIn; rw [l_Overpaid],by
  simp only [Bool.and_eq_true,Bool.not_eq_true'] at ch_Overpaid
  exact ⟨ch_Overpaid.1.1,ch_Overpaid.1.2,ch_Overpaid.2⟩⟩,sa_Overpaid⟩,⟨⟨ga_Overpaid,gt_Overpaid,sb_Overpaid⟩,hd_Overpaid,ha_Overpaid,hn_cls,ht_cls,hm_Overpaid⟩⟩
 have FI_Overpaid:=jap (x:="__init__") (qual:="Overpaid.__init__") (st:=meth 4 0) li_Overpaid ci_Overpaid ki_Overpaid
 have bI_Overpaid:=FI_Overpaid.binds (ps:=["self","place"]) fun _ _ _ _ _ _ us hl=>match us,hl with | [_,_],_=>rfl
 have DI_Overpaid : InitAt K "Overpaid.__init__" (meth 4 0) ["self","place"] _ _:=⟨FI_Overpaid,bI_Overpaid⟩
 have m_T:=PySem.W.mg_of X G a_T
 have xi : XI K T "ValueError.__init__":=⟨rd_T,sp_T,iid_T ▸ at_T,hd_T⟩
 have G_is_whole:=jku (P:=l.prog) (w:=w) (base:=base) B D_is_whole
 have G_is_tuple_of:=jh2 (P:=l.prog) (w:=w) (base:=base) B D_is_tuple_of
 have G_is_list_up_to:=jfg (P:=l.prog) (w:=w) (base:=base) B D_is_list_up_to
 have G_is_pair_of_wholes:=jdu (P:=l.prog) (w:=w) (base:=base) B D_is_pair_of_wholes D_is_tuple_of G_is_tuple_of D_is_whole G_is_whole
 have G_place_stands:=jgk (P:=l.prog) (w:=w) (base:=base) B C D_place_stands D_is_pair_of_wholes G_is_pair_of_wholes
 have G_tie_stands:=jik (P:=l.prog) (w:=w) (base:=base) B D_tie_stands D_is_pair_of_wholes G_is_pair_of_wholes
 have GI_NoWeb:=jin (P:=l.prog) (w:=w) (base:=base) DI_NoWeb X_NoWeb m_T xi f_NoWeb_part f_NoWeb_number
 have GI_NoRows:=jh3 (P:=l.prog) (w:=w) (base:=base) DI_NoRows X_NoRows m_T xi f_NoRows_number
 have GI_Overpaid:=jfh (P:=l.prog) (w:=w) (base:=base) DI_Overpaid X_Overpaid m_T xi f_Overpaid_place
 have G_look_at_places:=jf0 (P:=l.prog) (w:=w) (base:=base) B C D_look_at_places D_is_list_up_to G_is_list_up_to D_place_stands G_place_stands X_NoWeb DI_NoWeb GI_NoWeb
 have G_look_at_ties:=jgl (P:=l.prog) (w:=w) (base:=base) B C D_look_at_ties D_is_list_up_to G_is_list_up_to D_tie_stands G_tie_stands X_NoWeb DI_NoWeb GI_NoWeb
 have G_look_at_web:=jh0 (P:=l.prog) (w:=w) (base:=base) B D_look_at_web D_is_tuple_of G_is_tuple_of D_look_at_places G_look_at_places D_look_at_ties G_look_at_ties X_NoWeb DI_NoWeb GI_NoWeb
 have G_nears_in:=jkp (P:=l.prog) (w:=w) (base:=base) B D_nears_in
 have G_is_place:=jkv (P:=l.prog) (w:=w) (base:=base) B D_is_place D_is_whole G_is_whole
 have G_are_places:=jio (P:=l.prog) (w:=w) (base:=base) B D_are_places D_is_place G_is_place
 have G_is_all:=jo9 (P:=l.prog) (w:=w) (base:=base) B D_is_all
 have G_is_ring:=jmo (P:=l.prog) (w:=w) (base:=base) B D_is_ring
 have G_is_row:=jo8 (P:=l.prog) (w:=w) (base:=base) B D_is_row D_is_tuple_of G_is_tuple_of D_is_whole G_is_whole D_are_places G_are_places D_is_all G_is_all D_is_ring G_is_ring
 have G_paid_by:=jmk (P:=l.prog) (w:=w) (base:=base) B D_paid_by
 have G_look_at_rows:=jgm (P:=l.prog) (w:=w) (base:=base) B D_look_at_rows D_look_at_web G_look_at_web D_is_list_up_to G_is_list_up_to D_nears_in G_nears_in D_is_row G_is_row D_paid_by G_paid_by (PySem.W.mg_of X G n_MR) X_NoRows DI_NoRows GI_NoRows X_Overpaid DI_Overpaid GI_Overpaid
 have G_law_begun:=jju (P:=l.prog) (w:=w) (base:=base) B D_law_begun
 have G_law_take:=jkq (P:=l.prog) (w:=w) (base:=base) B D_law_take
 have G_law_places:=jil (P:=l.prog) (w:=w) (base:=base) B D_law_places D_law_take G_law_take
 have G_law_web:=jml (P:=l.prog) (w:=w) (base:=base) B D_law_web D_law_take G_law_take D_law_places G_law_places
 have G_law_near:=jkt (P:=l.prog) (w:=w) (base:=base) B D_law_near
 have G_law_all:=jmn (P:=l.prog) (w:=w) (base:=base) B D_law_all D_law_take G_law_take
 have G_law_ring:=jks (P:=l.prog) (w:=w) (base:=base) B D_law_ring D_law_take G_law_take
 have G_law_row:=jmm (P:=l.prog) (w:=w) (base:=base) B D_law_row D_law_take G_law_take D_law_all G_law_all D_law_ring G_law_ring
 have G_law_rows:=jkr (P:=l.prog) (w:=w) (base:=base) B D_law_rows D_law_near G_law_near D_law_take G_law_take D_law_row G_law_row
 have G_given_for_one:=jfi (P:=l.prog) (w:=w) (base:=base) B D_given_for_one
 have G_given_by:=jkw (P:=l.prog) (w:=w) (base:=base) B D_given_by D_given_for_one G_given_for_one
 have G_half_up:=jmp (P:=l.prog) (w:=w) (base:=base) B D_half_up
 have G_worth_of:=jko (P:=l.prog) (w:=w) (base:=base) B D_worth_of D_look_at_rows G_look_at_rows D_given_by G_given_by
 have G_bound_of:=jkx (P:=l.prog) (w:=w) (base:=base) B D_bound_of D_worth_of G_worth_of D_half_up G_half_up
 have G_wog:=good jmd G_worth_of
 have G_bog:=good jn4 G_bound_of
 have G_law_whole:=jjs (P:=l.prog) (w:=w) (base:=base) B D_law_whole
 have G_law_worth:=jjr (P:=l.prog) (w:=w) (base:=base) B D_law_worth
 have G_law_right:=jjt (P:=l.prog) (w:=w) (base:=base) B D_law_right D_law_worth G_law_worth D_worth_of G_wog D_bound_of G_bog D_law_whole G_law_whole
 have G_law_bad_web:=jh1 (P:=l.prog) (w:=w) (base:=base) B D_law_bad_web D_law_take G_law_take
 have G_law_web_told:=jgn (P:=l.prog) (w:=w) (base:=base) (k:=8 + 1) (C_TouchError:=T) B D_law_web_told X_NoWeb f_NoWeb_part f_NoWeb_number
 have G_law_no_web:=jim (P:=l.prog) (w:=w) (base:=base) rfl hC hBl B D_law_no_web D_law_bad_web G_law_bad_web D_law_web_told G_law_web_told D_worth_of (G_worth_of.mono (by decide)) D_bound_of G_bound_of D_look_at_rows (G_look_at_rows.mono (by decide)) hcd
 exact ok_law B D_law D_law_begun G_law_begun D_law_web G_law_web D_law_rows G_law_rows D_law_take G_law_take D_law_right G_law_right D_law_no_web G_law_no_web (PySem.W.mg_none_of X G z_repr)
theorem walk {l : PySem.W.OpenLaw} {q : Program} {loose : List Str} {XP : (Str→Option Value)→Heap→Prop} {YP : World→Heap→Prop} {d : DefRec} {K : Params→PySem.W.Frag} (hn : l.most = some 63) (hdf : d.params.defaults = [])
  (hrec : ((PyProof.Rows.recsOf q).find? fun e=>e.name == ("_law_no_web" : Str)).isSome = true) (hnt : ∀ w : World,PySem.W.noTabs (K w.params) = true)
  (hY : ∀ (w : World) (h : Heap),YP w h→(K w.params).In h)
  (F : ∀ (w : World) (mg : Str→Option Value) (fa : Addr) (h : Heap),(K w.params).In h→h.Ns mainGlobals mg→mg d.name = some (.ref fa) →
   ∃ (fd : FuncData) (c T : Addr),PySem.W.tabIn (K w.params) "_law_no_web" = some (c,T)∧(∀ (s : Shared) (u : Value),BindsTo s fd ⟨[u],[]⟩ [("_law_script",u)])∧∀ base : Heap,(K w.params).In base→base.Ns mainGlobals mg→PySem.W.CodeHd base c T→BltAt mg base→FnOk l.prog w (K w.params) mg base CX0 12 fa fd ["_law_script"] (jpi (K w.params) T (("_law_no_web" : Str) ++ ".<locals>." ++ Str.ofString "<lambda>"))) :
  PySem.W.WalkO q loose XP YP l.row.toRowW d [] (fun f vs=>PySem.call f vs) :=
 L2.jpf (n:=63) (k:=12) (x:="_law_script") (tn:="_law_no_web") (CX:=fun _=>CX0) (sp:=fun w T=>jpi (K w.params) T (("_law_no_web" : Str) ++ ".<locals>." ++ Str.ofString "<lambda>")) hn (by decide) hdf ⟨rfl,by decide,by decide,rfl⟩ hY hrec hnt F (fun _ _ a T ns hl hS hT=>⟨a,ns,rfl,hS,TabS.start hT,fun _=>rfl⟩) fun _ _ _ _ _ z=>z
end My
open PySem PySem.W PyProof.Rows
set_option maxRecDepth 100000 in
set_option maxHeartbeats 0 in
theorem PySem.Challenge.cw_touchall_k17_worths_and_bounds_holds : PySem.Challenge.rw_touchall_k17_worths_and_bounds.Holds := by
 refine MyHead ?_
 k_fill
 refine My.walk (l:=PySem.Challenge.rw_touchall_k17_worths_and_bounds) rfl rfl ?hrec ?hnt (fun w h Y=>PySem.W.km_in_of Y) ?F
 case hrec=>kernel_rfl
 case hnt=>intro w; kernel_rfl
 case F =>
  intro w mg fa h KX G hmg
  refine' My.all_mk KX G hmg ?_ ?_ ?_ ?_ ?_ ?_ ?_ ?_ ?_ ?_ ?_ ?_ ?_ ?_ ?_ ?_ ?_ ?_ ?_ ?_ ?_ ?_ ?_ ?_ ?_ ?_ ?_ ?_ ?_ ?_ ?_ ?_ ?_ ?_ ?_ ?_ ?_ ?_ ?_ ?_ ?_ ?_ ?_ ?_ ?_ ?_ ?_ ?_ ?_ ?_ ?_ ?_ ?_ ?_ ?_ ?_ ?_ ?_ ?_ ?_ ?_ ?_ ?_ ?_ ?_ ?_ ?_ ?_ ?_ ?_ ?_ ?_ ?_ ?_ ?_ ?_ ?_ ?_ ?_ ?_ ?_ ?_ ?_ ?_ ?_ ?_ ?_ ?_ ?_ ?_ ?_ ?_ ?_ ?_ ?_ ?_ ?_ ?_ ?_ ?_ ?_ ?_ ?_ ?_ ?_ ?_ ?_ ?_ ?_ ?_ ?_ ?_ ?_ ?_ ?_ ?_ ?_ ?_ ?_ ?_ ?_ ?_ ?_ ?_ ?_ ?_ ?_ ?_ ?_ ?_ ?_ ?_ ?_ ?_ ?_ ?_ ?_ ?_ ?_ ?_ ?_ ?_ ?_ ?_ ?_ ?_ ?_ ?_ ?_ ?_ ?_ ?_ ?_ ?_ ?_ ?_ ?_ ?_ ?_ ?_ ?_ ?_ ?_ ?_ ?_ ?_ ?_ ?_ ?_ ?_ ?_ ?_ ?_ ?_ ?_ ?_ ?_ ?_ ?_ ?_ ?_ ?_ ?_ ?_ ?_ ?_ ?_ ?_ ?_ ?_ ?_ ?_ ?_ ?_ ?_ ?_ ?_ ?_ ?_ ?_ ?_ ?_ ?_ ?_ ?_ ?_ ?_ ?_ ?_ ?_ ?_ ?_ ?_ ?_ ?_ ?_ ?_ ?_ ?_ ?_ ?_ ?_ ?_ ?_ ?_ ?_ ?_ ?_ ?_ ?_ ?_ ?_ ?_ ?_ ?_ ?_ ?_ ?_ ?_ ?_ ?_ ?_ ?_
  any_goals first | (show (_ : Value) = Value.ref _; rfl) | (show (_ : Option Value) = some (Value.ref _); rfl) | k_is | (delta My.aT; k_is) | (delta My.lT; k_is) | (delta My.cT; k_is) | (delta My.kT; k_is) | (delta My.zT; k_is) | kernel_rfl | rfl
#print axioms PySem.Challenge.cw_touchall_k17_worths_and_bounds_holds
