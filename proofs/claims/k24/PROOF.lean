import PyProof.Rows.All
import Wide.All
import OpenK.AllK
import Wide.FinOn
import Lean
import PyProof.EqAt
import PyProof.EqKinds
import PyProof.TupleCall
import PyProof.NeKinds
import PyProof.NeData
import PySem.Challenge.RW_touchall_k24_whole_cheapest_of_all_halve
import PyProof.StationsW
import PyProof.ExcInit
import PyProof.InstStoreFacts
import PyProof.NsDelKeeps
import PyProof.RulesAs
import PyProof.ExcAttrAll.ValueError
import KE.KIsAll
import PyProof.AutoSeq1
import PyProof.Rows.SetFrom
import PyProof.SetRoads
import PyProof.Rows.SortRuns
import PyProof.Rows.SortShell
import KE.KSortTup
import PyProof.Rows.SumAny
import PyProof.DictWalks
import PyProof.DictUpdate
import KE.KDictList
section
open PySem PySem.W PyProof.Rows
set_option Elab.async false
set_option maxRecDepth 100000
set_option maxHeartbeats 0
namespace PySem.W.Fast
theorem tw9665494389270877984:True:=⟨⟩
theorem tw4931856099360984229:True:=⟨⟩
theorem tw14781562103584300300:True:=⟨⟩
theorem tw18004234820734870348:True:=⟨⟩
theorem tw16599119404929089777:True:=⟨⟩
theorem tw9523907401933072244:True:=⟨⟩
theorem tw280475905095942100:True:=⟨⟩
theorem tw17883986908372840214:True:=⟨⟩
theorem tw3532348617687762170:True:=⟨⟩
theorem tw7444135233131184700:True:=⟨⟩
theorem tw2394965854965877950:True:=⟨⟩
theorem tw1329411525683706043:True:=⟨⟩
theorem tw749475842917359531:True:=⟨⟩
theorem tw16534339097768146004:True:=⟨⟩
theorem tw15693294657385995021:True:=⟨⟩
theorem tw2220164997069877358:True:=⟨⟩
theorem tw12549199338888590937:True:=⟨⟩
theorem tw14566061343962206368:True:=⟨⟩
theorem tw2299995472670780312:True:=⟨⟩
theorem tw2766017732037652418:True:=⟨⟩
theorem tw1349069014647357223:True:=⟨⟩
theorem tw4475783039337762679:True:=⟨⟩
theorem tw9202793077811905852:True:=⟨⟩
theorem tw8513872578731894556:True:=⟨⟩
theorem tw11033941645859556090:True:=⟨⟩
theorem tw17040265546129833713:True:=⟨⟩
theorem tw15500006721023040547:True:=⟨⟩
theorem tw162473700425539603:True:=⟨⟩
theorem tw2965769552864237175:True:=⟨⟩
theorem tw1104488647094209902:True:=⟨⟩
theorem tw17746213073180106855:True:=⟨⟩
theorem tw14756317111538670632:True:=⟨⟩
theorem tw2232508010609702249:True:=⟨⟩
theorem tw12343798008286848705:True:=⟨⟩
theorem tw9986159386596041291:True:=⟨⟩
theorem tw12021910400016799448:True:=⟨⟩
theorem tw1446046372975601066:True:=⟨⟩
theorem tw8871029021759738552:True:=⟨⟩
theorem tw10913997214970868764:True:=⟨⟩
theorem tw593414006488225192:True:=⟨⟩
theorem tw5954876327221452193:True:=⟨⟩
theorem tw12855419698269193786:True:=⟨⟩
theorem tw6749682013178273063:True:=⟨⟩
theorem tw6730875953044847916:True:=⟨⟩
theorem tw13058793742947418118:True:=⟨⟩
theorem tw6584695149455985699:True:=⟨⟩
theorem tw429126050991680652:True:=⟨⟩
theorem tw9762787882097571856:True:=⟨⟩
theorem tw15514634696500728796:True:=⟨⟩
theorem tw163361006696384501:True:=⟨⟩
theorem tw13281483970742848924:True:=⟨⟩
theorem tw577511202878901248:True:=⟨⟩
theorem tw8153494736163193282:True:=⟨⟩
theorem tw6542929942557814982:True:=⟨⟩
theorem tw1726813977947389158:True:=⟨⟩
theorem tw16770910964881924072:True:=⟨⟩
theorem tw8079341929624369548:True:=⟨⟩
theorem tw13527872405176336012:True:=⟨⟩
theorem tw7492884703717757881:True:=⟨⟩
theorem tw15377678365041130219:True:=⟨⟩
theorem tw12306747795182409104:True:=⟨⟩
theorem tw9482120283554068594:True:=⟨⟩
theorem tw2204380585850004632:True:=⟨⟩
theorem tw1718328181716237790:True:=⟨⟩
end PySem.W.Fast
open_top MyHead for PySem.Challenge.rw_touchall_k24_whole_cheapest_of_all_halve
end
-- CHANGE: your row's module here, as the last of these rows
noncomputable section
set_option Elab.async false
set_option linter.all false
set_option maxRecDepth 100000
namespace L2
open PySem PySem.Spec PyProof.Rows
abbrev Key:=Sum Int Str
def jln:Key→Value→Bool
 | .inl k,v=>Value.isInt k v
 | .inr x,v=>Value.isStrOf x v
def keyH (w:World):Key→Int
 | .inl k=>hashInt k
 | .inr x=>hashStr w x
theorem jc7:∀ {k:Key} {v:Value},jln k v = true→(∃ i t,k = Sum.inl i∧v = Value.int i t) ∨ (∃ x t,k = Sum.inr x∧v = Value.str x t)
 | .inl i,v,h=>by
  obtain ⟨t,e⟩:=Value.isInt_shape (k:=i) (v:=v) h
  exact .inl ⟨i,t,rfl,e⟩
 | .inr x,v,h=>by
  obtain ⟨t,e⟩:=Value.isStrOf_shape (x:=x) (v:=v) h
  exact .inr ⟨x,t,rfl,e⟩
theorem jq1 (i:Int) (t:Tok):jln (.inl i) (.int i t) = true:=by simp [jln,Value.isInt]
theorem jq0 (x:Str) (t:Tok):jln (.inr x) (.str x t) = true:=by simp [jln,Value.isStrOf]
theorem key_ll (a b:Int):decide ((Sum.inl a:Key) = Sum.inl b) = (a == b):=by
 by_cases e:a = b
 ·subst e; simp
 ·have h:¬ (Sum.inl a:Key) = Sum.inl b:=fun q=>e (Sum.inl.inj q)
  rw [decide_eq_false h]
  exact (beq_eq_false_iff_ne.mpr e).symm
theorem key_rr (a b:Str):decide ((Sum.inr a:Key) = Sum.inr b) = decide (a = b):=by
 by_cases e:a = b
 ·subst e; simp
 ·have h:¬ (Sum.inr a:Key) = Sum.inr b:=fun q=>e (Sum.inr.inj q)
  rw [decide_eq_false h,decide_eq_false e]
theorem key_lr (a:Int) (b:Str):decide ((Sum.inl a:Key) = Sum.inr b) = false:=decide_eq_false (fun q=>nomatch q)
theorem key_rl (a:Str) (b:Int):decide ((Sum.inr a:Key) = Sum.inl b) = false:=decide_eq_false (fun q=>nomatch q)
def jby (prog:Program) (w:World):PySem.KeyKind prog w Key where
 is:=jln
 hash:=keyH w
 inj:=fun v a b ha hb=>by
  rcases jc7 ha with ⟨i,t,rfl,rfl⟩ | ⟨x,t,rfl,rfl⟩
  ·rcases jc7 hb with ⟨j,u,rfl,e⟩ | ⟨y,u,rfl,e⟩
   ·injection e with e1 _; rw [e1]
   ·exact nomatch e
  ·rcases jc7 hb with ⟨j,u,rfl,e⟩ | ⟨y,u,rfl,e⟩
   ·exact nomatch e
   ·injection e with e1 _; rw [e1]
 byValue:=fun k v h=>by
  rcases jc7 h with ⟨i,t,rfl,rfl⟩ | ⟨x,t,rfl,rfl⟩ <;> rfl
 pyHash:=fun hv h=>by
  rcases jc7 hv with ⟨i,t,rfl,rfl⟩ | ⟨x,t,rfl,rfl⟩
  ·exact wpAny_pyHash_int h
  ·exact wpAny_pyHash_str h
 eqBool:=fun hu hv h=>by
  rcases jc7 hu with ⟨i,t,rfl,rfl⟩ | ⟨x,t,rfl,rfl⟩
  ·rcases jc7 hv with ⟨j,u,rfl,rfl⟩ | ⟨y,u,rfl,rfl⟩
   ·rw [key_ll] at h; exact wpAny_eqBool_int h
   ·rw [key_lr] at h; exact SeqAt.EqAt.int_str i t y u _ _ _ _ h
  ·rcases jc7 hv with ⟨j,u,rfl,rfl⟩ | ⟨y,u,rfl,rfl⟩
   ·rw [key_rl] at h; exact SeqAt.EqAt.str_int x t j u _ _ _ _ h
   ·rw [key_rr] at h; exact wpAny_eqBool_str h
 «strs»:=fun k x t v h=>by
  rcases jc7 h with ⟨i,u,rfl,e⟩ | ⟨y,u,rfl,e⟩
  ·exact nomatch e
  ·injection e with e1 _
   subst e1
   cases v <;> rfl
theorem jlk (prog:Program) (w:World) (i:Int) (t:Tok):(jby prog w).is (.inl i) (.int i t) = true:=jq1 i t
theorem jlj (prog:Program) (w:World) (x:Str) (t:Tok):(jby prog w).is (.inr x) (.str x t) = true:=jq0 x t
end L2
namespace L2
open PySem PySem.Spec PyProof.Rows
inductive V where
 | non | bl (b:Bool) | int (i:Int) | str (x:Str) | byt (b:Array UInt8) | flt (b:UInt64) | ref (a:Addr) | ty (n:String)
 deriving DecidableEq
def RelV:V→Value→Prop
 | .non,u=>u = Value.none
 | .bl b,u=>u = Value.bool b
 | .int i,u=>∃ t,u = Value.int i t
 | .str x,u=>∃ t,u = Value.str x t
 | .byt b,u=>∃ t,u = Value.bytes b t
 | .flt b,u=>∃ t,u = Value.float b t
 | .ref a,u=>u = Value.ref a
 | .ty n,u=>u = Value.type n
abbrev Vals:List V→List Value→Prop:=Paired RelV
theorem Vals.length {xs:List V} {us:List Value} (r:Vals xs us):xs.length = us.length:=Paired.length r
theorem Vals.get:∀ {xs:List V} {us:List Value} {i:Nat} {x:V},Vals xs us→xs[i]? = some x→∃ u,us[i]? = some u∧RelV x u
 | _,_,_,_,.nil,e=>by simp at e
 | _,_,0,_,.cons r _,e=>by simp at e; subst e; exact ⟨_,rfl,r⟩
 | _,_,i + 1,x,.cons _ t,e=>by
  obtain ⟨u,h1,h2⟩:=Vals.get (i:=i) (x:=x) t (by simpa using e)
  exact ⟨u,by simpa using h1,h2⟩
theorem Vals.set {x:V} {u:Value} (r:RelV x u):∀ {xs:List V} {us:List Value} (i:Nat),Vals xs us→Vals (xs.set i x) (us.set i u)
 | _,_,_,.nil=>.nil
 | _,_,0,.cons _ t=>.cons r t
 | _,_,i + 1,.cons q t=>.cons q (Vals.set r i t)
theorem Vals.append:∀ {xs ys:List V} {us ws:List Value},Vals xs us→Vals ys ws→Vals (xs ++ ys) (us ++ ws)
 | _,_,_,_,.nil,s=>s
 | _,_,_,_,.cons r t,s=>.cons r (Vals.append t s)
theorem Vals.take:∀ {xs:List V} {us:List Value} (n:Nat),Vals xs us→Vals (xs.take n) (us.take n)
 | _,_,0,_=>.nil
 | _,_,_ + 1,.nil=>.nil
 | _,_,n + 1,.cons r t=>.cons r (Vals.take n t)
theorem Vals.drop:∀ {xs:List V} {us:List Value} (n:Nat),Vals xs us→Vals (xs.drop n) (us.drop n)
 | _,_,0,r=>r
 | _,_,_ + 1,.nil=>.nil
 | _,_,n + 1,.cons _ t=>Vals.drop n t
def RelO:Option V→Option Value→Prop
 | some v,some u=>RelV v u
 | none,none=>True
 | _,_=>False
def KV {κ:Type}:List (κ × V)→List (κ × Value)→Prop:=Paired fun (p:κ × V) (q:κ × Value)=>p.1 = q.1∧RelV p.2 q.2
def kV:Key→V
 | .inl i=>.int i
 | .inr x=>.str x
inductive HO where
 | lst (xs:List V)
 | tup (xs:List V)
 | dK (kvs:List (Key × V)) | dT (kvs:List (List Key × V))
 | set (S:Int→Bool) (n:Nat)
 | ins (C dx:Addr) (fs:List (Str × V))
 | own (x:Addr)
 | xd (fs:List (Str × V))
 | met (f x:Addr)
 | rng (lo hi:Int)
 | frz (o:Obj) (u:HO)
 | tbl (ps:Array Value)
 | ext (φ:Heap→Prop)
abbrev Hp:=Addr→Option HO
def upd (H:Hp) (a:Addr) (o:HO):Hp:=fun b=>if b = a then some o else H b
theorem ja4 {H:Hp} {a:Addr} {o:HO}:upd H a o a = some o:=by unfold upd; rw [if_pos rfl]
theorem jba {H:Hp} {a b:Addr} {o:HO} (h:b ≠ a):upd H a o b = H b:=by unfold upd; rw [if_neg h]
theorem jo9 {H:Hp} {a:Addr} {o u:HO}:upd (upd H a o) a u = upd H a u:=by
 funext b; unfold upd; split <;> rfl
theorem jlg {H:Hp} {a b:Addr} {o u:HO} (h:H a = some o) (h':H b = some u) (d:o ≠ u):a ≠ b:=by
 intro e; subst e; rw [h] at h'; exact d (Option.some.inj h')
theorem jaj {H:Hp} {a b:Addr} {o:HO} (h:H a = some o) (h':H b = none):a ≠ b:=by
 intro e; subst e; rw [h] at h'; cases h'
section
variable (P:Program) (w:World)
def jcy (H:Hp) (h:Heap) (a:Addr):HO→Prop
 | .lst xs=>xs.length ≤ sizeLine∧∃ (its:List Value) (n:Nat),Vals xs its∧h.get? a = some { cls:=.type "list",data:=.seq its.toArray n }
 | .tup xs=>xs.length ≤ sizeLine∧∃ its:List Value,Vals xs its∧IsTup h a its.toArray
 | .dK kvs=>kvs.length ≤ sizeLine∧(a == sysModules) = false∧∃ vs,KV kvs vs∧h.DictOf (jby P w) a vs
 | .dT kvs=>kvs.length ≤ sizeLine∧(a == sysModules) = false∧∃ xs:List (List Key × Addr × Value),
   Paired (fun (p:List Key × V) (q:List Key × Addr × Value)=>p.1 = q.1∧H q.2.1 = some (.tup (p.1.map kV))∧RelV p.2 q.2.2) kvs xs ∧
   ∃ o es ep,h.get? a = some o∧o.ExactDict∧o.data = .dict es ep∧es.toList = xs.map (entryOfKey (tupleKind (jby P w)))∧(xs.map (·.1)).Nodup
 | .set S n=>h.SetOf (intKind P w) a S n
 | .ins C dx fs=>H dx = some (.own a)∧fs.length ≤ 1000∧dx ≠ a∧h.get? a = some (PySem.W.instObj C dx) ∧
   ∃ mA,h.Ns1 dx mA∧(∀ f,RelO (fs.lookup f) (mA f))∧PySem.Within mA (fs.map (·.1))
 | .own _=>∃ o,h.get? a = some o
 | .xd fs=>∃ mA,h.Ns1 a mA∧∀ f,RelO (fs.lookup f) (mA f)
 | .rng lo hi=>∃ t u v,h.get? a = some { cls:=.type "range",data:=.fields #[.int lo t,.int hi u,.int 1 v] }
 | .frz o u=>h.get? a = some o∧jcy H h a u
 | .tbl ps=>h.get? a = some { cls:=.none,data:=.fields ps }
 | .met f x=>h.get? a = some (PySem.W.methodObj (.ref f) (.ref x))
 | .ext φ=>φ h∧(∃ o,h.get? a = some o)∧∀ h1 h2:Heap,φ h1→(∀ o,h1.get? a = some o→h2.get? a = some o)→φ h2
def HOk (H:Hp) (h:Heap):Prop:=∀ a o,H a = some o→jcy P w H h a o
end
section
variable {P:Program} {w:World} {H H':Hp} {h h':Heap} {a:Addr} {o:HO}
theorem jcy.lt (x:jcy P w H h a o):a < h.objs.size:=by
 cases o with
 | lst xs=>obtain ⟨_,_,_,_,e⟩:=x; exact Heap.lt_size e
 | tup xs=>obtain ⟨_,_,_,p⟩:=x; exact p.lt
 | dK kvs=>obtain ⟨_,_,_,_,o,_,_,e,_⟩:=x; exact Heap.lt_size e
 | dT kvs=>obtain ⟨_,_,_,_,o,_,_,e,_⟩:=x; exact Heap.lt_size e
 | set S n=>obtain ⟨o,_,_,_,e,_⟩:=x; exact Heap.lt_size e
 | ins C dx fs=>obtain ⟨_,_,_,e,_⟩:=x; exact Heap.lt_size e
 | own y=>obtain ⟨_,e⟩:=x; exact Heap.lt_size e
 | xd fs=>obtain ⟨_,⟨_,_,_,e,_⟩,_⟩:=x; exact Heap.lt_size e
 | rng lo hi=>obtain ⟨_,_,_,e⟩:=x; exact Heap.lt_size e
 | frz ob u=>obtain ⟨e,_⟩:=x; exact Heap.lt_size e
 | tbl ps=>exact Heap.lt_size (show h.get? a = some _ from x)
 | met f y=>exact Heap.lt_size (show h.get? a = some _ from x)
 | ext φ=>obtain ⟨_,⟨_,e⟩,_⟩:=x; exact Heap.lt_size e
theorem Paired.mapP {α β:Type} {F G:α→β→Prop}:∀ {l₁:List α} {l₂:List β},Paired F l₁ l₂→(∀ a b,F a b→G a b)→Paired G l₁ l₂
 | _,_,.nil,_=>.nil
 | _,_,.cons r t,f=>.cons (f _ _ r) (Paired.mapP t f)
theorem Paired.imp' {α β:Type} {F G:α→β→Prop} (f:∀ a b,F a b→G a b) {l₁:List α} {l₂:List β} (r:Paired F l₁ l₂):Paired G l₁ l₂:=Paired.mapP r f
theorem jcy.stay (x:jcy P w H h a o) (k:∀ b u,(b = a ∨ H b = some (.own a))→h.get? b = some u→h'.get? b = some u)
  (ho:∀ b,H b = some (.own a)→H' b = some (.own a)) (ht:∀ b xs,H b = some (.tup xs)→H' b = some (.tup xs)):jcy P w H' h' a o:=by
 induction o with
 | lst xs=>obtain ⟨z,its,n,r,e⟩:=x; exact ⟨z,its,n,r,k _ _ (.inl rfl) e⟩
 | tup xs=>obtain ⟨z,its,r,ob,e,c⟩:=x; exact ⟨z,its,r,ob,k _ _ (.inl rfl) e,c⟩
 | dK kvs=>obtain ⟨z,y,vs,r,ob,es,ep,e,c⟩:=x; exact ⟨z,y,vs,r,ob,es,ep,k _ _ (.inl rfl) e,c⟩
 | dT kvs =>
  obtain ⟨z,y,xs,r,ob,es,ep,e,c⟩:=x
  exact ⟨z,y,xs,Paired.mapP r fun p q z=>⟨z.1,ht _ _ z.2.1,z.2.2⟩,ob,es,ep,k _ _ (.inl rfl) e,c⟩
 | set S n=>obtain ⟨ob,es,ep,t,e,c⟩:=x; exact ⟨ob,es,ep,t,k _ _ (.inl rfl) e,c⟩
 | ins C dx fs =>
  obtain ⟨d,z,ne,e,mA,⟨od,es,ep,e2,c⟩,r⟩:=x
  exact ⟨ho _ d,z,ne,k _ _ (.inl rfl) e,mA,⟨od,es,ep,k _ _ (.inr d) e2,c⟩,r⟩
 | own y=>obtain ⟨ob,e⟩:=x; exact ⟨ob,k _ _ (.inl rfl) e⟩
 | xd fs=>obtain ⟨mA,⟨od,es,ep,e,c⟩,r⟩:=x; exact ⟨mA,⟨od,es,ep,k _ _ (.inl rfl) e,c⟩,r⟩
 | rng lo hi=>obtain ⟨t,u,v,e⟩:=x; exact ⟨t,u,v,k _ _ (.inl rfl) e⟩
 | frz ob u ih=>obtain ⟨e,q⟩:=x; exact ⟨k _ _ (.inl rfl) e,ih q⟩
 | tbl ps =>
  have e:h.get? a = some { cls:=.none,data:=.fields ps }:=x
  show h'.get? a = some { cls:=.none,data:=.fields ps }
  exact k a _ (.inl rfl) e
 | met f y =>
  have e:h.get? a = some (PySem.W.methodObj (.ref f) (.ref y)):=x
  show h'.get? a = some (PySem.W.methodObj (.ref f) (.ref y))
  exact k a _ (.inl rfl) e
 | ext φ=>obtain ⟨p,⟨o,e⟩,st⟩:=x; exact ⟨st _ _ p fun o q=>k _ _ (.inl rfl) q,⟨o,k _ _ (.inl rfl) e⟩,st⟩
theorem HOk.lt (x:HOk P w H h) (e:H a = some o):a < h.objs.size:=(x a o e).lt
theorem HOk.fresh (x:HOk P w H h) (e:h.objs.size ≤ a):H a = none:=by
 cases q:H a with
 | none=>rfl
 | some u=>exact absurd (Nat.lt_of_lt_of_le (x.lt q) e) (Nat.lt_irrefl _)
theorem HOk.kept (x:HOk P w H h) (k:∀ b u,h.get? b = some u→h'.get? b = some u):HOk P w H h':=fun a o e =>
 (x a o e).stay (fun b u _ q=>k b u q) (fun _ q=>q) fun _ _ q=>q
theorem HOk.laid (x:HOk P w H h) (k:∀ b u,h.get? b = some u→h'.get? b = some u) (hp:h.objs.size ≤ a) (new:jcy P w (upd H a o) h' a o):HOk P w (upd H a o) h':=fun b u e=>by
 have hn:=x.fresh hp
 by_cases hb:b = a
 ·subst hb; rw [ja4] at e; cases e; exact new
 ·rw [jba hb] at e
  exact (x b u e).stay (fun c v _ q=>k c v q) (fun c q=>by rw [jba (jaj q hn)]; exact q) fun c xs q=>by rw [jba (jaj q hn)]; exact q
end
def Rd (H:Hp) (a:Addr) (u:HO):Prop:=H a = some u ∨ ∃ o,H a = some (.frz o u)
theorem Rd.of {H:Hp} {a:Addr} {u:HO} (h:H a = some u):Rd H a u:=.inl h
theorem Rd.ok {P:Program} {w:World} {H:Hp} {h:Heap} {a:Addr} {u:HO} (r:Rd H a u) (x:HOk P w H h):jcy P w H h a u:=by
 rcases r with r | ⟨o,r⟩
 ·exact x a u r
 ·obtain ⟨_,q⟩:=x a _ r
  exact q
def Mut:Option HO→Prop
 | some (.lst _)=>True
 | some (.dK _)=>True
 | some (.dT _)=>True
 | some (.set _ _)=>True
 | some (.ins _ _ _)=>True
 | some (.ext _)=>True
 | _=>False
section
variable {P:Program} {w:World} {H:Hp} {h h':Heap} {x e:Addr} {o':HO}
theorem HOk.write (ok:HOk P w H h) (mu:Mut (H x)) (he:e = x ∨ H e = some (.own x)) (k:∀ b u,b ≠ e→h.get? b = some u→h'.get? b = some u) (heo:∃ u,h'.get? e = some u)
  (new:jcy P w (upd H x o') h' x o'):HOk P w (upd H x o') h':=fun b u q=>by
 have nown:∀ c y,H c = some (.own y)→c ≠ x:=fun c y r z=>by subst z; rw [r] at mu; exact mu
 have ntup:∀ c xs,H c = some (.tup xs)→c ≠ x:=fun c xs r z=>by subst z; rw [r] at mu; exact mu
 by_cases hb:b = x
 ·subst hb; rw [ja4] at q; cases q; exact new
 ·rw [jba hb] at q
  by_cases hbe:b = e
  ·have q':H b = some (.own x):=by
    rcases he with z | z
    ·exact absurd (hbe.trans z) hb
    ·rw [hbe]; exact z
   rw [q] at q'; cases q'
   obtain ⟨v,hv⟩:=heo
   exact ⟨v,by rw [hbe]; exact hv⟩
  ·refine (ok b u q).stay (fun c v hc r=>k c v ?_ r) (fun c r=>by rw [jba (nown c b r)]; exact r) fun c xs r=>by rw [jba (ntup c xs r)]; exact r
   rcases hc with rfl | hc
   ·exact hbe
   ·rintro rfl
    rcases he with z | z
    ·exact nown c b hc z
    ·rw [hc] at z; cases z; exact hb rfl
end
structure Un (fs ex:List Addr) (H H':Hp) (h h':Heap):Prop where
 keep:∀ b o,h.get? b = some o→H b = none→b ∉ fs→b ∉ ex→h'.get? b = some o
 slot:∀ b o,h.get? b = some o→H b = none→b ∈ fs→b ∉ ex→∃ sl,h'.get? b = some { o with slots:=sl }
 free:∀ b o,h.get? b = some o→H b = none→b ∉ ex→H' b = none
 there:∀ b o,h.get? b = some o→b ∉ ex→∃ o',h'.get? b = some o'
 tups:∀ b xs,H b = some (.tup xs)→H' b = some (.tup xs)
 frzs:∀ b o u,H b = some (.frz o u)→H' b = some (.frz o u)
 tbls:∀ b ps,H b = some (.tbl ps)→∃ more,H' b = some (.tbl (ps ++ more))
section
variable {fs fs' ex ex':List Addr} {H H1 H2:Hp} {h h1 h2 h':Heap} {a x e:Addr} {o:HO}
theorem Un.any (u:Un fs ex H H1 h h1) {b:Addr} {ob:Obj} (q:h.get? b = some ob) (n:H b = none) (hx:b ∉ ex):∃ sl,h1.get? b = some { ob with slots:=sl }:=by
 by_cases hb:b ∈ fs
 ·exact u.slot b ob q n hb hx
 ·exact ⟨ob.slots,u.keep b ob q n hb hx⟩
theorem Un.trans (a:Un fs ex H H1 h h1) (b:Un fs ex H1 H2 h1 h2):Un fs ex H H2 h h2 where
 keep:=fun c ob q n hc hx=>b.keep c ob (a.keep c ob q n hc hx) (a.free c ob q n hx) hc hx
 slot:=fun c ob q n hc hx=>by
  obtain ⟨sl,e1⟩:=a.slot c ob q n hc hx
  obtain ⟨sl',e2⟩:=b.slot c _ e1 (a.free c ob q n hx) hc hx
  exact ⟨sl',e2⟩
 free:=fun c ob q n hx=>by
  obtain ⟨o',e1⟩:=a.there c ob q hx
  exact b.free c o' e1 (a.free c ob q n hx) hx
 there:=fun c ob q hx=>by
  obtain ⟨o',e1⟩:=a.there c ob q hx
  exact b.there c o' e1 hx
 tups:=fun c xs q=>b.tups c xs (a.tups c xs q)
 frzs:=fun c ob xs q=>b.frzs c ob xs (a.frzs c ob xs q)
 tbls:=fun c ps q=>by
  obtain ⟨m1,e1⟩:=a.tbls c ps q
  obtain ⟨m2,e2⟩:=b.tbls c _ e1
  exact ⟨m1 ++ m2,by rw [e2,Array.append_assoc]⟩
theorem Un.kept (k:∀ b u,h.get? b = some u→h'.get? b = some u):Un fs ex H H h h' :=
 ⟨fun b ob q _ _ _=>k b ob q,fun b ob q _ _ _=>⟨ob.slots,k b ob q⟩,fun _ _ _ n _=>n,fun b ob q _=>⟨ob,k b ob q⟩,fun _ _ q=>q,fun _ _ _ q=>q,fun _ ps q=>⟨#[],by rw [q]; simp⟩⟩
theorem Un.refl:Un fs ex H H h h:=Un.kept fun _ _ q=>q
theorem Un.laid (k:∀ b u,h.get? b = some u→h'.get? b = some u) (hp:h.objs.size ≤ a) (hn:H a = none):Un fs ex H (upd H a o) h h' where
 keep:=fun b u q _ _ _=>k b u q
 slot:=fun b u q _ _ _=>⟨u.slots,k b u q⟩
 free:=fun b u q n _=>by rw [jba (Nat.ne_of_lt (Nat.lt_of_lt_of_le (Heap.lt_size q) hp))]; exact n
 there:=fun b u q _=>⟨u,k b u q⟩
 tups:=fun b xs q=>by rw [jba (jaj q hn)]; exact q
 frzs:=fun b u xs q=>by rw [jba (jaj q hn)]; exact q
 tbls:=fun b ps q=>⟨#[],by rw [jba (jaj q hn),q]; simp⟩
theorem Un.write (mu:Mut (H x)) (he:e = x ∨ H e = some (.own x)) (k:∀ b u,b ≠ e→h.get? b = some u→h'.get? b = some u) (heo:∃ u,h'.get? e = some u):Un fs ex H (upd H x o) h h':=by
 have hx:∀ b,H b = none→b ≠ x:=fun b n z=>by subst z; rw [n] at mu; exact mu
 have hb:∀ b,H b = none→b ≠ e:=fun b n z=>by
  subst z
  rcases he with r | r
  ·exact hx b n r
  ·rw [n] at r; cases r
 have hm:∀ b u,H b = some u→¬ Mut (some u)→b ≠ x:=fun b u q nm z=>by subst z; rw [q] at mu; exact nm mu
 refine ⟨fun b u q n _ _=>k b u (hb b n) q,fun b u q n _ _=>⟨u.slots,k b u (hb b n) q⟩,fun b u q n _=>by rw [jba (hx b n)]; exact n,fun b u q _=>?_,
  fun b xs q=>by rw [jba (hm b _ q fun z=>z)]; exact q,fun b u xs q=>by rw [jba (hm b _ q fun z=>z)]; exact q,fun b ps q=>⟨#[],by rw [jba (hm b _ q fun z=>z),q]; simp⟩⟩
 by_cases hbe:b = e
 ·subst hbe; exact heo
 ·exact ⟨u,k b u hbe q⟩
theorem Un.mono (u:Un fs ex H H1 h h1) (hs:∀ b ∈ fs,b ∈ fs') (hx:∀ b ∈ ex,b ∈ ex'):Un fs' ex' H H1 h h1 :=
 ⟨fun b ob q n hb he=>u.keep b ob q n (fun z=>hb (hs b z)) fun z=>he (hx b z),fun _ _ q n _ he=>u.any q n fun z=>he (hx _ z),fun b ob q n he=>u.free b ob q n fun z=>he (hx b z),fun b ob q he=>u.there b ob q fun z=>he (hx b z),u.tups,u.frzs,u.tbls⟩
end
def trk (h:Heap) (H:Hp):List Addr:=(List.range h.objs.size).filter fun a=>(H a).isSome
def hidT (h:Heap) (H:Hp):Heap:=PySem.W.hideAll h (trk h H)
theorem jq8 (h:Heap) (H:Hp):(hidT h H).objs.size = h.objs.size:=PySem.W.hideAll_size _ _
theorem js7 {h:Heap} {H:Hp} {b:Addr} {o:Obj} (e:h.get? b = some o) (n:H b = none):(hidT h H).get? b = some o :=
 PySem.W.hideAll_get _ e fun hm=>by
  have q:(H b).isSome = true:=(List.mem_filter.mp hm).2
  rw [n] at q; simp at q
theorem jua {h:Heap} {H:Hp} {b:Addr} {o:Obj} (e:(hidT h H).get? b = some o):h.get? b = some o∧H b = none:=by
 have e':h.get? b = some o:=PySem.W.of_hideAll (trk h H) e
 refine ⟨e',?_⟩
 cases q:H b with
 | none=>rfl
 | some x =>
  have hm:b ∈ trk h H:=List.mem_filter.mpr ⟨List.mem_range.mpr (Heap.lt_size e'),by simp [q]⟩
  have z:(hidT h H).get? b = none:=PySem.W.hideAll_none (trk h H) hm
  rw [z] at e; cases e
end L2
namespace L2
open PySem PySem.Spec PyProof.Rows
structure Mod (K:PySem.W.Frag) (mg:Str→Option Value) (base:Heap):Prop where
 kin:K.In base
 glob:base.Ns mainGlobals mg
 blt:∃ mb,base.Ns builtinsNs mb∧∀ x:Str,x ≠ "__name__"→mb x = bootBuiltins x
 nolimit:base.NoLimit
structure Cx where
 prog:Program
 w:World
 K:PySem.W.Frag
 mg:Str→Option Value
 base:Heap
 A:Around
 N:List Str
 s₀:Shared
 H₀:Hp
 env:Env
 outer:List Env
 stack:List Env
 ex:List Addr
 fn:Str→Bool
 calm:Bool
 pn:List (Addr × Obj)
 xe:Value→Shared→Prop
def frs (l:List Env):List Addr:=l.filterMap (·.frame)
abbrev Cx.fs (X:Cx):List Addr:=frs X.outer
def Vis (sc:Scope) (x:Str):Prop:=sc.names.lookup x = some .local ∨ sc.names.lookup x = some .cell ∨ sc.names.lookup x = some .free
def Loc (sc:Scope) (x:Str):Prop:=sc.names.lookup x = some .local ∨ sc.names.lookup x = some .cell
def Look (env:Env) (h:Heap) (m:Str→Option Value) (x:Str) (u:Value):Prop :=
 (env.kindOf x = some .local∧m x = some u) ∨ ((env.kindOf x = some .cell ∨ env.kindOf x = some .free)∧∃ c,env.cells.lookup x = some c∧h.IsCell c (some u))
structure Cx.Ok (X:Cx):Prop where
 mod:Mod X.K X.mg X.base
 kind:X.env.scope.kind = .function
 glob:X.env.globals = mainGlobals
 blt:X.env.builtins = builtinsNs
 above:X.s₀.heap.objs.size ≤ X.env.locals
 inj:∀ x y c,X.env.cells.lookup x = some c→X.env.cells.lookup y = some c→x = y
 has:∀ x,(X.env.kindOf x = some .cell ∨ X.env.kindOf x = some .free)→∃ c,X.env.cells.lookup x = some c
 cab:∀ x c,X.fn x = true→X.env.cells.lookup x = some c→X.s₀.heap.objs.size ≤ c
 hd:X.calm = true→X.A.handled = none
 frames:X.A.frames = some X.stack
 stk:X.stack = X.outer ∨ (X.stack = X.env :: X.outer∧X.env.frame = some X.env.locals)
 exf:∀ b ∈ X.ex,b ≠ X.env.locals∧∀ x c,X.env.cells.lookup x = some c→c ≠ b
 bs:∀ b o,X.base.get? b = some o→X.s₀.heap.get? b = some o∧X.H₀ b = none
 bsz:X.base.objs.size ≤ X.s₀.heap.objs.size
 noex:∀ b o,X.base.get? b = some o→b ∉ X.ex
 exfs:∀ b ∈ X.ex,b ∉ X.fs
 funs:X.s₀.heap.FunFrames X.base X.outer
 frf:∀ b ∈ X.fs,X.H₀ b = none
structure Inv (X:Cx) (pins:List (Addr × Obj)) (σ:List (Option V)) (H:Hp) (s:Shared):Prop where
 ok:X.Ok
 os:s.os = X.s₀.os
 bare:AllBare s.gens
 base:Un X.fs X.ex X.H₀ H X.s₀.heap s.heap
 loc:∃ m,s.heap.Ns X.env.locals m∧∀ (i:Nat) (x:Str) (v:V),X.N[i]? = some x→σ[i]? = some (some v)→Vis X.env.scope x→∃ u,RelV v u∧Look X.env s.heap m x u
 cell:∀ x c,X.env.cells.lookup x = some c→∃ v,s.heap.IsCell c v
 free:H X.env.locals = none
 freeC:∀ x c,X.env.cells.lookup x = some c→H c = none
 pin:∀ p ∈ X.pn ++ pins,s.heap.get? p.1 = some p.2∧H p.1 = none∧p.1 ≠ X.env.locals∧p.1 ∉ X.fs∧∀ v,p.2.data ≠ .cell v
 hok:HOk X.prog X.w H s.heap
 len:σ.length = X.N.length
section
variable {X:Cx} {pins:List (Addr × Obj)} {σ:List (Option V)} {H H':Hp} {s:Shared} {h':Heap}
theorem Cx.Ok.nofr (ok:X.Ok) {b:Addr} {o:Obj} (e:X.base.get? b = some o):b ∉ X.fs:=fun hb=>by
 have:=(ok.funs.mem hb).1
 rw [e] at this; cases this
theorem Inv.bs (I:Inv X pins σ H s):∀ b o,X.base.get? b = some o→s.heap.get? b = some o∧H b = none:=fun b o e =>
 ⟨I.base.keep b o (I.ok.bs b o e).1 (I.ok.bs b o e).2 (I.ok.nofr e) (I.ok.noex b o e),I.base.free b o (I.ok.bs b o e).1 (I.ok.bs b o e).2 (I.ok.noex b o e)⟩
theorem Inv.bk (I:Inv X pins σ H s):∀ b o,X.base.get? b = some o→s.heap.get? b = some o:=fun b o e=>(I.bs b o e).1
theorem Inv.mod (I:Inv X pins σ H s):Mod X.K X.mg X.base:=I.ok.mod
theorem Inv.kIn (I:Inv X pins σ H s):X.K.In s.heap:=I.ok.mod.kin.keeps I.bk
theorem Inv.fr (I:Inv X pins σ H s):∃ m,Fr X.base X.env.locals s.heap m :=
 let ⟨m,hn,_⟩:=I.loc
 ⟨m,hn,I.bk,Nat.le_trans I.ok.bsz I.ok.above⟩
theorem Inv.lt (I:Inv X pins σ H s):X.env.locals < s.heap.objs.size:=let ⟨_,hn,_⟩:=I.loc; hn.lt
theorem Inv.sz (I:Inv X pins σ H s):X.s₀.heap.objs.size ≤ s.heap.objs.size:=Nat.le_trans I.ok.above (Nat.le_of_lt I.lt)
theorem Inv.nofs (I:Inv X pins σ H s) {a:Addr} (h:s.heap.objs.size ≤ a):a ∉ X.fs:=fun hb=>by
 obtain ⟨_,o,ho,_⟩:=I.ok.funs.mem hb
 exact absurd (Nat.lt_of_lt_of_le (Heap.lt_size ho) (Nat.le_trans I.sz h)) (Nat.lt_irrefl _)
theorem Inv.cne (I:Inv X pins σ H s):∀ x c,X.env.cells.lookup x = some c→c ≠ X.env.locals:=fun x c e z=>by
 obtain ⟨v,o,ho,hd⟩:=I.cell x c e
 obtain ⟨m,⟨o',es,ep,ho',hd',_⟩,_⟩:=I.loc
 rw [z,ho'] at ho; cases ho; rw [hd'] at hd; cases hd
theorem Inv.funs (I:Inv X pins σ H s):s.heap.FunFrames X.base X.outer:=by
 have all:∀ (l:List Env),(∀ b ∈ frs l,b ∈ X.fs)→X.s₀.heap.FunFrames X.base l→s.heap.FunFrames X.base l:=by
  intro l
  induction l with
  | nil=>intro _ _; trivial
  | cons env r ih =>
   intro hs hl
   obtain ⟨hk,⟨L,o,hf,hn,ho,hd⟩,hr⟩:=hl
   have hL:L ∈ X.fs:=hs L (by unfold frs; rw [List.filterMap_cons,hf]; exact List.mem_cons_self)
   obtain ⟨sl,e⟩:=I.base.slot L o ho (I.ok.frf L hL) hL fun z=>I.ok.exfs L z hL
   exact ⟨hk,⟨L,_,hf,hn,e,hd⟩,ih (fun b hb=>hs b (by unfold frs; rw [List.filterMap_cons,hf]; exact List.mem_cons_of_mem _ hb)) hr⟩
 exact all X.outer (fun _ hb=>hb) I.ok.funs
theorem Inv.stack (I:Inv X pins σ H s):s.heap.FunFrames X.base X.stack:=by
 rcases I.ok.stk with e | ⟨e,hf⟩
 ·rw [e]; exact I.funs
 ·rw [e]
  obtain ⟨m,hn,_⟩:=I.loc
  refine .cons (by rw [I.ok.kind]; decide) hf hn ?_ I.funs
  exact Heap.get?_none_of_le (Nat.le_trans I.ok.bsz I.ok.above)
theorem Inv.stkSub (I:Inv X pins σ H s):∀ b ∈ frs X.stack,b ∈ X.env.locals :: X.fs:=fun b hb=>by
 rcases I.ok.stk with e | ⟨e,hf⟩
 ·rw [e] at hb; exact List.mem_cons_of_mem _ hb
 ·rw [e] at hb
  unfold frs at hb
  rw [List.filterMap_cons,hf] at hb
  exact hb
theorem Inv.stkFree (I:Inv X pins σ H s):∀ b ∈ frs X.stack,H b = none:=fun b hb=>by
 rcases List.mem_cons.mp (I.stkSub b hb) with e | hb
 ·rw [e]; exact I.free
 ·obtain ⟨_,o,ho,_⟩:=I.ok.funs.mem hb
  exact I.base.free b o ho (I.ok.frf b hb) fun z=>I.ok.exfs b z hb
theorem Inv.step {g':Array GenState} {t':Nat} {d':Drawn} {ch:List Addr} (I:Inv X pins σ H s)
  (hch:∀ b ∈ ch,(b ∈ X.ex ∨ X.s₀.heap.objs.size ≤ b)∧b ≠ X.env.locals∧(∀ x c,X.env.cells.lookup x = some c→c ≠ b)∧∀ p ∈ X.pn ++ pins,p.1 ≠ b)
  (keep:∀ b o,b ≠ X.env.locals→b ∉ X.fs→b ∉ ch→s.heap.get? b = some o→H b = none→h'.get? b = some o)
  (slot:∀ b o,b ≠ X.env.locals→b ∈ X.fs→b ∉ ch→s.heap.get? b = some o→H b = none→∃ sl,h'.get? b = some { o with slots:=sl }) (free:∀ b o,b ∉ ch→s.heap.get? b = some o→H b = none→H' b = none)
  (there:∀ b o,b ∉ ch→s.heap.get? b = some o→∃ o',h'.get? b = some o')
  (tups:∀ b xs,H b = some (.tup xs)→H' b = some (.tup xs)) (frzs:∀ b o u,H b = some (.frz o u)→H' b = some (.frz o u)) (tbls:∀ b ps,H b = some (.tbl ps)→∃ more,H' b = some (.tbl (ps ++ more)))
  (ns:∀ m,s.heap.Ns X.env.locals m→h'.Ns X.env.locals m) (hok:HOk X.prog X.w H' h') (hg:AllBare g') :
  Inv X pins σ H' { s with heap:=h',gens:=g',drawn:=d',toks:=t' }:=by
 have neL:∀ b o,X.s₀.heap.get? b = some o→b ≠ X.env.locals:=fun b o e=>Nat.ne_of_lt (Nat.lt_of_lt_of_le (Heap.lt_size e) I.ok.above)
 have neC:∀ b o,X.s₀.heap.get? b = some o→b ∉ X.ex→b ∉ ch:=fun b o e hx hb=>by
  rcases (hch b hb).1 with z | z
  ·exact hx z
  ·exact absurd (Nat.lt_of_lt_of_le (Heap.lt_size e) z) (Nat.lt_irrefl _)
 have cellK:∀ x c,X.env.cells.lookup x = some c→∀ v,s.heap.IsCell c v→h'.IsCell c v:=fun x c e v ⟨o,ho,hd⟩=>by
  have nch:c ∉ ch:=fun z=>(hch c z).2.2.1 x c e rfl
  by_cases hc:c ∈ X.fs
  ·obtain ⟨sl,q⟩:=slot c o (I.cne x c e) hc nch ho (I.freeC x c e)
   exact ⟨_,q,hd⟩
  ·exact ⟨o,keep c o (I.cne x c e) hc nch ho (I.freeC x c e),hd⟩
 refine ⟨I.ok,I.os,hg,⟨fun b o e n hb hx=>?_,fun b o e n hb hx=>?_,fun b o e n hx=>?_,fun b o e hx=>?_,fun b xs e=>tups b xs (I.base.tups b xs e),fun b o xs e=>frzs b o xs (I.base.frzs b o xs e),fun b ps e=>?_⟩,?_,fun x c e=>?_,?_,fun x c e=>?_,fun p hp=>?_,hok,I.len⟩
 ·exact keep b o (neL b o e) hb (neC b o e hx) (I.base.keep b o e n hb hx) (I.base.free b o e n hx)
 ·obtain ⟨sl,e1⟩:=I.base.slot b o e n hb hx
  obtain ⟨sl',e2⟩:=slot b _ (neL b o e) hb (neC b o e hx) e1 (I.base.free b o e n hx)
  exact ⟨sl',e2⟩
 ·obtain ⟨o',e1⟩:=I.base.there b o e hx
  exact free b o' (neC b o e hx) e1 (I.base.free b o e n hx)
 ·obtain ⟨o',e1⟩:=I.base.there b o e hx
  exact there b o' (neC b o e hx) e1
 ·obtain ⟨m1,e1⟩:=I.base.tbls b ps e
  obtain ⟨m2,e2⟩:=tbls b _ e1
  exact ⟨m1 ++ m2,by rw [e2,Array.append_assoc]⟩
 ·obtain ⟨m,hn,hl⟩:=I.loc
  refine ⟨m,ns m hn,fun i x v e1 e2 e3=>?_⟩
  obtain ⟨u,r,l⟩:=hl i x v e1 e2 e3
  refine ⟨u,r,?_⟩
  rcases l with l | ⟨k,c,e,z⟩
  ·exact .inl l
  ·exact .inr ⟨k,c,e,cellK x c e _ z⟩
 ·obtain ⟨v,z⟩:=I.cell x c e
  exact ⟨v,cellK x c e v z⟩
 ·obtain ⟨m,⟨o,_,_,ho,_⟩,_⟩:=I.loc
  exact free _ o (fun z=>(hch _ z).2.1 rfl) ho I.free
 ·obtain ⟨v,o,ho,hd⟩:=I.cell x c e
  exact free c o (fun z=>(hch c z).2.2.1 x c e rfl) ho (I.freeC x c e)
 ·obtain ⟨e,n,ne,nf,d⟩:=I.pin p hp
  have nch:p.1 ∉ ch:=fun z=>(hch p.1 z).2.2.2 p hp rfl
  exact ⟨keep p.1 p.2 ne nf nch e n,free p.1 p.2 nch e n,ne,nf,d⟩
theorem Inv.un {t':Nat} (I:Inv X pins σ H s) (u:Un X.fs [] H H' s.heap h') (hok:HOk X.prog X.w H' h'):Inv X pins σ H' { s with heap:=h',toks:=t' }:=by
 obtain ⟨m,⟨o,es,ep,ho,r⟩,_⟩:=id I.loc
 obtain ⟨sl,hL⟩:=u.any ho I.free (by simp)
 exact I.step (g':=s.gens) (d':=s.drawn) (ch:=[]) (fun _ z=>nomatch z) (fun b o _ hb _ e n=>u.keep b o e n hb (by simp)) (fun b o _ hb _ e n=>u.slot b o e n hb (by simp)) (fun b o _ e n=>u.free b o e n (by simp)) (fun b o _ e=>u.there b o e (by simp)) u.tups u.frzs u.tbls (fun m' hm=>by
  obtain ⟨o',es',ep',ho',r'⟩:=hm
  rw [ho] at ho'; cases ho'
  exact ⟨_,es',ep',hL,r'⟩) hok I.bare
theorem Inv.call {g':Array GenState} {t':Nat} {d':Drawn} {ch:List Addr} (I:Inv X pins σ H s) (u:Un (frs X.stack) ch H H' s.heap h') (hok:HOk X.prog X.w H' h') (hg:AllBare g')
  (hch:∀ b ∈ ch,(b ∈ X.ex ∨ X.s₀.heap.objs.size ≤ b)∧b ≠ X.env.locals∧(∀ x c,X.env.cells.lookup x = some c→c ≠ b)∧∀ p ∈ X.pn ++ pins,p.1 ≠ b) :
  Inv X pins σ H' { s with heap:=h',gens:=g',drawn:=d',toks:=t' }:=by
 obtain ⟨m,⟨o,es,ep,ho,r⟩,_⟩:=id I.loc
 obtain ⟨sl,hL⟩:=u.any ho I.free fun z=>(hch _ z).2.1 rfl
 exact I.step (ch:=ch) hch (fun b o hL hb hc e n=>u.keep b o e n (fun z=>(List.mem_cons.mp (I.stkSub b z)).elim hL hb) hc) (fun b o _ _ hc e n=>u.any e n hc) (fun b o hc e n=>u.free b o e n hc) (fun b o hc e=>u.there b o e hc) u.tups u.frzs u.tbls (fun m' hm=>by
  obtain ⟨o',es',ep',ho',r'⟩:=hm
  rw [ho] at ho'; cases ho'
  exact ⟨_,es',ep',hL,r'⟩) hok hg
theorem Inv.turned {t':Nat} {it:Addr} (I:Inv X pins σ H s) (k:∀ b o,b ≠ it→s.heap.get? b = some o→h'.get? b = some o) (hn:H it = none) (hL:it ≠ X.env.locals)
  (h1:it ∈ X.ex ∨ X.s₀.heap.objs.size ≤ it) (h2:∀ x c,X.env.cells.lookup x = some c→c ≠ it) (h3:∀ p ∈ X.pn ++ pins,p.1 ≠ it):Inv X pins σ H { s with heap:=h',toks:=t' }:=by
 have nit:∀ b u,H b = some u→b ≠ it:=fun b u e z=>by rw [z,hn] at e; cases e
 refine I.step (g':=s.gens) (d':=s.drawn) (ch:=[it]) (fun b hb=>?_) (fun b o _ _ hc e _=>k b o (fun z=>hc (by simp [z])) e) (fun b o _ _ hc e _=>⟨o.slots,k b o (fun z=>hc (by simp [z])) e⟩) (fun _ _ _ _ n=>n)
  (fun b o hc e=>⟨o,k b o (fun z=>hc (by simp [z])) e⟩) (fun _ _ e=>e) (fun _ _ _ e=>e) (fun b ps e=>⟨#[],by rw [e]; simp⟩) (fun m hm=>?_) (fun b u e=>?_) I.bare
 ·have e:b = it:=by simpa using hb
  subst e
  exact ⟨h1,hL,h2,h3⟩
 ·obtain ⟨o,es,ep,ho,r⟩:=hm
  exact ⟨o,es,ep,k _ o (Ne.symm hL) ho,r⟩
 ·refine (I.hok b u e).stay (fun c v hc q=>k c v ?_ q) (fun _ q=>q) fun _ _ q=>q
  rcases hc with z | z
  ·rw [z]; exact nit b u e
  ·exact nit c _ z
theorem Inv.tok (I:Inv X pins σ H s) (t:Nat):Inv X pins σ H { s with toks:=t }:=I.un (h':=s.heap) (t':=t) Un.refl I.hok
theorem Inv.kept {t':Nat} (I:Inv X pins σ H s) (k:∀ b u,s.heap.get? b = some u→h'.get? b = some u):Inv X pins σ H { s with heap:=h',toks:=t' }:=I.un (Un.kept k) (I.hok.kept k)
theorem Inv.laid {a:Addr} {o:HO} {t':Nat} (I:Inv X pins σ H s) (k:∀ b u,s.heap.get? b = some u→h'.get? b = some u) (hp:s.heap.objs.size ≤ a) (new:jcy X.prog X.w (upd H a o) h' a o) :
  Inv X pins σ (upd H a o) { s with heap:=h',toks:=t' }:=I.un (Un.laid k hp (I.hok.fresh hp)) (I.hok.laid k hp new)
theorem Inv.write {x e:Addr} {o:HO} {t':Nat} (I:Inv X pins σ H s) (mu:Mut (H x)) (he:e = x ∨ H e = some (.own x)) (k:∀ b u,b ≠ e→s.heap.get? b = some u→h'.get? b = some u) (heo:∃ u,h'.get? e = some u)
  (new:jcy X.prog X.w (upd H x o) h' x o):Inv X pins σ (upd H x o) { s with heap:=h',toks:=t' }:=I.un (Un.write mu he k heo) (I.hok.write mu he k heo new)
theorem Inv.pins_of {pins':List (Addr × Obj)} (I:Inv X pins σ H s) (h:∀ p ∈ pins',s.heap.get? p.1 = some p.2∧H p.1 = none∧p.1 ≠ X.env.locals∧p.1 ∉ X.fs∧∀ v,p.2.data ≠ .cell v):Inv X pins' σ H s :=
 ⟨I.ok,I.os,I.bare,I.base,I.loc,I.cell,I.free,I.freeC,fun p hp=>(List.mem_append.mp hp).elim (fun z=>I.pin p (List.mem_append_left _ z)) (h p),I.hok,I.len⟩
theorem jmq {N:List Str} (hN:N.Nodup) {i j:Nat} {x:Str} (a:N[i]? = some x) (b:N[j]? = some x):i = j:=by
 obtain ⟨h1,e1⟩:=List.getElem?_eq_some_iff.mp a
 obtain ⟨h2,e2⟩:=List.getElem?_eq_some_iff.mp b
 exact (List.getElem_inj hN).mp (e1.trans e2.symm)
theorem jjx {M:Model} {A:Around} {E:Value→Shared→Prop} {i:Nat} {x:Str} {v:V} {u:Value} {Q:Unit→Shared→Prop} (I:Inv X pins σ H s) (hN:X.N.Nodup) (hi:X.N[i]? = some x) (hx:Loc X.env.scope x) (r:RelV v u)
  (h:∀ s',Inv X pins (σ.set i (some v)) H s'→(∃ a,Heap.SameBut a s.heap s'.heap∧(a = X.env.locals ∨ X.env.cells.lookup x = some a))→Q () s') (hf:X.fn x = true ∨ X.env.scope.names.lookup x = some .local:=by first | exact .inl rfl | exact .inr rfl | assumption):wpAny M A (storeName X.env x u) Q E s:=by
 obtain ⟨m,hn,hl⟩:=id I.loc
 have hcls:(X.env.scope.kind == .class || (X.env.scope.kind == .module && X.env.locals != X.env.globals)) = false:=by rw [I.ok.kind]; rfl
 have hiσ:i < σ.length:=by rw [I.len]; exact (List.getElem?_eq_some_iff.mp hi).1
 have cne:=I.cne
 have tracked:∀ {a:Addr} {h':Heap},(∃ o,s.heap.get? a = some o∧H a = none)→Heap.SameBut a s.heap h'→HOk X.prog X.w H h':=fun {a h'} ha hs b ob e=>by
  obtain ⟨_,_,hfree⟩:=ha
  refine (I.hok b ob e).stay (fun c w' hc q=>(hs.2 c ?_).trans q) (fun _ q=>q) fun _ _ q=>q
  rintro rfl
  rcases hc with rfl | hc
  ·rw [hfree] at e; cases e
  ·rw [hfree] at hc; cases hc
 rcases hx with hk | hk
 ·refine wpAny_storeName_local hk hn (fun h' hn' hs=>?_) hcls
  obtain ⟨oL,_,_,hoL,_⟩:=id hn
  refine h _ ⟨I.ok,I.os,I.bare,⟨fun b o e n hb hx=>?_,fun b o e n hb hx=>?_,I.base.free,fun b o e hx=>?_,I.base.tups,I.base.frzs,I.base.tbls⟩,⟨_,hn',fun j y v' e1 e2 e3=>?_⟩,fun y c e=>?_,I.free,I.freeC,fun p hp=>?_,tracked ⟨oL,hoL,I.free⟩ hs,by simpa using I.len⟩ ⟨_,hs,.inl rfl⟩
  ·exact (hs.2 b (Nat.ne_of_lt (Nat.lt_of_lt_of_le (Heap.lt_size e) I.ok.above))).trans (I.base.keep b o e n hb hx)
  ·obtain ⟨sl,e1⟩:=I.base.slot b o e n hb hx
   exact ⟨sl,(hs.2 b (Nat.ne_of_lt (Nat.lt_of_lt_of_le (Heap.lt_size e) I.ok.above))).trans e1⟩
  ·obtain ⟨o',e1⟩:=I.base.there b o e hx
   exact ⟨o',(hs.2 b (Nat.ne_of_lt (Nat.lt_of_lt_of_le (Heap.lt_size e) I.ok.above))).trans e1⟩
  ·by_cases hj:j = i
   ·subst hj
    rw [hi] at e1; cases e1
    rw [List.getElem?_set_self hiσ] at e2
    cases e2
    exact ⟨u,r,.inl ⟨hk,by simp⟩⟩
   ·rw [List.getElem?_set_ne (Ne.symm hj)] at e2
    obtain ⟨u',r',q⟩:=hl j y v' e1 e2 e3
    refine ⟨u',r',?_⟩
    rcases q with ⟨k,e⟩ | ⟨k,c,e,z⟩
    ·refine .inl ⟨k,?_⟩
     have:y ≠ x:=fun e=>hj (jmq hN e1 (e ▸ hi))
     simp [this,e]
    ·exact .inr ⟨k,c,e,z.sameBut hs (cne y c e)⟩
  ·obtain ⟨w',z⟩:=I.cell y c e
   exact ⟨w',z.sameBut hs (cne y c e)⟩
  ·obtain ⟨e,n,ne,nf,d⟩:=I.pin p hp
   exact ⟨(hs.2 p.1 ne).trans e,n,ne,nf,d⟩
 ·have hfn:X.fn x = true:=by
   rcases hf with z | z
   ·exact z
   ·rw [z] at hk; cases hk
  obtain ⟨c,hc⟩:=I.ok.has x (.inl hk)
  obtain ⟨w',z⟩:=I.cell x c hc
  refine wpAny_storeName_cell I.ok.kind hk hc z (fun h' hc' hs=>?_)
  obtain ⟨oc,hoc,hocd⟩:=id z
  refine h { s with heap:=h' } ⟨I.ok,I.os,I.bare,⟨fun b o e n hb hx=>?_,fun b o e n hb hx=>?_,I.base.free,fun b o e hx=>?_,I.base.tups,I.base.frzs,I.base.tbls⟩,⟨m,hn.sameBut hs (Ne.symm (cne x c hc)),fun j y v' e1 e2 e3=>?_⟩,fun y c' e=>?_,I.free,I.freeC,fun p hp=>?_,tracked ⟨oc,hoc,I.freeC x c hc⟩ hs,by simpa using I.len⟩ ⟨c,hs,.inr hc⟩
  ·exact (hs.2 b (Nat.ne_of_lt (Nat.lt_of_lt_of_le (Heap.lt_size e) (I.ok.cab x c hfn hc)))).trans (I.base.keep b o e n hb hx)
  ·obtain ⟨sl,e1⟩:=I.base.slot b o e n hb hx
   exact ⟨sl,(hs.2 b (Nat.ne_of_lt (Nat.lt_of_lt_of_le (Heap.lt_size e) (I.ok.cab x c hfn hc)))).trans e1⟩
  ·obtain ⟨o',e1⟩:=I.base.there b o e hx
   exact ⟨o',(hs.2 b (Nat.ne_of_lt (Nat.lt_of_lt_of_le (Heap.lt_size e) (I.ok.cab x c hfn hc)))).trans e1⟩
  ·by_cases hj:j = i
   ·subst hj
    rw [hi] at e1; cases e1
    rw [List.getElem?_set_self hiσ] at e2
    cases e2
    exact ⟨u,r,.inr ⟨.inl hk,c,hc,hc'⟩⟩
   ·rw [List.getElem?_set_ne (Ne.symm hj)] at e2
    obtain ⟨u',r',q⟩:=hl j y v' e1 e2 e3
    refine ⟨u',r',?_⟩
    rcases q with q | ⟨k,c',e,z'⟩
    ·exact .inl q
    ·refine .inr ⟨k,c',e,z'.sameBut hs ?_⟩
     rintro rfl
     exact hj (jmq hN e1 (I.ok.inj _ _ _ e hc ▸ hi))
  ·by_cases hcc:c' = c
   ·subst hcc; exact ⟨_,hc'⟩
   ·obtain ⟨w2,z2⟩:=I.cell y c' e
    exact ⟨w2,z2.sameBut hs hcc⟩
  ·obtain ⟨e,n,ne,nf,d⟩:=I.pin p hp
   refine ⟨(hs.2 p.1 ?_).trans e,n,ne,nf,d⟩
   intro q
   rw [q,hoc] at e
   have q':oc = p.2:=Option.some.inj e
   exact d w' (by rw [← q']; exact hocd)
theorem jia {M:Model} {A:Around} {E:Value→Shared→Prop} {i:Nat} {x:Str} {v:V} {u:Value} {Q:Unit→Shared→Prop} (I:Inv X pins σ H s) (hN:X.N.Nodup) (hi:X.N[i]? = some x) (hx:Loc X.env.scope x) (r:RelV v u)
  (h:∀ s',Inv X pins (σ.set i (some v)) H s'→Q () s') (hf:X.fn x = true ∨ X.env.scope.names.lookup x = some .local:=by first | exact .inl rfl | exact .inr rfl | assumption):wpAny M A (storeName X.env x u) Q E s :=
 jjx I hN hi hx r (fun s' I' _=>h s' I') hf
theorem Inv.call' {s':Shared} {ch:List Addr} (I:Inv X pins σ H s) (ho:s'.os = s.os) (u:Un (frs X.stack) ch H H' s.heap s'.heap) (hok:HOk X.prog X.w H' s'.heap) (hg:AllBare s'.gens)
  (hch:∀ b ∈ ch,(b ∈ X.ex ∨ X.s₀.heap.objs.size ≤ b)∧b ≠ X.env.locals∧(∀ x c,X.env.cells.lookup x = some c→c ≠ b)∧∀ p ∈ X.pn ++ pins,p.1 ≠ b):Inv X pins σ H' s':=by
 obtain ⟨h',g',d',t',o'⟩:=s'
 have e:o' = s.os:=ho
 subst e
 exact I.call (g':=g') (t':=t') (d':=d') u hok hg hch
end
abbrev XK:=Value→Option Addr→Hp→Prop
abbrev St:=List (Option V)
abbrev VK:=V→Hp→Prop
abbrev TE:=St→Hp→VK→Prop
abbrev TT:=St→Hp→(Bool→Hp→Prop)→Prop
abbrev TA:=St→Hp→(List V→Hp→Prop)→Prop
structure Ends where
 nx:St→Hp→Prop
 rt:VK
 bk:St→Hp→Prop:=fun _ _=>False
 ct:St→Hp→Prop:=fun _ _=>False
abbrev TS:=Ends→St→Hp→Prop
def EP (X:Cx) (pins:List (Addr × Obj)) (σ:St) (Q:VK) (u:Value) (s':Shared):Prop:=∃ v H',Inv X pins σ H' s'∧RelV v u∧Q v H'
def TP (X:Cx) (pins:List (Addr × Obj)) (σ:St) (Q:Bool→Hp→Prop) (b:Bool) (s':Shared):Prop:=∃ H',Inv X pins σ H' s'∧Q b H'
def AP (X:Cx) (pins:List (Addr × Obj)) (σ:St) (Q:List V→Hp→Prop) (us:List Value) (s':Shared):Prop:=∃ vs H',Inv X pins σ H' s'∧Vals vs us∧Q vs H'
def SP (X:Cx) (pins:List (Addr × Obj)) (D:Ends) (f:Flow) (s':Shared):Prop :=
 match f with
 | .next=>∃ σ' H',Inv X pins σ' H' s'∧D.nx σ' H'
 | .brk=>∃ σ' H',Inv X pins σ' H' s'∧D.bk σ' H'
 | .cont=>∃ σ' H',Inv X pins σ' H' s'∧D.ct σ' H'
 | .ret u=>∃ v σ' H',Inv X pins σ' H' s'∧RelV v u∧D.rt v H'
def PE (X:Cx) (e:Expr) (t:TE):Prop :=
 ∀ (pins:List (Addr × Obj)) (s:Shared) (σ:St) (H:Hp) (Q:VK),Inv X pins σ H s→t σ H Q→wpAny (model X.prog X.w) X.A (eval e X.env) (EP X pins σ Q) X.xe s
def PT (X:Cx) (e:Expr) (t:TT):Prop :=
 ∀ (pins:List (Addr × Obj)) (s:Shared) (σ:St) (H:Hp) (Q:Bool→Hp→Prop),Inv X pins σ H s→t σ H Q→wpAny (model X.prog X.w) X.A (isTrue e X.env (eval e X.env)) (TP X pins σ Q) X.xe s
def PW (X:Cx) (e:Expr) (t:TT):Prop :=
 ∀ (whole:Sem Value) (pins:List (Addr × Obj)) (s:Shared) (σ:St) (H:Hp) (Q:Bool→Hp→Prop),Inv X pins σ H s→t σ H Q→wpAny (model X.prog X.w) X.A (isTrue e X.env whole) (TP X pins σ Q) X.xe s
theorem PW.pt {X:Cx} {e:Expr} {t:TT} (h:PW X e t):PT X e t:=h _
def PA (X:Cx) (es:List Expr) (t:TA):Prop :=
 ∀ (pos:Pos) (pins:List (Addr × Obj)) (s:Shared) (σ:St) (H:Hp) (Q:List V→Hp→Prop),Inv X pins σ H s→t σ H Q→wpAny (model X.prog X.w) X.A (spliced (backTo pos (starEach es X.env))) (AP X pins σ Q) X.xe s
def PS (X:Cx) (st:Stmt) (t:TS):Prop :=
 ∀ (pins:List (Addr × Obj)) (s:Shared) (σ:St) (H:Hp) (D:Ends),Inv X pins σ H s→t D σ H→wpAny (model X.prog X.w) X.A (exec st X.env) (SP X pins D) X.xe s
def PSs (X:Cx) (st:List Stmt) (t:TS):Prop :=
 ∀ (pins:List (Addr × Obj)) (s:Shared) (σ:St) (H:Hp) (D:Ends),Inv X pins σ H s→t D σ H→wpAny (model X.prog X.w) X.A (execs st X.env) (SP X pins D) X.xe s
theorem thn {α:Type} {t:Sem α} {Q Q':α→Shared→Prop} {M:Model} {A:Around} {E:Value→Shared→Prop} {s:Shared} (h:wpAny M A t Q E s) (hQ:∀ a s,Q a s→Q' a s):wpAny M A t Q' E s:=wpAny_mono h hQ fun _ _ x=>x
end L2
namespace L2
open PySem PySem.Spec PyProof.Rows
section
variable {X:Cx}
def tVar (i:Nat):TE:=fun σ H Q=>∃ v,σ[i]? = some (some v)∧Q v H
def tC (v:V):TE:=fun _ H Q=>Q v H
theorem jt3 {i:Nat} {x:Str} {pos:Pos} (hN:X.N[i]? = some x) (hv:Vis X.env.scope x) (hd:(x == ("__debug__":Str)) = false:=by decide) (hcd:(x == ("__classdict__":Str)) = false:=by decide):PE X (.Name x pos) (tVar i):=by
 intro pins s σ H Q I h
 obtain ⟨v,e,h⟩:=h
 obtain ⟨m,hn,hl⟩:=I.loc
 obtain ⟨u,r,l⟩:=hl i x v hN e hv
 have fin:EP X pins σ Q u s:=⟨v,H,I,r,h⟩
 rcases l with ⟨hk,hm⟩ | ⟨hk,c,hc,hcell⟩
 ·exact wpAny_Name (wpAny_loadName_local I.ok.kind hk hn hm fin) hd
 ·rcases hk with hk | hk
  ·exact wpAny_Name (wpAny_loadName_cell I.ok.kind hk hc hcell fin) hd
  ·exact wpAny_Name (wpAny_loadName_free I.ok.kind hk hc hcell fin hcd) hd
theorem jah {i j pos}:PE X (.Constant (.int i) j pos) (tC (.int i)):=fun _ _ _ H _ I h=>wpAny_Constant_int ⟨.int i,H,I.tok _,⟨_,rfl⟩,h⟩
theorem jef {b j pos}:PE X (.Constant (.bool b) j pos) (tC (.bl b)):=fun _ _ _ H _ I h=>Constant_bool ⟨.bl b,H,I,rfl,h⟩
theorem jt4 {j pos}:PE X (.Constant .none j pos) (tC .non):=fun _ _ _ H _ I h=>Constant_none ⟨.non,H,I,rfl,h⟩
def Gl (X:Cx) (x:Str):Prop:=X.env.kindOf x = some .globalImplicit
theorem jlm {E:Value→Shared→Prop} {pins:List (Addr × Obj)} {s:Shared} {σ:St} {H:Hp} {x:Str} {u:Value} {pos:Pos} {Q:Value→Shared→Prop} (I:Inv X pins σ H s) (hg:Gl X x) (hm:X.mg x = some u) (h:Q u s)
  (hd:(x == ("__debug__":Str)) = false:=by decide):wpAny (model X.prog X.w) X.A (eval (.Name x pos) X.env) Q E s :=
 Calls.Name_function_global I.ok.kind hg (Calls.loadGlobal_global (by rw [I.ok.glob]; exact I.mod.glob.keeps I.bk) hm h) hd
theorem jfr {E:Value→Shared→Prop} {pins:List (Addr × Obj)} {s:Shared} {σ:St} {H:Hp} {x:Str} {u:Value} {pos:Pos} {Q:Value→Shared→Prop} (I:Inv X pins σ H s) (hg:Gl X x) (hm:X.mg x = none) (hv:bootBuiltins x = some u) (h:Q u s)
  (hn:x ≠ "__name__":=by decide) (hd:(x == ("__debug__":Str)) = false:=by decide):wpAny (model X.prog X.w) X.A (eval (.Name x pos) X.env) Q E s:=by
 obtain ⟨mb,h1,h2⟩:=I.mod.blt
 exact Calls.Name_function_global I.ok.kind hg (Calls.loadGlobal_builtin (by rw [I.ok.glob]; exact I.mod.glob.keeps I.bk) hm (by rw [I.ok.blt]; exact h1.keeps I.bk) ((h2 x hn).trans hv) h) hd
theorem jd0 {x:Str} {v:V} {u:Value} {pos:Pos} (hg:Gl X x) (hm:X.mg x = some u) (r:RelV v u) (hd:(x == ("__debug__":Str)) = false:=by decide):PE X (.Name x pos) (tC v) :=
 fun _ _ _ H _ I h=>jlm I hg hm ⟨v,H,I,r,h⟩ hd
theorem jdy {x:Str} {v:V} {u:Value} {pos:Pos} (hg:Gl X x) (hm:X.mg x = none) (hv:bootBuiltins x = some u) (r:RelV v u) (hn:x ≠ "__name__":=by decide) (hd:(x == ("__debug__":Str)) = false:=by decide):PE X (.Name x pos) (tC v) :=
 fun _ _ _ H _ I h=>jfr I hg hm hv ⟨v,H,I,r,h⟩ hn hd
variable {a b:Expr} {ta tb:TE} {pos:Pos}
def PC (X:Cx) (op:CmpOp) (a b:Expr) (t:TE):Prop :=
 ∀ (pins:List (Addr × Obj)) (s:Shared) (σ:St) (H:Hp) (Q:VK),Inv X pins σ H s→t σ H Q →
  wpAny (model X.prog X.w) X.A (eval a X.env) (fun v s₁=>wpAny (model X.prog X.w) X.A (eval b X.env) (fun u s₂=>wpAny (model X.prog X.w) X.A (compareOp op v u) (EP X pins σ Q) X.xe s₂) X.xe s₁) X.xe s
theorem jiv (b:Expr) {op:CmpOp} (h:op ≠ .In) (h2:op ≠ .NotIn):behindInMarks op b = false:=by
 have e1:(op == CmpOp.In) = false:=by cases op <;> first | rfl | exact absurd rfl h
 have e2:(op == CmpOp.NotIn) = false:=by cases op <;> first | rfl | exact absurd rfl h2
 cases b <;> simp [behindInMarks,e1,e2]
def tB (t:TE):TT:=fun σ H Q=>t σ H fun x H1=>∃ c,x = .bl c∧Q c H1
theorem jt5 {op:CmpOp} {t:TE} (h:PC X op a b t) (h1:behindInMarks op b = false:=by first | exact jiv _ (by decide) (by decide) | rfl):PE X (.Compare a [op] [b] pos) t:=fun pins s σ H Q I hw=>wpAny_Compare1 (h pins s σ H Q I hw) h1
theorem pt_cmp {op:CmpOp} {t:TE} (h:PC X op a b t) (h1:behindInMarks op b = false:=by first | exact jiv _ (by decide) (by decide) | rfl):PT X (.Compare a [op] [b] pos) (tB t):=by
 intro pins s σ H Q I hw
 refine wpAny_isTrue_Compare1 (thn (h pins s σ H _ I hw) fun v s1 h1=>thn h1 fun u s2 h2=>thn h2 fun c s3 ⟨x,H1,I1,r1,q1⟩=>?_) h1
 obtain ⟨d,rfl,q⟩:=q1
 cases r1
 exact wpAny_truthy_bool ⟨H1,I1,q⟩
variable {tA tB':TT} {rest:List Expr}
def tAnd (t u:TT):TT:=fun σ H Q=>t σ H fun c H1=>if c = true then u σ H1 Q else Q false H1
def tOr (t u:TT):TT:=fun σ H Q=>t σ H fun c H1=>if c = true then Q true H1 else u σ H1 Q
def tNot (t:TT):TT:=fun σ H Q=>t σ H fun c H1=>Q (!c) H1
theorem jtx (ha:PT X a tA):PW X (.BoolOp .And [a] pos) tA:=by
 intro wh pins s σ H Q I h
 refine isTrue_and (thn (ha pins s σ H Q I h) fun c s1 e=>?_)
 cases c with
 | true=>exact isTrue_and_nil e
 | false=>exact e
theorem jgl (ha:PT X a tA):PW X (.BoolOp .Or [a] pos) tA:=by
 intro wh pins s σ H Q I h
 refine isTrue_or (thn (ha pins s σ H Q I h) fun c s1 e=>?_)
 cases c with
 | false=>exact isTrue_or_nil e
 | true=>exact e
theorem pw_and (ha:PT X a tA) (hb:PW X (.BoolOp .And (b :: rest) pos) tB'):PW X (.BoolOp .And (a :: b :: rest) pos) (tAnd tA tB'):=by
 intro wh pins s σ H Q I h
 refine isTrue_and (thn (ha pins s σ H _ I h) fun c s1 ⟨H1,I1,q1⟩=>?_)
 cases c with
 | true=>exact hb wh pins s1 σ H1 Q I1 q1
 | false=>exact ⟨H1,I1,q1⟩
theorem jhd (ha:PT X a tA) (hb:PW X (.BoolOp .Or (b :: rest) pos) tB'):PW X (.BoolOp .Or (a :: b :: rest) pos) (tOr tA tB'):=by
 intro wh pins s σ H Q I h
 refine isTrue_or (thn (ha pins s σ H _ I h) fun c s1 ⟨H1,I1,q1⟩=>?_)
 cases c with
 | true=>exact ⟨H1,I1,q1⟩
 | false=>exact hb wh pins s1 σ H1 Q I1 q1
theorem jd3 (ha:PT X a tA):PT X (.UnaryOp .Not a pos) (tNot tA):=by
 intro pins s σ H Q I h
 exact isTrue_not (ha pins s σ H (fun c H1=>Q (!c) H1) I h)
theorem jev {op} {t:TE} (h:PE X a t):PE X (.BoolOp op [a] pos) t:=fun pins s σ H Q I hw=>BoolOp_one (h pins s σ H Q I hw)
def tIf (t:TT) (ta tb:TE):TE:=fun σ H Q=>t σ H fun c H1=>if c = true then ta σ H1 Q else tb σ H1 Q
theorem jmn {c:Expr} (hc:PT X c tA) (ha:PE X a ta) (hb:PE X b tb):PE X (.IfExp c a b pos) (tIf tA ta tb):=by
 intro pins s σ H Q I h
 refine wpAny_IfExp (thn (hc pins s σ H _ I h) fun d s1 ⟨H1,I1,q1⟩=>?_)
 cases d with
 | true=>exact ha pins s1 σ H1 Q I1 q1
 | false=>exact hb pins s1 σ H1 Q I1 q1
end
end L2
namespace L2
open PySem PySem.Spec PyProof.Rows
def SqL (K:PySem.W.Frag) (H:Hp) (a:Addr) (xs:List V):Prop :=
 Rd H a (.lst xs) ∨
  ∃ (o:Obj) (its:Array Value) (n:Nat),K.lookup a = some o∧o.cls = .type "list"∧o.dict = none∧o.data = .seq its n∧its.size ≤ sizeLine∧Vals xs its.toList
def SqT (K:PySem.W.Frag) (H:Hp) (a:Addr) (xs:List V):Prop :=
 Rd H a (.tup xs) ∨
  ∃ (o:Obj) (its:Array Value) (n:Nat),K.lookup a = some o∧o.cls = .type "tuple"∧o.data = .seq its n∧its.size ≤ sizeLine∧Vals xs its.toList
def absV:Value→Option V
 | .none=>some .non
 | .bool b=>some (.bl b)
 | .int i _=>some (.int i)
 | .str x _=>some (.str x)
 | .bytes b _=>some (.byt b)
 | .float b _=>some (.flt b)
 | .ref a=>some (.ref a)
 | .type n=>some (.ty n)
 | _=>none
theorem RelV.abs {x:V} {u:Value} (r:RelV x u):absV u = some x:=by
 cases x with
 | non=>cases r; rfl
 | bl _=>cases r; rfl
 | int _=>obtain ⟨t,rfl⟩:=r; rfl
 | str _=>obtain ⟨t,rfl⟩:=r; rfl
 | byt _=>obtain ⟨t,rfl⟩:=r; rfl
 | flt _=>obtain ⟨t,rfl⟩:=r; rfl
 | ref _=>cases r; rfl
 | ty _=>cases r; rfl
theorem RelV.inj {x y:V} {u:Value} (r:RelV x u) (q:RelV y u):x = y:=Option.some.inj (r.abs.symm.trans q.abs)
theorem Vals.inj:∀ {xs ys:List V} {us:List Value},Vals xs us→Vals ys us→xs = ys
 | _,_,_,.nil,.nil=>rfl
 | _,_,_,.cons r t,.cons r' t'=>by rw [r.inj r',Vals.inj t t']
section
variable {X:Cx} {pins:List (Addr × Obj)} {σ:St} {H:Hp} {s:Shared} {a:Addr} {xs ys:List V}
theorem SqL.of {K:PySem.W.Frag} (h:H a = some (.lst xs)):SqL K H a xs:=.inl (.inl h)
theorem SqT.of {K:PySem.W.Frag} (h:H a = some (.tup xs)):SqT K H a xs:=.inl (.inl h)
theorem Inv.list (I:Inv X pins σ H s) (h:SqL X.K H a xs):∃ its:List Value,Vals xs its∧PlainL s.heap a its.toArray∧xs.length ≤ sizeLine:=by
 rcases h with h | ⟨o,its,n,hk,hc,hd,hs,hz,r⟩
 ·obtain ⟨z,its,n,r,e⟩:=h.ok I.hok
  exact ⟨its,r,⟨_,n,e,rfl,rfl,rfl⟩,z⟩
 ·refine ⟨its.toList,r,⟨o,n,I.kIn a o hk,hc,hd,by simpa using hs⟩,?_⟩
  have e:=r.length
  simp only [Array.length_toList] at e
  omega
theorem Inv.tuple (I:Inv X pins σ H s) (h:SqT X.K H a xs):∃ its:List Value,Vals xs its∧IsTup s.heap a its.toArray∧xs.length ≤ sizeLine:=by
 rcases h with h | ⟨o,its,n,hk,hc,hs,hz,r⟩
 ·obtain ⟨z,its,r,p⟩:=h.ok I.hok
  exact ⟨its,r,p,z⟩
 ·refine ⟨its.toList,r,⟨o,I.kIn a o hk,hc,n,by simpa using hs⟩,?_⟩
  have e:=r.length
  simp only [Array.length_toList] at e
  omega
theorem Inv.list_inj (I:Inv X pins σ H s) (h:SqL X.K H a xs) (h':SqL X.K H a ys):xs = ys:=by
 obtain ⟨its,r,⟨o,n,e,_,_,d⟩,_⟩:=I.list h
 obtain ⟨its',r',⟨o',n',e',_,_,d'⟩,_⟩:=I.list h'
 rw [e] at e'; cases e'
 rw [d] at d'
 injection d' with d1 _
 have:its = its':=by simpa using congrArg Array.toList d1
 subst this
 exact r.inj r'
theorem Inv.tuple_inj (I:Inv X pins σ H s) (h:SqT X.K H a xs) (h':SqT X.K H a ys):xs = ys:=by
 obtain ⟨its,r,⟨o,e,_,n,d⟩,_⟩:=I.tuple h
 obtain ⟨its',r',⟨o',e',_,n',d'⟩,_⟩:=I.tuple h'
 rw [e] at e'; cases e'
 rw [d] at d'
 injection d' with d1 _
 have:its = its':=by simpa using congrArg Array.toList d1
 subst this
 exact r.inj r'
end
abbrev Cx.wish (X:Cx) (E:Value→Shared→Prop):Cx:={ X with xe:=E }
abbrev Cx.nox (X:Cx):Cx:=X.wish fun _ _=>False
theorem Cx.Ok.wish {X:Cx} (ok:X.Ok) (E:Value→Shared→Prop):(X.wish E).Ok :=
 ⟨ok.mod,ok.kind,ok.glob,ok.blt,ok.above,ok.inj,ok.has,ok.cab,ok.hd,ok.frames,ok.stk,ok.exf,ok.bs,ok.bsz,ok.noex,ok.exfs,ok.funs,ok.frf⟩
theorem Cx.Ok.unwish {X:Cx} {E:Value→Shared→Prop} (ok:(X.wish E).Ok):X.Ok :=
 ⟨ok.mod,ok.kind,ok.glob,ok.blt,ok.above,ok.inj,ok.has,ok.cab,ok.hd,ok.frames,ok.stk,ok.exf,ok.bs,ok.bsz,ok.noex,ok.exfs,ok.funs,ok.frf⟩
section
variable {X:Cx} {pins:List (Addr × Obj)} {σ:St} {H:Hp} {s:Shared} {E:Value→Shared→Prop}
theorem Inv.wish (I:Inv X pins σ H s) (E:Value→Shared→Prop):Inv (X.wish E) pins σ H s:=⟨I.ok.wish E,I.os,I.bare,I.base,I.loc,I.cell,I.free,I.freeC,I.pin,I.hok,I.len⟩
theorem Inv.unwish (I:Inv (X.wish E) pins σ H s):Inv X pins σ H s:=⟨I.ok.unwish,I.os,I.bare,I.base,I.loc,I.cell,I.free,I.freeC,I.pin,I.hok,I.len⟩
theorem SP.unwish {D:Ends} {f:Flow} {s':Shared} (h:SP (X.wish E) pins D f s'):SP X pins D f s':=by
 cases f with
 | next=>obtain ⟨σ',H',I,q⟩:=h; exact ⟨σ',H',I.unwish,q⟩
 | brk=>obtain ⟨σ',H',I,q⟩:=h; exact ⟨σ',H',I.unwish,q⟩
 | cont=>obtain ⟨σ',H',I,q⟩:=h; exact ⟨σ',H',I.unwish,q⟩
 | ret u=>obtain ⟨v,σ',H',I,r,q⟩:=h; exact ⟨v,σ',H',I.unwish,r,q⟩
theorem PSs.nox {st:List Stmt} {t:TS} (h:PSs X.nox st t):PSs X st t:=fun pins s σ H D I hw =>
 wpAny_mono (h pins s σ H D (I.wish _) hw) (fun _ _ q=>q.unwish) fun _ _ z=>False.elim z
end
section
variable {X:Cx} {st:Stmt} {rest:List Stmt} {t u:TS} {e:Expr} {te:TE} {pos:Pos}
def jat:TS:=fun D σ H=>D.nx σ H
def tSeq (t u:TS):TS:=fun D σ H=>t { D with nx:=u D } σ H
theorem jc2:PSs X [] jat:=fun _ _ σ H _ I h=>wpAny_execs_nil ⟨σ,H,I,h⟩
theorem jaf (h1:PS X st t) (h2:PSs X rest u):PSs X (st :: rest) (tSeq t u):=by
 intro pins s σ H D I h
 refine wpAny_execs_cons (thn (h1 pins s σ H { D with nx:=u D } I h) fun f s1 q=>?_)
 cases f with
 | next =>
  obtain ⟨σ',H',I',q⟩:=q
  exact h2 pins s1 σ' H' D I' q
 | ret v=>exact q
 | brk=>exact q
 | cont=>exact q
theorem jb8 (h1:PS X st t):PSs X [st] t:=by
 intro pins s σ H D I h
 refine wpAny_execs_cons (thn (h1 pins s σ H D I h) fun f s1 q=>?_)
 cases f with
 | next=>exact wpAny_execs_nil q
 | ret v=>exact q
 | brk=>exact q
 | cont=>exact q
theorem Inv.quiet {pins:List (Addr × Obj)} {σ:St} {H:Hp} {s:Shared} (I:Inv X pins σ H s):interactive X.env = false:=by simp [interactive,I.ok.kind]
def jau (te:TE):TS:=fun D σ H=>te σ H fun _ H1=>D.nx σ H1
theorem jcb (he:PE X e te) (hs:swapsWith e none pos.line X.env = pure false:=by rfl):PS X (.Expr e pos) (jau te):=by
 intro pins s σ H D I h
 exact wpAny_Expr_any (thn (he pins s σ H _ I h) fun v s1 ⟨x,H1,I1,r1,q1⟩=>⟨σ,H1,I1,q1⟩) I.quiet hs
def tRet (te:TE):TS:=fun D σ H=>te σ H D.rt
theorem jbq (he:PE X e te):PS X (.Return (some e) pos) (tRet te):=by
 intro pins s σ H D I h
 exact wpAny_Return_some (thn (he pins s σ H _ I h) fun v s1 ⟨x,H1,I1,r1,q1⟩=>⟨x,σ,H1,I1,r1,q1⟩)
def jaz:TS:=fun D _ H=>D.rt .non H
def tIfS (c:TT) (t u:TS):TS:=fun D σ H=>c σ H fun b H1=>if b = true then t D σ H1 else u D σ H1
theorem jdc {c:Expr} {a b:List Stmt} {tc:TT} (hc:PT X c tc) (ha:PSs X a t) (hb:PSs X b u):PS X (.If c a b pos) (tIfS tc t u):=by
 intro pins s σ H D I h
 refine wpAny_If (thn (hc pins s σ H _ I h) fun d s1 ⟨H1,I1,q1⟩=>?_)
 cases d with
 | true=>exact ha pins s1 σ H1 D I1 q1
 | false=>exact hb pins s1 σ H1 D I1 q1
def tNever:TS:=fun _ _ _=>False
theorem jet:PS X st tNever:=fun _ _ _ _ _ _ h=>h.elim
end
abbrev TG:=V→St→Hp→(St→Hp→Prop)→Prop
abbrev TGs:=List V→St→Hp→(St→Hp→Prop)→Prop
def PG (X:Cx) (target:Expr) (t:TG):Prop :=
 ∀ (pins:List (Addr × Obj)) (s:Shared) (σ:St) (H:Hp) (v:V) (u:Value) (Q:St→Hp→Prop),Inv X pins σ H s→RelV v u→t v σ H Q →
  wpAny (model X.prog X.w) X.A (assign target X.env u) (fun _ s'=>∃ σ' H',Inv X pins σ' H' s'∧Q σ' H') X.xe s
def PGs (X:Cx) (ts:List Expr) (t:TGs):Prop :=
 ∀ (pins:List (Addr × Obj)) (s:Shared) (σ:St) (H:Hp) (vs:List V) (us:List Value) (Q:St→Hp→Prop),Inv X pins σ H s→Vals vs us→t vs σ H Q →
  wpAny (model X.prog X.w) X.A (assignInOrder ((assignEach ts X.env).map (·.2)) us) (fun _ s'=>∃ σ' H',Inv X pins σ' H' s'∧Q σ' H') X.xe s
abbrev TSet:=V→V→V→Hp→(Hp→Prop)→Prop
def PSet (X:Cx) (t:TSet):Prop :=
 ∀ (pins:List (Addr × Obj)) (s:Shared) (σ:St) (H:Hp) (o i v:V) (ov iv u:Value) (Q:Hp→Prop),Inv X pins σ H s→RelV o ov→RelV i iv→RelV v u→t o i v H Q →
  wpAny (model X.prog X.w) X.A (setItem ov iv u) (fun _ s'=>∃ H',Inv X pins σ H' s'∧Q H') X.xe s
abbrev TIp:=V→V→Hp→VK→Prop
def PIp (X:Cx) (op:Operator) (t:TIp):Prop :=
 ∀ (pins:List (Addr × Obj)) (s:Shared) (σ:St) (H:Hp) (x y:V) (v u:Value) (Q:VK),Inv X pins σ H s→RelV x v→RelV y u→t x y H Q →
  wpAny (model X.prog X.w) X.A (inplaceOp op v u) (EP X pins σ Q) X.xe s
section
variable {X:Cx} {pos:Pos}
def jal (i:Nat):TG:=fun v σ H Q=>Q (σ.set i (some v)) H
theorem jbb {i:Nat} {x:Str} (hN:X.N.Nodup) (hi:X.N[i]? = some x) (hx:Loc X.env.scope x) (hf:X.fn x = true ∨ X.env.scope.names.lookup x = some .local:=by first | exact .inl rfl | exact .inr rfl | assumption):PG X (.Name x pos) (jal i):=by
 intro pins s σ H v u Q I r h
 exact wpAny_assign_Name (jia I hN hi hx r (fun s' I'=>⟨_,H,I',h⟩) hf)
def gNil:TGs:=fun vs σ H Q=>vs = []∧Q σ H
def gCons (t:TG) (u:TGs):TGs:=fun vs σ H Q=>∃ v r,vs = v :: r∧t v σ H fun σ' H'=>u r σ' H' Q
theorem ju1:PGs X [] gNil:=by
 intro pins s σ H vs us Q I r h
 obtain ⟨e,h⟩:=h
 subst e
 cases r
 exact assignInOrder_nil ⟨σ,H,I,h⟩
theorem jrq {e:Expr} {es:List Expr} {t:TG} {u:TGs} (h1:PG X e t) (h2:PGs X es u)
  (hs:(assignEach (e :: es) X.env).map (·.2) = assign e X.env :: (assignEach es X.env).map (·.2):=by rfl):PGs X (e :: es) (gCons t u):=by
 intro pins s σ H vs us Q I r h
 obtain ⟨v,vr,e1,h⟩:=h
 subst e1
 cases r with
 | cons r rr =>
  rw [hs]
  refine assignInOrder_cons (thn (h1 pins s σ H _ _ _ I r h) fun _ s1 ⟨σ1,H1,I1,q1⟩=>?_)
  exact h2 pins s1 σ1 H1 _ _ Q I1 rr q1
def gTup (K:PySem.W.Frag) (n:Nat) (t:TGs):TG:=fun v σ H Q=>∃ a xs,v = .ref a∧SqT K H a xs∧xs.length = n∧t xs σ H Q
theorem pg_tup {es:List Expr} {k:Nat} {t:TGs} {n:Nat} (hc:X.calm = true) (h:PGs X es t)
  (hn:(assignEach es X.env).length = n:=by rfl) (hst:(assignEach es X.env).findIdx? (·.1) = none:=by rfl):PG X (.Tuple es k pos) (gTup X.K n t):=by
 intro pins s σ H v u Q I r hw
 obtain ⟨a,xs,e1,hq,hl,hw⟩:=hw
 subst e1
 cases r
 obtain ⟨its,rv,ht,hz⟩:=I.tuple hq
 refine assign_Tuple_tuple (I.ok.hd hc) ht (by simp [hn,← hl,rv.length]) hst fun h' hx=>?_
 have I1:Inv X pins σ H { s with heap:=h' }:=I.kept (t':=s.toks) fun b o e=>hx b o (Nat.ne_of_lt (Heap.lt_size e)) e
 exact h pins _ σ H xs _ Q I1 (by simpa using rv) hw
def gSub (to ti:TE) (t:TSet):TG:=fun v σ H Q=>to σ H fun o H1=>ti σ H1 fun i H2=>t o i v H2 fun H3=>Q σ H3
theorem jk7 {o i:Expr} {to ti:TE} {t:TSet} (ho:PE X o to) (hi:PE X i ti) (hs:PSet X t)
  (ha:∀ v,assign (.Subscript o i pos) X.env v = (do
   let ov ← holding [v] (eval o X.env)
   let iv ← holding [v,ov] (eval i X.env)
   standAt pos
   holding [v,ov,iv] (setItem ov iv v)
   release [v,ov,iv] []):=by intro _; rfl):PG X (.Subscript o i pos) (gSub to ti t):=by
 intro pins s σ H v u Q I r h
 rw [ha]
 refine wpAny_bind (wpAny_holding (thn (ho pins s σ H _ I h) fun ov s1 ⟨x,H1,I1,r1,q1⟩=>?_))
 refine wpAny_bind (wpAny_holding (thn (hi pins s1 σ H1 _ I1 q1) fun iv s2 ⟨y,H2,I2,r2,q2⟩=>?_))
 refine wpAny_bind (wpAny_standAt (wpAny_bind (wpAny_holding (thn (hs pins s2 σ H2 x y v ov iv u _ I2 r1 r2 r q2) fun _ s3 ⟨H3,I3,q3⟩=>?_))))
 exact wpAny_release ⟨σ,H3,I3,q3⟩
def tAsg (te:TE) (g:TG):TS:=fun D σ H=>te σ H fun x H1=>g x σ H1 D.nx
theorem jk4 {tg e:Expr} {te:TE} {g:TG} (he:PE X e te) (hg:PG X tg g) (hs:swapsWithSole [tg] e pos.line X.env = pure false:=by rfl) (hw:swappedStores [tg] e X.env = pure none:=by rfl)
  (h1:(assignEach [tg] X.env).map (·.2) = [assign tg X.env]:=by rfl):PS X (.Assign [tg] e pos) (tAsg te g):=by
 intro pins s σ H D I h
 refine wpAny_Assign_stores (thn (he pins s σ H _ I h) fun v s1 ⟨x,H1,I1,r1,q1⟩=>?_) hs hw
 rw [h1]
 exact thn (hg pins s1 σ H1 x v _ I1 r1 q1) fun _ s2 q=>q
theorem jbi {i:Nat} {x:Str} {e:Expr} {te:TE} {pos':Pos} (hN:X.N.Nodup) (hi:X.N[i]? = some x) (hx:Loc X.env.scope x) (he:PE X e te) (hs:swapsWith e (some (.Name x pos')) pos.line X.env = pure false:=by rfl) (hf:X.fn x = true ∨ X.env.scope.names.lookup x = some .local:=by first | exact .inl rfl | exact .inr rfl | assumption) :
  PS X (.Assign [.Name x pos'] e pos) (tAsg te (jal i)):=by
 intro pins s σ H D I h
 refine wpAny_Assign_Name (thn (he pins s σ H _ I h) fun v s1 ⟨y,H1,I1,r1,q1⟩=>?_) hs
 exact jia I1 hN hi hx r1 (fun s2 I2=>⟨_,H1,I2,q1⟩) hf
def tAug (i:Nat) (te:TE) (ti:TIp):TS:=fun D σ H=>∃ x,σ[i]? = some (some x)∧te σ H fun y H1=>ti x y H1 fun z H2=>D.nx (σ.set i (some z)) H2
theorem ps_aug {i:Nat} {x:Str} {e:Expr} {te:TE} {op:Operator} {ti:TIp} {pos':Pos} (hN:X.N.Nodup) (hi:X.N[i]? = some x) (hx:Loc X.env.scope x) (he:PE X e te) (ho:PIp X op ti) (hf:X.fn x = true ∨ X.env.scope.names.lookup x = some .local:=by first | exact .inl rfl | exact .inr rfl | assumption) :
  PS X (.AugAssign (.Name x pos') op e pos) (tAug i te ti):=by
 intro pins s σ H D I h
 obtain ⟨v,e1,h⟩:=h
 obtain ⟨m,hn,hl⟩:=I.loc
 have vis:Vis X.env.scope x:=by rcases hx with k | k; exact .inl k; exact .inr (.inl k)
 obtain ⟨u,r,l⟩:=hl i x v hi e1 vis
 refine wpAny_AugAssign_Name ?_
 have go:wpAny (model X.prog X.w) X.A (eval e X.env) (fun w s₂=>wpAny (model X.prog X.w) X.A (inplaceOp op u w) (fun r s₃=>wpAny (model X.prog X.w) X.A (storeName X.env x r) (fun _=>SP X pins D .next) X.xe s₃) X.xe s₂) X.xe s:=by
  refine thn (he pins s σ H _ I h) fun w s1 ⟨y,H1,I1,r1,q1⟩=>?_
  refine thn (ho pins s1 σ H1 v y u w _ I1 r r1 q1) fun z s2 ⟨zv,H2,I2,r2,q2⟩=>?_
  exact jia I2 hN hi hx r2 (fun s3 I3=>⟨_,H2,I3,q2⟩) hf
 rcases l with ⟨hk,hm⟩ | ⟨hk,c,hc,hcell⟩
 ·exact wpAny_loadName_local I.ok.kind hk hn hm go
 ·rcases hk with hk | hk
  ·exact wpAny_loadName_cell I.ok.kind hk hc hcell go
  ·rcases hx with k | k
   ·have:X.env.scope.names.lookup x = some .free:=hk
    rw [k] at this; cases this
   ·have:X.env.scope.names.lookup x = some .free:=hk
    rw [k] at this; cases this
def jb6 (to ti te:TE) (tget:V→V→Hp→VK→Prop) (tip:TIp) (tset:TSet):TS:=fun D σ H=>to σ H fun o H1=>ti σ H1 fun i H2=>tget o i H2 fun x H3=>te σ H3 fun y H4=>tip x y H4 fun z H5=>tset o i z H5 fun H6=>D.nx σ H6
def PGet (X:Cx) (t:V→V→Hp→VK→Prop):Prop :=
 ∀ (pins:List (Addr × Obj)) (s:Shared) (σ:St) (H:Hp) (o i:V) (ov iv:Value) (Q:VK),Inv X pins σ H s→RelV o ov→RelV i iv→t o i H Q →
  wpAny (model X.prog X.w) X.A (getItem ov iv) (EP X pins σ Q) X.xe s
theorem jp9 {o i e:Expr} {to ti te:TE} {tget:V→V→Hp→VK→Prop} {tip:TIp} {tset:TSet} {op:Operator} {tpos:Pos} (ho:PE X o to) (hi:PE X i ti) (hg:PGet X tget) (he:PE X e te) (hp:PIp X op tip) (hs:PSet X tset)
  (ha:∀ ov iv new,augStore i ov iv new = (do holding [new,ov,iv] (setItem ov iv new); release [new,ov,iv] []; pure .next):=by intros; rfl):PS X (.AugAssign (.Subscript o i tpos) op e pos) (jb6 to ti te tget tip tset):=by
 intro pins s σ H D I h
 refine wpAny_AugAssign_SubscriptAny (thn (ho pins s σ H _ I h) fun ov s1 ⟨x1,H1,I1,r1,q1⟩=>?_) ha
 refine thn (hi pins s1 σ H1 _ I1 q1) fun iv s2 ⟨x2,H2,I2,r2,q2⟩=>?_
 refine thn (hg pins s2 σ H2 x1 x2 ov iv _ I2 r1 r2 q2) fun old s3 ⟨x3,H3,I3,r3,q3⟩=>?_
 refine thn (he pins s3 σ H3 _ I3 q3) fun v s4 ⟨x4,H4,I4,r4,q4⟩=>?_
 refine thn (hp pins s4 σ H4 x3 x4 old v _ I4 r3 r4 q4) fun new s5 ⟨x5,H5,I5,r5,q5⟩=>?_
 exact thn (hs pins s5 σ H5 x1 x2 x5 ov iv new _ I5 r1 r2 r5 q5) fun _ s6 ⟨H6,I6,q6⟩=>⟨σ,H6,I6,q6⟩
end
section
variable {X:Cx} {pos:Pos}
def jso (c:TT) (tb:TS):TS:=fun D σ H=>∃ W:Nat→St→Hp→Prop,(∃ m,W m σ H)∧∀ m σ H,W m σ H →
 c σ H fun b H1=>if b = true then ∃ N:St→Hp→Prop,(∀ σ' H',N σ' H'→∃ m',m' < m∧W m' σ' H')∧tb { D with nx:=N,ct:=N,bk:=D.nx } σ H1 else D.nx σ H1
theorem jil {c:Expr} {body:List Stmt} {tc:TT} {tb:TS} (hp:PassesOwn (model X.prog X.w) X.A X.env X.xe) (hc:PT X c tc) (hb:PSs X body tb):PS X (.While c body [] pos) (jso tc tb):=by
 intro pins s σ H D I h
 obtain ⟨W,⟨m0,w0⟩,turn⟩:=h
 refine wpAny_While (codeAny_whileLoop (fun n s'=>∃ σ' H',Inv X pins σ' H' s'∧W n σ' H') ?_ m0 ⟨σ,H,I,w0⟩)
 rintro n s1 ⟨σ1,H1,I1,w1⟩
 refine wpAny_passesOwn hp (thn (hc pins s1 σ1 H1 _ I1 (turn n σ1 H1 w1)) fun b s2 ⟨H2,I2,q2⟩=>?_)
 cases b with
 | true =>
  obtain ⟨N,hN,q2⟩:=q2
  rw [if_pos rfl]
  refine wpAny_passesOwn hp (thn (hb pins s2 σ1 H2 _ I2 q2) fun f s3 q3=>?_)
  cases f with
  | next =>
   obtain ⟨σ3,H3,I3,n3⟩:=q3
   obtain ⟨m',hm,w3⟩:=hN σ3 H3 n3
   exact ⟨m',hm,σ3,H3,I3,w3⟩
  | cont =>
   obtain ⟨σ3,H3,I3,n3⟩:=q3
   obtain ⟨m',hm,w3⟩:=hN σ3 H3 n3
   exact ⟨m',hm,σ3,H3,I3,w3⟩
  | brk=>exact q3
  | ret v=>exact q3
 | false =>
  rw [if_neg Bool.false_ne_true]
  exact wpAny_execs_nil ⟨σ1,H2,I2,q2⟩
end
structure It where
 go:Nat→Hp→Prop
 yld:Nat→Hp→V→Hp→Prop
 stop:Nat→Hp→Prop
def FpOk (X:Cx) (pins:List (Addr × Obj)) (H:Hp) (b:Addr):Prop :=
 H b = none∧b ≠ X.env.locals∧b ∉ X.fs∧(b ∈ X.ex ∨ X.s₀.heap.objs.size ≤ b)∧(∀ x c,X.env.cells.lookup x = some c→c ≠ b)∧∀ p ∈ X.pn ++ pins,p.1 ≠ b
theorem Inv.fpOk {X:Cx} {pins:List (Addr × Obj)} {σ:St} {H H':Hp} {s:Shared} {b:Addr} (I:Inv X pins σ H s) (hb:s.heap.objs.size ≤ b) (hn:H' b = none):FpOk X pins H' b:=by
 refine ⟨hn,Nat.ne_of_gt (Nat.lt_of_lt_of_le I.lt hb),I.nofs hb,.inr (Nat.le_trans I.sz hb),fun x c e z=>?_,fun p hp z=>?_⟩
 ·obtain ⟨v,q⟩:=I.cell x c e
  exact absurd (Nat.lt_of_lt_of_le q.lt (by rw [z]; exact hb)) (Nat.lt_irrefl _)
 ·exact absurd (Nat.lt_of_lt_of_le (Heap.lt_size (I.pin p hp).1) (by rw [z]; exact hb)) (Nat.lt_irrefl _)
structure Turn (P:Program) (w:World) (K:PySem.W.Frag) (tg:Expr) (J:It) (fp:List Addr) (it:Addr) (tn:Nat→Heap→Prop):Prop where
 mem:it ∈ fp
 obj:∀ i h,tn i h→∀ b ∈ fp,∃ o,h.get? b = some o∧∀ v,o.data ≠ .cell v
 keep:∀ i h h',tn i h→(∀ b ∈ fp,∀ o,h.get? b = some o→h'.get? b = some o)→tn i h'
 item:∀ (X:Cx),X.prog = P→X.w = w→X.K = K→X.calm = true→∀ (i:Nat) (pins:List (Addr × Obj)) (s:Shared) (σ:St) (H:Hp) (E:Value→Shared→Prop),Inv X pins σ H s→(∀ b ∈ fp,FpOk X pins H b)→tn i s.heap→J.go i H →
  wpAny (model P w) X.A (pyNext (.ref it)) (fun r s1=>∃ u,r = some u ∧
   wpAny (model P w) X.A (letOwnedTupleGo tg (.ref it) u) (fun _ s2=>∃ x H',Inv X pins σ H' s2∧RelV x u∧J.yld i H x H'∧tn (i + 1) s2.heap∧∀ b ∈ fp,H' b = none) E s1) E s
 done:∀ (X:Cx),X.prog = P→X.w = w→X.K = K→X.calm = true→∀ (i:Nat) (pins:List (Addr × Obj)) (s:Shared) (σ:St) (H:Hp) (E:Value→Shared→Prop),Inv X pins σ H s→(∀ b ∈ fp,FpOk X pins H b)→tn i s.heap→J.stop i H →
  wpAny (model P w) X.A (pyNext (.ref it)) (fun r s1=>r = none∧Inv X pins σ H s1) E s
 self:∀ (A:Around) (i:Nat) (s:Shared) (Q:Value→Shared→Prop) (E:Value→Shared→Prop),tn i s.heap→Q (.ref it) s→wpAny (model P w) A (pyIter (.ref it)) Q E s
abbrev TI:=St→Hp→(It→Hp→Prop)→Prop
def PIE (X:Cx) (pins:List (Addr × Obj)) (σ:St) (tg:Expr) (R:It→Hp→Prop) (itv:Value) (s2:Shared):Prop :=
 ∃ (it:Addr) (fp:List Addr) (tn:Nat→Heap→Prop) (J:It) (H':Hp),itv = .ref it∧Inv X pins σ H' s2∧Turn X.prog X.w X.K tg J fp it tn∧tn 0 s2.heap∧(∀ b ∈ fp,FpOk X pins H' b)∧R J H'
def PI (X:Cx) (tg iter:Expr) (wi:TI):Prop :=
 ∀ (pins:List (Addr × Obj)) (s:Shared) (σ:St) (H:Hp) (R:It→Hp→Prop),Inv X pins σ H s→wi σ H R →
  wpAny (model X.prog X.w) X.A (eval iter X.env) (fun v s1=>wpAny (model X.prog X.w) X.A (pyIter v) (PIE X pins σ tg R) X.xe s1) X.xe s
theorem jup {M:Model} {A:Around} {E:Value→Shared→Prop} {s:Shared} {tg:Expr} {it:Addr} {u:Value} {o:Obj} {n:String} {vs:Array Value} {Q:Unit→Shared→Prop} (ho:s.heap.get? it = some o) (hc:o.cls = .type n) (hd:o.data = .fields vs)
    (hn:["enumerate","zip","dict_itemiterator","dict_reverseitemiterator","odict_iterator","itertools.zip_longest","itertools.pairwise"].contains n = false) (hQ:Q () s):wpAny M A (letOwnedTupleGo tg (.ref it) u) Q E s:=by
  unfold letOwnedTupleGo
  cases tg <;> first
    | exact wpAny_pure hQ
    | (cases u <;> first
        | exact wpAny_pure hQ
        | (refine wpAny_bind (wpAny_load ho ?_)
           rw [hc,hd]
           show wpAny M A (if (["enumerate","zip","dict_itemiterator","dict_reverseitemiterator","odict_iterator","itertools.zip_longest","itertools.pairwise"].contains n && vs[0]? == some (rawInt _)) = true then _ else _) Q E s
           rw [if_neg (by intro h; rw [hn,Bool.false_and] at h; cases h)]
           exact wpAny_pure hQ))
def Itl (K:PySem.W.Frag) (a:Addr):It :=
 ⟨fun i H=>∃ xs x,SqL K H a xs∧xs[i]? = some x,fun i H x H'=>H' = H∧∀ xs,SqL K H a xs→xs[i]? = some x,fun i H=>∃ xs,SqL K H a xs∧xs.length ≤ i⟩
def Itt (K:PySem.W.Frag) (a:Addr):It :=
 ⟨fun i H=>∃ xs x,SqT K H a xs∧xs[i]? = some x,fun i H x H'=>H' = H∧∀ xs,SqT K H a xs→xs[i]? = some x,fun i H=>∃ xs,SqT K H a xs∧xs.length ≤ i⟩
def Itr (lo:Int) (n:Nat):It:=⟨fun i _=>i < n,fun i H x H'=>H' = H∧x = .int (lo + i),fun i _=>n ≤ i⟩
theorem job {P:Program} {w:World} {K:PySem.W.Frag} {tg:Expr} (a it:Addr):Turn P w K tg (Itl K a) [it] it (fun i h=>h.IsListIter it a i) where
 mem:=by simp
 obj:=fun i h st b hb=>by
  have e:b = it:=by simpa using hb
  subst e
  obtain ⟨o,e,c,d⟩:=st
  exact ⟨o,e,fun v z=>by rw [d] at z; cases z⟩
 keep:=fun i h h' st k=>st.at fun o e=>k it (by simp) o e
 item:=by
  intro X hP hw hK hc i pins s σ H E I hf st hg
  subst hP hw hK
  obtain ⟨xs,x,hq,hx⟩:=hg
  obtain ⟨its,rv,p,hz⟩:=I.list hq
  obtain ⟨u,hu,ru⟩:=rv.get hx
  obtain ⟨f0,f1,f2,f3,f4,f5⟩:=hf it (by simp)
  refine wpAny_pyNext_list_item st p.isList (x:=u) (by simpa using hu) fun h' st' sb=>?_
  have I1:Inv X pins σ H { s with heap:=h' }:=I.turned (t':=s.toks) (fun b o hb e=>(sb.2 b hb).trans e) f0 f1 f3 f4 f5
  obtain ⟨o,e,c,d⟩:=id st'
  exact ⟨u,rfl,jup (s:={ s with heap:=h' }) e c d (by decide) ⟨x,H,I1,ru,⟨rfl,fun ys hy=>by rw [I.list_inj hy hq]; exact hx⟩,st',fun b hb=>(hf b hb).1⟩⟩
 done:=by
  intro X hP hw hK hc i pins s σ H E I hf st hg
  subst hP hw hK
  obtain ⟨xs,hq,hx⟩:=hg
  obtain ⟨its,rv,p,hz⟩:=I.list hq
  obtain ⟨f0,f1,f2,f3,f4,f5⟩:=hf it (by simp)
  have hl:=rv.length
  exact wpAny_pyNext_list_end (I.ok.hd hc) st p.isList (by simp; omega) fun h' eb=>⟨rfl,I.turned (t':=s.toks) (fun b o hb e=>eb b o hb e) f0 f1 f3 f4 f5⟩
 self:=fun _ _ _ _ _ st h=>wpAny_pyIter_listiter st h
theorem jn3 {P:Program} {w:World} {K:PySem.W.Frag} {tg:Expr} (a it:Addr):Turn P w K tg (Itt K a) [it] it (fun i h=>h.IsTupleIter it a i) where
 mem:=by simp
 obj:=fun i h st b hb=>by
  have e:b = it:=by simpa using hb
  subst e
  obtain ⟨o,e,c,d⟩:=st
  exact ⟨o,e,fun v z=>by rw [d] at z; cases z⟩
 keep:=fun i h h' st k=>st.at fun o e=>k it (by simp) o e
 item:=by
  intro X hP hw hK hc i pins s σ H E I hf st hg
  subst hP hw hK
  obtain ⟨xs,x,hq,hx⟩:=hg
  obtain ⟨its,rv,p,hz⟩:=I.tuple hq
  obtain ⟨u,hu,ru⟩:=rv.get hx
  obtain ⟨f0,f1,f2,f3,f4,f5⟩:=hf it (by simp)
  refine wpAny_pyNext_tuple_item st (show s.heap.IsTuple a its.toArray from p) (x:=u) (by simpa using hu) fun h' st' sb=>?_
  have I1:Inv X pins σ H { s with heap:=h' }:=I.turned (t':=s.toks) (fun b o hb e=>(sb.2 b hb).trans e) f0 f1 f3 f4 f5
  obtain ⟨o,e,c,d⟩:=id st'
  exact ⟨u,rfl,jup (s:={ s with heap:=h' }) e c d (by decide) ⟨x,H,I1,ru,⟨rfl,fun ys hy=>by rw [I.tuple_inj hy hq]; exact hx⟩,st',fun b hb=>(hf b hb).1⟩⟩
 done:=by
  intro X hP hw hK hc i pins s σ H E I hf st hg
  subst hP hw hK
  obtain ⟨xs,hq,hx⟩:=hg
  obtain ⟨its,rv,p,hz⟩:=I.tuple hq
  obtain ⟨f0,f1,f2,f3,f4,f5⟩:=hf it (by simp)
  have hl:=rv.length
  exact wpAny_pyNext_tuple_end (I.ok.hd hc) st (show s.heap.IsTuple a its.toArray from p) (by simp; omega) fun h' eb=>⟨rfl,I.turned (t':=s.toks) (fun b o hb e=>eb b o hb e) f0 f1 f3 f4 f5⟩
 self:=fun _ _ _ _ _ st h=>wpAny_pyIter_tupleiter st h
theorem jn4 {P:Program} {w:World} {K:PySem.W.Frag} {tg:Expr} (it:Addr) (lo:Int) (n:Nat):Turn P w K tg (Itr lo n) [it] it (fun i h=>IsRangeIter h it (lo + (i:Nat) * 1) ((n:Int) - (i:Nat)) 1) where
 mem:=by simp
 obj:=fun i h st b hb=>by
  have e:b = it:=by simpa using hb
  subst e
  exact ⟨_,st,fun v z=>by
   have z':Data.fields _ = Data.cell v:=z
   cases z'⟩
 keep:=fun i h h' st k=>k it (by simp) _ st
 item:=by
  intro X hP hw hK hc i pins s σ H E I hf st hg
  subst hP hw hK
  obtain ⟨f0,f1,f2,f3,f4,f5⟩:=hf it (by simp)
  have W:=Walks.range (prog:=X.prog) (w:=X.w) (I.ok.hd hc) it lo 1 n
  refine W.item i s _ _ hg st fun v h' tk hv st' kk=>?_
  obtain ⟨t,rfl⟩:=hv
  have I1:Inv X pins σ H { s with heap:=h',toks:=tk }:=I.turned (fun b o hb e=>kk b o (by simpa using hb) e) f0 f1 f3 f4 f5
  refine ⟨_,rfl,jup (s:={ s with heap:=h',toks:=tk }) (n:="range_iterator") st' rfl rfl (by decide) ⟨.int (lo + i),H,I1,⟨t,?_⟩,⟨rfl,rfl⟩,st',fun b hb=>(hf b hb).1⟩⟩
  rw [Int.mul_one]
 done:=by
  intro X hP hw hK hc i pins s σ H E I hf st hg
  subst hP hw hK
  obtain ⟨f0,f1,f2,f3,f4,f5⟩:=hf it (by simp)
  exact wpAny_pyNext_range_end (I.ok.hd hc) st (by have:n ≤ i:=hg; omega) fun h' eb=>⟨rfl,I.turned (t':=s.toks) (fun b o hb e=>eb b o hb e) f0 f1 f3 f4 f5⟩
 self:=fun _ _ _ _ _ st h=>wpAny_pyIter_rangeiter st h
end L2
namespace L2
open PySem PySem.Spec PyProof.Rows
section
variable {X:Cx} {tg:Expr}
def jd5 (K:PySem.W.Frag) (tl:TE):TI:=fun σ H R=>tl σ H fun x H1=>∃ a,x = .ref a∧(∃ xs,SqL K H1 a xs)∧R (Itl K a) H1
def iTup (K:PySem.W.Frag) (tl:TE):TI:=fun σ H R=>tl σ H fun x H1=>∃ a,x = .ref a∧(∃ xs,SqT K H1 a xs)∧R (Itt K a) H1
theorem jbx {l:Expr} {tl:TE} (hl:PE X l tl):PI X tg l (jd5 X.K tl):=by
 intro pins s σ H R I h
 refine thn (hl pins s σ H _ I h) fun v s1 ⟨x,H1,I1,r1,q1⟩=>?_
 obtain ⟨a,e,⟨xs,hq⟩,q⟩:=q1
 subst e
 cases r1
 obtain ⟨its,rv,p,hz⟩:=I1.list hq
 refine wpAny_pyIter_list p.isList ?_
 refine ⟨s1.heap.objs.size,[s1.heap.objs.size],_,_,H1,rfl,I1.kept (t':=s1.toks) fun b o e=>Heap.get?_push_of_some _ e,job a _,⟨_,Heap.get?_push_size _ rfl,rfl,rfl⟩,fun b hb=>?_,q⟩
 have e:b = s1.heap.objs.size:=by simpa using hb
 subst e
 exact I1.fpOk (Nat.le_refl _) (I1.hok.fresh (Nat.le_refl _))
theorem pi_tup {l:Expr} {tl:TE} (hl:PE X l tl):PI X tg l (iTup X.K tl):=by
 intro pins s σ H R I h
 refine thn (hl pins s σ H _ I h) fun v s1 ⟨x,H1,I1,r1,q1⟩=>?_
 obtain ⟨a,e,⟨xs,hq⟩,q⟩:=q1
 subst e
 cases r1
 obtain ⟨its,rv,p,hz⟩:=I1.tuple hq
 refine wpAny_pyIter_tuple (show s1.heap.IsTuple a its.toArray from p) ?_
 refine ⟨s1.heap.objs.size,[s1.heap.objs.size],_,_,H1,rfl,I1.kept (t':=s1.toks) fun b o e=>Heap.get?_push_of_some _ e,jn3 a _,⟨_,Heap.get?_push_size _ rfl,rfl,rfl⟩,fun b hb=>?_,q⟩
 have e:b = s1.heap.objs.size:=by simpa using hb
 subst e
 exact I1.fpOk (Nat.le_refl _) (I1.hok.fresh (Nat.le_refl _))
theorem jmg {pins:List (Addr × Obj)} {σ:St} {H:Hp} {s:Shared} {R:It→Hp→Prop} {E:Value→Shared→Prop} {lo hi:Int} {t u v:Tok} {tk:Nat} (I:Inv X pins σ H s) (h1:-(2 ^ 62) ≤ lo) (h2:lo < 2 ^ 62) (h3:-(2 ^ 62) ≤ hi) (h4:hi < 2 ^ 62)
  (q:R (Itr lo (hi - lo).toNat) H):wpAny (model X.prog X.w) X.A (pyIter (.ref s.heap.objs.size)) (PIE X pins σ tg R) E { s with heap:=s.heap.push { cls:=.type "range",data:=.fields #[.int lo t,.int hi u,.int 1 v] },toks:=tk }:=by
 refine wpAny_pyIter_range (IsRange.new ..) (small_one h1 h2 h3 h4) ?_
 have I1:Inv X pins σ H { s with heap:=s.heap.push { cls:=.type "range",data:=.fields #[.int lo t,.int hi u,.int 1 v] },toks:=tk }:=I.kept fun b o e=>Heap.get?_push_of_some _ e
 refine ⟨(s.heap.push { cls:=.type "range",data:=.fields #[.int lo t,.int hi u,.int 1 v] }).objs.size,[(s.heap.push { cls:=.type "range",data:=.fields #[.int lo t,.int hi u,.int 1 v] }).objs.size],_,_,H,rfl,
  I1.kept (t':=tk) fun b o e=>Heap.get?_push_of_some _ e,jn4 _ lo (hi - lo).toNat,?_,fun b hb=>?_,q⟩
 ·have e1:lo + ((0:Nat):Int) * 1 = lo:=by simp
  have e2:(((hi - lo).toNat:Nat):Int) - ((0:Nat):Int) = Builtin.Range.rangeSize lo hi 1:=by rw [rangeSize_one]; split <;> omega
  show IsRangeIter _ _ (lo + ((0:Nat):Int) * 1) ((((hi - lo).toNat:Nat):Int) - ((0:Nat):Int)) 1
  rw [e1,e2]
  exact Heap.get?_push_size _ rfl
 ·have e:b = (s.heap.push { cls:=.type "range",data:=.fields #[.int lo t,.int hi u,.int 1 v] }).objs.size:=by simpa using hb
  subst e
  exact I1.fpOk (Nat.le_refl _) (I1.hok.fresh (Nat.le_refl _))
def jfz (ta:TA):TI:=fun σ H R=>ta σ H fun vs H1=>∃ j:Int,vs = [.int j]∧-(2 ^ 62) ≤ j∧j < 2 ^ 62∧R (Itr 0 j.toNat) H1
def jun (ta:TA):TI:=fun σ H R=>ta σ H fun vs H1=>∃ i j:Int,vs = [.int i,.int j]∧(-(2 ^ 62) ≤ i∧i < 2 ^ 62∧-(2 ^ 62) ≤ j∧j < 2 ^ 62)∧R (Itr i (j - i).toNat) H1
theorem jcd {a:Expr} {ta:TA} {p pos:Pos} (hg:Gl X "range") (hm:X.mg "range" = none) (ha:PA X [a] ta) (hs:starEach [a] X.env = [(false,eval a X.env)]:=by rfl):PI X tg (.Call (.Name "range" p) [a] [] pos) (jfz ta):=by
 intro pins s σ H R I h
 refine Call_ (jfr I hg hm boot_range (PyProof.Rows.callWith_type1 (thn (ha pos pins s σ H _ I h) fun us s1 ⟨vs,H1,I1,r1,q1⟩=>?_) hs rfl))
 obtain ⟨j,e,q1,q2,q⟩:=q1
 subst e
 cases r1 with
 | cons r rr =>
  cases rr
  obtain ⟨t,rfl⟩:=r
  exact call_range_1 (jmg I1 (by omega) (by omega) q1 q2 (by simpa using q))
theorem jk6 {a b:Expr} {ta:TA} {p pos:Pos} (hg:Gl X "range") (hm:X.mg "range" = none) (ha:PA X [a,b] ta) (hs:starEach [a,b] X.env = [(false,eval a X.env),(false,eval b X.env)]:=by rfl) (hs2:starEach [b] X.env = [(false,eval b X.env)]:=by rfl) :
  PI X tg (.Call (.Name "range" p) [a,b] [] pos) (jun ta):=by
 intro pins s σ H R I h
 refine Call_ (jfr I hg hm boot_range (PyProof.Rows.callWith_type1 (thn (ha pos pins s σ H _ I h) fun us s1 ⟨vs,H1,I1,r1,q1⟩=>?_) (by rw [hs,hs2]) (by rw [hs2]; rfl)))
 obtain ⟨i,j,e,⟨q1,q2,q3,q4⟩,q⟩:=q1
 subst e
 cases r1 with
 | cons r rr =>
  cases rr with
  | cons r' rr =>
   cases rr
   obtain ⟨t,rfl⟩:=r
   obtain ⟨t',rfl⟩:=r'
   exact call_range_2 (jmg I1 q1 q2 q3 q4 q)
def tFor (wi:TI) (g:TG) (tb:TS):TS:=fun D σ H=>wi σ H fun J H1=>∃ W:Nat→Nat→St→Hp→Prop,(∃ m,W 0 m σ H1)∧∀ i m σ H,W i m σ H →
 (J.stop i H∧D.nx σ H) ∨ (J.go i H∧∃ N:St→Hp→Prop,(∀ σ' H',N σ' H'→∃ m',m' < m∧W (i + 1) m' σ' H')∧∀ x H',J.yld i H x H'→g x σ H' fun σ2 H2=>tb { D with nx:=N,ct:=N,bk:=D.nx } σ2 H2)
def jk5 (fp:List Addr) (h:Heap):List (Addr × Obj):=fp.filterMap fun b=>(h.get? b).map fun o=>(b,o)
theorem je5 {fp:List Addr} {h:Heap} {b:Addr} {o:Obj} (hb:b ∈ fp) (e:h.get? b = some o):(b,o) ∈ jk5 fp h:=List.mem_filterMap.mpr ⟨b,hb,by rw [e]; rfl⟩
theorem jpm {fp:List Addr} {h:Heap} {p:Addr × Obj} (hp:p ∈ jk5 fp h):p.1 ∈ fp∧h.get? p.1 = some p.2:=by
 obtain ⟨b,hb,e⟩:=List.mem_filterMap.mp hp
 cases q:h.get? b with
 | none=>rw [q] at e; cases e
 | some o =>
  rw [q] at e
  have e':(b,o) = p:=Option.some.inj e
  subst e'
  exact ⟨hb,q⟩
theorem Inv.pinned {pins:List (Addr × Obj)} {σ:St} {H:Hp} {s:Shared} {fp:List Addr} (I:Inv X pins σ H s) (hf:∀ b ∈ fp,FpOk X pins H b) (ho:∀ b ∈ fp,∃ o,s.heap.get? b = some o∧∀ v,o.data ≠ .cell v):Inv X (pins ++ jk5 fp s.heap) σ H s :=
 I.pins_of fun p hp=>(List.mem_append.mp hp).elim (fun z=>I.pin p (List.mem_append_right _ z)) fun z=>by
  obtain ⟨hb,e⟩:=jpm z
  obtain ⟨f0,f1,f2,_⟩:=hf p.1 hb
  obtain ⟨o,e',d⟩:=ho p.1 hb
  rw [e] at e'; cases e'
  exact ⟨e,f0,f1,f2,d⟩
theorem Inv.unpinned {pins pl:List (Addr × Obj)} {σ:St} {H:Hp} {s:Shared} (I:Inv X (pins ++ pl) σ H s):Inv X pins σ H s:=I.pins_of fun p hp=>I.pin p (List.mem_append_right _ (List.mem_append_left _ hp))
theorem jcv {iter:Expr} {body:List Stmt} {wi:TI} {g:TG} {tb:TS} {pos:Pos} (hp:PassesOwn (model X.prog X.w) X.A X.env X.xe) (hc:X.calm = true) (hi:PI X tg iter wi) (hg:PG X tg g) (hb:PSs X body tb)
  (hs:∀ x,foldedSetIterable iter X.env x = pure x:=by intro _; rfl):PS X (.For tg iter body [] pos) (tFor wi g tb):=by
 intro pins s σ H D I h
 refine wpAny_For (thn (hi pins s σ H _ I h) fun v s1 h1=>thn h1 fun itv s2 h2=>?_) hs
 obtain ⟨it,fp,tn,J,H2,e,I2,T,st2,f2,W,⟨m0,w0⟩,turn⟩:=h2
 subst e
  -- what stays true of the iterator's objects through the loop
 have stat:∀ {H':Hp},(∀ b ∈ fp,H' b = none)→∀ b ∈ fp,FpOk X pins H' b:=fun hn b hb=>⟨hn b hb,(f2 b hb).2⟩
 refine codeAny_forLoop_any (fun n s'=>∃ i σ' H',Inv X pins σ' H' s'∧tn i s'.heap∧(∀ b ∈ fp,H' b = none)∧W i n σ' H') ?_ m0 ⟨0,σ,H2,I2,st2,fun b hb=>(f2 b hb).1,w0⟩
 rintro n s3 ⟨i,σ3,H3,I3,st3,fr3,w3⟩
 rcases turn i n σ3 H3 w3 with ⟨stop,qn⟩ | ⟨go,N,hN,step⟩
 ·refine wpAny_passesOwn hp (thn (T.done X rfl rfl rfl hc i pins s3 σ3 H3 X.xe I3 (stat fr3) st3 stop) fun r s4 ⟨hr,I4⟩=>?_)
  subst hr
  exact wpAny_execs_nil ⟨σ3,H3,I4,qn⟩
 ·refine wpAny_passesOwn hp (thn (T.item X rfl rfl rfl hc i pins s3 σ3 H3 X.xe I3 (stat fr3) st3 go) fun r s4 ⟨u,hr,h4⟩=>?_)
  subst hr
  refine wpAny_passesOwn hp (thn h4 fun _ s5 ⟨x,H5,I5,r5,y5,st5,fr5⟩=>?_)
  have I5':=I5.pinned (stat fr5) (T.obj _ _ st5)
  refine wpAny_passesOwn hp (thn (hg _ s5 σ3 H5 x u _ I5' r5 (step x H5 y5)) fun _ s6 ⟨σ6,H6,I6,q6⟩=>?_)
  refine wpAny_passesOwn hp (thn (hb _ s6 σ6 H6 _ I6 q6) fun f s7 q7=>?_)
  have again:∀ {σ7:St} {H7:Hp},Inv X (pins ++ jk5 fp s5.heap) σ7 H7 s7→N σ7 H7→∃ m,m < n∧∃ i σ' H',Inv X pins σ' H' s7∧tn i s7.heap∧(∀ b ∈ fp,H' b = none)∧W i m σ' H':=fun {σ7 H7} I7 n7=>by
   obtain ⟨m',hm,w7⟩:=hN σ7 H7 n7
   refine ⟨m',hm,i + 1,σ7,H7,I7.unpinned,T.keep _ _ _ st5 fun b hb o e=>(I7.pin (b,o) (List.mem_append_right _ (List.mem_append_right _ (je5 hb e)))).1,fun b hb=>?_,w7⟩
   obtain ⟨o,e,d⟩:=T.obj _ _ st5 b hb
   exact (I7.pin (b,o) (List.mem_append_right _ (List.mem_append_right _ (je5 hb e)))).2.1
  cases f with
  | next=>obtain ⟨σ7,H7,I7,n7⟩:=q7; exact again I7 n7
  | cont=>obtain ⟨σ7,H7,I7,n7⟩:=q7; exact again I7 n7
  | brk=>obtain ⟨σ7,H7,I7,q7⟩:=q7; exact ⟨σ7,H7,I7.unpinned,q7⟩
  | ret v=>obtain ⟨x7,σ7,H7,I7,r7,q7⟩:=q7; exact ⟨x7,σ7,H7,I7.unpinned,r7,q7⟩
end
theorem jdj {K:PySem.W.Frag} {a:Addr} {xs:List V} {g:TG} {tb:TS} {D:Ends} {σ:St} {H:Hp} (Pv:Nat→St→Hp→Prop) (h0:Pv 0 σ H) (hl:∀ i σ H,i ≤ xs.length→Pv i σ H→SqL K H a xs)
  (hs:∀ i x σ H,xs[i]? = some x→Pv i σ H→g x σ H fun σ2 H2=>tb { D with nx:=Pv (i + 1),ct:=Pv (i + 1),bk:=D.nx } σ2 H2) (hd:∀ σ H,Pv xs.length σ H→D.nx σ H) :
  ∃ W:Nat→Nat→St→Hp→Prop,(∃ m,W 0 m σ H)∧∀ i m σ H,W i m σ H →
   ((Itl K a).stop i H∧D.nx σ H) ∨ ((Itl K a).go i H∧∃ N:St→Hp→Prop,(∀ σ' H',N σ' H'→∃ m',m' < m∧W (i + 1) m' σ' H')∧∀ x H',(Itl K a).yld i H x H'→g x σ H' fun σ2 H2=>tb { D with nx:=N,ct:=N,bk:=D.nx } σ2 H2):=by
 refine ⟨fun i m σ H=>m = xs.length - i∧i ≤ xs.length∧Pv i σ H,⟨xs.length,by simp,Nat.zero_le _,h0⟩,?_⟩
 rintro i m σ H ⟨rfl,hi,p⟩
 have q:=hl i σ H hi p
 by_cases hlt:i < xs.length
 ·refine .inr ⟨⟨xs,xs[i],q,by simp [hlt]⟩,Pv (i + 1),fun σ' H' p'=>⟨xs.length - (i + 1),by omega,rfl,hlt,p'⟩,fun x H' y=>?_⟩
  obtain ⟨e,y⟩:=y
  subst e
  exact hs i x σ _ (y xs q) p
 ·have e:i = xs.length:=by omega
  subst e
  exact .inl ⟨⟨xs,q,Nat.le_refl _⟩,hd σ H p⟩
theorem jdf {lo:Int} {n:Nat} {g:TG} {tb:TS} {D:Ends} {σ:St} {H:Hp} (Pv:Nat→St→Hp→Prop) (h0:Pv 0 σ H)
  (hs:∀ i σ H,i < n→Pv i σ H→g (.int (lo + i)) σ H fun σ2 H2=>tb { D with nx:=Pv (i + 1),ct:=Pv (i + 1),bk:=D.nx } σ2 H2) (hd:∀ σ H,Pv n σ H→D.nx σ H) :
  ∃ W:Nat→Nat→St→Hp→Prop,(∃ m,W 0 m σ H)∧∀ i m σ H,W i m σ H →
   ((Itr lo n).stop i H∧D.nx σ H) ∨ ((Itr lo n).go i H∧∃ N:St→Hp→Prop,(∀ σ' H',N σ' H'→∃ m',m' < m∧W (i + 1) m' σ' H')∧∀ x H',(Itr lo n).yld i H x H'→g x σ H' fun σ2 H2=>tb { D with nx:=N,ct:=N,bk:=D.nx } σ2 H2):=by
 refine ⟨fun i m σ H=>m = n - i∧i ≤ n∧Pv i σ H,⟨n,by simp,Nat.zero_le _,h0⟩,?_⟩
 rintro i m σ H ⟨rfl,hi,p⟩
 by_cases hlt:i < n
 ·refine .inr ⟨hlt,Pv (i + 1),fun σ' H' p'=>⟨n - (i + 1),by omega,rfl,hlt,p'⟩,fun x H' y=>?_⟩
  obtain ⟨e,y⟩:=y
  subst e y
  exact hs i σ _ hlt p
 ·have e:i = n:=by omega
  subst e
  exact .inl ⟨Nat.le_refl _,hd σ H p⟩
theorem ji4 {c:TT} {tb:TS} {D:Ends} {σ:St} {H:Hp} (Pv:St→Hp→Prop) (μ:St→Hp→Nat) (h0:Pv σ H)
  (hs:∀ σ H,Pv σ H→c σ H fun b H1=>if b = true then tb { D with nx:=fun σ' H'=>Pv σ' H'∧μ σ' H' < μ σ H,ct:=fun σ' H'=>Pv σ' H'∧μ σ' H' < μ σ H,bk:=D.nx } σ H1 else D.nx σ H1)
  (mono:∀ σ H Q Q',(∀ b H1,Q b H1→Q' b H1)→c σ H Q→c σ H Q'):jso c tb D σ H:=by
 refine ⟨fun m σ H=>m = μ σ H∧Pv σ H,⟨_,rfl,h0⟩,?_⟩
 rintro m σ H ⟨rfl,p⟩
 refine mono σ H _ _ (fun b H1 q=>?_) (hs σ H p)
 cases b with
 | true=>exact ⟨_,fun σ' H' ⟨p',l⟩=>⟨_,l,rfl,p'⟩,q⟩
 | false=>exact q
end L2
namespace L2
open PySem PySem.Spec PyProof.Rows
abbrev R2:=V→V→Hp→VK→Prop
def OpR (X:Cx) (f:Value→Value→Sem Value) (r:R2):Prop :=
 ∀ (pins:List (Addr × Obj)) (s:Shared) (σ:St) (H:Hp) (x y:V) (v u:Value) (Q:VK),Inv X pins σ H s→RelV x v→RelV y u→r x y H Q →
  wpAny (model X.prog X.w) X.A (f v u) (EP X pins σ Q) X.xe s
def UnR (X:Cx) (f:Value→Sem Value) (r:V→Hp→VK→Prop):Prop :=
 ∀ (pins:List (Addr × Obj)) (s:Shared) (σ:St) (H:Hp) (x:V) (v:Value) (Q:VK),Inv X pins σ H s→RelV x v→r x H Q →
  wpAny (model X.prog X.w) X.A (f v) (EP X pins σ Q) X.xe s
def jda (X:Cx) (f:Value) (r:List V→Hp→VK→Prop):Prop :=
 ∀ (pins:List (Addr × Obj)) (s:Shared) (σ:St) (H:Hp) (xs:List V) (us:List Value) (Q:VK),Inv X pins σ H s→Vals xs us→r xs H Q →
  wpAny (model X.prog X.w) X.A (call f us) (EP X pins σ Q) X.xe s
def TruR (X:Cx) (r:V→Hp→(Bool→Hp→Prop)→Prop):Prop :=
 ∀ (pins:List (Addr × Obj)) (s:Shared) (σ:St) (H:Hp) (x:V) (v:Value) (Q:Bool→Hp→Prop),Inv X pins σ H s→RelV x v→r x H Q →
  wpAny (model X.prog X.w) X.A (truthy v) (TP X pins σ Q) X.xe s
def tOp (r:R2) (ta tb:TE):TE:=fun σ H Q=>ta σ H fun x H1=>tb σ H1 fun y H2=>r x y H2 Q
def tUn (r:V→Hp→VK→Prop) (ta:TE):TE:=fun σ H Q=>ta σ H fun x H1=>r x H1 Q
def rI (C:Int→Int→Prop) (g:Int→Int→V):R2:=fun x y H Q=>∃ i j,x = .int i∧y = .int j∧C i j∧Q (g i j) H
def rI0 (g:Int→Int→V):R2:=fun x y H Q=>∃ i j,x = .int i∧y = .int j∧Q (g i j) H
def rU (g:Int→V):V→Hp→VK→Prop:=fun x H Q=>∃ i,x = .int i∧Q (g i) H
section
variable {X:Cx} {a b c:Expr} {ta tb tc:TE} {pos:Pos}
theorem binT (ha:PE X a ta) (hb:PE X b tb) {pins:List (Addr × Obj)} {s:Shared} {σ:St} {H:Hp} {R:V→V→Hp→Prop} (I:Inv X pins σ H s)
  (h:ta σ H fun x H1=>tb σ H1 fun y H2=>R x y H2) {Q:Value→Shared→Prop} {f:Value→Value→Sem Value}
  (hf:∀ v u s2 x y H2,Inv X pins σ H2 s2→RelV x v→RelV y u→R x y H2→wpAny (model X.prog X.w) X.A (f v u) Q X.xe s2) :
  wpAny (model X.prog X.w) X.A (eval a X.env) (fun v s₁=>wpAny (model X.prog X.w) X.A (eval b X.env) (fun u s₂=>wpAny (model X.prog X.w) X.A (f v u) Q X.xe s₂) X.xe s₁) X.xe s:=by
 refine thn (ha pins s σ H _ I h) fun v s1 ⟨x,H1,I1,r1,q1⟩=>?_
 refine thn (hb pins s1 σ H1 _ I1 q1) fun u s2 ⟨y,H2,I2,r2,q2⟩=>?_
 exact hf v u s2 x y H2 I2 r1 r2 q2
theorem jbv {op:Operator} {r:R2} (ho:OpR X (binaryOp op) r) (ha:PE X a ta) (hb:PE X b tb):PE X (.BinOp a op b pos) (tOp r ta tb):=by
 intro pins s σ H Q I h
 exact wpAny_BinOp (binT ha hb I h fun v u s2 x y H2 I2 rx ry q=>ho pins s2 σ H2 x y v u Q I2 rx ry q)
theorem jng {op:UnaryOp} {r:V→Hp→VK→Prop} (ho:UnR X (unaryOp op) r) (ha:PE X a ta):PE X (.UnaryOp op a pos) (tUn r ta):=by
 intro pins s σ H Q I h
 exact UnaryOp_ (thn (ha pins s σ H _ I h) fun v s1 ⟨x,H1,I1,r1,q1⟩=>ho pins s1 σ H1 x v Q I1 r1 q1)
theorem opI {f:Value→Value→Sem Value} {C:Int→Int→Prop} {g:Int→Int→Int}
  (rule:∀ (i j:Int) (t u:Tok) (s:Shared) (Q:Value→Shared→Prop) (E:Value→Shared→Prop),C i j→Q (.int (g i j) s.toks) { s with toks:=s.toks + 1 }→wpAny (model X.prog X.w) X.A (f (.int i t) (.int j u)) Q E s) :
  OpR X f (rI C fun i j=>.int (g i j)):=by
 intro pins s σ H x y v u Q I rx ry h
 obtain ⟨i,j,rfl,rfl,hc,q⟩:=h
 obtain ⟨t,rfl⟩:=rx
 obtain ⟨t',rfl⟩:=ry
 exact rule i j t t' s _ _ hc ⟨.int (g i j),H,I.tok _,⟨_,rfl⟩,q⟩
theorem opI0 {f:Value→Value→Sem Value} {g:Int→Int→Int}
  (rule:∀ (i j:Int) (t u:Tok) (s:Shared) (Q:Value→Shared→Prop) (E:Value→Shared→Prop),Q (.int (g i j) s.toks) { s with toks:=s.toks + 1 }→wpAny (model X.prog X.w) X.A (f (.int i t) (.int j u)) Q E s) :
  OpR X f (rI0 fun i j=>.int (g i j)):=by
 intro pins s σ H x y v u Q I rx ry h
 obtain ⟨i,j,rfl,rfl,q⟩:=h
 obtain ⟨t,rfl⟩:=rx
 obtain ⟨t',rfl⟩:=ry
 exact rule i j t t' s _ _ ⟨.int (g i j),H,I.tok _,⟨_,rfl⟩,q⟩
theorem opB0 {f:Value→Value→Sem Value} {g:Int→Int→Bool}
  (rule:∀ (i j:Int) (t u:Tok) (s:Shared) (Q:Value→Shared→Prop) (E:Value→Shared→Prop),Q (.bool (g i j)) s→wpAny (model X.prog X.w) X.A (f (.int i t) (.int j u)) Q E s) :
  OpR X f (rI0 fun i j=>.bl (g i j)):=by
 intro pins s σ H x y v u Q I rx ry h
 obtain ⟨i,j,rfl,rfl,q⟩:=h
 obtain ⟨t,rfl⟩:=rx
 obtain ⟨t',rfl⟩:=ry
 exact rule i j t t' s _ _ ⟨.bl (g i j),H,I,rfl,q⟩
def CDiv (i j:Int):Prop:=0 < j∧j < 1073741824
def CPow (i j:Int):Prop:=0 ≤ j∧j ≤ 1000000∧i.natAbs < 2 ^ 64
def CMul (i j:Int):Prop:=(-(2 ^ 64) < i∧i < 2 ^ 64) ∨ (-(2 ^ 64) < j∧j < 2 ^ 64)
theorem CMul.ok {i j:Int} (h:CMul i j):IntMulOk i j:=by
 rcases h with ⟨h1,h2⟩ | ⟨h1,h2⟩
 ·exact .of_left (intBits_le_64 h1 h2)
 ·exact .of_right (intBits_le_64 h1 h2)
theorem op_add:OpR X (binaryOp .Add) (rI0 fun i j=>.int (i + j)):=opI0 fun _ _ _ _ _ _ _ q=>add_int q
theorem op_sub:OpR X (binaryOp .Sub) (rI0 fun i j=>.int (i - j)):=opI0 fun _ _ _ _ _ _ _ q=>sub_int q
theorem op_mul:OpR X (binaryOp .Mult) (rI CMul fun i j=>.int (i * j)):=opI fun _ _ _ _ _ _ _ hc q=>mul_int q hc.ok
theorem ju6:OpR X (binaryOp .FloorDiv) (rI CDiv fun i j=>.int (i / j)):=opI fun i j _ _ _ _ _ hc q=>by
 have h1:(0:Int) < j:=hc.1
 have h2:j < 1073741824:=hc.2
 exact floordiv_int (by omega) (by rw [Int.fdiv_eq_ediv_of_nonneg i (by omega)]; exact q) (.inl (PyProof.noPylong_small (by omega)))
theorem op_mod:OpR X (binaryOp .Mod) (rI (fun _ j=>0 < j) fun i j=>.int (i % j)):=opI fun i j _ _ _ _ _ hc q=>by
 have h1:(0:Int) < j:=hc
 exact mod_int' (by omega) (by rw [Int.fmod_eq_emod_of_nonneg i (by omega)]; exact q)
theorem op_pow:OpR X (binaryOp .Pow) (rI CPow fun i j=>.int (i ^ j.toNat)):=opI fun _ _ _ _ _ _ _ hc q=>pow_int_small hc.1 hc.2.1 hc.2.2 q
theorem jum:OpR X (inplaceOp .Add) (rI0 fun i j=>.int (i + j)):=opI0 fun _ _ _ _ _ _ _ q=>iadd_int q
theorem unI {f:Value→Sem Value} {g:Int→Int}
  (rule:∀ (i:Int) (t:Tok) (s:Shared) (Q:Value→Shared→Prop) (E:Value→Shared→Prop),Q (.int (g i) s.toks) { s with toks:=s.toks + 1 }→wpAny (model X.prog X.w) X.A (f (.int i t)) Q E s) :
  UnR X f (rU fun i=>.int (g i)):=by
 intro pins s σ H x v Q I rx h
 obtain ⟨i,rfl,q⟩:=h
 obtain ⟨t,rfl⟩:=rx
 exact rule i t s _ _ ⟨.int (g i),H,I.tok _,⟨_,rfl⟩,q⟩
theorem un_neg:UnR X (unaryOp .USub) (rU fun i=>.int (-i)):=unI fun _ _ _ _ _ q=>neg_int q
end
def scal:V→V→Bool
 | .non,.non=>true | .non,.int _=>true | .int _,.non=>true | .non,.bl _=>true | .bl _,.non=>true | .non,.str _=>true | .str _,.non=>true
 | .int _,.int _=>true | .bl _,.bl _=>true | .str _,.str _=>true | .byt _,.byt _=>true
 | .int _,.str _=>true | .str _,.int _=>true | .bl _,.str _=>true | .str _,.bl _=>true
 | _,_=>false
def rEq:R2:=fun x y H Q=>scal x y = true∧Q (.bl (decide (x = y))) H
def rNe:R2:=fun x y H Q=>scal x y = true∧Q (.bl (!decide (x = y))) H
theorem jqn {i j:Int}:decide (V.int i = V.int j) = (i == j):=by
 rw [Bool.eq_iff_iff]
 simp
theorem jth {i j:Bool}:decide (V.bl i = V.bl j) = (i == j):=by
 rw [Bool.eq_iff_iff]
 simp
theorem jqm {i j:Str}:decide (V.str i = V.str j) = (i == j):=by
 rw [Bool.eq_iff_iff]
 simp
theorem jqo {i j:Array UInt8}:decide (V.byt i = V.byt j) = (i.toList == j.toList):=by
 rw [Bool.eq_iff_iff]
 cases i
 cases j
 simp
section
variable {X:Cx} {a b c:Expr} {ta tb tc:TE} {pos:Pos}
theorem jc3 {pins:List (Addr × Obj)} {σ:St} {H:Hp} {s:Shared} {Q:VK} {k k':Bool} (I:Inv X pins σ H s) (q:Q (.bl k) H) (e:k = k'):EP X pins σ Q (.bool k') s:=by
 subst e
 exact ⟨.bl k,H,I,rfl,q⟩
theorem op_eq:OpR X (compareOp .Eq) rEq:=by
 intro pins s σ H x y v u Q I rx ry h
 obtain ⟨hs,q⟩:=h
 cases x with
 | non =>
  cases rx
  cases y with
  | non=>cases ry; exact PySem.EqNone.eq_none_none (jc3 I q (by simp))
  | bl j=>cases ry; exact PySem.EqNone.eq_none_bool (jc3 I q (by simp))
  | int j=>obtain ⟨t',rfl⟩:=ry; exact PySem.EqNone.eq_none_int (jc3 I q (by simp))
  | str j=>obtain ⟨t',rfl⟩:=ry; exact PySem.EqNone.eq_none_str (jc3 I q (by simp))
  | _=>exact absurd (show false = true from hs) Bool.false_ne_true
 | bl i =>
  cases rx
  cases y with
  | non=>cases ry; exact PySem.EqNone.eq_bool_none (jc3 I q (by simp))
  | bl j=>cases ry; exact eq_bool (jc3 I q jth)
  | str j=>obtain ⟨t',rfl⟩:=ry; exact PySem.EqMixed.eq_bool_str (jc3 I q (by simp))
  | _=>exact absurd (show false = true from hs) Bool.false_ne_true
 | int i =>
  obtain ⟨t,rfl⟩:=rx
  cases y with
  | non=>cases ry; exact PySem.EqNone.eq_int_none (jc3 I q (by simp))
  | int j=>obtain ⟨t',rfl⟩:=ry; exact eq_int (jc3 I q jqn)
  | str j=>obtain ⟨t',rfl⟩:=ry; exact PySem.EqMixed.eq_int_str (jc3 I q (by simp))
  | _=>exact absurd (show false = true from hs) Bool.false_ne_true
 | str i =>
  obtain ⟨t,rfl⟩:=rx
  cases y with
  | non=>cases ry; exact PySem.EqNone.eq_str_none (jc3 I q (by simp))
  | bl j=>cases ry; exact PySem.EqMixed.eq_str_bool (jc3 I q (by simp))
  | int j=>obtain ⟨t',rfl⟩:=ry; exact PySem.EqMixed.eq_str_int (jc3 I q (by simp))
  | str j=>obtain ⟨t',rfl⟩:=ry; exact eq_str (jc3 I q jqm)
  | _=>exact absurd (show false = true from hs) Bool.false_ne_true
 | byt i =>
  obtain ⟨t,rfl⟩:=rx
  cases y with
  | byt j=>obtain ⟨t',rfl⟩:=ry; exact PySem.W.eq_bytes (jc3 I q jqo)
  | _=>exact absurd (show false = true from hs) Bool.false_ne_true
 | _=>cases y <;> exact absurd (show false = true from hs) Bool.false_ne_true
theorem op_ne:OpR X (compareOp .NotEq) rNe:=by
 intro pins s σ H x y v u Q I rx ry h
 obtain ⟨hs,q⟩:=h
 cases x with
 | non =>
  cases rx
  cases y with
  | non=>cases ry; exact PySem.EqNone.ne_none_none (jc3 I q (by simp))
  | bl j=>cases ry; exact PySem.EqNone.ne_none_bool (jc3 I q (by simp))
  | int j=>obtain ⟨t',rfl⟩:=ry; exact PySem.EqNone.ne_none_int (jc3 I q (by simp))
  | str j=>obtain ⟨t',rfl⟩:=ry; exact PySem.EqNone.ne_none_str (jc3 I q (by simp))
  | _=>exact absurd (show false = true from hs) Bool.false_ne_true
 | bl i =>
  cases rx
  cases y with
  | non=>cases ry; exact PySem.EqNone.ne_bool_none (jc3 I q (by simp))
  | bl j=>cases ry; exact ne_bool (jc3 I q (congrArg not jth))
  | str j=>obtain ⟨t',rfl⟩:=ry; exact PySem.EqMixed.ne_bool_str (jc3 I q (by simp))
  | _=>exact absurd (show false = true from hs) Bool.false_ne_true
 | int i =>
  obtain ⟨t,rfl⟩:=rx
  cases y with
  | non=>cases ry; exact PySem.EqNone.ne_int_none (jc3 I q (by simp))
  | int j=>obtain ⟨t',rfl⟩:=ry; exact ne_int (jc3 I q (congrArg not jqn))
  | str j=>obtain ⟨t',rfl⟩:=ry; exact PySem.EqMixed.ne_int_str (jc3 I q (by simp))
  | _=>exact absurd (show false = true from hs) Bool.false_ne_true
 | str i =>
  obtain ⟨t,rfl⟩:=rx
  cases y with
  | non=>cases ry; exact PySem.EqNone.ne_str_none (jc3 I q (by simp))
  | bl j=>cases ry; exact PySem.EqMixed.ne_str_bool (jc3 I q (by simp))
  | int j=>obtain ⟨t',rfl⟩:=ry; exact PySem.EqMixed.ne_str_int (jc3 I q (by simp))
  | str j=>obtain ⟨t',rfl⟩:=ry; exact ne_str (jc3 I q (congrArg not jqm))
  | _=>exact absurd (show false = true from hs) Bool.false_ne_true
 | byt i =>
  obtain ⟨t,rfl⟩:=rx
  cases y with
  | byt j=>obtain ⟨t',rfl⟩:=ry; exact PySem.W.ne_bytes (jc3 I q (congrArg not jqo))
  | _=>exact absurd (show false = true from hs) Bool.false_ne_true
 | _=>cases y <;> exact absurd (show false = true from hs) Bool.false_ne_true
theorem op_lt:OpR X (compareOp .Lt) (rI0 fun i j=>.bl (decide (i < j))):=opB0 fun _ _ _ _ _ _ _ q=>lt_int q
theorem op_le:OpR X (compareOp .LtE) (rI0 fun i j=>.bl (decide (i ≤ j))):=opB0 fun _ _ _ _ _ _ _ q=>le_int q
theorem op_gt:OpR X (compareOp .Gt) (rI0 fun i j=>.bl (decide (j < i))):=opB0 fun _ _ _ _ _ _ _ q=>gt_int q
theorem op_ge:OpR X (compareOp .GtE) (rI0 fun i j=>.bl (decide (j ≤ i))):=opB0 fun _ _ _ _ _ _ _ q=>ge_int q
theorem ju5:OpR X (compareOp .IsNot) (fun x y H Q=>y = .non∧Q (.bl (!decide (x = .non))) H):=by
 intro pins s σ H x y v u Q I rx ry h
 obtain ⟨rfl,q⟩:=h
 cases ry
 refine isnot_none_gen (jc3 I q ?_)
 cases x <;> first
  | (cases rx; rfl)
  | (obtain ⟨t,rfl⟩:=rx; rfl)
theorem jc5 (b:Expr) {op:CmpOp} (h:op ≠ .In:=by decide) (h2:op ≠ .NotIn:=by decide):behindInMarks op b = false:=by
 have e1:(op == CmpOp.In) = false:=by cases op <;> first | rfl | exact absurd rfl h
 have e2:(op == CmpOp.NotIn) = false:=by cases op <;> first | rfl | exact absurd rfl h2
 cases b <;> simp [behindInMarks,e1,e2]
theorem jd7 {op:CmpOp} {r:R2} (ho:OpR X (compareOp op) r) (ha:PE X a ta) (hb:PE X b tb) (hm:behindInMarks op b = false):PE X (.Compare a [op] [b] pos) (tOp r ta tb):=by
 intro pins s σ H Q I h
 exact wpAny_Compare1 (binT ha hb I h fun v u s2 x y H2 I2 rx ry q=>ho pins s2 σ H2 x y v u Q I2 rx ry q) hm
def TruV (K:PySem.W.Frag) (x:V) (H:Hp) (k:Bool):Prop :=
 match x with
 | .non=>k = false
 | .bl b=>k = b
 | .int i=>k = (i != 0)
 | .str y=>y.length ≤ sizeLine∧k = ((y.length:Int) != 0)
 | .byt y=>y.size ≤ sizeLine∧k = ((y.size:Int) != 0)
 | .ref p=>(∃ xs,SqL K H p xs∧k = !xs.isEmpty) ∨ (∃ xs,SqT K H p xs∧k = !xs.isEmpty) ∨ ∃ kvs,H p = some (.dK kvs)∧k = !kvs.isEmpty
 | _=>False
theorem jns {κ:Type} {kvs:List (κ × V)} {vs:List (κ × Value)} (r:KV kvs vs):(!vs.isEmpty) = !kvs.isEmpty:=by
 cases r <;> rfl
theorem jhz {xs:List V} {its:List Value} (r:Vals xs its):(!its.toArray.isEmpty) = !xs.isEmpty:=by
 cases r <;> simp
theorem jhw:(sizeLine:Nat) < 2 ^ 63:=by rw [sizeLine_eq]; decide
theorem tru_ok:TruR X (fun x H Q=>∃ k,TruV X.K x H k∧Q k H):=by
 intro pins s σ H x v Q I rx h
 obtain ⟨k,e,q⟩:=h
 have hl:=jhw
 have hs:sizeLine = 16777216:=sizeLine_eq
 cases x with
 | non =>
  cases rx
  have e':k = false:=e
  subst e'
  exact truthy_none ⟨H,I,q⟩
 | bl b =>
  cases rx
  have e':k = b:=e
  subst e'
  exact wpAny_truthy_bool ⟨H,I,q⟩
 | int i =>
  obtain ⟨t,rfl⟩:=rx
  have e':k = (i != 0):=e
  subst e'
  exact PySem.P.truthy_int ⟨H,I,q⟩
 | str y =>
  obtain ⟨t,rfl⟩:=rx
  obtain ⟨hy,e'⟩:y.length ≤ sizeLine∧k = ((y.length:Int) != 0):=e
  subst e'
  exact PySem.P.truthy_str (by omega) ⟨H,I.tok _,q⟩
 | byt y =>
  obtain ⟨t,rfl⟩:=rx
  obtain ⟨hy,e'⟩:y.size ≤ sizeLine∧k = ((y.size:Int) != 0):=e
  subst e'
  exact PySem.W.truthy_bytes (by omega) ⟨H,I.tok _,q⟩
 | ref p =>
  cases rx
  have e':(∃ xs,SqL X.K H p xs∧k = !xs.isEmpty) ∨ (∃ xs,SqT X.K H p xs∧k = !xs.isEmpty) ∨ ∃ kvs,H p = some (.dK kvs)∧k = !kvs.isEmpty:=e
  rcases e' with ⟨xs,hx,e'⟩ | ⟨xs,hx,e'⟩ | ⟨kvs,hx,e'⟩
  ·subst e'
   obtain ⟨its,r,pl,hz⟩:=I.list hx
   have hlen:=r.length
   exact wpAny_truthy_list pl.isList (by simp only [List.size_toArray]; omega) ⟨H,I.tok _,by rw [jhz r]; exact q⟩
  ·subst e'
   obtain ⟨its,r,pl,hz⟩:=I.tuple hx
   have hlen:=r.length
   exact truthy_tuple pl (by simp only [List.size_toArray]; omega) ⟨H,I.tok _,by rw [jhz r]; exact q⟩
  ·subst e'
   obtain ⟨hz,hS,vs,r,m⟩:kvs.length ≤ sizeLine∧(p == sysModules) = false∧∃ vs,KV kvs vs∧s.heap.DictOf (jby X.prog X.w) p vs:=I.hok p _ hx
   have hlen:kvs.length = vs.length:=Paired.length r
   exact wpAny_truthy_dict hS m (by omega) ⟨H,I.tok _,by rw [jns r]; exact q⟩
 | _=>exact (show False from e).elim
theorem jrm (ha:PE X a ta) (he:∀ whole,isTrue a X.env whole = (do let v ← whole; standAt a.pos; holding [v] (truthy v))) :
  PT X a (fun σ H Q=>ta σ H fun x H'=>∃ k,TruV X.K x H' k∧Q k H'):=by
 intro pins s σ H Q I h
 exact isTrue_plain (thn (ha pins s σ H _ I h) fun v s1 ⟨x,H1,I1,r1,q1⟩=>tru_ok pins s1 σ H1 x v Q I1 r1 q1) (he _)
theorem jjl {x:V} {us:List Value} (r:Vals [x] us):∃ u,us = [u]∧RelV x u:=by
 cases r with
 | cons r1 r2=>cases r2; exact ⟨_,rfl,r1⟩
theorem vals2 {x y:V} {us:List Value} (r:Vals [x,y] us):∃ u w',us = [u,w']∧RelV x u∧RelV y w':=by
 cases r with
 | cons r1 r2 =>
  cases r2 with
  | cons r3 r4=>cases r4; exact ⟨_,_,rfl,r1,r3⟩
theorem jqz (hc:X.calm = true):jda X (.builtin "max") (fun xs H Q=>∃ i j,xs = [.int i,.int j]∧Q (.int (if j > i then j else i)) H):=by
 intro pins s σ H xs us Q I r h
 obtain ⟨i,j,rfl,q⟩:=h
 obtain ⟨u,w',rfl,⟨t,rfl⟩,⟨t',rfl⟩⟩:=vals2 r
 refine max_two_ints (I.ok.hd hc) fun h' tk k=>⟨_,H,I.kept k,?_,q⟩
 by_cases hj:j > i
 ·rw [if_pos hj,if_pos hj]; exact ⟨_,rfl⟩
 ·rw [if_neg hj,if_neg hj]; exact ⟨_,rfl⟩
theorem jqx (hc:X.calm = true):jda X (.builtin "min") (fun xs H Q=>∃ i j,xs = [.int i,.int j]∧Q (.int (if j < i then j else i)) H):=by
 intro pins s σ H xs us Q I r h
 obtain ⟨i,j,rfl,q⟩:=h
 obtain ⟨u,w',rfl,⟨t,rfl⟩,⟨t',rfl⟩⟩:=vals2 r
 refine min_two_ints (I.ok.hd hc) fun h' tk k=>⟨_,H,I.kept k,?_,q⟩
 by_cases hj:j < i
 ·rw [if_pos hj,if_pos hj]; exact ⟨_,rfl⟩
 ·rw [if_neg hj,if_neg hj]; exact ⟨_,rfl⟩
end
end L2
namespace L2
open PySem PySem.Spec PyProof.Rows
structure ObjM (h:Heap) (x dx C:Addr) (mA:Str→Option Value):Prop where
 obj:h.get? x = some (PySem.W.instObj C dx)
 ns:h.Ns1 dx mA
 ne:dx ≠ x
theorem jpx {h:Heap} {dx:Addr} {mA:Str→Option Value} (n:h.Ns1 dx mA):∃ od,h.get? dx = some od∧∀ name,PySem.W.lookIn name od = some (mA name):=by
 obtain ⟨o,es,ep,ho,hd,hk,_,hm⟩:=n
 refine ⟨o,ho,fun name=>?_⟩
 have e:=hm name
 unfold nsFind findBy at e
 rw [← Array.find?_toList] at e
 unfold PySem.W.lookIn
 rw [hd]
 dsimp only
 split
 ·rename_i y q
  rw [q] at e
  exact congrArg some e
 ·rename_i q
  rw [q] at e
  have a:es.toList.any (·.refKey) = false:=by
   rw [List.any_eq_false]
   intro y hy
   obtain ⟨z,t,hkey⟩:=hk y (Array.mem_toList_iff.mp hy)
   simp [DictEntry.refKey,hkey]
  have a':¬ es.toList.any (·.refKey) = true:=by rw [a]; exact Bool.false_ne_true
  rw [if_neg a']
  exact congrArg some e
theorem ObjM.look {h:Heap} {x dx C:Addr} {mA:Str→Option Value} (I:ObjM h x dx C mA):∃ od,PySem.W.InstAt h x (PySem.W.instObj C dx) C (some od)∧∀ name,PySem.W.lookIn name od = some (mA name) :=
 let ⟨od,ho,hl⟩:=jpx I.ns
 ⟨od,⟨I.obj,rfl,rfl,ho⟩,hl⟩
section
variable {prog:Program} {w:World} {A:Around} {E:Value→Shared→Prop} {s:Shared} {K:PySem.W.Frag} {x dx C f:Addr} {mA:Str→Option Value} {name:Str} {v:Value}
theorem juq {expr:Bool} {Q:Value→Shared→Prop} (X:K.In s.heap) (I:ObjM s.heap x dx C mA) (hg:PySem.W.plainGet K C name = true) (hh:PySem.W.hasDictIn K C = true)
  (ha:PySem.W.findIn K (.ref C) name = some none) (hv:mA name = some v) (hv':PySem.W.handedIn v = true) (h:Q v { s with toks:=s.toks + 1 }) :
  wpAny (model prog w) A (getAttr (.ref x) name expr) Q E s:=by
 obtain ⟨od,J,hl⟩:=I.look
 exact PySem.W.get_value X J (PySem.W.plainGet_of hg).1 (PySem.W.findObj_own hh ha rfl (by rw [hl,hv])) hv' h
theorem jsa {pl:Sem Bool} {Q:Value × List Value→Shared→Prop} (X:K.In s.heap) (I:ObjM s.heap x dx C mA) (hg:PySem.W.plainGet K C name = true)
  (hf:PySem.W.findIn K (.ref C) name = some (some (.ref f))) (ht:PySem.W.isFn K (.ref f) = true) (hv:mA name = none) (h:Q (.ref f,[.ref x]) s) :
  wpAny (model prog w) A (getMethod (.ref x) name pl) Q E s:=by
 obtain ⟨od,J,hl⟩:=I.look
 exact PySem.W.method_fn X J (PySem.W.plainGet_of hg).1 (PySem.W.plainGet_of hg).2 hf (beq_iff_eq.mp ht) (by show (PySem.W.lookIn name od).map (·.isSome) = some false; rw [hl,hv]; rfl) h
theorem jtp {ns:List Str} {Q:Unit→Shared→Prop} (X:K.In s.heap) (I:ObjM s.heap x dx C mA)
  (hs:PySem.W.findIn K (.ref C) "__setattr__" = some (some (.builtin "object.__setattr__"))) (hp:PySem.W.plainOver K C = true) (ht:PySem.W.takerIn K C name = some none) (hh:PySem.W.hasDictIn K C = true)
  (hw:PySem.Within mA ns) (hsz:ns.length ≤ sizeLine)
  (h:∀ h',ObjM h' x dx C (fun y=>if y = name then some v else mA y)→Heap.SameBut dx s.heap h'→Q () { s with heap:=h',toks:=s.toks + 2 }) :
  wpAny (model prog w) A (setAttr (.ref x) name v) Q E s:=by
 obtain ⟨od,J,hl⟩:=I.look
 refine PySem.W.set_plain X J hs (PySem.W.osa_open (s:={ s with toks:=s.toks + 1 }) (r:=none) X J hp ht fun b=>?_)
 obtain ⟨cd,hc,hd'⟩:=PySem.W.any_some hh
 have hx:s.heap.get? x = some ⟨.ref C,some dx,.plain,#[]⟩:=I.obj
 refine wpAny_bind (wpAny_pure (wpAny_bind (wpAny_bind (wpAny_loadPart hx (wpAny_bind (PySem.W.Looks.here (s:={ s with toks:=s.toks + 1 }) (PySem.W.looks_clsIn X hc) ?_))))))
 rw [hd']
 refine wpAny_pure (a:=some dx) (wpAny_bind (wpAny_pure (wpAny_bind ?_)))
 refine wpAny_nsSet1 (s:={ s with toks:=s.toks + 1 }) I.ns fun h' hn2 hs2=>?_
 obtain ⟨oD,esD,epD,hoD,hdD,hcD⟩:=hn2.count (PySem.Within.cons name v hw)
 refine wpAny_bind (wpAny_lookBehind hoD (by rw [hdD]; exact pastItsLine_dict (Nat.le_trans hcD (by rw [List.length_cons]; omega))) ?_)
 exact wpAny_pure (h _ ⟨(hs2.2 _ (Ne.symm I.ne)).trans I.obj,hn2,I.ne⟩ hs2)
theorem js4 {R:Result→Shared→Prop} {vs:List Value} {kw:List (Str × Value)} (X:K.In s.heap) (hm:PySem.W.makesIn K C = true)
  (hi:PySem.W.findIn K (.ref C) "__init__" = some (some (.ref f))) (hf:PySem.W.typeIn K (.ref f) = some (.type "function"))
  (h:codeAny (model prog w) (A.under (.builtin "type.__call__" ⟨.ref C :: vs,kw⟩)) (.call (.ref f) ⟨.ref (s.heap.objs.size + 1) :: vs,kw⟩) (PySem.W.InitBack (s.heap.objs.size + 1) R)
   { s with heap:=(s.heap.push PySem.W.emptyDict).push (PySem.W.instObj C s.heap.objs.size) }) :
  codeAny (model prog w) A (.call (.ref C) ⟨vs,kw⟩) R s:=by
 obtain ⟨hh,g,d,t,os⟩:=s
 exact PySem.W.make_core (PySem.W.makes_of X hm) (PySem.W.looks_findIn X hi) (fun self=>PySem.W.bind_fn X self hf) (.inl rfl) h
end
def putF (f:Str) (v:V):List (Str × V)→List (Str × V)
 | []=>[(f,v)]
 | (g,x) :: r=>if g = f then (g,v) :: r else (g,x) :: putF f v r
theorem jh0 (f g:Str) (v:V):∀ fs:List (Str × V),(putF f v fs).lookup g = if g = f then some v else fs.lookup g
 | []=>by
  show List.lookup g [(f,v)] = _
  by_cases h:g = f
  ·have hb:(g == f) = true:=beq_iff_eq.mpr h
   simp only [List.lookup,hb,if_pos h]
  ·have hb:(g == f) = false:=beq_eq_false_iff_ne.mpr h
   simp only [List.lookup,hb,if_neg h]
 | (k,x) :: r=>by
  have ih:=jh0 f g v r
  rw [show putF f v ((k,x) :: r) = (if k = f then (k,v) :: r else (k,x) :: putF f v r) from rfl]
  by_cases hk:k = f
  ·rw [if_pos hk]
   by_cases h:g = k
   ·have hb:(g == k) = true:=beq_iff_eq.mpr h
    simp only [List.lookup,hb,if_pos (h.trans hk)]
   ·have hb:(g == k) = false:=beq_eq_false_iff_ne.mpr h
    simp only [List.lookup,hb,if_neg (fun e:g = f=>h (e.trans hk.symm))]
  ·rw [if_neg hk]
   by_cases h:g = k
   ·have hb:(g == k) = true:=beq_iff_eq.mpr h
    simp only [List.lookup,hb,if_neg (fun e:g = f=>hk (h.symm.trans e))]
   ·have hb:(g == k) = false:=beq_eq_false_iff_ne.mpr h
    simp only [List.lookup,hb]
    exact ih
theorem jh3 (f:Str) (v:V):∀ fs:List (Str × V),f ∈ (putF f v fs).map (·.1)∧∀ g,g ∈ fs.map (·.1)→g ∈ (putF f v fs).map (·.1)
 | []=>⟨by simp [putF],fun g h=>by simp at h⟩
 | (k,x) :: r=>by
  obtain ⟨i1,i2⟩:=jh3 f v r
  rw [show putF f v ((k,x) :: r) = (if k = f then (k,v) :: r else (k,x) :: putF f v r) from rfl]
  by_cases hk:k = f
  ·rw [if_pos hk]
   subst hk
   exact ⟨by simp,fun g h=>by simpa using h⟩
  ·rw [if_neg hk]
   refine ⟨?_,fun g h=>?_⟩
   ·rw [List.map_cons]
    exact List.mem_cons_of_mem _ i1
   ·rw [List.map_cons] at h ⊢
    rcases List.mem_cons.mp h with e | e
    ·exact List.mem_cons.mpr (.inl e)
    ·exact List.mem_cons_of_mem _ (i2 g e)
theorem jh2 (f:Str) (v:V):∀ fs:List (Str × V),(putF f v fs).length ≤ fs.length + 1
 | []=>by simp [putF]
 | (k,x) :: r=>by
  have ih:=jh2 f v r
  rw [show putF f v ((k,x) :: r) = (if k = f then (k,v) :: r else (k,x) :: putF f v r) from rfl]
  by_cases hk:k = f
  ·rw [if_pos hk,List.length_cons,List.length_cons]; omega
  ·rw [if_neg hk,List.length_cons,List.length_cons]; omega
theorem RelO.some_of {v:V} {o:Option Value} (r:RelO (some v) o):∃ u,o = some u∧RelV v u:=by
 cases o with
 | none=>exact (show False from r).elim
 | some u=>exact ⟨u,rfl,r⟩
theorem RelO.none_of {o:Option Value} (r:RelO none o):o = none:=by
 cases o with
 | none=>rfl
 | some u=>exact (show False from r).elim
theorem jqb {v:V} {u:Value} (r:RelV v u):PySem.W.handedIn u = true:=by
 cases v with
 | non=>cases (show u = Value.none from r); rfl
 | bl b=>cases (show u = Value.bool b from r); rfl
 | int i=>obtain ⟨t,e⟩:=(show ∃ t,u = Value.int i t from r); cases e; rfl
 | str x=>obtain ⟨t,e⟩:=(show ∃ t,u = Value.str x t from r); cases e; rfl
 | byt b=>obtain ⟨t,e⟩:=(show ∃ t,u = Value.bytes b t from r); cases e; rfl
 | flt b=>obtain ⟨t,e⟩:=(show ∃ t,u = Value.float b t from r); cases e; rfl
 | ref a=>cases (show u = Value.ref a from r); rfl
 | ty n=>cases (show u = Value.type n from r); rfl
section
variable {P:Program} {w:World} {H H':Hp} {h h':Heap} {a C dx:Addr} {fs fs':List (Str × V)}
theorem jj3 (hok:HOk P w H h) (e:H a = some (.ins C dx fs)):∃ mA,ObjM h a dx C mA∧(∀ f,RelO (fs.lookup f) (mA f))∧PySem.Within mA (fs.map (·.1))∧fs.length ≤ 1000∧H dx = some (.own a):=by
 obtain ⟨d,z,ne,ob,mA,n,r,q⟩:=(show jcy P w H h a (.ins C dx fs) from hok a _ e)
 exact ⟨mA,⟨ob,n,ne⟩,r,q,z,d⟩
end
structure Cls (K:PySem.W.Frag) (C:Addr):Prop where
 pg:PySem.W.plainGet K C Str.empty = true
 hd:PySem.W.hasDictIn K C = true
 po:PySem.W.plainOver K C = true
 sa:PySem.W.findIn K (.ref C) "__setattr__" = some (some (.builtin "object.__setattr__"))
theorem Cls.get {K:PySem.W.Frag} {C:Addr} (c:Cls K C) (f:Str):PySem.W.plainGet K C f = true:=c.pg
def jf6 (K:PySem.W.Frag) (C:Addr) (f:Str):Prop:=PySem.W.findIn K (.ref C) f = some none
theorem jf6.taker {K:PySem.W.Frag} {C:Addr} {f:Str} (n:jf6 K C f):PySem.W.takerIn K C f = some none:=by
 unfold PySem.W.takerIn
 rw [show PySem.W.findIn K (.ref C) f = some none from n]
 rfl
structure Meth (K:PySem.W.Frag) (C:Addr) (m:Str) (f:Addr):Prop where
 at_:PySem.W.findIn K (.ref C) m = some (some (.ref f))
 fn:PySem.W.isFn K (.ref f) = true
 kp:PySem.W.keepIn K (.ref f) = true
section
variable {X:Cx} {pins:List (Addr × Obj)} {σ:St} {H:Hp} {s:Shared} {a C dx:Addr} {fs:List (Str × V)} {f:Str} {v:V} {A:Around} {E:Value→Shared→Prop}
theorem jnt {b:Bool} {Q:Value→Shared→Prop} (I:Inv X pins σ H s) (e:H a = some (.ins C dx fs)) (c:Cls X.K C) (n:jf6 X.K C f) (l:fs.lookup f = some v)
  (h:∀ u s',Inv X pins σ H s'→RelV v u→Q u s'):wpAny (model X.prog X.w) A (getAttr (.ref a) f b) Q E s:=by
 obtain ⟨mA,O,r,_,_,_⟩:=jj3 I.hok e
 obtain ⟨u,hu,ru⟩:=RelO.some_of (v:=v) (o:=mA f) (by rw [← l]; exact r f)
 exact juq I.kIn O (c.get f) c.hd n hu (jqb ru) (h u _ (I.tok _) ru)
theorem ji0 {m:Str} {g:Addr} {pl:Sem Bool} {Q:Value × List Value→Shared→Prop} (I:Inv X pins σ H s) (e:H a = some (.ins C dx fs)) (c:Cls X.K C) (k:Meth X.K C m g) (l:fs.lookup m = none)
  (h:Q (.ref g,[.ref a]) s):wpAny (model X.prog X.w) A (getMethod (.ref a) m pl) Q E s:=by
 obtain ⟨mA,O,r,_,_,_⟩:=jj3 I.hok e
 have hn:mA m = none:=RelO.none_of (by rw [← l]; exact r m)
 exact jsa I.kIn O (c.get m) k.at_ k.fn hn h
theorem jnc {y:V} {u:Value} {Q:Unit→Shared→Prop} (I:Inv X pins σ H s) (e:H a = some (.ins C dx fs)) (c:Cls X.K C) (n:jf6 X.K C f) (hl:fs.length < 1000) (ry:RelV y u)
  (h:∀ s',Inv X pins σ (upd H a (.ins C dx (putF f y fs))) s'→Q () s'):wpAny (model X.prog X.w) A (setAttr (.ref a) f u) Q E s:=by
 obtain ⟨mA,O,r,wi,_,ho⟩:=jj3 I.hok e
 have hz:(fs.map (·.1)).length ≤ sizeLine:=by rw [List.length_map,sizeLine_eq]; omega
 refine jtp I.kIn O c.sa c.po n.taker c.hd wi hz fun h' O' sb=>h _ ?_
 have hd:∃ o,h'.get? dx = some o:=let ⟨o,_,_,e',_⟩:=O'.ns; ⟨o,e'⟩
 refine I.write (x:=a) (e:=dx) (by rw [e]; exact True.intro) (.inr ho) (fun b q hb z=>(sb.2 b hb).trans z) hd ?_
 refine ⟨by rw [jba O.ne]; exact ho,?_,O.ne,O'.obj,_,O'.ns,fun g=>?_,fun g hg=>?_⟩
 ·have:=jh2 f y fs; omega
 ·show RelO ((putF f y fs).lookup g) (if g = f then some u else mA g)
  rw [jh0]
  by_cases q:g = f
  ·rw [if_pos q,if_pos q]; exact ry
  ·rw [if_neg q,if_neg q]; exact r g
 ·by_cases q:g = f
  ·rw [q]; exact (jh3 f y fs).1
  ·refine (jh3 f y fs).2 g (wi g fun z=>hg ?_)
   show (if g = f then some u else mA g) = none
   rw [if_neg q]; exact z
theorem Inv.made (I:Inv X pins σ H s):Inv X pins σ (upd (upd H s.heap.objs.size (.own (s.heap.objs.size + 1))) (s.heap.objs.size + 1) (.ins C s.heap.objs.size []))
  { s with heap:=(s.heap.push PySem.W.emptyDict).push (PySem.W.instObj C s.heap.objs.size) }:=by
 have e1:(s.heap.push PySem.W.emptyDict).get? s.heap.objs.size = some PySem.W.emptyDict:=Heap.get?_push_size s.heap rfl
 have e2:((s.heap.push PySem.W.emptyDict).push (PySem.W.instObj C s.heap.objs.size)).get? (s.heap.objs.size + 1) = some (PySem.W.instObj C s.heap.objs.size):=by
  have:=Heap.get?_push_size (s.heap.push PySem.W.emptyDict) (o:=PySem.W.instObj C s.heap.objs.size) rfl
  rwa [Heap.size_push] at this
 have e3:(s.heap.push PySem.W.emptyDict).Ns s.heap.objs.size (fun _=>none):=⟨PySem.W.emptyDict,#[],_,e1,rfl,(fun e he=>absurd he (by simp)),fun _=>rfl⟩
 have I1:=I.laid (a:=s.heap.objs.size) (o:=.own (s.heap.objs.size + 1)) (h':=s.heap.push PySem.W.emptyDict) (t':=s.toks) (fun b u q=>Heap.get?_push_of_some _ q) (Nat.le_refl _) ⟨_,e1⟩
 refine I1.laid (a:=s.heap.objs.size + 1) (o:=.ins C s.heap.objs.size []) (t':=s.toks) (fun b u q=>Heap.get?_push_of_some _ q) (Nat.le_of_eq (Heap.size_push _ _)) ?_
 have ne:s.heap.objs.size ≠ s.heap.objs.size + 1:=Nat.ne_of_lt (Nat.lt_succ_self _)
 refine ⟨by rw [jba ne,ja4],Nat.zero_le _,ne,e2,fun _=>none,(Heap.Ns1.of_empty e3).at fun o q=>Heap.get?_push_of_some _ q,fun _=>True.intro,fun y hy=>absurd rfl hy⟩
theorem jv4 {prog:Program} {w:World} {env:Env} {e:Expr} {f:Str} {pos:Pos} {s:Shared} {Q:Value→Shared→Prop} (hb:attributeBase e f env (eval e env) = eval e env)
  (h:wpAny (model prog w) A (eval e env) (fun o s₁=>wpAny (model prog w) A (getAttr o f true) Q E s₁) E s):wpAny (model prog w) A (eval (.Attribute e f pos) env) Q E s :=
 Attribute_any_ h (by rw [arm_eval_Attribute,hb])
end
section
variable {X:Cx} {o e value:Expr} {f:Str} {pos pos' tpos:Pos} {ta tv:TE}
end
section
variable {X:Cx} {pins:List (Addr × Obj)} {σ:St} {H:Hp} {s:Shared} {A:Around} {E:Value→Shared→Prop} {Q:Value→Shared→Prop} {c:Value} {b:Bool}
inductive TyOf (K:PySem.W.Frag) (H:Hp):V→Value→Prop where
 | non:TyOf K H .non (.type "NoneType")
 | bl (x:Bool):TyOf K H (.bl x) (.type "bool")
 | int (i:Int):TyOf K H (.int i) (.type "int")
 | str (x:Str):TyOf K H (.str x) (.type "str")
 | flt (x:UInt64):TyOf K H (.flt x) (.type "float")
 | lst {a:Addr} {xs:List V} (e:H a = some (.lst xs)):TyOf K H (.ref a) (.type "list")
 | frz {a:Addr} {o:Obj} {xs:List V} (e:H a = some (.frz o (.lst xs))):TyOf K H (.ref a) (.type "list")
 | tup {a:Addr} {xs:List V} (e:H a = some (.tup xs)):TyOf K H (.ref a) (.type "tuple")
 | dK {a:Addr} {kvs:List (Key × V)} (e:H a = some (.dK kvs)):TyOf K H (.ref a) (.type "dict")
 | dT {a:Addr} {kvs:List (List Key × V)} (e:H a = some (.dT kvs)):TyOf K H (.ref a) (.type "dict")
 | ins {a C dx:Addr} {fs:List (Str × V)} (e:H a = some (.ins C dx fs)) (cl:Cls K C) (ha:PySem.W.findIn K (.ref C) "__class__" = some (some (.builtin "object.__class__")))
   (hn:PySem.W.specialIn K (.builtin "object.__class__") "__get__" = some (some (.builtin "getset_descriptor.__get__"))) (htk:PySem.W.takesIn K (.builtin "object.__class__") = some true)
   (hm:PySem.W.mroIn K C (.type "object") = some true):TyOf K H (.ref a) (.ref C)
theorem jq5 {x:V} {u t:Value} (I:Inv X pins σ H s) (rx:RelV x u) (ty:TyOf X.K H x t) (e:PySem.W.kitOne X.K t c = some b) (h:∀ tk,Q (.bool b) { s with toks:=tk }) :
  wpAny (model X.prog X.w) A (call (.builtin "isinstance") [u,c]) Q E s:=by
 cases ty with
 | non=>cases (show u = Value.none from rx); exact PySem.W.kia_one PySem.W.kitx_none I.kIn True.intro e (fun z=>nomatch z) h
 | bl y=>cases (show u = Value.bool y from rx); exact PySem.W.kia_one PySem.W.kitx_bool I.kIn True.intro e (fun z=>nomatch z) h
 | int i=>obtain ⟨t,q⟩:=(show ∃ t,u = Value.int i t from rx); cases q; exact PySem.W.kia_one PySem.W.kitx_int I.kIn True.intro e (fun z=>nomatch z) h
 | str y=>obtain ⟨t,q⟩:=(show ∃ t,u = Value.str y t from rx); cases q; exact PySem.W.kia_one PySem.W.kitx_str I.kIn True.intro e (fun z=>nomatch z) h
 | flt y=>obtain ⟨t,q⟩:=(show ∃ t,u = Value.float y t from rx); cases q; exact PySem.W.kia_one PySem.W.kitx_float I.kIn True.intro e (fun z=>nomatch z) h
 | @lst a xs ea =>
  cases (show u = Value.ref a from rx)
  obtain ⟨_,_,n,_,h1⟩:=(show jcy X.prog X.w H s.heap a (.lst xs) from I.hok a _ ea)
  exact PySem.W.kia_one PySem.W.kitx_list I.kIn ⟨_,h1,rfl⟩ e (fun z=>nomatch z) h
 | @frz a ob xs ea =>
  cases (show u = Value.ref a from rx)
  obtain ⟨_,_,_,n,_,h1⟩:=(show jcy X.prog X.w H s.heap a (.frz ob (.lst xs)) from I.hok a _ ea)
  exact PySem.W.kia_one PySem.W.kitx_list I.kIn ⟨_,h1,rfl⟩ e (fun z=>nomatch z) h
 | @tup a xs ea =>
  cases (show u = Value.ref a from rx)
  obtain ⟨_,_,_,p⟩:=(show jcy X.prog X.w H s.heap a (.tup xs) from I.hok a _ ea)
  obtain ⟨o,h1,h2,_⟩:=p
  exact PySem.W.kia_one PySem.W.kitx_tuple I.kIn ⟨o,h1,h2⟩ e (fun z=>nomatch z) h
 | @dK a kvs ea =>
  cases (show u = Value.ref a from rx)
  obtain ⟨_,_,vs,_,p⟩:=(show jcy X.prog X.w H s.heap a (.dK kvs) from I.hok a _ ea)
  obtain ⟨o,es,ep,h1,h2,_⟩:=p
  exact PySem.W.kia_one PySem.W.kitx_dict I.kIn ⟨o,h1,h2.1⟩ e (fun z=>nomatch z) h
 | @dT a kvs ea =>
  cases (show u = Value.ref a from rx)
  obtain ⟨_,_,xs,_,o,es,ep,h1,h2,_⟩:=(show jcy X.prog X.w H s.heap a (.dT kvs) from I.hok a _ ea)
  exact PySem.W.kia_one PySem.W.kitx_dict I.kIn ⟨o,h1,h2.1⟩ e (fun z=>nomatch z) h
 | @ins a C dx fs ea cl ha hn htk hm =>
  cases (show u = Value.ref a from rx)
  obtain ⟨mA,O,_⟩:=jj3 I.hok ea
  obtain ⟨od,J,_⟩:=O.look
  exact PySem.W.kia_one (PySem.W.kitx_own (cl.get _) cl.hd ha hn htk hm) I.kIn J e (fun z=>nomatch z) h
end
end L2
namespace L2
open PySem PySem.Spec PyProof.Rows
structure Room (k:Nat) (A:Around):Prop where
 hd:A.handled = none
 dp:A.depth + 3 * k + 5 < recursionLimit
 un:A.units + 16 * k + 200 < cLine
 gd:A.guards = some []
theorem Room.mono {j k:Nat} {A:Around} (r:Room k A) (h:j ≤ k):Room j A:=⟨r.hd,by have:=r.dp; omega,by have:=r.un; omega,by first | exact r.gd | (simp only [Around.deeper,Around.in1,Around.under]; exact r.gd)⟩
theorem Room.deeper {k:Nat} {A:Around} (r:Room (k + 1) A) (env:Env):Room k (A.deeper env) :=
 ⟨r.hd,by have:=r.dp; show A.depth + 1 + 3 * k + 5 < _; omega,by have:=r.un; show A.units + 3 + 16 * k + 200 < _; omega,by first | exact r.gd | (simp only [Around.deeper,Around.in1,Around.under]; exact r.gd)⟩
theorem jnr {A:Around} {C:Addr} {us:List Value} {kw:List (Str × Value)}:(A.under (.builtin "type.__call__" ⟨.ref C :: us,kw⟩)).depth = A.depth + 1:=by
 first | rfl | simp [Around.under,Code.weight,Code.isCreation,Code.isGuard,Code.isCaller,Code.frames,Code.isFrame,guardIds]
theorem jnq {A:Around} {C:Addr} {us:List Value} {kw:List (Str × Value)}:(A.under (.builtin "type.__call__" ⟨.ref C :: us,kw⟩)).units = A.units + 1:=by
 first | rfl | simp [Around.under,Code.cUnits,Code.frames,Code.isFrame]
theorem Room.make {k:Nat} {A:Around} (r:Room (k + 1) A) (C:Addr) (us:List Value) (kw:List (Str × Value)):Room k (A.under (.builtin "type.__call__" ⟨.ref C :: us,kw⟩)) :=
 ⟨r.hd,by have:=r.dp; rw [jnr]; omega,by have:=r.un; rw [jnq]; omega,by first | exact r.gd | (simp only [Around.deeper,Around.in1,Around.under]; exact r.gd)⟩
theorem Room.depth {k:Nat} {A:Around} (r:Room k A):A.depth < recursionLimit:=by have:=r.dp; omega
theorem Room.units {k:Nat} {A:Around} (r:Room k A):A.units + 64 < cLine:=by have:=r.un; omega
def tNil:TA:=fun _ H Q=>Q [] H
def jan (ta:TE) (tr:TA):TA:=fun σ H Q=>ta σ H fun x H1=>tr σ H1 fun xs H2=>Q (x :: xs) H2
section
variable {X:Cx} {e:Expr} {es:List Expr} {te:TE} {t:TA} {pos:Pos}
theorem jag:PA X [] tNil:=fun _ _ _ _ H Q I h=>Calls.spliced_nil ⟨[],H,I,.nil,h⟩
theorem ja0 (ha:PE X e te) (hr:PA X es t) (hs:starEach (e :: es) X.env = (false,eval e X.env) :: starEach es X.env:=by rfl):PA X (e :: es) (jan te t):=by
 intro pos pins s σ H Q I h
 rw [hs]
 show wpAny _ _ (spliced ((false,eval e X.env) :: backTo pos (starEach es X.env))) _ _ s
 refine Calls.spliced_cons (thn (ha pins s σ H _ I h) fun u s1 ⟨x,H1,I1,r1,q1⟩=>?_)
 exact thn (hr pos pins s1 σ H1 _ I1 q1) fun us s2 ⟨xs,H2,I2,r2,q2⟩=>⟨x :: xs,H2,I2,.cons r1 r2,q2⟩
def tTup (t:TA):TE:=fun σ H Q=>t σ H fun xs H1=>xs.length ≤ sizeLine∧∀ p,H1 p = none→Q (.ref p) (upd H1 p (.tup xs))
def tLst (t:TA):TE:=fun σ H Q=>t σ H fun xs H1=>xs.length ≤ sizeLine∧∀ p,H1 p = none→Q (.ref p) (upd H1 p (.lst xs))
theorem jch {x1} (h:PA X es t):PE X (.Tuple es x1 pos) (tTup t):=by
 intro pins s σ H Q I hq
 refine wpAny_Tuple_spliced (thn (h pos pins s σ H _ I hq) fun us s1 ⟨xs,H1,I1,r,z,q⟩=>⟨by rw [← r.length]; exact z,?_⟩)
 have hf:H1 s1.heap.objs.size = none:=I1.hok.fresh (Nat.le_refl _)
 refine ⟨.ref s1.heap.objs.size,upd H1 s1.heap.objs.size (.tup xs),I1.laid (t':=s1.toks) (fun b u e=>Heap.get?_push_of_some _ e) (Nat.le_refl _) ?_,rfl,q _ hf⟩
 exact ⟨z,us,r,⟨_,Heap.get?_push_size _ rfl,rfl,_,rfl⟩⟩
theorem jd4 (h:PA X es t):PE X (.List es pos) (tLst t):=by
 intro pins s σ H Q I hq
 refine wpAny_List_spliced (thn (h pos pins s σ H _ I hq) fun us s1 ⟨xs,H1,I1,r,z,q⟩=>⟨by rw [← r.length]; exact z,?_⟩)
 have hf:H1 s1.heap.objs.size = none:=I1.hok.fresh (Nat.le_refl _)
 refine ⟨.ref s1.heap.objs.size,upd H1 s1.heap.objs.size (.lst xs),I1.laid (t':=s1.toks) (fun b u e=>Heap.get?_push_of_some _ e) (Nat.le_refl _) ?_,rfl,q _ hf⟩
 exact ⟨z,us,0,r,Heap.get?_push_size _ rfl⟩
end
abbrev Sp:=List V→Hp→VK→XK→Prop
abbrev CXT:=List Env→Hp→Shared→XK→Value→Shared→Prop
structure Env0 (P:Program) (w:World) (K:PySem.W.Frag) (mg:Str→Option Value) (base:Heap) (A:Around) (outer:List Env) (s:Shared) (H:Hp):Prop where
 frames:A.frames = some outer
 mod:Mod K mg base
 bs:∀ b o,base.get? b = some o→s.heap.get? b = some o∧H b = none
 bsz:base.objs.size ≤ s.heap.objs.size
 funs:s.heap.FunFrames base outer
 frf:∀ b ∈ frs outer,H b = none
 hok:HOk P w H s.heap
 bare:AllBare s.gens
def CE (outer:List Env) (P:Program) (w:World) (H:Hp) (s:Shared) (Q:VK) (u:Value) (s':Shared):Prop :=
 ∃ v H',s'.os = s.os∧AllBare s'.gens∧Un (frs outer) [] H H' s.heap s'.heap∧HOk P w H' s'.heap∧RelV v u∧Q v H'
def CR (CX:CXT) (outer:List Env) (P:Program) (w:World) (H:Hp) (s:Shared) (Q:VK) (E:XK) (r:Result) (s':Shared):Prop :=
 match r with
 | .ok (.ret u)=>CE outer P w H s Q u s'
 | .ok _=>False
 | .error e=>CX outer H s E e s'
structure FnOk (P:Program) (w:World) (K:PySem.W.Frag) (mg:Str→Option Value) (base:Heap) (CX:CXT) (k:Nat) (f:Addr) (fd:FuncData) (ps:List Str) (sp:Sp):Prop where
 len:∀ vs H Q E,sp vs H Q E→vs.length = ps.length
 run:∀ (A:Around) (outer:List Env) (s:Shared) (H:Hp) (args:Args) (us:List Value) (vs:List V) (Q:VK) (E:XK),Room k A→Env0 P w K mg base A outer s H→BindsTo s fd args (ps.zip us)→Vals vs us→sp vs H Q E →
  codeAny (model P w) A (.call (.ref f) args) (CR CX outer P w H s Q E) s
theorem FnOk.mono {P:Program} {w:World} {K:PySem.W.Frag} {mg:Str→Option Value} {base:Heap} {CX:CXT} {j k:Nat} {f:Addr} {fd:FuncData} {ps:List Str} {sp:Sp} (F:FnOk P w K mg base CX j f fd ps sp) (h:j ≤ k) :
  FnOk P w K mg base CX k f fd ps sp:=⟨F.len,fun A outer s H args us vs Q E hr=>F.run A outer s H args us vs Q E (hr.mono h)⟩
theorem Env0.make {P:Program} {w:World} {K:PySem.W.Frag} {mg:Str→Option Value} {base:Heap} {A:Around} {outer:List Env} {s:Shared} {H:Hp} (e:Env0 P w K mg base A outer s H) (C:Addr) (us:List Value) (kw:List (Str × Value)) :
  Env0 P w K mg base (A.under (.builtin "type.__call__" ⟨.ref C :: us,kw⟩)) outer s H:=⟨by first | exact e.frames | (simpa [Around.under,Code.envs,Code.isFrame,pushEnvs] using e.frames),e.mod,e.bs,e.bsz,e.funs,e.frf,e.hok,e.bare⟩
section
variable {X:Cx} {pins:List (Addr × Obj)} {σ:St} {H:Hp} {s s':Shared}
theorem Inv.env0 (I:Inv X pins σ H s):Env0 X.prog X.w X.K X.mg X.base X.A X.stack s H :=
 ⟨I.ok.frames,I.ok.mod,I.bs,Nat.le_trans I.ok.bsz I.sz,I.stack,I.stkFree,I.hok,I.bare⟩
theorem Inv.after {Q:VK} {u:Value} (I:Inv X pins σ H s) (h:CE X.stack X.prog X.w H s Q u s'):EP X pins σ Q u s':=by
 obtain ⟨v,H',os,bare,un,hok,r,q⟩:=h
 obtain ⟨hh,g,d,t,os'⟩:=s'
 obtain rfl:os' = s.os:=os
 exact ⟨v,H',I.call (h':=hh) (g':=g) (d':=d) (t':=t) (ch:=[]) un hok bare (fun b z=>absurd z (by simp)),r,q⟩
end
def jav (sp:Sp) (dvs:List V) (E:XK) (t:TA):TE:=fun σ H Q=>t σ H fun vs H1=>sp (vs ++ dvs) H1 Q E
def jtm (C:Addr) (m:Str) (sp:Sp) (dvs:List V) (E:XK) (ta:TE) (t:TA):TE:=fun σ H Q=>ta σ H fun x H1=>∃ a dx fs,x = .ref a∧H1 a = some (.ins C dx fs)∧fs.lookup m = none ∧
 t σ H1 fun vs H2=>sp (x :: (vs ++ dvs)) H2 Q E
def jb5 (C:Addr) (sp:Sp) (dvs:List V) (E:XK) (t:TA):TE:=fun σ H Q=>t σ H fun vs H1=>∀ x dx,H1 x = none→H1 dx = none→dx ≠ x →
 sp (.ref x :: (vs ++ dvs)) (upd (upd H1 dx (.own x)) x (.ins C dx [])) (fun v H2=>v = .non∧Q (.ref x) H2) E
def jf7 (K:PySem.W.Frag) (fd:FuncData) (ps:List Str) (ds:List Value):Prop :=
 ∀ (s:Shared) (us:List Value),K.In s.heap→(us ++ ds).length = ps.length→BindsTo s fd ⟨us,[]⟩ (ps.zip (us ++ ds))
theorem jf7.all {K:PySem.W.Frag} {fd:FuncData} {ps:List Str} (h:∀ us:List Value,us.length = ps.length→bindArgs fd ⟨us,[]⟩ = pure (ps.zip us)):jf7 K fd ps []:=fun s us _ hl=>by
 rw [List.append_nil] at hl ⊢
 exact .of_eq (h us hl)
def jf5 (CX:CXT) (X:Cx) (E:XK):Prop:=∀ (pins:List (Addr × Obj)) (σ:St) (H:Hp) (s:Shared) (e:Value) (s':Shared),Inv X pins σ H s→CX X.stack H s E e s'→X.xe e s'
section
variable {X:Cx} {CX:CXT} {k:Nat} {f C:Addr} {fd:FuncData} {ps:List Str} {sp:Sp} {dvs:List V} {ds:List Value} {E:XK} {x m:Str} {p pos apos:Pos} {e o:Expr} {es:List Expr} {ta:TE} {t:TA}
theorem jp0 {pins:List (Addr × Obj)} {σ:St} {H:Hp} {s:Shared} {Q:VK} {us:List Value} {vs:List V} (F:FnOk X.prog X.w X.K X.mg X.base CX k f fd ps sp) (hr:Room k X.A) (hb:jf7 X.K fd ps ds) (hd:Vals dvs ds) (hx:jf5 CX X E)
  (I:Inv X pins σ H s) (r:Vals vs us) (h:sp (vs ++ dvs) H Q E):wpAny (model X.prog X.w) X.A (call (.ref f) us) (EP X pins σ Q) X.xe s:=by
 have r2:Vals (vs ++ dvs) (us ++ ds):=r.append hd
 have hl:(us ++ ds).length = ps.length:=by rw [← r2.length]; exact F.len _ _ _ _ h
 refine wpAny_call (codeAny_mono (F.run X.A X.stack s H ⟨us,[]⟩ (us ++ ds) (vs ++ dvs) Q E hr I.env0 (hb s us I.kIn hl) r2 h) fun r s' hq=>?_)
 cases r with
 | error e=>exact hx pins σ H s e s' I hq
 | ok fl =>
  cases fl with
  | ret u=>exact I.after hq
  | next=>exact False.elim hq
  | brk=>exact False.elim hq
  | cont=>exact False.elim hq
theorem jbe (F:FnOk X.prog X.w X.K X.mg X.base CX k f fd ps sp) (hr:Room k X.A) (hg:Gl X x) (hm:X.mg x = some (.ref f)) (hk:PySem.W.keepIn X.K (.ref f) = true) (hb:jf7 X.K fd ps ds) (hd:Vals dvs ds) (hx:jf5 CX X E)
  (ha:PA X (e :: es) t) (hdb:(x == ("__debug__":Str)) = false:=by decide) (he:starEach (e :: es) X.env = (false,eval e X.env) :: starEach es X.env:=by rfl) (hpl:(backTo pos (starEach es X.env)).any (·.1) = false:=by rfl) :
  PE X (.Call (.Name x p) (e :: es) [] pos) (jav sp dvs E t):=by
 intro pins s σ H Q I h
 refine wpAny_Call_Name_kw (jlm I hg hm ?_ hdb)
 refine PySem.W.callWith_K (h₀:=X.base) I.ok.mod.kin hk (thn (ha pos pins s σ H _ I h) fun us s1 ⟨vs,H1,I1,r,q⟩=>⟨I1.kIn,?_⟩) he hpl
 exact jp0 F hr hb hd hx I1 r q
theorem ju2 {pl:Sem Bool} (he:PE X o ta) (c:Cls X.K C) (hm:Meth X.K C m f) (F:FnOk X.prog X.w X.K X.mg X.base CX k f fd ps sp) (hr:Room k X.A) (hb:jf7 X.K fd ps ds) (hd:Vals dvs ds) (hx:jf5 CX X E) (ha:PA X (e :: es) t)
  (hst:starEach (e :: es) X.env = (false,eval e X.env) :: starEach es X.env:=by rfl) (hpl:(backTo pos (starEach es X.env)).any (·.1) = false:=by rfl)
  (ht:eval (.Call (.Attribute o m apos) (e :: es) [] pos) X.env = (do
   let ov ← eval o X.env
   standAt apos.atName
   let (f,first) ← holding [ov] (getMethod ov m pl)
   callWith pos f first (backTo pos (starEach (e :: es) X.env)) (backToKw pos (keywordEach [] X.env))):=by rfl) :
  PE X (.Call (.Attribute o m apos) (e :: es) [] pos) (jtm C m sp dvs E ta t):=by
 intro pins s σ H Q I h
 refine PySem.W.methodCall_KW (pl:=pl) (thn (he pins s σ H _ I h) fun u s1 ⟨x,H1,I1,rx,a,dx,fs,ex,ea,l,q⟩=>?_) ht
 subst ex
 obtain rfl:u = Value.ref a:=rx
 refine ji0 I1 ea c hm l ?_
 refine PySem.W.callWith_K (first:=[.ref a]) (h₀:=X.base) I.ok.mod.kin hm.kp (thn (ha pos pins s1 σ H1 _ I1 q) fun us s2 ⟨vs,H2,I2,r,q2⟩=>⟨I2.kIn,?_⟩) hst hpl
 exact jp0 (us:=.ref a :: us) (vs:=.ref a :: vs) F hr hb hd hx I2 (.cons rfl r) q2
theorem jrr {pl:Sem Bool} (he:PE X o ta) (c:Cls X.K C) (hm:Meth X.K C m f) (F:FnOk X.prog X.w X.K X.mg X.base CX k f fd ps sp) (hr:Room k X.A) (hb:jf7 X.K fd ps ds) (hd:Vals dvs ds) (hx:jf5 CX X E)
  (ht:eval (.Call (.Attribute o m apos) [] [] pos) X.env = (do
   let ov ← eval o X.env
   standAt apos.atName
   let (f,first) ← holding [ov] (getMethod ov m pl)
   callWith pos f first (backTo pos (starEach [] X.env)) (backToKw pos (keywordEach [] X.env))):=by rfl) :
  PE X (.Call (.Attribute o m apos) [] [] pos) (jtm C m sp dvs E ta tNil):=by
 intro pins s σ H Q I h
 refine PySem.W.methodCall_KW (pl:=pl) (thn (he pins s σ H _ I h) fun u s1 ⟨x,H1,I1,rx,a,dx,fs,ex,ea,l,q⟩=>?_) ht
 subst ex
 obtain rfl:u = Value.ref a:=rx
 refine ji0 I1 ea c hm l ?_
 exact PySem.W.callWith_K0 (first:=[.ref a]) I1.kIn hm.kp (jp0 (us:=[.ref a]) (vs:=[.ref a]) F hr hb hd hx I1 (.cons rfl .nil) q)
structure Mk (K:PySem.W.Frag) (C f:Addr):Prop where
 makes:PySem.W.makesIn K C = true
 init:PySem.W.findIn K (.ref C) "__init__" = some (some (.ref f))
 fn:PySem.W.isFn K (.ref f) = true
 kp:PySem.W.keepIn K (.ref C) = true
theorem jrc {pins:List (Addr × Obj)} {σ:St} {H:Hp} {s:Shared} {Q:VK} {us:List Value} {vs:List V} (M:Mk X.K C f) (F:FnOk X.prog X.w X.K X.mg X.base CX k f fd ps sp) (hr:Room (k + 1) X.A) (hb:jf7 X.K fd ps ds) (hd:Vals dvs ds)
  (hx:jf5 CX X E) (I:Inv X pins σ H s) (r:Vals vs us)
  (h:∀ x dx,H x = none→H dx = none→dx ≠ x→sp (.ref x :: (vs ++ dvs)) (upd (upd H dx (.own x)) x (.ins C dx [])) (fun v H2=>v = .non∧Q (.ref x) H2) E) :
  wpAny (model X.prog X.w) X.A (call (.ref C) us) (EP X pins σ Q) X.xe s:=by
 have hq:=h (s.heap.objs.size + 1) s.heap.objs.size (I.hok.fresh (Nat.le_succ _)) (I.hok.fresh (Nat.le_refl _)) (Nat.ne_of_lt (Nat.lt_succ_self _))
 have I2:=Inv.made (C:=C) I
 have r2:Vals (V.ref (s.heap.objs.size + 1) :: (vs ++ dvs)) (Value.ref (s.heap.objs.size + 1) :: (us ++ ds)):=.cons rfl (r.append hd)
 have hl:(Value.ref (s.heap.objs.size + 1) :: us ++ ds).length = ps.length:=by
  have e:=r2.length
  rw [F.len _ _ _ _ hq] at e
  exact e.symm
 refine wpAny_call (js4 (f:=f) I.kIn M.makes M.init (beq_iff_eq.mp M.fn) (codeAny_mono (F.run _ X.stack _ _ ⟨Value.ref (s.heap.objs.size + 1) :: us,[]⟩ (Value.ref (s.heap.objs.size + 1) :: (us ++ ds)) _ _ E (hr.make C us [])
  (I2.env0.make C us []) (hb _ (Value.ref (s.heap.objs.size + 1) :: us) I2.kIn hl) r2 hq) fun r s' hq'=>?_))
 cases r with
 | error e=>exact hx pins σ _ _ e s' I2 hq'
 | ok fl =>
  cases fl with
  | ret u =>
   obtain ⟨v,H',I3,rv,ev,q3⟩:=I2.after hq'
   subst ev
   exact ⟨rv,⟨V.ref (s.heap.objs.size + 1),H',I3,rfl,q3⟩⟩
  | next=>exact False.elim hq'
  | brk=>exact False.elim hq'
  | cont=>exact False.elim hq'
theorem ju3 (M:Mk X.K C f) (F:FnOk X.prog X.w X.K X.mg X.base CX k f fd ps sp) (hr:Room (k + 1) X.A) (hg:Gl X x) (hm:X.mg x = some (.ref C)) (hb:jf7 X.K fd ps ds) (hd:Vals dvs ds) (hx:jf5 CX X E)
  (ha:PA X (e :: es) t) (hdb:(x == ("__debug__":Str)) = false:=by decide) (he:starEach (e :: es) X.env = (false,eval e X.env) :: starEach es X.env:=by rfl) (hpl:(backTo pos (starEach es X.env)).any (·.1) = false:=by rfl) :
  PE X (.Call (.Name x p) (e :: es) [] pos) (jb5 C sp dvs E t):=by
 intro pins s σ H Q I h
 refine wpAny_Call_Name_kw (jlm I hg hm ?_ hdb)
 refine PySem.W.callWith_K (h₀:=X.base) I.ok.mod.kin M.kp (thn (ha pos pins s σ H _ I h) fun us s1 ⟨vs,H1,I1,r,q⟩=>⟨I1.kIn,?_⟩) he hpl
 exact jrc M F hr hb hd hx I1 r q
end
def PK (X:Cx) (kws:List Keyword) (t:TA):Prop :=
 ∀ (pos:Pos) (pins:List (Addr × Obj)) (s:Shared) (σ:St) (H:Hp) (Q:List V→Hp→Prop),Inv X pins σ H s→t σ H Q→wpAny (model X.prog X.w) X.A (evalAll ((backToKw pos (keywordEach kws X.env)).map (·.2))) (AP X pins σ Q) X.xe s
section
variable {X:Cx} {CX:CXT} {k:Nat} {f C:Addr} {fd:FuncData} {ps ks:List Str} {sp:Sp} {E:XK} {x m:Str} {p pos apos kpos:Pos} {e o:Expr} {es:List Expr} {kws:List Keyword} {te ta:TE} {t tk:TA} {nm:Option Str}
theorem pk_nil:PK X [] tNil:=fun _ _ _ _ H Q I h=>wpAny_evalAll_nil ⟨[],H,I,.nil,h⟩
theorem ju0 (ha:PE X e te) (hr:PK X kws t):PK X (⟨nm,e,kpos⟩ :: kws) (jan te t):=by
 intro pos pins s σ H Q I h
 show wpAny _ _ (evalAll ((do let v ← eval e X.env; standAt pos; pure v) :: (backToKw pos (keywordEach kws X.env)).map (·.2))) _ _ s
 refine wpAny_evalAll_cons (wpAny_bind (thn (ha pins s σ H _ I h) fun u s1 ⟨x,H1,I1,r1,q1⟩=>wpAny_bind (wpAny_standAt (wpAny_pure ?_))))
 exact thn (hr pos pins s1 σ H1 _ I1 q1) fun us s2 ⟨xs,H2,I2,r2,q2⟩=>⟨x :: xs,H2,I2,.cons r1 r2,q2⟩
variable {g:List Value→List Value→List Value} {gV:List V→List V→List V}
end
structure FnScope (N P:List Str) (sc:Scope):Prop where
 kind:sc.kind = .function
 co:sc.isCoroutine = false
 gen:sc.isGenerator = false
 nd:N.Nodup
 pre:N.take P.length = P
 par:∀ x ∈ P,sc.names.lookup x = some .local ∨ sc.names.lookup x = some .cell
 nofree:∀ y ∈ sc.names,y.2 ≠ .free
theorem jku {kindOf:Str→Option NameKind} {x:Str}:∀ {binds:List (Str × Value)} {m:Str→Option Value},(∀ v,(x,v) ∉ binds)→bindL kindOf binds m x = m x
 | [],_,_=>rfl
 | (n,v) :: r,m,h=>by
  unfold bindL
  rw [jku fun w hw=>h w (List.mem_cons_of_mem _ hw)]
  split
  ·have:x ≠ n:=by rintro rfl; exact h v List.mem_cons_self
   simp [this]
  ·rfl
theorem jkw {kindOf:Str→Option NameKind} {x:Str}:∀ {binds:List (Str × Value)} {m:Str→Option Value},(∀ v,(x,v) ∉ binds)→bindC kindOf binds m x = m x
 | [],_,_=>rfl
 | (n,v) :: r,m,h=>by
  unfold bindC
  rw [jkw fun w hw=>h w (List.mem_cons_of_mem _ hw)]
  split
  ·rfl
  ·have:x ≠ n:=by rintro rfl; exact h v List.mem_cons_self
   simp [this]
theorem jkv {kindOf:Str→Option NameKind} {x:Str} {v:Value}:∀ {P:List Str} {vs:List Value} {i:Nat} {m:Str→Option Value},P.Nodup→P[i]? = some x→vs[i]? = some v→kindOf x = some .local →
  bindL kindOf (P.zip vs) m x = some v
 | [],_,_,_,_,h,_,_=>by simp at h
 | _ :: _,[],_,_,_,_,h,_=>by simp at h
 | p :: P,w :: vs,0,m,nd,h1,h2,hk=>by
  simp at h1 h2; subst h1; subst h2
  show bindL kindOf ((p,w) :: P.zip vs) m p = _
  unfold bindL
  rw [jku fun v hv=>(List.nodup_cons.mp nd).1 (List.of_mem_zip hv).1,if_pos hk]
  simp
 | p :: P,w :: vs,i + 1,m,nd,h1,h2,hk=>by
  show bindL kindOf ((p,w) :: P.zip vs) m x = _
  unfold bindL
  exact jkv (i:=i) (List.nodup_cons.mp nd).2 (by simpa using h1) (by simpa using h2) hk
theorem jkx {kindOf:Str→Option NameKind} {x:Str} {v:Value}:∀ {P:List Str} {vs:List Value} {i:Nat} {m:Str→Option Value},P.Nodup→P[i]? = some x→vs[i]? = some v→kindOf x ≠ some .local →
  bindC kindOf (P.zip vs) m x = some v
 | [],_,_,_,_,h,_,_=>by simp at h
 | _ :: _,[],_,_,_,_,h,_=>by simp at h
 | p :: P,w :: vs,0,m,nd,h1,h2,hk=>by
  simp at h1 h2; subst h1; subst h2
  show bindC kindOf ((p,w) :: P.zip vs) m p = _
  unfold bindC
  rw [jkw fun v hv=>(List.nodup_cons.mp nd).1 (List.of_mem_zip hv).1,if_neg hk]
  simp
 | p :: P,w :: vs,i + 1,m,nd,h1,h2,hk=>by
  show bindC kindOf ((p,w) :: P.zip vs) m x = _
  unfold bindC
  exact jkx (i:=i) (List.nodup_cons.mp nd).2 (by simpa using h1) (by simpa using h2) hk
def jak (N:List Str) (vs:List V):St:=vs.map some ++ List.replicate (N.length - vs.length) none
def cxOf (CX:CXT) (P:Program) (w:World) (K:PySem.W.Frag) (mg:Str→Option Value) (base:Heap) (N:List Str) (qual:Str) (scope:Scope) (f:Addr) (cd:Value) (A:Around) (outer:List Env) (s:Shared) (H:Hp) (E:XK):Cx where
 prog:=P
 w:=w
 K:=K
 mg:=mg
 base:=base
 A:=A.deeper (envOfC qual scope s.heap.objs.size f cd)
 N:=N
 s₀:=s
 H₀:=H
 env:=envOfC qual scope s.heap.objs.size f cd
 outer:=outer
 stack:=envOfC qual scope s.heap.objs.size f cd :: outer
 ex:=[]
 calm:=true
 fn:=fun _=>true
 pn:=[]
 xe:=fun e s'=>wpAny (model P w) (A.deeper (envOfC qual scope s.heap.objs.size f cd)) (leaving (envOfC qual scope s.heap.objs.size f cd) e) (fun _ s''=>CX outer H s E e s'') (fun e' s''=>CX outer H s E e' s'') s'
theorem jn2 {sc:Scope} {n:Nat} {x:Str} (h:sc.names.lookup x = some .cell):∃ c,(cellsFrom n sc.names []).lookup x = some c:=by
 have q:=PySem.W.cellsFrom_some sc.names n [] (.inl h)
 exact Option.isSome_iff_exists.mp q
theorem jq6 {CX:CXT} {P:Program} {w:World} {K:PySem.W.Frag} {mg:Str→Option Value} {base:Heap} {N ps:List Str} {qual:Str} {scope:Scope} {f:Addr} {cd:Value} {A:Around} {outer:List Env} {s s1:Shared} {H:Hp} {E:XK} {us:List Value} {vs:List V}
  (S:FnScope N ps scope) (hd:A.handled = none) (e0:Env0 P w K mg base A outer s H) (hl:vs.length = ps.length) (r:Vals vs us)
  (x:InCallC s s.heap.objs.size (bindL (envOfC qual scope s.heap.objs.size f cd).kindOf (ps.zip us) fun _=>none) (cellsFrom (s.heap.objs.size + 1) scope.names []) (bindC (envOfC qual scope s.heap.objs.size f cd).kindOf (ps.zip us) fun _=>none) s1) :
  Inv (cxOf CX P w K mg base N qual scope f cd A outer s H E) [] (jak N vs) H s1:=by
 have hpl:ps.length ≤ N.length:=by have:=congrArg List.length S.pre; rw [List.length_take] at this; omega
 obtain ⟨h1,tk,rfl,hk⟩:=x.done
 have noA:∀ b:Addr,b ∉ (cxOf CX P w K mg base N qual scope f cd A outer s H E).ex:=fun b z=>absurd (show b ∈ ([]:List Addr) from z) (by simp)
 refine ⟨⟨e0.mod,S.kind,rfl,rfl,Nat.le_refl _,fun y z c h1 h2=>?_,fun y hy=>?_,fun y c _ h=>?_,fun _=>hd,Around.frames_deeper e0.frames,.inr ⟨rfl,rfl⟩,fun b z=>absurd z (noA b),e0.bs,e0.bsz,fun b _ _=>noA b,fun b z=>absurd z (noA b),e0.funs,e0.frf⟩,
  rfl,e0.bare,Un.kept hk,⟨_,x.toInCall.ns,fun i y v h1 h2 h3=>?_⟩,fun y c h=>⟨_,x.cell y c h⟩,e0.hok.fresh (Nat.le_refl _),fun y c h=>?_,fun p hp=>absurd (show p ∈ ([]:List (Addr × Obj)) from hp) (by simp),e0.hok.kept hk,?_⟩
 ·exact name_of_addr x.apart (PySem.mem_of_lookup h1) (PySem.mem_of_lookup h2)
 ·have hy:scope.names.lookup y = some .cell ∨ scope.names.lookup y = some .free:=hy
  rcases hy with hy | hy
  ·exact jn2 hy
  ·exact absurd rfl (S.nofree _ (PySem.mem_of_lookup hy))
 ·exact Nat.le_of_lt (x.above y c (PySem.mem_of_lookup h))
 ·have hi:i < vs.length:=by
   unfold jak at h2
   by_cases hi:i < vs.length
   ·exact hi
   ·rw [List.getElem?_append_right (by simpa using hi)] at h2
    rw [List.getElem?_replicate] at h2
    split at h2 <;> cases h2
  have ha:vs[i]? = some v:=by
   unfold jak at h2
   rw [List.getElem?_append_left (by simpa using hi),List.getElem?_map] at h2
   cases e:vs[i]? with
   | none=>rw [e] at h2; cases h2
   | some a=>rw [e] at h2; cases h2; rfl
  obtain ⟨u,hu,rv⟩:=r.get ha
  have hp:ps[i]? = some y:=by
   rw [← S.pre,List.getElem?_take_of_lt (by omega)]; exact h1
  have ndP:ps.Nodup:=by rw [← S.pre]; exact S.nd.sublist (List.take_sublist _ _)
  refine ⟨u,rv,?_⟩
  rcases S.par y (List.mem_of_getElem? hp) with k | k
  ·exact .inl ⟨k,jkv ndP hp hu k⟩
  ·obtain ⟨c,e⟩:=jn2 (n:=s.heap.objs.size + 1) k
   refine .inr ⟨.inl k,c,e,?_⟩
   have q:=x.cell y c e
   rw [jkx ndP hp hu (by show scope.names.lookup y ≠ _; rw [k]; decide)] at q
   exact q
 ·exact e0.hok.fresh (Nat.le_of_lt (x.above y c (PySem.mem_of_lookup h)))
 ·unfold jak
  show _ = N.length
  rw [List.length_append,List.length_map,List.length_replicate]
  omega
theorem fn_of {CX:CXT} {P:Program} {w:World} {K:PySem.W.Frag} {mg:Str→Option Value} {base:Heap} {k:Nat} {f:Addr} {name qual:Str} {params:Arguments} {body:List Stmt} {scope:Scope} {dV kV doc pm cdv ct oc:Value} {an od:Option Addr}
  {osl:Array (Option Value)} {N ps:List Str} {sp:Sp} (lk:K.lookup f = some ⟨oc,od,.func (PySem.W.fnOf name qual params body scope dV kV doc pm an cdv ct),osl⟩) (hcd:PySem.W.codeIn K cdv qual = true) (S:FnScope N ps scope)
  (len:∀ vs H Q E,sp vs H Q E→vs.length = ps.length)
  (hbody:∀ (A:Around) (outer:List Env) (s:Shared) (H:Hp) (vs:List V) (Q:VK) (E:XK),Room k (A.deeper (envOfC qual scope s.heap.objs.size f cdv))→sp vs H Q E →
   ∃ t,PSs (cxOf CX P w K mg base N qual scope f cdv A outer s H E) body t∧t { nx:=fun _ H'=>Q .non H',rt:=Q } (jak N vs) H) :
  FnOk P w K mg base CX (k + 1) f (PySem.W.fnOf name qual params body scope dV kV doc pm an cdv ct) ps sp:=by
 refine ⟨len,fun A outer s H args us vs Q E hr e0 hb r hsp=>?_⟩
 have hl:=len _ _ _ _ hsp
 have KX:K.In s.heap:=e0.mod.kin.keeps fun b o e=>(e0.bs b o e).1
 have lim:s.heap.NoLimit:=e0.mod.nolimit.keeps fun b o e=>(e0.bs b o e).1
 have hkind:∀ y ∈ ps.zip us,scope.names.lookup y.1 = some .local ∨ (scope.names.lookup y.1 = some .cell∧((cellsFrom (s.heap.objs.size + 1) scope.names []).lookup y.1).isSome = true):=fun ⟨n,v⟩ hy=>by
  rcases S.par n (List.of_mem_zip hy).1 with q | q
  ·exact .inl q
  ·exact .inr ⟨q,PySem.W.cellsFrom_some _ _ _ (.inl q)⟩
 refine codeAny_call_function hr.depth (KX _ _ lk) rfl S.co S.gen rfl (PySem.W.codeRec_of KX hcd) (hb _ _ _ _ ?_)
 refine wpAny_newFunctionEnv_cells S.kind hkind fun env he s1 x=>?_
 subst he
 refine ⟨lim.keeps x.toInCall.keep,codeAny_func ?_⟩
 obtain ⟨t,ht,hq⟩:=hbody A outer s H vs Q E (hr.deeper _) hsp
 have I:Inv (cxOf CX P w K mg base N qual scope f cdv A outer s H E) [] (jak N vs) H s1:=jq6 S hr.hd e0 hl r x
 refine wpAny_mono (ht [] s1 (jak N vs) H _ I hq) (fun fl s' hs=>?_) fun e s' hs=>hs
 have fin:∀ {σ':St} {H':Hp} {v:V} {u:Value},Inv (cxOf CX P w K mg base N qual scope f cdv A outer s H E) [] σ' H' s'→RelV v u→Q v H'→CE outer P w H s Q u s' :=
  fun {σ' H' v u} J rv q=>⟨v,H',J.os,J.bare,J.base,J.hok,rv,q⟩
 cases fl with
 | ret u =>
  obtain ⟨v,σ',H',J,rv,q⟩:=hs
  exact fin J rv q
 | next =>
  obtain ⟨σ',H',J,q⟩:=hs
  exact fin (v:=V.non) (u:=Value.none) J rfl q
 | brk =>
  obtain ⟨_,_,_,q⟩:=hs
  exact False.elim q
 | cont =>
  obtain ⟨_,_,_,q⟩:=hs
  exact False.elim q
end L2
namespace L2
open PySem PySem.Spec PyProof.Rows
section
variable {X:Cx} {x:Str} {p pos:Pos} {e:Expr} {es:List Expr} {t:TA} {id T:String} {r:List V→Hp→VK→Prop}
def tCB (r:List V→Hp→VK→Prop) (t:TA):TE:=fun σ H Q=>t σ H fun vs H1=>r vs H1 Q
theorem jbf (hc:jda X (.builtin id) r) (hg:Gl X x) (hm:X.mg x = none) (hv:bootBuiltins x = some (.builtin id)) (ha:PA X (e :: es) t) (hn:x ≠ "__name__":=by decide) (hdb:(x == ("__debug__":Str)) = false:=by decide)
  (he:starEach (e :: es) X.env = (false,eval e X.env) :: starEach es X.env:=by rfl) (hpl:(backTo pos (starEach es X.env)).any (·.1) = false:=by rfl):PE X (.Call (.Name x p) (e :: es) [] pos) (tCB r t):=by
 intro pins s σ H Q I h
 refine wpAny_Call_Name_kw (jfr I hg hm hv ?_ hn hdb)
 exact PyProof.Rows.callWith_builtin1 (thn (ha pos pins s σ H _ I h) fun us s1 ⟨vs,H1,I1,r1,q1⟩=>hc pins s1 σ H1 vs us Q I1 r1 q1) he hpl
theorem jcw (hc:jda X (.type T) r) (hg:Gl X x) (hm:X.mg x = none) (hv:bootBuiltins x = some (.type T)) (ha:PA X (e :: es) t) (hn:x ≠ "__name__":=by decide) (hdb:(x == ("__debug__":Str)) = false:=by decide)
  (he:starEach (e :: es) X.env = (false,eval e X.env) :: starEach es X.env:=by rfl) (hpl:(backTo pos (starEach es X.env)).any (·.1) = false:=by rfl):PE X (.Call (.Name x p) (e :: es) [] pos) (tCB r t):=by
 intro pins s σ H Q I h
 refine wpAny_Call_Name_kw (jfr I hg hm hv ?_ hn hdb)
 exact PyProof.Rows.callWith_type1 (thn (ha pos pins s σ H _ I h) fun us s1 ⟨vs,H1,I1,r1,q1⟩=>hc pins s1 σ H1 vs us Q I1 r1 q1) he hpl
end
end L2
namespace HT
open PySem PyProof.Rows
def lexLt:List Int→List Int→Bool
 | [],[]=>false
 | [],_ :: _=>true
 | _ :: _,[]=>false
 | x :: xs,y :: ys=>if x = y then lexLt xs ys else decide (x < y)
theorem lexLt_cons (x y:Int) (xs ys:List Int):lexLt (x :: xs) (y :: ys) = if x = y then lexLt xs ys else decide (x < y):=rfl
theorem jix:lexLt [] [] = false:=rfl
theorem jhj (y:Int) (ys:List Int):lexLt [] (y :: ys) = true:=rfl
theorem jhk (x:Int) (xs:List Int):lexLt (x :: xs) [] = false:=rfl
theorem jsf (A:Around) (s:Shared) (a:Int) (t:Tok) (c:Int) (u:Tok):∃ e,SeqAt.EqAt A s (.int a t) (.int c u) e∧(e = true ↔ a = c) :=
 ⟨(a == c),SeqAt.EqAt.int_int a t c u,by simp⟩
theorem jre (A:Around) (s:Shared) (a:Int) (t:Tok) (c:Int) (u:Tok) (prog:Program) (w:World) (E:Value→Shared→Prop) (Q:Value→Shared→Prop) (h:Q (.bool (decide (a < c))) s) :
  wpAny (model prog w) A (richCompare .Lt (.int a t) (.int c u)) Q E s :=
 (PyProof.Rows.lt_int h:wpAny (model prog w) A (compareOp .Lt (.int a t) (.int c u)) Q E s)
section
open PySem.SeqAt
open PySem.AutoSeq1 (wpAny_loadPart')
open PySem.MeetsSeq PySem.MeetsSeq2 PySem.MeetsSeq3
theorem ji6 (l b:Addr) (items items2:Array Value) (n n2:Nat) (dd dd2:Option Addr) (sl sl2:Array (Option Value)) (ns ms:List Int) (hi:IntsAre items.toList ns) (hj:IntsAre items2.toList ms) :
  Meets (Builtin.«tuple.__lt__» ⟨[.ref l,.ref b],[]⟩)
   (fun _ R s=>s.heap.get? l = some { cls:=.type "tuple",dict:=dd,data:=.seq items n,slots:=sl }∧s.heap.get? b = some { cls:=.type "tuple",dict:=dd2,data:=.seq items2 n2,slots:=sl2 } ∧
    R (.ok (.ret (.bool (lexLt ns ms)))) s) :=
 .of_wp fun prog w A R s h=>by
  obtain ⟨hp,g,d,tk,os⟩:=s; obtain ⟨hl,hb,h⟩:=h
  have f2:=AutoSeq1.sub_tuple_tuple
  have z1:items.size = ns.length:=by rw [← hi.length]; simp
  have z2:items2.size = ms.length:=by rw [← hj.length]; simp
  wp_walk using wpAny_loadPart' hl,wpAny_loadPart' hb,wpAny_forIn_list _ (fun rest b s'=>b.1 = none∧s' = ⟨hp,g,d,tk,os⟩∧∃ (vs ws:List Value) (ns' ms':List Int),rest = vs.zip ws ∧
   IntsAre vs ns'∧IntsAre ws ms'∧ns'.length + items2.size = ms'.length + items.size∧R (.ok (.ret (.bool (lexLt ns' ms')))) ⟨hp,g,d,tk,os⟩) _
  case turn =>
   rintro ⟨y,x⟩ rest b s' ⟨hb',rfl,vs,ws,ns',ms',hz,hvi,hwi,hlen,hR⟩
   cases hvi with
   | nil=>rw [List.zip_nil_left] at hz; cases hz
   | cons a t hvi' =>
    cases hwi with
    | nil=>rw [List.zip_nil_right] at hz; cases hz
    | cons c u hwi' =>
     rw [List.zip_cons_cons] at hz
     injection hz with hyx hrest
     injection hyx with hy hx
     subst hy hx
     rw [lexLt_cons] at hR
     simp only [List.length_cons] at hlen
     obtain ⟨e,he,hiff⟩:=jsf A.in1 ⟨hp,g,d,tk,os⟩ a t c u
     refine wpAny_bind (he prog w _ _ ?_)
     cases e with
     | true =>
      rw [if_pos (hiff.mp rfl)] at hR
      wp_walk
      exact ⟨rfl,rfl,_,_,_,_,hrest,hvi',hwi',by omega,hR⟩
     | false =>
      rw [if_neg (fun q=>absurd (hiff.mpr q) Bool.false_ne_true)] at hR
      have hri:=jre A.in1 ⟨hp,g,d,tk,os⟩ a t c u prog w
      wp_walk using hri
      exact ⟨_,rfl,by simpa using hR⟩
  case fin =>
   rintro ⟨b1,b2⟩ s' ⟨hb',rfl,vs,ws,ns',ms',hz,hvi,hwi,hlen,hR⟩
   simp only at hb'
   subst hb'
   have hv:lexLt ns' ms' = decide (items.size < items2.size):=by
    cases hvi with
    | nil =>
     cases hwi with
     | nil =>
      simp only [List.length_nil] at hlen
      rw [jix]
      exact (decide_eq_false (by omega)).symm
     | cons c u hw =>
      simp only [List.length_nil,List.length_cons] at hlen
      rw [jhj]
      exact (decide_eq_true (by omega)).symm
    | cons a t hv =>
     cases hwi with
     | nil =>
      simp only [List.length_nil,List.length_cons] at hlen
      rw [jhk]
      exact (decide_eq_false (by omega)).symm
     | cons c u hw =>
      rw [List.zip_cons_cons] at hz
      cases hz
   rw [hv] at hR
   wp_walk
   exact ⟨_,rfl,by simpa [Builtin.Tuple.tupleCompareSizes] using hR⟩
  case h =>
   exact ⟨rfl,rfl,items.toList,items2.toList,ns,ms,rfl,hi,hj,by omega,h⟩
end
section
variable {prog:Program} {w:World} {A:Around} {E:Value→Shared→Prop} {s:Shared}
theorem lt_tupInts {l b:Addr} {items items2:Array Value} {ns ms:List Int} {Q:Value→Shared→Prop} (hl:IsTup s.heap l items) (hb:IsTup s.heap b items2) (hi:IntsAre items.toList ns) (hj:IntsAre items2.toList ms)
  (hu:A.units < cLine) (h:Q (.bool (lexLt ns ms)) s):wpAny (model prog w) A (compareOp .Lt (.ref l) (.ref b)) Q E s:=by
 obtain ⟨⟨cls,dd,data,sl⟩,ho,hc,n,hd⟩:=id hl
 obtain ⟨⟨cls2,dd2,data2,sl2⟩,ho2,hc2,n2,hd2⟩:=id hb
 simp only at hc hd hc2 hd2
 subst hc hd hc2 hd2
 exact richCompare_meets_room (op:=.Lt) ⟨_,ho,rfl⟩ ⟨_,ho2,rfl⟩ PySem.F.slot_tuple_lt PySem.F.entry_tuple_lt (PySem.F.args_tuple_lt_2 _ _) (ji6 l b items items2 n n2 dd dd2 sl sl2 ns ms hi hj)
  ⟨ho,ho2,show Value.bool (lexLt ns ms) ≠ Value.notImplemented∧Q (.bool (lexLt ns ms)) s from ⟨(fun x=>nomatch x),h⟩⟩ hu
def sIx (n d:Nat):Option Int→Nat
 | none=>d
 | some v=>if v < 0 then (v + (n:Int)).toNat else min v.toNat n
theorem sIx_le (n d:Nat) (hd:d ≤ n) (o:Option Int):sIx n d o ≤ n:=by
 cases o with
 | none=>exact hd
 | some v =>
  show (if v < 0 then (v + (n:Int)).toNat else min v.toNat n) ≤ n
  by_cases hv:v < 0
  ·rw [if_pos hv]; omega
  ·rw [if_neg hv]; exact Nat.min_le_right _ _
theorem jqu (v:Int) (n d:Nat):(if v < 0 then max (v + (n:Int)) 0 else min v (n:Int)) = ((sIx n d (some v):Nat):Int):=by
 show (if v < 0 then max (v + (n:Int)) 0 else min v (n:Int)) = (((if v < 0 then (v + (n:Int)).toNat else min v.toNat n):Nat):Int)
 by_cases hv:v < 0
 ·simp only [if_pos hv]; omega
 ·simp only [if_neg hv]; omega
theorem jo4 (lo hi:Option Int) (n:Nat):Builtin.Slice.sliceAdjust lo hi 1 (n:Int) = (((sIx n 0 lo:Nat):Int),((sIx n n hi:Nat):Int)):=by
 have h1:¬ ((1:Int) < 0):=by omega
 unfold Builtin.Slice.sliceAdjust
 simp only [h1,if_false]
 refine Prod.ext ?_ ?_
 ·cases lo with
  | none=>rfl
  | some v=>exact jqu v n 0
 ·cases hi with
  | none=>rfl
  | some v=>exact jqu v n n
theorem jnf (i j:Nat):Builtin.Slice.slicePlaces (i:Int) (j:Int) 1 = j - i:=by
 unfold Builtin.Slice.slicePlaces
 have h1:(1:Int) > 0:=by omega
 simp only [h1,if_true,Int.ediv_one]
 split <;> omega
theorem jhq {v:Value} {o:Option Int} {Q:Option Int→Shared→Prop} (p:IsPart v o) (h:Q o s):wpAny (model prog w) A (Builtin.Slice.slicePartIndex v) Q E s:=by
 cases p with
 | none=>exact slicePart_none h
 | int i t=>exact slicePart_int h
theorem jfw {sl:Addr} {vl vu:Value} {lo hi:Option Int} {n:Nat} {Q:Int × Int × Nat→Shared→Prop} (hs:s.heap.IsSliceOf sl vl vu .none) (pl:IsPart vl lo) (pu:IsPart vu hi)
  (h:Q (((sIx n 0 lo:Nat):Int),1,sIx n n hi - sIx n 0 lo) s):wpAny (model prog w) A (Builtin.Slice.sliceApplied (.ref sl) (pure (n:Int))) Q E s:=by
 obtain ⟨os,hos,hcs,hds⟩:=id hs
 unfold Builtin.Slice.sliceApplied Builtin.Slice.sliceFields
 refine wpAny_bind (wpAny_bind (wpAny_field hos hds (x:=vl) rfl (wpAny_bind (wpAny_field hos hds (x:=vu) rfl (wpAny_bind (wpAny_field hos hds (x:=.none) rfl (wpAny_pure ?_)))))))
 refine wpAny_bind (slicePart_none ?_)
 show wpAny _ _ (if ((1:Int) == 0) = true then _ else _) _ _ s
 rw [if_neg (by decide)]
 refine wpAny_bind (jhq pl (wpAny_bind (jhq pu (wpAny_bind (wpAny_pure ?_)))))
 show wpAny _ _ (match Builtin.Slice.sliceAdjust lo hi 1 (n:Int) with | (lo,hi)=>pure (lo,(1:Int),Builtin.Slice.slicePlaces lo hi 1)) _ _ s
 rw [jo4 lo hi n]
 show wpAny _ _ (pure (((sIx n 0 lo:Nat):Int),(1:Int),Builtin.Slice.slicePlaces ((sIx n 0 lo:Nat):Int) ((sIx n n hi:Nat):Int) 1)) _ _ s
 rw [jnf]
 exact wpAny_pure h
theorem jro (xs:Array Value) (i k:Nat):((List.range k).filterMap fun (m:Nat)=>xs[((i:Int) + (m:Int) * 1).toNat]?).toArray = ((xs.toList.drop i).take k).toArray:=by
 have e:(fun (m:Nat)=>xs[((i:Int) + (m:Int) * 1).toNat]?) = fun m=>xs[i + m]?:=by
  funext m
  have:((i:Int) + (m:Int) * 1).toNat = i + m:=by omega
  rw [this]
 rw [e]
 have:=pick_run xs i k
 rw [List.filterMap_map] at this
 have e2:((fun x=>xs[x]?) ∘ fun x=>i + x) = fun m=>xs[i + m]?:=rfl
 rw [e2] at this
 rw [this]
theorem getItem_tuple_cut {t sl:Addr} {items:Array Value} {vl vu:Value} {lo hi:Option Int} {Q:Value→Shared→Prop} (ht:IsTup s.heap t items) (hs:s.heap.IsSliceOf sl vl vu .none) (pl:IsPart vl lo) (pu:IsPart vu hi)
  (hw:¬ (sIx items.size 0 lo = 0∧sIx items.size items.size hi = items.size))
  (h:Q (.ref s.heap.objs.size) { s with heap:=s.heap.push { cls:=.type "tuple",data:=.seq ((items.toList.drop (sIx items.size 0 lo)).take (sIx items.size items.size hi - sIx items.size 0 lo)).toArray } })
  (hsz:items.size ≤ sizeLine):wpAny (model prog w) A (getItem (.ref t) (.ref sl)) Q E s:=by
 have htake:sizeOk (.seq ((items.toList.drop (sIx items.size 0 lo)).take (sIx items.size items.size hi - sIx items.size 0 lo)).toArray):=by
  show ((items.toList.drop (sIx items.size 0 lo)).take (sIx items.size items.size hi - sIx items.size 0 lo)).toArray.size ≤ sizeLine
  rw [List.size_toArray,List.length_take,List.length_drop,Array.length_toList]
  omega
 have hj:sIx items.size items.size hi ≤ items.size:=sIx_le _ _ (Nat.le_refl _) hi
 obtain ⟨os,hos,hcs,hds⟩:=id hs
 have hTs:s.TypeIs (.ref sl) "slice":=⟨os,hos,hcs⟩
 unfold getItem
 try with_reducible refine wpAny_holding ?_
 first | refine wpAny_bind (wpAny_pure ?_) | skip
 refine wpAny_bind (wpAny_sequenceKey ht.typeIs (by decide) ?_)
 refine wpAny_bind (wpAny_callSpecial?_slot (name:=Str.ofString "__getitem__") ht.typeIs PyProof.Rows.slot_tuple_getitem
  (wpAny_call_entry PyProof.Rows.slot_tuple_getitem ht.typeIs entry_tuple_getitem ?_ (args_tuple_getitem _ _)))
 show wpAny _ _ (Builtin.Tuple.tupleItemsOf (.ref t) >>= _) _ _ s
 refine wpAny_bind (tupleItemsOf_ ht ?_)
 refine wpAny_bind (wpAny_typeOf hTs ?_)
 rw [if_pos (by decide)]
 refine wpAny_bind (jfw hs pl pu ?_)
 have hno:¬ ((((sIx items.size 0 lo:Nat):Int) == 0 && (1:Int) == 1 && (sIx items.size items.size hi - sIx items.size 0 lo) == items.size) = true):=by
  intro q
  rw [Bool.and_eq_true,Bool.and_eq_true] at q
  have q1:((sIx items.size 0 lo:Nat):Int) = 0:=eq_of_beq q.1.1
  have q2:sIx items.size items.size hi - sIx items.size 0 lo = items.size:=eq_of_beq q.2
  exact hw ⟨by omega,by omega⟩
 show wpAny _ _ (if (((sIx items.size 0 lo:Nat):Int) == 0 && (1:Int) == 1 && (sIx items.size items.size hi - sIx items.size 0 lo) == items.size) = true then _ else _) _ _ s
 rw [if_neg hno,jro]
 first
  | exact wpAny_bind (m:=Builtin.Tuple.tupleExact _) (wpAny_newObj_type (wpAny_pure ⟨_,rfl,wpAny_pure h⟩) htake)
  | exact wpAny_bind (m:=Builtin.Tuple.tupleExact _) (wpAny_newObj_type (wpAny_bind (wpAny_pure (wpAny_pure ⟨_,rfl,wpAny_pure h⟩))) htake)
  | exact wpAny_bind (wpAny_bind (m:=Builtin.Tuple.tupleExact _) (wpAny_newObj_type (wpAny_pure (wpAny_pure ⟨_,rfl,wpAny_pure h⟩)) htake))
  | exact wpAny_bind (wpAny_bind (m:=Builtin.Tuple.tupleExact _) (wpAny_newObj_type (wpAny_pure ⟨_,rfl,wpAny_pure h⟩) htake))
end
end HT
namespace L2
open PySem PySem.Spec PyProof.Rows
abbrev TO:=St→Hp→(Option Int→Hp→Prop)→Prop
def PO (X:Cx) (e:Option Expr) (t:TO):Prop :=
 ∀ (pins:List (Addr × Obj)) (s:Shared) (σ:St) (H:Hp) (Q:Option Int→Hp→Prop),Inv X pins σ H s→t σ H Q →
  wpAny (model X.prog X.w) X.A (evalPart e X.env) (fun u s'=>∃ o H',Inv X pins σ H' s'∧IsPart u o∧Q o H') X.xe s
def ja3:TO:=fun _ H Q=>Q none H
theorem jcm {ns:List Int}:∀ {us:List Value},Vals (ns.map V.int) us→IntsAre us ns:=by
 induction ns with
 | nil=>intro us r; rw [List.map_nil] at r; cases r; exact .nil
 | cons n ns ih =>
  intro us r
  rw [List.map_cons] at r
  cases r with
  | cons r1 r2 =>
   obtain ⟨t,e⟩:=r1
   subst e
   exact .cons n t (ih r2)
section
variable {X:Cx} {e:Expr} {te:TE} {lo hi:Option Expr} {tl th:TO} {pos p2:Pos}
theorem jgm:PO X none ja3:=by
 intro pins s σ H Q I h
 rw [evalPart_none]
 exact wpAny_pure ⟨none,H,I,.none,h⟩
def SlR (X:Cx) (r:V→Option Int→Option Int→Hp→VK→Prop):Prop :=
 ∀ (pins:List (Addr × Obj)) (s:Shared) (σ:St) (H:Hp) (x:V) (v vl vu:Value) (lo hi:Option Int) (sl:Addr) (Q:VK),Inv X pins σ H s→RelV x v→s.heap.IsSliceOf sl vl vu .none→IsPart vl lo→IsPart vu hi→r x lo hi H Q →
  ∃ T id,typeLookup (.type T) "__getitem__" = pure (some (.builtin id))∧s.TypeIs v T∧wpAny (model X.prog X.w) X.A (getItem v (.ref sl)) (EP X pins σ Q) X.xe s
def tSl (r:V→Option Int→Option Int→Hp→VK→Prop) (te:TE) (tl th:TO):TE:=fun σ H Q=>te σ H fun x H1=>tl σ H1 fun l H2=>th σ H2 fun u H3=>r x l u H3 Q
theorem jeu {r:V→Option Int→Option Int→Hp→VK→Prop} (hr:SlR X r) (he:PE X e te) (hl:PO X lo tl) (hu:PO X hi th):PE X (.Subscript e (.Slice lo hi none p2) pos) (tSl r te tl th):=by
 intro pins s σ H Q I h
 refine Subscript_ (thn (he pins s σ H _ I h) fun v s1 ⟨x,H1,I1,r1,q1⟩=>?_)
 refine wpAny_Slice (thn (hl pins s1 σ H1 _ I1 q1) fun vl s2 ⟨l,H2,I2,pl,q2⟩=>thn (hu pins s2 σ H2 _ I2 q2) fun vu s3 ⟨u,H3,I3,pu,q3⟩=>?_)
 rw [evalPart_none]
 refine wpAny_pure ?_
 have I4:Inv X pins σ H3 { s3 with heap:=s3.heap.push { cls:=.type "slice",data:=.fields #[vl,vu,.none] } }:=I3.kept (t':=s3.toks) fun b ob q=>Heap.get?_push_of_some _ q
 obtain ⟨T,id,hT,ht,hg⟩:=hr pins { s3 with heap:=s3.heap.push { cls:=.type "slice",data:=.fields #[vl,vu,.none] } } σ H3 x v vl vu l u s3.heap.objs.size Q I4 r1 (Heap.IsSliceOf.new ..) pl pu q3
 show wpAny (model X.prog X.w) X.A (subscriptTail e (.Slice lo hi none p2) v (.ref s3.heap.objs.size)) (EP X pins σ Q) X.xe { s3 with heap:=s3.heap.push { cls:=.type "slice",data:=.fields #[vl,vu,.none] } }
 exact tail_any (ops:=[.ref s3.heap.objs.size,v]) ht hT hg (by with_unfolding_all rfl)
def cutV (xs:List V) (lo hi:Option Int):List V:=(xs.drop (HT.sIx xs.length 0 lo)).take (HT.sIx xs.length xs.length hi - HT.sIx xs.length 0 lo)
theorem jh9 (xs:List V) (lo hi:Option Int):(cutV xs lo hi).length ≤ xs.length:=by
 unfold cutV
 rw [List.length_take,List.length_drop]
 omega
def rSlT (K:PySem.W.Frag):V→Option Int→Option Int→Hp→VK→Prop:=fun x lo hi H Q=>∃ a xs,x = .ref a∧SqT K H a xs ∧
 ¬ (HT.sIx xs.length 0 lo = 0∧HT.sIx xs.length xs.length hi = xs.length)∧∀ p,H p = none→Q (.ref p) (upd H p (.tup (cutV xs lo hi)))
theorem sl_tup:SlR X (rSlT X.K):=by
 intro pins s σ H x v vl vu lo hi sl Q I rx hs pl pu h
 obtain ⟨a,xs,rfl,hx,hw,q⟩:=h
 cases rx
 obtain ⟨its,r,ht,hz⟩:=I.tuple hx
 have hlen:its.toArray.size = xs.length:=by rw [List.size_toArray]; exact r.length.symm
 refine ⟨"tuple",_,PyProof.Rows.slot_tuple_getitem.lookup,ht.typeIs,?_⟩
 refine HT.getItem_tuple_cut ht hs pl pu (by rw [hlen]; exact hw) ?_ (by rw [hlen]; exact hz)
 rw [hlen]
 refine ⟨.ref s.heap.objs.size,_,I.laid (t':=s.toks) (o:=.tup (cutV xs lo hi)) (fun b ob q=>Heap.get?_push_of_some _ q) (Nat.le_refl _) ?_,rfl,q _ (I.hok.fresh (Nat.le_refl _))⟩
 exact ⟨Nat.le_trans (jh9 xs lo hi) hz,_,(r.drop (HT.sIx xs.length 0 lo)).take (HT.sIx xs.length xs.length hi - HT.sIx xs.length 0 lo),IsTup.new _ _⟩
def rLtT (K:PySem.W.Frag):R2:=fun x y H Q=>∃ a b ns ms,x = .ref a∧y = .ref b∧SqT K H a (ns.map V.int)∧SqT K H b (ms.map V.int)∧Q (.bl (HT.lexLt ns ms)) H
theorem op_ltT (hu:X.A.units < cLine):OpR X (compareOp .Lt) (rLtT X.K):=by
 intro pins s σ H x y v u Q I rx ry h
 obtain ⟨a,b,ns,ms,rfl,rfl,ha,hb,q⟩:=h
 cases rx
 cases ry
 obtain ⟨its,r1,p1,_⟩:=I.tuple ha
 obtain ⟨its2,r2,p2,_⟩:=I.tuple hb
 have i1:IntsAre its.toArray.toList ns:=jcm r1
 have i2:IntsAre its2.toArray.toList ms:=jcm r2
 exact HT.lt_tupInts p1 p2 i1 i2 hu ⟨.bl (HT.lexLt ns ms),H,I,rfl,q⟩
end
end L2
namespace L2
open PySem PySem.Spec PyProof.Rows
def ixN (n:Nat) (i:Int):Option Nat:=if 0 ≤ i then (if i < n then some i.toNat else none) else if -(n:Int) ≤ i then some (i + n).toNat else none
def atI {α:Type} (xs:List α) (i:Int):Option α:=(ixN xs.length i).bind fun j=>xs[j]?
theorem jq4 {n:Nat} {i:Int} {j:Nat} (h:ixN n i = some j):seqIndex? i n = some j∧j < n∧-(n:Int) ≤ i∧i < n:=by
 unfold ixN at h
 by_cases h0:0 ≤ i
 ·rw [if_pos h0] at h
  by_cases h1:i < n
  ·rw [if_pos h1] at h
   have e:i.toNat = j:=Option.some.inj h
   exact ⟨by rw [seqIndex_of h0 h1,e],by omega,by omega,h1⟩
  ·rw [if_neg h1] at h; cases h
 ·rw [if_neg h0] at h
  by_cases h1:-(n:Int) ≤ i
  ·rw [if_pos h1] at h
   have e:(i + n).toNat = j:=Option.some.inj h
   exact ⟨by rw [seqIndex_neg (by omega) h1,e],by omega,h1,by omega⟩
  ·rw [if_neg h1] at h; cases h
theorem jlu {α:Type} {xs:List α} {i:Int} {v:α} (h:atI xs i = some v):∃ j,seqIndex? i xs.length = some j∧xs[j]? = some v∧j < xs.length∧-(xs.length:Int) ≤ i∧i < xs.length:=by
 unfold atI at h
 cases e:ixN xs.length i with
 | none=>rw [e] at h; cases h
 | some j =>
  rw [e] at h
  obtain ⟨h1,h2,h3,h4⟩:=jq4 e
  exact ⟨j,h1,h,h2,h3,h4⟩
theorem jbz {α:Type} {xs:List α} {j:Nat} {v:α} (h:xs[j]? = some v):atI xs (j:Int) = some v:=by
 have hj:j < xs.length:=(List.getElem?_eq_some_iff.mp h).1
 have e:ixN xs.length (j:Int) = some j:=by
  unfold ixN
  rw [if_pos (by omega),if_pos (by omega)]; simp
 unfold atI; rw [e]; exact h
def jv6 (b:Expr):Prop:=∀ o i,subscripted b false o i = operate [o,i] (getItem o i)
def IxR (X:Cx) (r:R2):Prop :=
 ∀ (value slice:Expr) (pins:List (Addr × Obj)) (s:Shared) (σ:St) (H:Hp) (x y:V) (v u:Value) (Q:VK),Inv X pins σ H s→RelV x v→RelV y u→r x y H Q →
  subscripted slice false v u = operate [v,u] (getItem v u)→wpAny (model X.prog X.w) X.A (subscriptTail value slice v u) (EP X pins σ Q) X.xe s
def MtR (X:Cx) (id:String) (r:V→List V→Hp→VK→Prop):Prop :=
 ∀ (pins:List (Addr × Obj)) (s:Shared) (σ:St) (H:Hp) (x:V) (xs:List V) (v:Value) (us:List Value) (Q:VK),Inv X pins σ H s→RelV x v→Vals xs us→r x xs H Q →
  wpAny (model X.prog X.w) X.A (call (.builtin id) (v :: us)) (EP X pins σ Q) X.xe s
section
variable {X:Cx} {a b:Expr} {ta tb:TE} {pos:Pos}
theorem IxR.or {r r':R2} (h:IxR X r) (h':IxR X r'):IxR X (fun x y H Q=>r x y H Q ∨ r' x y H Q):=by
 intro value slice pins s σ H x y v u Q I rx ry q hs
 rcases q with q | q
 ·exact h value slice pins s σ H x y v u Q I rx ry q hs
 ·exact h' value slice pins s σ H x y v u Q I rx ry q hs
theorem jbh {r:R2} (hr:IxR X r) (ha:PE X a ta) (hb:PE X b tb) (hs:jv6 b):PE X (.Subscript a b pos) (tOp r ta tb):=by
 intro pins s σ H Q I h
 exact Subscript_ (binT ha hb I h fun v u s2 x y H2 I2 rx ry q=>hr a b pins s2 σ H2 x y v u Q I2 rx ry q (hs _ _))
def rIxL (K:PySem.W.Frag):R2:=fun x y H Q=>∃ p xs i v,x = .ref p∧y = .int i∧SqL K H p xs∧atI xs i = some v∧Q v H
def rIxT (K:PySem.W.Frag):R2:=fun x y H Q=>∃ p xs i v,x = .ref p∧y = .int i∧SqT K H p xs∧atI xs i = some v∧Q v H
theorem jq3:IxR X (rIxL X.K):=by
 intro value slice pins s σ H x y v u Q I rx ry h hs
 obtain ⟨p,xs,i,z,rfl,rfl,hq,he,q⟩:=h
 cases rx
 obtain ⟨t,rfl⟩:=ry
 obtain ⟨its,r,pl,hz⟩:=I.list hq
 obtain ⟨j,h1,h2,h3,h4,h5⟩:=jlu he
 obtain ⟨w,ew,rw'⟩:=r.get h2
 have hl:=r.length
 have hn:=jhw
 have fin:EP X pins σ Q w s:=⟨z,H,I,rw',q⟩
 by_cases h0:0 ≤ i
 ·have hj:i.toNat = j:=by
   rw [seqIndex_of h0 h5] at h1
   exact Option.some.inj h1
  exact item_listR pl.isList h0 (by omega) (by rw [hj]; simpa using ew) fin hs
 ·have hj:(i + (its.toArray.size:Int)).toNat = j:=by
   rw [seqIndex_neg (by omega) h4] at h1
   rw [List.size_toArray,← hl]
   exact Option.some.inj h1
  exact subscriptTail_builtinR (x:=w) pl.isList.typeIs slot_list_getitem.lookup
   (wpAny_getItem_list_neg (Q:=fun r s'=>r = w∧EP X pins σ Q r s') pl.isList (by omega) (by rw [List.size_toArray] <;> omega) (by omega) (by rw [hj]; simpa using ew) ⟨rfl,fin⟩) hs
theorem ix_tup:IxR X (rIxT X.K):=by
 intro value slice pins s σ H x y v u Q I rx ry h hs
 obtain ⟨p,xs,i,z,rfl,rfl,hq,he,q⟩:=h
 cases rx
 obtain ⟨t,rfl⟩:=ry
 obtain ⟨its,r,pl,hz⟩:=I.tuple hq
 obtain ⟨j,h1,h2,h3,h4,h5⟩:=jlu he
 obtain ⟨w,ew,rw'⟩:=r.get h2
 have hl:=r.length
 have hn:=jhw
 have fin:EP X pins σ Q w s:=⟨z,H,I,rw',q⟩
 exact subscriptTail_builtinR (x:=w) pl.typeIs slot_tuple_getitem.lookup
  (getItem_tuple (j:=j) (Q:=fun r s'=>r = w∧EP X pins σ Q r s') pl (by omega) (by omega) (by rw [List.size_toArray,← hl]; exact h1) (by simpa using ew) ⟨rfl,fin⟩) hs
theorem jnp (its:List Value) (n j:Nat) (u:Value):Obj.mapSeq (·.setIfInBounds j u) { cls:=.type "list",data:=.seq its.toArray n } = { cls:=.type "list",data:=.seq (its.set j u).toArray n }:=by
 simp [Obj.mapSeq]
theorem Inv.lst {pins:List (Addr × Obj)} {σ:St} {H:Hp} {s:Shared} {p:Addr} {xs:List V} (I:Inv X pins σ H s) (h:H p = some (.lst xs)) :
  ∃ (its:List Value) (n:Nat),Vals xs its∧s.heap.get? p = some { cls:=.type "list",data:=.seq its.toArray n }∧xs.length ≤ sizeLine:=by
 obtain ⟨z,its,n,r,e⟩:=I.hok p _ h
 exact ⟨its,n,r,e,z⟩
theorem Inv.lstUpd {pins:List (Addr × Obj)} {σ:St} {H:Hp} {s:Shared} {p:Addr} {xs ys:List V} {its its':List Value} {n n':Nat} {f:Obj→Obj} (I:Inv X pins σ H s) (h:H p = some (.lst xs))
  (ho:s.heap.get? p = some { cls:=.type "list",data:=.seq its.toArray n }) (hf:f { cls:=.type "list",data:=.seq its.toArray n } = { cls:=.type "list",data:=.seq its'.toArray n' }) (r:Vals ys its') (hz:ys.length ≤ sizeLine) (t:Nat) :
  Inv X pins σ (upd H p (.lst ys)) { s with heap:=s.heap.update p f,toks:=t }:=by
 have e:(s.heap.update p f).get? p = some { cls:=.type "list",data:=.seq its'.toArray n' }:=by
  rw [Heap.get?_update_self f ho (by rw [hf] <;> rfl),hf]
 refine I.write (x:=p) (e:=p) (by rw [h]; trivial) (.inl rfl) (fun b u hb q=>(Heap.get?_update_other _ _ (Ne.symm hb)).trans q) ⟨_,e⟩ ?_
 exact ⟨hz,its',n',r,e⟩
def rSetL:V→V→V→Hp→(Hp→Prop)→Prop:=fun o i v H Q=>∃ p xs k j,o = .ref p∧i = .int k∧H p = some (.lst xs)∧ixN xs.length k = some j∧Q (upd H p (.lst (xs.set j v)))
theorem jrb:PSet X rSetL:=by
 intro pins s σ H o i v ov iv u Q I ro ri rv h
 obtain ⟨p,xs,k,j,rfl,rfl,hp,hj,q⟩:=h
 cases ro
 obtain ⟨t,rfl⟩:=ri
 obtain ⟨its,n,r,ho,hz⟩:=I.lst hp
 obtain ⟨h1,h2,h3,h4⟩:=jq4 hj
 have hl:=r.length
 have hn:=jhw
 have I':Inv X pins σ (upd H p (.lst (xs.set j v))) { s with heap:=s.heap.update p (Obj.mapSeq (·.setIfInBounds j u)) } :=
  I.lstUpd hp ho (jnp its n j u) (r.set rv j) (by rw [List.length_set]; exact hz) s.toks
 by_cases h0:0 ≤ k
 ·have hk:k.toNat = j:=by
   rw [seqIndex_of h0 h4] at h1
   exact Option.some.inj h1
  exact PySem.W.ki_setAt ho h0 (by omega) (by rw [List.size_toArray,← hl]; exact h4) (by rw [hk]; exact ⟨_,I',q⟩)
 ·have hk:(k + (its.toArray.size:Int)).toNat = j:=by
   rw [seqIndex_neg (by omega) h3] at h1
   rw [List.size_toArray,← hl]
   exact Option.some.inj h1
  exact PySem.W.ki_setBack ho (by omega) (by rw [List.size_toArray,← hl]; exact h3) (by omega) (by rw [hk]; exact ⟨_,I',q⟩)
theorem jk1 (lo hi:Option Int) (n:Nat):(sliceBounds lo hi none n).1 = ((HT.sIx n 0 lo:Nat):Int)∧(sliceBounds lo hi none n).2.1 = ((HT.sIx n n hi:Nat):Int)∧(sliceBounds lo hi none n).2.2 = 1:=by
 refine ⟨?_,?_,rfl⟩
 ·cases lo with
  | none=>simp [sliceBounds,HT.sIx]
  | some i =>
   simp only [sliceBounds,HT.sIx,Option.getD_none,show (1:Int) > 0 by decide,if_true]
   by_cases h:i < 0
   ·simp only [h,if_true] <;> omega
   ·simp only [h,if_false] <;> omega
 ·cases hi with
  | none=>simp [sliceBounds,HT.sIx]
  | some i =>
   simp only [sliceBounds,HT.sIx,Option.getD_none,show (1:Int) > 0 by decide,if_true]
   by_cases h:i < 0
   ·simp only [h,if_true] <;> omega
   ·simp only [h,if_false] <;> omega
theorem jie (its:List Value) (lo hi:Option Int):slicePick its.toArray lo hi none = ((its.drop (HT.sIx its.length 0 lo)).take (HT.sIx its.length its.length hi - HT.sIx its.length 0 lo)).toArray:=by
 obtain ⟨h1,h2,h3⟩:=jk1 lo hi its.toArray.size
 unfold slicePick
 rw [h1,h2,h3]
 simp only [sliceRange_one,pick_run,List.size_toArray] <;> rfl
def rSlL (K:PySem.W.Frag):V→Option Int→Option Int→Hp→VK→Prop:=fun x lo hi H Q=>∃ a xs,x = .ref a∧SqL K H a xs∧∀ p,H p = none→Q (.ref p) (upd H p (.lst (cutV xs lo hi)))
theorem jto:SlR X (rSlL X.K):=by
 intro pins s σ H x v vl vu lo hi sl Q I rx hs pl pu h
 obtain ⟨a,xs,rfl,hx,q⟩:=h
 cases rx
 obtain ⟨its,r,ht,hz⟩:=I.list hx
 have hlen:=r.length
 refine ⟨"list",_,slot_list_getitem.lookup,ht.isList.typeIs,?_⟩
 refine wpAny_getItem_list_slice ht.isList hs pl pu .none (by simp) ?_ (by rw [List.size_toArray] <;> omega)
 rw [jie,← hlen]
 refine ⟨.ref s.heap.objs.size,_,I.laid (t':=s.toks) (o:=.lst (cutV xs lo hi)) (fun b ob q=>Heap.get?_push_of_some _ q) (Nat.le_refl _) ?_,rfl,q _ (I.hok.fresh (Nat.le_refl _))⟩
 exact ⟨Nat.le_trans (jh9 xs lo hi) hz,_,0,(r.drop (HT.sIx xs.length 0 lo)).take (HT.sIx xs.length xs.length hi - HT.sIx xs.length 0 lo),Heap.get?_push_size _ rfl⟩
def jqf:V→Bool
 | .non=>true
 | .bl _=>true
 | .int _=>true
 | .str _=>true
 | _=>false
def eqV:V→V→Bool
 | .non,.non=>true
 | .bl a,.bl b=>a == b
 | .bl a,.int b=>(if a then 1 else 0) == b
 | .int a,.bl b=>a == (if b then 1 else 0)
 | .int a,.int b=>a == b
 | .str a,.str b=>a == b
 | _,_=>false
theorem eqAt_V {A:Around} {s:Shared} {y x:V} {u v:Value} (ry:RelV y u) (rx:RelV x v) (fy:jqf y = true) (fx:jqf x = true):SeqAt.EqAt A s u v (eqV y x):=by
 cases y with
 | non =>
  cases ry
  cases x with
  | non=>cases rx; exact SeqAt.EqAt.same _
  | bl b=>cases rx; exact SeqAt.EqAt.none_bool b
  | int b=>obtain ⟨t,rfl⟩:=rx; exact SeqAt.EqAt.none_int b t
  | str b=>obtain ⟨t,rfl⟩:=rx; exact SeqAt.EqAt.none_str b t
  | _=>exact absurd (show false = true from fx) Bool.false_ne_true
 | bl a =>
  cases ry
  cases x with
  | non=>cases rx; exact SeqAt.EqAt.bool_none a
  | bl b=>cases rx; exact SeqAt.EqAt.bool_bool a b
  | int b=>obtain ⟨t,rfl⟩:=rx; exact SeqAt.EqAt.bool_int a b t
  | str b=>obtain ⟨t,rfl⟩:=rx; exact SeqAt.EqAt.bool_str a b t
  | _=>exact absurd (show false = true from fx) Bool.false_ne_true
 | int a =>
  obtain ⟨t',rfl⟩:=ry
  cases x with
  | non=>cases rx; exact SeqAt.EqAt.int_none a t'
  | bl b=>cases rx; exact SeqAt.EqAt.int_bool a t' b
  | int b=>obtain ⟨t,rfl⟩:=rx; exact SeqAt.EqAt.int_int a t' b t
  | str b=>obtain ⟨t,rfl⟩:=rx; exact SeqAt.EqAt.int_str a t' b t
  | _=>exact absurd (show false = true from fx) Bool.false_ne_true
 | str a =>
  obtain ⟨t',rfl⟩:=ry
  cases x with
  | non=>cases rx; exact SeqAt.EqAt.str_none a t'
  | bl b=>cases rx; exact SeqAt.EqAt.str_bool a t' b
  | int b=>obtain ⟨t,rfl⟩:=rx; exact SeqAt.EqAt.str_int a t' b t
  | str b=>obtain ⟨t,rfl⟩:=rx; exact SeqAt.EqAt.str_str a t' b t
  | _=>exact absurd (show false = true from fx) Bool.false_ne_true
 | _=>exact absurd (show false = true from fy) Bool.false_ne_true
def inV (x:V) (xs:List V):Bool:=xs.any fun y=>eqV y x
theorem je2:jda X (.builtin "len") (fun xs H Q=>∃ p ys,xs = [.ref p]∧(SqL X.K H p ys ∨ SqT X.K H p ys)∧Q (.int ys.length) H):=by
 intro pins s σ H xs us Q I r h
 obtain ⟨p,ys,rfl,hq,q⟩:=h
 obtain ⟨u,rfl,rx⟩:=jjl r
 cases rx
 have hn:=jhw
 rcases hq with hq | hq
 ·obtain ⟨its,r',pl,hz⟩:=I.list hq
  have hlen:=r'.length
  exact Calls.call_len_list pl.isList (by simp only [List.size_toArray] <;> omega) ⟨.int ys.length,H,I.tok _,⟨s.toks + 1,by rw [List.size_toArray,hlen]⟩,q⟩
 ·obtain ⟨its,r',pl,hz⟩:=I.tuple hq
  have hlen:=r'.length
  exact len_tuple pl (by simp only [List.size_toArray] <;> omega) ⟨.int ys.length,H,I.tok _,⟨s.toks + 1,by rw [List.size_toArray,hlen]⟩,q⟩
theorem jkt:jda X (.type "list") (fun xs H Q=>∃ p ys,xs = [.ref p]∧(SqL X.K H p ys ∨ SqT X.K H p ys)∧∀ l,H l = none→Q (.ref l) (upd H l (.lst ys))):=by
 intro pins s σ H xs us Q I r h
 obtain ⟨p,ys,rfl,hq,q⟩:=h
 obtain ⟨u,rfl,rx⟩:=jjl r
 cases rx
 have fin:∀ (its:List Value),Vals ys its→ys.length ≤ sizeLine→∀ (h':Heap) (c':Nat),(∀ b o',s.heap.get? b = some o'→h'.get? b = some o') →
   h'.get? s.heap.objs.size = some { cls:=.type "list",dict:=none,data:=.seq its.toArray c',slots:=#[] }→EP X pins σ Q (.ref s.heap.objs.size) { s with heap:=h' }:=fun its r' hz h' c' kp e =>
  ⟨.ref s.heap.objs.size,_,I.laid (t':=s.toks) kp (Nat.le_refl _) (show jcy X.prog X.w _ h' _ (.lst ys) from ⟨hz,its,c',r',e⟩),rfl,q _ (I.hok.fresh (Nat.le_refl _))⟩
 rcases hq with hq | hq
 ·obtain ⟨its,r',pl,hz⟩:=I.list hq
  have hlen:=r'.length
  obtain ⟨o,ho,hc,n,hd⟩:=pl.isList
  exact call_list_seq p (.inl rfl) ho hc hd (fun h' c' kp e=>fin its r' hz h' c' kp e) (by simp only [List.size_toArray] <;> omega)
 ·obtain ⟨its,r',pl,hz⟩:=I.tuple hq
  have hlen:=r'.length
  obtain ⟨o,ho,hc,n,hd⟩:=pl
  exact call_list_seq p (.inr rfl) ho hc hd (fun h' c' kp e=>fin its r' hz h' c' kp e) (by simp only [List.size_toArray] <;> omega)
def tyV (K:PySem.W.Frag) (T:String) (x:V) (H:Hp):Prop:=match x with
 | .str _=>T = "str"
 | .int _=>T = "int"
 | .ref p=>(T = "list"∧∃ xs,SqL K H p xs) ∨ (T = "tuple"∧∃ o,K.lookup p = some o∧o.cls = .type "tuple"∧o.dict = none) ∨
   (T = "dict"∧((∃ kvs,H p = some (.dK kvs)) ∨ ∃ kvs,H p = some (.dT kvs))) ∨ (T = "set"∧∃ S n,H p = some (.set S n))
 | _=>False
theorem tyV_is {pins:List (Addr × Obj)} {σ:St} {H:Hp} {s:Shared} {T:String} {x:V} {v:Value} (I:Inv X pins σ H s) (r:RelV x v) (ty:tyV X.K T x H) :
  s.TypeIs v T∧∀ a,v = .ref a→∃ ob,s.heap.get? a = some ob∧ob.dict = none:=by
 cases x with
 | str z =>
  obtain ⟨t,rfl⟩:=r
  cases (show T = "str" from ty)
  exact ⟨typeIs_str s z t,fun _ e=>nomatch e⟩
 | int i =>
  obtain ⟨t,rfl⟩:=r
  cases (show T = "int" from ty)
  exact ⟨typeIs_int s i t,fun _ e=>nomatch e⟩
 | ref p =>
  cases r
  rcases ty with ⟨rfl,xs,hq⟩ | ⟨rfl,o,hk,hc,hd⟩ | ⟨rfl,hk⟩ | ⟨rfl,S,n,hk⟩
  ·obtain ⟨its,_,pl,_⟩:=I.list hq
   refine ⟨pl.isList.typeIs,fun a e=>?_⟩
   cases e
   obtain ⟨o,n,e,c,hd,_⟩:=pl
   exact ⟨o,e,hd⟩
  ·refine ⟨⟨o,I.kIn p o hk,hc⟩,fun a e=>?_⟩
   cases e
   exact ⟨o,I.kIn _ o hk,hd⟩
  ·have z:∃ o,s.heap.get? p = some o∧o.ExactDict:=by
    rcases hk with ⟨kvs,hk⟩ | ⟨kvs,hk⟩
    ·obtain ⟨_,_,_,_,o,_,_,e,ex,_⟩:=I.hok p _ hk
     exact ⟨o,e,ex⟩
    ·obtain ⟨_,_,_,_,o,_,_,e,ex,_⟩:=I.hok p _ hk
     exact ⟨o,e,ex⟩
   obtain ⟨o,e,ex⟩:=z
   refine ⟨⟨o,e,ex.1⟩,fun a e2=>?_⟩
   cases e2
   exact ⟨o,e,ex.2.1⟩
  ·obtain ⟨o,_,_,_,e,ex,_⟩:=I.hok p _ hk
   refine ⟨⟨o,e,ex.1⟩,fun a e2=>?_⟩
   cases e2
   exact ⟨o,e,ex.2.1⟩
 | _=>exact False.elim ty
variable {o e:Expr} {es:List Expr} {to:TE} {t:TA} {name:Str} {apos cpos:Pos} {T id:String} {r:V→List V→Hp→VK→Prop}
/- xs.append(e),list.index on a module's tuple .. are MtR facts of 06m -/
end
end L2
namespace L2
open PySem PySem.Spec PyProof.Rows
def MtM (X:Cx) (id:String) (r:V→List V→Hp→VK→Prop):Prop :=
 ∀ (pins:List (Addr × Obj)) (s:Shared) (σ:St) (H:Hp) (x:V) (xs:List V) (v:Value) (us:List Value) (Q:VK),Inv X pins σ H s→RelV x v→Vals xs us→r x xs H Q →
  wpAny (model X.prog X.w) X.A (call (.builtin id) (v :: us)) (EP X pins σ Q) X.xe s
theorem Vals.one:∀ {x:V} {us:List Value},Vals [x] us→∃ u,us = [u]∧RelV x u
 | _,_,.cons r .nil=>⟨_,rfl,r⟩
theorem Vals.two:∀ {x y:V} {us:List Value},Vals [x,y] us→∃ u v,us = [u,v]∧RelV x u∧RelV y v
 | _,_,_,.cons r (.cons q .nil)=>⟨_,_,rfl,r,q⟩
theorem Vals.rep {xs:List V} {us:List Value} (h:Vals xs us):∀ k:Nat,Vals (List.replicate k xs).flatten (List.replicate k us).flatten
 | 0=>.nil
 | k + 1=>by
  rw [List.replicate_succ,List.replicate_succ,List.flatten_cons,List.flatten_cons]
  exact Vals.append h (Vals.rep h k)
section
variable {X:Cx} {pins:List (Addr × Obj)} {σ:St} {H:Hp} {s:Shared} {l b:Addr} {xs ys zs:List V}
theorem Inv.lset {its its':List Value} {n:Nat} {f:Array Value→Array Value} {t':Nat} (I:Inv X pins σ H s) (hH:H l = some (.lst xs))
  (e:s.heap.get? l = some { cls:=.type "list",data:=.seq its.toArray n }) (hf:f its.toArray = its'.toArray) (hv:Vals ys its') (hz:ys.length ≤ sizeLine) :
  Inv X pins σ (upd H l (.lst ys)) { s with heap:=s.heap.update l (Obj.mapSeq f),toks:=t' }:=by
 have q:=PySem.IsL.update e f
 rw [hf] at q
 refine I.write (x:=l) (e:=l) (by rw [hH]; exact trivial) (.inl rfl) (fun b' u hb hu=>(Heap.get?_update_other s.heap (Obj.mapSeq f) (Ne.symm hb)).trans hu) ⟨_,q⟩ ?_
 exact ⟨hz,its',_,hv,q⟩
theorem Inv.lnew {its:List Value} {t':Nat} (I:Inv X pins σ H s) (hv:Vals ys its) (hz:ys.length ≤ sizeLine) :
  Inv X pins σ (upd H s.heap.objs.size (.lst ys)) { s with heap:=s.heap.push { cls:=.type "list",data:=.seq its.toArray },toks:=t' } :=
 I.laid (fun _ _ q=>Heap.get?_push_of_some _ q) (Nat.le_refl _) ⟨hz,its,0,hv,Heap.get?_push_size _ rfl⟩
theorem Inv.fresh (I:Inv X pins σ H s):H s.heap.objs.size = none:=I.hok.fresh (Nat.le_refl _)
theorem Inv.lstM (I:Inv X pins σ H s) (hH:H l = some (.lst xs)):xs.length ≤ sizeLine∧∃ (its:List Value) (n:Nat),Vals xs its∧xs.length = its.length∧s.heap.get? l = some { cls:=.type "list",data:=.seq its.toArray n }:=by
 obtain ⟨z,its,n,r,e⟩:=I.hok l _ hH
 exact ⟨z,its,n,r,r.length,e⟩
theorem jmp {n:Nat} (h:n ≤ sizeLine):Builtin.List.listTooLong n = false:=by
 unfold Builtin.List.listTooLong
 exact decide_eq_false (by omega)
end
section
variable {X:Cx}
def jp4:V→List V→Hp→VK→Prop:=fun x vs H Q=>∃ l xs y,x = .ref l∧vs = [y]∧H l = some (.lst xs)∧xs.length < sizeLine∧Q .non (upd H l (.lst (xs ++ [y])))
theorem jkd:MtM X "list.append" jp4:=by
 intro pins s σ H x vs v us Q I rx rv h
 obtain ⟨l,xs,y,rfl,rfl,hH,hz,q⟩:=h
 cases rx
 obtain ⟨u,rfl,ru⟩:=rv.one
 obtain ⟨z,its,n,r,hl,e⟩:=I.lstM hH
 refine call_meets F.slot_list_append ⟨_,e,rfl⟩ F.entry_list_append (F.args_list_append_2 _ _) (PySem.list_append l its.toArray n u (by rw [List.size_toArray]; omega)) ⟨e,?_⟩
 refine ⟨.non,_,I.lset (its':=its ++ [u]) hH e (by simp) (r.append (.cons ru .nil)) ?_,rfl,q⟩
 rw [List.length_append,List.length_singleton]
 omega
def jp3:V→List V→Hp→VK→Prop:=fun x vs H Q=>∃ l b xs zs,x = .ref l∧vs = [.ref b]∧H l = some (.lst xs)∧H b = some (.lst zs)∧xs.length + zs.length ≤ sizeLine∧Q .non (upd H l (.lst (xs ++ zs)))
theorem jps:MtM X "list.extend" jp3:=by
 intro pins s σ H x vs v us Q I rx rv h
 obtain ⟨l,b,xs,zs,rfl,rfl,hH,hB,hz,q⟩:=h
 cases rx
 obtain ⟨u,rfl,ru⟩:=rv.one
 cases ru
 obtain ⟨z,its,n,r,hl,e⟩:=I.lstM hH
 obtain ⟨z2,its2,n2,r2,hl2,e2⟩:=I.lstM hB
 have hsz:its.toArray.size + its2.toArray.size ≤ sizeLine:=by rw [List.size_toArray,List.size_toArray]; omega
 have hlong:¬ (!its.toArray.isEmpty && Builtin.List.listTooLong (its.toArray.size + its2.toArray.size)) = true:=by
  rw [jmp hsz,Bool.and_false]
  exact Bool.false_ne_true
 refine call_meets F.slot_list_extend ⟨_,e,rfl⟩ F.entry_list_extend (F.args_list_extend_2 _ _)
  (AutoSeq1.list_extend_list_list_0 l its.toArray n b its2.toArray n2 hlong (by rw [List.size_toArray]; omega) (by omega)) ⟨e,e2,?_⟩
 refine ⟨.non,_,I.lset (its':=its ++ its2) hH e (by simp) (r.append r2) ?_,rfl,q⟩
 rw [List.length_append]
 omega
def rCat:R2:=fun x y H Q=>∃ l b xs zs,x = .ref l∧y = .ref b∧H l = some (.lst xs)∧H b = some (.lst zs)∧xs.length + zs.length ≤ sizeLine∧∀ p,H p = none→Q (.ref p) (upd H p (.lst (xs ++ zs)))
theorem op_cat:OpR X (binaryOp .Add) rCat:=by
 intro pins s σ H x y v u Q I rx ry h
 obtain ⟨l,b,xs,zs,rfl,rfl,hH,hB,hz,q⟩:=h
 cases rx
 cases ry
 obtain ⟨z,its,n,r,hl,e⟩:=I.lstM hH
 obtain ⟨z2,its2,n2,r2,hl2,e2⟩:=I.lstM hB
 refine PySem.P.add_list e e2 ?_ (by rw [List.size_toArray,List.size_toArray]; omega)
 have ea:its.toArray ++ its2.toArray = (its ++ its2).toArray:=by simp
 rw [ea]
 exact ⟨.ref _,_,I.lnew (t':=s.toks) (r.append r2) (by rw [List.length_append]; omega),rfl,q _ I.fresh⟩
end
section
variable {prog:Program} {w:World} {A:Around} {E:Value→Shared→Prop} {s:Shared}
end
section
variable {X:Cx}
end
end L2
namespace Att
open PySem PySem.W PySem.Calls PyProof.Rows
theorem jh5 {P:Params} {h:Heap}:∀ (ns:List Int) (vs:List Value),WellAll P h vs (ns.map WData.int)→IntsAre vs ns:=by
 intro ns
 induction ns with
 | nil =>
  intro vs w
  rw [List.map_nil] at w
  cases w
  exact .nil
 | cons n ns ih =>
  intro vs w
  rw [List.map_cons] at w
  cases w with
  | cons a b =>
   cases a
   exact .cons _ _ (ih _ b)
theorem joz {l:OpenLaw} {n:Nat} (hn:l.most = some n) {P:Params} {h:Heap} {args:List WData} {vals:List Value}
  (hpre:l.row.toRowW.claim.pre args = true) (hwl:WellAll P h vals args) :
  ∃ a vs ns,vals = [Value.ref a]∧args = [WData.list (ns.map WData.int)]∧h.get? a = some { cls:=.type "list",data:=.seq vs.toArray }∧IntsAre vs ns∧ns.length ≤ n:=by
 have hsh:WShape.hasAll [] args [.list .int] = true:=(pre_splitW hpre).1
 have hc:l.pre.holds [] { args:=args } = true:=(pre_splitW hpre).2
 obtain ⟨d,r,rfl,h1,h2⟩:=hasAllW_cons hsh
 obtain rfl:=hasAllW_nil h2
 obtain ⟨xs,rfl,h3⟩:=hasW_list h1
 obtain ⟨ns,rfl⟩:=items_int h3
 have hlen:ns.length ≤ n:=by
  unfold OpenLaw.pre at hc
  have h4:(WTm.not (.lt (.lit (.int (n:Int))) (.len (.arg 0)))).holds [] { args:=[.list (ns.map .int)] } = true:=by
   have h4:=(holds_andW hc).1
   rw [hn] at h4
   exact h4
  have h5:=condW_of h4 (w_not (w_lt w_lit (w_len_list (w_arg rfl))))
  rw [List.length_map] at h5
  refine Nat.le_of_not_lt fun q=>?_
  have q':(n:Int) < ((ns.length:Nat):Int):=by omega
  first
   | (rw [decide_eq_true q'] at h5; exact absurd h5 (by decide))
   | (simp at h5; omega)
 cases hwl with
 | cons w1 w2 =>
  cases w2
  cases w1 with
  | list ho hall=>exact ⟨_,_,ns,rfl,rfl,ho,jh5 ns _ hall,hlen⟩
theorem jpa (l:OpenLaw) (args:List WData):l.row.toRowW.claim.post args (.bool true) args = true :=
 postW_of (r:=l.row.toRowW) (X:=(true == true))
  (show WShape.has [] (.bool true) .bool = true by first | rfl | decide | simp [WShape.has,WShape.arms,WShape.armsAll])
  (show (WTm.eq .res (.lit (.bool true))).value [] { args:=args,res:=some (.bool true),after:=args } = some (.bool (true == true)) from w_eq_bool (w_res rfl) w_lit) rfl
theorem attach_call {l:OpenLaw} {n:Nat} {q:Program} {loose:List Str} {XP:(Str→Option Value)→Heap→Prop} {YP:World→Heap→Prop} {d:DefRec}
  (hn:l.most = some n) (hdf:d.params.defaults = [])
  (call:∀ (w:World) (s₀ s₁:Shared) (mg mb:Str→Option Value) (fa:Addr) (o:Obj) (pm cd doc:Value) (a:Addr) (vs:List Value) (ns:List Int),
   Ground q loose [] XP w s₀ mg mb s₁.heap→YP w s₁.heap →
   s₁.heap.get? fa = some o→o.data = .func (docDef d.name d.params d.body d.scope pm cd doc)→s₁.heap.CodeRec cd d.name→mg d.name = some (.ref fa) →
   s₁.heap.get? a = some { cls:=.type "list",data:=.seq vs.toArray }→IntsAre vs ns→ns.length ≤ n→s₁.gens = #[] →
   codeAny (model l.prog w) callerA (.call (.ref fa) ⟨[.ref a],[]⟩) (fun r s'=>r = .ok (.ret (.bool true))∧OldK s₁.heap s'.heap∧s'.os = s₁.os∧AllBare s'.gens) s₁) :
  WalkO q loose XP YP l.row.toRowW d [] (fun f vs=>PySem.call f vs):=by
 intro w s₀ s₁ mg mb G Y fa o pm cd doc dV kV ho hd hcd hD hmg hg args vals as hpre hlay hrd hwl hlo
 obtain rfl:dV = .none:=Dflts.none hD hdf
 obtain rfl:kV = .none:=Dflts.noKw hD
 obtain ⟨a,vs,ns,rfl,rfl,hobj,hints,hlen⟩:=joz hn hpre hwl
 refine enter_call (codeAny_mono (call w s₀ s₁ mg mb fa o pm cd doc a vs ns G Y ho (fd_plain hd) hcd hmg hobj hints hlen hg) fun r s' hq=>?_)
 obtain ⟨rfl,h2,h3,h4⟩:=hq
 exact ⟨.inl ⟨.bool true,.bool true,[],rfl,fun _=>rfl,.bool true,jpa l _,fun _=>⟨List.Pairwise.nil,fun _ hm=>(nomatch hm)⟩⟩,h2,h3,h4⟩
section
variable {prog:Program} {w:World} {A:Around} {E:Value→Shared→Prop} {s:Shared} {K:Frag}
end
end Att
namespace L2
open PySem PySem.Spec PyProof.Rows
theorem jg9:∀ {vs:List Value} {ns:List Int},IntsAre vs ns→Vals (ns.map V.int) vs
 | _,_,.nil=>.nil
 | _,_,.cons n t h=>.cons ⟨t,rfl⟩ (jg9 h)
def Only (H:Hp):Prop:=∀ b,H b = none ∨ ∃ o xs,H b = some (.frz o (.lst xs))
theorem js5 {P:Program} {w:World} {K:PySem.W.Frag} {mg mb:Str→Option Value} {CX:CXT} {k:Nat} {fa a:Addr} {fd:FuncData} {x:Str} {sp:Sp} {s₁:Shared} {vs:List Value} {ns:List Int}
  (KX:K.In s₁.heap) (hns:s₁.heap.Ns mainGlobals mg) (hb:s₁.heap.Ns builtinsNs mb) (hbb:∀ x:Str,x ≠ "__name__"→mb x = bootBuiltins x) (hlim:s₁.heap.NoLimit) (hg:s₁.gens = #[])
  (ha:s₁.heap.get? a = some { cls:=.type "list",data:=.seq vs.toArray }) (hi:IntsAre vs ns) (hl:ns.length ≤ sizeLine) (hr:Room k callerA)
  (F:∀ base:Heap,K.In base→base.Ns mainGlobals mg→FnOk P w K mg base CX k fa fd [x] sp) (hbind:∀ (s:Shared) (u:Value),BindsTo s fd ⟨[u],[]⟩ [(x,u)])
  (hsp:∀ H:Hp,Only H→SqL K H a (ns.map V.int)→sp [.ref a] H (fun v _=>v = .bl true) fun _ _ _=>False)
  (hCX:∀ H e s',CX [] H s₁ (fun _ _ _=>False) e s'→False) :
  codeAny (model P w) callerA (.call (.ref fa) ⟨[.ref a],[]⟩) (fun r s'=>r = .ok (.ret (.bool true))∧OldK s₁.heap s'.heap∧s'.os = s₁.os∧AllBare s'.gens) s₁:=by
 have rv:=jg9 hi
 have lenV:=hi.length
  -- from an abstract heap in which nothing but the script may be tracked
 have core:∀ H:Hp,Only H→SqL K H a (ns.map V.int)→HOk P w H s₁.heap→(∀ b,H b ≠ none→b = a)→(H a ≠ none→K.lookup a = none) →
   codeAny (model P w) callerA (.call (.ref fa) ⟨[.ref a],[]⟩) (fun r s'=>r = .ok (.ret (.bool true))∧OldK s₁.heap s'.heap∧s'.os = s₁.os∧AllBare s'.gens) s₁:=by
  intro H hO hS hok hA hK
  have base_of:∀ {b:Addr} {o:Obj},s₁.heap.get? b = some o→H b = none→(hidT s₁.heap H).get? b = some o:=fun e n=>js7 e n
  have noA:∀ {b:Addr} {o:Obj} {es:Array DictEntry} {ep:Nat},s₁.heap.get? b = some o→o.data = .dict es ep→H b = none:=fun {b o es ep} e d=>by
   cases q:H b with
   | none=>rfl
   | some u =>
    have e':b = a:=hA b (by rw [q]; simp)
    subst e'
    rw [ha] at e; cases e
    have d':Data.seq vs.toArray _ = Data.dict es ep:=d
    cases d'
  have nsK:∀ {b:Addr} {m:Str→Option Value},s₁.heap.Ns b m→(hidT s₁.heap H).Ns b m:=fun {b m} ⟨o,es,ep,e,d,r⟩=>⟨o,es,ep,base_of e (noA e d),d,r⟩
  have hKb:K.In (hidT s₁.heap H):=fun b o e=>base_of (KX b o e) (by
   cases q:H b with
   | none=>rfl
   | some u =>
    have e':b = a:=hA b (by rw [q]; simp)
    subst e'
    rw [hK (by rw [q]; simp)] at e; cases e)
  have hM:Mod K mg (hidT s₁.heap H):=⟨hKb,nsK hns,⟨mb,nsK hb,hbb⟩,let ⟨mc,h1,h2⟩:=hlim; ⟨mc,nsK h1,h2⟩⟩
  have e0:Env0 P w K mg (hidT s₁.heap H) callerA [] s₁ H:=⟨rfl,hM,fun b o e=>jua e,Nat.le_of_eq (jq8 _ _),trivial,fun b hb=>absurd (show b ∈ ([]:List Addr) from hb) (by simp),hok,.of_eq hg⟩
  refine codeAny_mono ((F _ hKb (nsK hns)).run callerA [] s₁ H ⟨[.ref a],[]⟩ [.ref a] [.ref a] _ _ hr e0 (hbind s₁ (.ref a)) (.cons rfl .nil) (hsp H hO hS)) fun r s' h=>?_
  cases r with
  | error e=>exact (hCX H e s' h).elim
  | ok fl =>
   cases fl with
   | next=>exact False.elim h
   | brk=>exact False.elim h
   | cont=>exact False.elim h
   | ret u =>
    obtain ⟨v,H',os,bare,un,hok',r',q⟩:=h
    have q':v = .bl true:=q
    subst q'
    obtain rfl:u = Value.bool true:=r'
    refine ⟨rfl,OldK.of_keep fun b o e=>?_,os,bare⟩
    cases q:H b with
    | none=>exact un.keep b o e q (by intro z; exact absurd (show b ∈ ([]:List Addr) from z) (by simp)) (by simp)
    | some u =>
     rcases hO b with z | ⟨ob,xs,z⟩
     ·rw [q] at z; cases z
     ·have z2:=un.frzs b ob _ z
      obtain ⟨e1,_⟩:=hok b _ z
      obtain ⟨e2,_⟩:=hok' b _ z2
      rw [e] at e1; cases e1
      exact e2
 cases hk:K.lookup a with
 | some o =>
    -- the script is one of the module's own objects
  have e:=KX a o hk
  rw [ha] at e
  cases e
  refine core (fun _=>none) (fun _=>.inl rfl) (.inr ⟨_,vs.toArray,_,hk,rfl,rfl,rfl,by rw [List.size_toArray,lenV]; exact hl,by simpa using rv⟩) (fun b u z=>by have z':(none:Option HO) = some u:=z; cases z') (fun b z=>absurd rfl z) fun z=>absurd rfl z
 | none =>
  refine core (fun b=>if b = a then some (.frz { cls:=.type "list",data:=.seq vs.toArray } (.lst (ns.map V.int))) else none) (fun b=>?_) (.inl (.inr ⟨{ cls:=.type "list",data:=.seq vs.toArray },if_pos rfl⟩)) (fun b u z=>?_) (fun b z=>?_) fun _=>hk
  ·by_cases hb:b = a
   ·exact .inr ⟨_,_,if_pos hb⟩
   ·exact .inl (if_neg hb)
  ·by_cases hb:b = a
   ·have z':=(if_pos hb).symm.trans z
    cases z'
    subst hb
    exact ⟨ha,by rw [List.length_map]; exact hl,vs,_,rv,ha⟩
   ·have z':=(if_neg hb).symm.trans z
    cases z'
  ·by_cases hb:b = a
   ·exact hb
   ·exact absurd (if_neg hb) z
end L2
namespace L2
open PySem PySem.Spec PyProof.Rows
abbrev KOf {K:PySem.W.Frag} {h:Heap} (_:K.In h):PySem.W.Frag:=K
theorem jo7 {l:PySem.W.OpenLaw} {n k:Nat} {q:Program} {loose:List Str} {XP:(Str→Option Value)→Heap→Prop} {YP:World→Heap→Prop} {d:DefRec} {K:Params→PySem.W.Frag} {CX:World→CXT} {sp:World→Sp} {x:Str}
    (hn:l.most = some n) (hn2:n ≤ sizeLine) (hdf:d.params.defaults = []) (hr:Room k callerA)
    (hY:∀ (w:World) (h:Heap),YP w h→(K w.params).In h)
    (F:∀ (w:World) (mg:Str→Option Value) (fa:Addr) (h:Heap),(K w.params).In h→h.Ns mainGlobals mg→mg d.name = some (.ref fa) →
      ∃ fd:FuncData,(∀ (s:Shared) (u:Value),BindsTo s fd ⟨[u],[]⟩ [(x,u)]) ∧
        ∀ base:Heap,(K w.params).In base→base.Ns mainGlobals mg→FnOk l.prog w (K w.params) mg base (CX w) k fa fd [x] (sp w))
    (hsp:∀ (w:World) (H:Hp) (a:Addr) (ns:List Int),ns.length ≤ n→Only H→SqL (K w.params) H a (ns.map V.int)→sp w [.ref a] H (fun v _=>v = .bl true) fun _ _ _=>False)
    (hCX:∀ (w:World) (H:Hp) (s:Shared) (e:Value) (s':Shared),CX w [] H s (fun _ _ _=>False) e s'→False) :
    PySem.W.WalkO q loose XP YP l.row.toRowW d [] (fun f vs=>PySem.call f vs):=by
  refine Att.attach_call hn hdf fun w s₀ s₁ mg mb fa o pm cd doc a vs ns G Y ho hd hcd hmg hobj hints hlen hg=>?_
  have KX:=hY w _ Y
  obtain ⟨fd,hb,hF⟩:=F w mg fa _ KX G.T.g hmg
  exact js5 KX G.T.g G.T.b G.T.builtins G.T.nolimit hg hobj hints (Nat.le_trans hlen hn2) hr hF hb (fun H hO hS=>hsp w H a ns hlen hO hS) fun H e s'=>hCX w H s₁ e s'
end L2
/- THE LAST THEOREM (shape; LID,My.* are yours):
   My.Adr: a structure of the addresses that your layer names (classes,functions); My.Txt K t: a structure (Prop) of the equations over K;
   My.txt_mk:{K} {implicit addresses ..} (e1:nsIn K mainGlobals "law" = some (some (.ref f))) (e2:K.lookup f = some ⟨oc,od,.func (fnOf "law" "law" params body scope dV kV doc pm an cdv ct),sl⟩) (e3:codeIn K cdv "law" = true) ..:∃ t,My.Txt K t
set_option maxRecDepth 100000 in
set_option maxHeartbeats 0 in
theorem PySem.Challenge.cw_LID_holds : PySem.Challenge.rw_LID.Holds := by
 w_on; o_law; k_head; (case hw=>w_witness2)
 k_fill
 refine L2.jo7 (l:=PySem.Challenge.rw_LID) (n:=63) (k:=40) (x:="script") (CX:=fun w=>..) (sp:=fun _=>My.sp_law) rfl (by decide) rfl ⟨rfl,by decide,by decide⟩ (fun w h Y=>PySem.W.kIn_of Y) ?F ?S ?C
 case F =>
  intro w mg fa h KX G hmg
  have T:∃ t,My.Txt (L2.KOf KX) t:=by
   dsimp only [L2.KOf]                          -- K must stand as «<heap const> w.params» for k_is
   refine' My.txt_mk ?e1 ?e2 ?e3 ..
   (case e1=>PySem.W.k_is)                    -- in the order: a name -> its address -> its object -> its parts
   (case e2=>PySem.W.k_is)
   ..
  obtain ⟨t,T⟩:=T
  have e0:=hmg.symm.trans (PySem.W.mg_of KX G T.law)
  cases e0                                       -- fa is the law's own address
  exact ⟨_,fun s u=>.of_eq rfl,fun base kb nb=>My.law_fn T kb nb⟩     -- if «.of_eq rfl» comes too early: refine' ⟨_,?b,fun base kb nb=>My.law_fn T kb nb⟩; exact fun s u=>.of_eq rfl
 case S=>exact fun w H a ns hl hO hS=>..
 case C=>exact ..
(the tactic k_is has no namespace: write k_is) -/
namespace L2
open PySem PySem.Spec PyProof.Rows
def je1 (s:Stmt):Arguments:=match s with
 | .FunctionDef _ a _ _ _ _ _ _ _ _=>a
 | _=>{ posonlyargs:=[],args:=[],vararg:=none,kwonlyargs:=[],kw_defaults:=[],kwarg:=none,defaults:=[] }
def jdu (s:Stmt):List Stmt:=match s with
 | .FunctionDef _ _ b _ _ _ _ _ _ _=>b
 | _=>[]
def jbc (s:Stmt):Scope:=match s with
 | .FunctionDef _ _ _ _ _ _ sc _ _ _=>sc
 | _=>{ kind:=.function,names:=[],isGenerator:=false,isCoroutine:=false }
abbrev CX0:CXT:=fun _ _ _ _ _ _=>False
abbrev E0:XK:=fun _ _ _=>False
theorem jbu {X:Cx}:jf5 CX0 X E0:=fun _ _ _ _ _ _ _ h=>h.elim
structure Fun (K:PySem.W.Frag) (x qual:Str) (st:Stmt) (f:Addr) (fd:FuncData):Prop where
 ex:∃ (oc:Value) (od:Option Addr) (kV doc pm:Value) (an:Option Addr) (cdv ct:Value) (osl:Array (Option Value)),
  fd = PySem.W.fnOf x qual (je1 st) (jdu st) (jbc st) .none kV doc pm an cdv ct∧K.lookup f = some ⟨oc,od,.func fd,osl⟩∧PySem.W.codeIn K cdv qual = true
 kp:PySem.W.keepIn K (.ref f) = true
section
variable {P:Program} {w:World} {K:PySem.W.Frag} {mg:Str→Option Value} {base:Heap}
theorem Fun.ok {x qual:Str} {st:Stmt} {f:Addr} {fd:FuncData} {N ps:List Str} {k:Nat} {sp:Sp} (F:Fun K x qual st f fd) (S:FnScope N ps (jbc st)) (len:∀ vs H Q E,sp vs H Q E→vs.length = ps.length)
  (hbody:∀ (cdv:Value) (A:Around) (outer:List Env) (s:Shared) (H:Hp) (vs:List V) (Q:VK) (E:XK),Room k (A.deeper (envOfC qual (jbc st) s.heap.objs.size f cdv))→sp vs H Q E →
   ∃ t,PSs (cxOf CX0 P w K mg base N qual (jbc st) f cdv A outer s H E).nox (jdu st) t∧t { nx:=fun _ H'=>Q .non H',rt:=Q } (jak N vs) H):FnOk P w K mg base CX0 (k + 1) f fd ps sp:=by
 obtain ⟨oc,od,kV,doc,pm,an,cdv,ct,osl,rfl,lk,hcd⟩:=F.ex
 refine fn_of lk hcd S len fun A outer s H vs Q E hr hsp=>?_
 obtain ⟨t,h,q⟩:=hbody cdv A outer s H vs Q E hr hsp
 exact ⟨t,h.nox,q⟩
theorem Fun.binds {x qual:Str} {st:Stmt} {f:Addr} {fd:FuncData} {ps:List Str} (F:Fun K x qual st f fd)
  (h:∀ (kV doc pm:Value) (an:Option Addr) (cdv ct:Value) (us:List Value),us.length = ps.length→bindArgs (PySem.W.fnOf x qual (je1 st) (jdu st) (jbc st) .none kV doc pm an cdv ct) ⟨us,[]⟩ = pure (ps.zip us)):jf7 K fd ps []:=by
 obtain ⟨oc,od,kV,doc,pm,an,cdv,ct,osl,rfl,lk,hcd⟩:=F.ex
 exact .all (h kV doc pm an cdv ct)
theorem jbr {x qual:Str} {st:Stmt} {f:Addr} {oc:Value} {od an:Option Addr} {osl:Array (Option Value)} {kV doc pm cdv ct:Value} (l:K.lookup f = some ⟨oc,od,.func (PySem.W.fnOf x qual (je1 st) (jdu st) (jbc st) .none kV doc pm an cdv ct),osl⟩)
  (c:PySem.W.codeIn K cdv qual = true) (k:PySem.W.keepIn K (.ref f) = true):Fun K x qual st f (PySem.W.fnOf x qual (je1 st) (jdu st) (jbc st) .none kV doc pm an cdv ct):=⟨⟨oc,od,kV,doc,pm,an,cdv,ct,osl,rfl,l,c⟩,k⟩
end
theorem jc8 {A:Around} {k:Nat} (hr:Room k A):A.units + 1 < cLine:=Nat.lt_of_le_of_lt (Nat.add_le_add_left (by decide:1 ≤ 64) _) hr.units
section
variable {X:Cx}
theorem pv (i:Nat) {x:Str} {pos:Pos} (hN:X.N[i]? = some x:=by rfl) (hv:Vis X.env.scope x:=by first | exact Or.inl rfl | exact Or.inr (Or.inl rfl) | exact Or.inr (Or.inr rfl)) (hd:(x == ("__debug__":Str)) = false:=by decide)
  (hcd:(x == ("__classdict__":Str)) = false:=by decide):PE X (.Name x pos) (tVar i):=jt3 hN hv hd hcd
end
theorem ite2 {c A B:Prop} [Decidable c] (h1:c→A) (h2:¬ c→B):if c then A else B:=by
 by_cases h:c
 ·rw [if_pos h]
  exact h1 h
 ·rw [if_neg h]
  exact h2 h
def Same (H H':Hp):Prop:=∀ b o,H b = some o→H' b = some o
theorem Same.refl (H:Hp):Same H H:=fun _ _ h=>h
theorem Same.trans {H H1 H2:Hp} (a:Same H H1) (b:Same H1 H2):Same H H2:=fun c o h=>b c o (a c o h)
theorem Same.free {H H':Hp} (e:Same H H') {l:Addr} (h:H' l = Option.none):H l = Option.none:=by
 cases q:H l with
 | none=>rfl
 | some o =>
  rw [e l o q] at h
  cases h
end L2
set_option maxHeartbeats 8000000
namespace L2
open PySem PySem.Spec PyProof.Rows
section
variable {κ:Type} [DecidableEq κ]
def valV (kvs:List (κ × V)) (k:κ):Option V:=(kvs.find? fun kv=>decide (kv.1 = k)).map (·.2)
def putK (kvs:List (κ × V)) (k:κ) (v:V):List (κ × V) :=
 if (kvs.any fun kv=>decide (kv.1 = k)) = true then kvs.map (fun kv=>if kv.1 = k then (kv.1,v) else kv) else kvs ++ [(k,v)]
theorem jcp {p:κ × V} {r:List (κ × V)} {k:κ} (e:p.1 = k):valV (p :: r) k = some p.2:=by simp [valV,List.find?_cons,e]
theorem jcq {p:κ × V} {r:List (κ × V)} {k:κ} (e:¬ p.1 = k):valV (p :: r) k = valV r k:=by simp [valV,List.find?_cons,e]
theorem jem (k:κ):∀ kvs:List (κ × V),(kvs.any fun kv=>decide (kv.1 = k)) = (valV kvs k).isSome
 | []=>rfl
 | p :: r=>by
  rw [List.any_cons]
  by_cases e:p.1 = k
  ·simp only [jcp e,decide_eq_true e,Bool.true_or,Option.isSome_some]
  ·rw [jcq e,decide_eq_false e,Bool.false_or]; exact jem k r
theorem jm3 (k j:κ) (y:V):∀ kvs:List (κ × V),valV (kvs.map fun kv=>if kv.1 = k then (kv.1,y) else kv) j = (valV kvs j).map fun x=>if j = k then y else x
 | []=>rfl
 | p :: r=>by
  have ih:=jm3 k j y r
  rw [List.map_cons]
  by_cases h:p.1 = k
  ·rw [if_pos h]
   by_cases e:p.1 = j
   ·rw [jcp (p:=(p.1,y)) e,jcp e,Option.map_some,if_pos (e.symm.trans h)]
   ·rw [jcq (p:=(p.1,y)) e,jcq e,ih]
  ·rw [if_neg h]
   by_cases e:p.1 = j
   ·rw [jcp (p:=p) e,jcp e,Option.map_some,if_neg (fun z=>h (e.trans z))]
   ·rw [jcq (p:=p) e,jcq e,ih]
theorem jjm (k j:κ) (y:V):∀ kvs:List (κ × V),valV kvs k = none→valV (kvs ++ [(k,y)]) j = if j = k then some y else valV kvs j
 | [],_=>by
  by_cases e:k = j
  ·rw [if_pos e.symm]; exact jcp (p:=(k,y)) e
  ·rw [if_neg (fun z=>e z.symm)]; exact jcq (p:=(k,y)) e
 | p :: r,hn=>by
  rw [List.cons_append]
  have hk:¬ p.1 = k:=fun z=>by rw [jcp z] at hn; cases hn
  rw [jcq hk] at hn
  have ih:=jjm k j y r hn
  by_cases e:p.1 = j
  ·rw [jcp e,jcp e,if_neg (fun z=>hk (e.trans z))]
  ·rw [jcq e,jcq e,ih]
theorem jr6 (kvs:List (κ × V)) (k j:κ) (y:V):valV (putK kvs k y) j = if j = k then some y else valV kvs j:=by
 unfold putK
 by_cases a:(kvs.any fun kv=>decide (kv.1 = k)) = true
 ·rw [if_pos a,jm3]
  rw [jem] at a
  by_cases e:j = k
  ·obtain ⟨x,hx⟩:=Option.isSome_iff_exists.mp a
   rw [if_pos e,e,hx,Option.map_some,if_pos rfl]
  ·rw [if_neg e]
   cases valV kvs j with
   | none=>rfl
   | some x=>rw [Option.map_some,if_neg e]
 ·rw [if_neg a]
  refine jjm k j y kvs ?_
  rw [jem] at a
  cases q:valV kvs k with
  | none=>rfl
  | some x=>rw [q] at a; exact (a rfl).elim
theorem jdr (kvs:List (κ × V)) (k:κ) (v:V):(putK kvs k v).length ≤ kvs.length + 1:=by
 unfold putK
 split
 ·rw [List.length_map]; omega
 ·rw [List.length_append,List.length_cons,List.length_nil]; omega
theorem jrl {kvs:List (κ × V)} {k:κ} (v:V) (h:valV kvs k = none):putK kvs k v = kvs ++ [(k,v)]:=by
 unfold putK
 rw [jem,h]
 exact if_neg (by decide)
theorem RelO.isSome_eq {o:Option V} {u:Option Value} (r:RelO o u):o.isSome = u.isSome:=by
 cases o with
 | none=>cases u with
  | none=>rfl
  | some _=>exact (show False from r).elim
 | some _=>cases u with
  | none=>exact (show False from r).elim
  | some _=>rfl
theorem RelO.getD {o:Option V} {u:Option Value} {d:V} {d':Value} (r:RelO o u) (rd:RelV d d'):RelV (o.getD d) (u.getD d'):=by
 cases o with
 | none=>cases u with
  | none=>exact rd
  | some _=>exact (show False from r).elim
 | some _=>cases u with
  | none=>exact (show False from r).elim
  | some _=>exact r
theorem KV.val {kvs:List (κ × V)} {vs:List (κ × Value)} (r:KV kvs vs) (k:κ):RelO (valV kvs k) (valueAt vs k):=by
 unfold KV at r
 induction r with
 | nil=>exact True.intro
 | @cons p q ps qs h t ih =>
  obtain ⟨h1,h2⟩:=h
  by_cases e:p.1 = k
  ·have e':q.1 = k:=h1.symm.trans e
   have b:valueAt (q :: qs) k = some q.2:=by simp [valueAt,List.find?_cons,e']
   rw [jcp e,b]; exact h2
  ·have e':¬ q.1 = k:=fun z=>e (h1.trans z)
   have b:valueAt (q :: qs) k = valueAt qs k:=by simp [valueAt,List.find?_cons,e']
   rw [jcq e,b]; exact ih
theorem KV.any {kvs:List (κ × V)} {vs:List (κ × Value)} (r:KV kvs vs) (k:κ):(kvs.any fun kv=>decide (kv.1 = k)) = vs.any fun kv=>decide (kv.1 = k):=by
 unfold KV at r
 induction r with
 | nil=>rfl
 | cons h t ih=>rw [List.any_cons,List.any_cons,ih,h.1]
theorem KV.repl {kvs:List (κ × V)} {vs:List (κ × Value)} (r:KV kvs vs) (k:κ) {y:V} {u:Value} (ry:RelV y u) :
  KV (kvs.map fun kv=>if kv.1 = k then (kv.1,y) else kv) (vs.map fun kv=>if kv.1 = k then (kv.1,u) else kv):=by
 unfold KV at r ⊢
 induction r with
 | nil=>exact .nil
 | @cons p q ps qs h t ih =>
  rw [List.map_cons,List.map_cons]
  refine .cons ?_ ih
  obtain ⟨h1,h2⟩:=h
  by_cases e:p.1 = k
  ·rw [if_pos e,if_pos (h1.symm.trans e)]; exact ⟨h1,ry⟩
  ·rw [if_neg e,if_neg (fun z=>e (h1.trans z))]; exact ⟨h1,h2⟩
theorem KV.put {kvs:List (κ × V)} {vs:List (κ × Value)} (r:KV kvs vs) (k:κ) {y:V} {u:Value} (ry:RelV y u):KV (putK kvs k y) (stored vs k u):=by
 unfold putK stored
 rw [r.any k]
 by_cases e:(vs.any fun kv=>decide (kv.1 = k)) = true
 ·rw [if_pos e,if_pos e]; exact r.repl k ry
 ·rw [if_neg e,if_neg e]; exact Paired.snoc r ⟨rfl,ry⟩
theorem KV.keys {kvs:List (κ × V)} {vs:List (κ × Value)} (r:KV kvs vs):kvs.map (·.1) = vs.map (·.1):=by
 unfold KV at r
 induction r with
 | nil=>rfl
 | cons h t ih=>rw [List.map_cons,List.map_cons,ih,h.1]
theorem KV.length {kvs:List (κ × V)} {vs:List (κ × Value)} (r:KV kvs vs):kvs.length = vs.length:=Paired.length r
end
theorem jj0 {P:Program} {w:World} {k:Key} {u:Value} (r:RelV (kV k) u):(jby P w).is k u = true:=by
 cases k with
 | inl i=>obtain ⟨t,e⟩:=(show ∃ t,u = Value.int i t from r); subst e; exact jlk P w i t
 | inr x=>obtain ⟨t,e⟩:=(show ∃ t,u = Value.str x t from r); subst e; exact jlj P w x t
theorem jkk {P:Program} {w:World}:∀ {ks:List Key} {us:List Value},Vals (ks.map kV) us→ItemsAre (jby P w) ks us
 | [],_,r=>by rw [List.map_nil] at r; cases r; exact .nil
 | k :: ks,_,r=>by
  rw [List.map_cons] at r
  cases r with
  | cons h t=>exact .cons (jj0 h) (jkk t)
abbrev KT (H:Hp):List (List Key × V)→List (List Key × Addr × Value)→Prop:=Paired fun p q=>p.1 = q.1∧H q.2.1 = some (.tup (p.1.map kV))∧RelV p.2 q.2.2
theorem KT.val {H:Hp} {kvs:List (List Key × V)} {xs:List (List Key × Addr × Value)} (r:KT H kvs xs) (k:List Key):RelO (valV kvs k) ((atKey xs k).map (·.2)):=by
 induction r with
 | nil=>exact True.intro
 | @cons p q ps qs h t ih =>
  obtain ⟨h1,_,h2⟩:=h
  by_cases e:p.1 = k
  ·have e':q.1 = k:=h1.symm.trans e
   have b:atKey (q :: qs) k = some q.2:=by simp [atKey,List.find?_cons,e']
   rw [jcp e,b]; exact h2
  ·have e':¬ q.1 = k:=fun z=>e (h1.trans z)
   have b:atKey (q :: qs) k = atKey qs k:=by simp [atKey,List.find?_cons,e']
   rw [jcq e,b]; exact ih
theorem KT.repl {H:Hp} {kvs:List (List Key × V)} {xs:List (List Key × Addr × Value)} (r:KT H kvs xs) (k:List Key) {y:V} {u:Value} (ry:RelV y u) :
  KT H (kvs.map fun kv=>if kv.1 = k then (kv.1,y) else kv) (xs.map (putAt k u)):=by
 induction r with
 | nil=>exact .nil
 | @cons p q ps qs h t ih =>
  rw [List.map_cons,List.map_cons]
  refine .cons ?_ ih
  obtain ⟨h1,h2,h3⟩:=h
  unfold putAt
  by_cases e:p.1 = k
  ·rw [if_pos e,if_pos (h1.symm.trans e)]; exact ⟨h1,h2,ry⟩
  ·rw [if_neg e,if_neg (fun z=>e (h1.trans z))]; exact ⟨h1,h2,h3⟩
theorem KT.put {H:Hp} {kvs:List (List Key × V)} {xs:List (List Key × Addr × Value)} (r:KT H kvs xs) (k:List Key) {b:Addr} {y:V} {u:Value} (hb:H b = some (.tup (k.map kV))) (ry:RelV y u) :
  KT H (putK kvs k y) (storedH xs k b u):=by
 have e:(kvs.any fun kv=>decide (kv.1 = k)) = (atKey xs k).isSome:=by
  rw [jem,(r.val k).isSome_eq,Option.isSome_map]
 unfold putK storedH
 rw [e]
 by_cases q:(atKey xs k).isSome = true
 ·rw [if_pos q,if_pos q]; exact r.repl k ry
 ·rw [if_neg q,if_neg q]; exact Paired.snoc r ⟨rfl,hb,ry⟩
theorem KT.keeps {H H':Hp} {kvs:List (List Key × V)} {xs:List (List Key × Addr × Value)} (r:KT H kvs xs) (ht:∀ b ys,H b = some (.tup ys)→H' b = some (.tup ys)):KT H' kvs xs :=
 Paired.mapP r fun _ _ z=>⟨z.1,ht _ _ z.2.1,z.2.2⟩
section
variable {P:Program} {w:World} {H:Hp} {h:Heap} {a:Addr}
theorem rd_of {u:HO} (ok:HOk P w H h) (e:Rd H a u):jcy P w H h a u:=e.ok ok
theorem jkp {kvs:List (Key × V)} (ok:HOk P w H h) (e:Rd H a (.dK kvs)):kvs.length ≤ sizeLine∧(a == sysModules) = false∧∃ vs,KV kvs vs∧h.DictOf (jby P w) a vs :=
 show jcy P w H h a (.dK kvs) from rd_of ok e
theorem juw {kvs:List (Key × V)} (ok:HOk P w H h) (e:H a = some (.dK kvs)):kvs.length ≤ sizeLine∧(a == sysModules) = false∧∃ vs,KV kvs vs∧h.DictOf (jby P w) a vs:=jkp ok (.inl e)
theorem jfs {ks:List Key} (ok:HOk P w H h) (e:H a = some (.tup (ks.map kV))):(tupleKind (jby P w)).is h ks a:=by
 obtain ⟨_,its,r,o,h1,h2,n,h3⟩:=(show jcy P w H h a (.tup (ks.map kV)) from ok a _ e)
 exact ⟨o,its.toArray,n,h1,h2,h3,by simpa using jkk r⟩
theorem jko {kvs:List (List Key × V)} (ok:HOk P w H h) (e:Rd H a (.dT kvs)):kvs.length ≤ sizeLine∧(a == sysModules) = false ∧
  ∃ xs,KT H kvs xs∧h.DictOfH (tupleKind (jby P w)) a xs:=by
 obtain ⟨z,y,xs,r,o,es,ep,h1,h2,h3,h4,h5⟩:=(show jcy P w H h a (.dT kvs) from rd_of ok e)
 refine ⟨z,y,xs,r,o,es,ep,h1,h2,h3,h4,fun x hx=>?_,h5⟩
 have all:∀ {l:List (List Key × V)} {m:List (List Key × Addr × Value)},KT H l m→∀ x ∈ m,(tupleKind (jby P w)).is h x.1 x.2.1:=by
  intro l m q
  induction q with
  | nil=>intro x hx; exact nomatch hx
  | @cons p q ps qs hq t ih =>
   intro x hx
   rcases List.mem_cons.mp hx with e | hx
   ·subst e
    exact jfs ok (by rw [← hq.1]; exact hq.2.1)
   ·exact ih x hx
 exact all r x hx
theorem dt_of {kvs:List (List Key × V)} (ok:HOk P w H h) (e:H a = some (.dT kvs)):kvs.length ≤ sizeLine∧(a == sysModules) = false ∧
  ∃ xs,KT H kvs xs∧h.DictOfH (tupleKind (jby P w)) a xs:=jko ok (.inl e)
end
def DGet (H:Hp) (a:Addr) (y:V) (r:Option V):Prop :=
 (∃ kvs k,Rd H a (.dK kvs)∧y = kV k∧r = valV kvs k) ∨ ∃ kvs k b,Rd H a (.dT kvs)∧y = .ref b∧H b = some (.tup (k.map kV))∧r = valV kvs k
def DPut (H:Hp) (a:Addr) (y v:V) (H':Hp):Prop :=
 (∃ kvs k,H a = some (.dK kvs)∧y = kV k∧kvs.length < sizeLine∧H' = upd H a (.dK (putK kvs k v))) ∨
 ∃ kvs k b,H a = some (.dT kvs)∧y = .ref b∧H b = some (.tup (k.map kV))∧kvs.length < sizeLine∧H' = upd H a (.dT (putK kvs k v))
theorem DGet.k {H:Hp} {a:Addr} {kvs:List (Key × V)} {k:Key} (e:H a = some (.dK kvs)):DGet H a (kV k) (valV kvs k):=.inl ⟨kvs,k,.inl e,rfl,rfl⟩
theorem DGet.t {H:Hp} {a b:Addr} {kvs:List (List Key × V)} {k:List Key} (e:H a = some (.dT kvs)) (eb:H b = some (.tup (k.map kV))):DGet H a (.ref b) (valV kvs k):=.inr ⟨kvs,k,b,.inl e,rfl,eb,rfl⟩
theorem DPut.k {H:Hp} {a:Addr} {kvs:List (Key × V)} {k:Key} {v:V} (e:H a = some (.dK kvs)) (hl:kvs.length < sizeLine):DPut H a (kV k) v (upd H a (.dK (putK kvs k v))):=.inl ⟨kvs,k,e,rfl,hl,rfl⟩
theorem DPut.t {H:Hp} {a b:Addr} {kvs:List (List Key × V)} {k:List Key} {v:V} (e:H a = some (.dT kvs)) (eb:H b = some (.tup (k.map kV))) (hl:kvs.length < sizeLine) :
  DPut H a (.ref b) v (upd H a (.dT (putK kvs k v))):=.inr ⟨kvs,k,b,e,rfl,eb,hl,rfl⟩
section
variable {X:Cx} {pins:List (Addr × Obj)} {σ:St} {H:Hp} {s:Shared} {a:Addr} {y v:V} {u r:Value} {o:Option V} {A:Around} {E:Value→Shared→Prop}
theorem Inv.big (I:Inv X pins σ H s):sysModules < s.heap.objs.size:=by
 have h:mainGlobals < s.heap.objs.size:=(I.mod.glob.keeps I.bk).lt
 exact Nat.lt_trans (by decide) h
theorem jqr {Q:Value→Shared→Prop} (hu:A.units + 1 < cLine) (I:Inv X pins σ H s) (g:DGet H a y (some v)) (ry:RelV y u) (h:∀ w' s',Inv X pins σ H s'→RelV v w'→Q w' s') :
  wpAny (model X.prog X.w) A (getItem (.ref a) u) Q E s:=by
 rcases g with ⟨kvs,k,e,ey,l⟩ | ⟨kvs,k,b,e,ey,eb,l⟩
 ·subst ey
  obtain ⟨z,hd,vs,rel,dd⟩:=jkp I.hok e
  obtain ⟨w',hw,rw'⟩:=RelO.some_of (v:=v) (o:=valueAt vs k) (by rw [l]; exact rel.val k)
  exact wpAny_getItem_of (jj0 ry) dd.mapOf hw (h w' _ (I.tok _) rw')
 ·subst ey
  cases (show u = Value.ref b from ry)
  obtain ⟨z,hd,xs,rel,dd⟩:=jko I.hok e
  obtain ⟨w',hw,rw'⟩:=RelO.some_of (v:=v) (o:=(atKey xs k).map (·.2)) (by rw [l]; exact rel.val k)
  obtain ⟨p,hp,hp2⟩:=Option.map_eq_some_iff.mp hw
  refine wpAny_getItem_heap (tupleKind_room_in1 hu) (jfs I.hok eb) dd hp ?_
  rw [hp2]
  exact h w' _ (I.tok _) rw'
theorem d_in {Q:Value→Shared→Prop} (hu:A.units + 1 < cLine) (I:Inv X pins σ H s) (g:DGet H a y o) (ry:RelV y u) (h:∀ s',Inv X pins σ H s'→Q (.bool o.isSome) s') :
  wpAny (model X.prog X.w) A (compareOp .In u (.ref a)) Q E s:=by
 rcases g with ⟨kvs,k,e,ey,l⟩ | ⟨kvs,k,b,e,ey,eb,l⟩
 ·subst ey
  obtain ⟨z,hd,vs,rel,dd⟩:=jkp I.hok e
  refine wpAny_in_of (jj0 ry) hd dd.mapOf ?_
  rw [← (rel.val k).isSome_eq,← l]
  exact h _ (I.tok _)
 ·subst ey
  cases (show u = Value.ref b from ry)
  obtain ⟨z,hd,xs,rel,dd⟩:=jko I.hok e
  refine wpAny_in_heap (tupleKind_room_in1 hu) (jfs I.hok eb) hd dd ?_
  have q:=(rel.val k).isSome_eq
  rw [Option.isSome_map] at q
  rw [← q,← l]
  exact h _ (I.tok _)
theorem jqq {Q:Value→Shared→Prop} (hu:A.units + 1 < cLine) (I:Inv X pins σ H s) (g:DGet H a y o) (ry:RelV y u) (h:∀ s',Inv X pins σ H s'→Q (.bool (!o.isSome)) s') :
  wpAny (model X.prog X.w) A (compareOp .NotIn u (.ref a)) Q E s:=by
 rcases g with ⟨kvs,k,e,ey,l⟩ | ⟨kvs,k,b,e,ey,eb,l⟩
 ·subst ey
  obtain ⟨z,hd,vs,rel,dd⟩:=jkp I.hok e
  refine wpAny_notIn_of (jj0 ry) hd dd.mapOf ?_
  rw [← (rel.val k).isSome_eq,← l]
  exact h _ (I.tok _)
 ·subst ey
  cases (show u = Value.ref b from ry)
  obtain ⟨z,hd,xs,rel,dd⟩:=jko I.hok e
  refine wpAny_notIn_heap (tupleKind_room_in1 hu) (jfs I.hok eb) hd dd ?_
  have q:=(rel.val k).isSome_eq
  rw [Option.isSome_map] at q
  rw [← q,← l]
  exact h _ (I.tok _)
theorem jlr {h':Heap} {t':Nat} {ob:HO} (I:Inv X pins σ H s) (mu:Mut (H a)) (hs:Heap.SameBut a s.heap h') (he:∃ q,h'.get? a = some q) (new:jcy X.prog X.w (upd H a ob) h' a ob) :
  Inv X pins σ (upd H a ob) { s with heap:=h',toks:=t' } :=
 I.write (x:=a) (e:=a) mu (.inl rfl) (fun b q hb z=>(hs.2 b hb).trans z) he new
theorem jqk {P:Program} {w:World} {H':Hp} {h':Heap} {kvs:List (Key × V)} {vs:List (Key × Value)} (z:kvs.length ≤ sizeLine) (hd:(a == sysModules) = false) (rel:KV kvs vs) (dd:h'.DictOf (jby P w) a vs) :
  jcy P w H' h' a (.dK kvs):=⟨z,hd,vs,rel,dd⟩
theorem jqp {H':Hp} {Q:Unit→Shared→Prop} (hu:A.units + 1 < cLine) (I:Inv X pins σ H s) (g:DPut H a y v H') (ry:RelV y u) (rv:RelV v r) (h:∀ s',Inv X pins σ H' s'→Q () s') :
  wpAny (model X.prog X.w) A (setItem (.ref a) u r) Q E s:=by
 rcases g with ⟨kvs,k,e,ey,l,eH⟩ | ⟨kvs,k,b,e,ey,eb,l,eH⟩
 ·subst ey eH
  obtain ⟨z,hd,vs,rel,dd⟩:=juw I.hok e
  have hz:vs.length ≤ sizeLine:=by rw [← rel.length]; exact z
  have hl:(putK kvs k v).length ≤ sizeLine:=by have:=jdr kvs k v; omega
  refine wpAny_setItem_pairs (hsz:=hz) (jj0 ry) dd fun h' dd' hs=>h _ ?_
  have he:∃ q,h'.get? a = some q:=let ⟨q,_,_,hq,_⟩:=dd'; ⟨q,hq⟩
  exact jlr I (by rw [e]; exact True.intro) hs he (jqk hl hd (rel.put k rv) dd')
 ·subst ey eH
  cases (show u = Value.ref b from ry)
  obtain ⟨z,hd,xs,rel,dd⟩:=dt_of I.hok e
  have hz:xs.length ≤ sizeLine:=by rw [← Paired.length rel]; exact z
  have hl:(putK kvs k v).length ≤ sizeLine:=by have:=jdr kvs k v; omega
  refine wpAny_setItem_heap (hsz:=hz) (tupleKind_room_in1 hu) (jfs I.hok eb) dd fun h' dd' hs=>h _ ?_
  obtain ⟨q,es,ep,hq,h2,h3,h4,_,h5⟩:=dd'
  refine jlr I (by rw [e]; exact True.intro) hs ⟨q,hq⟩ ⟨hl,hd,_,(rel.put k eb rv).keeps fun c ys ec=>?_,q,es,ep,hq,h2,h3,h4,h5⟩
  rw [jba (jlg ec e (fun z=>nomatch z))]
  exact ec
end
section
variable {X:Cx} {pins:List (Addr × Obj)} {σ:St} {H:Hp} {s:Shared} {a:Addr} {kvs:List (Key × V)} {k:Key} {u:Value} {A:Around} {E:Value→Shared→Prop}
end
def NoSl (i:Expr):Prop:=∀ ov iv,subscripted i false ov iv = operate [ov,iv] (getItem ov iv)
theorem jtn {prog:Program} {w:World} {A:Around} {E:Value→Shared→Prop} {s:Shared} {env:Env} {value slice:Expr} {pos:Pos} {T id:String} {Q:Value→Shared→Prop}
  (hl:typeLookup (.type T) "__getitem__" = pure (some (.builtin id))) (hs:NoSl slice)
  (h:wpAny (model prog w) A (eval value env) (fun o s₁=>wpAny (model prog w) A (eval slice env) (fun i s₂=>s₂.TypeIs o T∧wpAny (model prog w) A (getItem o i) Q E s₂) E s₁) E s) :
  wpAny (model prog w) A (eval (.Subscript value slice pos) env) Q E s:=by
 refine Subscript_ (wpAny_mono h (fun o s₁ h₁=>wpAny_mono h₁ (fun i s₂ h₂=>?_) fun _ _ x=>x) fun _ _ x=>x)
 obtain ⟨hT,h₂⟩:=h₂
 unfold subscriptTail
 refine wpAny_bind ?_
 rw [getitemInPython_of_ne hT.not_modules]
 refine wpAny_bind (wpAny_specialOf hT hl ?_)
 have fin:wpAny (model prog w) A (subscripted slice false o i) (fun r s₃=>wpAny (model prog w) A (letTemporaryGo value o r >>= fun _=>pure r) Q E s₃) E s₂:=by
  rw [hs o i]
  exact wpAny_operating (wpAny_mono h₂ (fun r s₃ h₃=>wpAny_bind (wpAny_letTemporaryGo (wpAny_pure h₃))) fun _ _ x=>x)
 first
  | exact wpAny_pure (wpAny_bind fin)
  | exact wpAny_bind (wpAny_pure (wpAny_bind fin))
  | exact wpAny_bind fin
theorem jlq {X:Cx} {pins:List (Addr × Obj)} {σ:St} {H:Hp} {s:Shared} {a:Addr} {y:V} {o:Option V} (I:Inv X pins σ H s) (g:DGet H a y o):s.TypeIs (.ref a) "dict":=by
 rcases g with ⟨kvs,k,e,_,_⟩ | ⟨kvs,k,b,e,_,_,_⟩
 ·obtain ⟨_,_,vs,_,dd⟩:=jkp I.hok e
  exact dd.typeIs
 ·obtain ⟨_,_,xs,_,dd⟩:=jko I.hok e
  exact dd.typeIs
def jof (ty td:TE):TE:=fun σ H Q=>ty σ H fun y H1=>td σ H1 fun x H2=>∃ a o,x = .ref a∧DGet H2 a y o∧Q (.bl (!o.isSome)) H2
section
variable {X:Cx} {o i e value:Expr} {pos pos' tpos:Pos} {td ty tv:TE}
theorem jpf (hu:X.A.units + 1 < cLine) (hi:PE X i ty) (ho:PE X o td):PC X .NotIn i o (jof ty td):=by
 intro pins s σ H Q I h
 refine thn (hi pins s σ H _ I h) fun iv s1 ⟨y,H1,I1,ry,q1⟩=>thn (ho pins s1 σ H1 _ I1 q1) fun u s2 ⟨x,H2,I2,rx,a,ov,ex,g,q2⟩=>?_
 subst ex
 obtain rfl:u = Value.ref a:=rx
 exact jqq hu I2 g ry fun s3 I3=>⟨.bl (!ov.isSome),H2,I3,rfl,q2⟩
end
theorem jmy {P:Program} {w:World} {H:Hp} (h:Heap) (hb:sysModules < h.objs.size):jcy P w H (h.push { cls:=.type "dict",data:=.dict #[] }) h.objs.size (.dK []) :=
 ⟨Nat.zero_le _,beq_eq_false_iff_ne.mpr (Ne.symm (Nat.ne_of_lt hb)),[],.nil,Heap.DictOf.new h⟩
def ja9:TE:=fun _ H Q=>∀ p,H p = none→Q (.ref p) (upd H p (.dK []))
section
variable {X:Cx} {pos:Pos}
theorem jrs:PE X (.Dict [] [] pos) ja9:=fun pins s σ H Q I h =>
 wpAny_Dict_empty ⟨.ref s.heap.objs.size,_,I.laid (a:=s.heap.objs.size) (o:=.dK []) (t':=s.toks) (fun _ _ q=>Heap.get?_push_of_some _ q) (Nat.le_refl _) (jmy s.heap I.big),rfl,h _ (I.hok.fresh (Nat.le_refl _))⟩
end
def joe:List (TE × TE)→St→Hp→(List (V × V)→Hp→Prop)→Prop
 | [],_,H,Q=>Q [] H
 | (tk,tv) :: r,σ,H,Q=>tk σ H fun x H1=>tv σ H1 fun y H2=>joe r σ H2 fun ps H3=>Q ((x,y) :: ps) H3
abbrev VV:List (V × V)→List (Value × Value)→Prop:=Paired fun p q=>RelV p.1 q.1∧RelV p.2 q.2
def PPs (X:Cx) (pos:Pos) (keys:List (Option Expr)) (values:List Expr) (trs:List (TE × TE)):Prop :=
 ∀ (pins:List (Addr × Obj)) (s:Shared) (σ:St) (H:Hp) (Q:List (V × V)→Hp→Prop),Inv X pins σ H s→joe trs σ H Q →
  wpAny (model X.prog X.w) X.A (evalPairs (pairTrees keys values X.env pos)) (fun vs s'=>∃ ps H',Inv X pins σ H' s'∧VV ps vs∧Q ps H') X.xe s
theorem jtz {X:Cx} {pos:Pos}:PPs X pos [] [] []:=fun pins s σ H Q I h=>pairTrees_nil_walk ⟨[],H,I,.nil,h⟩
theorem jrn {X:Cx} {pos:Pos} {k v:Expr} {ks:List (Option Expr)} {vs:List Expr} {tk tv:TE} {trs:List (TE × TE)} (hk:PE X k tk) (hv:PE X v tv) (hr:PPs X pos ks vs trs) :
  PPs X pos (some k :: ks) (v :: vs) ((tk,tv) :: trs):=fun pins s σ H Q I h =>
 pairTrees_cons_walk (thn (hk pins s σ H _ I h) fun u s1 ⟨x,H1,I1,rx,q1⟩=>thn (hv pins s1 σ H1 _ I1 q1) fun w2 s2 ⟨y,H2,I2,ry,q2⟩ =>
  thn (hr pins s2 σ H2 _ I2 q2) fun ws s3 ⟨ps,H3,I3,rel,q3⟩=>⟨(x,y) :: ps,H3,I3,.cons ⟨rx,ry⟩ rel,q3⟩)
def jke (kvs more:List (Key × V)):List (Key × V):=more.foldl (fun acc kv=>putK acc kv.1 kv.2) kvs
theorem KV.merge:∀ {more:List (Key × V)} {rs:List (Key × Value)} {kvs:List (Key × V)} {vs:List (Key × Value)},KV more rs→KV kvs vs→KV (jke kvs more) (merged vs rs):=by
 intro more rs kvs vs r
 unfold KV at r
 induction r generalizing kvs vs with
 | nil=>intro q; exact q
 | @cons p q ps qs h t ih =>
  intro r0
  have e:KV (putK kvs p.1 p.2) (stored vs q.1 q.2):=by
   have:=r0.put p.1 h.2
   rw [← h.1]; exact this
  exact ih e
theorem jey:∀ (more kvs:List (Key × V)),(jke kvs more).length ≤ kvs.length + more.length
 | [],kvs=>by show kvs.length ≤ kvs.length + 0; omega
 | p :: r,kvs=>by
  have h1:=jey r (putK kvs p.1 p.2)
  have h2:=jdr kvs p.1 p.2
  show (jke (putK kvs p.1 p.2) r).length ≤ _
  rw [List.length_cons]; omega
theorem ji2 {P:Program} {w:World}:∀ {kvs:List (Key × V)} {ws:List (Value × Value)},VV (kvs.map fun kv=>(kV kv.1,kv.2)) ws→∃ rs,Carries (jby P w) ws rs∧KV kvs rs
 | [],_,r=>by rw [List.map_nil] at r; cases r; exact ⟨[],True.intro,.nil⟩
 | p :: kvs,_,r=>by
  rw [List.map_cons] at r
  cases r with
  | @cons a b as bs h t =>
   obtain ⟨rs,c,q⟩:=ji2 (P:=P) (w:=w) t
   obtain ⟨b1,b2⟩:=b
   exact ⟨(p.1,b2) :: rs,⟨jj0 h.1,rfl,c⟩,.cons ⟨rfl,h.2⟩ q⟩
def tDisp (trs:List (TE × TE)):TE:=fun σ H Q=>∀ p,H p = none→joe trs σ (upd H p (.dK [])) fun ps H2=>H2 p = some (.dK [])∧∃ kvs:List (Key × V),ps = kvs.map (fun kv=>(kV kv.1,kv.2))∧kvs.length ≤ 15∧Q (.ref p) (upd H2 p (.dK (jke [] kvs)))
theorem ju4 {X:Cx} {pos:Pos} {keys:List (Option Expr)} {values:List Expr} {trs:List (TE × TE)} (h:PPs X pos keys values trs) (hall:keys.all (·.isSome) = true) (hl:keys.length = values.length) (h0:keys ≠ [])
  (h15:keys.length ≤ 15):PE X (.Dict keys values pos) (tDisp trs):=by
 intro pins s σ H Q I q
 have hn:=I.hok.fresh (Nat.le_refl s.heap.objs.size)
 have I1:=I.laid (a:=s.heap.objs.size) (o:=.dK []) (h':=s.heap.push { cls:=.type "dict",data:=.dict #[] }) (t':=s.toks) (fun _ _ q=>Heap.get?_push_of_some _ q) (Nat.le_refl _) (jmy s.heap I.big)
 refine wpAny_Dict_walk (knd:=jby X.prog X.w) hall hl h0 h15 (thn (h pins _ σ _ _ I1 (q _ hn)) fun ws s2 ⟨ps,H2,I2,rel,e,kvs,ep,lk,q2⟩=>?_)
 subst ep
 obtain ⟨rs,c,rk⟩:=ji2 (P:=X.prog) (w:=X.w) rel
 obtain ⟨z,hd,vs0,r0,dd⟩:=juw I2.hok e
 cases r0
 refine ⟨rs,c,dd,fun h' dd' hs=>⟨.ref s.heap.objs.size,_,?_,rfl,q2⟩⟩
 have hz:(jke [] kvs).length ≤ sizeLine:=by
  have h1:=jey kvs []
  rw [List.length_nil] at h1
  rw [sizeLine_eq]; omega
 have he:∃ q,h'.get? s.heap.objs.size = some q:=let ⟨q,_,_,hq,_⟩:=dd'; ⟨q,hq⟩
 exact jlr I2 (by rw [e]; exact True.intro) hs he (jqk hz hd (rk.merge .nil) dd')
structure M1 (X:Cx) (o:Expr) (m:Str) (apos:Pos) (e:Expr) (cpos:Pos):Prop where
 base:attributeBase o m X.env (eval o X.env) = eval o X.env
 few:((backTo cpos (starEach [e] X.env)).all (fun x=>!x.1) && (backToKw cpos (keywordEach [] X.env)).all (fun x=>x.1.isSome)
  && decide (([e]:List Expr).length + ([]:List Keyword).length + (if ([]:List Keyword).isEmpty then 0 else 1) < 30)) = true
 line:(apos.endLine == cpos.line) = true
 trees:backTo cpos (starEach [e] X.env) = [(false,eval e X.env)]
structure M2 (X:Cx) (o:Expr) (m:Str) (apos:Pos) (e f:Expr) (cpos:Pos):Prop where
 base:attributeBase o m X.env (eval o X.env) = eval o X.env
 few:((backTo cpos (starEach [e,f] X.env)).all (fun x=>!x.1) && (backToKw cpos (keywordEach [] X.env)).all (fun x=>x.1.isSome)
  && decide (([e,f]:List Expr).length + ([]:List Keyword).length + (if ([]:List Keyword).isEmpty then 0 else 1) < 30)) = true
 line:(apos.endLine == cpos.line) = true
 trees:backTo cpos (starEach [e,f] X.env) = [(false,eval e X.env),(false,eval f X.env)]
def IsD (H:Hp) (a:Addr):Prop:=(∃ kvs,Rd H a (.dK kvs)) ∨ ∃ kvs,Rd H a (.dT kvs)
theorem jtc {X:Cx} {pins:List (Addr × Obj)} {σ:St} {H:Hp} {s:Shared} {a:Addr} (I:Inv X pins σ H s) (d:IsD H a) :
  s.TypeIs (.ref a) "dict"∧(∀ b,Value.ref a = .ref b→∃ ob,s.heap.get? b = some ob∧ob.dict = none)∧(a == sysModules) = false:=by
 rcases d with ⟨kvs,e⟩ | ⟨kvs,e⟩
 ·obtain ⟨_,hd,vs,_,dd⟩:=jkp I.hok e
  refine ⟨dd.typeIs,fun b q=>?_,hd⟩
  cases q
  obtain ⟨ob,_,_,h1,h2,_⟩:=dd
  exact ⟨ob,h1,h2.2.1⟩
 ·obtain ⟨_,hd,xs,_,dd⟩:=jko I.hok e
  refine ⟨dd.typeIs,fun b q=>?_,hd⟩
  cases q
  obtain ⟨ob,_,_,h1,h2,_⟩:=dd
  exact ⟨ob,h1,h2.2.1⟩
section
variable {X:Cx} {pins:List (Addr × Obj)} {σ:St} {H:Hp} {s:Shared} {a:Addr} {y d:V} {u r:Value} {o:Option V} {A:Around} {E:Value→Shared→Prop}
theorem d_get1 {Q:Value→Shared→Prop} (hu:A.units + 1 < cLine) (I:Inv X pins σ H s) (g:DGet H a y o) (ry:RelV y u) (h:∀ w' s',Inv X pins σ H s'→RelV (o.getD .non) w'→Q w' s') :
  wpAny (model X.prog X.w) A (call (.builtin "dict.get") [.ref a,u]) Q E s:=by
 rcases g with ⟨kvs,k,e,ey,l⟩ | ⟨kvs,k,b,e,ey,eb,l⟩
 ·subst ey
  obtain ⟨z,hd,vs,rel,dd⟩:=jkp I.hok e
  refine call_meetsIn PySem.F.slot_dict_get dd.typeIs PySem.F.entry_dict_get (PySem.F.args_dict_get_2 _ _) (meets_dict_get (jby X.prog X.w) a (jj0 ry) hd) ⟨_,dd.mapOf,h _ _ (I.tok _) ?_⟩
  rw [l]
  exact (rel.val k).getD rfl
 ·subst ey
  cases (show u = Value.ref b from ry)
  obtain ⟨z,hd,xs,rel,dd⟩:=jko I.hok e
  refine call_meetsIn PySem.F.slot_dict_get dd.typeIs PySem.F.entry_dict_get (PySem.F.args_dict_get_2 _ _) (meetsH_dict_get (tupleKind (jby X.prog X.w)) a b hd) ⟨tupleKind_room_in1 hu,k,xs,jfs I.hok eb,dd,h _ _ (I.tok _) ?_⟩
  rw [l]
  exact (rel.val k).getD rfl
theorem d_get2 {Q:Value→Shared→Prop} (hu:A.units + 1 < cLine) (I:Inv X pins σ H s) (g:DGet H a y o) (ry:RelV y u) (rd:RelV d r) (h:∀ w' s',Inv X pins σ H s'→RelV (o.getD d) w'→Q w' s') :
  wpAny (model X.prog X.w) A (call (.builtin "dict.get") [.ref a,u,r]) Q E s:=by
 rcases g with ⟨kvs,k,e,ey,l⟩ | ⟨kvs,k,b,e,ey,eb,l⟩
 ·subst ey
  obtain ⟨z,hd,vs,rel,dd⟩:=jkp I.hok e
  refine call_meetsIn PySem.F.slot_dict_get dd.typeIs PySem.F.entry_dict_get (PySem.F.args_dict_get_3 _ _ _) (meets_dict_get_default (jby X.prog X.w) a (jj0 ry) hd r) ⟨_,dd.mapOf,h _ _ (I.tok _) ?_⟩
  rw [l]
  exact (rel.val k).getD rd
 ·subst ey
  cases (show u = Value.ref b from ry)
  obtain ⟨z,hd,xs,rel,dd⟩:=jko I.hok e
  refine call_meetsIn PySem.F.slot_dict_get dd.typeIs PySem.F.entry_dict_get (PySem.F.args_dict_get_3 _ _ _) (meetsH_dict_get_default (tupleKind (jby X.prog X.w)) a b hd r) ⟨tupleKind_room_in1 hu,k,xs,jfs I.hok eb,dd,h _ _ (I.tok _) ?_⟩
  rw [l]
  exact (rel.val k).getD rd
end
section
variable {X:Cx} {o e f:Expr} {apos cpos:Pos} {td ty tx:TE}
end
section
variable {X:Cx} {pins:List (Addr × Obj)} {σ:St} {H:Hp} {s:Shared} {a:Addr} {kvs:List (Key × V)} {A:Around} {E:Value→Shared→Prop}
end
section
variable {X:Cx} {pins:List (Addr × Obj)} {σ:St} {H:Hp} {s:Shared} {a:Addr} {y:V} {u:Value} {A:Around} {E:Value→Shared→Prop}
end
end L2
namespace L2
open PySem PySem.Spec PyProof.Rows
section
variable {κ:Type} [DecidableEq κ]
end
end L2
namespace L2
open PySem PySem.Spec PyProof.Rows
def jcx (env:Env):List (Str × NameKind)→List (Str × Addr)→List (Str × Addr)
 | [],acc=>acc
 | (n,k) :: r,acc=>jcx env r (if k == .free then (n,(env.cells.lookup n).getD 0) :: acc else acc)
theorem jdm {scope:Scope} {env:Env} (h:∀ y ∈ scope.names,y.2 = .free→∃ c,env.cells.lookup y.1 = some c) :
    closureFor scope env = pure (jcx env scope.names []):=by
  have key:∀ (l:List (Str × NameKind)) (acc:List (Str × Addr)),(∀ y ∈ l,y.2 = .free→∃ c,env.cells.lookup y.1 = some c) →
      (forIn l acc fun (x:Str × NameKind) (r:List (Str × Addr)) =>
        (if x.2 == NameKind.free then do
          let c ← cellOf env x.1
          pure (ForInStep.yield ((x.1,c) :: r))
        else pure (ForInStep.yield r):Sem (ForInStep (List (Str × Addr))))) = pure (jcx env l acc):=by
    intro l
    induction l with
    | nil=>intro acc _; rfl
    | cons y r ih =>
      intro acc hy
      obtain ⟨n,k⟩:=y
      rw [List.forIn_cons]
      by_cases hk:k = .free
      · subst hk
        obtain ⟨c,hc⟩:=hy (n,.free) List.mem_cons_self rfl
        have e1:cellOf env n = pure c:=by unfold cellOf; rw [hc]
        simp only [beq_self_eq_true,if_true]
        rw [e1]
        show (pure c >>= fun c=>pure (ForInStep.yield ((n,c) :: acc))) >>= _ = _
        have e2:jcx env ((n,NameKind.free) :: r) acc = jcx env r ((n,c) :: acc):=by
          have hc':env.cells.lookup n = some c:=hc
          show jcx env r (if (NameKind.free == NameKind.free) = true then (n,(env.cells.lookup n).getD 0) :: acc else acc) = _
          rw [hc']
          rfl
        rw [e2]
        exact ih _ fun z hz=>hy z (List.mem_cons_of_mem _ hz)
      · have hb:(k == NameKind.free) = false:=by simpa using hk
        simp only [hb,Bool.false_eq_true,if_false]
        have e2:jcx env ((n,k) :: r) acc = jcx env r acc:=by
          show jcx env r (if (k == NameKind.free) = true then _ else acc) = _
          rw [hb]; rfl
        rw [e2]
        exact ih _ fun z hz=>hy z (List.mem_cons_of_mem _ hz)
  unfold closureFor
  have e:=key scope.names [] h
  have e3:∀ (f:Str × NameKind→List (Str × Addr)→Sem (ForInStep (List (Str × Addr)))),(f = fun x r=>(if x.2 == NameKind.free then do
          let c ← cellOf env x.1
          pure (ForInStep.yield ((x.1,c) :: r))
        else pure (ForInStep.yield r)))→(forIn scope.names [] f >>= fun r=>pure r) = (pure (jcx env scope.names []):Sem (List (Str × Addr))):=by
    intro f hf
    rw [hf,e]
    rfl
  exact e3 _ rfl
theorem jf1 {env:Env} {x:Str}:∀ (l:List (Str × NameKind)) (acc:List (Str × Addr)) (c:Addr),(jcx env l acc).lookup x = some c →
  ((∃ y ∈ l,y.1 = x∧y.2 = .free)∧(env.cells.lookup x).getD 0 = c) ∨ acc.lookup x = some c
 | [],acc,c,h=>.inr h
 | (n,k) :: r,acc,c,h=>by
  rcases jf1 r _ c h with ⟨⟨y,hy,e⟩,q⟩ | q
  ·exact .inl ⟨⟨y,List.mem_cons_of_mem _ hy,e⟩,q⟩
  ·by_cases hk:k = .free
   ·subst hk
    have q':List.lookup x ((n,(env.cells.lookup n).getD 0) :: acc) = some c:=q
    rw [List.lookup_cons] at q'
    cases hx:x == n with
    | true =>
     rw [hx] at q'
     have hx':x = n:=by simpa using hx
     subst hx'
     exact .inl ⟨⟨_,List.mem_cons_self,rfl,rfl⟩,Option.some.inj q'⟩
    | false=>rw [hx] at q'; exact .inr q'
   ·have hb:(k == NameKind.free) = false:=by simpa using hk
    rw [hb] at q
    exact .inr q
theorem jfl {env:Env} {x:Str}:∀ (l:List (Str × NameKind)) (acc:List (Str × Addr)),((∃ y ∈ l,y.1 = x∧y.2 = .free) ∨ (acc.lookup x).isSome)→((jcx env l acc).lookup x).isSome
 | [],acc,h=>by
  rcases h with ⟨y,hy,_⟩ | h
  ·cases hy
  ·exact h
 | (n,k) :: r,acc,h=>by
  show ((jcx env r (if (k == NameKind.free) = true then _ else acc)).lookup x).isSome
  refine jfl r _ ?_
  rcases h with ⟨y,hy,e1,e2⟩ | h
  ·rcases List.mem_cons.mp hy with rfl | hy
   ·have e2':k = .free:=e2
    have e1':n = x:=e1
    subst e2' e1'
    refine .inr ?_
    simp [List.lookup_cons]
   ·exact .inl ⟨y,hy,e1,e2⟩
  ·refine .inr ?_
   split
   ·rw [List.lookup_cons]
    split
    ·rfl
    ·exact h
   ·exact h
structure CpScope (X:Cx) (scope:Scope) (N:List Str) (src:List (Option Nat)):Prop where
 kind:scope.kind = .function
 nocell:∀ y ∈ scope.names,y.2 ≠ .cell
 locs:∀ y ∈ scope.names,y.2 = .local→scope.names.lookup y.1 = some .local
 frees:∀ y ∈ scope.names,y.2 = .free→scope.names.lookup y.1 = some .free∧X.env.scope.names.lookup y.1 = some .cell
 nd:N.Nodup
 len:src.length = N.length
 cap:∀ (i j:Nat),src[i]? = some (some j)→X.N[j]? = N[i]?∧(N[i]?).elim False (fun x=>scope.names.lookup x = some .free)
def cst (src:List (Option Nat)) (σ:St):St:=src.map fun o=>o.bind fun j=>(σ[j]?).join
theorem jde {env:Env} (hk:env.scope.kind = .function):∀ {names:List (Str × NameKind)} {x:Str},names.lookup x = some .free→env.kindOf x = some .cell →
  (names.map fun (n,k)=>if (k == NameKind.free && env.scope.kind == .function && env.kindOf n == some .cell) then (n,NameKind.cell) else (n,k)).lookup x = some .cell
 | [],_,h,_=>by simp at h
 | (n,k) :: r,x,h,hc=>by
  have ih:=@jde env hk r x
  show List.lookup x ((if (k == NameKind.free && env.scope.kind == .function && env.kindOf n == some .cell) = true then (n,NameKind.cell) else (n,k)) :: _) = _
  cases hx:x == n with
  | true =>
   simp only [List.lookup_cons,hx] at h
   cases h
   have hx':x = n:=by simpa using hx
   subst hx'
   rw [if_pos (by rw [hk,hc]; rfl)]
   simp [List.lookup_cons]
  | false =>
   simp only [List.lookup_cons,hx] at h
   by_cases hq:(k == NameKind.free && env.scope.kind == .function && env.kindOf n == some .cell) = true
   ·rw [if_pos hq]; simp only [List.lookup_cons,hx]; exact ih h hc
   ·rw [if_neg hq]; simp only [List.lookup_cons,hx]; exact ih h hc
theorem jct {env:Env}:∀ {names:List (Str × NameKind)} {x:Str} {k':NameKind},
  (names.map fun (n,k)=>if (k == NameKind.free && env.scope.kind == .function && env.kindOf n == some .cell) then (n,NameKind.cell) else (n,k)).lookup x = some k' →
   names.lookup x = some k' ∨ (names.lookup x = some .free∧k' = .cell)
 | [],_,_,h=>by simp at h
 | (n,k) :: r,x,k',h=>by
  have ih:=@jct env r x k'
  have h:List.lookup x ((if (k == NameKind.free && env.scope.kind == .function && env.kindOf n == some .cell) = true then (n,NameKind.cell) else (n,k)) :: _) = _:=h
  cases hx:x == n with
  | true =>
   by_cases hq:(k == NameKind.free && env.scope.kind == .function && env.kindOf n == some .cell) = true
   ·rw [if_pos hq] at h
    have h1:=h
    simp only [List.lookup_cons,hx]
    have:k = .free:=by
     have:=(Bool.and_eq_true _ _ ▸ (Bool.and_eq_true _ _ ▸ hq).1).1
     simpa using this
    subst this
    refine .inr ⟨rfl,?_⟩
    have h2:List.lookup x ((n,NameKind.cell) :: (r.map fun (n,k)=>if (k == NameKind.free && env.scope.kind == .function && env.kindOf n == some .cell) then (n,NameKind.cell) else (n,k))) = some k':=h1
    simp only [List.lookup_cons,hx] at h2
    exact (Option.some.inj h2).symm
   ·rw [if_neg hq] at h
    simp only [List.lookup_cons,hx] at h ⊢
    exact .inl h
  | false =>
   have h':List.lookup x (r.map fun (n,k)=>if (k == NameKind.free && env.scope.kind == .function && env.kindOf n == some .cell) then (n,NameKind.cell) else (n,k)) = some k':=by
    by_cases hq:(k == NameKind.free && env.scope.kind == .function && env.kindOf n == some .cell) = true
    ·rw [if_pos hq] at h
     simpa only [List.lookup_cons,hx] using h
    ·rw [if_neg hq] at h
     simpa only [List.lookup_cons,hx] using h
   simp only [List.lookup_cons,hx]
   exact ih h'
def Cx.block (X:Cx) (scope:Scope) (N:List Str) (fp:List Addr) (s₀:Shared) (H₀:Hp) (C:Addr):Cx where
 prog:=X.prog
 w:=X.w
 K:=X.K
 mg:=X.mg
 base:=X.base
 A:=X.A
 N:=N
 s₀:=s₀
 H₀:=H₀
 env:=compEnvC scope (jcx X.env scope.names []) C X.env
 outer:=X.stack
 stack:=X.stack
 ex:=fp
 calm:=X.calm
 fn:=fun _=>false
 pn:=[]
 xe:=fun _ _=>False
theorem jq2 {o:Option (Option V)} {v:V} (h:o.join = some v):o = some (some v):=by
 cases o with
 | none=>cases h
 | some z=>cases z with
  | none=>cases h
  | some z=>rw [show z = v from Option.some.inj h]
theorem Inv.enter {X:Cx} {scope:Scope} {N:List Str} {src:List (Option Nat)} {pins:List (Addr × Obj)} {σ:St} {H:Hp} {s s4:Shared} {fp:List Addr} (S:CpScope X scope N src) (I:Inv X pins σ H s)
  (f2:∀ b ∈ fp,FpOk X pins H b) (lt:∀ b ∈ fp,b < s.heap.objs.size) (hns:s4.heap.Ns s.heap.objs.size fun _=>none) (hk:∀ b o,s.heap.get? b = some o→s4.heap.get? b = some o) (hos:s4.os = s.os) (hg:s4.gens = s.gens) :
  Inv (X.block scope N fp s H s.heap.objs.size) [] (cst src σ) H s4:=by
 have cells:∀ x c,(jcx X.env scope.names []).lookup x = some c→X.env.cells.lookup x = some c:=fun x c e=>by
  rcases jf1 _ _ _ e with ⟨⟨y,hy,e1,e2⟩,q⟩ | q
  ·obtain ⟨c',hc'⟩:=I.ok.has y.1 (.inl (S.frees y hy e2).2)
   rw [e1] at hc'
   rw [hc'] at q ⊢
   exact congrArg some q
  ·cases q
 refine ⟨⟨I.mod,S.kind,I.ok.glob,I.ok.blt,Nat.le_refl _,fun x y c h1 h2=>I.ok.inj x y c (cells x c h1) (cells y c h2),fun x hx=>?_,fun x c h=>absurd (show false = true from h) Bool.false_ne_true,I.ok.hd,I.ok.frames,.inl rfl,fun b hb=>?_,I.bs,
   Nat.le_trans I.ok.bsz I.sz,fun b o e hb=>?_,fun b hb z=>?_,I.stack,I.stkFree⟩,hos,?_,Un.kept hk,⟨fun _=>none,hns,fun i x v h1 h2 h3=>?_⟩,fun x c e=>?_,I.fresh,fun x c e=>I.freeC x c (cells x c e),fun p hp=>?_,I.hok.kept hk,?_⟩
 ·have hx':(scope.names.map fun (n,k)=>if (k == NameKind.free && X.env.scope.kind == .function && X.env.kindOf n == some .cell) then (n,NameKind.cell) else (n,k)).lookup x = some .cell ∨ (scope.names.map fun (n,k)=>if (k == NameKind.free && X.env.scope.kind == .function && X.env.kindOf n == some .cell) then (n,NameKind.cell) else (n,k)).lookup x = some .free:=hx
  have hf:scope.names.lookup x = some .free:=by
   rcases hx' with h | h
   ·rcases jct h with h | h
    ·exact absurd rfl (S.nocell _ (PySem.mem_of_lookup h))
    ·exact h.1
   ·rcases jct h with h | h
    ·exact h
    ·cases h.2
  have hsome:=jfl (env:=X.env) (x:=x) scope.names [] (.inl ⟨_,PySem.mem_of_lookup hf,rfl,rfl⟩)
  exact Option.isSome_iff_exists.mp hsome
 ·exact ⟨Nat.ne_of_lt (lt b hb),fun x c e=>(f2 b hb).2.2.2.2.1 x c (cells x c e)⟩
 ·have hb':b ∈ fp:=hb
  rcases (f2 b hb').2.2.2.1 with z | z
  ·exact I.ok.noex b o e z
  ·exact absurd (Nat.lt_of_lt_of_le (Heap.lt_size e) (Nat.le_trans I.ok.bsz z)) (Nat.lt_irrefl _)
 ·have hb':b ∈ fp:=hb
  have z':b ∈ frs X.stack:=z
  rcases List.mem_cons.mp (I.stkSub b z') with e | e
  ·exact (f2 b hb').2.1 e
  ·exact (f2 b hb').2.2.1 e
 ·rw [hg]; exact I.bare
 ·have h2':(src.map fun o=>o.bind fun j=>(σ[j]?).join)[i]? = some (some v):=h2
  rw [List.getElem?_map] at h2'
  cases e:src[i]? with
  | none=>rw [e] at h2'; cases h2'
  | some o =>
   rw [e] at h2'
   cases o with
   | none=>cases h2'
   | some j =>
    have h4:(σ[j]?).join = some v:=Option.some.inj h2'
    have h5:=jq2 h4
    obtain ⟨c1,c2⟩:=S.cap i j e
    have h1':N[i]? = some x:=h1
    rw [h1'] at c1 c2
    have c2':scope.names.lookup x = some .free:=c2
    have c3:=(S.frees _ (PySem.mem_of_lookup c2') rfl).2
    obtain ⟨m,hn,hl⟩:=I.loc
    obtain ⟨u,r,l⟩:=hl j x v c1 h5 (.inr (.inl c3))
    refine ⟨u,r,?_⟩
    have c3':X.env.kindOf x = some .cell:=c3
    rcases l with ⟨k,_⟩ | ⟨_,c,e1,z⟩
    ·rw [c3'] at k; cases k
    ·refine .inr ⟨.inl (jde I.ok.kind c2' c3'),c,?_,?_⟩
     ·have hs:=jfl (env:=X.env) (x:=x) scope.names [] (.inl ⟨_,PySem.mem_of_lookup c2',rfl,rfl⟩)
      obtain ⟨c',hc'⟩:=Option.isSome_iff_exists.mp hs
      have:=cells x c' hc'
      rw [e1] at this
      cases this
      exact hc'
     ·obtain ⟨o,ho,hd⟩:=z
      exact ⟨o,hk c o ho,hd⟩
 ·obtain ⟨v,o,ho,hd⟩:=I.cell x c (cells x c e)
  exact ⟨v,o,hk c o ho,hd⟩
 ·exact absurd (show p ∈ ([]:List (Addr × Obj)) from hp) (by simp)
 ·show (src.map _).length = N.length
  rw [List.length_map]
  exact S.len
def PIf (X:Cx) (ifs:List Expr) (t:TT):Prop :=
 ∀ (pins:List (Addr × Obj)) (s:Shared) (σ:St) (H:Hp) (Q:Bool→Hp→Prop),Inv X pins σ H s→t σ H Q →
  wpAny (model X.prog X.w) X.A (forIn ifs true fun c r=>if r = true then do let ok ← isTrue c X.env (eval c X.env); pure (ForInStep.yield ok) else pure (ForInStep.yield r)) (TP X pins σ Q) X.xe s
def jas:TT:=fun _ H Q=>Q true H
theorem jc1 {X:Cx}:PIf X [] jas:=fun pins s σ H Q I h=>wpAny_tests_nil ⟨H,I,h⟩
theorem jim {X:Cx} {c:Expr} {t:TT} (h:PT X c t):PIf X [c] t:=fun pins s σ H Q I hq=>wpAny_tests_one (h pins s σ H Q I hq)
def jr4 (J:It) (src:List (Option Nat)) (g:TG) (tc:TT) (te:TE) (Q:VK) (σ:St) (H:Hp) (l:Addr):Prop :=
 ∃ W:Nat→Nat→St→Hp→Prop,(∃ m,W 0 m (cst src σ) (upd H l (.lst [])))∧∀ i m σ' H,W i m σ' H →
  (J.stop i H∧Q (.ref l) H) ∨ (J.go i H∧∃ N:St→Hp→Prop,(∀ σ' H',N σ' H'→∃ m',m' < m∧W (i + 1) m' σ' H')∧∀ x H',J.yld i H x H'→g x σ' H' fun σ2 H2=>tc σ2 H2 fun b H3 =>
   if b = true then te σ2 H3 fun v H4=>∃ xs,H4 l = some (.lst xs)∧xs.length < sizeLine∧N σ2 (upd H4 l (.lst (xs ++ [v]))) else N σ2 H3)
theorem jbs {J:It} {src:List (Option Nat)} {g:TG} {tc:TT} {te:TE} {Q:VK} {σ:St} {H:Hp} {l:Addr} (n:Nat) (Iv:Nat→St→Hp→Prop) (h0:Iv 0 (cst src σ) (upd H l (.lst [])))
  (hs:∀ i σ' Hc,i < n→Iv i σ' Hc→J.go i Hc∧∀ x H',J.yld i Hc x H'→g x σ' H' fun σ2 H2=>tc σ2 H2 fun b H3 =>
   if b = true then te σ2 H3 fun v H4=>∃ xs,H4 l = some (.lst xs)∧xs.length < sizeLine∧Iv (i + 1) σ2 (upd H4 l (.lst (xs ++ [v]))) else Iv (i + 1) σ2 H3)
  (hd:∀ σ' Hc,Iv n σ' Hc→J.stop n Hc∧Q (.ref l) Hc):jr4 J src g tc te Q σ H l:=by
 refine ⟨fun i m σ' Hc=>m = n - i∧i ≤ n∧Iv i σ' Hc,⟨n,by simp,Nat.zero_le _,h0⟩,?_⟩
 rintro i m σ' Hc ⟨rfl,hi,p⟩
 by_cases hlt:i < n
 ·obtain ⟨go,step⟩:=hs i σ' Hc hlt p
  exact .inr ⟨go,Iv (i + 1),fun σ2 H2 p'=>⟨n - (i + 1),by omega,rfl,hlt,p'⟩,step⟩
 ·have e:i = n:=by omega
  subst e
  exact .inl (hd σ' Hc p)
theorem jkq {X:Cx} {elt tg iter:Expr} {ifs:List Expr} {scope:Scope} {pos:Pos} {N:List Str} {src:List (Option Nat)} {g:TG} {tc:TT} {te:TE} {pins:List (Addr × Obj)} {σ:St} {H2:Hp} {s2:Shared}
  {fp:List Addr} {it:Addr} {tn:Nat→Heap→Prop} {J:It} {Q:VK} {E:Value→Shared→Prop} {RR:Value→Addr→Result→Shared→Prop} (S:CpScope X scope N src) (hc:X.calm = true)
  (hg:∀ fp s₀ H₀ C,PG (X.block scope N fp s₀ H₀ C) tg g) (ht:∀ fp s₀ H₀ C,PIf (X.block scope N fp s₀ H₀ C) ifs tc) (he:∀ fp s₀ H₀ C,PE (X.block scope N fp s₀ H₀ C) elt te)
  (I2:Inv X pins σ H2 s2) (T:Turn X.prog X.w X.K tg J fp it tn) (st2:tn 0 s2.heap) (f2:∀ b ∈ fp,FpOk X pins H2 b) (hw:∀ l,H2 l = none→jr4 J src g tc te Q σ H2 l)
  (hRR:∀ l C H' s',Inv X pins σ H' s'→(∃ m,s'.heap.Ns C m)→FpOk X pins H' C→Q (.ref l) H'→RR (.ref l) C (.ok .next) s') :
  wpAny (model X.prog X.w) X.A (newList []) (fun acc s₃=>wpAny (model X.prog X.w) X.A (newFunctionEnv scope X.env.globals (jcx X.env scope.names []) [] X.env.qual none .none (some X.env)) (fun cenv s₄ =>
   codeAny (model X.prog X.w) X.A (.compStart (.ListComp elt [⟨tg,iter,ifs,0⟩] scope pos) 0 (.ref it) acc { cenv with scope:=relabel scope X.env }) (RR acc cenv.locals) s₄) E s₃) E s2:=by
 have hl0:H2 s2.heap.objs.size = none:=I2.fresh
 have I3:Inv X pins σ (upd H2 s2.heap.objs.size (.lst [])) { s2 with heap:=s2.heap.push { cls:=.type "list",data:=.seq ([]:List Value).toArray } }:=I2.lnew (ys:=[]) (its:=[]) (t':=s2.toks) .nil (Nat.zero_le _)
 have ltf:∀ b ∈ fp,b < s2.heap.objs.size:=fun b hb=>by
  obtain ⟨o,e,_⟩:=T.obj _ _ st2 b hb
  exact Heap.lt_size e
 have f3:∀ b ∈ fp,FpOk X pins (upd H2 s2.heap.objs.size (.lst [])) b:=fun b hb=>⟨by rw [jba (Nat.ne_of_lt (ltf b hb))]; exact (f2 b hb).1,(f2 b hb).2⟩
 obtain ⟨W,⟨m0,w0⟩,turn⟩:=hw _ hl0
 refine wpAny_newObj_type (wpAny_newFunctionEnv S.nocell (by intro y hy; simp at hy) (fun h₁ hns₁ hsb₁=>?_) S.kind)
 dsimp only at hns₁ hsb₁ ⊢
 revert I3 f3
 intro I3 f3
 have st1:tn 0 (s2.heap.push { cls:=.type "list",data:=.seq ([]:List Value).toArray }):=T.keep _ _ _ st2 fun b hb o e=>Heap.get?_push_of_some _ e
 have lt3:∀ b ∈ fp,b < (s2.heap.push { cls:=.type "list",data:=.seq ([]:List Value).toArray }).objs.size:=fun b hb=>by rw [Heap.size_push]; exact Nat.lt_succ_of_lt (ltf b hb)
 generalize hH:s2.heap.push { cls:=.type "list",data:=.seq ([]:List Value).toArray } = h3 at I3 st1 lt3 hns₁ hsb₁ ⊢
 have hk:∀ b o,h3.get? b = some o→h₁.get? b = some o:=fun b o e=>hsb₁.extBut b o (Nat.ne_of_lt (Heap.lt_size e)) (Heap.get?_push_of_some _ e)
 have Ib:Inv (X.block scope N fp { s2 with heap:=h3 } (upd H2 s2.heap.objs.size (.lst [])) h3.objs.size) [] (cst src σ) (upd H2 s2.heap.objs.size (.lst [])) { s2 with heap:=h₁,toks:=s2.toks + ([]:List (Str × Value)).length } :=
  Inv.enter (s:={ s2 with heap:=h3 }) S I3 f3 lt3 hns₁ hk rfl rfl
 have fpB:∀ {H':Hp},(∀ b ∈ fp,H' b = none)→∀ b ∈ fp,FpOk (X.block scope N fp { s2 with heap:=h3 } (upd H2 s2.heap.objs.size (.lst [])) h3.objs.size) [] H' b:=fun hn b hb =>
  ⟨hn b hb,(Ib.ok.exf b hb).1,Ib.ok.exfs b hb,.inl hb,(Ib.ok.exf b hb).2,fun p hp=>absurd (show p ∈ ([]:List (Addr × Obj)) from hp) (by simp)⟩
 have tn1:tn 0 h₁:=T.keep _ _ _ st1 fun b _ o e=>hk b o e
 have loop:∀ s₃:Shared,s₃ = { s2 with heap:=h₁,toks:=s2.toks + ([]:List (Str × Value)).length } →
   codeAny (model X.prog X.w) X.A (.compLoop (.ListComp elt [⟨tg,iter,ifs,0⟩] scope pos) 0 (.ref it) (.ref s2.heap.objs.size) (compEnvC scope (jcx X.env scope.names []) h3.objs.size X.env))
    (RR (.ref s2.heap.objs.size) h3.objs.size) s₃:=by
  rintro s₃ rfl
  refine codeAny_loop rfl (fun n s'=>∃ i σ' H',Inv (X.block scope N fp { s2 with heap:=h3 } (upd H2 s2.heap.objs.size (.lst [])) h3.objs.size) [] σ' H' s'∧tn i s'.heap∧(∀ b ∈ fp,H' b = none)∧W i n σ' H') ?_ m0
   ⟨0,_,_,Ib,tn1,fun b hb=>(f3 b hb).1,w0⟩
  rintro n s5 ⟨i,σ5,H5,I5,st5,fr5,w5⟩
  show wpAny _ X.A ((compTurn (.ListComp elt [⟨tg,iter,ifs,0⟩] scope pos) 0 (.ref it) (.ref s2.heap.objs.size) (compEnvC scope (jcx X.env scope.names []) h3.objs.size X.env)).onRaise (fun x=>do noteFrame x (compEnvC scope (jcx X.env scope.names []) h3.objs.size X.env); theTreesLotGoes x)) _ _ s5
  refine wpAny_noted ?_
  rw [compTurn_list]
  refine wpAny_bind (wpAny_standAt (wpAny_bind ?_))
  rcases turn i n σ5 H5 w5 with ⟨stop,qn⟩ | ⟨go,N',hN',step⟩
  ·refine thn (T.done (X.block scope N fp { s2 with heap:=h3 } (upd H2 s2.heap.objs.size (.lst [])) h3.objs.size) rfl rfl rfl hc i [] s5 σ5 H5 _ I5 (fpB fr5) st5 stop) fun r s6 ⟨hr,I6⟩=>?_
   subst hr
   refine wpAny_pure ?_
   have u6:Un (frs X.stack) fp (upd H2 s2.heap.objs.size (.lst [])) H5 h3 s6.heap:=I6.base
   have hf6:H5 h3.objs.size = none:=I6.free
   have I7:Inv X pins σ H5 s6:=I3.call' (ch:=fp) I6.os u6 I6.hok I6.bare fun b hb=>⟨(f3 b hb).2.2.2.1,(f3 b hb).2.1,(f3 b hb).2.2.2.2.1,(f3 b hb).2.2.2.2.2⟩
   obtain ⟨m,hm,_⟩:=I6.loc
   exact hRR _ _ H5 s6 I7 ⟨m,hm⟩ (I3.fpOk (Nat.le_refl _) hf6) qn
  ·refine thn (T.item (X.block scope N fp { s2 with heap:=h3 } (upd H2 s2.heap.objs.size (.lst [])) h3.objs.size) rfl rfl rfl hc i [] s5 σ5 H5 _ I5 (fpB fr5) st5 go) fun r s6 ⟨u,hr,h6⟩=>?_
   subst hr
   refine wpAny_bind (thn h6 fun _ s7 ⟨x,H7,I7,r7,y7,st7,fr7⟩=>?_)
   have I7':=I7.pinned (fpB fr7) (T.obj _ _ st7)
   have fin:∀ {σ9:St} {H9:Hp} {s9:Shared},Inv (X.block scope N fp { s2 with heap:=h3 } (upd H2 s2.heap.objs.size (.lst [])) h3.objs.size) ([] ++ jk5 fp s7.heap) σ9 H9 s9→N' σ9 H9 →
     ∃ m,m < n∧∃ i σ' H',Inv (X.block scope N fp { s2 with heap:=h3 } (upd H2 s2.heap.objs.size (.lst [])) h3.objs.size) [] σ' H' s9∧tn i s9.heap∧(∀ b ∈ fp,H' b = none)∧W i m σ' H':=fun {σ9 H9 s9} I9 n9=>by
    obtain ⟨m',hm,w9⟩:=hN' σ9 H9 n9
    refine ⟨m',hm,i + 1,σ9,H9,I9.unpinned,T.keep _ _ _ st7 fun b hb o e=>(I9.pin (b,o) (List.mem_append_right _ (List.mem_append_right _ (je5 hb e)))).1,fun b hb=>?_,w9⟩
    obtain ⟨o,e,d⟩:=T.obj _ _ st7 b hb
    exact (I9.pin (b,o) (List.mem_append_right _ (List.mem_append_right _ (je5 hb e)))).2.1
   refine wpAny_bind (wpAny_mono (hg fp _ _ _ _ s7 σ5 H7 x u _ I7' r7 (step x H7 y7)) (fun _ s8 ⟨σ8,H8,I8,q8⟩=>?_) fun _ _ z=>False.elim z)
   refine wpAny_bind (wpAny_mono (ht fp _ _ _ _ s8 σ8 H8 _ I8 q8) (fun ok s9 ⟨H9,I9,q9⟩=>?_) fun _ _ z=>False.elim z)
   cases ok with
   | false=>exact wpAny_pure ⟨rfl,fin I9 q9⟩
   | true =>
    refine wpAny_bind (wpAny_bind (wpAny_mono (he fp _ _ _ _ s9 σ8 H9 _ I9 q9) (fun v s10 ⟨y,H10,I10,r10,xs,hx,hz,q10⟩=>?_) fun _ _ z=>False.elim z))
    refine wpAny_bind (wpAny_mono (jkd (X:=X.block scope N fp { s2 with heap:=h3 } (upd H2 s2.heap.objs.size (.lst [])) h3.objs.size) _ s10 σ8 H10 (.ref s2.heap.objs.size) [y] _ [v] (fun _ H11=>N' σ8 H11) I10 rfl (.cons r10 .nil) ⟨_,xs,y,rfl,rfl,hx,hz,q10⟩)
     (fun _ s11 ⟨_,H11,I11,_,q11⟩=>wpAny_pure (wpAny_pure ⟨rfl,fin I11 q11⟩)) fun _ _ z=>False.elim z)
 exact codeAny_compStart_list (loop _ rfl) (T.self _ 0 _ _ _ tn1 (loop _ rfl))
def jr9 (src:List (Option Nat)) (wi:TI) (g:TG) (tc:TT) (te:TE):TE:=fun σ H Q=>wi σ H fun J H1=>∀ l,H1 l = none→jr4 J src g tc te Q σ H1 l
theorem jc6 {X:Cx} {elt tg iter:Expr} {ifs:List Expr} {scope:Scope} {pos:Pos} {N:List Str} {src:List (Option Nat)} {wi:TI} {g:TG} {tc:TT} {te:TE} (S:CpScope X scope N src) (hc:X.calm = true)
  (hi:PI X tg iter wi) (hg:∀ fp s₀ H₀ C,PG (X.block scope N fp s₀ H₀ C) tg g) (ht:∀ fp s₀ H₀ C,PIf (X.block scope N fp s₀ H₀ C) ifs tc) (he:∀ fp s₀ H₀ C,PE (X.block scope N fp s₀ H₀ C) elt te)
  (hs:∀ x,foldedSetIterable iter X.env x = pure x:=by intro _; rfl):PE X (.ListComp elt [⟨tg,iter,ifs,0⟩] scope pos) (jr9 src wi g tc te):=by
 intro pins s σ H Q I h
 rw [eval_ListComp]
 refine wpAny_comprehension_free (use:=none) rfl hs (jdm fun y hy e=>I.ok.has y.1 (.inl (S.frees y hy e).2)) S.kind S.locs ?_
 refine thn (hi pins s σ H _ I h) fun v s1 h1=>thn h1 fun itv s2 h2=>?_
 obtain ⟨it,fp,tn,J,H2,e,I2,T,st2,f2,hw⟩:=h2
 subst e
 refine jkq (RR:=fun acc C=>compPost (model X.prog X.w) X.A X.xe none (EP X pins σ Q) acc C) S hc hg ht he I2 T st2 f2 hw ?_
 intro l C H' s' I' hm fC q
 obtain ⟨m,hm⟩:=hm
 refine ⟨m,hm,fun h' hs'=>?_⟩
 exact ⟨.ref l,H',I'.turned (t':=s'.toks) (fun b o hb e=>hs'.extBut b o hb e) fC.1 fC.2.1 fC.2.2.2.1 fC.2.2.2.2.1 fC.2.2.2.2.2,rfl,q⟩
theorem jfc {X:Cx} {i:Nat} {x:Str} {pos' spos:Pos} {elt tg iter:Expr} {ifs:List Expr} {scope:Scope} {pos:Pos} {N:List Str} {src:List (Option Nat)} {wi:TI} {g:TG} {tc:TT} {te:TE} (hN:X.N.Nodup) (hix:X.N[i]? = some x) (hx:Loc X.env.scope x)
  (S:CpScope X scope N src) (hc:X.calm = true)
  (hi:PI X tg iter wi) (hg:∀ fp s₀ H₀ C,PG (X.block scope N fp s₀ H₀ C) tg g) (ht:∀ fp s₀ H₀ C,PIf (X.block scope N fp s₀ H₀ C) ifs tc) (he:∀ fp s₀ H₀ C,PE (X.block scope N fp s₀ H₀ C) elt te)
  (hsw:swapsWith (.ListComp elt [⟨tg,iter,ifs,0⟩] scope pos) (some (.Name x pos')) spos.line X.env = pure true:=by rfl)
  (hs:∀ x,foldedSetIterable iter X.env x = pure x:=by intro _; rfl) (hf:X.fn x = true ∨ X.env.scope.names.lookup x = some .local:=by first | exact .inl rfl | exact .inr rfl | assumption) :
  PS X (.Assign [.Name x pos'] (.ListComp elt [⟨tg,iter,ifs,0⟩] scope pos) spos) (tAsg (jr9 src wi g tc te) (jal i)):=by
 intro pins s σ H D I h
 rw [exec_Assign_Name_used _ _ _ _ hsw]
 refine wpAny_bind (wpAny_standAt (wpAny_bind ?_))
 show wpAny _ X.A (do let _ ← comprehension (.ListComp elt [⟨tg,iter,ifs,0⟩] scope pos) scope X.env _ (newList []) false (eval iter X.env) (some (assign (.Name x pos') X.env))) _ _ s
 refine wpAny_bind (wpAny_mono (wpAny_comprehension_free (use:=some (assign (.Name x pos') X.env)) (Q:=fun _ s'=>SP X pins D .next s') rfl hs (jdm fun y hy e=>I.ok.has y.1 (.inl (S.frees y hy e).2)) S.kind S.locs
  (thn (hi pins s σ H _ I h) fun v s1 h1=>thn h1 fun itv s2 h2=>?_)) (fun _ s' hq=>wpAny_pure (wpAny_pure hq)) fun _ _ e=>e)
 obtain ⟨it,fp,tn,J,H2,e,I2,T,st2,f2,hw⟩:=h2
 subst e
 refine jkq (Q:=fun v H'=>D.nx (σ.set i (some v)) H') (RR:=fun acc C=>compPost (model X.prog X.w) X.A X.xe (some (assign (.Name x pos') X.env)) (fun _ s'=>SP X pins D .next s') acc C) S hc hg ht he I2 T st2 f2 hw ?_
 intro l C H' s' I' hm fC q
 obtain ⟨m,hm⟩:=hm
 show wpAny _ X.A (assign (.Name x pos') X.env (.ref l)) _ _ _
 refine wpAny_assign_Name (jjx I' hN hix hx (v:=.ref l) rfl (fun s'' I'' ⟨a,sb,ha⟩=>?_) hf)
 have hCa:C ≠ a:=by
  rcases ha with rfl | ha
  ·exact fC.2.1
  ·exact fun z=>fC.2.2.2.2.1 x a ha z.symm
 refine ⟨m,hm.sameBut sb hCa,fun h' hs'=>?_⟩
 exact ⟨_,H',I''.turned (t':=s''.toks) (fun b o hb e=>hs'.extBut b o hb e) fC.1 fC.2.1 fC.2.2.2.1 fC.2.2.2.2.1 fC.2.2.2.2.2,q⟩
end L2
namespace L2
open PySem PySem.Spec PyProof.Rows
theorem Inv.turnedNew {X:Cx} {pins:List (Addr × Obj)} {σ:St} {H:Hp} {s:Shared} {h':Heap} {ch:List Addr} {t:Addr} {o:HO} {t':Nat} (I:Inv X pins σ H s) (hsz:s.heap.objs.size ≤ t)
  (k:∀ b ob,b ∉ ch→s.heap.get? b = some ob→h'.get? b = some ob) (hch:∀ b ∈ ch,FpOk X pins H b) (new:jcy X.prog X.w (upd H t o) h' t o) :
  Inv X pins σ (upd H t o) { s with heap:=h',toks:=t' }:=by
 have hn:H t = none:=I.hok.fresh hsz
 have nt:∀ {b ob},s.heap.get? b = some ob→b ≠ t:=fun q=>Nat.ne_of_lt (Nat.lt_of_lt_of_le (Heap.lt_size q) hsz)
 have u:Un (frs X.stack) ch H (upd H t o) s.heap h' :=
  ⟨fun b ob q _ _ hx=>k b ob hx q,fun b ob q _ _ hx=>⟨ob.slots,k b ob hx q⟩,fun b ob q n _=>by rw [jba (nt q)]; exact n,fun b ob q hx=>⟨ob,k b ob hx q⟩,
   fun b xs q=>by rw [jba (jaj q hn)]; exact q,fun b ob xs q=>by rw [jba (jaj q hn)]; exact q,fun b ps q=>⟨#[],by rw [jba (jaj q hn),q]; simp⟩⟩
 refine I.call (g':=s.gens) (t':=t') (d':=s.drawn) u (fun b ob e=>?_) I.bare fun b hb=>⟨(hch b hb).2.2.2.1,(hch b hb).2.1,(hch b hb).2.2.2.2.1,(hch b hb).2.2.2.2.2⟩
 by_cases hb:b = t
 ·subst hb; rw [ja4] at e; cases e; exact new
 ·rw [jba hb] at e
  have ntr:∀ {c u},H c = some u→c ∉ ch:=fun q z=>by rw [(hch _ z).1] at q; cases q
  refine (I.hok b ob e).stay (fun c v hc q=>k c v ?_ q) (fun c q=>by rw [jba (jaj q hn)]; exact q) fun c xs q=>by rw [jba (jaj q hn)]; exact q
  rcases hc with z | z
  ·rw [z]; exact ntr e
  ·exact ntr z
theorem Inv.turnedAll {X:Cx} {pins:List (Addr × Obj)} {σ:St} {H:Hp} {s:Shared} {h':Heap} {ch:List Addr} {t':Nat} (I:Inv X pins σ H s)
  (k:∀ b ob,b ∉ ch→s.heap.get? b = some ob→h'.get? b = some ob) (hch:∀ b ∈ ch,FpOk X pins H b):Inv X pins σ H { s with heap:=h',toks:=t' }:=by
 have u:Un (frs X.stack) ch H H s.heap h' :=
  ⟨fun b ob q _ _ hx=>k b ob hx q,fun b ob q _ _ hx=>⟨ob.slots,k b ob hx q⟩,fun b ob q n _=>n,fun b ob q hx=>⟨ob,k b ob hx q⟩,fun b xs q=>q,fun b ob xs q=>q,fun b ps q=>⟨#[],by rw [q]; simp⟩⟩
 refine I.call (g':=s.gens) (t':=t') (d':=s.drawn) u (fun b ob e=>?_) I.bare fun b hb=>⟨(hch b hb).2.2.2.1,(hch b hb).2.1,(hch b hb).2.2.2.2.1,(hch b hb).2.2.2.2.2⟩
 have ntr:∀ {c u},H c = some u→c ∉ ch:=fun q z=>by rw [(hch _ z).1] at q; cases q
 refine (I.hok b ob e).stay (fun c v hc q=>k c v ?_ q) (fun c q=>q) fun c xs q=>q
 rcases hc with z | z
 ·rw [z]; exact ntr e
 ·exact ntr z
def Ite (K:PySem.W.Frag) (a:Addr):It :=
 ⟨fun i H=>∃ xs x,SqL K H a xs∧xs[i]? = some x,fun i H x H'=>∃ t y,H t = none∧x = .ref t∧H' = upd H t (.tup [.int i,y])∧∀ xs,SqL K H a xs→xs[i]? = some y,fun i H=>∃ xs,SqL K H a xs∧xs.length ≤ i⟩
theorem joc {P:Program} {w:World} {K:PySem.W.Frag} {elts:List Expr} {x1:Nat} {pos:Pos} (a e it:Addr) (hne:e ≠ it) :
  Turn P w K (.Tuple elts x1 pos) (Ite K a) [e,it] e (fun i h=>(∃ old,IsEnum h e it i old)∧h.IsListIter it a i) where
 mem:=by simp
 obj:=fun i h st b hb=>by
  obtain ⟨⟨old,he⟩,hit⟩:=st
  have q:b = e ∨ b = it:=by simpa using hb
  rcases q with rfl | rfl
  ·exact ⟨_,he,fun v z=>by
    have z':Data.fields _ = Data.cell v:=z
    cases z'⟩
  ·obtain ⟨o,e1,c,d⟩:=hit
   exact ⟨o,e1,fun v z=>by rw [d] at z; cases z⟩
 keep:=fun i h h' st k=>by
  obtain ⟨⟨old,he⟩,hit⟩:=st
  exact ⟨⟨old,k e (by simp) _ he⟩,hit.at fun o z=>k it (by simp) o z⟩
 item:=by
  intro X hP hw hK hc i pins s σ H E I hf st hg
  subst hP hw hK
  obtain ⟨⟨old,he⟩,hit⟩:=st
  obtain ⟨xs,x,hq,hx⟩:=hg
  obtain ⟨its,rv,p,hz⟩:=I.list hq
  obtain ⟨u,hu,ru⟩:=rv.get hx
  have elt:e < s.heap.objs.size:=Heap.lt_size he
  have ilt:it < s.heap.objs.size:=by obtain ⟨_,z,_⟩:=hit; exact Heap.lt_size z
  refine wpAny_pyNext_enum_item he hit p.isList (x:=u) (by simpa using hu) hne fun h1 ho hit1 hT hsz1 hk1=>?_
  refine ⟨_,rfl,wpAny_letOwnedTupleGo_enum ho fun h2 he2 hs2=>?_⟩
  replace hs2:Heap.SameBut e h1 h2:=hs2
  have kk:∀ b ob,b ∉ [e,it]→s.heap.get? b = some ob→h2.get? b = some ob:=fun b ob hb q=>by
   have hb':b ≠ e∧b ≠ it:=by simpa using hb
   exact hs2.extBut b ob hb'.1 (hk1 b ob hb'.1 hb'.2 q)
  have hT2:h2.get? s.heap.objs.size = some { cls:=.type "tuple",data:=.seq #[.int i s.toks,u] }:=(hs2.2 _ (Nat.ne_of_gt elt)).trans hT
  refine ⟨.ref s.heap.objs.size,upd H s.heap.objs.size (.tup [.int i,x]),I.turnedNew (ch:=[e,it]) (Nat.le_refl _) kk hf ?_,rfl,⟨_,x,I.fresh,rfl,rfl,fun ys hy=>by rw [I.list_inj hy hq]; exact hx⟩,⟨⟨u,by simpa using he2⟩,hit1.at fun o z=>(hs2.2 it hne.symm).trans z⟩,fun b hb=>?_⟩
  ·exact ⟨by show 2 ≤ sizeLine; decide,[.int i s.toks,u],.cons ⟨_,rfl⟩ (.cons ru .nil),⟨_,hT2,rfl,_,rfl⟩⟩
  ·have hb':b = e ∨ b = it:=by simpa using hb
   have:b ≠ s.heap.objs.size:=by
    rcases hb' with rfl | rfl
    ·exact Nat.ne_of_lt elt
    ·exact Nat.ne_of_lt ilt
   rw [jba this]
   exact (hf b hb).1
 done:=by
  intro X hP hw hK hc i pins s σ H E I hf st hg
  subst hP hw hK
  obtain ⟨⟨old,he⟩,hit⟩:=st
  obtain ⟨xs,hq,hx⟩:=hg
  obtain ⟨its,rv,p,hz⟩:=I.list hq
  have hl:=rv.length
  refine wpAny_pyNext_enum_end (I.ok.hd hc) he hit p.isList (by simp; omega) fun h' eb=>⟨rfl,I.turnedAll (ch:=[e,it]) (t':=s.toks) (fun b o hb q=>eb b o (fun z=>hb (by simp [z])) q) hf⟩
 self:=fun _ _ _ _ _ st h=>by
  obtain ⟨⟨old,he⟩,_⟩:=st
  exact wpAny_pyIter_enum he h
def juo (K:PySem.W.Frag) (ta:TA):TI:=fun σ H R=>ta σ H fun vs H1=>∃ a,vs = [.ref a]∧(∃ xs,SqL K H1 a xs)∧R (Ite K a) H1
theorem jio {X:Cx} {elts:List Expr} {x1:Nat} {tpos:Pos} {a:Expr} {ta:TA} {p pos:Pos} (hg:Gl X "enumerate") (hm:X.mg "enumerate" = none) (ha:PA X [a] ta) (hs:starEach [a] X.env = [(false,eval a X.env)]:=by rfl) :
  PI X (.Tuple elts x1 tpos) (.Call (.Name "enumerate" p) [a] [] pos) (juo X.K ta):=by
 intro pins s σ H R I h
 refine Call_ (jfr I hg hm boot_enumerate (PyProof.Rows.callWith_type1 (thn (ha pos pins s σ H _ I h) fun us s1 ⟨vs,H1,I1,r1,q1⟩=>?_) hs rfl))
 obtain ⟨a,e,⟨xs,hq⟩,q⟩:=q1
 subst e
 cases r1 with
 | cons r rr =>
  cases rr
  cases r
  obtain ⟨its,rv,pl,hz⟩:=I1.list hq
  refine call_enumerate_list pl.isList fun h' he hit hsz hk=>?_
  refine wpAny_pyIter_enum he ?_
  have I2:Inv X pins σ H1 { s1 with heap:=h' }:=I1.kept (t':=s1.toks) fun b o q=>hk b o q
  refine ⟨_,[s1.heap.objs.size + 1,s1.heap.objs.size],_,_,H1,rfl,I2,joc a _ _ (Nat.succ_ne_self _),⟨⟨_,he⟩,hit⟩,fun b hb=>?_,q⟩
  have hb':b = s1.heap.objs.size + 1 ∨ b = s1.heap.objs.size:=by simpa using hb
  rcases hb' with rfl | rfl
  ·exact I1.fpOk (Nat.le_succ _) (I1.hok.fresh (Nat.le_succ _))
  ·exact I1.fpOk (Nat.le_refl _) (I1.hok.fresh (Nat.le_refl _))
end L2
namespace L2
open PySem PySem.Spec PyProof.Rows
section
variable {prog:Program} {w:World} {A:Around} {E:Value→Shared→Prop} {s:Shared}
theorem jno {j t:Addr} {k:Nat} {ar:Array Value} {x:Value} {Q:Value→Shared→Prop} (hj:s.heap.IsTupleIter j t k) (ht:s.heap.IsTuple t ar) (hx:ar[k]? = some x)
  (hQ:∀ h',h'.IsTupleIter j t (k + 1)→Heap.SameBut j s.heap h'→Q x { s with heap:=h' }):wpAny (model prog w) A (Builtin.SmallTypes.nextOf (.ref j)) Q E s:=by
 obtain ⟨ob,e0,hcl,hdt⟩:=id hj
 obtain ⟨ot,e1,_,nt,hdl⟩:=ht
 unfold Builtin.SmallTypes.nextOf
 refine wpAny_bind (wpAny_callSpecial?_slot (name:=Str.ofString "__next__") hj.typeIs F.slot_tuple_iterator_next (wpAny_call_entry F.slot_tuple_iterator_next hj.typeIs F.entry_tuple_iterator_next ?_ (F.args_tuple_iterator_next_1 _)))
 show wpAny _ _ (field (.ref j) 0 >>= _) _ _ s
 refine wpAny_bind (wpAny_field e0 hdt (x:=.ref t) rfl ?_)
 show wpAny _ _ (if (Value.ref t == Value.none) = true then _ else _) _ _ s
 rw [if_neg (show ¬ ((Value.ref t == Value.none) = true) from Bool.false_ne_true)]
 show wpAny _ _ (field (.ref j) 1 >>= _) _ _ s
 refine wpAny_bind (wpAny_field e0 hdt (x:=.int k 0) rfl ?_)
 show wpAny _ _ (seqItems? (.ref t) >>= _) _ _ s
 refine wpAny_bind (wpAny_seqItems e1 hdl ?_)
 simp only [Int.toNat_natCast,hx]
 refine wpAny_bind (wpAny_setField e0 hdt (by simp) (wpAny_pure ⟨x,rfl,wpAny_pure (hQ _ ?_ (Heap.SameBut.update ..))⟩))
 exact ⟨_,Heap.get?_update_self _ e0 (Obj.isFreed_of_fields (Obj.data_mapFields hdt _)),(Obj.cls_mapFields ..).trans hcl,by rw [Obj.data_mapFields hdt]; simp [rawInt]⟩
theorem jhi {j t:Addr} {k:Nat} {ar:Array Value} {Q:Value→Shared→Prop} (hh:A.handled = none) (hj:s.heap.IsTupleIter j t k) (ht:s.heap.IsTuple t ar) (hx:ar[k]? = none)
  (hE:∀ h' e,Heap.ExtBut j s.heap h'→(∃ o,h'.get? e = some o∧o.cls = .type "StopIteration")→E (.ref e) { s with heap:=h' }):wpAny (model prog w) A (Builtin.SmallTypes.nextOf (.ref j)) Q E s:=by
 obtain ⟨ob,e0,hcl,hdt⟩:=id hj
 obtain ⟨ot,e1,_,nt,hdl⟩:=ht
 unfold Builtin.SmallTypes.nextOf
 refine wpAny_bind (wpAny_callSpecial?_slot (name:=Str.ofString "__next__") hj.typeIs F.slot_tuple_iterator_next (wpAny_call_entry F.slot_tuple_iterator_next hj.typeIs F.entry_tuple_iterator_next ?_ (F.args_tuple_iterator_next_1 _)))
 show wpAny _ _ (field (.ref j) 0 >>= _) _ _ s
 refine wpAny_bind (wpAny_field e0 hdt (x:=.ref t) rfl ?_)
 show wpAny _ _ (if (Value.ref t == Value.none) = true then _ else _) _ _ s
 rw [if_neg (show ¬ ((Value.ref t == Value.none) = true) from Bool.false_ne_true)]
 show wpAny _ _ (field (.ref j) 1 >>= _) _ _ s
 refine wpAny_bind (wpAny_field e0 hdt (x:=.int k 0) rfl ?_)
 show wpAny _ _ (seqItems? (.ref t) >>= _) _ _ s
 refine wpAny_bind (wpAny_seqItems e1 hdl ?_)
 simp only [Int.toNat_natCast,hx]
 refine wpAny_bind (wpAny_rule (wpAny_bind (wpAny_setField e0 hdt (by simp) ?_)))
 show wpAny _ _ (newExc (.type "StopIteration") [] >>= _) _ _ _
 refine wpAny_bind ?_
 simp only [newExc,newTuple]
 refine wpAny_bind (wpAny_newObj_type ?_ (by size_fits))
 refine wpAny_bind (m:=firstArgMember _ _) (wpAny_of_eq (a:=Value.none) (by first | rfl | (simp only [firstArgMember]; rfl)) ?_)
 refine wpAny_newObj_type ?_ (by size_fits)
 simp only [raiseNew]
 refine wpAny_bind (wpAny_handled ?_)
 first | rw [show A.in1.handled = none from hh] | rw [hh]
 refine wpAny_bind (wpAny_pure (wpAny_throw ?_))
 exact hE _ _ (((Heap.SameBut.update ..).extBut.push _).push _) ⟨_,Heap.get?_push_size _ rfl,rfl⟩
def IsSq (b:Bool) (h:Heap) (l:Addr) (ar:Array Value):Prop:=if b = true then h.IsList l ar else h.IsTuple l ar
def jco (b:Bool) (h:Heap) (j l:Addr) (k:Nat):Prop:=if b = true then h.IsListIter j l k else h.IsTupleIter j l k
theorem IsSq.at' {b:Bool} {h h':Heap} {l:Addr} {ar:Array Value} (x:IsSq b h l ar) (k:∀ o,h.get? l = some o→h'.get? l = some o):IsSq b h' l ar:=by
 cases b with
 | true=>obtain ⟨o,e,r⟩:=(show h.IsList l ar from x); exact (show h'.IsList l ar from ⟨o,k o e,r⟩)
 | false=>obtain ⟨o,e,r⟩:=(show h.IsTuple l ar from x); exact (show h'.IsTuple l ar from ⟨o,k o e,r⟩)
theorem jco.at' {b:Bool} {h h':Heap} {j l:Addr} {i:Nat} (x:jco b h j l i) (k:∀ o,h.get? j = some o→h'.get? j = some o):jco b h' j l i:=by
 cases b with
 | true=>obtain ⟨o,e,r⟩:=(show h.IsListIter j l i from x); exact (show h'.IsListIter j l i from ⟨o,k o e,r⟩)
 | false=>obtain ⟨o,e,r⟩:=(show h.IsTupleIter j l i from x); exact (show h'.IsTupleIter j l i from ⟨o,k o e,r⟩)
theorem jco.obj {b:Bool} {h:Heap} {j l:Addr} {i:Nat} (x:jco b h j l i):∃ o,h.get? j = some o∧∀ v,o.data ≠ .cell v:=by
 cases b with
 | true=>obtain ⟨o,e,_,d⟩:=(show h.IsListIter j l i from x); exact ⟨o,e,fun v z=>by rw [d] at z; cases z⟩
 | false=>obtain ⟨o,e,_,d⟩:=(show h.IsTupleIter j l i from x); exact ⟨o,e,fun v z=>by rw [d] at z; cases z⟩
theorem jgv {b:Bool} {j l:Addr} {k:Nat} {ar:Array Value} {x:Value} {Q:Value→Shared→Prop} (hj:jco b s.heap j l k) (hl:IsSq b s.heap l ar) (hx:ar[k]? = some x)
  (hQ:∀ h',jco b h' j l (k + 1)→Heap.SameBut j s.heap h'→Q x { s with heap:=h' }):wpAny (model prog w) A (Builtin.SmallTypes.nextOf (.ref j)) Q E s:=by
 cases b with
 | true=>exact wpAny_nextOf_list_item (show s.heap.IsListIter j l k from hj) (show s.heap.IsList l ar from hl) hx fun h' a b=>hQ h' a b
 | false=>exact jno (show s.heap.IsTupleIter j l k from hj) (show s.heap.IsTuple l ar from hl) hx fun h' a b=>hQ h' a b
theorem jex {b:Bool} {j l:Addr} {k:Nat} {ar:Array Value} {Q:Value→Shared→Prop} (hh:A.handled = none) (hj:jco b s.heap j l k) (hl:IsSq b s.heap l ar) (hx:ar[k]? = none)
  (hE:∀ h' e,Heap.ExtBut j s.heap h'→(∃ o,h'.get? e = some o∧o.cls = .type "StopIteration")→E (.ref e) { s with heap:=h' }):wpAny (model prog w) A (Builtin.SmallTypes.nextOf (.ref j)) Q E s:=by
 cases b with
 | true=>exact wpAny_nextOf_list_end hh (show s.heap.IsListIter j l k from hj) (show s.heap.IsList l ar from hl) hx hE
 | false=>exact jhi hh (show s.heap.IsTupleIter j l k from hj) (show s.heap.IsTuple l ar from hl) hx hE
theorem jjj {b:Bool} {z TI TO i1 i2 l1 l2:Addr} {k1 k2:Nat} {xs ys:Array Value} {x y v0 v1:Value} {Q:Value→Shared→Prop} (D:ZipApart z TI TO i1 i2 l1 l2)
  (hz:IsZip s.heap z TI TO .none) (hTI:IsPair s.heap TI (.ref i1) (.ref i2)) (hTO:IsPair s.heap TO v0 v1)
  (h1:jco b s.heap i1 l1 k1) (h2:jco b s.heap i2 l2 k2) (hl1:IsSq b s.heap l1 xs) (hl2:IsSq b s.heap l2 ys) (hx:xs[k1]? = some x) (hy:ys[k2]? = some y)
  (hQ:∀ h',IsZip h' z TI TO (rawInt s.heap.objs.size)→IsPair h' TO x y→jco b h' i1 l1 (k1 + 1)→jco b h' i2 l2 (k2 + 1)→IsPair h' s.heap.objs.size x y →
   (∀ c o,c ≠ z→c ≠ TO→c ≠ i1→c ≠ i2→s.heap.get? c = some o→h'.get? c = some o)→Q (.ref s.heap.objs.size) { s with heap:=h' }) :
  wpAny (model prog w) A (Builtin.«zip.__next__» ⟨[.ref z],[]⟩) (fun fin s'=>∃ v,fin = .done (.ret v)∧Q v s') E s:=by
 show wpAny _ _ (field (.ref z) 2 >>= _) _ _ _
 refine wpAny_bind (wpAny_field hz rfl (x:=.bool false) rfl ?_)
 show wpAny _ _ (field (.ref z) 3 >>= _) _ _ _
 refine wpAny_bind (wpAny_field hz rfl (x:=.ref TI) rfl ?_)
 refine wpAny_bind (wpAny_seqItems hTI rfl ?_)
 show wpAny _ _ (Builtin.SmallTypes.ownedTupleIsFree (.ref z) >>= _) _ _ _
 refine wpAny_bind ?_
 unfold Builtin.SmallTypes.ownedTupleIsFree
 refine wpAny_bind (wpAny_field hz rfl (x:=.none) rfl (wpAny_pure ?_))
 simp only [if_true]
 refine wpAny_bind (wpAny_rule ?_)
 refine wpAny_bind (wpAny_field hz rfl (x:=.ref TO) rfl ?_)
 refine wpAny_bind (wpAny_setField_rec hz (by simp) fun g1 hzA sA=>?_)
 replace hzA:IsZip g1 z TI TO .ellipsis:=hzA
 refine wpAny_bind ?_
 simp only [List.zipIdx_cons,List.zipIdx_nil,List.forIn_cons,List.forIn_nil]
 refine wpAny_bind (wpAny_bind (wpAny_onRaise ?_))
 show wpAny _ _ (Builtin.SmallTypes.nextOf (.ref i1) >>= _) _ _ _
 refine wpAny_bind (jgv (b:=b) (h1.at' fun o e=>sA.extBut _ o D.i1z e) (hl1.at' fun o e=>sA.extBut _ o D.l1z e) hx fun g2 h1B sB=>wpAny_pure ?_)
 have TOB:IsPair g2 TO v0 v1:=sB.extBut _ _ D.TOi1 (sA.extBut _ _ D.TOz hTO)
 refine wpAny_bind (wpAny_seqItems TOB rfl ?_)
 refine wpAny_bind (wpAny_updateSeq_pair TOB fun g3 TOC sC=>?_)
 replace TOC:IsPair g3 TO x v1:=TOC
 refine wpAny_bind (wpAny_letGo (wpAny_pure ?_))
 refine wpAny_bind (wpAny_bind (wpAny_onRaise ?_))
 show wpAny _ _ (Builtin.SmallTypes.nextOf (.ref i2) >>= _) _ _ _
 refine wpAny_bind (jgv (b:=b) (h2.at' fun o e=>sC.extBut _ o D.TOi2.symm (sB.extBut _ o D.i12.symm (sA.extBut _ o D.i2z e))) (hl2.at' fun o e=>sC.extBut _ o D.l2TO (sB.extBut _ o D.l2i1 (sA.extBut _ o D.l2z e))) hy fun g4 h2D sD=>wpAny_pure ?_)
 have TOD:IsPair g4 TO x v1:=sD.extBut _ _ D.TOi2 TOC
 refine wpAny_bind (wpAny_seqItems TOD rfl ?_)
 refine wpAny_bind (wpAny_updateSeq_pair TOD fun g5 TOE sE=>?_)
 replace TOE:IsPair g5 TO x y:=TOE
 refine wpAny_bind (wpAny_letGo (wpAny_pure (wpAny_pure ?_)))
 refine wpAny_bind (wpAny_seqItems TOE rfl ?_)
 refine wpAny_bind (wpAny_newTuple ?_)
 have hsz:g5.objs.size = s.heap.objs.size:=by rw [sE.1,sD.1,sC.1,sB.1,sA.1]
 have hzE:IsZip g5 z TI TO .ellipsis:=sE.extBut _ _ D.TOz.symm (sD.extBut _ _ D.i2z.symm (sC.extBut _ _ D.TOz.symm (sB.extBut _ _ D.i1z.symm hzA)))
 have hkE:∀ c o,c ≠ z→c ≠ TO→c ≠ i1→c ≠ i2→s.heap.get? c = some o→g5.get? c = some o:=fun c o c1 c2 c3 c4 e=>sE.extBut _ _ c2 (sD.extBut _ _ c4 (sC.extBut _ _ c2 (sB.extBut _ _ c3 (sA.extBut _ _ c1 e))))
 have h1E:jco b g5 i1 l1 (k1 + 1):=h1B.at' fun o e=>sE.extBut _ o D.TOi1.symm (sD.extBut _ o D.i12 (sC.extBut _ o D.TOi1.symm e))
 have h2E:jco b g5 i2 l2 (k2 + 1):=h2D.at' fun o e=>sE.extBut _ o D.TOi2.symm e
 have zlt:z < g5.objs.size:=Heap.lt_size hzE
 show wpAny _ _ (Builtin.SmallTypes.ownedTupleHandOut (.ref z) (.ref g5.objs.size) >>= _) _ _ _
 refine wpAny_bind ?_
 unfold Builtin.SmallTypes.ownedTupleHandOut
 have hzF:IsZip (g5.push { cls:=.type "tuple",data:=.seq #[x,y] }) z TI TO .ellipsis:=Heap.get?_push_of_some _ hzE
 refine wpAny_bind (wpAny_setField_rec hzF (by simp) fun g7 hzG sG=>?_)
 replace hzG:IsZip g7 z TI TO (rawInt g5.objs.size):=hzG
 refine wpAny_setField_rec hzG (by simp) fun g8 hzI sI=>?_
 replace hzI:IsZip g8 z TI TO (rawInt g5.objs.size):=hzI
 have up:∀ c o,c ≠ z→g5.get? c = some o→g8.get? c = some o:=fun c o c1 e=>sI.extBut _ _ c1 (sG.extBut _ _ c1 (Heap.get?_push_of_some _ e))
 have hTI8:IsPair g8 g5.objs.size x y:=sI.extBut _ _ (Nat.ne_of_gt zlt) (sG.extBut _ _ (Nat.ne_of_gt zlt) (Heap.get?_push_size _ rfl))
 rw [hsz] at hzI hTI8
 refine wpAny_pure ⟨_,rfl,?_⟩
 show Q (.ref g5.objs.size) _
 rw [hsz]
 exact hQ g8 hzI (up _ _ D.TOz TOE) (h1E.at' fun o e=>up _ o D.i1z e) (h2E.at' fun o e=>up _ o D.i2z e) hTI8 fun c o c1 c2 c3 c4 e=>up c o c1 (hkE c o c1 c2 c3 c4 e)
theorem jl3 {b:Bool} {z TI TO i1 i2 l1 l2:Addr} {k1 k2:Nat} {xs ys:Array Value} {v0 v1:Value} {Q:Fin→Shared→Prop} (hh:A.handled = none) (D:ZipApart z TI TO i1 i2 l1 l2)
  (hz:IsZip s.heap z TI TO .none) (hTI:IsPair s.heap TI (.ref i1) (.ref i2)) (hTO:IsPair s.heap TO v0 v1)
  (h1:jco b s.heap i1 l1 k1) (h2:jco b s.heap i2 l2 k2) (hl1:IsSq b s.heap l1 xs) (hl2:IsSq b s.heap l2 ys) (hend:xs[k1]? = none ∨ ys[k2]? = none)
  (hE:∀ h' e,(∀ c o,c ≠ z→c ≠ TO→c ≠ i1→c ≠ i2→s.heap.get? c = some o→h'.get? c = some o)→(∃ o,h'.get? e = some o∧o.cls = .type "StopIteration")→E (.ref e) { s with heap:=h' }) :
  wpAny (model prog w) A (Builtin.«zip.__next__» ⟨[.ref z],[]⟩) Q E s:=by
 show wpAny _ _ (field (.ref z) 2 >>= _) _ _ _
 refine wpAny_bind (wpAny_field hz rfl (x:=.bool false) rfl ?_)
 show wpAny _ _ (field (.ref z) 3 >>= _) _ _ _
 refine wpAny_bind (wpAny_field hz rfl (x:=.ref TI) rfl ?_)
 refine wpAny_bind (wpAny_seqItems hTI rfl ?_)
 show wpAny _ _ (Builtin.SmallTypes.ownedTupleIsFree (.ref z) >>= _) _ _ _
 refine wpAny_bind ?_
 unfold Builtin.SmallTypes.ownedTupleIsFree
 refine wpAny_bind (wpAny_field hz rfl (x:=.none) rfl (wpAny_pure ?_))
 simp only [if_true]
 refine wpAny_bind (wpAny_rule ?_)
 refine wpAny_bind (wpAny_field hz rfl (x:=.ref TO) rfl ?_)
 refine wpAny_bind (wpAny_setField_rec hz (by simp) fun g1 hzA sA=>?_)
 replace hzA:IsZip g1 z TI TO .ellipsis:=hzA
 refine wpAny_bind ?_
 simp only [List.zipIdx_cons,List.zipIdx_nil,List.forIn_cons,List.forIn_nil]
 refine wpAny_bind (wpAny_bind (wpAny_onRaise ?_))
 show wpAny _ _ (Builtin.SmallTypes.nextOf (.ref i1) >>= _) _ _ _
 cases hx:xs[k1]? with
 | none =>
  refine wpAny_bind (jex (b:=b) hh (h1.at' fun o e=>sA.extBut _ o D.i1z e) (hl1.at' fun o e=>sA.extBut _ o D.l1z e) hx fun g2 ex sB he=>?_)
  obtain ⟨oe,hoe,hce⟩:=he
  have hzB:IsZip g2 z TI TO .ellipsis:=sB _ _ D.i1z.symm hzA
  have hez:ex ≠ z:=fun q=>by subst q; rw [hzB] at hoe; cases hoe; simp at hce
  refine wpAny_setField_rec hzB (by simp) fun g3 _ sC=>hE g3 ex (fun c o c1 _ c3 _ q=>sC.extBut _ _ c1 (sB _ _ c3 (sA.extBut _ _ c1 q))) ⟨oe,sC.extBut _ _ hez hoe,hce⟩
 | some x =>
  have hy:ys[k2]? = none:=by rcases hend with h | h; rw [hx] at h; cases h; exact h
  refine wpAny_bind (jgv (b:=b) (h1.at' fun o e=>sA.extBut _ o D.i1z e) (hl1.at' fun o e=>sA.extBut _ o D.l1z e) hx fun g2 h1B sB=>wpAny_pure ?_)
  have TOB:IsPair g2 TO v0 v1:=sB.extBut _ _ D.TOi1 (sA.extBut _ _ D.TOz hTO)
  refine wpAny_bind (wpAny_seqItems TOB rfl ?_)
  refine wpAny_bind (wpAny_updateSeq_pair TOB fun g3 TOC sC=>?_)
  refine wpAny_bind (wpAny_letGo (wpAny_pure ?_))
  refine wpAny_bind (wpAny_bind (wpAny_onRaise ?_))
  show wpAny _ _ (Builtin.SmallTypes.nextOf (.ref i2) >>= _) _ _ _
  refine wpAny_bind (jex (b:=b) hh (h2.at' fun o e=>sC.extBut _ o D.TOi2.symm (sB.extBut _ o D.i12.symm (sA.extBut _ o D.i2z e))) (hl2.at' fun o e=>sC.extBut _ o D.l2TO (sB.extBut _ o D.l2i1 (sA.extBut _ o D.l2z e))) hy fun g4 ex sD he=>?_)
  obtain ⟨oe,hoe,hce⟩:=he
  have hzD:IsZip g4 z TI TO .ellipsis:=sD _ _ D.i2z.symm (sC.extBut _ _ D.TOz.symm (sB.extBut _ _ D.i1z.symm hzA))
  have hez:ex ≠ z:=fun q=>by subst q; rw [hzD] at hoe; cases hoe; simp at hce
  refine wpAny_setField_rec hzD (by simp) fun g5 _ sE=>hE g5 ex (fun c o c1 c2 c3 c4 q=>sE.extBut _ _ c1 (sD _ _ c4 (sC.extBut _ _ c2 (sB.extBut _ _ c3 (sA.extBut _ _ c1 q))))) ⟨oe,sE.extBut _ _ hez hoe,hce⟩
end
abbrev zpIt (b:Bool) (l:Addr):Obj:={ cls:=.type (if b = true then "list_iterator" else "tuple_iterator"),data:=.fields #[.ref l,.int 0 0] }
abbrev zp2 (b:Bool) (h:Heap) (l1 l2:Addr):Heap:=(h.push (zpIt b l1)).push (zpIt b l2)
abbrev zp3 (b:Bool) (h:Heap) (l1 l2:Addr):Heap:=(zp2 b h l1 l2).push { cls:=.type "tuple",data:=.seq #[.ref h.objs.size,.ref (h.push (zpIt b l1)).objs.size] }
abbrev zp4 (b:Bool) (h:Heap) (l1 l2:Addr):Heap:=(zp3 b h l1 l2).push { cls:=.type "tuple",data:=.seq #[.none,.none] }
abbrev zp5 (b:Bool) (h:Heap) (l1 l2:Addr):Heap:=(zp4 b h l1 l2).push { cls:=.type "zip",data:=.fields #[.none,.bool false,.bool false,.ref (zp2 b h l1 l2).objs.size,.ref (zp3 b h l1 l2).objs.size] }
theorem jo5 (l1 l2:Addr) (xs ys:Array Value) :
  Meets (Builtin.«zip.__new__» ⟨[.type "zip",.ref l1,.ref l2],[]⟩) (fun _ R s=>s.heap.IsTuple l1 xs∧s.heap.IsTuple l2 ys∧R (.ok (.ret (.ref (zp4 false s.heap l1 l2).objs.size))) { s with heap:=zp5 false s.heap l1 l2 }) :=
 .of_wp fun prog w A R s h=>by
  obtain ⟨hp,g,d,tk,os⟩:=s; obtain ⟨hl1,hl2,h⟩:=h
  have hsub:=sub_zip
  have hL1:Heap.IsTuple (Shared.heap ⟨hp,g,d,tk,os⟩) l1 xs:=hl1
  have hL2:Heap.IsTuple (Shared.heap ⟨hp.push { cls:=.type "tuple_iterator",data:=.fields #[.ref l1,.int 0 0] },g,d,tk,os⟩) l2 ys:=Heap.IsTuple.push hl2 _
  wp_walk using wpAny_pyIter_tuple hL1,wpAny_pyIter_tuple hL2
  exact ⟨_,rfl,h⟩
section
variable {prog:Program} {w:World} {A:Around} {E:Value→Shared→Prop} {s:Shared}
theorem jv3 {b:Bool} {l1 l2:Addr} {xs ys:Array Value} {Q:Value→Shared→Prop} (hl1:IsSq b s.heap l1 xs) (hl2:IsSq b s.heap l2 ys)
  (h:∀ h',IsZip h' (s.heap.objs.size + 4) (s.heap.objs.size + 2) (s.heap.objs.size + 3) .none→IsPair h' (s.heap.objs.size + 2) (.ref s.heap.objs.size) (.ref (s.heap.objs.size + 1)) →
   IsPair h' (s.heap.objs.size + 3) .none .none→jco b h' s.heap.objs.size l1 0→jco b h' (s.heap.objs.size + 1) l2 0→(∀ c o,s.heap.get? c = some o→h'.get? c = some o)→Q (.ref (s.heap.objs.size + 4)) { s with heap:=h' }) :
  wpAny (model prog w) A (call (.type "zip") [.ref l1,.ref l2]) Q E s:=by
 cases b with
 | true=>exact call_zip_2 (show s.heap.IsList l1 xs from hl1) (show s.heap.IsList l2 ys from hl2) fun h' a1 a2 a3 a4 a5 _ a7=>h h' a1 a2 a3 a4 a5 a7
 | false =>
  refine callType_new F.called_zip (by decide) (F.typeCall_zip_2 _ _) (F.newCall_zip_2 _ _) (fun obj=>F.args_object_init_3 obj _ _) F.entry_zip_new (jo5 l1 l2 xs ys) ⟨hl1,hl2,?_⟩
  have q1:(s.heap.push (zpIt false l1)).objs.size = s.heap.objs.size + 1:=Heap.size_push ..
  have q2:(zp2 false s.heap l1 l2).objs.size = s.heap.objs.size + 2:=by rw [Heap.size_push,q1]
  have q3:(zp3 false s.heap l1 l2).objs.size = s.heap.objs.size + 3:=by rw [Heap.size_push,q2]
  have q4:(zp4 false s.heap l1 l2).objs.size = s.heap.objs.size + 4:=by rw [Heap.size_push,q3]
  have p5:(zp5 false s.heap l1 l2).get? (zp4 false s.heap l1 l2).objs.size = some _:=Heap.get?_push_size _ rfl
  have p4:(zp5 false s.heap l1 l2).get? (zp3 false s.heap l1 l2).objs.size = some _:=Heap.get?_push_of_some _ (Heap.get?_push_size _ rfl)
  have p3:(zp5 false s.heap l1 l2).get? (zp2 false s.heap l1 l2).objs.size = some _:=Heap.get?_push_of_some _ (Heap.get?_push_of_some _ (Heap.get?_push_size _ rfl))
  have p2:(zp5 false s.heap l1 l2).get? (s.heap.push (zpIt false l1)).objs.size = some _:=Heap.get?_push_of_some _ (Heap.get?_push_of_some _ (Heap.get?_push_of_some _ (Heap.get?_push_size _ rfl)))
  have p1:(zp5 false s.heap l1 l2).get? s.heap.objs.size = some _:=Heap.get?_push_of_some _ (Heap.get?_push_of_some _ (Heap.get?_push_of_some _ (Heap.get?_push_of_some _ (Heap.get?_push_size _ rfl))))
  show _∧_
  rw [q2,q3,q4] at p5
  rw [q1,q2] at p3
  rw [q3] at p4
  rw [q1] at p2
  rw [q4]
  exact ⟨⟨_,p5,rfl⟩,h _ p5 p3 p4 (show Heap.IsTupleIter _ _ _ _ from ⟨_,p1,rfl,rfl⟩) (show Heap.IsTupleIter _ _ _ _ from ⟨_,p2,rfl,rfl⟩) fun c o x =>
   Heap.get?_push_of_some _ (Heap.get?_push_of_some _ (Heap.get?_push_of_some _ (Heap.get?_push_of_some _ (Heap.get?_push_of_some _ x))))⟩
end
def SqB (b:Bool) (K:PySem.W.Frag) (H:Hp) (a:Addr) (xs:List V):Prop:=if b = true then SqL K H a xs else SqT K H a xs
theorem Inv.sqB {X:Cx} {pins:List (Addr × Obj)} {σ:St} {H:Hp} {s:Shared} {b:Bool} {a:Addr} {xs:List V} (I:Inv X pins σ H s) (h:SqB b X.K H a xs):∃ its:List Value,Vals xs its∧IsSq b s.heap a its.toArray∧xs.length ≤ sizeLine:=by
 cases b with
 | true =>
  obtain ⟨its,r,p,z⟩:=I.list (show SqL X.K H a xs from h)
  exact ⟨its,r,p.isList,z⟩
 | false =>
  obtain ⟨its,r,p,z⟩:=I.tuple (show SqT X.K H a xs from h)
  exact ⟨its,r,(show s.heap.IsTuple a its.toArray from p),z⟩
theorem Inv.sqB_inj {X:Cx} {pins:List (Addr × Obj)} {σ:St} {H:Hp} {s:Shared} {b:Bool} {a:Addr} {xs ys:List V} (I:Inv X pins σ H s) (h:SqB b X.K H a xs) (h':SqB b X.K H a ys):xs = ys:=by
 cases b with
 | true=>exact I.list_inj (show SqL X.K H a xs from h) (show SqL X.K H a ys from h')
 | false=>exact I.tuple_inj (show SqT X.K H a xs from h) (show SqT X.K H a ys from h')
def Itz (b:Bool) (K:PySem.W.Frag) (a c:Addr):It :=
  ⟨fun i H=>∃ xs ys x y,SqB b K H a xs∧SqB b K H c ys∧xs[i]? = some x∧ys[i]? = some y,
   fun i H v H'=>∃ t x y,H t = none∧v = .ref t∧H' = upd H t (.tup [x,y])∧(∀ xs,SqB b K H a xs→xs[i]? = some x)∧∀ ys,SqB b K H c ys→ys[i]? = some y,
   fun i H=>∃ xs ys,SqB b K H a xs∧SqB b K H c ys∧(xs.length ≤ i ∨ ys.length ≤ i)⟩
theorem jed {X:Cx} {pins:List (Addr × Obj)} {σ:St} {H:Hp} {s:Shared} {b:Bool} {a j:Addr} {xs:List V} (I:Inv X pins σ H s) (h:SqB b X.K H a xs) (f:FpOk X pins H j):a ≠ j:=by
 intro e
 subst e
 have key:∀ {o},X.K.lookup a = some o→False:=fun {o} q=>by
  have q1:=I.mod.kin a o q
  rcases f.2.2.2.1 with z | z
  ·exact I.ok.noex a o q1 z
  ·exact absurd (Nat.lt_of_lt_of_le (Heap.lt_size q1) (Nat.le_trans I.ok.bsz z)) (Nat.lt_irrefl _)
 cases b with
 | true =>
  rcases (show SqL X.K H a xs from h) with (h | ⟨o,h⟩) | ⟨o,its,n,hk,_⟩
  ·rw [f.1] at h; cases h
  ·rw [f.1] at h; cases h
  ·exact key hk
 | false =>
  rcases (show SqT X.K H a xs from h) with (h | ⟨o,h⟩) | ⟨o,its,n,hk,_⟩
  ·rw [f.1] at h; cases h
  ·rw [f.1] at h; cases h
  ·exact key hk
structure ZpA (z TI TO i1 i2:Addr):Prop where
 TIz:TI ≠ z
 TOz:TO ≠ z
 i1z:i1 ≠ z
 i2z:i2 ≠ z
 TITO:TI ≠ TO
 TIi1:TI ≠ i1
 TIi2:TI ≠ i2
 TOi1:TO ≠ i1
 TOi2:TO ≠ i2
 i12:i1 ≠ i2
theorem jr8 {P:Program} {w:World} {K:PySem.W.Frag} {elts:List Expr} {x1:Nat} {pos:Pos} (b:Bool) (a c z TI TO i1 i2:Addr) (D0:ZpA z TI TO i1 i2) :
  Turn P w K (.Tuple elts x1 pos) (Itz b K a c) [z,TI,TO,i1,i2] z (fun i h=>IsZip h z TI TO .none∧IsPair h TI (.ref i1) (.ref i2)∧(∃ u v,IsPair h TO u v)∧jco b h i1 a i∧jco b h i2 c i) where
 mem:=by simp
 obj:=fun i h st d hd=>by
  obtain ⟨hz,hTI,⟨u,v,hTO⟩,h1,h2⟩:=st
  have q:d = z ∨ d = TI ∨ d = TO ∨ d = i1 ∨ d = i2:=by simpa using hd
  rcases q with rfl | rfl | rfl | rfl | rfl
  ·exact ⟨_,hz,fun v z=>by
    have z':Data.fields _ = Data.cell v:=z
    cases z'⟩
  ·exact ⟨_,hTI,fun v z=>by
    have z':Data.seq _ _ = Data.cell v:=z
    cases z'⟩
  ·exact ⟨_,hTO,fun v z=>by
    have z':Data.seq _ _ = Data.cell v:=z
    cases z'⟩
  ·exact h1.obj
  ·exact h2.obj
 keep:=fun i h h' st k=>by
  obtain ⟨hz,hTI,⟨u,v,hTO⟩,h1,h2⟩:=st
  exact ⟨k z (by simp) _ hz,k TI (by simp) _ hTI,⟨u,v,k TO (by simp) _ hTO⟩,h1.at' fun o e=>k i1 (by simp) o e,h2.at' fun o e=>k i2 (by simp) o e⟩
 item:=by
  intro X hP hw hK hc i pins s σ H E I hf st hg
  subst hP hw hK
  obtain ⟨hz,hTI,⟨u0,v0,hTO⟩,h1,h2⟩:=st
  obtain ⟨xs,ys,x,y,hq1,hq2,hx,hy⟩:=hg
  obtain ⟨its1,rv1,p1,hz1⟩:=I.sqB hq1
  obtain ⟨its2,rv2,p2,hz2⟩:=I.sqB hq2
  obtain ⟨u1,hu1,ru1⟩:=rv1.get hx
  obtain ⟨u2,hu2,ru2⟩:=rv2.get hy
  have D:ZipApart z TI TO i1 i2 a c:=⟨D0.TIz,D0.TOz,D0.i1z,D0.i2z,D0.TITO,D0.TIi1,D0.TIi2,D0.TOi1,D0.TOi2,D0.i12,
   jed I hq1 (hf z (by simp)),jed I hq1 (hf TO (by simp)),jed I hq1 (hf i1 (by simp)),jed I hq1 (hf i2 (by simp)),jed I hq2 (hf z (by simp)),jed I hq2 (hf TO (by simp)),jed I hq2 (hf i1 (by simp)),jed I hq2 (hf i2 (by simp))⟩
  have zlt:z < s.heap.objs.size:=Heap.lt_size hz
  have hT:s.TypeIs (.ref z) "zip":=⟨_,hz,rfl⟩
  unfold pyNext
  refine wpAny_bind (wpAny_attempt (wpAny_callSpecial?_slot (name:=Str.ofString "__next__") hT F.slot_zip_next (wpAny_call_entry F.slot_zip_next hT F.entry_zip_next
   (jjj (b:=b) D hz hTI hTO h1 h2 p1 p2 (x:=u1) (y:=u2) (by simpa using hu1) (by simpa using hu2) fun h' a1 a2 a3 a4 a5 a7=>wpAny_pure ?_) (F.args_zip_next_1 _))))
  refine ⟨_,rfl,wpAny_letOwnedTupleGo_zip a1 fun g hz' hs'=>?_⟩
  replace hs':Heap.SameBut z h' g:=hs'
  have kk:∀ d ob,d ∉ [z,TI,TO,i1,i2]→s.heap.get? d = some ob→g.get? d = some ob:=fun d ob hd q=>by
   have hd':d ≠ z∧d ≠ TI∧d ≠ TO∧d ≠ i1∧d ≠ i2:=by simpa using hd
   exact hs'.extBut _ _ hd'.1 (a7 d ob hd'.1 hd'.2.2.1 hd'.2.2.2.1 hd'.2.2.2.2 q)
  have hT2:g.get? s.heap.objs.size = some { cls:=.type "tuple",data:=.seq #[u1,u2] }:=hs'.extBut _ _ (Nat.ne_of_gt zlt) a5
  refine ⟨.ref s.heap.objs.size,upd H s.heap.objs.size (.tup [x,y]),I.turnedNew (ch:=[z,TI,TO,i1,i2]) (t':=s.toks) (Nat.le_refl _) kk hf ?_,rfl,
   ⟨_,x,y,I.fresh,rfl,rfl,fun zs hq=>by rw [I.sqB_inj hq hq1]; exact hx,fun zs hq=>by rw [I.sqB_inj hq hq2]; exact hy⟩,
   ⟨hz',hs'.extBut _ _ D.TIz (a7 _ _ D.TIz D.TITO D.TIi1 D.TIi2 hTI),⟨_,_,hs'.extBut _ _ D.TOz a2⟩,a3.at' fun o e=>hs'.extBut _ _ D.i1z e,a4.at' fun o e=>hs'.extBut _ _ D.i2z e⟩,fun d hd=>?_⟩
  ·exact ⟨by show 2 ≤ sizeLine; decide,[u1,u2],.cons ru1 (.cons ru2 .nil),⟨_,hT2,rfl,_,rfl⟩⟩
  ·have dlt:d < s.heap.objs.size:=by
    have q:d = z ∨ d = TI ∨ d = TO ∨ d = i1 ∨ d = i2:=by simpa using hd
    rcases q with rfl | rfl | rfl | rfl | rfl
    ·exact zlt
    ·exact Heap.lt_size hTI
    ·exact Heap.lt_size hTO
    ·obtain ⟨o,e,_⟩:=h1.obj; exact Heap.lt_size e
    ·obtain ⟨o,e,_⟩:=h2.obj; exact Heap.lt_size e
   rw [jba (Nat.ne_of_lt dlt)]
   exact (hf d hd).1
 done:=by
  intro X hP hw hK hc i pins s σ H E I hf st hg
  subst hP hw hK
  obtain ⟨hz,hTI,⟨u0,v0,hTO⟩,h1,h2⟩:=st
  obtain ⟨xs,ys,hq1,hq2,hlen⟩:=hg
  obtain ⟨its1,rv1,p1,hz1⟩:=I.sqB hq1
  obtain ⟨its2,rv2,p2,hz2⟩:=I.sqB hq2
  have e1:=rv1.length
  have e2:=rv2.length
  have D:ZipApart z TI TO i1 i2 a c:=⟨D0.TIz,D0.TOz,D0.i1z,D0.i2z,D0.TITO,D0.TIi1,D0.TIi2,D0.TOi1,D0.TOi2,D0.i12,
   jed I hq1 (hf z (by simp)),jed I hq1 (hf TO (by simp)),jed I hq1 (hf i1 (by simp)),jed I hq1 (hf i2 (by simp)),jed I hq2 (hf z (by simp)),jed I hq2 (hf TO (by simp)),jed I hq2 (hf i1 (by simp)),jed I hq2 (hf i2 (by simp))⟩
  have hT:s.TypeIs (.ref z) "zip":=⟨_,hz,rfl⟩
  unfold pyNext
  refine wpAny_bind (wpAny_attempt (wpAny_callSpecial?_slot (name:=Str.ofString "__next__") hT F.slot_zip_next (wpAny_call_entry F.slot_zip_next hT F.entry_zip_next
   (jl3 (b:=b) (I.ok.hd hc) D hz hTI hTO h1 h2 p1 p2 (by rcases hlen with h | h; exact .inl (by simp; omega); exact .inr (by simp; omega)) fun h' e hk he=>?_) (F.args_zip_next_1 _))))
  obtain ⟨o,ho,hcl⟩:=he
  refine wpAny_bind (wpAny_isInstance (T:="StopIteration") (b:=true) ⟨o,ho,hcl⟩ isSubtype_stop ?_)
  exact wpAny_pure ⟨rfl,I.turnedAll (ch:=[z,TI,TO,i1,i2]) (t':=s.toks) (fun d ob hd q=>by
   have hd':d ≠ z∧d ≠ TI∧d ≠ TO∧d ≠ i1∧d ≠ i2:=by simpa using hd
   exact hk d ob hd'.1 hd'.2.2.1 hd'.2.2.2.1 hd'.2.2.2.2 q) hf⟩
 self:=fun _ _ _ _ _ st h=>wpAny_pyIter_zip st.1 h
theorem jl2 {X:Cx} {b:Bool} {elts:List Expr} {x1:Nat} {tpos:Pos} {pins:List (Addr × Obj)} {σ:St} {H1:Hp} {s1:Shared} {R:It→Hp→Prop} {a c:Addr} {xs ys:List V} (I1:Inv X pins σ H1 s1) (hq1:SqB b X.K H1 a xs) (hq2:SqB b X.K H1 c ys) (q:R (Itz b X.K a c) H1) :
  wpAny (model X.prog X.w) X.A (call (.type "zip") [.ref a,.ref c]) (fun v s2=>wpAny (model X.prog X.w) X.A (pyIter v) (PIE X pins σ (.Tuple elts x1 tpos) R) X.xe s2) X.xe s1:=by
 obtain ⟨its1,rv1,p1,hz1⟩:=I1.sqB hq1
 obtain ⟨its2,rv2,p2,hz2⟩:=I1.sqB hq2
 refine jv3 p1 p2 fun h' a1 a2 a3 a4 a5 hk=>?_
 refine wpAny_pyIter_zip a1 ?_
 have I2:Inv X pins σ H1 { s1 with heap:=h' }:=I1.kept (t':=s1.toks) fun b o q=>hk b o q
 have ne:∀ i j:Nat,i ≠ j→s1.heap.objs.size + i ≠ s1.heap.objs.size + j:=fun i j h e=>h (Nat.add_left_cancel e)
 refine ⟨_,[s1.heap.objs.size + 4,s1.heap.objs.size + 2,s1.heap.objs.size + 3,s1.heap.objs.size,s1.heap.objs.size + 1],_,_,H1,rfl,I2,jr8 b a c _ _ _ _ _ ⟨ne 2 4 (by decide),ne 3 4 (by decide),ne 0 4 (by decide),ne 1 4 (by decide),ne 2 3 (by decide),ne 2 0 (by decide),ne 2 1 (by decide),ne 3 0 (by decide),ne 3 1 (by decide),ne 0 1 (by decide)⟩,
  ⟨a1,a2,⟨_,_,a3⟩,a4,a5⟩,fun d hd=>?_,q⟩
 have hd':d = s1.heap.objs.size + 4 ∨ d = s1.heap.objs.size + 2 ∨ d = s1.heap.objs.size + 3 ∨ d = s1.heap.objs.size ∨ d = s1.heap.objs.size + 1:=by simpa using hd
 have hle:s1.heap.objs.size ≤ d:=by
  rcases hd' with e | e | e | e | e <;> rw [e]
  ·exact Nat.le_add_right _ _
  ·exact Nat.le_add_right _ _
  ·exact Nat.le_add_right _ _
  ·exact Nat.le_refl _
  ·exact Nat.le_add_right _ _
 exact I1.fpOk hle (I1.hok.fresh hle)
def js6 (K:PySem.W.Frag) (ta:TA):TI:=fun σ H R=>ta σ H fun vs H1=>∃ (b:Bool) (a c:Addr),vs = [.ref a,.ref c]∧(∃ xs,SqB b K H1 a xs)∧(∃ ys,SqB b K H1 c ys)∧R (Itz b K a c) H1
theorem jla {X:Cx} {elts:List Expr} {x1:Nat} {tpos:Pos} {a c:Expr} {ta:TA} {p pos:Pos} (hg:Gl X "zip") (hm:X.mg "zip" = none) (ha:PA X [a,c] ta) (hs:starEach [a,c] X.env = [(false,eval a X.env),(false,eval c X.env)]:=by rfl) (hs2:starEach [c] X.env = [(false,eval c X.env)]:=by rfl) :
  PI X (.Tuple elts x1 tpos) (.Call (.Name "zip" p) [a,c] [] pos) (js6 X.K ta):=by
 intro pins s σ H R I h
 refine Call_ (jfr I hg hm boot_zip (PyProof.Rows.callWith_type1 (thn (ha pos pins s σ H _ I h) fun us s1 ⟨vs,H1,I1,r1,q1⟩=>?_) (by rw [hs,hs2]) (by rw [hs2]; rfl)))
 obtain ⟨b,a,c,e,⟨xs,hq1⟩,⟨ys,hq2⟩,q⟩:=q1
 subst e
 cases r1 with
 | cons r rr =>
  cases rr with
  | cons r' rr =>
   cases rr
   cases r
   cases r'
   exact jl2 I1 hq1 hq2 q
end L2
namespace L2
open PySem PySem.Spec PyProof.Rows
theorem jkg:typeLookup (.type "list") "keys" = pure none:=by rw [typeLookup_type,builtinLookup_eq_fast]; kernel_rfl
theorem jh1:typeLookup (.type "list") "__getattr__" = pure none:=by rw [typeLookup_type,builtinLookup_eq_fast]; kernel_rfl
theorem ji9:isSubtype (.type "AttributeError") (.type "AttributeError") = pure true:=by rw [isSubtype_type]; kernel_rfl
section
variable {prog:Program} {w:World} {A:Around} {E:Value→Shared→Prop} {h:Heap} {g:Array GenState} {d:Drawn} {t:Nat} {os:OsState} {a:Addr} {o:Obj}
theorem jnd {α:Type} {Q:α→Shared→Prop} {u:Value} {x msg:Str} (hh:A.handled = none) (hm:msg.length ≤ sizeLine)
  (hE:∀ h' e tk,(∀ b o,h.get? b = some o→h'.get? b = some o)→(∃ o,h'.get? e = some o∧o.cls = .type "AttributeError")→E (.ref e) ⟨h',g,d,tk,os⟩) :
  wpAny (model prog w) A (raiseAttrError u x msg:Sem α) Q E ⟨h,g,d,t,os⟩:=by
 unfold raiseAttrError
 refine wpAny_bind (wpAny_mkStr ?_ hm)
 simp only [newExc,newTuple]
 refine wpAny_bind (wpAny_bind (wpAny_newObj_type ?_ (by size_fits)))
 refine wpAny_bind (m:=firstArgMember _ _) (wpAny_of_eq (a:=Value.none) (by first | rfl | (simp only [firstArgMember]; rfl)) ?_)
 refine wpAny_newObj_type ?_ (by size_fits)
 refine wpAny_bind (wpAny_mkText ?_)
 dsimp only
 refine wpAny_bind ?_
 unfold noteAttr
 generalize hh1:h.push { cls:=.type "tuple",data:=.seq #[.str msg t] } = h1
 have k1:∀ b o,h.get? b = some o→h1.get? b = some o:=fun b o q=>by rw [← hh1]; exact Heap.get?_push_of_some _ q
 have hg:(h1.push { cls:=.type "AttributeError",data:=.fields #[.ref h.objs.size,.none,.none,.none,.bool false,.none,unsetMember,unsetMember] }).get? h1.objs.size = some _:=Heap.get?_push_size _ rfl
 have k2:∀ b o,h.get? b = some o→(h1.push { cls:=.type "AttributeError",data:=.fields #[.ref h.objs.size,.none,.none,.none,.bool false,.none,unsetMember,unsetMember] }).get? b = some o:=fun b o q=>Heap.get?_push_of_some _ (k1 b o q)
 have nb:∀ b o,h.get? b = some o→b ≠ h1.objs.size:=fun b o q=>Nat.ne_of_lt (Heap.lt_size (k1 b o q))
 show wpAny _ _ (lacksNameAndObj (.ref h1.objs.size) >>= _) _ _ ⟨h1.push { cls:=.type "AttributeError",data:=.fields #[.ref h.objs.size,.none,.none,.none,.bool false,.none,unsetMember,unsetMember] },g,d,t + 1 + 1,os⟩
 generalize hh2:h1.push { cls:=.type "AttributeError",data:=.fields #[.ref h.objs.size,.none,.none,.none,.bool false,.none,unsetMember,unsetMember] } = h2 at hg k2
 generalize h1.objs.size = e at hg nb
 clear hh2 k1 hh1
 have hT:(⟨h2,g,d,t + 1 + 1,os⟩:Shared).TypeIs (.ref e) "AttributeError":=⟨_,hg,rfl⟩
 refine wpAny_bind ?_
 unfold lacksNameAndObj
 refine wpAny_bind (wpAny_isInstance hT ji9 ?_)
 simp only [Bool.not_true,Bool.false_eq_true,if_false]
 refine wpAny_bind (wpAny_load hg ?_)
 show wpAny _ _ (pure true) _ _ _
 refine wpAny_pure ?_
 simp only [if_true]
 refine wpAny_bind (wpAny_rule (wpAny_bind (wpAny_typeOf hT ?_)))
 show wpAny _ _ (layMembers e 6 #[_,u]) _ _ _
 unfold layMembers
 refine wpAny_bind (wpAny_load hg ?_)
 show wpAny _ _ (update e _) _ _ _
 refine wpAny_update hg ?_
 refine wpAny_raiseNew_none hh (hE _ _ _ (fun b o q=>?_) ⟨_,Heap.get?_update_self _ hg rfl,rfl⟩)
 exact (Heap.get?_update_other _ _ (nb b o q).symm).trans (k2 b o q)
theorem jkb {tk:Tok} {Q:PySem.Fin→Shared→Prop} {its:Array Value} {n:Nat} (hx:h.get? a = some { cls:=.type "list",dict:=none,data:=.seq its n,slots:=#[] }) (hh:A.handled = none)
  (hE:∀ h' e tk,(∀ b o,h.get? b = some o→h'.get? b = some o)→(∃ o,h'.get? e = some o∧o.cls = .type "AttributeError")→E (.ref e) ⟨h',g,d,tk,os⟩) :
  wpAny (model prog w) A (Builtin.«object.__getattribute__» ⟨[.ref a,.str "keys" tk],[]⟩) Q E ⟨h,g,d,t,os⟩:=by
 have hT:(⟨h,g,d,t,os⟩:Shared).TypeIs (.ref a) "list":=⟨_,hx,rfl⟩
 have f4:=jkg
 repeat (any_goals (first | assumption | wp_step))
 refine jnd hh (by decide +kernel) hE
theorem jpo {tk:Tok} {Q:Value→Shared→Prop} {its:Array Value} {n:Nat} (hx:h.get? a = some { cls:=.type "list",dict:=none,data:=.seq its n,slots:=#[] }) (hh:A.handled = none)
  (hE:∀ h' e tk,(∀ b o,h.get? b = some o→h'.get? b = some o)→(∃ o,h'.get? e = some o∧o.cls = .type "AttributeError")→E (.ref e) ⟨h',g,d,tk,os⟩) :
  wpAny (model prog w) A (getAttrBy (.ref a) (.str "keys" tk) false) Q E ⟨h,g,d,t,os⟩:=by
 have hT:(⟨h,g,d,t,os⟩:Shared).TypeIs (.ref a) "list":=⟨_,hx,rfl⟩
 have f2:=F.slot_list_getattribute.lookup
 have f3:=F.slot_list_getattribute.bind (.ref a)
 repeat (any_goals (first | assumption | wp_step))
 refine codeAny_call_builtin F.slot_list_getattribute.plain F.entry_list_ga (F.slot_list_getattribute.check _ _ _ _ _ _ _ _ (show (⟨h,g,d,t,os⟩:Shared).TypeIs (.ref a) "list" from ⟨_,hx,rfl⟩) (F.args_list_getattribute_2 _ _) (jkb hx ?_ ?_))
 ·exact hh
 ·intro h' e tk k q
  obtain ⟨oe,he,hc⟩:=q
  have hT2:(⟨h',g,d,tk,os⟩:Shared).TypeIs (.ref e) "AttributeError":=⟨_,he,hc⟩
  have f5:=ji9
  have f6:=jh1
  show wpAny _ A (getattributeRaised (Value.ref a) _ (Value.type "list") (.ref e) none false false) _ _ _
  have done:=hE h' e tk k ⟨oe,he,hc⟩
  unfold getattributeRaised
  repeat (any_goals (first | assumption | wp_step))
theorem jt7 {Q:Option Value→Shared→Prop} {its:Array Value} {n:Nat} (hx:h.get? a = some { cls:=.type "list",dict:=none,data:=.seq its n,slots:=#[] }) (hh:A.handled = none)
  (hq:∀ h' tk,(∀ b o,h.get? b = some o→h'.get? b = some o)→Q none ⟨h',g,d,tk,os⟩):wpAny (model prog w) A (getAttr? (.ref a) "keys") Q E ⟨h,g,d,t,os⟩:=by
 unfold getAttr? getAttrBy?
 refine wpAny_bind (wpAny_mkText (wpAny_bind (wpAny_attempt (jpo hx hh fun h' e tk k q=>?_))))
 obtain ⟨oe,he,hc⟩:=q
 refine wpAny_bind (wpAny_isInstance (T:="AttributeError") (b:=true) ⟨_,he,hc⟩ ji9 ?_)
 exact wpAny_pure (hq h' tk k)
end
end L2
namespace L2
open PySem PySem.Spec PyProof.Rows
theorem jc4:entryFor table "dict.update.loop" = some Builtin.«dict.update.loop»:=entryFor_of_fast (by kernel_rfl)
theorem jbm:plainId "dict.update.loop" = true:=by decide +kernel
theorem jnb {K:Type} [DecidableEq K] (kvs:List (K × Value)) (k:K) (v:Value):(stored kvs k v).length ≤ kvs.length + 1:=by
 unfold stored
 split
 ·rw [List.length_map]; omega
 ·rw [List.length_append]; exact Nat.le_refl _
section
variable {prog:Program} {w:World} {A:Around} {E:Value→Shared→Prop} {K:Type} [DecidableEq K] {knd:KeyKind prog w K} {R:Result→Shared→Prop}
theorem jql {d it l:Addr} {its:Array Value} {more:List (K × Value)} (hh:A.handled = none) (hlen:more.length = its.size) (hsz:its.size ≤ 1000) (hdl:l ≠ d) (hdi:it ≠ d) (hil:l ≠ it) :
  ∀ (k i:Nat) (tk0:Tok) (s:Shared) (kvs:List (K × Value)),its.size - i = k→i ≤ its.size→kvs.length ≤ i→s.heap.IsListIter it l i→s.heap.IsList l its→s.heap.DictOf knd d kvs →
   (∀ (j:Nat) (q:K × Value),more[j]? = some q→∃ t kv,its[j]? = some (.ref t)∧s.heap.IsTuple t #[kv,q.2]∧knd.is q.1 kv = true) →
   (∀ h' tk,h'.DictOf knd d (merged kvs (more.drop i))→(∀ b o,b ≠ d→b ≠ it→s.heap.get? b = some o→h'.get? b = some o)→R (.ok (.ret .none)) { s with heap:=h',toks:=tk }) →
   codeAny (model prog w) A (.builtin "dict.update.loop" ⟨[.ref d,.ref it,.int i tk0,.none],[]⟩) R s:=by
 intro k
 induction k with
 | zero =>
  intro i tk0 s kvs hk hi hkl hit hl hd hp hR
  have e:i = its.size:=by omega
  subst e
  refine codeAny_builtin jc4 ?_
  rw [Around.under_plainId jbm _]
  show wpAny _ A.in1 (pyNext (.ref it) >>= _) _ _ s
  refine wpAny_bind (wpAny_pyNext_list_end hh hit hl (by simp) fun h' eb=>?_)
  show wpAny _ A.in1 (Builtin.Dict.addKeywords d [] >>= _) _ _ _
  refine wpAny_bind (wpAny_pure (wpAny_pure ?_))
  refine hR h' s.toks ?_ fun b o _ hb q=>eb b o hb q
  rw [List.drop_eq_nil_of_le (by omega)]
  exact hd.extBut eb hdi.symm
 | succ k ih =>
  intro i tk0 s kvs hk hi hkl hit hl hd hp hR
  have hlt:i < its.size:=by omega
  have hlm:i < more.length:=by omega
  obtain ⟨t,kv,hu,ht,hkey⟩:=hp i more[i] (by simp [hlm])
  refine codeAny_builtin jc4 ?_
  rw [Around.under_plainId jbm _]
  show wpAny _ A.in1 (pyNext (.ref it) >>= _) _ _ s
  refine wpAny_bind (wpAny_pyNext_list_item hit hl hu fun h1 hit1 sb1=>?_)
  have nti:t ≠ it:=fun z=>by
   subst z
   obtain ⟨o,e1,c1,_⟩:=ht
   obtain ⟨o',e2,c2,_⟩:=hit
   rw [e1] at e2; cases e2; rw [c1] at c2; exact absurd c2 (by decide)
  have ntd:t ≠ d:=fun z=>by
   subst z
   obtain ⟨o,e1,c1,_⟩:=ht
   obtain ⟨o',_,_,e2,c2,_⟩:=hd
   rw [e1] at e2; cases e2; rw [c2.1] at c1; exact absurd c1 (by decide)
  have ht1:h1.IsTuple t #[kv,more[i].2]:=ht.extBut sb1.extBut nti
  have hd1:h1.DictOf knd d kvs:=hd.extBut sb1.extBut hdi.symm
  show wpAny _ A.in1 (holding [.ref t] _ >>= _) _ _ _
  refine wpAny_bind (wpAny_holding ?_)
  refine wpAny_bind (m:=(Builtin.Dict.pairItems (.ref t)).tryCatch _) ?_
  refine wpAny_tryCatch ?_
  unfold Builtin.Dict.pairItems
  refine wpAny_bind (wpAny_typeOf ht1.typeIs ?_)
  obtain ⟨ot,e1,c1,n1,d1⟩:=id ht1
  rw [if_pos (by decide)]
  refine wpAny_bind (wpAny_seqItems e1 d1 ?_)
  refine wpAny_pure ?_
  show wpAny _ A.in1 (holding [kv,more[i].2] (dictSet d kv more[i].2)) _ _ _
  refine wpAny_holding (wpAny_dictSet_pairs hkey hd1 (fun h2 hd2 sb2=>?_) (by have:=(by decide:1000 ≤ sizeLine); omega))
  replace sb2:Heap.SameBut d h1 h2:=sb2
  have kk:∀ b o,b ≠ d→b ≠ it→s.heap.get? b = some o→h2.get? b = some o:=fun b o b1 b2 q=>sb2.extBut b o b1 (sb1.extBut b o b2 q)
  refine wpAny_pure ⟨plainId_quiet jbm _,?_⟩
  have hik:((i:Int) + 1) = ((i + 1:Nat):Int):=by omega
  show codeAny _ _ (.builtin "dict.update.loop" ⟨[.ref d,.ref it,rawInt ((i:Int) + 1),.none],[]⟩) _ _
  rw [hik]
  refine ih (i + 1) 0 _ (stored kvs more[i].1 more[i].2) (by omega) (by omega) ?_ (hit1.extBut sb2.extBut hdi) ((hl.extBut sb1.extBut hil).extBut sb2.extBut hdl) hd2 ?_ ?_
  ·have:=jnb kvs more[i].1 more[i].2
   omega
  ·intro j q hq
   obtain ⟨t',kv',a1,a2,a3⟩:=hp j q hq
   have n1:t' ≠ it:=fun z=>by
    subst z
    obtain ⟨o,e1,c1,_⟩:=a2
    obtain ⟨o',e2,c2,_⟩:=hit
    rw [e1] at e2; cases e2; rw [c1] at c2; exact absurd c2 (by decide)
   have n2:t' ≠ d:=fun z=>by
    subst z
    obtain ⟨o,e1,c1,_⟩:=a2
    obtain ⟨o',_,_,e2,c2,_⟩:=hd
    rw [e1] at e2; cases e2; rw [c2.1] at c1; exact absurd c1 (by decide)
   exact ⟨t',kv',a1,(a2.extBut sb1.extBut n1).extBut sb2.extBut n2,a3⟩
  ·intro h' tk hd' k'
   refine hR h' tk ?_ fun b o b1 b2 q=>k' b o b1 b2 (kk b o b1 b2 q)
   rw [List.drop_eq_getElem_cons hlm]
   exact hd'
theorem jhm {l:Addr} {its:Array Value} {c:Nat} {more:List (K × Value)} {s:Shared} {Q:Value→Shared→Prop} (hh:A.handled = none) (hl:s.heap.get? l = some { cls:=.type "list",dict:=none,data:=.seq its c,slots:=#[] }) (hlen:more.length = its.size) (hsz:its.size ≤ 1000)
  (hp:∀ (j:Nat) (q:K × Value),more[j]? = some q→∃ t kv,its[j]? = some (.ref t)∧s.heap.IsTuple t #[kv,q.2]∧knd.is q.1 kv = true)
  (h:∀ h' tk,h'.DictOf knd s.heap.objs.size (merged [] more)→(∀ b o,s.heap.get? b = some o→h'.get? b = some o)→Q (.ref s.heap.objs.size) { s with heap:=h',toks:=tk }) :
  wpAny (model prog w) A (call (.type "dict") [.ref l]) Q E s:=by
 refine callType_codes (Q₁:=fun obj s₁=>obj = .ref s.heap.objs.size∧s₁ = { s with heap:=s.heap.push { cls:=.type "dict",data:=.dict #[] } }) F.kt_called_dict (F.kt_typeCall_dict_1 _) F.entry_dict_init (kt_code_dict_new _ ⟨rfl,rfl⟩) ?_
 rintro obj s₁ ⟨rfl,rfl⟩
 have hnew:(s.heap.push { cls:=.type "dict",data:=.dict #[] }).DictOf knd s.heap.objs.size []:=Heap.DictOf.new s.heap
 have hl1:(s.heap.push { cls:=.type "dict",data:=.dict #[] }).get? l = some { cls:=.type "list",dict:=none,data:=.seq its c,slots:=#[] }:=Heap.get?_push_of_some _ hl
 have k1:∀ b o,s.heap.get? b = some o→(s.heap.push { cls:=.type "dict",data:=.dict #[] }).get? b = some o:=fun b o q=>Heap.get?_push_of_some _ q
 have llt:l < s.heap.objs.size:=Heap.lt_size hl
 generalize s.heap.push { cls:=.type "dict",data:=.dict #[] } = h1 at hnew hl1 k1
 refine ⟨hnew.typeIs,F.args_dict_init_2 _ _,?_⟩
 unfold Builtin.«dict.__init__»
 refine wpAny_bind ?_
 unfold Builtin.Dict.selfAndRest
 refine wpAny_bind (wpAny_notOrdered_dict hnew.typeIs ?_)
 show wpAny _ _ (pure (s.heap.objs.size,[Value.ref l])) _ _ _
 refine wpAny_pure ?_
 show wpAny _ _ (Builtin.Dict.updateFrom "dict.__init__" s.heap.objs.size (.ref l) [] .none) _ _ _
 unfold Builtin.Dict.updateFrom
 refine wpAny_bind (wpAny_typeOf (T:="list") ⟨_,hl1,rfl⟩ ?_)
 rw [if_pos (by decide)]
 refine wpAny_bind (jt7 hl1 hh fun h2 tk2 k2=>?_)
 have hl2:=k2 _ _ hl1
 have hd2:h2.DictOf knd s.heap.objs.size []:=let ⟨o,es,ep,ho,r⟩:=hnew; ⟨o,es,ep,k2 _ _ ho,r⟩
 have dlt:s.heap.objs.size < h2.objs.size:=by obtain ⟨_,_,_,ho,_⟩:=hd2; exact Heap.lt_size ho
 simp only [Option.isNone_none,if_true]
 refine wpAny_bind (wpAny_rule ?_)
 have hL:Heap.IsList h2 l its:=⟨_,hl2,rfl,_,rfl⟩
 refine wpAny_bind (wpAny_pyIter_list (s:={ s with heap:=h2,toks:=tk2 }) hL ?_)
 refine wpAny_pure ⟨plainId_quiet jbm _,?_⟩
 have hit:(h2.push { cls:=.type "list_iterator",data:=.fields #[.ref l,.int 0 0] }).IsListIter h2.objs.size l 0:=⟨_,Heap.get?_push_size _ rfl,rfl,rfl⟩
 refine jql (A:=A.in1) (knd:=knd) (more:=more) hh hlen hsz (Nat.ne_of_lt llt) (Nat.ne_of_gt dlt) (Nat.ne_of_lt (Nat.lt_trans llt dlt)) its.size 0 0 { s with heap:=h2.push { cls:=.type "list_iterator",data:=.fields #[.ref l,.int 0 0] },toks:=tk2 } [] rfl (Nat.zero_le _) (Nat.le_refl _) hit (hL.push _) (hd2.push _) ?_ ?_
 ·intro j q hq
  obtain ⟨t,kv,a1,a2,a3⟩:=hp j q hq
  obtain ⟨o,e,r⟩:=a2
  exact ⟨t,kv,a1,⟨o,Heap.get?_push_of_some _ (k2 _ _ (k1 _ _ e)),r⟩,a3⟩
 ·intro h' tk hd' k'
  rw [List.drop_zero] at hd'
  refine ⟨rfl,h h' tk hd' fun b o q=>k' b o (Nat.ne_of_lt (Heap.lt_size q)) (Nat.ne_of_lt (Heap.lt_size (k2 _ _ (k1 _ _ q)))) (Heap.get?_push_of_some _ (k2 _ _ (k1 _ _ q)))⟩
end
def PairAt (H:Hp) (v:V) (p:Key × V):Prop:=∃ t,v = .ref t∧H t = some (.tup [kV p.1,p.2])
def rDictL (K:PySem.W.Frag):List V→Hp→VK→Prop:=fun vs H Q=>∃ l xs kvs,vs = [.ref l]∧H l = some (.lst xs)∧Paired (PairAt H) xs kvs∧xs.length ≤ 1000∧(kvs.map (·.1)).Nodup∧∀ d,H d = none→Q (.ref d) (upd H d (.dK kvs))
theorem jht {X:Cx} {pins:List (Addr × Obj)} {σ:St} {H:Hp} {s:Shared} (I:Inv X pins σ H s):∀ {xs:List V} {kvs:List (Key × V)} {its:List Value},Paired (PairAt H) xs kvs→Vals xs its →
  ∃ more:List (Key × Value),KV kvs more∧∀ (j:Nat) (q:Key × Value),more[j]? = some q→∃ t kv,its[j]? = some (.ref t)∧s.heap.IsTuple t #[kv,q.2]∧(jby X.prog X.w).is q.1 kv = true
 | _,_,_,.nil,.nil=>⟨[],.nil,fun j q h=>by simp at h⟩
 | _,_,_,.cons hp tp,.cons rv tr=>by
  obtain ⟨more,hk,hm⟩:=jht I tp tr
  obtain ⟨t,rfl,ht⟩:=hp
  cases rv
  obtain ⟨_,its',rt,hi⟩:=I.hok t _ ht
  obtain ⟨u1,u2,rfl,r1,r2⟩:=rt.two
  refine ⟨(_,u2) :: more,.cons ⟨rfl,r2⟩ hk,fun j q h=>?_⟩
  cases j with
  | zero =>
   simp at h
   subst h
   exact ⟨t,u1,rfl,hi,jj0 r1⟩
  | succ j =>
   obtain ⟨t',kv,a1,a2,a3⟩:=hm j q (by simpa using h)
   exact ⟨t',kv,by simpa using a1,a2,a3⟩
theorem jo2 {X:Cx} (hc:X.calm = true):jda X (.type "dict") (rDictL X.K):=by
 intro pins s σ H vs us Q I rv h
 obtain ⟨l,xs,kvs,rfl,hl,hp,hz,hn,q⟩:=h
 obtain ⟨u,rfl,ru⟩:=rv.one
 cases ru
 obtain ⟨z,its,n,r,hlen,e⟩:=I.lstM hl
 obtain ⟨more,hkv,hm⟩:=jht I hp r
 have hlm:kvs.length = more.length:=Paired.length hkv
 have hlx:xs.length = kvs.length:=Paired.length hp
 refine jhm (knd:=jby X.prog X.w) (more:=more) (I.ok.hd hc) e (by rw [List.size_toArray]; omega) (by rw [List.size_toArray]; omega) (fun j q hj=>?_) fun h' tk dd k=>?_
 ·obtain ⟨t,kv,a1,a2,a3⟩:=hm j q hj
  exact ⟨t,kv,by simpa using a1,a2,a3⟩
 ·refine ⟨.ref s.heap.objs.size,upd H s.heap.objs.size (.dK kvs),I.laid k (Nat.le_refl _) ?_,rfl,q _ I.fresh⟩
  rw [merged_nil_of_nodup more (by rw [← hkv.keys]; exact hn)] at dd
  exact jqk (by have:=(by decide:1000 ≤ sizeLine); omega) (by have:=I.big; exact beq_false_of_ne (Nat.ne_of_gt this)) hkv dd
end L2
namespace L2
open PySem PySem.Spec PyProof.Rows
def jt1 (f:List Bool→Bool):List V→Hp→VK→Prop:=fun vs H Q=>∃ l bs,vs = [.ref l]∧H l = some (.lst (bs.map V.bl))∧Q (.bl (f bs)) H
theorem jr1 {bs:List Bool} {tr:Nat→Bool} (h:∀ i b,bs[i]? = some b→tr i = b):(List.range bs.length).all tr = bs.all id:=by
 rw [Bool.eq_iff_iff,List.all_eq_true,List.all_eq_true]
 constructor
 ·intro q b hb
  obtain ⟨i,hi,e⟩:=List.mem_iff_getElem.mp hb
  have:=q i (List.mem_range.mpr hi)
  rw [h i b (by rw [List.getElem?_eq_getElem hi,e])] at this
  exact this
 ·intro q i hi
  have hi':=List.mem_range.mp hi
  rw [h i bs[i] (List.getElem?_eq_getElem hi')]
  exact q _ (List.getElem_mem hi')
theorem jo8:∀ {bs:List Bool} {us:List Value},Vals (bs.map V.bl) us→us = bs.map Value.bool
 | [],_,.nil=>rfl
 | b :: r,_,.cons q t=>by
  cases (show _ = Value.bool b from q)
  rw [jo8 t]
  rfl
theorem jsk {X:Cx} (hc:X.calm = true):jda X (.builtin "all") (jt1 fun bs=>bs.all id):=by
 intro pins s σ H vs us Q I rv h
 obtain ⟨l,bs,rfl,hl,q⟩:=h
 obtain ⟨u,rfl,ru⟩:=rv.one
 cases ru
 obtain ⟨z,its,n,r,hlen,e⟩:=I.lstM hl
 have e2:=jo8 r
 subst e2
 have llt:l < s.heap.objs.size:=Heap.lt_size e
 have hL:s.heap.IsList l (bs.map Value.bool).toArray:=⟨_,e,rfl,_,rfl⟩
 refine call_all_walk (wpAny_pyIter_list hL ⟨s.heap.objs.size,[s.heap.objs.size,l],[s.heap.objs.size],_,_,_,fun i=>bs[i]?.getD true,rfl,Walks.list (A:=X.A.in1) (show X.A.in1.handled = none from I.ok.hd hc) s.heap.objs.size l (Nat.ne_of_lt llt) (bs.map Value.bool).toArray,
  (show Heap.IsListIter _ _ _ _∧Heap.IsList _ _ _ from ⟨⟨_,Heap.get?_push_size _ rfl,rfl,rfl⟩,hL.push _⟩),fun i v s' Q' E' hv hq=>?_,fun h' tk k=>?_⟩)
 ·have hv':(bs.map Value.bool)[i]? = some v:=by simpa using hv
  rw [List.getElem?_map] at hv'
  cases eb:bs[i]? with
  | none=>rw [eb] at hv'; cases hv'
  | some b =>
   rw [eb] at hv'
   cases hv'
   have hq':Q' b s':=by dsimp only at hq; rw [eb] at hq; exact hq
   exact wpAny_pure hq'
 ·have ez:((bs.map Value.bool).toArray).size = bs.length:=by simp
  rw [ez,jr1 (bs:=bs) (tr:=fun i=>bs[i]?.getD true) (fun i b hb=>by rw [hb]; rfl)]
  refine ⟨.bl _,H,I.kept fun b o qq=>k b o ?_ (Heap.get?_push_of_some _ qq),rfl,q⟩
  intro hb
  have:b = s.heap.objs.size:=by simpa using hb
  subst this
  exact absurd (Heap.lt_size qq) (Nat.lt_irrefl _)
inductive Knd (H:Hp):V→String→Prop where
 | non:Knd H .non "NoneType"
 | bl {x:Bool}:Knd H (.bl x) "bool"
 | int {i:Int}:Knd H (.int i) "int"
 | str {x:Str}:Knd H (.str x) "str"
 | lst {a:Addr} {xs:List V} (e:H a = some (.lst xs)):Knd H (.ref a) "list"
 | tup {a:Addr} {xs:List V} (e:H a = some (.tup xs)):Knd H (.ref a) "tuple"
 | dK {a:Addr} {kvs:List (Key × V)} (e:H a = some (.dK kvs)):Knd H (.ref a) "dict"
theorem Knd.ty {K:PySem.W.Frag} {H:Hp} {v:V} {n:String} (h:Knd H v n):TyOf K H v (.type n):=by
 cases h with
 | non=>exact .non
 | bl=>exact .bl _
 | int=>exact .int _
 | str=>exact .str _
 | lst e=>exact .lst e
 | tup e=>exact .tup e
 | dK e=>exact .dK e
def isiK (a b:String):Bool:=a == b || (a == "bool" && b == "int")
def jiz:List String:=["NoneType","bool","int","str","list","tuple","dict"]
theorem jug {K:PySem.W.Frag}:∀ a ∈ jiz,∀ b ∈ jiz,PySem.W.kitOne K (.type a) (.type b) = some (isiK a b):=by
 intro a ha b hb
 have ha':a = "NoneType" ∨ a = "bool" ∨ a = "int" ∨ a = "str" ∨ a = "list" ∨ a = "tuple" ∨ a = "dict":=by simpa [jiz] using ha
 have hb':b = "NoneType" ∨ b = "bool" ∨ b = "int" ∨ b = "str" ∨ b = "list" ∨ b = "tuple" ∨ b = "dict":=by simpa [jiz] using hb
 rcases ha' with rfl | rfl | rfl | rfl | rfl | rfl | rfl <;> rcases hb' with rfl | rfl | rfl | rfl | rfl | rfl | rfl <;> rfl
def rIsi:List V→Hp→VK→Prop:=fun vs H Q=>∃ x n T,vs = [x,.ty T]∧Knd H x n∧T ∈ jiz∧Q (.bl (isiK n T)) H
theorem Knd.mem {H:Hp} {v:V} {n:String} (h:Knd H v n):n ∈ jiz:=by cases h <;> simp [jiz]
theorem jsj {X:Cx}:jda X (.builtin "isinstance") rIsi:=by
 intro pins s σ H vs us Q I rv h
 obtain ⟨x,n,T,rfl,hk,hT,q⟩:=h
 obtain ⟨u1,u2,rfl,r1,r2⟩:=rv.two
 cases (show u2 = Value.type T from r2)
 exact jq5 I r1 hk.ty (jug n hk.mem T hT) fun tk=>⟨.bl _,H,I.tok tk,rfl,q⟩
end L2
namespace L2
open PySem PySem.Spec PyProof.Rows
section
variable {X:Cx} {e a b c o i:Expr} {es:List Expr} {t t' ta tb tc td te:TE} {pos p p2:Pos}
theorem PE.imp (h:PE X e t) (hi:∀ σ H Q,t' σ H Q→t σ H Q):PE X e t':=fun pins s σ H Q I q=>h pins s σ H Q I (hi σ H Q q)
theorem PG.imp {t t':TG} (h:PG X e t) (hi:∀ v σ H Q,t' v σ H Q→t v σ H Q):PG X e t':=fun pins s σ H v u Q I r q=>h pins s σ H v u Q I r (hi v σ H Q q)
theorem PGs.imp {t t':TGs} (h:PGs X es t) (hi:∀ v σ H Q,t' v σ H Q→t v σ H Q):PGs X es t':=fun pins s σ H v u Q I r q=>h pins s σ H v u Q I r (hi v σ H Q q)
theorem OpR.imp {f:Value→Value→Sem Value} {r r':R2} (h:OpR X f r) (hi:∀ x y H Q,r' x y H Q→r x y H Q):OpR X f r':=fun pins s σ H x y v u Q I rx ry q=>h pins s σ H x y v u Q I rx ry (hi x y H Q q)
theorem jda.imp {f:Value} {r r':List V→Hp→VK→Prop} (h:jda X f r) (hi:∀ vs H Q,r' vs H Q→r vs H Q):jda X f r':=fun pins s σ H xs us Q I rv q=>h pins s σ H xs us Q I rv (hi xs H Q q)
theorem IxR.imp {r r':R2} (h:IxR X r) (hi:∀ x y H Q,r' x y H Q→r x y H Q):IxR X r':=fun value slice pins s σ H x y v u Q I rx ry q hs=>h value slice pins s σ H x y v u Q I rx ry (hi x y H Q q) hs
theorem MtR.imp {id:String} {r r':V→List V→Hp→VK→Prop} (h:MtR X id r) (hi:∀ x vs H Q,r' x vs H Q→r x vs H Q):MtR X id r':=fun pins s σ H x xs v us Q I rx rv q=>h pins s σ H x xs v us Q I rx rv (hi x xs H Q q)
theorem PSet.imp {t t':TSet} (h:PSet X t) (hi:∀ o i v H Q,t' o i v H Q→t o i v H Q):PSet X t':=fun pins s σ H o i v ov iv u Q I r1 r2 r3 q=>h pins s σ H o i v ov iv u Q I r1 r2 r3 (hi o i v H Q q)
theorem SlR.imp {r r':V→Option Int→Option Int→Hp→VK→Prop} (h:SlR X r) (hi:∀ x l u H Q,r' x l u H Q→r x l u H Q):SlR X r':=fun pins s σ H x v vl vu lo hi' sl Q I rx hs pl pu q=>h pins s σ H x v vl vu lo hi' sl Q I rx hs pl pu (hi x lo hi' H Q q)
def fVar (i:Nat):TE:=fun σ H Q=>match σ[i]? with
 | some (some v)=>Q v H
 | _=>False
theorem qv (i:Nat) {x:Str} {pos:Pos} (hN:X.N[i]? = some x:=by rfl) (hv:Vis X.env.scope x:=by first | exact Or.inl rfl | exact Or.inr (Or.inl rfl) | exact Or.inr (Or.inr rfl)) (hd:(x == ("__debug__":Str)) = false:=by decide)
  (hcd:(x == ("__classdict__":Str)) = false:=by decide):PE X (.Name x pos) (fVar i):=(jt3 hN hv hd hcd).imp fun σ H Q q=>by
 unfold fVar at q
 split at q
 ·rename_i v e; exact ⟨v,e,q⟩
 ·exact q.elim
def fI (g:Int→Int→V):R2:=fun x y H Q=>match x,y with
 | .int i,.int j=>Q (g i j) H
 | _,_=>False
def fIC (C:Int→Int→Prop) (g:Int→Int→V):R2:=fun x y H Q=>match x,y with
 | .int i,.int j=>C i j∧Q (g i j) H
 | _,_=>False
theorem fI.r {g:Int→Int→V} {x y:V} {H:Hp} {Q:VK} (h:fI g x y H Q):rI0 g x y H Q:=by
 unfold fI at h
 split at h
 ·exact ⟨_,_,rfl,rfl,h⟩
 ·exact h.elim
theorem fIC.r {C:Int→Int→Prop} {g:Int→Int→V} {x y:V} {H:Hp} {Q:VK} (h:fIC C g x y H Q):rI C g x y H Q:=by
 unfold fIC at h
 split at h
 ·exact ⟨_,_,rfl,rfl,h.1,h.2⟩
 ·exact h.elim
theorem jcz:OpR X (binaryOp .Add) (fI fun i j=>.int (i + j)):=op_add.imp fun _ _ _ _=>fI.r
theorem jrh:OpR X (binaryOp .Sub) (fI fun i j=>.int (i - j)):=op_sub.imp fun _ _ _ _=>fI.r
theorem jgj:OpR X (binaryOp .Mult) (fIC CMul fun i j=>.int (i * j)):=op_mul.imp fun _ _ _ _=>fIC.r
theorem jl7:OpR X (binaryOp .Mod) (fIC (fun _ j=>0 < j) fun i j=>.int (i % j)):=op_mod.imp fun _ _ _ _=>fIC.r
theorem jt2:OpR X (binaryOp .FloorDiv) (fIC CDiv fun i j=>.int (i / j)):=ju6.imp fun _ _ _ _=>fIC.r
theorem jtt:OpR X (binaryOp .Pow) (fIC CPow fun i j=>.int (i ^ j.toNat)):=op_pow.imp fun _ _ _ _=>fIC.r
theorem q_lt:OpR X (compareOp .Lt) (fI fun i j=>.bl (decide (i < j))):=op_lt.imp fun _ _ _ _=>fI.r
theorem q_le:OpR X (compareOp .LtE) (fI fun i j=>.bl (decide (i ≤ j))):=op_le.imp fun _ _ _ _=>fI.r
theorem q_gt:OpR X (compareOp .Gt) (fI fun i j=>.bl (decide (i > j))):=op_gt.imp fun _ _ _ _=>fI.r
theorem q_ge:OpR X (compareOp .GtE) (fI fun i j=>.bl (decide (i ≥ j))):=op_ge.imp fun _ _ _ _=>fI.r
theorem jp5:PIp X .Add (fI fun i j=>.int (i + j)):=fun pins s σ H x y v u Q I rx ry q=>jum pins s σ H x y v u Q I rx ry q.r
def fNeg:V→Hp→VK→Prop:=fun x H Q=>match x with
 | .int i=>Q (.int (-i)) H
 | _=>False
theorem jne:UnR X (unaryOp .USub) fNeg:=fun pins s σ H x v Q I rx q=>by
 cases x <;> first
  | exact False.elim q
  | exact un_neg pins s σ H _ v Q I rx ⟨_,rfl,q⟩
def fEq:R2:=fun x y H Q=>match x,y with
 | .int i,.int j=>Q (.bl (decide (i = j))) H
 | .bl i,.bl j=>Q (.bl (decide (i = j))) H
 | .str i,.str j=>Q (.bl (decide (i = j))) H
 | _,_=>False
def fNe:R2:=fun x y H Q=>match x,y with
 | .int i,.int j=>Q (.bl (!decide (i = j))) H
 | .bl i,.bl j=>Q (.bl (!decide (i = j))) H
 | .str i,.str j=>Q (.bl (!decide (i = j))) H
 | _,_=>False
theorem dI (i j:Int):decide (V.int i = V.int j) = decide (i = j):=by simp
theorem dB (i j:Bool):decide (V.bl i = V.bl j) = decide (i = j):=by simp
theorem dS (i j:Str):decide (V.str i = V.str j) = decide (i = j):=by simp
theorem q_eq:OpR X (compareOp .Eq) fEq:=op_eq.imp fun x y H Q h=>by
 unfold fEq at h
 split at h
 ·exact ⟨rfl,by rw [dI]; exact h⟩
 ·exact ⟨rfl,by rw [dB]; exact h⟩
 ·exact ⟨rfl,by rw [dS]; exact h⟩
 ·exact h.elim
theorem q_ne:OpR X (compareOp .NotEq) fNe:=op_ne.imp fun x y H Q h=>by
 unfold fNe at h
 split at h
 ·exact ⟨rfl,by rw [dI]; exact h⟩
 ·exact ⟨rfl,by rw [dB]; exact h⟩
 ·exact ⟨rfl,by rw [dS]; exact h⟩
 ·exact h.elim
def jam:V→Bool
 | .non=>true
 | _=>false
def fIsN (f:Bool→Bool):R2:=fun x y H Q=>match y with
 | .non=>Q (.bl (f (jam x))) H
 | _=>False
theorem dN (x:V):decide (x = V.non) = jam x:=by cases x <;> simp [jam]
theorem q_notN:OpR X (compareOp .IsNot) (fIsN not):=ju5.imp fun x y H Q h=>by
 unfold fIsN at h
 split at h
 ·exact ⟨rfl,by rw [dN]; exact h⟩
 ·exact h.elim
def fAnd (ta tb:TE):TE:=fun σ H Q=>ta σ H fun x H1=>match x with
 | .bl c=>if c = true then tb σ H1 Q else Q (.bl false) H1
 | _=>False
def fOr (ta tb:TE):TE:=fun σ H Q=>ta σ H fun x H1=>match x with
 | .bl c=>if c = true then Q (.bl true) H1 else tb σ H1 Q
 | _=>False
def fNot (ta:TE):TE:=fun σ H Q=>ta σ H fun x H1=>match x with
 | .bl c=>Q (.bl (!c)) H1
 | _=>False
def fB (t:TE):TT:=fun σ H Q=>t σ H fun x H1=>match x with
 | .bl c=>Q c H1
 | _=>False
variable {rest:List Expr}
theorem jes (ha:PE X a ta) (hb:PE X (.BoolOp .And (b :: rest) pos) tb):PE X (.BoolOp .And (a :: b :: rest) pos) (fAnd ta tb):=by
  intro pins s σ H Q I h
  refine BoolOp_and (thn (ha pins s σ H _ I h) fun v s1 ⟨x,H1,I1,r1,q1⟩=>?_)
  cases x <;> first
    | exact False.elim q1
    | (rename_i c
       cases r1
       refine wpAny_truthy_bool ?_
       cases c with
       | true=>exact hb pins s1 σ H1 Q I1 q1
       | false=>exact ⟨.bl false,H1,I1,rfl,q1⟩)
theorem q_not (ha:PE X a ta):PE X (.UnaryOp .Not a pos) (fNot ta):=by
  intro pins s σ H Q I h
  refine UnaryOp_ (thn (ha pins s σ H _ I h) fun v s1 ⟨x,H1,I1,r1,q1⟩=>?_)
  cases x <;> first
    | exact False.elim q1
    | (rename_i c
       cases r1
       exact not_of (wpAny_truthy_bool ⟨.bl (!c),H1,I1,rfl,q1⟩))
theorem jd2 {t:TE} (h:PE X e t) (he:∀ whole,isTrue e X.env whole = (do let v ← whole; standAt e.pos; holding [v] (truthy v)):=by intro _; rfl):PT X e (fB t):=by
  intro pins s σ H Q I hw
  refine isTrue_plain (thn (h pins s σ H _ I hw) fun v s1 ⟨x,H1,I1,r1,q1⟩=>?_) (he _)
  cases x <;> first
    | exact False.elim q1
    | (cases r1
       exact wpAny_truthy_bool ⟨H1,I1,q1⟩)
theorem jck {op:CmpOp} {r:R2} (ho:OpR X (compareOp op) r) (ha:PE X a ta) (hb:PE X b tb) (hm:behindInMarks op b = false):PT X (.Compare a [op] [b] pos) (fB (tOp r ta tb)):=by
  intro pins s σ H Q I h
  refine wpAny_isTrue_Compare1 (thn (ha pins s σ H _ I h) fun v s1 ⟨x,H1,I1,r1,q1⟩=>thn (hb pins s1 σ H1 _ I1 q1) fun u s2 ⟨y,H2,I2,r2,q2⟩ =>
    thn (ho pins s2 σ H2 x y v u _ I2 r1 r2 q2) fun c s3 ⟨z,H3,I3,r3,q3⟩=>?_) hm
  cases z <;> first
    | exact False.elim q3
    | (cases r3
       exact wpAny_truthy_bool ⟨H3,I3,q3⟩)
theorem jtr {op:CmpOp} {t:TE} (h:PC X op a b t) (h1:behindInMarks op b = false:=by first | exact jiv _ (by decide) (by decide) | rfl):PT X (.Compare a [op] [b] pos) (fB t):=by
  intro pins s σ H Q I hw
  refine wpAny_isTrue_Compare1 (thn (h pins s σ H _ I hw) fun v s1 h1=>thn h1 fun u s2 h2=>thn h2 fun c s3 ⟨x,H1,I1,r1,q1⟩=>?_) h1
  cases x <;> first
    | exact False.elim q1
    | (cases r1
       exact wpAny_truthy_bool ⟨H1,I1,q1⟩)
def ja8 (r r':R2) (ta tb tc:TE):TE:=fun σ H Q=>ta σ H fun x H1=>tb σ H1 fun y H2=>r x y H2 fun z H3=>match z with
 | .bl k=>(if k = true then tc σ H3 fun w' H4=>r' y w' H4 Q else Q (.bl false) H3)
 | _=>False
theorem jp8 {op op':CmpOp} {g:Int→Int→Bool} {r':R2} (ho:OpR X (compareOp op) (fI fun i j=>.bl (g i j))) (ho':OpR X (compareOp op') r') (ha:PE X a ta) (hb:PE X b tb) (hc:PE X c tc)
  (hm:lastMarks [op,op'] [b,c] = false:=by with_unfolding_all rfl):PE X (.Compare a [op,op'] [b,c] pos) (ja8 (fI fun i j=>.bl (g i j)) r' ta tb tc):=by
 intro pins s σ H Q I h
 refine Compare_chain (thn (ha pins s σ H _ I h) fun v s1 ⟨x,H1,I1,r1,q1⟩=>chain_link (thn (hb pins s1 σ H1 _ I1 q1) fun u s2 ⟨y,H2,I2,r2,q2⟩ =>
  thn (ho pins s2 σ H2 x y v u (fun z H3=>∃ k,z = .bl k∧(if k = true then tc σ H3 fun w' H4=>r' y w' H4 Q else Q (.bl false) H3)) I2 r1 r2 ?_) fun d s3 ⟨z,H3,I3,r3,k,e,q3⟩=>?_)) hm
 ·dsimp only at q2
  unfold fI at q2 ⊢
  cases x <;> cases y <;> first
   | exact q2.elim
   | exact ⟨_,rfl,q2⟩
 ·subst e
  cases r3
  refine wpAny_truthy_bool ?_
  cases k with
  | false=>exact ite_ff ⟨.bl false,H3,I3,rfl,q3⟩
  | true=>exact ite_tt (chain_last (thn (hc pins s3 σ H3 _ I3 q3) fun w' s4 ⟨z',H4,I4,r4,q4⟩=>ho' pins s4 σ H4 y z' u w' Q I4 r2 r4 q4))
def jbl (H:Hp) (p:Addr):Option (List V):=match H p with
 | some (.lst xs)=>some xs
 | some (.tup xs)=>some xs
 | some (.frz _ (.lst xs))=>some xs
 | _=>none
theorem jif {K:PySem.W.Frag} {H:Hp} {p:Addr} {xs:List V} (h:jbl H p = some xs):SqL K H p xs ∨ SqT K H p xs:=by
 unfold jbl at h
 split at h
 ·rename_i ys e; cases h; exact .inl (.inl (.inl e))
 ·rename_i ys e; cases h; exact .inr (SqT.of e)
 ·rename_i o ys e; cases h; exact .inl (.inl (.inr ⟨_,e⟩))
 ·cases h
def fIx:R2:=fun x y H Q=>match x,y with
 | .ref p,.int i=>match jbl H p with
  | some xs=>match atI xs i with
   | some v=>Q v H
   | none=>False
  | none=>False
 | _,_=>False
theorem q_ix:IxR X fIx:=(jq3.or ix_tup).imp fun x y H Q h=>by
 unfold fIx at h
 split at h
 ·split at h
  ·rename_i xs e
   split at h
   ·rename_i v ev
    rcases jif (K:=X.K) e with z | z
    ·exact .inl ⟨_,_,_,_,rfl,rfl,z,ev,h⟩
    ·exact .inr ⟨_,_,_,_,rfl,rfl,z,ev,h⟩
   ·exact h.elim
  ·exact h.elim
 ·exact h.elim
def fLen:List V→Hp→VK→Prop:=fun vs H Q=>match vs with
 | [.ref p]=>match jbl H p with
  | some xs=>Q (.int xs.length) H
  | none=>False
 | _=>False
theorem jdv:jda X (.builtin "len") fLen:=je2.imp fun vs H Q h=>by
 unfold fLen at h
 split at h
 ·split at h
  ·rename_i xs e; exact ⟨_,xs,rfl,jif e,h⟩
  ·exact h.elim
 ·exact h.elim
def ja1:List V→Hp→VK→Prop:=fun vs H Q=>match vs with
 | [.ref p]=>match jbl H p with
  | some xs=>∀ l,H l = none→Q (.ref l) (upd H l (.lst xs))
  | none=>False
 | _=>False
theorem jij:jda X (.type "list") ja1:=jkt.imp fun vs H Q h=>by
 unfold ja1 at h
 split at h
 ·split at h
  ·rename_i xs e; exact ⟨_,xs,rfl,jif e,h⟩
  ·exact h.elim
 ·exact h.elim
def fMin:List V→Hp→VK→Prop:=fun vs H Q=>match vs with
 | [.int i,.int j]=>Q (.int (if j < i then j else i)) H
 | _=>False
theorem q_min (hc:X.calm = true):jda X (.builtin "min") fMin:=(jqx hc).imp fun vs H Q h=>by
 unfold fMin at h
 split at h
 ·exact ⟨_,_,rfl,h⟩
 ·exact h.elim
def fSlL:V→Option Int→Option Int→Hp→VK→Prop:=fun x lo hi H Q=>match x with
 | .ref a=>match H a with
  | some (.lst xs)=>∀ p,H p = none→Q (.ref p) (upd H p (.lst (cutV xs lo hi)))
  | _=>False
 | _=>False
theorem q_slL:SlR X fSlL:=jto.imp fun x l u H Q h=>by
 unfold fSlL at h
 split at h
 ·split at h
  ·rename_i xs e; exact ⟨_,xs,rfl,SqL.of e,h⟩
  ·exact h.elim
 ·exact h.elim
def ja2:V→List V→Hp→VK→Prop:=fun x vs H Q=>match x,vs with
 | .ref l,[y]=>match H l with
  | some (.lst xs)=>xs.length < sizeLine∧Q .non (upd H l (.lst (xs ++ [y])))
  | _=>False
 | _,_=>False
theorem jcu:MtR X "list.append" ja2:=MtR.imp (r:=jp4) (fun pins s σ H x xs v us Q I rx rv q=>jkd pins s σ H x xs v us Q I rx rv q) fun x vs H Q h=>by
 unfold ja2 at h
 split at h
 ·split at h
  ·rename_i xs e; exact ⟨_,xs,_,rfl,rfl,e,h.1,h.2⟩
  ·exact h.elim
 ·exact h.elim
def fBM (r:V→List V→Hp→VK→Prop) (to:TE) (t:TA):TE:=fun σ H Q=>to σ H fun x H1=>(∃ a xs,x = .ref a∧H1 a = some (.lst xs))∧t σ H1 fun xs H2=>r x xs H2 Q
def jap:TSet:=fun o i v H Q=>match o,i with
 | .ref p,.int k=>match H p with
  | some (.lst xs)=>match ixN xs.length k with
   | some j=>Q (upd H p (.lst (xs.set j v)))
   | none=>False
  | _=>False
 | _,_=>False
theorem jgi:PSet X jap:=jrb.imp fun o i v H Q h=>by
 unfold jap at h
 split at h
 ·split at h
  ·rename_i xs e
   split at h
   ·rename_i j ej; exact ⟨_,xs,_,j,rfl,rfl,e,ej,h⟩
   ·exact h.elim
  ·exact h.elim
 ·exact h.elim
def jar:TGs:=fun vs σ H Q=>match vs with
 | []=>Q σ H
 | _=>False
def ja6 (t:TG) (u:TGs):TGs:=fun vs σ H Q=>match vs with
 | v :: r=>t v σ H fun σ' H'=>u r σ' H' Q
 | []=>False
theorem jc9:PGs X [] jar:=ju1.imp fun v σ H Q h=>by
 unfold jar at h
 split at h
 ·exact ⟨rfl,h⟩
 ·exact h.elim
theorem jbg {t:TG} {u:TGs} (h1:PG X e t) (h2:PGs X es u) (hs:(assignEach (e :: es) X.env).map (·.2) = assign e X.env :: (assignEach es X.env).map (·.2):=by rfl):PGs X (e :: es) (ja6 t u):=(jrq h1 h2 hs).imp fun v σ H Q h=>by
 unfold ja6 at h
 split at h
 ·exact ⟨_,_,rfl,h⟩
 ·exact h.elim
def jaq (n:Nat) (t:TGs):TG:=fun v σ H Q=>match v with
 | .ref a=>match H a with
  | some (.tup xs)=>xs.length = n∧t xs σ H Q
  | _=>False
 | _=>False
theorem jcl {k:Nat} {t:TGs} {n:Nat} (hc:X.calm = true) (h:PGs X es t) (hn:(assignEach es X.env).length = n:=by rfl) (hst:(assignEach es X.env).findIdx? (·.1) = none:=by rfl):PG X (.Tuple es k pos) (jaq n t) :=
 (pg_tup hc h hn hst).imp fun v σ H Q q=>by
  unfold jaq at q
  split at q
  ·split at q
   ·rename_i xs e; exact ⟨_,xs,rfl,SqT.of e,q.1,q.2⟩
   ·exact q.elim
  ·exact q.elim
def fDIn (f:Bool→Bool) (ty td:TE):TE:=fun σ H Q=>ty σ H fun y H1=>td σ H1 fun x H2=>match y,x with
 | .int n,.ref a=>match H2 a with
  | some (.dK kvs)=>Q (.bl (f (valV kvs (Sum.inl n:Key)).isSome)) H2
  | _=>False
 | _,_=>False
def jay (td ty:TE):TE:=fun σ H Q=>td σ H fun x H1=>ty σ H1 fun y H2=>match x,y with
 | .ref a,.int n=>match H2 a with
  | some (.dK kvs)=>match valV kvs (Sum.inl n:Key) with
   | some v=>Q v H2
   | none=>False
  | _=>False
 | _,_=>False
end
section
variable {X:Cx} {o i:Expr} {td ty:TE} {pos:Pos}
theorem jte {f:Bool→Bool} {H2:Hp} {Q:VK} {y x:V} (h:(match y,x with
  | .int n,.ref a=>match H2 a with
    | some (.dK kvs)=>Q (.bl (f (valV kvs (Sum.inl n:Key)).isSome)) H2
    | _=>False
  | _,_=>False)):∃ a ov,x = .ref a∧DGet H2 a y ov∧Q (.bl (f ov.isSome)) H2:=by
  cases y <;> cases x <;> first
    | exact h.elim
    | (rename_i n a
       dsimp only at h
       split at h
       · rename_i kvs e; exact ⟨a,_,rfl,DGet.k (k:=Sum.inl n) e,h⟩
       · exact h.elim)
theorem jrk (hu:X.A.units + 1 < cLine) (hi:PE X i ty) (ho:PE X o td):PC X .In i o (fDIn id ty td):=by
 intro pins s σ H Q I h
 refine thn (hi pins s σ H _ I h) fun iv s1 ⟨y,H1,I1,ry,q1⟩=>thn (ho pins s1 σ H1 _ I1 q1) fun u s2 ⟨x,H2,I2,rx,q2⟩=>?_
 obtain ⟨a,ov,ex,g,q3⟩:=jte q2
 subst ex
 obtain rfl:u = Value.ref a:=rx
 exact d_in hu I2 g ry fun s' I3=>⟨.bl ov.isSome,H2,I3,rfl,q3⟩
theorem jrj (hu:X.A.units + 1 < cLine) (hi:PE X i ty) (ho:PE X o td):PC X .NotIn i o (fDIn not ty td):=by
 intro pins s σ H Q I h
 refine thn (hi pins s σ H _ I h) fun iv s1 ⟨y,H1,I1,ry,q1⟩=>thn (ho pins s1 σ H1 _ I1 q1) fun u s2 ⟨x,H2,I2,rx,q2⟩=>?_
 obtain ⟨a,ov,ex,g,q3⟩:=jte q2
 subst ex
 obtain rfl:u = Value.ref a:=rx
 exact jqq hu I2 g ry fun s' I3=>⟨.bl (!ov.isSome),H2,I3,rfl,q3⟩
theorem jdw (hu:X.A.units + 1 < cLine) (ho:PE X o td) (hi:PE X i ty) (hs:NoSl i):PE X (.Subscript o i pos) (jay td ty):=by
  intro pins s σ H Q I h
  refine jtn PySem.F.slot_dict_getitem.lookup hs (thn (ho pins s σ H _ I h) fun u s1 ⟨x,H1,I1,rx,q1⟩=>thn (hi pins s1 σ H1 _ I1 q1) fun iv s2 ⟨y,H2,I2,ry,q2⟩=>?_)
  cases x <;> cases y <;> first
    | exact False.elim q2
    | (dsimp only at q2
       split at q2
       · rename_i kvs e
         split at q2
         · rename_i v ev
           cases rx
           have g:∀ {a:Addr} {n:Int},H2 a = some (.dK kvs)→valV kvs (Sum.inl n:Key) = some v→DGet H2 a (.int n) (some v):=fun e1 e2=>e2 ▸ DGet.k (k:=Sum.inl _) e1
           have g:=g e ev
           exact ⟨jlq I2 g,jqr hu I2 g ry fun w' s3 I3 rw'=>⟨v,H2,I3,rw',q2⟩⟩
         · exact q2.elim
       · exact q2.elim)
theorem q_bm {e:Expr} {es:List Expr} {to:TE} {t:TA} {name:Str} {apos cpos:Pos} {id:String} {r:V→List V→Hp→VK→Prop} (pa:PlainAttrs "list") (slot:Slot "list" name id) (hty:typeOf (.builtin id) = pure (.type "method_descriptor")) (hm:MtR X id r) (ho:PE X o to) (ha:PA X (e :: es) t)
  (hbase:attributeBase o name X.env (eval o X.env) = eval o X.env:=by rfl)
  (hfew:((backTo cpos (starEach (e :: es) X.env)).all (fun x=>!x.1) && (backToKw cpos (keywordEach [] X.env)).all (fun x=>x.1.isSome)
   && decide ((e :: es).length + ([]:List Keyword).length + (if ([]:List Keyword).isEmpty then 0 else 1) < 30)) = true:=by rfl)
  (hline:(apos.endLine == cpos.line) = true:=by rfl) (hs:starEach (e :: es) X.env = (false,eval e X.env) :: starEach es X.env:=by rfl) (hplain:(backTo cpos (starEach es X.env)).any (·.1) = false:=by rfl) :
  PE X (.Call (.Attribute o name apos) (e :: es) [] cpos) (fBM r to t):=by
 intro pins s σ H Q I h
 refine wpAny_Call_method_late hbase hfew hline rfl (thn (ho pins s σ H _ I h) fun v s1 ⟨x,H1,I1,r1,⟨a,xs,ex,ea⟩,q1⟩=>?_)
 subst ex
 obtain ⟨h1,h2⟩:=tyV_is (T:="list") I1 r1 (.inl ⟨rfl,_,SqL.of ea⟩)
 refine ⟨"list",id,pa,slot,hty,h1,h2,?_⟩
 have hA:=ha cpos pins s1 σ H1 _ I1 q1
 rw [hs] at hA ⊢
 refine Calls.callWith_builtin (by show (false || (backTo cpos (starEach es X.env)).any (·.1)) = false; rw [hplain] <;> rfl) (Calls.evalArgs_plain ?_)
 exact thn hA fun us s2 ⟨vs,H2,I2,r2,q2⟩=>hm pins s2 σ H2 _ vs v us Q I2 r1 r2 q2
end
inductive Kd where
 | non | bl | int | str | lst | tup | dct
 deriving DecidableEq
def Kd.nm:Kd→String
 | .non=>"NoneType"
 | .bl=>"bool"
 | .int=>"int"
 | .str=>"str"
 | .lst=>"list"
 | .tup=>"tuple"
 | .dct=>"dict"
def kd (H:Hp) (v:V):Option Kd:=match v with
 | .non=>some .non
 | .bl _=>some .bl
 | .int _=>some .int
 | .str _=>some .str
 | .ref a=>match H a with
  | some (.lst _)=>some .lst
  | some (.tup _)=>some .tup
  | some (.dK _)=>some .dct
  | _=>none
 | _=>none
def isi (a b:Kd):Bool:=match a,b with
 | .bl,.int=>true
 | .non,.non=>true
 | .bl,.bl=>true
 | .int,.int=>true
 | .str,.str=>true
 | .lst,.lst=>true
 | .tup,.tup=>true
 | .dct,.dct=>true
 | _,_=>false
theorem kd_knd {H:Hp} {v:V} {k:Kd} (h:kd H v = some k):Knd H v k.nm:=by
 unfold kd at h
 split at h
 ·cases h; exact .non
 ·cases h; exact .bl
 ·cases h; exact .int
 ·cases h; exact .str
 ·split at h
  ·rename_i e; cases h; exact .lst e
  ·rename_i e; cases h; exact .tup e
  ·rename_i e; cases h; exact .dK e
  ·cases h
 ·cases h
theorem isi_K (a b:Kd):isiK a.nm b.nm = isi a b:=by cases a <;> cases b <;> rfl
theorem Kd.mem (b:Kd):b.nm ∈ jiz:=by cases b <;> simp [jiz,Kd.nm]
def fIsi (T:Kd):List V→Hp→VK→Prop:=fun vs H Q=>match vs with
 | [x,y]=>y = .ty T.nm∧match kd H x with
  | some k=>Q (.bl (isi k T)) H
  | none=>False
 | _=>False
theorem jk3 {X:Cx} (T:Kd):jda X (.builtin "isinstance") (fIsi T):=jsj.imp fun vs H Q h=>by
 unfold fIsi at h
 split at h
 ·obtain ⟨rfl,h⟩:=h
  split at h
  ·rename_i k e
   exact ⟨_,_,_,rfl,kd_knd e,Kd.mem T,by rw [isi_K]; exact h⟩
  ·exact h.elim
 ·exact h.elim
def fAug (i:Nat) (te:TE) (ti:TIp):TS:=fun D σ H=>match σ[i]? with
 | some (some x)=>te σ H fun y H1=>ti x y H1 fun z H2=>D.nx (σ.set i (some z)) H2
 | _=>False
theorem jmh {X:Cx} {pos:Pos} {i:Nat} {x:Str} {e:Expr} {te:TE} {op:Operator} {ti:TIp} {pos':Pos} (hN:X.N.Nodup) (hi:X.N[i]? = some x) (hx:Loc X.env.scope x) (he:PE X e te) (ho:PIp X op ti) (hf:X.fn x = true ∨ X.env.scope.names.lookup x = some .local:=by first | exact .inl rfl | exact .inr rfl | assumption) :
  PS X (.AugAssign (.Name x pos') op e pos) (fAug i te ti):=fun pins s σ H D I h=>ps_aug hN hi hx he ho hf pins s σ H D I (by
 unfold fAug at h
 split at h
 ·rename_i x e; exact ⟨x,e,h⟩
 ·exact h.elim)
def jaw (t:TE):TO:=fun σ H Q=>t σ H fun x H1=>match x with
 | .int i=>Q (some i) H1
 | _=>False
theorem jgh {X:Cx} {e:Expr} {te:TE} (h:PE X e te):PO X (some e) (jaw te):=by
  intro pins s σ H Q I hw
  rw [evalPart_some]
  refine thn (h pins s σ H _ I hw) fun u s1 ⟨x,H1,I1,r1,q1⟩=>?_
  cases x <;> first
    | exact False.elim q1
    | (obtain ⟨t,rfl⟩:=r1
       exact ⟨some _,H1,I1,.int _ t,q1⟩)
def ja5 (f:List Bool→Bool):List V→Hp→VK→Prop:=fun vs H Q=>match vs with
 | [.ref l]=>match H l with
  | some (.lst xs)=>∃ bs:List Bool,xs = bs.map V.bl∧Q (.bl (f bs)) H
  | _=>False
 | _=>False
theorem jsd {f:List Bool→Bool} {vs:List V} {H:Hp} {Q:VK} (h:ja5 f vs H Q):jt1 f vs H Q:=by
 unfold ja5 at h
 split at h
 ·split at h
  ·rename_i xs e
   obtain ⟨bs,rfl,h⟩:=h
   exact ⟨_,bs,rfl,e,h⟩
  ·exact h.elim
 ·exact h.elim
theorem jtw {X:Cx} (hc:X.calm = true):jda X (.builtin "all") (ja5 fun bs=>bs.all id):=(jsk hc).imp fun _ _ _=>jsd
def ja7:List V→Hp→VK→Prop:=fun vs H Q=>match vs with
 | [.ref l]=>match H l with
  | some (.lst xs)=>∃ kvs:List (Key × V),Paired (PairAt H) xs kvs∧xs.length ≤ 1000∧(kvs.map (·.1)).Nodup∧∀ d,H d = none→Q (.ref d) (upd H d (.dK kvs))
  | _=>False
 | _=>False
theorem jgk {X:Cx} (hc:X.calm = true):jda X (.type "dict") ja7:=(jo2 hc).imp fun vs H Q h=>by
 unfold ja7 at h
 split at h
 ·split at h
  ·rename_i xs e
   obtain ⟨kvs,h1,h2,h3,h4⟩:=h
   exact ⟨_,xs,kvs,rfl,e,h1,h2,h3,h4⟩
  ·exact h.elim
 ·exact h.elim
def fLtT:R2:=fun x y H Q=>match x,y with
 | .ref a,.ref b=>match H a,H b with
  | some (.tup [.int i,.int j]),some (.tup [.int k,.int l])=>Q (.bl (HT.lexLt [i,j] [k,l])) H
  | _,_=>False
 | _,_=>False
theorem q_ltT {X:Cx} (hu:X.A.units < cLine):OpR X (compareOp .Lt) fLtT:=(op_ltT hu).imp fun x y H Q h=>by
 unfold fLtT at h
 split at h
 ·split at h
  ·rename_i a b _ _ i j k l e1 e2
   exact ⟨a,b,[i,j],[k,l],rfl,rfl,SqT.of e1,SqT.of e2,h⟩
  ·exact h.elim
 ·exact h.elim
def capB (XN:List Str) (names:List (Str × NameKind)):List Str→List (Option Nat)→Bool
 | [],[]=>true
 | x :: N,none :: r=>capB XN names N r
 | x :: N,some j :: r=>(XN[j]? == some x) && (names.lookup x == some .free) && capB XN names N r
 | _,_=>false
theorem jls {XN:List Str} {names:List (Str × NameKind)}:∀ {N:List Str} {src:List (Option Nat)},capB XN names N src = true→src.length = N.length∧∀ (i j:Nat),src[i]? = some (some j)→XN[j]? = N[i]?∧(N[i]?).elim False (fun x=>names.lookup x = some .free)
 | [],[],_=>⟨rfl,fun i j e=>by simp at e⟩
 | x :: N,none :: r,h=>by
  obtain ⟨h1,h2⟩:=jls (N:=N) (src:=r) h
  refine ⟨by simp [h1],fun i j e=>?_⟩
  cases i with
  | zero=>simp at e
  | succ i=>exact h2 i j (by simpa using e)
 | x :: N,some k :: r,h=>by
  have h':((XN[k]? == some x) && (names.lookup x == some .free) && capB XN names N r) = true:=h
  rw [Bool.and_eq_true,Bool.and_eq_true] at h'
  obtain ⟨h1,h2⟩:=jls (N:=N) (src:=r) h'.2
  refine ⟨by simp [h1],fun i j e=>?_⟩
  cases i with
  | zero =>
   have e':k = j:=by simpa using e
   subst e'
   exact ⟨by simpa using h'.1.1,by simpa using h'.1.2⟩
  | succ i=>exact h2 i j (by simpa using e)
def jmr:List Str→Bool
 | []=>true
 | x :: r=>!(r.contains x) && jmr r
theorem jbd:∀ {l:List Str},jmr l = true→l.Nodup
 | [],_=>List.nodup_nil
 | x :: r,h=>by
  have h':(!(r.contains x) && jmr r) = true:=h
  rw [Bool.and_eq_true] at h'
  exact List.nodup_cons.mpr ⟨by simpa using h'.1,jbd h'.2⟩
def cpB (XN:List Str) (outer:List (Str × NameKind)) (scope:Scope) (N:List Str) (src:List (Option Nat)):Bool :=
 (scope.kind == .function) && scope.names.all (fun y=>y.2 != .cell) && scope.names.all (fun y=>y.2 != .local || scope.names.lookup y.1 == some .local) &&
  scope.names.all (fun y=>y.2 != .free || (scope.names.lookup y.1 == some .free && outer.lookup y.1 == some .cell)) && jmr N && capB XN scope.names N src
theorem CpScope.of {X:Cx} {scope:Scope} {N:List Str} {src:List (Option Nat)} (h:cpB X.N X.env.scope.names scope N src = true):CpScope X scope N src:=by
 unfold cpB at h
 simp only [Bool.and_eq_true] at h
 obtain ⟨⟨⟨⟨⟨h1,h2⟩,h3⟩,h4⟩,h5⟩,h6⟩:=h
 rw [List.all_eq_true] at h2 h3 h4
 obtain ⟨l,c⟩:=jls h6
 refine ⟨by simpa using h1,fun y hy=>by simpa using h2 y hy,fun y hy e=>?_,fun y hy e=>?_,jbd h5,l,c⟩
 ·have:=h3 y hy
  rw [e] at this
  simpa using this
 ·have:=h4 y hy
  rw [e] at this
  simpa using this
end L2
namespace L2
open PySem PySem.Spec PyProof.Rows
theorem jj8 {K:PySem.W.Frag} {a:Addr} {xs:List V} {g:TG} {tb:TS} {D:Ends} {σ:St} {H:Hp} (Pv:Nat→St→Hp→Prop) (h0:Pv 0 σ H) (hl:∀ i σ H,i ≤ xs.length→Pv i σ H→SqL K H a xs)
  (hs:∀ i x σ H t,xs[i]? = some x→Pv i σ H→H t = none→g (.ref t) σ (upd H t (.tup [.int i,x])) fun σ2 H2=>tb { D with nx:=Pv (i + 1),ct:=Pv (i + 1),bk:=D.nx } σ2 H2) (hd:∀ σ H,Pv xs.length σ H→D.nx σ H) :
  ∃ W:Nat→Nat→St→Hp→Prop,(∃ m,W 0 m σ H)∧∀ i m σ H,W i m σ H →
   ((Ite K a).stop i H∧D.nx σ H) ∨ ((Ite K a).go i H∧∃ N:St→Hp→Prop,(∀ σ' H',N σ' H'→∃ m',m' < m∧W (i + 1) m' σ' H')∧∀ x H',(Ite K a).yld i H x H'→g x σ H' fun σ2 H2=>tb { D with nx:=N,ct:=N,bk:=D.nx } σ2 H2):=by
 refine ⟨fun i m σ H=>m = xs.length - i∧i ≤ xs.length∧Pv i σ H,⟨xs.length,by simp,Nat.zero_le _,h0⟩,?_⟩
 rintro i m σ H ⟨rfl,hi,p⟩
 have q:=hl i σ H hi p
 by_cases hlt:i < xs.length
 ·refine .inr ⟨⟨xs,xs[i],q,by simp [hlt]⟩,Pv (i + 1),fun σ' H' p'=>⟨xs.length - (i + 1),by omega,rfl,hlt,p'⟩,fun x H' y=>?_⟩
  obtain ⟨t,z,ht,e1,e2,y⟩:=y
  subst e1 e2
  exact hs i z σ _ t (y xs q) p ht
 ·have e:i = xs.length:=by omega
  subst e
  exact .inl ⟨⟨xs,q,Nat.le_refl _⟩,hd σ H p⟩
theorem jc0 {wi:TI} {g:TG} {tb:TS} {D:Ends} {σ:St} {H:Hp} (J:It) (H1:Hp) (h1:∀ R:It→Hp→Prop,R J H1→wi σ H R)
  (h2:∃ W:Nat→Nat→St→Hp→Prop,(∃ m,W 0 m σ H1)∧∀ i m σ H,W i m σ H→(J.stop i H∧D.nx σ H) ∨ (J.go i H∧∃ N:St→Hp→Prop,(∀ σ' H',N σ' H'→∃ m',m' < m∧W (i + 1) m' σ' H')∧∀ x H',J.yld i H x H'→g x σ H' fun σ2 H2=>tb { D with nx:=N,ct:=N,bk:=D.nx } σ2 H2)) :
  tFor wi g tb D σ H:=h1 _ h2
theorem jbj {src:List (Option Nat)} {wi:TI} {g:TG} {tc:TT} {te:TE} {Q:VK} {σ:St} {H:Hp} (J:It) (H1:Hp) (h1:∀ R:It→Hp→Prop,R J H1→wi σ H R) (h2:∀ l,H1 l = none→jr4 J src g tc te Q σ H1 l):jr9 src wi g tc te σ H Q:=h1 _ h2
theorem jai {H:Hp} {p:Addr} (h:H p = none) (o:HO):Same H (upd H p o):=fun b u q=>by rw [jba (jaj q h)]; exact q
theorem jbk {H H':Hp} {p:Addr} {o:HO} (s:Same H H') (h:H p = none):Same H (upd H' p o):=fun b u q=>by rw [jba (jaj q h)]; exact s b u q
def Pr (H:Hp) (v:V) (p:Int × Int):Prop:=∃ t,v = .ref t∧H t = some (.tup [.int p.1,.int p.2])
theorem Pr.same {H H':Hp} {v:V} {p:Int × Int} (h:Pr H v p) (s:Same H H'):Pr H' v p:=let ⟨t,e,q⟩:=h; ⟨t,e,s _ _ q⟩
def jui:HO→Bool
 | .tup _=>true
 | .frz _ _=>true
 | _=>false
def TupS (H H':Hp):Prop:=∀ b o,jui o = true→H b = some o→H' b = some o
theorem Same.tups {H H':Hp} (s:Same H H'):TupS H H':=fun b o _ q=>s b _ q
theorem TupS.trans {H H1 H2:Hp} (a:TupS H H1) (b:TupS H1 H2):TupS H H2:=fun c o i q=>b c o i (a c o i q)
theorem jca {H:Hp} {l:Addr} {xs ys:List V} (h:H l = some (.lst xs)):TupS H (upd H l (.lst ys)):=fun b o i q=>by
 have:b ≠ l:=fun z=>by rw [z,h] at q; cases q; cases i
 rw [jba this]
 exact q
theorem jg1 {H:Hp} {l:Addr} {o:HO} (h:H l = none):TupS H (upd H l o):=(jai h o).tups
theorem Pr.tups {H H':Hp} {v:V} {p:Int × Int} (h:Pr H v p) (s:TupS H H'):Pr H' v p:=let ⟨t,e,q⟩:=h; ⟨t,e,s _ _ rfl q⟩
def Scr (K:PySem.W.Frag) (H:Hp) (a:Addr) (ns:List Int):Prop :=
 (∃ o,H a = some (.frz o (.lst (ns.map V.int)))) ∨ ∃ (o:Obj) (its:Array Value) (n:Nat),K.lookup a = some o∧o.cls = .type "list"∧o.dict = none∧o.data = .seq its n∧its.size ≤ sizeLine∧Vals (ns.map V.int) its.toList
theorem Scr.sq {K:PySem.W.Frag} {H:Hp} {a:Addr} {ns:List Int} (h:Scr K H a ns):SqL K H a (ns.map V.int):=h.elim (fun ⟨o,q⟩=>.inl (.inr ⟨o,q⟩)) .inr
theorem Scr.of {K:PySem.W.Frag} {H:Hp} {a:Addr} {ns:List Int} (h:SqL K H a (ns.map V.int)) (o:Only H):Scr K H a ns:=by
 rcases h with (h | ⟨ob,h⟩) | h
 ·rcases o a with z | ⟨ob,xs,z⟩
  ·rw [h] at z; cases z
  ·rw [h] at z; cases z
 ·exact .inl ⟨ob,h⟩
 ·exact .inr h
theorem Scr.tups {K:PySem.W.Frag} {H H':Hp} {a:Addr} {ns:List Int} (h:Scr K H a ns) (s:TupS H H'):Scr K H' a ns:=h.elim (fun ⟨o,q⟩=>.inl ⟨o,s _ _ rfl q⟩) .inr
abbrev Prs (H:Hp):List V→List (Int × Int)→Prop:=Paired (Pr H)
theorem Prs.tups {H H':Hp} (s:TupS H H') {xs:List V} {ps:List (Int × Int)} (h:Prs H xs ps):Prs H' xs ps:=Paired.mapP h fun _ _ q=>q.tups s
theorem Prs.same {H H':Hp} (s:Same H H') {xs:List V} {ps:List (Int × Int)} (h:Prs H xs ps):Prs H' xs ps:=Prs.tups s.tups h
theorem jbn {α β:Type} {F:α→β→Prop}:∀ {xs:List α} {ys:List β} {i:Nat} {x:α},Paired F xs ys→xs[i]? = some x→∃ y,ys[i]? = some y∧F x y
 | _,_,_,_,.nil,e=>by simp at e
 | _,_,0,_,.cons r _,e=>by simp at e; subst e; exact ⟨_,rfl,r⟩
 | _,_,i + 1,y,.cons _ t,e=>by
  obtain ⟨u,h1,h2⟩:=jbn (i:=i) t (by simpa using e)
  exact ⟨u,by simpa using h1,h2⟩
theorem jbo {α β:Type} {F:α→β→Prop}:∀ {xs:List α} {ys:List β} {i:Nat} {y:β},Paired F xs ys→ys[i]? = some y→∃ x,xs[i]? = some x∧F x y
 | _,_,_,_,.nil,e=>by simp at e
 | _,_,0,_,.cons r _,e=>by simp at e; subst e; exact ⟨_,rfl,r⟩
 | _,_,i + 1,y,.cons _ t,e=>by
  obtain ⟨u,h1,h2⟩:=jbo (i:=i) t (by simpa using e)
  exact ⟨u,by simpa using h1,h2⟩
theorem jbt {α β:Type} {F:α→β→Prop} {a:α} {b:β} {l₁:List α} {l₂:List β} (h:Paired F l₁ l₂) (r:F a b):Paired F (l₁ ++ [a]) (l₂ ++ [b]):=Paired.snoc h r
theorem jez {α:Type} {l:List α} {i:Nat} {x:α} (h:l[i]? = some x):l.drop i = x :: l.drop (i + 1):=by
 obtain ⟨h1,h2⟩:=List.getElem?_eq_some_iff.mp h
 rw [List.drop_eq_getElem_cons h1,h2]
theorem jbp {α:Type} {l:List α} {i:Nat} {x:α} (h:l[i]? = some x):l.take (i + 1) = l.take i ++ [x]:=by
 obtain ⟨h1,h2⟩:=List.getElem?_eq_some_iff.mp h
 rw [List.take_succ,h]
 rfl
inductive Dt where
 | non
 | bl (b:Bool)
 | int (i:Int)
 | str (x:Str)
 | tup (ds:List Dt)
 | lst (ds:List Dt)
mutual
def Rep (H:Hp):Dt→V→Prop
 | .non,v=>v = .non
 | .bl b,v=>v = .bl b
 | .int i,v=>v = .int i
 | .str x,v=>v = .str x
 | .tup ds,v=>∃ a vs,v = .ref a∧H a = some (.tup vs)∧Reps H ds vs
 | .lst ds,v=>∃ a vs,v = .ref a∧H a = some (.lst vs)∧Reps H ds vs
def Reps (H:Hp):List Dt→List V→Prop
 | [],vs=>vs = []
 | d :: ds,vs=>∃ v r,vs = v :: r∧Rep H d v∧Reps H ds r
end
mutual
theorem Rep.same {H H':Hp} (s:Same H H'):∀ (d:Dt) {v:V},Rep H d v→Rep H' d v
 | .non,_,h=>by rw [Rep] at *; exact h
 | .bl _,_,h=>by rw [Rep] at *; exact h
 | .int _,_,h=>by rw [Rep] at *; exact h
 | .str _,_,h=>by rw [Rep] at *; exact h
 | .tup ds,_,h=>by
  rw [Rep] at *
  obtain ⟨a,vs,e,q,r⟩:=h
  exact ⟨a,vs,e,s _ _ q,Reps.same s ds r⟩
 | .lst ds,_,h=>by
  rw [Rep] at *
  obtain ⟨a,vs,e,q,r⟩:=h
  exact ⟨a,vs,e,s _ _ q,Reps.same s ds r⟩
theorem Reps.same {H H':Hp} (s:Same H H'):∀ (ds:List Dt) {vs:List V},Reps H ds vs→Reps H' ds vs
 | [],_,h=>by rw [Reps] at *; exact h
 | d :: ds,_,h=>by
  rw [Reps] at *
  obtain ⟨v,r,e,h1,h2⟩:=h
  exact ⟨v,r,e,Rep.same s d h1,Reps.same s ds h2⟩
end
theorem Reps.len {H:Hp}:∀ {ds:List Dt} {vs:List V},Reps H ds vs→vs.length = ds.length
 | [],_,h=>by rw [Reps] at h; subst h; rfl
 | d :: ds,_,h=>by
  rw [Reps] at h
  obtain ⟨v,r,e,h1,h2⟩:=h
  rw [e,List.length_cons,List.length_cons,Reps.len h2]
theorem Reps.at {H:Hp}:∀ {ds:List Dt} {vs:List V} {i:Nat} {v:V},Reps H ds vs→vs[i]? = some v→∃ d,ds[i]? = some d∧Rep H d v
 | [],_,i,v,h,e=>by rw [Reps] at h; rw [h] at e; simp at e
 | d :: ds,_,i,v,h,e=>by
  rw [Reps] at h
  obtain ⟨w,r,e1,h1,h2⟩:=h
  subst e1
  cases i with
  | zero=>simp at e; subst e; exact ⟨d,rfl,h1⟩
  | succ i =>
   obtain ⟨d',q1,q2⟩:=Reps.at h2 (i:=i) (by simpa using e)
   exact ⟨d',by simpa using q1,q2⟩
def jcj (p:Int × Int):Dt:=.tup [.int p.1,.int p.2]
theorem Pr.rep {H:Hp} {v:V} {p:Int × Int} (h:Pr H v p):Rep H (jcj p) v:=by
 obtain ⟨t,e,q⟩:=h
 rw [jcj,Rep]
 refine ⟨t,_,e,q,?_⟩
 rw [Reps]
 refine ⟨_,_,rfl,(by rw [Rep]),?_⟩
 rw [Reps]
 exact ⟨_,_,rfl,(by rw [Rep]),(by rw [Reps])⟩
theorem Prs.reps {H:Hp}:∀ {xs:List V} {ps:List (Int × Int)},Prs H xs ps→Reps H (ps.map jcj) xs
 | _,_,.nil=>by rw [List.map_nil,Reps]
 | _,_,.cons r t=>by rw [List.map_cons,Reps]; exact ⟨_,_,rfl,r.rep,Prs.reps t⟩
theorem jh4 {H:Hp}:∀ (ns:List Int),Reps H (ns.map Dt.int) (ns.map V.int)
 | []=>by rw [List.map_nil,Reps,List.map_nil]
 | n :: r=>by rw [List.map_cons,Reps,List.map_cons]; exact ⟨_,_,rfl,(by rw [Rep]),jh4 r⟩
end L2
namespace L2
open PySem PySem.Spec PyProof.Rows
def fMax:List V→Hp→VK→Prop:=fun vs H Q=>match vs with
 | [.int i,.int j]=>Q (.int (if i < j then j else i)) H
 | _=>False
theorem q_max {X:Cx} (hc:X.calm = true):jda X (.builtin "max") fMax:=(jqz hc).imp fun vs H Q h=>by
 unfold fMax at h
 split at h
 ·refine ⟨_,_,rfl,?_⟩
  first | exact h | (rename_i i j; by_cases c:i < j <;> simp_all)
 ·exact h.elim
def fInL (neg:Bool):R2:=fun x y H Q=>match y with
 | .ref p=>match jbl H p with
  | some xs=>jqf x = true∧xs.all jqf = true∧Q (.bl (if neg = true then !inV x xs else inV x xs)) H
  | none=>False
 | _=>False
end L2
namespace L2
open PySem PySem.Spec PyProof.Rows
theorem jki {P:Program} {w:World}:∀ {kvs:List (Key × V)} {vs:List (Key × Value)} {ns:List Int},KV kvs vs→kvs.map (·.1) = ns.map Sum.inl→∀ {us:List Value},us.length = vs.length→(∀ (j:Nat) (v:Value),us[j]? = some v→∃ k x,vs[j]? = some (k,x)∧(jby P w).is k v = true)→IntsAre us ns
 | [],_,ns,.nil,hk,us,hl,_=>by
  cases ns with
  | nil=>cases us with
   | nil=>exact .nil
   | cons _ _=>simp at hl
  | cons _ _=>simp at hk
 | kv :: kvs,_,ns,.cons (b:=b) r t,hk,us,hl,hv=>by
  cases ns with
  | nil=>simp at hk
  | cons n ns =>
   cases us with
   | nil=>simp at hl
   | cons u us =>
    rw [List.map_cons,List.map_cons] at hk
    injection hk with hk1 hk2
    obtain ⟨k,x,e1,e2⟩:=hv 0 u rfl
    simp only [List.getElem?_cons_zero,Option.some.injEq] at e1
    have hkn:k = Sum.inl n:=by rw [← hk1,r.1,e1]
    rw [hkn] at e2
    rcases jc7 (show jln (Sum.inl n) u = true from e2) with ⟨i,t',ei,ev⟩ | ⟨y,t',ei,ev⟩
    ·cases ei
     rw [ev]
     refine .cons n t' (jki (P:=P) (w:=w) t hk2 (by simpa using hl) fun j v hj=>?_)
     obtain ⟨k',x',z1,z2⟩:=hv (j + 1) v (by simpa using hj)
     exact ⟨k',x',by simpa using z1,z2⟩
    ·cases ei
def rSortD:List V→Hp→VK→Prop:=fun vs H Q=>∃ (p:Addr) (kvs:List (Key × V)) (ns:List Int),vs = [.ref p]∧H p = some (.dK kvs)∧kvs.map (·.1) = ns.map Sum.inl∧ns.length < 64 ∧
 ∀ (l:Addr) (ms:List Int),H l = none→ms.Perm ns→ms.Pairwise (· ≤ ·)→Q (.ref l) (upd H l (.lst (ms.map V.int)))
theorem jo0 {X:Cx} (hc:X.calm = true):jda X (.builtin "sorted") rSortD:=by
 intro pins s σ H xs us Q I r h
 obtain ⟨p,kvs,ns,rfl,e,hk,h64,q⟩:=h
 obtain ⟨u,rfl,rx⟩:=jjl r
 cases rx
 obtain ⟨z,lo,vs',rel,dd⟩:=juw I.hok e
 obtain ⟨ep,hat⟩:=dd.dictAt
 have hkl:=rel.length
 refine Calls.call_function_entry kind_sorted plain_sorted entry_sorted (args_sorted1 _) ?_
 unfold Builtin.«sorted»
 refine wpAny_bind (m:=checkCount "sorted" 1 1 _) (wpAny_pure ?_)
 refine wpAny_bind (PySem.W.kdu_collect (PySem.W.kdl_dict (knd:=jby X.prog X.w) (kvs:=vs') (ep:=ep) lo) (I.ok.hd hc) hat (by omega) fun h' tk acc hkp hacc=>?_)
 have hl:acc.toList.length = vs'.length:=by rw [Array.length_toList]; exact hacc.1
 have hI:IntsAre acc.toList ns:=jki rel hk hl fun j v ej=>hacc.2 j v (by rw [← Array.getElem?_toList]; exact ej)
 have hnl:ns.length = kvs.length:=by
  have:=congrArg List.length hk
  simpa using this.symm
 refine wpAny_bind (wpAny_newList ?_ (by omega))
 have hoL:(h'.push (seqObj "list" acc.toList.toArray 0)).get? h'.objs.size = some (seqObj "list" acc.toList.toArray 0):=Heap.get?_push_size _ rfl
 show wpAny _ _ _ _ _ { s with heap:=h'.push (seqObj "list" acc.toList.toArray 0),toks:=tk }
 refine wpAny_bind (wpAny_holding (wpAny_call_entry slot_list_sort ⟨_,hoL,rfl⟩ entry_list_sort (list_sort_tree hoL hI (by omega) fun out ms a1 a2 a3=>⟨_,rfl,?_⟩) (args_list_sort _)))
 refine wpAny_pure ⟨_,rfl,?_⟩
 have hlt:∀ b o,h'.get? b = some o→b < h'.objs.size:=fun b o eb=>Heap.lt_size eb
 have kp:∀ b o,h'.get? b = some o→(sortedHeap (h'.push (seqObj "list" acc.toList.toArray 0)) h'.objs.size acc.toList out).get? b = some o:=fun b o eb=>by
  rw [sortedHeap_old (Nat.ne_of_lt (hlt b o eb)) (by rw [size_push']; exact Nat.lt_succ_of_lt (hlt b o eb)),Heap.get?_push_ne _ _ _ (Nat.ne_of_lt (hlt b o eb))]
  exact eb
 obtain ⟨c,hcc⟩:=sortedHeap_at (out:=out) hoL
 have hml:=a2.length_eq
 have I1:Inv X pins σ H { s with heap:=h',toks:=tk }:=I.kept hkp
 refine ⟨.ref h'.objs.size,_,I1.laid (t':=tk) kp (Nat.le_refl _) (show jcy X.prog X.w _ _ _ (.lst (ms.map V.int)) from ⟨?_,out.toList,c,jg9 a1,?_⟩),rfl,q _ ms (I1.hok.fresh (Nat.le_refl _)) a2 a3⟩
 ·rw [List.length_map,hml]; exact Nat.le_trans (Nat.le_of_lt h64) (by decide)
 ·rw [hcc]
end L2
namespace L2
open PySem PySem.Spec PyProof.Rows
mutual
def eqP:Dt→Dt→Bool
 | .non,.non=>true
 | .bl a,.bl b=>a == b
 | .bl a,.int b=>(if a then 1 else 0) == b
 | .int a,.bl b=>a == (if b then 1 else 0)
 | .int a,.int b=>a == b
 | .str a,.str b=>a == b
 | .tup a,.tup b=>eqPs a b
 | .lst a,.lst b=>eqPs a b
 | _,_=>false
def eqPs:List Dt→List Dt→Bool
 | [],[]=>true
 | a :: r,b :: t=>eqP a b && eqPs r t
 | _,_=>false
end
mutual
def depP:Dt→Nat
 | .tup a=>jd8 a + 1
 | .lst a=>jd8 a + 1
 | _=>0
def jd8:List Dt→Nat
 | []=>0
 | a :: r=>max (depP a) (jd8 r)
end
def jfi (a b:List Dt) (j:Nat):Bool:=match a[j]?,b[j]? with
 | some x,some y=>eqP x y
 | _,_=>false
theorem je8:∀ {a b:List Dt},a.length ≠ b.length→eqPs a b = false
 | [],[],h=>absurd rfl h
 | [],_ :: _,_=>by simp [eqPs]
 | _ :: _,[],_=>by simp [eqPs]
 | x :: a,y :: b,h=>by
  rw [eqPs,je8 (by simpa using h),Bool.and_false]
theorem jp2:∀ (n:Nat) (f:Nat→Bool),(List.range (n + 1)).all f = (f 0 && (List.range n).all fun j=>f (j + 1)):=fun n f=>by
 rw [List.range_succ_eq_map,List.all_cons,List.all_map]
 rfl
theorem jdb:∀ {a b:List Dt},a.length = b.length→eqPs a b = (List.range a.length).all (jfi a b)
 | [],[],_=>by rw [eqPs]; rfl
 | [],_ :: _,h=>by simp at h
 | _ :: _,[],h=>by simp at h
 | x :: a,y :: b,h=>by
  rw [eqPs,jdb (a:=a) (b:=b) (by simpa using h),List.length_cons,jp2]
  rfl
theorem jg4:∀ {a:List Dt} {j:Nat} {d:Dt},a[j]? = some d→depP d ≤ jd8 a
 | [],_,_,h=>by simp at h
 | x :: a,0,d,h=>by
  simp at h; subst h
  rw [jd8]; omega
 | x :: a,j + 1,d,h=>by
  have:=jg4 (a:=a) (j:=j) (by simpa using h)
  rw [jd8]; omega
def jdi:Dt→Option V
 | .non=>some .non
 | .bl b=>some (.bl b)
 | .int i=>some (.int i)
 | .str x=>some (.str x)
 | _=>none
theorem jse {d e:Dt} {x y:V} (hd:jdi d = some x) (he:jdi e = some y):eqP d e = eqV x y:=by
 cases d <;> cases e <;> simp only [jdi,Option.some.injEq,reduceCtorEq] at hd he <;> subst hd <;> subst he <;> simp [eqP,eqV]
theorem jii {H:Hp} {d:Dt} {x v:V} (hd:jdi d = some x) (h:Rep H d v):v = x∧jqf x = true:=by
 cases d <;> simp only [jdi,Option.some.injEq,reduceCtorEq] at hd <;> subst hd <;> rw [Rep] at h <;> exact ⟨h,rfl⟩
section
variable {X:Cx} {pins:List (Addr × Obj)} {σ:St} {H:Hp} {s:Shared}
theorem Inv.tupE (I:Inv X pins σ H s) {a:Addr} {vs:List V} (e:H a = some (.tup vs)):∃ its:List Value,Vals vs its∧s.heap.IsTuple a its.toArray:=by
 obtain ⟨its,r,p,_⟩:=I.tuple (SqT.of e)
 exact ⟨its,r,p⟩
theorem Inv.lstE (I:Inv X pins σ H s) {a:Addr} {vs:List V} (e:H a = some (.lst vs)):∃ its:List Value,Vals vs its∧s.heap.IsList a its.toArray:=by
 obtain ⟨its,r,p,_⟩:=I.list (SqL.of e)
 exact ⟨its,r,p.isList⟩
mutual
theorem jdt:∀ d:Dt,eqP d d = true
 | .non=>by simp [eqP]
 | .bl _=>by simp [eqP]
 | .int _=>by simp [eqP]
 | .str _=>by simp [eqP]
 | .tup a=>by rw [eqP]; exact jh8 a
 | .lst a=>by rw [eqP]; exact jh8 a
theorem jh8:∀ a:List Dt,eqPs a a = true
 | []=>by rw [eqPs]
 | d :: r=>by rw [eqPs,jdt d,jh8 r]; rfl
end
mutual
theorem Rep.inj {H:Hp}:∀ {d e:Dt} {v:V},Rep H d v→Rep H e v→d = e
 | .non,e,v,h1,h2=>by rw [Rep] at h1; subst h1; cases e <;> simp [Rep] at h2 ⊢
 | .bl _,e,v,h1,h2=>by rw [Rep] at h1; subst h1; cases e <;> simp [Rep] at h2 ⊢; exact h2
 | .int _,e,v,h1,h2=>by rw [Rep] at h1; subst h1; cases e <;> simp [Rep] at h2 ⊢; exact h2
 | .str _,e,v,h1,h2=>by rw [Rep] at h1; subst h1; cases e <;> simp [Rep] at h2 ⊢; exact h2
 | .tup ds,e,v,h1,h2=>by
  rw [Rep] at h1
  obtain ⟨a,vs,rfl,q,r⟩:=h1
  cases e with
  | tup es =>
   rw [Rep] at h2
   obtain ⟨a',vs',e',q',r'⟩:=h2
   cases e'
   rw [q] at q'; cases q'
   rw [Reps.inj r r']
  | lst es =>
   rw [Rep] at h2
   obtain ⟨a',vs',e',q',r'⟩:=h2
   cases e'
   rw [q] at q'; cases q'
  | non=>rw [Rep] at h2; cases h2
  | bl _=>rw [Rep] at h2; cases h2
  | int _=>rw [Rep] at h2; cases h2
  | str _=>rw [Rep] at h2; cases h2
 | .lst ds,e,v,h1,h2=>by
  rw [Rep] at h1
  obtain ⟨a,vs,rfl,q,r⟩:=h1
  cases e with
  | lst es =>
   rw [Rep] at h2
   obtain ⟨a',vs',e',q',r'⟩:=h2
   cases e'
   rw [q] at q'; cases q'
   rw [Reps.inj r r']
  | tup es =>
   rw [Rep] at h2
   obtain ⟨a',vs',e',q',r'⟩:=h2
   cases e'
   rw [q] at q'; cases q'
  | non=>rw [Rep] at h2; cases h2
  | bl _=>rw [Rep] at h2; cases h2
  | int _=>rw [Rep] at h2; cases h2
  | str _=>rw [Rep] at h2; cases h2
theorem Reps.inj {H:Hp}:∀ {ds es:List Dt} {vs:List V},Reps H ds vs→Reps H es vs→ds = es
 | [],es,vs,h1,h2=>by
  rw [Reps] at h1; subst h1
  cases es with
  | nil=>rfl
  | cons e es=>rw [Reps] at h2; obtain ⟨_,_,z,_⟩:=h2; cases z
 | d :: ds,es,vs,h1,h2=>by
  rw [Reps] at h1
  obtain ⟨v,r,rfl,q1,q2⟩:=h1
  cases es with
  | nil=>rw [Reps] at h2; cases h2
  | cons e es =>
   rw [Reps] at h2
   obtain ⟨v',r',z,p1,p2⟩:=h2
   cases z
   rw [Rep.inj q1 p1,Reps.inj q2 p2]
end
theorem jfu {d e:Dt} (hd:jdi d = none) {y:V} (he:jdi e = some y):eqP d e = false∧eqP e d = false:=by
 cases d <;> cases e <;> simp only [jdi,Option.some.injEq,reduceCtorEq] at hd he <;> simp [eqP]
theorem jtg:∀ (n:Nat) {A:Around} (I:Inv X pins σ H s) {d e:Dt} {x y:V} {u v:Value},depP d ≤ n→A.units + n < cLine→Rep H d x→Rep H e y→RelV x u→RelV y v→SeqAt.EqAt A s u v (eqP d e):=by
 intro n
 induction n with
 | zero =>
  intro A I d e x y u v hn hu rd re rx ry
  have hf:∃ z,jdi d = some z:=by
   cases d <;> simp only [depP,jdi] at hn ⊢ <;> first | exact ⟨_,rfl⟩ | omega
  obtain ⟨z,hz⟩:=hf
  obtain ⟨rfl,fz⟩:=jii hz rd
  cases he:jdi e with
  | some y' =>
   obtain ⟨rfl,fy⟩:=jii he re
   rw [jse hz he]
   exact eqAt_V rx ry fz fy
  | none =>
   rw [(jfu he hz).2]
   have hu0:A.units < cLine:=by omega
   cases e <;> simp only [jdi,reduceCtorEq] at he
   ·rw [Rep] at re
    obtain ⟨a,vs,rfl,q,_⟩:=re
    cases ry
    obtain ⟨its,_,p⟩:=I.tupE q
    cases d <;> simp only [jdi,Option.some.injEq,reduceCtorEq] at hz <;> subst hz
    ·cases rx; exact SeqAt.EqAt.none_tuple p hu0
    ·cases rx; exact SeqAt.EqAt.bool_tuple _ p hu0
    ·obtain ⟨t,rfl⟩:=rx; exact SeqAt.EqAt.int_tuple _ _ p hu0
    ·obtain ⟨t,rfl⟩:=rx; exact SeqAt.EqAt.str_tuple _ _ p hu0
   ·rw [Rep] at re
    obtain ⟨a,vs,rfl,q,_⟩:=re
    cases ry
    obtain ⟨its,_,p⟩:=I.lstE q
    cases d <;> simp only [jdi,Option.some.injEq,reduceCtorEq] at hz <;> subst hz
    ·cases rx; exact SeqAt.EqAt.none_list p hu0
    ·cases rx; exact SeqAt.EqAt.bool_list _ p hu0
    ·obtain ⟨t,rfl⟩:=rx; exact SeqAt.EqAt.int_list _ _ p hu0
    ·obtain ⟨t,rfl⟩:=rx; exact SeqAt.EqAt.str_list _ _ p hu0
 | succ n ih =>
  intro A I d e x y u v hn hu rd re rx ry
  have hu0:A.units < cLine:=by omega
  have items:∀ {ds es:List Dt} {vs ws:List V} {its its2:List Value},jd8 ds ≤ n→Reps H ds vs→Reps H es ws→Vals vs its→Vals ws its2 →
    ∀ j (h1:j < its.toArray.size) (h2:j < its2.toArray.size),SeqAt.EqAt A.in1 s its.toArray[j] its2.toArray[j] (jfi ds es j):=by
   intro ds es vs ws its its2 hdp r1 r2 w1 w2 j h1 h2
   rw [List.size_toArray] at h1 h2
   have l1:=w1.length
   have l2:=w2.length
   obtain ⟨u',e1,q1⟩:=w1.get (i:=j) (x:=vs[j]'(by omega)) (List.getElem?_eq_getElem _)
   obtain ⟨v',e2,q2⟩:=w2.get (i:=j) (x:=ws[j]'(by omega)) (List.getElem?_eq_getElem _)
   obtain ⟨d',f1,g1⟩:=r1.at (i:=j) (List.getElem?_eq_getElem (by omega))
   obtain ⟨e',f2,g2⟩:=r2.at (i:=j) (List.getElem?_eq_getElem (by omega))
   rw [List.getElem?_eq_getElem h1] at e1
   rw [List.getElem?_eq_getElem h2] at e2
   cases e1; cases e2
   have hj:jfi ds es j = eqP d' e':=by unfold jfi; rw [f1,f2]
   rw [hj]
   have:=jg4 f1
   exact ih (A:=A.in1) I (by omega) (by show A.units + 1 + n < cLine; omega) g1 g2 q1 q2
  cases hf:jdi d with
  | some z =>
   refine ih I ?_ (by omega) rd re rx ry
   cases d <;> simp only [jdi,reduceCtorEq] at hf <;> simp [depP]
  | none =>
   cases he:jdi e with
   | some y' =>
    rw [(jfu hf he).1]
    obtain ⟨rfl,fy⟩:=jii he re
    cases d <;> simp only [jdi,reduceCtorEq] at hf
    ·rw [Rep] at rd
     obtain ⟨a,vs,rfl,q,_⟩:=rd
     cases rx
     obtain ⟨its,_,p⟩:=I.tupE q
     cases e <;> simp only [jdi,Option.some.injEq,reduceCtorEq] at he <;> subst he
     ·cases ry; exact SeqAt.EqAt.tuple_none p hu0
     ·cases ry; exact SeqAt.EqAt.tuple_bool _ p hu0
     ·obtain ⟨t,rfl⟩:=ry; exact SeqAt.EqAt.tuple_int _ _ p hu0
     ·obtain ⟨t,rfl⟩:=ry; exact SeqAt.EqAt.tuple_str _ _ p hu0
    ·rw [Rep] at rd
     obtain ⟨a,vs,rfl,q,_⟩:=rd
     cases rx
     obtain ⟨its,_,p⟩:=I.lstE q
     cases e <;> simp only [jdi,Option.some.injEq,reduceCtorEq] at he <;> subst he
     ·cases ry; exact SeqAt.EqAt.list_none p hu0
     ·cases ry; exact SeqAt.EqAt.list_bool _ p hu0
     ·obtain ⟨t,rfl⟩:=ry; exact SeqAt.EqAt.list_int _ _ p hu0
     ·obtain ⟨t,rfl⟩:=ry; exact SeqAt.EqAt.list_str _ _ p hu0
   | none =>
    cases d <;> simp only [jdi,reduceCtorEq] at hf <;> cases e <;> simp only [jdi,reduceCtorEq] at he
    ·rename_i ds es
     have hn':jd8 ds ≤ n:=by rw [depP] at hn; omega
     have rd0:=rd
     have re0:=re
     rw [Rep] at rd
     rw [Rep] at re
     obtain ⟨a,vs,rfl,q,r1⟩:=rd
     obtain ⟨b,ws,rfl,q2,r2⟩:=re
     cases rx; cases ry
     by_cases hab:a = b
     ·subst hab
      rw [Rep.inj rd0 re0,jdt]
      exact SeqAt.EqAt.same _
     ·obtain ⟨its,w1,p1⟩:=I.tupE q
      obtain ⟨its2,w2,p2⟩:=I.tupE q2
      have k:=SeqAt.RcAt.tuples p1 p2 hu0 (items hn' r1 r2 w1 w2)
      have e0:((List.range (min its.toArray.size its2.toArray.size)).all (jfi ds es) && its.toArray.size == its2.toArray.size) = eqP (.tup ds) (.tup es):=by
       have l1:=w1.length
       have l2:=w2.length
       have l3:=r1.len
       have l4:=r2.len
       rw [eqP,List.size_toArray,List.size_toArray]
       by_cases hl:ds.length = es.length
       ·rw [jdb hl,← l1,← l2,l3,l4,hl,Nat.min_self]
        simp
       ·rw [je8 hl]
        have:(its.length == its2.length) = false:=by
         rw [beq_eq_false_iff_ne]; omega
        rw [this,Bool.and_false]
      rw [e0] at k
      exact .of_refs hab k
    ·rename_i ds es
     rw [Rep] at rd
     rw [Rep] at re
     obtain ⟨a,vs,rfl,q,r1⟩:=rd
     obtain ⟨b,ws,rfl,q2,r2⟩:=re
     cases rx; cases ry
     obtain ⟨its,w1,p1⟩:=I.tupE q
     obtain ⟨its2,w2,p2⟩:=I.lstE q2
     have:eqP (.tup ds) (.lst es) = false:=by simp [eqP]
     rw [this]
     exact SeqAt.EqAt.tuple_list p1 p2 hu0
    ·rename_i ds es
     rw [Rep] at rd
     rw [Rep] at re
     obtain ⟨a,vs,rfl,q,r1⟩:=rd
     obtain ⟨b,ws,rfl,q2,r2⟩:=re
     cases rx; cases ry
     obtain ⟨its,w1,p1⟩:=I.lstE q
     obtain ⟨its2,w2,p2⟩:=I.tupE q2
     have:eqP (.lst ds) (.tup es) = false:=by simp [eqP]
     rw [this]
     exact SeqAt.EqAt.list_tuple p1 p2 hu0
    ·rename_i ds es
     have hn':jd8 ds ≤ n:=by rw [depP] at hn; omega
     have rd0:=rd
     have re0:=re
     rw [Rep] at rd
     rw [Rep] at re
     obtain ⟨a,vs,rfl,q,r1⟩:=rd
     obtain ⟨b,ws,rfl,q2,r2⟩:=re
     cases rx; cases ry
     by_cases hab:a = b
     ·subst hab
      rw [Rep.inj rd0 re0,jdt]
      exact SeqAt.EqAt.same _
     ·obtain ⟨its,w1,p1⟩:=I.lstE q
      obtain ⟨its2,w2,p2⟩:=I.lstE q2
      have l1:=w1.length
      have l2:=w2.length
      have l3:=r1.len
      have l4:=r2.len
      refine .of_refs hab ?_
      rw [eqP]
      by_cases hl:ds.length = es.length
      ·rw [jdb hl]
       have k:=SeqAt.RcAt.lists p1 p2 (by rw [List.size_toArray,List.size_toArray]; omega) hu0 (items hn' r1 r2 w1 w2)
       rw [List.size_toArray,← l1,l3] at k
       exact k
      ·rw [je8 hl]
       exact SeqAt.RcAt.lists_lengths p1 p2 (by rw [List.size_toArray,List.size_toArray]; simp; omega) hu0
end
end L2
namespace L2
open PySem PySem.Spec PyProof.Rows
section
variable {prog:Program} {w:World} {A:Around} {R:Result→Shared→Prop} {I:Addr} {fp wr:List Addr} {n:Nat} {P:Nat→Value→Prop} {St:Nat→Heap→Prop}
def Best (val:Nat→Int) (n:Nat) (m:Int):Prop:=(∃ i,i < n∧m = val i)∧∀ i,i < n→val i ≤ m
theorem Best.up {val:Nat→Int} {j:Nat} {m:Int} (h:Best val j m) (hb:val j > m):Best val (j + 1) (val j) :=
 ⟨⟨j,Nat.lt_succ_self _,rfl⟩,fun i hi=>by
  rcases Nat.lt_succ_iff_lt_or_eq.mp hi with z | z
  ·have:=h.2 i z; omega
  ·rw [z]; exact Int.le_refl _⟩
theorem Best.keep {val:Nat→Int} {j:Nat} {m:Int} (h:Best val j m) (hb:¬ val j > m):Best val (j + 1) m :=
 ⟨let ⟨i,hi,e⟩:=h.1; ⟨i,Nat.lt_succ_of_lt hi,e⟩,fun i hi=>by
  rcases Nat.lt_succ_iff_lt_or_eq.mp hi with z | z
  ·exact h.2 i z
  ·rw [z]; omega⟩
theorem je6:(toString "max" ++ toString ".loop":String) = "max.loop":=by decide
theorem jgy (W:Walks prog w A.in1 I fp wr n P St) (val:Nat→Int) (hval:∀ i v,P i v→∃ t:Tok,v = Value.int (val i) t) (kw:List (Str × Value)) (S:Addr) (hSf:S ∉ fp) :
  ∀ (k j:Nat) (s:Shared) (m:Int) (t:Tok) (c:Nat),n - j = k→j ≤ n→St j s.heap→Best val j m →
  s.heap.get? S = some { cls:=.type "list",dict:=none,data:=.seq #[.int m t,.int m t] c,slots:=#[] } →
  (∀ m' t' h' tk,Best val n m'→(∀ b o,b ∉ wr→b ≠ S→s.heap.get? b = some o→h'.get? b = some o)→R (.ok (.ret (.int m' t'))) { s with heap:=h',toks:=tk }) →
  codeAny (model prog w) A (.builtin "max.loop" ⟨[.ref I,.none,.ref S],kw⟩) R s:=by
 have hSw:S ∉ wr:=fun z=>hSf (W.sub _ z)
 intro k
 induction k with
 | zero =>
  intro j s m t c hk hj hst hb hS hR
  have hin:j = n:=by omega
  subst hin
  refine codeAny_builtin PySem.F.entry_max_loop ?_
  rw [Around.under_plainId PySem.F.plain_max_loop _]
  show wpAny _ A.in1 (seqItems? (.ref S) >>= _) _ _ s
  refine wpAny_bind (wpAny_seqItems hS rfl ?_)
  show wpAny _ A.in1 (tryCatch (pyNext (.ref I)) _ >>= _) _ _ s
  refine wpAny_bind (wpAny_tryCatch (W.done s _ _ hst fun h' tk kp=>?_))
  have hS':=kp S _ hSw hS
  show wpAny _ A.in1 (updateSeq S (fun _=>#[]) >>= _) _ _ _
  refine wpAny_bind ?_
  refine wpAny_updateSeq hS' rfl (wpAny_bind (wpAny_letGo (wpAny_pure ?_)))
  exact hR m t _ tk hb fun b o hbw hbS e=>(Heap.get?_update_other _ _ (Ne.symm hbS)).trans (kp b o hbw e)
 | succ k ih =>
  intro j s m t c hk hj hst hb hS hR
  have hlt:j < n:=by omega
  refine codeAny_builtin PySem.F.entry_max_loop ?_
  rw [Around.under_plainId PySem.F.plain_max_loop _]
  show wpAny _ A.in1 (seqItems? (.ref S) >>= _) _ _ s
  refine wpAny_bind (wpAny_seqItems hS rfl ?_)
  show wpAny _ A.in1 (tryCatch (pyNext (.ref I)) _ >>= _) _ _ s
  refine wpAny_bind (wpAny_tryCatch (W.item j s _ _ hlt hst fun v h' tk hP hst' kp=>?_))
  obtain ⟨t',rfl⟩:=hval j v hP
  have hS':=kp S _ hSw hS
  show wpAny _ A.in1 (tryCatch (holding [.int (val j) t',.int (val j) t'] (richCompare .Gt (.int (val j) t') (.int m t) >>= _)) _ >>= _) _ _ _
  refine wpAny_bind (wpAny_tryCatch (wpAny_holding (wpAny_bind (gt_int ?_))))
  refine wpAny_bind (wpAny_holding (wpAny_truthy_bool ?_))
  refine wpAny_bind (wpAny_letGo (wpAny_pure ?_))
  by_cases hc:val j > m
  ·rw [decide_eq_true (show m < val j from hc)]
   simp only [if_true]
   refine wpAny_bind ?_
   refine wpAny_updateSeq hS' rfl (wpAny_bind (wpAny_letGo ?_))
   rw [je6]
   refine wpAny_pure ⟨plainId_quiet PySem.F.plain_max_loop _,ih (j + 1) _ (val j) t' _ (by omega) hlt (W.frame _ _ _ hst' fun b hbf o e=>?_) (hb.up hc) (Heap.get?_update_self _ hS' rfl) fun m' u h'' tk'' hB k''=>?_⟩
   ·exact (Heap.get?_update_other _ _ (fun z:S = b=>hSf (by rw [z]; exact hbf))).trans e
   ·exact hR m' u h'' tk'' hB fun b o hbw hbS e=>k'' b o hbw hbS ((Heap.get?_update_other _ _ (Ne.symm hbS)).trans (kp b o hbw e))
  ·rw [decide_eq_false (show ¬ m < val j from hc)]
   simp only [Bool.false_eq_true,if_false]
   refine wpAny_bind (wpAny_letGo ?_)
   rw [je6]
   refine wpAny_pure ⟨plainId_quiet PySem.F.plain_max_loop _,ih (j + 1) _ m t c (by omega) hlt hst' (hb.keep hc) hS' fun m' u h'' tk'' hB k''=>?_⟩
   exact hR m' u h'' tk'' hB fun b o hbw hbS e=>k'' b o hbw hbS (kp b o hbw e)
end
section
variable {X:Cx}
theorem jg0 (a d:Value):argsOk "max" ⟨[a],[(Str.ofString "default",d)]⟩:=by unfold argsOk; kernel_rfl
def rMaxD:List V→List V→Hp→VK→Prop:=fun vs zs H Q=>∃ (p:Addr) (ns:List Int) (d:Int),vs = [.ref p]∧zs = [.int d]∧H p = some (.lst (ns.map V.int)) ∧
 ∀ m,(ns = []→m = d)→(ns ≠ []→m ∈ ns)→(∀ x ∈ ns,x ≤ m)→Q (.int m) H
theorem jqy (hc:X.calm = true):∀ (pins:List (Addr × Obj)) (s:Shared) (σ:St) (H:Hp) (xs zs:List V) (us ws:List Value) (Q:VK),Inv X pins σ H s→Vals xs us→Vals zs ws→rMaxD xs zs H Q →
  wpAny (model X.prog X.w) X.A (call (.builtin "max") us ([Str.ofString "default"].zip ws)) (EP X pins σ Q) X.xe s:=by
 intro pins s σ H xs zs us ws Q I r rz h
 obtain ⟨p,ns,d,rfl,rfl,e,q⟩:=h
 obtain ⟨u,rfl,rx⟩:=jjl r
 cases rx
 obtain ⟨dv,rfl,td,rfl⟩:=jjl rz
 obtain ⟨z,its,c,r',hlen,e'⟩:=I.lstM e
 have hI:=jcm r'
 have plt:p < s.heap.objs.size:=Heap.lt_size e'
 have hL:s.heap.IsList p its.toArray:=⟨_,e',rfl,_,rfl⟩
 refine kmk_tree PySem.F.kind_max PySem.F.plain_max PySem.F.entry_max (jg0 _ _) ?_
 show wpAny _ X.A.in1 (Builtin.Builtins.bindParams "max" ["key","default"] 0 ⟨[],[(Str.ofString "default",.int d td)]⟩ >>= _) _ _ s
 refine wpAny_bind (wpAny_of_eq (show Builtin.Builtins.bindParams "max" ["key","default"] 0 ⟨[],[(Str.ofString "default",.int d td)]⟩ = pure [none,some (.int d td)] from rfl) ?_)
 refine wpAny_bind (wpAny_pure ?_)
 refine wpAny_bind (wpAny_pyIter_list hL ?_)
 refine wpAny_bind (wpAny_newList ?_ (Nat.zero_le _))
 rw [je6]
 have hS:(s.heap.push { cls:=.type "list_iterator",data:=.fields #[.ref p,.int 0 0] }).objs.size = s.heap.objs.size + 1:=size_push' ..
 have W:=Walks.list (prog:=X.prog) (w:=X.w) (A:=X.A.in1) (show X.A.in1.handled = none from I.ok.hd hc) s.heap.objs.size p (Nat.ne_of_lt plt) its.toArray
 have hsz:its.toArray.size = ns.length:=by rw [List.size_toArray,← hlen,List.length_map]
 have hval:∀ (i:Nat) (v:Value),its.toArray[i]? = some v→∃ t:Tok,v = Value.int (ns[i]?.getD 0) t:=fun i v hv=>by
  have hv':its[i]? = some v:=by simpa using hv
  have hi:i < ns.length:=by
   have:=(List.getElem?_eq_some_iff.mp hv').1
   rw [List.length_map] at hlen
   omega
  obtain ⟨u,e1,t,e2⟩:=r'.get (i:=i) (x:=.int ns[i]) (by rw [List.getElem?_map,List.getElem?_eq_getElem hi]; rfl)
  rw [hv'] at e1
  cases e1
  exact ⟨t,by rw [e2,List.getElem?_eq_getElem hi]; rfl⟩
 have kp0:∀ (h':Heap) (tk:Nat),(∀ b o,b ∉ [s.heap.objs.size]→b ≠ (s.heap.push { cls:=.type "list_iterator",data:=.fields #[.ref p,.int 0 0] }).objs.size→((s.heap.push { cls:=.type "list_iterator",data:=.fields #[.ref p,.int 0 0] }).push { cls:=.type "list",data:=.seq #[] }).get? b = some o→h'.get? b = some o) →
   Inv X pins σ H { s with heap:=h',toks:=tk }:=fun h' tk k=>I.kept fun b o qq=>k b o (by
    intro z
    have:b = s.heap.objs.size:=by simpa using z
    exact absurd (Heap.lt_size qq) (by rw [this]; exact Nat.lt_irrefl _)) (by rw [hS]; exact Nat.ne_of_lt (Nat.lt_succ_of_lt (Heap.lt_size qq))) (Heap.get?_push_of_some _ (Heap.get?_push_of_some _ qq))
 have hst0:(fun i (h:Heap)=>h.IsListIter s.heap.objs.size p i∧h.IsList p its.toArray) 0 ((s.heap.push { cls:=.type "list_iterator",data:=.fields #[.ref p,.int 0 0] }).push { cls:=.type "list",data:=.seq #[] }) :=
  ⟨⟨_,Heap.get?_push_of_some _ (Heap.get?_push_size _ rfl),rfl,rfl⟩,(hL.push _).push _⟩
 have hSg:((s.heap.push { cls:=.type "list_iterator",data:=.fields #[.ref p,.int 0 0] }).push { cls:=.type "list",data:=.seq #[] }).get? (s.heap.push { cls:=.type "list_iterator",data:=.fields #[.ref p,.int 0 0] }).objs.size = some { cls:=.type "list",dict:=none,data:=.seq #[] 0,slots:=#[] }:=Heap.get?_push_size _ rfl
 have hSf:(s.heap.push { cls:=.type "list_iterator",data:=.fields #[.ref p,.int 0 0] }).objs.size ∉ [s.heap.objs.size,p]:=by
  rw [hS]
  intro z
  rcases List.mem_cons.mp z with z | z
  ·exact absurd z (Nat.succ_ne_self _)
  ·have z:=List.mem_singleton.mp z
   rw [← z] at plt
   exact Nat.lt_irrefl _ (Nat.lt_of_succ_lt plt)
 refine wpAny_pure ⟨plainId_quiet PySem.F.plain_max_loop _,?_⟩
 refine codeAny_builtin PySem.F.entry_max_loop ?_
 rw [Around.under_plainId PySem.F.plain_max_loop _]
 show wpAny _ X.A.in1 (seqItems? (.ref _) >>= _) _ _ _
 refine wpAny_bind (wpAny_seqItems hSg rfl ?_)
 show wpAny _ X.A.in1 (tryCatch (pyNext (.ref s.heap.objs.size)) _ >>= _) _ _ _
 cases hn:ns with
 | nil =>
  have h0:its.toArray.size = 0:=by rw [hsz,hn]; rfl
  refine wpAny_bind (wpAny_tryCatch (W.done _ _ _ (by rw [h0]; exact hst0) fun h' tk kp=>?_))
  refine wpAny_bind (wpAny_rule (wpAny_pure ?_))
  exact ⟨.int d,H,kp0 h' tk fun b o h1 _ h3=>kp b o h1 h3,⟨td,rfl⟩,q d (fun _=>rfl) (fun z=>absurd hn z) (by rw [hn]; intro x hx; cases hx)⟩
 | cons n0 rest =>
  have hpos:0 < its.toArray.size:=by rw [hsz,hn]; simp
  refine wpAny_bind (wpAny_tryCatch (W.item 0 _ _ _ hpos hst0 fun v h' tk hP hst' kp=>?_))
  obtain ⟨t',rfl⟩:=hval 0 v hP
  have hS':=kp _ _ (fun z=>hSf (List.mem_cons.mpr (.inl (List.mem_singleton.mp z)))) hSg
  show wpAny _ X.A.in1 (updateSeq _ (fun _=>#[_,_]) >>= _) _ _ _
  refine wpAny_bind ?_
  refine wpAny_updateSeq hS' rfl ?_
  rw [je6]
  refine wpAny_pure ⟨plainId_quiet PySem.F.plain_max_loop _,jgy W (fun i=>ns[i]?.getD 0) hval _ _ hSf _ 1 _ _ t' _ rfl hpos (W.frame _ _ _ hst' fun b hbf o e=>?_) ⟨⟨0,Nat.one_pos,rfl⟩,fun i hi=>by
   have:i = 0:=by omega
   subst this; exact Int.le_refl _⟩ (Heap.get?_update_self _ hS' rfl) fun m u h'' tk'' hB k''=>?_⟩
  ·exact (Heap.get?_update_other _ _ (fun z=>hSf (by rw [z]; exact hbf))).trans e
  ·refine ⟨.int m,H,kp0 h'' tk'' fun b o h1 h2 h3=>k'' b o h1 h2 ((Heap.get?_update_other _ _ (Ne.symm h2)).trans (kp b o h1 h3)),⟨u,rfl⟩,q m (fun z=>by rw [hn] at z; cases z) (fun _=>?_) fun x hx=>?_⟩
   ·obtain ⟨i,hi,e1⟩:=hB.1
    rw [hsz] at hi
    rw [e1]
    show ns[i]?.getD 0 ∈ ns
    rw [List.getElem?_eq_getElem hi]
    exact List.getElem_mem hi
   ·obtain ⟨i,hi,e1⟩:=List.mem_iff_getElem.mp hx
    have:ns[i]?.getD 0 ≤ m:=hB.2 i (by rw [hsz]; exact hi)
    rw [List.getElem?_eq_getElem hi] at this
    rw [← e1]
    exact this
def tCBK (r:List V→List V→Hp→VK→Prop) (t tk:TA):TE:=fun σ H Q=>t σ H fun vs H1=>tk σ H1 fun zs H2=>r vs zs H2 Q
theorem jpd {x k:Str} {p kp pos:Pos} {e g:Expr} {t tk:TA} {id:String} {r:List V→List V→Hp→VK→Prop}
  (hcall:∀ (pins:List (Addr × Obj)) (s:Shared) (σ:St) (H:Hp) (xs zs:List V) (us ws:List Value) (Q:VK),Inv X pins σ H s→Vals xs us→Vals zs ws→r xs zs H Q →
   wpAny (model X.prog X.w) X.A (call (.builtin id) us ([k].zip ws)) (EP X pins σ Q) X.xe s)
  (hg:Gl X x) (hm:X.mg x = none) (hv:bootBuiltins x = some (.builtin id)) (ha:PA X [e] t) (hk:PK X [⟨some k,g,kp⟩] tk) (hn:x ≠ "__name__":=by decide) (hdb:(x == ("__debug__":Str)) = false:=by decide)
  (he:backTo pos (starEach [e] X.env) = (false,eval e X.env) :: backTo pos (starEach [] X.env):=by rfl) (hpl:(backTo pos (starEach [e] X.env)).any (·.1) = false:=by rfl):PE X (.Call (.Name x p) [e] [⟨some k,g,kp⟩] pos) (tCBK r t tk):=by
 intro pins s σ H Q I h
 refine wpAny_Call_Name_kw (jfr I hg hm hv ?_ hn hdb)
 refine callWith_kw (thn (ha pos pins s σ H _ I h) fun us s1 ⟨vs,H1,I1,r1,q1⟩=>thn (hk pos pins s1 σ H1 _ I1 q1) fun ws s2 ⟨zs,H2,I2,r2,q2⟩=>?_) he hpl
 exact hcall pins s2 σ H2 vs zs us ws Q I2 r1 r2 q2
end
end L2
namespace L2
open PySem PySem.Spec PyProof.Rows
section
variable {X:Cx} {pins:List (Addr × Obj)} {σ:St} {H:Hp} {s:Shared}
theorem jj1 (n:Nat) {A:Around} (I:Inv X pins σ H s) {ds es:List Dt} {vs ws:List V} {its its2:List Value} (hdp:jd8 ds ≤ n) (hu:A.units + n < cLine) (r1:Reps H ds vs) (r2:Reps H es ws) (w1:Vals vs its) (w2:Vals ws its2) :
  ∀ j (h1:j < its.toArray.size) (h2:j < its2.toArray.size),SeqAt.EqAt A s its.toArray[j] its2.toArray[j] (jfi ds es j):=by
 intro j h1 h2
 rw [List.size_toArray] at h1 h2
 have l1:=w1.length
 have l2:=w2.length
 obtain ⟨u',e1,q1⟩:=w1.get (i:=j) (x:=vs[j]'(by omega)) (List.getElem?_eq_getElem _)
 obtain ⟨v',e2,q2⟩:=w2.get (i:=j) (x:=ws[j]'(by omega)) (List.getElem?_eq_getElem _)
 obtain ⟨d',f1,g1⟩:=r1.at (i:=j) (List.getElem?_eq_getElem (by omega))
 obtain ⟨e',f2,g2⟩:=r2.at (i:=j) (List.getElem?_eq_getElem (by omega))
 rw [List.getElem?_eq_getElem h1] at e1
 rw [List.getElem?_eq_getElem h2] at e2
 cases e1; cases e2
 have hj:jfi ds es j = eqP d' e':=by unfold jfi; rw [f1,f2]
 rw [hj]
 have:=jg4 f1
 exact jtg n I (by omega) hu g1 g2 q1 q2
theorem jhn {ds es:List Dt} {vs ws:List V} {its its2:List Value} (r1:Reps H ds vs) (r2:Reps H es ws) (w1:Vals vs its) (w2:Vals ws its2) :
  ((List.range (min its.toArray.size its2.toArray.size)).all (jfi ds es) && its.toArray.size == its2.toArray.size) = eqPs ds es:=by
 have l1:=w1.length
 have l2:=w2.length
 have l3:=r1.len
 have l4:=r2.len
 rw [List.size_toArray,List.size_toArray]
 by_cases hl:ds.length = es.length
 ·rw [jdb hl,← l1,← l2,l3,l4,hl,Nat.min_self]
  simp
 ·rw [je8 hl]
  have:(its.length == its2.length) = false:=by
   rw [beq_eq_false_iff_ne]; omega
  rw [this,Bool.and_false]
def rEqD (neg:Bool):R2:=fun x y H Q=>∃ d e,Rep H d x∧Rep H e y∧depP d ≤ 20∧((∃ ds es,d = .lst ds∧e = .lst es) ∨ ∃ ds es,d = .tup ds∧e = .tup es)∧Q (.bl (if neg = true then !eqP d e else eqP d e)) H
theorem op_eqD (hu:X.A.units + 64 < cLine):OpR X (compareOp .Eq) (rEqD false):=by
 intro pins s σ H x y v u Q I rx ry h
 obtain ⟨d,e,rd,re,hd,hk,q⟩:=h
 have hu0:X.A.units < cLine:=by omega
 rcases hk with ⟨ds,es,rfl,rfl⟩ | ⟨ds,es,rfl,rfl⟩
 ·have hn':jd8 ds ≤ 20:=by rw [depP] at hd; omega
  rw [Rep] at rd re
  obtain ⟨a,vs,rfl,q1,r1⟩:=rd
  obtain ⟨b,ws,rfl,q2,r2⟩:=re
  cases rx; cases ry
  obtain ⟨its,w1,p1⟩:=I.lstE q1
  obtain ⟨its2,w2,p2⟩:=I.lstE q2
  have l1:=w1.length
  have l2:=w2.length
  have l3:=r1.len
  have l4:=r2.len
  by_cases hl:ds.length = es.length
  ·refine SeqAt.RcAt.lists (e:=jfi ds es) p1 p2 (by rw [List.size_toArray,List.size_toArray]; omega) hu0 (jj1 20 I hn' (by show X.A.units + 1 + 20 < cLine; omega) r1 r2 w1 w2) _ _ _ _ ⟨.bl _,H,I,rfl,?_⟩
   rw [List.size_toArray,← l1,l3,← jdb hl]
   rw [eqP] at q
   exact q
  ·refine SeqAt.RcAt.lists_lengths p1 p2 (by rw [List.size_toArray,List.size_toArray]; simp; omega) hu0 _ _ _ _ ⟨.bl _,H,I,rfl,?_⟩
   rw [eqP,je8 hl] at q
   exact q
 ·have hn':jd8 ds ≤ 20:=by rw [depP] at hd; omega
  rw [Rep] at rd re
  obtain ⟨a,vs,rfl,q1,r1⟩:=rd
  obtain ⟨b,ws,rfl,q2,r2⟩:=re
  cases rx; cases ry
  obtain ⟨its,w1,p1⟩:=I.tupE q1
  obtain ⟨its2,w2,p2⟩:=I.tupE q2
  refine SeqAt.RcAt.tuples (e:=jfi ds es) p1 p2 hu0 (jj1 20 I hn' (by show X.A.units + 1 + 20 < cLine; omega) r1 r2 w1 w2) _ _ _ _ ⟨.bl _,H,I,rfl,?_⟩
  rw [jhn r1 r2 w1 w2]
  rw [eqP] at q
  exact q
theorem op_neD (hu:X.A.units + 64 < cLine):OpR X (compareOp .NotEq) (rEqD true):=by
 intro pins s σ H x y v u Q I rx ry h
 obtain ⟨d,e,rd,re,hd,hk,q⟩:=h
 have hu0:X.A.units < cLine:=by omega
 rcases hk with ⟨ds,es,rfl,rfl⟩ | ⟨ds,es,rfl,rfl⟩
 ·have hn':jd8 ds ≤ 20:=by rw [depP] at hd; omega
  rw [Rep] at rd re
  obtain ⟨a,vs,rfl,q1,r1⟩:=rd
  obtain ⟨b,ws,rfl,q2,r2⟩:=re
  cases rx; cases ry
  obtain ⟨its,w1,p1⟩:=I.lstE q1
  obtain ⟨its2,w2,p2⟩:=I.lstE q2
  have l1:=w1.length
  have l2:=w2.length
  have l3:=r1.len
  have l4:=r2.len
  by_cases hl:ds.length = es.length
  ·refine SeqAt.RcNeAt.lists (e:=jfi ds es) p1 p2 (by rw [List.size_toArray,List.size_toArray]; omega) hu0 (jj1 20 I hn' (by show X.A.units + 1 + 20 < cLine; omega) r1 r2 w1 w2) _ _ _ _ ⟨.bl _,H,I,rfl,?_⟩
   rw [List.size_toArray,← l1,l3,← jdb hl]
   rw [eqP] at q
   exact q
  ·refine SeqAt.RcNeAt.lists_lengths p1 p2 (by rw [List.size_toArray,List.size_toArray]; simp; omega) hu0 _ _ _ _ ⟨.bl _,H,I,rfl,?_⟩
   rw [eqP,je8 hl] at q
   exact q
 ·have hn':jd8 ds ≤ 20:=by rw [depP] at hd; omega
  rw [Rep] at rd re
  obtain ⟨a,vs,rfl,q1,r1⟩:=rd
  obtain ⟨b,ws,rfl,q2,r2⟩:=re
  cases rx; cases ry
  obtain ⟨its,w1,p1⟩:=I.tupE q1
  obtain ⟨its2,w2,p2⟩:=I.tupE q2
  refine SeqAt.RcNeAt.tuples (e:=jfi ds es) p1 p2 hu0 (jj1 20 I hn' (by show X.A.units + 1 + 20 < cLine; omega) r1 r2 w1 w2) _ _ _ _ ⟨.bl _,H,I,rfl,?_⟩
  rw [jhn r1 r2 w1 w2]
  rw [eqP] at q
  exact q
theorem RelV.inj' {x y:V} {u:Value} (h1:RelV x u) (h2:RelV y u):x = y:=Option.some.inj (h1.abs.symm.trans h2.abs)
open Classical in
def eqW (H:Hp) (d:Dt) (u:Value):Bool:=if h:∃ c,∃ x,RelV x u∧Rep H c x then eqP h.choose d else false
theorem jtf {H:Hp} {d c:Dt} {x:V} {u:Value} (r:RelV x u) (p:Rep H c x):eqW H d u = eqP c d:=by
 unfold eqW
 have h:∃ c,∃ x,RelV x u∧Rep H c x:=⟨c,x,r,p⟩
 rw [dif_pos h]
 obtain ⟨y,r2,p2⟩:=h.choose_spec
 have:=RelV.inj' r r2
 subst this
 rw [Rep.inj p2 p]
theorem jlx {H:Hp} {d:Dt}:∀ {cs:List Dt} {xs:List V} {us:List Value},Reps H cs xs→Vals xs us→us.any (eqW H d) = cs.any fun c=>eqP c d
 | [],_,_,h,r=>by
  rw [Reps] at h; subst h
  cases r
  rfl
 | c :: cs,_,_,h,r=>by
  rw [Reps] at h
  obtain ⟨v,t,rfl,h1,h2⟩:=h
  cases r with
  | cons r1 r2=>rw [List.any_cons,List.any_cons,jtf r1 h1,jlx h2 r2]
def rInD (neg:Bool):R2:=fun x y H Q=>∃ (d:Dt) (p:Addr) (xs:List V) (cs:List Dt),Rep H d x∧y = .ref p∧H p = some (.lst xs)∧Reps H cs xs∧jd8 cs ≤ 20∧Q (.bl (if neg = true then !cs.any (fun c=>eqP c d) else cs.any fun c=>eqP c d)) H
theorem jmv (hu:X.A.units + 64 < cLine) (I:Inv X pins σ H s) {d:Dt} {x:V} {v:Value} {cs:List Dt} {xs:List V} {its:List Value} (rd:Rep H d x) (rx:RelV x v) (rc:Reps H cs xs) (r:Vals xs its) (hd:jd8 cs ≤ 20) :
  ∀ y,y ∈ its.toArray→SeqAt.EqAt X.A.in1 s y v (eqW H d y):=by
 intro y hy
 have hy':y ∈ its:=by simpa using hy
 obtain ⟨j,hj,e⟩:=List.mem_iff_getElem.mp hy'
 have l1:=r.length
 obtain ⟨u',e1,q1⟩:=r.get (i:=j) (x:=xs[j]'(by omega)) (List.getElem?_eq_getElem _)
 obtain ⟨c,f1,g1⟩:=rc.at (i:=j) (List.getElem?_eq_getElem (by omega))
 rw [List.getElem?_eq_getElem hj] at e1
 cases e1
 rw [← e,jtf q1 g1]
 have:=jg4 f1
 exact jtg 20 I (by omega) (by show X.A.units + 1 + 20 < cLine; omega) g1 rd q1 rx
theorem op_inD (hu:X.A.units + 64 < cLine):OpR X (compareOp .In) (rInD false):=by
 intro pins s σ H x y v u Q I rx ry h
 obtain ⟨d,p,xs,cs,rd,rfl,e,rc,hd,q⟩:=h
 cases ry
 obtain ⟨its,r,pl⟩:=I.lstE e
 refine SeqAt.in_listAt (eqW H d) pl (jmv hu I rd rx rc r hd) ⟨.bl _,H,I,rfl,?_⟩
 rw [show its.toArray.any (eqW H d) = its.any (eqW H d) by simp,jlx rc r]
 exact q
theorem jph (hu:X.A.units + 64 < cLine):OpR X (compareOp .NotIn) (rInD true):=by
 intro pins s σ H x y v u Q I rx ry h
 obtain ⟨d,p,xs,cs,rd,rfl,e,rc,hd,q⟩:=h
 cases ry
 obtain ⟨its,r,pl⟩:=I.lstE e
 refine SeqAt.notIn_listAt (eqW H d) pl (jmv hu I rd rx rc r hd) ⟨.bl _,H,I,rfl,?_⟩
 rw [show its.toArray.any (eqW H d) = its.any (eqW H d) by simp,jlx rc r]
 exact q
end
end L2
namespace L2
open PySem PySem.Spec PyProof.Rows
section
variable {X:Cx} {o i e f value:Expr} {td ty tv tx:TE} {pos pos' apos cpos:Pos}
def jaa (td ty tv:TE):TS:=fun D σ H=>tv σ H fun v H1=>td σ H1 fun x H2=>ty σ H2 fun y H3=>match x,y with
 | .ref a,.int n=>match H3 a with
  | some (.dK kvs)=>kvs.length < sizeLine∧D.nx σ (upd H3 a (.dK (putK kvs (Sum.inl n:Key) v)))
  | _=>False
 | _,_=>False
theorem dput_r {x y:V} {H3:Hp} {R:List (Key × V)→Addr→Int→Prop} (h:match x,y with
 | .ref a,.int n=>match H3 a with
  | some (.dK kvs)=>R kvs a n
  | _=>False
 | _,_=>False):∃ a n kvs,x = .ref a∧y = .int n∧H3 a = some (.dK kvs)∧R kvs a n:=by
 split at h
 ·split at h
  ·rename_i e; exact ⟨_,_,_,rfl,rfl,e,h⟩
  ·exact h.elim
 ·exact h.elim
theorem jux {y:V} {a:Addr} {H3:Hp} {R:List (Key × V)→Int→Prop} (h:match y with
 | .int n=>match H3 a with
  | some (.dK kvs)=>R kvs n
  | _=>False
 | _=>False):∃ n kvs,y = .int n∧H3 a = some (.dK kvs)∧R kvs n:=by
 split at h
 ·split at h
  ·rename_i e; exact ⟨_,_,rfl,e,h⟩
  ·exact h.elim
 ·exact h.elim
theorem jp6 (hu:X.A.units + 1 < cLine) (ho:PE X o td) (hi:PE X i ty) (hv:PE X value tv) (hs:swapsWith value (some (.Subscript o i pos')) pos.line X.env = pure false:=by rfl) :
  PS X (.Assign [.Subscript o i pos'] value pos) (jaa td ty tv):=by
 intro pins s σ H D I h
 refine wpAny_Assign_Subscript (thn (hv pins s σ H _ I h) fun r s1 ⟨v,H1,I1,rv,q1⟩=>thn (ho pins s1 σ H1 _ I1 q1) fun u s2 ⟨x,H2,I2,rx,q2⟩=>thn (hi pins s2 σ H2 _ I2 q2) fun iv s3 ⟨y,H3,I3,ry,q3⟩=>?_) hs
 obtain ⟨a,n,kvs,rfl,rfl,ea,q4,q5⟩:=dput_r (R:=fun kvs a n=>kvs.length < sizeLine∧D.nx σ (upd H3 a (.dK (putK kvs (Sum.inl n:Key) v)))) q3
 obtain rfl:u = Value.ref a:=rx
 exact jqp hu I3 (DPut.k (k:=Sum.inl n) ea q4) ry rv fun s4 I4=>⟨σ,_,I4,q5⟩
def jab (td ty tx:TE):TE:=fun σ H Q=>td σ H fun x H1=>match x with
 | .ref a=>(∃ kvs,H1 a = some (.dK kvs))∧ty σ H1 fun y H2=>tx σ H2 fun z H3=>match y with
  | .int n=>match H3 a with
   | some (.dK kvs)=>Q ((valV kvs (Sum.inl n:Key)).getD z) H3
   | _=>False
  | _=>False
 | _=>False
theorem jl8 (hu:X.A.units + 1 < cLine) (ho:PE X o td) (he:PE X e ty) (hf:PE X f tx) (m:M2 X o "get" apos e f cpos:=by exact ⟨rfl,rfl,rfl,rfl⟩):PE X (.Call (.Attribute o "get" apos) [e,f] [] cpos) (jab td ty tx):=by
  intro pins s σ H Q I h
  refine wpAny_Call_method m.base m.few m.line PySem.F.plainAttrs_dict PySem.F.slot_dict_get PySem.F.type_dict_get (thn (ho pins s σ H _ I h) fun u s1 ⟨x,H1,I1,rx,q1⟩=>?_)
  cases x <;> first
    | exact False.elim q1
    | (rename_i a
       dsimp only at q1
       obtain ⟨⟨kvs0,e0⟩,q1⟩:=q1
       obtain rfl:u = Value.ref a:=rx
       obtain ⟨t1,t2,_⟩:=jtc I1 (.inl ⟨kvs0,.inl e0⟩)
       refine ⟨t1,t2,?_⟩
       rw [m.trees]
       refine Calls.callWith_builtin rfl (Calls.evalArgs_plain (Calls.spliced_cons (thn (he pins s1 σ H1 _ I1 q1) fun iv s2 ⟨y,H2,I2,ry,q2⟩ =>
         Calls.spliced_cons (thn (hf pins s2 σ H2 _ I2 q2) fun fv s3 ⟨z,H3,I3,rz,q3⟩=>Calls.spliced_nil ?_))))
       obtain ⟨n,kvs,rfl,ea,q4⟩:=jux (R:=fun kvs n=>Q ((valV kvs (Sum.inl n:Key)).getD z) H3) q3
       exact d_get2 hu I3 (DGet.k (k:=Sum.inl n) ea) ry rz fun w' s4 I4 rw'=>⟨_,H3,I4,rw',q4⟩)
def fCat:R2:=fun x y H Q=>match x,y with
 | .ref l,.ref b=>match H l,H b with
  | some (.lst xs),some (.lst zs)=>xs.length + zs.length ≤ sizeLine∧∀ p,H p = none→Q (.ref p) (upd H p (.lst (xs ++ zs)))
  | _,_=>False
 | _,_=>False
theorem q_cat:OpR X (binaryOp .Add) fCat:=op_cat.imp fun x y H Q h=>by
 unfold fCat at h
 split at h
 ·split at h
  ·rename_i e1 e2; exact ⟨_,_,_,_,rfl,rfl,e1,e2,h.1,h.2⟩
  ·exact h.elim
 ·exact h.elim
def jae:V→List V→Hp→VK→Prop:=fun x vs H Q=>match x,vs with
 | .ref l,[]=>match H l with
  | some (.lst _)=>Q .non (upd H l (.lst []))
  | _=>False
 | _,_=>False
def fBM0 (r:V→List V→Hp→VK→Prop) (to:TE):TE:=fun σ H Q=>to σ H fun x H1=>(∃ a xs,x = .ref a∧H1 a = some (.lst xs))∧r x [] H1 Q
def fSlT:V→Option Int→Option Int→Hp→VK→Prop:=fun x lo hi H Q=>match x with
 | .ref a=>match H a with
  | some (.tup xs)=>¬ (HT.sIx xs.length 0 lo = 0∧HT.sIx xs.length xs.length hi = xs.length)∧∀ p,H p = none→Q (.ref p) (upd H p (.tup (cutV xs lo hi)))
  | _=>False
 | _=>False
theorem jts:SlR X fSlT:=sl_tup.imp fun x l u H Q h=>by
 unfold fSlT at h
 split at h
 ·split at h
  ·rename_i xs e; exact ⟨_,xs,rfl,SqT.of e,h.1,h.2⟩
  ·exact h.elim
 ·exact h.elim
def jb1:List V→Hp→VK→Prop:=fun vs H Q=>match vs with
 | [.bl k]=>Q (.int (if k = true then 1 else 0)) H
 | [.int i]=>Q (.int i) H
 | _=>False
end
end L2
namespace L2
open PySem PySem.Spec PyProof.Rows
section
variable {prog:Program} {w:World} {A:Around} {E:Value→Shared→Prop}
end
section
variable {X:Cx} {es:List Expr} {pos:Pos}
def jb4 (n:Nat) (t:TGs):TG:=fun v σ H Q=>match v with
 | .ref a=>match H a with
  | some (.lst xs)=>xs.length = n∧t xs σ H Q
  | _=>False
 | _=>False
end
end L2
namespace L2
open PySem PySem.Spec PyProof.Rows
def TrD (h B:Heap) (x:Addr) (cl:Value) (dd:Option Addr) (fl:Value):Prop :=
 ∃ ox ws T oT ts,h.get? x = some ox∧ox.cls = cl∧ox.dict = dd∧ox.data = .fields ws∧ws[1]? = some (.ref T)∧B.get? T = none∧T ≠ x∧h.get? T = some oT∧oT.data = .fields ts∧ts[3]? = some fl∧(dd ≠ none→ws[2]? = some .none)
structure FlyD (B:Heap) (l:List Env) (x:Addr) (cl:Value) (dd:Option Addr) (fl:Value) (h:Heap):Prop where
 stays:B.StaysIn h
 new:B.get? x = none
 funs:h.FunFrames B l
 tr:TrD h B x cl dd fl
theorem FlyD.there {B:Heap} {l:List Env} {x:Addr} {cl:Value} {dd:Option Addr} {fl:Value} {h:Heap} (f:FlyD B l x cl dd fl h):∃ ox ws,h.get? x = some ox∧ox.cls = cl∧ox.dict = dd∧ox.data = .fields ws:=by
 obtain ⟨ox,ws,_,_,_,h1,h2,h3,h4,_⟩:=f.tr
 exact ⟨ox,ws,h1,h2,h3,h4⟩
section
variable {M:Model} {A:Around} {E:Value→Shared→Prop} {s:Shared} {B:Heap} {env:Env} {l:List Env} {L x:Addr} {cl:Value} {dd:Option Addr} {Q:Unit→Shared→Prop}
end
end L2
namespace L2
open PySem PySem.Spec PyProof.Rows
structure Df (X:Cx):Prop where
 stk:X.stack = X.env :: X.outer
 fr:X.env.frame = some X.env.locals
 ex:X.ex = []
 fn:∀ x,X.fn x = true
structure Cov (X:Cx) (B:Heap) (H:Hp) (h:Heap):Prop where
 tr:∀ b o,H b = some o→∃ q,h.get? b = some q∧B.get? b = some q
 old:∀ b o,X.s₀.heap.get? b = some o→b ∉ frs X.stack→∃ q,h.get? b = some q∧B.get? b = some q
 pin:∀ p ∈ X.pn,B.get? p.1 = some p.2
 cel:∀ x c,X.env.cells.lookup x = some c→∃ q,h.get? c = some q∧B.get? c = some q
section
variable {X:Cx} {σ:St} {H:Hp} {s:Shared} {B h':Heap}
end
inductive Md (B:Heap) (l:List Env) (L x:Addr) (cl:Value) (dd:Option Addr) (h:Heap):Prop where
 | new {ox:Obj} {ws:Array Value}:h.get? x = some ox→ox.cls = cl→ox.dict = dd→ox.data = .fields ws→ws[1]? = some .none→(dd ≠ none→ws[2]? = some .none)→B.StaysIn h→B.get? x = none→h.FunFrames B l→Md B l L x cl dd h
 | fly:FlyD B l x cl dd .none h→Md B l L x cl dd h
 | held:FlyD B l x cl dd (rawInt L) h→Md B l L x cl dd h
theorem Md.stays {B:Heap} {l:List Env} {L x:Addr} {cl:Value} {dd:Option Addr} {h:Heap} (m:Md B l L x cl dd h):B.StaysIn h:=by
 cases m with
 | new _ _ _ _ _ _ s _ _=>exact s
 | fly f=>exact f.stays
 | held f=>exact f.stays
def XT (X:Cx) (EX:St→XK):Value→Shared→Prop:=fun e s'=>∃ (x:Addr) (cl:Value) (dd:Option Addr) (σ:St) (H:Hp) (B:Heap),e = .ref x∧Inv X [] σ H s'∧H x = none∧X.s₀.heap.objs.size ≤ x∧Cov X B H s'.heap∧EX σ cl dd H∧Md B X.stack X.env.locals x cl dd s'.heap
def Cx.tr (X:Cx) (pins:List (Addr × Obj)) (EX:St→XK):Cx:={ X with pn:=X.pn ++ pins,xe:=XT { X with pn:=X.pn ++ pins } EX }
theorem Cx.Ok.pn {X:Cx} (ok:X.Ok) (pn:List (Addr × Obj)) (E:Value→Shared→Prop):({ X with pn:=pn,xe:=E }:Cx).Ok :=
 ⟨ok.mod,ok.kind,ok.glob,ok.blt,ok.above,ok.inj,ok.has,ok.cab,ok.hd,ok.frames,ok.stk,ok.exf,ok.bs,ok.bsz,ok.noex,ok.exfs,ok.funs,ok.frf⟩
theorem Inv.tr {X:Cx} {pins:List (Addr × Obj)} {σ:St} {H:Hp} {s:Shared} (I:Inv X pins σ H s) (EX:St→XK):Inv (X.tr pins EX) [] σ H s :=
 ⟨I.ok.pn _ _,I.os,I.bare,I.base,I.loc,I.cell,I.free,I.freeC,fun p hp=>I.pin p (by
  have:p ∈ (X.pn ++ pins) ++ []:=hp
  simpa using this),I.hok,I.len⟩
theorem Df.tr {X:Cx} (d:Df X) (pins:List (Addr × Obj)) (EX:St→XK):Df (X.tr pins EX):=⟨d.stk,d.fr,d.ex,d.fn⟩
end L2
namespace L2
open PySem PySem.Spec PyProof.Rows
section
variable {X:Cx} {CX:CXT} {k:Nat} {f:Addr} {fd:FuncData} {ps:List Str} {sp:Sp} {EX:St→XK} {x:Str} {p pos:Pos} {e:Expr} {es:List Expr} {t:TA} {ds:List Value} {dvs:List V}
end
section
variable {P:Program} {w:World} {K:PySem.W.Frag} {mg:Str→Option Value} {base:Heap}
end
section
variable {prog:Program} {w:World} {A:Around} {E:Value→Shared→Prop} {h:Heap} {g:Array GenState} {d:Drawn} {t:Nat} {os:OsState}
variable {nm q:Str} {C N:Addr} {bs bm bmB:List Value} {hdct:Bool} {sn:List Str} {sub:List Value} {ab:Bool} {col:Option Bool} {dd:Option Addr} {k0 k1 k2 k3 k5:Option Value} {B newId initId:String}
end
end L2
namespace L2
open PySem PySem.Spec PyProof.Rows Builtin Builtin.ObjectAttr
section
variable {prog:Program} {w:World} {A:Around} {E:Value→Shared→Prop} {h:Heap} {g:Array GenState} {d:Drawn} {t:Nat} {os:OsState} {C:Addr} {bmB:List Value} {B newId initId:String}
end
def jtb:Value→Bool
 | .ref _=>true
 | _=>false
theorem jtb.ex {v:Value} (h:jtb v = true):∃ a,v = .ref a:=by
 cases v <;> first | exact ⟨_,rfl⟩ | cases h
section
variable {prog:Program} {w:World} {A:Around} {E:Value→Shared→Prop} {s:Shared} {K:PySem.W.Frag} {x C t0:Addr} {dz:Option Addr} {name:Str} {v:Value} {Q:Unit→Shared→Prop}
end
end L2
namespace L2
open PySem PySem.Spec PyProof.Rows
section
variable {P:Program} {w:World} {H:Hp} {h:Heap} {a C:Addr} {dd:Option Addr} {fs:List (Str × V)}
end
section
variable {X:Cx} {pins:List (Addr × Obj)} {σ:St} {H:Hp} {s:Shared} {h':Heap} {x dx:Addr} {φ:Heap→Prop} {o1 o2:HO} {t':Nat}
end
section
variable {X:Cx} {o value e:Expr} {es:List Expr} {f x:Str} {p pos pos' apos:Pos} {ta tv:TE} {t:TA} {C T:Addr} {bmB:List Value} {B newId initId:String} {fI:Addr}
end
end L2
namespace L2
open PySem PySem.Spec PyProof.Rows
section
variable {X:Cx} {EX:St→XK} {k:Nat} {fI C:Addr} {fd:FuncData} {ps:List Str} {sp:Sp} {x:Str} {p cpos pos:Pos} {e:Expr} {es:List Expr} {t:TA} {bmB:List Value} {B newId initId:String}
end
end L2
namespace L2
open PySem PySem.Spec PyProof.Rows
section
variable {X:Cx} {pins:List (Addr × Obj)} {σ:St} {H:Hp} {s:Shared} {x:Addr} {o:HO}
end
section
variable {X:Cx} {x n:Str} {np hpos pos:Pos} {body suite:List Stmt} {b0:Stmt} {C:Addr} {mt:Value→Prop} {i:Nat} {tb:(St→XK)→TS} {th:TS}
end
end L2
namespace L2
open PySem PySem.Spec PyProof.Rows
section
variable {X:Cx} {C dx a:Addr} {fs:List (Str × V)} {H:Hp} {s:Shared}
end
end L2
namespace L2
open PySem PySem.Spec PyProof.Rows Builtin Builtin.ObjectAttr
structure XG (K:PySem.W.Frag) (C:Addr):Prop where
 ga:PySem.W.findIn K (.ref C) "__getattribute__" = some (some (.builtin "BaseException.__getattribute__"))
 gt:PySem.W.findIn K (.ref C) "__getattr__" = some none
 sub:PySem.W.mroIn K C (.type "BaseException") = some true
section
variable {prog:Program} {w:World} {A:Around} {E:Value→Shared→Prop} {s:Shared} {K:PySem.W.Frag} {x C:Addr} {ox:Obj} {od:Option Obj} {name:Str} {v:Value}
end
structure XY (K:PySem.W.Frag) (C:Addr):Prop where
 g:XG K C
 hd:PySem.W.hasDictIn K C = true
 ha:PySem.W.findIn K (.ref C) "__class__" = some (some (.builtin "object.__class__"))
 hn:PySem.W.specialIn K (.builtin "object.__class__") "__get__" = some (some (.builtin "getset_descriptor.__get__"))
 ht:PySem.W.takesIn K (.builtin "object.__class__") = some true
 hm:PySem.W.mroIn K C (.type "object") = some true
theorem XY.cls {K:PySem.W.Frag} {C:Addr} (y:XY K C):∃ c d cd sl,K.lookup C = some ⟨c,d,.cls cd,sl⟩:=by
 obtain ⟨cd,hc,_⟩:=PySem.W.any_some y.hd
 unfold PySem.W.clsIn at hc
 split at hc
 ·rename_i ho
  exact ⟨_,_,_,_,ho⟩
 ·cases hc
section
variable {X:Cx} {C dx a:Addr} {fs:List (Str × V)} {H:Hp} {s:Shared}
end
end L2
namespace L2
open PySem PySem.Spec PyProof.Rows
section
variable {X:Cx}
end
end L2
namespace L2
open PySem PySem.Spec PyProof.Rows
structure RoomH (k:Nat) (A:Around):Prop where
 dp:A.depth + 3 * k + 5 < recursionLimit
 un:A.units + 16 * k + 200 < cLine
theorem Room.h {j k:Nat} {A:Around} (r:Room k A) (h:j ≤ k):RoomH j A:=⟨(r.mono h).dp,(r.mono h).un⟩
theorem Room.hm {j k:Nat} {A:Around} {o:Option Value} (r:Room k A) (h:j ≤ k):RoomH j (A.mark o):=⟨(r.mono h).dp,(r.mono h).un⟩
theorem RoomH.mono {j k:Nat} {A:Around} (r:RoomH k A) (h:j ≤ k):RoomH j A:=⟨by have:=r.dp; omega,by have:=r.un; omega⟩
section
variable {P:Program} {w:World} {K:PySem.W.Frag} {mg:Str→Option Value} {base:Heap}
end
section
variable {X:Cx} {k:Nat} {f:Addr} {fd:FuncData} {ps:List Str} {sp:Sp} {x:Str} {p pos:Pos} {e:Expr} {es:List Expr} {t:TA}
end
section
variable {X:Cx} {C:Addr}
end
end L2
namespace L2
open PySem PySem.Spec PyProof.Rows
section
variable {X:Cx} {x n:Str} {np hpos pos:Pos} {body suite:List Stmt} {b0:Stmt} {C:Addr} {mt:Value→Prop} {tb:(St→XK)→TS} {th:TS}
end
end L2
namespace L2
open PySem PySem.Spec PyProof.Rows
section
variable {prog:Program} {w:World} {A:Around} {E:Value→Shared→Prop} {s:Shared} {C a:Addr} {bmB:List Value} {newId:String}
end
section
variable {prog:Program} {w:World} {A:Around} {E:Value→Shared→Prop} {h:Heap} {g:Array GenState} {d:Drawn} {t:Nat} {os:OsState}
variable {C:Addr} {bmB:List Value} {B newId initId:String}
end
section
variable {X:Cx} {x y:Str} {np hpos pos p cpos rpos cp:Pos} {kk:Nat} {body:List Stmt} {C D':Addr} {mt:Value→Prop} {tb:(St→XK)→TS} {EX:St→XK} {e:Expr} {es:List Expr} {t:TA} {bmB:List Value} {B newId initId:String}
end
end L2
namespace L2
open PySem PySem.Spec PyProof.Rows
open PySem.Builtin.ObjectAttr
section
variable {X:Cx} {C a:Addr} {H:Hp} {s:Shared}
end
end L2
namespace L2
open PySem PySem.Spec PyProof.Rows
def CDivB (i j:Int):Prop:=0 < j∧j < 1000000000000000000
section
variable {X:Cx}
theorem jtu:OpR X (binaryOp .FloorDiv) (fIC CDivB fun i j=>.int (i / j)):=by
 intro pins s σ H x y v u Q I rx ry h
 unfold fIC at h
 split at h
 ·rename_i i j
  obtain ⟨⟨h1,h2⟩,q⟩:=h
  obtain ⟨t,rfl⟩:=rx
  obtain ⟨t',rfl⟩:=ry
  refine floordiv_int (by omega) ?_ (.inl (PyProof.noPylong_of_log2 ?_))
  ·rw [Int.fdiv_eq_ediv_of_nonneg i (by omega)]
   exact ⟨.int (i / j),H,I.tok _,⟨_,rfl⟩,q⟩
  ·by_cases h0:j.natAbs = 0
   ·rw [h0]; decide
   ·exact Nat.lt_of_lt_of_le ((Nat.log2_lt h0).mpr (show j.natAbs < 2 ^ 60 by omega)) (by decide)
 ·exact h.elim
end
end L2
namespace L2
open PySem PySem.Spec PyProof.Rows
theorem jb9 {a b:TS} {D:Ends} {σ:St} {H:Hp} (h:∀ R,R = b→tSeq a R D σ H):tSeq a b D σ H:=h b rfl
section
variable {X:Cx}
end
end L2
namespace So
open PySem PyProof.Rows
def kv (R:Keyed→Int) (xs:Array Keyed) (i:Nat):Int:=(xs[i]?.map R).getD 0
theorem kv_at {R:Keyed→Int} {xs:Array Keyed} {i:Nat} {x:Keyed} (h:xs[i]? = some x):kv R xs i = R x:=by unfold kv; rw [h]; rfl
def Up (R:Keyed→Int) (xs:Array Keyed) (a b:Nat):Prop:=∀ i j,a ≤ i→i ≤ j→j < b→kv R xs i ≤ kv R xs j
def Fore (lo:Nat) (xs ys:Array Keyed):Prop:=∀ i,i < lo→ys[i]? = xs[i]?
theorem Fore.tr {lo:Nat} {xs ys zs:Array Keyed} (a:Fore lo xs ys) (b:Fore lo ys zs):Fore lo xs zs:=fun i h=>(b i h).trans (a i h)
structure Bs (κ:SortKind) (a₀:Array Keyed) (pd:Array (Nat × Nat × Nat)) (st:SortSt):Prop where
 perm:(arrOf st).Perm a₀
 kind:kindOf st = κ
 ok:failedOf st = none
 pend:pendingOf st = pd
section
variable {prog:Program} {w:World} {A:Around} {E:Value→Shared→Prop} {s:Shared} {R:Keyed→Int} {κ:SortKind} {a₀:Array Keyed} {pd:Array (Nat × Nat × Nat)}
theorem Bs.size {st:SortSt} (b:Bs κ a₀ pd st):(arrOf st).size = a₀.size:=b.perm.size_eq
end
end So
namespace So
open PySem PyProof.Rows
section
variable {prog:Program} {w:World} {A:Around} {E:Value→Shared→Prop} {s:Shared} {R:Keyed→Int} {κ:SortKind} {a₀:Array Keyed} {pd:Array (Nat × Nat × Nat)}
end
end So
namespace So
open PySem PyProof.Rows
def Le (R:Keyed→Int):Keyed→Keyed→Prop:=fun x y=>R x ≤ R y
def MS (R:Keyed→Int) (o la lb tot:List Keyed):Prop:=(o ++ la).Pairwise (Le R)∧(o ++ lb).Pairwise (Le R)∧(o ++ (la ++ lb)).Perm tot
def Fi (R:Keyed→Int) (l tot:List Keyed):Prop:=l.Pairwise (Le R)∧l.Perm tot
section
variable {R:Keyed→Int} {o la lb tot xs:List Keyed}
theorem MS.a (h:MS R o (xs ++ la) lb tot) (hx:∀ x ∈ xs,∀ y ∈ lb,R x ≤ R y):MS R (o ++ xs) la lb tot:=by
 obtain ⟨h1,h2,h3⟩:=h
 refine ⟨by rw [List.append_assoc]; exact h1,?_,by rw [List.append_assoc,← List.append_assoc xs]; exact h3⟩
 rw [List.append_assoc,List.pairwise_append]
 rw [List.pairwise_append] at h1 h2
 obtain ⟨o1,o2,o3⟩:=h1
 obtain ⟨p1,p2,p3⟩:=h2
 rw [List.pairwise_append] at o2
 refine ⟨o1,List.pairwise_append.mpr ⟨o2.1,p2,hx⟩,fun x m y n=>?_⟩
 rcases List.mem_append.mp n with n | n
 ·exact o3 x m y (List.mem_append_left _ n)
 ·exact p3 x m y n
theorem MS.b (h:MS R o la (xs ++ lb) tot) (hx:∀ x ∈ xs,∀ y ∈ la,R x ≤ R y):MS R (o ++ xs) la lb tot:=by
 have z:MS R o (xs ++ lb) la tot:=⟨h.2.1,h.1,(List.Perm.append_left _ List.perm_append_comm).trans h.2.2⟩
 have q:=z.a hx
 exact ⟨q.2.1,q.1,(List.Perm.append_left _ List.perm_append_comm).trans q.2.2⟩
end
section
variable {a:Array Keyed} {R:Keyed→Int} {i k:Nat}
theorem Up.le (u:Up R a 0 a.size) {j:Nat} {x y:Keyed} (hx:a[i]? = some x) (hy:a[j]? = some y) (h:i ≤ j):R x ≤ R y:=by
 have z:=u i j (Nat.zero_le _) h (Array.getElem?_eq_some_iff.mp hy).1
 rwa [kv_at hx,kv_at hy] at z
end
section
variable {M:Model} {A:Around} {E:Value→Shared→Prop} {s:Shared} {σ α:Type}
end
section
variable {R:Keyed→Int} {a b out:Array Keyed} {ia ib k:Nat} {tot:List Keyed}
end
section
variable {prog:Program} {w:World} {A:Around} {E:Value→Shared→Prop} {s:Shared} {R:Keyed→Int} {κ:SortKind} {a₀:Array Keyed} {pd:Array (Nat × Nat × Nat)}
end
end So
namespace So
open PySem PyProof.Rows
def MH (R:Keyed→Int) (la lb o tot:List Keyed):Prop:=(la ++ o).Pairwise (Le R)∧(lb ++ o).Pairwise (Le R)∧(la ++ (lb ++ o)).Perm tot
section
variable {R:Keyed→Int} {o la lb tot xs:List Keyed}
theorem MH.a (h:MH R (la ++ xs) lb o tot) (hx:∀ x ∈ xs,∀ y ∈ lb,R y ≤ R x):MH R la lb (xs ++ o) tot:=by
 obtain ⟨h1,h2,h3⟩:=h
 refine ⟨by rw [← List.append_assoc]; exact h1,?_,?_⟩
 ·rw [List.append_assoc,List.pairwise_append] at h1
  rw [List.pairwise_append] at h2 ⊢
  refine ⟨h2.1,h1.2.1,fun y hy x hx2=>?_⟩
  rcases List.mem_append.mp hx2 with n | n
  ·exact hx x n y hy
  ·exact h2.2.2 y hy x n
 ·refine List.Perm.trans ?_ h3
  rw [List.append_assoc]
  refine List.Perm.append_left _ ?_
  rw [← List.append_assoc,← List.append_assoc]
  exact List.Perm.append_right _ List.perm_append_comm
theorem MH.swap (h:MH R la lb o tot):MH R lb la o tot:=by
 refine ⟨h.2.1,h.1,List.Perm.trans ?_ h.2.2⟩
 rw [← List.append_assoc,← List.append_assoc]
 exact List.Perm.append_right _ List.perm_append_comm
theorem MH.b (h:MH R la (lb ++ xs) o tot) (hx:∀ x ∈ xs,∀ y ∈ la,R y ≤ R x):MH R la lb (xs ++ o) tot:=(h.swap.a hx).swap
theorem MH.first (h:MH R la lb o tot) (hx:∀ y ∈ lb,∀ x ∈ la,R y ≤ R x):Fi R (lb ++ la ++ o) tot:=by
 obtain ⟨h1,h2,h3⟩:=h.swap
 refine ⟨?_,by rw [List.append_assoc]; exact h3⟩
 rw [List.append_assoc]
 rw [List.pairwise_append] at h1 h2 ⊢
 refine ⟨h1.1,List.pairwise_append.mpr h2,fun y hy x hx2=>?_⟩
 rcases List.mem_append.mp hx2 with n | n
 ·exact hx y hy x n
 ·exact h1.2.2 y hy x n
end
section
variable {a:Array Keyed} {R:Keyed→Int} {i k n:Nat}
end
section
variable {R:Keyed→Int} {a b out:Array Keyed} {na nb k:Nat} {tot:List Keyed}
end
section
variable {prog:Program} {w:World} {A:Around} {E:Value→Shared→Prop} {s:Shared} {R:Keyed→Int} {κ:SortKind} {a₀:Array Keyed} {pd:Array (Nat × Nat × Nat)}
end
end So
namespace So
open PySem PyProof.Rows
section
variable {prog:Program} {w:World} {A:Around} {E:Value→Shared→Prop} {s:Shared} {R:Keyed→Int} {κ:SortKind} {a₀:Array Keyed} {pd:Array (Nat × Nat × Nat)}
end
end So
namespace So
open PySem PyProof.Rows
def two (pd:Array (Nat × Nat × Nat)):List (Nat × Nat):=pd.toList.map fun t=>(t.1,t.2.1)
def Ch (R:Keyed→Int) (xs:Array Keyed):Nat→List (Nat × Nat)→Nat→Prop
 | p,[],q=>p = q
 | p,(s,n) :: r,q=>s = p∧1 ≤ n∧Up R xs s (s + n)∧Ch R xs (s + n) r q
section
variable {R:Keyed→Int} {xs ys:Array Keyed}
theorem Ch.le:∀ {l:List (Nat × Nat)} {p q:Nat},Ch R xs p l q→p + l.length ≤ q
 | [],p,q,h=>by rw [show p = q from h]; exact Nat.le_refl _
 | (s,n) :: l,p,q,⟨a,b,c,d⟩=>by
  have z:=Ch.le d
  rw [List.length_cons]; omega
end
section
variable {prog:Program} {w:World} {A:Around} {E:Value→Shared→Prop} {s:Shared} {R:Keyed→Int} {κ:SortKind} {a₀:Array Keyed} {pd:Array (Nat × Nat × Nat)}
end
end So
namespace So
open PySem PyProof.Rows
section
variable {prog:Program} {w:World} {A:Around} {E:Value→Shared→Prop} {s:Shared}
theorem Up.all {R:Keyed→Int} {xs:Array Keyed} (u:Up R xs 0 xs.size):xs.toList.Pairwise (Le R):=by
 rw [List.pairwise_iff_getElem]
 intro i j hi hj hij
 rw [Array.length_toList] at hi hj
 exact u.le (getElem?_pos xs i hi) (getElem?_pos xs j hj) (Nat.le_of_lt hij)
def PairAt (h:Heap) (v:Value) (x y:Int):Prop:=∃ a o t u n,v = .ref a∧h.get? a = some o∧o.cls = .type "tuple"∧o.data = .seq #[.int x t,.int y u] n
end
end So
namespace L2
open PySem PySem.Spec PyProof.Rows
end L2
namespace L2
open PySem PySem.Spec PyProof.Rows
def rSum:List V→Hp→VK→Prop:=fun vs H Q=>∃ (p:Addr) (ns:List Int),vs = [.ref p]∧H p = some (.lst (ns.map V.int))∧Q (.int ns.sum) H
theorem jrg {X:Cx} (hc:X.calm = true):jda X (.builtin "sum") rSum:=by
 intro pins s σ H xs us Q I r h
 obtain ⟨p,ns,rfl,e,q⟩:=h
 obtain ⟨u,rfl,rx⟩:=jjl r
 cases rx
 obtain ⟨its,r',pl,_⟩:=I.list (SqL.of e)
 have hI:=jcm r'
 obtain ⟨zs,hz⟩:=hI.allInts.items
 have hn:=hI.numsOf
 have hl:=pl.isList
 rw [hz] at hl
 refine sum_intListG (I.ok.hd hc) hl fun h' tk t' hk=>?_
 have e2:preSum (numAt zs) zs.size = ns.sum:=by
  rw [preSum_eq,List.take_of_length_le (by simp),← hn,← nums_intItems,← hz]
 rw [e2]
 exact ⟨.int ns.sum,H,I.kept hk,⟨t',rfl⟩,q⟩
def fIsB (f:Bool→Bool):R2:=fun x y H Q=>match x,y with
 | .bl a,.bl b=>Q (.bl (f (a == b))) H
 | _,_=>False
end L2
namespace L2
open PySem PySem.Spec PyProof.Rows
theorem kv_at {kvs:List (Key × V)} {vs:List (Key × Value)} (r:KV kvs vs) {i:Nat} {k:Key} {x:Value} (e:vs[i]? = some (k,x)):∃ kv,kvs[i]? = some kv∧kv.1 = k:=by
 obtain ⟨kv,e1,e2⟩:=jbo r e
 exact ⟨kv,e1,e2.1⟩
end L2
namespace So
open PySem PyProof.Rows
section
variable {prog:Program} {w:World} {A:Around} {E:Value→Shared→Prop} {s:Shared}
section
variable {prog:Program} {w:World} {A:Around} {E:Value→Shared→Prop} {s:Shared} {R:Keyed→Int} {κ:SortKind} {a₀:Array Keyed} {pd:Array (Nat × Nat × Nat)}
end
section
variable {prog:Program} {w:World} {A:Around} {E:Value→Shared→Prop} {s:Shared}
end
end
end So
namespace L2
open PySem PySem.Spec PyProof.Rows
end L2
namespace My
open PySem L2
theorem sl0:(0 ≤ sizeLine) = True:=eq_true (by decide)
theorem sl1:(1 ≤ sizeLine) = True:=eq_true (by decide)
theorem sl2:(2 ≤ sizeLine) = True:=eq_true (by decide)
theorem sl3:(3 ≤ sizeLine) = True:=eq_true (by decide)
theorem sl4:(4 ≤ sizeLine) = True:=eq_true (by decide)
end My
local macro_rules | `(tactic| walk_at "RD") => `(tactic| try simp only [L2.fIsB, L2.tSeq, L2.jat, L2.jau, L2.tRet, L2.jaz, L2.tIfS, L2.tAsg, L2.jal, L2.fAug, L2.tOp, L2.tUn, L2.tC, L2.fVar, L2.fI, L2.fIC, L2.fNeg, L2.fEq, L2.fNe, L2.fIsN, L2.jam, L2.fAnd, L2.fOr, L2.fNot, L2.fB, L2.tNot, L2.tAnd, L2.tOr, L2.ja8, L2.fIx, L2.fLen, L2.ja1, L2.fMin, L2.fMax, L2.fInL, L2.fSlL, L2.tSl, L2.jaw, L2.ja3, L2.ja2, L2.fBM, L2.jap, L2.gSub, L2.jar, L2.ja6, L2.jaq, L2.jb4, L2.jab, L2.jaa, L2.ja9, L2.fCat, L2.jae, L2.fBM0, L2.fSlT, L2.jb1, L2.tCBK, L2.fDIn, L2.jay, L2.fIsi, L2.ja5, L2.ja7, L2.fLtT, L2.jav, L2.tCB, L2.jan, L2.tNil, L2.tTup, L2.tLst, L2.tIf, L2.jas, L2.Kd.nm, L2.jak, List.map_cons, List.map_nil, List.length_cons, List.length_nil, Nat.reduceAdd, Nat.reduceSub, List.replicate_succ, List.replicate_zero, List.getElem?_cons_zero, List.getElem?_cons_succ, List.set_cons_zero, List.set_cons_succ, List.append_nil, List.nil_append, List.cons_append, eq_self, true_and, and_true, if_true, Bool.false_eq_true, if_false, Bool.not_true, Bool.not_false, id_eq, My.sl0, My.sl1, My.sl2, My.sl3, My.sl4])
local macro_rules | `(tactic| simp_arith [$args,*]) => `(tactic| try simp only [L2.fIsB, L2.tSeq, L2.jat, L2.jau, L2.tRet, L2.jaz, L2.tIfS, L2.tAsg, L2.jal, L2.fAug, L2.tOp, L2.tUn, L2.tC, L2.fVar, L2.fI, L2.fIC, L2.fNeg, L2.fEq, L2.fNe, L2.fIsN, L2.jam, L2.fAnd, L2.fOr, L2.fNot, L2.fB, L2.tNot, L2.tAnd, L2.tOr, L2.ja8, L2.fIx, L2.fLen, L2.ja1, L2.fMin, L2.fMax, L2.fInL, L2.fSlL, L2.tSl, L2.jaw, L2.ja3, L2.ja2, L2.fBM, L2.jap, L2.gSub, L2.jar, L2.ja6, L2.jaq, L2.jb4, L2.jab, L2.jaa, L2.ja9, L2.fCat, L2.jae, L2.fBM0, L2.fSlT, L2.jb1, L2.tCBK, L2.fDIn, L2.jay, L2.fIsi, L2.ja5, L2.ja7, L2.fLtT, L2.jav, L2.tCB, L2.jan, L2.tNil, L2.tTup, L2.tLst, L2.tIf, L2.jas, L2.Kd.nm, L2.jak, List.map_cons, List.map_nil, List.length_cons, List.length_nil, Nat.reduceAdd, Nat.reduceSub, List.replicate_succ, List.replicate_zero, List.getElem?_cons_zero, List.getElem?_cons_succ, List.set_cons_zero, List.set_cons_succ, List.append_nil, List.nil_append, List.cons_append, eq_self, true_and, and_true, if_true, Bool.false_eq_true, if_false, Bool.not_true, Bool.not_false, id_eq, My.sl0, My.sl1, My.sl2, My.sl3, My.sl4, $args,*])
namespace My
open PySem L2
theorem szl {n:Nat} (h:n ≤ 1000):n ≤ sizeLine:=Nat.le_trans h (by decide)
theorem szl' {n:Nat} (h:n ≤ 1000):n < sizeLine:=Nat.lt_of_le_of_lt h (by decide)
def top (i:Nat):Stmt:=PySem.Challenge.pw_touchall_k24_whole_cheapest_of_all_halve.main.body.getD i (.Pass ⟨0,0,0,0⟩)
structure DefAt (K:PySem.W.Frag) (mg:Str→Option Value) (x:Str) (st:Stmt) (ps:List Str) (f:Addr) (fd:FuncData):Prop where
 F:Fun K x x st f fd
 b:jf7 K fd ps []
 m:mg x = some (.ref f)
structure Blt (mg:Str→Option Value):Prop where
 len:mg "len" = none
 isinstance:mg "isinstance" = none
 all:mg "all" = none
 min:mg "min" = none
 list:mg "list" = none
 dict:mg "dict" = none
 int:mg "int" = none
 bool:mg "bool" = none
 str:mg "str" = none
 tuple:mg "tuple" = none
 range:mg "range" = none
 enumerate:mg "enumerate" = none
 zip:mg "zip" = none
 max:mg "max" = none
 any:mg "any" = none
 sum:mg "sum" = none
 sorted:mg "sorted" = none
 set:mg "set" = none
structure Cst (mg:Str→Option Value) (t1 t2 t3 t4:Tok):Prop where
 MOST_PLACES:mg "MOST_PLACES" = some (.int 40 t1)
 MOST_TIES:mg "MOST_TIES" = some (.int 120 t2)
 LAST_PLACE:mg "LAST_PLACE" = some (.int 999 t3)
 MOST_PRICE:mg "MOST_PRICE" = some (.int 1000000000000 t4)
section
variable {P:Program} {w:World} {K:PySem.W.Frag} {mg:Str→Option Value} {base:Heap} {c1 c2 c3 c4:Tok}
theorem at0 {α:Type} {x:α} {r:List α}:atI (x :: r) 0 = some x:=by
 have e:atI (x :: r) ((0:Nat):Int) = some x:=jbz rfl
 exact e
theorem at1 {α:Type} {x y:α} {r:List α}:atI (x :: y :: r) 1 = some y:=by
 have e:atI (x :: y :: r) ((1:Nat):Int) = some y:=jbz rfl
 exact e
theorem at2 {α:Type} {x y z:α} {r:List α}:atI (x :: y :: z :: r) 2 = some z:=by
 have e:atI (x :: y :: z :: r) ((2:Nat):Int) = some z:=jbz rfl
 exact e
def jfm:Kd→Bool
 | .int=>true
 | _=>false
def jib:Sp:=fun vs H Q _=>∃ x k,vs = [x]∧kd H x = some k∧Q (.bl (jfm k)) H
def jgd:Sp:=fun vs H Q _=>∃ a xs m,vs = [.ref a,.int m]∧H a = some (.tup xs)∧Q (.bl (decide ((xs.length:Int) = m))) H
def jfa:Sp:=fun vs H Q _=>∃ a xs m,vs = [.ref a,.int m]∧H a = some (.lst xs)∧Q (.bl (decide ((xs.length:Int) ≤ m))) H
def jol:Sp:=fun vs H Q _=>∃ x p,vs = [x]∧Pr H x p∧Q (.bl true) H
def jer:Sp:=fun vs H Q _=>∃ x p l s,vs = [x,.int l,.int s]∧Pr H x p∧(l < p.1∧p.1 ≤ 999∧1 ≤ p.2∧p.2 ≤ 1000000000000 - s)∧Q (.bl true) H
def hasK (kvs:List (Key × V)) (n:Int):Bool:=(valV kvs (Sum.inl n:Key)).isSome
def jge:Sp:=fun vs H Q _=>∃ x p y q d kvs,vs = [x,y,.ref d]∧Pr H x p∧Pr H y q∧H d = some (.dK kvs)∧(HT.lexLt [q.1,q.2] [p.1,p.2] = true∧p.1 < p.2∧hasK kvs p.1 = true∧hasK kvs p.2 = true)∧Q (.bl true) H
theorem jlf {f:Addr} {fd:FuncData}  (B:Blt mg) (D:DefAt K mg "is_whole" (top 7) ["thing"] f fd):FnOk P w K mg base CX0 1 f fd ["thing"] jib:=by
 have sc:FnScope ["thing"] ["thing"] (jbc (top 7)):=⟨rfl,rfl,rfl,by decide +kernel,rfl,by decide +kernel,by decide +kernel⟩
 refine D.F.ok sc (fun vs H Q E h=>?_) (fun cdv A outer s H vs Q E hr h=>?_)
 ·obtain ⟨x,k,rfl,_⟩:=h
  rfl
 obtain ⟨x,k,rfl,ek,h⟩:=h
 have hu:=jc8 hr
 have hu0:_ < PySem.cLine:=Nat.lt_of_succ_lt hu
 refine ⟨_,(jb8 (jbq (jes (jbf (jk3 .int) rfl B.isinstance PyProof.Rows.boot_isinstance (ja0 (qv 0) (ja0 (jdy (v:=.ty "int") rfl B.int PyProof.Rows.boot_int rfl) jag))) (jev (q_not (jbf (jk3 .bl) rfl B.isinstance PyProof.Rows.boot_isinstance (ja0 (qv 0) (ja0 (jdy (v:=.ty "bool") rfl B.bool PyProof.Rows.boot_bool rfl) jag)))))))),?_⟩
 simp_arith [ek]
 cases k <;> simpa only [isi,jfm,if_true,if_false,Bool.false_eq_true,Bool.not_true,Bool.not_false] using h
theorem jhh {f:Addr} {fd:FuncData}  (B:Blt mg) (D:DefAt K mg "is_tuple_of" (top 8) ["thing","many"] f fd):FnOk P w K mg base CX0 1 f fd ["thing","many"] jgd:=by
 have sc:FnScope ["thing","many"] ["thing","many"] (jbc (top 8)):=⟨rfl,rfl,rfl,by decide +kernel,rfl,by decide +kernel,by decide +kernel⟩
 refine D.F.ok sc (fun vs H Q E h=>?_) (fun cdv A outer s H vs Q E hr h=>?_)
 ·obtain ⟨a,xs,m,rfl,_⟩:=h
  rfl
 obtain ⟨a,xs,m,rfl,ea,h⟩:=h
 have hu:=jc8 hr
 have hu0:_ < PySem.cLine:=Nat.lt_of_succ_lt hu
 refine ⟨_,(jb8 (jbq (jes (jbf (jk3 .tup) rfl B.isinstance PyProof.Rows.boot_isinstance (ja0 (qv 0) (ja0 (jdy (v:=.ty "tuple") rfl B.tuple PyProof.Rows.boot_tuple rfl) jag))) (jev (jd7 q_eq (jbf jdv rfl B.len PySem.boot_len (ja0 (qv 0) jag)) (qv 1) (jc5 _)))))),?_⟩
 simp_arith [kd,ea,jbl,isi]
 exact h
theorem jfx {f:Addr} {fd:FuncData}  (B:Blt mg) (D:DefAt K mg "is_list_up_to" (top 10) ["thing","most"] f fd):FnOk P w K mg base CX0 1 f fd ["thing","most"] jfa:=by
 have sc:FnScope ["thing","most"] ["thing","most"] (jbc (top 10)):=⟨rfl,rfl,rfl,by decide +kernel,rfl,by decide +kernel,by decide +kernel⟩
 refine D.F.ok sc (fun vs H Q E h=>?_) (fun cdv A outer s H vs Q E hr h=>?_)
 ·obtain ⟨a,xs,m,rfl,_⟩:=h
  rfl
 obtain ⟨a,xs,m,rfl,ea,h⟩:=h
 have hu:=jc8 hr
 have hu0:_ < PySem.cLine:=Nat.lt_of_succ_lt hu
 refine ⟨_,(jb8 (jbq (jes (jbf (jk3 .lst) rfl B.isinstance PyProof.Rows.boot_isinstance (ja0 (qv 0) (ja0 (jdy (v:=.ty "list") rfl B.list PyProof.Rows.boot_list rfl) jag))) (jev (jd7 q_le (jbf jdv rfl B.len PySem.boot_len (ja0 (qv 0) jag)) (qv 1) (jc5 _)))))),?_⟩
 simp_arith [kd,ea,jbl,isi]
 exact h
theorem jec {f:Addr} {fd:FuncData} {f_is_tuple_of:Addr} {d_is_tuple_of:FuncData} {f_is_whole:Addr} {d_is_whole:FuncData} (B:Blt mg) (D:DefAt K mg "is_pair_of_wholes" (top 9) ["thing"] f fd) (D_is_tuple_of:DefAt K mg "is_tuple_of" (top 8) ["thing","many"] f_is_tuple_of d_is_tuple_of) (G_is_tuple_of:FnOk P w K mg base CX0 1 f_is_tuple_of d_is_tuple_of ["thing","many"] jgd) (D_is_whole:DefAt K mg "is_whole" (top 7) ["thing"] f_is_whole d_is_whole) (G_is_whole:FnOk P w K mg base CX0 1 f_is_whole d_is_whole ["thing"] jib):FnOk P w K mg base CX0 2 f fd ["thing"] jol:=by
 have sc:FnScope ["thing"] ["thing"] (jbc (top 9)):=⟨rfl,rfl,rfl,by decide +kernel,rfl,by decide +kernel,by decide +kernel⟩
 refine D.F.ok sc (fun vs H Q E h=>?_) (fun cdv A outer s H vs Q E hr h=>?_)
 ·obtain ⟨x,p,rfl,_⟩:=h
  rfl
 obtain ⟨x,p,rfl,⟨a,rfl,ea⟩,h⟩:=h
 have hu:=jc8 hr
 have hu0:_ < PySem.cLine:=Nat.lt_of_succ_lt hu
 refine ⟨_,(jb8 (jbq (jes (jbe G_is_tuple_of (hr.mono (by decide)) rfl D_is_tuple_of.m D_is_tuple_of.F.kp D_is_tuple_of.b .nil jbu (ja0 (qv 0) (ja0 jah jag))) (jes (jbe G_is_whole (hr.mono (by decide)) rfl D_is_whole.m D_is_whole.F.kp D_is_whole.b .nil jbu (ja0 (jbh q_ix (qv 0) jah (fun _ _=>rfl)) jag)) (jev (jbe G_is_whole (hr.mono (by decide)) rfl D_is_whole.m D_is_whole.F.kp D_is_whole.b .nil jbu (ja0 (jbh q_ix (qv 0) jah (fun _ _=>rfl)) jag))))))),?_⟩
 simp_arith [jbl,ea,at0,at1]
 refine ⟨a,_,2,rfl,ea,?_⟩
 simp_arith [jbl,ea,at0,at1,Int.cast_ofNat_Int,decide_true]
 refine ⟨_,.int,rfl,rfl,?_⟩
 simp_arith [jfm,jbl,ea,at0,at1]
 exact ⟨_,.int,rfl,rfl,h⟩
theorem jgp {f:Addr} {fd:FuncData} {f_is_pair_of_wholes:Addr} {d_is_pair_of_wholes:FuncData} (B:Blt mg) (C:Cst mg c1 c2 c3 c4) (D:DefAt K mg "place_stands" (top 20) ["thing","last","spent"] f fd) (D_is_pair_of_wholes:DefAt K mg "is_pair_of_wholes" (top 9) ["thing"] f_is_pair_of_wholes d_is_pair_of_wholes) (G_is_pair_of_wholes:FnOk P w K mg base CX0 2 f_is_pair_of_wholes d_is_pair_of_wholes ["thing"] jol):FnOk P w K mg base CX0 3 f fd ["thing","last","spent"] jer:=by
 have sc:FnScope ["thing","last","spent"] ["thing","last","spent"] (jbc (top 20)):=⟨rfl,rfl,rfl,by decide +kernel,rfl,by decide +kernel,by decide +kernel⟩
 refine D.F.ok sc (fun vs H Q E h=>?_) (fun cdv A outer s H vs Q E hr h=>?_)
 ·obtain ⟨x,p,l,s,rfl,_⟩:=h
  rfl
 obtain ⟨x,p,l,sp,rfl,hp,⟨b1,b2,b3,b4⟩,h⟩:=h
 obtain ⟨a,rfl,ea⟩:=id hp
 have hu:=jc8 hr
 have hu0:_ < PySem.cLine:=Nat.lt_of_succ_lt hu
 refine ⟨_,(jaf (jdc (jd3 (jd2 (jbe G_is_pair_of_wholes (hr.mono (by decide)) rfl D_is_pair_of_wholes.m D_is_pair_of_wholes.F.kp D_is_pair_of_wholes.b .nil jbu (ja0 (qv 0) jag)))) (jb8 (jbq jef)) jc2) (jb8 (jbq (jes (jp8 q_lt q_le (qv 1) (jbh q_ix (qv 0) jah (fun _ _=>rfl)) (jd0 (v:=.int 999) rfl C.LAST_PLACE ⟨_,rfl⟩)) (jev (jp8 q_le q_le jah (jbh q_ix (qv 0) jah (fun _ _=>rfl)) (jbv jrh (jd0 (v:=.int 1000000000000) rfl C.MOST_PRICE ⟨_,rfl⟩) (qv 2)))))))),?_⟩
 walk_at "RD"
 refine ⟨_,p,rfl,hp,?_⟩
 simp_arith [jbl,ea,at0,at1,decide_eq_true b1,decide_eq_true b2,decide_eq_true b3,decide_eq_true b4]
 exact h
theorem jiq {f:Addr} {fd:FuncData} {f_is_pair_of_wholes:Addr} {d_is_pair_of_wholes:FuncData} (B:Blt mg) (D:DefAt K mg "tie_stands" (top 21) ["thing","last","prices"] f fd) (D_is_pair_of_wholes:DefAt K mg "is_pair_of_wholes" (top 9) ["thing"] f_is_pair_of_wholes d_is_pair_of_wholes) (G_is_pair_of_wholes:FnOk P w K mg base CX0 2 f_is_pair_of_wholes d_is_pair_of_wholes ["thing"] jol):FnOk P w K mg base CX0 3 f fd ["thing","last","prices"] jge:=by
 have sc:FnScope ["thing","last","prices"] ["thing","last","prices"] (jbc (top 21)):=⟨rfl,rfl,rfl,by decide +kernel,rfl,by decide +kernel,by decide +kernel⟩
 refine D.F.ok sc (fun vs H Q E h=>?_) (fun cdv A outer s H vs Q E hr h=>?_)
 ·obtain ⟨x,p,y,q,d,kvs,rfl,_⟩:=h
  rfl
 obtain ⟨x,p,y,q,d,kvs,rfl,hp,hq,hd,⟨b1,b2,b3,b4⟩,h⟩:=h
 obtain ⟨a,rfl,ea⟩:=id hp
 obtain ⟨b,rfl,eb⟩:=id hq
 unfold hasK at b3 b4
 have hu:=jc8 hr
 have hu0:_ < PySem.cLine:=Nat.lt_of_succ_lt hu
 refine ⟨_,(jaf (jdc (jd3 (jd2 (jbe G_is_pair_of_wholes (hr.mono (by decide)) rfl D_is_pair_of_wholes.m D_is_pair_of_wholes.F.kp D_is_pair_of_wholes.b .nil jbu (ja0 (qv 0) jag)))) (jb8 (jbq jef)) jc2) (jb8 (jbq (jes (jd7 (q_ltT hu0) (qv 1) (qv 0) (jc5 _)) (jes (jd7 q_lt (jbh q_ix (qv 0) jah (fun _ _=>rfl)) (jbh q_ix (qv 0) jah (fun _ _=>rfl)) (jc5 _)) (jes (jt5 (jrk hu (jbh q_ix (qv 0) jah (fun _ _=>rfl)) (qv 2))) (jev (jt5 (jrk hu (jbh q_ix (qv 0) jah (fun _ _=>rfl)) (qv 2)))))))))),?_⟩
 walk_at "RD"
 refine ⟨_,p,rfl,hp,?_⟩
 simp_arith [jbl,ea,eb,hd,at0,at1,b1,decide_eq_true b2,b3,b4]
 exact h
end
end My
namespace My
open PySem L2
section
variable {P:Program} {w:World} {K:PySem.W.Frag} {mg:Str→Option Value} {base:Heap} {c1 c2 c3 c4:Tok}
def PlOk:Int→Int→List (Int × Int)→Prop
 | _,_,[]=>True
 | l,s,p :: r=>(l < p.1∧p.1 ≤ 999∧1 ≤ p.2∧p.2 ≤ 1000000000000 - s)∧PlOk p.1 (s + p.2) r
def jce (ps:List (Int × Int)):List (Key × V):=ps.map fun p=>(Sum.inl p.1,V.int p.2)
def TiOk (kvs:List (Key × V)):Int × Int→List (Int × Int)→Prop
 | _,[]=>True
 | q,p :: r=>(HT.lexLt [q.1,q.2] [p.1,p.2] = true∧p.1 < p.2∧hasK kvs p.1 = true∧hasK kvs p.2 = true)∧TiOk kvs p r
structure WebOk (ps ts:List (Int × Int)):Prop where
 pl:ps.length ≤ 40
 p:PlOk (-1) 0 ps
 tl:ts.length ≤ 120
 t:TiOk (jce ps) (-1,-1) ts
def jdh (H:Hp) (v:V) (ps ts:List (Int × Int)):Prop :=
 ∃ u pa ta xs ys,v = .ref u∧H u = some (.tup [.ref pa,.ref ta])∧H pa = some (.lst xs)∧H ta = some (.lst ys)∧Prs H xs ps∧Prs H ys ts
theorem jdh.same {H H':Hp} {v:V} {ps ts:List (Int × Int)} (h:jdh H v ps ts) (s:Same H H'):jdh H' v ps ts:=by
 obtain ⟨u,pa,ta,xs,ys,e,h1,h2,h3,h4,h5⟩:=h
 exact ⟨u,pa,ta,xs,ys,e,s _ _ h1,s _ _ h2,s _ _ h3,Prs.same s h4,Prs.same s h5⟩
theorem PlOk.gt:∀ {ps:List (Int × Int)} {l s:Int},PlOk l s ps→∀ p ∈ ps,l < p.1
 | [],_,_,_,_,h=>by cases h
 | q :: r,l,s,h,p,hp=>by
  rcases List.mem_cons.mp hp with e | hp
  ·rw [e]; exact h.1.1
  ·have:=PlOk.gt h.2 p hp
   have:=h.1.1
   omega
theorem PlOk.nodup:∀ {ps:List (Int × Int)} {l s:Int},PlOk l s ps→(ps.map (·.1)).Nodup
 | [],_,_,_=>List.nodup_nil
 | q :: r,l,s,h=>by
  rw [List.map_cons]
  refine List.nodup_cons.mpr ⟨fun hm=>?_,PlOk.nodup h.2⟩
  obtain ⟨p,hp,e⟩:=List.mem_map.mp hm
  have:=PlOk.gt h.2 p hp
  omega
theorem je7 {ps:List (Int × Int)} (h:(ps.map (·.1)).Nodup):((jce ps).map (·.1)).Nodup:=by
 unfold jce
 rw [List.map_map]
 have e:((fun (x:Key × V)=>x.1) ∘ fun (p:Int × Int)=>((Sum.inl p.1:Key),V.int p.2)) = (fun (n:Int)=>(Sum.inl n:Key)) ∘ fun (p:Int × Int)=>p.1:=rfl
 rw [e,← List.map_map]
 unfold List.Nodup at h ⊢
 rw [List.pairwise_map]
 exact h.imp fun q z=>q (Sum.inl.inj z)
theorem jew {H:Hp}:∀ {xs:List V} {ps:List (Int × Int)},Prs H xs ps→Paired (PairAt H) xs (jce ps)
 | _,_,.nil=>.nil
 | _,_,.cons r t=>by
  obtain ⟨a,e,q⟩:=r
  exact .cons ⟨a,e,q⟩ (jew t)
theorem jee:∀ {ps:List (Int × Int)} {p:Int × Int},(ps.map (·.1)).Nodup→p ∈ ps→valV (jce ps) (Sum.inl p.1:Key) = some (.int p.2)
 | [],_,_,h=>by cases h
 | q :: r,p,hn,h=>by
  rw [List.map_cons] at hn
  unfold jce valV
  rw [List.map_cons,List.find?_cons]
  rcases List.mem_cons.mp h with e | h
  ·rw [e]
   simp
  ·have hne:q.1 ≠ p.1:=fun z=>(List.nodup_cons.mp hn).1 (by rw [z]; exact List.mem_map_of_mem h)
   have hd:decide ((Sum.inl q.1:Key) = Sum.inl p.1) = false:=decide_eq_false fun z=>hne (Sum.inl.inj z)
   dsimp only
   rw [hd]
   exact jee (List.nodup_cons.mp hn).2 h
theorem jq9 {ps:List (Int × Int)} {p:Int × Int} (hn:(ps.map (·.1)).Nodup) (h:p ∈ ps):hasK (jce ps) p.1 = true:=by
 unfold hasK
 rw [jee hn h]
 rfl
def jfo:Sp:=fun vs H Q _=>∃ a xs ps,vs = [.ref a]∧H a = some (.lst xs)∧Prs H xs ps∧ps.length ≤ 40∧PlOk (-1) 0 ps∧∀ H',Same H H'→Q .non H'
def jhp:Sp:=fun vs H Q _=>∃ a d xs ts kvs,vs = [.ref a,.ref d]∧H a = some (.lst xs)∧H d = some (.dK kvs)∧Prs H xs ts∧ts.length ≤ 120∧TiOk kvs (-1,-1) ts∧∀ H',Same H H'→Q .non H'
def jgf:Sp:=fun vs H Q _=>∃ v ps ts,vs = [v]∧jdh H v ps ts∧WebOk ps ts∧∀ H',Same H H'→Q .non H'
theorem jfd {f:Addr} {fd:FuncData} {f_is_list_up_to:Addr} {d_is_list_up_to:FuncData} {f_place_stands:Addr} {d_place_stands:FuncData} (B:Blt mg) (C:Cst mg c1 c2 c3 c4) (D:DefAt K mg "look_at_places" (top 22) ["places"] f fd) (D_is_list_up_to:DefAt K mg "is_list_up_to" (top 10) ["thing","most"] f_is_list_up_to d_is_list_up_to) (G_is_list_up_to:FnOk P w K mg base CX0 1 f_is_list_up_to d_is_list_up_to ["thing","most"] jfa) (D_place_stands:DefAt K mg "place_stands" (top 20) ["thing","last","spent"] f_place_stands d_place_stands) (G_place_stands:FnOk P w K mg base CX0 3 f_place_stands d_place_stands ["thing","last","spent"] jer):FnOk P w K mg base CX0 4 f fd ["places"] jfo:=by
 have sc:FnScope ["places","last","spent","number","thing"] ["places"] (jbc (top 22)):=⟨rfl,rfl,rfl,by decide +kernel,rfl,by decide +kernel,by decide +kernel⟩
 refine D.F.ok sc (fun vs H Q E h=>?_) (fun cdv A outer s H vs Q E hr h=>?_)
 ·obtain ⟨a,xs,ps,rfl,_⟩:=h
  rfl
 obtain ⟨a,xs,ps,rfl,ea,hp,hl,ok,h⟩:=h
 have hlx:xs.length = ps.length:=Paired.length hp
 have hu:=jc8 hr
 have hu0:_ < PySem.cLine:=Nat.lt_of_succ_lt hu
 refine ⟨_,(jaf (jdc (jd3 (jd2 (jbe G_is_list_up_to (hr.mono (by decide)) rfl D_is_list_up_to.m D_is_list_up_to.F.kp D_is_list_up_to.b .nil jbu (ja0 (qv 0) (ja0 (jd0 (v:=.int 40) rfl C.MOST_PLACES ⟨_,rfl⟩) jag))))) (jb8 jet) jc2) (jaf (jbi (i:=1) sc.nd rfl (Or.inl rfl) (jng jne jah)) (jaf (jbi (i:=2) sc.nd rfl (Or.inl rfl) jah) (jb8 (jcv PassesOwn.never rfl (jio rfl B.enumerate (ja0 (qv 0) jag)) (jcl (n:=2) rfl (jbg (jbb (i:=3) sc.nd rfl (Or.inl rfl)) (jbg (jbb (i:=4) sc.nd rfl (Or.inl rfl)) jc9))) (jaf (jdc (jd3 (jd2 (jbe G_place_stands (hr.mono (by decide)) rfl D_place_stands.m D_place_stands.F.kp D_place_stands.b .nil jbu (ja0 (qv 4) (ja0 (qv 1) (ja0 (qv 2) jag)))))) (jb8 jet) jc2) (jaf (jbi (i:=1) sc.nd rfl (Or.inl rfl) (jbh q_ix (qv 4) jah (fun _ _=>rfl))) (jb8 (jmh (i:=2) sc.nd rfl (Or.inl rfl) (jbh q_ix (qv 4) jah (fun _ _=>rfl)) jp5))))))))),?_⟩
 walk_at "RD"
 refine ⟨a,xs,40,rfl,ea,?_⟩
 rw [decide_eq_true (show (xs.length:Int) ≤ 40 by omega)]
 walk_at "RD"
 refine ⟨a,rfl,⟨xs,SqL.of ea⟩,jj8 (K:=K) (a:=a) (xs:=xs) (fun i σ H1=>∃ l sp nb th,σ = [some (.ref a),some (.int l),some (.int sp),nb,th]∧Same H H1∧PlOk l sp (ps.drop i)) ⟨-1,0,none,none,rfl,Same.refl _,ok⟩ (fun i σ H1 _ ⟨_,_,_,_,_,s1,_⟩=>SqL.of (s1 _ _ ea)) ?_ ?_⟩
 ·rintro i x σ H1 t hi ⟨l,sp,nb,th,rfl,s1,ok1⟩ ht
  obtain ⟨p,hpi,px⟩:=jbn hp hi
  rw [jez hpi] at ok1
  have s2:Same H (upd H1 t (.tup [.int i,x])):=s1.trans (jai ht _)
  have px2:=px.same s2
  obtain ⟨u,rfl,eu⟩:=id px2
  simp_arith [ja4]
  refine ⟨_,p,l,sp,rfl,px2,ok1.1,?_⟩
  simp_arith [jbl,eu,at0,at1]
  exact ⟨_,_,_,_,rfl,s2,ok1.2⟩
 ·rintro σ H1 ⟨l,sp,nb,th,rfl,s1,_⟩
  exact h H1 s1
theorem jgr {f:Addr} {fd:FuncData} {f_is_list_up_to:Addr} {d_is_list_up_to:FuncData} {f_tie_stands:Addr} {d_tie_stands:FuncData} (B:Blt mg) (C:Cst mg c1 c2 c3 c4) (D:DefAt K mg "look_at_ties" (top 23) ["ties","prices"] f fd) (D_is_list_up_to:DefAt K mg "is_list_up_to" (top 10) ["thing","most"] f_is_list_up_to d_is_list_up_to) (G_is_list_up_to:FnOk P w K mg base CX0 1 f_is_list_up_to d_is_list_up_to ["thing","most"] jfa) (D_tie_stands:DefAt K mg "tie_stands" (top 21) ["thing","last","prices"] f_tie_stands d_tie_stands) (G_tie_stands:FnOk P w K mg base CX0 3 f_tie_stands d_tie_stands ["thing","last","prices"] jge):FnOk P w K mg base CX0 4 f fd ["ties","prices"] jhp:=by
 have sc:FnScope ["ties","prices","last","number","thing"] ["ties","prices"] (jbc (top 23)):=⟨rfl,rfl,rfl,by decide +kernel,rfl,by decide +kernel,by decide +kernel⟩
 refine D.F.ok sc (fun vs H Q E h=>?_) (fun cdv A outer s H vs Q E hr h=>?_)
 ·obtain ⟨a,d,xs,ts,kvs,rfl,_⟩:=h
  rfl
 obtain ⟨a,d,xs,ts,kvs,rfl,ea,ed,hp,hl,ok,h⟩:=h
 have hlx:xs.length = ts.length:=Paired.length hp
 have hu:=jc8 hr
 have hu0:_ < PySem.cLine:=Nat.lt_of_succ_lt hu
 refine ⟨_,(jaf (jdc (jd3 (jd2 (jbe G_is_list_up_to (hr.mono (by decide)) rfl D_is_list_up_to.m D_is_list_up_to.F.kp D_is_list_up_to.b .nil jbu (ja0 (qv 0) (ja0 (jd0 (v:=.int 120) rfl C.MOST_TIES ⟨_,rfl⟩) jag))))) (jb8 jet) jc2) (jaf (jbi (i:=2) sc.nd rfl (Or.inl rfl) (jch (ja0 (jng jne jah) (ja0 (jng jne jah) jag)))) (jb8 (jcv PassesOwn.never rfl (jio rfl B.enumerate (ja0 (qv 0) jag)) (jcl (n:=2) rfl (jbg (jbb (i:=3) sc.nd rfl (Or.inl rfl)) (jbg (jbb (i:=4) sc.nd rfl (Or.inl rfl)) jc9))) (jaf (jdc (jd3 (jd2 (jbe G_tie_stands (hr.mono (by decide)) rfl D_tie_stands.m D_tie_stands.F.kp D_tie_stands.b .nil jbu (ja0 (qv 4) (ja0 (qv 2) (ja0 (qv 1) jag)))))) (jb8 jet) jc2) (jb8 (jbi (i:=2) sc.nd rfl (Or.inl rfl) (qv 4)))))))),?_⟩
 walk_at "RD"
 refine ⟨a,xs,120,rfl,ea,?_⟩
 rw [decide_eq_true (show (xs.length:Int) ≤ 120 by omega)]
 walk_at "RD"
 intro t0 ht0
 refine ⟨a,rfl,⟨xs,SqL.of (jai ht0 _ _ _ ea)⟩,jj8 (K:=K) (a:=a) (xs:=xs) (fun i σ H1=>∃ lv q nb th,σ = [some (.ref a),some (.ref d),some lv,nb,th]∧Same H H1∧Pr H1 lv q∧TiOk kvs q (ts.drop i)) ⟨_,(-1,-1),none,none,rfl,jai ht0 _,⟨t0,rfl,ja4⟩,ok⟩ (fun i σ H1 _ ⟨_,_,_,_,_,s1,_⟩=>SqL.of (s1 _ _ ea)) ?_ ?_⟩
 ·rintro i x σ H1 t hi ⟨lv,q,nb,th,rfl,s1,pq,ok1⟩ ht
  obtain ⟨p,hpi,px⟩:=jbn hp hi
  rw [jez hpi] at ok1
  have s2:Same H (upd H1 t (.tup [.int i,x])):=s1.trans (jai ht _)
  have px2:=px.same s2
  simp_arith [ja4]
  refine ⟨_,p,_,q,d,kvs,rfl,px2,pq.same (jai ht _),s2 _ _ ed,ok1.1,?_⟩
  walk_at "RD"
  exact ⟨_,_,_,_,rfl,s2,px2,ok1.2⟩
 ·rintro σ H1 ⟨lv,q,nb,th,rfl,s1,_⟩
  exact h H1 s1
theorem jhf {f:Addr} {fd:FuncData} {f_is_tuple_of:Addr} {d_is_tuple_of:FuncData} {f_look_at_places:Addr} {d_look_at_places:FuncData} {f_look_at_ties:Addr} {d_look_at_ties:FuncData} (B:Blt mg) (D:DefAt K mg "look_at_web" (top 24) ["thing"] f fd) (D_is_tuple_of:DefAt K mg "is_tuple_of" (top 8) ["thing","many"] f_is_tuple_of d_is_tuple_of) (G_is_tuple_of:FnOk P w K mg base CX0 1 f_is_tuple_of d_is_tuple_of ["thing","many"] jgd) (D_look_at_places:DefAt K mg "look_at_places" (top 22) ["places"] f_look_at_places d_look_at_places) (G_look_at_places:FnOk P w K mg base CX0 4 f_look_at_places d_look_at_places ["places"] jfo) (D_look_at_ties:DefAt K mg "look_at_ties" (top 23) ["ties","prices"] f_look_at_ties d_look_at_ties) (G_look_at_ties:FnOk P w K mg base CX0 4 f_look_at_ties d_look_at_ties ["ties","prices"] jhp):FnOk P w K mg base CX0 5 f fd ["thing"] jgf:=by
 have sc:FnScope ["thing"] ["thing"] (jbc (top 24)):=⟨rfl,rfl,rfl,by decide +kernel,rfl,by decide +kernel,by decide +kernel⟩
 refine D.F.ok sc (fun vs H Q E h=>?_) (fun cdv A outer s H vs Q E hr h=>?_)
 ·obtain ⟨v,ps,ts,rfl,_⟩:=h
  rfl
 obtain ⟨v,ps,ts,rfl,hw,ok,h⟩:=h
 obtain ⟨u,pa,ta,xs,ys,rfl,eu,ep,et,pp,pt⟩:=hw
 have hlx:xs.length = ps.length:=Paired.length pp
 have okl:=ok.pl
 have hu:=jc8 hr
 have hu0:_ < PySem.cLine:=Nat.lt_of_succ_lt hu
 refine ⟨_,(jaf (jdc (jd3 (jd2 (jbe G_is_tuple_of (hr.mono (by decide)) rfl D_is_tuple_of.m D_is_tuple_of.F.kp D_is_tuple_of.b .nil jbu (ja0 (qv 0) (ja0 jah jag))))) (jb8 jet) jc2) (jaf (jcb (jbe G_look_at_places (hr.mono (by decide)) rfl D_look_at_places.m D_look_at_places.F.kp D_look_at_places.b .nil jbu (ja0 (jbh q_ix (qv 0) jah (fun _ _=>rfl)) jag))) (jb8 (jcb (jbe G_look_at_ties (hr.mono (by decide)) rfl D_look_at_ties.m D_look_at_ties.F.kp D_look_at_ties.b .nil jbu (ja0 (jbh q_ix (qv 0) jah (fun _ _=>rfl)) (ja0 (jcw (jgk rfl) rfl B.dict PyProof.Rows.boot_dict (ja0 (jbh q_ix (qv 0) jah (fun _ _=>rfl)) jag)) jag))))))),?_⟩
 walk_at "RD"
 refine ⟨u,_,2,rfl,eu,?_⟩
 simp_arith [jbl,eu,at0,at1,Int.cast_ofNat_Int,decide_true]
 refine ⟨pa,xs,ps,rfl,ep,pp,ok.pl,ok.p,fun H1 s1=>?_⟩
 simp_arith [jbl,s1 _ _ eu,s1 _ _ ep,at0,at1]
 refine ⟨jce ps,jew (Prs.same s1 pp),by omega,je7 ok.p.nodup,fun d hd=>?_⟩
 have s2:Same H (upd H1 d (.dK (jce ps))):=s1.trans (jai hd _)
 exact ⟨ta,d,ys,ts,_,rfl,s2 _ _ et,ja4,Prs.same s2 pt,ok.tl,ok.t,fun H3 s3=>h H3 (s2.trans s3)⟩
end
end My
namespace My
open PySem L2
section
variable {P:Program} {w:World} {K:PySem.W.Frag} {mg:Str→Option Value} {base:Heap} {c1 c2 c3 c4:Tok}
theorem ix30:ixN 3 0 = some 0:=rfl
theorem ix31:ixN 3 1 = some 1:=rfl
theorem ix32:ixN 3 2 = some 2:=rfl
def StO (o:HO):Prop:=∃ c st fl,o = .lst [.int c,.int st,.bl fl]∧0 ≤ st∧st < 4294967296
theorem StO.imm {o:HO} (h:StO o):jui o = false:=by obtain ⟨_,_,_,rfl,_⟩:=h; rfl
def jow (K:PySem.W.Frag):Sp:=fun vs H Q _=>∃ a k ns,vs = [.ref a,.int k]∧Scr K H a ns∧0 ≤ k∧k ≤ 1000∧∀ s o,H s = none→StO o→Q (.ref s) (upd H s o)
def jjz:Sp:=fun vs H Q _=>∃ s o m,vs = [.ref s,.int m]∧H s = some o∧StO o∧1 ≤ m∧m < 1000000000000000000∧∀ d o,0 ≤ d→d < m→StO o→Q (.int d) (upd H s o)
theorem cmR {i j:Int} (h1:-(2 ^ 64) < j) (h2:j < 2 ^ 64):CMul i j:=.inr ⟨h1,h2⟩
theorem cmL {i j:Int} (h1:-(2 ^ 64) < i) (h2:i < 2 ^ 64):CMul i j:=.inl ⟨h1,h2⟩
def Dr:Int→List (Int × Int)→Prop
 | _,[]=>True
 | l,p :: r=>(l < p.1∧p.1 ≤ l + 23∧1 ≤ p.2∧p.2 ≤ 1000000000)∧Dr p.1 r
def jpz (l:Int):List (Int × Int)→Int
 | []=>l
 | p :: r=>jpz p.1 r
theorem Dr.snoc:∀ {ps:List (Int × Int)} {l:Int} {p:Int × Int},Dr l ps→(jpz l ps < p.1∧p.1 ≤ jpz l ps + 23∧1 ≤ p.2∧p.2 ≤ 1000000000)→Dr l (ps ++ [p])
 | [],_,_,_,h=>⟨h,trivial⟩
 | q :: r,_,_,h,h2=>⟨h.1,Dr.snoc h.2 h2⟩
theorem jhy:∀ {ps:List (Int × Int)} {l:Int} {p:Int × Int},jpz l (ps ++ [p]) = p.1
 | [],_,_=>rfl
 | q :: r,_,_=>jhy (ps:=r)
def But (s:Addr) (H H':Hp):Prop:=∀ b o,b ≠ s→H b = some o→H' b = some o
theorem But.trans {s:Addr} {H H1 H2:Hp} (a:But s H H1) (b:But s H1 H2):But s H H2:=fun c o n q=>b c o n (a c o n q)
theorem But.at (s:Addr) (H:Hp) (o:HO):But s H (upd H s o):=fun b u n q=>by rw [jba n]; exact q
theorem But.new {s t:Addr} {H:Hp} {o:HO} (h:H t = none):But s H (upd H t o):=fun b u n q=>by rw [jba (jaj q h)]; exact q
theorem But.tups {s:Addr} {H H':Hp} (h:But s H H') {o:HO} (e:H s = some o) (i:jui o = false):TupS H H':=fun b u z q=>h b u (fun x=>by rw [x,e] at q; cases q; rw [i] at z; cases z) q
theorem at3 {α:Type} {x y z u:α} {r:List α}:atI (x :: y :: z :: u :: r) 3 = some u:=by
 have e:atI (x :: y :: z :: u :: r) ((3:Nat):Int) = some u:=jbz rfl
 exact e
theorem menu4 {a b c e d:Int} (h0:0 ≤ d) (h1:d < 4):∃ v,atI [V.int a,.int b,.int c,.int e] d = some (.int v)∧(v = a ∨ v = b ∨ v = c ∨ v = e):=by
 have hd:d = 0 ∨ d = 1 ∨ d = 2 ∨ d = 3:=by omega
 rcases hd with rfl | rfl | rfl | rfl
 ·exact ⟨a,at0,.inl rfl⟩
 ·exact ⟨b,at1,.inr (.inl rfl)⟩
 ·exact ⟨c,at2,.inr (.inr (.inl rfl))⟩
 ·exact ⟨e,at3,.inr (.inr (.inr rfl))⟩
theorem p9:(10:Int) ^ Int.toNat 9 = 1000000000:=by decide
def jm9:Sp:=fun vs H Q _=>∃ s o n,vs = [.ref s,.int n]∧H s = some o∧StO o∧0 ≤ n∧n ≤ 100 ∧
 ∀ r H' o' xs ps,H r = none→But s H H'→H' s = some o'→StO o'→H' r = some (.lst xs)→Prs H' xs ps→(ps.length:Int) = n→Dr (-1) ps→Q (.ref r) H'
def jr2 (H H':Hp) (t:Addr) (ps ts:List (Int × Int)):Prop:=∃ l1 l2 xs ys,H l1 = none∧H l2 = none∧l1 ≠ l2∧H' t = some (.tup [.ref l1,.ref l2])∧H' l1 = some (.lst xs)∧H' l2 = some (.lst ys)∧Prs H' xs ps∧Prs H' ys ts
def jov:Sp:=fun vs H Q _=>∃ v ps ts,vs = [v]∧jdh H v ps ts∧∀ t H',Same H H'→jr2 H H' t ps ts→Q (.ref t) H'
theorem jlc {f:Addr} {fd:FuncData}  (B:Blt mg) (D:DefAt K mg "_law_take" (top 41) ["_law_state","_law_many"] f fd):FnOk P w K mg base CX0 1 f fd ["_law_state","_law_many"] jjz:=by
 have sc:FnScope ["_law_state","_law_many","_law_digit","_law_number"] ["_law_state","_law_many"] (jbc (top 41)):=⟨rfl,rfl,rfl,by decide +kernel,rfl,by decide +kernel,by decide +kernel⟩
 refine D.F.ok sc (fun vs H Q E h=>?_) (fun cdv A outer s H vs Q E hr h=>?_)
 ·obtain ⟨s,o,m,rfl,_⟩:=h
  rfl
 obtain ⟨st,o,m,rfl,es,⟨c,x,fl,rfl,x0,x1⟩,m0,m1,h⟩:=h
 have hu:=jc8 hr
 have hu0:_ < PySem.cLine:=Nat.lt_of_succ_lt hu
 refine ⟨_,(jaf (jdc (jd2 (jbh q_ix (qv 0) jah (fun _ _=>rfl))) (jaf (jbi (i:=2) sc.nd rfl (Or.inl rfl) (jbv jl7 (jbh q_ix (qv 0) jah (fun _ _=>rfl)) (qv 1))) (jaf (jk4 (jbv jtu (jbh q_ix (qv 0) jah (fun _ _=>rfl)) (qv 1)) (jk7 (qv 0) jah jgi)) (jaf (jk4 (jd7 q_gt (jbh q_ix (qv 0) jah (fun _ _=>rfl)) jah (jc5 _)) (jk7 (qv 0) jah jgi)) (jb8 (jbq (qv 2)))))) jc2) (jaf (jk4 (jbv jl7 (jbv jcz (jbv jgj (jbh q_ix (qv 0) jah (fun _ _=>rfl)) jah) jah) jah) (jk7 (qv 0) jah jgi)) (jaf (jbi (i:=3) sc.nd rfl (Or.inl rfl) (jbv jt2 (jbv jl7 (jbv jgj (jbh q_ix (qv 0) jah (fun _ _=>rfl)) (jbh q_ix (qv 0) jah (fun _ _=>rfl))) jah) jah)) (jaf (jdc (jck q_gt (qv 1) (jbv jtt jah jah) (jc5 _)) (jaf (jk4 (jbv jl7 (jbv jcz (jbv jgj (jbh q_ix (qv 0) jah (fun _ _=>rfl)) jah) jah) jah) (jk7 (qv 0) jah jgi)) (jb8 (jbi (i:=3) sc.nd rfl (Or.inl rfl) (jbv jcz (jbv jgj (qv 3) jah) (jbh q_ix (qv 0) jah (fun _ _=>rfl)))))) jc2) (jb8 (jbq (jbv jl7 (qv 3) (qv 1)))))))),?_⟩
 simp_arith [jbl,es,at0,at1,at2,ix30,ix31,ix32,ja4,jo9]
 have lo:∀ n:Int,0 ≤ n % m:=fun n=>Int.emod_nonneg _ (by omega)
 have hi:∀ n:Int,n % m < m:=fun n=>Int.emod_lt_of_pos _ (by omega)
 have y0:0 ≤ (x * 48271 + 39373) % 2147483647:=Int.emod_nonneg _ (by decide)
 have y1:(x * 48271 + 39373) % 2147483647 < 2147483647:=Int.emod_lt_of_pos _ (by decide)
 generalize (x * 48271 + 39373) % 2147483647 = y at y0 y1
 have z0:0 ≤ (y * 48271 + 39373) % 2147483647:=Int.emod_nonneg _ (by decide)
 have z1:(y * 48271 + 39373) % 2147483647 < 2147483647:=Int.emod_lt_of_pos _ (by decide)
 generalize (y * 48271 + 39373) % 2147483647 = z at z0 z1
 have cd:CDivB c m:=⟨by omega,by omega⟩
 have cd2:∀ n:Int,CDiv n 16:=fun n=>⟨by decide,by decide⟩
 have cp:CPow 10 6:=⟨by decide,by decide,by decide⟩
 refine ite2 (fun _=>⟨by omega,cd,h _ _ (lo _) (hi _) ⟨_,_,_,rfl,x0,x1⟩⟩) (fun _=>⟨cmR (by decide) (by decide),by decide,cmL (by omega) (by omega),by decide,cd2 _,cp,?_⟩)
 refine ite2 (fun _=>⟨cmR (by decide) (by decide),by decide,cmR (by decide) (by decide),by omega,h _ _ (lo _) (hi _) ⟨_,_,_,rfl,z0,by omega⟩⟩) (fun _=>⟨by omega,h _ _ (lo _) (hi _) ⟨_,_,_,rfl,y0,by omega⟩⟩)
theorem jk9 {f:Addr} {fd:FuncData}  (B:Blt mg) (D:DefAt K mg "_law_begun" (top 40) ["_law_script","_law_k"] f fd):FnOk P w K mg base CX0 1 f fd ["_law_script","_law_k"] (jow K):=by
 have sc:FnScope ["_law_script","_law_k","_law_cell","_law_mixed"] ["_law_script","_law_k"] (jbc (top 40)):=⟨rfl,rfl,rfl,by decide +kernel,rfl,by decide +kernel,by decide +kernel⟩
 refine D.F.ok sc (fun vs H Q E h=>?_) (fun cdv A outer s H vs Q E hr h=>?_)
 ·obtain ⟨a,k,ns,rfl,_⟩:=h
  rfl
 obtain ⟨a,k,ns,rfl,hs,k0,k1,h⟩:=h
 have hu:=jc8 hr
 have hu0:_ < PySem.cLine:=Nat.lt_of_succ_lt hu
 refine ⟨_,(jaf (jbi (i:=2) sc.nd rfl (Or.inl rfl) jah) (jaf (jdc (jck q_lt (qv 1) (jbf je2 rfl B.len PySem.boot_len (ja0 (qv 0) jag)) (jc5 _)) (jb8 (jbi (i:=2) sc.nd rfl (Or.inl rfl) (jbh jq3 (qv 0) (qv 1) (fun _ _=>rfl)))) jc2) (jaf (jbi (i:=3) sc.nd rfl (Or.inl rfl) (jbv jcz (jbv jcz (jbv jl7 (qv 2) jah) (jbv jgj jah (qv 1))) (jbv jgj jah (jbv jt2 (qv 1) jah)))) (jb8 (jbq (jd4 (ja0 (qv 2) (ja0 (jbv jl7 (qv 3) jah) (ja0 (jd7 q_ge (qv 2) (jbv jtt jah jah) (jc5 _)) jag))))))))),?_⟩
 walk_at "RD"
 refine ⟨a,_,rfl,.inl hs.sq,?_⟩
 simp_arith [List.length_map,rIxL]
 have q0:∀ n:Int,0 ≤ n % 2147483629:=fun n=>Int.emod_nonneg _ (by decide)
 have q1:∀ n:Int,n % 2147483629 < 2147483629:=fun n=>Int.emod_lt_of_pos _ (by decide)
 have cp:CPow 10 18:=⟨by decide,by decide,by decide⟩
 have cd:CDiv k 7:=⟨by decide,by decide⟩
 refine ite2 (fun c=>?_) (fun c=>?_)
 ·have c':k < (ns.length:Int):=of_decide_eq_true c
  have hk:k.toNat < ns.length:=by omega
  have e1:atI (ns.map V.int) ((k.toNat:Nat):Int) = some (.int ns[k.toNat]):=jbz (by rw [List.getElem?_map,List.getElem?_eq_getElem hk]; rfl)
  rw [show ((k.toNat:Nat):Int) = k by omega] at e1
  refine ⟨a,_,k,_,rfl,rfl,hs.sq,e1,?_⟩
  walk_at "RD"
  exact ⟨by decide,cmL (by decide) (by decide),cd,cmL (by decide) (by decide),by decide,cp,fun p hp=>h p _ hp ⟨_,_,_,rfl,q0 _,by have:=q1 (ns[k.toNat] % 2147483629 + 104729 * k + 7919 * (k / 7)); omega⟩⟩
 ·exact ⟨by decide,cmL (by decide) (by decide),cd,cmL (by decide) (by decide),by decide,cp,fun p hp=>h p _ hp ⟨_,_,_,rfl,q0 _,by have:=q1 (0 % 2147483629 + 104729 * k + 7919 * (k / 7)); omega⟩⟩
theorem jis {f:Addr} {fd:FuncData} {f_law_take:Addr} {d_law_take:FuncData} (B:Blt mg) (D:DefAt K mg "_law_places" (top 42) ["_law_state","_law_count"] f fd) (D_law_take:DefAt K mg "_law_take" (top 41) ["_law_state","_law_many"] f_law_take d_law_take) (G_law_take:FnOk P w K mg base CX0 1 f_law_take d_law_take ["_law_state","_law_many"] jjz):FnOk P w K mg base CX0 2 f fd ["_law_state","_law_count"] jm9:=by
 have sc:FnScope ["_law_state","_law_count","_law_kind","_law_places_here","_law_number","_law_k"] ["_law_state","_law_count"] (jbc (top 42)):=⟨rfl,rfl,rfl,by decide +kernel,rfl,by decide +kernel,by decide +kernel⟩
 refine D.F.ok sc (fun vs H Q E h=>?_) (fun cdv A outer s H vs Q E hr h=>?_)
 ·obtain ⟨s,o,n,rfl,_⟩:=h
  rfl
 obtain ⟨st,o,n,rfl,es,so,n0,n1,h⟩:=h
 have hu:=jc8 hr
 have hu0:_ < PySem.cLine:=Nat.lt_of_succ_lt hu
 refine ⟨_,(jaf (jbi (i:=2) sc.nd rfl (Or.inl rfl) (jbe G_law_take (hr.mono (by decide)) rfl D_law_take.m D_law_take.F.kp D_law_take.b .nil jbu (ja0 (qv 0) (ja0 jah jag)))) (jaf (jbi (i:=3) sc.nd rfl (Or.inl rfl) (jd4 jag)) (jaf (jbi (i:=4) sc.nd rfl (Or.inl rfl) (jng jne jah)) (jaf (jcv PassesOwn.never rfl (jcd rfl B.range (ja0 (qv 1) jag)) (jbb (i:=5) sc.nd rfl (Or.inl rfl)) (jaf (jbi (i:=4) sc.nd rfl (Or.inl rfl) (jbv jcz (jbv jcz (qv 4) jah) (jbe G_law_take (hr.mono (by decide)) rfl D_law_take.m D_law_take.F.kp D_law_take.b .nil jbu (ja0 (qv 0) (ja0 (jbh q_ix (jd4 (ja0 jah (ja0 jah (ja0 jah (ja0 jah jag))))) (jbe G_law_take (hr.mono (by decide)) rfl D_law_take.m D_law_take.F.kp D_law_take.b .nil jbu (ja0 (qv 0) (ja0 jah jag))) (fun _ _=>rfl)) jag))))) (jb8 (jcb (q_bm PySem.F.plainAttrs_list PySem.F.slot_list_append PySem.F.type_list_append jcu (qv 3) (ja0 (jch (ja0 (qv 4) (ja0 (jbv jcz jah (jbe G_law_take (hr.mono (by decide)) rfl D_law_take.m D_law_take.F.kp D_law_take.b .nil jbu (ja0 (qv 0) (ja0 (jbh q_ix (jd4 (ja0 jah (ja0 jah (ja0 jah (ja0 (jbv jtt jah jah) jag))))) (qv 2) (fun _ _=>rfl)) jag)))) jag))) jag)))))) (jb8 (jbq (qv 3))))))),?_⟩
 walk_at "RD"
 refine ⟨st,o,4,rfl,es,so,by decide,by decide,fun kind o1 k0 k1 so1=>?_⟩
 walk_at "RD"
 intro r hr1
 have nr:r ≠ st:=fun z=>by rw [z,ja4] at hr1; cases hr1
 have hr0:H r = none:=by rw [← hr1,jba nr]
 refine ⟨n,rfl,by omega,by omega,jdf (n:=n.toNat) (fun i σ H1=>∃ l kk ps xs o',σ = [some (.ref st),some (.int n),some (.int kind),some (.ref r),some (.int l),kk]∧But st H H1∧H1 st = some o'∧StO o'∧H1 r = some (.lst xs)∧Prs H1 xs ps∧ps.length = i∧Dr (-1) ps∧l = jpz (-1) ps) ?_ ?_ ?_⟩
 ·refine ⟨-1,none,[],[],o1,rfl,fun b u nb q=>?_,by rw [jba nr.symm,ja4],so1,ja4,.nil,rfl,trivial,rfl⟩
  rw [jba (jaj q hr0),jba nb]
  exact q
 ·rintro i σ H1 hi ⟨l,kk,ps,xs,o',rfl,b1,e1,so',er,pp,hlen,dr,el⟩
  have hlx:xs.length = ps.length:=Paired.length pp
  walk_at "RD"
  intro p1 hp1
  have np:p1 ≠ st:=(jaj e1 hp1).symm
  have nr1:r ≠ p1:=jaj er hp1
  refine ⟨st,o',4,rfl,(by rw [jba np.symm]; exact e1),so',by decide,by decide,fun d1 o2 d10 d11 so2=>?_⟩
  obtain ⟨v,ev,v0,v1⟩:∃ v,atI [V.int 1,.int 2,.int 6,.int 23] d1 = some (.int v)∧1 ≤ v∧v ≤ 23:=by
   obtain ⟨v,ev,hv⟩:=menu4 (a:=1) (b:=2) (c:=6) (e:=23) d10 d11
   exact ⟨v,ev,by omega,by omega⟩
  simp_arith [jbl,jba np,ja4,ev]
  refine ⟨st,o2,v,rfl,ja4,so2,by omega,by omega,fun d2 o3 d20 d21 so3=>?_⟩
  simp_arith [jo9]
  have b3:But st H1 (upd (upd H1 p1 (.lst [.int 1,.int 2,.int 6,.int 23])) st o3):=(But.new hp1).trans (But.at _ _ _)
  have e3:(upd (upd H1 p1 (.lst [.int 1,.int 2,.int 6,.int 23])) st o3) st = some o3:=ja4
  generalize upd (upd H1 p1 (.lst [.int 1,.int 2,.int 6,.int 23])) st o3 = H3 at b3 e3
  have t3:TupS H1 H3:=b3.tups e1 so'.imm
  have er3:=b3 _ _ nr er
  refine ⟨⟨r,xs,rfl,er3⟩,⟨by decide,by decide,by decide⟩,?_⟩
  intro p2 hp2
  have np2:p2 ≠ st:=(jaj e3 hp2).symm
  have nr2:r ≠ p2:=jaj er3 hp2
  obtain ⟨v2,ev2,v20,v21⟩:∃ v,atI [V.int 1,.int 3,.int 9,.int (10 ^ Int.toNat 9)] kind = some (.int v)∧1 ≤ v∧v ≤ 1000000000:=by
   obtain ⟨v,ev,hv⟩:=menu4 (a:=1) (b:=3) (c:=9) (e:=10 ^ Int.toNat 9) k0 k1
   rw [p9] at hv
   exact ⟨v,ev,by omega,by omega⟩
  simp_arith [jbl,ja4,ev2]
  refine ⟨st,o3,v2,rfl,(by rw [jba np2.symm]; exact e3),so3,by omega,by omega,fun d3 o4 d30 d31 so4=>?_⟩
  walk_at "RD"
  have b4:But st H3 (upd (upd H3 p2 (.lst [.int 1,.int 3,.int 9,.int (10 ^ Int.toNat 9)])) st o4):=(But.new hp2).trans (But.at _ _ _)
  have e4:(upd (upd H3 p2 (.lst [.int 1,.int 3,.int 9,.int (10 ^ Int.toNat 9)])) st o4) st = some o4:=ja4
  generalize upd (upd H3 p2 (.lst [.int 1,.int 3,.int 9,.int (10 ^ Int.toNat 9)])) st o4 = H4 at b4 e4
  have t4:TupS H3 H4:=b4.tups e3 so3.imm
  have er4:=b4 _ _ nr er3
  intro t ht
  have nt:t ≠ st:=(jaj e4 ht).symm
  have er5:upd H4 t (.tup [.int (l + 1 + d2),.int (1 + d3)]) r = some (.lst xs):=by rw [jba (jaj er4 ht)]; exact er4
  simp_arith [er5]
  have t5:TupS H4 (upd H4 t (.tup [.int (l + 1 + d2),.int (1 + d3)])):=jg1 ht
  have t6:=jca (ys:=xs ++ [.ref t]) er5
  refine ⟨szl' (by omega),l + 1 + d2,_,ps ++ [(l + 1 + d2,1 + d3)],_,o4,rfl,fun b u nb q=>?_,?_,so4,(by first | rfl | exact ja4),?_,?_,?_,?_⟩
  ·have q1:=b4 _ _ nb (b3 _ _ nb (b1 _ _ nb q))
   rw [jba (jaj q hr0),jba (jaj q1 ht)]
   exact q1
  ·rw [jba nr.symm,jba nt.symm]
   exact e4
  ·exact jbt (Prs.tups (((t3.trans t4).trans t5).trans t6) pp) (Pr.tups ⟨t,rfl,ja4⟩ t6)
  ·rw [List.length_append,hlen]
   rfl
  ·exact dr.snoc ⟨by show _ < l + 1 + d2; omega,by show l + 1 + d2 ≤ _; omega,by show 1 ≤ 1 + d3; omega,by show 1 + d3 ≤ _; omega⟩
  ·rw [jhy]
 ·rintro σ H1 ⟨l,kk,ps,xs,o',rfl,b1,e1,so',er,pp,hlen,dr,el⟩
  walk_at "RD"
  exact h r H1 o' xs ps hr0 b1 e1 so' er pp (by omega) dr
end
end My
namespace So
open PySem PySem.Spec PyProof.Rows
section
variable {prog:Program} {w:World} {s:Shared}
end
end So
namespace L2
open PySem PySem.Spec PyProof.Rows
def Tp (H:Hp) (v:V) (p:Int × Int × Int):Prop:=∃ a,v = .ref a∧H a = some (.tup [.int p.1,.int p.2.1,.int p.2.2])
abbrev Tps (H:Hp) (xs:List V) (ps:List (Int × Int × Int)):Prop:=Paired (Tp H) xs ps
end L2
namespace L2
open PySem PySem.Spec PyProof.Rows
section
variable {X:Cx}
end
end L2
namespace L2
open PySem PySem.Spec PyProof.Rows
theorem jur {K:PySem.W.Frag} {a c:Addr} {xs ys:List V} {g:TG} {tb:TS} {D:Ends} {σ:St} {H:Hp} (Pv:Nat→St→Hp→Prop) (hxy:xs.length = ys.length) (h0:Pv 0 σ H) (hl:∀ i σ H,i ≤ xs.length→Pv i σ H→SqL K H a xs∧SqL K H c ys)
  (hs:∀ i x y σ H t,xs[i]? = some x→ys[i]? = some y→Pv i σ H→H t = none→g (.ref t) σ (upd H t (.tup [x,y])) fun σ2 H2=>tb { D with nx:=Pv (i + 1),ct:=Pv (i + 1),bk:=D.nx } σ2 H2) (hd:∀ σ H,Pv xs.length σ H→D.nx σ H) :
  ∃ W:Nat→Nat→St→Hp→Prop,(∃ m,W 0 m σ H)∧∀ i m σ H,W i m σ H →
   ((Itz true K a c).stop i H∧D.nx σ H) ∨ ((Itz true K a c).go i H∧∃ N:St→Hp→Prop,(∀ σ' H',N σ' H'→∃ m',m' < m∧W (i + 1) m' σ' H')∧∀ x H',(Itz true K a c).yld i H x H'→g x σ H' fun σ2 H2=>tb { D with nx:=N,ct:=N,bk:=D.nx } σ2 H2):=by
 refine ⟨fun i m σ H=>m = xs.length - i∧i ≤ xs.length∧Pv i σ H,⟨xs.length,by simp,Nat.zero_le _,h0⟩,?_⟩
 rintro i m σ H ⟨rfl,hi,p⟩
 obtain ⟨q1,q2⟩:=hl i σ H hi p
 have q1':SqB true K H a xs:=by unfold SqB; rw [if_pos rfl]; exact q1
 have q2':SqB true K H c ys:=by unfold SqB; rw [if_pos rfl]; exact q2
 by_cases hlt:i < xs.length
 ·refine .inr ⟨⟨xs,ys,xs[i],ys[i]'(by omega),q1',q2',by simp [hlt],by simp [show i < ys.length by omega]⟩,Pv (i + 1),fun σ' H' p'=>⟨xs.length - (i + 1),by omega,rfl,hlt,p'⟩,fun x H' y=>?_⟩
  obtain ⟨t,z1,z2,ht,e1,e2,y1,y2⟩:=y
  subst e1 e2
  exact hs i z1 z2 σ _ t (y1 xs q1') (y2 ys q2') p ht
 ·have e:i = xs.length:=by omega
  subst e
  exact .inl ⟨⟨xs,ys,q1',q2',.inl (Nat.le_refl _)⟩,hd σ H p⟩
end L2
namespace L2
open PySem PySem.Spec PyProof.Rows
section
variable {X:Cx}
end
end L2
namespace L2
open PySem PySem.Spec PyProof.Rows
section
variable {prog:Program} {w:World} {A:Around} {E:Value→Shared→Prop} {s:Shared}
end
end L2
namespace L2
open PySem PySem.Spec PyProof.Rows
def jfg {K:Type} [DecidableEq K] (xs:List (K × Addr × Value)):List (K × Addr × Value)→List (K × Addr × Value)
 | []=>xs
 | q :: r=>jfg (storedH xs q.1 q.2.1 q.2.2) r
theorem jl5 {K:Type} [DecidableEq K] (xs:List (K × Addr × Value)) (k:K) (a:Addr) (v:Value):(storedH xs k a v).length ≤ xs.length + 1:=by
 unfold storedH
 split
 ·rw [List.length_map]; omega
 ·rw [List.length_append]; exact Nat.le_refl _
section
variable {prog:Program} {w:World} {A:Around} {E:Value→Shared→Prop} {R:Result→Shared→Prop}
abbrev TK (prog:Program) (w:World):HeapKind prog w (List Key):=tupleKind (jby prog w)
theorem jea {h h':Heap} {d:Addr} {xs:List (List Key × Addr × Value)} (hd:h.DictOfH (TK prog w) d xs) (k0:∀ o,h.get? d = some o→h'.get? d = some o) (k1:∀ b o,o.cls = .type "tuple"→h.get? b = some o→h'.get? b = some o):h'.DictOfH (TK prog w) d xs:=by
 obtain ⟨o,es,ep,e1,e2,e3,e4,e5,e6⟩:=hd
 refine ⟨o,es,ep,k0 _ e1,e2,e3,e4,fun x hx=>?_,e6⟩
 obtain ⟨o2,its,n,f1,f2,f3⟩:=e5 x hx
 exact ⟨o2,its,n,k1 _ _ f2 f1,f2,f3⟩
theorem jny {d it l:Addr} {its:Array Value} {more:List (List Key × Addr × Value)} (hh:A.handled = none) (hu:A.in1.units < cLine) (hlen:more.length = its.size) (hsz:its.size ≤ 1000) (hdl:l ≠ d) (hdi:it ≠ d) (hil:l ≠ it) :
  ∀ (k i:Nat) (tk0:Tok) (s:Shared) (kvs:List (List Key × Addr × Value)),its.size - i = k→i ≤ its.size→kvs.length ≤ i→s.heap.IsListIter it l i→s.heap.IsList l its→s.heap.DictOfH (TK prog w) d kvs →
   (∀ (j:Nat) (q:List Key × Addr × Value),more[j]? = some q→∃ t,its[j]? = some (.ref t)∧s.heap.IsTuple t #[.ref q.2.1,q.2.2]∧(TK prog w).is s.heap q.1 q.2.1) →
   (∀ h' tk,h'.DictOfH (TK prog w) d (jfg kvs (more.drop i))→(∀ b o,b ≠ d→b ≠ it→s.heap.get? b = some o→h'.get? b = some o)→R (.ok (.ret .none)) { s with heap:=h',toks:=tk }) →
   codeAny (model prog w) A (.builtin "dict.update.loop" ⟨[.ref d,.ref it,.int i tk0,.none],[]⟩) R s:=by
 intro k
 induction k with
 | zero =>
  intro i tk0 s kvs hk hi hkl hit hl hd hp hR
  have e:i = its.size:=by omega
  subst e
  refine codeAny_builtin jc4 ?_
  rw [Around.under_plainId jbm _]
  show wpAny _ A.in1 (pyNext (.ref it) >>= _) _ _ s
  refine wpAny_bind (wpAny_pyNext_list_end hh hit hl (by simp) fun h' eb=>?_)
  show wpAny _ A.in1 (Builtin.Dict.addKeywords d [] >>= _) _ _ _
  refine wpAny_bind (wpAny_pure (wpAny_pure ?_))
  refine hR h' s.toks ?_ fun b o _ hb q=>eb b o hb q
  rw [List.drop_eq_nil_of_le (by omega)]
  refine jea hd (fun o q=>eb d o hdi.symm q) fun b o c q=>eb b o (fun z=>?_) q
  subst z
  obtain ⟨o',e2,c2,_⟩:=hit
  rw [q] at e2; cases e2; rw [c] at c2; exact absurd c2 (by decide)
 | succ k ih =>
  intro i tk0 s kvs hk hi hkl hit hl hd hp hR
  have hlt:i < its.size:=by omega
  have hlm:i < more.length:=by omega
  obtain ⟨t,hu',ht,hkey⟩:=hp i more[i] (by simp [hlm])
  have nit:∀ {b:Addr} {o:Obj},o.cls = .type "tuple"→s.heap.get? b = some o→b ≠ it:=fun {b o} c q z=>by
   subst z
   obtain ⟨o',e2,c2,_⟩:=hit
   rw [q] at e2; cases e2; rw [c] at c2; exact absurd c2 (by decide)
  have nd:∀ {b:Addr} {o:Obj},o.cls = .type "tuple"→s.heap.get? b = some o→b ≠ d:=fun {b o} c q z=>by
   subst z
   obtain ⟨o',_,_,e2,c2,_⟩:=hd
   rw [q] at e2; cases e2; rw [c2.1] at c; exact absurd c (by decide)
  refine codeAny_builtin jc4 ?_
  rw [Around.under_plainId jbm _]
  show wpAny _ A.in1 (pyNext (.ref it) >>= _) _ _ s
  refine wpAny_bind (wpAny_pyNext_list_item hit hl hu' fun h1 hit1 sb1=>?_)
  obtain ⟨ot0,et0,ct0,_⟩:=id ht
  have ht1:h1.IsTuple t #[.ref more[i].2.1,more[i].2.2]:=ht.extBut sb1.extBut (nit ct0 et0)
  have keep1:∀ b o,o.cls = .type "tuple"→s.heap.get? b = some o→h1.get? b = some o:=fun b o c q=>sb1.extBut b o (nit c q) q
  have hd1:h1.DictOfH (TK prog w) d kvs:=jea hd (fun o q=>sb1.extBut d o hdi.symm q) keep1
  have hkey1:(TK prog w).is h1 more[i].1 more[i].2.1:=by
   obtain ⟨o2,its2,n2,f1,f2,f3⟩:=hkey
   exact ⟨o2,its2,n2,keep1 _ _ f2 f1,f2,f3⟩
  show wpAny _ A.in1 (holding [.ref t] _ >>= _) _ _ _
  refine wpAny_bind (wpAny_holding ?_)
  refine wpAny_bind (m:=(Builtin.Dict.pairItems (.ref t)).tryCatch _) ?_
  refine wpAny_tryCatch ?_
  unfold Builtin.Dict.pairItems
  refine wpAny_bind (wpAny_typeOf ht1.typeIs ?_)
  obtain ⟨ot,e1,c1,n1,d1⟩:=id ht1
  rw [if_pos (by decide)]
  refine wpAny_bind (wpAny_seqItems e1 d1 ?_)
  refine wpAny_pure ?_
  show wpAny _ A.in1 (holding [.ref more[i].2.1,more[i].2.2] (dictSet d (.ref more[i].2.1) more[i].2.2)) _ _ _
  refine wpAny_holding (wpAny_dictSet_heap (knd:=TK prog w) hu hkey1 hd1 (fun h2 hd2 sb2=>?_) (by have:=(by decide:1000 ≤ sizeLine); omega))
  replace sb2:Heap.SameBut d h1 h2:=sb2
  have kk:∀ b o,b ≠ d→b ≠ it→s.heap.get? b = some o→h2.get? b = some o:=fun b o b1 b2 q=>sb2.extBut b o b1 (sb1.extBut b o b2 q)
  refine wpAny_pure ⟨plainId_quiet jbm _,?_⟩
  have hik:((i:Int) + 1) = ((i + 1:Nat):Int):=by omega
  show codeAny _ _ (.builtin "dict.update.loop" ⟨[.ref d,.ref it,rawInt ((i:Int) + 1),.none],[]⟩) _ _
  rw [hik]
  refine ih (i + 1) 0 _ (storedH kvs more[i].1 more[i].2.1 more[i].2.2) (by omega) (by omega) ?_ (hit1.extBut sb2.extBut hdi) ((hl.extBut sb1.extBut hil).extBut sb2.extBut hdl) hd2 ?_ ?_
  ·have:=jl5 kvs more[i].1 more[i].2.1 more[i].2.2
   omega
  ·intro j q hq
   obtain ⟨t',a1,a2,a3⟩:=hp j q hq
   obtain ⟨o3,f1,f2,f3⟩:=a2
   obtain ⟨o4,its4,n4,g1,g2,g3⟩:=a3
   exact ⟨t',a1,⟨o3,kk _ _ (nd f2 f1) (nit f2 f1) f1,f2,f3⟩,⟨o4,its4,n4,kk _ _ (nd g2 g1) (nit g2 g1) g1,g2,g3⟩⟩
  ·intro h' tk hd' k'
   refine hR h' tk ?_ fun b o b1 b2 q=>k' b o b1 b2 (kk b o b1 b2 q)
   rw [List.drop_eq_getElem_cons hlm]
   exact hd'
theorem jha {l:Addr} {its:Array Value} {c:Nat} {more:List (List Key × Addr × Value)} {s:Shared} {Q:Value→Shared→Prop} (hh:A.handled = none) (hu:A.in1.in1.units < cLine) (hl:s.heap.get? l = some { cls:=.type "list",dict:=none,data:=.seq its c,slots:=#[] }) (hlen:more.length = its.size) (hsz:its.size ≤ 1000)
  (hp:∀ (j:Nat) (q:List Key × Addr × Value),more[j]? = some q→∃ t,its[j]? = some (.ref t)∧s.heap.IsTuple t #[.ref q.2.1,q.2.2]∧(TK prog w).is s.heap q.1 q.2.1)
  (h:∀ h' tk,h'.DictOfH (TK prog w) s.heap.objs.size (jfg [] more)→(∀ b o,s.heap.get? b = some o→h'.get? b = some o)→Q (.ref s.heap.objs.size) { s with heap:=h',toks:=tk }) :
  wpAny (model prog w) A (call (.type "dict") [.ref l]) Q E s:=by
 refine callType_codes (Q₁:=fun obj s₁=>obj = .ref s.heap.objs.size∧s₁ = { s with heap:=s.heap.push { cls:=.type "dict",data:=.dict #[] } }) F.kt_called_dict (F.kt_typeCall_dict_1 _) F.entry_dict_init (kt_code_dict_new _ ⟨rfl,rfl⟩) ?_
 rintro obj s₁ ⟨rfl,rfl⟩
 have hnew:(s.heap.push { cls:=.type "dict",data:=.dict #[] }).DictOfH (TK prog w) s.heap.objs.size []:=Heap.DictOfH.new s.heap
 have hl1:(s.heap.push { cls:=.type "dict",data:=.dict #[] }).get? l = some { cls:=.type "list",dict:=none,data:=.seq its c,slots:=#[] }:=Heap.get?_push_of_some _ hl
 have k1:∀ b o,s.heap.get? b = some o→(s.heap.push { cls:=.type "dict",data:=.dict #[] }).get? b = some o:=fun b o q=>Heap.get?_push_of_some _ q
 have llt:l < s.heap.objs.size:=Heap.lt_size hl
 generalize s.heap.push { cls:=.type "dict",data:=.dict #[] } = h1 at hnew hl1 k1
 refine ⟨hnew.typeIs,F.args_dict_init_2 _ _,?_⟩
 unfold Builtin.«dict.__init__»
 refine wpAny_bind ?_
 unfold Builtin.Dict.selfAndRest
 refine wpAny_bind (wpAny_notOrdered_dict hnew.typeIs ?_)
 show wpAny _ _ (pure (s.heap.objs.size,[Value.ref l])) _ _ _
 refine wpAny_pure ?_
 show wpAny _ _ (Builtin.Dict.updateFrom "dict.__init__" s.heap.objs.size (.ref l) [] .none) _ _ _
 unfold Builtin.Dict.updateFrom
 refine wpAny_bind (wpAny_typeOf (T:="list") ⟨_,hl1,rfl⟩ ?_)
 rw [if_pos (by decide)]
 refine wpAny_bind (jt7 hl1 hh fun h2 tk2 k2=>?_)
 have hl2:=k2 _ _ hl1
 have hd2:h2.DictOfH (TK prog w) s.heap.objs.size []:=jea hnew (fun o q=>k2 _ _ q) fun b o _ q=>k2 _ _ q
 have dlt:s.heap.objs.size < h2.objs.size:=by obtain ⟨_,_,_,ho,_⟩:=hd2; exact Heap.lt_size ho
 simp only [Option.isNone_none,if_true]
 refine wpAny_bind (wpAny_rule ?_)
 have hL:Heap.IsList h2 l its:=⟨_,hl2,rfl,_,rfl⟩
 refine wpAny_bind (wpAny_pyIter_list (s:={ s with heap:=h2,toks:=tk2 }) hL ?_)
 refine wpAny_pure ⟨plainId_quiet jbm _,?_⟩
 have hit:(h2.push { cls:=.type "list_iterator",data:=.fields #[.ref l,.int 0 0] }).IsListIter h2.objs.size l 0:=⟨_,Heap.get?_push_size _ rfl,rfl,rfl⟩
 refine jny (A:=A.in1) (more:=more) hh hu hlen hsz (Nat.ne_of_lt llt) (Nat.ne_of_gt dlt) (Nat.ne_of_lt (Nat.lt_trans llt dlt)) its.size 0 0 { s with heap:=h2.push { cls:=.type "list_iterator",data:=.fields #[.ref l,.int 0 0] },toks:=tk2 } [] rfl (Nat.zero_le _) (Nat.le_refl _) hit (hL.push _) (jea hd2 (fun o q=>Heap.get?_push_of_some _ q) fun b o _ q=>Heap.get?_push_of_some _ q) ?_ ?_
 ·intro j q hq
  obtain ⟨t,a1,a2,a3⟩:=hp j q hq
  obtain ⟨o,e,r⟩:=a2
  obtain ⟨o4,its4,n4,g1,g2,g3⟩:=a3
  exact ⟨t,a1,⟨o,Heap.get?_push_of_some _ (k2 _ _ (k1 _ _ e)),r⟩,⟨o4,its4,n4,Heap.get?_push_of_some _ (k2 _ _ (k1 _ _ g1)),g2,g3⟩⟩
 ·intro h' tk hd' k'
  rw [List.drop_zero] at hd'
  refine ⟨rfl,h h' tk hd' fun b o q=>k' b o (Nat.ne_of_lt (Heap.lt_size q)) (Nat.ne_of_lt (Heap.lt_size (k2 _ _ (k1 _ _ q)))) (Heap.get?_push_of_some _ (k2 _ _ (k1 _ _ q)))⟩
end
theorem jo3 {K:Type} [DecidableEq K] {xs:List (K × Addr × Value)} {k:K} (h:k ∉ xs.map (·.1)):(atKey xs k).isSome = false:=by
 unfold atKey
 rw [Option.isSome_map]
 refine Bool.eq_false_iff.mpr fun z=>?_
 rw [List.find?_isSome] at z
 obtain ⟨x,hx,e⟩:=z
 exact h (by rw [← of_decide_eq_true e]; exact List.mem_map_of_mem hx)
theorem jgx {K:Type} [DecidableEq K]:∀ (more xs:List (K × Addr × Value)),((xs ++ more).map (·.1)).Nodup→jfg xs more = xs ++ more
 | [],xs,_=>by rw [jfg,List.append_nil]
 | q :: r,xs,h=>by
  have hq:q.1 ∉ xs.map (·.1):=by
   rw [List.map_append,List.nodup_append] at h
   intro z
   exact h.2.2 _ z _ (List.mem_map_of_mem (List.mem_cons_self ..)) rfl
  rw [jfg]
  have e:storedH xs q.1 q.2.1 q.2.2 = xs ++ [q]:=by
   unfold storedH
   rw [jo3 hq,if_neg Bool.false_ne_true]
  rw [e,jgx r (xs ++ [q]) (by rw [List.append_assoc]; exact h),List.append_assoc]
  rfl
def jje (H:Hp) (v:V) (p:List Key × V):Prop:=∃ t b,v = .ref t∧H t = some (.tup [.ref b,p.2])∧H b = some (.tup (p.1.map kV))
def rDictT:List V→Hp→VK→Prop:=fun vs H Q=>∃ l xs kvs,vs = [.ref l]∧H l = some (.lst xs)∧Paired (jje H) xs kvs∧xs.length ≤ 1000∧(kvs.map (·.1)).Nodup∧∀ d,H d = none→Q (.ref d) (upd H d (.dT kvs))
theorem jgn {X:Cx} {pins:List (Addr × Obj)} {σ:St} {H:Hp} {s:Shared} (I:Inv X pins σ H s):∀ {xs:List V} {kvs:List (List Key × V)} {its:List Value},Paired (jje H) xs kvs→Vals xs its →
  ∃ more:List (List Key × Addr × Value),KT H kvs more∧∀ (j:Nat) (q:List Key × Addr × Value),more[j]? = some q→∃ t,its[j]? = some (.ref t)∧s.heap.IsTuple t #[.ref q.2.1,q.2.2]∧(TK X.prog X.w).is s.heap q.1 q.2.1
 | _,_,_,.nil,.nil=>⟨[],.nil,fun j q h=>by simp at h⟩
 | _,_,_,.cons hp tp,.cons rv tr=>by
  obtain ⟨more,hk,hm⟩:=jgn I tp tr
  obtain ⟨t,b,rfl,ht,hb⟩:=hp
  cases rv
  obtain ⟨_,its',rt,hi⟩:=I.hok t _ ht
  obtain ⟨u1,u2,rfl,r1,r2⟩:=rt.two
  cases (show u1 = Value.ref b from r1)
  refine ⟨(_,b,u2) :: more,.cons ⟨rfl,hb,r2⟩ hk,fun j q h=>?_⟩
  cases j with
  | zero =>
   have e:=(show some _ = some q from h)
   cases e
   exact ⟨t,rfl,hi,jfs I.hok hb⟩
  | succ j =>
   obtain ⟨t2,a1,a2,a3⟩:=hm j q (by simpa using h)
   exact ⟨t2,by simpa using a1,a2,a3⟩
theorem jr3 {H:Hp}:∀ {kvs:List (List Key × V)} {xs:List (List Key × Addr × Value)},KT H kvs xs→kvs.map (·.1) = xs.map (·.1)
 | _,_,.nil=>rfl
 | _,_,.cons r t=>by rw [List.map_cons,List.map_cons,r.1,jr3 t]
theorem jo1 {X:Cx} (hc:X.calm = true) (hu:X.A.units + 64 < cLine):jda X (.type "dict") rDictT:=by
 intro pins s σ H vs us Q I rv h
 obtain ⟨l,xs,kvs,rfl,hl,hp,hz,hn,q⟩:=h
 obtain ⟨u,rfl,ru⟩:=rv.one
 cases ru
 obtain ⟨z,its,n,r,hlen,e⟩:=I.lstM hl
 obtain ⟨more,hkv,hm⟩:=jgn I hp r
 have hlm:kvs.length = more.length:=Paired.length hkv
 have hlx:xs.length = kvs.length:=Paired.length hp
 refine jha (more:=more) (I.ok.hd hc) (show X.A.units + 1 + 1 < cLine by omega) e (by rw [List.size_toArray]; omega) (by rw [List.size_toArray]; omega) (fun j q hj=>?_) fun h' tk dd k=>?_
 ·obtain ⟨t,a1,a2,a3⟩:=hm j q hj
  exact ⟨t,by simpa using a1,a2,a3⟩
 ·rw [jgx more [] (by rw [List.nil_append,← jr3 hkv]; exact hn),List.nil_append] at dd
  obtain ⟨o,es,ep,h1,h2,h3,h4,_,h5⟩:=dd
  refine ⟨.ref s.heap.objs.size,upd H s.heap.objs.size (.dT kvs),I.laid k (Nat.le_refl _) (show jcy X.prog X.w _ _ _ (.dT kvs) from ⟨by have:=(by decide:1000 ≤ sizeLine); omega,by have:=I.big; exact beq_false_of_ne (Nat.ne_of_gt this),more,hkv.keeps fun b ys eb=>?_,o,es,ep,h1,h2,h3,h4,h5⟩),rfl,q _ I.fresh⟩
  rw [jba (jaj eb I.fresh)]
  exact eb
end L2
namespace L2
open PySem PySem.Spec PyProof.Rows
def leL:List Int→List Int→Bool
 | [],_=>true
 | _ :: _,[]=>false
 | x :: xs,y :: ys=>if x = y then leL xs ys else decide (x ≤ y)
theorem jpy (x y:Int) (xs ys:List Int):leL (x :: xs) (y :: ys) = if x = y then leL xs ys else decide (x ≤ y):=rfl
theorem rc_le (A:Around) (s:Shared) (a:Int) (t:Tok) (c:Int) (u:Tok) (prog:Program) (w:World) (E Q:Value→Shared→Prop) (h:Q (.bool (decide (a ≤ c))) s) :
  wpAny (model prog w) A (richCompare .LtE (.int a t) (.int c u)) Q E s :=
 (PyProof.Rows.le_int h:wpAny (model prog w) A (compareOp .LtE (.int a t) (.int c u)) Q E s)
section
open PySem.SeqAt
open PySem.AutoSeq1 (wpAny_loadPart')
open PySem.MeetsSeq PySem.MeetsSeq2 PySem.MeetsSeq3
theorem js2 (l b:Addr) (is js:Array Value) (n n2:Nat) (dd dd2:Option Addr) (sl sl2:Array (Option Value)) (ns ms:List Int) (hi:IntsAre is.toList ns) (hj:IntsAre js.toList ms) :
  Meets (Builtin.«tuple.__le__» ⟨[.ref l,.ref b],[]⟩)
   (fun _ R s=>s.heap.get? l = some { cls:=.type "tuple",dict:=dd,data:=.seq is n,slots:=sl }∧s.heap.get? b = some { cls:=.type "tuple",dict:=dd2,data:=.seq js n2,slots:=sl2 }∧R (.ok (.ret (.bool (leL ns ms)))) s) :=
 .of_wp fun prog w A R s h=>by
  obtain ⟨hp,g,d,tk,os⟩:=s
  obtain ⟨hl,hb,h⟩:=h
  have f2:=AutoSeq1.sub_tuple_tuple
  have z1:is.size = ns.length:=by rw [← hi.length]; simp
  have z2:js.size = ms.length:=by rw [← hj.length]; simp
  wp_walk using wpAny_loadPart' hl,wpAny_loadPart' hb,wpAny_forIn_list _ (fun rest b s'=>b.1 = none∧s' = ⟨hp,g,d,tk,os⟩∧∃ (vs ws:List Value) (k m:List Int),rest = vs.zip ws∧IntsAre vs k∧IntsAre ws m∧k.length + js.size = m.length + is.size∧R (.ok (.ret (.bool (leL k m)))) ⟨hp,g,d,tk,os⟩) _
  case turn =>
   rintro ⟨y,x⟩ rest b s' ⟨q0,rfl,vs,ws,k,m,hz,q1,q2,q3,q4⟩
   cases q1 with
   | nil=>rw [List.zip_nil_left] at hz; cases hz
   | cons a t q1 =>
    cases q2 with
    | nil=>rw [List.zip_nil_right] at hz; cases hz
    | cons c u q2 =>
     rw [List.zip_cons_cons] at hz
     injection hz with p1 p2
     injection p1 with p3 p4
     subst p3 p4
     rw [jpy] at q4
     simp only [List.length_cons] at q3
     refine wpAny_bind (SeqAt.EqAt.int_int a t c u prog w _ _ ?_)
     by_cases e:a = c
     ·rw [if_pos e] at q4
      rw [show (a == c) = true by rw [e]; exact beq_self_eq_true _]
      wp_walk
      exact ⟨rfl,rfl,_,_,_,_,p2,q1,q2,by omega,q4⟩
     ·rw [if_neg e] at q4
      rw [show (a == c) = false by rw [beq_eq_false_iff_ne]; exact e]
      have hri:=rc_le A.in1 ⟨hp,g,d,tk,os⟩ a t c u prog w
      wp_walk using hri
      exact ⟨_,rfl,by simpa using q4⟩
  case fin =>
   rintro ⟨b1,b2⟩ s' ⟨q0,rfl,vs,ws,k,m,hz,q1,q2,q3,q4⟩
   simp only at q0
   subst q0
   have hv:leL k m = decide (is.size ≤ js.size):=by
    cases q1 with
    | nil =>
     simp only [List.length_nil] at q3
     rw [show leL [] m = true by cases m <;> rfl]
     exact (decide_eq_true (by omega)).symm
    | cons a t q1 =>
     cases q2 with
     | nil =>
      simp only [List.length_nil,List.length_cons] at q3
      exact (decide_eq_false (by omega)).symm
     | cons c u q2 =>
      rw [List.zip_cons_cons] at hz
      cases hz
   rw [hv] at q4
   wp_walk
   exact ⟨_,rfl,by simpa [Builtin.Tuple.tupleCompareSizes] using q4⟩
  case h =>
   exact ⟨rfl,rfl,is.toList,js.toList,ns,ms,rfl,hi,hj,by omega,h⟩
end
section
variable {X:Cx} {a b c:Expr} {ta tb tc:TE} {pos:Pos}
theorem jrf {op op':CmpOp} {g:Int→Int→Bool} {r':R2} (ho:OpR X (compareOp op) (fI fun i j=>.bl (g i j))) (ho':OpR X (compareOp op') r') (ha:PE X a ta) (hb:PE X b tb) (hc:PE X c tc)
    (hm:lastMarks [op,op'] [b,c] = false:=by with_unfolding_all rfl):PT X (.Compare a [op,op'] [b,c] pos) (fB (ja8 (fI fun i j=>.bl (g i j)) r' ta tb tc)):=by
  intro pins s σ H Q I h
  refine isTrue_chain (thn (ha pins s σ H _ I h) fun v s1 ⟨x,H1,I1,r1,q1⟩=>test_link (thn (hb pins s1 σ H1 _ I1 q1) fun u s2 ⟨y,H2,I2,r2,q2⟩ =>
    thn (ho pins s2 σ H2 x y v u (fun z H3=>∃ k,z = .bl k∧(if k = true then tc σ H3 fun w' H4=>r' y w' H4 fun z2 H5=>match z2 with | .bl q=>Q q H5 | _=>False else Q false H3)) I2 r1 r2 ?_) fun d s3 ⟨z,H3,I3,r3,k,e,q3⟩=>?_)) hm
  · dsimp only at q2
    unfold fI at q2 ⊢
    cases x <;> cases y <;> first
      | exact q2.elim
      | exact ⟨_,rfl,q2⟩
  · subst e
    cases r3
    refine wpAny_truthy_bool ?_
    cases k with
    | false=>exact ite_ff ⟨H3,I3,q3⟩
    | true =>
      refine ite_tt (test_last (thn (hc pins s3 σ H3 _ I3 q3) fun w' s4 ⟨z',H4,I4,r4,q4⟩=>thn (ho' pins s4 σ H4 y z' u w' _ I4 r2 r4 q4) fun d2 s5 ⟨z2,H5,I5,r5,q5⟩=>?_))
      cases z2 <;> first
        | exact False.elim q5
        | (cases r5
           exact wpAny_truthy_bool ⟨H5,I5,q5⟩)
end
def fLeT:R2:=fun x y H Q=>match x,y with
 | .ref a,.ref b=>match H a,H b with
  | some (.tup [.int i,.int j]),some (.tup [.int k,.int l])=>Q (.bl (leL [i,j] [k,l])) H
  | _,_=>False
 | _,_=>False
theorem q_leT {X:Cx} (hu:X.A.units < cLine):OpR X (compareOp .LtE) fLeT:=by
 intro pins s σ H x y v u Q I rx ry h
 unfold fLeT at h
 split at h
 ·split at h
  ·rename_i a b _ _ i j k l e1 e2
   cases rx
   cases ry
   obtain ⟨its,r1,p1,_⟩:=I.tuple (SqT.of e1)
   obtain ⟨its2,r2,p2,_⟩:=I.tuple (SqT.of e2)
   have i1:IntsAre its.toArray.toList [i,j]:=jcm r1
   have i2:IntsAre its2.toArray.toList [k,l]:=jcm r2
   obtain ⟨⟨cls,dd,data,sl⟩,ho,hc,n,hd⟩:=id p1
   obtain ⟨⟨cls2,dd2,data2,sl2⟩,ho2,hc2,n2,hd2⟩:=id p2
   simp only at hc hd hc2 hd2
   subst hc hd hc2 hd2
   exact richCompare_meets_room (op:=.LtE) ⟨_,ho,rfl⟩ ⟨_,ho2,rfl⟩ PySem.F.slot_tuple_le PySem.F.entry_tuple_le (PySem.F.args_tuple_le_2 _ _) (js2 _ _ _ _ n n2 dd dd2 sl sl2 _ _ i1 i2)
    ⟨ho,ho2,(fun z=>nomatch z),.bl _,H,I,rfl,h⟩ hu
  ·exact h.elim
 ·exact h.elim
end L2
namespace My
open PySem L2
section
variable {P:Program} {w:World} {K:PySem.W.Frag} {mg:Str→Option Value} {base:Heap} {c1 c2 c3 c4:Tok} {C_NoWeb f_NoWeb:Addr} {dI:FuncData}
def prO:Dt→Option (Int × Int)
 | .tup [.int x,.int y]=>some (x,y)
 | _=>none
def OPr (H:Hp) (x:V) (o:Option (Int × Int)):Prop:=∃ d,Rep H d x∧prO d = o
theorem jmk {d:Dt} {p:Int × Int} (h:prO d = some p):d = jcj p:=by
 unfold prO at h
 split at h
 ·cases h; rfl
 ·cases h
theorem jmo {H:Hp} {x:V} {p:Int × Int} (h:Rep H (jcj p) x):Pr H x p:=by
 rw [jcj,Rep] at h
 obtain ⟨a,vs,rfl,ea,r⟩:=h
 rw [Reps] at r
 obtain ⟨v,r1,rfl,e1,r⟩:=r
 rw [Reps] at r
 obtain ⟨v2,r2,rfl,e2,r⟩:=r
 rw [Reps] at r
 subst r
 rw [Rep] at e1 e2
 subst e1 e2
 exact ⟨a,rfl,ea⟩
theorem Pr.o {H:Hp} {x:V} {p:Int × Int} (h:Pr H x p):OPr H x (some p):=⟨jcj p,h.rep,rfl⟩
def kdD:Dt→Kd
 | .non=>.non
 | .bl _=>.bl
 | .int _=>.int
 | .str _=>.str
 | .tup _=>.tup
 | .lst _=>.lst
theorem jhr {H:Hp} {d:Dt} {x:V} (h:Rep H d x):L2.kd H x = some (kdD d):=by
 cases d with
 | non=>rw [Rep] at h; subst h; rfl
 | bl b=>rw [Rep] at h; subst h; rfl
 | int b=>rw [Rep] at h; subst h; rfl
 | str b=>rw [Rep] at h; subst h; rfl
 | tup ds=>rw [Rep] at h; obtain ⟨a,vs,rfl,e,_⟩:=h; unfold L2.kd; dsimp only; rw [e]; rfl
 | lst ds=>rw [Rep] at h; obtain ⟨a,vs,rfl,e,_⟩:=h; unfold L2.kd; dsimp only; rw [e]; rfl
def tupB (m:Int):Dt→Bool
 | .tup ds=>decide ((ds.length:Int) = m)
 | _=>false
def jm7:Sp:=fun vs H Q _=>∃ x d m,vs = [x,.int m]∧Rep H d x∧Q (.bl (tupB m d)) H
def jok:Sp:=fun vs H Q _=>∃ x o,vs = [x]∧OPr H x o∧Q (.bl o.isSome) H
def trO:Dt→Option (Int × Int × Int)
 | .tup [.int x,.int y,.int z]=>some (x,y,z)
 | _=>none
def jdn (d:Int × Int × Int):Dt:=.tup [.int d.1,.int d.2.1,.int d.2.2]
theorem jm4 {d:Dt} {p:Int × Int × Int} (h:trO d = some p):d = jdn p:=by
 unfold trO at h
 split at h
 ·cases h; rfl
 ·cases h
theorem ji7 {H:Hp} {x:V} {p:Int × Int × Int} (h:Rep H (jdn p) x):Tp H x p:=by
 rw [jdn,Rep] at h
 obtain ⟨a,vs,rfl,ea,r⟩:=h
 rw [Reps] at r
 obtain ⟨v,r1,rfl,e1,r⟩:=r
 rw [Reps] at r
 obtain ⟨v2,r2,rfl,e2,r⟩:=r
 rw [Reps] at r
 obtain ⟨v3,r3,rfl,e3,r⟩:=r
 rw [Reps] at r
 subst r
 rw [Rep] at e1 e2 e3
 subst e1 e2 e3
 exact ⟨a,rfl,ea⟩
def dueO (d:Dt):Option (Int × Int × Int):=match trO d with
 | some p=>if 1 ≤ p.2.2 then some p else none
 | none=>none
def jop:Sp:=fun vs H Q _=>∃ x d,vs = [x]∧Rep H d x∧∀ H',Same H H'→Q (.bl (dueO d).isSome) H'
def jm2 (ds:List Dt):Bool:=ds.all fun d=>jfm (kdD d)
theorem jqh {ds:List Dt} (h:ds.length = 3) (hw:jm2 ds = true):∃ p:Int × Int × Int,ds = [.int p.1,.int p.2.1,.int p.2.2]:=by
 match ds,h with
 | [a,b,c],_ =>
  unfold jm2 at hw
  simp only [List.all_cons,List.all_nil,Bool.and_true,Bool.and_eq_true] at hw
  obtain ⟨h1,h2,h3⟩:=hw
  cases a with
  | int x=>cases b with
   | int y=>cases c with
    | int z=>exact ⟨(x,y,z),rfl⟩
    | _=>cases h3
   | _=>cases h2
  | _=>cases h1
theorem jsn {ds:List Dt} (h:¬ ds.length = 3 ∨ jm2 ds = false):trO (.tup ds) = none:=by
 unfold trO
 split
 ·rename_i e
  cases e
  rcases h with h | h
  ·exact absurd rfl h
  ·cases h
 ·rfl
def jdq (ds:List (Int × Int × Int)) (n:Int):Int:=(ds.map fun d=>(if d.1 = n then d.2.2 else 0) + (if d.2.1 = n then d.2.2 else 0)).sum
def jm0 (kvs:List (Key × V)) (ds:List (Int × Int × Int)):Prop:=∀ n:Int,(valV kvs (Sum.inl n:Key) = none∧jdq ds n = 0) ∨ valV kvs (Sum.inl n:Key) = some (.int (jdq ds n))
theorem jm0.get {kvs:List (Key × V)} {ds:List (Int × Int × Int)} (h:jm0 kvs ds) (n:Int):(valV kvs (Sum.inl n:Key)).getD (.int 0) = .int (jdq ds n):=by
 rcases h n with ⟨e,f⟩ | e
 ·rw [e,f]; rfl
 ·rw [e]; rfl
def jos:Sp:=fun vs H Q _=>∃ l zs ds,vs = [.ref l]∧H l = some (.lst zs)∧Tps H zs ds∧ds.length ≤ 200∧∀ d kvs H',Same H H'→H' d = some (.dK kvs)→jm0 kvs ds→Q (.ref d) H'
theorem Tp.tups {H H':Hp} {v:V} {p:Int × Int × Int} (h:Tp H v p) (s:TupS H H'):Tp H' v p:=let ⟨a,e,q⟩:=h; ⟨a,e,s _ _ rfl q⟩
theorem jbw {H H':Hp} (s:TupS H H'):∀ {xs:List V} {ps:List (Int × Int × Int)},Tps H xs ps→Tps H' xs ps
 | _,_,.nil=>.nil
 | _,_,.cons r t=>.cons (Tp.tups r s) (jbw s t)
theorem jmi (kvs:List (Key × V)) (k:Key) (v:V):(putK kvs k v).length ≤ kvs.length + 1:=jdr kvs k v
theorem jgu {f:Addr} {fd:FuncData}  (B:Blt mg) (D:DefAt K mg "is_tuple_of" (top 8) ["thing","many"] f fd):FnOk P w K mg base CX0 1 f fd ["thing","many"] jm7:=by
 have sc:FnScope ["thing","many"] ["thing","many"] (jbc (top 8)):=⟨rfl,rfl,rfl,by decide +kernel,rfl,by decide +kernel,by decide +kernel⟩
 refine D.F.ok sc (fun vs H Q E h=>?_) (fun cdv A outer s H vs Q E hr h=>?_)
 ·obtain ⟨x,d,m,rfl,_⟩:=h
  rfl
 obtain ⟨x,d,m,rfl,hd,h⟩:=h
 have hk:=jhr hd
 have hu:=jc8 hr
 have hu0:_ < PySem.cLine:=Nat.lt_of_succ_lt hu
 refine ⟨_,(jb8 (jbq (jes (jbf (jk3 .tup) rfl B.isinstance PyProof.Rows.boot_isinstance (ja0 (qv 0) (ja0 (jdy (v:=.ty "tuple") rfl B.tuple PyProof.Rows.boot_tuple rfl) jag))) (jev (jd7 q_eq (jbf jdv rfl B.len PySem.boot_len (ja0 (qv 0) jag)) (qv 1) (jc5 _)))))),?_⟩
 cases d with
 | tup ds =>
  rw [Rep] at hd
  obtain ⟨a,vs,rfl,ea,r⟩:=hd
  simp_arith [kd,ea,jbl,isi]
  rw [r.len]
  exact h
 | non=>simp_arith [hk,isi,kdD]; exact h
 | bl b=>simp_arith [hk,isi,kdD]; exact h
 | int b=>simp_arith [hk,isi,kdD]; exact h
 | str b=>simp_arith [hk,isi,kdD]; exact h
 | lst b=>simp_arith [hk,isi,kdD]; exact h
theorem jdz {f:Addr} {fd:FuncData} {f_is_tuple_of:Addr} {d_is_tuple_of:FuncData} {f_is_whole:Addr} {d_is_whole:FuncData} (B:Blt mg) (D:DefAt K mg "is_pair_of_wholes" (top 9) ["thing"] f fd) (D_is_tuple_of:DefAt K mg "is_tuple_of" (top 8) ["thing","many"] f_is_tuple_of d_is_tuple_of) (G_is_tuple_of:FnOk P w K mg base CX0 1 f_is_tuple_of d_is_tuple_of ["thing","many"] jm7) (D_is_whole:DefAt K mg "is_whole" (top 7) ["thing"] f_is_whole d_is_whole) (G_is_whole:FnOk P w K mg base CX0 1 f_is_whole d_is_whole ["thing"] jib):FnOk P w K mg base CX0 2 f fd ["thing"] jok:=by
 have sc:FnScope ["thing"] ["thing"] (jbc (top 9)):=⟨rfl,rfl,rfl,by decide +kernel,rfl,by decide +kernel,by decide +kernel⟩
 refine D.F.ok sc (fun vs H Q E h=>?_) (fun cdv A outer s H vs Q E hr h=>?_)
 ·obtain ⟨x,o,rfl,_⟩:=h
  rfl
 obtain ⟨x,o,rfl,ho,h⟩:=h
 obtain ⟨d,hd,rfl⟩:=ho
 have hu:=jc8 hr
 have hu0:_ < PySem.cLine:=Nat.lt_of_succ_lt hu
 refine ⟨_,(jb8 (jbq (jes (jbe G_is_tuple_of (hr.mono (by decide)) rfl D_is_tuple_of.m D_is_tuple_of.F.kp D_is_tuple_of.b .nil jbu (ja0 (qv 0) (ja0 jah jag))) (jes (jbe G_is_whole (hr.mono (by decide)) rfl D_is_whole.m D_is_whole.F.kp D_is_whole.b .nil jbu (ja0 (jbh q_ix (qv 0) jah (fun _ _=>rfl)) jag)) (jev (jbe G_is_whole (hr.mono (by decide)) rfl D_is_whole.m D_is_whole.F.kp D_is_whole.b .nil jbu (ja0 (jbh q_ix (qv 0) jah (fun _ _=>rfl)) jag))))))),?_⟩
 walk_at "RD"
 refine ⟨_,d,2,rfl,hd,?_⟩
 cases d with
 | tup ds =>
  rw [Rep] at hd
  obtain ⟨a,vs,rfl,ea,r⟩:=hd
  match ds,r,h with
  | [],r,h =>
   rw [show tupB 2 (.tup []) = false from rfl]
   walk_at "RD"
   exact h
  | [d1],r,h =>
   have e2:prO (.tup [d1]) = none:=by cases d1 <;> rfl
   rw [e2] at h
   rw [show tupB 2 (.tup [d1]) = false from rfl]
   walk_at "RD"
   exact h
  | d1 :: d2 :: d3 :: ds,r,h =>
   have e:tupB 2 (.tup (d1 :: d2 :: d3 :: ds)) = false:=by
    unfold tupB
    refine decide_eq_false ?_
    rw [List.length_cons,List.length_cons,List.length_cons]
    omega
   have e2:prO (.tup (d1 :: d2 :: d3 :: ds)) = none:=by cases d1 <;> cases d2 <;> rfl
   rw [e2] at h
   rw [e]
   walk_at "RD"
   exact h
  | [d1,d2],r,h =>
   rw [Reps] at r
   obtain ⟨v1,r1,rfl,e1,r⟩:=r
   rw [Reps] at r
   obtain ⟨v2,r2,rfl,e2,r⟩:=r
   rw [Reps] at r
   subst r
   rw [show tupB 2 (.tup [d1,d2]) = true from rfl]
   simp_arith [jbl,ea,at0,at1]
   refine ⟨_,kdD d1,rfl,jhr e1,?_⟩
   cases d1 with
   | int i =>
    simp_arith [kdD,jfm,jbl,ea,at0,at1]
    refine ⟨_,kdD d2,rfl,jhr e2,?_⟩
    cases d2 <;> exact h
   | _=>simp_arith [kdD,jfm]; exact h
 | _=>simp_arith [tupB]; exact h
theorem jpk {f:Addr} {fd:FuncData} {f_is_tuple_of:Addr} {d_is_tuple_of:FuncData} {f_is_whole:Addr} {d_is_whole:FuncData} (B:Blt mg) (D:DefAt K mg "is_due" (top 27) ["thing"] f fd) (D_is_tuple_of:DefAt K mg "is_tuple_of" (top 8) ["thing","many"] f_is_tuple_of d_is_tuple_of) (G_is_tuple_of:FnOk P w K mg base CX0 1 f_is_tuple_of d_is_tuple_of ["thing","many"] jm7) (D_is_whole:DefAt K mg "is_whole" (top 7) ["thing"] f_is_whole d_is_whole) (G_is_whole:FnOk P w K mg base CX0 1 f_is_whole d_is_whole ["thing"] jib):FnOk P w K mg base CX0 2 f fd ["thing"] jop:=by
 have sc:FnScope ["thing"] ["thing"] (jbc (top 27)):=⟨rfl,rfl,rfl,by decide +kernel,rfl,by decide +kernel,by decide +kernel⟩
 refine D.F.ok sc (fun vs H Q E h=>?_) (fun cdv A outer s H vs Q E hr h=>?_)
 ·obtain ⟨x,d,rfl,_⟩:=h
  rfl
 obtain ⟨x,d,rfl,hd,h⟩:=h
 have hu:=jc8 hr
 have hu0:_ < PySem.cLine:=Nat.lt_of_succ_lt hu
 refine ⟨_,(jb8 (jbq (jes (jbe G_is_tuple_of (hr.mono (by decide)) rfl D_is_tuple_of.m D_is_tuple_of.F.kp D_is_tuple_of.b .nil jbu (ja0 (qv 0) (ja0 jah jag))) (jes (jbf (jtw rfl) rfl B.all PyProof.Rows.boot_all (ja0 (jc6 (CpScope.of (N:=["part"]) (src:=[none]) (by rfl)) rfl (pi_tup (qv 0)) (fun _ _ _ _=>(jbb (i:=0) (jbd (l:=["part"]) (by rfl)) rfl (Or.inl rfl))) (fun _ _ _ _=>jc1) (fun _ _ _ _=>(jbe G_is_whole (hr.mono (by decide)) rfl D_is_whole.m D_is_whole.F.kp D_is_whole.b .nil jbu (ja0 (qv 0) jag)))) jag)) (jev (jd7 q_ge (jbh q_ix (qv 0) jah (fun _ _=>rfl)) jah (jc5 _))))))),?_⟩
 walk_at "RD"
 refine ⟨_,d,3,rfl,hd,?_⟩
 cases d with
 | tup ds =>
  have hd0:=hd
  rw [Rep] at hd
  obtain ⟨a,vs,rfl,ea,r⟩:=hd
  have hlv:=r.len
  by_cases c3:ds.length = 3
  ·rw [show tupB 3 (.tup ds) = true from decide_eq_true (by omega)]
   walk_at "RD"
   refine jbj (Itt K a) H (fun R hR=>?_) (fun z hz0=>jbs ds.length (fun i σ' Hc=>∃ w1,σ' = [w1]∧Same H Hc∧Hc z = some (.lst (((ds.take i).map fun d=>jfm (kdD d)).map V.bl))) ⟨none,rfl,jai hz0 _,ja4⟩ ?_ ?_)
   ·unfold iTup
    walk_at "RD"
    exact ⟨a,rfl,⟨_,SqT.of ea⟩,hR⟩
   ·rintro i σ' Hc hi ⟨w1,rfl,s2,ez⟩
    have x1:vs[i]? = some (vs[i]'(by omega)):=List.getElem?_eq_getElem _
    refine ⟨⟨_,_,SqT.of (s2 _ _ ea),x1⟩,?_⟩
    rintro y H' ⟨rfl,hy⟩
    have E1:=Option.some.inj (x1.symm.trans (hy _ (SqT.of (s2 _ _ ea))))
    subst E1
    obtain ⟨dt,hdt,rdt⟩:=r.at x1
    walk_at "RD"
    refine ⟨_,kdD dt,rfl,jhr (Rep.same s2 _ rdt),?_⟩
    refine ⟨_,ez,?_,_,rfl,jbk s2 hz0,?_⟩
    ·rw [List.length_map,List.length_map,List.length_take]
     exact szl' (by omega)
    ·rw [ja4,jbp hdt,List.map_append,List.map_append]
     rfl
   rintro σ' H1 ⟨w1,rfl,s1,ez⟩
   refine ⟨⟨_,SqT.of (s1 _ _ ea),by omega⟩,?_⟩
   rw [List.take_length] at ez
   simp_arith [ez]
   refine ⟨_,rfl,?_⟩
   have ew:(ds.map fun d=>jfm (kdD d)).all id = jm2 ds:=by rw [List.all_map]; rfl
   refine ite2 (fun c=>?_) (fun c=>?_)
   ·have c:=ew.symm.trans c
    obtain ⟨p,hp⟩:=jqh c3 c
    subst hp
    obtain ⟨a',ea',e3⟩:=ji7 (p:=p) hd0
    cases ea'
    simp_arith [jbl,s1 _ _ e3,at2]
    have e9:(dueO (jdn p)).isSome = decide (p.2.2 ≥ 1):=by
     unfold dueO
     show (match some (p.1,p.2.1,p.2.2) with | some p=>if 1 ≤ p.2.2 then some p else none | none=>none).isSome = _
     dsimp only
     by_cases c9:1 ≤ p.2.2
     ·rw [if_pos c9,decide_eq_true c9]; rfl
     ·rw [if_neg c9,decide_eq_false c9]; rfl
    have:=h H1 s1
    rw [show (Dt.tup [.int p.1,.int p.2.1,.int p.2.2]) = jdn p from rfl,e9] at this
    exact this
   ·have c:=ew.symm.trans (Bool.eq_false_iff.mpr c)
    have:=h H1 s1
    unfold dueO at this
    rw [jsn (.inr c)] at this
    exact this
  ·rw [show tupB 3 (.tup ds) = false from decide_eq_false (by omega)]
   walk_at "RD"
   have:=h H (Same.refl _)
   unfold dueO at this
   rw [jsn (.inl c3)] at this
   exact this
 | _=>simp_arith [tupB]; exact h H (Same.refl _)
end
end My
namespace My
open PySem L2
section
variable {P:Program} {w:World} {K:PySem.W.Frag} {mg:Str→Option Value} {base:Heap} {c1 c2 c3 c4:Tok} {C_NoWeb f_NoWeb:Addr} {dI:FuncData}
def mkT (ts:List (Int × Int)):List (List Key × V):=ts.map fun t=>([Sum.inl t.1,Sum.inl t.2],V.bl true)
theorem jpt:∀ (ts:List (Int × Int)) (t:Int × Int),(valV (mkT ts) ([Sum.inl t.1,Sum.inl t.2]:List Key)).isSome = decide (t ∈ ts)
 | [],t=>by simp [mkT,valV]
 | u :: r,t=>by
  have ih:=jpt r t
  unfold mkT valV at ih ⊢
  rw [List.map_cons,List.find?_cons]
  by_cases h:u = t
  ·subst h; simp
  ·have hne:¬ (([Sum.inl u.1,Sum.inl u.2]:List Key) = [Sum.inl t.1,Sum.inl t.2]):=fun z=>by
    injection z with z1 z2
    injection z2 with z2 _
    exact h (Prod.ext (Sum.inl.inj z1) (Sum.inl.inj z2))
   dsimp only
   rw [decide_eq_false hne]
   dsimp only
   rw [ih]
   have hn:¬ t = u:=fun z=>h z.symm
   simp [hn]
def jom:Sp:=fun vs H Q _=>∃ u zs ts,vs = [.ref u]∧H u = some (.lst zs)∧Prs H zs ts∧ts.Nodup∧ts.length ≤ 120∧∀ d H',H d = none→Same H H'→H' d = some (.dT (mkT ts))→Q (.ref d) H'
theorem jje.tups {H H':Hp} {v:V} {p:List Key × V} (h:jje H v p) (s:TupS H H'):jje H' v p:=let ⟨t,b,e,q,r⟩:=h; ⟨t,b,e,s _ _ rfl q,s _ _ rfl r⟩
theorem jeg {H H':Hp} (s:TupS H H'):∀ {xs:List V} {ps:List (List Key × V)},Paired (jje H) xs ps→Paired (jje H') xs ps
 | _,_,.nil=>.nil
 | _,_,.cons r t=>.cons (jje.tups r s) (jeg s t)
theorem jni {ds:List (Int × Int × Int)} {i:Nat} {d:Int × Int × Int} (h:ds[i]? = some d) (n:Int):jdq (ds.take (i + 1)) n = jdq (ds.take i) n + ((if d.1 = n then d.2.2 else 0) + (if d.2.1 = n then d.2.2 else 0)):=by
 unfold jdq
 rw [jbp h,List.map_append,List.sum_append]
 simp
theorem jm0.put {kvs:List (Key × V)} {f:Int→Int} (h:∀ n:Int,(valV kvs (Sum.inl n:Key) = none∧f n = 0) ∨ valV kvs (Sum.inl n:Key) = some (.int (f n))) (m a:Int):∀ n:Int,(valV (putK kvs (Sum.inl m:Key) (.int (f m + a))) (Sum.inl n:Key) = none∧f n + (if m = n then a else 0) = 0) ∨ valV (putK kvs (Sum.inl m:Key) (.int (f m + a))) (Sum.inl n:Key) = some (.int (f n + (if m = n then a else 0))):=fun n=>by
 rw [jr6]
 by_cases c:m = n
 ·subst c
  rw [if_pos rfl,if_pos rfl]
  exact .inr rfl
 ·rw [if_neg (fun z=>c (Sum.inl.inj z).symm),if_neg c,Int.add_zero]
  exact h n
theorem jpl {f:Addr} {fd:FuncData}  (B:Blt mg) (D:DefAt K mg "due_at" (top 28) ["dues"] f fd):FnOk P w K mg base CX0 1 f fd ["dues"] jos:=by
 have sc:FnScope ["dues","paid","one","other","amount"] ["dues"] (jbc (top 28)):=⟨rfl,rfl,rfl,by decide +kernel,rfl,by decide +kernel,by decide +kernel⟩
 refine D.F.ok sc (fun vs H Q E h=>?_) (fun cdv A outer s H vs Q E hr h=>?_)
 ·obtain ⟨l,zs,ds,rfl,_⟩:=h
  rfl
 obtain ⟨l,zs,ds,rfl,el,pz,h200,h⟩:=h
 have hlz:zs.length = ds.length:=Paired.length pz
 have hu:=jc8 hr
 have hu0:_ < PySem.cLine:=Nat.lt_of_succ_lt hu
 refine ⟨_,(jaf (jbi (i:=1) sc.nd rfl (Or.inl rfl) jrs) (jaf (jcv PassesOwn.never rfl (jbx (qv 0)) (jcl (n:=3) rfl (jbg (jbb (i:=2) sc.nd rfl (Or.inl rfl)) (jbg (jbb (i:=3) sc.nd rfl (Or.inl rfl)) (jbg (jbb (i:=4) sc.nd rfl (Or.inl rfl)) jc9)))) (jaf (jp6 hu (qv 1) (qv 2) (jbv jcz (jl8 hu (qv 1) (qv 2) jah) (qv 4))) (jb8 (jp6 hu (qv 1) (qv 3) (jbv jcz (jl8 hu (qv 1) (qv 3) jah) (qv 4)))))) (jb8 (jbq (qv 1))))),?_⟩
 refine jb9 fun R hR=>?_
 walk_at "RD"
 intro d hd
 have s1:=jai hd (.dK [])
 have ed:upd H d (.dK []) d = some (.dK []):=ja4
 generalize upd H d (.dK []) = H1 at s1 ed
 walk_at "RD"
 subst hR
 refine jb9 fun R hR=>?_
 refine jc0 (Itl K l) H1 (fun R' hR'=>?_) (jdj (K:=K) (a:=l) (xs:=zs) (fun i σ H2=>∃ v1 v2 v3 kvs,σ = [some (.ref l),some (.ref d),v1,v2,v3]∧Same H H2∧H2 d = some (.dK kvs)∧jm0 kvs (ds.take i)∧kvs.length ≤ 2 * i) ⟨none,none,none,[],rfl,s1,ed,fun n=>.inl ⟨rfl,rfl⟩,Nat.zero_le _⟩ (fun i σ H2 _ ⟨_,_,_,_,_,s2,_⟩=>SqL.of (s2 _ _ el)) ?_ ?_)
 ·unfold jd5
  walk_at "RD"
  exact ⟨l,rfl,⟨_,SqL.of (s1 _ _ el)⟩,hR'⟩
 ·rintro i x σ H2 hx ⟨v1,v2,v3,kvs,rfl,s2,ed2,pd,hkl⟩
  obtain ⟨p,hp,px⟩:=jbn pz hx
  obtain ⟨t,rfl,ht⟩:=Tp.tups px s2.tups
  have hil:=(List.getElem?_eq_some_iff.mp hp).1
  simp_arith [ht,ed2,pd.get]
  have q1:=jm0.put (f:=jdq (ds.take i)) pd p.1 p.2.2
  have kl1:=jmi kvs (Sum.inl p.1:Key) (.int (jdq (ds.take i) p.1 + p.2.2))
  refine ⟨⟨_,rfl⟩,szl' (by omega),⟨_,ja4⟩,?_⟩
  generalize putK kvs (Sum.inl p.1:Key) (.int (jdq (ds.take i) p.1 + p.2.2)) = k1 at q1 kl1 ⊢
  have g2:(valV k1 (Sum.inl p.2.1:Key)).getD (.int 0) = .int (jdq (ds.take i) p.2.1 + (if p.1 = p.2.1 then p.2.2 else 0)):=by
   rcases q1 p.2.1 with ⟨e,z⟩ | e
   ·rw [e,z]; rfl
   ·rw [e]; rfl
  have q2:=jm0.put (f:=fun n=>jdq (ds.take i) n + (if p.1 = n then p.2.2 else 0)) q1 p.2.1 p.2.2
  have kl2:=jmi k1 (Sum.inl p.2.1:Key) (.int (jdq (ds.take i) p.2.1 + (if p.1 = p.2.1 then p.2.2 else 0) + p.2.2))
  rw [ja4]
  dsimp only
  rw [g2]
  dsimp only
  refine ⟨szl' (by omega),_,_,_,_,rfl,?_,ja4,?_,by omega⟩
  ·exact jbk (jbk s2 hd) hd
  ·intro n
   rw [jni hp n,← Int.add_assoc]
   exact q2 n
 ·rintro σ H2 ⟨v1,v2,v3,kvs,rfl,s2,ed2,pd,hkl⟩
  rw [hlz,List.take_length] at pd
  subst hR
  walk_at "RD"
  exact h d kvs H2 s2 ed2 pd
theorem jpj {f:Addr} {fd:FuncData}  (B:Blt mg) (D:DefAt K mg "marked" (top 11) ["places"] f fd):FnOk P w K mg base CX0 1 f fd ["places"] jom:=by
 have sc:FnScope ["places"] ["places"] (jbc (top 11)):=⟨rfl,rfl,rfl,by decide +kernel,rfl,by decide +kernel,by decide +kernel⟩
 refine D.F.ok sc (fun vs H Q E h=>?_) (fun cdv A outer s H vs Q E hr h=>?_)
 ·obtain ⟨u,zs,ts,rfl,_⟩:=h
  rfl
 obtain ⟨u,zs,ts,rfl,eu,pz,nd,h120,h⟩:=h
 have hlz:zs.length = ts.length:=Paired.length pz
 have hu:=jc8 hr
 have hu0:_ < PySem.cLine:=Nat.lt_of_succ_lt hu
 refine ⟨_,(jb8 (jbq (jcw (jo1 rfl hr.units) rfl B.dict PyProof.Rows.boot_dict (ja0 (jc6 (CpScope.of (N:=["place"]) (src:=[none]) (by rfl)) rfl (jbx (qv 0)) (fun _ _ _ _=>(jbb (i:=0) (jbd (l:=["place"]) (by rfl)) rfl (Or.inl rfl))) (fun _ _ _ _=>jc1) (fun _ _ _ _=>(jch (ja0 (qv 0) (ja0 jef jag))))) jag)))),?_⟩
 walk_at "RD"
 refine jbj (Itl K u) H (fun R hR=>?_) (fun l hl0=>jbs ts.length (fun i σ' Hc=>∃ w1 vs,σ' = [w1]∧Same H Hc∧Hc l = some (.lst vs)∧Paired (jje Hc) vs (mkT (ts.take i))) ⟨none,[],rfl,jai hl0 _,ja4,.nil⟩ ?_ ?_)
 ·unfold jd5
  walk_at "RD"
  exact ⟨u,rfl,⟨_,SqL.of eu⟩,hR⟩
 ·rintro i σ' Hc hi ⟨w1,vs,rfl,s2,ev,pv⟩
  have z1:SqL K Hc u zs:=SqL.of (s2 _ _ eu)
  have x1:zs[i]? = some (zs[i]'(by omega)):=List.getElem?_eq_getElem _
  refine ⟨⟨_,_,z1,x1⟩,?_⟩
  rintro y H' ⟨rfl,hy⟩
  obtain ⟨q,hq,pq⟩:=jbn pz (hy _ z1)
  obtain ⟨b,rfl,hb⟩:=pq.same s2
  have hvl:vs.length ≤ 120:=by
   have:=Paired.length pv
   unfold mkT at this
   rw [List.length_map,List.length_take] at this
   omega
  walk_at "RD"
  intro t ht
  have q3:=jai ht (.tup [.ref b,.bl true])
  have ett:upd H' t (.tup [.ref b,.bl true]) t = some (.tup [.ref b,.bl true]):=ja4
  have ev2:=q3 _ _ ev
  have hb2:=q3 _ _ hb
  generalize upd H' t (.tup [.ref b,.bl true]) = H3 at q3 ett ev2 hb2
  have t6:=jca (ys:=vs ++ [.ref t]) ev2
  refine ⟨vs,ev2,szl' (by omega),_,vs ++ [.ref t],rfl,jbk (s2.trans q3) hl0,(by first | rfl | exact ja4),?_⟩
  have em:mkT (ts.take (i + 1)) = mkT (ts.take i) ++ [([Sum.inl q.1,Sum.inl q.2],V.bl true)]:=by
   unfold mkT
   rw [jbp hq,List.map_append]
   rfl
  rw [em]
  exact jbt (jeg t6 (jeg q3.tups pv)) ⟨t,b,rfl,t6 _ _ rfl ett,t6 _ _ rfl hb2⟩
 ·rintro σ' Hc ⟨w1,vs,rfl,s2,ev,pv⟩
  refine ⟨⟨_,SqL.of (s2 _ _ eu),by omega⟩,?_⟩
  rw [List.take_length] at pv
  have hvl:vs.length ≤ 120:=by
   have:=Paired.length pv
   unfold mkT at this
   rw [List.length_map] at this
   omega
  refine ⟨l,vs,mkT ts,rfl,ev,pv,by omega,?_,fun d hd=>h d _ (s2.free hd) (s2.trans (jai hd _)) ja4⟩
  unfold mkT
  rw [List.map_map]
  unfold List.Nodup at nd ⊢
  rw [List.pairwise_map]
  refine nd.imp fun {x y} hne e=>hne ?_
  have e:([Sum.inl x.1,Sum.inl x.2]:List Key) = [Sum.inl y.1,Sum.inl y.2]:=e
  injection e with e1 e2
  injection e2 with e2 _
  exact Prod.ext (Sum.inl.inj e1) (Sum.inl.inj e2)
end
end My
namespace My
open PySem L2
section
variable {P:Program} {w:World} {K:PySem.W.Frag} {mg:Str→Option Value} {base:Heap} {c1 c2 c3 c4:Tok} {C_NoWeb f_NoWeb:Addr} {dI:FuncData}
def jdg (ts:List (Int × Int)):Int × Int→List Dt→Option (List (Int × Int × Int))
 | _,[]=>some []
 | q,d :: r=>match dueO d with
  | some p=>if (p.1,p.2.1) ∈ ts∧leL [p.1,p.2.1] [q.1,q.2] = false then (jdg ts (p.1,p.2.1) r).map (p :: ·) else none
  | none=>none
def jhe (ps:List (Int × Int)) (qs:List (Int × Int × Int)):Bool:=ps.all fun p=>decide (jdq qs p.1 ≤ 2 * p.2)
def jnx (ps ts:List (Int × Int)):Dt→Bool
 | .lst ds=>match jdg ts (-1,-1) ds with
  | some qs=>jhe ps qs
  | none=>false
 | _=>false
def jsy (d:Dt):Prop:=∀ ds,d = .lst ds→ds.length ≤ 200
def jsw:Sp:=fun vs H Q _=>∃ v ps ts y d,vs = [v,y]∧jdh H v ps ts∧WebOk ps ts∧Rep H d y∧jsy d∧∀ H',Same H H'→Q (.bl (jnx ps ts d)) H'
theorem jiy {a b c d:Int} (h:HT.lexLt [a,b] [c,d] = true):a < c ∨ (a = c∧b < d):=by
 rw [HT.lexLt_cons] at h
 by_cases e:a = c
 ·rw [if_pos e,HT.lexLt_cons] at h
  by_cases e2:b = d
  ·rw [if_pos e2] at h
   cases h
  ·rw [if_neg e2] at h
   exact .inr ⟨e,of_decide_eq_true h⟩
 ·rw [if_neg e] at h
  exact .inl (of_decide_eq_true h)
theorem jt9 {a b c d:Int} (h:a < c):HT.lexLt [a,b] [c,d] = true:=by
 rw [HT.lexLt_cons,if_neg (by omega)]
 exact decide_eq_true h
theorem jta {a b d:Int} (h:b < d):HT.lexLt [a,b] [a,d] = true:=by
 rw [HT.lexLt_cons,if_pos rfl,HT.lexLt_cons,if_neg (by omega)]
 exact decide_eq_true h
theorem je9 {ps ts:List (Int × Int)} {ds:List Dt} (h:jdg ts (-1,-1) ds = none):jnx ps ts (.lst ds) = false:=by
 show (match jdg ts (-1,-1) ds with | some qs=>jhe ps qs | none=>false) = false
 rw [h]
theorem jfk {ps ts:List (Int × Int)} {ds:List Dt} {qs:List (Int × Int × Int)} (h:jdg ts (-1,-1) ds = some qs):jnx ps ts (.lst ds) = jhe ps qs:=by
 show (match jdg ts (-1,-1) ds with | some qs=>jhe ps qs | none=>false) = _
 rw [h]
theorem cut3 (a b c:V):cutV [a,b,c] none (some 2) = [a,b]:=rfl
theorem juz (a b c:V):¬ (HT.sIx [a,b,c].length 0 none = 0∧HT.sIx [a,b,c].length [a,b,c].length (some 2) = [a,b,c].length):=fun h=>by cases h.2
theorem jpw {a b c d e f:Int} (h:HT.lexLt [a,b] [c,d] = true) (g:HT.lexLt [c,d] [e,f] = true):HT.lexLt [a,b] [e,f] = true:=by
 have h:=jiy h
 have g:=jiy g
 by_cases c:a < e
 ·exact jt9 c
 ·have:a = e:=by omega
  subst this
  exact jta (by omega)
theorem TiOk.lt {kvs:List (Key × V)}:∀ {ts:List (Int × Int)} {q:Int × Int},TiOk kvs q ts→∀ p ∈ ts,HT.lexLt [q.1,q.2] [p.1,p.2] = true
 | [],_,_,_,h=>by cases h
 | u :: r,q,h,p,hp=>by
  rcases List.mem_cons.mp hp with e | hp
  ·rw [e]; exact h.1.1
  ·exact jpw h.1.1 (TiOk.lt h.2 p hp)
theorem TiOk.nodup {kvs:List (Key × V)}:∀ {ts:List (Int × Int)} {q:Int × Int},TiOk kvs q ts→ts.Nodup
 | [],_,_=>List.nodup_nil
 | u :: r,q,h=>by
  refine List.nodup_cons.mpr ⟨fun hm=>?_,TiOk.nodup h.2⟩
  have:=TiOk.lt h.2 u hm
  simp [HT.lexLt] at this
theorem jiu {f:Addr} {fd:FuncData} {f_is_due:Addr} {d_is_due:FuncData} {f_marked:Addr} {d_marked:FuncData} {f_due_at:Addr} {d_due_at:FuncData} (B:Blt mg) (D:DefAt K mg "dues_stand" (top 29) ["web","thing"] f fd) (D_is_due:DefAt K mg "is_due" (top 27) ["thing"] f_is_due d_is_due) (G_is_due:FnOk P w K mg base CX0 2 f_is_due d_is_due ["thing"] jop) (D_marked:DefAt K mg "marked" (top 11) ["places"] f_marked d_marked) (G_marked:FnOk P w K mg base CX0 1 f_marked d_marked ["places"] jom) (D_due_at:DefAt K mg "due_at" (top 28) ["dues"] f_due_at d_due_at) (G_due_at:FnOk P w K mg base CX0 1 f_due_at d_due_at ["dues"] jos):FnOk P w K mg base CX0 4 f fd ["web","thing"] jsw:=by
 have sc:FnScope ["web","thing","ties","last","due","paid"] ["web","thing"] (jbc (top 29)):=⟨rfl,rfl,rfl,by decide +kernel,rfl,by decide +kernel,by decide +kernel⟩
 refine D.F.ok sc (fun vs H Q E h=>?_) (fun cdv A outer s H vs Q E hr h=>?_)
 ·obtain ⟨v,ps,ts,y,d,rfl,_⟩:=h
  rfl
 obtain ⟨v,ps,ts,y,d,rfl,hw,wk,hd,hs,h⟩:=h
 obtain ⟨u,pa,ta,xs,ys,rfl,hu1,hpa,hta,hxs,hys⟩:=hw
 have hu:=jc8 hr
 have hu0:_ < PySem.cLine:=Nat.lt_of_succ_lt hu
 refine ⟨_,(jaf (jdc (jd3 (jd2 (jbf (jk3 .lst) rfl B.isinstance PyProof.Rows.boot_isinstance (ja0 (qv 1) (ja0 (jdy (v:=.ty "list") rfl B.list PyProof.Rows.boot_list rfl) jag))))) (jb8 (jbq jef)) jc2) (jaf (jbi (i:=2) sc.nd rfl (Or.inl rfl) (jbe G_marked (hr.mono (by decide)) rfl D_marked.m D_marked.F.kp D_marked.b .nil jbu (ja0 (jbh q_ix (qv 0) jah (fun _ _=>rfl)) jag))) (jaf (jbi (i:=3) sc.nd rfl (Or.inl rfl) (jch (ja0 (jng jne jah) (ja0 (jng jne jah) jag)))) (jaf (jcv PassesOwn.never rfl (jbx (qv 1)) (jbb (i:=4) sc.nd rfl (Or.inl rfl)) (jaf (jdc (PW.pt (jhd (jd3 (jd2 (jbe G_is_due (hr.mono (by decide)) rfl D_is_due.m D_is_due.F.kp D_is_due.b .nil jbu (ja0 (qv 4) jag)))) (jhd (pt_cmp (jpf hu (jeu jts (qv 4) jgm (jgh jah)) (qv 2))) (jgl (jck (q_leT hu0) (jeu jts (qv 4) jgm (jgh jah)) (qv 3) (jc5 _)))))) (jb8 (jbq jef)) jc2) (jb8 (jbi (i:=3) sc.nd rfl (Or.inl rfl) (jeu jts (qv 4) jgm (jgh jah)))))) (jaf (jbi (i:=5) sc.nd rfl (Or.inr rfl) (jbe G_due_at (hr.mono (by decide)) rfl D_due_at.m D_due_at.F.kp D_due_at.b .nil jbu (ja0 (qv 1) jag))) (jb8 (jbq (jbf (jtw rfl) rfl B.all PyProof.Rows.boot_all (ja0 (jc6 (CpScope.of (N:=["place","price","paid"]) (src:=[none,none,some 5]) (by rfl)) rfl (jbx (jbh q_ix (qv 0) jah (fun _ _=>rfl))) (fun _ _ _ _=>(jcl (n:=2) rfl (jbg (jbb (i:=0) (jbd (l:=["place","price","paid"]) (by rfl)) rfl (Or.inl rfl)) (jbg (jbb (i:=1) (jbd (l:=["place","price","paid"]) (by rfl)) rfl (Or.inl rfl)) jc9)))) (fun _ _ _ _=>jc1) (fun _ _ _ _=>(jd7 q_le (jl8 hu (qv 2) (qv 0) jah) (jbv jgj jah (qv 1)) (jc5 _)))) jag))))))))),?_⟩
 have hkd:=jhr hd
 simp_arith [hkd]
 cases d with
 | lst ds =>
  rw [Rep] at hd
  obtain ⟨l,zs,rfl,el,r⟩:=hd
  have hlv:=r.len
  simp_arith [kdD,isi,jbl,hu1,at1]
  refine ⟨ta,ys,ts,rfl,hta,hys,wk.t.nodup,wk.tl,fun m H1 hm0 s1 em p hp=>?_⟩
  have s2:=s1.trans (jai hp (.tup [.int (-1),.int (-1)]))
  have em2:=jai hp (.tup [.int (-1),.int (-1)]) _ _ em
  have ep:upd H1 p (.tup [.int (-1),.int (-1)]) p = some (.tup [.int (-1),.int (-1)]):=ja4
  generalize upd H1 p (.tup [.int (-1),.int (-1)]) = H2 at s2 em2 ep
  refine jc0 (Itl K l) H2 (fun R' hR'=>?_) (jdj (K:=K) (a:=l) (xs:=zs) (fun i σ Hc=>∃ v4 pl q qs,σ = [some (.ref u),some (.ref l),some (.ref m),some (.ref pl),v4,none]∧Same H Hc∧Hc m = some (.dT (mkT ts))∧Hc pl = some (.tup [.int q.1,.int q.2])∧jdg ts (-1,-1) ds = (jdg ts q (ds.drop i)).map (qs ++ ·)∧Tps H (zs.take i) qs) ⟨none,p,(-1,-1),[],rfl,s2,em2,ep,by simp,.nil⟩ (fun i σ Hc _ ⟨_,_,_,_,_,s3,_⟩=>SqL.of (s3 _ _ el)) ?_ ?_)
  ·unfold jd5
   walk_at "RD"
   exact ⟨l,rfl,⟨_,SqL.of (s2 _ _ el)⟩,hR'⟩
  ·rintro i x σ Hc hx ⟨v4,pl,q,qs,rfl,s3,em3,epl,hdo,hq⟩
   obtain ⟨dt,hdt,rdt⟩:=r.at hx
   have hdr:ds.drop i = dt :: ds.drop (i + 1):=jez hdt
   walk_at "RD"
   refine ⟨_,dt,rfl,Rep.same s3 _ rdt,fun H4 s4=>?_⟩
   have s5:=s3.trans s4
   have em4:=s4 _ _ em3
   have ep4:=s4 _ _ epl
   cases hdu:dueO dt with
   | none =>
    simp_arith [Option.isSome]
    have hb:=h H4 s5
    rw [je9 (by rw [hdo,hdr,jdg,hdu]; rfl)] at hb
    exact hb
   | some p =>
    simp_arith [Option.isSome]
    have htd:dt = jdn p:=by
     unfold dueO at hdu
     split at hdu
     ·rename_i p' e
      split at hdu
      ·cases hdu; exact jm4 e
      ·cases hdu
     ·cases hdu
    subst htd
    obtain ⟨t,rfl,ht⟩:=ji7 rdt
    have ht4:=s5 _ _ ht
    simp_arith [ht4,tB,jof]
    refine ⟨juz (.int p.1) (.int p.2.1) (.int p.2.2),fun k1 hk1=>?_⟩
    rw [cut3]
    have s6:=jai hk1 (.tup [.int p.1,.int p.2.1])
    have e6:upd H4 k1 (.tup [.int p.1,.int p.2.1]) k1 = some (.tup [.int p.1,.int p.2.1]):=ja4
    generalize upd H4 k1 (.tup [.int p.1,.int p.2.1]) = H6 at s6 e6
    refine ⟨m,_,rfl,DGet.t (k:=[Sum.inl p.1,Sum.inl p.2.1]) (s6 _ _ em4) e6,?_⟩
    have hmk:=jpt ts (p.1,p.2.1)
    dsimp only at hmk
    refine ⟨_,rfl,?_⟩
    rw [hmk]
    by_cases cm:(p.1,p.2.1) ∈ ts
    ·rw [decide_eq_true cm,if_neg (by decide),s6 _ _ ht4]
     refine ⟨juz (.int p.1) (.int p.2.1) (.int p.2.2),fun k2 hk2=>?_⟩
     rw [cut3]
     have s7:=jai hk2 (.tup [.int p.1,.int p.2.1])
     have e7:upd H6 k2 (.tup [.int p.1,.int p.2.1]) k2 = some (.tup [.int p.1,.int p.2.1]):=ja4
     generalize upd H6 k2 (.tup [.int p.1,.int p.2.1]) = H7 at s7 e7
     have s8:=s6.trans s7
     simp_arith [fLeT,e7,s8 _ _ ep4]
     by_cases cl:leL [p.1,p.2.1] [q.1,q.2] = true
     ·rw [if_pos cl]
      have hb:=h H7 (s5.trans s8)
      rw [je9 (by rw [hdo,hdr,jdg,hdu]; dsimp only; rw [if_neg (fun z=>by rw [z.2] at cl; cases cl)]; rfl)] at hb
      exact hb
     ·rw [if_neg cl,s8 _ _ ht4]
      refine ⟨juz (.int p.1) (.int p.2.1) (.int p.2.2),fun k3 hk3=>?_⟩
      rw [cut3]
      have s9:=s8.trans (jai hk3 (.tup [.int p.1,.int p.2.1]))
      refine ⟨_,k3,(p.1,p.2.1),qs ++ [p],rfl,s5.trans s9,s9 _ _ em4,ja4,?_,?_⟩
      ·rw [hdo,hdr,jdg,hdu]
       dsimp only
       rw [if_pos ⟨cm,Bool.eq_false_iff.mpr cl⟩,Option.map_map]
       congr 1
       funext w
       show qs ++ p :: w = (qs ++ [p]) ++ w
       rw [List.append_assoc]
       rfl
      ·rw [jbp hx]
       exact jbt hq ⟨t,rfl,ht⟩
    ·rw [decide_eq_false cm,if_pos (by decide)]
     have hb:=h H6 (s5.trans s6)
     rw [je9 (by rw [hdo,hdr,jdg,hdu]; dsimp only; rw [if_neg (fun z=>cm z.1)]; rfl)] at hb
     exact hb
  ·rintro σ Hc ⟨v4,pl,q,qs,rfl,s3,em3,epl,hdo,hq⟩
   rw [List.drop_eq_nil_of_le (by omega),jdg,Option.map_some,List.append_nil] at hdo
   rw [List.take_length] at hq
   walk_at "RD"
   refine ⟨l,zs,qs,rfl,s3 _ _ el,jbw s3.tups hq,?_,fun d kvs H5 s5 ed5 pd=>?_⟩
   ·rw [← Paired.length hq,hlv]; exact hs _ rfl
   have s6:=s3.trans s5
   refine jbj (Itl K pa) H5 (fun R hR=>?_) (fun z hz0=>jbs ps.length (fun i σ' Hc=>∃ w1 w2,σ' = [w1,w2,some (.ref d)]∧Same H5 Hc∧Hc z = some (.lst (((ps.take i).map fun p=>decide (jdq qs p.1 ≤ 2 * p.2)).map V.bl))) ⟨none,none,rfl,jai hz0 _,ja4⟩ ?_ ?_)
   ·unfold jd5
    simp_arith [jbl,s6 _ _ hu1,at0]
    exact ⟨pa,rfl,⟨_,SqL.of (s6 _ _ hpa)⟩,hR⟩
   ·rintro i σ' Hc hi ⟨w1,w2,rfl,s7,ez⟩
    have hxl:=Paired.length hxs
    have x1:xs[i]? = some (xs[i]'(by omega)):=List.getElem?_eq_getElem _
    have s8:=s6.trans s7
    refine ⟨⟨_,_,SqL.of (s8 _ _ hpa),x1⟩,?_⟩
    rintro y H' ⟨rfl,hy⟩
    have E1:=Option.some.inj (x1.symm.trans (hy _ (SqL.of (s8 _ _ hpa))))
    obtain ⟨pr,hpr,px⟩:=jbn hxs x1
    rw [E1] at px
    obtain ⟨b,rfl,hb⟩:=px.same s8
    simp_arith [hb,s7 _ _ ed5,pd.get]
    refine ⟨⟨_,rfl⟩,cmL (by decide) (by decide),_,ez,?_,_,_,rfl,jbk s7 hz0,?_⟩
    ·rw [List.length_map,List.length_map,List.length_take]
     have:=wk.pl
     exact szl' (by omega)
    ·rw [ja4,jbp hpr,List.map_append,List.map_append]
     rfl
   ·rintro σ' Hc ⟨w1,w2,rfl,s7,ez⟩
    have s8:=s6.trans s7
    refine ⟨⟨_,SqL.of (s8 _ _ hpa),by have:=Paired.length hxs; omega⟩,?_⟩
    rw [List.take_length] at ez
    simp_arith [ez]
    refine ⟨_,rfl,?_⟩
    have hb:=h Hc s8
    rw [jfk hdo] at hb
    have ew:(ps.map fun p=>decide (jdq qs p.1 ≤ 2 * p.2)).all id = jhe ps qs:=by rw [List.all_map]; rfl
    rw [ew]
    exact hb
 | _=>simp_arith [kdD,isi]; exact h H (Same.refl _)
end
end My
namespace My
open PySem L2
section
variable {P:Program} {w:World} {K:PySem.W.Frag} {mg:Str→Option Value} {base:Heap} {c1 c2 c3 c4:Tok} {C_NoWeb f_NoWeb:Addr} {dI:FuncData}
def halO:List (Int × Int)→List Dt→Option (List (Int × Int))
 | [],[]=>some []
 | p :: ps,d :: ds=>match prO d with
  | some h=>if h.1 = p.1∧0 ≤ h.2∧h.2 ≤ 2 then (halO ps ds).map (h :: ·) else none
  | none=>none
 | _,_=>none
def hOf (hs:List (Int × Int)) (n:Int):Int:=match valV (jce hs) (Sum.inl n:Key) with
 | some (.int i)=>i
 | _=>0
def jfv (ts hs:List (Int × Int)):Bool:=ts.all fun t=>decide (hOf hs t.1 + hOf hs t.2 ≥ 2)
def halB (ps ts:List (Int × Int)):Dt→Bool
 | .lst ds=>match halO ps ds with
  | some hs=>jfv ts hs
  | none=>false
 | _=>false
theorem jdl {ps ts:List (Int × Int)} {ds:List Dt} (h:halO ps ds = none):halB ps ts (.lst ds) = false:=by
 show (match halO ps ds with | some hs=>jfv ts hs | none=>false) = false
 rw [h]
theorem jh7 {ps ts:List (Int × Int)} {ds:List Dt} {hs:List (Int × Int)} (h:halO ps ds = some hs):halB ps ts (.lst ds) = jfv ts hs:=by
 show (match halO ps ds with | some hs=>jfv ts hs | none=>false) = _
 rw [h]
theorem jmw:∀ {ps:List (Int × Int)} {ds:List Dt},¬ ds.length = ps.length→halO ps ds = none
 | [],[],h=>absurd rfl h
 | [],_ :: _,_=>rfl
 | _ :: _,[],_=>rfl
 | p :: ps,d :: ds,h=>by
  rw [halO,jmw (ps:=ps) (ds:=ds) (fun z=>h (by rw [List.length_cons,List.length_cons,z]))]
  split
  ·split <;> rfl
  ·rfl
theorem jek {hs:List (Int × Int)} {n:Int} (hn:(hs.map (·.1)).Nodup) (h:n ∈ hs.map (·.1)):valV (jce hs) (Sum.inl n:Key) = some (.int (hOf hs n)):=by
 obtain ⟨p,hp,rfl⟩:=List.mem_map.mp h
 have e:=jee hn hp
 unfold hOf
 rw [e]
theorem TiOk.in {kvs:List (Key × V)}:∀ {ts:List (Int × Int)} {q:Int × Int},TiOk kvs q ts→∀ p ∈ ts,p.1 < p.2∧hasK kvs p.1 = true∧hasK kvs p.2 = true
 | [],_,_,_,h=>by cases h
 | u :: r,q,h,p,hp=>by
  rcases List.mem_cons.mp hp with e | hp
  ·rw [e]; exact h.1.2
  ·exact TiOk.in h.2 p hp
theorem jfh:∀ {ps:List (Int × Int)} {n:Int},hasK (jce ps) n = true→n ∈ ps.map (·.1)
 | [],_,h=>by cases h
 | p :: r,n,h=>by
  by_cases c:p.1 = n
  ·rw [← c]; exact List.mem_cons_self
  ·refine List.mem_cons_of_mem _ (jfh ?_)
   unfold hasK jce valV at h
   rw [List.map_cons,List.find?_cons] at h
   dsimp only at h
   rw [decide_eq_false (fun z=>c (Sum.inl.inj z))] at h
   exact h
def jmb:Sp:=fun vs H Q _=>∃ v ps ts y d,vs = [v,y]∧jdh H v ps ts∧WebOk ps ts∧Rep H d y∧∀ H',Same H H'→Q (.bl (halB ps ts d)) H'
def jhl (ps hs:List (Int × Int)):Int:=(hs.map fun h=>hOf ps h.1 * h.2).sum
def jou:Sp:=fun vs H Q _=>∃ v ps ts l zs hs,vs = [v,.ref l]∧jdh H v ps ts∧WebOk ps ts∧H l = some (.lst zs)∧Prs H zs hs∧hs.length ≤ 200∧(∀ h ∈ hs,h.1 ∈ ps.map (·.1)∧0 ≤ h.2∧h.2 ≤ 2)∧∀ H',Same H H'→Q (.int (jhl ps hs)) H'
theorem jgs {f:Addr} {fd:FuncData} {f_is_pair_of_wholes:Addr} {d_is_pair_of_wholes:FuncData} (B:Blt mg) (D:DefAt K mg "halves_stand" (top 26) ["web","thing"] f fd) (D_is_pair_of_wholes:DefAt K mg "is_pair_of_wholes" (top 9) ["thing"] f_is_pair_of_wholes d_is_pair_of_wholes) (G_is_pair_of_wholes:FnOk P w K mg base CX0 2 f_is_pair_of_wholes d_is_pair_of_wholes ["thing"] jok):FnOk P w K mg base CX0 3 f fd ["web","thing"] jmb:=by
 have sc:FnScope ["web","thing","pair","known","halves"] ["web","thing"] (jbc (top 26)):=⟨rfl,rfl,rfl,by decide +kernel,rfl,by decide +kernel,by decide +kernel⟩
 refine D.F.ok sc (fun vs H Q E h=>?_) (fun cdv A outer s H vs Q E hr h=>?_)
 ·obtain ⟨v,ps,ts,y,d,rfl,_⟩:=h
  rfl
 obtain ⟨v,ps,ts,y,d,rfl,hw,wk,hd,h⟩:=h
 obtain ⟨u,pa,ta,xs,ys,rfl,hu1,hpa,hta,hxs,hys⟩:=hw
 have hxl:=Paired.length hxs
 have hu:=jc8 hr
 have hu0:_ < PySem.cLine:=Nat.lt_of_succ_lt hu
 refine ⟨_,(jaf (jdc (PW.pt (jhd (jd3 (jd2 (jbf (jk3 .lst) rfl B.isinstance PyProof.Rows.boot_isinstance (ja0 (qv 1) (ja0 (jdy (v:=.ty "list") rfl B.list PyProof.Rows.boot_list rfl) jag))))) (jgl (jck q_ne (jbf jdv rfl B.len PySem.boot_len (ja0 (qv 1) jag)) (jbf jdv rfl B.len PySem.boot_len (ja0 (jbh q_ix (qv 0) jah (fun _ _=>rfl)) jag)) (jc5 _))))) (jb8 (jbq jef)) jc2) (jaf (jcv PassesOwn.never rfl (jla rfl B.zip (ja0 (qv 1) (ja0 (jbh q_ix (qv 0) jah (fun _ _=>rfl)) jag))) (jcl (n:=2) rfl (jbg (jbb (i:=2) sc.nd rfl (Or.inl rfl)) (jbg (jbb (i:=3) sc.nd rfl (Or.inl rfl)) jc9))) (jb8 (jdc (PW.pt (jhd (jd3 (jd2 (jbe G_is_pair_of_wholes (hr.mono (by decide)) rfl D_is_pair_of_wholes.m D_is_pair_of_wholes.F.kp D_is_pair_of_wholes.b .nil jbu (ja0 (qv 2) jag)))) (jhd (jck q_ne (jbh q_ix (qv 2) jah (fun _ _=>rfl)) (jbh q_ix (qv 3) jah (fun _ _=>rfl)) (jc5 _)) (jgl (jd3 (jrf q_le q_le jah (jbh q_ix (qv 2) jah (fun _ _=>rfl)) jah)))))) (jb8 (jbq jef)) jc2))) (jaf (jbi (i:=4) sc.nd rfl (Or.inr rfl) (jcw (jgk rfl) rfl B.dict PyProof.Rows.boot_dict (ja0 (qv 1) jag))) (jb8 (jbq (jbf (jtw rfl) rfl B.all PyProof.Rows.boot_all (ja0 (jc6 (CpScope.of (N:=["one","other","halves"]) (src:=[none,none,some 4]) (by rfl)) rfl (jbx (jbh q_ix (qv 0) jah (fun _ _=>rfl))) (fun _ _ _ _=>(jcl (n:=2) rfl (jbg (jbb (i:=0) (jbd (l:=["one","other","halves"]) (by rfl)) rfl (Or.inl rfl)) (jbg (jbb (i:=1) (jbd (l:=["one","other","halves"]) (by rfl)) rfl (Or.inl rfl)) jc9)))) (fun _ _ _ _=>jc1) (fun _ _ _ _=>(jd7 q_ge (jbv jcz (jdw hu (qv 2) (qv 0) (fun _ _=>rfl)) (jdw hu (qv 2) (qv 1) (fun _ _=>rfl))) jah (jc5 _)))) jag))))))),?_⟩
 have hkd:=jhr hd
 simp_arith [hkd]
 cases d with
 | lst ds =>
  rw [Rep] at hd
  obtain ⟨l,zs,rfl,el,r⟩:=hd
  have hlv:=r.len
  simp_arith [kdD,isi,jbl,hu1,at0,el,hpa]
  by_cases cl:zs.length = xs.length
  ·rw [decide_eq_true (show (zs.length:Int) = (xs.length:Int) by omega),if_neg (by decide)]
   refine jc0 (Itz true K l pa) H (fun R' hR'=>?_) (jur (K:=K) (a:=l) (c:=pa) (xs:=zs) (ys:=xs) (fun i σ H1=>∃ w1 w2 hs,σ = [some (.ref u),some (.ref l),w1,w2,none]∧Same H H1∧halO ps ds = (halO (ps.drop i) (ds.drop i)).map (hs ++ ·)∧Prs H (zs.take i) hs∧hs.map (·.1) = (ps.take i).map (·.1)) cl ⟨none,none,[],rfl,Same.refl _,by simp,.nil,rfl⟩ (fun i σ H1 _ ⟨_,_,_,_,s1,_⟩=>⟨SqL.of (s1 _ _ el),SqL.of (s1 _ _ hpa)⟩) ?_ ?_)
   ·unfold js6
    simp_arith [jbl,hu1,at0]
    exact ⟨true,l,pa,rfl,⟨zs,by unfold SqB; rw [if_pos rfl]; exact SqL.of el⟩,⟨xs,by unfold SqB; rw [if_pos rfl]; exact SqL.of hpa⟩,hR'⟩
   ·rintro i x y σ H1 t hx hy ⟨w1,w2,hs,rfl,s1,hho,hq,hk⟩ ht
    obtain ⟨dt,hdt,rdt⟩:=r.at hx
    obtain ⟨p,hp,pq⟩:=jbn hxs hy
    rw [jez hdt,jez hp,halO] at hho
    have s2:Same H (upd H1 t (.tup [x,y])):=s1.trans (jai ht _)
    have et2:upd H1 t (.tup [x,y]) t = some (.tup [x,y]):=ja4
    generalize upd H1 t (.tup [x,y]) = H2 at s2 et2
    obtain ⟨b2,rfl,eb2⟩:=pq.same s2
    simp_arith [et2]
    refine ⟨_,prO dt,rfl,⟨dt,Rep.same s2 _ rdt,rfl⟩,?_⟩
    cases hpd:prO dt with
    | none =>
     simp_arith [Option.isSome]
     have hb:=h H2 s2
     rw [jdl (by rw [hho,hpd]; rfl)] at hb
     exact hb
    | some k =>
     have hpk:=jmk hpd
     rw [hpk] at rdt
     have pk:=jmo rdt
     obtain ⟨b1,rfl,eb1⟩:=pk.same s2
     rw [hpd] at hho
     dsimp only at hho
     simp_arith [Option.isSome,jbl,eb1,eb2,at0,at1]
     by_cases c1:k.1 = p.1
     ·by_cases c2:0 ≤ k.2
      ·by_cases c3:k.2 ≤ 2
       ·rw [if_pos ⟨c1,c2,c3⟩] at hho
        simp only [c1,decide_true,Bool.not_true,Bool.false_eq_true,if_false,decide_eq_true c2,decide_eq_true c3]
        have hn:∃ w1 w2 hs',[some (V.ref u),some (.ref l),some (.ref b1),some (.ref b2),none] = [some (V.ref u),some (.ref l),w1,w2,none]∧Same H H2∧halO ps ds = (halO (ps.drop (i + 1)) (ds.drop (i + 1))).map (hs' ++ ·)∧Prs H (zs.take (i + 1)) hs'∧hs'.map (·.1) = (ps.take (i + 1)).map (·.1):=by
         refine ⟨_,_,hs ++ [k],rfl,s2,?_,?_,?_⟩
         ·rw [hho,Option.map_map]
          congr 1
          funext w
          show hs ++ k :: w = (hs ++ [k]) ++ w
          rw [List.append_assoc]
          rfl
         ·rw [jbp hx]
          exact jbt hq pk
         ·rw [jbp hp,List.map_append,List.map_append,hk,List.map_singleton,List.map_singleton,c1]
        first | exact hn | (walk_at "RD"; exact hn)
       ·have hb:=h H2 s2
        rw [jdl (by rw [hho,if_neg (fun z=>c3 z.2.2)]; rfl)] at hb
        simp only [c1,decide_true,Bool.not_true,Bool.false_eq_true,if_false,decide_eq_true c2,decide_eq_false c3]
        first | exact hb | (walk_at "RD"; exact hb)
      ·have hb:=h H2 s2
       rw [jdl (by rw [hho,if_neg (fun z=>c2 z.2.1)]; rfl)] at hb
       simp only [c1,decide_true,Bool.not_true,Bool.false_eq_true,if_false,decide_eq_false c2]
       first | exact hb | (walk_at "RD"; exact hb)
     ·have hb:=h H2 s2
      rw [jdl (by rw [hho,if_neg (fun z=>c1 z.1)]; rfl)] at hb
      simp only [decide_eq_false c1]
      first | exact hb | (walk_at "RD"; exact hb)
   ·rintro σ H1 ⟨w1,w2,hs,rfl,s1,hho,hq,hk⟩
    rw [List.drop_eq_nil_of_le (show ps.length ≤ zs.length by omega),List.drop_eq_nil_of_le (show ds.length ≤ zs.length by omega),halO,Option.map_some,List.append_nil] at hho
    rw [List.take_length] at hq
    rw [List.take_of_length_le (by omega)] at hk
    have nd:(hs.map (·.1)).Nodup:=by rw [hk]; exact wk.p.nodup
    have hzl:=Paired.length hq
    have hpl:=wk.pl
    simp_arith [s1 _ _ el]
    refine ⟨jce hs,jew (Prs.same s1 hq),by omega,je7 nd,fun d hd0=>?_⟩
    have s2:Same H (upd H1 d (.dK (jce hs))):=s1.trans (jai hd0 _)
    have ed:upd H1 d (.dK (jce hs)) d = some (.dK (jce hs)):=ja4
    generalize upd H1 d (.dK (jce hs)) = H2 at s2 ed
    refine jbj (Itl K ta) H2 (fun R hR=>?_) (fun z hz0=>jbs ts.length (fun i σ' Hc=>∃ w1 w2,σ' = [w1,w2,some (.ref d)]∧Same H2 Hc∧Hc z = some (.lst (((ts.take i).map fun t=>decide (hOf hs t.1 + hOf hs t.2 ≥ 2)).map V.bl))) ⟨none,none,rfl,jai hz0 _,ja4⟩ ?_ ?_)
    ·unfold jd5
     simp_arith [jbl,s2 _ _ hu1,at1]
     exact ⟨ta,rfl,⟨_,SqL.of (s2 _ _ hta)⟩,hR⟩
    ·rintro i σ' Hc hi ⟨w1,w2,rfl,s7,ez⟩
     have hyl:=Paired.length hys
     have x1:ys[i]? = some (ys[i]'(by omega)):=List.getElem?_eq_getElem _
     have s8:=s2.trans s7
     refine ⟨⟨_,_,SqL.of (s8 _ _ hta),x1⟩,?_⟩
     rintro y H' ⟨rfl,hy⟩
     have E1:=Option.some.inj (x1.symm.trans (hy _ (SqL.of (s8 _ _ hta))))
     obtain ⟨pr,hpr,px⟩:=jbn hys x1
     rw [E1] at px
     obtain ⟨b,rfl,hb⟩:=px.same s8
     obtain ⟨_,k1,k2⟩:=wk.t.in pr (List.mem_of_getElem? hpr)
     have v1:=jek nd (by rw [hk]; exact jfh k1)
     have v2:=jek nd (by rw [hk]; exact jfh k2)
     simp_arith [hb,s7 _ _ ed,v1,v2]
     refine ⟨_,ez,?_,_,_,rfl,jbk s7 hz0,?_⟩
     ·rw [List.length_map,List.length_map,List.length_take]
      have:=wk.tl
      exact szl' (by omega)
     ·rw [ja4,jbp hpr,List.map_append,List.map_append]
      rfl
    ·rintro σ' Hc ⟨w1,w2,rfl,s7,ez⟩
     have s8:=s2.trans s7
     refine ⟨⟨_,SqL.of (s8 _ _ hta),by have:=Paired.length hys; omega⟩,?_⟩
     rw [List.take_length] at ez
     simp_arith [ez]
     refine ⟨_,rfl,?_⟩
     have hb:=h Hc s8
     rw [jh7 hho] at hb
     have ew:(ts.map fun t=>decide (hOf hs t.1 + hOf hs t.2 ≥ 2)).all id = jfv ts hs:=by rw [List.all_map]; rfl
     rw [ew]
     exact hb
  ·have hb:=h H (Same.refl _)
   rw [jdl (jmw (by omega))] at hb
   rw [decide_eq_false (show ¬ (zs.length:Int) = (xs.length:Int) by omega),if_pos (by decide)]
   exact hb
 | _=>simp_arith [kdD,isi]; exact h H (Same.refl _)
theorem jff {f:Addr} {fd:FuncData}  (B:Blt mg) (D:DefAt K mg "cost_in_halves" (top 30) ["web","halves"] f fd):FnOk P w K mg base CX0 1 f fd ["web","halves"] jou:=by
 have sc:FnScope ["web","halves","prices"] ["web","halves"] (jbc (top 30)):=⟨rfl,rfl,rfl,by decide +kernel,rfl,by decide +kernel,by decide +kernel⟩
 refine D.F.ok sc (fun vs H Q E h=>?_) (fun cdv A outer s H vs Q E hr h=>?_)
 ·obtain ⟨v,ps,ts,l,zs,hs,rfl,_⟩:=h
  rfl
 obtain ⟨v,ps,ts,l,zs,hs,rfl,hw,wk,el,hz,hl,hh,h⟩:=h
 obtain ⟨u,pa,ta,xs,ys,rfl,hu1,hpa,hta,hxs,hys⟩:=hw
 have hxl:=Paired.length hxs
 have hu:=jc8 hr
 have hu0:_ < PySem.cLine:=Nat.lt_of_succ_lt hu
 refine ⟨_,(jaf (jbi (i:=2) sc.nd rfl (Or.inr rfl) (jcw (jgk rfl) rfl B.dict PyProof.Rows.boot_dict (ja0 (jbh q_ix (qv 0) jah (fun _ _=>rfl)) jag))) (jb8 (jbq (jbf (jrg rfl) rfl B.sum PyProof.Rows.boot_sum (ja0 (jc6 (CpScope.of (N:=["place","h","prices"]) (src:=[none,none,some 2]) (by rfl)) rfl (jbx (qv 1)) (fun _ _ _ _=>(jcl (n:=2) rfl (jbg (jbb (i:=0) (jbd (l:=["place","h","prices"]) (by rfl)) rfl (Or.inl rfl)) (jbg (jbb (i:=1) (jbd (l:=["place","h","prices"]) (by rfl)) rfl (Or.inl rfl)) jc9)))) (fun _ _ _ _=>jc1) (fun _ _ _ _=>(jbv jgj (jdw hu (qv 2) (qv 0) (fun _ _=>rfl)) (qv 1)))) jag))))),?_⟩
 simp_arith [jbl,hu1,at0,hpa]
 have hpl:=wk.pl
 refine ⟨jce ps,jew hxs,by omega,je7 wk.p.nodup,fun d hd0=>?_⟩
 have s2:Same H (upd H d (.dK (jce ps))):=jai hd0 _
 have ed:upd H d (.dK (jce ps)) d = some (.dK (jce ps)):=ja4
 generalize upd H d (.dK (jce ps)) = H2 at s2 ed
 have hzl:=Paired.length hz
 refine jbj (Itl K l) H2 (fun R hR=>?_) (fun z hz0=>jbs hs.length (fun i σ' Hc=>∃ w1 w2,σ' = [w1,w2,some (.ref d)]∧Same H2 Hc∧Hc z = some (.lst (((hs.take i).map fun h=>hOf ps h.1 * h.2).map V.int))) ⟨none,none,rfl,jai hz0 _,ja4⟩ ?_ ?_)
 ·unfold jd5
  walk_at "RD"
  exact ⟨l,rfl,⟨_,SqL.of (s2 _ _ el)⟩,hR⟩
 ·rintro i σ' Hc hi ⟨w1,w2,rfl,s7,ez⟩
  have x1:zs[i]? = some (zs[i]'(by omega)):=List.getElem?_eq_getElem _
  have s8:=s2.trans s7
  refine ⟨⟨_,_,SqL.of (s8 _ _ el),x1⟩,?_⟩
  rintro y H' ⟨rfl,hy⟩
  have E1:=Option.some.inj (x1.symm.trans (hy _ (SqL.of (s8 _ _ el))))
  obtain ⟨pr,hpr,px⟩:=jbn hz x1
  rw [E1] at px
  obtain ⟨b,rfl,hb⟩:=px.same s8
  obtain ⟨k1,k2,k3⟩:=hh pr (List.mem_of_getElem? hpr)
  have v1:=jek wk.p.nodup k1
  simp_arith [hb,s7 _ _ ed,v1]
  refine ⟨cmR (by omega) (by omega),_,ez,?_,_,_,rfl,jbk s7 hz0,?_⟩
  ·rw [List.length_map,List.length_map,List.length_take]
   exact szl' (by omega)
  ·rw [ja4,jbp hpr,List.map_append,List.map_append]
   rfl
 ·rintro σ' Hc ⟨w1,w2,rfl,s7,ez⟩
  have s8:=s2.trans s7
  refine ⟨⟨_,SqL.of (s8 _ _ el),by omega⟩,?_⟩
  rw [List.take_length] at ez
  exact ⟨z,_,rfl,ez,h Hc s8⟩
end
end My
namespace My
open PySem L2
section
variable {P:Program} {w:World} {K:PySem.W.Frag} {mg:Str→Option Value} {base:Heap} {c1 c2 c3 c4:Tok} {C_NoWeb f_NoWeb:Addr} {dI:FuncData}
theorem jh6:∀ {ps:List (Int × Int)} {ds:List Dt} {hs:List (Int × Int)},halO ps ds = some hs→ds = hs.map jcj∧hs.map (·.1) = ps.map (·.1)∧∀ h ∈ hs,0 ≤ h.2∧h.2 ≤ 2
 | [],[],hs,h=>by cases h; exact ⟨rfl,rfl,fun _ z=>by cases z⟩
 | [],_ :: _,_,h=>by cases h
 | _ :: _,[],_,h=>by cases h
 | p :: ps,d :: ds,hs,h=>by
  rw [halO] at h
  split at h
  ·rename_i k hk
   split at h
   ·rename_i c
    cases e:halO ps ds with
    | none=>rw [e] at h; cases h
    | some r =>
     rw [e] at h
     cases h
     obtain ⟨i1,i2,i3⟩:=jh6 e
     refine ⟨by rw [List.map_cons,← i1,jmk hk],by rw [List.map_cons,List.map_cons,i2,c.1],fun z hz=>?_⟩
     rcases List.mem_cons.mp hz with e | hz
     ·rw [e]; exact c.2
     ·exact i3 z hz
   ·cases h
  ·cases h
theorem jkn {d:Dt} {p:Int × Int × Int} (hdu:dueO d = some p):d = jdn p∧1 ≤ p.2.2:=by
 unfold dueO at hdu
 split at hdu
 ·rename_i p' e
  split at hdu
  ·rename_i c; cases hdu; exact ⟨jm4 e,c⟩
  ·cases hdu
 ·cases hdu
theorem ji1 {ts:List (Int × Int)}:∀ {ds:List Dt} {q:Int × Int} {qs:List (Int × Int × Int)},jdg ts q ds = some qs→ds = qs.map jdn∧∀ d ∈ qs,(d.1,d.2.1) ∈ ts∧1 ≤ d.2.2
 | [],_,qs,h=>by cases h; exact ⟨rfl,fun _ z=>by cases z⟩
 | d :: ds,q,qs,h=>by
  rw [jdg] at h
  split at h
  ·rename_i k hk
   split at h
   ·rename_i c
    cases e:jdg ts (k.1,k.2.1) ds with
    | none=>rw [e] at h; cases h
    | some r =>
     rw [e] at h
     cases h
     obtain ⟨i1,i3⟩:=ji1 e
     refine ⟨by rw [List.map_cons,← i1,(jkn hk).1],fun z hz=>?_⟩
     rcases List.mem_cons.mp hz with e | hz
     ·rw [e]; exact ⟨c.1,(jkn hk).2⟩
     ·exact i3 z hz
   ·cases h
  ·cases h
theorem jmf {H:Hp}:∀ {hs:List (Int × Int)} {zs:List V},Reps H (hs.map jcj) zs→Prs H zs hs
 | [],zs,h=>by rw [List.map_nil,Reps] at h; subst h; exact .nil
 | k :: r,zs,h=>by
  rw [List.map_cons,Reps] at h
  obtain ⟨v,vs,rfl,h1,h2⟩:=h
  exact .cons (jmo h1) (jmf h2)
theorem jme {H:Hp}:∀ {hs:List (Int × Int × Int)} {zs:List V},Reps H (hs.map jdn) zs→Tps H zs hs
 | [],zs,h=>by rw [List.map_nil,Reps] at h; subst h; exact .nil
 | k :: r,zs,h=>by
  rw [List.map_cons,Reps] at h
  obtain ⟨v,vs,rfl,h1,h2⟩:=h
  exact .cons (ji7 h1) (jme h2)
def pap2 (ps ts:List (Int × Int)) (a b:Dt):Bool:=match a,b with
 | .lst as,.lst bs=>match halO ps as,jdg ts (-1,-1) bs with
  | some hs,some qs=>jfv ts hs && (jhe ps qs && decide ((qs.map (·.2.2)).sum = jhl ps hs))
  | _,_=>false
 | _,_=>false
def jfp (ps ts:List (Int × Int)):Dt→Bool
 | .tup [a,b]=>pap2 ps ts a b
 | _=>false
theorem jhs {ps ts:List (Int × Int)} {a b:Dt}:jfp ps ts (.tup [a,b]) = pap2 ps ts a b:=rfl
theorem jpg {ps ts:List (Int × Int)} {ds:List Dt} (h:¬ ds.length = 2):jfp ps ts (.tup ds) = false:=by
 unfold jfp
 split
 ·rename_i e; cases e; exact absurd rfl h
 ·rfl
theorem pap2_h {ps ts:List (Int × Int)} {a b:Dt} (h:halB ps ts a = false):pap2 ps ts a b = false:=by
 unfold pap2
 split
 ·rename_i as bs
  split
  ·rename_i hs qs e1 e2
   rw [jh7 e1] at h
   rw [h]; rfl
  ·rfl
 ·rfl
theorem pap2_d {ps ts:List (Int × Int)} {a b:Dt} (h:jnx ps ts b = false):pap2 ps ts a b = false:=by
 unfold pap2
 split
 ·rename_i as bs
  split
  ·rename_i hs qs e1 e2
   rw [jfk e2] at h
   rw [h,Bool.false_and,Bool.and_false]
  ·rfl
 ·rfl
theorem jqc {ps ts:List (Int × Int)} {a:Dt} (h:halB ps ts a = true):∃ hs,a = .lst (hs.map jcj)∧halO ps (hs.map jcj) = some hs∧jfv ts hs = true:=by
 cases a with
 | lst as =>
  cases e:halO ps as with
  | none=>rw [jdl e] at h; cases h
  | some hs =>
   rw [jh7 e] at h
   have:=(jh6 e).1
   subst this
   exact ⟨hs,rfl,e,h⟩
 | _=>cases h
theorem jnw {ps ts:List (Int × Int)} {a:Dt} (h:jnx ps ts a = true):∃ qs,a = .lst (qs.map jdn)∧jdg ts (-1,-1) (qs.map jdn) = some qs∧jhe ps qs = true:=by
 cases a with
 | lst as =>
  cases e:jdg ts (-1,-1) as with
  | none=>rw [je9 e] at h; cases h
  | some hs =>
   rw [jfk e] at h
   have:=(ji1 e).1
   subst this
   exact ⟨hs,rfl,e,h⟩
 | _=>cases h
def jsx (d:Dt):Prop:=∀ a b,d = .tup [a,b]→jsy b
def jid:Sp:=fun vs H Q _=>∃ v ps ts y d,vs = [v,y]∧jdh H v ps ts∧WebOk ps ts∧Rep H d y∧jsx d∧∀ H',Same H H'→Q (.bl (jfp ps ts d)) H'
theorem jgq {f:Addr} {fd:FuncData} {f_is_tuple_of:Addr} {d_is_tuple_of:FuncData} {f_halves_stand:Addr} {d_halves_stand:FuncData} {f_dues_stand:Addr} {d_dues_stand:FuncData} {f_cost_in_halves:Addr} {d_cost_in_halves:FuncData} (B:Blt mg) (D:DefAt K mg "paper_stands" (top 31) ["web","thing"] f fd) (D_is_tuple_of:DefAt K mg "is_tuple_of" (top 8) ["thing","many"] f_is_tuple_of d_is_tuple_of) (G_is_tuple_of:FnOk P w K mg base CX0 1 f_is_tuple_of d_is_tuple_of ["thing","many"] jm7) (D_halves_stand:DefAt K mg "halves_stand" (top 26) ["web","thing"] f_halves_stand d_halves_stand) (G_halves_stand:FnOk P w K mg base CX0 3 f_halves_stand d_halves_stand ["web","thing"] jmb) (D_dues_stand:DefAt K mg "dues_stand" (top 29) ["web","thing"] f_dues_stand d_dues_stand) (G_dues_stand:FnOk P w K mg base CX0 4 f_dues_stand d_dues_stand ["web","thing"] jsw) (D_cost_in_halves:DefAt K mg "cost_in_halves" (top 30) ["web","halves"] f_cost_in_halves d_cost_in_halves) (G_cost_in_halves:FnOk P w K mg base CX0 1 f_cost_in_halves d_cost_in_halves ["web","halves"] jou):FnOk P w K mg base CX0 5 f fd ["web","thing"] jid:=by
 have sc:FnScope ["web","thing"] ["web","thing"] (jbc (top 31)):=⟨rfl,rfl,rfl,by decide +kernel,rfl,by decide +kernel,by decide +kernel⟩
 refine D.F.ok sc (fun vs H Q E h=>?_) (fun cdv A outer s H vs Q E hr h=>?_)
 ·obtain ⟨v,ps,ts,y,d,rfl,_⟩:=h
  rfl
 obtain ⟨v,ps,ts,y,d,rfl,hw,wk,hd,hs,h⟩:=h
 have hu:=jc8 hr
 have hu0:_ < PySem.cLine:=Nat.lt_of_succ_lt hu
 refine ⟨_,(jaf (jdc (PW.pt (jhd (jd3 (jd2 (jbe G_is_tuple_of (hr.mono (by decide)) rfl D_is_tuple_of.m D_is_tuple_of.F.kp D_is_tuple_of.b .nil jbu (ja0 (qv 1) (ja0 jah jag))))) (jhd (jd3 (jd2 (jbe G_halves_stand (hr.mono (by decide)) rfl D_halves_stand.m D_halves_stand.F.kp D_halves_stand.b .nil jbu (ja0 (qv 0) (ja0 (jbh q_ix (qv 1) jah (fun _ _=>rfl)) jag))))) (jgl (jd3 (jd2 (jbe G_dues_stand (hr.mono (by decide)) rfl D_dues_stand.m D_dues_stand.F.kp D_dues_stand.b .nil jbu (ja0 (qv 0) (ja0 (jbh q_ix (qv 1) jah (fun _ _=>rfl)) jag))))))))) (jb8 (jbq jef)) jc2) (jb8 (jbq (jd7 q_eq (jbf (jrg rfl) rfl B.sum PyProof.Rows.boot_sum (ja0 (jc6 (CpScope.of (N:=["one","other","amount"]) (src:=[none,none,none]) (by rfl)) rfl (jbx (jbh q_ix (qv 1) jah (fun _ _=>rfl))) (fun _ _ _ _=>(jcl (n:=3) rfl (jbg (jbb (i:=0) (jbd (l:=["one","other","amount"]) (by rfl)) rfl (Or.inl rfl)) (jbg (jbb (i:=1) (jbd (l:=["one","other","amount"]) (by rfl)) rfl (Or.inl rfl)) (jbg (jbb (i:=2) (jbd (l:=["one","other","amount"]) (by rfl)) rfl (Or.inl rfl)) jc9))))) (fun _ _ _ _=>jc1) (fun _ _ _ _=>(qv 2))) jag)) (jbe G_cost_in_halves (hr.mono (by decide)) rfl D_cost_in_halves.m D_cost_in_halves.F.kp D_cost_in_halves.b .nil jbu (ja0 (qv 0) (ja0 (jbh q_ix (qv 1) jah (fun _ _=>rfl)) jag))) (jc5 _))))),?_⟩
 walk_at "RD"
 refine ⟨_,d,2,rfl,hd,?_⟩
 cases d with
 | tup ds =>
  by_cases c2:ds.length = 2
  ·rw [show tupB 2 (.tup ds) = true from decide_eq_true (by omega)]
   match ds,c2 with
   | [a,b],_ =>
   have hsb:=hs a b rfl
   rw [Rep] at hd
   obtain ⟨g,vs,rfl,ea,r⟩:=hd
   rw [Reps] at r
   obtain ⟨v1,r1,rfl,e1,r⟩:=r
   rw [Reps] at r
   obtain ⟨v2,r2,rfl,e2,r⟩:=r
   rw [Reps] at r
   subst r
   simp_arith [jbl,ea,at0,at1]
   refine ⟨_,ps,ts,_,a,rfl,hw,wk,e1,fun H1 s1=>?_⟩
   cases ch:halB ps ts a with
   | false =>
    walk_at "RD"
    have hb:=h H1 s1
    rw [show jfp ps ts (.tup [a,b]) = pap2 ps ts a b from rfl,pap2_h ch] at hb
    exact hb
   | true =>
    simp_arith [jbl,s1 _ _ ea,at1]
    refine ⟨_,ps,ts,_,b,rfl,hw.same s1,wk,Rep.same s1 _ e2,hsb,fun H2 s2=>?_⟩
    have s3:=s1.trans s2
    cases cd:jnx ps ts b with
    | false =>
     walk_at "RD"
     have hb:=h H2 s3
     rw [show jfp ps ts (.tup [a,b]) = pap2 ps ts a b from rfl,pap2_d cd] at hb
     exact hb
    | true =>
     obtain ⟨hs',rfl,ho,hti⟩:=jqc ch
     obtain ⟨qs,rfl,qo,hpa⟩:=jnw cd
     rw [Rep] at e1 e2
     obtain ⟨l1,z1,rfl,el1,r1⟩:=e1
     obtain ⟨l2,z2,rfl,el2,r2⟩:=e2
     have p1:=jmf r1
     have p2:=jme r2
     obtain ⟨_,hk,hrg⟩:=jh6 ho
     have hzl:=Paired.length p2
     have hql:qs.length ≤ 200:=by have:=hsb _ rfl; rw [List.length_map] at this; exact this
     simp_arith [jbl,s3 _ _ ea,at1,at0]
     refine jbj (Itl K l2) H2 (fun R hR=>?_) (fun z hz0=>jbs qs.length (fun i σ' Hc=>∃ w1 w2 w3,σ' = [w1,w2,w3]∧Same H2 Hc∧Hc z = some (.lst (((qs.take i).map (·.2.2)).map V.int))) ⟨none,none,none,rfl,jai hz0 _,ja4⟩ ?_ ?_)
     ·unfold jd5
      simp_arith [jbl,s3 _ _ ea,at1]
      exact ⟨l2,rfl,⟨_,SqL.of (s3 _ _ el2)⟩,hR⟩
     ·rintro i σ' Hc hi ⟨w1,w2,w3,rfl,s7,ez⟩
      have x1:z2[i]? = some (z2[i]'(by omega)):=List.getElem?_eq_getElem _
      have s8:=s3.trans s7
      refine ⟨⟨_,_,SqL.of (s8 _ _ el2),x1⟩,?_⟩
      rintro y H' ⟨rfl,hy⟩
      have E1:=Option.some.inj (x1.symm.trans (hy _ (SqL.of (s8 _ _ el2))))
      obtain ⟨pr,hpr,px⟩:=jbn p2 x1
      rw [E1] at px
      obtain ⟨b,rfl,hb⟩:=Tp.tups px s8.tups
      simp_arith [hb]
      refine ⟨_,ez,?_,_,_,_,rfl,jbk s7 hz0,?_⟩
      ·rw [List.length_map,List.length_map,List.length_take]
       exact szl' (by omega)
      ·rw [ja4,jbp hpr,List.map_append,List.map_append]
       rfl
     ·rintro σ' Hc ⟨w1,w2,w3,rfl,s7,ez⟩
      have s8:=s3.trans s7
      refine ⟨⟨_,SqL.of (s8 _ _ el2),by omega⟩,?_⟩
      rw [List.take_length] at ez
      refine ⟨z,_,rfl,ez,?_⟩
      simp only [s8 _ _ ea,at0]
      have hpl:hs'.length = ps.length:=by
       have:=congrArg List.length hk
       rw [List.length_map,List.length_map] at this
       exact this
      have h40:=wk.pl
      refine ⟨_,ps,ts,l1,z1,hs',rfl,hw.same s8,wk,s8 _ _ el1,Prs.same s8 p1,by omega,fun k hk'=>⟨by rw [← hk]; exact List.mem_map_of_mem hk',hrg k hk'⟩,fun H9 s9=>?_⟩
      have hb:=h H9 (s8.trans s9)
      have e9:jfp ps ts (.tup [.lst (hs'.map jcj),.lst (qs.map jdn)]) = decide ((qs.map (·.2.2)).sum = jhl ps hs'):=by
       rw [jhs]
       unfold pap2
       dsimp only
       rw [ho,qo]
       dsimp only
       rw [hti,hpa,Bool.true_and,Bool.true_and]
      rw [e9] at hb
      exact hb
  ·rw [show tupB 2 (.tup ds) = false from decide_eq_false (by omega)]
   walk_at "RD"
   have hb:=h H (Same.refl _)
   rw [jpg c2] at hb
   exact hb
 | _=>simp_arith [tupB]; exact h H (Same.refl _)
theorem jhg {f:Addr} {fd:FuncData} {f_look_at_web:Addr} {d_look_at_web:FuncData} {f_paper_stands:Addr} {d_paper_stands:FuncData} (B:Blt mg) (D:DefAt K mg "lets_halves" (top 32) ["web","thing"] f fd) (D_look_at_web:DefAt K mg "look_at_web" (top 24) ["thing"] f_look_at_web d_look_at_web) (G_look_at_web:FnOk P w K mg base CX0 5 f_look_at_web d_look_at_web ["thing"] jgf) (D_paper_stands:DefAt K mg "paper_stands" (top 31) ["web","thing"] f_paper_stands d_paper_stands) (G_paper_stands:FnOk P w K mg base CX0 5 f_paper_stands d_paper_stands ["web","thing"] jid):FnOk P w K mg base CX0 6 f fd ["web","thing"] jid:=by
 have sc:FnScope ["web","thing"] ["web","thing"] (jbc (top 32)):=⟨rfl,rfl,rfl,by decide +kernel,rfl,by decide +kernel,by decide +kernel⟩
 refine D.F.ok sc (fun vs H Q E h=>?_) (fun cdv A outer s H vs Q E hr h=>?_)
 ·obtain ⟨v,ps,ts,y,d,rfl,_⟩:=h
  rfl
 obtain ⟨v,ps,ts,y,d,rfl,hw,wk,hd,hs,h⟩:=h
 have hu:=jc8 hr
 have hu0:_ < PySem.cLine:=Nat.lt_of_succ_lt hu
 refine ⟨_,(jaf (jcb (jbe G_look_at_web (hr.mono (by decide)) rfl D_look_at_web.m D_look_at_web.F.kp D_look_at_web.b .nil jbu (ja0 (qv 0) jag))) (jb8 (jbq (jbe G_paper_stands (hr.mono (by decide)) rfl D_paper_stands.m D_paper_stands.F.kp D_paper_stands.b .nil jbu (ja0 (qv 0) (ja0 (qv 1) jag)))))),?_⟩
 walk_at "RD"
 refine ⟨_,ps,ts,rfl,hw,wk,fun H1 s1=>?_⟩
 exact ⟨_,ps,ts,_,d,rfl,hw.same s1,wk,Rep.same s1 _ hd,hs,fun H2 s2=>h H2 (s1.trans s2)⟩
end
end My
namespace L2
open PySem PySem.Spec PyProof.Rows
def jj9 (C:Addr) (o:Option HO) (f:Str):Option V:=match o with
 | some (.ins C' _ fs)=>if C' = C then fs.lookup f else none
 | _=>none
def jfy (C:Addr) (o:Option HO) (m:Str):Bool:=match o with
 | some (.ins C' _ fs)=>decide (C' = C) && (fs.lookup m).isNone
 | _=>false
def fFld (C:Addr) (f:Str) (ta:TE):TE:=fun σ H Q=>ta σ H fun x H1=>match x with
 | .ref a=>match jj9 C (H1 a) f with
  | some v=>Q v H1
  | none=>False
 | _=>False
def jb7 (C:Addr) (f:Str) (ta tv:TE):TS:=fun D σ H=>tv σ H fun y H1=>ta σ H1 fun x H2=>match x with
 | .ref a=>match H2 a with
  | some (.ins C' dx fs)=>C' = C∧fs.length < 1000∧D.nx σ (upd H2 a (.ins C dx (putF f y fs)))
  | _=>False
 | _=>False
def jax (C:Addr) (m:Str) (sp:Sp) (dvs:List V) (E:XK) (ta:TE) (t:TA):TE:=fun σ H Q=>ta σ H fun x H1=>match x with
 | .ref a=>jfy C (H1 a) m = true∧t σ H1 fun vs H2=>sp (.ref a :: (vs ++ dvs)) H2 Q E
 | _=>False
section
variable {X:Cx} {C:Addr}
theorem jsb {o:Option HO} {f:Str} {v:V} (h:jj9 C o f = some v):∃ dx fs,o = some (.ins C dx fs)∧fs.lookup f = some v:=by
 unfold jj9 at h
 split at h
 ·split at h
  ·rename_i c; subst c; exact ⟨_,_,rfl,h⟩
  ·cases h
 ·cases h
theorem jrx {o:Option HO} {m:Str} (h:jfy C o m = true):∃ dx fs,o = some (.ins C dx fs)∧fs.lookup m = none:=by
 unfold jfy at h
 split at h
 ·rw [Bool.and_eq_true] at h
  have c:=of_decide_eq_true h.1
  subst c
  exact ⟨_,_,rfl,Option.isNone_iff_eq_none.mp h.2⟩
 ·cases h
theorem jd6 {e:Expr} {f:Str} {pos:Pos} {ta:TE} (c:Cls X.K C) (n:jf6 X.K C f) (he:PE X e ta) (hb:attributeBase e f X.env (eval e X.env) = eval e X.env):PE X (.Attribute e f pos) (fFld C f ta):=by
 intro pins s σ H Q I h
 refine jv4 hb (thn (he pins s σ H _ I h) fun u s1 ⟨x,H1,I1,rx,q⟩=>?_)
 dsimp only at q
 split at q
 ·rename_i a
  split at q
  ·rename_i v hv
   obtain ⟨dx,fs,ea,l⟩:=jsb hv
   obtain rfl:u = Value.ref a:=rx
   exact jnt I1 ea c n l fun u' s2 I2 ru=>⟨v,H1,I2,ru,q⟩
  ·exact q.elim
 ·exact q.elim
theorem jl9 {o value:Expr} {f:Str} {pos pos':Pos} {ta tv:TE} (c:Cls X.K C) (n:jf6 X.K C f) (ha:PE X o ta) (hv:PE X value tv) (hs:swapsWith value (some (.Attribute o f pos')) pos.line X.env = pure false):PS X (.Assign [.Attribute o f pos'] value pos) (jb7 C f ta tv):=by
 intro pins s σ H D I h
 refine plainObj_wpAny_Assign_Attribute (thn (hv pins s σ H _ I h) fun u s1 ⟨y,H1,I1,ry,q⟩=>thn (ha pins s1 σ H1 _ I1 q) fun ov s2 ⟨x,H2,I2,rx,q2⟩=>?_) hs
 dsimp only at q2
 split at q2
 ·rename_i a
  split at q2
  ·rename_i C' dx fs ea
   obtain ⟨rfl,l,q2⟩:=q2
   obtain rfl:ov = Value.ref a:=rx
   exact jnc I2 ea c n l ry fun s3 I3=>⟨σ,_,I3,q2⟩
  ·exact q2.elim
 ·exact q2.elim
theorem jmt {m:Str} {sp:Sp} {dvs:List V} {E:XK} {ta:TE} {t:TA} {ex:Expr} (h:PE X ex (jtm C m sp dvs E ta t)) (hmono:∀ pins s σ H Q Q',Inv X pins σ H s→(∀ x H1,Q x H1→Q' x H1)→ta σ H Q→ta σ H Q'):PE X ex (jax C m sp dvs E ta t):=by
 intro pins s σ H Q I q
 refine h pins s σ H Q I (hmono pins s σ H _ _ I (fun x H1 q=>?_) q)
 split at q
 ·rename_i a
  obtain ⟨dx,fs,e,l⟩:=jrx q.1
  exact ⟨a,dx,fs,rfl,e,l,q.2⟩
 ·exact q.elim
theorem jiw {i:Nat}:∀ (pins:List (Addr × Obj)) s σ H Q Q',Inv X pins σ H s→(∀ x H1,Q x H1→Q' x H1)→fVar i σ H Q→fVar i σ H Q':=by
 intro pins s σ H Q Q' _ h q
 unfold fVar at q ⊢
 split
 ·rename_i v e
  rw [e] at q
  exact h _ _ q
 ·rename_i hne
  split at q
  ·rename_i v e; exact absurd e (hne v)
  ·exact q
theorem jd9 {CX:CXT} {k:Nat} {f:Addr} {fd:FuncData} {ps:List Str} {sp:Sp} {dvs:List V} {ds:List Value} {E:XK} {m:Str} {pos apos:Pos} {e o:Expr} {es:List Expr} {i:Nat} {t:TA} {pl:Sem Bool}
  (he:PE X o (fVar i)) (c:Cls X.K C) (hm:Meth X.K C m f) (F:FnOk X.prog X.w X.K X.mg X.base CX k f fd ps sp) (hr:Room k X.A) (hb:jf7 X.K fd ps ds) (hd:Vals dvs ds) (hx:jf5 CX X E) (ha:PA X (e :: es) t)
  (hst:starEach (e :: es) X.env = (false,eval e X.env) :: starEach es X.env:=by rfl) (hpl:(backTo pos (starEach es X.env)).any (·.1) = false:=by rfl)
  (ht:eval (.Call (.Attribute o m apos) (e :: es) [] pos) X.env = (do
   let ov ← eval o X.env
   standAt apos.atName
   let (f,first) ← holding [ov] (getMethod ov m pl)
   callWith pos f first (backTo pos (starEach (e :: es) X.env)) (backToKw pos (keywordEach [] X.env))):=by rfl) :
  PE X (.Call (.Attribute o m apos) (e :: es) [] pos) (jax C m sp dvs E (fVar i) t) :=
 jmt (ju2 (pl:=pl) he c hm F hr hb hd hx ha hst hpl ht) jiw
theorem jpc {CX:CXT} {k:Nat} {f:Addr} {fd:FuncData} {ps:List Str} {sp:Sp} {dvs:List V} {ds:List Value} {E:XK} {m:Str} {pos apos:Pos} {o:Expr} {i:Nat} {pl:Sem Bool}
  (he:PE X o (fVar i)) (c:Cls X.K C) (hm:Meth X.K C m f) (F:FnOk X.prog X.w X.K X.mg X.base CX k f fd ps sp) (hr:Room k X.A) (hb:jf7 X.K fd ps ds) (hd:Vals dvs ds) (hx:jf5 CX X E)
  (ht:eval (.Call (.Attribute o m apos) [] [] pos) X.env = (do
   let ov ← eval o X.env
   standAt apos.atName
   let (f,first) ← holding [ov] (getMethod ov m pl)
   callWith pos f first (backTo pos (starEach [] X.env)) (backToKw pos (keywordEach [] X.env))):=by rfl) :
  PE X (.Call (.Attribute o m apos) [] [] pos) (jax C m sp dvs E (fVar i) tNil) :=
 jmt (jrr (pl:=pl) he c hm F hr hb hd hx ht) jiw
end
section
variable {X:Cx}
def jad (td ty:TE):TE:=fun σ H Q=>td σ H fun x H1=>match x with
 | .ref a=>(∃ kvs,H1 a = some (.dK kvs))∧ty σ H1 fun y H2=>match y with
  | .int n=>match H2 a with
   | some (.dK kvs)=>Q ((valV kvs (Sum.inl n:Key)).getD .non) H2
   | _=>False
  | _=>False
 | _=>False
theorem jtv {o e:Expr} {apos cpos:Pos} {td ty:TE} (hu:X.A.units + 1 < cLine) (ho:PE X o td) (he:PE X e ty) (m:M1 X o "get" apos e cpos:=by exact ⟨rfl,rfl,rfl,rfl⟩):PE X (.Call (.Attribute o "get" apos) [e] [] cpos) (jad td ty):=by
 intro pins s σ H Q I h
 refine wpAny_Call_method m.base m.few m.line PySem.F.plainAttrs_dict PySem.F.slot_dict_get PySem.F.type_dict_get (thn (ho pins s σ H _ I h) fun u s1 ⟨x,H1,I1,rx,q1⟩=>?_)
 dsimp only at q1
 split at q1
 ·rename_i a
  obtain ⟨⟨kvs0,e0⟩,q1⟩:=q1
  obtain rfl:u = Value.ref a:=rx
  obtain ⟨t1,t2,_⟩:=jtc I1 (.inl ⟨kvs0,.inl e0⟩)
  refine ⟨t1,t2,?_⟩
  rw [m.trees]
  refine Calls.callWith_builtin rfl (Calls.evalArgs_plain (Calls.spliced_cons (thn (he pins s1 σ H1 _ I1 q1) fun iv s2 ⟨y,H2,I2,ry,q2⟩=>Calls.spliced_nil ?_)))
  dsimp only at q2
  split at q2
  ·rename_i n
   split at q2
   ·rename_i kvs ea
    exact d_get1 hu I2 (DGet.k (k:=Sum.inl n) ea) ry fun w' s3 I3 rw'=>⟨_,H2,I3,rw',q2⟩
   ·exact q2.elim
  ·exact q2.elim
 ·exact q1.elim
def jac (i:Nat):TE:=fun σ H Q=>match σ[i]? with
 | some (some (.int n))=>∀ p,H p = none→Q (.ref p) (upd H p (.dK [(Sum.inl n,.non)]))
 | _=>False
theorem jtl {H:Hp} {p:Addr} {a b:HO}:upd (upd H p a) p b = upd H p b:=by
 funext x
 by_cases c:x = p
 ·rw [c,ja4,ja4]
 ·rw [jba c,jba c,jba c]
theorem jrt {pos:Pos} {k v:Expr} {i:Nat} (hk:PE X k (fVar i)) (hv:PE X v (tC .non)):PE X (.Dict [some k] [v] pos) (jac i):=by
 intro pins s σ H Q I q
 refine ju4 (jrn hk hv jtz) rfl rfl (fun z=>nomatch z) (Nat.le_of_ble_eq_true rfl) pins s σ H Q I ?_
 intro p hp
 unfold jac at q
 split at q
 ·rename_i n e
  show fVar i σ (upd H p (.dK [])) _
  unfold fVar
  rw [e]
  show tC V.non σ _ _
  refine ⟨ja4,[(Sum.inl n,.non)],rfl,Nat.le_of_ble_eq_true rfl,?_⟩
  rw [jtl]
  exact q p hp
 ·exact q.elim
def jb0:V→V→Hp→VK→Prop:=fun o i H Q=>match o,i with
 | .ref p,.int k=>match H p with
  | some (.lst xs)=>0 ≤ k∧match atI xs k with
   | some v=>Q v H
   | none=>False
  | _=>False
 | _,_=>False
theorem jkl:PGet X jb0:=by
 intro pins s σ H o i ov iv Q I ro ri h
 unfold jb0 at h
 split at h
 ·rename_i p k
  split at h
  ·rename_i xs hp
   obtain ⟨k0,h⟩:=h
   split at h
   ·rename_i v hv
    cases ro
    obtain ⟨t,rfl⟩:=ri
    obtain ⟨its,r,pl,hz⟩:=I.list (SqL.of hp)
    obtain ⟨j,h1,h2,h3,h4,h5⟩:=jlu hv
    obtain ⟨w,ew,rw'⟩:=r.get h2
    have hn:=jhw
    have hj:k.toNat = j:=by
     rw [seqIndex_of k0 h5] at h1
     exact Option.some.inj h1
    exact wpAny_getItem_list pl.isList k0 (by omega) (by rw [hj]; simpa using ew) ⟨v,H,I,rw',h⟩
   ·exact h.elim
  ·exact h.elim
 ·exact h.elim
def jb2:TIp:=fun x y H Q=>match x,y with
 | .int i,.int j=>Q (.int (i - j)) H
 | _,_=>False
def jb3:TIp:=fun x y H Q=>match x,y with
 | .int i,.int j=>Q (.int (i + j)) H
 | _,_=>False
theorem juj:PIp X .Sub jb2:=by
 intro pins s σ H x y v u Q I r1 r2 h
 unfold jb2 at h
 split at h
 ·rename_i i j
  obtain ⟨t,rfl⟩:=(show ∃ t,v = Value.int i t from r1)
  obtain ⟨t',rfl⟩:=(show ∃ t,u = Value.int j t from r2)
  exact PyProof.Rows.isub_int ⟨.int (i - j),H,I.tok _,⟨_,rfl⟩,h⟩
 ·exact h.elim
theorem jul:PIp X .Add jb3:=by
 intro pins s σ H x y v u Q I r1 r2 h
 unfold jb3 at h
 split at h
 ·rename_i i j
  obtain ⟨t,rfl⟩:=(show ∃ t,v = Value.int i t from r1)
  obtain ⟨t',rfl⟩:=(show ∃ t,u = Value.int j t from r2)
  exact PyProof.Rows.iadd_int ⟨.int (i + j),H,I.tok _,⟨_,rfl⟩,h⟩
 ·exact h.elim
def fXor:R2:=fun x y H Q=>match x,y with
 | .int i,.int j=>Q (.int (Builtin.bitXor i j)) H
 | _,_=>False
theorem q_xor:OpR X (binaryOp .BitXor) fXor:=by
 intro pins s σ H x y v u Q I r1 r2 h
 unfold fXor at h
 split at h
 ·rename_i i j
  obtain ⟨t,rfl⟩:=(show ∃ t,v = Value.int i t from r1)
  obtain ⟨t',rfl⟩:=(show ∃ t,u = Value.int j t from r2)
  exact PyProof.Rows.xor_int ⟨.int (Builtin.bitXor i j),H,I.tok _,⟨_,rfl⟩,h⟩
 ·exact h.elim
theorem jtj (w:Nat):Builtin.bitXor (w:Int) 1 = ((if w % 2 = 0 then w + 1 else w - 1:Nat):Int):=by
 have h1:(w ||| 1:Nat) = 2 * (w / 2) + 1:=by
  have a:=Nat.or_div_two (a:=w) (b:=1)
  have b:(w ||| 1) % 2 = 1:=by rw [Nat.or_mod_two_eq_one]; right; rfl
  rw [show 1 / 2 = 0 from rfl,Nat.or_zero] at a
  omega
 have h2:(w &&& 1:Nat) = w % 2:=Nat.and_one_is_mod w
 have n1:¬ (0:Int) ≤ -(w:Int) - 1:=by omega
 have e:Builtin.bitXor (w:Int) 1 = ((w ||| 1:Nat):Int) - ((w &&& 1:Nat):Int):=by
  unfold Builtin.bitXor Builtin.bitOr Builtin.bitAnd Builtin.bitNot
  simp only [decide_eq_false n1,show decide ((0:Int) ≤ -(1:Int) - 1) = false from rfl,show decide ((0:Int) ≤ (w:Int)) = true from decide_eq_true (by omega),show decide ((0:Int) ≤ 1) = true from rfl]
  simp only [show (-(-(w:Int) - 1) - 1).toNat = w by omega,show (-(-(1:Int) - 1) - 1).toNat = 1 from rfl,show ((w:Int)).toNat = w from rfl,show ((1:Int)).toNat = 1 from rfl]
  omega
 rw [e,h1,h2]
 split <;> omega
def alt {α:Type}:Bool→List α→List α
 | _,[]=>[]
 | true,x :: xs=>x :: alt false xs
 | false,_ :: xs=>alt true xs
def fAlt (b:Bool) (te:TE):TE:=fun σ H Q=>te σ H fun x H1=>match x with
 | .ref a=>match H1 a with
  | some (.lst xs)=>∀ p,H1 p = none→Q (.ref p) (upd H1 p (.lst (alt b xs)))
  | _=>False
 | _=>False
theorem ji5:∀ (b:Bool) {vs:List V} {us:List Value},Vals vs us→Vals (alt b vs) (alt b us)
 | _,_,_,.nil=>by cases ‹Bool› <;> exact .nil
 | true,_,_,.cons r t=>.cons r (ji5 false t)
 | false,_,_,.cons _ t=>ji5 true t
theorem jly {α:Type}:∀ (b:Bool) (xs:List α),(alt b xs).length ≤ xs.length
 | true,[]=>Nat.le_refl _
 | false,[]=>Nat.le_refl _
 | true,x :: xs=>by have:=jly false xs; show (alt false xs).length + 1 ≤ xs.length + 1; omega
 | false,x :: xs=>by have:=jly true xs; show (alt true xs).length ≤ xs.length + 1; omega
theorem jhc {α:Type}:∀ (b:Bool) (xs:List α) (i:Nat),(alt b xs)[i]? = xs[2 * i + (if b then 0 else 1)]?
 | true,[],i=>by simp [alt]
 | false,[],i=>by simp [alt]
 | true,x :: xs,0=>rfl
 | true,x :: xs,i + 1=>by
  show (alt false xs)[i]? = _
  rw [jhc false xs i,if_pos rfl,if_neg (by decide),show 2 * (i + 1) + 0 = (2 * i + 1) + 1 by omega,List.getElem?_cons_succ]
 | false,x :: xs,i=>by
  show (alt true xs)[i]? = _
  rw [jhc true xs i,if_pos rfl,if_neg (by decide),List.getElem?_cons_succ]
  rfl
theorem jrp (its:List Value) (b:Bool) (hb:b = false→0 < its.length):slicePick its.toArray (some (if b then 0 else 1)) none (some 2) = (alt b its).toArray:=by
 unfold slicePick
 congr 1
 have h1:sliceBounds (some (if b then 0 else 1)) none (some 2) its.toArray.size = (((if b then 0 else 1:Nat):Int),(its.length:Int),2):=by
  cases b
  ·have:=hb rfl
   simp [sliceBounds]
   omega
  ·simp [sliceBounds]
   omega
 rw [h1]
 dsimp only
 have h2:∀ c:Nat,sliceRange ((c:Nat):Int) (its.length:Int) 2 = (List.range ((its.length + 1 - c) / 2)).map fun k=>c + 2 * k:=fun c=>by
  unfold sliceRange
  dsimp only
  rw [if_pos (by decide)]
  have e:(if (c:Int) < (its.length:Int) then ((its.length:Int) - c + 2 - 1) / 2 else 0).toNat = (its.length + 1 - c) / 2:=by
   split <;> omega
  rw [e]
  exact List.map_congr_left fun k _=>by omega
 rw [h2,List.filterMap_map]
 have h3:∀ (l:List Nat),(∀ k ∈ l,(if b then 0 else 1) + 2 * k < its.length)→l.filterMap ((fun x=>its.toArray[x]?) ∘ fun k=>(if b then 0 else 1) + 2 * k) = l.map fun k=>its.getD ((if b then 0 else 1) + 2 * k) .none:=fun l=>by
  induction l with
  | nil=>intro _; rfl
  | cons k r ih =>
   intro hk
   have hk0:=hk k (.head _)
   rw [List.filterMap_cons]
   have e:((fun x=>its.toArray[x]?) ∘ fun k=>(if b then 0 else 1) + 2 * k) k = some (its.getD ((if b then 0 else 1) + 2 * k) .none):=by
    show its.toArray[(if b then 0 else 1) + 2 * k]? = _
    rw [List.getElem?_toArray,List.getD_eq_getElem?_getD,List.getElem?_eq_getElem hk0]
    rfl
   rw [e]
   dsimp only
   rw [List.map_cons,ih fun j hj=>hk j (.tail _ hj)]
 rw [h3 _ fun k hk=>by have:=List.mem_range.mp hk; cases b <;> simp only [if_true,if_false,Bool.false_eq_true] at this ⊢ <;> omega]
 apply List.ext_getElem?
 intro i
 rw [jhc,List.getElem?_map]
 by_cases c:2 * i + (if b then 0 else 1) < its.length
 ·rw [List.getElem?_range (by cases b <;> simp only [if_true,if_false,Bool.false_eq_true] at c ⊢ <;> omega)]
  show some (its.getD _ .none) = _
  rw [List.getD_eq_getElem?_getD,Nat.add_comm,List.getElem?_eq_getElem c]
  rfl
 ·rw [List.getElem?_eq_none (by rw [List.length_range]; cases b <;> simp only [if_true,if_false,Bool.false_eq_true] at c ⊢ <;> omega),List.getElem?_eq_none (by omega)]
  rfl
theorem jpe {b:Bool} {c:Int} (hc:c = if b then 0 else 1) {e:Expr} {te:TE} {k k2:Nat} {z1 z2 p2 pos:Pos} (he:PE X e te):PE X (.Subscript e (.Slice (some (.Constant (.int c) k2 z2)) none (some (.Constant (.int 2) k z1)) p2) pos) (fAlt b te):=by
 intro pins s σ H Q I h
 refine Subscript_ (thn (he pins s σ H _ I h) fun v s1 ⟨x,H1,I1,r1,q1⟩=>?_)
 refine wpAny_Slice ?_
 simp only [evalPart_none]
 rw [evalPart_some]
 refine thn ((jah (i:=c) (j:=k2) (pos:=z2):PE X _ _) pins s1 σ H1 (fun y H2=>y = .int c∧H2 = H1) I1 ⟨rfl,rfl⟩) fun st s2 ⟨y,H2,I2,r2,ey,eh⟩=>?_
 subst ey eh
 obtain ⟨t1,rfl⟩:=r2
 refine wpAny_pure ?_
 rw [evalPart_some]
 refine thn ((jah (i:=2) (j:=k) (pos:=z1):PE X _ _) pins s2 σ H2 (fun y H3=>y = .int 2∧H3 = H2) I2 ⟨rfl,rfl⟩) fun st s3 ⟨y,H3,I3,r3,ey,eh⟩=>?_
 subst ey eh
 obtain ⟨t2,rfl⟩:=r3
 split at q1
 ·rename_i a
  split at q1
  ·rename_i xs ea
   cases r1
   have I4:Inv X pins σ H3 { s3 with heap:=s3.heap.push { cls:=.type "slice",data:=.fields #[.int c t1,.none,.int 2 t2] } }:=I3.kept (t':=s3.toks) fun b ob q=>Heap.get?_push_of_some _ q
   obtain ⟨its,r,ht,hz⟩:=I4.list (SqL.of ea)
   have hlen:=r.length
   show wpAny (model X.prog X.w) X.A (subscriptTail e (.Slice (some (.Constant (.int c) k2 z2)) none (some (.Constant (.int 2) k z1)) p2) (.ref a) (.ref s3.heap.objs.size)) (EP X pins σ Q) X.xe { s3 with heap:=s3.heap.push { cls:=.type "slice",data:=.fields #[.int c t1,.none,.int 2 t2] } }
   refine tail_any (ops:=[.ref a,.ref s3.heap.objs.size]) ht.isList.typeIs slot_list_getitem.lookup ?_ (by with_unfolding_all rfl)
   refine wpAny_getItem_list_slice ht.isList (Heap.IsSliceOf.new ..) (.int _ t1) .none (.int 2 t2) (by decide) ?_ (by rw [List.size_toArray] <;> omega)
   by_cases hb:b = false→0 < its.length
   ·rw [show slicePick its.toArray (some c) none (some 2) = (alt b its).toArray from by rw [hc]; exact jrp _ _ hb]
    refine ⟨.ref _,_,I4.laid (t':=s3.toks) (o:=.lst (alt b xs)) (fun b ob q=>Heap.get?_push_of_some _ q) (Nat.le_refl _) ?_,rfl,q1 _ (I4.hok.fresh (Nat.le_refl _))⟩
    exact ⟨by have:=jly b xs; omega,_,0,ji5 b r,Heap.get?_push_size _ rfl⟩
   ·have hi:its = []:=Classical.byContradiction fun z=>hb fun _=>List.length_pos_iff.mpr z
    have hx:xs = []:=List.length_eq_zero_iff.mp (by rw [hi] at hlen; exact hlen)
    subst hi hx
    have e2:alt b ([]:List V) = []:=by cases b <;> rfl
    rw [e2] at q1
    have e3:slicePick ([]:List Value).toArray (some c) none (some 2) = ([]:List Value).toArray:=by rw [hc]; cases b <;> rfl
    rw [e3]
    refine ⟨.ref _,_,I4.laid (t':=s3.toks) (o:=.lst []) (fun b ob q=>Heap.get?_push_of_some _ q) (Nat.le_refl _) ?_,rfl,q1 _ (I4.hok.fresh (Nat.le_refl _))⟩
    exact ⟨Nat.zero_le _,_,0,.nil,Heap.get?_push_size _ rfl⟩
  ·exact q1.elim
 ·exact q1.elim
def jao (ta:TE):TT:=fun σ H Q=>ta σ H fun x H1=>match x with
 | .ref a=>match H1 a with
  | some (.lst xs)=>Q (!xs.isEmpty) H1
  | _=>False
 | _=>False
theorem jty {a:Expr} {i:Nat} (ha:PE X a (fVar i)) (he:∀ whole,isTrue a X.env whole = (do let v ← whole; standAt a.pos; holding [v] (truthy v)):=by exact fun _=>rfl):PT X a (jao (fVar i)):=by
 intro pins s σ H Q I h
 refine jrm ha he pins s σ H Q I ?_
 show fVar i σ H _
 have h:fVar i σ H _:=h
 refine jiw pins s σ H _ _ I (fun x H1 q=>?_) h
 split at q
 ·rename_i a
  split at q
  ·rename_i xs e
   exact ⟨_,.inl ⟨xs,SqL.of e,rfl⟩,q⟩
  ·exact q.elim
 ·exact q.elim
end
end L2
namespace Fl
structure Tw where
 a:Int
 b:Int
 x:Int
 y:Int
def pick (n m v:Int):Int:=if n = m then v else 0
theorem jdx (n v:Int):pick n n v = v:=by unfold pick; rw [if_pos rfl]
theorem jcc {n m:Int} (h:n ≠ m) (v:Int):pick n m v = 0:=by unfold pick; rw [if_neg h]
theorem jgc (c:Int→Int) (a x:Int):∀ {ns:List Int},ns.Nodup→a ∈ ns→(ns.map fun p=>c p * pick a p x).sum = c a * x
 | [],_,h=>by cases h
 | n :: ns,nd,h=>by
  rw [List.map_cons,List.sum_cons]
  have nd':=List.nodup_cons.mp nd
  by_cases e:a = n
  ·subst e
   have h0:∀ {l:List Int},a ∉ l→(l.map fun p=>c p * pick a p x).sum = 0:=by
    intro l
    induction l with
    | nil=>intro _; rfl
    | cons m l ih =>
     intro hm
     rw [List.map_cons,List.sum_cons,jcc (fun z:a = m=>hm (by rw [z]; exact List.mem_cons_self ..)),Int.mul_zero,ih fun z=>hm (List.mem_cons_of_mem _ z)]
     rfl
   rw [jdx,h0 nd'.1,Int.add_zero]
  ·have hm:a ∈ ns:=(List.mem_cons.mp h).resolve_left e
   rw [jcc e,Int.mul_zero,jgc c a x nd'.2 hm,Int.zero_add]
theorem jcs {α:Type} (f g:α→Int):∀ (l:List α),(l.map fun p=>f p + g p).sum = (l.map f).sum + (l.map g).sum
 | []=>rfl
 | a :: l=>by
  rw [List.map_cons,List.map_cons,List.map_cons,List.sum_cons,List.sum_cons,List.sum_cons,jcs f g l]
  omega
theorem sum_zero {α:Type}:∀ (l:List α),(l.map fun _=>(0:Int)).sum = 0
 | []=>rfl
 | _ :: l=>by rw [List.map_cons,List.sum_cons,sum_zero l]; rfl
theorem sum_congr {α:Type} {f g:α→Int}:∀ {l:List α},(∀ p ∈ l,f p = g p)→(l.map f).sum = (l.map g).sum
 | [],_=>rfl
 | a :: l,h=>by
  rw [List.map_cons,List.map_cons,List.sum_cons,List.sum_cons,h a (List.mem_cons_self ..),sum_congr fun p hp=>h p (List.mem_cons_of_mem _ hp)]
def outL (zs:List Tw) (p:Int):Int:=(zs.map fun z=>pick z.a p z.x + pick z.b p z.y).sum
def inR (zs:List Tw) (p:Int):Int:=(zs.map fun z=>pick z.b p z.x + pick z.a p z.y).sum
theorem jg6 (c:Int→Int) {ns:List Int} (nd:ns.Nodup):∀ {zs:List Tw},(∀ z ∈ zs,z.a ∈ ns∧z.b ∈ ns)→(ns.map fun p=>c p * outL zs p).sum = (zs.map fun z=>c z.a * z.x + c z.b * z.y).sum
 | [],_=>by
  show (ns.map fun p=>c p * 0).sum = 0
  rw [sum_congr (g:=fun _=>0) fun p _=>Int.mul_zero _,sum_zero]
 | z :: zs,h=>by
  have hz:=h z (List.mem_cons_self ..)
  have e:∀ p ∈ ns,c p * outL (z :: zs) p = (c p * pick z.a p z.x + c p * pick z.b p z.y) + c p * outL zs p:=fun p _=>by
   unfold outL
   rw [List.map_cons,List.sum_cons,Int.mul_add,Int.mul_add]
  rw [sum_congr e,jcs,jcs,jgc c _ _ nd hz.1,jgc c _ _ nd hz.2,jg6 c nd fun z hz=>h z (List.mem_cons_of_mem _ hz),List.map_cons,List.sum_cons]
theorem jlz (c:Int→Int) {ns:List Int} (nd:ns.Nodup):∀ {zs:List Tw},(∀ z ∈ zs,z.a ∈ ns∧z.b ∈ ns)→(ns.map fun p=>c p * inR zs p).sum = (zs.map fun z=>c z.b * z.x + c z.a * z.y).sum
 | [],_=>by
  show (ns.map fun p=>c p * 0).sum = 0
  rw [sum_congr (g:=fun _=>0) fun p _=>Int.mul_zero _,sum_zero]
 | z :: zs,h=>by
  have hz:=h z (List.mem_cons_self ..)
  have e:∀ p ∈ ns,c p * inR (z :: zs) p = (c p * pick z.b p z.x + c p * pick z.a p z.y) + c p * inR zs p:=fun p _=>by
   unfold inR
   rw [List.map_cons,List.sum_cons,Int.mul_add,Int.mul_add]
  rw [sum_congr e,jcs,jcs,jgc c _ _ nd hz.2,jgc c _ _ nd hz.1,jlz c nd fun z hz=>h z (List.mem_cons_of_mem _ hz),List.map_cons,List.sum_cons]
structure Full (ns:List Int) (pr:Int→Int) (zs:List Tw) (fs ft:Int→Int) (SL SR:Int→Bool):Prop where
 nd:ns.Nodup
 ends:∀ z ∈ zs,z.a ∈ ns∧z.b ∈ ns
 pos:∀ z ∈ zs,0 ≤ z.x∧0 ≤ z.y
 left:∀ p ∈ ns,fs p = outL zs p
 right:∀ p ∈ ns,ft p = inR zs p
 capL:∀ p ∈ ns,0 ≤ fs p∧fs p ≤ pr p
 capR:∀ p ∈ ns,0 ≤ ft p∧ft p ≤ pr p
 satL:∀ p ∈ ns,SL p = false→fs p = pr p
 satR:∀ p ∈ ns,SR p = true→ft p = pr p
 go:∀ z ∈ zs,(SL z.a = true→SR z.b = true)∧(SL z.b = true→SR z.a = true)
 zero:∀ z ∈ zs,(SR z.b = true→SL z.a = false→z.x = 0)∧(SR z.a = true→SL z.b = false→z.y = 0)
def one (b:Bool):Int:=if b = true then 1 else 0
def halfOf (SL SR:Int→Bool) (p:Int):Int:=(1 - one (SL p)) + one (SR p)
theorem jt6 (b:Bool):0 ≤ one b∧one b ≤ 1:=by cases b <;> decide
section
variable {ns:List Int} {pr:Int→Int} {zs:List Tw} {fs ft:Int→Int} {SL SR:Int→Bool}
theorem half_in (p:Int):0 ≤ halfOf SL SR p∧halfOf SL SR p ≤ 2:=by
 unfold halfOf
 have:=jt6 (SL p)
 have:=jt6 (SR p)
 omega
theorem Full.two (F:Full ns pr zs fs ft SL SR):∀ z ∈ zs,2 ≤ halfOf SL SR z.a + halfOf SL SR z.b:=fun z hz=>by
 obtain ⟨g1,g2⟩:=F.go z hz
 unfold halfOf one
 cases h1:SL z.a <;> cases h2:SL z.b <;> cases h3:SR z.a <;> cases h4:SR z.b <;> simp_all
theorem Full.paid (F:Full ns pr zs fs ft SL SR) {p:Int} (hp:p ∈ ns):(zs.map fun z=>pick z.a p (z.x + z.y) + pick z.b p (z.x + z.y)).sum ≤ 2 * pr p:=by
 have e:(zs.map fun z=>pick z.a p (z.x + z.y) + pick z.b p (z.x + z.y)).sum = outL zs p + inR zs p:=by
  unfold outL inR
  rw [← jcs]
  refine sum_congr fun z _=>?_
  unfold pick
  split <;> split <;> omega
 rw [e,← F.left p hp,← F.right p hp]
 have:=F.capL p hp
 have:=F.capR p hp
 omega
theorem Full.worth (F:Full ns pr zs fs ft SL SR):(zs.map fun z=>z.x + z.y).sum = (ns.map fun p=>pr p * halfOf SL SR p).sum:=by
 have h1:(zs.map fun z=>z.x + z.y).sum = (ns.map fs).sum:=by
  have:=jg6 (fun _=>1) F.nd (zs:=zs) F.ends
  rw [sum_congr (g:=fs) (fun p hp=>by rw [Int.one_mul,F.left p hp])] at this
  rw [this]
  exact sum_congr fun z _=>by rw [Int.one_mul,Int.one_mul]
 have h2:(ns.map fs).sum = (ns.map fun p=>(1 - one (SL p)) * pr p).sum + (ns.map fun p=>one (SL p) * outL zs p).sum:=by
  rw [← jcs]
  refine sum_congr fun p hp=>?_
  cases e:SL p with
  | true=>rw [← F.left p hp]; show fs p = (1 - 1) * pr p + 1 * fs p; omega
  | false=>rw [F.satL p hp e]; show pr p = (1 - 0) * pr p + 0 * outL zs p; omega
 have h3:(ns.map fun p=>one (SL p) * outL zs p).sum = (ns.map fun p=>one (SR p) * inR zs p).sum:=by
  rw [jg6 _ F.nd F.ends,jlz _ F.nd F.ends]
  refine sum_congr fun z hz=>?_
  obtain ⟨g1,g2⟩:=F.go z hz
  obtain ⟨z1,z2⟩:=F.zero z hz
  have e1:one (SL z.a) * z.x = one (SR z.b) * z.x:=by
   cases h1:SL z.a with
   | true=>rw [g1 h1]
   | false =>
    cases h2:SR z.b with
    | false=>rfl
    | true=>rw [z1 h2 h1]; rfl
  have e2:one (SL z.b) * z.y = one (SR z.a) * z.y:=by
   cases h1:SL z.b with
   | true=>rw [g2 h1]
   | false =>
    cases h2:SR z.a with
    | false=>rfl
    | true=>rw [z2 h2 h1]; rfl
  rw [e1,e2]
 have h4:(ns.map fun p=>one (SR p) * inR zs p).sum = (ns.map fun p=>one (SR p) * pr p).sum:=sum_congr fun p hp=>by
  cases e:SR p with
  | true=>rw [← F.right p hp,F.satR p hp e]
  | false=>show 0 * _ = 0 * _; omega
 rw [h1,h2,h3,h4,← jcs]
 refine sum_congr fun p _=>?_
 unfold halfOf
 rw [Int.mul_add,Int.mul_comm (pr p),Int.mul_comm (pr p)]
end
end Fl
namespace Fl
def mate (w:Nat):Nat:=if w % 2 = 0 then w + 1 else w - 1
theorem jkf (w:Nat):mate (mate w) = w:=by unfold mate; split <;> split <;> omega
theorem mate_ne (w:Nat):mate w ≠ w:=by unfold mate; split <;> omega
theorem mate_lt {w m:Nat} (h:w < 2 * m):mate w < 2 * m:=by unfold mate; split <;> omega
def at' (l:List Int) (i:Nat):Int:=l.getD i 0
theorem at_set (l:List Int) (i j:Nat) (v:Int):at' (l.set i v) j = if i = j∧j < l.length then v else at' l j:=by
 unfold at'
 rw [List.getD_eq_getElem?_getD,List.getD_eq_getElem?_getD,List.getElem?_set]
 by_cases h:i = j
 ·by_cases h2:j < l.length
  ·rw [if_pos h,if_pos (by omega),if_pos ⟨h,h2⟩]; rfl
  ·rw [if_pos h,if_neg (by omega),if_neg (fun z=>h2 z.2),List.getElem?_eq_none (by omega)]
 ·rw [if_neg h,if_neg (fun z=>h z.1)]
def bump (r:List Int) (w:Nat) (a:Int):List Int:=(r.set w (at' r w - a)).set (mate w) (at' r (mate w) + a)
theorem jjc (r:List Int) (w:Nat) (a:Int):(bump r w a).length = r.length:=by unfold bump; rw [List.length_set,List.length_set]
theorem jlt {r:List Int} {w m:Nat} {a:Int} (hl:r.length = 2 * m) (hw:w < 2 * m) (j:Nat):at' (bump r w a) j = at' r j - (if j = w then a else 0) + (if j = mate w then a else 0):=by
 unfold bump
 rw [at_set,at_set]
 have hm:=mate_lt hw
 have hn:=mate_ne w
 rw [List.length_set,hl]
 by_cases h1:j = mate w
 ·subst h1
  rw [if_pos ⟨rfl,hm⟩,if_neg hn,if_pos rfl]
  omega
 ·rw [if_neg (fun z=>h1 z.1.symm),if_neg h1]
  by_cases h2:j = w
  ·subst h2
   rw [if_pos ⟨rfl,hw⟩,if_pos rfl]
   omega
  ·rw [if_neg (fun z=>h2 z.1.symm),if_neg h2]
   omega
theorem jdo {g g':Nat→Int}:∀ {m k0:Nat},k0 < m→(∀ k,k ≠ k0→g' k = g k)→((List.range m).map g').sum = ((List.range m).map g).sum + (g' k0 - g k0)
 | 0,_,h,_=>by omega
 | m + 1,k0,h,he=>by
  rw [List.range_succ,List.map_append,List.map_append,List.sum_append,List.sum_append]
  show _ + (g' m + 0) = _ + (g m + 0) + _
  by_cases c:k0 = m
  ·subst c
   have e:((List.range k0).map g').sum = ((List.range k0).map g).sum:=sum_congr fun k hk=>he k (by have:=List.mem_range.mp hk; omega)
   rw [e]
   omega
  ·rw [jdo (m:=m) (k0:=k0) (by omega) he,he m (fun z=>c z.symm)]
   omega
def ex (hs:List Int) (m:Nat) (r:List Int) (v:Int):Int:=((List.range m).map fun k=>pick (at' hs (2 * k)) v (at' r (2 * k + 1)) - pick (at' hs (2 * k + 1)) v (at' r (2 * k + 1))).sum
theorem jmm (n v a b:Int):pick n v (a + b) = pick n v a + pick n v b:=by unfold pick; split <;> omega
theorem jml (n v a b:Int):pick n v (a - b) = pick n v a - pick n v b:=by unfold pick; split <;> omega
theorem jus {hs r:List Int} {m w:Nat} {a:Int} (hl:r.length = 2 * m) (hw:w < 2 * m) (v:Int):ex hs m (bump r w a) v = ex hs m r v + pick (at' hs w) v a - pick (at' hs (mate w)) v a:=by
 unfold ex
 have hk:w / 2 < m:=by omega
 rw [jdo (g:=fun k=>pick (at' hs (2 * k)) v (at' r (2 * k + 1)) - pick (at' hs (2 * k + 1)) v (at' r (2 * k + 1))) hk (fun k hne=>?_)]
 ·rw [jlt hl hw]
  by_cases c:w % 2 = 0
  ·have e1:mate w = w + 1:=by unfold mate; rw [if_pos c]
   have e2:2 * (w / 2) = w:=by omega
   rw [e2,e1,if_neg (by omega),if_pos rfl,Int.sub_zero,jmm,jmm]
   omega
  ·have e1:mate w = w - 1:=by unfold mate; rw [if_neg c]
   have e2:2 * (w / 2) + 1 = w:=by omega
   have e3:2 * (w / 2) = w - 1:=by omega
   rw [e2,e3,e1,if_pos rfl,if_neg (by omega),Int.add_zero,jml,jml]
   omega
 ·rw [jlt hl hw,if_neg (by omega),if_neg (by unfold mate; split <;> omega),Int.sub_zero,Int.add_zero]
def push (r:List Int) (tr:List Nat) (a:Int):List Int:=tr.foldl (fun r w=>bump r w a) r
theorem push_len:∀ (tr:List Nat) (r:List Int) (a:Int),(push r tr a).length = r.length
 | [],_,_=>rfl
 | w :: tr,r,a=>by
  show (push (bump r w a) tr a).length = _
  rw [push_len tr,jjc]
def jsm (hs:List Int):Int→List Nat→Int→Prop
 | t,[],s=>t = s
 | t,w :: tr,s=>at' hs w = t∧jsm hs (at' hs (mate w)) tr s
theorem jqg {hs:List Int} {m:Nat} {a:Int} {s:Int} (v:Int):∀ {tr:List Nat} {r:List Int} {t:Int},r.length = 2 * m→(∀ w ∈ tr,w < 2 * m)→jsm hs t tr s→ex hs m (push r tr a) v = ex hs m r v + pick t v a - pick s v a
 | [],r,t,_,_,h=>by
  have h:t = s:=h
  subst h
  show ex hs m r v = _
  omega
 | w :: tr,r,t,hl,hw,h=>by
  show ex hs m (push (bump r w a) tr a) v = _
  obtain ⟨h1,h2⟩:=h
  rw [jqg v (by rw [jjc]; exact hl) (fun x hx=>hw x (List.mem_cons_of_mem _ hx)) h2,jus hl (hw w (List.mem_cons_self ..)),h1]
  omega
theorem jkc (a:Int) (n:Nat):a * ((n + 1:Nat):Int) = a * (n:Int) + a:=by rw [Int.natCast_add,Int.mul_add]; show _ + a * 1 = _; rw [Int.mul_one]
theorem jik {m:Nat} {a:Int} (j:Nat):∀ {tr:List Nat} {r:List Int},r.length = 2 * m→(∀ w ∈ tr,w < 2 * m)→at' (push r tr a) j = at' r j - a * (tr.count j:Int) + a * (tr.count (mate j):Int)
 | [],r,_,_=>by
  show at' r j = at' r j - a * 0 + a * 0
  omega
 | w :: tr,r,hl,hw=>by
  show at' (push (bump r w a) tr a) j = _
  have hm:(j = mate w) ↔ (w = mate j):=⟨fun z=>by rw [z,jkf],fun z=>by rw [z,jkf]⟩
  rw [jik j (by rw [jjc]; exact hl) (fun x hx=>hw x (List.mem_cons_of_mem _ hx)),jlt hl (hw w (List.mem_cons_self ..)),List.count_cons,List.count_cons]
  by_cases c1:j = w
  ·by_cases c2:j = mate w
   ·exact absurd (c2.symm.trans c1) (mate_ne w)
   ·rw [if_pos c1,if_neg c2,if_pos (by simp [c1]),if_neg (by simp; exact fun z=>c2 (hm.mpr z)),jkc]
    simp only [Nat.add_zero]
    omega
  ·by_cases c2:j = mate w
   ·rw [if_neg c1,if_pos c2,if_neg (by simp; exact fun z=>c1 z.symm),if_pos (by simp; exact hm.mp c2),jkc]
    simp only [Nat.add_zero]
    omega
   ·rw [if_neg c1,if_neg c2,if_neg (by simp; exact fun z=>c1 z.symm),if_neg (by simp; exact fun z=>c2 (hm.mpr z))]
    simp only [Nat.add_zero]
    omega
end Fl
namespace Fl
abbrev Cb:=List (Int × Option Nat)
def seen (cb:Cb) (v:Int):Bool:=decide (v ∈ cb.map (·.1))
def visit (hs r:List Int):Cb→List Nat→Cb
 | cb,[]=>cb
 | cb,w :: ws=>visit hs r (if 0 < at' r w∧seen cb (at' hs w) = false then cb ++ [(at' hs w,some w)] else cb) ws
def sprN (wf:Int→List Nat) (hs r:List Int) (s:Int):Nat→Cb
 | 0=>[(s,none)]
 | k + 1=>match (sprN wf hs r s k)[k]? with
  | some p=>visit hs r (sprN wf hs r s k) (wf p.1)
  | none=>sprN wf hs r s k
structure Cam (hs r:List Int) (m:Nat) (s:Int) (cb:Cb):Prop where
 nd:(cb.map (·.1)).Nodup
 first:cb[0]? = some (s,none)
 came:∀ i v o,cb[i]? = some (v,o)→0 < i→∃ w,o = some w∧w < 2 * m∧0 < at' r w∧at' hs w = v∧∃ j u,j < i∧(cb[j]?.map (·.1)) = some u∧at' hs (mate w) = u
section
variable {hs r:List Int} {m:Nat} {s:Int}
theorem Cam.put {cb:Cb} (h:Cam hs r m s cb) {w:Nat} {j:Nat} {u:Int} (hw:w < 2 * m) (hp:0 < at' r w) (hn:seen cb (at' hs w) = false) (hj:(cb[j]?.map (·.1)) = some u) (hu:at' hs (mate w) = u):Cam hs r m s (cb ++ [(at' hs w,some w)]):=by
 have hlen:0 < cb.length:=by
  have:=h.first
  cases cb with
  | nil=>cases this
  | cons _ _=>simp
 have hjl:j < cb.length:=by
  cases e:cb[j]? with
  | none=>rw [e] at hj; cases hj
  | some p=>exact (List.getElem?_eq_some_iff.mp e).1
 refine ⟨?_,?_,?_⟩
 ·rw [List.map_append,List.nodup_append]
  refine ⟨h.nd,by simp,fun a ha b hb=>?_⟩
  simp at hb
  subst hb
  intro z
  subst z
  unfold seen at hn
  rw [decide_eq_false_iff_not] at hn
  exact hn ha
 ·rw [List.getElem?_append_left hlen]
  exact h.first
 ·intro i v o hi h0
  by_cases c:i < cb.length
  ·rw [List.getElem?_append_left c] at hi
   obtain ⟨w',h1,h2,h3,h4,j',u',h5,h6,h7⟩:=h.came i v o hi h0
   exact ⟨w',h1,h2,h3,h4,j',u',h5,by rw [List.getElem?_append_left (by omega)]; exact h6,h7⟩
  ·rw [List.getElem?_append_right (by omega)] at hi
   have:i - cb.length = 0:=by
    cases e:i - cb.length with
    | zero=>rfl
    | succ n=>rw [e] at hi; simp at hi
   rw [this] at hi
   simp at hi
   obtain ⟨rfl,rfl⟩:=hi
   exact ⟨w,rfl,hw,hp,rfl,j,u,by omega,by rw [List.getElem?_append_left hjl]; exact hj,hu⟩
theorem jg7:∀ {ws:List Nat} {cb:Cb} {j:Nat} {u:Int},Cam hs r m s cb→(cb[j]?.map (·.1)) = some u→(∀ w ∈ ws,w < 2 * m∧at' hs (mate w) = u)→Cam hs r m s (visit hs r cb ws)
 | [],_,_,_,h,_,_=>h
 | w :: ws,cb,j,u,h,hj,hw=>by
  unfold visit
  have h1:=hw w (List.mem_cons_self ..)
  have hjl:j < cb.length:=by
   cases e:cb[j]? with
   | none=>rw [e] at hj; cases hj
   | some p=>exact (List.getElem?_eq_some_iff.mp e).1
  split
  ·rename_i c
   exact jg7 (j:=j) (u:=u) (h.put h1.1 c.1 c.2 hj h1.2) (by rw [List.getElem?_append_left hjl]; exact hj) fun x hx=>hw x (List.mem_cons_of_mem _ hx)
  ·exact jg7 h hj fun x hx=>hw x (List.mem_cons_of_mem _ hx)
theorem visit_pre:∀ (ws:List Nat) (cb:Cb),∃ l,visit hs r cb ws = cb ++ l
 | [],cb=>⟨[],(List.append_nil _).symm⟩
 | w :: ws,cb=>by
  unfold visit
  split
  ·obtain ⟨l,e⟩:=visit_pre ws (cb ++ [(at' hs w,some w)])
   exact ⟨(at' hs w,some w) :: l,by rw [e,List.append_assoc]; rfl⟩
  ·exact visit_pre ws cb
theorem jjk:∀ {ws:List Nat} {cb:Cb} {w:Nat},w ∈ ws→0 < at' r w→at' hs w ∈ (visit hs r cb ws).map (·.1)
 | x :: ws,cb,w,h,hp=>by
  unfold visit
  rcases List.mem_cons.mp h with rfl | h
  ·by_cases c:seen cb (at' hs w) = false
   ·rw [if_pos ⟨hp,c⟩]
    obtain ⟨l,e⟩:=visit_pre (hs:=hs) (r:=r) ws (cb ++ [(at' hs w,some w)])
    rw [e]
    simp
   ·rw [if_neg (fun z=>c z.2)]
    obtain ⟨l,e⟩:=visit_pre (hs:=hs) (r:=r) ws cb
    rw [e,List.map_append,List.mem_append]
    left
    unfold seen at c
    simpa using c
  ·exact jjk h hp
end
section
variable {wf:Int→List Nat} {hs r:List Int} {m:Nat} {s:Int}
theorem spr_cam (hwf:∀ u,∀ w ∈ wf u,w < 2 * m∧at' hs (mate w) = u):∀ k,Cam hs r m s (sprN wf hs r s k)
 | 0=>⟨by simp [sprN],rfl,fun i v o h h0=>by
   cases i with
   | zero=>omega
   | succ i=>simp [sprN] at h⟩
 | k + 1=>by
  unfold sprN
  have ih:=spr_cam hwf k
  split
  ·rename_i p e
   exact jg7 ih (j:=k) (u:=p.1) (by rw [e]; rfl) (hwf p.1)
  ·exact ih
theorem spr_pre (k:Nat):∃ l,sprN wf hs r s (k + 1) = sprN wf hs r s k ++ l:=by
 rw [sprN]
 split
 ·exact visit_pre _ _
 ·exact ⟨[],(List.append_nil _).symm⟩
theorem spr_rest {k:Nat} (h:(sprN wf hs r s k).length ≤ k):∀ j,sprN wf hs r s (k + j) = sprN wf hs r s k
 | 0=>rfl
 | j + 1=>by
  have ih:=spr_rest h j
  show sprN wf hs r s (k + j + 1) = _
  rw [sprN,ih,List.getElem?_eq_none (by omega)]
theorem jm6:∀ {k:Nat} {i:Nat} {p:Int × Option Nat} {w:Nat},i < k→(sprN wf hs r s k)[i]? = some p→w ∈ wf p.1→0 < at' r w→at' hs w ∈ (sprN wf hs r s k).map (·.1)
 | k + 1,i,p,w,hi,hp,hw,h0=>by
  obtain ⟨l,e⟩:=spr_pre (wf:=wf) (hs:=hs) (r:=r) (s:=s) k
  by_cases c:i < (sprN wf hs r s k).length
  ·rw [e,List.getElem?_append_left c] at hp
   by_cases c2:i = k
   ·subst c2
    rw [sprN,hp]
    exact jjk hw h0
   ·rw [e,List.map_append,List.mem_append]
    left
    exact jm6 (by omega) hp hw h0
  ·by_cases c3:(sprN wf hs r s k).length ≤ k
   ·have:=spr_rest c3 1
    rw [this,List.getElem?_eq_none (by omega)] at hp
    cases hp
   ·omega
end
end Fl
namespace Fl
def lk (cb:Cb) (v:Int):Option Nat:=(cb.find? fun p=>decide (p.1 = v)).bind (·.2)
theorem jue {cb:Cb} (nd:(cb.map (·.1)).Nodup) {i:Nat} {v:Int} {o:Option Nat} (h:cb[i]? = some (v,o)):lk cb v = o:=by
 unfold lk
 induction cb generalizing i with
 | nil=>cases h
 | cons p cb ih =>
  rw [List.map_cons] at nd
  have nd':=List.nodup_cons.mp nd
  rw [List.find?_cons]
  cases i with
  | zero =>
   simp at h
   subst h
   simp
  | succ i =>
   simp at h
   have hm:v ∈ cb.map (·.1):=List.mem_map.mpr ⟨(v,o),List.mem_of_getElem? h,rfl⟩
   have hne:p.1 ≠ v:=fun z=>nd'.1 (z ▸ hm)
   rw [decide_eq_false hne]
   exact ih nd'.2 h
theorem jud {cb:Cb} {v:Int} (h:v ∉ cb.map (·.1)):lk cb v = none:=by
 unfold lk
 rw [List.find?_eq_none.mpr fun p hp=>by
  rw [decide_eq_true_eq]
  exact fun z=>h (List.mem_map.mpr ⟨p,hp,z⟩)]
 rfl
def trailN (hs:List Int) (cb:Cb):Nat→Int→List Nat
 | 0,_=>[]
 | f + 1,v=>match lk cb v with
  | some w=>w :: trailN hs cb f (at' hs (mate w))
  | none=>[]
def key (cb:Cb) (i:Nat):Option Int:=cb[i]?.map (·.1)
theorem juh {cb:Cb} (nd:(cb.map (·.1)).Nodup) {i j:Nat} {v:Int} (h1:key cb i = some v) (h2:key cb j = some v):i = j:=by
 unfold key at h1 h2
 rw [← List.getElem?_map] at h1 h2
 obtain ⟨a,b⟩:=List.getElem?_eq_some_iff.mp h1
 obtain ⟨c,d⟩:=List.getElem?_eq_some_iff.mp h2
 exact (List.getElem_inj nd).mp (b.trans d.symm)
structure Good (hs r:List Int) (m:Nat) (cb:Cb) (i:Nat) (tr:List Nat):Prop where
 up:∀ w ∈ tr,w < 2 * m∧0 < at' r w∧∃ k j,j < k∧k ≤ i∧key cb k = some (at' hs w)∧key cb j = some (at' hs (mate w))
 nd:tr.Nodup
section
variable {hs r:List Int} {m:Nat} {s:Int} {cb:Cb}
theorem jho (C:Cam hs r m s cb):∀ (i:Nat) (v:Int) (o:Option Nat),cb[i]? = some (v,o)→∀ f,i ≤ f→jsm hs v (trailN hs cb f v) s∧Good hs r m cb i (trailN hs cb f v)∧(0 < i→trailN hs cb f v ≠ []):=by
 intro i
 induction i using Nat.strongRecOn with
 | ind i ih =>
  intro v o h f hf
  by_cases h0:i = 0
  ·subst h0
   have e:=C.first
   rw [h] at e
   have ho:o = none:=congrArg Prod.snd (Option.some.inj e)
   have hv:v = s:=congrArg Prod.fst (Option.some.inj e)
   have hl:=jue C.nd h
   rw [ho] at hl
   have ht:trailN hs cb f v = []:=by
    cases f with
    | zero=>rfl
    | succ f=>unfold trailN; rw [hl]
   rw [ht]
   exact ⟨hv,⟨(fun w hw=>by cases hw),.nil⟩,fun z=>by omega⟩
  ·obtain ⟨w,rfl,h2,h3,h4,j,u,h5,h6,h7⟩:=C.came i v o h (by omega)
   have hl:=jue C.nd h
   obtain ⟨f',rfl⟩:∃ f',f = f' + 1:=⟨f - 1,by omega⟩
   have ht:trailN hs cb (f' + 1) v = w :: trailN hs cb f' u:=by
    rw [trailN,hl]
    dsimp only
    rw [h7]
   obtain ⟨p,hp⟩:∃ p,cb[j]? = some p:=by
    cases e:cb[j]? with
    | none=>rw [e] at h6; cases h6
    | some p=>exact ⟨p,rfl⟩
   have hpu:p.1 = u:=by rw [hp] at h6; exact Option.some.inj h6
   obtain ⟨p1,p2⟩:=p
   dsimp only at hpu
   subst hpu
   obtain ⟨t1,t2,_⟩:=ih j h5 p1 p2 hp f' (by omega)
   rw [ht]
   have kv:key cb i = some v:=by unfold key; rw [h]; rfl
   refine ⟨⟨h4,by rw [h7]; exact t1⟩,⟨fun x hx=>?_,?_⟩,fun _=>by simp⟩
   ·rcases List.mem_cons.mp hx with rfl | hx
    ·exact ⟨h2,h3,i,j,h5,Nat.le_refl _,by rw [h4]; exact kv,by rw [h7]; exact h6⟩
    ·obtain ⟨a,b,k,l,c1,c2,c3,c4⟩:=t2.up x hx
     exact ⟨a,b,k,l,c1,by omega,c3,c4⟩
   ·refine List.nodup_cons.mpr ⟨fun hm=>?_,t2.nd⟩
    obtain ⟨a,b,k,l,c1,c2,c3,c4⟩:=t2.up w hm
    rw [h4] at c3
    have:=juh C.nd kv c3
    omega
structure Rooms (m:Nat) (cap:Nat→Int) (r:List Int):Prop where
 len:r.length = 2 * m
 pos:∀ j,0 ≤ at' r j
 two:∀ k,k < m→at' r (2 * k) + at' r (2 * k + 1) = cap k
theorem jqs {l:List Nat} (nd:l.Nodup) (j:Nat):l.count j = if j ∈ l then 1 else 0:=by
 by_cases h:j ∈ l
 ·rw [if_pos h]
  have h1:=List.nodup_iff_count.mp nd j
  have h2:=List.count_pos_iff.mpr h
  omega
 ·rw [if_neg h]; exact List.count_eq_zero.mpr h
theorem Rooms.push {cap:Nat→Int} (R:Rooms m cap r) {tr:List Nat} (nd:tr.Nodup) (hw:∀ w ∈ tr,w < 2 * m) {a:Int} (ha:0 ≤ a) (hm:∀ w ∈ tr,a ≤ at' r w):Rooms m cap (push r tr a):=by
 refine ⟨by rw [push_len]; exact R.len,fun j=>?_,fun k hk=>?_⟩
 ·rw [jik j R.len hw,jqs nd j]
  have h0:0 ≤ a * (tr.count (mate j):Int):=Int.mul_nonneg ha (Int.natCast_nonneg _)
  by_cases h:j ∈ tr
  ·rw [if_pos h]
   have:=hm j h
   show 0 ≤ at' r j - a * 1 + _
   omega
  ·rw [if_neg h]
   have:=R.pos j
   show 0 ≤ at' r j - a * 0 + _
   omega
 ·rw [jik _ R.len hw,jik _ R.len hw]
  have e1:mate (2 * k) = 2 * k + 1:=by unfold mate; rw [if_pos (by omega)]
  have e2:mate (2 * k + 1) = 2 * k:=by unfold mate; rw [if_neg (by omega)]; omega
  rw [e1,e2]
  have:=R.two k hk
  omega
end
end Fl
namespace Fl
structure Net (wf:Int→List Nat) (hs:List Int) (m n:Nat):Prop where
 len:hs.length = 2 * m
 from':∀ u,∀ w ∈ wf u,w < 2 * m∧at' hs (mate w) = u
 knot:∀ w,w < 2 * m→0 ≤ at' hs w∧at' hs w < n
 all:∀ w,w < 2 * m→w ∈ wf (at' hs (mate w))
def minR (r:List Int):List Nat→Int
 | []=>0
 | [w]=>at' r w
 | w :: x :: tr=>if minR r (x :: tr) < at' r w then minR r (x :: tr) else at' r w
theorem minR_le (r:List Int):∀ {tr:List Nat} {w:Nat},w ∈ tr→minR r tr ≤ at' r w
 | [],_,h=>by cases h
 | [x],w,h=>by rw [List.mem_singleton.mp h]; exact Int.le_refl _
 | y :: x :: tr,w,h=>by
  unfold minR
  rcases List.mem_cons.mp h with rfl | h
  ·split <;> omega
  ·have:=minR_le r h
   split <;> omega
theorem jms (r:List Int):∀ {tr:List Nat},tr ≠ []→(∀ w ∈ tr,0 < at' r w)→0 < minR r tr
 | [],h,_=>absurd rfl h
 | [x],_,h=>h x (List.mem_singleton.mpr rfl)
 | y :: x :: tr,_,h=>by
  unfold minR
  have h1:=h y (List.mem_cons_self ..)
  have h2:=jms r (tr:=x :: tr) (by simp) fun w hw=>h w (List.mem_cons_of_mem _ hw)
  split <;> omega
section
variable (wf:Int→List Nat) (hs:List Int) (n:Nat) (s t:Int)
def cbOf (r:List Int):Cb:=sprN wf hs r s n
def trOf (r:List Int):List Nat:=trailN hs (cbOf wf hs n s r) n t
def stp (r:List Int):Option (List Int):=if trOf wf hs n s t r = [] then none else some (push r (trOf wf hs n s t r) (minR r (trOf wf hs n s t r)))
inductive Runs:List Int→List Int→Prop
 | done (r:List Int):Runs r r
 | step {r r1 r':List Int}:stp wf hs n s t r = some r1→Runs r1 r'→Runs r r'
end
section
variable {wf:Int→List Nat} {hs:List Int} {n:Nat} {s t:Int}
theorem Runs.snoc {r r' r2:List Int} (h:Runs wf hs n s t r r') (e:stp wf hs n s t r' = some r2):Runs wf hs n s t r r2:=by
 induction h with
 | done r=>exact .step e (.done _)
 | step a _ ih=>exact .step a (ih e)
variable {m:Nat} {r:List Int}
theorem keys_in (N:Net wf hs m n) (hs0:0 ≤ s∧s < n) (k:Nat):∀ v:Int,v ∈ (sprN wf hs r s k).map (·.1)→0 ≤ v∧v < (n:Int):=fun v hv=>by
 obtain ⟨p,hp,rfl⟩:=List.mem_map.mp hv
 obtain ⟨i,hi,e⟩:=List.mem_iff_getElem.mp hp
 have C:=spr_cam (r:=r) (s:=s) N.from' k
 have he:(sprN wf hs r s k)[i]? = some p:=by rw [List.getElem?_eq_getElem hi,e]
 cases i with
 | zero =>
  have:=C.first
  rw [he] at this
  cases this
  exact hs0
 | succ i =>
  obtain ⟨w,_,h2,_,h4,_⟩:=C.came (i + 1) p.1 p.2 he (by omega)
  rw [← h4]
  exact N.knot w h2
theorem len_le {l:List Int} (nd:l.Nodup):∀ {n:Nat},(∀ v:Int,v ∈ l→0 ≤ v∧v < (n:Int))→l.length ≤ n:=fun {n} h=>by
 have h1:(l.map Int.toNat).Nodup:=by
  unfold List.Nodup at nd ⊢
  rw [List.pairwise_map]
  exact nd.imp_of_mem fun {a b} ha hb z e=>z (by have:=h a ha; have:=h b hb; omega)
 have h2:∀ x ∈ l.map Int.toNat,x ∈ List.range n:=fun x hx=>by
  obtain ⟨v,hv,rfl⟩:=List.mem_map.mp hx
  have:=h v hv
  exact List.mem_range.mpr (by omega)
 have h3:(l.map Int.toNat).length ≤ (List.range n).length:=by
  have key:∀ (a b:List Nat),a.Nodup→(∀ x ∈ a,x ∈ b)→a.length ≤ b.length:=by
   intro a
   induction a with
   | nil=>intro b _ _; exact Nat.zero_le _
   | cons x a ih =>
    intro b nd hb
    have nd':=List.nodup_cons.mp nd
    have hx:=hb x (List.mem_cons_self ..)
    have h4:=ih (b.erase x) nd'.2 fun y hy=>(List.mem_erase_of_ne (fun z:y = x=>nd'.1 (by rw [← z]; exact hy))).mpr (hb y (List.mem_cons_of_mem _ hy))
    rw [List.length_erase_of_mem hx] at h4
    have:=List.length_pos_of_mem hx
    rw [List.length_cons]
    omega
  exact key _ _ h1 h2
 rw [List.length_map,List.length_range] at h3
 exact h3
theorem cb_len (N:Net wf hs m n) (hs0:0 ≤ s∧s < n) (k:Nat):(sprN wf hs r s k).length ≤ n:=by
 have:=len_le (spr_cam (r:=r) (s:=s) N.from' k).nd (keys_in N hs0 k)
 rw [List.length_map] at this
 exact this
theorem jkr (N:Net wf hs m n) (hs0:0 ≤ s∧s < n) {w:Nat} (hw:w < 2 * m) (h0:0 < at' r w) (hf:at' hs (mate w) ∈ (cbOf wf hs n s r).map (·.1)):at' hs w ∈ (cbOf wf hs n s r).map (·.1):=by
 obtain ⟨p,hp,e⟩:=List.mem_map.mp hf
 obtain ⟨i,hi,e2⟩:=List.mem_iff_getElem.mp hp
 have:=cb_len (r:=r) N hs0 n
 unfold cbOf at hi
 exact jm6 (k:=n) (i:=i) (p:=p) (by omega) (by rw [List.getElem?_eq_getElem hi]; exact congrArg some e2) (by rw [e]; exact N.all w hw) h0
theorem s_in (N:Net wf hs m n):s ∈ (cbOf wf hs n s r).map (·.1):=by
 have:=(spr_cam (r:=r) (s:=s) N.from' n).first
 exact List.mem_map.mpr ⟨_,List.mem_of_getElem? this,rfl⟩
theorem t_out (N:Net wf hs m n) (hst:s ≠ t) (hs0:0 ≤ s∧s < n) (h:stp wf hs n s t r = none):t ∉ (cbOf wf hs n s r).map (·.1):=fun ht=>by
 obtain ⟨p,hp,e⟩:=List.mem_map.mp ht
 obtain ⟨i,hi,e2⟩:=List.mem_iff_getElem.mp hp
 have C:=spr_cam (r:=r) (s:=s) N.from' n
 have he:(sprN wf hs r s n)[i]? = some (t,p.2):=by
  unfold cbOf at hi e2
  rw [List.getElem?_eq_getElem hi,e2,← e]
 have hn:trOf wf hs n s t r = []:=by
  unfold stp at h
  split at h
  ·assumption
  ·cases h
 have hl:=cb_len (r:=r) N hs0 n
 unfold cbOf at hi
 have G:=jho C i t p.2 he n (by omega)
 by_cases h0:i = 0
 ·subst h0
  have:=C.first
  rw [he] at this
  have:=congrArg Prod.fst (Option.some.inj this)
  exact hst this.symm
 ·exact G.2.2 (by omega) hn
end
end Fl
namespace Fl
section
variable {wf:Int→List Nat} {hs:List Int} {m n:Nat} {s t:Int} {r:List Int} {cap:Nat→Int}
theorem tr_in (N:Net wf hs m n) (hst:s ≠ t) (hs0:0 ≤ s∧s < (n:Int)) (h:trOf wf hs n s t r ≠ []):jsm hs t (trOf wf hs n s t r) s∧∃ i,Good hs r m (cbOf wf hs n s r) i (trOf wf hs n s t r):=by
 have C:=spr_cam (r:=r) (s:=s) N.from' n
 by_cases ht:t ∈ (cbOf wf hs n s r).map (·.1)
 ·obtain ⟨p,hp,e⟩:=List.mem_map.mp ht
  obtain ⟨i,hi,e2⟩:=List.mem_iff_getElem.mp hp
  have he:(sprN wf hs r s n)[i]? = some (t,p.2):=by
   unfold cbOf at hi e2
   rw [List.getElem?_eq_getElem hi,e2,← e]
  have hl:=cb_len (r:=r) N hs0 n
  unfold cbOf at hi
  have G:=jho C i t p.2 he n (by omega)
  exact ⟨G.1,i,G.2.1⟩
 ·refine absurd ?_ h
  unfold trOf
  cases n with
  | zero=>rfl
  | succ k=>rw [trailN,jud ht]
theorem step_keeps (N:Net wf hs m n) (hst:s ≠ t) (hs0:0 ≤ s∧s < (n:Int)) (R:Rooms m cap r) {r1:List Int} (h:stp wf hs n s t r = some r1):Rooms m cap r1∧(∀ v,v ≠ s→v ≠ t→ex hs m r1 v = ex hs m r v)∧ex hs m r t + 1 ≤ ex hs m r1 t:=by
 unfold stp at h
 split at h
 ·cases h
 ·rename_i hne
  cases h
  obtain ⟨T,i,G⟩:=tr_in N hst hs0 hne
  have hw:∀ w ∈ trOf wf hs n s t r,w < 2 * m:=fun w hw=>(G.up w hw).1
  have hp:=jms r hne fun w hw=>(G.up w hw).2.1
  have E:=fun v=>jqg (a:=minR r (trOf wf hs n s t r)) v R.len hw T
  refine ⟨R.push G.nd hw (by omega) fun w hw=>minR_le r hw,fun v h1 h2=>?_,?_⟩
  ·rw [E v,jcc (fun z=>h2 z.symm),jcc (fun z=>h1 z.symm)]
   omega
  ·rw [E t,jdx,jcc hst]
   omega
def capSum (cap:Nat→Int) (m:Nat):Int:=((List.range m).map cap).sum
theorem sum_le {α:Type} {f g:α→Int}:∀ {l:List α},(∀ p ∈ l,f p ≤ g p)→(l.map f).sum ≤ (l.map g).sum
 | [],_=>Int.le_refl _
 | a :: l,h=>by
  rw [List.map_cons,List.map_cons,List.sum_cons,List.sum_cons]
  have:=h a (List.mem_cons_self ..)
  have:=sum_le fun p hp=>h p (List.mem_cons_of_mem _ hp)
  omega
theorem ex_le (R:Rooms m cap r) (v:Int):ex hs m r v ≤ capSum cap m:=by
 unfold ex capSum
 refine sum_le fun k hk=>?_
 have h1:=R.pos (2 * k + 1)
 have h2:=R.pos (2 * k)
 have h3:=R.two k (List.mem_range.mp hk)
 unfold pick
 split <;> split <;> omega
theorem runs_keep (N:Net wf hs m n) (hst:s ≠ t) (hs0:0 ≤ s∧s < (n:Int)) {r':List Int} (h:Runs wf hs n s t r r'):Rooms m cap r→Rooms m cap r'∧∀ v,v ≠ s→v ≠ t→ex hs m r' v = ex hs m r v:=by
 induction h with
 | done r=>exact fun R=>⟨R,fun _ _ _=>rfl⟩
 | step e _ ih =>
  intro R
  obtain ⟨R1,E1,_⟩:=step_keeps N hst hs0 R e
  obtain ⟨R2,E2⟩:=ih R1
  exact ⟨R2,fun v h1 h2=>(E2 v h1 h2).trans (E1 v h1 h2)⟩
theorem je3 (N:Net wf hs m n) (hs0:0 ≤ s∧s < (n:Int)) (R:Rooms m cap r) {k:Nat} (hk:k < m) :
  (at' hs (2 * k + 1) ∈ (cbOf wf hs n s r).map (·.1)→at' hs (2 * k) ∉ (cbOf wf hs n s r).map (·.1)→at' r (2 * k + 1) = cap k) ∧
  (at' hs (2 * k) ∈ (cbOf wf hs n s r).map (·.1)→at' hs (2 * k + 1) ∉ (cbOf wf hs n s r).map (·.1)→at' r (2 * k + 1) = 0):=by
 have e1:mate (2 * k) = 2 * k + 1:=by unfold mate; rw [if_pos (by omega)]
 have e2:mate (2 * k + 1) = 2 * k:=by unfold mate; rw [if_neg (by omega)]; omega
 have h1:=R.pos (2 * k + 1)
 have h2:=R.pos (2 * k)
 have h3:=R.two k hk
 refine ⟨fun a b=>?_,fun a b=>?_⟩
 ·have:¬ 0 < at' r (2 * k):=fun z=>b (jkr N hs0 (by omega) z (by rw [e1]; exact a))
  omega
 ·have:¬ 0 < at' r (2 * k + 1):=fun z=>b (jkr N hs0 (by omega) z (by rw [e2]; exact a))
  omega
end
end Fl
namespace Fl
theorem jcr (g:Nat→Int) (a:Nat):∀ b,((List.range (a + b)).map g).sum = ((List.range a).map g).sum + ((List.range b).map fun k=>g (a + k)).sum
 | 0=>by show _ = _ + 0; rw [Int.add_zero]; rfl
 | b + 1=>by
  rw [← Nat.add_assoc,List.range_succ,List.map_append,List.sum_append,jcr g a b,List.range_succ,List.map_append,List.sum_append]
  show _ + (g (a + b) + 0) = _ + (_ + (g (a + b) + 0))
  omega
theorem jdp (g:Nat→Int):∀ b,((List.range (2 * b)).map g).sum = ((List.range b).map fun k=>g (2 * k) + g (2 * k + 1)).sum
 | 0=>rfl
 | b + 1=>by
  rw [show 2 * (b + 1) = 2 * b + 1 + 1 by omega,List.range_succ,List.map_append,List.sum_append,List.range_succ,List.map_append,List.sum_append,jdp g b,List.range_succ,List.map_append,List.sum_append]
  show _ + (g (2 * b) + 0) + (g (2 * b + 1) + 0) = _ + (g (2 * b) + g (2 * b + 1) + 0)
  omega
theorem jeq (g:Nat→Int) {n i:Nat} (hi:i < n) (h:∀ k,k < n→k ≠ i→g k = 0):((List.range n).map g).sum = g i:=by
 have h1:((List.range n).map g).sum = ((List.range n).map fun k=>if k = i then g i else 0).sum:=sum_congr fun k hk=>by
  by_cases c:k = i
  ·rw [if_pos c,c]
  ·rw [if_neg c]; exact h k (List.mem_range.mp hk) c
 have h2:=jdo (g:=fun _=>0) (g':=fun k=>if k = i then g i else 0) hi fun k hk=>if_neg hk
 rw [h1,h2,sum_zero,if_pos rfl]
 omega
structure Dbl (ns:List Int) (ts:List (Int × Int)) (sp:Int→Int) (hs:List Int):Prop where
 nd:ns.Nodup
 spot:∀ (i:Nat) (p:Int),ns[i]? = some p→sp p = 2 + (i:Int)
 ends:∀ t ∈ ts,t.1 ∈ ns∧t.2 ∈ ns
 src:∀ i:Nat,i < ns.length→at' hs (2 * i) = 2 + (i:Int)∧at' hs (2 * i + 1) = 0
 snk:∀ i:Nat,i < ns.length→at' hs (2 * (ns.length + i)) = 1∧at' hs (2 * (ns.length + i) + 1) = 2 + (ns.length:Int) + i
 tie:∀ (j:Nat) (t:Int × Int),ts[j]? = some t→(at' hs (2 * (ns.length + ns.length + 2 * j)) = sp t.2 + ns.length∧at' hs (2 * (ns.length + ns.length + 2 * j) + 1) = sp t.1)∧(at' hs (2 * (ns.length + ns.length + (2 * j + 1))) = sp t.1 + ns.length∧at' hs (2 * (ns.length + ns.length + (2 * j + 1)) + 1) = sp t.2)
section
variable {ns:List Int} {ts:List (Int × Int)} {sp:Int→Int} {hs r:List Int}
def twAt (ns:List Int) (r:List Int) (ts:List (Int × Int)) (j:Nat):Tw:=⟨(ts.getD j (0,0)).1,(ts.getD j (0,0)).2,at' r (2 * (ns.length + ns.length + 2 * j) + 1),at' r (2 * (ns.length + ns.length + (2 * j + 1)) + 1)⟩
def twS (ns:List Int) (r:List Int) (ts:List (Int × Int)):List Tw:=(List.range ts.length).map (twAt ns r ts)
theorem getD_at {l:List (Int × Int)} {j:Nat} (h:j < l.length):l[j]? = some (l.getD j (0,0)):=by
 rw [List.getD_eq_getElem?_getD,List.getElem?_eq_getElem h]; rfl
theorem Dbl.spI (D:Dbl ns ts sp hs) {i:Nat} {p q:Int} (hp:ns[i]? = some p) (hq:q ∈ ns):sp q = 2 + (i:Int) ↔ q = p:=by
 obtain ⟨k,hk,e⟩:=List.mem_iff_getElem.mp hq
 have hk':ns[k]? = some q:=by rw [List.getElem?_eq_getElem hk,e]
 constructor
 ·intro h
  rw [D.spot k q hk'] at h
  have:k = i:=by omega
  subst this
  rw [hp] at hk'
  exact (Option.some.inj hk').symm
 ·rintro rfl
  exact D.spot i q hp
theorem Dbl.spB (D:Dbl ns ts sp hs) {q:Int} (hq:q ∈ ns):2 ≤ sp q∧sp q < 2 + (ns.length:Int):=by
 obtain ⟨k,hk,e⟩:=List.mem_iff_getElem.mp hq
 rw [D.spot k q (by rw [List.getElem?_eq_getElem hk,e])]
 omega
theorem jg2 {a b c d v:Int} (h:a = b ↔ c = d):pick a b v = pick c d v:=by
 unfold pick
 by_cases x:a = b
 ·rw [if_pos x,if_pos (h.mp x)]
 ·rw [if_neg x,if_neg fun z=>x (h.mpr z)]
theorem Dbl.left (D:Dbl ns ts sp hs) {i:Nat} {p:Int} (hp:ns[i]? = some p):ex hs (ns.length + ns.length + 2 * ts.length) r (2 + (i:Int)) = at' r (2 * i + 1) - outL (twS ns r ts) p:=by
 have hi:=(List.getElem?_eq_some_iff.mp hp).1
 unfold ex
 rw [jcr,jcr,jdp]
 have h1:((List.range ns.length).map fun k=>pick (at' hs (2 * k)) (2 + (i:Int)) (at' r (2 * k + 1)) - pick (at' hs (2 * k + 1)) (2 + (i:Int)) (at' r (2 * k + 1))).sum = at' r (2 * i + 1):=by
  rw [jeq _ hi fun k hk hne=>?_]
  ·rw [(D.src i hi).1,(D.src i hi).2,jdx,jcc (by omega)]; omega
  ·rw [(D.src k hk).1,(D.src k hk).2,jcc (by omega),jcc (by omega)]; rfl
 have h2:((List.range ns.length).map fun k=>pick (at' hs (2 * (ns.length + k))) (2 + (i:Int)) (at' r (2 * (ns.length + k) + 1)) - pick (at' hs (2 * (ns.length + k) + 1)) (2 + (i:Int)) (at' r (2 * (ns.length + k) + 1))).sum = 0:=by
  rw [← sum_zero (List.range ns.length)]
  refine sum_congr fun k hk=>?_
  have hk:=List.mem_range.mp hk
  rw [(D.snk k hk).1,(D.snk k hk).2,jcc (by omega),jcc (by omega)]
  rfl
 rw [h1,h2]
 have h3:outL (twS ns r ts) p = ((List.range ts.length).map fun j=>pick (twAt ns r ts j).a p (twAt ns r ts j).x + pick (twAt ns r ts j).b p (twAt ns r ts j).y).sum:=by
  unfold outL twS
  rw [List.map_map]
  rfl
 have h4:∀ (l:List Nat) (f g:Nat→Int),(∀ j ∈ l,f j = - g j)→(l.map f).sum = - (l.map g).sum:=fun l f g h=>by
  induction l with
  | nil=>rfl
  | cons a l ih =>
   rw [List.map_cons,List.map_cons,List.sum_cons,List.sum_cons,h a (List.mem_cons_self ..),ih fun j hj=>h j (List.mem_cons_of_mem _ hj)]
   omega
 rw [h3,h4 _ _ (fun j=>pick (twAt ns r ts j).a p (twAt ns r ts j).x + pick (twAt ns r ts j).b p (twAt ns r ts j).y) fun j hj=>?_]
 ·omega
 ·have hj:=List.mem_range.mp hj
  have hg:=getD_at hj
  have hm:=List.mem_of_getElem? hg
  have he:=D.ends _ hm
  obtain ⟨⟨a1,a2⟩,b1,b2⟩:=D.tie j _ hg
  have l1:=D.spB he.1
  have l2:=D.spB he.2
  have n1:sp (ts.getD j (0,0)).2 + ns.length ≠ 2 + (i:Int):=by omega
  have n2:sp (ts.getD j (0,0)).1 + ns.length ≠ 2 + (i:Int):=by omega
  rw [a1,a2,b1,b2,jcc n1,jcc n2,jg2 (D.spI hp he.1),jg2 (D.spI hp he.2)]
  unfold twAt
  dsimp only
  omega
theorem Dbl.right (D:Dbl ns ts sp hs) {i:Nat} {p:Int} (hp:ns[i]? = some p):ex hs (ns.length + ns.length + 2 * ts.length) r (2 + (ns.length:Int) + i) = inR (twS ns r ts) p - at' r (2 * (ns.length + i) + 1):=by
 have hi:=(List.getElem?_eq_some_iff.mp hp).1
 unfold ex
 rw [jcr,jcr,jdp]
 have h1:((List.range ns.length).map fun k=>pick (at' hs (2 * k)) (2 + (ns.length:Int) + i) (at' r (2 * k + 1)) - pick (at' hs (2 * k + 1)) (2 + (ns.length:Int) + i) (at' r (2 * k + 1))).sum = 0:=by
  rw [← sum_zero (List.range ns.length)]
  refine sum_congr fun k hk=>?_
  have hk:=List.mem_range.mp hk
  rw [(D.src k hk).1,(D.src k hk).2,jcc (by omega),jcc (by omega)]
  rfl
 have h2:((List.range ns.length).map fun k=>pick (at' hs (2 * (ns.length + k))) (2 + (ns.length:Int) + i) (at' r (2 * (ns.length + k) + 1)) - pick (at' hs (2 * (ns.length + k) + 1)) (2 + (ns.length:Int) + i) (at' r (2 * (ns.length + k) + 1))).sum = - at' r (2 * (ns.length + i) + 1):=by
  rw [jeq _ hi fun k hk hne=>?_]
  ·rw [(D.snk i hi).1,(D.snk i hi).2,jdx,jcc (by omega)]; omega
  ·rw [(D.snk k hk).1,(D.snk k hk).2,jcc (by omega),jcc (by omega)]; rfl
 rw [h1,h2]
 have h3:inR (twS ns r ts) p = ((List.range ts.length).map fun j=>pick (twAt ns r ts j).b p (twAt ns r ts j).x + pick (twAt ns r ts j).a p (twAt ns r ts j).y).sum:=by
  unfold inR twS
  rw [List.map_map]
  rfl
 rw [h3,sum_congr (g:=fun j=>pick (twAt ns r ts j).b p (twAt ns r ts j).x + pick (twAt ns r ts j).a p (twAt ns r ts j).y) fun j hj=>?_]
 ·omega
 ·have hj:=List.mem_range.mp hj
  have hg:=getD_at hj
  have hm:=List.mem_of_getElem? hg
  have he:=D.ends _ hm
  obtain ⟨⟨a1,a2⟩,b1,b2⟩:=D.tie j _ hg
  have l1:=D.spB he.1
  have l2:=D.spB he.2
  have i1:sp (ts.getD j (0,0)).1 + ns.length = 2 + (ns.length:Int) + i ↔ (ts.getD j (0,0)).1 = p:=⟨fun z=>(D.spI hp he.1).mp (by omega),fun z=>by have:=(D.spI hp he.1).mpr z; omega⟩
  have i2:sp (ts.getD j (0,0)).2 + ns.length = 2 + (ns.length:Int) + i ↔ (ts.getD j (0,0)).2 = p:=⟨fun z=>(D.spI hp he.2).mp (by omega),fun z=>by have:=(D.spI hp he.2).mpr z; omega⟩
  have n1:sp (ts.getD j (0,0)).1 ≠ 2 + (ns.length:Int) + i:=by omega
  have n2:sp (ts.getD j (0,0)).2 ≠ 2 + (ns.length:Int) + i:=by omega
  rw [a1,a2,b1,b2,jg2 i1,jg2 i2,jcc n1,jcc n2]
  unfold twAt
  dsimp only
  omega
end
end Fl
namespace Fl
section
variable {ns:List Int} {ts:List (Int × Int)} {sp:Int→Int} {hs r:List Int} {wf:Int→List Nat} {pr:Int→Int} {cap:Nat→Int}
def knots (ns:List Int):Nat:=2 + (ns.length + ns.length)
def arcs (ns:List Int) (ts:List (Int × Int)):Nat:=ns.length + ns.length + 2 * ts.length
def fsOf (sp:Int→Int) (r:List Int) (p:Int):Int:=at' r (2 * (sp p - 2).toNat + 1)
def ftOf (ns:List Int) (sp:Int→Int) (r:List Int) (p:Int):Int:=at' r (2 * (ns.length + (sp p - 2).toNat) + 1)
def inS (wf:Int→List Nat) (hs:List Int) (n:Nat) (r:List Int) (v:Int):Bool:=decide (v ∈ (cbOf wf hs n 0 r).map (·.1))
structure Caps (ns:List Int) (ts:List (Int × Int)) (pr:Int→Int) (cap:Nat→Int):Prop where
 src:∀ (i:Nat) (p:Int),ns[i]? = some p→cap i = pr p
 snk:∀ (i:Nat) (p:Int),ns[i]? = some p→cap (ns.length + i) = pr p
 tie:∀ j,j < 2 * ts.length→∀ p ∈ ns,pr p < cap (ns.length + ns.length + j)
theorem le_sum {α:Type} {f:α→Int}:∀ {l:List α},(∀ p ∈ l,0 ≤ f p)→∀ p ∈ l,f p ≤ (l.map f).sum
 | [],_,p,h=>by cases h
 | a :: l,h0,p,h=>by
  rw [List.map_cons,List.sum_cons]
  have ha:=h0 a (List.mem_cons_self ..)
  have hl:0 ≤ (l.map f).sum:=by
   have:=sum_le (f:=fun _=>0) (g:=f) (l:=l) fun q hq=>h0 q (List.mem_cons_of_mem _ hq)
   rw [sum_zero] at this
   exact this
  rcases List.mem_cons.mp h with rfl | h
  ·omega
  ·have:=le_sum (fun q hq=>h0 q (List.mem_cons_of_mem _ hq)) p h
   omega
theorem jin {n m v:Int} (h:0 ≤ v):0 ≤ pick n m v:=by unfold pick; split <;> omega
theorem full_rest (D:Dbl ns ts sp hs) (N:Net wf hs (arcs ns ts) (knots ns)) (C:Caps ns ts pr cap) (R:Rooms (arcs ns ts) cap r) (B:∀ v,v ≠ 0→v ≠ 1→ex hs (arcs ns ts) r v = 0) (hr:stp wf hs (knots ns) 0 1 r = none) :
  Full ns pr (twS ns r ts) (fsOf sp r) (ftOf ns sp r) (fun p=>inS wf hs (knots ns) r (sp p)) (fun p=>inS wf hs (knots ns) r (sp p + ns.length)):=by
 have hs0:(0:Int) ≤ 0∧(0:Int) < (knots ns:Nat):=⟨Int.le_refl _,by unfold knots; omega⟩
 have h0:(0:Int) ∈ (cbOf wf hs (knots ns) 0 r).map (·.1):=s_in N
 have h1:(1:Int) ∉ (cbOf wf hs (knots ns) 0 r).map (·.1):=t_out N (by decide) hs0 hr
 have idx:∀ p ∈ ns,∃ i:Nat,ns[i]? = some p∧i < ns.length∧(sp p - 2).toNat = i∧sp p = 2 + (i:Int):=fun p hp=>by
  obtain ⟨k,hk,e⟩:=List.mem_iff_getElem.mp hp
  have hk':ns[k]? = some p:=by rw [List.getElem?_eq_getElem hk,e]
  have:=D.spot k p hk'
  exact ⟨k,hk',hk,by omega,this⟩
 have tw:∀ z ∈ twS ns r ts,∃ j,j < ts.length∧z = twAt ns r ts j:=fun z hz=>by
  unfold twS at hz
  obtain ⟨j,hj,e⟩:=List.mem_map.mp hz
  exact ⟨j,List.mem_range.mp hj,e.symm⟩
 have ends:∀ z ∈ twS ns r ts,z.a ∈ ns∧z.b ∈ ns:=fun z hz=>by
  obtain ⟨j,hj,rfl⟩:=tw z hz
  exact D.ends _ (List.mem_of_getElem? (getD_at hj))
 have pos:∀ z ∈ twS ns r ts,0 ≤ z.x∧0 ≤ z.y:=fun z hz=>by
  obtain ⟨j,hj,rfl⟩:=tw z hz
  exact ⟨R.pos _,R.pos _⟩
 have left:∀ p ∈ ns,fsOf sp r p = outL (twS ns r ts) p:=fun p hp=>by
  obtain ⟨i,hi,hl,e,es⟩:=idx p hp
  have:=D.left (r:=r) hi
  have hb:=B (2 + (i:Int)) (by omega) (by omega)
  unfold arcs at hb
  rw [hb] at this
  unfold fsOf
  rw [e]
  omega
 have right:∀ p ∈ ns,ftOf ns sp r p = inR (twS ns r ts) p:=fun p hp=>by
  obtain ⟨i,hi,hl,e,es⟩:=idx p hp
  have:=D.right (r:=r) hi
  have hb:=B (2 + (ns.length:Int) + i) (by omega) (by omega)
  unfold arcs at hb
  rw [hb] at this
  unfold ftOf
  rw [e]
  omega
 have capL:∀ p ∈ ns,0 ≤ fsOf sp r p∧fsOf sp r p ≤ pr p:=fun p hp=>by
  obtain ⟨i,hi,hl,e,es⟩:=idx p hp
  have h2:=R.two i (by unfold arcs; omega)
  rw [C.src i p hi] at h2
  have h3:=R.pos (2 * i)
  have h4:=R.pos (2 * i + 1)
  unfold fsOf
  rw [e]
  omega
 have capR:∀ p ∈ ns,0 ≤ ftOf ns sp r p∧ftOf ns sp r p ≤ pr p:=fun p hp=>by
  obtain ⟨i,hi,hl,e,es⟩:=idx p hp
  have h2:=R.two (ns.length + i) (by unfold arcs; omega)
  rw [C.snk i p hi] at h2
  have h3:=R.pos (2 * (ns.length + i))
  have h4:=R.pos (2 * (ns.length + i) + 1)
  unfold ftOf
  rw [e]
  omega
 have xle:∀ z ∈ twS ns r ts,z.x ≤ pr z.a∧z.y ≤ pr z.b:=fun z hz=>by
  obtain ⟨e1,e2⟩:=ends z hz
  have nn:∀ p,∀ z ∈ twS ns r ts,0 ≤ pick z.a p z.x + pick z.b p z.y:=fun p z hz=>by
   have:=jin (n:=z.a) (m:=p) (pos z hz).1
   have:=jin (n:=z.b) (m:=p) (pos z hz).2
   omega
  have a1:=le_sum (nn z.a) z hz
  have a2:=le_sum (nn z.b) z hz
  have b1:outL (twS ns r ts) z.a ≤ pr z.a:=by rw [← left z.a e1]; exact (capL z.a e1).2
  have b2:outL (twS ns r ts) z.b ≤ pr z.b:=by rw [← left z.b e2]; exact (capL z.b e2).2
  unfold outL at b1 b2
  rw [jdx] at a1 a2
  have:=jin (n:=z.b) (m:=z.a) (pos z hz).2
  have:=jin (n:=z.a) (m:=z.b) (pos z hz).1
  omega
 refine ⟨D.nd,ends,pos,left,right,capL,capR,fun p hp hS=>?_,fun p hp hS=>?_,fun z hz=>?_,fun z hz=>?_⟩
 ·obtain ⟨i,hi,hl,e,es⟩:=idx p hp
  have:=(je3 N hs0 R (k:=i) (by unfold arcs; omega)).1
  rw [(D.src i hl).1,(D.src i hl).2,C.src i p hi] at this
  unfold inS at hS
  rw [decide_eq_false_iff_not,es] at hS
  unfold fsOf
  rw [e]
  exact this h0 hS
 ·obtain ⟨i,hi,hl,e,es⟩:=idx p hp
  have:=(je3 N hs0 R (k:=ns.length + i) (by unfold arcs; omega)).1
  rw [(D.snk i hl).1,(D.snk i hl).2,C.snk i p hi] at this
  unfold inS at hS
  rw [decide_eq_true_eq,es] at hS
  unfold ftOf
  rw [e]
  exact this (by rw [show (2:Int) + ns.length + i = 2 + i + ns.length by omega]; exact hS) h1
 ·obtain ⟨x1,x2⟩:=xle z hz
  obtain ⟨e1,e2⟩:=ends z hz
  obtain ⟨j,hj,rfl⟩:=tw z hz
  obtain ⟨⟨a1,a2⟩,b1,b2⟩:=D.tie j _ (getD_at hj)
  have r1:=(je3 N hs0 R (k:=ns.length + ns.length + 2 * j) (by unfold arcs; omega)).1
  have r2:=(je3 N hs0 R (k:=ns.length + ns.length + (2 * j + 1)) (by unfold arcs; omega)).1
  rw [a1,a2] at r1
  rw [b1,b2] at r2
  have c1:=C.tie (2 * j) (by omega) _ e1
  have c2:=C.tie (2 * j + 1) (by omega) _ e2
  unfold inS
  simp only [decide_eq_true_eq]
  unfold twAt at x1 x2 c1 c2 ⊢
  dsimp only at x1 x2 c1 c2 ⊢
  refine ⟨fun h=>Classical.byContradiction fun hn=>?_,fun h=>Classical.byContradiction fun hn=>?_⟩
  ·have:=r1 h hn; omega
  ·have:=r2 h hn; omega
 ·obtain ⟨j,hj,rfl⟩:=tw z hz
  obtain ⟨⟨a1,a2⟩,b1,b2⟩:=D.tie j _ (getD_at hj)
  have r1:=(je3 N hs0 R (k:=ns.length + ns.length + 2 * j) (by unfold arcs; omega)).2
  have r2:=(je3 N hs0 R (k:=ns.length + ns.length + (2 * j + 1)) (by unfold arcs; omega)).2
  rw [a1,a2] at r1
  rw [b1,b2] at r2
  unfold inS
  simp only [decide_eq_true_eq,decide_eq_false_iff_not]
  unfold twAt
  exact ⟨r1,r2⟩
end
end Fl
namespace Fl
abbrev Arc:=Int × Int × Int
def hsA:List Arc→List Int
 | []=>[]
 | a :: r=>a.2.1 :: a.1 :: hsA r
def rmA:List Arc→List Int
 | []=>[]
 | a :: r=>a.2.2 :: 0 :: rmA r
def capA (as:List Arc) (k:Nat):Int:=(as.getD k (0,0,0)).2.2
theorem hsA_len:∀ as:List Arc,(hsA as).length = 2 * as.length
 | []=>rfl
 | a :: r=>by rw [hsA,List.length_cons,List.length_cons,hsA_len r,List.length_cons]; omega
theorem rmA_len:∀ as:List Arc,(rmA as).length = 2 * as.length
 | []=>rfl
 | a :: r=>by rw [rmA,List.length_cons,List.length_cons,rmA_len r,List.length_cons]; omega
theorem jg5 (x y:Int) (l:List Int) (i:Nat):at' (x :: y :: l) (i + 2) = at' l i:=rfl
theorem jds:∀ (as:List Arc) (i:Nat),at' (hsA as) (2 * i) = (as.getD i (0,0,0)).2.1
 | [],i=>by simp [hsA,at']
 | a :: r,0=>rfl
 | a :: r,i + 1=>by rw [show 2 * (i + 1) = 2 * i + 2 by omega,hsA,jg5,jds r i]; rfl
theorem jei:∀ (as:List Arc) (i:Nat),at' (hsA as) (2 * i + 1) = (as.getD i (0,0,0)).1
 | [],i=>by simp [hsA,at']
 | a :: r,0=>rfl
 | a :: r,i + 1=>by rw [show 2 * (i + 1) + 1 = (2 * i + 1) + 2 by omega,hsA,jg5,jei r i]; rfl
theorem jih:∀ (as:List Arc) (i:Nat),at' (rmA as) (2 * i) = capA as i
 | [],i=>by simp [rmA,at',capA]
 | a :: r,0=>rfl
 | a :: r,i + 1=>by rw [show 2 * (i + 1) = 2 * i + 2 by omega,rmA,jg5,jih r i]; rfl
theorem jig:∀ (as:List Arc) (i:Nat),at' (rmA as) (2 * i + 1) = 0
 | [],i=>by simp [rmA,at']
 | a :: r,0=>rfl
 | a :: r,i + 1=>by rw [show 2 * (i + 1) + 1 = (2 * i + 1) + 2 by omega,rmA,jg5,jig r i]
def wfA (as:List Arc) (u:Int):List Nat:=(List.range (2 * as.length)).filter fun w=>decide (at' (hsA as) (mate w) = u)
theorem js3 (k:Nat):mate (2 * k) = 2 * k + 1:=by unfold mate; rw [if_pos (by omega)]
theorem jpv (k:Nat):mate (2 * k + 1) = 2 * k:=by unfold mate; rw [if_neg (by omega)]; omega
theorem je0 {α:Type} {l:List α} {i:Nat} {a d:α} (h:l[i]? = some a):l.getD i d = a:=by
 rw [List.getD_eq_getElem?_getD,h]; rfl
theorem jj6 {α:Type} {l:List α} {i:Nat} (d:α) (h:i < l.length):l.getD i d ∈ l:=by
 rw [List.getD_eq_getElem?_getD,List.getElem?_eq_getElem h]
 exact List.getElem_mem h
theorem net_of {as:List Arc} {n:Nat} (h:∀ a ∈ as,(0 ≤ a.1∧a.1 < (n:Int))∧0 ≤ a.2.1∧a.2.1 < (n:Int)):Net (wfA as) (hsA as) as.length n:=by
 refine ⟨hsA_len as,fun u w hw=>?_,fun w hw=>?_,fun w hw=>?_⟩
 ·have hw:=List.mem_filter.mp hw
  exact ⟨List.mem_range.mp hw.1,of_decide_eq_true hw.2⟩
 ·by_cases c:w % 2 = 0
  ·have e:w = 2 * (w / 2):=by omega
   have hk:w / 2 < as.length:=by omega
   rw [e,jds]
   exact (h _ (jj6 _ hk)).2
  ·have e:w = 2 * (w / 2) + 1:=by omega
   have hk:w / 2 < as.length:=by omega
   rw [e,jei]
   exact (h _ (jj6 _ hk)).1
 ·exact List.mem_filter.mpr ⟨List.mem_range.mpr hw,decide_eq_true rfl⟩
theorem rooms0 {as:List Arc} (h:∀ a ∈ as,0 ≤ a.2.2):Rooms as.length (capA as) (rmA as):=by
 refine ⟨rmA_len as,fun j=>?_,fun k hk=>?_⟩
 ·by_cases c:j % 2 = 0
  ·rw [show j = 2 * (j / 2) by omega,jih]
   unfold capA
   by_cases hk:j / 2 < as.length
   ·exact h _ (jj6 _ hk)
   ·rw [List.getD_eq_getElem?_getD,List.getElem?_eq_none (by omega)]
    exact Int.le_refl _
  ·rw [show j = 2 * (j / 2) + 1 by omega,jig]
   exact Int.le_refl _
 ·rw [jih,jig]; omega
theorem ex0 (as:List Arc) (hs:List Int) (m:Nat) (v:Int):ex hs m (rmA as) v = 0:=by
 unfold ex
 rw [← sum_zero (List.range m)]
 refine sum_congr fun k _=>?_
 rw [jig]
 unfold pick
 split <;> split <;> rfl
theorem hsA_snoc:∀ (as:List Arc) (a:Arc),hsA (as ++ [a]) = hsA as ++ [a.2.1,a.1]
 | [],a=>rfl
 | b :: r,a=>by rw [List.cons_append,hsA,hsA_snoc r a,hsA]; rfl
theorem rmA_snoc:∀ (as:List Arc) (a:Arc),rmA (as ++ [a]) = rmA as ++ [a.2.2,0]
 | [],a=>rfl
 | b :: r,a=>by rw [List.cons_append,rmA,rmA_snoc r a,rmA]; rfl
theorem at_app {l l':List Int} {i:Nat} (h:i < l.length):at' (l ++ l') i = at' l i:=by
 unfold at'
 rw [List.getD_eq_getElem?_getD,List.getD_eq_getElem?_getD,List.getElem?_append_left h]
theorem wfA_snoc (as:List Arc) (a:Arc) (u:Int):wfA (as ++ [a]) u = (wfA as u ++ (if a.1 = u then [2 * as.length] else [])) ++ (if a.2.1 = u then [2 * as.length + 1] else []):=by
 unfold wfA
 rw [List.length_append,List.length_singleton,show 2 * (as.length + 1) = 2 * as.length + 1 + 1 by omega,List.range_succ,List.filter_append,List.range_succ,List.filter_append]
 have e1:at' (hsA (as ++ [a])) (mate (2 * as.length)) = a.1:=by
  rw [js3,jei,List.getD_eq_getElem?_getD,List.getElem?_append_right (Nat.le_refl _),Nat.sub_self]; rfl
 have e2:at' (hsA (as ++ [a])) (mate (2 * as.length + 1)) = a.2.1:=by
  rw [jpv,jds,List.getD_eq_getElem?_getD,List.getElem?_append_right (Nat.le_refl _),Nat.sub_self]; rfl
 congr 1
 ·congr 1
  ·refine List.filter_congr fun w hw=>?_
   rw [hsA_snoc,at_app]
   rw [hsA_len]
   exact mate_lt (List.mem_range.mp hw)
  ·rw [List.filter_cons,e1]
   by_cases c:a.1 = u
   ·rw [if_pos c,if_pos (decide_eq_true c)]; rfl
   ·rw [if_neg c,if_neg (by simp [c])]; rfl
 ·rw [List.filter_cons,e2]
  by_cases c:a.2.1 = u
  ·rw [if_pos c,if_pos (decide_eq_true c)]; rfl
  ·rw [if_neg c,if_neg (by simp [c])]; rfl
def tieArcs (sp:Int→Int) (n pl:Int):List (Int × Int)→List Arc
 | []=>[]
 | t :: r=>(sp t.1,sp t.2 + n,pl) :: (sp t.2,sp t.1 + n,pl) :: tieArcs sp n pl r
def arcsD (sp:Int→Int) (pl:Int) (ps ts:List (Int × Int)):List Arc:=((ps.map fun p=>((0:Int),sp p.1,p.2)) ++ ps.map fun p=>(sp p.1 + ps.length,(1:Int),p.2)) ++ tieArcs sp ps.length pl ts
theorem jgb (sp:Int→Int) (n pl:Int):∀ ts,(tieArcs sp n pl ts).length = 2 * ts.length
 | []=>rfl
 | t :: r=>by rw [tieArcs,List.length_cons,List.length_cons,jgb sp n pl r,List.length_cons]; omega
theorem jf9 (sp:Int→Int) (n pl:Int):∀ (ts:List (Int × Int)) (j:Nat) (t:Int × Int),ts[j]? = some t→(tieArcs sp n pl ts)[2 * j]? = some (sp t.1,sp t.2 + n,pl)∧(tieArcs sp n pl ts)[2 * j + 1]? = some (sp t.2,sp t.1 + n,pl)
 | [],j,t,h=>by simp at h
 | u :: r,0,t,h=>by cases h; exact ⟨rfl,rfl⟩
 | u :: r,j + 1,t,h=>by
  obtain ⟨a,b⟩:=jf9 sp n pl r j t (by simpa using h)
  rw [tieArcs,show 2 * (j + 1) = 2 * j + 1 + 1 by omega,show 2 * j + 1 + 1 + 1 = (2 * j + 1) + 1 + 1 by omega]
  exact ⟨by rw [List.getElem?_cons_succ,List.getElem?_cons_succ]; exact a,by rw [List.getElem?_cons_succ,List.getElem?_cons_succ]; exact b⟩
theorem arcsD_len (sp:Int→Int) (pl:Int) (ps ts:List (Int × Int)):(arcsD sp pl ps ts).length = ps.length + ps.length + 2 * ts.length:=by
 unfold arcsD
 rw [List.length_append,List.length_append,List.length_map,List.length_map,jgb]
section
variable {sp:Int→Int} {pl:Int} {ps ts:List (Int × Int)}
theorem jky {i:Nat} {p:Int × Int} (h:ps[i]? = some p):(arcsD sp pl ps ts)[i]? = some (0,sp p.1,p.2):=by
 have hi:=(List.getElem?_eq_some_iff.mp h).1
 unfold arcsD
 rw [List.getElem?_append_left (by rw [List.length_append,List.length_map,List.length_map]; omega),List.getElem?_append_left (by rw [List.length_map]; exact hi),List.getElem?_map,h]
 rfl
theorem jkz {i:Nat} {p:Int × Int} (h:ps[i]? = some p):(arcsD sp pl ps ts)[ps.length + i]? = some (sp p.1 + ps.length,1,p.2):=by
 have hi:=(List.getElem?_eq_some_iff.mp h).1
 unfold arcsD
 rw [List.getElem?_append_left (by rw [List.length_append,List.length_map,List.length_map]; omega),List.getElem?_append_right (by rw [List.length_map]; omega),List.length_map,Nat.add_sub_cancel_left,List.getElem?_map,h]
 rfl
theorem jf4 {j:Nat} (k:Nat):(arcsD sp pl ps ts)[ps.length + ps.length + k]? = (tieArcs sp ps.length pl ts)[k]?:=by
 unfold arcsD
 rw [List.getElem?_append_right (by rw [List.length_append,List.length_map,List.length_map]; omega)]
 congr 1
 rw [List.length_append,List.length_map,List.length_map]
 omega
theorem dbl_of (nd:(ps.map (·.1)).Nodup) (hsp:∀ (i:Nat) (p:Int),(ps.map (·.1))[i]? = some p→sp p = 2 + (i:Int)) (hen:∀ t ∈ ts,t.1 ∈ ps.map (·.1)∧t.2 ∈ ps.map (·.1)):Dbl (ps.map (·.1)) ts sp (hsA (arcsD sp pl ps ts)):=by
 have get:∀ i,i < ps.length→∃ p,ps[i]? = some p∧sp p.1 = 2 + (i:Int):=fun i hi=>by
  refine ⟨ps[i],List.getElem?_eq_getElem hi,hsp i _ ?_⟩
  rw [List.getElem?_map,List.getElem?_eq_getElem hi]; rfl
 refine ⟨nd,hsp,hen,fun i hi=>?_,fun i hi=>?_,fun j t hj=>?_⟩
 ·rw [List.length_map] at hi
  obtain ⟨p,hp,e⟩:=get i hi
  rw [jds,jei,je0 (jky hp)]
  exact ⟨e,rfl⟩
 ·rw [List.length_map] at hi
  obtain ⟨p,hp,e⟩:=get i hi
  rw [List.length_map,jds,jei,je0 (jkz hp)]
  exact ⟨rfl,by dsimp only; rw [e]; omega⟩
 ·obtain ⟨a,b⟩:=jf9 sp ps.length pl ts j t hj
  rw [List.length_map,jds,jei,jds,jei,je0 ((jf4 (j:=0) (2 * j)).trans a),je0 ((jf4 (j:=0) (2 * j + 1)).trans b)]
  exact ⟨⟨rfl,rfl⟩,rfl,rfl⟩
theorem caps_of {pr:Int→Int} (hpr:∀ p ∈ ps,pr p.1 = p.2) (hpl:∀ p ∈ ps,p.2 < pl):Caps (ps.map (·.1)) ts pr (capA (arcsD sp pl ps ts)):=by
 have get:∀ (i:Nat) (p:Int),(ps.map (·.1))[i]? = some p→∃ q,ps[i]? = some q∧q.1 = p:=fun i p h=>by
  rw [List.getElem?_map] at h
  cases e:ps[i]? with
  | none=>rw [e] at h; cases h
  | some q=>rw [e] at h; exact ⟨q,rfl,Option.some.inj h⟩
 refine ⟨fun i p h=>?_,fun i p h=>?_,fun j hj p hp=>?_⟩
 ·obtain ⟨q,hq,rfl⟩:=get i p h
  unfold capA
  rw [je0 (jky hq),hpr q (List.mem_of_getElem? hq)]
 ·obtain ⟨q,hq,rfl⟩:=get i p h
  unfold capA
  rw [List.length_map,je0 (jkz hq),hpr q (List.mem_of_getElem? hq)]
 ·obtain ⟨q,hq,rfl⟩:=List.mem_map.mp hp
  have hk:j / 2 < ts.length:=by omega
  have hg:ts[j / 2]? = some ts[j / 2]:=List.getElem?_eq_getElem hk
  obtain ⟨a,b⟩:=jf9 sp ps.length pl ts (j / 2) _ hg
  unfold capA
  rw [List.length_map,hpr q hq]
  by_cases c:j % 2 = 0
  ·rw [show j = 2 * (j / 2) by omega,je0 ((jf4 (j:=0) _).trans a)]
   exact hpl q hq
  ·rw [show j = 2 * (j / 2) + 1 by omega,je0 ((jf4 (j:=0) _).trans b)]
   exact hpl q hq
theorem arcsD_ok (hsp:∀ p ∈ ps.map (·.1),2 ≤ sp p∧sp p < 2 + (ps.length:Int)) (hen:∀ t ∈ ts,t.1 ∈ ps.map (·.1)∧t.2 ∈ ps.map (·.1)) (hpp:∀ p ∈ ps,0 ≤ p.2) (hpl:0 ≤ pl):∀ a ∈ arcsD sp pl ps ts,((0 ≤ a.1∧a.1 < ((2 + (ps.length + ps.length):Nat):Int))∧0 ≤ a.2.1∧a.2.1 < ((2 + (ps.length + ps.length):Nat):Int))∧0 ≤ a.2.2:=fun a ha=>by
 unfold arcsD at ha
 have tie:∀ {us:List (Int × Int)},(∀ t ∈ us,t.1 ∈ ps.map (·.1)∧t.2 ∈ ps.map (·.1))→a ∈ tieArcs sp ps.length pl us→((0 ≤ a.1∧a.1 < ((2 + (ps.length + ps.length):Nat):Int))∧0 ≤ a.2.1∧a.2.1 < ((2 + (ps.length + ps.length):Nat):Int))∧0 ≤ a.2.2:=fun {us}=>by
  induction us with
  | nil=>intro _ h; cases h
  | cons u r ih =>
   intro he h
   have h1:=hsp _ (he u (.head _)).1
   have h2:=hsp _ (he u (.head _)).2
   rcases List.mem_cons.mp h with rfl | h
   ·dsimp only; omega
   ·rcases List.mem_cons.mp h with rfl | h
    ·dsimp only; omega
    ·exact ih (fun t ht=>he t (.tail _ ht)) h
 rcases List.mem_append.mp ha with ha | ha
 ·rcases List.mem_append.mp ha with ha | ha
  ·obtain ⟨p,hp,rfl⟩:=List.mem_map.mp ha
   have:=hsp p.1 (List.mem_map_of_mem hp)
   have:=hpp p hp
   dsimp only
   omega
  ·obtain ⟨p,hp,rfl⟩:=List.mem_map.mp ha
   have:=hsp p.1 (List.mem_map_of_mem hp)
   have:=hpp p hp
   dsimp only
   omega
 ·exact tie hen ha
end
end Fl
namespace L2
open PySem PySem.Spec PyProof.Rows
end L2
namespace L2
open PySem PySem.Spec PyProof.Rows
section
variable {prog:Program} {w:World} {A:Around} {R:Result→Shared→Prop} {I:Addr} {fp wr:List Addr} {n:Nat} {P:Nat→Value→Prop} {St:Nat→Heap→Prop}
def jl0 (val:Nat→Int) (n:Nat) (m:Int):Prop:=(∃ i,i < n∧m = val i)∧∀ i,i < n→m ≤ val i
theorem jl0.up {val:Nat→Int} {j:Nat} {m:Int} (h:jl0 val j m) (hb:val j < m):jl0 val (j + 1) (val j) :=
 ⟨⟨j,Nat.lt_succ_self _,rfl⟩,fun i hi=>by
  rcases Nat.lt_succ_iff_lt_or_eq.mp hi with z | z
  ·have:=h.2 i z; omega
  ·rw [z]; exact Int.le_refl _⟩
theorem jl0.keep {val:Nat→Int} {j:Nat} {m:Int} (h:jl0 val j m) (hb:¬ val j < m):jl0 val (j + 1) m :=
 ⟨let ⟨i,hi,e⟩:=h.1; ⟨i,Nat.lt_succ_of_lt hi,e⟩,fun i hi=>by
  rcases Nat.lt_succ_iff_lt_or_eq.mp hi with z | z
  ·exact h.2 i z
  ·rw [z]; omega⟩
theorem jg3:(toString "min" ++ toString ".loop":String) = "min.loop":=by decide
theorem jll (W:Walks prog w A.in1 I fp wr n P St) (val:Nat→Int) (hval:∀ i v,P i v→∃ t:Tok,v = Value.int (val i) t) (kw:List (Str × Value)) (S:Addr) (hSf:S ∉ fp) :
  ∀ (k j:Nat) (s:Shared) (m:Int) (t:Tok) (c:Nat),n - j = k→j ≤ n→St j s.heap→jl0 val j m →
  s.heap.get? S = some { cls:=.type "list",dict:=none,data:=.seq #[.int m t,.int m t] c,slots:=#[] } →
  (∀ m' t' h' tk,jl0 val n m'→(∀ b o,b ∉ wr→b ≠ S→s.heap.get? b = some o→h'.get? b = some o)→R (.ok (.ret (.int m' t'))) { s with heap:=h',toks:=tk }) →
  codeAny (model prog w) A (.builtin "min.loop" ⟨[.ref I,.none,.ref S],kw⟩) R s:=by
 have hSw:S ∉ wr:=fun z=>hSf (W.sub _ z)
 intro k
 induction k with
 | zero =>
  intro j s m t c hk hj hst hb hS hR
  have hin:j = n:=by omega
  subst hin
  refine codeAny_builtin PySem.F.entry_min_loop ?_
  rw [Around.under_plainId PySem.F.plain_min_loop _]
  show wpAny _ A.in1 (seqItems? (.ref S) >>= _) _ _ s
  refine wpAny_bind (wpAny_seqItems hS rfl ?_)
  show wpAny _ A.in1 (tryCatch (pyNext (.ref I)) _ >>= _) _ _ s
  refine wpAny_bind (wpAny_tryCatch (W.done s _ _ hst fun h' tk kp=>?_))
  have hS':=kp S _ hSw hS
  show wpAny _ A.in1 (updateSeq S (fun _=>#[]) >>= _) _ _ _
  refine wpAny_bind ?_
  refine wpAny_updateSeq hS' rfl (wpAny_bind (wpAny_letGo (wpAny_pure ?_)))
  exact hR m t _ tk hb fun b o hbw hbS e=>(Heap.get?_update_other _ _ (Ne.symm hbS)).trans (kp b o hbw e)
 | succ k ih =>
  intro j s m t c hk hj hst hb hS hR
  have hlt:j < n:=by omega
  refine codeAny_builtin PySem.F.entry_min_loop ?_
  rw [Around.under_plainId PySem.F.plain_min_loop _]
  show wpAny _ A.in1 (seqItems? (.ref S) >>= _) _ _ s
  refine wpAny_bind (wpAny_seqItems hS rfl ?_)
  show wpAny _ A.in1 (tryCatch (pyNext (.ref I)) _ >>= _) _ _ s
  refine wpAny_bind (wpAny_tryCatch (W.item j s _ _ hlt hst fun v h' tk hP hst' kp=>?_))
  obtain ⟨t',rfl⟩:=hval j v hP
  have hS':=kp S _ hSw hS
  show wpAny _ A.in1 (tryCatch (holding [.int (val j) t',.int (val j) t'] (richCompare .Lt (.int (val j) t') (.int m t) >>= _)) _ >>= _) _ _ _
  refine wpAny_bind (wpAny_tryCatch (wpAny_holding (wpAny_bind (lt_int ?_))))
  refine wpAny_bind (wpAny_holding (wpAny_truthy_bool ?_))
  refine wpAny_bind (wpAny_letGo (wpAny_pure ?_))
  by_cases hc:val j < m
  ·rw [decide_eq_true (show val j < m from hc)]
   simp only [if_true]
   refine wpAny_bind ?_
   refine wpAny_updateSeq hS' rfl (wpAny_bind (wpAny_letGo ?_))
   rw [jg3]
   refine wpAny_pure ⟨plainId_quiet PySem.F.plain_min_loop _,ih (j + 1) _ (val j) t' _ (by omega) hlt (W.frame _ _ _ hst' fun b hbf o e=>?_) (hb.up hc) (Heap.get?_update_self _ hS' rfl) fun m' u h'' tk'' hB k''=>?_⟩
   ·exact (Heap.get?_update_other _ _ (fun z:S = b=>hSf (by rw [z]; exact hbf))).trans e
   ·exact hR m' u h'' tk'' hB fun b o hbw hbS e=>k'' b o hbw hbS ((Heap.get?_update_other _ _ (Ne.symm hbS)).trans (kp b o hbw e))
  ·rw [decide_eq_false (show ¬ val j < m from hc)]
   simp only [Bool.false_eq_true,if_false]
   refine wpAny_bind (wpAny_letGo ?_)
   rw [jg3]
   refine wpAny_pure ⟨plainId_quiet PySem.F.plain_min_loop _,ih (j + 1) _ m t c (by omega) hlt hst' (hb.keep hc) hS' fun m' u h'' tk'' hB k''=>?_⟩
   exact hR m' u h'' tk'' hB fun b o hbw hbS e=>k'' b o hbw hbS (kp b o hbw e)
end
section
variable {X:Cx}
end
end L2
namespace L2
open PySem PySem.Spec PyProof.Rows
section
variable {X:Cx}
theorem jlv (a:Value):argsOk "min" ⟨[a],[]⟩:=by unfold argsOk; kernel_rfl
def rMinN:List V→Hp→VK→Prop:=fun vs H Q=>∃ (p:Addr) (ns:List Int),vs = [.ref p]∧H p = some (.lst (ns.map V.int))∧ns ≠ [] ∧
 ∀ m,m ∈ ns→(∀ x ∈ ns,m ≤ x)→Q (.int m) H
theorem jf2 (hc:X.calm = true):jda X (.builtin "min") rMinN:=by
 intro pins s σ H xs us Q I r h
 obtain ⟨p,ns,rfl,e,hne,q⟩:=h
 obtain ⟨u,rfl,rx⟩:=jjl r
 cases rx
 obtain ⟨z,its,c,r',hlen,e'⟩:=I.lstM e
 have hI:=jcm r'
 have plt:p < s.heap.objs.size:=Heap.lt_size e'
 have hL:s.heap.IsList p its.toArray:=⟨_,e',rfl,_,rfl⟩
 refine call_function_tree PySem.F.kind_min PySem.F.plain_min PySem.F.entry_min (jlv _) ?_
 show wpAny _ X.A.in1 (Builtin.Builtins.bindParams "min" ["key","default"] 0 ⟨[],[]⟩ >>= _) _ _ s
 refine wpAny_bind (wpAny_of_eq (show Builtin.Builtins.bindParams "min" ["key","default"] 0 ⟨[],[]⟩ = pure [none,none] from rfl) ?_)
 refine wpAny_bind (wpAny_pure ?_)
 refine wpAny_bind (wpAny_pyIter_list hL ?_)
 refine wpAny_bind (wpAny_newList ?_ (Nat.zero_le _))
 rw [jg3]
 have hS:(s.heap.push { cls:=.type "list_iterator",data:=.fields #[.ref p,.int 0 0] }).objs.size = s.heap.objs.size + 1:=size_push' ..
 have W:=Walks.list (prog:=X.prog) (w:=X.w) (A:=X.A.in1) (show X.A.in1.handled = none from I.ok.hd hc) s.heap.objs.size p (Nat.ne_of_lt plt) its.toArray
 have hsz:its.toArray.size = ns.length:=by rw [List.size_toArray,← hlen,List.length_map]
 have hval:∀ (i:Nat) (v:Value),its.toArray[i]? = some v→∃ t:Tok,v = Value.int (ns[i]?.getD 0) t:=fun i v hv=>by
  have hv':its[i]? = some v:=by simpa using hv
  have hi:i < ns.length:=by
   have:=(List.getElem?_eq_some_iff.mp hv').1
   rw [List.length_map] at hlen
   omega
  obtain ⟨u,e1,t,e2⟩:=r'.get (i:=i) (x:=.int ns[i]) (by rw [List.getElem?_map,List.getElem?_eq_getElem hi]; rfl)
  rw [hv'] at e1
  cases e1
  exact ⟨t,by rw [e2,List.getElem?_eq_getElem hi]; rfl⟩
 have kp0:∀ (h':Heap) (tk:Nat),(∀ b o,b ∉ [s.heap.objs.size]→b ≠ (s.heap.push { cls:=.type "list_iterator",data:=.fields #[.ref p,.int 0 0] }).objs.size→((s.heap.push { cls:=.type "list_iterator",data:=.fields #[.ref p,.int 0 0] }).push { cls:=.type "list",data:=.seq #[] }).get? b = some o→h'.get? b = some o) →
   Inv X pins σ H { s with heap:=h',toks:=tk }:=fun h' tk k=>I.kept fun b o qq=>k b o (by
    intro z
    have:b = s.heap.objs.size:=by simpa using z
    exact absurd (Heap.lt_size qq) (by rw [this]; exact Nat.lt_irrefl _)) (by rw [hS]; exact Nat.ne_of_lt (Nat.lt_succ_of_lt (Heap.lt_size qq))) (Heap.get?_push_of_some _ (Heap.get?_push_of_some _ qq))
 have hst0:(fun i (h:Heap)=>h.IsListIter s.heap.objs.size p i∧h.IsList p its.toArray) 0 ((s.heap.push { cls:=.type "list_iterator",data:=.fields #[.ref p,.int 0 0] }).push { cls:=.type "list",data:=.seq #[] }) :=
  ⟨⟨_,Heap.get?_push_of_some _ (Heap.get?_push_size _ rfl),rfl,rfl⟩,(hL.push _).push _⟩
 have hSg:((s.heap.push { cls:=.type "list_iterator",data:=.fields #[.ref p,.int 0 0] }).push { cls:=.type "list",data:=.seq #[] }).get? (s.heap.push { cls:=.type "list_iterator",data:=.fields #[.ref p,.int 0 0] }).objs.size = some { cls:=.type "list",dict:=none,data:=.seq #[] 0,slots:=#[] }:=Heap.get?_push_size _ rfl
 have hSf:(s.heap.push { cls:=.type "list_iterator",data:=.fields #[.ref p,.int 0 0] }).objs.size ∉ [s.heap.objs.size,p]:=by
  rw [hS]
  intro z
  rcases List.mem_cons.mp z with z | z
  ·exact absurd z (Nat.succ_ne_self _)
  ·have z:=List.mem_singleton.mp z
   rw [← z] at plt
   exact Nat.lt_irrefl _ (Nat.lt_of_succ_lt plt)
 refine wpAny_pure ⟨plainId_quiet PySem.F.plain_min_loop _,?_⟩
 refine codeAny_builtin PySem.F.entry_min_loop ?_
 rw [Around.under_plainId PySem.F.plain_min_loop _]
 show wpAny _ X.A.in1 (seqItems? (.ref _) >>= _) _ _ _
 refine wpAny_bind (wpAny_seqItems hSg rfl ?_)
 show wpAny _ X.A.in1 (tryCatch (pyNext (.ref s.heap.objs.size)) _ >>= _) _ _ _
 cases hn:ns with
 | nil=>exact absurd hn hne
 | cons n0 rest =>
  have hpos:0 < its.toArray.size:=by rw [hsz,hn]; simp
  refine wpAny_bind (wpAny_tryCatch (W.item 0 _ _ _ hpos hst0 fun v h' tk hP hst' kp=>?_))
  obtain ⟨t',rfl⟩:=hval 0 v hP
  have hS':=kp _ _ (fun z=>hSf (List.mem_cons.mpr (.inl (List.mem_singleton.mp z)))) hSg
  show wpAny _ X.A.in1 (updateSeq _ (fun _=>#[_,_]) >>= _) _ _ _
  refine wpAny_bind ?_
  refine wpAny_updateSeq hS' rfl ?_
  rw [jg3]
  refine wpAny_pure ⟨plainId_quiet PySem.F.plain_min_loop _,jll W (fun i=>ns[i]?.getD 0) hval _ _ hSf _ 1 _ _ t' _ rfl hpos (W.frame _ _ _ hst' fun b hbf o e=>?_) ⟨⟨0,Nat.one_pos,rfl⟩,fun i hi=>by
   have:i = 0:=by omega
   subst this; exact Int.le_refl _⟩ (Heap.get?_update_self _ hS' rfl) fun m u h'' tk'' hB k''=>?_⟩
  ·exact (Heap.get?_update_other _ _ (fun z=>hSf (by rw [z]; exact hbf))).trans e
  ·refine ⟨.int m,H,kp0 h'' tk'' fun b o h1 h2 h3=>k'' b o h1 h2 ((Heap.get?_update_other _ _ (Ne.symm h2)).trans (kp b o h1 h3)),⟨u,rfl⟩,q m ?_ fun x hx=>?_⟩
   ·obtain ⟨i,hi,e1⟩:=hB.1
    rw [hsz] at hi
    rw [e1]
    show ns[i]?.getD 0 ∈ ns
    rw [List.getElem?_eq_getElem hi]
    exact List.getElem_mem hi
   ·obtain ⟨i,hi,e1⟩:=List.mem_iff_getElem.mp hx
    have:m ≤ ns[i]?.getD 0:=hB.2 i (by rw [hsz]; exact hi)
    rw [List.getElem?_eq_getElem hi] at this
    rw [← e1]
    exact this
end
end L2
local macro_rules | `(tactic| walk_at "ND") => `(tactic| try simp only [L2.fIsB,L2.tSeq,L2.jat,L2.jau,L2.tRet,L2.jaz,L2.tIfS,L2.tAsg,L2.jal,L2.fAug,L2.tOp,L2.tUn,L2.tC,L2.fVar,L2.fI,L2.fIC,L2.fNeg,L2.fEq,L2.fNe,L2.fIsN,L2.jam,L2.fAnd,L2.fOr,L2.fNot,L2.fB,L2.tNot,L2.tAnd,L2.tOr,L2.ja8,L2.fIx,L2.fLen,L2.ja1,L2.fMin,L2.fMax,L2.fInL,L2.fSlL,L2.tSl,L2.jaw,L2.ja3,L2.ja2,L2.fBM,L2.jap,L2.gSub,L2.jar,L2.ja6,L2.jaq,L2.jb4,L2.jab,L2.jaa,L2.ja9,L2.fCat,L2.jae,L2.fBM0,L2.fSlT,L2.jb1,L2.tCBK,L2.fDIn,L2.jay,L2.fIsi,L2.ja5,L2.ja7,L2.fLtT,L2.jav,L2.tCB,L2.jan,L2.tNil,L2.tTup,L2.tLst,L2.tIf,L2.jas,L2.Kd.nm,L2.jak,List.map_cons,List.map_nil,List.length_cons,List.length_nil,Nat.reduceAdd,Nat.reduceSub,List.replicate_succ,List.replicate_zero,List.getElem?_cons_zero,List.getElem?_cons_succ,List.set_cons_zero,List.set_cons_succ,List.append_nil,List.nil_append,List.cons_append,eq_self,true_and,and_true,if_true,Bool.false_eq_true,if_false,Bool.not_true,Bool.not_false,id_eq,My.sl0,My.sl1,My.sl2,My.sl3,My.sl4,L2.fXor,L2.jb7,L2.jb6,L2.jax,L2.jb2,L2.jb0,L2.jad,L2.jb5,L2.jac,L2.fAlt,L2.jao,L2.jb3,L2.fFld])
local macro_rules | `(tactic| simp_all_arith [$args,*]) => `(tactic| try simp only [L2.fIsB,L2.tSeq,L2.jat,L2.jau,L2.tRet,L2.jaz,L2.tIfS,L2.tAsg,L2.jal,L2.fAug,L2.tOp,L2.tUn,L2.tC,L2.fVar,L2.fI,L2.fIC,L2.fNeg,L2.fEq,L2.fNe,L2.fIsN,L2.jam,L2.fAnd,L2.fOr,L2.fNot,L2.fB,L2.tNot,L2.tAnd,L2.tOr,L2.ja8,L2.fIx,L2.fLen,L2.ja1,L2.fMin,L2.fMax,L2.fInL,L2.fSlL,L2.tSl,L2.jaw,L2.ja3,L2.ja2,L2.fBM,L2.jap,L2.gSub,L2.jar,L2.ja6,L2.jaq,L2.jb4,L2.jab,L2.jaa,L2.ja9,L2.fCat,L2.jae,L2.fBM0,L2.fSlT,L2.jb1,L2.tCBK,L2.fDIn,L2.jay,L2.fIsi,L2.ja5,L2.ja7,L2.fLtT,L2.jav,L2.tCB,L2.jan,L2.tNil,L2.tTup,L2.tLst,L2.tIf,L2.jas,L2.Kd.nm,L2.jak,List.map_cons,List.map_nil,List.length_cons,List.length_nil,Nat.reduceAdd,Nat.reduceSub,List.replicate_succ,List.replicate_zero,List.getElem?_cons_zero,List.getElem?_cons_succ,List.set_cons_zero,List.set_cons_succ,List.append_nil,List.nil_append,List.cons_append,eq_self,true_and,and_true,if_true,Bool.false_eq_true,if_false,Bool.not_true,Bool.not_false,id_eq,My.sl0,My.sl1,My.sl2,My.sl3,My.sl4,L2.fXor,L2.jb7,L2.jb6,L2.jax,L2.jb2,L2.jb0,L2.jad,L2.jb5,L2.jac,L2.fAlt,L2.jao,L2.jb3,L2.fFld,$args,*])
namespace My
open PySem L2
section
variable {P:Program} {w:World} {K:PySem.W.Frag} {mg:Str→Option Value} {base:Heap} {c1 c2 c3 c4:Tok} {C_Net C_NoWeb f_NoWeb:Addr} {dI:FuncData}
def jv0:Stmt→List Stmt
 | .ClassDef _ _ _ b _ _ _ _ _ _ _=>b
 | _=>[]
def meth (i j:Nat):Stmt:=(jv0 (top i)).getD j (.Pass ⟨0,0,0,0⟩)
structure MthAt (K:PySem.W.Frag) (C:Addr) (x qual:Str) (st:Stmt) (ps:List Str) (f:Addr) (fd:FuncData):Prop where
 F:Fun K x qual st f fd
 b:jf7 K fd ps []
 m:Meth K C x f
structure NetC (K:PySem.W.Frag) (mg:Str→Option Value) (C:Addr):Prop where
 cl:Cls K C
 n_ways_from:jf6 K C "ways_from"
 n_heads:jf6 K C "heads"
 n_rooms:jf6 K C "rooms"
 m:mg "Net" = some (.ref C)
def netO (C dx W Hd R:Addr):HO:=.ins C dx [("ways_from",.ref W),("heads",.ref Hd),("rooms",.ref R)]
section
variable {C dx W Hd R:Addr}
theorem fld_w:jj9 C (some (netO C dx W Hd R)) "ways_from" = some (.ref W):=by unfold jj9 netO; dsimp only; rw [if_pos rfl]; rfl
theorem jsc:jj9 C (some (netO C dx W Hd R)) "heads" = some (.ref Hd):=by unfold jj9 netO; dsimp only; rw [if_pos rfl]; rfl
theorem jnu:jj9 C (some (netO C dx W Hd R)) "rooms" = some (.ref R):=by unfold jj9 netO; dsimp only; rw [if_pos rfl]; rfl
theorem jli {m:Str} (h:(m == ("ways_from":Str)) = false) (h2:(m == ("heads":Str)) = false) (h3:(m == ("rooms":Str)) = false):jfy C (some (netO C dx W Hd R)) m = true:=by
 unfold jfy netO
 simp only [decide_true,Bool.true_and,List.lookup_cons,h,h2,h3,List.lookup_nil,Option.isNone_none]
theorem jgw:jfy C (some (netO C dx W Hd R)) "put_way" = true:=jli rfl rfl rfl
theorem jhv:jfy C (some (netO C dx W Hd R)) "spread" = true:=jli rfl rfl rfl
theorem jfq:jfy C (some (netO C dx W Hd R)) "shortest" = true:=jli rfl rfl rfl
theorem jry:jfy C (some (netO C dx W Hd R)) "push" = true:=jli rfl rfl rfl
theorem jrz:jfy C (some (netO C dx W Hd R)) "fill" = true:=jli rfl rfl rfl
theorem jpr:jfy C (some (netO C dx W Hd R)) "flows" = true:=jli rfl rfl rfl
theorem jlh:jfy C (some (netO C dx W Hd R)) "reached_from" = true:=jli rfl rfl rfl
end
def nv (ws:List Nat):List V:=ws.map fun w:Nat=>V.int (w:Int)
def NtS (C:Addr) (H:Hp) (p R:Addr) (wf:Int→List Nat) (hs:List Int) (n:Nat):Prop:=∃ (dx W Hd:Addr) (ls:List Addr),H p = some (netO C dx W Hd R)∧H W = some (.lst (ls.map V.ref))∧ls.length = n∧(∀ (i:Nat) (a:Addr),ls[i]? = some a→H a = some (.lst (nv (wf (i:Int))))∧a ≠ R)∧H Hd = some (.lst (hs.map V.int))∧W ≠ R∧Hd ≠ R∧p ≠ R
theorem NtS.but {C:Addr} {H H':Hp} {p R:Addr} {wf:Int→List Nat} {hs:List Int} {n:Nat} (h:NtS C H p R wf hs n) (s:But R H H'):NtS C H' p R wf hs n:=by
 obtain ⟨dx,W,Hd,ls,e1,e2,e3,e4,e5,n1,n2,n3⟩:=h
 exact ⟨dx,W,Hd,ls,s _ _ n3 e1,s _ _ n1 e2,e3,fun i a ha=>⟨s _ _ (e4 i a ha).2 (e4 i a ha).1,(e4 i a ha).2⟩,s _ _ n2 e5,n1,n2,n3⟩
theorem NtS.same {C:Addr} {H H':Hp} {p R:Addr} {wf:Int→List Nat} {hs:List Int} {n:Nat} (h:NtS C H p R wf hs n) (s:Same H H'):NtS C H' p R wf hs n:=h.but fun b o _ q=>s b o q
theorem ji3 {l:List Int} {w:Nat} (h:w < l.length):atI (l.map V.int) (w:Int) = some (.int (Fl.at' l w)):=by
 refine jbz ?_
 rw [List.getElem?_map,List.getElem?_eq_getElem h]
 unfold Fl.at'
 rw [List.getD_eq_getElem?_getD,List.getElem?_eq_getElem h]
 rfl
theorem jti {l:List Addr} {i:Nat} {a:Addr} (h:l[i]? = some a):atI (l.map V.ref) (i:Int) = some (.ref a):=by
 refine jbz ?_
 rw [List.getElem?_map,h]
 rfl
def oV:Option Nat→V
 | none=>.non
 | some w=>.int (w:Int)
def cbK (cb:Fl.Cb):List (Key × V):=cb.map fun p=>(Sum.inl p.1,oV p.2)
theorem jjb:∀ (cb:Fl.Cb) (v:Int),(valV (cbK cb) (Sum.inl v:Key)).isSome = Fl.seen cb v
 | [],v=>rfl
 | p :: r,v=>by
  have ih:=jjb r v
  unfold cbK valV Fl.seen at ih ⊢
  rw [List.map_cons,List.find?_cons]
  by_cases c:p.1 = v
  ·dsimp only
   rw [decide_eq_true (show (Sum.inl p.1:Key) = Sum.inl v from congrArg Sum.inl c)]
   dsimp only
   rw [decide_eq_true (by rw [List.map_cons,c]; exact List.mem_cons_self)]
   rfl
  ·dsimp only
   rw [decide_eq_false (fun z:(Sum.inl p.1:Key) = Sum.inl v=>c (Sum.inl.inj z))]
   dsimp only
   rw [ih,List.map_cons]
   congr 1
   simp only [List.mem_cons,eq_iff_iff]
   exact ⟨fun z=>.inr z,fun z=>z.resolve_left fun e=>c e.symm⟩
theorem jqw:∀ (cb:Fl.Cb) (v:Int),(valV (cbK cb) (Sum.inl v:Key)).getD .non = oV (Fl.lk cb v)
 | [],v=>rfl
 | p :: r,v=>by
  have ih:=jqw r v
  unfold cbK valV Fl.lk at ih ⊢
  rw [List.map_cons,List.find?_cons,List.find?_cons]
  by_cases c:p.1 = v
  ·dsimp only
   rw [decide_eq_true (show (Sum.inl p.1:Key) = Sum.inl v from congrArg Sum.inl c),decide_eq_true c]
   rfl
  ·dsimp only
   rw [decide_eq_false (fun z:(Sum.inl p.1:Key) = Sum.inl v=>c (Sum.inl.inj z)),decide_eq_false c]
   dsimp only
   exact ih
theorem jv2 {cb:Fl.Cb} {v:Int} {w:Nat} (h:Fl.seen cb v = false):putK (cbK cb) (Sum.inl v:Key) (.int (w:Int)) = cbK (cb ++ [(v,some w)]):=by
 rw [jrl]
 ·unfold cbK
  rw [List.map_append]
  rfl
 ·rw [← jjb] at h
  cases e:valV (cbK cb) (Sum.inl v:Key) with
  | none=>rfl
  | some x=>rw [e] at h; cases h
theorem jg8 (hs r:List Int):∀ (a b:List Nat) (cb:Fl.Cb),Fl.visit hs r cb (a ++ b) = Fl.visit hs r (Fl.visit hs r cb a) b
 | [],b,cb=>rfl
 | w :: a,b,cb=>by
  rw [List.cons_append,Fl.visit,Fl.visit]
  exact jg8 hs r a b _
theorem jr5 (hs r:List Int) (ws:List Nat) (i:Nat) (cb:Fl.Cb):(Fl.visit hs r cb (ws.take i)).length ≤ (Fl.visit hs r cb ws).length:=by
 have e:Fl.visit hs r cb ws = Fl.visit hs r (Fl.visit hs r cb (ws.take i)) (ws.drop i):=by rw [← jg8,List.take_append_drop]
 obtain ⟨l,e2⟩:=Fl.visit_pre (hs:=hs) (r:=r) (ws.drop i) (Fl.visit hs r cb (ws.take i))
 rw [e,e2,List.length_append]
 omega
structure Nt (C:Addr) (H:Hp) (p R:Addr) (wf:Int→List Nat) (hs:List Int) (m n:Nat) (r:List Int):Prop where
 st:NtS C H p R wf hs n
 eR:H R = some (.lst (r.map V.int))
 net:Fl.Net wf hs m n
 len:r.length = 2 * m
 big:2 * m ≤ 1000
 n200:n ≤ 200
theorem Nt.same {C:Addr} {H H':Hp} {p R:Addr} {wf:Int→List Nat} {hs:List Int} {m n:Nat} {r:List Int} (h:Nt C H p R wf hs m n r) (s:Same H H'):Nt C H' p R wf hs m n r:=⟨h.st.same s,s _ _ h.eR,h.net,h.len,h.big,h.n200⟩
def jic (C:Addr):Sp:=fun vs H Q _=>∃ p s R wf hs m n r,vs = [.ref p,.int s]∧Nt C H p R wf hs m n r∧0 ≤ s∧s < (n:Int)∧∀ d H',H d = none→Same H H'→H' d = some (.dK (cbK (Fl.cbOf wf hs n s r)))→Q (.ref d) H'
def jkj (cb:Fl.Cb):List V:=cb.map fun p=>V.int p.1
theorem jpi {f:Addr} {fd:FuncData}  (B:Blt mg) (D:MthAt K C_Net "spread" "Net.spread" (meth 5 4) ["self","source"] f fd) (T:NetC K mg C_Net):FnOk P w K mg base CX0 1 f fd ["self","source"] (jic C_Net):=by
 have sc:FnScope ["self","source","came_by","line","done","knot","way","head"] ["self","source"] (jbc (meth 5 4)):=⟨rfl,rfl,rfl,by decide +kernel,rfl,by decide +kernel,by decide +kernel⟩
 refine D.F.ok sc (fun vs H Q E h=>?_) (fun cdv A outer s H vs Q E hr h=>?_)
 ·obtain ⟨p,s,R,wf,hs,m,n,r,rfl,_⟩:=h
  rfl
 obtain ⟨p,s,R,wf,hs,m,n,r,rfl,N,s0,s1,h⟩:=h
 have hu:=jc8 hr
 have hu0:_ < PySem.cLine:=Nat.lt_of_succ_lt hu
 refine ⟨_,(jaf (jbi (i:=2) sc.nd rfl (Or.inl rfl) (jrt (qv 1) jt4)) (jaf (jbi (i:=3) sc.nd rfl (Or.inl rfl) (jd4 (ja0 (qv 1) jag))) (jaf (jbi (i:=4) sc.nd rfl (Or.inl rfl) jah) (jaf (jil PassesOwn.never (jck q_lt (qv 4) (jbf jdv rfl B.len PySem.boot_len (ja0 (qv 3) jag)) (jc5 _)) (jaf (jbi (i:=5) sc.nd rfl (Or.inl rfl) (jbh q_ix (qv 3) (qv 4) (fun _ _=>rfl))) (jaf (jcv PassesOwn.never rfl (jbx (jbh q_ix (jd6 T.cl T.n_ways_from (qv 0) rfl) (qv 5) (fun _ _=>rfl))) (jbb (i:=6) sc.nd rfl (Or.inl rfl)) (jaf (jbi (i:=7) sc.nd rfl (Or.inl rfl) (jbh q_ix (jd6 T.cl T.n_heads (qv 0) rfl) (qv 6) (fun _ _=>rfl))) (jb8 (jdc (PW.pt (pw_and (jck q_gt (jbh q_ix (jd6 T.cl T.n_rooms (qv 0) rfl) (qv 6) (fun _ _=>rfl)) jah (jc5 _)) (jtx (jtr (jrj hu (qv 7) (qv 2)))))) (jaf (jp6 hu (qv 2) (qv 7) (qv 6)) (jb8 (jcb (q_bm PySem.F.plainAttrs_list PySem.F.slot_list_append PySem.F.type_list_append jcu (qv 3) (ja0 (qv 7) jag))))) jc2)))) (jb8 (jmh (i:=4) sc.nd rfl (Or.inl rfl) jah jp5))))) (jb8 (jbq (qv 2))))))),?_⟩
 have N0:=N
 obtain ⟨⟨dx,W,Hd,ls,e1,e2,e3,e4,e5,n1,n2,n3⟩,eR,net,hlen,hbig,hn⟩:=N
 refine jb9 fun R' hR=>?_
 walk_at "ND"
 intro d hd
 have q1:=jai hd (.dK [(Sum.inl s,.non)])
 have ed:upd H d (.dK [(Sum.inl s,.non)]) d = some (.dK [(Sum.inl s,.non)]):=ja4
 generalize upd H d (.dK [(Sum.inl s,.non)]) = H1 at q1 ed
 subst hR
 refine jb9 fun R' hR=>?_
 walk_at "ND"
 intro l hl
 have q2:=q1.trans (jai hl (.lst [.int s]))
 have ed2:=jai hl (.lst [.int s]) _ _ ed
 have el:upd H1 l (.lst [.int s]) l = some (.lst [.int s]):=ja4
 have ld:l ≠ d:=(jaj ed hl).symm
 have hlH:H l = none:=q1.free hl
 generalize upd H1 l (.lst [.int s]) = H2 at q2 ed2 el
 subst hR
 refine jb9 fun R' hR=>?_
 walk_at "ND"
 subst hR
 refine jb9 fun R' hR=>?_
 refine ji4 (fun σ Hc=>∃ (k:Nat) (v5 v6 v7:Option V),σ = [some (.ref p),some (.int s),some (.ref d),some (.ref l),some (.int (k:Int)),v5,v6,v7]∧Same H Hc∧Hc d = some (.dK (cbK (Fl.sprN wf hs r s k)))∧Hc l = some (.lst (jkj (Fl.sprN wf hs r s k)))∧k ≤ (Fl.sprN wf hs r s k).length) (fun σ _=>match σ with | [_,_,_,_,some (.int k),_,_,_]=>n - k.toNat | _=>0) ⟨0,none,none,none,rfl,q2,ed2,el,Nat.zero_le _⟩ ?_ ?_
 ·rintro σ Hc ⟨k,v5,v6,v7,rfl,s3,ed3,el3,hk⟩
  have hkl:=Fl.cb_len (r:=r) net ⟨s0,s1⟩ k
  have hlk:(jkj (Fl.sprN wf hs r s k)).length = (Fl.sprN wf hs r s k).length:=List.length_map _
  by_cases c:k < (Fl.sprN wf hs r s k).length
  ·have hdt:decide ((k:Int) < ((Fl.sprN wf hs r s k).length:Int)) = true:=decide_eq_true (by omega)
   have hg:(Fl.sprN wf hs r s k)[k]? = some (Fl.sprN wf hs r s k)[k]:=List.getElem?_eq_getElem c
   generalize hpk:(Fl.sprN wf hs r s k)[k] = pk at hg
   have hgl:atI (jkj (Fl.sprN wf hs r s k)) (k:Int) = some (.int pk.1):=jbz (by unfold jkj; rw [List.getElem?_map,hg]; rfl)
   simp_all_arith [jbl,el3,hlk,hdt,hgl]
   have hkn:=Fl.keys_in (r:=r) net ⟨s0,s1⟩ k pk.1 (List.mem_map.mpr ⟨_,List.mem_of_getElem? hg,rfl⟩)
   have hi:pk.1.toNat < ls.length:=by omega
   have hla:ls[pk.1.toNat]? = some ls[pk.1.toNat]:=List.getElem?_eq_getElem hi
   generalize ls[pk.1.toNat] = wa at hla
   have ewa:=(e4 _ _ hla).1
   rw [show ((pk.1.toNat:Nat):Int) = pk.1 by omega] at ewa
   have hwa:atI (ls.map V.ref) pk.1 = some (.ref wa):=by have:=jti hla; rw [show ((pk.1.toNat:Nat):Int) = pk.1 by omega] at this; exact this
   have hnext:Fl.sprN wf hs r s (k + 1) = Fl.visit hs r (Fl.sprN wf hs r s k) (wf pk.1):=by rw [Fl.sprN,hg]
   have hkl2:=Fl.cb_len (r:=r) net ⟨s0,s1⟩ (k + 1)
   rw [hnext] at hkl2
   generalize hcb:Fl.sprN wf hs r s k = cb at *
   refine jc0 (Itl K wa) Hc (fun R3 hR3=>?_) (jdj (K:=K) (a:=wa) (xs:=nv (wf pk.1)) (fun i σ H4=>∃ v6 v7,σ = [some (.ref p),some (.int s),some (.ref d),some (.ref l),some (.int (k:Int)),some (.int pk.1),v6,v7]∧Same H H4∧H4 d = some (.dK (cbK (Fl.visit hs r cb ((wf pk.1).take i))))∧H4 l = some (.lst (jkj (Fl.visit hs r cb ((wf pk.1).take i))))) ⟨v6,v7,rfl,s3,ed3,el3⟩ (fun i σ H4 _ ⟨_,_,_,s4,_⟩=>SqL.of (s4 _ _ ewa)) ?_ ?_)
   ·unfold jd5
    simp_all_arith [jbl,s3 _ _ e1,fld_w,s3 _ _ e2,hwa]
    exact ⟨wa,rfl,⟨_,SqL.of (s3 _ _ ewa)⟩,hR3⟩
   ·rintro i x σ H4 hx ⟨v6,v7,rfl,s4,ed4,el4⟩
    unfold nv at hx
    rw [List.getElem?_map] at hx
    obtain ⟨w,hw,rfl⟩:=Option.map_eq_some_iff.mp hx
    have hwm:=net.from' pk.1 w (List.mem_of_getElem? hw)
    have hh:atI (hs.map V.int) (w:Int) = some (.int (Fl.at' hs w)):=ji3 (by rw [net.len]; exact hwm.1)
    have hr':atI (r.map V.int) (w:Int) = some (.int (Fl.at' r w)):=ji3 (by rw [hlen]; exact hwm.1)
    have hv1:Fl.visit hs r cb ((wf pk.1).take (i + 1)) = if 0 < Fl.at' r w∧Fl.seen (Fl.visit hs r cb ((wf pk.1).take i)) (Fl.at' hs w) = false then Fl.visit hs r cb ((wf pk.1).take i) ++ [(Fl.at' hs w,some w)] else Fl.visit hs r cb ((wf pk.1).take i):=by
     rw [jbp hw,jg8]
     rfl
    have hvl:=jr5 hs r (wf pk.1) i cb
    generalize Fl.visit hs r cb ((wf pk.1).take i) = cb1 at *
    simp_all_arith [jbl,s4 _ _ e1,jsc,jnu,s4 _ _ e5,hh,s4 _ _ eR,hr',ed4,jjb]
    by_cases c1:0 < Fl.at' r w
    ·rw [decide_eq_true c1,if_pos rfl]
     cases c2:Fl.seen cb1 (Fl.at' hs w) with
     | true =>
      walk_at "ND"
      rw [if_neg (fun z=>by rw [c2] at z; cases z.2)] at hv1
      rw [hv1]
      exact ⟨_,_,rfl,s4,(by first | rfl | exact ed4),el4⟩
     | false =>
      rw [if_pos ⟨c1,c2⟩] at hv1
      simp_all_arith [jv2 c2]
      have hcl:(cbK cb1).length = cb1.length:=List.length_map _
      refine ⟨szl' (by omega),?_⟩
      have el5:upd H4 d (.dK (cbK (cb1 ++ [(Fl.at' hs w,some w)]))) l = some (.lst (jkj cb1)):=by rw [jba ld]; exact el4
      refine ⟨⟨l,_,rfl,el5⟩,?_⟩
      rw [el5]
      dsimp only
      have hcl2:(jkj cb1).length = cb1.length:=List.length_map _
      refine ⟨szl' (by omega),_,_,rfl,jbk (jbk s4 hd) hlH,?_,?_⟩
      ·rw [jba (Ne.symm ld),ja4,hv1]
      ·rw [ja4,hv1]
       unfold jkj
       rw [List.map_append]
       rfl
    ·rw [decide_eq_false c1,if_neg (by decide)]
     rw [if_neg (fun z=>c1 z.1)] at hv1
     rw [hv1]
     exact ⟨_,_,rfl,s4,(by first | rfl | exact ed4),el4⟩
   ·rintro σ H4 ⟨v6,v7,rfl,s4,ed4,el4⟩
    have htl:(wf pk.1).take (nv (wf pk.1)).length = wf pk.1:=by unfold nv; rw [List.length_map,List.take_length]
    rw [htl,← hnext] at ed4 el4
    walk_at "ND"
    refine ⟨⟨k + 1,_,_,_,by rw [show ((k + 1:Nat):Int) = (k:Int) + 1 by omega],s4,ed4,el4,?_⟩,?_⟩
    ·obtain ⟨z,hz⟩:=Fl.spr_pre (wf:=wf) (hs:=hs) (r:=r) (s:=s) k
     rw [hz,hcb,List.length_append]
     omega
    ·omega
  ·have hdt:decide ((k:Int) < ((Fl.sprN wf hs r s k).length:Int)) = false:=decide_eq_false (by omega)
   simp_all_arith [jbl,el3,hlk,hdt]
   subst hR
   walk_at "ND"
   have hfin:Fl.cbOf wf hs n s r = Fl.sprN wf hs r s k:=by
    unfold Fl.cbOf
    rw [show n = k + (n - k) by omega]
    exact Fl.spr_rest (by omega) _
   exact h d Hc hd s3 (by rw [hfin]; exact ed3)
 ·intro σ Hc Q1 Q2 hq hc
  unfold fB tOp tCB jan tNil fVar at hc ⊢
  cases e:σ[4]? with
  | none=>rw [e] at hc; exact hc.elim
  | some ov =>
   rw [e] at hc
   cases ov with
   | none=>exact hc.elim
   | some u =>
    dsimp only [fLen,fI,tC] at hc ⊢
    cases e3:σ[3]? with
    | none=>rw [e3] at hc; exact hc.elim
    | some ov3 =>
     rw [e3] at hc
     cases ov3 with
     | none=>exact hc.elim
     | some u3 =>
      dsimp only at hc ⊢
      cases u3 with
      | ref b =>
       dsimp only at hc ⊢
       cases e2:jbl Hc b with
       | none=>rw [e2] at hc; exact hc.elim
       | some us =>
        rw [e2] at hc
        dsimp only at hc ⊢
        cases u with
        | int i=>exact hq _ _ hc
        | _=>exact hc.elim
      | _=>exact hc.elim
end
end My
namespace Fl
section
variable {hs r:List Int} {m:Nat} {s:Int} {cb:Cb}
theorem juc {v:Int} {w:Nat} (h:lk cb v = some w):∃ i:Nat,cb[i]? = some (v,some w):=by
 unfold lk at h
 cases e:cb.find? fun p=>decide (p.1 = v) with
 | none=>rw [e] at h; cases h
 | some p =>
  rw [e] at h
  have hp:=List.mem_of_find?_eq_some e
  have hv:p.1 = v:=by have:=List.find?_some e; exact of_decide_eq_true (p:=p.1 = v) this
  obtain ⟨i,hi,e2⟩:=List.mem_iff_getElem.mp hp
  refine ⟨i,?_⟩
  rw [List.getElem?_eq_getElem hi,e2]
  obtain ⟨a,b⟩:=p
  dsimp only at hv
  have h:b = some w:=h
  rw [hv,h]
theorem jn5 (C:Cam hs r m s cb):∀ (i:Nat) (v:Int) (o:Option Nat),cb[i]? = some (v,o)→∀ f,i ≤ f→trailN hs cb (f + 1) v = trailN hs cb f v:=by
 intro i
 induction i using Nat.strongRecOn with
 | ind i ih =>
  intro v o h f hf
  have hl:=jue C.nd h
  by_cases h0:i = 0
  ·subst h0
   have e:=C.first
   rw [h] at e
   have ho:o = none:=congrArg Prod.snd (Option.some.inj e)
   rw [ho] at hl
   rw [trailN,hl]
   cases f with
   | zero=>rfl
   | succ f=>rw [trailN,hl]
  ·obtain ⟨w,rfl,h2,h3,h4,j,u,h5,h6,h7⟩:=C.came i v o h (by omega)
   obtain ⟨f',rfl⟩:∃ f',f = f' + 1:=⟨f - 1,by omega⟩
   obtain ⟨p,hp⟩:∃ p,cb[j]? = some p:=by
    cases e:cb[j]? with
    | none=>rw [e] at h6; cases h6
    | some p=>exact ⟨p,rfl⟩
   have hpu:p.1 = u:=by rw [hp] at h6; exact Option.some.inj h6
   obtain ⟨p1,p2⟩:=p
   dsimp only at hpu
   subst hpu
   have e1:trailN hs cb (f' + 1 + 1) v = w :: trailN hs cb (f' + 1) p1:=by
    rw [trailN,hl]; dsimp only; rw [h7]
   have e2:trailN hs cb (f' + 1) v = w :: trailN hs cb f' p1:=by
    rw [trailN,hl]; dsimp only; rw [h7]
   rw [e1,e2,ih j h5 p1 p2 hp f' (by omega)]
theorem trail_next (C:Cam hs r m s cb) {n:Nat} (hn:cb.length ≤ n) {v:Int} {w:Nat} (h:lk cb v = some w):trailN hs cb n v = w :: trailN hs cb n (at' hs (mate w))∧w < 2 * m:=by
 obtain ⟨i,hi⟩:=juc h
 have hil:=(List.getElem?_eq_some_iff.mp hi).1
 have h0:0 < i:=by
  by_cases z:i = 0
  ·subst z
   have e:=C.first
   rw [hi] at e
   have:=congrArg Prod.snd (Option.some.inj e)
   cases this
  ·omega
 obtain ⟨w',hw',h2,h3,h4,j,u,h5,h6,h7⟩:=C.came i v _ hi h0
 cases hw'
 obtain ⟨p,hp⟩:∃ p,cb[j]? = some p:=by
  cases e:cb[j]? with
  | none=>rw [e] at h6; cases h6
  | some p=>exact ⟨p,rfl⟩
 have hpu:p.1 = u:=by rw [hp] at h6; exact Option.some.inj h6
 obtain ⟨f',rfl⟩:∃ f',n = f' + 1:=⟨n - 1,by omega⟩
 refine ⟨?_,h2⟩
 rw [trailN,h]
 dsimp only
 rw [h7,← hpu,jn5 C j p.1 p.2 hp f' (by omega)]
theorem trail_end {v:Int} {n:Nat} (h:lk cb v = none):trailN hs cb n v = []:=by
 cases n with
 | zero=>rfl
 | succ n=>rw [trailN,h]
theorem trail_len:∀ (n:Nat) (v:Int),(trailN hs cb n v).length ≤ n
 | 0,_=>Nat.le_refl _
 | n + 1,v=>by
  rw [trailN]
  split
  ·have:=trail_len n (at' hs (mate ‹Nat›))
   rw [List.length_cons]; omega
  ·exact Nat.zero_le _
theorem minR_mem (r:List Int):∀ {tr:List Nat},tr ≠ []→minR r tr ∈ tr.map (at' r)
 | [],h=>absurd rfl h
 | [w],_=>List.mem_singleton.mpr rfl
 | w :: x :: tr,_=>by
  rw [minR]
  split
  ·exact List.mem_cons_of_mem _ (minR_mem r (tr:=x :: tr) (by simp))
  ·exact List.mem_cons_self
theorem push_snoc (r:List Int) (tr:List Nat) (w:Nat) (a:Int):push r (tr ++ [w]) a = bump (push r tr a) w a:=by
 unfold push
 rw [List.foldl_append]
 rfl
end
end Fl
namespace My
open PySem L2
section
variable {P:Program} {w:World} {K:PySem.W.Frag} {mg:Str→Option Value} {base:Heap} {c1 c2 c3 c4:Tok} {C_Net C_NoWeb f_NoWeb:Addr} {dI:FuncData}
def joi (C:Addr):Sp:=fun vs H Q _=>∃ p s t R wf hs m n r,vs = [.ref p,.int s,.int t]∧Nt C H p R wf hs m n r∧0 ≤ s∧s < (n:Int)∧∀ l H',H l = none→Same H H'→H' l = some (.lst (nv (Fl.trOf wf hs n s t r)))→Q (.ref l) H'
def jss (C:Addr):Sp:=fun vs H Q _=>∃ p l R wf hs m n r tr,vs = [.ref p,.ref l]∧Nt C H p R wf hs m n r∧H l = some (.lst (nv tr))∧l ≠ R∧tr ≠ []∧tr.length ≤ 200∧(∀ w ∈ tr,w < 2 * m)∧∀ H',But R H H'→H' R = some (.lst ((Fl.push r tr (Fl.minR r tr)).map V.int))→Q (.int (Fl.minR r tr)) H'
def jsv (C:Addr):Sp:=fun vs H Q _=>∃ p s t R wf hs m n r cap,vs = [.ref p,.int s,.int t]∧Nt C H p R wf hs m n r∧s ≠ t∧0 ≤ s∧s < (n:Int)∧Fl.Rooms m cap r∧∀ x r' H',Fl.Runs wf hs n s t r r'→Fl.stp wf hs n s t r' = none→But R H H'→H' R = some (.lst (r'.map V.int))→Q (.int x) H'
theorem oV_isN (o:Option Nat):jam (oV o) = o.isNone:=by cases o <;> rfl
theorem jm1 (w:Nat):PySem.Builtin.bitXor (w:Int) 1 = ((Fl.mate w:Nat):Int):=jtj w
def unI (xs:List V):List Int:=xs.map fun x=>match x with
 | .int i=>i
 | _=>0
theorem joa (r:List Int):unI (r.map V.int) = r:=by
 unfold unI
 rw [List.map_map]
 exact List.map_id _
theorem jlo {n w:Nat} (h:w < n):ixN n (w:Int) = some w:=by
 unfold ixN
 rw [if_pos (by omega),if_pos (by omega)]
 rfl
theorem Nt.but {C:Addr} {H H':Hp} {p R:Addr} {wf:Int→List Nat} {hs:List Int} {m n:Nat} {r r':List Int} (h:Nt C H p R wf hs m n r) (s:But R H H') (e:H' R = some (.lst (r'.map V.int))) (hl:r'.length = 2 * m):Nt C H' p R wf hs m n r':=⟨h.st.but s,e,h.net,hl,h.big,h.n200⟩
theorem jv1 {cb:Fl.Cb} {v:Int} {w:Nat} (h:Fl.lk cb v = some w):valV (cbK cb) (Sum.inl v:Key) = some (.int (w:Int)):=by
 have:=jqw cb v
 rw [h] at this
 cases e:valV (cbK cb) (Sum.inl v:Key) with
 | none=>rw [e] at this; cases this
 | some x=>rw [e] at this; exact congrArg some this
theorem jlb {f:Addr} {fd:FuncData} {f_spread:Addr} {d_spread:FuncData} (B:Blt mg) (D:MthAt K C_Net "shortest" "Net.shortest" (meth 5 3) ["self","source","sink"] f fd) (D_spread:MthAt K C_Net "spread" "Net.spread" (meth 5 4) ["self","source"] f_spread d_spread) (G_spread:FnOk P w K mg base CX0 1 f_spread d_spread ["self","source"] (jic C_Net)) (T:NetC K mg C_Net):FnOk P w K mg base CX0 2 f fd ["self","source","sink"] (joi C_Net):=by
 have sc:FnScope ["self","source","sink","came_by","trail","knot"] ["self","source","sink"] (jbc (meth 5 3)):=⟨rfl,rfl,rfl,by decide +kernel,rfl,by decide +kernel,by decide +kernel⟩
 refine D.F.ok sc (fun vs H Q E h=>?_) (fun cdv A outer s H vs Q E hr h=>?_)
 ·obtain ⟨p,s,t,R,wf,hs,m,n,r,rfl,_⟩:=h
  rfl
 obtain ⟨p,s,t,R,wf,hs,m,n,r,rfl,N,s0,s1,h⟩:=h
 have hu:=jc8 hr
 have hu0:_ < PySem.cLine:=Nat.lt_of_succ_lt hu
 refine ⟨_,(jaf (jbi (i:=3) sc.nd rfl (Or.inl rfl) (jd9 (qv 0) T.cl D_spread.m G_spread (hr.mono (by decide)) D_spread.b .nil jbu (ja0 (qv 1) jag))) (jaf (jbi (i:=4) sc.nd rfl (Or.inl rfl) (jd4 jag)) (jaf (jbi (i:=5) sc.nd rfl (Or.inl rfl) (qv 2)) (jaf (jil PassesOwn.never (jck q_notN (jtv hu (qv 3) (qv 5)) jt4 (jc5 _)) (jaf (jcb (q_bm PySem.F.plainAttrs_list PySem.F.slot_list_append PySem.F.type_list_append jcu (qv 4) (ja0 (jdw hu (qv 3) (qv 5) (fun _ _=>rfl)) jag))) (jb8 (jbi (i:=5) sc.nd rfl (Or.inl rfl) (jbh q_ix (jd6 T.cl T.n_heads (qv 0) rfl) (jbv q_xor (jdw hu (qv 3) (qv 5) (fun _ _=>rfl)) jah) (fun _ _=>rfl)))))) (jb8 (jbq (qv 4))))))),?_⟩
 have N0:=N
 obtain ⟨⟨dx,W,Hd,ls,e1,e2,e3,e4,e5,n1,n2,n3⟩,eR,net,hlen,hbig,hn⟩:=N
 refine jb9 fun R' hR=>?_
 simp_all_arith [e1,jhv]
 refine ⟨p,s,R,wf,hs,m,n,r,rfl,N0,s0,s1,fun d H1 hd q1 ed=>?_⟩
 subst hR
 refine jb9 fun R' hR=>?_
 walk_at "ND"
 intro l hl
 have q2:=q1.trans (jai hl (.lst []))
 have ed2:=jai hl (.lst []) _ _ ed
 have el:upd H1 l (.lst []) l = some (.lst []):=ja4
 have hlH:H l = none:=q1.free hl
 have ld:l ≠ d:=(jaj ed hl).symm
 generalize upd H1 l (.lst []) = H2 at q2 ed2 el
 subst hR
 refine jb9 fun R' hR=>?_
 walk_at "ND"
 subst hR
 refine jb9 fun R' hR=>?_
 have Cm:=Fl.spr_cam (r:=r) (s:=s) net.from' n
 have hcl:=Fl.cb_len (r:=r) net ⟨s0,s1⟩ n
 have htl:=Fl.trail_len (hs:=hs) (cb:=Fl.cbOf wf hs n s r) n t
 have htr:Fl.trOf wf hs n s t r = Fl.trailN hs (Fl.cbOf wf hs n s r) n t:=rfl
 rw [htr] at h
 generalize hcb:Fl.cbOf wf hs n s r = cb at *
 unfold Fl.cbOf at hcb
 rw [hcb] at Cm hcl
 refine ji4 (fun σ Hc=>∃ (v:Int) (tr:List Nat),σ = [some (.ref p),some (.int s),some (.int t),some (.ref d),some (.ref l),some (.int v)]∧Same H Hc∧Hc d = some (.dK (cbK cb))∧Hc l = some (.lst (nv tr))∧Fl.trailN hs cb n t = tr ++ Fl.trailN hs cb n v) (fun σ _=>match σ with | [_,_,_,_,_,some (.int v)]=>(Fl.trailN hs cb n v).length | _=>0) ⟨t,[],rfl,q2,ed2,el,rfl⟩ ?_ ?_
 ·rintro σ Hc ⟨v,tr,rfl,s3,ed3,el3,htv⟩
  simp_all_arith [ed3,jqw,oV_isN]
  refine ⟨⟨_,rfl⟩,?_⟩
  cases hlk:Fl.lk cb v with
  | none =>
   simp_all_arith [Option.isNone]
   subst hR
   walk_at "ND"
   rw [Fl.trail_end hlk,List.append_nil] at htv
   exact h l Hc hlH s3 (by rw [htv]; exact el3)
  | some w =>
   obtain ⟨hnx,hw⟩:=Fl.trail_next Cm hcl hlk
   have hm:=Fl.mate_lt hw
   have hh:atI (hs.map V.int) ((Fl.mate w:Nat):Int) = some (.int (Fl.at' hs (Fl.mate w))):=ji3 (by rw [net.len]; exact hm)
   have hval:=jv1 hlk
   have htl2:tr.length ≤ n:=by
    have:=congrArg List.length htv
    rw [List.length_append] at this
    omega
   simp_all_arith [Option.isNone,el3,ed3,hval]
   refine ⟨⟨l,_,rfl,el3⟩,?_⟩
   have hnl:(nv tr).length = tr.length:=List.length_map _
   refine ⟨szl' (by omega),?_⟩
   have ed4:upd Hc l (.lst (nv tr ++ [.int (w:Int)])) d = some (.dK (cbK cb)):=by rw [jba (Ne.symm ld)]; exact ed3
   have s4:Same H (upd Hc l (.lst (nv tr ++ [.int (w:Int)]))):=jbk s3 hlH
   have el4:upd Hc l (.lst (nv tr ++ [.int (w:Int)])) l = some (.lst (nv (tr ++ [w]))):=by rw [ja4]; unfold nv; rw [List.map_append]; rfl
   generalize upd Hc l (.lst (nv tr ++ [.int (w:Int)])) = H4 at ed4 s4 el4
   simp_all_arith [jbl,s4 _ _ e1,jsc,s4 _ _ e5,ed4,hval,jm1,hh]
   refine ⟨⟨_,_,rfl,s4,el4,?_⟩,?_⟩
   ·rw [htv,hnx,List.append_assoc]
    rfl
   ·rw [hnx,List.length_cons]
    omega
 ·intro σ Hc Q1 Q2 hq hc
  unfold fB tOp jad fVar at hc ⊢
  cases e:σ[3]? with
  | none=>rw [e] at hc; exact hc.elim
  | some ov =>
   rw [e] at hc
   cases ov with
   | none=>exact hc.elim
   | some u =>
    dsimp only at hc ⊢
    cases u with
    | ref a =>
     dsimp only at hc ⊢
     refine ⟨hc.1,?_⟩
     have hc:=hc.2
     cases e3:σ[5]? with
     | none=>rw [e3] at hc; exact hc.elim
     | some ov3 =>
      rw [e3] at hc
      cases ov3 with
      | none=>exact hc.elim
      | some u3 =>
       dsimp only at hc ⊢
       cases u3 with
       | int i =>
        dsimp only at hc ⊢
        cases e4:Hc a with
        | none=>rw [e4] at hc; exact hc.elim
        | some ob =>
         rw [e4] at hc
         cases ob with
         | dK kvs=>dsimp only [tC,fIsN] at hc ⊢; exact hq _ _ hc
         | _=>exact hc.elim
       | _=>exact hc.elim
    | _=>exact hc.elim
end
end My
namespace My
open PySem L2
section
variable {P:Program} {w:World} {K:PySem.W.Frag} {mg:Str→Option Value} {base:Heap} {c1 c2 c3 c4:Tok} {C_Net C_NoWeb f_NoWeb:Addr} {dI:FuncData}
theorem jgz (r:List Int) (w:Nat) (x:Int):(r.map V.int).set w (.int x) = (r.set w x).map V.int:=by rw [List.map_set]
theorem js1 {i:Nat} {σ:St} {H:Hp} {Q Q':Bool→Hp→Prop} (hq:∀ b H1,Q b H1→Q' b H1) (hc:jao (fVar i) σ H Q):jao (fVar i) σ H Q':=by
 unfold jao fVar at hc ⊢
 cases e:σ[i]? with
 | none=>rw [e] at hc; exact hc.elim
 | some ov =>
  rw [e] at hc
  cases ov with
  | none=>exact hc.elim
  | some u =>
   dsimp only at hc ⊢
   cases u with
   | ref a =>
    dsimp only at hc ⊢
    cases e4:H a with
    | none=>rw [e4] at hc; exact hc.elim
    | some ob =>
     rw [e4] at hc
     cases ob with
     | lst xs=>exact hq _ _ hc
     | _=>exact hc.elim
   | _=>exact hc.elim
theorem ju7 {f:Addr} {fd:FuncData}  (B:Blt mg) (D:MthAt K C_Net "push" "Net.push" (meth 5 5) ["self","trail"] f fd) (T:NetC K mg C_Net):FnOk P w K mg base CX0 1 f fd ["self","trail"] (jss C_Net):=by
 have sc:FnScope ["self","trail","amount","way"] ["self","trail"] (jbc (meth 5 5)):=⟨rfl,rfl,rfl,by decide +kernel,rfl,by decide +kernel,by decide +kernel⟩
 refine D.F.ok sc (fun vs H Q E h=>?_) (fun cdv A outer s H vs Q E hr h=>?_)
 ·obtain ⟨p,l,R,wf,hs,m,n,r,tr,rfl,_⟩:=h
  rfl
 obtain ⟨p,l,R,wf,hs,m,n,r,tr,rfl,N,el,lR,tr0,htl,hw,h⟩:=h
 have hu:=jc8 hr
 have hu0:_ < PySem.cLine:=Nat.lt_of_succ_lt hu
 refine ⟨_,(jaf (jbi (i:=2) sc.nd rfl (Or.inl rfl) (jbf (jf2 rfl) rfl B.min PyProof.Rows.boot_min (ja0 (jc6 (CpScope.of (N:=["way","self"]) (src:=[none,some 0]) (by rfl)) rfl (jbx (qv 1)) (fun _ _ _ _=>(jbb (i:=0) (jbd (l:=["way","self"]) (by rfl)) rfl (Or.inl rfl))) (fun _ _ _ _=>jc1) (fun _ _ _ _=>(jbh q_ix (jd6 T.cl T.n_rooms (qv 1) rfl) (qv 0) (fun _ _=>rfl)))) jag))) (jaf (jcv PassesOwn.never rfl (jbx (qv 1)) (jbb (i:=3) sc.nd rfl (Or.inl rfl)) (jaf (jp9 (jd6 T.cl T.n_rooms (qv 0) rfl) (qv 3) jkl (qv 2) juj jgi) (jb8 (jp9 (jd6 T.cl T.n_rooms (qv 0) rfl) (jbv q_xor (qv 3) jah) jkl (qv 2) jul jgi)))) (jb8 (jbq (qv 2))))),?_⟩
 have N0:=N
 obtain ⟨⟨dx,W,Hd,ls,e1,e2,e3,e4,e5,n1,n2,n3⟩,eR,net,hlen,hbig,hn⟩:=N
 have hnl:(nv tr).length = tr.length:=List.length_map _
 refine jb9 fun R' hR=>?_
 walk_at "ND"
 refine jbj (Itl K l) H (fun R2 hR2=>?_) (fun z hz0=>jbs tr.length (fun i σ' Hc=>∃ w1,σ' = [w1,some (.ref p)]∧Same H Hc∧Hc z = some (.lst (((tr.take i).map (Fl.at' r)).map V.int))) ⟨none,rfl,jai hz0 _,ja4⟩ ?_ ?_)
 ·unfold jd5
  walk_at "ND"
  exact ⟨l,rfl,⟨_,SqL.of el⟩,hR2⟩
 ·rintro i σ' Hc hi ⟨w1,rfl,s7,ez⟩
  have x1:(nv tr)[i]? = some (.int ((tr[i]:Nat):Int)):=by unfold nv; rw [List.getElem?_map,List.getElem?_eq_getElem hi]; rfl
  have x2:tr[i]? = some tr[i]:=List.getElem?_eq_getElem hi
  have hwi:=hw _ (List.getElem_mem hi)
  generalize tr[i] = wi at x1 x2 hwi
  refine ⟨⟨_,_,SqL.of (s7 _ _ el),x1⟩,?_⟩
  rintro y H' ⟨rfl,hy⟩
  have E1:=Option.some.inj (x1.symm.trans (hy _ (SqL.of (s7 _ _ el))))
  subst E1
  have hr':atI (r.map V.int) (wi:Int) = some (.int (Fl.at' r wi)):=ji3 (by rw [hlen]; exact hwi)
  simp_all_arith [jbl,s7 _ _ e1,jnu,s7 _ _ eR,hr']
  refine ⟨_,ez,?_,_,rfl,jbk s7 hz0,?_⟩
  ·rw [List.length_map,List.length_map,List.length_take]
   exact szl' (by omega)
  ·rw [ja4,jbp x2,List.map_append,List.map_append]
   rfl
 ·rintro σ' Hc ⟨w1,rfl,s7,ez⟩
  refine ⟨⟨_,SqL.of (s7 _ _ el),by omega⟩,?_⟩
  rw [List.take_length] at ez
  refine ⟨z,_,rfl,ez,by simpa using tr0,fun a ha hmin=>?_⟩
  have hae:a = Fl.minR r tr:=by
   have h1:=hmin _ (Fl.minR_mem r tr0)
   obtain ⟨w,hwt,rfl⟩:=List.mem_map.mp ha
   have h2:=Fl.minR_le r hwt
   omega
  subst hae
  generalize Fl.minR r tr = a at *
  walk_at "ND"
  subst hR
  refine jb9 fun R' hR=>?_
  have zR:z ≠ R:=(jaj eR hz0).symm
  refine jc0 (Itl K l) Hc (fun R3 hR3=>?_) (jdj (K:=K) (a:=l) (xs:=nv tr) (fun i σ H4=>∃ v3,σ = [some (.ref p),some (.ref l),some (.int a),v3]∧But R H H4∧H4 R = some (.lst ((Fl.push r (tr.take i) a).map V.int))) ⟨none,rfl,fun b o _ q=>s7 b o q,s7 _ _ eR⟩ (fun i σ H4 _ ⟨_,_,s4,_⟩=>SqL.of (s4 _ _ lR el)) ?_ ?_)
  ·unfold jd5
   walk_at "ND"
   exact ⟨l,rfl,⟨_,SqL.of (s7 _ _ el)⟩,hR3⟩
  ·rintro i x σ H4 hx ⟨v3,rfl,s4,eR4⟩
   unfold nv at hx
   rw [List.getElem?_map] at hx
   obtain ⟨w,hwt,rfl⟩:=Option.map_eq_some_iff.mp hx
   have hwm:=hw w (List.mem_of_getElem? hwt)
   have hmm:=Fl.mate_lt hwm
   have hpl:(Fl.push r (tr.take i) a).length = 2 * m:=by rw [Fl.push_len]; exact hlen
   have hps:Fl.push r (tr.take (i + 1)) a = Fl.bump (Fl.push r (tr.take i) a) w a:=by rw [jbp hwt,Fl.push_snoc]
   generalize Fl.push r (tr.take i) a = r1 at *
   have e14:=s4 _ _ n3 e1
   have h1:atI (r1.map V.int) (w:Int) = some (.int (Fl.at' r1 w)):=ji3 (by omega)
   have hx1:ixN (r1.map V.int).length (w:Int) = some w:=jlo (by rw [List.length_map]; omega)
   refine jb9 fun R5 hR5=>?_
   simp_all_arith [e14,jnu,eR4,h1,hx1]
   refine ⟨Int.natCast_nonneg _,?_⟩
   rw [jgz]
   have b5:But R H (upd H4 R (.lst ((r1.set w (Fl.at' r1 w - a)).map V.int))):=s4.trans (But.at R H4 _)
   have e15:=b5 _ _ n3 e1
   have eR5:upd H4 R (.lst ((r1.set w (Fl.at' r1 w - a)).map V.int)) R = some (.lst ((r1.set w (Fl.at' r1 w - a)).map V.int)):=ja4
   generalize upd H4 R (.lst ((r1.set w (Fl.at' r1 w - a)).map V.int)) = H5 at b5 e15 eR5
   have hl2:(r1.set w (Fl.at' r1 w - a)).length = 2 * m:=by rw [List.length_set]; exact hpl
   have h2:atI ((r1.set w (Fl.at' r1 w - a)).map V.int) ((Fl.mate w:Nat):Int) = some (.int (Fl.at' r1 (Fl.mate w))):=by
    rw [ji3 (by omega),Fl.at_set,if_neg (fun z=>Fl.mate_ne w z.1.symm)]
   have hx2:ixN ((r1.set w (Fl.at' r1 w - a)).map V.int).length ((Fl.mate w:Nat):Int) = some (Fl.mate w):=jlo (by rw [List.length_map]; omega)
   subst hR5
   simp_all_arith [e15,jnu,eR5,jm1,h2,hx2]
   refine ⟨Int.natCast_nonneg _,_,rfl,b5.trans (But.at R H5 _),?_⟩
   rw [ja4,hps,jgz]
   rfl
  ·rintro σ H4 ⟨v3,rfl,s4,eR4⟩
   rw [hnl,List.take_length] at eR4
   subst hR
   walk_at "ND"
   exact h H4 s4 eR4
theorem ju9 {f:Addr} {fd:FuncData} {f_shortest:Addr} {d_shortest:FuncData} {f_push:Addr} {d_push:FuncData} (B:Blt mg) (D:MthAt K C_Net "fill" "Net.fill" (meth 5 2) ["self","source","sink"] f fd) (D_shortest:MthAt K C_Net "shortest" "Net.shortest" (meth 5 3) ["self","source","sink"] f_shortest d_shortest) (G_shortest:FnOk P w K mg base CX0 2 f_shortest d_shortest ["self","source","sink"] (joi C_Net)) (D_push:MthAt K C_Net "push" "Net.push" (meth 5 5) ["self","trail"] f_push d_push) (G_push:FnOk P w K mg base CX0 1 f_push d_push ["self","trail"] (jss C_Net)) (T:NetC K mg C_Net):FnOk P w K mg base CX0 3 f fd ["self","source","sink"] (jsv C_Net):=by
 have sc:FnScope ["self","source","sink","flowing","trail"] ["self","source","sink"] (jbc (meth 5 2)):=⟨rfl,rfl,rfl,by decide +kernel,rfl,by decide +kernel,by decide +kernel⟩
 refine D.F.ok sc (fun vs H Q E h=>?_) (fun cdv A outer s H vs Q E hr h=>?_)
 ·obtain ⟨p,s,t,R,wf,hs,m,n,r,cap,rfl,_⟩:=h
  rfl
 obtain ⟨p,s,t,R,wf,hs,m,n,r,cap,rfl,N,st,s0,s1,rm,h⟩:=h
 have hu:=jc8 hr
 have hu0:_ < PySem.cLine:=Nat.lt_of_succ_lt hu
 refine ⟨_,(jaf (jbi (i:=3) sc.nd rfl (Or.inl rfl) jah) (jaf (jbi (i:=4) sc.nd rfl (Or.inl rfl) (jd9 (qv 0) T.cl D_shortest.m G_shortest (hr.mono (by decide)) D_shortest.b .nil jbu (ja0 (qv 1) (ja0 (qv 2) jag)))) (jaf (jil PassesOwn.never (jty (qv 4)) (jaf (jmh (i:=3) sc.nd rfl (Or.inl rfl) (jd9 (qv 0) T.cl D_push.m G_push (hr.mono (by decide)) D_push.b .nil jbu (ja0 (qv 4) jag)) jp5) (jb8 (jbi (i:=4) sc.nd rfl (Or.inl rfl) (jd9 (qv 0) T.cl D_shortest.m G_shortest (hr.mono (by decide)) D_shortest.b .nil jbu (ja0 (qv 1) (ja0 (qv 2) jag))))))) (jb8 (jbq (qv 3)))))),?_⟩
 refine jb9 fun R' hR=>?_
 walk_at "ND"
 subst hR
 refine jb9 fun R' hR=>?_
 obtain ⟨dx,W,Hd,ls,e1,e2,e3,e4,e5,n1,n2,n3⟩:=N.st
 simp_all_arith [e1,jfq]
 refine ⟨p,s,t,R,wf,hs,m,n,r,rfl,N,s0,s1,fun l H1 hl q1 el=>?_⟩
 have lR:l ≠ R:=(jaj N.eR hl).symm
 subst hR
 refine jb9 fun R' hR=>?_
 refine ji4 (fun σ Hc=>∃ (x:Int) (l:Addr) (r1:List Int),σ = [some (.ref p),some (.int s),some (.int t),some (.int x),some (.ref l)]∧But R H Hc∧Hc R = some (.lst (r1.map V.int))∧Fl.Runs wf hs n s t r r1∧Fl.Rooms m cap r1∧Hc l = some (.lst (nv (Fl.trOf wf hs n s t r1)))∧l ≠ R) (fun _ Hc=>match Hc R with | some (.lst xs)=>(Fl.capSum cap m - Fl.ex hs m (unI xs) t).toNat | _=>0) ⟨0,l,r,rfl,fun b o _ q=>q1 b o q,q1 _ _ N.eR,.done r,rm,el,lR⟩ ?_ ?_
 ·rintro σ Hc ⟨x,l,r1,rfl,b2,eR2,run,rm1,el2,lR⟩
  have N2:=N.but b2 eR2 rm1.len
  have e12:=b2 _ _ n3 e1
  by_cases ct:Fl.trOf wf hs n s t r1 = []
  ·have hst:Fl.stp wf hs n s t r1 = none:=by unfold Fl.stp; rw [if_pos ct]
   have hne:(nv (Fl.trOf wf hs n s t r1)).isEmpty = true:=by rw [ct]; rfl
   simp_all_arith [el2,hne]
   subst hR
   walk_at "ND"
   exact h x r1 Hc run hst b2 eR2
  ·have hst:Fl.stp wf hs n s t r1 = some (Fl.push r1 (Fl.trOf wf hs n s t r1) (Fl.minR r1 (Fl.trOf wf hs n s t r1))):=by unfold Fl.stp; rw [if_neg ct]
   have hne:(nv (Fl.trOf wf hs n s t r1)).isEmpty = false:=by unfold nv; cases hq:Fl.trOf wf hs n s t r1 with | nil=>exact absurd hq ct | cons _ _=>rfl
   obtain ⟨_,gi,G⟩:=Fl.tr_in N.net st ⟨s0,s1⟩ ct
   have hk:=Fl.step_keeps N.net st ⟨s0,s1⟩ rm1 hst
   have hle:=Fl.trail_len (hs:=hs) (cb:=Fl.cbOf wf hs n s r1) n t
   simp_all_arith [el2,hne,e12,jry]
   refine ⟨p,l,R,wf,hs,m,n,r1,_,rfl,N2,el2,lR,ct,Nat.le_trans hle N.n200,fun w hw=>(G.up w hw).1,fun H3 b3 eR3=>?_⟩
   have b4:=b2.trans b3
   have N3:=N2.but b3 eR3 (by rw [Fl.push_len]; exact rm1.len)
   simp_all_arith [b4 _ _ n3 e1,jfq]
   refine ⟨p,s,t,R,wf,hs,m,n,_,rfl,N3,s0,s1,fun l2 H5 hl2 q5 el5=>?_⟩
   have eR5:=q5 _ _ eR3
   refine ⟨⟨_,l2,_,rfl,b4.trans fun b o _ q=>q5 b o q,eR5,run.snoc hst,hk.1,el5,(jaj eR3 hl2).symm⟩,?_⟩
   rw [eR5,eR2]
   dsimp only
   rw [joa,joa]
   have:=hk.2.2
   have:=Fl.ex_le (hs:=hs) hk.1 t
   omega
 ·intro σ Hc Q1 Q2 hq hc
  exact js1 hq hc
end
end My
namespace My
open PySem L2
section
variable {P:Program} {w:World} {K:PySem.W.Frag} {mg:Str→Option Value} {base:Heap} {c1 c2 c3 c4:Tok} {C_Net C_NoWeb f_NoWeb:Addr} {dI:FuncData}
structure NtG (C:Addr) (H:Hp) (p dx W Hd R:Addr) (ls:List Addr) (f:Nat→List V) (hv rv:List V):Prop where
 o:H p = some (netO C dx W Hd R)
 w:H W = some (.lst (ls.map V.ref))
 l:∀ (i:Nat) (a:Addr),ls[i]? = some a→H a = some (.lst (f i))∧a ≠ R∧a ≠ Hd∧a ≠ W
 nd:ls.Nodup
 h:H Hd = some (.lst hv)
 r:H R = some (.lst rv)
 n1:W ≠ R
 n2:Hd ≠ R
 n3:W ≠ Hd
def putH (H:Hp) (wa Hd R:Addr) (a b c:List V):Hp:=upd (upd (upd H wa (.lst a)) Hd (.lst b)) R (.lst c)
theorem NtG.put {C:Addr} {H:Hp} {p dx W Hd R:Addr} {ls:List Addr} {f:Nat→List V} {hv rv:List V} (G:NtG C H p dx W Hd R ls f hv rv) {i:Nat} {wa:Addr} (hi:ls[i]? = some wa) (x y z:V) :
  NtG C (putH H wa Hd R (f i ++ [x]) (hv ++ [y]) (rv ++ [z])) p dx W Hd R ls (fun j=>if j = i then f i ++ [x] else f j) (hv ++ [y]) (rv ++ [z]):=by
 obtain ⟨a1,a2,a3,a4⟩:=G.l i wa hi
 have p1:p ≠ wa:=jlg G.o a1 (by intro z; cases z)
 have p2:p ≠ Hd:=jlg G.o G.h (by intro z; cases z)
 have p3:p ≠ R:=jlg G.o G.r (by intro z; cases z)
 unfold putH
 refine ⟨by rw [jba p3,jba p2,jba p1]; exact G.o,by rw [jba G.n1,jba G.n3,jba (Ne.symm a4)]; exact G.w,fun j a ha=>?_,G.nd,by rw [jba G.n2,ja4],ja4,G.n1,G.n2,G.n3⟩
 obtain ⟨b1,b2,b3,b4⟩:=G.l j a ha
 refine ⟨?_,b2,b3,b4⟩
 rw [jba b2,jba b3]
 by_cases c:j = i
 ·subst c
  rw [hi] at ha
  cases ha
  rw [if_pos rfl,ja4]
 ·rw [if_neg c,jba (fun e=>c ?_)]
  ·exact b1
  ·subst e
   have h1:=(List.getElem?_eq_some_iff.mp ha)
   have h2:=(List.getElem?_eq_some_iff.mp hi)
   exact (List.getElem_inj G.nd).mp (h1.2.trans h2.2.symm)
def jm8 (C:Addr):Sp:=fun vs H Q _=>∃ p dx W Hd R ls f hv rv i wa hd rm,vs = [.ref p,.int ((i:Nat):Int),.int hd,.int rm]∧NtG C H p dx W Hd R ls f hv rv∧ls[i]? = some wa∧(f i).length ≤ 900∧hv.length ≤ 900∧rv.length ≤ 900∧Q .non (putH H wa Hd R (f i ++ [.int (hv.length:Int)]) (hv ++ [.int hd]) (rv ++ [.int rm]))
def jst (C:Addr):Sp:=fun vs H Q _=>∃ p dx n al zs as,vs = [.ref p,.int ((n:Nat):Int),.ref al]∧H p = some (.ins C dx [])∧H al = some (.lst zs)∧Tps H zs as∧n ≤ 200∧as.length ≤ 450∧(∀ a ∈ as,(0 ≤ a.1∧a.1 < (n:Int))∧0 ≤ a.2.1∧a.2.1 < (n:Int))∧∀ R H',H R = none→But p H H'→Nt C H' p R (Fl.wfA as) (Fl.hsA as) as.length n (Fl.rmA as)→Q .non H'
theorem wfA_le (as:List Fl.Arc) (u:Int):(Fl.wfA as u).length ≤ 2 * as.length:=by
 unfold Fl.wfA
 have:=List.length_filter_le (fun w=>decide (Fl.at' (Fl.hsA as) (Fl.mate w) = u)) (List.range (2 * as.length))
 rw [List.length_range] at this
 exact this
theorem But.upd {p q:Addr} {H H':Hp} {o:HO} (b:But p H H') (h:H q = none):But p H (upd H' q o):=fun c u n e=>by rw [jba (jaj e h)]; exact b c u n e
theorem jpn (a b:List Nat):nv (a ++ b) = nv a ++ nv b:=List.map_append
theorem jnj {f:Addr} {fd:FuncData}  (B:Blt mg) (D:MthAt K C_Net "put_way" "Net.put_way" (meth 5 1) ["self","tail","head","room"] f fd) (T:NetC K mg C_Net):FnOk P w K mg base CX0 1 f fd ["self","tail","head","room"] (jm8 C_Net):=by
 have sc:FnScope ["self","tail","head","room"] ["self","tail","head","room"] (jbc (meth 5 1)):=⟨rfl,rfl,rfl,by decide +kernel,rfl,by decide +kernel,by decide +kernel⟩
 refine D.F.ok sc (fun vs H Q E h=>?_) (fun cdv A outer s H vs Q E hr h=>?_)
 ·obtain ⟨p,dx,W,Hd,R,ls,f,hv,rv,i,wa,hd,rm,rfl,_⟩:=h
  rfl
 obtain ⟨p,dx,W,Hd,R,ls,f,hv,rv,i,wa,hd,rm,rfl,G,hi,l1,l2,l3,h⟩:=h
 have hu:=jc8 hr
 have hu0:_ < PySem.cLine:=Nat.lt_of_succ_lt hu
 refine ⟨_,(jaf (jcb (q_bm PySem.F.plainAttrs_list PySem.F.slot_list_append PySem.F.type_list_append jcu (jbh q_ix (jd6 T.cl T.n_ways_from (qv 0) rfl) (qv 1) (fun _ _=>rfl)) (ja0 (jbf jdv rfl B.len PySem.boot_len (ja0 (jd6 T.cl T.n_heads (qv 0) rfl) jag)) jag))) (jaf (jcb (q_bm PySem.F.plainAttrs_list PySem.F.slot_list_append PySem.F.type_list_append jcu (jd6 T.cl T.n_heads (qv 0) rfl) (ja0 (qv 2) jag))) (jb8 (jcb (q_bm PySem.F.plainAttrs_list PySem.F.slot_list_append PySem.F.type_list_append jcu (jd6 T.cl T.n_rooms (qv 0) rfl) (ja0 (qv 3) jag)))))),?_⟩
 have e1:=G.o
 have e2:=G.w
 have e3:=G.h
 have hat:=jti hi
 obtain ⟨a1,a2,a3,a4⟩:=G.l i wa hi
 have p1:p ≠ wa:=jlg G.o a1 (by intro z; cases z)
 have p2:p ≠ Hd:=jlg G.o G.h (by intro z; cases z)
 refine jb9 fun R' hR=>?_
 simp_all_arith [jbl,e1,fld_w,jsc,e2,hat,a1,e3]
 refine ⟨⟨wa,_,rfl,a1⟩,szl' (by omega),?_⟩
 have e4:upd H wa (.lst (f i ++ [.int (hv.length:Int)])) p = some (netO C_Net dx W Hd R):=by rw [jba p1]; exact e1
 have e5:upd H wa (.lst (f i ++ [.int (hv.length:Int)])) Hd = some (.lst hv):=by rw [jba (Ne.symm a3)]; exact e3
 have e6:upd H wa (.lst (f i ++ [.int (hv.length:Int)])) R = some (.lst rv):=by rw [jba (Ne.symm a2)]; exact G.r
 subst hR
 refine jb9 fun R' hR=>?_
 simp_all_arith [e4,jsc,e5]
 refine ⟨⟨Hd,_,rfl,e5⟩,szl' (by omega),?_⟩
 have e7:upd (upd H wa (.lst (f i ++ [.int (hv.length:Int)]))) Hd (.lst (hv ++ [.int hd])) p = some (netO C_Net dx W Hd R):=by rw [jba p2]; exact e4
 have e8:upd (upd H wa (.lst (f i ++ [.int (hv.length:Int)]))) Hd (.lst (hv ++ [.int hd])) R = some (.lst rv):=by rw [jba (Ne.symm G.n2)]; exact e6
 subst hR
 simp_all_arith [e7,jnu,e8]
 exact ⟨⟨R,_,rfl,e8⟩,szl' (by omega),h⟩
end
end My
namespace My
open PySem L2
section
variable {P:Program} {w:World} {K:PySem.W.Frag} {mg:Str→Option Value} {base:Heap} {c1 c2 c3 c4:Tok} {C_Net C_NoWeb f_NoWeb:Addr} {dI:FuncData}
theorem NtG.congr {C:Addr} {H:Hp} {p dx W Hd R:Addr} {ls:List Addr} {f g:Nat→List V} {hv rv hv' rv':List V} (G:NtG C H p dx W Hd R ls f hv rv) (h:∀ i,i < ls.length→f i = g i) (e1:hv = hv') (e2:rv = rv'):NtG C H p dx W Hd R ls g hv' rv':=by
 subst e1 e2
 exact ⟨G.o,G.w,fun i a ha=>by rw [← h i (List.getElem?_eq_some_iff.mp ha).1]; exact G.l i a ha,G.nd,G.h,G.r,G.n1,G.n2,G.n3⟩
theorem jmj {p wa Hd R:Addr} {H H':Hp} {a b c:List V} (s:But p H H') (h1:H wa = none) (h2:H Hd = none) (h3:H R = none):But p H (putH H' wa Hd R a b c):=((s.upd h1).upd h2).upd h3
theorem jtk {as:List Fl.Arc} {a:Fl.Arc} {i1 i2 j:Nat} (h1:a.1 = (i1:Int)) (h2:a.2.1 = (i2:Int)) {x y:V} (hx:x = .int ((2 * as.length:Nat):Int)) (hy:y = .int ((2 * as.length + 1:Nat):Int)) :
  (if j = i2 then (if i2 = i1 then nv (Fl.wfA as (i1:Int)) ++ [x] else nv (Fl.wfA as (i2:Int))) ++ [y] else (if j = i1 then nv (Fl.wfA as (i1:Int)) ++ [x] else nv (Fl.wfA as (j:Int)))) = nv (Fl.wfA (as ++ [a]) (j:Int)):=by
 rw [Fl.wfA_snoc,jpn,jpn,h1,h2,hx,hy]
 by_cases c1:j = i1
 ·by_cases c2:j = i2
  ·have:i2 = i1:=by omega
   subst c2
   subst this
   rw [if_pos rfl,if_pos rfl,if_pos rfl,if_pos rfl]
   rfl
  ·subst c1
   rw [if_neg c2,if_pos rfl,if_pos rfl,if_neg (by omega)]
   show _ = _ ++ []
   rw [List.append_nil]
   rfl
 ·by_cases c2:j = i2
  ·subst c2
   rw [if_pos rfl,if_neg c1,if_neg (by omega),if_pos rfl]
   show _ = (_ ++ []) ++ _
   rw [List.append_nil]
   rfl
  ·rw [if_neg c2,if_neg c1,if_neg (by omega),if_neg (by omega)]
   show _ = (_ ++ []) ++ []
   rw [List.append_nil,List.append_nil]
theorem ju8 {f:Addr} {fd:FuncData} {f_put_way:Addr} {d_put_way:FuncData} (B:Blt mg) (D:MthAt K C_Net "__init__" "Net.__init__" (meth 5 0) ["self","many","arcs"] f fd) (D_put_way:MthAt K C_Net "put_way" "Net.put_way" (meth 5 1) ["self","tail","head","room"] f_put_way d_put_way) (G_put_way:FnOk P w K mg base CX0 1 f_put_way d_put_way ["self","tail","head","room"] (jm8 C_Net)) (T:NetC K mg C_Net):FnOk P w K mg base CX0 2 f fd ["self","many","arcs"] (jst C_Net):=by
 have sc:FnScope ["self","many","arcs","tail","head","room"] ["self","many","arcs"] (jbc (meth 5 0)):=⟨rfl,rfl,rfl,by decide +kernel,rfl,by decide +kernel,by decide +kernel⟩
 refine D.F.ok sc (fun vs H Q E h=>?_) (fun cdv A outer s H vs Q E hr h=>?_)
 ·obtain ⟨p,dx,n,al,zs,as,rfl,_⟩:=h
  rfl
 obtain ⟨p,dx,n,al,zs,as,rfl,ep,eal,pz,hn,ha,hok,h⟩:=h
 have hu:=jc8 hr
 have hu0:_ < PySem.cLine:=Nat.lt_of_succ_lt hu
 refine ⟨_,(jaf (jl9 T.cl T.n_ways_from (qv 0) (jc6 (CpScope.of (N:=["knot"]) (src:=[none]) (by rfl)) rfl (jcd rfl B.range (ja0 (qv 1) jag)) (fun _ _ _ _=>(jbb (i:=0) (jbd (l:=["knot"]) (by rfl)) rfl (Or.inl rfl))) (fun _ _ _ _=>jc1) (fun _ _ _ _=>(jd4 jag))) rfl) (jaf (jl9 T.cl T.n_heads (qv 0) (jd4 jag) rfl) (jaf (jl9 T.cl T.n_rooms (qv 0) (jd4 jag) rfl) (jb8 (jcv PassesOwn.never rfl (jbx (qv 2)) (jcl (n:=3) rfl (jbg (jbb (i:=3) sc.nd rfl (Or.inl rfl)) (jbg (jbb (i:=4) sc.nd rfl (Or.inl rfl)) (jbg (jbb (i:=5) sc.nd rfl (Or.inl rfl)) jc9)))) (jaf (jcb (jd9 (qv 0) T.cl D_put_way.m G_put_way (hr.mono (by decide)) D_put_way.b .nil jbu (ja0 (qv 3) (ja0 (qv 4) (ja0 (qv 5) jag))))) (jb8 (jcb (jd9 (qv 0) T.cl D_put_way.m G_put_way (hr.mono (by decide)) D_put_way.b .nil jbu (ja0 (qv 4) (ja0 (qv 3) (ja0 jah jag)))))))))))),?_⟩
 have hlz:zs.length = as.length:=Paired.length pz
 have alp:al ≠ p:=jlg eal ep (by intro z; cases z)
 refine jb9 fun R' hR=>?_
 walk_at "ND"
 refine jbj (Itr 0 n) H (fun R2 hR2=>?_) (fun W hW=>jbs n (fun i σ' Hc=>∃ w1 ls,σ' = [w1]∧Same H Hc∧Hc W = some (.lst (ls.map V.ref))∧ls.length = i∧ls.Nodup∧∀ a ∈ ls,Hc a = some (.lst [])∧a ≠ W∧H a = none) ⟨none,[],rfl,jai hW _,ja4,rfl,.nil,fun a z=>by cases z⟩ ?_ ?_)
 ·unfold jfz
  walk_at "ND"
  exact ⟨_,rfl,by omega,by omega,hR2⟩
 ·rintro i σ' Hc hi ⟨w1,ls,rfl,s1,eW,hl,nd,hls⟩
  refine ⟨hi,?_⟩
  rintro y H' ⟨rfl,rfl⟩
  walk_at "ND"
  intro b hb
  have q:=jai hb (.lst [])
  have eb:upd H' b (.lst []) b = some (.lst []):=ja4
  have eW2:=q _ _ eW
  have bW:b ≠ W:=(jaj eW hb).symm
  have s2:=s1.trans q
  have hls2:∀ a ∈ ls,upd H' b (.lst []) a = some (.lst [])∧a ≠ b:=fun a ha=>⟨q _ _ (hls a ha).1,jaj (hls a ha).1 hb⟩
  generalize upd H' b (.lst []) = H3 at q eb eW2 s2 hls2
  refine ⟨_,eW2,by rw [List.length_map]; exact szl' (by omega),_,ls ++ [b],rfl,jbk s2 hW,by rw [ja4,List.map_append]; rfl,by rw [List.length_append,hl]; rfl,?_,fun a ha=>?_⟩
  ·rw [List.nodup_append]
   refine ⟨nd,by simp,fun a ha c hc=>?_⟩
   rw [List.mem_singleton.mp hc]
   exact (hls2 a ha).2
  ·rcases List.mem_append.mp ha with ha | ha
   ·refine ⟨by rw [jba (hls a ha).2.1]; exact (hls2 a ha).1,(hls a ha).2⟩
   ·rw [List.mem_singleton.mp ha]
    exact ⟨by rw [jba bW]; exact eb,bW,s1.free hb⟩
 rintro σ' H1 ⟨w1,ls,rfl,s1,eW,hl,nd,hls⟩
 refine ⟨Nat.le_refl _,?_⟩
 have ep1:=s1 _ _ ep
 simp_all_arith [ep1]
 refine ⟨Nat.le_of_ble_eq_true rfl,?_⟩
 have b2:But p H (upd H1 p (.ins C_Net dx (putF "ways_from" (.ref W) []))):=fun b o n q=>by rw [jba n]; exact s1 b o q
 have ep2:upd H1 p (.ins C_Net dx (putF "ways_from" (.ref W) [])) p = some (.ins C_Net dx (putF "ways_from" (.ref W) [])):=ja4
 have Wp:W ≠ p:=(jaj ep hW).symm
 have eW2:upd H1 p (.ins C_Net dx (putF "ways_from" (.ref W) [])) W = some (.lst (ls.map V.ref)):=by rw [jba Wp]; exact eW
 have hls2:∀ a ∈ ls,upd H1 p (.ins C_Net dx (putF "ways_from" (.ref W) [])) a = some (.lst [])∧a ≠ W∧H a = none:=fun a ha=>⟨by rw [jba (jaj ep (hls a ha).2.2).symm]; exact (hls a ha).1,(hls a ha).2⟩
 generalize upd H1 p (.ins C_Net dx (putF "ways_from" (.ref W) [])) = H2 at b2 ep2 eW2 hls2
 clear hls eW ep1 s1
 have free:∀ {H':Hp} {q:Addr},But p H H'→H' p ≠ none→H' q = none→H q = none:=fun {H' q} b hp hq=>by
  cases e:H q with
  | none=>rfl
  | some o =>
   have hqp:q ≠ p:=fun z=>hp (by rw [← z]; exact hq)
   rw [b _ _ hqp e] at hq
   cases hq
 subst hR
 refine jb9 fun R' hR=>?_
 walk_at "ND"
 intro Hd hHd
 have fHd:H Hd = none:=free b2 (by rw [ep2]; simp) hHd
 have ep3:upd H2 Hd (.lst []) p = some (.ins C_Net dx (putF "ways_from" (.ref W) [])):=jai hHd _ _ _ ep2
 have eHd:upd H2 Hd (.lst []) Hd = some (.lst []):=ja4
 have WHd:W ≠ Hd:=jaj eW2 hHd
 have hls3:∀ a ∈ ls,upd H2 Hd (.lst []) a = some (.lst [])∧a ≠ Hd:=fun a ha=>⟨jai hHd _ _ _ (hls2 a ha).1,jaj (hls2 a ha).1 hHd⟩
 have eW3:=jai hHd (.lst []) _ _ eW2
 have b3:But p H (upd H2 Hd (.lst [])):=b2.upd fHd
 generalize upd H2 Hd (.lst []) = H3 at ep3 eHd hls3 eW3 b3
 simp_all_arith [ep3]
 refine ⟨Nat.le_of_ble_eq_true rfl,?_⟩
 have Hdp:Hd ≠ p:=(jaj ep fHd).symm
 have ep4:upd H3 p (.ins C_Net dx (putF "heads" (.ref Hd) (putF "ways_from" (.ref W) []))) p = some (.ins C_Net dx (putF "heads" (.ref Hd) (putF "ways_from" (.ref W) []))):=ja4
 have eHd4:upd H3 p (.ins C_Net dx (putF "heads" (.ref Hd) (putF "ways_from" (.ref W) []))) Hd = some (.lst []):=by rw [jba Hdp]; exact eHd
 have eW4:upd H3 p (.ins C_Net dx (putF "heads" (.ref Hd) (putF "ways_from" (.ref W) []))) W = some (.lst (ls.map V.ref)):=by rw [jba Wp]; exact eW3
 have hls4:∀ a ∈ ls,upd H3 p (.ins C_Net dx (putF "heads" (.ref Hd) (putF "ways_from" (.ref W) []))) a = some (.lst []):=fun a ha=>by rw [jba (jaj ep (hls2 a ha).2.2).symm]; exact (hls3 a ha).1
 have b4:But p H (upd H3 p (.ins C_Net dx (putF "heads" (.ref Hd) (putF "ways_from" (.ref W) [])))):=b3.trans (But.at p H3 _)
 generalize upd H3 p (.ins C_Net dx (putF "heads" (.ref Hd) (putF "ways_from" (.ref W) []))) = H4 at ep4 eHd4 eW4 hls4 b4
 subst hR
 refine jb9 fun R' hR=>?_
 walk_at "ND"
 intro R hRn
 have fR:H R = none:=free b4 (by rw [ep4]; simp) hRn
 have ep5:upd H4 R (.lst []) p = some (.ins C_Net dx (putF "heads" (.ref Hd) (putF "ways_from" (.ref W) []))):=jai hRn _ _ _ ep4
 have eR5:upd H4 R (.lst []) R = some (.lst []):=ja4
 have eHd5:=jai hRn (.lst []) _ _ eHd4
 have eW5:=jai hRn (.lst []) _ _ eW4
 have WR:W ≠ R:=jaj eW4 hRn
 have HdR:Hd ≠ R:=jaj eHd4 hRn
 have hls5:∀ a ∈ ls,upd H4 R (.lst []) a = some (.lst [])∧a ≠ R:=fun a ha=>⟨jai hRn _ _ _ (hls4 a ha),jaj (hls4 a ha) hRn⟩
 have b5:But p H (upd H4 R (.lst [])):=b4.upd fR
 generalize upd H4 R (.lst []) = H5 at ep5 eR5 eHd5 eW5 hls5 b5
 simp_all_arith [ep5]
 refine ⟨Nat.le_of_ble_eq_true rfl,?_⟩
 have Rp:R ≠ p:=(jaj ep fR).symm
 have eo:(HO.ins C_Net dx (putF "rooms" (.ref R) (putF "heads" (.ref Hd) (putF "ways_from" (.ref W) [])))) = netO C_Net dx W Hd R:=rfl
 rw [eo]
 have b6:But p H (upd H5 p (netO C_Net dx W Hd R)):=b5.trans (But.at p H5 _)
 have G0:NtG C_Net (upd H5 p (netO C_Net dx W Hd R)) p dx W Hd R ls (fun i=>nv (Fl.wfA (as.take 0) (i:Int))) ((Fl.hsA (as.take 0)).map V.int) ((Fl.rmA (as.take 0)).map V.int):=by
  refine ⟨ja4,by rw [jba Wp]; exact eW5,fun i a hia=>?_,nd,by rw [jba Hdp]; exact eHd5,by rw [jba Rp]; exact eR5,WR,HdR,WHd⟩
  have ha:=List.mem_of_getElem? hia
  exact ⟨by rw [jba (jaj ep (hls2 a ha).2.2).symm]; exact (hls5 a ha).1,(hls5 a ha).2,(hls3 a ha).2,(hls2 a ha).2.1⟩
 generalize upd H5 p (netO C_Net dx W Hd R) = H6 at b6 G0
 have fls:∀ a ∈ ls,H a = none:=fun a ha=>(hls2 a ha).2.2
 clear hls2 hls3 hls4 hls5 b2 b3 b4 b5 ep2 ep3 ep4 ep5 eW2 eW3 eW4 eW5 eHd eHd4 eHd5 eR5
 subst hR
 refine jc0 (Itl K al) H6 (fun R3 hR3=>?_) (jdj (K:=K) (a:=al) (xs:=zs) (fun k σ Hc=>∃ v1 v2 v3,σ = [some (.ref p),some (.int (n:Int)),some (.ref al),v1,v2,v3]∧But p H Hc∧NtG C_Net Hc p dx W Hd R ls (fun i=>nv (Fl.wfA (as.take k) (i:Int))) ((Fl.hsA (as.take k)).map V.int) ((Fl.rmA (as.take k)).map V.int)) ⟨none,none,none,rfl,b6,G0⟩ (fun i σ Hc _ ⟨_,_,_,_,b,_⟩=>SqL.of (b _ _ alp eal)) ?_ ?_)
 ·unfold jd5
  walk_at "ND"
  exact ⟨al,rfl,⟨_,SqL.of (b6 _ _ alp eal)⟩,hR3⟩
 ·rintro k x σ Hc hx ⟨v1,v2,v3,rfl,b7,G⟩
  obtain ⟨a,hka,pa⟩:=jbn pz hx
  obtain ⟨t,rfl,et⟩:=Tp.tups pa (b7.tups ep rfl)
  have hkl:=(List.getElem?_eq_some_iff.mp hka).1
  obtain ⟨⟨h1,h2⟩,h3,h4⟩:=hok a (List.mem_of_getElem? hka)
  have i1:ls[a.1.toNat]? = some (ls[a.1.toNat]'(by omega)):=List.getElem?_eq_getElem _
  have i2:ls[a.2.1.toNat]? = some (ls[a.2.1.toNat]'(by omega)):=List.getElem?_eq_getElem _
  generalize ls[a.1.toNat]'(by omega) = w1 at i1
  generalize ls[a.2.1.toNat]'(by omega) = w2 at i2
  have c1:((a.1.toNat:Nat):Int) = a.1:=by omega
  have c2:((a.2.1.toNat:Nat):Int) = a.2.1:=by omega
  have htk:(as.take k).length = k:=by rw [List.length_take]; omega
  have hl1:((Fl.hsA (as.take k)).map V.int).length = 2 * k:=by rw [List.length_map,Fl.hsA_len,htk]
  have hl2:((Fl.rmA (as.take k)).map V.int).length = 2 * k:=by rw [List.length_map,Fl.rmA_len,htk]
  have hl3:∀ u:Int,(nv (Fl.wfA (as.take k) u)).length ≤ 2 * k:=fun u=>by
   have:=wfA_le (as.take k) u
   rw [htk] at this
   unfold nv
   rw [List.length_map]
   exact this
  simp_all_arith [et,G.o,jgw]
  refine ⟨p,dx,W,Hd,R,ls,_,_,_,a.1.toNat,w1,a.2.1,a.2.2,by rw [c1],G,i1,by have:=hl3 ((a.1.toNat:Nat):Int); omega,by omega,by omega,?_⟩
  have G1:=G.put i1 (.int (((Fl.hsA (as.take k)).map V.int).length:Int)) (.int a.2.1) (.int a.2.2)
  have b8:=jmj (wa:=w1) (Hd:=Hd) (R:=R) (a:=nv (Fl.wfA (as.take k) ((a.1.toNat:Nat):Int)) ++ [.int (((Fl.hsA (as.take k)).map V.int).length:Int)]) (b:=(Fl.hsA (as.take k)).map V.int ++ [.int a.2.1]) (c:=(Fl.rmA (as.take k)).map V.int ++ [.int a.2.2]) b7 (fls _ (List.mem_of_getElem? i1)) fHd fR
  generalize putH Hc w1 Hd R (nv (Fl.wfA (as.take k) ((a.1.toNat:Nat):Int)) ++ [.int (((Fl.hsA (as.take k)).map V.int).length:Int)]) ((Fl.hsA (as.take k)).map V.int ++ [.int a.2.1]) ((Fl.rmA (as.take k)).map V.int ++ [.int a.2.2]) = H8 at G1 b8
  simp_all_arith [G1.o,jgw]
  refine ⟨p,dx,W,Hd,R,ls,_,_,_,a.2.1.toNat,w2,a.1,0,by rw [c2],G1,i2,?_,by rw [List.length_append,hl1]; show _ + 1 ≤ _; omega,by rw [List.length_append,hl2]; show _ + 1 ≤ _; omega,?_⟩
  ·split
   ·rw [List.length_append]
    have:=hl3 ((a.1.toNat:Nat):Int)
    show _ + 1 ≤ _
    omega
   ·have:=hl3 ((a.2.1.toNat:Nat):Int); omega
  have G2:=G1.put i2 (.int ((((Fl.hsA (as.take k)).map V.int) ++ [V.int a.2.1]).length:Int)) (.int a.1) (.int 0)
  have b9:=jmj (wa:=w2) (Hd:=Hd) (R:=R) (a:=(if a.2.1.toNat = a.1.toNat then nv (Fl.wfA (as.take k) ((a.1.toNat:Nat):Int)) ++ [.int (((Fl.hsA (as.take k)).map V.int).length:Int)] else nv (Fl.wfA (as.take k) ((a.2.1.toNat:Nat):Int))) ++ [.int ((((Fl.hsA (as.take k)).map V.int) ++ [V.int a.2.1]).length:Int)]) (b:=((Fl.hsA (as.take k)).map V.int ++ [.int a.2.1]) ++ [.int a.1]) (c:=((Fl.rmA (as.take k)).map V.int ++ [.int a.2.2]) ++ [.int 0]) b8 (fls _ (List.mem_of_getElem? i2)) fHd fR
  refine ⟨_,_,_,rfl,b9,G2.congr (fun j hj=>?_) ?_ ?_⟩
  ·rw [jbp hka]
   exact jtk c1.symm c2.symm (by rw [hl1,htk]) (by rw [List.length_append,hl1,htk]; rfl)
  ·rw [jbp hka,Fl.hsA_snoc,List.map_append,List.append_assoc]; rfl
  ·rw [jbp hka,Fl.rmA_snoc,List.map_append,List.append_assoc]; rfl
 ·rintro σ Hc ⟨v1,v2,v3,rfl,b7,G⟩
  rw [hlz,List.take_length] at G
  refine h R Hc fR b7 ⟨⟨dx,W,Hd,ls,G.o,G.w,hl,fun i a hia=>⟨(G.l i a hia).1,(G.l i a hia).2.1⟩,G.h,G.n1,G.n2,Rp.symm⟩,G.r,Fl.net_of hok,Fl.rmA_len as,by omega,hn⟩
end
end My
namespace My
open PySem L2
section
variable {P:Program} {w:World} {K:PySem.W.Frag} {mg:Str→Option Value} {base:Heap} {c1 c2 c3 c4 e1 e2 e3:Tok} {C_Net C_NoWeb f_NoWeb:Addr} {dI:FuncData}
def mkI (ns:List Int):List (Key × V):=ns.map fun n=>(Sum.inl n,V.bl true)
theorem jpu:∀ (ns:List Int) (n:Int),hasK (mkI ns) n = decide (n ∈ ns)
 | [],n=>rfl
 | m :: r,n=>by
  have ih:=jpu r n
  unfold hasK valV mkI at ih ⊢
  rw [List.map_cons,List.find?_cons]
  by_cases c:m = n
  ·subst c
   simp
  ·have hd:decide ((Sum.inl m:Key) = Sum.inl n) = false:=decide_eq_false fun z=>c (Sum.inl.inj z)
   dsimp only
   rw [hd]
   rw [ih,Bool.eq_iff_iff,decide_eq_true_eq,decide_eq_true_eq,List.mem_cons]
   exact ⟨.inr,fun z=>z.resolve_left fun y=>c y.symm⟩
def jon:Sp:=fun vs H Q _=>∃ u,∃ ns:List Int,vs = [.ref u]∧H u = some (.lst (ns.map V.int))∧ns.Nodup∧ns.length ≤ 120∧∀ d H',H d = none→Same H H'→H' d = some (.dK (mkI ns))→Q (.ref d) H'
structure Cst2 (mg:Str→Option Value) (t1 t2 t3:Tok):Prop where
 SOURCE:mg "SOURCE" = some (.int 0 t1)
 SINK:mg "SINK" = some (.int 1 t2)
 FIRST:mg "FIRST" = some (.int 2 t3)
theorem jl4 {ι:Type} {src:List (Option Nat)} {wi:TI} {g:TG} {tc:TT} {te:TE} {Q:VK} {σ:St} {H:Hp} (J:ι→It) (H1:ι→Hp) (ok:ι→Prop) (h1:∀ R:It→Hp→Prop,(∀ p,ok p→R (J p) (H1 p))→wi σ H R)
  (h2:∀ p,ok p→∀ l,H1 p l = none→jr4 (J p) src g tc te Q σ (H1 p) l):jr9 src wi g tc te σ H Q:=h1 _ h2
theorem jhb {α β:Type} (f:α→β):∀ (b:Bool) (xs:List α),alt b (xs.map f) = (alt b xs).map f
 | true,[]=>rfl
 | false,[]=>rfl
 | true,x :: xs=>by show f x :: alt false (xs.map f) = f x :: (alt false xs).map f; rw [jhb f false xs]
 | false,x :: xs=>jhb f true xs
def joq (C:Addr):Sp:=fun vs H Q _=>∃ p R wf hs m n r,vs = [.ref p]∧Nt C H p R wf hs m n r∧∀ l H',H l = none→Same H H'→H' l = some (.lst ((alt false r).map V.int))→Q (.ref l) H'
def joj (C:Addr):Sp:=fun vs H Q _=>∃ p s R wf hs m n r,vs = [.ref p,.int s]∧Nt C H p R wf hs m n r∧0 ≤ s∧s < (n:Int)∧n < 64∧∀ (l:Addr) (ms:List Int) (H':Hp),H l = none→Same H H'→H' l = some (.lst (ms.map V.int))→ms.Perm ((Fl.cbOf wf hs n s r).map (·.1))→Q (.ref l) H'
def halR (S:Int→Bool) (many:Int) (ps:List (Int × Int)) (k:Nat):List (Int × Int):=(List.range k).map fun i=>((ps.getD i (0,0)).1,(if S (2 + (i:Int)) = true then 0 else 1) + (if S (2 + many + (i:Int)) = true then 1 else 0))
def jsu:Sp:=fun vs H Q _=>∃ v ps ts d kvs,vs = [v,.ref d]∧jdh H v ps ts∧WebOk ps ts∧H d = some (.dK kvs)∧∀ l zs H',H l = none→Same H H'→H' l = some (.lst zs)→Prs H' zs (halR (hasK kvs) ps.length ps ps.length)→Q (.ref l) H'
def duR (fs:List Int) (n:Nat) (ts:List (Int × Int)) (k:Nat):List (Int × Int × Int):=((List.range k).map fun j=>((ts.getD j (0,0)).1,(ts.getD j (0,0)).2,Fl.at' fs (2 * n + 2 * j) + Fl.at' fs (2 * n + 2 * j + 1))).filter fun d=>decide (d.2.2 > 0)
def jor:Sp:=fun vs H Q _=>∃ v ps ts fl fs,vs = [v,.ref fl]∧jdh H v ps ts∧WebOk ps ts∧H fl = some (.lst (fs.map V.int))∧fs.length = 2 * ps.length + 2 * ts.length∧∀ l zs H',H l = none→Same H H'→H' l = some (.lst zs)→Tps H' zs (duR fs ps.length ts ts.length)→Q (.ref l) H'
theorem jd1 {α:Type} {l:List α} {i:Nat} {a d:α} (h:l[i]? = some a):l.getD i d = a:=by rw [List.getD_eq_getElem?_getD,h]; rfl
theorem jsg {xs:List V} {k:Nat} (h1:k ≤ xs.length):cutV xs (some (k:Int)) none = xs.drop k:=by
 unfold cutV HT.sIx
 simp only [if_neg (show ¬ (k:Int) < 0 by omega)]
 rw [Nat.min_eq_left (by omega)]
 exact List.take_of_length_le (by rw [List.length_drop]; exact Nat.le_refl _)
theorem jrw {f:Addr} {fd:FuncData}  (B:Blt mg) (D:MthAt K C_Net "flows" "Net.flows" (meth 5 6) ["self"] f fd) (T:NetC K mg C_Net):FnOk P w K mg base CX0 1 f fd ["self"] (joq C_Net):=by
 have sc:FnScope ["self"] ["self"] (jbc (meth 5 6)):=⟨rfl,rfl,rfl,by decide +kernel,rfl,by decide +kernel,by decide +kernel⟩
 refine D.F.ok sc (fun vs H Q E h=>?_) (fun cdv A outer s H vs Q E hr h=>?_)
 ·obtain ⟨p,R,wf,hs,m,n,r,rfl,_⟩:=h
  rfl
 obtain ⟨p,R,wf,hs,m,n,r,rfl,N,h⟩:=h
 have hu:=jc8 hr
 have hu0:_ < PySem.cLine:=Nat.lt_of_succ_lt hu
 refine ⟨_,(jb8 (jbq (jpe (b:=false) rfl (jd6 T.cl T.n_rooms (qv 0) rfl)))),?_⟩
 obtain ⟨⟨dx,W,Hd,ls,e1,e2,e3,e4,e5,n1,n2,n3⟩,eR,net,hlen,hbig,hn⟩:=N
 simp_all_arith [e1,jnu,eR]
 intro l hl
 rw [jhb]
 exact h l _ hl (jai hl _) ja4
theorem jgo {f:Addr} {fd:FuncData} {f_spread:Addr} {d_spread:FuncData} (B:Blt mg) (D:MthAt K C_Net "reached_from" "Net.reached_from" (meth 5 7) ["self","source"] f fd) (D_spread:MthAt K C_Net "spread" "Net.spread" (meth 5 4) ["self","source"] f_spread d_spread) (G_spread:FnOk P w K mg base CX0 1 f_spread d_spread ["self","source"] (jic C_Net)) (T:NetC K mg C_Net):FnOk P w K mg base CX0 2 f fd ["self","source"] (joj C_Net):=by
 have sc:FnScope ["self","source"] ["self","source"] (jbc (meth 5 7)):=⟨rfl,rfl,rfl,by decide +kernel,rfl,by decide +kernel,by decide +kernel⟩
 refine D.F.ok sc (fun vs H Q E h=>?_) (fun cdv A outer s H vs Q E hr h=>?_)
 ·obtain ⟨p,s,R,wf,hs,m,n,r,rfl,_⟩:=h
  rfl
 obtain ⟨p,s,R,wf,hs,m,n,r,rfl,N,s0,s1,h64,h⟩:=h
 have hu:=jc8 hr
 have hu0:_ < PySem.cLine:=Nat.lt_of_succ_lt hu
 refine ⟨_,(jb8 (jbq (jbf (jo0 rfl) rfl B.sorted PyProof.Rows.boot_sorted (ja0 (jd9 (qv 0) T.cl D_spread.m G_spread (hr.mono (by decide)) D_spread.b .nil jbu (ja0 (qv 1) jag)) jag)))),?_⟩
 have N0:=N
 obtain ⟨⟨dx,W,Hd,ls,e1,e2,e3,e4,e5,n1,n2,n3⟩,eR,net,hlen,hbig,hn⟩:=N
 simp_all_arith [e1,jhv]
 refine ⟨p,s,R,wf,hs,m,n,r,rfl,N0,s0,s1,fun d H1 hd q1 ed=>?_⟩
 have hcl:=Fl.cb_len (r:=r) net ⟨s0,s1⟩ n
 refine ⟨d,_,(Fl.cbOf wf hs n s r).map (·.1),rfl,ed,?_,by rw [List.length_map]; exact Nat.lt_of_le_of_lt hcl h64,fun l ms hl pm _=>?_⟩
 ·unfold cbK
  rw [List.map_map,List.map_map]
  rfl
 ·exact h l ms _ (q1.free hl) (q1.trans (jai hl _)) ja4 pm
theorem jnn {f:Addr} {fd:FuncData}  (B:Blt mg) (D:DefAt K mg "marked" (top 11) ["places"] f fd):FnOk P w K mg base CX0 1 f fd ["places"] jon:=by
 have sc:FnScope ["places"] ["places"] (jbc (top 11)):=⟨rfl,rfl,rfl,by decide +kernel,rfl,by decide +kernel,by decide +kernel⟩
 refine D.F.ok sc (fun vs H Q E h=>?_) (fun cdv A outer s H vs Q E hr h=>?_)
 ·obtain ⟨u,ns,rfl,_⟩:=h
  rfl
 obtain ⟨u,ns,rfl,eu,nd,hl,h⟩:=h
 have hu:=jc8 hr
 have hu0:_ < PySem.cLine:=Nat.lt_of_succ_lt hu
 refine ⟨_,(jb8 (jbq (jcw (jgk rfl) rfl B.dict PyProof.Rows.boot_dict (ja0 (jc6 (CpScope.of (N:=["place"]) (src:=[none]) (by rfl)) rfl (jbx (qv 0)) (fun _ _ _ _=>(jbb (i:=0) (jbd (l:=["place"]) (by rfl)) rfl (Or.inl rfl))) (fun _ _ _ _=>jc1) (fun _ _ _ _=>(jch (ja0 (qv 0) (ja0 jef jag))))) jag)))),?_⟩
 walk_at "ND"
 refine jbj (Itl K u) H (fun R hR=>?_) (fun l hl0=>jbs ns.length (fun i σ' Hc=>∃ w1 zs,σ' = [w1]∧Same H Hc∧Hc l = some (.lst zs)∧Paired (PairAt Hc) zs (mkI (ns.take i))) ⟨none,[],rfl,jai hl0 _,ja4,.nil⟩ ?_ ?_)
 ·unfold jd5
  walk_at "ND"
  exact ⟨u,rfl,⟨_,SqL.of eu⟩,hR⟩
 ·rintro i σ' Hc hi ⟨w1,zs,rfl,s2,ez,pz⟩
  have x1:ns[i]? = some ns[i]:=List.getElem?_eq_getElem hi
  have X1:(ns.map V.int)[i]? = some (.int ns[i]):=by rw [List.getElem?_map,x1]; rfl
  have hlz:zs.length = (mkI (ns.take i)).length:=Paired.length pz
  have hlz2:zs.length ≤ i:=by
   rw [hlz,mkI,List.length_map,List.length_take]
   omega
  refine ⟨⟨_,_,SqL.of (s2 _ _ eu),X1⟩,?_⟩
  rintro y H' ⟨rfl,hy⟩
  have E1:V.int ns[i] = y:=Option.some.inj (X1.symm.trans (hy _ (SqL.of (s2 _ _ eu))))
  subst E1
  walk_at "ND"
  intro t ht
  have ez2:=jai ht (.tup [.int ns[i],.bl true]) _ _ ez
  have t6:=jca (ys:=zs ++ [.ref t]) ez2
  refine ⟨zs,ez2,szl' (by omega),_,zs ++ [.ref t],rfl,jbk (s2.trans (jai ht _)) hl0,(by first | rfl | exact ja4),?_⟩
  rw [jbp x1,mkI,List.map_append]
  refine jbt (Paired.mapP pz fun v p q=>?_) ?_
  ·obtain ⟨b,e,q⟩:=q
   exact ⟨b,e,t6 _ _ rfl (jai ht _ _ _ q)⟩
  ·exact ⟨t,rfl,t6 _ _ rfl ja4⟩
 ·rintro σ' Hc ⟨w1,zs,rfl,s2,ez,pz⟩
  refine ⟨⟨_,SqL.of (s2 _ _ eu),by rw [List.length_map]; exact Nat.le_refl _⟩,?_⟩
  rw [List.take_length] at pz
  have hlz:zs.length = (mkI ns).length:=Paired.length pz
  rw [mkI,List.length_map] at hlz
  simp_all_arith [ez]
  refine ⟨mkI ns,pz,by omega,?_,fun d hd=>h d _ (s2.free hd) (s2.trans (jai hd _)) ja4⟩
  unfold mkI
  rw [List.map_map]
  have e:((fun (x:Key × V)=>x.1) ∘ fun (n:Int)=>((Sum.inl n:Key),V.bl true)) = fun (n:Int)=>(Sum.inl n:Key):=rfl
  rw [e]
  unfold List.Nodup at nd ⊢
  rw [List.pairwise_map]
  exact nd.imp fun q z=>q (Sum.inl.inj z)
theorem jfe {f:Addr} {fd:FuncData}  (B:Blt mg) (D:DefAt K mg "halves_reached" (top 35) ["web","reached"] f fd) (C2:Cst2 mg e1 e2 e3):FnOk P w K mg base CX0 1 f fd ["web","reached"] jsu:=by
 have sc:FnScope ["web","reached","many","halves","at","pair","left","right"] ["web","reached"] (jbc (top 35)):=⟨rfl,rfl,rfl,by decide +kernel,rfl,by decide +kernel,by decide +kernel⟩
 refine D.F.ok sc (fun vs H Q E h=>?_) (fun cdv A outer s H vs Q E hr h=>?_)
 ·obtain ⟨v,ps,ts,d,kvs,rfl,_⟩:=h
  rfl
 obtain ⟨v,ps,ts,d,kvs,rfl,hw,wk,ed,h⟩:=h
 obtain ⟨u,pa,ta,xs,ys,rfl,hu1,hpa,hta,hxs,hys⟩:=hw
 have hxl:=Paired.length hxs
 have hu:=jc8 hr
 have hu0:_ < PySem.cLine:=Nat.lt_of_succ_lt hu
 refine ⟨_,(jaf (jbi (i:=2) sc.nd rfl (Or.inl rfl) (jbf jdv rfl B.len PySem.boot_len (ja0 (jbh q_ix (qv 0) jah (fun _ _=>rfl)) jag))) (jaf (jbi (i:=3) sc.nd rfl (Or.inl rfl) (jd4 jag)) (jaf (jcv PassesOwn.never rfl (jio rfl B.enumerate (ja0 (jbh q_ix (qv 0) jah (fun _ _=>rfl)) jag)) (jcl (n:=2) rfl (jbg (jbb (i:=4) sc.nd rfl (Or.inl rfl)) (jbg (jbb (i:=5) sc.nd rfl (Or.inl rfl)) jc9))) (jaf (jbi (i:=6) sc.nd rfl (Or.inl rfl) (jmn (jtr (jrk hu (jbv jcz (jd0 (v:=.int 2) rfl C2.FIRST ⟨_,rfl⟩) (qv 4)) (qv 1))) jah jah)) (jaf (jbi (i:=7) sc.nd rfl (Or.inl rfl) (jmn (jtr (jrk hu (jbv jcz (jbv jcz (jd0 (v:=.int 2) rfl C2.FIRST ⟨_,rfl⟩) (qv 2)) (qv 4)) (qv 1))) jah jah)) (jb8 (jcb (q_bm PySem.F.plainAttrs_list PySem.F.slot_list_append PySem.F.type_list_append jcu (qv 3) (ja0 (jch (ja0 (jbh q_ix (qv 5) jah (fun _ _=>rfl)) (ja0 (jbv jcz (qv 6) (qv 7)) jag))) jag))))))) (jb8 (jbq (qv 3)))))),?_⟩
 have hpl:=wk.pl
 refine jb9 fun R' hR=>?_
 simp_all_arith [jbl,hu1,at0,hpa]
 subst hR
 refine jb9 fun R' hR=>?_
 walk_at "ND"
 intro l hl
 have q1:=jai hl (.lst [])
 have el:upd H l (.lst []) l = some (.lst []):=ja4
 generalize upd H l (.lst []) = H1 at q1 el
 subst hR
 refine jb9 fun R' hR=>?_
 refine jc0 (Ite K pa) H1 (fun R3 hR3=>?_) (jj8 (K:=K) (a:=pa) (xs:=xs) (fun i σ Hc=>∃ v4 v5 v6 v7 zs,σ = [some (.ref u),some (.ref d),some (.int (xs.length:Int)),some (.ref l),v4,v5,v6,v7]∧Same H Hc∧Hc l = some (.lst zs)∧Prs Hc zs (halR (hasK kvs) ps.length ps i)) ⟨none,none,none,none,[],rfl,q1,el,.nil⟩ (fun i σ Hc _ ⟨_,_,_,_,_,_,s1,_⟩=>SqL.of (s1 _ _ hpa)) ?_ ?_)
 ·unfold juo
  simp_all_arith [jbl,q1 _ _ hu1,at0]
  exact ⟨pa,rfl,⟨_,SqL.of (q1 _ _ hpa)⟩,hR3⟩
 ·rintro i x σ Hc t hx ⟨v4,v5,v6,v7,zs,rfl,s2,el2,pz⟩ ht
  obtain ⟨p,hp,px⟩:=jbn hxs hx
  have hil:=(List.getElem?_eq_some_iff.mp hp).1
  have q3:=jai ht (.tup [.int i,x])
  have s3:=s2.trans q3
  have et:upd Hc t (.tup [.int i,x]) t = some (.tup [.int i,x]):=ja4
  have el3:=q3 _ _ el2
  have pz3:=Prs.same q3 pz
  obtain ⟨b,rfl,eb⟩:=px.same s3
  generalize upd Hc t (.tup [.int i,.ref b]) = H3 at q3 s3 et el3 pz3 eb
  have ed3:=s3 _ _ ed
  have hzl:=Paired.length pz
  have hhl:(halR (hasK kvs) ps.length ps i).length = i:=by unfold halR; rw [List.length_map,List.length_range]
  have key:∀ n:Int,(valV kvs (Sum.inl n:Key)).isSome = hasK kvs n:=fun n=>rfl
  have fin:∀ (a c:Int),a = (if hasK kvs (2 + (i:Int)) = true then 0 else 1)→c = (if hasK kvs (2 + (xs.length:Int) + (i:Int)) = true then 1 else 0)→∀ t2,H3 t2 = none→∃ v4 v5 v6 v7 zs',[some (V.ref u),some (.ref d),some (.int (xs.length:Int)),some (.ref l),some (.int i),some (.ref b),some (.int a),some (.int c)] = [some (V.ref u),some (.ref d),some (.int (xs.length:Int)),some (.ref l),v4,v5,v6,v7]∧Same H (upd (upd H3 t2 (.tup [.int p.1,.int (a + c)])) l (.lst (zs ++ [.ref t2])))∧upd (upd H3 t2 (.tup [.int p.1,.int (a + c)])) l (.lst (zs ++ [.ref t2])) l = some (.lst zs')∧Prs (upd (upd H3 t2 (.tup [.int p.1,.int (a + c)])) l (.lst (zs ++ [.ref t2]))) zs' (halR (hasK kvs) ps.length ps (i + 1)):=fun a c ha hc t2 ht2=>by
   have q4:=jai ht2 (.tup [.int p.1,.int (a + c)])
   have t6:=jca (ys:=zs ++ [.ref t2]) (q4 _ _ el3)
   refine ⟨_,_,_,_,zs ++ [.ref t2],rfl,jbk (s3.trans q4) hl,ja4,?_⟩
   have eh:halR (hasK kvs) ps.length ps (i + 1) = halR (hasK kvs) ps.length ps i ++ [(p.1,a + c)]:=by
    unfold halR
    rw [List.range_succ,List.map_append,List.map_singleton,jd1 hp,ha,hc,hxl]
   rw [eh]
   exact jbt (Prs.tups t6 (Prs.same q4 pz3)) ⟨t2,rfl,t6 _ _ rfl ja4⟩
  simp_all_arith [et,ed3,key]
  cases c1:hasK kvs (2 + (i:Int)) <;> cases c3:hasK kvs (2 + (xs.length:Int) + (i:Int))
  all_goals
   simp_all_arith [jbl,eb,at0,c3,ed3,key]
   refine ⟨⟨l,zs,rfl,el3⟩,fun t2 ht2=>?_⟩
   have e9:=fun o=>jai ht2 o _ _ el3
   simp only [e9]
   exact ⟨szl' (by omega),fin _ _ (by rw [c1]; rfl) (by rw [c3]; rfl) t2 ht2⟩
 ·rintro σ Hc ⟨v4,v5,v6,v7,zs,rfl,s2,el2,pz⟩
  subst hR
  walk_at "ND"
  rw [hxl] at pz
  exact h l zs Hc hl s2 el2 pz
theorem jgt {f:Addr} {fd:FuncData}  (B:Blt mg) (D:DefAt K mg "dues_flowing" (top 34) ["web","flows"] f fd):FnOk P w K mg base CX0 1 f fd ["web","flows"] jor:=by
 have sc:FnScope ["web","flows","across","amounts"] ["web","flows"] (jbc (top 34)):=⟨rfl,rfl,rfl,by decide +kernel,rfl,by decide +kernel,by decide +kernel⟩
 refine D.F.ok sc (fun vs H Q E h=>?_) (fun cdv A outer s H vs Q E hr h=>?_)
 ·obtain ⟨v,ps,ts,fl,fs,rfl,_⟩:=h
  rfl
 obtain ⟨v,ps,ts,fl,fs,rfl,hw,wk,ef,hfl,h⟩:=h
 obtain ⟨u,pa,ta,xs,ys,rfl,hu1,hpa,hta,hxs,hys⟩:=hw
 have hxl:=Paired.length hxs
 have hyl:=Paired.length hys
 have hu:=jc8 hr
 have hu0:_ < PySem.cLine:=Nat.lt_of_succ_lt hu
 refine ⟨_,(jaf (jbi (i:=2) sc.nd rfl (Or.inl rfl) (jeu q_slL (qv 1) (jgh (jbv jgj jah (jbf jdv rfl B.len PySem.boot_len (ja0 (jbh q_ix (qv 0) jah (fun _ _=>rfl)) jag)))) jgm)) (jaf (jfc (i:=3) sc.nd rfl (Or.inl rfl) (CpScope.of (N:=["there","back"]) (src:=[none,none]) (by rfl)) rfl (jla rfl B.zip (ja0 (jpe (b:=true) rfl (qv 2)) (ja0 (jpe (b:=false) rfl (qv 2)) jag))) (fun _ _ _ _=>(jcl (n:=2) rfl (jbg (jbb (i:=0) (jbd (l:=["there","back"]) (by rfl)) rfl (Or.inl rfl)) (jbg (jbb (i:=1) (jbd (l:=["there","back"]) (by rfl)) rfl (Or.inl rfl)) jc9)))) (fun _ _ _ _=>jc1) (fun _ _ _ _=>(jbv jcz (qv 0) (qv 1)))) (jb8 (jbq (jc6 (CpScope.of (N:=["tie","amount"]) (src:=[none,none]) (by rfl)) rfl (jla rfl B.zip (ja0 (jbh q_ix (qv 0) jah (fun _ _=>rfl)) (ja0 (qv 3) jag))) (fun _ _ _ _=>(jcl (n:=2) rfl (jbg (jbb (i:=0) (jbd (l:=["tie","amount"]) (by rfl)) rfl (Or.inl rfl)) (jbg (jbb (i:=1) (jbd (l:=["tie","amount"]) (by rfl)) rfl (Or.inl rfl)) jc9)))) (fun _ _ _ _=>(jim (jck q_gt (qv 1) jah (jc5 _)))) (fun _ _ _ _=>(jch (ja0 (jbh q_ix (qv 0) jah (fun _ _=>rfl)) (ja0 (jbh q_ix (qv 0) jah (fun _ _=>rfl)) (ja0 (qv 1) jag)))))))))),?_⟩
 have hpl:=wk.pl
 have htl:=wk.tl
 refine jb9 fun R' hR=>?_
 simp_all_arith [jbl,hu1,at0,hpa,ef]
 refine ⟨cmL (by decide) (by decide),?_⟩
 intro ac hac
 rw [show (2:Int) * (xs.length:Int) = ((2 * ps.length:Nat):Int) by omega,jsg (by rw [List.length_map]; omega),← List.map_drop]
 have q1:=jai hac (.lst ((fs.drop (2 * ps.length)).map V.int))
 have ea:upd H ac (.lst ((fs.drop (2 * ps.length)).map V.int)) ac = some (.lst ((fs.drop (2 * ps.length)).map V.int)):=ja4
 generalize upd H ac (.lst ((fs.drop (2 * ps.length)).map V.int)) = H1 at q1 ea
 have hgl:(fs.drop (2 * ps.length)).length = 2 * ts.length:=by rw [List.length_drop]; omega
 have hgat:∀ k,Fl.at' (fs.drop (2 * ps.length)) k = Fl.at' fs (2 * ps.length + k):=fun k=>by unfold Fl.at'; rw [List.getD_eq_getElem?_getD,List.getD_eq_getElem?_getD,List.getElem?_drop]
 generalize fs.drop (2 * ps.length) = gs at *
 have la:∀ b,(alt b gs).length = ts.length:=fun b=>by
  have hb1:(if b = true then 0 else 1:Nat) ≤ 1:=by split <;> decide
  have h1:=jhc b gs
  have hlt:∀ j,j < ts.length→j < (alt b gs).length:=fun j hj=>by
   have:=h1 j
   rw [List.getElem?_eq_getElem (show 2 * j + (if b = true then 0 else 1) < gs.length by omega)] at this
   exact (List.getElem?_eq_some_iff.mp this).1
  have hge:¬ ts.length < (alt b gs).length:=fun z=>by
   have:=h1 ts.length
   rw [List.getElem?_eq_getElem z,List.getElem?_eq_none (show gs.length ≤ 2 * ts.length + (if b = true then 0 else 1) by omega)] at this
   cases this
  by_cases c:ts.length = 0
  ·omega
  ·have:=hlt (ts.length - 1) (by omega)
   omega
 subst hR
 refine jb9 fun R' hR=>?_
 walk_at "ND"
 refine jl4 (ι:=Addr × Addr × Hp) (fun y=>Itz true K y.1 y.2.1) (fun y=>y.2.2) (fun y=>Same H1 y.2.2∧y.2.2 y.1 = some (.lst ((alt true gs).map V.int))∧y.2.2 y.2.1 = some (.lst ((alt false gs).map V.int))) (fun R2 hR2=>?_) ?_
 ·unfold js6
  simp_all_arith [ea]
  intro b1 hb1
  rw [jhb]
  have s1:=jai hb1 (.lst ((alt true gs).map V.int))
  have eb1:upd H1 b1 (.lst ((alt true gs).map V.int)) b1 = some (.lst ((alt true gs).map V.int)):=ja4
  generalize upd H1 b1 (.lst ((alt true gs).map V.int)) = H2 at s1 eb1
  simp_all_arith [s1 _ _ ea]
  intro b2 hb2
  rw [jhb]
  have s2:=s1.trans (jai hb2 (.lst ((alt false gs).map V.int)))
  have eb2:upd H2 b2 (.lst ((alt false gs).map V.int)) b2 = some (.lst ((alt false gs).map V.int)):=ja4
  have eb1':=jai hb2 (.lst ((alt false gs).map V.int)) _ _ eb1
  generalize upd H2 b2 (.lst ((alt false gs).map V.int)) = H3 at s2 eb2 eb1'
  exact ⟨true,b1,b2,rfl,⟨_,SqL.of eb1'⟩,⟨_,SqL.of eb2⟩,hR2 (b1,b2,H3) ⟨s2,eb1',eb2⟩⟩
 rintro ⟨b1,b2,H3⟩ ⟨s3,eb1,eb2⟩ am ham
 refine jbs ts.length (fun i σ' Hc=>∃ w1 w2,σ' = [w1,w2]∧Same H3 Hc∧Hc am = some (.lst (((List.range i).map fun j=>Fl.at' gs (2 * j) + Fl.at' gs (2 * j + 1)).map V.int))) ⟨none,none,rfl,jai ham _,ja4⟩ ?_ ?_
 ·rintro i σ' Hc hi ⟨w1,w2,rfl,s4,em⟩
  have z1:SqB true K Hc b1 ((alt true gs).map V.int):=SqL.of (s4 _ _ eb1)
  have z2:SqB true K Hc b2 ((alt false gs).map V.int):=SqL.of (s4 _ _ eb2)
  have at1':∀ b,(alt b gs)[i]? = some (Fl.at' gs (2 * i + (if b then 0 else 1))):=fun b=>by
   rw [jhc,List.getElem?_eq_getElem (by cases b <;> simp <;> omega)]
   unfold Fl.at'
   rw [List.getD_eq_getElem?_getD,List.getElem?_eq_getElem (by cases b <;> simp <;> omega)]
   rfl
  have x1:((alt true gs).map V.int)[i]? = some (.int (Fl.at' gs (2 * i))):=by rw [List.getElem?_map,at1' true]; rfl
  have x2:((alt false gs).map V.int)[i]? = some (.int (Fl.at' gs (2 * i + 1))):=by rw [List.getElem?_map,at1' false]; rfl
  refine ⟨⟨_,_,_,_,z1,z2,x1,x2⟩,?_⟩
  rintro x H' ⟨t,y1,y2,ht,rfl,rfl,g1,g2⟩
  have E1:=Option.some.inj (x1.symm.trans (g1 _ z1))
  have E2:=Option.some.inj (x2.symm.trans (g2 _ z2))
  subst E1 E2
  have q5:=jai ht (.tup [.int (Fl.at' gs (2 * i)),.int (Fl.at' gs (2 * i + 1))])
  simp_all_arith [ja4]
  refine ⟨_,q5 _ _ em,?_,_,_,rfl,jbk (s4.trans q5) ham,?_⟩
  ·rw [List.length_map,List.length_map,List.length_range]
   exact szl' (by omega)
  ·try rw [ja4]
   rw [List.range_succ,List.map_append,List.map_append]
   rfl
 rintro σ' H4 ⟨w1,w2,rfl,s4,em⟩
 refine ⟨⟨_,_,SqL.of (s4 _ _ eb1),SqL.of (s4 _ _ eb2),.inl (by rw [List.length_map,la]; exact Nat.le_refl _)⟩,?_⟩
 have s5:=(q1.trans s3).trans s4
 walk_at "ND"
 subst hR
 walk_at "ND"
 refine jbj (Itz true K ta am) H4 (fun R2 hR2=>?_) (fun l hl0=>jbs ts.length (fun i σ' Hc=>∃ w1 w2 zs,σ' = [w1,w2]∧Same H4 Hc∧Hc l = some (.lst zs)∧Tps Hc zs (duR fs ps.length ts i)) ⟨none,none,[],rfl,jai hl0 _,ja4,.nil⟩ ?_ ?_)
 ·unfold js6
  simp_all_arith [jbl,s5 _ _ hu1,at1]
  exact ⟨true,ta,am,rfl,⟨_,SqL.of (s5 _ _ hta)⟩,⟨_,SqL.of em⟩,hR2⟩
 ·rintro i σ' Hc hi ⟨w1,w2,zs,rfl,s6,el,pz⟩
  have s7:=s5.trans s6
  have z1:SqB true K Hc ta ys:=SqL.of (s7 _ _ hta)
  have z2:SqB true K Hc am (((List.range ts.length).map fun j=>Fl.at' gs (2 * j) + Fl.at' gs (2 * j + 1)).map V.int):=SqL.of (s6 _ _ em)
  have x1:ys[i]? = some (ys[i]'(by omega)):=List.getElem?_eq_getElem _
  have x2:(((List.range ts.length).map fun j=>Fl.at' gs (2 * j) + Fl.at' gs (2 * j + 1)).map V.int)[i]? = some (.int (Fl.at' gs (2 * i) + Fl.at' gs (2 * i + 1))):=by
   rw [List.getElem?_map,List.getElem?_map,List.getElem?_range hi]; rfl
  refine ⟨⟨_,_,_,_,z1,z2,x1,x2⟩,?_⟩
  rintro x H' ⟨t,y1,y2,ht,rfl,rfl,g1,g2⟩
  have E2:=Option.some.inj (x2.symm.trans (g2 _ z2))
  subst E2
  obtain ⟨tt,htt,pt⟩:=jbn hys (g1 _ z1)
  have q8:=jai ht (.tup [y1,.int (Fl.at' gs (2 * i) + Fl.at' gs (2 * i + 1))])
  have s8:=s7.trans q8
  obtain ⟨tb,rfl,etb⟩:=pt.same s8
  have et:upd Hc t (.tup [.ref tb,.int (Fl.at' gs (2 * i) + Fl.at' gs (2 * i + 1))]) t = some (.tup [.ref tb,.int (Fl.at' gs (2 * i) + Fl.at' gs (2 * i + 1))]):=ja4
  have el8:=q8 _ _ el
  have pz8:=jbw q8.tups pz
  have s68:=s6.trans q8
  generalize upd Hc t (.tup [.ref tb,.int (Fl.at' gs (2 * i) + Fl.at' gs (2 * i + 1))]) = H8 at q8 s8 etb et el8 pz8 s68
  have hdu:duR fs ps.length ts (i + 1) = duR fs ps.length ts i ++ (if Fl.at' gs (2 * i) + Fl.at' gs (2 * i + 1) > 0 then [(tt.1,tt.2,Fl.at' gs (2 * i) + Fl.at' gs (2 * i + 1))] else []):=by
   unfold duR
   rw [List.range_succ,List.map_append,List.filter_append,List.map_singleton,jd1 htt,hgat,hgat,Nat.add_assoc]
   congr 1
   rw [List.filter_cons]
   by_cases c:Fl.at' fs (2 * ps.length + 2 * i) + Fl.at' fs (2 * ps.length + (2 * i + 1)) > 0
   ·rw [if_pos c,if_pos (decide_eq_true c)]; rfl
   ·rw [if_neg c,if_neg (by simpa using c)]; rfl
  have hzl:=Paired.length pz
  have hzl2:zs.length ≤ i:=by
   rw [hzl]
   unfold duR
   refine Nat.le_trans (List.length_filter_le _ _) ?_
   rw [List.length_map,List.length_range]
   exact Nat.le_refl _
  simp_all_arith [et]
  refine ite2 (fun c=>?_) (fun c=>?_)
  ·rw [if_pos (of_decide_eq_true c)] at hdu
   simp_all_arith [jbl,etb,at0,at1]
   intro t2 ht2
   have q9:=jai ht2 (.tup [.int tt.1,.int tt.2,.int (Fl.at' gs (2 * i) + Fl.at' gs (2 * i + 1))])
   have el9:=q9 _ _ el8
   have t9:=jca (ys:=zs ++ [.ref t2]) el9
   refine ⟨zs,el9,szl' (by omega),_,_,zs ++ [.ref t2],rfl,jbk (s68.trans q9) hl0,(by first | rfl | exact ja4),?_⟩
   rw [hdu]
   exact jbt (jbw t9 (jbw q9.tups pz8)) ⟨t2,rfl,t9 _ _ rfl ja4⟩
  ·rw [if_neg (fun z=>c (decide_eq_true z)),List.append_nil] at hdu
   rw [hdu]
   exact ⟨_,_,zs,rfl,s68,el8,pz8⟩
 ·rintro σ' Hc ⟨w1,w2,zs,rfl,s6,el,pz⟩
  refine ⟨⟨_,_,SqL.of ((s5.trans s6) _ _ hta),SqL.of (s6 _ _ em),.inl (by omega)⟩,?_⟩
  exact h l zs Hc (s5.free hl0) (s5.trans s6) el pz
end
end My
namespace L2
open PySem PySem.Spec PyProof.Rows
section
variable {X:Cx}
theorem joy:seqSlot? (.type "list") (dunderI "add") = pure (some (.builtin "list.__iadd__"))  :=PySem.seqSlot_of F.slot_list_iadd.lookup (by decide +kernel)
theorem jnv:fillsInplaceSlot (.type "list") "add" (Operator.Add == .Add) = pure false:=by
 unfold fillsInplaceSlot
 show (typeLookup (.type "list") (dunderI "add") >>= fun fi=>pure (fi.isSome && !isSeqSlot fi)) = pure false
 rw [F.slot_list_iadd.lookup]
 have:isSeqSlot (some (Value.builtin "list.__iadd__")) = true:=by decide +kernel
 show (pure (true && !isSeqSlot (some (Value.builtin "list.__iadd__"))):Sem Bool) = pure false
 rw [this]
 rfl
def jcf:TIp:=fun x y H Q=>match x,y with
 | .ref l,.ref b=>match H l,H b with
  | some (.lst xs),some (.lst zs)=>xs.length + zs.length ≤ sizeLine∧Q (.ref l) (upd H l (.lst (xs ++ zs)))
  | _,_=>False
 | _,_=>False
theorem juk:PIp X .Add jcf:=by
 intro pins s σ H x y v u Q I rx ry h
 unfold jcf at h
 split at h
 ·rename_i l b
  split at h
  ·rename_i xs zs hH hB
   obtain ⟨hz,q⟩:=h
   cases rx
   cases ry
   obtain ⟨z,its,n,r,hl,e⟩:=I.lstM hH
   obtain ⟨z2,its2,n2,r2,hl2,e2⟩:=I.lstM hB
   have hsz:its.toArray.size + its2.toArray.size ≤ sizeLine:=by rw [List.size_toArray,List.size_toArray]; omega
   have hlong:¬ (!its.toArray.isEmpty && Builtin.List.listTooLong (its.toArray.size + its2.toArray.size)) = true:=by
    rw [jmp hsz,Bool.and_false]
    exact Bool.false_ne_true
   have ha:s.TypeIs (.ref l) "list":=⟨_,e,rfl⟩
   have hb:s.TypeIs (.ref b) "list":=⟨_,e2,rfl⟩
   unfold inplaceOp
   refine wpAny_holding ?_
   refine wpAny_bind (wpAny_typeOf ha (wpAny_bind (wpAny_of_eq jnv ?_)))
   show wpAny _ _ (if false = true then _ else _) _ _ s
   rw [if_neg Bool.false_ne_true]
   refine wpAny_bind (wpAny_binaryOp1_none (nm:="add") ha hb noFill_list_add ?_)
   refine wpAny_bind (wpAny_of_eq joy ?_)
   refine wpAny_bind (wpAny_rule ?_)
   refine call_meets F.slot_list_iadd ha F.entry_list_iadd (F.args_list_iadd_2 _ _)
    (AutoSeq1.list___iadd___list_list_0 l its.toArray n b its2.toArray n2 hlong (by rw [List.size_toArray]; omega) (by omega)) ⟨e,e2,?_⟩
   refine ⟨.ref l,_,I.lset (its':=its ++ its2) hH e (by simp) (r.append r2) ?_,rfl,q⟩
   rw [List.length_append]
   omega
  ·exact h.elim
 ·exact h.elim
end
end L2
namespace My
open PySem L2
section
variable {P:Program} {w:World} {K:PySem.W.Frag} {mg:Str→Option Value} {base:Heap} {c1 c2 c3 c4 e1 e2 e3:Tok} {C_Net C_NoWeb f_NoWeb:Addr} {dI:FuncData}
def spL (ps:List (Int × Int)) (k:Nat):List (Int × Int):=(List.range k).map fun i=>((ps.getD i (0,0)).1,2 + (i:Int))
theorem jl6 (ps:List (Int × Int)):∀ k,k ≤ ps.length→(spL ps k).map (·.1) = (ps.take k).map (·.1)
 | 0,_=>by simp [spL]
 | k + 1,h=>by
  have hk:ps[k]? = some ps[k]:=List.getElem?_eq_getElem (by omega)
  have ih:=jl6 ps k (by omega)
  unfold spL at ih ⊢
  rw [List.range_succ,List.map_append,List.map_append,ih,jbp hk,List.map_append,List.map_singleton,List.map_singleton,List.map_singleton,jd1 hk]
def spF (ps:List (Int × Int)) (n:Int):Int:=hOf (spL ps ps.length) n
def plW (ps:List (Int × Int)):Int:=1 + (ps.map (·.2)).sum
def jcg (ps ts:List (Int × Int)):List Fl.Arc:=Fl.arcsD (spF ps) (plW ps) ps ts
theorem joo {ps ts:List (Int × Int)} (wk:WebOk ps ts):((spL ps ps.length).map (·.1)).Nodup:=by
 rw [jl6 ps ps.length (Nat.le_refl _),List.take_length]
 exact wk.p.nodup
theorem jgg {ps ts:List (Int × Int)} (wk:WebOk ps ts) {n:Int} (h:n ∈ ps.map (·.1)):valV (jce (spL ps ps.length)) (Sum.inl n:Key) = some (.int (spF ps n)):=by
 refine jek (joo wk) ?_
 rw [jl6 ps ps.length (Nat.le_refl _),List.take_length]
 exact h
theorem jmc {ps ts:List (Int × Int)} (wk:WebOk ps ts) {i:Nat} {p:Int} (h:(ps.map (·.1))[i]? = some p):spF ps p = 2 + (i:Int):=by
 have hi:=(List.getElem?_eq_some_iff.mp h).1
 rw [List.length_map] at hi
 have hm:(p,2 + (i:Int)) ∈ spL ps ps.length:=by
  unfold spL
  refine List.mem_map.mpr ⟨i,List.mem_range.mpr hi,?_⟩
  rw [List.getElem?_map,List.getElem?_eq_getElem hi] at h
  have h2:ps[i].1 = p:=Option.some.inj h
  rw [jd1 (List.getElem?_eq_getElem hi),h2]
 have e:=jee (joo wk) hm
 rw [jgg wk (List.mem_of_getElem? h)] at e
 exact V.int.inj (Option.some.inj e)
theorem spF_bd {ps ts:List (Int × Int)} (wk:WebOk ps ts) {p:Int} (h:p ∈ ps.map (·.1)):2 ≤ spF ps p∧spF ps p < 2 + (ps.length:Int):=by
 obtain ⟨i,hi,e⟩:=List.mem_iff_getElem.mp h
 rw [jmc wk (i:=i) (by rw [List.getElem?_eq_getElem hi,e])]
 rw [List.length_map] at hi
 omega
theorem jfj {ps ts:List (Int × Int)} (wk:WebOk ps ts):∀ t ∈ ts,t.1 ∈ ps.map (·.1)∧t.2 ∈ ps.map (·.1):=fun t ht=>by
 obtain ⟨_,a,b⟩:=wk.t.in t ht
 exact ⟨jfh a,jfh b⟩
theorem PlOk.pos:∀ {ps:List (Int × Int)} {l s:Int},PlOk l s ps→∀ p ∈ ps,1 ≤ p.2
 | [],_,_,_,p,h=>by cases h
 | q :: r,l,s,h,p,hp=>by
  rcases List.mem_cons.mp hp with e | hp
  ·rw [e]; exact h.1.2.2.1
  ·exact PlOk.pos h.2 p hp
theorem jjd {ps ts:List (Int × Int)} (wk:WebOk ps ts):∀ a ∈ jcg ps ts,((0 ≤ a.1∧a.1 < ((2 + (ps.length + ps.length):Nat):Int))∧0 ≤ a.2.1∧a.2.1 < ((2 + (ps.length + ps.length):Nat):Int))∧0 ≤ a.2.2 :=
 Fl.arcsD_ok (fun p hp=>spF_bd wk hp) (jfj wk) (fun p hp=>by have:=wk.p.pos p hp; omega) (by
  have h:0 ≤ (ps.map (·.2)).sum:=by
   have:=Fl.sum_le (f:=fun _=>(0:Int)) (g:=fun p:Int × Int=>p.2) (l:=ps) fun p hp=>by have:=wk.p.pos p hp; omega
   rw [Fl.sum_zero] at this
   exact this
  unfold plW
  omega)
theorem jf3 (ps ts:List (Int × Int)):(jcg ps ts).length = ps.length + ps.length + 2 * ts.length:=Fl.arcsD_len _ _ _ _
def jk0 (C:Addr):Sp:=fun vs H Q _=>∃ v ps ts,vs = [v]∧jdh H v ps ts∧WebOk ps ts∧∀ p R H',H R = none→Same H H'→Nt C H' p R (Fl.wfA (jcg ps ts)) (Fl.hsA (jcg ps ts)) (jcg ps ts).length (2 + (ps.length + ps.length)) (Fl.rmA (jcg ps ts))→Q (.ref p) H'
theorem jfn (sp:Int→Int) (n pl:Int) (t:Int × Int):∀ ts,Fl.tieArcs sp n pl (ts ++ [t]) = (Fl.tieArcs sp n pl ts ++ [(sp t.1,sp t.2 + n,pl)]) ++ [(sp t.2,sp t.1 + n,pl)]
 | []=>rfl
 | u :: r=>by rw [List.cons_append,Fl.tieArcs,jfn sp n pl t r]; rfl
theorem jeh {α β:Type} {F:α→β→Prop}:∀ {xs xs':List α} {ys ys':List β},Paired F xs ys→Paired F xs' ys'→Paired F (xs ++ xs') (ys ++ ys')
 | _,_,_,_,.nil,h=>h
 | _,_,_,_,.cons a t,h=>.cons a (jeh t h)
theorem jnm {f:Addr} {fd:FuncData} {f_init:Addr} {d_init:FuncData} (B:Blt mg) (D:DefAt K mg "doubled" (top 33) ["web"] f fd) (D_init:MthAt K C_Net "__init__" "Net.__init__" (meth 5 0) ["self","many","arcs"] f_init d_init) (G_init:FnOk P w K mg base CX0 2 f_init d_init ["self","many","arcs"] (jst C_Net)) (T:NetC K mg C_Net) (C2:Cst2 mg e1 e2 e3) (MK:Mk K C_Net f_init):FnOk P w K mg base CX0 5 f fd ["web"] (jk0 C_Net):=by
 have sc:FnScope ["web","many","plenty","spots","arcs","one","other"] ["web"] (jbc (top 33)):=⟨rfl,rfl,rfl,by decide +kernel,rfl,by decide +kernel,by decide +kernel⟩
 refine D.F.ok sc (fun vs H Q E h=>?_) (fun cdv A outer s H vs Q E hr h=>?_)
 ·obtain ⟨v,ps,ts,rfl,_⟩:=h
  rfl
 obtain ⟨v,ps,ts,rfl,hw,wk,h⟩:=h
 obtain ⟨u,pa,ta,xs,ys,rfl,hu1,hpa,hta,hxs,hys⟩:=hw
 have hxl:=Paired.length hxs
 have hyl:=Paired.length hys
 have hu:=jc8 hr
 have hu0:_ < PySem.cLine:=Nat.lt_of_succ_lt hu
 refine ⟨_,(jaf (jbi (i:=1) sc.nd rfl (Or.inr rfl) (jbf jdv rfl B.len PySem.boot_len (ja0 (jbh q_ix (qv 0) jah (fun _ _=>rfl)) jag))) (jaf (jbi (i:=2) sc.nd rfl (Or.inl rfl) (jbv jcz jah (jbf (jrg rfl) rfl B.sum PyProof.Rows.boot_sum (ja0 (jc6 (CpScope.of (N:=["place","price"]) (src:=[none,none]) (by rfl)) rfl (jbx (jbh q_ix (qv 0) jah (fun _ _=>rfl))) (fun _ _ _ _=>(jcl (n:=2) rfl (jbg (jbb (i:=0) (jbd (l:=["place","price"]) (by rfl)) rfl (Or.inl rfl)) (jbg (jbb (i:=1) (jbd (l:=["place","price"]) (by rfl)) rfl (Or.inl rfl)) jc9)))) (fun _ _ _ _=>jc1) (fun _ _ _ _=>(qv 1))) jag)))) (jaf (jbi (i:=3) sc.nd rfl (Or.inr rfl) (jcw (jgk rfl) rfl B.dict PyProof.Rows.boot_dict (ja0 (jc6 (CpScope.of (N:=["at","pair"]) (src:=[none,none]) (by rfl)) rfl (jio rfl B.enumerate (ja0 (jbh q_ix (qv 0) jah (fun _ _=>rfl)) jag)) (fun _ _ _ _=>(jcl (n:=2) rfl (jbg (jbb (i:=0) (jbd (l:=["at","pair"]) (by rfl)) rfl (Or.inl rfl)) (jbg (jbb (i:=1) (jbd (l:=["at","pair"]) (by rfl)) rfl (Or.inl rfl)) jc9)))) (fun _ _ _ _=>jc1) (fun _ _ _ _=>(jch (ja0 (jbh q_ix (qv 1) jah (fun _ _=>rfl)) (ja0 (jbv jcz (jd0 (v:=.int 2) rfl C2.FIRST ⟨_,rfl⟩) (qv 0)) jag))))) jag))) (jaf (jfc (i:=4) sc.nd rfl (Or.inl rfl) (CpScope.of (N:=["place","price","spots"]) (src:=[none,none,some 3]) (by rfl)) rfl (jbx (jbh q_ix (qv 0) jah (fun _ _=>rfl))) (fun _ _ _ _=>(jcl (n:=2) rfl (jbg (jbb (i:=0) (jbd (l:=["place","price","spots"]) (by rfl)) rfl (Or.inl rfl)) (jbg (jbb (i:=1) (jbd (l:=["place","price","spots"]) (by rfl)) rfl (Or.inl rfl)) jc9)))) (fun _ _ _ _=>jc1) (fun _ _ _ _=>(jch (ja0 (jd0 (v:=.int 0) rfl C2.SOURCE ⟨_,rfl⟩) (ja0 (jdw hu (qv 2) (qv 0) (fun _ _=>rfl)) (ja0 (qv 1) jag)))))) (jaf (jmh (i:=4) sc.nd rfl (Or.inl rfl) (jc6 (CpScope.of (N:=["place","price","many","spots"]) (src:=[none,none,some 1,some 3]) (by rfl)) rfl (jbx (jbh q_ix (qv 0) jah (fun _ _=>rfl))) (fun _ _ _ _=>(jcl (n:=2) rfl (jbg (jbb (i:=0) (jbd (l:=["place","price","many","spots"]) (by rfl)) rfl (Or.inl rfl)) (jbg (jbb (i:=1) (jbd (l:=["place","price","many","spots"]) (by rfl)) rfl (Or.inl rfl)) jc9)))) (fun _ _ _ _=>jc1) (fun _ _ _ _=>(jch (ja0 (jbv jcz (jdw hu (qv 3) (qv 0) (fun _ _=>rfl)) (qv 2)) (ja0 (jd0 (v:=.int 1) rfl C2.SINK ⟨_,rfl⟩) (ja0 (qv 1) jag)))))) juk) (jaf (jcv PassesOwn.never rfl (jbx (jbh q_ix (qv 0) jah (fun _ _=>rfl))) (jcl (n:=2) rfl (jbg (jbb (i:=5) sc.nd rfl (Or.inl rfl)) (jbg (jbb (i:=6) sc.nd rfl (Or.inl rfl)) jc9))) (jaf (jcb (q_bm PySem.F.plainAttrs_list PySem.F.slot_list_append PySem.F.type_list_append jcu (qv 4) (ja0 (jch (ja0 (jdw hu (qv 3) (qv 5) (fun _ _=>rfl)) (ja0 (jbv jcz (jdw hu (qv 3) (qv 6) (fun _ _=>rfl)) (qv 1)) (ja0 (qv 2) jag)))) jag))) (jb8 (jcb (q_bm PySem.F.plainAttrs_list PySem.F.slot_list_append PySem.F.type_list_append jcu (qv 4) (ja0 (jch (ja0 (jdw hu (qv 3) (qv 6) (fun _ _=>rfl)) (ja0 (jbv jcz (jdw hu (qv 3) (qv 5) (fun _ _=>rfl)) (qv 1)) (ja0 (qv 2) jag)))) jag)))))) (jb8 (jbq (ju3 MK G_init (hr.mono (by decide)) rfl T.m D_init.b .nil jbu (ja0 (jbv jcz (jd0 (v:=.int 2) rfl C2.FIRST ⟨_,rfl⟩) (jbv jgj jah (qv 1))) (ja0 (qv 4) jag))))))))))),?_⟩
 have hpl:=wk.pl
 have htl:=wk.tl
 refine jb9 fun R' hR=>?_
 simp_all_arith [jcf,jbl,hu1,at0,hpa]
 subst hR
 refine jb9 fun R' hR=>?_
 simp_all_arith [jcf]
 refine jbj (Itl K pa) H (fun R2 hR2=>?_) (fun z hz0=>jbs ps.length (fun i σ' Hc=>∃ w1 w2,σ' = [w1,w2]∧Same H Hc∧Hc z = some (.lst (((ps.take i).map (·.2)).map V.int))) ⟨none,none,rfl,jai hz0 _,ja4⟩ ?_ ?_)
 ·unfold jd5
  simp_all_arith [jcf,jbl,hu1,at0]
  exact ⟨pa,rfl,⟨_,SqL.of hpa⟩,hR2⟩
 ·rintro i σ' Hc hi ⟨w1,w2,rfl,s7,ez⟩
  have x1:xs[i]? = some (xs[i]'(by omega)):=List.getElem?_eq_getElem _
  refine ⟨⟨_,_,SqL.of (s7 _ _ hpa),x1⟩,?_⟩
  rintro y H' ⟨rfl,hy⟩
  have E1:=Option.some.inj (x1.symm.trans (hy _ (SqL.of (s7 _ _ hpa))))
  obtain ⟨pr,hpr,px⟩:=jbn hxs x1
  rw [E1] at px
  obtain ⟨b,rfl,hb⟩:=px.same s7
  simp_all_arith [jcf,hb]
  refine ⟨_,ez,?_,_,_,rfl,jbk s7 hz0,?_⟩
  ·rw [List.length_map,List.length_map,List.length_take]
   exact szl' (by omega)
  ·rw [ja4,jbp hpr,List.map_append,List.map_append]
   rfl
 rintro σ' H1 ⟨w1,w2,rfl,s1,ez⟩
 refine ⟨⟨_,SqL.of (s1 _ _ hpa),by omega⟩,?_⟩
 rw [List.take_length] at ez
 refine ⟨z,_,rfl,ez,?_⟩
 simp_all_arith [jcf]
 rw [show (1:Int) + (ps.map (·.2)).sum = plW ps from rfl]
 clear ez
 subst hR
 refine jb9 fun R' hR=>?_
 simp_all_arith [jcf]
 refine jbj (Ite K pa) H1 (fun R2 hR2=>?_) (fun z hz0=>jbs ps.length (fun i σ' Hc=>∃ w1 w2 zs,σ' = [w1,w2]∧Same H1 Hc∧Hc z = some (.lst zs)∧Prs Hc zs (spL ps i)) ⟨none,none,[],rfl,jai hz0 _,ja4,.nil⟩ ?_ ?_)
 ·unfold juo
  simp_all_arith [jcf,jbl,s1 _ _ hu1,at0]
  exact ⟨pa,rfl,⟨_,SqL.of (s1 _ _ hpa)⟩,hR2⟩
 ·rintro i σ' Hc hi ⟨w1,w2,zs,rfl,s2,ez,pz⟩
  have s3:=s1.trans s2
  have x1:xs[i]? = some (xs[i]'(by omega)):=List.getElem?_eq_getElem _
  have z1:SqL K Hc pa xs:=SqL.of (s3 _ _ hpa)
  refine ⟨⟨_,_,z1,x1⟩,?_⟩
  rintro x H' ⟨t,y,ht,rfl,rfl,g⟩
  obtain ⟨p,hp,px⟩:=jbn hxs (g _ z1)
  have q4:=jai ht (.tup [.int i,y])
  have s4:=s3.trans q4
  obtain ⟨b,rfl,eb⟩:=px.same s4
  have et:upd Hc t (.tup [.int i,.ref b]) t = some (.tup [.int i,.ref b]):=ja4
  have ez4:=q4 _ _ ez
  have pz4:=Prs.same q4 pz
  have s24:=s2.trans q4
  generalize upd Hc t (.tup [.int i,.ref b]) = H4 at q4 s4 eb et ez4 pz4 s24
  have hzl:zs.length = i:=by rw [Paired.length pz]; unfold spL; rw [List.length_map,List.length_range]
  simp_all_arith [jcf,et,jbl,eb,at0]
  intro t2 ht2
  have q5:=jai ht2 (.tup [.int p.1,.int (2 + (i:Int))])
  have ez5:=q5 _ _ ez4
  have t6:=jca (ys:=zs ++ [.ref t2]) ez5
  refine ⟨zs,ez5,szl' (by omega),_,_,zs ++ [.ref t2],rfl,jbk (s24.trans q5) hz0,(by first | rfl | exact ja4),?_⟩
  have e:spL ps (i + 1) = spL ps i ++ [(p.1,2 + (i:Int))]:=by
   unfold spL
   rw [List.range_succ,List.map_append,List.map_singleton,jd1 hp]
  rw [e]
  exact jbt (Prs.tups t6 (Prs.same q5 pz4)) ⟨t2,rfl,t6 _ _ rfl ja4⟩
 rintro σ' H2 ⟨w1,w2,zs,rfl,s2,ez,pz⟩
 have s3:=s1.trans s2
 refine ⟨⟨_,SqL.of (s3 _ _ hpa),by omega⟩,?_⟩
 have hzl:zs.length = ps.length:=by rw [Paired.length pz]; unfold spL; rw [List.length_map,List.length_range]
 simp_all_arith [jcf,ez]
 refine ⟨jce (spL ps ps.length),jew pz,by omega,je7 (joo wk),fun d hd0=>?_⟩
 have s4:=s3.trans (jai hd0 (.dK (jce (spL ps ps.length))))
 have ed:upd H2 d (.dK (jce (spL ps ps.length))) d = some (.dK (jce (spL ps ps.length))):=ja4
 generalize upd H2 d (.dK (jce (spL ps ps.length))) = H3 at s4 ed
 clear ez pz hzl
 subst hR
 refine jb9 fun R' hR=>?_
 simp_all_arith [jcf]
 refine jbj (Itl K pa) H3 (fun R2 hR2=>?_) (fun al hal=>jbs ps.length (fun i σ' Hc=>∃ w1 w2 zs,σ' = [w1,w2,some (.ref d)]∧Same H3 Hc∧Hc al = some (.lst zs)∧Tps Hc zs ((ps.take i).map fun p=>((0:Int),spF ps p.1,p.2))) ⟨none,none,[],rfl,jai hal _,ja4,.nil⟩ ?_ ?_)
 ·unfold jd5
  simp_all_arith [jcf,jbl,s4 _ _ hu1,at0]
  exact ⟨pa,rfl,⟨_,SqL.of (s4 _ _ hpa)⟩,hR2⟩
 ·rintro i σ' Hc hi ⟨w1,w2,zs,rfl,s7,ez,pz⟩
  have s8:=s4.trans s7
  have x1:xs[i]? = some (xs[i]'(by omega)):=List.getElem?_eq_getElem _
  refine ⟨⟨_,_,SqL.of (s8 _ _ hpa),x1⟩,?_⟩
  rintro y H' ⟨rfl,hy⟩
  have E1:=Option.some.inj (x1.symm.trans (hy _ (SqL.of (s8 _ _ hpa))))
  obtain ⟨pr,hpr,px⟩:=jbn hxs x1
  rw [E1] at px
  obtain ⟨b,rfl,hb⟩:=px.same s8
  have hv:=jgg wk (List.mem_map.mpr ⟨pr,List.mem_of_getElem? hpr,rfl⟩)
  have hzl:zs.length ≤ i:=by rw [Paired.length pz,List.length_map,List.length_take]; omega
  simp_all_arith [jcf,hb,s7 _ _ ed,hv]
  intro t2 ht2
  have q5:=jai ht2 (.tup [.int 0,.int (spF ps pr.1),.int pr.2])
  have ez5:=q5 _ _ ez
  have t6:=jca (ys:=zs ++ [.ref t2]) ez5
  refine ⟨zs,ez5,szl' (by omega),_,_,zs ++ [.ref t2],rfl,jbk (s7.trans q5) hal,(by first | rfl | exact ja4),?_⟩
  rw [jbp hpr,List.map_append]
  exact jbt (jbw t6 (jbw q5.tups pz)) ⟨t2,rfl,t6 _ _ rfl ja4⟩
 rintro σ' H4 ⟨w1,w2,zs,rfl,s5,eal,pz⟩
 have s6:=s4.trans s5
 refine ⟨⟨_,SqL.of (s6 _ _ hpa),by omega⟩,?_⟩
 rw [List.take_length] at pz
 have falH:H al = none:=s4.free hal
 have hzl:zs.length = ps.length:=by rw [Paired.length pz,List.length_map]
 simp_all_arith [jcf]
 subst hR
 refine jb9 fun R' hR=>?_
 have ed4:=s5 _ _ ed
 simp_all_arith [jcf]
 refine jbj (Itl K pa) H4 (fun R2 hR2=>?_) (fun bl hbl=>jbs ps.length (fun i σ' Hc=>∃ w1 w2 us,σ' = [w1,w2,some (.int (xs.length:Int)),some (.ref d)]∧Same H4 Hc∧Hc bl = some (.lst us)∧Tps Hc us ((ps.take i).map fun p=>(spF ps p.1 + (ps.length:Int),(1:Int),p.2))) ⟨none,none,[],rfl,jai hbl _,ja4,.nil⟩ ?_ ?_)
 ·unfold jd5
  simp_all_arith [jcf,jbl,s6 _ _ hu1,at0]
  exact ⟨pa,rfl,⟨_,SqL.of (s6 _ _ hpa)⟩,hR2⟩
 ·rintro i σ' Hc hi ⟨w1,w2,us,rfl,s7,ez,pu⟩
  have s8:=s6.trans s7
  have x1:xs[i]? = some (xs[i]'(by omega)):=List.getElem?_eq_getElem _
  refine ⟨⟨_,_,SqL.of (s8 _ _ hpa),x1⟩,?_⟩
  rintro y H' ⟨rfl,hy⟩
  have E1:=Option.some.inj (x1.symm.trans (hy _ (SqL.of (s8 _ _ hpa))))
  obtain ⟨pr,hpr,px⟩:=jbn hxs x1
  rw [E1] at px
  obtain ⟨b,rfl,hb⟩:=px.same s8
  have hv:=jgg wk (List.mem_map.mpr ⟨pr,List.mem_of_getElem? hpr,rfl⟩)
  have hul:us.length ≤ i:=by rw [Paired.length pu,List.length_map,List.length_take]; omega
  simp_all_arith [jcf,hb,s7 _ _ ed4,hv]
  intro t2 ht2
  have q5:=jai ht2 (.tup [.int (spF ps pr.1 + (xs.length:Int)),.int 1,.int pr.2])
  have ez5:=q5 _ _ ez
  have t6:=jca (ys:=us ++ [.ref t2]) ez5
  refine ⟨us,ez5,szl' (by omega),_,_,us ++ [.ref t2],rfl,jbk (s7.trans q5) hbl,(by first | rfl | exact ja4),?_⟩
  rw [jbp hpr,List.map_append]
  exact jbt (jbw t6 (jbw q5.tups pu)) ⟨t2,rfl,by rw [← hxl]; exact t6 _ _ rfl ja4⟩
 rintro σ' H5 ⟨w1,w2,us,rfl,s7,ebl,pu⟩
 have s8:=s6.trans s7
 refine ⟨⟨_,SqL.of (s8 _ _ hpa),by omega⟩,?_⟩
 rw [List.take_length] at pu
 have hul:us.length = ps.length:=by rw [Paired.length pu,List.length_map]
 have eal5:=s7 _ _ eal
 simp_all_arith [jcf,eal5,ebl]
 refine ⟨szl (by omega),?_⟩
 have s9:Same H (upd H5 al (.lst (zs ++ us))):=jbk s8 falH
 have t9:=jca (ys:=zs ++ us) eal5
 have pz9:=jeh (jbw t9 (jbw s7.tups pz)) (jbw t9 pu)
 have eal9:upd H5 al (.lst (zs ++ us)) al = some (.lst (zs ++ us)):=ja4
 have dal:d ≠ al:=jaj ed hal
 have ed9:upd H5 al (.lst (zs ++ us)) d = some (.dK (jce (spL ps ps.length))):=by rw [jba dal]; exact s7 _ _ ed4
 generalize upd H5 al (.lst (zs ++ us)) = H6 at s9 pz9 eal9 ed9
 clear eal5 ebl pu pz eal t9
 subst hR
 refine jb9 fun R' hR=>?_
 refine jc0 (Itl K ta) H6 (fun R3 hR3=>?_) (jdj (K:=K) (a:=ta) (xs:=ys) (fun k σ Hc=>∃ v5 v6 ws,σ = [some (.ref u),some (.int (xs.length:Int)),some (.int (plW ps)),some (.ref d),some (.ref al),v5,v6]∧Same H Hc∧Hc d = some (.dK (jce (spL ps ps.length)))∧Hc al = some (.lst ws)∧ws.length ≤ 80 + 2 * k∧Tps Hc ws (((ps.map fun p=>((0:Int),spF ps p.1,p.2)) ++ ps.map fun p=>(spF ps p.1 + (ps.length:Int),(1:Int),p.2)) ++ Fl.tieArcs (spF ps) ps.length (plW ps) (ts.take k))) ⟨none,none,zs ++ us,rfl,s9,ed9,eal9,by rw [List.length_append]; omega,by rw [List.take_zero]; show Tps H6 _ (_ ++ []); rw [List.append_nil]; exact pz9⟩ (fun i σ Hc _ ⟨_,_,_,_,s,_⟩=>SqL.of (s _ _ hta)) ?_ ?_)
 ·unfold jd5
  simp_all_arith [jcf,jbl,s9 _ _ hu1,at1]
  exact ⟨ta,rfl,⟨_,SqL.of (s9 _ _ hta)⟩,hR3⟩
 ·rintro k x σ Hc hx ⟨v5,v6,ws,rfl,sA,edA,ealA,hwl,pw⟩
  obtain ⟨t,htk,pt⟩:=jbn hys hx
  obtain ⟨tb,rfl,etb⟩:=pt.same sA
  have hkl:=(List.getElem?_eq_some_iff.mp htk).1
  obtain ⟨m1,m2⟩:=jfj wk t (List.mem_of_getElem? htk)
  have hv1:=jgg wk m1
  have hv2:=jgg wk m2
  simp_all_arith [jcf,etb,edA,hv1,hv2]
  refine ⟨⟨al,ws,rfl,ealA⟩,fun t1 ht1=>?_⟩
  have qB:=jai ht1 (.tup [.int (spF ps t.1),.int (spF ps t.2 + (xs.length:Int)),.int (plW ps)])
  have ealB:=qB _ _ ealA
  have edB:=qB _ _ edA
  simp only [ealB]
  refine ⟨szl' (by omega),?_⟩
  have tB:=jca (ys:=ws ++ [.ref t1]) ealB
  have sC:Same H (upd (upd Hc t1 (.tup [.int (spF ps t.1),.int (spF ps t.2 + (xs.length:Int)),.int (plW ps)])) al (.lst (ws ++ [.ref t1]))):=jbk (sA.trans qB) falH
  have ealC:upd (upd Hc t1 (.tup [.int (spF ps t.1),.int (spF ps t.2 + (xs.length:Int)),.int (plW ps)])) al (.lst (ws ++ [.ref t1])) al = some (.lst (ws ++ [.ref t1])):=ja4
  have edC:upd (upd Hc t1 (.tup [.int (spF ps t.1),.int (spF ps t.2 + (xs.length:Int)),.int (plW ps)])) al (.lst (ws ++ [.ref t1])) d = some (.dK (jce (spL ps ps.length))):=by rw [jba dal]; exact edB
  have pC:=jbt (jbw tB (jbw qB.tups pw)) (show Tp _ (.ref t1) (spF ps t.1,spF ps t.2 + (ps.length:Int),plW ps) from ⟨t1,rfl,by rw [← hxl]; exact tB _ _ rfl ja4⟩)
  generalize upd (upd Hc t1 (.tup [.int (spF ps t.1),.int (spF ps t.2 + (xs.length:Int)),.int (plW ps)])) al (.lst (ws ++ [.ref t1])) = HC at sC ealC edC pC
  simp_all_arith [jcf,edC,hv1,hv2]
  refine ⟨⟨al,_,rfl,ealC⟩,fun t2 ht2=>?_⟩
  have qD:=jai ht2 (.tup [.int (spF ps t.2),.int (spF ps t.1 + (xs.length:Int)),.int (plW ps)])
  have ealD:=qD _ _ ealC
  have edD:=qD _ _ edC
  simp only [ealD]
  have tD:=jca (ys:=(ws ++ [.ref t1]) ++ [.ref t2]) ealD
  refine ⟨szl' (by rw [List.length_append]; show _ + 1 ≤ _; omega),_,_,(ws ++ [.ref t1]) ++ [.ref t2],rfl,jbk (sC.trans qD) falH,by rw [jba dal]; exact edD,ja4,by rw [List.length_append,List.length_append]; show _ + 1 + 1 ≤ _; omega,?_⟩
  rw [jbp htk,jfn,← List.append_assoc,← List.append_assoc]
  exact jbt (jbw tD (jbw qD.tups pC)) ⟨t2,rfl,by rw [← hxl]; exact tD _ _ rfl ja4⟩
 ·rintro σ Hc ⟨v5,v6,ws,rfl,sA,edA,ealA,hwl,pw⟩
  rw [hyl,List.take_length] at pw
  have pw:Tps Hc ws (jcg ps ts):=pw
  subst hR
  simp_all_arith [jcf]
  refine ⟨cmL (by decide) (by decide),?_⟩
  intro p dx hp hdx hne
  have hpal:al ≠ p:=jaj ealA hp
  have hdal:al ≠ dx:=jaj ealA hdx
  have sB:Same Hc (upd (upd Hc dx (.own p)) p (.ins C_Net dx [])):=fun b o q=>by rw [jba (jaj q hp),jba (jaj q hdx)]; exact q
  refine ⟨p,dx,2 + (ps.length + ps.length),al,ws,jcg ps ts,by rw [show ((2 + (ps.length + ps.length):Nat):Int) = 2 + 2 * (xs.length:Int) by omega],ja4,sB _ _ ealA,jbw sB.tups pw,by omega,by rw [jf3]; omega,fun a ha=>(jjd wk a ha).1,fun R H' hR' b N=>?_⟩
  refine ⟨rfl,h p R H' (sA.free (sB.free hR')) (fun b' o q=>b b' o (jaj (sA _ _ q) hp) (sB _ _ (sA _ _ q))) N⟩
end
end My
namespace My
open PySem L2
section
variable {P:Program} {w:World} {K:PySem.W.Frag} {mg:Str→Option Value} {base:Heap} {c1 c2 c3 c4 e1 e2 e3:Tok} {C_Net C_NoWeb f_NoWeb:Addr} {dI:FuncData}
def knN (ps:List (Int × Int)):Nat:=2 + (ps.length + ps.length)
structure Rst (ps ts:List (Int × Int)) (r:List Int):Prop where
 run:Fl.Runs (Fl.wfA (jcg ps ts)) (Fl.hsA (jcg ps ts)) (knN ps) 0 1 (Fl.rmA (jcg ps ts)) r
 end_:Fl.stp (Fl.wfA (jcg ps ts)) (Fl.hsA (jcg ps ts)) (knN ps) 0 1 r = none
def inW (ps ts:List (Int × Int)) (r:List Int) (v:Int):Bool:=Fl.inS (Fl.wfA (jcg ps ts)) (Fl.hsA (jcg ps ts)) (knN ps) r v
def halT (ps ts:List (Int × Int)) (r:List Int):List (Int × Int):=halR (inW ps ts r) ps.length ps ps.length
def duT (ps ts:List (Int × Int)) (r:List Int):List (Int × Int × Int):=duR (alt false r) ps.length ts ts.length
def jjy:Sp:=fun vs H Q _=>∃ v ps ts,vs = [v]∧jdh H v ps ts∧WebOk ps ts∧ps.length ≤ 30∧∀ t l1 l2 zs us r H',Same H H'→H' t = some (.tup [.ref l1,.ref l2])→H' l1 = some (.lst zs)→H' l2 = some (.lst us)→H t = none→H l1 = none→H l2 = none→l1 ≠ l2→Rst ps ts r→Prs H' zs (halT ps ts r)→Tps H' us (duT ps ts r)→Q (.ref t) H'
theorem js8 {ps ts:List (Int × Int)} {r:List Int} {ms:List Int} (h:ms.Perm ((Fl.cbOf (Fl.wfA (jcg ps ts)) (Fl.hsA (jcg ps ts)) (knN ps) 0 r).map (·.1))):hasK (mkI ms) = inW ps ts r:=by
 funext n
 rw [jpu]
 unfold inW Fl.inS
 exact decide_eq_decide.mpr h.mem_iff
theorem jsz {ps ts:List (Int × Int)} (wk:WebOk ps ts):Fl.Rooms (jcg ps ts).length (Fl.capA (jcg ps ts)) (Fl.rmA (jcg ps ts)):=Fl.rooms0 fun a ha=>(jjd wk a ha).2
theorem netW {ps ts:List (Int × Int)} (wk:WebOk ps ts):Fl.Net (Fl.wfA (jcg ps ts)) (Fl.hsA (jcg ps ts)) (jcg ps ts).length (knN ps):=Fl.net_of fun a ha=>(jjd wk a ha).1
theorem Rst.rooms {ps ts:List (Int × Int)} {r:List Int} (wk:WebOk ps ts) (h:Rst ps ts r):Fl.Rooms (jcg ps ts).length (Fl.capA (jcg ps ts)) r∧∀ v,v ≠ 0→v ≠ 1→Fl.ex (Fl.hsA (jcg ps ts)) (jcg ps ts).length r v = 0:=by
 obtain ⟨a,b⟩:=Fl.runs_keep (netW wk) (by decide) ⟨Int.le_refl _,by unfold knN; omega⟩ h.run (jsz wk)
 exact ⟨a,fun v h1 h2=>(b v h1 h2).trans (Fl.ex0 _ _ _ _)⟩
theorem jsl {α:Type} {xs:List α} {k:Nat} (h:xs.length = 2 * k):(alt false xs).length = k:=by
 have h1:=jhc false xs
 have hge:¬ k < (alt false xs).length:=fun z=>by
  have:=h1 k
  rw [List.getElem?_eq_getElem z,List.getElem?_eq_none (show xs.length ≤ 2 * k + (if false = true then 0 else 1) by rw [if_neg (by decide)]; omega)] at this
  cases this
 by_cases c:k = 0
 ·omega
 ·have:=h1 (k - 1)
  rw [List.getElem?_eq_getElem (show 2 * (k - 1) + (if false = true then 0 else 1) < xs.length by rw [if_neg (by decide)]; omega)] at this
  have:=(List.getElem?_eq_some_iff.mp this).1
  omega
theorem jip {f:Addr} {fd:FuncData} {f_doubled:Addr} {d_doubled:FuncData} {f_fill:Addr} {d_fill:FuncData} {f_reached_from:Addr} {d_reached_from:FuncData} {f_marked:Addr} {d_marked:FuncData} {f_halves_reached:Addr} {d_halves_reached:FuncData} {f_flows:Addr} {d_flows:FuncData} {f_dues_flowing:Addr} {d_dues_flowing:FuncData} (B:Blt mg) (D:DefAt K mg "told_paper" (top 36) ["web"] f fd) (D_doubled:DefAt K mg "doubled" (top 33) ["web"] f_doubled d_doubled) (G_doubled:FnOk P w K mg base CX0 5 f_doubled d_doubled ["web"] (jk0 C_Net)) (D_fill:MthAt K C_Net "fill" "Net.fill" (meth 5 2) ["self","source","sink"] f_fill d_fill) (G_fill:FnOk P w K mg base CX0 3 f_fill d_fill ["self","source","sink"] (jsv C_Net)) (D_reached_from:MthAt K C_Net "reached_from" "Net.reached_from" (meth 5 7) ["self","source"] f_reached_from d_reached_from) (G_reached_from:FnOk P w K mg base CX0 2 f_reached_from d_reached_from ["self","source"] (joj C_Net)) (D_marked:DefAt K mg "marked" (top 11) ["places"] f_marked d_marked) (G_marked:FnOk P w K mg base CX0 1 f_marked d_marked ["places"] jon) (D_halves_reached:DefAt K mg "halves_reached" (top 35) ["web","reached"] f_halves_reached d_halves_reached) (G_halves_reached:FnOk P w K mg base CX0 1 f_halves_reached d_halves_reached ["web","reached"] jsu) (D_flows:MthAt K C_Net "flows" "Net.flows" (meth 5 6) ["self"] f_flows d_flows) (G_flows:FnOk P w K mg base CX0 1 f_flows d_flows ["self"] (joq C_Net)) (D_dues_flowing:DefAt K mg "dues_flowing" (top 34) ["web","flows"] f_dues_flowing d_dues_flowing) (G_dues_flowing:FnOk P w K mg base CX0 1 f_dues_flowing d_dues_flowing ["web","flows"] jor) (T:NetC K mg C_Net) (C2:Cst2 mg e1 e2 e3):FnOk P w K mg base CX0 6 f fd ["web"] jjy:=by
 have sc:FnScope ["web","net","halves"] ["web"] (jbc (top 36)):=⟨rfl,rfl,rfl,by decide +kernel,rfl,by decide +kernel,by decide +kernel⟩
 refine D.F.ok sc (fun vs H Q E h=>?_) (fun cdv A outer s H vs Q E hr h=>?_)
 ·obtain ⟨v,ps,ts,rfl,_⟩:=h
  rfl
 obtain ⟨v,ps,ts,rfl,hw,wk,h30,h⟩:=h
 have hu:=jc8 hr
 have hu0:_ < PySem.cLine:=Nat.lt_of_succ_lt hu
 refine ⟨_,(jaf (jbi (i:=1) sc.nd rfl (Or.inl rfl) (jbe G_doubled (hr.mono (by decide)) rfl D_doubled.m D_doubled.F.kp D_doubled.b .nil jbu (ja0 (qv 0) jag))) (jaf (jcb (jd9 (qv 1) T.cl D_fill.m G_fill (hr.mono (by decide)) D_fill.b .nil jbu (ja0 (jd0 (v:=.int 0) rfl C2.SOURCE ⟨_,rfl⟩) (ja0 (jd0 (v:=.int 1) rfl C2.SINK ⟨_,rfl⟩) jag)))) (jaf (jbi (i:=2) sc.nd rfl (Or.inl rfl) (jbe G_halves_reached (hr.mono (by decide)) rfl D_halves_reached.m D_halves_reached.F.kp D_halves_reached.b .nil jbu (ja0 (qv 0) (ja0 (jbe G_marked (hr.mono (by decide)) rfl D_marked.m D_marked.F.kp D_marked.b .nil jbu (ja0 (jd9 (qv 1) T.cl D_reached_from.m G_reached_from (hr.mono (by decide)) D_reached_from.b .nil jbu (ja0 (jd0 (v:=.int 0) rfl C2.SOURCE ⟨_,rfl⟩) jag)) jag)) jag)))) (jb8 (jbq (jch (ja0 (qv 2) (ja0 (jbe G_dues_flowing (hr.mono (by decide)) rfl D_dues_flowing.m D_dues_flowing.F.kp D_dues_flowing.b .nil jbu (ja0 (qv 0) (ja0 (jpc (qv 1) T.cl D_flows.m G_flows (hr.mono (by decide)) D_flows.b .nil jbu) jag))) jag)))))))),?_⟩
 refine jb9 fun R' hR=>?_
 walk_at "ND"
 refine ⟨v,ps,ts,rfl,hw,wk,fun p R H1 fR s1 N=>?_⟩
 subst hR
 refine jb9 fun R' hR=>?_
 obtain ⟨dx,W,Hd,ls,o1,_,_,_,_,_,_,pR⟩:=N.st
 simp_all_arith [o1,jrz]
 refine ⟨p,0,1,R,_,_,_,_,_,Fl.capA (jcg ps ts),rfl,N,by decide,Int.le_refl _,by omega,jsz wk,fun x r H2 run fin b2 eR2=>?_⟩
 have rst:Rst ps ts r:=⟨run,fin⟩
 have rm:=(rst.rooms wk).1
 have N2:=N.but b2 eR2 rm.len
 have s2:Same H H2:=fun b o q=>b2 b o (jaj q fR) (s1 _ _ q)
 have o2:=b2 _ _ pR o1
 subst hR
 refine jb9 fun R' hR=>?_
 simp_all_arith [o2,jlh]
 refine ⟨p,0,R,_,_,_,_,r,rfl,N2,Int.le_refl _,by omega,by omega,fun l ms H3 hl s3 el pm=>?_⟩
 have hmn:ms.Nodup:=pm.nodup_iff.mpr (Fl.spr_cam (r:=r) (s:=0) N.net.from' _).nd
 have hml:ms.length ≤ 120:=by
  rw [pm.length_eq,List.length_map]
  have:=Fl.cb_len (r:=r) N.net ⟨Int.le_refl 0,by omega⟩ (2 + (ps.length + ps.length))
  show (Fl.sprN _ _ _ _ _).length ≤ 120
  omega
 refine ⟨l,ms,rfl,el,hmn,hml,fun d H4 hd s4 ed=>?_⟩
 have s24:=s3.trans s4
 have s14:=s2.trans s24
 refine ⟨v,ps,ts,d,mkI ms,rfl,hw.same s14,wk,ed,fun l1 zs H5 hl1 s5 el1 pz=>?_⟩
 rw [js8 pm] at pz
 have s25:=s24.trans s5
 have s15:=s14.trans s5
 subst hR
 simp_all_arith [s25 _ _ o2,jpr]
 refine ⟨p,R,_,_,_,_,r,rfl,N2.same s25,fun fl H6 hfl s6 ef=>?_⟩
 refine ⟨v,ps,ts,fl,alt false r,rfl,hw.same (s15.trans s6),wk,ef,?_,fun l2 us H7 hl2 s7 el2 pu=>?_⟩
 ·rw [jsl rm.len,jf3]; omega
 intro t ht
 have q8:=jai ht (.tup [.ref l1,.ref l2])
 have s57:=s6.trans s7
 refine h t l1 l2 zs us r _ ((s15.trans s57).trans q8) ja4 (q8 _ _ (s57 _ _ el1)) (q8 _ _ el2) ((s15.trans s57).free ht) (s14.free hl1) ((s15.trans s6).free hl2) (jaj (s6 _ _ el1) hl2) rst (Prs.same (s57.trans q8) pz) (jbw q8.tups pu)
theorem jka {f:Addr} {fd:FuncData} {f_look_at_web:Addr} {d_look_at_web:FuncData} {f_told_paper:Addr} {d_told_paper:FuncData} (B:Blt mg) (D:DefAt K mg "halves_of" (top 37) ["web"] f fd) (D_look_at_web:DefAt K mg "look_at_web" (top 24) ["thing"] f_look_at_web d_look_at_web) (G_look_at_web:FnOk P w K mg base CX0 5 f_look_at_web d_look_at_web ["thing"] jgf) (D_told_paper:DefAt K mg "told_paper" (top 36) ["web"] f_told_paper d_told_paper) (G_told_paper:FnOk P w K mg base CX0 6 f_told_paper d_told_paper ["web"] jjy):FnOk P w K mg base CX0 7 f fd ["web"] jjy:=by
 have sc:FnScope ["web"] ["web"] (jbc (top 37)):=⟨rfl,rfl,rfl,by decide +kernel,rfl,by decide +kernel,by decide +kernel⟩
 refine D.F.ok sc (fun vs H Q E h=>?_) (fun cdv A outer s H vs Q E hr h=>?_)
 ·obtain ⟨v,ps,ts,rfl,_⟩:=h
  rfl
 obtain ⟨v,ps,ts,rfl,hw,wk,h30,h⟩:=h
 have hu:=jc8 hr
 have hu0:_ < PySem.cLine:=Nat.lt_of_succ_lt hu
 refine ⟨_,(jaf (jcb (jbe G_look_at_web (hr.mono (by decide)) rfl D_look_at_web.m D_look_at_web.F.kp D_look_at_web.b .nil jbu (ja0 (qv 0) jag))) (jb8 (jbq (jbe G_told_paper (hr.mono (by decide)) rfl D_told_paper.m D_told_paper.F.kp D_told_paper.b .nil jbu (ja0 (qv 0) jag))))),?_⟩
 walk_at "ND"
 refine ⟨v,ps,ts,rfl,hw,wk,fun H1 s1=>?_⟩
 walk_at "ND"
 refine ⟨v,ps,ts,rfl,hw.same s1,wk,h30,fun t l1 l2 zs us r H2 s2 e1 e2 e3 f1 f2 f3 ne rst pz pu=>?_⟩
 exact h t l1 l2 zs us r H2 (s1.trans s2) e1 e2 e3 (s1.free f1) (s1.free f2) (s1.free f3) ne rst pz pu
end
end My
namespace My
open PySem L2
section
variable {P:Program} {w:World} {K:PySem.W.Frag} {mg:Str→Option Value} {base:Heap} {c1 c2 c3 c4:Tok} {C_NoWeb f_NoWeb:Addr} {dI:FuncData}
theorem jod {kvs:List (Key × V)}:∀ {ts:List (Int × Int)} {q:Int × Int},TiOk kvs q ts→ts.Pairwise fun a b=>HT.lexLt [a.1,a.2] [b.1,b.2] = true
 | [],_,_=>.nil
 | u :: r,q,h=>List.pairwise_cons.mpr ⟨fun p hp=>TiOk.lt h.2 p hp,jod h.2⟩
theorem juf {a b c d:Int} (h:HT.lexLt [a,b] [c,d] = true):leL [c,d] [a,b] = false:=by
 have h:=jiy h
 rw [jpy]
 by_cases e:c = a
 ·rw [if_pos e,jpy,if_neg (by omega)]
  exact decide_eq_false (by omega)
 ·rw [if_neg e]
  exact decide_eq_false (by omega)
theorem jkm {ts:List (Int × Int)}:∀ {qs:List (Int × Int × Int)} {q:Int × Int},qs.Pairwise (fun a b=>HT.lexLt [a.1,a.2.1] [b.1,b.2.1] = true)→(∀ d ∈ qs,HT.lexLt [q.1,q.2] [d.1,d.2.1] = true)→(∀ d ∈ qs,(d.1,d.2.1) ∈ ts∧1 ≤ d.2.2)→jdg ts q (qs.map jdn) = some qs
 | [],_,_,_,_=>rfl
 | d :: r,q,hp,hq,hm=>by
  have hp':=List.pairwise_cons.mp hp
  have h1:=hm d (.head _)
  have hd:dueO (jdn d) = some d:=by
   unfold dueO
   show (if 1 ≤ d.2.2 then some d else none) = some d
   rw [if_pos h1.2]
  rw [List.map_cons,jdg,hd]
  dsimp only
  rw [if_pos ⟨h1.1,juf (hq d (.head _))⟩,jkm hp'.2 (fun e he=>hp'.1 e he) fun e he=>hm e (.tail _ he)]
  rfl
theorem jj4 {hf:Int→Int} (hb:∀ n,0 ≤ hf n∧hf n ≤ 2):∀ ps:List (Int × Int),halO ps ((ps.map fun p=>(p.1,hf p.1)).map jcj) = some (ps.map fun p=>(p.1,hf p.1))
 | []=>rfl
 | p :: r=>by
  rw [List.map_cons,List.map_cons,halO]
  show (match prO (.tup [.int p.1,.int (hf p.1)]) with | some h=>if h.1 = p.1∧0 ≤ h.2∧h.2 ≤ 2 then _ else none | none=>none) = _
  rw [show prO (.tup [.int p.1,.int (hf p.1)]) = some (p.1,hf p.1) from rfl]
  dsimp only
  rw [if_pos ⟨rfl,hb p.1⟩,jj4 hb r]
  rfl
theorem jk8 {n:Int}:∀ {L:List (Int × Int × Int)},(∀ d ∈ L,0 ≤ d.2.2)→jdq (L.filter fun d=>decide (d.2.2 > 0)) n = jdq L n
 | [],_=>rfl
 | d :: r,h=>by
  have ih:=jk8 (n:=n) (L:=r) fun e he=>h e (.tail _ he)
  unfold jdq at ih ⊢
  rw [List.filter_cons]
  by_cases c:d.2.2 > 0
  ·rw [if_pos (decide_eq_true c),List.map_cons,List.sum_cons,ih,List.map_cons,List.sum_cons]
  ·have h0:d.2.2 = 0:=by have:=h d (.head _); omega
   rw [if_neg (by simpa using c),ih,List.map_cons,List.sum_cons,h0]
   split <;> split <;> omega
theorem jog:∀ {L:List (Int × Int × Int)},(∀ d ∈ L,0 ≤ d.2.2)→((L.filter fun d=>decide (d.2.2 > 0)).map (·.2.2)).sum = (L.map (·.2.2)).sum
 | [],_=>rfl
 | d :: r,h=>by
  have ih:=jog (L:=r) fun e he=>h e (.tail _ he)
  rw [List.filter_cons]
  by_cases c:d.2.2 > 0
  ·rw [if_pos (decide_eq_true c),List.map_cons,List.sum_cons,ih,List.map_cons,List.sum_cons]
  ·have h0:d.2.2 = 0:=by have:=h d (.head _); omega
   rw [if_neg (by simpa using c),ih,List.map_cons,List.sum_cons,h0]
   omega
theorem jr0 (r:List Int) (k:Nat):Fl.at' (alt false r) k = Fl.at' r (2 * k + 1):=by
 unfold Fl.at'
 rw [List.getD_eq_getElem?_getD,List.getD_eq_getElem?_getD,jhc,if_neg (by decide)]
def SLw (ps ts:List (Int × Int)) (r:List Int) (p:Int):Bool:=inW ps ts r (spF ps p)
def SRw (ps ts:List (Int × Int)) (r:List Int) (p:Int):Bool:=inW ps ts r (spF ps p + ps.length)
def hfW (ps ts:List (Int × Int)) (r:List Int):Int→Int:=Fl.halfOf (SLw ps ts r) (SRw ps ts r)
theorem je4 {ps ts:List (Int × Int)} (wk:WebOk ps ts):∀ p ∈ ps,hOf ps p.1 = p.2:=fun p hp=>by
 have a:=jee wk.p.nodup hp
 rw [jek wk.p.nodup (List.mem_map.mpr ⟨p,hp,rfl⟩)] at a
 exact V.int.inj (Option.some.inj a)
theorem jj7 {ps ts:List (Int × Int)} {r:List Int} (wk:WebOk ps ts) (h:Rst ps ts r):Fl.Full (ps.map (·.1)) (hOf ps) (Fl.twS (ps.map (·.1)) r ts) (Fl.fsOf (spF ps) r) (Fl.ftOf (ps.map (·.1)) (spF ps) r) (SLw ps ts r) (SRw ps ts r):=by
 have hl:(ps.map (·.1)).length = ps.length:=List.length_map _
 have e1:(jcg ps ts).length = Fl.arcs (ps.map (·.1)) ts:=by rw [jf3]; unfold Fl.arcs; rw [hl]
 have e2:knN ps = Fl.knots (ps.map (·.1)):=by unfold knN Fl.knots; rw [hl]
 have D:Fl.Dbl (ps.map (·.1)) ts (spF ps) (Fl.hsA (jcg ps ts)):=Fl.dbl_of wk.p.nodup (fun i p hp=>jmc wk hp) (jfj wk)
 have C:Fl.Caps (ps.map (·.1)) ts (hOf ps) (Fl.capA (jcg ps ts)):=Fl.caps_of (je4 wk) fun p hp=>by
  have h0:∀ q ∈ ps,0 ≤ q.2:=fun q hq=>by have:=wk.p.pos q hq; omega
  have:=Fl.le_sum (f:=fun q:Int × Int=>q.2) h0 p hp
  unfold plW
  omega
 obtain ⟨rm,bal⟩:=h.rooms wk
 have N:=netW wk
 have en:=h.end_
 rw [e1] at rm bal N
 rw [e2] at N en
 have F:=Fl.full_rest D N C rm bal en
 rw [hl] at F
 unfold SLw SRw inW
 rw [e2]
 exact F
theorem jej {ps ts:List (Int × Int)} {r:List Int} (wk:WebOk ps ts):halT ps ts r = ps.map fun p=>(p.1,hfW ps ts r p.1):=by
 unfold halT halR
 apply List.ext_getElem?
 intro i
 rw [List.getElem?_map,List.getElem?_map]
 by_cases c:i < ps.length
 ·have hi:ps[i]? = some ps[i]:=List.getElem?_eq_getElem c
  have hs:=jmc wk (i:=i) (p:=ps[i].1) (by rw [List.getElem?_map,hi]; rfl)
  rw [List.getElem?_range c,hi]
  show some _ = some _
  dsimp only
  rw [jd1 hi]
  unfold hfW Fl.halfOf Fl.one SLw SRw
  rw [hs,show (2:Int) + (i:Int) + (ps.length:Int) = 2 + (ps.length:Int) + (i:Int) by omega]
  congr 2
  cases inW ps ts r (2 + (i:Int)) <;> rfl
 ·rw [List.getElem?_eq_none (by rw [List.length_range]; omega),List.getElem?_eq_none (by omega)]
  rfl
def triW (ps ts:List (Int × Int)) (r:List Int):List (Int × Int × Int):=(Fl.twS (ps.map (·.1)) r ts).map fun z=>(z.a,z.b,z.x + z.y)
theorem jqj (ps ts:List (Int × Int)) (r:List Int):duT ps ts r = (triW ps ts r).filter fun d=>decide (d.2.2 > 0):=by
 unfold duT duR triW Fl.twS
 rw [List.map_map]
 congr 1
 refine List.map_congr_left fun j _=>?_
 show _ = ((Fl.twAt _ _ _ j).a,(Fl.twAt _ _ _ j).b,_)
 unfold Fl.twAt
 dsimp only
 rw [jr0,jr0,List.length_map,show 2 * ps.length + 2 * j = ps.length + ps.length + 2 * j by omega,show ps.length + ps.length + 2 * j + 1 = ps.length + ps.length + (2 * j + 1) by omega]
theorem jen (ps ts:List (Int × Int)) (r:List Int):(triW ps ts r).map (fun d=>(d.1,d.2.1)) = ts:=by
 unfold triW Fl.twS
 rw [List.map_map,List.map_map]
 apply List.ext_getElem?
 intro i
 rw [List.getElem?_map]
 by_cases c:i < ts.length
 ·rw [List.getElem?_range c,List.getElem?_eq_getElem c]
  show some ((ts.getD i (0,0)).1,(ts.getD i (0,0)).2) = _
  rw [jd1 (List.getElem?_eq_getElem c)]
 ·rw [List.getElem?_eq_none (by rw [List.length_range]; omega),List.getElem?_eq_none (by omega)]
  rfl
theorem jn6 {ps ts:List (Int × Int)} {r:List Int} (wk:WebOk ps ts) (h:Rst ps ts r):halO ps ((halT ps ts r).map jcj) = some (halT ps ts r)∧jdg ts (-1,-1) ((duT ps ts r).map jdn) = some (duT ps ts r)∧jfv ts (halT ps ts r) = true∧jhe ps (duT ps ts r) = true∧((duT ps ts r).map (·.2.2)).sum = jhl ps (halT ps ts r):=by
 have F:=jj7 wk h
 have hb:∀ n,0 ≤ hfW ps ts r n∧hfW ps ts r n ≤ 2:=fun n=>Fl.half_in n
 have nn:∀ d ∈ triW ps ts r,0 ≤ d.2.2:=fun d hd=>by
  obtain ⟨z,hz,rfl⟩:=List.mem_map.mp hd
  have:=F.pos z hz
  dsimp only
  omega
 have nd:((halT ps ts r).map (·.1)).Nodup:=by
  rw [jej wk,List.map_map]
  exact wk.p.nodup
 have hat:∀ n ∈ ps.map (·.1),hOf (halT ps ts r) n = hfW ps ts r n:=fun n hn=>by
  obtain ⟨p,hp,rfl⟩:=List.mem_map.mp hn
  have hm:(p.1,hfW ps ts r p.1) ∈ halT ps ts r:=by rw [jej wk]; exact List.mem_map.mpr ⟨p,hp,rfl⟩
  have a:=jee nd hm
  rw [jek nd (List.mem_map.mpr ⟨_,hm,rfl⟩)] at a
  exact V.int.inj (Option.some.inj a)
 refine ⟨by rw [jej wk]; exact jj4 hb ps,?_,?_,?_,?_⟩
 ·rw [jqj]
  have hpw:(triW ps ts r).Pairwise (fun a b=>HT.lexLt [a.1,a.2.1] [b.1,b.2.1] = true):=by
   have:=jod wk.t
   rw [← jen ps ts r,List.pairwise_map] at this
   exact this
  have hin:∀ d ∈ triW ps ts r,(d.1,d.2.1) ∈ ts:=fun d hd=>by
   have:=List.mem_map_of_mem (f:=fun d:Int × Int × Int=>(d.1,d.2.1)) hd
   rw [jen] at this
   exact this
  refine jkm (hpw.filter _) (fun d hd=>?_) fun d hd=>?_
  ·have:=TiOk.lt wk.t _ (hin d (List.mem_filter.mp hd).1)
   exact this
  ·have:=List.mem_filter.mp hd
   exact ⟨hin d this.1,by have:=of_decide_eq_true this.2; omega⟩
 ·unfold jfv
  rw [List.all_eq_true]
  intro t ht
  obtain ⟨m1,m2⟩:=jfj wk t ht
  rw [hat _ m1,hat _ m2]
  refine decide_eq_true ?_
  have hz:t ∈ (triW ps ts r).map (fun d=>(d.1,d.2.1)):=by rw [jen]; exact ht
  obtain ⟨d,hd,rfl⟩:=List.mem_map.mp hz
  obtain ⟨z,hz2,rfl⟩:=List.mem_map.mp hd
  exact F.two z hz2
 ·unfold jhe
  rw [List.all_eq_true]
  intro p hp
  refine decide_eq_true ?_
  rw [jqj,jk8 nn]
  have:=F.paid (List.mem_map.mpr ⟨p,hp,rfl⟩)
  rw [je4 wk p hp] at this
  unfold jdq triW
  rw [List.map_map]
  exact this
 ·rw [jqj,jog nn]
  have:=F.worth
  unfold jhl
  rw [jej wk]
  unfold triW
  rw [List.map_map,List.map_map]
  rw [List.map_map] at this
  exact this
end
end My
namespace My
open PySem L2
section
variable {P:Program} {w:World} {K:PySem.W.Frag} {mg:Str→Option Value} {base:Heap} {c1 c2 c3 c4:Tok}
theorem Dr.pl:∀ {ps:List (Int × Int)} {l s:Int},Dr l ps→l + 23 * ps.length ≤ 999→s + 1000000000 * ps.length ≤ 1000000000000→PlOk l s ps
 | [],_,_,_,_,_=>trivial
 | p :: r,l,s,h,h1,h2=>by
  have e:((p :: r).length:Int) = r.length + 1:=by simp
  rw [e] at h1 h2
  obtain ⟨⟨a1,a2,a3,a4⟩,h3⟩:=h
  exact ⟨⟨a1,by omega,a3,by omega⟩,Dr.pl h3 (by omega) (by omega)⟩
theorem Dr.gt:∀ {ps:List (Int × Int)} {l:Int},Dr l ps→∀ p ∈ ps,l < p.1
 | [],_,_,_,h=>by cases h
 | q :: r,l,h,p,hp=>by
  rcases List.mem_cons.mp hp with e | hp
  ·rw [e]; exact h.1.1
  ·have:=Dr.gt h.2 p hp
   have:=h.1.1
   omega
theorem Dr.rise:∀ {ps:List (Int × Int)} {l:Int},Dr l ps→∀ (i j:Nat) (p q:Int × Int),i < j→ps[i]? = some p→ps[j]? = some q→p.1 < q.1
 | [],_,_,i,j,p,q,_,h,_=>by simp at h
 | r :: rs,l,h,i,j,p,q,hij,hi,hj=>by
  cases j with
  | zero=>omega
  | succ j =>
   have hj':rs[j]? = some q:=by simpa using hj
   cases i with
   | zero =>
    have e:r = p:=by simpa using hi
    subst e
    exact Dr.gt h.2 q (List.mem_of_getElem? hj')
   | succ i=>exact Dr.rise h.2 i j p q (by omega) (by simpa using hi) hj'
def jkh (q:Int × Int):List (Int × Int)→Int × Int
 | []=>q
 | p :: r=>jkh p r
theorem jhx:∀ {ts:List (Int × Int)} {q p:Int × Int},jkh q (ts ++ [p]) = p
 | [],_,_=>rfl
 | t :: r,_,_=>jhx (ts:=r)
theorem TiOk.snoc {kvs:List (Key × V)}:∀ {ts:List (Int × Int)} {q p:Int × Int},TiOk kvs q ts→(HT.lexLt [(jkh q ts).1,(jkh q ts).2] [p.1,p.2] = true∧p.1 < p.2∧hasK kvs p.1 = true∧hasK kvs p.2 = true)→TiOk kvs q (ts ++ [p])
 | [],_,_,_,h=>⟨h,trivial⟩
 | t :: r,_,_,h,h2=>⟨h.1,TiOk.snoc h.2 h2⟩
theorem PlOk.rise:∀ {ps:List (Int × Int)} {l s:Int},PlOk l s ps→∀ (i j:Nat) (p q:Int × Int),i < j→ps[i]? = some p→ps[j]? = some q→p.1 < q.1
 | [],_,_,_,i,j,p,q,_,h,_=>by simp at h
 | r :: rs,l,s,h,i,j,p,q,hij,hi,hj=>by
  cases j with
  | zero=>omega
  | succ j =>
   have hj':rs[j]? = some q:=by simpa using hj
   cases i with
   | zero =>
    have e:r = p:=by simpa using hi
    subst e
    exact PlOk.gt h.2 q (List.mem_of_getElem? hj')
   | succ i=>exact PlOk.rise h.2 i j p q (by omega) (by simpa using hi) hj'
theorem jub {H:Hp} {a st:Addr} {xs:List V} {ps:List (Int × Int)} {o:HO} (ha:H a = some (.lst xs)) (pp:Prs H xs ps) (hs:H st = some o) (so:StO o):a ≠ st:=by
 intro z
 obtain ⟨c,s,f,e,_⟩:=so
 rw [z,hs,e] at ha
 cases ha
 cases pp with
 | cons r _=>obtain ⟨t,e,_⟩:=r; cases e
theorem jdh.but {H H':Hp} {st:Addr} {o:HO} {v:V} {ps ts:List (Int × Int)} (h:jdh H v ps ts) (hs:H st = some o) (so:StO o) (b:But st H H'):jdh H' v ps ts:=by
 obtain ⟨u,pa,ta,xs,ys,e,h1,h2,h3,h4,h5⟩:=h
 have t:=b.tups hs so.imm
 exact ⟨u,pa,ta,xs,ys,e,t _ _ rfl h1,b _ _ (jub h2 h4 hs so) h2,b _ _ (jub h3 h5 hs so) h3,Prs.tups t h4,Prs.tups t h5⟩
def jsp:Sp:=fun vs H Q _=>∃ s o m,vs = [.ref s,.int m]∧H s = some o∧StO o∧0 ≤ m∧m ≤ 10 ∧
 ∀ v H' o' ps ts,But s H H'→H' s = some o'→StO o'→jdh H' v ps ts→WebOk ps ts→Dr (-1) ps→(ps.length:Int) ≤ m→ts.length ≤ 110→Q v H'
theorem jtd {ps:List (Int × Int)} (hn:(ps.map (·.1)).Nodup) {i:Nat} {p:Int × Int} (h:ps[i]? = some p):hasK (jce ps) p.1 = true:=jq9 hn (List.mem_of_getElem? h)
theorem jnk {f:Addr} {fd:FuncData} {f_law_take:Addr} {d_law_take:FuncData} {f_law_places:Addr} {d_law_places:FuncData} (B:Blt mg) (D:DefAt K mg "_law_web" (top 43) ["_law_state","_law_most"] f fd) (D_law_take:DefAt K mg "_law_take" (top 41) ["_law_state","_law_many"] f_law_take d_law_take) (G_law_take:FnOk P w K mg base CX0 1 f_law_take d_law_take ["_law_state","_law_many"] jjz) (D_law_places:DefAt K mg "_law_places" (top 42) ["_law_state","_law_count"] f_law_places d_law_places) (G_law_places:FnOk P w K mg base CX0 2 f_law_places d_law_places ["_law_state","_law_count"] jm9):FnOk P w K mg base CX0 3 f fd ["_law_state","_law_most"] jsp:=by
 have sc:FnScope ["_law_state","_law_most","_law_count","_law_places_here","_law_dense","_law_ties","_law_k","_law_j"] ["_law_state","_law_most"] (jbc (top 43)):=⟨rfl,rfl,rfl,by decide +kernel,rfl,by decide +kernel,by decide +kernel⟩
 refine D.F.ok sc (fun vs H Q E h=>?_) (fun cdv A outer s H vs Q E hr h=>?_)
 ·obtain ⟨s,o,m,rfl,_⟩:=h
  rfl
 obtain ⟨st,o,m,rfl,es,so,m0,m1,h⟩:=h
 have hu:=jc8 hr
 have hu0:_ < PySem.cLine:=Nat.lt_of_succ_lt hu
 refine ⟨_,(jaf (jbi (i:=2) sc.nd rfl (Or.inl rfl) (jbe G_law_take (hr.mono (by decide)) rfl D_law_take.m D_law_take.F.kp D_law_take.b .nil jbu (ja0 (qv 0) (ja0 (jbv jcz (qv 1) jah) jag)))) (jaf (jbi (i:=3) sc.nd rfl (Or.inl rfl) (jbe G_law_places (hr.mono (by decide)) rfl D_law_places.m D_law_places.F.kp D_law_places.b .nil jbu (ja0 (qv 0) (ja0 (qv 2) jag)))) (jaf (jbi (i:=4) sc.nd rfl (Or.inl rfl) (jbv jcz jah (jbe G_law_take (hr.mono (by decide)) rfl D_law_take.m D_law_take.F.kp D_law_take.b .nil jbu (ja0 (qv 0) (ja0 jah jag))))) (jaf (jbi (i:=5) sc.nd rfl (Or.inl rfl) (jd4 jag)) (jaf (jcv PassesOwn.never rfl (jcd rfl B.range (ja0 (qv 2) jag)) (jbb (i:=6) sc.nd rfl (Or.inl rfl)) (jb8 (jcv PassesOwn.never rfl (jk6 rfl B.range (ja0 (jbv jcz (qv 6) jah) (ja0 (qv 2) jag))) (jbb (i:=7) sc.nd rfl (Or.inl rfl)) (jb8 (jdc (jck q_lt (jbe G_law_take (hr.mono (by decide)) rfl D_law_take.m D_law_take.F.kp D_law_take.b .nil jbu (ja0 (qv 0) (ja0 jah jag))) (qv 4) (jc5 _)) (jb8 (jcb (q_bm PySem.F.plainAttrs_list PySem.F.slot_list_append PySem.F.type_list_append jcu (qv 5) (ja0 (jch (ja0 (jbh q_ix (jbh q_ix (qv 3) (qv 6) (fun _ _=>rfl)) jah (fun _ _=>rfl)) (ja0 (jbh q_ix (jbh q_ix (qv 3) (qv 7) (fun _ _=>rfl)) jah (fun _ _=>rfl)) jag))) jag)))) jc2))))) (jb8 (jbq (jch (ja0 (qv 3) (ja0 (qv 5) jag)))))))))),?_⟩
 walk_at "ND"
 refine ⟨st,o,m + 1,rfl,es,so,by omega,by omega,fun n o1 n0 n1 so1=>?_⟩
 walk_at "ND"
 refine ⟨st,o1,n,rfl,ja4,so1,n0,by omega,fun r HA oA xs ps hr0 bA eA soA er pp hlen dr=>?_⟩
 walk_at "ND"
 refine ⟨st,oA,4,rfl,eA,soA,by decide,by decide,fun dn oB d0 d1 soB=>?_⟩
 have nr:r ≠ st:=fun z=>by rw [z,ja4] at hr0; cases hr0
 have hr1:H r = none:=by rw [← hr0,jba nr]
 have bB:But st H (upd HA st oB):=((But.at st H o1).trans bA).trans (But.at st HA oB)
 have tB:TupS HA (upd HA st oB):=(But.at st HA oB).tups eA soA.imm
 have erB:upd HA st oB r = some (.lst xs):=by rw [jba nr]; exact er
 have eB:upd HA st oB st = some oB:=ja4
 have pB:Prs (upd HA st oB) xs ps:=Prs.tups tB pp
 generalize upd HA st oB = HB at bB erB eB pB
 clear tB pp er eA bA soA
 have hpl:ps.length ≤ 12:=by omega
 have plok:=dr.pl (s:=0) (by omega) (by omega)
 have hnd:=plok.nodup
 have hlx:xs.length = ps.length:=Paired.length pB
 have rise:=dr.rise
 walk_at "ND"
 intro tl htl
 have ntl:tl ≠ st:=(jaj eB htl).symm
 have nrt:r ≠ tl:=jaj erB htl
 have htl0:H tl = none:=by
  cases q:H tl with
  | none=>rfl
  | some u=>rw [bB _ _ ntl q] at htl; cases htl
 refine jc0 (Itr 0 ps.length) (upd HB tl (.lst [])) (fun R hR=>?_) (jdf (n:=ps.length) (fun k σ H1=>∃ kk jj zs ts o',σ = [some (.ref st),some (.int m),some (.int n),some (.ref r),some (.int (1 + dn)),some (.ref tl),kk,jj]∧But st H H1∧H1 st = some o'∧StO o'∧H1 r = some (.lst xs)∧Prs H1 xs ps∧H1 tl = some (.lst zs)∧Prs H1 zs ts∧TiOk (jce ps) (-1,-1) ts∧(∀ (j:Nat) (p:Int × Int),k ≤ j→ps[j]? = some p→(jkh (-1,-1) ts).1 < p.1)∧(ts.length ≤ 11 * k∧ts.length ≤ 111)) ?_ ?_ ?_)
 ·unfold jfz
  walk_at "ND"
  exact ⟨n,rfl,by omega,by omega,by rw [← hlen]; exact hR⟩
 ·refine ⟨none,none,[],[],oB,rfl,bB.trans (But.new htl),by rw [jba ntl.symm]; exact eB,soB,by rw [jba nrt]; exact erB,Prs.tups (jg1 htl) pB,ja4,.nil,trivial,fun j p _ hp=>?_,by simp⟩
  have:=dr.gt p (List.mem_of_getElem? hp)
  exact this
 ·rintro k σ H1 hk ⟨kk,jj,zs,ts,o',rfl,b1,e1,so',er1,pp1,etl,pz,tok,hlast,htn⟩
  obtain ⟨lt0,hlt0⟩:∃ n:Nat,n = ts.length:=⟨_,rfl⟩
  have xk:ps[k]? = some ps[k]:=List.getElem?_eq_getElem hk
  generalize ps[k] = pk at xk
  walk_at "ND"
  refine jc0 (Itr (0 + (k:Int) + 1) (ps.length - (k + 1))) H1 (fun R hR=>?_) (jdf (n:=ps.length - (k + 1)) (fun i σ H2=>∃ jj zs ts o',σ = [some (.ref st),some (.int m),some (.int n),some (.ref r),some (.int (1 + dn)),some (.ref tl),some (.int (0 + (k:Int))),jj]∧But st H H2∧H2 st = some o'∧StO o'∧H2 r = some (.lst xs)∧Prs H2 xs ps∧H2 tl = some (.lst zs)∧Prs H2 zs ts∧TiOk (jce ps) (-1,-1) ts∧((jkh (-1,-1) ts).1 < pk.1 ∨ ((jkh (-1,-1) ts).1 = pk.1∧∀ (j:Nat) (p:Int × Int),k + 1 + i ≤ j→ps[j]? = some p→(jkh (-1,-1) ts).2 < p.1))∧ts.length ≤ lt0 + i) ?_ ?_ ?_)
  ·unfold jun
   walk_at "ND"
   refine ⟨_,_,rfl,⟨by omega,by omega,by omega,by omega⟩,?_⟩
   have e:(n - (0 + (k:Int) + 1)).toNat = ps.length - (k + 1):=by omega
   rw [e]
   exact hR
  ·exact ⟨jj,zs,ts,o',rfl,b1,e1,so',er1,pp1,etl,pz,tok,.inl (hlast k pk (Nat.le_refl _) xk),by omega⟩
  ·rintro i σ H2 hi ⟨jj2,zs2,ts2,o2,rfl,b2,e2,so2,er2,pp2,etl2,pz2,tok2,hl2,htn2⟩
   have hj:k + 1 + i < ps.length:=by omega
   have xj:ps[k + 1 + i]? = some ps[k + 1 + i]:=List.getElem?_eq_getElem hj
   generalize ps[k + 1 + i] = pj at xj
   have hkj:=rise k (k + 1 + i) pk pj (by omega) xk xj
   walk_at "ND"
   refine ⟨st,o2,5,rfl,e2,so2,by decide,by decide,fun d3 o3 d30 d31 so3=>?_⟩
   have b3:But st H2 (upd H2 st o3):=But.at _ _ _
   have t3:TupS H2 (upd H2 st o3):=b3.tups e2 so2.imm
   have er3:=b3 _ _ nr er2
   have etl3:=b3 _ _ ntl etl2
   have e3:upd H2 st o3 st = some o3:=ja4
   generalize upd H2 st o3 = H3 at b3 t3 er3 etl3 e3
   walk_at "ND"
   refine ite2 (fun c=>?_) (fun c=>?_)
   ·obtain ⟨uk,gk,hgk⟩:=jbo pp2 xk
    obtain ⟨uj,gj,hgj⟩:=jbo pp2 xj
    obtain ⟨tk,ek,hk3⟩:=hgk.tups t3
    obtain ⟨tj,ej,hj3⟩:=hgj.tups t3
    have ak:atI xs (0 + (k:Int)) = some (.ref tk):=by rw [Int.zero_add,← ek]; exact jbz gk
    have aj:atI xs (0 + (k:Int) + 1 + (i:Int)) = some (.ref tj):=by
     rw [show 0 + (k:Int) + 1 + (i:Int) = ((k + 1 + i:Nat):Int) by omega,← ej]
     exact jbz gj
    refine ⟨⟨tl,_,rfl,etl3⟩,?_⟩
    simp_all_arith [jbl,er3,ak,aj,hk3,hj3,at0]
    intro t ht
    have etl4:=jai ht (.tup [.int pk.1,.int pj.1]) _ _ etl3
    simp_all_arith [etl4]
    have t6:=jca (ys:=zs2 ++ [.ref t]) etl4
    have nst:st ≠ tl:=ntl.symm
    have hz2:zs2.length = ts2.length:=Paired.length pz2
    refine ⟨szl' (by omega),_,zs2 ++ [.ref t],ts2 ++ [(pk.1,pj.1)],o3,rfl,fun b u nb q=>?_,?_,so3,?_,Prs.tups ((t3.trans (jg1 ht)).trans t6) pp2,(by first | rfl | exact ja4),jbt (Prs.tups ((t3.trans (jg1 ht)).trans t6) pz2) (Pr.tups ⟨t,rfl,ja4⟩ t6),?_,?_,?_⟩
    ·have q3:=b3 _ _ nb (b2 _ _ nb q)
     rw [jba (jaj q htl0),jba (jaj q3 ht)]
     exact q3
    ·rw [jba nst,jba (jaj e3 ht)]
     exact e3
    ·rw [jba nrt,jba (jaj er3 ht)]
     exact er3
    ·refine tok2.snoc ⟨?_,hkj,(show hasK _ pk.1 = true from jtd hnd xk),(show hasK _ pj.1 = true from jtd hnd xj)⟩
     rcases hl2 with q | ⟨q1,q2⟩
     ·exact jt9 q
     ·rw [q1]
      exact jta (q2 _ pj (Nat.le_refl _) xj)
    ·rw [jhx]
     exact .inr ⟨rfl,fun j p hj2 hp=>rise _ _ pj p (by omega) xj hp⟩
    ·rw [List.length_append]
     show _ + 1 ≤ _
     omega
   ·refine ⟨_,zs2,ts2,o3,rfl,b2.trans b3,e3,so3,er3,Prs.tups t3 pp2,etl3,Prs.tups t3 pz2,tok2,?_,by omega⟩
    rcases hl2 with q | ⟨q1,q2⟩
    ·exact .inl q
    ·exact .inr ⟨q1,fun j p hj2 hp=>q2 j p (by omega) hp⟩
  ·rintro σ H2 ⟨jj2,zs2,ts2,o2,rfl,b2,e2,so2,er2,pp2,etl2,pz2,tok2,hl2,htn2⟩
   refine ⟨_,jj2,zs2,ts2,o2,rfl,b2,e2,so2,er2,pp2,etl2,pz2,tok2,fun j p hj hp=>?_,by omega⟩
   have:=rise k j pk p (by omega) xk hp
   rcases hl2 with q | ⟨q1,_⟩
   ·omega
   ·omega
 ·rintro σ H1 ⟨kk,jj,zs,ts,o',rfl,b1,e1,so',er1,pp1,etl,pz,tok,hlast,htn⟩
  walk_at "ND"
  intro wv hwv
  have s1:=jai hwv (.tup [.ref r,.ref tl])
  exact h _ _ o' ps ts (b1.trans (But.new hwv)) (s1 _ _ e1) so' ⟨wv,r,tl,xs,zs,rfl,ja4,s1 _ _ er1,s1 _ _ etl,Prs.same s1 pp1,Prs.same s1 pz⟩ ⟨by omega,plok,by omega,tok⟩ dr (by omega) (by omega)
end
end My
namespace L2
open PySem PySem.Spec PyProof.Rows
section
variable {X:Cx}
theorem jlw (a:Value):argsOk "max" ⟨[a],[]⟩:=by unfold argsOk; kernel_rfl
def rMaxN:List V→Hp→VK→Prop:=fun vs H Q=>∃ (p:Addr) (ns:List Int),vs = [.ref p]∧H p = some (.lst (ns.map V.int))∧ns ≠ [] ∧
 ∀ m,m ∈ ns→(∀ x ∈ ns,x ≤ m)→Q (.int m) H
theorem jks (hc:X.calm = true):jda X (.builtin "max") rMaxN:=by
 intro pins s σ H xs us Q I r h
 obtain ⟨p,ns,rfl,e,hne,q⟩:=h
 obtain ⟨u,rfl,rx⟩:=jjl r
 cases rx
 obtain ⟨z,its,c,r',hlen,e'⟩:=I.lstM e
 have hI:=jcm r'
 have plt:p < s.heap.objs.size:=Heap.lt_size e'
 have hL:s.heap.IsList p its.toArray:=⟨_,e',rfl,_,rfl⟩
 refine call_function_tree PySem.F.kind_max PySem.F.plain_max PySem.F.entry_max (jlw _) ?_
 show wpAny _ X.A.in1 (Builtin.Builtins.bindParams "max" ["key","default"] 0 ⟨[],[]⟩ >>= _) _ _ s
 refine wpAny_bind (wpAny_of_eq (show Builtin.Builtins.bindParams "max" ["key","default"] 0 ⟨[],[]⟩ = pure [none,none] from rfl) ?_)
 refine wpAny_bind (wpAny_pure ?_)
 refine wpAny_bind (wpAny_pyIter_list hL ?_)
 refine wpAny_bind (wpAny_newList ?_ (Nat.zero_le _))
 rw [je6]
 have hS:(s.heap.push { cls:=.type "list_iterator",data:=.fields #[.ref p,.int 0 0] }).objs.size = s.heap.objs.size + 1:=size_push' ..
 have W:=Walks.list (prog:=X.prog) (w:=X.w) (A:=X.A.in1) (show X.A.in1.handled = none from I.ok.hd hc) s.heap.objs.size p (Nat.ne_of_lt plt) its.toArray
 have hsz:its.toArray.size = ns.length:=by rw [List.size_toArray,← hlen,List.length_map]
 have hval:∀ (i:Nat) (v:Value),its.toArray[i]? = some v→∃ t:Tok,v = Value.int (ns[i]?.getD 0) t:=fun i v hv=>by
  have hv':its[i]? = some v:=by simpa using hv
  have hi:i < ns.length:=by
   have:=(List.getElem?_eq_some_iff.mp hv').1
   rw [List.length_map] at hlen
   omega
  obtain ⟨u,e1,t,e2⟩:=r'.get (i:=i) (x:=.int ns[i]) (by rw [List.getElem?_map,List.getElem?_eq_getElem hi]; rfl)
  rw [hv'] at e1
  cases e1
  exact ⟨t,by rw [e2,List.getElem?_eq_getElem hi]; rfl⟩
 have kp0:∀ (h':Heap) (tk:Nat),(∀ b o,b ∉ [s.heap.objs.size]→b ≠ (s.heap.push { cls:=.type "list_iterator",data:=.fields #[.ref p,.int 0 0] }).objs.size→((s.heap.push { cls:=.type "list_iterator",data:=.fields #[.ref p,.int 0 0] }).push { cls:=.type "list",data:=.seq #[] }).get? b = some o→h'.get? b = some o) →
   Inv X pins σ H { s with heap:=h',toks:=tk }:=fun h' tk k=>I.kept fun b o qq=>k b o (by
    intro z
    have:b = s.heap.objs.size:=by simpa using z
    exact absurd (Heap.lt_size qq) (by rw [this]; exact Nat.lt_irrefl _)) (by rw [hS]; exact Nat.ne_of_lt (Nat.lt_succ_of_lt (Heap.lt_size qq))) (Heap.get?_push_of_some _ (Heap.get?_push_of_some _ qq))
 have hst0:(fun i (h:Heap)=>h.IsListIter s.heap.objs.size p i∧h.IsList p its.toArray) 0 ((s.heap.push { cls:=.type "list_iterator",data:=.fields #[.ref p,.int 0 0] }).push { cls:=.type "list",data:=.seq #[] }) :=
  ⟨⟨_,Heap.get?_push_of_some _ (Heap.get?_push_size _ rfl),rfl,rfl⟩,(hL.push _).push _⟩
 have hSg:((s.heap.push { cls:=.type "list_iterator",data:=.fields #[.ref p,.int 0 0] }).push { cls:=.type "list",data:=.seq #[] }).get? (s.heap.push { cls:=.type "list_iterator",data:=.fields #[.ref p,.int 0 0] }).objs.size = some { cls:=.type "list",dict:=none,data:=.seq #[] 0,slots:=#[] }:=Heap.get?_push_size _ rfl
 have hSf:(s.heap.push { cls:=.type "list_iterator",data:=.fields #[.ref p,.int 0 0] }).objs.size ∉ [s.heap.objs.size,p]:=by
  rw [hS]
  intro z
  rcases List.mem_cons.mp z with z | z
  ·exact absurd z (Nat.succ_ne_self _)
  ·have z:=List.mem_singleton.mp z
   rw [← z] at plt
   exact Nat.lt_irrefl _ (Nat.lt_of_succ_lt plt)
 refine wpAny_pure ⟨plainId_quiet PySem.F.plain_max_loop _,?_⟩
 refine codeAny_builtin PySem.F.entry_max_loop ?_
 rw [Around.under_plainId PySem.F.plain_max_loop _]
 show wpAny _ X.A.in1 (seqItems? (.ref _) >>= _) _ _ _
 refine wpAny_bind (wpAny_seqItems hSg rfl ?_)
 show wpAny _ X.A.in1 (tryCatch (pyNext (.ref s.heap.objs.size)) _ >>= _) _ _ _
 cases hn:ns with
 | nil=>exact absurd hn hne
 | cons n0 rest =>
  have hpos:0 < its.toArray.size:=by rw [hsz,hn]; simp
  refine wpAny_bind (wpAny_tryCatch (W.item 0 _ _ _ hpos hst0 fun v h' tk hP hst' kp=>?_))
  obtain ⟨t',rfl⟩:=hval 0 v hP
  have hS':=kp _ _ (fun z=>hSf (List.mem_cons.mpr (.inl (List.mem_singleton.mp z)))) hSg
  show wpAny _ X.A.in1 (updateSeq _ (fun _=>#[_,_]) >>= _) _ _ _
  refine wpAny_bind ?_
  refine wpAny_updateSeq hS' rfl ?_
  rw [je6]
  refine wpAny_pure ⟨plainId_quiet PySem.F.plain_max_loop _,jgy W (fun i=>ns[i]?.getD 0) hval _ _ hSf _ 1 _ _ t' _ rfl hpos (W.frame _ _ _ hst' fun b hbf o e=>?_) ⟨⟨0,Nat.one_pos,rfl⟩,fun i hi=>by
   have:i = 0:=by omega
   subst this; exact Int.le_refl _⟩ (Heap.get?_update_self _ hS' rfl) fun m u h'' tk'' hB k''=>?_⟩
  ·exact (Heap.get?_update_other _ _ (fun z=>hSf (by rw [z]; exact hbf))).trans e
  ·refine ⟨.int m,H,kp0 h'' tk'' fun b o h1 h2 h3=>k'' b o h1 h2 ((Heap.get?_update_other _ _ (Ne.symm h2)).trans (kp b o h1 h3)),⟨u,rfl⟩,q m ?_ fun x hx=>?_⟩
   ·obtain ⟨i,hi,e1⟩:=hB.1
    rw [hsz] at hi
    rw [e1]
    show ns[i]?.getD 0 ∈ ns
    rw [List.getElem?_eq_getElem hi]
    exact List.getElem_mem hi
   ·obtain ⟨i,hi,e1⟩:=List.mem_iff_getElem.mp hx
    have:ns[i]?.getD 0 ≤ m:=hB.2 i (by rw [hsz]; exact hi)
    rw [List.getElem?_eq_getElem hi] at this
    rw [← e1]
    exact this
end
end L2
namespace L2
open PySem PySem.Spec PyProof.Rows
section
variable {X:Cx}
theorem jri:MtR X "list.extend" jp3:=fun pins s σ H x xs v us Q I rx rv q=>jps pins s σ H x xs v us Q I rx rv q
def jt0:V→List V→Hp→VK→Prop:=fun x vs H Q=>∃ (l:Addr) (ns:List Int) (k:Int),x = .ref l∧vs = [.int k]∧H l = some (.lst (ns.map V.int))∧Q (.int (ns.count k:Int)) H
def isI (k:Int):Value→Bool
 | .int n _=>n == k
 | _=>false
theorem jmz (k:Int):∀ {ns:List Int} {its:List Value},Vals (ns.map V.int) its→List.countP (isI k) its = ns.count k
 | [],_,h=>by cases h; rfl
 | n :: ns,_,.cons r t=>by
  obtain ⟨u,rfl⟩:=r
  rw [List.countP_cons,jmz k t,List.count_cons]
  rfl
theorem js0:MtM X "list.count" jt0:=by
 intro pins s σ H x vs v us Q I rx rv h
 obtain ⟨l,ns,k,rfl,rfl,hH,q⟩:=h
 cases rx
 obtain ⟨u,rfl,ru⟩:=rv.one
 obtain ⟨tu,rfl⟩:=ru
 obtain ⟨z,its,n,r,hl,e⟩:=I.lstM hH
 refine call_meets F.slot_list_count ⟨_,e,rfl⟩ F.entry_list_count (F.args_list_count_2 _ _)
  (MeetsSeq.list_count l its.toArray n (.int k tu) (isI k) fun y hy=>?_) ⟨e,?_⟩
 ·obtain ⟨i,hi,e1⟩:=List.mem_iff_getElem.mp (show y ∈ its by simpa using hy)
  have hl':ns.length = its.length:=by rw [← hl,List.length_map]
  obtain ⟨w,e2,t,e3⟩:=r.get (i:=i) (x:=.int ns[i]) (by rw [List.getElem?_map,List.getElem?_eq_getElem (by omega)]; rfl)
  rw [List.getElem?_eq_getElem hi,e1] at e2
  cases e2
  subst e3
  exact MeetsSeq.EqGives.int _ _ _ _
 ·refine ⟨.int (ns.count k:Int),H,I.kept fun b o qq=>qq,⟨s.toks,?_⟩,q⟩
  rw [jmz k r]
theorem jp7:MtR X "list.count" jt0:=fun pins s σ H x xs v us Q I rx rv q=>js0 pins s σ H x xs v us Q I rx rv q
end
end L2
namespace Fl
def Rch (ns:List Int) (pr:Int→Int) (zs:List Tw) (fs:Int→Int) (SL SR:Int→Bool):Prop :=
 ∀ (A B:Int→Prop),(∀ p ∈ ns,fs p < pr p→A p)→(∀ z ∈ zs,(A z.a→B z.b)∧(A z.b→B z.a))→(∀ z ∈ zs,(0 < z.x→B z.b→A z.a)∧(0 < z.y→B z.a→A z.b))→∀ p ∈ ns,(SL p = true→A p)∧(SR p = true→B p)
section
variable {ns:List Int} {ts:List (Int × Int)} {sp:Int→Int} {hs r:List Int} {wf:Int→List Nat} {pr:Int→Int} {cap:Nat→Int}
theorem rch_rest (D:Dbl ns ts sp hs) (N:Net wf hs (arcs ns ts) (knots ns)) (C:Caps ns ts pr cap) (R:Rooms (arcs ns ts) cap r) (hr:stp wf hs (knots ns) 0 1 r = none) :
  Rch ns pr (twS ns r ts) (fsOf sp r) (fun p=>inS wf hs (knots ns) r (sp p)) (fun p=>inS wf hs (knots ns) r (sp p + ns.length)):=fun A B a1 a2 a3=>by
 have hs0:(0:Int) ≤ 0∧(0:Int) < (knots ns:Nat):=⟨Int.le_refl _,by unfold knots; omega⟩
 have h1:(1:Int) ∉ (cbOf wf hs (knots ns) 0 r).map (·.1):=t_out N (by decide) hs0 hr
 have cam:Cam hs r (arcs ns ts) 0 (cbOf wf hs (knots ns) 0 r):=spr_cam N.from' _
 unfold inS
 generalize cbOf wf hs (knots ns) 0 r = cb at h1 cam ⊢
 have inj:∀ p ∈ ns,∀ q ∈ ns,sp p = sp q→p = q:=fun p hp q hq e=>by
  obtain ⟨k,hk,ek⟩:=List.mem_iff_getElem.mp hq
  have hk':ns[k]? = some q:=by rw [List.getElem?_eq_getElem hk,ek]
  exact (D.spI hk' hp).mp (by rw [e]; exact D.spot k q hk')
 have key:∀ (i:Nat) (v:Int) (o:Option Nat),cb[i]? = some (v,o)→(∀ p ∈ ns,sp p = v→A p)∧(∀ p ∈ ns,sp p + ns.length = v→B p):=by
  intro i
  induction i using Nat.strongRecOn with
  | ind i ih =>
   intro v o hi
   by_cases i0:i = 0
   ·subst i0
    rw [cam.first] at hi
    cases hi
    exact ⟨fun p hp e=>by have:=D.spB hp; omega,fun p hp e=>by have:=D.spB hp; omega⟩
   ·obtain ⟨w,rfl,hw,hrw,hv,j,u,hj,hu,hm⟩:=cam.came i v o hi (by omega)
    have hv1:v ≠ 1:=fun e=>h1 (by rw [← e]; exact List.mem_map.mpr ⟨_,List.mem_of_getElem? hi,rfl⟩)
    obtain ⟨⟨u',o'⟩,hu2,hu3⟩:=Option.map_eq_some_iff.mp hu
    dsimp only at hu3
    subst hu3
    have hu1:u' ≠ 1:=fun e=>h1 (by rw [← e]; exact List.mem_map.mpr ⟨_,List.mem_of_getElem? hu2,rfl⟩)
    obtain ⟨iA,iB⟩:=ih j hj u' o' hu2
    unfold arcs at hw
    by_cases c1:w < 2 * ns.length
    ·obtain ⟨k,hk⟩:∃ k,w = 2 * k ∨ w = 2 * k + 1:=⟨w / 2,by omega⟩
     have kl:k < ns.length:=by omega
     obtain ⟨s1,s2⟩:=D.src k kl
     rcases hk with rfl | rfl
     ·rw [s1] at hv
      refine ⟨fun p hp e=>?_,fun p hp e=>by have:=D.spB hp; omega⟩
      have hk':ns[k]? = some ns[k]:=List.getElem?_eq_getElem kl
      have e2:=(D.spI hk' hp).mp (by omega)
      have two:=R.two k (by unfold arcs; omega)
      rw [C.src k _ hk'] at two
      refine a1 p hp ?_
      unfold fsOf
      rw [e2,D.spot k _ hk',show (2 + (k:Int) - 2).toNat = k by omega]
      omega
     ·rw [s2] at hv
      exact ⟨fun p hp e=>by have:=D.spB hp; omega,fun p hp e=>by have:=D.spB hp; omega⟩
    ·by_cases c2:w < 2 * (ns.length + ns.length)
     ·obtain ⟨k,hk⟩:∃ k,w = 2 * (ns.length + k) ∨ w = 2 * (ns.length + k) + 1:=⟨w / 2 - ns.length,by omega⟩
      obtain ⟨s1,s2⟩:=D.snk k (by omega)
      rcases hk with rfl | rfl
      ·exact absurd (hv.symm.trans s1) hv1
      ·rw [show mate (2 * (ns.length + k) + 1) = 2 * (ns.length + k) by unfold mate; rw [if_neg (by omega)]; omega] at hm
       exact absurd (hm.symm.trans s1) hu1
     ·obtain ⟨k,hk⟩:∃ k,w = 2 * (ns.length + ns.length + 2 * k) ∨ w = 2 * (ns.length + ns.length + 2 * k) + 1 ∨ w = 2 * (ns.length + ns.length + (2 * k + 1)) ∨ w = 2 * (ns.length + ns.length + (2 * k + 1)) + 1:=⟨(w / 2 - (ns.length + ns.length)) / 2,by omega⟩
      have kl:k < ts.length:=by omega
      have ht:=getD_at kl
      obtain ⟨⟨t1,t2⟩,t3,t4⟩:=D.tie k _ ht
      obtain ⟨m1,m2⟩:=D.ends _ (List.mem_of_getElem? ht)
      have hz:twAt ns r ts k ∈ twS ns r ts:=List.mem_map.mpr ⟨k,List.mem_range.mpr kl,rfl⟩
      have z2:=a2 _ hz
      have z3:=a3 _ hz
      unfold twAt at z2 z3
      dsimp only at z2 z3
      have b1:=D.spB m1
      have b2:=D.spB m2
      rcases hk with rfl | rfl | rfl | rfl
      ·rw [show mate (2 * (ns.length + ns.length + 2 * k)) = 2 * (ns.length + ns.length + 2 * k) + 1 by unfold mate; rw [if_pos (by omega)]] at hm
       have q:=z2.1 (iA _ m1 (t2.symm.trans hm))
       refine ⟨fun p hp e=>by have:=D.spB hp; omega,fun p hp e=>?_⟩
       rw [inj p hp _ m2 (by omega)]
       exact q
      ·rw [show mate (2 * (ns.length + ns.length + 2 * k) + 1) = 2 * (ns.length + ns.length + 2 * k) by unfold mate; rw [if_neg (by omega)]; omega] at hm
       have q:=z3.1 hrw (iB _ m2 (t1.symm.trans hm))
       refine ⟨fun p hp e=>?_,fun p hp e=>by have:=D.spB hp; omega⟩
       rw [inj p hp _ m1 (by omega)]
       exact q
      ·rw [show mate (2 * (ns.length + ns.length + (2 * k + 1))) = 2 * (ns.length + ns.length + (2 * k + 1)) + 1 by unfold mate; rw [if_pos (by omega)]] at hm
       have q:=z2.2 (iA _ m2 (t4.symm.trans hm))
       refine ⟨fun p hp e=>by have:=D.spB hp; omega,fun p hp e=>?_⟩
       rw [inj p hp _ m1 (by omega)]
       exact q
      ·rw [show mate (2 * (ns.length + ns.length + (2 * k + 1)) + 1) = 2 * (ns.length + ns.length + (2 * k + 1)) by unfold mate; rw [if_neg (by omega)]; omega] at hm
       have q:=z3.2 hrw (iB _ m1 (t3.symm.trans hm))
       refine ⟨fun p hp e=>?_,fun p hp e=>by have:=D.spB hp; omega⟩
       rw [inj p hp _ m2 (by omega)]
       exact q
 intro p hp
 simp only [decide_eq_true_eq]
 refine ⟨fun h=>?_,fun h=>?_⟩
 all_goals
  obtain ⟨⟨v,o⟩,hm,e⟩:=List.mem_map.mp h
  obtain ⟨i,hi⟩:=List.mem_iff_getElem?.mp hm
 ·exact (key i v o hi).1 p hp e.symm
 ·exact (key i v o hi).2 p hp e.symm
end
section
variable {ns:List Int} {pr:Int→Int} {zs:List Tw} {fs ft:Int→Int} {SL SR:Int→Bool}
theorem jjw {α:Type} {f:α→Int}:∀ {l:List α},(∀ p ∈ l,0 ≤ f p)→0 ≤ (l.map f).sum
 | [],_=>Int.le_refl _
 | a :: l,h=>by
  rw [List.map_cons,List.sum_cons]
  have:=h a (List.mem_cons_self ..)
  have:=jjw (f:=f) (l:=l) fun p hp=>h p (List.mem_cons_of_mem _ hp)
  omega
theorem Full.gap (F:Full ns pr zs fs ft SL SR) (y:Int→Int):(ns.map fun p=>y p * (2 * pr p - (fs p + ft p))).sum + (zs.map fun z=>(z.x + z.y) * (y z.a + y z.b - 2)).sum = 2 * (ns.map fun p=>pr p * y p).sum - 2 * (ns.map fun p=>pr p * halfOf SL SR p).sum:=by
 have e1:(ns.map fun p=>y p * (2 * pr p - (fs p + ft p))).sum + ((ns.map fun p=>y p * outL zs p).sum + (ns.map fun p=>y p * inR zs p).sum) = (ns.map fun p=>pr p * y p).sum + (ns.map fun p=>pr p * y p).sum:=by
  rw [← jcs,← jcs,← jcs]
  refine sum_congr fun p hp=>?_
  rw [← F.left p hp,← F.right p hp,Int.mul_sub,Int.mul_add,Int.mul_comm (pr p),← Int.mul_assoc,Int.mul_comm (y p) 2,Int.mul_assoc]
  omega
 have e2:(zs.map fun z=>(z.x + z.y) * (y z.a + y z.b - 2)).sum + ((zs.map fun z=>z.x + z.y).sum + (zs.map fun z=>z.x + z.y).sum) = (zs.map fun z=>y z.a * z.x + y z.b * z.y).sum + (zs.map fun z=>y z.b * z.x + y z.a * z.y).sum:=by
  rw [← jcs,← jcs,← jcs]
  refine sum_congr fun z _=>?_
  rw [Int.mul_sub,Int.mul_add,Int.add_mul,Int.add_mul,Int.mul_comm z.x,Int.mul_comm z.y,Int.mul_comm z.x,Int.mul_comm z.y]
  omega
 rw [jg6 y F.nd F.ends,jlz y F.nd F.ends] at e1
 rw [F.worth] at e2
 omega
theorem Full.nnP (F:Full ns pr zs fs ft SL SR) {y:Int→Int} (y0:∀ p ∈ ns,0 ≤ y p):∀ p ∈ ns,0 ≤ y p * (2 * pr p - (fs p + ft p)):=fun p hp=>by
 have a:=F.capL p hp
 have b:=F.capR p hp
 exact Int.mul_nonneg (y0 p hp) (by omega)
theorem Full.nnZ (F:Full ns pr zs fs ft SL SR) {y:Int→Int} (y2:∀ z ∈ zs,2 ≤ y z.a + y z.b):∀ z ∈ zs,0 ≤ (z.x + z.y) * (y z.a + y z.b - 2):=fun z hz=>by
 have a:=F.pos z hz
 have b:=y2 z hz
 exact Int.mul_nonneg (by omega) (by omega)
theorem Full.least (F:Full ns pr zs fs ft SL SR) {y:Int→Int} (y0:∀ p ∈ ns,0 ≤ y p) (y2:∀ z ∈ zs,2 ≤ y z.a + y z.b):(ns.map fun p=>pr p * halfOf SL SR p).sum ≤ (ns.map fun p=>pr p * y p).sum:=by
 have g:=F.gap y
 have a:=jjw (F.nnP y0)
 have b:=jjw (F.nnZ y2)
 omega
theorem jo6 {a b:Int} (h:a * b ≤ 0) (ha:0 ≤ a) (hb:0 < b):a = 0:=by
 by_cases c:a = 0
 ·exact c
 ·have:=Int.mul_pos (show 0 < a by omega) hb
  omega
theorem Full.agree (F:Full ns pr zs fs ft SL SR) (W:Rch ns pr zs fs SL SR) {y:Int→Int} (y0:∀ p ∈ ns,0 ≤ y p∧y p ≤ 2) (y2:∀ z ∈ zs,2 ≤ y z.a + y z.b) (hc:(ns.map fun p=>pr p * y p).sum ≤ (ns.map fun p=>pr p * halfOf SL SR p).sum):∀ p ∈ ns,(SL p = true→y p = 0)∧(SR p = true→y p = 2):=by
 have g:=F.gap y
 have n1:=F.nnP fun p hp=>(y0 p hp).1
 have n2:=F.nnZ y2
 have s1:=jjw n1
 have s2:=jjw n2
 have l1:=le_sum n1
 have l2:=le_sum n2
 refine W (fun p=>y p = 0) (fun p=>y p = 2) (fun p hp h=>?_) (fun z hz=>?_) (fun z hz=>?_)
 ·have a:=F.capR p hp
  have:=l1 p hp
  exact jo6 (b:=2 * pr p - (fs p + ft p)) (by omega) (y0 p hp).1 (by omega)
 ·obtain ⟨i1,i2⟩:=F.ends z hz
  have:=y0 _ i1
  have:=y0 _ i2
  have:=y2 z hz
  exact ⟨fun h=>by omega,fun h=>by omega⟩
 ·have:=l2 z hz
  have hp:=F.pos z hz
  have h2:=y2 z hz
  refine ⟨fun h h3=>?_,fun h h3=>?_⟩
  all_goals
   have q:=jo6 (a:=y z.a + y z.b - 2) (b:=z.x + z.y) (by rw [Int.mul_comm]; omega) (by omega) (by omega)
   omega
theorem Full.fixed (F:Full ns pr zs fs ft SL SR) (W:Rch ns pr zs fs SL SR) {y:Int→Int} (y0:∀ p ∈ ns,0 ≤ y p∧y p ≤ 2) (y2:∀ z ∈ zs,2 ≤ y z.a + y z.b) (hc:(ns.map fun p=>pr p * y p).sum ≤ (ns.map fun p=>pr p * halfOf SL SR p).sum):∀ p ∈ ns,halfOf SL SR p ≠ 1→y p = halfOf SL SR p:=fun p hp h=>by
 obtain ⟨a,b⟩:=F.agree W y0 y2 hc p hp
 unfold halfOf at h ⊢
 cases e1:SL p <;> cases e2:SR p <;> rw [e1,e2] at h
 ·exact absurd rfl h
 ·rw [b e2]; rfl
 ·rw [a e1]; rfl
 ·exact absurd rfl h
end
end Fl
namespace My
open PySem L2
section
variable {P:Program} {w:World} {K:PySem.W.Frag} {mg:Str→Option Value} {base:Heap} {c1 c2 c3 c4:Tok} {C_NoWeb f_NoWeb:Addr} {dI:FuncData}
theorem jf0:∀ (ps:List (Int × Int)),jd8 (ps.map jcj) ≤ 1
 | []=>by rw [List.map_nil,jd8]; omega
 | p :: r=>by
  rw [List.map_cons,jd8]
  have:=jf0 r
  have e:depP (jcj p) = 1:=rfl
  omega
theorem jox {a b:TS} {D:Ends} {σ:St} {H:Hp} (h:∀ R E,R = b→E = D→tSeq a R E σ H):tSeq a b D σ H:=h b D rfl rfl
theorem tp_rep {H:Hp} {v:V} {d:Int × Int × Int} (h:Tp H v d):Rep H (jdn d) v:=by
 obtain ⟨t,e,q⟩:=h
 rw [jdn,Rep]
 refine ⟨t,_,e,q,?_⟩
 rw [Reps]
 refine ⟨_,_,rfl,by rw [Rep],?_⟩
 rw [Reps]
 refine ⟨_,_,rfl,by rw [Rep],?_⟩
 rw [Reps]
 exact ⟨_,_,rfl,by rw [Rep],by rw [Reps]⟩
theorem jm5 {H:Hp}:∀ {xs:List V} {ds:List (Int × Int × Int)},Tps H xs ds→Reps H (ds.map jdn) xs
 | _,_,.nil=>by rw [List.map_nil,Reps]
 | _,_,.cons r t=>by
  rw [List.map_cons,Reps]
  exact ⟨_,_,rfl,tp_rep r,jm5 t⟩
def papT (hs:List (Int × Int)) (qs:List (Int × Int × Int)):Dt:=.tup [.lst (hs.map jcj),.lst (qs.map jdn)]
theorem jru {H:Hp} {t l1 l2:Addr} {zs us:List V} {hs:List (Int × Int)} {qs:List (Int × Int × Int)} (e:H t = some (.tup [.ref l1,.ref l2])) (e1:H l1 = some (.lst zs)) (e2:H l2 = some (.lst us)) (p:Prs H zs hs) (q:Tps H us qs):Rep H (papT hs qs) (.ref t):=by
 rw [papT,Rep]
 refine ⟨t,_,rfl,e,?_⟩
 rw [Reps]
 refine ⟨_,_,rfl,by rw [Rep]; exact ⟨l1,zs,rfl,e1,Prs.reps p⟩,?_⟩
 rw [Reps]
 exact ⟨_,_,rfl,by rw [Rep]; exact ⟨l2,us,rfl,e2,jm5 q⟩,by rw [Reps]⟩
theorem jnh {hs:List (Int × Int)} {qs:List (Int × Int × Int)} (h:qs.length ≤ 200):jsx (papT hs qs):=fun a b e ds e2=>by
 unfold papT at e
 cases e
 cases e2
 rw [List.length_map]
 exact h
theorem juv (ps ts:List (Int × Int)) (r:List Int):(duT ps ts r).length ≤ ts.length:=by
 unfold duT duR
 refine Nat.le_trans (List.length_filter_le _ _) ?_
 rw [List.length_map,List.length_range]
 exact Nat.le_refl _
theorem js9 (ps ts:List (Int × Int)) (r:List Int):(halT ps ts r).length = ps.length:=by
 unfold halT halR
 rw [List.length_map,List.length_range]
theorem rch_of {ps ts:List (Int × Int)} {r:List Int} (wk:WebOk ps ts) (h:Rst ps ts r):Fl.Rch (ps.map (·.1)) (hOf ps) (Fl.twS (ps.map (·.1)) r ts) (Fl.fsOf (spF ps) r) (SLw ps ts r) (SRw ps ts r):=by
 have hl:(ps.map (·.1)).length = ps.length:=List.length_map _
 have e1:(jcg ps ts).length = Fl.arcs (ps.map (·.1)) ts:=by rw [jf3]; unfold Fl.arcs; rw [hl]
 have e2:knN ps = Fl.knots (ps.map (·.1)):=by unfold knN Fl.knots; rw [hl]
 have D:Fl.Dbl (ps.map (·.1)) ts (spF ps) (Fl.hsA (jcg ps ts)):=Fl.dbl_of wk.p.nodup (fun i p hp=>jmc wk hp) (jfj wk)
 have C:Fl.Caps (ps.map (·.1)) ts (hOf ps) (Fl.capA (jcg ps ts)):=Fl.caps_of (je4 wk) fun p hp=>by
  have h0:∀ q ∈ ps,0 ≤ q.2:=fun q hq=>by have:=wk.p.pos q hq; omega
  have:=Fl.le_sum (f:=fun q:Int × Int=>q.2) h0 p hp
  unfold plW
  omega
 obtain ⟨rm,bal⟩:=h.rooms wk
 have N:=netW wk
 have en:=h.end_
 rw [e1] at rm bal N
 rw [e2] at N en
 have F:=Fl.rch_rest D N C rm en
 rw [hl] at F
 unfold SLw SRw inW
 rw [e2]
 exact F
theorem tw_in {ps ts:List (Int × Int)} {r:List Int}:∀ z ∈ Fl.twS (ps.map (·.1)) r ts,(z.a,z.b) ∈ ts:=fun z hz=>by
 unfold Fl.twS at hz
 obtain ⟨j,hj,rfl⟩:=List.mem_map.mp hz
 exact List.mem_of_getElem? (Fl.getD_at (List.mem_range.mp hj))
theorem ji8 {ps ts:List (Int × Int)} (wk:WebOk ps ts) (y:Int→Int):((ps.map (·.1)).map fun n=>hOf ps n * y n).sum = (ps.map fun p=>p.2 * y p.1).sum:=by
 rw [List.map_map]
 exact Fl.sum_congr fun p hp=>by show hOf ps p.1 * _ = _; rw [je4 wk p hp]
def jja (ps:List (Int × Int)) (y:Int→Int):Int:=(ps.map fun p=>p.2 * y p.1).sum
structure Cov (ps ts:List (Int × Int)) (y:Int→Int):Prop where
 b:∀ p ∈ ps,0 ≤ y p.1∧y p.1 ≤ 2
 t:∀ t ∈ ts,2 ≤ y t.1 + y t.2
theorem jsh {ps ts:List (Int × Int)} {r:List Int} (wk:WebOk ps ts) (h:Rst ps ts r):Cov ps ts (hfW ps ts r):=by
 refine ⟨fun p _=>Fl.half_in p.1,fun t ht=>?_⟩
 have F:=jj7 wk h
 have hz:t ∈ (triW ps ts r).map (fun d=>(d.1,d.2.1)):=by rw [jen]; exact ht
 obtain ⟨d,hd,rfl⟩:=List.mem_map.mp hz
 obtain ⟨z,hz2,rfl⟩:=List.mem_map.mp hd
 exact F.two z hz2
theorem jn7 {ps ts:List (Int × Int)} {r:List Int} (wk:WebOk ps ts) (h:Rst ps ts r) {y:Int→Int} (c:Cov ps ts y):jja ps (hfW ps ts r) ≤ jja ps y:=by
 have:=(jj7 wk h).least (y:=y) (fun n hn=>by obtain ⟨p,hp,rfl⟩:=List.mem_map.mp hn; exact (c.b p hp).1) fun z hz=>c.t _ (tw_in z hz)
 rw [ji8 wk,ji8 wk] at this
 exact this
theorem jn8 {ps ts:List (Int × Int)} {r:List Int} (wk:WebOk ps ts) (h:Rst ps ts r) {y:Int→Int} (c:Cov ps ts y) (hc:jja ps y ≤ jja ps (hfW ps ts r)):∀ p ∈ ps,hfW ps ts r p.1 ≠ 1→y p.1 = hfW ps ts r p.1:=fun p hp=>by
 refine (jj7 wk h).fixed (rch_of wk h) (fun n hn=>by obtain ⟨p,hp,rfl⟩:=List.mem_map.mp hn; exact c.b p hp) (fun z hz=>c.t _ (tw_in z hz)) ?_ p.1 (List.mem_map.mpr ⟨p,hp,rfl⟩)
 rw [ji8 wk,ji8 wk]
 exact hc
def nmA (ps:List (Int × Int)) (k:Nat):Int:=(ps.getD k (0,0)).1
def rowP (ps:List (Int × Int)) (row:List Int):List (Int × Int):=(List.range ps.length).map fun k=>(nmA ps k,row.getD k 0)
def jci (ps:List (Int × Int)) (row:List Int):Int:=((List.range row.length).map fun k=>(ps.getD k (0,0)).2 * row.getD k 0).sum
structure GoodN (ps ts:List (Int × Int)) (n:Nat) (row:List Int):Prop where
 l:row.length = n
 b:∀ h ∈ row,0 ≤ h∧h ≤ 2
 t:∀ j k:Nat,j < k→k < n→(nmA ps j,nmA ps k) ∈ ts→2 ≤ row.getD j 0 + row.getD k 0
theorem jdd {ps:List (Int × Int)} {k:Nat} {p:Int × Int} (h:ps[k]? = some p):nmA ps k = p.1:=by unfold nmA; rw [jd1 h]
theorem jrd (ps:List (Int × Int)) (row:List Int):(rowP ps row).map (·.1) = ps.map (·.1):=by
 unfold rowP
 rw [List.map_map]
 apply List.ext_getElem?
 intro i
 rw [List.getElem?_map,List.getElem?_map]
 by_cases c:i < ps.length
 ·rw [List.getElem?_range c,List.getElem?_eq_getElem c]
  show some (nmA ps i) = _
  rw [jdd (List.getElem?_eq_getElem c)]
  rfl
 ·rw [List.getElem?_eq_none (by rw [List.length_range]; omega),List.getElem?_eq_none (by omega)]
  rfl
theorem jfb {ps ts:List (Int × Int)} (wk:WebOk ps ts) (row:List Int) {k:Nat} (hk:k < ps.length):hOf (rowP ps row) (nmA ps k) = row.getD k 0:=by
 have nd:((rowP ps row).map (·.1)).Nodup:=by rw [jrd]; exact wk.p.nodup
 have hm:(nmA ps k,row.getD k 0) ∈ rowP ps row:=List.mem_map.mpr ⟨k,List.mem_range.mpr hk,rfl⟩
 have a:=jee nd hm
 rw [jek nd (List.mem_map.mpr ⟨_,hm,rfl⟩)] at a
 exact V.int.inj (Option.some.inj a)
theorem jq7 {ps:List (Int × Int)} {n:Int} (h:n ∈ ps.map (·.1)):∃ k,k < ps.length∧nmA ps k = n:=by
 obtain ⟨p,hp,rfl⟩:=List.mem_map.mp h
 obtain ⟨k,hk,e⟩:=List.mem_iff_getElem.mp hp
 exact ⟨k,hk,by rw [jdd (List.getElem?_eq_getElem hk),e]⟩
theorem nmA_lt {ps ts:List (Int × Int)} (wk:WebOk ps ts) {j k:Nat} (hj:j < ps.length) (hk:k < ps.length):nmA ps j < nmA ps k ↔ j < k:=by
 have up:∀ {j k:Nat},j < k→k < ps.length→nmA ps j < nmA ps k:=fun {j k} h h2=>by
  rw [jdd (List.getElem?_eq_getElem (show j < ps.length by omega)),jdd (List.getElem?_eq_getElem h2)]
  exact wk.p.rise j k _ _ h (List.getElem?_eq_getElem _) (List.getElem?_eq_getElem _)
 constructor
 ·intro h
  by_cases c:j < k
  ·exact c
  ·by_cases c2:j = k
   ·subst c2; omega
   ·have:=up (show k < j by omega) hj
    omega
 ·exact fun h=>up h hk
theorem jlp {row:List Int} {k:Nat} (hk:k < row.length):row.getD k 0 ∈ row:=by
 rw [List.getD_eq_getElem?_getD,List.getElem?_eq_getElem hk]
 exact List.getElem_mem hk
theorem jj5 {ps ts:List (Int × Int)} (wk:WebOk ps ts) {row:List Int} (g:GoodN ps ts ps.length row):Cov ps ts (hOf (rowP ps row)):=by
 refine ⟨fun p hp=>?_,fun t ht=>?_⟩
 ·obtain ⟨k,hk,e⟩:=jq7 (List.mem_map.mpr ⟨p,hp,rfl⟩:p.1 ∈ ps.map (·.1))
  rw [← e,jfb wk row hk]
  exact g.b _ (jlp (by rw [g.l]; exact hk))
 ·obtain ⟨m1,m2⟩:=jfj wk t ht
  obtain ⟨j,hj,e1⟩:=jq7 m1
  obtain ⟨k,hk,e2⟩:=jq7 m2
  have lt:=(TiOk.in wk.t t ht).1
  rw [← e1,← e2] at lt
  have:=g.t j k ((nmA_lt wk hj hk).mp lt) hk (by rw [e1,e2]; exact ht)
  rw [← e1,← e2,jfb wk row hj,jfb wk row hk]
  exact this
theorem joh {α:Type} (f:α→Int) (d:α):∀ l:List α,(l.map f).sum = ((List.range l.length).map fun k=>f (l.getD k d)).sum:=fun l=>by
 congr 1
 apply List.ext_getElem?
 intro i
 rw [List.getElem?_map,List.getElem?_map]
 by_cases c:i < l.length
 ·rw [List.getElem?_range c,List.getElem?_eq_getElem c]
  show _ = some (f (l.getD i d))
  rw [List.getD_eq_getElem?_getD,List.getElem?_eq_getElem c]
  rfl
 ·rw [List.getElem?_eq_none (by omega),List.getElem?_eq_none (by rw [List.length_range]; omega)]
  rfl
theorem jn1 {ps ts:List (Int × Int)} (wk:WebOk ps ts) {row:List Int} (hl:row.length = ps.length):jja ps (hOf (rowP ps row)) = jci ps row:=by
 unfold jja jci
 rw [joh _ (0,0),hl]
 refine Fl.sum_congr fun k hk=>?_
 have:=jfb wk row (List.mem_range.mp hk)
 unfold nmA at this
 rw [this]
theorem jqt {ps ts:List (Int × Int)} (wk:WebOk ps ts) {row:List Int} (hl:row.length = ps.length):jhl ps (rowP ps row) = jci ps row:=by
 unfold jhl rowP jci
 rw [List.map_map,hl]
 refine Fl.sum_congr fun k hk=>?_
 have c:=List.mem_range.mp hk
 show hOf ps (nmA ps k) * _ = _
 have e:=List.getElem?_eq_getElem c
 rw [jdd e,je4 wk _ (List.getElem_mem c),jd1 e]
def jeb (ps ts:List (Int × Int)) (r:List Int):List Int:=ps.map fun p=>hfW ps ts r p.1
theorem jeo {ps ts:List (Int × Int)} {r:List Int} {k:Nat} (hk:k < ps.length):(jeb ps ts r).getD k 0 = hfW ps ts r (nmA ps k):=by
 unfold jeb
 rw [List.getD_eq_getElem?_getD,List.getElem?_map,List.getElem?_eq_getElem hk,jdd (List.getElem?_eq_getElem hk)]
 rfl
theorem jga (ps ts:List (Int × Int)) (r:List Int):(jeb ps ts r).length = ps.length:=List.length_map _
theorem jn9 {ps ts:List (Int × Int)} {r:List Int} (wk:WebOk ps ts) (h:Rst ps ts r):GoodN ps ts ps.length (jeb ps ts r):=by
 have c:=jsh wk h
 refine ⟨jga ..,fun x hx=>?_,fun j k hjk hk ht=>?_⟩
 ·obtain ⟨p,hp,rfl⟩:=List.mem_map.mp hx
  exact c.b p hp
 ·rw [jeo (by omega),jeo hk]
  exact c.t _ ht
theorem jf8 {ps ts:List (Int × Int)} {r:List Int}:jci ps (jeb ps ts r) = jja ps (hfW ps ts r):=by
 unfold jci jja
 rw [joh _ (0,0),jga]
 refine Fl.sum_congr fun k hk=>?_
 rw [jeo (List.mem_range.mp hk)]
 rfl
section
variable {ps ts:List (Int × Int)} {r:List Int} {rs:List (List Int)} {m:Int}
structure AllR (ps ts:List (Int × Int)) (rs:List (List Int)) (m:Int):Prop where
 all:∀ row,row ∈ rs ↔ GoodN ps ts ps.length row
 m1:∃ row ∈ rs,jci ps row = m
 m2:∀ row ∈ rs,m ≤ jci ps row
theorem AllR.told (A:AllR ps ts rs m) (wk:WebOk ps ts) (h:Rst ps ts r):jeb ps ts r ∈ rs∧jci ps (jeb ps ts r) = m:=by
 have g:=jn9 wk h
 have hi:=(A.all _).mpr g
 refine ⟨hi,?_⟩
 have a:=A.m2 _ hi
 obtain ⟨row,hr,e⟩:=A.m1
 have gr:=(A.all row).mp hr
 have b:=jn7 wk h (jj5 wk gr)
 rw [jn1 wk gr.l,← jf8] at b
 omega
theorem AllR.fix (A:AllR ps ts rs m) (wk:WebOk ps ts) (h:Rst ps ts r) {row:List Int} (hr:row ∈ rs) (hc:jci ps row = m) {k:Nat} (hk:k < ps.length) (h1:(jeb ps ts r).getD k 0 ≠ 1):row.getD k 0 = (jeb ps ts r).getD k 0:=by
 have gr:=(A.all row).mp hr
 have b:=jn8 wk h (jj5 wk gr) (by rw [jn1 wk gr.l,← jf8,(A.told wk h).2]; omega)
 rw [jeo hk] at h1 ⊢
 have e:=List.getElem?_eq_getElem hk
 have:=b _ (List.getElem_mem hk) (by rw [← jdd e]; exact h1)
 rw [← jdd e,jfb wk row hk] at this
 exact this
def dueH (cs:List (List Int)) (k:Nat):Int:=if ∀ x ∈ cs,∀ y ∈ cs,x.getD k 0 = y.getD k 0 then (cs.headD []).getD k 0 else 1
def chp (ps:List (Int × Int)) (rs:List (List Int)) (m:Int):List (List Int):=rs.filter fun row=>decide (jci ps row = m)
theorem jel {row:List Int}:row ∈ chp ps rs m ↔ row ∈ rs∧jci ps row = m:=by
 unfold chp
 rw [List.mem_filter,decide_eq_true_eq]
theorem jqi (A:AllR ps ts rs m) (wk:WebOk ps ts) (h:Rst ps ts r) {k:Nat} (hk:k < ps.length):dueH (chp ps rs m) k = (jeb ps ts r).getD k 0:=by
 have ht:=jel.mpr (A.told wk h)
 unfold dueH
 by_cases c:∀ x ∈ chp ps rs m,∀ y ∈ chp ps rs m,x.getD k 0 = y.getD k 0
 ·rw [if_pos c]
  cases e:chp ps rs m with
  | nil=>rw [e] at ht; cases ht
  | cons a l=>exact c a (by rw [e]; exact List.mem_cons_self ..) _ ht
 ·rw [if_neg c]
  refine Classical.byContradiction fun n=>c fun x hx y hy=>?_
  have x1:=jel.mp hx
  have y1:=jel.mp hy
  rw [A.fix wk h x1.1 x1.2 hk (fun z=>n z.symm),A.fix wk h y1.1 y1.2 hk (fun z=>n z.symm)]
def dueL (ps:List (Int × Int)) (cs:List (List Int)) (n:Nat):List (Int × Int):=(List.range n).map fun k=>(nmA ps k,dueH cs k)
theorem jmx (A:AllR ps ts rs m) (wk:WebOk ps ts) (h:Rst ps ts r):dueL ps (chp ps rs m) ps.length = halT ps ts r:=by
 rw [jej wk]
 unfold dueL
 apply List.ext_getElem?
 intro i
 rw [List.getElem?_map,List.getElem?_map]
 by_cases c:i < ps.length
 ·rw [List.getElem?_range c,List.getElem?_eq_getElem c]
  show some (nmA ps i,_) = some (ps[i].1,hfW ps ts r ps[i].1)
  rw [jqi A wk h c,jeo c,jdd (List.getElem?_eq_getElem c)]
 ·rw [List.getElem?_eq_none (by rw [List.length_range]; omega),List.getElem?_eq_none (by omega)]
  rfl
theorem jut (A:AllR ps ts rs m) (wk:WebOk ps ts) (h:Rst ps ts r):(dueL ps (chp ps rs m) ps.length).map (·.2) = jeb ps ts r:=by
 rw [jmx A wk h,jej wk,List.map_map]
 rfl
theorem jn0:∀ {a b:List Int},a.length = b.length→(∀ k:Nat,k < a.length→a.getD k 0 = 1→b.getD k 0 = 1)→a.count 1 ≤ b.count 1
 | [],[],_,_=>Nat.le_refl _
 | x :: a,y :: b,hl,h=>by
  have ih:=jn0 (a:=a) (b:=b) (by simpa using hl) fun k hk=>by
   have:=h (k + 1) (by rw [List.length_cons]; omega)
   simpa using this
  have h0:=h 0 (by rw [List.length_cons]; omega)
  rw [List.count_cons,List.count_cons]
  by_cases c:x = 1
  ·have:y = 1:=by simpa using h0 (by simpa using c)
   subst c; subst this
   simp only [beq_self_eq_true,if_true]; omega
  ·rw [if_neg (by simpa using c)]
   split <;> omega
theorem jnz (A:AllR ps ts rs m) (wk:WebOk ps ts) (h:Rst ps ts r) {row:List Int} (hr:row ∈ chp ps rs m):row.count 1 ≤ (jeb ps ts r).count 1:=by
 have h1:=jel.mp hr
 have g:=(A.all row).mp h1.1
 refine jn0 (by rw [g.l,jga]) fun k hk e=>?_
 refine Classical.byContradiction fun n=>?_
 have:=A.fix wk h h1.1 h1.2 (show k < ps.length by have:=g.l; omega) n
 exact n (this.symm.trans e)
theorem jp1 (wk:WebOk ps ts) (h:Rst ps ts r) (A:AllR ps ts rs m) {row:List Int} (hr:row ∈ rs):jfp ps ts (papT (rowP ps row) (duT ps ts r)) = decide (jci ps row = m):=by
 have g:=(A.all row).mp hr
 obtain ⟨_,b,_,d,e⟩:=jn6 wk h
 have c:=jj5 wk g
 have hh:halO ps ((rowP ps row).map jcj) = some (rowP ps row):=by
  have key:rowP ps row = ps.map fun p=>(p.1,(fun n=>if n ∈ ps.map (·.1) then hOf (rowP ps row) n else 0) p.1):=by
   apply List.ext_getElem?
   intro i
   unfold rowP
   rw [List.getElem?_map,List.getElem?_map]
   by_cases q:i < ps.length
   ·rw [List.getElem?_range q,List.getElem?_eq_getElem q]
    have e:=List.getElem?_eq_getElem q
    have:=jfb wk row q
    unfold rowP at this
    rw [jdd e] at this
    show some (nmA ps i,row.getD i 0) = some (ps[i].1,if ps[i].1 ∈ ps.map (·.1) then _ else 0)
    rw [if_pos (List.mem_map.mpr ⟨_,List.getElem_mem q,rfl⟩),jdd e,this]
   ·rw [List.getElem?_eq_none (by rw [List.length_range]; omega),List.getElem?_eq_none (by omega)]
    rfl
  rw [key]
  refine jj4 (hf:=fun n=>if n ∈ ps.map (·.1) then hOf (rowP ps row) n else 0) (fun n=>?_) ps
  split
  ·rename_i hn
   obtain ⟨p,hp,rfl⟩:=List.mem_map.mp hn
   exact c.b p hp
  ·omega
 have ht:jfv ts (rowP ps row) = true:=by
  unfold jfv
  rw [List.all_eq_true]
  exact fun t ht=>decide_eq_true (c.t t ht)
 rw [papT,jhs]
 show (match halO ps _,jdg ts (-1,-1) _ with | some hs,some qs=>jfv ts hs && (jhe ps qs && decide ((qs.map fun d:Int × Int × Int=>d.2.2).sum = jhl ps hs)) | _,_=>false) = _
 rw [hh,b]
 dsimp only
 rw [ht,d,e,jqt wk g.l]
 have:jhl ps (halT ps ts r) = m:=by
  rw [jej wk,← (A.told wk h).2,jf8]
  unfold jhl jja
  rw [List.map_map]
  exact Fl.sum_congr fun p hp=>by show hOf ps p.1 * _ = _; rw [je4 wk p hp]
 rw [this,Bool.true_and,Bool.true_and]
 by_cases q:jci ps row = m
 ·rw [decide_eq_true q,decide_eq_true q.symm]
 ·rw [decide_eq_false q,decide_eq_false fun z=>q z.symm]
end
end
end My
namespace My
open PySem L2
section
variable {P:Program} {w:World} {K:PySem.W.Frag} {mg:Str→Option Value} {base:Heap} {c1 c2 c3 c4:Tok} {C_NoWeb f_NoWeb:Addr} {dI:FuncData}
def jsq:Sp:=fun vs H Q _=>∃ s o v ps ts,vs = [.ref s,v]∧H s = some o∧StO o∧jdh H v ps ts∧WebOk ps ts∧Dr (-1) ps∧ps.length ≤ 6∧∀ v' H' o' qs,But s H H'→H' s = some o'→StO o'→jdh H' v' qs ts→WebOk qs ts→qs.length = ps.length→Q v' H'
def jot:Sp:=fun vs H Q _=>∃ v ps ts l row,vs = [v,.ref l]∧jdh H v ps ts∧H l = some (.lst (row.map V.int))∧row.length = ps.length∧ps.length ≤ 40∧(∀ h ∈ row,0 ≤ h∧h ≤ 2)∧∀ H',Same H H'→Q (.int (jci ps row)) H'
theorem jpb:∀ {ps qs:List (Int × Int)} {l s s':Int},PlOk l s' ps→qs.map (·.1) = ps.map (·.1)→(∀ q ∈ qs,1 ≤ q.2∧q.2 ≤ 10000000000)→s + 10000000000 * (qs.length:Int) ≤ 1000000000000→PlOk l s qs
 | _,[],_,_,_,_,_,_,_=>trivial
 | [],q :: qs,_,_,_,_,e,_,_=>by simp at e
 | p :: ps,q :: qs,l,s,s',h,e,hb,hl=>by
  rw [List.map_cons,List.map_cons] at e
  obtain ⟨e1,e2⟩:=List.cons.inj e
  have b:=hb q (List.mem_cons_self ..)
  have h1:=h.1
  rw [List.length_cons] at hl
  refine ⟨⟨by omega,by omega,b.1,by omega⟩,?_⟩
  rw [e1]
  exact jpb h.2 e2 (fun x hx=>hb x (List.mem_cons_of_mem _ hx)) (by omega)
theorem jju {k1 k2:List (Key × V)} (h:∀ n:Int,hasK k1 n = true→hasK k2 n = true):∀ {ts:List (Int × Int)} {q:Int × Int},TiOk k1 q ts→TiOk k2 q ts
 | [],_,_=>trivial
 | t :: r,_,a=>⟨⟨a.1.1,a.1.2.1,h _ a.1.2.2.1,h _ a.1.2.2.2⟩,jju h a.2⟩
theorem jqa {ps qs:List (Int × Int)} (nd:(ps.map (·.1)).Nodup) (e:qs.map (·.1) = ps.map (·.1)) {n:Int} (h:hasK (jce ps) n = true):hasK (jce qs) n = true:=by
 have hm:=jfh h
 rw [← e] at hm nd
 obtain ⟨p,hp,rfl⟩:=List.mem_map.mp hm
 exact jq9 nd hp
theorem Dr.price:∀ {ps:List (Int × Int)} {l:Int},Dr l ps→∀ p ∈ ps,1 ≤ p.2∧p.2 ≤ 1000000000
 | [],_,_,p,h=>by cases h
 | q :: r,l,d,p,h=>by
  rcases List.mem_cons.mp h with e | h
  ·rw [e]; exact ⟨d.1.2.2.1,d.1.2.2.2⟩
  ·exact Dr.price d.2 p h
theorem sum_up {ps:List (Int × Int)} (h:∀ p ∈ ps,1 ≤ p.2∧p.2 ≤ 1000000000):(ps.map (·.2)).sum ≤ 1000000000 * (ps.length:Int):=by
 induction ps with
 | nil=>simp
 | cons p r ih =>
  rw [List.map_cons,List.sum_cons,List.length_cons]
  have:=h p (List.mem_cons_self ..)
  have:=ih fun q hq=>h q (List.mem_cons_of_mem _ hq)
  omega
theorem jtq {ps:List (Int × Int)} {k:Nat} {p:Int × Int} (h:ps[k]? = some p) (v:Int):(ps.set k (p.1,v)).map (·.1) = ps.map (·.1):=by
 rw [List.map_set]
 apply List.ext_getElem?
 intro i
 rw [List.getElem?_set]
 split
 ·rename_i e
  subst e
  have hk:=(List.getElem?_eq_some_iff.mp h).1
  rw [if_pos (by rw [List.length_map]; exact hk),List.getElem?_map,h]
  rfl
 ·rfl
theorem jhu {α β:Type} {F:α→β→Prop} {a:α} {b:β} (r:F a b):∀ {xs:List α} {ys:List β} (k:Nat),Paired F xs ys→Paired F (xs.set k a) (ys.set k b)
 | _,_,_,.nil=>.nil
 | _,_,0,.cons h t=>.cons r t
 | _,_,k + 1,.cons h t=>.cons h (jhu r k t)
theorem jnl {f:Addr} {fd:FuncData}  (B:Blt mg) (D:DefAt K mg "_law_own" (top 39) ["_law_web_here"] f fd):FnOk P w K mg base CX0 1 f fd ["_law_web_here"] jov:=by
 have sc:FnScope ["_law_web_here"] ["_law_web_here"] (jbc (top 39)):=⟨rfl,rfl,rfl,by decide +kernel,rfl,by decide +kernel,by decide +kernel⟩
 refine D.F.ok sc (fun vs H Q E h=>?_) (fun cdv A outer s H vs Q E hr h=>?_)
 ·obtain ⟨v,ps,ts,rfl,_⟩:=h
  rfl
 obtain ⟨v,ps,ts,rfl,hw,h⟩:=h
 obtain ⟨u,pa,ta,xs,ys,rfl,eu,ep,et,pp,pt⟩:=id hw
 have hu:=jc8 hr
 have hu0:_ < PySem.cLine:=Nat.lt_of_succ_lt hu
 refine ⟨_,(jb8 (jbq (jch (ja0 (jcw jij rfl B.list PyProof.Rows.boot_list (ja0 (jbh q_ix (qv 0) jah (fun _ _=>rfl)) jag)) (ja0 (jcw jij rfl B.list PyProof.Rows.boot_list (ja0 (jbh q_ix (qv 0) jah (fun _ _=>rfl)) jag)) jag))))),?_⟩
 simp_all_arith [jbl,eu,ep,at0,at1]
 intro l1 h1
 have s1:Same H (upd H l1 (.lst xs)):=jai h1 _
 simp_all_arith [jbl,s1 _ _ eu,s1 _ _ et,at0,at1]
 intro l2 h2
 have s2:Same H (upd (upd H l1 (.lst xs)) l2 (.lst ys)):=s1.trans (jai h2 _)
 intro t h3
 have s3:Same (upd (upd H l1 (.lst xs)) l2 (.lst ys)) (upd (upd (upd H l1 (.lst xs)) l2 (.lst ys)) t (.tup [.ref l1,.ref l2])):=jai h3 _
 refine h _ _ (s2.trans s3) ⟨l1,l2,xs,ys,h1,s1.free h2,jaj ja4 h2,ja4,s3 _ _ (jai h2 _ _ _ ja4),s3 _ _ ja4,Prs.same (s2.trans s3) pp,Prs.same (s2.trans s3) pt⟩
theorem jle {f:Addr} {fd:FuncData}  (B:Blt mg) (D:DefAt K mg "_law_cost" (top 46) ["_law_web_here","_law_row"] f fd):FnOk P w K mg base CX0 1 f fd ["_law_web_here","_law_row"] jot:=by
 have sc:FnScope ["_law_web_here","_law_row","_law_cost_here","_law_k"] ["_law_web_here","_law_row"] (jbc (top 46)):=⟨rfl,rfl,rfl,by decide +kernel,rfl,by decide +kernel,by decide +kernel⟩
 refine D.F.ok sc (fun vs H Q E h=>?_) (fun cdv A outer s H vs Q E hr h=>?_)
 ·obtain ⟨v,ps,ts,l,row,rfl,_⟩:=h
  rfl
 obtain ⟨v,ps,ts,l,row,rfl,hw,el,hl,h40,hb,h⟩:=h
 obtain ⟨u,pa,ta,xs,ys,rfl,eu,epa,eta,hxs,hys⟩:=hw
 have hxl:=Paired.length hxs
 have hu:=jc8 hr
 have hu0:_ < PySem.cLine:=Nat.lt_of_succ_lt hu
 refine ⟨_,(jaf (jbi (i:=2) sc.nd rfl (Or.inl rfl) jah) (jaf (jcv PassesOwn.never rfl (jcd rfl B.range (ja0 (jbf jdv rfl B.len PySem.boot_len (ja0 (qv 1) jag)) jag)) (jbb (i:=3) sc.nd rfl (Or.inl rfl)) (jb8 (jbi (i:=2) sc.nd rfl (Or.inl rfl) (jbv jcz (qv 2) (jbv jgj (jbh q_ix (jbh q_ix (jbh q_ix (qv 0) jah (fun _ _=>rfl)) (qv 3) (fun _ _=>rfl)) jah (fun _ _=>rfl)) (jbh q_ix (qv 1) (qv 3) (fun _ _=>rfl))))))) (jb8 (jbq (qv 2))))),?_⟩
 walk_at "ND"
 refine jc0 (Itr 0 row.length) H (fun R hR=>?_) (jdf (n:=row.length) (fun i σ H1=>∃ w1,H1 = H∧σ = [some (.ref u),some (.ref l),some (.int (((List.range i).map fun k=>(ps.getD k (0,0)).2 * row.getD k 0).sum)),w1]) ⟨none,rfl,rfl⟩ ?_ ?_)
 ·unfold jfz
  simp_all_arith [jbl,el,List.length_map]
  exact ⟨_,rfl,by omega,by omega,by simpa using hR⟩
 ·rintro i σ H1 hi ⟨w1,rfl,rfl⟩
  have x1:ps[i]? = some (ps[i]'(by omega)):=List.getElem?_eq_getElem _
  obtain ⟨x,hx,px⟩:=jbo hxs x1
  obtain ⟨b,rfl,hb2⟩:=px
  have ax:atI xs (0 + (i:Int)) = some (.ref b):=by rw [Int.zero_add]; exact jbz hx
  have ar:atI (row.map V.int) (0 + (i:Int)) = some (.int (row.getD i 0)):=by
   rw [Int.zero_add]
   refine jbz ?_
   rw [List.getElem?_map,List.getElem?_eq_getElem hi,List.getD_eq_getElem?_getD,List.getElem?_eq_getElem hi]
   rfl
  simp_all_arith [jbl,eu,at0,epa,ax,hb2,at1,el,ar]
  have hbi:=hb _ (jlp hi)
  refine ⟨cmR (by omega) (by omega),some (.int (0 + (i:Int))),?_⟩
  rw [List.range_succ,List.map_append,List.sum_append,List.map_singleton,List.sum_singleton,jd1 x1]
 ·rintro σ H1 ⟨w1,rfl,rfl⟩
  walk_at "ND"
  exact h H1 (Same.refl _)
theorem jir {f:Addr} {fd:FuncData} {f_law_take:Addr} {d_law_take:FuncData} (B:Blt mg) (D:DefAt K mg "_law_turned" (top 44) ["_law_state","_law_web_here"] f fd) (D_law_take:DefAt K mg "_law_take" (top 41) ["_law_state","_law_many"] f_law_take d_law_take) (G_law_take:FnOk P w K mg base CX0 1 f_law_take d_law_take ["_law_state","_law_many"] jjz):FnOk P w K mg base CX0 2 f fd ["_law_state","_law_web_here"] jsq:=by
 have sc:FnScope ["_law_state","_law_web_here","_law_at","_law_others_here","_law_places_here"] ["_law_state","_law_web_here"] (jbc (top 44)):=⟨rfl,rfl,rfl,by decide +kernel,rfl,by decide +kernel,by decide +kernel⟩
 refine D.F.ok sc (fun vs H Q E h=>?_) (fun cdv A outer s H vs Q E hr h=>?_)
 ·obtain ⟨s,o,v,ps,ts,rfl,_⟩:=h
  rfl
 obtain ⟨st,o,v,ps,ts,rfl,es,so,hw,wk,dr,h6,h⟩:=h
 obtain ⟨u,pa,ta,xs,ys,rfl,eu,epa,eta,hxs,hys⟩:=id hw
 have hxl:=Paired.length hxs
 have hu:=jc8 hr
 have hu0:_ < PySem.cLine:=Nat.lt_of_succ_lt hu
 refine ⟨_,(jaf (jdc (PW.pt (jhd (jck (op_eqD hr.units) (jbh q_ix (qv 1) jah (fun _ _=>rfl)) (jd4 jag) (jc5 _)) (jgl (jck q_eq (jbe G_law_take (hr.mono (by decide)) rfl D_law_take.m D_law_take.F.kp D_law_take.b .nil jbu (ja0 (qv 0) (ja0 jah jag))) jah (jc5 _))))) (jb8 (jbq (qv 1))) jc2) (jaf (jbi (i:=2) sc.nd rfl (Or.inl rfl) (jbe G_law_take (hr.mono (by decide)) rfl D_law_take.m D_law_take.F.kp D_law_take.b .nil jbu (ja0 (qv 0) (ja0 (jbf jdv rfl B.len PySem.boot_len (ja0 (jbh q_ix (qv 1) jah (fun _ _=>rfl)) jag)) jag)))) (jaf (jbi (i:=3) sc.nd rfl (Or.inl rfl) (jbv jrh (jbf (jrg rfl) rfl B.sum PyProof.Rows.boot_sum (ja0 (jc6 (CpScope.of (N:=["_law_place","_law_price"]) (src:=[none,none]) (by rfl)) rfl (jbx (jbh q_ix (qv 1) jah (fun _ _=>rfl))) (fun _ _ _ _=>(jcl (n:=2) rfl (jbg (jbb (i:=0) (jbd (l:=["_law_place","_law_price"]) (by rfl)) rfl (Or.inl rfl)) (jbg (jbb (i:=1) (jbd (l:=["_law_place","_law_price"]) (by rfl)) rfl (Or.inl rfl)) jc9)))) (fun _ _ _ _=>jc1) (fun _ _ _ _=>(qv 1))) jag)) (jbh q_ix (jbh q_ix (jbh q_ix (qv 1) jah (fun _ _=>rfl)) (qv 2) (fun _ _=>rfl)) jah (fun _ _=>rfl)))) (jaf (jbi (i:=4) sc.nd rfl (Or.inl rfl) (jcw jij rfl B.list PyProof.Rows.boot_list (ja0 (jbh q_ix (qv 1) jah (fun _ _=>rfl)) jag))) (jaf (jk4 (jch (ja0 (jbh q_ix (jbh q_ix (qv 4) (qv 2) (fun _ _=>rfl)) jah (fun _ _=>rfl)) (ja0 (jbf (q_max rfl) rfl B.max PyProof.Rows.boot_max (ja0 jah (ja0 (jbv jrh (jbv jcz (qv 3) (jbe G_law_take (hr.mono (by decide)) rfl D_law_take.m D_law_take.F.kp D_law_take.b .nil jbu (ja0 (qv 0) (ja0 jah jag)))) jah) jag))) jag))) (jk7 (qv 4) (qv 2) jgi)) (jb8 (jbq (jch (ja0 (qv 4) (ja0 (jbh q_ix (qv 1) jah (fun _ _=>rfl)) jag)))))))))),?_⟩
 refine jb9 fun R hR=>?_
 simp_all_arith [jbl,eu,at0]
 intro l0 hl0
 have q0:=jai hl0 (.lst [])
 refine ⟨.lst (ps.map jcj),.lst [],(by rw [Rep]; exact ⟨pa,xs,rfl,q0 _ _ epa,Prs.reps (Prs.same q0 hxs)⟩),(by rw [Rep]; exact ⟨l0,[],rfl,ja4,by rw [Reps]⟩),?_,.inl ⟨_,_,rfl,rfl⟩,?_⟩
 ·rw [depP]; have:=jf0 ps; omega
 have es1:=q0 _ _ es
 have eu1:=q0 _ _ eu
 have epa1:=q0 _ _ epa
 have eta1:=q0 _ _ eta
 have hx1:=Prs.same q0 hxs
 have hy1:=Prs.same q0 hys
 have W1:=hw.same q0
 generalize upd H l0 (.lst []) = H1 at q0 es1 eu1 epa1 eta1 hx1 hy1 W1
 have b1:But st H H1:=fun b o n q=>q0 b o q
 by_cases c:ps = []
 ·subst c
  rw [show eqP (.lst (([]:List (Int × Int)).map jcj)) (.lst []) = true from jdt _]
  walk_at "ND"
  exact h _ _ o [] b1 es1 so W1 wk rfl
 have ce:eqP (.lst (ps.map jcj)) (.lst []) = false:=by
  cases ps with
  | nil=>exact absurd rfl c
  | cons p r=>rfl
 rw [ce]
 walk_at "ND"
 refine ⟨st,o,2,rfl,es1,so,by decide,by decide,fun d2 o2 _ _ so2=>?_⟩
 have b2:But st H1 (upd H1 st o2):=But.at _ _ _
 have es2:upd H1 st o2 st = some o2:=ja4
 have W2:=W1.but es1 so b2
 generalize upd H1 st o2 = H2 at b2 es2 W2
 walk_at "ND"
 refine ite2 (fun c2=>?_) (fun c2=>?_)
 ·walk_at "ND"
  exact h _ _ o2 ps (b1.trans b2) es2 so2 W2 wk rfl
 subst hR
 clear eu epa eta hxs hys eu1 epa1 eta1 hx1 hy1 hw W1
 obtain ⟨u',pa,ta,xs,ys,eq,eu,epa,eta,hxs,hys⟩:=id W2
 cases eq
 have hxl:=Paired.length hxs
 have hp0:0 < ps.length:=by
  cases ps with
  | nil=>exact absurd rfl c
  | cons p r=>simp
 refine jb9 fun R hR=>?_
 simp_all_arith [jbl,eu,at0,epa]
 refine ⟨st,o2,_,rfl,es2,so2,by omega,by omega,fun k o3 k0 k1 so3=>?_⟩
 have b3:But st H2 (upd H2 st o3):=But.at _ _ _
 have es3:upd H2 st o3 st = some o3:=ja4
 have W3:=W2.but es2 so2 b3
 generalize upd H2 st o3 = H3 at b3 es3 W3
 clear eu epa eta hxs hys
 obtain ⟨u',pa,ta,xs,ys,eq,eu,epa,eta,hxs,hys⟩:=id W3
 cases eq
 have hxl:=Paired.length hxs
 obtain ⟨n,rfl⟩:∃ n:Nat,k = (n:Int):=⟨k.toNat,by omega⟩
 have hn:n < ps.length:=by omega
 have x1:ps[n]? = some ps[n]:=List.getElem?_eq_getElem hn
 generalize ps[n] = pn at x1
 subst hR
 refine jb9 fun R hR=>?_
 simp_all_arith [jbl,eu,at0,epa]
 refine jbj (Itl K pa) H3 (fun R2 hR2=>?_) (fun z hz0=>jbs ps.length (fun i σ' Hc=>∃ w1 w2,σ' = [w1,w2]∧Same H3 Hc∧Hc z = some (.lst (((ps.take i).map (·.2)).map V.int))) ⟨none,none,rfl,jai hz0 _,ja4⟩ ?_ ?_)
 ·unfold jd5
  simp_all_arith [jbl,eu,at0]
  exact ⟨pa,rfl,⟨_,SqL.of epa⟩,hR2⟩
 ·rintro i σ' Hc hi ⟨w1,w2,rfl,s7,ez⟩
  have x1:xs[i]? = some (xs[i]'(by omega)):=List.getElem?_eq_getElem _
  have z1:SqL K Hc pa xs:=SqL.of (s7 _ _ epa)
  refine ⟨⟨_,_,z1,x1⟩,?_⟩
  rintro y H' ⟨rfl,hy⟩
  obtain ⟨p,hp,px⟩:=jbn hxs (hy _ z1)
  obtain ⟨b,rfl,hb⟩:=px.same s7
  simp_all_arith [hb]
  refine ⟨_,ez,?_,_,_,rfl,jbk s7 hz0,?_⟩
  ·rw [List.length_map,List.length_map,List.length_take]
   exact szl' (by omega)
  ·rw [ja4,jbp hp,List.map_append,List.map_append]
   rfl
 rintro σ' H4 ⟨w1,w2,rfl,s4,ez⟩
 refine ⟨⟨_,SqL.of (s4 _ _ epa),by omega⟩,?_⟩
 rw [List.take_length] at ez
 refine ⟨z,_,rfl,ez,?_⟩
 have eu4:=s4 _ _ eu
 have epa4:=s4 _ _ epa
 have eta4:=s4 _ _ eta
 have es4:=s4 _ _ es3
 have hx4:=Prs.same s4 hxs
 have hy4:=Prs.same s4 hys
 obtain ⟨xn,gn,hgn⟩:=jbo hx4 x1
 obtain ⟨tn,rfl,hn4⟩:=hgn
 have an:atI xs (n:Int) = some (.ref tn):=jbz gn
 simp_all_arith [jbl,eu4,at0,epa4,an,hn4,at1]
 have hsum:=sum_up dr.price
 generalize hS:(ps.map (·.2)).sum = S at hsum
 subst hR
 refine jb9 fun R hR=>?_
 simp_all_arith [jbl,eu4,at0,epa4]
 intro l5 hl5
 have q5:=jai hl5 (.lst xs)
 have e5:upd H4 l5 (.lst xs) l5 = some (.lst xs):=ja4
 have es5:=q5 _ _ es4
 have eu5:=q5 _ _ eu4
 have eta5:=q5 _ _ eta4
 have hx5:=Prs.same q5 hx4
 have hy5:=Prs.same q5 hy4
 have hn5:=q5 _ _ hn4
 have n5:l5 ≠ st:=(jaj es4 hl5).symm
 have nt5:ta ≠ l5:=jaj eta4 hl5
 have hl5H:H l5 = none:=by
  cases q:H l5 with
  | none=>rfl
  | some w=>rw [(s4 _ _ (b3 _ _ n5 (b2 _ _ n5 (b1 _ _ n5 q))))] at hl5; cases hl5
 have b5:But st H (upd H4 l5 (.lst xs)):=fun b o n q=>q5 _ _ (s4 _ _ (b3 _ _ n (b2 _ _ n (b1 _ _ n q))))
 generalize upd H4 l5 (.lst xs) = H5 at q5 e5 es5 eu5 eta5 hx5 hy5 hn5 b5
 subst hR
 refine jb9 fun R hR=>?_
 simp_all_arith [jbl,e5,an,hn5,at0]
 refine ⟨st,o3,3,rfl,es5,so3,by decide,by decide,fun d6 o6 d60 d61 so6=>?_⟩
 have b6:But st H5 (upd H5 st o6):=But.at _ _ _
 have es6:upd H5 st o6 st = some o6:=ja4
 have t6:=b6.tups es5 so3.imm
 have e6:=b6 _ _ n5 e5
 have eu6:=t6 _ _ rfl eu5
 have eta6:upd H5 st o6 ta = some (.lst ys):=b6 _ _ (jub eta5 hy5 es5 so3) eta5
 have hx6:=Prs.tups t6 hx5
 have hy6:=Prs.tups t6 hy5
 generalize upd H5 st o6 = H6 at b6 es6 t6 e6 eu6 eta6 hx6 hy6
 walk_at "ND"
 intro t7 ht7
 have q7:=jai ht7 (.tup [.int pn.1,.int (if 1 < S - pn.2 + d6 - 1 then S - pn.2 + d6 - 1 else 1)])
 have e7t:upd H6 t7 (.tup [.int pn.1,.int (if 1 < S - pn.2 + d6 - 1 then S - pn.2 + d6 - 1 else 1)]) t7 = some (.tup [.int pn.1,.int (if 1 < S - pn.2 + d6 - 1 then S - pn.2 + d6 - 1 else 1)]):=ja4
 generalize hv:(if 1 < S - pn.2 + d6 - 1 then S - pn.2 + d6 - 1 else 1) = nv at q7 e7t
 have hpn:=dr.price pn (List.mem_of_getElem? x1)
 have nv1:1 ≤ nv∧nv ≤ 10000000000:=by
  rw [← hv]
  split <;> omega
 generalize upd H6 t7 (.tup [.int pn.1,.int nv]) = H7 at q7 e7t
 have e7:=q7 _ _ e6
 have eu7:=q7 _ _ eu6
 have eta7:=q7 _ _ eta6
 have es7:=q7 _ _ es6
 rw [e7]
 dsimp only
 rw [jlo (by omega)]
 dsimp only
 have t8:=jca (ys:=xs.set n (.ref t7)) e7
 have eu8:=t8 _ _ rfl eu7
 have et8:=t8 _ _ rfl e7t
 have eta8:upd H7 l5 (.lst (xs.set n (.ref t7))) ta = some (.lst ys):=by rw [jba nt5]; exact eta7
 have es8:upd H7 l5 (.lst (xs.set n (.ref t7))) st = some o6:=by rw [jba n5.symm]; exact es7
 have e8:upd H7 l5 (.lst (xs.set n (.ref t7))) l5 = some (.lst (xs.set n (.ref t7))):=ja4
 have hx8:=jhu (F:=Pr (upd H7 l5 (.lst (xs.set n (.ref t7))))) (a:=.ref t7) (b:=(pn.1,nv)) ⟨t7,rfl,et8⟩ n (Prs.tups t8 (Prs.same q7 hx6))
 have hy8:=Prs.tups t8 (Prs.same q7 hy6)
 have b8:But st H (upd H7 l5 (.lst (xs.set n (.ref t7)))):=fun b o nb q=>by
  rw [jba (jaj q hl5H)]
  exact q7 _ _ (b6 _ _ nb (b5 _ _ nb q))
 generalize upd H7 l5 (.lst (xs.set n (.ref t7))) = H8 at eu8 et8 eta8 es8 e8 hx8 hy8 b8
 subst hR
 simp_all_arith [jbl,eu8,at1]
 intro t9 ht9
 have q9:=jai ht9 (.tup [.ref l5,.ref ta])
 have hf:=jtq x1 nv
 have hin:∀ q ∈ ps.set n (pn.1,nv),1 ≤ q.2∧q.2 ≤ 10000000000:=fun q hq=>by
  rcases List.mem_or_eq_of_mem_set hq with hq | rfl
  ·have:=dr.price q hq
   omega
  ·exact nv1
 have hlen:(ps.set n (pn.1,nv)).length = ps.length:=List.length_set
 refine h _ _ o6 (ps.set n (pn.1,nv)) (fun b o nb q=>q9 _ _ (b8 _ _ nb q)) (q9 _ _ es8) so6 ⟨t9,l5,ta,_,ys,rfl,ja4,q9 _ _ e8,q9 _ _ eta8,Prs.same q9 hx8,Prs.same q9 hy8⟩ ⟨by rw [hlen]; omega,jpb wk.p hf hin (by rw [hlen]; omega),wk.tl,jju (fun m hm=>jqa wk.p.nodup hf hm) wk.t⟩ hlen
end
end My
namespace My
open PySem L2
section
variable {P:Program} {w:World} {K:PySem.W.Frag} {mg:Str→Option Value} {base:Heap} {c1 c2 c3 c4:Tok} {C_NoWeb f_NoWeb:Addr} {dI:FuncData}
def LsR (H:Hp) (v:V) (row:List Int):Prop:=∃ a,v = .ref a∧H a = some (.lst (row.map V.int))
abbrev LsRs (H:Hp):List V→List (List Int)→Prop:=Paired (LsR H)
theorem LsR.same {H H':Hp} (s:Same H H') {v:V} {row:List Int} (h:LsR H v row):LsR H' v row:=by
 obtain ⟨a,e,q⟩:=h
 exact ⟨a,e,s _ _ q⟩
theorem LsRs.same {H H':Hp} (s:Same H H') {xs:List V} {rs:List (List Int)} (h:LsRs H xs rs):LsRs H' xs rs:=Paired.imp' (fun _ _ q=>q.same s) h
def LsN (ls:List Addr) (H:Hp) (v:V) (row:List Int):Prop:=∃ a,v = .ref a∧a ∉ ls∧H a = some (.lst (row.map V.int))
theorem LsN.to {l:List Addr} {H:Hp} {xs:List V} {rs:List (List Int)} (h:Paired (LsN l H) xs rs):LsRs H xs rs:=Paired.imp' (fun _ _ ⟨a,e,_,q⟩=>⟨a,e,q⟩) h
theorem LsN.less {l m:List Addr} {H:Hp} {xs:List V} {rs:List (List Int)} (s:∀ x ∈ m,x ∈ l) (h:Paired (LsN l H) xs rs):Paired (LsN m H) xs rs:=Paired.imp' (fun _ _ ⟨a,e,n,q⟩=>⟨a,e,fun z=>n (s _ z),q⟩) h
theorem LsN.of {l:List Addr} {p:Addr} (hp:p ∈ l) {H:Hp} {o:HO} {xs:List V} {rs:List (List Int)} (h:Paired (LsN l H) xs rs):Paired (LsN l (upd H p o)) xs rs:=Paired.imp' (fun _ _ ⟨a,e,n,q⟩=>⟨a,e,n,by rw [jba (fun z:a = p=>n (by rw [z]; exact hp))]; exact q⟩) h
theorem LsN.same {l:List Addr} {H H':Hp} (s:Same H H') {xs:List V} {rs:List (List Int)} (h:Paired (LsN l H) xs rs):Paired (LsN l H') xs rs:=Paired.imp' (fun _ _ ⟨a,e,n,q⟩=>⟨a,e,n,s _ _ q⟩) h
def jdk (ps ts:List (Int × Int)) (k i:Nat):List Nat:=(List.range i).filter fun j=>decide ((nmA ps j,nmA ps k) ∈ ts)
theorem jna (ps ts:List (Int × Int)) (k i:Nat):jdk ps ts k (i + 1) = jdk ps ts k i ++ (if (nmA ps i,nmA ps k) ∈ ts then [i] else []):=by
 unfold jdk
 rw [List.range_succ,List.filter_append,List.filter_cons,List.filter_nil]
 by_cases c:(nmA ps i,nmA ps k) ∈ ts
 ·rw [if_pos (decide_eq_true c),if_pos c]
 ·rw [if_neg (by simpa using c),if_neg c]
theorem jep {ps ts:List (Int × Int)} {k i j:Nat}:j ∈ jdk ps ts k i ↔ j < i∧(nmA ps j,nmA ps k) ∈ ts:=by
 unfold jdk
 rw [List.mem_filter,List.mem_range,decide_eq_true_eq]
theorem jjv (ps ts:List (Int × Int)) (k i:Nat):(jdk ps ts k i).length ≤ i:=by
 unfold jdk
 refine Nat.le_trans (List.length_filter_le _ _) ?_
 rw [List.length_range]
 exact Nat.le_refl _
theorem jcn {row:List Int} {h:Int} {j:Nat} (hj:j < row.length):(row ++ [h]).getD j 0 = row.getD j 0:=by
 rw [List.getD_eq_getElem?_getD,List.getD_eq_getElem?_getD,List.getElem?_append_left hj]
theorem jft {row:List Int} {h:Int}:(row ++ [h]).getD row.length 0 = h:=by
 rw [List.getD_eq_getElem?_getD,List.getElem?_append_right (Nat.le_refl _),Nat.sub_self]
 rfl
def Ext (ps ts:List (Int × Int)) (k:Nat) (row q:List Int):Prop:=∃ h:Int,q = row ++ [h]∧0 ≤ h∧h ≤ 2∧∀ j ∈ jdk ps ts k k,2 ≤ row.getD j 0 + h
theorem jqe {ps ts:List (Int × Int)} {k:Nat} {q:List Int}:GoodN ps ts (k + 1) q ↔ ∃ row,GoodN ps ts k row∧Ext ps ts k row q:=by
 constructor
 ·intro g
  have hne:q ≠ []:=fun z=>by have:=g.l; rw [z] at this; cases this
  obtain ⟨row,h,rfl⟩:∃ row h,q = row ++ [h]:=⟨q.dropLast,q.getLast hne,(List.dropLast_concat_getLast hne).symm⟩
  have hl:row.length = k:=by have:=g.l; rw [List.length_append] at this; simpa using this
  have hb:=g.b h (by simp)
  refine ⟨row,⟨hl,fun x hx=>g.b x (List.mem_append_left _ hx),fun j k' h1 h2 ht=>?_⟩,h,rfl,hb.1,hb.2,fun j hj=>?_⟩
  ·have:=g.t j k' h1 (by omega) ht
   rw [jcn (by omega),jcn (by omega)] at this
   exact this
  ·obtain ⟨j1,j2⟩:=jep.mp hj
   have:=g.t j k j1 (by omega) j2
   rw [jcn (by omega),← hl,jft] at this
   exact this
 ·rintro ⟨row,g,h,rfl,h0,h2,ht⟩
  have hl:=g.l
  refine ⟨by rw [List.length_append,hl]; rfl,fun x hx=>?_,fun j k' h1 h3 hm=>?_⟩
  ·rcases List.mem_append.mp hx with hx | hx
   ·exact g.b x hx
   ·rw [List.mem_singleton.mp hx]; exact ⟨h0,h2⟩
  ·by_cases c:k' = k
   ·subst c
    rw [jcn (by omega)]
    have:=ht j (jep.mpr ⟨h1,hm⟩)
    rw [← hl,jft]
    exact this
   ·rw [jcn (by omega),jcn (by omega)]
    exact g.t j k' h1 (by omega) hm
theorem jqd {ps ts:List (Int × Int)} {q:List Int}:GoodN ps ts 0 q ↔ q = []:=by
 constructor
 ·intro g; exact List.eq_nil_of_length_eq_zero g.l
 ·rintro rfl; exact ⟨rfl,fun _ h=>(by cases h),fun _ _ _ h _=>(by omega)⟩
def jsr:Sp:=fun vs H Q _=>∃ v ps ts,vs = [v]∧jdh H v ps ts∧WebOk ps ts∧ps.length ≤ 6∧∀ l H' zs rs,Same H H'→H' l = some (.lst zs)→LsRs H' zs rs→(∀ row,row ∈ rs ↔ GoodN ps ts ps.length row)→rs.length ≤ 729→Q (.ref l) H'
theorem pow3 {i n:Nat} (hi:i ≤ 6) (h:n ≤ 3 ^ i):n ≤ 729:=Nat.le_trans h (Nat.pow_le_pow_right (by decide) hi:3 ^ i ≤ 3 ^ 6)
theorem pow35 {i n:Nat} (hi:i ≤ 5) (h:n ≤ 3 ^ i):n ≤ 243:=Nat.le_trans h (Nat.pow_le_pow_right (by decide) hi:3 ^ i ≤ 3 ^ 5)
theorem jrv {ts:List (Int × Int)} {p:Int × Int}:((ts.map jcj).any fun c=>eqP c (jcj p)) = decide (p ∈ ts):=by
 induction ts with
 | nil=>rfl
 | cons t r ih =>
  rw [List.map_cons,List.any_cons,ih]
  have e:eqP (jcj t) (jcj p) = decide (t = p):=by
   obtain ⟨a,b⟩:=t
   obtain ⟨c,d⟩:=p
   by_cases x:a = c
   ·by_cases y:b = d
    ·subst x; subst y; rw [jdt,decide_eq_true rfl]
    ·rw [decide_eq_false (fun z=>y (Prod.mk.inj z).2)]
     simp [jcj,eqP,eqPs,y]
   ·rw [decide_eq_false (fun z=>x (Prod.mk.inj z).1)]
    simp [jcj,eqP,eqPs,x]
  rw [e]
  by_cases c:t = p
  ·subst c; simp
  ·rw [decide_eq_false c,Bool.false_or]
   by_cases c2:p ∈ r
   ·rw [decide_eq_true c2,decide_eq_true (List.mem_cons_of_mem _ c2)]
   ·rw [decide_eq_false c2,decide_eq_false fun z=>(List.mem_cons.mp z).elim (fun z=>c z.symm) c2]
theorem jld {f:Addr} {fd:FuncData}  (B:Blt mg) (D:DefAt K mg "_law_rows" (top 45) ["_law_web_here"] f fd):FnOk P w K mg base CX0 1 f fd ["_law_web_here"] jsr:=by
 have sc:FnScope ["_law_web_here","_law_rows_here","_law_k","_law_place","_law_tied","_law_longer","_law_row","_law_least"] ["_law_web_here"] (jbc (top 45)):=⟨rfl,rfl,rfl,by decide +kernel,rfl,by decide +kernel,by decide +kernel⟩
 refine D.F.ok sc (fun vs H Q E h=>?_) (fun cdv A outer s H vs Q E hr h=>?_)
 ·obtain ⟨v,ps,ts,rfl,_⟩:=h
  rfl
 obtain ⟨v,ps,ts,rfl,hw,wk,h6,h⟩:=h
 obtain ⟨u,pa,ta,xs,ys,rfl,eu,epa,eta,hxs,hys⟩:=hw
 have hxl:=Paired.length hxs
 have hu:=jc8 hr
 have hu0:_ < PySem.cLine:=Nat.lt_of_succ_lt hu
 refine ⟨_,(jaf (jbi (i:=1) sc.nd rfl (Or.inl rfl) (jd4 (ja0 (jd4 jag) jag))) (jaf (jcv PassesOwn.never rfl (jcd rfl B.range (ja0 (jbf jdv rfl B.len PySem.boot_len (ja0 (jbh q_ix (qv 0) jah (fun _ _=>rfl)) jag)) jag)) (jbb (i:=2) sc.nd rfl (Or.inl rfl)) (jaf (jbi (i:=3) sc.nd rfl (Or.inr rfl) (jbh q_ix (jbh q_ix (jbh q_ix (qv 0) jah (fun _ _=>rfl)) (qv 2) (fun _ _=>rfl)) jah (fun _ _=>rfl))) (jaf (jfc (i:=4) sc.nd rfl (Or.inl rfl) (CpScope.of (N:=["_law_j","_law_place","_law_web_here"]) (src:=[none,some 3,some 0]) (by rfl)) rfl (jcd rfl B.range (ja0 (qv 2) jag)) (fun _ _ _ _=>(jbb (i:=0) (jbd (l:=["_law_j","_law_place","_law_web_here"]) (by rfl)) rfl (Or.inl rfl))) (fun _ _ _ _=>(jim (jck (op_inD hr.units) (jch (ja0 (jbh q_ix (jbh q_ix (jbh q_ix (qv 2) jah (fun _ _=>rfl)) (qv 0) (fun _ _=>rfl)) jah (fun _ _=>rfl)) (ja0 (qv 1) jag))) (jbh q_ix (qv 2) jah (fun _ _=>rfl)) (by with_unfolding_all rfl)))) (fun _ _ _ _=>(qv 0))) (jaf (jbi (i:=5) sc.nd rfl (Or.inl rfl) (jd4 jag)) (jaf (jcv PassesOwn.never rfl (jbx (qv 1)) (jbb (i:=6) sc.nd rfl (Or.inr rfl)) (jaf (jbi (i:=7) sc.nd rfl (Or.inl rfl) (jpd (jqy rfl) rfl B.max PyProof.Rows.boot_max (ja0 (jc6 (CpScope.of (N:=["_law_j","_law_row"]) (src:=[none,some 6]) (by rfl)) rfl (jbx (qv 4)) (fun _ _ _ _=>(jbb (i:=0) (jbd (l:=["_law_j","_law_row"]) (by rfl)) rfl (Or.inl rfl))) (fun _ _ _ _=>jc1) (fun _ _ _ _=>(jbv jrh jah (jbh q_ix (qv 1) (qv 0) (fun _ _=>rfl))))) jag) (ju0 jah pk_nil))) (jb8 (jcb (q_bm PySem.F.plainAttrs_list PySem.F.slot_list_extend PySem.F.type_list_extend jri (qv 5) (ja0 (jc6 (CpScope.of (N:=["_law_h","_law_row"]) (src:=[none,some 6]) (by rfl)) rfl (jk6 rfl B.range (ja0 (qv 7) (ja0 jah jag))) (fun _ _ _ _=>(jbb (i:=0) (jbd (l:=["_law_h","_law_row"]) (by rfl)) rfl (Or.inl rfl))) (fun _ _ _ _=>jc1) (fun _ _ _ _=>(jbv q_cat (qv 1) (jd4 (ja0 (qv 0) jag))))) jag)))))) (jb8 (jbi (i:=1) sc.nd rfl (Or.inl rfl) (qv 5)))))))) (jb8 (jbq (qv 1))))),?_⟩
 refine jb9 fun R hR=>?_
 walk_at "ND"
 intro e0 he0
 have q0:=jai he0 (.lst [])
 have ee0:upd H e0 (.lst []) e0 = some (.lst []):=ja4
 generalize upd H e0 (.lst []) = H0 at q0 ee0
 walk_at "ND"
 intro r0 hr0
 have q1:=q0.trans (jai hr0 (.lst [.ref e0]))
 have ee1:=jai hr0 (.lst [.ref e0]) _ _ ee0
 have er1:upd H0 r0 (.lst [.ref e0]) r0 = some (.lst [.ref e0]):=ja4
 generalize upd H0 r0 (.lst [.ref e0]) = H1 at q1 ee1 er1
 subst hR
 refine jc0 (Itr 0 ps.length) H1 (fun R' hR'=>?_) (jdf (n:=ps.length) (fun i σ Hc=>∃ rl zs rs w2 w3 w4 w5 w6 w7,σ = [some (.ref u),some (.ref rl),w2,w3,w4,w5,w6,w7]∧Same H Hc∧Hc rl = some (.lst zs)∧LsRs Hc zs rs∧(∀ row,row ∈ rs ↔ GoodN ps ts i row)∧rs.length ≤ 3 ^ i) ⟨r0,[.ref e0],[[]],none,none,none,none,none,none,rfl,q1,er1,.cons ⟨e0,rfl,ee1⟩ .nil,fun row=>by rw [jqd,List.mem_singleton],by simp⟩ ?_ ?_)
 ·unfold jfz
  simp_all_arith [jbl,q1 _ _ eu,at0,q1 _ _ epa]
  exact ⟨_,rfl,by omega,by omega,by rw [hxl]; simpa using hR'⟩
 ·rintro k σ H2 hk ⟨rl,zs,rs,w2,w3,w4,w5,w6,w7,rfl,s2,erl,pz,hall,hlen⟩
  have hzl:zs.length = rs.length:=Paired.length pz
  have x1:ps[k]? = some ps[k]:=List.getElem?_eq_getElem hk
  obtain ⟨x,hx,px⟩:=jbo hxs x1
  obtain ⟨b,rfl,hb⟩:=px.same s2
  have ax:atI xs (0 + (k:Int)) = some (.ref b):=by rw [Int.zero_add]; exact jbz hx
  simp only [jal,List.set_cons_zero,List.set_cons_succ]
  refine jb9 fun R hR=>?_
  simp_all_arith [jbl,s2 _ _ eu,at0,s2 _ _ epa,ax,hb]
  have nk:=jdd x1
  rw [← nk]
  subst hR
  refine jb9 fun R hR=>?_
  walk_at "ND"
  refine jbj (Itr 0 k) H2 (fun R2 hR2=>?_) (fun tl htl=>jbs k (fun i σ' Hc=>∃ w1,σ' = [w1,some (.int (nmA ps k)),some (.ref u)]∧Same H2 Hc∧Hc tl = some (.lst (nv (jdk ps ts k i)))) ⟨none,rfl,jai htl _,ja4⟩ ?_ ?_)
  ·unfold jfz
   walk_at "ND"
   exact ⟨_,rfl,by omega,by omega,by simpa using hR2⟩
  ·rintro i σ' Hc hi ⟨w1,rfl,s3,etl⟩
   refine ⟨by show i < k; omega,?_⟩
   rintro y H' ⟨rfl,rfl⟩
   have s4:=s2.trans s3
   have x2:ps[i]? = some (ps[i]'(by omega)):=List.getElem?_eq_getElem _
   obtain ⟨x',hx',px'⟩:=jbo hxs x2
   obtain ⟨b',rfl,hb'⟩:=px'.same s4
   have ax':atI xs (0 + (i:Int)) = some (.ref b'):=by rw [Int.zero_add]; exact jbz hx'
   simp_all_arith [jbl,s4 _ _ eu,at0,s4 _ _ epa,ax',hb']
   have ni:=jdd x2
   rw [← ni]
   intro t5 ht5
   have q5:=jai ht5 (.tup [.int (nmA ps i),.int (nmA ps k)])
   have e5:upd H' t5 (.tup [.int (nmA ps i),.int (nmA ps k)]) t5 = some (.tup [.int (nmA ps i),.int (nmA ps k)]):=ja4
   generalize upd H' t5 (.tup [.int (nmA ps i),.int (nmA ps k)]) = H5 at q5 e5
   have s5:=s4.trans q5
   simp_all_arith [jbl,s5 _ _ eu,at1]
   refine ⟨jcj (nmA ps i,nmA ps k),ta,ys,ts.map jcj,Pr.rep ⟨t5,rfl,e5⟩,rfl,s5 _ _ eta,Prs.reps (Prs.same s5 hys),by have:=jf0 ts; omega,?_⟩
   rw [jrv,jna]
   by_cases c:(nmA ps i,nmA ps k) ∈ ts
   ·rw [decide_eq_true c,if_pos c]
    walk_at "ND"
    refine ⟨_,q5 _ _ etl,?_,_,rfl,jbk (s3.trans q5) htl,?_⟩
    ·have:=jjv ps ts k i
     unfold nv
     rw [List.length_map]
     exact szl' (by omega)
    ·rw [ja4,jpn]
     unfold nv
     rw [List.map_cons,List.map_nil,Int.zero_add]
   ·rw [decide_eq_false c,if_neg c,List.append_nil]
    walk_at "ND"
    exact ⟨_,rfl,s3.trans q5,q5 _ _ etl⟩
  rintro σ' H3 ⟨w1,rfl,s3,etl⟩
  refine ⟨by first | exact Nat.le_refl _ | exact Nat.lt_irrefl _ | rfl,?_⟩
  subst hR
  refine jb9 fun R hR=>?_
  walk_at "ND"
  intro lg hlg
  have q4:=jai hlg (.lst [])
  have elg:upd H3 lg (.lst []) lg = some (.lst []):=ja4
  have erl4:=q4 _ _ (s3 _ _ erl)
  have hlg2:H2 lg = none:=s3.free hlg
  have s4:=s3.trans q4
  have etl4:=q4 _ _ etl
  generalize upd H3 lg (.lst []) = H4 at q4 elg erl4 s4 etl4
  have ntl:tl ≠ lg:=jaj etl hlg
  have hlg3:=hlg
  subst hR
  refine jb9 fun R hR=>?_
  refine jc0 (Itl K rl) H4 (fun R' hR'=>?_) (jdj (xs:=zs) (fun i σ Hc=>∃ w6 w7 ws qs,σ = [some (.ref u),some (.ref rl),some (.int (0 + (k:Int))),some (.int (nmA ps k)),some (.ref tl),some (.ref lg),w6,w7]∧Same H3 Hc∧Hc lg = some (.lst ws)∧Paired (LsN [lg] Hc) ws qs∧(∀ q,q ∈ qs ↔ ∃ row ∈ rs.take i,Ext ps ts k row q)∧qs.length ≤ 3 * i) ⟨w6,w7,[],[],rfl,q4,elg,.nil,fun q=>by simp,by simp⟩ (fun i σ Hc _ ⟨w6,w7,ws,qs,_,s5,_⟩=>SqL.of (s5 _ _ (s3 _ _ erl))) ?_ ?_)
  ·unfold jd5
   walk_at "ND"
   exact ⟨rl,rfl,⟨_,SqL.of erl4⟩,hR'⟩
  ·rintro i z σ Hc hz ⟨w6,w7,ws,qs,rfl,s5,elg5,pw,hq,hql⟩
   obtain ⟨row,hrow,prow⟩:=jbn pz hz
   have s25:=s3.trans s5
   obtain ⟨ra,rfl,era⟩:=prow.same s25
   have gr:=(hall row).mp (List.mem_of_getElem? hrow)
   have hrl:=gr.l
   have hgd:∀ j ∈ jdk ps ts k k,0 ≤ row.getD j 0∧row.getD j 0 ≤ 2:=fun j hj=>gr.b _ (jlp (by have:=(jep.mp hj).1; omega))
   have hil:i < zs.length:=(List.getElem?_eq_some_iff.mp hz).1
   have hr7:=pow35 (show k ≤ 5 by omega) hlen
   simp only [jal,List.set_cons_zero,List.set_cons_succ]
   refine jb9 fun R5 hR5=>?_
   walk_at "ND"
   refine jbj (Itl K tl) Hc (fun R2 hR2=>?_) (fun m1 hm1=>jbs (jdk ps ts k k).length (fun j σ' Hd=>∃ w1,σ' = [w1,some (.ref ra)]∧Same Hc Hd∧Hd m1 = some (.lst ((((jdk ps ts k k).take j).map fun x=>2 - row.getD x 0).map V.int))) ⟨none,rfl,jai hm1 _,ja4⟩ ?_ ?_)
   ·unfold jd5
    walk_at "ND"
    exact ⟨tl,rfl,⟨_,SqL.of (s5 _ _ etl)⟩,hR2⟩
   ·rintro j σ' Hd hj ⟨w1,rfl,s6,em⟩
    have hj0:(jdk ps ts k k)[j]? = some ((jdk ps ts k k)[j]):=List.getElem?_eq_getElem hj
    have z1:SqL K Hd tl (nv (jdk ps ts k k)):=SqL.of (s6 _ _ (s5 _ _ etl))
    have hj1:(nv (jdk ps ts k k))[j]? = some (.int ((jdk ps ts k k)[j]:Nat)):=by unfold nv; rw [List.getElem?_map,hj0]; rfl
    refine ⟨⟨_,_,z1,hj1⟩,?_⟩
    rintro y H' ⟨rfl,hy⟩
    have:=hy _ z1
    rw [hj1] at this
    cases this
    have hjk:=(jep.mp (List.getElem_mem hj)).1
    have ar:atI (row.map V.int) (((jdk ps ts k k)[j]:Nat):Int) = some (.int (row.getD (jdk ps ts k k)[j] 0)):=by
     refine jbz ?_
     rw [List.getElem?_map,List.getElem?_eq_getElem (by omega),List.getD_eq_getElem?_getD,List.getElem?_eq_getElem (by omega)]
     rfl
    simp_all_arith [jbl,s6 _ _ era,ar]
    refine ⟨_,em,?_,_,rfl,jbk s6 hm1,?_⟩
    ·rw [List.length_map,List.length_map,List.length_take]
     have:=jjv ps ts k k
     exact szl' (by omega)
    ·rw [ja4,jbp hj0,List.map_append,List.map_append]
     rfl
   rintro σ' H6 ⟨w1,rfl,s6,em⟩
   refine ⟨⟨_,SqL.of (s6 _ _ (s5 _ _ etl)),by unfold nv; rw [List.length_map]; exact Nat.le_refl _⟩,?_⟩
   rw [List.take_length] at em
   walk_at "ND"
   refine ⟨m1,_,0,rfl,rfl,em,fun m c1 c2 c3=>?_⟩
   have hm:(0 ≤ m∧m ≤ 2)∧∀ h:Int,m ≤ h ↔ (0 ≤ h∧∀ j ∈ jdk ps ts k k,2 ≤ row.getD j 0 + h):=by
    by_cases c:jdk ps ts k k = []
    ·have:=c1 (by rw [c]; rfl)
     subst this
     refine ⟨by omega,fun h=>⟨fun h0=>⟨h0,fun j hj=>by rw [c] at hj; cases hj⟩,fun h0=>h0.1⟩⟩
    ·have hm1:=c2 (by simpa using c)
     obtain ⟨j,hj,e⟩:=List.mem_map.mp hm1
     have g:=hgd j hj
     refine ⟨by omega,fun h=>⟨fun h0=>⟨by omega,fun j' hj'=>?_⟩,fun h0=>?_⟩⟩
     ·have:=c3 _ (List.mem_map.mpr ⟨j',hj',rfl⟩)
      omega
     ·have:=h0.2 j hj
      omega
   have s36:=s5.trans s6
   subst hR5
   walk_at "ND"
   refine ⟨⟨lg,_,rfl,s6 _ _ elg5⟩,?_⟩
   refine jbj (Itr m (3 - m).toNat) H6 (fun R2 hR2=>?_) (fun cl hcl=>jbs (3 - m).toNat (fun j σ' Hd=>∃ w1 vs,σ' = [w1,some (.ref ra)]∧Same H6 Hd∧Hd cl = some (.lst vs)∧Paired (LsN [cl,lg] Hd) vs ((List.range j).map fun x:Nat=>row ++ [m + (x:Int)])) ⟨none,[],rfl,jai hcl _,ja4,.nil⟩ ?_ ?_)
   ·unfold jun
    walk_at "ND"
    exact ⟨_,_,rfl,⟨by omega,by omega,by omega,by omega⟩,hR2⟩
   ·rintro j σ' Hd hj ⟨w1,vs,rfl,s7,ecl,pv⟩
    refine ⟨hj,?_⟩
    rintro y H' ⟨rfl,rfl⟩
    have hvl:=Paired.length pv
    rw [List.length_map,List.length_range] at hvl
    have era7:=s7 _ _ (s6 _ _ era)
    walk_at "ND"
    intro h1 hh1
    have q8:=jai hh1 (.lst [.int (m + (j:Int))])
    have e8:upd H' h1 (.lst [.int (m + (j:Int))]) h1 = some (.lst [.int (m + (j:Int))]):=ja4
    generalize upd H' h1 (.lst [.int (m + (j:Int))]) = H8 at q8 e8
    simp_all_arith [q8 _ _ era7,e8]
    refine ⟨by rw [List.length_map]; exact szl (by omega),?_⟩
    intro h2 hh2
    have q9:=q8.trans (jai hh2 (.lst (row.map V.int ++ [.int (m + (j:Int))])))
    have e9:upd H8 h2 (.lst (row.map V.int ++ [.int (m + (j:Int))])) h2 = some (.lst (row.map V.int ++ [.int (m + (j:Int))])):=ja4
    have ncl:h2 ≠ cl:=(jaj (q8 _ _ ecl) hh2).symm
    have nlg:h2 ≠ lg:=(jaj (q8 _ _ ((s6.trans s7) _ _ elg5)) hh2).symm
    generalize upd H8 h2 (.lst (row.map V.int ++ [.int (m + (j:Int))])) = H9 at q9 e9
    refine ⟨vs,q9 _ _ ecl,szl' (by omega),_,vs ++ [.ref h2],rfl,jbk (s7.trans q9) hcl,ja4,?_⟩
    rw [List.range_succ,List.map_append]
    refine jbt (LsN.of (by simp) (LsN.same q9 pv)) ⟨h2,rfl,by simp [ncl,nlg],?_⟩
    rw [jba ncl,e9,List.map_append]
    rfl
   rintro σ' H7 ⟨w1,vs,rfl,s7,ecl,pv⟩
   refine ⟨Nat.le_refl _,?_⟩
   have hvl:=Paired.length pv
   rw [List.length_map,List.length_range] at hvl
   have hwl:=Paired.length pw
   have s57:=s6.trans s7
   have pw7:=LsN.same s57 pw
   have pv7:Paired (LsN [lg] H7) vs ((List.range (3 - m).toNat).map fun x:Nat=>row ++ [m + (x:Int)]):=LsN.less (by simp) pv
   refine ⟨lg,cl,ws,vs,rfl,rfl,s57 _ _ elg5,ecl,szl (by omega),_,_,ws ++ vs,qs ++ (List.range (3 - m).toNat).map (fun x:Nat=>row ++ [m + (x:Int)]),rfl,jbk (s36.trans s7) hlg3,ja4,jeh (LsN.of (by simp) pw7) (LsN.of (by simp) pv7),fun q=>?_,?_⟩
   ·rw [List.mem_append,hq,jbp hrow]
    constructor
    ·rintro (⟨r,h1,h2⟩ | h1)
     ·exact ⟨r,List.mem_append_left _ h1,h2⟩
     ·obtain ⟨x,hx,rfl⟩:=List.mem_map.mp h1
      have hx:=List.mem_range.mp hx
      have:=(hm.2 (m + (x:Int))).mp (by omega)
      exact ⟨row,List.mem_append_right _ (List.mem_singleton.mpr rfl),_,rfl,this.1,by omega,this.2⟩
    ·rintro ⟨r,h1,h2⟩
     rcases List.mem_append.mp h1 with h1 | h1
     ·exact .inl ⟨r,h1,h2⟩
     ·rw [List.mem_singleton.mp h1] at h2
      obtain ⟨x,rfl,x0,x2,xt⟩:=h2
      have:=(hm.2 x).mpr ⟨x0,xt⟩
      exact .inr (List.mem_map.mpr ⟨(x - m).toNat,List.mem_range.mpr (by omega),by rw [show m + ((x - m).toNat:Int) = x by omega]⟩)
   ·rw [List.length_append,List.length_map,List.length_range]
    omega
  ·rintro σ Hc ⟨w6,w7,ws,qs,rfl,s5,elg5,pw,hq,hql⟩
   subst hR
   walk_at "ND"
   have s25:=s3.trans s5
   refine ⟨lg,ws,qs,_,_,_,_,_,_,rfl,s2.trans s25,elg5,LsN.to pw,fun row=>?_,?_⟩
   ·rw [hq,jqe,hzl,List.take_length]
    exact ⟨fun ⟨r,h1,h2⟩=>⟨r,(hall r).mp h1,h2⟩,fun ⟨r,h1,h2⟩=>⟨r,(hall r).mpr h1,h2⟩⟩
   ·rw [Nat.pow_succ]
    omega
 ·rintro σ Hc ⟨rl,zs,rs,w2,w3,w4,w5,w6,w7,rfl,s2,erl,pz,hall,hlen⟩
  walk_at "ND"
  exact h rl Hc zs rs s2 erl pz hall (pow3 h6 hlen)
end
end My
namespace My
open PySem L2
section
variable {P:Program} {w:World} {K:PySem.W.Frag} {mg:Str→Option Value} {base:Heap} {c1 c2 c3 c4:Tok} {C_NoWeb f_NoWeb:Addr} {dI:FuncData}
theorem jpq {H:Hp} {a st:Addr} {ns:List Int} {o:HO} (ha:H a = some (.lst (ns.map V.int))) (hs:H st = some o) (so:StO o):a ≠ st:=by
 rintro rfl
 obtain ⟨c,x,fl,rfl,_⟩:=so
 rw [ha] at hs
 have e:=HO.lst.inj (Option.some.inj hs)
 match ns,e with
 | [_,_,_],e=>simp at e
theorem LsRs.but {H H':Hp} {st:Addr} {o:HO} (hs:H st = some o) (so:StO o) (b:But st H H') {xs:List V} {rs:List (List Int)} (h:LsRs H xs rs):LsRs H' xs rs:=Paired.imp' (fun _ _ ⟨a,e,q⟩=>⟨a,e,b _ _ (jpq q hs so) q⟩) h
theorem jpp {H:Hp} {a st:Addr} {xs:List V} {rs:List (List Int)} {o:HO} (ha:H a = some (.lst xs)) (h:LsRs H xs rs) (hs:H st = some o) (so:StO o):a ≠ st:=by
 rintro rfl
 obtain ⟨c,x,fl,rfl,_⟩:=so
 rw [ha] at hs
 have e:=HO.lst.inj (Option.some.inj hs)
 subst e
 cases h with
 | cons r t=>obtain ⟨b,e,_⟩:=r; cases e
theorem AllR.min {ps ts:List (Int × Int)} {rs:List (List Int)} {m x:Int} (A:AllR ps ts rs m) (h1:x ∈ rs.map (jci ps)) (h2:∀ y ∈ rs.map (jci ps),x ≤ y):x = m:=by
 obtain ⟨row,hr,rfl⟩:=List.mem_map.mp h1
 obtain ⟨row2,hr2,e⟩:=A.m1
 have a:=A.m2 row hr
 have b:=h2 _ (List.mem_map.mpr ⟨row2,hr2,rfl⟩)
 omega
theorem AllR.ne {ps ts:List (Int × Int)} {rs:List (List Int)} {m:Int} (A:AllR ps ts rs m):rs ≠ []:=fun z=>by
 obtain ⟨row,hr,_⟩:=A.m1
 rw [z] at hr
 cases hr
def jma:Sp:=fun vs H Q _=>∃ s o v ps ts l zs rs cl m,vs = [.ref s,v,.ref l,.ref cl]∧H s = some o∧StO o∧jdh H v ps ts∧WebOk ps ts∧ps.length ≤ 6∧H l = some (.lst zs)∧LsRs H zs rs∧H cl = some (.lst ((rs.map (jci ps)).map V.int))∧AllR ps ts rs m∧rs.length ≤ 729∧∀ H' o',But s H H'→H' s = some o'→StO o'→Q (.bl true) H'
theorem ne_tps {H:Hp} {a st:Addr} {xs:List V} {ds:List (Int × Int × Int)} {o:HO} (ha:H a = some (.lst xs)) (h:Tps H xs ds) (hs:H st = some o) (so:StO o):a ≠ st:=by
 rintro rfl
 obtain ⟨c,x,fl,rfl,_⟩:=so
 rw [ha] at hs
 have e:=HO.lst.inj (Option.some.inj hs)
 subst e
 cases h with
 | cons r t=>obtain ⟨b,e,_⟩:=r; cases e
theorem jr2.at {H H':Hp} {t:Addr} {ps ts:List (Int × Int)} (h:jr2 H H' t ps ts):jdh H' (.ref t) ps ts:=by
 obtain ⟨l1,l2,xs,ys,_,_,_,e,e1,e2,p1,p2⟩:=h
 exact ⟨t,l1,l2,xs,ys,rfl,e,e1,e2,p1,p2⟩
theorem juy {xs:List V} {k:Int} (h0:0 ≤ k):cutV xs none (some k) = xs.take k.toNat:=by
 unfold cutV HT.sIx
 simp only [List.drop_zero,if_neg (show ¬ k < 0 by omega),Nat.sub_zero]
 by_cases c:k.toNat ≤ xs.length
 ·rw [Nat.min_eq_left c]
 ·rw [Nat.min_eq_right (by omega),List.take_length,List.take_of_length_le (by omega)]
theorem jit {f:Addr} {fd:FuncData} {f_law_own:Addr} {d_law_own:FuncData} {f_halves_of:Addr} {d_halves_of:FuncData} {f_law_take:Addr} {d_law_take:FuncData} {f_lets_halves:Addr} {d_lets_halves:FuncData} (B:Blt mg) (D:DefAt K mg "_law_others" (top 47) ["_law_state","_law_web_here","_law_rows_here","_law_costs"] f fd) (D_law_own:DefAt K mg "_law_own" (top 39) ["_law_web_here"] f_law_own d_law_own) (G_law_own:FnOk P w K mg base CX0 1 f_law_own d_law_own ["_law_web_here"] jov) (D_halves_of:DefAt K mg "halves_of" (top 37) ["web"] f_halves_of d_halves_of) (G_halves_of:FnOk P w K mg base CX0 7 f_halves_of d_halves_of ["web"] jjy) (D_law_take:DefAt K mg "_law_take" (top 41) ["_law_state","_law_many"] f_law_take d_law_take) (G_law_take:FnOk P w K mg base CX0 1 f_law_take d_law_take ["_law_state","_law_many"] jjz) (D_lets_halves:DefAt K mg "lets_halves" (top 32) ["web","thing"] f_lets_halves d_lets_halves) (G_lets_halves:FnOk P w K mg base CX0 6 f_lets_halves d_lets_halves ["web","thing"] jid):FnOk P w K mg base CX0 8 f fd ["_law_state","_law_web_here","_law_rows_here","_law_costs"] jma:=by
 have sc:FnScope ["_law_state","_law_web_here","_law_rows_here","_law_costs","_law_dues","_law_least","_law_some","_law_k","_law_paper","_law_found"] ["_law_state","_law_web_here","_law_rows_here","_law_costs"] (jbc (top 47)):=⟨rfl,rfl,rfl,by decide +kernel,rfl,by decide +kernel,by decide +kernel⟩
 refine D.F.ok sc (fun vs H Q E h=>?_) (fun cdv A outer s H vs Q E hr h=>?_)
 ·obtain ⟨s,o,v,ps,ts,l,zs,rs,cl,m,rfl,_⟩:=h
  rfl
 obtain ⟨st,o,v,ps,ts,l,zs,rs,cl,m,rfl,es,so,hw,wk,h6,el,pz,ecl,AR,h7,h⟩:=h
 have hzl:=Paired.length pz
 have hne:=AR.ne
 have hu:=jc8 hr
 have hu0:_ < PySem.cLine:=Nat.lt_of_succ_lt hu
 refine ⟨_,(jaf (jbi (i:=4) sc.nd rfl (Or.inl rfl) (jbh q_ix (jbe G_halves_of (hr.mono (by decide)) rfl D_halves_of.m D_halves_of.F.kp D_halves_of.b .nil jbu (ja0 (jbe G_law_own (hr.mono (by decide)) rfl D_law_own.m D_law_own.F.kp D_law_own.b .nil jbu (ja0 (qv 1) jag)) jag)) jah (fun _ _=>rfl))) (jaf (jbi (i:=5) sc.nd rfl (Or.inr rfl) (jbf (jf2 rfl) rfl B.min PyProof.Rows.boot_min (ja0 (qv 3) jag))) (jaf (jfc (i:=6) sc.nd rfl (Or.inl rfl) (CpScope.of (N:=["_law_k","_law_state","_law_rows_here"]) (src:=[none,some 0,some 2]) (by rfl)) rfl (jcd rfl B.range (ja0 jah jag)) (fun _ _ _ _=>(jbb (i:=0) (jbd (l:=["_law_k","_law_state","_law_rows_here"]) (by rfl)) rfl (Or.inl rfl))) (fun _ _ _ _=>jc1) (fun _ _ _ _=>(jbe G_law_take (hr.mono (by decide)) rfl D_law_take.m D_law_take.F.kp D_law_take.b .nil jbu (ja0 (qv 1) (ja0 (jbf jdv rfl B.len PySem.boot_len (ja0 (qv 2) jag)) jag))))) (jaf (jbi (i:=6) sc.nd rfl (Or.inl rfl) (jbv q_cat (qv 6) (jeu q_slL (jc6 (CpScope.of (N:=["_law_k","_law_least","_law_costs"]) (src:=[none,some 5,some 3]) (by rfl)) rfl (jcd rfl B.range (ja0 (jbf jdv rfl B.len PySem.boot_len (ja0 (qv 2) jag)) jag)) (fun _ _ _ _=>(jbb (i:=0) (jbd (l:=["_law_k","_law_least","_law_costs"]) (by rfl)) rfl (Or.inl rfl))) (fun _ _ _ _=>(jim (jck q_eq (jbh q_ix (qv 2) (qv 0) (fun _ _=>rfl)) (qv 1) (jc5 _)))) (fun _ _ _ _=>(qv 0))) jgm (jgh jah)))) (jaf (jcv PassesOwn.never rfl (jbx (qv 6)) (jbb (i:=7) sc.nd rfl (Or.inr rfl)) (jaf (jbi (i:=8) sc.nd rfl (Or.inl rfl) (jch (ja0 (jc6 (CpScope.of (N:=["_law_j","_law_rows_here","_law_k","_law_web_here"]) (src:=[none,some 2,some 7,some 1]) (by rfl)) rfl (jcd rfl B.range (ja0 (jbf jdv rfl B.len PySem.boot_len (ja0 (jbh q_ix (qv 1) jah (fun _ _=>rfl)) jag)) jag)) (fun _ _ _ _=>(jbb (i:=0) (jbd (l:=["_law_j","_law_rows_here","_law_k","_law_web_here"]) (by rfl)) rfl (Or.inl rfl))) (fun _ _ _ _=>jc1) (fun _ _ _ _=>(jch (ja0 (jbh q_ix (jbh q_ix (jbh q_ix (qv 3) jah (fun _ _=>rfl)) (qv 0) (fun _ _=>rfl)) jah (fun _ _=>rfl)) (ja0 (jbh q_ix (jbh q_ix (qv 1) (qv 2) (fun _ _=>rfl)) (qv 0) (fun _ _=>rfl)) jag))))) (ja0 (qv 4) jag)))) (jaf (jbi (i:=9) sc.nd rfl (Or.inl rfl) (jbe G_lets_halves (hr.mono (by decide)) rfl D_lets_halves.m D_lets_halves.F.kp D_lets_halves.b .nil jbu (ja0 (jbe G_law_own (hr.mono (by decide)) rfl D_law_own.m D_law_own.F.kp D_law_own.b .nil jbu (ja0 (qv 1) jag)) (ja0 (qv 8) jag)))) (jb8 (jdc (PW.pt (jhd (jd3 (jd2 (jbf (jk3 .bl) rfl B.isinstance PyProof.Rows.boot_isinstance (ja0 (qv 9) (ja0 (jdy (v:=.ty "bool") rfl B.bool PyProof.Rows.boot_bool rfl) jag))))) (jgl (jck q_ne (qv 9) (jd7 q_eq (jbh q_ix (qv 3) (qv 7) (fun _ _=>rfl)) (qv 5) (jc5 _)) (jc5 _))))) (jb8 (jbq jef)) jc2))))) (jb8 (jbq jef))))))),?_⟩
 refine jb9 fun R hR=>?_
 walk_at "ND"
 refine ⟨v,ps,ts,rfl,hw,fun t1 H1 s1 nw1=>?_⟩
 walk_at "ND"
 refine ⟨.ref t1,ps,ts,rfl,nw1.at,wk,by omega,fun t0 f1 f2 zs' us r H2 s2 et0 ef1 ef2 n0 n1 n2 ff rst pz' pu=>?_⟩
 have s02:=s1.trans s2
 simp_all_arith [jbl,et0,at1]
 subst hR
 refine jb9 fun R hR=>?_
 walk_at "ND"
 refine ⟨cl,rs.map (jci ps),rfl,s02 _ _ ecl,by simpa using hne,fun x h1 h2=>?_⟩
 rw [AR.min h1 h2]
 subst hR
 refine jb9 fun R hR=>?_
 have es2:=s02 _ _ es
 walk_at "ND"
 refine jbj (Itr 0 12) H2 (fun R2 hR2=>?_) (fun z hz0=>jbs 12 (fun j σ' Hd=>∃ w1 ns o',σ' = [w1,some (.ref st),some (.ref l)]∧But st H2 Hd∧Hd st = some o'∧StO o'∧Hd z = some (.lst (ns.map V.int))∧(∀ n ∈ ns,0 ≤ n∧n < (rs.length:Int))∧ns.length ≤ j) ⟨none,[],o,rfl,But.new hz0,(jai hz0 _) _ _ es2,so,ja4,fun n hn=>(by cases hn),Nat.zero_le _⟩ ?_ ?_)
 ·unfold jfz
  walk_at "ND"
  exact ⟨_,rfl,by omega,by omega,by simpa using hR2⟩
 ·rintro j σ' Hd hj ⟨w1,ns,o',rfl,b3,es3,so3,ez,hn,hnl⟩
  refine ⟨hj,?_⟩
  rintro y H' ⟨rfl,rfl⟩
  have el3:=b3 _ _ (jpp (s02 _ _ el) (LsRs.same s02 pz) es2 so) (s02 _ _ el)
  have nz:z ≠ st:=(jaj es2 hz0).symm
  simp_all_arith [jbl,el3]
  have hr0:0 < rs.length:=by
   cases rs with
   | nil=>exact absurd rfl hne
   | cons a b=>simp
  refine ⟨st,o',_,rfl,es3,so3,by omega,by omega,fun d o4 d0 d1 so4=>?_⟩
  have ez4:upd H' st o4 z = some (.lst (ns.map V.int)):=by rw [jba nz]; exact ez
  refine ⟨_,ez4,by rw [List.length_map]; exact szl' (by omega),_,ns ++ [d],o4,rfl,fun b o nb q=>?_,by rw [jba nz.symm,ja4],so4,by rw [ja4,List.map_append]; rfl,fun n hn'=>?_,by rw [List.length_append]; show _ + 1 ≤ _; omega⟩
  ·rw [jba (jaj q hz0),jba nb]
   exact b3 _ _ nb q
  ·rcases List.mem_append.mp hn' with h1 | h1
   ·exact hn n h1
   ·rw [List.mem_singleton.mp h1]
    omega
 rintro σ' H3 ⟨w1,ns,o3,rfl,b3,es3,so3,ez,hn,hnl⟩
 refine ⟨Nat.le_refl _,?_⟩
 have B3:But st H H3:=fun b o nb q=>b3 _ _ nb (s02 _ _ q)
 have el3:=B3 _ _ (jpp el pz es so) el
 have pz3:=LsRs.but es so B3 pz
 have ecl3:=B3 _ _ (jpq ecl es so) ecl
 have W3:=hw.but es so B3
 have t3:=b3.tups es2 so.imm
 have ef23:=b3 _ _ (ne_tps ef2 pu es2 so) ef2
 have pu3:=jbw t3 pu
 subst hR
 refine jb9 fun R hR=>?_
 walk_at "ND"
 refine jbj (Itr 0 rs.length) H3 (fun R2 hR2=>?_) (fun z2 hz2=>jbs rs.length (fun j σ' Hd=>∃ w1 ms,σ' = [w1,some (.int m),some (.ref cl)]∧Same H3 Hd∧Hd z2 = some (.lst (ms.map V.int))∧(∀ n ∈ ms,0 ≤ n∧n < (rs.length:Int))∧ms.length ≤ j) ⟨none,[],rfl,jai hz2 _,ja4,fun n hn=>(by cases hn),Nat.zero_le _⟩ ?_ ?_)
 ·unfold jfz
  simp_all_arith [jbl,el3]
  exact ⟨_,rfl,by omega,by omega,by rw [hzl]; simpa using hR2⟩
 ·rintro j σ' Hd hj ⟨w1,ms,rfl,s4,ez2,hms,hml⟩
  refine ⟨hj,?_⟩
  rintro y H' ⟨rfl,rfl⟩
  have ac:atI ((rs.map (jci ps)).map V.int) (0 + (j:Int)) = some (.int (jci ps rs[j])):=by
   rw [Int.zero_add]
   refine jbz ?_
   rw [List.getElem?_map,List.getElem?_map,List.getElem?_eq_getElem hj]
   rfl
  simp_all_arith [jbl,s4 _ _ ecl3,ac]
  by_cases c:jci ps rs[j] = m
  ·rw [decide_eq_true c]
   walk_at "ND"
   refine ⟨_,ez2,by rw [List.length_map]; exact szl' (by omega),_,ms ++ [0 + (j:Int)],rfl,jbk s4 hz2,by rw [ja4,List.map_append]; rfl,fun n hn'=>?_,by rw [List.length_append]; show _ + 1 ≤ _; omega⟩
   rcases List.mem_append.mp hn' with h1 | h1
   ·exact hms n h1
   ·rw [List.mem_singleton.mp h1]
    omega
  ·rw [decide_eq_false c]
   walk_at "ND"
   exact ⟨_,ms,rfl,s4,ez2,hms,by omega⟩
 rintro σ' H4 ⟨w2,ms,rfl,s4,ez2,hms,hml⟩
 refine ⟨Nat.le_refl _,?_⟩
 simp_all_arith [ez2]
 intro z5 hz5
 have q5:=jai hz5 (.lst (cutV (ms.map V.int) none (some 12)))
 have e5:upd H4 z5 (.lst (cutV (ms.map V.int) none (some 12))) z5 = some (.lst (cutV (ms.map V.int) none (some 12))):=ja4
 generalize upd H4 z5 (.lst (cutV (ms.map V.int) none (some 12))) = H5 at q5 e5
 rw [juy (by decide),← List.map_take] at e5
 have hm5:∀ n ∈ ms.take (12:Int).toNat,0 ≤ n∧n < (rs.length:Int):=fun n hn=>hms n (List.mem_of_mem_take hn)
 have hl5:(ms.take (12:Int).toNat).length ≤ 12:=by rw [List.length_take]; exact Nat.min_le_left _ _
 generalize ms.take (12:Int).toNat = ks at e5 hm5 hl5
 have s35:=s4.trans q5
 simp_all_arith [s35 _ _ ez,e5]
 refine ⟨by rw [List.length_map,List.length_map]; exact szl (by omega),?_⟩
 intro z6 hz6
 have q6:=s35.trans (jai hz6 (.lst (ns.map V.int ++ ks.map V.int)))
 have e6:upd H5 z6 (.lst (ns.map V.int ++ ks.map V.int)) z6 = some (.lst (ns.map V.int ++ ks.map V.int)):=ja4
 generalize upd H5 z6 (.lst (ns.map V.int ++ ks.map V.int)) = H6 at q6 e6
 rw [← List.map_append] at e6
 have hk6:∀ n ∈ ns ++ ks,0 ≤ n∧n < (rs.length:Int):=fun n hn'=>(List.mem_append.mp hn').elim (hn n) (hm5 n)
 generalize ns ++ ks = ls at e6 hk6
 have el6:=q6 _ _ el3
 have pz6:=LsRs.same q6 pz3
 have ecl6:=q6 _ _ ecl3
 have W6:=W3.same q6
 have ef26:=q6 _ _ ef23
 have pu6:=jbw q6.tups pu3
 have es6:=q6 _ _ es3
 have B6:But st H H6:=fun b o nb q=>q6 _ _ (B3 _ _ nb q)
 clear q6 e5 hz6 q5 hz5 s35 ez2 hz2 s4 ez hz0 b3 t3 el3 pz3 ecl3 W3 ef23 pu3 es3 B3
 subst hR
 refine jb9 fun R hR=>?_
 obtain ⟨u,pa,ta,xs,ys,rfl,eu,epa,eta,hxs,hys⟩:=id W6
 have hxl:=Paired.length hxs
 refine jc0 (Itl K z6) H6 (fun R' hR'=>?_) (jdj (xs:=ls.map V.int) (fun i σ Hc=>∃ w7 w8 w9,σ = [some (.ref st),some (.ref u),some (.ref l),some (.ref cl),some (.ref f2),some (.int m),some (.ref z6),w7,w8,w9]∧Same H6 Hc) ⟨none,none,none,rfl,Same.refl _⟩ (fun i σ Hc _ ⟨w7,w8,w9,_,s7⟩=>SqL.of (s7 _ _ e6)) ?_ ?_)
 ·unfold jd5
  walk_at "ND"
  exact ⟨z6,rfl,⟨_,SqL.of e6⟩,hR'⟩
 ·rintro i y σ Hc hy ⟨w7,w8,w9,rfl,s7⟩
  rw [List.getElem?_map] at hy
  obtain ⟨n,hn1,rfl⟩:=Option.map_eq_some_iff.mp hy
  have hn2:=hk6 n (List.mem_of_getElem? hn1)
  obtain ⟨k,rfl⟩:∃ k:Nat,n = (k:Int):=⟨n.toNat,by omega⟩
  have hk:k < rs.length:=by omega
  have xk:rs[k]? = some rs[k]:=List.getElem?_eq_getElem hk
  have hrow:=List.getElem_mem hk
  generalize rs[k] = row at xk hrow
  have gr:=(AR.all row).mp hrow
  obtain ⟨rv,hrv,prv⟩:=jbo pz6 xk
  obtain ⟨ra,rfl,era⟩:=prv.same s7
  have al:atI zs (k:Int) = some (.ref ra):=jbz hrv
  simp only [jal,List.set_cons_zero,List.set_cons_succ]
  refine jb9 fun R5 hR5=>?_
  walk_at "ND"
  refine jbj (Itr 0 ps.length) Hc (fun R2 hR2=>?_) (fun z2 hz2=>jbs ps.length (fun j σ' Hd=>∃ w1 ws,σ' = [w1,some (.ref l),some (.int (k:Int)),some (.ref u)]∧Same Hc Hd∧Hd z2 = some (.lst ws)∧Prs Hd ws ((List.range j).map fun x=>(nmA ps x,row.getD x 0))) ⟨none,[],rfl,jai hz2 _,ja4,.nil⟩ ?_ ?_)
  ·unfold jfz
   simp_all_arith [jbl,s7 _ _ eu,at0,s7 _ _ epa]
   exact ⟨_,rfl,by omega,by omega,by rw [hxl]; simpa using hR2⟩
  ·rintro j σ' Hd hj ⟨w1,ws,rfl,s8,ez2,pw⟩
   refine ⟨hj,?_⟩
   rintro y H' ⟨rfl,rfl⟩
   have s78:=s7.trans s8
   have x2:ps[j]? = some (ps[j]'(by omega)):=List.getElem?_eq_getElem _
   obtain ⟨x',hx',px'⟩:=jbo hxs x2
   obtain ⟨b',rfl,hb'⟩:=px'.same s78
   have ax':atI xs (0 + (j:Int)) = some (.ref b'):=by rw [Int.zero_add]; exact jbz hx'
   have hjl:j < row.length:=by have:=gr.l; omega
   have ar:atI (row.map V.int) (0 + (j:Int)) = some (.int (row.getD j 0)):=by
    rw [Int.zero_add]
    refine jbz ?_
    rw [List.getElem?_map,List.getElem?_eq_getElem hjl,List.getD_eq_getElem?_getD,List.getElem?_eq_getElem hjl]
    rfl
   simp_all_arith [jbl,s78 _ _ eu,at0,s78 _ _ epa,ax',hb',s78 _ _ el6,al,s8 _ _ era,ar]
   rw [← jdd x2]
   intro t5 ht5
   have q5:=jai ht5 (.tup [.int (nmA ps j),.int (row.getD j 0)])
   have ez5:=q5 _ _ ez2
   have hwl:ws.length ≤ j:=by rw [Paired.length pw,List.length_map,List.length_range]; exact Nat.le_refl _
   have t6:=jca (ys:=ws ++ [.ref t5]) ez5
   refine ⟨ws,ez5,szl' (by omega),_,ws ++ [.ref t5],rfl,jbk (s8.trans q5) hz2,ja4,?_⟩
   rw [List.range_succ,List.map_append]
   exact jbt (Prs.tups t6 (Prs.same q5 pw)) ⟨t5,rfl,t6 _ _ rfl ja4⟩
  rintro σ' H8 ⟨w1,ws,rfl,s8,ez2,pw⟩
  refine ⟨Nat.le_refl _,?_⟩
  have pw:Prs H8 ws (rowP ps row):=pw
  walk_at "ND"
  intro t9 ht9
  have q9:=jai ht9 (.tup [.ref z2,.ref f2])
  have e9:upd H8 t9 (.tup [.ref z2,.ref f2]) t9 = some (.tup [.ref z2,.ref f2]):=ja4
  generalize upd H8 t9 (.tup [.ref z2,.ref f2]) = H9 at q9 e9
  have s69:=(s7.trans s8).trans q9
  have rp:=jru e9 (q9 _ _ ez2) (s69 _ _ ef26) (Prs.same q9 pw) (jbw s69.tups pu6)
  subst hR5
  refine jb9 fun R5 hR5=>?_
  walk_at "ND"
  refine ⟨.ref u,ps,ts,rfl,W6.same s69,fun tA HA sA nwA=>?_⟩
  walk_at "ND"
  have hdl:=juv ps ts r
  have htk:=wk.tl
  refine ⟨.ref tA,ps,ts,.ref t9,papT (rowP ps row) (duT ps ts r),rfl,nwA.at,wk,Rep.same sA _ rp,jnh (by omega),fun HB sB=>?_⟩
  rw [jp1 wk rst AR hrow]
  have s6B:=(s69.trans sA).trans sB
  have ac:atI ((rs.map (jci ps)).map V.int) (k:Int) = some (.int (jci ps row)):=by
   refine jbz ?_
   rw [List.getElem?_map,List.getElem?_map,xk]
   rfl
  subst hR5
  simp_all_arith [isi,kd,jbl,s6B _ _ ecl6,ac]
  rw [if_neg (by decide)]
  exact ⟨_,_,_,rfl,s6B⟩
 ·rintro σ Hc ⟨w7,w8,w9,rfl,s7⟩
  subst hR
  walk_at "ND"
  exact h Hc o3 (fun b o nb q=>s7 _ _ (B6 _ _ nb q)) (s7 _ _ es6) so3
end
end My
namespace My
open PySem L2
section
variable {P:Program} {w:World} {K:PySem.W.Frag} {mg:Str→Option Value} {base:Heap} {c1 c2 c3 c4:Tok} {C_NoWeb f_NoWeb:Addr} {dI:FuncData}
def jra (K:PySem.W.Frag):Sp:=fun vs H Q _=>∃ a ns,vs = [.ref a]∧Scr K H a ns∧∀ H',Q (.bl true) H'
theorem jr7 (ps ts:List (Int × Int)) (n:Nat):GoodN ps ts n (List.replicate n 2):=by
 refine ⟨List.length_replicate,fun h hh=>?_,fun j k h1 h2 _=>?_⟩
 ·rw [(List.mem_replicate.mp hh).2]; decide
 ·rw [List.getD_eq_getElem?_getD,List.getD_eq_getElem?_getD,List.getElem?_replicate,List.getElem?_replicate,if_pos (by omega),if_pos h2]
  decide
theorem jt8 {α:Type} (f:α→Int):∀ {l:List α},l ≠ []→∃ x ∈ l,∀ y ∈ l,f x ≤ f y
 | [],h=>absurd rfl h
 | [a],_=>⟨a,by simp,fun y hy=>by rw [List.mem_singleton.mp hy]; exact Int.le_refl _⟩
 | a :: b :: l,_=>by
  obtain ⟨x,hx,hm⟩:=jt8 f (l:=b :: l) (by simp)
  by_cases c:f a ≤ f x
  ·refine ⟨a,by simp,fun y hy=>?_⟩
   rcases List.mem_cons.mp hy with rfl | hy
   ·exact Int.le_refl _
   ·exact Int.le_trans c (hm y hy)
  ·refine ⟨x,List.mem_cons_of_mem _ hx,fun y hy=>?_⟩
   rcases List.mem_cons.mp hy with rfl | hy
   ·omega
   ·exact hm y hy
theorem jv5 {ps ts:List (Int × Int)} {rs:List (List Int)} (h:∀ row,row ∈ rs ↔ GoodN ps ts ps.length row):∃ m,AllR ps ts rs m:=by
 have hne:rs ≠ []:=fun z=>by
  have:=(h _).mpr (jr7 ps ts ps.length)
  rw [z] at this
  cases this
 obtain ⟨x,hx,hm⟩:=jt8 (jci ps) hne
 exact ⟨jci ps x,h,⟨x,hx,rfl⟩,hm⟩
theorem jsi {ps:List (Int × Int)} {rs:List (List Int)} {m:Int} {j:Nat} {row:List Int} (h:rs[j]? = some row):chp ps (rs.take (j + 1)) m = chp ps (rs.take j) m ++ (if jci ps row = m then [row] else []):=by
 unfold chp
 rw [jbp h,List.filter_append,List.filter_cons,List.filter_nil]
 by_cases c:jci ps row = m
 ·rw [if_pos (decide_eq_true c),if_pos c]
 ·rw [if_neg (by simpa using c),if_neg c]
theorem jqv (ps:List (Int × Int)) (rs:List (List Int)) (m:Int):(chp ps rs m).length ≤ rs.length:=List.length_filter_le _ _
theorem juu {cs:List (List Int)} {k:Nat} {a b:Int} (hne:cs ≠ []) (a1:a ∈ cs.map fun r=>r.getD k 0) (a2:∀ x ∈ cs.map (fun r=>r.getD k 0),a ≤ x) (b1:b ∈ cs.map fun r=>r.getD k 0) (b2:∀ x ∈ cs.map (fun r=>r.getD k 0),x ≤ b):dueH cs k = if a = b then (cs.headD []).getD k 0 else 1:=by
 unfold dueH
 by_cases c:a = b
 ·rw [if_pos c,if_pos fun x hx y hy=>?_]
  have h1:=a2 _ (List.mem_map.mpr ⟨x,hx,rfl⟩)
  have h2:=b2 _ (List.mem_map.mpr ⟨x,hx,rfl⟩)
  have h3:=a2 _ (List.mem_map.mpr ⟨y,hy,rfl⟩)
  have h4:=b2 _ (List.mem_map.mpr ⟨y,hy,rfl⟩)
  omega
 ·rw [if_neg c,if_neg fun z=>?_]
  obtain ⟨x,hx,rfl⟩:=List.mem_map.mp a1
  obtain ⟨y,hy,rfl⟩:=List.mem_map.mp b1
  exact c (z x hx y hy)
theorem jk2 {H:Hp}:∀ {xs:List V} {rs:List (List Int)},LsRs H xs rs→Reps H (rs.map fun r=>Dt.lst (r.map Dt.int)) xs
 | _,_,.nil=>by rw [List.map_nil,Reps]
 | _,_,.cons r t=>by
  obtain ⟨a,rfl,e⟩:=r
  rw [List.map_cons,Reps]
  exact ⟨_,_,rfl,(by rw [Rep]; exact ⟨a,_,rfl,e,jh4 _⟩),jk2 t⟩
theorem jmu:∀ ns:List Int,jd8 (ns.map Dt.int) ≤ 1
 | []=>by rw [List.map_nil,jd8]; omega
 | n :: r=>by
  rw [List.map_cons,jd8]
  have:=jmu r
  have e:depP (Dt.int n) = 0:=rfl
  omega
theorem jmd:∀ rs:List (List Int),jd8 (rs.map fun r=>Dt.lst (r.map Dt.int)) ≤ 3
 | []=>by rw [List.map_nil,jd8]; omega
 | n :: r=>by
  rw [List.map_cons,jd8,depP]
  have:=jmd r
  have:=jmu n
  omega
theorem ok_law {f:Addr} {fd:FuncData} {f_law_begun:Addr} {d_law_begun:FuncData} {f_law_web:Addr} {d_law_web:FuncData} {f_law_turned:Addr} {d_law_turned:FuncData} {f_law_rows:Addr} {d_law_rows:FuncData} {f_law_cost:Addr} {d_law_cost:FuncData} {f_law_own:Addr} {d_law_own:FuncData} {f_halves_of:Addr} {d_halves_of:FuncData} {f_law_others:Addr} {d_law_others:FuncData} (B:Blt mg) (D:DefAt K mg "law" (top 48) ["_law_script"] f fd) (D_law_begun:DefAt K mg "_law_begun" (top 40) ["_law_script","_law_k"] f_law_begun d_law_begun) (G_law_begun:FnOk P w K mg base CX0 1 f_law_begun d_law_begun ["_law_script","_law_k"] (jow K)) (D_law_web:DefAt K mg "_law_web" (top 43) ["_law_state","_law_most"] f_law_web d_law_web) (G_law_web:FnOk P w K mg base CX0 3 f_law_web d_law_web ["_law_state","_law_most"] jsp) (D_law_turned:DefAt K mg "_law_turned" (top 44) ["_law_state","_law_web_here"] f_law_turned d_law_turned) (G_law_turned:FnOk P w K mg base CX0 2 f_law_turned d_law_turned ["_law_state","_law_web_here"] jsq) (D_law_rows:DefAt K mg "_law_rows" (top 45) ["_law_web_here"] f_law_rows d_law_rows) (G_law_rows:FnOk P w K mg base CX0 1 f_law_rows d_law_rows ["_law_web_here"] jsr) (D_law_cost:DefAt K mg "_law_cost" (top 46) ["_law_web_here","_law_row"] f_law_cost d_law_cost) (G_law_cost:FnOk P w K mg base CX0 1 f_law_cost d_law_cost ["_law_web_here","_law_row"] jot) (D_law_own:DefAt K mg "_law_own" (top 39) ["_law_web_here"] f_law_own d_law_own) (G_law_own:FnOk P w K mg base CX0 1 f_law_own d_law_own ["_law_web_here"] jov) (D_halves_of:DefAt K mg "halves_of" (top 37) ["web"] f_halves_of d_halves_of) (G_halves_of:FnOk P w K mg base CX0 7 f_halves_of d_halves_of ["web"] jjy) (D_law_others:DefAt K mg "_law_others" (top 47) ["_law_state","_law_web_here","_law_rows_here","_law_costs"] f_law_others d_law_others) (G_law_others:FnOk P w K mg base CX0 8 f_law_others d_law_others ["_law_state","_law_web_here","_law_rows_here","_law_costs"] jma):FnOk P w K mg base CX0 9 f fd ["_law_script"] (jra K):=by
 have sc:FnScope ["_law_script","_law_k","_law_state","_law_web_here","_law_rows_here","_law_costs","_law_cheapest","_law_due","_law_j","_law_hs","_law_h"] ["_law_script"] (jbc (top 48)):=⟨rfl,rfl,rfl,by decide +kernel,rfl,by decide +kernel,by decide +kernel⟩
 refine D.F.ok sc (fun vs H Q E h=>?_) (fun cdv A outer s H vs Q E hr h=>?_)
 ·obtain ⟨a,ns,rfl,_⟩:=h
  rfl
 obtain ⟨a,ns,rfl,hs,h⟩:=h
 have hu:=jc8 hr
 have hu0:_ < PySem.cLine:=Nat.lt_of_succ_lt hu
 refine ⟨_,(jaf (jcv PassesOwn.never rfl (jcd rfl B.range (ja0 (jbf (q_max rfl) rfl B.max PyProof.Rows.boot_max (ja0 jah (ja0 (jbf (q_min rfl) rfl B.min PyProof.Rows.boot_min (ja0 (jbf je2 rfl B.len PySem.boot_len (ja0 (qv 0) jag)) (ja0 jah jag))) jag))) jag)) (jbb (i:=1) sc.nd rfl (Or.inl rfl)) (jaf (jbi (i:=2) sc.nd rfl (Or.inl rfl) (jbe G_law_begun (hr.mono (by decide)) rfl D_law_begun.m D_law_begun.F.kp D_law_begun.b .nil jbu (ja0 (qv 0) (ja0 (qv 1) jag)))) (jaf (jbi (i:=3) sc.nd rfl (Or.inr rfl) (jbe G_law_turned (hr.mono (by decide)) rfl D_law_turned.m D_law_turned.F.kp D_law_turned.b .nil jbu (ja0 (qv 2) (ja0 (jbe G_law_web (hr.mono (by decide)) rfl D_law_web.m D_law_web.F.kp D_law_web.b .nil jbu (ja0 (qv 2) (ja0 jah jag))) jag)))) (jaf (jbi (i:=4) sc.nd rfl (Or.inr rfl) (jbe G_law_rows (hr.mono (by decide)) rfl D_law_rows.m D_law_rows.F.kp D_law_rows.b .nil jbu (ja0 (qv 3) jag))) (jaf (jbi (i:=5) sc.nd rfl (Or.inr rfl) (jc6 (CpScope.of (N:=["_law_row","_law_web_here"]) (src:=[none,some 3]) (by rfl)) rfl (jbx (qv 4)) (fun _ _ _ _=>(jbb (i:=0) (jbd (l:=["_law_row","_law_web_here"]) (by rfl)) rfl (Or.inl rfl))) (fun _ _ _ _=>jc1) (fun _ _ _ _=>(jbe G_law_cost (hr.mono (by decide)) rfl D_law_cost.m D_law_cost.F.kp D_law_cost.b .nil jbu (ja0 (qv 1) (ja0 (qv 0) jag)))))) (jaf (jfc (i:=6) sc.nd rfl (Or.inl rfl) (CpScope.of (N:=["_law_j","_law_rows_here","_law_costs"]) (src:=[none,some 4,some 5]) (by rfl)) rfl (jcd rfl B.range (ja0 (jbf jdv rfl B.len PySem.boot_len (ja0 (qv 4) jag)) jag)) (fun _ _ _ _=>(jbb (i:=0) (jbd (l:=["_law_j","_law_rows_here","_law_costs"]) (by rfl)) rfl (Or.inl rfl))) (fun _ _ _ _=>(jim (jck q_eq (jbh q_ix (qv 2) (qv 0) (fun _ _=>rfl)) (jbf (jf2 rfl) rfl B.min PyProof.Rows.boot_min (ja0 (qv 2) jag)) (jc5 _)))) (fun _ _ _ _=>(jbh q_ix (qv 1) (qv 0) (fun _ _=>rfl)))) (jaf (jbi (i:=7) sc.nd rfl (Or.inl rfl) (jd4 jag)) (jaf (jcv PassesOwn.never rfl (jcd rfl B.range (ja0 (jbf jdv rfl B.len PySem.boot_len (ja0 (jbh q_ix (qv 3) jah (fun _ _=>rfl)) jag)) jag)) (jbb (i:=8) sc.nd rfl (Or.inr rfl)) (jaf (jfc (i:=9) sc.nd rfl (Or.inl rfl) (CpScope.of (N:=["_law_row","_law_j"]) (src:=[none,some 8]) (by rfl)) rfl (jbx (qv 6)) (fun _ _ _ _=>(jbb (i:=0) (jbd (l:=["_law_row","_law_j"]) (by rfl)) rfl (Or.inl rfl))) (fun _ _ _ _=>jc1) (fun _ _ _ _=>(jbh q_ix (qv 0) (qv 1) (fun _ _=>rfl)))) (jaf (jbi (i:=10) sc.nd rfl (Or.inl rfl) jah) (jaf (jdc (jck q_eq (jbf (jf2 rfl) rfl B.min PyProof.Rows.boot_min (ja0 (qv 9) jag)) (jbf (jks rfl) rfl B.max PyProof.Rows.boot_max (ja0 (qv 9) jag)) (jc5 _)) (jb8 (jbi (i:=10) sc.nd rfl (Or.inl rfl) (jbh q_ix (qv 9) jah (fun _ _=>rfl)))) jc2) (jb8 (jcb (q_bm PySem.F.plainAttrs_list PySem.F.slot_list_append PySem.F.type_list_append jcu (qv 7) (ja0 (jch (ja0 (jbh q_ix (jbh q_ix (jbh q_ix (qv 3) jah (fun _ _=>rfl)) (qv 8) (fun _ _=>rfl)) jah (fun _ _=>rfl)) (ja0 (qv 10) jag))) jag)))))))) (jaf (jdc (PW.pt (jhd (jck (op_neD hr.units) (jbh q_ix (jbe G_halves_of (hr.mono (by decide)) rfl D_halves_of.m D_halves_of.F.kp D_halves_of.b .nil jbu (ja0 (jbe G_law_own (hr.mono (by decide)) rfl D_law_own.m D_law_own.F.kp D_law_own.b .nil jbu (ja0 (qv 3) jag)) jag)) jah (fun _ _=>rfl)) (qv 7) (jc5 _)) (jgl (jck (jph hr.units) (jc6 (CpScope.of (N:=["_law_place","_law_h"]) (src:=[none,none]) (by rfl)) rfl (jbx (qv 7)) (fun _ _ _ _=>(jcl (n:=2) rfl (jbg (jbb (i:=0) (jbd (l:=["_law_place","_law_h"]) (by rfl)) rfl (Or.inl rfl)) (jbg (jbb (i:=1) (jbd (l:=["_law_place","_law_h"]) (by rfl)) rfl (Or.inl rfl)) jc9)))) (fun _ _ _ _=>jc1) (fun _ _ _ _=>(qv 1))) (qv 6) (by with_unfolding_all rfl))))) (jb8 (jbq jef)) jc2) (jaf (jdc (jck q_ne (jbf (jks rfl) rfl B.max PyProof.Rows.boot_max (ja0 (jc6 (CpScope.of (N:=["_law_row"]) (src:=[none]) (by rfl)) rfl (jbx (qv 6)) (fun _ _ _ _=>(jbb (i:=0) (jbd (l:=["_law_row"]) (by rfl)) rfl (Or.inl rfl))) (fun _ _ _ _=>jc1) (fun _ _ _ _=>(q_bm PySem.F.plainAttrs_list PySem.F.slot_list_count PySem.F.type_list_count jp7 (qv 0) (ja0 jah jag)))) jag)) (q_bm PySem.F.plainAttrs_list PySem.F.slot_list_count PySem.F.type_list_count jp7 (jc6 (CpScope.of (N:=["_law_place","_law_h"]) (src:=[none,none]) (by rfl)) rfl (jbx (qv 7)) (fun _ _ _ _=>(jcl (n:=2) rfl (jbg (jbb (i:=0) (jbd (l:=["_law_place","_law_h"]) (by rfl)) rfl (Or.inl rfl)) (jbg (jbb (i:=1) (jbd (l:=["_law_place","_law_h"]) (by rfl)) rfl (Or.inl rfl)) jc9)))) (fun _ _ _ _=>jc1) (fun _ _ _ _=>(qv 1))) (ja0 jah jag)) (jc5 _)) (jb8 (jbq jef)) jc2) (jb8 (jdc (jd3 (jd2 (jbe G_law_others (hr.mono (by decide)) rfl D_law_others.m D_law_others.F.kp D_law_others.b .nil jbu (ja0 (qv 2) (ja0 (qv 3) (ja0 (qv 4) (ja0 (qv 5) jag))))))) (jb8 (jbq jef)) jc2)))))))))))) (jb8 (jbq jef))),?_⟩
 refine jb9 fun R hR=>?_
 obtain ⟨N,hN,hN2⟩:∃ N:Nat,N = (if (1:Int) < (if (8:Int) < (ns.length:Int) then 8 else (ns.length:Int)) then (if (8:Int) < (ns.length:Int) then 8 else (ns.length:Int)) else 1).toNat∧N < 70:=⟨_,rfl,by split <;> split <;> omega⟩
 refine jc0 (Itr 0 N) H (fun R' hR'=>?_) (jdf (n:=N) (fun i σ H1=>∃ v1 v2 v3 v4 v5 v6 v7 v8 v9 v10,σ = [some (.ref a),v1,v2,v3,v4,v5,v6,v7,v8,v9,v10]∧Scr K H1 a ns) ⟨none,none,none,none,none,none,none,none,none,none,rfl,hs⟩ ?_ ?_)
 ·unfold jfz
  walk_at "ND"
  refine ⟨a,_,rfl,.inl hs.sq,?_⟩
  simp_all_arith [List.length_map]
  refine ⟨_,rfl,?_,?_,?_⟩
  ·split <;> split <;> omega
  ·split <;> split <;> omega
  ·rw [← hN]
   exact hR'
 ·rintro i σ H1 hi ⟨v1,v2,v3,v4,v5,v6,v7,v8,v9,v10,rfl,hs1⟩
  simp only [jal,List.set_cons_zero,List.set_cons_succ]
  refine jb9 fun R9 hR9=>?_
  walk_at "ND"
  refine ⟨a,0 + (i:Int),ns,rfl,hs1,by omega,by omega,fun st o hst so=>?_⟩
  have s2:=jai hst o
  have e2:upd H1 st o st = some o:=ja4
  have hs2:=hs1.tups s2.tups
  generalize upd H1 st o = H2 at s2 e2 hs2
  subst hR9
  refine jb9 fun R9 hR9=>?_
  walk_at "ND"
  refine ⟨st,o,6,rfl,e2,so,by decide,by decide,fun v H3 o3 ps0 ts b3 e3 so3 hw wk0 dr0 hpl htl=>?_⟩
  refine ⟨st,o3,v,ps0,ts,rfl,e3,so3,hw,wk0,dr0,by omega,fun v' H4 o4 ps b4 e4 so4 W4 wk hlp=>?_⟩
  have hs4:=(hs2.tups (b3.tups e2 so.imm)).tups (b4.tups e3 so3.imm)
  have h6:ps.length ≤ 6:=by omega
  clear hs1 hs2 b3 b4 hw wk0 dr0 hpl e3 so3 e2 so s2 hst
  subst hR9
  refine jb9 fun R9 hR9=>?_
  walk_at "ND"
  refine ⟨v',ps,ts,rfl,W4,wk,h6,fun rl H5 zs rs s5 erl pz hall h7=>?_⟩
  obtain ⟨m,AR⟩:=jv5 hall
  have hne:=AR.ne
  have hzl:=Paired.length pz
  subst hR9
  refine jb9 fun R9 hR9=>?_
  walk_at "ND"
  refine jbj (Itl K rl) H5 (fun R2 hR2=>?_) (fun z hz0=>jbs rs.length (fun j σ' Hd=>∃ w1,σ' = [w1,some v']∧Same H5 Hd∧Hd z = some (.lst (((rs.take j).map (jci ps)).map V.int))) ⟨none,rfl,jai hz0 _,ja4⟩ ?_ ?_)
  ·unfold jd5
   walk_at "ND"
   exact ⟨rl,rfl,⟨_,SqL.of erl⟩,hR2⟩
  ·rintro j σ' Hd hj ⟨w1,rfl,s6,ez⟩
   have x1:rs[j]? = some rs[j]:=List.getElem?_eq_getElem hj
   obtain ⟨rv,hrv,prv⟩:=jbo pz x1
   obtain ⟨ra,rfl,era⟩:=prv.same s6
   have z1:SqL K Hd rl zs:=SqL.of (s6 _ _ erl)
   refine ⟨⟨_,_,z1,hrv⟩,?_⟩
   rintro y H' ⟨rfl,hy⟩
   have:=hy _ z1
   rw [hrv] at this
   cases this
   have gr:=(hall _).mp (List.getElem_mem hj)
   walk_at "ND"
   refine ⟨v',ps,ts,ra,rs[j],rfl,(W4.same s5).same s6,era,gr.l,by omega,gr.b,fun H7 s7=>?_⟩
   refine ⟨_,s7 _ _ ez,?_,_,rfl,jbk (s6.trans s7) hz0,?_⟩
   ·rw [List.length_map,List.length_map,List.length_take]
    exact szl' (by omega)
   ·rw [ja4,jbp x1,List.map_append,List.map_append]
    rfl
  rintro σ' H6 ⟨w1,rfl,s6,ecl⟩
  refine ⟨⟨_,SqL.of (s6 _ _ erl),by omega⟩,?_⟩
  rw [List.take_length] at ecl
  generalize z = cl at ecl hz0
  have s46:=s5.trans s6
  have W6:=W4.same s46
  have erl6:=s6 _ _ erl
  have pz6:=LsRs.same s6 pz
  have e6:=s46 _ _ e4
  have hs6:=hs4.tups s46.tups
  clear hz0 s5 s6 erl pz hs4 W4 e4 s46
  subst hR9
  refine jb9 fun R9 hR9=>?_
  walk_at "ND"
  refine jbj (Itr 0 rs.length) H6 (fun R2 hR2=>?_) (fun z hz0=>jbs rs.length (fun j σ' Hd=>∃ w1 vs,σ' = [w1,some (.ref rl),some (.ref cl)]∧Same H6 Hd∧Hd z = some (.lst vs)∧LsRs H6 vs (chp ps (rs.take j) m)) ⟨none,[],rfl,jai hz0 _,ja4,.nil⟩ ?_ ?_)
  ·unfold jfz
   simp_all_arith [jbl,erl6]
   exact ⟨_,rfl,by omega,by omega,by rw [hzl]; simpa using hR2⟩
  ·rintro j σ' Hd hj ⟨w1,vs,rfl,s7,ez,pv⟩
   refine ⟨hj,?_⟩
   rintro y H' ⟨rfl,rfl⟩
   have x1:rs[j]? = some rs[j]:=List.getElem?_eq_getElem hj
   obtain ⟨rv,hrv,prv⟩:=jbo pz6 x1
   have al:atI zs (0 + (j:Int)) = some rv:=by rw [Int.zero_add]; exact jbz hrv
   have ac:atI ((rs.map (jci ps)).map V.int) (0 + (j:Int)) = some (.int (jci ps rs[j])):=by
    rw [Int.zero_add]
    refine jbz ?_
    rw [List.getElem?_map,List.getElem?_map,x1]
    rfl
   have hvl:vs.length ≤ rs.length:=by
    rw [Paired.length pv]
    refine Nat.le_trans (jqv ..) ?_
    rw [List.length_take]
    exact Nat.min_le_right _ _
   simp_all_arith [jbl,s7 _ _ ecl,ac]
   refine ⟨cl,rs.map (jci ps),rfl,s7 _ _ ecl,by simpa using hne,fun x h1 h2=>?_⟩
   rw [AR.min h1 h2,jsi x1]
   dsimp only
   by_cases c:jci ps rs[j] = m
   ·rw [decide_eq_true c,if_pos c]
    simp_all_arith [jbl,s7 _ _ erl6,al]
    refine ⟨_,ez,szl' (by omega),_,vs ++ [rv],rfl,jbk s7 hz0,ja4,?_⟩
    exact jbt pv prv
   ·rw [decide_eq_false c,if_neg c,List.append_nil]
    walk_at "ND"
    exact ⟨_,vs,rfl,s7,ez,pv⟩
  rintro σ' H7 ⟨w1,vs,rfl,s7,ech,pv⟩
  refine ⟨Nat.le_refl _,?_⟩
  rw [List.take_length] at pv
  generalize z = ch at ech hz0
  have hcl:=jqv ps rs m
  have hvl:=Paired.length pv
  have hcn:chp ps rs m ≠ []:=fun z=>by
   obtain ⟨row,hr,e⟩:=AR.m1
   have:=jel.mpr ⟨hr,e⟩
   rw [z] at this
   cases this
  have hgood:∀ row ∈ chp ps rs m,row.length = ps.length:=fun row hr=>((hall row).mp (jel.mp hr).1).l
  generalize hcs:chp ps rs m = cs at pv hcl hvl hcn hgood
  have pv7:=LsRs.same s7 pv
  have W7:=W6.same s7
  have erl7:=s7 _ _ erl6
  have ecl7:=s7 _ _ ecl
  have pz7:=LsRs.same s7 pz6
  have e7:=s7 _ _ e6
  have hs7:=hs6.tups s7.tups
  clear hz0 s7 pv W6 erl6 ecl pz6 e6 hs6
  subst hR9
  refine jb9 fun R9 hR9=>?_
  walk_at "ND"
  intro du hdu
  have q8:=jai hdu (.lst [])
  have edu:upd H7 du (.lst []) du = some (.lst []):=ja4
  generalize upd H7 du (.lst []) = H8 at q8 edu
  obtain ⟨u,pa,ta,xs,ys,rfl,eu,epa,eta,hxs,hys⟩:=id W7
  have hxl:=Paired.length hxs
  subst hR9
  refine jb9 fun R9 hR9=>?_
  refine jc0 (Itr 0 ps.length) H8 (fun R' hR'=>?_) (jdf (n:=ps.length) (fun j σ Hc=>∃ w8 w9 w10 ws,σ = [some (.ref a),some (.int (0 + (i:Int))),some (.ref st),some (.ref u),some (.ref rl),some (.ref cl),some (.ref ch),some (.ref du),w8,w9,w10]∧Same H7 Hc∧Hc du = some (.lst ws)∧Prs Hc ws (dueL ps cs j)) ⟨v8,v9,v10,[],rfl,q8,edu,.nil⟩ ?_ ?_)
  ·unfold jfz
   simp_all_arith [jbl,q8 _ _ eu,at0,q8 _ _ epa]
   exact ⟨_,rfl,by omega,by omega,by rw [hxl]; simpa using hR'⟩
  ·rintro j σ Hc hj ⟨w8,w9,w10,ws,rfl,s9,edu9,pw⟩
   have hwl:=Paired.length pw
   unfold dueL at hwl
   rw [List.length_map,List.length_range] at hwl
   simp only [jal,List.set_cons_zero,List.set_cons_succ]
   refine jb9 fun R5 hR5=>?_
   walk_at "ND"
   refine jbj (Itl K ch) Hc (fun R2 hR2=>?_) (fun hl hhl=>jbs cs.length (fun k σ' Hd=>∃ w1,σ' = [w1,some (.int (0 + (j:Int)))]∧Same Hc Hd∧Hd hl = some (.lst (((cs.take k).map fun r=>r.getD j 0).map V.int))) ⟨none,rfl,jai hhl _,ja4⟩ ?_ ?_)
   ·unfold jd5
    walk_at "ND"
    exact ⟨ch,rfl,⟨_,SqL.of (s9 _ _ ech)⟩,hR2⟩
   ·rintro k σ' Hd hk ⟨w1,rfl,s10,ehl⟩
    have x1:cs[k]? = some cs[k]:=List.getElem?_eq_getElem hk
    obtain ⟨rv,hrv,prv⟩:=jbo pv7 x1
    obtain ⟨ra,rfl,era⟩:=(prv.same s9).same s10
    have z1:SqL K Hd ch vs:=SqL.of (s10 _ _ (s9 _ _ ech))
    refine ⟨⟨_,_,z1,hrv⟩,?_⟩
    rintro y H' ⟨rfl,hy⟩
    have:=hy _ z1
    rw [hrv] at this
    cases this
    have gl:=hgood _ (List.getElem_mem hk)
    have ar:atI (cs[k].map V.int) (0 + (j:Int)) = some (.int (cs[k].getD j 0)):=by
     rw [Int.zero_add]
     refine jbz ?_
     rw [List.getElem?_map,List.getElem?_eq_getElem (by omega),List.getD_eq_getElem?_getD,List.getElem?_eq_getElem (by omega)]
     rfl
    simp_all_arith [jbl,era,ar]
    refine ⟨_,ehl,?_,_,rfl,jbk s10 hhl,?_⟩
    ·rw [List.length_map,List.length_map,List.length_take]
     exact szl' (by omega)
    ·rw [ja4,jbp x1,List.map_append,List.map_append]
     rfl
   rintro σ' HA ⟨w1,rfl,sA,ehl⟩
   refine ⟨⟨_,SqL.of (sA _ _ (s9 _ _ ech)),by omega⟩,?_⟩
   rw [List.take_length] at ehl
   have s7A:=s9.trans sA
   have x1:ps[j]? = some ps[j]:=List.getElem?_eq_getElem hj
   obtain ⟨x,hx,px⟩:=jbo hxs x1
   obtain ⟨b,rfl,hb⟩:=px.same s7A
   have ax:atI xs (0 + (j:Int)) = some (.ref b):=by rw [Int.zero_add]; exact jbz hx
   subst hR5
   refine jb9 fun R5 hR5=>?_
   walk_at "ND"
   subst hR5
   refine jox fun R5 E5 hR5 hE5=>?_
   have fin:R5 E5 [some (.ref a),some (.int (0 + (i:Int))),some (.ref st),some (.ref u),some (.ref rl),some (.ref cl),some (.ref ch),some (.ref du),some (.int (0 + (j:Int))),some (.ref hl),some (.int (dueH cs j))] HA:=by
    subst hR5
    subst hE5
    walk_at "ND"
    refine ⟨⟨du,ws,rfl,sA _ _ edu9⟩,?_⟩
    simp_all_arith [jbl,s7A _ _ eu,at0,s7A _ _ epa,ax,hb]
    rw [← jdd x1]
    intro t5 ht5
    have q5:=jai ht5 (.tup [.int (nmA ps j),.int (dueH cs j)])
    have ez5:=q5 _ _ (sA _ _ edu9)
    have t6:=jca (ys:=ws ++ [.ref t5]) ez5
    simp_all_arith [ez5]
    refine ⟨szl' (by omega),_,_,_,ws ++ [.ref t5],rfl,jbk (s7A.trans q5) hdu,ja4,?_⟩
    unfold dueL
    rw [List.range_succ,List.map_append]
    exact jbt (Prs.tups t6 (Prs.same (sA.trans q5) pw)) ⟨t5,rfl,t6 _ _ rfl ja4⟩
   walk_at "ND"
   refine ⟨hl,_,rfl,ehl,by simpa using hcn,fun lo a1 a2=>?_⟩
   refine ⟨hl,_,rfl,ehl,by simpa using hcn,fun hi b1 b2=>?_⟩
   have dq:=juu hcn a1 a2 b1 b2
   dsimp only
   by_cases c:lo = hi
   ·rw [decide_eq_true c]
    rw [if_pos c] at dq
    have a0:atI ((cs.map fun r=>r.getD j 0).map V.int) 0 = some (.int (dueH cs j)):=by
     rw [dq]
     cases cs with
     | nil=>exact absurd rfl hcn
     | cons c0 cr=>exact at0
    simp_all_arith [jbl,ehl,a0]
    exact fin
   ·rw [decide_eq_false c]
    rw [if_neg c] at dq
    rw [dq] at fin
    walk_at "ND"
    exact fin
  ·rintro σ Hc ⟨w8,w9,w10,ws,rfl,s9,edu9,pw⟩
   refine (?_:R9 _ _ _)
   subst hR9
   refine jb9 fun R9 hR9=>?_
   walk_at "ND"
   have W9:=W7.same s9
   refine ⟨.ref u,ps,ts,rfl,W9,fun t1 HA sA nwA=>?_⟩
   walk_at "ND"
   refine ⟨.ref t1,ps,ts,rfl,nwA.at,wk,by omega,fun t0 f1 f2 zs' us r HB sB et0 ef1 ef2 n0 n1 n2 ff rst pz' pu=>?_⟩
   have s9B:=sA.trans sB
   have s7B:=s9.trans s9B
   rw [← hcs] at pw
   have dt:=jmx AR wk rst
   have dr:=jut AR wk rst
   rw [dt] at pw dr
   simp_all_arith [jbl,et0,at0]
   refine ⟨.lst ((halT ps ts r).map jcj),.lst ((halT ps ts r).map jcj),(by rw [Rep]; exact ⟨f1,zs',rfl,ef1,Prs.reps pz'⟩),(by rw [Rep]; exact ⟨du,ws,rfl,s9B _ _ edu9,Prs.reps (Prs.same s9B pw)⟩),(by rw [depP]; have:=jf0 (halT ps ts r); omega),.inl ⟨_,_,rfl,rfl⟩,?_⟩
   rw [jdt]
   walk_at "ND"
   have hwl:=Paired.length pw
   have hhl:=js9 ps ts r
   have eduB:=s9B _ _ edu9
   have pwB:=Prs.same s9B pw
   refine jbj (Itl K du) HB (fun R2 hR2=>?_) (fun d1 hd1=>jbs (halT ps ts r).length (fun k σ' Hd=>∃ w1 w2,σ' = [w1,w2]∧Same HB Hd∧Hd d1 = some (.lst ((((halT ps ts r).take k).map (·.2)).map V.int))) ⟨none,none,rfl,jai hd1 _,ja4⟩ ?_ ?_)
   ·unfold jd5
    walk_at "ND"
    exact ⟨du,rfl,⟨_,SqL.of eduB⟩,hR2⟩
   ·rintro k σ' Hd hk ⟨w1,w2,rfl,s10,ehl⟩
    have x1:(halT ps ts r)[k]? = some (halT ps ts r)[k]:=List.getElem?_eq_getElem hk
    obtain ⟨rv,hrv,prv⟩:=jbo pwB x1
    obtain ⟨ra,rfl,era⟩:=prv.same s10
    have z1:SqL K Hd du ws:=SqL.of (s10 _ _ eduB)
    refine ⟨⟨_,_,z1,hrv⟩,?_⟩
    rintro y H' ⟨rfl,hy⟩
    have:=hy _ z1
    rw [hrv] at this
    cases this
    simp_all_arith [era]
    refine ⟨_,ehl,?_,_,_,rfl,jbk s10 hd1,?_⟩
    ·rw [List.length_map,List.length_map,List.length_take]
     exact szl' (by omega)
    ·rw [ja4,jbp x1,List.map_append,List.map_append]
     rfl
   rintro σ' HC ⟨w1,w2,rfl,sHC,ed1⟩
   refine ⟨⟨_,SqL.of (sHC _ _ eduB),by omega⟩,?_⟩
   rw [List.take_length,dr] at ed1
   have pvC:=LsRs.same (s7B.trans sHC) pv7
   have echC:=(s7B.trans sHC) _ _ ech
   refine ⟨.lst ((jeb ps ts r).map Dt.int),ch,vs,cs.map (fun r=>Dt.lst (r.map Dt.int)),(by rw [Rep]; exact ⟨d1,_,rfl,ed1,jh4 _⟩),rfl,echC,jk2 pvC,by have:=jmd cs; omega,?_⟩
   have tin:jeb ps ts r ∈ cs:=by rw [← hcs]; exact jel.mpr (AR.told wk rst)
   rw [show (cs.map fun r=>Dt.lst (r.map Dt.int)).any (fun c=>eqP c (.lst ((jeb ps ts r).map Dt.int))) = true from List.any_eq_true.mpr ⟨_,List.mem_map.mpr ⟨_,tin,rfl⟩,jdt _⟩]
   walk_at "ND"
   subst hR9
   refine jb9 fun R9 hR9=>?_
   walk_at "ND"
   refine jbj (Itl K ch) HC (fun R2 hR2=>?_) (fun ct hct=>jbs cs.length (fun k σ' Hd=>∃ w1,σ' = [w1]∧Same HC Hd∧Hd ct = some (.lst (((cs.take k).map fun r=>(r.count 1:Int)).map V.int))) ⟨none,rfl,jai hct _,ja4⟩ ?_ ?_)
   ·unfold jd5
    walk_at "ND"
    exact ⟨ch,rfl,⟨_,SqL.of echC⟩,hR2⟩
   ·rintro k σ' Hd hk ⟨w1,rfl,s10,ehl⟩
    have x1:cs[k]? = some cs[k]:=List.getElem?_eq_getElem hk
    obtain ⟨rv,hrv,prv⟩:=jbo pvC x1
    obtain ⟨ra,rfl,era⟩:=prv.same s10
    have z1:SqL K Hd ch vs:=SqL.of (s10 _ _ echC)
    refine ⟨⟨_,_,z1,hrv⟩,?_⟩
    rintro y H' ⟨rfl,hy⟩
    have:=hy _ z1
    rw [hrv] at this
    cases this
    walk_at "ND"
    refine ⟨⟨ra,_,rfl,era⟩,?_⟩
    refine ⟨ra,cs[k],1,rfl,rfl,era,?_⟩
    refine ⟨_,ehl,?_,_,rfl,jbk s10 hct,?_⟩
    ·rw [List.length_map,List.length_map,List.length_take]
     exact szl' (by omega)
    ·rw [ja4,jbp x1,List.map_append,List.map_append]
     rfl
   rintro σ' HD ⟨w1,rfl,sHD,ect⟩
   refine ⟨⟨_,SqL.of (sHD _ _ echC),by omega⟩,?_⟩
   rw [List.take_length] at ect
   walk_at "ND"
   refine ⟨ct,_,rfl,ect,by simpa using hcn,fun mx m1 m2=>?_⟩
   have hmx:mx = ((jeb ps ts r).count 1:Int):=by
    have a1:=m2 _ (List.mem_map.mpr ⟨_,tin,rfl⟩)
    obtain ⟨row,hrow,e⟩:=List.mem_map.mp m1
    rw [← hcs] at hrow
    have a2:=jnz AR wk rst hrow
    omega
   have eduD:=(sHC.trans sHD) _ _ eduB
   have pwD:=Prs.same (sHC.trans sHD) pwB
   refine jbj (Itl K du) HD (fun R2 hR2=>?_) (fun d2 hd2=>jbs (halT ps ts r).length (fun k σ' Hd=>∃ w1 w2,σ' = [w1,w2]∧Same HD Hd∧Hd d2 = some (.lst ((((halT ps ts r).take k).map (·.2)).map V.int))) ⟨none,none,rfl,jai hd2 _,ja4⟩ ?_ ?_)
   ·unfold jd5
    walk_at "ND"
    exact ⟨du,rfl,⟨_,SqL.of eduD⟩,hR2⟩
   ·rintro k σ' Hd hk ⟨w1,w2,rfl,s10,ehl⟩
    have x1:(halT ps ts r)[k]? = some (halT ps ts r)[k]:=List.getElem?_eq_getElem hk
    obtain ⟨rv,hrv,prv⟩:=jbo pwD x1
    obtain ⟨ra,rfl,era⟩:=prv.same s10
    have z1:SqL K Hd du ws:=SqL.of (s10 _ _ eduD)
    refine ⟨⟨_,_,z1,hrv⟩,?_⟩
    rintro y H' ⟨rfl,hy⟩
    have:=hy _ z1
    rw [hrv] at this
    cases this
    simp_all_arith [era]
    refine ⟨_,ehl,?_,_,_,rfl,jbk s10 hd2,?_⟩
    ·rw [List.length_map,List.length_map,List.length_take]
     exact szl' (by omega)
    ·rw [ja4,jbp x1,List.map_append,List.map_append]
     rfl
   rintro σ' HE ⟨w1,w2,rfl,sHE,ed2⟩
   refine ⟨⟨_,SqL.of (sHE _ _ eduD),by omega⟩,?_⟩
   rw [List.take_length,dr] at ed2
   walk_at "ND"
   refine ⟨⟨d2,_,rfl,ed2⟩,d2,_,1,rfl,rfl,ed2,?_⟩
   rw [hmx]
   dsimp only
   rw [decide_eq_true rfl]
   walk_at "ND"
   have s7E:=(s7B.trans sHC).trans (sHD.trans sHE)
   have e7E:=s7E _ _ e7
   subst hR9
   walk_at "ND"
   refine ⟨st,o4,.ref u,ps,ts,rl,zs,rs,cl,m,rfl,e7E,so4,W7.same s7E,wk,h6,s7E _ _ erl7,LsRs.same s7E pz7,s7E _ _ ecl7,AR,h7,fun HF oF bF _ _=>?_⟩
   walk_at "ND"
   exact ⟨_,_,_,_,_,_,_,_,_,_,rfl,(hs7.tups s7E.tups).tups (bF.tups e7E so4.imm)⟩
 ·rintro σ H1 ⟨v1,v2,v3,v4,v5,v6,v7,v8,v9,v10,rfl,hs1⟩
  subst hR
  walk_at "ND"
  exact h _
end
end My
set_option autoImplicit true
namespace My
open PySem L2
abbrev aT (K:PySem.W.Frag) (x:Str) (f:Addr):Prop:=PySem.W.nsIn K mainGlobals x = some (some (.ref f))
abbrev lT (K:PySem.W.Frag) (x q:Str) (st:Stmt) (f:Addr) (oc:Value) (od an:Option Addr) (sl:Array (Option Value)) (kV dc pm cd ct:Value):Prop:=K.lookup f = some ⟨oc,od,.func (PySem.W.fnOf x q (je1 st) (jdu st) (jbc st) .none kV dc pm an cd ct),sl⟩
abbrev cT (K:PySem.W.Frag) (cd:Value) (x:Str):Prop:=PySem.W.codeIn K cd x = true
abbrev kT (K:PySem.W.Frag) (f:Addr):Prop:=PySem.W.keepIn K (.ref f) = true
abbrev zT (K:PySem.W.Frag) (x:Str):Prop:=PySem.W.nsIn K mainGlobals x = some none
theorem dmk {K:PySem.W.Frag} {h:Heap} {mg:Str→Option Value} (X:K.In h) (G:h.Ns mainGlobals mg) {x:Str} {st:Stmt} {f:Addr} {oc:Value} {od an:Option Addr} {sl:Array (Option Value)} {kV dc pm cd ct:Value} (a:aT K x f) (l:lT K x x st f oc od an sl kV dc pm cd ct) (c:cT K cd x) (k:kT K f) (ps:List Str)
  (b:jf7 K (PySem.W.fnOf x x (je1 st) (jdu st) (jbc st) .none kV dc pm an cd ct) ps []):DefAt K mg x st ps f (PySem.W.fnOf x x (je1 st) (jdu st) (jbc st) .none kV dc pm an cd ct):=⟨jbr l c k,b,PySem.W.mg_of X G a⟩
theorem all_mk {l:PySem.W.OpenLaw} {w:World} {K:PySem.W.Frag} {h:Heap} {mg:Str→Option Value} {fa:Addr} (X:K.In h) (G:h.Ns mainGlobals mg) (hfa:mg "law" = some (.ref fa)) (a0:aT K "is_whole" f0) (l0:lT K "is_whole" "is_whole" (top 7) f0 oc0 od0 an0 sq0 kV0 dc0 pm0 cd0 ct0) (g0:cT K cd0 "is_whole") (k0:kT K f0) (a1:aT K "is_tuple_of" f1) (l1:lT K "is_tuple_of" "is_tuple_of" (top 8) f1 oc1 od1 an1 sq1 kV1 dc1 pm1 cd1 ct1) (g1:cT K cd1 "is_tuple_of") (k1:kT K f1) (a2:aT K "is_pair_of_wholes" f2) (l2:lT K "is_pair_of_wholes" "is_pair_of_wholes" (top 9) f2 oc2 od2 an2 sq2 kV2 dc2 pm2 cd2 ct2) (g2:cT K cd2 "is_pair_of_wholes") (k2:kT K f2) (a3:aT K "is_list_up_to" f3) (l3:lT K "is_list_up_to" "is_list_up_to" (top 10) f3 oc3 od3 an3 sq3 kV3 dc3 pm3 cd3 ct3) (g3:cT K cd3 "is_list_up_to") (k3:kT K f3) (a4:aT K "marked" f4) (l4:lT K "marked" "marked" (top 11) f4 oc4 od4 an4 sq4 kV4 dc4 pm4 cd4 ct4) (g4:cT K cd4 "marked") (k4:kT K f4) (a5:aT K "place_stands" f5) (l5:lT K "place_stands" "place_stands" (top 20) f5 oc5 od5 an5 sq5 kV5 dc5 pm5 cd5 ct5) (g5:cT K cd5 "place_stands") (k5:kT K f5) (a6:aT K "tie_stands" f6) (l6:lT K "tie_stands" "tie_stands" (top 21) f6 oc6 od6 an6 sq6 kV6 dc6 pm6 cd6 ct6) (g6:cT K cd6 "tie_stands") (k6:kT K f6) (a7:aT K "look_at_places" f7) (l7:lT K "look_at_places" "look_at_places" (top 22) f7 oc7 od7 an7 sq7 kV7 dc7 pm7 cd7 ct7) (g7:cT K cd7 "look_at_places") (k7:kT K f7) (a8:aT K "look_at_ties" f8) (l8:lT K "look_at_ties" "look_at_ties" (top 23) f8 oc8 od8 an8 sq8 kV8 dc8 pm8 cd8 ct8) (g8:cT K cd8 "look_at_ties") (k8:kT K f8) (a9:aT K "look_at_web" f9) (l9:lT K "look_at_web" "look_at_web" (top 24) f9 oc9 od9 an9 sq9 kV9 dc9 pm9 cd9 ct9) (g9:cT K cd9 "look_at_web") (k9:kT K f9) (a10:aT K "halves_stand" f10) (l10:lT K "halves_stand" "halves_stand" (top 26) f10 oc10 od10 an10 sq10 kV10 dc10 pm10 cd10 ct10) (g10:cT K cd10 "halves_stand") (k10:kT K f10) (a11:aT K "is_due" f11) (l11:lT K "is_due" "is_due" (top 27) f11 oc11 od11 an11 sq11 kV11 dc11 pm11 cd11 ct11) (g11:cT K cd11 "is_due") (k11:kT K f11) (a12:aT K "due_at" f12) (l12:lT K "due_at" "due_at" (top 28) f12 oc12 od12 an12 sq12 kV12 dc12 pm12 cd12 ct12) (g12:cT K cd12 "due_at") (k12:kT K f12) (a13:aT K "dues_stand" f13) (l13:lT K "dues_stand" "dues_stand" (top 29) f13 oc13 od13 an13 sq13 kV13 dc13 pm13 cd13 ct13) (g13:cT K cd13 "dues_stand") (k13:kT K f13) (a14:aT K "cost_in_halves" f14) (l14:lT K "cost_in_halves" "cost_in_halves" (top 30) f14 oc14 od14 an14 sq14 kV14 dc14 pm14 cd14 ct14) (g14:cT K cd14 "cost_in_halves") (k14:kT K f14) (a15:aT K "paper_stands" f15) (l15:lT K "paper_stands" "paper_stands" (top 31) f15 oc15 od15 an15 sq15 kV15 dc15 pm15 cd15 ct15) (g15:cT K cd15 "paper_stands") (k15:kT K f15) (a16:aT K "lets_halves" f16) (l16:lT K "lets_halves" "lets_halves" (top 32) f16 oc16 od16 an16 sq16 kV16 dc16 pm16 cd16 ct16) (g16:cT K cd16 "lets_halves") (k16:kT K f16) (a17:aT K "doubled" f17) (l17:lT K "doubled" "doubled" (top 33) f17 oc17 od17 an17 sq17 kV17 dc17 pm17 cd17 ct17) (g17:cT K cd17 "doubled") (k17:kT K f17) (a18:aT K "dues_flowing" f18) (l18:lT K "dues_flowing" "dues_flowing" (top 34) f18 oc18 od18 an18 sq18 kV18 dc18 pm18 cd18 ct18) (g18:cT K cd18 "dues_flowing") (k18:kT K f18) (a19:aT K "halves_reached" f19) (l19:lT K "halves_reached" "halves_reached" (top 35) f19 oc19 od19 an19 sq19 kV19 dc19 pm19 cd19 ct19) (g19:cT K cd19 "halves_reached") (k19:kT K f19) (a20:aT K "told_paper" f20) (l20:lT K "told_paper" "told_paper" (top 36) f20 oc20 od20 an20 sq20 kV20 dc20 pm20 cd20 ct20) (g20:cT K cd20 "told_paper") (k20:kT K f20) (a21:aT K "halves_of" f21) (l21:lT K "halves_of" "halves_of" (top 37) f21 oc21 od21 an21 sq21 kV21 dc21 pm21 cd21 ct21) (g21:cT K cd21 "halves_of") (k21:kT K f21) (a22:aT K "_law_own" f22) (l22:lT K "_law_own" "_law_own" (top 39) f22 oc22 od22 an22 sq22 kV22 dc22 pm22 cd22 ct22) (g22:cT K cd22 "_law_own") (k22:kT K f22) (a23:aT K "_law_begun" f23) (l23:lT K "_law_begun" "_law_begun" (top 40) f23 oc23 od23 an23 sq23 kV23 dc23 pm23 cd23 ct23) (g23:cT K cd23 "_law_begun") (k23:kT K f23) (a24:aT K "_law_take" f24) (l24:lT K "_law_take" "_law_take" (top 41) f24 oc24 od24 an24 sq24 kV24 dc24 pm24 cd24 ct24) (g24:cT K cd24 "_law_take") (k24:kT K f24) (a25:aT K "_law_places" f25) (l25:lT K "_law_places" "_law_places" (top 42) f25 oc25 od25 an25 sq25 kV25 dc25 pm25 cd25 ct25) (g25:cT K cd25 "_law_places") (k25:kT K f25) (a26:aT K "_law_web" f26) (l26:lT K "_law_web" "_law_web" (top 43) f26 oc26 od26 an26 sq26 kV26 dc26 pm26 cd26 ct26) (g26:cT K cd26 "_law_web") (k26:kT K f26) (a27:aT K "_law_turned" f27) (l27:lT K "_law_turned" "_law_turned" (top 44) f27 oc27 od27 an27 sq27 kV27 dc27 pm27 cd27 ct27) (g27:cT K cd27 "_law_turned") (k27:kT K f27) (a28:aT K "_law_rows" f28) (l28:lT K "_law_rows" "_law_rows" (top 45) f28 oc28 od28 an28 sq28 kV28 dc28 pm28 cd28 ct28) (g28:cT K cd28 "_law_rows") (k28:kT K f28) (a29:aT K "_law_cost" f29) (l29:lT K "_law_cost" "_law_cost" (top 46) f29 oc29 od29 an29 sq29 kV29 dc29 pm29 cd29 ct29) (g29:cT K cd29 "_law_cost") (k29:kT K f29) (a30:aT K "_law_others" f30) (l30:lT K "_law_others" "_law_others" (top 47) f30 oc30 od30 an30 sq30 kV30 dc30 pm30 cd30 ct30) (g30:cT K cd30 "_law_others") (k30:kT K f30) (a31:aT K "law" f31) (l31:lT K "law" "law" (top 48) f31 oc31 od31 an31 sq31 kV31 dc31 pm31 cd31 ct31) (g31:cT K cd31 "law") (k31:kT K f31) (z_len:zT K "len") (z_isinstance:zT K "isinstance") (z_all:zT K "all") (z_min:zT K "min") (z_list:zT K "list") (z_dict:zT K "dict") (z_int:zT K "int") (z_bool:zT K "bool") (z_str:zT K "str") (z_tuple:zT K "tuple") (z_range:zT K "range") (z_enumerate:zT K "enumerate") (z_zip:zT K "zip") (z_max:zT K "max") (z_any:zT K "any") (z_sum:zT K "sum") (z_sorted:zT K "sorted") (z_set:zT K "set") (n_MOST_PLACES:PySem.W.nsIn K mainGlobals "MOST_PLACES" = some (some (.int 40 c1))) (n_MOST_TIES:PySem.W.nsIn K mainGlobals "MOST_TIES" = some (some (.int 120 c2))) (n_LAST_PLACE:PySem.W.nsIn K mainGlobals "LAST_PLACE" = some (some (.int 999 c3))) (n_MOST_PRICE:PySem.W.nsIn K mainGlobals "MOST_PRICE" = some (some (.int 1000000000000 c4))) (aN:aT K "Net" C_Net) (pgN:PySem.W.plainGet K C_Net Str.empty = true) (hdN:PySem.W.hasDictIn K C_Net = true) (poN:PySem.W.plainOver K C_Net = true) (saN:PySem.W.findIn K (.ref C_Net) "__setattr__" = some (some (.builtin "object.__setattr__"))) (mkN:PySem.W.makesIn K C_Net = true) (kcN:kT K C_Net) (n_ways_from:PySem.W.findIn K (.ref C_Net) "ways_from" = some none) (n_heads:PySem.W.findIn K (.ref C_Net) "heads" = some none) (n_rooms:PySem.W.findIn K (.ref C_Net) "rooms" = some none) (fm0:PySem.W.findIn K (.ref C_Net) "__init__" = some (some (.ref m0))) (im0:PySem.W.isFn K (.ref m0) = true) (lm0:lT K "__init__" "Net.__init__" (meth 5 0) m0 ocm0 odm0 anm0 sqm0 kVm0 dcm0 pmm0 cdm0 ctm0) (gm0:cT K cdm0 "Net.__init__") (km0:kT K m0) (fm1:PySem.W.findIn K (.ref C_Net) "put_way" = some (some (.ref m1))) (im1:PySem.W.isFn K (.ref m1) = true) (lm1:lT K "put_way" "Net.put_way" (meth 5 1) m1 ocm1 odm1 anm1 sqm1 kVm1 dcm1 pmm1 cdm1 ctm1) (gm1:cT K cdm1 "Net.put_way") (km1:kT K m1) (fm2:PySem.W.findIn K (.ref C_Net) "fill" = some (some (.ref m2))) (im2:PySem.W.isFn K (.ref m2) = true) (lm2:lT K "fill" "Net.fill" (meth 5 2) m2 ocm2 odm2 anm2 sqm2 kVm2 dcm2 pmm2 cdm2 ctm2) (gm2:cT K cdm2 "Net.fill") (km2:kT K m2) (fm3:PySem.W.findIn K (.ref C_Net) "shortest" = some (some (.ref m3))) (im3:PySem.W.isFn K (.ref m3) = true) (lm3:lT K "shortest" "Net.shortest" (meth 5 3) m3 ocm3 odm3 anm3 sqm3 kVm3 dcm3 pmm3 cdm3 ctm3) (gm3:cT K cdm3 "Net.shortest") (km3:kT K m3) (fm4:PySem.W.findIn K (.ref C_Net) "spread" = some (some (.ref m4))) (im4:PySem.W.isFn K (.ref m4) = true) (lm4:lT K "spread" "Net.spread" (meth 5 4) m4 ocm4 odm4 anm4 sqm4 kVm4 dcm4 pmm4 cdm4 ctm4) (gm4:cT K cdm4 "Net.spread") (km4:kT K m4) (fm5:PySem.W.findIn K (.ref C_Net) "push" = some (some (.ref m5))) (im5:PySem.W.isFn K (.ref m5) = true) (lm5:lT K "push" "Net.push" (meth 5 5) m5 ocm5 odm5 anm5 sqm5 kVm5 dcm5 pmm5 cdm5 ctm5) (gm5:cT K cdm5 "Net.push") (km5:kT K m5) (fm6:PySem.W.findIn K (.ref C_Net) "flows" = some (some (.ref m6))) (im6:PySem.W.isFn K (.ref m6) = true) (lm6:lT K "flows" "Net.flows" (meth 5 6) m6 ocm6 odm6 anm6 sqm6 kVm6 dcm6 pmm6 cdm6 ctm6) (gm6:cT K cdm6 "Net.flows") (km6:kT K m6) (fm7:PySem.W.findIn K (.ref C_Net) "reached_from" = some (some (.ref m7))) (im7:PySem.W.isFn K (.ref m7) = true) (lm7:lT K "reached_from" "Net.reached_from" (meth 5 7) m7 ocm7 odm7 anm7 sqm7 kVm7 dcm7 pmm7 cdm7 ctm7) (gm7:cT K cdm7 "Net.reached_from") (km7:kT K m7) (nn_SOURCE:PySem.W.nsIn K mainGlobals "SOURCE" = some (some (.int 0 ee1))) (nn_SINK:PySem.W.nsIn K mainGlobals "SINK" = some (some (.int 1 ee2))) (nn_FIRST:PySem.W.nsIn K mainGlobals "FIRST" = some (some (.int 2 ee3)))
 :∃ fd:FuncData,(∀ (s:Shared) (v:Value),BindsTo s fd ⟨[v],[]⟩ [("_law_script",v)])∧∀ base:Heap,K.In base→base.Ns mainGlobals mg→FnOk l.prog w K mg base CX0 9 fa fd ["_law_script"] (jra K):=by
 have e:=hfa.symm.trans (PySem.W.mg_of X G a31)
 cases e
 have B:Blt mg:=⟨PySem.W.mg_none_of X G z_len,PySem.W.mg_none_of X G z_isinstance,PySem.W.mg_none_of X G z_all,PySem.W.mg_none_of X G z_min,PySem.W.mg_none_of X G z_list,PySem.W.mg_none_of X G z_dict,PySem.W.mg_none_of X G z_int,PySem.W.mg_none_of X G z_bool,PySem.W.mg_none_of X G z_str,PySem.W.mg_none_of X G z_tuple,PySem.W.mg_none_of X G z_range,PySem.W.mg_none_of X G z_enumerate,PySem.W.mg_none_of X G z_zip,PySem.W.mg_none_of X G z_max,PySem.W.mg_none_of X G z_any,PySem.W.mg_none_of X G z_sum,PySem.W.mg_none_of X G z_sorted,PySem.W.mg_none_of X G z_set⟩
 have C:Cst mg c1 c2 c3 c4:=⟨PySem.W.mg_of X G n_MOST_PLACES,PySem.W.mg_of X G n_MOST_TIES,PySem.W.mg_of X G n_LAST_PLACE,PySem.W.mg_of X G n_MOST_PRICE⟩
 have D_is_whole:=dmk X G a0 l0 g0 k0 ["thing"] ((jbr l0 g0 k0).binds fun _ _ _ _ _ _ us hl=>match us,hl with | [_],_=>rfl)
 have D_is_tuple_of:=dmk X G a1 l1 g1 k1 ["thing","many"] ((jbr l1 g1 k1).binds fun _ _ _ _ _ _ us hl=>match us,hl with | [_,_],_=>rfl)
 have D_is_pair_of_wholes:=dmk X G a2 l2 g2 k2 ["thing"] ((jbr l2 g2 k2).binds fun _ _ _ _ _ _ us hl=>match us,hl with | [_],_=>rfl)
 have D_is_list_up_to:=dmk X G a3 l3 g3 k3 ["thing","most"] ((jbr l3 g3 k3).binds fun _ _ _ _ _ _ us hl=>match us,hl with | [_,_],_=>rfl)
 have D_marked:=dmk X G a4 l4 g4 k4 ["places"] ((jbr l4 g4 k4).binds fun _ _ _ _ _ _ us hl=>match us,hl with | [_],_=>rfl)
 have D_place_stands:=dmk X G a5 l5 g5 k5 ["thing","last","spent"] ((jbr l5 g5 k5).binds fun _ _ _ _ _ _ us hl=>match us,hl with | [_,_,_],_=>rfl)
 have D_tie_stands:=dmk X G a6 l6 g6 k6 ["thing","last","prices"] ((jbr l6 g6 k6).binds fun _ _ _ _ _ _ us hl=>match us,hl with | [_,_,_],_=>rfl)
 have D_look_at_places:=dmk X G a7 l7 g7 k7 ["places"] ((jbr l7 g7 k7).binds fun _ _ _ _ _ _ us hl=>match us,hl with | [_],_=>rfl)
 have D_look_at_ties:=dmk X G a8 l8 g8 k8 ["ties","prices"] ((jbr l8 g8 k8).binds fun _ _ _ _ _ _ us hl=>match us,hl with | [_,_],_=>rfl)
 have D_look_at_web:=dmk X G a9 l9 g9 k9 ["thing"] ((jbr l9 g9 k9).binds fun _ _ _ _ _ _ us hl=>match us,hl with | [_],_=>rfl)
 have D_halves_stand:=dmk X G a10 l10 g10 k10 ["web","thing"] ((jbr l10 g10 k10).binds fun _ _ _ _ _ _ us hl=>match us,hl with | [_,_],_=>rfl)
 have D_is_due:=dmk X G a11 l11 g11 k11 ["thing"] ((jbr l11 g11 k11).binds fun _ _ _ _ _ _ us hl=>match us,hl with | [_],_=>rfl)
 have D_due_at:=dmk X G a12 l12 g12 k12 ["dues"] ((jbr l12 g12 k12).binds fun _ _ _ _ _ _ us hl=>match us,hl with | [_],_=>rfl)
 have D_dues_stand:=dmk X G a13 l13 g13 k13 ["web","thing"] ((jbr l13 g13 k13).binds fun _ _ _ _ _ _ us hl=>match us,hl with | [_,_],_=>rfl)
 have D_cost_in_halves:=dmk X G a14 l14 g14 k14 ["web","halves"] ((jbr l14 g14 k14).binds fun _ _ _ _ _ _ us hl=>match us,hl with | [_,_],_=>rfl)
 have D_paper_stands:=dmk X G a15 l15 g15 k15 ["web","thing"] ((jbr l15 g15 k15).binds fun _ _ _ _ _ _ us hl=>match us,hl with | [_,_],_=>rfl)
 have D_lets_halves:=dmk X G a16 l16 g16 k16 ["web","thing"] ((jbr l16 g16 k16).binds fun _ _ _ _ _ _ us hl=>match us,hl with | [_,_],_=>rfl)
 have D_doubled:=dmk X G a17 l17 g17 k17 ["web"] ((jbr l17 g17 k17).binds fun _ _ _ _ _ _ us hl=>match us,hl with | [_],_=>rfl)
 have D_dues_flowing:=dmk X G a18 l18 g18 k18 ["web","flows"] ((jbr l18 g18 k18).binds fun _ _ _ _ _ _ us hl=>match us,hl with | [_,_],_=>rfl)
 have D_halves_reached:=dmk X G a19 l19 g19 k19 ["web","reached"] ((jbr l19 g19 k19).binds fun _ _ _ _ _ _ us hl=>match us,hl with | [_,_],_=>rfl)
 have D_told_paper:=dmk X G a20 l20 g20 k20 ["web"] ((jbr l20 g20 k20).binds fun _ _ _ _ _ _ us hl=>match us,hl with | [_],_=>rfl)
 have D_halves_of:=dmk X G a21 l21 g21 k21 ["web"] ((jbr l21 g21 k21).binds fun _ _ _ _ _ _ us hl=>match us,hl with | [_],_=>rfl)
 have D_law_own:=dmk X G a22 l22 g22 k22 ["_law_web_here"] ((jbr l22 g22 k22).binds fun _ _ _ _ _ _ us hl=>match us,hl with | [_],_=>rfl)
 have D_law_begun:=dmk X G a23 l23 g23 k23 ["_law_script","_law_k"] ((jbr l23 g23 k23).binds fun _ _ _ _ _ _ us hl=>match us,hl with | [_,_],_=>rfl)
 have D_law_take:=dmk X G a24 l24 g24 k24 ["_law_state","_law_many"] ((jbr l24 g24 k24).binds fun _ _ _ _ _ _ us hl=>match us,hl with | [_,_],_=>rfl)
 have D_law_places:=dmk X G a25 l25 g25 k25 ["_law_state","_law_count"] ((jbr l25 g25 k25).binds fun _ _ _ _ _ _ us hl=>match us,hl with | [_,_],_=>rfl)
 have D_law_web:=dmk X G a26 l26 g26 k26 ["_law_state","_law_most"] ((jbr l26 g26 k26).binds fun _ _ _ _ _ _ us hl=>match us,hl with | [_,_],_=>rfl)
 have D_law_turned:=dmk X G a27 l27 g27 k27 ["_law_state","_law_web_here"] ((jbr l27 g27 k27).binds fun _ _ _ _ _ _ us hl=>match us,hl with | [_,_],_=>rfl)
 have D_law_rows:=dmk X G a28 l28 g28 k28 ["_law_web_here"] ((jbr l28 g28 k28).binds fun _ _ _ _ _ _ us hl=>match us,hl with | [_],_=>rfl)
 have D_law_cost:=dmk X G a29 l29 g29 k29 ["_law_web_here","_law_row"] ((jbr l29 g29 k29).binds fun _ _ _ _ _ _ us hl=>match us,hl with | [_,_],_=>rfl)
 have D_law_others:=dmk X G a30 l30 g30 k30 ["_law_state","_law_web_here","_law_rows_here","_law_costs"] ((jbr l30 g30 k30).binds fun _ _ _ _ _ _ us hl=>match us,hl with | [_,_,_,_],_=>rfl)
 have D_law:=dmk X G a31 l31 g31 k31 ["_law_script"] ((jbr l31 g31 k31).binds fun _ _ _ _ _ _ us hl=>match us,hl with | [_],_=>rfl)
 refine ⟨PySem.W.fnOf "law" "law" (je1 (top 48)) (jdu (top 48)) (jbc (top 48)) .none kV31 dc31 pm31 an31 cd31 ct31,fun s v=>.of_eq rfl,fun base _ _=>?_⟩
 have D_init:MthAt K C_Net "__init__" "Net.__init__" (meth 5 0) ["self","many","arcs"] _ _:=⟨jbr lm0 gm0 km0,(jbr lm0 gm0 km0).binds fun _ _ _ _ _ _ us hl=>match us,hl with | [_,_,_],_=>rfl,⟨fm0,im0,km0⟩⟩
 have D_put_way:MthAt K C_Net "put_way" "Net.put_way" (meth 5 1) ["self","tail","head","room"] _ _:=⟨jbr lm1 gm1 km1,(jbr lm1 gm1 km1).binds fun _ _ _ _ _ _ us hl=>match us,hl with | [_,_,_,_],_=>rfl,⟨fm1,im1,km1⟩⟩
 have D_fill:MthAt K C_Net "fill" "Net.fill" (meth 5 2) ["self","source","sink"] _ _:=⟨jbr lm2 gm2 km2,(jbr lm2 gm2 km2).binds fun _ _ _ _ _ _ us hl=>match us,hl with | [_,_,_],_=>rfl,⟨fm2,im2,km2⟩⟩
 have D_shortest:MthAt K C_Net "shortest" "Net.shortest" (meth 5 3) ["self","source","sink"] _ _:=⟨jbr lm3 gm3 km3,(jbr lm3 gm3 km3).binds fun _ _ _ _ _ _ us hl=>match us,hl with | [_,_,_],_=>rfl,⟨fm3,im3,km3⟩⟩
 have D_spread:MthAt K C_Net "spread" "Net.spread" (meth 5 4) ["self","source"] _ _:=⟨jbr lm4 gm4 km4,(jbr lm4 gm4 km4).binds fun _ _ _ _ _ _ us hl=>match us,hl with | [_,_],_=>rfl,⟨fm4,im4,km4⟩⟩
 have D_push:MthAt K C_Net "push" "Net.push" (meth 5 5) ["self","trail"] _ _:=⟨jbr lm5 gm5 km5,(jbr lm5 gm5 km5).binds fun _ _ _ _ _ _ us hl=>match us,hl with | [_,_],_=>rfl,⟨fm5,im5,km5⟩⟩
 have D_flows:MthAt K C_Net "flows" "Net.flows" (meth 5 6) ["self"] _ _:=⟨jbr lm6 gm6 km6,(jbr lm6 gm6 km6).binds fun _ _ _ _ _ _ us hl=>match us,hl with | [_],_=>rfl,⟨fm6,im6,km6⟩⟩
 have D_reached_from:MthAt K C_Net "reached_from" "Net.reached_from" (meth 5 7) ["self","source"] _ _:=⟨jbr lm7 gm7 km7,(jbr lm7 gm7 km7).binds fun _ _ _ _ _ _ us hl=>match us,hl with | [_,_],_=>rfl,⟨fm7,im7,km7⟩⟩
 have C2:Cst2 mg ee1 ee2 ee3:=⟨PySem.W.mg_of X G nn_SOURCE,PySem.W.mg_of X G nn_SINK,PySem.W.mg_of X G nn_FIRST⟩
 have T:NetC K mg C_Net:=⟨⟨pgN,hdN,poN,saN⟩,n_ways_from,n_heads,n_rooms,PySem.W.mg_of X G aN⟩
 have MK:Mk K C_Net m0:=⟨mkN,fm0,im0,kcN⟩
 have G_is_whole:=jlf (P:=l.prog) (w:=w) (base:=base) B D_is_whole
 have G_is_tuple_of:=jhh (P:=l.prog) (w:=w) (base:=base) B D_is_tuple_of
 have G_is_pair_of_wholes:=jec (P:=l.prog) (w:=w) (base:=base) B D_is_pair_of_wholes D_is_tuple_of G_is_tuple_of D_is_whole G_is_whole
 have G_is_list_up_to:=jfx (P:=l.prog) (w:=w) (base:=base) B D_is_list_up_to
 have G_marked:=jpj (P:=l.prog) (w:=w) (base:=base) B D_marked
 have G_place_stands:=jgp (P:=l.prog) (w:=w) (base:=base) B C D_place_stands D_is_pair_of_wholes G_is_pair_of_wholes
 have G_tie_stands:=jiq (P:=l.prog) (w:=w) (base:=base) B D_tie_stands D_is_pair_of_wholes G_is_pair_of_wholes
 have G_look_at_places:=jfd (P:=l.prog) (w:=w) (base:=base) B C D_look_at_places D_is_list_up_to G_is_list_up_to D_place_stands G_place_stands
 have G_look_at_ties:=jgr (P:=l.prog) (w:=w) (base:=base) B C D_look_at_ties D_is_list_up_to G_is_list_up_to D_tie_stands G_tie_stands
 have G_look_at_web:=jhf (P:=l.prog) (w:=w) (base:=base) B D_look_at_web D_is_tuple_of G_is_tuple_of D_look_at_places G_look_at_places D_look_at_ties G_look_at_ties
 have G_due_at:=jpl (P:=l.prog) (w:=w) (base:=base) B D_due_at
 have G_cost_in_halves:=jff (P:=l.prog) (w:=w) (base:=base) B D_cost_in_halves
 have G_dues_flowing:=jgt (P:=l.prog) (w:=w) (base:=base) B D_dues_flowing
 have G_halves_reached:=jfe (P:=l.prog) (w:=w) (base:=base) B D_halves_reached C2
 have G_law_own:=jnl (P:=l.prog) (w:=w) (base:=base) B D_law_own
 have G_law_begun:=jk9 (P:=l.prog) (w:=w) (base:=base) B D_law_begun
 have G_law_take:=jlc (P:=l.prog) (w:=w) (base:=base) B D_law_take
 have G_law_places:=jis (P:=l.prog) (w:=w) (base:=base) B D_law_places D_law_take G_law_take
 have G_law_web:=jnk (P:=l.prog) (w:=w) (base:=base) B D_law_web D_law_take G_law_take D_law_places G_law_places
 have G_law_turned:=jir (P:=l.prog) (w:=w) (base:=base) B D_law_turned D_law_take G_law_take
 have G_law_rows:=jld (P:=l.prog) (w:=w) (base:=base) B D_law_rows
 have G_law_cost:=jle (P:=l.prog) (w:=w) (base:=base) B D_law_cost
 have GD_is_tuple_of:=jgu (P:=l.prog) (w:=w) (base:=base) B D_is_tuple_of
 have GD_is_pair_of_wholes:=jdz (P:=l.prog) (w:=w) (base:=base) B D_is_pair_of_wholes D_is_tuple_of GD_is_tuple_of D_is_whole G_is_whole
 have GI_marked:=jnn (P:=l.prog) (w:=w) (base:=base) B D_marked
 have G_put_way:=jnj (P:=l.prog) (w:=w) (base:=base) B D_put_way T
 have G_spread:=jpi (P:=l.prog) (w:=w) (base:=base) B D_spread T
 have G_push:=ju7 (P:=l.prog) (w:=w) (base:=base) B D_push T
 have G_flows:=jrw (P:=l.prog) (w:=w) (base:=base) B D_flows T
 have G_reached_from:=jgo (P:=l.prog) (w:=w) (base:=base) B D_reached_from D_spread G_spread T
 have G_halves_stand:=jgs (P:=l.prog) (w:=w) (base:=base) B D_halves_stand D_is_pair_of_wholes GD_is_pair_of_wholes
 have G_is_due:=jpk (P:=l.prog) (w:=w) (base:=base) B D_is_due D_is_tuple_of GD_is_tuple_of D_is_whole G_is_whole
 have G_dues_stand:=jiu (P:=l.prog) (w:=w) (base:=base) B D_dues_stand D_is_due G_is_due D_marked G_marked D_due_at G_due_at
 have G_paper_stands:=jgq (P:=l.prog) (w:=w) (base:=base) B D_paper_stands D_is_tuple_of GD_is_tuple_of D_halves_stand G_halves_stand D_dues_stand G_dues_stand D_cost_in_halves G_cost_in_halves
 have G_lets_halves:=jhg (P:=l.prog) (w:=w) (base:=base) B D_lets_halves D_look_at_web G_look_at_web D_paper_stands G_paper_stands
 have G_init:=ju8 (P:=l.prog) (w:=w) (base:=base) B D_init D_put_way G_put_way T
 have G_shortest:=jlb (P:=l.prog) (w:=w) (base:=base) B D_shortest D_spread G_spread T
 have G_doubled:=jnm (P:=l.prog) (w:=w) (base:=base) B D_doubled D_init G_init T C2 MK
 have G_fill:=ju9 (P:=l.prog) (w:=w) (base:=base) B D_fill D_shortest G_shortest D_push G_push T
 have G_told_paper:=jip (P:=l.prog) (w:=w) (base:=base) B D_told_paper D_doubled G_doubled D_fill G_fill D_reached_from G_reached_from D_marked GI_marked D_halves_reached G_halves_reached D_flows G_flows D_dues_flowing G_dues_flowing T C2
 have G_halves_of:=jka (P:=l.prog) (w:=w) (base:=base) B D_halves_of D_look_at_web G_look_at_web D_told_paper G_told_paper
 have G_law_others:=jit (P:=l.prog) (w:=w) (base:=base) B D_law_others D_law_own G_law_own D_halves_of G_halves_of D_law_take G_law_take D_lets_halves G_lets_halves
 exact ok_law B D_law D_law_begun G_law_begun D_law_web G_law_web D_law_turned G_law_turned D_law_rows G_law_rows D_law_cost G_law_cost D_law_own G_law_own D_halves_of G_halves_of D_law_others G_law_others
theorem walk {l:PySem.W.OpenLaw} {q:Program} {loose:List Str} {XP:(Str→Option Value)→Heap→Prop} {YP:World→Heap→Prop} {d:DefRec} {K:Params→PySem.W.Frag} (hn:l.most = some 63) (hdf:d.params.defaults = [])
  (hY:∀ (w:World) (h:Heap),YP w h→(K w.params).In h)
  (F:∀ (w:World) (mg:Str→Option Value) (fa:Addr) (h:Heap),(K w.params).In h→h.Ns mainGlobals mg→mg d.name = some (.ref fa) →
   ∃ fd:FuncData,(∀ (s:Shared) (u:Value),BindsTo s fd ⟨[u],[]⟩ [("_law_script",u)])∧∀ base:Heap,(K w.params).In base→base.Ns mainGlobals mg→FnOk l.prog w (K w.params) mg base CX0 9 fa fd ["_law_script"] (jra (K w.params))) :
  PySem.W.WalkO q loose XP YP l.row.toRowW d [] (fun f vs=>PySem.call f vs) :=
 L2.jo7 (n:=63) (k:=9) (x:="_law_script") (CX:=fun _=>CX0) (sp:=fun w=>jra (K w.params)) hn (by decide) hdf ⟨rfl,by decide,by decide,rfl⟩ hY F (fun _ _ a ns hl hO hS=>⟨a,ns,rfl,Scr.of hS hO,fun _=>rfl⟩) fun _ _ _ _ _ z=>z
end My
open PySem PySem.W PyProof.Rows
set_option maxRecDepth 100000 in
set_option maxHeartbeats 0 in
theorem PySem.Challenge.cw_touchall_k24_whole_cheapest_of_all_halve_holds : PySem.Challenge.rw_touchall_k24_whole_cheapest_of_all_halve.Holds := by
 refine MyHead ?_
 k_fill
 refine My.walk (l:=PySem.Challenge.rw_touchall_k24_whole_cheapest_of_all_halve) rfl rfl (fun w h Y=>PySem.W.kIn_of Y) ?F
 case F =>
  intro w mg fa h KX G hmg
  refine' My.all_mk KX G hmg ?_ ?_ ?_ ?_ ?_ ?_ ?_ ?_ ?_ ?_ ?_ ?_ ?_ ?_ ?_ ?_ ?_ ?_ ?_ ?_ ?_ ?_ ?_ ?_ ?_ ?_ ?_ ?_ ?_ ?_ ?_ ?_ ?_ ?_ ?_ ?_ ?_ ?_ ?_ ?_ ?_ ?_ ?_ ?_ ?_ ?_ ?_ ?_ ?_ ?_ ?_ ?_ ?_ ?_ ?_ ?_ ?_ ?_ ?_ ?_ ?_ ?_ ?_ ?_ ?_ ?_ ?_ ?_ ?_ ?_ ?_ ?_ ?_ ?_ ?_ ?_ ?_ ?_ ?_ ?_ ?_ ?_ ?_ ?_ ?_ ?_ ?_ ?_ ?_ ?_ ?_ ?_ ?_ ?_ ?_ ?_ ?_ ?_ ?_ ?_ ?_ ?_ ?_ ?_ ?_ ?_ ?_ ?_ ?_ ?_ ?_ ?_ ?_ ?_ ?_ ?_ ?_ ?_ ?_ ?_ ?_ ?_ ?_ ?_ ?_ ?_ ?_ ?_ ?_ ?_ ?_ ?_ ?_ ?_ ?_ ?_ ?_ ?_ ?_ ?_ ?_ ?_ ?_ ?_ ?_ ?_ ?_ ?_ ?_ ?_ ?_ ?_ ?_ ?_ ?_ ?_ ?_ ?_ ?_ ?_ ?_ ?_ ?_ ?_ ?_ ?_ ?_ ?_ ?_ ?_ ?_ ?_ ?_ ?_ ?_ ?_ ?_ ?_ ?_ ?_ ?_ ?_ ?_ ?_ ?_ ?_ ?_ ?_ ?_ ?_ ?_ ?_ ?_ ?_ ?_ ?_ ?_ ?_ ?_ ?_ ?_ ?_ ?_
  any_goals first | k_is | (delta My.aT; k_is) | (delta My.lT; k_is) | (delta My.cT; k_is) | (delta My.kT; k_is) | (delta My.zT; k_is) | kernel_rfl | rfl
#print axioms PySem.Challenge.cw_touchall_k24_whole_cheapest_of_all_halve_holds
