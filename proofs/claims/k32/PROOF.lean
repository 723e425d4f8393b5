import PyProof.Rows.All
import Wide.All
import OpenK.AllK
import Wide.FinOn
import Lean
import PyProof.EqAt
import PyProof.EqKinds
import PyProof.TupleCall
import PyProof.NeKinds
import PyProof.NeData
import PySem.Challenge.RW_touchall_k32_fixed_in_bunches
import PyProof.StationsW
import PyProof.ExcInit
import PyProof.InstStoreFacts
import PyProof.NsDelKeeps
import PyProof.RulesAs
import PyProof.ExcAttrAll.ValueError
import KE.KIsAll
import PyProof.AutoSeq1
import PyProof.Rows.SetFrom
import PyProof.SetRoads
import PyProof.Rows.SortRuns
import PyProof.Rows.SortShell
import KE.KSortTup
import PyProof.Rows.SumAny
import PyProof.DictWalks
import PyProof.DictUpdate
import KE.KDictList
section
open PySem PySem.W PyProof.Rows
set_option Elab.async false
set_option maxRecDepth 100000
set_option maxHeartbeats 0
namespace PySem.W.Fast
theorem tw4931856099360984229:True:=⟨⟩
theorem tw9046890518771286791:True:=⟨⟩
theorem tw14781562103584300300:True:=⟨⟩
theorem tw18004234820734870348:True:=⟨⟩
theorem tw16599119404929089777:True:=⟨⟩
theorem tw9523907401933072244:True:=⟨⟩
theorem tw280475905095942100:True:=⟨⟩
theorem tw17883986908372840214:True:=⟨⟩
theorem tw3532348617687762170:True:=⟨⟩
theorem tw2394965854965877950:True:=⟨⟩
theorem tw340351540167535807:True:=⟨⟩
theorem tw1012031577560872118:True:=⟨⟩
theorem tw749475842917359531:True:=⟨⟩
theorem tw16534339097768146004:True:=⟨⟩
theorem tw2220164997069877358:True:=⟨⟩
theorem tw15693294657385995021:True:=⟨⟩
theorem tw2299995472670780312:True:=⟨⟩
theorem tw14046072485561619853:True:=⟨⟩
theorem tw15335128613735910151:True:=⟨⟩
theorem tw593414006488225192:True:=⟨⟩
theorem tw17382730591349914884:True:=⟨⟩
theorem tw8513872578731894556:True:=⟨⟩
theorem tw11033941645859556090:True:=⟨⟩
theorem tw13281483970742848924:True:=⟨⟩
theorem tw6542929942557814982:True:=⟨⟩
theorem tw11838570771899567539:True:=⟨⟩
theorem tw2965769552864237175:True:=⟨⟩
theorem tw2232508010609702249:True:=⟨⟩
theorem tw1446046372975601066:True:=⟨⟩
theorem tw10913997214970868764:True:=⟨⟩
theorem tw9986159386596041291:True:=⟨⟩
theorem tw5954876327221452193:True:=⟨⟩
theorem tw1104488647094209902:True:=⟨⟩
theorem tw17040265546129833713:True:=⟨⟩
theorem tw12855419698269193786:True:=⟨⟩
theorem tw6749682013178273063:True:=⟨⟩
theorem tw11388765831873443430:True:=⟨⟩
theorem tw13058793742947418118:True:=⟨⟩
theorem tw12343798008286848705:True:=⟨⟩
theorem tw15500006721023040547:True:=⟨⟩
theorem tw18111414595329612538:True:=⟨⟩
theorem tw429126050991680652:True:=⟨⟩
theorem tw15514634696500728796:True:=⟨⟩
theorem tw11435906062788071858:True:=⟨⟩
theorem tw7213155722094151984:True:=⟨⟩
theorem tw8153494736163193282:True:=⟨⟩
theorem tw162473700425539603:True:=⟨⟩
theorem tw11867328985658093342:True:=⟨⟩
theorem tw15227233571305852144:True:=⟨⟩
theorem tw1726813977947389158:True:=⟨⟩
theorem tw16770910964881924072:True:=⟨⟩
theorem tw14978731467003240592:True:=⟨⟩
theorem tw8079341929624369548:True:=⟨⟩
theorem tw7492884703717757881:True:=⟨⟩
theorem tw12021910400016799448:True:=⟨⟩
theorem tw9482120283554068594:True:=⟨⟩
theorem tw12306747795182409104:True:=⟨⟩
theorem tw4762995603375477503:True:=⟨⟩
theorem tw1718328181716237790:True:=⟨⟩
theorem tw163361006696384501:True:=⟨⟩
theorem tw9000492280638625789:True:=⟨⟩
theorem tw2198618278216875009:True:=⟨⟩
theorem tw1946033789281374818:True:=⟨⟩
theorem tw17790621613727568432:True:=⟨⟩
end PySem.W.Fast
open_top MyHead for PySem.Challenge.rw_touchall_k32_fixed_in_bunches
end
-- CHANGE: your row's module here, as the last of these rows
noncomputable section
set_option Elab.async false
set_option linter.all false
set_option maxRecDepth 100000
namespace L2
open PySem PySem.Spec PyProof.Rows
abbrev Key:=Sum Int Str
def jij:Key→Value→Bool
 | .inl k,v=>Value.isInt k v
 | .inr x,v=>Value.isStrOf x v
def keyH (w:World):Key→Int
 | .inl k=>hashInt k
 | .inr x=>hashStr w x
theorem jby:∀ {k:Key} {v:Value},jij k v = true→(∃ i t,k = Sum.inl i∧v = Value.int i t) ∨ (∃ x t,k = Sum.inr x∧v = Value.str x t)
 | .inl i,v,h=>by
  obtain ⟨t,e⟩:=Value.isInt_shape (k:=i) (v:=v) h
  exact .inl ⟨i,t,rfl,e⟩
 | .inr x,v,h=>by
  obtain ⟨t,e⟩:=Value.isStrOf_shape (x:=x) (v:=v) h
  exact .inr ⟨x,t,rfl,e⟩
theorem jpc (i:Int) (t:Tok):jij (.inl i) (.int i t) = true:=by simp [jij,Value.isInt]
theorem jpb (x:Str) (t:Tok):jij (.inr x) (.str x t) = true:=by simp [jij,Value.isStrOf]
theorem key_ll (a b:Int):decide ((Sum.inl a:Key) = Sum.inl b) = (a == b):=by
 by_cases e:a = b
 ·subst e; simp
 ·have h:¬ (Sum.inl a:Key) = Sum.inl b:=fun q=>e (Sum.inl.inj q)
  rw [decide_eq_false h]
  exact (beq_eq_false_iff_ne.mpr e).symm
theorem key_rr (a b:Str):decide ((Sum.inr a:Key) = Sum.inr b) = decide (a = b):=by
 by_cases e:a = b
 ·subst e; simp
 ·have h:¬ (Sum.inr a:Key) = Sum.inr b:=fun q=>e (Sum.inr.inj q)
  rw [decide_eq_false h,decide_eq_false e]
theorem key_lr (a:Int) (b:Str):decide ((Sum.inl a:Key) = Sum.inr b) = false:=decide_eq_false (fun q=>nomatch q)
theorem key_rl (a:Str) (b:Int):decide ((Sum.inr a:Key) = Sum.inl b) = false:=decide_eq_false (fun q=>nomatch q)
def jbx (prog:Program) (w:World):PySem.KeyKind prog w Key where
 is:=jij
 hash:=keyH w
 inj:=fun v a b ha hb=>by
  rcases jby ha with ⟨i,t,rfl,rfl⟩ | ⟨x,t,rfl,rfl⟩
  ·rcases jby hb with ⟨j,u,rfl,e⟩ | ⟨y,u,rfl,e⟩
   ·injection e with e1 _; rw [e1]
   ·exact nomatch e
  ·rcases jby hb with ⟨j,u,rfl,e⟩ | ⟨y,u,rfl,e⟩
   ·exact nomatch e
   ·injection e with e1 _; rw [e1]
 byValue:=fun k v h=>by
  rcases jby h with ⟨i,t,rfl,rfl⟩ | ⟨x,t,rfl,rfl⟩ <;> rfl
 pyHash:=fun hv h=>by
  rcases jby hv with ⟨i,t,rfl,rfl⟩ | ⟨x,t,rfl,rfl⟩
  ·exact wpAny_pyHash_int h
  ·exact wpAny_pyHash_str h
 eqBool:=fun hu hv h=>by
  rcases jby hu with ⟨i,t,rfl,rfl⟩ | ⟨x,t,rfl,rfl⟩
  ·rcases jby hv with ⟨j,u,rfl,rfl⟩ | ⟨y,u,rfl,rfl⟩
   ·rw [key_ll] at h; exact wpAny_eqBool_int h
   ·rw [key_lr] at h; exact SeqAt.EqAt.int_str i t y u _ _ _ _ h
  ·rcases jby hv with ⟨j,u,rfl,rfl⟩ | ⟨y,u,rfl,rfl⟩
   ·rw [key_rl] at h; exact SeqAt.EqAt.str_int x t j u _ _ _ _ h
   ·rw [key_rr] at h; exact wpAny_eqBool_str h
 «strs»:=fun k x t v h=>by
  rcases jby h with ⟨i,u,rfl,e⟩ | ⟨y,u,rfl,e⟩
  ·exact nomatch e
  ·injection e with e1 _
   subst e1
   cases v <;> rfl
theorem jl6 (prog:Program) (w:World) (i:Int) (t:Tok):(jbx prog w).is (.inl i) (.int i t) = true:=jpc i t
theorem jl5 (prog:Program) (w:World) (x:Str) (t:Tok):(jbx prog w).is (.inr x) (.str x t) = true:=jpb x t
end L2
namespace L2
open PySem PySem.Spec PyProof.Rows
inductive V where
 | non | bl (b:Bool) | int (i:Int) | str (x:Str) | byt (b:Array UInt8) | flt (b:UInt64) | ref (a:Addr) | ty (n:String)
 deriving DecidableEq
def RelV:V→Value→Prop
 | .non,u=>u = Value.none
 | .bl b,u=>u = Value.bool b
 | .int i,u=>∃ t,u = Value.int i t
 | .str x,u=>∃ t,u = Value.str x t
 | .byt b,u=>∃ t,u = Value.bytes b t
 | .flt b,u=>∃ t,u = Value.float b t
 | .ref a,u=>u = Value.ref a
 | .ty n,u=>u = Value.type n
abbrev Vals:List V→List Value→Prop:=Paired RelV
theorem Vals.length {xs:List V} {us:List Value} (r:Vals xs us):xs.length = us.length:=Paired.length r
theorem Vals.get:∀ {xs:List V} {us:List Value} {i:Nat} {x:V},Vals xs us→xs[i]? = some x→∃ u,us[i]? = some u∧RelV x u
 | _,_,_,_,.nil,e=>by simp at e
 | _,_,0,_,.cons r _,e=>by simp at e; subst e; exact ⟨_,rfl,r⟩
 | _,_,i + 1,x,.cons _ t,e=>by
  obtain ⟨u,h1,h2⟩:=Vals.get (i:=i) (x:=x) t (by simpa using e)
  exact ⟨u,by simpa using h1,h2⟩
theorem Vals.set {x:V} {u:Value} (r:RelV x u):∀ {xs:List V} {us:List Value} (i:Nat),Vals xs us→Vals (xs.set i x) (us.set i u)
 | _,_,_,.nil=>.nil
 | _,_,0,.cons _ t=>.cons r t
 | _,_,i + 1,.cons q t=>.cons q (Vals.set r i t)
theorem Vals.append:∀ {xs ys:List V} {us ws:List Value},Vals xs us→Vals ys ws→Vals (xs ++ ys) (us ++ ws)
 | _,_,_,_,.nil,s=>s
 | _,_,_,_,.cons r t,s=>.cons r (Vals.append t s)
theorem Vals.take:∀ {xs:List V} {us:List Value} (n:Nat),Vals xs us→Vals (xs.take n) (us.take n)
 | _,_,0,_=>.nil
 | _,_,_ + 1,.nil=>.nil
 | _,_,n + 1,.cons r t=>.cons r (Vals.take n t)
theorem Vals.drop:∀ {xs:List V} {us:List Value} (n:Nat),Vals xs us→Vals (xs.drop n) (us.drop n)
 | _,_,0,r=>r
 | _,_,_ + 1,.nil=>.nil
 | _,_,n + 1,.cons _ t=>Vals.drop n t
def RelO:Option V→Option Value→Prop
 | some v,some u=>RelV v u
 | none,none=>True
 | _,_=>False
def KV {κ:Type}:List (κ × V)→List (κ × Value)→Prop:=Paired fun (p:κ × V) (q:κ × Value)=>p.1 = q.1∧RelV p.2 q.2
def kV:Key→V
 | .inl i=>.int i
 | .inr x=>.str x
inductive HO where
 | lst (xs:List V)
 | tup (xs:List V)
 | dK (kvs:List (Key × V)) | dT (kvs:List (List Key × V))
 | set (S:Int→Bool) (n:Nat)
 | ins (C dx:Addr) (fs:List (Str × V))
 | own (x:Addr)
 | xd (fs:List (Str × V))
 | met (f x:Addr)
 | rng (lo hi:Int)
 | frz (o:Obj) (u:HO)
 | tbl (ps:Array Value)
 | ext (φ:Heap→Prop)
abbrev Hp:=Addr→Option HO
def upd (H:Hp) (a:Addr) (o:HO):Hp:=fun b=>if b = a then some o else H b
theorem ja1 {H:Hp} {a:Addr} {o:HO}:upd H a o a = some o:=by unfold upd; rw [if_pos rfl]
theorem jas {H:Hp} {a b:Addr} {o:HO} (h:b ≠ a):upd H a o b = H b:=by unfold upd; rw [if_neg h]
theorem jnu {H:Hp} {a:Addr} {o u:HO}:upd (upd H a o) a u = upd H a u:=by
 funext b; unfold upd; split <;> rfl
theorem jl2 {H:Hp} {a b:Addr} {o u:HO} (h:H a = some o) (h':H b = some u) (d:o ≠ u):a ≠ b:=by
 intro e; subst e; rw [h] at h'; exact d (Option.some.inj h')
theorem ja5 {H:Hp} {a b:Addr} {o:HO} (h:H a = some o) (h':H b = none):a ≠ b:=by
 intro e; subst e; rw [h] at h'; cases h'
section
variable (P:Program) (w:World)
def jcg (H:Hp) (h:Heap) (a:Addr):HO→Prop
 | .lst xs=>xs.length ≤ sizeLine∧∃ (its:List Value) (n:Nat),Vals xs its∧h.get? a = some { cls:=.type "list",data:=.seq its.toArray n }
 | .tup xs=>xs.length ≤ sizeLine∧∃ its:List Value,Vals xs its∧IsTup h a its.toArray
 | .dK kvs=>kvs.length ≤ sizeLine∧(a == sysModules) = false∧∃ vs,KV kvs vs∧h.DictOf (jbx P w) a vs
 | .dT kvs=>kvs.length ≤ sizeLine∧(a == sysModules) = false∧∃ xs:List (List Key × Addr × Value),
   Paired (fun (p:List Key × V) (q:List Key × Addr × Value)=>p.1 = q.1∧H q.2.1 = some (.tup (p.1.map kV))∧RelV p.2 q.2.2) kvs xs ∧
   ∃ o es ep,h.get? a = some o∧o.ExactDict∧o.data = .dict es ep∧es.toList = xs.map (entryOfKey (tupleKind (jbx P w)))∧(xs.map (·.1)).Nodup
 | .set S n=>h.SetOf (intKind P w) a S n
 | .ins C dx fs=>H dx = some (.own a)∧fs.length ≤ 1000∧dx ≠ a∧h.get? a = some (PySem.W.instObj C dx) ∧
   ∃ mA,h.Ns1 dx mA∧(∀ f,RelO (fs.lookup f) (mA f))∧PySem.Within mA (fs.map (·.1))
 | .own _=>∃ o,h.get? a = some o
 | .xd fs=>∃ mA,h.Ns1 a mA∧∀ f,RelO (fs.lookup f) (mA f)
 | .rng lo hi=>∃ t u v,h.get? a = some { cls:=.type "range",data:=.fields #[.int lo t,.int hi u,.int 1 v] }
 | .frz o u=>h.get? a = some o∧jcg H h a u
 | .tbl ps=>h.get? a = some { cls:=.none,data:=.fields ps }
 | .met f x=>h.get? a = some (PySem.W.methodObj (.ref f) (.ref x))
 | .ext φ=>φ h∧(∃ o,h.get? a = some o)∧∀ h1 h2:Heap,φ h1→(∀ o,h1.get? a = some o→h2.get? a = some o)→φ h2
def HOk (H:Hp) (h:Heap):Prop:=∀ a o,H a = some o→jcg P w H h a o
end
section
variable {P:Program} {w:World} {H H':Hp} {h h':Heap} {a:Addr} {o:HO}
theorem jcg.lt (x:jcg P w H h a o):a < h.objs.size:=by
 cases o with
 | lst xs=>obtain ⟨_,_,_,_,e⟩:=x; exact Heap.lt_size e
 | tup xs=>obtain ⟨_,_,_,p⟩:=x; exact p.lt
 | dK kvs=>obtain ⟨_,_,_,_,o,_,_,e,_⟩:=x; exact Heap.lt_size e
 | dT kvs=>obtain ⟨_,_,_,_,o,_,_,e,_⟩:=x; exact Heap.lt_size e
 | set S n=>obtain ⟨o,_,_,_,e,_⟩:=x; exact Heap.lt_size e
 | ins C dx fs=>obtain ⟨_,_,_,e,_⟩:=x; exact Heap.lt_size e
 | own y=>obtain ⟨_,e⟩:=x; exact Heap.lt_size e
 | xd fs=>obtain ⟨_,⟨_,_,_,e,_⟩,_⟩:=x; exact Heap.lt_size e
 | rng lo hi=>obtain ⟨_,_,_,e⟩:=x; exact Heap.lt_size e
 | frz ob u=>obtain ⟨e,_⟩:=x; exact Heap.lt_size e
 | tbl ps=>exact Heap.lt_size (show h.get? a = some _ from x)
 | met f y=>exact Heap.lt_size (show h.get? a = some _ from x)
 | ext φ=>obtain ⟨_,⟨_,e⟩,_⟩:=x; exact Heap.lt_size e
theorem Paired.mapP {α β:Type} {F G:α→β→Prop}:∀ {l₁:List α} {l₂:List β},Paired F l₁ l₂→(∀ a b,F a b→G a b)→Paired G l₁ l₂
 | _,_,.nil,_=>.nil
 | _,_,.cons r t,f=>.cons (f _ _ r) (Paired.mapP t f)
theorem Paired.imp' {α β:Type} {F G:α→β→Prop} (f:∀ a b,F a b→G a b) {l₁:List α} {l₂:List β} (r:Paired F l₁ l₂):Paired G l₁ l₂:=Paired.mapP r f
theorem jcg.stay (x:jcg P w H h a o) (k:∀ b u,(b = a ∨ H b = some (.own a))→h.get? b = some u→h'.get? b = some u)
  (ho:∀ b,H b = some (.own a)→H' b = some (.own a)) (ht:∀ b xs,H b = some (.tup xs)→H' b = some (.tup xs)):jcg P w H' h' a o:=by
 induction o with
 | lst xs=>obtain ⟨z,its,n,r,e⟩:=x; exact ⟨z,its,n,r,k _ _ (.inl rfl) e⟩
 | tup xs=>obtain ⟨z,its,r,ob,e,c⟩:=x; exact ⟨z,its,r,ob,k _ _ (.inl rfl) e,c⟩
 | dK kvs=>obtain ⟨z,y,vs,r,ob,es,ep,e,c⟩:=x; exact ⟨z,y,vs,r,ob,es,ep,k _ _ (.inl rfl) e,c⟩
 | dT kvs =>
  obtain ⟨z,y,xs,r,ob,es,ep,e,c⟩:=x
  exact ⟨z,y,xs,Paired.mapP r fun p q z=>⟨z.1,ht _ _ z.2.1,z.2.2⟩,ob,es,ep,k _ _ (.inl rfl) e,c⟩
 | set S n=>obtain ⟨ob,es,ep,t,e,c⟩:=x; exact ⟨ob,es,ep,t,k _ _ (.inl rfl) e,c⟩
 | ins C dx fs =>
  obtain ⟨d,z,ne,e,mA,⟨od,es,ep,e2,c⟩,r⟩:=x
  exact ⟨ho _ d,z,ne,k _ _ (.inl rfl) e,mA,⟨od,es,ep,k _ _ (.inr d) e2,c⟩,r⟩
 | own y=>obtain ⟨ob,e⟩:=x; exact ⟨ob,k _ _ (.inl rfl) e⟩
 | xd fs=>obtain ⟨mA,⟨od,es,ep,e,c⟩,r⟩:=x; exact ⟨mA,⟨od,es,ep,k _ _ (.inl rfl) e,c⟩,r⟩
 | rng lo hi=>obtain ⟨t,u,v,e⟩:=x; exact ⟨t,u,v,k _ _ (.inl rfl) e⟩
 | frz ob u ih=>obtain ⟨e,q⟩:=x; exact ⟨k _ _ (.inl rfl) e,ih q⟩
 | tbl ps =>
  have e:h.get? a = some { cls:=.none,data:=.fields ps }:=x
  show h'.get? a = some { cls:=.none,data:=.fields ps }
  exact k a _ (.inl rfl) e
 | met f y =>
  have e:h.get? a = some (PySem.W.methodObj (.ref f) (.ref y)):=x
  show h'.get? a = some (PySem.W.methodObj (.ref f) (.ref y))
  exact k a _ (.inl rfl) e
 | ext φ=>obtain ⟨p,⟨o,e⟩,st⟩:=x; exact ⟨st _ _ p fun o q=>k _ _ (.inl rfl) q,⟨o,k _ _ (.inl rfl) e⟩,st⟩
theorem HOk.lt (x:HOk P w H h) (e:H a = some o):a < h.objs.size:=(x a o e).lt
theorem HOk.fresh (x:HOk P w H h) (e:h.objs.size ≤ a):H a = none:=by
 cases q:H a with
 | none=>rfl
 | some u=>exact absurd (Nat.lt_of_lt_of_le (x.lt q) e) (Nat.lt_irrefl _)
theorem HOk.kept (x:HOk P w H h) (k:∀ b u,h.get? b = some u→h'.get? b = some u):HOk P w H h':=fun a o e =>
 (x a o e).stay (fun b u _ q=>k b u q) (fun _ q=>q) fun _ _ q=>q
theorem HOk.laid (x:HOk P w H h) (k:∀ b u,h.get? b = some u→h'.get? b = some u) (hp:h.objs.size ≤ a) (new:jcg P w (upd H a o) h' a o):HOk P w (upd H a o) h':=fun b u e=>by
 have hn:=x.fresh hp
 by_cases hb:b = a
 ·subst hb; rw [ja1] at e; cases e; exact new
 ·rw [jas hb] at e
  exact (x b u e).stay (fun c v _ q=>k c v q) (fun c q=>by rw [jas (ja5 q hn)]; exact q) fun c xs q=>by rw [jas (ja5 q hn)]; exact q
end
def Rd (H:Hp) (a:Addr) (u:HO):Prop:=H a = some u ∨ ∃ o,H a = some (.frz o u)
theorem Rd.of {H:Hp} {a:Addr} {u:HO} (h:H a = some u):Rd H a u:=.inl h
theorem Rd.ok {P:Program} {w:World} {H:Hp} {h:Heap} {a:Addr} {u:HO} (r:Rd H a u) (x:HOk P w H h):jcg P w H h a u:=by
 rcases r with r | ⟨o,r⟩
 ·exact x a u r
 ·obtain ⟨_,q⟩:=x a _ r
  exact q
def Mut:Option HO→Prop
 | some (.lst _)=>True
 | some (.dK _)=>True
 | some (.dT _)=>True
 | some (.set _ _)=>True
 | some (.ins _ _ _)=>True
 | some (.ext _)=>True
 | _=>False
section
variable {P:Program} {w:World} {H:Hp} {h h':Heap} {x e:Addr} {o':HO}
theorem HOk.write (ok:HOk P w H h) (mu:Mut (H x)) (he:e = x ∨ H e = some (.own x)) (k:∀ b u,b ≠ e→h.get? b = some u→h'.get? b = some u) (heo:∃ u,h'.get? e = some u)
  (new:jcg P w (upd H x o') h' x o'):HOk P w (upd H x o') h':=fun b u q=>by
 have nown:∀ c y,H c = some (.own y)→c ≠ x:=fun c y r z=>by subst z; rw [r] at mu; exact mu
 have ntup:∀ c xs,H c = some (.tup xs)→c ≠ x:=fun c xs r z=>by subst z; rw [r] at mu; exact mu
 by_cases hb:b = x
 ·subst hb; rw [ja1] at q; cases q; exact new
 ·rw [jas hb] at q
  by_cases hbe:b = e
  ·have q':H b = some (.own x):=by
    rcases he with z | z
    ·exact absurd (hbe.trans z) hb
    ·rw [hbe]; exact z
   rw [q] at q'; cases q'
   obtain ⟨v,hv⟩:=heo
   exact ⟨v,by rw [hbe]; exact hv⟩
  ·refine (ok b u q).stay (fun c v hc r=>k c v ?_ r) (fun c r=>by rw [jas (nown c b r)]; exact r) fun c xs r=>by rw [jas (ntup c xs r)]; exact r
   rcases hc with rfl | hc
   ·exact hbe
   ·rintro rfl
    rcases he with z | z
    ·exact nown c b hc z
    ·rw [hc] at z; cases z; exact hb rfl
end
structure Un (fs ex:List Addr) (H H':Hp) (h h':Heap):Prop where
 keep:∀ b o,h.get? b = some o→H b = none→b ∉ fs→b ∉ ex→h'.get? b = some o
 slot:∀ b o,h.get? b = some o→H b = none→b ∈ fs→b ∉ ex→∃ sl,h'.get? b = some { o with slots:=sl }
 free:∀ b o,h.get? b = some o→H b = none→b ∉ ex→H' b = none
 there:∀ b o,h.get? b = some o→b ∉ ex→∃ o',h'.get? b = some o'
 tups:∀ b xs,H b = some (.tup xs)→H' b = some (.tup xs)
 frzs:∀ b o u,H b = some (.frz o u)→H' b = some (.frz o u)
 tbls:∀ b ps,H b = some (.tbl ps)→∃ more,H' b = some (.tbl (ps ++ more))
section
variable {fs fs' ex ex':List Addr} {H H1 H2:Hp} {h h1 h2 h':Heap} {a x e:Addr} {o:HO}
theorem Un.any (u:Un fs ex H H1 h h1) {b:Addr} {ob:Obj} (q:h.get? b = some ob) (n:H b = none) (hx:b ∉ ex):∃ sl,h1.get? b = some { ob with slots:=sl }:=by
 by_cases hb:b ∈ fs
 ·exact u.slot b ob q n hb hx
 ·exact ⟨ob.slots,u.keep b ob q n hb hx⟩
theorem Un.trans (a:Un fs ex H H1 h h1) (b:Un fs ex H1 H2 h1 h2):Un fs ex H H2 h h2 where
 keep:=fun c ob q n hc hx=>b.keep c ob (a.keep c ob q n hc hx) (a.free c ob q n hx) hc hx
 slot:=fun c ob q n hc hx=>by
  obtain ⟨sl,e1⟩:=a.slot c ob q n hc hx
  obtain ⟨sl',e2⟩:=b.slot c _ e1 (a.free c ob q n hx) hc hx
  exact ⟨sl',e2⟩
 free:=fun c ob q n hx=>by
  obtain ⟨o',e1⟩:=a.there c ob q hx
  exact b.free c o' e1 (a.free c ob q n hx) hx
 there:=fun c ob q hx=>by
  obtain ⟨o',e1⟩:=a.there c ob q hx
  exact b.there c o' e1 hx
 tups:=fun c xs q=>b.tups c xs (a.tups c xs q)
 frzs:=fun c ob xs q=>b.frzs c ob xs (a.frzs c ob xs q)
 tbls:=fun c ps q=>by
  obtain ⟨m1,e1⟩:=a.tbls c ps q
  obtain ⟨m2,e2⟩:=b.tbls c _ e1
  exact ⟨m1 ++ m2,by rw [e2,Array.append_assoc]⟩
theorem Un.kept (k:∀ b u,h.get? b = some u→h'.get? b = some u):Un fs ex H H h h' :=
 ⟨fun b ob q _ _ _=>k b ob q,fun b ob q _ _ _=>⟨ob.slots,k b ob q⟩,fun _ _ _ n _=>n,fun b ob q _=>⟨ob,k b ob q⟩,fun _ _ q=>q,fun _ _ _ q=>q,fun _ ps q=>⟨#[],by rw [q]; simp⟩⟩
theorem Un.refl:Un fs ex H H h h:=Un.kept fun _ _ q=>q
theorem Un.laid (k:∀ b u,h.get? b = some u→h'.get? b = some u) (hp:h.objs.size ≤ a) (hn:H a = none):Un fs ex H (upd H a o) h h' where
 keep:=fun b u q _ _ _=>k b u q
 slot:=fun b u q _ _ _=>⟨u.slots,k b u q⟩
 free:=fun b u q n _=>by rw [jas (Nat.ne_of_lt (Nat.lt_of_lt_of_le (Heap.lt_size q) hp))]; exact n
 there:=fun b u q _=>⟨u,k b u q⟩
 tups:=fun b xs q=>by rw [jas (ja5 q hn)]; exact q
 frzs:=fun b u xs q=>by rw [jas (ja5 q hn)]; exact q
 tbls:=fun b ps q=>⟨#[],by rw [jas (ja5 q hn),q]; simp⟩
theorem Un.write (mu:Mut (H x)) (he:e = x ∨ H e = some (.own x)) (k:∀ b u,b ≠ e→h.get? b = some u→h'.get? b = some u) (heo:∃ u,h'.get? e = some u):Un fs ex H (upd H x o) h h':=by
 have hx:∀ b,H b = none→b ≠ x:=fun b n z=>by subst z; rw [n] at mu; exact mu
 have hb:∀ b,H b = none→b ≠ e:=fun b n z=>by
  subst z
  rcases he with r | r
  ·exact hx b n r
  ·rw [n] at r; cases r
 have hm:∀ b u,H b = some u→¬ Mut (some u)→b ≠ x:=fun b u q nm z=>by subst z; rw [q] at mu; exact nm mu
 refine ⟨fun b u q n _ _=>k b u (hb b n) q,fun b u q n _ _=>⟨u.slots,k b u (hb b n) q⟩,fun b u q n _=>by rw [jas (hx b n)]; exact n,fun b u q _=>?_,
  fun b xs q=>by rw [jas (hm b _ q fun z=>z)]; exact q,fun b u xs q=>by rw [jas (hm b _ q fun z=>z)]; exact q,fun b ps q=>⟨#[],by rw [jas (hm b _ q fun z=>z),q]; simp⟩⟩
 by_cases hbe:b = e
 ·subst hbe; exact heo
 ·exact ⟨u,k b u hbe q⟩
theorem Un.mono (u:Un fs ex H H1 h h1) (hs:∀ b ∈ fs,b ∈ fs') (hx:∀ b ∈ ex,b ∈ ex'):Un fs' ex' H H1 h h1 :=
 ⟨fun b ob q n hb he=>u.keep b ob q n (fun z=>hb (hs b z)) fun z=>he (hx b z),fun _ _ q n _ he=>u.any q n fun z=>he (hx _ z),fun b ob q n he=>u.free b ob q n fun z=>he (hx b z),fun b ob q he=>u.there b ob q fun z=>he (hx b z),u.tups,u.frzs,u.tbls⟩
end
def trk (h:Heap) (H:Hp):List Addr:=(List.range h.objs.size).filter fun a=>(H a).isSome
def hidT (h:Heap) (H:Hp):Heap:=PySem.W.hideAll h (trk h H)
theorem jpn (h:Heap) (H:Hp):(hidT h H).objs.size = h.objs.size:=PySem.W.hideAll_size _ _
theorem jrg {h:Heap} {H:Hp} {b:Addr} {o:Obj} (e:h.get? b = some o) (n:H b = none):(hidT h H).get? b = some o :=
 PySem.W.hideAll_get _ e fun hm=>by
  have q:(H b).isSome = true:=(List.mem_filter.mp hm).2
  rw [n] at q; simp at q
theorem jti {h:Heap} {H:Hp} {b:Addr} {o:Obj} (e:(hidT h H).get? b = some o):h.get? b = some o∧H b = none:=by
 have e':h.get? b = some o:=PySem.W.of_hideAll (trk h H) e
 refine ⟨e',?_⟩
 cases q:H b with
 | none=>rfl
 | some x =>
  have hm:b ∈ trk h H:=List.mem_filter.mpr ⟨List.mem_range.mpr (Heap.lt_size e'),by simp [q]⟩
  have z:(hidT h H).get? b = none:=PySem.W.hideAll_none (trk h H) hm
  rw [z] at e; cases e
end L2
namespace L2
open PySem PySem.Spec PyProof.Rows
structure Mod (K:PySem.W.Frag) (mg:Str→Option Value) (base:Heap):Prop where
 kin:K.In base
 glob:base.Ns mainGlobals mg
 blt:∃ mb,base.Ns builtinsNs mb∧∀ x:Str,x ≠ "__name__"→mb x = bootBuiltins x
 nolimit:base.NoLimit
structure Cx where
 prog:Program
 w:World
 K:PySem.W.Frag
 mg:Str→Option Value
 base:Heap
 A:Around
 N:List Str
 s₀:Shared
 H₀:Hp
 env:Env
 outer:List Env
 stack:List Env
 ex:List Addr
 fn:Str→Bool
 calm:Bool
 pn:List (Addr × Obj)
 xe:Value→Shared→Prop
def frs (l:List Env):List Addr:=l.filterMap (·.frame)
abbrev Cx.fs (X:Cx):List Addr:=frs X.outer
def Vis (sc:Scope) (x:Str):Prop:=sc.names.lookup x = some .local ∨ sc.names.lookup x = some .cell ∨ sc.names.lookup x = some .free
def Loc (sc:Scope) (x:Str):Prop:=sc.names.lookup x = some .local ∨ sc.names.lookup x = some .cell
def Look (env:Env) (h:Heap) (m:Str→Option Value) (x:Str) (u:Value):Prop :=
 (env.kindOf x = some .local∧m x = some u) ∨ ((env.kindOf x = some .cell ∨ env.kindOf x = some .free)∧∃ c,env.cells.lookup x = some c∧h.IsCell c (some u))
structure Cx.Ok (X:Cx):Prop where
 mod:Mod X.K X.mg X.base
 kind:X.env.scope.kind = .function
 glob:X.env.globals = mainGlobals
 blt:X.env.builtins = builtinsNs
 above:X.s₀.heap.objs.size ≤ X.env.locals
 inj:∀ x y c,X.env.cells.lookup x = some c→X.env.cells.lookup y = some c→x = y
 has:∀ x,(X.env.kindOf x = some .cell ∨ X.env.kindOf x = some .free)→∃ c,X.env.cells.lookup x = some c
 cab:∀ x c,X.fn x = true→X.env.cells.lookup x = some c→X.s₀.heap.objs.size ≤ c
 hd:X.calm = true→X.A.handled = none
 frames:X.A.frames = some X.stack
 stk:X.stack = X.outer ∨ (X.stack = X.env :: X.outer∧X.env.frame = some X.env.locals)
 exf:∀ b ∈ X.ex,b ≠ X.env.locals∧∀ x c,X.env.cells.lookup x = some c→c ≠ b
 bs:∀ b o,X.base.get? b = some o→X.s₀.heap.get? b = some o∧X.H₀ b = none
 bsz:X.base.objs.size ≤ X.s₀.heap.objs.size
 noex:∀ b o,X.base.get? b = some o→b ∉ X.ex
 exfs:∀ b ∈ X.ex,b ∉ X.fs
 funs:X.s₀.heap.FunFrames X.base X.outer
 frf:∀ b ∈ X.fs,X.H₀ b = none
structure Inv (X:Cx) (pins:List (Addr × Obj)) (σ:List (Option V)) (H:Hp) (s:Shared):Prop where
 ok:X.Ok
 os:s.os = X.s₀.os
 bare:AllBare s.gens
 base:Un X.fs X.ex X.H₀ H X.s₀.heap s.heap
 loc:∃ m,s.heap.Ns X.env.locals m∧∀ (i:Nat) (x:Str) (v:V),X.N[i]? = some x→σ[i]? = some (some v)→Vis X.env.scope x→∃ u,RelV v u∧Look X.env s.heap m x u
 cell:∀ x c,X.env.cells.lookup x = some c→∃ v,s.heap.IsCell c v
 free:H X.env.locals = none
 freeC:∀ x c,X.env.cells.lookup x = some c→H c = none
 pin:∀ p ∈ X.pn ++ pins,s.heap.get? p.1 = some p.2∧H p.1 = none∧p.1 ≠ X.env.locals∧p.1 ∉ X.fs∧∀ v,p.2.data ≠ .cell v
 hok:HOk X.prog X.w H s.heap
 len:σ.length = X.N.length
section
variable {X:Cx} {pins:List (Addr × Obj)} {σ:List (Option V)} {H H':Hp} {s:Shared} {h':Heap}
theorem Cx.Ok.nofr (ok:X.Ok) {b:Addr} {o:Obj} (e:X.base.get? b = some o):b ∉ X.fs:=fun hb=>by
 have:=(ok.funs.mem hb).1
 rw [e] at this; cases this
theorem Inv.bs (I:Inv X pins σ H s):∀ b o,X.base.get? b = some o→s.heap.get? b = some o∧H b = none:=fun b o e =>
 ⟨I.base.keep b o (I.ok.bs b o e).1 (I.ok.bs b o e).2 (I.ok.nofr e) (I.ok.noex b o e),I.base.free b o (I.ok.bs b o e).1 (I.ok.bs b o e).2 (I.ok.noex b o e)⟩
theorem Inv.bk (I:Inv X pins σ H s):∀ b o,X.base.get? b = some o→s.heap.get? b = some o:=fun b o e=>(I.bs b o e).1
theorem Inv.mod (I:Inv X pins σ H s):Mod X.K X.mg X.base:=I.ok.mod
theorem Inv.kIn (I:Inv X pins σ H s):X.K.In s.heap:=I.ok.mod.kin.keeps I.bk
theorem Inv.fr (I:Inv X pins σ H s):∃ m,Fr X.base X.env.locals s.heap m :=
 let ⟨m,hn,_⟩:=I.loc
 ⟨m,hn,I.bk,Nat.le_trans I.ok.bsz I.ok.above⟩
theorem Inv.lt (I:Inv X pins σ H s):X.env.locals < s.heap.objs.size:=let ⟨_,hn,_⟩:=I.loc; hn.lt
theorem Inv.sz (I:Inv X pins σ H s):X.s₀.heap.objs.size ≤ s.heap.objs.size:=Nat.le_trans I.ok.above (Nat.le_of_lt I.lt)
theorem Inv.nofs (I:Inv X pins σ H s) {a:Addr} (h:s.heap.objs.size ≤ a):a ∉ X.fs:=fun hb=>by
 obtain ⟨_,o,ho,_⟩:=I.ok.funs.mem hb
 exact absurd (Nat.lt_of_lt_of_le (Heap.lt_size ho) (Nat.le_trans I.sz h)) (Nat.lt_irrefl _)
theorem Inv.cne (I:Inv X pins σ H s):∀ x c,X.env.cells.lookup x = some c→c ≠ X.env.locals:=fun x c e z=>by
 obtain ⟨v,o,ho,hd⟩:=I.cell x c e
 obtain ⟨m,⟨o',es,ep,ho',hd',_⟩,_⟩:=I.loc
 rw [z,ho'] at ho; cases ho; rw [hd'] at hd; cases hd
theorem Inv.funs (I:Inv X pins σ H s):s.heap.FunFrames X.base X.outer:=by
 have all:∀ (l:List Env),(∀ b ∈ frs l,b ∈ X.fs)→X.s₀.heap.FunFrames X.base l→s.heap.FunFrames X.base l:=by
  intro l
  induction l with
  | nil=>intro _ _; trivial
  | cons env r ih =>
   intro hs hl
   obtain ⟨hk,⟨L,o,hf,hn,ho,hd⟩,hr⟩:=hl
   have hL:L ∈ X.fs:=hs L (by unfold frs; rw [List.filterMap_cons,hf]; exact List.mem_cons_self)
   obtain ⟨sl,e⟩:=I.base.slot L o ho (I.ok.frf L hL) hL fun z=>I.ok.exfs L z hL
   exact ⟨hk,⟨L,_,hf,hn,e,hd⟩,ih (fun b hb=>hs b (by unfold frs; rw [List.filterMap_cons,hf]; exact List.mem_cons_of_mem _ hb)) hr⟩
 exact all X.outer (fun _ hb=>hb) I.ok.funs
theorem Inv.stack (I:Inv X pins σ H s):s.heap.FunFrames X.base X.stack:=by
 rcases I.ok.stk with e | ⟨e,hf⟩
 ·rw [e]; exact I.funs
 ·rw [e]
  obtain ⟨m,hn,_⟩:=I.loc
  refine .cons (by rw [I.ok.kind]; decide) hf hn ?_ I.funs
  exact Heap.get?_none_of_le (Nat.le_trans I.ok.bsz I.ok.above)
theorem Inv.stkSub (I:Inv X pins σ H s):∀ b ∈ frs X.stack,b ∈ X.env.locals :: X.fs:=fun b hb=>by
 rcases I.ok.stk with e | ⟨e,hf⟩
 ·rw [e] at hb; exact List.mem_cons_of_mem _ hb
 ·rw [e] at hb
  unfold frs at hb
  rw [List.filterMap_cons,hf] at hb
  exact hb
theorem Inv.stkFree (I:Inv X pins σ H s):∀ b ∈ frs X.stack,H b = none:=fun b hb=>by
 rcases List.mem_cons.mp (I.stkSub b hb) with e | hb
 ·rw [e]; exact I.free
 ·obtain ⟨_,o,ho,_⟩:=I.ok.funs.mem hb
  exact I.base.free b o ho (I.ok.frf b hb) fun z=>I.ok.exfs b z hb
theorem Inv.step {g':Array GenState} {t':Nat} {d':Drawn} {ch:List Addr} (I:Inv X pins σ H s)
  (hch:∀ b ∈ ch,(b ∈ X.ex ∨ X.s₀.heap.objs.size ≤ b)∧b ≠ X.env.locals∧(∀ x c,X.env.cells.lookup x = some c→c ≠ b)∧∀ p ∈ X.pn ++ pins,p.1 ≠ b)
  (keep:∀ b o,b ≠ X.env.locals→b ∉ X.fs→b ∉ ch→s.heap.get? b = some o→H b = none→h'.get? b = some o)
  (slot:∀ b o,b ≠ X.env.locals→b ∈ X.fs→b ∉ ch→s.heap.get? b = some o→H b = none→∃ sl,h'.get? b = some { o with slots:=sl }) (free:∀ b o,b ∉ ch→s.heap.get? b = some o→H b = none→H' b = none)
  (there:∀ b o,b ∉ ch→s.heap.get? b = some o→∃ o',h'.get? b = some o')
  (tups:∀ b xs,H b = some (.tup xs)→H' b = some (.tup xs)) (frzs:∀ b o u,H b = some (.frz o u)→H' b = some (.frz o u)) (tbls:∀ b ps,H b = some (.tbl ps)→∃ more,H' b = some (.tbl (ps ++ more)))
  (ns:∀ m,s.heap.Ns X.env.locals m→h'.Ns X.env.locals m) (hok:HOk X.prog X.w H' h') (hg:AllBare g') :
  Inv X pins σ H' { s with heap:=h',gens:=g',drawn:=d',toks:=t' }:=by
 have neL:∀ b o,X.s₀.heap.get? b = some o→b ≠ X.env.locals:=fun b o e=>Nat.ne_of_lt (Nat.lt_of_lt_of_le (Heap.lt_size e) I.ok.above)
 have neC:∀ b o,X.s₀.heap.get? b = some o→b ∉ X.ex→b ∉ ch:=fun b o e hx hb=>by
  rcases (hch b hb).1 with z | z
  ·exact hx z
  ·exact absurd (Nat.lt_of_lt_of_le (Heap.lt_size e) z) (Nat.lt_irrefl _)
 have cellK:∀ x c,X.env.cells.lookup x = some c→∀ v,s.heap.IsCell c v→h'.IsCell c v:=fun x c e v ⟨o,ho,hd⟩=>by
  have nch:c ∉ ch:=fun z=>(hch c z).2.2.1 x c e rfl
  by_cases hc:c ∈ X.fs
  ·obtain ⟨sl,q⟩:=slot c o (I.cne x c e) hc nch ho (I.freeC x c e)
   exact ⟨_,q,hd⟩
  ·exact ⟨o,keep c o (I.cne x c e) hc nch ho (I.freeC x c e),hd⟩
 refine ⟨I.ok,I.os,hg,⟨fun b o e n hb hx=>?_,fun b o e n hb hx=>?_,fun b o e n hx=>?_,fun b o e hx=>?_,fun b xs e=>tups b xs (I.base.tups b xs e),fun b o xs e=>frzs b o xs (I.base.frzs b o xs e),fun b ps e=>?_⟩,?_,fun x c e=>?_,?_,fun x c e=>?_,fun p hp=>?_,hok,I.len⟩
 ·exact keep b o (neL b o e) hb (neC b o e hx) (I.base.keep b o e n hb hx) (I.base.free b o e n hx)
 ·obtain ⟨sl,e1⟩:=I.base.slot b o e n hb hx
  obtain ⟨sl',e2⟩:=slot b _ (neL b o e) hb (neC b o e hx) e1 (I.base.free b o e n hx)
  exact ⟨sl',e2⟩
 ·obtain ⟨o',e1⟩:=I.base.there b o e hx
  exact free b o' (neC b o e hx) e1 (I.base.free b o e n hx)
 ·obtain ⟨o',e1⟩:=I.base.there b o e hx
  exact there b o' (neC b o e hx) e1
 ·obtain ⟨m1,e1⟩:=I.base.tbls b ps e
  obtain ⟨m2,e2⟩:=tbls b _ e1
  exact ⟨m1 ++ m2,by rw [e2,Array.append_assoc]⟩
 ·obtain ⟨m,hn,hl⟩:=I.loc
  refine ⟨m,ns m hn,fun i x v e1 e2 e3=>?_⟩
  obtain ⟨u,r,l⟩:=hl i x v e1 e2 e3
  refine ⟨u,r,?_⟩
  rcases l with l | ⟨k,c,e,z⟩
  ·exact .inl l
  ·exact .inr ⟨k,c,e,cellK x c e _ z⟩
 ·obtain ⟨v,z⟩:=I.cell x c e
  exact ⟨v,cellK x c e v z⟩
 ·obtain ⟨m,⟨o,_,_,ho,_⟩,_⟩:=I.loc
  exact free _ o (fun z=>(hch _ z).2.1 rfl) ho I.free
 ·obtain ⟨v,o,ho,hd⟩:=I.cell x c e
  exact free c o (fun z=>(hch c z).2.2.1 x c e rfl) ho (I.freeC x c e)
 ·obtain ⟨e,n,ne,nf,d⟩:=I.pin p hp
  have nch:p.1 ∉ ch:=fun z=>(hch p.1 z).2.2.2 p hp rfl
  exact ⟨keep p.1 p.2 ne nf nch e n,free p.1 p.2 nch e n,ne,nf,d⟩
theorem Inv.un {t':Nat} (I:Inv X pins σ H s) (u:Un X.fs [] H H' s.heap h') (hok:HOk X.prog X.w H' h'):Inv X pins σ H' { s with heap:=h',toks:=t' }:=by
 obtain ⟨m,⟨o,es,ep,ho,r⟩,_⟩:=id I.loc
 obtain ⟨sl,hL⟩:=u.any ho I.free (by simp)
 exact I.step (g':=s.gens) (d':=s.drawn) (ch:=[]) (fun _ z=>nomatch z) (fun b o _ hb _ e n=>u.keep b o e n hb (by simp)) (fun b o _ hb _ e n=>u.slot b o e n hb (by simp)) (fun b o _ e n=>u.free b o e n (by simp)) (fun b o _ e=>u.there b o e (by simp)) u.tups u.frzs u.tbls (fun m' hm=>by
  obtain ⟨o',es',ep',ho',r'⟩:=hm
  rw [ho] at ho'; cases ho'
  exact ⟨_,es',ep',hL,r'⟩) hok I.bare
theorem Inv.call {g':Array GenState} {t':Nat} {d':Drawn} {ch:List Addr} (I:Inv X pins σ H s) (u:Un (frs X.stack) ch H H' s.heap h') (hok:HOk X.prog X.w H' h') (hg:AllBare g')
  (hch:∀ b ∈ ch,(b ∈ X.ex ∨ X.s₀.heap.objs.size ≤ b)∧b ≠ X.env.locals∧(∀ x c,X.env.cells.lookup x = some c→c ≠ b)∧∀ p ∈ X.pn ++ pins,p.1 ≠ b) :
  Inv X pins σ H' { s with heap:=h',gens:=g',drawn:=d',toks:=t' }:=by
 obtain ⟨m,⟨o,es,ep,ho,r⟩,_⟩:=id I.loc
 obtain ⟨sl,hL⟩:=u.any ho I.free fun z=>(hch _ z).2.1 rfl
 exact I.step (ch:=ch) hch (fun b o hL hb hc e n=>u.keep b o e n (fun z=>(List.mem_cons.mp (I.stkSub b z)).elim hL hb) hc) (fun b o _ _ hc e n=>u.any e n hc) (fun b o hc e n=>u.free b o e n hc) (fun b o hc e=>u.there b o e hc) u.tups u.frzs u.tbls (fun m' hm=>by
  obtain ⟨o',es',ep',ho',r'⟩:=hm
  rw [ho] at ho'; cases ho'
  exact ⟨_,es',ep',hL,r'⟩) hok hg
theorem Inv.turned {t':Nat} {it:Addr} (I:Inv X pins σ H s) (k:∀ b o,b ≠ it→s.heap.get? b = some o→h'.get? b = some o) (hn:H it = none) (hL:it ≠ X.env.locals)
  (h1:it ∈ X.ex ∨ X.s₀.heap.objs.size ≤ it) (h2:∀ x c,X.env.cells.lookup x = some c→c ≠ it) (h3:∀ p ∈ X.pn ++ pins,p.1 ≠ it):Inv X pins σ H { s with heap:=h',toks:=t' }:=by
 have nit:∀ b u,H b = some u→b ≠ it:=fun b u e z=>by rw [z,hn] at e; cases e
 refine I.step (g':=s.gens) (d':=s.drawn) (ch:=[it]) (fun b hb=>?_) (fun b o _ _ hc e _=>k b o (fun z=>hc (by simp [z])) e) (fun b o _ _ hc e _=>⟨o.slots,k b o (fun z=>hc (by simp [z])) e⟩) (fun _ _ _ _ n=>n)
  (fun b o hc e=>⟨o,k b o (fun z=>hc (by simp [z])) e⟩) (fun _ _ e=>e) (fun _ _ _ e=>e) (fun b ps e=>⟨#[],by rw [e]; simp⟩) (fun m hm=>?_) (fun b u e=>?_) I.bare
 ·have e:b = it:=by simpa using hb
  subst e
  exact ⟨h1,hL,h2,h3⟩
 ·obtain ⟨o,es,ep,ho,r⟩:=hm
  exact ⟨o,es,ep,k _ o (Ne.symm hL) ho,r⟩
 ·refine (I.hok b u e).stay (fun c v hc q=>k c v ?_ q) (fun _ q=>q) fun _ _ q=>q
  rcases hc with z | z
  ·rw [z]; exact nit b u e
  ·exact nit c _ z
theorem Inv.tok (I:Inv X pins σ H s) (t:Nat):Inv X pins σ H { s with toks:=t }:=I.un (h':=s.heap) (t':=t) Un.refl I.hok
theorem Inv.kept {t':Nat} (I:Inv X pins σ H s) (k:∀ b u,s.heap.get? b = some u→h'.get? b = some u):Inv X pins σ H { s with heap:=h',toks:=t' }:=I.un (Un.kept k) (I.hok.kept k)
theorem Inv.laid {a:Addr} {o:HO} {t':Nat} (I:Inv X pins σ H s) (k:∀ b u,s.heap.get? b = some u→h'.get? b = some u) (hp:s.heap.objs.size ≤ a) (new:jcg X.prog X.w (upd H a o) h' a o) :
  Inv X pins σ (upd H a o) { s with heap:=h',toks:=t' }:=I.un (Un.laid k hp (I.hok.fresh hp)) (I.hok.laid k hp new)
theorem Inv.write {x e:Addr} {o:HO} {t':Nat} (I:Inv X pins σ H s) (mu:Mut (H x)) (he:e = x ∨ H e = some (.own x)) (k:∀ b u,b ≠ e→s.heap.get? b = some u→h'.get? b = some u) (heo:∃ u,h'.get? e = some u)
  (new:jcg X.prog X.w (upd H x o) h' x o):Inv X pins σ (upd H x o) { s with heap:=h',toks:=t' }:=I.un (Un.write mu he k heo) (I.hok.write mu he k heo new)
theorem Inv.pins_of {pins':List (Addr × Obj)} (I:Inv X pins σ H s) (h:∀ p ∈ pins',s.heap.get? p.1 = some p.2∧H p.1 = none∧p.1 ≠ X.env.locals∧p.1 ∉ X.fs∧∀ v,p.2.data ≠ .cell v):Inv X pins' σ H s :=
 ⟨I.ok,I.os,I.bare,I.base,I.loc,I.cell,I.free,I.freeC,fun p hp=>(List.mem_append.mp hp).elim (fun z=>I.pin p (List.mem_append_left _ z)) (h p),I.hok,I.len⟩
theorem jmf {N:List Str} (hN:N.Nodup) {i j:Nat} {x:Str} (a:N[i]? = some x) (b:N[j]? = some x):i = j:=by
 obtain ⟨h1,e1⟩:=List.getElem?_eq_some_iff.mp a
 obtain ⟨h2,e2⟩:=List.getElem?_eq_some_iff.mp b
 exact (List.getElem_inj hN).mp (e1.trans e2.symm)
theorem jjf {M:Model} {A:Around} {E:Value→Shared→Prop} {i:Nat} {x:Str} {v:V} {u:Value} {Q:Unit→Shared→Prop} (I:Inv X pins σ H s) (hN:X.N.Nodup) (hi:X.N[i]? = some x) (hx:Loc X.env.scope x) (r:RelV v u)
  (h:∀ s',Inv X pins (σ.set i (some v)) H s'→(∃ a,Heap.SameBut a s.heap s'.heap∧(a = X.env.locals ∨ X.env.cells.lookup x = some a))→Q () s') (hf:X.fn x = true ∨ X.env.scope.names.lookup x = some .local:=by first | exact .inl rfl | exact .inr rfl | assumption):wpAny M A (storeName X.env x u) Q E s:=by
 obtain ⟨m,hn,hl⟩:=id I.loc
 have hcls:(X.env.scope.kind == .class || (X.env.scope.kind == .module && X.env.locals != X.env.globals)) = false:=by rw [I.ok.kind]; rfl
 have hiσ:i < σ.length:=by rw [I.len]; exact (List.getElem?_eq_some_iff.mp hi).1
 have cne:=I.cne
 have tracked:∀ {a:Addr} {h':Heap},(∃ o,s.heap.get? a = some o∧H a = none)→Heap.SameBut a s.heap h'→HOk X.prog X.w H h':=fun {a h'} ha hs b ob e=>by
  obtain ⟨_,_,hfree⟩:=ha
  refine (I.hok b ob e).stay (fun c w' hc q=>(hs.2 c ?_).trans q) (fun _ q=>q) fun _ _ q=>q
  rintro rfl
  rcases hc with rfl | hc
  ·rw [hfree] at e; cases e
  ·rw [hfree] at hc; cases hc
 rcases hx with hk | hk
 ·refine wpAny_storeName_local hk hn (fun h' hn' hs=>?_) hcls
  obtain ⟨oL,_,_,hoL,_⟩:=id hn
  refine h _ ⟨I.ok,I.os,I.bare,⟨fun b o e n hb hx=>?_,fun b o e n hb hx=>?_,I.base.free,fun b o e hx=>?_,I.base.tups,I.base.frzs,I.base.tbls⟩,⟨_,hn',fun j y v' e1 e2 e3=>?_⟩,fun y c e=>?_,I.free,I.freeC,fun p hp=>?_,tracked ⟨oL,hoL,I.free⟩ hs,by simpa using I.len⟩ ⟨_,hs,.inl rfl⟩
  ·exact (hs.2 b (Nat.ne_of_lt (Nat.lt_of_lt_of_le (Heap.lt_size e) I.ok.above))).trans (I.base.keep b o e n hb hx)
  ·obtain ⟨sl,e1⟩:=I.base.slot b o e n hb hx
   exact ⟨sl,(hs.2 b (Nat.ne_of_lt (Nat.lt_of_lt_of_le (Heap.lt_size e) I.ok.above))).trans e1⟩
  ·obtain ⟨o',e1⟩:=I.base.there b o e hx
   exact ⟨o',(hs.2 b (Nat.ne_of_lt (Nat.lt_of_lt_of_le (Heap.lt_size e) I.ok.above))).trans e1⟩
  ·by_cases hj:j = i
   ·subst hj
    rw [hi] at e1; cases e1
    rw [List.getElem?_set_self hiσ] at e2
    cases e2
    exact ⟨u,r,.inl ⟨hk,by simp⟩⟩
   ·rw [List.getElem?_set_ne (Ne.symm hj)] at e2
    obtain ⟨u',r',q⟩:=hl j y v' e1 e2 e3
    refine ⟨u',r',?_⟩
    rcases q with ⟨k,e⟩ | ⟨k,c,e,z⟩
    ·refine .inl ⟨k,?_⟩
     have:y ≠ x:=fun e=>hj (jmf hN e1 (e ▸ hi))
     simp [this,e]
    ·exact .inr ⟨k,c,e,z.sameBut hs (cne y c e)⟩
  ·obtain ⟨w',z⟩:=I.cell y c e
   exact ⟨w',z.sameBut hs (cne y c e)⟩
  ·obtain ⟨e,n,ne,nf,d⟩:=I.pin p hp
   exact ⟨(hs.2 p.1 ne).trans e,n,ne,nf,d⟩
 ·have hfn:X.fn x = true:=by
   rcases hf with z | z
   ·exact z
   ·rw [z] at hk; cases hk
  obtain ⟨c,hc⟩:=I.ok.has x (.inl hk)
  obtain ⟨w',z⟩:=I.cell x c hc
  refine wpAny_storeName_cell I.ok.kind hk hc z (fun h' hc' hs=>?_)
  obtain ⟨oc,hoc,hocd⟩:=id z
  refine h { s with heap:=h' } ⟨I.ok,I.os,I.bare,⟨fun b o e n hb hx=>?_,fun b o e n hb hx=>?_,I.base.free,fun b o e hx=>?_,I.base.tups,I.base.frzs,I.base.tbls⟩,⟨m,hn.sameBut hs (Ne.symm (cne x c hc)),fun j y v' e1 e2 e3=>?_⟩,fun y c' e=>?_,I.free,I.freeC,fun p hp=>?_,tracked ⟨oc,hoc,I.freeC x c hc⟩ hs,by simpa using I.len⟩ ⟨c,hs,.inr hc⟩
  ·exact (hs.2 b (Nat.ne_of_lt (Nat.lt_of_lt_of_le (Heap.lt_size e) (I.ok.cab x c hfn hc)))).trans (I.base.keep b o e n hb hx)
  ·obtain ⟨sl,e1⟩:=I.base.slot b o e n hb hx
   exact ⟨sl,(hs.2 b (Nat.ne_of_lt (Nat.lt_of_lt_of_le (Heap.lt_size e) (I.ok.cab x c hfn hc)))).trans e1⟩
  ·obtain ⟨o',e1⟩:=I.base.there b o e hx
   exact ⟨o',(hs.2 b (Nat.ne_of_lt (Nat.lt_of_lt_of_le (Heap.lt_size e) (I.ok.cab x c hfn hc)))).trans e1⟩
  ·by_cases hj:j = i
   ·subst hj
    rw [hi] at e1; cases e1
    rw [List.getElem?_set_self hiσ] at e2
    cases e2
    exact ⟨u,r,.inr ⟨.inl hk,c,hc,hc'⟩⟩
   ·rw [List.getElem?_set_ne (Ne.symm hj)] at e2
    obtain ⟨u',r',q⟩:=hl j y v' e1 e2 e3
    refine ⟨u',r',?_⟩
    rcases q with q | ⟨k,c',e,z'⟩
    ·exact .inl q
    ·refine .inr ⟨k,c',e,z'.sameBut hs ?_⟩
     rintro rfl
     exact hj (jmf hN e1 (I.ok.inj _ _ _ e hc ▸ hi))
  ·by_cases hcc:c' = c
   ·subst hcc; exact ⟨_,hc'⟩
   ·obtain ⟨w2,z2⟩:=I.cell y c' e
    exact ⟨w2,z2.sameBut hs hcc⟩
  ·obtain ⟨e,n,ne,nf,d⟩:=I.pin p hp
   refine ⟨(hs.2 p.1 ?_).trans e,n,ne,nf,d⟩
   intro q
   rw [q,hoc] at e
   have q':oc = p.2:=Option.some.inj e
   exact d w' (by rw [← q']; exact hocd)
theorem jhq {M:Model} {A:Around} {E:Value→Shared→Prop} {i:Nat} {x:Str} {v:V} {u:Value} {Q:Unit→Shared→Prop} (I:Inv X pins σ H s) (hN:X.N.Nodup) (hi:X.N[i]? = some x) (hx:Loc X.env.scope x) (r:RelV v u)
  (h:∀ s',Inv X pins (σ.set i (some v)) H s'→Q () s') (hf:X.fn x = true ∨ X.env.scope.names.lookup x = some .local:=by first | exact .inl rfl | exact .inr rfl | assumption):wpAny M A (storeName X.env x u) Q E s :=
 jjf I hN hi hx r (fun s' I' _=>h s' I') hf
theorem Inv.call' {s':Shared} {ch:List Addr} (I:Inv X pins σ H s) (ho:s'.os = s.os) (u:Un (frs X.stack) ch H H' s.heap s'.heap) (hok:HOk X.prog X.w H' s'.heap) (hg:AllBare s'.gens)
  (hch:∀ b ∈ ch,(b ∈ X.ex ∨ X.s₀.heap.objs.size ≤ b)∧b ≠ X.env.locals∧(∀ x c,X.env.cells.lookup x = some c→c ≠ b)∧∀ p ∈ X.pn ++ pins,p.1 ≠ b):Inv X pins σ H' s':=by
 obtain ⟨h',g',d',t',o'⟩:=s'
 have e:o' = s.os:=ho
 subst e
 exact I.call (g':=g') (t':=t') (d':=d') u hok hg hch
end
abbrev XK:=Value→Option Addr→Hp→Prop
abbrev St:=List (Option V)
abbrev VK:=V→Hp→Prop
abbrev TE:=St→Hp→VK→Prop
abbrev TT:=St→Hp→(Bool→Hp→Prop)→Prop
abbrev TA:=St→Hp→(List V→Hp→Prop)→Prop
structure Ends where
 nx:St→Hp→Prop
 rt:VK
 bk:St→Hp→Prop:=fun _ _=>False
 ct:St→Hp→Prop:=fun _ _=>False
abbrev TS:=Ends→St→Hp→Prop
def EP (X:Cx) (pins:List (Addr × Obj)) (σ:St) (Q:VK) (u:Value) (s':Shared):Prop:=∃ v H',Inv X pins σ H' s'∧RelV v u∧Q v H'
def TP (X:Cx) (pins:List (Addr × Obj)) (σ:St) (Q:Bool→Hp→Prop) (b:Bool) (s':Shared):Prop:=∃ H',Inv X pins σ H' s'∧Q b H'
def AP (X:Cx) (pins:List (Addr × Obj)) (σ:St) (Q:List V→Hp→Prop) (us:List Value) (s':Shared):Prop:=∃ vs H',Inv X pins σ H' s'∧Vals vs us∧Q vs H'
def SP (X:Cx) (pins:List (Addr × Obj)) (D:Ends) (f:Flow) (s':Shared):Prop :=
 match f with
 | .next=>∃ σ' H',Inv X pins σ' H' s'∧D.nx σ' H'
 | .brk=>∃ σ' H',Inv X pins σ' H' s'∧D.bk σ' H'
 | .cont=>∃ σ' H',Inv X pins σ' H' s'∧D.ct σ' H'
 | .ret u=>∃ v σ' H',Inv X pins σ' H' s'∧RelV v u∧D.rt v H'
def PE (X:Cx) (e:Expr) (t:TE):Prop :=
 ∀ (pins:List (Addr × Obj)) (s:Shared) (σ:St) (H:Hp) (Q:VK),Inv X pins σ H s→t σ H Q→wpAny (model X.prog X.w) X.A (eval e X.env) (EP X pins σ Q) X.xe s
def PT (X:Cx) (e:Expr) (t:TT):Prop :=
 ∀ (pins:List (Addr × Obj)) (s:Shared) (σ:St) (H:Hp) (Q:Bool→Hp→Prop),Inv X pins σ H s→t σ H Q→wpAny (model X.prog X.w) X.A (isTrue e X.env (eval e X.env)) (TP X pins σ Q) X.xe s
def PW (X:Cx) (e:Expr) (t:TT):Prop :=
 ∀ (whole:Sem Value) (pins:List (Addr × Obj)) (s:Shared) (σ:St) (H:Hp) (Q:Bool→Hp→Prop),Inv X pins σ H s→t σ H Q→wpAny (model X.prog X.w) X.A (isTrue e X.env whole) (TP X pins σ Q) X.xe s
theorem PW.pt {X:Cx} {e:Expr} {t:TT} (h:PW X e t):PT X e t:=h _
def PA (X:Cx) (es:List Expr) (t:TA):Prop :=
 ∀ (pos:Pos) (pins:List (Addr × Obj)) (s:Shared) (σ:St) (H:Hp) (Q:List V→Hp→Prop),Inv X pins σ H s→t σ H Q→wpAny (model X.prog X.w) X.A (spliced (backTo pos (starEach es X.env))) (AP X pins σ Q) X.xe s
def PS (X:Cx) (st:Stmt) (t:TS):Prop :=
 ∀ (pins:List (Addr × Obj)) (s:Shared) (σ:St) (H:Hp) (D:Ends),Inv X pins σ H s→t D σ H→wpAny (model X.prog X.w) X.A (exec st X.env) (SP X pins D) X.xe s
def PSs (X:Cx) (st:List Stmt) (t:TS):Prop :=
 ∀ (pins:List (Addr × Obj)) (s:Shared) (σ:St) (H:Hp) (D:Ends),Inv X pins σ H s→t D σ H→wpAny (model X.prog X.w) X.A (execs st X.env) (SP X pins D) X.xe s
theorem thn {α:Type} {t:Sem α} {Q Q':α→Shared→Prop} {M:Model} {A:Around} {E:Value→Shared→Prop} {s:Shared} (h:wpAny M A t Q E s) (hQ:∀ a s,Q a s→Q' a s):wpAny M A t Q' E s:=wpAny_mono h hQ fun _ _ x=>x
end L2
namespace L2
open PySem PySem.Spec PyProof.Rows
section
variable {X:Cx}
def tVar (i:Nat):TE:=fun σ H Q=>∃ v,σ[i]? = some (some v)∧Q v H
def tC (v:V):TE:=fun _ H Q=>Q v H
theorem jsb {i:Nat} {x:Str} {pos:Pos} (hN:X.N[i]? = some x) (hv:Vis X.env.scope x) (hd:(x == ("__debug__":Str)) = false:=by decide) (hcd:(x == ("__classdict__":Str)) = false:=by decide):PE X (.Name x pos) (tVar i):=by
 intro pins s σ H Q I h
 obtain ⟨v,e,h⟩:=h
 obtain ⟨m,hn,hl⟩:=I.loc
 obtain ⟨u,r,l⟩:=hl i x v hN e hv
 have fin:EP X pins σ Q u s:=⟨v,H,I,r,h⟩
 rcases l with ⟨hk,hm⟩ | ⟨hk,c,hc,hcell⟩
 ·exact wpAny_Name (wpAny_loadName_local I.ok.kind hk hn hm fin) hd
 ·rcases hk with hk | hk
  ·exact wpAny_Name (wpAny_loadName_cell I.ok.kind hk hc hcell fin) hd
  ·exact wpAny_Name (wpAny_loadName_free I.ok.kind hk hc hcell fin hcd) hd
theorem jaj {i j pos}:PE X (.Constant (.int i) j pos) (tC (.int i)):=fun _ _ _ H _ I h=>wpAny_Constant_int ⟨.int i,H,I.tok _,⟨_,rfl⟩,h⟩
theorem jjn {b j pos}:PE X (.Constant (.bool b) j pos) (tC (.bl b)):=fun _ _ _ H _ I h=>Constant_bool ⟨.bl b,H,I,rfl,h⟩
theorem jsc {j pos}:PE X (.Constant .none j pos) (tC .non):=fun _ _ _ H _ I h=>Constant_none ⟨.non,H,I,rfl,h⟩
theorem jh9 {x j pos}:PE X (.Constant (.str x) j pos) (tC (.str x)):=fun _ _ _ H _ I h=>Calls.Constant_str ⟨.str x,H,I.tok _,⟨_,rfl⟩,h⟩
def Gl (X:Cx) (x:Str):Prop:=X.env.kindOf x = some .globalImplicit
theorem jla {E:Value→Shared→Prop} {pins:List (Addr × Obj)} {s:Shared} {σ:St} {H:Hp} {x:Str} {u:Value} {pos:Pos} {Q:Value→Shared→Prop} (I:Inv X pins σ H s) (hg:Gl X x) (hm:X.mg x = some u) (h:Q u s)
  (hd:(x == ("__debug__":Str)) = false:=by decide):wpAny (model X.prog X.w) X.A (eval (.Name x pos) X.env) Q E s :=
 Calls.Name_function_global I.ok.kind hg (Calls.loadGlobal_global (by rw [I.ok.glob]; exact I.mod.glob.keeps I.bk) hm h) hd
theorem jhd {E:Value→Shared→Prop} {pins:List (Addr × Obj)} {s:Shared} {σ:St} {H:Hp} {x:Str} {u:Value} {pos:Pos} {Q:Value→Shared→Prop} (I:Inv X pins σ H s) (hg:Gl X x) (hm:X.mg x = none) (hv:bootBuiltins x = some u) (h:Q u s)
  (hn:x ≠ "__name__":=by decide) (hd:(x == ("__debug__":Str)) = false:=by decide):wpAny (model X.prog X.w) X.A (eval (.Name x pos) X.env) Q E s:=by
 obtain ⟨mb,h1,h2⟩:=I.mod.blt
 exact Calls.Name_function_global I.ok.kind hg (Calls.loadGlobal_builtin (by rw [I.ok.glob]; exact I.mod.glob.keeps I.bk) hm (by rw [I.ok.blt]; exact h1.keeps I.bk) ((h2 x hn).trans hv) h) hd
theorem jcu {x:Str} {v:V} {u:Value} {pos:Pos} (hg:Gl X x) (hm:X.mg x = some u) (r:RelV v u) (hd:(x == ("__debug__":Str)) = false:=by decide):PE X (.Name x pos) (tC v) :=
 fun _ _ _ H _ I h=>jla I hg hm ⟨v,H,I,r,h⟩ hd
theorem ji8 {x:Str} {v:V} {u:Value} {pos:Pos} (hg:Gl X x) (hm:X.mg x = none) (hv:bootBuiltins x = some u) (r:RelV v u) (hn:x ≠ "__name__":=by decide) (hd:(x == ("__debug__":Str)) = false:=by decide):PE X (.Name x pos) (tC v) :=
 fun _ _ _ H _ I h=>jhd I hg hm hv ⟨v,H,I,r,h⟩ hn hd
variable {a b:Expr} {ta tb:TE} {pos:Pos}
def PC (X:Cx) (op:CmpOp) (a b:Expr) (t:TE):Prop :=
 ∀ (pins:List (Addr × Obj)) (s:Shared) (σ:St) (H:Hp) (Q:VK),Inv X pins σ H s→t σ H Q →
  wpAny (model X.prog X.w) X.A (eval a X.env) (fun v s₁=>wpAny (model X.prog X.w) X.A (eval b X.env) (fun u s₂=>wpAny (model X.prog X.w) X.A (compareOp op v u) (EP X pins σ Q) X.xe s₂) X.xe s₁) X.xe s
theorem jid (b:Expr) {op:CmpOp} (h:op ≠ .In) (h2:op ≠ .NotIn):behindInMarks op b = false:=by
 have e1:(op == CmpOp.In) = false:=by cases op <;> first | rfl | exact absurd rfl h
 have e2:(op == CmpOp.NotIn) = false:=by cases op <;> first | rfl | exact absurd rfl h2
 cases b <;> simp [behindInMarks,e1,e2]
def tB (t:TE):TT:=fun σ H Q=>t σ H fun x H1=>∃ c,x = .bl c∧Q c H1
theorem jsd {op:CmpOp} {t:TE} (h:PC X op a b t) (h1:behindInMarks op b = false:=by first | exact jid _ (by decide) (by decide) | rfl):PE X (.Compare a [op] [b] pos) t:=fun pins s σ H Q I hw=>wpAny_Compare1 (h pins s σ H Q I hw) h1
theorem pt_cmp {op:CmpOp} {t:TE} (h:PC X op a b t) (h1:behindInMarks op b = false:=by first | exact jid _ (by decide) (by decide) | rfl):PT X (.Compare a [op] [b] pos) (tB t):=by
 intro pins s σ H Q I hw
 refine wpAny_isTrue_Compare1 (thn (h pins s σ H _ I hw) fun v s1 h1=>thn h1 fun u s2 h2=>thn h2 fun c s3 ⟨x,H1,I1,r1,q1⟩=>?_) h1
 obtain ⟨d,rfl,q⟩:=q1
 cases r1
 exact wpAny_truthy_bool ⟨H1,I1,q⟩
variable {tA tB':TT} {rest:List Expr}
def tAnd (t u:TT):TT:=fun σ H Q=>t σ H fun c H1=>if c = true then u σ H1 Q else Q false H1
def tOr (t u:TT):TT:=fun σ H Q=>t σ H fun c H1=>if c = true then Q true H1 else u σ H1 Q
def tNot (t:TT):TT:=fun σ H Q=>t σ H fun c H1=>Q (!c) H1
theorem jt5 (ha:PT X a tA):PW X (.BoolOp .And [a] pos) tA:=by
 intro wh pins s σ H Q I h
 refine isTrue_and (thn (ha pins s σ H Q I h) fun c s1 e=>?_)
 cases c with
 | true=>exact isTrue_and_nil e
 | false=>exact e
theorem pw_and (ha:PT X a tA) (hb:PW X (.BoolOp .And (b :: rest) pos) tB'):PW X (.BoolOp .And (a :: b :: rest) pos) (tAnd tA tB'):=by
 intro wh pins s σ H Q I h
 refine isTrue_and (thn (ha pins s σ H _ I h) fun c s1 ⟨H1,I1,q1⟩=>?_)
 cases c with
 | true=>exact hb wh pins s1 σ H1 Q I1 q1
 | false=>exact ⟨H1,I1,q1⟩
theorem jg0 (ha:PT X a tA):PT X (.UnaryOp .Not a pos) (tNot tA):=by
 intro pins s σ H Q I h
 exact isTrue_not (ha pins s σ H (fun c H1=>Q (!c) H1) I h)
theorem jha {op} {t:TE} (h:PE X a t):PE X (.BoolOp op [a] pos) t:=fun pins s σ H Q I hw=>BoolOp_one (h pins s σ H Q I hw)
def tIf (t:TT) (ta tb:TE):TE:=fun σ H Q=>t σ H fun c H1=>if c = true then ta σ H1 Q else tb σ H1 Q
theorem jmb {c:Expr} (hc:PT X c tA) (ha:PE X a ta) (hb:PE X b tb):PE X (.IfExp c a b pos) (tIf tA ta tb):=by
 intro pins s σ H Q I h
 refine wpAny_IfExp (thn (hc pins s σ H _ I h) fun d s1 ⟨H1,I1,q1⟩=>?_)
 cases d with
 | true=>exact ha pins s1 σ H1 Q I1 q1
 | false=>exact hb pins s1 σ H1 Q I1 q1
end
end L2
namespace L2
open PySem PySem.Spec PyProof.Rows
def SqL (K:PySem.W.Frag) (H:Hp) (a:Addr) (xs:List V):Prop :=
 Rd H a (.lst xs) ∨
  ∃ (o:Obj) (its:Array Value) (n:Nat),K.lookup a = some o∧o.cls = .type "list"∧o.dict = none∧o.data = .seq its n∧its.size ≤ sizeLine∧Vals xs its.toList
def SqT (K:PySem.W.Frag) (H:Hp) (a:Addr) (xs:List V):Prop :=
 Rd H a (.tup xs) ∨
  ∃ (o:Obj) (its:Array Value) (n:Nat),K.lookup a = some o∧o.cls = .type "tuple"∧o.data = .seq its n∧its.size ≤ sizeLine∧Vals xs its.toList
def absV:Value→Option V
 | .none=>some .non
 | .bool b=>some (.bl b)
 | .int i _=>some (.int i)
 | .str x _=>some (.str x)
 | .bytes b _=>some (.byt b)
 | .float b _=>some (.flt b)
 | .ref a=>some (.ref a)
 | .type n=>some (.ty n)
 | _=>none
theorem RelV.abs {x:V} {u:Value} (r:RelV x u):absV u = some x:=by
 cases x with
 | non=>cases r; rfl
 | bl _=>cases r; rfl
 | int _=>obtain ⟨t,rfl⟩:=r; rfl
 | str _=>obtain ⟨t,rfl⟩:=r; rfl
 | byt _=>obtain ⟨t,rfl⟩:=r; rfl
 | flt _=>obtain ⟨t,rfl⟩:=r; rfl
 | ref _=>cases r; rfl
 | ty _=>cases r; rfl
theorem RelV.inj {x y:V} {u:Value} (r:RelV x u) (q:RelV y u):x = y:=Option.some.inj (r.abs.symm.trans q.abs)
theorem Vals.inj:∀ {xs ys:List V} {us:List Value},Vals xs us→Vals ys us→xs = ys
 | _,_,_,.nil,.nil=>rfl
 | _,_,_,.cons r t,.cons r' t'=>by rw [r.inj r',Vals.inj t t']
section
variable {X:Cx} {pins:List (Addr × Obj)} {σ:St} {H:Hp} {s:Shared} {a:Addr} {xs ys:List V}
theorem SqL.of {K:PySem.W.Frag} (h:H a = some (.lst xs)):SqL K H a xs:=.inl (.inl h)
theorem SqT.of {K:PySem.W.Frag} (h:H a = some (.tup xs)):SqT K H a xs:=.inl (.inl h)
theorem Inv.list (I:Inv X pins σ H s) (h:SqL X.K H a xs):∃ its:List Value,Vals xs its∧PlainL s.heap a its.toArray∧xs.length ≤ sizeLine:=by
 rcases h with h | ⟨o,its,n,hk,hc,hd,hs,hz,r⟩
 ·obtain ⟨z,its,n,r,e⟩:=h.ok I.hok
  exact ⟨its,r,⟨_,n,e,rfl,rfl,rfl⟩,z⟩
 ·refine ⟨its.toList,r,⟨o,n,I.kIn a o hk,hc,hd,by simpa using hs⟩,?_⟩
  have e:=r.length
  simp only [Array.length_toList] at e
  omega
theorem Inv.tuple (I:Inv X pins σ H s) (h:SqT X.K H a xs):∃ its:List Value,Vals xs its∧IsTup s.heap a its.toArray∧xs.length ≤ sizeLine:=by
 rcases h with h | ⟨o,its,n,hk,hc,hs,hz,r⟩
 ·obtain ⟨z,its,r,p⟩:=h.ok I.hok
  exact ⟨its,r,p,z⟩
 ·refine ⟨its.toList,r,⟨o,I.kIn a o hk,hc,n,by simpa using hs⟩,?_⟩
  have e:=r.length
  simp only [Array.length_toList] at e
  omega
theorem Inv.list_inj (I:Inv X pins σ H s) (h:SqL X.K H a xs) (h':SqL X.K H a ys):xs = ys:=by
 obtain ⟨its,r,⟨o,n,e,_,_,d⟩,_⟩:=I.list h
 obtain ⟨its',r',⟨o',n',e',_,_,d'⟩,_⟩:=I.list h'
 rw [e] at e'; cases e'
 rw [d] at d'
 injection d' with d1 _
 have:its = its':=by simpa using congrArg Array.toList d1
 subst this
 exact r.inj r'
theorem Inv.tuple_inj (I:Inv X pins σ H s) (h:SqT X.K H a xs) (h':SqT X.K H a ys):xs = ys:=by
 obtain ⟨its,r,⟨o,e,_,n,d⟩,_⟩:=I.tuple h
 obtain ⟨its',r',⟨o',e',_,n',d'⟩,_⟩:=I.tuple h'
 rw [e] at e'; cases e'
 rw [d] at d'
 injection d' with d1 _
 have:its = its':=by simpa using congrArg Array.toList d1
 subst this
 exact r.inj r'
end
abbrev Cx.wish (X:Cx) (E:Value→Shared→Prop):Cx:={ X with xe:=E }
abbrev Cx.nox (X:Cx):Cx:=X.wish fun _ _=>False
theorem Cx.Ok.wish {X:Cx} (ok:X.Ok) (E:Value→Shared→Prop):(X.wish E).Ok :=
 ⟨ok.mod,ok.kind,ok.glob,ok.blt,ok.above,ok.inj,ok.has,ok.cab,ok.hd,ok.frames,ok.stk,ok.exf,ok.bs,ok.bsz,ok.noex,ok.exfs,ok.funs,ok.frf⟩
theorem Cx.Ok.unwish {X:Cx} {E:Value→Shared→Prop} (ok:(X.wish E).Ok):X.Ok :=
 ⟨ok.mod,ok.kind,ok.glob,ok.blt,ok.above,ok.inj,ok.has,ok.cab,ok.hd,ok.frames,ok.stk,ok.exf,ok.bs,ok.bsz,ok.noex,ok.exfs,ok.funs,ok.frf⟩
section
variable {X:Cx} {pins:List (Addr × Obj)} {σ:St} {H:Hp} {s:Shared} {E:Value→Shared→Prop}
theorem Inv.wish (I:Inv X pins σ H s) (E:Value→Shared→Prop):Inv (X.wish E) pins σ H s:=⟨I.ok.wish E,I.os,I.bare,I.base,I.loc,I.cell,I.free,I.freeC,I.pin,I.hok,I.len⟩
theorem Inv.unwish (I:Inv (X.wish E) pins σ H s):Inv X pins σ H s:=⟨I.ok.unwish,I.os,I.bare,I.base,I.loc,I.cell,I.free,I.freeC,I.pin,I.hok,I.len⟩
theorem SP.unwish {D:Ends} {f:Flow} {s':Shared} (h:SP (X.wish E) pins D f s'):SP X pins D f s':=by
 cases f with
 | next=>obtain ⟨σ',H',I,q⟩:=h; exact ⟨σ',H',I.unwish,q⟩
 | brk=>obtain ⟨σ',H',I,q⟩:=h; exact ⟨σ',H',I.unwish,q⟩
 | cont=>obtain ⟨σ',H',I,q⟩:=h; exact ⟨σ',H',I.unwish,q⟩
 | ret u=>obtain ⟨v,σ',H',I,r,q⟩:=h; exact ⟨v,σ',H',I.unwish,r,q⟩
theorem PSs.nox {st:List Stmt} {t:TS} (h:PSs X.nox st t):PSs X st t:=fun pins s σ H D I hw =>
 wpAny_mono (h pins s σ H D (I.wish _) hw) (fun _ _ q=>q.unwish) fun _ _ z=>False.elim z
end
section
variable {X:Cx} {st:Stmt} {rest:List Stmt} {t u:TS} {e:Expr} {te:TE} {pos:Pos}
def jau:TS:=fun D σ H=>D.nx σ H
def tSeq (t u:TS):TS:=fun D σ H=>t { D with nx:=u D } σ H
theorem jcd:PSs X [] jau:=fun _ _ σ H _ I h=>wpAny_execs_nil ⟨σ,H,I,h⟩
theorem jah (h1:PS X st t) (h2:PSs X rest u):PSs X (st :: rest) (tSeq t u):=by
 intro pins s σ H D I h
 refine wpAny_execs_cons (thn (h1 pins s σ H { D with nx:=u D } I h) fun f s1 q=>?_)
 cases f with
 | next =>
  obtain ⟨σ',H',I',q⟩:=q
  exact h2 pins s1 σ' H' D I' q
 | ret v=>exact q
 | brk=>exact q
 | cont=>exact q
theorem jb9 (h1:PS X st t):PSs X [st] t:=by
 intro pins s σ H D I h
 refine wpAny_execs_cons (thn (h1 pins s σ H D I h) fun f s1 q=>?_)
 cases f with
 | next=>exact wpAny_execs_nil q
 | ret v=>exact q
 | brk=>exact q
 | cont=>exact q
theorem Inv.quiet {pins:List (Addr × Obj)} {σ:St} {H:Hp} {s:Shared} (I:Inv X pins σ H s):interactive X.env = false:=by simp [interactive,I.ok.kind]
def jav (te:TE):TS:=fun D σ H=>te σ H fun _ H1=>D.nx σ H1
theorem jc1 (he:PE X e te) (hs:swapsWith e none pos.line X.env = pure false:=by rfl):PS X (.Expr e pos) (jav te):=by
 intro pins s σ H D I h
 exact wpAny_Expr_any (thn (he pins s σ H _ I h) fun v s1 ⟨x,H1,I1,r1,q1⟩=>⟨σ,H1,I1,q1⟩) I.quiet hs
def tRet (te:TE):TS:=fun D σ H=>te σ H D.rt
theorem jbq (he:PE X e te):PS X (.Return (some e) pos) (tRet te):=by
 intro pins s σ H D I h
 exact wpAny_Return_some (thn (he pins s σ H _ I h) fun v s1 ⟨x,H1,I1,r1,q1⟩=>⟨x,σ,H1,I1,r1,q1⟩)
def jb0:TS:=fun D _ H=>D.rt .non H
def tIfS (c:TT) (t u:TS):TS:=fun D σ H=>c σ H fun b H1=>if b = true then t D σ H1 else u D σ H1
theorem jdz {c:Expr} {a b:List Stmt} {tc:TT} (hc:PT X c tc) (ha:PSs X a t) (hb:PSs X b u):PS X (.If c a b pos) (tIfS tc t u):=by
 intro pins s σ H D I h
 refine wpAny_If (thn (hc pins s σ H _ I h) fun d s1 ⟨H1,I1,q1⟩=>?_)
 cases d with
 | true=>exact ha pins s1 σ H1 D I1 q1
 | false=>exact hb pins s1 σ H1 D I1 q1
def tNever:TS:=fun _ _ _=>False
theorem jec:PS X st tNever:=fun _ _ _ _ _ _ h=>h.elim
end
abbrev TG:=V→St→Hp→(St→Hp→Prop)→Prop
abbrev TGs:=List V→St→Hp→(St→Hp→Prop)→Prop
def PG (X:Cx) (target:Expr) (t:TG):Prop :=
 ∀ (pins:List (Addr × Obj)) (s:Shared) (σ:St) (H:Hp) (v:V) (u:Value) (Q:St→Hp→Prop),Inv X pins σ H s→RelV v u→t v σ H Q →
  wpAny (model X.prog X.w) X.A (assign target X.env u) (fun _ s'=>∃ σ' H',Inv X pins σ' H' s'∧Q σ' H') X.xe s
def PGs (X:Cx) (ts:List Expr) (t:TGs):Prop :=
 ∀ (pins:List (Addr × Obj)) (s:Shared) (σ:St) (H:Hp) (vs:List V) (us:List Value) (Q:St→Hp→Prop),Inv X pins σ H s→Vals vs us→t vs σ H Q →
  wpAny (model X.prog X.w) X.A (assignInOrder ((assignEach ts X.env).map (·.2)) us) (fun _ s'=>∃ σ' H',Inv X pins σ' H' s'∧Q σ' H') X.xe s
abbrev TSet:=V→V→V→Hp→(Hp→Prop)→Prop
def PSet (X:Cx) (t:TSet):Prop :=
 ∀ (pins:List (Addr × Obj)) (s:Shared) (σ:St) (H:Hp) (o i v:V) (ov iv u:Value) (Q:Hp→Prop),Inv X pins σ H s→RelV o ov→RelV i iv→RelV v u→t o i v H Q →
  wpAny (model X.prog X.w) X.A (setItem ov iv u) (fun _ s'=>∃ H',Inv X pins σ H' s'∧Q H') X.xe s
abbrev TIp:=V→V→Hp→VK→Prop
def PIp (X:Cx) (op:Operator) (t:TIp):Prop :=
 ∀ (pins:List (Addr × Obj)) (s:Shared) (σ:St) (H:Hp) (x y:V) (v u:Value) (Q:VK),Inv X pins σ H s→RelV x v→RelV y u→t x y H Q →
  wpAny (model X.prog X.w) X.A (inplaceOp op v u) (EP X pins σ Q) X.xe s
section
variable {X:Cx} {pos:Pos}
def jak (i:Nat):TG:=fun v σ H Q=>Q (σ.set i (some v)) H
theorem jbb {i:Nat} {x:Str} (hN:X.N.Nodup) (hi:X.N[i]? = some x) (hx:Loc X.env.scope x) (hf:X.fn x = true ∨ X.env.scope.names.lookup x = some .local:=by first | exact .inl rfl | exact .inr rfl | assumption):PG X (.Name x pos) (jak i):=by
 intro pins s σ H v u Q I r h
 exact wpAny_assign_Name (jhq I hN hi hx r (fun s' I'=>⟨_,H,I',h⟩) hf)
def gNil:TGs:=fun vs σ H Q=>vs = []∧Q σ H
def gCons (t:TG) (u:TGs):TGs:=fun vs σ H Q=>∃ v r,vs = v :: r∧t v σ H fun σ' H'=>u r σ' H' Q
theorem jt8:PGs X [] gNil:=by
 intro pins s σ H vs us Q I r h
 obtain ⟨e,h⟩:=h
 subst e
 cases r
 exact assignInOrder_nil ⟨σ,H,I,h⟩
theorem jqz {e:Expr} {es:List Expr} {t:TG} {u:TGs} (h1:PG X e t) (h2:PGs X es u)
  (hs:(assignEach (e :: es) X.env).map (·.2) = assign e X.env :: (assignEach es X.env).map (·.2):=by rfl):PGs X (e :: es) (gCons t u):=by
 intro pins s σ H vs us Q I r h
 obtain ⟨v,vr,e1,h⟩:=h
 subst e1
 cases r with
 | cons r rr =>
  rw [hs]
  refine assignInOrder_cons (thn (h1 pins s σ H _ _ _ I r h) fun _ s1 ⟨σ1,H1,I1,q1⟩=>?_)
  exact h2 pins s1 σ1 H1 _ _ Q I1 rr q1
def gTup (K:PySem.W.Frag) (n:Nat) (t:TGs):TG:=fun v σ H Q=>∃ a xs,v = .ref a∧SqT K H a xs∧xs.length = n∧t xs σ H Q
theorem pg_tup {es:List Expr} {k:Nat} {t:TGs} {n:Nat} (hc:X.calm = true) (h:PGs X es t)
  (hn:(assignEach es X.env).length = n:=by rfl) (hst:(assignEach es X.env).findIdx? (·.1) = none:=by rfl):PG X (.Tuple es k pos) (gTup X.K n t):=by
 intro pins s σ H v u Q I r hw
 obtain ⟨a,xs,e1,hq,hl,hw⟩:=hw
 subst e1
 cases r
 obtain ⟨its,rv,ht,hz⟩:=I.tuple hq
 refine assign_Tuple_tuple (I.ok.hd hc) ht (by simp [hn,← hl,rv.length]) hst fun h' hx=>?_
 have I1:Inv X pins σ H { s with heap:=h' }:=I.kept (t':=s.toks) fun b o e=>hx b o (Nat.ne_of_lt (Heap.lt_size e)) e
 exact h pins _ σ H xs _ Q I1 (by simpa using rv) hw
def gSub (to ti:TE) (t:TSet):TG:=fun v σ H Q=>to σ H fun o H1=>ti σ H1 fun i H2=>t o i v H2 fun H3=>Q σ H3
theorem jm9 {o i:Expr} {to ti:TE} {t:TSet} (ho:PE X o to) (hi:PE X i ti) (hs:PSet X t)
  (ha:∀ v,assign (.Subscript o i pos) X.env v = (do
   let ov ← holding [v] (eval o X.env)
   let iv ← holding [v,ov] (eval i X.env)
   standAt pos
   holding [v,ov,iv] (setItem ov iv v)
   release [v,ov,iv] []):=by intro _; rfl):PG X (.Subscript o i pos) (gSub to ti t):=by
 intro pins s σ H v u Q I r h
 rw [ha]
 refine wpAny_bind (wpAny_holding (thn (ho pins s σ H _ I h) fun ov s1 ⟨x,H1,I1,r1,q1⟩=>?_))
 refine wpAny_bind (wpAny_holding (thn (hi pins s1 σ H1 _ I1 q1) fun iv s2 ⟨y,H2,I2,r2,q2⟩=>?_))
 refine wpAny_bind (wpAny_standAt (wpAny_bind (wpAny_holding (thn (hs pins s2 σ H2 x y v ov iv u _ I2 r1 r2 r q2) fun _ s3 ⟨H3,I3,q3⟩=>?_))))
 exact wpAny_release ⟨σ,H3,I3,q3⟩
def tAsg (te:TE) (g:TG):TS:=fun D σ H=>te σ H fun x H1=>g x σ H1 D.nx
theorem jjl {tg e:Expr} {te:TE} {g:TG} (he:PE X e te) (hg:PG X tg g) (hs:swapsWithSole [tg] e pos.line X.env = pure false:=by rfl) (hw:swappedStores [tg] e X.env = pure none:=by rfl)
  (h1:(assignEach [tg] X.env).map (·.2) = [assign tg X.env]:=by rfl):PS X (.Assign [tg] e pos) (tAsg te g):=by
 intro pins s σ H D I h
 refine wpAny_Assign_stores (thn (he pins s σ H _ I h) fun v s1 ⟨x,H1,I1,r1,q1⟩=>?_) hs hw
 rw [h1]
 exact thn (hg pins s1 σ H1 x v _ I1 r1 q1) fun _ s2 q=>q
theorem jbf {i:Nat} {x:Str} {e:Expr} {te:TE} {pos':Pos} (hN:X.N.Nodup) (hi:X.N[i]? = some x) (hx:Loc X.env.scope x) (he:PE X e te) (hs:swapsWith e (some (.Name x pos')) pos.line X.env = pure false:=by rfl) (hf:X.fn x = true ∨ X.env.scope.names.lookup x = some .local:=by first | exact .inl rfl | exact .inr rfl | assumption) :
  PS X (.Assign [.Name x pos'] e pos) (tAsg te (jak i)):=by
 intro pins s σ H D I h
 refine wpAny_Assign_Name (thn (he pins s σ H _ I h) fun v s1 ⟨y,H1,I1,r1,q1⟩=>?_) hs
 exact jhq I1 hN hi hx r1 (fun s2 I2=>⟨_,H1,I2,q1⟩) hf
def tAug (i:Nat) (te:TE) (ti:TIp):TS:=fun D σ H=>∃ x,σ[i]? = some (some x)∧te σ H fun y H1=>ti x y H1 fun z H2=>D.nx (σ.set i (some z)) H2
theorem ps_aug {i:Nat} {x:Str} {e:Expr} {te:TE} {op:Operator} {ti:TIp} {pos':Pos} (hN:X.N.Nodup) (hi:X.N[i]? = some x) (hx:Loc X.env.scope x) (he:PE X e te) (ho:PIp X op ti) (hf:X.fn x = true ∨ X.env.scope.names.lookup x = some .local:=by first | exact .inl rfl | exact .inr rfl | assumption) :
  PS X (.AugAssign (.Name x pos') op e pos) (tAug i te ti):=by
 intro pins s σ H D I h
 obtain ⟨v,e1,h⟩:=h
 obtain ⟨m,hn,hl⟩:=I.loc
 have vis:Vis X.env.scope x:=by rcases hx with k | k; exact .inl k; exact .inr (.inl k)
 obtain ⟨u,r,l⟩:=hl i x v hi e1 vis
 refine wpAny_AugAssign_Name ?_
 have go:wpAny (model X.prog X.w) X.A (eval e X.env) (fun w s₂=>wpAny (model X.prog X.w) X.A (inplaceOp op u w) (fun r s₃=>wpAny (model X.prog X.w) X.A (storeName X.env x r) (fun _=>SP X pins D .next) X.xe s₃) X.xe s₂) X.xe s:=by
  refine thn (he pins s σ H _ I h) fun w s1 ⟨y,H1,I1,r1,q1⟩=>?_
  refine thn (ho pins s1 σ H1 v y u w _ I1 r r1 q1) fun z s2 ⟨zv,H2,I2,r2,q2⟩=>?_
  exact jhq I2 hN hi hx r2 (fun s3 I3=>⟨_,H2,I3,q2⟩) hf
 rcases l with ⟨hk,hm⟩ | ⟨hk,c,hc,hcell⟩
 ·exact wpAny_loadName_local I.ok.kind hk hn hm go
 ·rcases hk with hk | hk
  ·exact wpAny_loadName_cell I.ok.kind hk hc hcell go
  ·rcases hx with k | k
   ·have:X.env.scope.names.lookup x = some .free:=hk
    rw [k] at this; cases this
   ·have:X.env.scope.names.lookup x = some .free:=hk
    rw [k] at this; cases this
def jb6 (to ti te:TE) (tget:V→V→Hp→VK→Prop) (tip:TIp) (tset:TSet):TS:=fun D σ H=>to σ H fun o H1=>ti σ H1 fun i H2=>tget o i H2 fun x H3=>te σ H3 fun y H4=>tip x y H4 fun z H5=>tset o i z H5 fun H6=>D.nx σ H6
def PGet (X:Cx) (t:V→V→Hp→VK→Prop):Prop :=
 ∀ (pins:List (Addr × Obj)) (s:Shared) (σ:St) (H:Hp) (o i:V) (ov iv:Value) (Q:VK),Inv X pins σ H s→RelV o ov→RelV i iv→t o i H Q →
  wpAny (model X.prog X.w) X.A (getItem ov iv) (EP X pins σ Q) X.xe s
theorem jor {o i e:Expr} {to ti te:TE} {tget:V→V→Hp→VK→Prop} {tip:TIp} {tset:TSet} {op:Operator} {tpos:Pos} (ho:PE X o to) (hi:PE X i ti) (hg:PGet X tget) (he:PE X e te) (hp:PIp X op tip) (hs:PSet X tset)
  (ha:∀ ov iv new,augStore i ov iv new = (do holding [new,ov,iv] (setItem ov iv new); release [new,ov,iv] []; pure .next):=by intros; rfl):PS X (.AugAssign (.Subscript o i tpos) op e pos) (jb6 to ti te tget tip tset):=by
 intro pins s σ H D I h
 refine wpAny_AugAssign_SubscriptAny (thn (ho pins s σ H _ I h) fun ov s1 ⟨x1,H1,I1,r1,q1⟩=>?_) ha
 refine thn (hi pins s1 σ H1 _ I1 q1) fun iv s2 ⟨x2,H2,I2,r2,q2⟩=>?_
 refine thn (hg pins s2 σ H2 x1 x2 ov iv _ I2 r1 r2 q2) fun old s3 ⟨x3,H3,I3,r3,q3⟩=>?_
 refine thn (he pins s3 σ H3 _ I3 q3) fun v s4 ⟨x4,H4,I4,r4,q4⟩=>?_
 refine thn (hp pins s4 σ H4 x3 x4 old v _ I4 r3 r4 q4) fun new s5 ⟨x5,H5,I5,r5,q5⟩=>?_
 exact thn (hs pins s5 σ H5 x1 x2 x5 ov iv new _ I5 r1 r2 r5 q5) fun _ s6 ⟨H6,I6,q6⟩=>⟨σ,H6,I6,q6⟩
end
section
variable {X:Cx} {pos:Pos}
def jrx (c:TT) (tb:TS):TS:=fun D σ H=>∃ W:Nat→St→Hp→Prop,(∃ m,W m σ H)∧∀ m σ H,W m σ H →
 c σ H fun b H1=>if b = true then ∃ N:St→Hp→Prop,(∀ σ' H',N σ' H'→∃ m',m' < m∧W m' σ' H')∧tb { D with nx:=N,ct:=N,bk:=D.nx } σ H1 else D.nx σ H1
theorem jfh {c:Expr} {body:List Stmt} {tc:TT} {tb:TS} (hp:PassesOwn (model X.prog X.w) X.A X.env X.xe) (hc:PT X c tc) (hb:PSs X body tb):PS X (.While c body [] pos) (jrx tc tb):=by
 intro pins s σ H D I h
 obtain ⟨W,⟨m0,w0⟩,turn⟩:=h
 refine wpAny_While (codeAny_whileLoop (fun n s'=>∃ σ' H',Inv X pins σ' H' s'∧W n σ' H') ?_ m0 ⟨σ,H,I,w0⟩)
 rintro n s1 ⟨σ1,H1,I1,w1⟩
 refine wpAny_passesOwn hp (thn (hc pins s1 σ1 H1 _ I1 (turn n σ1 H1 w1)) fun b s2 ⟨H2,I2,q2⟩=>?_)
 cases b with
 | true =>
  obtain ⟨N,hN,q2⟩:=q2
  rw [if_pos rfl]
  refine wpAny_passesOwn hp (thn (hb pins s2 σ1 H2 _ I2 q2) fun f s3 q3=>?_)
  cases f with
  | next =>
   obtain ⟨σ3,H3,I3,n3⟩:=q3
   obtain ⟨m',hm,w3⟩:=hN σ3 H3 n3
   exact ⟨m',hm,σ3,H3,I3,w3⟩
  | cont =>
   obtain ⟨σ3,H3,I3,n3⟩:=q3
   obtain ⟨m',hm,w3⟩:=hN σ3 H3 n3
   exact ⟨m',hm,σ3,H3,I3,w3⟩
  | brk=>exact q3
  | ret v=>exact q3
 | false =>
  rw [if_neg Bool.false_ne_true]
  exact wpAny_execs_nil ⟨σ1,H2,I2,q2⟩
end
structure It where
 go:Nat→Hp→Prop
 yld:Nat→Hp→V→Hp→Prop
 stop:Nat→Hp→Prop
def FpOk (X:Cx) (pins:List (Addr × Obj)) (H:Hp) (b:Addr):Prop :=
 H b = none∧b ≠ X.env.locals∧b ∉ X.fs∧(b ∈ X.ex ∨ X.s₀.heap.objs.size ≤ b)∧(∀ x c,X.env.cells.lookup x = some c→c ≠ b)∧∀ p ∈ X.pn ++ pins,p.1 ≠ b
theorem Inv.fpOk {X:Cx} {pins:List (Addr × Obj)} {σ:St} {H H':Hp} {s:Shared} {b:Addr} (I:Inv X pins σ H s) (hb:s.heap.objs.size ≤ b) (hn:H' b = none):FpOk X pins H' b:=by
 refine ⟨hn,Nat.ne_of_gt (Nat.lt_of_lt_of_le I.lt hb),I.nofs hb,.inr (Nat.le_trans I.sz hb),fun x c e z=>?_,fun p hp z=>?_⟩
 ·obtain ⟨v,q⟩:=I.cell x c e
  exact absurd (Nat.lt_of_lt_of_le q.lt (by rw [z]; exact hb)) (Nat.lt_irrefl _)
 ·exact absurd (Nat.lt_of_lt_of_le (Heap.lt_size (I.pin p hp).1) (by rw [z]; exact hb)) (Nat.lt_irrefl _)
structure Turn (P:Program) (w:World) (K:PySem.W.Frag) (tg:Expr) (J:It) (fp:List Addr) (it:Addr) (tn:Nat→Heap→Prop):Prop where
 mem:it ∈ fp
 obj:∀ i h,tn i h→∀ b ∈ fp,∃ o,h.get? b = some o∧∀ v,o.data ≠ .cell v
 keep:∀ i h h',tn i h→(∀ b ∈ fp,∀ o,h.get? b = some o→h'.get? b = some o)→tn i h'
 item:∀ (X:Cx),X.prog = P→X.w = w→X.K = K→X.calm = true→∀ (i:Nat) (pins:List (Addr × Obj)) (s:Shared) (σ:St) (H:Hp) (E:Value→Shared→Prop),Inv X pins σ H s→(∀ b ∈ fp,FpOk X pins H b)→tn i s.heap→J.go i H →
  wpAny (model P w) X.A (pyNext (.ref it)) (fun r s1=>∃ u,r = some u ∧
   wpAny (model P w) X.A (letOwnedTupleGo tg (.ref it) u) (fun _ s2=>∃ x H',Inv X pins σ H' s2∧RelV x u∧J.yld i H x H'∧tn (i + 1) s2.heap∧∀ b ∈ fp,H' b = none) E s1) E s
 done:∀ (X:Cx),X.prog = P→X.w = w→X.K = K→X.calm = true→∀ (i:Nat) (pins:List (Addr × Obj)) (s:Shared) (σ:St) (H:Hp) (E:Value→Shared→Prop),Inv X pins σ H s→(∀ b ∈ fp,FpOk X pins H b)→tn i s.heap→J.stop i H →
  wpAny (model P w) X.A (pyNext (.ref it)) (fun r s1=>r = none∧Inv X pins σ H s1) E s
 self:∀ (A:Around) (i:Nat) (s:Shared) (Q:Value→Shared→Prop) (E:Value→Shared→Prop),tn i s.heap→Q (.ref it) s→wpAny (model P w) A (pyIter (.ref it)) Q E s
abbrev TI:=St→Hp→(It→Hp→Prop)→Prop
def PIE (X:Cx) (pins:List (Addr × Obj)) (σ:St) (tg:Expr) (R:It→Hp→Prop) (itv:Value) (s2:Shared):Prop :=
 ∃ (it:Addr) (fp:List Addr) (tn:Nat→Heap→Prop) (J:It) (H':Hp),itv = .ref it∧Inv X pins σ H' s2∧Turn X.prog X.w X.K tg J fp it tn∧tn 0 s2.heap∧(∀ b ∈ fp,FpOk X pins H' b)∧R J H'
def PI (X:Cx) (tg iter:Expr) (wi:TI):Prop :=
 ∀ (pins:List (Addr × Obj)) (s:Shared) (σ:St) (H:Hp) (R:It→Hp→Prop),Inv X pins σ H s→wi σ H R →
  wpAny (model X.prog X.w) X.A (eval iter X.env) (fun v s1=>wpAny (model X.prog X.w) X.A (pyIter v) (PIE X pins σ tg R) X.xe s1) X.xe s
theorem go_of {M:Model} {A:Around} {E:Value→Shared→Prop} {s:Shared} {tg:Expr} {it:Addr} {u:Value} {o:Obj} {n:String} {vs:Array Value} {Q:Unit→Shared→Prop} (ho:s.heap.get? it = some o) (hc:o.cls = .type n) (hd:o.data = .fields vs)
    (hn:["enumerate","zip","dict_itemiterator","dict_reverseitemiterator","odict_iterator","itertools.zip_longest","itertools.pairwise"].contains n = false) (hQ:Q () s):wpAny M A (letOwnedTupleGo tg (.ref it) u) Q E s:=by
  unfold letOwnedTupleGo
  cases tg <;> first
    | exact wpAny_pure hQ
    | (cases u <;> first
        | exact wpAny_pure hQ
        | (refine wpAny_bind (wpAny_load ho ?_)
           rw [hc,hd]
           show wpAny M A (if (["enumerate","zip","dict_itemiterator","dict_reverseitemiterator","odict_iterator","itertools.zip_longest","itertools.pairwise"].contains n && vs[0]? == some (rawInt _)) = true then _ else _) Q E s
           rw [if_neg (by intro h; rw [hn,Bool.false_and] at h; cases h)]
           exact wpAny_pure hQ))
def Itl (K:PySem.W.Frag) (a:Addr):It :=
 ⟨fun i H=>∃ xs x,SqL K H a xs∧xs[i]? = some x,fun i H x H'=>H' = H∧∀ xs,SqL K H a xs→xs[i]? = some x,fun i H=>∃ xs,SqL K H a xs∧xs.length ≤ i⟩
def Itr (lo:Int) (n:Nat):It:=⟨fun i _=>i < n,fun i H x H'=>H' = H∧x = .int (lo + i),fun i _=>n ≤ i⟩
theorem jnw {P:Program} {w:World} {K:PySem.W.Frag} {tg:Expr} (a it:Addr):Turn P w K tg (Itl K a) [it] it (fun i h=>h.IsListIter it a i) where
 mem:=by simp
 obj:=fun i h st b hb=>by
  have e:b = it:=by simpa using hb
  subst e
  obtain ⟨o,e,c,d⟩:=st
  exact ⟨o,e,fun v z=>by rw [d] at z; cases z⟩
 keep:=fun i h h' st k=>st.at fun o e=>k it (by simp) o e
 item:=by
  intro X hP hw hK hc i pins s σ H E I hf st hg
  subst hP hw hK
  obtain ⟨xs,x,hq,hx⟩:=hg
  obtain ⟨its,rv,p,hz⟩:=I.list hq
  obtain ⟨u,hu,ru⟩:=rv.get hx
  obtain ⟨f0,f1,f2,f3,f4,f5⟩:=hf it (by simp)
  refine wpAny_pyNext_list_item st p.isList (x:=u) (by simpa using hu) fun h' st' sb=>?_
  have I1:Inv X pins σ H { s with heap:=h' }:=I.turned (t':=s.toks) (fun b o hb e=>(sb.2 b hb).trans e) f0 f1 f3 f4 f5
  obtain ⟨o,e,c,d⟩:=id st'
  exact ⟨u,rfl,go_of (s:={ s with heap:=h' }) e c d (by decide) ⟨x,H,I1,ru,⟨rfl,fun ys hy=>by rw [I.list_inj hy hq]; exact hx⟩,st',fun b hb=>(hf b hb).1⟩⟩
 done:=by
  intro X hP hw hK hc i pins s σ H E I hf st hg
  subst hP hw hK
  obtain ⟨xs,hq,hx⟩:=hg
  obtain ⟨its,rv,p,hz⟩:=I.list hq
  obtain ⟨f0,f1,f2,f3,f4,f5⟩:=hf it (by simp)
  have hl:=rv.length
  exact wpAny_pyNext_list_end (I.ok.hd hc) st p.isList (by simp; omega) fun h' eb=>⟨rfl,I.turned (t':=s.toks) (fun b o hb e=>eb b o hb e) f0 f1 f3 f4 f5⟩
 self:=fun _ _ _ _ _ st h=>wpAny_pyIter_listiter st h
theorem jms {P:Program} {w:World} {K:PySem.W.Frag} {tg:Expr} (it:Addr) (lo:Int) (n:Nat):Turn P w K tg (Itr lo n) [it] it (fun i h=>IsRangeIter h it (lo + (i:Nat) * 1) ((n:Int) - (i:Nat)) 1) where
 mem:=by simp
 obj:=fun i h st b hb=>by
  have e:b = it:=by simpa using hb
  subst e
  exact ⟨_,st,fun v z=>by
   have z':Data.fields _ = Data.cell v:=z
   cases z'⟩
 keep:=fun i h h' st k=>k it (by simp) _ st
 item:=by
  intro X hP hw hK hc i pins s σ H E I hf st hg
  subst hP hw hK
  obtain ⟨f0,f1,f2,f3,f4,f5⟩:=hf it (by simp)
  have W:=Walks.range (prog:=X.prog) (w:=X.w) (I.ok.hd hc) it lo 1 n
  refine W.item i s _ _ hg st fun v h' tk hv st' kk=>?_
  obtain ⟨t,rfl⟩:=hv
  have I1:Inv X pins σ H { s with heap:=h',toks:=tk }:=I.turned (fun b o hb e=>kk b o (by simpa using hb) e) f0 f1 f3 f4 f5
  refine ⟨_,rfl,go_of (s:={ s with heap:=h',toks:=tk }) (n:="range_iterator") st' rfl rfl (by decide) ⟨.int (lo + i),H,I1,⟨t,?_⟩,⟨rfl,rfl⟩,st',fun b hb=>(hf b hb).1⟩⟩
  rw [Int.mul_one]
 done:=by
  intro X hP hw hK hc i pins s σ H E I hf st hg
  subst hP hw hK
  obtain ⟨f0,f1,f2,f3,f4,f5⟩:=hf it (by simp)
  exact wpAny_pyNext_range_end (I.ok.hd hc) st (by have:n ≤ i:=hg; omega) fun h' eb=>⟨rfl,I.turned (t':=s.toks) (fun b o hb e=>eb b o hb e) f0 f1 f3 f4 f5⟩
 self:=fun _ _ _ _ _ st h=>wpAny_pyIter_rangeiter st h
end L2
namespace L2
open PySem PySem.Spec PyProof.Rows
section
variable {X:Cx} {tg:Expr}
def jcs (K:PySem.W.Frag) (tl:TE):TI:=fun σ H R=>tl σ H fun x H1=>∃ a,x = .ref a∧(∃ xs,SqL K H1 a xs)∧R (Itl K a) H1
theorem jbr {l:Expr} {tl:TE} (hl:PE X l tl):PI X tg l (jcs X.K tl):=by
 intro pins s σ H R I h
 refine thn (hl pins s σ H _ I h) fun v s1 ⟨x,H1,I1,r1,q1⟩=>?_
 obtain ⟨a,e,⟨xs,hq⟩,q⟩:=q1
 subst e
 cases r1
 obtain ⟨its,rv,p,hz⟩:=I1.list hq
 refine wpAny_pyIter_list p.isList ?_
 refine ⟨s1.heap.objs.size,[s1.heap.objs.size],_,_,H1,rfl,I1.kept (t':=s1.toks) fun b o e=>Heap.get?_push_of_some _ e,jnw a _,⟨_,Heap.get?_push_size _ rfl,rfl,rfl⟩,fun b hb=>?_,q⟩
 have e:b = s1.heap.objs.size:=by simpa using hb
 subst e
 exact I1.fpOk (Nat.le_refl _) (I1.hok.fresh (Nat.le_refl _))
theorem jqr {pins:List (Addr × Obj)} {σ:St} {H:Hp} {s:Shared} {R:It→Hp→Prop} {E:Value→Shared→Prop} {lo hi:Int} {t u v:Tok} {tk:Nat} (I:Inv X pins σ H s) (h1:-(2 ^ 62) ≤ lo) (h2:lo < 2 ^ 62) (h3:-(2 ^ 62) ≤ hi) (h4:hi < 2 ^ 62)
  (q:R (Itr lo (hi - lo).toNat) H):wpAny (model X.prog X.w) X.A (pyIter (.ref s.heap.objs.size)) (PIE X pins σ tg R) E { s with heap:=s.heap.push { cls:=.type "range",data:=.fields #[.int lo t,.int hi u,.int 1 v] },toks:=tk }:=by
 refine wpAny_pyIter_range (IsRange.new ..) (small_one h1 h2 h3 h4) ?_
 have I1:Inv X pins σ H { s with heap:=s.heap.push { cls:=.type "range",data:=.fields #[.int lo t,.int hi u,.int 1 v] },toks:=tk }:=I.kept fun b o e=>Heap.get?_push_of_some _ e
 refine ⟨(s.heap.push { cls:=.type "range",data:=.fields #[.int lo t,.int hi u,.int 1 v] }).objs.size,[(s.heap.push { cls:=.type "range",data:=.fields #[.int lo t,.int hi u,.int 1 v] }).objs.size],_,_,H,rfl,
  I1.kept (t':=tk) fun b o e=>Heap.get?_push_of_some _ e,jms _ lo (hi - lo).toNat,?_,fun b hb=>?_,q⟩
 ·have e1:lo + ((0:Nat):Int) * 1 = lo:=by simp
  have e2:(((hi - lo).toNat:Nat):Int) - ((0:Nat):Int) = Builtin.Range.rangeSize lo hi 1:=by rw [rangeSize_one]; split <;> omega
  show IsRangeIter _ _ (lo + ((0:Nat):Int) * 1) ((((hi - lo).toNat:Nat):Int) - ((0:Nat):Int)) 1
  rw [e1,e2]
  exact Heap.get?_push_size _ rfl
 ·have e:b = (s.heap.push { cls:=.type "range",data:=.fields #[.int lo t,.int hi u,.int 1 v] }).objs.size:=by simpa using hb
  subst e
  exact I1.fpOk (Nat.le_refl _) (I1.hok.fresh (Nat.le_refl _))
def jrf (ta:TA):TI:=fun σ H R=>ta σ H fun vs H1=>∃ j:Int,vs = [.int j]∧-(2 ^ 62) ≤ j∧j < 2 ^ 62∧R (Itr 0 j.toNat) H1
theorem jg1 {a:Expr} {ta:TA} {p pos:Pos} (hg:Gl X "range") (hm:X.mg "range" = none) (ha:PA X [a] ta) (hs:starEach [a] X.env = [(false,eval a X.env)]:=by rfl):PI X tg (.Call (.Name "range" p) [a] [] pos) (jrf ta):=by
 intro pins s σ H R I h
 refine Call_ (jhd I hg hm boot_range (PyProof.Rows.callWith_type1 (thn (ha pos pins s σ H _ I h) fun us s1 ⟨vs,H1,I1,r1,q1⟩=>?_) hs rfl))
 obtain ⟨j,e,q1,q2,q⟩:=q1
 subst e
 cases r1 with
 | cons r rr =>
  cases rr
  obtain ⟨t,rfl⟩:=r
  exact call_range_1 (jqr I1 (by omega) (by omega) q1 q2 (by simpa using q))
def tFor (wi:TI) (g:TG) (tb:TS):TS:=fun D σ H=>wi σ H fun J H1=>∃ W:Nat→Nat→St→Hp→Prop,(∃ m,W 0 m σ H1)∧∀ i m σ H,W i m σ H →
 (J.stop i H∧D.nx σ H) ∨ (J.go i H∧∃ N:St→Hp→Prop,(∀ σ' H',N σ' H'→∃ m',m' < m∧W (i + 1) m' σ' H')∧∀ x H',J.yld i H x H'→g x σ H' fun σ2 H2=>tb { D with nx:=N,ct:=N,bk:=D.nx } σ2 H2)
def jjm (fp:List Addr) (h:Heap):List (Addr × Obj):=fp.filterMap fun b=>(h.get? b).map fun o=>(b,o)
theorem jdw {fp:List Addr} {h:Heap} {b:Addr} {o:Obj} (hb:b ∈ fp) (e:h.get? b = some o):(b,o) ∈ jjm fp h:=List.mem_filterMap.mpr ⟨b,hb,by rw [e]; rfl⟩
theorem joz {fp:List Addr} {h:Heap} {p:Addr × Obj} (hp:p ∈ jjm fp h):p.1 ∈ fp∧h.get? p.1 = some p.2:=by
 obtain ⟨b,hb,e⟩:=List.mem_filterMap.mp hp
 cases q:h.get? b with
 | none=>rw [q] at e; cases e
 | some o =>
  rw [q] at e
  have e':(b,o) = p:=Option.some.inj e
  subst e'
  exact ⟨hb,q⟩
theorem Inv.pinned {pins:List (Addr × Obj)} {σ:St} {H:Hp} {s:Shared} {fp:List Addr} (I:Inv X pins σ H s) (hf:∀ b ∈ fp,FpOk X pins H b) (ho:∀ b ∈ fp,∃ o,s.heap.get? b = some o∧∀ v,o.data ≠ .cell v):Inv X (pins ++ jjm fp s.heap) σ H s :=
 I.pins_of fun p hp=>(List.mem_append.mp hp).elim (fun z=>I.pin p (List.mem_append_right _ z)) fun z=>by
  obtain ⟨hb,e⟩:=joz z
  obtain ⟨f0,f1,f2,_⟩:=hf p.1 hb
  obtain ⟨o,e',d⟩:=ho p.1 hb
  rw [e] at e'; cases e'
  exact ⟨e,f0,f1,f2,d⟩
theorem Inv.unpinned {pins pl:List (Addr × Obj)} {σ:St} {H:Hp} {s:Shared} (I:Inv X (pins ++ pl) σ H s):Inv X pins σ H s:=I.pins_of fun p hp=>I.pin p (List.mem_append_right _ (List.mem_append_left _ hp))
theorem jd8 {iter:Expr} {body:List Stmt} {wi:TI} {g:TG} {tb:TS} {pos:Pos} (hp:PassesOwn (model X.prog X.w) X.A X.env X.xe) (hc:X.calm = true) (hi:PI X tg iter wi) (hg:PG X tg g) (hb:PSs X body tb)
  (hs:∀ x,foldedSetIterable iter X.env x = pure x:=by intro _; rfl):PS X (.For tg iter body [] pos) (tFor wi g tb):=by
 intro pins s σ H D I h
 refine wpAny_For (thn (hi pins s σ H _ I h) fun v s1 h1=>thn h1 fun itv s2 h2=>?_) hs
 obtain ⟨it,fp,tn,J,H2,e,I2,T,st2,f2,W,⟨m0,w0⟩,turn⟩:=h2
 subst e
  -- what stays true of the iterator's objects through the loop
 have stat:∀ {H':Hp},(∀ b ∈ fp,H' b = none)→∀ b ∈ fp,FpOk X pins H' b:=fun hn b hb=>⟨hn b hb,(f2 b hb).2⟩
 refine codeAny_forLoop_any (fun n s'=>∃ i σ' H',Inv X pins σ' H' s'∧tn i s'.heap∧(∀ b ∈ fp,H' b = none)∧W i n σ' H') ?_ m0 ⟨0,σ,H2,I2,st2,fun b hb=>(f2 b hb).1,w0⟩
 rintro n s3 ⟨i,σ3,H3,I3,st3,fr3,w3⟩
 rcases turn i n σ3 H3 w3 with ⟨stop,qn⟩ | ⟨go,N,hN,step⟩
 ·refine wpAny_passesOwn hp (thn (T.done X rfl rfl rfl hc i pins s3 σ3 H3 X.xe I3 (stat fr3) st3 stop) fun r s4 ⟨hr,I4⟩=>?_)
  subst hr
  exact wpAny_execs_nil ⟨σ3,H3,I4,qn⟩
 ·refine wpAny_passesOwn hp (thn (T.item X rfl rfl rfl hc i pins s3 σ3 H3 X.xe I3 (stat fr3) st3 go) fun r s4 ⟨u,hr,h4⟩=>?_)
  subst hr
  refine wpAny_passesOwn hp (thn h4 fun _ s5 ⟨x,H5,I5,r5,y5,st5,fr5⟩=>?_)
  have I5':=I5.pinned (stat fr5) (T.obj _ _ st5)
  refine wpAny_passesOwn hp (thn (hg _ s5 σ3 H5 x u _ I5' r5 (step x H5 y5)) fun _ s6 ⟨σ6,H6,I6,q6⟩=>?_)
  refine wpAny_passesOwn hp (thn (hb _ s6 σ6 H6 _ I6 q6) fun f s7 q7=>?_)
  have again:∀ {σ7:St} {H7:Hp},Inv X (pins ++ jjm fp s5.heap) σ7 H7 s7→N σ7 H7→∃ m,m < n∧∃ i σ' H',Inv X pins σ' H' s7∧tn i s7.heap∧(∀ b ∈ fp,H' b = none)∧W i m σ' H':=fun {σ7 H7} I7 n7=>by
   obtain ⟨m',hm,w7⟩:=hN σ7 H7 n7
   refine ⟨m',hm,i + 1,σ7,H7,I7.unpinned,T.keep _ _ _ st5 fun b hb o e=>(I7.pin (b,o) (List.mem_append_right _ (List.mem_append_right _ (jdw hb e)))).1,fun b hb=>?_,w7⟩
   obtain ⟨o,e,d⟩:=T.obj _ _ st5 b hb
   exact (I7.pin (b,o) (List.mem_append_right _ (List.mem_append_right _ (jdw hb e)))).2.1
  cases f with
  | next=>obtain ⟨σ7,H7,I7,n7⟩:=q7; exact again I7 n7
  | cont=>obtain ⟨σ7,H7,I7,n7⟩:=q7; exact again I7 n7
  | brk=>obtain ⟨σ7,H7,I7,q7⟩:=q7; exact ⟨σ7,H7,I7.unpinned,q7⟩
  | ret v=>obtain ⟨x7,σ7,H7,I7,r7,q7⟩:=q7; exact ⟨x7,σ7,H7,I7.unpinned,r7,q7⟩
end
theorem jcv {K:PySem.W.Frag} {a:Addr} {xs:List V} {g:TG} {tb:TS} {D:Ends} {σ:St} {H:Hp} (Pv:Nat→St→Hp→Prop) (h0:Pv 0 σ H) (hl:∀ i σ H,i ≤ xs.length→Pv i σ H→SqL K H a xs)
  (hs:∀ i x σ H,xs[i]? = some x→Pv i σ H→g x σ H fun σ2 H2=>tb { D with nx:=Pv (i + 1),ct:=Pv (i + 1),bk:=D.nx } σ2 H2) (hd:∀ σ H,Pv xs.length σ H→D.nx σ H) :
  ∃ W:Nat→Nat→St→Hp→Prop,(∃ m,W 0 m σ H)∧∀ i m σ H,W i m σ H →
   ((Itl K a).stop i H∧D.nx σ H) ∨ ((Itl K a).go i H∧∃ N:St→Hp→Prop,(∀ σ' H',N σ' H'→∃ m',m' < m∧W (i + 1) m' σ' H')∧∀ x H',(Itl K a).yld i H x H'→g x σ H' fun σ2 H2=>tb { D with nx:=N,ct:=N,bk:=D.nx } σ2 H2):=by
 refine ⟨fun i m σ H=>m = xs.length - i∧i ≤ xs.length∧Pv i σ H,⟨xs.length,by simp,Nat.zero_le _,h0⟩,?_⟩
 rintro i m σ H ⟨rfl,hi,p⟩
 have q:=hl i σ H hi p
 by_cases hlt:i < xs.length
 ·refine .inr ⟨⟨xs,xs[i],q,by simp [hlt]⟩,Pv (i + 1),fun σ' H' p'=>⟨xs.length - (i + 1),by omega,rfl,hlt,p'⟩,fun x H' y=>?_⟩
  obtain ⟨e,y⟩:=y
  subst e
  exact hs i x σ _ (y xs q) p
 ·have e:i = xs.length:=by omega
  subst e
  exact .inl ⟨⟨xs,q,Nat.le_refl _⟩,hd σ H p⟩
theorem jk6 {lo:Int} {n:Nat} {g:TG} {tb:TS} {D:Ends} {σ:St} {H:Hp} (Pv:Nat→St→Hp→Prop) (h0:Pv 0 σ H)
  (hs:∀ i σ H,i < n→Pv i σ H→g (.int (lo + i)) σ H fun σ2 H2=>tb { D with nx:=Pv (i + 1),ct:=Pv (i + 1),bk:=D.nx } σ2 H2) (hd:∀ σ H,Pv n σ H→D.nx σ H) :
  ∃ W:Nat→Nat→St→Hp→Prop,(∃ m,W 0 m σ H)∧∀ i m σ H,W i m σ H →
   ((Itr lo n).stop i H∧D.nx σ H) ∨ ((Itr lo n).go i H∧∃ N:St→Hp→Prop,(∀ σ' H',N σ' H'→∃ m',m' < m∧W (i + 1) m' σ' H')∧∀ x H',(Itr lo n).yld i H x H'→g x σ H' fun σ2 H2=>tb { D with nx:=N,ct:=N,bk:=D.nx } σ2 H2):=by
 refine ⟨fun i m σ H=>m = n - i∧i ≤ n∧Pv i σ H,⟨n,by simp,Nat.zero_le _,h0⟩,?_⟩
 rintro i m σ H ⟨rfl,hi,p⟩
 by_cases hlt:i < n
 ·refine .inr ⟨hlt,Pv (i + 1),fun σ' H' p'=>⟨n - (i + 1),by omega,rfl,hlt,p'⟩,fun x H' y=>?_⟩
  obtain ⟨e,y⟩:=y
  subst e y
  exact hs i σ _ hlt p
 ·have e:i = n:=by omega
  subst e
  exact .inl ⟨Nat.le_refl _,hd σ H p⟩
theorem jff {c:TT} {tb:TS} {D:Ends} {σ:St} {H:Hp} (Pv:St→Hp→Prop) (μ:St→Hp→Nat) (h0:Pv σ H)
  (hs:∀ σ H,Pv σ H→c σ H fun b H1=>if b = true then tb { D with nx:=fun σ' H'=>Pv σ' H'∧μ σ' H' < μ σ H,ct:=fun σ' H'=>Pv σ' H'∧μ σ' H' < μ σ H,bk:=D.nx } σ H1 else D.nx σ H1)
  (mono:∀ σ H Q Q',(∀ b H1,Q b H1→Q' b H1)→c σ H Q→c σ H Q'):jrx c tb D σ H:=by
 refine ⟨fun m σ H=>m = μ σ H∧Pv σ H,⟨_,rfl,h0⟩,?_⟩
 rintro m σ H ⟨rfl,p⟩
 refine mono σ H _ _ (fun b H1 q=>?_) (hs σ H p)
 cases b with
 | true=>exact ⟨_,fun σ' H' ⟨p',l⟩=>⟨_,l,rfl,p'⟩,q⟩
 | false=>exact q
end L2
namespace L2
open PySem PySem.Spec PyProof.Rows
abbrev R2:=V→V→Hp→VK→Prop
def OpR (X:Cx) (f:Value→Value→Sem Value) (r:R2):Prop :=
 ∀ (pins:List (Addr × Obj)) (s:Shared) (σ:St) (H:Hp) (x y:V) (v u:Value) (Q:VK),Inv X pins σ H s→RelV x v→RelV y u→r x y H Q →
  wpAny (model X.prog X.w) X.A (f v u) (EP X pins σ Q) X.xe s
def UnR (X:Cx) (f:Value→Sem Value) (r:V→Hp→VK→Prop):Prop :=
 ∀ (pins:List (Addr × Obj)) (s:Shared) (σ:St) (H:Hp) (x:V) (v:Value) (Q:VK),Inv X pins σ H s→RelV x v→r x H Q →
  wpAny (model X.prog X.w) X.A (f v) (EP X pins σ Q) X.xe s
def jcr (X:Cx) (f:Value) (r:List V→Hp→VK→Prop):Prop :=
 ∀ (pins:List (Addr × Obj)) (s:Shared) (σ:St) (H:Hp) (xs:List V) (us:List Value) (Q:VK),Inv X pins σ H s→Vals xs us→r xs H Q →
  wpAny (model X.prog X.w) X.A (call f us) (EP X pins σ Q) X.xe s
def TruR (X:Cx) (r:V→Hp→(Bool→Hp→Prop)→Prop):Prop :=
 ∀ (pins:List (Addr × Obj)) (s:Shared) (σ:St) (H:Hp) (x:V) (v:Value) (Q:Bool→Hp→Prop),Inv X pins σ H s→RelV x v→r x H Q →
  wpAny (model X.prog X.w) X.A (truthy v) (TP X pins σ Q) X.xe s
def tOp (r:R2) (ta tb:TE):TE:=fun σ H Q=>ta σ H fun x H1=>tb σ H1 fun y H2=>r x y H2 Q
def tUn (r:V→Hp→VK→Prop) (ta:TE):TE:=fun σ H Q=>ta σ H fun x H1=>r x H1 Q
def rI (C:Int→Int→Prop) (g:Int→Int→V):R2:=fun x y H Q=>∃ i j,x = .int i∧y = .int j∧C i j∧Q (g i j) H
def rI0 (g:Int→Int→V):R2:=fun x y H Q=>∃ i j,x = .int i∧y = .int j∧Q (g i j) H
def rU (g:Int→V):V→Hp→VK→Prop:=fun x H Q=>∃ i,x = .int i∧Q (g i) H
section
variable {X:Cx} {a b c:Expr} {ta tb tc:TE} {pos:Pos}
theorem binT (ha:PE X a ta) (hb:PE X b tb) {pins:List (Addr × Obj)} {s:Shared} {σ:St} {H:Hp} {R:V→V→Hp→Prop} (I:Inv X pins σ H s)
  (h:ta σ H fun x H1=>tb σ H1 fun y H2=>R x y H2) {Q:Value→Shared→Prop} {f:Value→Value→Sem Value}
  (hf:∀ v u s2 x y H2,Inv X pins σ H2 s2→RelV x v→RelV y u→R x y H2→wpAny (model X.prog X.w) X.A (f v u) Q X.xe s2) :
  wpAny (model X.prog X.w) X.A (eval a X.env) (fun v s₁=>wpAny (model X.prog X.w) X.A (eval b X.env) (fun u s₂=>wpAny (model X.prog X.w) X.A (f v u) Q X.xe s₂) X.xe s₁) X.xe s:=by
 refine thn (ha pins s σ H _ I h) fun v s1 ⟨x,H1,I1,r1,q1⟩=>?_
 refine thn (hb pins s1 σ H1 _ I1 q1) fun u s2 ⟨y,H2,I2,r2,q2⟩=>?_
 exact hf v u s2 x y H2 I2 r1 r2 q2
theorem jbw {op:Operator} {r:R2} (ho:OpR X (binaryOp op) r) (ha:PE X a ta) (hb:PE X b tb):PE X (.BinOp a op b pos) (tOp r ta tb):=by
 intro pins s σ H Q I h
 exact wpAny_BinOp (binT ha hb I h fun v u s2 x y H2 I2 rx ry q=>ho pins s2 σ H2 x y v u Q I2 rx ry q)
theorem jgv {op:UnaryOp} {r:V→Hp→VK→Prop} (ho:UnR X (unaryOp op) r) (ha:PE X a ta):PE X (.UnaryOp op a pos) (tUn r ta):=by
 intro pins s σ H Q I h
 exact UnaryOp_ (thn (ha pins s σ H _ I h) fun v s1 ⟨x,H1,I1,r1,q1⟩=>ho pins s1 σ H1 x v Q I1 r1 q1)
theorem opI {f:Value→Value→Sem Value} {C:Int→Int→Prop} {g:Int→Int→Int}
  (rule:∀ (i j:Int) (t u:Tok) (s:Shared) (Q:Value→Shared→Prop) (E:Value→Shared→Prop),C i j→Q (.int (g i j) s.toks) { s with toks:=s.toks + 1 }→wpAny (model X.prog X.w) X.A (f (.int i t) (.int j u)) Q E s) :
  OpR X f (rI C fun i j=>.int (g i j)):=by
 intro pins s σ H x y v u Q I rx ry h
 obtain ⟨i,j,rfl,rfl,hc,q⟩:=h
 obtain ⟨t,rfl⟩:=rx
 obtain ⟨t',rfl⟩:=ry
 exact rule i j t t' s _ _ hc ⟨.int (g i j),H,I.tok _,⟨_,rfl⟩,q⟩
theorem opI0 {f:Value→Value→Sem Value} {g:Int→Int→Int}
  (rule:∀ (i j:Int) (t u:Tok) (s:Shared) (Q:Value→Shared→Prop) (E:Value→Shared→Prop),Q (.int (g i j) s.toks) { s with toks:=s.toks + 1 }→wpAny (model X.prog X.w) X.A (f (.int i t) (.int j u)) Q E s) :
  OpR X f (rI0 fun i j=>.int (g i j)):=by
 intro pins s σ H x y v u Q I rx ry h
 obtain ⟨i,j,rfl,rfl,q⟩:=h
 obtain ⟨t,rfl⟩:=rx
 obtain ⟨t',rfl⟩:=ry
 exact rule i j t t' s _ _ ⟨.int (g i j),H,I.tok _,⟨_,rfl⟩,q⟩
theorem opB0 {f:Value→Value→Sem Value} {g:Int→Int→Bool}
  (rule:∀ (i j:Int) (t u:Tok) (s:Shared) (Q:Value→Shared→Prop) (E:Value→Shared→Prop),Q (.bool (g i j)) s→wpAny (model X.prog X.w) X.A (f (.int i t) (.int j u)) Q E s) :
  OpR X f (rI0 fun i j=>.bl (g i j)):=by
 intro pins s σ H x y v u Q I rx ry h
 obtain ⟨i,j,rfl,rfl,q⟩:=h
 obtain ⟨t,rfl⟩:=rx
 obtain ⟨t',rfl⟩:=ry
 exact rule i j t t' s _ _ ⟨.bl (g i j),H,I,rfl,q⟩
def CDiv (i j:Int):Prop:=0 < j∧j < 1073741824
def CPow (i j:Int):Prop:=0 ≤ j∧j ≤ 1000000∧i.natAbs < 2 ^ 64
def CMul (i j:Int):Prop:=(-(2 ^ 64) < i∧i < 2 ^ 64) ∨ (-(2 ^ 64) < j∧j < 2 ^ 64)
theorem CMul.ok {i j:Int} (h:CMul i j):IntMulOk i j:=by
 rcases h with ⟨h1,h2⟩ | ⟨h1,h2⟩
 ·exact .of_left (intBits_le_64 h1 h2)
 ·exact .of_right (intBits_le_64 h1 h2)
theorem op_add:OpR X (binaryOp .Add) (rI0 fun i j=>.int (i + j)):=opI0 fun _ _ _ _ _ _ _ q=>add_int q
theorem op_sub:OpR X (binaryOp .Sub) (rI0 fun i j=>.int (i - j)):=opI0 fun _ _ _ _ _ _ _ q=>sub_int q
theorem op_mul:OpR X (binaryOp .Mult) (rI CMul fun i j=>.int (i * j)):=opI fun _ _ _ _ _ _ _ hc q=>mul_int q hc.ok
theorem jte:OpR X (binaryOp .FloorDiv) (rI CDiv fun i j=>.int (i / j)):=opI fun i j _ _ _ _ _ hc q=>by
 have h1:(0:Int) < j:=hc.1
 have h2:j < 1073741824:=hc.2
 exact floordiv_int (by omega) (by rw [Int.fdiv_eq_ediv_of_nonneg i (by omega)]; exact q) (.inl (PyProof.noPylong_small (by omega)))
theorem op_mod:OpR X (binaryOp .Mod) (rI (fun _ j=>0 < j) fun i j=>.int (i % j)):=opI fun i j _ _ _ _ _ hc q=>by
 have h1:(0:Int) < j:=hc
 exact mod_int' (by omega) (by rw [Int.fmod_eq_emod_of_nonneg i (by omega)]; exact q)
theorem op_pow:OpR X (binaryOp .Pow) (rI CPow fun i j=>.int (i ^ j.toNat)):=opI fun _ _ _ _ _ _ _ hc q=>pow_int_small hc.1 hc.2.1 hc.2.2 q
theorem jtx:OpR X (inplaceOp .Add) (rI0 fun i j=>.int (i + j)):=opI0 fun _ _ _ _ _ _ _ q=>iadd_int q
theorem unI {f:Value→Sem Value} {g:Int→Int}
  (rule:∀ (i:Int) (t:Tok) (s:Shared) (Q:Value→Shared→Prop) (E:Value→Shared→Prop),Q (.int (g i) s.toks) { s with toks:=s.toks + 1 }→wpAny (model X.prog X.w) X.A (f (.int i t)) Q E s) :
  UnR X f (rU fun i=>.int (g i)):=by
 intro pins s σ H x v Q I rx h
 obtain ⟨i,rfl,q⟩:=h
 obtain ⟨t,rfl⟩:=rx
 exact rule i t s _ _ ⟨.int (g i),H,I.tok _,⟨_,rfl⟩,q⟩
theorem un_neg:UnR X (unaryOp .USub) (rU fun i=>.int (-i)):=unI fun _ _ _ _ _ q=>neg_int q
end
def scal:V→V→Bool
 | .non,.non=>true | .non,.int _=>true | .int _,.non=>true | .non,.bl _=>true | .bl _,.non=>true | .non,.str _=>true | .str _,.non=>true
 | .int _,.int _=>true | .bl _,.bl _=>true | .str _,.str _=>true | .byt _,.byt _=>true
 | .int _,.str _=>true | .str _,.int _=>true | .bl _,.str _=>true | .str _,.bl _=>true
 | _,_=>false
def rEq:R2:=fun x y H Q=>scal x y = true∧Q (.bl (decide (x = y))) H
def rNe:R2:=fun x y H Q=>scal x y = true∧Q (.bl (!decide (x = y))) H
theorem jpy {i j:Int}:decide (V.int i = V.int j) = (i == j):=by
 rw [Bool.eq_iff_iff]
 simp
theorem jsl {i j:Bool}:decide (V.bl i = V.bl j) = (i == j):=by
 rw [Bool.eq_iff_iff]
 simp
theorem jpx {i j:Str}:decide (V.str i = V.str j) = (i == j):=by
 rw [Bool.eq_iff_iff]
 simp
theorem jpz {i j:Array UInt8}:decide (V.byt i = V.byt j) = (i.toList == j.toList):=by
 rw [Bool.eq_iff_iff]
 cases i
 cases j
 simp
section
variable {X:Cx} {a b c:Expr} {ta tb tc:TE} {pos:Pos}
theorem jbz {pins:List (Addr × Obj)} {σ:St} {H:Hp} {s:Shared} {Q:VK} {k k':Bool} (I:Inv X pins σ H s) (q:Q (.bl k) H) (e:k = k'):EP X pins σ Q (.bool k') s:=by
 subst e
 exact ⟨.bl k,H,I,rfl,q⟩
theorem op_eq:OpR X (compareOp .Eq) rEq:=by
 intro pins s σ H x y v u Q I rx ry h
 obtain ⟨hs,q⟩:=h
 cases x with
 | non =>
  cases rx
  cases y with
  | non=>cases ry; exact PySem.EqNone.eq_none_none (jbz I q (by simp))
  | bl j=>cases ry; exact PySem.EqNone.eq_none_bool (jbz I q (by simp))
  | int j=>obtain ⟨t',rfl⟩:=ry; exact PySem.EqNone.eq_none_int (jbz I q (by simp))
  | str j=>obtain ⟨t',rfl⟩:=ry; exact PySem.EqNone.eq_none_str (jbz I q (by simp))
  | _=>exact absurd (show false = true from hs) Bool.false_ne_true
 | bl i =>
  cases rx
  cases y with
  | non=>cases ry; exact PySem.EqNone.eq_bool_none (jbz I q (by simp))
  | bl j=>cases ry; exact eq_bool (jbz I q jsl)
  | str j=>obtain ⟨t',rfl⟩:=ry; exact PySem.EqMixed.eq_bool_str (jbz I q (by simp))
  | _=>exact absurd (show false = true from hs) Bool.false_ne_true
 | int i =>
  obtain ⟨t,rfl⟩:=rx
  cases y with
  | non=>cases ry; exact PySem.EqNone.eq_int_none (jbz I q (by simp))
  | int j=>obtain ⟨t',rfl⟩:=ry; exact eq_int (jbz I q jpy)
  | str j=>obtain ⟨t',rfl⟩:=ry; exact PySem.EqMixed.eq_int_str (jbz I q (by simp))
  | _=>exact absurd (show false = true from hs) Bool.false_ne_true
 | str i =>
  obtain ⟨t,rfl⟩:=rx
  cases y with
  | non=>cases ry; exact PySem.EqNone.eq_str_none (jbz I q (by simp))
  | bl j=>cases ry; exact PySem.EqMixed.eq_str_bool (jbz I q (by simp))
  | int j=>obtain ⟨t',rfl⟩:=ry; exact PySem.EqMixed.eq_str_int (jbz I q (by simp))
  | str j=>obtain ⟨t',rfl⟩:=ry; exact eq_str (jbz I q jpx)
  | _=>exact absurd (show false = true from hs) Bool.false_ne_true
 | byt i =>
  obtain ⟨t,rfl⟩:=rx
  cases y with
  | byt j=>obtain ⟨t',rfl⟩:=ry; exact PySem.W.eq_bytes (jbz I q jpz)
  | _=>exact absurd (show false = true from hs) Bool.false_ne_true
 | _=>cases y <;> exact absurd (show false = true from hs) Bool.false_ne_true
theorem op_ne:OpR X (compareOp .NotEq) rNe:=by
 intro pins s σ H x y v u Q I rx ry h
 obtain ⟨hs,q⟩:=h
 cases x with
 | non =>
  cases rx
  cases y with
  | non=>cases ry; exact PySem.EqNone.ne_none_none (jbz I q (by simp))
  | bl j=>cases ry; exact PySem.EqNone.ne_none_bool (jbz I q (by simp))
  | int j=>obtain ⟨t',rfl⟩:=ry; exact PySem.EqNone.ne_none_int (jbz I q (by simp))
  | str j=>obtain ⟨t',rfl⟩:=ry; exact PySem.EqNone.ne_none_str (jbz I q (by simp))
  | _=>exact absurd (show false = true from hs) Bool.false_ne_true
 | bl i =>
  cases rx
  cases y with
  | non=>cases ry; exact PySem.EqNone.ne_bool_none (jbz I q (by simp))
  | bl j=>cases ry; exact ne_bool (jbz I q (congrArg not jsl))
  | str j=>obtain ⟨t',rfl⟩:=ry; exact PySem.EqMixed.ne_bool_str (jbz I q (by simp))
  | _=>exact absurd (show false = true from hs) Bool.false_ne_true
 | int i =>
  obtain ⟨t,rfl⟩:=rx
  cases y with
  | non=>cases ry; exact PySem.EqNone.ne_int_none (jbz I q (by simp))
  | int j=>obtain ⟨t',rfl⟩:=ry; exact ne_int (jbz I q (congrArg not jpy))
  | str j=>obtain ⟨t',rfl⟩:=ry; exact PySem.EqMixed.ne_int_str (jbz I q (by simp))
  | _=>exact absurd (show false = true from hs) Bool.false_ne_true
 | str i =>
  obtain ⟨t,rfl⟩:=rx
  cases y with
  | non=>cases ry; exact PySem.EqNone.ne_str_none (jbz I q (by simp))
  | bl j=>cases ry; exact PySem.EqMixed.ne_str_bool (jbz I q (by simp))
  | int j=>obtain ⟨t',rfl⟩:=ry; exact PySem.EqMixed.ne_str_int (jbz I q (by simp))
  | str j=>obtain ⟨t',rfl⟩:=ry; exact ne_str (jbz I q (congrArg not jpx))
  | _=>exact absurd (show false = true from hs) Bool.false_ne_true
 | byt i =>
  obtain ⟨t,rfl⟩:=rx
  cases y with
  | byt j=>obtain ⟨t',rfl⟩:=ry; exact PySem.W.ne_bytes (jbz I q (congrArg not jpz))
  | _=>exact absurd (show false = true from hs) Bool.false_ne_true
 | _=>cases y <;> exact absurd (show false = true from hs) Bool.false_ne_true
theorem op_lt:OpR X (compareOp .Lt) (rI0 fun i j=>.bl (decide (i < j))):=opB0 fun _ _ _ _ _ _ _ q=>lt_int q
theorem op_le:OpR X (compareOp .LtE) (rI0 fun i j=>.bl (decide (i ≤ j))):=opB0 fun _ _ _ _ _ _ _ q=>le_int q
theorem op_gt:OpR X (compareOp .Gt) (rI0 fun i j=>.bl (decide (j < i))):=opB0 fun _ _ _ _ _ _ _ q=>gt_int q
theorem op_ge:OpR X (compareOp .GtE) (rI0 fun i j=>.bl (decide (j ≤ i))):=opB0 fun _ _ _ _ _ _ _ q=>ge_int q
theorem jtd:OpR X (compareOp .IsNot) (fun x y H Q=>y = .non∧Q (.bl (!decide (x = .non))) H):=by
 intro pins s σ H x y v u Q I rx ry h
 obtain ⟨rfl,q⟩:=h
 cases ry
 refine isnot_none_gen (jbz I q ?_)
 cases x <;> first
  | (cases rx; rfl)
  | (obtain ⟨t,rfl⟩:=rx; rfl)
theorem OpR.or {f:Value→Value→Sem Value} {r r':R2} (h:OpR X f r) (h':OpR X f r'):OpR X f (fun x y H Q=>r x y H Q ∨ r' x y H Q):=by
 intro pins s σ H x y v u Q I rx ry q
 rcases q with q | q
 ·exact h pins s σ H x y v u Q I rx ry q
 ·exact h' pins s σ H x y v u Q I rx ry q
theorem jcc (b:Expr) {op:CmpOp} (h:op ≠ .In:=by decide) (h2:op ≠ .NotIn:=by decide):behindInMarks op b = false:=by
 have e1:(op == CmpOp.In) = false:=by cases op <;> first | rfl | exact absurd rfl h
 have e2:(op == CmpOp.NotIn) = false:=by cases op <;> first | rfl | exact absurd rfl h2
 cases b <;> simp [behindInMarks,e1,e2]
theorem je3 {op:CmpOp} {r:R2} (ho:OpR X (compareOp op) r) (ha:PE X a ta) (hb:PE X b tb) (hm:behindInMarks op b = false):PE X (.Compare a [op] [b] pos) (tOp r ta tb):=by
 intro pins s σ H Q I h
 exact wpAny_Compare1 (binT ha hb I h fun v u s2 x y H2 I2 rx ry q=>ho pins s2 σ H2 x y v u Q I2 rx ry q) hm
def TruV (K:PySem.W.Frag) (x:V) (H:Hp) (k:Bool):Prop :=
 match x with
 | .non=>k = false
 | .bl b=>k = b
 | .int i=>k = (i != 0)
 | .str y=>y.length ≤ sizeLine∧k = ((y.length:Int) != 0)
 | .byt y=>y.size ≤ sizeLine∧k = ((y.size:Int) != 0)
 | .ref p=>(∃ xs,SqL K H p xs∧k = !xs.isEmpty) ∨ (∃ xs,SqT K H p xs∧k = !xs.isEmpty) ∨ ∃ kvs,H p = some (.dK kvs)∧k = !kvs.isEmpty
 | _=>False
theorem jnd {κ:Type} {kvs:List (κ × V)} {vs:List (κ × Value)} (r:KV kvs vs):(!vs.isEmpty) = !kvs.isEmpty:=by
 cases r <;> rfl
theorem jhf {xs:List V} {its:List Value} (r:Vals xs its):(!its.toArray.isEmpty) = !xs.isEmpty:=by
 cases r <;> simp
theorem jgf:(sizeLine:Nat) < 2 ^ 63:=by rw [sizeLine_eq]; decide
theorem tru_ok:TruR X (fun x H Q=>∃ k,TruV X.K x H k∧Q k H):=by
 intro pins s σ H x v Q I rx h
 obtain ⟨k,e,q⟩:=h
 have hl:=jgf
 have hs:sizeLine = 16777216:=sizeLine_eq
 cases x with
 | non =>
  cases rx
  have e':k = false:=e
  subst e'
  exact truthy_none ⟨H,I,q⟩
 | bl b =>
  cases rx
  have e':k = b:=e
  subst e'
  exact wpAny_truthy_bool ⟨H,I,q⟩
 | int i =>
  obtain ⟨t,rfl⟩:=rx
  have e':k = (i != 0):=e
  subst e'
  exact PySem.P.truthy_int ⟨H,I,q⟩
 | str y =>
  obtain ⟨t,rfl⟩:=rx
  obtain ⟨hy,e'⟩:y.length ≤ sizeLine∧k = ((y.length:Int) != 0):=e
  subst e'
  exact PySem.P.truthy_str (by omega) ⟨H,I.tok _,q⟩
 | byt y =>
  obtain ⟨t,rfl⟩:=rx
  obtain ⟨hy,e'⟩:y.size ≤ sizeLine∧k = ((y.size:Int) != 0):=e
  subst e'
  exact PySem.W.truthy_bytes (by omega) ⟨H,I.tok _,q⟩
 | ref p =>
  cases rx
  have e':(∃ xs,SqL X.K H p xs∧k = !xs.isEmpty) ∨ (∃ xs,SqT X.K H p xs∧k = !xs.isEmpty) ∨ ∃ kvs,H p = some (.dK kvs)∧k = !kvs.isEmpty:=e
  rcases e' with ⟨xs,hx,e'⟩ | ⟨xs,hx,e'⟩ | ⟨kvs,hx,e'⟩
  ·subst e'
   obtain ⟨its,r,pl,hz⟩:=I.list hx
   have hlen:=r.length
   exact wpAny_truthy_list pl.isList (by simp only [List.size_toArray]; omega) ⟨H,I.tok _,by rw [jhf r]; exact q⟩
  ·subst e'
   obtain ⟨its,r,pl,hz⟩:=I.tuple hx
   have hlen:=r.length
   exact truthy_tuple pl (by simp only [List.size_toArray]; omega) ⟨H,I.tok _,by rw [jhf r]; exact q⟩
  ·subst e'
   obtain ⟨hz,hS,vs,r,m⟩:kvs.length ≤ sizeLine∧(p == sysModules) = false∧∃ vs,KV kvs vs∧s.heap.DictOf (jbx X.prog X.w) p vs:=I.hok p _ hx
   have hlen:kvs.length = vs.length:=Paired.length r
   exact wpAny_truthy_dict hS m (by omega) ⟨H,I.tok _,by rw [jnd r]; exact q⟩
 | _=>exact (show False from e).elim
theorem jqw (ha:PE X a ta) (he:∀ whole,isTrue a X.env whole = (do let v ← whole; standAt a.pos; holding [v] (truthy v))) :
  PT X a (fun σ H Q=>ta σ H fun x H'=>∃ k,TruV X.K x H' k∧Q k H'):=by
 intro pins s σ H Q I h
 exact isTrue_plain (thn (ha pins s σ H _ I h) fun v s1 ⟨x,H1,I1,r1,q1⟩=>tru_ok pins s1 σ H1 x v Q I1 r1 q1) (he _)
theorem jgt {x:V} {us:List Value} (r:Vals [x] us):∃ u,us = [u]∧RelV x u:=by
 cases r with
 | cons r1 r2=>cases r2; exact ⟨_,rfl,r1⟩
theorem vals2 {x y:V} {us:List Value} (r:Vals [x,y] us):∃ u w',us = [u,w']∧RelV x u∧RelV y w':=by
 cases r with
 | cons r1 r2 =>
  cases r2 with
  | cons r3 r4=>cases r4; exact ⟨_,_,rfl,r1,r3⟩
theorem jq7 (hc:X.calm = true):jcr X (.builtin "max") (fun xs H Q=>∃ i j,xs = [.int i,.int j]∧Q (.int (if j > i then j else i)) H):=by
 intro pins s σ H xs us Q I r h
 obtain ⟨i,j,rfl,q⟩:=h
 obtain ⟨u,w',rfl,⟨t,rfl⟩,⟨t',rfl⟩⟩:=vals2 r
 refine max_two_ints (I.ok.hd hc) fun h' tk k=>⟨_,H,I.kept k,?_,q⟩
 by_cases hj:j > i
 ·rw [if_pos hj,if_pos hj]; exact ⟨_,rfl⟩
 ·rw [if_neg hj,if_neg hj]; exact ⟨_,rfl⟩
theorem jq6 (hc:X.calm = true):jcr X (.builtin "min") (fun xs H Q=>∃ i j,xs = [.int i,.int j]∧Q (.int (if j < i then j else i)) H):=by
 intro pins s σ H xs us Q I r h
 obtain ⟨i,j,rfl,q⟩:=h
 obtain ⟨u,w',rfl,⟨t,rfl⟩,⟨t',rfl⟩⟩:=vals2 r
 refine min_two_ints (I.ok.hd hc) fun h' tk k=>⟨_,H,I.kept k,?_,q⟩
 by_cases hj:j < i
 ·rw [if_pos hj,if_pos hj]; exact ⟨_,rfl⟩
 ·rw [if_neg hj,if_neg hj]; exact ⟨_,rfl⟩
theorem jq8:jcr X (.type "int") (fun xs H Q=>(∃ i,xs = [.int i]∧Q (.int i) H) ∨ ∃ k,xs = [.bl k]∧Q (.int (if k then 1 else 0)) H):=by
 intro pins s σ H xs us Q I r h
 rcases h with ⟨i,rfl,q⟩ | ⟨k,rfl,q⟩
 ·obtain ⟨u,rfl,t,rfl⟩:=jgt r
  exact call_int_int ⟨.int i,H,I,⟨_,rfl⟩,q⟩
 ·obtain ⟨u,rfl,r1⟩:=jgt r
  cases r1
  exact call_int_bool ⟨.int (if k then 1 else 0),H,I.tok _,⟨_,rfl⟩,q⟩
end
end L2
namespace L2
open PySem PySem.Spec PyProof.Rows
structure ObjM (h:Heap) (x dx C:Addr) (mA:Str→Option Value):Prop where
 obj:h.get? x = some (PySem.W.instObj C dx)
 ns:h.Ns1 dx mA
 ne:dx ≠ x
theorem jp5 {h:Heap} {dx:Addr} {mA:Str→Option Value} (n:h.Ns1 dx mA):∃ od,h.get? dx = some od∧∀ name,PySem.W.lookIn name od = some (mA name):=by
 obtain ⟨o,es,ep,ho,hd,hk,_,hm⟩:=n
 refine ⟨o,ho,fun name=>?_⟩
 have e:=hm name
 unfold nsFind findBy at e
 rw [← Array.find?_toList] at e
 unfold PySem.W.lookIn
 rw [hd]
 dsimp only
 split
 ·rename_i y q
  rw [q] at e
  exact congrArg some e
 ·rename_i q
  rw [q] at e
  have a:es.toList.any (·.refKey) = false:=by
   rw [List.any_eq_false]
   intro y hy
   obtain ⟨z,t,hkey⟩:=hk y (Array.mem_toList_iff.mp hy)
   simp [DictEntry.refKey,hkey]
  have a':¬ es.toList.any (·.refKey) = true:=by rw [a]; exact Bool.false_ne_true
  rw [if_neg a']
  exact congrArg some e
theorem ObjM.look {h:Heap} {x dx C:Addr} {mA:Str→Option Value} (I:ObjM h x dx C mA):∃ od,PySem.W.InstAt h x (PySem.W.instObj C dx) C (some od)∧∀ name,PySem.W.lookIn name od = some (mA name) :=
 let ⟨od,ho,hl⟩:=jp5 I.ns
 ⟨od,⟨I.obj,rfl,rfl,ho⟩,hl⟩
section
variable {prog:Program} {w:World} {A:Around} {E:Value→Shared→Prop} {s:Shared} {K:PySem.W.Frag} {x dx C f:Addr} {mA:Str→Option Value} {name:Str} {v:Value}
theorem ju2 {expr:Bool} {Q:Value→Shared→Prop} (X:K.In s.heap) (I:ObjM s.heap x dx C mA) (hg:PySem.W.plainGet K C name = true) (hh:PySem.W.hasDictIn K C = true)
  (ha:PySem.W.findIn K (.ref C) name = some none) (hv:mA name = some v) (hv':PySem.W.handedIn v = true) (h:Q v { s with toks:=s.toks + 1 }) :
  wpAny (model prog w) A (getAttr (.ref x) name expr) Q E s:=by
 obtain ⟨od,J,hl⟩:=I.look
 exact PySem.W.get_value X J (PySem.W.plainGet_of hg).1 (PySem.W.findObj_own hh ha rfl (by rw [hl,hv])) hv' h
theorem jri {pl:Sem Bool} {Q:Value × List Value→Shared→Prop} (X:K.In s.heap) (I:ObjM s.heap x dx C mA) (hg:PySem.W.plainGet K C name = true)
  (hf:PySem.W.findIn K (.ref C) name = some (some (.ref f))) (ht:PySem.W.isFn K (.ref f) = true) (hv:mA name = none) (h:Q (.ref f,[.ref x]) s) :
  wpAny (model prog w) A (getMethod (.ref x) name pl) Q E s:=by
 obtain ⟨od,J,hl⟩:=I.look
 exact PySem.W.method_fn X J (PySem.W.plainGet_of hg).1 (PySem.W.plainGet_of hg).2 hf (beq_iff_eq.mp ht) (by show (PySem.W.lookIn name od).map (·.isSome) = some false; rw [hl,hv]; rfl) h
theorem jsz {ns:List Str} {Q:Unit→Shared→Prop} (X:K.In s.heap) (I:ObjM s.heap x dx C mA)
  (hs:PySem.W.findIn K (.ref C) "__setattr__" = some (some (.builtin "object.__setattr__"))) (hp:PySem.W.plainOver K C = true) (ht:PySem.W.takerIn K C name = some none) (hh:PySem.W.hasDictIn K C = true)
  (hw:PySem.Within mA ns) (hsz:ns.length ≤ sizeLine)
  (h:∀ h',ObjM h' x dx C (fun y=>if y = name then some v else mA y)→Heap.SameBut dx s.heap h'→Q () { s with heap:=h',toks:=s.toks + 2 }) :
  wpAny (model prog w) A (setAttr (.ref x) name v) Q E s:=by
 obtain ⟨od,J,hl⟩:=I.look
 refine PySem.W.set_plain X J hs (PySem.W.osa_open (s:={ s with toks:=s.toks + 1 }) (r:=none) X J hp ht fun b=>?_)
 obtain ⟨cd,hc,hd'⟩:=PySem.W.any_some hh
 have hx:s.heap.get? x = some ⟨.ref C,some dx,.plain,#[]⟩:=I.obj
 refine wpAny_bind (wpAny_pure (wpAny_bind (wpAny_bind (wpAny_loadPart hx (wpAny_bind (PySem.W.Looks.here (s:={ s with toks:=s.toks + 1 }) (PySem.W.looks_clsIn X hc) ?_))))))
 rw [hd']
 refine wpAny_pure (a:=some dx) (wpAny_bind (wpAny_pure (wpAny_bind ?_)))
 refine wpAny_nsSet1 (s:={ s with toks:=s.toks + 1 }) I.ns fun h' hn2 hs2=>?_
 obtain ⟨oD,esD,epD,hoD,hdD,hcD⟩:=hn2.count (PySem.Within.cons name v hw)
 refine wpAny_bind (wpAny_lookBehind hoD (by rw [hdD]; exact pastItsLine_dict (Nat.le_trans hcD (by rw [List.length_cons]; omega))) ?_)
 exact wpAny_pure (h _ ⟨(hs2.2 _ (Ne.symm I.ne)).trans I.obj,hn2,I.ne⟩ hs2)
theorem jra {R:Result→Shared→Prop} {vs:List Value} {kw:List (Str × Value)} (X:K.In s.heap) (hm:PySem.W.makesIn K C = true)
  (hi:PySem.W.findIn K (.ref C) "__init__" = some (some (.ref f))) (hf:PySem.W.typeIn K (.ref f) = some (.type "function"))
  (h:codeAny (model prog w) (A.under (.builtin "type.__call__" ⟨.ref C :: vs,kw⟩)) (.call (.ref f) ⟨.ref (s.heap.objs.size + 1) :: vs,kw⟩) (PySem.W.InitBack (s.heap.objs.size + 1) R)
   { s with heap:=(s.heap.push PySem.W.emptyDict).push (PySem.W.instObj C s.heap.objs.size) }) :
  codeAny (model prog w) A (.call (.ref C) ⟨vs,kw⟩) R s:=by
 obtain ⟨hh,g,d,t,os⟩:=s
 exact PySem.W.make_core (PySem.W.makes_of X hm) (PySem.W.looks_findIn X hi) (fun self=>PySem.W.bind_fn X self hf) (.inl rfl) h
end
def putF (f:Str) (v:V):List (Str × V)→List (Str × V)
 | []=>[(f,v)]
 | (g,x) :: r=>if g = f then (g,v) :: r else (g,x) :: putF f v r
theorem jgd (f g:Str) (v:V):∀ fs:List (Str × V),(putF f v fs).lookup g = if g = f then some v else fs.lookup g
 | []=>by
  show List.lookup g [(f,v)] = _
  by_cases h:g = f
  ·have hb:(g == f) = true:=beq_iff_eq.mpr h
   simp only [List.lookup,hb,if_pos h]
  ·have hb:(g == f) = false:=beq_eq_false_iff_ne.mpr h
   simp only [List.lookup,hb,if_neg h]
 | (k,x) :: r=>by
  have ih:=jgd f g v r
  rw [show putF f v ((k,x) :: r) = (if k = f then (k,v) :: r else (k,x) :: putF f v r) from rfl]
  by_cases hk:k = f
  ·rw [if_pos hk]
   by_cases h:g = k
   ·have hb:(g == k) = true:=beq_iff_eq.mpr h
    simp only [List.lookup,hb,if_pos (h.trans hk)]
   ·have hb:(g == k) = false:=beq_eq_false_iff_ne.mpr h
    simp only [List.lookup,hb,if_neg (fun e:g = f=>h (e.trans hk.symm))]
  ·rw [if_neg hk]
   by_cases h:g = k
   ·have hb:(g == k) = true:=beq_iff_eq.mpr h
    simp only [List.lookup,hb,if_neg (fun e:g = f=>hk (h.symm.trans e))]
   ·have hb:(g == k) = false:=beq_eq_false_iff_ne.mpr h
    simp only [List.lookup,hb]
    exact ih
theorem jgh (f:Str) (v:V):∀ fs:List (Str × V),f ∈ (putF f v fs).map (·.1)∧∀ g,g ∈ fs.map (·.1)→g ∈ (putF f v fs).map (·.1)
 | []=>⟨by simp [putF],fun g h=>by simp at h⟩
 | (k,x) :: r=>by
  obtain ⟨i1,i2⟩:=jgh f v r
  rw [show putF f v ((k,x) :: r) = (if k = f then (k,v) :: r else (k,x) :: putF f v r) from rfl]
  by_cases hk:k = f
  ·rw [if_pos hk]
   subst hk
   exact ⟨by simp,fun g h=>by simpa using h⟩
  ·rw [if_neg hk]
   refine ⟨?_,fun g h=>?_⟩
   ·rw [List.map_cons]
    exact List.mem_cons_of_mem _ i1
   ·rw [List.map_cons] at h ⊢
    rcases List.mem_cons.mp h with e | e
    ·exact List.mem_cons.mpr (.inl e)
    ·exact List.mem_cons_of_mem _ (i2 g e)
theorem jgg (f:Str) (v:V):∀ fs:List (Str × V),(putF f v fs).length ≤ fs.length + 1
 | []=>by simp [putF]
 | (k,x) :: r=>by
  have ih:=jgg f v r
  rw [show putF f v ((k,x) :: r) = (if k = f then (k,v) :: r else (k,x) :: putF f v r) from rfl]
  by_cases hk:k = f
  ·rw [if_pos hk,List.length_cons,List.length_cons]; omega
  ·rw [if_neg hk,List.length_cons,List.length_cons]; omega
theorem RelO.some_of {v:V} {o:Option Value} (r:RelO (some v) o):∃ u,o = some u∧RelV v u:=by
 cases o with
 | none=>exact (show False from r).elim
 | some u=>exact ⟨u,rfl,r⟩
theorem RelO.none_of {o:Option Value} (r:RelO none o):o = none:=by
 cases o with
 | none=>rfl
 | some u=>exact (show False from r).elim
theorem jpo {v:V} {u:Value} (r:RelV v u):PySem.W.handedIn u = true:=by
 cases v with
 | non=>cases (show u = Value.none from r); rfl
 | bl b=>cases (show u = Value.bool b from r); rfl
 | int i=>obtain ⟨t,e⟩:=(show ∃ t,u = Value.int i t from r); cases e; rfl
 | str x=>obtain ⟨t,e⟩:=(show ∃ t,u = Value.str x t from r); cases e; rfl
 | byt b=>obtain ⟨t,e⟩:=(show ∃ t,u = Value.bytes b t from r); cases e; rfl
 | flt b=>obtain ⟨t,e⟩:=(show ∃ t,u = Value.float b t from r); cases e; rfl
 | ref a=>cases (show u = Value.ref a from r); rfl
 | ty n=>cases (show u = Value.type n from r); rfl
section
variable {P:Program} {w:World} {H H':Hp} {h h':Heap} {a C dx:Addr} {fs fs':List (Str × V)}
theorem jin (hok:HOk P w H h) (e:H a = some (.ins C dx fs)):∃ mA,ObjM h a dx C mA∧(∀ f,RelO (fs.lookup f) (mA f))∧PySem.Within mA (fs.map (·.1))∧fs.length ≤ 1000∧H dx = some (.own a):=by
 obtain ⟨d,z,ne,ob,mA,n,r,q⟩:=(show jcg P w H h a (.ins C dx fs) from hok a _ e)
 exact ⟨mA,⟨ob,n,ne⟩,r,q,z,d⟩
end
structure Cls (K:PySem.W.Frag) (C:Addr):Prop where
 pg:PySem.W.plainGet K C Str.empty = true
 hd:PySem.W.hasDictIn K C = true
 po:PySem.W.plainOver K C = true
 sa:PySem.W.findIn K (.ref C) "__setattr__" = some (some (.builtin "object.__setattr__"))
theorem Cls.get {K:PySem.W.Frag} {C:Addr} (c:Cls K C) (f:Str):PySem.W.plainGet K C f = true:=c.pg
def jeq (K:PySem.W.Frag) (C:Addr) (f:Str):Prop:=PySem.W.findIn K (.ref C) f = some none
theorem jeq.taker {K:PySem.W.Frag} {C:Addr} {f:Str} (n:jeq K C f):PySem.W.takerIn K C f = some none:=by
 unfold PySem.W.takerIn
 rw [show PySem.W.findIn K (.ref C) f = some none from n]
 rfl
structure Meth (K:PySem.W.Frag) (C:Addr) (m:Str) (f:Addr):Prop where
 at_:PySem.W.findIn K (.ref C) m = some (some (.ref f))
 fn:PySem.W.isFn K (.ref f) = true
 kp:PySem.W.keepIn K (.ref f) = true
section
variable {X:Cx} {pins:List (Addr × Obj)} {σ:St} {H:Hp} {s:Shared} {a C dx:Addr} {fs:List (Str × V)} {f:Str} {v:V} {A:Around} {E:Value→Shared→Prop}
theorem jnf {b:Bool} {Q:Value→Shared→Prop} (I:Inv X pins σ H s) (e:H a = some (.ins C dx fs)) (c:Cls X.K C) (n:jeq X.K C f) (l:fs.lookup f = some v)
  (h:∀ u s',Inv X pins σ H s'→RelV v u→Q u s'):wpAny (model X.prog X.w) A (getAttr (.ref a) f b) Q E s:=by
 obtain ⟨mA,O,r,_,_,_⟩:=jin I.hok e
 obtain ⟨u,hu,ru⟩:=RelO.some_of (v:=v) (o:=mA f) (by rw [← l]; exact r f)
 exact ju2 I.kIn O (c.get f) c.hd n hu (jpo ru) (h u _ (I.tok _) ru)
theorem jhh {m:Str} {g:Addr} {pl:Sem Bool} {Q:Value × List Value→Shared→Prop} (I:Inv X pins σ H s) (e:H a = some (.ins C dx fs)) (c:Cls X.K C) (k:Meth X.K C m g) (l:fs.lookup m = none)
  (h:Q (.ref g,[.ref a]) s):wpAny (model X.prog X.w) A (getMethod (.ref a) m pl) Q E s:=by
 obtain ⟨mA,O,r,_,_,_⟩:=jin I.hok e
 have hn:mA m = none:=RelO.none_of (by rw [← l]; exact r m)
 exact jri I.kIn O (c.get m) k.at_ k.fn hn h
theorem jmz {y:V} {u:Value} {Q:Unit→Shared→Prop} (I:Inv X pins σ H s) (e:H a = some (.ins C dx fs)) (c:Cls X.K C) (n:jeq X.K C f) (hl:fs.length < 1000) (ry:RelV y u)
  (h:∀ s',Inv X pins σ (upd H a (.ins C dx (putF f y fs))) s'→Q () s'):wpAny (model X.prog X.w) A (setAttr (.ref a) f u) Q E s:=by
 obtain ⟨mA,O,r,wi,_,ho⟩:=jin I.hok e
 have hz:(fs.map (·.1)).length ≤ sizeLine:=by rw [List.length_map,sizeLine_eq]; omega
 refine jsz I.kIn O c.sa c.po n.taker c.hd wi hz fun h' O' sb=>h _ ?_
 have hd:∃ o,h'.get? dx = some o:=let ⟨o,_,_,e',_⟩:=O'.ns; ⟨o,e'⟩
 refine I.write (x:=a) (e:=dx) (by rw [e]; exact True.intro) (.inr ho) (fun b q hb z=>(sb.2 b hb).trans z) hd ?_
 refine ⟨by rw [jas O.ne]; exact ho,?_,O.ne,O'.obj,_,O'.ns,fun g=>?_,fun g hg=>?_⟩
 ·have:=jgg f y fs; omega
 ·show RelO ((putF f y fs).lookup g) (if g = f then some u else mA g)
  rw [jgd]
  by_cases q:g = f
  ·rw [if_pos q,if_pos q]; exact ry
  ·rw [if_neg q,if_neg q]; exact r g
 ·by_cases q:g = f
  ·rw [q]; exact (jgh f y fs).1
  ·refine (jgh f y fs).2 g (wi g fun z=>hg ?_)
   show (if g = f then some u else mA g) = none
   rw [if_neg q]; exact z
theorem Inv.made (I:Inv X pins σ H s):Inv X pins σ (upd (upd H s.heap.objs.size (.own (s.heap.objs.size + 1))) (s.heap.objs.size + 1) (.ins C s.heap.objs.size []))
  { s with heap:=(s.heap.push PySem.W.emptyDict).push (PySem.W.instObj C s.heap.objs.size) }:=by
 have e1:(s.heap.push PySem.W.emptyDict).get? s.heap.objs.size = some PySem.W.emptyDict:=Heap.get?_push_size s.heap rfl
 have e2:((s.heap.push PySem.W.emptyDict).push (PySem.W.instObj C s.heap.objs.size)).get? (s.heap.objs.size + 1) = some (PySem.W.instObj C s.heap.objs.size):=by
  have:=Heap.get?_push_size (s.heap.push PySem.W.emptyDict) (o:=PySem.W.instObj C s.heap.objs.size) rfl
  rwa [Heap.size_push] at this
 have e3:(s.heap.push PySem.W.emptyDict).Ns s.heap.objs.size (fun _=>none):=⟨PySem.W.emptyDict,#[],_,e1,rfl,(fun e he=>absurd he (by simp)),fun _=>rfl⟩
 have I1:=I.laid (a:=s.heap.objs.size) (o:=.own (s.heap.objs.size + 1)) (h':=s.heap.push PySem.W.emptyDict) (t':=s.toks) (fun b u q=>Heap.get?_push_of_some _ q) (Nat.le_refl _) ⟨_,e1⟩
 refine I1.laid (a:=s.heap.objs.size + 1) (o:=.ins C s.heap.objs.size []) (t':=s.toks) (fun b u q=>Heap.get?_push_of_some _ q) (Nat.le_of_eq (Heap.size_push _ _)) ?_
 have ne:s.heap.objs.size ≠ s.heap.objs.size + 1:=Nat.ne_of_lt (Nat.lt_succ_self _)
 refine ⟨by rw [jas ne,ja1],Nat.zero_le _,ne,e2,fun _=>none,(Heap.Ns1.of_empty e3).at fun o q=>Heap.get?_push_of_some _ q,fun _=>True.intro,fun y hy=>absurd rfl hy⟩
theorem jud {prog:Program} {w:World} {env:Env} {e:Expr} {f:Str} {pos:Pos} {s:Shared} {Q:Value→Shared→Prop} (hb:attributeBase e f env (eval e env) = eval e env)
  (h:wpAny (model prog w) A (eval e env) (fun o s₁=>wpAny (model prog w) A (getAttr o f true) Q E s₁) E s):wpAny (model prog w) A (eval (.Attribute e f pos) env) Q E s :=
 Attribute_any_ h (by rw [arm_eval_Attribute,hb])
end
section
variable {X:Cx} {o e value:Expr} {f:Str} {pos pos' tpos:Pos} {ta tv:TE}
end
section
variable {X:Cx} {pins:List (Addr × Obj)} {σ:St} {H:Hp} {s:Shared} {A:Around} {E:Value→Shared→Prop} {Q:Value→Shared→Prop} {c:Value} {b:Bool}
inductive TyOf (K:PySem.W.Frag) (H:Hp):V→Value→Prop where
 | non:TyOf K H .non (.type "NoneType")
 | bl (x:Bool):TyOf K H (.bl x) (.type "bool")
 | int (i:Int):TyOf K H (.int i) (.type "int")
 | str (x:Str):TyOf K H (.str x) (.type "str")
 | flt (x:UInt64):TyOf K H (.flt x) (.type "float")
 | lst {a:Addr} {xs:List V} (e:H a = some (.lst xs)):TyOf K H (.ref a) (.type "list")
 | frz {a:Addr} {o:Obj} {xs:List V} (e:H a = some (.frz o (.lst xs))):TyOf K H (.ref a) (.type "list")
 | tup {a:Addr} {xs:List V} (e:H a = some (.tup xs)):TyOf K H (.ref a) (.type "tuple")
 | dK {a:Addr} {kvs:List (Key × V)} (e:H a = some (.dK kvs)):TyOf K H (.ref a) (.type "dict")
 | dT {a:Addr} {kvs:List (List Key × V)} (e:H a = some (.dT kvs)):TyOf K H (.ref a) (.type "dict")
 | ins {a C dx:Addr} {fs:List (Str × V)} (e:H a = some (.ins C dx fs)) (cl:Cls K C) (ha:PySem.W.findIn K (.ref C) "__class__" = some (some (.builtin "object.__class__")))
   (hn:PySem.W.specialIn K (.builtin "object.__class__") "__get__" = some (some (.builtin "getset_descriptor.__get__"))) (htk:PySem.W.takesIn K (.builtin "object.__class__") = some true)
   (hm:PySem.W.mroIn K C (.type "object") = some true):TyOf K H (.ref a) (.ref C)
theorem jpi {x:V} {u t:Value} (I:Inv X pins σ H s) (rx:RelV x u) (ty:TyOf X.K H x t) (e:PySem.W.kitOne X.K t c = some b) (h:∀ tk,Q (.bool b) { s with toks:=tk }) :
  wpAny (model X.prog X.w) A (call (.builtin "isinstance") [u,c]) Q E s:=by
 cases ty with
 | non=>cases (show u = Value.none from rx); exact PySem.W.kia_one PySem.W.kitx_none I.kIn True.intro e (fun z=>nomatch z) h
 | bl y=>cases (show u = Value.bool y from rx); exact PySem.W.kia_one PySem.W.kitx_bool I.kIn True.intro e (fun z=>nomatch z) h
 | int i=>obtain ⟨t,q⟩:=(show ∃ t,u = Value.int i t from rx); cases q; exact PySem.W.kia_one PySem.W.kitx_int I.kIn True.intro e (fun z=>nomatch z) h
 | str y=>obtain ⟨t,q⟩:=(show ∃ t,u = Value.str y t from rx); cases q; exact PySem.W.kia_one PySem.W.kitx_str I.kIn True.intro e (fun z=>nomatch z) h
 | flt y=>obtain ⟨t,q⟩:=(show ∃ t,u = Value.float y t from rx); cases q; exact PySem.W.kia_one PySem.W.kitx_float I.kIn True.intro e (fun z=>nomatch z) h
 | @lst a xs ea =>
  cases (show u = Value.ref a from rx)
  obtain ⟨_,_,n,_,h1⟩:=(show jcg X.prog X.w H s.heap a (.lst xs) from I.hok a _ ea)
  exact PySem.W.kia_one PySem.W.kitx_list I.kIn ⟨_,h1,rfl⟩ e (fun z=>nomatch z) h
 | @frz a ob xs ea =>
  cases (show u = Value.ref a from rx)
  obtain ⟨_,_,_,n,_,h1⟩:=(show jcg X.prog X.w H s.heap a (.frz ob (.lst xs)) from I.hok a _ ea)
  exact PySem.W.kia_one PySem.W.kitx_list I.kIn ⟨_,h1,rfl⟩ e (fun z=>nomatch z) h
 | @tup a xs ea =>
  cases (show u = Value.ref a from rx)
  obtain ⟨_,_,_,p⟩:=(show jcg X.prog X.w H s.heap a (.tup xs) from I.hok a _ ea)
  obtain ⟨o,h1,h2,_⟩:=p
  exact PySem.W.kia_one PySem.W.kitx_tuple I.kIn ⟨o,h1,h2⟩ e (fun z=>nomatch z) h
 | @dK a kvs ea =>
  cases (show u = Value.ref a from rx)
  obtain ⟨_,_,vs,_,p⟩:=(show jcg X.prog X.w H s.heap a (.dK kvs) from I.hok a _ ea)
  obtain ⟨o,es,ep,h1,h2,_⟩:=p
  exact PySem.W.kia_one PySem.W.kitx_dict I.kIn ⟨o,h1,h2.1⟩ e (fun z=>nomatch z) h
 | @dT a kvs ea =>
  cases (show u = Value.ref a from rx)
  obtain ⟨_,_,xs,_,o,es,ep,h1,h2,_⟩:=(show jcg X.prog X.w H s.heap a (.dT kvs) from I.hok a _ ea)
  exact PySem.W.kia_one PySem.W.kitx_dict I.kIn ⟨o,h1,h2.1⟩ e (fun z=>nomatch z) h
 | @ins a C dx fs ea cl ha hn htk hm =>
  cases (show u = Value.ref a from rx)
  obtain ⟨mA,O,_⟩:=jin I.hok ea
  obtain ⟨od,J,_⟩:=O.look
  exact PySem.W.kia_one (PySem.W.kitx_own (cl.get _) cl.hd ha hn htk hm) I.kIn J e (fun z=>nomatch z) h
end
end L2
namespace L2
open PySem PySem.Spec PyProof.Rows
structure Room (k:Nat) (A:Around):Prop where
 hd:A.handled = none
 dp:A.depth + 3 * k + 5 < recursionLimit
 un:A.units + 16 * k + 200 < cLine
 gd:A.guards = some []
theorem Room.mono {j k:Nat} {A:Around} (r:Room k A) (h:j ≤ k):Room j A:=⟨r.hd,by have:=r.dp; omega,by have:=r.un; omega,by first | exact r.gd | (simp only [Around.deeper,Around.in1,Around.under]; exact r.gd)⟩
theorem Room.deeper {k:Nat} {A:Around} (r:Room (k + 1) A) (env:Env):Room k (A.deeper env) :=
 ⟨r.hd,by have:=r.dp; show A.depth + 1 + 3 * k + 5 < _; omega,by have:=r.un; show A.units + 3 + 16 * k + 200 < _; omega,by first | exact r.gd | (simp only [Around.deeper,Around.in1,Around.under]; exact r.gd)⟩
theorem jnc {A:Around} {C:Addr} {us:List Value} {kw:List (Str × Value)}:(A.under (.builtin "type.__call__" ⟨.ref C :: us,kw⟩)).depth = A.depth + 1:=by
 first | rfl | simp [Around.under,Code.weight,Code.isCreation,Code.isGuard,Code.isCaller,Code.frames,Code.isFrame,guardIds]
theorem jnb {A:Around} {C:Addr} {us:List Value} {kw:List (Str × Value)}:(A.under (.builtin "type.__call__" ⟨.ref C :: us,kw⟩)).units = A.units + 1:=by
 first | rfl | simp [Around.under,Code.cUnits,Code.frames,Code.isFrame]
theorem Room.make {k:Nat} {A:Around} (r:Room (k + 1) A) (C:Addr) (us:List Value) (kw:List (Str × Value)):Room k (A.under (.builtin "type.__call__" ⟨.ref C :: us,kw⟩)) :=
 ⟨r.hd,by have:=r.dp; rw [jnc]; omega,by have:=r.un; rw [jnb]; omega,by first | exact r.gd | (simp only [Around.deeper,Around.in1,Around.under]; exact r.gd)⟩
theorem Room.depth {k:Nat} {A:Around} (r:Room k A):A.depth < recursionLimit:=by have:=r.dp; omega
theorem Room.units {k:Nat} {A:Around} (r:Room k A):A.units + 64 < cLine:=by have:=r.un; omega
def tNil:TA:=fun _ H Q=>Q [] H
def jam (ta:TE) (tr:TA):TA:=fun σ H Q=>ta σ H fun x H1=>tr σ H1 fun xs H2=>Q (x :: xs) H2
section
variable {X:Cx} {e:Expr} {es:List Expr} {te:TE} {t:TA} {pos:Pos}
theorem jai:PA X [] tNil:=fun _ _ _ _ H Q I h=>Calls.spliced_nil ⟨[],H,I,.nil,h⟩
theorem ja0 (ha:PE X e te) (hr:PA X es t) (hs:starEach (e :: es) X.env = (false,eval e X.env) :: starEach es X.env:=by rfl):PA X (e :: es) (jam te t):=by
 intro pos pins s σ H Q I h
 rw [hs]
 show wpAny _ _ (spliced ((false,eval e X.env) :: backTo pos (starEach es X.env))) _ _ s
 refine Calls.spliced_cons (thn (ha pins s σ H _ I h) fun u s1 ⟨x,H1,I1,r1,q1⟩=>?_)
 exact thn (hr pos pins s1 σ H1 _ I1 q1) fun us s2 ⟨xs,H2,I2,r2,q2⟩=>⟨x :: xs,H2,I2,.cons r1 r2,q2⟩
def tTup (t:TA):TE:=fun σ H Q=>t σ H fun xs H1=>xs.length ≤ sizeLine∧∀ p,H1 p = none→Q (.ref p) (upd H1 p (.tup xs))
def tLst (t:TA):TE:=fun σ H Q=>t σ H fun xs H1=>xs.length ≤ sizeLine∧∀ p,H1 p = none→Q (.ref p) (upd H1 p (.lst xs))
theorem jc4 {x1} (h:PA X es t):PE X (.Tuple es x1 pos) (tTup t):=by
 intro pins s σ H Q I hq
 refine wpAny_Tuple_spliced (thn (h pos pins s σ H _ I hq) fun us s1 ⟨xs,H1,I1,r,z,q⟩=>⟨by rw [← r.length]; exact z,?_⟩)
 have hf:H1 s1.heap.objs.size = none:=I1.hok.fresh (Nat.le_refl _)
 refine ⟨.ref s1.heap.objs.size,upd H1 s1.heap.objs.size (.tup xs),I1.laid (t':=s1.toks) (fun b u e=>Heap.get?_push_of_some _ e) (Nat.le_refl _) ?_,rfl,q _ hf⟩
 exact ⟨z,us,r,⟨_,Heap.get?_push_size _ rfl,rfl,_,rfl⟩⟩
theorem jcf (h:PA X es t):PE X (.List es pos) (tLst t):=by
 intro pins s σ H Q I hq
 refine wpAny_List_spliced (thn (h pos pins s σ H _ I hq) fun us s1 ⟨xs,H1,I1,r,z,q⟩=>⟨by rw [← r.length]; exact z,?_⟩)
 have hf:H1 s1.heap.objs.size = none:=I1.hok.fresh (Nat.le_refl _)
 refine ⟨.ref s1.heap.objs.size,upd H1 s1.heap.objs.size (.lst xs),I1.laid (t':=s1.toks) (fun b u e=>Heap.get?_push_of_some _ e) (Nat.le_refl _) ?_,rfl,q _ hf⟩
 exact ⟨z,us,0,r,Heap.get?_push_size _ rfl⟩
end
abbrev Sp:=List V→Hp→VK→XK→Prop
abbrev CXT:=List Env→Hp→Shared→XK→Value→Shared→Prop
structure Env0 (P:Program) (w:World) (K:PySem.W.Frag) (mg:Str→Option Value) (base:Heap) (A:Around) (outer:List Env) (s:Shared) (H:Hp):Prop where
 frames:A.frames = some outer
 mod:Mod K mg base
 bs:∀ b o,base.get? b = some o→s.heap.get? b = some o∧H b = none
 bsz:base.objs.size ≤ s.heap.objs.size
 funs:s.heap.FunFrames base outer
 frf:∀ b ∈ frs outer,H b = none
 hok:HOk P w H s.heap
 bare:AllBare s.gens
def CE (outer:List Env) (P:Program) (w:World) (H:Hp) (s:Shared) (Q:VK) (u:Value) (s':Shared):Prop :=
 ∃ v H',s'.os = s.os∧AllBare s'.gens∧Un (frs outer) [] H H' s.heap s'.heap∧HOk P w H' s'.heap∧RelV v u∧Q v H'
def CR (CX:CXT) (outer:List Env) (P:Program) (w:World) (H:Hp) (s:Shared) (Q:VK) (E:XK) (r:Result) (s':Shared):Prop :=
 match r with
 | .ok (.ret u)=>CE outer P w H s Q u s'
 | .ok _=>False
 | .error e=>CX outer H s E e s'
structure FnOk (P:Program) (w:World) (K:PySem.W.Frag) (mg:Str→Option Value) (base:Heap) (CX:CXT) (k:Nat) (f:Addr) (fd:FuncData) (ps:List Str) (sp:Sp):Prop where
 len:∀ vs H Q E,sp vs H Q E→vs.length = ps.length
 run:∀ (A:Around) (outer:List Env) (s:Shared) (H:Hp) (args:Args) (us:List Value) (vs:List V) (Q:VK) (E:XK),Room k A→Env0 P w K mg base A outer s H→BindsTo s fd args (ps.zip us)→Vals vs us→sp vs H Q E →
  codeAny (model P w) A (.call (.ref f) args) (CR CX outer P w H s Q E) s
theorem FnOk.mono {P:Program} {w:World} {K:PySem.W.Frag} {mg:Str→Option Value} {base:Heap} {CX:CXT} {j k:Nat} {f:Addr} {fd:FuncData} {ps:List Str} {sp:Sp} (F:FnOk P w K mg base CX j f fd ps sp) (h:j ≤ k) :
  FnOk P w K mg base CX k f fd ps sp:=⟨F.len,fun A outer s H args us vs Q E hr=>F.run A outer s H args us vs Q E (hr.mono h)⟩
theorem Env0.make {P:Program} {w:World} {K:PySem.W.Frag} {mg:Str→Option Value} {base:Heap} {A:Around} {outer:List Env} {s:Shared} {H:Hp} (e:Env0 P w K mg base A outer s H) (C:Addr) (us:List Value) (kw:List (Str × Value)) :
  Env0 P w K mg base (A.under (.builtin "type.__call__" ⟨.ref C :: us,kw⟩)) outer s H:=⟨by first | exact e.frames | (simpa [Around.under,Code.envs,Code.isFrame,pushEnvs] using e.frames),e.mod,e.bs,e.bsz,e.funs,e.frf,e.hok,e.bare⟩
section
variable {X:Cx} {pins:List (Addr × Obj)} {σ:St} {H:Hp} {s s':Shared}
theorem Inv.env0 (I:Inv X pins σ H s):Env0 X.prog X.w X.K X.mg X.base X.A X.stack s H :=
 ⟨I.ok.frames,I.ok.mod,I.bs,Nat.le_trans I.ok.bsz I.sz,I.stack,I.stkFree,I.hok,I.bare⟩
theorem Inv.after {Q:VK} {u:Value} (I:Inv X pins σ H s) (h:CE X.stack X.prog X.w H s Q u s'):EP X pins σ Q u s':=by
 obtain ⟨v,H',os,bare,un,hok,r,q⟩:=h
 obtain ⟨hh,g,d,t,os'⟩:=s'
 obtain rfl:os' = s.os:=os
 exact ⟨v,H',I.call (h':=hh) (g':=g) (d':=d) (t':=t) (ch:=[]) un hok bare (fun b z=>absurd z (by simp)),r,q⟩
end
def jaw (sp:Sp) (dvs:List V) (E:XK) (t:TA):TE:=fun σ H Q=>t σ H fun vs H1=>sp (vs ++ dvs) H1 Q E
def jsw (C:Addr) (m:Str) (sp:Sp) (dvs:List V) (E:XK) (ta:TE) (t:TA):TE:=fun σ H Q=>ta σ H fun x H1=>∃ a dx fs,x = .ref a∧H1 a = some (.ins C dx fs)∧fs.lookup m = none ∧
 t σ H1 fun vs H2=>sp (x :: (vs ++ dvs)) H2 Q E
def jb5 (C:Addr) (sp:Sp) (dvs:List V) (E:XK) (t:TA):TE:=fun σ H Q=>t σ H fun vs H1=>∀ x dx,H1 x = none→H1 dx = none→dx ≠ x →
 sp (.ref x :: (vs ++ dvs)) (upd (upd H1 dx (.own x)) x (.ins C dx [])) (fun v H2=>v = .non∧Q (.ref x) H2) E
def jer (K:PySem.W.Frag) (fd:FuncData) (ps:List Str) (ds:List Value):Prop :=
 ∀ (s:Shared) (us:List Value),K.In s.heap→(us ++ ds).length = ps.length→BindsTo s fd ⟨us,[]⟩ (ps.zip (us ++ ds))
theorem jer.all {K:PySem.W.Frag} {fd:FuncData} {ps:List Str} (h:∀ us:List Value,us.length = ps.length→bindArgs fd ⟨us,[]⟩ = pure (ps.zip us)):jer K fd ps []:=fun s us _ hl=>by
 rw [List.append_nil] at hl ⊢
 exact .of_eq (h us hl)
def jep (CX:CXT) (X:Cx) (E:XK):Prop:=∀ (pins:List (Addr × Obj)) (σ:St) (H:Hp) (s:Shared) (e:Value) (s':Shared),Inv X pins σ H s→CX X.stack H s E e s'→X.xe e s'
section
variable {X:Cx} {CX:CXT} {k:Nat} {f C:Addr} {fd:FuncData} {ps:List Str} {sp:Sp} {dvs:List V} {ds:List Value} {E:XK} {x m:Str} {p pos apos:Pos} {e o:Expr} {es:List Expr} {ta:TE} {t:TA}
theorem jok {pins:List (Addr × Obj)} {σ:St} {H:Hp} {s:Shared} {Q:VK} {us:List Value} {vs:List V} (F:FnOk X.prog X.w X.K X.mg X.base CX k f fd ps sp) (hr:Room k X.A) (hb:jer X.K fd ps ds) (hd:Vals dvs ds) (hx:jep CX X E)
  (I:Inv X pins σ H s) (r:Vals vs us) (h:sp (vs ++ dvs) H Q E):wpAny (model X.prog X.w) X.A (call (.ref f) us) (EP X pins σ Q) X.xe s:=by
 have r2:Vals (vs ++ dvs) (us ++ ds):=r.append hd
 have hl:(us ++ ds).length = ps.length:=by rw [← r2.length]; exact F.len _ _ _ _ h
 refine wpAny_call (codeAny_mono (F.run X.A X.stack s H ⟨us,[]⟩ (us ++ ds) (vs ++ dvs) Q E hr I.env0 (hb s us I.kIn hl) r2 h) fun r s' hq=>?_)
 cases r with
 | error e=>exact hx pins σ H s e s' I hq
 | ok fl =>
  cases fl with
  | ret u=>exact I.after hq
  | next=>exact False.elim hq
  | brk=>exact False.elim hq
  | cont=>exact False.elim hq
theorem jbe (F:FnOk X.prog X.w X.K X.mg X.base CX k f fd ps sp) (hr:Room k X.A) (hg:Gl X x) (hm:X.mg x = some (.ref f)) (hk:PySem.W.keepIn X.K (.ref f) = true) (hb:jer X.K fd ps ds) (hd:Vals dvs ds) (hx:jep CX X E)
  (ha:PA X (e :: es) t) (hdb:(x == ("__debug__":Str)) = false:=by decide) (he:starEach (e :: es) X.env = (false,eval e X.env) :: starEach es X.env:=by rfl) (hpl:(backTo pos (starEach es X.env)).any (·.1) = false:=by rfl) :
  PE X (.Call (.Name x p) (e :: es) [] pos) (jaw sp dvs E t):=by
 intro pins s σ H Q I h
 refine wpAny_Call_Name_kw (jla I hg hm ?_ hdb)
 refine PySem.W.callWith_K (h₀:=X.base) I.ok.mod.kin hk (thn (ha pos pins s σ H _ I h) fun us s1 ⟨vs,H1,I1,r,q⟩=>⟨I1.kIn,?_⟩) he hpl
 exact jok F hr hb hd hx I1 r q
theorem jt9 {pl:Sem Bool} (he:PE X o ta) (c:Cls X.K C) (hm:Meth X.K C m f) (F:FnOk X.prog X.w X.K X.mg X.base CX k f fd ps sp) (hr:Room k X.A) (hb:jer X.K fd ps ds) (hd:Vals dvs ds) (hx:jep CX X E) (ha:PA X (e :: es) t)
  (hst:starEach (e :: es) X.env = (false,eval e X.env) :: starEach es X.env:=by rfl) (hpl:(backTo pos (starEach es X.env)).any (·.1) = false:=by rfl)
  (ht:eval (.Call (.Attribute o m apos) (e :: es) [] pos) X.env = (do
   let ov ← eval o X.env
   standAt apos.atName
   let (f,first) ← holding [ov] (getMethod ov m pl)
   callWith pos f first (backTo pos (starEach (e :: es) X.env)) (backToKw pos (keywordEach [] X.env))):=by rfl) :
  PE X (.Call (.Attribute o m apos) (e :: es) [] pos) (jsw C m sp dvs E ta t):=by
 intro pins s σ H Q I h
 refine PySem.W.methodCall_KW (pl:=pl) (thn (he pins s σ H _ I h) fun u s1 ⟨x,H1,I1,rx,a,dx,fs,ex,ea,l,q⟩=>?_) ht
 subst ex
 obtain rfl:u = Value.ref a:=rx
 refine jhh I1 ea c hm l ?_
 refine PySem.W.callWith_K (first:=[.ref a]) (h₀:=X.base) I.ok.mod.kin hm.kp (thn (ha pos pins s1 σ H1 _ I1 q) fun us s2 ⟨vs,H2,I2,r,q2⟩=>⟨I2.kIn,?_⟩) hst hpl
 exact jok (us:=.ref a :: us) (vs:=.ref a :: vs) F hr hb hd hx I2 (.cons rfl r) q2
theorem jr0 {pl:Sem Bool} (he:PE X o ta) (c:Cls X.K C) (hm:Meth X.K C m f) (F:FnOk X.prog X.w X.K X.mg X.base CX k f fd ps sp) (hr:Room k X.A) (hb:jer X.K fd ps ds) (hd:Vals dvs ds) (hx:jep CX X E)
  (ht:eval (.Call (.Attribute o m apos) [] [] pos) X.env = (do
   let ov ← eval o X.env
   standAt apos.atName
   let (f,first) ← holding [ov] (getMethod ov m pl)
   callWith pos f first (backTo pos (starEach [] X.env)) (backToKw pos (keywordEach [] X.env))):=by rfl) :
  PE X (.Call (.Attribute o m apos) [] [] pos) (jsw C m sp dvs E ta tNil):=by
 intro pins s σ H Q I h
 refine PySem.W.methodCall_KW (pl:=pl) (thn (he pins s σ H _ I h) fun u s1 ⟨x,H1,I1,rx,a,dx,fs,ex,ea,l,q⟩=>?_) ht
 subst ex
 obtain rfl:u = Value.ref a:=rx
 refine jhh I1 ea c hm l ?_
 exact PySem.W.callWith_K0 (first:=[.ref a]) I1.kIn hm.kp (jok (us:=[.ref a]) (vs:=[.ref a]) F hr hb hd hx I1 (.cons rfl .nil) q)
structure Mk (K:PySem.W.Frag) (C f:Addr):Prop where
 makes:PySem.W.makesIn K C = true
 init:PySem.W.findIn K (.ref C) "__init__" = some (some (.ref f))
 fn:PySem.W.isFn K (.ref f) = true
 kp:PySem.W.keepIn K (.ref C) = true
theorem jqo {pins:List (Addr × Obj)} {σ:St} {H:Hp} {s:Shared} {Q:VK} {us:List Value} {vs:List V} (M:Mk X.K C f) (F:FnOk X.prog X.w X.K X.mg X.base CX k f fd ps sp) (hr:Room (k + 1) X.A) (hb:jer X.K fd ps ds) (hd:Vals dvs ds)
  (hx:jep CX X E) (I:Inv X pins σ H s) (r:Vals vs us)
  (h:∀ x dx,H x = none→H dx = none→dx ≠ x→sp (.ref x :: (vs ++ dvs)) (upd (upd H dx (.own x)) x (.ins C dx [])) (fun v H2=>v = .non∧Q (.ref x) H2) E) :
  wpAny (model X.prog X.w) X.A (call (.ref C) us) (EP X pins σ Q) X.xe s:=by
 have hq:=h (s.heap.objs.size + 1) s.heap.objs.size (I.hok.fresh (Nat.le_succ _)) (I.hok.fresh (Nat.le_refl _)) (Nat.ne_of_lt (Nat.lt_succ_self _))
 have I2:=Inv.made (C:=C) I
 have r2:Vals (V.ref (s.heap.objs.size + 1) :: (vs ++ dvs)) (Value.ref (s.heap.objs.size + 1) :: (us ++ ds)):=.cons rfl (r.append hd)
 have hl:(Value.ref (s.heap.objs.size + 1) :: us ++ ds).length = ps.length:=by
  have e:=r2.length
  rw [F.len _ _ _ _ hq] at e
  exact e.symm
 refine wpAny_call (jra (f:=f) I.kIn M.makes M.init (beq_iff_eq.mp M.fn) (codeAny_mono (F.run _ X.stack _ _ ⟨Value.ref (s.heap.objs.size + 1) :: us,[]⟩ (Value.ref (s.heap.objs.size + 1) :: (us ++ ds)) _ _ E (hr.make C us [])
  (I2.env0.make C us []) (hb _ (Value.ref (s.heap.objs.size + 1) :: us) I2.kIn hl) r2 hq) fun r s' hq'=>?_))
 cases r with
 | error e=>exact hx pins σ _ _ e s' I2 hq'
 | ok fl =>
  cases fl with
  | ret u =>
   obtain ⟨v,H',I3,rv,ev,q3⟩:=I2.after hq'
   subst ev
   exact ⟨rv,⟨V.ref (s.heap.objs.size + 1),H',I3,rfl,q3⟩⟩
  | next=>exact False.elim hq'
  | brk=>exact False.elim hq'
  | cont=>exact False.elim hq'
theorem jta (M:Mk X.K C f) (F:FnOk X.prog X.w X.K X.mg X.base CX k f fd ps sp) (hr:Room (k + 1) X.A) (hg:Gl X x) (hm:X.mg x = some (.ref C)) (hb:jer X.K fd ps ds) (hd:Vals dvs ds) (hx:jep CX X E)
  (ha:PA X (e :: es) t) (hdb:(x == ("__debug__":Str)) = false:=by decide) (he:starEach (e :: es) X.env = (false,eval e X.env) :: starEach es X.env:=by rfl) (hpl:(backTo pos (starEach es X.env)).any (·.1) = false:=by rfl) :
  PE X (.Call (.Name x p) (e :: es) [] pos) (jb5 C sp dvs E t):=by
 intro pins s σ H Q I h
 refine wpAny_Call_Name_kw (jla I hg hm ?_ hdb)
 refine PySem.W.callWith_K (h₀:=X.base) I.ok.mod.kin M.kp (thn (ha pos pins s σ H _ I h) fun us s1 ⟨vs,H1,I1,r,q⟩=>⟨I1.kIn,?_⟩) he hpl
 exact jqo M F hr hb hd hx I1 r q
end
section
variable {X:Cx} {CX:CXT} {k:Nat} {f C:Addr} {fd:FuncData} {ps ks:List Str} {sp:Sp} {E:XK} {x m:Str} {p pos apos kpos:Pos} {e o:Expr} {es:List Expr} {kws:List Keyword} {te ta:TE} {t tk:TA} {nm:Option Str}
variable {g:List Value→List Value→List Value} {gV:List V→List V→List V}
end
structure FnScope (N P:List Str) (sc:Scope):Prop where
 kind:sc.kind = .function
 co:sc.isCoroutine = false
 gen:sc.isGenerator = false
 nd:N.Nodup
 pre:N.take P.length = P
 par:∀ x ∈ P,sc.names.lookup x = some .local ∨ sc.names.lookup x = some .cell
 nofree:∀ y ∈ sc.names,y.2 ≠ .free
theorem jke {kindOf:Str→Option NameKind} {x:Str}:∀ {binds:List (Str × Value)} {m:Str→Option Value},(∀ v,(x,v) ∉ binds)→bindL kindOf binds m x = m x
 | [],_,_=>rfl
 | (n,v) :: r,m,h=>by
  unfold bindL
  rw [jke fun w hw=>h w (List.mem_cons_of_mem _ hw)]
  split
  ·have:x ≠ n:=by rintro rfl; exact h v List.mem_cons_self
   simp [this]
  ·rfl
theorem jkg {kindOf:Str→Option NameKind} {x:Str}:∀ {binds:List (Str × Value)} {m:Str→Option Value},(∀ v,(x,v) ∉ binds)→bindC kindOf binds m x = m x
 | [],_,_=>rfl
 | (n,v) :: r,m,h=>by
  unfold bindC
  rw [jkg fun w hw=>h w (List.mem_cons_of_mem _ hw)]
  split
  ·rfl
  ·have:x ≠ n:=by rintro rfl; exact h v List.mem_cons_self
   simp [this]
theorem jkf {kindOf:Str→Option NameKind} {x:Str} {v:Value}:∀ {P:List Str} {vs:List Value} {i:Nat} {m:Str→Option Value},P.Nodup→P[i]? = some x→vs[i]? = some v→kindOf x = some .local →
  bindL kindOf (P.zip vs) m x = some v
 | [],_,_,_,_,h,_,_=>by simp at h
 | _ :: _,[],_,_,_,_,h,_=>by simp at h
 | p :: P,w :: vs,0,m,nd,h1,h2,hk=>by
  simp at h1 h2; subst h1; subst h2
  show bindL kindOf ((p,w) :: P.zip vs) m p = _
  unfold bindL
  rw [jke fun v hv=>(List.nodup_cons.mp nd).1 (List.of_mem_zip hv).1,if_pos hk]
  simp
 | p :: P,w :: vs,i + 1,m,nd,h1,h2,hk=>by
  show bindL kindOf ((p,w) :: P.zip vs) m x = _
  unfold bindL
  exact jkf (i:=i) (List.nodup_cons.mp nd).2 (by simpa using h1) (by simpa using h2) hk
theorem jkh {kindOf:Str→Option NameKind} {x:Str} {v:Value}:∀ {P:List Str} {vs:List Value} {i:Nat} {m:Str→Option Value},P.Nodup→P[i]? = some x→vs[i]? = some v→kindOf x ≠ some .local →
  bindC kindOf (P.zip vs) m x = some v
 | [],_,_,_,_,h,_,_=>by simp at h
 | _ :: _,[],_,_,_,_,h,_=>by simp at h
 | p :: P,w :: vs,0,m,nd,h1,h2,hk=>by
  simp at h1 h2; subst h1; subst h2
  show bindC kindOf ((p,w) :: P.zip vs) m p = _
  unfold bindC
  rw [jkg fun v hv=>(List.nodup_cons.mp nd).1 (List.of_mem_zip hv).1,if_neg hk]
  simp
 | p :: P,w :: vs,i + 1,m,nd,h1,h2,hk=>by
  show bindC kindOf ((p,w) :: P.zip vs) m x = _
  unfold bindC
  exact jkh (i:=i) (List.nodup_cons.mp nd).2 (by simpa using h1) (by simpa using h2) hk
def start (N:List Str) (vs:List V):St:=vs.map some ++ List.replicate (N.length - vs.length) none
def cxOf (CX:CXT) (P:Program) (w:World) (K:PySem.W.Frag) (mg:Str→Option Value) (base:Heap) (N:List Str) (qual:Str) (scope:Scope) (f:Addr) (cd:Value) (A:Around) (outer:List Env) (s:Shared) (H:Hp) (E:XK):Cx where
 prog:=P
 w:=w
 K:=K
 mg:=mg
 base:=base
 A:=A.deeper (envOfC qual scope s.heap.objs.size f cd)
 N:=N
 s₀:=s
 H₀:=H
 env:=envOfC qual scope s.heap.objs.size f cd
 outer:=outer
 stack:=envOfC qual scope s.heap.objs.size f cd :: outer
 ex:=[]
 calm:=true
 fn:=fun _=>true
 pn:=[]
 xe:=fun e s'=>wpAny (model P w) (A.deeper (envOfC qual scope s.heap.objs.size f cd)) (leaving (envOfC qual scope s.heap.objs.size f cd) e) (fun _ s''=>CX outer H s E e s'') (fun e' s''=>CX outer H s E e' s'') s'
theorem jmq {sc:Scope} {n:Nat} {x:Str} (h:sc.names.lookup x = some .cell):∃ c,(cellsFrom n sc.names []).lookup x = some c:=by
 have q:=PySem.W.cellsFrom_some sc.names n [] (.inl h)
 exact Option.isSome_iff_exists.mp q
theorem jpj {CX:CXT} {P:Program} {w:World} {K:PySem.W.Frag} {mg:Str→Option Value} {base:Heap} {N ps:List Str} {qual:Str} {scope:Scope} {f:Addr} {cd:Value} {A:Around} {outer:List Env} {s s1:Shared} {H:Hp} {E:XK} {us:List Value} {vs:List V}
  (S:FnScope N ps scope) (hd:A.handled = none) (e0:Env0 P w K mg base A outer s H) (hl:vs.length = ps.length) (r:Vals vs us)
  (x:InCallC s s.heap.objs.size (bindL (envOfC qual scope s.heap.objs.size f cd).kindOf (ps.zip us) fun _=>none) (cellsFrom (s.heap.objs.size + 1) scope.names []) (bindC (envOfC qual scope s.heap.objs.size f cd).kindOf (ps.zip us) fun _=>none) s1) :
  Inv (cxOf CX P w K mg base N qual scope f cd A outer s H E) [] (start N vs) H s1:=by
 have hpl:ps.length ≤ N.length:=by have:=congrArg List.length S.pre; rw [List.length_take] at this; omega
 obtain ⟨h1,tk,rfl,hk⟩:=x.done
 have noA:∀ b:Addr,b ∉ (cxOf CX P w K mg base N qual scope f cd A outer s H E).ex:=fun b z=>absurd (show b ∈ ([]:List Addr) from z) (by simp)
 refine ⟨⟨e0.mod,S.kind,rfl,rfl,Nat.le_refl _,fun y z c h1 h2=>?_,fun y hy=>?_,fun y c _ h=>?_,fun _=>hd,Around.frames_deeper e0.frames,.inr ⟨rfl,rfl⟩,fun b z=>absurd z (noA b),e0.bs,e0.bsz,fun b _ _=>noA b,fun b z=>absurd z (noA b),e0.funs,e0.frf⟩,
  rfl,e0.bare,Un.kept hk,⟨_,x.toInCall.ns,fun i y v h1 h2 h3=>?_⟩,fun y c h=>⟨_,x.cell y c h⟩,e0.hok.fresh (Nat.le_refl _),fun y c h=>?_,fun p hp=>absurd (show p ∈ ([]:List (Addr × Obj)) from hp) (by simp),e0.hok.kept hk,?_⟩
 ·exact name_of_addr x.apart (PySem.mem_of_lookup h1) (PySem.mem_of_lookup h2)
 ·have hy:scope.names.lookup y = some .cell ∨ scope.names.lookup y = some .free:=hy
  rcases hy with hy | hy
  ·exact jmq hy
  ·exact absurd rfl (S.nofree _ (PySem.mem_of_lookup hy))
 ·exact Nat.le_of_lt (x.above y c (PySem.mem_of_lookup h))
 ·have hi:i < vs.length:=by
   unfold start at h2
   by_cases hi:i < vs.length
   ·exact hi
   ·rw [List.getElem?_append_right (by simpa using hi)] at h2
    rw [List.getElem?_replicate] at h2
    split at h2 <;> cases h2
  have ha:vs[i]? = some v:=by
   unfold start at h2
   rw [List.getElem?_append_left (by simpa using hi),List.getElem?_map] at h2
   cases e:vs[i]? with
   | none=>rw [e] at h2; cases h2
   | some a=>rw [e] at h2; cases h2; rfl
  obtain ⟨u,hu,rv⟩:=r.get ha
  have hp:ps[i]? = some y:=by
   rw [← S.pre,List.getElem?_take_of_lt (by omega)]; exact h1
  have ndP:ps.Nodup:=by rw [← S.pre]; exact S.nd.sublist (List.take_sublist _ _)
  refine ⟨u,rv,?_⟩
  rcases S.par y (List.mem_of_getElem? hp) with k | k
  ·exact .inl ⟨k,jkf ndP hp hu k⟩
  ·obtain ⟨c,e⟩:=jmq (n:=s.heap.objs.size + 1) k
   refine .inr ⟨.inl k,c,e,?_⟩
   have q:=x.cell y c e
   rw [jkh ndP hp hu (by show scope.names.lookup y ≠ _; rw [k]; decide)] at q
   exact q
 ·exact e0.hok.fresh (Nat.le_of_lt (x.above y c (PySem.mem_of_lookup h)))
 ·unfold start
  show _ = N.length
  rw [List.length_append,List.length_map,List.length_replicate]
  omega
theorem fn_of {CX:CXT} {P:Program} {w:World} {K:PySem.W.Frag} {mg:Str→Option Value} {base:Heap} {k:Nat} {f:Addr} {name qual:Str} {params:Arguments} {body:List Stmt} {scope:Scope} {dV kV doc pm cdv ct oc:Value} {an od:Option Addr}
  {osl:Array (Option Value)} {N ps:List Str} {sp:Sp} (lk:K.lookup f = some ⟨oc,od,.func (PySem.W.fnOf name qual params body scope dV kV doc pm an cdv ct),osl⟩) (hcd:PySem.W.codeIn K cdv qual = true) (S:FnScope N ps scope)
  (len:∀ vs H Q E,sp vs H Q E→vs.length = ps.length)
  (hbody:∀ (A:Around) (outer:List Env) (s:Shared) (H:Hp) (vs:List V) (Q:VK) (E:XK),Room k (A.deeper (envOfC qual scope s.heap.objs.size f cdv))→sp vs H Q E →
   ∃ t,PSs (cxOf CX P w K mg base N qual scope f cdv A outer s H E) body t∧t { nx:=fun _ H'=>Q .non H',rt:=Q } (start N vs) H) :
  FnOk P w K mg base CX (k + 1) f (PySem.W.fnOf name qual params body scope dV kV doc pm an cdv ct) ps sp:=by
 refine ⟨len,fun A outer s H args us vs Q E hr e0 hb r hsp=>?_⟩
 have hl:=len _ _ _ _ hsp
 have KX:K.In s.heap:=e0.mod.kin.keeps fun b o e=>(e0.bs b o e).1
 have lim:s.heap.NoLimit:=e0.mod.nolimit.keeps fun b o e=>(e0.bs b o e).1
 have hkind:∀ y ∈ ps.zip us,scope.names.lookup y.1 = some .local ∨ (scope.names.lookup y.1 = some .cell∧((cellsFrom (s.heap.objs.size + 1) scope.names []).lookup y.1).isSome = true):=fun ⟨n,v⟩ hy=>by
  rcases S.par n (List.of_mem_zip hy).1 with q | q
  ·exact .inl q
  ·exact .inr ⟨q,PySem.W.cellsFrom_some _ _ _ (.inl q)⟩
 refine codeAny_call_function hr.depth (KX _ _ lk) rfl S.co S.gen rfl (PySem.W.codeRec_of KX hcd) (hb _ _ _ _ ?_)
 refine wpAny_newFunctionEnv_cells S.kind hkind fun env he s1 x=>?_
 subst he
 refine ⟨lim.keeps x.toInCall.keep,codeAny_func ?_⟩
 obtain ⟨t,ht,hq⟩:=hbody A outer s H vs Q E (hr.deeper _) hsp
 have I:Inv (cxOf CX P w K mg base N qual scope f cdv A outer s H E) [] (start N vs) H s1:=jpj S hr.hd e0 hl r x
 refine wpAny_mono (ht [] s1 (start N vs) H _ I hq) (fun fl s' hs=>?_) fun e s' hs=>hs
 have fin:∀ {σ':St} {H':Hp} {v:V} {u:Value},Inv (cxOf CX P w K mg base N qual scope f cdv A outer s H E) [] σ' H' s'→RelV v u→Q v H'→CE outer P w H s Q u s' :=
  fun {σ' H' v u} J rv q=>⟨v,H',J.os,J.bare,J.base,J.hok,rv,q⟩
 cases fl with
 | ret u =>
  obtain ⟨v,σ',H',J,rv,q⟩:=hs
  exact fin J rv q
 | next =>
  obtain ⟨σ',H',J,q⟩:=hs
  exact fin (v:=V.non) (u:=Value.none) J rfl q
 | brk =>
  obtain ⟨_,_,_,q⟩:=hs
  exact False.elim q
 | cont =>
  obtain ⟨_,_,_,q⟩:=hs
  exact False.elim q
end L2
namespace L2
open PySem PySem.Spec PyProof.Rows
section
variable {X:Cx} {x:Str} {p pos:Pos} {e:Expr} {es:List Expr} {t:TA} {id T:String} {r:List V→Hp→VK→Prop}
def tCB (r:List V→Hp→VK→Prop) (t:TA):TE:=fun σ H Q=>t σ H fun vs H1=>r vs H1 Q
theorem jbk (hc:jcr X (.builtin id) r) (hg:Gl X x) (hm:X.mg x = none) (hv:bootBuiltins x = some (.builtin id)) (ha:PA X (e :: es) t) (hn:x ≠ "__name__":=by decide) (hdb:(x == ("__debug__":Str)) = false:=by decide)
  (he:starEach (e :: es) X.env = (false,eval e X.env) :: starEach es X.env:=by rfl) (hpl:(backTo pos (starEach es X.env)).any (·.1) = false:=by rfl):PE X (.Call (.Name x p) (e :: es) [] pos) (tCB r t):=by
 intro pins s σ H Q I h
 refine wpAny_Call_Name_kw (jhd I hg hm hv ?_ hn hdb)
 exact PyProof.Rows.callWith_builtin1 (thn (ha pos pins s σ H _ I h) fun us s1 ⟨vs,H1,I1,r1,q1⟩=>hc pins s1 σ H1 vs us Q I1 r1 q1) he hpl
theorem jcx (hc:jcr X (.type T) r) (hg:Gl X x) (hm:X.mg x = none) (hv:bootBuiltins x = some (.type T)) (ha:PA X (e :: es) t) (hn:x ≠ "__name__":=by decide) (hdb:(x == ("__debug__":Str)) = false:=by decide)
  (he:starEach (e :: es) X.env = (false,eval e X.env) :: starEach es X.env:=by rfl) (hpl:(backTo pos (starEach es X.env)).any (·.1) = false:=by rfl):PE X (.Call (.Name x p) (e :: es) [] pos) (tCB r t):=by
 intro pins s σ H Q I h
 refine wpAny_Call_Name_kw (jhd I hg hm hv ?_ hn hdb)
 exact PyProof.Rows.callWith_type1 (thn (ha pos pins s σ H _ I h) fun us s1 ⟨vs,H1,I1,r1,q1⟩=>hc pins s1 σ H1 vs us Q I1 r1 q1) he hpl
end
end L2
namespace HT
open PySem PyProof.Rows
def lexLt:List Int→List Int→Bool
 | [],[]=>false
 | [],_ :: _=>true
 | _ :: _,[]=>false
 | x :: xs,y :: ys=>if x = y then lexLt xs ys else decide (x < y)
theorem lexLt_cons (x y:Int) (xs ys:List Int):lexLt (x :: xs) (y :: ys) = if x = y then lexLt xs ys else decide (x < y):=rfl
theorem jih:lexLt [] [] = false:=rfl
theorem jh0 (y:Int) (ys:List Int):lexLt [] (y :: ys) = true:=rfl
theorem jh1 (x:Int) (xs:List Int):lexLt (x :: xs) [] = false:=rfl
theorem jrm (A:Around) (s:Shared) (a:Int) (t:Tok) (c:Int) (u:Tok):∃ e,SeqAt.EqAt A s (.int a t) (.int c u) e∧(e = true ↔ a = c) :=
 ⟨(a == c),SeqAt.EqAt.int_int a t c u,by simp⟩
theorem jqq (A:Around) (s:Shared) (a:Int) (t:Tok) (c:Int) (u:Tok) (prog:Program) (w:World) (E:Value→Shared→Prop) (Q:Value→Shared→Prop) (h:Q (.bool (decide (a < c))) s) :
  wpAny (model prog w) A (richCompare .Lt (.int a t) (.int c u)) Q E s :=
 (PyProof.Rows.lt_int h:wpAny (model prog w) A (compareOp .Lt (.int a t) (.int c u)) Q E s)
section
open PySem.SeqAt
open PySem.AutoSeq1 (wpAny_loadPart')
open PySem.MeetsSeq PySem.MeetsSeq2 PySem.MeetsSeq3
theorem jhm (l b:Addr) (items items2:Array Value) (n n2:Nat) (dd dd2:Option Addr) (sl sl2:Array (Option Value)) (ns ms:List Int) (hi:IntsAre items.toList ns) (hj:IntsAre items2.toList ms) :
  Meets (Builtin.«tuple.__lt__» ⟨[.ref l,.ref b],[]⟩)
   (fun _ R s=>s.heap.get? l = some { cls:=.type "tuple",dict:=dd,data:=.seq items n,slots:=sl }∧s.heap.get? b = some { cls:=.type "tuple",dict:=dd2,data:=.seq items2 n2,slots:=sl2 } ∧
    R (.ok (.ret (.bool (lexLt ns ms)))) s) :=
 .of_wp fun prog w A R s h=>by
  obtain ⟨hp,g,d,tk,os⟩:=s; obtain ⟨hl,hb,h⟩:=h
  have f2:=AutoSeq1.sub_tuple_tuple
  have z1:items.size = ns.length:=by rw [← hi.length]; simp
  have z2:items2.size = ms.length:=by rw [← hj.length]; simp
  wp_walk using wpAny_loadPart' hl,wpAny_loadPart' hb,wpAny_forIn_list _ (fun rest b s'=>b.1 = none∧s' = ⟨hp,g,d,tk,os⟩∧∃ (vs ws:List Value) (ns' ms':List Int),rest = vs.zip ws ∧
   IntsAre vs ns'∧IntsAre ws ms'∧ns'.length + items2.size = ms'.length + items.size∧R (.ok (.ret (.bool (lexLt ns' ms')))) ⟨hp,g,d,tk,os⟩) _
  case turn =>
   rintro ⟨y,x⟩ rest b s' ⟨hb',rfl,vs,ws,ns',ms',hz,hvi,hwi,hlen,hR⟩
   cases hvi with
   | nil=>rw [List.zip_nil_left] at hz; cases hz
   | cons a t hvi' =>
    cases hwi with
    | nil=>rw [List.zip_nil_right] at hz; cases hz
    | cons c u hwi' =>
     rw [List.zip_cons_cons] at hz
     injection hz with hyx hrest
     injection hyx with hy hx
     subst hy hx
     rw [lexLt_cons] at hR
     simp only [List.length_cons] at hlen
     obtain ⟨e,he,hiff⟩:=jrm A.in1 ⟨hp,g,d,tk,os⟩ a t c u
     refine wpAny_bind (he prog w _ _ ?_)
     cases e with
     | true =>
      rw [if_pos (hiff.mp rfl)] at hR
      wp_walk
      exact ⟨rfl,rfl,_,_,_,_,hrest,hvi',hwi',by omega,hR⟩
     | false =>
      rw [if_neg (fun q=>absurd (hiff.mpr q) Bool.false_ne_true)] at hR
      have hri:=jqq A.in1 ⟨hp,g,d,tk,os⟩ a t c u prog w
      wp_walk using hri
      exact ⟨_,rfl,by simpa using hR⟩
  case fin =>
   rintro ⟨b1,b2⟩ s' ⟨hb',rfl,vs,ws,ns',ms',hz,hvi,hwi,hlen,hR⟩
   simp only at hb'
   subst hb'
   have hv:lexLt ns' ms' = decide (items.size < items2.size):=by
    cases hvi with
    | nil =>
     cases hwi with
     | nil =>
      simp only [List.length_nil] at hlen
      rw [jih]
      exact (decide_eq_false (by omega)).symm
     | cons c u hw =>
      simp only [List.length_nil,List.length_cons] at hlen
      rw [jh0]
      exact (decide_eq_true (by omega)).symm
    | cons a t hv =>
     cases hwi with
     | nil =>
      simp only [List.length_nil,List.length_cons] at hlen
      rw [jh1]
      exact (decide_eq_false (by omega)).symm
     | cons c u hw =>
      rw [List.zip_cons_cons] at hz
      cases hz
   rw [hv] at hR
   wp_walk
   exact ⟨_,rfl,by simpa [Builtin.Tuple.tupleCompareSizes] using hR⟩
  case h =>
   exact ⟨rfl,rfl,items.toList,items2.toList,ns,ms,rfl,hi,hj,by omega,h⟩
end
section
variable {prog:Program} {w:World} {A:Around} {E:Value→Shared→Prop} {s:Shared}
theorem lt_tupInts {l b:Addr} {items items2:Array Value} {ns ms:List Int} {Q:Value→Shared→Prop} (hl:IsTup s.heap l items) (hb:IsTup s.heap b items2) (hi:IntsAre items.toList ns) (hj:IntsAre items2.toList ms)
  (hu:A.units < cLine) (h:Q (.bool (lexLt ns ms)) s):wpAny (model prog w) A (compareOp .Lt (.ref l) (.ref b)) Q E s:=by
 obtain ⟨⟨cls,dd,data,sl⟩,ho,hc,n,hd⟩:=id hl
 obtain ⟨⟨cls2,dd2,data2,sl2⟩,ho2,hc2,n2,hd2⟩:=id hb
 simp only at hc hd hc2 hd2
 subst hc hd hc2 hd2
 exact richCompare_meets_room (op:=.Lt) ⟨_,ho,rfl⟩ ⟨_,ho2,rfl⟩ PySem.F.slot_tuple_lt PySem.F.entry_tuple_lt (PySem.F.args_tuple_lt_2 _ _) (jhm l b items items2 n n2 dd dd2 sl sl2 ns ms hi hj)
  ⟨ho,ho2,show Value.bool (lexLt ns ms) ≠ Value.notImplemented∧Q (.bool (lexLt ns ms)) s from ⟨(fun x=>nomatch x),h⟩⟩ hu
def sIx (n d:Nat):Option Int→Nat
 | none=>d
 | some v=>if v < 0 then (v + (n:Int)).toNat else min v.toNat n
end
end HT
namespace L2
open PySem PySem.Spec PyProof.Rows
abbrev TO:=St→Hp→(Option Int→Hp→Prop)→Prop
def PO (X:Cx) (e:Option Expr) (t:TO):Prop :=
 ∀ (pins:List (Addr × Obj)) (s:Shared) (σ:St) (H:Hp) (Q:Option Int→Hp→Prop),Inv X pins σ H s→t σ H Q →
  wpAny (model X.prog X.w) X.A (evalPart e X.env) (fun u s'=>∃ o H',Inv X pins σ H' s'∧IsPart u o∧Q o H') X.xe s
def ja4:TO:=fun _ H Q=>Q none H
theorem jdd {ns:List Int}:∀ {us:List Value},Vals (ns.map V.int) us→IntsAre us ns:=by
 induction ns with
 | nil=>intro us r; rw [List.map_nil] at r; cases r; exact .nil
 | cons n ns ih =>
  intro us r
  rw [List.map_cons] at r
  cases r with
  | cons r1 r2 =>
   obtain ⟨t,e⟩:=r1
   subst e
   exact .cons n t (ih r2)
section
variable {X:Cx} {e:Expr} {te:TE} {lo hi:Option Expr} {tl th:TO} {pos p2:Pos}
theorem ji5:PO X none ja4:=by
 intro pins s σ H Q I h
 rw [evalPart_none]
 exact wpAny_pure ⟨none,H,I,.none,h⟩
def SlR (X:Cx) (r:V→Option Int→Option Int→Hp→VK→Prop):Prop :=
 ∀ (pins:List (Addr × Obj)) (s:Shared) (σ:St) (H:Hp) (x:V) (v vl vu:Value) (lo hi:Option Int) (sl:Addr) (Q:VK),Inv X pins σ H s→RelV x v→s.heap.IsSliceOf sl vl vu .none→IsPart vl lo→IsPart vu hi→r x lo hi H Q →
  ∃ T id,typeLookup (.type T) "__getitem__" = pure (some (.builtin id))∧s.TypeIs v T∧wpAny (model X.prog X.w) X.A (getItem v (.ref sl)) (EP X pins σ Q) X.xe s
theorem SlR.or {r r':V→Option Int→Option Int→Hp→VK→Prop} (h:SlR X r) (h':SlR X r'):SlR X (fun x lo hi H Q=>r x lo hi H Q ∨ r' x lo hi H Q):=by
 intro pins s σ H x v vl vu lo hi sl Q I rx hs pl pu q
 rcases q with q | q
 ·exact h pins s σ H x v vl vu lo hi sl Q I rx hs pl pu q
 ·exact h' pins s σ H x v vl vu lo hi sl Q I rx hs pl pu q
def tSl (r:V→Option Int→Option Int→Hp→VK→Prop) (te:TE) (tl th:TO):TE:=fun σ H Q=>te σ H fun x H1=>tl σ H1 fun l H2=>th σ H2 fun u H3=>r x l u H3 Q
theorem jfj {r:V→Option Int→Option Int→Hp→VK→Prop} (hr:SlR X r) (he:PE X e te) (hl:PO X lo tl) (hu:PO X hi th):PE X (.Subscript e (.Slice lo hi none p2) pos) (tSl r te tl th):=by
 intro pins s σ H Q I h
 refine Subscript_ (thn (he pins s σ H _ I h) fun v s1 ⟨x,H1,I1,r1,q1⟩=>?_)
 refine wpAny_Slice (thn (hl pins s1 σ H1 _ I1 q1) fun vl s2 ⟨l,H2,I2,pl,q2⟩=>thn (hu pins s2 σ H2 _ I2 q2) fun vu s3 ⟨u,H3,I3,pu,q3⟩=>?_)
 rw [evalPart_none]
 refine wpAny_pure ?_
 have I4:Inv X pins σ H3 { s3 with heap:=s3.heap.push { cls:=.type "slice",data:=.fields #[vl,vu,.none] } }:=I3.kept (t':=s3.toks) fun b ob q=>Heap.get?_push_of_some _ q
 obtain ⟨T,id,hT,ht,hg⟩:=hr pins { s3 with heap:=s3.heap.push { cls:=.type "slice",data:=.fields #[vl,vu,.none] } } σ H3 x v vl vu l u s3.heap.objs.size Q I4 r1 (Heap.IsSliceOf.new ..) pl pu q3
 show wpAny (model X.prog X.w) X.A (subscriptTail e (.Slice lo hi none p2) v (.ref s3.heap.objs.size)) (EP X pins σ Q) X.xe { s3 with heap:=s3.heap.push { cls:=.type "slice",data:=.fields #[vl,vu,.none] } }
 exact tail_any (ops:=[.ref s3.heap.objs.size,v]) ht hT hg (by with_unfolding_all rfl)
def cutV (xs:List V) (lo hi:Option Int):List V:=(xs.drop (HT.sIx xs.length 0 lo)).take (HT.sIx xs.length xs.length hi - HT.sIx xs.length 0 lo)
theorem jlh (xs:List V) (lo hi:Option Int):(cutV xs lo hi).length ≤ xs.length:=by
 unfold cutV
 rw [List.length_take,List.length_drop]
 omega
def rLtT (K:PySem.W.Frag):R2:=fun x y H Q=>∃ a b ns ms,x = .ref a∧y = .ref b∧SqT K H a (ns.map V.int)∧SqT K H b (ms.map V.int)∧Q (.bl (HT.lexLt ns ms)) H
theorem op_ltT (hu:X.A.units < cLine):OpR X (compareOp .Lt) (rLtT X.K):=by
 intro pins s σ H x y v u Q I rx ry h
 obtain ⟨a,b,ns,ms,rfl,rfl,ha,hb,q⟩:=h
 cases rx
 cases ry
 obtain ⟨its,r1,p1,_⟩:=I.tuple ha
 obtain ⟨its2,r2,p2,_⟩:=I.tuple hb
 have i1:IntsAre its.toArray.toList ns:=jdd r1
 have i2:IntsAre its2.toArray.toList ms:=jdd r2
 exact HT.lt_tupInts p1 p2 i1 i2 hu ⟨.bl (HT.lexLt ns ms),H,I,rfl,q⟩
end
end L2
namespace L2
open PySem PySem.Spec PyProof.Rows
def ixN (n:Nat) (i:Int):Option Nat:=if 0 ≤ i then (if i < n then some i.toNat else none) else if -(n:Int) ≤ i then some (i + n).toNat else none
def atI {α:Type} (xs:List α) (i:Int):Option α:=(ixN xs.length i).bind fun j=>xs[j]?
theorem jpf {n:Nat} {i:Int} {j:Nat} (h:ixN n i = some j):seqIndex? i n = some j∧j < n∧-(n:Int) ≤ i∧i < n:=by
 unfold ixN at h
 by_cases h0:0 ≤ i
 ·rw [if_pos h0] at h
  by_cases h1:i < n
  ·rw [if_pos h1] at h
   have e:i.toNat = j:=Option.some.inj h
   exact ⟨by rw [seqIndex_of h0 h1,e],by omega,by omega,h1⟩
  ·rw [if_neg h1] at h; cases h
 ·rw [if_neg h0] at h
  by_cases h1:-(n:Int) ≤ i
  ·rw [if_pos h1] at h
   have e:(i + n).toNat = j:=Option.some.inj h
   exact ⟨by rw [seqIndex_neg (by omega) h1,e],by omega,h1,by omega⟩
  ·rw [if_neg h1] at h; cases h
theorem jlk {α:Type} {xs:List α} {i:Int} {v:α} (h:atI xs i = some v):∃ j,seqIndex? i xs.length = some j∧xs[j]? = some v∧j < xs.length∧-(xs.length:Int) ≤ i∧i < xs.length:=by
 unfold atI at h
 cases e:ixN xs.length i with
 | none=>rw [e] at h; cases h
 | some j =>
  rw [e] at h
  obtain ⟨h1,h2,h3,h4⟩:=jpf e
  exact ⟨j,h1,h,h2,h3,h4⟩
theorem jdc {α:Type} {xs:List α} {j:Nat} {v:α} (h:xs[j]? = some v):atI xs (j:Int) = some v:=by
 have hj:j < xs.length:=(List.getElem?_eq_some_iff.mp h).1
 have e:ixN xs.length (j:Int) = some j:=by
  unfold ixN
  rw [if_pos (by omega),if_pos (by omega)]; simp
 unfold atI; rw [e]; exact h
theorem jmr {α:Type} (xs:List α) (v:α):atI (xs ++ [v]) (-1) = some v:=by
 have hl:(xs ++ [v]).length = xs.length + 1:=by simp
 have e:ixN (xs ++ [v]).length (-1) = some xs.length:=by
  unfold ixN
  rw [hl,if_neg (by decide),if_pos (by omega)]
  congr 1
  omega
 unfold atI
 rw [e]
 show (xs ++ [v])[xs.length]? = some v
 simp
def juf (b:Expr):Prop:=∀ o i,subscripted b false o i = operate [o,i] (getItem o i)
def IxR (X:Cx) (r:R2):Prop :=
 ∀ (value slice:Expr) (pins:List (Addr × Obj)) (s:Shared) (σ:St) (H:Hp) (x y:V) (v u:Value) (Q:VK),Inv X pins σ H s→RelV x v→RelV y u→r x y H Q →
  subscripted slice false v u = operate [v,u] (getItem v u)→wpAny (model X.prog X.w) X.A (subscriptTail value slice v u) (EP X pins σ Q) X.xe s
def MtR (X:Cx) (id:String) (r:V→List V→Hp→VK→Prop):Prop :=
 ∀ (pins:List (Addr × Obj)) (s:Shared) (σ:St) (H:Hp) (x:V) (xs:List V) (v:Value) (us:List Value) (Q:VK),Inv X pins σ H s→RelV x v→Vals xs us→r x xs H Q →
  wpAny (model X.prog X.w) X.A (call (.builtin id) (v :: us)) (EP X pins σ Q) X.xe s
section
variable {X:Cx} {a b:Expr} {ta tb:TE} {pos:Pos}
theorem IxR.or {r r':R2} (h:IxR X r) (h':IxR X r'):IxR X (fun x y H Q=>r x y H Q ∨ r' x y H Q):=by
 intro value slice pins s σ H x y v u Q I rx ry q hs
 rcases q with q | q
 ·exact h value slice pins s σ H x y v u Q I rx ry q hs
 ·exact h' value slice pins s σ H x y v u Q I rx ry q hs
theorem MtR.or {id:String} {r r':V→List V→Hp→VK→Prop} (h:MtR X id r) (h':MtR X id r'):MtR X id (fun x xs H Q=>r x xs H Q ∨ r' x xs H Q):=by
 intro pins s σ H x xs v us Q I rx rs q
 rcases q with q | q
 ·exact h pins s σ H x xs v us Q I rx rs q
 ·exact h' pins s σ H x xs v us Q I rx rs q
theorem jbl {r:R2} (hr:IxR X r) (ha:PE X a ta) (hb:PE X b tb) (hs:juf b):PE X (.Subscript a b pos) (tOp r ta tb):=by
 intro pins s σ H Q I h
 exact Subscript_ (binT ha hb I h fun v u s2 x y H2 I2 rx ry q=>hr a b pins s2 σ H2 x y v u Q I2 rx ry q (hs _ _))
def rIxL (K:PySem.W.Frag):R2:=fun x y H Q=>∃ p xs i v,x = .ref p∧y = .int i∧SqL K H p xs∧atI xs i = some v∧Q v H
def rIxT (K:PySem.W.Frag):R2:=fun x y H Q=>∃ p xs i v,x = .ref p∧y = .int i∧SqT K H p xs∧atI xs i = some v∧Q v H
theorem jpe:IxR X (rIxL X.K):=by
 intro value slice pins s σ H x y v u Q I rx ry h hs
 obtain ⟨p,xs,i,z,rfl,rfl,hq,he,q⟩:=h
 cases rx
 obtain ⟨t,rfl⟩:=ry
 obtain ⟨its,r,pl,hz⟩:=I.list hq
 obtain ⟨j,h1,h2,h3,h4,h5⟩:=jlk he
 obtain ⟨w,ew,rw'⟩:=r.get h2
 have hl:=r.length
 have hn:=jgf
 have fin:EP X pins σ Q w s:=⟨z,H,I,rw',q⟩
 by_cases h0:0 ≤ i
 ·have hj:i.toNat = j:=by
   rw [seqIndex_of h0 h5] at h1
   exact Option.some.inj h1
  exact item_listR pl.isList h0 (by omega) (by rw [hj]; simpa using ew) fin hs
 ·have hj:(i + (its.toArray.size:Int)).toNat = j:=by
   rw [seqIndex_neg (by omega) h4] at h1
   rw [List.size_toArray,← hl]
   exact Option.some.inj h1
  exact subscriptTail_builtinR (x:=w) pl.isList.typeIs slot_list_getitem.lookup
   (wpAny_getItem_list_neg (Q:=fun r s'=>r = w∧EP X pins σ Q r s') pl.isList (by omega) (by rw [List.size_toArray] <;> omega) (by omega) (by rw [hj]; simpa using ew) ⟨rfl,fin⟩) hs
theorem ix_tup:IxR X (rIxT X.K):=by
 intro value slice pins s σ H x y v u Q I rx ry h hs
 obtain ⟨p,xs,i,z,rfl,rfl,hq,he,q⟩:=h
 cases rx
 obtain ⟨t,rfl⟩:=ry
 obtain ⟨its,r,pl,hz⟩:=I.tuple hq
 obtain ⟨j,h1,h2,h3,h4,h5⟩:=jlk he
 obtain ⟨w,ew,rw'⟩:=r.get h2
 have hl:=r.length
 have hn:=jgf
 have fin:EP X pins σ Q w s:=⟨z,H,I,rw',q⟩
 exact subscriptTail_builtinR (x:=w) pl.typeIs slot_tuple_getitem.lookup
  (getItem_tuple (j:=j) (Q:=fun r s'=>r = w∧EP X pins σ Q r s') pl (by omega) (by omega) (by rw [List.size_toArray,← hl]; exact h1) (by simpa using ew) ⟨rfl,fin⟩) hs
theorem jna (its:List Value) (n j:Nat) (u:Value):Obj.mapSeq (·.setIfInBounds j u) { cls:=.type "list",data:=.seq its.toArray n } = { cls:=.type "list",data:=.seq (its.set j u).toArray n }:=by
 simp [Obj.mapSeq]
theorem Inv.lst {pins:List (Addr × Obj)} {σ:St} {H:Hp} {s:Shared} {p:Addr} {xs:List V} (I:Inv X pins σ H s) (h:H p = some (.lst xs)) :
  ∃ (its:List Value) (n:Nat),Vals xs its∧s.heap.get? p = some { cls:=.type "list",data:=.seq its.toArray n }∧xs.length ≤ sizeLine:=by
 obtain ⟨z,its,n,r,e⟩:=I.hok p _ h
 exact ⟨its,n,r,e,z⟩
theorem Inv.lstUpd {pins:List (Addr × Obj)} {σ:St} {H:Hp} {s:Shared} {p:Addr} {xs ys:List V} {its its':List Value} {n n':Nat} {f:Obj→Obj} (I:Inv X pins σ H s) (h:H p = some (.lst xs))
  (ho:s.heap.get? p = some { cls:=.type "list",data:=.seq its.toArray n }) (hf:f { cls:=.type "list",data:=.seq its.toArray n } = { cls:=.type "list",data:=.seq its'.toArray n' }) (r:Vals ys its') (hz:ys.length ≤ sizeLine) (t:Nat) :
  Inv X pins σ (upd H p (.lst ys)) { s with heap:=s.heap.update p f,toks:=t }:=by
 have e:(s.heap.update p f).get? p = some { cls:=.type "list",data:=.seq its'.toArray n' }:=by
  rw [Heap.get?_update_self f ho (by rw [hf] <;> rfl),hf]
 refine I.write (x:=p) (e:=p) (by rw [h]; trivial) (.inl rfl) (fun b u hb q=>(Heap.get?_update_other _ _ (Ne.symm hb)).trans q) ⟨_,e⟩ ?_
 exact ⟨hz,its',n',r,e⟩
def rSetL:V→V→V→Hp→(Hp→Prop)→Prop:=fun o i v H Q=>∃ p xs k j,o = .ref p∧i = .int k∧H p = some (.lst xs)∧ixN xs.length k = some j∧Q (upd H p (.lst (xs.set j v)))
theorem jqn:PSet X rSetL:=by
 intro pins s σ H o i v ov iv u Q I ro ri rv h
 obtain ⟨p,xs,k,j,rfl,rfl,hp,hj,q⟩:=h
 cases ro
 obtain ⟨t,rfl⟩:=ri
 obtain ⟨its,n,r,ho,hz⟩:=I.lst hp
 obtain ⟨h1,h2,h3,h4⟩:=jpf hj
 have hl:=r.length
 have hn:=jgf
 have I':Inv X pins σ (upd H p (.lst (xs.set j v))) { s with heap:=s.heap.update p (Obj.mapSeq (·.setIfInBounds j u)) } :=
  I.lstUpd hp ho (jna its n j u) (r.set rv j) (by rw [List.length_set]; exact hz) s.toks
 by_cases h0:0 ≤ k
 ·have hk:k.toNat = j:=by
   rw [seqIndex_of h0 h4] at h1
   exact Option.some.inj h1
  exact PySem.W.ki_setAt ho h0 (by omega) (by rw [List.size_toArray,← hl]; exact h4) (by rw [hk]; exact ⟨_,I',q⟩)
 ·have hk:(k + (its.toArray.size:Int)).toNat = j:=by
   rw [seqIndex_neg (by omega) h3] at h1
   rw [List.size_toArray,← hl]
   exact Option.some.inj h1
  exact PySem.W.ki_setBack ho (by omega) (by rw [List.size_toArray,← hl]; exact h3) (by omega) (by rw [hk]; exact ⟨_,I',q⟩)
theorem jjj (lo hi:Option Int) (n:Nat):(sliceBounds lo hi none n).1 = ((HT.sIx n 0 lo:Nat):Int)∧(sliceBounds lo hi none n).2.1 = ((HT.sIx n n hi:Nat):Int)∧(sliceBounds lo hi none n).2.2 = 1:=by
 refine ⟨?_,?_,rfl⟩
 ·cases lo with
  | none=>simp [sliceBounds,HT.sIx]
  | some i =>
   simp only [sliceBounds,HT.sIx,Option.getD_none,show (1:Int) > 0 by decide,if_true]
   by_cases h:i < 0
   ·simp only [h,if_true] <;> omega
   ·simp only [h,if_false] <;> omega
 ·cases hi with
  | none=>simp [sliceBounds,HT.sIx]
  | some i =>
   simp only [sliceBounds,HT.sIx,Option.getD_none,show (1:Int) > 0 by decide,if_true]
   by_cases h:i < 0
   ·simp only [h,if_true] <;> omega
   ·simp only [h,if_false] <;> omega
theorem jht (its:List Value) (lo hi:Option Int):slicePick its.toArray lo hi none = ((its.drop (HT.sIx its.length 0 lo)).take (HT.sIx its.length its.length hi - HT.sIx its.length 0 lo)).toArray:=by
 obtain ⟨h1,h2,h3⟩:=jjj lo hi its.toArray.size
 unfold slicePick
 rw [h1,h2,h3]
 simp only [sliceRange_one,pick_run,List.size_toArray] <;> rfl
def rSlL (K:PySem.W.Frag):V→Option Int→Option Int→Hp→VK→Prop:=fun x lo hi H Q=>∃ a xs,x = .ref a∧SqL K H a xs∧∀ p,H p = none→Q (.ref p) (upd H p (.lst (cutV xs lo hi)))
theorem jsy:SlR X (rSlL X.K):=by
 intro pins s σ H x v vl vu lo hi sl Q I rx hs pl pu h
 obtain ⟨a,xs,rfl,hx,q⟩:=h
 cases rx
 obtain ⟨its,r,ht,hz⟩:=I.list hx
 have hlen:=r.length
 refine ⟨"list",_,slot_list_getitem.lookup,ht.isList.typeIs,?_⟩
 refine wpAny_getItem_list_slice ht.isList hs pl pu .none (by simp) ?_ (by rw [List.size_toArray] <;> omega)
 rw [jht,← hlen]
 refine ⟨.ref s.heap.objs.size,_,I.laid (t':=s.toks) (o:=.lst (cutV xs lo hi)) (fun b ob q=>Heap.get?_push_of_some _ q) (Nat.le_refl _) ?_,rfl,q _ (I.hok.fresh (Nat.le_refl _))⟩
 exact ⟨Nat.le_trans (jlh xs lo hi) hz,_,0,(r.drop (HT.sIx xs.length 0 lo)).take (HT.sIx xs.length xs.length hi - HT.sIx xs.length 0 lo),Heap.get?_push_size _ rfl⟩
def jps:V→Bool
 | .non=>true
 | .bl _=>true
 | .int _=>true
 | .str _=>true
 | _=>false
def eqV:V→V→Bool
 | .non,.non=>true
 | .bl a,.bl b=>a == b
 | .bl a,.int b=>(if a then 1 else 0) == b
 | .int a,.bl b=>a == (if b then 1 else 0)
 | .int a,.int b=>a == b
 | .str a,.str b=>a == b
 | _,_=>false
theorem eqAt_V {A:Around} {s:Shared} {y x:V} {u v:Value} (ry:RelV y u) (rx:RelV x v) (fy:jps y = true) (fx:jps x = true):SeqAt.EqAt A s u v (eqV y x):=by
 cases y with
 | non =>
  cases ry
  cases x with
  | non=>cases rx; exact SeqAt.EqAt.same _
  | bl b=>cases rx; exact SeqAt.EqAt.none_bool b
  | int b=>obtain ⟨t,rfl⟩:=rx; exact SeqAt.EqAt.none_int b t
  | str b=>obtain ⟨t,rfl⟩:=rx; exact SeqAt.EqAt.none_str b t
  | _=>exact absurd (show false = true from fx) Bool.false_ne_true
 | bl a =>
  cases ry
  cases x with
  | non=>cases rx; exact SeqAt.EqAt.bool_none a
  | bl b=>cases rx; exact SeqAt.EqAt.bool_bool a b
  | int b=>obtain ⟨t,rfl⟩:=rx; exact SeqAt.EqAt.bool_int a b t
  | str b=>obtain ⟨t,rfl⟩:=rx; exact SeqAt.EqAt.bool_str a b t
  | _=>exact absurd (show false = true from fx) Bool.false_ne_true
 | int a =>
  obtain ⟨t',rfl⟩:=ry
  cases x with
  | non=>cases rx; exact SeqAt.EqAt.int_none a t'
  | bl b=>cases rx; exact SeqAt.EqAt.int_bool a t' b
  | int b=>obtain ⟨t,rfl⟩:=rx; exact SeqAt.EqAt.int_int a t' b t
  | str b=>obtain ⟨t,rfl⟩:=rx; exact SeqAt.EqAt.int_str a t' b t
  | _=>exact absurd (show false = true from fx) Bool.false_ne_true
 | str a =>
  obtain ⟨t',rfl⟩:=ry
  cases x with
  | non=>cases rx; exact SeqAt.EqAt.str_none a t'
  | bl b=>cases rx; exact SeqAt.EqAt.str_bool a t' b
  | int b=>obtain ⟨t,rfl⟩:=rx; exact SeqAt.EqAt.str_int a t' b t
  | str b=>obtain ⟨t,rfl⟩:=rx; exact SeqAt.EqAt.str_str a t' b t
  | _=>exact absurd (show false = true from fx) Bool.false_ne_true
 | _=>exact absurd (show false = true from fy) Bool.false_ne_true
def inV (x:V) (xs:List V):Bool:=xs.any fun y=>eqV y x
theorem jdt:jcr X (.builtin "len") (fun xs H Q=>∃ p ys,xs = [.ref p]∧(SqL X.K H p ys ∨ SqT X.K H p ys)∧Q (.int ys.length) H):=by
 intro pins s σ H xs us Q I r h
 obtain ⟨p,ys,rfl,hq,q⟩:=h
 obtain ⟨u,rfl,rx⟩:=jgt r
 cases rx
 have hn:=jgf
 rcases hq with hq | hq
 ·obtain ⟨its,r',pl,hz⟩:=I.list hq
  have hlen:=r'.length
  exact Calls.call_len_list pl.isList (by simp only [List.size_toArray] <;> omega) ⟨.int ys.length,H,I.tok _,⟨s.toks + 1,by rw [List.size_toArray,hlen]⟩,q⟩
 ·obtain ⟨its,r',pl,hz⟩:=I.tuple hq
  have hlen:=r'.length
  exact len_tuple pl (by simp only [List.size_toArray] <;> omega) ⟨.int ys.length,H,I.tok _,⟨s.toks + 1,by rw [List.size_toArray,hlen]⟩,q⟩
theorem jcr.or {f:Value} {r r':List V→Hp→VK→Prop} (h:jcr X f r) (h':jcr X f r'):jcr X f (fun xs H Q=>r xs H Q ∨ r' xs H Q):=by
 intro pins s σ H xs us Q I rs q
 rcases q with q | q
 ·exact h pins s σ H xs us Q I rs q
 ·exact h' pins s σ H xs us Q I rs q
theorem jkd:jcr X (.type "list") (fun xs H Q=>∃ p ys,xs = [.ref p]∧(SqL X.K H p ys ∨ SqT X.K H p ys)∧∀ l,H l = none→Q (.ref l) (upd H l (.lst ys))):=by
 intro pins s σ H xs us Q I r h
 obtain ⟨p,ys,rfl,hq,q⟩:=h
 obtain ⟨u,rfl,rx⟩:=jgt r
 cases rx
 have fin:∀ (its:List Value),Vals ys its→ys.length ≤ sizeLine→∀ (h':Heap) (c':Nat),(∀ b o',s.heap.get? b = some o'→h'.get? b = some o') →
   h'.get? s.heap.objs.size = some { cls:=.type "list",dict:=none,data:=.seq its.toArray c',slots:=#[] }→EP X pins σ Q (.ref s.heap.objs.size) { s with heap:=h' }:=fun its r' hz h' c' kp e =>
  ⟨.ref s.heap.objs.size,_,I.laid (t':=s.toks) kp (Nat.le_refl _) (show jcg X.prog X.w _ h' _ (.lst ys) from ⟨hz,its,c',r',e⟩),rfl,q _ (I.hok.fresh (Nat.le_refl _))⟩
 rcases hq with hq | hq
 ·obtain ⟨its,r',pl,hz⟩:=I.list hq
  have hlen:=r'.length
  obtain ⟨o,ho,hc,n,hd⟩:=pl.isList
  exact call_list_seq p (.inl rfl) ho hc hd (fun h' c' kp e=>fin its r' hz h' c' kp e) (by simp only [List.size_toArray] <;> omega)
 ·obtain ⟨its,r',pl,hz⟩:=I.tuple hq
  have hlen:=r'.length
  obtain ⟨o,ho,hc,n,hd⟩:=pl
  exact call_list_seq p (.inr rfl) ho hc hd (fun h' c' kp e=>fin its r' hz h' c' kp e) (by simp only [List.size_toArray] <;> omega)
def tyV (K:PySem.W.Frag) (T:String) (x:V) (H:Hp):Prop:=match x with
 | .str _=>T = "str"
 | .int _=>T = "int"
 | .ref p=>(T = "list"∧∃ xs,SqL K H p xs) ∨ (T = "tuple"∧∃ o,K.lookup p = some o∧o.cls = .type "tuple"∧o.dict = none) ∨
   (T = "dict"∧((∃ kvs,H p = some (.dK kvs)) ∨ ∃ kvs,H p = some (.dT kvs))) ∨ (T = "set"∧∃ S n,H p = some (.set S n))
 | _=>False
theorem tyV_is {pins:List (Addr × Obj)} {σ:St} {H:Hp} {s:Shared} {T:String} {x:V} {v:Value} (I:Inv X pins σ H s) (r:RelV x v) (ty:tyV X.K T x H) :
  s.TypeIs v T∧∀ a,v = .ref a→∃ ob,s.heap.get? a = some ob∧ob.dict = none:=by
 cases x with
 | str z =>
  obtain ⟨t,rfl⟩:=r
  cases (show T = "str" from ty)
  exact ⟨typeIs_str s z t,fun _ e=>nomatch e⟩
 | int i =>
  obtain ⟨t,rfl⟩:=r
  cases (show T = "int" from ty)
  exact ⟨typeIs_int s i t,fun _ e=>nomatch e⟩
 | ref p =>
  cases r
  rcases ty with ⟨rfl,xs,hq⟩ | ⟨rfl,o,hk,hc,hd⟩ | ⟨rfl,hk⟩ | ⟨rfl,S,n,hk⟩
  ·obtain ⟨its,_,pl,_⟩:=I.list hq
   refine ⟨pl.isList.typeIs,fun a e=>?_⟩
   cases e
   obtain ⟨o,n,e,c,hd,_⟩:=pl
   exact ⟨o,e,hd⟩
  ·refine ⟨⟨o,I.kIn p o hk,hc⟩,fun a e=>?_⟩
   cases e
   exact ⟨o,I.kIn _ o hk,hd⟩
  ·have z:∃ o,s.heap.get? p = some o∧o.ExactDict:=by
    rcases hk with ⟨kvs,hk⟩ | ⟨kvs,hk⟩
    ·obtain ⟨_,_,_,_,o,_,_,e,ex,_⟩:=I.hok p _ hk
     exact ⟨o,e,ex⟩
    ·obtain ⟨_,_,_,_,o,_,_,e,ex,_⟩:=I.hok p _ hk
     exact ⟨o,e,ex⟩
   obtain ⟨o,e,ex⟩:=z
   refine ⟨⟨o,e,ex.1⟩,fun a e2=>?_⟩
   cases e2
   exact ⟨o,e,ex.2.1⟩
  ·obtain ⟨o,_,_,_,e,ex,_⟩:=I.hok p _ hk
   refine ⟨⟨o,e,ex.1⟩,fun a e2=>?_⟩
   cases e2
   exact ⟨o,e,ex.2.1⟩
 | _=>exact False.elim ty
variable {o e:Expr} {es:List Expr} {to:TE} {t:TA} {name:Str} {apos cpos:Pos} {T id:String} {r:V→List V→Hp→VK→Prop}
/- xs.append(e),list.index on a module's tuple .. are MtR facts of 06m -/
end
end L2
namespace L2
open PySem PySem.Spec PyProof.Rows
def MtM (X:Cx) (id:String) (r:V→List V→Hp→VK→Prop):Prop :=
 ∀ (pins:List (Addr × Obj)) (s:Shared) (σ:St) (H:Hp) (x:V) (xs:List V) (v:Value) (us:List Value) (Q:VK),Inv X pins σ H s→RelV x v→Vals xs us→r x xs H Q →
  wpAny (model X.prog X.w) X.A (call (.builtin id) (v :: us)) (EP X pins σ Q) X.xe s
theorem Vals.one:∀ {x:V} {us:List Value},Vals [x] us→∃ u,us = [u]∧RelV x u
 | _,_,.cons r .nil=>⟨_,rfl,r⟩
theorem Vals.two:∀ {x y:V} {us:List Value},Vals [x,y] us→∃ u v,us = [u,v]∧RelV x u∧RelV y v
 | _,_,_,.cons r (.cons q .nil)=>⟨_,_,rfl,r,q⟩
theorem Vals.rep {xs:List V} {us:List Value} (h:Vals xs us):∀ k:Nat,Vals (List.replicate k xs).flatten (List.replicate k us).flatten
 | 0=>.nil
 | k + 1=>by
  rw [List.replicate_succ,List.replicate_succ,List.flatten_cons,List.flatten_cons]
  exact Vals.append h (Vals.rep h k)
section
variable {X:Cx} {pins:List (Addr × Obj)} {σ:St} {H:Hp} {s:Shared} {l b:Addr} {xs ys zs:List V}
theorem Inv.lset {its its':List Value} {n:Nat} {f:Array Value→Array Value} {t':Nat} (I:Inv X pins σ H s) (hH:H l = some (.lst xs))
  (e:s.heap.get? l = some { cls:=.type "list",data:=.seq its.toArray n }) (hf:f its.toArray = its'.toArray) (hv:Vals ys its') (hz:ys.length ≤ sizeLine) :
  Inv X pins σ (upd H l (.lst ys)) { s with heap:=s.heap.update l (Obj.mapSeq f),toks:=t' }:=by
 have q:=PySem.IsL.update e f
 rw [hf] at q
 refine I.write (x:=l) (e:=l) (by rw [hH]; exact trivial) (.inl rfl) (fun b' u hb hu=>(Heap.get?_update_other s.heap (Obj.mapSeq f) (Ne.symm hb)).trans hu) ⟨_,q⟩ ?_
 exact ⟨hz,its',_,hv,q⟩
theorem Inv.lnew {its:List Value} {t':Nat} (I:Inv X pins σ H s) (hv:Vals ys its) (hz:ys.length ≤ sizeLine) :
  Inv X pins σ (upd H s.heap.objs.size (.lst ys)) { s with heap:=s.heap.push { cls:=.type "list",data:=.seq its.toArray },toks:=t' } :=
 I.laid (fun _ _ q=>Heap.get?_push_of_some _ q) (Nat.le_refl _) ⟨hz,its,0,hv,Heap.get?_push_size _ rfl⟩
theorem Inv.fresh (I:Inv X pins σ H s):H s.heap.objs.size = none:=I.hok.fresh (Nat.le_refl _)
theorem Inv.lstM (I:Inv X pins σ H s) (hH:H l = some (.lst xs)):xs.length ≤ sizeLine∧∃ (its:List Value) (n:Nat),Vals xs its∧xs.length = its.length∧s.heap.get? l = some { cls:=.type "list",data:=.seq its.toArray n }:=by
 obtain ⟨z,its,n,r,e⟩:=I.hok l _ hH
 exact ⟨z,its,n,r,r.length,e⟩
theorem jme {n:Nat} (h:n ≤ sizeLine):Builtin.List.listTooLong n = false:=by
 unfold Builtin.List.listTooLong
 exact decide_eq_false (by omega)
end
section
variable {X:Cx}
def jon:V→List V→Hp→VK→Prop:=fun x vs H Q=>∃ l xs y,x = .ref l∧vs = [y]∧H l = some (.lst xs)∧xs.length < sizeLine∧Q .non (upd H l (.lst (xs ++ [y])))
theorem jjw:MtM X "list.append" jon:=by
 intro pins s σ H x vs v us Q I rx rv h
 obtain ⟨l,xs,y,rfl,rfl,hH,hz,q⟩:=h
 cases rx
 obtain ⟨u,rfl,ru⟩:=rv.one
 obtain ⟨z,its,n,r,hl,e⟩:=I.lstM hH
 refine call_meets F.slot_list_append ⟨_,e,rfl⟩ F.entry_list_append (F.args_list_append_2 _ _) (PySem.list_append l its.toArray n u (by rw [List.size_toArray]; omega)) ⟨e,?_⟩
 refine ⟨.non,_,I.lset (its':=its ++ [u]) hH e (by simp) (r.append (.cons ru .nil)) ?_,rfl,q⟩
 rw [List.length_append,List.length_singleton]
 omega
def jom:V→List V→Hp→VK→Prop:=fun x vs H Q=>∃ l b xs zs,x = .ref l∧vs = [.ref b]∧H l = some (.lst xs)∧H b = some (.lst zs)∧xs.length + zs.length ≤ sizeLine∧Q .non (upd H l (.lst (xs ++ zs)))
theorem jp3:MtM X "list.extend" jom:=by
 intro pins s σ H x vs v us Q I rx rv h
 obtain ⟨l,b,xs,zs,rfl,rfl,hH,hB,hz,q⟩:=h
 cases rx
 obtain ⟨u,rfl,ru⟩:=rv.one
 cases ru
 obtain ⟨z,its,n,r,hl,e⟩:=I.lstM hH
 obtain ⟨z2,its2,n2,r2,hl2,e2⟩:=I.lstM hB
 have hsz:its.toArray.size + its2.toArray.size ≤ sizeLine:=by rw [List.size_toArray,List.size_toArray]; omega
 have hlong:¬ (!its.toArray.isEmpty && Builtin.List.listTooLong (its.toArray.size + its2.toArray.size)) = true:=by
  rw [jme hsz,Bool.and_false]
  exact Bool.false_ne_true
 refine call_meets F.slot_list_extend ⟨_,e,rfl⟩ F.entry_list_extend (F.args_list_extend_2 _ _)
  (AutoSeq1.list_extend_list_list_0 l its.toArray n b its2.toArray n2 hlong (by rw [List.size_toArray]; omega) (by omega)) ⟨e,e2,?_⟩
 refine ⟨.non,_,I.lset (its':=its ++ its2) hH e (by simp) (r.append r2) ?_,rfl,q⟩
 rw [List.length_append]
 omega
end
section
variable {prog:Program} {w:World} {A:Around} {E:Value→Shared→Prop} {s:Shared}
end
section
variable {X:Cx}
end
end L2
namespace Att
open PySem PySem.W PySem.Calls PyProof.Rows
theorem jgj {P:Params} {h:Heap}:∀ (ns:List Int) (vs:List Value),WellAll P h vs (ns.map WData.int)→IntsAre vs ns:=by
 intro ns
 induction ns with
 | nil =>
  intro vs w
  rw [List.map_nil] at w
  cases w
  exact .nil
 | cons n ns ih =>
  intro vs w
  rw [List.map_cons] at w
  cases w with
  | cons a b =>
   cases a
   exact .cons _ _ (ih _ b)
theorem joj {l:OpenLaw} {n:Nat} (hn:l.most = some n) {P:Params} {h:Heap} {args:List WData} {vals:List Value}
  (hpre:l.row.toRowW.claim.pre args = true) (hwl:WellAll P h vals args) :
  ∃ a vs ns,vals = [Value.ref a]∧args = [WData.list (ns.map WData.int)]∧h.get? a = some { cls:=.type "list",data:=.seq vs.toArray }∧IntsAre vs ns∧ns.length ≤ n:=by
 have hsh:WShape.hasAll [] args [.list .int] = true:=(pre_splitW hpre).1
 have hc:l.pre.holds [] { args:=args } = true:=(pre_splitW hpre).2
 obtain ⟨d,r,rfl,h1,h2⟩:=hasAllW_cons hsh
 obtain rfl:=hasAllW_nil h2
 obtain ⟨xs,rfl,h3⟩:=hasW_list h1
 obtain ⟨ns,rfl⟩:=items_int h3
 have hlen:ns.length ≤ n:=by
  unfold OpenLaw.pre at hc
  have h4:(WTm.not (.lt (.lit (.int (n:Int))) (.len (.arg 0)))).holds [] { args:=[.list (ns.map .int)] } = true:=by
   have h4:=(holds_andW hc).1
   rw [hn] at h4
   exact h4
  have h5:=condW_of h4 (w_not (w_lt w_lit (w_len_list (w_arg rfl))))
  rw [List.length_map] at h5
  refine Nat.le_of_not_lt fun q=>?_
  have q':(n:Int) < ((ns.length:Nat):Int):=by omega
  first
   | (rw [decide_eq_true q'] at h5; exact absurd h5 (by decide))
   | (simp at h5; omega)
 cases hwl with
 | cons w1 w2 =>
  cases w2
  cases w1 with
  | list ho hall=>exact ⟨_,_,ns,rfl,rfl,ho,jgj ns _ hall,hlen⟩
theorem jos (l:OpenLaw) (args:List WData):l.row.toRowW.claim.post args (.bool true) args = true :=
 postW_of (r:=l.row.toRowW) (X:=(true == true))
  (show WShape.has [] (.bool true) .bool = true by first | rfl | decide | simp [WShape.has,WShape.arms,WShape.armsAll])
  (show (WTm.eq .res (.lit (.bool true))).value [] { args:=args,res:=some (.bool true),after:=args } = some (.bool (true == true)) from w_eq_bool (w_res rfl) w_lit) rfl
theorem attach_call {l:OpenLaw} {n:Nat} {q:Program} {loose:List Str} {XP:(Str→Option Value)→Heap→Prop} {YP:World→Heap→Prop} {d:DefRec}
  (hn:l.most = some n) (hdf:d.params.defaults = [])
  (call:∀ (w:World) (s₀ s₁:Shared) (mg mb:Str→Option Value) (fa:Addr) (o:Obj) (pm cd doc:Value) (a:Addr) (vs:List Value) (ns:List Int),
   Ground q loose [] XP w s₀ mg mb s₁.heap→YP w s₁.heap →
   s₁.heap.get? fa = some o→o.data = .func (docDef d.name d.params d.body d.scope pm cd doc)→s₁.heap.CodeRec cd d.name→mg d.name = some (.ref fa) →
   s₁.heap.get? a = some { cls:=.type "list",data:=.seq vs.toArray }→IntsAre vs ns→ns.length ≤ n→s₁.gens = #[] →
   codeAny (model l.prog w) callerA (.call (.ref fa) ⟨[.ref a],[]⟩) (fun r s'=>r = .ok (.ret (.bool true))∧OldK s₁.heap s'.heap∧s'.os = s₁.os∧AllBare s'.gens) s₁) :
  WalkO q loose XP YP l.row.toRowW d [] (fun f vs=>PySem.call f vs):=by
 intro w s₀ s₁ mg mb G Y fa o pm cd doc dV kV ho hd hcd hD hmg hg args vals as hpre hlay hrd hwl hlo
 obtain rfl:dV = .none:=Dflts.none hD hdf
 obtain rfl:kV = .none:=Dflts.noKw hD
 obtain ⟨a,vs,ns,rfl,rfl,hobj,hints,hlen⟩:=joj hn hpre hwl
 refine enter_call (codeAny_mono (call w s₀ s₁ mg mb fa o pm cd doc a vs ns G Y ho (fd_plain hd) hcd hmg hobj hints hlen hg) fun r s' hq=>?_)
 obtain ⟨rfl,h2,h3,h4⟩:=hq
 exact ⟨.inl ⟨.bool true,.bool true,[],rfl,fun _=>rfl,.bool true,jos l _,fun _=>⟨List.Pairwise.nil,fun _ hm=>(nomatch hm)⟩⟩,h2,h3,h4⟩
section
variable {prog:Program} {w:World} {A:Around} {E:Value→Shared→Prop} {s:Shared} {K:Frag}
end
end Att
namespace L2
open PySem PySem.Spec PyProof.Rows
theorem je7:∀ {vs:List Value} {ns:List Int},IntsAre vs ns→Vals (ns.map V.int) vs
 | _,_,.nil=>.nil
 | _,_,.cons n t h=>.cons ⟨t,rfl⟩ (je7 h)
def Only (H:Hp):Prop:=∀ b,H b = none ∨ ∃ o xs,H b = some (.frz o (.lst xs))
theorem jrb {P:Program} {w:World} {K:PySem.W.Frag} {mg mb:Str→Option Value} {CX:CXT} {k:Nat} {fa a:Addr} {fd:FuncData} {x:Str} {sp:Sp} {s₁:Shared} {vs:List Value} {ns:List Int}
  (KX:K.In s₁.heap) (hns:s₁.heap.Ns mainGlobals mg) (hb:s₁.heap.Ns builtinsNs mb) (hbb:∀ x:Str,x ≠ "__name__"→mb x = bootBuiltins x) (hlim:s₁.heap.NoLimit) (hg:s₁.gens = #[])
  (ha:s₁.heap.get? a = some { cls:=.type "list",data:=.seq vs.toArray }) (hi:IntsAre vs ns) (hl:ns.length ≤ sizeLine) (hr:Room k callerA)
  (F:∀ base:Heap,K.In base→base.Ns mainGlobals mg→FnOk P w K mg base CX k fa fd [x] sp) (hbind:∀ (s:Shared) (u:Value),BindsTo s fd ⟨[u],[]⟩ [(x,u)])
  (hsp:∀ H:Hp,Only H→SqL K H a (ns.map V.int)→sp [.ref a] H (fun v _=>v = .bl true) fun _ _ _=>False)
  (hCX:∀ H e s',CX [] H s₁ (fun _ _ _=>False) e s'→False) :
  codeAny (model P w) callerA (.call (.ref fa) ⟨[.ref a],[]⟩) (fun r s'=>r = .ok (.ret (.bool true))∧OldK s₁.heap s'.heap∧s'.os = s₁.os∧AllBare s'.gens) s₁:=by
 have rv:=je7 hi
 have lenV:=hi.length
  -- from an abstract heap in which nothing but the script may be tracked
 have core:∀ H:Hp,Only H→SqL K H a (ns.map V.int)→HOk P w H s₁.heap→(∀ b,H b ≠ none→b = a)→(H a ≠ none→K.lookup a = none) →
   codeAny (model P w) callerA (.call (.ref fa) ⟨[.ref a],[]⟩) (fun r s'=>r = .ok (.ret (.bool true))∧OldK s₁.heap s'.heap∧s'.os = s₁.os∧AllBare s'.gens) s₁:=by
  intro H hO hS hok hA hK
  have base_of:∀ {b:Addr} {o:Obj},s₁.heap.get? b = some o→H b = none→(hidT s₁.heap H).get? b = some o:=fun e n=>jrg e n
  have noA:∀ {b:Addr} {o:Obj} {es:Array DictEntry} {ep:Nat},s₁.heap.get? b = some o→o.data = .dict es ep→H b = none:=fun {b o es ep} e d=>by
   cases q:H b with
   | none=>rfl
   | some u =>
    have e':b = a:=hA b (by rw [q]; simp)
    subst e'
    rw [ha] at e; cases e
    have d':Data.seq vs.toArray _ = Data.dict es ep:=d
    cases d'
  have nsK:∀ {b:Addr} {m:Str→Option Value},s₁.heap.Ns b m→(hidT s₁.heap H).Ns b m:=fun {b m} ⟨o,es,ep,e,d,r⟩=>⟨o,es,ep,base_of e (noA e d),d,r⟩
  have hKb:K.In (hidT s₁.heap H):=fun b o e=>base_of (KX b o e) (by
   cases q:H b with
   | none=>rfl
   | some u =>
    have e':b = a:=hA b (by rw [q]; simp)
    subst e'
    rw [hK (by rw [q]; simp)] at e; cases e)
  have hM:Mod K mg (hidT s₁.heap H):=⟨hKb,nsK hns,⟨mb,nsK hb,hbb⟩,let ⟨mc,h1,h2⟩:=hlim; ⟨mc,nsK h1,h2⟩⟩
  have e0:Env0 P w K mg (hidT s₁.heap H) callerA [] s₁ H:=⟨rfl,hM,fun b o e=>jti e,Nat.le_of_eq (jpn _ _),trivial,fun b hb=>absurd (show b ∈ ([]:List Addr) from hb) (by simp),hok,.of_eq hg⟩
  refine codeAny_mono ((F _ hKb (nsK hns)).run callerA [] s₁ H ⟨[.ref a],[]⟩ [.ref a] [.ref a] _ _ hr e0 (hbind s₁ (.ref a)) (.cons rfl .nil) (hsp H hO hS)) fun r s' h=>?_
  cases r with
  | error e=>exact (hCX H e s' h).elim
  | ok fl =>
   cases fl with
   | next=>exact False.elim h
   | brk=>exact False.elim h
   | cont=>exact False.elim h
   | ret u =>
    obtain ⟨v,H',os,bare,un,hok',r',q⟩:=h
    have q':v = .bl true:=q
    subst q'
    obtain rfl:u = Value.bool true:=r'
    refine ⟨rfl,OldK.of_keep fun b o e=>?_,os,bare⟩
    cases q:H b with
    | none=>exact un.keep b o e q (by intro z; exact absurd (show b ∈ ([]:List Addr) from z) (by simp)) (by simp)
    | some u =>
     rcases hO b with z | ⟨ob,xs,z⟩
     ·rw [q] at z; cases z
     ·have z2:=un.frzs b ob _ z
      obtain ⟨e1,_⟩:=hok b _ z
      obtain ⟨e2,_⟩:=hok' b _ z2
      rw [e] at e1; cases e1
      exact e2
 cases hk:K.lookup a with
 | some o =>
    -- the script is one of the module's own objects
  have e:=KX a o hk
  rw [ha] at e
  cases e
  refine core (fun _=>none) (fun _=>.inl rfl) (.inr ⟨_,vs.toArray,_,hk,rfl,rfl,rfl,by rw [List.size_toArray,lenV]; exact hl,by simpa using rv⟩) (fun b u z=>by have z':(none:Option HO) = some u:=z; cases z') (fun b z=>absurd rfl z) fun z=>absurd rfl z
 | none =>
  refine core (fun b=>if b = a then some (.frz { cls:=.type "list",data:=.seq vs.toArray } (.lst (ns.map V.int))) else none) (fun b=>?_) (.inl (.inr ⟨{ cls:=.type "list",data:=.seq vs.toArray },if_pos rfl⟩)) (fun b u z=>?_) (fun b z=>?_) fun _=>hk
  ·by_cases hb:b = a
   ·exact .inr ⟨_,_,if_pos hb⟩
   ·exact .inl (if_neg hb)
  ·by_cases hb:b = a
   ·have z':=(if_pos hb).symm.trans z
    cases z'
    subst hb
    exact ⟨ha,by rw [List.length_map]; exact hl,vs,_,rv,ha⟩
   ·have z':=(if_neg hb).symm.trans z
    cases z'
  ·by_cases hb:b = a
   ·exact hb
   ·exact absurd (if_neg hb) z
end L2
namespace L2
open PySem PySem.Spec PyProof.Rows
abbrev KOf {K:PySem.W.Frag} {h:Heap} (_:K.In h):PySem.W.Frag:=K
theorem jnq {l:PySem.W.OpenLaw} {n k:Nat} {q:Program} {loose:List Str} {XP:(Str→Option Value)→Heap→Prop} {YP:World→Heap→Prop} {d:DefRec} {K:Params→PySem.W.Frag} {CX:World→CXT} {sp:World→Sp} {x:Str}
    (hn:l.most = some n) (hn2:n ≤ sizeLine) (hdf:d.params.defaults = []) (hr:Room k callerA)
    (hY:∀ (w:World) (h:Heap),YP w h→(K w.params).In h)
    (F:∀ (w:World) (mg:Str→Option Value) (fa:Addr) (h:Heap),(K w.params).In h→h.Ns mainGlobals mg→mg d.name = some (.ref fa) →
      ∃ fd:FuncData,(∀ (s:Shared) (u:Value),BindsTo s fd ⟨[u],[]⟩ [(x,u)]) ∧
        ∀ base:Heap,(K w.params).In base→base.Ns mainGlobals mg→FnOk l.prog w (K w.params) mg base (CX w) k fa fd [x] (sp w))
    (hsp:∀ (w:World) (H:Hp) (a:Addr) (ns:List Int),ns.length ≤ n→Only H→SqL (K w.params) H a (ns.map V.int)→sp w [.ref a] H (fun v _=>v = .bl true) fun _ _ _=>False)
    (hCX:∀ (w:World) (H:Hp) (s:Shared) (e:Value) (s':Shared),CX w [] H s (fun _ _ _=>False) e s'→False) :
    PySem.W.WalkO q loose XP YP l.row.toRowW d [] (fun f vs=>PySem.call f vs):=by
  refine Att.attach_call hn hdf fun w s₀ s₁ mg mb fa o pm cd doc a vs ns G Y ho hd hcd hmg hobj hints hlen hg=>?_
  have KX:=hY w _ Y
  obtain ⟨fd,hb,hF⟩:=F w mg fa _ KX G.T.g hmg
  exact jrb KX G.T.g G.T.b G.T.builtins G.T.nolimit hg hobj hints (Nat.le_trans hlen hn2) hr hF hb (fun H hO hS=>hsp w H a ns hlen hO hS) fun H e s'=>hCX w H s₁ e s'
end L2
/- THE LAST THEOREM (shape; LID,My.* are yours):
   My.Adr: a structure of the addresses that your layer names (classes,functions); My.Txt K t: a structure (Prop) of the equations over K;
   My.txt_mk:{K} {implicit addresses ..} (e1:nsIn K mainGlobals "law" = some (some (.ref f))) (e2:K.lookup f = some ⟨oc,od,.func (fnOf "law" "law" params body scope dV kV doc pm an cdv ct),sl⟩) (e3:codeIn K cdv "law" = true) ..:∃ t,My.Txt K t
set_option maxRecDepth 100000 in
set_option maxHeartbeats 0 in
theorem PySem.Challenge.cw_LID_holds : PySem.Challenge.rw_LID.Holds := by
 w_on; o_law; k_head; (case hw=>w_witness2)
 k_fill
 refine L2.jnq (l:=PySem.Challenge.rw_LID) (n:=63) (k:=40) (x:="script") (CX:=fun w=>..) (sp:=fun _=>My.sp_law) rfl (by decide) rfl ⟨rfl,by decide,by decide⟩ (fun w h Y=>PySem.W.kIn_of Y) ?F ?S ?C
 case F =>
  intro w mg fa h KX G hmg
  have T:∃ t,My.Txt (L2.KOf KX) t:=by
   dsimp only [L2.KOf]                          -- K must stand as «<heap const> w.params» for k_is
   refine' My.txt_mk ?e1 ?e2 ?e3 ..
   (case e1=>PySem.W.k_is)                    -- in the order: a name -> its address -> its object -> its parts
   (case e2=>PySem.W.k_is)
   ..
  obtain ⟨t,T⟩:=T
  have e0:=hmg.symm.trans (PySem.W.mg_of KX G T.law)
  cases e0                                       -- fa is the law's own address
  exact ⟨_,fun s u=>.of_eq rfl,fun base kb nb=>My.law_fn T kb nb⟩     -- if «.of_eq rfl» comes too early: refine' ⟨_,?b,fun base kb nb=>My.law_fn T kb nb⟩; exact fun s u=>.of_eq rfl
 case S=>exact fun w H a ns hl hO hS=>..
 case C=>exact ..
(the tactic k_is has no namespace: write k_is) -/
namespace L2
open PySem PySem.Spec PyProof.Rows
def jds (s:Stmt):Arguments:=match s with
 | .FunctionDef _ a _ _ _ _ _ _ _ _=>a
 | _=>{ posonlyargs:=[],args:=[],vararg:=none,kwonlyargs:=[],kw_defaults:=[],kwarg:=none,defaults:=[] }
def jdk (s:Stmt):List Stmt:=match s with
 | .FunctionDef _ _ b _ _ _ _ _ _ _=>b
 | _=>[]
def jba (s:Stmt):Scope:=match s with
 | .FunctionDef _ _ _ _ _ _ sc _ _ _=>sc
 | _=>{ kind:=.function,names:=[],isGenerator:=false,isCoroutine:=false }
abbrev CX0:CXT:=fun _ _ _ _ _ _=>False
abbrev E0:XK:=fun _ _ _=>False
theorem jbs {X:Cx}:jep CX0 X E0:=fun _ _ _ _ _ _ _ h=>h.elim
structure Fun (K:PySem.W.Frag) (x qual:Str) (st:Stmt) (f:Addr) (fd:FuncData):Prop where
 ex:∃ (oc:Value) (od:Option Addr) (kV doc pm:Value) (an:Option Addr) (cdv ct:Value) (osl:Array (Option Value)),
  fd = PySem.W.fnOf x qual (jds st) (jdk st) (jba st) .none kV doc pm an cdv ct∧K.lookup f = some ⟨oc,od,.func fd,osl⟩∧PySem.W.codeIn K cdv qual = true
 kp:PySem.W.keepIn K (.ref f) = true
section
variable {P:Program} {w:World} {K:PySem.W.Frag} {mg:Str→Option Value} {base:Heap}
theorem Fun.ok {x qual:Str} {st:Stmt} {f:Addr} {fd:FuncData} {N ps:List Str} {k:Nat} {sp:Sp} (F:Fun K x qual st f fd) (S:FnScope N ps (jba st)) (len:∀ vs H Q E,sp vs H Q E→vs.length = ps.length)
  (hbody:∀ (cdv:Value) (A:Around) (outer:List Env) (s:Shared) (H:Hp) (vs:List V) (Q:VK) (E:XK),Room k (A.deeper (envOfC qual (jba st) s.heap.objs.size f cdv))→sp vs H Q E →
   ∃ t,PSs (cxOf CX0 P w K mg base N qual (jba st) f cdv A outer s H E).nox (jdk st) t∧t { nx:=fun _ H'=>Q .non H',rt:=Q } (start N vs) H):FnOk P w K mg base CX0 (k + 1) f fd ps sp:=by
 obtain ⟨oc,od,kV,doc,pm,an,cdv,ct,osl,rfl,lk,hcd⟩:=F.ex
 refine fn_of lk hcd S len fun A outer s H vs Q E hr hsp=>?_
 obtain ⟨t,h,q⟩:=hbody cdv A outer s H vs Q E hr hsp
 exact ⟨t,h.nox,q⟩
theorem Fun.binds {x qual:Str} {st:Stmt} {f:Addr} {fd:FuncData} {ps:List Str} (F:Fun K x qual st f fd)
  (h:∀ (kV doc pm:Value) (an:Option Addr) (cdv ct:Value) (us:List Value),us.length = ps.length→bindArgs (PySem.W.fnOf x qual (jds st) (jdk st) (jba st) .none kV doc pm an cdv ct) ⟨us,[]⟩ = pure (ps.zip us)):jer K fd ps []:=by
 obtain ⟨oc,od,kV,doc,pm,an,cdv,ct,osl,rfl,lk,hcd⟩:=F.ex
 exact .all (h kV doc pm an cdv ct)
theorem jbm {x qual:Str} {st:Stmt} {f:Addr} {oc:Value} {od an:Option Addr} {osl:Array (Option Value)} {kV doc pm cdv ct:Value} (l:K.lookup f = some ⟨oc,od,.func (PySem.W.fnOf x qual (jds st) (jdk st) (jba st) .none kV doc pm an cdv ct),osl⟩)
  (c:PySem.W.codeIn K cdv qual = true) (k:PySem.W.keepIn K (.ref f) = true):Fun K x qual st f (PySem.W.fnOf x qual (jds st) (jdk st) (jba st) .none kV doc pm an cdv ct):=⟨⟨oc,od,kV,doc,pm,an,cdv,ct,osl,rfl,l,c⟩,k⟩
end
theorem jc7 {A:Around} {k:Nat} (hr:Room k A):A.units + 1 < cLine:=Nat.lt_of_le_of_lt (Nat.add_le_add_left (by decide:1 ≤ 64) _) hr.units
section
variable {X:Cx}
theorem pv (i:Nat) {x:Str} {pos:Pos} (hN:X.N[i]? = some x:=by rfl) (hv:Vis X.env.scope x:=by first | exact Or.inl rfl | exact Or.inr (Or.inl rfl) | exact Or.inr (Or.inr rfl)) (hd:(x == ("__debug__":Str)) = false:=by decide)
  (hcd:(x == ("__classdict__":Str)) = false:=by decide):PE X (.Name x pos) (tVar i):=jsb hN hv hd hcd
end
theorem ite2 {c A B:Prop} [Decidable c] (h1:c→A) (h2:¬ c→B):if c then A else B:=by
 by_cases h:c
 ·rw [if_pos h]
  exact h1 h
 ·rw [if_neg h]
  exact h2 h
def Same (H H':Hp):Prop:=∀ b o,H b = some o→H' b = some o
theorem Same.refl (H:Hp):Same H H:=fun _ _ h=>h
theorem Same.trans {H H1 H2:Hp} (a:Same H H1) (b:Same H1 H2):Same H H2:=fun c o h=>b c o (a c o h)
theorem Same.free {H H':Hp} (e:Same H H') {l:Addr} (h:H' l = Option.none):H l = Option.none:=by
 cases q:H l with
 | none=>rfl
 | some o =>
  rw [e l o q] at h
  cases h
end L2
set_option maxHeartbeats 8000000
namespace L2
open PySem PySem.Spec PyProof.Rows
section
variable {κ:Type} [DecidableEq κ]
def valV (kvs:List (κ × V)) (k:κ):Option V:=(kvs.find? fun kv=>decide (kv.1 = k)).map (·.2)
def putK (kvs:List (κ × V)) (k:κ) (v:V):List (κ × V) :=
 if (kvs.any fun kv=>decide (kv.1 = k)) = true then kvs.map (fun kv=>if kv.1 = k then (kv.1,v) else kv) else kvs ++ [(k,v)]
theorem jcm {p:κ × V} {r:List (κ × V)} {k:κ} (e:p.1 = k):valV (p :: r) k = some p.2:=by simp [valV,List.find?_cons,e]
theorem jcn {p:κ × V} {r:List (κ × V)} {k:κ} (e:¬ p.1 = k):valV (p :: r) k = valV r k:=by simp [valV,List.find?_cons,e]
theorem je8 (k:κ):∀ kvs:List (κ × V),(kvs.any fun kv=>decide (kv.1 = k)) = (valV kvs k).isSome
 | []=>rfl
 | p :: r=>by
  rw [List.any_cons]
  by_cases e:p.1 = k
  ·simp only [jcm e,decide_eq_true e,Bool.true_or,Option.isSome_some]
  ·rw [jcn e,decide_eq_false e,Bool.false_or]; exact je8 k r
theorem jlt (k j:κ) (y:V):∀ kvs:List (κ × V),valV (kvs.map fun kv=>if kv.1 = k then (kv.1,y) else kv) j = (valV kvs j).map fun x=>if j = k then y else x
 | []=>rfl
 | p :: r=>by
  have ih:=jlt k j y r
  rw [List.map_cons]
  by_cases h:p.1 = k
  ·rw [if_pos h]
   by_cases e:p.1 = j
   ·rw [jcm (p:=(p.1,y)) e,jcm e,Option.map_some,if_pos (e.symm.trans h)]
   ·rw [jcn (p:=(p.1,y)) e,jcn e,ih]
  ·rw [if_neg h]
   by_cases e:p.1 = j
   ·rw [jcm (p:=p) e,jcm e,Option.map_some,if_neg (fun z=>h (e.trans z))]
   ·rw [jcn (p:=p) e,jcn e,ih]
theorem jj7 (k j:κ) (y:V):∀ kvs:List (κ × V),valV kvs k = none→valV (kvs ++ [(k,y)]) j = if j = k then some y else valV kvs j
 | [],_=>by
  by_cases e:k = j
  ·rw [if_pos e.symm]; exact jcm (p:=(k,y)) e
  ·rw [if_neg (fun z=>e z.symm)]; exact jcn (p:=(k,y)) e
 | p :: r,hn=>by
  rw [List.cons_append]
  have hk:¬ p.1 = k:=fun z=>by rw [jcm z] at hn; cases hn
  rw [jcn hk] at hn
  have ih:=jj7 k j y r hn
  by_cases e:p.1 = j
  ·rw [jcm e,jcm e,if_neg (fun z=>hk (e.trans z))]
  ·rw [jcn e,jcn e,ih]
theorem jhl (kvs:List (κ × V)) (k j:κ) (y:V):valV (putK kvs k y) j = if j = k then some y else valV kvs j:=by
 unfold putK
 by_cases a:(kvs.any fun kv=>decide (kv.1 = k)) = true
 ·rw [if_pos a,jlt]
  rw [je8] at a
  by_cases e:j = k
  ·obtain ⟨x,hx⟩:=Option.isSome_iff_exists.mp a
   rw [if_pos e,e,hx,Option.map_some,if_pos rfl]
  ·rw [if_neg e]
   cases valV kvs j with
   | none=>rfl
   | some x=>rw [Option.map_some,if_neg e]
 ·rw [if_neg a]
  refine jj7 k j y kvs ?_
  rw [je8] at a
  cases q:valV kvs k with
  | none=>rfl
  | some x=>rw [q] at a; exact (a rfl).elim
theorem jdi (kvs:List (κ × V)) (k:κ) (v:V):(putK kvs k v).length ≤ kvs.length + 1:=by
 unfold putK
 split
 ·rw [List.length_map]; omega
 ·rw [List.length_append,List.length_cons,List.length_nil]; omega
theorem ji3 {kvs:List (κ × V)} {k:κ} (v:V) (h:valV kvs k = none):putK kvs k v = kvs ++ [(k,v)]:=by
 unfold putK
 rw [je8,h]
 exact if_neg (by decide)
theorem RelO.isSome_eq {o:Option V} {u:Option Value} (r:RelO o u):o.isSome = u.isSome:=by
 cases o with
 | none=>cases u with
  | none=>rfl
  | some _=>exact (show False from r).elim
 | some _=>cases u with
  | none=>exact (show False from r).elim
  | some _=>rfl
theorem RelO.getD {o:Option V} {u:Option Value} {d:V} {d':Value} (r:RelO o u) (rd:RelV d d'):RelV (o.getD d) (u.getD d'):=by
 cases o with
 | none=>cases u with
  | none=>exact rd
  | some _=>exact (show False from r).elim
 | some _=>cases u with
  | none=>exact (show False from r).elim
  | some _=>exact r
theorem KV.val {kvs:List (κ × V)} {vs:List (κ × Value)} (r:KV kvs vs) (k:κ):RelO (valV kvs k) (valueAt vs k):=by
 unfold KV at r
 induction r with
 | nil=>exact True.intro
 | @cons p q ps qs h t ih =>
  obtain ⟨h1,h2⟩:=h
  by_cases e:p.1 = k
  ·have e':q.1 = k:=h1.symm.trans e
   have b:valueAt (q :: qs) k = some q.2:=by simp [valueAt,List.find?_cons,e']
   rw [jcm e,b]; exact h2
  ·have e':¬ q.1 = k:=fun z=>e (h1.trans z)
   have b:valueAt (q :: qs) k = valueAt qs k:=by simp [valueAt,List.find?_cons,e']
   rw [jcn e,b]; exact ih
theorem KV.any {kvs:List (κ × V)} {vs:List (κ × Value)} (r:KV kvs vs) (k:κ):(kvs.any fun kv=>decide (kv.1 = k)) = vs.any fun kv=>decide (kv.1 = k):=by
 unfold KV at r
 induction r with
 | nil=>rfl
 | cons h t ih=>rw [List.any_cons,List.any_cons,ih,h.1]
theorem KV.repl {kvs:List (κ × V)} {vs:List (κ × Value)} (r:KV kvs vs) (k:κ) {y:V} {u:Value} (ry:RelV y u) :
  KV (kvs.map fun kv=>if kv.1 = k then (kv.1,y) else kv) (vs.map fun kv=>if kv.1 = k then (kv.1,u) else kv):=by
 unfold KV at r ⊢
 induction r with
 | nil=>exact .nil
 | @cons p q ps qs h t ih =>
  rw [List.map_cons,List.map_cons]
  refine .cons ?_ ih
  obtain ⟨h1,h2⟩:=h
  by_cases e:p.1 = k
  ·rw [if_pos e,if_pos (h1.symm.trans e)]; exact ⟨h1,ry⟩
  ·rw [if_neg e,if_neg (fun z=>e (h1.trans z))]; exact ⟨h1,h2⟩
theorem KV.put {kvs:List (κ × V)} {vs:List (κ × Value)} (r:KV kvs vs) (k:κ) {y:V} {u:Value} (ry:RelV y u):KV (putK kvs k y) (stored vs k u):=by
 unfold putK stored
 rw [r.any k]
 by_cases e:(vs.any fun kv=>decide (kv.1 = k)) = true
 ·rw [if_pos e,if_pos e]; exact r.repl k ry
 ·rw [if_neg e,if_neg e]; exact Paired.snoc r ⟨rfl,ry⟩
theorem KV.keys {kvs:List (κ × V)} {vs:List (κ × Value)} (r:KV kvs vs):kvs.map (·.1) = vs.map (·.1):=by
 unfold KV at r
 induction r with
 | nil=>rfl
 | cons h t ih=>rw [List.map_cons,List.map_cons,ih,h.1]
theorem KV.length {kvs:List (κ × V)} {vs:List (κ × Value)} (r:KV kvs vs):kvs.length = vs.length:=Paired.length r
end
theorem jil {P:Program} {w:World} {k:Key} {u:Value} (r:RelV (kV k) u):(jbx P w).is k u = true:=by
 cases k with
 | inl i=>obtain ⟨t,e⟩:=(show ∃ t,u = Value.int i t from r); subst e; exact jl6 P w i t
 | inr x=>obtain ⟨t,e⟩:=(show ∃ t,u = Value.str x t from r); subst e; exact jl5 P w x t
theorem jk4 {P:Program} {w:World}:∀ {ks:List Key} {us:List Value},Vals (ks.map kV) us→ItemsAre (jbx P w) ks us
 | [],_,r=>by rw [List.map_nil] at r; cases r; exact .nil
 | k :: ks,_,r=>by
  rw [List.map_cons] at r
  cases r with
  | cons h t=>exact .cons (jil h) (jk4 t)
abbrev KT (H:Hp):List (List Key × V)→List (List Key × Addr × Value)→Prop:=Paired fun p q=>p.1 = q.1∧H q.2.1 = some (.tup (p.1.map kV))∧RelV p.2 q.2.2
theorem KT.val {H:Hp} {kvs:List (List Key × V)} {xs:List (List Key × Addr × Value)} (r:KT H kvs xs) (k:List Key):RelO (valV kvs k) ((atKey xs k).map (·.2)):=by
 induction r with
 | nil=>exact True.intro
 | @cons p q ps qs h t ih =>
  obtain ⟨h1,_,h2⟩:=h
  by_cases e:p.1 = k
  ·have e':q.1 = k:=h1.symm.trans e
   have b:atKey (q :: qs) k = some q.2:=by simp [atKey,List.find?_cons,e']
   rw [jcm e,b]; exact h2
  ·have e':¬ q.1 = k:=fun z=>e (h1.trans z)
   have b:atKey (q :: qs) k = atKey qs k:=by simp [atKey,List.find?_cons,e']
   rw [jcn e,b]; exact ih
theorem KT.repl {H:Hp} {kvs:List (List Key × V)} {xs:List (List Key × Addr × Value)} (r:KT H kvs xs) (k:List Key) {y:V} {u:Value} (ry:RelV y u) :
  KT H (kvs.map fun kv=>if kv.1 = k then (kv.1,y) else kv) (xs.map (putAt k u)):=by
 induction r with
 | nil=>exact .nil
 | @cons p q ps qs h t ih =>
  rw [List.map_cons,List.map_cons]
  refine .cons ?_ ih
  obtain ⟨h1,h2,h3⟩:=h
  unfold putAt
  by_cases e:p.1 = k
  ·rw [if_pos e,if_pos (h1.symm.trans e)]; exact ⟨h1,h2,ry⟩
  ·rw [if_neg e,if_neg (fun z=>e (h1.trans z))]; exact ⟨h1,h2,h3⟩
theorem KT.put {H:Hp} {kvs:List (List Key × V)} {xs:List (List Key × Addr × Value)} (r:KT H kvs xs) (k:List Key) {b:Addr} {y:V} {u:Value} (hb:H b = some (.tup (k.map kV))) (ry:RelV y u) :
  KT H (putK kvs k y) (storedH xs k b u):=by
 have e:(kvs.any fun kv=>decide (kv.1 = k)) = (atKey xs k).isSome:=by
  rw [je8,(r.val k).isSome_eq,Option.isSome_map]
 unfold putK storedH
 rw [e]
 by_cases q:(atKey xs k).isSome = true
 ·rw [if_pos q,if_pos q]; exact r.repl k ry
 ·rw [if_neg q,if_neg q]; exact Paired.snoc r ⟨rfl,hb,ry⟩
theorem KT.keeps {H H':Hp} {kvs:List (List Key × V)} {xs:List (List Key × Addr × Value)} (r:KT H kvs xs) (ht:∀ b ys,H b = some (.tup ys)→H' b = some (.tup ys)):KT H' kvs xs :=
 Paired.mapP r fun _ _ z=>⟨z.1,ht _ _ z.2.1,z.2.2⟩
section
variable {P:Program} {w:World} {H:Hp} {h:Heap} {a:Addr}
theorem rd_of {u:HO} (ok:HOk P w H h) (e:Rd H a u):jcg P w H h a u:=e.ok ok
theorem jk9 {kvs:List (Key × V)} (ok:HOk P w H h) (e:Rd H a (.dK kvs)):kvs.length ≤ sizeLine∧(a == sysModules) = false∧∃ vs,KV kvs vs∧h.DictOf (jbx P w) a vs :=
 show jcg P w H h a (.dK kvs) from rd_of ok e
theorem jro {kvs:List (Key × V)} (ok:HOk P w H h) (e:H a = some (.dK kvs)):kvs.length ≤ sizeLine∧(a == sysModules) = false∧∃ vs,KV kvs vs∧h.DictOf (jbx P w) a vs:=jk9 ok (.inl e)
theorem jgi {ks:List Key} (ok:HOk P w H h) (e:H a = some (.tup (ks.map kV))):(tupleKind (jbx P w)).is h ks a:=by
 obtain ⟨_,its,r,o,h1,h2,n,h3⟩:=(show jcg P w H h a (.tup (ks.map kV)) from ok a _ e)
 exact ⟨o,its.toArray,n,h1,h2,h3,by simpa using jk4 r⟩
theorem jk8 {kvs:List (List Key × V)} (ok:HOk P w H h) (e:Rd H a (.dT kvs)):kvs.length ≤ sizeLine∧(a == sysModules) = false ∧
  ∃ xs,KT H kvs xs∧h.DictOfH (tupleKind (jbx P w)) a xs:=by
 obtain ⟨z,y,xs,r,o,es,ep,h1,h2,h3,h4,h5⟩:=(show jcg P w H h a (.dT kvs) from rd_of ok e)
 refine ⟨z,y,xs,r,o,es,ep,h1,h2,h3,h4,fun x hx=>?_,h5⟩
 have all:∀ {l:List (List Key × V)} {m:List (List Key × Addr × Value)},KT H l m→∀ x ∈ m,(tupleKind (jbx P w)).is h x.1 x.2.1:=by
  intro l m q
  induction q with
  | nil=>intro x hx; exact nomatch hx
  | @cons p q ps qs hq t ih =>
   intro x hx
   rcases List.mem_cons.mp hx with e | hx
   ·subst e
    exact jgi ok (by rw [← hq.1]; exact hq.2.1)
   ·exact ih x hx
 exact all r x hx
theorem dt_of {kvs:List (List Key × V)} (ok:HOk P w H h) (e:H a = some (.dT kvs)):kvs.length ≤ sizeLine∧(a == sysModules) = false ∧
  ∃ xs,KT H kvs xs∧h.DictOfH (tupleKind (jbx P w)) a xs:=jk8 ok (.inl e)
end
def DGet (H:Hp) (a:Addr) (y:V) (r:Option V):Prop :=
 (∃ kvs k,Rd H a (.dK kvs)∧y = kV k∧r = valV kvs k) ∨ ∃ kvs k b,Rd H a (.dT kvs)∧y = .ref b∧H b = some (.tup (k.map kV))∧r = valV kvs k
def DPut (H:Hp) (a:Addr) (y v:V) (H':Hp):Prop :=
 (∃ kvs k,H a = some (.dK kvs)∧y = kV k∧kvs.length < sizeLine∧H' = upd H a (.dK (putK kvs k v))) ∨
 ∃ kvs k b,H a = some (.dT kvs)∧y = .ref b∧H b = some (.tup (k.map kV))∧kvs.length < sizeLine∧H' = upd H a (.dT (putK kvs k v))
theorem DGet.k {H:Hp} {a:Addr} {kvs:List (Key × V)} {k:Key} (e:H a = some (.dK kvs)):DGet H a (kV k) (valV kvs k):=.inl ⟨kvs,k,.inl e,rfl,rfl⟩
theorem DGet.t {H:Hp} {a b:Addr} {kvs:List (List Key × V)} {k:List Key} (e:H a = some (.dT kvs)) (eb:H b = some (.tup (k.map kV))):DGet H a (.ref b) (valV kvs k):=.inr ⟨kvs,k,b,.inl e,rfl,eb,rfl⟩
theorem DPut.k {H:Hp} {a:Addr} {kvs:List (Key × V)} {k:Key} {v:V} (e:H a = some (.dK kvs)) (hl:kvs.length < sizeLine):DPut H a (kV k) v (upd H a (.dK (putK kvs k v))):=.inl ⟨kvs,k,e,rfl,hl,rfl⟩
theorem DPut.t {H:Hp} {a b:Addr} {kvs:List (List Key × V)} {k:List Key} {v:V} (e:H a = some (.dT kvs)) (eb:H b = some (.tup (k.map kV))) (hl:kvs.length < sizeLine) :
  DPut H a (.ref b) v (upd H a (.dT (putK kvs k v))):=.inr ⟨kvs,k,b,e,rfl,eb,hl,rfl⟩
section
variable {X:Cx} {pins:List (Addr × Obj)} {σ:St} {H:Hp} {s:Shared} {a:Addr} {y v:V} {u r:Value} {o:Option V} {A:Around} {E:Value→Shared→Prop}
theorem Inv.big (I:Inv X pins σ H s):sysModules < s.heap.objs.size:=by
 have h:mainGlobals < s.heap.objs.size:=(I.mod.glob.keeps I.bk).lt
 exact Nat.lt_trans (by decide) h
theorem jq0 {Q:Value→Shared→Prop} (hu:A.units + 1 < cLine) (I:Inv X pins σ H s) (g:DGet H a y (some v)) (ry:RelV y u) (h:∀ w' s',Inv X pins σ H s'→RelV v w'→Q w' s') :
  wpAny (model X.prog X.w) A (getItem (.ref a) u) Q E s:=by
 rcases g with ⟨kvs,k,e,ey,l⟩ | ⟨kvs,k,b,e,ey,eb,l⟩
 ·subst ey
  obtain ⟨z,hd,vs,rel,dd⟩:=jk9 I.hok e
  obtain ⟨w',hw,rw'⟩:=RelO.some_of (v:=v) (o:=valueAt vs k) (by rw [l]; exact rel.val k)
  exact wpAny_getItem_of (jil ry) dd.mapOf hw (h w' _ (I.tok _) rw')
 ·subst ey
  cases (show u = Value.ref b from ry)
  obtain ⟨z,hd,xs,rel,dd⟩:=jk8 I.hok e
  obtain ⟨w',hw,rw'⟩:=RelO.some_of (v:=v) (o:=(atKey xs k).map (·.2)) (by rw [l]; exact rel.val k)
  obtain ⟨p,hp,hp2⟩:=Option.map_eq_some_iff.mp hw
  refine wpAny_getItem_heap (tupleKind_room_in1 hu) (jgi I.hok eb) dd hp ?_
  rw [hp2]
  exact h w' _ (I.tok _) rw'
theorem d_in {Q:Value→Shared→Prop} (hu:A.units + 1 < cLine) (I:Inv X pins σ H s) (g:DGet H a y o) (ry:RelV y u) (h:∀ s',Inv X pins σ H s'→Q (.bool o.isSome) s') :
  wpAny (model X.prog X.w) A (compareOp .In u (.ref a)) Q E s:=by
 rcases g with ⟨kvs,k,e,ey,l⟩ | ⟨kvs,k,b,e,ey,eb,l⟩
 ·subst ey
  obtain ⟨z,hd,vs,rel,dd⟩:=jk9 I.hok e
  refine wpAny_in_of (jil ry) hd dd.mapOf ?_
  rw [← (rel.val k).isSome_eq,← l]
  exact h _ (I.tok _)
 ·subst ey
  cases (show u = Value.ref b from ry)
  obtain ⟨z,hd,xs,rel,dd⟩:=jk8 I.hok e
  refine wpAny_in_heap (tupleKind_room_in1 hu) (jgi I.hok eb) hd dd ?_
  have q:=(rel.val k).isSome_eq
  rw [Option.isSome_map] at q
  rw [← q,← l]
  exact h _ (I.tok _)
theorem ju7 {Q:Value→Shared→Prop} (hu:A.units + 1 < cLine) (I:Inv X pins σ H s) (g:DGet H a y o) (ry:RelV y u) (h:∀ s',Inv X pins σ H s'→Q (.bool (!o.isSome)) s') :
  wpAny (model X.prog X.w) A (compareOp .NotIn u (.ref a)) Q E s:=by
 rcases g with ⟨kvs,k,e,ey,l⟩ | ⟨kvs,k,b,e,ey,eb,l⟩
 ·subst ey
  obtain ⟨z,hd,vs,rel,dd⟩:=jk9 I.hok e
  refine wpAny_notIn_of (jil ry) hd dd.mapOf ?_
  rw [← (rel.val k).isSome_eq,← l]
  exact h _ (I.tok _)
 ·subst ey
  cases (show u = Value.ref b from ry)
  obtain ⟨z,hd,xs,rel,dd⟩:=jk8 I.hok e
  refine wpAny_notIn_heap (tupleKind_room_in1 hu) (jgi I.hok eb) hd dd ?_
  have q:=(rel.val k).isSome_eq
  rw [Option.isSome_map] at q
  rw [← q,← l]
  exact h _ (I.tok _)
theorem jlf {h':Heap} {t':Nat} {ob:HO} (I:Inv X pins σ H s) (mu:Mut (H a)) (hs:Heap.SameBut a s.heap h') (he:∃ q,h'.get? a = some q) (new:jcg X.prog X.w (upd H a ob) h' a ob) :
  Inv X pins σ (upd H a ob) { s with heap:=h',toks:=t' } :=
 I.write (x:=a) (e:=a) mu (.inl rfl) (fun b q hb z=>(hs.2 b hb).trans z) he new
theorem jpv {P:Program} {w:World} {H':Hp} {h':Heap} {kvs:List (Key × V)} {vs:List (Key × Value)} (z:kvs.length ≤ sizeLine) (hd:(a == sysModules) = false) (rel:KV kvs vs) (dd:h'.DictOf (jbx P w) a vs) :
  jcg P w H' h' a (.dK kvs):=⟨z,hd,vs,rel,dd⟩
theorem jka {H':Hp} {Q:Unit→Shared→Prop} (hu:A.units + 1 < cLine) (I:Inv X pins σ H s) (g:DPut H a y v H') (ry:RelV y u) (rv:RelV v r) (h:∀ s',Inv X pins σ H' s'→Q () s') :
  wpAny (model X.prog X.w) A (setItem (.ref a) u r) Q E s:=by
 rcases g with ⟨kvs,k,e,ey,l,eH⟩ | ⟨kvs,k,b,e,ey,eb,l,eH⟩
 ·subst ey eH
  obtain ⟨z,hd,vs,rel,dd⟩:=jro I.hok e
  have hz:vs.length ≤ sizeLine:=by rw [← rel.length]; exact z
  have hl:(putK kvs k v).length ≤ sizeLine:=by have:=jdi kvs k v; omega
  refine wpAny_setItem_pairs (hsz:=hz) (jil ry) dd fun h' dd' hs=>h _ ?_
  have he:∃ q,h'.get? a = some q:=let ⟨q,_,_,hq,_⟩:=dd'; ⟨q,hq⟩
  exact jlf I (by rw [e]; exact True.intro) hs he (jpv hl hd (rel.put k rv) dd')
 ·subst ey eH
  cases (show u = Value.ref b from ry)
  obtain ⟨z,hd,xs,rel,dd⟩:=dt_of I.hok e
  have hz:xs.length ≤ sizeLine:=by rw [← Paired.length rel]; exact z
  have hl:(putK kvs k v).length ≤ sizeLine:=by have:=jdi kvs k v; omega
  refine wpAny_setItem_heap (hsz:=hz) (tupleKind_room_in1 hu) (jgi I.hok eb) dd fun h' dd' hs=>h _ ?_
  obtain ⟨q,es,ep,hq,h2,h3,h4,_,h5⟩:=dd'
  refine jlf I (by rw [e]; exact True.intro) hs ⟨q,hq⟩ ⟨hl,hd,_,(rel.put k eb rv).keeps fun c ys ec=>?_,q,es,ep,hq,h2,h3,h4,h5⟩
  rw [jas (jl2 ec e (fun z=>nomatch z))]
  exact ec
end
section
variable {X:Cx} {pins:List (Addr × Obj)} {σ:St} {H:Hp} {s:Shared} {a:Addr} {kvs:List (Key × V)} {k:Key} {u:Value} {A:Around} {E:Value→Shared→Prop}
end
def NoSl (i:Expr):Prop:=∀ ov iv,subscripted i false ov iv = operate [ov,iv] (getItem ov iv)
theorem jsx {prog:Program} {w:World} {A:Around} {E:Value→Shared→Prop} {s:Shared} {env:Env} {value slice:Expr} {pos:Pos} {T id:String} {Q:Value→Shared→Prop}
  (hl:typeLookup (.type T) "__getitem__" = pure (some (.builtin id))) (hs:NoSl slice)
  (h:wpAny (model prog w) A (eval value env) (fun o s₁=>wpAny (model prog w) A (eval slice env) (fun i s₂=>s₂.TypeIs o T∧wpAny (model prog w) A (getItem o i) Q E s₂) E s₁) E s) :
  wpAny (model prog w) A (eval (.Subscript value slice pos) env) Q E s:=by
 refine Subscript_ (wpAny_mono h (fun o s₁ h₁=>wpAny_mono h₁ (fun i s₂ h₂=>?_) fun _ _ x=>x) fun _ _ x=>x)
 obtain ⟨hT,h₂⟩:=h₂
 unfold subscriptTail
 refine wpAny_bind ?_
 rw [getitemInPython_of_ne hT.not_modules]
 refine wpAny_bind (wpAny_specialOf hT hl ?_)
 have fin:wpAny (model prog w) A (subscripted slice false o i) (fun r s₃=>wpAny (model prog w) A (letTemporaryGo value o r >>= fun _=>pure r) Q E s₃) E s₂:=by
  rw [hs o i]
  exact wpAny_operating (wpAny_mono h₂ (fun r s₃ h₃=>wpAny_bind (wpAny_letTemporaryGo (wpAny_pure h₃))) fun _ _ x=>x)
 first
  | exact wpAny_pure (wpAny_bind fin)
  | exact wpAny_bind (wpAny_pure (wpAny_bind fin))
  | exact wpAny_bind fin
theorem jle {X:Cx} {pins:List (Addr × Obj)} {σ:St} {H:Hp} {s:Shared} {a:Addr} {y:V} {o:Option V} (I:Inv X pins σ H s) (g:DGet H a y o):s.TypeIs (.ref a) "dict":=by
 rcases g with ⟨kvs,k,e,_,_⟩ | ⟨kvs,k,b,e,_,_,_⟩
 ·obtain ⟨_,_,vs,_,dd⟩:=jk9 I.hok e
  exact dd.typeIs
 ·obtain ⟨_,_,xs,_,dd⟩:=jk8 I.hok e
  exact dd.typeIs
def tDIn (ty td:TE):TE:=fun σ H Q=>ty σ H fun y H1=>td σ H1 fun x H2=>∃ a o,x = .ref a∧DGet H2 a y o∧Q (.bl o.isSome) H2
def sDPut (td ty tv:TE):TS:=fun D σ H=>tv σ H fun v H1=>td σ H1 fun x H2=>ty σ H2 fun y H3=>∃ a H4,x = .ref a∧DPut H3 a y v H4∧D.nx σ H4
section
variable {X:Cx} {o i e value:Expr} {pos pos' tpos:Pos} {td ty tv:TE}
theorem pc_din (hu:X.A.units + 1 < cLine) (hi:PE X i ty) (ho:PE X o td):PC X .In i o (tDIn ty td):=by
 intro pins s σ H Q I h
 refine thn (hi pins s σ H _ I h) fun iv s1 ⟨y,H1,I1,ry,q1⟩=>thn (ho pins s1 σ H1 _ I1 q1) fun u s2 ⟨x,H2,I2,rx,a,ov,ex,g,q2⟩=>?_
 subst ex
 obtain rfl:u = Value.ref a:=rx
 exact d_in hu I2 g ry fun s3 I3=>⟨.bl ov.isSome,H2,I3,rfl,q2⟩
theorem joq (hu:X.A.units + 1 < cLine) (ho:PE X o td) (hi:PE X i ty) (hv:PE X value tv) (hs:swapsWith value (some (.Subscript o i pos')) pos.line X.env = pure false) :
  PS X (.Assign [.Subscript o i pos'] value pos) (sDPut td ty tv):=by
 intro pins s σ H D I h
 refine wpAny_Assign_Subscript (thn (hv pins s σ H _ I h) fun r s1 ⟨v,H1,I1,rv,q1⟩=>thn (ho pins s1 σ H1 _ I1 q1) fun u s2 ⟨x,H2,I2,rx,q2⟩=>thn (hi pins s2 σ H2 _ I2 q2) fun iv s3 ⟨y,H3,I3,ry,a,H4,ex,g,q3⟩=>?_) hs
 subst ex
 obtain rfl:u = Value.ref a:=rx
 exact jka hu I3 g ry rv fun s4 I4=>⟨σ,H4,I4,q3⟩
end
theorem jmp {P:Program} {w:World} {H:Hp} (h:Heap) (hb:sysModules < h.objs.size):jcg P w H (h.push { cls:=.type "dict",data:=.dict #[] }) h.objs.size (.dK []) :=
 ⟨Nat.zero_le _,beq_eq_false_iff_ne.mpr (Ne.symm (Nat.ne_of_lt hb)),[],.nil,Heap.DictOf.new h⟩
theorem jrn {P:Program} {w:World} {H:Hp} (h:Heap) (hb:sysModules < h.objs.size):jcg P w H (h.push { cls:=.type "dict",data:=.dict #[] }) h.objs.size (.dT []) :=
 ⟨Nat.zero_le _,beq_eq_false_iff_ne.mpr (Ne.symm (Nat.ne_of_lt hb)),[],.nil,_,#[],0,Heap.get?_push_size _ rfl,⟨rfl,rfl,rfl⟩,rfl,rfl,List.nodup_nil⟩
def ja8:TE:=fun _ H Q=>∀ p,H p = none→Q (.ref p) (upd H p (.dK []))
def tDNewT:TE:=fun _ H Q=>∀ p,H p = none→Q (.ref p) (upd H p (.dT []))
section
variable {X:Cx} {pos:Pos}
theorem jmc:PE X (.Dict [] [] pos) ja8:=fun pins s σ H Q I h =>
 wpAny_Dict_empty ⟨.ref s.heap.objs.size,_,I.laid (a:=s.heap.objs.size) (o:=.dK []) (t':=s.toks) (fun _ _ q=>Heap.get?_push_of_some _ q) (Nat.le_refl _) (jmp s.heap I.big),rfl,h _ (I.hok.fresh (Nat.le_refl _))⟩
theorem jr1:PE X (.Dict [] [] pos) tDNewT:=fun pins s σ H Q I h =>
 wpAny_Dict_empty ⟨.ref s.heap.objs.size,_,I.laid (a:=s.heap.objs.size) (o:=.dT []) (t':=s.toks) (fun _ _ q=>Heap.get?_push_of_some _ q) (Nat.le_refl _) (jrn s.heap I.big),rfl,h _ (I.hok.fresh (Nat.le_refl _))⟩
end
def jo1:List (TE × TE)→St→Hp→(List (V × V)→Hp→Prop)→Prop
 | [],_,H,Q=>Q [] H
 | (tk,tv) :: r,σ,H,Q=>tk σ H fun x H1=>tv σ H1 fun y H2=>jo1 r σ H2 fun ps H3=>Q ((x,y) :: ps) H3
abbrev VV:List (V × V)→List (Value × Value)→Prop:=Paired fun p q=>RelV p.1 q.1∧RelV p.2 q.2
def PPs (X:Cx) (pos:Pos) (keys:List (Option Expr)) (values:List Expr) (trs:List (TE × TE)):Prop :=
 ∀ (pins:List (Addr × Obj)) (s:Shared) (σ:St) (H:Hp) (Q:List (V × V)→Hp→Prop),Inv X pins σ H s→jo1 trs σ H Q →
  wpAny (model X.prog X.w) X.A (evalPairs (pairTrees keys values X.env pos)) (fun vs s'=>∃ ps H',Inv X pins σ H' s'∧VV ps vs∧Q ps H') X.xe s
theorem jt7 {X:Cx} {pos:Pos}:PPs X pos [] [] []:=fun pins s σ H Q I h=>pairTrees_nil_walk ⟨[],H,I,.nil,h⟩
theorem jqx {X:Cx} {pos:Pos} {k v:Expr} {ks:List (Option Expr)} {vs:List Expr} {tk tv:TE} {trs:List (TE × TE)} (hk:PE X k tk) (hv:PE X v tv) (hr:PPs X pos ks vs trs) :
  PPs X pos (some k :: ks) (v :: vs) ((tk,tv) :: trs):=fun pins s σ H Q I h =>
 pairTrees_cons_walk (thn (hk pins s σ H _ I h) fun u s1 ⟨x,H1,I1,rx,q1⟩=>thn (hv pins s1 σ H1 _ I1 q1) fun w2 s2 ⟨y,H2,I2,ry,q2⟩ =>
  thn (hr pins s2 σ H2 _ I2 q2) fun ws s3 ⟨ps,H3,I3,rel,q3⟩=>⟨(x,y) :: ps,H3,I3,.cons ⟨rx,ry⟩ rel,q3⟩)
def jjy (kvs more:List (Key × V)):List (Key × V):=more.foldl (fun acc kv=>putK acc kv.1 kv.2) kvs
theorem KV.merge:∀ {more:List (Key × V)} {rs:List (Key × Value)} {kvs:List (Key × V)} {vs:List (Key × Value)},KV more rs→KV kvs vs→KV (jjy kvs more) (merged vs rs):=by
 intro more rs kvs vs r
 unfold KV at r
 induction r generalizing kvs vs with
 | nil=>intro q; exact q
 | @cons p q ps qs h t ih =>
  intro r0
  have e:KV (putK kvs p.1 p.2) (stored vs q.1 q.2):=by
   have:=r0.put p.1 h.2
   rw [← h.1]; exact this
  exact ih e
theorem jei:∀ (more kvs:List (Key × V)),(jjy kvs more).length ≤ kvs.length + more.length
 | [],kvs=>by show kvs.length ≤ kvs.length + 0; omega
 | p :: r,kvs=>by
  have h1:=jei r (putK kvs p.1 p.2)
  have h2:=jdi kvs p.1 p.2
  show (jjy (putK kvs p.1 p.2) r).length ≤ _
  rw [List.length_cons]; omega
theorem jhi {P:Program} {w:World}:∀ {kvs:List (Key × V)} {ws:List (Value × Value)},VV (kvs.map fun kv=>(kV kv.1,kv.2)) ws→∃ rs,Carries (jbx P w) ws rs∧KV kvs rs
 | [],_,r=>by rw [List.map_nil] at r; cases r; exact ⟨[],True.intro,.nil⟩
 | p :: kvs,_,r=>by
  rw [List.map_cons] at r
  cases r with
  | @cons a b as bs h t =>
   obtain ⟨rs,c,q⟩:=jhi (P:=P) (w:=w) t
   obtain ⟨b1,b2⟩:=b
   exact ⟨(p.1,b2) :: rs,⟨jil h.1,rfl,c⟩,.cons ⟨rfl,h.2⟩ q⟩
def tDisp (trs:List (TE × TE)):TE:=fun σ H Q=>∀ p,H p = none→jo1 trs σ (upd H p (.dK [])) fun ps H2=>H2 p = some (.dK [])∧∃ kvs:List (Key × V),ps = kvs.map (fun kv=>(kV kv.1,kv.2))∧kvs.length ≤ 15∧Q (.ref p) (upd H2 p (.dK (jjy [] kvs)))
theorem jtb {X:Cx} {pos:Pos} {keys:List (Option Expr)} {values:List Expr} {trs:List (TE × TE)} (h:PPs X pos keys values trs) (hall:keys.all (·.isSome) = true) (hl:keys.length = values.length) (h0:keys ≠ [])
  (h15:keys.length ≤ 15):PE X (.Dict keys values pos) (tDisp trs):=by
 intro pins s σ H Q I q
 have hn:=I.hok.fresh (Nat.le_refl s.heap.objs.size)
 have I1:=I.laid (a:=s.heap.objs.size) (o:=.dK []) (h':=s.heap.push { cls:=.type "dict",data:=.dict #[] }) (t':=s.toks) (fun _ _ q=>Heap.get?_push_of_some _ q) (Nat.le_refl _) (jmp s.heap I.big)
 refine wpAny_Dict_walk (knd:=jbx X.prog X.w) hall hl h0 h15 (thn (h pins _ σ _ _ I1 (q _ hn)) fun ws s2 ⟨ps,H2,I2,rel,e,kvs,ep,lk,q2⟩=>?_)
 subst ep
 obtain ⟨rs,c,rk⟩:=jhi (P:=X.prog) (w:=X.w) rel
 obtain ⟨z,hd,vs0,r0,dd⟩:=jro I2.hok e
 cases r0
 refine ⟨rs,c,dd,fun h' dd' hs=>⟨.ref s.heap.objs.size,_,?_,rfl,q2⟩⟩
 have hz:(jjy [] kvs).length ≤ sizeLine:=by
  have h1:=jei kvs []
  rw [List.length_nil] at h1
  rw [sizeLine_eq]; omega
 have he:∃ q,h'.get? s.heap.objs.size = some q:=let ⟨q,_,_,hq,_⟩:=dd'; ⟨q,hq⟩
 exact jlf I2 (by rw [e]; exact True.intro) hs he (jpv hz hd (rk.merge .nil) dd')
structure M1 (X:Cx) (o:Expr) (m:Str) (apos:Pos) (e:Expr) (cpos:Pos):Prop where
 base:attributeBase o m X.env (eval o X.env) = eval o X.env
 few:((backTo cpos (starEach [e] X.env)).all (fun x=>!x.1) && (backToKw cpos (keywordEach [] X.env)).all (fun x=>x.1.isSome)
  && decide (([e]:List Expr).length + ([]:List Keyword).length + (if ([]:List Keyword).isEmpty then 0 else 1) < 30)) = true
 line:(apos.endLine == cpos.line) = true
 trees:backTo cpos (starEach [e] X.env) = [(false,eval e X.env)]
structure M2 (X:Cx) (o:Expr) (m:Str) (apos:Pos) (e f:Expr) (cpos:Pos):Prop where
 base:attributeBase o m X.env (eval o X.env) = eval o X.env
 few:((backTo cpos (starEach [e,f] X.env)).all (fun x=>!x.1) && (backToKw cpos (keywordEach [] X.env)).all (fun x=>x.1.isSome)
  && decide (([e,f]:List Expr).length + ([]:List Keyword).length + (if ([]:List Keyword).isEmpty then 0 else 1) < 30)) = true
 line:(apos.endLine == cpos.line) = true
 trees:backTo cpos (starEach [e,f] X.env) = [(false,eval e X.env),(false,eval f X.env)]
def IsD (H:Hp) (a:Addr):Prop:=(∃ kvs,Rd H a (.dK kvs)) ∨ ∃ kvs,Rd H a (.dT kvs)
theorem jsj {X:Cx} {pins:List (Addr × Obj)} {σ:St} {H:Hp} {s:Shared} {a:Addr} (I:Inv X pins σ H s) (d:IsD H a) :
  s.TypeIs (.ref a) "dict"∧(∀ b,Value.ref a = .ref b→∃ ob,s.heap.get? b = some ob∧ob.dict = none)∧(a == sysModules) = false:=by
 rcases d with ⟨kvs,e⟩ | ⟨kvs,e⟩
 ·obtain ⟨_,hd,vs,_,dd⟩:=jk9 I.hok e
  refine ⟨dd.typeIs,fun b q=>?_,hd⟩
  cases q
  obtain ⟨ob,_,_,h1,h2,_⟩:=dd
  exact ⟨ob,h1,h2.2.1⟩
 ·obtain ⟨_,hd,xs,_,dd⟩:=jk8 I.hok e
  refine ⟨dd.typeIs,fun b q=>?_,hd⟩
  cases q
  obtain ⟨ob,_,_,h1,h2,_⟩:=dd
  exact ⟨ob,h1,h2.2.1⟩
section
variable {X:Cx} {pins:List (Addr × Obj)} {σ:St} {H:Hp} {s:Shared} {a:Addr} {y d:V} {u r:Value} {o:Option V} {A:Around} {E:Value→Shared→Prop}
theorem d_get1 {Q:Value→Shared→Prop} (hu:A.units + 1 < cLine) (I:Inv X pins σ H s) (g:DGet H a y o) (ry:RelV y u) (h:∀ w' s',Inv X pins σ H s'→RelV (o.getD .non) w'→Q w' s') :
  wpAny (model X.prog X.w) A (call (.builtin "dict.get") [.ref a,u]) Q E s:=by
 rcases g with ⟨kvs,k,e,ey,l⟩ | ⟨kvs,k,b,e,ey,eb,l⟩
 ·subst ey
  obtain ⟨z,hd,vs,rel,dd⟩:=jk9 I.hok e
  refine call_meetsIn PySem.F.slot_dict_get dd.typeIs PySem.F.entry_dict_get (PySem.F.args_dict_get_2 _ _) (meets_dict_get (jbx X.prog X.w) a (jil ry) hd) ⟨_,dd.mapOf,h _ _ (I.tok _) ?_⟩
  rw [l]
  exact (rel.val k).getD rfl
 ·subst ey
  cases (show u = Value.ref b from ry)
  obtain ⟨z,hd,xs,rel,dd⟩:=jk8 I.hok e
  refine call_meetsIn PySem.F.slot_dict_get dd.typeIs PySem.F.entry_dict_get (PySem.F.args_dict_get_2 _ _) (meetsH_dict_get (tupleKind (jbx X.prog X.w)) a b hd) ⟨tupleKind_room_in1 hu,k,xs,jgi I.hok eb,dd,h _ _ (I.tok _) ?_⟩
  rw [l]
  exact (rel.val k).getD rfl
theorem d_get2 {Q:Value→Shared→Prop} (hu:A.units + 1 < cLine) (I:Inv X pins σ H s) (g:DGet H a y o) (ry:RelV y u) (rd:RelV d r) (h:∀ w' s',Inv X pins σ H s'→RelV (o.getD d) w'→Q w' s') :
  wpAny (model X.prog X.w) A (call (.builtin "dict.get") [.ref a,u,r]) Q E s:=by
 rcases g with ⟨kvs,k,e,ey,l⟩ | ⟨kvs,k,b,e,ey,eb,l⟩
 ·subst ey
  obtain ⟨z,hd,vs,rel,dd⟩:=jk9 I.hok e
  refine call_meetsIn PySem.F.slot_dict_get dd.typeIs PySem.F.entry_dict_get (PySem.F.args_dict_get_3 _ _ _) (meets_dict_get_default (jbx X.prog X.w) a (jil ry) hd r) ⟨_,dd.mapOf,h _ _ (I.tok _) ?_⟩
  rw [l]
  exact (rel.val k).getD rd
 ·subst ey
  cases (show u = Value.ref b from ry)
  obtain ⟨z,hd,xs,rel,dd⟩:=jk8 I.hok e
  refine call_meetsIn PySem.F.slot_dict_get dd.typeIs PySem.F.entry_dict_get (PySem.F.args_dict_get_3 _ _ _) (meetsH_dict_get_default (tupleKind (jbx X.prog X.w)) a b hd r) ⟨tupleKind_room_in1 hu,k,xs,jgi I.hok eb,dd,h _ _ (I.tok _) ?_⟩
  rw [l]
  exact (rel.val k).getD rd
end
section
variable {X:Cx} {o e f:Expr} {apos cpos:Pos} {td ty tx:TE}
end
section
variable {X:Cx} {pins:List (Addr × Obj)} {σ:St} {H:Hp} {s:Shared} {a:Addr} {kvs:List (Key × V)} {A:Around} {E:Value→Shared→Prop}
end
section
variable {X:Cx} {pins:List (Addr × Obj)} {σ:St} {H:Hp} {s:Shared} {a:Addr} {y:V} {u:Value} {A:Around} {E:Value→Shared→Prop}
end
end L2
namespace L2
open PySem PySem.Spec PyProof.Rows
section
variable {κ:Type} [DecidableEq κ]
end
end L2
namespace L2
open PySem PySem.Spec PyProof.Rows
def jcq (env:Env):List (Str × NameKind)→List (Str × Addr)→List (Str × Addr)
 | [],acc=>acc
 | (n,k) :: r,acc=>jcq env r (if k == .free then (n,(env.cells.lookup n).getD 0) :: acc else acc)
theorem jdf {scope:Scope} {env:Env} (h:∀ y ∈ scope.names,y.2 = .free→∃ c,env.cells.lookup y.1 = some c) :
    closureFor scope env = pure (jcq env scope.names []):=by
  have key:∀ (l:List (Str × NameKind)) (acc:List (Str × Addr)),(∀ y ∈ l,y.2 = .free→∃ c,env.cells.lookup y.1 = some c) →
      (forIn l acc fun (x:Str × NameKind) (r:List (Str × Addr)) =>
        (if x.2 == NameKind.free then do
          let c ← cellOf env x.1
          pure (ForInStep.yield ((x.1,c) :: r))
        else pure (ForInStep.yield r):Sem (ForInStep (List (Str × Addr))))) = pure (jcq env l acc):=by
    intro l
    induction l with
    | nil=>intro acc _; rfl
    | cons y r ih =>
      intro acc hy
      obtain ⟨n,k⟩:=y
      rw [List.forIn_cons]
      by_cases hk:k = .free
      · subst hk
        obtain ⟨c,hc⟩:=hy (n,.free) List.mem_cons_self rfl
        have e1:cellOf env n = pure c:=by unfold cellOf; rw [hc]
        simp only [beq_self_eq_true,if_true]
        rw [e1]
        show (pure c >>= fun c=>pure (ForInStep.yield ((n,c) :: acc))) >>= _ = _
        have e2:jcq env ((n,NameKind.free) :: r) acc = jcq env r ((n,c) :: acc):=by
          have hc':env.cells.lookup n = some c:=hc
          show jcq env r (if (NameKind.free == NameKind.free) = true then (n,(env.cells.lookup n).getD 0) :: acc else acc) = _
          rw [hc']
          rfl
        rw [e2]
        exact ih _ fun z hz=>hy z (List.mem_cons_of_mem _ hz)
      · have hb:(k == NameKind.free) = false:=by simpa using hk
        simp only [hb,Bool.false_eq_true,if_false]
        have e2:jcq env ((n,k) :: r) acc = jcq env r acc:=by
          show jcq env r (if (k == NameKind.free) = true then _ else acc) = _
          rw [hb]; rfl
        rw [e2]
        exact ih _ fun z hz=>hy z (List.mem_cons_of_mem _ hz)
  unfold closureFor
  have e:=key scope.names [] h
  have e3:∀ (f:Str × NameKind→List (Str × Addr)→Sem (ForInStep (List (Str × Addr)))),(f = fun x r=>(if x.2 == NameKind.free then do
          let c ← cellOf env x.1
          pure (ForInStep.yield ((x.1,c) :: r))
        else pure (ForInStep.yield r)))→(forIn scope.names [] f >>= fun r=>pure r) = (pure (jcq env scope.names []):Sem (List (Str × Addr))):=by
    intro f hf
    rw [hf,e]
    rfl
  exact e3 _ rfl
theorem jen {env:Env} {x:Str}:∀ (l:List (Str × NameKind)) (acc:List (Str × Addr)) (c:Addr),(jcq env l acc).lookup x = some c →
  ((∃ y ∈ l,y.1 = x∧y.2 = .free)∧(env.cells.lookup x).getD 0 = c) ∨ acc.lookup x = some c
 | [],acc,c,h=>.inr h
 | (n,k) :: r,acc,c,h=>by
  rcases jen r _ c h with ⟨⟨y,hy,e⟩,q⟩ | q
  ·exact .inl ⟨⟨y,List.mem_cons_of_mem _ hy,e⟩,q⟩
  ·by_cases hk:k = .free
   ·subst hk
    have q':List.lookup x ((n,(env.cells.lookup n).getD 0) :: acc) = some c:=q
    rw [List.lookup_cons] at q'
    cases hx:x == n with
    | true =>
     rw [hx] at q'
     have hx':x = n:=by simpa using hx
     subst hx'
     exact .inl ⟨⟨_,List.mem_cons_self,rfl,rfl⟩,Option.some.inj q'⟩
    | false=>rw [hx] at q'; exact .inr q'
   ·have hb:(k == NameKind.free) = false:=by simpa using hk
    rw [hb] at q
    exact .inr q
theorem jf5 {env:Env} {x:Str}:∀ (l:List (Str × NameKind)) (acc:List (Str × Addr)),((∃ y ∈ l,y.1 = x∧y.2 = .free) ∨ (acc.lookup x).isSome)→((jcq env l acc).lookup x).isSome
 | [],acc,h=>by
  rcases h with ⟨y,hy,_⟩ | h
  ·cases hy
  ·exact h
 | (n,k) :: r,acc,h=>by
  show ((jcq env r (if (k == NameKind.free) = true then _ else acc)).lookup x).isSome
  refine jf5 r _ ?_
  rcases h with ⟨y,hy,e1,e2⟩ | h
  ·rcases List.mem_cons.mp hy with rfl | hy
   ·have e2':k = .free:=e2
    have e1':n = x:=e1
    subst e2' e1'
    refine .inr ?_
    simp [List.lookup_cons]
   ·exact .inl ⟨y,hy,e1,e2⟩
  ·refine .inr ?_
   split
   ·rw [List.lookup_cons]
    split
    ·rfl
    ·exact h
   ·exact h
structure CpScope (X:Cx) (scope:Scope) (N:List Str) (src:List (Option Nat)):Prop where
 kind:scope.kind = .function
 nocell:∀ y ∈ scope.names,y.2 ≠ .cell
 locs:∀ y ∈ scope.names,y.2 = .local→scope.names.lookup y.1 = some .local
 frees:∀ y ∈ scope.names,y.2 = .free→scope.names.lookup y.1 = some .free∧X.env.scope.names.lookup y.1 = some .cell
 nd:N.Nodup
 len:src.length = N.length
 cap:∀ (i j:Nat),src[i]? = some (some j)→X.N[j]? = N[i]?∧(N[i]?).elim False (fun x=>scope.names.lookup x = some .free)
def cst (src:List (Option Nat)) (σ:St):St:=src.map fun o=>o.bind fun j=>(σ[j]?).join
theorem jd9 {env:Env} (hk:env.scope.kind = .function):∀ {names:List (Str × NameKind)} {x:Str},names.lookup x = some .free→env.kindOf x = some .cell →
  (names.map fun (n,k)=>if (k == NameKind.free && env.scope.kind == .function && env.kindOf n == some .cell) then (n,NameKind.cell) else (n,k)).lookup x = some .cell
 | [],_,h,_=>by simp at h
 | (n,k) :: r,x,h,hc=>by
  have ih:=@jd9 env hk r x
  show List.lookup x ((if (k == NameKind.free && env.scope.kind == .function && env.kindOf n == some .cell) = true then (n,NameKind.cell) else (n,k)) :: _) = _
  cases hx:x == n with
  | true =>
   simp only [List.lookup_cons,hx] at h
   cases h
   have hx':x = n:=by simpa using hx
   subst hx'
   rw [if_pos (by rw [hk,hc]; rfl)]
   simp [List.lookup_cons]
  | false =>
   simp only [List.lookup_cons,hx] at h
   by_cases hq:(k == NameKind.free && env.scope.kind == .function && env.kindOf n == some .cell) = true
   ·rw [if_pos hq]; simp only [List.lookup_cons,hx]; exact ih h hc
   ·rw [if_neg hq]; simp only [List.lookup_cons,hx]; exact ih h hc
theorem jcp {env:Env}:∀ {names:List (Str × NameKind)} {x:Str} {k':NameKind},
  (names.map fun (n,k)=>if (k == NameKind.free && env.scope.kind == .function && env.kindOf n == some .cell) then (n,NameKind.cell) else (n,k)).lookup x = some k' →
   names.lookup x = some k' ∨ (names.lookup x = some .free∧k' = .cell)
 | [],_,_,h=>by simp at h
 | (n,k) :: r,x,k',h=>by
  have ih:=@jcp env r x k'
  have h:List.lookup x ((if (k == NameKind.free && env.scope.kind == .function && env.kindOf n == some .cell) = true then (n,NameKind.cell) else (n,k)) :: _) = _:=h
  cases hx:x == n with
  | true =>
   by_cases hq:(k == NameKind.free && env.scope.kind == .function && env.kindOf n == some .cell) = true
   ·rw [if_pos hq] at h
    have h1:=h
    simp only [List.lookup_cons,hx]
    have:k = .free:=by
     have:=(Bool.and_eq_true _ _ ▸ (Bool.and_eq_true _ _ ▸ hq).1).1
     simpa using this
    subst this
    refine .inr ⟨rfl,?_⟩
    have h2:List.lookup x ((n,NameKind.cell) :: (r.map fun (n,k)=>if (k == NameKind.free && env.scope.kind == .function && env.kindOf n == some .cell) then (n,NameKind.cell) else (n,k))) = some k':=h1
    simp only [List.lookup_cons,hx] at h2
    exact (Option.some.inj h2).symm
   ·rw [if_neg hq] at h
    simp only [List.lookup_cons,hx] at h ⊢
    exact .inl h
  | false =>
   have h':List.lookup x (r.map fun (n,k)=>if (k == NameKind.free && env.scope.kind == .function && env.kindOf n == some .cell) then (n,NameKind.cell) else (n,k)) = some k':=by
    by_cases hq:(k == NameKind.free && env.scope.kind == .function && env.kindOf n == some .cell) = true
    ·rw [if_pos hq] at h
     simpa only [List.lookup_cons,hx] using h
    ·rw [if_neg hq] at h
     simpa only [List.lookup_cons,hx] using h
   simp only [List.lookup_cons,hx]
   exact ih h'
def Cx.block (X:Cx) (scope:Scope) (N:List Str) (fp:List Addr) (s₀:Shared) (H₀:Hp) (C:Addr):Cx where
 prog:=X.prog
 w:=X.w
 K:=X.K
 mg:=X.mg
 base:=X.base
 A:=X.A
 N:=N
 s₀:=s₀
 H₀:=H₀
 env:=compEnvC scope (jcq X.env scope.names []) C X.env
 outer:=X.stack
 stack:=X.stack
 ex:=fp
 calm:=X.calm
 fn:=fun _=>false
 pn:=[]
 xe:=fun _ _=>False
theorem jpd {o:Option (Option V)} {v:V} (h:o.join = some v):o = some (some v):=by
 cases o with
 | none=>cases h
 | some z=>cases z with
  | none=>cases h
  | some z=>rw [show z = v from Option.some.inj h]
theorem Inv.enter {X:Cx} {scope:Scope} {N:List Str} {src:List (Option Nat)} {pins:List (Addr × Obj)} {σ:St} {H:Hp} {s s4:Shared} {fp:List Addr} (S:CpScope X scope N src) (I:Inv X pins σ H s)
  (f2:∀ b ∈ fp,FpOk X pins H b) (lt:∀ b ∈ fp,b < s.heap.objs.size) (hns:s4.heap.Ns s.heap.objs.size fun _=>none) (hk:∀ b o,s.heap.get? b = some o→s4.heap.get? b = some o) (hos:s4.os = s.os) (hg:s4.gens = s.gens) :
  Inv (X.block scope N fp s H s.heap.objs.size) [] (cst src σ) H s4:=by
 have cells:∀ x c,(jcq X.env scope.names []).lookup x = some c→X.env.cells.lookup x = some c:=fun x c e=>by
  rcases jen _ _ _ e with ⟨⟨y,hy,e1,e2⟩,q⟩ | q
  ·obtain ⟨c',hc'⟩:=I.ok.has y.1 (.inl (S.frees y hy e2).2)
   rw [e1] at hc'
   rw [hc'] at q ⊢
   exact congrArg some q
  ·cases q
 refine ⟨⟨I.mod,S.kind,I.ok.glob,I.ok.blt,Nat.le_refl _,fun x y c h1 h2=>I.ok.inj x y c (cells x c h1) (cells y c h2),fun x hx=>?_,fun x c h=>absurd (show false = true from h) Bool.false_ne_true,I.ok.hd,I.ok.frames,.inl rfl,fun b hb=>?_,I.bs,
   Nat.le_trans I.ok.bsz I.sz,fun b o e hb=>?_,fun b hb z=>?_,I.stack,I.stkFree⟩,hos,?_,Un.kept hk,⟨fun _=>none,hns,fun i x v h1 h2 h3=>?_⟩,fun x c e=>?_,I.fresh,fun x c e=>I.freeC x c (cells x c e),fun p hp=>?_,I.hok.kept hk,?_⟩
 ·have hx':(scope.names.map fun (n,k)=>if (k == NameKind.free && X.env.scope.kind == .function && X.env.kindOf n == some .cell) then (n,NameKind.cell) else (n,k)).lookup x = some .cell ∨ (scope.names.map fun (n,k)=>if (k == NameKind.free && X.env.scope.kind == .function && X.env.kindOf n == some .cell) then (n,NameKind.cell) else (n,k)).lookup x = some .free:=hx
  have hf:scope.names.lookup x = some .free:=by
   rcases hx' with h | h
   ·rcases jcp h with h | h
    ·exact absurd rfl (S.nocell _ (PySem.mem_of_lookup h))
    ·exact h.1
   ·rcases jcp h with h | h
    ·exact h
    ·cases h.2
  have hsome:=jf5 (env:=X.env) (x:=x) scope.names [] (.inl ⟨_,PySem.mem_of_lookup hf,rfl,rfl⟩)
  exact Option.isSome_iff_exists.mp hsome
 ·exact ⟨Nat.ne_of_lt (lt b hb),fun x c e=>(f2 b hb).2.2.2.2.1 x c (cells x c e)⟩
 ·have hb':b ∈ fp:=hb
  rcases (f2 b hb').2.2.2.1 with z | z
  ·exact I.ok.noex b o e z
  ·exact absurd (Nat.lt_of_lt_of_le (Heap.lt_size e) (Nat.le_trans I.ok.bsz z)) (Nat.lt_irrefl _)
 ·have hb':b ∈ fp:=hb
  have z':b ∈ frs X.stack:=z
  rcases List.mem_cons.mp (I.stkSub b z') with e | e
  ·exact (f2 b hb').2.1 e
  ·exact (f2 b hb').2.2.1 e
 ·rw [hg]; exact I.bare
 ·have h2':(src.map fun o=>o.bind fun j=>(σ[j]?).join)[i]? = some (some v):=h2
  rw [List.getElem?_map] at h2'
  cases e:src[i]? with
  | none=>rw [e] at h2'; cases h2'
  | some o =>
   rw [e] at h2'
   cases o with
   | none=>cases h2'
   | some j =>
    have h4:(σ[j]?).join = some v:=Option.some.inj h2'
    have h5:=jpd h4
    obtain ⟨c1,c2⟩:=S.cap i j e
    have h1':N[i]? = some x:=h1
    rw [h1'] at c1 c2
    have c2':scope.names.lookup x = some .free:=c2
    have c3:=(S.frees _ (PySem.mem_of_lookup c2') rfl).2
    obtain ⟨m,hn,hl⟩:=I.loc
    obtain ⟨u,r,l⟩:=hl j x v c1 h5 (.inr (.inl c3))
    refine ⟨u,r,?_⟩
    have c3':X.env.kindOf x = some .cell:=c3
    rcases l with ⟨k,_⟩ | ⟨_,c,e1,z⟩
    ·rw [c3'] at k; cases k
    ·refine .inr ⟨.inl (jd9 I.ok.kind c2' c3'),c,?_,?_⟩
     ·have hs:=jf5 (env:=X.env) (x:=x) scope.names [] (.inl ⟨_,PySem.mem_of_lookup c2',rfl,rfl⟩)
      obtain ⟨c',hc'⟩:=Option.isSome_iff_exists.mp hs
      have:=cells x c' hc'
      rw [e1] at this
      cases this
      exact hc'
     ·obtain ⟨o,ho,hd⟩:=z
      exact ⟨o,hk c o ho,hd⟩
 ·obtain ⟨v,o,ho,hd⟩:=I.cell x c (cells x c e)
  exact ⟨v,o,hk c o ho,hd⟩
 ·exact absurd (show p ∈ ([]:List (Addr × Obj)) from hp) (by simp)
 ·show (src.map _).length = N.length
  rw [List.length_map]
  exact S.len
def PIf (X:Cx) (ifs:List Expr) (t:TT):Prop :=
 ∀ (pins:List (Addr × Obj)) (s:Shared) (σ:St) (H:Hp) (Q:Bool→Hp→Prop),Inv X pins σ H s→t σ H Q →
  wpAny (model X.prog X.w) X.A (forIn ifs true fun c r=>if r = true then do let ok ← isTrue c X.env (eval c X.env); pure (ForInStep.yield ok) else pure (ForInStep.yield r)) (TP X pins σ Q) X.xe s
def jat:TT:=fun _ H Q=>Q true H
theorem jci {X:Cx}:PIf X [] jat:=fun pins s σ H Q I h=>wpAny_tests_nil ⟨H,I,h⟩
theorem jez {X:Cx} {c:Expr} {t:TT} (h:PT X c t):PIf X [c] t:=fun pins s σ H Q I hq=>wpAny_tests_one (h pins s σ H Q I hq)
def jqd (J:It) (src:List (Option Nat)) (g:TG) (tc:TT) (te:TE) (Q:VK) (σ:St) (H:Hp) (l:Addr):Prop :=
 ∃ W:Nat→Nat→St→Hp→Prop,(∃ m,W 0 m (cst src σ) (upd H l (.lst [])))∧∀ i m σ' H,W i m σ' H →
  (J.stop i H∧Q (.ref l) H) ∨ (J.go i H∧∃ N:St→Hp→Prop,(∀ σ' H',N σ' H'→∃ m',m' < m∧W (i + 1) m' σ' H')∧∀ x H',J.yld i H x H'→g x σ' H' fun σ2 H2=>tc σ2 H2 fun b H3 =>
   if b = true then te σ2 H3 fun v H4=>∃ xs,H4 l = some (.lst xs)∧xs.length < sizeLine∧N σ2 (upd H4 l (.lst (xs ++ [v]))) else N σ2 H3)
theorem jbu {J:It} {src:List (Option Nat)} {g:TG} {tc:TT} {te:TE} {Q:VK} {σ:St} {H:Hp} {l:Addr} (n:Nat) (Iv:Nat→St→Hp→Prop) (h0:Iv 0 (cst src σ) (upd H l (.lst [])))
  (hs:∀ i σ' Hc,i < n→Iv i σ' Hc→J.go i Hc∧∀ x H',J.yld i Hc x H'→g x σ' H' fun σ2 H2=>tc σ2 H2 fun b H3 =>
   if b = true then te σ2 H3 fun v H4=>∃ xs,H4 l = some (.lst xs)∧xs.length < sizeLine∧Iv (i + 1) σ2 (upd H4 l (.lst (xs ++ [v]))) else Iv (i + 1) σ2 H3)
  (hd:∀ σ' Hc,Iv n σ' Hc→J.stop n Hc∧Q (.ref l) Hc):jqd J src g tc te Q σ H l:=by
 refine ⟨fun i m σ' Hc=>m = n - i∧i ≤ n∧Iv i σ' Hc,⟨n,by simp,Nat.zero_le _,h0⟩,?_⟩
 rintro i m σ' Hc ⟨rfl,hi,p⟩
 by_cases hlt:i < n
 ·obtain ⟨go,step⟩:=hs i σ' Hc hlt p
  exact .inr ⟨go,Iv (i + 1),fun σ2 H2 p'=>⟨n - (i + 1),by omega,rfl,hlt,p'⟩,step⟩
 ·have e:i = n:=by omega
  subst e
  exact .inl (hd σ' Hc p)
theorem jkb {X:Cx} {elt tg iter:Expr} {ifs:List Expr} {scope:Scope} {pos:Pos} {N:List Str} {src:List (Option Nat)} {g:TG} {tc:TT} {te:TE} {pins:List (Addr × Obj)} {σ:St} {H2:Hp} {s2:Shared}
  {fp:List Addr} {it:Addr} {tn:Nat→Heap→Prop} {J:It} {Q:VK} {E:Value→Shared→Prop} {RR:Value→Addr→Result→Shared→Prop} (S:CpScope X scope N src) (hc:X.calm = true)
  (hg:∀ fp s₀ H₀ C,PG (X.block scope N fp s₀ H₀ C) tg g) (ht:∀ fp s₀ H₀ C,PIf (X.block scope N fp s₀ H₀ C) ifs tc) (he:∀ fp s₀ H₀ C,PE (X.block scope N fp s₀ H₀ C) elt te)
  (I2:Inv X pins σ H2 s2) (T:Turn X.prog X.w X.K tg J fp it tn) (st2:tn 0 s2.heap) (f2:∀ b ∈ fp,FpOk X pins H2 b) (hw:∀ l,H2 l = none→jqd J src g tc te Q σ H2 l)
  (hRR:∀ l C H' s',Inv X pins σ H' s'→(∃ m,s'.heap.Ns C m)→FpOk X pins H' C→Q (.ref l) H'→RR (.ref l) C (.ok .next) s') :
  wpAny (model X.prog X.w) X.A (newList []) (fun acc s₃=>wpAny (model X.prog X.w) X.A (newFunctionEnv scope X.env.globals (jcq X.env scope.names []) [] X.env.qual none .none (some X.env)) (fun cenv s₄ =>
   codeAny (model X.prog X.w) X.A (.compStart (.ListComp elt [⟨tg,iter,ifs,0⟩] scope pos) 0 (.ref it) acc { cenv with scope:=relabel scope X.env }) (RR acc cenv.locals) s₄) E s₃) E s2:=by
 have hl0:H2 s2.heap.objs.size = none:=I2.fresh
 have I3:Inv X pins σ (upd H2 s2.heap.objs.size (.lst [])) { s2 with heap:=s2.heap.push { cls:=.type "list",data:=.seq ([]:List Value).toArray } }:=I2.lnew (ys:=[]) (its:=[]) (t':=s2.toks) .nil (Nat.zero_le _)
 have ltf:∀ b ∈ fp,b < s2.heap.objs.size:=fun b hb=>by
  obtain ⟨o,e,_⟩:=T.obj _ _ st2 b hb
  exact Heap.lt_size e
 have f3:∀ b ∈ fp,FpOk X pins (upd H2 s2.heap.objs.size (.lst [])) b:=fun b hb=>⟨by rw [jas (Nat.ne_of_lt (ltf b hb))]; exact (f2 b hb).1,(f2 b hb).2⟩
 obtain ⟨W,⟨m0,w0⟩,turn⟩:=hw _ hl0
 refine wpAny_newObj_type (wpAny_newFunctionEnv S.nocell (by intro y hy; simp at hy) (fun h₁ hns₁ hsb₁=>?_) S.kind)
 dsimp only at hns₁ hsb₁ ⊢
 revert I3 f3
 intro I3 f3
 have st1:tn 0 (s2.heap.push { cls:=.type "list",data:=.seq ([]:List Value).toArray }):=T.keep _ _ _ st2 fun b hb o e=>Heap.get?_push_of_some _ e
 have lt3:∀ b ∈ fp,b < (s2.heap.push { cls:=.type "list",data:=.seq ([]:List Value).toArray }).objs.size:=fun b hb=>by rw [Heap.size_push]; exact Nat.lt_succ_of_lt (ltf b hb)
 generalize hH:s2.heap.push { cls:=.type "list",data:=.seq ([]:List Value).toArray } = h3 at I3 st1 lt3 hns₁ hsb₁ ⊢
 have hk:∀ b o,h3.get? b = some o→h₁.get? b = some o:=fun b o e=>hsb₁.extBut b o (Nat.ne_of_lt (Heap.lt_size e)) (Heap.get?_push_of_some _ e)
 have Ib:Inv (X.block scope N fp { s2 with heap:=h3 } (upd H2 s2.heap.objs.size (.lst [])) h3.objs.size) [] (cst src σ) (upd H2 s2.heap.objs.size (.lst [])) { s2 with heap:=h₁,toks:=s2.toks + ([]:List (Str × Value)).length } :=
  Inv.enter (s:={ s2 with heap:=h3 }) S I3 f3 lt3 hns₁ hk rfl rfl
 have fpB:∀ {H':Hp},(∀ b ∈ fp,H' b = none)→∀ b ∈ fp,FpOk (X.block scope N fp { s2 with heap:=h3 } (upd H2 s2.heap.objs.size (.lst [])) h3.objs.size) [] H' b:=fun hn b hb =>
  ⟨hn b hb,(Ib.ok.exf b hb).1,Ib.ok.exfs b hb,.inl hb,(Ib.ok.exf b hb).2,fun p hp=>absurd (show p ∈ ([]:List (Addr × Obj)) from hp) (by simp)⟩
 have tn1:tn 0 h₁:=T.keep _ _ _ st1 fun b _ o e=>hk b o e
 have loop:∀ s₃:Shared,s₃ = { s2 with heap:=h₁,toks:=s2.toks + ([]:List (Str × Value)).length } →
   codeAny (model X.prog X.w) X.A (.compLoop (.ListComp elt [⟨tg,iter,ifs,0⟩] scope pos) 0 (.ref it) (.ref s2.heap.objs.size) (compEnvC scope (jcq X.env scope.names []) h3.objs.size X.env))
    (RR (.ref s2.heap.objs.size) h3.objs.size) s₃:=by
  rintro s₃ rfl
  refine codeAny_loop rfl (fun n s'=>∃ i σ' H',Inv (X.block scope N fp { s2 with heap:=h3 } (upd H2 s2.heap.objs.size (.lst [])) h3.objs.size) [] σ' H' s'∧tn i s'.heap∧(∀ b ∈ fp,H' b = none)∧W i n σ' H') ?_ m0
   ⟨0,_,_,Ib,tn1,fun b hb=>(f3 b hb).1,w0⟩
  rintro n s5 ⟨i,σ5,H5,I5,st5,fr5,w5⟩
  show wpAny _ X.A ((compTurn (.ListComp elt [⟨tg,iter,ifs,0⟩] scope pos) 0 (.ref it) (.ref s2.heap.objs.size) (compEnvC scope (jcq X.env scope.names []) h3.objs.size X.env)).onRaise (fun x=>do noteFrame x (compEnvC scope (jcq X.env scope.names []) h3.objs.size X.env); theTreesLotGoes x)) _ _ s5
  refine wpAny_noted ?_
  rw [compTurn_list]
  refine wpAny_bind (wpAny_standAt (wpAny_bind ?_))
  rcases turn i n σ5 H5 w5 with ⟨stop,qn⟩ | ⟨go,N',hN',step⟩
  ·refine thn (T.done (X.block scope N fp { s2 with heap:=h3 } (upd H2 s2.heap.objs.size (.lst [])) h3.objs.size) rfl rfl rfl hc i [] s5 σ5 H5 _ I5 (fpB fr5) st5 stop) fun r s6 ⟨hr,I6⟩=>?_
   subst hr
   refine wpAny_pure ?_
   have u6:Un (frs X.stack) fp (upd H2 s2.heap.objs.size (.lst [])) H5 h3 s6.heap:=I6.base
   have hf6:H5 h3.objs.size = none:=I6.free
   have I7:Inv X pins σ H5 s6:=I3.call' (ch:=fp) I6.os u6 I6.hok I6.bare fun b hb=>⟨(f3 b hb).2.2.2.1,(f3 b hb).2.1,(f3 b hb).2.2.2.2.1,(f3 b hb).2.2.2.2.2⟩
   obtain ⟨m,hm,_⟩:=I6.loc
   exact hRR _ _ H5 s6 I7 ⟨m,hm⟩ (I3.fpOk (Nat.le_refl _) hf6) qn
  ·refine thn (T.item (X.block scope N fp { s2 with heap:=h3 } (upd H2 s2.heap.objs.size (.lst [])) h3.objs.size) rfl rfl rfl hc i [] s5 σ5 H5 _ I5 (fpB fr5) st5 go) fun r s6 ⟨u,hr,h6⟩=>?_
   subst hr
   refine wpAny_bind (thn h6 fun _ s7 ⟨x,H7,I7,r7,y7,st7,fr7⟩=>?_)
   have I7':=I7.pinned (fpB fr7) (T.obj _ _ st7)
   have fin:∀ {σ9:St} {H9:Hp} {s9:Shared},Inv (X.block scope N fp { s2 with heap:=h3 } (upd H2 s2.heap.objs.size (.lst [])) h3.objs.size) ([] ++ jjm fp s7.heap) σ9 H9 s9→N' σ9 H9 →
     ∃ m,m < n∧∃ i σ' H',Inv (X.block scope N fp { s2 with heap:=h3 } (upd H2 s2.heap.objs.size (.lst [])) h3.objs.size) [] σ' H' s9∧tn i s9.heap∧(∀ b ∈ fp,H' b = none)∧W i m σ' H':=fun {σ9 H9 s9} I9 n9=>by
    obtain ⟨m',hm,w9⟩:=hN' σ9 H9 n9
    refine ⟨m',hm,i + 1,σ9,H9,I9.unpinned,T.keep _ _ _ st7 fun b hb o e=>(I9.pin (b,o) (List.mem_append_right _ (List.mem_append_right _ (jdw hb e)))).1,fun b hb=>?_,w9⟩
    obtain ⟨o,e,d⟩:=T.obj _ _ st7 b hb
    exact (I9.pin (b,o) (List.mem_append_right _ (List.mem_append_right _ (jdw hb e)))).2.1
   refine wpAny_bind (wpAny_mono (hg fp _ _ _ _ s7 σ5 H7 x u _ I7' r7 (step x H7 y7)) (fun _ s8 ⟨σ8,H8,I8,q8⟩=>?_) fun _ _ z=>False.elim z)
   refine wpAny_bind (wpAny_mono (ht fp _ _ _ _ s8 σ8 H8 _ I8 q8) (fun ok s9 ⟨H9,I9,q9⟩=>?_) fun _ _ z=>False.elim z)
   cases ok with
   | false=>exact wpAny_pure ⟨rfl,fin I9 q9⟩
   | true =>
    refine wpAny_bind (wpAny_bind (wpAny_mono (he fp _ _ _ _ s9 σ8 H9 _ I9 q9) (fun v s10 ⟨y,H10,I10,r10,xs,hx,hz,q10⟩=>?_) fun _ _ z=>False.elim z))
    refine wpAny_bind (wpAny_mono (jjw (X:=X.block scope N fp { s2 with heap:=h3 } (upd H2 s2.heap.objs.size (.lst [])) h3.objs.size) _ s10 σ8 H10 (.ref s2.heap.objs.size) [y] _ [v] (fun _ H11=>N' σ8 H11) I10 rfl (.cons r10 .nil) ⟨_,xs,y,rfl,rfl,hx,hz,q10⟩)
     (fun _ s11 ⟨_,H11,I11,_,q11⟩=>wpAny_pure (wpAny_pure ⟨rfl,fin I11 q11⟩)) fun _ _ z=>False.elim z)
 exact codeAny_compStart_list (loop _ rfl) (T.self _ 0 _ _ _ tn1 (loop _ rfl))
def jqj (src:List (Option Nat)) (wi:TI) (g:TG) (tc:TT) (te:TE):TE:=fun σ H Q=>wi σ H fun J H1=>∀ l,H1 l = none→jqd J src g tc te Q σ H1 l
theorem jc6 {X:Cx} {elt tg iter:Expr} {ifs:List Expr} {scope:Scope} {pos:Pos} {N:List Str} {src:List (Option Nat)} {wi:TI} {g:TG} {tc:TT} {te:TE} (S:CpScope X scope N src) (hc:X.calm = true)
  (hi:PI X tg iter wi) (hg:∀ fp s₀ H₀ C,PG (X.block scope N fp s₀ H₀ C) tg g) (ht:∀ fp s₀ H₀ C,PIf (X.block scope N fp s₀ H₀ C) ifs tc) (he:∀ fp s₀ H₀ C,PE (X.block scope N fp s₀ H₀ C) elt te)
  (hs:∀ x,foldedSetIterable iter X.env x = pure x:=by intro _; rfl):PE X (.ListComp elt [⟨tg,iter,ifs,0⟩] scope pos) (jqj src wi g tc te):=by
 intro pins s σ H Q I h
 rw [eval_ListComp]
 refine wpAny_comprehension_free (use:=none) rfl hs (jdf fun y hy e=>I.ok.has y.1 (.inl (S.frees y hy e).2)) S.kind S.locs ?_
 refine thn (hi pins s σ H _ I h) fun v s1 h1=>thn h1 fun itv s2 h2=>?_
 obtain ⟨it,fp,tn,J,H2,e,I2,T,st2,f2,hw⟩:=h2
 subst e
 refine jkb (RR:=fun acc C=>compPost (model X.prog X.w) X.A X.xe none (EP X pins σ Q) acc C) S hc hg ht he I2 T st2 f2 hw ?_
 intro l C H' s' I' hm fC q
 obtain ⟨m,hm⟩:=hm
 refine ⟨m,hm,fun h' hs'=>?_⟩
 exact ⟨.ref l,H',I'.turned (t':=s'.toks) (fun b o hb e=>hs'.extBut b o hb e) fC.1 fC.2.1 fC.2.2.2.1 fC.2.2.2.2.1 fC.2.2.2.2.2,rfl,q⟩
theorem jku {X:Cx} {i:Nat} {x:Str} {pos' spos:Pos} {elt tg iter:Expr} {ifs:List Expr} {scope:Scope} {pos:Pos} {N:List Str} {src:List (Option Nat)} {wi:TI} {g:TG} {tc:TT} {te:TE} (hN:X.N.Nodup) (hix:X.N[i]? = some x) (hx:Loc X.env.scope x)
  (S:CpScope X scope N src) (hc:X.calm = true)
  (hi:PI X tg iter wi) (hg:∀ fp s₀ H₀ C,PG (X.block scope N fp s₀ H₀ C) tg g) (ht:∀ fp s₀ H₀ C,PIf (X.block scope N fp s₀ H₀ C) ifs tc) (he:∀ fp s₀ H₀ C,PE (X.block scope N fp s₀ H₀ C) elt te)
  (hsw:swapsWith (.ListComp elt [⟨tg,iter,ifs,0⟩] scope pos) (some (.Name x pos')) spos.line X.env = pure true:=by rfl)
  (hs:∀ x,foldedSetIterable iter X.env x = pure x:=by intro _; rfl) (hf:X.fn x = true ∨ X.env.scope.names.lookup x = some .local:=by first | exact .inl rfl | exact .inr rfl | assumption) :
  PS X (.Assign [.Name x pos'] (.ListComp elt [⟨tg,iter,ifs,0⟩] scope pos) spos) (tAsg (jqj src wi g tc te) (jak i)):=by
 intro pins s σ H D I h
 rw [exec_Assign_Name_used _ _ _ _ hsw]
 refine wpAny_bind (wpAny_standAt (wpAny_bind ?_))
 show wpAny _ X.A (do let _ ← comprehension (.ListComp elt [⟨tg,iter,ifs,0⟩] scope pos) scope X.env _ (newList []) false (eval iter X.env) (some (assign (.Name x pos') X.env))) _ _ s
 refine wpAny_bind (wpAny_mono (wpAny_comprehension_free (use:=some (assign (.Name x pos') X.env)) (Q:=fun _ s'=>SP X pins D .next s') rfl hs (jdf fun y hy e=>I.ok.has y.1 (.inl (S.frees y hy e).2)) S.kind S.locs
  (thn (hi pins s σ H _ I h) fun v s1 h1=>thn h1 fun itv s2 h2=>?_)) (fun _ s' hq=>wpAny_pure (wpAny_pure hq)) fun _ _ e=>e)
 obtain ⟨it,fp,tn,J,H2,e,I2,T,st2,f2,hw⟩:=h2
 subst e
 refine jkb (Q:=fun v H'=>D.nx (σ.set i (some v)) H') (RR:=fun acc C=>compPost (model X.prog X.w) X.A X.xe (some (assign (.Name x pos') X.env)) (fun _ s'=>SP X pins D .next s') acc C) S hc hg ht he I2 T st2 f2 hw ?_
 intro l C H' s' I' hm fC q
 obtain ⟨m,hm⟩:=hm
 show wpAny _ X.A (assign (.Name x pos') X.env (.ref l)) _ _ _
 refine wpAny_assign_Name (jjf I' hN hix hx (v:=.ref l) rfl (fun s'' I'' ⟨a,sb,ha⟩=>?_) hf)
 have hCa:C ≠ a:=by
  rcases ha with rfl | ha
  ·exact fC.2.1
  ·exact fun z=>fC.2.2.2.2.1 x a ha z.symm
 refine ⟨m,hm.sameBut sb hCa,fun h' hs'=>?_⟩
 exact ⟨_,H',I''.turned (t':=s''.toks) (fun b o hb e=>hs'.extBut b o hb e) fC.1 fC.2.1 fC.2.2.2.1 fC.2.2.2.2.1 fC.2.2.2.2.2,q⟩
end L2
namespace L2
open PySem PySem.Spec PyProof.Rows
theorem Inv.turnedNew {X:Cx} {pins:List (Addr × Obj)} {σ:St} {H:Hp} {s:Shared} {h':Heap} {ch:List Addr} {t:Addr} {o:HO} {t':Nat} (I:Inv X pins σ H s) (hsz:s.heap.objs.size ≤ t)
  (k:∀ b ob,b ∉ ch→s.heap.get? b = some ob→h'.get? b = some ob) (hch:∀ b ∈ ch,FpOk X pins H b) (new:jcg X.prog X.w (upd H t o) h' t o) :
  Inv X pins σ (upd H t o) { s with heap:=h',toks:=t' }:=by
 have hn:H t = none:=I.hok.fresh hsz
 have nt:∀ {b ob},s.heap.get? b = some ob→b ≠ t:=fun q=>Nat.ne_of_lt (Nat.lt_of_lt_of_le (Heap.lt_size q) hsz)
 have u:Un (frs X.stack) ch H (upd H t o) s.heap h' :=
  ⟨fun b ob q _ _ hx=>k b ob hx q,fun b ob q _ _ hx=>⟨ob.slots,k b ob hx q⟩,fun b ob q n _=>by rw [jas (nt q)]; exact n,fun b ob q hx=>⟨ob,k b ob hx q⟩,
   fun b xs q=>by rw [jas (ja5 q hn)]; exact q,fun b ob xs q=>by rw [jas (ja5 q hn)]; exact q,fun b ps q=>⟨#[],by rw [jas (ja5 q hn),q]; simp⟩⟩
 refine I.call (g':=s.gens) (t':=t') (d':=s.drawn) u (fun b ob e=>?_) I.bare fun b hb=>⟨(hch b hb).2.2.2.1,(hch b hb).2.1,(hch b hb).2.2.2.2.1,(hch b hb).2.2.2.2.2⟩
 by_cases hb:b = t
 ·subst hb; rw [ja1] at e; cases e; exact new
 ·rw [jas hb] at e
  have ntr:∀ {c u},H c = some u→c ∉ ch:=fun q z=>by rw [(hch _ z).1] at q; cases q
  refine (I.hok b ob e).stay (fun c v hc q=>k c v ?_ q) (fun c q=>by rw [jas (ja5 q hn)]; exact q) fun c xs q=>by rw [jas (ja5 q hn)]; exact q
  rcases hc with z | z
  ·rw [z]; exact ntr e
  ·exact ntr z
theorem Inv.turnedAll {X:Cx} {pins:List (Addr × Obj)} {σ:St} {H:Hp} {s:Shared} {h':Heap} {ch:List Addr} {t':Nat} (I:Inv X pins σ H s)
  (k:∀ b ob,b ∉ ch→s.heap.get? b = some ob→h'.get? b = some ob) (hch:∀ b ∈ ch,FpOk X pins H b):Inv X pins σ H { s with heap:=h',toks:=t' }:=by
 have u:Un (frs X.stack) ch H H s.heap h' :=
  ⟨fun b ob q _ _ hx=>k b ob hx q,fun b ob q _ _ hx=>⟨ob.slots,k b ob hx q⟩,fun b ob q n _=>n,fun b ob q hx=>⟨ob,k b ob hx q⟩,fun b xs q=>q,fun b ob xs q=>q,fun b ps q=>⟨#[],by rw [q]; simp⟩⟩
 refine I.call (g':=s.gens) (t':=t') (d':=s.drawn) u (fun b ob e=>?_) I.bare fun b hb=>⟨(hch b hb).2.2.2.1,(hch b hb).2.1,(hch b hb).2.2.2.2.1,(hch b hb).2.2.2.2.2⟩
 have ntr:∀ {c u},H c = some u→c ∉ ch:=fun q z=>by rw [(hch _ z).1] at q; cases q
 refine (I.hok b ob e).stay (fun c v hc q=>k c v ?_ q) (fun c q=>q) fun c xs q=>q
 rcases hc with z | z
 ·rw [z]; exact ntr e
 ·exact ntr z
def Ite (K:PySem.W.Frag) (a:Addr):It :=
 ⟨fun i H=>∃ xs x,SqL K H a xs∧xs[i]? = some x,fun i H x H'=>∃ t y,H t = none∧x = .ref t∧H' = upd H t (.tup [.int i,y])∧∀ xs,SqL K H a xs→xs[i]? = some y,fun i H=>∃ xs,SqL K H a xs∧xs.length ≤ i⟩
theorem jnx {P:Program} {w:World} {K:PySem.W.Frag} {elts:List Expr} {x1:Nat} {pos:Pos} (a e it:Addr) (hne:e ≠ it) :
  Turn P w K (.Tuple elts x1 pos) (Ite K a) [e,it] e (fun i h=>(∃ old,IsEnum h e it i old)∧h.IsListIter it a i) where
 mem:=by simp
 obj:=fun i h st b hb=>by
  obtain ⟨⟨old,he⟩,hit⟩:=st
  have q:b = e ∨ b = it:=by simpa using hb
  rcases q with rfl | rfl
  ·exact ⟨_,he,fun v z=>by
    have z':Data.fields _ = Data.cell v:=z
    cases z'⟩
  ·obtain ⟨o,e1,c,d⟩:=hit
   exact ⟨o,e1,fun v z=>by rw [d] at z; cases z⟩
 keep:=fun i h h' st k=>by
  obtain ⟨⟨old,he⟩,hit⟩:=st
  exact ⟨⟨old,k e (by simp) _ he⟩,hit.at fun o z=>k it (by simp) o z⟩
 item:=by
  intro X hP hw hK hc i pins s σ H E I hf st hg
  subst hP hw hK
  obtain ⟨⟨old,he⟩,hit⟩:=st
  obtain ⟨xs,x,hq,hx⟩:=hg
  obtain ⟨its,rv,p,hz⟩:=I.list hq
  obtain ⟨u,hu,ru⟩:=rv.get hx
  have elt:e < s.heap.objs.size:=Heap.lt_size he
  have ilt:it < s.heap.objs.size:=by obtain ⟨_,z,_⟩:=hit; exact Heap.lt_size z
  refine wpAny_pyNext_enum_item he hit p.isList (x:=u) (by simpa using hu) hne fun h1 ho hit1 hT hsz1 hk1=>?_
  refine ⟨_,rfl,wpAny_letOwnedTupleGo_enum ho fun h2 he2 hs2=>?_⟩
  replace hs2:Heap.SameBut e h1 h2:=hs2
  have kk:∀ b ob,b ∉ [e,it]→s.heap.get? b = some ob→h2.get? b = some ob:=fun b ob hb q=>by
   have hb':b ≠ e∧b ≠ it:=by simpa using hb
   exact hs2.extBut b ob hb'.1 (hk1 b ob hb'.1 hb'.2 q)
  have hT2:h2.get? s.heap.objs.size = some { cls:=.type "tuple",data:=.seq #[.int i s.toks,u] }:=(hs2.2 _ (Nat.ne_of_gt elt)).trans hT
  refine ⟨.ref s.heap.objs.size,upd H s.heap.objs.size (.tup [.int i,x]),I.turnedNew (ch:=[e,it]) (Nat.le_refl _) kk hf ?_,rfl,⟨_,x,I.fresh,rfl,rfl,fun ys hy=>by rw [I.list_inj hy hq]; exact hx⟩,⟨⟨u,by simpa using he2⟩,hit1.at fun o z=>(hs2.2 it hne.symm).trans z⟩,fun b hb=>?_⟩
  ·exact ⟨by show 2 ≤ sizeLine; decide,[.int i s.toks,u],.cons ⟨_,rfl⟩ (.cons ru .nil),⟨_,hT2,rfl,_,rfl⟩⟩
  ·have hb':b = e ∨ b = it:=by simpa using hb
   have:b ≠ s.heap.objs.size:=by
    rcases hb' with rfl | rfl
    ·exact Nat.ne_of_lt elt
    ·exact Nat.ne_of_lt ilt
   rw [jas this]
   exact (hf b hb).1
 done:=by
  intro X hP hw hK hc i pins s σ H E I hf st hg
  subst hP hw hK
  obtain ⟨⟨old,he⟩,hit⟩:=st
  obtain ⟨xs,hq,hx⟩:=hg
  obtain ⟨its,rv,p,hz⟩:=I.list hq
  have hl:=rv.length
  refine wpAny_pyNext_enum_end (I.ok.hd hc) he hit p.isList (by simp; omega) fun h' eb=>⟨rfl,I.turnedAll (ch:=[e,it]) (t':=s.toks) (fun b o hb q=>eb b o (fun z=>hb (by simp [z])) q) hf⟩
 self:=fun _ _ _ _ _ st h=>by
  obtain ⟨⟨old,he⟩,_⟩:=st
  exact wpAny_pyIter_enum he h
def ju0 (K:PySem.W.Frag) (ta:TA):TI:=fun σ H R=>ta σ H fun vs H1=>∃ a,vs = [.ref a]∧(∃ xs,SqL K H1 a xs)∧R (Ite K a) H1
theorem ji7 {X:Cx} {elts:List Expr} {x1:Nat} {tpos:Pos} {a:Expr} {ta:TA} {p pos:Pos} (hg:Gl X "enumerate") (hm:X.mg "enumerate" = none) (ha:PA X [a] ta) (hs:starEach [a] X.env = [(false,eval a X.env)]:=by rfl) :
  PI X (.Tuple elts x1 tpos) (.Call (.Name "enumerate" p) [a] [] pos) (ju0 X.K ta):=by
 intro pins s σ H R I h
 refine Call_ (jhd I hg hm boot_enumerate (PyProof.Rows.callWith_type1 (thn (ha pos pins s σ H _ I h) fun us s1 ⟨vs,H1,I1,r1,q1⟩=>?_) hs rfl))
 obtain ⟨a,e,⟨xs,hq⟩,q⟩:=q1
 subst e
 cases r1 with
 | cons r rr =>
  cases rr
  cases r
  obtain ⟨its,rv,pl,hz⟩:=I1.list hq
  refine call_enumerate_list pl.isList fun h' he hit hsz hk=>?_
  refine wpAny_pyIter_enum he ?_
  have I2:Inv X pins σ H1 { s1 with heap:=h' }:=I1.kept (t':=s1.toks) fun b o q=>hk b o q
  refine ⟨_,[s1.heap.objs.size + 1,s1.heap.objs.size],_,_,H1,rfl,I2,jnx a _ _ (Nat.succ_ne_self _),⟨⟨_,he⟩,hit⟩,fun b hb=>?_,q⟩
  have hb':b = s1.heap.objs.size + 1 ∨ b = s1.heap.objs.size:=by simpa using hb
  rcases hb' with rfl | rfl
  ·exact I1.fpOk (Nat.le_succ _) (I1.hok.fresh (Nat.le_succ _))
  ·exact I1.fpOk (Nat.le_refl _) (I1.hok.fresh (Nat.le_refl _))
end L2
namespace L2
open PySem PySem.Spec PyProof.Rows
section
variable {prog:Program} {w:World} {A:Around} {E:Value→Shared→Prop} {s:Shared}
theorem jn7 {j t:Addr} {k:Nat} {ar:Array Value} {x:Value} {Q:Value→Shared→Prop} (hj:s.heap.IsTupleIter j t k) (ht:s.heap.IsTuple t ar) (hx:ar[k]? = some x)
  (hQ:∀ h',h'.IsTupleIter j t (k + 1)→Heap.SameBut j s.heap h'→Q x { s with heap:=h' }):wpAny (model prog w) A (Builtin.SmallTypes.nextOf (.ref j)) Q E s:=by
 obtain ⟨ob,e0,hcl,hdt⟩:=id hj
 obtain ⟨ot,e1,_,nt,hdl⟩:=ht
 unfold Builtin.SmallTypes.nextOf
 refine wpAny_bind (wpAny_callSpecial?_slot (name:=Str.ofString "__next__") hj.typeIs F.slot_tuple_iterator_next (wpAny_call_entry F.slot_tuple_iterator_next hj.typeIs F.entry_tuple_iterator_next ?_ (F.args_tuple_iterator_next_1 _)))
 show wpAny _ _ (field (.ref j) 0 >>= _) _ _ s
 refine wpAny_bind (wpAny_field e0 hdt (x:=.ref t) rfl ?_)
 show wpAny _ _ (if (Value.ref t == Value.none) = true then _ else _) _ _ s
 rw [if_neg (show ¬ ((Value.ref t == Value.none) = true) from Bool.false_ne_true)]
 show wpAny _ _ (field (.ref j) 1 >>= _) _ _ s
 refine wpAny_bind (wpAny_field e0 hdt (x:=.int k 0) rfl ?_)
 show wpAny _ _ (seqItems? (.ref t) >>= _) _ _ s
 refine wpAny_bind (wpAny_seqItems e1 hdl ?_)
 simp only [Int.toNat_natCast,hx]
 refine wpAny_bind (wpAny_setField e0 hdt (by simp) (wpAny_pure ⟨x,rfl,wpAny_pure (hQ _ ?_ (Heap.SameBut.update ..))⟩))
 exact ⟨_,Heap.get?_update_self _ e0 (Obj.isFreed_of_fields (Obj.data_mapFields hdt _)),(Obj.cls_mapFields ..).trans hcl,by rw [Obj.data_mapFields hdt]; simp [rawInt]⟩
theorem jgz {j t:Addr} {k:Nat} {ar:Array Value} {Q:Value→Shared→Prop} (hh:A.handled = none) (hj:s.heap.IsTupleIter j t k) (ht:s.heap.IsTuple t ar) (hx:ar[k]? = none)
  (hE:∀ h' e,Heap.ExtBut j s.heap h'→(∃ o,h'.get? e = some o∧o.cls = .type "StopIteration")→E (.ref e) { s with heap:=h' }):wpAny (model prog w) A (Builtin.SmallTypes.nextOf (.ref j)) Q E s:=by
 obtain ⟨ob,e0,hcl,hdt⟩:=id hj
 obtain ⟨ot,e1,_,nt,hdl⟩:=ht
 unfold Builtin.SmallTypes.nextOf
 refine wpAny_bind (wpAny_callSpecial?_slot (name:=Str.ofString "__next__") hj.typeIs F.slot_tuple_iterator_next (wpAny_call_entry F.slot_tuple_iterator_next hj.typeIs F.entry_tuple_iterator_next ?_ (F.args_tuple_iterator_next_1 _)))
 show wpAny _ _ (field (.ref j) 0 >>= _) _ _ s
 refine wpAny_bind (wpAny_field e0 hdt (x:=.ref t) rfl ?_)
 show wpAny _ _ (if (Value.ref t == Value.none) = true then _ else _) _ _ s
 rw [if_neg (show ¬ ((Value.ref t == Value.none) = true) from Bool.false_ne_true)]
 show wpAny _ _ (field (.ref j) 1 >>= _) _ _ s
 refine wpAny_bind (wpAny_field e0 hdt (x:=.int k 0) rfl ?_)
 show wpAny _ _ (seqItems? (.ref t) >>= _) _ _ s
 refine wpAny_bind (wpAny_seqItems e1 hdl ?_)
 simp only [Int.toNat_natCast,hx]
 refine wpAny_bind (wpAny_rule (wpAny_bind (wpAny_setField e0 hdt (by simp) ?_)))
 show wpAny _ _ (newExc (.type "StopIteration") [] >>= _) _ _ _
 refine wpAny_bind ?_
 simp only [newExc,newTuple]
 refine wpAny_bind (wpAny_newObj_type ?_ (by size_fits))
 refine wpAny_bind (m:=firstArgMember _ _) (wpAny_of_eq (a:=Value.none) (by first | rfl | (simp only [firstArgMember]; rfl)) ?_)
 refine wpAny_newObj_type ?_ (by size_fits)
 simp only [raiseNew]
 refine wpAny_bind (wpAny_handled ?_)
 first | rw [show A.in1.handled = none from hh] | rw [hh]
 refine wpAny_bind (wpAny_pure (wpAny_throw ?_))
 exact hE _ _ (((Heap.SameBut.update ..).extBut.push _).push _) ⟨_,Heap.get?_push_size _ rfl,rfl⟩
def IsSq (b:Bool) (h:Heap) (l:Addr) (ar:Array Value):Prop:=if b = true then h.IsList l ar else h.IsTuple l ar
def jcl (b:Bool) (h:Heap) (j l:Addr) (k:Nat):Prop:=if b = true then h.IsListIter j l k else h.IsTupleIter j l k
theorem IsSq.at' {b:Bool} {h h':Heap} {l:Addr} {ar:Array Value} (x:IsSq b h l ar) (k:∀ o,h.get? l = some o→h'.get? l = some o):IsSq b h' l ar:=by
 cases b with
 | true=>obtain ⟨o,e,r⟩:=(show h.IsList l ar from x); exact (show h'.IsList l ar from ⟨o,k o e,r⟩)
 | false=>obtain ⟨o,e,r⟩:=(show h.IsTuple l ar from x); exact (show h'.IsTuple l ar from ⟨o,k o e,r⟩)
theorem jcl.at' {b:Bool} {h h':Heap} {j l:Addr} {i:Nat} (x:jcl b h j l i) (k:∀ o,h.get? j = some o→h'.get? j = some o):jcl b h' j l i:=by
 cases b with
 | true=>obtain ⟨o,e,r⟩:=(show h.IsListIter j l i from x); exact (show h'.IsListIter j l i from ⟨o,k o e,r⟩)
 | false=>obtain ⟨o,e,r⟩:=(show h.IsTupleIter j l i from x); exact (show h'.IsTupleIter j l i from ⟨o,k o e,r⟩)
theorem jcl.obj {b:Bool} {h:Heap} {j l:Addr} {i:Nat} (x:jcl b h j l i):∃ o,h.get? j = some o∧∀ v,o.data ≠ .cell v:=by
 cases b with
 | true=>obtain ⟨o,e,_,d⟩:=(show h.IsListIter j l i from x); exact ⟨o,e,fun v z=>by rw [d] at z; cases z⟩
 | false=>obtain ⟨o,e,_,d⟩:=(show h.IsTupleIter j l i from x); exact ⟨o,e,fun v z=>by rw [d] at z; cases z⟩
theorem jg9 {b:Bool} {j l:Addr} {k:Nat} {ar:Array Value} {x:Value} {Q:Value→Shared→Prop} (hj:jcl b s.heap j l k) (hl:IsSq b s.heap l ar) (hx:ar[k]? = some x)
  (hQ:∀ h',jcl b h' j l (k + 1)→Heap.SameBut j s.heap h'→Q x { s with heap:=h' }):wpAny (model prog w) A (Builtin.SmallTypes.nextOf (.ref j)) Q E s:=by
 cases b with
 | true=>exact wpAny_nextOf_list_item (show s.heap.IsListIter j l k from hj) (show s.heap.IsList l ar from hl) hx fun h' a b=>hQ h' a b
 | false=>exact jn7 (show s.heap.IsTupleIter j l k from hj) (show s.heap.IsTuple l ar from hl) hx fun h' a b=>hQ h' a b
theorem jeg {b:Bool} {j l:Addr} {k:Nat} {ar:Array Value} {Q:Value→Shared→Prop} (hh:A.handled = none) (hj:jcl b s.heap j l k) (hl:IsSq b s.heap l ar) (hx:ar[k]? = none)
  (hE:∀ h' e,Heap.ExtBut j s.heap h'→(∃ o,h'.get? e = some o∧o.cls = .type "StopIteration")→E (.ref e) { s with heap:=h' }):wpAny (model prog w) A (Builtin.SmallTypes.nextOf (.ref j)) Q E s:=by
 cases b with
 | true=>exact wpAny_nextOf_list_end hh (show s.heap.IsListIter j l k from hj) (show s.heap.IsList l ar from hl) hx hE
 | false=>exact jgz hh (show s.heap.IsTupleIter j l k from hj) (show s.heap.IsTuple l ar from hl) hx hE
theorem jj3 {b:Bool} {z TI TO i1 i2 l1 l2:Addr} {k1 k2:Nat} {xs ys:Array Value} {x y v0 v1:Value} {Q:Value→Shared→Prop} (D:ZipApart z TI TO i1 i2 l1 l2)
  (hz:IsZip s.heap z TI TO .none) (hTI:IsPair s.heap TI (.ref i1) (.ref i2)) (hTO:IsPair s.heap TO v0 v1)
  (h1:jcl b s.heap i1 l1 k1) (h2:jcl b s.heap i2 l2 k2) (hl1:IsSq b s.heap l1 xs) (hl2:IsSq b s.heap l2 ys) (hx:xs[k1]? = some x) (hy:ys[k2]? = some y)
  (hQ:∀ h',IsZip h' z TI TO (rawInt s.heap.objs.size)→IsPair h' TO x y→jcl b h' i1 l1 (k1 + 1)→jcl b h' i2 l2 (k2 + 1)→IsPair h' s.heap.objs.size x y →
   (∀ c o,c ≠ z→c ≠ TO→c ≠ i1→c ≠ i2→s.heap.get? c = some o→h'.get? c = some o)→Q (.ref s.heap.objs.size) { s with heap:=h' }) :
  wpAny (model prog w) A (Builtin.«zip.__next__» ⟨[.ref z],[]⟩) (fun fin s'=>∃ v,fin = .done (.ret v)∧Q v s') E s:=by
 show wpAny _ _ (field (.ref z) 2 >>= _) _ _ _
 refine wpAny_bind (wpAny_field hz rfl (x:=.bool false) rfl ?_)
 show wpAny _ _ (field (.ref z) 3 >>= _) _ _ _
 refine wpAny_bind (wpAny_field hz rfl (x:=.ref TI) rfl ?_)
 refine wpAny_bind (wpAny_seqItems hTI rfl ?_)
 show wpAny _ _ (Builtin.SmallTypes.ownedTupleIsFree (.ref z) >>= _) _ _ _
 refine wpAny_bind ?_
 unfold Builtin.SmallTypes.ownedTupleIsFree
 refine wpAny_bind (wpAny_field hz rfl (x:=.none) rfl (wpAny_pure ?_))
 simp only [if_true]
 refine wpAny_bind (wpAny_rule ?_)
 refine wpAny_bind (wpAny_field hz rfl (x:=.ref TO) rfl ?_)
 refine wpAny_bind (wpAny_setField_rec hz (by simp) fun g1 hzA sA=>?_)
 replace hzA:IsZip g1 z TI TO .ellipsis:=hzA
 refine wpAny_bind ?_
 simp only [List.zipIdx_cons,List.zipIdx_nil,List.forIn_cons,List.forIn_nil]
 refine wpAny_bind (wpAny_bind (wpAny_onRaise ?_))
 show wpAny _ _ (Builtin.SmallTypes.nextOf (.ref i1) >>= _) _ _ _
 refine wpAny_bind (jg9 (b:=b) (h1.at' fun o e=>sA.extBut _ o D.i1z e) (hl1.at' fun o e=>sA.extBut _ o D.l1z e) hx fun g2 h1B sB=>wpAny_pure ?_)
 have TOB:IsPair g2 TO v0 v1:=sB.extBut _ _ D.TOi1 (sA.extBut _ _ D.TOz hTO)
 refine wpAny_bind (wpAny_seqItems TOB rfl ?_)
 refine wpAny_bind (wpAny_updateSeq_pair TOB fun g3 TOC sC=>?_)
 replace TOC:IsPair g3 TO x v1:=TOC
 refine wpAny_bind (wpAny_letGo (wpAny_pure ?_))
 refine wpAny_bind (wpAny_bind (wpAny_onRaise ?_))
 show wpAny _ _ (Builtin.SmallTypes.nextOf (.ref i2) >>= _) _ _ _
 refine wpAny_bind (jg9 (b:=b) (h2.at' fun o e=>sC.extBut _ o D.TOi2.symm (sB.extBut _ o D.i12.symm (sA.extBut _ o D.i2z e))) (hl2.at' fun o e=>sC.extBut _ o D.l2TO (sB.extBut _ o D.l2i1 (sA.extBut _ o D.l2z e))) hy fun g4 h2D sD=>wpAny_pure ?_)
 have TOD:IsPair g4 TO x v1:=sD.extBut _ _ D.TOi2 TOC
 refine wpAny_bind (wpAny_seqItems TOD rfl ?_)
 refine wpAny_bind (wpAny_updateSeq_pair TOD fun g5 TOE sE=>?_)
 replace TOE:IsPair g5 TO x y:=TOE
 refine wpAny_bind (wpAny_letGo (wpAny_pure (wpAny_pure ?_)))
 refine wpAny_bind (wpAny_seqItems TOE rfl ?_)
 refine wpAny_bind (wpAny_newTuple ?_)
 have hsz:g5.objs.size = s.heap.objs.size:=by rw [sE.1,sD.1,sC.1,sB.1,sA.1]
 have hzE:IsZip g5 z TI TO .ellipsis:=sE.extBut _ _ D.TOz.symm (sD.extBut _ _ D.i2z.symm (sC.extBut _ _ D.TOz.symm (sB.extBut _ _ D.i1z.symm hzA)))
 have hkE:∀ c o,c ≠ z→c ≠ TO→c ≠ i1→c ≠ i2→s.heap.get? c = some o→g5.get? c = some o:=fun c o c1 c2 c3 c4 e=>sE.extBut _ _ c2 (sD.extBut _ _ c4 (sC.extBut _ _ c2 (sB.extBut _ _ c3 (sA.extBut _ _ c1 e))))
 have h1E:jcl b g5 i1 l1 (k1 + 1):=h1B.at' fun o e=>sE.extBut _ o D.TOi1.symm (sD.extBut _ o D.i12 (sC.extBut _ o D.TOi1.symm e))
 have h2E:jcl b g5 i2 l2 (k2 + 1):=h2D.at' fun o e=>sE.extBut _ o D.TOi2.symm e
 have zlt:z < g5.objs.size:=Heap.lt_size hzE
 show wpAny _ _ (Builtin.SmallTypes.ownedTupleHandOut (.ref z) (.ref g5.objs.size) >>= _) _ _ _
 refine wpAny_bind ?_
 unfold Builtin.SmallTypes.ownedTupleHandOut
 have hzF:IsZip (g5.push { cls:=.type "tuple",data:=.seq #[x,y] }) z TI TO .ellipsis:=Heap.get?_push_of_some _ hzE
 refine wpAny_bind (wpAny_setField_rec hzF (by simp) fun g7 hzG sG=>?_)
 replace hzG:IsZip g7 z TI TO (rawInt g5.objs.size):=hzG
 refine wpAny_setField_rec hzG (by simp) fun g8 hzI sI=>?_
 replace hzI:IsZip g8 z TI TO (rawInt g5.objs.size):=hzI
 have up:∀ c o,c ≠ z→g5.get? c = some o→g8.get? c = some o:=fun c o c1 e=>sI.extBut _ _ c1 (sG.extBut _ _ c1 (Heap.get?_push_of_some _ e))
 have hTI8:IsPair g8 g5.objs.size x y:=sI.extBut _ _ (Nat.ne_of_gt zlt) (sG.extBut _ _ (Nat.ne_of_gt zlt) (Heap.get?_push_size _ rfl))
 rw [hsz] at hzI hTI8
 refine wpAny_pure ⟨_,rfl,?_⟩
 show Q (.ref g5.objs.size) _
 rw [hsz]
 exact hQ g8 hzI (up _ _ D.TOz TOE) (h1E.at' fun o e=>up _ o D.i1z e) (h2E.at' fun o e=>up _ o D.i2z e) hTI8 fun c o c1 c2 c3 c4 e=>up c o c1 (hkE c o c1 c2 c3 c4 e)
theorem jko {b:Bool} {z TI TO i1 i2 l1 l2:Addr} {k1 k2:Nat} {xs ys:Array Value} {v0 v1:Value} {Q:Fin→Shared→Prop} (hh:A.handled = none) (D:ZipApart z TI TO i1 i2 l1 l2)
  (hz:IsZip s.heap z TI TO .none) (hTI:IsPair s.heap TI (.ref i1) (.ref i2)) (hTO:IsPair s.heap TO v0 v1)
  (h1:jcl b s.heap i1 l1 k1) (h2:jcl b s.heap i2 l2 k2) (hl1:IsSq b s.heap l1 xs) (hl2:IsSq b s.heap l2 ys) (hend:xs[k1]? = none ∨ ys[k2]? = none)
  (hE:∀ h' e,(∀ c o,c ≠ z→c ≠ TO→c ≠ i1→c ≠ i2→s.heap.get? c = some o→h'.get? c = some o)→(∃ o,h'.get? e = some o∧o.cls = .type "StopIteration")→E (.ref e) { s with heap:=h' }) :
  wpAny (model prog w) A (Builtin.«zip.__next__» ⟨[.ref z],[]⟩) Q E s:=by
 show wpAny _ _ (field (.ref z) 2 >>= _) _ _ _
 refine wpAny_bind (wpAny_field hz rfl (x:=.bool false) rfl ?_)
 show wpAny _ _ (field (.ref z) 3 >>= _) _ _ _
 refine wpAny_bind (wpAny_field hz rfl (x:=.ref TI) rfl ?_)
 refine wpAny_bind (wpAny_seqItems hTI rfl ?_)
 show wpAny _ _ (Builtin.SmallTypes.ownedTupleIsFree (.ref z) >>= _) _ _ _
 refine wpAny_bind ?_
 unfold Builtin.SmallTypes.ownedTupleIsFree
 refine wpAny_bind (wpAny_field hz rfl (x:=.none) rfl (wpAny_pure ?_))
 simp only [if_true]
 refine wpAny_bind (wpAny_rule ?_)
 refine wpAny_bind (wpAny_field hz rfl (x:=.ref TO) rfl ?_)
 refine wpAny_bind (wpAny_setField_rec hz (by simp) fun g1 hzA sA=>?_)
 replace hzA:IsZip g1 z TI TO .ellipsis:=hzA
 refine wpAny_bind ?_
 simp only [List.zipIdx_cons,List.zipIdx_nil,List.forIn_cons,List.forIn_nil]
 refine wpAny_bind (wpAny_bind (wpAny_onRaise ?_))
 show wpAny _ _ (Builtin.SmallTypes.nextOf (.ref i1) >>= _) _ _ _
 cases hx:xs[k1]? with
 | none =>
  refine wpAny_bind (jeg (b:=b) hh (h1.at' fun o e=>sA.extBut _ o D.i1z e) (hl1.at' fun o e=>sA.extBut _ o D.l1z e) hx fun g2 ex sB he=>?_)
  obtain ⟨oe,hoe,hce⟩:=he
  have hzB:IsZip g2 z TI TO .ellipsis:=sB _ _ D.i1z.symm hzA
  have hez:ex ≠ z:=fun q=>by subst q; rw [hzB] at hoe; cases hoe; simp at hce
  refine wpAny_setField_rec hzB (by simp) fun g3 _ sC=>hE g3 ex (fun c o c1 _ c3 _ q=>sC.extBut _ _ c1 (sB _ _ c3 (sA.extBut _ _ c1 q))) ⟨oe,sC.extBut _ _ hez hoe,hce⟩
 | some x =>
  have hy:ys[k2]? = none:=by rcases hend with h | h; rw [hx] at h; cases h; exact h
  refine wpAny_bind (jg9 (b:=b) (h1.at' fun o e=>sA.extBut _ o D.i1z e) (hl1.at' fun o e=>sA.extBut _ o D.l1z e) hx fun g2 h1B sB=>wpAny_pure ?_)
  have TOB:IsPair g2 TO v0 v1:=sB.extBut _ _ D.TOi1 (sA.extBut _ _ D.TOz hTO)
  refine wpAny_bind (wpAny_seqItems TOB rfl ?_)
  refine wpAny_bind (wpAny_updateSeq_pair TOB fun g3 TOC sC=>?_)
  refine wpAny_bind (wpAny_letGo (wpAny_pure ?_))
  refine wpAny_bind (wpAny_bind (wpAny_onRaise ?_))
  show wpAny _ _ (Builtin.SmallTypes.nextOf (.ref i2) >>= _) _ _ _
  refine wpAny_bind (jeg (b:=b) hh (h2.at' fun o e=>sC.extBut _ o D.TOi2.symm (sB.extBut _ o D.i12.symm (sA.extBut _ o D.i2z e))) (hl2.at' fun o e=>sC.extBut _ o D.l2TO (sB.extBut _ o D.l2i1 (sA.extBut _ o D.l2z e))) hy fun g4 ex sD he=>?_)
  obtain ⟨oe,hoe,hce⟩:=he
  have hzD:IsZip g4 z TI TO .ellipsis:=sD _ _ D.i2z.symm (sC.extBut _ _ D.TOz.symm (sB.extBut _ _ D.i1z.symm hzA))
  have hez:ex ≠ z:=fun q=>by subst q; rw [hzD] at hoe; cases hoe; simp at hce
  refine wpAny_setField_rec hzD (by simp) fun g5 _ sE=>hE g5 ex (fun c o c1 c2 c3 c4 q=>sE.extBut _ _ c1 (sD _ _ c4 (sC.extBut _ _ c2 (sB.extBut _ _ c3 (sA.extBut _ _ c1 q))))) ⟨oe,sE.extBut _ _ hez hoe,hce⟩
end
abbrev zpIt (b:Bool) (l:Addr):Obj:={ cls:=.type (if b = true then "list_iterator" else "tuple_iterator"),data:=.fields #[.ref l,.int 0 0] }
abbrev zp2 (b:Bool) (h:Heap) (l1 l2:Addr):Heap:=(h.push (zpIt b l1)).push (zpIt b l2)
abbrev zp3 (b:Bool) (h:Heap) (l1 l2:Addr):Heap:=(zp2 b h l1 l2).push { cls:=.type "tuple",data:=.seq #[.ref h.objs.size,.ref (h.push (zpIt b l1)).objs.size] }
abbrev zp4 (b:Bool) (h:Heap) (l1 l2:Addr):Heap:=(zp3 b h l1 l2).push { cls:=.type "tuple",data:=.seq #[.none,.none] }
abbrev zp5 (b:Bool) (h:Heap) (l1 l2:Addr):Heap:=(zp4 b h l1 l2).push { cls:=.type "zip",data:=.fields #[.none,.bool false,.bool false,.ref (zp2 b h l1 l2).objs.size,.ref (zp3 b h l1 l2).objs.size] }
theorem jno (l1 l2:Addr) (xs ys:Array Value) :
  Meets (Builtin.«zip.__new__» ⟨[.type "zip",.ref l1,.ref l2],[]⟩) (fun _ R s=>s.heap.IsTuple l1 xs∧s.heap.IsTuple l2 ys∧R (.ok (.ret (.ref (zp4 false s.heap l1 l2).objs.size))) { s with heap:=zp5 false s.heap l1 l2 }) :=
 .of_wp fun prog w A R s h=>by
  obtain ⟨hp,g,d,tk,os⟩:=s; obtain ⟨hl1,hl2,h⟩:=h
  have hsub:=sub_zip
  have hL1:Heap.IsTuple (Shared.heap ⟨hp,g,d,tk,os⟩) l1 xs:=hl1
  have hL2:Heap.IsTuple (Shared.heap ⟨hp.push { cls:=.type "tuple_iterator",data:=.fields #[.ref l1,.int 0 0] },g,d,tk,os⟩) l2 ys:=Heap.IsTuple.push hl2 _
  wp_walk using wpAny_pyIter_tuple hL1,wpAny_pyIter_tuple hL2
  exact ⟨_,rfl,h⟩
section
variable {prog:Program} {w:World} {A:Around} {E:Value→Shared→Prop} {s:Shared}
theorem juc {b:Bool} {l1 l2:Addr} {xs ys:Array Value} {Q:Value→Shared→Prop} (hl1:IsSq b s.heap l1 xs) (hl2:IsSq b s.heap l2 ys)
  (h:∀ h',IsZip h' (s.heap.objs.size + 4) (s.heap.objs.size + 2) (s.heap.objs.size + 3) .none→IsPair h' (s.heap.objs.size + 2) (.ref s.heap.objs.size) (.ref (s.heap.objs.size + 1)) →
   IsPair h' (s.heap.objs.size + 3) .none .none→jcl b h' s.heap.objs.size l1 0→jcl b h' (s.heap.objs.size + 1) l2 0→(∀ c o,s.heap.get? c = some o→h'.get? c = some o)→Q (.ref (s.heap.objs.size + 4)) { s with heap:=h' }) :
  wpAny (model prog w) A (call (.type "zip") [.ref l1,.ref l2]) Q E s:=by
 cases b with
 | true=>exact call_zip_2 (show s.heap.IsList l1 xs from hl1) (show s.heap.IsList l2 ys from hl2) fun h' a1 a2 a3 a4 a5 _ a7=>h h' a1 a2 a3 a4 a5 a7
 | false =>
  refine callType_new F.called_zip (by decide) (F.typeCall_zip_2 _ _) (F.newCall_zip_2 _ _) (fun obj=>F.args_object_init_3 obj _ _) F.entry_zip_new (jno l1 l2 xs ys) ⟨hl1,hl2,?_⟩
  have q1:(s.heap.push (zpIt false l1)).objs.size = s.heap.objs.size + 1:=Heap.size_push ..
  have q2:(zp2 false s.heap l1 l2).objs.size = s.heap.objs.size + 2:=by rw [Heap.size_push,q1]
  have q3:(zp3 false s.heap l1 l2).objs.size = s.heap.objs.size + 3:=by rw [Heap.size_push,q2]
  have q4:(zp4 false s.heap l1 l2).objs.size = s.heap.objs.size + 4:=by rw [Heap.size_push,q3]
  have p5:(zp5 false s.heap l1 l2).get? (zp4 false s.heap l1 l2).objs.size = some _:=Heap.get?_push_size _ rfl
  have p4:(zp5 false s.heap l1 l2).get? (zp3 false s.heap l1 l2).objs.size = some _:=Heap.get?_push_of_some _ (Heap.get?_push_size _ rfl)
  have p3:(zp5 false s.heap l1 l2).get? (zp2 false s.heap l1 l2).objs.size = some _:=Heap.get?_push_of_some _ (Heap.get?_push_of_some _ (Heap.get?_push_size _ rfl))
  have p2:(zp5 false s.heap l1 l2).get? (s.heap.push (zpIt false l1)).objs.size = some _:=Heap.get?_push_of_some _ (Heap.get?_push_of_some _ (Heap.get?_push_of_some _ (Heap.get?_push_size _ rfl)))
  have p1:(zp5 false s.heap l1 l2).get? s.heap.objs.size = some _:=Heap.get?_push_of_some _ (Heap.get?_push_of_some _ (Heap.get?_push_of_some _ (Heap.get?_push_of_some _ (Heap.get?_push_size _ rfl))))
  show _∧_
  rw [q2,q3,q4] at p5
  rw [q1,q2] at p3
  rw [q3] at p4
  rw [q1] at p2
  rw [q4]
  exact ⟨⟨_,p5,rfl⟩,h _ p5 p3 p4 (show Heap.IsTupleIter _ _ _ _ from ⟨_,p1,rfl,rfl⟩) (show Heap.IsTupleIter _ _ _ _ from ⟨_,p2,rfl,rfl⟩) fun c o x =>
   Heap.get?_push_of_some _ (Heap.get?_push_of_some _ (Heap.get?_push_of_some _ (Heap.get?_push_of_some _ (Heap.get?_push_of_some _ x))))⟩
end
def SqB (b:Bool) (K:PySem.W.Frag) (H:Hp) (a:Addr) (xs:List V):Prop:=if b = true then SqL K H a xs else SqT K H a xs
theorem Inv.sqB {X:Cx} {pins:List (Addr × Obj)} {σ:St} {H:Hp} {s:Shared} {b:Bool} {a:Addr} {xs:List V} (I:Inv X pins σ H s) (h:SqB b X.K H a xs):∃ its:List Value,Vals xs its∧IsSq b s.heap a its.toArray∧xs.length ≤ sizeLine:=by
 cases b with
 | true =>
  obtain ⟨its,r,p,z⟩:=I.list (show SqL X.K H a xs from h)
  exact ⟨its,r,p.isList,z⟩
 | false =>
  obtain ⟨its,r,p,z⟩:=I.tuple (show SqT X.K H a xs from h)
  exact ⟨its,r,(show s.heap.IsTuple a its.toArray from p),z⟩
theorem Inv.sqB_inj {X:Cx} {pins:List (Addr × Obj)} {σ:St} {H:Hp} {s:Shared} {b:Bool} {a:Addr} {xs ys:List V} (I:Inv X pins σ H s) (h:SqB b X.K H a xs) (h':SqB b X.K H a ys):xs = ys:=by
 cases b with
 | true=>exact I.list_inj (show SqL X.K H a xs from h) (show SqL X.K H a ys from h')
 | false=>exact I.tuple_inj (show SqT X.K H a xs from h) (show SqT X.K H a ys from h')
def Itz (b:Bool) (K:PySem.W.Frag) (a c:Addr):It :=
  ⟨fun i H=>∃ xs ys x y,SqB b K H a xs∧SqB b K H c ys∧xs[i]? = some x∧ys[i]? = some y,
   fun i H v H'=>∃ t x y,H t = none∧v = .ref t∧H' = upd H t (.tup [x,y])∧(∀ xs,SqB b K H a xs→xs[i]? = some x)∧∀ ys,SqB b K H c ys→ys[i]? = some y,
   fun i H=>∃ xs ys,SqB b K H a xs∧SqB b K H c ys∧(xs.length ≤ i ∨ ys.length ≤ i)⟩
theorem je1 {X:Cx} {pins:List (Addr × Obj)} {σ:St} {H:Hp} {s:Shared} {b:Bool} {a j:Addr} {xs:List V} (I:Inv X pins σ H s) (h:SqB b X.K H a xs) (f:FpOk X pins H j):a ≠ j:=by
 intro e
 subst e
 have key:∀ {o},X.K.lookup a = some o→False:=fun {o} q=>by
  have q1:=I.mod.kin a o q
  rcases f.2.2.2.1 with z | z
  ·exact I.ok.noex a o q1 z
  ·exact absurd (Nat.lt_of_lt_of_le (Heap.lt_size q1) (Nat.le_trans I.ok.bsz z)) (Nat.lt_irrefl _)
 cases b with
 | true =>
  rcases (show SqL X.K H a xs from h) with (h | ⟨o,h⟩) | ⟨o,its,n,hk,_⟩
  ·rw [f.1] at h; cases h
  ·rw [f.1] at h; cases h
  ·exact key hk
 | false =>
  rcases (show SqT X.K H a xs from h) with (h | ⟨o,h⟩) | ⟨o,its,n,hk,_⟩
  ·rw [f.1] at h; cases h
  ·rw [f.1] at h; cases h
  ·exact key hk
structure ZpA (z TI TO i1 i2:Addr):Prop where
 TIz:TI ≠ z
 TOz:TO ≠ z
 i1z:i1 ≠ z
 i2z:i2 ≠ z
 TITO:TI ≠ TO
 TIi1:TI ≠ i1
 TIi2:TI ≠ i2
 TOi1:TO ≠ i1
 TOi2:TO ≠ i2
 i12:i1 ≠ i2
theorem jqg {P:Program} {w:World} {K:PySem.W.Frag} {elts:List Expr} {x1:Nat} {pos:Pos} (b:Bool) (a c z TI TO i1 i2:Addr) (D0:ZpA z TI TO i1 i2) :
  Turn P w K (.Tuple elts x1 pos) (Itz b K a c) [z,TI,TO,i1,i2] z (fun i h=>IsZip h z TI TO .none∧IsPair h TI (.ref i1) (.ref i2)∧(∃ u v,IsPair h TO u v)∧jcl b h i1 a i∧jcl b h i2 c i) where
 mem:=by simp
 obj:=fun i h st d hd=>by
  obtain ⟨hz,hTI,⟨u,v,hTO⟩,h1,h2⟩:=st
  have q:d = z ∨ d = TI ∨ d = TO ∨ d = i1 ∨ d = i2:=by simpa using hd
  rcases q with rfl | rfl | rfl | rfl | rfl
  ·exact ⟨_,hz,fun v z=>by
    have z':Data.fields _ = Data.cell v:=z
    cases z'⟩
  ·exact ⟨_,hTI,fun v z=>by
    have z':Data.seq _ _ = Data.cell v:=z
    cases z'⟩
  ·exact ⟨_,hTO,fun v z=>by
    have z':Data.seq _ _ = Data.cell v:=z
    cases z'⟩
  ·exact h1.obj
  ·exact h2.obj
 keep:=fun i h h' st k=>by
  obtain ⟨hz,hTI,⟨u,v,hTO⟩,h1,h2⟩:=st
  exact ⟨k z (by simp) _ hz,k TI (by simp) _ hTI,⟨u,v,k TO (by simp) _ hTO⟩,h1.at' fun o e=>k i1 (by simp) o e,h2.at' fun o e=>k i2 (by simp) o e⟩
 item:=by
  intro X hP hw hK hc i pins s σ H E I hf st hg
  subst hP hw hK
  obtain ⟨hz,hTI,⟨u0,v0,hTO⟩,h1,h2⟩:=st
  obtain ⟨xs,ys,x,y,hq1,hq2,hx,hy⟩:=hg
  obtain ⟨its1,rv1,p1,hz1⟩:=I.sqB hq1
  obtain ⟨its2,rv2,p2,hz2⟩:=I.sqB hq2
  obtain ⟨u1,hu1,ru1⟩:=rv1.get hx
  obtain ⟨u2,hu2,ru2⟩:=rv2.get hy
  have D:ZipApart z TI TO i1 i2 a c:=⟨D0.TIz,D0.TOz,D0.i1z,D0.i2z,D0.TITO,D0.TIi1,D0.TIi2,D0.TOi1,D0.TOi2,D0.i12,
   je1 I hq1 (hf z (by simp)),je1 I hq1 (hf TO (by simp)),je1 I hq1 (hf i1 (by simp)),je1 I hq1 (hf i2 (by simp)),je1 I hq2 (hf z (by simp)),je1 I hq2 (hf TO (by simp)),je1 I hq2 (hf i1 (by simp)),je1 I hq2 (hf i2 (by simp))⟩
  have zlt:z < s.heap.objs.size:=Heap.lt_size hz
  have hT:s.TypeIs (.ref z) "zip":=⟨_,hz,rfl⟩
  unfold pyNext
  refine wpAny_bind (wpAny_attempt (wpAny_callSpecial?_slot (name:=Str.ofString "__next__") hT F.slot_zip_next (wpAny_call_entry F.slot_zip_next hT F.entry_zip_next
   (jj3 (b:=b) D hz hTI hTO h1 h2 p1 p2 (x:=u1) (y:=u2) (by simpa using hu1) (by simpa using hu2) fun h' a1 a2 a3 a4 a5 a7=>wpAny_pure ?_) (F.args_zip_next_1 _))))
  refine ⟨_,rfl,wpAny_letOwnedTupleGo_zip a1 fun g hz' hs'=>?_⟩
  replace hs':Heap.SameBut z h' g:=hs'
  have kk:∀ d ob,d ∉ [z,TI,TO,i1,i2]→s.heap.get? d = some ob→g.get? d = some ob:=fun d ob hd q=>by
   have hd':d ≠ z∧d ≠ TI∧d ≠ TO∧d ≠ i1∧d ≠ i2:=by simpa using hd
   exact hs'.extBut _ _ hd'.1 (a7 d ob hd'.1 hd'.2.2.1 hd'.2.2.2.1 hd'.2.2.2.2 q)
  have hT2:g.get? s.heap.objs.size = some { cls:=.type "tuple",data:=.seq #[u1,u2] }:=hs'.extBut _ _ (Nat.ne_of_gt zlt) a5
  refine ⟨.ref s.heap.objs.size,upd H s.heap.objs.size (.tup [x,y]),I.turnedNew (ch:=[z,TI,TO,i1,i2]) (t':=s.toks) (Nat.le_refl _) kk hf ?_,rfl,
   ⟨_,x,y,I.fresh,rfl,rfl,fun zs hq=>by rw [I.sqB_inj hq hq1]; exact hx,fun zs hq=>by rw [I.sqB_inj hq hq2]; exact hy⟩,
   ⟨hz',hs'.extBut _ _ D.TIz (a7 _ _ D.TIz D.TITO D.TIi1 D.TIi2 hTI),⟨_,_,hs'.extBut _ _ D.TOz a2⟩,a3.at' fun o e=>hs'.extBut _ _ D.i1z e,a4.at' fun o e=>hs'.extBut _ _ D.i2z e⟩,fun d hd=>?_⟩
  ·exact ⟨by show 2 ≤ sizeLine; decide,[u1,u2],.cons ru1 (.cons ru2 .nil),⟨_,hT2,rfl,_,rfl⟩⟩
  ·have dlt:d < s.heap.objs.size:=by
    have q:d = z ∨ d = TI ∨ d = TO ∨ d = i1 ∨ d = i2:=by simpa using hd
    rcases q with rfl | rfl | rfl | rfl | rfl
    ·exact zlt
    ·exact Heap.lt_size hTI
    ·exact Heap.lt_size hTO
    ·obtain ⟨o,e,_⟩:=h1.obj; exact Heap.lt_size e
    ·obtain ⟨o,e,_⟩:=h2.obj; exact Heap.lt_size e
   rw [jas (Nat.ne_of_lt dlt)]
   exact (hf d hd).1
 done:=by
  intro X hP hw hK hc i pins s σ H E I hf st hg
  subst hP hw hK
  obtain ⟨hz,hTI,⟨u0,v0,hTO⟩,h1,h2⟩:=st
  obtain ⟨xs,ys,hq1,hq2,hlen⟩:=hg
  obtain ⟨its1,rv1,p1,hz1⟩:=I.sqB hq1
  obtain ⟨its2,rv2,p2,hz2⟩:=I.sqB hq2
  have e1:=rv1.length
  have e2:=rv2.length
  have D:ZipApart z TI TO i1 i2 a c:=⟨D0.TIz,D0.TOz,D0.i1z,D0.i2z,D0.TITO,D0.TIi1,D0.TIi2,D0.TOi1,D0.TOi2,D0.i12,
   je1 I hq1 (hf z (by simp)),je1 I hq1 (hf TO (by simp)),je1 I hq1 (hf i1 (by simp)),je1 I hq1 (hf i2 (by simp)),je1 I hq2 (hf z (by simp)),je1 I hq2 (hf TO (by simp)),je1 I hq2 (hf i1 (by simp)),je1 I hq2 (hf i2 (by simp))⟩
  have hT:s.TypeIs (.ref z) "zip":=⟨_,hz,rfl⟩
  unfold pyNext
  refine wpAny_bind (wpAny_attempt (wpAny_callSpecial?_slot (name:=Str.ofString "__next__") hT F.slot_zip_next (wpAny_call_entry F.slot_zip_next hT F.entry_zip_next
   (jko (b:=b) (I.ok.hd hc) D hz hTI hTO h1 h2 p1 p2 (by rcases hlen with h | h; exact .inl (by simp; omega); exact .inr (by simp; omega)) fun h' e hk he=>?_) (F.args_zip_next_1 _))))
  obtain ⟨o,ho,hcl⟩:=he
  refine wpAny_bind (wpAny_isInstance (T:="StopIteration") (b:=true) ⟨o,ho,hcl⟩ isSubtype_stop ?_)
  exact wpAny_pure ⟨rfl,I.turnedAll (ch:=[z,TI,TO,i1,i2]) (t':=s.toks) (fun d ob hd q=>by
   have hd':d ≠ z∧d ≠ TI∧d ≠ TO∧d ≠ i1∧d ≠ i2:=by simpa using hd
   exact hk d ob hd'.1 hd'.2.2.1 hd'.2.2.2.1 hd'.2.2.2.2 q) hf⟩
 self:=fun _ _ _ _ _ st h=>wpAny_pyIter_zip st.1 h
theorem jkn {X:Cx} {b:Bool} {elts:List Expr} {x1:Nat} {tpos:Pos} {pins:List (Addr × Obj)} {σ:St} {H1:Hp} {s1:Shared} {R:It→Hp→Prop} {a c:Addr} {xs ys:List V} (I1:Inv X pins σ H1 s1) (hq1:SqB b X.K H1 a xs) (hq2:SqB b X.K H1 c ys) (q:R (Itz b X.K a c) H1) :
  wpAny (model X.prog X.w) X.A (call (.type "zip") [.ref a,.ref c]) (fun v s2=>wpAny (model X.prog X.w) X.A (pyIter v) (PIE X pins σ (.Tuple elts x1 tpos) R) X.xe s2) X.xe s1:=by
 obtain ⟨its1,rv1,p1,hz1⟩:=I1.sqB hq1
 obtain ⟨its2,rv2,p2,hz2⟩:=I1.sqB hq2
 refine juc p1 p2 fun h' a1 a2 a3 a4 a5 hk=>?_
 refine wpAny_pyIter_zip a1 ?_
 have I2:Inv X pins σ H1 { s1 with heap:=h' }:=I1.kept (t':=s1.toks) fun b o q=>hk b o q
 have ne:∀ i j:Nat,i ≠ j→s1.heap.objs.size + i ≠ s1.heap.objs.size + j:=fun i j h e=>h (Nat.add_left_cancel e)
 refine ⟨_,[s1.heap.objs.size + 4,s1.heap.objs.size + 2,s1.heap.objs.size + 3,s1.heap.objs.size,s1.heap.objs.size + 1],_,_,H1,rfl,I2,jqg b a c _ _ _ _ _ ⟨ne 2 4 (by decide),ne 3 4 (by decide),ne 0 4 (by decide),ne 1 4 (by decide),ne 2 3 (by decide),ne 2 0 (by decide),ne 2 1 (by decide),ne 3 0 (by decide),ne 3 1 (by decide),ne 0 1 (by decide)⟩,
  ⟨a1,a2,⟨_,_,a3⟩,a4,a5⟩,fun d hd=>?_,q⟩
 have hd':d = s1.heap.objs.size + 4 ∨ d = s1.heap.objs.size + 2 ∨ d = s1.heap.objs.size + 3 ∨ d = s1.heap.objs.size ∨ d = s1.heap.objs.size + 1:=by simpa using hd
 have hle:s1.heap.objs.size ≤ d:=by
  rcases hd' with e | e | e | e | e <;> rw [e]
  ·exact Nat.le_add_right _ _
  ·exact Nat.le_add_right _ _
  ·exact Nat.le_add_right _ _
  ·exact Nat.le_refl _
  ·exact Nat.le_add_right _ _
 exact I1.fpOk hle (I1.hok.fresh hle)
def jtz (K:PySem.W.Frag) (ta:TA):TI:=fun σ H R=>ta σ H fun vs H1=>∃ (b:Bool) (a c:Addr),vs = [.ref a,.ref c]∧(∃ xs,SqB b K H1 a xs)∧(∃ ys,SqB b K H1 c ys)∧R (Itz b K a c) H1
theorem jou {X:Cx} {elts:List Expr} {x1:Nat} {tpos:Pos} {a c:Expr} {ta:TA} {p pos:Pos} (hg:Gl X "zip") (hm:X.mg "zip" = none) (ha:PA X [a,c] ta) (hs:starEach [a,c] X.env = [(false,eval a X.env),(false,eval c X.env)]:=by rfl) (hs2:starEach [c] X.env = [(false,eval c X.env)]:=by rfl) :
  PI X (.Tuple elts x1 tpos) (.Call (.Name "zip" p) [a,c] [] pos) (jtz X.K ta):=by
 intro pins s σ H R I h
 refine Call_ (jhd I hg hm boot_zip (PyProof.Rows.callWith_type1 (thn (ha pos pins s σ H _ I h) fun us s1 ⟨vs,H1,I1,r1,q1⟩=>?_) (by rw [hs,hs2]) (by rw [hs2]; rfl)))
 obtain ⟨b,a,c,e,⟨xs,hq1⟩,⟨ys,hq2⟩,q⟩:=q1
 subst e
 cases r1 with
 | cons r rr =>
  cases rr with
  | cons r' rr =>
   cases rr
   cases r
   cases r'
   exact jkn I1 hq1 hq2 q
end L2
namespace L2
open PySem PySem.Spec PyProof.Rows
theorem jk0:typeLookup (.type "list") "keys" = pure none:=by rw [typeLookup_type,builtinLookup_eq_fast]; kernel_rfl
theorem jge:typeLookup (.type "list") "__getattr__" = pure none:=by rw [typeLookup_type,builtinLookup_eq_fast]; kernel_rfl
theorem jhp:isSubtype (.type "AttributeError") (.type "AttributeError") = pure true:=by rw [isSubtype_type]; kernel_rfl
section
variable {prog:Program} {w:World} {A:Around} {E:Value→Shared→Prop} {h:Heap} {g:Array GenState} {d:Drawn} {t:Nat} {os:OsState} {a:Addr} {o:Obj}
theorem jn0 {α:Type} {Q:α→Shared→Prop} {u:Value} {x msg:Str} (hh:A.handled = none) (hm:msg.length ≤ sizeLine)
  (hE:∀ h' e tk,(∀ b o,h.get? b = some o→h'.get? b = some o)→(∃ o,h'.get? e = some o∧o.cls = .type "AttributeError")→E (.ref e) ⟨h',g,d,tk,os⟩) :
  wpAny (model prog w) A (raiseAttrError u x msg:Sem α) Q E ⟨h,g,d,t,os⟩:=by
 unfold raiseAttrError
 refine wpAny_bind (wpAny_mkStr ?_ hm)
 simp only [newExc,newTuple]
 refine wpAny_bind (wpAny_bind (wpAny_newObj_type ?_ (by size_fits)))
 refine wpAny_bind (m:=firstArgMember _ _) (wpAny_of_eq (a:=Value.none) (by first | rfl | (simp only [firstArgMember]; rfl)) ?_)
 refine wpAny_newObj_type ?_ (by size_fits)
 refine wpAny_bind (wpAny_mkText ?_)
 dsimp only
 refine wpAny_bind ?_
 unfold noteAttr
 generalize hh1:h.push { cls:=.type "tuple",data:=.seq #[.str msg t] } = h1
 have k1:∀ b o,h.get? b = some o→h1.get? b = some o:=fun b o q=>by rw [← hh1]; exact Heap.get?_push_of_some _ q
 have hg:(h1.push { cls:=.type "AttributeError",data:=.fields #[.ref h.objs.size,.none,.none,.none,.bool false,.none,unsetMember,unsetMember] }).get? h1.objs.size = some _:=Heap.get?_push_size _ rfl
 have k2:∀ b o,h.get? b = some o→(h1.push { cls:=.type "AttributeError",data:=.fields #[.ref h.objs.size,.none,.none,.none,.bool false,.none,unsetMember,unsetMember] }).get? b = some o:=fun b o q=>Heap.get?_push_of_some _ (k1 b o q)
 have nb:∀ b o,h.get? b = some o→b ≠ h1.objs.size:=fun b o q=>Nat.ne_of_lt (Heap.lt_size (k1 b o q))
 show wpAny _ _ (lacksNameAndObj (.ref h1.objs.size) >>= _) _ _ ⟨h1.push { cls:=.type "AttributeError",data:=.fields #[.ref h.objs.size,.none,.none,.none,.bool false,.none,unsetMember,unsetMember] },g,d,t + 1 + 1,os⟩
 generalize hh2:h1.push { cls:=.type "AttributeError",data:=.fields #[.ref h.objs.size,.none,.none,.none,.bool false,.none,unsetMember,unsetMember] } = h2 at hg k2
 generalize h1.objs.size = e at hg nb
 clear hh2 k1 hh1
 have hT:(⟨h2,g,d,t + 1 + 1,os⟩:Shared).TypeIs (.ref e) "AttributeError":=⟨_,hg,rfl⟩
 refine wpAny_bind ?_
 unfold lacksNameAndObj
 refine wpAny_bind (wpAny_isInstance hT jhp ?_)
 simp only [Bool.not_true,Bool.false_eq_true,if_false]
 refine wpAny_bind (wpAny_load hg ?_)
 show wpAny _ _ (pure true) _ _ _
 refine wpAny_pure ?_
 simp only [if_true]
 refine wpAny_bind (wpAny_rule (wpAny_bind (wpAny_typeOf hT ?_)))
 show wpAny _ _ (layMembers e 6 #[_,u]) _ _ _
 unfold layMembers
 refine wpAny_bind (wpAny_load hg ?_)
 show wpAny _ _ (update e _) _ _ _
 refine wpAny_update hg ?_
 refine wpAny_raiseNew_none hh (hE _ _ _ (fun b o q=>?_) ⟨_,Heap.get?_update_self _ hg rfl,rfl⟩)
 exact (Heap.get?_update_other _ _ (nb b o q).symm).trans (k2 b o q)
theorem jju {tk:Tok} {Q:PySem.Fin→Shared→Prop} {its:Array Value} {n:Nat} (hx:h.get? a = some { cls:=.type "list",dict:=none,data:=.seq its n,slots:=#[] }) (hh:A.handled = none)
  (hE:∀ h' e tk,(∀ b o,h.get? b = some o→h'.get? b = some o)→(∃ o,h'.get? e = some o∧o.cls = .type "AttributeError")→E (.ref e) ⟨h',g,d,tk,os⟩) :
  wpAny (model prog w) A (Builtin.«object.__getattribute__» ⟨[.ref a,.str "keys" tk],[]⟩) Q E ⟨h,g,d,t,os⟩:=by
 have hT:(⟨h,g,d,t,os⟩:Shared).TypeIs (.ref a) "list":=⟨_,hx,rfl⟩
 have f4:=jk0
 repeat (any_goals (first | assumption | wp_step))
 refine jn0 hh (by decide +kernel) hE
theorem jp0 {tk:Tok} {Q:Value→Shared→Prop} {its:Array Value} {n:Nat} (hx:h.get? a = some { cls:=.type "list",dict:=none,data:=.seq its n,slots:=#[] }) (hh:A.handled = none)
  (hE:∀ h' e tk,(∀ b o,h.get? b = some o→h'.get? b = some o)→(∃ o,h'.get? e = some o∧o.cls = .type "AttributeError")→E (.ref e) ⟨h',g,d,tk,os⟩) :
  wpAny (model prog w) A (getAttrBy (.ref a) (.str "keys" tk) false) Q E ⟨h,g,d,t,os⟩:=by
 have hT:(⟨h,g,d,t,os⟩:Shared).TypeIs (.ref a) "list":=⟨_,hx,rfl⟩
 have f2:=F.slot_list_getattribute.lookup
 have f3:=F.slot_list_getattribute.bind (.ref a)
 repeat (any_goals (first | assumption | wp_step))
 refine codeAny_call_builtin F.slot_list_getattribute.plain F.entry_list_ga (F.slot_list_getattribute.check _ _ _ _ _ _ _ _ (show (⟨h,g,d,t,os⟩:Shared).TypeIs (.ref a) "list" from ⟨_,hx,rfl⟩) (F.args_list_getattribute_2 _ _) (jju hx ?_ ?_))
 ·exact hh
 ·intro h' e tk k q
  obtain ⟨oe,he,hc⟩:=q
  have hT2:(⟨h',g,d,tk,os⟩:Shared).TypeIs (.ref e) "AttributeError":=⟨_,he,hc⟩
  have f5:=jhp
  have f6:=jge
  show wpAny _ A (getattributeRaised (Value.ref a) _ (Value.type "list") (.ref e) none false false) _ _ _
  have done:=hE h' e tk k ⟨oe,he,hc⟩
  unfold getattributeRaised
  repeat (any_goals (first | assumption | wp_step))
theorem nokeys {Q:Option Value→Shared→Prop} {its:Array Value} {n:Nat} (hx:h.get? a = some { cls:=.type "list",dict:=none,data:=.seq its n,slots:=#[] }) (hh:A.handled = none)
  (hq:∀ h' tk,(∀ b o,h.get? b = some o→h'.get? b = some o)→Q none ⟨h',g,d,tk,os⟩):wpAny (model prog w) A (getAttr? (.ref a) "keys") Q E ⟨h,g,d,t,os⟩:=by
 unfold getAttr? getAttrBy?
 refine wpAny_bind (wpAny_mkText (wpAny_bind (wpAny_attempt (jp0 hx hh fun h' e tk k q=>?_))))
 obtain ⟨oe,he,hc⟩:=q
 refine wpAny_bind (wpAny_isInstance (T:="AttributeError") (b:=true) ⟨_,he,hc⟩ jhp ?_)
 exact wpAny_pure (hq h' tk k)
end
end L2
namespace L2
open PySem PySem.Spec PyProof.Rows
theorem jct:entryFor table "dict.update.loop" = some Builtin.«dict.update.loop»:=entryFor_of_fast (by kernel_rfl)
theorem jc0:plainId "dict.update.loop" = true:=by decide +kernel
theorem jmx {K:Type} [DecidableEq K] (kvs:List (K × Value)) (k:K) (v:Value):(stored kvs k v).length ≤ kvs.length + 1:=by
 unfold stored
 split
 ·rw [List.length_map]; omega
 ·rw [List.length_append]; exact Nat.le_refl _
section
variable {prog:Program} {w:World} {A:Around} {E:Value→Shared→Prop} {K:Type} [DecidableEq K] {knd:KeyKind prog w K} {R:Result→Shared→Prop}
theorem jpw {d it l:Addr} {its:Array Value} {more:List (K × Value)} (hh:A.handled = none) (hlen:more.length = its.size) (hsz:its.size ≤ 1000) (hdl:l ≠ d) (hdi:it ≠ d) (hil:l ≠ it) :
  ∀ (k i:Nat) (tk0:Tok) (s:Shared) (kvs:List (K × Value)),its.size - i = k→i ≤ its.size→kvs.length ≤ i→s.heap.IsListIter it l i→s.heap.IsList l its→s.heap.DictOf knd d kvs →
   (∀ (j:Nat) (q:K × Value),more[j]? = some q→∃ t kv,its[j]? = some (.ref t)∧s.heap.IsTuple t #[kv,q.2]∧knd.is q.1 kv = true) →
   (∀ h' tk,h'.DictOf knd d (merged kvs (more.drop i))→(∀ b o,b ≠ d→b ≠ it→s.heap.get? b = some o→h'.get? b = some o)→R (.ok (.ret .none)) { s with heap:=h',toks:=tk }) →
   codeAny (model prog w) A (.builtin "dict.update.loop" ⟨[.ref d,.ref it,.int i tk0,.none],[]⟩) R s:=by
 intro k
 induction k with
 | zero =>
  intro i tk0 s kvs hk hi hkl hit hl hd hp hR
  have e:i = its.size:=by omega
  subst e
  refine codeAny_builtin jct ?_
  rw [Around.under_plainId jc0 _]
  show wpAny _ A.in1 (pyNext (.ref it) >>= _) _ _ s
  refine wpAny_bind (wpAny_pyNext_list_end hh hit hl (by simp) fun h' eb=>?_)
  show wpAny _ A.in1 (Builtin.Dict.addKeywords d [] >>= _) _ _ _
  refine wpAny_bind (wpAny_pure (wpAny_pure ?_))
  refine hR h' s.toks ?_ fun b o _ hb q=>eb b o hb q
  rw [List.drop_eq_nil_of_le (by omega)]
  exact hd.extBut eb hdi.symm
 | succ k ih =>
  intro i tk0 s kvs hk hi hkl hit hl hd hp hR
  have hlt:i < its.size:=by omega
  have hlm:i < more.length:=by omega
  obtain ⟨t,kv,hu,ht,hkey⟩:=hp i more[i] (by simp [hlm])
  refine codeAny_builtin jct ?_
  rw [Around.under_plainId jc0 _]
  show wpAny _ A.in1 (pyNext (.ref it) >>= _) _ _ s
  refine wpAny_bind (wpAny_pyNext_list_item hit hl hu fun h1 hit1 sb1=>?_)
  have nti:t ≠ it:=fun z=>by
   subst z
   obtain ⟨o,e1,c1,_⟩:=ht
   obtain ⟨o',e2,c2,_⟩:=hit
   rw [e1] at e2; cases e2; rw [c1] at c2; exact absurd c2 (by decide)
  have ntd:t ≠ d:=fun z=>by
   subst z
   obtain ⟨o,e1,c1,_⟩:=ht
   obtain ⟨o',_,_,e2,c2,_⟩:=hd
   rw [e1] at e2; cases e2; rw [c2.1] at c1; exact absurd c1 (by decide)
  have ht1:h1.IsTuple t #[kv,more[i].2]:=ht.extBut sb1.extBut nti
  have hd1:h1.DictOf knd d kvs:=hd.extBut sb1.extBut hdi.symm
  show wpAny _ A.in1 (holding [.ref t] _ >>= _) _ _ _
  refine wpAny_bind (wpAny_holding ?_)
  refine wpAny_bind (m:=(Builtin.Dict.pairItems (.ref t)).tryCatch _) ?_
  refine wpAny_tryCatch ?_
  unfold Builtin.Dict.pairItems
  refine wpAny_bind (wpAny_typeOf ht1.typeIs ?_)
  obtain ⟨ot,e1,c1,n1,d1⟩:=id ht1
  rw [if_pos (by decide)]
  refine wpAny_bind (wpAny_seqItems e1 d1 ?_)
  refine wpAny_pure ?_
  show wpAny _ A.in1 (holding [kv,more[i].2] (dictSet d kv more[i].2)) _ _ _
  refine wpAny_holding (wpAny_dictSet_pairs hkey hd1 (fun h2 hd2 sb2=>?_) (by have:=(by decide:1000 ≤ sizeLine); omega))
  replace sb2:Heap.SameBut d h1 h2:=sb2
  have kk:∀ b o,b ≠ d→b ≠ it→s.heap.get? b = some o→h2.get? b = some o:=fun b o b1 b2 q=>sb2.extBut b o b1 (sb1.extBut b o b2 q)
  refine wpAny_pure ⟨plainId_quiet jc0 _,?_⟩
  have hik:((i:Int) + 1) = ((i + 1:Nat):Int):=by omega
  show codeAny _ _ (.builtin "dict.update.loop" ⟨[.ref d,.ref it,rawInt ((i:Int) + 1),.none],[]⟩) _ _
  rw [hik]
  refine ih (i + 1) 0 _ (stored kvs more[i].1 more[i].2) (by omega) (by omega) ?_ (hit1.extBut sb2.extBut hdi) ((hl.extBut sb1.extBut hil).extBut sb2.extBut hdl) hd2 ?_ ?_
  ·have:=jmx kvs more[i].1 more[i].2
   omega
  ·intro j q hq
   obtain ⟨t',kv',a1,a2,a3⟩:=hp j q hq
   have n1:t' ≠ it:=fun z=>by
    subst z
    obtain ⟨o,e1,c1,_⟩:=a2
    obtain ⟨o',e2,c2,_⟩:=hit
    rw [e1] at e2; cases e2; rw [c1] at c2; exact absurd c2 (by decide)
   have n2:t' ≠ d:=fun z=>by
    subst z
    obtain ⟨o,e1,c1,_⟩:=a2
    obtain ⟨o',_,_,e2,c2,_⟩:=hd
    rw [e1] at e2; cases e2; rw [c2.1] at c1; exact absurd c1 (by decide)
   exact ⟨t',kv',a1,(a2.extBut sb1.extBut n1).extBut sb2.extBut n2,a3⟩
  ·intro h' tk hd' k'
   refine hR h' tk ?_ fun b o b1 b2 q=>k' b o b1 b2 (kk b o b1 b2 q)
   rw [List.drop_eq_getElem_cons hlm]
   exact hd'
theorem jh2 {l:Addr} {its:Array Value} {c:Nat} {more:List (K × Value)} {s:Shared} {Q:Value→Shared→Prop} (hh:A.handled = none) (hl:s.heap.get? l = some { cls:=.type "list",dict:=none,data:=.seq its c,slots:=#[] }) (hlen:more.length = its.size) (hsz:its.size ≤ 1000)
  (hp:∀ (j:Nat) (q:K × Value),more[j]? = some q→∃ t kv,its[j]? = some (.ref t)∧s.heap.IsTuple t #[kv,q.2]∧knd.is q.1 kv = true)
  (h:∀ h' tk,h'.DictOf knd s.heap.objs.size (merged [] more)→(∀ b o,s.heap.get? b = some o→h'.get? b = some o)→Q (.ref s.heap.objs.size) { s with heap:=h',toks:=tk }) :
  wpAny (model prog w) A (call (.type "dict") [.ref l]) Q E s:=by
 refine callType_codes (Q₁:=fun obj s₁=>obj = .ref s.heap.objs.size∧s₁ = { s with heap:=s.heap.push { cls:=.type "dict",data:=.dict #[] } }) F.kt_called_dict (F.kt_typeCall_dict_1 _) F.entry_dict_init (kt_code_dict_new _ ⟨rfl,rfl⟩) ?_
 rintro obj s₁ ⟨rfl,rfl⟩
 have hnew:(s.heap.push { cls:=.type "dict",data:=.dict #[] }).DictOf knd s.heap.objs.size []:=Heap.DictOf.new s.heap
 have hl1:(s.heap.push { cls:=.type "dict",data:=.dict #[] }).get? l = some { cls:=.type "list",dict:=none,data:=.seq its c,slots:=#[] }:=Heap.get?_push_of_some _ hl
 have k1:∀ b o,s.heap.get? b = some o→(s.heap.push { cls:=.type "dict",data:=.dict #[] }).get? b = some o:=fun b o q=>Heap.get?_push_of_some _ q
 have llt:l < s.heap.objs.size:=Heap.lt_size hl
 generalize s.heap.push { cls:=.type "dict",data:=.dict #[] } = h1 at hnew hl1 k1
 refine ⟨hnew.typeIs,F.args_dict_init_2 _ _,?_⟩
 unfold Builtin.«dict.__init__»
 refine wpAny_bind ?_
 unfold Builtin.Dict.selfAndRest
 refine wpAny_bind (wpAny_notOrdered_dict hnew.typeIs ?_)
 show wpAny _ _ (pure (s.heap.objs.size,[Value.ref l])) _ _ _
 refine wpAny_pure ?_
 show wpAny _ _ (Builtin.Dict.updateFrom "dict.__init__" s.heap.objs.size (.ref l) [] .none) _ _ _
 unfold Builtin.Dict.updateFrom
 refine wpAny_bind (wpAny_typeOf (T:="list") ⟨_,hl1,rfl⟩ ?_)
 rw [if_pos (by decide)]
 refine wpAny_bind (nokeys hl1 hh fun h2 tk2 k2=>?_)
 have hl2:=k2 _ _ hl1
 have hd2:h2.DictOf knd s.heap.objs.size []:=let ⟨o,es,ep,ho,r⟩:=hnew; ⟨o,es,ep,k2 _ _ ho,r⟩
 have dlt:s.heap.objs.size < h2.objs.size:=by obtain ⟨_,_,_,ho,_⟩:=hd2; exact Heap.lt_size ho
 simp only [Option.isNone_none,if_true]
 refine wpAny_bind (wpAny_rule ?_)
 have hL:Heap.IsList h2 l its:=⟨_,hl2,rfl,_,rfl⟩
 refine wpAny_bind (wpAny_pyIter_list (s:={ s with heap:=h2,toks:=tk2 }) hL ?_)
 refine wpAny_pure ⟨plainId_quiet jc0 _,?_⟩
 have hit:(h2.push { cls:=.type "list_iterator",data:=.fields #[.ref l,.int 0 0] }).IsListIter h2.objs.size l 0:=⟨_,Heap.get?_push_size _ rfl,rfl,rfl⟩
 refine jpw (A:=A.in1) (knd:=knd) (more:=more) hh hlen hsz (Nat.ne_of_lt llt) (Nat.ne_of_gt dlt) (Nat.ne_of_lt (Nat.lt_trans llt dlt)) its.size 0 0 { s with heap:=h2.push { cls:=.type "list_iterator",data:=.fields #[.ref l,.int 0 0] },toks:=tk2 } [] rfl (Nat.zero_le _) (Nat.le_refl _) hit (hL.push _) (hd2.push _) ?_ ?_
 ·intro j q hq
  obtain ⟨t,kv,a1,a2,a3⟩:=hp j q hq
  obtain ⟨o,e,r⟩:=a2
  exact ⟨t,kv,a1,⟨o,Heap.get?_push_of_some _ (k2 _ _ (k1 _ _ e)),r⟩,a3⟩
 ·intro h' tk hd' k'
  rw [List.drop_zero] at hd'
  refine ⟨rfl,h h' tk hd' fun b o q=>k' b o (Nat.ne_of_lt (Heap.lt_size q)) (Nat.ne_of_lt (Heap.lt_size (k2 _ _ (k1 _ _ q)))) (Heap.get?_push_of_some _ (k2 _ _ (k1 _ _ q)))⟩
end
def PairAt (H:Hp) (v:V) (p:Key × V):Prop:=∃ t,v = .ref t∧H t = some (.tup [kV p.1,p.2])
def rDictL (K:PySem.W.Frag):List V→Hp→VK→Prop:=fun vs H Q=>∃ l xs kvs,vs = [.ref l]∧H l = some (.lst xs)∧Paired (PairAt H) xs kvs∧xs.length ≤ 1000∧(kvs.map (·.1)).Nodup∧∀ d,H d = none→Q (.ref d) (upd H d (.dK kvs))
theorem jhb {X:Cx} {pins:List (Addr × Obj)} {σ:St} {H:Hp} {s:Shared} (I:Inv X pins σ H s):∀ {xs:List V} {kvs:List (Key × V)} {its:List Value},Paired (PairAt H) xs kvs→Vals xs its →
  ∃ more:List (Key × Value),KV kvs more∧∀ (j:Nat) (q:Key × Value),more[j]? = some q→∃ t kv,its[j]? = some (.ref t)∧s.heap.IsTuple t #[kv,q.2]∧(jbx X.prog X.w).is q.1 kv = true
 | _,_,_,.nil,.nil=>⟨[],.nil,fun j q h=>by simp at h⟩
 | _,_,_,.cons hp tp,.cons rv tr=>by
  obtain ⟨more,hk,hm⟩:=jhb I tp tr
  obtain ⟨t,rfl,ht⟩:=hp
  cases rv
  obtain ⟨_,its',rt,hi⟩:=I.hok t _ ht
  obtain ⟨u1,u2,rfl,r1,r2⟩:=rt.two
  refine ⟨(_,u2) :: more,.cons ⟨rfl,r2⟩ hk,fun j q h=>?_⟩
  cases j with
  | zero =>
   simp at h
   subst h
   exact ⟨t,u1,rfl,hi,jil r1⟩
  | succ j =>
   obtain ⟨t',kv,a1,a2,a3⟩:=hm j q (by simpa using h)
   exact ⟨t',kv,by simpa using a1,a2,a3⟩
theorem jnl {X:Cx} (hc:X.calm = true):jcr X (.type "dict") (rDictL X.K):=by
 intro pins s σ H vs us Q I rv h
 obtain ⟨l,xs,kvs,rfl,hl,hp,hz,hn,q⟩:=h
 obtain ⟨u,rfl,ru⟩:=rv.one
 cases ru
 obtain ⟨z,its,n,r,hlen,e⟩:=I.lstM hl
 obtain ⟨more,hkv,hm⟩:=jhb I hp r
 have hlm:kvs.length = more.length:=Paired.length hkv
 have hlx:xs.length = kvs.length:=Paired.length hp
 refine jh2 (knd:=jbx X.prog X.w) (more:=more) (I.ok.hd hc) e (by rw [List.size_toArray]; omega) (by rw [List.size_toArray]; omega) (fun j q hj=>?_) fun h' tk dd k=>?_
 ·obtain ⟨t,kv,a1,a2,a3⟩:=hm j q hj
  exact ⟨t,kv,by simpa using a1,a2,a3⟩
 ·refine ⟨.ref s.heap.objs.size,upd H s.heap.objs.size (.dK kvs),I.laid k (Nat.le_refl _) ?_,rfl,q _ I.fresh⟩
  rw [merged_nil_of_nodup more (by rw [← hkv.keys]; exact hn)] at dd
  exact jpv (by have:=(by decide:1000 ≤ sizeLine); omega) (by have:=I.big; exact beq_false_of_ne (Nat.ne_of_gt this)) hkv dd
end L2
namespace L2
open PySem PySem.Spec PyProof.Rows
inductive Knd (H:Hp):V→String→Prop where
 | non:Knd H .non "NoneType"
 | bl {x:Bool}:Knd H (.bl x) "bool"
 | int {i:Int}:Knd H (.int i) "int"
 | str {x:Str}:Knd H (.str x) "str"
 | lst {a:Addr} {xs:List V} (e:H a = some (.lst xs)):Knd H (.ref a) "list"
 | tup {a:Addr} {xs:List V} (e:H a = some (.tup xs)):Knd H (.ref a) "tuple"
 | dK {a:Addr} {kvs:List (Key × V)} (e:H a = some (.dK kvs)):Knd H (.ref a) "dict"
theorem Knd.ty {K:PySem.W.Frag} {H:Hp} {v:V} {n:String} (h:Knd H v n):TyOf K H v (.type n):=by
 cases h with
 | non=>exact .non
 | bl=>exact .bl _
 | int=>exact .int _
 | str=>exact .str _
 | lst e=>exact .lst e
 | tup e=>exact .tup e
 | dK e=>exact .dK e
def isiK (a b:String):Bool:=a == b || (a == "bool" && b == "int")
def jii:List String:=["NoneType","bool","int","str","list","tuple","dict"]
theorem jtp {K:PySem.W.Frag}:∀ a ∈ jii,∀ b ∈ jii,PySem.W.kitOne K (.type a) (.type b) = some (isiK a b):=by
 intro a ha b hb
 have ha':a = "NoneType" ∨ a = "bool" ∨ a = "int" ∨ a = "str" ∨ a = "list" ∨ a = "tuple" ∨ a = "dict":=by simpa [jii] using ha
 have hb':b = "NoneType" ∨ b = "bool" ∨ b = "int" ∨ b = "str" ∨ b = "list" ∨ b = "tuple" ∨ b = "dict":=by simpa [jii] using hb
 rcases ha' with rfl | rfl | rfl | rfl | rfl | rfl | rfl <;> rcases hb' with rfl | rfl | rfl | rfl | rfl | rfl | rfl <;> rfl
def rIsi:List V→Hp→VK→Prop:=fun vs H Q=>∃ x n T,vs = [x,.ty T]∧Knd H x n∧T ∈ jii∧Q (.bl (isiK n T)) H
theorem Knd.mem {H:Hp} {v:V} {n:String} (h:Knd H v n):n ∈ jii:=by cases h <;> simp [jii]
theorem jrs {X:Cx}:jcr X (.builtin "isinstance") rIsi:=by
 intro pins s σ H vs us Q I rv h
 obtain ⟨x,n,T,rfl,hk,hT,q⟩:=h
 obtain ⟨u1,u2,rfl,r1,r2⟩:=rv.two
 cases (show u2 = Value.type T from r2)
 exact jpi I r1 hk.ty (jtp n hk.mem T hT) fun tk=>⟨.bl _,H,I.tok tk,rfl,q⟩
end L2
namespace L2
open PySem PySem.Spec PyProof.Rows
section
variable {X:Cx} {e a b c o i:Expr} {es:List Expr} {t t' ta tb tc td te:TE} {pos p p2:Pos}
theorem PE.imp (h:PE X e t) (hi:∀ σ H Q,t' σ H Q→t σ H Q):PE X e t':=fun pins s σ H Q I q=>h pins s σ H Q I (hi σ H Q q)
theorem PG.imp {t t':TG} (h:PG X e t) (hi:∀ v σ H Q,t' v σ H Q→t v σ H Q):PG X e t':=fun pins s σ H v u Q I r q=>h pins s σ H v u Q I r (hi v σ H Q q)
theorem PGs.imp {t t':TGs} (h:PGs X es t) (hi:∀ v σ H Q,t' v σ H Q→t v σ H Q):PGs X es t':=fun pins s σ H v u Q I r q=>h pins s σ H v u Q I r (hi v σ H Q q)
theorem OpR.imp {f:Value→Value→Sem Value} {r r':R2} (h:OpR X f r) (hi:∀ x y H Q,r' x y H Q→r x y H Q):OpR X f r':=fun pins s σ H x y v u Q I rx ry q=>h pins s σ H x y v u Q I rx ry (hi x y H Q q)
theorem jcr.imp {f:Value} {r r':List V→Hp→VK→Prop} (h:jcr X f r) (hi:∀ vs H Q,r' vs H Q→r vs H Q):jcr X f r':=fun pins s σ H xs us Q I rv q=>h pins s σ H xs us Q I rv (hi xs H Q q)
theorem IxR.imp {r r':R2} (h:IxR X r) (hi:∀ x y H Q,r' x y H Q→r x y H Q):IxR X r':=fun value slice pins s σ H x y v u Q I rx ry q hs=>h value slice pins s σ H x y v u Q I rx ry (hi x y H Q q) hs
theorem MtR.imp {id:String} {r r':V→List V→Hp→VK→Prop} (h:MtR X id r) (hi:∀ x vs H Q,r' x vs H Q→r x vs H Q):MtR X id r':=fun pins s σ H x xs v us Q I rx rv q=>h pins s σ H x xs v us Q I rx rv (hi x xs H Q q)
theorem PSet.imp {t t':TSet} (h:PSet X t) (hi:∀ o i v H Q,t' o i v H Q→t o i v H Q):PSet X t':=fun pins s σ H o i v ov iv u Q I r1 r2 r3 q=>h pins s σ H o i v ov iv u Q I r1 r2 r3 (hi o i v H Q q)
theorem SlR.imp {r r':V→Option Int→Option Int→Hp→VK→Prop} (h:SlR X r) (hi:∀ x l u H Q,r' x l u H Q→r x l u H Q):SlR X r':=fun pins s σ H x v vl vu lo hi' sl Q I rx hs pl pu q=>h pins s σ H x v vl vu lo hi' sl Q I rx hs pl pu (hi x lo hi' H Q q)
def fVar (i:Nat):TE:=fun σ H Q=>match σ[i]? with
 | some (some v)=>Q v H
 | _=>False
theorem qv (i:Nat) {x:Str} {pos:Pos} (hN:X.N[i]? = some x:=by rfl) (hv:Vis X.env.scope x:=by first | exact Or.inl rfl | exact Or.inr (Or.inl rfl) | exact Or.inr (Or.inr rfl)) (hd:(x == ("__debug__":Str)) = false:=by decide)
  (hcd:(x == ("__classdict__":Str)) = false:=by decide):PE X (.Name x pos) (fVar i):=(jsb hN hv hd hcd).imp fun σ H Q q=>by
 unfold fVar at q
 split at q
 ·rename_i v e; exact ⟨v,e,q⟩
 ·exact q.elim
def fI (g:Int→Int→V):R2:=fun x y H Q=>match x,y with
 | .int i,.int j=>Q (g i j) H
 | _,_=>False
def fIC (C:Int→Int→Prop) (g:Int→Int→V):R2:=fun x y H Q=>match x,y with
 | .int i,.int j=>C i j∧Q (g i j) H
 | _,_=>False
theorem fI.r {g:Int→Int→V} {x y:V} {H:Hp} {Q:VK} (h:fI g x y H Q):rI0 g x y H Q:=by
 unfold fI at h
 split at h
 ·exact ⟨_,_,rfl,rfl,h⟩
 ·exact h.elim
theorem fIC.r {C:Int→Int→Prop} {g:Int→Int→V} {x y:V} {H:Hp} {Q:VK} (h:fIC C g x y H Q):rI C g x y H Q:=by
 unfold fIC at h
 split at h
 ·exact ⟨_,_,rfl,rfl,h.1,h.2⟩
 ·exact h.elim
theorem jd3:OpR X (binaryOp .Add) (fI fun i j=>.int (i + j)):=op_add.imp fun _ _ _ _=>fI.r
theorem jt0:OpR X (binaryOp .Sub) (fI fun i j=>.int (i - j)):=op_sub.imp fun _ _ _ _=>fI.r
theorem jhz:OpR X (binaryOp .Mult) (fIC CMul fun i j=>.int (i * j)):=op_mul.imp fun _ _ _ _=>fIC.r
theorem jks:OpR X (binaryOp .Mod) (fIC (fun _ j=>0 < j) fun i j=>.int (i % j)):=op_mod.imp fun _ _ _ _=>fIC.r
theorem jsa:OpR X (binaryOp .FloorDiv) (fIC CDiv fun i j=>.int (i / j)):=jte.imp fun _ _ _ _=>fIC.r
theorem jt1:OpR X (binaryOp .Pow) (fIC CPow fun i j=>.int (i ^ j.toNat)):=op_pow.imp fun _ _ _ _=>fIC.r
theorem q_lt:OpR X (compareOp .Lt) (fI fun i j=>.bl (decide (i < j))):=op_lt.imp fun _ _ _ _=>fI.r
theorem q_le:OpR X (compareOp .LtE) (fI fun i j=>.bl (decide (i ≤ j))):=op_le.imp fun _ _ _ _=>fI.r
theorem q_gt:OpR X (compareOp .Gt) (fI fun i j=>.bl (decide (i > j))):=op_gt.imp fun _ _ _ _=>fI.r
theorem q_ge:OpR X (compareOp .GtE) (fI fun i j=>.bl (decide (i ≥ j))):=op_ge.imp fun _ _ _ _=>fI.r
theorem jm2:PIp X .Add (fI fun i j=>.int (i + j)):=fun pins s σ H x y v u Q I rx ry q=>jtx pins s σ H x y v u Q I rx ry q.r
def fNeg:V→Hp→VK→Prop:=fun x H Q=>match x with
 | .int i=>Q (.int (-i)) H
 | _=>False
theorem jgu:UnR X (unaryOp .USub) fNeg:=fun pins s σ H x v Q I rx q=>by
 cases x <;> first
  | exact False.elim q
  | exact un_neg pins s σ H _ v Q I rx ⟨_,rfl,q⟩
def fEq:R2:=fun x y H Q=>match x,y with
 | .int i,.int j=>Q (.bl (decide (i = j))) H
 | .bl i,.bl j=>Q (.bl (decide (i = j))) H
 | .str i,.str j=>Q (.bl (decide (i = j))) H
 | _,_=>False
def fNe:R2:=fun x y H Q=>match x,y with
 | .int i,.int j=>Q (.bl (!decide (i = j))) H
 | .bl i,.bl j=>Q (.bl (!decide (i = j))) H
 | .str i,.str j=>Q (.bl (!decide (i = j))) H
 | _,_=>False
theorem dI (i j:Int):decide (V.int i = V.int j) = decide (i = j):=by simp
theorem dB (i j:Bool):decide (V.bl i = V.bl j) = decide (i = j):=by simp
theorem dS (i j:Str):decide (V.str i = V.str j) = decide (i = j):=by simp
theorem q_eq:OpR X (compareOp .Eq) fEq:=op_eq.imp fun x y H Q h=>by
 unfold fEq at h
 split at h
 ·exact ⟨rfl,by rw [dI]; exact h⟩
 ·exact ⟨rfl,by rw [dB]; exact h⟩
 ·exact ⟨rfl,by rw [dS]; exact h⟩
 ·exact h.elim
theorem q_ne:OpR X (compareOp .NotEq) fNe:=op_ne.imp fun x y H Q h=>by
 unfold fNe at h
 split at h
 ·exact ⟨rfl,by rw [dI]; exact h⟩
 ·exact ⟨rfl,by rw [dB]; exact h⟩
 ·exact ⟨rfl,by rw [dS]; exact h⟩
 ·exact h.elim
def jal:V→Bool
 | .non=>true
 | _=>false
def fIsN (f:Bool→Bool):R2:=fun x y H Q=>match y with
 | .non=>Q (.bl (f (jal x))) H
 | _=>False
theorem dN (x:V):decide (x = V.non) = jal x:=by cases x <;> simp [jal]
theorem q_notN:OpR X (compareOp .IsNot) (fIsN not):=jtd.imp fun x y H Q h=>by
 unfold fIsN at h
 split at h
 ·exact ⟨rfl,by rw [dN]; exact h⟩
 ·exact h.elim
def fAnd (ta tb:TE):TE:=fun σ H Q=>ta σ H fun x H1=>match x with
 | .bl c=>if c = true then tb σ H1 Q else Q (.bl false) H1
 | _=>False
def fOr (ta tb:TE):TE:=fun σ H Q=>ta σ H fun x H1=>match x with
 | .bl c=>if c = true then Q (.bl true) H1 else tb σ H1 Q
 | _=>False
def fNot (ta:TE):TE:=fun σ H Q=>ta σ H fun x H1=>match x with
 | .bl c=>Q (.bl (!c)) H1
 | _=>False
def fB (t:TE):TT:=fun σ H Q=>t σ H fun x H1=>match x with
 | .bl c=>Q c H1
 | _=>False
variable {rest:List Expr}
theorem ji2 (ha:PE X a ta) (hb:PE X (.BoolOp .And (b :: rest) pos) tb):PE X (.BoolOp .And (a :: b :: rest) pos) (fAnd ta tb):=by
  intro pins s σ H Q I h
  refine BoolOp_and (thn (ha pins s σ H _ I h) fun v s1 ⟨x,H1,I1,r1,q1⟩=>?_)
  cases x <;> first
    | exact False.elim q1
    | (rename_i c
       cases r1
       refine wpAny_truthy_bool ?_
       cases c with
       | true=>exact hb pins s1 σ H1 Q I1 q1
       | false=>exact ⟨.bl false,H1,I1,rfl,q1⟩)
theorem q_not (ha:PE X a ta):PE X (.UnaryOp .Not a pos) (fNot ta):=by
  intro pins s σ H Q I h
  refine UnaryOp_ (thn (ha pins s σ H _ I h) fun v s1 ⟨x,H1,I1,r1,q1⟩=>?_)
  cases x <;> first
    | exact False.elim q1
    | (rename_i c
       cases r1
       exact not_of (wpAny_truthy_bool ⟨.bl (!c),H1,I1,rfl,q1⟩))
theorem jfa {t:TE} (h:PE X e t) (he:∀ whole,isTrue e X.env whole = (do let v ← whole; standAt e.pos; holding [v] (truthy v)):=by intro _; rfl):PT X e (fB t):=by
  intro pins s σ H Q I hw
  refine isTrue_plain (thn (h pins s σ H _ I hw) fun v s1 ⟨x,H1,I1,r1,q1⟩=>?_) (he _)
  cases x <;> first
    | exact False.elim q1
    | (cases r1
       exact wpAny_truthy_bool ⟨H1,I1,q1⟩)
theorem jd7 {op:CmpOp} {r:R2} (ho:OpR X (compareOp op) r) (ha:PE X a ta) (hb:PE X b tb) (hm:behindInMarks op b = false):PT X (.Compare a [op] [b] pos) (fB (tOp r ta tb)):=by
  intro pins s σ H Q I h
  refine wpAny_isTrue_Compare1 (thn (ha pins s σ H _ I h) fun v s1 ⟨x,H1,I1,r1,q1⟩=>thn (hb pins s1 σ H1 _ I1 q1) fun u s2 ⟨y,H2,I2,r2,q2⟩ =>
    thn (ho pins s2 σ H2 x y v u _ I2 r1 r2 q2) fun c s3 ⟨z,H3,I3,r3,q3⟩=>?_) hm
  cases z <;> first
    | exact False.elim q3
    | (cases r3
       exact wpAny_truthy_bool ⟨H3,I3,q3⟩)
theorem jqs {op:CmpOp} {t:TE} (h:PC X op a b t) (h1:behindInMarks op b = false:=by first | exact jid _ (by decide) (by decide) | rfl):PT X (.Compare a [op] [b] pos) (fB t):=by
  intro pins s σ H Q I hw
  refine wpAny_isTrue_Compare1 (thn (h pins s σ H _ I hw) fun v s1 h1=>thn h1 fun u s2 h2=>thn h2 fun c s3 ⟨x,H1,I1,r1,q1⟩=>?_) h1
  cases x <;> first
    | exact False.elim q1
    | (cases r1
       exact wpAny_truthy_bool ⟨H1,I1,q1⟩)
def jab (r r':R2) (ta tb tc:TE):TE:=fun σ H Q=>ta σ H fun x H1=>tb σ H1 fun y H2=>r x y H2 fun z H3=>match z with
 | .bl k=>(if k = true then tc σ H3 fun w' H4=>r' y w' H4 Q else Q (.bl false) H3)
 | _=>False
theorem joo {op op':CmpOp} {g:Int→Int→Bool} {r':R2} (ho:OpR X (compareOp op) (fI fun i j=>.bl (g i j))) (ho':OpR X (compareOp op') r') (ha:PE X a ta) (hb:PE X b tb) (hc:PE X c tc)
  (hm:lastMarks [op,op'] [b,c] = false:=by with_unfolding_all rfl):PE X (.Compare a [op,op'] [b,c] pos) (jab (fI fun i j=>.bl (g i j)) r' ta tb tc):=by
 intro pins s σ H Q I h
 refine Compare_chain (thn (ha pins s σ H _ I h) fun v s1 ⟨x,H1,I1,r1,q1⟩=>chain_link (thn (hb pins s1 σ H1 _ I1 q1) fun u s2 ⟨y,H2,I2,r2,q2⟩ =>
  thn (ho pins s2 σ H2 x y v u (fun z H3=>∃ k,z = .bl k∧(if k = true then tc σ H3 fun w' H4=>r' y w' H4 Q else Q (.bl false) H3)) I2 r1 r2 ?_) fun d s3 ⟨z,H3,I3,r3,k,e,q3⟩=>?_)) hm
 ·dsimp only at q2
  unfold fI at q2 ⊢
  cases x <;> cases y <;> first
   | exact q2.elim
   | exact ⟨_,rfl,q2⟩
 ·subst e
  cases r3
  refine wpAny_truthy_bool ?_
  cases k with
  | false=>exact ite_ff ⟨.bl false,H3,I3,rfl,q3⟩
  | true=>exact ite_tt (chain_last (thn (hc pins s3 σ H3 _ I3 q3) fun w' s4 ⟨z',H4,I4,r4,q4⟩=>ho' pins s4 σ H4 y z' u w' Q I4 r2 r4 q4))
def jbo (H:Hp) (p:Addr):Option (List V):=match H p with
 | some (.lst xs)=>some xs
 | some (.tup xs)=>some xs
 | some (.frz _ (.lst xs))=>some xs
 | _=>none
theorem jhu {K:PySem.W.Frag} {H:Hp} {p:Addr} {xs:List V} (h:jbo H p = some xs):SqL K H p xs ∨ SqT K H p xs:=by
 unfold jbo at h
 split at h
 ·rename_i ys e; cases h; exact .inl (.inl (.inl e))
 ·rename_i ys e; cases h; exact .inr (SqT.of e)
 ·rename_i o ys e; cases h; exact .inl (.inl (.inr ⟨_,e⟩))
 ·cases h
def fIx:R2:=fun x y H Q=>match x,y with
 | .ref p,.int i=>match jbo H p with
  | some xs=>match atI xs i with
   | some v=>Q v H
   | none=>False
  | none=>False
 | _,_=>False
theorem q_ix:IxR X fIx:=(jpe.or ix_tup).imp fun x y H Q h=>by
 unfold fIx at h
 split at h
 ·split at h
  ·rename_i xs e
   split at h
   ·rename_i v ev
    rcases jhu (K:=X.K) e with z | z
    ·exact .inl ⟨_,_,_,_,rfl,rfl,z,ev,h⟩
    ·exact .inr ⟨_,_,_,_,rfl,rfl,z,ev,h⟩
   ·exact h.elim
  ·exact h.elim
 ·exact h.elim
def fLen:List V→Hp→VK→Prop:=fun vs H Q=>match vs with
 | [.ref p]=>match jbo H p with
  | some xs=>Q (.int xs.length) H
  | none=>False
 | _=>False
theorem ji0:jcr X (.builtin "len") fLen:=jdt.imp fun vs H Q h=>by
 unfold fLen at h
 split at h
 ·split at h
  ·rename_i xs e; exact ⟨_,xs,rfl,jhu e,h⟩
  ·exact h.elim
 ·exact h.elim
def ja2:List V→Hp→VK→Prop:=fun vs H Q=>match vs with
 | [.ref p]=>match jbo H p with
  | some xs=>∀ l,H l = none→Q (.ref l) (upd H l (.lst xs))
  | none=>False
 | _=>False
theorem jm1:jcr X (.type "list") ja2:=jkd.imp fun vs H Q h=>by
 unfold ja2 at h
 split at h
 ·split at h
  ·rename_i xs e; exact ⟨_,xs,rfl,jhu e,h⟩
  ·exact h.elim
 ·exact h.elim
def fMin:List V→Hp→VK→Prop:=fun vs H Q=>match vs with
 | [.int i,.int j]=>Q (.int (if j < i then j else i)) H
 | _=>False
theorem q_min (hc:X.calm = true):jcr X (.builtin "min") fMin:=(jq6 hc).imp fun vs H Q h=>by
 unfold fMin at h
 split at h
 ·exact ⟨_,_,rfl,h⟩
 ·exact h.elim
def fSlL:V→Option Int→Option Int→Hp→VK→Prop:=fun x lo hi H Q=>match x with
 | .ref a=>match H a with
  | some (.lst xs)=>∀ p,H p = none→Q (.ref p) (upd H p (.lst (cutV xs lo hi)))
  | _=>False
 | _=>False
theorem jqt:SlR X fSlL:=jsy.imp fun x l u H Q h=>by
 unfold fSlL at h
 split at h
 ·split at h
  ·rename_i xs e; exact ⟨_,xs,rfl,SqL.of e,h⟩
  ·exact h.elim
 ·exact h.elim
def ja3:V→List V→Hp→VK→Prop:=fun x vs H Q=>match x,vs with
 | .ref l,[y]=>match H l with
  | some (.lst xs)=>xs.length < sizeLine∧Q .non (upd H l (.lst (xs ++ [y])))
  | _=>False
 | _,_=>False
theorem jch:MtR X "list.append" ja3:=MtR.imp (r:=jon) (fun pins s σ H x xs v us Q I rx rv q=>jjw pins s σ H x xs v us Q I rx rv q) fun x vs H Q h=>by
 unfold ja3 at h
 split at h
 ·split at h
  ·rename_i xs e; exact ⟨_,xs,_,rfl,rfl,e,h.1,h.2⟩
  ·exact h.elim
 ·exact h.elim
def fBM (r:V→List V→Hp→VK→Prop) (to:TE) (t:TA):TE:=fun σ H Q=>to σ H fun x H1=>(∃ a xs,x = .ref a∧H1 a = some (.lst xs))∧t σ H1 fun xs H2=>r x xs H2 Q
def jao:TSet:=fun o i v H Q=>match o,i with
 | .ref p,.int k=>match H p with
  | some (.lst xs)=>match ixN xs.length k with
   | some j=>Q (upd H p (.lst (xs.set j v)))
   | none=>False
  | _=>False
 | _,_=>False
theorem jh7:PSet X jao:=jqn.imp fun o i v H Q h=>by
 unfold jao at h
 split at h
 ·split at h
  ·rename_i xs e
   split at h
   ·rename_i j ej; exact ⟨_,xs,_,j,rfl,rfl,e,ej,h⟩
   ·exact h.elim
  ·exact h.elim
 ·exact h.elim
def jar:TGs:=fun vs σ H Q=>match vs with
 | []=>Q σ H
 | _=>False
def ja6 (t:TG) (u:TGs):TGs:=fun vs σ H Q=>match vs with
 | v :: r=>t v σ H fun σ' H'=>u r σ' H' Q
 | []=>False
theorem jc9:PGs X [] jar:=jt8.imp fun v σ H Q h=>by
 unfold jar at h
 split at h
 ·exact ⟨rfl,h⟩
 ·exact h.elim
theorem jbd {t:TG} {u:TGs} (h1:PG X e t) (h2:PGs X es u) (hs:(assignEach (e :: es) X.env).map (·.2) = assign e X.env :: (assignEach es X.env).map (·.2):=by rfl):PGs X (e :: es) (ja6 t u):=(jqz h1 h2 hs).imp fun v σ H Q h=>by
 unfold ja6 at h
 split at h
 ·exact ⟨_,_,rfl,h⟩
 ·exact h.elim
def jaq (n:Nat) (t:TGs):TG:=fun v σ H Q=>match v with
 | .ref a=>match H a with
  | some (.tup xs)=>xs.length = n∧t xs σ H Q
  | _=>False
 | _=>False
theorem jcw {k:Nat} {t:TGs} {n:Nat} (hc:X.calm = true) (h:PGs X es t) (hn:(assignEach es X.env).length = n:=by rfl) (hst:(assignEach es X.env).findIdx? (·.1) = none:=by rfl):PG X (.Tuple es k pos) (jaq n t) :=
 (pg_tup hc h hn hst).imp fun v σ H Q q=>by
  unfold jaq at q
  split at q
  ·split at q
   ·rename_i xs e; exact ⟨_,xs,rfl,SqT.of e,q.1,q.2⟩
   ·exact q.elim
  ·exact q.elim
def fDIn (f:Bool→Bool) (ty td:TE):TE:=fun σ H Q=>ty σ H fun y H1=>td σ H1 fun x H2=>match y,x with
 | .int n,.ref a=>match H2 a with
  | some (.dK kvs)=>Q (.bl (f (valV kvs (Sum.inl n:Key)).isSome)) H2
  | _=>False
 | _,_=>False
def jaz (td ty:TE):TE:=fun σ H Q=>td σ H fun x H1=>ty σ H1 fun y H2=>match x,y with
 | .ref a,.int n=>match H2 a with
  | some (.dK kvs)=>match valV kvs (Sum.inl n:Key) with
   | some v=>Q v H2
   | none=>False
  | _=>False
 | _,_=>False
end
section
variable {X:Cx} {o i:Expr} {td ty:TE} {pos:Pos}
theorem jsk {f:Bool→Bool} {H2:Hp} {Q:VK} {y x:V} (h:(match y,x with
  | .int n,.ref a=>match H2 a with
    | some (.dK kvs)=>Q (.bl (f (valV kvs (Sum.inl n:Key)).isSome)) H2
    | _=>False
  | _,_=>False)):∃ a ov,x = .ref a∧DGet H2 a y ov∧Q (.bl (f ov.isSome)) H2:=by
  cases y <;> cases x <;> first
    | exact h.elim
    | (rename_i n a
       dsimp only at h
       split at h
       · rename_i kvs e; exact ⟨a,_,rfl,DGet.k (k:=Sum.inl n) e,h⟩
       · exact h.elim)
theorem jqv (hu:X.A.units + 1 < cLine) (hi:PE X i ty) (ho:PE X o td):PC X .In i o (fDIn id ty td):=by
 intro pins s σ H Q I h
 refine thn (hi pins s σ H _ I h) fun iv s1 ⟨y,H1,I1,ry,q1⟩=>thn (ho pins s1 σ H1 _ I1 q1) fun u s2 ⟨x,H2,I2,rx,q2⟩=>?_
 obtain ⟨a,ov,ex,g,q3⟩:=jsk q2
 subst ex
 obtain rfl:u = Value.ref a:=rx
 exact d_in hu I2 g ry fun s' I3=>⟨.bl ov.isSome,H2,I3,rfl,q3⟩
theorem jm4 (hu:X.A.units + 1 < cLine) (hi:PE X i ty) (ho:PE X o td):PC X .NotIn i o (fDIn not ty td):=by
 intro pins s σ H Q I h
 refine thn (hi pins s σ H _ I h) fun iv s1 ⟨y,H1,I1,ry,q1⟩=>thn (ho pins s1 σ H1 _ I1 q1) fun u s2 ⟨x,H2,I2,rx,q2⟩=>?_
 obtain ⟨a,ov,ex,g,q3⟩:=jsk q2
 subst ex
 obtain rfl:u = Value.ref a:=rx
 exact ju7 hu I2 g ry fun s' I3=>⟨.bl (!ov.isSome),H2,I3,rfl,q3⟩
theorem jd2 (hu:X.A.units + 1 < cLine) (ho:PE X o td) (hi:PE X i ty) (hs:NoSl i):PE X (.Subscript o i pos) (jaz td ty):=by
  intro pins s σ H Q I h
  refine jsx PySem.F.slot_dict_getitem.lookup hs (thn (ho pins s σ H _ I h) fun u s1 ⟨x,H1,I1,rx,q1⟩=>thn (hi pins s1 σ H1 _ I1 q1) fun iv s2 ⟨y,H2,I2,ry,q2⟩=>?_)
  cases x <;> cases y <;> first
    | exact False.elim q2
    | (dsimp only at q2
       split at q2
       · rename_i kvs e
         split at q2
         · rename_i v ev
           cases rx
           have g:∀ {a:Addr} {n:Int},H2 a = some (.dK kvs)→valV kvs (Sum.inl n:Key) = some v→DGet H2 a (.int n) (some v):=fun e1 e2=>e2 ▸ DGet.k (k:=Sum.inl _) e1
           have g:=g e ev
           exact ⟨jle I2 g,jq0 hu I2 g ry fun w' s3 I3 rw'=>⟨v,H2,I3,rw',q2⟩⟩
         · exact q2.elim
       · exact q2.elim)
theorem q_bm {e:Expr} {es:List Expr} {to:TE} {t:TA} {name:Str} {apos cpos:Pos} {id:String} {r:V→List V→Hp→VK→Prop} (pa:PlainAttrs "list") (slot:Slot "list" name id) (hty:typeOf (.builtin id) = pure (.type "method_descriptor")) (hm:MtR X id r) (ho:PE X o to) (ha:PA X (e :: es) t)
  (hbase:attributeBase o name X.env (eval o X.env) = eval o X.env:=by rfl)
  (hfew:((backTo cpos (starEach (e :: es) X.env)).all (fun x=>!x.1) && (backToKw cpos (keywordEach [] X.env)).all (fun x=>x.1.isSome)
   && decide ((e :: es).length + ([]:List Keyword).length + (if ([]:List Keyword).isEmpty then 0 else 1) < 30)) = true:=by rfl)
  (hline:(apos.endLine == cpos.line) = true:=by rfl) (hs:starEach (e :: es) X.env = (false,eval e X.env) :: starEach es X.env:=by rfl) (hplain:(backTo cpos (starEach es X.env)).any (·.1) = false:=by rfl) :
  PE X (.Call (.Attribute o name apos) (e :: es) [] cpos) (fBM r to t):=by
 intro pins s σ H Q I h
 refine wpAny_Call_method_late hbase hfew hline rfl (thn (ho pins s σ H _ I h) fun v s1 ⟨x,H1,I1,r1,⟨a,xs,ex,ea⟩,q1⟩=>?_)
 subst ex
 obtain ⟨h1,h2⟩:=tyV_is (T:="list") I1 r1 (.inl ⟨rfl,_,SqL.of ea⟩)
 refine ⟨"list",id,pa,slot,hty,h1,h2,?_⟩
 have hA:=ha cpos pins s1 σ H1 _ I1 q1
 rw [hs] at hA ⊢
 refine Calls.callWith_builtin (by show (false || (backTo cpos (starEach es X.env)).any (·.1)) = false; rw [hplain] <;> rfl) (Calls.evalArgs_plain ?_)
 exact thn hA fun us s2 ⟨vs,H2,I2,r2,q2⟩=>hm pins s2 σ H2 _ vs v us Q I2 r1 r2 q2
end
inductive Kd where
 | non | bl | int | str | lst | tup | dct
 deriving DecidableEq
def Kd.nm:Kd→String
 | .non=>"NoneType"
 | .bl=>"bool"
 | .int=>"int"
 | .str=>"str"
 | .lst=>"list"
 | .tup=>"tuple"
 | .dct=>"dict"
def kd (H:Hp) (v:V):Option Kd:=match v with
 | .non=>some .non
 | .bl _=>some .bl
 | .int _=>some .int
 | .str _=>some .str
 | .ref a=>match H a with
  | some (.lst _)=>some .lst
  | some (.tup _)=>some .tup
  | some (.dK _)=>some .dct
  | _=>none
 | _=>none
def isi (a b:Kd):Bool:=match a,b with
 | .bl,.int=>true
 | .non,.non=>true
 | .bl,.bl=>true
 | .int,.int=>true
 | .str,.str=>true
 | .lst,.lst=>true
 | .tup,.tup=>true
 | .dct,.dct=>true
 | _,_=>false
theorem kd_knd {H:Hp} {v:V} {k:Kd} (h:kd H v = some k):Knd H v k.nm:=by
 unfold kd at h
 split at h
 ·cases h; exact .non
 ·cases h; exact .bl
 ·cases h; exact .int
 ·cases h; exact .str
 ·split at h
  ·rename_i e; cases h; exact .lst e
  ·rename_i e; cases h; exact .tup e
  ·rename_i e; cases h; exact .dK e
  ·cases h
 ·cases h
theorem isi_K (a b:Kd):isiK a.nm b.nm = isi a b:=by cases a <;> cases b <;> rfl
theorem Kd.mem (b:Kd):b.nm ∈ jii:=by cases b <;> simp [jii,Kd.nm]
def fIsi (T:Kd):List V→Hp→VK→Prop:=fun vs H Q=>match vs with
 | [x,y]=>y = .ty T.nm∧match kd H x with
  | some k=>Q (.bl (isi k T)) H
  | none=>False
 | _=>False
theorem jqu {X:Cx} (T:Kd):jcr X (.builtin "isinstance") (fIsi T):=jrs.imp fun vs H Q h=>by
 unfold fIsi at h
 split at h
 ·obtain ⟨rfl,h⟩:=h
  split at h
  ·rename_i k e
   exact ⟨_,_,_,rfl,kd_knd e,Kd.mem T,by rw [isi_K]; exact h⟩
  ·exact h.elim
 ·exact h.elim
def fAug (i:Nat) (te:TE) (ti:TIp):TS:=fun D σ H=>match σ[i]? with
 | some (some x)=>te σ H fun y H1=>ti x y H1 fun z H2=>D.nx (σ.set i (some z)) H2
 | _=>False
theorem jjk {X:Cx} {pos:Pos} {i:Nat} {x:Str} {e:Expr} {te:TE} {op:Operator} {ti:TIp} {pos':Pos} (hN:X.N.Nodup) (hi:X.N[i]? = some x) (hx:Loc X.env.scope x) (he:PE X e te) (ho:PIp X op ti) (hf:X.fn x = true ∨ X.env.scope.names.lookup x = some .local:=by first | exact .inl rfl | exact .inr rfl | assumption) :
  PS X (.AugAssign (.Name x pos') op e pos) (fAug i te ti):=fun pins s σ H D I h=>ps_aug hN hi hx he ho hf pins s σ H D I (by
 unfold fAug at h
 split at h
 ·rename_i x e; exact ⟨x,e,h⟩
 ·exact h.elim)
def jax (t:TE):TO:=fun σ H Q=>t σ H fun x H1=>match x with
 | .int i=>Q (some i) H1
 | _=>False
theorem jhy {X:Cx} {e:Expr} {te:TE} (h:PE X e te):PO X (some e) (jax te):=by
  intro pins s σ H Q I hw
  rw [evalPart_some]
  refine thn (h pins s σ H _ I hw) fun u s1 ⟨x,H1,I1,r1,q1⟩=>?_
  cases x <;> first
    | exact False.elim q1
    | (obtain ⟨t,rfl⟩:=r1
       exact ⟨some _,H1,I1,.int _ t,q1⟩)
def jaf (f:List Bool→Bool):List V→Hp→VK→Prop:=fun vs H Q=>match vs with
 | [.ref l]=>match H l with
  | some (.lst xs)=>∃ bs:List Bool,xs = bs.map V.bl∧Q (.bl (f bs)) H
  | _=>False
 | _=>False
def ja7:List V→Hp→VK→Prop:=fun vs H Q=>match vs with
 | [.ref l]=>match H l with
  | some (.lst xs)=>∃ kvs:List (Key × V),Paired (PairAt H) xs kvs∧xs.length ≤ 1000∧(kvs.map (·.1)).Nodup∧∀ d,H d = none→Q (.ref d) (upd H d (.dK kvs))
  | _=>False
 | _=>False
theorem ji1 {X:Cx} (hc:X.calm = true):jcr X (.type "dict") ja7:=(jnl hc).imp fun vs H Q h=>by
 unfold ja7 at h
 split at h
 ·split at h
  ·rename_i xs e
   obtain ⟨kvs,h1,h2,h3,h4⟩:=h
   exact ⟨_,xs,kvs,rfl,e,h1,h2,h3,h4⟩
  ·exact h.elim
 ·exact h.elim
def fLtT:R2:=fun x y H Q=>match x,y with
 | .ref a,.ref b=>match H a,H b with
  | some (.tup [.int i,.int j]),some (.tup [.int k,.int l])=>Q (.bl (HT.lexLt [i,j] [k,l])) H
  | _,_=>False
 | _,_=>False
theorem q_ltT {X:Cx} (hu:X.A.units < cLine):OpR X (compareOp .Lt) fLtT:=(op_ltT hu).imp fun x y H Q h=>by
 unfold fLtT at h
 split at h
 ·split at h
  ·rename_i a b _ _ i j k l e1 e2
   exact ⟨a,b,[i,j],[k,l],rfl,rfl,SqT.of e1,SqT.of e2,h⟩
  ·exact h.elim
 ·exact h.elim
def capB (XN:List Str) (names:List (Str × NameKind)):List Str→List (Option Nat)→Bool
 | [],[]=>true
 | x :: N,none :: r=>capB XN names N r
 | x :: N,some j :: r=>(XN[j]? == some x) && (names.lookup x == some .free) && capB XN names N r
 | _,_=>false
theorem jli {XN:List Str} {names:List (Str × NameKind)}:∀ {N:List Str} {src:List (Option Nat)},capB XN names N src = true→src.length = N.length∧∀ (i j:Nat),src[i]? = some (some j)→XN[j]? = N[i]?∧(N[i]?).elim False (fun x=>names.lookup x = some .free)
 | [],[],_=>⟨rfl,fun i j e=>by simp at e⟩
 | x :: N,none :: r,h=>by
  obtain ⟨h1,h2⟩:=jli (N:=N) (src:=r) h
  refine ⟨by simp [h1],fun i j e=>?_⟩
  cases i with
  | zero=>simp at e
  | succ i=>exact h2 i j (by simpa using e)
 | x :: N,some k :: r,h=>by
  have h':((XN[k]? == some x) && (names.lookup x == some .free) && capB XN names N r) = true:=h
  rw [Bool.and_eq_true,Bool.and_eq_true] at h'
  obtain ⟨h1,h2⟩:=jli (N:=N) (src:=r) h'.2
  refine ⟨by simp [h1],fun i j e=>?_⟩
  cases i with
  | zero =>
   have e':k = j:=by simpa using e
   subst e'
   exact ⟨by simpa using h'.1.1,by simpa using h'.1.2⟩
  | succ i=>exact h2 i j (by simpa using e)
def jmg:List Str→Bool
 | []=>true
 | x :: r=>!(r.contains x) && jmg r
theorem jbc:∀ {l:List Str},jmg l = true→l.Nodup
 | [],_=>List.nodup_nil
 | x :: r,h=>by
  have h':(!(r.contains x) && jmg r) = true:=h
  rw [Bool.and_eq_true] at h'
  exact List.nodup_cons.mpr ⟨by simpa using h'.1,jbc h'.2⟩
def cpB (XN:List Str) (outer:List (Str × NameKind)) (scope:Scope) (N:List Str) (src:List (Option Nat)):Bool :=
 (scope.kind == .function) && scope.names.all (fun y=>y.2 != .cell) && scope.names.all (fun y=>y.2 != .local || scope.names.lookup y.1 == some .local) &&
  scope.names.all (fun y=>y.2 != .free || (scope.names.lookup y.1 == some .free && outer.lookup y.1 == some .cell)) && jmg N && capB XN scope.names N src
theorem CpScope.of {X:Cx} {scope:Scope} {N:List Str} {src:List (Option Nat)} (h:cpB X.N X.env.scope.names scope N src = true):CpScope X scope N src:=by
 unfold cpB at h
 simp only [Bool.and_eq_true] at h
 obtain ⟨⟨⟨⟨⟨h1,h2⟩,h3⟩,h4⟩,h5⟩,h6⟩:=h
 rw [List.all_eq_true] at h2 h3 h4
 obtain ⟨l,c⟩:=jli h6
 refine ⟨by simpa using h1,fun y hy=>by simpa using h2 y hy,fun y hy e=>?_,fun y hy e=>?_,jbc h5,l,c⟩
 ·have:=h3 y hy
  rw [e] at this
  simpa using this
 ·have:=h4 y hy
  rw [e] at this
  simpa using this
end L2
namespace L2
open PySem PySem.Spec PyProof.Rows
theorem jiq {K:PySem.W.Frag} {a:Addr} {xs:List V} {g:TG} {tb:TS} {D:Ends} {σ:St} {H:Hp} (Pv:Nat→St→Hp→Prop) (h0:Pv 0 σ H) (hl:∀ i σ H,i ≤ xs.length→Pv i σ H→SqL K H a xs)
  (hs:∀ i x σ H t,xs[i]? = some x→Pv i σ H→H t = none→g (.ref t) σ (upd H t (.tup [.int i,x])) fun σ2 H2=>tb { D with nx:=Pv (i + 1),ct:=Pv (i + 1),bk:=D.nx } σ2 H2) (hd:∀ σ H,Pv xs.length σ H→D.nx σ H) :
  ∃ W:Nat→Nat→St→Hp→Prop,(∃ m,W 0 m σ H)∧∀ i m σ H,W i m σ H →
   ((Ite K a).stop i H∧D.nx σ H) ∨ ((Ite K a).go i H∧∃ N:St→Hp→Prop,(∀ σ' H',N σ' H'→∃ m',m' < m∧W (i + 1) m' σ' H')∧∀ x H',(Ite K a).yld i H x H'→g x σ H' fun σ2 H2=>tb { D with nx:=N,ct:=N,bk:=D.nx } σ2 H2):=by
 refine ⟨fun i m σ H=>m = xs.length - i∧i ≤ xs.length∧Pv i σ H,⟨xs.length,by simp,Nat.zero_le _,h0⟩,?_⟩
 rintro i m σ H ⟨rfl,hi,p⟩
 have q:=hl i σ H hi p
 by_cases hlt:i < xs.length
 ·refine .inr ⟨⟨xs,xs[i],q,by simp [hlt]⟩,Pv (i + 1),fun σ' H' p'=>⟨xs.length - (i + 1),by omega,rfl,hlt,p'⟩,fun x H' y=>?_⟩
  obtain ⟨t,z,ht,e1,e2,y⟩:=y
  subst e1 e2
  exact hs i z σ _ t (y xs q) p ht
 ·have e:i = xs.length:=by omega
  subst e
  exact .inl ⟨⟨xs,q,Nat.le_refl _⟩,hd σ H p⟩
theorem jce {wi:TI} {g:TG} {tb:TS} {D:Ends} {σ:St} {H:Hp} (J:It) (H1:Hp) (h1:∀ R:It→Hp→Prop,R J H1→wi σ H R)
  (h2:∃ W:Nat→Nat→St→Hp→Prop,(∃ m,W 0 m σ H1)∧∀ i m σ H,W i m σ H→(J.stop i H∧D.nx σ H) ∨ (J.go i H∧∃ N:St→Hp→Prop,(∀ σ' H',N σ' H'→∃ m',m' < m∧W (i + 1) m' σ' H')∧∀ x H',J.yld i H x H'→g x σ H' fun σ2 H2=>tb { D with nx:=N,ct:=N,bk:=D.nx } σ2 H2)) :
  tFor wi g tb D σ H:=h1 _ h2
theorem jbp {src:List (Option Nat)} {wi:TI} {g:TG} {tc:TT} {te:TE} {Q:VK} {σ:St} {H:Hp} (J:It) (H1:Hp) (h1:∀ R:It→Hp→Prop,R J H1→wi σ H R) (h2:∀ l,H1 l = none→jqd J src g tc te Q σ H1 l):jqj src wi g tc te σ H Q:=h1 _ h2
theorem jag {H:Hp} {p:Addr} (h:H p = none) (o:HO):Same H (upd H p o):=fun b u q=>by rw [jas (ja5 q h)]; exact q
theorem jbh {H H':Hp} {p:Addr} {o:HO} (s:Same H H') (h:H p = none):Same H (upd H' p o):=fun b u q=>by rw [jas (ja5 q h)]; exact s b u q
def Pr (H:Hp) (v:V) (p:Int × Int):Prop:=∃ t,v = .ref t∧H t = some (.tup [.int p.1,.int p.2])
theorem Pr.same {H H':Hp} {v:V} {p:Int × Int} (h:Pr H v p) (s:Same H H'):Pr H' v p:=let ⟨t,e,q⟩:=h; ⟨t,e,s _ _ q⟩
def jtt:HO→Bool
 | .tup _=>true
 | .frz _ _=>true
 | _=>false
def TupS (H H':Hp):Prop:=∀ b o,jtt o = true→H b = some o→H' b = some o
theorem Same.tups {H H':Hp} (s:Same H H'):TupS H H':=fun b o _ q=>s b _ q
theorem TupS.trans {H H1 H2:Hp} (a:TupS H H1) (b:TupS H1 H2):TupS H H2:=fun c o i q=>b c o i (a c o i q)
theorem TupS.refl (H:Hp):TupS H H:=fun _ _ _ q=>q
theorem jbt {H:Hp} {l:Addr} {xs ys:List V} (h:H l = some (.lst xs)):TupS H (upd H l (.lst ys)):=fun b o i q=>by
 have:b ≠ l:=fun z=>by rw [z,h] at q; cases q; cases i
 rw [jas this]
 exact q
theorem Pr.tups {H H':Hp} {v:V} {p:Int × Int} (h:Pr H v p) (s:TupS H H'):Pr H' v p:=let ⟨t,e,q⟩:=h; ⟨t,e,s _ _ rfl q⟩
def Scr (K:PySem.W.Frag) (H:Hp) (a:Addr) (ns:List Int):Prop :=
 (∃ o,H a = some (.frz o (.lst (ns.map V.int)))) ∨ ∃ (o:Obj) (its:Array Value) (n:Nat),K.lookup a = some o∧o.cls = .type "list"∧o.dict = none∧o.data = .seq its n∧its.size ≤ sizeLine∧Vals (ns.map V.int) its.toList
theorem Scr.sq {K:PySem.W.Frag} {H:Hp} {a:Addr} {ns:List Int} (h:Scr K H a ns):SqL K H a (ns.map V.int):=h.elim (fun ⟨o,q⟩=>.inl (.inr ⟨o,q⟩)) .inr
theorem Scr.of {K:PySem.W.Frag} {H:Hp} {a:Addr} {ns:List Int} (h:SqL K H a (ns.map V.int)) (o:Only H):Scr K H a ns:=by
 rcases h with (h | ⟨ob,h⟩) | h
 ·rcases o a with z | ⟨ob,xs,z⟩
  ·rw [h] at z; cases z
  ·rw [h] at z; cases z
 ·exact .inl ⟨ob,h⟩
 ·exact .inr h
theorem Scr.tups {K:PySem.W.Frag} {H H':Hp} {a:Addr} {ns:List Int} (h:Scr K H a ns) (s:TupS H H'):Scr K H' a ns:=h.elim (fun ⟨o,q⟩=>.inl ⟨o,s _ _ rfl q⟩) .inr
abbrev Prs (H:Hp):List V→List (Int × Int)→Prop:=Paired (Pr H)
theorem Prs.tups {H H':Hp} (s:TupS H H') {xs:List V} {ps:List (Int × Int)} (h:Prs H xs ps):Prs H' xs ps:=Paired.mapP h fun _ _ q=>q.tups s
theorem Prs.same {H H':Hp} (s:Same H H') {xs:List V} {ps:List (Int × Int)} (h:Prs H xs ps):Prs H' xs ps:=Prs.tups s.tups h
theorem jbi {α β:Type} {F:α→β→Prop}:∀ {xs:List α} {ys:List β} {i:Nat} {x:α},Paired F xs ys→xs[i]? = some x→∃ y,ys[i]? = some y∧F x y
 | _,_,_,_,.nil,e=>by simp at e
 | _,_,0,_,.cons r _,e=>by simp at e; subst e; exact ⟨_,rfl,r⟩
 | _,_,i + 1,y,.cons _ t,e=>by
  obtain ⟨u,h1,h2⟩:=jbi (i:=i) t (by simpa using e)
  exact ⟨u,by simpa using h1,h2⟩
theorem jck {α β:Type} {F:α→β→Prop}:∀ {xs:List α} {ys:List β} {i:Nat} {y:β},Paired F xs ys→ys[i]? = some y→∃ x,xs[i]? = some x∧F x y
 | _,_,_,_,.nil,e=>by simp at e
 | _,_,0,_,.cons r _,e=>by simp at e; subst e; exact ⟨_,rfl,r⟩
 | _,_,i + 1,y,.cons _ t,e=>by
  obtain ⟨u,h1,h2⟩:=jck (i:=i) t (by simpa using e)
  exact ⟨u,by simpa using h1,h2⟩
theorem jbn {α β:Type} {F:α→β→Prop} {a:α} {b:β} {l₁:List α} {l₂:List β} (h:Paired F l₁ l₂) (r:F a b):Paired F (l₁ ++ [a]) (l₂ ++ [b]):=Paired.snoc h r
theorem jmo {α:Type} {l:List α} {i:Nat} {x:α} (h:l[i]? = some x):l.drop i = x :: l.drop (i + 1):=by
 obtain ⟨h1,h2⟩:=List.getElem?_eq_some_iff.mp h
 rw [List.drop_eq_getElem_cons h1,h2]
theorem jbj {α:Type} {l:List α} {i:Nat} {x:α} (h:l[i]? = some x):l.take (i + 1) = l.take i ++ [x]:=by
 obtain ⟨h1,h2⟩:=List.getElem?_eq_some_iff.mp h
 rw [List.take_succ,h]
 rfl
inductive Dt where
 | non
 | bl (b:Bool)
 | int (i:Int)
 | str (x:Str)
 | tup (ds:List Dt)
 | lst (ds:List Dt)
mutual
def Rep (H:Hp):Dt→V→Prop
 | .non,v=>v = .non
 | .bl b,v=>v = .bl b
 | .int i,v=>v = .int i
 | .str x,v=>v = .str x
 | .tup ds,v=>∃ a vs,v = .ref a∧H a = some (.tup vs)∧Reps H ds vs
 | .lst ds,v=>∃ a vs,v = .ref a∧H a = some (.lst vs)∧Reps H ds vs
def Reps (H:Hp):List Dt→List V→Prop
 | [],vs=>vs = []
 | d :: ds,vs=>∃ v r,vs = v :: r∧Rep H d v∧Reps H ds r
end
mutual
theorem Rep.same {H H':Hp} (s:Same H H'):∀ (d:Dt) {v:V},Rep H d v→Rep H' d v
 | .non,_,h=>by rw [Rep] at *; exact h
 | .bl _,_,h=>by rw [Rep] at *; exact h
 | .int _,_,h=>by rw [Rep] at *; exact h
 | .str _,_,h=>by rw [Rep] at *; exact h
 | .tup ds,_,h=>by
  rw [Rep] at *
  obtain ⟨a,vs,e,q,r⟩:=h
  exact ⟨a,vs,e,s _ _ q,Reps.same s ds r⟩
 | .lst ds,_,h=>by
  rw [Rep] at *
  obtain ⟨a,vs,e,q,r⟩:=h
  exact ⟨a,vs,e,s _ _ q,Reps.same s ds r⟩
theorem Reps.same {H H':Hp} (s:Same H H'):∀ (ds:List Dt) {vs:List V},Reps H ds vs→Reps H' ds vs
 | [],_,h=>by rw [Reps] at *; exact h
 | d :: ds,_,h=>by
  rw [Reps] at *
  obtain ⟨v,r,e,h1,h2⟩:=h
  exact ⟨v,r,e,Rep.same s d h1,Reps.same s ds h2⟩
end
theorem Reps.len {H:Hp}:∀ {ds:List Dt} {vs:List V},Reps H ds vs→vs.length = ds.length
 | [],_,h=>by rw [Reps] at h; subst h; rfl
 | d :: ds,_,h=>by
  rw [Reps] at h
  obtain ⟨v,r,e,h1,h2⟩:=h
  rw [e,List.length_cons,List.length_cons,Reps.len h2]
theorem Reps.at {H:Hp}:∀ {ds:List Dt} {vs:List V} {i:Nat} {v:V},Reps H ds vs→vs[i]? = some v→∃ d,ds[i]? = some d∧Rep H d v
 | [],_,i,v,h,e=>by rw [Reps] at h; rw [h] at e; simp at e
 | d :: ds,_,i,v,h,e=>by
  rw [Reps] at h
  obtain ⟨w,r,e1,h1,h2⟩:=h
  subst e1
  cases i with
  | zero=>simp at e; subst e; exact ⟨d,rfl,h1⟩
  | succ i =>
   obtain ⟨d',q1,q2⟩:=Reps.at h2 (i:=i) (by simpa using e)
   exact ⟨d',by simpa using q1,q2⟩
def jtc (p:Int × Int):Dt:=.tup [.int p.1,.int p.2]
theorem Pr.rep {H:Hp} {v:V} {p:Int × Int} (h:Pr H v p):Rep H (jtc p) v:=by
 obtain ⟨t,e,q⟩:=h
 rw [jtc,Rep]
 refine ⟨t,_,e,q,?_⟩
 rw [Reps]
 refine ⟨_,_,rfl,(by rw [Rep]),?_⟩
 rw [Reps]
 exact ⟨_,_,rfl,(by rw [Rep]),(by rw [Reps])⟩
theorem jej {H:Hp}:∀ (ns:List Int),Reps H (ns.map Dt.int) (ns.map V.int)
 | []=>by rw [List.map_nil,Reps,List.map_nil]
 | n :: r=>by rw [List.map_cons,Reps,List.map_cons]; exact ⟨_,_,rfl,(by rw [Rep]),jej r⟩
end L2
namespace L2
open PySem PySem.Spec PyProof.Rows
def fMax:List V→Hp→VK→Prop:=fun vs H Q=>match vs with
 | [.int i,.int j]=>Q (.int (if i < j then j else i)) H
 | _=>False
theorem jt2 {X:Cx} (hc:X.calm = true):jcr X (.builtin "max") fMax:=(jq7 hc).imp fun vs H Q h=>by
 unfold fMax at h
 split at h
 ·refine ⟨_,_,rfl,?_⟩
  first | exact h | (rename_i i j; by_cases c:i < j <;> simp_all)
 ·exact h.elim
def fInL (neg:Bool):R2:=fun x y H Q=>match y with
 | .ref p=>match jbo H p with
  | some xs=>jps x = true∧xs.all jps = true∧Q (.bl (if neg = true then !inV x xs else inV x xs)) H
  | none=>False
 | _=>False
end L2
namespace L2
open PySem PySem.Spec PyProof.Rows
def rSortL:List V→Hp→VK→Prop:=fun vs H Q=>∃ (p:Addr) (ns:List Int),vs = [.ref p]∧H p = some (.lst (ns.map V.int))∧ns.length < 64 ∧
 ∀ (l:Addr) (ms:List Int),H l = none→ms.Perm ns→ms.Pairwise (· ≤ ·)→Q (.ref l) (upd H l (.lst (ms.map V.int)))
theorem jf6 {X:Cx}:jcr X (.builtin "sorted") rSortL:=by
 intro pins s σ H xs us Q I r h
 obtain ⟨p,ns,rfl,e,h64,q⟩:=h
 obtain ⟨u,rfl,rx⟩:=jgt r
 cases rx
 obtain ⟨its,r',pl,hz⟩:=I.list (SqL.of e)
 have hI:=jdd r'
 have hlen:=r'.length
 rw [List.length_map] at hlen
 refine sorted_ints pl.isList hI (by omega) fun out ms a1 a2 a3=>?_
 obtain ⟨c,hc⟩:=sortedAll_at s.heap its out
 have hml:=a2.length_eq
 have hz2:=jgf
 refine ⟨.ref (s.heap.objs.size + 1),_,I.laid (t':=s.toks) (fun _ _=>sortedAll_old) (Nat.le_succ _) (show jcg X.prog X.w _ _ _ (.lst (ms.map V.int)) from ⟨?_,out.toList,c,je7 a1,?_⟩),rfl,q _ ms (I.hok.fresh (Nat.le_succ _)) a2 a3⟩
 ·rw [List.length_map,hml]; exact Nat.le_trans (Nat.le_of_lt h64) (by decide)
 ·rw [hc]
theorem jk2 {P:Program} {w:World}:∀ {kvs:List (Key × V)} {vs:List (Key × Value)} {ns:List Int},KV kvs vs→kvs.map (·.1) = ns.map Sum.inl→∀ {us:List Value},us.length = vs.length→(∀ (j:Nat) (v:Value),us[j]? = some v→∃ k x,vs[j]? = some (k,x)∧(jbx P w).is k v = true)→IntsAre us ns
 | [],_,ns,.nil,hk,us,hl,_=>by
  cases ns with
  | nil=>cases us with
   | nil=>exact .nil
   | cons _ _=>simp at hl
  | cons _ _=>simp at hk
 | kv :: kvs,_,ns,.cons (b:=b) r t,hk,us,hl,hv=>by
  cases ns with
  | nil=>simp at hk
  | cons n ns =>
   cases us with
   | nil=>simp at hl
   | cons u us =>
    rw [List.map_cons,List.map_cons] at hk
    injection hk with hk1 hk2
    obtain ⟨k,x,e1,e2⟩:=hv 0 u rfl
    simp only [List.getElem?_cons_zero,Option.some.injEq] at e1
    have hkn:k = Sum.inl n:=by rw [← hk1,r.1,e1]
    rw [hkn] at e2
    rcases jby (show jij (Sum.inl n) u = true from e2) with ⟨i,t',ei,ev⟩ | ⟨y,t',ei,ev⟩
    ·cases ei
     rw [ev]
     refine .cons n t' (jk2 (P:=P) (w:=w) t hk2 (by simpa using hl) fun j v hj=>?_)
     obtain ⟨k',x',z1,z2⟩:=hv (j + 1) v (by simpa using hj)
     exact ⟨k',x',by simpa using z1,z2⟩
    ·cases ei
def rSortD:List V→Hp→VK→Prop:=fun vs H Q=>∃ (p:Addr) (kvs:List (Key × V)) (ns:List Int),vs = [.ref p]∧H p = some (.dK kvs)∧kvs.map (·.1) = ns.map Sum.inl∧ns.length < 64 ∧
 ∀ (l:Addr) (ms:List Int),H l = none→ms.Perm ns→ms.Pairwise (· ≤ ·)→Q (.ref l) (upd H l (.lst (ms.map V.int)))
theorem jf7 {X:Cx} (hc:X.calm = true):jcr X (.builtin "sorted") rSortD:=by
 intro pins s σ H xs us Q I r h
 obtain ⟨p,kvs,ns,rfl,e,hk,h64,q⟩:=h
 obtain ⟨u,rfl,rx⟩:=jgt r
 cases rx
 obtain ⟨z,lo,vs',rel,dd⟩:=jro I.hok e
 obtain ⟨ep,hat⟩:=dd.dictAt
 have hkl:=rel.length
 refine Calls.call_function_entry kind_sorted plain_sorted entry_sorted (args_sorted1 _) ?_
 unfold Builtin.«sorted»
 refine wpAny_bind (m:=checkCount "sorted" 1 1 _) (wpAny_pure ?_)
 refine wpAny_bind (PySem.W.kdu_collect (PySem.W.kdl_dict (knd:=jbx X.prog X.w) (kvs:=vs') (ep:=ep) lo) (I.ok.hd hc) hat (by omega) fun h' tk acc hkp hacc=>?_)
 have hl:acc.toList.length = vs'.length:=by rw [Array.length_toList]; exact hacc.1
 have hI:IntsAre acc.toList ns:=jk2 rel hk hl fun j v ej=>hacc.2 j v (by rw [← Array.getElem?_toList]; exact ej)
 have hnl:ns.length = kvs.length:=by
  have:=congrArg List.length hk
  simpa using this.symm
 refine wpAny_bind (wpAny_newList ?_ (by omega))
 have hoL:(h'.push (seqObj "list" acc.toList.toArray 0)).get? h'.objs.size = some (seqObj "list" acc.toList.toArray 0):=Heap.get?_push_size _ rfl
 show wpAny _ _ _ _ _ { s with heap:=h'.push (seqObj "list" acc.toList.toArray 0),toks:=tk }
 refine wpAny_bind (wpAny_holding (wpAny_call_entry slot_list_sort ⟨_,hoL,rfl⟩ entry_list_sort (list_sort_tree hoL hI (by omega) fun out ms a1 a2 a3=>⟨_,rfl,?_⟩) (args_list_sort _)))
 refine wpAny_pure ⟨_,rfl,?_⟩
 have hlt:∀ b o,h'.get? b = some o→b < h'.objs.size:=fun b o eb=>Heap.lt_size eb
 have kp:∀ b o,h'.get? b = some o→(sortedHeap (h'.push (seqObj "list" acc.toList.toArray 0)) h'.objs.size acc.toList out).get? b = some o:=fun b o eb=>by
  rw [sortedHeap_old (Nat.ne_of_lt (hlt b o eb)) (by rw [size_push']; exact Nat.lt_succ_of_lt (hlt b o eb)),Heap.get?_push_ne _ _ _ (Nat.ne_of_lt (hlt b o eb))]
  exact eb
 obtain ⟨c,hcc⟩:=sortedHeap_at (out:=out) hoL
 have hml:=a2.length_eq
 have I1:Inv X pins σ H { s with heap:=h',toks:=tk }:=I.kept hkp
 refine ⟨.ref h'.objs.size,_,I1.laid (t':=tk) kp (Nat.le_refl _) (show jcg X.prog X.w _ _ _ (.lst (ms.map V.int)) from ⟨?_,out.toList,c,je7 a1,?_⟩),rfl,q _ ms (I1.hok.fresh (Nat.le_refl _)) a2 a3⟩
 ·rw [List.length_map,hml]; exact Nat.le_trans (Nat.le_of_lt h64) (by decide)
 ·rw [hcc]
end L2
namespace L2
open PySem PySem.Spec PyProof.Rows
mutual
def eqP:Dt→Dt→Bool
 | .non,.non=>true
 | .bl a,.bl b=>a == b
 | .bl a,.int b=>(if a then 1 else 0) == b
 | .int a,.bl b=>a == (if b then 1 else 0)
 | .int a,.int b=>a == b
 | .str a,.str b=>a == b
 | .tup a,.tup b=>eqPs a b
 | .lst a,.lst b=>eqPs a b
 | _,_=>false
def eqPs:List Dt→List Dt→Bool
 | [],[]=>true
 | a :: r,b :: t=>eqP a b && eqPs r t
 | _,_=>false
end
mutual
def depP:Dt→Nat
 | .tup a=>jdl a + 1
 | .lst a=>jdl a + 1
 | _=>0
def jdl:List Dt→Nat
 | []=>0
 | a :: r=>max (depP a) (jdl r)
end
def jgn (a b:List Dt) (j:Nat):Bool:=match a[j]?,b[j]? with
 | some x,some y=>eqP x y
 | _,_=>false
theorem jel:∀ {a b:List Dt},a.length ≠ b.length→eqPs a b = false
 | [],[],h=>absurd rfl h
 | [],_ :: _,_=>by simp [eqPs]
 | _ :: _,[],_=>by simp [eqPs]
 | x :: a,y :: b,h=>by
  rw [eqPs,jel (by simpa using h),Bool.and_false]
theorem jol:∀ (n:Nat) (f:Nat→Bool),(List.range (n + 1)).all f = (f 0 && (List.range n).all fun j=>f (j + 1)):=fun n f=>by
 rw [List.range_succ_eq_map,List.all_cons,List.all_map]
 rfl
theorem jde:∀ {a b:List Dt},a.length = b.length→eqPs a b = (List.range a.length).all (jgn a b)
 | [],[],_=>by rw [eqPs]; rfl
 | [],_ :: _,h=>by simp at h
 | _ :: _,[],h=>by simp at h
 | x :: a,y :: b,h=>by
  rw [eqPs,jde (a:=a) (b:=b) (by simpa using h),List.length_cons,jol]
  rfl
theorem jit:∀ {a:List Dt} {j:Nat} {d:Dt},a[j]? = some d→depP d ≤ jdl a
 | [],_,_,h=>by simp at h
 | x :: a,0,d,h=>by
  simp at h; subst h
  rw [jdl]; omega
 | x :: a,j + 1,d,h=>by
  have:=jit (a:=a) (j:=j) (by simpa using h)
  rw [jdl]; omega
def jda:Dt→Option V
 | .non=>some .non
 | .bl b=>some (.bl b)
 | .int i=>some (.int i)
 | .str x=>some (.str x)
 | _=>none
theorem jrl {d e:Dt} {x y:V} (hd:jda d = some x) (he:jda e = some y):eqP d e = eqV x y:=by
 cases d <;> cases e <;> simp only [jda,Option.some.injEq,reduceCtorEq] at hd he <;> subst hd <;> subst he <;> simp [eqP,eqV]
theorem jhx {H:Hp} {d:Dt} {x v:V} (hd:jda d = some x) (h:Rep H d v):v = x∧jps x = true:=by
 cases d <;> simp only [jda,Option.some.injEq,reduceCtorEq] at hd <;> subst hd <;> rw [Rep] at h <;> exact ⟨h,rfl⟩
section
variable {X:Cx} {pins:List (Addr × Obj)} {σ:St} {H:Hp} {s:Shared}
theorem Inv.tupE (I:Inv X pins σ H s) {a:Addr} {vs:List V} (e:H a = some (.tup vs)):∃ its:List Value,Vals vs its∧s.heap.IsTuple a its.toArray:=by
 obtain ⟨its,r,p,_⟩:=I.tuple (SqT.of e)
 exact ⟨its,r,p⟩
theorem Inv.lstE (I:Inv X pins σ H s) {a:Addr} {vs:List V} (e:H a = some (.lst vs)):∃ its:List Value,Vals vs its∧s.heap.IsList a its.toArray:=by
 obtain ⟨its,r,p,_⟩:=I.list (SqL.of e)
 exact ⟨its,r,p.isList⟩
mutual
theorem jem:∀ d:Dt,eqP d d = true
 | .non=>by simp [eqP]
 | .bl _=>by simp [eqP]
 | .int _=>by simp [eqP]
 | .str _=>by simp [eqP]
 | .tup a=>by rw [eqP]; exact jgm a
 | .lst a=>by rw [eqP]; exact jgm a
theorem jgm:∀ a:List Dt,eqPs a a = true
 | []=>by rw [eqPs]
 | d :: r=>by rw [eqPs,jem d,jgm r]; rfl
end
mutual
theorem Rep.inj {H:Hp}:∀ {d e:Dt} {v:V},Rep H d v→Rep H e v→d = e
 | .non,e,v,h1,h2=>by rw [Rep] at h1; subst h1; cases e <;> simp [Rep] at h2 ⊢
 | .bl _,e,v,h1,h2=>by rw [Rep] at h1; subst h1; cases e <;> simp [Rep] at h2 ⊢; exact h2
 | .int _,e,v,h1,h2=>by rw [Rep] at h1; subst h1; cases e <;> simp [Rep] at h2 ⊢; exact h2
 | .str _,e,v,h1,h2=>by rw [Rep] at h1; subst h1; cases e <;> simp [Rep] at h2 ⊢; exact h2
 | .tup ds,e,v,h1,h2=>by
  rw [Rep] at h1
  obtain ⟨a,vs,rfl,q,r⟩:=h1
  cases e with
  | tup es =>
   rw [Rep] at h2
   obtain ⟨a',vs',e',q',r'⟩:=h2
   cases e'
   rw [q] at q'; cases q'
   rw [Reps.inj r r']
  | lst es =>
   rw [Rep] at h2
   obtain ⟨a',vs',e',q',r'⟩:=h2
   cases e'
   rw [q] at q'; cases q'
  | non=>rw [Rep] at h2; cases h2
  | bl _=>rw [Rep] at h2; cases h2
  | int _=>rw [Rep] at h2; cases h2
  | str _=>rw [Rep] at h2; cases h2
 | .lst ds,e,v,h1,h2=>by
  rw [Rep] at h1
  obtain ⟨a,vs,rfl,q,r⟩:=h1
  cases e with
  | lst es =>
   rw [Rep] at h2
   obtain ⟨a',vs',e',q',r'⟩:=h2
   cases e'
   rw [q] at q'; cases q'
   rw [Reps.inj r r']
  | tup es =>
   rw [Rep] at h2
   obtain ⟨a',vs',e',q',r'⟩:=h2
   cases e'
   rw [q] at q'; cases q'
  | non=>rw [Rep] at h2; cases h2
  | bl _=>rw [Rep] at h2; cases h2
  | int _=>rw [Rep] at h2; cases h2
  | str _=>rw [Rep] at h2; cases h2
theorem Reps.inj {H:Hp}:∀ {ds es:List Dt} {vs:List V},Reps H ds vs→Reps H es vs→ds = es
 | [],es,vs,h1,h2=>by
  rw [Reps] at h1; subst h1
  cases es with
  | nil=>rfl
  | cons e es=>rw [Reps] at h2; obtain ⟨_,_,z,_⟩:=h2; cases z
 | d :: ds,es,vs,h1,h2=>by
  rw [Reps] at h1
  obtain ⟨v,r,rfl,q1,q2⟩:=h1
  cases es with
  | nil=>rw [Reps] at h2; cases h2
  | cons e es =>
   rw [Reps] at h2
   obtain ⟨v',r',z,p1,p2⟩:=h2
   cases z
   rw [Rep.inj q1 p1,Reps.inj q2 p2]
end
theorem jfc {d e:Dt} (hd:jda d = none) {y:V} (he:jda e = some y):eqP d e = false∧eqP e d = false:=by
 cases d <;> cases e <;> simp only [jda,Option.some.injEq,reduceCtorEq] at hd he <;> simp [eqP]
theorem eqAt_D:∀ (n:Nat) {A:Around} (I:Inv X pins σ H s) {d e:Dt} {x y:V} {u v:Value},depP d ≤ n→A.units + n < cLine→Rep H d x→Rep H e y→RelV x u→RelV y v→SeqAt.EqAt A s u v (eqP d e):=by
 intro n
 induction n with
 | zero =>
  intro A I d e x y u v hn hu rd re rx ry
  have hf:∃ z,jda d = some z:=by
   cases d <;> simp only [depP,jda] at hn ⊢ <;> first | exact ⟨_,rfl⟩ | omega
  obtain ⟨z,hz⟩:=hf
  obtain ⟨rfl,fz⟩:=jhx hz rd
  cases he:jda e with
  | some y' =>
   obtain ⟨rfl,fy⟩:=jhx he re
   rw [jrl hz he]
   exact eqAt_V rx ry fz fy
  | none =>
   rw [(jfc he hz).2]
   have hu0:A.units < cLine:=by omega
   cases e <;> simp only [jda,reduceCtorEq] at he
   ·rw [Rep] at re
    obtain ⟨a,vs,rfl,q,_⟩:=re
    cases ry
    obtain ⟨its,_,p⟩:=I.tupE q
    cases d <;> simp only [jda,Option.some.injEq,reduceCtorEq] at hz <;> subst hz
    ·cases rx; exact SeqAt.EqAt.none_tuple p hu0
    ·cases rx; exact SeqAt.EqAt.bool_tuple _ p hu0
    ·obtain ⟨t,rfl⟩:=rx; exact SeqAt.EqAt.int_tuple _ _ p hu0
    ·obtain ⟨t,rfl⟩:=rx; exact SeqAt.EqAt.str_tuple _ _ p hu0
   ·rw [Rep] at re
    obtain ⟨a,vs,rfl,q,_⟩:=re
    cases ry
    obtain ⟨its,_,p⟩:=I.lstE q
    cases d <;> simp only [jda,Option.some.injEq,reduceCtorEq] at hz <;> subst hz
    ·cases rx; exact SeqAt.EqAt.none_list p hu0
    ·cases rx; exact SeqAt.EqAt.bool_list _ p hu0
    ·obtain ⟨t,rfl⟩:=rx; exact SeqAt.EqAt.int_list _ _ p hu0
    ·obtain ⟨t,rfl⟩:=rx; exact SeqAt.EqAt.str_list _ _ p hu0
 | succ n ih =>
  intro A I d e x y u v hn hu rd re rx ry
  have hu0:A.units < cLine:=by omega
  have items:∀ {ds es:List Dt} {vs ws:List V} {its its2:List Value},jdl ds ≤ n→Reps H ds vs→Reps H es ws→Vals vs its→Vals ws its2 →
    ∀ j (h1:j < its.toArray.size) (h2:j < its2.toArray.size),SeqAt.EqAt A.in1 s its.toArray[j] its2.toArray[j] (jgn ds es j):=by
   intro ds es vs ws its its2 hdp r1 r2 w1 w2 j h1 h2
   rw [List.size_toArray] at h1 h2
   have l1:=w1.length
   have l2:=w2.length
   obtain ⟨u',e1,q1⟩:=w1.get (i:=j) (x:=vs[j]'(by omega)) (List.getElem?_eq_getElem _)
   obtain ⟨v',e2,q2⟩:=w2.get (i:=j) (x:=ws[j]'(by omega)) (List.getElem?_eq_getElem _)
   obtain ⟨d',f1,g1⟩:=r1.at (i:=j) (List.getElem?_eq_getElem (by omega))
   obtain ⟨e',f2,g2⟩:=r2.at (i:=j) (List.getElem?_eq_getElem (by omega))
   rw [List.getElem?_eq_getElem h1] at e1
   rw [List.getElem?_eq_getElem h2] at e2
   cases e1; cases e2
   have hj:jgn ds es j = eqP d' e':=by unfold jgn; rw [f1,f2]
   rw [hj]
   have:=jit f1
   exact ih (A:=A.in1) I (by omega) (by show A.units + 1 + n < cLine; omega) g1 g2 q1 q2
  cases hf:jda d with
  | some z =>
   refine ih I ?_ (by omega) rd re rx ry
   cases d <;> simp only [jda,reduceCtorEq] at hf <;> simp [depP]
  | none =>
   cases he:jda e with
   | some y' =>
    rw [(jfc hf he).1]
    obtain ⟨rfl,fy⟩:=jhx he re
    cases d <;> simp only [jda,reduceCtorEq] at hf
    ·rw [Rep] at rd
     obtain ⟨a,vs,rfl,q,_⟩:=rd
     cases rx
     obtain ⟨its,_,p⟩:=I.tupE q
     cases e <;> simp only [jda,Option.some.injEq,reduceCtorEq] at he <;> subst he
     ·cases ry; exact SeqAt.EqAt.tuple_none p hu0
     ·cases ry; exact SeqAt.EqAt.tuple_bool _ p hu0
     ·obtain ⟨t,rfl⟩:=ry; exact SeqAt.EqAt.tuple_int _ _ p hu0
     ·obtain ⟨t,rfl⟩:=ry; exact SeqAt.EqAt.tuple_str _ _ p hu0
    ·rw [Rep] at rd
     obtain ⟨a,vs,rfl,q,_⟩:=rd
     cases rx
     obtain ⟨its,_,p⟩:=I.lstE q
     cases e <;> simp only [jda,Option.some.injEq,reduceCtorEq] at he <;> subst he
     ·cases ry; exact SeqAt.EqAt.list_none p hu0
     ·cases ry; exact SeqAt.EqAt.list_bool _ p hu0
     ·obtain ⟨t,rfl⟩:=ry; exact SeqAt.EqAt.list_int _ _ p hu0
     ·obtain ⟨t,rfl⟩:=ry; exact SeqAt.EqAt.list_str _ _ p hu0
   | none =>
    cases d <;> simp only [jda,reduceCtorEq] at hf <;> cases e <;> simp only [jda,reduceCtorEq] at he
    ·rename_i ds es
     have hn':jdl ds ≤ n:=by rw [depP] at hn; omega
     have rd0:=rd
     have re0:=re
     rw [Rep] at rd
     rw [Rep] at re
     obtain ⟨a,vs,rfl,q,r1⟩:=rd
     obtain ⟨b,ws,rfl,q2,r2⟩:=re
     cases rx; cases ry
     by_cases hab:a = b
     ·subst hab
      rw [Rep.inj rd0 re0,jem]
      exact SeqAt.EqAt.same _
     ·obtain ⟨its,w1,p1⟩:=I.tupE q
      obtain ⟨its2,w2,p2⟩:=I.tupE q2
      have k:=SeqAt.RcAt.tuples p1 p2 hu0 (items hn' r1 r2 w1 w2)
      have e0:((List.range (min its.toArray.size its2.toArray.size)).all (jgn ds es) && its.toArray.size == its2.toArray.size) = eqP (.tup ds) (.tup es):=by
       have l1:=w1.length
       have l2:=w2.length
       have l3:=r1.len
       have l4:=r2.len
       rw [eqP,List.size_toArray,List.size_toArray]
       by_cases hl:ds.length = es.length
       ·rw [jde hl,← l1,← l2,l3,l4,hl,Nat.min_self]
        simp
       ·rw [jel hl]
        have:(its.length == its2.length) = false:=by
         rw [beq_eq_false_iff_ne]; omega
        rw [this,Bool.and_false]
      rw [e0] at k
      exact .of_refs hab k
    ·rename_i ds es
     rw [Rep] at rd
     rw [Rep] at re
     obtain ⟨a,vs,rfl,q,r1⟩:=rd
     obtain ⟨b,ws,rfl,q2,r2⟩:=re
     cases rx; cases ry
     obtain ⟨its,w1,p1⟩:=I.tupE q
     obtain ⟨its2,w2,p2⟩:=I.lstE q2
     have:eqP (.tup ds) (.lst es) = false:=by simp [eqP]
     rw [this]
     exact SeqAt.EqAt.tuple_list p1 p2 hu0
    ·rename_i ds es
     rw [Rep] at rd
     rw [Rep] at re
     obtain ⟨a,vs,rfl,q,r1⟩:=rd
     obtain ⟨b,ws,rfl,q2,r2⟩:=re
     cases rx; cases ry
     obtain ⟨its,w1,p1⟩:=I.lstE q
     obtain ⟨its2,w2,p2⟩:=I.tupE q2
     have:eqP (.lst ds) (.tup es) = false:=by simp [eqP]
     rw [this]
     exact SeqAt.EqAt.list_tuple p1 p2 hu0
    ·rename_i ds es
     have hn':jdl ds ≤ n:=by rw [depP] at hn; omega
     have rd0:=rd
     have re0:=re
     rw [Rep] at rd
     rw [Rep] at re
     obtain ⟨a,vs,rfl,q,r1⟩:=rd
     obtain ⟨b,ws,rfl,q2,r2⟩:=re
     cases rx; cases ry
     by_cases hab:a = b
     ·subst hab
      rw [Rep.inj rd0 re0,jem]
      exact SeqAt.EqAt.same _
     ·obtain ⟨its,w1,p1⟩:=I.lstE q
      obtain ⟨its2,w2,p2⟩:=I.lstE q2
      have l1:=w1.length
      have l2:=w2.length
      have l3:=r1.len
      have l4:=r2.len
      refine .of_refs hab ?_
      rw [eqP]
      by_cases hl:ds.length = es.length
      ·rw [jde hl]
       have k:=SeqAt.RcAt.lists p1 p2 (by rw [List.size_toArray,List.size_toArray]; omega) hu0 (items hn' r1 r2 w1 w2)
       rw [List.size_toArray,← l1,l3] at k
       exact k
      ·rw [jel hl]
       exact SeqAt.RcAt.lists_lengths p1 p2 (by rw [List.size_toArray,List.size_toArray]; simp; omega) hu0
end
end L2
namespace L2
open PySem PySem.Spec PyProof.Rows
section
variable {prog:Program} {w:World} {A:Around} {R:Result→Shared→Prop} {I:Addr} {fp wr:List Addr} {n:Nat} {P:Nat→Value→Prop} {St:Nat→Heap→Prop}
def Best (val:Nat→Int) (n:Nat) (m:Int):Prop:=(∃ i,i < n∧m = val i)∧∀ i,i < n→val i ≤ m
theorem Best.keep {val:Nat→Int} {j:Nat} {m:Int} (h:Best val j m) (hb:¬ val j > m):Best val (j + 1) m :=
 ⟨let ⟨i,hi,e⟩:=h.1; ⟨i,Nat.lt_succ_of_lt hi,e⟩,fun i hi=>by
  rcases Nat.lt_succ_iff_lt_or_eq.mp hi with z | z
  ·exact h.2 i z
  ·rw [z]; omega⟩
end
section
variable {X:Cx}
def tCBK (r:List V→List V→Hp→VK→Prop) (t tk:TA):TE:=fun σ H Q=>t σ H fun vs H1=>tk σ H1 fun zs H2=>r vs zs H2 Q
end
end L2
namespace L2
open PySem PySem.Spec PyProof.Rows
section
variable {X:Cx} {pins:List (Addr × Obj)} {σ:St} {H:Hp} {s:Shared}
theorem jph (n:Nat) {A:Around} (I:Inv X pins σ H s) {ds es:List Dt} {vs ws:List V} {its its2:List Value} (hdp:jdl ds ≤ n) (hu:A.units + n < cLine) (r1:Reps H ds vs) (r2:Reps H es ws) (w1:Vals vs its) (w2:Vals ws its2) :
  ∀ j (h1:j < its.toArray.size) (h2:j < its2.toArray.size),SeqAt.EqAt A s its.toArray[j] its2.toArray[j] (jgn ds es j):=by
 intro j h1 h2
 rw [List.size_toArray] at h1 h2
 have l1:=w1.length
 have l2:=w2.length
 obtain ⟨u',e1,q1⟩:=w1.get (i:=j) (x:=vs[j]'(by omega)) (List.getElem?_eq_getElem _)
 obtain ⟨v',e2,q2⟩:=w2.get (i:=j) (x:=ws[j]'(by omega)) (List.getElem?_eq_getElem _)
 obtain ⟨d',f1,g1⟩:=r1.at (i:=j) (List.getElem?_eq_getElem (by omega))
 obtain ⟨e',f2,g2⟩:=r2.at (i:=j) (List.getElem?_eq_getElem (by omega))
 rw [List.getElem?_eq_getElem h1] at e1
 rw [List.getElem?_eq_getElem h2] at e2
 cases e1; cases e2
 have hj:jgn ds es j = eqP d' e':=by unfold jgn; rw [f1,f2]
 rw [hj]
 have:=jit f1
 exact eqAt_D n I (by omega) hu g1 g2 q1 q2
theorem jmt {ds es:List Dt} {vs ws:List V} {its its2:List Value} (r1:Reps H ds vs) (r2:Reps H es ws) (w1:Vals vs its) (w2:Vals ws its2) :
  ((List.range (min its.toArray.size its2.toArray.size)).all (jgn ds es) && its.toArray.size == its2.toArray.size) = eqPs ds es:=by
 have l1:=w1.length
 have l2:=w2.length
 have l3:=r1.len
 have l4:=r2.len
 rw [List.size_toArray,List.size_toArray]
 by_cases hl:ds.length = es.length
 ·rw [jde hl,← l1,← l2,l3,l4,hl,Nat.min_self]
  simp
 ·rw [jel hl]
  have:(its.length == its2.length) = false:=by
   rw [beq_eq_false_iff_ne]; omega
  rw [this,Bool.and_false]
def rEqD (neg:Bool):R2:=fun x y H Q=>∃ d e,Rep H d x∧Rep H e y∧depP d ≤ 20∧((∃ ds es,d = .lst ds∧e = .lst es) ∨ ∃ ds es,d = .tup ds∧e = .tup es)∧Q (.bl (if neg = true then !eqP d e else eqP d e)) H
theorem jse (hu:X.A.units + 64 < cLine):OpR X (compareOp .NotEq) (rEqD true):=by
 intro pins s σ H x y v u Q I rx ry h
 obtain ⟨d,e,rd,re,hd,hk,q⟩:=h
 have hu0:X.A.units < cLine:=by omega
 rcases hk with ⟨ds,es,rfl,rfl⟩ | ⟨ds,es,rfl,rfl⟩
 ·have hn':jdl ds ≤ 20:=by rw [depP] at hd; omega
  rw [Rep] at rd re
  obtain ⟨a,vs,rfl,q1,r1⟩:=rd
  obtain ⟨b,ws,rfl,q2,r2⟩:=re
  cases rx; cases ry
  obtain ⟨its,w1,p1⟩:=I.lstE q1
  obtain ⟨its2,w2,p2⟩:=I.lstE q2
  have l1:=w1.length
  have l2:=w2.length
  have l3:=r1.len
  have l4:=r2.len
  by_cases hl:ds.length = es.length
  ·refine SeqAt.RcNeAt.lists (e:=jgn ds es) p1 p2 (by rw [List.size_toArray,List.size_toArray]; omega) hu0 (jph 20 I hn' (by show X.A.units + 1 + 20 < cLine; omega) r1 r2 w1 w2) _ _ _ _ ⟨.bl _,H,I,rfl,?_⟩
   rw [List.size_toArray,← l1,l3,← jde hl]
   rw [eqP] at q
   exact q
  ·refine SeqAt.RcNeAt.lists_lengths p1 p2 (by rw [List.size_toArray,List.size_toArray]; simp; omega) hu0 _ _ _ _ ⟨.bl _,H,I,rfl,?_⟩
   rw [eqP,jel hl] at q
   exact q
 ·have hn':jdl ds ≤ 20:=by rw [depP] at hd; omega
  rw [Rep] at rd re
  obtain ⟨a,vs,rfl,q1,r1⟩:=rd
  obtain ⟨b,ws,rfl,q2,r2⟩:=re
  cases rx; cases ry
  obtain ⟨its,w1,p1⟩:=I.tupE q1
  obtain ⟨its2,w2,p2⟩:=I.tupE q2
  refine SeqAt.RcNeAt.tuples (e:=jgn ds es) p1 p2 hu0 (jph 20 I hn' (by show X.A.units + 1 + 20 < cLine; omega) r1 r2 w1 w2) _ _ _ _ ⟨.bl _,H,I,rfl,?_⟩
  rw [jmt r1 r2 w1 w2]
  rw [eqP] at q
  exact q
end
end L2
namespace L2
open PySem PySem.Spec PyProof.Rows
section
variable {X:Cx} {o i e f value:Expr} {td ty tv tx:TE} {pos pos' apos cpos:Pos}
def ja9 (td ty tv:TE):TS:=fun D σ H=>tv σ H fun v H1=>td σ H1 fun x H2=>ty σ H2 fun y H3=>match x,y with
 | .ref a,.int n=>match H3 a with
  | some (.dK kvs)=>kvs.length < sizeLine∧D.nx σ (upd H3 a (.dK (putK kvs (Sum.inl n:Key) v)))
  | _=>False
 | _,_=>False
theorem dput_r {x y:V} {H3:Hp} {R:List (Key × V)→Addr→Int→Prop} (h:match x,y with
 | .ref a,.int n=>match H3 a with
  | some (.dK kvs)=>R kvs a n
  | _=>False
 | _,_=>False):∃ a n kvs,x = .ref a∧y = .int n∧H3 a = some (.dK kvs)∧R kvs a n:=by
 split at h
 ·split at h
  ·rename_i e; exact ⟨_,_,_,rfl,rfl,e,h⟩
  ·exact h.elim
 ·exact h.elim
theorem ju6 {y:V} {a:Addr} {H3:Hp} {R:List (Key × V)→Int→Prop} (h:match y with
 | .int n=>match H3 a with
  | some (.dK kvs)=>R kvs n
  | _=>False
 | _=>False):∃ n kvs,y = .int n∧H3 a = some (.dK kvs)∧R kvs n:=by
 split at h
 ·split at h
  ·rename_i e; exact ⟨_,_,rfl,e,h⟩
  ·exact h.elim
 ·exact h.elim
theorem jh8 (hu:X.A.units + 1 < cLine) (ho:PE X o td) (hi:PE X i ty) (hv:PE X value tv) (hs:swapsWith value (some (.Subscript o i pos')) pos.line X.env = pure false:=by rfl) :
  PS X (.Assign [.Subscript o i pos'] value pos) (ja9 td ty tv):=by
 intro pins s σ H D I h
 refine wpAny_Assign_Subscript (thn (hv pins s σ H _ I h) fun r s1 ⟨v,H1,I1,rv,q1⟩=>thn (ho pins s1 σ H1 _ I1 q1) fun u s2 ⟨x,H2,I2,rx,q2⟩=>thn (hi pins s2 σ H2 _ I2 q2) fun iv s3 ⟨y,H3,I3,ry,q3⟩=>?_) hs
 obtain ⟨a,n,kvs,rfl,rfl,ea,q4,q5⟩:=dput_r (R:=fun kvs a n=>kvs.length < sizeLine∧D.nx σ (upd H3 a (.dK (putK kvs (Sum.inl n:Key) v)))) q3
 obtain rfl:u = Value.ref a:=rx
 exact jka hu I3 (DPut.k (k:=Sum.inl n) ea q4) ry rv fun s4 I4=>⟨σ,_,I4,q5⟩
def jaa (td ty tx:TE):TE:=fun σ H Q=>td σ H fun x H1=>match x with
 | .ref a=>(∃ kvs,H1 a = some (.dK kvs))∧ty σ H1 fun y H2=>tx σ H2 fun z H3=>match y with
  | .int n=>match H3 a with
   | some (.dK kvs)=>Q ((valV kvs (Sum.inl n:Key)).getD z) H3
   | _=>False
  | _=>False
 | _=>False
theorem jkt (hu:X.A.units + 1 < cLine) (ho:PE X o td) (he:PE X e ty) (hf:PE X f tx) (m:M2 X o "get" apos e f cpos:=by exact ⟨rfl,rfl,rfl,rfl⟩):PE X (.Call (.Attribute o "get" apos) [e,f] [] cpos) (jaa td ty tx):=by
  intro pins s σ H Q I h
  refine wpAny_Call_method m.base m.few m.line PySem.F.plainAttrs_dict PySem.F.slot_dict_get PySem.F.type_dict_get (thn (ho pins s σ H _ I h) fun u s1 ⟨x,H1,I1,rx,q1⟩=>?_)
  cases x <;> first
    | exact False.elim q1
    | (rename_i a
       dsimp only at q1
       obtain ⟨⟨kvs0,e0⟩,q1⟩:=q1
       obtain rfl:u = Value.ref a:=rx
       obtain ⟨t1,t2,_⟩:=jsj I1 (.inl ⟨kvs0,.inl e0⟩)
       refine ⟨t1,t2,?_⟩
       rw [m.trees]
       refine Calls.callWith_builtin rfl (Calls.evalArgs_plain (Calls.spliced_cons (thn (he pins s1 σ H1 _ I1 q1) fun iv s2 ⟨y,H2,I2,ry,q2⟩ =>
         Calls.spliced_cons (thn (hf pins s2 σ H2 _ I2 q2) fun fv s3 ⟨z,H3,I3,rz,q3⟩=>Calls.spliced_nil ?_))))
       obtain ⟨n,kvs,rfl,ea,q4⟩:=ju6 (R:=fun kvs n=>Q ((valV kvs (Sum.inl n:Key)).getD z) H3) q3
       exact d_get2 hu I3 (DGet.k (k:=Sum.inl n) ea) ry rz fun w' s4 I4 rw'=>⟨_,H3,I4,rw',q4⟩)
def fCat:R2:=fun x y H Q=>match x,y with
 | .ref l,.ref b=>match H l,H b with
  | some (.lst xs),some (.lst zs)=>xs.length + zs.length ≤ sizeLine∧∀ p,H p = none→Q (.ref p) (upd H p (.lst (xs ++ zs)))
  | _,_=>False
 | _,_=>False
def jae:V→List V→Hp→VK→Prop:=fun x vs H Q=>match x,vs with
 | .ref l,[]=>match H l with
  | some (.lst _)=>Q .non (upd H l (.lst []))
  | _=>False
 | _,_=>False
def fBM0 (r:V→List V→Hp→VK→Prop) (to:TE):TE:=fun σ H Q=>to σ H fun x H1=>(∃ a xs,x = .ref a∧H1 a = some (.lst xs))∧r x [] H1 Q
def fSlT:V→Option Int→Option Int→Hp→VK→Prop:=fun x lo hi H Q=>match x with
 | .ref a=>match H a with
  | some (.tup xs)=>¬ (HT.sIx xs.length 0 lo = 0∧HT.sIx xs.length xs.length hi = xs.length)∧∀ p,H p = none→Q (.ref p) (upd H p (.tup (cutV xs lo hi)))
  | _=>False
 | _=>False
def jap:List V→Hp→VK→Prop:=fun vs H Q=>match vs with
 | [.bl k]=>Q (.int (if k = true then 1 else 0)) H
 | [.int i]=>Q (.int i) H
 | _=>False
theorem q_int1:jcr X (.type "int") jap:=jq8.imp fun vs H Q h=>by
 unfold jap at h
 split at h
 ·exact .inr ⟨_,rfl,h⟩
 ·exact .inl ⟨_,rfl,h⟩
 ·exact h.elim
end
end L2
namespace L2
open PySem PySem.Spec PyProof.Rows
section
variable {prog:Program} {w:World} {A:Around} {E:Value→Shared→Prop}
end
section
variable {X:Cx} {es:List Expr} {pos:Pos}
def jb4 (n:Nat) (t:TGs):TG:=fun v σ H Q=>match v with
 | .ref a=>match H a with
  | some (.lst xs)=>xs.length = n∧t xs σ H Q
  | _=>False
 | _=>False
end
end L2
namespace L2
open PySem PySem.Spec PyProof.Rows
def TrD (h B:Heap) (x:Addr) (cl:Value) (dd:Option Addr) (fl:Value):Prop :=
 ∃ ox ws T oT ts,h.get? x = some ox∧ox.cls = cl∧ox.dict = dd∧ox.data = .fields ws∧ws[1]? = some (.ref T)∧B.get? T = none∧T ≠ x∧h.get? T = some oT∧oT.data = .fields ts∧ts[3]? = some fl∧(dd ≠ none→ws[2]? = some .none)
structure FlyD (B:Heap) (l:List Env) (x:Addr) (cl:Value) (dd:Option Addr) (fl:Value) (h:Heap):Prop where
 stays:B.StaysIn h
 new:B.get? x = none
 funs:h.FunFrames B l
 tr:TrD h B x cl dd fl
theorem FlyD.there {B:Heap} {l:List Env} {x:Addr} {cl:Value} {dd:Option Addr} {fl:Value} {h:Heap} (f:FlyD B l x cl dd fl h):∃ ox ws,h.get? x = some ox∧ox.cls = cl∧ox.dict = dd∧ox.data = .fields ws:=by
 obtain ⟨ox,ws,_,_,_,h1,h2,h3,h4,_⟩:=f.tr
 exact ⟨ox,ws,h1,h2,h3,h4⟩
section
variable {M:Model} {A:Around} {E:Value→Shared→Prop} {s:Shared} {B:Heap} {env:Env} {l:List Env} {L x:Addr} {cl:Value} {dd:Option Addr} {Q:Unit→Shared→Prop}
end
end L2
namespace L2
open PySem PySem.Spec PyProof.Rows
structure Df (X:Cx):Prop where
 stk:X.stack = X.env :: X.outer
 fr:X.env.frame = some X.env.locals
 ex:X.ex = []
 fn:∀ x,X.fn x = true
structure Cov (X:Cx) (B:Heap) (H:Hp) (h:Heap):Prop where
 tr:∀ b o,H b = some o→∃ q,h.get? b = some q∧B.get? b = some q
 old:∀ b o,X.s₀.heap.get? b = some o→b ∉ frs X.stack→∃ q,h.get? b = some q∧B.get? b = some q
 pin:∀ p ∈ X.pn,B.get? p.1 = some p.2
 cel:∀ x c,X.env.cells.lookup x = some c→∃ q,h.get? c = some q∧B.get? c = some q
section
variable {X:Cx} {σ:St} {H:Hp} {s:Shared} {B h':Heap}
end
inductive Md (B:Heap) (l:List Env) (L x:Addr) (cl:Value) (dd:Option Addr) (h:Heap):Prop where
 | new {ox:Obj} {ws:Array Value}:h.get? x = some ox→ox.cls = cl→ox.dict = dd→ox.data = .fields ws→ws[1]? = some .none→(dd ≠ none→ws[2]? = some .none)→B.StaysIn h→B.get? x = none→h.FunFrames B l→Md B l L x cl dd h
 | fly:FlyD B l x cl dd .none h→Md B l L x cl dd h
 | held:FlyD B l x cl dd (rawInt L) h→Md B l L x cl dd h
theorem Md.stays {B:Heap} {l:List Env} {L x:Addr} {cl:Value} {dd:Option Addr} {h:Heap} (m:Md B l L x cl dd h):B.StaysIn h:=by
 cases m with
 | new _ _ _ _ _ _ s _ _=>exact s
 | fly f=>exact f.stays
 | held f=>exact f.stays
def XT (X:Cx) (EX:St→XK):Value→Shared→Prop:=fun e s'=>∃ (x:Addr) (cl:Value) (dd:Option Addr) (σ:St) (H:Hp) (B:Heap),e = .ref x∧Inv X [] σ H s'∧H x = none∧X.s₀.heap.objs.size ≤ x∧Cov X B H s'.heap∧EX σ cl dd H∧Md B X.stack X.env.locals x cl dd s'.heap
def Cx.tr (X:Cx) (pins:List (Addr × Obj)) (EX:St→XK):Cx:={ X with pn:=X.pn ++ pins,xe:=XT { X with pn:=X.pn ++ pins } EX }
theorem Cx.Ok.pn {X:Cx} (ok:X.Ok) (pn:List (Addr × Obj)) (E:Value→Shared→Prop):({ X with pn:=pn,xe:=E }:Cx).Ok :=
 ⟨ok.mod,ok.kind,ok.glob,ok.blt,ok.above,ok.inj,ok.has,ok.cab,ok.hd,ok.frames,ok.stk,ok.exf,ok.bs,ok.bsz,ok.noex,ok.exfs,ok.funs,ok.frf⟩
theorem Inv.tr {X:Cx} {pins:List (Addr × Obj)} {σ:St} {H:Hp} {s:Shared} (I:Inv X pins σ H s) (EX:St→XK):Inv (X.tr pins EX) [] σ H s :=
 ⟨I.ok.pn _ _,I.os,I.bare,I.base,I.loc,I.cell,I.free,I.freeC,fun p hp=>I.pin p (by
  have:p ∈ (X.pn ++ pins) ++ []:=hp
  simpa using this),I.hok,I.len⟩
theorem Df.tr {X:Cx} (d:Df X) (pins:List (Addr × Obj)) (EX:St→XK):Df (X.tr pins EX):=⟨d.stk,d.fr,d.ex,d.fn⟩
end L2
namespace L2
open PySem PySem.Spec PyProof.Rows
section
variable {X:Cx} {CX:CXT} {k:Nat} {f:Addr} {fd:FuncData} {ps:List Str} {sp:Sp} {EX:St→XK} {x:Str} {p pos:Pos} {e:Expr} {es:List Expr} {t:TA} {ds:List Value} {dvs:List V}
end
section
variable {P:Program} {w:World} {K:PySem.W.Frag} {mg:Str→Option Value} {base:Heap}
end
section
variable {prog:Program} {w:World} {A:Around} {E:Value→Shared→Prop} {h:Heap} {g:Array GenState} {d:Drawn} {t:Nat} {os:OsState}
variable {nm q:Str} {C N:Addr} {bs bm bmB:List Value} {hdct:Bool} {sn:List Str} {sub:List Value} {ab:Bool} {col:Option Bool} {dd:Option Addr} {k0 k1 k2 k3 k5:Option Value} {B newId initId:String}
end
end L2
namespace L2
open PySem PySem.Spec PyProof.Rows Builtin Builtin.ObjectAttr
section
variable {prog:Program} {w:World} {A:Around} {E:Value→Shared→Prop} {h:Heap} {g:Array GenState} {d:Drawn} {t:Nat} {os:OsState} {C:Addr} {bmB:List Value} {B newId initId:String}
end
def jsi:Value→Bool
 | .ref _=>true
 | _=>false
theorem jsi.ex {v:Value} (h:jsi v = true):∃ a,v = .ref a:=by
 cases v <;> first | exact ⟨_,rfl⟩ | cases h
section
variable {prog:Program} {w:World} {A:Around} {E:Value→Shared→Prop} {s:Shared} {K:PySem.W.Frag} {x C t0:Addr} {dz:Option Addr} {name:Str} {v:Value} {Q:Unit→Shared→Prop}
end
end L2
namespace L2
open PySem PySem.Spec PyProof.Rows
section
variable {P:Program} {w:World} {H:Hp} {h:Heap} {a C:Addr} {dd:Option Addr} {fs:List (Str × V)}
end
section
variable {X:Cx} {pins:List (Addr × Obj)} {σ:St} {H:Hp} {s:Shared} {h':Heap} {x dx:Addr} {φ:Heap→Prop} {o1 o2:HO} {t':Nat}
end
section
variable {X:Cx} {o value e:Expr} {es:List Expr} {f x:Str} {p pos pos' apos:Pos} {ta tv:TE} {t:TA} {C T:Addr} {bmB:List Value} {B newId initId:String} {fI:Addr}
end
end L2
namespace L2
open PySem PySem.Spec PyProof.Rows
section
variable {X:Cx} {EX:St→XK} {k:Nat} {fI C:Addr} {fd:FuncData} {ps:List Str} {sp:Sp} {x:Str} {p cpos pos:Pos} {e:Expr} {es:List Expr} {t:TA} {bmB:List Value} {B newId initId:String}
end
end L2
namespace L2
open PySem PySem.Spec PyProof.Rows
section
variable {X:Cx} {pins:List (Addr × Obj)} {σ:St} {H:Hp} {s:Shared} {x:Addr} {o:HO}
end
section
variable {X:Cx} {x n:Str} {np hpos pos:Pos} {body suite:List Stmt} {b0:Stmt} {C:Addr} {mt:Value→Prop} {i:Nat} {tb:(St→XK)→TS} {th:TS}
end
end L2
namespace L2
open PySem PySem.Spec PyProof.Rows
section
variable {X:Cx} {C dx a:Addr} {fs:List (Str × V)} {H:Hp} {s:Shared}
end
end L2
namespace L2
open PySem PySem.Spec PyProof.Rows Builtin Builtin.ObjectAttr
structure XG (K:PySem.W.Frag) (C:Addr):Prop where
 ga:PySem.W.findIn K (.ref C) "__getattribute__" = some (some (.builtin "BaseException.__getattribute__"))
 gt:PySem.W.findIn K (.ref C) "__getattr__" = some none
 sub:PySem.W.mroIn K C (.type "BaseException") = some true
section
variable {prog:Program} {w:World} {A:Around} {E:Value→Shared→Prop} {s:Shared} {K:PySem.W.Frag} {x C:Addr} {ox:Obj} {od:Option Obj} {name:Str} {v:Value}
end
structure XY (K:PySem.W.Frag) (C:Addr):Prop where
 g:XG K C
 hd:PySem.W.hasDictIn K C = true
 ha:PySem.W.findIn K (.ref C) "__class__" = some (some (.builtin "object.__class__"))
 hn:PySem.W.specialIn K (.builtin "object.__class__") "__get__" = some (some (.builtin "getset_descriptor.__get__"))
 ht:PySem.W.takesIn K (.builtin "object.__class__") = some true
 hm:PySem.W.mroIn K C (.type "object") = some true
theorem XY.cls {K:PySem.W.Frag} {C:Addr} (y:XY K C):∃ c d cd sl,K.lookup C = some ⟨c,d,.cls cd,sl⟩:=by
 obtain ⟨cd,hc,_⟩:=PySem.W.any_some y.hd
 unfold PySem.W.clsIn at hc
 split at hc
 ·rename_i ho
  exact ⟨_,_,_,_,ho⟩
 ·cases hc
section
variable {X:Cx} {C dx a:Addr} {fs:List (Str × V)} {H:Hp} {s:Shared}
end
end L2
namespace L2
open PySem PySem.Spec PyProof.Rows
section
variable {X:Cx}
end
end L2
namespace L2
open PySem PySem.Spec PyProof.Rows
structure RoomH (k:Nat) (A:Around):Prop where
 dp:A.depth + 3 * k + 5 < recursionLimit
 un:A.units + 16 * k + 200 < cLine
theorem Room.h {j k:Nat} {A:Around} (r:Room k A) (h:j ≤ k):RoomH j A:=⟨(r.mono h).dp,(r.mono h).un⟩
theorem Room.hm {j k:Nat} {A:Around} {o:Option Value} (r:Room k A) (h:j ≤ k):RoomH j (A.mark o):=⟨(r.mono h).dp,(r.mono h).un⟩
theorem RoomH.mono {j k:Nat} {A:Around} (r:RoomH k A) (h:j ≤ k):RoomH j A:=⟨by have:=r.dp; omega,by have:=r.un; omega⟩
section
variable {P:Program} {w:World} {K:PySem.W.Frag} {mg:Str→Option Value} {base:Heap}
end
section
variable {X:Cx} {k:Nat} {f:Addr} {fd:FuncData} {ps:List Str} {sp:Sp} {x:Str} {p pos:Pos} {e:Expr} {es:List Expr} {t:TA}
end
section
variable {X:Cx} {C:Addr}
end
end L2
namespace L2
open PySem PySem.Spec PyProof.Rows
section
variable {X:Cx} {x n:Str} {np hpos pos:Pos} {body suite:List Stmt} {b0:Stmt} {C:Addr} {mt:Value→Prop} {tb:(St→XK)→TS} {th:TS}
end
end L2
namespace L2
open PySem PySem.Spec PyProof.Rows
section
variable {prog:Program} {w:World} {A:Around} {E:Value→Shared→Prop} {s:Shared} {C a:Addr} {bmB:List Value} {newId:String}
end
section
variable {prog:Program} {w:World} {A:Around} {E:Value→Shared→Prop} {h:Heap} {g:Array GenState} {d:Drawn} {t:Nat} {os:OsState}
variable {C:Addr} {bmB:List Value} {B newId initId:String}
end
section
variable {X:Cx} {x y:Str} {np hpos pos p cpos rpos cp:Pos} {kk:Nat} {body:List Stmt} {C D':Addr} {mt:Value→Prop} {tb:(St→XK)→TS} {EX:St→XK} {e:Expr} {es:List Expr} {t:TA} {bmB:List Value} {B newId initId:String}
end
end L2
namespace L2
open PySem PySem.Spec PyProof.Rows
open PySem.Builtin.ObjectAttr
section
variable {X:Cx} {C a:Addr} {H:Hp} {s:Shared}
end
end L2
namespace L2
open PySem PySem.Spec PyProof.Rows
def CDivB (i j:Int):Prop:=0 < j∧j < 1000000000000000000
section
variable {X:Cx}
theorem jt3:OpR X (binaryOp .FloorDiv) (fIC CDivB fun i j=>.int (i / j)):=by
 intro pins s σ H x y v u Q I rx ry h
 unfold fIC at h
 split at h
 ·rename_i i j
  obtain ⟨⟨h1,h2⟩,q⟩:=h
  obtain ⟨t,rfl⟩:=rx
  obtain ⟨t',rfl⟩:=ry
  refine floordiv_int (by omega) ?_ (.inl (PyProof.noPylong_of_log2 ?_))
  ·rw [Int.fdiv_eq_ediv_of_nonneg i (by omega)]
   exact ⟨.int (i / j),H,I.tok _,⟨_,rfl⟩,q⟩
  ·by_cases h0:j.natAbs = 0
   ·rw [h0]; decide
   ·exact Nat.lt_of_lt_of_le ((Nat.log2_lt h0).mpr (show j.natAbs < 2 ^ 60 by omega)) (by decide)
 ·exact h.elim
end
end L2
namespace L2
open PySem PySem.Spec PyProof.Rows
theorem jb8 {a b:TS} {D:Ends} {σ:St} {H:Hp} (h:∀ R,R = b→tSeq a R D σ H):tSeq a b D σ H:=h b rfl
theorem jeu {ι:Type} {wi:TI} {g:TG} {tb:TS} {D:Ends} {σ:St} {H:Hp} (J:ι→It) (H1:ι→Hp) (ok:ι→Prop) (h1:∀ R:It→Hp→Prop,(∀ i,ok i→R (J i) (H1 i))→wi σ H R)
  (h2:∀ i0,ok i0→∃ W:Nat→Nat→St→Hp→Prop,(∃ m,W 0 m σ (H1 i0))∧∀ i m σ H,W i m σ H→((J i0).stop i H∧D.nx σ H) ∨ ((J i0).go i H∧∃ N:St→Hp→Prop,(∀ σ' H',N σ' H'→∃ m',m' < m∧W (i + 1) m' σ' H')∧∀ x H',(J i0).yld i H x H'→g x σ H' fun σ2 H2=>tb { D with nx:=N,ct:=N,bk:=D.nx } σ2 H2)) :
  tFor wi g tb D σ H:=h1 _ h2
section
variable {X:Cx}
end
end L2
namespace So
open PySem PyProof.Rows
def kv (R:Keyed→Int) (xs:Array Keyed) (i:Nat):Int:=(xs[i]?.map R).getD 0
theorem jpa {R:Keyed→Int} {xs ys:Array Keyed} {i j:Nat} (h:xs[i]? = ys[j]?):kv R xs i = kv R ys j:=by unfold kv; rw [h]
theorem kv_at {R:Keyed→Int} {xs:Array Keyed} {i:Nat} {x:Keyed} (h:xs[i]? = some x):kv R xs i = R x:=by unfold kv; rw [h]; rfl
def Up (R:Keyed→Int) (xs:Array Keyed) (a b:Nat):Prop:=∀ i j,a ≤ i→i ≤ j→j < b→kv R xs i ≤ kv R xs j
def Dn (R:Keyed→Int) (xs:Array Keyed) (a b:Nat):Prop:=∀ i j,a ≤ i→i ≤ j→j < b→kv R xs j ≤ kv R xs i
def Fore (lo:Nat) (xs ys:Array Keyed):Prop:=∀ i,i < lo→ys[i]? = xs[i]?
theorem Fore.rfl' {lo:Nat} {xs:Array Keyed}:Fore lo xs xs:=fun _ _=>rfl
theorem Fore.tr {lo:Nat} {xs ys zs:Array Keyed} (a:Fore lo xs ys) (b:Fore lo ys zs):Fore lo xs zs:=fun i h=>(b i h).trans (a i h)
theorem Up.one {R:Keyed→Int} {xs:Array Keyed} {a b:Nat} (h:b ≤ a + 1):Up R xs a b:=fun i j h1 h2 h3=>by
 have e:i = j:=by omega
 rw [e]; exact Int.le_refl _
theorem Up.grow {R:Keyed→Int} {xs:Array Keyed} {a b:Nat} (h:Up R xs a b) (h2:a < b) (hl:kv R xs (b - 1) ≤ kv R xs b):Up R xs a (b + 1):=fun i j h3 h4 h5=>by
 by_cases hj:j < b
 ·exact h i j h3 h4 hj
 ·have e:j = b:=by omega
  rw [e] at h4 ⊢
  by_cases hi:i = b
  ·rw [hi]; exact Int.le_refl _
  ·exact Int.le_trans (h i (b - 1) h3 (by omega) (by omega)) hl
theorem Dn.grow {R:Keyed→Int} {xs:Array Keyed} {a b:Nat} (h:Dn R xs a b) (h2:a < b) (hl:kv R xs b ≤ kv R xs (b - 1)):Dn R xs a (b + 1):=fun i j h3 h4 h5=>by
 by_cases hj:j < b
 ·exact h i j h3 h4 hj
 ·have e:j = b:=by omega
  rw [e] at h4 ⊢
  by_cases hi:i = b
  ·rw [hi]; exact Int.le_refl _
  ·exact Int.le_trans hl (h i (b - 1) h3 (by omega) (by omega))
theorem Dn.like {R:Keyed→Int} {xs ys:Array Keyed} {a b:Nat} (h:Dn R xs a b) (e:∀ k,kv R ys k = kv R xs k):Dn R ys a b:=fun i j h1 h2 h3=>by rw [e,e]; exact h i j h1 h2 h3
theorem jlc {R:Keyed→Int} {xs:Array Keyed} {i j:Nat} (hj:j ≤ xs.size) (k:Nat) :
  kv R (mirror xs i j ((j - i) / 2)) k = if i ≤ k∧k < j then kv R xs (i + j - 1 - k) else kv R xs k:=by
 have e:=getElem?_mirror_all (i:=i) hj k
 by_cases c:i ≤ k∧k < j
 ·rw [if_pos c] at e ⊢; exact jpa e
 ·rw [if_neg c] at e ⊢; exact jpa e
theorem jdo {R:Keyed→Int} {xs:Array Keyed} {i j:Nat} (hj:j ≤ xs.size) (q:∀ k,i ≤ k→k < j→kv R xs k = kv R xs (j - 1)) (k:Nat) :
  kv R (mirror xs i j ((j - i) / 2)) k = kv R xs k:=by
 rw [jlc hj]
 split
 ·rename_i c; rw [q _ (by omega) (by omega),q k c.1 c.2]
 ·rfl
theorem jek {lo:Nat} {xs:Array Keyed} {i j:Nat} (hj:j ≤ xs.size) (hi:lo ≤ i):Fore lo xs (mirror xs i j ((j - i) / 2)):=fun k hk=>by
 rw [getElem?_mirror_all hj,if_neg (by omega)]
theorem jp9 {R:Keyed→Int} {xs:Array Keyed} {src d:Nat} (hs:src < xs.size) (hd:d ≤ src) (k:Nat) :
  kv R (bubble xs src d) k = if k = src - d then kv R xs src else if src - d < k∧k ≤ src then kv R xs (k - 1) else kv R xs k:=by
 have e:=getElem?_bubble hs d hd k
 by_cases c:k = src - d
 ·rw [if_pos c] at e ⊢; exact jpa e
 ·rw [if_neg c] at e ⊢
  by_cases c2:src - d < k∧k ≤ src
  ·rw [if_pos c2] at e ⊢; exact jpa e
  ·rw [if_neg c2] at e ⊢; exact jpa e
theorem jpq {lo:Nat} {xs:Array Keyed} {src d:Nat} (hs:src < xs.size) (hd:lo + d ≤ src):Fore lo xs (bubble xs src d):=fun k hk=>by
 rw [getElem?_bubble hs d (by omega),if_neg (by omega),if_neg (by omega)]
structure Bs (κ:SortKind) (a₀:Array Keyed) (pd:Array (Nat × Nat × Nat)) (st:SortSt):Prop where
 perm:(arrOf st).Perm a₀
 kind:kindOf st = κ
 ok:failedOf st = none
 pend:pendingOf st = pd
section
variable {prog:Program} {w:World} {A:Around} {E:Value→Shared→Prop} {s:Shared} {R:Keyed→Int} {κ:SortKind} {a₀:Array Keyed} {pd:Array (Nat × Nat × Nat)}
theorem Bs.size {st:SortSt} (b:Bs κ a₀ pd st):(arrOf st).size = a₀.size:=b.perm.size_eq
theorem Bs.put {st:SortSt} (b:Bs κ a₀ pd st) {xs:Array Keyed} (p:xs.Perm (arrOf st)):Bs κ a₀ pd (setArr st xs):=⟨p.trans b.perm,b.kind,b.ok,b.pend⟩
theorem Bs.get {st:SortSt} (b:Bs κ a₀ pd st) {i:Nat} (hi:i < a₀.size):∃ x,(arrOf st)[i]? = some x∧x ∈ a₀.toList:=by
 have h1:i < (arrOf st).size:=by rw [b.size]; exact hi
 exact ⟨(arrOf st)[i],getElem?_pos _ i h1,(Array.perm_iff_toList_perm.mp b.perm).mem_iff.mp (by simp)⟩
def Cm (prog:Program) (w:World) (A:Around) (s:Shared) (R:Keyed→Int) (κ:SortKind) (a₀:Array Keyed):Prop :=
 ∀ x y,x ∈ a₀.toList→y ∈ a₀.toList→∀ (Q:Bool→Shared→Prop) (E:Value→Shared→Prop),Q (decide (R x < R y)) s→wpAny (model prog w) A (keyLt' κ x.1 y.1) Q E s
theorem w_lt (C:Cm prog w A s R κ a₀) {st:SortSt} {x y:Keyed} (hk:kindOf st = κ) (hx:x ∈ a₀.toList) (hy:y ∈ a₀.toList) {Q:Option Bool→SortSt→Prop} (h:Q (some (decide (R x < R y))) st) :
  wpS (model prog w) A E s (lt' x y) Q st:=by
 rw [lt'_eq]
 refine wpS_bind (wpS_get ?_)
 rw [hk]
 refine wpS_bind (wpS_lift (wpAny_attempt (C x y hx hy _ _ ⟨rfl,?_⟩)))
 exact wpS_pure h
theorem jrw {st:SortSt} {xs:Array Keyed} {i:Nat} {x:Keyed} (e:xs[i]? = some x) {Q:Keyed→SortSt→Prop} (h:Q x st):wpS (model prog w) A E s (elem' xs i) Q st:=by
 rw [elem'_eq,e]; exact wpS_pure h
theorem jj4 (C:Cm prog w A s R κ a₀) {st:SortSt} (b:Bs κ a₀ pd st) {i j:Nat} (hi:i < a₀.size) (hj:j < a₀.size) {Q:Option Bool→SortSt→Prop}
  (h:Q (some (decide (kv R (arrOf st) i < kv R (arrOf st) j))) st):wpS (model prog w) A E s (ltAt' i j) Q st:=by
 obtain ⟨x,e1,m1⟩:=b.get hi
 obtain ⟨y,e2,m2⟩:=b.get hj
 rw [ltAt'_eq]
 refine wpS_bind (wpS_get (wpS_bind (jrw e1 (wpS_bind (jrw e2 (w_lt C b.kind m1 m2 ?_))))))
 rw [kv_at e1,kv_at e2] at h
 exact h
abbrev UpSt:=Option (Option Nat) × Nat
abbrev DnSt:=Option (Option Nat) × Nat × Nat
def goUp (lo a nrem:Nat):StateT SortSt Sem UpSt :=
 forIn [a:nrem] ((none,a):UpSt) fun _ c=>do
  let z ← ltAt' (lo + c.snd) (lo + c.snd - 1)
  match z with
  | some less=>if less = true then pure (.done (none,c.snd)) else pure (.yield (none,c.snd + 1))
  | _=>pure (.done (some none,c.snd))
def jk1 (lo n nrem:Nat):StateT SortSt Sem (Option Nat):=do
 reverseSlice' lo (lo + n)
 let c ← goUp lo n nrem
 match c.fst with
 | some r=>pure r
 | none=>pure (some c.snd)
def goDn (lo n nrem:Nat):StateT SortSt Sem DnSt :=
 forIn [n:nrem] ((none,n,0):DnSt) fun _ c=>do
  let z ← ltAt' (lo + c.snd.fst) (lo + c.snd.fst - 1)
  match z with
  | some less =>
   if less = true then
    if c.snd.snd > 0 then do
     reverseSlice' (lo + c.snd.fst - (c.snd.snd + 1)) (lo + c.snd.fst)
     pure (.yield (none,c.snd.fst + 1,0))
    else pure (.yield (none,c.snd.fst + 1,0))
   else do
    let y ← ltAt' (lo + c.snd.fst - 1) (lo + c.snd.fst)
    match y with
    | some more=>if more = true then pure (.done (none,c.snd.fst,c.snd.snd)) else pure (.yield (none,c.snd.fst + 1,c.snd.snd + 1))
    | _=>pure (.done (some none,c.snd.fst,c.snd.snd))
  | _=>pure (.done (some none,c.snd.fst,c.snd.snd))
def jqb (lo n nrem:Nat):StateT SortSt Sem (Option Nat):=do
 liftM (rule "list.sort.descending-run")
 let c ← goDn lo (n + 1) nrem
 match c.fst with
 | some r=>pure r
 | none =>
  if c.snd.snd > 0 then do
   reverseSlice' (lo + c.snd.fst - (c.snd.snd + 1)) (lo + c.snd.fst)
   jk1 lo c.snd.fst nrem
  else jk1 lo c.snd.fst nrem
theorem jrq (lo nrem:Nat):countRun' lo nrem = (do
    let c ← goUp lo 1 nrem
    match c.fst with
    | some r=>pure r
    | none =>
      if (c.snd == nrem) = true then pure (some c.snd)
      else if c.snd > 1 then do
        let z ← ltAt' lo (lo + c.snd - 1)
        match z with
        | some rose=>if rose = true then pure (some c.snd) else do
            reverseSlice' lo (lo + c.snd)
            jqb lo c.snd nrem
        | _=>pure none
      else jqb lo c.snd nrem):=by
  rw [countRun'_eq]
  unfold jqb jk1 goDn goUp
  dsimp only
  congr 1
  funext c
  obtain ⟨r,n⟩:=c
  cases r with
  | some r=>rfl
  | none =>
    dsimp only
    split
    · rfl
    · split
      · congr 1
        funext z
        cases z with
        | none=>rfl
        | some rose =>
          dsimp only
          split
          · rfl
          · congr 1
            funext _r
            (congr 1; funext _u; congr 1; congr 1; funext c2; obtain ⟨r2,n2,q2⟩:=c2; cases r2 with
            | some r2=>rfl
            | none =>
              dsimp only
              split
              · congr 1; funext _t; congr 1; funext _v; congr 1; funext c3; obtain ⟨r3,n3⟩:=c3; cases r3 <;> rfl
              · congr 1; funext _v; congr 1; funext c3; obtain ⟨r3,n3⟩:=c3; cases r3 <;> rfl)
      · (congr 1; funext _u; congr 1; congr 1; funext c2; obtain ⟨r2,n2,q2⟩:=c2; cases r2 with
            | some r2=>rfl
            | none =>
              dsimp only
              split
              · congr 1; funext _t; congr 1; funext _v; congr 1; funext c3; obtain ⟨r3,n3⟩:=c3; cases r3 <;> rfl
              · congr 1; funext _v; congr 1; funext c3; obtain ⟨r3,n3⟩:=c3; cases r3 <;> rfl)
theorem jlr {st:SortSt} {i j:Nat} {Q:Unit→SortSt→Prop} (h:Q () (setArr st (mirror (arrOf st) i j ((j - i) / 2)))) :
  wpS (model prog w) A E s (reverseSlice' i j) Q st:=by
 rw [reverseSlice'_eq]; exact wpS_modify h
theorem jrv (C:Cm prog w A s R κ a₀) {st:SortSt} {lo a nrem:Nat} {Q:UpSt→SortSt→Prop} (hn:lo + nrem ≤ a₀.size) (ha:1 ≤ a) (han:a ≤ nrem) (b:Bs κ a₀ pd st) (u:Up R (arrOf st) lo (lo + a))
  (h:∀ n,a ≤ n→n ≤ nrem→Up R (arrOf st) lo (lo + n)→(n = nrem ∨ kv R (arrOf st) (lo + n) < kv R (arrOf st) (lo + n - 1))→Q (none,n) st) :
  wpS (model prog w) A E s (goUp lo a nrem) Q st:=by
 unfold goUp
 refine wpS_forRange (I:=fun x c st'=>st' = st∧c = (none,x)∧Up R (arrOf st) lo (lo + x)) ?step ?fin ⟨rfl,rfl,u⟩
 case fin =>
  rintro c st' ⟨rfl,rfl,u'⟩
  rw [show max a nrem = nrem by omega] at u' ⊢
  exact h nrem han (Nat.le_refl _) u' (.inl rfl)
 case step =>
  rintro x c st' hax hxn ⟨rfl,rfl,u'⟩
  dsimp only
  refine wpS_bind (jj4 C b (by omega) (by omega) ?_)
  by_cases c:kv R (arrOf st') (lo + x) < kv R (arrOf st') (lo + x - 1)
  ·simp only [c,decide_true,if_true]
   exact wpS_pure (h x hax (by omega) u' (.inr c))
  ·simp only [c,decide_false,Bool.false_eq_true,if_false]
   exact wpS_pure ⟨rfl,rfl,u'.grow (by omega) (by omega)⟩
theorem jls (C:Cm prog w A s R κ a₀) {st:SortSt} {lo n nrem:Nat} {Q:Option Nat→SortSt→Prop} (hn:lo + nrem ≤ a₀.size) (h1:1 ≤ n) (hnn:n ≤ nrem) (b:Bs κ a₀ pd st) (d:Dn R (arrOf st) lo (lo + n))
  (h:∀ m st',Bs κ a₀ pd st'→Fore lo (arrOf st) (arrOf st')→1 ≤ m→m ≤ nrem→Up R (arrOf st') lo (lo + m)→Q (some m) st') :
  wpS (model prog w) A E s (jk1 lo n nrem) Q st:=by
 unfold jk1
 have hsz:lo + n ≤ (arrOf st).size:=by rw [b.size]; omega
 refine wpS_bind (jlr ?_)
 have b':=b.put (mirror_perm (arrOf st) lo (lo + n) ((lo + n - lo) / 2))
 refine wpS_bind (jrv C hn h1 hnn b' ?_ fun m hm1 hm2 u _=>wpS_pure (h m _ b' (jek hsz (Nat.le_refl _)) (by omega) hm2 u))
 intro i j h3 h4 h5
 show kv R (mirror (arrOf st) lo (lo + n) _) i ≤ kv R (mirror (arrOf st) lo (lo + n) _) j
 rw [jlc hsz,jlc hsz,if_pos (by omega),if_pos (by omega)]
 exact d _ _ (by omega) (by omega) (by omega)
theorem w_goDn (C:Cm prog w A s R κ a₀) {st:SortSt} {lo n nrem:Nat} {Q:DnSt→SortSt→Prop} (hn:lo + nrem ≤ a₀.size) (h1:1 ≤ n) (hnn:n ≤ nrem) (b:Bs κ a₀ pd st) (d:Dn R (arrOf st) lo (lo + n))
  (h:∀ m q st',Bs κ a₀ pd st'→Fore lo (arrOf st) (arrOf st')→n ≤ m→m ≤ nrem→Dn R (arrOf st') lo (lo + m)→q + 1 ≤ m→(∀ i,lo + m - (q + 1) ≤ i→i < lo + m→kv R (arrOf st') i = kv R (arrOf st') (lo + m - 1))→Q (none,m,q) st') :
  wpS (model prog w) A E s (goDn lo n nrem) Q st:=by
 unfold goDn
 refine wpS_forRange (I:=fun x c st'=>∃ q,c = (none,x,q)∧Bs κ a₀ pd st'∧Fore lo (arrOf st) (arrOf st')∧Dn R (arrOf st') lo (lo + x)∧q + 1 ≤ x ∧
   (∀ i,lo + x - (q + 1) ≤ i→i < lo + x→kv R (arrOf st') i = kv R (arrOf st') (lo + x - 1))) ?step ?fin ⟨0,rfl,b,Fore.rfl',d,by omega,fun i h1 h2=>by congr 1; omega⟩
 case fin =>
  rintro c st' ⟨q,rfl,b',f,d',hq,he⟩
  rw [show max n nrem = nrem by omega] at d' hq he ⊢
  exact h nrem q st' b' f hnn (Nat.le_refl _) d' hq he
 case step =>
  rintro x c st' hax hxn ⟨q,rfl,b',f,d',hq,he⟩
  dsimp only
  have hsz:lo + x ≤ (arrOf st').size:=by rw [b'.size]; omega
  refine wpS_bind (jj4 C b' (by omega) (by omega) ?_)
  by_cases c:kv R (arrOf st') (lo + x) < kv R (arrOf st') (lo + x - 1)
  ·simp only [c,decide_true,if_true]
   have g:=d'.grow (by omega) (Int.le_of_lt c)
   by_cases hq0:q > 0
   ·rw [if_pos hq0]
    exact wpS_bind (jlr (wpS_pure ⟨0,rfl,b'.put (mirror_perm _ _ _ _),f.tr (jek hsz (by omega)),g.like (jdo hsz he),by omega,fun i h1 h2=>by congr 1; omega⟩))
   ·rw [if_neg hq0]
    exact wpS_pure ⟨0,rfl,b',f,g,by omega,fun i h1 h2=>by congr 1; omega⟩
  ·simp only [c,decide_false,Bool.false_eq_true,if_false]
   refine wpS_bind (jj4 C b' (by omega) (by omega) ?_)
   by_cases c2:kv R (arrOf st') (lo + x - 1) < kv R (arrOf st') (lo + x)
   ·simp only [c2,decide_true,if_true]
    exact wpS_pure (h x q st' b' f hax (by omega) d' hq he)
   ·simp only [c2,decide_false,Bool.false_eq_true,if_false]
    have e2:kv R (arrOf st') (lo + x) = kv R (arrOf st') (lo + x - 1):=by omega
    refine wpS_pure ⟨q + 1,rfl,b',f,d'.grow (by omega) (by omega),by omega,fun i h1 h2=>?_⟩
    rw [show lo + (x + 1) - 1 = lo + x by omega]
    by_cases hix:i = lo + x
    ·rw [hix]
    ·rw [e2]; exact he i (by omega) (by omega)
theorem jns (C:Cm prog w A s R κ a₀) {st:SortSt} {lo n nrem:Nat} {Q:Option Nat→SortSt→Prop} (hn:lo + nrem ≤ a₀.size) (hnn:n + 1 ≤ nrem) (b:Bs κ a₀ pd st) (d:Dn R (arrOf st) lo (lo + (n + 1)))
  (h:∀ m st',Bs κ a₀ pd st'→Fore lo (arrOf st) (arrOf st')→1 ≤ m→m ≤ nrem→Up R (arrOf st') lo (lo + m)→Q (some m) st') :
  wpS (model prog w) A E s (jqb lo n nrem) Q st:=by
 unfold jqb
 refine wpS_bind (wpS_lift (wpAny_rule ⟨rfl,?_⟩))
 refine wpS_bind (w_goDn C hn (by omega) hnn b d fun m q st' b' f hm1 hm2 d' hq he=>?_)
 dsimp only
 have hsz:lo + m ≤ (arrOf st').size:=by rw [b'.size]; omega
 by_cases hq0:q > 0
 ·rw [if_pos hq0]
  exact wpS_bind (jlr (jls C hn (by omega) hm2 (b'.put (mirror_perm _ _ _ _)) (d'.like (jdo hsz he)) fun m2 st2 a1 a2=>h m2 st2 a1 ((f.tr (jek hsz (by omega))).tr a2)))
 ·rw [if_neg hq0]
  exact jls C hn (by omega) hm2 b' d' fun m2 st2 a1 a2=>h m2 st2 a1 (f.tr a2)
theorem jsq (C:Cm prog w A s R κ a₀) {st:SortSt} {lo nrem:Nat} {Q:Option Nat→SortSt→Prop} (hn:lo + nrem ≤ a₀.size) (h1:1 ≤ nrem) (b:Bs κ a₀ pd st)
  (h:∀ m st',Bs κ a₀ pd st'→Fore lo (arrOf st) (arrOf st')→1 ≤ m→m ≤ nrem→Up R (arrOf st') lo (lo + m)→Q (some m) st') :
  wpS (model prog w) A E s (countRun' lo nrem) Q st:=by
 rw [jrq]
 refine wpS_bind (jrv C hn (Nat.le_refl 1) h1 b (Up.one (Nat.le_refl _)) fun n hn1 hn2 u hor=>?_)
 dsimp only
 by_cases c:n = nrem
 ·rw [if_pos (by simpa using c)]
  exact wpS_pure (h n st b Fore.rfl' hn1 hn2 u)
 ·rw [if_neg (by simpa using c)]
  have hlt:=hor.resolve_left c
  by_cases hgt:n > 1
  ·rw [if_pos hgt]
   refine wpS_bind (jj4 C b (by omega) (by omega) ?_)
   by_cases c2:kv R (arrOf st) lo < kv R (arrOf st) (lo + n - 1)
   ·simp only [c2,decide_true,if_true]
    exact wpS_pure (h n st b Fore.rfl' hn1 hn2 u)
   ·simp only [c2,decide_false,Bool.false_eq_true,if_false]
    have hsz:lo + n ≤ (arrOf st).size:=by rw [b.size]; omega
    have hall:∀ k,lo ≤ k→k < lo + n→kv R (arrOf st) k = kv R (arrOf st) (lo + n - 1):=by
     intro k h2 h3
     have a1:=u lo k (Nat.le_refl _) h2 h3
     have a2:=u k (lo + n - 1) h2 (by omega) (by omega)
     omega
    have d:Dn R (arrOf st) lo (lo + n):=fun i j h3 h4 h5=>by rw [hall i h3 (by omega),hall j (by omega) h5]; exact Int.le_refl _
    have g:Dn R (arrOf st) lo (lo + (n + 1)):=d.grow (by omega) (Int.le_of_lt hlt)
    exact wpS_bind (jlr (jns C hn (by omega) (b.put (mirror_perm _ _ _ _)) (g.like (jdo hsz hall)) fun m st' a1 a2=>h m st' a1 ((jek hsz (Nat.le_refl _)).tr a2)))
  ·rw [if_neg hgt]
   have e:n = 1:=by omega
   subst e
   have d:Dn R (arrOf st) lo (lo + 1):=fun i j h3 h4 h5=>by
    have e:i = j:=by omega
    rw [e]; exact Int.le_refl _
   exact jns C hn (by omega) b (d.grow (by omega) (Int.le_of_lt hlt)) h
theorem w_ins (C:Cm prog w A s R κ a₀) {st:SortSt} {lo n ok:Nat} {Q:Bool→SortSt→Prop} (hn:lo + n ≤ a₀.size) (hok:ok ≤ n) (b:Bs κ a₀ pd st) (u:Up R (arrOf st) lo (lo + ok))
  (h:∀ st',Bs κ a₀ pd st'→Fore lo (arrOf st) (arrOf st')→Up R (arrOf st') lo (lo + n)→Q true st'):wpS (model prog w) A E s (binarySort' lo n ok) Q st:=by
 rw [binarySort'_eq]
 refine wpS_bind (wpS_mono (wpS_forRange (I:=fun k c st'=>c = (none,())∧Bs κ a₀ pd st'∧Fore lo (arrOf st) (arrOf st')∧Up R (arrOf st') lo (lo + min k n))
  (Q:=fun c st'=>c = (none,())∧Bs κ a₀ pd st'∧Fore lo (arrOf st) (arrOf st')∧Up R (arrOf st') lo (lo + n)) ?step ?fin ?init) ?post)
 case post =>
  rintro c st' ⟨rfl,b',f,u'⟩
  exact wpS_pure (h st' b' f u')
 case init =>
  refine ⟨rfl,b,Fore.rfl',fun i j h1 h2 h3=>?_⟩
  by_cases c:ok = 0
  ·have e:i = j:=by omega
   rw [e]; exact Int.le_refl _
  ·exact u i j h1 h2 (by omega)
 case fin =>
  rintro c st' ⟨hc,b',f,u'⟩
  rw [show min (max (max ok 1) n) n = n by omega] at u'
  exact ⟨hc,b',f,u'⟩
 case step =>
  rintro k c st' hak hkn ⟨rfl,b',f,u'⟩
  rw [show min k n = k by omega] at u'
  refine wpS_bind (wpS_mono (wpS_forRange (I:=fun x c st2=>st2 = st'∧∃ l r,c = (none,l,r)∧l ≤ r∧r ≤ k∧r - l ≤ k - x ∧
    (∀ i,i < l→kv R (arrOf st') (lo + i) ≤ kv R (arrOf st') (lo + k))∧(∀ i,r ≤ i→i < k→kv R (arrOf st') (lo + k) < kv R (arrOf st') (lo + i)))
   (Q:=fun c st2=>st2 = st'∧∃ l r,c = (none,l,r)∧l ≤ k ∧
    (∀ i,i < l→kv R (arrOf st') (lo + i) ≤ kv R (arrOf st') (lo + k))∧(∀ i,l ≤ i→i < k→kv R (arrOf st') (lo + k) < kv R (arrOf st') (lo + i))) ?istep ?ifin ?iinit) ?ipost)
  case iinit=>exact ⟨rfl,0,k,rfl,by omega,by omega,by omega,fun i hi=>by omega,fun i h1 h2=>by omega⟩
  case ifin =>
   rintro c st2 ⟨rfl,l,r,rfl,hlr,hrk,hm,hlo,hhi⟩
   have e:l = r:=by omega
   subst e
   exact ⟨rfl,l,l,rfl,hrk,hlo,hhi⟩
  case istep =>
   rintro x c st2 _ hxk ⟨rfl,l,r,rfl,hlr,hrk,hm,hlo,hhi⟩
   dsimp only
   by_cases hge:l ≥ r
   ·rw [if_pos hge]
    have e:l = r:=by omega
    subst e
    exact wpS_pure ⟨rfl,l,l,rfl,hrk,hlo,hhi⟩
   ·rw [if_neg hge]
    refine wpS_bind (jj4 C b' (by omega) (by omega) ?_)
    by_cases c:kv R (arrOf st2) (lo + k) < kv R (arrOf st2) (lo + (l + r) / 2)
    ·simp only [c,decide_true,if_true]
     exact wpS_pure ⟨rfl,l,(l + r) / 2,rfl,by omega,by omega,by omega,hlo,fun i h1 h2=>Int.lt_of_lt_of_le c (u' _ _ (by omega) (by omega) (by omega))⟩
    ·simp only [c,decide_false,Bool.false_eq_true,if_false]
     exact wpS_pure ⟨rfl,(l + r) / 2 + 1,r,rfl,by omega,by omega,by omega,fun i h1=>Int.le_trans (u' (lo + i) (lo + (l + r) / 2) (by omega) (by omega) (by omega)) (Int.not_lt.mp c),hhi⟩
  case ipost =>
   rintro c st2 ⟨rfl,l,r,rfl,hlk,hlo,hhi⟩
   show wpS _ _ _ _ (do moveDown' (lo + k) (lo + l); pure (ForInStep.yield (none,()))) _ _
   rw [moveDown'_eq]
   have hks:lo + k < (arrOf st2).size:=by rw [b'.size]; omega
   refine wpS_bind (wpS_modify (wpS_pure ⟨rfl,b'.put (bubble_perm _ _ _),f.tr (jpq hks (by omega)),?_⟩))
   rw [show min (k + 1) n = k + 1 by omega]
   intro i j h1 h2 h3
   show kv R (bubble (arrOf st2) (lo + k) (lo + k - (lo + l))) i ≤ kv R (bubble (arrOf st2) (lo + k) (lo + k - (lo + l))) j
   rw [jp9 hks (by omega),jp9 hks (by omega),show lo + k - (lo + k - (lo + l)) = lo + l by omega]
   have lowof:∀ i,lo ≤ i→i < lo + l→kv R (arrOf st2) i ≤ kv R (arrOf st2) (lo + k):=fun i a1 a2=>by
    have z:=hlo (i - lo) (by omega)
    rwa [show lo + (i - lo) = i by omega] at z
   have highof:∀ i,lo + l ≤ i→i < lo + k→kv R (arrOf st2) (lo + k) < kv R (arrOf st2) i:=fun i a1 a2=>by
    have z:=hhi (i - lo) (by omega) (by omega)
    rwa [show lo + (i - lo) = i by omega] at z
   repeat' split
   all_goals first
    | (exfalso; omega)
    | exact Int.le_refl _
    | exact lowof _ (by omega) (by omega)
    | exact Int.le_of_lt (highof _ (by omega) (by omega))
    | exact u' _ _ (by omega) (by omega) (by omega)
end
end So
namespace So
open PySem PyProof.Rows
section
variable {prog:Program} {w:World} {A:Around} {E:Value→Shared→Prop} {s:Shared} {R:Keyed→Int} {κ:SortKind} {a₀:Array Keyed} {pd:Array (Nat × Nat × Nat)}
end
end So
namespace So
open PySem PyProof.Rows
def Le (R:Keyed→Int):Keyed→Keyed→Prop:=fun x y=>R x ≤ R y
def MS (R:Keyed→Int) (o la lb tot:List Keyed):Prop:=(o ++ la).Pairwise (Le R)∧(o ++ lb).Pairwise (Le R)∧(o ++ (la ++ lb)).Perm tot
def Fi (R:Keyed→Int) (l tot:List Keyed):Prop:=l.Pairwise (Le R)∧l.Perm tot
section
variable {R:Keyed→Int} {o la lb tot xs:List Keyed}
theorem MS.a (h:MS R o (xs ++ la) lb tot) (hx:∀ x ∈ xs,∀ y ∈ lb,R x ≤ R y):MS R (o ++ xs) la lb tot:=by
 obtain ⟨h1,h2,h3⟩:=h
 refine ⟨by rw [List.append_assoc]; exact h1,?_,by rw [List.append_assoc,← List.append_assoc xs]; exact h3⟩
 rw [List.append_assoc,List.pairwise_append]
 rw [List.pairwise_append] at h1 h2
 obtain ⟨o1,o2,o3⟩:=h1
 obtain ⟨p1,p2,p3⟩:=h2
 rw [List.pairwise_append] at o2
 refine ⟨o1,List.pairwise_append.mpr ⟨o2.1,p2,hx⟩,fun x m y n=>?_⟩
 rcases List.mem_append.mp n with n | n
 ·exact o3 x m y (List.mem_append_left _ n)
 ·exact p3 x m y n
theorem MS.b (h:MS R o la (xs ++ lb) tot) (hx:∀ x ∈ xs,∀ y ∈ la,R x ≤ R y):MS R (o ++ xs) la lb tot:=by
 have z:MS R o (xs ++ lb) la tot:=⟨h.2.1,h.1,(List.Perm.append_left _ List.perm_append_comm).trans h.2.2⟩
 have q:=z.a hx
 exact ⟨q.2.1,q.1,(List.Perm.append_left _ List.perm_append_comm).trans q.2.2⟩
end
section
variable {a:Array Keyed} {R:Keyed→Int} {i k:Nat}
theorem Up.le (u:Up R a 0 a.size) {j:Nat} {x y:Keyed} (hx:a[i]? = some x) (hy:a[j]? = some y) (h:i ≤ j):R x ≤ R y:=by
 have z:=u i j (Nat.zero_le _) h (Array.getElem?_eq_some_iff.mp hy).1
 rwa [kv_at hx,kv_at hy] at z
end
section
variable {M:Model} {A:Around} {E:Value→Shared→Prop} {s:Shared} {σ α:Type}
theorem jnr {c:Prop} [Decidable c] {m n:StateT σ Sem α} {Q:α→σ→Prop} {st:σ} (h1:c→wpS M A E s m Q st) (h2:¬ c→wpS M A E s n Q st):wpS M A E s (if c then m else n) Q st:=by
 by_cases h:c
 ·rw [if_pos h]; exact h1 h
 ·rw [if_neg h]; exact h2 h
end
structure Lk (st st':SortSt):Prop where
 kind:kindOf st' = kindOf st
 arr:arrOf st' = arrOf st
 pend:pendingOf st' = pendingOf st
 ok:failedOf st' = failedOf st
section
variable {R:Keyed→Int} {a b out:Array Keyed} {ia ib k:Nat} {tot:List Keyed}
end
section
variable {prog:Program} {w:World} {A:Around} {E:Value→Shared→Prop} {s:Shared} {R:Keyed→Int} {κ:SortKind} {a₀:Array Keyed} {pd:Array (Nat × Nat × Nat)}
end
end So
namespace So
open PySem PyProof.Rows
def MH (R:Keyed→Int) (la lb o tot:List Keyed):Prop:=(la ++ o).Pairwise (Le R)∧(lb ++ o).Pairwise (Le R)∧(la ++ (lb ++ o)).Perm tot
section
variable {R:Keyed→Int} {o la lb tot xs:List Keyed}
theorem MH.a (h:MH R (la ++ xs) lb o tot) (hx:∀ x ∈ xs,∀ y ∈ lb,R y ≤ R x):MH R la lb (xs ++ o) tot:=by
 obtain ⟨h1,h2,h3⟩:=h
 refine ⟨by rw [← List.append_assoc]; exact h1,?_,?_⟩
 ·rw [List.append_assoc,List.pairwise_append] at h1
  rw [List.pairwise_append] at h2 ⊢
  refine ⟨h2.1,h1.2.1,fun y hy x hx2=>?_⟩
  rcases List.mem_append.mp hx2 with n | n
  ·exact hx x n y hy
  ·exact h2.2.2 y hy x n
 ·refine List.Perm.trans ?_ h3
  rw [List.append_assoc]
  refine List.Perm.append_left _ ?_
  rw [← List.append_assoc,← List.append_assoc]
  exact List.Perm.append_right _ List.perm_append_comm
theorem MH.swap (h:MH R la lb o tot):MH R lb la o tot:=by
 refine ⟨h.2.1,h.1,List.Perm.trans ?_ h.2.2⟩
 rw [← List.append_assoc,← List.append_assoc]
 exact List.Perm.append_right _ List.perm_append_comm
theorem MH.b (h:MH R la (lb ++ xs) o tot) (hx:∀ x ∈ xs,∀ y ∈ la,R y ≤ R x):MH R la lb (xs ++ o) tot:=(h.swap.a hx).swap
theorem MH.first (h:MH R la lb o tot) (hx:∀ y ∈ lb,∀ x ∈ la,R y ≤ R x):Fi R (lb ++ la ++ o) tot:=by
 obtain ⟨h1,h2,h3⟩:=h.swap
 refine ⟨?_,by rw [List.append_assoc]; exact h3⟩
 rw [List.append_assoc]
 rw [List.pairwise_append] at h1 h2 ⊢
 refine ⟨h1.1,List.pairwise_append.mpr h2,fun y hy x hx2=>?_⟩
 rcases List.mem_append.mp hx2 with n | n
 ·exact hx y hy x n
 ·exact h1.2.2 y hy x n
end
section
variable {a:Array Keyed} {R:Keyed→Int} {i k n:Nat}
end
section
variable {R:Keyed→Int} {a b out:Array Keyed} {na nb k:Nat} {tot:List Keyed}
end
section
variable {prog:Program} {w:World} {A:Around} {E:Value→Shared→Prop} {s:Shared} {R:Keyed→Int} {κ:SortKind} {a₀:Array Keyed} {pd:Array (Nat × Nat × Nat)}
end
end So
namespace So
open PySem PyProof.Rows
section
variable {prog:Program} {w:World} {A:Around} {E:Value→Shared→Prop} {s:Shared} {R:Keyed→Int} {κ:SortKind} {a₀:Array Keyed} {pd:Array (Nat × Nat × Nat)}
end
end So
namespace So
open PySem PyProof.Rows
def two (pd:Array (Nat × Nat × Nat)):List (Nat × Nat):=pd.toList.map fun t=>(t.1,t.2.1)
section
variable {R:Keyed→Int} {xs ys:Array Keyed}
end
section
variable {prog:Program} {w:World} {A:Around} {E:Value→Shared→Prop} {s:Shared} {R:Keyed→Int} {κ:SortKind} {a₀:Array Keyed} {pd:Array (Nat × Nat × Nat)}
end
end So
namespace So
open PySem PyProof.Rows
section
variable {prog:Program} {w:World} {A:Around} {E:Value→Shared→Prop} {s:Shared}
theorem jlp (vs:List Value):vs.zip vs = vs.map fun v=>(v,v):=by
 induction vs with
 | nil=>rfl
 | cons v vs ih=>rw [List.zip_cons_cons,ih,List.map_cons]
theorem Up.all {R:Keyed→Int} {xs:Array Keyed} (u:Up R xs 0 xs.size):xs.toList.Pairwise (Le R):=by
 rw [List.pairwise_iff_getElem]
 intro i j hi hj hij
 rw [Array.length_toList] at hi hj
 exact u.le (getElem?_pos xs i hi) (getElem?_pos xs j hj) (Nat.le_of_lt hij)
theorem out_of {R:Keyed→Int} {vs:List Value} {xs:Array Keyed} (p:xs.Perm (pairsOf vs)) (u:Up R xs 0 xs.size):(xs.map (·.2)).toList.Perm vs∧(xs.map (·.2)).toList.Pairwise fun a b=>R (a,a) ≤ R (b,b):=by
 have hp:xs.toList.Perm (vs.map fun v=>(v,v)):=by rw [← jlp,← pairsOf_toList]; exact Array.perm_iff_toList_perm.mp p
 rw [Array.toList_map]
 refine ⟨?_,?_⟩
 ·have z:=hp.map (·.2)
  rw [List.map_map] at z
  have e:vs.map ((fun x:Keyed=>x.2) ∘ fun v=>(v,v)) = vs:=by
   rw [show ((fun x:Keyed=>x.2) ∘ fun v=>(v,v)) = id from rfl,List.map_id]
  rwa [e] at z
 ·rw [List.pairwise_map]
  refine List.Pairwise.imp_of_mem ?_ u.all
  intro a b ha hb hab
  obtain ⟨v,_,rfl⟩:=List.mem_map.mp (hp.mem_iff.mp ha)
  obtain ⟨u',_,rfl⟩:=List.mem_map.mp (hp.mem_iff.mp hb)
  exact hab
def Asks (prog:Program) (w:World) (s:Shared) (vs:List Value) (R:Keyed→Int) (κ:SortKind):Prop :=
 ∀ (A:Around) (h':Heap),(∀ b o,s.heap.get? b = some o→h'.get? b = some o) →
  (∀ (Q:SortKind→Shared→Prop) (E:Value→Shared→Prop),Q κ { s with heap:=h' }→wpAny (model prog w) A (keyKind' vs.toArray) Q E { s with heap:=h' })∧Cm prog w A { s with heap:=h' } R κ (pairsOf vs)
def PairAt (h:Heap) (v:Value) (x y:Int):Prop:=∃ a o t u n,v = .ref a∧h.get? a = some o∧o.cls = .type "tuple"∧o.data = .seq #[.int x t,.int y u] n
theorem jk7 {h:Heap}:∀ {vs:List Value},(∀ v ∈ vs,∃ x y,PairAt h v x y)→∃ fs,PySem.W.KatTups h vs fs∧fs.length = vs.length∧∀ f ∈ fs,∃ i t,f = .int i t
 | [],_=>⟨[],trivial,rfl,fun _ q=>by cases q⟩
 | v :: vs,hv=>by
  obtain ⟨fs,h1,h2,h3⟩:=jk7 (vs:=vs) fun v m=>hv v (.tail _ m)
  obtain ⟨x,y,a,o,t,u,n,rfl,e1,e2,e3⟩:=hv v (.head _)
  refine ⟨.int x t :: fs,.cons e1 e2 e3 rfl h1,by rw [List.length_cons,List.length_cons,h2],fun f m=>?_⟩
  rcases List.mem_cons.mp m with rfl | m
  ·exact ⟨x,t,rfl⟩
  ·exact h3 f m
theorem jp6 {B x y x' y':Int} (h1:0 ≤ y) (h2:y < B) (h3:0 ≤ y') (h4:y' < B):x * B + y < x' * B + y' ↔ x < x' ∨ (x = x'∧y < y'):=by
 constructor
 ·intro h
  rcases Int.lt_trichotomy x x' with c | c | c
  ·exact .inl c
  ·subst c; exact .inr ⟨rfl,by omega⟩
  ·exfalso
   have q:(x' + 1) * B ≤ x * B:=Int.mul_le_mul_of_nonneg_right (by omega) (by omega)
   rw [Int.add_mul,Int.one_mul] at q
   omega
 ·rintro (c | ⟨rfl,c⟩)
  ·have q:(x + 1) * B ≤ x' * B:=Int.mul_le_mul_of_nonneg_right (by omega) (by omega)
   rw [Int.add_mul,Int.one_mul] at q
   omega
  ·omega
theorem jnm {vs:List Value} {R:Keyed→Int} {B:Int} (hv:∀ v ∈ vs,∃ x y,PairAt s.heap v x y∧R (v,v) = x * B + y∧0 ≤ y∧y < B) (h2:2 ≤ vs.length):Asks prog w s vs R (tuples' true):=by
 intro A h' keep
 refine ⟨fun Q E q=>?_,fun x y hx hy Q E q=>?_⟩
 ·obtain ⟨fs,k1,k2,k3⟩:=jk7 (h:=h') (vs:=vs) fun v m=>by
   obtain ⟨x,y,⟨a,o,t,u,n,e0,e1,e2⟩,_⟩:=hv v m
   exact ⟨x,y,a,o,t,u,n,e0,keep _ _ e1,e2⟩
  refine PySem.W.kat_kind (T:=.type "int") k1 (by omega) (fun f m=>?_) rfl q
  obtain ⟨i,t,rfl⟩:=k3 f m
  exact PySem.W.Looks.of_pure rfl
 ·rw [pairsOf_toList,jlp] at hx hy
  obtain ⟨v,mv,rfl⟩:=List.mem_map.mp hx
  obtain ⟨u,mu,rfl⟩:=List.mem_map.mp hy
  obtain ⟨x1,y1,⟨a,o,t1,t2,n,rfl,e1,e2,e3⟩,r1,r2,r3⟩:=hv v mv
  obtain ⟨x2,y2,⟨b,p,t3,t4,m,rfl,e4,e5,e6⟩,r4,r5,r6⟩:=hv u mu
  rw [r1,r4] at q
  have lx:=jp6 (x:=x1) (x':=x2) r2 r3 r5 r6
  refine PySem.W.kat_lt (b:=true) (s:={ s with heap:=h' }) (keep _ _ e1) e3 (keep _ _ e4) e6 ?_
  refine PySem.W.kat_cons (wpAny_eqBool_int ?_)
  by_cases c:x1 = x2
  ·rw [show (x1 == x2) = true by rw [c]; exact beq_self_eq_true _]
   refine PySem.W.kat_yes (PySem.W.kat_cons (wpAny_eqBool_int ?_))
   by_cases c2:y1 = y2
   ·rw [show (y1 == y2) = true by rw [c2]; exact beq_self_eq_true _]
    refine PySem.W.kat_yes (PySem.W.kat_nil ?_)
    rw [show decide (x1 * B + y1 < x2 * B + y2) = false by rw [decide_eq_false_iff_not,lx]; omega] at q
    exact q
   ·rw [show (y1 == y2) = false by rw [beq_eq_false_iff_ne]; exact c2]
    refine PySem.W.kat_no (PySem.W.kat_one _ _ (lt_int ?_))
    rw [show decide (x1 * B + y1 < x2 * B + y2) = decide (y1 < y2) by rw [decide_eq_decide,lx]; omega] at q
    exact q
  ·rw [show (x1 == x2) = false by rw [beq_eq_false_iff_ne]; exact c]
   refine PySem.W.kat_no (oneLt_int ?_)
   rw [show decide (x1 * B + y1 < x2 * B + y2) = decide (x1 < x2) by rw [decide_eq_decide,lx]; omega] at q
   exact q
end
end So
namespace L2
open PySem PySem.Spec PyProof.Rows
def jp7 (a b:Int × Int):Prop:=a.1 < b.1 ∨ (a.1 = b.1∧a.2 ≤ b.2)
def pvOf (H:Hp):Value→Int × Int
 | .ref a=>match H a with
  | some (.tup [.int x,.int y])=>(x,y)
  | _=>(0,0)
 | _=>(0,0)
def tvOf:Value→V
 | .ref a=>.ref a
 | _=>.non
theorem jnt {H:Hp}:∀ {xs:List V} {its:List Value} {ps:List (Int × Int)},Vals xs its→Prs H xs ps→its.map (pvOf H) = ps∧∀ v ∈ its,RelV (tvOf v) v∧Pr H (tvOf v) (pvOf H v)
 | _,_,_,.nil,.nil=>⟨rfl,fun _ m=>by cases m⟩
 | _,_,_,.cons r t,.cons q u=>by
  obtain ⟨e1,e2⟩:=jnt t u
  obtain ⟨a,rfl,ea⟩:=q
  cases r
  rename_i b _
  have e:pvOf H (.ref a) = b:=by unfold pvOf; dsimp only; rw [ea]
  refine ⟨?_,fun v m=>?_⟩
  ·rw [List.map_cons,e1,e]
  ·rcases List.mem_cons.mp m with rfl | m
   ·rw [e]; exact ⟨rfl,a,rfl,ea⟩
   ·exact e2 v m
theorem jq9 {H:Hp}:∀ {us:List Value},(∀ v ∈ us,RelV (tvOf v) v∧Pr H (tvOf v) (pvOf H v))→Vals (us.map tvOf) us∧Prs H (us.map tvOf) (us.map (pvOf H))
 | [],_=>⟨.nil,.nil⟩
 | v :: us,h=>by
  obtain ⟨a,b⟩:=jq9 (us:=us) fun v m=>h v (.tail _ m)
  obtain ⟨c,d⟩:=h v (.head _)
  exact ⟨.cons c a,.cons d b⟩
end L2
namespace L2
open PySem PySem.Spec PyProof.Rows
def rSum:List V→Hp→VK→Prop:=fun vs H Q=>∃ (p:Addr) (ns:List Int),vs = [.ref p]∧H p = some (.lst (ns.map V.int))∧Q (.int ns.sum) H
theorem q_sum {X:Cx} (hc:X.calm = true):jcr X (.builtin "sum") rSum:=by
 intro pins s σ H xs us Q I r h
 obtain ⟨p,ns,rfl,e,q⟩:=h
 obtain ⟨u,rfl,rx⟩:=jgt r
 cases rx
 obtain ⟨its,r',pl,_⟩:=I.list (SqL.of e)
 have hI:=jdd r'
 obtain ⟨zs,hz⟩:=hI.allInts.items
 have hn:=hI.numsOf
 have hl:=pl.isList
 rw [hz] at hl
 refine sum_intListG (I.ok.hd hc) hl fun h' tk t' hk=>?_
 have e2:preSum (numAt zs) zs.size = ns.sum:=by
  rw [preSum_eq,List.take_of_length_le (by simp),← hn,← nums_intItems,← hz]
 rw [e2]
 exact ⟨.int ns.sum,H,I.kept hk,⟨t',rfl⟩,q⟩
def fIsB (f:Bool→Bool):R2:=fun x y H Q=>match x,y with
 | .bl a,.bl b=>Q (.bl (f (a == b))) H
 | _,_=>False
end L2
namespace L2
open PySem PySem.Spec PyProof.Rows
theorem jqp {k:Key} {v:Value} (h:jij k v = true):RelV (kV k) v:=by
 rcases jby h with ⟨i,t,rfl,rfl⟩ | ⟨x,t,rfl,rfl⟩
 ·exact ⟨t,rfl⟩
 ·exact ⟨t,rfl⟩
theorem kv_at {kvs:List (Key × V)} {vs:List (Key × Value)} (r:KV kvs vs) {i:Nat} {k:Key} {x:Value} (e:vs[i]? = some (k,x)):∃ kv,kvs[i]? = some kv∧kv.1 = k:=by
 obtain ⟨kv,e1,e2⟩:=jck r e
 exact ⟨kv,e1,e2.1⟩
def rListD:List V→Hp→VK→Prop:=fun vs H Q=>∃ (p:Addr) (kvs:List (Key × V)),vs = [.ref p]∧H p = some (.dK kvs)∧∀ l,H l = none→Q (.ref l) (upd H l (.lst (kvs.map fun kv=>kV kv.1)))
theorem jj6:∀ {kvs:List (Key × V)} {vs:List (Key × Value)} {us:List Value},KV kvs vs→us.length = vs.length→(∀ (j:Nat) (v:Value),us[j]? = some v→∃ k x,vs[j]? = some (k,x)∧jij k v = true)→Vals (kvs.map fun kv=>kV kv.1) us
 | [],_,us,.nil,hl,_=>by
  cases us with
  | nil=>exact .nil
  | cons _ _=>simp at hl
 | kv :: kvs,_,us,.cons (b:=b) r t,hl,hv=>by
  cases us with
  | nil=>simp at hl
  | cons u us =>
   obtain ⟨k,x,e1,e2⟩:=hv 0 u rfl
   simp only [List.getElem?_cons_zero,Option.some.injEq] at e1
   have hk:kv.1 = k:=by rw [r.1,e1]
   refine .cons (by show RelV (kV kv.1) u; rw [hk]; exact jqp e2) (jj6 t (by simpa using hl) fun j v hj=>?_)
   obtain ⟨k',x',z1,z2⟩:=hv (j + 1) v (by simpa using hj)
   exact ⟨k',x',by simpa using z1,z2⟩
theorem jnk {X:Cx} (hc:X.calm = true):jcr X (.type "list") rListD:=by
 intro pins s σ H xs us Q I r h
 obtain ⟨p,kvs,rfl,e,q⟩:=h
 obtain ⟨u,rfl,rx⟩:=jgt r
 cases rx
 obtain ⟨z,lo,vs',rel,dd⟩:=jro I.hok e
 obtain ⟨ep,hat⟩:=dd.dictAt
 have hkl:=rel.length
 refine PySem.W.kdl_call (PySem.W.kdl_dict (knd:=jbx X.prog X.w) (kvs:=vs') (ep:=ep) lo) (I.ok.hd hc) hat (by omega) fun h' tk acc c hkp hS hacc=>?_
 have hl:acc.toList.length = vs'.length:=by rw [Array.length_toList]; exact hacc.1
 have hv:=jj6 rel hl fun j v ej=>hacc.2 j v (by rw [← Array.getElem?_toList]; exact ej)
 refine ⟨.ref s.heap.objs.size,_,I.laid (t':=tk) hkp (Nat.le_refl _) (show jcg X.prog X.w _ _ _ (.lst _) from ⟨by rw [List.length_map]; exact z,acc.toList,c,hv,?_⟩),rfl,q _ (I.hok.fresh (Nat.le_refl _))⟩
 rw [Array.toArray_toList]
 exact hS
end L2
namespace So
open PySem PyProof.Rows
section
variable {prog:Program} {w:World} {A:Around} {E:Value→Shared→Prop} {s:Shared}
section
variable {prog:Program} {w:World} {A:Around} {E:Value→Shared→Prop} {s:Shared} {R:Keyed→Int} {κ:SortKind} {a₀:Array Keyed} {pd:Array (Nat × Nat × Nat)}
theorem jjx {n:Nat} (h:n < 64):minRun' n n 0 = n:=by
 show (sortPriv% PySem.Builtin.minRun) n n 0 = n
 cases n with
 | zero=>rfl
 | succ k=>exact if_pos h
theorem jsp (C:Cm prog w A s R κ a₀) {st:SortSt} (b:Bs κ a₀ #[] st) (h1:1 ≤ a₀.size) (h63:a₀.size < 64) {Q:Unit→SortSt→Prop}
  (h:∀ st',(arrOf st').Perm a₀→failedOf st' = none→Up R (arrOf st') 0 a₀.size→Q () st'):wpS (model prog w) A E s sortRuns' Q st:=by
 have pn:∀ {st:SortSt} {pd:Array (Nat × Nat × Nat)},Bs κ a₀ pd st→(sortPriv% PySem.Builtin.SortState.pending) st = pd:=fun b=>b.pend
 have sz:(sortPriv% PySem.Builtin.SortState.a) st = arrOf st:=rfl
 have mr:=jjx h63
 unfold sortRuns'
 refine wpS_bind (wpS_get ?_)
 rw [sz,b.size]
 refine wpS_bind (wpS_mono (wpS_forRange (I:=fun x (c:Option Unit × Nat) st'=>∃ lo pd,c = (none,lo)∧Bs κ a₀ pd st'∧((x = 0∧lo = 0∧pd = #[]) ∨ (lo = a₀.size∧pd.size ≤ 1∧Up R (arrOf st') 0 a₀.size)))
  (Q:=fun (c:Option Unit × Nat) st'=>∃ pd,c = (none,a₀.size)∧Bs κ a₀ pd st'∧pd.size ≤ 1∧Up R (arrOf st') 0 a₀.size) ?step ?fin ⟨0,#[],rfl,b,.inl ⟨rfl,rfl,rfl⟩⟩) ?post)
 case fin =>
  rintro c st' ⟨lo,pd,rfl,b',q⟩
  rcases q with ⟨q,_⟩ | ⟨rfl,q1,q2⟩
  ·omega
  ·exact ⟨pd,rfl,b',q1,q2⟩
 case post =>
  rintro c st' ⟨pd,rfl,b',p1,u⟩
  refine wpS_bind (wpS_mono (wpS_forRange (I:=fun x (c:Option Unit × Unit) st'=>∃ pd,c = (none,())∧Bs κ a₀ pd st'∧pd.size ≤ 1∧Up R (arrOf st') 0 a₀.size)
   (Q:=fun (c:Option Unit × Unit) st'=>∃ pd,c = (none,())∧Bs κ a₀ pd st'∧pd.size ≤ 1∧Up R (arrOf st') 0 a₀.size) ?s2 (fun _ _ z=>z) ⟨pd,rfl,b',p1,u⟩) ?p2)
  case p2 =>
   rintro c st2 ⟨pd,rfl,b2,q,u2⟩
   exact wpS_pure (h st2 b2.perm b2.ok u2)
  case s2 =>
   rintro x c st2 _ hx ⟨pd,rfl,b2,q,u2⟩
   refine wpS_bind (wpS_get ?_)
   rw [pn b2]
   exact jnr (fun c=>wpS_pure ⟨pd,rfl,b2,q,u2⟩) fun c=>absurd q c
 case step =>
  rintro x c st' _ hx ⟨lo,pd,rfl,b',q⟩
  rcases q with ⟨rfl,rfl,rfl⟩ | ⟨rfl,q1,q2⟩
  ·refine jnr (fun c=>absurd (show 0 ≥ a₀.size from c) (by omega)) fun c=>?_
   refine wpS_bind (jsq (lo:=0) (nrem:=a₀.size - 0) C (by omega) (by omega) b' fun m st2 b2 f2 m1 m2 u2=>?_)
   have push:∀ (n:Nat) (st4:SortSt),Bs κ a₀ #[] st4→Up R (arrOf st4) 0 (0 + n)→n = a₀.size →
     ∃ lo' pd',((none,0 + n):Option Unit × Nat) = (none,lo')∧Bs κ a₀ pd' (SortSt.mk' (kindOf st4) (arrOf st4) ((pendingOf st4).push (0,n,0)) (gallopOf st4) (failedOf st4))∧((0 + 1 = 0∧lo' = 0∧pd' = #[]) ∨ (lo' = a₀.size∧pd'.size ≤ 1∧Up R (arrOf st4) 0 a₀.size)):=by
    intro n st4 b4 u4 hn
    subst hn
    refine ⟨_,#[].push (0,a₀.size,0),rfl,⟨b4.perm,b4.kind,b4.ok,?_⟩,.inr ⟨by omega,by simp,?_⟩⟩
    ·show (pendingOf st4).push (0,a₀.size,0) = _
     rw [b4.pend]
    ·rwa [Nat.zero_add] at u4
   refine jnr (fun cm=>?_) fun cm=>?_
   case' refine_1 =>
    refine wpS_bind (wpS_lift (wpAny_rule ⟨rfl,?_⟩))
    refine wpS_bind (w_ins (lo:=0) (n:=min (a₀.size - 0) (minRun' a₀.size a₀.size 0)) (ok:=m) C (by omega) (by rw [mr]; omega) b2 u2 fun st3 b3 f3 u3=>?_)
    refine jnr (fun c=>by cases c) fun _=>?_
    have hn:min (a₀.size - 0) (minRun' a₀.size a₀.size 0) = a₀.size:=by rw [mr]; omega
   case' refine_2 =>
    have b3:=b2
    have u3:=u2
    have hn:m = a₀.size:=by
     have cm':¬ m < minRun' a₀.size a₀.size 0:=cm
     rw [mr] at cm'
     omega
   all_goals
    refine wpS_bind (wpS_get ?_)
    rw [pn b3]
    exact wpS_bind (wpS_modify (wpS_pure (push _ _ b3 u3 hn)))
  ·refine jnr (fun c=>wpS_pure ⟨pd,rfl,b',q1,q2⟩) fun c=>absurd (Nat.le_refl _) c
end
section
variable {prog:Program} {w:World} {A:Around} {E:Value→Shared→Prop} {s:Shared}
theorem jqm {a:Addr} {vs:List Value} {n:Nat} {P:PySem.Fin→Shared→Prop} {R:Keyed→Int} {κ:SortKind} {h₁:Heap} (ho:s.heap.get? a = some (seqObj "list" vs.toArray n)) (h63:vs.length < 64) (hz:vs.length ≤ sizeLine)
  (hold:∀ b o,h₁.get? b = some o→b ≠ a∧s.heap.get? b = some o) (hk:2 ≤ vs.length→Asks prog w { s with heap:=h₁ } vs R κ)
  (h:∀ out:Array Value,out.toList.Perm vs→out.toList.Pairwise (fun a b=>R (a,a) ≤ R (b,b))→P (.done (.ret .none)) { s with heap:=sortedHeap s.heap a vs out }) :
  wpAny (model prog w) A (Builtin.«list.sort» ⟨[.ref a],[]⟩) P E s:=by
 rw [list_sort_plain]
 have ha:a < s.heap.objs.size:=Heap.lt_size ho
 have hz1:vs.toArray.size ≤ sizeLine:=by rw [List.size_toArray]; exact hz
 refine wpAny_bind (listItems_at ho rfl (wpAny_bind (listUpdate_at ho rfl ?_ hz1 (Nat.zero_le _))))
 obtain ⟨e1,ho1⟩:∃ e1,(s.heap.update a (Obj.mapSeq fun _=>(#[]:Array Value))).get? a = some (seqObj "list" #[] e1):=⟨_,get?_update_seq ho fun _=>#[]⟩
 refine wpAny_bind (seqEpoch_at ho1 rfl (wpAny_bind (wpAny_newTuple (wpAny_bind (wpAny_newList (wpAny_holding ?_) (Nat.zero_le _))) hz)))
 have keep:∀ b o,b ≠ a→s.heap.get? b = some o→(((s.heap.update a (Obj.mapSeq fun _=>(#[]:Array Value))).push (seqObj "tuple" vs.toArray 0)).push (seqObj "list" #[] 0)).get? b = some o:=fun b o hne q =>
  Heap.get?_push_of_some _ (Heap.get?_push_of_some _ (by rw [Heap.get?_update_ne _ _ _ _ hne]; exact q))
 have ho6:(((s.heap.update a (Obj.mapSeq fun _=>(#[]:Array Value))).push (seqObj "tuple" vs.toArray 0)).push (seqObj "list" #[] 0)).get? a = some (seqObj "list" #[] e1):=Heap.get?_push_of_some _ (Heap.get?_push_of_some _ ho1)
 show wpAny (model prog w) A _ P E { s with heap:=((s.heap.update a (Obj.mapSeq fun _=>(#[]:Array Value))).push (seqObj "tuple" vs.toArray 0)).push (seqObj "list" #[] 0) }
 dsimp only
 have fin:∀ st':SortSt,(arrOf st').Perm (pairsOf vs)→Up R (arrOf st') 0 (arrOf st').size→P (.done (.ret .none)) { s with heap:=sortedHeap s.heap a vs ((arrOf st').map (·.2)) }:=fun st' p u=>by
  obtain ⟨z1,z2⟩:=out_of p u
  exact h _ z1 z2
 by_cases c2:vs.toArray.size < 2
 ·rw [if_pos c2,if_pos c2]
  refine wpAny_bind (wpAny_pure ?_)
  rw [StateT.run_pure]
  refine wpAny_bind (wpAny_pure (wpAny_bind (seqEpoch_at ho6 rfl (wpAny_bind (listUpdate_at ho6 rfl ?_ (Nat.zero_le _) (by rw [Array.size_map]; show (pairsOf vs).size ≤ _; rw [pairsOf_size]; exact Nat.le_succ_of_le hz))))))
  simp only [bne_self_eq_false,Bool.false_eq_true,if_false]
  refine wpAny_pure (fin (SortSt.mk' general' (vs.toArray.zip vs.toArray) #[] 7 none) (Array.Perm.refl _) (Up.one ?_))
  show (pairsOf vs).size ≤ 1
  rw [pairsOf_size]
  rw [List.size_toArray] at c2
  omega
 ·rw [if_neg c2,if_neg c2]
  rw [List.size_toArray] at c2
  obtain ⟨k1,k2⟩:=hk (by omega) A _ fun b o q=>keep b o (hold b o q).1 (hold b o q).2
  refine wpAny_bind (k1 _ _ ?_)
  have k3:=jsp (E:=E) (st:=SortSt.mk' κ (pairsOf vs) #[] 7 none) (Q:=fun _ st'=>(arrOf st').Perm (pairsOf vs)∧failedOf st' = none∧Up R (arrOf st') 0 (pairsOf vs).size) k2 ⟨Array.Perm.refl _,rfl,rfl,rfl⟩ (by rw [pairsOf_size]; omega) (by rw [pairsOf_size]; exact h63) fun st' a1 a2 a3=>⟨a1,a2,a3⟩
  refine wpAny_bind (wpAny_mono k3 ?_ fun _ _ e=>e)
  rintro ⟨⟨⟩,st'⟩ s' ⟨rfl,hp,hf,hs⟩
  dsimp only
  refine wpAny_bind (seqEpoch_at ho6 rfl (wpAny_bind (listUpdate_at ho6 rfl ?_ (Nat.zero_le _) (by refine Nat.le_trans (Nat.le_of_eq ((Array.size_map ..).trans (hp.size_eq.trans (pairsOf_size _)))) (Nat.le_succ_of_le hz)))))
  rw [hf]
  simp only [bne_self_eq_false,Bool.false_eq_true,if_false]
  rw [← hp.size_eq] at hs
  exact wpAny_pure (fin st' hp hs)
theorem jmy {l:Addr} {vs:List Value} {Q:Value→Shared→Prop} {R:Keyed→Int} {κ:SortKind} (hl:s.heap.IsList l vs.toArray) (h63:vs.length < 64) (hz:vs.length ≤ sizeLine) (hk:2 ≤ vs.length→Asks prog w s vs R κ)
  (h:∀ out:Array Value,out.toList.Perm vs→out.toList.Pairwise (fun a b=>R (a,a) ≤ R (b,b))→Q (.ref (s.heap.objs.size + 1)) { s with heap:=sortedAll s.heap vs out }) :
  wpAny (model prog w) A (call (.builtin "sorted") [.ref l]) Q E s:=by
 refine Calls.call_function_entry kind_sorted plain_sorted entry_sorted (args_sorted1 _) ?_
 unfold Builtin.«sorted»
 refine wpAny_bind (m:=checkCount "sorted" 1 1 _) (wpAny_pure (wpAny_bind (collect_list hl (wpAny_bind (wpAny_newList ?_ hz)) hz)))
 have hsz:((s.heap.push (seqObj "list" #[] 0)).update s.heap.objs.size (Obj.mapSeq (· ++ vs.toArray))).objs.size = s.heap.objs.size + 1:=by rw [Heap.size_update,size_push']
 generalize hh:((s.heap.push (seqObj "list" #[] 0)).update s.heap.objs.size (Obj.mapSeq (· ++ vs.toArray))).push (seqObj "list" vs.toArray 0) = h2
 have hoL:h2.get? (s.heap.objs.size + 1) = some (seqObj "list" vs.toArray 0):=by rw [← hh,← hsz]; exact Heap.get?_push_size _ rfl
 have keep:∀ b o,s.heap.get? b = some o→b ≠ s.heap.objs.size + 1∧h2.get? b = some o:=fun b o q=>by
  have hlt:b < s.heap.objs.size:=Heap.lt_size q
  refine ⟨Nat.ne_of_lt (Nat.lt_succ_of_lt hlt),?_⟩
  rw [← hh]
  exact Heap.get?_push_of_some _ (by rw [Heap.get?_update_ne _ _ _ _ (Nat.ne_of_lt hlt)]; exact Heap.get?_push_of_some _ q)
 show wpAny _ _ _ _ _ { s with heap:=h2 }
 rw [hsz]
 refine wpAny_bind (wpAny_holding (wpAny_call_entry slot_list_sort ⟨_,hoL,rfl⟩ entry_list_sort (jqm (s:={ s with heap:=h2 }) (h₁:=s.heap) hoL h63 hz keep hk fun out p1 p2=>⟨_,rfl,?_⟩) (args_list_sort _)))
 refine wpAny_pure ⟨_,rfl,?_⟩
 have z:=h out p1 p2
 unfold sortedAll at z
 rw [hh] at z
 exact z
end
end
end So
namespace L2
open PySem PySem.Spec PyProof.Rows
def rSortS:List V→Hp→VK→Prop:=fun vs H Q=>∃ (p:Addr) (xs:List V) (ps:List (Int × Int)) (B:Int),vs = [.ref p]∧H p = some (.lst xs)∧Prs H xs ps∧xs.length < 64∧(∀ q ∈ ps,0 ≤ q.2∧q.2 < B) ∧
 ∀ (l:Addr) (ys:List V) (qs:List (Int × Int)),H l = none→Prs H ys qs→qs.Perm ps→qs.Pairwise jp7→Q (.ref l) (upd H l (.lst ys))
theorem jnj {X:Cx}:jcr X (.builtin "sorted") rSortS:=by
 intro pins s σ H xs us Q I r h
 obtain ⟨p,xs,ps,B,rfl,e,pp,hz,hB,q⟩:=h
 obtain ⟨u,rfl,rx⟩:=jgt r
 cases rx
 obtain ⟨its,r',pl,_⟩:=I.list (SqL.of e)
 have hlen:=r'.length
 obtain ⟨m1,m2⟩:=jnt r' pp
 have hz2:(64:Nat) ≤ sizeLine:=by decide
 have hpv:∀ v ∈ its,pvOf H v ∈ ps:=fun v m=>by rw [← m1]; exact List.mem_map_of_mem m
 refine So.jmy (R:=fun k=>(pvOf H k.1).1 * B + (pvOf H k.1).2) pl.isList (by omega) (by omega) (fun h2=>So.jnm (B:=B) (fun v m=>?_) h2) fun out o1 o2=>?_
 ·obtain ⟨a,ea,eh⟩:=(m2 v m).2
  have ev:v = .ref a:=by
   have z:=(m2 v m).1
   rw [ea] at z
   exact z
  obtain ⟨_,is2,rv,ob,eo,ec,n,en⟩:=I.hok _ _ eh
  match is2,rv with
  | _,.cons ⟨t1,e1⟩ (.cons ⟨t2,e2⟩ .nil) =>
   subst e1 e2
   exact ⟨(pvOf H v).1,(pvOf H v).2,⟨a,ob,t1,t2,n,ev,eo,ec,en⟩,rfl,hB _ (hpv v m)⟩
 ·obtain ⟨c,hc⟩:=sortedAll_at s.heap its out
  obtain ⟨b1,b2⟩:=jq9 (H:=H) (us:=out.toList) fun v m=>m2 v (o1.mem_iff.mp m)
  have hol:=o1.length_eq
  refine ⟨.ref (s.heap.objs.size + 1),_,I.laid (t':=s.toks) (fun _ _=>sortedAll_old) (Nat.le_succ _) (show jcg X.prog X.w _ _ _ (.lst (out.toList.map tvOf)) from ⟨?_,out.toList,c,b1,?_⟩),rfl,q _ _ (out.toList.map (pvOf H)) (I.hok.fresh (Nat.le_succ _)) b2 ?_ ?_⟩
  ·rw [List.length_map]; omega
  ·rw [hc]
  ·have z:=o1.map (pvOf H)
   rwa [m1] at z
  ·rw [List.pairwise_map]
   refine List.Pairwise.imp_of_mem ?_ o2
   intro u v mu mv huv
   have g1:=hB _ (hpv u (o1.mem_iff.mp mu))
   have g2:=hB _ (hpv v (o1.mem_iff.mp mv))
   have z:=So.jp6 (x:=(pvOf H v).1) (x':=(pvOf H u).1) g2.1 g2.2 g1.1 g1.2
   have z2:¬ ((pvOf H v).1 < (pvOf H u).1 ∨ ((pvOf H v).1 = (pvOf H u).1∧(pvOf H v).2 < (pvOf H u).2)):=fun w=>by
    have:=z.mpr w
    dsimp only at huv
    omega
   unfold jp7
   omega
end L2
namespace My
open PySem L2
theorem sl0:(0 ≤ sizeLine) = True:=eq_true (by decide)
theorem sl1:(1 ≤ sizeLine) = True:=eq_true (by decide)
theorem sl2:(2 ≤ sizeLine) = True:=eq_true (by decide)
theorem sl3:(3 ≤ sizeLine) = True:=eq_true (by decide)
theorem sl4:(4 ≤ sizeLine) = True:=eq_true (by decide)
end My
local macro_rules | `(tactic| walk_at "RD") => `(tactic| try simp only [L2.fIsB, L2.tSeq, L2.jau, L2.jav, L2.tRet, L2.jb0, L2.tIfS, L2.tAsg, L2.jak, L2.fAug, L2.tOp, L2.tUn, L2.tC, L2.fVar, L2.fI, L2.fIC, L2.fNeg, L2.fEq, L2.fNe, L2.fIsN, L2.jal, L2.fAnd, L2.fOr, L2.fNot, L2.fB, L2.tNot, L2.tAnd, L2.tOr, L2.jab, L2.fIx, L2.fLen, L2.ja2, L2.fMin, L2.fMax, L2.fInL, L2.fSlL, L2.tSl, L2.jax, L2.ja4, L2.ja3, L2.fBM, L2.jao, L2.gSub, L2.jar, L2.ja6, L2.jaq, L2.jb4, L2.jaa, L2.ja9, L2.ja8, L2.fCat, L2.jae, L2.fBM0, L2.fSlT, L2.jap, L2.tCBK, L2.fDIn, L2.jaz, L2.fIsi, L2.jaf, L2.ja7, L2.fLtT, L2.jaw, L2.tCB, L2.jam, L2.tNil, L2.tTup, L2.tLst, L2.tIf, L2.jat, L2.Kd.nm, L2.start, List.map_cons, List.map_nil, List.length_cons, List.length_nil, Nat.reduceAdd, Nat.reduceSub, List.replicate_succ, List.replicate_zero, List.getElem?_cons_zero, List.getElem?_cons_succ, List.set_cons_zero, List.set_cons_succ, List.append_nil, List.nil_append, List.cons_append, eq_self, true_and, and_true, if_true, Bool.false_eq_true, if_false, Bool.not_true, Bool.not_false, id_eq, My.sl0, My.sl1, My.sl2, My.sl3, My.sl4])
local macro_rules | `(tactic| simp_arith [$args,*]) => `(tactic| try simp only [L2.fIsB, L2.tSeq, L2.jau, L2.jav, L2.tRet, L2.jb0, L2.tIfS, L2.tAsg, L2.jak, L2.fAug, L2.tOp, L2.tUn, L2.tC, L2.fVar, L2.fI, L2.fIC, L2.fNeg, L2.fEq, L2.fNe, L2.fIsN, L2.jal, L2.fAnd, L2.fOr, L2.fNot, L2.fB, L2.tNot, L2.tAnd, L2.tOr, L2.jab, L2.fIx, L2.fLen, L2.ja2, L2.fMin, L2.fMax, L2.fInL, L2.fSlL, L2.tSl, L2.jax, L2.ja4, L2.ja3, L2.fBM, L2.jao, L2.gSub, L2.jar, L2.ja6, L2.jaq, L2.jb4, L2.jaa, L2.ja9, L2.ja8, L2.fCat, L2.jae, L2.fBM0, L2.fSlT, L2.jap, L2.tCBK, L2.fDIn, L2.jaz, L2.fIsi, L2.jaf, L2.ja7, L2.fLtT, L2.jaw, L2.tCB, L2.jam, L2.tNil, L2.tTup, L2.tLst, L2.tIf, L2.jat, L2.Kd.nm, L2.start, List.map_cons, List.map_nil, List.length_cons, List.length_nil, Nat.reduceAdd, Nat.reduceSub, List.replicate_succ, List.replicate_zero, List.getElem?_cons_zero, List.getElem?_cons_succ, List.set_cons_zero, List.set_cons_succ, List.append_nil, List.nil_append, List.cons_append, eq_self, true_and, and_true, if_true, Bool.false_eq_true, if_false, Bool.not_true, Bool.not_false, id_eq, My.sl0, My.sl1, My.sl2, My.sl3, My.sl4, $args,*])
namespace My
open PySem L2
theorem szl {n:Nat} (h:n ≤ 1000):n ≤ sizeLine:=Nat.le_trans h (by decide)
theorem szl' {n:Nat} (h:n ≤ 1000):n < sizeLine:=Nat.lt_of_le_of_lt h (by decide)
def top (i:Nat):Stmt:=PySem.Challenge.pw_touchall_k32_fixed_in_bunches.main.body.getD i (.Pass ⟨0,0,0,0⟩)
structure DefAt (K:PySem.W.Frag) (mg:Str→Option Value) (x:Str) (st:Stmt) (ps:List Str) (f:Addr) (fd:FuncData):Prop where
 F:Fun K x x st f fd
 b:jer K fd ps []
 m:mg x = some (.ref f)
structure Blt (mg:Str→Option Value):Prop where
 len:mg "len" = none
 isinstance:mg "isinstance" = none
 all:mg "all" = none
 min:mg "min" = none
 list:mg "list" = none
 dict:mg "dict" = none
 int:mg "int" = none
 bool:mg "bool" = none
 str:mg "str" = none
 tuple:mg "tuple" = none
 range:mg "range" = none
 enumerate:mg "enumerate" = none
 zip:mg "zip" = none
 max:mg "max" = none
 any:mg "any" = none
 sum:mg "sum" = none
 sorted:mg "sorted" = none
 set:mg "set" = none
structure Cst (mg:Str→Option Value) (t1 t2 t3 t4:Tok):Prop where
 MOST_PLACES:mg "MOST_PLACES" = some (.int 40 t1)
 MOST_TIES:mg "MOST_TIES" = some (.int 120 t2)
 LAST_PLACE:mg "LAST_PLACE" = some (.int 999 t3)
 MOST_PRICE:mg "MOST_PRICE" = some (.int 1000000000000 t4)
section
variable {P:Program} {w:World} {K:PySem.W.Frag} {mg:Str→Option Value} {base:Heap} {c1 c2 c3 c4:Tok}
theorem at0 {α:Type} {x:α} {r:List α}:atI (x :: r) 0 = some x:=by
 have e:atI (x :: r) ((0:Nat):Int) = some x:=jdc rfl
 exact e
theorem at1 {α:Type} {x y:α} {r:List α}:atI (x :: y :: r) 1 = some y:=by
 have e:atI (x :: y :: r) ((1:Nat):Int) = some y:=jdc rfl
 exact e
theorem at2 {α:Type} {x y z:α} {r:List α}:atI (x :: y :: z :: r) 2 = some z:=by
 have e:atI (x :: y :: z :: r) ((2:Nat):Int) = some z:=jdc rfl
 exact e
def jnp:Kd→Bool
 | .int=>true
 | _=>false
def jo3:Sp:=fun vs H Q _=>∃ x k,vs = [x]∧kd H x = some k∧Q (.bl (jnp k)) H
def jfx:Sp:=fun vs H Q _=>∃ a xs m,vs = [.ref a,.int m]∧H a = some (.tup xs)∧Q (.bl (decide ((xs.length:Int) = m))) H
def jew:Sp:=fun vs H Q _=>∃ a xs m,vs = [.ref a,.int m]∧H a = some (.lst xs)∧Q (.bl (decide ((xs.length:Int) ≤ m))) H
def jo8:Sp:=fun vs H Q _=>∃ x p,vs = [x]∧Pr H x p∧Q (.bl true) H
def jeb:Sp:=fun vs H Q _=>∃ x p l s,vs = [x,.int l,.int s]∧Pr H x p∧(l < p.1∧p.1 ≤ 999∧1 ≤ p.2∧p.2 ≤ 1000000000000 - s)∧Q (.bl true) H
def hasK (kvs:List (Key × V)) (n:Int):Bool:=(valV kvs (Sum.inl n:Key)).isSome
def jfy:Sp:=fun vs H Q _=>∃ x p y q d kvs,vs = [x,y,.ref d]∧Pr H x p∧Pr H y q∧H d = some (.dK kvs)∧(HT.lexLt [q.1,q.2] [p.1,p.2] = true∧p.1 < p.2∧hasK kvs p.1 = true∧hasK kvs p.2 = true)∧Q (.bl true) H
theorem jkz {f:Addr} {fd:FuncData}  (B:Blt mg) (D:DefAt K mg "is_whole" (top 7) ["thing"] f fd):FnOk P w K mg base CX0 1 f fd ["thing"] jo3:=by
 have sc:FnScope ["thing"] ["thing"] (jba (top 7)):=⟨rfl,rfl,rfl,by decide +kernel,rfl,by decide +kernel,by decide +kernel⟩
 refine D.F.ok sc (fun vs H Q E h=>?_) (fun cdv A outer s H vs Q E hr h=>?_)
 ·obtain ⟨x,k,rfl,_⟩:=h
  rfl
 obtain ⟨x,k,rfl,ek,h⟩:=h
 have hu:=jc7 hr
 have hu0:_ < PySem.cLine:=Nat.lt_of_succ_lt hu
 refine ⟨_,(jb9 (jbq (ji2 (jbk (jqu .int) rfl B.isinstance PyProof.Rows.boot_isinstance (ja0 (qv 0) (ja0 (ji8 (v:=.ty "int") rfl B.int PyProof.Rows.boot_int rfl) jai))) (jha (q_not (jbk (jqu .bl) rfl B.isinstance PyProof.Rows.boot_isinstance (ja0 (qv 0) (ja0 (ji8 (v:=.ty "bool") rfl B.bool PyProof.Rows.boot_bool rfl) jai)))))))),?_⟩
 simp_arith [ek]
 cases k <;> simpa only [isi,jnp,if_true,if_false,Bool.false_eq_true,Bool.not_true,Bool.not_false] using h
theorem jgx {f:Addr} {fd:FuncData}  (B:Blt mg) (D:DefAt K mg "is_tuple_of" (top 8) ["thing","many"] f fd):FnOk P w K mg base CX0 1 f fd ["thing","many"] jfx:=by
 have sc:FnScope ["thing","many"] ["thing","many"] (jba (top 8)):=⟨rfl,rfl,rfl,by decide +kernel,rfl,by decide +kernel,by decide +kernel⟩
 refine D.F.ok sc (fun vs H Q E h=>?_) (fun cdv A outer s H vs Q E hr h=>?_)
 ·obtain ⟨a,xs,m,rfl,_⟩:=h
  rfl
 obtain ⟨a,xs,m,rfl,ea,h⟩:=h
 have hu:=jc7 hr
 have hu0:_ < PySem.cLine:=Nat.lt_of_succ_lt hu
 refine ⟨_,(jb9 (jbq (ji2 (jbk (jqu .tup) rfl B.isinstance PyProof.Rows.boot_isinstance (ja0 (qv 0) (ja0 (ji8 (v:=.ty "tuple") rfl B.tuple PyProof.Rows.boot_tuple rfl) jai))) (jha (je3 q_eq (jbk ji0 rfl B.len PySem.boot_len (ja0 (qv 0) jai)) (qv 1) (jcc _)))))),?_⟩
 simp_arith [kd,ea,jbo,isi]
 exact h
theorem jfd {f:Addr} {fd:FuncData}  (B:Blt mg) (D:DefAt K mg "is_list_up_to" (top 10) ["thing","most"] f fd):FnOk P w K mg base CX0 1 f fd ["thing","most"] jew:=by
 have sc:FnScope ["thing","most"] ["thing","most"] (jba (top 10)):=⟨rfl,rfl,rfl,by decide +kernel,rfl,by decide +kernel,by decide +kernel⟩
 refine D.F.ok sc (fun vs H Q E h=>?_) (fun cdv A outer s H vs Q E hr h=>?_)
 ·obtain ⟨a,xs,m,rfl,_⟩:=h
  rfl
 obtain ⟨a,xs,m,rfl,ea,h⟩:=h
 have hu:=jc7 hr
 have hu0:_ < PySem.cLine:=Nat.lt_of_succ_lt hu
 refine ⟨_,(jb9 (jbq (ji2 (jbk (jqu .lst) rfl B.isinstance PyProof.Rows.boot_isinstance (ja0 (qv 0) (ja0 (ji8 (v:=.ty "list") rfl B.list PyProof.Rows.boot_list rfl) jai))) (jha (je3 q_le (jbk ji0 rfl B.len PySem.boot_len (ja0 (qv 0) jai)) (qv 1) (jcc _)))))),?_⟩
 simp_arith [kd,ea,jbo,isi]
 exact h
theorem je0 {f:Addr} {fd:FuncData} {f_is_tuple_of:Addr} {d_is_tuple_of:FuncData} {f_is_whole:Addr} {d_is_whole:FuncData} (B:Blt mg) (D:DefAt K mg "is_pair_of_wholes" (top 9) ["thing"] f fd) (D_is_tuple_of:DefAt K mg "is_tuple_of" (top 8) ["thing","many"] f_is_tuple_of d_is_tuple_of) (G_is_tuple_of:FnOk P w K mg base CX0 1 f_is_tuple_of d_is_tuple_of ["thing","many"] jfx) (D_is_whole:DefAt K mg "is_whole" (top 7) ["thing"] f_is_whole d_is_whole) (G_is_whole:FnOk P w K mg base CX0 1 f_is_whole d_is_whole ["thing"] jo3):FnOk P w K mg base CX0 2 f fd ["thing"] jo8:=by
 have sc:FnScope ["thing"] ["thing"] (jba (top 9)):=⟨rfl,rfl,rfl,by decide +kernel,rfl,by decide +kernel,by decide +kernel⟩
 refine D.F.ok sc (fun vs H Q E h=>?_) (fun cdv A outer s H vs Q E hr h=>?_)
 ·obtain ⟨x,p,rfl,_⟩:=h
  rfl
 obtain ⟨x,p,rfl,⟨a,rfl,ea⟩,h⟩:=h
 have hu:=jc7 hr
 have hu0:_ < PySem.cLine:=Nat.lt_of_succ_lt hu
 refine ⟨_,(jb9 (jbq (ji2 (jbe G_is_tuple_of (hr.mono (by decide)) rfl D_is_tuple_of.m D_is_tuple_of.F.kp D_is_tuple_of.b .nil jbs (ja0 (qv 0) (ja0 jaj jai))) (ji2 (jbe G_is_whole (hr.mono (by decide)) rfl D_is_whole.m D_is_whole.F.kp D_is_whole.b .nil jbs (ja0 (jbl q_ix (qv 0) jaj (fun _ _=>rfl)) jai)) (jha (jbe G_is_whole (hr.mono (by decide)) rfl D_is_whole.m D_is_whole.F.kp D_is_whole.b .nil jbs (ja0 (jbl q_ix (qv 0) jaj (fun _ _=>rfl)) jai))))))),?_⟩
 simp_arith [jbo,ea,at0,at1]
 refine ⟨a,_,2,rfl,ea,?_⟩
 simp_arith [jbo,ea,at0,at1,Int.cast_ofNat_Int,decide_true]
 refine ⟨_,.int,rfl,rfl,?_⟩
 simp_arith [jnp,jbo,ea,at0,at1]
 exact ⟨_,.int,rfl,rfl,h⟩
theorem jg5 {f:Addr} {fd:FuncData} {f_is_pair_of_wholes:Addr} {d_is_pair_of_wholes:FuncData} (B:Blt mg) (C:Cst mg c1 c2 c3 c4) (D:DefAt K mg "place_stands" (top 20) ["thing","last","spent"] f fd) (D_is_pair_of_wholes:DefAt K mg "is_pair_of_wholes" (top 9) ["thing"] f_is_pair_of_wholes d_is_pair_of_wholes) (G_is_pair_of_wholes:FnOk P w K mg base CX0 2 f_is_pair_of_wholes d_is_pair_of_wholes ["thing"] jo8):FnOk P w K mg base CX0 3 f fd ["thing","last","spent"] jeb:=by
 have sc:FnScope ["thing","last","spent"] ["thing","last","spent"] (jba (top 20)):=⟨rfl,rfl,rfl,by decide +kernel,rfl,by decide +kernel,by decide +kernel⟩
 refine D.F.ok sc (fun vs H Q E h=>?_) (fun cdv A outer s H vs Q E hr h=>?_)
 ·obtain ⟨x,p,l,s,rfl,_⟩:=h
  rfl
 obtain ⟨x,p,l,sp,rfl,hp,⟨b1,b2,b3,b4⟩,h⟩:=h
 obtain ⟨a,rfl,ea⟩:=id hp
 have hu:=jc7 hr
 have hu0:_ < PySem.cLine:=Nat.lt_of_succ_lt hu
 refine ⟨_,(jah (jdz (jg0 (jfa (jbe G_is_pair_of_wholes (hr.mono (by decide)) rfl D_is_pair_of_wholes.m D_is_pair_of_wholes.F.kp D_is_pair_of_wholes.b .nil jbs (ja0 (qv 0) jai)))) (jb9 (jbq jjn)) jcd) (jb9 (jbq (ji2 (joo q_lt q_le (qv 1) (jbl q_ix (qv 0) jaj (fun _ _=>rfl)) (jcu (v:=.int 999) rfl C.LAST_PLACE ⟨_,rfl⟩)) (jha (joo q_le q_le jaj (jbl q_ix (qv 0) jaj (fun _ _=>rfl)) (jbw jt0 (jcu (v:=.int 1000000000000) rfl C.MOST_PRICE ⟨_,rfl⟩) (qv 2)))))))),?_⟩
 walk_at "RD"
 refine ⟨_,p,rfl,hp,?_⟩
 simp_arith [jbo,ea,at0,at1,decide_eq_true b1,decide_eq_true b2,decide_eq_true b3,decide_eq_true b4]
 exact h
theorem jib {f:Addr} {fd:FuncData} {f_is_pair_of_wholes:Addr} {d_is_pair_of_wholes:FuncData} (B:Blt mg) (D:DefAt K mg "tie_stands" (top 21) ["thing","last","prices"] f fd) (D_is_pair_of_wholes:DefAt K mg "is_pair_of_wholes" (top 9) ["thing"] f_is_pair_of_wholes d_is_pair_of_wholes) (G_is_pair_of_wholes:FnOk P w K mg base CX0 2 f_is_pair_of_wholes d_is_pair_of_wholes ["thing"] jo8):FnOk P w K mg base CX0 3 f fd ["thing","last","prices"] jfy:=by
 have sc:FnScope ["thing","last","prices"] ["thing","last","prices"] (jba (top 21)):=⟨rfl,rfl,rfl,by decide +kernel,rfl,by decide +kernel,by decide +kernel⟩
 refine D.F.ok sc (fun vs H Q E h=>?_) (fun cdv A outer s H vs Q E hr h=>?_)
 ·obtain ⟨x,p,y,q,d,kvs,rfl,_⟩:=h
  rfl
 obtain ⟨x,p,y,q,d,kvs,rfl,hp,hq,hd,⟨b1,b2,b3,b4⟩,h⟩:=h
 obtain ⟨a,rfl,ea⟩:=id hp
 obtain ⟨b,rfl,eb⟩:=id hq
 unfold hasK at b3 b4
 have hu:=jc7 hr
 have hu0:_ < PySem.cLine:=Nat.lt_of_succ_lt hu
 refine ⟨_,(jah (jdz (jg0 (jfa (jbe G_is_pair_of_wholes (hr.mono (by decide)) rfl D_is_pair_of_wholes.m D_is_pair_of_wholes.F.kp D_is_pair_of_wholes.b .nil jbs (ja0 (qv 0) jai)))) (jb9 (jbq jjn)) jcd) (jb9 (jbq (ji2 (je3 (q_ltT hu0) (qv 1) (qv 0) (jcc _)) (ji2 (je3 q_lt (jbl q_ix (qv 0) jaj (fun _ _=>rfl)) (jbl q_ix (qv 0) jaj (fun _ _=>rfl)) (jcc _)) (ji2 (jsd (jqv hu (jbl q_ix (qv 0) jaj (fun _ _=>rfl)) (qv 2))) (jha (jsd (jqv hu (jbl q_ix (qv 0) jaj (fun _ _=>rfl)) (qv 2)))))))))),?_⟩
 walk_at "RD"
 refine ⟨_,p,rfl,hp,?_⟩
 simp_arith [jbo,ea,eb,hd,at0,at1,b1,decide_eq_true b2,b3,b4]
 exact h
end
end My
namespace My
open PySem L2
section
variable {P:Program} {w:World} {K:PySem.W.Frag} {mg:Str→Option Value} {base:Heap} {c1 c2 c3 c4:Tok}
def PlOk:Int→Int→List (Int × Int)→Prop
 | _,_,[]=>True
 | l,s,p :: r=>(l < p.1∧p.1 ≤ 999∧1 ≤ p.2∧p.2 ≤ 1000000000000 - s)∧PlOk p.1 (s + p.2) r
def jd1 (ps:List (Int × Int)):List (Key × V):=ps.map fun p=>(Sum.inl p.1,V.int p.2)
def TiOk (kvs:List (Key × V)):Int × Int→List (Int × Int)→Prop
 | _,[]=>True
 | q,p :: r=>(HT.lexLt [q.1,q.2] [p.1,p.2] = true∧p.1 < p.2∧hasK kvs p.1 = true∧hasK kvs p.2 = true)∧TiOk kvs p r
structure WebOk (ps ts:List (Int × Int)):Prop where
 pl:ps.length ≤ 40
 p:PlOk (-1) 0 ps
 tl:ts.length ≤ 120
 t:TiOk (jd1 ps) (-1,-1) ts
def jdu (H:Hp) (v:V) (ps ts:List (Int × Int)):Prop :=
 ∃ u pa ta xs ys,v = .ref u∧H u = some (.tup [.ref pa,.ref ta])∧H pa = some (.lst xs)∧H ta = some (.lst ys)∧Prs H xs ps∧Prs H ys ts
theorem jdu.same {H H':Hp} {v:V} {ps ts:List (Int × Int)} (h:jdu H v ps ts) (s:Same H H'):jdu H' v ps ts:=by
 obtain ⟨u,pa,ta,xs,ys,e,h1,h2,h3,h4,h5⟩:=h
 exact ⟨u,pa,ta,xs,ys,e,s _ _ h1,s _ _ h2,s _ _ h3,Prs.same s h4,Prs.same s h5⟩
theorem PlOk.gt:∀ {ps:List (Int × Int)} {l s:Int},PlOk l s ps→∀ p ∈ ps,l < p.1
 | [],_,_,_,_,h=>by cases h
 | q :: r,l,s,h,p,hp=>by
  rcases List.mem_cons.mp hp with e | hp
  ·rw [e]; exact h.1.1
  ·have:=PlOk.gt h.2 p hp
   have:=h.1.1
   omega
theorem PlOk.nodup:∀ {ps:List (Int × Int)} {l s:Int},PlOk l s ps→(ps.map (·.1)).Nodup
 | [],_,_,_=>List.nodup_nil
 | q :: r,l,s,h=>by
  rw [List.map_cons]
  refine List.nodup_cons.mpr ⟨fun hm=>?_,PlOk.nodup h.2⟩
  obtain ⟨p,hp,e⟩:=List.mem_map.mp hm
  have:=PlOk.gt h.2 p hp
  omega
theorem jhe {ps:List (Int × Int)} (h:(ps.map (·.1)).Nodup):((jd1 ps).map (·.1)).Nodup:=by
 unfold jd1
 rw [List.map_map]
 have e:((fun (x:Key × V)=>x.1) ∘ fun (p:Int × Int)=>((Sum.inl p.1:Key),V.int p.2)) = (fun (n:Int)=>(Sum.inl n:Key)) ∘ fun (p:Int × Int)=>p.1:=rfl
 rw [e,← List.map_map]
 unfold List.Nodup at h ⊢
 rw [List.pairwise_map]
 exact h.imp fun q z=>q (Sum.inl.inj z)
theorem ji9 {H:Hp}:∀ {xs:List V} {ps:List (Int × Int)},Prs H xs ps→Paired (PairAt H) xs (jd1 ps)
 | _,_,.nil=>.nil
 | _,_,.cons r t=>by
  obtain ⟨a,e,q⟩:=r
  exact .cons ⟨a,e,q⟩ (ji9 t)
theorem jft:∀ {ps:List (Int × Int)} {p:Int × Int},(ps.map (·.1)).Nodup→p ∈ ps→valV (jd1 ps) (Sum.inl p.1:Key) = some (.int p.2)
 | [],_,_,h=>by cases h
 | q :: r,p,hn,h=>by
  rw [List.map_cons] at hn
  unfold jd1 valV
  rw [List.map_cons,List.find?_cons]
  rcases List.mem_cons.mp h with e | h
  ·rw [e]
   simp
  ·have hne:q.1 ≠ p.1:=fun z=>(List.nodup_cons.mp hn).1 (by rw [z]; exact List.mem_map_of_mem h)
   have hd:decide ((Sum.inl q.1:Key) = Sum.inl p.1) = false:=decide_eq_false fun z=>hne (Sum.inl.inj z)
   dsimp only
   rw [hd]
   exact jft (List.nodup_cons.mp hn).2 h
theorem ju1 {ps:List (Int × Int)} {p:Int × Int} (hn:(ps.map (·.1)).Nodup) (h:p ∈ ps):hasK (jd1 ps) p.1 = true:=by
 unfold hasK
 rw [jft hn h]
 rfl
def jf9:Sp:=fun vs H Q _=>∃ a xs ps,vs = [.ref a]∧H a = some (.lst xs)∧Prs H xs ps∧ps.length ≤ 40∧PlOk (-1) 0 ps∧∀ H',Same H H'→Q .non H'
def jh6:Sp:=fun vs H Q _=>∃ a d xs ts kvs,vs = [.ref a,.ref d]∧H a = some (.lst xs)∧H d = some (.dK kvs)∧Prs H xs ts∧ts.length ≤ 120∧TiOk kvs (-1,-1) ts∧∀ H',Same H H'→Q .non H'
def jjh:Sp:=fun vs H Q _=>∃ v ps ts,vs = [v]∧jdu H v ps ts∧WebOk ps ts∧∀ H',Same H H'→Q .non H'
theorem jf0 {f:Addr} {fd:FuncData} {f_is_list_up_to:Addr} {d_is_list_up_to:FuncData} {f_place_stands:Addr} {d_place_stands:FuncData} (B:Blt mg) (C:Cst mg c1 c2 c3 c4) (D:DefAt K mg "look_at_places" (top 22) ["places"] f fd) (D_is_list_up_to:DefAt K mg "is_list_up_to" (top 10) ["thing","most"] f_is_list_up_to d_is_list_up_to) (G_is_list_up_to:FnOk P w K mg base CX0 1 f_is_list_up_to d_is_list_up_to ["thing","most"] jew) (D_place_stands:DefAt K mg "place_stands" (top 20) ["thing","last","spent"] f_place_stands d_place_stands) (G_place_stands:FnOk P w K mg base CX0 3 f_place_stands d_place_stands ["thing","last","spent"] jeb):FnOk P w K mg base CX0 4 f fd ["places"] jf9:=by
 have sc:FnScope ["places","last","spent","number","thing"] ["places"] (jba (top 22)):=⟨rfl,rfl,rfl,by decide +kernel,rfl,by decide +kernel,by decide +kernel⟩
 refine D.F.ok sc (fun vs H Q E h=>?_) (fun cdv A outer s H vs Q E hr h=>?_)
 ·obtain ⟨a,xs,ps,rfl,_⟩:=h
  rfl
 obtain ⟨a,xs,ps,rfl,ea,hp,hl,ok,h⟩:=h
 have hlx:xs.length = ps.length:=Paired.length hp
 have hu:=jc7 hr
 have hu0:_ < PySem.cLine:=Nat.lt_of_succ_lt hu
 refine ⟨_,(jah (jdz (jg0 (jfa (jbe G_is_list_up_to (hr.mono (by decide)) rfl D_is_list_up_to.m D_is_list_up_to.F.kp D_is_list_up_to.b .nil jbs (ja0 (qv 0) (ja0 (jcu (v:=.int 40) rfl C.MOST_PLACES ⟨_,rfl⟩) jai))))) (jb9 jec) jcd) (jah (jbf (i:=1) sc.nd rfl (Or.inl rfl) (jgv jgu jaj)) (jah (jbf (i:=2) sc.nd rfl (Or.inl rfl) jaj) (jb9 (jd8 PassesOwn.never rfl (ji7 rfl B.enumerate (ja0 (qv 0) jai)) (jcw (n:=2) rfl (jbd (jbb (i:=3) sc.nd rfl (Or.inl rfl)) (jbd (jbb (i:=4) sc.nd rfl (Or.inl rfl)) jc9))) (jah (jdz (jg0 (jfa (jbe G_place_stands (hr.mono (by decide)) rfl D_place_stands.m D_place_stands.F.kp D_place_stands.b .nil jbs (ja0 (qv 4) (ja0 (qv 1) (ja0 (qv 2) jai)))))) (jb9 jec) jcd) (jah (jbf (i:=1) sc.nd rfl (Or.inl rfl) (jbl q_ix (qv 4) jaj (fun _ _=>rfl))) (jb9 (jjk (i:=2) sc.nd rfl (Or.inl rfl) (jbl q_ix (qv 4) jaj (fun _ _=>rfl)) jm2))))))))),?_⟩
 walk_at "RD"
 refine ⟨a,xs,40,rfl,ea,?_⟩
 rw [decide_eq_true (show (xs.length:Int) ≤ 40 by omega)]
 walk_at "RD"
 refine ⟨a,rfl,⟨xs,SqL.of ea⟩,jiq (K:=K) (a:=a) (xs:=xs) (fun i σ H1=>∃ l sp nb th,σ = [some (.ref a),some (.int l),some (.int sp),nb,th]∧Same H H1∧PlOk l sp (ps.drop i)) ⟨-1,0,none,none,rfl,Same.refl _,ok⟩ (fun i σ H1 _ ⟨_,_,_,_,_,s1,_⟩=>SqL.of (s1 _ _ ea)) ?_ ?_⟩
 ·rintro i x σ H1 t hi ⟨l,sp,nb,th,rfl,s1,ok1⟩ ht
  obtain ⟨p,hpi,px⟩:=jbi hp hi
  rw [jmo hpi] at ok1
  have s2:Same H (upd H1 t (.tup [.int i,x])):=s1.trans (jag ht _)
  have px2:=px.same s2
  obtain ⟨u,rfl,eu⟩:=id px2
  simp_arith [ja1]
  refine ⟨_,p,l,sp,rfl,px2,ok1.1,?_⟩
  simp_arith [jbo,eu,at0,at1]
  exact ⟨_,_,_,_,rfl,s2,ok1.2⟩
 ·rintro σ H1 ⟨l,sp,nb,th,rfl,s1,_⟩
  exact h H1 s1
theorem jg7 {f:Addr} {fd:FuncData} {f_is_list_up_to:Addr} {d_is_list_up_to:FuncData} {f_tie_stands:Addr} {d_tie_stands:FuncData} (B:Blt mg) (C:Cst mg c1 c2 c3 c4) (D:DefAt K mg "look_at_ties" (top 23) ["ties","prices"] f fd) (D_is_list_up_to:DefAt K mg "is_list_up_to" (top 10) ["thing","most"] f_is_list_up_to d_is_list_up_to) (G_is_list_up_to:FnOk P w K mg base CX0 1 f_is_list_up_to d_is_list_up_to ["thing","most"] jew) (D_tie_stands:DefAt K mg "tie_stands" (top 21) ["thing","last","prices"] f_tie_stands d_tie_stands) (G_tie_stands:FnOk P w K mg base CX0 3 f_tie_stands d_tie_stands ["thing","last","prices"] jfy):FnOk P w K mg base CX0 4 f fd ["ties","prices"] jh6:=by
 have sc:FnScope ["ties","prices","last","number","thing"] ["ties","prices"] (jba (top 23)):=⟨rfl,rfl,rfl,by decide +kernel,rfl,by decide +kernel,by decide +kernel⟩
 refine D.F.ok sc (fun vs H Q E h=>?_) (fun cdv A outer s H vs Q E hr h=>?_)
 ·obtain ⟨a,d,xs,ts,kvs,rfl,_⟩:=h
  rfl
 obtain ⟨a,d,xs,ts,kvs,rfl,ea,ed,hp,hl,ok,h⟩:=h
 have hlx:xs.length = ts.length:=Paired.length hp
 have hu:=jc7 hr
 have hu0:_ < PySem.cLine:=Nat.lt_of_succ_lt hu
 refine ⟨_,(jah (jdz (jg0 (jfa (jbe G_is_list_up_to (hr.mono (by decide)) rfl D_is_list_up_to.m D_is_list_up_to.F.kp D_is_list_up_to.b .nil jbs (ja0 (qv 0) (ja0 (jcu (v:=.int 120) rfl C.MOST_TIES ⟨_,rfl⟩) jai))))) (jb9 jec) jcd) (jah (jbf (i:=2) sc.nd rfl (Or.inl rfl) (jc4 (ja0 (jgv jgu jaj) (ja0 (jgv jgu jaj) jai)))) (jb9 (jd8 PassesOwn.never rfl (ji7 rfl B.enumerate (ja0 (qv 0) jai)) (jcw (n:=2) rfl (jbd (jbb (i:=3) sc.nd rfl (Or.inl rfl)) (jbd (jbb (i:=4) sc.nd rfl (Or.inl rfl)) jc9))) (jah (jdz (jg0 (jfa (jbe G_tie_stands (hr.mono (by decide)) rfl D_tie_stands.m D_tie_stands.F.kp D_tie_stands.b .nil jbs (ja0 (qv 4) (ja0 (qv 2) (ja0 (qv 1) jai)))))) (jb9 jec) jcd) (jb9 (jbf (i:=2) sc.nd rfl (Or.inl rfl) (qv 4)))))))),?_⟩
 walk_at "RD"
 refine ⟨a,xs,120,rfl,ea,?_⟩
 rw [decide_eq_true (show (xs.length:Int) ≤ 120 by omega)]
 walk_at "RD"
 intro t0 ht0
 refine ⟨a,rfl,⟨xs,SqL.of (jag ht0 _ _ _ ea)⟩,jiq (K:=K) (a:=a) (xs:=xs) (fun i σ H1=>∃ lv q nb th,σ = [some (.ref a),some (.ref d),some lv,nb,th]∧Same H H1∧Pr H1 lv q∧TiOk kvs q (ts.drop i)) ⟨_,(-1,-1),none,none,rfl,jag ht0 _,⟨t0,rfl,ja1⟩,ok⟩ (fun i σ H1 _ ⟨_,_,_,_,_,s1,_⟩=>SqL.of (s1 _ _ ea)) ?_ ?_⟩
 ·rintro i x σ H1 t hi ⟨lv,q,nb,th,rfl,s1,pq,ok1⟩ ht
  obtain ⟨p,hpi,px⟩:=jbi hp hi
  rw [jmo hpi] at ok1
  have s2:Same H (upd H1 t (.tup [.int i,x])):=s1.trans (jag ht _)
  have px2:=px.same s2
  simp_arith [ja1]
  refine ⟨_,p,_,q,d,kvs,rfl,px2,pq.same (jag ht _),s2 _ _ ed,ok1.1,?_⟩
  walk_at "RD"
  exact ⟨_,_,_,_,rfl,s2,px2,ok1.2⟩
 ·rintro σ H1 ⟨lv,q,nb,th,rfl,s1,_⟩
  exact h H1 s1
theorem jgw {f:Addr} {fd:FuncData} {f_is_tuple_of:Addr} {d_is_tuple_of:FuncData} {f_look_at_places:Addr} {d_look_at_places:FuncData} {f_look_at_ties:Addr} {d_look_at_ties:FuncData} (B:Blt mg) (D:DefAt K mg "look_at_web" (top 24) ["thing"] f fd) (D_is_tuple_of:DefAt K mg "is_tuple_of" (top 8) ["thing","many"] f_is_tuple_of d_is_tuple_of) (G_is_tuple_of:FnOk P w K mg base CX0 1 f_is_tuple_of d_is_tuple_of ["thing","many"] jfx) (D_look_at_places:DefAt K mg "look_at_places" (top 22) ["places"] f_look_at_places d_look_at_places) (G_look_at_places:FnOk P w K mg base CX0 4 f_look_at_places d_look_at_places ["places"] jf9) (D_look_at_ties:DefAt K mg "look_at_ties" (top 23) ["ties","prices"] f_look_at_ties d_look_at_ties) (G_look_at_ties:FnOk P w K mg base CX0 4 f_look_at_ties d_look_at_ties ["ties","prices"] jh6):FnOk P w K mg base CX0 5 f fd ["thing"] jjh:=by
 have sc:FnScope ["thing"] ["thing"] (jba (top 24)):=⟨rfl,rfl,rfl,by decide +kernel,rfl,by decide +kernel,by decide +kernel⟩
 refine D.F.ok sc (fun vs H Q E h=>?_) (fun cdv A outer s H vs Q E hr h=>?_)
 ·obtain ⟨v,ps,ts,rfl,_⟩:=h
  rfl
 obtain ⟨v,ps,ts,rfl,hw,ok,h⟩:=h
 obtain ⟨u,pa,ta,xs,ys,rfl,eu,ep,et,pp,pt⟩:=hw
 have hlx:xs.length = ps.length:=Paired.length pp
 have okl:=ok.pl
 have hu:=jc7 hr
 have hu0:_ < PySem.cLine:=Nat.lt_of_succ_lt hu
 refine ⟨_,(jah (jdz (jg0 (jfa (jbe G_is_tuple_of (hr.mono (by decide)) rfl D_is_tuple_of.m D_is_tuple_of.F.kp D_is_tuple_of.b .nil jbs (ja0 (qv 0) (ja0 jaj jai))))) (jb9 jec) jcd) (jah (jc1 (jbe G_look_at_places (hr.mono (by decide)) rfl D_look_at_places.m D_look_at_places.F.kp D_look_at_places.b .nil jbs (ja0 (jbl q_ix (qv 0) jaj (fun _ _=>rfl)) jai))) (jb9 (jc1 (jbe G_look_at_ties (hr.mono (by decide)) rfl D_look_at_ties.m D_look_at_ties.F.kp D_look_at_ties.b .nil jbs (ja0 (jbl q_ix (qv 0) jaj (fun _ _=>rfl)) (ja0 (jcx (ji1 rfl) rfl B.dict PyProof.Rows.boot_dict (ja0 (jbl q_ix (qv 0) jaj (fun _ _=>rfl)) jai)) jai))))))),?_⟩
 walk_at "RD"
 refine ⟨u,_,2,rfl,eu,?_⟩
 simp_arith [jbo,eu,at0,at1,Int.cast_ofNat_Int,decide_true]
 refine ⟨pa,xs,ps,rfl,ep,pp,ok.pl,ok.p,fun H1 s1=>?_⟩
 simp_arith [jbo,s1 _ _ eu,s1 _ _ ep,at0,at1]
 refine ⟨jd1 ps,ji9 (Prs.same s1 pp),by omega,jhe ok.p.nodup,fun d hd=>?_⟩
 have s2:Same H (upd H1 d (.dK (jd1 ps))):=s1.trans (jag hd _)
 exact ⟨ta,d,ys,ts,_,rfl,s2 _ _ et,ja1,Prs.same s2 pt,ok.tl,ok.t,fun H3 s3=>h H3 (s2.trans s3)⟩
end
end My
namespace My
open PySem L2
section
variable {P:Program} {w:World} {K:PySem.W.Frag} {mg:Str→Option Value} {base:Heap} {c1 c2 c3 c4:Tok}
theorem ix30:ixN 3 0 = some 0:=rfl
theorem ix31:ixN 3 1 = some 1:=rfl
theorem ix32:ixN 3 2 = some 2:=rfl
def StO (o:HO):Prop:=∃ c st fl,o = .lst [.int c,.int st,.bl fl]∧0 ≤ st∧st < 4294967296
theorem StO.imm {o:HO} (h:StO o):jtt o = false:=by obtain ⟨_,_,_,rfl,_⟩:=h; rfl
def jog (K:PySem.W.Frag):Sp:=fun vs H Q _=>∃ a k ns,vs = [.ref a,.int k]∧Scr K H a ns∧0 ≤ k∧k ≤ 1000∧∀ s o,H s = none→StO o→Q (.ref s) (upd H s o)
def jo4:Sp:=fun vs H Q _=>∃ s o m,vs = [.ref s,.int m]∧H s = some o∧StO o∧1 ≤ m∧m < 1000000000000000000∧∀ d o,0 ≤ d→d < m→StO o→Q (.int d) (upd H s o)
theorem cmR {i j:Int} (h1:-(2 ^ 64) < j) (h2:j < 2 ^ 64):CMul i j:=.inr ⟨h1,h2⟩
theorem cmL {i j:Int} (h1:-(2 ^ 64) < i) (h2:i < 2 ^ 64):CMul i j:=.inl ⟨h1,h2⟩
def But (s:Addr) (H H':Hp):Prop:=∀ b o,b ≠ s→H b = some o→H' b = some o
theorem But.trans {s:Addr} {H H1 H2:Hp} (a:But s H H1) (b:But s H1 H2):But s H H2:=fun c o n q=>b c o n (a c o n q)
theorem But.at (s:Addr) (H:Hp) (o:HO):But s H (upd H s o):=fun b u n q=>by rw [jas n]; exact q
theorem But.new {s t:Addr} {H:Hp} {o:HO} (h:H t = none):But s H (upd H t o):=fun b u n q=>by rw [jas (ja5 q h)]; exact q
theorem But.tups {s:Addr} {H H':Hp} (h:But s H H') {o:HO} (e:H s = some o) (i:jtt o = false):TupS H H':=fun b u z q=>h b u (fun x=>by rw [x,e] at q; cases q; rw [i] at z; cases z) q
theorem at3 {α:Type} {x y z u:α} {r:List α}:atI (x :: y :: z :: u :: r) 3 = some u:=by
 have e:atI (x :: y :: z :: u :: r) ((3:Nat):Int) = some u:=jdc rfl
 exact e
theorem menu4 {a b c e d:Int} (h0:0 ≤ d) (h1:d < 4):∃ v,atI [V.int a,.int b,.int c,.int e] d = some (.int v)∧(v = a ∨ v = b ∨ v = c ∨ v = e):=by
 have hd:d = 0 ∨ d = 1 ∨ d = 2 ∨ d = 3:=by omega
 rcases hd with rfl | rfl | rfl | rfl
 ·exact ⟨a,at0,.inl rfl⟩
 ·exact ⟨b,at1,.inr (.inl rfl)⟩
 ·exact ⟨c,at2,.inr (.inr (.inl rfl))⟩
 ·exact ⟨e,at3,.inr (.inr (.inr rfl))⟩
def jqc (H H':Hp) (t:Addr) (ps ts:List (Int × Int)):Prop:=∃ l1 l2 xs ys,H l1 = none∧H l2 = none∧l1 ≠ l2∧H' t = some (.tup [.ref l1,.ref l2])∧H' l1 = some (.lst xs)∧H' l2 = some (.lst ys)∧Prs H' xs ps∧Prs H' ys ts
def js8:Sp:=fun vs H Q _=>∃ v ps ts,vs = [v]∧jdu H v ps ts∧∀ t H',Same H H'→jqc H H' t ps ts→Q (.ref t) H'
theorem jky {f:Addr} {fd:FuncData}  (B:Blt mg) (D:DefAt K mg "_law_take" (top 43) ["_law_state","_law_many"] f fd):FnOk P w K mg base CX0 1 f fd ["_law_state","_law_many"] jo4:=by
 have sc:FnScope ["_law_state","_law_many","_law_digit","_law_number"] ["_law_state","_law_many"] (jba (top 43)):=⟨rfl,rfl,rfl,by decide +kernel,rfl,by decide +kernel,by decide +kernel⟩
 refine D.F.ok sc (fun vs H Q E h=>?_) (fun cdv A outer s H vs Q E hr h=>?_)
 ·obtain ⟨s,o,m,rfl,_⟩:=h
  rfl
 obtain ⟨st,o,m,rfl,es,⟨c,x,fl,rfl,x0,x1⟩,m0,m1,h⟩:=h
 have hu:=jc7 hr
 have hu0:_ < PySem.cLine:=Nat.lt_of_succ_lt hu
 refine ⟨_,(jah (jdz (jfa (jbl q_ix (qv 0) jaj (fun _ _=>rfl))) (jah (jbf (i:=2) sc.nd rfl (Or.inl rfl) (jbw jks (jbl q_ix (qv 0) jaj (fun _ _=>rfl)) (qv 1))) (jah (jjl (jbw jt3 (jbl q_ix (qv 0) jaj (fun _ _=>rfl)) (qv 1)) (jm9 (qv 0) jaj jh7)) (jah (jjl (je3 q_gt (jbl q_ix (qv 0) jaj (fun _ _=>rfl)) jaj (jcc _)) (jm9 (qv 0) jaj jh7)) (jb9 (jbq (qv 2)))))) jcd) (jah (jjl (jbw jks (jbw jd3 (jbw jhz (jbl q_ix (qv 0) jaj (fun _ _=>rfl)) jaj) jaj) jaj) (jm9 (qv 0) jaj jh7)) (jah (jbf (i:=3) sc.nd rfl (Or.inl rfl) (jbw jsa (jbw jks (jbw jhz (jbl q_ix (qv 0) jaj (fun _ _=>rfl)) (jbl q_ix (qv 0) jaj (fun _ _=>rfl))) jaj) jaj)) (jah (jdz (jd7 q_gt (qv 1) (jbw jt1 jaj jaj) (jcc _)) (jah (jjl (jbw jks (jbw jd3 (jbw jhz (jbl q_ix (qv 0) jaj (fun _ _=>rfl)) jaj) jaj) jaj) (jm9 (qv 0) jaj jh7)) (jb9 (jbf (i:=3) sc.nd rfl (Or.inl rfl) (jbw jd3 (jbw jhz (qv 3) jaj) (jbl q_ix (qv 0) jaj (fun _ _=>rfl)))))) jcd) (jb9 (jbq (jbw jks (qv 3) (qv 1)))))))),?_⟩
 simp_arith [jbo,es,at0,at1,at2,ix30,ix31,ix32,ja1,jnu]
 have lo:∀ n:Int,0 ≤ n % m:=fun n=>Int.emod_nonneg _ (by omega)
 have hi:∀ n:Int,n % m < m:=fun n=>Int.emod_lt_of_pos _ (by omega)
 have y0:0 ≤ (x * 48271 + 39373) % 2147483647:=Int.emod_nonneg _ (by decide)
 have y1:(x * 48271 + 39373) % 2147483647 < 2147483647:=Int.emod_lt_of_pos _ (by decide)
 generalize (x * 48271 + 39373) % 2147483647 = y at y0 y1
 have z0:0 ≤ (y * 48271 + 39373) % 2147483647:=Int.emod_nonneg _ (by decide)
 have z1:(y * 48271 + 39373) % 2147483647 < 2147483647:=Int.emod_lt_of_pos _ (by decide)
 generalize (y * 48271 + 39373) % 2147483647 = z at z0 z1
 have cd:CDivB c m:=⟨by omega,by omega⟩
 have cd2:∀ n:Int,CDiv n 16:=fun n=>⟨by decide,by decide⟩
 have cp:CPow 10 6:=⟨by decide,by decide,by decide⟩
 refine ite2 (fun _=>⟨by omega,cd,h _ _ (lo _) (hi _) ⟨_,_,_,rfl,x0,x1⟩⟩) (fun _=>⟨cmR (by decide) (by decide),by decide,cmL (by omega) (by omega),by decide,cd2 _,cp,?_⟩)
 refine ite2 (fun _=>⟨cmR (by decide) (by decide),by decide,cmR (by decide) (by decide),by omega,h _ _ (lo _) (hi _) ⟨_,_,_,rfl,z0,by omega⟩⟩) (fun _=>⟨by omega,h _ _ (lo _) (hi _) ⟨_,_,_,rfl,y0,by omega⟩⟩)
theorem jjs {f:Addr} {fd:FuncData}  (B:Blt mg) (D:DefAt K mg "_law_begun" (top 42) ["_law_script","_law_k"] f fd):FnOk P w K mg base CX0 1 f fd ["_law_script","_law_k"] (jog K):=by
 have sc:FnScope ["_law_script","_law_k","_law_cell","_law_mixed"] ["_law_script","_law_k"] (jba (top 42)):=⟨rfl,rfl,rfl,by decide +kernel,rfl,by decide +kernel,by decide +kernel⟩
 refine D.F.ok sc (fun vs H Q E h=>?_) (fun cdv A outer s H vs Q E hr h=>?_)
 ·obtain ⟨a,k,ns,rfl,_⟩:=h
  rfl
 obtain ⟨a,k,ns,rfl,hs,k0,k1,h⟩:=h
 have hu:=jc7 hr
 have hu0:_ < PySem.cLine:=Nat.lt_of_succ_lt hu
 refine ⟨_,(jah (jbf (i:=2) sc.nd rfl (Or.inl rfl) jaj) (jah (jdz (jd7 q_lt (qv 1) (jbk jdt rfl B.len PySem.boot_len (ja0 (qv 0) jai)) (jcc _)) (jb9 (jbf (i:=2) sc.nd rfl (Or.inl rfl) (jbl jpe (qv 0) (qv 1) (fun _ _=>rfl)))) jcd) (jah (jbf (i:=3) sc.nd rfl (Or.inl rfl) (jbw jd3 (jbw jd3 (jbw jks (qv 2) jaj) (jbw jhz jaj (qv 1))) (jbw jhz jaj (jbw jsa (qv 1) jaj)))) (jb9 (jbq (jcf (ja0 (qv 2) (ja0 (jbw jks (qv 3) jaj) (ja0 (je3 q_ge (qv 2) (jbw jt1 jaj jaj) (jcc _)) jai))))))))),?_⟩
 walk_at "RD"
 refine ⟨a,_,rfl,.inl hs.sq,?_⟩
 simp_arith [List.length_map,rIxL]
 have q0:∀ n:Int,0 ≤ n % 2147483629:=fun n=>Int.emod_nonneg _ (by decide)
 have q1:∀ n:Int,n % 2147483629 < 2147483629:=fun n=>Int.emod_lt_of_pos _ (by decide)
 have cp:CPow 10 18:=⟨by decide,by decide,by decide⟩
 have cd:CDiv k 7:=⟨by decide,by decide⟩
 refine ite2 (fun c=>?_) (fun c=>?_)
 ·have c':k < (ns.length:Int):=of_decide_eq_true c
  have hk:k.toNat < ns.length:=by omega
  have e1:atI (ns.map V.int) ((k.toNat:Nat):Int) = some (.int ns[k.toNat]):=jdc (by rw [List.getElem?_map,List.getElem?_eq_getElem hk]; rfl)
  rw [show ((k.toNat:Nat):Int) = k by omega] at e1
  refine ⟨a,_,k,_,rfl,rfl,hs.sq,e1,?_⟩
  walk_at "RD"
  exact ⟨by decide,cmL (by decide) (by decide),cd,cmL (by decide) (by decide),by decide,cp,fun p hp=>h p _ hp ⟨_,_,_,rfl,q0 _,by have:=q1 (ns[k.toNat] % 2147483629 + 104729 * k + 7919 * (k / 7)); omega⟩⟩
 ·exact ⟨by decide,cmL (by decide) (by decide),cd,cmL (by decide) (by decide),by decide,cp,fun p hp=>h p _ hp ⟨_,_,_,rfl,q0 _,by have:=q1 (0 % 2147483629 + 104729 * k + 7919 * (k / 7)); omega⟩⟩
end
end My
namespace So
open PySem PySem.Spec PyProof.Rows
section
variable {prog:Program} {w:World} {s:Shared}
end
end So
namespace L2
open PySem PySem.Spec PyProof.Rows
def Tp (H:Hp) (v:V) (p:Int × Int × Int):Prop:=∃ a,v = .ref a∧H a = some (.tup [.int p.1,.int p.2.1,.int p.2.2])
abbrev Tps (H:Hp) (xs:List V) (ps:List (Int × Int × Int)):Prop:=Paired (Tp H) xs ps
end L2
namespace L2
open PySem PySem.Spec PyProof.Rows
section
variable {X:Cx}
end
end L2
namespace L2
open PySem PySem.Spec PyProof.Rows
end L2
namespace L2
open PySem PySem.Spec PyProof.Rows
section
variable {X:Cx}
def ju3:V→List V→Hp→VK→Prop:=fun x vs H Q=>match x,vs with
 | .ref l,[.int k,y]=>match H l with
  | some (.lst xs)=>(0 ≤ k∧k ≤ xs.length∧xs.length < 1000)∧Q .non (upd H l (.lst (xs.take k.toNat ++ y :: xs.drop k.toNat)))
  | _=>False
 | _,_=>False
theorem jre (its:List Value) (k:Int) (u:Value) (h0:0 ≤ k) (h1:k ≤ its.length) :
  (fun xs:Array Value=>have j:=if k < 0 then (k + (xs.size:Int)).toNat else min k.toNat xs.size; (xs.extract 0 j).push u ++ xs.extract j) its.toArray = (its.take k.toNat ++ u :: its.drop k.toNat).toArray:=by
 have e:(if k < 0 then (k + (its.toArray.size:Int)).toNat else min k.toNat its.toArray.size) = k.toNat:=by
  rw [if_neg (by omega),List.size_toArray]
  omega
 show ((its.toArray.extract 0 (if k < 0 then (k + (its.toArray.size:Int)).toNat else min k.toNat its.toArray.size)).push u ++ its.toArray.extract (if k < 0 then (k + (its.toArray.size:Int)).toNat else min k.toNat its.toArray.size)) = _
 rw [e]
 apply Array.ext'
 simp
 exact List.take_of_length_le (by rw [List.length_drop]; omega)
theorem q_insS:MtR X "list.insert" ju3:=by
 intro pins s σ H x vs v us Q I rx rv h
 unfold ju3 at h
 split at h
 ·rename_i l k y
  split at h
  ·rename_i xs hH
   obtain ⟨⟨h0,h1,hz⟩,q⟩:=h
   cases rx
   obtain ⟨u1,u2,rfl,r1,r2⟩:=rv.two
   obtain ⟨t,rfl⟩:=r1
   obtain ⟨z,its,n,r,hl,e⟩:=I.lstM hH
   have hsz:its.toArray.size ≤ sizeLine:=by rw [List.size_toArray,sizeLine_eq]; omega
   refine call_meets F.slot_list_insert ⟨_,e,rfl⟩ F.entry_list_insert (F.args_list_insert_3 _ _ _) (PySem.AutoSeq1.list_insert_list_int_val_1 l its.toArray n k t u2 (by unfold Builtin.List.listFitsIndex; simp; omega) hsz) ⟨e,?_⟩
   refine ⟨.non,_,I.lset (its':=its.take k.toNat ++ u2 :: its.drop k.toNat) hH e (jre its k u2 h0 (by omega)) (Vals.append (r.take _) (.cons r2 (r.drop _))) ?_,rfl,q⟩
   rw [List.length_append,List.length_cons,List.length_take,List.length_drop,sizeLine_eq]
   omega
  ·exact h.elim
 ·exact h.elim
end
end L2
namespace L2
open PySem PySem.Spec PyProof.Rows
section
variable {prog:Program} {w:World} {A:Around} {E:Value→Shared→Prop} {s:Shared}
end
end L2
namespace L2
open PySem PySem.Spec PyProof.Rows
section
variable {prog:Program} {w:World} {A:Around} {E:Value→Shared→Prop} {R:Result→Shared→Prop}
end
def jug (H:Hp) (v:V) (p:List Key × V):Prop:=∃ t b,v = .ref t∧H t = some (.tup [.ref b,p.2])∧H b = some (.tup (p.1.map kV))
end L2
namespace L2
open PySem PySem.Spec PyProof.Rows
section
open PySem.SeqAt
open PySem.AutoSeq1 (wpAny_loadPart')
open PySem.MeetsSeq PySem.MeetsSeq2 PySem.MeetsSeq3
end
section
variable {X:Cx} {a b c:Expr} {ta tb tc:TE} {pos:Pos}
end
end L2
namespace My
open PySem L2
section
variable {P:Program} {w:World} {K:PySem.W.Frag} {mg:Str→Option Value} {base:Heap} {c1 c2 c3 c4:Tok} {C_NoWeb f_NoWeb:Addr} {dI:FuncData}
def prO:Dt→Option (Int × Int)
 | .tup [.int x,.int y]=>some (x,y)
 | _=>none
def OPr (H:Hp) (x:V) (o:Option (Int × Int)):Prop:=∃ d,Rep H d x∧prO d = o
theorem Pr.o {H:Hp} {x:V} {p:Int × Int} (h:Pr H x p):OPr H x (some p):=⟨jtc p,h.rep,rfl⟩
def jd5 (ds:List (Int × Int × Int)) (n:Int):Int:=(ds.map fun d=>(if d.1 = n then d.2.2 else 0) + (if d.2.1 = n then d.2.2 else 0)).sum
def jlo (kvs:List (Key × V)) (ds:List (Int × Int × Int)):Prop:=∀ n:Int,(valV kvs (Sum.inl n:Key) = none∧jd5 ds n = 0) ∨ valV kvs (Sum.inl n:Key) = some (.int (jd5 ds n))
theorem jlo.get {kvs:List (Key × V)} {ds:List (Int × Int × Int)} (h:jlo kvs ds) (n:Int):(valV kvs (Sum.inl n:Key)).getD (.int 0) = .int (jd5 ds n):=by
 rcases h n with ⟨e,f⟩ | e
 ·rw [e,f]; rfl
 ·rw [e]; rfl
def joe:Sp:=fun vs H Q _=>∃ l zs ds,vs = [.ref l]∧H l = some (.lst zs)∧Tps H zs ds∧ds.length ≤ 200∧∀ d kvs H',Same H H'→H' d = some (.dK kvs)→jlo kvs ds→Q (.ref d) H'
theorem Tp.tups {H H':Hp} {v:V} {p:Int × Int × Int} (h:Tp H v p) (s:TupS H H'):Tp H' v p:=let ⟨a,e,q⟩:=h; ⟨a,e,s _ _ rfl q⟩
theorem jbv {H H':Hp} (s:TupS H H'):∀ {xs:List V} {ps:List (Int × Int × Int)},Tps H xs ps→Tps H' xs ps
 | _,_,.nil=>.nil
 | _,_,.cons r t=>.cons (Tp.tups r s) (jbv s t)
theorem jm5 (kvs:List (Key × V)) (k:Key) (v:V):(putK kvs k v).length ≤ kvs.length + 1:=jdi kvs k v
end
end My
namespace My
open PySem L2
section
variable {P:Program} {w:World} {K:PySem.W.Frag} {mg:Str→Option Value} {base:Heap} {c1 c2 c3 c4:Tok} {C_NoWeb f_NoWeb:Addr} {dI:FuncData}
theorem jug.tups {H H':Hp} {v:V} {p:List Key × V} (h:jug H v p) (s:TupS H H'):jug H' v p:=let ⟨t,b,e,q,r⟩:=h; ⟨t,b,e,s _ _ rfl q,s _ _ rfl r⟩
theorem jn1 {ds:List (Int × Int × Int)} {i:Nat} {d:Int × Int × Int} (h:ds[i]? = some d) (n:Int):jd5 (ds.take (i + 1)) n = jd5 (ds.take i) n + ((if d.1 = n then d.2.2 else 0) + (if d.2.1 = n then d.2.2 else 0)):=by
 unfold jd5
 rw [jbj h,List.map_append,List.sum_append]
 simp
theorem jlo.put {kvs:List (Key × V)} {f:Int→Int} (h:∀ n:Int,(valV kvs (Sum.inl n:Key) = none∧f n = 0) ∨ valV kvs (Sum.inl n:Key) = some (.int (f n))) (m a:Int):∀ n:Int,(valV (putK kvs (Sum.inl m:Key) (.int (f m + a))) (Sum.inl n:Key) = none∧f n + (if m = n then a else 0) = 0) ∨ valV (putK kvs (Sum.inl m:Key) (.int (f m + a))) (Sum.inl n:Key) = some (.int (f n + (if m = n then a else 0))):=fun n=>by
 rw [jhl]
 by_cases c:m = n
 ·subst c
  rw [if_pos rfl,if_pos rfl]
  exact .inr rfl
 ·rw [if_neg (fun z=>c (Sum.inl.inj z).symm),if_neg c,Int.add_zero]
  exact h n
theorem joy {f:Addr} {fd:FuncData}  (B:Blt mg) (D:DefAt K mg "due_at" (top 27) ["dues"] f fd):FnOk P w K mg base CX0 1 f fd ["dues"] joe:=by
 have sc:FnScope ["dues","paid","one","other","amount"] ["dues"] (jba (top 27)):=⟨rfl,rfl,rfl,by decide +kernel,rfl,by decide +kernel,by decide +kernel⟩
 refine D.F.ok sc (fun vs H Q E h=>?_) (fun cdv A outer s H vs Q E hr h=>?_)
 ·obtain ⟨l,zs,ds,rfl,_⟩:=h
  rfl
 obtain ⟨l,zs,ds,rfl,el,pz,h200,h⟩:=h
 have hlz:zs.length = ds.length:=Paired.length pz
 have hu:=jc7 hr
 have hu0:_ < PySem.cLine:=Nat.lt_of_succ_lt hu
 refine ⟨_,(jah (jbf (i:=1) sc.nd rfl (Or.inl rfl) jmc) (jah (jd8 PassesOwn.never rfl (jbr (qv 0)) (jcw (n:=3) rfl (jbd (jbb (i:=2) sc.nd rfl (Or.inl rfl)) (jbd (jbb (i:=3) sc.nd rfl (Or.inl rfl)) (jbd (jbb (i:=4) sc.nd rfl (Or.inl rfl)) jc9)))) (jah (jh8 hu (qv 1) (qv 2) (jbw jd3 (jkt hu (qv 1) (qv 2) jaj) (qv 4))) (jb9 (jh8 hu (qv 1) (qv 3) (jbw jd3 (jkt hu (qv 1) (qv 3) jaj) (qv 4)))))) (jb9 (jbq (qv 1))))),?_⟩
 refine jb8 fun R hR=>?_
 walk_at "RD"
 intro d hd
 have s1:=jag hd (.dK [])
 have ed:upd H d (.dK []) d = some (.dK []):=ja1
 generalize upd H d (.dK []) = H1 at s1 ed
 walk_at "RD"
 subst hR
 refine jb8 fun R hR=>?_
 refine jce (Itl K l) H1 (fun R' hR'=>?_) (jcv (K:=K) (a:=l) (xs:=zs) (fun i σ H2=>∃ v1 v2 v3 kvs,σ = [some (.ref l),some (.ref d),v1,v2,v3]∧Same H H2∧H2 d = some (.dK kvs)∧jlo kvs (ds.take i)∧kvs.length ≤ 2 * i) ⟨none,none,none,[],rfl,s1,ed,fun n=>.inl ⟨rfl,rfl⟩,Nat.zero_le _⟩ (fun i σ H2 _ ⟨_,_,_,_,_,s2,_⟩=>SqL.of (s2 _ _ el)) ?_ ?_)
 ·unfold jcs
  walk_at "RD"
  exact ⟨l,rfl,⟨_,SqL.of (s1 _ _ el)⟩,hR'⟩
 ·rintro i x σ H2 hx ⟨v1,v2,v3,kvs,rfl,s2,ed2,pd,hkl⟩
  obtain ⟨p,hp,px⟩:=jbi pz hx
  obtain ⟨t,rfl,ht⟩:=Tp.tups px s2.tups
  have hil:=(List.getElem?_eq_some_iff.mp hp).1
  simp_arith [ht,ed2,pd.get]
  have q1:=jlo.put (f:=jd5 (ds.take i)) pd p.1 p.2.2
  have kl1:=jm5 kvs (Sum.inl p.1:Key) (.int (jd5 (ds.take i) p.1 + p.2.2))
  refine ⟨⟨_,rfl⟩,szl' (by omega),⟨_,ja1⟩,?_⟩
  generalize putK kvs (Sum.inl p.1:Key) (.int (jd5 (ds.take i) p.1 + p.2.2)) = k1 at q1 kl1 ⊢
  have g2:(valV k1 (Sum.inl p.2.1:Key)).getD (.int 0) = .int (jd5 (ds.take i) p.2.1 + (if p.1 = p.2.1 then p.2.2 else 0)):=by
   rcases q1 p.2.1 with ⟨e,z⟩ | e
   ·rw [e,z]; rfl
   ·rw [e]; rfl
  have q2:=jlo.put (f:=fun n=>jd5 (ds.take i) n + (if p.1 = n then p.2.2 else 0)) q1 p.2.1 p.2.2
  have kl2:=jm5 k1 (Sum.inl p.2.1:Key) (.int (jd5 (ds.take i) p.2.1 + (if p.1 = p.2.1 then p.2.2 else 0) + p.2.2))
  rw [ja1]
  dsimp only
  rw [g2]
  dsimp only
  refine ⟨szl' (by omega),_,_,_,_,rfl,?_,ja1,?_,by omega⟩
  ·exact jbh (jbh s2 hd) hd
  ·intro n
   rw [jn1 hp n,← Int.add_assoc]
   exact q2 n
 ·rintro σ H2 ⟨v1,v2,v3,kvs,rfl,s2,ed2,pd,hkl⟩
  rw [hlz,List.take_length] at pd
  subst hR
  walk_at "RD"
  exact h d kvs H2 s2 ed2 pd
end
end My
namespace My
open PySem L2
section
variable {P:Program} {w:World} {K:PySem.W.Frag} {mg:Str→Option Value} {base:Heap} {c1 c2 c3 c4:Tok} {C_NoWeb f_NoWeb:Addr} {dI:FuncData}
theorem jsh {a b c d:Int} (h:a < c):HT.lexLt [a,b] [c,d] = true:=by
 rw [HT.lexLt_cons,if_neg (by omega)]
 exact decide_eq_true h
theorem lex_eq {a b d:Int} (h:b < d):HT.lexLt [a,b] [a,d] = true:=by
 rw [HT.lexLt_cons,if_pos rfl,HT.lexLt_cons,if_neg (by omega)]
 exact decide_eq_true h
end
end My
namespace My
open PySem L2
section
variable {P:Program} {w:World} {K:PySem.W.Frag} {mg:Str→Option Value} {base:Heap} {c1 c2 c3 c4:Tok} {C_NoWeb f_NoWeb:Addr} {dI:FuncData}
def hOf (hs:List (Int × Int)) (n:Int):Int:=match valV (jd1 hs) (Sum.inl n:Key) with
 | some (.int i)=>i
 | _=>0
theorem jpp {hs:List (Int × Int)} {n:Int} (hn:(hs.map (·.1)).Nodup) (h:n ∈ hs.map (·.1)):valV (jd1 hs) (Sum.inl n:Key) = some (.int (hOf hs n)):=by
 obtain ⟨p,hp,rfl⟩:=List.mem_map.mp h
 have e:=jft hn hp
 unfold hOf
 rw [e]
theorem TiOk.in {kvs:List (Key × V)}:∀ {ts:List (Int × Int)} {q:Int × Int},TiOk kvs q ts→∀ p ∈ ts,p.1 < p.2∧hasK kvs p.1 = true∧hasK kvs p.2 = true
 | [],_,_,_,h=>by cases h
 | u :: r,q,h,p,hp=>by
  rcases List.mem_cons.mp hp with e | hp
  ·rw [e]; exact h.1.2
  ·exact TiOk.in h.2 p hp
theorem jld:∀ {ps:List (Int × Int)} {n:Int},hasK (jd1 ps) n = true→n ∈ ps.map (·.1)
 | [],_,h=>by cases h
 | p :: r,n,h=>by
  by_cases c:p.1 = n
  ·rw [← c]; exact List.mem_cons_self
  ·refine List.mem_cons_of_mem _ (jld ?_)
   unfold hasK jd1 valV at h
   rw [List.map_cons,List.find?_cons] at h
   dsimp only at h
   rw [decide_eq_false (fun z=>c (Sum.inl.inj z))] at h
   exact h
end
end My
namespace My
open PySem L2
section
variable {P:Program} {w:World} {K:PySem.W.Frag} {mg:Str→Option Value} {base:Heap} {c1 c2 c3 c4:Tok} {C_NoWeb f_NoWeb:Addr} {dI:FuncData}
end
end My
namespace My
open PySem L2
section
variable {P:Program} {w:World} {K:PySem.W.Frag} {mg:Str→Option Value} {base:Heap} {c1 c2 c3 c4:Tok} {C_NoWeb f_NoWeb:Addr} {dI:FuncData}
def nr (n:Int) (t:Int × Int):List Int:=if t.1 = n then [t.2] else if t.2 = n then [t.1] else []
def jc8 (ts:List (Int × Int)) (n:Int):List Int:=ts.flatMap (nr n)
theorem jn8 {ts:List (Int × Int)} {j:Nat} {t:Int × Int} (h:ts[j]? = some t) (n:Int):jc8 (ts.take (j + 1)) n = jc8 (ts.take j) n ++ nr n t:=by
 unfold jc8
 rw [jbj h,List.flatMap_append]
 simp
theorem jga:∀ (ts:List (Int × Int)) (n:Int),(jc8 ts n).length ≤ ts.length
 | [],n=>by simp [jc8]
 | t :: r,n=>by
  have ih:=jga r n
  have e:jc8 (t :: r) n = nr n t ++ jc8 r n:=by simp [jc8]
  have e2:(nr n t).length ≤ 1:=by
   unfold nr
   split
   ·simp
   ·split <;> simp
  rw [e,List.length_append,List.length_cons]
  omega
def kz:List (Int × Int)→List Addr→List (Key × V)
 | p :: r,a :: s=>(Sum.inl p.1,V.ref a) :: kz r s
 | _,_=>[]
theorem jp8:∀ {ps:List (Int × Int)} {as:List Addr} {p:Int × Int} {a:Addr},ps.length = as.length→kz (ps ++ [p]) (as ++ [a]) = kz ps as ++ [(Sum.inl p.1,V.ref a)]
 | [],[],_,_,_=>rfl
 | [],_ :: _,_,_,h=>by simp at h
 | _ :: _,[],_,_,h=>by simp at h
 | q :: r,b :: s,p,a,h=>by
  have ih:=jp8 (ps:=r) (as:=s) (p:=p) (a:=a) (by simpa using h)
  show (Sum.inl q.1,V.ref b) :: kz (r ++ [p]) (s ++ [a]) = _
  rw [ih]
  rfl
theorem jlb:∀ {ps:List (Int × Int)} {as:List Addr},ps.length = as.length→(kz ps as).map (·.1) = ps.map fun p=>(Sum.inl p.1:Key)
 | [],[],_=>rfl
 | [],_ :: _,h=>by simp at h
 | _ :: _,[],h=>by simp at h
 | q :: r,b :: s,h=>by
  show (Sum.inl q.1:Key) :: (kz r s).map (·.1) = _
  rw [jlb (by simpa using h)]
  rfl
theorem jml:∀ {ps:List (Int × Int)} {as:List Addr} {i:Nat} {p:Int × Int} {a:Addr},(ps.map (·.1)).Nodup→ps[i]? = some p→as[i]? = some a→valV (kz ps as) (Sum.inl p.1:Key) = some (.ref a)
 | [],_,i,_,_,_,h,_=>by simp at h
 | _ :: _,[],i,_,_,_,_,h=>by simp at h
 | q :: r,b :: s,i,p,a,hn,h1,h2=>by
  rw [List.map_cons] at hn
  unfold valV
  show Option.map _ (List.find? _ ((Sum.inl q.1,V.ref b) :: kz r s)) = _
  rw [List.find?_cons]
  cases i with
  | zero =>
   simp at h1 h2
   subst h1 h2
   simp
  | succ i =>
   have hp:p ∈ r:=List.mem_of_getElem? (by simpa using h1)
   have hne:q.1 ≠ p.1:=fun z=>(List.nodup_cons.mp hn).1 (by rw [z]; exact List.mem_map_of_mem hp)
   have hd:decide ((Sum.inl q.1:Key) = Sum.inl p.1) = false:=decide_eq_false fun z=>hne (Sum.inl.inj z)
   dsimp only
   rw [hd]
   exact jml (List.nodup_cons.mp hn).2 (i:=i) (by simpa using h1) (by simpa using h2)
theorem jmn {ps:List (Int × Int)} {n:Int} (h:hasK (jd1 ps) n = true):∃ (i:Nat) (p:Int × Int),ps[i]? = some p∧p.1 = n:=by
 unfold hasK valV jd1 at h
 rw [Option.isSome_map,List.find?_isSome] at h
 obtain ⟨kv,hm,he⟩:=h
 obtain ⟨p,hp,e⟩:=List.mem_map.mp hm
 subst e
 obtain ⟨i,hi,e2⟩:=List.mem_iff_getElem.mp hp
 refine ⟨i,p,by rw [List.getElem?_eq_getElem hi,e2],?_⟩
 exact Sum.inl.inj (of_decide_eq_true he)
theorem TiOk.ats {kvs:List (Key × V)}:∀ {ts:List (Int × Int)} {q:Int × Int},TiOk kvs q ts→∀ t ∈ ts,t.1 < t.2∧hasK kvs t.1 = true∧hasK kvs t.2 = true
 | [],_,_,_,h=>by cases h
 | p :: r,q,h,t,ht=>by
  rcases List.mem_cons.mp ht with e | ht
  ·rw [e]; exact ⟨h.1.2.1,h.1.2.2.1,h.1.2.2.2⟩
  ·exact TiOk.ats h.2 t ht
def juh (H:Hp) (ps ts:List (Int × Int)) (as:List Addr):Prop:=∀ (i:Nat) (p:Int × Int) (a:Addr),ps[i]? = some p→as[i]? = some a→H a = some (.lst ((jc8 ts p.1).map V.int))
def jjg:Sp:=fun vs H Q _=>∃ v ps ts,vs = [v]∧jdu H v ps ts∧WebOk ps ts∧∀ d as H',H d = none→Same H H'→H' d = some (.dK (kz ps as))→as.length = ps.length→juh H' ps ts as→Q (.ref d) H'
theorem jef {α:Type} {l:List α} (h:l.Nodup) {i j:Nat} {a b:α} (h1:l[i]? = some a) (h2:l[j]? = some b) (hij:i ≠ j):a ≠ b:=by
 intro e
 subst e
 obtain ⟨p1,q1⟩:=List.getElem?_eq_some_iff.mp h1
 obtain ⟨p2,q2⟩:=List.getElem?_eq_some_iff.mp h2
 exact hij ((List.getElem_inj h).mp (q1.trans q2.symm))
theorem jkx {f:Addr} {fd:FuncData}  (B:Blt mg) (D:DefAt K mg "nears_in" (top 25) ["web"] f fd):FnOk P w K mg base CX0 1 f fd ["web"] jjg:=by
 have sc:FnScope ["web","nears","one","other"] ["web"] (jba (top 25)):=⟨rfl,rfl,rfl,by decide +kernel,rfl,by decide +kernel,by decide +kernel⟩
 refine D.F.ok sc (fun vs H Q E h=>?_) (fun cdv A outer s H vs Q E hr h=>?_)
 ·obtain ⟨v,ps,ts,rfl,_⟩:=h
  rfl
 obtain ⟨v,ps,ts,rfl,hw,wok,h⟩:=h
 obtain ⟨x,pa,ta,xs,ys,rfl,ex,ep,et,pp,pt⟩:=id hw
 have hlx:xs.length = ps.length:=Paired.length pp
 have hly:ys.length = ts.length:=Paired.length pt
 have okl:=wok.pl
 have okt:=wok.tl
 have hnd:=wok.p.nodup
 have hu:=jc7 hr
 have hu0:_ < PySem.cLine:=Nat.lt_of_succ_lt hu
 refine ⟨_,(jah (jbf (i:=1) sc.nd rfl (Or.inl rfl) (jcx (ji1 rfl) rfl B.dict PyProof.Rows.boot_dict (ja0 (jc6 (CpScope.of (N:=["place","price"]) (src:=[none,none]) (by rfl)) rfl (jbr (jbl q_ix (qv 0) jaj (fun _ _=>rfl))) (fun _ _ _ _=>(jcw (n:=2) rfl (jbd (jbb (i:=0) (jbc (l:=["place","price"]) (by rfl)) rfl (Or.inl rfl)) (jbd (jbb (i:=1) (jbc (l:=["place","price"]) (by rfl)) rfl (Or.inl rfl)) jc9)))) (fun _ _ _ _=>jci) (fun _ _ _ _=>(jc4 (ja0 (qv 0) (ja0 (jcf jai) jai))))) jai))) (jah (jd8 PassesOwn.never rfl (jbr (jbl q_ix (qv 0) jaj (fun _ _=>rfl))) (jcw (n:=2) rfl (jbd (jbb (i:=2) sc.nd rfl (Or.inl rfl)) (jbd (jbb (i:=3) sc.nd rfl (Or.inl rfl)) jc9))) (jah (jc1 (q_bm PySem.F.plainAttrs_list PySem.F.slot_list_append PySem.F.type_list_append jch (jd2 hu (qv 1) (qv 2) (fun _ _=>rfl)) (ja0 (qv 3) jai))) (jb9 (jc1 (q_bm PySem.F.plainAttrs_list PySem.F.slot_list_append PySem.F.type_list_append jch (jd2 hu (qv 1) (qv 3) (fun _ _=>rfl)) (ja0 (qv 2) jai)))))) (jb9 (jbq (qv 1))))),?_⟩
 walk_at "RD"
 refine jbp (Itl K pa) H (fun R hR=>?_) (fun l hl0=>jbu ps.length (fun i σ' Hc=>∃ w1 w2 zs as,σ' = [w1,w2]∧Same H Hc∧Hc l = some (.lst zs)∧as.length = i∧as.Nodup∧(∀ a ∈ as,H a = none∧a ≠ l∧Hc a = some (.lst []))∧Paired (PairAt Hc) zs (kz (ps.take i) as)) ⟨none,none,[],[],rfl,jag hl0 _,ja1,rfl,List.nodup_nil,(fun _ h=>by cases h),.nil⟩ ?_ ?_)
 ·unfold jcs
  simp_arith [jbo,ex,at0]
  exact ⟨pa,rfl,⟨_,SqL.of ep⟩,hR⟩
 ·rintro i σ' Hc hi ⟨w1,w2,zs,as,rfl,s2,ez,hla,nda,ha,pz⟩
  have x1:xs[i]? = some (xs[i]'(by omega)):=List.getElem?_eq_getElem _
  have z1:SqL K Hc pa xs:=SqL.of (s2 _ _ ep)
  have hlt:(ps.take i).length = as.length:=by rw [List.length_take]; omega
  have hlz:zs.length = (kz (ps.take i) as).length:=Paired.length pz
  have hlz2:zs.length ≤ i:=by
   have e:=congrArg List.length (jlb hlt)
   rw [List.length_map,List.length_map] at e
   omega
  refine ⟨⟨_,_,z1,x1⟩,?_⟩
  rintro y H' ⟨rfl,hy⟩
  obtain ⟨q,hq,pq⟩:=jbi pp (hy _ z1)
  obtain ⟨t,rfl,ht⟩:=pq.same s2
  simp_arith [ht]
  intro a1 ha1 t2 ht2
  have na1:a1 ≠ l:=fun z=>by rw [z,ez] at ha1; cases ha1
  have nt2:t2 ≠ a1:=fun z=>by rw [z,ja1] at ht2; cases ht2
  have s3:=jag ha1 (.lst [])
  have s4:=jag ht2 (.tup [.int q.1,.ref a1])
  have ez2:=s4 _ _ (s3 _ _ ez)
  have t6:=jbt (ys:=zs ++ [.ref t2]) ez2
  refine ⟨zs,ez2,szl' (by omega),_,_,zs ++ [.ref t2],as ++ [a1],rfl,jbh (s2.trans (s3.trans s4)) hl0,(by first | rfl | exact ja1),(by rw [List.length_append,hla]; rfl),?_,?_,?_⟩
  ·rw [List.nodup_append]
   refine ⟨nda,(by simp),fun a hm b hb=>?_⟩
   have hb':b = a1:=by simpa using hb
   intro z
   rw [hb'] at z
   have:=(ha a hm).2.2
   rw [z,ha1] at this
   cases this
  ·intro a hm
   rcases List.mem_append.mp hm with hm | hm
   ·obtain ⟨q1,q2,q3⟩:=ha a hm
    refine ⟨q1,q2,?_⟩
    rw [jas q2]
    exact s4 _ _ (s3 _ _ q3)
   ·have e:a = a1:=by simpa using hm
    subst e
    refine ⟨s2.free ha1,na1,?_⟩
    rw [jas na1]
    exact s4 _ _ ja1
  ·rw [jbj hq,jp8 hlt]
   refine jbn (Paired.mapP pz fun v p q=>?_) ⟨t2,rfl,t6 _ _ rfl ja1⟩
   obtain ⟨b,e,q⟩:=q
   exact ⟨b,e,t6 _ _ rfl (s4 _ _ (s3 _ _ q))⟩
 rintro σ' Hc ⟨w1,w2,zs,as,rfl,s2,ez,hla,nda,ha,pz⟩
 refine ⟨⟨_,SqL.of (s2 _ _ ep),by omega⟩,?_⟩
 rw [List.take_length] at pz
 have hlz:zs.length = (kz ps as).length:=Paired.length pz
 have hkk:=jlb (ps:=ps) (as:=as) hla.symm
 have hlz2:zs.length = ps.length:=by
  have e:=congrArg List.length hkk
  rw [List.length_map,List.length_map] at e
  omega
 simp_arith [ez]
 refine ⟨kz ps as,pz,by omega,?_,fun d hd=>?_⟩
 ·rw [hkk]
  have hnd2:=hnd
  unfold List.Nodup at hnd2 ⊢
  rw [List.pairwise_map] at hnd2 ⊢
  exact hnd2.imp fun q z=>q (Sum.inl.inj z)
 have s3:=jag hd (.dK (kz ps as))
 have ed:upd Hc d (.dK (kz ps as)) d = some (.dK (kz ps as)):=ja1
 have hd0:=s2.free hd
 have ha3:∀ a ∈ as,H a = none∧a ≠ d∧upd Hc d (.dK (kz ps as)) a = some (.lst []):=fun a hm=>by
  obtain ⟨q1,q2,q3⟩:=ha a hm
  exact ⟨q1,ja5 q3 hd,s3 _ _ q3⟩
 have s23:=s2.trans s3
 generalize upd Hc d (.dK (kz ps as)) = H2 at s23 ed ha3
 clear s3 s2 ez pz ha hlz hd
 refine jce (Itl K ta) H2 (fun R hR=>?_) (jcv (K:=K) (a:=ta) (xs:=ys) (fun j σ H3=>∃ v1 v2,σ = [some (.ref x),some (.ref d),v1,v2]∧Same H H3∧H3 d = some (.dK (kz ps as))∧juh H3 ps (ts.take j) as) ⟨none,none,rfl,s23,ed,fun i p a _ h2=>(ha3 a (List.mem_of_getElem? h2)).2.2⟩ (fun i σ H3 _ ⟨_,_,_,s3,_⟩=>SqL.of (s3 _ _ et)) ?_ ?_)
 ·unfold jcs
  simp_arith [jbo,s23 _ _ ex,at1]
  exact ⟨ta,rfl,⟨_,SqL.of (s23 _ _ et)⟩,hR⟩
 ·rintro j y σ H3 hj ⟨v1,v2,rfl,s3,ed3,hN⟩
  obtain ⟨q,hq,pq⟩:=jbi pt hj
  obtain ⟨t,rfl,ht⟩:=pq.same s3
  obtain ⟨b1,b2,b3⟩:=wok.t.ats q (List.mem_of_getElem? hq)
  obtain ⟨i1,p1,g1,e1⟩:=jmn b2
  obtain ⟨i2,p2,g2,e2⟩:=jmn b3
  have hi1:i1 < as.length:=by have:=(List.getElem?_eq_some_iff.mp g1).1; omega
  have hi2:i2 < as.length:=by have:=(List.getElem?_eq_some_iff.mp g2).1; omega
  have A1:as[i1]? = some as[i1]:=List.getElem?_eq_getElem hi1
  have A2:as[i2]? = some as[i2]:=List.getElem?_eq_getElem hi2
  generalize as[i1] = a1 at A1
  generalize as[i2] = a2 at A2
  have V1:=jml hnd g1 A1
  have V2:=jml hnd g2 A2
  have n12:i1 ≠ i2:=fun z=>by rw [z,g2] at g1; cases g1; omega
  have na:a1 ≠ a2:=jef nda A1 A2 n12
  rw [e1] at V1
  rw [e2] at V2
  have M1:=hN i1 p1 a1 g1 A1
  have M2:=hN i2 p2 a2 g2 A2
  have hlj:∀ n,(jc8 (ts.take j) n).length ≤ 120:=fun n=>Nat.le_trans (jga _ _) (by rw [List.length_take]; omega)
  have nd1:d ≠ a1:=((ha3 a1 (List.mem_of_getElem? A1)).2.1).symm
  have nd2:d ≠ a2:=((ha3 a2 (List.mem_of_getElem? A2)).2.1).symm
  simp_arith [ht,ed3,V1]
  refine ⟨⟨a1,_,rfl,M1⟩,?_⟩
  simp_arith [M1]
  refine ⟨szl' (by rw [List.length_map]; have:=hlj p1.1; omega),?_⟩
  simp_arith [jas nd1,ed3,V2]
  refine ⟨⟨a2,_,rfl,(by rw [jas na.symm]; exact M2)⟩,?_⟩
  simp_arith [jas na.symm,M2]
  refine ⟨szl' (by rw [List.length_map]; have:=hlj p2.1; omega),_,_,rfl,?_,?_,?_⟩
  ·intro b o hb
   rw [jas (ja5 hb (ha3 a2 (List.mem_of_getElem? A2)).1),jas (ja5 hb (ha3 a1 (List.mem_of_getElem? A1)).1)]
   exact s3 b o hb
  ·rw [jas nd2,jas nd1]
   exact ed3
  ·intro i p a hp ha'
   rw [jn8 hq,List.map_append]
   have hpe:∀ {k:Nat} {r:Int × Int},ps[k]? = some r→r.1 = p.1→k = i:=fun {k r} hr he=>by
    have h1:(ps.map (·.1))[k]? = some r.1:=by rw [List.getElem?_map,hr]; rfl
    have h2:(ps.map (·.1))[i]? = some p.1:=by rw [List.getElem?_map,hp]; rfl
    by_cases z:k = i
    ·exact z
    ·exact absurd he (jef hnd h1 h2 z)
   by_cases c2:i = i2
   ·subst c2
    rw [g2] at hp
    cases hp
    rw [A2] at ha'
    cases ha'
    have e3:nr p2.1 q = [q.1]:=by
     unfold nr
     rw [if_neg (by omega),if_pos e2.symm]
    rw [ja1,e3]
    rfl
   by_cases c1:i = i1
   ·subst c1
    rw [g1] at hp
    cases hp
    rw [A1] at ha'
    cases ha'
    have e3:nr p1.1 q = [q.2]:=by
     unfold nr
     rw [if_pos e1.symm]
    rw [jas na,ja1,e3]
    rfl
   have n1:a ≠ a1:=jef nda ha' A1 c1
   have n2:a ≠ a2:=jef nda ha' A2 c2
   have e3:nr p.1 q = []:=by
    unfold nr
    rw [if_neg (fun z=>c1 (hpe g1 (e1.trans z)).symm),if_neg (fun z=>c2 (hpe g2 (e2.trans z)).symm)]
   rw [jas n2,jas n1,e3,List.map_nil,List.append_nil]
   exact hN i p a hp ha'
 ·rintro σ H3 ⟨v1,v2,rfl,s3,ed3,hN⟩
  rw [hly,List.take_length] at hN
  walk_at "RD"
  exact h d as H3 hd0 s3 ed3 hla hN
def NrAt (H:Hp) (d:Addr) (ps ts:List (Int × Int)):Prop:=∃ as,H d = some (.dK (kz ps as))∧as.length = ps.length∧juh H ps ts as
theorem NrAt.same {H H':Hp} {d:Addr} {ps ts:List (Int × Int)} (h:NrAt H d ps ts) (s:Same H H'):NrAt H' d ps ts:=by
 obtain ⟨as,e,l,n⟩:=h
 exact ⟨as,s _ _ e,l,fun i p a h1 h2=>s _ _ (n i p a h1 h2)⟩
theorem NrAt.get {H:Hp} {d:Addr} {ps ts:List (Int × Int)} (h:NrAt H d ps ts) (hn:(ps.map (·.1)).Nodup) {n:Int} (m:n ∈ ps.map (·.1)):∃ as a,H d = some (.dK (kz ps as))∧valV (kz ps as) (Sum.inl n:Key) = some (.ref a)∧H a = some (.lst ((jc8 ts n).map V.int)):=by
 obtain ⟨as,e,l,nr⟩:=h
 obtain ⟨p,hp,rfl⟩:=List.mem_map.mp m
 obtain ⟨i,hi,e2⟩:=List.mem_iff_getElem.mp hp
 have h1:ps[i]? = some p:=by rw [List.getElem?_eq_getElem hi,e2]
 have h2:as[i]? = some (as[i]'(by omega)):=List.getElem?_eq_getElem _
 exact ⟨as,_,e,jml hn h1 h2,nr i p _ h1 h2⟩
end
end My
namespace My
open PySem L2
section
variable {P:Program} {w:World} {K:PySem.W.Frag} {mg:Str→Option Value} {base:Heap} {c1 c2 c3 c4:Tok} {C_NoWeb f_NoWeb:Addr} {dI:FuncData}
def jca (ps:List (Int × Int)) (ds:List (Int × Int × Int)):List Int:=(ps.filter fun p=>decide (jd5 ds p.1 < 2 * p.2)).map (·.1)
def jo9:Sp:=fun vs H Q _=>∃ v ps ts l zs ds,vs = [v,.ref l]∧jdu H v ps ts∧WebOk ps ts∧H l = some (.lst zs)∧Tps H zs ds∧ds.length ≤ 200∧∀ r H',Same H H'→H' r = some (.lst ((jca ps ds).map V.int))→Q (.ref r) H'
theorem jl9 {ps:List (Int × Int)} {ds:List (Int × Int × Int)} {i:Nat} {q:Int × Int} (h:ps[i]? = some q):jca (ps.take (i + 1)) ds = jca (ps.take i) ds ++ (if jd5 ds q.1 < 2 * q.2 then [q.1] else []):=by
 unfold jca
 rw [jbj h,List.filter_append,List.map_append]
 congr 1
 by_cases c:jd5 ds q.1 < 2 * q.2
 ·simp [c]
 ·simp [c]
def mkI (ns:List Int):List (Key × V):=ns.map fun n=>(Sum.inl n,V.bl true)
theorem jig:∀ (ns:List Int) (n:Int),hasK (mkI ns) n = decide (n ∈ ns)
 | [],n=>rfl
 | m :: r,n=>by
  have ih:=jig r n
  unfold hasK valV mkI at ih ⊢
  rw [List.map_cons,List.find?_cons]
  by_cases c:m = n
  ·subst c
   simp
  ·have hd:decide ((Sum.inl m:Key) = Sum.inl n) = false:=decide_eq_false fun z=>c (Sum.inl.inj z)
   dsimp only
   rw [hd]
   rw [ih,Bool.eq_iff_iff,decide_eq_true_eq,decide_eq_true_eq,List.mem_cons]
   exact ⟨.inr,fun z=>z.resolve_left fun y=>c y.symm⟩
def jhs:Sp:=fun vs H Q _=>∃ u,∃ ns:List Int,vs = [.ref u]∧H u = some (.lst (ns.map V.int))∧ns.Nodup∧ns.length ≤ 120∧∀ d H',H d = none→Same H H'→H' d = some (.dK (mkI ns))→Q (.ref d) H'
def jes (ds:List (Int × Int × Int)) (a b:Int):Bool:=ds.any fun d=>(d.1 == a && d.2.1 == b) || (d.1 == b && d.2.1 == a)
def jue (kvs:List (List Key × V)) (ds:List (Int × Int × Int)):Prop:=∀ a b:Int,(valV kvs ([Sum.inl a,Sum.inl b]:List Key)).isSome = jes ds a b
theorem jmv {ds:List (Int × Int × Int)} {i:Nat} {q:Int × Int × Int} (h:ds[i]? = some q) (a b:Int):jes (ds.take (i + 1)) a b = (jes (ds.take i) a b || ((q.1 == a && q.2.1 == b) || (q.1 == b && q.2.1 == a))):=by
 unfold jes
 rw [jbj h,List.any_append]
 simp
theorem jop {κ:Type} [DecidableEq κ] (kvs:List (κ × V)) (k:κ) (v:V):(putK kvs k v).length ≤ kvs.length + 1:=by
 unfold putK
 split <;> simp
def jrz:Sp:=fun vs H Q _=>∃ l zs ds,vs = [.ref l]∧H l = some (.lst zs)∧Tps H zs ds∧ds.length ≤ 200∧∀ d kvs H',Same H H'→H' d = some (.dT kvs)→jue kvs ds→Q (.ref d) H'
theorem jg6 {f:Addr} {fd:FuncData} {f_due_at:Addr} {d_due_at:FuncData} (B:Blt mg) (D:DefAt K mg "loose_places" (top 33) ["web","dues"] f fd) (D_due_at:DefAt K mg "due_at" (top 27) ["dues"] f_due_at d_due_at) (G_due_at:FnOk P w K mg base CX0 1 f_due_at d_due_at ["dues"] joe):FnOk P w K mg base CX0 2 f fd ["web","dues"] jo9:=by
 have sc:FnScope ["web","dues","paid"] ["web","dues"] (jba (top 33)):=⟨rfl,rfl,rfl,by decide +kernel,rfl,by decide +kernel,by decide +kernel⟩
 refine D.F.ok sc (fun vs H Q E h=>?_) (fun cdv A outer s H vs Q E hr h=>?_)
 ·obtain ⟨v,ps,ts,l,zs,ds,rfl,_⟩:=h
  rfl
 obtain ⟨v,ps,ts,l,zs,ds,rfl,hw,wk,el,pd,hl,h⟩:=h
 obtain ⟨u,pa,ta,xs,ys,rfl,hu1,hpa,hta,hxs,hys⟩:=hw
 have hu:=jc7 hr
 have hu0:_ < PySem.cLine:=Nat.lt_of_succ_lt hu
 refine ⟨_,(jah (jbf (i:=2) sc.nd rfl (Or.inr rfl) (jbe G_due_at (hr.mono (by decide)) rfl D_due_at.m D_due_at.F.kp D_due_at.b .nil jbs (ja0 (qv 1) jai))) (jb9 (jbq (jc6 (CpScope.of (N:=["place","price","paid"]) (src:=[none,none,some 2]) (by rfl)) rfl (jbr (jbl q_ix (qv 0) jaj (fun _ _=>rfl))) (fun _ _ _ _=>(jcw (n:=2) rfl (jbd (jbb (i:=0) (jbc (l:=["place","price","paid"]) (by rfl)) rfl (Or.inl rfl)) (jbd (jbb (i:=1) (jbc (l:=["place","price","paid"]) (by rfl)) rfl (Or.inl rfl)) jc9)))) (fun _ _ _ _=>(jez (jd7 q_lt (jkt hu (qv 2) (qv 0) jaj) (jbw jhz jaj (qv 1)) (jcc _)))) (fun _ _ _ _=>(qv 0)))))),?_⟩
 have hlx:xs.length = ps.length:=Paired.length hxs
 have hpl:=wk.pl
 walk_at "RD"
 refine ⟨l,zs,ds,rfl,el,pd,hl,fun d kvs H1 s1 ed pk=>?_⟩
 walk_at "RD"
 refine jbp (Itl K pa) H1 (fun R hR=>?_) (fun z hz0=>jbu ps.length (fun i σ' Hc=>∃ w1 w2,σ' = [w1,w2,some (.ref d)]∧Same H1 Hc∧Hc z = some (.lst ((jca (ps.take i) ds).map V.int))) ⟨none,none,rfl,jag hz0 _,ja1⟩ ?_ ?_)
 ·unfold jcs
  simp_arith [jbo,s1 _ _ hu1,at0]
  exact ⟨pa,rfl,⟨_,SqL.of (s1 _ _ hpa)⟩,hR⟩
 ·rintro i σ' Hc hi ⟨w1,w2,rfl,s2,ez⟩
  have s3:=s1.trans s2
  have x1:xs[i]? = some (xs[i]'(by omega)):=List.getElem?_eq_getElem _
  have z1:SqL K Hc pa xs:=SqL.of (s3 _ _ hpa)
  refine ⟨⟨_,_,z1,x1⟩,?_⟩
  rintro y H' ⟨rfl,hy⟩
  obtain ⟨q,hq,pq⟩:=jbi hxs (hy _ z1)
  obtain ⟨t,rfl,ht⟩:=pq.same s3
  have ed2:=s2 _ _ ed
  have lt:=jl9 (ds:=ds) hq
  have hlz:(jca (ps.take i) ds).length ≤ 40:=by
   unfold jca
   rw [List.length_map]
   have:=List.length_filter_le (fun p:Int × Int=>decide (jd5 ds p.1 < 2 * p.2)) (ps.take i)
   rw [List.length_take] at this
   omega
  simp_arith [ht]
  refine ⟨⟨kvs,ed2⟩,?_⟩
  simp only [ed2,pk.get]
  refine ⟨cmL (by decide) (by decide),?_⟩
  by_cases c:jd5 ds q.1 < 2 * q.2
  ·rw [if_pos c] at lt
   simp only [decide_eq_true c,if_true]
   refine ⟨_,ez,by rw [List.length_map]; exact szl' (by omega),_,_,rfl,jbh s2 hz0,?_⟩
   rw [ja1,lt,List.map_append]
   rfl
  ·rw [if_neg c,List.append_nil] at lt
   simp only [decide_eq_false c,Bool.false_eq_true,if_false]
   exact ⟨_,_,rfl,s2,by rw [lt]; exact ez⟩
 ·rintro σ' Hc ⟨w1,w2,rfl,s2,ez⟩
  rw [List.take_length] at ez
  refine ⟨⟨_,SqL.of ((s1.trans s2) _ _ hpa),by omega⟩,?_⟩
  exact h z Hc (s1.trans s2) ez
theorem jn6 {f:Addr} {fd:FuncData}  (B:Blt mg) (D:DefAt K mg "marked" (top 11) ["places"] f fd):FnOk P w K mg base CX0 1 f fd ["places"] jhs:=by
 have sc:FnScope ["places"] ["places"] (jba (top 11)):=⟨rfl,rfl,rfl,by decide +kernel,rfl,by decide +kernel,by decide +kernel⟩
 refine D.F.ok sc (fun vs H Q E h=>?_) (fun cdv A outer s H vs Q E hr h=>?_)
 ·obtain ⟨u,ns,rfl,_⟩:=h
  rfl
 obtain ⟨u,ns,rfl,eu,nd,hl,h⟩:=h
 have hu:=jc7 hr
 have hu0:_ < PySem.cLine:=Nat.lt_of_succ_lt hu
 refine ⟨_,(jb9 (jbq (jcx (ji1 rfl) rfl B.dict PyProof.Rows.boot_dict (ja0 (jc6 (CpScope.of (N:=["place"]) (src:=[none]) (by rfl)) rfl (jbr (qv 0)) (fun _ _ _ _=>(jbb (i:=0) (jbc (l:=["place"]) (by rfl)) rfl (Or.inl rfl))) (fun _ _ _ _=>jci) (fun _ _ _ _=>(jc4 (ja0 (qv 0) (ja0 jjn jai))))) jai)))),?_⟩
 walk_at "RD"
 refine jbp (Itl K u) H (fun R hR=>?_) (fun l hl0=>jbu ns.length (fun i σ' Hc=>∃ w1 zs,σ' = [w1]∧Same H Hc∧Hc l = some (.lst zs)∧Paired (PairAt Hc) zs (mkI (ns.take i))) ⟨none,[],rfl,jag hl0 _,ja1,.nil⟩ ?_ ?_)
 ·unfold jcs
  walk_at "RD"
  exact ⟨u,rfl,⟨_,SqL.of eu⟩,hR⟩
 ·rintro i σ' Hc hi ⟨w1,zs,rfl,s2,ez,pz⟩
  have x1:ns[i]? = some ns[i]:=List.getElem?_eq_getElem hi
  have X1:(ns.map V.int)[i]? = some (.int ns[i]):=by rw [List.getElem?_map,x1]; rfl
  have hlz:zs.length = (mkI (ns.take i)).length:=Paired.length pz
  have hlz2:zs.length ≤ i:=by
   rw [hlz,mkI,List.length_map,List.length_take]
   omega
  refine ⟨⟨_,_,SqL.of (s2 _ _ eu),X1⟩,?_⟩
  rintro y H' ⟨rfl,hy⟩
  have E1:V.int ns[i] = y:=Option.some.inj (X1.symm.trans (hy _ (SqL.of (s2 _ _ eu))))
  subst E1
  walk_at "RD"
  intro t ht
  have ez2:=jag ht (.tup [.int ns[i],.bl true]) _ _ ez
  have t6:=jbt (ys:=zs ++ [.ref t]) ez2
  refine ⟨zs,ez2,szl' (by omega),_,zs ++ [.ref t],rfl,jbh (s2.trans (jag ht _)) hl0,(by first | rfl | exact ja1),?_⟩
  rw [jbj x1,mkI,List.map_append]
  refine jbn (Paired.mapP pz fun v p q=>?_) ?_
  ·obtain ⟨b,e,q⟩:=q
   exact ⟨b,e,t6 _ _ rfl (jag ht _ _ _ q)⟩
  ·exact ⟨t,rfl,t6 _ _ rfl ja1⟩
 ·rintro σ' Hc ⟨w1,zs,rfl,s2,ez,pz⟩
  refine ⟨⟨_,SqL.of (s2 _ _ eu),by rw [List.length_map]; exact Nat.le_refl _⟩,?_⟩
  rw [List.take_length] at pz
  have hlz:zs.length = (mkI ns).length:=Paired.length pz
  rw [mkI,List.length_map] at hlz
  simp_arith [ez]
  refine ⟨mkI ns,pz,by omega,?_,fun d hd=>h d _ (s2.free hd) (s2.trans (jag hd _)) ja1⟩
  unfold mkI
  rw [List.map_map]
  have e:((fun (x:Key × V)=>x.1) ∘ fun (n:Int)=>((Sum.inl n:Key),V.bl true)) = fun (n:Int)=>(Sum.inl n:Key):=rfl
  rw [e]
  unfold List.Nodup at nd ⊢
  rw [List.pairwise_map]
  exact nd.imp fun q z=>q (Sum.inl.inj z)
theorem jg3 {f:Addr} {fd:FuncData}  (B:Blt mg) (D:DefAt K mg "tied_by_dues" (top 34) ["dues"] f fd):FnOk P w K mg base CX0 1 f fd ["dues"] jrz:=by
 have sc:FnScope ["dues","tied","one","other","amount"] ["dues"] (jba (top 34)):=⟨rfl,rfl,rfl,by decide +kernel,rfl,by decide +kernel,by decide +kernel⟩
 refine D.F.ok sc (fun vs H Q E h=>?_) (fun cdv A outer s H vs Q E hr h=>?_)
 ·obtain ⟨l,zs,ds,rfl,_⟩:=h
  rfl
 obtain ⟨l,zs,ds,rfl,el,pd,hl,h⟩:=h
 have hu:=jc7 hr
 have hu0:_ < PySem.cLine:=Nat.lt_of_succ_lt hu
 refine ⟨_,(jah (jbf (i:=1) sc.nd rfl (Or.inl rfl) jr1) (jah (jd8 PassesOwn.never rfl (jbr (qv 0)) (jcw (n:=3) rfl (jbd (jbb (i:=2) sc.nd rfl (Or.inl rfl)) (jbd (jbb (i:=3) sc.nd rfl (Or.inl rfl)) (jbd (jbb (i:=4) sc.nd rfl (Or.inl rfl)) jc9)))) (jah (joq hu (qv 1) (jc4 (ja0 (qv 2) (ja0 (qv 3) jai))) jjn rfl) (jb9 (joq hu (qv 1) (jc4 (ja0 (qv 3) (ja0 (qv 2) jai))) jjn rfl)))) (jb9 (jbq (qv 1))))),?_⟩
 refine jb8 fun R hR=>?_
 walk_at "RD"
 intro d hd
 subst hR
 refine jb8 fun R hR=>?_
 refine jce (Itl K l) _ (fun R' hR'=>?_) (jcv (K:=K) (a:=l) (xs:=zs) (fun i σ Hc=>∃ v1 v2 v3 kvs,σ = [some (.ref l),some (.ref d),v1,v2,v3]∧Same H Hc∧Hc d = some (.dT kvs)∧jue kvs (ds.take i)∧kvs.length ≤ 2 * i) ⟨none,none,none,[],rfl,jag hd _,ja1,(fun a b=>rfl),Nat.le_refl _⟩ (fun i σ Hc _ ⟨_,_,_,_,_,s3,_⟩=>SqL.of (s3 _ _ el)) ?_ ?_)
 ·unfold jcs
  walk_at "RD"
  exact ⟨l,rfl,⟨_,SqL.of (jag hd _ _ _ el)⟩,hR'⟩
 ·rintro i x σ Hc hx ⟨v1,v2,v3,kvs,rfl,s3,ed,td,hk⟩
  obtain ⟨q,hq,pq⟩:=jbi pd hx
  obtain ⟨t,rfl,ht⟩:=Tp.tups pq s3.tups
  have hi:=(List.getElem?_eq_some_iff.mp hq).1
  simp_arith [ht,sDPut]
  intro t1 ht1
  have q1:=jag ht1 (.tup [.int q.1,.int q.2.1])
  have f1:upd Hc t1 (.tup [.int q.1,.int q.2.1]) t1 = some (.tup (([Sum.inl q.1,Sum.inl q.2.1]:List Key).map kV)):=ja1
  have ed1:=q1 _ _ ed
  generalize upd Hc t1 (.tup [.int q.1,.int q.2.1]) = H1 at q1 f1 ed1
  refine ⟨d,_,rfl,DPut.t ed1 f1 (szl' (by omega)),?_⟩
  have s4:=jbh (s3.trans q1) hd (o:=.dT (putK kvs [Sum.inl q.1,Sum.inl q.2.1] (.bl true)))
  have ed3:upd H1 d (.dT (putK kvs ([Sum.inl q.1,Sum.inl q.2.1]:List Key) (.bl true))) d = some (.dT (putK kvs [Sum.inl q.1,Sum.inl q.2.1] (.bl true))):=ja1
  generalize upd H1 d (.dT (putK kvs ([Sum.inl q.1,Sum.inl q.2.1]:List Key) (.bl true))) = H2 at s4 ed3
  intro t2 ht2
  have q2:=jag ht2 (.tup [.int q.2.1,.int q.1])
  have f2:upd H2 t2 (.tup [.int q.2.1,.int q.1]) t2 = some (.tup (([Sum.inl q.2.1,Sum.inl q.1]:List Key).map kV)):=ja1
  have ed4:=q2 _ _ ed3
  generalize upd H2 t2 (.tup [.int q.2.1,.int q.1]) = H3 at q2 f2 ed4
  have hp1:=jop kvs ([Sum.inl q.1,Sum.inl q.2.1]:List Key) (.bl true)
  have hp2:=jop (putK kvs ([Sum.inl q.1,Sum.inl q.2.1]:List Key) (.bl true)) ([Sum.inl q.2.1,Sum.inl q.1]:List Key) (.bl true)
  refine ⟨d,_,rfl,DPut.t ed4 f2 (szl' (by omega)),_,_,_,_,rfl,jbh (s4.trans q2) hd,ja1,?_,by omega⟩
  intro a b
  rw [jhl,jhl,jmv hq,← td a b]
  by_cases c2:([Sum.inl a,Sum.inl b]:List Key) = [Sum.inl q.2.1,Sum.inl q.1]
  ·rw [if_pos c2]
   injection c2 with c3 c4
   injection c4 with c4 _
   have:=Sum.inl.inj c3
   have:=Sum.inl.inj c4
   subst_vars
   simp
  ·rw [if_neg c2]
   by_cases c1:([Sum.inl a,Sum.inl b]:List Key) = [Sum.inl q.1,Sum.inl q.2.1]
   ·rw [if_pos c1]
    injection c1 with c3 c4
    injection c4 with c4 _
    have:=Sum.inl.inj c3
    have:=Sum.inl.inj c4
    subst_vars
    simp
   ·rw [if_neg c1]
    have n1:(q.1 == a && q.2.1 == b) = false:=Bool.eq_false_iff.mpr fun z=>c1 (by rw [Bool.and_eq_true] at z; rw [eq_of_beq z.1,eq_of_beq z.2])
    have n2:(q.1 == b && q.2.1 == a) = false:=Bool.eq_false_iff.mpr fun z=>c2 (by rw [Bool.and_eq_true] at z; rw [eq_of_beq z.1,eq_of_beq z.2])
    rw [n1,n2]
    simp
 ·rintro σ Hc ⟨v1,v2,v3,kvs,rfl,s3,ed,td,hk⟩
  have hlz:zs.length = ds.length:=Paired.length pd
  rw [hlz,List.take_length] at td
  subst hR
  walk_at "RD"
  exact h d kvs Hc s3 ed td
end
end My
namespace L2
open PySem PySem.Spec PyProof.Rows
def jir (C:Addr) (o:Option HO) (f:Str):Option V:=match o with
 | some (.ins C' _ fs)=>if C' = C then fs.lookup f else none
 | _=>none
def jfe (C:Addr) (o:Option HO) (m:Str):Bool:=match o with
 | some (.ins C' _ fs)=>decide (C' = C) && (fs.lookup m).isNone
 | _=>false
def fFld (C:Addr) (f:Str) (ta:TE):TE:=fun σ H Q=>ta σ H fun x H1=>match x with
 | .ref a=>match jir C (H1 a) f with
  | some v=>Q v H1
  | none=>False
 | _=>False
def jb7 (C:Addr) (f:Str) (ta tv:TE):TS:=fun D σ H=>tv σ H fun y H1=>ta σ H1 fun x H2=>match x with
 | .ref a=>match H2 a with
  | some (.ins C' dx fs)=>C' = C∧fs.length < 1000∧D.nx σ (upd H2 a (.ins C dx (putF f y fs)))
  | _=>False
 | _=>False
def jay (C:Addr) (m:Str) (sp:Sp) (dvs:List V) (E:XK) (ta:TE) (t:TA):TE:=fun σ H Q=>ta σ H fun x H1=>match x with
 | .ref a=>jfe C (H1 a) m = true∧t σ H1 fun vs H2=>sp (.ref a :: (vs ++ dvs)) H2 Q E
 | _=>False
section
variable {X:Cx} {C:Addr}
theorem jrj {o:Option HO} {f:Str} {v:V} (h:jir C o f = some v):∃ dx fs,o = some (.ins C dx fs)∧fs.lookup f = some v:=by
 unfold jir at h
 split at h
 ·split at h
  ·rename_i c; subst c; exact ⟨_,_,rfl,h⟩
  ·cases h
 ·cases h
theorem jr5 {o:Option HO} {m:Str} (h:jfe C o m = true):∃ dx fs,o = some (.ins C dx fs)∧fs.lookup m = none:=by
 unfold jfe at h
 split at h
 ·rw [Bool.and_eq_true] at h
  have c:=of_decide_eq_true h.1
  subst c
  exact ⟨_,_,rfl,Option.isNone_iff_eq_none.mp h.2⟩
 ·cases h
theorem jcz {e:Expr} {f:Str} {pos:Pos} {ta:TE} (c:Cls X.K C) (n:jeq X.K C f) (he:PE X e ta) (hb:attributeBase e f X.env (eval e X.env) = eval e X.env):PE X (.Attribute e f pos) (fFld C f ta):=by
 intro pins s σ H Q I h
 refine jud hb (thn (he pins s σ H _ I h) fun u s1 ⟨x,H1,I1,rx,q⟩=>?_)
 dsimp only at q
 split at q
 ·rename_i a
  split at q
  ·rename_i v hv
   obtain ⟨dx,fs,ea,l⟩:=jrj hv
   obtain rfl:u = Value.ref a:=rx
   exact jnf I1 ea c n l fun u' s2 I2 ru=>⟨v,H1,I2,ru,q⟩
  ·exact q.elim
 ·exact q.elim
theorem jkv {o value:Expr} {f:Str} {pos pos':Pos} {ta tv:TE} (c:Cls X.K C) (n:jeq X.K C f) (ha:PE X o ta) (hv:PE X value tv) (hs:swapsWith value (some (.Attribute o f pos')) pos.line X.env = pure false):PS X (.Assign [.Attribute o f pos'] value pos) (jb7 C f ta tv):=by
 intro pins s σ H D I h
 refine plainObj_wpAny_Assign_Attribute (thn (hv pins s σ H _ I h) fun u s1 ⟨y,H1,I1,ry,q⟩=>thn (ha pins s1 σ H1 _ I1 q) fun ov s2 ⟨x,H2,I2,rx,q2⟩=>?_) hs
 dsimp only at q2
 split at q2
 ·rename_i a
  split at q2
  ·rename_i C' dx fs ea
   obtain ⟨rfl,l,q2⟩:=q2
   obtain rfl:ov = Value.ref a:=rx
   exact jmz I2 ea c n l ry fun s3 I3=>⟨σ,_,I3,q2⟩
  ·exact q2.elim
 ·exact q2.elim
theorem jmk {m:Str} {sp:Sp} {dvs:List V} {E:XK} {ta:TE} {t:TA} {ex:Expr} (h:PE X ex (jsw C m sp dvs E ta t)) (hmono:∀ pins s σ H Q Q',Inv X pins σ H s→(∀ x H1,Q x H1→Q' x H1)→ta σ H Q→ta σ H Q'):PE X ex (jay C m sp dvs E ta t):=by
 intro pins s σ H Q I q
 refine h pins s σ H Q I (hmono pins s σ H _ _ I (fun x H1 q=>?_) q)
 split at q
 ·rename_i a
  obtain ⟨dx,fs,e,l⟩:=jr5 q.1
  exact ⟨a,dx,fs,rfl,e,l,q.2⟩
 ·exact q.elim
theorem jif {i:Nat}:∀ (pins:List (Addr × Obj)) s σ H Q Q',Inv X pins σ H s→(∀ x H1,Q x H1→Q' x H1)→fVar i σ H Q→fVar i σ H Q':=by
 intro pins s σ H Q Q' _ h q
 unfold fVar at q ⊢
 split
 ·rename_i v e
  rw [e] at q
  exact h _ _ q
 ·rename_i hne
  split at q
  ·rename_i v e; exact absurd e (hne v)
  ·exact q
theorem jd4 {CX:CXT} {k:Nat} {f:Addr} {fd:FuncData} {ps:List Str} {sp:Sp} {dvs:List V} {ds:List Value} {E:XK} {m:Str} {pos apos:Pos} {e o:Expr} {es:List Expr} {i:Nat} {t:TA} {pl:Sem Bool}
  (he:PE X o (fVar i)) (c:Cls X.K C) (hm:Meth X.K C m f) (F:FnOk X.prog X.w X.K X.mg X.base CX k f fd ps sp) (hr:Room k X.A) (hb:jer X.K fd ps ds) (hd:Vals dvs ds) (hx:jep CX X E) (ha:PA X (e :: es) t)
  (hst:starEach (e :: es) X.env = (false,eval e X.env) :: starEach es X.env:=by rfl) (hpl:(backTo pos (starEach es X.env)).any (·.1) = false:=by rfl)
  (ht:eval (.Call (.Attribute o m apos) (e :: es) [] pos) X.env = (do
   let ov ← eval o X.env
   standAt apos.atName
   let (f,first) ← holding [ov] (getMethod ov m pl)
   callWith pos f first (backTo pos (starEach (e :: es) X.env)) (backToKw pos (keywordEach [] X.env))):=by rfl) :
  PE X (.Call (.Attribute o m apos) (e :: es) [] pos) (jay C m sp dvs E (fVar i) t) :=
 jmk (jt9 (pl:=pl) he c hm F hr hb hd hx ha hst hpl ht) jif
theorem jov {CX:CXT} {k:Nat} {f:Addr} {fd:FuncData} {ps:List Str} {sp:Sp} {dvs:List V} {ds:List Value} {E:XK} {m:Str} {pos apos:Pos} {o:Expr} {i:Nat} {pl:Sem Bool}
  (he:PE X o (fVar i)) (c:Cls X.K C) (hm:Meth X.K C m f) (F:FnOk X.prog X.w X.K X.mg X.base CX k f fd ps sp) (hr:Room k X.A) (hb:jer X.K fd ps ds) (hd:Vals dvs ds) (hx:jep CX X E)
  (ht:eval (.Call (.Attribute o m apos) [] [] pos) X.env = (do
   let ov ← eval o X.env
   standAt apos.atName
   let (f,first) ← holding [ov] (getMethod ov m pl)
   callWith pos f first (backTo pos (starEach [] X.env)) (backToKw pos (keywordEach [] X.env))):=by rfl) :
  PE X (.Call (.Attribute o m apos) [] [] pos) (jay C m sp dvs E (fVar i) tNil) :=
 jmk (jr0 (pl:=pl) he c hm F hr hb hd hx ht) jif
end
section
variable {X:Cx}
def jad (td ty:TE):TE:=fun σ H Q=>td σ H fun x H1=>match x with
 | .ref a=>(∃ kvs,H1 a = some (.dK kvs))∧ty σ H1 fun y H2=>match y with
  | .int n=>match H2 a with
   | some (.dK kvs)=>Q ((valV kvs (Sum.inl n:Key)).getD .non) H2
   | _=>False
  | _=>False
 | _=>False
theorem jt4 {o e:Expr} {apos cpos:Pos} {td ty:TE} (hu:X.A.units + 1 < cLine) (ho:PE X o td) (he:PE X e ty) (m:M1 X o "get" apos e cpos:=by exact ⟨rfl,rfl,rfl,rfl⟩):PE X (.Call (.Attribute o "get" apos) [e] [] cpos) (jad td ty):=by
 intro pins s σ H Q I h
 refine wpAny_Call_method m.base m.few m.line PySem.F.plainAttrs_dict PySem.F.slot_dict_get PySem.F.type_dict_get (thn (ho pins s σ H _ I h) fun u s1 ⟨x,H1,I1,rx,q1⟩=>?_)
 dsimp only at q1
 split at q1
 ·rename_i a
  obtain ⟨⟨kvs0,e0⟩,q1⟩:=q1
  obtain rfl:u = Value.ref a:=rx
  obtain ⟨t1,t2,_⟩:=jsj I1 (.inl ⟨kvs0,.inl e0⟩)
  refine ⟨t1,t2,?_⟩
  rw [m.trees]
  refine Calls.callWith_builtin rfl (Calls.evalArgs_plain (Calls.spliced_cons (thn (he pins s1 σ H1 _ I1 q1) fun iv s2 ⟨y,H2,I2,ry,q2⟩=>Calls.spliced_nil ?_)))
  dsimp only at q2
  split at q2
  ·rename_i n
   split at q2
   ·rename_i kvs ea
    exact d_get1 hu I2 (DGet.k (k:=Sum.inl n) ea) ry fun w' s3 I3 rw'=>⟨_,H2,I3,rw',q2⟩
   ·exact q2.elim
  ·exact q2.elim
 ·exact q1.elim
def jac (i:Nat):TE:=fun σ H Q=>match σ[i]? with
 | some (some (.int n))=>∀ p,H p = none→Q (.ref p) (upd H p (.dK [(Sum.inl n,.non)]))
 | _=>False
theorem jsr {H:Hp} {p:Addr} {a b:HO}:upd (upd H p a) p b = upd H p b:=by
 funext x
 by_cases c:x = p
 ·rw [c,ja1,ja1]
 ·rw [jas c,jas c,jas c]
theorem jr2 {pos:Pos} {k v:Expr} {i:Nat} (hk:PE X k (fVar i)) (hv:PE X v (tC .non)):PE X (.Dict [some k] [v] pos) (jac i):=by
 intro pins s σ H Q I q
 refine jtb (jqx hk hv jt7) rfl rfl (fun z=>nomatch z) (Nat.le_of_ble_eq_true rfl) pins s σ H Q I ?_
 intro p hp
 unfold jac at q
 split at q
 ·rename_i n e
  show fVar i σ (upd H p (.dK [])) _
  unfold fVar
  rw [e]
  show tC V.non σ _ _
  refine ⟨ja1,[(Sum.inl n,.non)],rfl,Nat.le_of_ble_eq_true rfl,?_⟩
  rw [jsr]
  exact q p hp
 ·exact q.elim
def jb1:V→V→Hp→VK→Prop:=fun o i H Q=>match o,i with
 | .ref p,.int k=>match H p with
  | some (.lst xs)=>0 ≤ k∧match atI xs k with
   | some v=>Q v H
   | none=>False
  | _=>False
 | _,_=>False
theorem jk5:PGet X jb1:=by
 intro pins s σ H o i ov iv Q I ro ri h
 unfold jb1 at h
 split at h
 ·rename_i p k
  split at h
  ·rename_i xs hp
   obtain ⟨k0,h⟩:=h
   split at h
   ·rename_i v hv
    cases ro
    obtain ⟨t,rfl⟩:=ri
    obtain ⟨its,r,pl,hz⟩:=I.list (SqL.of hp)
    obtain ⟨j,h1,h2,h3,h4,h5⟩:=jlk hv
    obtain ⟨w,ew,rw'⟩:=r.get h2
    have hn:=jgf
    have hj:k.toNat = j:=by
     rw [seqIndex_of k0 h5] at h1
     exact Option.some.inj h1
    exact wpAny_getItem_list pl.isList k0 (by omega) (by rw [hj]; simpa using ew) ⟨v,H,I,rw',h⟩
   ·exact h.elim
  ·exact h.elim
 ·exact h.elim
def jb2:TIp:=fun x y H Q=>match x,y with
 | .int i,.int j=>Q (.int (i - j)) H
 | _,_=>False
def jb3:TIp:=fun x y H Q=>match x,y with
 | .int i,.int j=>Q (.int (i + j)) H
 | _,_=>False
theorem jtu:PIp X .Sub jb2:=by
 intro pins s σ H x y v u Q I r1 r2 h
 unfold jb2 at h
 split at h
 ·rename_i i j
  obtain ⟨t,rfl⟩:=(show ∃ t,v = Value.int i t from r1)
  obtain ⟨t',rfl⟩:=(show ∃ t,u = Value.int j t from r2)
  exact PyProof.Rows.isub_int ⟨.int (i - j),H,I.tok _,⟨_,rfl⟩,h⟩
 ·exact h.elim
theorem jtw:PIp X .Add jb3:=by
 intro pins s σ H x y v u Q I r1 r2 h
 unfold jb3 at h
 split at h
 ·rename_i i j
  obtain ⟨t,rfl⟩:=(show ∃ t,v = Value.int i t from r1)
  obtain ⟨t',rfl⟩:=(show ∃ t,u = Value.int j t from r2)
  exact PyProof.Rows.iadd_int ⟨.int (i + j),H,I.tok _,⟨_,rfl⟩,h⟩
 ·exact h.elim
def fXor:R2:=fun x y H Q=>match x,y with
 | .int i,.int j=>Q (.int (Builtin.bitXor i j)) H
 | _,_=>False
theorem q_xor:OpR X (binaryOp .BitXor) fXor:=by
 intro pins s σ H x y v u Q I r1 r2 h
 unfold fXor at h
 split at h
 ·rename_i i j
  obtain ⟨t,rfl⟩:=(show ∃ t,v = Value.int i t from r1)
  obtain ⟨t',rfl⟩:=(show ∃ t,u = Value.int j t from r2)
  exact PyProof.Rows.xor_int ⟨.int (Builtin.bitXor i j),H,I.tok _,⟨_,rfl⟩,h⟩
 ·exact h.elim
theorem jsn (w:Nat):Builtin.bitXor (w:Int) 1 = ((if w % 2 = 0 then w + 1 else w - 1:Nat):Int):=by
 have h1:(w ||| 1:Nat) = 2 * (w / 2) + 1:=by
  have a:=Nat.or_div_two (a:=w) (b:=1)
  have b:(w ||| 1) % 2 = 1:=by rw [Nat.or_mod_two_eq_one]; right; rfl
  rw [show 1 / 2 = 0 from rfl,Nat.or_zero] at a
  omega
 have h2:(w &&& 1:Nat) = w % 2:=Nat.and_one_is_mod w
 have n1:¬ (0:Int) ≤ -(w:Int) - 1:=by omega
 have e:Builtin.bitXor (w:Int) 1 = ((w ||| 1:Nat):Int) - ((w &&& 1:Nat):Int):=by
  unfold Builtin.bitXor Builtin.bitOr Builtin.bitAnd Builtin.bitNot
  simp only [decide_eq_false n1,show decide ((0:Int) ≤ -(1:Int) - 1) = false from rfl,show decide ((0:Int) ≤ (w:Int)) = true from decide_eq_true (by omega),show decide ((0:Int) ≤ 1) = true from rfl]
  simp only [show (-(-(w:Int) - 1) - 1).toNat = w by omega,show (-(-(1:Int) - 1) - 1).toNat = 1 from rfl,show ((w:Int)).toNat = w from rfl,show ((1:Int)).toNat = 1 from rfl]
  omega
 rw [e,h1,h2]
 split <;> omega
def alt {α:Type}:Bool→List α→List α
 | _,[]=>[]
 | true,x :: xs=>x :: alt false xs
 | false,_ :: xs=>alt true xs
def fAlt (b:Bool) (te:TE):TE:=fun σ H Q=>te σ H fun x H1=>match x with
 | .ref a=>match H1 a with
  | some (.lst xs)=>∀ p,H1 p = none→Q (.ref p) (upd H1 p (.lst (alt b xs)))
  | _=>False
 | _=>False
theorem jhk:∀ (b:Bool) {vs:List V} {us:List Value},Vals vs us→Vals (alt b vs) (alt b us)
 | _,_,_,.nil=>by cases ‹Bool› <;> exact .nil
 | true,_,_,.cons r t=>.cons r (jhk false t)
 | false,_,_,.cons _ t=>jhk true t
theorem jlm {α:Type}:∀ (b:Bool) (xs:List α),(alt b xs).length ≤ xs.length
 | true,[]=>Nat.le_refl _
 | false,[]=>Nat.le_refl _
 | true,x :: xs=>by have:=jlm false xs; show (alt false xs).length + 1 ≤ xs.length + 1; omega
 | false,x :: xs=>by have:=jlm true xs; show (alt true xs).length ≤ xs.length + 1; omega
theorem jgs {α:Type}:∀ (b:Bool) (xs:List α) (i:Nat),(alt b xs)[i]? = xs[2 * i + (if b then 0 else 1)]?
 | true,[],i=>by simp [alt]
 | false,[],i=>by simp [alt]
 | true,x :: xs,0=>rfl
 | true,x :: xs,i + 1=>by
  show (alt false xs)[i]? = _
  rw [jgs false xs i,if_pos rfl,if_neg (by decide),show 2 * (i + 1) + 0 = (2 * i + 1) + 1 by omega,List.getElem?_cons_succ]
 | false,x :: xs,i=>by
  show (alt true xs)[i]? = _
  rw [jgs true xs i,if_pos rfl,if_neg (by decide),List.getElem?_cons_succ]
  rfl
theorem jqy (its:List Value) (b:Bool) (hb:b = false→0 < its.length):slicePick its.toArray (some (if b then 0 else 1)) none (some 2) = (alt b its).toArray:=by
 unfold slicePick
 congr 1
 have h1:sliceBounds (some (if b then 0 else 1)) none (some 2) its.toArray.size = (((if b then 0 else 1:Nat):Int),(its.length:Int),2):=by
  cases b
  ·have:=hb rfl
   simp [sliceBounds]
   omega
  ·simp [sliceBounds]
   omega
 rw [h1]
 dsimp only
 have h2:∀ c:Nat,sliceRange ((c:Nat):Int) (its.length:Int) 2 = (List.range ((its.length + 1 - c) / 2)).map fun k=>c + 2 * k:=fun c=>by
  unfold sliceRange
  dsimp only
  rw [if_pos (by decide)]
  have e:(if (c:Int) < (its.length:Int) then ((its.length:Int) - c + 2 - 1) / 2 else 0).toNat = (its.length + 1 - c) / 2:=by
   split <;> omega
  rw [e]
  exact List.map_congr_left fun k _=>by omega
 rw [h2,List.filterMap_map]
 have h3:∀ (l:List Nat),(∀ k ∈ l,(if b then 0 else 1) + 2 * k < its.length)→l.filterMap ((fun x=>its.toArray[x]?) ∘ fun k=>(if b then 0 else 1) + 2 * k) = l.map fun k=>its.getD ((if b then 0 else 1) + 2 * k) .none:=fun l=>by
  induction l with
  | nil=>intro _; rfl
  | cons k r ih =>
   intro hk
   have hk0:=hk k (.head _)
   rw [List.filterMap_cons]
   have e:((fun x=>its.toArray[x]?) ∘ fun k=>(if b then 0 else 1) + 2 * k) k = some (its.getD ((if b then 0 else 1) + 2 * k) .none):=by
    show its.toArray[(if b then 0 else 1) + 2 * k]? = _
    rw [List.getElem?_toArray,List.getD_eq_getElem?_getD,List.getElem?_eq_getElem hk0]
    rfl
   rw [e]
   dsimp only
   rw [List.map_cons,ih fun j hj=>hk j (.tail _ hj)]
 rw [h3 _ fun k hk=>by have:=List.mem_range.mp hk; cases b <;> simp only [if_true,if_false,Bool.false_eq_true] at this ⊢ <;> omega]
 apply List.ext_getElem?
 intro i
 rw [jgs,List.getElem?_map]
 by_cases c:2 * i + (if b then 0 else 1) < its.length
 ·rw [List.getElem?_range (by cases b <;> simp only [if_true,if_false,Bool.false_eq_true] at c ⊢ <;> omega)]
  show some (its.getD _ .none) = _
  rw [List.getD_eq_getElem?_getD,Nat.add_comm,List.getElem?_eq_getElem c]
  rfl
 ·rw [List.getElem?_eq_none (by rw [List.length_range]; cases b <;> simp only [if_true,if_false,Bool.false_eq_true] at c ⊢ <;> omega),List.getElem?_eq_none (by omega)]
  rfl
theorem jow {b:Bool} {c:Int} (hc:c = if b then 0 else 1) {e:Expr} {te:TE} {k k2:Nat} {z1 z2 p2 pos:Pos} (he:PE X e te):PE X (.Subscript e (.Slice (some (.Constant (.int c) k2 z2)) none (some (.Constant (.int 2) k z1)) p2) pos) (fAlt b te):=by
 intro pins s σ H Q I h
 refine Subscript_ (thn (he pins s σ H _ I h) fun v s1 ⟨x,H1,I1,r1,q1⟩=>?_)
 refine wpAny_Slice ?_
 simp only [evalPart_none]
 rw [evalPart_some]
 refine thn ((jaj (i:=c) (j:=k2) (pos:=z2):PE X _ _) pins s1 σ H1 (fun y H2=>y = .int c∧H2 = H1) I1 ⟨rfl,rfl⟩) fun st s2 ⟨y,H2,I2,r2,ey,eh⟩=>?_
 subst ey eh
 obtain ⟨t1,rfl⟩:=r2
 refine wpAny_pure ?_
 rw [evalPart_some]
 refine thn ((jaj (i:=2) (j:=k) (pos:=z1):PE X _ _) pins s2 σ H2 (fun y H3=>y = .int 2∧H3 = H2) I2 ⟨rfl,rfl⟩) fun st s3 ⟨y,H3,I3,r3,ey,eh⟩=>?_
 subst ey eh
 obtain ⟨t2,rfl⟩:=r3
 split at q1
 ·rename_i a
  split at q1
  ·rename_i xs ea
   cases r1
   have I4:Inv X pins σ H3 { s3 with heap:=s3.heap.push { cls:=.type "slice",data:=.fields #[.int c t1,.none,.int 2 t2] } }:=I3.kept (t':=s3.toks) fun b ob q=>Heap.get?_push_of_some _ q
   obtain ⟨its,r,ht,hz⟩:=I4.list (SqL.of ea)
   have hlen:=r.length
   show wpAny (model X.prog X.w) X.A (subscriptTail e (.Slice (some (.Constant (.int c) k2 z2)) none (some (.Constant (.int 2) k z1)) p2) (.ref a) (.ref s3.heap.objs.size)) (EP X pins σ Q) X.xe { s3 with heap:=s3.heap.push { cls:=.type "slice",data:=.fields #[.int c t1,.none,.int 2 t2] } }
   refine tail_any (ops:=[.ref a,.ref s3.heap.objs.size]) ht.isList.typeIs slot_list_getitem.lookup ?_ (by with_unfolding_all rfl)
   refine wpAny_getItem_list_slice ht.isList (Heap.IsSliceOf.new ..) (.int _ t1) .none (.int 2 t2) (by decide) ?_ (by rw [List.size_toArray] <;> omega)
   by_cases hb:b = false→0 < its.length
   ·rw [show slicePick its.toArray (some c) none (some 2) = (alt b its).toArray from by rw [hc]; exact jqy _ _ hb]
    refine ⟨.ref _,_,I4.laid (t':=s3.toks) (o:=.lst (alt b xs)) (fun b ob q=>Heap.get?_push_of_some _ q) (Nat.le_refl _) ?_,rfl,q1 _ (I4.hok.fresh (Nat.le_refl _))⟩
    exact ⟨by have:=jlm b xs; omega,_,0,jhk b r,Heap.get?_push_size _ rfl⟩
   ·have hi:its = []:=Classical.byContradiction fun z=>hb fun _=>List.length_pos_iff.mpr z
    have hx:xs = []:=List.length_eq_zero_iff.mp (by rw [hi] at hlen; exact hlen)
    subst hi hx
    have e2:alt b ([]:List V) = []:=by cases b <;> rfl
    rw [e2] at q1
    have e3:slicePick ([]:List Value).toArray (some c) none (some 2) = ([]:List Value).toArray:=by rw [hc]; cases b <;> rfl
    rw [e3]
    refine ⟨.ref _,_,I4.laid (t':=s3.toks) (o:=.lst []) (fun b ob q=>Heap.get?_push_of_some _ q) (Nat.le_refl _) ?_,rfl,q1 _ (I4.hok.fresh (Nat.le_refl _))⟩
    exact ⟨Nat.zero_le _,_,0,.nil,Heap.get?_push_size _ rfl⟩
  ·exact q1.elim
 ·exact q1.elim
def jan (ta:TE):TT:=fun σ H Q=>ta σ H fun x H1=>match x with
 | .ref a=>match H1 a with
  | some (.lst xs)=>Q (!xs.isEmpty) H1
  | _=>False
 | _=>False
theorem jt6 {a:Expr} {i:Nat} (ha:PE X a (fVar i)) (he:∀ whole,isTrue a X.env whole = (do let v ← whole; standAt a.pos; holding [v] (truthy v)):=by exact fun _=>rfl):PT X a (jan (fVar i)):=by
 intro pins s σ H Q I h
 refine jqw ha he pins s σ H Q I ?_
 show fVar i σ H _
 have h:fVar i σ H _:=h
 refine jif pins s σ H _ _ I (fun x H1 q=>?_) h
 split at q
 ·rename_i a
  split at q
  ·rename_i xs e
   exact ⟨_,.inl ⟨xs,SqL.of e,rfl⟩,q⟩
  ·exact q.elim
 ·exact q.elim
end
end L2
namespace Fl
structure Tw where
 a:Int
 b:Int
 x:Int
 y:Int
def pick (n m v:Int):Int:=if n = m then v else 0
theorem jdm (n v:Int):pick n n v = v:=by unfold pick; rw [if_pos rfl]
theorem jc2 {n m:Int} (h:n ≠ m) (v:Int):pick n m v = 0:=by unfold pick; rw [if_neg h]
theorem jfw (c:Int→Int) (a x:Int):∀ {ns:List Int},ns.Nodup→a ∈ ns→(ns.map fun p=>c p * pick a p x).sum = c a * x
 | [],_,h=>by cases h
 | n :: ns,nd,h=>by
  rw [List.map_cons,List.sum_cons]
  have nd':=List.nodup_cons.mp nd
  by_cases e:a = n
  ·subst e
   have h0:∀ {l:List Int},a ∉ l→(l.map fun p=>c p * pick a p x).sum = 0:=by
    intro l
    induction l with
    | nil=>intro _; rfl
    | cons m l ih =>
     intro hm
     rw [List.map_cons,List.sum_cons,jc2 (fun z:a = m=>hm (by rw [z]; exact List.mem_cons_self ..)),Int.mul_zero,ih fun z=>hm (List.mem_cons_of_mem _ z)]
     rfl
   rw [jdm,h0 nd'.1,Int.add_zero]
  ·have hm:a ∈ ns:=(List.mem_cons.mp h).resolve_left e
   rw [jc2 e,Int.mul_zero,jfw c a x nd'.2 hm,Int.zero_add]
theorem sum_add {α:Type} (f g:α→Int):∀ (l:List α),(l.map fun p=>f p + g p).sum = (l.map f).sum + (l.map g).sum
 | []=>rfl
 | a :: l=>by
  rw [List.map_cons,List.map_cons,List.map_cons,List.sum_cons,List.sum_cons,List.sum_cons,sum_add f g l]
  omega
theorem sum_zero {α:Type}:∀ (l:List α),(l.map fun _=>(0:Int)).sum = 0
 | []=>rfl
 | _ :: l=>by rw [List.map_cons,List.sum_cons,sum_zero l]; rfl
theorem sum_congr {α:Type} {f g:α→Int}:∀ {l:List α},(∀ p ∈ l,f p = g p)→(l.map f).sum = (l.map g).sum
 | [],_=>rfl
 | a :: l,h=>by
  rw [List.map_cons,List.map_cons,List.sum_cons,List.sum_cons,h a (List.mem_cons_self ..),sum_congr fun p hp=>h p (List.mem_cons_of_mem _ hp)]
def outL (zs:List Tw) (p:Int):Int:=(zs.map fun z=>pick z.a p z.x + pick z.b p z.y).sum
def inR (zs:List Tw) (p:Int):Int:=(zs.map fun z=>pick z.b p z.x + pick z.a p z.y).sum
theorem jfq (c:Int→Int) {ns:List Int} (nd:ns.Nodup):∀ {zs:List Tw},(∀ z ∈ zs,z.a ∈ ns∧z.b ∈ ns)→(ns.map fun p=>c p * outL zs p).sum = (zs.map fun z=>c z.a * z.x + c z.b * z.y).sum
 | [],_=>by
  show (ns.map fun p=>c p * 0).sum = 0
  rw [sum_congr (g:=fun _=>0) fun p _=>Int.mul_zero _,sum_zero]
 | z :: zs,h=>by
  have hz:=h z (List.mem_cons_self ..)
  have e:∀ p ∈ ns,c p * outL (z :: zs) p = (c p * pick z.a p z.x + c p * pick z.b p z.y) + c p * outL zs p:=fun p _=>by
   unfold outL
   rw [List.map_cons,List.sum_cons,Int.mul_add,Int.mul_add]
  rw [sum_congr e,sum_add,sum_add,jfw c _ _ nd hz.1,jfw c _ _ nd hz.2,jfq c nd fun z hz=>h z (List.mem_cons_of_mem _ hz),List.map_cons,List.sum_cons]
theorem jln (c:Int→Int) {ns:List Int} (nd:ns.Nodup):∀ {zs:List Tw},(∀ z ∈ zs,z.a ∈ ns∧z.b ∈ ns)→(ns.map fun p=>c p * inR zs p).sum = (zs.map fun z=>c z.b * z.x + c z.a * z.y).sum
 | [],_=>by
  show (ns.map fun p=>c p * 0).sum = 0
  rw [sum_congr (g:=fun _=>0) fun p _=>Int.mul_zero _,sum_zero]
 | z :: zs,h=>by
  have hz:=h z (List.mem_cons_self ..)
  have e:∀ p ∈ ns,c p * inR (z :: zs) p = (c p * pick z.b p z.x + c p * pick z.a p z.y) + c p * inR zs p:=fun p _=>by
   unfold inR
   rw [List.map_cons,List.sum_cons,Int.mul_add,Int.mul_add]
  rw [sum_congr e,sum_add,sum_add,jfw c _ _ nd hz.2,jfw c _ _ nd hz.1,jln c nd fun z hz=>h z (List.mem_cons_of_mem _ hz),List.map_cons,List.sum_cons]
structure Full (ns:List Int) (pr:Int→Int) (zs:List Tw) (fs ft:Int→Int) (SL SR:Int→Bool):Prop where
 nd:ns.Nodup
 ends:∀ z ∈ zs,z.a ∈ ns∧z.b ∈ ns
 pos:∀ z ∈ zs,0 ≤ z.x∧0 ≤ z.y
 left:∀ p ∈ ns,fs p = outL zs p
 right:∀ p ∈ ns,ft p = inR zs p
 capL:∀ p ∈ ns,0 ≤ fs p∧fs p ≤ pr p
 capR:∀ p ∈ ns,0 ≤ ft p∧ft p ≤ pr p
 satL:∀ p ∈ ns,SL p = false→fs p = pr p
 satR:∀ p ∈ ns,SR p = true→ft p = pr p
 go:∀ z ∈ zs,(SL z.a = true→SR z.b = true)∧(SL z.b = true→SR z.a = true)
 zero:∀ z ∈ zs,(SR z.b = true→SL z.a = false→z.x = 0)∧(SR z.a = true→SL z.b = false→z.y = 0)
def one (b:Bool):Int:=if b = true then 1 else 0
def halfOf (SL SR:Int→Bool) (p:Int):Int:=(1 - one (SL p)) + one (SR p)
theorem jsf (b:Bool):0 ≤ one b∧one b ≤ 1:=by cases b <;> decide
section
variable {ns:List Int} {pr:Int→Int} {zs:List Tw} {fs ft:Int→Int} {SL SR:Int→Bool}
theorem half_in (p:Int):0 ≤ halfOf SL SR p∧halfOf SL SR p ≤ 2:=by
 unfold halfOf
 have:=jsf (SL p)
 have:=jsf (SR p)
 omega
theorem Full.two (F:Full ns pr zs fs ft SL SR):∀ z ∈ zs,2 ≤ halfOf SL SR z.a + halfOf SL SR z.b:=fun z hz=>by
 obtain ⟨g1,g2⟩:=F.go z hz
 unfold halfOf one
 cases h1:SL z.a <;> cases h2:SL z.b <;> cases h3:SR z.a <;> cases h4:SR z.b <;> simp_all
theorem Full.paid (F:Full ns pr zs fs ft SL SR) {p:Int} (hp:p ∈ ns):(zs.map fun z=>pick z.a p (z.x + z.y) + pick z.b p (z.x + z.y)).sum ≤ 2 * pr p:=by
 have e:(zs.map fun z=>pick z.a p (z.x + z.y) + pick z.b p (z.x + z.y)).sum = outL zs p + inR zs p:=by
  unfold outL inR
  rw [← sum_add]
  refine sum_congr fun z _=>?_
  unfold pick
  split <;> split <;> omega
 rw [e,← F.left p hp,← F.right p hp]
 have:=F.capL p hp
 have:=F.capR p hp
 omega
theorem Full.worth (F:Full ns pr zs fs ft SL SR):(zs.map fun z=>z.x + z.y).sum = (ns.map fun p=>pr p * halfOf SL SR p).sum:=by
 have h1:(zs.map fun z=>z.x + z.y).sum = (ns.map fs).sum:=by
  have:=jfq (fun _=>1) F.nd (zs:=zs) F.ends
  rw [sum_congr (g:=fs) (fun p hp=>by rw [Int.one_mul,F.left p hp])] at this
  rw [this]
  exact sum_congr fun z _=>by rw [Int.one_mul,Int.one_mul]
 have h2:(ns.map fs).sum = (ns.map fun p=>(1 - one (SL p)) * pr p).sum + (ns.map fun p=>one (SL p) * outL zs p).sum:=by
  rw [← sum_add]
  refine sum_congr fun p hp=>?_
  cases e:SL p with
  | true=>rw [← F.left p hp]; show fs p = (1 - 1) * pr p + 1 * fs p; omega
  | false=>rw [F.satL p hp e]; show pr p = (1 - 0) * pr p + 0 * outL zs p; omega
 have h3:(ns.map fun p=>one (SL p) * outL zs p).sum = (ns.map fun p=>one (SR p) * inR zs p).sum:=by
  rw [jfq _ F.nd F.ends,jln _ F.nd F.ends]
  refine sum_congr fun z hz=>?_
  obtain ⟨g1,g2⟩:=F.go z hz
  obtain ⟨z1,z2⟩:=F.zero z hz
  have e1:one (SL z.a) * z.x = one (SR z.b) * z.x:=by
   cases h1:SL z.a with
   | true=>rw [g1 h1]
   | false =>
    cases h2:SR z.b with
    | false=>rfl
    | true=>rw [z1 h2 h1]; rfl
  have e2:one (SL z.b) * z.y = one (SR z.a) * z.y:=by
   cases h1:SL z.b with
   | true=>rw [g2 h1]
   | false =>
    cases h2:SR z.a with
    | false=>rfl
    | true=>rw [z2 h2 h1]; rfl
  rw [e1,e2]
 have h4:(ns.map fun p=>one (SR p) * inR zs p).sum = (ns.map fun p=>one (SR p) * pr p).sum:=sum_congr fun p hp=>by
  cases e:SR p with
  | true=>rw [← F.right p hp,F.satR p hp e]
  | false=>show 0 * _ = 0 * _; omega
 rw [h1,h2,h3,h4,← sum_add]
 refine sum_congr fun p _=>?_
 unfold halfOf
 rw [Int.mul_add,Int.mul_comm (pr p),Int.mul_comm (pr p)]
end
end Fl
namespace Fl
def mate (w:Nat):Nat:=if w % 2 = 0 then w + 1 else w - 1
theorem jjz (w:Nat):mate (mate w) = w:=by unfold mate; split <;> split <;> omega
theorem mate_ne (w:Nat):mate w ≠ w:=by unfold mate; split <;> omega
theorem mate_lt {w m:Nat} (h:w < 2 * m):mate w < 2 * m:=by unfold mate; split <;> omega
def at' (l:List Int) (i:Nat):Int:=l.getD i 0
theorem at_set (l:List Int) (i j:Nat) (v:Int):at' (l.set i v) j = if i = j∧j < l.length then v else at' l j:=by
 unfold at'
 rw [List.getD_eq_getElem?_getD,List.getD_eq_getElem?_getD,List.getElem?_set]
 by_cases h:i = j
 ·by_cases h2:j < l.length
  ·rw [if_pos h,if_pos (by omega),if_pos ⟨h,h2⟩]; rfl
  ·rw [if_pos h,if_neg (by omega),if_neg (fun z=>h2 z.2),List.getElem?_eq_none (by omega)]
 ·rw [if_neg h,if_neg (fun z=>h z.1)]
def bump (r:List Int) (w:Nat) (a:Int):List Int:=(r.set w (at' r w - a)).set (mate w) (at' r (mate w) + a)
theorem jix (r:List Int) (w:Nat) (a:Int):(bump r w a).length = r.length:=by unfold bump; rw [List.length_set,List.length_set]
theorem jlj {r:List Int} {w m:Nat} {a:Int} (hl:r.length = 2 * m) (hw:w < 2 * m) (j:Nat):at' (bump r w a) j = at' r j - (if j = w then a else 0) + (if j = mate w then a else 0):=by
 unfold bump
 rw [at_set,at_set]
 have hm:=mate_lt hw
 have hn:=mate_ne w
 rw [List.length_set,hl]
 by_cases h1:j = mate w
 ·subst h1
  rw [if_pos ⟨rfl,hm⟩,if_neg hn,if_pos rfl]
  omega
 ·rw [if_neg (fun z=>h1 z.1.symm),if_neg h1]
  by_cases h2:j = w
  ·subst h2
   rw [if_pos ⟨rfl,hw⟩,if_pos rfl]
   omega
  ·rw [if_neg (fun z=>h2 z.1.symm),if_neg h2]
   omega
theorem jdg {g g':Nat→Int}:∀ {m k0:Nat},k0 < m→(∀ k,k ≠ k0→g' k = g k)→((List.range m).map g').sum = ((List.range m).map g).sum + (g' k0 - g k0)
 | 0,_,h,_=>by omega
 | m + 1,k0,h,he=>by
  rw [List.range_succ,List.map_append,List.map_append,List.sum_append,List.sum_append]
  show _ + (g' m + 0) = _ + (g m + 0) + _
  by_cases c:k0 = m
  ·subst c
   have e:((List.range k0).map g').sum = ((List.range k0).map g).sum:=sum_congr fun k hk=>he k (by have:=List.mem_range.mp hk; omega)
   rw [e]
   omega
  ·rw [jdg (m:=m) (k0:=k0) (by omega) he,he m (fun z=>c z.symm)]
   omega
def ex (hs:List Int) (m:Nat) (r:List Int) (v:Int):Int:=((List.range m).map fun k=>pick (at' hs (2 * k)) v (at' r (2 * k + 1)) - pick (at' hs (2 * k + 1)) v (at' r (2 * k + 1))).sum
theorem jm8 (n v a b:Int):pick n v (a + b) = pick n v a + pick n v b:=by unfold pick; split <;> omega
theorem jm7 (n v a b:Int):pick n v (a - b) = pick n v a - pick n v b:=by unfold pick; split <;> omega
theorem ju4 {hs r:List Int} {m w:Nat} {a:Int} (hl:r.length = 2 * m) (hw:w < 2 * m) (v:Int):ex hs m (bump r w a) v = ex hs m r v + pick (at' hs w) v a - pick (at' hs (mate w)) v a:=by
 unfold ex
 have hk:w / 2 < m:=by omega
 rw [jdg (g:=fun k=>pick (at' hs (2 * k)) v (at' r (2 * k + 1)) - pick (at' hs (2 * k + 1)) v (at' r (2 * k + 1))) hk (fun k hne=>?_)]
 ·rw [jlj hl hw]
  by_cases c:w % 2 = 0
  ·have e1:mate w = w + 1:=by unfold mate; rw [if_pos c]
   have e2:2 * (w / 2) = w:=by omega
   rw [e2,e1,if_neg (by omega),if_pos rfl,Int.sub_zero,jm8,jm8]
   omega
  ·have e1:mate w = w - 1:=by unfold mate; rw [if_neg c]
   have e2:2 * (w / 2) + 1 = w:=by omega
   have e3:2 * (w / 2) = w - 1:=by omega
   rw [e2,e3,e1,if_pos rfl,if_neg (by omega),Int.add_zero,jm7,jm7]
   omega
 ·rw [jlj hl hw,if_neg (by omega),if_neg (by unfold mate; split <;> omega),Int.sub_zero,Int.add_zero]
def push (r:List Int) (tr:List Nat) (a:Int):List Int:=tr.foldl (fun r w=>bump r w a) r
theorem push_len:∀ (tr:List Nat) (r:List Int) (a:Int),(push r tr a).length = r.length
 | [],_,_=>rfl
 | w :: tr,r,a=>by
  show (push (bump r w a) tr a).length = _
  rw [push_len tr,jix]
def jru (hs:List Int):Int→List Nat→Int→Prop
 | t,[],s=>t = s
 | t,w :: tr,s=>at' hs w = t∧jru hs (at' hs (mate w)) tr s
theorem jpt {hs:List Int} {m:Nat} {a:Int} {s:Int} (v:Int):∀ {tr:List Nat} {r:List Int} {t:Int},r.length = 2 * m→(∀ w ∈ tr,w < 2 * m)→jru hs t tr s→ex hs m (push r tr a) v = ex hs m r v + pick t v a - pick s v a
 | [],r,t,_,_,h=>by
  have h:t = s:=h
  subst h
  show ex hs m r v = _
  omega
 | w :: tr,r,t,hl,hw,h=>by
  show ex hs m (push (bump r w a) tr a) v = _
  obtain ⟨h1,h2⟩:=h
  rw [jpt v (by rw [jix]; exact hl) (fun x hx=>hw x (List.mem_cons_of_mem _ hx)) h2,ju4 hl (hw w (List.mem_cons_self ..)),h1]
  omega
theorem jjv (a:Int) (n:Nat):a * ((n + 1:Nat):Int) = a * (n:Int) + a:=by rw [Int.natCast_add,Int.mul_add]; show _ + a * 1 = _; rw [Int.mul_one]
theorem ji4 {m:Nat} {a:Int} (j:Nat):∀ {tr:List Nat} {r:List Int},r.length = 2 * m→(∀ w ∈ tr,w < 2 * m)→at' (push r tr a) j = at' r j - a * (tr.count j:Int) + a * (tr.count (mate j):Int)
 | [],r,_,_=>by
  show at' r j = at' r j - a * 0 + a * 0
  omega
 | w :: tr,r,hl,hw=>by
  show at' (push (bump r w a) tr a) j = _
  have hm:(j = mate w) ↔ (w = mate j):=⟨fun z=>by rw [z,jjz],fun z=>by rw [z,jjz]⟩
  rw [ji4 j (by rw [jix]; exact hl) (fun x hx=>hw x (List.mem_cons_of_mem _ hx)),jlj hl (hw w (List.mem_cons_self ..)),List.count_cons,List.count_cons]
  by_cases c1:j = w
  ·by_cases c2:j = mate w
   ·exact absurd (c2.symm.trans c1) (mate_ne w)
   ·rw [if_pos c1,if_neg c2,if_pos (by simp [c1]),if_neg (by simp; exact fun z=>c2 (hm.mpr z)),jjv]
    simp only [Nat.add_zero]
    omega
  ·by_cases c2:j = mate w
   ·rw [if_neg c1,if_pos c2,if_neg (by simp; exact fun z=>c1 z.symm),if_pos (by simp; exact hm.mp c2),jjv]
    simp only [Nat.add_zero]
    omega
   ·rw [if_neg c1,if_neg c2,if_neg (by simp; exact fun z=>c1 z.symm),if_neg (by simp; exact fun z=>c2 (hm.mpr z))]
    simp only [Nat.add_zero]
    omega
end Fl
namespace Fl
abbrev Cb:=List (Int × Option Nat)
def seen (cb:Cb) (v:Int):Bool:=decide (v ∈ cb.map (·.1))
def visit (hs r:List Int):Cb→List Nat→Cb
 | cb,[]=>cb
 | cb,w :: ws=>visit hs r (if 0 < at' r w∧seen cb (at' hs w) = false then cb ++ [(at' hs w,some w)] else cb) ws
def sprN (wf:Int→List Nat) (hs r:List Int) (s:Int):Nat→Cb
 | 0=>[(s,none)]
 | k + 1=>match (sprN wf hs r s k)[k]? with
  | some p=>visit hs r (sprN wf hs r s k) (wf p.1)
  | none=>sprN wf hs r s k
structure Cam (hs r:List Int) (m:Nat) (s:Int) (cb:Cb):Prop where
 nd:(cb.map (·.1)).Nodup
 first:cb[0]? = some (s,none)
 came:∀ i v o,cb[i]? = some (v,o)→0 < i→∃ w,o = some w∧w < 2 * m∧0 < at' r w∧at' hs w = v∧∃ j u,j < i∧(cb[j]?.map (·.1)) = some u∧at' hs (mate w) = u
section
variable {hs r:List Int} {m:Nat} {s:Int}
theorem Cam.put {cb:Cb} (h:Cam hs r m s cb) {w:Nat} {j:Nat} {u:Int} (hw:w < 2 * m) (hp:0 < at' r w) (hn:seen cb (at' hs w) = false) (hj:(cb[j]?.map (·.1)) = some u) (hu:at' hs (mate w) = u):Cam hs r m s (cb ++ [(at' hs w,some w)]):=by
 have hlen:0 < cb.length:=by
  have:=h.first
  cases cb with
  | nil=>cases this
  | cons _ _=>simp
 have hjl:j < cb.length:=by
  cases e:cb[j]? with
  | none=>rw [e] at hj; cases hj
  | some p=>exact (List.getElem?_eq_some_iff.mp e).1
 refine ⟨?_,?_,?_⟩
 ·rw [List.map_append,List.nodup_append]
  refine ⟨h.nd,by simp,fun a ha b hb=>?_⟩
  simp at hb
  subst hb
  intro z
  subst z
  unfold seen at hn
  rw [decide_eq_false_iff_not] at hn
  exact hn ha
 ·rw [List.getElem?_append_left hlen]
  exact h.first
 ·intro i v o hi h0
  by_cases c:i < cb.length
  ·rw [List.getElem?_append_left c] at hi
   obtain ⟨w',h1,h2,h3,h4,j',u',h5,h6,h7⟩:=h.came i v o hi h0
   exact ⟨w',h1,h2,h3,h4,j',u',h5,by rw [List.getElem?_append_left (by omega)]; exact h6,h7⟩
  ·rw [List.getElem?_append_right (by omega)] at hi
   have:i - cb.length = 0:=by
    cases e:i - cb.length with
    | zero=>rfl
    | succ n=>rw [e] at hi; simp at hi
   rw [this] at hi
   simp at hi
   obtain ⟨rfl,rfl⟩:=hi
   exact ⟨w,rfl,hw,hp,rfl,j,u,by omega,by rw [List.getElem?_append_left hjl]; exact hj,hu⟩
theorem jfr:∀ {ws:List Nat} {cb:Cb} {j:Nat} {u:Int},Cam hs r m s cb→(cb[j]?.map (·.1)) = some u→(∀ w ∈ ws,w < 2 * m∧at' hs (mate w) = u)→Cam hs r m s (visit hs r cb ws)
 | [],_,_,_,h,_,_=>h
 | w :: ws,cb,j,u,h,hj,hw=>by
  unfold visit
  have h1:=hw w (List.mem_cons_self ..)
  have hjl:j < cb.length:=by
   cases e:cb[j]? with
   | none=>rw [e] at hj; cases hj
   | some p=>exact (List.getElem?_eq_some_iff.mp e).1
  split
  ·rename_i c
   exact jfr (j:=j) (u:=u) (h.put h1.1 c.1 c.2 hj h1.2) (by rw [List.getElem?_append_left hjl]; exact hj) fun x hx=>hw x (List.mem_cons_of_mem _ hx)
  ·exact jfr h hj fun x hx=>hw x (List.mem_cons_of_mem _ hx)
theorem visit_pre:∀ (ws:List Nat) (cb:Cb),∃ l,visit hs r cb ws = cb ++ l
 | [],cb=>⟨[],(List.append_nil _).symm⟩
 | w :: ws,cb=>by
  unfold visit
  split
  ·obtain ⟨l,e⟩:=visit_pre ws (cb ++ [(at' hs w,some w)])
   exact ⟨(at' hs w,some w) :: l,by rw [e,List.append_assoc]; rfl⟩
  ·exact visit_pre ws cb
theorem jj5:∀ {ws:List Nat} {cb:Cb} {w:Nat},w ∈ ws→0 < at' r w→at' hs w ∈ (visit hs r cb ws).map (·.1)
 | x :: ws,cb,w,h,hp=>by
  unfold visit
  rcases List.mem_cons.mp h with rfl | h
  ·by_cases c:seen cb (at' hs w) = false
   ·rw [if_pos ⟨hp,c⟩]
    obtain ⟨l,e⟩:=visit_pre (hs:=hs) (r:=r) ws (cb ++ [(at' hs w,some w)])
    rw [e]
    simp
   ·rw [if_neg (fun z=>c z.2)]
    obtain ⟨l,e⟩:=visit_pre (hs:=hs) (r:=r) ws cb
    rw [e,List.map_append,List.mem_append]
    left
    unfold seen at c
    simpa using c
  ·exact jj5 h hp
end
section
variable {wf:Int→List Nat} {hs r:List Int} {m:Nat} {s:Int}
theorem spr_cam (hwf:∀ u,∀ w ∈ wf u,w < 2 * m∧at' hs (mate w) = u):∀ k,Cam hs r m s (sprN wf hs r s k)
 | 0=>⟨by simp [sprN],rfl,fun i v o h h0=>by
   cases i with
   | zero=>omega
   | succ i=>simp [sprN] at h⟩
 | k + 1=>by
  unfold sprN
  have ih:=spr_cam hwf k
  split
  ·rename_i p e
   exact jfr ih (j:=k) (u:=p.1) (by rw [e]; rfl) (hwf p.1)
  ·exact ih
theorem spr_pre (k:Nat):∃ l,sprN wf hs r s (k + 1) = sprN wf hs r s k ++ l:=by
 rw [sprN]
 split
 ·exact visit_pre _ _
 ·exact ⟨[],(List.append_nil _).symm⟩
theorem spr_rest {k:Nat} (h:(sprN wf hs r s k).length ≤ k):∀ j,sprN wf hs r s (k + j) = sprN wf hs r s k
 | 0=>rfl
 | j + 1=>by
  have ih:=spr_rest h j
  show sprN wf hs r s (k + j + 1) = _
  rw [sprN,ih,List.getElem?_eq_none (by omega)]
theorem jly:∀ {k:Nat} {i:Nat} {p:Int × Option Nat} {w:Nat},i < k→(sprN wf hs r s k)[i]? = some p→w ∈ wf p.1→0 < at' r w→at' hs w ∈ (sprN wf hs r s k).map (·.1)
 | k + 1,i,p,w,hi,hp,hw,h0=>by
  obtain ⟨l,e⟩:=spr_pre (wf:=wf) (hs:=hs) (r:=r) (s:=s) k
  by_cases c:i < (sprN wf hs r s k).length
  ·rw [e,List.getElem?_append_left c] at hp
   by_cases c2:i = k
   ·subst c2
    rw [sprN,hp]
    exact jj5 hw h0
   ·rw [e,List.map_append,List.mem_append]
    left
    exact jly (by omega) hp hw h0
  ·by_cases c3:(sprN wf hs r s k).length ≤ k
   ·have:=spr_rest c3 1
    rw [this,List.getElem?_eq_none (by omega)] at hp
    cases hp
   ·omega
end
end Fl
namespace Fl
def lk (cb:Cb) (v:Int):Option Nat:=(cb.find? fun p=>decide (p.1 = v)).bind (·.2)
theorem jto {cb:Cb} (nd:(cb.map (·.1)).Nodup) {i:Nat} {v:Int} {o:Option Nat} (h:cb[i]? = some (v,o)):lk cb v = o:=by
 unfold lk
 induction cb generalizing i with
 | nil=>cases h
 | cons p cb ih =>
  rw [List.map_cons] at nd
  have nd':=List.nodup_cons.mp nd
  rw [List.find?_cons]
  cases i with
  | zero =>
   simp at h
   subst h
   simp
  | succ i =>
   simp at h
   have hm:v ∈ cb.map (·.1):=List.mem_map.mpr ⟨(v,o),List.mem_of_getElem? h,rfl⟩
   have hne:p.1 ≠ v:=fun z=>nd'.1 (z ▸ hm)
   rw [decide_eq_false hne]
   exact ih nd'.2 h
theorem jtn {cb:Cb} {v:Int} (h:v ∉ cb.map (·.1)):lk cb v = none:=by
 unfold lk
 rw [List.find?_eq_none.mpr fun p hp=>by
  rw [decide_eq_true_eq]
  exact fun z=>h (List.mem_map.mpr ⟨p,hp,z⟩)]
 rfl
def trailN (hs:List Int) (cb:Cb):Nat→Int→List Nat
 | 0,_=>[]
 | f + 1,v=>match lk cb v with
  | some w=>w :: trailN hs cb f (at' hs (mate w))
  | none=>[]
def key (cb:Cb) (i:Nat):Option Int:=cb[i]?.map (·.1)
theorem jtq {cb:Cb} (nd:(cb.map (·.1)).Nodup) {i j:Nat} {v:Int} (h1:key cb i = some v) (h2:key cb j = some v):i = j:=by
 unfold key at h1 h2
 rw [← List.getElem?_map] at h1 h2
 obtain ⟨a,b⟩:=List.getElem?_eq_some_iff.mp h1
 obtain ⟨c,d⟩:=List.getElem?_eq_some_iff.mp h2
 exact (List.getElem_inj nd).mp (b.trans d.symm)
structure Good (hs r:List Int) (m:Nat) (cb:Cb) (i:Nat) (tr:List Nat):Prop where
 up:∀ w ∈ tr,w < 2 * m∧0 < at' r w∧∃ k j,j < k∧k ≤ i∧key cb k = some (at' hs w)∧key cb j = some (at' hs (mate w))
 nd:tr.Nodup
section
variable {hs r:List Int} {m:Nat} {s:Int} {cb:Cb}
theorem jh4 (C:Cam hs r m s cb):∀ (i:Nat) (v:Int) (o:Option Nat),cb[i]? = some (v,o)→∀ f,i ≤ f→jru hs v (trailN hs cb f v) s∧Good hs r m cb i (trailN hs cb f v)∧(0 < i→trailN hs cb f v ≠ []):=by
 intro i
 induction i using Nat.strongRecOn with
 | ind i ih =>
  intro v o h f hf
  by_cases h0:i = 0
  ·subst h0
   have e:=C.first
   rw [h] at e
   have ho:o = none:=congrArg Prod.snd (Option.some.inj e)
   have hv:v = s:=congrArg Prod.fst (Option.some.inj e)
   have hl:=jto C.nd h
   rw [ho] at hl
   have ht:trailN hs cb f v = []:=by
    cases f with
    | zero=>rfl
    | succ f=>unfold trailN; rw [hl]
   rw [ht]
   exact ⟨hv,⟨(fun w hw=>by cases hw),.nil⟩,fun z=>by omega⟩
  ·obtain ⟨w,rfl,h2,h3,h4,j,u,h5,h6,h7⟩:=C.came i v o h (by omega)
   have hl:=jto C.nd h
   obtain ⟨f',rfl⟩:∃ f',f = f' + 1:=⟨f - 1,by omega⟩
   have ht:trailN hs cb (f' + 1) v = w :: trailN hs cb f' u:=by
    rw [trailN,hl]
    dsimp only
    rw [h7]
   obtain ⟨p,hp⟩:∃ p,cb[j]? = some p:=by
    cases e:cb[j]? with
    | none=>rw [e] at h6; cases h6
    | some p=>exact ⟨p,rfl⟩
   have hpu:p.1 = u:=by rw [hp] at h6; exact Option.some.inj h6
   obtain ⟨p1,p2⟩:=p
   dsimp only at hpu
   subst hpu
   obtain ⟨t1,t2,_⟩:=ih j h5 p1 p2 hp f' (by omega)
   rw [ht]
   have kv:key cb i = some v:=by unfold key; rw [h]; rfl
   refine ⟨⟨h4,by rw [h7]; exact t1⟩,⟨fun x hx=>?_,?_⟩,fun _=>by simp⟩
   ·rcases List.mem_cons.mp hx with rfl | hx
    ·exact ⟨h2,h3,i,j,h5,Nat.le_refl _,by rw [h4]; exact kv,by rw [h7]; exact h6⟩
    ·obtain ⟨a,b,k,l,c1,c2,c3,c4⟩:=t2.up x hx
     exact ⟨a,b,k,l,c1,by omega,c3,c4⟩
   ·refine List.nodup_cons.mpr ⟨fun hm=>?_,t2.nd⟩
    obtain ⟨a,b,k,l,c1,c2,c3,c4⟩:=t2.up w hm
    rw [h4] at c3
    have:=jtq C.nd kv c3
    omega
structure Rooms (m:Nat) (cap:Nat→Int) (r:List Int):Prop where
 len:r.length = 2 * m
 pos:∀ j,0 ≤ at' r j
 two:∀ k,k < m→at' r (2 * k) + at' r (2 * k + 1) = cap k
theorem jq3 {l:List Nat} (nd:l.Nodup) (j:Nat):l.count j = if j ∈ l then 1 else 0:=by
 by_cases h:j ∈ l
 ·rw [if_pos h]
  have h1:=List.nodup_iff_count.mp nd j
  have h2:=List.count_pos_iff.mpr h
  omega
 ·rw [if_neg h]; exact List.count_eq_zero.mpr h
theorem Rooms.push {cap:Nat→Int} (R:Rooms m cap r) {tr:List Nat} (nd:tr.Nodup) (hw:∀ w ∈ tr,w < 2 * m) {a:Int} (ha:0 ≤ a) (hm:∀ w ∈ tr,a ≤ at' r w):Rooms m cap (push r tr a):=by
 refine ⟨by rw [push_len]; exact R.len,fun j=>?_,fun k hk=>?_⟩
 ·rw [ji4 j R.len hw,jq3 nd j]
  have h0:0 ≤ a * (tr.count (mate j):Int):=Int.mul_nonneg ha (Int.natCast_nonneg _)
  by_cases h:j ∈ tr
  ·rw [if_pos h]
   have:=hm j h
   show 0 ≤ at' r j - a * 1 + _
   omega
  ·rw [if_neg h]
   have:=R.pos j
   show 0 ≤ at' r j - a * 0 + _
   omega
 ·rw [ji4 _ R.len hw,ji4 _ R.len hw]
  have e1:mate (2 * k) = 2 * k + 1:=by unfold mate; rw [if_pos (by omega)]
  have e2:mate (2 * k + 1) = 2 * k:=by unfold mate; rw [if_neg (by omega)]; omega
  rw [e1,e2]
  have:=R.two k hk
  omega
end
end Fl
namespace Fl
structure Net (wf:Int→List Nat) (hs:List Int) (m n:Nat):Prop where
 len:hs.length = 2 * m
 from':∀ u,∀ w ∈ wf u,w < 2 * m∧at' hs (mate w) = u
 knot:∀ w,w < 2 * m→0 ≤ at' hs w∧at' hs w < n
 all:∀ w,w < 2 * m→w ∈ wf (at' hs (mate w))
def minR (r:List Int):List Nat→Int
 | []=>0
 | [w]=>at' r w
 | w :: x :: tr=>if minR r (x :: tr) < at' r w then minR r (x :: tr) else at' r w
theorem minR_le (r:List Int):∀ {tr:List Nat} {w:Nat},w ∈ tr→minR r tr ≤ at' r w
 | [],_,h=>by cases h
 | [x],w,h=>by rw [List.mem_singleton.mp h]; exact Int.le_refl _
 | y :: x :: tr,w,h=>by
  unfold minR
  rcases List.mem_cons.mp h with rfl | h
  ·split <;> omega
  ·have:=minR_le r h
   split <;> omega
theorem jmj (r:List Int):∀ {tr:List Nat},tr ≠ []→(∀ w ∈ tr,0 < at' r w)→0 < minR r tr
 | [],h,_=>absurd rfl h
 | [x],_,h=>h x (List.mem_singleton.mpr rfl)
 | y :: x :: tr,_,h=>by
  unfold minR
  have h1:=h y (List.mem_cons_self ..)
  have h2:=jmj r (tr:=x :: tr) (by simp) fun w hw=>h w (List.mem_cons_of_mem _ hw)
  split <;> omega
section
variable (wf:Int→List Nat) (hs:List Int) (n:Nat) (s t:Int)
def cbOf (r:List Int):Cb:=sprN wf hs r s n
def trOf (r:List Int):List Nat:=trailN hs (cbOf wf hs n s r) n t
def stp (r:List Int):Option (List Int):=if trOf wf hs n s t r = [] then none else some (push r (trOf wf hs n s t r) (minR r (trOf wf hs n s t r)))
inductive Runs:List Int→List Int→Prop
 | done (r:List Int):Runs r r
 | step {r r1 r':List Int}:stp wf hs n s t r = some r1→Runs r1 r'→Runs r r'
end
section
variable {wf:Int→List Nat} {hs:List Int} {n:Nat} {s t:Int}
theorem Runs.snoc {r r' r2:List Int} (h:Runs wf hs n s t r r') (e:stp wf hs n s t r' = some r2):Runs wf hs n s t r r2:=by
 induction h with
 | done r=>exact .step e (.done _)
 | step a _ ih=>exact .step a (ih e)
theorem rest_one {r a b:List Int} (h1:Runs wf hs n s t r a) (e1:stp wf hs n s t a = none) (h2:Runs wf hs n s t r b) (e2:stp wf hs n s t b = none):a = b:=by
 induction h1 with
 | done r =>
  cases h2 with
  | done _=>rfl
  | step x _=>rw [e1] at x; cases x
 | step x _ ih =>
  cases h2 with
  | done _=>rw [e2] at x; cases x
  | step y z =>
   rw [x] at y
   cases y
   exact ih e1 z
variable {m:Nat} {r:List Int}
theorem keys_in (N:Net wf hs m n) (hs0:0 ≤ s∧s < n) (k:Nat):∀ v:Int,v ∈ (sprN wf hs r s k).map (·.1)→0 ≤ v∧v < (n:Int):=fun v hv=>by
 obtain ⟨p,hp,rfl⟩:=List.mem_map.mp hv
 obtain ⟨i,hi,e⟩:=List.mem_iff_getElem.mp hp
 have C:=spr_cam (r:=r) (s:=s) N.from' k
 have he:(sprN wf hs r s k)[i]? = some p:=by rw [List.getElem?_eq_getElem hi,e]
 cases i with
 | zero =>
  have:=C.first
  rw [he] at this
  cases this
  exact hs0
 | succ i =>
  obtain ⟨w,_,h2,_,h4,_⟩:=C.came (i + 1) p.1 p.2 he (by omega)
  rw [← h4]
  exact N.knot w h2
theorem len_le {l:List Int} (nd:l.Nodup):∀ {n:Nat},(∀ v:Int,v ∈ l→0 ≤ v∧v < (n:Int))→l.length ≤ n:=fun {n} h=>by
 have h1:(l.map Int.toNat).Nodup:=by
  unfold List.Nodup at nd ⊢
  rw [List.pairwise_map]
  exact nd.imp_of_mem fun {a b} ha hb z e=>z (by have:=h a ha; have:=h b hb; omega)
 have h2:∀ x ∈ l.map Int.toNat,x ∈ List.range n:=fun x hx=>by
  obtain ⟨v,hv,rfl⟩:=List.mem_map.mp hx
  have:=h v hv
  exact List.mem_range.mpr (by omega)
 have h3:(l.map Int.toNat).length ≤ (List.range n).length:=by
  have key:∀ (a b:List Nat),a.Nodup→(∀ x ∈ a,x ∈ b)→a.length ≤ b.length:=by
   intro a
   induction a with
   | nil=>intro b _ _; exact Nat.zero_le _
   | cons x a ih =>
    intro b nd hb
    have nd':=List.nodup_cons.mp nd
    have hx:=hb x (List.mem_cons_self ..)
    have h4:=ih (b.erase x) nd'.2 fun y hy=>(List.mem_erase_of_ne (fun z:y = x=>nd'.1 (by rw [← z]; exact hy))).mpr (hb y (List.mem_cons_of_mem _ hy))
    rw [List.length_erase_of_mem hx] at h4
    have:=List.length_pos_of_mem hx
    rw [List.length_cons]
    omega
  exact key _ _ h1 h2
 rw [List.length_map,List.length_range] at h3
 exact h3
theorem cb_len (N:Net wf hs m n) (hs0:0 ≤ s∧s < n) (k:Nat):(sprN wf hs r s k).length ≤ n:=by
 have:=len_le (spr_cam (r:=r) (s:=s) N.from' k).nd (keys_in N hs0 k)
 rw [List.length_map] at this
 exact this
theorem jkc (N:Net wf hs m n) (hs0:0 ≤ s∧s < n) {w:Nat} (hw:w < 2 * m) (h0:0 < at' r w) (hf:at' hs (mate w) ∈ (cbOf wf hs n s r).map (·.1)):at' hs w ∈ (cbOf wf hs n s r).map (·.1):=by
 obtain ⟨p,hp,e⟩:=List.mem_map.mp hf
 obtain ⟨i,hi,e2⟩:=List.mem_iff_getElem.mp hp
 have:=cb_len (r:=r) N hs0 n
 unfold cbOf at hi
 exact jly (k:=n) (i:=i) (p:=p) (by omega) (by rw [List.getElem?_eq_getElem hi]; exact congrArg some e2) (by rw [e]; exact N.all w hw) h0
theorem s_in (N:Net wf hs m n):s ∈ (cbOf wf hs n s r).map (·.1):=by
 have:=(spr_cam (r:=r) (s:=s) N.from' n).first
 exact List.mem_map.mpr ⟨_,List.mem_of_getElem? this,rfl⟩
theorem t_out (N:Net wf hs m n) (hst:s ≠ t) (hs0:0 ≤ s∧s < n) (h:stp wf hs n s t r = none):t ∉ (cbOf wf hs n s r).map (·.1):=fun ht=>by
 obtain ⟨p,hp,e⟩:=List.mem_map.mp ht
 obtain ⟨i,hi,e2⟩:=List.mem_iff_getElem.mp hp
 have C:=spr_cam (r:=r) (s:=s) N.from' n
 have he:(sprN wf hs r s n)[i]? = some (t,p.2):=by
  unfold cbOf at hi e2
  rw [List.getElem?_eq_getElem hi,e2,← e]
 have hn:trOf wf hs n s t r = []:=by
  unfold stp at h
  split at h
  ·assumption
  ·cases h
 have hl:=cb_len (r:=r) N hs0 n
 unfold cbOf at hi
 have G:=jh4 C i t p.2 he n (by omega)
 by_cases h0:i = 0
 ·subst h0
  have:=C.first
  rw [he] at this
  have:=congrArg Prod.fst (Option.some.inj this)
  exact hst this.symm
 ·exact G.2.2 (by omega) hn
end
end Fl
namespace Fl
section
variable {wf:Int→List Nat} {hs:List Int} {m n:Nat} {s t:Int} {r:List Int} {cap:Nat→Int}
theorem tr_in (N:Net wf hs m n) (hst:s ≠ t) (hs0:0 ≤ s∧s < (n:Int)) (h:trOf wf hs n s t r ≠ []):jru hs t (trOf wf hs n s t r) s∧∃ i,Good hs r m (cbOf wf hs n s r) i (trOf wf hs n s t r):=by
 have C:=spr_cam (r:=r) (s:=s) N.from' n
 by_cases ht:t ∈ (cbOf wf hs n s r).map (·.1)
 ·obtain ⟨p,hp,e⟩:=List.mem_map.mp ht
  obtain ⟨i,hi,e2⟩:=List.mem_iff_getElem.mp hp
  have he:(sprN wf hs r s n)[i]? = some (t,p.2):=by
   unfold cbOf at hi e2
   rw [List.getElem?_eq_getElem hi,e2,← e]
  have hl:=cb_len (r:=r) N hs0 n
  unfold cbOf at hi
  have G:=jh4 C i t p.2 he n (by omega)
  exact ⟨G.1,i,G.2.1⟩
 ·refine absurd ?_ h
  unfold trOf
  cases n with
  | zero=>rfl
  | succ k=>rw [trailN,jtn ht]
theorem step_keeps (N:Net wf hs m n) (hst:s ≠ t) (hs0:0 ≤ s∧s < (n:Int)) (R:Rooms m cap r) {r1:List Int} (h:stp wf hs n s t r = some r1):Rooms m cap r1∧(∀ v,v ≠ s→v ≠ t→ex hs m r1 v = ex hs m r v)∧ex hs m r t + 1 ≤ ex hs m r1 t:=by
 unfold stp at h
 split at h
 ·cases h
 ·rename_i hne
  cases h
  obtain ⟨T,i,G⟩:=tr_in N hst hs0 hne
  have hw:∀ w ∈ trOf wf hs n s t r,w < 2 * m:=fun w hw=>(G.up w hw).1
  have hp:=jmj r hne fun w hw=>(G.up w hw).2.1
  have E:=fun v=>jpt (a:=minR r (trOf wf hs n s t r)) v R.len hw T
  refine ⟨R.push G.nd hw (by omega) fun w hw=>minR_le r hw,fun v h1 h2=>?_,?_⟩
  ·rw [E v,jc2 (fun z=>h2 z.symm),jc2 (fun z=>h1 z.symm)]
   omega
  ·rw [E t,jdm,jc2 hst]
   omega
def capSum (cap:Nat→Int) (m:Nat):Int:=((List.range m).map cap).sum
theorem sum_le {α:Type} {f g:α→Int}:∀ {l:List α},(∀ p ∈ l,f p ≤ g p)→(l.map f).sum ≤ (l.map g).sum
 | [],_=>Int.le_refl _
 | a :: l,h=>by
  rw [List.map_cons,List.map_cons,List.sum_cons,List.sum_cons]
  have:=h a (List.mem_cons_self ..)
  have:=sum_le fun p hp=>h p (List.mem_cons_of_mem _ hp)
  omega
theorem ex_le (R:Rooms m cap r) (v:Int):ex hs m r v ≤ capSum cap m:=by
 unfold ex capSum
 refine sum_le fun k hk=>?_
 have h1:=R.pos (2 * k + 1)
 have h2:=R.pos (2 * k)
 have h3:=R.two k (List.mem_range.mp hk)
 unfold pick
 split <;> split <;> omega
theorem runs_keep (N:Net wf hs m n) (hst:s ≠ t) (hs0:0 ≤ s∧s < (n:Int)) {r':List Int} (h:Runs wf hs n s t r r'):Rooms m cap r→Rooms m cap r'∧∀ v,v ≠ s→v ≠ t→ex hs m r' v = ex hs m r v:=by
 induction h with
 | done r=>exact fun R=>⟨R,fun _ _ _=>rfl⟩
 | step e _ ih =>
  intro R
  obtain ⟨R1,E1,_⟩:=step_keeps N hst hs0 R e
  obtain ⟨R2,E2⟩:=ih R1
  exact ⟨R2,fun v h1 h2=>(E2 v h1 h2).trans (E1 v h1 h2)⟩
theorem jdv (N:Net wf hs m n) (hs0:0 ≤ s∧s < (n:Int)) (R:Rooms m cap r) {k:Nat} (hk:k < m) :
  (at' hs (2 * k + 1) ∈ (cbOf wf hs n s r).map (·.1)→at' hs (2 * k) ∉ (cbOf wf hs n s r).map (·.1)→at' r (2 * k + 1) = cap k) ∧
  (at' hs (2 * k) ∈ (cbOf wf hs n s r).map (·.1)→at' hs (2 * k + 1) ∉ (cbOf wf hs n s r).map (·.1)→at' r (2 * k + 1) = 0):=by
 have e1:mate (2 * k) = 2 * k + 1:=by unfold mate; rw [if_pos (by omega)]
 have e2:mate (2 * k + 1) = 2 * k:=by unfold mate; rw [if_neg (by omega)]; omega
 have h1:=R.pos (2 * k + 1)
 have h2:=R.pos (2 * k)
 have h3:=R.two k hk
 refine ⟨fun a b=>?_,fun a b=>?_⟩
 ·have:¬ 0 < at' r (2 * k):=fun z=>b (jkc N hs0 (by omega) z (by rw [e1]; exact a))
  omega
 ·have:¬ 0 < at' r (2 * k + 1):=fun z=>b (jkc N hs0 (by omega) z (by rw [e2]; exact a))
  omega
end
end Fl
namespace Fl
theorem jco (g:Nat→Int) (a:Nat):∀ b,((List.range (a + b)).map g).sum = ((List.range a).map g).sum + ((List.range b).map fun k=>g (a + k)).sum
 | 0=>by show _ = _ + 0; rw [Int.add_zero]; rfl
 | b + 1=>by
  rw [← Nat.add_assoc,List.range_succ,List.map_append,List.sum_append,jco g a b,List.range_succ,List.map_append,List.sum_append]
  show _ + (g (a + b) + 0) = _ + (_ + (g (a + b) + 0))
  omega
theorem jdh (g:Nat→Int):∀ b,((List.range (2 * b)).map g).sum = ((List.range b).map fun k=>g (2 * k) + g (2 * k + 1)).sum
 | 0=>rfl
 | b + 1=>by
  rw [show 2 * (b + 1) = 2 * b + 1 + 1 by omega,List.range_succ,List.map_append,List.sum_append,List.range_succ,List.map_append,List.sum_append,jdh g b,List.range_succ,List.map_append,List.sum_append]
  show _ + (g (2 * b) + 0) + (g (2 * b + 1) + 0) = _ + (g (2 * b) + g (2 * b + 1) + 0)
  omega
theorem jea (g:Nat→Int) {n i:Nat} (hi:i < n) (h:∀ k,k < n→k ≠ i→g k = 0):((List.range n).map g).sum = g i:=by
 have h1:((List.range n).map g).sum = ((List.range n).map fun k=>if k = i then g i else 0).sum:=sum_congr fun k hk=>by
  by_cases c:k = i
  ·rw [if_pos c,c]
  ·rw [if_neg c]; exact h k (List.mem_range.mp hk) c
 have h2:=jdg (g:=fun _=>0) (g':=fun k=>if k = i then g i else 0) hi fun k hk=>if_neg hk
 rw [h1,h2,sum_zero,if_pos rfl]
 omega
structure Dbl (ns:List Int) (ts:List (Int × Int)) (sp:Int→Int) (hs:List Int):Prop where
 nd:ns.Nodup
 spot:∀ (i:Nat) (p:Int),ns[i]? = some p→sp p = 2 + (i:Int)
 ends:∀ t ∈ ts,t.1 ∈ ns∧t.2 ∈ ns
 src:∀ i:Nat,i < ns.length→at' hs (2 * i) = 2 + (i:Int)∧at' hs (2 * i + 1) = 0
 snk:∀ i:Nat,i < ns.length→at' hs (2 * (ns.length + i)) = 1∧at' hs (2 * (ns.length + i) + 1) = 2 + (ns.length:Int) + i
 tie:∀ (j:Nat) (t:Int × Int),ts[j]? = some t→(at' hs (2 * (ns.length + ns.length + 2 * j)) = sp t.2 + ns.length∧at' hs (2 * (ns.length + ns.length + 2 * j) + 1) = sp t.1)∧(at' hs (2 * (ns.length + ns.length + (2 * j + 1))) = sp t.1 + ns.length∧at' hs (2 * (ns.length + ns.length + (2 * j + 1)) + 1) = sp t.2)
section
variable {ns:List Int} {ts:List (Int × Int)} {sp:Int→Int} {hs r:List Int}
def twAt (ns:List Int) (r:List Int) (ts:List (Int × Int)) (j:Nat):Tw:=⟨(ts.getD j (0,0)).1,(ts.getD j (0,0)).2,at' r (2 * (ns.length + ns.length + 2 * j) + 1),at' r (2 * (ns.length + ns.length + (2 * j + 1)) + 1)⟩
def twS (ns:List Int) (r:List Int) (ts:List (Int × Int)):List Tw:=(List.range ts.length).map (twAt ns r ts)
theorem getD_at {l:List (Int × Int)} {j:Nat} (h:j < l.length):l[j]? = some (l.getD j (0,0)):=by
 rw [List.getD_eq_getElem?_getD,List.getElem?_eq_getElem h]; rfl
theorem Dbl.spI (D:Dbl ns ts sp hs) {i:Nat} {p q:Int} (hp:ns[i]? = some p) (hq:q ∈ ns):sp q = 2 + (i:Int) ↔ q = p:=by
 obtain ⟨k,hk,e⟩:=List.mem_iff_getElem.mp hq
 have hk':ns[k]? = some q:=by rw [List.getElem?_eq_getElem hk,e]
 constructor
 ·intro h
  rw [D.spot k q hk'] at h
  have:k = i:=by omega
  subst this
  rw [hp] at hk'
  exact (Option.some.inj hk').symm
 ·rintro rfl
  exact D.spot i q hp
theorem Dbl.spB (D:Dbl ns ts sp hs) {q:Int} (hq:q ∈ ns):2 ≤ sp q∧sp q < 2 + (ns.length:Int):=by
 obtain ⟨k,hk,e⟩:=List.mem_iff_getElem.mp hq
 rw [D.spot k q (by rw [List.getElem?_eq_getElem hk,e])]
 omega
theorem jfi {a b c d v:Int} (h:a = b ↔ c = d):pick a b v = pick c d v:=by
 unfold pick
 by_cases x:a = b
 ·rw [if_pos x,if_pos (h.mp x)]
 ·rw [if_neg x,if_neg fun z=>x (h.mpr z)]
theorem Dbl.left (D:Dbl ns ts sp hs) {i:Nat} {p:Int} (hp:ns[i]? = some p):ex hs (ns.length + ns.length + 2 * ts.length) r (2 + (i:Int)) = at' r (2 * i + 1) - outL (twS ns r ts) p:=by
 have hi:=(List.getElem?_eq_some_iff.mp hp).1
 unfold ex
 rw [jco,jco,jdh]
 have h1:((List.range ns.length).map fun k=>pick (at' hs (2 * k)) (2 + (i:Int)) (at' r (2 * k + 1)) - pick (at' hs (2 * k + 1)) (2 + (i:Int)) (at' r (2 * k + 1))).sum = at' r (2 * i + 1):=by
  rw [jea _ hi fun k hk hne=>?_]
  ·rw [(D.src i hi).1,(D.src i hi).2,jdm,jc2 (by omega)]; omega
  ·rw [(D.src k hk).1,(D.src k hk).2,jc2 (by omega),jc2 (by omega)]; rfl
 have h2:((List.range ns.length).map fun k=>pick (at' hs (2 * (ns.length + k))) (2 + (i:Int)) (at' r (2 * (ns.length + k) + 1)) - pick (at' hs (2 * (ns.length + k) + 1)) (2 + (i:Int)) (at' r (2 * (ns.length + k) + 1))).sum = 0:=by
  rw [← sum_zero (List.range ns.length)]
  refine sum_congr fun k hk=>?_
  have hk:=List.mem_range.mp hk
  rw [(D.snk k hk).1,(D.snk k hk).2,jc2 (by omega),jc2 (by omega)]
  rfl
 rw [h1,h2]
 have h3:outL (twS ns r ts) p = ((List.range ts.length).map fun j=>pick (twAt ns r ts j).a p (twAt ns r ts j).x + pick (twAt ns r ts j).b p (twAt ns r ts j).y).sum:=by
  unfold outL twS
  rw [List.map_map]
  rfl
 have h4:∀ (l:List Nat) (f g:Nat→Int),(∀ j ∈ l,f j = - g j)→(l.map f).sum = - (l.map g).sum:=fun l f g h=>by
  induction l with
  | nil=>rfl
  | cons a l ih =>
   rw [List.map_cons,List.map_cons,List.sum_cons,List.sum_cons,h a (List.mem_cons_self ..),ih fun j hj=>h j (List.mem_cons_of_mem _ hj)]
   omega
 rw [h3,h4 _ _ (fun j=>pick (twAt ns r ts j).a p (twAt ns r ts j).x + pick (twAt ns r ts j).b p (twAt ns r ts j).y) fun j hj=>?_]
 ·omega
 ·have hj:=List.mem_range.mp hj
  have hg:=getD_at hj
  have hm:=List.mem_of_getElem? hg
  have he:=D.ends _ hm
  obtain ⟨⟨a1,a2⟩,b1,b2⟩:=D.tie j _ hg
  have l1:=D.spB he.1
  have l2:=D.spB he.2
  have n1:sp (ts.getD j (0,0)).2 + ns.length ≠ 2 + (i:Int):=by omega
  have n2:sp (ts.getD j (0,0)).1 + ns.length ≠ 2 + (i:Int):=by omega
  rw [a1,a2,b1,b2,jc2 n1,jc2 n2,jfi (D.spI hp he.1),jfi (D.spI hp he.2)]
  unfold twAt
  dsimp only
  omega
theorem Dbl.right (D:Dbl ns ts sp hs) {i:Nat} {p:Int} (hp:ns[i]? = some p):ex hs (ns.length + ns.length + 2 * ts.length) r (2 + (ns.length:Int) + i) = inR (twS ns r ts) p - at' r (2 * (ns.length + i) + 1):=by
 have hi:=(List.getElem?_eq_some_iff.mp hp).1
 unfold ex
 rw [jco,jco,jdh]
 have h1:((List.range ns.length).map fun k=>pick (at' hs (2 * k)) (2 + (ns.length:Int) + i) (at' r (2 * k + 1)) - pick (at' hs (2 * k + 1)) (2 + (ns.length:Int) + i) (at' r (2 * k + 1))).sum = 0:=by
  rw [← sum_zero (List.range ns.length)]
  refine sum_congr fun k hk=>?_
  have hk:=List.mem_range.mp hk
  rw [(D.src k hk).1,(D.src k hk).2,jc2 (by omega),jc2 (by omega)]
  rfl
 have h2:((List.range ns.length).map fun k=>pick (at' hs (2 * (ns.length + k))) (2 + (ns.length:Int) + i) (at' r (2 * (ns.length + k) + 1)) - pick (at' hs (2 * (ns.length + k) + 1)) (2 + (ns.length:Int) + i) (at' r (2 * (ns.length + k) + 1))).sum = - at' r (2 * (ns.length + i) + 1):=by
  rw [jea _ hi fun k hk hne=>?_]
  ·rw [(D.snk i hi).1,(D.snk i hi).2,jdm,jc2 (by omega)]; omega
  ·rw [(D.snk k hk).1,(D.snk k hk).2,jc2 (by omega),jc2 (by omega)]; rfl
 rw [h1,h2]
 have h3:inR (twS ns r ts) p = ((List.range ts.length).map fun j=>pick (twAt ns r ts j).b p (twAt ns r ts j).x + pick (twAt ns r ts j).a p (twAt ns r ts j).y).sum:=by
  unfold inR twS
  rw [List.map_map]
  rfl
 rw [h3,sum_congr (g:=fun j=>pick (twAt ns r ts j).b p (twAt ns r ts j).x + pick (twAt ns r ts j).a p (twAt ns r ts j).y) fun j hj=>?_]
 ·omega
 ·have hj:=List.mem_range.mp hj
  have hg:=getD_at hj
  have hm:=List.mem_of_getElem? hg
  have he:=D.ends _ hm
  obtain ⟨⟨a1,a2⟩,b1,b2⟩:=D.tie j _ hg
  have l1:=D.spB he.1
  have l2:=D.spB he.2
  have i1:sp (ts.getD j (0,0)).1 + ns.length = 2 + (ns.length:Int) + i ↔ (ts.getD j (0,0)).1 = p:=⟨fun z=>(D.spI hp he.1).mp (by omega),fun z=>by have:=(D.spI hp he.1).mpr z; omega⟩
  have i2:sp (ts.getD j (0,0)).2 + ns.length = 2 + (ns.length:Int) + i ↔ (ts.getD j (0,0)).2 = p:=⟨fun z=>(D.spI hp he.2).mp (by omega),fun z=>by have:=(D.spI hp he.2).mpr z; omega⟩
  have n1:sp (ts.getD j (0,0)).1 ≠ 2 + (ns.length:Int) + i:=by omega
  have n2:sp (ts.getD j (0,0)).2 ≠ 2 + (ns.length:Int) + i:=by omega
  rw [a1,a2,b1,b2,jfi i1,jfi i2,jc2 n1,jc2 n2]
  unfold twAt
  dsimp only
  omega
end
end Fl
namespace Fl
section
variable {ns:List Int} {ts:List (Int × Int)} {sp:Int→Int} {hs r:List Int} {wf:Int→List Nat} {pr:Int→Int} {cap:Nat→Int}
def knots (ns:List Int):Nat:=2 + (ns.length + ns.length)
def arcs (ns:List Int) (ts:List (Int × Int)):Nat:=ns.length + ns.length + 2 * ts.length
def fsOf (sp:Int→Int) (r:List Int) (p:Int):Int:=at' r (2 * (sp p - 2).toNat + 1)
def ftOf (ns:List Int) (sp:Int→Int) (r:List Int) (p:Int):Int:=at' r (2 * (ns.length + (sp p - 2).toNat) + 1)
def inS (wf:Int→List Nat) (hs:List Int) (n:Nat) (r:List Int) (v:Int):Bool:=decide (v ∈ (cbOf wf hs n 0 r).map (·.1))
structure Caps (ns:List Int) (ts:List (Int × Int)) (pr:Int→Int) (cap:Nat→Int):Prop where
 src:∀ (i:Nat) (p:Int),ns[i]? = some p→cap i = pr p
 snk:∀ (i:Nat) (p:Int),ns[i]? = some p→cap (ns.length + i) = pr p
 tie:∀ j,j < 2 * ts.length→∀ p ∈ ns,pr p < cap (ns.length + ns.length + j)
theorem le_sum {α:Type} {f:α→Int}:∀ {l:List α},(∀ p ∈ l,0 ≤ f p)→∀ p ∈ l,f p ≤ (l.map f).sum
 | [],_,p,h=>by cases h
 | a :: l,h0,p,h=>by
  rw [List.map_cons,List.sum_cons]
  have ha:=h0 a (List.mem_cons_self ..)
  have hl:0 ≤ (l.map f).sum:=by
   have:=sum_le (f:=fun _=>0) (g:=f) (l:=l) fun q hq=>h0 q (List.mem_cons_of_mem _ hq)
   rw [sum_zero] at this
   exact this
  rcases List.mem_cons.mp h with rfl | h
  ·omega
  ·have:=le_sum (fun q hq=>h0 q (List.mem_cons_of_mem _ hq)) p h
   omega
theorem ji6 {n m v:Int} (h:0 ≤ v):0 ≤ pick n m v:=by unfold pick; split <;> omega
theorem full_rest (D:Dbl ns ts sp hs) (N:Net wf hs (arcs ns ts) (knots ns)) (C:Caps ns ts pr cap) (R:Rooms (arcs ns ts) cap r) (B:∀ v,v ≠ 0→v ≠ 1→ex hs (arcs ns ts) r v = 0) (hr:stp wf hs (knots ns) 0 1 r = none) :
  Full ns pr (twS ns r ts) (fsOf sp r) (ftOf ns sp r) (fun p=>inS wf hs (knots ns) r (sp p)) (fun p=>inS wf hs (knots ns) r (sp p + ns.length)):=by
 have hs0:(0:Int) ≤ 0∧(0:Int) < (knots ns:Nat):=⟨Int.le_refl _,by unfold knots; omega⟩
 have h0:(0:Int) ∈ (cbOf wf hs (knots ns) 0 r).map (·.1):=s_in N
 have h1:(1:Int) ∉ (cbOf wf hs (knots ns) 0 r).map (·.1):=t_out N (by decide) hs0 hr
 have idx:∀ p ∈ ns,∃ i:Nat,ns[i]? = some p∧i < ns.length∧(sp p - 2).toNat = i∧sp p = 2 + (i:Int):=fun p hp=>by
  obtain ⟨k,hk,e⟩:=List.mem_iff_getElem.mp hp
  have hk':ns[k]? = some p:=by rw [List.getElem?_eq_getElem hk,e]
  have:=D.spot k p hk'
  exact ⟨k,hk',hk,by omega,this⟩
 have tw:∀ z ∈ twS ns r ts,∃ j,j < ts.length∧z = twAt ns r ts j:=fun z hz=>by
  unfold twS at hz
  obtain ⟨j,hj,e⟩:=List.mem_map.mp hz
  exact ⟨j,List.mem_range.mp hj,e.symm⟩
 have ends:∀ z ∈ twS ns r ts,z.a ∈ ns∧z.b ∈ ns:=fun z hz=>by
  obtain ⟨j,hj,rfl⟩:=tw z hz
  exact D.ends _ (List.mem_of_getElem? (getD_at hj))
 have pos:∀ z ∈ twS ns r ts,0 ≤ z.x∧0 ≤ z.y:=fun z hz=>by
  obtain ⟨j,hj,rfl⟩:=tw z hz
  exact ⟨R.pos _,R.pos _⟩
 have left:∀ p ∈ ns,fsOf sp r p = outL (twS ns r ts) p:=fun p hp=>by
  obtain ⟨i,hi,hl,e,es⟩:=idx p hp
  have:=D.left (r:=r) hi
  have hb:=B (2 + (i:Int)) (by omega) (by omega)
  unfold arcs at hb
  rw [hb] at this
  unfold fsOf
  rw [e]
  omega
 have right:∀ p ∈ ns,ftOf ns sp r p = inR (twS ns r ts) p:=fun p hp=>by
  obtain ⟨i,hi,hl,e,es⟩:=idx p hp
  have:=D.right (r:=r) hi
  have hb:=B (2 + (ns.length:Int) + i) (by omega) (by omega)
  unfold arcs at hb
  rw [hb] at this
  unfold ftOf
  rw [e]
  omega
 have capL:∀ p ∈ ns,0 ≤ fsOf sp r p∧fsOf sp r p ≤ pr p:=fun p hp=>by
  obtain ⟨i,hi,hl,e,es⟩:=idx p hp
  have h2:=R.two i (by unfold arcs; omega)
  rw [C.src i p hi] at h2
  have h3:=R.pos (2 * i)
  have h4:=R.pos (2 * i + 1)
  unfold fsOf
  rw [e]
  omega
 have capR:∀ p ∈ ns,0 ≤ ftOf ns sp r p∧ftOf ns sp r p ≤ pr p:=fun p hp=>by
  obtain ⟨i,hi,hl,e,es⟩:=idx p hp
  have h2:=R.two (ns.length + i) (by unfold arcs; omega)
  rw [C.snk i p hi] at h2
  have h3:=R.pos (2 * (ns.length + i))
  have h4:=R.pos (2 * (ns.length + i) + 1)
  unfold ftOf
  rw [e]
  omega
 have xle:∀ z ∈ twS ns r ts,z.x ≤ pr z.a∧z.y ≤ pr z.b:=fun z hz=>by
  obtain ⟨e1,e2⟩:=ends z hz
  have nn:∀ p,∀ z ∈ twS ns r ts,0 ≤ pick z.a p z.x + pick z.b p z.y:=fun p z hz=>by
   have:=ji6 (n:=z.a) (m:=p) (pos z hz).1
   have:=ji6 (n:=z.b) (m:=p) (pos z hz).2
   omega
  have a1:=le_sum (nn z.a) z hz
  have a2:=le_sum (nn z.b) z hz
  have b1:outL (twS ns r ts) z.a ≤ pr z.a:=by rw [← left z.a e1]; exact (capL z.a e1).2
  have b2:outL (twS ns r ts) z.b ≤ pr z.b:=by rw [← left z.b e2]; exact (capL z.b e2).2
  unfold outL at b1 b2
  rw [jdm] at a1 a2
  have:=ji6 (n:=z.b) (m:=z.a) (pos z hz).2
  have:=ji6 (n:=z.a) (m:=z.b) (pos z hz).1
  omega
 refine ⟨D.nd,ends,pos,left,right,capL,capR,fun p hp hS=>?_,fun p hp hS=>?_,fun z hz=>?_,fun z hz=>?_⟩
 ·obtain ⟨i,hi,hl,e,es⟩:=idx p hp
  have:=(jdv N hs0 R (k:=i) (by unfold arcs; omega)).1
  rw [(D.src i hl).1,(D.src i hl).2,C.src i p hi] at this
  unfold inS at hS
  rw [decide_eq_false_iff_not,es] at hS
  unfold fsOf
  rw [e]
  exact this h0 hS
 ·obtain ⟨i,hi,hl,e,es⟩:=idx p hp
  have:=(jdv N hs0 R (k:=ns.length + i) (by unfold arcs; omega)).1
  rw [(D.snk i hl).1,(D.snk i hl).2,C.snk i p hi] at this
  unfold inS at hS
  rw [decide_eq_true_eq,es] at hS
  unfold ftOf
  rw [e]
  exact this (by rw [show (2:Int) + ns.length + i = 2 + i + ns.length by omega]; exact hS) h1
 ·obtain ⟨x1,x2⟩:=xle z hz
  obtain ⟨e1,e2⟩:=ends z hz
  obtain ⟨j,hj,rfl⟩:=tw z hz
  obtain ⟨⟨a1,a2⟩,b1,b2⟩:=D.tie j _ (getD_at hj)
  have r1:=(jdv N hs0 R (k:=ns.length + ns.length + 2 * j) (by unfold arcs; omega)).1
  have r2:=(jdv N hs0 R (k:=ns.length + ns.length + (2 * j + 1)) (by unfold arcs; omega)).1
  rw [a1,a2] at r1
  rw [b1,b2] at r2
  have c1:=C.tie (2 * j) (by omega) _ e1
  have c2:=C.tie (2 * j + 1) (by omega) _ e2
  unfold inS
  simp only [decide_eq_true_eq]
  unfold twAt at x1 x2 c1 c2 ⊢
  dsimp only at x1 x2 c1 c2 ⊢
  refine ⟨fun h=>Classical.byContradiction fun hn=>?_,fun h=>Classical.byContradiction fun hn=>?_⟩
  ·have:=r1 h hn; omega
  ·have:=r2 h hn; omega
 ·obtain ⟨j,hj,rfl⟩:=tw z hz
  obtain ⟨⟨a1,a2⟩,b1,b2⟩:=D.tie j _ (getD_at hj)
  have r1:=(jdv N hs0 R (k:=ns.length + ns.length + 2 * j) (by unfold arcs; omega)).2
  have r2:=(jdv N hs0 R (k:=ns.length + ns.length + (2 * j + 1)) (by unfold arcs; omega)).2
  rw [a1,a2] at r1
  rw [b1,b2] at r2
  unfold inS
  simp only [decide_eq_true_eq,decide_eq_false_iff_not]
  unfold twAt
  exact ⟨r1,r2⟩
end
end Fl
namespace Fl
abbrev Arc:=Int × Int × Int
def hsA:List Arc→List Int
 | []=>[]
 | a :: r=>a.2.1 :: a.1 :: hsA r
def rmA:List Arc→List Int
 | []=>[]
 | a :: r=>a.2.2 :: 0 :: rmA r
def capA (as:List Arc) (k:Nat):Int:=(as.getD k (0,0,0)).2.2
theorem hsA_len:∀ as:List Arc,(hsA as).length = 2 * as.length
 | []=>rfl
 | a :: r=>by rw [hsA,List.length_cons,List.length_cons,hsA_len r,List.length_cons]; omega
theorem rmA_len:∀ as:List Arc,(rmA as).length = 2 * as.length
 | []=>rfl
 | a :: r=>by rw [rmA,List.length_cons,List.length_cons,rmA_len r,List.length_cons]; omega
theorem jfp (x y:Int) (l:List Int) (i:Nat):at' (x :: y :: l) (i + 2) = at' l i:=rfl
theorem jdj:∀ (as:List Arc) (i:Nat),at' (hsA as) (2 * i) = (as.getD i (0,0,0)).2.1
 | [],i=>by simp [hsA,at']
 | a :: r,0=>rfl
 | a :: r,i + 1=>by rw [show 2 * (i + 1) = 2 * i + 2 by omega,hsA,jfp,jdj r i]; rfl
theorem je5:∀ (as:List Arc) (i:Nat),at' (hsA as) (2 * i + 1) = (as.getD i (0,0,0)).1
 | [],i=>by simp [hsA,at']
 | a :: r,0=>rfl
 | a :: r,i + 1=>by rw [show 2 * (i + 1) + 1 = (2 * i + 1) + 2 by omega,hsA,jfp,je5 r i]; rfl
theorem jhw:∀ (as:List Arc) (i:Nat),at' (rmA as) (2 * i) = capA as i
 | [],i=>by simp [rmA,at',capA]
 | a :: r,0=>rfl
 | a :: r,i + 1=>by rw [show 2 * (i + 1) = 2 * i + 2 by omega,rmA,jfp,jhw r i]; rfl
theorem jhv:∀ (as:List Arc) (i:Nat),at' (rmA as) (2 * i + 1) = 0
 | [],i=>by simp [rmA,at']
 | a :: r,0=>rfl
 | a :: r,i + 1=>by rw [show 2 * (i + 1) + 1 = (2 * i + 1) + 2 by omega,rmA,jfp,jhv r i]
def wfA (as:List Arc) (u:Int):List Nat:=(List.range (2 * as.length)).filter fun w=>decide (at' (hsA as) (mate w) = u)
theorem jr9 (k:Nat):mate (2 * k) = 2 * k + 1:=by unfold mate; rw [if_pos (by omega)]
theorem jp4 (k:Nat):mate (2 * k + 1) = 2 * k:=by unfold mate; rw [if_neg (by omega)]; omega
theorem jdp {α:Type} {l:List α} {i:Nat} {a d:α} (h:l[i]? = some a):l.getD i d = a:=by
 rw [List.getD_eq_getElem?_getD,h]; rfl
theorem jip {α:Type} {l:List α} {i:Nat} (d:α) (h:i < l.length):l.getD i d ∈ l:=by
 rw [List.getD_eq_getElem?_getD,List.getElem?_eq_getElem h]
 exact List.getElem_mem h
theorem net_of {as:List Arc} {n:Nat} (h:∀ a ∈ as,(0 ≤ a.1∧a.1 < (n:Int))∧0 ≤ a.2.1∧a.2.1 < (n:Int)):Net (wfA as) (hsA as) as.length n:=by
 refine ⟨hsA_len as,fun u w hw=>?_,fun w hw=>?_,fun w hw=>?_⟩
 ·have hw:=List.mem_filter.mp hw
  exact ⟨List.mem_range.mp hw.1,of_decide_eq_true hw.2⟩
 ·by_cases c:w % 2 = 0
  ·have e:w = 2 * (w / 2):=by omega
   have hk:w / 2 < as.length:=by omega
   rw [e,jdj]
   exact (h _ (jip _ hk)).2
  ·have e:w = 2 * (w / 2) + 1:=by omega
   have hk:w / 2 < as.length:=by omega
   rw [e,je5]
   exact (h _ (jip _ hk)).1
 ·exact List.mem_filter.mpr ⟨List.mem_range.mpr hw,decide_eq_true rfl⟩
theorem rooms0 {as:List Arc} (h:∀ a ∈ as,0 ≤ a.2.2):Rooms as.length (capA as) (rmA as):=by
 refine ⟨rmA_len as,fun j=>?_,fun k hk=>?_⟩
 ·by_cases c:j % 2 = 0
  ·rw [show j = 2 * (j / 2) by omega,jhw]
   unfold capA
   by_cases hk:j / 2 < as.length
   ·exact h _ (jip _ hk)
   ·rw [List.getD_eq_getElem?_getD,List.getElem?_eq_none (by omega)]
    exact Int.le_refl _
  ·rw [show j = 2 * (j / 2) + 1 by omega,jhv]
   exact Int.le_refl _
 ·rw [jhw,jhv]; omega
theorem ex0 (as:List Arc) (hs:List Int) (m:Nat) (v:Int):ex hs m (rmA as) v = 0:=by
 unfold ex
 rw [← sum_zero (List.range m)]
 refine sum_congr fun k _=>?_
 rw [jhv]
 unfold pick
 split <;> split <;> rfl
theorem hsA_snoc:∀ (as:List Arc) (a:Arc),hsA (as ++ [a]) = hsA as ++ [a.2.1,a.1]
 | [],a=>rfl
 | b :: r,a=>by rw [List.cons_append,hsA,hsA_snoc r a,hsA]; rfl
theorem rmA_snoc:∀ (as:List Arc) (a:Arc),rmA (as ++ [a]) = rmA as ++ [a.2.2,0]
 | [],a=>rfl
 | b :: r,a=>by rw [List.cons_append,rmA,rmA_snoc r a,rmA]; rfl
theorem at_app {l l':List Int} {i:Nat} (h:i < l.length):at' (l ++ l') i = at' l i:=by
 unfold at'
 rw [List.getD_eq_getElem?_getD,List.getD_eq_getElem?_getD,List.getElem?_append_left h]
theorem wfA_snoc (as:List Arc) (a:Arc) (u:Int):wfA (as ++ [a]) u = (wfA as u ++ (if a.1 = u then [2 * as.length] else [])) ++ (if a.2.1 = u then [2 * as.length + 1] else []):=by
 unfold wfA
 rw [List.length_append,List.length_singleton,show 2 * (as.length + 1) = 2 * as.length + 1 + 1 by omega,List.range_succ,List.filter_append,List.range_succ,List.filter_append]
 have e1:at' (hsA (as ++ [a])) (mate (2 * as.length)) = a.1:=by
  rw [jr9,je5,List.getD_eq_getElem?_getD,List.getElem?_append_right (Nat.le_refl _),Nat.sub_self]; rfl
 have e2:at' (hsA (as ++ [a])) (mate (2 * as.length + 1)) = a.2.1:=by
  rw [jp4,jdj,List.getD_eq_getElem?_getD,List.getElem?_append_right (Nat.le_refl _),Nat.sub_self]; rfl
 congr 1
 ·congr 1
  ·refine List.filter_congr fun w hw=>?_
   rw [hsA_snoc,at_app]
   rw [hsA_len]
   exact mate_lt (List.mem_range.mp hw)
  ·rw [List.filter_cons,e1]
   by_cases c:a.1 = u
   ·rw [if_pos c,if_pos (decide_eq_true c)]; rfl
   ·rw [if_neg c,if_neg (by simp [c])]; rfl
 ·rw [List.filter_cons,e2]
  by_cases c:a.2.1 = u
  ·rw [if_pos c,if_pos (decide_eq_true c)]; rfl
  ·rw [if_neg c,if_neg (by simp [c])]; rfl
def tieArcs (sp:Int→Int) (n pl:Int):List (Int × Int)→List Arc
 | []=>[]
 | t :: r=>(sp t.1,sp t.2 + n,pl) :: (sp t.2,sp t.1 + n,pl) :: tieArcs sp n pl r
def arcsD (sp:Int→Int) (pl:Int) (ps ts:List (Int × Int)):List Arc:=((ps.map fun p=>((0:Int),sp p.1,p.2)) ++ ps.map fun p=>(sp p.1 + ps.length,(1:Int),p.2)) ++ tieArcs sp ps.length pl ts
theorem jfv (sp:Int→Int) (n pl:Int):∀ ts,(tieArcs sp n pl ts).length = 2 * ts.length
 | []=>rfl
 | t :: r=>by rw [tieArcs,List.length_cons,List.length_cons,jfv sp n pl r,List.length_cons]; omega
theorem jet (sp:Int→Int) (n pl:Int):∀ (ts:List (Int × Int)) (j:Nat) (t:Int × Int),ts[j]? = some t→(tieArcs sp n pl ts)[2 * j]? = some (sp t.1,sp t.2 + n,pl)∧(tieArcs sp n pl ts)[2 * j + 1]? = some (sp t.2,sp t.1 + n,pl)
 | [],j,t,h=>by simp at h
 | u :: r,0,t,h=>by cases h; exact ⟨rfl,rfl⟩
 | u :: r,j + 1,t,h=>by
  obtain ⟨a,b⟩:=jet sp n pl r j t (by simpa using h)
  rw [tieArcs,show 2 * (j + 1) = 2 * j + 1 + 1 by omega,show 2 * j + 1 + 1 + 1 = (2 * j + 1) + 1 + 1 by omega]
  exact ⟨by rw [List.getElem?_cons_succ,List.getElem?_cons_succ]; exact a,by rw [List.getElem?_cons_succ,List.getElem?_cons_succ]; exact b⟩
theorem arcsD_len (sp:Int→Int) (pl:Int) (ps ts:List (Int × Int)):(arcsD sp pl ps ts).length = ps.length + ps.length + 2 * ts.length:=by
 unfold arcsD
 rw [List.length_append,List.length_append,List.length_map,List.length_map,jfv]
section
variable {sp:Int→Int} {pl:Int} {ps ts:List (Int × Int)}
theorem jki {i:Nat} {p:Int × Int} (h:ps[i]? = some p):(arcsD sp pl ps ts)[i]? = some (0,sp p.1,p.2):=by
 have hi:=(List.getElem?_eq_some_iff.mp h).1
 unfold arcsD
 rw [List.getElem?_append_left (by rw [List.length_append,List.length_map,List.length_map]; omega),List.getElem?_append_left (by rw [List.length_map]; exact hi),List.getElem?_map,h]
 rfl
theorem jkj {i:Nat} {p:Int × Int} (h:ps[i]? = some p):(arcsD sp pl ps ts)[ps.length + i]? = some (sp p.1 + ps.length,1,p.2):=by
 have hi:=(List.getElem?_eq_some_iff.mp h).1
 unfold arcsD
 rw [List.getElem?_append_left (by rw [List.length_append,List.length_map,List.length_map]; omega),List.getElem?_append_right (by rw [List.length_map]; omega),List.length_map,Nat.add_sub_cancel_left,List.getElem?_map,h]
 rfl
theorem jeo {j:Nat} (k:Nat):(arcsD sp pl ps ts)[ps.length + ps.length + k]? = (tieArcs sp ps.length pl ts)[k]?:=by
 unfold arcsD
 rw [List.getElem?_append_right (by rw [List.length_append,List.length_map,List.length_map]; omega)]
 congr 1
 rw [List.length_append,List.length_map,List.length_map]
 omega
theorem dbl_of (nd:(ps.map (·.1)).Nodup) (hsp:∀ (i:Nat) (p:Int),(ps.map (·.1))[i]? = some p→sp p = 2 + (i:Int)) (hen:∀ t ∈ ts,t.1 ∈ ps.map (·.1)∧t.2 ∈ ps.map (·.1)):Dbl (ps.map (·.1)) ts sp (hsA (arcsD sp pl ps ts)):=by
 have get:∀ i,i < ps.length→∃ p,ps[i]? = some p∧sp p.1 = 2 + (i:Int):=fun i hi=>by
  refine ⟨ps[i],List.getElem?_eq_getElem hi,hsp i _ ?_⟩
  rw [List.getElem?_map,List.getElem?_eq_getElem hi]; rfl
 refine ⟨nd,hsp,hen,fun i hi=>?_,fun i hi=>?_,fun j t hj=>?_⟩
 ·rw [List.length_map] at hi
  obtain ⟨p,hp,e⟩:=get i hi
  rw [jdj,je5,jdp (jki hp)]
  exact ⟨e,rfl⟩
 ·rw [List.length_map] at hi
  obtain ⟨p,hp,e⟩:=get i hi
  rw [List.length_map,jdj,je5,jdp (jkj hp)]
  exact ⟨rfl,by dsimp only; rw [e]; omega⟩
 ·obtain ⟨a,b⟩:=jet sp ps.length pl ts j t hj
  rw [List.length_map,jdj,je5,jdj,je5,jdp ((jeo (j:=0) (2 * j)).trans a),jdp ((jeo (j:=0) (2 * j + 1)).trans b)]
  exact ⟨⟨rfl,rfl⟩,rfl,rfl⟩
theorem caps_of {pr:Int→Int} (hpr:∀ p ∈ ps,pr p.1 = p.2) (hpl:∀ p ∈ ps,p.2 < pl):Caps (ps.map (·.1)) ts pr (capA (arcsD sp pl ps ts)):=by
 have get:∀ (i:Nat) (p:Int),(ps.map (·.1))[i]? = some p→∃ q,ps[i]? = some q∧q.1 = p:=fun i p h=>by
  rw [List.getElem?_map] at h
  cases e:ps[i]? with
  | none=>rw [e] at h; cases h
  | some q=>rw [e] at h; exact ⟨q,rfl,Option.some.inj h⟩
 refine ⟨fun i p h=>?_,fun i p h=>?_,fun j hj p hp=>?_⟩
 ·obtain ⟨q,hq,rfl⟩:=get i p h
  unfold capA
  rw [jdp (jki hq),hpr q (List.mem_of_getElem? hq)]
 ·obtain ⟨q,hq,rfl⟩:=get i p h
  unfold capA
  rw [List.length_map,jdp (jkj hq),hpr q (List.mem_of_getElem? hq)]
 ·obtain ⟨q,hq,rfl⟩:=List.mem_map.mp hp
  have hk:j / 2 < ts.length:=by omega
  have hg:ts[j / 2]? = some ts[j / 2]:=List.getElem?_eq_getElem hk
  obtain ⟨a,b⟩:=jet sp ps.length pl ts (j / 2) _ hg
  unfold capA
  rw [List.length_map,hpr q hq]
  by_cases c:j % 2 = 0
  ·rw [show j = 2 * (j / 2) by omega,jdp ((jeo (j:=0) _).trans a)]
   exact hpl q hq
  ·rw [show j = 2 * (j / 2) + 1 by omega,jdp ((jeo (j:=0) _).trans b)]
   exact hpl q hq
theorem arcsD_ok (hsp:∀ p ∈ ps.map (·.1),2 ≤ sp p∧sp p < 2 + (ps.length:Int)) (hen:∀ t ∈ ts,t.1 ∈ ps.map (·.1)∧t.2 ∈ ps.map (·.1)) (hpp:∀ p ∈ ps,0 ≤ p.2) (hpl:0 ≤ pl):∀ a ∈ arcsD sp pl ps ts,((0 ≤ a.1∧a.1 < ((2 + (ps.length + ps.length):Nat):Int))∧0 ≤ a.2.1∧a.2.1 < ((2 + (ps.length + ps.length):Nat):Int))∧0 ≤ a.2.2:=fun a ha=>by
 unfold arcsD at ha
 have tie:∀ {us:List (Int × Int)},(∀ t ∈ us,t.1 ∈ ps.map (·.1)∧t.2 ∈ ps.map (·.1))→a ∈ tieArcs sp ps.length pl us→((0 ≤ a.1∧a.1 < ((2 + (ps.length + ps.length):Nat):Int))∧0 ≤ a.2.1∧a.2.1 < ((2 + (ps.length + ps.length):Nat):Int))∧0 ≤ a.2.2:=fun {us}=>by
  induction us with
  | nil=>intro _ h; cases h
  | cons u r ih =>
   intro he h
   have h1:=hsp _ (he u (.head _)).1
   have h2:=hsp _ (he u (.head _)).2
   rcases List.mem_cons.mp h with rfl | h
   ·dsimp only; omega
   ·rcases List.mem_cons.mp h with rfl | h
    ·dsimp only; omega
    ·exact ih (fun t ht=>he t (.tail _ ht)) h
 rcases List.mem_append.mp ha with ha | ha
 ·rcases List.mem_append.mp ha with ha | ha
  ·obtain ⟨p,hp,rfl⟩:=List.mem_map.mp ha
   have:=hsp p.1 (List.mem_map_of_mem hp)
   have:=hpp p hp
   dsimp only
   omega
  ·obtain ⟨p,hp,rfl⟩:=List.mem_map.mp ha
   have:=hsp p.1 (List.mem_map_of_mem hp)
   have:=hpp p hp
   dsimp only
   omega
 ·exact tie hen ha
end
end Fl
namespace L2
open PySem PySem.Spec PyProof.Rows
end L2
namespace L2
open PySem PySem.Spec PyProof.Rows
section
variable {prog:Program} {w:World} {A:Around} {R:Result→Shared→Prop} {I:Addr} {fp wr:List Addr} {n:Nat} {P:Nat→Value→Prop} {St:Nat→Heap→Prop}
def jkk (val:Nat→Int) (n:Nat) (m:Int):Prop:=(∃ i,i < n∧m = val i)∧∀ i,i < n→m ≤ val i
theorem jkk.up {val:Nat→Int} {j:Nat} {m:Int} (h:jkk val j m) (hb:val j < m):jkk val (j + 1) (val j) :=
 ⟨⟨j,Nat.lt_succ_self _,rfl⟩,fun i hi=>by
  rcases Nat.lt_succ_iff_lt_or_eq.mp hi with z | z
  ·have:=h.2 i z; omega
  ·rw [z]; exact Int.le_refl _⟩
theorem jkk.keep {val:Nat→Int} {j:Nat} {m:Int} (h:jkk val j m) (hb:¬ val j < m):jkk val (j + 1) m :=
 ⟨let ⟨i,hi,e⟩:=h.1; ⟨i,Nat.lt_succ_of_lt hi,e⟩,fun i hi=>by
  rcases Nat.lt_succ_iff_lt_or_eq.mp hi with z | z
  ·exact h.2 i z
  ·rw [z]; omega⟩
theorem jfk:(toString "min" ++ toString ".loop":String) = "min.loop":=by decide
theorem jl8 (W:Walks prog w A.in1 I fp wr n P St) (val:Nat→Int) (hval:∀ i v,P i v→∃ t:Tok,v = Value.int (val i) t) (kw:List (Str × Value)) (S:Addr) (hSf:S ∉ fp) :
  ∀ (k j:Nat) (s:Shared) (m:Int) (t:Tok) (c:Nat),n - j = k→j ≤ n→St j s.heap→jkk val j m →
  s.heap.get? S = some { cls:=.type "list",dict:=none,data:=.seq #[.int m t,.int m t] c,slots:=#[] } →
  (∀ m' t' h' tk,jkk val n m'→(∀ b o,b ∉ wr→b ≠ S→s.heap.get? b = some o→h'.get? b = some o)→R (.ok (.ret (.int m' t'))) { s with heap:=h',toks:=tk }) →
  codeAny (model prog w) A (.builtin "min.loop" ⟨[.ref I,.none,.ref S],kw⟩) R s:=by
 have hSw:S ∉ wr:=fun z=>hSf (W.sub _ z)
 intro k
 induction k with
 | zero =>
  intro j s m t c hk hj hst hb hS hR
  have hin:j = n:=by omega
  subst hin
  refine codeAny_builtin PySem.F.entry_min_loop ?_
  rw [Around.under_plainId PySem.F.plain_min_loop _]
  show wpAny _ A.in1 (seqItems? (.ref S) >>= _) _ _ s
  refine wpAny_bind (wpAny_seqItems hS rfl ?_)
  show wpAny _ A.in1 (tryCatch (pyNext (.ref I)) _ >>= _) _ _ s
  refine wpAny_bind (wpAny_tryCatch (W.done s _ _ hst fun h' tk kp=>?_))
  have hS':=kp S _ hSw hS
  show wpAny _ A.in1 (updateSeq S (fun _=>#[]) >>= _) _ _ _
  refine wpAny_bind ?_
  refine wpAny_updateSeq hS' rfl (wpAny_bind (wpAny_letGo (wpAny_pure ?_)))
  exact hR m t _ tk hb fun b o hbw hbS e=>(Heap.get?_update_other _ _ (Ne.symm hbS)).trans (kp b o hbw e)
 | succ k ih =>
  intro j s m t c hk hj hst hb hS hR
  have hlt:j < n:=by omega
  refine codeAny_builtin PySem.F.entry_min_loop ?_
  rw [Around.under_plainId PySem.F.plain_min_loop _]
  show wpAny _ A.in1 (seqItems? (.ref S) >>= _) _ _ s
  refine wpAny_bind (wpAny_seqItems hS rfl ?_)
  show wpAny _ A.in1 (tryCatch (pyNext (.ref I)) _ >>= _) _ _ s
  refine wpAny_bind (wpAny_tryCatch (W.item j s _ _ hlt hst fun v h' tk hP hst' kp=>?_))
  obtain ⟨t',rfl⟩:=hval j v hP
  have hS':=kp S _ hSw hS
  show wpAny _ A.in1 (tryCatch (holding [.int (val j) t',.int (val j) t'] (richCompare .Lt (.int (val j) t') (.int m t) >>= _)) _ >>= _) _ _ _
  refine wpAny_bind (wpAny_tryCatch (wpAny_holding (wpAny_bind (lt_int ?_))))
  refine wpAny_bind (wpAny_holding (wpAny_truthy_bool ?_))
  refine wpAny_bind (wpAny_letGo (wpAny_pure ?_))
  by_cases hc:val j < m
  ·rw [decide_eq_true (show val j < m from hc)]
   simp only [if_true]
   refine wpAny_bind ?_
   refine wpAny_updateSeq hS' rfl (wpAny_bind (wpAny_letGo ?_))
   rw [jfk]
   refine wpAny_pure ⟨plainId_quiet PySem.F.plain_min_loop _,ih (j + 1) _ (val j) t' _ (by omega) hlt (W.frame _ _ _ hst' fun b hbf o e=>?_) (hb.up hc) (Heap.get?_update_self _ hS' rfl) fun m' u h'' tk'' hB k''=>?_⟩
   ·exact (Heap.get?_update_other _ _ (fun z:S = b=>hSf (by rw [z]; exact hbf))).trans e
   ·exact hR m' u h'' tk'' hB fun b o hbw hbS e=>k'' b o hbw hbS ((Heap.get?_update_other _ _ (Ne.symm hbS)).trans (kp b o hbw e))
  ·rw [decide_eq_false (show ¬ val j < m from hc)]
   simp only [Bool.false_eq_true,if_false]
   refine wpAny_bind (wpAny_letGo ?_)
   rw [jfk]
   refine wpAny_pure ⟨plainId_quiet PySem.F.plain_min_loop _,ih (j + 1) _ m t c (by omega) hlt hst' (hb.keep hc) hS' fun m' u h'' tk'' hB k''=>?_⟩
   exact hR m' u h'' tk'' hB fun b o hbw hbS e=>k'' b o hbw hbS (kp b o hbw e)
end
section
variable {X:Cx}
end
end L2
namespace L2
open PySem PySem.Spec PyProof.Rows
section
variable {X:Cx}
theorem jll (a:Value):argsOk "min" ⟨[a],[]⟩:=by unfold argsOk; kernel_rfl
def rMinN:List V→Hp→VK→Prop:=fun vs H Q=>∃ (p:Addr) (ns:List Int),vs = [.ref p]∧H p = some (.lst (ns.map V.int))∧ns ≠ [] ∧
 ∀ m,m ∈ ns→(∀ x ∈ ns,m ≤ x)→Q (.int m) H
theorem jq5 (hc:X.calm = true):jcr X (.builtin "min") rMinN:=by
 intro pins s σ H xs us Q I r h
 obtain ⟨p,ns,rfl,e,hne,q⟩:=h
 obtain ⟨u,rfl,rx⟩:=jgt r
 cases rx
 obtain ⟨z,its,c,r',hlen,e'⟩:=I.lstM e
 have hI:=jdd r'
 have plt:p < s.heap.objs.size:=Heap.lt_size e'
 have hL:s.heap.IsList p its.toArray:=⟨_,e',rfl,_,rfl⟩
 refine call_function_tree PySem.F.kind_min PySem.F.plain_min PySem.F.entry_min (jll _) ?_
 show wpAny _ X.A.in1 (Builtin.Builtins.bindParams "min" ["key","default"] 0 ⟨[],[]⟩ >>= _) _ _ s
 refine wpAny_bind (wpAny_of_eq (show Builtin.Builtins.bindParams "min" ["key","default"] 0 ⟨[],[]⟩ = pure [none,none] from rfl) ?_)
 refine wpAny_bind (wpAny_pure ?_)
 refine wpAny_bind (wpAny_pyIter_list hL ?_)
 refine wpAny_bind (wpAny_newList ?_ (Nat.zero_le _))
 rw [jfk]
 have hS:(s.heap.push { cls:=.type "list_iterator",data:=.fields #[.ref p,.int 0 0] }).objs.size = s.heap.objs.size + 1:=size_push' ..
 have W:=Walks.list (prog:=X.prog) (w:=X.w) (A:=X.A.in1) (show X.A.in1.handled = none from I.ok.hd hc) s.heap.objs.size p (Nat.ne_of_lt plt) its.toArray
 have hsz:its.toArray.size = ns.length:=by rw [List.size_toArray,← hlen,List.length_map]
 have hval:∀ (i:Nat) (v:Value),its.toArray[i]? = some v→∃ t:Tok,v = Value.int (ns[i]?.getD 0) t:=fun i v hv=>by
  have hv':its[i]? = some v:=by simpa using hv
  have hi:i < ns.length:=by
   have:=(List.getElem?_eq_some_iff.mp hv').1
   rw [List.length_map] at hlen
   omega
  obtain ⟨u,e1,t,e2⟩:=r'.get (i:=i) (x:=.int ns[i]) (by rw [List.getElem?_map,List.getElem?_eq_getElem hi]; rfl)
  rw [hv'] at e1
  cases e1
  exact ⟨t,by rw [e2,List.getElem?_eq_getElem hi]; rfl⟩
 have kp0:∀ (h':Heap) (tk:Nat),(∀ b o,b ∉ [s.heap.objs.size]→b ≠ (s.heap.push { cls:=.type "list_iterator",data:=.fields #[.ref p,.int 0 0] }).objs.size→((s.heap.push { cls:=.type "list_iterator",data:=.fields #[.ref p,.int 0 0] }).push { cls:=.type "list",data:=.seq #[] }).get? b = some o→h'.get? b = some o) →
   Inv X pins σ H { s with heap:=h',toks:=tk }:=fun h' tk k=>I.kept fun b o qq=>k b o (by
    intro z
    have:b = s.heap.objs.size:=by simpa using z
    exact absurd (Heap.lt_size qq) (by rw [this]; exact Nat.lt_irrefl _)) (by rw [hS]; exact Nat.ne_of_lt (Nat.lt_succ_of_lt (Heap.lt_size qq))) (Heap.get?_push_of_some _ (Heap.get?_push_of_some _ qq))
 have hst0:(fun i (h:Heap)=>h.IsListIter s.heap.objs.size p i∧h.IsList p its.toArray) 0 ((s.heap.push { cls:=.type "list_iterator",data:=.fields #[.ref p,.int 0 0] }).push { cls:=.type "list",data:=.seq #[] }) :=
  ⟨⟨_,Heap.get?_push_of_some _ (Heap.get?_push_size _ rfl),rfl,rfl⟩,(hL.push _).push _⟩
 have hSg:((s.heap.push { cls:=.type "list_iterator",data:=.fields #[.ref p,.int 0 0] }).push { cls:=.type "list",data:=.seq #[] }).get? (s.heap.push { cls:=.type "list_iterator",data:=.fields #[.ref p,.int 0 0] }).objs.size = some { cls:=.type "list",dict:=none,data:=.seq #[] 0,slots:=#[] }:=Heap.get?_push_size _ rfl
 have hSf:(s.heap.push { cls:=.type "list_iterator",data:=.fields #[.ref p,.int 0 0] }).objs.size ∉ [s.heap.objs.size,p]:=by
  rw [hS]
  intro z
  rcases List.mem_cons.mp z with z | z
  ·exact absurd z (Nat.succ_ne_self _)
  ·have z:=List.mem_singleton.mp z
   rw [← z] at plt
   exact Nat.lt_irrefl _ (Nat.lt_of_succ_lt plt)
 refine wpAny_pure ⟨plainId_quiet PySem.F.plain_min_loop _,?_⟩
 refine codeAny_builtin PySem.F.entry_min_loop ?_
 rw [Around.under_plainId PySem.F.plain_min_loop _]
 show wpAny _ X.A.in1 (seqItems? (.ref _) >>= _) _ _ _
 refine wpAny_bind (wpAny_seqItems hSg rfl ?_)
 show wpAny _ X.A.in1 (tryCatch (pyNext (.ref s.heap.objs.size)) _ >>= _) _ _ _
 cases hn:ns with
 | nil=>exact absurd hn hne
 | cons n0 rest =>
  have hpos:0 < its.toArray.size:=by rw [hsz,hn]; simp
  refine wpAny_bind (wpAny_tryCatch (W.item 0 _ _ _ hpos hst0 fun v h' tk hP hst' kp=>?_))
  obtain ⟨t',rfl⟩:=hval 0 v hP
  have hS':=kp _ _ (fun z=>hSf (List.mem_cons.mpr (.inl (List.mem_singleton.mp z)))) hSg
  show wpAny _ X.A.in1 (updateSeq _ (fun _=>#[_,_]) >>= _) _ _ _
  refine wpAny_bind ?_
  refine wpAny_updateSeq hS' rfl ?_
  rw [jfk]
  refine wpAny_pure ⟨plainId_quiet PySem.F.plain_min_loop _,jl8 W (fun i=>ns[i]?.getD 0) hval _ _ hSf _ 1 _ _ t' _ rfl hpos (W.frame _ _ _ hst' fun b hbf o e=>?_) ⟨⟨0,Nat.one_pos,rfl⟩,fun i hi=>by
   have:i = 0:=by omega
   subst this; exact Int.le_refl _⟩ (Heap.get?_update_self _ hS' rfl) fun m u h'' tk'' hB k''=>?_⟩
  ·exact (Heap.get?_update_other _ _ (fun z=>hSf (by rw [z]; exact hbf))).trans e
  ·refine ⟨.int m,H,kp0 h'' tk'' fun b o h1 h2 h3=>k'' b o h1 h2 ((Heap.get?_update_other _ _ (Ne.symm h2)).trans (kp b o h1 h3)),⟨u,rfl⟩,q m ?_ fun x hx=>?_⟩
   ·obtain ⟨i,hi,e1⟩:=hB.1
    rw [hsz] at hi
    rw [e1]
    show ns[i]?.getD 0 ∈ ns
    rw [List.getElem?_eq_getElem hi]
    exact List.getElem_mem hi
   ·obtain ⟨i,hi,e1⟩:=List.mem_iff_getElem.mp hx
    have:m ≤ ns[i]?.getD 0:=hB.2 i (by rw [hsz]; exact hi)
    rw [List.getElem?_eq_getElem hi] at this
    rw [← e1]
    exact this
end
end L2
local macro_rules | `(tactic| walk_at "ND") => `(tactic| try simp only [L2.fIsB,L2.tSeq,L2.jau,L2.jav,L2.tRet,L2.jb0,L2.tIfS,L2.tAsg,L2.jak,L2.fAug,L2.tOp,L2.tUn,L2.tC,L2.fVar,L2.fI,L2.fIC,L2.fNeg,L2.fEq,L2.fNe,L2.fIsN,L2.jal,L2.fAnd,L2.fOr,L2.fNot,L2.fB,L2.tNot,L2.tAnd,L2.tOr,L2.jab,L2.fIx,L2.fLen,L2.ja2,L2.fMin,L2.fMax,L2.fInL,L2.fSlL,L2.tSl,L2.jax,L2.ja4,L2.ja3,L2.fBM,L2.jao,L2.gSub,L2.jar,L2.ja6,L2.jaq,L2.jb4,L2.jaa,L2.ja9,L2.ja8,L2.fCat,L2.jae,L2.fBM0,L2.fSlT,L2.jap,L2.tCBK,L2.fDIn,L2.jaz,L2.fIsi,L2.jaf,L2.ja7,L2.fLtT,L2.jaw,L2.tCB,L2.jam,L2.tNil,L2.tTup,L2.tLst,L2.tIf,L2.jat,L2.Kd.nm,L2.start,List.map_cons,List.map_nil,List.length_cons,List.length_nil,Nat.reduceAdd,Nat.reduceSub,List.replicate_succ,List.replicate_zero,List.getElem?_cons_zero,List.getElem?_cons_succ,List.set_cons_zero,List.set_cons_succ,List.append_nil,List.nil_append,List.cons_append,eq_self,true_and,and_true,if_true,Bool.false_eq_true,if_false,Bool.not_true,Bool.not_false,id_eq,My.sl0,My.sl1,My.sl2,My.sl3,My.sl4,L2.jb5,L2.jb2,L2.jb1,L2.fAlt,L2.jb7,L2.jac,L2.jad,L2.jb3,L2.jay,L2.jb6,L2.jan,L2.fFld,L2.fXor])
local macro_rules | `(tactic| simp_all_arith [$args,*]) => `(tactic| try simp only [L2.fIsB,L2.tSeq,L2.jau,L2.jav,L2.tRet,L2.jb0,L2.tIfS,L2.tAsg,L2.jak,L2.fAug,L2.tOp,L2.tUn,L2.tC,L2.fVar,L2.fI,L2.fIC,L2.fNeg,L2.fEq,L2.fNe,L2.fIsN,L2.jal,L2.fAnd,L2.fOr,L2.fNot,L2.fB,L2.tNot,L2.tAnd,L2.tOr,L2.jab,L2.fIx,L2.fLen,L2.ja2,L2.fMin,L2.fMax,L2.fInL,L2.fSlL,L2.tSl,L2.jax,L2.ja4,L2.ja3,L2.fBM,L2.jao,L2.gSub,L2.jar,L2.ja6,L2.jaq,L2.jb4,L2.jaa,L2.ja9,L2.ja8,L2.fCat,L2.jae,L2.fBM0,L2.fSlT,L2.jap,L2.tCBK,L2.fDIn,L2.jaz,L2.fIsi,L2.jaf,L2.ja7,L2.fLtT,L2.jaw,L2.tCB,L2.jam,L2.tNil,L2.tTup,L2.tLst,L2.tIf,L2.jat,L2.Kd.nm,L2.start,List.map_cons,List.map_nil,List.length_cons,List.length_nil,Nat.reduceAdd,Nat.reduceSub,List.replicate_succ,List.replicate_zero,List.getElem?_cons_zero,List.getElem?_cons_succ,List.set_cons_zero,List.set_cons_succ,List.append_nil,List.nil_append,List.cons_append,eq_self,true_and,and_true,if_true,Bool.false_eq_true,if_false,Bool.not_true,Bool.not_false,id_eq,My.sl0,My.sl1,My.sl2,My.sl3,My.sl4,L2.jb5,L2.jb2,L2.jb1,L2.fAlt,L2.jb7,L2.jac,L2.jad,L2.jb3,L2.jay,L2.jb6,L2.jan,L2.fFld,L2.fXor,$args,*])
namespace My
open PySem L2
section
variable {P:Program} {w:World} {K:PySem.W.Frag} {mg:Str→Option Value} {base:Heap} {c1 c2 c3 c4:Tok} {C_Net C_NoWeb f_NoWeb:Addr} {dI:FuncData}
def ju9:Stmt→List Stmt
 | .ClassDef _ _ _ b _ _ _ _ _ _ _=>b
 | _=>[]
def meth (i j:Nat):Stmt:=(ju9 (top i)).getD j (.Pass ⟨0,0,0,0⟩)
structure MthAt (K:PySem.W.Frag) (C:Addr) (x qual:Str) (st:Stmt) (ps:List Str) (f:Addr) (fd:FuncData):Prop where
 F:Fun K x qual st f fd
 b:jer K fd ps []
 m:Meth K C x f
structure NetC (K:PySem.W.Frag) (mg:Str→Option Value) (C:Addr):Prop where
 cl:Cls K C
 n_ways_from:jeq K C "ways_from"
 n_heads:jeq K C "heads"
 n_rooms:jeq K C "rooms"
 m:mg "Net" = some (.ref C)
def netO (C dx W Hd R:Addr):HO:=.ins C dx [("ways_from",.ref W),("heads",.ref Hd),("rooms",.ref R)]
section
variable {C dx W Hd R:Addr}
theorem fld_w:jir C (some (netO C dx W Hd R)) "ways_from" = some (.ref W):=by unfold jir netO; dsimp only; rw [if_pos rfl]; rfl
theorem jrk:jir C (some (netO C dx W Hd R)) "heads" = some (.ref Hd):=by unfold jir netO; dsimp only; rw [if_pos rfl]; rfl
theorem jng:jir C (some (netO C dx W Hd R)) "rooms" = some (.ref R):=by unfold jir netO; dsimp only; rw [if_pos rfl]; rfl
theorem jl4 {m:Str} (h:(m == ("ways_from":Str)) = false) (h2:(m == ("heads":Str)) = false) (h3:(m == ("rooms":Str)) = false):jfe C (some (netO C dx W Hd R)) m = true:=by
 unfold jfe netO
 simp only [decide_true,Bool.true_and,List.lookup_cons,h,h2,h3,List.lookup_nil,Option.isNone_none]
theorem jgb:jfe C (some (netO C dx W Hd R)) "put_way" = true:=jl4 rfl rfl rfl
theorem jhc:jfe C (some (netO C dx W Hd R)) "spread" = true:=jl4 rfl rfl rfl
theorem jfb:jfe C (some (netO C dx W Hd R)) "shortest" = true:=jl4 rfl rfl rfl
theorem jr6:jfe C (some (netO C dx W Hd R)) "push" = true:=jl4 rfl rfl rfl
theorem jr7:jfe C (some (netO C dx W Hd R)) "fill" = true:=jl4 rfl rfl rfl
theorem jp2:jfe C (some (netO C dx W Hd R)) "flows" = true:=jl4 rfl rfl rfl
theorem jl3:jfe C (some (netO C dx W Hd R)) "reached_from" = true:=jl4 rfl rfl rfl
end
def nv (ws:List Nat):List V:=ws.map fun w:Nat=>V.int (w:Int)
def NtS (C:Addr) (H:Hp) (p R:Addr) (wf:Int→List Nat) (hs:List Int) (n:Nat):Prop:=∃ (dx W Hd:Addr) (ls:List Addr),H p = some (netO C dx W Hd R)∧H W = some (.lst (ls.map V.ref))∧ls.length = n∧(∀ (i:Nat) (a:Addr),ls[i]? = some a→H a = some (.lst (nv (wf (i:Int))))∧a ≠ R)∧H Hd = some (.lst (hs.map V.int))∧W ≠ R∧Hd ≠ R∧p ≠ R
theorem NtS.but {C:Addr} {H H':Hp} {p R:Addr} {wf:Int→List Nat} {hs:List Int} {n:Nat} (h:NtS C H p R wf hs n) (s:But R H H'):NtS C H' p R wf hs n:=by
 obtain ⟨dx,W,Hd,ls,e1,e2,e3,e4,e5,n1,n2,n3⟩:=h
 exact ⟨dx,W,Hd,ls,s _ _ n3 e1,s _ _ n1 e2,e3,fun i a ha=>⟨s _ _ (e4 i a ha).2 (e4 i a ha).1,(e4 i a ha).2⟩,s _ _ n2 e5,n1,n2,n3⟩
theorem NtS.same {C:Addr} {H H':Hp} {p R:Addr} {wf:Int→List Nat} {hs:List Int} {n:Nat} (h:NtS C H p R wf hs n) (s:Same H H'):NtS C H' p R wf hs n:=h.but fun b o _ q=>s b o q
theorem jhj {l:List Int} {w:Nat} (h:w < l.length):atI (l.map V.int) (w:Int) = some (.int (Fl.at' l w)):=by
 refine jdc ?_
 rw [List.getElem?_map,List.getElem?_eq_getElem h]
 unfold Fl.at'
 rw [List.getD_eq_getElem?_getD,List.getElem?_eq_getElem h]
 rfl
theorem jsm {l:List Addr} {i:Nat} {a:Addr} (h:l[i]? = some a):atI (l.map V.ref) (i:Int) = some (.ref a):=by
 refine jdc ?_
 rw [List.getElem?_map,h]
 rfl
def oV:Option Nat→V
 | none=>.non
 | some w=>.int (w:Int)
def cbK (cb:Fl.Cb):List (Key × V):=cb.map fun p=>(Sum.inl p.1,oV p.2)
theorem jiw:∀ (cb:Fl.Cb) (v:Int),(valV (cbK cb) (Sum.inl v:Key)).isSome = Fl.seen cb v
 | [],v=>rfl
 | p :: r,v=>by
  have ih:=jiw r v
  unfold cbK valV Fl.seen at ih ⊢
  rw [List.map_cons,List.find?_cons]
  by_cases c:p.1 = v
  ·dsimp only
   rw [decide_eq_true (show (Sum.inl p.1:Key) = Sum.inl v from congrArg Sum.inl c)]
   dsimp only
   rw [decide_eq_true (by rw [List.map_cons,c]; exact List.mem_cons_self)]
   rfl
  ·dsimp only
   rw [decide_eq_false (fun z:(Sum.inl p.1:Key) = Sum.inl v=>c (Sum.inl.inj z))]
   dsimp only
   rw [ih,List.map_cons]
   congr 1
   simp only [List.mem_cons,eq_iff_iff]
   exact ⟨fun z=>.inr z,fun z=>z.resolve_left fun e=>c e.symm⟩
theorem jq4:∀ (cb:Fl.Cb) (v:Int),(valV (cbK cb) (Sum.inl v:Key)).getD .non = oV (Fl.lk cb v)
 | [],v=>rfl
 | p :: r,v=>by
  have ih:=jq4 r v
  unfold cbK valV Fl.lk at ih ⊢
  rw [List.map_cons,List.find?_cons,List.find?_cons]
  by_cases c:p.1 = v
  ·dsimp only
   rw [decide_eq_true (show (Sum.inl p.1:Key) = Sum.inl v from congrArg Sum.inl c),decide_eq_true c]
   rfl
  ·dsimp only
   rw [decide_eq_false (fun z:(Sum.inl p.1:Key) = Sum.inl v=>c (Sum.inl.inj z)),decide_eq_false c]
   dsimp only
   exact ih
theorem jub {cb:Fl.Cb} {v:Int} {w:Nat} (h:Fl.seen cb v = false):putK (cbK cb) (Sum.inl v:Key) (.int (w:Int)) = cbK (cb ++ [(v,some w)]):=by
 rw [ji3]
 ·unfold cbK
  rw [List.map_append]
  rfl
 ·rw [← jiw] at h
  cases e:valV (cbK cb) (Sum.inl v:Key) with
  | none=>rfl
  | some x=>rw [e] at h; cases h
theorem jfs (hs r:List Int):∀ (a b:List Nat) (cb:Fl.Cb),Fl.visit hs r cb (a ++ b) = Fl.visit hs r (Fl.visit hs r cb a) b
 | [],b,cb=>rfl
 | w :: a,b,cb=>by
  rw [List.cons_append,Fl.visit,Fl.visit]
  exact jfs hs r a b _
theorem jqe (hs r:List Int) (ws:List Nat) (i:Nat) (cb:Fl.Cb):(Fl.visit hs r cb (ws.take i)).length ≤ (Fl.visit hs r cb ws).length:=by
 have e:Fl.visit hs r cb ws = Fl.visit hs r (Fl.visit hs r cb (ws.take i)) (ws.drop i):=by rw [← jfs,List.take_append_drop]
 obtain ⟨l,e2⟩:=Fl.visit_pre (hs:=hs) (r:=r) (ws.drop i) (Fl.visit hs r cb (ws.take i))
 rw [e,e2,List.length_append]
 omega
structure Nt (C:Addr) (H:Hp) (p R:Addr) (wf:Int→List Nat) (hs:List Int) (m n:Nat) (r:List Int):Prop where
 st:NtS C H p R wf hs n
 eR:H R = some (.lst (r.map V.int))
 net:Fl.Net wf hs m n
 len:r.length = 2 * m
 big:2 * m ≤ 1000
 n200:n ≤ 200
theorem Nt.same {C:Addr} {H H':Hp} {p R:Addr} {wf:Int→List Nat} {hs:List Int} {m n:Nat} {r:List Int} (h:Nt C H p R wf hs m n r) (s:Same H H'):Nt C H' p R wf hs m n r:=⟨h.st.same s,s _ _ h.eR,h.net,h.len,h.big,h.n200⟩
def jhr (C:Addr):Sp:=fun vs H Q _=>∃ p s R wf hs m n r,vs = [.ref p,.int s]∧Nt C H p R wf hs m n r∧0 ≤ s∧s < (n:Int)∧∀ d H',H d = none→Same H H'→H' d = some (.dK (cbK (Fl.cbOf wf hs n s r)))→Q (.ref d) H'
def jk3 (cb:Fl.Cb):List V:=cb.map fun p=>V.int p.1
theorem jox {f:Addr} {fd:FuncData}  (B:Blt mg) (D:MthAt K C_Net "spread" "Net.spread" (meth 5 4) ["self","source"] f fd) (T:NetC K mg C_Net):FnOk P w K mg base CX0 1 f fd ["self","source"] (jhr C_Net):=by
 have sc:FnScope ["self","source","came_by","line","done","knot","way","head"] ["self","source"] (jba (meth 5 4)):=⟨rfl,rfl,rfl,by decide +kernel,rfl,by decide +kernel,by decide +kernel⟩
 refine D.F.ok sc (fun vs H Q E h=>?_) (fun cdv A outer s H vs Q E hr h=>?_)
 ·obtain ⟨p,s,R,wf,hs,m,n,r,rfl,_⟩:=h
  rfl
 obtain ⟨p,s,R,wf,hs,m,n,r,rfl,N,s0,s1,h⟩:=h
 have hu:=jc7 hr
 have hu0:_ < PySem.cLine:=Nat.lt_of_succ_lt hu
 refine ⟨_,(jah (jbf (i:=2) sc.nd rfl (Or.inl rfl) (jr2 (qv 1) jsc)) (jah (jbf (i:=3) sc.nd rfl (Or.inl rfl) (jcf (ja0 (qv 1) jai))) (jah (jbf (i:=4) sc.nd rfl (Or.inl rfl) jaj) (jah (jfh PassesOwn.never (jd7 q_lt (qv 4) (jbk ji0 rfl B.len PySem.boot_len (ja0 (qv 3) jai)) (jcc _)) (jah (jbf (i:=5) sc.nd rfl (Or.inl rfl) (jbl q_ix (qv 3) (qv 4) (fun _ _=>rfl))) (jah (jd8 PassesOwn.never rfl (jbr (jbl q_ix (jcz T.cl T.n_ways_from (qv 0) rfl) (qv 5) (fun _ _=>rfl))) (jbb (i:=6) sc.nd rfl (Or.inl rfl)) (jah (jbf (i:=7) sc.nd rfl (Or.inl rfl) (jbl q_ix (jcz T.cl T.n_heads (qv 0) rfl) (qv 6) (fun _ _=>rfl))) (jb9 (jdz (PW.pt (pw_and (jd7 q_gt (jbl q_ix (jcz T.cl T.n_rooms (qv 0) rfl) (qv 6) (fun _ _=>rfl)) jaj (jcc _)) (jt5 (jqs (jm4 hu (qv 7) (qv 2)))))) (jah (jh8 hu (qv 2) (qv 7) (qv 6)) (jb9 (jc1 (q_bm PySem.F.plainAttrs_list PySem.F.slot_list_append PySem.F.type_list_append jch (qv 3) (ja0 (qv 7) jai))))) jcd)))) (jb9 (jjk (i:=4) sc.nd rfl (Or.inl rfl) jaj jm2))))) (jb9 (jbq (qv 2))))))),?_⟩
 have N0:=N
 obtain ⟨⟨dx,W,Hd,ls,e1,e2,e3,e4,e5,n1,n2,n3⟩,eR,net,hlen,hbig,hn⟩:=N
 refine jb8 fun R' hR=>?_
 walk_at "ND"
 intro d hd
 have q1:=jag hd (.dK [(Sum.inl s,.non)])
 have ed:upd H d (.dK [(Sum.inl s,.non)]) d = some (.dK [(Sum.inl s,.non)]):=ja1
 generalize upd H d (.dK [(Sum.inl s,.non)]) = H1 at q1 ed
 subst hR
 refine jb8 fun R' hR=>?_
 walk_at "ND"
 intro l hl
 have q2:=q1.trans (jag hl (.lst [.int s]))
 have ed2:=jag hl (.lst [.int s]) _ _ ed
 have el:upd H1 l (.lst [.int s]) l = some (.lst [.int s]):=ja1
 have ld:l ≠ d:=(ja5 ed hl).symm
 have hlH:H l = none:=q1.free hl
 generalize upd H1 l (.lst [.int s]) = H2 at q2 ed2 el
 subst hR
 refine jb8 fun R' hR=>?_
 walk_at "ND"
 subst hR
 refine jb8 fun R' hR=>?_
 refine jff (fun σ Hc=>∃ (k:Nat) (v5 v6 v7:Option V),σ = [some (.ref p),some (.int s),some (.ref d),some (.ref l),some (.int (k:Int)),v5,v6,v7]∧Same H Hc∧Hc d = some (.dK (cbK (Fl.sprN wf hs r s k)))∧Hc l = some (.lst (jk3 (Fl.sprN wf hs r s k)))∧k ≤ (Fl.sprN wf hs r s k).length) (fun σ _=>match σ with | [_,_,_,_,some (.int k),_,_,_]=>n - k.toNat | _=>0) ⟨0,none,none,none,rfl,q2,ed2,el,Nat.zero_le _⟩ ?_ ?_
 ·rintro σ Hc ⟨k,v5,v6,v7,rfl,s3,ed3,el3,hk⟩
  have hkl:=Fl.cb_len (r:=r) net ⟨s0,s1⟩ k
  have hlk:(jk3 (Fl.sprN wf hs r s k)).length = (Fl.sprN wf hs r s k).length:=List.length_map _
  by_cases c:k < (Fl.sprN wf hs r s k).length
  ·have hdt:decide ((k:Int) < ((Fl.sprN wf hs r s k).length:Int)) = true:=decide_eq_true (by omega)
   have hg:(Fl.sprN wf hs r s k)[k]? = some (Fl.sprN wf hs r s k)[k]:=List.getElem?_eq_getElem c
   generalize hpk:(Fl.sprN wf hs r s k)[k] = pk at hg
   have hgl:atI (jk3 (Fl.sprN wf hs r s k)) (k:Int) = some (.int pk.1):=jdc (by unfold jk3; rw [List.getElem?_map,hg]; rfl)
   simp_all_arith [jbo,el3,hlk,hdt,hgl]
   have hkn:=Fl.keys_in (r:=r) net ⟨s0,s1⟩ k pk.1 (List.mem_map.mpr ⟨_,List.mem_of_getElem? hg,rfl⟩)
   have hi:pk.1.toNat < ls.length:=by omega
   have hla:ls[pk.1.toNat]? = some ls[pk.1.toNat]:=List.getElem?_eq_getElem hi
   generalize ls[pk.1.toNat] = wa at hla
   have ewa:=(e4 _ _ hla).1
   rw [show ((pk.1.toNat:Nat):Int) = pk.1 by omega] at ewa
   have hwa:atI (ls.map V.ref) pk.1 = some (.ref wa):=by have:=jsm hla; rw [show ((pk.1.toNat:Nat):Int) = pk.1 by omega] at this; exact this
   have hnext:Fl.sprN wf hs r s (k + 1) = Fl.visit hs r (Fl.sprN wf hs r s k) (wf pk.1):=by rw [Fl.sprN,hg]
   have hkl2:=Fl.cb_len (r:=r) net ⟨s0,s1⟩ (k + 1)
   rw [hnext] at hkl2
   generalize hcb:Fl.sprN wf hs r s k = cb at *
   refine jce (Itl K wa) Hc (fun R3 hR3=>?_) (jcv (K:=K) (a:=wa) (xs:=nv (wf pk.1)) (fun i σ H4=>∃ v6 v7,σ = [some (.ref p),some (.int s),some (.ref d),some (.ref l),some (.int (k:Int)),some (.int pk.1),v6,v7]∧Same H H4∧H4 d = some (.dK (cbK (Fl.visit hs r cb ((wf pk.1).take i))))∧H4 l = some (.lst (jk3 (Fl.visit hs r cb ((wf pk.1).take i))))) ⟨v6,v7,rfl,s3,ed3,el3⟩ (fun i σ H4 _ ⟨_,_,_,s4,_⟩=>SqL.of (s4 _ _ ewa)) ?_ ?_)
   ·unfold jcs
    simp_all_arith [jbo,s3 _ _ e1,fld_w,s3 _ _ e2,hwa]
    exact ⟨wa,rfl,⟨_,SqL.of (s3 _ _ ewa)⟩,hR3⟩
   ·rintro i x σ H4 hx ⟨v6,v7,rfl,s4,ed4,el4⟩
    unfold nv at hx
    rw [List.getElem?_map] at hx
    obtain ⟨w,hw,rfl⟩:=Option.map_eq_some_iff.mp hx
    have hwm:=net.from' pk.1 w (List.mem_of_getElem? hw)
    have hh:atI (hs.map V.int) (w:Int) = some (.int (Fl.at' hs w)):=jhj (by rw [net.len]; exact hwm.1)
    have hr':atI (r.map V.int) (w:Int) = some (.int (Fl.at' r w)):=jhj (by rw [hlen]; exact hwm.1)
    have hv1:Fl.visit hs r cb ((wf pk.1).take (i + 1)) = if 0 < Fl.at' r w∧Fl.seen (Fl.visit hs r cb ((wf pk.1).take i)) (Fl.at' hs w) = false then Fl.visit hs r cb ((wf pk.1).take i) ++ [(Fl.at' hs w,some w)] else Fl.visit hs r cb ((wf pk.1).take i):=by
     rw [jbj hw,jfs]
     rfl
    have hvl:=jqe hs r (wf pk.1) i cb
    generalize Fl.visit hs r cb ((wf pk.1).take i) = cb1 at *
    simp_all_arith [jbo,s4 _ _ e1,jrk,jng,s4 _ _ e5,hh,s4 _ _ eR,hr',ed4,jiw]
    by_cases c1:0 < Fl.at' r w
    ·rw [decide_eq_true c1,if_pos rfl]
     cases c2:Fl.seen cb1 (Fl.at' hs w) with
     | true =>
      walk_at "ND"
      rw [if_neg (fun z=>by rw [c2] at z; cases z.2)] at hv1
      rw [hv1]
      exact ⟨_,_,rfl,s4,(by first | rfl | exact ed4),el4⟩
     | false =>
      rw [if_pos ⟨c1,c2⟩] at hv1
      simp_all_arith [jub c2]
      have hcl:(cbK cb1).length = cb1.length:=List.length_map _
      refine ⟨szl' (by omega),?_⟩
      have el5:upd H4 d (.dK (cbK (cb1 ++ [(Fl.at' hs w,some w)]))) l = some (.lst (jk3 cb1)):=by rw [jas ld]; exact el4
      refine ⟨⟨l,_,rfl,el5⟩,?_⟩
      rw [el5]
      dsimp only
      have hcl2:(jk3 cb1).length = cb1.length:=List.length_map _
      refine ⟨szl' (by omega),_,_,rfl,jbh (jbh s4 hd) hlH,?_,?_⟩
      ·rw [jas (Ne.symm ld),ja1,hv1]
      ·rw [ja1,hv1]
       unfold jk3
       rw [List.map_append]
       rfl
    ·rw [decide_eq_false c1,if_neg (by decide)]
     rw [if_neg (fun z=>c1 z.1)] at hv1
     rw [hv1]
     exact ⟨_,_,rfl,s4,(by first | rfl | exact ed4),el4⟩
   ·rintro σ H4 ⟨v6,v7,rfl,s4,ed4,el4⟩
    have htl:(wf pk.1).take (nv (wf pk.1)).length = wf pk.1:=by unfold nv; rw [List.length_map,List.take_length]
    rw [htl,← hnext] at ed4 el4
    walk_at "ND"
    refine ⟨⟨k + 1,_,_,_,by rw [show ((k + 1:Nat):Int) = (k:Int) + 1 by omega],s4,ed4,el4,?_⟩,?_⟩
    ·obtain ⟨z,hz⟩:=Fl.spr_pre (wf:=wf) (hs:=hs) (r:=r) (s:=s) k
     rw [hz,hcb,List.length_append]
     omega
    ·omega
  ·have hdt:decide ((k:Int) < ((Fl.sprN wf hs r s k).length:Int)) = false:=decide_eq_false (by omega)
   simp_all_arith [jbo,el3,hlk,hdt]
   subst hR
   walk_at "ND"
   have hfin:Fl.cbOf wf hs n s r = Fl.sprN wf hs r s k:=by
    unfold Fl.cbOf
    rw [show n = k + (n - k) by omega]
    exact Fl.spr_rest (by omega) _
   exact h d Hc hd s3 (by rw [hfin]; exact ed3)
 ·intro σ Hc Q1 Q2 hq hc
  unfold fB tOp tCB jam tNil fVar at hc ⊢
  cases e:σ[4]? with
  | none=>rw [e] at hc; exact hc.elim
  | some ov =>
   rw [e] at hc
   cases ov with
   | none=>exact hc.elim
   | some u =>
    dsimp only [fLen,fI,tC] at hc ⊢
    cases e3:σ[3]? with
    | none=>rw [e3] at hc; exact hc.elim
    | some ov3 =>
     rw [e3] at hc
     cases ov3 with
     | none=>exact hc.elim
     | some u3 =>
      dsimp only at hc ⊢
      cases u3 with
      | ref b =>
       dsimp only at hc ⊢
       cases e2:jbo Hc b with
       | none=>rw [e2] at hc; exact hc.elim
       | some us =>
        rw [e2] at hc
        dsimp only at hc ⊢
        cases u with
        | int i=>exact hq _ _ hc
        | _=>exact hc.elim
      | _=>exact hc.elim
end
end My
namespace Fl
section
variable {hs r:List Int} {m:Nat} {s:Int} {cb:Cb}
theorem jtm {v:Int} {w:Nat} (h:lk cb v = some w):∃ i:Nat,cb[i]? = some (v,some w):=by
 unfold lk at h
 cases e:cb.find? fun p=>decide (p.1 = v) with
 | none=>rw [e] at h; cases h
 | some p =>
  rw [e] at h
  have hp:=List.mem_of_find?_eq_some e
  have hv:p.1 = v:=by have:=List.find?_some e; exact of_decide_eq_true (p:=p.1 = v) this
  obtain ⟨i,hi,e2⟩:=List.mem_iff_getElem.mp hp
  refine ⟨i,?_⟩
  rw [List.getElem?_eq_getElem hi,e2]
  obtain ⟨a,b⟩:=p
  dsimp only at hv
  have h:b = some w:=h
  rw [hv,h]
theorem jmu (C:Cam hs r m s cb):∀ (i:Nat) (v:Int) (o:Option Nat),cb[i]? = some (v,o)→∀ f,i ≤ f→trailN hs cb (f + 1) v = trailN hs cb f v:=by
 intro i
 induction i using Nat.strongRecOn with
 | ind i ih =>
  intro v o h f hf
  have hl:=jto C.nd h
  by_cases h0:i = 0
  ·subst h0
   have e:=C.first
   rw [h] at e
   have ho:o = none:=congrArg Prod.snd (Option.some.inj e)
   rw [ho] at hl
   rw [trailN,hl]
   cases f with
   | zero=>rfl
   | succ f=>rw [trailN,hl]
  ·obtain ⟨w,rfl,h2,h3,h4,j,u,h5,h6,h7⟩:=C.came i v o h (by omega)
   obtain ⟨f',rfl⟩:∃ f',f = f' + 1:=⟨f - 1,by omega⟩
   obtain ⟨p,hp⟩:∃ p,cb[j]? = some p:=by
    cases e:cb[j]? with
    | none=>rw [e] at h6; cases h6
    | some p=>exact ⟨p,rfl⟩
   have hpu:p.1 = u:=by rw [hp] at h6; exact Option.some.inj h6
   obtain ⟨p1,p2⟩:=p
   dsimp only at hpu
   subst hpu
   have e1:trailN hs cb (f' + 1 + 1) v = w :: trailN hs cb (f' + 1) p1:=by
    rw [trailN,hl]; dsimp only; rw [h7]
   have e2:trailN hs cb (f' + 1) v = w :: trailN hs cb f' p1:=by
    rw [trailN,hl]; dsimp only; rw [h7]
   rw [e1,e2,ih j h5 p1 p2 hp f' (by omega)]
theorem trail_next (C:Cam hs r m s cb) {n:Nat} (hn:cb.length ≤ n) {v:Int} {w:Nat} (h:lk cb v = some w):trailN hs cb n v = w :: trailN hs cb n (at' hs (mate w))∧w < 2 * m:=by
 obtain ⟨i,hi⟩:=jtm h
 have hil:=(List.getElem?_eq_some_iff.mp hi).1
 have h0:0 < i:=by
  by_cases z:i = 0
  ·subst z
   have e:=C.first
   rw [hi] at e
   have:=congrArg Prod.snd (Option.some.inj e)
   cases this
  ·omega
 obtain ⟨w',hw',h2,h3,h4,j,u,h5,h6,h7⟩:=C.came i v _ hi h0
 cases hw'
 obtain ⟨p,hp⟩:∃ p,cb[j]? = some p:=by
  cases e:cb[j]? with
  | none=>rw [e] at h6; cases h6
  | some p=>exact ⟨p,rfl⟩
 have hpu:p.1 = u:=by rw [hp] at h6; exact Option.some.inj h6
 obtain ⟨f',rfl⟩:∃ f',n = f' + 1:=⟨n - 1,by omega⟩
 refine ⟨?_,h2⟩
 rw [trailN,h]
 dsimp only
 rw [h7,← hpu,jmu C j p.1 p.2 hp f' (by omega)]
theorem trail_end {v:Int} {n:Nat} (h:lk cb v = none):trailN hs cb n v = []:=by
 cases n with
 | zero=>rfl
 | succ n=>rw [trailN,h]
theorem trail_len:∀ (n:Nat) (v:Int),(trailN hs cb n v).length ≤ n
 | 0,_=>Nat.le_refl _
 | n + 1,v=>by
  rw [trailN]
  split
  ·have:=trail_len n (at' hs (mate ‹Nat›))
   rw [List.length_cons]; omega
  ·exact Nat.zero_le _
theorem minR_mem (r:List Int):∀ {tr:List Nat},tr ≠ []→minR r tr ∈ tr.map (at' r)
 | [],h=>absurd rfl h
 | [w],_=>List.mem_singleton.mpr rfl
 | w :: x :: tr,_=>by
  rw [minR]
  split
  ·exact List.mem_cons_of_mem _ (minR_mem r (tr:=x :: tr) (by simp))
  ·exact List.mem_cons_self
theorem push_snoc (r:List Int) (tr:List Nat) (w:Nat) (a:Int):push r (tr ++ [w]) a = bump (push r tr a) w a:=by
 unfold push
 rw [List.foldl_append]
 rfl
end
end Fl
namespace My
open PySem L2
section
variable {P:Program} {w:World} {K:PySem.W.Frag} {mg:Str→Option Value} {base:Heap} {c1 c2 c3 c4:Tok} {C_Net C_NoWeb f_NoWeb:Addr} {dI:FuncData}
def jo6 (C:Addr):Sp:=fun vs H Q _=>∃ p s t R wf hs m n r,vs = [.ref p,.int s,.int t]∧Nt C H p R wf hs m n r∧0 ≤ s∧s < (n:Int)∧∀ l H',H l = none→Same H H'→H' l = some (.lst (nv (Fl.trOf wf hs n s t r)))→Q (.ref l) H'
def js0 (C:Addr):Sp:=fun vs H Q _=>∃ p l R wf hs m n r tr,vs = [.ref p,.ref l]∧Nt C H p R wf hs m n r∧H l = some (.lst (nv tr))∧l ≠ R∧tr ≠ []∧tr.length ≤ 200∧(∀ w ∈ tr,w < 2 * m)∧∀ H',But R H H'→H' R = some (.lst ((Fl.push r tr (Fl.minR r tr)).map V.int))→Q (.int (Fl.minR r tr)) H'
def js6 (C:Addr):Sp:=fun vs H Q _=>∃ p s t R wf hs m n r cap,vs = [.ref p,.int s,.int t]∧Nt C H p R wf hs m n r∧s ≠ t∧0 ≤ s∧s < (n:Int)∧Fl.Rooms m cap r∧∀ x r' H',Fl.Runs wf hs n s t r r'→Fl.stp wf hs n s t r' = none→But R H H'→H' R = some (.lst (r'.map V.int))→Q (.int x) H'
theorem oV_isN (o:Option Nat):jal (oV o) = o.isNone:=by cases o <;> rfl
theorem jlq (w:Nat):PySem.Builtin.bitXor (w:Int) 1 = ((Fl.mate w:Nat):Int):=jsn w
def unI (xs:List V):List Int:=xs.map fun x=>match x with
 | .int i=>i
 | _=>0
theorem jnv (r:List Int):unI (r.map V.int) = r:=by
 unfold unI
 rw [List.map_map]
 exact List.map_id _
theorem jpg {n w:Nat} (h:w < n):ixN n (w:Int) = some w:=by
 unfold ixN
 rw [if_pos (by omega),if_pos (by omega)]
 rfl
theorem Nt.but {C:Addr} {H H':Hp} {p R:Addr} {wf:Int→List Nat} {hs:List Int} {m n:Nat} {r r':List Int} (h:Nt C H p R wf hs m n r) (s:But R H H') (e:H' R = some (.lst (r'.map V.int))) (hl:r'.length = 2 * m):Nt C H' p R wf hs m n r':=⟨h.st.but s,e,h.net,hl,h.big,h.n200⟩
theorem jua {cb:Fl.Cb} {v:Int} {w:Nat} (h:Fl.lk cb v = some w):valV (cbK cb) (Sum.inl v:Key) = some (.int (w:Int)):=by
 have:=jq4 cb v
 rw [h] at this
 cases e:valV (cbK cb) (Sum.inl v:Key) with
 | none=>rw [e] at this; cases this
 | some x=>rw [e] at this; exact congrArg some this
theorem jkw {f:Addr} {fd:FuncData} {f_spread:Addr} {d_spread:FuncData} (B:Blt mg) (D:MthAt K C_Net "shortest" "Net.shortest" (meth 5 3) ["self","source","sink"] f fd) (D_spread:MthAt K C_Net "spread" "Net.spread" (meth 5 4) ["self","source"] f_spread d_spread) (G_spread:FnOk P w K mg base CX0 1 f_spread d_spread ["self","source"] (jhr C_Net)) (T:NetC K mg C_Net):FnOk P w K mg base CX0 2 f fd ["self","source","sink"] (jo6 C_Net):=by
 have sc:FnScope ["self","source","sink","came_by","trail","knot"] ["self","source","sink"] (jba (meth 5 3)):=⟨rfl,rfl,rfl,by decide +kernel,rfl,by decide +kernel,by decide +kernel⟩
 refine D.F.ok sc (fun vs H Q E h=>?_) (fun cdv A outer s H vs Q E hr h=>?_)
 ·obtain ⟨p,s,t,R,wf,hs,m,n,r,rfl,_⟩:=h
  rfl
 obtain ⟨p,s,t,R,wf,hs,m,n,r,rfl,N,s0,s1,h⟩:=h
 have hu:=jc7 hr
 have hu0:_ < PySem.cLine:=Nat.lt_of_succ_lt hu
 refine ⟨_,(jah (jbf (i:=3) sc.nd rfl (Or.inl rfl) (jd4 (qv 0) T.cl D_spread.m G_spread (hr.mono (by decide)) D_spread.b .nil jbs (ja0 (qv 1) jai))) (jah (jbf (i:=4) sc.nd rfl (Or.inl rfl) (jcf jai)) (jah (jbf (i:=5) sc.nd rfl (Or.inl rfl) (qv 2)) (jah (jfh PassesOwn.never (jd7 q_notN (jt4 hu (qv 3) (qv 5)) jsc (jcc _)) (jah (jc1 (q_bm PySem.F.plainAttrs_list PySem.F.slot_list_append PySem.F.type_list_append jch (qv 4) (ja0 (jd2 hu (qv 3) (qv 5) (fun _ _=>rfl)) jai))) (jb9 (jbf (i:=5) sc.nd rfl (Or.inl rfl) (jbl q_ix (jcz T.cl T.n_heads (qv 0) rfl) (jbw q_xor (jd2 hu (qv 3) (qv 5) (fun _ _=>rfl)) jaj) (fun _ _=>rfl)))))) (jb9 (jbq (qv 4))))))),?_⟩
 have N0:=N
 obtain ⟨⟨dx,W,Hd,ls,e1,e2,e3,e4,e5,n1,n2,n3⟩,eR,net,hlen,hbig,hn⟩:=N
 refine jb8 fun R' hR=>?_
 simp_all_arith [e1,jhc]
 refine ⟨p,s,R,wf,hs,m,n,r,rfl,N0,s0,s1,fun d H1 hd q1 ed=>?_⟩
 subst hR
 refine jb8 fun R' hR=>?_
 walk_at "ND"
 intro l hl
 have q2:=q1.trans (jag hl (.lst []))
 have ed2:=jag hl (.lst []) _ _ ed
 have el:upd H1 l (.lst []) l = some (.lst []):=ja1
 have hlH:H l = none:=q1.free hl
 have ld:l ≠ d:=(ja5 ed hl).symm
 generalize upd H1 l (.lst []) = H2 at q2 ed2 el
 subst hR
 refine jb8 fun R' hR=>?_
 walk_at "ND"
 subst hR
 refine jb8 fun R' hR=>?_
 have Cm:=Fl.spr_cam (r:=r) (s:=s) net.from' n
 have hcl:=Fl.cb_len (r:=r) net ⟨s0,s1⟩ n
 have htl:=Fl.trail_len (hs:=hs) (cb:=Fl.cbOf wf hs n s r) n t
 have htr:Fl.trOf wf hs n s t r = Fl.trailN hs (Fl.cbOf wf hs n s r) n t:=rfl
 rw [htr] at h
 generalize hcb:Fl.cbOf wf hs n s r = cb at *
 unfold Fl.cbOf at hcb
 rw [hcb] at Cm hcl
 refine jff (fun σ Hc=>∃ (v:Int) (tr:List Nat),σ = [some (.ref p),some (.int s),some (.int t),some (.ref d),some (.ref l),some (.int v)]∧Same H Hc∧Hc d = some (.dK (cbK cb))∧Hc l = some (.lst (nv tr))∧Fl.trailN hs cb n t = tr ++ Fl.trailN hs cb n v) (fun σ _=>match σ with | [_,_,_,_,_,some (.int v)]=>(Fl.trailN hs cb n v).length | _=>0) ⟨t,[],rfl,q2,ed2,el,rfl⟩ ?_ ?_
 ·rintro σ Hc ⟨v,tr,rfl,s3,ed3,el3,htv⟩
  simp_all_arith [ed3,jq4,oV_isN]
  refine ⟨⟨_,rfl⟩,?_⟩
  cases hlk:Fl.lk cb v with
  | none =>
   simp_all_arith [Option.isNone]
   subst hR
   walk_at "ND"
   rw [Fl.trail_end hlk,List.append_nil] at htv
   exact h l Hc hlH s3 (by rw [htv]; exact el3)
  | some w =>
   obtain ⟨hnx,hw⟩:=Fl.trail_next Cm hcl hlk
   have hm:=Fl.mate_lt hw
   have hh:atI (hs.map V.int) ((Fl.mate w:Nat):Int) = some (.int (Fl.at' hs (Fl.mate w))):=jhj (by rw [net.len]; exact hm)
   have hval:=jua hlk
   have htl2:tr.length ≤ n:=by
    have:=congrArg List.length htv
    rw [List.length_append] at this
    omega
   simp_all_arith [Option.isNone,el3,ed3,hval]
   refine ⟨⟨l,_,rfl,el3⟩,?_⟩
   have hnl:(nv tr).length = tr.length:=List.length_map _
   refine ⟨szl' (by omega),?_⟩
   have ed4:upd Hc l (.lst (nv tr ++ [.int (w:Int)])) d = some (.dK (cbK cb)):=by rw [jas (Ne.symm ld)]; exact ed3
   have s4:Same H (upd Hc l (.lst (nv tr ++ [.int (w:Int)]))):=jbh s3 hlH
   have el4:upd Hc l (.lst (nv tr ++ [.int (w:Int)])) l = some (.lst (nv (tr ++ [w]))):=by rw [ja1]; unfold nv; rw [List.map_append]; rfl
   generalize upd Hc l (.lst (nv tr ++ [.int (w:Int)])) = H4 at ed4 s4 el4
   simp_all_arith [jbo,s4 _ _ e1,jrk,s4 _ _ e5,ed4,hval,jlq,hh]
   refine ⟨⟨_,_,rfl,s4,el4,?_⟩,?_⟩
   ·rw [htv,hnx,List.append_assoc]
    rfl
   ·rw [hnx,List.length_cons]
    omega
 ·intro σ Hc Q1 Q2 hq hc
  unfold fB tOp jad fVar at hc ⊢
  cases e:σ[3]? with
  | none=>rw [e] at hc; exact hc.elim
  | some ov =>
   rw [e] at hc
   cases ov with
   | none=>exact hc.elim
   | some u =>
    dsimp only at hc ⊢
    cases u with
    | ref a =>
     dsimp only at hc ⊢
     refine ⟨hc.1,?_⟩
     have hc:=hc.2
     cases e3:σ[5]? with
     | none=>rw [e3] at hc; exact hc.elim
     | some ov3 =>
      rw [e3] at hc
      cases ov3 with
      | none=>exact hc.elim
      | some u3 =>
       dsimp only at hc ⊢
       cases u3 with
       | int i =>
        dsimp only at hc ⊢
        cases e4:Hc a with
        | none=>rw [e4] at hc; exact hc.elim
        | some ob =>
         rw [e4] at hc
         cases ob with
         | dK kvs=>dsimp only [tC,fIsN] at hc ⊢; exact hq _ _ hc
         | _=>exact hc.elim
       | _=>exact hc.elim
    | _=>exact hc.elim
end
end My
namespace My
open PySem L2
section
variable {P:Program} {w:World} {K:PySem.W.Frag} {mg:Str→Option Value} {base:Heap} {c1 c2 c3 c4:Tok} {C_Net C_NoWeb f_NoWeb:Addr} {dI:FuncData}
theorem jgc (r:List Int) (w:Nat) (x:Int):(r.map V.int).set w (.int x) = (r.set w x).map V.int:=by rw [List.map_set]
theorem jr8 {i:Nat} {σ:St} {H:Hp} {Q Q':Bool→Hp→Prop} (hq:∀ b H1,Q b H1→Q' b H1) (hc:jan (fVar i) σ H Q):jan (fVar i) σ H Q':=by
 unfold jan fVar at hc ⊢
 cases e:σ[i]? with
 | none=>rw [e] at hc; exact hc.elim
 | some ov =>
  rw [e] at hc
  cases ov with
  | none=>exact hc.elim
  | some u =>
   dsimp only at hc ⊢
   cases u with
   | ref a =>
    dsimp only at hc ⊢
    cases e4:H a with
    | none=>rw [e4] at hc; exact hc.elim
    | some ob =>
     rw [e4] at hc
     cases ob with
     | lst xs=>exact hq _ _ hc
     | _=>exact hc.elim
   | _=>exact hc.elim
theorem jtf {f:Addr} {fd:FuncData}  (B:Blt mg) (D:MthAt K C_Net "push" "Net.push" (meth 5 5) ["self","trail"] f fd) (T:NetC K mg C_Net):FnOk P w K mg base CX0 1 f fd ["self","trail"] (js0 C_Net):=by
 have sc:FnScope ["self","trail","amount","way"] ["self","trail"] (jba (meth 5 5)):=⟨rfl,rfl,rfl,by decide +kernel,rfl,by decide +kernel,by decide +kernel⟩
 refine D.F.ok sc (fun vs H Q E h=>?_) (fun cdv A outer s H vs Q E hr h=>?_)
 ·obtain ⟨p,l,R,wf,hs,m,n,r,tr,rfl,_⟩:=h
  rfl
 obtain ⟨p,l,R,wf,hs,m,n,r,tr,rfl,N,el,lR,tr0,htl,hw,h⟩:=h
 have hu:=jc7 hr
 have hu0:_ < PySem.cLine:=Nat.lt_of_succ_lt hu
 refine ⟨_,(jah (jbf (i:=2) sc.nd rfl (Or.inl rfl) (jbk (jq5 rfl) rfl B.min PyProof.Rows.boot_min (ja0 (jc6 (CpScope.of (N:=["way","self"]) (src:=[none,some 0]) (by rfl)) rfl (jbr (qv 1)) (fun _ _ _ _=>(jbb (i:=0) (jbc (l:=["way","self"]) (by rfl)) rfl (Or.inl rfl))) (fun _ _ _ _=>jci) (fun _ _ _ _=>(jbl q_ix (jcz T.cl T.n_rooms (qv 1) rfl) (qv 0) (fun _ _=>rfl)))) jai))) (jah (jd8 PassesOwn.never rfl (jbr (qv 1)) (jbb (i:=3) sc.nd rfl (Or.inl rfl)) (jah (jor (jcz T.cl T.n_rooms (qv 0) rfl) (qv 3) jk5 (qv 2) jtu jh7) (jb9 (jor (jcz T.cl T.n_rooms (qv 0) rfl) (jbw q_xor (qv 3) jaj) jk5 (qv 2) jtw jh7)))) (jb9 (jbq (qv 2))))),?_⟩
 have N0:=N
 obtain ⟨⟨dx,W,Hd,ls,e1,e2,e3,e4,e5,n1,n2,n3⟩,eR,net,hlen,hbig,hn⟩:=N
 have hnl:(nv tr).length = tr.length:=List.length_map _
 refine jb8 fun R' hR=>?_
 walk_at "ND"
 refine jbp (Itl K l) H (fun R2 hR2=>?_) (fun z hz0=>jbu tr.length (fun i σ' Hc=>∃ w1,σ' = [w1,some (.ref p)]∧Same H Hc∧Hc z = some (.lst (((tr.take i).map (Fl.at' r)).map V.int))) ⟨none,rfl,jag hz0 _,ja1⟩ ?_ ?_)
 ·unfold jcs
  walk_at "ND"
  exact ⟨l,rfl,⟨_,SqL.of el⟩,hR2⟩
 ·rintro i σ' Hc hi ⟨w1,rfl,s7,ez⟩
  have x1:(nv tr)[i]? = some (.int ((tr[i]:Nat):Int)):=by unfold nv; rw [List.getElem?_map,List.getElem?_eq_getElem hi]; rfl
  have x2:tr[i]? = some tr[i]:=List.getElem?_eq_getElem hi
  have hwi:=hw _ (List.getElem_mem hi)
  generalize tr[i] = wi at x1 x2 hwi
  refine ⟨⟨_,_,SqL.of (s7 _ _ el),x1⟩,?_⟩
  rintro y H' ⟨rfl,hy⟩
  have E1:=Option.some.inj (x1.symm.trans (hy _ (SqL.of (s7 _ _ el))))
  subst E1
  have hr':atI (r.map V.int) (wi:Int) = some (.int (Fl.at' r wi)):=jhj (by rw [hlen]; exact hwi)
  simp_all_arith [jbo,s7 _ _ e1,jng,s7 _ _ eR,hr']
  refine ⟨_,ez,?_,_,rfl,jbh s7 hz0,?_⟩
  ·rw [List.length_map,List.length_map,List.length_take]
   exact szl' (by omega)
  ·rw [ja1,jbj x2,List.map_append,List.map_append]
   rfl
 ·rintro σ' Hc ⟨w1,rfl,s7,ez⟩
  refine ⟨⟨_,SqL.of (s7 _ _ el),by omega⟩,?_⟩
  rw [List.take_length] at ez
  refine ⟨z,_,rfl,ez,by simpa using tr0,fun a ha hmin=>?_⟩
  have hae:a = Fl.minR r tr:=by
   have h1:=hmin _ (Fl.minR_mem r tr0)
   obtain ⟨w,hwt,rfl⟩:=List.mem_map.mp ha
   have h2:=Fl.minR_le r hwt
   omega
  subst hae
  generalize Fl.minR r tr = a at *
  walk_at "ND"
  subst hR
  refine jb8 fun R' hR=>?_
  have zR:z ≠ R:=(ja5 eR hz0).symm
  refine jce (Itl K l) Hc (fun R3 hR3=>?_) (jcv (K:=K) (a:=l) (xs:=nv tr) (fun i σ H4=>∃ v3,σ = [some (.ref p),some (.ref l),some (.int a),v3]∧But R H H4∧H4 R = some (.lst ((Fl.push r (tr.take i) a).map V.int))) ⟨none,rfl,fun b o _ q=>s7 b o q,s7 _ _ eR⟩ (fun i σ H4 _ ⟨_,_,s4,_⟩=>SqL.of (s4 _ _ lR el)) ?_ ?_)
  ·unfold jcs
   walk_at "ND"
   exact ⟨l,rfl,⟨_,SqL.of (s7 _ _ el)⟩,hR3⟩
  ·rintro i x σ H4 hx ⟨v3,rfl,s4,eR4⟩
   unfold nv at hx
   rw [List.getElem?_map] at hx
   obtain ⟨w,hwt,rfl⟩:=Option.map_eq_some_iff.mp hx
   have hwm:=hw w (List.mem_of_getElem? hwt)
   have hmm:=Fl.mate_lt hwm
   have hpl:(Fl.push r (tr.take i) a).length = 2 * m:=by rw [Fl.push_len]; exact hlen
   have hps:Fl.push r (tr.take (i + 1)) a = Fl.bump (Fl.push r (tr.take i) a) w a:=by rw [jbj hwt,Fl.push_snoc]
   generalize Fl.push r (tr.take i) a = r1 at *
   have e14:=s4 _ _ n3 e1
   have h1:atI (r1.map V.int) (w:Int) = some (.int (Fl.at' r1 w)):=jhj (by omega)
   have hx1:ixN (r1.map V.int).length (w:Int) = some w:=jpg (by rw [List.length_map]; omega)
   refine jb8 fun R5 hR5=>?_
   simp_all_arith [e14,jng,eR4,h1,hx1]
   refine ⟨Int.natCast_nonneg _,?_⟩
   rw [jgc]
   have b5:But R H (upd H4 R (.lst ((r1.set w (Fl.at' r1 w - a)).map V.int))):=s4.trans (But.at R H4 _)
   have e15:=b5 _ _ n3 e1
   have eR5:upd H4 R (.lst ((r1.set w (Fl.at' r1 w - a)).map V.int)) R = some (.lst ((r1.set w (Fl.at' r1 w - a)).map V.int)):=ja1
   generalize upd H4 R (.lst ((r1.set w (Fl.at' r1 w - a)).map V.int)) = H5 at b5 e15 eR5
   have hl2:(r1.set w (Fl.at' r1 w - a)).length = 2 * m:=by rw [List.length_set]; exact hpl
   have h2:atI ((r1.set w (Fl.at' r1 w - a)).map V.int) ((Fl.mate w:Nat):Int) = some (.int (Fl.at' r1 (Fl.mate w))):=by
    rw [jhj (by omega),Fl.at_set,if_neg (fun z=>Fl.mate_ne w z.1.symm)]
   have hx2:ixN ((r1.set w (Fl.at' r1 w - a)).map V.int).length ((Fl.mate w:Nat):Int) = some (Fl.mate w):=jpg (by rw [List.length_map]; omega)
   subst hR5
   simp_all_arith [e15,jng,eR5,jlq,h2,hx2]
   refine ⟨Int.natCast_nonneg _,_,rfl,b5.trans (But.at R H5 _),?_⟩
   rw [ja1,hps,jgc]
   rfl
  ·rintro σ H4 ⟨v3,rfl,s4,eR4⟩
   rw [hnl,List.take_length] at eR4
   subst hR
   walk_at "ND"
   exact h H4 s4 eR4
theorem jth {f:Addr} {fd:FuncData} {f_shortest:Addr} {d_shortest:FuncData} {f_push:Addr} {d_push:FuncData} (B:Blt mg) (D:MthAt K C_Net "fill" "Net.fill" (meth 5 2) ["self","source","sink"] f fd) (D_shortest:MthAt K C_Net "shortest" "Net.shortest" (meth 5 3) ["self","source","sink"] f_shortest d_shortest) (G_shortest:FnOk P w K mg base CX0 2 f_shortest d_shortest ["self","source","sink"] (jo6 C_Net)) (D_push:MthAt K C_Net "push" "Net.push" (meth 5 5) ["self","trail"] f_push d_push) (G_push:FnOk P w K mg base CX0 1 f_push d_push ["self","trail"] (js0 C_Net)) (T:NetC K mg C_Net):FnOk P w K mg base CX0 3 f fd ["self","source","sink"] (js6 C_Net):=by
 have sc:FnScope ["self","source","sink","flowing","trail"] ["self","source","sink"] (jba (meth 5 2)):=⟨rfl,rfl,rfl,by decide +kernel,rfl,by decide +kernel,by decide +kernel⟩
 refine D.F.ok sc (fun vs H Q E h=>?_) (fun cdv A outer s H vs Q E hr h=>?_)
 ·obtain ⟨p,s,t,R,wf,hs,m,n,r,cap,rfl,_⟩:=h
  rfl
 obtain ⟨p,s,t,R,wf,hs,m,n,r,cap,rfl,N,st,s0,s1,rm,h⟩:=h
 have hu:=jc7 hr
 have hu0:_ < PySem.cLine:=Nat.lt_of_succ_lt hu
 refine ⟨_,(jah (jbf (i:=3) sc.nd rfl (Or.inl rfl) jaj) (jah (jbf (i:=4) sc.nd rfl (Or.inl rfl) (jd4 (qv 0) T.cl D_shortest.m G_shortest (hr.mono (by decide)) D_shortest.b .nil jbs (ja0 (qv 1) (ja0 (qv 2) jai)))) (jah (jfh PassesOwn.never (jt6 (qv 4)) (jah (jjk (i:=3) sc.nd rfl (Or.inl rfl) (jd4 (qv 0) T.cl D_push.m G_push (hr.mono (by decide)) D_push.b .nil jbs (ja0 (qv 4) jai)) jm2) (jb9 (jbf (i:=4) sc.nd rfl (Or.inl rfl) (jd4 (qv 0) T.cl D_shortest.m G_shortest (hr.mono (by decide)) D_shortest.b .nil jbs (ja0 (qv 1) (ja0 (qv 2) jai))))))) (jb9 (jbq (qv 3)))))),?_⟩
 refine jb8 fun R' hR=>?_
 walk_at "ND"
 subst hR
 refine jb8 fun R' hR=>?_
 obtain ⟨dx,W,Hd,ls,e1,e2,e3,e4,e5,n1,n2,n3⟩:=N.st
 simp_all_arith [e1,jfb]
 refine ⟨p,s,t,R,wf,hs,m,n,r,rfl,N,s0,s1,fun l H1 hl q1 el=>?_⟩
 have lR:l ≠ R:=(ja5 N.eR hl).symm
 subst hR
 refine jb8 fun R' hR=>?_
 refine jff (fun σ Hc=>∃ (x:Int) (l:Addr) (r1:List Int),σ = [some (.ref p),some (.int s),some (.int t),some (.int x),some (.ref l)]∧But R H Hc∧Hc R = some (.lst (r1.map V.int))∧Fl.Runs wf hs n s t r r1∧Fl.Rooms m cap r1∧Hc l = some (.lst (nv (Fl.trOf wf hs n s t r1)))∧l ≠ R) (fun _ Hc=>match Hc R with | some (.lst xs)=>(Fl.capSum cap m - Fl.ex hs m (unI xs) t).toNat | _=>0) ⟨0,l,r,rfl,fun b o _ q=>q1 b o q,q1 _ _ N.eR,.done r,rm,el,lR⟩ ?_ ?_
 ·rintro σ Hc ⟨x,l,r1,rfl,b2,eR2,run,rm1,el2,lR⟩
  have N2:=N.but b2 eR2 rm1.len
  have e12:=b2 _ _ n3 e1
  by_cases ct:Fl.trOf wf hs n s t r1 = []
  ·have hst:Fl.stp wf hs n s t r1 = none:=by unfold Fl.stp; rw [if_pos ct]
   have hne:(nv (Fl.trOf wf hs n s t r1)).isEmpty = true:=by rw [ct]; rfl
   simp_all_arith [el2,hne]
   subst hR
   walk_at "ND"
   exact h x r1 Hc run hst b2 eR2
  ·have hst:Fl.stp wf hs n s t r1 = some (Fl.push r1 (Fl.trOf wf hs n s t r1) (Fl.minR r1 (Fl.trOf wf hs n s t r1))):=by unfold Fl.stp; rw [if_neg ct]
   have hne:(nv (Fl.trOf wf hs n s t r1)).isEmpty = false:=by unfold nv; cases hq:Fl.trOf wf hs n s t r1 with | nil=>exact absurd hq ct | cons _ _=>rfl
   obtain ⟨_,gi,G⟩:=Fl.tr_in N.net st ⟨s0,s1⟩ ct
   have hk:=Fl.step_keeps N.net st ⟨s0,s1⟩ rm1 hst
   have hle:=Fl.trail_len (hs:=hs) (cb:=Fl.cbOf wf hs n s r1) n t
   simp_all_arith [el2,hne,e12,jr6]
   refine ⟨p,l,R,wf,hs,m,n,r1,_,rfl,N2,el2,lR,ct,Nat.le_trans hle N.n200,fun w hw=>(G.up w hw).1,fun H3 b3 eR3=>?_⟩
   have b4:=b2.trans b3
   have N3:=N2.but b3 eR3 (by rw [Fl.push_len]; exact rm1.len)
   simp_all_arith [b4 _ _ n3 e1,jfb]
   refine ⟨p,s,t,R,wf,hs,m,n,_,rfl,N3,s0,s1,fun l2 H5 hl2 q5 el5=>?_⟩
   have eR5:=q5 _ _ eR3
   refine ⟨⟨_,l2,_,rfl,b4.trans fun b o _ q=>q5 b o q,eR5,run.snoc hst,hk.1,el5,(ja5 eR3 hl2).symm⟩,?_⟩
   rw [eR5,eR2]
   dsimp only
   rw [jnv,jnv]
   have:=hk.2.2
   have:=Fl.ex_le (hs:=hs) hk.1 t
   omega
 ·intro σ Hc Q1 Q2 hq hc
  exact jr8 hq hc
end
end My
namespace My
open PySem L2
section
variable {P:Program} {w:World} {K:PySem.W.Frag} {mg:Str→Option Value} {base:Heap} {c1 c2 c3 c4:Tok} {C_Net C_NoWeb f_NoWeb:Addr} {dI:FuncData}
structure NtG (C:Addr) (H:Hp) (p dx W Hd R:Addr) (ls:List Addr) (f:Nat→List V) (hv rv:List V):Prop where
 o:H p = some (netO C dx W Hd R)
 w:H W = some (.lst (ls.map V.ref))
 l:∀ (i:Nat) (a:Addr),ls[i]? = some a→H a = some (.lst (f i))∧a ≠ R∧a ≠ Hd∧a ≠ W
 nd:ls.Nodup
 h:H Hd = some (.lst hv)
 r:H R = some (.lst rv)
 n1:W ≠ R
 n2:Hd ≠ R
 n3:W ≠ Hd
def putH (H:Hp) (wa Hd R:Addr) (a b c:List V):Hp:=upd (upd (upd H wa (.lst a)) Hd (.lst b)) R (.lst c)
theorem NtG.put {C:Addr} {H:Hp} {p dx W Hd R:Addr} {ls:List Addr} {f:Nat→List V} {hv rv:List V} (G:NtG C H p dx W Hd R ls f hv rv) {i:Nat} {wa:Addr} (hi:ls[i]? = some wa) (x y z:V) :
  NtG C (putH H wa Hd R (f i ++ [x]) (hv ++ [y]) (rv ++ [z])) p dx W Hd R ls (fun j=>if j = i then f i ++ [x] else f j) (hv ++ [y]) (rv ++ [z]):=by
 obtain ⟨a1,a2,a3,a4⟩:=G.l i wa hi
 have p1:p ≠ wa:=jl2 G.o a1 (by intro z; cases z)
 have p2:p ≠ Hd:=jl2 G.o G.h (by intro z; cases z)
 have p3:p ≠ R:=jl2 G.o G.r (by intro z; cases z)
 unfold putH
 refine ⟨by rw [jas p3,jas p2,jas p1]; exact G.o,by rw [jas G.n1,jas G.n3,jas (Ne.symm a4)]; exact G.w,fun j a ha=>?_,G.nd,by rw [jas G.n2,ja1],ja1,G.n1,G.n2,G.n3⟩
 obtain ⟨b1,b2,b3,b4⟩:=G.l j a ha
 refine ⟨?_,b2,b3,b4⟩
 rw [jas b2,jas b3]
 by_cases c:j = i
 ·subst c
  rw [hi] at ha
  cases ha
  rw [if_pos rfl,ja1]
 ·rw [if_neg c,jas (fun e=>c ?_)]
  ·exact b1
  ·subst e
   have h1:=(List.getElem?_eq_some_iff.mp ha)
   have h2:=(List.getElem?_eq_some_iff.mp hi)
   exact (List.getElem_inj G.nd).mp (h1.2.trans h2.2.symm)
def jlz (C:Addr):Sp:=fun vs H Q _=>∃ p dx W Hd R ls f hv rv i wa hd rm,vs = [.ref p,.int ((i:Nat):Int),.int hd,.int rm]∧NtG C H p dx W Hd R ls f hv rv∧ls[i]? = some wa∧(f i).length ≤ 900∧hv.length ≤ 900∧rv.length ≤ 900∧Q .non (putH H wa Hd R (f i ++ [.int (hv.length:Int)]) (hv ++ [.int hd]) (rv ++ [.int rm]))
def js1 (C:Addr):Sp:=fun vs H Q _=>∃ p dx n al zs as,vs = [.ref p,.int ((n:Nat):Int),.ref al]∧H p = some (.ins C dx [])∧H al = some (.lst zs)∧Tps H zs as∧n ≤ 200∧as.length ≤ 450∧(∀ a ∈ as,(0 ≤ a.1∧a.1 < (n:Int))∧0 ≤ a.2.1∧a.2.1 < (n:Int))∧∀ R H',H R = none→But p H H'→Nt C H' p R (Fl.wfA as) (Fl.hsA as) as.length n (Fl.rmA as)→Q .non H'
theorem wfA_le (as:List Fl.Arc) (u:Int):(Fl.wfA as u).length ≤ 2 * as.length:=by
 unfold Fl.wfA
 have:=List.length_filter_le (fun w=>decide (Fl.at' (Fl.hsA as) (Fl.mate w) = u)) (List.range (2 * as.length))
 rw [List.length_range] at this
 exact this
theorem But.upd {p q:Addr} {H H':Hp} {o:HO} (b:But p H H') (h:H q = none):But p H (upd H' q o):=fun c u n e=>by rw [jas (ja5 e h)]; exact b c u n e
theorem jsg (a b:List Nat):nv (a ++ b) = nv a ++ nv b:=List.map_append
theorem jn3 {f:Addr} {fd:FuncData}  (B:Blt mg) (D:MthAt K C_Net "put_way" "Net.put_way" (meth 5 1) ["self","tail","head","room"] f fd) (T:NetC K mg C_Net):FnOk P w K mg base CX0 1 f fd ["self","tail","head","room"] (jlz C_Net):=by
 have sc:FnScope ["self","tail","head","room"] ["self","tail","head","room"] (jba (meth 5 1)):=⟨rfl,rfl,rfl,by decide +kernel,rfl,by decide +kernel,by decide +kernel⟩
 refine D.F.ok sc (fun vs H Q E h=>?_) (fun cdv A outer s H vs Q E hr h=>?_)
 ·obtain ⟨p,dx,W,Hd,R,ls,f,hv,rv,i,wa,hd,rm,rfl,_⟩:=h
  rfl
 obtain ⟨p,dx,W,Hd,R,ls,f,hv,rv,i,wa,hd,rm,rfl,G,hi,l1,l2,l3,h⟩:=h
 have hu:=jc7 hr
 have hu0:_ < PySem.cLine:=Nat.lt_of_succ_lt hu
 refine ⟨_,(jah (jc1 (q_bm PySem.F.plainAttrs_list PySem.F.slot_list_append PySem.F.type_list_append jch (jbl q_ix (jcz T.cl T.n_ways_from (qv 0) rfl) (qv 1) (fun _ _=>rfl)) (ja0 (jbk ji0 rfl B.len PySem.boot_len (ja0 (jcz T.cl T.n_heads (qv 0) rfl) jai)) jai))) (jah (jc1 (q_bm PySem.F.plainAttrs_list PySem.F.slot_list_append PySem.F.type_list_append jch (jcz T.cl T.n_heads (qv 0) rfl) (ja0 (qv 2) jai))) (jb9 (jc1 (q_bm PySem.F.plainAttrs_list PySem.F.slot_list_append PySem.F.type_list_append jch (jcz T.cl T.n_rooms (qv 0) rfl) (ja0 (qv 3) jai)))))),?_⟩
 have e1:=G.o
 have e2:=G.w
 have e3:=G.h
 have hat:=jsm hi
 obtain ⟨a1,a2,a3,a4⟩:=G.l i wa hi
 have p1:p ≠ wa:=jl2 G.o a1 (by intro z; cases z)
 have p2:p ≠ Hd:=jl2 G.o G.h (by intro z; cases z)
 refine jb8 fun R' hR=>?_
 simp_all_arith [jbo,e1,fld_w,jrk,e2,hat,a1,e3]
 refine ⟨⟨wa,_,rfl,a1⟩,szl' (by omega),?_⟩
 have e4:upd H wa (.lst (f i ++ [.int (hv.length:Int)])) p = some (netO C_Net dx W Hd R):=by rw [jas p1]; exact e1
 have e5:upd H wa (.lst (f i ++ [.int (hv.length:Int)])) Hd = some (.lst hv):=by rw [jas (Ne.symm a3)]; exact e3
 have e6:upd H wa (.lst (f i ++ [.int (hv.length:Int)])) R = some (.lst rv):=by rw [jas (Ne.symm a2)]; exact G.r
 subst hR
 refine jb8 fun R' hR=>?_
 simp_all_arith [e4,jrk,e5]
 refine ⟨⟨Hd,_,rfl,e5⟩,szl' (by omega),?_⟩
 have e7:upd (upd H wa (.lst (f i ++ [.int (hv.length:Int)]))) Hd (.lst (hv ++ [.int hd])) p = some (netO C_Net dx W Hd R):=by rw [jas p2]; exact e4
 have e8:upd (upd H wa (.lst (f i ++ [.int (hv.length:Int)]))) Hd (.lst (hv ++ [.int hd])) R = some (.lst rv):=by rw [jas (Ne.symm G.n2)]; exact e6
 subst hR
 simp_all_arith [e7,jng,e8]
 exact ⟨⟨R,_,rfl,e8⟩,szl' (by omega),h⟩
end
end My
namespace My
open PySem L2
section
variable {P:Program} {w:World} {K:PySem.W.Frag} {mg:Str→Option Value} {base:Heap} {c1 c2 c3 c4:Tok} {C_Net C_NoWeb f_NoWeb:Addr} {dI:FuncData}
theorem NtG.congr {C:Addr} {H:Hp} {p dx W Hd R:Addr} {ls:List Addr} {f g:Nat→List V} {hv rv hv' rv':List V} (G:NtG C H p dx W Hd R ls f hv rv) (h:∀ i,i < ls.length→f i = g i) (e1:hv = hv') (e2:rv = rv'):NtG C H p dx W Hd R ls g hv' rv':=by
 subst e1 e2
 exact ⟨G.o,G.w,fun i a ha=>by rw [← h i (List.getElem?_eq_some_iff.mp ha).1]; exact G.l i a ha,G.nd,G.h,G.r,G.n1,G.n2,G.n3⟩
theorem jm6 {p wa Hd R:Addr} {H H':Hp} {a b c:List V} (s:But p H H') (h1:H wa = none) (h2:H Hd = none) (h3:H R = none):But p H (putH H' wa Hd R a b c):=((s.upd h1).upd h2).upd h3
theorem jso {as:List Fl.Arc} {a:Fl.Arc} {i1 i2 j:Nat} (h1:a.1 = (i1:Int)) (h2:a.2.1 = (i2:Int)) {x y:V} (hx:x = .int ((2 * as.length:Nat):Int)) (hy:y = .int ((2 * as.length + 1:Nat):Int)) :
  (if j = i2 then (if i2 = i1 then nv (Fl.wfA as (i1:Int)) ++ [x] else nv (Fl.wfA as (i2:Int))) ++ [y] else (if j = i1 then nv (Fl.wfA as (i1:Int)) ++ [x] else nv (Fl.wfA as (j:Int)))) = nv (Fl.wfA (as ++ [a]) (j:Int)):=by
 rw [Fl.wfA_snoc,jsg,jsg,h1,h2,hx,hy]
 by_cases c1:j = i1
 ·by_cases c2:j = i2
  ·have:i2 = i1:=by omega
   subst c2
   subst this
   rw [if_pos rfl,if_pos rfl,if_pos rfl,if_pos rfl]
   rfl
  ·subst c1
   rw [if_neg c2,if_pos rfl,if_pos rfl,if_neg (by omega)]
   show _ = _ ++ []
   rw [List.append_nil]
   rfl
 ·by_cases c2:j = i2
  ·subst c2
   rw [if_pos rfl,if_neg c1,if_neg (by omega),if_pos rfl]
   show _ = (_ ++ []) ++ _
   rw [List.append_nil]
   rfl
  ·rw [if_neg c2,if_neg c1,if_neg (by omega),if_neg (by omega)]
   show _ = (_ ++ []) ++ []
   rw [List.append_nil,List.append_nil]
theorem jtg {f:Addr} {fd:FuncData} {f_put_way:Addr} {d_put_way:FuncData} (B:Blt mg) (D:MthAt K C_Net "__init__" "Net.__init__" (meth 5 0) ["self","many","arcs"] f fd) (D_put_way:MthAt K C_Net "put_way" "Net.put_way" (meth 5 1) ["self","tail","head","room"] f_put_way d_put_way) (G_put_way:FnOk P w K mg base CX0 1 f_put_way d_put_way ["self","tail","head","room"] (jlz C_Net)) (T:NetC K mg C_Net):FnOk P w K mg base CX0 2 f fd ["self","many","arcs"] (js1 C_Net):=by
 have sc:FnScope ["self","many","arcs","tail","head","room"] ["self","many","arcs"] (jba (meth 5 0)):=⟨rfl,rfl,rfl,by decide +kernel,rfl,by decide +kernel,by decide +kernel⟩
 refine D.F.ok sc (fun vs H Q E h=>?_) (fun cdv A outer s H vs Q E hr h=>?_)
 ·obtain ⟨p,dx,n,al,zs,as,rfl,_⟩:=h
  rfl
 obtain ⟨p,dx,n,al,zs,as,rfl,ep,eal,pz,hn,ha,hok,h⟩:=h
 have hu:=jc7 hr
 have hu0:_ < PySem.cLine:=Nat.lt_of_succ_lt hu
 refine ⟨_,(jah (jkv T.cl T.n_ways_from (qv 0) (jc6 (CpScope.of (N:=["knot"]) (src:=[none]) (by rfl)) rfl (jg1 rfl B.range (ja0 (qv 1) jai)) (fun _ _ _ _=>(jbb (i:=0) (jbc (l:=["knot"]) (by rfl)) rfl (Or.inl rfl))) (fun _ _ _ _=>jci) (fun _ _ _ _=>(jcf jai))) rfl) (jah (jkv T.cl T.n_heads (qv 0) (jcf jai) rfl) (jah (jkv T.cl T.n_rooms (qv 0) (jcf jai) rfl) (jb9 (jd8 PassesOwn.never rfl (jbr (qv 2)) (jcw (n:=3) rfl (jbd (jbb (i:=3) sc.nd rfl (Or.inl rfl)) (jbd (jbb (i:=4) sc.nd rfl (Or.inl rfl)) (jbd (jbb (i:=5) sc.nd rfl (Or.inl rfl)) jc9)))) (jah (jc1 (jd4 (qv 0) T.cl D_put_way.m G_put_way (hr.mono (by decide)) D_put_way.b .nil jbs (ja0 (qv 3) (ja0 (qv 4) (ja0 (qv 5) jai))))) (jb9 (jc1 (jd4 (qv 0) T.cl D_put_way.m G_put_way (hr.mono (by decide)) D_put_way.b .nil jbs (ja0 (qv 4) (ja0 (qv 3) (ja0 jaj jai)))))))))))),?_⟩
 have hlz:zs.length = as.length:=Paired.length pz
 have alp:al ≠ p:=jl2 eal ep (by intro z; cases z)
 refine jb8 fun R' hR=>?_
 walk_at "ND"
 refine jbp (Itr 0 n) H (fun R2 hR2=>?_) (fun W hW=>jbu n (fun i σ' Hc=>∃ w1 ls,σ' = [w1]∧Same H Hc∧Hc W = some (.lst (ls.map V.ref))∧ls.length = i∧ls.Nodup∧∀ a ∈ ls,Hc a = some (.lst [])∧a ≠ W∧H a = none) ⟨none,[],rfl,jag hW _,ja1,rfl,.nil,fun a z=>by cases z⟩ ?_ ?_)
 ·unfold jrf
  walk_at "ND"
  exact ⟨_,rfl,by omega,by omega,hR2⟩
 ·rintro i σ' Hc hi ⟨w1,ls,rfl,s1,eW,hl,nd,hls⟩
  refine ⟨hi,?_⟩
  rintro y H' ⟨rfl,rfl⟩
  walk_at "ND"
  intro b hb
  have q:=jag hb (.lst [])
  have eb:upd H' b (.lst []) b = some (.lst []):=ja1
  have eW2:=q _ _ eW
  have bW:b ≠ W:=(ja5 eW hb).symm
  have s2:=s1.trans q
  have hls2:∀ a ∈ ls,upd H' b (.lst []) a = some (.lst [])∧a ≠ b:=fun a ha=>⟨q _ _ (hls a ha).1,ja5 (hls a ha).1 hb⟩
  generalize upd H' b (.lst []) = H3 at q eb eW2 s2 hls2
  refine ⟨_,eW2,by rw [List.length_map]; exact szl' (by omega),_,ls ++ [b],rfl,jbh s2 hW,by rw [ja1,List.map_append]; rfl,by rw [List.length_append,hl]; rfl,?_,fun a ha=>?_⟩
  ·rw [List.nodup_append]
   refine ⟨nd,by simp,fun a ha c hc=>?_⟩
   rw [List.mem_singleton.mp hc]
   exact (hls2 a ha).2
  ·rcases List.mem_append.mp ha with ha | ha
   ·refine ⟨by rw [jas (hls a ha).2.1]; exact (hls2 a ha).1,(hls a ha).2⟩
   ·rw [List.mem_singleton.mp ha]
    exact ⟨by rw [jas bW]; exact eb,bW,s1.free hb⟩
 rintro σ' H1 ⟨w1,ls,rfl,s1,eW,hl,nd,hls⟩
 refine ⟨Nat.le_refl _,?_⟩
 have ep1:=s1 _ _ ep
 simp_all_arith [ep1]
 refine ⟨Nat.le_of_ble_eq_true rfl,?_⟩
 have b2:But p H (upd H1 p (.ins C_Net dx (putF "ways_from" (.ref W) []))):=fun b o n q=>by rw [jas n]; exact s1 b o q
 have ep2:upd H1 p (.ins C_Net dx (putF "ways_from" (.ref W) [])) p = some (.ins C_Net dx (putF "ways_from" (.ref W) [])):=ja1
 have Wp:W ≠ p:=(ja5 ep hW).symm
 have eW2:upd H1 p (.ins C_Net dx (putF "ways_from" (.ref W) [])) W = some (.lst (ls.map V.ref)):=by rw [jas Wp]; exact eW
 have hls2:∀ a ∈ ls,upd H1 p (.ins C_Net dx (putF "ways_from" (.ref W) [])) a = some (.lst [])∧a ≠ W∧H a = none:=fun a ha=>⟨by rw [jas (ja5 ep (hls a ha).2.2).symm]; exact (hls a ha).1,(hls a ha).2⟩
 generalize upd H1 p (.ins C_Net dx (putF "ways_from" (.ref W) [])) = H2 at b2 ep2 eW2 hls2
 clear hls eW ep1 s1
 have free:∀ {H':Hp} {q:Addr},But p H H'→H' p ≠ none→H' q = none→H q = none:=fun {H' q} b hp hq=>by
  cases e:H q with
  | none=>rfl
  | some o =>
   have hqp:q ≠ p:=fun z=>hp (by rw [← z]; exact hq)
   rw [b _ _ hqp e] at hq
   cases hq
 subst hR
 refine jb8 fun R' hR=>?_
 walk_at "ND"
 intro Hd hHd
 have fHd:H Hd = none:=free b2 (by rw [ep2]; simp) hHd
 have ep3:upd H2 Hd (.lst []) p = some (.ins C_Net dx (putF "ways_from" (.ref W) [])):=jag hHd _ _ _ ep2
 have eHd:upd H2 Hd (.lst []) Hd = some (.lst []):=ja1
 have WHd:W ≠ Hd:=ja5 eW2 hHd
 have hls3:∀ a ∈ ls,upd H2 Hd (.lst []) a = some (.lst [])∧a ≠ Hd:=fun a ha=>⟨jag hHd _ _ _ (hls2 a ha).1,ja5 (hls2 a ha).1 hHd⟩
 have eW3:=jag hHd (.lst []) _ _ eW2
 have b3:But p H (upd H2 Hd (.lst [])):=b2.upd fHd
 generalize upd H2 Hd (.lst []) = H3 at ep3 eHd hls3 eW3 b3
 simp_all_arith [ep3]
 refine ⟨Nat.le_of_ble_eq_true rfl,?_⟩
 have Hdp:Hd ≠ p:=(ja5 ep fHd).symm
 have ep4:upd H3 p (.ins C_Net dx (putF "heads" (.ref Hd) (putF "ways_from" (.ref W) []))) p = some (.ins C_Net dx (putF "heads" (.ref Hd) (putF "ways_from" (.ref W) []))):=ja1
 have eHd4:upd H3 p (.ins C_Net dx (putF "heads" (.ref Hd) (putF "ways_from" (.ref W) []))) Hd = some (.lst []):=by rw [jas Hdp]; exact eHd
 have eW4:upd H3 p (.ins C_Net dx (putF "heads" (.ref Hd) (putF "ways_from" (.ref W) []))) W = some (.lst (ls.map V.ref)):=by rw [jas Wp]; exact eW3
 have hls4:∀ a ∈ ls,upd H3 p (.ins C_Net dx (putF "heads" (.ref Hd) (putF "ways_from" (.ref W) []))) a = some (.lst []):=fun a ha=>by rw [jas (ja5 ep (hls2 a ha).2.2).symm]; exact (hls3 a ha).1
 have b4:But p H (upd H3 p (.ins C_Net dx (putF "heads" (.ref Hd) (putF "ways_from" (.ref W) [])))):=b3.trans (But.at p H3 _)
 generalize upd H3 p (.ins C_Net dx (putF "heads" (.ref Hd) (putF "ways_from" (.ref W) []))) = H4 at ep4 eHd4 eW4 hls4 b4
 subst hR
 refine jb8 fun R' hR=>?_
 walk_at "ND"
 intro R hRn
 have fR:H R = none:=free b4 (by rw [ep4]; simp) hRn
 have ep5:upd H4 R (.lst []) p = some (.ins C_Net dx (putF "heads" (.ref Hd) (putF "ways_from" (.ref W) []))):=jag hRn _ _ _ ep4
 have eR5:upd H4 R (.lst []) R = some (.lst []):=ja1
 have eHd5:=jag hRn (.lst []) _ _ eHd4
 have eW5:=jag hRn (.lst []) _ _ eW4
 have WR:W ≠ R:=ja5 eW4 hRn
 have HdR:Hd ≠ R:=ja5 eHd4 hRn
 have hls5:∀ a ∈ ls,upd H4 R (.lst []) a = some (.lst [])∧a ≠ R:=fun a ha=>⟨jag hRn _ _ _ (hls4 a ha),ja5 (hls4 a ha) hRn⟩
 have b5:But p H (upd H4 R (.lst [])):=b4.upd fR
 generalize upd H4 R (.lst []) = H5 at ep5 eR5 eHd5 eW5 hls5 b5
 simp_all_arith [ep5]
 refine ⟨Nat.le_of_ble_eq_true rfl,?_⟩
 have Rp:R ≠ p:=(ja5 ep fR).symm
 have eo:(HO.ins C_Net dx (putF "rooms" (.ref R) (putF "heads" (.ref Hd) (putF "ways_from" (.ref W) [])))) = netO C_Net dx W Hd R:=rfl
 rw [eo]
 have b6:But p H (upd H5 p (netO C_Net dx W Hd R)):=b5.trans (But.at p H5 _)
 have G0:NtG C_Net (upd H5 p (netO C_Net dx W Hd R)) p dx W Hd R ls (fun i=>nv (Fl.wfA (as.take 0) (i:Int))) ((Fl.hsA (as.take 0)).map V.int) ((Fl.rmA (as.take 0)).map V.int):=by
  refine ⟨ja1,by rw [jas Wp]; exact eW5,fun i a hia=>?_,nd,by rw [jas Hdp]; exact eHd5,by rw [jas Rp]; exact eR5,WR,HdR,WHd⟩
  have ha:=List.mem_of_getElem? hia
  exact ⟨by rw [jas (ja5 ep (hls2 a ha).2.2).symm]; exact (hls5 a ha).1,(hls5 a ha).2,(hls3 a ha).2,(hls2 a ha).2.1⟩
 generalize upd H5 p (netO C_Net dx W Hd R) = H6 at b6 G0
 have fls:∀ a ∈ ls,H a = none:=fun a ha=>(hls2 a ha).2.2
 clear hls2 hls3 hls4 hls5 b2 b3 b4 b5 ep2 ep3 ep4 ep5 eW2 eW3 eW4 eW5 eHd eHd4 eHd5 eR5
 subst hR
 refine jce (Itl K al) H6 (fun R3 hR3=>?_) (jcv (K:=K) (a:=al) (xs:=zs) (fun k σ Hc=>∃ v1 v2 v3,σ = [some (.ref p),some (.int (n:Int)),some (.ref al),v1,v2,v3]∧But p H Hc∧NtG C_Net Hc p dx W Hd R ls (fun i=>nv (Fl.wfA (as.take k) (i:Int))) ((Fl.hsA (as.take k)).map V.int) ((Fl.rmA (as.take k)).map V.int)) ⟨none,none,none,rfl,b6,G0⟩ (fun i σ Hc _ ⟨_,_,_,_,b,_⟩=>SqL.of (b _ _ alp eal)) ?_ ?_)
 ·unfold jcs
  walk_at "ND"
  exact ⟨al,rfl,⟨_,SqL.of (b6 _ _ alp eal)⟩,hR3⟩
 ·rintro k x σ Hc hx ⟨v1,v2,v3,rfl,b7,G⟩
  obtain ⟨a,hka,pa⟩:=jbi pz hx
  obtain ⟨t,rfl,et⟩:=Tp.tups pa (b7.tups ep rfl)
  have hkl:=(List.getElem?_eq_some_iff.mp hka).1
  obtain ⟨⟨h1,h2⟩,h3,h4⟩:=hok a (List.mem_of_getElem? hka)
  have i1:ls[a.1.toNat]? = some (ls[a.1.toNat]'(by omega)):=List.getElem?_eq_getElem _
  have i2:ls[a.2.1.toNat]? = some (ls[a.2.1.toNat]'(by omega)):=List.getElem?_eq_getElem _
  generalize ls[a.1.toNat]'(by omega) = w1 at i1
  generalize ls[a.2.1.toNat]'(by omega) = w2 at i2
  have c1:((a.1.toNat:Nat):Int) = a.1:=by omega
  have c2:((a.2.1.toNat:Nat):Int) = a.2.1:=by omega
  have htk:(as.take k).length = k:=by rw [List.length_take]; omega
  have hl1:((Fl.hsA (as.take k)).map V.int).length = 2 * k:=by rw [List.length_map,Fl.hsA_len,htk]
  have hl2:((Fl.rmA (as.take k)).map V.int).length = 2 * k:=by rw [List.length_map,Fl.rmA_len,htk]
  have hl3:∀ u:Int,(nv (Fl.wfA (as.take k) u)).length ≤ 2 * k:=fun u=>by
   have:=wfA_le (as.take k) u
   rw [htk] at this
   unfold nv
   rw [List.length_map]
   exact this
  simp_all_arith [et,G.o,jgb]
  refine ⟨p,dx,W,Hd,R,ls,_,_,_,a.1.toNat,w1,a.2.1,a.2.2,by rw [c1],G,i1,by have:=hl3 ((a.1.toNat:Nat):Int); omega,by omega,by omega,?_⟩
  have G1:=G.put i1 (.int (((Fl.hsA (as.take k)).map V.int).length:Int)) (.int a.2.1) (.int a.2.2)
  have b8:=jm6 (wa:=w1) (Hd:=Hd) (R:=R) (a:=nv (Fl.wfA (as.take k) ((a.1.toNat:Nat):Int)) ++ [.int (((Fl.hsA (as.take k)).map V.int).length:Int)]) (b:=(Fl.hsA (as.take k)).map V.int ++ [.int a.2.1]) (c:=(Fl.rmA (as.take k)).map V.int ++ [.int a.2.2]) b7 (fls _ (List.mem_of_getElem? i1)) fHd fR
  generalize putH Hc w1 Hd R (nv (Fl.wfA (as.take k) ((a.1.toNat:Nat):Int)) ++ [.int (((Fl.hsA (as.take k)).map V.int).length:Int)]) ((Fl.hsA (as.take k)).map V.int ++ [.int a.2.1]) ((Fl.rmA (as.take k)).map V.int ++ [.int a.2.2]) = H8 at G1 b8
  simp_all_arith [G1.o,jgb]
  refine ⟨p,dx,W,Hd,R,ls,_,_,_,a.2.1.toNat,w2,a.1,0,by rw [c2],G1,i2,?_,by rw [List.length_append,hl1]; show _ + 1 ≤ _; omega,by rw [List.length_append,hl2]; show _ + 1 ≤ _; omega,?_⟩
  ·split
   ·rw [List.length_append]
    have:=hl3 ((a.1.toNat:Nat):Int)
    show _ + 1 ≤ _
    omega
   ·have:=hl3 ((a.2.1.toNat:Nat):Int); omega
  have G2:=G1.put i2 (.int ((((Fl.hsA (as.take k)).map V.int) ++ [V.int a.2.1]).length:Int)) (.int a.1) (.int 0)
  have b9:=jm6 (wa:=w2) (Hd:=Hd) (R:=R) (a:=(if a.2.1.toNat = a.1.toNat then nv (Fl.wfA (as.take k) ((a.1.toNat:Nat):Int)) ++ [.int (((Fl.hsA (as.take k)).map V.int).length:Int)] else nv (Fl.wfA (as.take k) ((a.2.1.toNat:Nat):Int))) ++ [.int ((((Fl.hsA (as.take k)).map V.int) ++ [V.int a.2.1]).length:Int)]) (b:=((Fl.hsA (as.take k)).map V.int ++ [.int a.2.1]) ++ [.int a.1]) (c:=((Fl.rmA (as.take k)).map V.int ++ [.int a.2.2]) ++ [.int 0]) b8 (fls _ (List.mem_of_getElem? i2)) fHd fR
  refine ⟨_,_,_,rfl,b9,G2.congr (fun j hj=>?_) ?_ ?_⟩
  ·rw [jbj hka]
   exact jso c1.symm c2.symm (by rw [hl1,htk]) (by rw [List.length_append,hl1,htk]; rfl)
  ·rw [jbj hka,Fl.hsA_snoc,List.map_append,List.append_assoc]; rfl
  ·rw [jbj hka,Fl.rmA_snoc,List.map_append,List.append_assoc]; rfl
 ·rintro σ Hc ⟨v1,v2,v3,rfl,b7,G⟩
  rw [hlz,List.take_length] at G
  refine h R Hc fR b7 ⟨⟨dx,W,Hd,ls,G.o,G.w,hl,fun i a hia=>⟨(G.l i a hia).1,(G.l i a hia).2.1⟩,G.h,G.n1,G.n2,Rp.symm⟩,G.r,Fl.net_of hok,Fl.rmA_len as,by omega,hn⟩
end
end My
namespace My
open PySem L2
section
variable {P:Program} {w:World} {K:PySem.W.Frag} {mg:Str→Option Value} {base:Heap} {c1 c2 c3 c4 e1 e2 e3:Tok} {C_Net C_NoWeb f_NoWeb:Addr} {dI:FuncData}
structure Cst2 (mg:Str→Option Value) (t1 t2 t3:Tok):Prop where
 SOURCE:mg "SOURCE" = some (.int 0 t1)
 SINK:mg "SINK" = some (.int 1 t2)
 FIRST:mg "FIRST" = some (.int 2 t3)
theorem jd6 {ι:Type} {src:List (Option Nat)} {wi:TI} {g:TG} {tc:TT} {te:TE} {Q:VK} {σ:St} {H:Hp} (J:ι→It) (H1:ι→Hp) (ok:ι→Prop) (h1:∀ R:It→Hp→Prop,(∀ p,ok p→R (J p) (H1 p))→wi σ H R)
  (h2:∀ p,ok p→∀ l,H1 p l = none→jqd (J p) src g tc te Q σ (H1 p) l):jqj src wi g tc te σ H Q:=h1 _ h2
theorem jgr {α β:Type} (f:α→β):∀ (b:Bool) (xs:List α),alt b (xs.map f) = (alt b xs).map f
 | true,[]=>rfl
 | false,[]=>rfl
 | true,x :: xs=>by show f x :: alt false (xs.map f) = f x :: (alt false xs).map f; rw [jgr f false xs]
 | false,x :: xs=>jgr f true xs
def joc (C:Addr):Sp:=fun vs H Q _=>∃ p R wf hs m n r,vs = [.ref p]∧Nt C H p R wf hs m n r∧∀ l H',H l = none→Same H H'→H' l = some (.lst ((alt false r).map V.int))→Q (.ref l) H'
def jo7 (C:Addr):Sp:=fun vs H Q _=>∃ p s R wf hs m n r,vs = [.ref p,.int s]∧Nt C H p R wf hs m n r∧0 ≤ s∧s < (n:Int)∧n < 64∧∀ (l:Addr) (ms:List Int) (H':Hp),H l = none→Same H H'→H' l = some (.lst (ms.map V.int))→ms.Perm ((Fl.cbOf wf hs n s r).map (·.1))→Q (.ref l) H'
def halR (S:Int→Bool) (many:Int) (ps:List (Int × Int)) (k:Nat):List (Int × Int):=(List.range k).map fun i=>((ps.getD i (0,0)).1,(if S (2 + (i:Int)) = true then 0 else 1) + (if S (2 + many + (i:Int)) = true then 1 else 0))
def js2:Sp:=fun vs H Q _=>∃ v ps ts d kvs,vs = [v,.ref d]∧jdu H v ps ts∧WebOk ps ts∧H d = some (.dK kvs)∧∀ l zs H',H l = none→Same H H'→H' l = some (.lst zs)→Prs H' zs (halR (hasK kvs) ps.length ps ps.length)→Q (.ref l) H'
def duR (fs:List Int) (n:Nat) (ts:List (Int × Int)) (k:Nat):List (Int × Int × Int):=((List.range k).map fun j=>((ts.getD j (0,0)).1,(ts.getD j (0,0)).2,Fl.at' fs (2 * n + 2 * j) + Fl.at' fs (2 * n + 2 * j + 1))).filter fun d=>decide (d.2.2 > 0)
def jod:Sp:=fun vs H Q _=>∃ v ps ts fl fs,vs = [v,.ref fl]∧jdu H v ps ts∧WebOk ps ts∧H fl = some (.lst (fs.map V.int))∧fs.length = 2 * ps.length + 2 * ts.length∧∀ l zs H',H l = none→Same H H'→H' l = some (.lst zs)→Tps H' zs (duR fs ps.length ts ts.length)→Q (.ref l) H'
theorem jdx {α:Type} {l:List α} {i:Nat} {a d:α} (h:l[i]? = some a):l.getD i d = a:=by rw [List.getD_eq_getElem?_getD,h]; rfl
theorem jrp {xs:List V} {k:Nat} (h1:k ≤ xs.length):cutV xs (some (k:Int)) none = xs.drop k:=by
 unfold cutV HT.sIx
 simp only [if_neg (show ¬ (k:Int) < 0 by omega)]
 rw [Nat.min_eq_left (by omega)]
 exact List.take_of_length_le (by rw [List.length_drop]; exact Nat.le_refl _)
theorem jr4 {f:Addr} {fd:FuncData}  (B:Blt mg) (D:MthAt K C_Net "flows" "Net.flows" (meth 5 6) ["self"] f fd) (T:NetC K mg C_Net):FnOk P w K mg base CX0 1 f fd ["self"] (joc C_Net):=by
 have sc:FnScope ["self"] ["self"] (jba (meth 5 6)):=⟨rfl,rfl,rfl,by decide +kernel,rfl,by decide +kernel,by decide +kernel⟩
 refine D.F.ok sc (fun vs H Q E h=>?_) (fun cdv A outer s H vs Q E hr h=>?_)
 ·obtain ⟨p,R,wf,hs,m,n,r,rfl,_⟩:=h
  rfl
 obtain ⟨p,R,wf,hs,m,n,r,rfl,N,h⟩:=h
 have hu:=jc7 hr
 have hu0:_ < PySem.cLine:=Nat.lt_of_succ_lt hu
 refine ⟨_,(jb9 (jbq (jow (b:=false) rfl (jcz T.cl T.n_rooms (qv 0) rfl)))),?_⟩
 obtain ⟨⟨dx,W,Hd,ls,e1,e2,e3,e4,e5,n1,n2,n3⟩,eR,net,hlen,hbig,hn⟩:=N
 simp_all_arith [e1,jng,eR]
 intro l hl
 rw [jgr]
 exact h l _ hl (jag hl _) ja1
theorem jg4 {f:Addr} {fd:FuncData} {f_spread:Addr} {d_spread:FuncData} (B:Blt mg) (D:MthAt K C_Net "reached_from" "Net.reached_from" (meth 5 7) ["self","source"] f fd) (D_spread:MthAt K C_Net "spread" "Net.spread" (meth 5 4) ["self","source"] f_spread d_spread) (G_spread:FnOk P w K mg base CX0 1 f_spread d_spread ["self","source"] (jhr C_Net)) (T:NetC K mg C_Net):FnOk P w K mg base CX0 2 f fd ["self","source"] (jo7 C_Net):=by
 have sc:FnScope ["self","source"] ["self","source"] (jba (meth 5 7)):=⟨rfl,rfl,rfl,by decide +kernel,rfl,by decide +kernel,by decide +kernel⟩
 refine D.F.ok sc (fun vs H Q E h=>?_) (fun cdv A outer s H vs Q E hr h=>?_)
 ·obtain ⟨p,s,R,wf,hs,m,n,r,rfl,_⟩:=h
  rfl
 obtain ⟨p,s,R,wf,hs,m,n,r,rfl,N,s0,s1,h64,h⟩:=h
 have hu:=jc7 hr
 have hu0:_ < PySem.cLine:=Nat.lt_of_succ_lt hu
 refine ⟨_,(jb9 (jbq (jbk (jf7 rfl) rfl B.sorted PyProof.Rows.boot_sorted (ja0 (jd4 (qv 0) T.cl D_spread.m G_spread (hr.mono (by decide)) D_spread.b .nil jbs (ja0 (qv 1) jai)) jai)))),?_⟩
 have N0:=N
 obtain ⟨⟨dx,W,Hd,ls,e1,e2,e3,e4,e5,n1,n2,n3⟩,eR,net,hlen,hbig,hn⟩:=N
 simp_all_arith [e1,jhc]
 refine ⟨p,s,R,wf,hs,m,n,r,rfl,N0,s0,s1,fun d H1 hd q1 ed=>?_⟩
 have hcl:=Fl.cb_len (r:=r) net ⟨s0,s1⟩ n
 refine ⟨d,_,(Fl.cbOf wf hs n s r).map (·.1),rfl,ed,?_,by rw [List.length_map]; exact Nat.lt_of_le_of_lt hcl h64,fun l ms hl pm _=>?_⟩
 ·unfold cbK
  rw [List.map_map,List.map_map]
  rfl
 ·exact h l ms _ (q1.free hl) (q1.trans (jag hl _)) ja1 pm
theorem jf1 {f:Addr} {fd:FuncData}  (B:Blt mg) (D:DefAt K mg "halves_reached" (top 30) ["web","reached"] f fd) (C2:Cst2 mg e1 e2 e3):FnOk P w K mg base CX0 1 f fd ["web","reached"] js2:=by
 have sc:FnScope ["web","reached","many","halves","at","pair","left","right"] ["web","reached"] (jba (top 30)):=⟨rfl,rfl,rfl,by decide +kernel,rfl,by decide +kernel,by decide +kernel⟩
 refine D.F.ok sc (fun vs H Q E h=>?_) (fun cdv A outer s H vs Q E hr h=>?_)
 ·obtain ⟨v,ps,ts,d,kvs,rfl,_⟩:=h
  rfl
 obtain ⟨v,ps,ts,d,kvs,rfl,hw,wk,ed,h⟩:=h
 obtain ⟨u,pa,ta,xs,ys,rfl,hu1,hpa,hta,hxs,hys⟩:=hw
 have hxl:=Paired.length hxs
 have hu:=jc7 hr
 have hu0:_ < PySem.cLine:=Nat.lt_of_succ_lt hu
 refine ⟨_,(jah (jbf (i:=2) sc.nd rfl (Or.inl rfl) (jbk ji0 rfl B.len PySem.boot_len (ja0 (jbl q_ix (qv 0) jaj (fun _ _=>rfl)) jai))) (jah (jbf (i:=3) sc.nd rfl (Or.inl rfl) (jcf jai)) (jah (jd8 PassesOwn.never rfl (ji7 rfl B.enumerate (ja0 (jbl q_ix (qv 0) jaj (fun _ _=>rfl)) jai)) (jcw (n:=2) rfl (jbd (jbb (i:=4) sc.nd rfl (Or.inl rfl)) (jbd (jbb (i:=5) sc.nd rfl (Or.inl rfl)) jc9))) (jah (jbf (i:=6) sc.nd rfl (Or.inl rfl) (jmb (jqs (jqv hu (jbw jd3 (jcu (v:=.int 2) rfl C2.FIRST ⟨_,rfl⟩) (qv 4)) (qv 1))) jaj jaj)) (jah (jbf (i:=7) sc.nd rfl (Or.inl rfl) (jmb (jqs (jqv hu (jbw jd3 (jbw jd3 (jcu (v:=.int 2) rfl C2.FIRST ⟨_,rfl⟩) (qv 2)) (qv 4)) (qv 1))) jaj jaj)) (jb9 (jc1 (q_bm PySem.F.plainAttrs_list PySem.F.slot_list_append PySem.F.type_list_append jch (qv 3) (ja0 (jc4 (ja0 (jbl q_ix (qv 5) jaj (fun _ _=>rfl)) (ja0 (jbw jd3 (qv 6) (qv 7)) jai))) jai))))))) (jb9 (jbq (qv 3)))))),?_⟩
 have hpl:=wk.pl
 refine jb8 fun R' hR=>?_
 simp_all_arith [jbo,hu1,at0,hpa]
 subst hR
 refine jb8 fun R' hR=>?_
 walk_at "ND"
 intro l hl
 have q1:=jag hl (.lst [])
 have el:upd H l (.lst []) l = some (.lst []):=ja1
 generalize upd H l (.lst []) = H1 at q1 el
 subst hR
 refine jb8 fun R' hR=>?_
 refine jce (Ite K pa) H1 (fun R3 hR3=>?_) (jiq (K:=K) (a:=pa) (xs:=xs) (fun i σ Hc=>∃ v4 v5 v6 v7 zs,σ = [some (.ref u),some (.ref d),some (.int (xs.length:Int)),some (.ref l),v4,v5,v6,v7]∧Same H Hc∧Hc l = some (.lst zs)∧Prs Hc zs (halR (hasK kvs) ps.length ps i)) ⟨none,none,none,none,[],rfl,q1,el,.nil⟩ (fun i σ Hc _ ⟨_,_,_,_,_,_,s1,_⟩=>SqL.of (s1 _ _ hpa)) ?_ ?_)
 ·unfold ju0
  simp_all_arith [jbo,q1 _ _ hu1,at0]
  exact ⟨pa,rfl,⟨_,SqL.of (q1 _ _ hpa)⟩,hR3⟩
 ·rintro i x σ Hc t hx ⟨v4,v5,v6,v7,zs,rfl,s2,el2,pz⟩ ht
  obtain ⟨p,hp,px⟩:=jbi hxs hx
  have hil:=(List.getElem?_eq_some_iff.mp hp).1
  have q3:=jag ht (.tup [.int i,x])
  have s3:=s2.trans q3
  have et:upd Hc t (.tup [.int i,x]) t = some (.tup [.int i,x]):=ja1
  have el3:=q3 _ _ el2
  have pz3:=Prs.same q3 pz
  obtain ⟨b,rfl,eb⟩:=px.same s3
  generalize upd Hc t (.tup [.int i,.ref b]) = H3 at q3 s3 et el3 pz3 eb
  have ed3:=s3 _ _ ed
  have hzl:=Paired.length pz
  have hhl:(halR (hasK kvs) ps.length ps i).length = i:=by unfold halR; rw [List.length_map,List.length_range]
  have key:∀ n:Int,(valV kvs (Sum.inl n:Key)).isSome = hasK kvs n:=fun n=>rfl
  have fin:∀ (a c:Int),a = (if hasK kvs (2 + (i:Int)) = true then 0 else 1)→c = (if hasK kvs (2 + (xs.length:Int) + (i:Int)) = true then 1 else 0)→∀ t2,H3 t2 = none→∃ v4 v5 v6 v7 zs',[some (V.ref u),some (.ref d),some (.int (xs.length:Int)),some (.ref l),some (.int i),some (.ref b),some (.int a),some (.int c)] = [some (V.ref u),some (.ref d),some (.int (xs.length:Int)),some (.ref l),v4,v5,v6,v7]∧Same H (upd (upd H3 t2 (.tup [.int p.1,.int (a + c)])) l (.lst (zs ++ [.ref t2])))∧upd (upd H3 t2 (.tup [.int p.1,.int (a + c)])) l (.lst (zs ++ [.ref t2])) l = some (.lst zs')∧Prs (upd (upd H3 t2 (.tup [.int p.1,.int (a + c)])) l (.lst (zs ++ [.ref t2]))) zs' (halR (hasK kvs) ps.length ps (i + 1)):=fun a c ha hc t2 ht2=>by
   have q4:=jag ht2 (.tup [.int p.1,.int (a + c)])
   have t6:=jbt (ys:=zs ++ [.ref t2]) (q4 _ _ el3)
   refine ⟨_,_,_,_,zs ++ [.ref t2],rfl,jbh (s3.trans q4) hl,ja1,?_⟩
   have eh:halR (hasK kvs) ps.length ps (i + 1) = halR (hasK kvs) ps.length ps i ++ [(p.1,a + c)]:=by
    unfold halR
    rw [List.range_succ,List.map_append,List.map_singleton,jdx hp,ha,hc,hxl]
   rw [eh]
   exact jbn (Prs.tups t6 (Prs.same q4 pz3)) ⟨t2,rfl,t6 _ _ rfl ja1⟩
  simp_all_arith [et,ed3,key]
  cases c1:hasK kvs (2 + (i:Int)) <;> cases c3:hasK kvs (2 + (xs.length:Int) + (i:Int))
  all_goals
   simp_all_arith [jbo,eb,at0,c3,ed3,key]
   refine ⟨⟨l,zs,rfl,el3⟩,fun t2 ht2=>?_⟩
   have e9:=fun o=>jag ht2 o _ _ el3
   simp only [e9]
   exact ⟨szl' (by omega),fin _ _ (by rw [c1]; rfl) (by rw [c3]; rfl) t2 ht2⟩
 ·rintro σ Hc ⟨v4,v5,v6,v7,zs,rfl,s2,el2,pz⟩
  subst hR
  walk_at "ND"
  rw [hxl] at pz
  exact h l zs Hc hl s2 el2 pz
theorem jg8 {f:Addr} {fd:FuncData}  (B:Blt mg) (D:DefAt K mg "dues_flowing" (top 29) ["web","flows"] f fd):FnOk P w K mg base CX0 1 f fd ["web","flows"] jod:=by
 have sc:FnScope ["web","flows","across","amounts"] ["web","flows"] (jba (top 29)):=⟨rfl,rfl,rfl,by decide +kernel,rfl,by decide +kernel,by decide +kernel⟩
 refine D.F.ok sc (fun vs H Q E h=>?_) (fun cdv A outer s H vs Q E hr h=>?_)
 ·obtain ⟨v,ps,ts,fl,fs,rfl,_⟩:=h
  rfl
 obtain ⟨v,ps,ts,fl,fs,rfl,hw,wk,ef,hfl,h⟩:=h
 obtain ⟨u,pa,ta,xs,ys,rfl,hu1,hpa,hta,hxs,hys⟩:=hw
 have hxl:=Paired.length hxs
 have hyl:=Paired.length hys
 have hu:=jc7 hr
 have hu0:_ < PySem.cLine:=Nat.lt_of_succ_lt hu
 refine ⟨_,(jah (jbf (i:=2) sc.nd rfl (Or.inl rfl) (jfj jqt (qv 1) (jhy (jbw jhz jaj (jbk ji0 rfl B.len PySem.boot_len (ja0 (jbl q_ix (qv 0) jaj (fun _ _=>rfl)) jai)))) ji5)) (jah (jku (i:=3) sc.nd rfl (Or.inl rfl) (CpScope.of (N:=["there","back"]) (src:=[none,none]) (by rfl)) rfl (jou rfl B.zip (ja0 (jow (b:=true) rfl (qv 2)) (ja0 (jow (b:=false) rfl (qv 2)) jai))) (fun _ _ _ _=>(jcw (n:=2) rfl (jbd (jbb (i:=0) (jbc (l:=["there","back"]) (by rfl)) rfl (Or.inl rfl)) (jbd (jbb (i:=1) (jbc (l:=["there","back"]) (by rfl)) rfl (Or.inl rfl)) jc9)))) (fun _ _ _ _=>jci) (fun _ _ _ _=>(jbw jd3 (qv 0) (qv 1)))) (jb9 (jbq (jc6 (CpScope.of (N:=["tie","amount"]) (src:=[none,none]) (by rfl)) rfl (jou rfl B.zip (ja0 (jbl q_ix (qv 0) jaj (fun _ _=>rfl)) (ja0 (qv 3) jai))) (fun _ _ _ _=>(jcw (n:=2) rfl (jbd (jbb (i:=0) (jbc (l:=["tie","amount"]) (by rfl)) rfl (Or.inl rfl)) (jbd (jbb (i:=1) (jbc (l:=["tie","amount"]) (by rfl)) rfl (Or.inl rfl)) jc9)))) (fun _ _ _ _=>(jez (jd7 q_gt (qv 1) jaj (jcc _)))) (fun _ _ _ _=>(jc4 (ja0 (jbl q_ix (qv 0) jaj (fun _ _=>rfl)) (ja0 (jbl q_ix (qv 0) jaj (fun _ _=>rfl)) (ja0 (qv 1) jai)))))))))),?_⟩
 have hpl:=wk.pl
 have htl:=wk.tl
 refine jb8 fun R' hR=>?_
 simp_all_arith [jbo,hu1,at0,hpa,ef]
 refine ⟨cmL (by decide) (by decide),?_⟩
 intro ac hac
 rw [show (2:Int) * (xs.length:Int) = ((2 * ps.length:Nat):Int) by omega,jrp (by rw [List.length_map]; omega),← List.map_drop]
 have q1:=jag hac (.lst ((fs.drop (2 * ps.length)).map V.int))
 have ea:upd H ac (.lst ((fs.drop (2 * ps.length)).map V.int)) ac = some (.lst ((fs.drop (2 * ps.length)).map V.int)):=ja1
 generalize upd H ac (.lst ((fs.drop (2 * ps.length)).map V.int)) = H1 at q1 ea
 have hgl:(fs.drop (2 * ps.length)).length = 2 * ts.length:=by rw [List.length_drop]; omega
 have hgat:∀ k,Fl.at' (fs.drop (2 * ps.length)) k = Fl.at' fs (2 * ps.length + k):=fun k=>by unfold Fl.at'; rw [List.getD_eq_getElem?_getD,List.getD_eq_getElem?_getD,List.getElem?_drop]
 generalize fs.drop (2 * ps.length) = gs at *
 have la:∀ b,(alt b gs).length = ts.length:=fun b=>by
  have hb1:(if b = true then 0 else 1:Nat) ≤ 1:=by split <;> decide
  have h1:=jgs b gs
  have hlt:∀ j,j < ts.length→j < (alt b gs).length:=fun j hj=>by
   have:=h1 j
   rw [List.getElem?_eq_getElem (show 2 * j + (if b = true then 0 else 1) < gs.length by omega)] at this
   exact (List.getElem?_eq_some_iff.mp this).1
  have hge:¬ ts.length < (alt b gs).length:=fun z=>by
   have:=h1 ts.length
   rw [List.getElem?_eq_getElem z,List.getElem?_eq_none (show gs.length ≤ 2 * ts.length + (if b = true then 0 else 1) by omega)] at this
   cases this
  by_cases c:ts.length = 0
  ·omega
  ·have:=hlt (ts.length - 1) (by omega)
   omega
 subst hR
 refine jb8 fun R' hR=>?_
 walk_at "ND"
 refine jd6 (ι:=Addr × Addr × Hp) (fun y=>Itz true K y.1 y.2.1) (fun y=>y.2.2) (fun y=>Same H1 y.2.2∧y.2.2 y.1 = some (.lst ((alt true gs).map V.int))∧y.2.2 y.2.1 = some (.lst ((alt false gs).map V.int))) (fun R2 hR2=>?_) ?_
 ·unfold jtz
  simp_all_arith [ea]
  intro b1 hb1
  rw [jgr]
  have s1:=jag hb1 (.lst ((alt true gs).map V.int))
  have eb1:upd H1 b1 (.lst ((alt true gs).map V.int)) b1 = some (.lst ((alt true gs).map V.int)):=ja1
  generalize upd H1 b1 (.lst ((alt true gs).map V.int)) = H2 at s1 eb1
  simp_all_arith [s1 _ _ ea]
  intro b2 hb2
  rw [jgr]
  have s2:=s1.trans (jag hb2 (.lst ((alt false gs).map V.int)))
  have eb2:upd H2 b2 (.lst ((alt false gs).map V.int)) b2 = some (.lst ((alt false gs).map V.int)):=ja1
  have eb1':=jag hb2 (.lst ((alt false gs).map V.int)) _ _ eb1
  generalize upd H2 b2 (.lst ((alt false gs).map V.int)) = H3 at s2 eb2 eb1'
  exact ⟨true,b1,b2,rfl,⟨_,SqL.of eb1'⟩,⟨_,SqL.of eb2⟩,hR2 (b1,b2,H3) ⟨s2,eb1',eb2⟩⟩
 rintro ⟨b1,b2,H3⟩ ⟨s3,eb1,eb2⟩ am ham
 refine jbu ts.length (fun i σ' Hc=>∃ w1 w2,σ' = [w1,w2]∧Same H3 Hc∧Hc am = some (.lst (((List.range i).map fun j=>Fl.at' gs (2 * j) + Fl.at' gs (2 * j + 1)).map V.int))) ⟨none,none,rfl,jag ham _,ja1⟩ ?_ ?_
 ·rintro i σ' Hc hi ⟨w1,w2,rfl,s4,em⟩
  have z1:SqB true K Hc b1 ((alt true gs).map V.int):=SqL.of (s4 _ _ eb1)
  have z2:SqB true K Hc b2 ((alt false gs).map V.int):=SqL.of (s4 _ _ eb2)
  have at1':∀ b,(alt b gs)[i]? = some (Fl.at' gs (2 * i + (if b then 0 else 1))):=fun b=>by
   rw [jgs,List.getElem?_eq_getElem (by cases b <;> simp <;> omega)]
   unfold Fl.at'
   rw [List.getD_eq_getElem?_getD,List.getElem?_eq_getElem (by cases b <;> simp <;> omega)]
   rfl
  have x1:((alt true gs).map V.int)[i]? = some (.int (Fl.at' gs (2 * i))):=by rw [List.getElem?_map,at1' true]; rfl
  have x2:((alt false gs).map V.int)[i]? = some (.int (Fl.at' gs (2 * i + 1))):=by rw [List.getElem?_map,at1' false]; rfl
  refine ⟨⟨_,_,_,_,z1,z2,x1,x2⟩,?_⟩
  rintro x H' ⟨t,y1,y2,ht,rfl,rfl,g1,g2⟩
  have E1:=Option.some.inj (x1.symm.trans (g1 _ z1))
  have E2:=Option.some.inj (x2.symm.trans (g2 _ z2))
  subst E1 E2
  have q5:=jag ht (.tup [.int (Fl.at' gs (2 * i)),.int (Fl.at' gs (2 * i + 1))])
  simp_all_arith [ja1]
  refine ⟨_,q5 _ _ em,?_,_,_,rfl,jbh (s4.trans q5) ham,?_⟩
  ·rw [List.length_map,List.length_map,List.length_range]
   exact szl' (by omega)
  ·try rw [ja1]
   rw [List.range_succ,List.map_append,List.map_append]
   rfl
 rintro σ' H4 ⟨w1,w2,rfl,s4,em⟩
 refine ⟨⟨_,_,SqL.of (s4 _ _ eb1),SqL.of (s4 _ _ eb2),.inl (by rw [List.length_map,la]; exact Nat.le_refl _)⟩,?_⟩
 have s5:=(q1.trans s3).trans s4
 walk_at "ND"
 subst hR
 walk_at "ND"
 refine jbp (Itz true K ta am) H4 (fun R2 hR2=>?_) (fun l hl0=>jbu ts.length (fun i σ' Hc=>∃ w1 w2 zs,σ' = [w1,w2]∧Same H4 Hc∧Hc l = some (.lst zs)∧Tps Hc zs (duR fs ps.length ts i)) ⟨none,none,[],rfl,jag hl0 _,ja1,.nil⟩ ?_ ?_)
 ·unfold jtz
  simp_all_arith [jbo,s5 _ _ hu1,at1]
  exact ⟨true,ta,am,rfl,⟨_,SqL.of (s5 _ _ hta)⟩,⟨_,SqL.of em⟩,hR2⟩
 ·rintro i σ' Hc hi ⟨w1,w2,zs,rfl,s6,el,pz⟩
  have s7:=s5.trans s6
  have z1:SqB true K Hc ta ys:=SqL.of (s7 _ _ hta)
  have z2:SqB true K Hc am (((List.range ts.length).map fun j=>Fl.at' gs (2 * j) + Fl.at' gs (2 * j + 1)).map V.int):=SqL.of (s6 _ _ em)
  have x1:ys[i]? = some (ys[i]'(by omega)):=List.getElem?_eq_getElem _
  have x2:(((List.range ts.length).map fun j=>Fl.at' gs (2 * j) + Fl.at' gs (2 * j + 1)).map V.int)[i]? = some (.int (Fl.at' gs (2 * i) + Fl.at' gs (2 * i + 1))):=by
   rw [List.getElem?_map,List.getElem?_map,List.getElem?_range hi]; rfl
  refine ⟨⟨_,_,_,_,z1,z2,x1,x2⟩,?_⟩
  rintro x H' ⟨t,y1,y2,ht,rfl,rfl,g1,g2⟩
  have E2:=Option.some.inj (x2.symm.trans (g2 _ z2))
  subst E2
  obtain ⟨tt,htt,pt⟩:=jbi hys (g1 _ z1)
  have q8:=jag ht (.tup [y1,.int (Fl.at' gs (2 * i) + Fl.at' gs (2 * i + 1))])
  have s8:=s7.trans q8
  obtain ⟨tb,rfl,etb⟩:=pt.same s8
  have et:upd Hc t (.tup [.ref tb,.int (Fl.at' gs (2 * i) + Fl.at' gs (2 * i + 1))]) t = some (.tup [.ref tb,.int (Fl.at' gs (2 * i) + Fl.at' gs (2 * i + 1))]):=ja1
  have el8:=q8 _ _ el
  have pz8:=jbv q8.tups pz
  have s68:=s6.trans q8
  generalize upd Hc t (.tup [.ref tb,.int (Fl.at' gs (2 * i) + Fl.at' gs (2 * i + 1))]) = H8 at q8 s8 etb et el8 pz8 s68
  have hdu:duR fs ps.length ts (i + 1) = duR fs ps.length ts i ++ (if Fl.at' gs (2 * i) + Fl.at' gs (2 * i + 1) > 0 then [(tt.1,tt.2,Fl.at' gs (2 * i) + Fl.at' gs (2 * i + 1))] else []):=by
   unfold duR
   rw [List.range_succ,List.map_append,List.filter_append,List.map_singleton,jdx htt,hgat,hgat,Nat.add_assoc]
   congr 1
   rw [List.filter_cons]
   by_cases c:Fl.at' fs (2 * ps.length + 2 * i) + Fl.at' fs (2 * ps.length + (2 * i + 1)) > 0
   ·rw [if_pos c,if_pos (decide_eq_true c)]; rfl
   ·rw [if_neg c,if_neg (by simpa using c)]; rfl
  have hzl:=Paired.length pz
  have hzl2:zs.length ≤ i:=by
   rw [hzl]
   unfold duR
   refine Nat.le_trans (List.length_filter_le _ _) ?_
   rw [List.length_map,List.length_range]
   exact Nat.le_refl _
  simp_all_arith [et]
  refine ite2 (fun c=>?_) (fun c=>?_)
  ·rw [if_pos (of_decide_eq_true c)] at hdu
   simp_all_arith [jbo,etb,at0,at1]
   intro t2 ht2
   have q9:=jag ht2 (.tup [.int tt.1,.int tt.2,.int (Fl.at' gs (2 * i) + Fl.at' gs (2 * i + 1))])
   have el9:=q9 _ _ el8
   have t9:=jbt (ys:=zs ++ [.ref t2]) el9
   refine ⟨zs,el9,szl' (by omega),_,_,zs ++ [.ref t2],rfl,jbh (s68.trans q9) hl0,(by first | rfl | exact ja1),?_⟩
   rw [hdu]
   exact jbn (jbv t9 (jbv q9.tups pz8)) ⟨t2,rfl,t9 _ _ rfl ja1⟩
  ·rw [if_neg (fun z=>c (decide_eq_true z)),List.append_nil] at hdu
   rw [hdu]
   exact ⟨_,_,zs,rfl,s68,el8,pz8⟩
 ·rintro σ' Hc ⟨w1,w2,zs,rfl,s6,el,pz⟩
  refine ⟨⟨_,_,SqL.of ((s5.trans s6) _ _ hta),SqL.of (s6 _ _ em),.inl (by omega)⟩,?_⟩
  exact h l zs Hc (s5.free hl0) (s5.trans s6) el pz
end
end My
namespace L2
open PySem PySem.Spec PyProof.Rows
section
variable {X:Cx}
theorem joi:seqSlot? (.type "list") (dunderI "add") = pure (some (.builtin "list.__iadd__"))  :=PySem.seqSlot_of F.slot_list_iadd.lookup (by decide +kernel)
theorem jnh:fillsInplaceSlot (.type "list") "add" (Operator.Add == .Add) = pure false:=by
 unfold fillsInplaceSlot
 show (typeLookup (.type "list") (dunderI "add") >>= fun fi=>pure (fi.isSome && !isSeqSlot fi)) = pure false
 rw [F.slot_list_iadd.lookup]
 have:isSeqSlot (some (Value.builtin "list.__iadd__")) = true:=by decide +kernel
 show (pure (true && !isSeqSlot (some (Value.builtin "list.__iadd__"))):Sem Bool) = pure false
 rw [this]
 rfl
def jcb:TIp:=fun x y H Q=>match x,y with
 | .ref l,.ref b=>match H l,H b with
  | some (.lst xs),some (.lst zs)=>xs.length + zs.length ≤ sizeLine∧Q (.ref l) (upd H l (.lst (xs ++ zs)))
  | _,_=>False
 | _,_=>False
theorem jtv:PIp X .Add jcb:=by
 intro pins s σ H x y v u Q I rx ry h
 unfold jcb at h
 split at h
 ·rename_i l b
  split at h
  ·rename_i xs zs hH hB
   obtain ⟨hz,q⟩:=h
   cases rx
   cases ry
   obtain ⟨z,its,n,r,hl,e⟩:=I.lstM hH
   obtain ⟨z2,its2,n2,r2,hl2,e2⟩:=I.lstM hB
   have hsz:its.toArray.size + its2.toArray.size ≤ sizeLine:=by rw [List.size_toArray,List.size_toArray]; omega
   have hlong:¬ (!its.toArray.isEmpty && Builtin.List.listTooLong (its.toArray.size + its2.toArray.size)) = true:=by
    rw [jme hsz,Bool.and_false]
    exact Bool.false_ne_true
   have ha:s.TypeIs (.ref l) "list":=⟨_,e,rfl⟩
   have hb:s.TypeIs (.ref b) "list":=⟨_,e2,rfl⟩
   unfold inplaceOp
   refine wpAny_holding ?_
   refine wpAny_bind (wpAny_typeOf ha (wpAny_bind (wpAny_of_eq jnh ?_)))
   show wpAny _ _ (if false = true then _ else _) _ _ s
   rw [if_neg Bool.false_ne_true]
   refine wpAny_bind (wpAny_binaryOp1_none (nm:="add") ha hb noFill_list_add ?_)
   refine wpAny_bind (wpAny_of_eq joi ?_)
   refine wpAny_bind (wpAny_rule ?_)
   refine call_meets F.slot_list_iadd ha F.entry_list_iadd (F.args_list_iadd_2 _ _)
    (AutoSeq1.list___iadd___list_list_0 l its.toArray n b its2.toArray n2 hlong (by rw [List.size_toArray]; omega) (by omega)) ⟨e,e2,?_⟩
   refine ⟨.ref l,_,I.lset (its':=its ++ its2) hH e (by simp) (r.append r2) ?_,rfl,q⟩
   rw [List.length_append]
   omega
  ·exact h.elim
 ·exact h.elim
end
end L2
namespace My
open PySem L2
section
variable {P:Program} {w:World} {K:PySem.W.Frag} {mg:Str→Option Value} {base:Heap} {c1 c2 c3 c4 e1 e2 e3:Tok} {C_Net C_NoWeb f_NoWeb:Addr} {dI:FuncData}
def spL (ps:List (Int × Int)) (k:Nat):List (Int × Int):=(List.range k).map fun i=>((ps.getD i (0,0)).1,2 + (i:Int))
theorem jkr (ps:List (Int × Int)):∀ k,k ≤ ps.length→(spL ps k).map (·.1) = (ps.take k).map (·.1)
 | 0,_=>by simp [spL]
 | k + 1,h=>by
  have hk:ps[k]? = some ps[k]:=List.getElem?_eq_getElem (by omega)
  have ih:=jkr ps k (by omega)
  unfold spL at ih ⊢
  rw [List.range_succ,List.map_append,List.map_append,ih,jbj hk,List.map_append,List.map_singleton,List.map_singleton,List.map_singleton,jdx hk]
def spF (ps:List (Int × Int)) (n:Int):Int:=hOf (spL ps ps.length) n
def plW (ps:List (Int × Int)):Int:=1 + (ps.map (·.2)).sum
def jcj (ps ts:List (Int × Int)):List Fl.Arc:=Fl.arcsD (spF ps) (plW ps) ps ts
theorem job {ps ts:List (Int × Int)} (wk:WebOk ps ts):((spL ps ps.length).map (·.1)).Nodup:=by
 rw [jkr ps ps.length (Nat.le_refl _),List.take_length]
 exact wk.p.nodup
theorem jfz {ps ts:List (Int × Int)} (wk:WebOk ps ts) {n:Int} (h:n ∈ ps.map (·.1)):valV (jd1 (spL ps ps.length)) (Sum.inl n:Key) = some (.int (spF ps n)):=by
 refine jpp (job wk) ?_
 rw [jkr ps ps.length (Nat.le_refl _),List.take_length]
 exact h
theorem js7 {ps ts:List (Int × Int)} (wk:WebOk ps ts) {i:Nat} {p:Int} (h:(ps.map (·.1))[i]? = some p):spF ps p = 2 + (i:Int):=by
 have hi:=(List.getElem?_eq_some_iff.mp h).1
 rw [List.length_map] at hi
 have hm:(p,2 + (i:Int)) ∈ spL ps ps.length:=by
  unfold spL
  refine List.mem_map.mpr ⟨i,List.mem_range.mpr hi,?_⟩
  rw [List.getElem?_map,List.getElem?_eq_getElem hi] at h
  have h2:ps[i].1 = p:=Option.some.inj h
  rw [jdx (List.getElem?_eq_getElem hi),h2]
 have e:=jft (job wk) hm
 rw [jfz wk (List.mem_of_getElem? h)] at e
 exact V.int.inj (Option.some.inj e)
theorem spF_bd {ps ts:List (Int × Int)} (wk:WebOk ps ts) {p:Int} (h:p ∈ ps.map (·.1)):2 ≤ spF ps p∧spF ps p < 2 + (ps.length:Int):=by
 obtain ⟨i,hi,e⟩:=List.mem_iff_getElem.mp h
 rw [js7 wk (i:=i) (by rw [List.getElem?_eq_getElem hi,e])]
 rw [List.length_map] at hi
 omega
theorem je6 {ps ts:List (Int × Int)} (wk:WebOk ps ts):∀ t ∈ ts,t.1 ∈ ps.map (·.1)∧t.2 ∈ ps.map (·.1):=fun t ht=>by
 obtain ⟨_,a,b⟩:=wk.t.in t ht
 exact ⟨jld a,jld b⟩
theorem PlOk.pos:∀ {ps:List (Int × Int)} {l s:Int},PlOk l s ps→∀ p ∈ ps,1 ≤ p.2
 | [],_,_,_,p,h=>by cases h
 | q :: r,l,s,h,p,hp=>by
  rcases List.mem_cons.mp hp with e | hp
  ·rw [e]; exact h.1.2.2.1
  ·exact PlOk.pos h.2 p hp
theorem jiy {ps ts:List (Int × Int)} (wk:WebOk ps ts):∀ a ∈ jcj ps ts,((0 ≤ a.1∧a.1 < ((2 + (ps.length + ps.length):Nat):Int))∧0 ≤ a.2.1∧a.2.1 < ((2 + (ps.length + ps.length):Nat):Int))∧0 ≤ a.2.2 :=
 Fl.arcsD_ok (fun p hp=>spF_bd wk hp) (je6 wk) (fun p hp=>by have:=wk.p.pos p hp; omega) (by
  have h:0 ≤ (ps.map (·.2)).sum:=by
   have:=Fl.sum_le (f:=fun _=>(0:Int)) (g:=fun p:Int × Int=>p.2) (l:=ps) fun p hp=>by have:=wk.p.pos p hp; omega
   rw [Fl.sum_zero] at this
   exact this
  unfold plW
  omega)
theorem jgq (ps ts:List (Int × Int)):(jcj ps ts).length = ps.length + ps.length + 2 * ts.length:=Fl.arcsD_len _ _ _ _
def jji (C:Addr):Sp:=fun vs H Q _=>∃ v ps ts,vs = [v]∧jdu H v ps ts∧WebOk ps ts∧∀ p R H',H R = none→Same H H'→Nt C H' p R (Fl.wfA (jcj ps ts)) (Fl.hsA (jcj ps ts)) (jcj ps ts).length (2 + (ps.length + ps.length)) (Fl.rmA (jcj ps ts))→Q (.ref p) H'
theorem jf8 (sp:Int→Int) (n pl:Int) (t:Int × Int):∀ ts,Fl.tieArcs sp n pl (ts ++ [t]) = (Fl.tieArcs sp n pl ts ++ [(sp t.1,sp t.2 + n,pl)]) ++ [(sp t.2,sp t.1 + n,pl)]
 | []=>rfl
 | u :: r=>by rw [List.cons_append,Fl.tieArcs,jf8 sp n pl t r]; rfl
theorem je4 {α β:Type} {F:α→β→Prop}:∀ {xs xs':List α} {ys ys':List β},Paired F xs ys→Paired F xs' ys'→Paired F (xs ++ xs') (ys ++ ys')
 | _,_,_,_,.nil,h=>h
 | _,_,_,_,.cons a t,h=>.cons a (je4 t h)
theorem jn5 {f:Addr} {fd:FuncData} {f_init:Addr} {d_init:FuncData} (B:Blt mg) (D:DefAt K mg "doubled" (top 28) ["web"] f fd) (D_init:MthAt K C_Net "__init__" "Net.__init__" (meth 5 0) ["self","many","arcs"] f_init d_init) (G_init:FnOk P w K mg base CX0 2 f_init d_init ["self","many","arcs"] (js1 C_Net)) (T:NetC K mg C_Net) (C2:Cst2 mg e1 e2 e3) (MK:Mk K C_Net f_init):FnOk P w K mg base CX0 5 f fd ["web"] (jji C_Net):=by
 have sc:FnScope ["web","many","plenty","spots","arcs","one","other"] ["web"] (jba (top 28)):=⟨rfl,rfl,rfl,by decide +kernel,rfl,by decide +kernel,by decide +kernel⟩
 refine D.F.ok sc (fun vs H Q E h=>?_) (fun cdv A outer s H vs Q E hr h=>?_)
 ·obtain ⟨v,ps,ts,rfl,_⟩:=h
  rfl
 obtain ⟨v,ps,ts,rfl,hw,wk,h⟩:=h
 obtain ⟨u,pa,ta,xs,ys,rfl,hu1,hpa,hta,hxs,hys⟩:=hw
 have hxl:=Paired.length hxs
 have hyl:=Paired.length hys
 have hu:=jc7 hr
 have hu0:_ < PySem.cLine:=Nat.lt_of_succ_lt hu
 refine ⟨_,(jah (jbf (i:=1) sc.nd rfl (Or.inr rfl) (jbk ji0 rfl B.len PySem.boot_len (ja0 (jbl q_ix (qv 0) jaj (fun _ _=>rfl)) jai))) (jah (jbf (i:=2) sc.nd rfl (Or.inl rfl) (jbw jd3 jaj (jbk (q_sum rfl) rfl B.sum PyProof.Rows.boot_sum (ja0 (jc6 (CpScope.of (N:=["place","price"]) (src:=[none,none]) (by rfl)) rfl (jbr (jbl q_ix (qv 0) jaj (fun _ _=>rfl))) (fun _ _ _ _=>(jcw (n:=2) rfl (jbd (jbb (i:=0) (jbc (l:=["place","price"]) (by rfl)) rfl (Or.inl rfl)) (jbd (jbb (i:=1) (jbc (l:=["place","price"]) (by rfl)) rfl (Or.inl rfl)) jc9)))) (fun _ _ _ _=>jci) (fun _ _ _ _=>(qv 1))) jai)))) (jah (jbf (i:=3) sc.nd rfl (Or.inr rfl) (jcx (ji1 rfl) rfl B.dict PyProof.Rows.boot_dict (ja0 (jc6 (CpScope.of (N:=["at","pair"]) (src:=[none,none]) (by rfl)) rfl (ji7 rfl B.enumerate (ja0 (jbl q_ix (qv 0) jaj (fun _ _=>rfl)) jai)) (fun _ _ _ _=>(jcw (n:=2) rfl (jbd (jbb (i:=0) (jbc (l:=["at","pair"]) (by rfl)) rfl (Or.inl rfl)) (jbd (jbb (i:=1) (jbc (l:=["at","pair"]) (by rfl)) rfl (Or.inl rfl)) jc9)))) (fun _ _ _ _=>jci) (fun _ _ _ _=>(jc4 (ja0 (jbl q_ix (qv 1) jaj (fun _ _=>rfl)) (ja0 (jbw jd3 (jcu (v:=.int 2) rfl C2.FIRST ⟨_,rfl⟩) (qv 0)) jai))))) jai))) (jah (jku (i:=4) sc.nd rfl (Or.inl rfl) (CpScope.of (N:=["place","price","spots"]) (src:=[none,none,some 3]) (by rfl)) rfl (jbr (jbl q_ix (qv 0) jaj (fun _ _=>rfl))) (fun _ _ _ _=>(jcw (n:=2) rfl (jbd (jbb (i:=0) (jbc (l:=["place","price","spots"]) (by rfl)) rfl (Or.inl rfl)) (jbd (jbb (i:=1) (jbc (l:=["place","price","spots"]) (by rfl)) rfl (Or.inl rfl)) jc9)))) (fun _ _ _ _=>jci) (fun _ _ _ _=>(jc4 (ja0 (jcu (v:=.int 0) rfl C2.SOURCE ⟨_,rfl⟩) (ja0 (jd2 hu (qv 2) (qv 0) (fun _ _=>rfl)) (ja0 (qv 1) jai)))))) (jah (jjk (i:=4) sc.nd rfl (Or.inl rfl) (jc6 (CpScope.of (N:=["place","price","many","spots"]) (src:=[none,none,some 1,some 3]) (by rfl)) rfl (jbr (jbl q_ix (qv 0) jaj (fun _ _=>rfl))) (fun _ _ _ _=>(jcw (n:=2) rfl (jbd (jbb (i:=0) (jbc (l:=["place","price","many","spots"]) (by rfl)) rfl (Or.inl rfl)) (jbd (jbb (i:=1) (jbc (l:=["place","price","many","spots"]) (by rfl)) rfl (Or.inl rfl)) jc9)))) (fun _ _ _ _=>jci) (fun _ _ _ _=>(jc4 (ja0 (jbw jd3 (jd2 hu (qv 3) (qv 0) (fun _ _=>rfl)) (qv 2)) (ja0 (jcu (v:=.int 1) rfl C2.SINK ⟨_,rfl⟩) (ja0 (qv 1) jai)))))) jtv) (jah (jd8 PassesOwn.never rfl (jbr (jbl q_ix (qv 0) jaj (fun _ _=>rfl))) (jcw (n:=2) rfl (jbd (jbb (i:=5) sc.nd rfl (Or.inl rfl)) (jbd (jbb (i:=6) sc.nd rfl (Or.inl rfl)) jc9))) (jah (jc1 (q_bm PySem.F.plainAttrs_list PySem.F.slot_list_append PySem.F.type_list_append jch (qv 4) (ja0 (jc4 (ja0 (jd2 hu (qv 3) (qv 5) (fun _ _=>rfl)) (ja0 (jbw jd3 (jd2 hu (qv 3) (qv 6) (fun _ _=>rfl)) (qv 1)) (ja0 (qv 2) jai)))) jai))) (jb9 (jc1 (q_bm PySem.F.plainAttrs_list PySem.F.slot_list_append PySem.F.type_list_append jch (qv 4) (ja0 (jc4 (ja0 (jd2 hu (qv 3) (qv 6) (fun _ _=>rfl)) (ja0 (jbw jd3 (jd2 hu (qv 3) (qv 5) (fun _ _=>rfl)) (qv 1)) (ja0 (qv 2) jai)))) jai)))))) (jb9 (jbq (jta MK G_init (hr.mono (by decide)) rfl T.m D_init.b .nil jbs (ja0 (jbw jd3 (jcu (v:=.int 2) rfl C2.FIRST ⟨_,rfl⟩) (jbw jhz jaj (qv 1))) (ja0 (qv 4) jai))))))))))),?_⟩
 have hpl:=wk.pl
 have htl:=wk.tl
 refine jb8 fun R' hR=>?_
 simp_all_arith [jcb,jbo,hu1,at0,hpa]
 subst hR
 refine jb8 fun R' hR=>?_
 simp_all_arith [jcb]
 refine jbp (Itl K pa) H (fun R2 hR2=>?_) (fun z hz0=>jbu ps.length (fun i σ' Hc=>∃ w1 w2,σ' = [w1,w2]∧Same H Hc∧Hc z = some (.lst (((ps.take i).map (·.2)).map V.int))) ⟨none,none,rfl,jag hz0 _,ja1⟩ ?_ ?_)
 ·unfold jcs
  simp_all_arith [jcb,jbo,hu1,at0]
  exact ⟨pa,rfl,⟨_,SqL.of hpa⟩,hR2⟩
 ·rintro i σ' Hc hi ⟨w1,w2,rfl,s7,ez⟩
  have x1:xs[i]? = some (xs[i]'(by omega)):=List.getElem?_eq_getElem _
  refine ⟨⟨_,_,SqL.of (s7 _ _ hpa),x1⟩,?_⟩
  rintro y H' ⟨rfl,hy⟩
  have E1:=Option.some.inj (x1.symm.trans (hy _ (SqL.of (s7 _ _ hpa))))
  obtain ⟨pr,hpr,px⟩:=jbi hxs x1
  rw [E1] at px
  obtain ⟨b,rfl,hb⟩:=px.same s7
  simp_all_arith [jcb,hb]
  refine ⟨_,ez,?_,_,_,rfl,jbh s7 hz0,?_⟩
  ·rw [List.length_map,List.length_map,List.length_take]
   exact szl' (by omega)
  ·rw [ja1,jbj hpr,List.map_append,List.map_append]
   rfl
 rintro σ' H1 ⟨w1,w2,rfl,s1,ez⟩
 refine ⟨⟨_,SqL.of (s1 _ _ hpa),by omega⟩,?_⟩
 rw [List.take_length] at ez
 refine ⟨z,_,rfl,ez,?_⟩
 simp_all_arith [jcb]
 rw [show (1:Int) + (ps.map (·.2)).sum = plW ps from rfl]
 clear ez
 subst hR
 refine jb8 fun R' hR=>?_
 simp_all_arith [jcb]
 refine jbp (Ite K pa) H1 (fun R2 hR2=>?_) (fun z hz0=>jbu ps.length (fun i σ' Hc=>∃ w1 w2 zs,σ' = [w1,w2]∧Same H1 Hc∧Hc z = some (.lst zs)∧Prs Hc zs (spL ps i)) ⟨none,none,[],rfl,jag hz0 _,ja1,.nil⟩ ?_ ?_)
 ·unfold ju0
  simp_all_arith [jcb,jbo,s1 _ _ hu1,at0]
  exact ⟨pa,rfl,⟨_,SqL.of (s1 _ _ hpa)⟩,hR2⟩
 ·rintro i σ' Hc hi ⟨w1,w2,zs,rfl,s2,ez,pz⟩
  have s3:=s1.trans s2
  have x1:xs[i]? = some (xs[i]'(by omega)):=List.getElem?_eq_getElem _
  have z1:SqL K Hc pa xs:=SqL.of (s3 _ _ hpa)
  refine ⟨⟨_,_,z1,x1⟩,?_⟩
  rintro x H' ⟨t,y,ht,rfl,rfl,g⟩
  obtain ⟨p,hp,px⟩:=jbi hxs (g _ z1)
  have q4:=jag ht (.tup [.int i,y])
  have s4:=s3.trans q4
  obtain ⟨b,rfl,eb⟩:=px.same s4
  have et:upd Hc t (.tup [.int i,.ref b]) t = some (.tup [.int i,.ref b]):=ja1
  have ez4:=q4 _ _ ez
  have pz4:=Prs.same q4 pz
  have s24:=s2.trans q4
  generalize upd Hc t (.tup [.int i,.ref b]) = H4 at q4 s4 eb et ez4 pz4 s24
  have hzl:zs.length = i:=by rw [Paired.length pz]; unfold spL; rw [List.length_map,List.length_range]
  simp_all_arith [jcb,et,jbo,eb,at0]
  intro t2 ht2
  have q5:=jag ht2 (.tup [.int p.1,.int (2 + (i:Int))])
  have ez5:=q5 _ _ ez4
  have t6:=jbt (ys:=zs ++ [.ref t2]) ez5
  refine ⟨zs,ez5,szl' (by omega),_,_,zs ++ [.ref t2],rfl,jbh (s24.trans q5) hz0,(by first | rfl | exact ja1),?_⟩
  have e:spL ps (i + 1) = spL ps i ++ [(p.1,2 + (i:Int))]:=by
   unfold spL
   rw [List.range_succ,List.map_append,List.map_singleton,jdx hp]
  rw [e]
  exact jbn (Prs.tups t6 (Prs.same q5 pz4)) ⟨t2,rfl,t6 _ _ rfl ja1⟩
 rintro σ' H2 ⟨w1,w2,zs,rfl,s2,ez,pz⟩
 have s3:=s1.trans s2
 refine ⟨⟨_,SqL.of (s3 _ _ hpa),by omega⟩,?_⟩
 have hzl:zs.length = ps.length:=by rw [Paired.length pz]; unfold spL; rw [List.length_map,List.length_range]
 simp_all_arith [jcb,ez]
 refine ⟨jd1 (spL ps ps.length),ji9 pz,by omega,jhe (job wk),fun d hd0=>?_⟩
 have s4:=s3.trans (jag hd0 (.dK (jd1 (spL ps ps.length))))
 have ed:upd H2 d (.dK (jd1 (spL ps ps.length))) d = some (.dK (jd1 (spL ps ps.length))):=ja1
 generalize upd H2 d (.dK (jd1 (spL ps ps.length))) = H3 at s4 ed
 clear ez pz hzl
 subst hR
 refine jb8 fun R' hR=>?_
 simp_all_arith [jcb]
 refine jbp (Itl K pa) H3 (fun R2 hR2=>?_) (fun al hal=>jbu ps.length (fun i σ' Hc=>∃ w1 w2 zs,σ' = [w1,w2,some (.ref d)]∧Same H3 Hc∧Hc al = some (.lst zs)∧Tps Hc zs ((ps.take i).map fun p=>((0:Int),spF ps p.1,p.2))) ⟨none,none,[],rfl,jag hal _,ja1,.nil⟩ ?_ ?_)
 ·unfold jcs
  simp_all_arith [jcb,jbo,s4 _ _ hu1,at0]
  exact ⟨pa,rfl,⟨_,SqL.of (s4 _ _ hpa)⟩,hR2⟩
 ·rintro i σ' Hc hi ⟨w1,w2,zs,rfl,s7,ez,pz⟩
  have s8:=s4.trans s7
  have x1:xs[i]? = some (xs[i]'(by omega)):=List.getElem?_eq_getElem _
  refine ⟨⟨_,_,SqL.of (s8 _ _ hpa),x1⟩,?_⟩
  rintro y H' ⟨rfl,hy⟩
  have E1:=Option.some.inj (x1.symm.trans (hy _ (SqL.of (s8 _ _ hpa))))
  obtain ⟨pr,hpr,px⟩:=jbi hxs x1
  rw [E1] at px
  obtain ⟨b,rfl,hb⟩:=px.same s8
  have hv:=jfz wk (List.mem_map.mpr ⟨pr,List.mem_of_getElem? hpr,rfl⟩)
  have hzl:zs.length ≤ i:=by rw [Paired.length pz,List.length_map,List.length_take]; omega
  simp_all_arith [jcb,hb,s7 _ _ ed,hv]
  intro t2 ht2
  have q5:=jag ht2 (.tup [.int 0,.int (spF ps pr.1),.int pr.2])
  have ez5:=q5 _ _ ez
  have t6:=jbt (ys:=zs ++ [.ref t2]) ez5
  refine ⟨zs,ez5,szl' (by omega),_,_,zs ++ [.ref t2],rfl,jbh (s7.trans q5) hal,(by first | rfl | exact ja1),?_⟩
  rw [jbj hpr,List.map_append]
  exact jbn (jbv t6 (jbv q5.tups pz)) ⟨t2,rfl,t6 _ _ rfl ja1⟩
 rintro σ' H4 ⟨w1,w2,zs,rfl,s5,eal,pz⟩
 have s6:=s4.trans s5
 refine ⟨⟨_,SqL.of (s6 _ _ hpa),by omega⟩,?_⟩
 rw [List.take_length] at pz
 have falH:H al = none:=s4.free hal
 have hzl:zs.length = ps.length:=by rw [Paired.length pz,List.length_map]
 simp_all_arith [jcb]
 subst hR
 refine jb8 fun R' hR=>?_
 have ed4:=s5 _ _ ed
 simp_all_arith [jcb]
 refine jbp (Itl K pa) H4 (fun R2 hR2=>?_) (fun bl hbl=>jbu ps.length (fun i σ' Hc=>∃ w1 w2 us,σ' = [w1,w2,some (.int (xs.length:Int)),some (.ref d)]∧Same H4 Hc∧Hc bl = some (.lst us)∧Tps Hc us ((ps.take i).map fun p=>(spF ps p.1 + (ps.length:Int),(1:Int),p.2))) ⟨none,none,[],rfl,jag hbl _,ja1,.nil⟩ ?_ ?_)
 ·unfold jcs
  simp_all_arith [jcb,jbo,s6 _ _ hu1,at0]
  exact ⟨pa,rfl,⟨_,SqL.of (s6 _ _ hpa)⟩,hR2⟩
 ·rintro i σ' Hc hi ⟨w1,w2,us,rfl,s7,ez,pu⟩
  have s8:=s6.trans s7
  have x1:xs[i]? = some (xs[i]'(by omega)):=List.getElem?_eq_getElem _
  refine ⟨⟨_,_,SqL.of (s8 _ _ hpa),x1⟩,?_⟩
  rintro y H' ⟨rfl,hy⟩
  have E1:=Option.some.inj (x1.symm.trans (hy _ (SqL.of (s8 _ _ hpa))))
  obtain ⟨pr,hpr,px⟩:=jbi hxs x1
  rw [E1] at px
  obtain ⟨b,rfl,hb⟩:=px.same s8
  have hv:=jfz wk (List.mem_map.mpr ⟨pr,List.mem_of_getElem? hpr,rfl⟩)
  have hul:us.length ≤ i:=by rw [Paired.length pu,List.length_map,List.length_take]; omega
  simp_all_arith [jcb,hb,s7 _ _ ed4,hv]
  intro t2 ht2
  have q5:=jag ht2 (.tup [.int (spF ps pr.1 + (xs.length:Int)),.int 1,.int pr.2])
  have ez5:=q5 _ _ ez
  have t6:=jbt (ys:=us ++ [.ref t2]) ez5
  refine ⟨us,ez5,szl' (by omega),_,_,us ++ [.ref t2],rfl,jbh (s7.trans q5) hbl,(by first | rfl | exact ja1),?_⟩
  rw [jbj hpr,List.map_append]
  exact jbn (jbv t6 (jbv q5.tups pu)) ⟨t2,rfl,by rw [← hxl]; exact t6 _ _ rfl ja1⟩
 rintro σ' H5 ⟨w1,w2,us,rfl,s7,ebl,pu⟩
 have s8:=s6.trans s7
 refine ⟨⟨_,SqL.of (s8 _ _ hpa),by omega⟩,?_⟩
 rw [List.take_length] at pu
 have hul:us.length = ps.length:=by rw [Paired.length pu,List.length_map]
 have eal5:=s7 _ _ eal
 simp_all_arith [jcb,eal5,ebl]
 refine ⟨szl (by omega),?_⟩
 have s9:Same H (upd H5 al (.lst (zs ++ us))):=jbh s8 falH
 have t9:=jbt (ys:=zs ++ us) eal5
 have pz9:=je4 (jbv t9 (jbv s7.tups pz)) (jbv t9 pu)
 have eal9:upd H5 al (.lst (zs ++ us)) al = some (.lst (zs ++ us)):=ja1
 have dal:d ≠ al:=ja5 ed hal
 have ed9:upd H5 al (.lst (zs ++ us)) d = some (.dK (jd1 (spL ps ps.length))):=by rw [jas dal]; exact s7 _ _ ed4
 generalize upd H5 al (.lst (zs ++ us)) = H6 at s9 pz9 eal9 ed9
 clear eal5 ebl pu pz eal t9
 subst hR
 refine jb8 fun R' hR=>?_
 refine jce (Itl K ta) H6 (fun R3 hR3=>?_) (jcv (K:=K) (a:=ta) (xs:=ys) (fun k σ Hc=>∃ v5 v6 ws,σ = [some (.ref u),some (.int (xs.length:Int)),some (.int (plW ps)),some (.ref d),some (.ref al),v5,v6]∧Same H Hc∧Hc d = some (.dK (jd1 (spL ps ps.length)))∧Hc al = some (.lst ws)∧ws.length ≤ 80 + 2 * k∧Tps Hc ws (((ps.map fun p=>((0:Int),spF ps p.1,p.2)) ++ ps.map fun p=>(spF ps p.1 + (ps.length:Int),(1:Int),p.2)) ++ Fl.tieArcs (spF ps) ps.length (plW ps) (ts.take k))) ⟨none,none,zs ++ us,rfl,s9,ed9,eal9,by rw [List.length_append]; omega,by rw [List.take_zero]; show Tps H6 _ (_ ++ []); rw [List.append_nil]; exact pz9⟩ (fun i σ Hc _ ⟨_,_,_,_,s,_⟩=>SqL.of (s _ _ hta)) ?_ ?_)
 ·unfold jcs
  simp_all_arith [jcb,jbo,s9 _ _ hu1,at1]
  exact ⟨ta,rfl,⟨_,SqL.of (s9 _ _ hta)⟩,hR3⟩
 ·rintro k x σ Hc hx ⟨v5,v6,ws,rfl,sA,edA,ealA,hwl,pw⟩
  obtain ⟨t,htk,pt⟩:=jbi hys hx
  obtain ⟨tb,rfl,etb⟩:=pt.same sA
  have hkl:=(List.getElem?_eq_some_iff.mp htk).1
  obtain ⟨m1,m2⟩:=je6 wk t (List.mem_of_getElem? htk)
  have hv1:=jfz wk m1
  have hv2:=jfz wk m2
  simp_all_arith [jcb,etb,edA,hv1,hv2]
  refine ⟨⟨al,ws,rfl,ealA⟩,fun t1 ht1=>?_⟩
  have qB:=jag ht1 (.tup [.int (spF ps t.1),.int (spF ps t.2 + (xs.length:Int)),.int (plW ps)])
  have ealB:=qB _ _ ealA
  have edB:=qB _ _ edA
  simp only [ealB]
  refine ⟨szl' (by omega),?_⟩
  have tB:=jbt (ys:=ws ++ [.ref t1]) ealB
  have sC:Same H (upd (upd Hc t1 (.tup [.int (spF ps t.1),.int (spF ps t.2 + (xs.length:Int)),.int (plW ps)])) al (.lst (ws ++ [.ref t1]))):=jbh (sA.trans qB) falH
  have ealC:upd (upd Hc t1 (.tup [.int (spF ps t.1),.int (spF ps t.2 + (xs.length:Int)),.int (plW ps)])) al (.lst (ws ++ [.ref t1])) al = some (.lst (ws ++ [.ref t1])):=ja1
  have edC:upd (upd Hc t1 (.tup [.int (spF ps t.1),.int (spF ps t.2 + (xs.length:Int)),.int (plW ps)])) al (.lst (ws ++ [.ref t1])) d = some (.dK (jd1 (spL ps ps.length))):=by rw [jas dal]; exact edB
  have pC:=jbn (jbv tB (jbv qB.tups pw)) (show Tp _ (.ref t1) (spF ps t.1,spF ps t.2 + (ps.length:Int),plW ps) from ⟨t1,rfl,by rw [← hxl]; exact tB _ _ rfl ja1⟩)
  generalize upd (upd Hc t1 (.tup [.int (spF ps t.1),.int (spF ps t.2 + (xs.length:Int)),.int (plW ps)])) al (.lst (ws ++ [.ref t1])) = HC at sC ealC edC pC
  simp_all_arith [jcb,edC,hv1,hv2]
  refine ⟨⟨al,_,rfl,ealC⟩,fun t2 ht2=>?_⟩
  have qD:=jag ht2 (.tup [.int (spF ps t.2),.int (spF ps t.1 + (xs.length:Int)),.int (plW ps)])
  have ealD:=qD _ _ ealC
  have edD:=qD _ _ edC
  simp only [ealD]
  have tD:=jbt (ys:=(ws ++ [.ref t1]) ++ [.ref t2]) ealD
  refine ⟨szl' (by rw [List.length_append]; show _ + 1 ≤ _; omega),_,_,(ws ++ [.ref t1]) ++ [.ref t2],rfl,jbh (sC.trans qD) falH,by rw [jas dal]; exact edD,ja1,by rw [List.length_append,List.length_append]; show _ + 1 + 1 ≤ _; omega,?_⟩
  rw [jbj htk,jf8,← List.append_assoc,← List.append_assoc]
  exact jbn (jbv tD (jbv qD.tups pC)) ⟨t2,rfl,by rw [← hxl]; exact tD _ _ rfl ja1⟩
 ·rintro σ Hc ⟨v5,v6,ws,rfl,sA,edA,ealA,hwl,pw⟩
  rw [hyl,List.take_length] at pw
  have pw:Tps Hc ws (jcj ps ts):=pw
  subst hR
  simp_all_arith [jcb]
  refine ⟨cmL (by decide) (by decide),?_⟩
  intro p dx hp hdx hne
  have hpal:al ≠ p:=ja5 ealA hp
  have hdal:al ≠ dx:=ja5 ealA hdx
  have sB:Same Hc (upd (upd Hc dx (.own p)) p (.ins C_Net dx [])):=fun b o q=>by rw [jas (ja5 q hp),jas (ja5 q hdx)]; exact q
  refine ⟨p,dx,2 + (ps.length + ps.length),al,ws,jcj ps ts,by rw [show ((2 + (ps.length + ps.length):Nat):Int) = 2 + 2 * (xs.length:Int) by omega],ja1,sB _ _ ealA,jbv sB.tups pw,by omega,by rw [jgq]; omega,fun a ha=>(jiy wk a ha).1,fun R H' hR' b N=>?_⟩
  refine ⟨rfl,h p R H' (sA.free (sB.free hR')) (fun b' o q=>b b' o (ja5 (sA _ _ q) hp) (sB _ _ (sA _ _ q))) N⟩
end
end My
namespace My
open PySem L2
section
variable {P:Program} {w:World} {K:PySem.W.Frag} {mg:Str→Option Value} {base:Heap} {c1 c2 c3 c4 e1 e2 e3:Tok} {C_Net C_NoWeb f_NoWeb:Addr} {dI:FuncData}
def knN (ps:List (Int × Int)):Nat:=2 + (ps.length + ps.length)
structure Rst (ps ts:List (Int × Int)) (r:List Int):Prop where
 run:Fl.Runs (Fl.wfA (jcj ps ts)) (Fl.hsA (jcj ps ts)) (knN ps) 0 1 (Fl.rmA (jcj ps ts)) r
 end_:Fl.stp (Fl.wfA (jcj ps ts)) (Fl.hsA (jcj ps ts)) (knN ps) 0 1 r = none
theorem Rst.one {ps ts:List (Int × Int)} {a b:List Int} (h:Rst ps ts a) (g:Rst ps ts b):a = b:=Fl.rest_one h.run h.end_ g.run g.end_
def inW (ps ts:List (Int × Int)) (r:List Int) (v:Int):Bool:=Fl.inS (Fl.wfA (jcj ps ts)) (Fl.hsA (jcj ps ts)) (knN ps) r v
def halT (ps ts:List (Int × Int)) (r:List Int):List (Int × Int):=halR (inW ps ts r) ps.length ps ps.length
def duT (ps ts:List (Int × Int)) (r:List Int):List (Int × Int × Int):=duR (alt false r) ps.length ts ts.length
def jry:Sp:=fun vs H Q _=>∃ v ps ts,vs = [v]∧jdu H v ps ts∧WebOk ps ts∧ps.length ≤ 30∧∀ t l1 l2 zs us r H',Same H H'→H' t = some (.tup [.ref l1,.ref l2])→H' l1 = some (.lst zs)→H' l2 = some (.lst us)→H t = none→H l1 = none→H l2 = none→l1 ≠ l2→Rst ps ts r→Prs H' zs (halT ps ts r)→Tps H' us (duT ps ts r)→Q (.ref t) H'
theorem jrh {ps ts:List (Int × Int)} {r:List Int} {ms:List Int} (h:ms.Perm ((Fl.cbOf (Fl.wfA (jcj ps ts)) (Fl.hsA (jcj ps ts)) (knN ps) 0 r).map (·.1))):hasK (mkI ms) = inW ps ts r:=by
 funext n
 rw [jig]
 unfold inW Fl.inS
 exact decide_eq_decide.mpr h.mem_iff
theorem js9 {ps ts:List (Int × Int)} (wk:WebOk ps ts):Fl.Rooms (jcj ps ts).length (Fl.capA (jcj ps ts)) (Fl.rmA (jcj ps ts)):=Fl.rooms0 fun a ha=>(jiy wk a ha).2
theorem netW {ps ts:List (Int × Int)} (wk:WebOk ps ts):Fl.Net (Fl.wfA (jcj ps ts)) (Fl.hsA (jcj ps ts)) (jcj ps ts).length (knN ps):=Fl.net_of fun a ha=>(jiy wk a ha).1
theorem Rst.rooms {ps ts:List (Int × Int)} {r:List Int} (wk:WebOk ps ts) (h:Rst ps ts r):Fl.Rooms (jcj ps ts).length (Fl.capA (jcj ps ts)) r∧∀ v,v ≠ 0→v ≠ 1→Fl.ex (Fl.hsA (jcj ps ts)) (jcj ps ts).length r v = 0:=by
 obtain ⟨a,b⟩:=Fl.runs_keep (netW wk) (by decide) ⟨Int.le_refl _,by unfold knN; omega⟩ h.run (js9 wk)
 exact ⟨a,fun v h1 h2=>(b v h1 h2).trans (Fl.ex0 _ _ _ _)⟩
theorem jrt {α:Type} {xs:List α} {k:Nat} (h:xs.length = 2 * k):(alt false xs).length = k:=by
 have h1:=jgs false xs
 have hge:¬ k < (alt false xs).length:=fun z=>by
  have:=h1 k
  rw [List.getElem?_eq_getElem z,List.getElem?_eq_none (show xs.length ≤ 2 * k + (if false = true then 0 else 1) by rw [if_neg (by decide)]; omega)] at this
  cases this
 by_cases c:k = 0
 ·omega
 ·have:=h1 (k - 1)
  rw [List.getElem?_eq_getElem (show 2 * (k - 1) + (if false = true then 0 else 1) < xs.length by rw [if_neg (by decide)]; omega)] at this
  have:=(List.getElem?_eq_some_iff.mp this).1
  omega
theorem jia {f:Addr} {fd:FuncData} {f_doubled:Addr} {d_doubled:FuncData} {f_fill:Addr} {d_fill:FuncData} {f_reached_from:Addr} {d_reached_from:FuncData} {f_marked:Addr} {d_marked:FuncData} {f_halves_reached:Addr} {d_halves_reached:FuncData} {f_flows:Addr} {d_flows:FuncData} {f_dues_flowing:Addr} {d_dues_flowing:FuncData} (B:Blt mg) (D:DefAt K mg "told_paper" (top 31) ["web"] f fd) (D_doubled:DefAt K mg "doubled" (top 28) ["web"] f_doubled d_doubled) (G_doubled:FnOk P w K mg base CX0 5 f_doubled d_doubled ["web"] (jji C_Net)) (D_fill:MthAt K C_Net "fill" "Net.fill" (meth 5 2) ["self","source","sink"] f_fill d_fill) (G_fill:FnOk P w K mg base CX0 3 f_fill d_fill ["self","source","sink"] (js6 C_Net)) (D_reached_from:MthAt K C_Net "reached_from" "Net.reached_from" (meth 5 7) ["self","source"] f_reached_from d_reached_from) (G_reached_from:FnOk P w K mg base CX0 2 f_reached_from d_reached_from ["self","source"] (jo7 C_Net)) (D_marked:DefAt K mg "marked" (top 11) ["places"] f_marked d_marked) (G_marked:FnOk P w K mg base CX0 1 f_marked d_marked ["places"] jhs) (D_halves_reached:DefAt K mg "halves_reached" (top 30) ["web","reached"] f_halves_reached d_halves_reached) (G_halves_reached:FnOk P w K mg base CX0 1 f_halves_reached d_halves_reached ["web","reached"] js2) (D_flows:MthAt K C_Net "flows" "Net.flows" (meth 5 6) ["self"] f_flows d_flows) (G_flows:FnOk P w K mg base CX0 1 f_flows d_flows ["self"] (joc C_Net)) (D_dues_flowing:DefAt K mg "dues_flowing" (top 29) ["web","flows"] f_dues_flowing d_dues_flowing) (G_dues_flowing:FnOk P w K mg base CX0 1 f_dues_flowing d_dues_flowing ["web","flows"] jod) (T:NetC K mg C_Net) (C2:Cst2 mg e1 e2 e3):FnOk P w K mg base CX0 6 f fd ["web"] jry:=by
 have sc:FnScope ["web","net","halves"] ["web"] (jba (top 31)):=⟨rfl,rfl,rfl,by decide +kernel,rfl,by decide +kernel,by decide +kernel⟩
 refine D.F.ok sc (fun vs H Q E h=>?_) (fun cdv A outer s H vs Q E hr h=>?_)
 ·obtain ⟨v,ps,ts,rfl,_⟩:=h
  rfl
 obtain ⟨v,ps,ts,rfl,hw,wk,h30,h⟩:=h
 have hu:=jc7 hr
 have hu0:_ < PySem.cLine:=Nat.lt_of_succ_lt hu
 refine ⟨_,(jah (jbf (i:=1) sc.nd rfl (Or.inl rfl) (jbe G_doubled (hr.mono (by decide)) rfl D_doubled.m D_doubled.F.kp D_doubled.b .nil jbs (ja0 (qv 0) jai))) (jah (jc1 (jd4 (qv 1) T.cl D_fill.m G_fill (hr.mono (by decide)) D_fill.b .nil jbs (ja0 (jcu (v:=.int 0) rfl C2.SOURCE ⟨_,rfl⟩) (ja0 (jcu (v:=.int 1) rfl C2.SINK ⟨_,rfl⟩) jai)))) (jah (jbf (i:=2) sc.nd rfl (Or.inl rfl) (jbe G_halves_reached (hr.mono (by decide)) rfl D_halves_reached.m D_halves_reached.F.kp D_halves_reached.b .nil jbs (ja0 (qv 0) (ja0 (jbe G_marked (hr.mono (by decide)) rfl D_marked.m D_marked.F.kp D_marked.b .nil jbs (ja0 (jd4 (qv 1) T.cl D_reached_from.m G_reached_from (hr.mono (by decide)) D_reached_from.b .nil jbs (ja0 (jcu (v:=.int 0) rfl C2.SOURCE ⟨_,rfl⟩) jai)) jai)) jai)))) (jb9 (jbq (jc4 (ja0 (qv 2) (ja0 (jbe G_dues_flowing (hr.mono (by decide)) rfl D_dues_flowing.m D_dues_flowing.F.kp D_dues_flowing.b .nil jbs (ja0 (qv 0) (ja0 (jov (qv 1) T.cl D_flows.m G_flows (hr.mono (by decide)) D_flows.b .nil jbs) jai))) jai)))))))),?_⟩
 refine jb8 fun R' hR=>?_
 walk_at "ND"
 refine ⟨v,ps,ts,rfl,hw,wk,fun p R H1 fR s1 N=>?_⟩
 subst hR
 refine jb8 fun R' hR=>?_
 obtain ⟨dx,W,Hd,ls,o1,_,_,_,_,_,_,pR⟩:=N.st
 simp_all_arith [o1,jr7]
 refine ⟨p,0,1,R,_,_,_,_,_,Fl.capA (jcj ps ts),rfl,N,by decide,Int.le_refl _,by omega,js9 wk,fun x r H2 run fin b2 eR2=>?_⟩
 have rst:Rst ps ts r:=⟨run,fin⟩
 have rm:=(rst.rooms wk).1
 have N2:=N.but b2 eR2 rm.len
 have s2:Same H H2:=fun b o q=>b2 b o (ja5 q fR) (s1 _ _ q)
 have o2:=b2 _ _ pR o1
 subst hR
 refine jb8 fun R' hR=>?_
 simp_all_arith [o2,jl3]
 refine ⟨p,0,R,_,_,_,_,r,rfl,N2,Int.le_refl _,by omega,by omega,fun l ms H3 hl s3 el pm=>?_⟩
 have hmn:ms.Nodup:=pm.nodup_iff.mpr (Fl.spr_cam (r:=r) (s:=0) N.net.from' _).nd
 have hml:ms.length ≤ 120:=by
  rw [pm.length_eq,List.length_map]
  have:=Fl.cb_len (r:=r) N.net ⟨Int.le_refl 0,by omega⟩ (2 + (ps.length + ps.length))
  show (Fl.sprN _ _ _ _ _).length ≤ 120
  omega
 refine ⟨l,ms,rfl,el,hmn,hml,fun d H4 hd s4 ed=>?_⟩
 have s24:=s3.trans s4
 have s14:=s2.trans s24
 refine ⟨v,ps,ts,d,mkI ms,rfl,hw.same s14,wk,ed,fun l1 zs H5 hl1 s5 el1 pz=>?_⟩
 rw [jrh pm] at pz
 have s25:=s24.trans s5
 have s15:=s14.trans s5
 subst hR
 simp_all_arith [s25 _ _ o2,jp2]
 refine ⟨p,R,_,_,_,_,r,rfl,N2.same s25,fun fl H6 hfl s6 ef=>?_⟩
 refine ⟨v,ps,ts,fl,alt false r,rfl,hw.same (s15.trans s6),wk,ef,?_,fun l2 us H7 hl2 s7 el2 pu=>?_⟩
 ·rw [jrt rm.len,jgq]; omega
 intro t ht
 have q8:=jag ht (.tup [.ref l1,.ref l2])
 have s57:=s6.trans s7
 refine h t l1 l2 zs us r _ ((s15.trans s57).trans q8) ja1 (q8 _ _ (s57 _ _ el1)) (q8 _ _ el2) ((s15.trans s57).free ht) (s14.free hl1) ((s15.trans s6).free hl2) (ja5 (s6 _ _ el1) hl2) rst (Prs.same (s57.trans q8) pz) (jbv q8.tups pu)
end
end My
namespace My
open PySem L2
section
variable {P:Program} {w:World} {K:PySem.W.Frag} {mg:Str→Option Value} {base:Heap} {c1 c2 c3 c4:Tok} {C_NoWeb f_NoWeb:Addr} {dI:FuncData}
theorem jjo {n:Int}:∀ {L:List (Int × Int × Int)},(∀ d ∈ L,0 ≤ d.2.2)→jd5 (L.filter fun d=>decide (d.2.2 > 0)) n = jd5 L n
 | [],_=>rfl
 | d :: r,h=>by
  have ih:=jjo (n:=n) (L:=r) fun e he=>h e (.tail _ he)
  unfold jd5 at ih ⊢
  rw [List.filter_cons]
  by_cases c:d.2.2 > 0
  ·rw [if_pos (decide_eq_true c),List.map_cons,List.sum_cons,ih,List.map_cons,List.sum_cons]
  ·have h0:d.2.2 = 0:=by have:=h d (.head _); omega
   rw [if_neg (by simpa using c),ih,List.map_cons,List.sum_cons,h0]
   split <;> split <;> omega
theorem jqa (r:List Int) (k:Nat):Fl.at' (alt false r) k = Fl.at' r (2 * k + 1):=by
 unfold Fl.at'
 rw [List.getD_eq_getElem?_getD,List.getD_eq_getElem?_getD,jgs,if_neg (by decide)]
def SLw (ps ts:List (Int × Int)) (r:List Int) (p:Int):Bool:=inW ps ts r (spF ps p)
def SRw (ps ts:List (Int × Int)) (r:List Int) (p:Int):Bool:=inW ps ts r (spF ps p + ps.length)
def hfW (ps ts:List (Int × Int)) (r:List Int):Int→Int:=Fl.halfOf (SLw ps ts r) (SRw ps ts r)
theorem jed {ps ts:List (Int × Int)} (wk:WebOk ps ts):∀ p ∈ ps,hOf ps p.1 = p.2:=fun p hp=>by
 have a:=jft wk.p.nodup hp
 rw [jpp wk.p.nodup (List.mem_map.mpr ⟨p,hp,rfl⟩)] at a
 exact V.int.inj (Option.some.inj a)
theorem jgk {ps ts:List (Int × Int)} {r:List Int} (wk:WebOk ps ts) (h:Rst ps ts r):Fl.Full (ps.map (·.1)) (hOf ps) (Fl.twS (ps.map (·.1)) r ts) (Fl.fsOf (spF ps) r) (Fl.ftOf (ps.map (·.1)) (spF ps) r) (SLw ps ts r) (SRw ps ts r):=by
 have hl:(ps.map (·.1)).length = ps.length:=List.length_map _
 have e1:(jcj ps ts).length = Fl.arcs (ps.map (·.1)) ts:=by rw [jgq]; unfold Fl.arcs; rw [hl]
 have e2:knN ps = Fl.knots (ps.map (·.1)):=by unfold knN Fl.knots; rw [hl]
 have D:Fl.Dbl (ps.map (·.1)) ts (spF ps) (Fl.hsA (jcj ps ts)):=Fl.dbl_of wk.p.nodup (fun i p hp=>js7 wk hp) (je6 wk)
 have C:Fl.Caps (ps.map (·.1)) ts (hOf ps) (Fl.capA (jcj ps ts)):=Fl.caps_of (jed wk) fun p hp=>by
  have h0:∀ q ∈ ps,0 ≤ q.2:=fun q hq=>by have:=wk.p.pos q hq; omega
  have:=Fl.le_sum (f:=fun q:Int × Int=>q.2) h0 p hp
  unfold plW
  omega
 obtain ⟨rm,bal⟩:=h.rooms wk
 have N:=netW wk
 have en:=h.end_
 rw [e1] at rm bal N
 rw [e2] at N en
 have F:=Fl.full_rest D N C rm bal en
 rw [hl] at F
 unfold SLw SRw inW
 rw [e2]
 exact F
def triW (ps ts:List (Int × Int)) (r:List Int):List (Int × Int × Int):=(Fl.twS (ps.map (·.1)) r ts).map fun z=>(z.a,z.b,z.x + z.y)
theorem jpu (ps ts:List (Int × Int)) (r:List Int):duT ps ts r = (triW ps ts r).filter fun d=>decide (d.2.2 > 0):=by
 unfold duT duR triW Fl.twS
 rw [List.map_map]
 congr 1
 refine List.map_congr_left fun j _=>?_
 show _ = ((Fl.twAt _ _ _ j).a,(Fl.twAt _ _ _ j).b,_)
 unfold Fl.twAt
 dsimp only
 rw [jqa,jqa,List.length_map,show 2 * ps.length + 2 * j = ps.length + ps.length + 2 * j by omega,show ps.length + ps.length + 2 * j + 1 = ps.length + ps.length + (2 * j + 1) by omega]
theorem jny (ps ts:List (Int × Int)) (r:List Int):(triW ps ts r).map (fun d=>(d.1,d.2.1)) = ts:=by
 unfold triW Fl.twS
 rw [List.map_map,List.map_map]
 apply List.ext_getElem?
 intro i
 rw [List.getElem?_map]
 by_cases c:i < ts.length
 ·rw [List.getElem?_range c,List.getElem?_eq_getElem c]
  show some ((ts.getD i (0,0)).1,(ts.getD i (0,0)).2) = _
  rw [jdx (List.getElem?_eq_getElem c)]
 ·rw [List.getElem?_eq_none (by rw [List.length_range]; omega),List.getElem?_eq_none (by omega)]
  rfl
end
end My
namespace HT
open PySem PyProof.Rows
open PySem.SeqAt
open PySem.AutoSeq1 (wpAny_loadPart')
open PySem.MeetsSeq PySem.MeetsSeq2 PySem.MeetsSeq3
section
variable {prog:Program} {w:World} {A:Around} {E:Value→Shared→Prop} {s:Shared}
end
end HT
namespace L2
open PySem PySem.Spec PyProof.Rows
section
variable {X:Cx}
end
end L2
namespace My
open PySem L2
section
variable {P:Program} {w:World} {K:PySem.W.Frag} {mg:Str→Option Value} {base:Heap} {c1 c2 c3 c4:Tok} {C_NoWeb f_NoWeb:Addr} {dI:FuncData}
abbrev Lk:=Option Str × List Int
def lkV (x:Lk):List V:=(match x.1 with | some w=>[V.str w] | none=>[]) ++ x.2.map V.int
def LkAt (H:Hp) (v:V) (x:Lk):Prop:=∃ t,v = .ref t∧H t = some (.tup (lkV x))
theorem LkAt.tups {H H':Hp} {v:V} {x:Lk} (h:LkAt H v x) (s:TupS H H'):LkAt H' v x:=let ⟨t,e,q⟩:=h; ⟨t,e,s _ _ rfl q⟩
abbrev wL:Str:=Str.ofString "loose"
abbrev wB:Str:=Str.ofString "beside"
abbrev wT:Str:=Str.ofString "tight"
end
end My
namespace My
open PySem L2
section
variable {P:Program} {w:World} {K:PySem.W.Frag} {mg:Str→Option Value} {base:Heap} {c1 c2 c3 c4:Tok} {C_NoWeb f_NoWeb:Addr} {dI:FuncData}
abbrev Lks (H:Hp) (xs:List V) (c:List Lk):Prop:=Paired (LkAt H) xs c
theorem Lks.tups {H H':Hp} {xs:List V} {c:List Lk} (h:Lks H xs c) (s:TupS H H'):Lks H' xs c:=Paired.mapP h fun _ _ q=>q.tups s
def jbg (x:Lk):Int:=x.2.getLastD 0
theorem nLB:(wL = wB) = False:=eq_false (by decide +kernel)
theorem nTB:(wT = wB) = False:=eq_false (by decide +kernel)
theorem atL2 {x y:V}:atI [x,y] (-1) = some y:=jmr [x] y
theorem atL3 {x y z:V}:atI [x,y,z] (-1) = some z:=jmr [x,y] z
theorem jf3 (ps:List (Int × Int)) (ds:List (Int × Int × Int)):(jca ps ds).Sublist (ps.map (·.1)):=List.Sublist.map _ List.filter_sublist
end
end My
namespace My
open PySem L2
section
variable {P:Program} {w:World} {K:PySem.W.Frag} {mg:Str→Option Value} {base:Heap} {c1 c2 c3 c4:Tok} {C_NoWeb f_NoWeb:Addr} {dI:FuncData}
def jf2 (ts:List (Int × Int)) (ds:List (Int × Int × Int)) (x:Lk):List Lk:=if x.1 = some wB then ((jc8 ts (jbg x)).filter fun q=>jes ds (jbg x) q).map fun q=>(some wT,[jbg x,q]) else (jc8 ts (jbg x)).map fun q=>(some wB,[jbg x,q])
def jnn (x:Lk):Prop:=(∃ p,x = (some wL,[p])) ∨ (∃ u v,x = (some wB,[u,v])) ∨ ∃ u v,x = (some wT,[u,v])
def Says (A B:Int→Prop) (x:Lk):Prop:=(x.1 = some wB→B (jbg x))∧(x.1 ≠ some wB→A (jbg x))
structure ChI (ps ts:List (Int × Int)) (ds:List (Int × Int × Int)) (c:List Lk) (k:Nat):Prop where
 good:∀ x ∈ c,jnn x
 nd:(c.map jbg).Nodup
 place:∀ x ∈ c,jbg x ∈ ps.map (·.1)
 sound:∀ A B:Int→Prop,(∀ n ∈ jca ps ds,A n)→(∀ n q,q ∈ jc8 ts n→A n→B q)→(∀ n q,q ∈ jc8 ts n→jes ds n q = true→B n→A q)→∀ x ∈ c,Says A B x
 start:∀ n ∈ jca ps ds,n ∈ c.map jbg
 done:∀ (i:Nat) (x:Lk),i < k→c[i]? = some x→∀ y ∈ jf2 ts ds x,jbg y ∈ c.map jbg
theorem jp1 {ts:List (Int × Int)} {ds:List (Int × Int × Int)} {x y:Lk} (h:y ∈ jf2 ts ds x):jnn y∧jbg y ∈ jc8 ts (jbg x)∧((x.1 = some wB∧y.1 = some wT∧jes ds (jbg x) (jbg y) = true) ∨ (x.1 ≠ some wB∧y.1 = some wB)):=by
 unfold jf2 at h
 split at h
 ·rename_i c
  obtain ⟨q,hq,rfl⟩:=List.mem_map.mp h
  have:=List.mem_filter.mp hq
  exact ⟨.inr (.inr ⟨_,_,rfl⟩),this.1,.inl ⟨c,rfl,this.2⟩⟩
 ·rename_i c
  obtain ⟨q,hq,rfl⟩:=List.mem_map.mp h
  exact ⟨.inr (.inl ⟨_,_,rfl⟩),hq,.inr ⟨c,rfl⟩⟩
theorem jeh {ts:List (Int × Int)} {n q:Int}:q ∈ jc8 ts n→(n,q) ∈ ts ∨ (q,n) ∈ ts:=fun h=>by
 obtain ⟨t,ht,hq⟩:=List.mem_flatMap.mp h
 obtain ⟨a,b⟩:=t
 unfold nr at hq
 dsimp only at hq
 split at hq
 ·rename_i c
  subst c
  rw [List.mem_singleton.mp hq]
  exact .inl ht
 ·split at hq
  ·rename_i c
   subst c
   rw [List.mem_singleton.mp hq]
   exact .inr ht
  ·cases hq
theorem jmh {ts:List (Int × Int)} (hlt:∀ t ∈ ts,t.1 < t.2) {a b:Int} (h:(a,b) ∈ ts):b ∈ jc8 ts a∧a ∈ jc8 ts b:=by
 have:=hlt _ h
 dsimp only at this
 refine ⟨List.mem_flatMap.mpr ⟨_,h,?_⟩,List.mem_flatMap.mpr ⟨_,h,?_⟩⟩
 ·unfold nr
  rw [if_pos rfl]
  exact List.mem_singleton.mpr rfl
 ·unfold nr
  dsimp only
  rw [if_neg (by omega),if_pos rfl]
  exact List.mem_singleton.mpr rfl
section
variable {ps ts:List (Int × Int)} {ds:List (Int × Int × Int)} {c:List Lk} {k:Nat}
theorem jo2:∀ {l m:List Int},l.Nodup→(∀ x ∈ l,x ∈ m)→l.length ≤ m.length
 | [],_,_,_=>Nat.zero_le _
 | a :: l,m,nd,h=>by
  have nd':=List.nodup_cons.mp nd
  have ha:=h a (List.mem_cons_self ..)
  have ih:=jo2 (l:=l) (m:=m.erase a) nd'.2 fun x hx=>(List.mem_erase_of_ne fun e=>nd'.1 (by rw [← e]; exact hx)).mpr (h x (List.mem_cons_of_mem _ hx))
  rw [List.length_erase_of_mem ha] at ih
  have:=List.length_pos_of_mem ha
  rw [List.length_cons]
  omega
theorem ChI.len (h:ChI ps ts ds c k):c.length ≤ ps.length:=by
 have:=jo2 h.nd fun n hn=>by
  obtain ⟨x,hx,rfl⟩:=List.mem_map.mp hn
  exact h.place x hx
 rw [List.length_map,List.length_map] at this
 exact this
theorem ChI.put (h:ChI ps ts ds c k) (wk:WebOk ps ts) (hk:k ≤ c.length) {x y:Lk} (hx:x ∈ c) (hy:y ∈ jf2 ts ds x) (hn:jbg y ∉ c.map jbg):ChI ps ts ds (c ++ [y]) k:=by
 obtain ⟨gy,ny,cy⟩:=jp1 hy
 have hmap:(c ++ [y]).map jbg = c.map jbg ++ [jbg y]:=by rw [List.map_append]; rfl
 refine ⟨fun z hz=>?_,?_,fun z hz=>?_,fun A B a1 a2 a3 z hz=>?_,fun n hn=>?_,fun i z hi hz w hw=>?_⟩
 ·rcases List.mem_append.mp hz with hz | hz
  ·exact h.good z hz
  ·rw [List.mem_singleton.mp hz]; exact gy
 ·rw [hmap]
  exact List.nodup_append.mpr ⟨h.nd,by simp,fun a ha b hb e=>hn (by rw [← List.mem_singleton.mp hb,← e]; exact ha)⟩
 ·rcases List.mem_append.mp hz with hz | hz
  ·exact h.place z hz
  ·rw [List.mem_singleton.mp hz]
   rcases jeh ny with t | t
   ·exact (je6 wk _ t).2
   ·exact (je6 wk _ t).1
 ·rcases List.mem_append.mp hz with hz | hz
  ·exact h.sound A B a1 a2 a3 z hz
  ·rw [List.mem_singleton.mp hz]
   have sx:=h.sound A B a1 a2 a3 x hx
   rcases cy with ⟨e1,e2,e3⟩ | ⟨e1,e2⟩
   ·refine ⟨fun z=>?_,fun _=>a3 _ _ ny e3 (sx.1 e1)⟩
    rw [e2] at z
    exact absurd (Option.some.inj z) (by rw [nTB]; exact fun z=>z)
   ·exact ⟨fun _=>a2 _ _ ny (sx.2 e1),fun z=>absurd e2 z⟩
 ·rw [hmap]
  exact List.mem_append_left _ (h.start n hn)
 ·rw [hmap]
  rw [List.getElem?_append_left (by omega)] at hz
  exact List.mem_append_left _ (h.done i z hi hz w hw)
theorem ChI.next (h:ChI ps ts ds c k) {x:Lk} (hx:c[k]? = some x) (hd:∀ y ∈ jf2 ts ds x,jbg y ∈ c.map jbg):ChI ps ts ds c (k + 1) :=
 ⟨h.good,h.nd,h.place,h.sound,h.start,fun i z hi hz w hw=>by
  by_cases e:i = k
  ·subst e
   rw [hx] at hz
   cases hz
   exact hd w hw
  ·exact h.done i z (by omega) hz w hw⟩
theorem ChI.zero (wk:WebOk ps ts):ChI ps ts ds ((jca ps ds).map fun n=>((some wL,[n]):Lk)) 0:=by
 have hm:((jca ps ds).map fun n=>((some wL,[n]):Lk)).map jbg = jca ps ds:=by
  rw [List.map_map]
  exact List.map_id _
 refine ⟨fun x hx=>?_,?_,fun x hx=>?_,fun A B a1 a2 a3 x hx=>?_,fun n hn=>by rw [hm]; exact hn,fun i _ hi=>absurd hi (Nat.not_lt_zero _)⟩
 ·obtain ⟨n,_,rfl⟩:=List.mem_map.mp hx
  exact .inl ⟨n,rfl⟩
 ·rw [hm]
  exact (jf3 ps ds).nodup wk.p.nodup
 ·obtain ⟨n,hn,rfl⟩:=List.mem_map.mp hx
  exact (jf3 ps ds).subset hn
 ·obtain ⟨n,hn,rfl⟩:=List.mem_map.mp hx
  exact ⟨fun z=>absurd (Option.some.inj z) (by rw [nLB]; exact fun z=>z),fun _=>a1 n hn⟩
end
theorem jkp {H:Hp} {l:Addr} {xs ys:List (Key × V)} (h:H l = some (.dK xs)):TupS H (upd H l (.dK ys)):=fun b o i q=>by
 have:b ≠ l:=fun z=>by rw [z,h] at q; cases q; cases i
 rw [jas this]
 exact q
def joa:Sp:=fun vs H Q _=>∃ v d td ps ts ds kvs x,vs = [v,.ref d,.ref td]∧LkAt H v x∧jnn x∧jbg x ∈ ps.map (·.1)∧WebOk ps ts∧NrAt H d ps ts∧H td = some (.dT kvs)∧jue kvs ds∧∀ r zs H',Same H H'→H r = none→H' r = some (.lst zs)→Lks H' zs (jf2 ts ds x)→Q (.ref r) H'
theorem jnn.v {x:Lk} (g:jnn x):∃ w:Str,x.1 = some w∧atI (lkV x) 0 = some (.str w)∧atI (lkV x) (-1) = some (.int (jbg x)):=by
 rcases g with ⟨p,rfl⟩ | ⟨u,v,rfl⟩ | ⟨u,v,rfl⟩
 ·exact ⟨wL,rfl,at0,atL2⟩
 ·exact ⟨wB,rfl,at0,atL3⟩
 ·exact ⟨wT,rfl,at0,atL3⟩
def jm0:Sp:=fun vs H Q _=>∃ v ps ts l us ds,vs = [v,.ref l]∧jdu H v ps ts∧WebOk ps ts∧H l = some (.lst us)∧Tps H us ds∧ds.length ≤ 200∧∀ r zs c H',Same H H'→H r = none→H' r = some (.lst zs)→Lks H' zs c→ChI ps ts ds c c.length→Q (.ref r) H'
theorem jtl {ns:List Int} {n:Int} (h:n ∉ ns):putK (mkI ns) (Sum.inl n:Key) (.bl true) = mkI (ns ++ [n]):=by
 unfold mkI
 rw [List.map_append]
 exact L2.ji3 _ (by
  cases e:valV (ns.map fun n=>((Sum.inl n:Key),V.bl true)) (Sum.inl n:Key) with
  | none=>rfl
  | some x =>
   have:=jig ns n
   unfold hasK mkI at this
   rw [e,decide_eq_false h] at this
   cases this)
theorem jic {f:Addr} {fd:FuncData}  (B:Blt mg) (D:DefAt K mg "links_from" (top 36) ["link","nears","paid_ties"] f fd):FnOk P w K mg base CX0 1 f fd ["link","nears","paid_ties"] joa:=by
 have sc:FnScope ["link","nears","paid_ties","last"] ["link","nears","paid_ties"] (jba (top 36)):=⟨rfl,rfl,rfl,by decide +kernel,rfl,by decide +kernel,by decide +kernel⟩
 refine D.F.ok sc (fun vs H Q E h=>?_) (fun cdv A outer s H vs Q E hr h=>?_)
 ·obtain ⟨v,d,td,ps,ts,ds,kvs,x,rfl,_⟩:=h
  rfl
 obtain ⟨v,d,td,ps,ts,ds,kvs,x,rfl,hx,gx,hp,wk,hn,etd,td1,h⟩:=h
 obtain ⟨t,rfl,et⟩:=hx
 obtain ⟨w0,ew,a0,al⟩:=gx.v
 obtain ⟨as,na,ed,hv,hna⟩:=hn.get wk.p.nodup hp
 have hu:=jc7 hr
 have hu0:_ < PySem.cLine:=Nat.lt_of_succ_lt hu
 refine ⟨_,(jah (jbf (i:=3) sc.nd rfl (Or.inr rfl) (jbl q_ix (qv 0) (jgv jgu jaj) (fun _ _=>rfl))) (jah (jdz (jd7 q_eq (jbl q_ix (qv 0) jaj (fun _ _=>rfl)) jh9 (jcc _)) (jb9 (jbq (jc6 (CpScope.of (N:=["place","last","paid_ties"]) (src:=[none,some 3,some 2]) (by rfl)) rfl (jbr (jd2 hu (qv 1) (qv 3) (fun _ _=>rfl))) (fun _ _ _ _=>(jbb (i:=0) (jbc (l:=["place","last","paid_ties"]) (by rfl)) rfl (Or.inl rfl))) (fun _ _ _ _=>(jez (pt_cmp (pc_din hu (jc4 (ja0 (qv 1) (ja0 (qv 0) jai))) (qv 2))))) (fun _ _ _ _=>(jc4 (ja0 jh9 (ja0 (qv 1) (ja0 (qv 0) jai)))))))) jcd) (jb9 (jbq (jc6 (CpScope.of (N:=["place","last"]) (src:=[none,some 3]) (by rfl)) rfl (jbr (jd2 hu (qv 1) (qv 3) (fun _ _=>rfl))) (fun _ _ _ _=>(jbb (i:=0) (jbc (l:=["place","last"]) (by rfl)) rfl (Or.inl rfl))) (fun _ _ _ _=>jci) (fun _ _ _ _=>(jc4 (ja0 jh9 (ja0 (qv 1) (ja0 (qv 0) jai)))))))))),?_⟩
 refine jb8 fun R hR=>?_
 simp_all_arith [jbo,et,al]
 subst hR
 refine jb8 fun R hR=>?_
 simp_all_arith [jbo,et,a0]
 have hwl:=wk.tl
 have hnl:=jga ts (jbg x)
 by_cases c:w0 = wB
 ·have c1:x.1 = some wB:=by rw [ew,c]
  rw [decide_eq_true (show w0 = Str.ofString "beside" from c)]
  walk_at "ND"
  refine jbp (Itl K na) H (fun R2 hR2=>?_) (fun z hz0=>jbu (jc8 ts (jbg x)).length (fun j σ' Hd=>∃ w1 ws,σ' = [w1,some (.int (jbg x)),some (.ref td)]∧Same H Hd∧Hd z = some (.lst ws)∧Lks Hd ws ((((jc8 ts (jbg x)).take j).filter fun q=>jes ds (jbg x) q).map fun q=>(some wT,[jbg x,q]))) ⟨none,[],rfl,jag hz0 _,ja1,.nil⟩ ?_ ?_)
  ·unfold jcs
   simp_all_arith [ed,hv]
   exact ⟨na,rfl,⟨_,SqL.of hna⟩,hR2⟩
  ·rintro j σ' Hd hj ⟨w1,ws,rfl,s1,ez,pw⟩
   have hj0:(jc8 ts (jbg x))[j]? = some (jc8 ts (jbg x))[j]:=List.getElem?_eq_getElem hj
   generalize (jc8 ts (jbg x))[j] = q at hj0
   have hj1:((jc8 ts (jbg x)).map V.int)[j]? = some (.int q):=by rw [List.getElem?_map,hj0]; rfl
   have z1:SqL K Hd na ((jc8 ts (jbg x)).map V.int):=SqL.of (s1 _ _ hna)
   refine ⟨⟨_,_,z1,hj1⟩,?_⟩
   rintro y H' ⟨rfl,hy⟩
   have:=hy _ z1
   rw [hj1] at this
   cases this
   simp only [tB,tDIn]
   walk_at "ND"
   intro p1 hp1
   have q9:=jag hp1 (.tup [V.int (jbg x),V.int q])
   have f9:upd H' p1 (.tup [V.int (jbg x),V.int q]) p1 = some (.tup (([Sum.inl (jbg x),Sum.inl q]:List Key).map kV)):=ja1
   generalize upd H' p1 (.tup [V.int (jbg x),V.int q]) = H9 at q9 f9
   have s9:=s1.trans q9
   walk_at "ND"
   refine ⟨td,_,rfl,DGet.t (s9 _ _ etd) f9,_,rfl,?_⟩
   rw [td1 (jbg x) q,jbj hj0,List.filter_append,List.map_append,List.filter_cons,List.filter_nil]
   have hwl2:ws.length ≤ j:=by
    rw [Paired.length pw,List.length_map]
    refine Nat.le_trans (List.length_filter_le _ _) ?_
    rw [List.length_take]
    exact Nat.min_le_left _ _
   cases c8:jes ds (jbg x) q with
   | true =>
    walk_at "ND"
    intro p2 hp2
    have q10:=jag hp2 (.tup [.str (Str.ofString "tight"),V.int (jbg x),V.int q])
    have ez10:=q10 _ _ (q9 _ _ ez)
    have t6:=jbt (ys:=ws ++ [.ref p2]) ez10
    refine ⟨ws,ez10,szl' (by omega),_,ws ++ [.ref p2],rfl,jbh (s9.trans q10) hz0,ja1,?_⟩
    exact jbn (Lks.tups (Lks.tups pw (q9.trans q10).tups) t6) ⟨p2,rfl,t6 _ _ rfl ja1⟩
   | false =>
    walk_at "ND"
    refine ⟨_,ws,rfl,s9,q9 _ _ ez,?_⟩
    exact Lks.tups pw q9.tups
  rintro σ' H1 ⟨w1,ws,rfl,s1,ez,pw⟩
  refine ⟨⟨_,SqL.of (s1 _ _ hna),by rw [List.length_map]; exact Nat.le_refl _⟩,?_⟩
  rw [List.take_length] at pw
  refine h z ws H1 s1 hz0 ez ?_
  unfold jf2
  rw [if_pos c1]
  exact pw
 ·rw [decide_eq_false (show ¬ w0 = Str.ofString "beside" from c)]
  have c1:¬ x.1 = some wB:=fun z=>c (Option.some.inj (ew.symm.trans z))
  subst hR
  walk_at "ND"
  refine jbp (Itl K na) H (fun R2 hR2=>?_) (fun z hz0=>jbu (jc8 ts (jbg x)).length (fun j σ' Hd=>∃ w1 ws,σ' = [w1,some (.int (jbg x))]∧Same H Hd∧Hd z = some (.lst ws)∧Lks Hd ws (((jc8 ts (jbg x)).take j).map fun q=>(some wB,[jbg x,q]))) ⟨none,[],rfl,jag hz0 _,ja1,.nil⟩ ?_ ?_)
  ·unfold jcs
   simp_all_arith [ed,hv]
   exact ⟨na,rfl,⟨_,SqL.of hna⟩,hR2⟩
  ·rintro j σ' Hd hj ⟨w1,ws,rfl,s1,ez,pw⟩
   have hj0:(jc8 ts (jbg x))[j]? = some (jc8 ts (jbg x))[j]:=List.getElem?_eq_getElem hj
   generalize (jc8 ts (jbg x))[j] = q at hj0
   have hj1:((jc8 ts (jbg x)).map V.int)[j]? = some (.int q):=by rw [List.getElem?_map,hj0]; rfl
   have z1:SqL K Hd na ((jc8 ts (jbg x)).map V.int):=SqL.of (s1 _ _ hna)
   refine ⟨⟨_,_,z1,hj1⟩,?_⟩
   rintro y H' ⟨rfl,hy⟩
   have:=hy _ z1
   rw [hj1] at this
   cases this
   have hwl2:ws.length ≤ j:=by
    rw [Paired.length pw,List.length_map,List.length_take]
    exact Nat.min_le_left _ _
   walk_at "ND"
   intro p2 hp2
   have q10:=jag hp2 (.tup [.str (Str.ofString "beside"),V.int (jbg x),V.int q])
   have ez10:=q10 _ _ ez
   have t6:=jbt (ys:=ws ++ [.ref p2]) ez10
   refine ⟨ws,ez10,szl' (by omega),_,ws ++ [.ref p2],rfl,jbh (s1.trans q10) hz0,ja1,?_⟩
   rw [jbj hj0,List.map_append]
   exact jbn (Lks.tups (Lks.tups pw q10.tups) t6) ⟨p2,rfl,t6 _ _ rfl ja1⟩
  rintro σ' H1 ⟨w1,ws,rfl,s1,ez,pw⟩
  refine ⟨⟨_,SqL.of (s1 _ _ hna),by rw [List.length_map]; exact Nat.le_refl _⟩,?_⟩
  rw [List.take_length] at pw
  refine h z ws H1 s1 hz0 ez ?_
  unfold jf2
  rw [if_neg c1]
  exact pw
theorem jjt {f:Addr} {fd:FuncData} {f_nears_in:Addr} {d_nears_in:FuncData} {f_tied_by_dues:Addr} {d_tied_by_dues:FuncData} {f_loose_places:Addr} {d_loose_places:FuncData} {f_marked:Addr} {d_marked:FuncData} {f_links_from:Addr} {d_links_from:FuncData} (B:Blt mg) (D:DefAt K mg "chain_for" (top 37) ["web","dues"] f fd) (D_nears_in:DefAt K mg "nears_in" (top 25) ["web"] f_nears_in d_nears_in) (G_nears_in:FnOk P w K mg base CX0 1 f_nears_in d_nears_in ["web"] jjg) (D_tied_by_dues:DefAt K mg "tied_by_dues" (top 34) ["dues"] f_tied_by_dues d_tied_by_dues) (G_tied_by_dues:FnOk P w K mg base CX0 1 f_tied_by_dues d_tied_by_dues ["dues"] jrz) (D_loose_places:DefAt K mg "loose_places" (top 33) ["web","dues"] f_loose_places d_loose_places) (G_loose_places:FnOk P w K mg base CX0 2 f_loose_places d_loose_places ["web","dues"] jo9) (D_marked:DefAt K mg "marked" (top 11) ["places"] f_marked d_marked) (G_marked:FnOk P w K mg base CX0 1 f_marked d_marked ["places"] jhs) (D_links_from:DefAt K mg "links_from" (top 36) ["link","nears","paid_ties"] f_links_from d_links_from) (G_links_from:FnOk P w K mg base CX0 1 f_links_from d_links_from ["link","nears","paid_ties"] joa):FnOk P w K mg base CX0 3 f fd ["web","dues"] jm0:=by
 have sc:FnScope ["web","dues","nears","paid_ties","chain","named","done","here","link"] ["web","dues"] (jba (top 37)):=⟨rfl,rfl,rfl,by decide +kernel,rfl,by decide +kernel,by decide +kernel⟩
 refine D.F.ok sc (fun vs H Q E h=>?_) (fun cdv A outer s H vs Q E hr h=>?_)
 ·obtain ⟨v,ps,ts,l,us,ds,rfl,_⟩:=h
  rfl
 obtain ⟨v,ps,ts,l,us,ds,rfl,hw,wk,el,pu,hl,h⟩:=h
 have hpl:=wk.pl
 have hu:=jc7 hr
 have hu0:_ < PySem.cLine:=Nat.lt_of_succ_lt hu
 refine ⟨_,(jah (jbf (i:=2) sc.nd rfl (Or.inl rfl) (jbe G_nears_in (hr.mono (by decide)) rfl D_nears_in.m D_nears_in.F.kp D_nears_in.b .nil jbs (ja0 (qv 0) jai))) (jah (jbf (i:=3) sc.nd rfl (Or.inl rfl) (jbe G_tied_by_dues (hr.mono (by decide)) rfl D_tied_by_dues.m D_tied_by_dues.F.kp D_tied_by_dues.b .nil jbs (ja0 (qv 1) jai))) (jah (jku (i:=4) sc.nd rfl (Or.inl rfl) (CpScope.of (N:=["place"]) (src:=[none]) (by rfl)) rfl (jbr (jbe G_loose_places (hr.mono (by decide)) rfl D_loose_places.m D_loose_places.F.kp D_loose_places.b .nil jbs (ja0 (qv 0) (ja0 (qv 1) jai)))) (fun _ _ _ _=>(jbb (i:=0) (jbc (l:=["place"]) (by rfl)) rfl (Or.inl rfl))) (fun _ _ _ _=>jci) (fun _ _ _ _=>(jc4 (ja0 jh9 (ja0 (qv 0) jai))))) (jah (jbf (i:=5) sc.nd rfl (Or.inl rfl) (jbe G_marked (hr.mono (by decide)) rfl D_marked.m D_marked.F.kp D_marked.b .nil jbs (ja0 (jc6 (CpScope.of (N:=["link"]) (src:=[none]) (by rfl)) rfl (jbr (qv 4)) (fun _ _ _ _=>(jbb (i:=0) (jbc (l:=["link"]) (by rfl)) rfl (Or.inl rfl))) (fun _ _ _ _=>jci) (fun _ _ _ _=>(jbl q_ix (qv 0) (jgv jgu jaj) (fun _ _=>rfl)))) jai))) (jah (jbf (i:=6) sc.nd rfl (Or.inl rfl) jaj) (jah (jfh PassesOwn.never (jd7 q_lt (qv 6) (jbk ji0 rfl B.len PySem.boot_len (ja0 (qv 4) jai)) (jcc _)) (jah (jbf (i:=7) sc.nd rfl (Or.inl rfl) (jbl q_ix (qv 4) (qv 6) (fun _ _=>rfl))) (jah (jd8 PassesOwn.never rfl (jbr (jbe G_links_from (hr.mono (by decide)) rfl D_links_from.m D_links_from.F.kp D_links_from.b .nil jbs (ja0 (qv 7) (ja0 (qv 2) (ja0 (qv 3) jai))))) (jbb (i:=8) sc.nd rfl (Or.inl rfl)) (jb9 (jdz (jqs (jm4 hu (jbl q_ix (qv 8) (jgv jgu jaj) (fun _ _=>rfl)) (qv 5))) (jah (jh8 hu (qv 5) (jbl q_ix (qv 8) (jgv jgu jaj) (fun _ _=>rfl)) jjn) (jb9 (jc1 (q_bm PySem.F.plainAttrs_list PySem.F.slot_list_append PySem.F.type_list_append jch (qv 4) (ja0 (qv 8) jai))))) jcd))) (jb9 (jjk (i:=6) sc.nd rfl (Or.inl rfl) jaj jm2))))) (jb9 (jbq (qv 4))))))))),?_⟩
 refine jb8 fun R hR=>?_
 walk_at "ND"
 refine ⟨v,ps,ts,rfl,hw,wk,fun dn as H1 hd1 s1 ed1 la1 nr1=>?_⟩
 have nrA:NrAt H1 dn ps ts:=⟨as,ed1,la1,nr1⟩
 clear ed1 la1 nr1
 subst hR
 refine jb8 fun R hR=>?_
 walk_at "ND"
 refine ⟨l,us,ds,rfl,s1 _ _ el,jbv s1.tups pu,hl,fun dt kt H2 s2 edt tdt=>?_⟩
 have s02:=s1.trans s2
 have nrB:=nrA.same s2
 clear nrA
 have lsl:=(jf3 ps ds).length_le
 rw [List.length_map] at lsl
 subst hR
 refine jb8 fun R hR=>?_
 walk_at "ND"
 refine jd6 (ι:=Addr × Hp) (fun y=>Itl K y.1) (fun y=>y.2) (fun y=>Same H2 y.2∧y.2 y.1 = some (.lst ((jca ps ds).map V.int))) (fun R2 hR2=>?_) ?_
 ·unfold jcs
  walk_at "ND"
  refine ⟨v,ps,ts,l,us,ds,rfl,hw.same s02,wk,s02 _ _ el,jbv s02.tups pu,hl,fun r H3 s3 er=>?_⟩
  exact ⟨r,rfl,⟨_,SqL.of er⟩,hR2 (r,H3) ⟨s3,er⟩⟩
 rintro ⟨r,H3⟩ ⟨s3,er⟩ ch hch
 dsimp only at s3 er hch ⊢
 refine jbu (jca ps ds).length (fun j σ' Hd=>∃ w1 ws,σ' = [w1]∧Same H3 Hd∧Hd ch = some (.lst ws)∧Lks Hd ws (((jca ps ds).take j).map fun q=>(some wL,[q]))) ⟨none,[],rfl,jag hch _,ja1,.nil⟩ ?_ ?_
 ·rintro j σ' Hd hj ⟨w1,ws,rfl,s4,ez,pw⟩
  have hj0:(jca ps ds)[j]? = some (jca ps ds)[j]:=List.getElem?_eq_getElem hj
  generalize (jca ps ds)[j] = q at hj0
  have hj1:((jca ps ds).map V.int)[j]? = some (.int q):=by rw [List.getElem?_map,hj0]; rfl
  have z1:SqL K Hd r ((jca ps ds).map V.int):=SqL.of (s4 _ _ er)
  refine ⟨⟨_,_,z1,hj1⟩,?_⟩
  rintro y H' ⟨rfl,hy⟩
  have:=hy _ z1
  rw [hj1] at this
  cases this
  have hwl2:ws.length ≤ j:=by
   rw [Paired.length pw,List.length_map,List.length_take]
   exact Nat.min_le_left _ _
  walk_at "ND"
  intro p2 hp2
  have q10:=jag hp2 (.tup [.str (Str.ofString "loose"),V.int q])
  have ez10:=q10 _ _ ez
  have t6:=jbt (ys:=ws ++ [.ref p2]) ez10
  refine ⟨ws,ez10,szl' (by omega),_,ws ++ [.ref p2],rfl,jbh (s4.trans q10) hch,ja1,?_⟩
  rw [jbj hj0,List.map_append]
  exact jbn (Lks.tups (Lks.tups pw q10.tups) t6) ⟨p2,rfl,t6 _ _ rfl ja1⟩
 rintro σ' H4 ⟨w1,ws,rfl,s4,ez,pw⟩
 refine ⟨⟨_,SqL.of (s4 _ _ er),by rw [List.length_map]; exact Nat.le_refl _⟩,?_⟩
 rw [List.take_length] at pw
 have C0:=ChI.zero (ds:=ds) wk
 generalize hc0:((jca ps ds).map fun n=>((some wL,[n]):Lk)) = c0 at pw C0
 have hc0l:=C0.len
 have hwsl:=Paired.length pw
 have s24:=s3.trans s4
 have hchH:H ch = none:=(s02.trans s3).free hch
 subst hR
 refine jb8 fun R hR=>?_
 walk_at "ND"
 refine jbp (Itl K ch) H4 (fun R2 hR2=>?_) (fun z hz0=>jbu c0.length (fun j σ' Hd=>∃ w1,σ' = [w1]∧Same H4 Hd∧Hd z = some (.lst (((c0.take j).map jbg).map V.int))) ⟨none,rfl,jag hz0 _,ja1⟩ ?_ ?_)
 ·unfold jcs
  walk_at "ND"
  exact ⟨ch,rfl,⟨_,SqL.of ez⟩,hR2⟩
 ·rintro j σ' Hd hj ⟨w1,rfl,s5,ez5⟩
  have x1:c0[j]? = some c0[j]:=List.getElem?_eq_getElem hj
  obtain ⟨rv,hrv,prv⟩:=jck pw x1
  obtain ⟨ra,rfl,era⟩:=prv.tups s5.tups
  have z1:SqL K Hd ch ws:=SqL.of (s5 _ _ ez)
  refine ⟨⟨_,_,z1,hrv⟩,?_⟩
  rintro y H' ⟨rfl,hy⟩
  have:=hy _ z1
  rw [hrv] at this
  cases this
  obtain ⟨w0,ew,a0,al⟩:=(C0.good _ (List.getElem_mem hj)).v
  simp_all_arith [jbo,era,al]
  refine ⟨_,ez5,?_,_,rfl,jbh s5 hz0,?_⟩
  ·rw [List.length_map,List.length_map,List.length_take]
   exact szl' (by omega)
  ·rw [ja1,jbj x1,List.map_append,List.map_append]
   rfl
 rintro σ' H5 ⟨w1,rfl,s5,ez5⟩
 refine ⟨⟨_,SqL.of (s5 _ _ ez),by omega⟩,?_⟩
 rw [List.take_length] at ez5
 walk_at "ND"
 refine ⟨z,c0.map jbg,rfl,ez5,C0.nd,by rw [List.length_map]; omega,fun dm H6 hdm s6 edm=>?_⟩
 have s46:=s5.trans s6
 have s26:=s24.trans s46
 have s06:=s02.trans s26
 have ndc:dm ≠ ch:=(ja5 (s5 _ _ ez) hdm).symm
 have hdmH:H dm = none:=((s02.trans s24).trans s5).free hdm
 have hdm2:H2 dm = none:=(s24.trans s5).free hdm
 have hch2:H2 ch = none:=s3.free hch
 have ech6:=s46 _ _ ez
 have pw6:=Lks.tups pw s46.tups
 clear ez ez5 hz0 s5 s46 pw
 subst hR
 refine jb8 fun R hR=>?_
 walk_at "ND"
 subst hR
 refine jb8 fun R hR=>?_
 refine jff (fun σ Hc=>∃ (k:Nat) (v7 v8:Option V) (ws:List V) (c:List Lk),σ = [some v,some (.ref l),some (.ref dn),some (.ref dt),some (.ref ch),some (.ref dm),some (.int (k:Int)),v7,v8]∧Same H2 Hc∧Hc ch = some (.lst ws)∧Lks Hc ws c∧Hc dm = some (.dK (mkI (c.map jbg)))∧ChI ps ts ds c k∧k ≤ c.length) (fun σ _=>match σ with | [_,_,_,_,_,_,some (.int k),_,_]=>ps.length - k.toNat | _=>0) ⟨0,none,none,ws,c0,rfl,s26,ech6,pw6,edm,C0,Nat.zero_le _⟩ ?_ ?_
 ·rintro σ Hc ⟨k,v7,v8,ws,c,rfl,s7,ech,pw,edm7,C,hk⟩
  have hwl:=Paired.length pw
  have hcl:=C.len
  by_cases c1:k < c.length
  ·have hdt:decide ((k:Int) < (ws.length:Int)) = true:=decide_eq_true (by omega)
   have xk:c[k]? = some c[k]:=List.getElem?_eq_getElem c1
   have hxm:=List.getElem_mem c1
   generalize c[k] = x at xk hxm
   obtain ⟨rv,hrv,prv⟩:=jck pw xk
   have aw:atI ws (k:Int) = some rv:=jdc hrv
   simp_all_arith [jbo,ech,hdt,aw]
   refine jeu (ι:=Addr × List V × Hp) (fun y=>Itl K y.1) (fun y=>y.2.2) (fun y=>Same Hc y.2.2∧Hc y.1 = none∧y.2.2 y.1 = some (.lst y.2.1)∧Lks y.2.2 y.2.1 (jf2 ts ds x)) (fun R2 hR2=>?_) ?_
   ·unfold jcs
    walk_at "ND"
    refine ⟨rv,dn,dt,ps,ts,ds,kt,x,rfl,prv,C.good x hxm,C.place x hxm,wk,nrB.same s7,s7 _ _ edt,tdt,fun lr zs H8 s8 hlr elr plr=>?_⟩
    exact ⟨lr,rfl,⟨_,SqL.of elr⟩,hR2 (lr,zs,H8) ⟨s8,hlr,elr,plr⟩⟩
   rintro ⟨lr,zs,H8⟩ ⟨s8,hlr,elr,plr⟩
   dsimp only at s8 hlr elr plr
   have hzl:=Paired.length plr
   have nlc:lr ≠ ch:=(ja5 ech hlr).symm
   have nld:lr ≠ dm:=(ja5 edm7 hlr).symm
   refine jcv (K:=K) (a:=lr) (xs:=zs) (fun i σ H9=>∃ v8 ws c,σ = [some v,some (.ref l),some (.ref dn),some (.ref dt),some (.ref ch),some (.ref dm),some (.int (k:Int)),some rv,v8]∧Same H2 H9∧TupS H8 H9∧H9 lr = some (.lst zs)∧H9 ch = some (.lst ws)∧Lks H9 ws c∧H9 dm = some (.dK (mkI (c.map jbg)))∧ChI ps ts ds c k∧k < c.length∧c[k]? = some x∧∀ (j:Nat) (y:Lk),j < i→(jf2 ts ds x)[j]? = some y→jbg y ∈ c.map jbg) ⟨v8,ws,c,rfl,s7.trans s8,TupS.refl _,elr,s8 _ _ ech,Lks.tups pw s8.tups,s8 _ _ edm7,C,c1,xk,fun j y hj=>absurd hj (Nat.not_lt_zero _)⟩ (fun i σ H9 _ ⟨v8,ws,c,_,_,_,e9,_⟩=>SqL.of e9) ?_ ?_
   ·rintro i y σ H9 hy ⟨v8,ws,c,rfl,s9,t9,elr9,ech9,pw9,edm9,C9,hk9,xk9,hd9⟩
    obtain ⟨q,hq,pq⟩:=jbi plr hy
    obtain ⟨tq,rfl,etq⟩:=pq.tups t9
    have hqm:=List.mem_of_getElem? hq
    obtain ⟨w0,ew,a0,al⟩:=(jp1 hqm).1.v
    have hcl9:=C9.len
    have hwl9:=Paired.length pw9
    have hm:(valV (mkI (c.map jbg)) (Sum.inl (jbg q):Key)).isSome = decide (jbg q ∈ c.map jbg):=jig _ _
    simp_all_arith [jbo,etq,al,edm9,hm]
    by_cases c2:jbg q ∈ c.map jbg
    ·rw [decide_eq_true c2]
     walk_at "ND"
     refine ⟨_,ws,c,rfl,s9,t9,elr9,ech9,pw9,(by first | exact edm9 | rfl),C9,hk9,xk9,fun j y hj hy2=>?_⟩
     by_cases e:j = i
     ·subst e
      rw [hq] at hy2
      cases hy2
      exact c2
     ·exact hd9 j y (by omega) hy2
    ·rw [decide_eq_false c2]
     have C10:=C9.put wk (by omega) (List.mem_of_getElem? xk9) hqm c2
     simp_all_arith [jtl c2]
     have hmc:(c ++ [q]).map jbg = c.map jbg ++ [jbg q]:=by rw [List.map_append]; rfl
     have ech10:upd H9 dm (.dK (mkI (c.map jbg ++ [jbg q]))) ch = some (.lst ws):=by rw [jas ndc.symm]; exact ech9
     have t10:=jkp (ys:=mkI (c.map jbg ++ [jbg q])) edm9
     have t11:=jbt (ys:=ws ++ [.ref tq]) ech10
     have t12:=t10.trans t11
     refine ⟨by unfold mkI; rw [List.length_map,List.length_map]; exact szl' (by omega),⟨ch,ws,rfl,ech10⟩,?_⟩
     rw [ech10]
     dsimp only
     refine ⟨szl' (by omega),_,ws ++ [.ref tq],c ++ [q],rfl,jbh (jbh s9 hdm2) hch2,t9.trans t12,by rw [jas nlc,jas nld]; exact elr9,ja1,jbn (Lks.tups pw9 t12) ⟨tq,rfl,t12 _ _ rfl etq⟩,by rw [jas ndc,ja1,hmc],C10,by rw [List.length_append]; omega,by rw [List.getElem?_append_left hk9]; exact xk9,fun j y hj hy2=>?_⟩
     rw [hmc]
     by_cases e:j = i
     ·subst e
      rw [hq] at hy2
      cases hy2
      exact List.mem_append_right _ (List.mem_singleton.mpr rfl)
     ·exact List.mem_append_left _ (hd9 j y (by omega) hy2)
   ·rintro σ H9 ⟨v8,ws,c,rfl,s9,t9,elr9,ech9,pw9,edm9,C9,hk9,xk9,hd9⟩
    walk_at "ND"
    refine ⟨⟨k + 1,_,_,ws,c,by rw [show ((k + 1:Nat):Int) = (k:Int) + 1 by omega],s9,ech9,pw9,edm9,C9.next xk9 fun y hy=>?_,hk9⟩,?_⟩
    ·obtain ⟨j,hj⟩:=List.mem_iff_getElem?.mp hy
     exact hd9 j y (by rw [hzl]; exact (List.getElem?_eq_some_iff.mp hj).1) hj
    ·have:=C9.len
     omega
  ·have hdt:decide ((k:Int) < (ws.length:Int)) = false:=decide_eq_false (by omega)
   simp_all_arith [jbo,ech,hdt]
   subst hR
   walk_at "ND"
   have e:k = c.length:=by omega
   subst e
   exact h ch ws c Hc (s02.trans s7) hchH ech pw C
 ·intro σ Hc Q1 Q2 hq hc
  unfold fB tOp tCB jam tNil fVar at hc ⊢
  cases e:σ[6]? with
  | none=>rw [e] at hc; exact hc.elim
  | some ov =>
   rw [e] at hc
   cases ov with
   | none=>exact hc.elim
   | some u =>
    dsimp only [fLen,fI,tC] at hc ⊢
    cases e3:σ[4]? with
    | none=>rw [e3] at hc; exact hc.elim
    | some ov3 =>
     rw [e3] at hc
     cases ov3 with
     | none=>exact hc.elim
     | some u3 =>
      dsimp only at hc ⊢
      cases u3 with
      | ref b =>
       dsimp only at hc ⊢
       cases e2:jbo Hc b with
       | none=>rw [e2] at hc; exact hc.elim
       | some us =>
        rw [e2] at hc
        dsimp only at hc ⊢
        cases u with
        | int i=>exact hq _ _ hc
        | _=>exact hc.elim
      | _=>exact hc.elim
end
end My
namespace Fl
section
variable {ns:List Int} {ts:List (Int × Int)} {sp:Int→Int} {hs r:List Int} {wf:Int→List Nat} {pr:Int→Int} {cap:Nat→Int}
end
section
variable {ns:List Int} {pr:Int→Int} {zs:List Tw} {fs ft:Int→Int} {SL SR:Int→Bool}
theorem sum_nn {α:Type} {f:α→Int}:∀ {l:List α},(∀ p ∈ l,0 ≤ f p)→0 ≤ (l.map f).sum
 | [],_=>Int.le_refl _
 | a :: l,h=>by
  rw [List.map_cons,List.sum_cons]
  have:=h a (List.mem_cons_self ..)
  have:=sum_nn (f:=f) (l:=l) fun p hp=>h p (List.mem_cons_of_mem _ hp)
  omega
theorem Full.gap (F:Full ns pr zs fs ft SL SR) (y:Int→Int):(ns.map fun p=>y p * (2 * pr p - (fs p + ft p))).sum + (zs.map fun z=>(z.x + z.y) * (y z.a + y z.b - 2)).sum = 2 * (ns.map fun p=>pr p * y p).sum - 2 * (ns.map fun p=>pr p * halfOf SL SR p).sum:=by
 have e1:(ns.map fun p=>y p * (2 * pr p - (fs p + ft p))).sum + ((ns.map fun p=>y p * outL zs p).sum + (ns.map fun p=>y p * inR zs p).sum) = (ns.map fun p=>pr p * y p).sum + (ns.map fun p=>pr p * y p).sum:=by
  rw [← sum_add,← sum_add,← sum_add]
  refine sum_congr fun p hp=>?_
  rw [← F.left p hp,← F.right p hp,Int.mul_sub,Int.mul_add,Int.mul_comm (pr p),← Int.mul_assoc,Int.mul_comm (y p) 2,Int.mul_assoc]
  omega
 have e2:(zs.map fun z=>(z.x + z.y) * (y z.a + y z.b - 2)).sum + ((zs.map fun z=>z.x + z.y).sum + (zs.map fun z=>z.x + z.y).sum) = (zs.map fun z=>y z.a * z.x + y z.b * z.y).sum + (zs.map fun z=>y z.b * z.x + y z.a * z.y).sum:=by
  rw [← sum_add,← sum_add,← sum_add]
  refine sum_congr fun z _=>?_
  rw [Int.mul_sub,Int.mul_add,Int.add_mul,Int.add_mul,Int.mul_comm z.x,Int.mul_comm z.y,Int.mul_comm z.x,Int.mul_comm z.y]
  omega
 rw [jfq y F.nd F.ends,jln y F.nd F.ends] at e1
 rw [F.worth] at e2
 omega
theorem Full.nnP (F:Full ns pr zs fs ft SL SR) {y:Int→Int} (y0:∀ p ∈ ns,0 ≤ y p):∀ p ∈ ns,0 ≤ y p * (2 * pr p - (fs p + ft p)):=fun p hp=>by
 have a:=F.capL p hp
 have b:=F.capR p hp
 exact Int.mul_nonneg (y0 p hp) (by omega)
theorem Full.nnZ (F:Full ns pr zs fs ft SL SR) {y:Int→Int} (y2:∀ z ∈ zs,2 ≤ y z.a + y z.b):∀ z ∈ zs,0 ≤ (z.x + z.y) * (y z.a + y z.b - 2):=fun z hz=>by
 have a:=F.pos z hz
 have b:=y2 z hz
 exact Int.mul_nonneg (by omega) (by omega)
theorem Full.least (F:Full ns pr zs fs ft SL SR) {y:Int→Int} (y0:∀ p ∈ ns,0 ≤ y p) (y2:∀ z ∈ zs,2 ≤ y z.a + y z.b):(ns.map fun p=>pr p * halfOf SL SR p).sum ≤ (ns.map fun p=>pr p * y p).sum:=by
 have g:=F.gap y
 have a:=sum_nn (F.nnP y0)
 have b:=sum_nn (F.nnZ y2)
 omega
theorem zero_of {a b:Int} (h:a * b ≤ 0) (ha:0 ≤ a) (hb:0 < b):a = 0:=by
 by_cases c:a = 0
 ·exact c
 ·have:=Int.mul_pos (show 0 < a by omega) hb
  omega
end
end Fl
namespace Fl
section
variable {ns:List Int} {pr:Int→Int} {zs:List Tw} {fs ft:Int→Int} {SL SR:Int→Bool}
theorem Full.paid_eq (F:Full ns pr zs fs ft SL SR) {p:Int} (hp:p ∈ ns):(zs.map fun z=>pick z.a p (z.x + z.y) + pick z.b p (z.x + z.y)).sum = fs p + ft p:=by
 rw [F.left p hp,F.right p hp]
 unfold outL inR
 rw [← sum_add]
 refine sum_congr fun z _=>?_
 unfold pick
 split <;> split <;> omega
theorem Full.slack (F:Full ns pr zs fs ft SL SR) {y:Int→Int} (y0:∀ p ∈ ns,0 ≤ y p) (y2:∀ z ∈ zs,2 ≤ y z.a + y z.b) (hc:(ns.map fun p=>pr p * y p).sum ≤ (ns.map fun p=>pr p * halfOf SL SR p).sum):(∀ p ∈ ns,fs p + ft p < 2 * pr p→y p = 0)∧∀ z ∈ zs,0 < z.x + z.y→y z.a + y z.b = 2:=by
 have g:=F.gap y
 have n1:=F.nnP y0
 have n2:=F.nnZ y2
 have s1:=sum_nn n1
 have s2:=sum_nn n2
 have l1:=le_sum n1
 have l2:=le_sum n2
 refine ⟨fun p hp h=>?_,fun z hz h=>?_⟩
 ·have:=l1 p hp
  exact zero_of (b:=2 * pr p - (fs p + ft p)) (by omega) (y0 p hp) (by omega)
 ·have:=l2 z hz
  have h2:=y2 z hz
  have q:=zero_of (a:=y z.a + y z.b - 2) (b:=z.x + z.y) (by rw [Int.mul_comm]; omega) (by omega) h
  omega
theorem Full.tight (F:Full ns pr zs fs ft SL SR) {y:Int→Int} (h1:∀ p ∈ ns,y p = 0 ∨ fs p + ft p = 2 * pr p) (h2:∀ z ∈ zs,z.x + z.y = 0 ∨ y z.a + y z.b = 2):(ns.map fun p=>pr p * y p).sum = (ns.map fun p=>pr p * halfOf SL SR p).sum:=by
 have g:=F.gap y
 have a:(ns.map fun p=>y p * (2 * pr p - (fs p + ft p))).sum = 0:=by
  rw [sum_congr (g:=fun _=>0) fun p hp=>?_,sum_zero]
  rcases h1 p hp with h | h
  ·rw [h,Int.zero_mul]
  ·rw [h,Int.sub_self,Int.mul_zero]
 have b:(zs.map fun z=>(z.x + z.y) * (y z.a + y z.b - 2)).sum = 0:=by
  rw [sum_congr (g:=fun _=>0) fun z hz=>?_,sum_zero]
  rcases h2 z hz with h | h
  ·rw [h,Int.zero_mul]
  ·rw [h,Int.sub_self,Int.mul_zero]
 omega
end
end Fl
namespace My
open PySem L2
section
variable {P:Program} {w:World} {K:PySem.W.Frag} {mg:Str→Option Value} {base:Heap} {c1 c2 c3 c4:Tok} {C_NoWeb f_NoWeb:Addr} {dI:FuncData}
theorem jss {ps ts:List (Int × Int)} {r:List Int}:∀ z ∈ Fl.twS (ps.map (·.1)) r ts,(z.a,z.b) ∈ ts:=fun z hz=>by
 unfold Fl.twS at hz
 obtain ⟨j,hj,rfl⟩:=List.mem_map.mp hz
 exact List.mem_of_getElem? (Fl.getD_at (List.mem_range.mp hj))
theorem jev {ps ts:List (Int × Int)} (wk:WebOk ps ts) (y:Int→Int):((ps.map (·.1)).map fun n=>hOf ps n * y n).sum = (ps.map fun p=>p.2 * y p.1).sum:=by
 rw [List.map_map]
 exact Fl.sum_congr fun p hp=>by show hOf ps p.1 * _ = _; rw [jed wk p hp]
def jiv (ps:List (Int × Int)) (y:Int→Int):Int:=(ps.map fun p=>p.2 * y p.1).sum
structure Cov (ps ts:List (Int × Int)) (y:Int→Int):Prop where
 b:∀ p ∈ ps,0 ≤ y p.1∧y p.1 ≤ 2
 t:∀ t ∈ ts,2 ≤ y t.1 + y t.2
theorem jiu {ps ts:List (Int × Int)} {r:List Int} (wk:WebOk ps ts) (h:Rst ps ts r):Cov ps ts (hfW ps ts r):=by
 refine ⟨fun p _=>Fl.half_in p.1,fun t ht=>?_⟩
 have F:=jgk wk h
 have hz:t ∈ (triW ps ts r).map (fun d=>(d.1,d.2.1)):=by rw [jny]; exact ht
 obtain ⟨d,hd,rfl⟩:=List.mem_map.mp hz
 obtain ⟨z,hz2,rfl⟩:=List.mem_map.mp hd
 exact F.two z hz2
theorem jh5 {ps ts:List (Int × Int)} {r:List Int} (wk:WebOk ps ts) (h:Rst ps ts r) {y:Int→Int} (c:Cov ps ts y):jiv ps (hfW ps ts r) ≤ jiv ps y:=by
 have:=(jgk wk h).least (y:=y) (fun n hn=>by obtain ⟨p,hp,rfl⟩:=List.mem_map.mp hn; exact (c.b p hp).1) fun z hz=>c.t _ (jss z hz)
 rw [jev wk,jev wk] at this
 exact this
structure Best (ps ts:List (Int × Int)) (y:Int→Int):Prop where
 c:Cov ps ts y
 m:∀ y',Cov ps ts y'→jiv ps y ≤ jiv ps y'
theorem jgp {ps ts:List (Int × Int)} {r:List Int} (wk:WebOk ps ts) (h:Rst ps ts r):Best ps ts (hfW ps ts r):=⟨jiu wk h,fun _ c=>jh5 wk h c⟩
section
variable {ps ts:List (Int × Int)} {r:List Int}
theorem jg2 (wk:WebOk ps ts) (h:Rst ps ts r) {p:Int × Int} (hp:p ∈ ps):jd5 (duT ps ts r) p.1 = Fl.fsOf (spF ps) r p.1 + Fl.ftOf (ps.map (·.1)) (spF ps) r p.1:=by
 have F:=jgk wk h
 have nn:∀ d ∈ triW ps ts r,0 ≤ d.2.2:=fun d hd=>by
  obtain ⟨z,hz,rfl⟩:=List.mem_map.mp hd
  have:=F.pos z hz
  dsimp only
  omega
 rw [jpu,jjo nn]
 have:=F.paid_eq (List.mem_map.mpr ⟨p,hp,rfl⟩)
 unfold jd5 triW
 rw [List.map_map]
 exact this
theorem jey (wk:WebOk ps ts) (h:Rst ps ts r) {y:Int→Int} (b:Best ps ts y):(∀ p ∈ ps,jd5 (duT ps ts r) p.1 < 2 * p.2→y p.1 = 0)∧∀ d ∈ duT ps ts r,y d.1 + y d.2.1 = 2:=by
 have F:=jgk wk h
 have hc:=b.m _ (jiu wk h)
 obtain ⟨s1,s2⟩:=F.slack (y:=y) (fun n hn=>by obtain ⟨p,hp,rfl⟩:=List.mem_map.mp hn; exact (b.c.b p hp).1) (fun z hz=>b.c.t _ (jss z hz)) (by rw [jev wk,jev wk]; exact hc)
 refine ⟨fun p hp hl=>?_,fun d hd=>?_⟩
 ·rw [jg2 wk h hp] at hl
  exact s1 p.1 (List.mem_map.mpr ⟨p,hp,rfl⟩) (by rw [jed wk p hp]; exact hl)
 ·rw [jpu] at hd
  obtain ⟨h1,h2⟩:=List.mem_filter.mp hd
  obtain ⟨z,hz,rfl⟩:=List.mem_map.mp h1
  exact s2 z hz (of_decide_eq_true h2)
theorem jlw {ds:List (Int × Int × Int)} {a b:Int} (h:jes ds a b = true):∃ d ∈ ds,(d.1 = a∧d.2.1 = b) ∨ (d.1 = b∧d.2.1 = a):=by
 obtain ⟨d,hd,e⟩:=List.any_eq_true.mp h
 refine ⟨d,hd,?_⟩
 simpa using e
theorem jqh {ds:List (Int × Int × Int)} {d:Int × Int × Int} (h:d ∈ ds):jes ds d.1 d.2.1 = true∧jes ds d.2.1 d.1 = true:=⟨List.any_eq_true.mpr ⟨d,h,by simp⟩,List.any_eq_true.mpr ⟨d,h,by simp⟩⟩
def insK (c:List Lk):List Int:=(c.filter fun x=>decide (x.1 = some wB)).map jbg
def jcy (c:List Lk):List Int:=(c.filter fun x=>!decide (x.1 = some wB)).map jbg
theorem jfm {c:List Lk} {n:Int}:n ∈ insK c ↔ ∃ x ∈ c,x.1 = some wB∧jbg x = n:=by
 unfold insK
 rw [List.mem_map]
 constructor
 ·rintro ⟨x,hx,e⟩
  have:=List.mem_filter.mp hx
  exact ⟨x,this.1,of_decide_eq_true this.2,e⟩
 ·rintro ⟨x,hx,h1,e⟩
  exact ⟨x,List.mem_filter.mpr ⟨hx,decide_eq_true h1⟩,e⟩
theorem jee {c:List Lk} {n:Int}:n ∈ jcy c ↔ ∃ x ∈ c,x.1 ≠ some wB∧jbg x = n:=by
 unfold jcy
 rw [List.mem_map]
 constructor
 ·rintro ⟨x,hx,e⟩
  have:=List.mem_filter.mp hx
  exact ⟨x,this.1,by simpa using this.2,e⟩
 ·rintro ⟨x,hx,h1,e⟩
  exact ⟨x,List.mem_filter.mpr ⟨hx,by simpa using h1⟩,e⟩
theorem jie {c:List Lk} {n:Int} (h:n ∈ c.map jbg):n ∈ insK c ∨ n ∈ jcy c:=by
 obtain ⟨x,hx,e⟩:=List.mem_map.mp h
 by_cases q:x.1 = some wB
 ·exact .inl (jfm.mpr ⟨x,hx,q,e⟩)
 ·exact .inr (jee.mpr ⟨x,hx,q,e⟩)
theorem jo0 (wk:WebOk ps ts):∀ t ∈ ts,t.1 < t.2:=fun t ht=>(TiOk.in wk.t t ht).1
theorem jtj (wk:WebOk ps ts) {n q:Int} (h:q ∈ jc8 ts n):n ∈ ps.map (·.1)∧q ∈ ps.map (·.1):=by
 rcases jeh h with t | t
 ·exact je6 wk _ t
 ·exact (je6 wk _ t).symm
variable {c:List Lk}
theorem jgo (wk:WebOk ps ts) (h:Rst ps ts r) (C:ChI ps ts (duT ps ts r) c c.length) {y:Int→Int} (b:Best ps ts y):(∀ n ∈ insK c,y n = 2)∧∀ n ∈ jcy c,y n = 0:=by
 obtain ⟨s1,s2⟩:=jey wk h b
 have bd:∀ n ∈ ps.map (·.1),0 ≤ y n∧y n ≤ 2:=fun n hn=>by obtain ⟨p,hp,rfl⟩:=List.mem_map.mp hn; exact b.c.b p hp
 have sy:=C.sound (fun n=>y n = 0) (fun n=>y n = 2) (fun n hn=>?_) (fun n q hq h0=>?_) (fun n q hq ht h2=>?_)
 ·refine ⟨fun n hn=>?_,fun n hn=>?_⟩
  ·obtain ⟨x,hx,e,rfl⟩:=jfm.mp hn
   exact (sy x hx).1 e
  ·obtain ⟨x,hx,e,rfl⟩:=jee.mp hn
   exact (sy x hx).2 e
 ·obtain ⟨p,hp,rfl⟩:=List.mem_map.mp hn
  have:=List.mem_filter.mp hp
  exact s1 p this.1 (of_decide_eq_true this.2)
 ·have hb:=bd q (jtj wk hq).2
  rcases jeh hq with t | t
  ·have:=b.c.t _ t
   dsimp only at this h0 ⊢
   omega
  ·have:=b.c.t _ t
   dsimp only at this h0 ⊢
   omega
 ·obtain ⟨d,hd,e⟩:=jlw ht
  have:=s2 d hd
  rcases e with ⟨e1,e2⟩ | ⟨e1,e2⟩
  ·rw [e1,e2] at this
   omega
  ·rw [e1,e2] at this
   omega
def hC (c:List Lk) (n:Int):Int:=if n ∈ insK c then 2 else if n ∈ jcy c then 0 else 1
theorem jni (wk:WebOk ps ts) (h:Rst ps ts r) (C:ChI ps ts (duT ps ts r) c c.length):Best ps ts (hC c):=by
 have F:=jgk wk h
 obtain ⟨i2,o0⟩:=jgo wk h C (jgp wk h)
 have dis:∀ n,n ∈ insK c→n ∉ jcy c:=fun n h1 h2=>by
  have:=i2 n h1
  have:=o0 n h2
  omega
 have close:∀ x ∈ c,∀ y ∈ jf2 ts (duT ps ts r) x,jbg y ∈ c.map jbg:=fun x hx y hy=>by
  obtain ⟨i,hi⟩:=List.mem_iff_getElem?.mp hx
  exact C.done i x (List.getElem?_eq_some_iff.mp hi).1 hi y hy
 have out_in:∀ n q,q ∈ jc8 ts n→n ∈ jcy c→q ∈ insK c:=fun n q hq hn=>by
  obtain ⟨x,hx,e,rfl⟩:=jee.mp hn
  have:=close x hx (some wB,[jbg x,q]) (by unfold jf2; rw [if_neg e]; exact List.mem_map.mpr ⟨q,hq,rfl⟩)
  rcases jie this with z | z
  ·exact z
  ·have a1:=o0 _ hn
   have a2:=o0 _ z
   have ct:=(jiu wk h).t
   change hfW ps ts r q = 0 at a2
   rcases jeh hq with t | t
   ·have:=ct _ t
    dsimp only at this
    omega
   ·have:=ct _ t
    dsimp only at this
    omega
 have in_out:∀ n q,q ∈ jc8 ts n→jes (duT ps ts r) n q = true→n ∈ insK c→q ∈ jcy c:=fun n q hq ht hn=>by
  obtain ⟨x,hx,e,rfl⟩:=jfm.mp hn
  have:=close x hx (some wT,[jbg x,q]) (by unfold jf2; rw [if_pos e]; exact List.mem_map.mpr ⟨q,List.mem_filter.mpr ⟨hq,ht⟩,rfl⟩)
  rcases jie this with z | z
  ·have a1:=i2 _ hn
   have a2:=i2 _ z
   change hfW ps ts r q = 2 at a2
   obtain ⟨d,hd,e⟩:=jlw ht
   have:=(jey wk h (jgp wk h)).2 d hd
   rcases e with ⟨e1,e2⟩ | ⟨e1,e2⟩
   ·rw [e1,e2] at this
    omega
   ·rw [e1,e2] at this
    omega
  ·exact z
 have hv:∀ n,(n ∈ insK c∧hC c n = 2) ∨ (n ∉ insK c∧n ∈ jcy c∧hC c n = 0) ∨ (n ∉ insK c∧n ∉ jcy c∧hC c n = 1):=fun n=>by
  unfold hC
  by_cases c1:n ∈ insK c
  ·exact .inl ⟨c1,if_pos c1⟩
  ·by_cases c2:n ∈ jcy c
   ·exact .inr (.inl ⟨c1,c2,by rw [if_neg c1,if_pos c2]⟩)
   ·exact .inr (.inr ⟨c1,c2,by rw [if_neg c1,if_neg c2]⟩)
 have cv:Cov ps ts (hC c):=by
  refine ⟨fun p _=>?_,fun t ht=>?_⟩
  ·rcases hv p.1 with ⟨_,e⟩ | ⟨_,_,e⟩ | ⟨_,_,e⟩ <;> omega
  ·obtain ⟨n1,n2⟩:=jmh (jo0 wk) (a:=t.1) (b:=t.2) ht
   rcases hv t.1 with ⟨_,e⟩ | ⟨_,e1,e⟩ | ⟨_,_,e⟩ <;> rcases hv t.2 with ⟨f1,f⟩ | ⟨f1,f2,f⟩ | ⟨f1,f2,f⟩
   all_goals first
    | omega
    | exact absurd (out_in _ _ n1 e1) f1
    | (exfalso; rename_i g1 g2; exact g1 (out_in _ _ n2 f2))
 refine ⟨cv,fun y' c'=>?_⟩
 have e:=F.tight (y:=hC c) (fun n hn=>?_) (fun z hz=>?_)
 ·rw [jev wk,jev wk] at e
  have:=jh5 wk h c'
  unfold jiv hfW at this
  unfold jiv
  omega
 ·obtain ⟨p,hp,rfl⟩:=List.mem_map.mp hn
  rw [← jg2 wk h hp,jed wk p hp]
  by_cases q:jd5 (duT ps ts r) p.1 < 2 * p.2
  ·have hl:p.1 ∈ jca ps (duT ps ts r):=List.mem_map.mpr ⟨p,List.mem_filter.mpr ⟨hp,decide_eq_true q⟩,rfl⟩
   have z0:=(jey wk h (jgp wk h)).1 p hp q
   rcases hv p.1 with ⟨e1,e⟩ | ⟨_,e1,e⟩ | ⟨e1,e2,e⟩
   ·have:=i2 _ e1
    omega
   ·exact .inl e
   ·rcases jie (C.start _ hl) with z | z
    ·exact absurd z e1
    ·exact absurd z e2
  ·right
   have:=F.paid (List.mem_map.mpr ⟨p,hp,rfl⟩)
   rw [F.paid_eq (List.mem_map.mpr ⟨p,hp,rfl⟩),← jg2 wk h hp,jed wk p hp] at this
   omega
 ·by_cases q:z.x + z.y = 0
  ·exact .inl q
  ·right
   have hp:=F.pos z hz
   have hd:(z.a,z.b,z.x + z.y) ∈ duT ps ts r:=by
    rw [jpu]
    exact List.mem_filter.mpr ⟨List.mem_map.mpr ⟨z,hz,rfl⟩,decide_eq_true (by show z.x + z.y > 0; omega)⟩
   obtain ⟨t1,t2⟩:=jqh hd
   obtain ⟨n1,n2⟩:=jmh (jo0 wk) (jss z hz)
   dsimp only at t1 t2
   rcases hv z.a with ⟨e1,e⟩ | ⟨e1,e2,e⟩ | ⟨e1,e2,e⟩
   ·rcases hv z.b with ⟨f1,f⟩ | ⟨f1,f2,f⟩ | ⟨f1,f2,f⟩
    ·exact absurd (in_out _ _ n1 t1 e1) (dis _ f1)
    ·omega
    ·exact absurd (in_out _ _ n1 t1 e1) f2
   ·rcases hv z.b with ⟨f1,f⟩ | ⟨f1,f2,f⟩ | ⟨f1,f2,f⟩
    ·omega
    ·exact absurd (out_in _ _ n1 e2) f1
    ·exact absurd (out_in _ _ n1 e2) f1
   ·rcases hv z.b with ⟨f1,f⟩ | ⟨f1,f2,f⟩ | ⟨f1,f2,f⟩
    ·exact absurd (in_out _ _ n2 t2 f1) e2
    ·exact absurd (out_in _ _ n2 f2) e1
    ·omega
theorem jrr (wk:WebOk ps ts) (h:Rst ps ts r) (C:ChI ps ts (duT ps ts r) c c.length) {D:Int→Int} (b:Best ps ts D) (u:∀ y,Best ps ts y→∀ p ∈ ps,D p.1 ≠ 1→y p.1 = D p.1):∀ p ∈ ps,(p.1 ∈ insK c ↔ D p.1 = 2)∧(p.1 ∈ jcy c ↔ D p.1 = 0):=fun p hp=>by
 obtain ⟨i2,o0⟩:=jgo wk h C b
 have cb:=jni wk h C
 have key:=u _ cb p hp
 unfold hC at key
 refine ⟨⟨fun z=>i2 _ z,fun z=>?_⟩,⟨fun z=>o0 _ z,fun z=>?_⟩⟩
 ·have k:=key (by omega)
  by_cases c1:p.1 ∈ insK c
  ·exact c1
  ·rw [if_neg c1] at k
   split at k <;> omega
 ·have k:=key (by omega)
  by_cases c1:p.1 ∈ insK c
  ·rw [if_pos c1] at k
   omega
  ·rw [if_neg c1] at k
   by_cases c2:p.1 ∈ jcy c
   ·exact c2
   ·rw [if_neg c2] at k
    omega
end
end
end My
namespace My
open PySem L2
section
variable {P:Program} {w:World} {K:PySem.W.Frag} {mg:Str→Option Value} {base:Heap} {c1 c2 c3 c4 e1 e2 e3:Tok} {C_NoWeb f_NoWeb:Addr} {dI:FuncData}
theorem jpl {c:List Lk} {i:Nat} {x:Lk} (h:c[i]? = some x):insK (c.take (i + 1)) = insK (c.take i) ++ (if decide (x.1 = some wB) = true then [jbg x] else []):=by
 unfold insK
 rw [jbj h,List.filter_append,List.map_append]
 congr 1
 rw [List.filter_cons]
 split <;> simp
theorem jn2 {c:List Lk} {i:Nat} {x:Lk} (h:c[i]? = some x):jcy (c.take (i + 1)) = jcy (c.take i) ++ (if decide (x.1 = some wB) = true then [] else [jbg x]):=by
 unfold jcy
 rw [jbj h,List.filter_append,List.map_append]
 congr 1
 rw [List.filter_cons]
 by_cases q:x.1 = some wB
 ·rw [decide_eq_true q]; rfl
 ·rw [decide_eq_false q]; rfl
theorem jmm (c:List Lk) (i:Nat):(insK (c.take i)).length ≤ c.length:=by
 unfold insK
 rw [List.length_map]
 refine Nat.le_trans (List.length_filter_le _ _) ?_
 rw [List.length_take]
 exact Nat.min_le_right _ _
theorem jjp (c:List Lk) (i:Nat):(jcy (c.take i)).length ≤ c.length:=by
 unfold jcy
 rw [List.length_map]
 refine Nat.le_trans (List.length_filter_le _ _) ?_
 rw [List.length_take]
 exact Nat.min_le_right _ _
theorem jpm {c:List Lk} (h:(c.map jbg).Nodup):(insK c).Nodup:=(List.Sublist.map _ List.filter_sublist).nodup h
theorem jmd {c:List Lk} (h:(c.map jbg).Nodup):(jcy c).Nodup:=(List.Sublist.map _ List.filter_sublist).nodup h
theorem jmi (ns:List Int):(mkI ns).map (·.1) = ns.map Sum.inl:=by unfold mkI; rw [List.map_map]; rfl
def Rsg (ms ns:List Int):Prop:=ms.Perm ns∧ms.Pairwise (· ≤ ·)
def js5:Sp:=fun vs H Q _=>∃ c xs ls,vs = [.ref c]∧H c = some (.lst xs)∧Lks H xs ls∧(∀ x ∈ ls,jnn x)∧(ls.map jbg).Nodup∧ls.length ≤ 40∧∀ t a b ms ns H',Same H H'→H a = none→H b = none→a ≠ b→H' t = some (.tup [.ref a,.ref b])→H' a = some (.lst (ms.map V.int))→H' b = some (.lst (ns.map V.int))→Rsg ms (insK ls)→Rsg ns (jcy ls)→Q (.ref t) H'
def js3:Sp:=fun vs H Q _=>∃ v ps ts,vs = [v]∧jdu H v ps ts∧WebOk ps ts∧ps.length ≤ 30∧∀ t l1 l2 l3 zs us ws r c H',Same H H'→H' t = some (.tup [.ref l1,.ref l2,.ref l3])→H' l1 = some (.lst zs)→H' l2 = some (.lst us)→H' l3 = some (.lst ws)→H l1 = none→H l2 = none→H l3 = none→l1 ≠ l2→l1 ≠ l3→l2 ≠ l3→Rst ps ts r→Prs H' zs (halT ps ts r)→Tps H' us (duT ps ts r)→Lks H' ws c→ChI ps ts (duT ps ts r) c c.length→Q (.ref t) H'
def js4:Sp:=fun vs H Q _=>∃ v ps ts,vs = [v]∧jdu H v ps ts∧WebOk ps ts∧ps.length ≤ 30∧∀ t a b ms ns r c H',Same H H'→H a = none→H b = none→a ≠ b→H' t = some (.tup [.ref a,.ref b])→H' a = some (.lst (ms.map V.int))→H' b = some (.lst (ns.map V.int))→Rst ps ts r→ChI ps ts (duT ps ts r) c c.length→Rsg ms (insK c)→Rsg ns (jcy c)→Q (.ref t) H'
theorem ju5 (ps ts:List (Int × Int)) (r:List Int):(duT ps ts r).length ≤ ts.length:=by
 unfold duT duR
 refine Nat.le_trans (List.length_filter_le _ _) ?_
 rw [List.length_map,List.length_range]
 exact Nat.le_refl _
theorem jl1 {f:Addr} {fd:FuncData} {f_marked:Addr} {d_marked:FuncData} (B:Blt mg) (D:DefAt K mg "fixed_by" (top 35) ["chain"] f fd) (D_marked:DefAt K mg "marked" (top 11) ["places"] f_marked d_marked) (G_marked:FnOk P w K mg base CX0 1 f_marked d_marked ["places"] jhs):FnOk P w K mg base CX0 2 f fd ["chain"] js5:=by
 have sc:FnScope ["chain","ins","outs"] ["chain"] (jba (top 35)):=⟨rfl,rfl,rfl,by decide +kernel,rfl,by decide +kernel,by decide +kernel⟩
 refine D.F.ok sc (fun vs H Q E h=>?_) (fun cdv A outer s H vs Q E hr h=>?_)
 ·obtain ⟨c,xs,ls,rfl,_⟩:=h
  rfl
 obtain ⟨c,xs,ls,rfl,ec,pl,gd,nd,hl,h⟩:=h
 have hlx:=Paired.length pl
 have hu:=jc7 hr
 have hu0:_ < PySem.cLine:=Nat.lt_of_succ_lt hu
 refine ⟨_,(jah (jbf (i:=1) sc.nd rfl (Or.inl rfl) (jbe G_marked (hr.mono (by decide)) rfl D_marked.m D_marked.F.kp D_marked.b .nil jbs (ja0 (jc6 (CpScope.of (N:=["link"]) (src:=[none]) (by rfl)) rfl (jbr (qv 0)) (fun _ _ _ _=>(jbb (i:=0) (jbc (l:=["link"]) (by rfl)) rfl (Or.inl rfl))) (fun _ _ _ _=>(jez (jd7 q_eq (jbl q_ix (qv 0) jaj (fun _ _=>rfl)) jh9 (jcc _)))) (fun _ _ _ _=>(jbl q_ix (qv 0) (jgv jgu jaj) (fun _ _=>rfl)))) jai))) (jah (jbf (i:=2) sc.nd rfl (Or.inl rfl) (jbe G_marked (hr.mono (by decide)) rfl D_marked.m D_marked.F.kp D_marked.b .nil jbs (ja0 (jc6 (CpScope.of (N:=["link"]) (src:=[none]) (by rfl)) rfl (jbr (qv 0)) (fun _ _ _ _=>(jbb (i:=0) (jbc (l:=["link"]) (by rfl)) rfl (Or.inl rfl))) (fun _ _ _ _=>(jez (jd7 q_ne (jbl q_ix (qv 0) jaj (fun _ _=>rfl)) jh9 (jcc _)))) (fun _ _ _ _=>(jbl q_ix (qv 0) (jgv jgu jaj) (fun _ _=>rfl)))) jai))) (jb9 (jbq (jc4 (ja0 (jbk (jf7 rfl) rfl B.sorted PyProof.Rows.boot_sorted (ja0 (qv 1) jai)) (ja0 (jbk (jf7 rfl) rfl B.sorted PyProof.Rows.boot_sorted (ja0 (qv 2) jai)) jai))))))),?_⟩
 walk_at "ND"
 refine jbp (Itl K c) H (fun R hR=>?_) (fun l1 hl1=>jbu ls.length (fun i σ' Hc=>∃ w1,σ' = [w1]∧Same H Hc∧Hc l1 = some (.lst ((insK (ls.take i)).map V.int))) ⟨none,rfl,jag hl1 _,ja1⟩ ?_ ?_)
 ·unfold jcs
  walk_at "ND"
  exact ⟨c,rfl,⟨_,SqL.of ec⟩,hR⟩
 ·rintro k σ' Hc hk ⟨w1,rfl,s4,ez⟩
  have x1:ls[k]? = some ls[k]:=List.getElem?_eq_getElem hk
  obtain ⟨rv,hrv,prv⟩:=jck pl x1
  obtain ⟨ra,rfl,era⟩:=prv.tups s4.tups
  have z1:SqL K Hc c xs:=SqL.of (s4 _ _ ec)
  refine ⟨⟨_,_,z1,hrv⟩,?_⟩
  rintro y H' ⟨rfl,hy⟩
  have:=hy _ z1
  rw [hrv] at this
  cases this
  obtain ⟨w0,ew,a0,al⟩:=(gd _ (List.getElem_mem hk)).v
  have ed:decide (w0 = Str.ofString "beside") = decide (ls[k].1 = some wB):=by
   rw [ew]
   by_cases q:w0 = wB
   ·rw [decide_eq_true (show w0 = Str.ofString "beside" from q),decide_eq_true (by rw [q])]
   ·rw [decide_eq_false (show ¬ w0 = Str.ofString "beside" from q),decide_eq_false (fun z=>q (Option.some.inj z))]
  simp_all_arith [jbo,era,a0,al]
  rw [ed,jpl x1]
  cases cq:decide (ls[k].1 = some wB) with
  | true =>
   walk_at "ND"
   refine ⟨_,ez,?_,_,rfl,jbh s4 hl1,?_⟩
   ·rw [List.length_map]
    have:=jmm ls k
    exact szl' (by omega)
   ·rw [ja1,List.map_append]
    rfl
  | false =>
   walk_at "ND"
   exact ⟨_,rfl,s4,ez⟩
 rintro σ' H1 ⟨w1,rfl,s1,e1⟩
 refine ⟨⟨_,SqL.of (s1 _ _ ec),by omega⟩,?_⟩
 rw [List.take_length] at e1
 have n1:=jmm ls ls.length
 rw [List.take_length] at n1
 walk_at "ND"
 refine ⟨l1,insK ls,rfl,e1,jpm nd,by omega,fun d1 H2 hd1 s2 ed1=>?_⟩
 walk_at "ND"
 have ec2:=(s1.trans s2) _ _ ec
 have pl2:=Lks.tups pl (s1.trans s2).tups
 refine jbp (Itl K c) H2 (fun R hR=>?_) (fun l3 hl3=>jbu ls.length (fun i σ' Hc=>∃ w1,σ' = [w1]∧Same H2 Hc∧Hc l3 = some (.lst ((jcy (ls.take i)).map V.int))) ⟨none,rfl,jag hl3 _,ja1⟩ ?_ ?_)
 ·unfold jcs
  walk_at "ND"
  exact ⟨c,rfl,⟨_,SqL.of ec2⟩,hR⟩
 ·rintro k σ' Hc hk ⟨w1,rfl,s4,ez⟩
  have x1:ls[k]? = some ls[k]:=List.getElem?_eq_getElem hk
  obtain ⟨rv,hrv,prv⟩:=jck pl2 x1
  obtain ⟨ra,rfl,era⟩:=prv.tups s4.tups
  have z1:SqL K Hc c xs:=SqL.of (s4 _ _ ec2)
  refine ⟨⟨_,_,z1,hrv⟩,?_⟩
  rintro y H' ⟨rfl,hy⟩
  have:=hy _ z1
  rw [hrv] at this
  cases this
  obtain ⟨w0,ew,a0,al⟩:=(gd _ (List.getElem_mem hk)).v
  have ed:decide (w0 = Str.ofString "beside") = decide (ls[k].1 = some wB):=by
   rw [ew]
   by_cases q:w0 = wB
   ·rw [decide_eq_true (show w0 = Str.ofString "beside" from q),decide_eq_true (by rw [q])]
   ·rw [decide_eq_false (show ¬ w0 = Str.ofString "beside" from q),decide_eq_false (fun z=>q (Option.some.inj z))]
  simp_all_arith [jbo,era,a0,al]
  rw [ed,jn2 x1]
  cases cq:decide (ls[k].1 = some wB) with
  | true =>
   walk_at "ND"
   exact ⟨_,rfl,s4,ez⟩
  | false =>
   walk_at "ND"
   refine ⟨_,ez,?_,_,rfl,jbh s4 hl3,?_⟩
   ·rw [List.length_map]
    have:=jjp ls k
    exact szl' (by omega)
   ·rw [ja1,List.map_append]
    rfl
 rintro σ' H3 ⟨w1,rfl,s3,e3⟩
 refine ⟨⟨_,SqL.of (s3 _ _ ec2),by omega⟩,?_⟩
 rw [List.take_length] at e3
 have n3:=jjp ls ls.length
 rw [List.take_length] at n3
 walk_at "ND"
 refine ⟨l3,jcy ls,rfl,e3,jmd nd,by omega,fun d3 H4 hd3 s4 ed3=>?_⟩
 walk_at "ND"
 refine ⟨d1,mkI (insK ls),insK ls,rfl,(s3.trans s4) _ _ ed1,jmi _,by omega,fun a ms ha p1 q1=>?_⟩
 have s5:=jag ha (.lst (ms.map V.int))
 have ea5:upd H4 a (.lst (ms.map V.int)) a = some (.lst (ms.map V.int)):=ja1
 have ed5:=s5 _ _ ed3
 generalize upd H4 a (.lst (ms.map V.int)) = H5 at s5 ea5 ed5
 refine ⟨d3,mkI (jcy ls),jcy ls,rfl,ed5,jmi _,by omega,fun b ns hb p2 q2=>?_⟩
 have s6:=jag hb (.lst (ns.map V.int))
 have eb6:upd H5 b (.lst (ns.map V.int)) b = some (.lst (ns.map V.int)):=ja1
 have hab:a ≠ b:=ja5 ea5 hb
 generalize upd H5 b (.lst (ns.map V.int)) = H6 at s6 eb6
 walk_at "ND"
 intro t ht
 have s7:=jag ht (.tup [.ref a,.ref b])
 have s04:=(s1.trans s2).trans (s3.trans s4)
 exact h t a b ms ns _ (s04.trans (s5.trans (s6.trans s7))) (s04.free ha) ((s04.trans s5).free hb) hab ja1 (s7 _ _ (s6 _ _ ea5)) (s7 _ _ eb6) ⟨p1,q1⟩ ⟨p2,q2⟩
theorem jgy {f:Addr} {fd:FuncData} {f_look_at_web:Addr} {d_look_at_web:FuncData} {f_told_paper:Addr} {d_told_paper:FuncData} {f_chain_for:Addr} {d_chain_for:FuncData} (B:Blt mg) (D:DefAt K mg "fixed_paper" (top 38) ["web"] f fd) (D_look_at_web:DefAt K mg "look_at_web" (top 24) ["thing"] f_look_at_web d_look_at_web) (G_look_at_web:FnOk P w K mg base CX0 5 f_look_at_web d_look_at_web ["thing"] jjh) (D_told_paper:DefAt K mg "told_paper" (top 31) ["web"] f_told_paper d_told_paper) (G_told_paper:FnOk P w K mg base CX0 6 f_told_paper d_told_paper ["web"] jry) (D_chain_for:DefAt K mg "chain_for" (top 37) ["web","dues"] f_chain_for d_chain_for) (G_chain_for:FnOk P w K mg base CX0 3 f_chain_for d_chain_for ["web","dues"] jm0):FnOk P w K mg base CX0 7 f fd ["web"] js3:=by
 have sc:FnScope ["web","paper"] ["web"] (jba (top 38)):=⟨rfl,rfl,rfl,by decide +kernel,rfl,by decide +kernel,by decide +kernel⟩
 refine D.F.ok sc (fun vs H Q E h=>?_) (fun cdv A outer s H vs Q E hr h=>?_)
 ·obtain ⟨v,ps,ts,rfl,_⟩:=h
  rfl
 obtain ⟨v,ps,ts,rfl,hw,wk,h30,h⟩:=h
 have hu:=jc7 hr
 have hu0:_ < PySem.cLine:=Nat.lt_of_succ_lt hu
 refine ⟨_,(jah (jc1 (jbe G_look_at_web (hr.mono (by decide)) rfl D_look_at_web.m D_look_at_web.F.kp D_look_at_web.b .nil jbs (ja0 (qv 0) jai))) (jah (jbf (i:=1) sc.nd rfl (Or.inl rfl) (jbe G_told_paper (hr.mono (by decide)) rfl D_told_paper.m D_told_paper.F.kp D_told_paper.b .nil jbs (ja0 (qv 0) jai))) (jb9 (jbq (jc4 (ja0 (jbl q_ix (qv 1) jaj (fun _ _=>rfl)) (ja0 (jbl q_ix (qv 1) jaj (fun _ _=>rfl)) (ja0 (jbe G_chain_for (hr.mono (by decide)) rfl D_chain_for.m D_chain_for.F.kp D_chain_for.b .nil jbs (ja0 (qv 0) (ja0 (jbl q_ix (qv 1) jaj (fun _ _=>rfl)) jai))) jai)))))))),?_⟩
 walk_at "ND"
 refine ⟨v,ps,ts,rfl,hw,wk,fun H1 s1=>?_⟩
 walk_at "ND"
 refine ⟨v,ps,ts,rfl,hw.same s1,wk,h30,fun t l1 l2 zs us r H2 s2 et e1 e2 n0 n1 n2 nn rst pz pu=>?_⟩
 simp_all_arith [jbo,et,at0,at1]
 have hdl:=ju5 ps ts r
 have htl:=wk.tl
 have s02:=s1.trans s2
 refine ⟨v,ps,ts,l2,us,duT ps ts r,rfl,hw.same s02,wk,e2,pu,by omega,fun rc ws c H3 s3 hrc erc plk C=>?_⟩
 walk_at "ND"
 intro t4 ht4
 have s4:=jag ht4 (.tup [.ref l1,.ref l2,.ref rc])
 have s24:=s3.trans s4
 exact h t4 l1 l2 rc zs us ws r c _ (s02.trans s24) ja1 (s24 _ _ e1) (s24 _ _ e2) (s4 _ _ erc) (s1.free n1) (s1.free n2) (s02.free hrc) nn (ja5 e1 hrc) (ja5 e2 hrc) rst (Prs.same s24 pz) (jbv s24.tups pu) (Lks.tups plk s4.tups) C
theorem jl0 {f:Addr} {fd:FuncData} {f_fixed_paper:Addr} {d_fixed_paper:FuncData} {f_fixed_by:Addr} {d_fixed_by:FuncData} (B:Blt mg) (D:DefAt K mg "fixed_of" (top 39) ["web"] f fd) (D_fixed_paper:DefAt K mg "fixed_paper" (top 38) ["web"] f_fixed_paper d_fixed_paper) (G_fixed_paper:FnOk P w K mg base CX0 7 f_fixed_paper d_fixed_paper ["web"] js3) (D_fixed_by:DefAt K mg "fixed_by" (top 35) ["chain"] f_fixed_by d_fixed_by) (G_fixed_by:FnOk P w K mg base CX0 2 f_fixed_by d_fixed_by ["chain"] js5):FnOk P w K mg base CX0 8 f fd ["web"] js4:=by
 have sc:FnScope ["web"] ["web"] (jba (top 39)):=⟨rfl,rfl,rfl,by decide +kernel,rfl,by decide +kernel,by decide +kernel⟩
 refine D.F.ok sc (fun vs H Q E h=>?_) (fun cdv A outer s H vs Q E hr h=>?_)
 ·obtain ⟨v,ps,ts,rfl,_⟩:=h
  rfl
 obtain ⟨v,ps,ts,rfl,hw,wk,h30,h⟩:=h
 have hu:=jc7 hr
 have hu0:_ < PySem.cLine:=Nat.lt_of_succ_lt hu
 refine ⟨_,(jb9 (jbq (jbe G_fixed_by (hr.mono (by decide)) rfl D_fixed_by.m D_fixed_by.F.kp D_fixed_by.b .nil jbs (ja0 (jbl q_ix (jbe G_fixed_paper (hr.mono (by decide)) rfl D_fixed_paper.m D_fixed_paper.F.kp D_fixed_paper.b .nil jbs (ja0 (qv 0) jai)) jaj (fun _ _=>rfl)) jai)))),?_⟩
 walk_at "ND"
 refine ⟨v,ps,ts,rfl,hw,wk,h30,fun t l1 l2 l3 zs us ws r c H1 s1 et e1 e2 e3 _ _ _ _ _ _ rst pz pu plk C=>?_⟩
 simp_all_arith [jbo,et,at2]
 have:=C.len
 have:=wk.pl
 exact ⟨l3,ws,c,rfl,e3,plk,C.good,C.nd,by omega,fun t a b ms ns H2 s2 ha hb hab et2 ea eb r1 r2=>h t a b ms ns r c H2 (s1.trans s2) (s1.free ha) (s1.free hb) hab et2 ea eb rst C r1 r2⟩
end
end My
namespace My
open PySem L2
section
variable {P:Program} {w:World} {K:PySem.W.Frag} {mg:Str→Option Value} {base:Heap} {c1 c2 c3 c4:Tok} {C_NoWeb f_NoWeb:Addr} {dI:FuncData}
def cen (s:List Int):Int:=s.headD 0
def oth (pr:Int→Int) (s:List Int):Int:=(s.tail.map pr).sum
def tieS (s:List Int):List (Int × Int):=s.tail.map fun l=>(min (cen s) l,max (cen s) l)
def inS1 (pr:Int→Int) (s:List Int):List Int:=if pr (cen s) < oth pr s then [cen s] else if oth pr s < pr (cen s) then s.tail else []
def jd0 (pr:Int→Int) (s:List Int):List Int:=if pr (cen s) < oth pr s then s.tail else if oth pr s < pr (cen s) then [cen s] else []
def lowS (pr:Int→Int) (s:List Int):Int:=if pr (cen s) < oth pr s then 2 * pr (cen s) else 2 * oth pr s
def jf4 (pr y:Int→Int) (s:List Int):Int:=(s.map fun n=>pr n * y n).sum
theorem jc3 {s:List Int} (h:s ≠ []):s = cen s :: s.tail:=by
 cases s with
 | nil=>exact absurd rfl h
 | cons a l=>rfl
theorem jho (pr:Int→Int) (k:Int):∀ l:List Int,(l.map fun n=>pr n * k).sum = (l.map pr).sum * k
 | []=>by simp
 | a :: l=>by rw [List.map_cons,List.sum_cons,List.map_cons,List.sum_cons,jho pr k l,Int.add_mul]
structure CovS (y:Int→Int) (s:List Int):Prop where
 b:∀ n ∈ s,0 ≤ y n∧y n ≤ 2
 t:∀ l ∈ s.tail,2 ≤ y (cen s) + y l
section
variable {pr y:Int→Int} {s:List Int}
theorem jqk (hne:s ≠ []) (hp:∀ n ∈ s,1 ≤ pr n) (c:CovS y s):lowS pr s ≤ jf4 pr y s∧(jf4 pr y s ≤ lowS pr s→(∀ n ∈ inS1 pr s,y n = 2)∧∀ n ∈ jd0 pr s,y n = 0):=by
 have hs:=jc3 hne
 have hc:cen s ∈ s:=by rw [hs]; exact List.mem_cons_self ..
 have hl:∀ l ∈ s.tail,l ∈ s:=fun l h=>List.mem_of_mem_tail h
 have e:jf4 pr y s = pr (cen s) * y (cen s) + (s.tail.map fun n=>pr n * y n).sum:=by
  unfold jf4
  conv=>lhs; rw [hs]
  rw [List.map_cons,List.sum_cons]
 have b:=c.b _ hc
 have p1:=hp _ hc
 have low:oth pr s * (2 - y (cen s)) ≤ (s.tail.map fun n=>pr n * y n).sum:=by
  unfold oth
  rw [← jho]
  refine Fl.sum_le fun n hn=>Int.mul_le_mul_of_nonneg_left ?_ ?_
  ·have:=c.t n hn
   omega
  ·have:=hp n (hl n hn)
   omega
 have o0:0 ≤ oth pr s:=by
  have:=Fl.sum_nn (f:=pr) (l:=s.tail) fun n hn=>by have:=hp n (hl n hn); omega
  exact this
 have nn:∀ n ∈ s.tail,0 ≤ pr n * y n:=fun n hn=>Int.mul_nonneg (by have:=hp n (hl n hn); omega) (c.b n (hl n hn)).1
 have le:=Fl.le_sum nn
 rw [e]
 unfold lowS inS1 jd0
 obtain h0 | h1 | h2:y (cen s) = 0 ∨ y (cen s) = 1 ∨ y (cen s) = 2:=by omega
 ·rw [h0] at low ⊢
  have lv:∀ n ∈ s.tail,y n = 2:=fun n hn=>by
   have:=c.t n hn
   have:=c.b n (hl n hn)
   omega
  by_cases q:pr (cen s) < oth pr s
  ·rw [if_pos q,if_pos q,if_pos q]
   exact ⟨by omega,fun z=>by omega⟩
  ·rw [if_neg q,if_neg q,if_neg q]
   refine ⟨by omega,fun _=>?_⟩
   by_cases q2:oth pr s < pr (cen s)
   ·rw [if_pos q2,if_pos q2]
    exact ⟨lv,fun n hn=>by rw [List.mem_singleton.mp hn]; exact h0⟩
   ·rw [if_neg q2,if_neg q2]
    exact ⟨fun n hn=>(by cases hn),fun n hn=>(by cases hn)⟩
 ·rw [h1] at low ⊢
  by_cases q:pr (cen s) < oth pr s
  ·rw [if_pos q,if_pos q,if_pos q]
   exact ⟨by omega,fun z=>by omega⟩
  ·rw [if_neg q,if_neg q,if_neg q]
   refine ⟨by omega,fun z=>?_⟩
   by_cases q2:oth pr s < pr (cen s)
   ·omega
   ·rw [if_neg q2,if_neg q2]
    exact ⟨fun n hn=>(by cases hn),fun n hn=>(by cases hn)⟩
 ·rw [h2] at low ⊢
  have s0:=Fl.sum_nn nn
  by_cases q:pr (cen s) < oth pr s
  ·rw [if_pos q,if_pos q,if_pos q]
   refine ⟨by omega,fun z=>⟨fun n hn=>by rw [List.mem_singleton.mp hn]; exact h2,fun n hn=>?_⟩⟩
   have:=le n hn
   exact Fl.zero_of (b:=pr n) (by rw [Int.mul_comm]; omega) (c.b n (hl n hn)).1 (by have:=hp n (hl n hn); omega)
  ·rw [if_neg q,if_neg q,if_neg q]
   refine ⟨by omega,fun z=>?_⟩
   by_cases q2:oth pr s < pr (cen s)
   ·omega
   ·rw [if_neg q2,if_neg q2]
    exact ⟨fun n hn=>(by cases hn),fun n hn=>(by cases hn)⟩
end
def insS (pr:Int→Int) (sts:List (List Int)):List Int:=sts.flatMap (inS1 pr)
def jc5 (pr:Int→Int) (sts:List (List Int)):List Int:=sts.flatMap (jd0 pr)
def je2 (sts:List (List Int)):List (Int × Int):=sts.flatMap tieS
def dS (I O:List Int) (n:Int):Int:=if n ∈ I then 2 else if n ∈ O then 0 else 1
theorem jfn {pr:Int→Int} {s:List Int} (hne:s ≠ []) {n:Int} (h:n ∈ inS1 pr s):n ∈ s:=by
 have hc:cen s ∈ s:=by rw [jc3 hne]; exact List.mem_cons_self ..
 unfold inS1 at h
 split at h
 ·rw [List.mem_singleton.mp h]; exact hc
 ·split at h
  ·exact List.mem_of_mem_tail h
  ·cases h
theorem jdn {pr:Int→Int} {s:List Int} (hne:s ≠ []) {n:Int} (h:n ∈ jd0 pr s):n ∈ s:=by
 have hc:cen s ∈ s:=by rw [jc3 hne]; exact List.mem_cons_self ..
 unfold jd0 at h
 split at h
 ·exact List.mem_of_mem_tail h
 ·split at h
  ·rw [List.mem_singleton.mp h]; exact hc
  ·cases h
structure Sts (sts:List (List Int)):Prop where
 ne:∀ s ∈ sts,s ≠ []
 nd:sts.flatten.Nodup
theorem jis:∀ {sts:List (List Int)},sts.flatten.Nodup→∀ {s1 s2:List Int} {n:Int},s1 ∈ sts→s2 ∈ sts→n ∈ s1→n ∈ s2→s1 = s2
 | [],_,_,_,_,h,_,_,_=>by cases h
 | s :: r,nd,s1,s2,n,h1,h2,n1,n2=>by
  rw [List.flatten_cons] at nd
  obtain ⟨nd1,nd2,nd3⟩:=List.nodup_append.mp nd
  rcases List.mem_cons.mp h1 with e1 | h1 <;> rcases List.mem_cons.mp h2 with e2 | h2
  ·rw [e1,e2]
  ·rw [e1] at n1
   exact absurd rfl (nd3 n n1 n (List.mem_flatten.mpr ⟨s2,h2,n2⟩))
  ·rw [e2] at n2
   exact absurd rfl (nd3 n n2 n (List.mem_flatten.mpr ⟨s1,h1,n1⟩))
  ·exact jis nd2 h1 h2 n1 n2
theorem jgl {sts:List (List Int)} (h:sts.flatten.Nodup) {s:List Int} (hs:s ∈ sts):s.Nodup:=by
 induction sts with
 | nil=>cases hs
 | cons a r ih =>
  rw [List.flatten_cons] at h
  obtain ⟨h1,h2,_⟩:=List.nodup_append.mp h
  rcases List.mem_cons.mp hs with rfl | hs
  ·exact h1
  ·exact ih h2 hs
section
variable {sts:List (List Int)} {pr y:Int→Int}
theorem jlx (f:Int→Int):∀ sts:List (List Int),(sts.flatten.map f).sum = (sts.map fun s=>(s.map f).sum).sum
 | []=>rfl
 | s :: r=>by rw [List.flatten_cons,List.map_append,List.sum_append,jlx f r,List.map_cons,List.sum_cons]
theorem jlg (S:Sts sts) {s:List Int} (hs:s ∈ sts) {n:Int} (hn:n ∈ s):(n ∈ insS pr sts ↔ n ∈ inS1 pr s)∧(n ∈ jc5 pr sts ↔ n ∈ jd0 pr s):=by
 refine ⟨⟨fun h=>?_,fun h=>List.mem_flatMap.mpr ⟨s,hs,h⟩⟩,⟨fun h=>?_,fun h=>List.mem_flatMap.mpr ⟨s,hs,h⟩⟩⟩
 ·obtain ⟨s',hs',h'⟩:=List.mem_flatMap.mp h
  rw [jis S.nd hs hs' hn (jfn (S.ne _ hs') h')]
  exact h'
 ·obtain ⟨s',hs',h'⟩:=List.mem_flatMap.mp h
  rw [jis S.nd hs hs' hn (jdn (S.ne _ hs') h')]
  exact h'
theorem jdy {s:List Int} (hne:s ≠ []) (nd:s.Nodup):cen s ∈ s∧cen s ∉ s.tail:=by
 rw [jc3 hne] at nd
 exact ⟨by rw [jc3 hne]; exact List.mem_cons_self ..,(List.nodup_cons.mp nd).1⟩
theorem jq1 (S:Sts sts) {s:List Int} (hs:s ∈ sts):(pr (cen s) < oth pr s→dS (insS pr sts) (jc5 pr sts) (cen s) = 2∧∀ l ∈ s.tail,dS (insS pr sts) (jc5 pr sts) l = 0)∧(oth pr s < pr (cen s)→dS (insS pr sts) (jc5 pr sts) (cen s) = 0∧∀ l ∈ s.tail,dS (insS pr sts) (jc5 pr sts) l = 2)∧(pr (cen s) = oth pr s→∀ l ∈ s,dS (insS pr sts) (jc5 pr sts) l = 1):=by
 obtain ⟨c1,c2⟩:=jdy (S.ne s hs) (jgl S.nd hs)
 have dv:∀ n ∈ s,dS (insS pr sts) (jc5 pr sts) n = if n ∈ inS1 pr s then 2 else if n ∈ jd0 pr s then 0 else 1:=fun n hn=>by
  obtain ⟨h1,h2⟩:=jlg (pr:=pr) S hs hn
  unfold dS
  by_cases q:n ∈ inS1 pr s
  ·rw [if_pos q,if_pos (h1.mpr q)]
  ·rw [if_neg q,if_neg fun z=>q (h1.mp z)]
   by_cases q2:n ∈ jd0 pr s
   ·rw [if_pos q2,if_pos (h2.mpr q2)]
   ·rw [if_neg q2,if_neg fun z=>q2 (h2.mp z)]
 have tl:∀ l ∈ s.tail,l ∈ s:=fun l h=>List.mem_of_mem_tail h
 refine ⟨fun h=>⟨?_,fun l hl=>?_⟩,fun h=>⟨?_,fun l hl=>?_⟩,fun h l hl=>?_⟩
 ·rw [dv _ c1]
  unfold inS1
  rw [if_pos h,if_pos (List.mem_singleton.mpr rfl)]
 ·rw [dv _ (tl l hl)]
  unfold inS1 jd0
  rw [if_pos h,if_pos h,if_neg (fun z=>c2 (by rw [← List.mem_singleton.mp z]; exact hl)),if_pos hl]
 ·rw [dv _ c1]
  unfold inS1 jd0
  rw [if_neg (show ¬ pr (cen s) < oth pr s by omega),if_pos h,if_neg (show ¬ pr (cen s) < oth pr s by omega),if_pos h,if_neg c2,if_pos (List.mem_singleton.mpr rfl)]
 ·rw [dv _ (tl l hl)]
  unfold inS1
  rw [if_neg (show ¬ pr (cen s) < oth pr s by omega),if_pos h,if_pos hl]
 ·rw [dv _ hl]
  unfold inS1 jd0
  have a1:¬ pr (cen s) < oth pr s:=by omega
  have a2:¬ oth pr s < pr (cen s):=by omega
  rw [if_neg a1,if_neg a2,if_neg a1,if_neg a2,if_neg (by simp),if_neg (by simp)]
theorem dS_cov (S:Sts sts) {s:List Int} (hs:s ∈ sts):CovS (dS (insS pr sts) (jc5 pr sts)) s:=by
 obtain ⟨v1,v2,v3⟩:=jq1 (pr:=pr) S hs
 obtain ⟨c1,c2⟩:=jdy (S.ne s hs) (jgl S.nd hs)
 refine ⟨fun n _=>by unfold dS; split <;> (try split) <;> omega,fun l hl=>?_⟩
 by_cases q:pr (cen s) < oth pr s
 ·have:=v1 q
  have:=this.2 l hl
  omega
 ·by_cases q2:oth pr s < pr (cen s)
  ·have:=v2 q2
   have:=this.2 l hl
   omega
  ·have a:=v3 (by omega) _ c1
   have b:=v3 (by omega) l (List.mem_of_mem_tail hl)
   omega
theorem ju8 (S:Sts sts) {s:List Int} (hs:s ∈ sts):jf4 pr (dS (insS pr sts) (jc5 pr sts)) s = lowS pr s:=by
 obtain ⟨v1,v2,v3⟩:=jq1 (pr:=pr) S hs
 have e:jf4 pr (dS (insS pr sts) (jc5 pr sts)) s = pr (cen s) * dS (insS pr sts) (jc5 pr sts) (cen s) + (s.tail.map fun n=>pr n * dS (insS pr sts) (jc5 pr sts) n).sum:=by
  unfold jf4
  conv=>lhs; rw [jc3 (S.ne s hs)]
  rw [List.map_cons,List.sum_cons]
 obtain ⟨c1,c2⟩:=jdy (S.ne s hs) (jgl S.nd hs)
 rw [e]
 unfold lowS
 have all:∀ k:Int,(∀ l ∈ s.tail,dS (insS pr sts) (jc5 pr sts) l = k)→(s.tail.map fun n=>pr n * dS (insS pr sts) (jc5 pr sts) n).sum = oth pr s * k:=fun k h=>by
  unfold oth
  rw [← jho]
  exact Fl.sum_congr fun n hn=>by rw [h n hn]
 by_cases q:pr (cen s) < oth pr s
 ·rw [if_pos q,(v1 q).1,all 0 (v1 q).2]
  omega
 ·rw [if_neg q]
  by_cases q2:oth pr s < pr (cen s)
  ·rw [(v2 q2).1,all 2 (v2 q2).2]
   omega
  ·rw [v3 (by omega) _ c1,all 1 fun l hl=>v3 (by omega) l (List.mem_of_mem_tail hl)]
   omega
end
theorem jma {a b:List Int} (h:a.Perm b):a.sum = b.sum:=by
 induction h with
 | nil=>rfl
 | cons x _ ih=>rw [List.sum_cons,List.sum_cons,ih]
 | swap x y l=>rw [List.sum_cons,List.sum_cons,List.sum_cons,List.sum_cons]; omega
 | trans _ _ i1 i2=>exact i1.trans i2
theorem jl7 {a b:Int}:(min a b = a∧max a b = b) ∨ (min a b = b∧max a b = a):=by omega
section
variable {ps ts:List (Int × Int)} {sts:List (List Int)} {pr:Int→Int}
structure StW (ps ts:List (Int × Int)) (sts:List (List Int)) (pr:Int→Int):Prop where
 S:Sts sts
 pos:∀ n ∈ sts.flatten,1 ≤ pr n
 p:ps.Perm (sts.flatten.map fun n=>(n,pr n))
 t:∀ t,t ∈ ts ↔ t ∈ je2 sts
theorem StW.cost (W:StW ps ts sts pr) (y:Int→Int):jiv ps y = (sts.map fun s=>jf4 pr y s).sum:=by
 unfold jiv
 rw [jma (W.p.map _),List.map_map]
 exact jlx (fun n=>pr n * y n) sts
theorem StW.cov (W:StW ps ts sts pr) {y:Int→Int}:Cov ps ts y ↔ ∀ s ∈ sts,CovS y s:=by
 constructor
 ·intro c s hs
  refine ⟨fun n hn=>?_,fun l hl=>?_⟩
  ·exact c.b (n,pr n) (W.p.mem_iff.mpr (List.mem_map.mpr ⟨n,List.mem_flatten.mpr ⟨s,hs,hn⟩,rfl⟩))
  ·have:=c.t (min (cen s) l,max (cen s) l) ((W.t _).mpr (List.mem_flatMap.mpr ⟨s,hs,List.mem_map.mpr ⟨l,hl,rfl⟩⟩))
   dsimp only at this
   rcases jl7 (a:=cen s) (b:=l) with ⟨e1,e2⟩ | ⟨e1,e2⟩ <;> rw [e1,e2] at this <;> omega
 ·intro h
  refine ⟨fun p hp=>?_,fun t ht=>?_⟩
  ·obtain ⟨n,hn,rfl⟩:=List.mem_map.mp (W.p.mem_iff.mp hp)
   obtain ⟨s,hs,hn⟩:=List.mem_flatten.mp hn
   exact (h s hs).b n hn
  ·obtain ⟨s,hs,h2⟩:=List.mem_flatMap.mp ((W.t t).mp ht)
   obtain ⟨l,hl,rfl⟩:=List.mem_map.mp h2
   have:=(h s hs).t l hl
   dsimp only
   rcases jl7 (a:=cen s) (b:=l) with ⟨e1,e2⟩ | ⟨e1,e2⟩ <;> rw [e1,e2] <;> omega
theorem StW.low (W:StW ps ts sts pr) {y:Int→Int} (c:Cov ps ts y):∀ s ∈ sts,lowS pr s ≤ jf4 pr y s∧(jf4 pr y s ≤ lowS pr s→(∀ n ∈ inS1 pr s,y n = 2)∧∀ n ∈ jd0 pr s,y n = 0):=fun s hs=>jqk (W.S.ne s hs) (fun n hn=>W.pos n (List.mem_flatten.mpr ⟨s,hs,hn⟩)) (W.cov.mp c s hs)
theorem StW.best (W:StW ps ts sts pr):Best ps ts (dS (insS pr sts) (jc5 pr sts))∧∀ y,Best ps ts y→∀ p ∈ ps,dS (insS pr sts) (jc5 pr sts) p.1 ≠ 1→y p.1 = dS (insS pr sts) (jc5 pr sts) p.1:=by
 have cv:Cov ps ts (dS (insS pr sts) (jc5 pr sts)):=W.cov.mpr fun s hs=>dS_cov W.S hs
 have ec:jiv ps (dS (insS pr sts) (jc5 pr sts)) = (sts.map fun s=>lowS pr s).sum:=by
  rw [W.cost]
  exact Fl.sum_congr fun s hs=>ju8 W.S hs
 refine ⟨⟨cv,fun y' c'=>?_⟩,fun y b p hp h1=>?_⟩
 ·rw [ec,W.cost]
  exact Fl.sum_le fun s hs=>(W.low c' s hs).1
 ·obtain ⟨n,hn,rfl⟩:=List.mem_map.mp (W.p.mem_iff.mp hp)
  obtain ⟨s,hs,hn⟩:=List.mem_flatten.mp hn
  have hle:=b.m _ cv
  rw [ec,W.cost] at hle
  have g0:∀ s ∈ sts,0 ≤ jf4 pr y s - lowS pr s:=fun s hs=>by have:=(W.low b.c s hs).1; omega
  have gs:=Fl.le_sum g0 s hs
  have ge:(sts.map fun s=>jf4 pr y s - lowS pr s).sum + (sts.map fun s=>lowS pr s).sum = (sts.map fun s=>jf4 pr y s).sum:=by
   rw [← Fl.sum_add]
   exact Fl.sum_congr fun s _=>by omega
  obtain ⟨i2,o0⟩:=(W.low b.c s hs).2 (by omega)
  obtain ⟨m1,m2⟩:=jlg (pr:=pr) W.S hs hn
  dsimp only at h1 ⊢
  unfold dS at h1 ⊢
  by_cases q:n ∈ insS pr sts
  ·rw [if_pos q]
   exact i2 n (m1.mp q)
  ·rw [if_neg q] at h1 ⊢
   by_cases q2:n ∈ jc5 pr sts
   ·rw [if_pos q2]
    exact o0 n (m2.mp q2)
   ·rw [if_neg q2] at h1
    exact absurd rfl h1
end
end
end My
namespace L2
open PySem PySem.Spec PyProof.Rows
section
variable {X:Cx}
end
end L2
namespace L2
open PySem PySem.Spec PyProof.Rows
section
variable {X:Cx}
theorem jm3:MtR X "list.extend" jom:=fun pins s σ H x xs v us Q I rx rv q=>jp3 pins s σ H x xs v us Q I rx rv q
end
end L2
namespace My
open PySem L2
section
variable {P:Program} {w:World} {K:PySem.W.Frag} {mg:Str→Option Value} {base:Heap} {c1 c2 c3 c4:Tok} {C_NoWeb f_NoWeb:Addr} {dI:FuncData}
theorem joh {a b:TS} {D:Ends} {σ:St} {H:Hp} (h:∀ R E,R = b→E = D→tSeq a R E σ H):tSeq a b D σ H:=h b D rfl rfl
theorem jtk {H:Hp} {a st:Addr} {ns:List Int} {o:HO} (ha:H a = some (.lst (ns.map V.int))) (hs:H st = some o) (so:StO o):a ≠ st:=by
 rintro rfl
 obtain ⟨c,x,fl,rfl,_⟩:=so
 rw [ha] at hs
 have e:=HO.lst.inj (Option.some.inj hs)
 match ns,e with
 | [_,_,_],e=>simp at e
theorem jfl:∀ ns:List Int,jdl (ns.map Dt.int) ≤ 1
 | []=>by rw [List.map_nil,jdl]; omega
 | n :: r=>by
  rw [List.map_cons,jdl]
  have:=jfl r
  have e:depP (Dt.int n) = 0:=rfl
  omega
theorem menu3 {a b c d:Int} (h0:0 ≤ d) (h1:d < 3):∃ v,atI [V.int a,.int b,.int c] d = some (.int v)∧(v = a ∨ v = b ∨ v = c):=by
 have hd:d = 0 ∨ d = 1 ∨ d = 2:=by omega
 rcases hd with rfl | rfl | rfl
 ·exact ⟨a,at0,.inl rfl⟩
 ·exact ⟨b,at1,.inr (.inl rfl)⟩
 ·exact ⟨c,at2,.inr (.inr rfl)⟩
theorem jfo:∀ {sts:List (List Int)} {j:Nat} {s s':List Int} {n:Int},sts[j]? = some s→s'.Perm (n :: s)→(sts.set j s').flatten.Perm (n :: sts.flatten)
 | [],j,_,_,_,h,_=>by simp at h
 | a :: r,0,s,s',n,h,p=>by
  have e:a = s:=Option.some.inj h
  subst e
  rw [List.set_cons_zero,List.flatten_cons,List.flatten_cons]
  exact p.append_right _
 | a :: r,j + 1,s,s',n,h,p=>by
  rw [List.set_cons_succ,List.flatten_cons,List.flatten_cons]
  have ih:=jfo (sts:=r) (j:=j) h p
  exact (ih.append_left a).trans List.perm_middle
theorem jim (s:List Int) (k:Nat) (n:Int):(s.take k ++ n :: s.drop k).Perm (n :: s):=by
 have:=List.perm_middle (a:=n) (l₁:=s.take k) (l₂:=s.drop k)
 rw [List.take_append_drop] at this
 exact this
theorem jpr:∀ sts:List (List Int),(sts.filter fun s=>!s.isEmpty).flatten = sts.flatten
 | []=>rfl
 | s :: r=>by
  rw [List.filter_cons,List.flatten_cons,← jpr r]
  cases s with
  | nil=>rfl
  | cons a l=>rfl
def LsA (H:Hp) (al:List Addr) (sts:List (List Int)):Prop:=al.length = sts.length∧∀ (i:Nat) (a:Addr) (s:List Int),al[i]? = some a→sts[i]? = some s→H a = some (.lst (s.map V.int))
theorem LsA.set {H:Hp} {al:List Addr} {sts:List (List Int)} (h:LsA H al sts) (nd:al.Nodup) {j:Nat} {a:Addr} (ha:al[j]? = some a) (s':List Int):LsA (upd H a (.lst (s'.map V.int))) al (sts.set j s'):=by
 refine ⟨by rw [List.length_set]; exact h.1,fun i b s hb hs=>?_⟩
 by_cases e:i = j
 ·subst e
  rw [ha] at hb
  cases hb
  rw [ja1]
  have hi:i < sts.length:=by have:=(List.getElem?_eq_some_iff.mp ha).1; have:=h.1; omega
  rw [List.getElem?_set_self hi] at hs
  cases hs
  rfl
 ·rw [List.getElem?_set_ne (Ne.symm e)] at hs
  rw [jas (jef nd hb ha e)]
  exact h.2 i b s hb hs
theorem LsA.but {H H':Hp} {st:Addr} {o:HO} {al:List Addr} {sts:List (List Int)} (h:LsA H al sts) (hs:H st = some o) (so:StO o) (b:But st H H'):LsA H' al sts:=⟨h.1,fun i a s h1 h2=>b _ _ (jtk (h.2 i a s h1 h2) hs so) (h.2 i a s h1 h2)⟩
def LsF (H H':Hp) (v:V) (row:List Int):Prop:=∃ a,v = .ref a∧H a = none∧H' a = some (.lst (row.map V.int))
def jo5:Sp:=fun vs H Q _=>∃ s o,vs = [.ref s]∧H s = some o∧StO o∧∀ l H' o' zs sts,But s H H'→H' s = some o'→StO o'→H l = none→H' l = some (.lst zs)→Paired (LsF H H') zs sts→Sts sts→(∀ n ∈ sts.flatten,0 ≤ n∧n ≤ 900)→sts.flatten.length ≤ 20→Q (.ref l) H'
theorem But.free {s:Addr} {H H':Hp} (b:But s H H') {a:Addr} (ns:a ≠ s) (h:H' a = none):H a = none:=by
 cases e:H a with
 | none=>rfl
 | some u=>rw [b _ _ ns e] at h; cases h
theorem ins_eq {s:List Int} {k:Int} {n:Int}:(s.map V.int).take k.toNat ++ V.int n :: (s.map V.int).drop k.toNat = (s.take k.toNat ++ n :: s.drop k.toNat).map V.int:=by
 rw [List.map_append,List.map_cons,List.map_take,List.map_drop]
theorem jn4 {f:Addr} {fd:FuncData}  (B:Blt mg) (D:DefAt K mg "_law_own" (top 41) ["_law_web"] f fd):FnOk P w K mg base CX0 1 f fd ["_law_web"] js8:=by
 have sc:FnScope ["_law_web"] ["_law_web"] (jba (top 41)):=⟨rfl,rfl,rfl,by decide +kernel,rfl,by decide +kernel,by decide +kernel⟩
 refine D.F.ok sc (fun vs H Q E h=>?_) (fun cdv A outer s H vs Q E hr h=>?_)
 ·obtain ⟨v,ps,ts,rfl,_⟩:=h
  rfl
 obtain ⟨v,ps,ts,rfl,hw,h⟩:=h
 obtain ⟨u,pa,ta,xs,ys,rfl,eu,ep,et,pp,pt⟩:=id hw
 have hu:=jc7 hr
 have hu0:_ < PySem.cLine:=Nat.lt_of_succ_lt hu
 refine ⟨_,(jb9 (jbq (jc4 (ja0 (jcx jm1 rfl B.list PyProof.Rows.boot_list (ja0 (jbl q_ix (qv 0) jaj (fun _ _=>rfl)) jai)) (ja0 (jcx jm1 rfl B.list PyProof.Rows.boot_list (ja0 (jbl q_ix (qv 0) jaj (fun _ _=>rfl)) jai)) jai))))),?_⟩
 simp_all_arith [jbo,eu,ep,at0,at1]
 intro l1 h1
 have s1:Same H (upd H l1 (.lst xs)):=jag h1 _
 simp_all_arith [jbo,s1 _ _ eu,s1 _ _ et,at0,at1]
 intro l2 h2
 have s2:Same H (upd (upd H l1 (.lst xs)) l2 (.lst ys)):=s1.trans (jag h2 _)
 intro t h3
 have s3:Same (upd (upd H l1 (.lst xs)) l2 (.lst ys)) (upd (upd (upd H l1 (.lst xs)) l2 (.lst ys)) t (.tup [.ref l1,.ref l2])):=jag h3 _
 refine h _ _ (s2.trans s3) ⟨l1,l2,xs,ys,h1,s1.free h2,ja5 ja1 h2,ja1,s3 _ _ (jag h2 _ _ _ ja1),s3 _ _ ja1,Prs.same (s2.trans s3) pp,Prs.same (s2.trans s3) pt⟩
theorem jjq {f:Addr} {fd:FuncData} {f_law_take:Addr} {d_law_take:FuncData} (B:Blt mg) (D:DefAt K mg "_law_stars" (top 44) ["_law_state"] f fd) (D_law_take:DefAt K mg "_law_take" (top 43) ["_law_state","_law_many"] f_law_take d_law_take) (G_law_take:FnOk P w K mg base CX0 1 f_law_take d_law_take ["_law_state","_law_many"] jo4):FnOk P w K mg base CX0 2 f fd ["_law_state"] jo5:=by
 have sc:FnScope ["_law_state","_law_stars_here","_law_many","_law_number","_law_k","_law_star"] ["_law_state"] (jba (top 44)):=⟨rfl,rfl,rfl,by decide +kernel,rfl,by decide +kernel,by decide +kernel⟩
 refine D.F.ok sc (fun vs H Q E h=>?_) (fun cdv A outer s H vs Q E hr h=>?_)
 ·obtain ⟨s,o,rfl,_⟩:=h
  rfl
 obtain ⟨st,o,rfl,es,so,h⟩:=h
 have hu:=jc7 hr
 have hu0:_ < PySem.cLine:=Nat.lt_of_succ_lt hu
 refine ⟨_,(jah (jbf (i:=1) sc.nd rfl (Or.inl rfl) (jcf (ja0 (jcf jai) (ja0 (jcf jai) (ja0 (jcf jai) (ja0 (jcf jai) (ja0 (jcf jai) jai))))))) (jah (jbf (i:=2) sc.nd rfl (Or.inl rfl) (jbw jd3 jaj (jbe G_law_take (hr.mono (by decide)) rfl D_law_take.m D_law_take.F.kp D_law_take.b .nil jbs (ja0 (qv 0) (ja0 jaj jai))))) (jah (jbf (i:=3) sc.nd rfl (Or.inl rfl) (jgv jgu jaj)) (jah (jd8 PassesOwn.never rfl (jg1 rfl B.range (ja0 (jbe G_law_take (hr.mono (by decide)) rfl D_law_take.m D_law_take.F.kp D_law_take.b .nil jbs (ja0 (qv 0) (ja0 jaj jai))) jai)) (jbb (i:=4) sc.nd rfl (Or.inl rfl)) (jah (jbf (i:=3) sc.nd rfl (Or.inl rfl) (jbw jd3 (jbw jd3 (qv 3) jaj) (jbe G_law_take (hr.mono (by decide)) rfl D_law_take.m D_law_take.F.kp D_law_take.b .nil jbs (ja0 (qv 0) (ja0 (jbl q_ix (jcf (ja0 jaj (ja0 jaj (ja0 jaj jai)))) (jbe G_law_take (hr.mono (by decide)) rfl D_law_take.m D_law_take.F.kp D_law_take.b .nil jbs (ja0 (qv 0) (ja0 jaj jai))) (fun _ _=>rfl)) jai))))) (jah (jbf (i:=5) sc.nd rfl (Or.inl rfl) (jbl q_ix (qv 1) (jbe G_law_take (hr.mono (by decide)) rfl D_law_take.m D_law_take.F.kp D_law_take.b .nil jbs (ja0 (qv 0) (ja0 (qv 2) jai))) (fun _ _=>rfl))) (jb9 (jc1 (q_bm PySem.F.plainAttrs_list PySem.F.slot_list_insert PySem.F.type_list_insert q_insS (qv 5) (ja0 (jbe G_law_take (hr.mono (by decide)) rfl D_law_take.m D_law_take.F.kp D_law_take.b .nil jbs (ja0 (qv 0) (ja0 (jbw jd3 (jbk ji0 rfl B.len PySem.boot_len (ja0 (qv 5) jai)) jaj) jai))) (ja0 (qv 3) jai)))))))) (jb9 (jbq (jc6 (CpScope.of (N:=["_law_star"]) (src:=[none]) (by rfl)) rfl (jbr (qv 1)) (fun _ _ _ _=>(jbb (i:=0) (jbc (l:=["_law_star"]) (by rfl)) rfl (Or.inl rfl))) (fun _ _ _ _=>(jez (jd7 (jse hr.units) (qv 0) (jcf jai) (jcc _)))) (fun _ _ _ _=>(qv 0))))))))),?_⟩
 refine jb8 fun R hR=>?_
 obtain ⟨G0,hG0⟩:∃ G:Hp,G = H:=⟨H,rfl⟩
 rw [← hG0]
 walk_at "ND"
 intro a0 ha0
 have q0:=(jag ha0 (.lst []))
 have ea0:upd G0 a0 (.lst []) a0 = some (.lst []):=ja1
 generalize upd G0 a0 (.lst []) = G1 at q0 ea0
 walk_at "ND"
 intro a1 ha1
 have q1:=q0.trans (jag ha1 (.lst []))
 have n0_1:a0 ≠ a1:=ja5 ea0 ha1
 replace ea0:=jag ha1 (.lst []) _ _ ea0
 have ea1:upd G1 a1 (.lst []) a1 = some (.lst []):=ja1
 generalize upd G1 a1 (.lst []) = G2 at q1 ea0 ea1
 walk_at "ND"
 intro a2 ha2
 have q2:=q1.trans (jag ha2 (.lst []))
 have n0_2:a0 ≠ a2:=ja5 ea0 ha2
 replace ea0:=jag ha2 (.lst []) _ _ ea0
 have n1_2:a1 ≠ a2:=ja5 ea1 ha2
 replace ea1:=jag ha2 (.lst []) _ _ ea1
 have ea2:upd G2 a2 (.lst []) a2 = some (.lst []):=ja1
 generalize upd G2 a2 (.lst []) = G3 at q2 ea0 ea1 ea2
 walk_at "ND"
 intro a3 ha3
 have q3:=q2.trans (jag ha3 (.lst []))
 have n0_3:a0 ≠ a3:=ja5 ea0 ha3
 replace ea0:=jag ha3 (.lst []) _ _ ea0
 have n1_3:a1 ≠ a3:=ja5 ea1 ha3
 replace ea1:=jag ha3 (.lst []) _ _ ea1
 have n2_3:a2 ≠ a3:=ja5 ea2 ha3
 replace ea2:=jag ha3 (.lst []) _ _ ea2
 have ea3:upd G3 a3 (.lst []) a3 = some (.lst []):=ja1
 generalize upd G3 a3 (.lst []) = G4 at q3 ea0 ea1 ea2 ea3
 walk_at "ND"
 intro a4 ha4
 have q4:=q3.trans (jag ha4 (.lst []))
 have n0_4:a0 ≠ a4:=ja5 ea0 ha4
 replace ea0:=jag ha4 (.lst []) _ _ ea0
 have n1_4:a1 ≠ a4:=ja5 ea1 ha4
 replace ea1:=jag ha4 (.lst []) _ _ ea1
 have n2_4:a2 ≠ a4:=ja5 ea2 ha4
 replace ea2:=jag ha4 (.lst []) _ _ ea2
 have n3_4:a3 ≠ a4:=ja5 ea3 ha4
 replace ea3:=jag ha4 (.lst []) _ _ ea3
 have ea4:upd G4 a4 (.lst []) a4 = some (.lst []):=ja1
 generalize upd G4 a4 (.lst []) = G5 at q4 ea0 ea1 ea2 ea3 ea4
 walk_at "ND"
 refine ⟨szl (by decide),?_⟩
 intro sl hsl
 have q5:=q4.trans (jag hsl (.lst [V.ref a0,V.ref a1,V.ref a2,V.ref a3,V.ref a4]))
 have esl:upd G5 sl (.lst [V.ref a0,V.ref a1,V.ref a2,V.ref a3,V.ref a4]) sl = some (.lst [V.ref a0,V.ref a1,V.ref a2,V.ref a3,V.ref a4]):=ja1
 have LA:LsA (upd G5 sl (.lst [V.ref a0,V.ref a1,V.ref a2,V.ref a3,V.ref a4])) [a0,a1,a2,a3,a4] [[],[],[],[],[]]:=by
  have qs:=jag hsl (.lst [V.ref a0,V.ref a1,V.ref a2,V.ref a3,V.ref a4])
  refine ⟨rfl,fun i a s h1 h2=>?_⟩
  match i,h1,h2 with
  | 0,h1,h2=>cases h1; cases h2; exact qs _ _ ea0
  | 1,h1,h2=>cases h1; cases h2; exact qs _ _ ea1
  | 2,h1,h2=>cases h1; cases h2; exact qs _ _ ea2
  | 3,h1,h2=>cases h1; cases h2; exact qs _ _ ea3
  | 4,h1,h2=>cases h1; cases h2; exact qs _ _ ea4
 have nd:[a0,a1,a2,a3,a4].Nodup:=by simp [n0_1,n0_2,n0_3,n0_4,n1_2,n1_3,n1_4,n2_3,n2_4,n3_4]
 have hfr:∀ a ∈ [a0,a1,a2,a3,a4],G0 a = none∧a ≠ st:=fun a ha=>by
  have e0:G0 st = some o:=by rw [hG0]; exact es
  have f0:G0 a0 = none:=ha0
  have f1:G0 a1 = none:=q0.free ha1
  have f2:G0 a2 = none:=q1.free ha2
  have f3:G0 a3 = none:=q2.free ha3
  have f4:G0 a4 = none:=q3.free ha4
  have:G0 a = none:=by
   rcases List.mem_cons.mp ha with rfl | ha
   ·exact f0
   rcases List.mem_cons.mp ha with rfl | ha
   ·exact f1
   rcases List.mem_cons.mp ha with rfl | ha
   ·exact f2
   rcases List.mem_cons.mp ha with rfl | ha
   ·exact f3
   rw [List.mem_singleton.mp ha]
   exact f4
  exact ⟨this,(ja5 e0 this).symm⟩
 have hslA:∀ a ∈ [a0,a1,a2,a3,a4],a ≠ sl:=fun a ha=>by
  rcases List.mem_cons.mp ha with rfl | ha
  ·exact ja5 ea0 hsl
  rcases List.mem_cons.mp ha with rfl | ha
  ·exact ja5 ea1 hsl
  rcases List.mem_cons.mp ha with rfl | ha
  ·exact ja5 ea2 hsl
  rcases List.mem_cons.mp ha with rfl | ha
  ·exact ja5 ea3 hsl
  rw [List.mem_singleton.mp ha]
  exact ja5 ea4 hsl
 generalize upd G5 sl (.lst [V.ref a0,V.ref a1,V.ref a2,V.ref a3,V.ref a4]) = H1 at q5 esl LA
 subst hG0
 have hslG:G0 sl = none:=q4.free hsl
 have nsl:sl ≠ st:=(ja5 es hslG).symm
 rw [show ([V.ref a0,V.ref a1,V.ref a2,V.ref a3,V.ref a4]:List V) = [a0,a1,a2,a3,a4].map V.ref from rfl] at esl
 have hal5:[a0,a1,a2,a3,a4].length = 5:=rfl
 generalize [a0,a1,a2,a3,a4] = al at esl LA nd hfr hslA hal5
 clear ea0 ea1 ea2 ea3 ea4 n0_1 n0_2 n0_3 n0_4 n1_2 n1_3 n1_4 n2_3 n2_4 n3_4 ha0 ha1 ha2 ha3 ha4 q0 q1 q2 q3 q4
 have es1:=q5 _ _ es
 subst hR
 refine jb8 fun R hR=>?_
 walk_at "ND"
 refine ⟨st,o,5,rfl,es1,so,by decide,by decide,fun d1 o1 d10 d11 so1=>?_⟩
 have b2:But st G0 (upd H1 st o1):=fun b u nb q=>by rw [jas nb]; exact q5 _ _ q
 have es2:upd H1 st o1 st = some o1:=ja1
 have esl2:upd H1 st o1 sl = some (.lst (al.map V.ref)):=by rw [jas nsl]; exact esl
 have LA2:=LA.but es1 so (But.at st H1 o1)
 generalize upd H1 st o1 = H2 at b2 es2 esl2 LA2
 walk_at "ND"
 subst hR
 refine jb8 fun R hR=>?_
 walk_at "ND"
 subst hR
 refine jb8 fun R hR=>?_
 refine jeu (ι:=Nat × HO × Hp) (fun y=>Itr 0 y.1) (fun y=>y.2.2) (fun y=>y.1 ≤ 20∧y.2.2 = upd H2 st y.2.1∧StO y.2.1) (fun R' hR'=>?_) ?_
 ·unfold jrf
  walk_at "ND"
  refine ⟨st,o1,21,rfl,es2,so1,by decide,by decide,fun d2 o2 d20 d21 so2=>?_⟩
  exact ⟨_,rfl,by omega,by omega,hR' (d2.toNat,o2,_) ⟨by show d2.toNat ≤ 20; omega,rfl,so2⟩⟩
 rintro ⟨N,o2,H3⟩ ⟨hN,e3,so2⟩
 dsimp only at hN e3 so2
 have b3:But st G0 H3:=fun b u nb q=>by rw [e3,jas nb]; exact b2 _ _ nb q
 have es3:H3 st = some o2:=by rw [e3]; exact ja1
 have esl3:H3 sl = some (.lst (al.map V.ref)):=by rw [e3,jas nsl]; exact esl2
 have LA3:LsA H3 al [[],[],[],[],[]]:=by rw [e3]; exact LA2.but es2 so1 (But.at st H2 o2)
 clear e3
 refine jk6 (n:=N) (fun i σ Hc=>∃ num w4 w5 sts o',σ = [some (.ref st),some (.ref sl),some (.int (1 + d1)),some (.int num),w4,w5]∧But st G0 Hc∧Hc st = some o'∧StO o'∧Hc sl = some (.lst (al.map V.ref))∧LsA Hc al sts∧sts.flatten.Nodup∧(∀ n ∈ sts.flatten,0 ≤ n∧n ≤ num)∧num ≤ -1 + 40 * (i:Int)∧-1 ≤ num∧sts.flatten.length = i) ⟨-1,none,none,[[],[],[],[],[]],o2,rfl,b3,es3,so2,esl3,LA3,by simp,fun n hn=>by simp at hn,by omega,by omega,rfl⟩ ?_ ?_
 ·rintro i σ Hc hi ⟨num,w4,w5,sts,o',rfl,bc,ec,so',eslc,LAc,ndc,hb,hnum,hnum1,hfl⟩
  simp only [jak,List.set_cons_zero,List.set_cons_succ]
  refine jb8 fun R9 hR9=>?_
  walk_at "ND"
  intro p1 hp1
  have np:p1 ≠ st:=(ja5 ec hp1).symm
  refine ⟨st,o',3,rfl,(by rw [jas np.symm]; exact ec),so',by decide,by decide,fun d4 o4 d40 d41 so4=>?_⟩
  obtain ⟨v,ev,v0,v1⟩:∃ v,atI [V.int 1,.int 3,.int 40] d4 = some (.int v)∧1 ≤ v∧v ≤ 40:=by
   obtain ⟨v,ev,hv⟩:=menu3 (a:=1) (b:=3) (c:=40) d40 d41
   exact ⟨v,ev,by omega,by omega⟩
  simp_all_arith [jbo,jas np,ja1,ev]
  refine ⟨st,o4,v,rfl,ja1,so4,by omega,by omega,fun d5 o5 d50 d51 so5=>?_⟩
  simp_all_arith [jnu]
  have b5:But st Hc (upd (upd Hc p1 (.lst [.int 1,.int 3,.int 40])) st o5):=(But.new hp1).trans (But.at _ _ _)
  have e5:(upd (upd Hc p1 (.lst [.int 1,.int 3,.int 40])) st o5) st = some o5:=ja1
  generalize upd (upd Hc p1 (.lst [.int 1,.int 3,.int 40])) st o5 = H5 at b5 e5
  have esl5:=b5 _ _ nsl eslc
  have LA5:=LAc.but ec so' b5
  have bc5:=bc.trans b5
  subst hR9
  refine jb8 fun R9 hR9=>?_
  walk_at "ND"
  refine ⟨st,o5,1 + d1,rfl,e5,so5,by omega,by omega,fun d6 o6 d60 d61 so6=>?_⟩
  have b6:But st H5 (upd H5 st o6):=But.at _ _ _
  have e6:upd H5 st o6 st = some o6:=ja1
  generalize upd H5 st o6 = H6 at b6 e6
  have esl6:=b6 _ _ nsl esl5
  have LA6:=LA5.but e5 so5 b6
  have bc6:=bc5.trans b6
  obtain ⟨j,rfl⟩:∃ j:Nat,d6 = (j:Int):=⟨d6.toNat,by omega⟩
  have hj:j < al.length:=by omega
  have xa:al[j]? = some al[j]:=List.getElem?_eq_getElem hj
  have haj:=List.getElem_mem hj
  generalize al[j] = aj at xa haj
  have hjs:j < sts.length:=by have:=LA6.1; omega
  have xs:sts[j]? = some sts[j]:=List.getElem?_eq_getElem hjs
  generalize sts[j] = sj at xs
  have eaj:=LA6.2 j aj sj xa xs
  have aa:atI (al.map V.ref) (j:Int) = some (.ref aj):=by
   refine jdc ?_
   rw [List.getElem?_map,xa]
   rfl
  simp_all_arith [jbo,esl6,aa]
  subst hR9
  have naj:=(hfr aj haj).2
  have hsjl:sj.length ≤ i:=by
   have:=(List.sublist_flatten_of_mem (List.mem_of_getElem? xs)).length_le
   omega
  walk_at "ND"
  refine ⟨⟨aj,_,rfl,eaj⟩,?_⟩
  simp_all_arith [jbo,eaj,List.length_map]
  refine ⟨st,o6,(sj.length:Int) + 1,rfl,e6,so6,by omega,by omega,fun d7 o7 d70 d71 so7=>?_⟩
  have b7:But st H6 (upd H6 st o7):=But.at _ _ _
  have e7:upd H6 st o7 st = some o7:=ja1
  generalize upd H6 st o7 = H7 at b7 e7
  have esl7:=b7 _ _ nsl esl6
  have LA7:=LA6.but e6 so6 b7
  have bc7:=bc6.trans b7
  have eaj7:=b7 _ _ naj eaj
  unfold ju3
  dsimp only
  rw [eaj7]
  dsimp only
  rw [ins_eq]
  refine ⟨⟨d70,by rw [List.length_map]; omega,by rw [List.length_map]; omega⟩,_,_,_,sts.set j (sj.take d7.toNat ++ (num + 1 + d5) :: sj.drop d7.toNat),o7,rfl,fun b u nb q=>?_,?_,so7,?_,LA7.set nd xa _,?_,fun n hn=>?_,?_,?_,?_⟩
  ·rw [jas (ja5 q (hfr aj haj).1)]
   exact bc7 _ _ nb q
  ·rw [jas naj.symm]
   exact e7
  ·rw [jas (hslA aj haj).symm]
   exact esl7
  ·have P:=jfo xs (jim sj d7.toNat (num + 1 + d5))
   refine P.nodup_iff.mpr (List.nodup_cons.mpr ⟨fun z=>?_,ndc⟩)
   have:=hb _ z
   omega
  ·have P:=jfo xs (jim sj d7.toNat (num + 1 + d5))
   rcases List.mem_cons.mp (P.mem_iff.mp hn) with rfl | hn
   ·omega
   ·have:=hb _ hn
    omega
  ·omega
  ·omega
  ·have P:=jfo xs (jim sj d7.toNat (num + 1 + d5))
   rw [P.length_eq,List.length_cons,hfl]
 ·rintro σ Hc ⟨num,w4,w5,sts,o',rfl,bc,ec,so',eslc,LAc,ndc,hb,hnum,hnum1,hfl⟩
  subst hR
  walk_at "ND"
  have hsl5:sts.length = 5:=by have:=LAc.1; omega
  refine jbp (Itl K sl) Hc (fun R2 hR2=>?_) (fun z hz0=>jbu al.length (fun j σ' Hd=>∃ w1 ws,σ' = [w1]∧Same Hc Hd∧Hd z = some (.lst ws)∧Paired (LsF G0 Hc) ws ((sts.take j).filter fun s=>!s.isEmpty)) ⟨none,[],rfl,jag hz0 _,ja1,.nil⟩ ?_ ?_)
  ·unfold jcs
   walk_at "ND"
   exact ⟨sl,rfl,⟨_,SqL.of eslc⟩,hR2⟩
  ·rintro j σ' Hd hj ⟨w1,ws,rfl,s4,ez,pw⟩
   have xa:al[j]? = some al[j]:=List.getElem?_eq_getElem hj
   generalize al[j] = aj at xa
   have hj1:(al.map V.ref)[j]? = some (.ref aj):=by rw [List.getElem?_map,xa]; rfl
   have z1:SqL K Hd sl (al.map V.ref):=SqL.of (s4 _ _ eslc)
   refine ⟨⟨_,_,z1,hj1⟩,?_⟩
   rintro y H' ⟨rfl,hy⟩
   have:=hy _ z1
   rw [hj1] at this
   cases this
   have hjs:j < sts.length:=by omega
   have xs:sts[j]? = some sts[j]:=List.getElem?_eq_getElem hjs
   generalize sts[j] = sj at xs
   have eaj:=LAc.2 j aj sj xa xs
   have hwl:ws.length ≤ 5:=by
    rw [Paired.length pw]
    refine Nat.le_trans (List.length_filter_le _ _) ?_
    rw [List.length_take]
    omega
   walk_at "ND"
   intro e0 he0
   have q0:=jag he0 (.lst [])
   have ee0:upd H' e0 (.lst []) e0 = some (.lst []):=ja1
   generalize upd H' e0 (.lst []) = H8 at q0 ee0
   refine ⟨.lst (sj.map Dt.int),.lst [],(by rw [Rep]; exact ⟨aj,_,rfl,q0 _ _ (s4 _ _ eaj),jej _⟩),(by rw [Rep]; exact ⟨e0,[],rfl,ee0,by rw [Reps]⟩),(by rw [depP]; have:=jfl sj; omega),.inl ⟨_,_,rfl,rfl⟩,?_⟩
   rw [jbj xs,List.filter_append]
   cases sj with
   | nil =>
    rw [show eqP (.lst (([]:List Int).map Dt.int)) (.lst []) = true from jem _]
    walk_at "ND"
    exact ⟨_,ws,rfl,s4.trans q0,q0 _ _ ez,by simpa using pw⟩
   | cons c0 cr =>
    rw [show eqP (.lst ((c0 :: cr).map Dt.int)) (.lst []) = false from rfl]
    walk_at "ND"
    refine ⟨ws,q0 _ _ ez,szl' (by omega),_,ws ++ [.ref aj],rfl,jbh (s4.trans q0) hz0,ja1,?_⟩
    exact jbn pw ⟨aj,rfl,(hfr aj (List.mem_of_getElem? xa)).1,eaj⟩
  rintro σ' H8 ⟨w1,ws,rfl,s8,ez,pw⟩
  refine ⟨⟨_,SqL.of (s8 _ _ eslc),by rw [List.length_map]; exact Nat.le_refl _⟩,?_⟩
  rw [List.take_of_length_le (by omega)] at pw
  have fe:=jpr sts
  exact h z H8 o' ws _ (fun b u nb q=>s8 _ _ (bc _ _ nb q)) (s8 _ _ ec) so' (bc.free (ja5 ec hz0).symm hz0) ez (Paired.imp' (fun _ _ ⟨a,e,n,q⟩=>⟨a,e,n,s8 _ _ q⟩) pw) ⟨fun s hs=>by have:=(List.mem_filter.mp hs).2; cases s with | nil=>cases this | cons=>simp,by rw [fe]; exact ndc⟩ (fun n hn=>by rw [fe] at hn; have:=hb n hn; omega) (by rw [fe]; omega)
end
end My
namespace My
open PySem L2
section
variable {P:Program} {w:World} {K:PySem.W.Frag} {mg:Str→Option Value} {base:Heap} {c1 c2 c3 c4:Tok} {C_NoWeb f_NoWeb:Addr} {dI:FuncData}
theorem jst {s:List Int} (hne:s ≠ []) (nd:s.Nodup):(tieS s).Nodup:=by
 rw [jc3 hne] at nd
 have nt:=(List.nodup_cons.mp nd).2
 unfold tieS
 refine List.pairwise_map.mpr (List.Pairwise.imp (fun {a b} h e=>h ?_) nt)
 have e1:=(Prod.mk.inj e).1
 have e2:=(Prod.mk.inj e).2
 omega
theorem jkq {s:List Int} (hne:s ≠ []) {t:Int × Int} (h:t ∈ tieS s):t.1 ∈ s∧t.2 ∈ s:=by
 obtain ⟨l,hl,rfl⟩:=List.mem_map.mp h
 have hc:cen s ∈ s:=by rw [jc3 hne]; exact List.mem_cons_self ..
 have hl:=List.mem_of_mem_tail hl
 dsimp only
 rcases jl7 (a:=cen s) (b:=l) with ⟨e1,e2⟩ | ⟨e1,e2⟩ <;> rw [e1,e2]
 ·exact ⟨hc,hl⟩
 ·exact ⟨hl,hc⟩
theorem jsu {s:List Int} (hne:s ≠ []) (nd:s.Nodup) {t:Int × Int} (h:t ∈ tieS s):t.1 < t.2:=by
 obtain ⟨l,hl,rfl⟩:=List.mem_map.mp h
 have:=(jdy hne nd).2
 have:cen s ≠ l:=fun z=>this (by rw [z]; exact hl)
 dsimp only
 omega
theorem jlv:∀ {sts:List (List Int)},Sts sts→(je2 sts).Nodup
 | [],_=>List.nodup_nil
 | s :: r,S=>by
  have nd:=S.nd
  rw [List.flatten_cons] at nd
  obtain ⟨n1,n2,n3⟩:=List.nodup_append.mp nd
  have hne:=S.ne s (List.mem_cons_self ..)
  have ih:=jlv (sts:=r) ⟨fun x hx=>S.ne x (List.mem_cons_of_mem _ hx),n2⟩
  unfold je2 at ih ⊢
  rw [List.flatMap_cons]
  refine List.nodup_append.mpr ⟨jst hne n1,ih,fun t ht t' ht' e=>?_⟩
  subst e
  obtain ⟨s',hs',h'⟩:=List.mem_flatMap.mp ht'
  have i1:=(jkq hne ht).1
  have i2:=(jkq (S.ne s' (List.mem_cons_of_mem _ hs')) h').1
  exact n3 _ i1 _ (List.mem_flatten.mpr ⟨s',hs',i2⟩) rfl
theorem jhn {sts:List (List Int)} (S:Sts sts) {t:Int × Int} (h:t ∈ je2 sts):t.1 < t.2∧t.1 ∈ sts.flatten∧t.2 ∈ sts.flatten:=by
 obtain ⟨s,hs,h'⟩:=List.mem_flatMap.mp h
 have i:=jkq (S.ne s hs) h'
 exact ⟨jsu (S.ne s hs) (jgl S.nd hs) h',List.mem_flatten.mpr ⟨s,hs,i.1⟩,List.mem_flatten.mpr ⟨s,hs,i.2⟩⟩
theorem jot {pr:Int→Int}:∀ {ms:List Int} {l s:Int},(∀ n ∈ ms,l < n∧n ≤ 999∧1 ≤ pr n)→ms.Pairwise (· < ·)→s + (ms.map pr).sum ≤ 1000000000000→PlOk l s (ms.map fun n=>(n,pr n))
 | [],_,_,_,_,_=>trivial
 | n :: r,l,s,h,hp,hs=>by
  have h1:=h n (List.mem_cons_self ..)
  have hp':=List.pairwise_cons.mp hp
  rw [List.map_cons,List.sum_cons] at hs
  have nn:=Fl.sum_nn (f:=pr) (l:=r) fun m hm=>by have:=h m (List.mem_cons_of_mem _ hm); omega
  rw [List.map_cons]
  exact ⟨⟨h1.1,h1.2.1,h1.2.2,by omega⟩,jot (fun m hm=>⟨hp'.1 m hm,(h m (List.mem_cons_of_mem _ hm)).2⟩) hp'.2 (by omega)⟩
theorem jje:∀ {ms:List Int},ms.Pairwise (· ≤ ·)→ms.Nodup→ms.Pairwise (· < ·)
 | [],_,_=>.nil
 | n :: r,h,nd=>by
  have h':=List.pairwise_cons.mp h
  have nd':=List.nodup_cons.mp nd
  refine List.pairwise_cons.mpr ⟨fun m hm=>?_,jje h'.2 nd'.2⟩
  have:=h'.1 m hm
  have:n ≠ m:=fun z=>nd'.1 (by rw [z]; exact hm)
  omega
theorem jnz {kvs:List (Key × V)}:∀ {ts:List (Int × Int)} {q:Int × Int},ts.Pairwise jp7→ts.Nodup→(∀ t ∈ ts,HT.lexLt [q.1,q.2] [t.1,t.2] = true)→(∀ t ∈ ts,t.1 < t.2∧hasK kvs t.1 = true∧hasK kvs t.2 = true)→TiOk kvs q ts
 | [],_,_,_,_,_=>trivial
 | t :: r,q,h,nd,hq,hk=>by
  have h':=List.pairwise_cons.mp h
  have nd':=List.nodup_cons.mp nd
  refine ⟨⟨hq t (List.mem_cons_self ..),hk t (List.mem_cons_self ..)⟩,jnz h'.2 nd'.2 (fun u hu=>?_) fun u hu=>hk u (List.mem_cons_of_mem _ hu)⟩
  have le:=h'.1 u hu
  have ne:t ≠ u:=fun z=>nd'.1 (by rw [z]; exact hu)
  unfold jp7 at le
  rcases le with le | ⟨e,le⟩
  ·exact jsh le
  ·rw [e]
   refine lex_eq ?_
   rcases Int.lt_or_eq_of_le le with z | z
   ·exact z
   ·exact absurd (Prod.ext e z) ne
theorem web_of {sts:List (List Int)} {pr:Int→Int} {ms:List Int} {ts:List (Int × Int)} (S:Sts sts) (h9:∀ n ∈ sts.flatten,0 ≤ n∧n ≤ 900) (h20:sts.flatten.length ≤ 20) (hpr:∀ n ∈ sts.flatten,1 ≤ pr n) (hs:(sts.flatten.map pr).sum ≤ 1000000000000) (pm:ms.Perm sts.flatten) (sm:ms.Pairwise (· ≤ ·)) (pt:ts.Perm (je2 sts)) (st:ts.Pairwise jp7) (htl:(je2 sts).length ≤ 20):WebOk (ms.map fun n=>(n,pr n)) ts∧StW (ms.map fun n=>(n,pr n)) ts sts pr:=by
 have ndm:ms.Nodup:=pm.nodup_iff.mpr S.nd
 have hk:∀ n ∈ sts.flatten,hasK (jd1 (ms.map fun n=>(n,pr n))) n = true:=fun n hn=>by
  have:(n,pr n) ∈ ms.map fun n=>(n,pr n):=List.mem_map.mpr ⟨n,pm.mem_iff.mpr hn,rfl⟩
  refine ju1 (p:=(n,pr n)) ?_ this
  rw [List.map_map]
  show (ms.map id).Nodup
  rw [List.map_id]
  exact ndm
 refine ⟨⟨by rw [List.length_map,pm.length_eq]; omega,jot (fun n hn=>?_) (jje sm ndm) (by rw [jma (pm.map pr)]; omega),by rw [pt.length_eq]; omega,jnz st (pt.nodup_iff.mpr (jlv S)) (fun t ht=>?_) fun t ht=>?_⟩,S,hpr,pm.map _,fun t=>pt.mem_iff⟩
 ·have a:=h9 n (pm.mem_iff.mp hn)
  have b:=hpr n (pm.mem_iff.mp hn)
  omega
 ·have i:=jhn S (pt.mem_iff.mp ht)
  have:=h9 _ i.2.1
  exact jsh (a:=(-1)) (by omega)
 ·have i:=jhn S (pt.mem_iff.mp ht)
  exact ⟨i.1,hk _ i.2.1,hk _ i.2.2⟩
end
end My
namespace My
open PySem L2
section
variable {P:Program} {w:World} {K:PySem.W.Frag} {mg:Str→Option Value} {base:Heap} {c1 c2 c3 c4:Tok} {C_NoWeb f_NoWeb:Addr} {dI:FuncData}
def LsN (ls:List Addr) (H:Hp) (v:V) (row:List Int):Prop:=∃ a,v = .ref a∧a ∉ ls∧H a = some (.lst (row.map V.int))
theorem LsN.of {l:List Addr} {p:Addr} (hp:p ∈ l) {H:Hp} {o:HO} {xs:List V} {rs:List (List Int)} (h:Paired (LsN l H) xs rs):Paired (LsN l (upd H p o)) xs rs:=Paired.imp' (fun _ _ ⟨a,e,n,q⟩=>⟨a,e,n,by rw [jas (fun z:a = p=>n (by rw [z]; exact hp))]; exact q⟩) h
theorem LsN.same {l:List Addr} {H H':Hp} (s:Same H H') {xs:List V} {rs:List (List Int)} (h:Paired (LsN l H) xs rs):Paired (LsN l H') xs rs:=Paired.imp' (fun _ _ ⟨a,e,n,q⟩=>⟨a,e,n,s _ _ q⟩) h
theorem jmw {ns:List Int} (nd:ns.Nodup) {i:Nat} {n:Int} (h:ns[i]? = some n):n ∉ ns.take i:=fun hm=>by
 obtain ⟨j,hj,e⟩:=List.mem_iff_getElem.mp hm
 rw [List.getElem_take] at e
 rw [List.length_take] at hj
 obtain ⟨hi,e2⟩:=List.getElem?_eq_some_iff.mp h
 exact List.pairwise_iff_getElem.mp nd j i (by omega) hi (by omega) (e.trans e2.symm)
theorem jq2 {xs:List V} {k:Int} (h0:0 ≤ k):cutV xs (some k) none = xs.drop k.toNat:=by
 unfold cutV HT.sIx
 simp only [if_neg (show ¬ k < 0 by omega)]
 by_cases c:k.toNat ≤ xs.length
 ·rw [Nat.min_eq_left c]
  exact List.take_of_length_le (by rw [List.length_drop]; exact Nat.le_refl _)
 ·rw [Nat.min_eq_right (by omega),List.drop_length,List.drop_eq_nil_of_le (by omega),List.take_nil]
def kdp (pr:Int→Int) (ns:List Int):List (Key × V):=ns.map fun n=>((Sum.inl n:Key),V.int (pr n))
def upf (pr:Int→Int) (n v:Int):Int→Int:=fun m=>if m = n then v else pr m
theorem je9 (pr:Int→Int) (n v:Int):upf pr n v n = v:=if_pos rfl
theorem jh3 (pr:Int→Int) {n m v:Int} (h:m ≠ n):upf pr n v m = pr m:=if_neg h
theorem jik {pr:Int→Int}:∀ {ns:List Int} {n:Int},n ∈ ns→valV (kdp pr ns) (Sum.inl n:Key) = some (.int (pr n))
 | [],_,h=>by cases h
 | a :: r,n,h=>by
  unfold kdp valV
  rw [List.map_cons,List.find?_cons]
  by_cases c:a = n
  ·subst c; simp
  ·rw [decide_eq_false (fun z=>c (Sum.inl.inj z))]
   have:=jik (pr:=pr) (ns:=r) ((List.mem_cons.mp h).resolve_left fun z=>c z.symm)
   unfold kdp valV at this
   exact this
theorem jrd (pr:Int→Int) (ns:List Int):(kdp pr ns).map (fun kv=>kV kv.1) = ns.map V.int:=by
 unfold kdp
 rw [List.map_map]
 rfl
theorem jrc {pr:Int→Int} {ns:List Int} {n:Int} (h:n ∉ ns):valV (kdp pr ns) (Sum.inl n:Key) = none:=by
 unfold kdp valV
 rw [Option.map_eq_none_iff,List.find?_eq_none]
 intro kv hkv
 obtain ⟨m,hm,rfl⟩:=List.mem_map.mp hkv
 simp only [decide_eq_true_eq]
 exact fun z=>h (by rw [← Sum.inl.inj z]; exact hm)
theorem jts {pr:Int→Int} {ns:List Int} {n v:Int} (h:n ∉ ns):putK (kdp pr ns) (Sum.inl n:Key) (.int v) = kdp (upf pr n v) (ns ++ [n]):=by
 rw [L2.ji3 _ (jrc h)]
 unfold kdp
 rw [List.map_append]
 congr 1
 ·exact List.map_congr_left fun m hm=>by rw [jh3 pr (fun z=>h (by rw [← z]; exact hm))]
 ·rw [List.map_singleton,je9]
theorem jtr {pr:Int→Int} {ns:List Int} {n v:Int} (h:n ∈ ns):putK (kdp pr ns) (Sum.inl n:Key) (.int v) = kdp (upf pr n v) ns:=by
 unfold putK kdp
 rw [if_pos (List.any_eq_true.mpr ⟨_,List.mem_map.mpr ⟨n,h,rfl⟩,by simp⟩),List.map_map]
 refine List.map_congr_left fun m hm=>?_
 show (if (Sum.inl m:Key) = Sum.inl n then _ else _) = _
 by_cases c:m = n
 ·subst c; rw [if_pos rfl,je9]
 ·rw [if_neg (fun z=>c (Sum.inl.inj z)),jh3 pr c]
theorem jhg {pr pr':Int→Int} {s:List Int} (hne:s ≠ []) (h:∀ n ∈ s,pr n = pr' n):inS1 pr s = inS1 pr' s∧jd0 pr s = jd0 pr' s:=by
 have e1:pr (cen s) = pr' (cen s):=h _ (by rw [jc3 hne]; exact List.mem_cons_self ..)
 have e2:oth pr s = oth pr' s:=Fl.sum_congr fun n hn=>h n (List.mem_of_mem_tail hn)
 unfold inS1 jd0
 rw [e1,e2]
 exact ⟨rfl,rfl⟩
theorem jdb {f g:List Int→List Int}:∀ {l:List (List Int)},(∀ s ∈ l,f s = g s)→l.flatMap f = l.flatMap g
 | [],_=>rfl
 | a :: r,h=>by rw [List.flatMap_cons,List.flatMap_cons,h a (List.mem_cons_self ..),jdb fun s hs=>h s (List.mem_cons_of_mem _ hs)]
theorem jne {pr pr':Int→Int} {sts:List (List Int)} (hne:∀ s ∈ sts,s ≠ []) (h:∀ n ∈ sts.flatten,pr n = pr' n):insS pr sts = insS pr' sts∧jc5 pr sts = jc5 pr' sts:=by
 have hh:∀ s ∈ sts,∀ n ∈ s,pr n = pr' n:=fun s hs n hn=>h n (List.mem_flatten.mpr ⟨s,hs,hn⟩)
 exact ⟨jdb fun s hs=>(jhg (hne s hs) (hh s hs)).1,jdb fun s hs=>(jhg (hne s hs) (hh s hs)).2⟩
theorem jdr {β:Type} (f:List Int→List β) {sts:List (List Int)} {i:Nat} {s:List Int} (h:sts[i]? = some s):(sts.take (i + 1)).flatMap f = (sts.take i).flatMap f ++ f s:=by
 rw [jbj h,List.flatMap_append]
 simp
theorem jdq {sts:List (List Int)} {i:Nat} {s:List Int} (h:sts[i]? = some s):(sts.take (i + 1)).flatten = (sts.take i).flatten ++ s:=by
 rw [jbj h,List.flatten_append]
 simp
structure Dw (H:Hp) (st dl tl du d0 d1 zl:Addr) (zs:List V) (sts:List (List Int)) (o:HO) (kvs:List (Key × V)) (ws:List V) (I O:List Int):Prop where
 es:H st = some o
 so:StO o
 ed:H dl = some (.dK kvs)
 et:H tl = some (.lst ws)
 edu:H du = some (.lst [.ref d0,.ref d1])
 e0:H d0 = some (.lst (I.map V.int))
 e1:H d1 = some (.lst (O.map V.int))
 ez:H zl = some (.lst zs)
 pz:Paired (LsN [st,dl,tl,d0,d1] H) zs sts
section
variable {H H':Hp} {st dl tl du d0 d1 zl:Addr} {zs:List V} {sts:List (List Int)} {o:HO} {kvs:List (Key × V)} {ws:List V} {I O:List Int}
theorem Dw.same (w:Dw H st dl tl du d0 d1 zl zs sts o kvs ws I O) (s:Same H H'):Dw H' st dl tl du d0 d1 zl zs sts o kvs ws I O:=⟨s _ _ w.es,w.so,s _ _ w.ed,s _ _ w.et,s _ _ w.edu,s _ _ w.e0,s _ _ w.e1,s _ _ w.ez,LsN.same s w.pz⟩
theorem Dw.star (w:Dw H st dl tl du d0 d1 zl zs sts o kvs ws I O) {i:Nat} {a:Addr} {s:List Int} (hy:zs[i]? = some (.ref a)) (hs:sts[i]? = some s):H a = some (.lst (s.map V.int)):=by
 obtain ⟨s',hs',a',e,_,q⟩:=jbi w.pz hy
 cases e
 rw [hs] at hs'
 cases hs'
 exact q
structure Apart (st dl tl du d0 d1 zl:Addr):Prop where
 s1:st ≠ dl
 s2:st ≠ tl
 s3:st ≠ du
 s4:st ≠ d0
 s5:st ≠ d1
 s6:st ≠ zl
 l2:dl ≠ tl
 l3:dl ≠ du
 l4:dl ≠ d0
 l5:dl ≠ d1
 l6:dl ≠ zl
 t3:tl ≠ du
 t4:tl ≠ d0
 t5:tl ≠ d1
 t6:tl ≠ zl
 u4:du ≠ d0
 u5:du ≠ d1
 a5:d0 ≠ d1
 a6:d0 ≠ zl
 b6:d1 ≠ zl
theorem Dw.st' (w:Dw H st dl tl du d0 d1 zl zs sts o kvs ws I O) (A:Apart st dl tl du d0 d1 zl) {o':HO} (so':StO o'):Dw (upd H st o') st dl tl du d0 d1 zl zs sts o' kvs ws I O :=
 ⟨ja1,so',by rw [jas A.s1.symm]; exact w.ed,by rw [jas A.s2.symm]; exact w.et,by rw [jas A.s3.symm]; exact w.edu,by rw [jas A.s4.symm]; exact w.e0,by rw [jas A.s5.symm]; exact w.e1,by rw [jas A.s6.symm]; exact w.ez,LsN.of (by simp) w.pz⟩
theorem Dw.dl' (w:Dw H st dl tl du d0 d1 zl zs sts o kvs ws I O) (A:Apart st dl tl du d0 d1 zl) (k2:List (Key × V)):Dw (upd H dl (.dK k2)) st dl tl du d0 d1 zl zs sts o k2 ws I O :=
 ⟨by rw [jas A.s1]; exact w.es,w.so,ja1,by rw [jas A.l2.symm]; exact w.et,by rw [jas A.l3.symm]; exact w.edu,by rw [jas A.l4.symm]; exact w.e0,by rw [jas A.l5.symm]; exact w.e1,by rw [jas A.l6.symm]; exact w.ez,LsN.of (by simp) w.pz⟩
theorem Dw.tl' (w:Dw H st dl tl du d0 d1 zl zs sts o kvs ws I O) (A:Apart st dl tl du d0 d1 zl) (w2:List V):Dw (upd H tl (.lst w2)) st dl tl du d0 d1 zl zs sts o kvs w2 I O :=
 ⟨by rw [jas A.s2]; exact w.es,w.so,by rw [jas A.l2]; exact w.ed,ja1,by rw [jas A.t3.symm]; exact w.edu,by rw [jas A.t4.symm]; exact w.e0,by rw [jas A.t5.symm]; exact w.e1,by rw [jas A.t6.symm]; exact w.ez,LsN.of (by simp) w.pz⟩
theorem Dw.d0' (w:Dw H st dl tl du d0 d1 zl zs sts o kvs ws I O) (A:Apart st dl tl du d0 d1 zl) (I2:List Int):Dw (upd H d0 (.lst (I2.map V.int))) st dl tl du d0 d1 zl zs sts o kvs ws I2 O :=
 ⟨by rw [jas A.s4]; exact w.es,w.so,by rw [jas A.l4]; exact w.ed,by rw [jas A.t4]; exact w.et,by rw [jas A.u4]; exact w.edu,ja1,by rw [jas A.a5.symm]; exact w.e1,by rw [jas A.a6.symm]; exact w.ez,LsN.of (by simp) w.pz⟩
theorem Dw.d1' (w:Dw H st dl tl du d0 d1 zl zs sts o kvs ws I O) (A:Apart st dl tl du d0 d1 zl) (O2:List Int):Dw (upd H d1 (.lst (O2.map V.int))) st dl tl du d0 d1 zl zs sts o kvs ws I O2 :=
 ⟨by rw [jas A.s5]; exact w.es,w.so,by rw [jas A.l5]; exact w.ed,by rw [jas A.t5]; exact w.et,by rw [jas A.u5]; exact w.edu,by rw [jas A.a5]; exact w.e0,ja1,by rw [jas A.b6.symm]; exact w.ez,LsN.of (by simp) w.pz⟩
theorem But.updf {s p:Addr} {o':HO} (b:But s H H') (h:H p = none):But s H (L2.upd H' p o'):=fun c u n e=>by rw [jas (ja5 e h)]; exact b c u n e
theorem But.updS {s:Addr} {o':HO} (b:But s H H'):But s H (L2.upd H' s o'):=fun c u n e=>by rw [jas n]; exact b c u n e
theorem But.same {s:Addr} {H2:Hp} (b:But s H H') (q:Same H' H2):But s H H2:=fun c u n e=>q _ _ (b c u n e)
end
theorem mn_eq {c l:Int}:(if l < c then l else c) = min c l:=by split <;> omega
theorem mx_eq {c l:Int}:(if l > c then l else c) = max c l:=by split <;> omega
theorem jsv {sts:List (List Int)} (h:sts.flatten.Nodup) (i:Nat):(sts.take i).flatten.Nodup:=by
 rw [← List.take_append_drop i sts,List.flatten_append] at h
 exact (List.nodup_append.mp h).1
theorem jqi (sts:List (List Int)) (i:Nat):(sts.take i).flatten.length ≤ sts.flatten.length:=by
 conv=>rhs; rw [← List.take_append_drop i sts]
 rw [List.flatten_append,List.length_append]
 omega
theorem jfu:∀ {sts:List (List Int)},(∀ s ∈ sts,s ≠ [])→(je2 sts).length ≤ sts.flatten.length
 | [],_=>Nat.le_refl _
 | s :: r,h=>by
  have ih:=jfu (sts:=r) fun x hx=>h x (List.mem_cons_of_mem _ hx)
  unfold je2 at ih ⊢
  rw [List.flatMap_cons,List.flatten_cons,List.length_append,List.length_append]
  have:(tieS s).length ≤ s.length:=by unfold tieS; rw [List.length_map,List.length_tail]; omega
  omega
theorem jio {pr:Int→Int}:∀ {sts:List (List Int)},(∀ s ∈ sts,s ≠ [])→(insS pr sts).length ≤ sts.flatten.length∧(jc5 pr sts).length ≤ sts.flatten.length
 | [],_=>⟨Nat.le_refl _,Nat.le_refl _⟩
 | s :: r,h=>by
  have ih:=jio (pr:=pr) (sts:=r) fun x hx=>h x (List.mem_cons_of_mem _ hx)
  unfold insS jc5 at ih ⊢
  rw [List.flatMap_cons,List.flatMap_cons,List.flatten_cons,List.length_append,List.length_append,List.length_append]
  have hs:=jc3 (h s (List.mem_cons_self ..))
  have e:s.length = s.tail.length + 1:=by conv=>lhs; rw [hs]; rw [List.length_cons]
  have:(inS1 pr s).length ≤ s.length∧(jd0 pr s).length ≤ s.length:=by
   unfold inS1 jd0
   split
   ·exact ⟨by simp; omega,by omega⟩
   ·split
    ·exact ⟨by omega,by simp; omega⟩
    ·simp
  omega
theorem jfg {s:List Int}:cutV (s.map V.int) (some 1) none = s.tail.map V.int:=by
 rw [jq2 (by decide)]
 cases s <;> rfl
theorem oth_le {pr:Int→Int} {s:List Int} {B:Int} (h:∀ n ∈ s,pr n ≤ B):(s.map pr).sum ≤ B * (s.length:Int):=by
 induction s with
 | nil=>simp
 | cons a r ih =>
  rw [List.map_cons,List.sum_cons,List.length_cons]
  have h1:=h a (List.mem_cons_self ..)
  have h2:=ih fun n hn=>h n (List.mem_cons_of_mem _ hn)
  rw [show B * ((r.length + 1:Nat):Int) = B * (r.length:Int) + B by rw [Int.natCast_add,Int.mul_add]; simp]
  omega
theorem p10:(10:Int) ^ Int.toNat 10 = 10000000000:=by decide
def jof:Sp:=fun vs H Q _=>∃ s o,vs = [.ref s]∧H s = some o∧StO o∧∀ t w du d0 d1 H' o' ps ts sts pr,But s H H'→H' s = some o'→StO o'→H' t = some (.tup [.ref w,.ref du])→jdu H' (.ref w) ps ts→WebOk ps ts→ps.length ≤ 20→StW ps ts sts pr→H' du = some (.lst [.ref d0,.ref d1])→H' d0 = some (.lst ((insS pr sts).map V.int))→H' d1 = some (.lst ((jc5 pr sts).map V.int))→Q (.ref t) H'
theorem jjr {f:Addr} {fd:FuncData} {f_law_take:Addr} {d_law_take:FuncData} {f_law_stars:Addr} {d_law_stars:FuncData} (B:Blt mg) (D:DefAt K mg "_law_drawn" (top 45) ["_law_state"] f fd) (D_law_take:DefAt K mg "_law_take" (top 43) ["_law_state","_law_many"] f_law_take d_law_take) (G_law_take:FnOk P w K mg base CX0 1 f_law_take d_law_take ["_law_state","_law_many"] jo4) (D_law_stars:DefAt K mg "_law_stars" (top 44) ["_law_state"] f_law_stars d_law_stars) (G_law_stars:FnOk P w K mg base CX0 2 f_law_stars d_law_stars ["_law_state"] jo5):FnOk P w K mg base CX0 3 f fd ["_law_state"] jof:=by
 have sc:FnScope ["_law_state","_law_great","_law_prices","_law_ties","_law_due","_law_star","_law_place","_law_others","_law_less"] ["_law_state"] (jba (top 45)):=⟨rfl,rfl,rfl,by decide +kernel,rfl,by decide +kernel,by decide +kernel⟩
 refine D.F.ok sc (fun vs H Q E h=>?_) (fun cdv A outer s H vs Q E hr h=>?_)
 ·obtain ⟨s,o,rfl,_⟩:=h
  rfl
 obtain ⟨st,o,rfl,es,so,h⟩:=h
 have hu:=jc7 hr
 have hu0:_ < PySem.cLine:=Nat.lt_of_succ_lt hu
 refine ⟨_,(jah (jbf (i:=1) sc.nd rfl (Or.inl rfl) (jbl q_ix (jcf (ja0 jaj (ja0 jaj (ja0 jaj (ja0 (jbw jt1 jaj jaj) jai))))) (jbe G_law_take (hr.mono (by decide)) rfl D_law_take.m D_law_take.F.kp D_law_take.b .nil jbs (ja0 (qv 0) (ja0 jaj jai))) (fun _ _=>rfl))) (jah (jbf (i:=2) sc.nd rfl (Or.inr rfl) jmc) (jah (jbf (i:=3) sc.nd rfl (Or.inl rfl) (jcf jai)) (jah (jbf (i:=4) sc.nd rfl (Or.inl rfl) (jcf (ja0 (jcf jai) (ja0 (jcf jai) jai)))) (jah (jd8 PassesOwn.never rfl (jbr (jbe G_law_stars (hr.mono (by decide)) rfl D_law_stars.m D_law_stars.F.kp D_law_stars.b .nil jbs (ja0 (qv 0) jai))) (jbb (i:=5) sc.nd rfl (Or.inr rfl)) (jah (jd8 PassesOwn.never rfl (jbr (qv 5)) (jbb (i:=6) sc.nd rfl (Or.inl rfl)) (jb9 (jh8 hu (qv 2) (qv 6) (jbw jd3 jaj (jbe G_law_take (hr.mono (by decide)) rfl D_law_take.m D_law_take.F.kp D_law_take.b .nil jbs (ja0 (qv 0) (ja0 (qv 1) jai))))))) (jah (jbf (i:=7) sc.nd rfl (Or.inl rfl) (jbk (q_sum rfl) rfl B.sum PyProof.Rows.boot_sum (ja0 (jc6 (CpScope.of (N:=["_law_place","_law_prices"]) (src:=[none,some 2]) (by rfl)) rfl (jbr (jfj jqt (qv 5) (jhy jaj) ji5)) (fun _ _ _ _=>(jbb (i:=0) (jbc (l:=["_law_place","_law_prices"]) (by rfl)) rfl (Or.inl rfl))) (fun _ _ _ _=>jci) (fun _ _ _ _=>(jd2 hu (qv 1) (qv 0) (fun _ _=>rfl)))) jai))) (jah (jdz (jd7 q_eq (jbe G_law_take (hr.mono (by decide)) rfl D_law_take.m D_law_take.F.kp D_law_take.b .nil jbs (ja0 (qv 0) (ja0 jaj jai))) jaj (jcc _)) (jb9 (jh8 hu (qv 2) (jbl q_ix (qv 5) jaj (fun _ _=>rfl)) (jbk (jt2 rfl) rfl B.max PyProof.Rows.boot_max (ja0 jaj (ja0 (jbw jt0 (jbw jd3 (qv 7) (jbe G_law_take (hr.mono (by decide)) rfl D_law_take.m D_law_take.F.kp D_law_take.b .nil jbs (ja0 (qv 0) (ja0 jaj jai)))) jaj) jai))))) jcd) (jah (jc1 (q_bm PySem.F.plainAttrs_list PySem.F.slot_list_extend PySem.F.type_list_extend jm3 (qv 3) (ja0 (jc6 (CpScope.of (N:=["_law_place","_law_star"]) (src:=[none,some 5]) (by rfl)) rfl (jbr (jfj jqt (qv 5) (jhy jaj) ji5)) (fun _ _ _ _=>(jbb (i:=0) (jbc (l:=["_law_place","_law_star"]) (by rfl)) rfl (Or.inl rfl))) (fun _ _ _ _=>jci) (fun _ _ _ _=>(jc4 (ja0 (jbk (q_min rfl) rfl B.min PyProof.Rows.boot_min (ja0 (jbl q_ix (qv 1) jaj (fun _ _=>rfl)) (ja0 (qv 0) jai))) (ja0 (jbk (jt2 rfl) rfl B.max PyProof.Rows.boot_max (ja0 (jbl q_ix (qv 1) jaj (fun _ _=>rfl)) (ja0 (qv 0) jai))) jai))))) jai))) (jb9 (jdz (jd7 q_ne (jd2 hu (qv 2) (jbl q_ix (qv 5) jaj (fun _ _=>rfl)) (fun _ _=>rfl)) (qv 7) (jcc _)) (jah (jbf (i:=8) sc.nd rfl (Or.inl rfl) (jcx q_int1 rfl B.int PyProof.Rows.boot_int (ja0 (je3 q_gt (jd2 hu (qv 2) (jbl q_ix (qv 5) jaj (fun _ _=>rfl)) (fun _ _=>rfl)) (qv 7) (jcc _)) jai))) (jah (jc1 (q_bm PySem.F.plainAttrs_list PySem.F.slot_list_append PySem.F.type_list_append jch (jbl q_ix (qv 4) (qv 8) (fun _ _=>rfl)) (ja0 (jbl q_ix (qv 5) jaj (fun _ _=>rfl)) jai))) (jb9 (jc1 (q_bm PySem.F.plainAttrs_list PySem.F.slot_list_extend PySem.F.type_list_extend jm3 (jbl q_ix (qv 4) (jbw jt0 jaj (qv 8)) (fun _ _=>rfl)) (ja0 (jfj jqt (qv 5) (jhy jaj) ji5) jai)))))) jcd))))))) (jb9 (jbq (jc4 (ja0 (jc4 (ja0 (jc6 (CpScope.of (N:=["_law_place","_law_prices"]) (src:=[none,some 2]) (by rfl)) rfl (jbr (jbk jf6 rfl B.sorted PyProof.Rows.boot_sorted (ja0 (jcx (jnk rfl) rfl B.list PyProof.Rows.boot_list (ja0 (qv 2) jai)) jai))) (fun _ _ _ _=>(jbb (i:=0) (jbc (l:=["_law_place","_law_prices"]) (by rfl)) rfl (Or.inl rfl))) (fun _ _ _ _=>jci) (fun _ _ _ _=>(jc4 (ja0 (qv 0) (ja0 (jd2 hu (qv 1) (qv 0) (fun _ _=>rfl)) jai))))) (ja0 (jbk jnj rfl B.sorted PyProof.Rows.boot_sorted (ja0 (qv 3) jai)) jai))) (ja0 (qv 4) jai)))))))))),?_⟩
 refine jb8 fun R hR=>?_
 walk_at "ND"
 refine ⟨⟨by decide,by decide,by decide⟩,?_⟩
 intro p1 hp1
 have np:p1 ≠ st:=(ja5 es hp1).symm
 refine ⟨st,o,4,rfl,(by rw [jas np.symm]; exact es),so,by decide,by decide,fun kind o1 k0 k1 so1=>?_⟩
 obtain ⟨gr,eg,g0,g1⟩:∃ v,atI [V.int 1,.int 3,.int 9,.int (10 ^ Int.toNat 10)] kind = some (.int v)∧1 ≤ v∧v ≤ 10000000000:=by
  obtain ⟨v,ev,hv⟩:=menu4 (a:=1) (b:=3) (c:=9) (e:=10 ^ Int.toNat 10) k0 k1
  rw [p10] at hv
  exact ⟨v,ev,by omega,by omega⟩
 simp_all_arith [jbo,jas np,ja1,eg]
 have b1:But st H (upd (upd H p1 (.lst [.int 1,.int 3,.int 9,.int (10 ^ Int.toNat 10)])) st o1):=(But.new hp1).trans (But.at _ _ _)
 have e1:(upd (upd H p1 (.lst [.int 1,.int 3,.int 9,.int (10 ^ Int.toNat 10)])) st o1) st = some o1:=ja1
 generalize upd (upd H p1 (.lst [.int 1,.int 3,.int 9,.int (10 ^ Int.toNat 10)])) st o1 = H1 at b1 e1
 subst hR
 refine jb8 fun R hR=>?_
 walk_at "ND"
 intro dl hdl
 have q2:=jag hdl (.dK [])
 have edl:upd H1 dl (.dK []) dl = some (.dK []):=ja1
 have b2:=b1.same q2
 have es2:=q2 _ _ e1
 have s1:st ≠ dl:=ja5 e1 hdl
 have fdl:H dl = none:=b1.free s1.symm hdl
 generalize upd H1 dl (.dK []) = H2 at q2 edl b2 es2
 subst hR
 refine jb8 fun R hR=>?_
 walk_at "ND"
 intro tl htl
 have q3:=jag htl (.lst [])
 have etl:upd H2 tl (.lst []) tl = some (.lst []):=ja1
 have edl3:=q3 _ _ edl
 have b3:=b2.same q3
 have es3:=q3 _ _ es2
 have s2:st ≠ tl:=ja5 es2 htl
 have l2:dl ≠ tl:=ja5 edl htl
 have ftl:H tl = none:=b2.free s2.symm htl
 generalize upd H2 tl (.lst []) = H3 at q3 etl edl3 b3 es3
 subst hR
 refine jb8 fun R hR=>?_
 walk_at "ND"
 intro d0 hd0
 have q4:=jag hd0 (.lst [])
 have ed0:upd H3 d0 (.lst []) d0 = some (.lst []):=ja1
 have edl4:=q4 _ _ edl3
 have etl4:=q4 _ _ etl
 have b4:=b3.same q4
 have es4:=q4 _ _ es3
 have s4:st ≠ d0:=ja5 es3 hd0
 have l4:dl ≠ d0:=ja5 edl3 hd0
 have t4:tl ≠ d0:=ja5 etl hd0
 have fd0:H d0 = none:=b3.free s4.symm hd0
 generalize upd H3 d0 (.lst []) = H4 at q4 ed0 edl4 etl4 b4 es4
 walk_at "ND"
 intro d1 hd1
 have q5:=jag hd1 (.lst [])
 have ed1:upd H4 d1 (.lst []) d1 = some (.lst []):=ja1
 have edl5:=q5 _ _ edl4
 have etl5:=q5 _ _ etl4
 have ed05:=q5 _ _ ed0
 have b5:=b4.same q5
 have es5:=q5 _ _ es4
 have s5:st ≠ d1:=ja5 es4 hd1
 have l5:dl ≠ d1:=ja5 edl4 hd1
 have t5:tl ≠ d1:=ja5 etl4 hd1
 have a5:d0 ≠ d1:=ja5 ed0 hd1
 have fd1:H d1 = none:=b4.free s5.symm hd1
 generalize upd H4 d1 (.lst []) = H5 at q5 ed1 edl5 etl5 ed05 b5 es5
 walk_at "ND"
 first
 | refine ⟨szl (by decide),?_⟩
 | skip
 intro du hdu
 have q6:=jag hdu (.lst [.ref d0,.ref d1])
 have edu:upd H5 du (.lst [.ref d0,.ref d1]) du = some (.lst [.ref d0,.ref d1]):=ja1
 have edl6:=q6 _ _ edl5
 have etl6:=q6 _ _ etl5
 have ed06:=q6 _ _ ed05
 have ed16:=q6 _ _ ed1
 have b6:=b5.same q6
 have es6:=q6 _ _ es5
 have s3:st ≠ du:=ja5 es5 hdu
 have l3:dl ≠ du:=ja5 edl5 hdu
 have t3:tl ≠ du:=ja5 etl5 hdu
 have u4:du ≠ d0:=(ja5 ed05 hdu).symm
 have u5:du ≠ d1:=(ja5 ed1 hdu).symm
 have fdu:H du = none:=b5.free s3.symm hdu
 generalize upd H5 du (.lst [.ref d0,.ref d1]) = H6 at q6 edu edl6 etl6 ed06 ed16 b6 es6
 subst hR
 refine jb8 fun R hR=>?_
 refine jeu (ι:=Addr × List V × List (List Int) × HO × Hp) (fun y=>Itl K y.1) (fun y=>y.2.2.2.2) (fun y=>But st H6 y.2.2.2.2∧y.2.2.2.2 st = some y.2.2.2.1∧StO y.2.2.2.1∧H6 y.1 = none∧y.2.2.2.2 y.1 = some (.lst y.2.1)∧Paired (LsF H6 y.2.2.2.2) y.2.1 y.2.2.1∧Sts y.2.2.1∧(∀ n ∈ y.2.2.1.flatten,0 ≤ n∧n ≤ 900)∧y.2.2.1.flatten.length ≤ 20) (fun R' hR'=>?_) ?_
 ·unfold jcs
  walk_at "ND"
  refine ⟨st,o1,rfl,es6,so1,fun l H' o' zs sts bb ee ss fz ez pz S hn hl=>?_⟩
  exact ⟨l,rfl,⟨_,SqL.of ez⟩,hR' (l,zs,sts,o',H') ⟨bb,ee,ss,fz,ez,pz,S,hn,hl⟩⟩
 rintro ⟨zl,zs,sts,o7,H7⟩ ⟨b67,es7,so7,fzl6,ezl,pzl,S,hn9,hl20⟩
 dsimp only at b67 es7 so7 fzl6 ezl pzl S hn9 hl20
 have Ap:Apart st dl tl du d0 d1 zl:=⟨s1,s2,s3,s4,s5,ja5 es6 fzl6,l2,l3,l4,l5,ja5 edl6 fzl6,t3,t4,t5,ja5 etl6 fzl6,u4,u5,a5,ja5 ed06 fzl6,ja5 ed16 fzl6⟩
 have fzl:H zl = none:=b6.free (ja5 es6 fzl6).symm fzl6
 have W7:Dw H7 st dl tl du d0 d1 zl zs sts o7 (kdp (fun _=>0) []) [] [] []:=by
  refine ⟨es7,so7,b67 _ _ s1.symm edl6,b67 _ _ s2.symm etl6,b67 _ _ s3.symm edu,b67 _ _ s4.symm ed06,b67 _ _ s5.symm ed16,ezl,Paired.imp' (fun v r ⟨a,e,n,q⟩=>⟨a,e,?_,q⟩) pzl⟩
  have x0:=ja5 es6 n
  have x1:=ja5 edl6 n
  have x2:=ja5 etl6 n
  have x3:=ja5 ed06 n
  have x4:=ja5 ed16 n
  simp [x0.symm,x1.symm,x2.symm,x3.symm,x4.symm]
 have b7:But st H H7:=b6.trans b67
 have hzl:=Paired.length pzl
 have G7:=b1
 clear q2 q3 q4 q5 q6 edl edl3 edl4 edl5 edl6 etl etl4 etl5 etl6 ed0 ed05 ed06 ed1 ed16 edu es2 es3 es4 es5 es6 b1 b2 b3 b4 b5 b6 b67 e1 hdl htl hd0 hd1 hdu pzl ezl es7 G7 fzl6 s1 s2 s3 s4 s5 l2 l3 l4 l5 t3 t4 t5 u4 u5 a5 hp1 np
 refine jcv (K:=K) (a:=zl) (xs:=zs) (fun i σ Hc=>∃ w5 w6 w7 w8 pr ws oc,σ = [some (.ref st),some (.int gr),some (.ref dl),some (.ref tl),some (.ref du),w5,w6,w7,w8]∧But st H Hc∧Dw Hc st dl tl du d0 d1 zl zs sts oc (kdp pr (sts.take i).flatten) ws (insS pr (sts.take i)) (jc5 pr (sts.take i))∧Prs Hc ws (je2 (sts.take i))∧(∀ n ∈ (sts.take i).flatten,1 ≤ pr n)∧((sts.take i).flatten.map pr).sum ≤ 20000000001 * ((sts.take i).flatten.length:Int)) ⟨none,none,none,none,fun _=>0,[],o7,rfl,b7,W7,.nil,fun n hn=>by simp at hn,by simp⟩ (fun i σ Hc _ ⟨_,_,_,_,_,_,_,_,_,w,_⟩=>SqL.of w.ez) ?_ ?_
 ·rintro i y σ Hc hy ⟨w5,w6,w7,w8,pr,ws,oc,rfl,bc,Wc,pw,hp1,hsum⟩
  obtain ⟨s,hs,ps⟩:=jbi Wc.pz hy
  have hsm:=List.mem_of_getElem? hs
  have hsne:=S.ne s hsm
  have hi:i < zs.length:=(List.getElem?_eq_some_iff.mp hy).1
  obtain ⟨a,rfl,na,_⟩:=ps
  have na0:a ≠ d0:=fun z=>na (by rw [z]; simp)
  have na1:a ≠ d1:=fun z=>na (by rw [z]; simp)
  have fnd:=jsv S.nd (i + 1)
  rw [jdq hs] at fnd
  obtain ⟨fn1,fn2,fn3⟩:=List.nodup_append.mp fnd
  have hfl:((sts.take i).flatten ++ s).length ≤ 20:=by
   have:=jqi sts (i + 1)
   rw [jdq hs] at this
   omega
  rw [List.length_append] at hfl
  generalize hF:(sts.take i).flatten = F at *
  generalize hI:insS pr (sts.take i) = I at *
  generalize hO:jc5 pr (sts.take i) = O at *
  have hIO:∀ pr2:Int→Int,(∀ n ∈ F,pr2 n = pr n)→insS pr2 (sts.take i) = I∧jc5 pr2 (sts.take i) = O:=fun pr2 h2=>by
   have:=jne (pr:=pr2) (pr':=pr) (sts:=sts.take i) (fun s hs=>S.ne s (List.mem_of_mem_take hs)) (by rw [hF]; exact h2)
   rw [this.1,this.2]
   exact ⟨hI,hO⟩
  simp only [jak,List.set_cons_zero,List.set_cons_succ]
  refine jb8 fun R9 hR9=>?_
  refine jce (Itl K a) Hc (fun R' hR'=>?_) (jcv (K:=K) (a:=a) (xs:=s.map V.int) (fun j σ Hd=>∃ w6 pr' od,σ = [some (.ref st),some (.int gr),some (.ref dl),some (.ref tl),some (.ref du),some (.ref a),w6,w7,w8]∧But st H Hd∧Dw Hd st dl tl du d0 d1 zl zs sts od (kdp pr' (F ++ s.take j)) ws I O∧Prs Hd ws (je2 (sts.take i))∧(∀ n ∈ F,pr' n = pr n)∧∀ n ∈ s.take j,1 ≤ pr' n∧pr' n ≤ 10000000000) ⟨w6,pr,oc,rfl,bc,by rw [List.take_zero,List.append_nil]; exact Wc,pw,fun _ _=>rfl,fun n hn=>by simp at hn⟩ (fun j σ Hd _ ⟨_,_,_,_,_,w,_⟩=>SqL.of (w.star hy hs)) ?_ ?_)
  ·unfold jcs
   walk_at "ND"
   exact ⟨a,rfl,⟨_,SqL.of (Wc.star hy hs)⟩,hR'⟩
  ·rintro j y σ Hd hj ⟨w6,pr',od,rfl,bd,Wd,pwd,hp2,hp3⟩
   rw [List.getElem?_map] at hj
   obtain ⟨n,hn1,rfl⟩:=Option.map_eq_some_iff.mp hj
   have hnm:=List.mem_of_getElem? hn1
   have hjl:=(List.getElem?_eq_some_iff.mp hn1).1
   have nF:n ∉ F:=fun z=>fn3 n z n hnm rfl
   have nT:n ∉ s.take j:=jmw fn2 hn1
   have hnew:n ∉ F ++ s.take j:=fun z=>(List.mem_append.mp z).elim nF nT
   walk_at "ND"
   refine ⟨st,od,gr,rfl,Wd.es,Wd.so,by omega,by omega,fun d o4 dd0 dd1 so4=>?_⟩
   have W4:=Wd.st' Ap so4
   have b4:=bd.updS (o':=o4)
   have t4:TupS Hd (upd Hd st o4):=(But.at st Hd o4).tups Wd.es Wd.so.imm
   generalize upd Hd st o4 = H4 at W4 b4 t4
   simp_all_arith [W4.ed,jts hnew]
   refine ⟨?_,?_⟩
   ·unfold kdp
    rw [List.length_map,List.length_append,List.length_take]
    exact szl' (by omega)
   have W5:=W4.dl' Ap (kdp (upf pr' n (1 + d)) ((F ++ s.take j) ++ [n]))
   rw [List.append_assoc] at W5 ⊢
   have e5:s.take j ++ [n] = s.take (j + 1):=(jbj hn1).symm
   rw [e5] at W5 ⊢
   refine ⟨_,_,o4,rfl,b4.updf fdl,W5,Prs.tups (t4.trans (jkp W4.ed)) pwd,fun m hm=>?_,fun m hm=>?_⟩
   ·rw [jh3 _ (fun z=>nF (by rw [← z]; exact hm))]
    exact hp2 m hm
   ·rw [← e5] at hm
    rcases List.mem_append.mp hm with hm | hm
    ·rw [jh3 _ (fun z=>nT (by rw [← z]; exact hm))]
     exact hp3 m hm
    ·rw [List.mem_singleton.mp hm,je9]
     omega
  rintro σ Hd ⟨w6,pr',od,rfl,bd,Wd,pwd,hp2,hp3⟩
  rw [List.length_map,List.take_length] at Wd hp3
  have sc:=jc3 hsne
  have hcs:cen s ∈ s:=by rw [sc]; exact List.mem_cons_self ..
  have a0:atI (s.map V.int) 0 = some (.int (cen s)):=by rw [sc]; exact at0
  have htl:∀ n ∈ s.tail,n ∈ s:=fun n hn=>List.mem_of_mem_tail hn
  have inFs:∀ n ∈ s,n ∈ F ++ s:=fun n hn=>List.mem_append_right _ hn
  have hstl:s.length = s.tail.length + 1:=by conv=>lhs; rw [sc]; rw [List.length_cons]
  have ctl:cen s ∉ s.tail:=(jdy hsne fn2).2
  refine (?_:R9 _ _ _)
  subst hR9
  refine jb8 fun R9 hR9=>?_
  have ea:=Wd.star hy hs
  walk_at "ND"
  refine jd6 (ι:=Addr × Hp) (fun y=>Itl K y.1) (fun y=>y.2) (fun y=>Same Hd y.2∧y.2 y.1 = some (.lst (s.tail.map V.int))) (fun R2 hR2=>?_) ?_
  ·unfold jcs
   simp_all_arith [ea]
   intro p hp
   rw [jfg]
   exact ⟨p,rfl,⟨_,SqL.of ja1⟩,hR2 (p,_) ⟨jag hp _,ja1⟩⟩
  rintro ⟨tp,H8⟩ ⟨s8,etp⟩ z hz0
  dsimp only at s8 etp hz0 ⊢
  refine jbu s.tail.length (fun j σ' He=>∃ w1,σ' = [w1,some (.ref dl)]∧Same H8 He∧He z = some (.lst (((s.tail.take j).map pr').map V.int))) ⟨none,rfl,jag hz0 _,ja1⟩ ?_ ?_
  ·rintro j σ' He hj ⟨w1,rfl,s9,ez⟩
   have hj0:s.tail[j]? = some s.tail[j]:=List.getElem?_eq_getElem hj
   have hjm:=List.getElem_mem hj
   generalize s.tail[j] = n at hj0 hjm
   have hj1:(s.tail.map V.int)[j]? = some (.int n):=by rw [List.getElem?_map,hj0]; rfl
   have z1:SqL K He tp (s.tail.map V.int):=SqL.of (s9 _ _ etp)
   refine ⟨⟨_,_,z1,hj1⟩,?_⟩
   rintro y H' ⟨rfl,hy'⟩
   have:=hy' _ z1
   rw [hj1] at this
   cases this
   have ev:=jik (pr:=pr') (inFs n (htl n hjm))
   simp_all_arith [(s8.trans s9) _ _ Wd.ed,ev]
   refine ⟨_,ez,?_,_,rfl,jbh s9 hz0,?_⟩
   ·rw [List.length_map,List.length_map,List.length_take]
    exact szl' (by omega)
   ·rw [ja1,jbj hj0,List.map_append,List.map_append]
    rfl
  rintro σ' He ⟨w1,rfl,s9,ez⟩
  refine ⟨⟨_,SqL.of (s9 _ _ etp),by rw [List.length_map]; exact Nat.le_refl _⟩,?_⟩
  rw [List.take_length] at ez
  walk_at "ND"
  refine ⟨z,_,rfl,ez,?_⟩
  have We:=Wd.same (s8.trans s9)
  have be:=bd.same (s8.trans s9)
  have pwe:=Prs.same (s8.trans s9) pwd
  have hoth:oth pr' s ≤ 10000000000 * (s.tail.length:Int):=oth_le fun n hn=>(hp3 n (htl n hn)).2
  rw [show (s.tail.map pr').sum = oth pr' s from rfl]
  clear s8 s9 etp ez hz0 Wd bd pwd ea
  subst hR9
  refine joh fun R9 E9 hR9 hE9=>?_
  have fin:∀ pr2 o2 H2,But st H H2→Dw H2 st dl tl du d0 d1 zl zs sts o2 (kdp pr2 (F ++ s)) ws I O→Prs H2 ws (je2 (sts.take i))→(∀ n ∈ F,pr2 n = pr n)→(∀ n ∈ s.tail,pr2 n = pr' n)→1 ≤ pr2 (cen s)→pr2 (cen s) + oth pr' s ≤ 20000000001 * (s.length:Int)→R9 E9 [some (.ref st),some (.int gr),some (.ref dl),some (.ref tl),some (.ref du),some (.ref a),w6,some (.int (oth pr' s)),w8] H2:=by
   intro pr2 o2 H2 bb W2 pw2 hpF hpT hp1c hpS
   subst hR9
   subst hE9
   have ho2:oth pr2 s = oth pr' s:=Fl.sum_congr fun n hn=>hpT n hn
   have ea:=W2.star hy hs
   have htok:(je2 (sts.take i)).length ≤ F.length:=by rw [← hF]; exact jfu (fun s hs=>S.ne s (List.mem_of_mem_take hs))
   have hwsl:=Paired.length pw2
   refine jb8 fun R9 hR9=>?_
   walk_at "ND"
   refine ⟨⟨tl,ws,rfl,W2.et⟩,?_⟩
   refine jd6 (ι:=Addr × Hp) (fun y=>Itl K y.1) (fun y=>y.2) (fun y=>Same H2 y.2∧y.2 y.1 = some (.lst (s.tail.map V.int))) (fun R2 hR2=>?_) ?_
   ·unfold jcs
    simp_all_arith [ea]
    intro p hp
    rw [jfg]
    exact ⟨p,rfl,⟨_,SqL.of ja1⟩,hR2 (p,_) ⟨jag hp _,ja1⟩⟩
   rintro ⟨tp,H8⟩ ⟨s8,etp⟩ z hz0
   dsimp only at s8 etp hz0 ⊢
   refine jbu s.tail.length (fun j σ' He=>∃ w1 vs,σ' = [w1,some (.ref a)]∧Same H8 He∧He z = some (.lst vs)∧Prs He vs ((s.tail.take j).map fun l=>(min (cen s) l,max (cen s) l))) ⟨none,[],rfl,jag hz0 _,ja1,.nil⟩ ?_ ?_
   ·rintro j σ' He hj ⟨w1,vs,rfl,s9,ez,pv⟩
    have hj0:s.tail[j]? = some s.tail[j]:=List.getElem?_eq_getElem hj
    generalize s.tail[j] = n at hj0
    have hj1:(s.tail.map V.int)[j]? = some (.int n):=by rw [List.getElem?_map,hj0]; rfl
    have z1:SqL K He tp (s.tail.map V.int):=SqL.of (s9 _ _ etp)
    refine ⟨⟨_,_,z1,hj1⟩,?_⟩
    rintro y H' ⟨rfl,hy'⟩
    have:=hy' _ z1
    rw [hj1] at this
    cases this
    have hvl:vs.length ≤ j:=by
     rw [Paired.length pv,List.length_map,List.length_take]
     exact Nat.min_le_left _ _
    simp_all_arith [jbo,(s8.trans s9) _ _ ea,a0,mn_eq,mx_eq]
    intro t5 ht5
    have q5:=jag ht5 (.tup [.int (min (cen s) n),.int (max (cen s) n)])
    have ez5:=q5 _ _ ez
    have t6:=jbt (ys:=vs ++ [.ref t5]) ez5
    refine ⟨vs,ez5,szl' (by omega),_,vs ++ [.ref t5],rfl,jbh (s9.trans q5) hz0,ja1,?_⟩
    rw [jbj hj0,List.map_append]
    exact jbn (Prs.tups t6 (Prs.same q5 pv)) ⟨t5,rfl,t6 _ _ rfl ja1⟩
   rintro σ' He ⟨w1,vs,rfl,s9,ez,pv⟩
   refine ⟨⟨_,SqL.of (s9 _ _ etp),by rw [List.length_map]; exact Nat.le_refl _⟩,?_⟩
   rw [List.take_length] at pv
   have hvl:=Paired.length pv
   rw [List.length_map] at hvl
   have s29:=s8.trans s9
   refine ⟨tl,z,ws,vs,rfl,rfl,s29 _ _ W2.et,ez,szl (by omega),?_⟩
   have W3:=(W2.same s29).tl' Ap (ws ++ vs)
   have t3:=jbt (ys:=ws ++ vs) (s29 _ _ W2.et)
   have b3:=(bb.same s29).updf (o':=.lst (ws ++ vs)) ftl
   have pw3:=je4 (Prs.tups t3 (Prs.same s29 pw2)) (Prs.tups t3 pv)
   generalize upd He tl (.lst (ws ++ vs)) = H3 at W3 t3 b3 pw3
   clear s8 s9 s29 etp ez hz0 t3 pv ea bb W2 pw2
   have ea:=W3.star hy hs
   have ev:=jik (pr:=pr2) (inFs _ hcs)
   have done:∀ (w8:Option V) (H4:Hp),But st H H4→Dw H4 st dl tl du d0 d1 zl zs sts o2 (kdp pr2 (F ++ s)) (ws ++ vs) (I ++ inS1 pr2 s) (O ++ jd0 pr2 s)→TupS H3 H4→∃ w5 w6' w7 w8' pr ws oc,[some (V.ref st),some (V.int gr),some (V.ref dl),some (V.ref tl),some (V.ref du),some (V.ref a),w6,some (V.int (oth pr' s)),w8] = [some (V.ref st),some (V.int gr),some (V.ref dl),some (V.ref tl),some (V.ref du),w5,w6',w7,w8']∧But st H H4∧Dw H4 st dl tl du d0 d1 zl zs sts oc (kdp pr (sts.take (i + 1)).flatten) ws (insS pr (sts.take (i + 1))) (jc5 pr (sts.take (i + 1)))∧Prs H4 ws (je2 (sts.take (i + 1)))∧(∀ n ∈ (sts.take (i + 1)).flatten,1 ≤ pr n)∧((sts.take (i + 1)).flatten.map pr).sum ≤ 20000000001 * ((sts.take (i + 1)).flatten.length:Int):=fun w8 H4 b4 W4 t4=>by
    obtain ⟨c1,c2⟩:=hIO pr2 hpF
    refine ⟨_,_,_,_,pr2,ws ++ vs,o2,rfl,b4,?_,?_,fun n hn=>?_,?_⟩
    ·rw [jdq hs,hF]
     have d1':insS pr2 (sts.take (i + 1)) = I ++ inS1 pr2 s:=by rw [← c1]; exact jdr _ hs
     have d2':jc5 pr2 (sts.take (i + 1)) = O ++ jd0 pr2 s:=by rw [← c2]; exact jdr _ hs
     rw [d1',d2']
     exact W4
    ·unfold je2
     rw [jdr _ hs]
     exact Prs.tups t4 pw3
    ·rw [jdq hs,hF] at hn
     rcases List.mem_append.mp hn with hn | hn
     ·rw [hpF n hn]
      exact hp1 n hn
     ·rw [sc] at hn
      rcases List.mem_cons.mp hn with rfl | hn
      ·exact hp1c
      ·rw [hpT n hn]
       exact (hp3 n (htl n hn)).1
    ·rw [jdq hs,hF,List.map_append,List.sum_append,List.length_append]
     have e1:(F.map pr2).sum = (F.map pr).sum:=Fl.sum_congr fun n hn=>hpF n hn
     have e2:(s.map pr2).sum = pr2 (cen s) + oth pr' s:=by
      conv=>lhs; rw [sc]
      rw [List.map_cons,List.sum_cons,← ho2]
      rfl
     rw [e1,e2]
     omega
   subst hR9
   simp_all_arith [jbo,ea,a0,W3.ed,ev]
   by_cases ce:pr2 (cen s) = oth pr' s
   ·rw [decide_eq_true ce]
    walk_at "ND"
    refine done _ _ b3 ?_ (TupS.refl _)
    unfold inS1 jd0
    rw [ho2,if_neg (by omega),if_neg (by omega),if_neg (by omega),if_neg (by omega),List.append_nil,List.append_nil]
    exact W3
   ·rw [decide_eq_false ce]
    have hIl:I.length ≤ 20∧O.length ≤ 20:=by
     have h1:=jio (pr:=pr) (sts:=sts.take i) fun s hs=>S.ne s (List.mem_of_mem_take hs)
     rw [hI,hO,hF] at h1
     omega
    by_cases cl:pr2 (cen s) < oth pr' s
    ·have dg:decide (pr2 (cen s) > oth pr' s) = false:=decide_eq_false (by omega)
     have f1:upd H3 d0 (.lst (I.map V.int ++ [.int (cen s)])) du = some (.lst [.ref d0,.ref d1]):=by rw [jas Ap.u4]; exact W3.edu
     have f2:upd H3 d0 (.lst (I.map V.int ++ [.int (cen s)])) a = some (.lst (s.map V.int)):=by rw [jas na0]; exact ea
     have f3:upd H3 d0 (.lst (I.map V.int ++ [.int (cen s)])) d1 = some (.lst (O.map V.int)):=by rw [jas Ap.a5.symm]; exact W3.e1
     simp_all_arith [jbo,ea,a0,W3.ed,ev,dg,W3.edu,at0,at1,Int.sub_zero,Int.sub_self,W3.e0,f1,f2,f3]
     refine ⟨⟨d0,_,rfl,W3.e0⟩,by rw [List.length_map]; exact szl' (by omega),⟨d1,_,rfl,f3⟩,?_⟩
     intro p hp
     rw [jfg]
     have W4:=W3.d0' Ap (I ++ [cen s])
     rw [List.map_append] at W4
     have t4:=jbt (ys:=I.map V.int ++ [.int (cen s)]) W3.e0
     have b4:=b3.updf (o':=.lst (I.map V.int ++ [.int (cen s)])) fd0
     have W4:Dw (upd H3 d0 (.lst (I.map V.int ++ [.int (cen s)]))) st dl tl du d0 d1 zl zs sts o2 (kdp pr2 (F ++ s)) (ws ++ vs) (I ++ [cen s]) O:=W4
     generalize upd H3 d0 (.lst (I.map V.int ++ [.int (cen s)])) = H4 at *
     have q5:=jag hp (.lst (s.tail.map V.int))
     have ep:upd H4 p (.lst (s.tail.map V.int)) p = some (.lst (s.tail.map V.int)):=ja1
     have W5:=W4.same q5
     have b5:=b4.same q5
     generalize upd H4 p (.lst (s.tail.map V.int)) = H5 at q5 ep W5 b5
     refine ⟨d1,p,_,_,rfl,rfl,W5.e1,ep,by rw [List.length_map,List.length_map]; exact szl (by omega),?_⟩
     rw [← List.map_append]
     refine done _ _ (b5.updf fd1) ?_ (t4.trans (q5.tups.trans (jbt W5.e1)))
     have W6:=W5.d1' Ap (O ++ s.tail)
     unfold inS1 jd0
     rw [ho2]
     rw [if_pos cl,if_pos cl]
     exact W6
    ·have dg:decide (pr2 (cen s) > oth pr' s) = true:=decide_eq_true (by omega)
     have f1:upd H3 d1 (.lst (O.map V.int ++ [.int (cen s)])) du = some (.lst [.ref d0,.ref d1]):=by rw [jas Ap.u5]; exact W3.edu
     have f2:upd H3 d1 (.lst (O.map V.int ++ [.int (cen s)])) a = some (.lst (s.map V.int)):=by rw [jas na1]; exact ea
     have f3:upd H3 d1 (.lst (O.map V.int ++ [.int (cen s)])) d0 = some (.lst (I.map V.int)):=by rw [jas Ap.a5]; exact W3.e0
     simp_all_arith [jbo,ea,a0,W3.ed,ev,dg,W3.edu,at0,at1,Int.sub_zero,Int.sub_self,W3.e1,f1,f2,f3]
     refine ⟨⟨d1,_,rfl,W3.e1⟩,by rw [List.length_map]; exact szl' (by omega),⟨d0,_,rfl,f3⟩,?_⟩
     intro p hp
     rw [jfg]
     have W4:=W3.d1' Ap (O ++ [cen s])
     rw [List.map_append] at W4
     have t4:=jbt (ys:=O.map V.int ++ [.int (cen s)]) W3.e1
     have b4:=b3.updf (o':=.lst (O.map V.int ++ [.int (cen s)])) fd1
     have W4:Dw (upd H3 d1 (.lst (O.map V.int ++ [.int (cen s)]))) st dl tl du d0 d1 zl zs sts o2 (kdp pr2 (F ++ s)) (ws ++ vs) I (O ++ [cen s]):=W4
     generalize upd H3 d1 (.lst (O.map V.int ++ [.int (cen s)])) = H4 at *
     have q5:=jag hp (.lst (s.tail.map V.int))
     have ep:upd H4 p (.lst (s.tail.map V.int)) p = some (.lst (s.tail.map V.int)):=ja1
     have W5:=W4.same q5
     have b5:=b4.same q5
     generalize upd H4 p (.lst (s.tail.map V.int)) = H5 at q5 ep W5 b5
     refine ⟨d0,p,_,_,rfl,rfl,W5.e0,ep,by rw [List.length_map,List.length_map]; exact szl (by omega),?_⟩
     rw [← List.map_append]
     refine done _ _ (b5.updf fd0) ?_ (t4.trans (q5.tups.trans (jbt W5.e0)))
     have W6:=W5.d0' Ap (I ++ s.tail)
     unfold inS1 jd0
     rw [ho2]
     rw [if_neg (show ¬ pr2 (cen s) < oth pr' s by omega),if_pos (show oth pr' s < pr2 (cen s) by omega),if_neg (show ¬ pr2 (cen s) < oth pr' s by omega),if_pos (show oth pr' s < pr2 (cen s) by omega)]
     exact W6
  walk_at "ND"
  refine ⟨st,od,2,rfl,We.es,We.so,by decide,by decide,fun d o4 dd0 dd1 so4=>?_⟩
  have W4:=We.st' Ap so4
  have b4:=be.updS (o':=o4)
  have t4:TupS He (upd He st o4):=(But.at st He o4).tups We.es We.so.imm
  have pw4:=Prs.tups t4 pwe
  generalize upd He st o4 = H4 at W4 b4 t4 pw4
  walk_at "ND"
  have hpc:=hp3 _ hcs
  refine ite2 (fun c=>?_) (fun c=>?_)
  ·walk_at "ND"
   refine ⟨st,o4,3,rfl,W4.es,W4.so,by decide,by decide,fun d5 o5 f0 f1 so5=>?_⟩
   have W5:=W4.st' Ap so5
   have b5:=b4.updS (o':=o5)
   have t5:TupS H4 (upd H4 st o5):=(But.at st H4 o5).tups W4.es W4.so.imm
   have pw5:=Prs.tups t5 pw4
   generalize upd H4 st o5 = H5 at W5 b5 t5 pw5
   simp_all_arith [jbo,W5.star hy hs,a0,W5.ed,jtr (inFs _ hcs)]
   refine ⟨by unfold kdp; rw [List.length_map,List.length_append]; exact szl' (by omega),?_⟩
   refine fin _ o5 _ (b5.updf fdl) (W5.dl' Ap _) (Prs.tups (jkp W5.ed) pw5) (fun n hn=>?_) (fun n hn=>?_) ?_ ?_
   ·rw [jh3 _ (fun z=>fn3 n hn (cen s) hcs z)]
    exact hp2 n hn
   ·exact jh3 _ (fun z=>ctl (by rw [← z]; exact hn))
   ·rw [je9]
    split <;> omega
   ·rw [je9]
    split <;> omega
  ·exact fin pr' o4 H4 b4 W4 pw4 hp2 (fun _ _=>rfl) hpc.1 (by omega)
 ·rintro σ Hc ⟨w5,w6,w7,w8,pr,ws,oc,rfl,bc,Wc,pw,hp1,hsum⟩
  rw [List.take_of_length_le (by omega)] at Wc pw hp1 hsum
  refine (?_:R _ _ _)
  subst hR
  have htl20:=jfu S.ne
  have hwsl:=Paired.length pw
  walk_at "ND"
  refine jd6 (ι:=Addr × List Int × Hp) (fun y=>Itl K y.1) (fun y=>y.2.2) (fun y=>Same Hc y.2.2∧y.2.2 y.1 = some (.lst (y.2.1.map V.int))∧y.2.1.Perm sts.flatten∧y.2.1.Pairwise (· ≤ ·)) (fun R2 hR2=>?_) ?_
  ·unfold jcs
   walk_at "ND"
   refine ⟨dl,_,rfl,Wc.ed,fun l0 hl0=>?_⟩
   rw [jrd]
   refine ⟨l0,sts.flatten,rfl,ja1,by omega,fun l1 ms hl1 pm sm=>?_⟩
   exact ⟨l1,rfl,⟨_,SqL.of ja1⟩,hR2 (l1,ms,_) ⟨(jag hl0 _).trans (jag hl1 _),ja1,pm,sm⟩⟩
  rintro ⟨ml,ms,H8⟩ ⟨s8,eml,pm,sm⟩ z hz0
  dsimp only at s8 eml pm sm hz0 ⊢
  have hml:=pm.length_eq
  refine jbu ms.length (fun j σ' He=>∃ w1 vs,σ' = [w1,some (.ref dl)]∧Same H8 He∧He z = some (.lst vs)∧Prs He vs ((ms.take j).map fun n=>(n,pr n))) ⟨none,[],rfl,jag hz0 _,ja1,.nil⟩ ?_ ?_
  ·rintro j σ' He hj ⟨w1,vs,rfl,s9,ez,pv⟩
   have hj0:ms[j]? = some ms[j]:=List.getElem?_eq_getElem hj
   have hjm:=List.getElem_mem hj
   generalize ms[j] = n at hj0 hjm
   have hj1:(ms.map V.int)[j]? = some (.int n):=by rw [List.getElem?_map,hj0]; rfl
   have z1:SqL K He ml (ms.map V.int):=SqL.of (s9 _ _ eml)
   refine ⟨⟨_,_,z1,hj1⟩,?_⟩
   rintro y H' ⟨rfl,hy'⟩
   have:=hy' _ z1
   rw [hj1] at this
   cases this
   have hvl:vs.length ≤ j:=by
    rw [Paired.length pv,List.length_map,List.length_take]
    exact Nat.min_le_left _ _
   have ev:=jik (pr:=pr) (pm.mem_iff.mp hjm)
   simp_all_arith [(s8.trans s9) _ _ Wc.ed,ev]
   intro t5 ht5
   have q5:=jag ht5 (.tup [.int n,.int (pr n)])
   have ez5:=q5 _ _ ez
   have t6:=jbt (ys:=vs ++ [.ref t5]) ez5
   refine ⟨vs,ez5,szl' (by omega),_,vs ++ [.ref t5],rfl,jbh (s9.trans q5) hz0,ja1,?_⟩
   rw [jbj hj0,List.map_append]
   exact jbn (Prs.tups t6 (Prs.same q5 pv)) ⟨t5,rfl,t6 _ _ rfl ja1⟩
  rintro σ' He ⟨w1,vs,rfl,s9,ez,pv⟩
  refine ⟨⟨_,SqL.of (s9 _ _ eml),by rw [List.length_map]; exact Nat.le_refl _⟩,?_⟩
  rw [List.take_length] at pv
  have s29:=s8.trans s9
  walk_at "ND"
  refine ⟨tl,ws,je2 sts,901,rfl,s29 _ _ Wc.et,Prs.same s29 pw,by omega,fun q hq=>?_,fun l ys qs hl pq pm2 sq=>?_⟩
  ·have i:=jhn S hq
   have:=hn9 _ i.2.2
   omega
  have qA:=jag hl (.lst ys)
  have eA:upd He l (.lst ys) l = some (.lst ys):=ja1
  have ezA:=qA _ _ ez
  have pvA:=Prs.same qA pv
  have pqA:=Prs.same qA pq
  have WA:=Wc.same (s29.trans qA)
  have bA:=bc.same (s29.trans qA)
  generalize upd He l (.lst ys) = HA at qA eA ezA pvA pqA WA bA
  walk_at "ND"
  intro w hw
  have qB:=jag hw (.tup [.ref z,.ref l])
  have eB:upd HA w (.tup [.ref z,.ref l]) w = some (.tup [.ref z,.ref l]):=ja1
  have WB:=WA.same qB
  have bB:=bA.same qB
  have web:jdu (upd HA w (.tup [.ref z,.ref l])) (.ref w) (ms.map fun n=>(n,pr n)) qs:=⟨w,z,l,vs,ys,rfl,eB,qB _ _ ezA,qB _ _ eA,Prs.same qB pvA,Prs.same qB pqA⟩
  generalize upd HA w (.tup [.ref z,.ref l]) = HB at qB eB WB bB web
  walk_at "ND"
  intro t ht
  have qC:=jag ht (.tup [.ref w,.ref du])
  have WC:=WB.same qC
  obtain ⟨k1,k2⟩:=web_of S hn9 hl20 hp1 (by omega) pm sm pm2 sq (by omega)
  exact h t w du d0 d1 _ oc (ms.map fun n=>(n,pr n)) qs sts pr (bB.same qC) WC.es WC.so ja1 (web.same qC) k1 (by rw [List.length_map]; omega) k2 WC.edu WC.e0 WC.e1
end
end My
namespace My
open PySem L2
section
variable {P:Program} {w:World} {K:PySem.W.Frag} {mg:Str→Option Value} {base:Heap} {c1 c2 c3 c4:Tok} {C_NoWeb f_NoWeb:Addr} {dI:FuncData}
def jql (K:PySem.W.Frag):Sp:=fun vs H Q _=>∃ a ns,vs = [.ref a]∧Scr K H a ns∧∀ H',Q (.bl true) H'
theorem jex:∀ {a b:List Int},a.Perm b→a.Pairwise (· ≤ ·)→b.Pairwise (· ≤ ·)→a = b
 | [],b,p,_,_=>p.nil_eq
 | x :: a,[],p,_,_=>by have:=p.length_eq; simp at this
 | x :: a,y :: b,p,h1,h2=>by
  have h1':=List.pairwise_cons.mp h1
  have h2':=List.pairwise_cons.mp h2
  have e:x = y:=by
   have m1:=p.mem_iff.mp (List.mem_cons_self (a:=x) (l:=a))
   have m2:=p.mem_iff.mpr (List.mem_cons_self (a:=y) (l:=b))
   rcases List.mem_cons.mp m1 with z | z
   ·exact z
   ·rcases List.mem_cons.mp m2 with w | w
    ·exact w.symm
    ·have a1:=h2'.1 x z
     have a2:=h1'.1 y w
     omega
  subst e
  rw [jex (List.Perm.cons_inv p) h1'.2 h2'.2]
theorem jty {pr:Int→Int} {s:List Int} (hne:s ≠ []) (nd:s.Nodup):(inS1 pr s).Nodup∧(jd0 pr s).Nodup:=by
 rw [jc3 hne] at nd
 have nt:=(List.nodup_cons.mp nd).2
 unfold inS1 jd0
 split
 ·exact ⟨by simp,nt⟩
 ·split
  ·exact ⟨nt,by simp⟩
  ·simp
theorem jpk {pr:Int→Int}:∀ {sts:List (List Int)},Sts sts→(insS pr sts).Nodup∧(jc5 pr sts).Nodup
 | [],_=>⟨List.nodup_nil,List.nodup_nil⟩
 | s :: r,S=>by
  have nd:=S.nd
  rw [List.flatten_cons] at nd
  obtain ⟨n1,n2,n3⟩:=List.nodup_append.mp nd
  have hne:=S.ne s (List.mem_cons_self ..)
  have hr:∀ x ∈ r,x ≠ []:=fun x hx=>S.ne x (List.mem_cons_of_mem _ hx)
  have ih:=jpk (pr:=pr) (sts:=r) ⟨hr,n2⟩
  obtain ⟨a1,a2⟩:=jty (pr:=pr) hne n1
  unfold insS jc5 at ih ⊢
  rw [List.flatMap_cons,List.flatMap_cons]
  refine ⟨List.nodup_append.mpr ⟨a1,ih.1,fun t ht t' ht' e=>?_⟩,List.nodup_append.mpr ⟨a2,ih.2,fun t ht t' ht' e=>?_⟩⟩
  ·subst e
   obtain ⟨s',hs',h'⟩:=List.mem_flatMap.mp ht'
   exact n3 _ (jfn hne ht) _ (List.mem_flatten.mpr ⟨s',hs',jfn (hr s' hs') h'⟩) rfl
  ·subst e
   obtain ⟨s',hs',h'⟩:=List.mem_flatMap.mp ht'
   exact n3 _ (jdn hne ht) _ (List.mem_flatten.mpr ⟨s',hs',jdn (hr s' hs') h'⟩) rfl
theorem jr3 {pr:Int→Int} {sts:List (List Int)} (S:Sts sts) {n:Int} (h:n ∈ jc5 pr sts):n ∉ insS pr sts:=fun h2=>by
 obtain ⟨s,hs,h'⟩:=List.mem_flatMap.mp h
 have hn:=jdn (S.ne s hs) h'
 have h3:=(jlg (pr:=pr) S hs hn).1.mp h2
 obtain ⟨c1,c2⟩:=jdy (S.ne s hs) (jgl S.nd hs)
 unfold inS1 at h3
 unfold jd0 at h'
 split at h3
 ·rename_i q
  rw [if_pos q] at h'
  rw [List.mem_singleton.mp h3] at h'
  exact c2 h'
 ·rename_i q
  rw [if_neg q] at h'
  split at h3
  ·rename_i q2
   rw [if_pos q2] at h'
   rw [List.mem_singleton.mp h'] at h3
   exact c2 h3
  ·cases h3
theorem jn9 {ps ts:List (Int × Int)} {sts:List (List Int)} {pr:Int→Int} {r:List Int} {c:List Lk} (wk:WebOk ps ts) (h:Rst ps ts r) (C:ChI ps ts (duT ps ts r) c c.length) (W:StW ps ts sts pr):(insK c).Perm (insS pr sts)∧(jcy c).Perm (jc5 pr sts):=by
 obtain ⟨b,u⟩:=W.best
 have key:=jrr wk h C b u
 obtain ⟨n1,n2⟩:=jpk (pr:=pr) W.S
 have pl:∀ n ∈ sts.flatten,∃ p ∈ ps,p.1 = n:=fun n hn=>⟨(n,pr n),W.p.mem_iff.mpr (List.mem_map.mpr ⟨n,hn,rfl⟩),rfl⟩
 have d2:∀ n,dS (insS pr sts) (jc5 pr sts) n = 2 ↔ n ∈ insS pr sts:=fun n=>by
  unfold dS
  constructor
  ·intro z
   by_cases q:n ∈ insS pr sts
   ·exact q
   ·rw [if_neg q] at z
    split at z <;> omega
  ·intro z; rw [if_pos z]
 have d0:∀ n,dS (insS pr sts) (jc5 pr sts) n = 0 ↔ n ∈ jc5 pr sts:=fun n=>by
  unfold dS
  constructor
  ·intro z
   by_cases q:n ∈ insS pr sts
   ·rw [if_pos q] at z; omega
   ·rw [if_neg q] at z
    by_cases q2:n ∈ jc5 pr sts
    ·exact q2
    ·rw [if_neg q2] at z; omega
  ·intro z; rw [if_neg (jr3 W.S z),if_pos z]
 refine ⟨(List.perm_ext_iff_of_nodup (jpm C.nd) n1).mpr fun n=>?_,(List.perm_ext_iff_of_nodup (jmd C.nd) n2).mpr fun n=>?_⟩
 ·constructor
  ·intro z
   obtain ⟨x,hx,_,e⟩:=jfm.mp z
   obtain ⟨p,hp,e2⟩:=List.mem_map.mp (C.place x hx)
   have e3:p.1 = n:=by rw [← e]; exact e2
   have:=(key p hp).1
   rw [e3] at this
   exact (d2 n).mp (this.mp z)
  ·intro z
   obtain ⟨s,hs,h'⟩:=List.mem_flatMap.mp z
   obtain ⟨p,hp,e3⟩:=pl n (List.mem_flatten.mpr ⟨s,hs,jfn (W.S.ne s hs) h'⟩)
   have:=(key p hp).1
   rw [e3] at this
   exact this.mpr ((d2 n).mpr z)
 ·constructor
  ·intro z
   obtain ⟨x,hx,_,e⟩:=jee.mp z
   obtain ⟨p,hp,e2⟩:=List.mem_map.mp (C.place x hx)
   have e3:p.1 = n:=by rw [← e]; exact e2
   have:=(key p hp).2
   rw [e3] at this
   exact (d0 n).mp (this.mp z)
  ·intro z
   obtain ⟨s,hs,h'⟩:=List.mem_flatMap.mp z
   obtain ⟨p,hp,e3⟩:=pl n (List.mem_flatten.mpr ⟨s,hs,jdn (W.S.ne s hs) h'⟩)
   have:=(key p hp).2
   rw [e3] at this
   exact this.mpr ((d0 n).mpr z)
def twoD (a b:List Int):Dt:=.tup [.lst (a.map Dt.int),.lst (b.map Dt.int)]
theorem jlu {H:Hp} {t x y:Addr} {a b:List Int} (e:H t = some (.tup [.ref x,.ref y])) (e1:H x = some (.lst (a.map V.int))) (e2:H y = some (.lst (b.map V.int))):Rep H (twoD a b) (.ref t):=by
 rw [twoD,Rep]
 refine ⟨t,_,rfl,e,?_⟩
 rw [Reps]
 refine ⟨_,_,rfl,by rw [Rep]; exact ⟨x,_,rfl,e1,jej _⟩,?_⟩
 rw [Reps]
 exact ⟨_,_,rfl,by rw [Rep]; exact ⟨y,_,rfl,e2,jej _⟩,by rw [Reps]⟩
theorem jqf (a b:List Int):depP (twoD a b) ≤ 20:=by
 have h1:=jfl a
 have h2:=jfl b
 unfold twoD
 rw [depP,jdl,depP,jdl,depP,jdl]
 omega
theorem jqc.at {H H':Hp} {t:Addr} {ps ts:List (Int × Int)} (h:jqc H H' t ps ts):jdu H' (.ref t) ps ts:=by
 obtain ⟨l1,l2,xs,ys,_,_,_,e,e1,e2,p1,p2⟩:=h
 exact ⟨t,l1,l2,xs,ys,rfl,e,e1,e2,p1,p2⟩
theorem ok_law {f:Addr} {fd:FuncData} {f_law_begun:Addr} {d_law_begun:FuncData} {f_law_drawn:Addr} {d_law_drawn:FuncData} {f_law_own:Addr} {d_law_own:FuncData} {f_fixed_of:Addr} {d_fixed_of:FuncData} (B:Blt mg) (D:DefAt K mg "law" (top 46) ["_law_script"] f fd) (D_law_begun:DefAt K mg "_law_begun" (top 42) ["_law_script","_law_k"] f_law_begun d_law_begun) (G_law_begun:FnOk P w K mg base CX0 1 f_law_begun d_law_begun ["_law_script","_law_k"] (jog K)) (D_law_drawn:DefAt K mg "_law_drawn" (top 45) ["_law_state"] f_law_drawn d_law_drawn) (G_law_drawn:FnOk P w K mg base CX0 3 f_law_drawn d_law_drawn ["_law_state"] jof) (D_law_own:DefAt K mg "_law_own" (top 41) ["_law_web"] f_law_own d_law_own) (G_law_own:FnOk P w K mg base CX0 1 f_law_own d_law_own ["_law_web"] js8) (D_fixed_of:DefAt K mg "fixed_of" (top 39) ["web"] f_fixed_of d_fixed_of) (G_fixed_of:FnOk P w K mg base CX0 8 f_fixed_of d_fixed_of ["web"] js4):FnOk P w K mg base CX0 9 f fd ["_law_script"] (jql K):=by
 have sc:FnScope ["_law_script","_law_k","_law_web","_law_due"] ["_law_script"] (jba (top 46)):=⟨rfl,rfl,rfl,by decide +kernel,rfl,by decide +kernel,by decide +kernel⟩
 refine D.F.ok sc (fun vs H Q E h=>?_) (fun cdv A outer s H vs Q E hr h=>?_)
 ·obtain ⟨a,ns,rfl,_⟩:=h
  rfl
 obtain ⟨a,ns,rfl,hs,h⟩:=h
 have hu:=jc7 hr
 have hu0:_ < PySem.cLine:=Nat.lt_of_succ_lt hu
 refine ⟨_,(jah (jd8 PassesOwn.never rfl (jg1 rfl B.range (ja0 (jbk (jt2 rfl) rfl B.max PyProof.Rows.boot_max (ja0 jaj (ja0 (jbk (q_min rfl) rfl B.min PyProof.Rows.boot_min (ja0 (jbk jdt rfl B.len PySem.boot_len (ja0 (qv 0) jai)) (ja0 jaj jai))) jai))) jai)) (jbb (i:=1) sc.nd rfl (Or.inl rfl)) (jah (jjl (jbe G_law_drawn (hr.mono (by decide)) rfl D_law_drawn.m D_law_drawn.F.kp D_law_drawn.b .nil jbs (ja0 (jbe G_law_begun (hr.mono (by decide)) rfl D_law_begun.m D_law_begun.F.kp D_law_begun.b .nil jbs (ja0 (qv 0) (ja0 (qv 1) jai))) jai)) (jcw (n:=2) rfl (jbd (jbb (i:=2) sc.nd rfl (Or.inl rfl)) (jbd (jbb (i:=3) sc.nd rfl (Or.inl rfl)) jc9)))) (jb9 (jdz (jd7 (jse hr.units) (jbe G_fixed_of (hr.mono (by decide)) rfl D_fixed_of.m D_fixed_of.F.kp D_fixed_of.b .nil jbs (ja0 (jbe G_law_own (hr.mono (by decide)) rfl D_law_own.m D_law_own.F.kp D_law_own.b .nil jbs (ja0 (qv 2) jai)) jai)) (jc4 (ja0 (jbk jf6 rfl B.sorted PyProof.Rows.boot_sorted (ja0 (jbl q_ix (qv 3) jaj (fun _ _=>rfl)) jai)) (ja0 (jbk jf6 rfl B.sorted PyProof.Rows.boot_sorted (ja0 (jbl q_ix (qv 3) jaj (fun _ _=>rfl)) jai)) jai))) (jcc _)) (jb9 (jbq jjn)) jcd)))) (jb9 (jbq jjn))),?_⟩
 refine jb8 fun R hR=>?_
 obtain ⟨N,hN,hN2⟩:∃ N:Nat,N = (if (1:Int) < (if (6:Int) < (ns.length:Int) then 6 else (ns.length:Int)) then (if (6:Int) < (ns.length:Int) then 6 else (ns.length:Int)) else 1).toNat∧N < 70:=⟨_,rfl,by split <;> split <;> omega⟩
 refine jce (Itr 0 N) H (fun R' hR'=>?_) (jk6 (n:=N) (fun i σ H1=>∃ v1 v2 v3,σ = [some (.ref a),v1,v2,v3]∧Scr K H1 a ns) ⟨none,none,none,rfl,hs⟩ ?_ ?_)
 ·unfold jrf
  walk_at "ND"
  refine ⟨a,_,rfl,.inl hs.sq,?_⟩
  simp_all_arith [List.length_map]
  refine ⟨_,rfl,?_,?_,?_⟩
  ·split <;> split <;> omega
  ·split <;> split <;> omega
  ·rw [← hN]
   exact hR'
 ·rintro i σ H1 hi ⟨v1,v2,v3,rfl,hs1⟩
  simp only [jak,List.set_cons_zero,List.set_cons_succ]
  refine jb8 fun R9 hR9=>?_
  walk_at "ND"
  refine ⟨a,0 + (i:Int),ns,rfl,hs1,by omega,by omega,fun st o hst so=>?_⟩
  have s2:=jag hst o
  have e2:upd H1 st o st = some o:=ja1
  have hs2:=hs1.tups s2.tups
  generalize upd H1 st o = H2 at s2 e2 hs2
  refine ⟨st,o,rfl,e2,so,fun t w du d0 d1 H3 o3 ps ts sts pr b3 e3 so3 et W3 wk hpl SW edu ed0 ed1=>?_⟩
  have hs3:=hs2.tups (b3.tups e2 so.imm)
  have hlen:=jio (pr:=pr) SW.S.ne
  have hfl:sts.flatten.length ≤ 20:=by
   have:=SW.p.length_eq
   rw [List.length_map] at this
   omega
  simp_all_arith [jbo,et]
  first
  | refine ⟨rfl,?_⟩
  | skip
  subst hR9
  walk_at "ND"
  refine ⟨.ref w,ps,ts,rfl,W3,fun t1 H4 s4 nw=>?_⟩
  walk_at "ND"
  refine ⟨.ref t1,ps,ts,rfl,nw.at,wk,by omega,fun t2 x y ms ms2 r c H5 s5 _ _ _ et2 ex ey rst C r1 r2=>?_⟩
  have s35:=s4.trans s5
  obtain ⟨p1,p2⟩:=jn9 wk rst C SW
  simp_all_arith [jbo,s35 _ _ edu,at0,at1]
  refine ⟨d0,_,rfl,s35 _ _ ed0,by omega,fun l0 m0 hl0 q1 q2=>?_⟩
  have qA:=jag hl0 (.lst (m0.map V.int))
  have eA:upd H5 l0 (.lst (m0.map V.int)) l0 = some (.lst (m0.map V.int)):=ja1
  generalize upd H5 l0 (.lst (m0.map V.int)) = HA at qA eA
  simp_all_arith [jbo,(s35.trans qA) _ _ edu,at0,at1]
  refine ⟨d1,_,rfl,(s35.trans qA) _ _ ed1,by omega,fun l1 m1 hl1 q3 q4=>?_⟩
  have qB:=jag hl1 (.lst (m1.map V.int))
  have eB:upd HA l1 (.lst (m1.map V.int)) l1 = some (.lst (m1.map V.int)):=ja1
  have eA2:=qB _ _ eA
  generalize upd HA l1 (.lst (m1.map V.int)) = HB at qB eB eA2
  walk_at "ND"
  intro t6 ht6
  have qC:=jag ht6 (.tup [.ref l0,.ref l1])
  have eC:upd HB t6 (.tup [.ref l0,.ref l1]) t6 = some (.tup [.ref l0,.ref l1]):=ja1
  have f1:ms = m0:=jex ((r1.1.trans p1).trans q1.symm) r1.2 q2
  have f2:ms2 = m1:=jex ((r2.1.trans p2).trans q3.symm) r2.2 q4
  subst f1
  subst f2
  have s5C:=qA.trans (qB.trans qC)
  refine ⟨twoD ms ms2,twoD ms ms2,jlu (s5C _ _ et2) (s5C _ _ ex) (s5C _ _ ey),jlu eC (qC _ _ eA2) (qC _ _ eB),jqf _ _,.inr ⟨_,_,rfl,rfl⟩,?_⟩
  rw [jem]
  walk_at "ND"
  exact ⟨_,_,_,rfl,hs3.tups (s35.trans s5C).tups⟩
 ·rintro σ H1 ⟨v1,v2,v3,rfl,hs1⟩
  subst hR
  walk_at "ND"
  exact h _
end
end My
set_option autoImplicit true
namespace My
open PySem L2
abbrev aT (K:PySem.W.Frag) (x:Str) (f:Addr):Prop:=PySem.W.nsIn K mainGlobals x = some (some (.ref f))
abbrev lT (K:PySem.W.Frag) (x q:Str) (st:Stmt) (f:Addr) (oc:Value) (od an:Option Addr) (sl:Array (Option Value)) (kV dc pm cd ct:Value):Prop:=K.lookup f = some ⟨oc,od,.func (PySem.W.fnOf x q (jds st) (jdk st) (jba st) .none kV dc pm an cd ct),sl⟩
abbrev cT (K:PySem.W.Frag) (cd:Value) (x:Str):Prop:=PySem.W.codeIn K cd x = true
abbrev kT (K:PySem.W.Frag) (f:Addr):Prop:=PySem.W.keepIn K (.ref f) = true
abbrev zT (K:PySem.W.Frag) (x:Str):Prop:=PySem.W.nsIn K mainGlobals x = some none
theorem dmk {K:PySem.W.Frag} {h:Heap} {mg:Str→Option Value} (X:K.In h) (G:h.Ns mainGlobals mg) {x:Str} {st:Stmt} {f:Addr} {oc:Value} {od an:Option Addr} {sl:Array (Option Value)} {kV dc pm cd ct:Value} (a:aT K x f) (l:lT K x x st f oc od an sl kV dc pm cd ct) (c:cT K cd x) (k:kT K f) (ps:List Str)
  (b:jer K (PySem.W.fnOf x x (jds st) (jdk st) (jba st) .none kV dc pm an cd ct) ps []):DefAt K mg x st ps f (PySem.W.fnOf x x (jds st) (jdk st) (jba st) .none kV dc pm an cd ct):=⟨jbm l c k,b,PySem.W.mg_of X G a⟩
theorem all_mk {l:PySem.W.OpenLaw} {w:World} {K:PySem.W.Frag} {h:Heap} {mg:Str→Option Value} {fa:Addr} (X:K.In h) (G:h.Ns mainGlobals mg) (hfa:mg "law" = some (.ref fa)) (a0:aT K "is_whole" f0) (l0:lT K "is_whole" "is_whole" (top 7) f0 oc0 od0 an0 sq0 kV0 dc0 pm0 cd0 ct0) (g0:cT K cd0 "is_whole") (k0:kT K f0) (a1:aT K "is_tuple_of" f1) (l1:lT K "is_tuple_of" "is_tuple_of" (top 8) f1 oc1 od1 an1 sq1 kV1 dc1 pm1 cd1 ct1) (g1:cT K cd1 "is_tuple_of") (k1:kT K f1) (a2:aT K "is_pair_of_wholes" f2) (l2:lT K "is_pair_of_wholes" "is_pair_of_wholes" (top 9) f2 oc2 od2 an2 sq2 kV2 dc2 pm2 cd2 ct2) (g2:cT K cd2 "is_pair_of_wholes") (k2:kT K f2) (a3:aT K "is_list_up_to" f3) (l3:lT K "is_list_up_to" "is_list_up_to" (top 10) f3 oc3 od3 an3 sq3 kV3 dc3 pm3 cd3 ct3) (g3:cT K cd3 "is_list_up_to") (k3:kT K f3) (a4:aT K "marked" f4) (l4:lT K "marked" "marked" (top 11) f4 oc4 od4 an4 sq4 kV4 dc4 pm4 cd4 ct4) (g4:cT K cd4 "marked") (k4:kT K f4) (a5:aT K "place_stands" f5) (l5:lT K "place_stands" "place_stands" (top 20) f5 oc5 od5 an5 sq5 kV5 dc5 pm5 cd5 ct5) (g5:cT K cd5 "place_stands") (k5:kT K f5) (a6:aT K "tie_stands" f6) (l6:lT K "tie_stands" "tie_stands" (top 21) f6 oc6 od6 an6 sq6 kV6 dc6 pm6 cd6 ct6) (g6:cT K cd6 "tie_stands") (k6:kT K f6) (a7:aT K "look_at_places" f7) (l7:lT K "look_at_places" "look_at_places" (top 22) f7 oc7 od7 an7 sq7 kV7 dc7 pm7 cd7 ct7) (g7:cT K cd7 "look_at_places") (k7:kT K f7) (a8:aT K "look_at_ties" f8) (l8:lT K "look_at_ties" "look_at_ties" (top 23) f8 oc8 od8 an8 sq8 kV8 dc8 pm8 cd8 ct8) (g8:cT K cd8 "look_at_ties") (k8:kT K f8) (a9:aT K "look_at_web" f9) (l9:lT K "look_at_web" "look_at_web" (top 24) f9 oc9 od9 an9 sq9 kV9 dc9 pm9 cd9 ct9) (g9:cT K cd9 "look_at_web") (k9:kT K f9) (a10:aT K "nears_in" f10) (l10:lT K "nears_in" "nears_in" (top 25) f10 oc10 od10 an10 sq10 kV10 dc10 pm10 cd10 ct10) (g10:cT K cd10 "nears_in") (k10:kT K f10) (a11:aT K "due_at" f11) (l11:lT K "due_at" "due_at" (top 27) f11 oc11 od11 an11 sq11 kV11 dc11 pm11 cd11 ct11) (g11:cT K cd11 "due_at") (k11:kT K f11) (a12:aT K "doubled" f12) (l12:lT K "doubled" "doubled" (top 28) f12 oc12 od12 an12 sq12 kV12 dc12 pm12 cd12 ct12) (g12:cT K cd12 "doubled") (k12:kT K f12) (a13:aT K "dues_flowing" f13) (l13:lT K "dues_flowing" "dues_flowing" (top 29) f13 oc13 od13 an13 sq13 kV13 dc13 pm13 cd13 ct13) (g13:cT K cd13 "dues_flowing") (k13:kT K f13) (a14:aT K "halves_reached" f14) (l14:lT K "halves_reached" "halves_reached" (top 30) f14 oc14 od14 an14 sq14 kV14 dc14 pm14 cd14 ct14) (g14:cT K cd14 "halves_reached") (k14:kT K f14) (a15:aT K "told_paper" f15) (l15:lT K "told_paper" "told_paper" (top 31) f15 oc15 od15 an15 sq15 kV15 dc15 pm15 cd15 ct15) (g15:cT K cd15 "told_paper") (k15:kT K f15) (a16:aT K "loose_places" f16) (l16:lT K "loose_places" "loose_places" (top 33) f16 oc16 od16 an16 sq16 kV16 dc16 pm16 cd16 ct16) (g16:cT K cd16 "loose_places") (k16:kT K f16) (a17:aT K "tied_by_dues" f17) (l17:lT K "tied_by_dues" "tied_by_dues" (top 34) f17 oc17 od17 an17 sq17 kV17 dc17 pm17 cd17 ct17) (g17:cT K cd17 "tied_by_dues") (k17:kT K f17) (a18:aT K "fixed_by" f18) (l18:lT K "fixed_by" "fixed_by" (top 35) f18 oc18 od18 an18 sq18 kV18 dc18 pm18 cd18 ct18) (g18:cT K cd18 "fixed_by") (k18:kT K f18) (a19:aT K "links_from" f19) (l19:lT K "links_from" "links_from" (top 36) f19 oc19 od19 an19 sq19 kV19 dc19 pm19 cd19 ct19) (g19:cT K cd19 "links_from") (k19:kT K f19) (a20:aT K "chain_for" f20) (l20:lT K "chain_for" "chain_for" (top 37) f20 oc20 od20 an20 sq20 kV20 dc20 pm20 cd20 ct20) (g20:cT K cd20 "chain_for") (k20:kT K f20) (a21:aT K "fixed_paper" f21) (l21:lT K "fixed_paper" "fixed_paper" (top 38) f21 oc21 od21 an21 sq21 kV21 dc21 pm21 cd21 ct21) (g21:cT K cd21 "fixed_paper") (k21:kT K f21) (a22:aT K "fixed_of" f22) (l22:lT K "fixed_of" "fixed_of" (top 39) f22 oc22 od22 an22 sq22 kV22 dc22 pm22 cd22 ct22) (g22:cT K cd22 "fixed_of") (k22:kT K f22) (a23:aT K "_law_own" f23) (l23:lT K "_law_own" "_law_own" (top 41) f23 oc23 od23 an23 sq23 kV23 dc23 pm23 cd23 ct23) (g23:cT K cd23 "_law_own") (k23:kT K f23) (a24:aT K "_law_begun" f24) (l24:lT K "_law_begun" "_law_begun" (top 42) f24 oc24 od24 an24 sq24 kV24 dc24 pm24 cd24 ct24) (g24:cT K cd24 "_law_begun") (k24:kT K f24) (a25:aT K "_law_take" f25) (l25:lT K "_law_take" "_law_take" (top 43) f25 oc25 od25 an25 sq25 kV25 dc25 pm25 cd25 ct25) (g25:cT K cd25 "_law_take") (k25:kT K f25) (a26:aT K "_law_stars" f26) (l26:lT K "_law_stars" "_law_stars" (top 44) f26 oc26 od26 an26 sq26 kV26 dc26 pm26 cd26 ct26) (g26:cT K cd26 "_law_stars") (k26:kT K f26) (a27:aT K "_law_drawn" f27) (l27:lT K "_law_drawn" "_law_drawn" (top 45) f27 oc27 od27 an27 sq27 kV27 dc27 pm27 cd27 ct27) (g27:cT K cd27 "_law_drawn") (k27:kT K f27) (a28:aT K "law" f28) (l28:lT K "law" "law" (top 46) f28 oc28 od28 an28 sq28 kV28 dc28 pm28 cd28 ct28) (g28:cT K cd28 "law") (k28:kT K f28) (z_len:zT K "len") (z_isinstance:zT K "isinstance") (z_all:zT K "all") (z_min:zT K "min") (z_list:zT K "list") (z_dict:zT K "dict") (z_int:zT K "int") (z_bool:zT K "bool") (z_str:zT K "str") (z_tuple:zT K "tuple") (z_range:zT K "range") (z_enumerate:zT K "enumerate") (z_zip:zT K "zip") (z_max:zT K "max") (z_any:zT K "any") (z_sum:zT K "sum") (z_sorted:zT K "sorted") (z_set:zT K "set") (n_MOST_PLACES:PySem.W.nsIn K mainGlobals "MOST_PLACES" = some (some (.int 40 c1))) (n_MOST_TIES:PySem.W.nsIn K mainGlobals "MOST_TIES" = some (some (.int 120 c2))) (n_LAST_PLACE:PySem.W.nsIn K mainGlobals "LAST_PLACE" = some (some (.int 999 c3))) (n_MOST_PRICE:PySem.W.nsIn K mainGlobals "MOST_PRICE" = some (some (.int 1000000000000 c4))) (aN:aT K "Net" C_Net) (pgN:PySem.W.plainGet K C_Net Str.empty = true) (hdN:PySem.W.hasDictIn K C_Net = true) (poN:PySem.W.plainOver K C_Net = true) (saN:PySem.W.findIn K (.ref C_Net) "__setattr__" = some (some (.builtin "object.__setattr__"))) (mkN:PySem.W.makesIn K C_Net = true) (kcN:kT K C_Net) (n_ways_from:PySem.W.findIn K (.ref C_Net) "ways_from" = some none) (n_heads:PySem.W.findIn K (.ref C_Net) "heads" = some none) (n_rooms:PySem.W.findIn K (.ref C_Net) "rooms" = some none) (fm0:PySem.W.findIn K (.ref C_Net) "__init__" = some (some (.ref m0))) (im0:PySem.W.isFn K (.ref m0) = true) (lm0:lT K "__init__" "Net.__init__" (meth 5 0) m0 ocm0 odm0 anm0 sqm0 kVm0 dcm0 pmm0 cdm0 ctm0) (gm0:cT K cdm0 "Net.__init__") (km0:kT K m0) (fm1:PySem.W.findIn K (.ref C_Net) "put_way" = some (some (.ref m1))) (im1:PySem.W.isFn K (.ref m1) = true) (lm1:lT K "put_way" "Net.put_way" (meth 5 1) m1 ocm1 odm1 anm1 sqm1 kVm1 dcm1 pmm1 cdm1 ctm1) (gm1:cT K cdm1 "Net.put_way") (km1:kT K m1) (fm2:PySem.W.findIn K (.ref C_Net) "fill" = some (some (.ref m2))) (im2:PySem.W.isFn K (.ref m2) = true) (lm2:lT K "fill" "Net.fill" (meth 5 2) m2 ocm2 odm2 anm2 sqm2 kVm2 dcm2 pmm2 cdm2 ctm2) (gm2:cT K cdm2 "Net.fill") (km2:kT K m2) (fm3:PySem.W.findIn K (.ref C_Net) "shortest" = some (some (.ref m3))) (im3:PySem.W.isFn K (.ref m3) = true) (lm3:lT K "shortest" "Net.shortest" (meth 5 3) m3 ocm3 odm3 anm3 sqm3 kVm3 dcm3 pmm3 cdm3 ctm3) (gm3:cT K cdm3 "Net.shortest") (km3:kT K m3) (fm4:PySem.W.findIn K (.ref C_Net) "spread" = some (some (.ref m4))) (im4:PySem.W.isFn K (.ref m4) = true) (lm4:lT K "spread" "Net.spread" (meth 5 4) m4 ocm4 odm4 anm4 sqm4 kVm4 dcm4 pmm4 cdm4 ctm4) (gm4:cT K cdm4 "Net.spread") (km4:kT K m4) (fm5:PySem.W.findIn K (.ref C_Net) "push" = some (some (.ref m5))) (im5:PySem.W.isFn K (.ref m5) = true) (lm5:lT K "push" "Net.push" (meth 5 5) m5 ocm5 odm5 anm5 sqm5 kVm5 dcm5 pmm5 cdm5 ctm5) (gm5:cT K cdm5 "Net.push") (km5:kT K m5) (fm6:PySem.W.findIn K (.ref C_Net) "flows" = some (some (.ref m6))) (im6:PySem.W.isFn K (.ref m6) = true) (lm6:lT K "flows" "Net.flows" (meth 5 6) m6 ocm6 odm6 anm6 sqm6 kVm6 dcm6 pmm6 cdm6 ctm6) (gm6:cT K cdm6 "Net.flows") (km6:kT K m6) (fm7:PySem.W.findIn K (.ref C_Net) "reached_from" = some (some (.ref m7))) (im7:PySem.W.isFn K (.ref m7) = true) (lm7:lT K "reached_from" "Net.reached_from" (meth 5 7) m7 ocm7 odm7 anm7 sqm7 kVm7 dcm7 pmm7 cdm7 ctm7) (gm7:cT K cdm7 "Net.reached_from") (km7:kT K m7) (nn_SOURCE:PySem.W.nsIn K mainGlobals "SOURCE" = some (some (.int 0 ee1))) (nn_SINK:PySem.W.nsIn K mainGlobals "SINK" = some (some (.int 1 ee2))) (nn_FIRST:PySem.W.nsIn K mainGlobals "FIRST" = some (some (.int 2 ee3)))
 :∃ fd:FuncData,(∀ (s:Shared) (v:Value),BindsTo s fd ⟨[v],[]⟩ [("_law_script",v)])∧∀ base:Heap,K.In base→base.Ns mainGlobals mg→FnOk l.prog w K mg base CX0 9 fa fd ["_law_script"] (jql K):=by
 have e:=hfa.symm.trans (PySem.W.mg_of X G a28)
 cases e
 have B:Blt mg:=⟨PySem.W.mg_none_of X G z_len,PySem.W.mg_none_of X G z_isinstance,PySem.W.mg_none_of X G z_all,PySem.W.mg_none_of X G z_min,PySem.W.mg_none_of X G z_list,PySem.W.mg_none_of X G z_dict,PySem.W.mg_none_of X G z_int,PySem.W.mg_none_of X G z_bool,PySem.W.mg_none_of X G z_str,PySem.W.mg_none_of X G z_tuple,PySem.W.mg_none_of X G z_range,PySem.W.mg_none_of X G z_enumerate,PySem.W.mg_none_of X G z_zip,PySem.W.mg_none_of X G z_max,PySem.W.mg_none_of X G z_any,PySem.W.mg_none_of X G z_sum,PySem.W.mg_none_of X G z_sorted,PySem.W.mg_none_of X G z_set⟩
 have C:Cst mg c1 c2 c3 c4:=⟨PySem.W.mg_of X G n_MOST_PLACES,PySem.W.mg_of X G n_MOST_TIES,PySem.W.mg_of X G n_LAST_PLACE,PySem.W.mg_of X G n_MOST_PRICE⟩
 have D_is_whole:=dmk X G a0 l0 g0 k0 ["thing"] ((jbm l0 g0 k0).binds fun _ _ _ _ _ _ us hl=>match us,hl with | [_],_=>rfl)
 have D_is_tuple_of:=dmk X G a1 l1 g1 k1 ["thing","many"] ((jbm l1 g1 k1).binds fun _ _ _ _ _ _ us hl=>match us,hl with | [_,_],_=>rfl)
 have D_is_pair_of_wholes:=dmk X G a2 l2 g2 k2 ["thing"] ((jbm l2 g2 k2).binds fun _ _ _ _ _ _ us hl=>match us,hl with | [_],_=>rfl)
 have D_is_list_up_to:=dmk X G a3 l3 g3 k3 ["thing","most"] ((jbm l3 g3 k3).binds fun _ _ _ _ _ _ us hl=>match us,hl with | [_,_],_=>rfl)
 have D_marked:=dmk X G a4 l4 g4 k4 ["places"] ((jbm l4 g4 k4).binds fun _ _ _ _ _ _ us hl=>match us,hl with | [_],_=>rfl)
 have D_place_stands:=dmk X G a5 l5 g5 k5 ["thing","last","spent"] ((jbm l5 g5 k5).binds fun _ _ _ _ _ _ us hl=>match us,hl with | [_,_,_],_=>rfl)
 have D_tie_stands:=dmk X G a6 l6 g6 k6 ["thing","last","prices"] ((jbm l6 g6 k6).binds fun _ _ _ _ _ _ us hl=>match us,hl with | [_,_,_],_=>rfl)
 have D_look_at_places:=dmk X G a7 l7 g7 k7 ["places"] ((jbm l7 g7 k7).binds fun _ _ _ _ _ _ us hl=>match us,hl with | [_],_=>rfl)
 have D_look_at_ties:=dmk X G a8 l8 g8 k8 ["ties","prices"] ((jbm l8 g8 k8).binds fun _ _ _ _ _ _ us hl=>match us,hl with | [_,_],_=>rfl)
 have D_look_at_web:=dmk X G a9 l9 g9 k9 ["thing"] ((jbm l9 g9 k9).binds fun _ _ _ _ _ _ us hl=>match us,hl with | [_],_=>rfl)
 have D_nears_in:=dmk X G a10 l10 g10 k10 ["web"] ((jbm l10 g10 k10).binds fun _ _ _ _ _ _ us hl=>match us,hl with | [_],_=>rfl)
 have D_due_at:=dmk X G a11 l11 g11 k11 ["dues"] ((jbm l11 g11 k11).binds fun _ _ _ _ _ _ us hl=>match us,hl with | [_],_=>rfl)
 have D_doubled:=dmk X G a12 l12 g12 k12 ["web"] ((jbm l12 g12 k12).binds fun _ _ _ _ _ _ us hl=>match us,hl with | [_],_=>rfl)
 have D_dues_flowing:=dmk X G a13 l13 g13 k13 ["web","flows"] ((jbm l13 g13 k13).binds fun _ _ _ _ _ _ us hl=>match us,hl with | [_,_],_=>rfl)
 have D_halves_reached:=dmk X G a14 l14 g14 k14 ["web","reached"] ((jbm l14 g14 k14).binds fun _ _ _ _ _ _ us hl=>match us,hl with | [_,_],_=>rfl)
 have D_told_paper:=dmk X G a15 l15 g15 k15 ["web"] ((jbm l15 g15 k15).binds fun _ _ _ _ _ _ us hl=>match us,hl with | [_],_=>rfl)
 have D_loose_places:=dmk X G a16 l16 g16 k16 ["web","dues"] ((jbm l16 g16 k16).binds fun _ _ _ _ _ _ us hl=>match us,hl with | [_,_],_=>rfl)
 have D_tied_by_dues:=dmk X G a17 l17 g17 k17 ["dues"] ((jbm l17 g17 k17).binds fun _ _ _ _ _ _ us hl=>match us,hl with | [_],_=>rfl)
 have D_fixed_by:=dmk X G a18 l18 g18 k18 ["chain"] ((jbm l18 g18 k18).binds fun _ _ _ _ _ _ us hl=>match us,hl with | [_],_=>rfl)
 have D_links_from:=dmk X G a19 l19 g19 k19 ["link","nears","paid_ties"] ((jbm l19 g19 k19).binds fun _ _ _ _ _ _ us hl=>match us,hl with | [_,_,_],_=>rfl)
 have D_chain_for:=dmk X G a20 l20 g20 k20 ["web","dues"] ((jbm l20 g20 k20).binds fun _ _ _ _ _ _ us hl=>match us,hl with | [_,_],_=>rfl)
 have D_fixed_paper:=dmk X G a21 l21 g21 k21 ["web"] ((jbm l21 g21 k21).binds fun _ _ _ _ _ _ us hl=>match us,hl with | [_],_=>rfl)
 have D_fixed_of:=dmk X G a22 l22 g22 k22 ["web"] ((jbm l22 g22 k22).binds fun _ _ _ _ _ _ us hl=>match us,hl with | [_],_=>rfl)
 have D_law_own:=dmk X G a23 l23 g23 k23 ["_law_web"] ((jbm l23 g23 k23).binds fun _ _ _ _ _ _ us hl=>match us,hl with | [_],_=>rfl)
 have D_law_begun:=dmk X G a24 l24 g24 k24 ["_law_script","_law_k"] ((jbm l24 g24 k24).binds fun _ _ _ _ _ _ us hl=>match us,hl with | [_,_],_=>rfl)
 have D_law_take:=dmk X G a25 l25 g25 k25 ["_law_state","_law_many"] ((jbm l25 g25 k25).binds fun _ _ _ _ _ _ us hl=>match us,hl with | [_,_],_=>rfl)
 have D_law_stars:=dmk X G a26 l26 g26 k26 ["_law_state"] ((jbm l26 g26 k26).binds fun _ _ _ _ _ _ us hl=>match us,hl with | [_],_=>rfl)
 have D_law_drawn:=dmk X G a27 l27 g27 k27 ["_law_state"] ((jbm l27 g27 k27).binds fun _ _ _ _ _ _ us hl=>match us,hl with | [_],_=>rfl)
 have D_law:=dmk X G a28 l28 g28 k28 ["_law_script"] ((jbm l28 g28 k28).binds fun _ _ _ _ _ _ us hl=>match us,hl with | [_],_=>rfl)
 refine ⟨PySem.W.fnOf "law" "law" (jds (top 46)) (jdk (top 46)) (jba (top 46)) .none kV28 dc28 pm28 an28 cd28 ct28,fun s v=>.of_eq rfl,fun base _ _=>?_⟩
 have D_init:MthAt K C_Net "__init__" "Net.__init__" (meth 5 0) ["self","many","arcs"] _ _:=⟨jbm lm0 gm0 km0,(jbm lm0 gm0 km0).binds fun _ _ _ _ _ _ us hl=>match us,hl with | [_,_,_],_=>rfl,⟨fm0,im0,km0⟩⟩
 have D_put_way:MthAt K C_Net "put_way" "Net.put_way" (meth 5 1) ["self","tail","head","room"] _ _:=⟨jbm lm1 gm1 km1,(jbm lm1 gm1 km1).binds fun _ _ _ _ _ _ us hl=>match us,hl with | [_,_,_,_],_=>rfl,⟨fm1,im1,km1⟩⟩
 have D_fill:MthAt K C_Net "fill" "Net.fill" (meth 5 2) ["self","source","sink"] _ _:=⟨jbm lm2 gm2 km2,(jbm lm2 gm2 km2).binds fun _ _ _ _ _ _ us hl=>match us,hl with | [_,_,_],_=>rfl,⟨fm2,im2,km2⟩⟩
 have D_shortest:MthAt K C_Net "shortest" "Net.shortest" (meth 5 3) ["self","source","sink"] _ _:=⟨jbm lm3 gm3 km3,(jbm lm3 gm3 km3).binds fun _ _ _ _ _ _ us hl=>match us,hl with | [_,_,_],_=>rfl,⟨fm3,im3,km3⟩⟩
 have D_spread:MthAt K C_Net "spread" "Net.spread" (meth 5 4) ["self","source"] _ _:=⟨jbm lm4 gm4 km4,(jbm lm4 gm4 km4).binds fun _ _ _ _ _ _ us hl=>match us,hl with | [_,_],_=>rfl,⟨fm4,im4,km4⟩⟩
 have D_push:MthAt K C_Net "push" "Net.push" (meth 5 5) ["self","trail"] _ _:=⟨jbm lm5 gm5 km5,(jbm lm5 gm5 km5).binds fun _ _ _ _ _ _ us hl=>match us,hl with | [_,_],_=>rfl,⟨fm5,im5,km5⟩⟩
 have D_flows:MthAt K C_Net "flows" "Net.flows" (meth 5 6) ["self"] _ _:=⟨jbm lm6 gm6 km6,(jbm lm6 gm6 km6).binds fun _ _ _ _ _ _ us hl=>match us,hl with | [_],_=>rfl,⟨fm6,im6,km6⟩⟩
 have D_reached_from:MthAt K C_Net "reached_from" "Net.reached_from" (meth 5 7) ["self","source"] _ _:=⟨jbm lm7 gm7 km7,(jbm lm7 gm7 km7).binds fun _ _ _ _ _ _ us hl=>match us,hl with | [_,_],_=>rfl,⟨fm7,im7,km7⟩⟩
 have C2:Cst2 mg ee1 ee2 ee3:=⟨PySem.W.mg_of X G nn_SOURCE,PySem.W.mg_of X G nn_SINK,PySem.W.mg_of X G nn_FIRST⟩
 have T:NetC K mg C_Net:=⟨⟨pgN,hdN,poN,saN⟩,n_ways_from,n_heads,n_rooms,PySem.W.mg_of X G aN⟩
 have MK:Mk K C_Net m0:=⟨mkN,fm0,im0,kcN⟩
 have G_is_whole:=jkz (P:=l.prog) (w:=w) (base:=base) B D_is_whole
 have G_is_tuple_of:=jgx (P:=l.prog) (w:=w) (base:=base) B D_is_tuple_of
 have G_is_pair_of_wholes:=je0 (P:=l.prog) (w:=w) (base:=base) B D_is_pair_of_wholes D_is_tuple_of G_is_tuple_of D_is_whole G_is_whole
 have G_is_list_up_to:=jfd (P:=l.prog) (w:=w) (base:=base) B D_is_list_up_to
 have G_place_stands:=jg5 (P:=l.prog) (w:=w) (base:=base) B C D_place_stands D_is_pair_of_wholes G_is_pair_of_wholes
 have G_tie_stands:=jib (P:=l.prog) (w:=w) (base:=base) B D_tie_stands D_is_pair_of_wholes G_is_pair_of_wholes
 have G_look_at_places:=jf0 (P:=l.prog) (w:=w) (base:=base) B C D_look_at_places D_is_list_up_to G_is_list_up_to D_place_stands G_place_stands
 have G_look_at_ties:=jg7 (P:=l.prog) (w:=w) (base:=base) B C D_look_at_ties D_is_list_up_to G_is_list_up_to D_tie_stands G_tie_stands
 have G_look_at_web:=jgw (P:=l.prog) (w:=w) (base:=base) B D_look_at_web D_is_tuple_of G_is_tuple_of D_look_at_places G_look_at_places D_look_at_ties G_look_at_ties
 have G_nears_in:=jkx (P:=l.prog) (w:=w) (base:=base) B D_nears_in
 have G_due_at:=joy (P:=l.prog) (w:=w) (base:=base) B D_due_at
 have G_dues_flowing:=jg8 (P:=l.prog) (w:=w) (base:=base) B D_dues_flowing
 have G_halves_reached:=jf1 (P:=l.prog) (w:=w) (base:=base) B D_halves_reached C2
 have G_loose_places:=jg6 (P:=l.prog) (w:=w) (base:=base) B D_loose_places D_due_at G_due_at
 have G_tied_by_dues:=jg3 (P:=l.prog) (w:=w) (base:=base) B D_tied_by_dues
 have G_links_from:=jic (P:=l.prog) (w:=w) (base:=base) B D_links_from
 have G_law_own:=jn4 (P:=l.prog) (w:=w) (base:=base) B D_law_own
 have G_law_begun:=jjs (P:=l.prog) (w:=w) (base:=base) B D_law_begun
 have G_law_take:=jky (P:=l.prog) (w:=w) (base:=base) B D_law_take
 have G_law_stars:=jjq (P:=l.prog) (w:=w) (base:=base) B D_law_stars D_law_take G_law_take
 have G_law_drawn:=jjr (P:=l.prog) (w:=w) (base:=base) B D_law_drawn D_law_take G_law_take D_law_stars G_law_stars
 have GI_marked:=jn6 (P:=l.prog) (w:=w) (base:=base) B D_marked
 have G_put_way:=jn3 (P:=l.prog) (w:=w) (base:=base) B D_put_way T
 have G_spread:=jox (P:=l.prog) (w:=w) (base:=base) B D_spread T
 have G_push:=jtf (P:=l.prog) (w:=w) (base:=base) B D_push T
 have G_flows:=jr4 (P:=l.prog) (w:=w) (base:=base) B D_flows T
 have G_reached_from:=jg4 (P:=l.prog) (w:=w) (base:=base) B D_reached_from D_spread G_spread T
 have G_fixed_by:=jl1 (P:=l.prog) (w:=w) (base:=base) B D_fixed_by D_marked GI_marked
 have G_chain_for:=jjt (P:=l.prog) (w:=w) (base:=base) B D_chain_for D_nears_in G_nears_in D_tied_by_dues G_tied_by_dues D_loose_places G_loose_places D_marked GI_marked D_links_from G_links_from
 have G_init:=jtg (P:=l.prog) (w:=w) (base:=base) B D_init D_put_way G_put_way T
 have G_shortest:=jkw (P:=l.prog) (w:=w) (base:=base) B D_shortest D_spread G_spread T
 have G_doubled:=jn5 (P:=l.prog) (w:=w) (base:=base) B D_doubled D_init G_init T C2 MK
 have G_fill:=jth (P:=l.prog) (w:=w) (base:=base) B D_fill D_shortest G_shortest D_push G_push T
 have G_told_paper:=jia (P:=l.prog) (w:=w) (base:=base) B D_told_paper D_doubled G_doubled D_fill G_fill D_reached_from G_reached_from D_marked GI_marked D_halves_reached G_halves_reached D_flows G_flows D_dues_flowing G_dues_flowing T C2
 have G_fixed_paper:=jgy (P:=l.prog) (w:=w) (base:=base) B D_fixed_paper D_look_at_web G_look_at_web D_told_paper G_told_paper D_chain_for G_chain_for
 have G_fixed_of:=jl0 (P:=l.prog) (w:=w) (base:=base) B D_fixed_of D_fixed_paper G_fixed_paper D_fixed_by G_fixed_by
 exact ok_law B D_law D_law_begun G_law_begun D_law_drawn G_law_drawn D_law_own G_law_own D_fixed_of G_fixed_of
theorem walk {l:PySem.W.OpenLaw} {q:Program} {loose:List Str} {XP:(Str→Option Value)→Heap→Prop} {YP:World→Heap→Prop} {d:DefRec} {K:Params→PySem.W.Frag} (hn:l.most = some 63) (hdf:d.params.defaults = [])
  (hY:∀ (w:World) (h:Heap),YP w h→(K w.params).In h)
  (F:∀ (w:World) (mg:Str→Option Value) (fa:Addr) (h:Heap),(K w.params).In h→h.Ns mainGlobals mg→mg d.name = some (.ref fa) →
   ∃ fd:FuncData,(∀ (s:Shared) (u:Value),BindsTo s fd ⟨[u],[]⟩ [("_law_script",u)])∧∀ base:Heap,(K w.params).In base→base.Ns mainGlobals mg→FnOk l.prog w (K w.params) mg base CX0 9 fa fd ["_law_script"] (jql (K w.params))) :
  PySem.W.WalkO q loose XP YP l.row.toRowW d [] (fun f vs=>PySem.call f vs) :=
 L2.jnq (n:=63) (k:=9) (x:="_law_script") (CX:=fun _=>CX0) (sp:=fun w=>jql (K w.params)) hn (by decide) hdf ⟨rfl,by decide,by decide,rfl⟩ hY F (fun _ _ a ns hl hO hS=>⟨a,ns,rfl,Scr.of hS hO,fun _=>rfl⟩) fun _ _ _ _ _ z=>z
end My
open PySem PySem.W PyProof.Rows
set_option maxRecDepth 100000 in
set_option maxHeartbeats 0 in
theorem PySem.Challenge.cw_touchall_k32_fixed_in_bunches_holds : PySem.Challenge.rw_touchall_k32_fixed_in_bunches.Holds := by
 refine MyHead ?_
 k_fill
 refine My.walk (l:=PySem.Challenge.rw_touchall_k32_fixed_in_bunches) rfl rfl (fun w h Y=>PySem.W.kIn_of Y) ?F
 case F =>
  intro w mg fa h KX G hmg
  refine' My.all_mk KX G hmg ?_ ?_ ?_ ?_ ?_ ?_ ?_ ?_ ?_ ?_ ?_ ?_ ?_ ?_ ?_ ?_ ?_ ?_ ?_ ?_ ?_ ?_ ?_ ?_ ?_ ?_ ?_ ?_ ?_ ?_ ?_ ?_ ?_ ?_ ?_ ?_ ?_ ?_ ?_ ?_ ?_ ?_ ?_ ?_ ?_ ?_ ?_ ?_ ?_ ?_ ?_ ?_ ?_ ?_ ?_ ?_ ?_ ?_ ?_ ?_ ?_ ?_ ?_ ?_ ?_ ?_ ?_ ?_ ?_ ?_ ?_ ?_ ?_ ?_ ?_ ?_ ?_ ?_ ?_ ?_ ?_ ?_ ?_ ?_ ?_ ?_ ?_ ?_ ?_ ?_ ?_ ?_ ?_ ?_ ?_ ?_ ?_ ?_ ?_ ?_ ?_ ?_ ?_ ?_ ?_ ?_ ?_ ?_ ?_ ?_ ?_ ?_ ?_ ?_ ?_ ?_ ?_ ?_ ?_ ?_ ?_ ?_ ?_ ?_ ?_ ?_ ?_ ?_ ?_ ?_ ?_ ?_ ?_ ?_ ?_ ?_ ?_ ?_ ?_ ?_ ?_ ?_ ?_ ?_ ?_ ?_ ?_ ?_ ?_ ?_ ?_ ?_ ?_ ?_ ?_ ?_ ?_ ?_ ?_ ?_ ?_ ?_ ?_ ?_ ?_ ?_ ?_ ?_ ?_ ?_ ?_ ?_ ?_ ?_ ?_ ?_ ?_ ?_ ?_ ?_ ?_ ?_ ?_ ?_ ?_ ?_ ?_ ?_ ?_ ?_ ?_
  any_goals first | k_is | (delta My.aT; k_is) | (delta My.lT; k_is) | (delta My.cT; k_is) | (delta My.kT; k_is) | (delta My.zT; k_is) | kernel_rfl | rfl
#print axioms PySem.Challenge.cw_touchall_k32_fixed_in_bunches_holds
