import PyProof.Rows.All
import Wide.All
import OpenK.AllK
import Wide.FinOn
import Lean
import PyProof.EqAt
import PyProof.EqKinds
import PyProof.TupleCall
import PyProof.NeKinds
import PyProof.NeData
import PySem.Challenge.RW_touchall_k27_whole_halves_and_sets
import PyProof.StationsW
import PyProof.ExcInit
import PyProof.InstStoreFacts
import PyProof.NsDelKeeps
import PyProof.RulesAs
import PyProof.ExcAttrAll.ValueError
import KE.KIsAll
import PyProof.AutoSeq1
import PyProof.Rows.SetFrom
import PyProof.SetRoads
import PyProof.Rows.SortRuns
import PyProof.Rows.SortShell
import KE.KSortTup
import PyProof.Rows.SumAny
import PyProof.DictWalks
import PyProof.DictUpdate
import KE.KDictList
section
open PySem PySem.W PyProof.Rows
set_option Elab.async false
set_option maxRecDepth 100000
set_option maxHeartbeats 0
namespace PySem.W.Fast
theorem tw12453367155401658144:True:=⟨⟩
theorem tw525880386672822635:True:=⟨⟩
theorem tw14781562103584300300:True:=⟨⟩
theorem tw18004234820734870348:True:=⟨⟩
theorem tw16599119404929089777:True:=⟨⟩
theorem tw9523907401933072244:True:=⟨⟩
theorem tw280475905095942100:True:=⟨⟩
theorem tw17883986908372840214:True:=⟨⟩
theorem tw3532348617687762170:True:=⟨⟩
theorem tw13185798498977277789:True:=⟨⟩
theorem tw2394965854965877950:True:=⟨⟩
theorem tw3921662849084696123:True:=⟨⟩
theorem tw2490229838768120031:True:=⟨⟩
theorem tw749475842917359531:True:=⟨⟩
theorem tw17507916543043632276:True:=⟨⟩
theorem tw2220164997069877358:True:=⟨⟩
theorem tw16129954062642050573:True:=⟨⟩
theorem tw6145129637773361727:True:=⟨⟩
theorem tw10485983645851997345:True:=⟨⟩
theorem tw2299995472670780312:True:=⟨⟩
theorem tw163361006696384501:True:=⟨⟩
theorem tw4279476487421269338:True:=⟨⟩
theorem tw12021910400016799448:True:=⟨⟩
theorem tw15500006721023040547:True:=⟨⟩
theorem tw162473700425539603:True:=⟨⟩
theorem tw7182748549700119884:True:=⟨⟩
theorem tw8513872578731894556:True:=⟨⟩
theorem tw11033941645859556090:True:=⟨⟩
theorem tw895549414950198869:True:=⟨⟩
theorem tw2965769552864237175:True:=⟨⟩
theorem tw1446046372975601066:True:=⟨⟩
theorem tw2232508010609702249:True:=⟨⟩
theorem tw10913997214970868764:True:=⟨⟩
theorem tw4755141612544394983:True:=⟨⟩
theorem tw5954876327221452193:True:=⟨⟩
theorem tw1204304298147611602:True:=⟨⟩
theorem tw12855419698269193786:True:=⟨⟩
theorem tw11838570771899567539:True:=⟨⟩
theorem tw5202776660221476824:True:=⟨⟩
theorem tw15693294657385995021:True:=⟨⟩
theorem tw15335128613735910151:True:=⟨⟩
theorem tw13058793742947418118:True:=⟨⟩
theorem tw2269460933442521542:True:=⟨⟩
theorem tw429126050991680652:True:=⟨⟩
theorem tw17382730591349914884:True:=⟨⟩
theorem tw6799717253033202974:True:=⟨⟩
theorem tw8549602738571025238:True:=⟨⟩
theorem tw14527855219218812963:True:=⟨⟩
theorem tw9360046480592557864:True:=⟨⟩
theorem tw12343798008286848705:True:=⟨⟩
theorem tw1726813977947389158:True:=⟨⟩
theorem tw16770910964881924072:True:=⟨⟩
theorem tw8153494736163193282:True:=⟨⟩
theorem tw7514863291714595196:True:=⟨⟩
theorem tw15514634696500728796:True:=⟨⟩
theorem tw9580164878673987830:True:=⟨⟩
theorem tw12306747795182409104:True:=⟨⟩
theorem tw7492884703717757881:True:=⟨⟩
theorem tw6795054907335169004:True:=⟨⟩
theorem tw1718328181716237790:True:=⟨⟩
theorem tw10073281139201949855:True:=⟨⟩
theorem tw8079341929624369548:True:=⟨⟩
theorem tw9000492280638625789:True:=⟨⟩
theorem tw15377678365041130219:True:=⟨⟩
end PySem.W.Fast
open_top MyHead for PySem.Challenge.rw_touchall_k27_whole_halves_and_sets
end
-- CHANGE: your row's module here, as the last of these rows
noncomputable section
set_option Elab.async false
set_option linter.all false
set_option maxRecDepth 100000
theorem gE {α:Type} {l:List α} {i:Nat} (h:i<l.length):l[i]? = some l[i]:=List.getElem?_eq_getElem h
namespace L2
open PySem PySem.Spec PyProof.Rows
abbrev Key:=Sum Int Str
def jmb:Key->Value->Bool
 | .inl k,v=>Value.isInt k v
 | .inr x,v=>Value.isStrOf x v
def keyH (w:World):Key->Int
 | .inl k=>hashInt k
 | .inr x=>hashStr w x
theorem jc8:∀ {k:Key} {v:Value},jmb k v = true->(∃ i t,k = Sum.inl i/\v = Value.int i t) \/ (∃ x t,k = Sum.inr x/\v = Value.str x t)
 | .inl i,v,h=>by
  obtain ⟨t,e⟩:=Value.isInt_shape (k:=i) (v:=v) h
  exact .inl ⟨i,t,rfl,e⟩
 | .inr x,v,h=>by
  obtain ⟨t,e⟩:=Value.isStrOf_shape (x:=x) (v:=v) h
  exact .inr ⟨x,t,rfl,e⟩
theorem jqa (i:Int) (t:Tok):jmb (.inl i) (.int i t) = true:=by simp [jmb,Value.isInt]
theorem jq9 (x:Str) (t:Tok):jmb (.inr x) (.str x t) = true:=by simp [jmb,Value.isStrOf]
theorem key_ll (a b:Int):decide ((Sum.inl a:Key) = Sum.inl b) = (a == b):=by
 by_cases e:a = b
 ·subst e; simp
 ·have h:¬ (Sum.inl a:Key) = Sum.inl b:=fun q=>e (Sum.inl.inj q)
  rw [decide_eq_false h]
  exact (beq_eq_false_iff_ne.mpr e).symm
theorem key_rr (a b:Str):decide ((Sum.inr a:Key) = Sum.inr b) = decide (a = b):=by
 by_cases e:a = b
 ·subst e; simp
 ·have h:¬ (Sum.inr a:Key) = Sum.inr b:=fun q=>e (Sum.inr.inj q)
  rw [decide_eq_false h,decide_eq_false e]
theorem key_lr (a:Int) (b:Str):decide ((Sum.inl a:Key) = Sum.inr b) = false:=decide_eq_false (fun q=>nomatch q)
theorem key_rl (a:Str) (b:Int):decide ((Sum.inr a:Key) = Sum.inl b) = false:=decide_eq_false (fun q=>nomatch q)
def jc3 (prog:Program) (w:World):PySem.KeyKind prog w Key where
 is:=jmb
 hash:=keyH w
 inj:=fun v a b ha hb=>by
  rcases jc8 ha with ⟨i,t,rfl,rfl⟩ | ⟨x,t,rfl,rfl⟩
  ·rcases jc8 hb with ⟨j,u,rfl,e⟩ | ⟨y,u,rfl,e⟩
   ·injection e with e1 _; rw [e1]
   ·exact nomatch e
  ·rcases jc8 hb with ⟨j,u,rfl,e⟩ | ⟨y,u,rfl,e⟩
   ·exact nomatch e
   ·injection e with e1 _; rw [e1]
 byValue:=fun k v h=>by
  rcases jc8 h with ⟨i,t,rfl,rfl⟩ | ⟨x,t,rfl,rfl⟩ <;> rfl
 pyHash:=fun hv h=>by
  rcases jc8 hv with ⟨i,t,rfl,rfl⟩ | ⟨x,t,rfl,rfl⟩
  ·exact wpAny_pyHash_int h
  ·exact wpAny_pyHash_str h
 eqBool:=fun hu hv h=>by
  rcases jc8 hu with ⟨i,t,rfl,rfl⟩ | ⟨x,t,rfl,rfl⟩
  ·rcases jc8 hv with ⟨j,u,rfl,rfl⟩ | ⟨y,u,rfl,rfl⟩
   ·rw [key_ll] at h; exact wpAny_eqBool_int h
   ·rw [key_lr] at h; exact SeqAt.EqAt.int_str i t y u _ _ _ _ h
  ·rcases jc8 hv with ⟨j,u,rfl,rfl⟩ | ⟨y,u,rfl,rfl⟩
   ·rw [key_rl] at h; exact SeqAt.EqAt.str_int x t j u _ _ _ _ h
   ·rw [key_rr] at h; exact wpAny_eqBool_str h
 «strs»:=fun k x t v h=>by
  rcases jc8 h with ⟨i,u,rfl,e⟩ | ⟨y,u,rfl,e⟩
  ·exact nomatch e
  ·injection e with e1 _
   subst e1
   cases v <;> rfl
theorem jm6 (prog:Program) (w:World) (i:Int) (t:Tok):(jc3 prog w).is (.inl i) (.int i t) = true:=jqa i t
theorem jm5 (prog:Program) (w:World) (x:Str) (t:Tok):(jc3 prog w).is (.inr x) (.str x t) = true:=jq9 x t
inductive V where
 | non | bl (b:Bool) | int (i:Int) | str (x:Str) | byt (b:Array UInt8) | flt (b:UInt64) | ref (a:Addr) | ty (n:String)
 deriving DecidableEq
def RelV:V->Value->Prop
 | .non,u=>u = Value.none
 | .bl b,u=>u = Value.bool b
 | .int i,u=>∃ t,u = Value.int i t
 | .str x,u=>∃ t,u = Value.str x t
 | .byt b,u=>∃ t,u = Value.bytes b t
 | .flt b,u=>∃ t,u = Value.float b t
 | .ref a,u=>u = Value.ref a
 | .ty n,u=>u = Value.type n
abbrev Vals:List V->List Value->Prop:=Paired RelV
theorem Vals.length {xs:List V} {us:List Value} (r:Vals xs us):xs.length = us.length:=Paired.length r
theorem Vals.get:∀ {xs:List V} {us:List Value} {i:Nat} {x:V},Vals xs us->xs[i]? = some x->∃ u,us[i]? = some u/\RelV x u
 | _,_,_,_,.nil,e=>by simp at e
 | _,_,0,_,.cons r _,e=>by simp at e; subst e; exact ⟨_,rfl,r⟩
 | _,_,i + 1,x,.cons _ t,e=>by
  obtain ⟨u,h1,h2⟩:=Vals.get (i:=i) (x:=x) t (by simpa using e)
  exact ⟨u,by simpa using h1,h2⟩
theorem Vals.set {x:V} {u:Value} (r:RelV x u):∀ {xs:List V} {us:List Value} (i:Nat),Vals xs us->Vals (xs.set i x) (us.set i u)
 | _,_,_,.nil=>.nil
 | _,_,0,.cons _ t=>.cons r t
 | _,_,i + 1,.cons q t=>.cons q (Vals.set r i t)
theorem Vals.append:∀ {xs ys:List V} {us ws:List Value},Vals xs us->Vals ys ws->Vals (xs ++ ys) (us ++ ws)
 | _,_,_,_,.nil,s=>s
 | _,_,_,_,.cons r t,s=>.cons r (Vals.append t s)
theorem Vals.take:∀ {xs:List V} {us:List Value} (n:Nat),Vals xs us->Vals (xs.take n) (us.take n)
 | _,_,0,_=>.nil
 | _,_,_ + 1,.nil=>.nil
 | _,_,n + 1,.cons r t=>.cons r (Vals.take n t)
theorem Vals.drop:∀ {xs:List V} {us:List Value} (n:Nat),Vals xs us->Vals (xs.drop n) (us.drop n)
 | _,_,0,r=>r
 | _,_,_ + 1,.nil=>.nil
 | _,_,n + 1,.cons _ t=>Vals.drop n t
def RelO:Option V->Option Value->Prop
 | some v,some u=>RelV v u
 | none,none=>True
 | _,_=>False
def KV {κ:Type}:List (κ × V)->List (κ × Value)->Prop:=Paired fun (p:κ × V) (q:κ × Value)=>p.1 = q.1/\RelV p.2 q.2
def kV:Key->V
 | .inl i=>.int i
 | .inr x=>.str x
inductive HO where
 | lst (xs:List V)
 | tup (xs:List V)
 | dK (kvs:List (Key × V)) | dT (kvs:List (List Key × V))
 | set (S:Int->Bool) (n:Nat)
 | ins (C dx:Addr) (fs:List (Str × V))
 | own (x:Addr)
 | xd (fs:List (Str × V))
 | met (f x:Addr)
 | rng (lo hi:Int)
 | frz (o:Obj) (u:HO)
 | tbl (ps:Array Value)
 | ext (φ:Heap->Prop)
abbrev Hp:=Addr->Option HO
def upd (H:Hp) (a:Addr) (o:HO):Hp:=fun b=>if b = a then some o else H b
theorem ja1 {H:Hp} {a:Addr} {o:HO}:upd H a o a = some o:=by unfold upd; rw [if_pos rfl]
theorem jb7 {H:Hp} {a b:Addr} {o:HO} (h:b ≠ a):upd H a o b = H b:=by unfold upd; rw [if_neg h]
theorem jej {H:Hp} {a:Addr} {o u:HO}:upd (upd H a o) a u = upd H a u:=by
 funext b; unfold upd; split <;> rfl
theorem jm1 {H:Hp} {a b:Addr} {o u:HO} (h:H a = some o) (h':H b = some u) (d:o ≠ u):a ≠ b:=by
 intro e; subst e; rw [h] at h'; exact d (Option.some.inj h')
theorem jaj {H:Hp} {a b:Addr} {o:HO} (h:H a = some o) (h':H b = none):a ≠ b:=by
 intro e; subst e; rw [h] at h'; cases h'
section
variable (P:Program) (w:World)
def jcv (H:Hp) (h:Heap) (a:Addr):HO->Prop
 | .lst xs=>xs.length <= sizeLine/\∃ (its:List Value) (n:Nat),Vals xs its/\h.get? a = some { cls:=.type "list",data:=.seq its.toArray n }
 | .tup xs=>xs.length <= sizeLine/\∃ its:List Value,Vals xs its/\IsTup h a its.toArray
 | .dK kvs=>kvs.length <= sizeLine/\(a == sysModules) = false/\∃ vs,KV kvs vs/\h.DictOf (jc3 P w) a vs
 | .dT kvs=>kvs.length <= sizeLine/\(a == sysModules) = false/\∃ xs:List (List Key × Addr × Value),
   Paired (fun (p:List Key × V) (q:List Key × Addr × Value)=>p.1 = q.1/\H q.2.1 = some (.tup (p.1.map kV))/\RelV p.2 q.2.2) kvs xs /\
   ∃ o es ep,h.get? a = some o/\o.ExactDict/\o.data = .dict es ep/\es.toList = xs.map (entryOfKey (tupleKind (jc3 P w)))/\(xs.map (·.1)).Nodup
 | .set S n=>h.SetOf (intKind P w) a S n
 | .ins C dx fs=>H dx = some (.own a)/\fs.length <= 1000/\dx ≠ a/\h.get? a = some (PySem.W.instObj C dx) /\
   ∃ mA,h.Ns1 dx mA/\(∀ f,RelO (fs.lookup f) (mA f))/\PySem.Within mA (fs.map (·.1))
 | .own _=>∃ o,h.get? a = some o
 | .xd fs=>∃ mA,h.Ns1 a mA/\∀ f,RelO (fs.lookup f) (mA f)
 | .rng lo hi=>∃ t u v,h.get? a = some { cls:=.type "range",data:=.fields #[.int lo t,.int hi u,.int 1 v] }
 | .frz o u=>h.get? a = some o/\jcv H h a u
 | .tbl ps=>h.get? a = some { cls:=.none,data:=.fields ps }
 | .met f x=>h.get? a = some (PySem.W.methodObj (.ref f) (.ref x))
 | .ext φ=>φ h/\(∃ o,h.get? a = some o)/\∀ h1 h2:Heap,φ h1->(∀ o,h1.get? a = some o->h2.get? a = some o)->φ h2
def HOk (H:Hp) (h:Heap):Prop:=∀ a o,H a = some o->jcv P w H h a o
end
section
variable {P:Program} {w:World} {H H':Hp} {h h':Heap} {a:Addr} {o:HO}
theorem jcv.lt (x:jcv P w H h a o):a < h.objs.size:=by
 cases o with
 | lst xs=>obtain ⟨_,_,_,_,e⟩:=x; exact Heap.lt_size e
 | tup xs=>obtain ⟨_,_,_,p⟩:=x; exact p.lt
 | dK kvs=>obtain ⟨_,_,_,_,o,_,_,e,_⟩:=x; exact Heap.lt_size e
 | dT kvs=>obtain ⟨_,_,_,_,o,_,_,e,_⟩:=x; exact Heap.lt_size e
 | set S n=>obtain ⟨o,_,_,_,e,_⟩:=x; exact Heap.lt_size e
 | ins C dx fs=>obtain ⟨_,_,_,e,_⟩:=x; exact Heap.lt_size e
 | own y=>obtain ⟨_,e⟩:=x; exact Heap.lt_size e
 | xd fs=>obtain ⟨_,⟨_,_,_,e,_⟩,_⟩:=x; exact Heap.lt_size e
 | rng lo hi=>obtain ⟨_,_,_,e⟩:=x; exact Heap.lt_size e
 | frz ob u=>obtain ⟨e,_⟩:=x; exact Heap.lt_size e
 | tbl ps=>exact Heap.lt_size (show h.get? a = some _ from x)
 | met f y=>exact Heap.lt_size (show h.get? a = some _ from x)
 | ext φ=>obtain ⟨_,⟨_,e⟩,_⟩:=x; exact Heap.lt_size e
theorem Paired.mapP {α β:Type} {F G:α->β->Prop}:∀ {l₁:List α} {l₂:List β},Paired F l₁ l₂->(∀ a b,F a b->G a b)->Paired G l₁ l₂
 | _,_,.nil,_=>.nil
 | _,_,.cons r t,f=>.cons (f _ _ r) (Paired.mapP t f)
theorem Paired.imp' {α β:Type} {F G:α->β->Prop} (f:∀ a b,F a b->G a b) {l₁:List α} {l₂:List β} (r:Paired F l₁ l₂):Paired G l₁ l₂:=Paired.mapP r f
theorem jcv.stay (x:jcv P w H h a o) (k:∀ b u,(b = a \/ H b = some (.own a))->h.get? b = some u->h'.get? b = some u)
  (ho:∀ b,H b = some (.own a)->H' b = some (.own a)) (ht:∀ b xs,H b = some (.tup xs)->H' b = some (.tup xs)):jcv P w H' h' a o:=by
 induction o with
 | lst xs=>obtain ⟨z,its,n,r,e⟩:=x; exact ⟨z,its,n,r,k _ _ (.inl rfl) e⟩
 | tup xs=>obtain ⟨z,its,r,ob,e,c⟩:=x; exact ⟨z,its,r,ob,k _ _ (.inl rfl) e,c⟩
 | dK kvs=>obtain ⟨z,y,vs,r,ob,es,ep,e,c⟩:=x; exact ⟨z,y,vs,r,ob,es,ep,k _ _ (.inl rfl) e,c⟩
 | dT kvs =>
  obtain ⟨z,y,xs,r,ob,es,ep,e,c⟩:=x
  exact ⟨z,y,xs,Paired.mapP r fun p q z=>⟨z.1,ht _ _ z.2.1,z.2.2⟩,ob,es,ep,k _ _ (.inl rfl) e,c⟩
 | set S n=>obtain ⟨ob,es,ep,t,e,c⟩:=x; exact ⟨ob,es,ep,t,k _ _ (.inl rfl) e,c⟩
 | ins C dx fs =>
  obtain ⟨d,z,ne,e,mA,⟨od,es,ep,e2,c⟩,r⟩:=x
  exact ⟨ho _ d,z,ne,k _ _ (.inl rfl) e,mA,⟨od,es,ep,k _ _ (.inr d) e2,c⟩,r⟩
 | own y=>obtain ⟨ob,e⟩:=x; exact ⟨ob,k _ _ (.inl rfl) e⟩
 | xd fs=>obtain ⟨mA,⟨od,es,ep,e,c⟩,r⟩:=x; exact ⟨mA,⟨od,es,ep,k _ _ (.inl rfl) e,c⟩,r⟩
 | rng lo hi=>obtain ⟨t,u,v,e⟩:=x; exact ⟨t,u,v,k _ _ (.inl rfl) e⟩
 | frz ob u ih=>obtain ⟨e,q⟩:=x; exact ⟨k _ _ (.inl rfl) e,ih q⟩
 | tbl ps =>
  have e:h.get? a = some { cls:=.none,data:=.fields ps }:=x
  show h'.get? a = some { cls:=.none,data:=.fields ps }
  exact k a _ (.inl rfl) e
 | met f y =>
  have e:h.get? a = some (PySem.W.methodObj (.ref f) (.ref y)):=x
  show h'.get? a = some (PySem.W.methodObj (.ref f) (.ref y))
  exact k a _ (.inl rfl) e
 | ext φ=>obtain ⟨p,⟨o,e⟩,st⟩:=x; exact ⟨st _ _ p fun o q=>k _ _ (.inl rfl) q,⟨o,k _ _ (.inl rfl) e⟩,st⟩
theorem HOk.lt (x:HOk P w H h) (e:H a = some o):a < h.objs.size:=(x a o e).lt
theorem HOk.fresh (x:HOk P w H h) (e:h.objs.size <= a):H a = none:=by
 cases q:H a with
 | none=>rfl
 | some u=>exact absurd (Nat.lt_of_lt_of_le (x.lt q) e) (Nat.lt_irrefl _)
theorem HOk.kept (x:HOk P w H h) (k:∀ b u,h.get? b = some u->h'.get? b = some u):HOk P w H h':=fun a o e =>
 (x a o e).stay (fun b u _ q=>k b u q) (fun _ q=>q) fun _ _ q=>q
theorem HOk.laid (x:HOk P w H h) (k:∀ b u,h.get? b = some u->h'.get? b = some u) (hp:h.objs.size <= a) (new:jcv P w (upd H a o) h' a o):HOk P w (upd H a o) h':=fun b u e=>by
 have hn:=x.fresh hp
 by_cases hb:b = a
 ·subst hb; rw [ja1] at e; cases e; exact new
 ·rw [jb7 hb] at e
  exact (x b u e).stay (fun c v _ q=>k c v q) (fun c q=>by rw [jb7 (jaj q hn)]; exact q) fun c xs q=>by rw [jb7 (jaj q hn)]; exact q
end
def Rd (H:Hp) (a:Addr) (u:HO):Prop:=H a = some u \/ ∃ o,H a = some (.frz o u)
theorem Rd.of {H:Hp} {a:Addr} {u:HO} (h:H a = some u):Rd H a u:=.inl h
theorem Rd.ok {P:Program} {w:World} {H:Hp} {h:Heap} {a:Addr} {u:HO} (r:Rd H a u) (x:HOk P w H h):jcv P w H h a u:=by
 rcases r with r | ⟨o,r⟩
 ·exact x a u r
 ·obtain ⟨_,q⟩:=x a _ r
  exact q
def Mut:Option HO->Prop
 | some (.lst _)=>True
 | some (.dK _)=>True
 | some (.dT _)=>True
 | some (.set _ _)=>True
 | some (.ins _ _ _)=>True
 | some (.ext _)=>True
 | _=>False
section
variable {P:Program} {w:World} {H:Hp} {h h':Heap} {x e:Addr} {o':HO}
theorem HOk.write (ok:HOk P w H h) (mu:Mut (H x)) (he:e = x \/ H e = some (.own x)) (k:∀ b u,b ≠ e->h.get? b = some u->h'.get? b = some u) (heo:∃ u,h'.get? e = some u)
  (new:jcv P w (upd H x o') h' x o'):HOk P w (upd H x o') h':=fun b u q=>by
 have nown:∀ c y,H c = some (.own y)->c ≠ x:=fun c y r z=>by subst z; rw [r] at mu; exact mu
 have ntup:∀ c xs,H c = some (.tup xs)->c ≠ x:=fun c xs r z=>by subst z; rw [r] at mu; exact mu
 by_cases hb:b = x
 ·subst hb; rw [ja1] at q; cases q; exact new
 ·rw [jb7 hb] at q
  by_cases hbe:b = e
  ·have q':H b = some (.own x):=by
    rcases he with z | z
    ·exact absurd (hbe.trans z) hb
    ·rw [hbe]; exact z
   rw [q] at q'; cases q'
   obtain ⟨v,hv⟩:=heo
   exact ⟨v,by rw [hbe]; exact hv⟩
  ·refine (ok b u q).stay (fun c v hc r=>k c v ?_ r) (fun c r=>by rw [jb7 (nown c b r)]; exact r) fun c xs r=>by rw [jb7 (ntup c xs r)]; exact r
   rcases hc with rfl | hc
   ·exact hbe
   ·rintro rfl
    rcases he with z | z
    ·exact nown c b hc z
    ·rw [hc] at z; cases z; exact hb rfl
end
structure Un (fs ex:List Addr) (H H':Hp) (h h':Heap):Prop where
 keep:∀ b o,h.get? b = some o->H b = none->b ∉ fs->b ∉ ex->h'.get? b = some o
 slot:∀ b o,h.get? b = some o->H b = none->b ∈ fs->b ∉ ex->∃ sl,h'.get? b = some { o with slots:=sl }
 free:∀ b o,h.get? b = some o->H b = none->b ∉ ex->H' b = none
 there:∀ b o,h.get? b = some o->b ∉ ex->∃ o',h'.get? b = some o'
 tups:∀ b xs,H b = some (.tup xs)->H' b = some (.tup xs)
 frzs:∀ b o u,H b = some (.frz o u)->H' b = some (.frz o u)
 tbls:∀ b ps,H b = some (.tbl ps)->∃ more,H' b = some (.tbl (ps ++ more))
section
variable {fs fs' ex ex':List Addr} {H H1 H2:Hp} {h h1 h2 h':Heap} {a x e:Addr} {o:HO}
theorem Un.any (u:Un fs ex H H1 h h1) {b:Addr} {ob:Obj} (q:h.get? b = some ob) (n:H b = none) (hx:b ∉ ex):∃ sl,h1.get? b = some { ob with slots:=sl }:=by
 by_cases hb:b ∈ fs
 ·exact u.slot b ob q n hb hx
 ·exact ⟨ob.slots,u.keep b ob q n hb hx⟩
theorem Un.trans (a:Un fs ex H H1 h h1) (b:Un fs ex H1 H2 h1 h2):Un fs ex H H2 h h2 where
 keep:=fun c ob q n hc hx=>b.keep c ob (a.keep c ob q n hc hx) (a.free c ob q n hx) hc hx
 slot:=fun c ob q n hc hx=>by
  obtain ⟨sl,e1⟩:=a.slot c ob q n hc hx
  obtain ⟨sl',e2⟩:=b.slot c _ e1 (a.free c ob q n hx) hc hx
  exact ⟨sl',e2⟩
 free:=fun c ob q n hx=>by
  obtain ⟨o',e1⟩:=a.there c ob q hx
  exact b.free c o' e1 (a.free c ob q n hx) hx
 there:=fun c ob q hx=>by
  obtain ⟨o',e1⟩:=a.there c ob q hx
  exact b.there c o' e1 hx
 tups:=fun c xs q=>b.tups c xs (a.tups c xs q)
 frzs:=fun c ob xs q=>b.frzs c ob xs (a.frzs c ob xs q)
 tbls:=fun c ps q=>by
  obtain ⟨m1,e1⟩:=a.tbls c ps q
  obtain ⟨m2,e2⟩:=b.tbls c _ e1
  exact ⟨m1 ++ m2,by rw [e2,Array.append_assoc]⟩
theorem Un.kept (k:∀ b u,h.get? b = some u->h'.get? b = some u):Un fs ex H H h h' :=
 ⟨fun b ob q _ _ _=>k b ob q,fun b ob q _ _ _=>⟨ob.slots,k b ob q⟩,fun _ _ _ n _=>n,fun b ob q _=>⟨ob,k b ob q⟩,fun _ _ q=>q,fun _ _ _ q=>q,fun _ ps q=>⟨#[],by rw [q]; simp⟩⟩
theorem Un.refl:Un fs ex H H h h:=Un.kept fun _ _ q=>q
theorem Un.laid (k:∀ b u,h.get? b = some u->h'.get? b = some u) (hp:h.objs.size <= a) (hn:H a = none):Un fs ex H (upd H a o) h h' where
 keep:=fun b u q _ _ _=>k b u q
 slot:=fun b u q _ _ _=>⟨u.slots,k b u q⟩
 free:=fun b u q n _=>by rw [jb7 (Nat.ne_of_lt (Nat.lt_of_lt_of_le (Heap.lt_size q) hp))]; exact n
 there:=fun b u q _=>⟨u,k b u q⟩
 tups:=fun b xs q=>by rw [jb7 (jaj q hn)]; exact q
 frzs:=fun b u xs q=>by rw [jb7 (jaj q hn)]; exact q
 tbls:=fun b ps q=>⟨#[],by rw [jb7 (jaj q hn),q]; simp⟩
theorem Un.write (mu:Mut (H x)) (he:e = x \/ H e = some (.own x)) (k:∀ b u,b ≠ e->h.get? b = some u->h'.get? b = some u) (heo:∃ u,h'.get? e = some u):Un fs ex H (upd H x o) h h':=by
 have hx:∀ b,H b = none->b ≠ x:=fun b n z=>by subst z; rw [n] at mu; exact mu
 have hb:∀ b,H b = none->b ≠ e:=fun b n z=>by
  subst z
  rcases he with r | r
  ·exact hx b n r
  ·rw [n] at r; cases r
 have hm:∀ b u,H b = some u->¬ Mut (some u)->b ≠ x:=fun b u q nm z=>by subst z; rw [q] at mu; exact nm mu
 refine ⟨fun b u q n _ _=>k b u (hb b n) q,fun b u q n _ _=>⟨u.slots,k b u (hb b n) q⟩,fun b u q n _=>by rw [jb7 (hx b n)]; exact n,fun b u q _=>?_,
  fun b xs q=>by rw [jb7 (hm b _ q fun z=>z)]; exact q,fun b u xs q=>by rw [jb7 (hm b _ q fun z=>z)]; exact q,fun b ps q=>⟨#[],by rw [jb7 (hm b _ q fun z=>z),q]; simp⟩⟩
 by_cases hbe:b = e
 ·subst hbe; exact heo
 ·exact ⟨u,k b u hbe q⟩
theorem Un.mono (u:Un fs ex H H1 h h1) (hs:∀ b ∈ fs,b ∈ fs') (hx:∀ b ∈ ex,b ∈ ex'):Un fs' ex' H H1 h h1 :=
 ⟨fun b ob q n hb he=>u.keep b ob q n (fun z=>hb (hs b z)) fun z=>he (hx b z),fun _ _ q n _ he=>u.any q n fun z=>he (hx _ z),fun b ob q n he=>u.free b ob q n fun z=>he (hx b z),fun b ob q he=>u.there b ob q fun z=>he (hx b z),u.tups,u.frzs,u.tbls⟩
end
def trk (h:Heap) (H:Hp):List Addr:=(List.range h.objs.size).filter fun a=>(H a).isSome
def hidT (h:Heap) (H:Hp):Heap:=PySem.W.hideAll h (trk h H)
theorem jqj (h:Heap) (H:Hp):(hidT h H).objs.size = h.objs.size:=PySem.W.hideAll_size _ _
theorem js7 {h:Heap} {H:Hp} {b:Addr} {o:Obj} (e:h.get? b = some o) (n:H b = none):(hidT h H).get? b = some o :=
 PySem.W.hideAll_get _ e fun hm=>by
  have q:(H b).isSome = true:=(List.mem_filter.mp hm).2
  rw [n] at q; simp at q
theorem jug {h:Heap} {H:Hp} {b:Addr} {o:Obj} (e:(hidT h H).get? b = some o):h.get? b = some o/\H b = none:=by
 have e':h.get? b = some o:=PySem.W.of_hideAll (trk h H) e
 refine ⟨e',?_⟩
 cases q:H b with
 | none=>rfl
 | some x =>
  have hm:b ∈ trk h H:=List.mem_filter.mpr ⟨List.mem_range.mpr (Heap.lt_size e'),by simp [q]⟩
  have z:(hidT h H).get? b = none:=PySem.W.hideAll_none (trk h H) hm
  rw [z] at e; cases e
structure Mod (K:PySem.W.Frag) (mg:Str->Option Value) (base:Heap):Prop where
 kin:K.In base
 glob:base.Ns mainGlobals mg
 blt:∃ mb,base.Ns builtinsNs mb/\∀ x:Str,x ≠ "__name__"->mb x = bootBuiltins x
 nolimit:base.NoLimit
structure Cx where
 prog:Program
 w:World
 K:PySem.W.Frag
 mg:Str->Option Value
 base:Heap
 A:Around
 N:List Str
 s₀:Shared
 H₀:Hp
 env:Env
 outer:List Env
 stack:List Env
 ex:List Addr
 fn:Str->Bool
 calm:Bool
 pn:List (Addr × Obj)
 xe:Value->Shared->Prop
def frs (l:List Env):List Addr:=l.filterMap (·.frame)
abbrev Cx.fs (X:Cx):List Addr:=frs X.outer
def Vis (sc:Scope) (x:Str):Prop:=sc.names.lookup x = some .local \/ sc.names.lookup x = some .cell \/ sc.names.lookup x = some .free
def Loc (sc:Scope) (x:Str):Prop:=sc.names.lookup x = some .local \/ sc.names.lookup x = some .cell
def Look (env:Env) (h:Heap) (m:Str->Option Value) (x:Str) (u:Value):Prop :=
 (env.kindOf x = some .local/\m x = some u) \/ ((env.kindOf x = some .cell \/ env.kindOf x = some .free)/\∃ c,env.cells.lookup x = some c/\h.IsCell c (some u))
structure Cx.Ok (X:Cx):Prop where
 mod:Mod X.K X.mg X.base
 kind:X.env.scope.kind = .function
 glob:X.env.globals = mainGlobals
 blt:X.env.builtins = builtinsNs
 above:X.s₀.heap.objs.size <= X.env.locals
 inj:∀ x y c,X.env.cells.lookup x = some c->X.env.cells.lookup y = some c->x = y
 has:∀ x,(X.env.kindOf x = some .cell \/ X.env.kindOf x = some .free)->∃ c,X.env.cells.lookup x = some c
 cab:∀ x c,X.fn x = true->X.env.cells.lookup x = some c->X.s₀.heap.objs.size <= c
 hd:X.calm = true->X.A.handled = none
 frames:X.A.frames = some X.stack
 stk:X.stack = X.outer \/ (X.stack = X.env :: X.outer/\X.env.frame = some X.env.locals)
 exf:∀ b ∈ X.ex,b ≠ X.env.locals/\∀ x c,X.env.cells.lookup x = some c->c ≠ b
 bs:∀ b o,X.base.get? b = some o->X.s₀.heap.get? b = some o/\X.H₀ b = none
 bsz:X.base.objs.size <= X.s₀.heap.objs.size
 noex:∀ b o,X.base.get? b = some o->b ∉ X.ex
 exfs:∀ b ∈ X.ex,b ∉ X.fs
 funs:X.s₀.heap.FunFrames X.base X.outer
 frf:∀ b ∈ X.fs,X.H₀ b = none
structure Inv (X:Cx) (pins:List (Addr × Obj)) (σ:List (Option V)) (H:Hp) (s:Shared):Prop where
 ok:X.Ok
 os:s.os = X.s₀.os
 bare:AllBare s.gens
 base:Un X.fs X.ex X.H₀ H X.s₀.heap s.heap
 loc:∃ m,s.heap.Ns X.env.locals m/\∀ (i:Nat) (x:Str) (v:V),X.N[i]? = some x->σ[i]? = some (some v)->Vis X.env.scope x->∃ u,RelV v u/\Look X.env s.heap m x u
 cell:∀ x c,X.env.cells.lookup x = some c->∃ v,s.heap.IsCell c v
 free:H X.env.locals = none
 freeC:∀ x c,X.env.cells.lookup x = some c->H c = none
 pin:∀ p ∈ X.pn ++ pins,s.heap.get? p.1 = some p.2/\H p.1 = none/\p.1 ≠ X.env.locals/\p.1 ∉ X.fs/\∀ v,p.2.data ≠ .cell v
 hok:HOk X.prog X.w H s.heap
 len:σ.length = X.N.length
section
variable {X:Cx} {pins:List (Addr × Obj)} {σ:List (Option V)} {H H':Hp} {s:Shared} {h':Heap}
theorem Cx.Ok.nofr (ok:X.Ok) {b:Addr} {o:Obj} (e:X.base.get? b = some o):b ∉ X.fs:=fun hb=>by
 have:=(ok.funs.mem hb).1
 rw [e] at this; cases this
theorem Inv.bs (I:Inv X pins σ H s):∀ b o,X.base.get? b = some o->s.heap.get? b = some o/\H b = none:=fun b o e =>
 ⟨I.base.keep b o (I.ok.bs b o e).1 (I.ok.bs b o e).2 (I.ok.nofr e) (I.ok.noex b o e),I.base.free b o (I.ok.bs b o e).1 (I.ok.bs b o e).2 (I.ok.noex b o e)⟩
theorem Inv.bk (I:Inv X pins σ H s):∀ b o,X.base.get? b = some o->s.heap.get? b = some o:=fun b o e=>(I.bs b o e).1
theorem Inv.mod (I:Inv X pins σ H s):Mod X.K X.mg X.base:=I.ok.mod
theorem Inv.kIn (I:Inv X pins σ H s):X.K.In s.heap:=I.ok.mod.kin.keeps I.bk
theorem Inv.fr (I:Inv X pins σ H s):∃ m,Fr X.base X.env.locals s.heap m :=
 let ⟨m,hn,_⟩:=I.loc
 ⟨m,hn,I.bk,Nat.le_trans I.ok.bsz I.ok.above⟩
theorem Inv.lt (I:Inv X pins σ H s):X.env.locals < s.heap.objs.size:=let ⟨_,hn,_⟩:=I.loc; hn.lt
theorem Inv.sz (I:Inv X pins σ H s):X.s₀.heap.objs.size <= s.heap.objs.size:=Nat.le_trans I.ok.above (Nat.le_of_lt I.lt)
theorem Inv.nofs (I:Inv X pins σ H s) {a:Addr} (h:s.heap.objs.size <= a):a ∉ X.fs:=fun hb=>by
 obtain ⟨_,o,ho,_⟩:=I.ok.funs.mem hb
 exact absurd (Nat.lt_of_lt_of_le (Heap.lt_size ho) (Nat.le_trans I.sz h)) (Nat.lt_irrefl _)
theorem Inv.cne (I:Inv X pins σ H s):∀ x c,X.env.cells.lookup x = some c->c ≠ X.env.locals:=fun x c e z=>by
 obtain ⟨v,o,ho,hd⟩:=I.cell x c e
 obtain ⟨m,⟨o',es,ep,ho',hd',_⟩,_⟩:=I.loc
 rw [z,ho'] at ho; cases ho; rw [hd'] at hd; cases hd
theorem Inv.funs (I:Inv X pins σ H s):s.heap.FunFrames X.base X.outer:=by
 have all:∀ (l:List Env),(∀ b ∈ frs l,b ∈ X.fs)->X.s₀.heap.FunFrames X.base l->s.heap.FunFrames X.base l:=by
  intro l
  induction l with
  | nil=>intro _ _; trivial
  | cons env r ih =>
   intro hs hl
   obtain ⟨hk,⟨L,o,hf,hn,ho,hd⟩,hr⟩:=hl
   have hL:L ∈ X.fs:=hs L (by unfold frs; rw [List.filterMap_cons,hf]; exact List.mem_cons_self)
   obtain ⟨sl,e⟩:=I.base.slot L o ho (I.ok.frf L hL) hL fun z=>I.ok.exfs L z hL
   exact ⟨hk,⟨L,_,hf,hn,e,hd⟩,ih (fun b hb=>hs b (by unfold frs; rw [List.filterMap_cons,hf]; exact List.mem_cons_of_mem _ hb)) hr⟩
 exact all X.outer (fun _ hb=>hb) I.ok.funs
theorem Inv.stack (I:Inv X pins σ H s):s.heap.FunFrames X.base X.stack:=by
 rcases I.ok.stk with e | ⟨e,hf⟩
 ·rw [e]; exact I.funs
 ·rw [e]
  obtain ⟨m,hn,_⟩:=I.loc
  refine .cons (by rw [I.ok.kind]; decide) hf hn ?_ I.funs
  exact Heap.get?_none_of_le (Nat.le_trans I.ok.bsz I.ok.above)
theorem Inv.stkSub (I:Inv X pins σ H s):∀ b ∈ frs X.stack,b ∈ X.env.locals :: X.fs:=fun b hb=>by
 rcases I.ok.stk with e | ⟨e,hf⟩
 ·rw [e] at hb; exact List.mem_cons_of_mem _ hb
 ·rw [e] at hb
  unfold frs at hb
  rw [List.filterMap_cons,hf] at hb
  exact hb
theorem Inv.stkFree (I:Inv X pins σ H s):∀ b ∈ frs X.stack,H b = none:=fun b hb=>by
 rcases List.mem_cons.mp (I.stkSub b hb) with e | hb
 ·rw [e]; exact I.free
 ·obtain ⟨_,o,ho,_⟩:=I.ok.funs.mem hb
  exact I.base.free b o ho (I.ok.frf b hb) fun z=>I.ok.exfs b z hb
theorem Inv.step {g':Array GenState} {t':Nat} {d':Drawn} {ch:List Addr} (I:Inv X pins σ H s)
  (hch:∀ b ∈ ch,(b ∈ X.ex \/ X.s₀.heap.objs.size <= b)/\b ≠ X.env.locals/\(∀ x c,X.env.cells.lookup x = some c->c ≠ b)/\∀ p ∈ X.pn ++ pins,p.1 ≠ b)
  (keep:∀ b o,b ≠ X.env.locals->b ∉ X.fs->b ∉ ch->s.heap.get? b = some o->H b = none->h'.get? b = some o)
  (slot:∀ b o,b ≠ X.env.locals->b ∈ X.fs->b ∉ ch->s.heap.get? b = some o->H b = none->∃ sl,h'.get? b = some { o with slots:=sl }) (free:∀ b o,b ∉ ch->s.heap.get? b = some o->H b = none->H' b = none)
  (there:∀ b o,b ∉ ch->s.heap.get? b = some o->∃ o',h'.get? b = some o')
  (tups:∀ b xs,H b = some (.tup xs)->H' b = some (.tup xs)) (frzs:∀ b o u,H b = some (.frz o u)->H' b = some (.frz o u)) (tbls:∀ b ps,H b = some (.tbl ps)->∃ more,H' b = some (.tbl (ps ++ more)))
  (ns:∀ m,s.heap.Ns X.env.locals m->h'.Ns X.env.locals m) (hok:HOk X.prog X.w H' h') (hg:AllBare g') :
  Inv X pins σ H' { s with heap:=h',gens:=g',drawn:=d',toks:=t' }:=by
 have neL:∀ b o,X.s₀.heap.get? b = some o->b ≠ X.env.locals:=fun b o e=>Nat.ne_of_lt (Nat.lt_of_lt_of_le (Heap.lt_size e) I.ok.above)
 have neC:∀ b o,X.s₀.heap.get? b = some o->b ∉ X.ex->b ∉ ch:=fun b o e hx hb=>by
  rcases (hch b hb).1 with z | z
  ·exact hx z
  ·exact absurd (Nat.lt_of_lt_of_le (Heap.lt_size e) z) (Nat.lt_irrefl _)
 have cellK:∀ x c,X.env.cells.lookup x = some c->∀ v,s.heap.IsCell c v->h'.IsCell c v:=fun x c e v ⟨o,ho,hd⟩=>by
  have nch:c ∉ ch:=fun z=>(hch c z).2.2.1 x c e rfl
  by_cases hc:c ∈ X.fs
  ·obtain ⟨sl,q⟩:=slot c o (I.cne x c e) hc nch ho (I.freeC x c e)
   exact ⟨_,q,hd⟩
  ·exact ⟨o,keep c o (I.cne x c e) hc nch ho (I.freeC x c e),hd⟩
 refine ⟨I.ok,I.os,hg,⟨fun b o e n hb hx=>?_,fun b o e n hb hx=>?_,fun b o e n hx=>?_,fun b o e hx=>?_,fun b xs e=>tups b xs (I.base.tups b xs e),fun b o xs e=>frzs b o xs (I.base.frzs b o xs e),fun b ps e=>?_⟩,?_,fun x c e=>?_,?_,fun x c e=>?_,fun p hp=>?_,hok,I.len⟩
 ·exact keep b o (neL b o e) hb (neC b o e hx) (I.base.keep b o e n hb hx) (I.base.free b o e n hx)
 ·obtain ⟨sl,e1⟩:=I.base.slot b o e n hb hx
  obtain ⟨sl',e2⟩:=slot b _ (neL b o e) hb (neC b o e hx) e1 (I.base.free b o e n hx)
  exact ⟨sl',e2⟩
 ·obtain ⟨o',e1⟩:=I.base.there b o e hx
  exact free b o' (neC b o e hx) e1 (I.base.free b o e n hx)
 ·obtain ⟨o',e1⟩:=I.base.there b o e hx
  exact there b o' (neC b o e hx) e1
 ·obtain ⟨m1,e1⟩:=I.base.tbls b ps e
  obtain ⟨m2,e2⟩:=tbls b _ e1
  exact ⟨m1 ++ m2,by rw [e2,Array.append_assoc]⟩
 ·obtain ⟨m,hn,hl⟩:=I.loc
  refine ⟨m,ns m hn,fun i x v e1 e2 e3=>?_⟩
  obtain ⟨u,r,l⟩:=hl i x v e1 e2 e3
  refine ⟨u,r,?_⟩
  rcases l with l | ⟨k,c,e,z⟩
  ·exact .inl l
  ·exact .inr ⟨k,c,e,cellK x c e _ z⟩
 ·obtain ⟨v,z⟩:=I.cell x c e
  exact ⟨v,cellK x c e v z⟩
 ·obtain ⟨m,⟨o,_,_,ho,_⟩,_⟩:=I.loc
  exact free _ o (fun z=>(hch _ z).2.1 rfl) ho I.free
 ·obtain ⟨v,o,ho,hd⟩:=I.cell x c e
  exact free c o (fun z=>(hch c z).2.2.1 x c e rfl) ho (I.freeC x c e)
 ·obtain ⟨e,n,ne,nf,d⟩:=I.pin p hp
  have nch:p.1 ∉ ch:=fun z=>(hch p.1 z).2.2.2 p hp rfl
  exact ⟨keep p.1 p.2 ne nf nch e n,free p.1 p.2 nch e n,ne,nf,d⟩
theorem Inv.un {t':Nat} (I:Inv X pins σ H s) (u:Un X.fs [] H H' s.heap h') (hok:HOk X.prog X.w H' h'):Inv X pins σ H' { s with heap:=h',toks:=t' }:=by
 obtain ⟨m,⟨o,es,ep,ho,r⟩,_⟩:=id I.loc
 obtain ⟨sl,hL⟩:=u.any ho I.free (by simp)
 exact I.step (g':=s.gens) (d':=s.drawn) (ch:=[]) (fun _ z=>nomatch z) (fun b o _ hb _ e n=>u.keep b o e n hb (by simp)) (fun b o _ hb _ e n=>u.slot b o e n hb (by simp)) (fun b o _ e n=>u.free b o e n (by simp)) (fun b o _ e=>u.there b o e (by simp)) u.tups u.frzs u.tbls (fun m' hm=>by
  obtain ⟨o',es',ep',ho',r'⟩:=hm
  rw [ho] at ho'; cases ho'
  exact ⟨_,es',ep',hL,r'⟩) hok I.bare
theorem Inv.call {g':Array GenState} {t':Nat} {d':Drawn} {ch:List Addr} (I:Inv X pins σ H s) (u:Un (frs X.stack) ch H H' s.heap h') (hok:HOk X.prog X.w H' h') (hg:AllBare g')
  (hch:∀ b ∈ ch,(b ∈ X.ex \/ X.s₀.heap.objs.size <= b)/\b ≠ X.env.locals/\(∀ x c,X.env.cells.lookup x = some c->c ≠ b)/\∀ p ∈ X.pn ++ pins,p.1 ≠ b) :
  Inv X pins σ H' { s with heap:=h',gens:=g',drawn:=d',toks:=t' }:=by
 obtain ⟨m,⟨o,es,ep,ho,r⟩,_⟩:=id I.loc
 obtain ⟨sl,hL⟩:=u.any ho I.free fun z=>(hch _ z).2.1 rfl
 exact I.step (ch:=ch) hch (fun b o hL hb hc e n=>u.keep b o e n (fun z=>(List.mem_cons.mp (I.stkSub b z)).elim hL hb) hc) (fun b o _ _ hc e n=>u.any e n hc) (fun b o hc e n=>u.free b o e n hc) (fun b o hc e=>u.there b o e hc) u.tups u.frzs u.tbls (fun m' hm=>by
  obtain ⟨o',es',ep',ho',r'⟩:=hm
  rw [ho] at ho'; cases ho'
  exact ⟨_,es',ep',hL,r'⟩) hok hg
theorem Inv.turned {t':Nat} {it:Addr} (I:Inv X pins σ H s) (k:∀ b o,b ≠ it->s.heap.get? b = some o->h'.get? b = some o) (hn:H it = none) (hL:it ≠ X.env.locals)
  (h1:it ∈ X.ex \/ X.s₀.heap.objs.size <= it) (h2:∀ x c,X.env.cells.lookup x = some c->c ≠ it) (h3:∀ p ∈ X.pn ++ pins,p.1 ≠ it):Inv X pins σ H { s with heap:=h',toks:=t' }:=by
 have nit:∀ b u,H b = some u->b ≠ it:=fun b u e z=>by rw [z,hn] at e; cases e
 refine I.step (g':=s.gens) (d':=s.drawn) (ch:=[it]) (fun b hb=>?_) (fun b o _ _ hc e _=>k b o (fun z=>hc (by simp [z])) e) (fun b o _ _ hc e _=>⟨o.slots,k b o (fun z=>hc (by simp [z])) e⟩) (fun _ _ _ _ n=>n)
  (fun b o hc e=>⟨o,k b o (fun z=>hc (by simp [z])) e⟩) (fun _ _ e=>e) (fun _ _ _ e=>e) (fun b ps e=>⟨#[],by rw [e]; simp⟩) (fun m hm=>?_) (fun b u e=>?_) I.bare
 ·have e:b = it:=by simpa using hb
  subst e
  exact ⟨h1,hL,h2,h3⟩
 ·obtain ⟨o,es,ep,ho,r⟩:=hm
  exact ⟨o,es,ep,k _ o (Ne.symm hL) ho,r⟩
 ·refine (I.hok b u e).stay (fun c v hc q=>k c v ?_ q) (fun _ q=>q) fun _ _ q=>q
  rcases hc with z | z
  ·rw [z]; exact nit b u e
  ·exact nit c _ z
theorem Inv.tok (I:Inv X pins σ H s) (t:Nat):Inv X pins σ H { s with toks:=t }:=I.un (h':=s.heap) (t':=t) Un.refl I.hok
theorem Inv.kept {t':Nat} (I:Inv X pins σ H s) (k:∀ b u,s.heap.get? b = some u->h'.get? b = some u):Inv X pins σ H { s with heap:=h',toks:=t' }:=I.un (Un.kept k) (I.hok.kept k)
theorem Inv.laid {a:Addr} {o:HO} {t':Nat} (I:Inv X pins σ H s) (k:∀ b u,s.heap.get? b = some u->h'.get? b = some u) (hp:s.heap.objs.size <= a) (new:jcv X.prog X.w (upd H a o) h' a o) :
  Inv X pins σ (upd H a o) { s with heap:=h',toks:=t' }:=I.un (Un.laid k hp (I.hok.fresh hp)) (I.hok.laid k hp new)
theorem Inv.write {x e:Addr} {o:HO} {t':Nat} (I:Inv X pins σ H s) (mu:Mut (H x)) (he:e = x \/ H e = some (.own x)) (k:∀ b u,b ≠ e->s.heap.get? b = some u->h'.get? b = some u) (heo:∃ u,h'.get? e = some u)
  (new:jcv X.prog X.w (upd H x o) h' x o):Inv X pins σ (upd H x o) { s with heap:=h',toks:=t' }:=I.un (Un.write mu he k heo) (I.hok.write mu he k heo new)
theorem Inv.pins_of {pins':List (Addr × Obj)} (I:Inv X pins σ H s) (h:∀ p ∈ pins',s.heap.get? p.1 = some p.2/\H p.1 = none/\p.1 ≠ X.env.locals/\p.1 ∉ X.fs/\∀ v,p.2.data ≠ .cell v):Inv X pins' σ H s :=
 ⟨I.ok,I.os,I.bare,I.base,I.loc,I.cell,I.free,I.freeC,fun p hp=>(List.mem_append.mp hp).elim (fun z=>I.pin p (List.mem_append_left _ z)) (h p),I.hok,I.len⟩
theorem jna {N:List Str} (hN:N.Nodup) {i j:Nat} {x:Str} (a:N[i]? = some x) (b:N[j]? = some x):i = j:=by
 obtain ⟨h1,e1⟩:=List.getElem?_eq_some_iff.mp a
 obtain ⟨h2,e2⟩:=List.getElem?_eq_some_iff.mp b
 exact (List.getElem_inj hN).mp (e1.trans e2.symm)
theorem jk9 {M:Model} {A:Around} {E:Value->Shared->Prop} {i:Nat} {x:Str} {v:V} {u:Value} {Q:Unit->Shared->Prop} (I:Inv X pins σ H s) (hN:X.N.Nodup) (hi:X.N[i]? = some x) (hx:Loc X.env.scope x) (r:RelV v u)
  (h:∀ s',Inv X pins (σ.set i (some v)) H s'->(∃ a,Heap.SameBut a s.heap s'.heap/\(a = X.env.locals \/ X.env.cells.lookup x = some a))->Q () s') (hf:X.fn x = true \/ X.env.scope.names.lookup x = some .local:=by first | exact .inl rfl | exact .inr rfl | assumption):wpAny M A (storeName X.env x u) Q E s:=by
 obtain ⟨m,hn,hl⟩:=id I.loc
 have hcls:(X.env.scope.kind == .class || (X.env.scope.kind == .module && X.env.locals != X.env.globals)) = false:=by rw [I.ok.kind]; rfl
 have hiσ:i < σ.length:=by rw [I.len]; exact (List.getElem?_eq_some_iff.mp hi).1
 have cne:=I.cne
 have tracked:∀ {a:Addr} {h':Heap},(∃ o,s.heap.get? a = some o/\H a = none)->Heap.SameBut a s.heap h'->HOk X.prog X.w H h':=fun {a h'} ha hs b ob e=>by
  obtain ⟨_,_,hfree⟩:=ha
  refine (I.hok b ob e).stay (fun c w' hc q=>(hs.2 c ?_).trans q) (fun _ q=>q) fun _ _ q=>q
  rintro rfl
  rcases hc with rfl | hc
  ·rw [hfree] at e; cases e
  ·rw [hfree] at hc; cases hc
 rcases hx with hk | hk
 ·refine wpAny_storeName_local hk hn (fun h' hn' hs=>?_) hcls
  obtain ⟨oL,_,_,hoL,_⟩:=id hn
  refine h _ ⟨I.ok,I.os,I.bare,⟨fun b o e n hb hx=>?_,fun b o e n hb hx=>?_,I.base.free,fun b o e hx=>?_,I.base.tups,I.base.frzs,I.base.tbls⟩,⟨_,hn',fun j y v' e1 e2 e3=>?_⟩,fun y c e=>?_,I.free,I.freeC,fun p hp=>?_,tracked ⟨oL,hoL,I.free⟩ hs,by simpa using I.len⟩ ⟨_,hs,.inl rfl⟩
  ·exact (hs.2 b (Nat.ne_of_lt (Nat.lt_of_lt_of_le (Heap.lt_size e) I.ok.above))).trans (I.base.keep b o e n hb hx)
  ·obtain ⟨sl,e1⟩:=I.base.slot b o e n hb hx
   exact ⟨sl,(hs.2 b (Nat.ne_of_lt (Nat.lt_of_lt_of_le (Heap.lt_size e) I.ok.above))).trans e1⟩
  ·obtain ⟨o',e1⟩:=I.base.there b o e hx
   exact ⟨o',(hs.2 b (Nat.ne_of_lt (Nat.lt_of_lt_of_le (Heap.lt_size e) I.ok.above))).trans e1⟩
  ·by_cases hj:j = i
   ·subst hj
    rw [hi] at e1; cases e1
    rw [List.getElem?_set_self hiσ] at e2
    cases e2
    exact ⟨u,r,.inl ⟨hk,by simp⟩⟩
   ·rw [List.getElem?_set_ne (Ne.symm hj)] at e2
    obtain ⟨u',r',q⟩:=hl j y v' e1 e2 e3
    refine ⟨u',r',?_⟩
    rcases q with ⟨k,e⟩ | ⟨k,c,e,z⟩
    ·refine .inl ⟨k,?_⟩
     have:y ≠ x:=fun e=>hj (jna hN e1 (e ▸ hi))
     simp [this,e]
    ·exact .inr ⟨k,c,e,z.sameBut hs (cne y c e)⟩
  ·obtain ⟨w',z⟩:=I.cell y c e
   exact ⟨w',z.sameBut hs (cne y c e)⟩
  ·obtain ⟨e,n,ne,nf,d⟩:=I.pin p hp
   exact ⟨(hs.2 p.1 ne).trans e,n,ne,nf,d⟩
 ·have hfn:X.fn x = true:=by
   rcases hf with z | z
   ·exact z
   ·rw [z] at hk; cases hk
  obtain ⟨c,hc⟩:=I.ok.has x (.inl hk)
  obtain ⟨w',z⟩:=I.cell x c hc
  refine wpAny_storeName_cell I.ok.kind hk hc z (fun h' hc' hs=>?_)
  obtain ⟨oc,hoc,hocd⟩:=id z
  refine h { s with heap:=h' } ⟨I.ok,I.os,I.bare,⟨fun b o e n hb hx=>?_,fun b o e n hb hx=>?_,I.base.free,fun b o e hx=>?_,I.base.tups,I.base.frzs,I.base.tbls⟩,⟨m,hn.sameBut hs (Ne.symm (cne x c hc)),fun j y v' e1 e2 e3=>?_⟩,fun y c' e=>?_,I.free,I.freeC,fun p hp=>?_,tracked ⟨oc,hoc,I.freeC x c hc⟩ hs,by simpa using I.len⟩ ⟨c,hs,.inr hc⟩
  ·exact (hs.2 b (Nat.ne_of_lt (Nat.lt_of_lt_of_le (Heap.lt_size e) (I.ok.cab x c hfn hc)))).trans (I.base.keep b o e n hb hx)
  ·obtain ⟨sl,e1⟩:=I.base.slot b o e n hb hx
   exact ⟨sl,(hs.2 b (Nat.ne_of_lt (Nat.lt_of_lt_of_le (Heap.lt_size e) (I.ok.cab x c hfn hc)))).trans e1⟩
  ·obtain ⟨o',e1⟩:=I.base.there b o e hx
   exact ⟨o',(hs.2 b (Nat.ne_of_lt (Nat.lt_of_lt_of_le (Heap.lt_size e) (I.ok.cab x c hfn hc)))).trans e1⟩
  ·by_cases hj:j = i
   ·subst hj
    rw [hi] at e1; cases e1
    rw [List.getElem?_set_self hiσ] at e2
    cases e2
    exact ⟨u,r,.inr ⟨.inl hk,c,hc,hc'⟩⟩
   ·rw [List.getElem?_set_ne (Ne.symm hj)] at e2
    obtain ⟨u',r',q⟩:=hl j y v' e1 e2 e3
    refine ⟨u',r',?_⟩
    rcases q with q | ⟨k,c',e,z'⟩
    ·exact .inl q
    ·refine .inr ⟨k,c',e,z'.sameBut hs ?_⟩
     rintro rfl
     exact hj (jna hN e1 (I.ok.inj _ _ _ e hc ▸ hi))
  ·by_cases hcc:c' = c
   ·subst hcc; exact ⟨_,hc'⟩
   ·obtain ⟨w2,z2⟩:=I.cell y c' e
    exact ⟨w2,z2.sameBut hs hcc⟩
  ·obtain ⟨e,n,ne,nf,d⟩:=I.pin p hp
   refine ⟨(hs.2 p.1 ?_).trans e,n,ne,nf,d⟩
   intro q
   rw [q,hoc] at e
   have q':oc = p.2:=Option.some.inj e
   exact d w' (by rw [<- q']; exact hocd)
theorem jio {M:Model} {A:Around} {E:Value->Shared->Prop} {i:Nat} {x:Str} {v:V} {u:Value} {Q:Unit->Shared->Prop} (I:Inv X pins σ H s) (hN:X.N.Nodup) (hi:X.N[i]? = some x) (hx:Loc X.env.scope x) (r:RelV v u)
  (h:∀ s',Inv X pins (σ.set i (some v)) H s'->Q () s') (hf:X.fn x = true \/ X.env.scope.names.lookup x = some .local:=by first | exact .inl rfl | exact .inr rfl | assumption):wpAny M A (storeName X.env x u) Q E s :=
 jk9 I hN hi hx r (fun s' I' _=>h s' I') hf
theorem Inv.call' {s':Shared} {ch:List Addr} (I:Inv X pins σ H s) (ho:s'.os = s.os) (u:Un (frs X.stack) ch H H' s.heap s'.heap) (hok:HOk X.prog X.w H' s'.heap) (hg:AllBare s'.gens)
  (hch:∀ b ∈ ch,(b ∈ X.ex \/ X.s₀.heap.objs.size <= b)/\b ≠ X.env.locals/\(∀ x c,X.env.cells.lookup x = some c->c ≠ b)/\∀ p ∈ X.pn ++ pins,p.1 ≠ b):Inv X pins σ H' s':=by
 obtain ⟨h',g',d',t',o'⟩:=s'
 have e:o' = s.os:=ho
 subst e
 exact I.call (g':=g') (t':=t') (d':=d') u hok hg hch
end
abbrev XK:=Value->Option Addr->Hp->Prop
abbrev St:=List (Option V)
abbrev VK:=V->Hp->Prop
abbrev TE:=St->Hp->VK->Prop
abbrev TT:=St->Hp->(Bool->Hp->Prop)->Prop
abbrev TA:=St->Hp->(List V->Hp->Prop)->Prop
structure Ends where
 nx:St->Hp->Prop
 rt:VK
 bk:St->Hp->Prop:=fun _ _=>False
 ct:St->Hp->Prop:=fun _ _=>False
abbrev TS:=Ends->St->Hp->Prop
def EP (X:Cx) (pins:List (Addr × Obj)) (σ:St) (Q:VK) (u:Value) (s':Shared):Prop:=∃ v H',Inv X pins σ H' s'/\RelV v u/\Q v H'
def TP (X:Cx) (pins:List (Addr × Obj)) (σ:St) (Q:Bool->Hp->Prop) (b:Bool) (s':Shared):Prop:=∃ H',Inv X pins σ H' s'/\Q b H'
def AP (X:Cx) (pins:List (Addr × Obj)) (σ:St) (Q:List V->Hp->Prop) (us:List Value) (s':Shared):Prop:=∃ vs H',Inv X pins σ H' s'/\Vals vs us/\Q vs H'
def SP (X:Cx) (pins:List (Addr × Obj)) (D:Ends) (f:Flow) (s':Shared):Prop :=
 match f with
 | .next=>∃ σ' H',Inv X pins σ' H' s'/\D.nx σ' H'
 | .brk=>∃ σ' H',Inv X pins σ' H' s'/\D.bk σ' H'
 | .cont=>∃ σ' H',Inv X pins σ' H' s'/\D.ct σ' H'
 | .ret u=>∃ v σ' H',Inv X pins σ' H' s'/\RelV v u/\D.rt v H'
def PE (X:Cx) (e:Expr) (t:TE):Prop :=
 ∀ (pins:List (Addr × Obj)) (s:Shared) (σ:St) (H:Hp) (Q:VK),Inv X pins σ H s->t σ H Q->wpAny (model X.prog X.w) X.A (eval e X.env) (EP X pins σ Q) X.xe s
def PT (X:Cx) (e:Expr) (t:TT):Prop :=
 ∀ (pins:List (Addr × Obj)) (s:Shared) (σ:St) (H:Hp) (Q:Bool->Hp->Prop),Inv X pins σ H s->t σ H Q->wpAny (model X.prog X.w) X.A (isTrue e X.env (eval e X.env)) (TP X pins σ Q) X.xe s
def PW (X:Cx) (e:Expr) (t:TT):Prop :=
 ∀ (whole:Sem Value) (pins:List (Addr × Obj)) (s:Shared) (σ:St) (H:Hp) (Q:Bool->Hp->Prop),Inv X pins σ H s->t σ H Q->wpAny (model X.prog X.w) X.A (isTrue e X.env whole) (TP X pins σ Q) X.xe s
theorem PW.pt {X:Cx} {e:Expr} {t:TT} (h:PW X e t):PT X e t:=h _
def PA (X:Cx) (es:List Expr) (t:TA):Prop :=
 ∀ (pos:Pos) (pins:List (Addr × Obj)) (s:Shared) (σ:St) (H:Hp) (Q:List V->Hp->Prop),Inv X pins σ H s->t σ H Q->wpAny (model X.prog X.w) X.A (spliced (backTo pos (starEach es X.env))) (AP X pins σ Q) X.xe s
def PS (X:Cx) (st:Stmt) (t:TS):Prop :=
 ∀ (pins:List (Addr × Obj)) (s:Shared) (σ:St) (H:Hp) (D:Ends),Inv X pins σ H s->t D σ H->wpAny (model X.prog X.w) X.A (exec st X.env) (SP X pins D) X.xe s
def PSs (X:Cx) (st:List Stmt) (t:TS):Prop :=
 ∀ (pins:List (Addr × Obj)) (s:Shared) (σ:St) (H:Hp) (D:Ends),Inv X pins σ H s->t D σ H->wpAny (model X.prog X.w) X.A (execs st X.env) (SP X pins D) X.xe s
theorem thn {α:Type} {t:Sem α} {Q Q':α->Shared->Prop} {M:Model} {A:Around} {E:Value->Shared->Prop} {s:Shared} (h:wpAny M A t Q E s) (hQ:∀ a s,Q a s->Q' a s):wpAny M A t Q' E s:=wpAny_mono h hQ fun _ _ x=>x
section
variable {X:Cx}
def tVar (i:Nat):TE:=fun σ H Q=>∃ v,σ[i]? = some (some v)/\Q v H
def tC (v:V):TE:=fun _ H Q=>Q v H
theorem pe_var {i:Nat} {x:Str} {pos:Pos} (hN:X.N[i]? = some x) (hv:Vis X.env.scope x) (hd:(x == ("__debug__":Str)) = false:=by decide) (hcd:(x == ("__classdict__":Str)) = false:=by decide):PE X (.Name x pos) (tVar i):=by
 intro pins s σ H Q I h
 obtain ⟨v,e,h⟩:=h
 obtain ⟨m,hn,hl⟩:=I.loc
 obtain ⟨u,r,l⟩:=hl i x v hN e hv
 have fin:EP X pins σ Q u s:=⟨v,H,I,r,h⟩
 rcases l with ⟨hk,hm⟩ | ⟨hk,c,hc,hcell⟩
 ·exact wpAny_Name (wpAny_loadName_local I.ok.kind hk hn hm fin) hd
 ·rcases hk with hk | hk
  ·exact wpAny_Name (wpAny_loadName_cell I.ok.kind hk hc hcell fin) hd
  ·exact wpAny_Name (wpAny_loadName_free I.ok.kind hk hc hcell fin hcd) hd
theorem jai {i j pos}:PE X (.Constant (.int i) j pos) (tC (.int i)):=fun _ _ _ H _ I h=>wpAny_Constant_int ⟨.int i,H,I.tok _,⟨_,rfl⟩,h⟩
theorem jj4 {b j pos}:PE X (.Constant (.bool b) j pos) (tC (.bl b)):=fun _ _ _ H _ I h=>Constant_bool ⟨.bl b,H,I,rfl,h⟩
theorem jsz {j pos}:PE X (.Constant .none j pos) (tC .non):=fun _ _ _ H _ I h=>Constant_none ⟨.non,H,I,rfl,h⟩
def Gl (X:Cx) (x:Str):Prop:=X.env.kindOf x = some .globalImplicit
theorem jma {E:Value->Shared->Prop} {pins:List (Addr × Obj)} {s:Shared} {σ:St} {H:Hp} {x:Str} {u:Value} {pos:Pos} {Q:Value->Shared->Prop} (I:Inv X pins σ H s) (hg:Gl X x) (hm:X.mg x = some u) (h:Q u s)
  (hd:(x == ("__debug__":Str)) = false:=by decide):wpAny (model X.prog X.w) X.A (eval (.Name x pos) X.env) Q E s :=
 Calls.Name_function_global I.ok.kind hg (Calls.loadGlobal_global (by rw [I.ok.glob]; exact I.mod.glob.keeps I.bk) hm h) hd
theorem jfu {E:Value->Shared->Prop} {pins:List (Addr × Obj)} {s:Shared} {σ:St} {H:Hp} {x:Str} {u:Value} {pos:Pos} {Q:Value->Shared->Prop} (I:Inv X pins σ H s) (hg:Gl X x) (hm:X.mg x = none) (hv:bootBuiltins x = some u) (h:Q u s)
  (hn:x ≠ "__name__":=by decide) (hd:(x == ("__debug__":Str)) = false:=by decide):wpAny (model X.prog X.w) X.A (eval (.Name x pos) X.env) Q E s:=by
 obtain ⟨mb,h1,h2⟩:=I.mod.blt
 exact Calls.Name_function_global I.ok.kind hg (Calls.loadGlobal_builtin (by rw [I.ok.glob]; exact I.mod.glob.keeps I.bk) hm (by rw [I.ok.blt]; exact h1.keeps I.bk) ((h2 x hn).trans hv) h) hd
theorem jcx {x:Str} {v:V} {u:Value} {pos:Pos} (hg:Gl X x) (hm:X.mg x = some u) (r:RelV v u) (hd:(x == ("__debug__":Str)) = false:=by decide):PE X (.Name x pos) (tC v) :=
 fun _ _ _ H _ I h=>jma I hg hm ⟨v,H,I,r,h⟩ hd
theorem jgp {x:Str} {v:V} {u:Value} {pos:Pos} (hg:Gl X x) (hm:X.mg x = none) (hv:bootBuiltins x = some u) (r:RelV v u) (hn:x ≠ "__name__":=by decide) (hd:(x == ("__debug__":Str)) = false:=by decide):PE X (.Name x pos) (tC v) :=
 fun _ _ _ H _ I h=>jfu I hg hm hv ⟨v,H,I,r,h⟩ hn hd
variable {a b:Expr} {ta tb:TE} {pos:Pos}
def PC (X:Cx) (op:CmpOp) (a b:Expr) (t:TE):Prop :=
 ∀ (pins:List (Addr × Obj)) (s:Shared) (σ:St) (H:Hp) (Q:VK),Inv X pins σ H s->t σ H Q ->
  wpAny (model X.prog X.w) X.A (eval a X.env) (fun v s₁=>wpAny (model X.prog X.w) X.A (eval b X.env) (fun u s₂=>wpAny (model X.prog X.w) X.A (compareOp op v u) (EP X pins σ Q) X.xe s₂) X.xe s₁) X.xe s
theorem jnc (b:Expr) {op:CmpOp} (h:op ≠ .In) (h2:op ≠ .NotIn):behindInMarks op b = false:=by
 have e1:(op == CmpOp.In) = false:=by cases op <;> first | rfl | exact absurd rfl h
 have e2:(op == CmpOp.NotIn) = false:=by cases op <;> first | rfl | exact absurd rfl h2
 cases b <;> simp [behindInMarks,e1,e2]
theorem jt0 {op:CmpOp} {t:TE} (h:PC X op a b t) (h1:behindInMarks op b = false:=by first | exact jnc _ (by decide) (by decide) | rfl):PE X (.Compare a [op] [b] pos) t:=fun pins s σ H Q I hw=>wpAny_Compare1 (h pins s σ H Q I hw) h1
variable {tA tB':TT} {rest:List Expr}
def tAnd (t u:TT):TT:=fun σ H Q=>t σ H fun c H1=>if c = true then u σ H1 Q else Q false H1
def tOr (t u:TT):TT:=fun σ H Q=>t σ H fun c H1=>if c = true then Q true H1 else u σ H1 Q
def tNot (t:TT):TT:=fun σ H Q=>t σ H fun c H1=>Q (!c) H1
theorem jfg (ha:PT X a tA):PW X (.BoolOp .And [a] pos) tA:=by
 intro wh pins s σ H Q I h
 refine isTrue_and (thn (ha pins s σ H Q I h) fun c s1 e=>?_)
 cases c with
 | true=>exact isTrue_and_nil e
 | false=>exact e
theorem jhw (ha:PT X a tA) (hb:PW X (.BoolOp .And (b :: rest) pos) tB'):PW X (.BoolOp .And (a :: b :: rest) pos) (tAnd tA tB'):=by
 intro wh pins s σ H Q I h
 refine isTrue_and (thn (ha pins s σ H _ I h) fun c s1 ⟨H1,I1,q1⟩=>?_)
 cases c with
 | true=>exact hb wh pins s1 σ H1 Q I1 q1
 | false=>exact ⟨H1,I1,q1⟩
theorem jeh (ha:PT X a tA):PT X (.UnaryOp .Not a pos) (tNot tA):=by
 intro pins s σ H Q I h
 exact isTrue_not (ha pins s σ H (fun c H1=>Q (!c) H1) I h)
theorem jex {op} {t:TE} (h:PE X a t):PE X (.BoolOp op [a] pos) t:=fun pins s σ H Q I hw=>BoolOp_one (h pins s σ H Q I hw)
def tIf (t:TT) (ta tb:TE):TE:=fun σ H Q=>t σ H fun c H1=>if c = true then ta σ H1 Q else tb σ H1 Q
theorem jn8 {c:Expr} (hc:PT X c tA) (ha:PE X a ta) (hb:PE X b tb):PE X (.IfExp c a b pos) (tIf tA ta tb):=by
 intro pins s σ H Q I h
 refine wpAny_IfExp (thn (hc pins s σ H _ I h) fun d s1 ⟨H1,I1,q1⟩=>?_)
 cases d with
 | true=>exact ha pins s1 σ H1 Q I1 q1
 | false=>exact hb pins s1 σ H1 Q I1 q1
end
def SqL (K:PySem.W.Frag) (H:Hp) (a:Addr) (xs:List V):Prop :=
 Rd H a (.lst xs) \/
  ∃ (o:Obj) (its:Array Value) (n:Nat),K.lookup a = some o/\o.cls = .type "list"/\o.dict = none/\o.data = .seq its n/\its.size <= sizeLine/\Vals xs its.toList
def SqT (K:PySem.W.Frag) (H:Hp) (a:Addr) (xs:List V):Prop :=
 Rd H a (.tup xs) \/
  ∃ (o:Obj) (its:Array Value) (n:Nat),K.lookup a = some o/\o.cls = .type "tuple"/\o.data = .seq its n/\its.size <= sizeLine/\Vals xs its.toList
def absV:Value->Option V
 | .none=>some .non
 | .bool b=>some (.bl b)
 | .int i _=>some (.int i)
 | .str x _=>some (.str x)
 | .bytes b _=>some (.byt b)
 | .float b _=>some (.flt b)
 | .ref a=>some (.ref a)
 | .type n=>some (.ty n)
 | _=>none
theorem RelV.abs {x:V} {u:Value} (r:RelV x u):absV u = some x:=by
 cases x with
 | non=>cases r; rfl
 | bl _=>cases r; rfl
 | int _=>obtain ⟨t,rfl⟩:=r; rfl
 | str _=>obtain ⟨t,rfl⟩:=r; rfl
 | byt _=>obtain ⟨t,rfl⟩:=r; rfl
 | flt _=>obtain ⟨t,rfl⟩:=r; rfl
 | ref _=>cases r; rfl
 | ty _=>cases r; rfl
theorem RelV.inj {x y:V} {u:Value} (r:RelV x u) (q:RelV y u):x = y:=Option.some.inj (r.abs.symm.trans q.abs)
theorem Vals.inj:∀ {xs ys:List V} {us:List Value},Vals xs us->Vals ys us->xs = ys
 | _,_,_,.nil,.nil=>rfl
 | _,_,_,.cons r t,.cons r' t'=>by rw [r.inj r',Vals.inj t t']
section
variable {X:Cx} {pins:List (Addr × Obj)} {σ:St} {H:Hp} {s:Shared} {a:Addr} {xs ys:List V}
theorem SqL.of {K:PySem.W.Frag} (h:H a = some (.lst xs)):SqL K H a xs:=.inl (.inl h)
theorem SqT.of {K:PySem.W.Frag} (h:H a = some (.tup xs)):SqT K H a xs:=.inl (.inl h)
theorem Inv.list (I:Inv X pins σ H s) (h:SqL X.K H a xs):∃ its:List Value,Vals xs its/\PlainL s.heap a its.toArray/\xs.length <= sizeLine:=by
 rcases h with h | ⟨o,its,n,hk,hc,hd,hs,hz,r⟩
 ·obtain ⟨z,its,n,r,e⟩:=h.ok I.hok
  exact ⟨its,r,⟨_,n,e,rfl,rfl,rfl⟩,z⟩
 ·refine ⟨its.toList,r,⟨o,n,I.kIn a o hk,hc,hd,by simpa using hs⟩,?_⟩
  have e:=r.length
  simp only [Array.length_toList] at e
  omega
theorem Inv.tuple (I:Inv X pins σ H s) (h:SqT X.K H a xs):∃ its:List Value,Vals xs its/\IsTup s.heap a its.toArray/\xs.length <= sizeLine:=by
 rcases h with h | ⟨o,its,n,hk,hc,hs,hz,r⟩
 ·obtain ⟨z,its,r,p⟩:=h.ok I.hok
  exact ⟨its,r,p,z⟩
 ·refine ⟨its.toList,r,⟨o,I.kIn a o hk,hc,n,by simpa using hs⟩,?_⟩
  have e:=r.length
  simp only [Array.length_toList] at e
  omega
theorem Inv.list_inj (I:Inv X pins σ H s) (h:SqL X.K H a xs) (h':SqL X.K H a ys):xs = ys:=by
 obtain ⟨its,r,⟨o,n,e,_,_,d⟩,_⟩:=I.list h
 obtain ⟨its',r',⟨o',n',e',_,_,d'⟩,_⟩:=I.list h'
 rw [e] at e'; cases e'
 rw [d] at d'
 injection d' with d1 _
 have:its = its':=by simpa using congrArg Array.toList d1
 subst this
 exact r.inj r'
theorem Inv.tuple_inj (I:Inv X pins σ H s) (h:SqT X.K H a xs) (h':SqT X.K H a ys):xs = ys:=by
 obtain ⟨its,r,⟨o,e,_,n,d⟩,_⟩:=I.tuple h
 obtain ⟨its',r',⟨o',e',_,n',d'⟩,_⟩:=I.tuple h'
 rw [e] at e'; cases e'
 rw [d] at d'
 injection d' with d1 _
 have:its = its':=by simpa using congrArg Array.toList d1
 subst this
 exact r.inj r'
end
abbrev Cx.wish (X:Cx) (E:Value->Shared->Prop):Cx:={ X with xe:=E }
abbrev Cx.nox (X:Cx):Cx:=X.wish fun _ _=>False
theorem Cx.Ok.wish {X:Cx} (ok:X.Ok) (E:Value->Shared->Prop):(X.wish E).Ok :=
 ⟨ok.mod,ok.kind,ok.glob,ok.blt,ok.above,ok.inj,ok.has,ok.cab,ok.hd,ok.frames,ok.stk,ok.exf,ok.bs,ok.bsz,ok.noex,ok.exfs,ok.funs,ok.frf⟩
theorem Cx.Ok.unwish {X:Cx} {E:Value->Shared->Prop} (ok:(X.wish E).Ok):X.Ok :=
 ⟨ok.mod,ok.kind,ok.glob,ok.blt,ok.above,ok.inj,ok.has,ok.cab,ok.hd,ok.frames,ok.stk,ok.exf,ok.bs,ok.bsz,ok.noex,ok.exfs,ok.funs,ok.frf⟩
section
variable {X:Cx} {pins:List (Addr × Obj)} {σ:St} {H:Hp} {s:Shared} {E:Value->Shared->Prop}
theorem Inv.wish (I:Inv X pins σ H s) (E:Value->Shared->Prop):Inv (X.wish E) pins σ H s:=⟨I.ok.wish E,I.os,I.bare,I.base,I.loc,I.cell,I.free,I.freeC,I.pin,I.hok,I.len⟩
theorem Inv.unwish (I:Inv (X.wish E) pins σ H s):Inv X pins σ H s:=⟨I.ok.unwish,I.os,I.bare,I.base,I.loc,I.cell,I.free,I.freeC,I.pin,I.hok,I.len⟩
theorem SP.unwish {D:Ends} {f:Flow} {s':Shared} (h:SP (X.wish E) pins D f s'):SP X pins D f s':=by
 cases f with
 | next=>obtain ⟨σ',H',I,q⟩:=h; exact ⟨σ',H',I.unwish,q⟩
 | brk=>obtain ⟨σ',H',I,q⟩:=h; exact ⟨σ',H',I.unwish,q⟩
 | cont=>obtain ⟨σ',H',I,q⟩:=h; exact ⟨σ',H',I.unwish,q⟩
 | ret u=>obtain ⟨v,σ',H',I,r,q⟩:=h; exact ⟨v,σ',H',I.unwish,r,q⟩
theorem PSs.nox {st:List Stmt} {t:TS} (h:PSs X.nox st t):PSs X st t:=fun pins s σ H D I hw =>
 wpAny_mono (h pins s σ H D (I.wish _) hw) (fun _ _ q=>q.unwish) fun _ _ z=>False.elim z
end
section
variable {X:Cx} {st:Stmt} {rest:List Stmt} {t u:TS} {e:Expr} {te:TE} {pos:Pos}
def jao:TS:=fun D σ H=>D.nx σ H
def tSeq (t u:TS):TS:=fun D σ H=>t { D with nx:=u D } σ H
theorem jc5:PSs X [] jao:=fun _ _ σ H _ I h=>wpAny_execs_nil ⟨σ,H,I,h⟩
theorem jaf (h1:PS X st t) (h2:PSs X rest u):PSs X (st :: rest) (tSeq t u):=by
 intro pins s σ H D I h
 refine wpAny_execs_cons (thn (h1 pins s σ H { D with nx:=u D } I h) fun f s1 q=>?_)
 cases f with
 | next =>
  obtain ⟨σ',H',I',q⟩:=q
  exact h2 pins s1 σ' H' D I' q
 | ret v=>exact q
 | brk=>exact q
 | cont=>exact q
theorem jb8 (h1:PS X st t):PSs X [st] t:=by
 intro pins s σ H D I h
 refine wpAny_execs_cons (thn (h1 pins s σ H D I h) fun f s1 q=>?_)
 cases f with
 | next=>exact wpAny_execs_nil q
 | ret v=>exact q
 | brk=>exact q
 | cont=>exact q
theorem Inv.quiet {pins:List (Addr × Obj)} {σ:St} {H:Hp} {s:Shared} (I:Inv X pins σ H s):interactive X.env = false:=by simp [interactive,I.ok.kind]
def jal (te:TE):TS:=fun D σ H=>te σ H fun _ H1=>D.nx σ H1
theorem jc6 (he:PE X e te) (hs:swapsWith e none pos.line X.env = pure false:=by rfl):PS X (.Expr e pos) (jal te):=by
 intro pins s σ H D I h
 exact wpAny_Expr_any (thn (he pins s σ H _ I h) fun v s1 ⟨x,H1,I1,r1,q1⟩=>⟨σ,H1,I1,q1⟩) I.quiet hs
def tRet (te:TE):TS:=fun D σ H=>te σ H D.rt
theorem jbu (he:PE X e te):PS X (.Return (some e) pos) (tRet te):=by
 intro pins s σ H D I h
 exact wpAny_Return_some (thn (he pins s σ H _ I h) fun v s1 ⟨x,H1,I1,r1,q1⟩=>⟨x,σ,H1,I1,r1,q1⟩)
def jb0:TS:=fun D _ H=>D.rt .non H
def tIfS (c:TT) (t u:TS):TS:=fun D σ H=>c σ H fun b H1=>if b = true then t D σ H1 else u D σ H1
theorem jdf {c:Expr} {a b:List Stmt} {tc:TT} (hc:PT X c tc) (ha:PSs X a t) (hb:PSs X b u):PS X (.If c a b pos) (tIfS tc t u):=by
 intro pins s σ H D I h
 refine wpAny_If (thn (hc pins s σ H _ I h) fun d s1 ⟨H1,I1,q1⟩=>?_)
 cases d with
 | true=>exact ha pins s1 σ H1 D I1 q1
 | false=>exact hb pins s1 σ H1 D I1 q1
def tNever:TS:=fun _ _ _=>False
theorem jew:PS X st tNever:=fun _ _ _ _ _ _ h=>h.elim
end
abbrev TG:=V->St->Hp->(St->Hp->Prop)->Prop
abbrev TGs:=List V->St->Hp->(St->Hp->Prop)->Prop
def PG (X:Cx) (target:Expr) (t:TG):Prop :=
 ∀ (pins:List (Addr × Obj)) (s:Shared) (σ:St) (H:Hp) (v:V) (u:Value) (Q:St->Hp->Prop),Inv X pins σ H s->RelV v u->t v σ H Q ->
  wpAny (model X.prog X.w) X.A (assign target X.env u) (fun _ s'=>∃ σ' H',Inv X pins σ' H' s'/\Q σ' H') X.xe s
def PGs (X:Cx) (ts:List Expr) (t:TGs):Prop :=
 ∀ (pins:List (Addr × Obj)) (s:Shared) (σ:St) (H:Hp) (vs:List V) (us:List Value) (Q:St->Hp->Prop),Inv X pins σ H s->Vals vs us->t vs σ H Q ->
  wpAny (model X.prog X.w) X.A (assignInOrder ((assignEach ts X.env).map (·.2)) us) (fun _ s'=>∃ σ' H',Inv X pins σ' H' s'/\Q σ' H') X.xe s
abbrev TSet:=V->V->V->Hp->(Hp->Prop)->Prop
def PSet (X:Cx) (t:TSet):Prop :=
 ∀ (pins:List (Addr × Obj)) (s:Shared) (σ:St) (H:Hp) (o i v:V) (ov iv u:Value) (Q:Hp->Prop),Inv X pins σ H s->RelV o ov->RelV i iv->RelV v u->t o i v H Q ->
  wpAny (model X.prog X.w) X.A (setItem ov iv u) (fun _ s'=>∃ H',Inv X pins σ H' s'/\Q H') X.xe s
abbrev TIp:=V->V->Hp->VK->Prop
def PIp (X:Cx) (op:Operator) (t:TIp):Prop :=
 ∀ (pins:List (Addr × Obj)) (s:Shared) (σ:St) (H:Hp) (x y:V) (v u:Value) (Q:VK),Inv X pins σ H s->RelV x v->RelV y u->t x y H Q ->
  wpAny (model X.prog X.w) X.A (inplaceOp op v u) (EP X pins σ Q) X.xe s
section
variable {X:Cx} {pos:Pos}
def jan (i:Nat):TG:=fun v σ H Q=>Q (σ.set i (some v)) H
theorem jb9 {i:Nat} {x:Str} (hN:X.N.Nodup) (hi:X.N[i]? = some x) (hx:Loc X.env.scope x) (hf:X.fn x = true \/ X.env.scope.names.lookup x = some .local:=by first | exact .inl rfl | exact .inr rfl | assumption):PG X (.Name x pos) (jan i):=by
 intro pins s σ H v u Q I r h
 exact wpAny_assign_Name (jio I hN hi hx r (fun s' I'=>⟨_,H,I',h⟩) hf)
def gNil:TGs:=fun vs σ H Q=>vs = []/\Q σ H
def gCons (t:TG) (u:TGs):TGs:=fun vs σ H Q=>∃ v r,vs = v :: r/\t v σ H fun σ' H'=>u r σ' H' Q
theorem ju4:PGs X [] gNil:=by
 intro pins s σ H vs us Q I r h
 obtain ⟨e,h⟩:=h
 subst e
 cases r
 exact assignInOrder_nil ⟨σ,H,I,h⟩
theorem jrm {e:Expr} {es:List Expr} {t:TG} {u:TGs} (h1:PG X e t) (h2:PGs X es u)
  (hs:(assignEach (e :: es) X.env).map (·.2) = assign e X.env :: (assignEach es X.env).map (·.2):=by rfl):PGs X (e :: es) (gCons t u):=by
 intro pins s σ H vs us Q I r h
 obtain ⟨v,vr,e1,h⟩:=h
 subst e1
 cases r with
 | cons r rr =>
  rw [hs]
  refine assignInOrder_cons (thn (h1 pins s σ H _ _ _ I r h) fun _ s1 ⟨σ1,H1,I1,q1⟩=>?_)
  exact h2 pins s1 σ1 H1 _ _ Q I1 rr q1
def gTup (K:PySem.W.Frag) (n:Nat) (t:TGs):TG:=fun v σ H Q=>∃ a xs,v = .ref a/\SqT K H a xs/\xs.length = n/\t xs σ H Q
theorem pg_tup {es:List Expr} {k:Nat} {t:TGs} {n:Nat} (hc:X.calm = true) (h:PGs X es t)
  (hn:(assignEach es X.env).length = n:=by rfl) (hst:(assignEach es X.env).findIdx? (·.1) = none:=by rfl):PG X (.Tuple es k pos) (gTup X.K n t):=by
 intro pins s σ H v u Q I r hw
 obtain ⟨a,xs,e1,hq,hl,hw⟩:=hw
 subst e1
 cases r
 obtain ⟨its,rv,ht,hz⟩:=I.tuple hq
 refine assign_Tuple_tuple (I.ok.hd hc) ht (by simp [hn,<- hl,rv.length]) hst fun h' hx=>?_
 have I1:Inv X pins σ H { s with heap:=h' }:=I.kept (t':=s.toks) fun b o e=>hx b o (Nat.ne_of_lt (Heap.lt_size e)) e
 exact h pins _ σ H xs _ Q I1 (by simpa using rv) hw
def gSub (to ti:TE) (t:TSet):TG:=fun v σ H Q=>to σ H fun o H1=>ti σ H1 fun i H2=>t o i v H2 fun H3=>Q σ H3
theorem jhx {o i:Expr} {to ti:TE} {t:TSet} (ho:PE X o to) (hi:PE X i ti) (hs:PSet X t)
  (ha:∀ v,assign (.Subscript o i pos) X.env v = (do
   let ov <- holding [v] (eval o X.env)
   let iv <- holding [v,ov] (eval i X.env)
   standAt pos
   holding [v,ov,iv] (setItem ov iv v)
   release [v,ov,iv] []):=by intro _; rfl):PG X (.Subscript o i pos) (gSub to ti t):=by
 intro pins s σ H v u Q I r h
 rw [ha]
 refine wpAny_bind (wpAny_holding (thn (ho pins s σ H _ I h) fun ov s1 ⟨x,H1,I1,r1,q1⟩=>?_))
 refine wpAny_bind (wpAny_holding (thn (hi pins s1 σ H1 _ I1 q1) fun iv s2 ⟨y,H2,I2,r2,q2⟩=>?_))
 refine wpAny_bind (wpAny_standAt (wpAny_bind (wpAny_holding (thn (hs pins s2 σ H2 x y v ov iv u _ I2 r1 r2 r q2) fun _ s3 ⟨H3,I3,q3⟩=>?_))))
 exact wpAny_release ⟨σ,H3,I3,q3⟩
def tAsg (te:TE) (g:TG):TS:=fun D σ H=>te σ H fun x H1=>g x σ H1 D.nx
theorem jgo {tg e:Expr} {te:TE} {g:TG} (he:PE X e te) (hg:PG X tg g) (hs:swapsWithSole [tg] e pos.line X.env = pure false:=by rfl) (hw:swappedStores [tg] e X.env = pure none:=by rfl)
  (h1:(assignEach [tg] X.env).map (·.2) = [assign tg X.env]:=by rfl):PS X (.Assign [tg] e pos) (tAsg te g):=by
 intro pins s σ H D I h
 refine wpAny_Assign_stores (thn (he pins s σ H _ I h) fun v s1 ⟨x,H1,I1,r1,q1⟩=>?_) hs hw
 rw [h1]
 exact thn (hg pins s1 σ H1 x v _ I1 r1 q1) fun _ s2 q=>q
theorem jbg {i:Nat} {x:Str} {e:Expr} {te:TE} {pos':Pos} (hN:X.N.Nodup) (hi:X.N[i]? = some x) (hx:Loc X.env.scope x) (he:PE X e te) (hs:swapsWith e (some (.Name x pos')) pos.line X.env = pure false:=by rfl) (hf:X.fn x = true \/ X.env.scope.names.lookup x = some .local:=by first | exact .inl rfl | exact .inr rfl | assumption) :
  PS X (.Assign [.Name x pos'] e pos) (tAsg te (jan i)):=by
 intro pins s σ H D I h
 refine wpAny_Assign_Name (thn (he pins s σ H _ I h) fun v s1 ⟨y,H1,I1,r1,q1⟩=>?_) hs
 exact jio I1 hN hi hx r1 (fun s2 I2=>⟨_,H1,I2,q1⟩) hf
def tAug (i:Nat) (te:TE) (ti:TIp):TS:=fun D σ H=>∃ x,σ[i]? = some (some x)/\te σ H fun y H1=>ti x y H1 fun z H2=>D.nx (σ.set i (some z)) H2
theorem ps_aug {i:Nat} {x:Str} {e:Expr} {te:TE} {op:Operator} {ti:TIp} {pos':Pos} (hN:X.N.Nodup) (hi:X.N[i]? = some x) (hx:Loc X.env.scope x) (he:PE X e te) (ho:PIp X op ti) (hf:X.fn x = true \/ X.env.scope.names.lookup x = some .local:=by first | exact .inl rfl | exact .inr rfl | assumption) :
  PS X (.AugAssign (.Name x pos') op e pos) (tAug i te ti):=by
 intro pins s σ H D I h
 obtain ⟨v,e1,h⟩:=h
 obtain ⟨m,hn,hl⟩:=I.loc
 have vis:Vis X.env.scope x:=by rcases hx with k | k; exact .inl k; exact .inr (.inl k)
 obtain ⟨u,r,l⟩:=hl i x v hi e1 vis
 refine wpAny_AugAssign_Name ?_
 have go:wpAny (model X.prog X.w) X.A (eval e X.env) (fun w s₂=>wpAny (model X.prog X.w) X.A (inplaceOp op u w) (fun r s₃=>wpAny (model X.prog X.w) X.A (storeName X.env x r) (fun _=>SP X pins D .next) X.xe s₃) X.xe s₂) X.xe s:=by
  refine thn (he pins s σ H _ I h) fun w s1 ⟨y,H1,I1,r1,q1⟩=>?_
  refine thn (ho pins s1 σ H1 v y u w _ I1 r r1 q1) fun z s2 ⟨zv,H2,I2,r2,q2⟩=>?_
  exact jio I2 hN hi hx r2 (fun s3 I3=>⟨_,H2,I3,q2⟩) hf
 rcases l with ⟨hk,hm⟩ | ⟨hk,c,hc,hcell⟩
 ·exact wpAny_loadName_local I.ok.kind hk hn hm go
 ·rcases hk with hk | hk
  ·exact wpAny_loadName_cell I.ok.kind hk hc hcell go
  ·rcases hx with k | k
   ·have:X.env.scope.names.lookup x = some .free:=hk
    rw [k] at this; cases this
   ·have:X.env.scope.names.lookup x = some .free:=hk
    rw [k] at this; cases this
def jb5 (to ti te:TE) (tget:V->V->Hp->VK->Prop) (tip:TIp) (tset:TSet):TS:=fun D σ H=>to σ H fun o H1=>ti σ H1 fun i H2=>tget o i H2 fun x H3=>te σ H3 fun y H4=>tip x y H4 fun z H5=>tset o i z H5 fun H6=>D.nx σ H6
def PGet (X:Cx) (t:V->V->Hp->VK->Prop):Prop :=
 ∀ (pins:List (Addr × Obj)) (s:Shared) (σ:St) (H:Hp) (o i:V) (ov iv:Value) (Q:VK),Inv X pins σ H s->RelV o ov->RelV i iv->t o i H Q ->
  wpAny (model X.prog X.w) X.A (getItem ov iv) (EP X pins σ Q) X.xe s
theorem jpi {o i e:Expr} {to ti te:TE} {tget:V->V->Hp->VK->Prop} {tip:TIp} {tset:TSet} {op:Operator} {tpos:Pos} (ho:PE X o to) (hi:PE X i ti) (hg:PGet X tget) (he:PE X e te) (hp:PIp X op tip) (hs:PSet X tset)
  (ha:∀ ov iv new,augStore i ov iv new = (do holding [new,ov,iv] (setItem ov iv new); release [new,ov,iv] []; pure .next):=by intros; rfl):PS X (.AugAssign (.Subscript o i tpos) op e pos) (jb5 to ti te tget tip tset):=by
 intro pins s σ H D I h
 refine wpAny_AugAssign_SubscriptAny (thn (ho pins s σ H _ I h) fun ov s1 ⟨x1,H1,I1,r1,q1⟩=>?_) ha
 refine thn (hi pins s1 σ H1 _ I1 q1) fun iv s2 ⟨x2,H2,I2,r2,q2⟩=>?_
 refine thn (hg pins s2 σ H2 x1 x2 ov iv _ I2 r1 r2 q2) fun old s3 ⟨x3,H3,I3,r3,q3⟩=>?_
 refine thn (he pins s3 σ H3 _ I3 q3) fun v s4 ⟨x4,H4,I4,r4,q4⟩=>?_
 refine thn (hp pins s4 σ H4 x3 x4 old v _ I4 r3 r4 q4) fun new s5 ⟨x5,H5,I5,r5,q5⟩=>?_
 exact thn (hs pins s5 σ H5 x1 x2 x5 ov iv new _ I5 r1 r2 r5 q5) fun _ s6 ⟨H6,I6,q6⟩=>⟨σ,H6,I6,q6⟩
end
section
variable {X:Cx} {pos:Pos}
def jsn (c:TT) (tb:TS):TS:=fun D σ H=>∃ W:Nat->St->Hp->Prop,(∃ m,W m σ H)/\∀ m σ H,W m σ H ->
 c σ H fun b H1=>if b = true then ∃ N:St->Hp->Prop,(∀ σ' H',N σ' H'->∃ m',m' < m/\W m' σ' H')/\tb { D with nx:=N,ct:=N,bk:=D.nx } σ H1 else D.nx σ H1
theorem jiz {c:Expr} {body:List Stmt} {tc:TT} {tb:TS} (hp:PassesOwn (model X.prog X.w) X.A X.env X.xe) (hc:PT X c tc) (hb:PSs X body tb):PS X (.While c body [] pos) (jsn tc tb):=by
 intro pins s σ H D I h
 obtain ⟨W,⟨m0,w0⟩,turn⟩:=h
 refine wpAny_While (codeAny_whileLoop (fun n s'=>∃ σ' H',Inv X pins σ' H' s'/\W n σ' H') ?_ m0 ⟨σ,H,I,w0⟩)
 rintro n s1 ⟨σ1,H1,I1,w1⟩
 refine wpAny_passesOwn hp (thn (hc pins s1 σ1 H1 _ I1 (turn n σ1 H1 w1)) fun b s2 ⟨H2,I2,q2⟩=>?_)
 cases b with
 | true =>
  obtain ⟨N,hN,q2⟩:=q2
  rw [if_pos rfl]
  refine wpAny_passesOwn hp (thn (hb pins s2 σ1 H2 _ I2 q2) fun f s3 q3=>?_)
  cases f with
  | next =>
   obtain ⟨σ3,H3,I3,n3⟩:=q3
   obtain ⟨m',hm,w3⟩:=hN σ3 H3 n3
   exact ⟨m',hm,σ3,H3,I3,w3⟩
  | cont =>
   obtain ⟨σ3,H3,I3,n3⟩:=q3
   obtain ⟨m',hm,w3⟩:=hN σ3 H3 n3
   exact ⟨m',hm,σ3,H3,I3,w3⟩
  | brk=>exact q3
  | ret v=>exact q3
 | false =>
  rw [if_neg Bool.false_ne_true]
  exact wpAny_execs_nil ⟨σ1,H2,I2,q2⟩
end
structure It where
 go:Nat->Hp->Prop
 yld:Nat->Hp->V->Hp->Prop
 stop:Nat->Hp->Prop
def FpOk (X:Cx) (pins:List (Addr × Obj)) (H:Hp) (b:Addr):Prop :=
 H b = none/\b ≠ X.env.locals/\b ∉ X.fs/\(b ∈ X.ex \/ X.s₀.heap.objs.size <= b)/\(∀ x c,X.env.cells.lookup x = some c->c ≠ b)/\∀ p ∈ X.pn ++ pins,p.1 ≠ b
theorem Inv.fpOk {X:Cx} {pins:List (Addr × Obj)} {σ:St} {H H':Hp} {s:Shared} {b:Addr} (I:Inv X pins σ H s) (hb:s.heap.objs.size <= b) (hn:H' b = none):FpOk X pins H' b:=by
 refine ⟨hn,Nat.ne_of_gt (Nat.lt_of_lt_of_le I.lt hb),I.nofs hb,.inr (Nat.le_trans I.sz hb),fun x c e z=>?_,fun p hp z=>?_⟩
 ·obtain ⟨v,q⟩:=I.cell x c e
  exact absurd (Nat.lt_of_lt_of_le q.lt (by rw [z]; exact hb)) (Nat.lt_irrefl _)
 ·exact absurd (Nat.lt_of_lt_of_le (Heap.lt_size (I.pin p hp).1) (by rw [z]; exact hb)) (Nat.lt_irrefl _)
structure Turn (P:Program) (w:World) (K:PySem.W.Frag) (tg:Expr) (J:It) (fp:List Addr) (it:Addr) (tn:Nat->Heap->Prop):Prop where
 mem:it ∈ fp
 obj:∀ i h,tn i h->∀ b ∈ fp,∃ o,h.get? b = some o/\∀ v,o.data ≠ .cell v
 keep:∀ i h h',tn i h->(∀ b ∈ fp,∀ o,h.get? b = some o->h'.get? b = some o)->tn i h'
 item:∀ (X:Cx),X.prog = P->X.w = w->X.K = K->X.calm = true->∀ (i:Nat) (pins:List (Addr × Obj)) (s:Shared) (σ:St) (H:Hp) (E:Value->Shared->Prop),Inv X pins σ H s->(∀ b ∈ fp,FpOk X pins H b)->tn i s.heap->J.go i H ->
  wpAny (model P w) X.A (pyNext (.ref it)) (fun r s1=>∃ u,r = some u /\
   wpAny (model P w) X.A (letOwnedTupleGo tg (.ref it) u) (fun _ s2=>∃ x H',Inv X pins σ H' s2/\RelV x u/\J.yld i H x H'/\tn (i + 1) s2.heap/\∀ b ∈ fp,H' b = none) E s1) E s
 done:∀ (X:Cx),X.prog = P->X.w = w->X.K = K->X.calm = true->∀ (i:Nat) (pins:List (Addr × Obj)) (s:Shared) (σ:St) (H:Hp) (E:Value->Shared->Prop),Inv X pins σ H s->(∀ b ∈ fp,FpOk X pins H b)->tn i s.heap->J.stop i H ->
  wpAny (model P w) X.A (pyNext (.ref it)) (fun r s1=>r = none/\Inv X pins σ H s1) E s
 self:∀ (A:Around) (i:Nat) (s:Shared) (Q:Value->Shared->Prop) (E:Value->Shared->Prop),tn i s.heap->Q (.ref it) s->wpAny (model P w) A (pyIter (.ref it)) Q E s
abbrev TI:=St->Hp->(It->Hp->Prop)->Prop
def PIE (X:Cx) (pins:List (Addr × Obj)) (σ:St) (tg:Expr) (R:It->Hp->Prop) (itv:Value) (s2:Shared):Prop :=
 ∃ (it:Addr) (fp:List Addr) (tn:Nat->Heap->Prop) (J:It) (H':Hp),itv = .ref it/\Inv X pins σ H' s2/\Turn X.prog X.w X.K tg J fp it tn/\tn 0 s2.heap/\(∀ b ∈ fp,FpOk X pins H' b)/\R J H'
def PI (X:Cx) (tg iter:Expr) (wi:TI):Prop :=
 ∀ (pins:List (Addr × Obj)) (s:Shared) (σ:St) (H:Hp) (R:It->Hp->Prop),Inv X pins σ H s->wi σ H R ->
  wpAny (model X.prog X.w) X.A (eval iter X.env) (fun v s1=>wpAny (model X.prog X.w) X.A (pyIter v) (PIE X pins σ tg R) X.xe s1) X.xe s
theorem go_of {M:Model} {A:Around} {E:Value->Shared->Prop} {s:Shared} {tg:Expr} {it:Addr} {u:Value} {o:Obj} {n:String} {vs:Array Value} {Q:Unit->Shared->Prop} (ho:s.heap.get? it = some o) (hc:o.cls = .type n) (hd:o.data = .fields vs)
    (hn:["enumerate","zip","dict_itemiterator","dict_reverseitemiterator","odict_iterator","itertools.zip_longest","itertools.pairwise"].contains n = false) (hQ:Q () s):wpAny M A (letOwnedTupleGo tg (.ref it) u) Q E s:=by
  unfold letOwnedTupleGo
  cases tg <;> first
    | exact wpAny_pure hQ
    | (cases u <;> first
        | exact wpAny_pure hQ
        | (refine wpAny_bind (wpAny_load ho ?_)
           rw [hc,hd]
           show wpAny M A (if (["enumerate","zip","dict_itemiterator","dict_reverseitemiterator","odict_iterator","itertools.zip_longest","itertools.pairwise"].contains n && vs[0]? == some (rawInt _)) = true then _ else _) Q E s
           rw [if_neg (by intro h; rw [hn,Bool.false_and] at h; cases h)]
           exact wpAny_pure hQ))
def Itl (K:PySem.W.Frag) (a:Addr):It :=
 ⟨fun i H=>∃ xs x,SqL K H a xs/\xs[i]? = some x,fun i H x H'=>H' = H/\∀ xs,SqL K H a xs->xs[i]? = some x,fun i H=>∃ xs,SqL K H a xs/\xs.length <= i⟩
def Itr (lo:Int) (n:Nat):It:=⟨fun i _=>i < n,fun i H x H'=>H' = H/\x = .int (lo + i),fun i _=>n <= i⟩
theorem joo {P:Program} {w:World} {K:PySem.W.Frag} {tg:Expr} (a it:Addr):Turn P w K tg (Itl K a) [it] it (fun i h=>h.IsListIter it a i) where
 mem:=by simp
 obj:=fun i h st b hb=>by
  have e:b = it:=by simpa using hb
  subst e
  obtain ⟨o,e,c,d⟩:=st
  exact ⟨o,e,fun v z=>by rw [d] at z; cases z⟩
 keep:=fun i h h' st k=>st.at fun o e=>k it (by simp) o e
 item:=by
  intro X hP hw hK hc i pins s σ H E I hf st hg
  subst hP hw hK
  obtain ⟨xs,x,hq,hx⟩:=hg
  obtain ⟨its,rv,p,hz⟩:=I.list hq
  obtain ⟨u,hu,ru⟩:=rv.get hx
  obtain ⟨f0,f1,f2,f3,f4,f5⟩:=hf it (by simp)
  refine wpAny_pyNext_list_item st p.isList (x:=u) (by simpa using hu) fun h' st' sb=>?_
  have I1:Inv X pins σ H { s with heap:=h' }:=I.turned (t':=s.toks) (fun b o hb e=>(sb.2 b hb).trans e) f0 f1 f3 f4 f5
  obtain ⟨o,e,c,d⟩:=id st'
  exact ⟨u,rfl,go_of (s:={ s with heap:=h' }) e c d (by decide) ⟨x,H,I1,ru,⟨rfl,fun ys hy=>by rw [I.list_inj hy hq]; exact hx⟩,st',fun b hb=>(hf b hb).1⟩⟩
 done:=by
  intro X hP hw hK hc i pins s σ H E I hf st hg
  subst hP hw hK
  obtain ⟨xs,hq,hx⟩:=hg
  obtain ⟨its,rv,p,hz⟩:=I.list hq
  obtain ⟨f0,f1,f2,f3,f4,f5⟩:=hf it (by simp)
  have hl:=rv.length
  exact wpAny_pyNext_list_end (I.ok.hd hc) st p.isList (by simp; omega) fun h' eb=>⟨rfl,I.turned (t':=s.toks) (fun b o hb e=>eb b o hb e) f0 f1 f3 f4 f5⟩
 self:=fun _ _ _ _ _ st h=>wpAny_pyIter_listiter st h
theorem jnp {P:Program} {w:World} {K:PySem.W.Frag} {tg:Expr} (it:Addr) (lo:Int) (n:Nat):Turn P w K tg (Itr lo n) [it] it (fun i h=>IsRangeIter h it (lo + (i:Nat) * 1) ((n:Int) - (i:Nat)) 1) where
 mem:=by simp
 obj:=fun i h st b hb=>by
  have e:b = it:=by simpa using hb
  subst e
  exact ⟨_,st,fun v z=>by
   have z':Data.fields _ = Data.cell v:=z
   cases z'⟩
 keep:=fun i h h' st k=>k it (by simp) _ st
 item:=by
  intro X hP hw hK hc i pins s σ H E I hf st hg
  subst hP hw hK
  obtain ⟨f0,f1,f2,f3,f4,f5⟩:=hf it (by simp)
  have W:=Walks.range (prog:=X.prog) (w:=X.w) (I.ok.hd hc) it lo 1 n
  refine W.item i s _ _ hg st fun v h' tk hv st' kk=>?_
  obtain ⟨t,rfl⟩:=hv
  have I1:Inv X pins σ H { s with heap:=h',toks:=tk }:=I.turned (fun b o hb e=>kk b o (by simpa using hb) e) f0 f1 f3 f4 f5
  refine ⟨_,rfl,go_of (s:={ s with heap:=h',toks:=tk }) (n:="range_iterator") st' rfl rfl (by decide) ⟨.int (lo + i),H,I1,⟨t,?_⟩,⟨rfl,rfl⟩,st',fun b hb=>(hf b hb).1⟩⟩
  rw [Int.mul_one]
 done:=by
  intro X hP hw hK hc i pins s σ H E I hf st hg
  subst hP hw hK
  obtain ⟨f0,f1,f2,f3,f4,f5⟩:=hf it (by simp)
  exact wpAny_pyNext_range_end (I.ok.hd hc) st (by have:n <= i:=hg; omega) fun h' eb=>⟨rfl,I.turned (t':=s.toks) (fun b o hb e=>eb b o hb e) f0 f1 f3 f4 f5⟩
 self:=fun _ _ _ _ _ st h=>wpAny_pyIter_rangeiter st h
section
variable {X:Cx} {tg:Expr}
def jck (K:PySem.W.Frag) (tl:TE):TI:=fun σ H R=>tl σ H fun x H1=>∃ a,x = .ref a/\(∃ xs,SqL K H1 a xs)/\R (Itl K a) H1
theorem jbt {l:Expr} {tl:TE} (hl:PE X l tl):PI X tg l (jck X.K tl):=by
 intro pins s σ H R I h
 refine thn (hl pins s σ H _ I h) fun v s1 ⟨x,H1,I1,r1,q1⟩=>?_
 obtain ⟨a,e,⟨xs,hq⟩,q⟩:=q1
 subst e
 cases r1
 obtain ⟨its,rv,p,hz⟩:=I1.list hq
 refine wpAny_pyIter_list p.isList ?_
 refine ⟨s1.heap.objs.size,[s1.heap.objs.size],_,_,H1,rfl,I1.kept (t':=s1.toks) fun b o e=>Heap.get?_push_of_some _ e,joo a _,⟨_,Heap.get?_push_size _ rfl,rfl,rfl⟩,fun b hb=>?_,q⟩
 have e:b = s1.heap.objs.size:=by simpa using hb
 subst e
 exact I1.fpOk (Nat.le_refl _) (I1.hok.fresh (Nat.le_refl _))
theorem jn0 {pins:List (Addr × Obj)} {σ:St} {H:Hp} {s:Shared} {R:It->Hp->Prop} {E:Value->Shared->Prop} {lo hi:Int} {t u v:Tok} {tk:Nat} (I:Inv X pins σ H s) (h1:-(2 ^ 62) <= lo) (h2:lo < 2 ^ 62) (h3:-(2 ^ 62) <= hi) (h4:hi < 2 ^ 62)
  (q:R (Itr lo (hi - lo).toNat) H):wpAny (model X.prog X.w) X.A (pyIter (.ref s.heap.objs.size)) (PIE X pins σ tg R) E { s with heap:=s.heap.push { cls:=.type "range",data:=.fields #[.int lo t,.int hi u,.int 1 v] },toks:=tk }:=by
 refine wpAny_pyIter_range (IsRange.new ..) (small_one h1 h2 h3 h4) ?_
 have I1:Inv X pins σ H { s with heap:=s.heap.push { cls:=.type "range",data:=.fields #[.int lo t,.int hi u,.int 1 v] },toks:=tk }:=I.kept fun b o e=>Heap.get?_push_of_some _ e
 refine ⟨(s.heap.push { cls:=.type "range",data:=.fields #[.int lo t,.int hi u,.int 1 v] }).objs.size,[(s.heap.push { cls:=.type "range",data:=.fields #[.int lo t,.int hi u,.int 1 v] }).objs.size],_,_,H,rfl,
  I1.kept (t':=tk) fun b o e=>Heap.get?_push_of_some _ e,jnp _ lo (hi - lo).toNat,?_,fun b hb=>?_,q⟩
 ·have e1:lo + ((0:Nat):Int) * 1 = lo:=by simp
  have e2:(((hi - lo).toNat:Nat):Int) - ((0:Nat):Int) = Builtin.Range.rangeSize lo hi 1:=by rw [rangeSize_one]; split <;> omega
  show IsRangeIter _ _ (lo + ((0:Nat):Int) * 1) ((((hi - lo).toNat:Nat):Int) - ((0:Nat):Int)) 1
  rw [e1,e2]
  exact Heap.get?_push_size _ rfl
 ·have e:b = (s.heap.push { cls:=.type "range",data:=.fields #[.int lo t,.int hi u,.int 1 v] }).objs.size:=by simpa using hb
  subst e
  exact I1.fpOk (Nat.le_refl _) (I1.hok.fresh (Nat.le_refl _))
def jl1 (ta:TA):TI:=fun σ H R=>ta σ H fun vs H1=>∃ j:Int,vs = [.int j]/\-(2 ^ 62) <= j/\j < 2 ^ 62/\R (Itr 0 j.toNat) H1
def juv (ta:TA):TI:=fun σ H R=>ta σ H fun vs H1=>∃ i j:Int,vs = [.int i,.int j]/\(-(2 ^ 62) <= i/\i < 2 ^ 62/\-(2 ^ 62) <= j/\j < 2 ^ 62)/\R (Itr i (j - i).toNat) H1
theorem jd0 {a:Expr} {ta:TA} {p pos:Pos} (hg:Gl X "range") (hm:X.mg "range" = none) (ha:PA X [a] ta) (hs:starEach [a] X.env = [(false,eval a X.env)]:=by rfl):PI X tg (.Call (.Name "range" p) [a] [] pos) (jl1 ta):=by
 intro pins s σ H R I h
 refine Call_ (jfu I hg hm boot_range (PyProof.Rows.callWith_type1 (thn (ha pos pins s σ H _ I h) fun us s1 ⟨vs,H1,I1,r1,q1⟩=>?_) hs rfl))
 obtain ⟨j,e,q1,q2,q⟩:=q1
 subst e
 cases r1 with
 | cons r rr =>
  cases rr
  obtain ⟨t,rfl⟩:=r
  exact call_range_1 (jn0 I1 (by omega) (by omega) q1 q2 (by simpa using q))
theorem jkj {a b:Expr} {ta:TA} {p pos:Pos} (hg:Gl X "range") (hm:X.mg "range" = none) (ha:PA X [a,b] ta) (hs:starEach [a,b] X.env = [(false,eval a X.env),(false,eval b X.env)]:=by rfl) (hs2:starEach [b] X.env = [(false,eval b X.env)]:=by rfl) :
  PI X tg (.Call (.Name "range" p) [a,b] [] pos) (juv ta):=by
 intro pins s σ H R I h
 refine Call_ (jfu I hg hm boot_range (PyProof.Rows.callWith_type1 (thn (ha pos pins s σ H _ I h) fun us s1 ⟨vs,H1,I1,r1,q1⟩=>?_) (by rw [hs,hs2]) (by rw [hs2]; rfl)))
 obtain ⟨i,j,e,⟨q1,q2,q3,q4⟩,q⟩:=q1
 subst e
 cases r1 with
 | cons r rr =>
  cases rr with
  | cons r' rr =>
   cases rr
   obtain ⟨t,rfl⟩:=r
   obtain ⟨t',rfl⟩:=r'
   exact call_range_2 (jn0 I1 q1 q2 q3 q4 q)
def tFor (wi:TI) (g:TG) (tb:TS):TS:=fun D σ H=>wi σ H fun J H1=>∃ W:Nat->Nat->St->Hp->Prop,(∃ m,W 0 m σ H1)/\∀ i m σ H,W i m σ H ->
 (J.stop i H/\D.nx σ H) \/ (J.go i H/\∃ N:St->Hp->Prop,(∀ σ' H',N σ' H'->∃ m',m' < m/\W (i + 1) m' σ' H')/\∀ x H',J.yld i H x H'->g x σ H' fun σ2 H2=>tb { D with nx:=N,ct:=N,bk:=D.nx } σ2 H2)
def jki (fp:List Addr) (h:Heap):List (Addr × Obj):=fp.filterMap fun b=>(h.get? b).map fun o=>(b,o)
theorem jeb {fp:List Addr} {h:Heap} {b:Addr} {o:Obj} (hb:b ∈ fp) (e:h.get? b = some o):(b,o) ∈ jki fp h:=List.mem_filterMap.mpr ⟨b,hb,by rw [e]; rfl⟩
theorem jpv {fp:List Addr} {h:Heap} {p:Addr × Obj} (hp:p ∈ jki fp h):p.1 ∈ fp/\h.get? p.1 = some p.2:=by
 obtain ⟨b,hb,e⟩:=List.mem_filterMap.mp hp
 cases q:h.get? b with
 | none=>rw [q] at e; cases e
 | some o =>
  rw [q] at e
  have e':(b,o) = p:=Option.some.inj e
  subst e'
  exact ⟨hb,q⟩
theorem Inv.pinned {pins:List (Addr × Obj)} {σ:St} {H:Hp} {s:Shared} {fp:List Addr} (I:Inv X pins σ H s) (hf:∀ b ∈ fp,FpOk X pins H b) (ho:∀ b ∈ fp,∃ o,s.heap.get? b = some o/\∀ v,o.data ≠ .cell v):Inv X (pins ++ jki fp s.heap) σ H s :=
 I.pins_of fun p hp=>(List.mem_append.mp hp).elim (fun z=>I.pin p (List.mem_append_right _ z)) fun z=>by
  obtain ⟨hb,e⟩:=jpv z
  obtain ⟨f0,f1,f2,_⟩:=hf p.1 hb
  obtain ⟨o,e',d⟩:=ho p.1 hb
  rw [e] at e'; cases e'
  exact ⟨e,f0,f1,f2,d⟩
theorem Inv.unpinned {pins pl:List (Addr × Obj)} {σ:St} {H:Hp} {s:Shared} (I:Inv X (pins ++ pl) σ H s):Inv X pins σ H s:=I.pins_of fun p hp=>I.pin p (List.mem_append_right _ (List.mem_append_left _ hp))
theorem jcw {iter:Expr} {body:List Stmt} {wi:TI} {g:TG} {tb:TS} {pos:Pos} (hp:PassesOwn (model X.prog X.w) X.A X.env X.xe) (hc:X.calm = true) (hi:PI X tg iter wi) (hg:PG X tg g) (hb:PSs X body tb)
  (hs:∀ x,foldedSetIterable iter X.env x = pure x:=by intro _; rfl):PS X (.For tg iter body [] pos) (tFor wi g tb):=by
 intro pins s σ H D I h
 refine wpAny_For (thn (hi pins s σ H _ I h) fun v s1 h1=>thn h1 fun itv s2 h2=>?_) hs
 obtain ⟨it,fp,tn,J,H2,e,I2,T,st2,f2,W,⟨m0,w0⟩,turn⟩:=h2
 subst e
  -- what stays true of the iterator's objects through the loop
 have stat:∀ {H':Hp},(∀ b ∈ fp,H' b = none)->∀ b ∈ fp,FpOk X pins H' b:=fun hn b hb=>⟨hn b hb,(f2 b hb).2⟩
 refine codeAny_forLoop_any (fun n s'=>∃ i σ' H',Inv X pins σ' H' s'/\tn i s'.heap/\(∀ b ∈ fp,H' b = none)/\W i n σ' H') ?_ m0 ⟨0,σ,H2,I2,st2,fun b hb=>(f2 b hb).1,w0⟩
 rintro n s3 ⟨i,σ3,H3,I3,st3,fr3,w3⟩
 rcases turn i n σ3 H3 w3 with ⟨stop,qn⟩ | ⟨go,N,hN,step⟩
 ·refine wpAny_passesOwn hp (thn (T.done X rfl rfl rfl hc i pins s3 σ3 H3 X.xe I3 (stat fr3) st3 stop) fun r s4 ⟨hr,I4⟩=>?_)
  subst hr
  exact wpAny_execs_nil ⟨σ3,H3,I4,qn⟩
 ·refine wpAny_passesOwn hp (thn (T.item X rfl rfl rfl hc i pins s3 σ3 H3 X.xe I3 (stat fr3) st3 go) fun r s4 ⟨u,hr,h4⟩=>?_)
  subst hr
  refine wpAny_passesOwn hp (thn h4 fun _ s5 ⟨x,H5,I5,r5,y5,st5,fr5⟩=>?_)
  have I5':=I5.pinned (stat fr5) (T.obj _ _ st5)
  refine wpAny_passesOwn hp (thn (hg _ s5 σ3 H5 x u _ I5' r5 (step x H5 y5)) fun _ s6 ⟨σ6,H6,I6,q6⟩=>?_)
  refine wpAny_passesOwn hp (thn (hb _ s6 σ6 H6 _ I6 q6) fun f s7 q7=>?_)
  have again:∀ {σ7:St} {H7:Hp},Inv X (pins ++ jki fp s5.heap) σ7 H7 s7->N σ7 H7->∃ m,m < n/\∃ i σ' H',Inv X pins σ' H' s7/\tn i s7.heap/\(∀ b ∈ fp,H' b = none)/\W i m σ' H':=fun {σ7 H7} I7 n7=>by
   obtain ⟨m',hm,w7⟩:=hN σ7 H7 n7
   refine ⟨m',hm,i + 1,σ7,H7,I7.unpinned,T.keep _ _ _ st5 fun b hb o e=>(I7.pin (b,o) (List.mem_append_right _ (List.mem_append_right _ (jeb hb e)))).1,fun b hb=>?_,w7⟩
   obtain ⟨o,e,d⟩:=T.obj _ _ st5 b hb
   exact (I7.pin (b,o) (List.mem_append_right _ (List.mem_append_right _ (jeb hb e)))).2.1
  cases f with
  | next=>obtain ⟨σ7,H7,I7,n7⟩:=q7; exact again I7 n7
  | cont=>obtain ⟨σ7,H7,I7,n7⟩:=q7; exact again I7 n7
  | brk=>obtain ⟨σ7,H7,I7,q7⟩:=q7; exact ⟨σ7,H7,I7.unpinned,q7⟩
  | ret v=>obtain ⟨x7,σ7,H7,I7,r7,q7⟩:=q7; exact ⟨x7,σ7,H7,I7.unpinned,r7,q7⟩
end
theorem jdi {K:PySem.W.Frag} {a:Addr} {xs:List V} {g:TG} {tb:TS} {D:Ends} {σ:St} {H:Hp} (Pv:Nat->St->Hp->Prop) (h0:Pv 0 σ H) (hl:∀ i σ H,i <= xs.length->Pv i σ H->SqL K H a xs)
  (hs:∀ i x σ H,xs[i]? = some x->Pv i σ H->g x σ H fun σ2 H2=>tb { D with nx:=Pv (i + 1),ct:=Pv (i + 1),bk:=D.nx } σ2 H2) (hd:∀ σ H,Pv xs.length σ H->D.nx σ H) :
  ∃ W:Nat->Nat->St->Hp->Prop,(∃ m,W 0 m σ H)/\∀ i m σ H,W i m σ H ->
   ((Itl K a).stop i H/\D.nx σ H) \/ ((Itl K a).go i H/\∃ N:St->Hp->Prop,(∀ σ' H',N σ' H'->∃ m',m' < m/\W (i + 1) m' σ' H')/\∀ x H',(Itl K a).yld i H x H'->g x σ H' fun σ2 H2=>tb { D with nx:=N,ct:=N,bk:=D.nx } σ2 H2):=by
 refine ⟨fun i m σ H=>m = xs.length - i/\i <= xs.length/\Pv i σ H,⟨xs.length,by simp,Nat.zero_le _,h0⟩,?_⟩
 rintro i m σ H ⟨rfl,hi,p⟩
 have q:=hl i σ H hi p
 by_cases hlt:i < xs.length
 ·refine .inr ⟨⟨xs,xs[i],q,by simp [hlt]⟩,Pv (i + 1),fun σ' H' p'=>⟨xs.length - (i + 1),by omega,rfl,hlt,p'⟩,fun x H' y=>?_⟩
  obtain ⟨e,y⟩:=y
  subst e
  exact hs i x σ _ (y xs q) p
 ·have e:i = xs.length:=by omega
  subst e
  exact .inl ⟨⟨xs,q,Nat.le_refl _⟩,hd σ H p⟩
theorem jdc {lo:Int} {n:Nat} {g:TG} {tb:TS} {D:Ends} {σ:St} {H:Hp} (Pv:Nat->St->Hp->Prop) (h0:Pv 0 σ H)
  (hs:∀ i σ H,i < n->Pv i σ H->g (.int (lo + i)) σ H fun σ2 H2=>tb { D with nx:=Pv (i + 1),ct:=Pv (i + 1),bk:=D.nx } σ2 H2) (hd:∀ σ H,Pv n σ H->D.nx σ H) :
  ∃ W:Nat->Nat->St->Hp->Prop,(∃ m,W 0 m σ H)/\∀ i m σ H,W i m σ H ->
   ((Itr lo n).stop i H/\D.nx σ H) \/ ((Itr lo n).go i H/\∃ N:St->Hp->Prop,(∀ σ' H',N σ' H'->∃ m',m' < m/\W (i + 1) m' σ' H')/\∀ x H',(Itr lo n).yld i H x H'->g x σ H' fun σ2 H2=>tb { D with nx:=N,ct:=N,bk:=D.nx } σ2 H2):=by
 refine ⟨fun i m σ H=>m = n - i/\i <= n/\Pv i σ H,⟨n,by simp,Nat.zero_le _,h0⟩,?_⟩
 rintro i m σ H ⟨rfl,hi,p⟩
 by_cases hlt:i < n
 ·refine .inr ⟨hlt,Pv (i + 1),fun σ' H' p'=>⟨n - (i + 1),by omega,rfl,hlt,p'⟩,fun x H' y=>?_⟩
  obtain ⟨e,y⟩:=y
  subst e y
  exact hs i σ _ hlt p
 ·have e:i = n:=by omega
  subst e
  exact .inl ⟨Nat.le_refl _,hd σ H p⟩
theorem jid {c:TT} {tb:TS} {D:Ends} {σ:St} {H:Hp} (Pv:St->Hp->Prop) (μ:St->Hp->Nat) (h0:Pv σ H)
  (hs:∀ σ H,Pv σ H->c σ H fun b H1=>if b = true then tb { D with nx:=fun σ' H'=>Pv σ' H'/\μ σ' H' < μ σ H,ct:=fun σ' H'=>Pv σ' H'/\μ σ' H' < μ σ H,bk:=D.nx } σ H1 else D.nx σ H1)
  (mono:∀ σ H Q Q',(∀ b H1,Q b H1->Q' b H1)->c σ H Q->c σ H Q'):jsn c tb D σ H:=by
 refine ⟨fun m σ H=>m = μ σ H/\Pv σ H,⟨_,rfl,h0⟩,?_⟩
 rintro m σ H ⟨rfl,p⟩
 refine mono σ H _ _ (fun b H1 q=>?_) (hs σ H p)
 cases b with
 | true=>exact ⟨_,fun σ' H' ⟨p',l⟩=>⟨_,l,rfl,p'⟩,q⟩
 | false=>exact q
abbrev R2:=V->V->Hp->VK->Prop
def OpR (X:Cx) (f:Value->Value->Sem Value) (r:R2):Prop :=
 ∀ (pins:List (Addr × Obj)) (s:Shared) (σ:St) (H:Hp) (x y:V) (v u:Value) (Q:VK),Inv X pins σ H s->RelV x v->RelV y u->r x y H Q ->
  wpAny (model X.prog X.w) X.A (f v u) (EP X pins σ Q) X.xe s
def UnR (X:Cx) (f:Value->Sem Value) (r:V->Hp->VK->Prop):Prop :=
 ∀ (pins:List (Addr × Obj)) (s:Shared) (σ:St) (H:Hp) (x:V) (v:Value) (Q:VK),Inv X pins σ H s->RelV x v->r x H Q ->
  wpAny (model X.prog X.w) X.A (f v) (EP X pins σ Q) X.xe s
def jde (X:Cx) (f:Value) (r:List V->Hp->VK->Prop):Prop :=
 ∀ (pins:List (Addr × Obj)) (s:Shared) (σ:St) (H:Hp) (xs:List V) (us:List Value) (Q:VK),Inv X pins σ H s->Vals xs us->r xs H Q ->
  wpAny (model X.prog X.w) X.A (call f us) (EP X pins σ Q) X.xe s
def TruR (X:Cx) (r:V->Hp->(Bool->Hp->Prop)->Prop):Prop :=
 ∀ (pins:List (Addr × Obj)) (s:Shared) (σ:St) (H:Hp) (x:V) (v:Value) (Q:Bool->Hp->Prop),Inv X pins σ H s->RelV x v->r x H Q ->
  wpAny (model X.prog X.w) X.A (truthy v) (TP X pins σ Q) X.xe s
def tOp (r:R2) (ta tb:TE):TE:=fun σ H Q=>ta σ H fun x H1=>tb σ H1 fun y H2=>r x y H2 Q
def tUn (r:V->Hp->VK->Prop) (ta:TE):TE:=fun σ H Q=>ta σ H fun x H1=>r x H1 Q
def rI (C:Int->Int->Prop) (g:Int->Int->V):R2:=fun x y H Q=>∃ i j,x = .int i/\y = .int j/\C i j/\Q (g i j) H
def rI0 (g:Int->Int->V):R2:=fun x y H Q=>∃ i j,x = .int i/\y = .int j/\Q (g i j) H
def rU (g:Int->V):V->Hp->VK->Prop:=fun x H Q=>∃ i,x = .int i/\Q (g i) H
section
variable {X:Cx} {a b c:Expr} {ta tb tc:TE} {pos:Pos}
theorem binT (ha:PE X a ta) (hb:PE X b tb) {pins:List (Addr × Obj)} {s:Shared} {σ:St} {H:Hp} {R:V->V->Hp->Prop} (I:Inv X pins σ H s)
  (h:ta σ H fun x H1=>tb σ H1 fun y H2=>R x y H2) {Q:Value->Shared->Prop} {f:Value->Value->Sem Value}
  (hf:∀ v u s2 x y H2,Inv X pins σ H2 s2->RelV x v->RelV y u->R x y H2->wpAny (model X.prog X.w) X.A (f v u) Q X.xe s2) :
  wpAny (model X.prog X.w) X.A (eval a X.env) (fun v s₁=>wpAny (model X.prog X.w) X.A (eval b X.env) (fun u s₂=>wpAny (model X.prog X.w) X.A (f v u) Q X.xe s₂) X.xe s₁) X.xe s:=by
 refine thn (ha pins s σ H _ I h) fun v s1 ⟨x,H1,I1,r1,q1⟩=>?_
 refine thn (hb pins s1 σ H1 _ I1 q1) fun u s2 ⟨y,H2,I2,r2,q2⟩=>?_
 exact hf v u s2 x y H2 I2 r1 r2 q2
theorem jbo {op:Operator} {r:R2} (ho:OpR X (binaryOp op) r) (ha:PE X a ta) (hb:PE X b tb):PE X (.BinOp a op b pos) (tOp r ta tb):=by
 intro pins s σ H Q I h
 exact wpAny_BinOp (binT ha hb I h fun v u s2 x y H2 I2 rx ry q=>ho pins s2 σ H2 x y v u Q I2 rx ry q)
theorem jpl {op:UnaryOp} {r:V->Hp->VK->Prop} (ho:UnR X (unaryOp op) r) (ha:PE X a ta):PE X (.UnaryOp op a pos) (tUn r ta):=by
 intro pins s σ H Q I h
 exact UnaryOp_ (thn (ha pins s σ H _ I h) fun v s1 ⟨x,H1,I1,r1,q1⟩=>ho pins s1 σ H1 x v Q I1 r1 q1)
theorem opI {f:Value->Value->Sem Value} {C:Int->Int->Prop} {g:Int->Int->Int}
  (rule:∀ (i j:Int) (t u:Tok) (s:Shared) (Q:Value->Shared->Prop) (E:Value->Shared->Prop),C i j->Q (.int (g i j) s.toks) { s with toks:=s.toks + 1 }->wpAny (model X.prog X.w) X.A (f (.int i t) (.int j u)) Q E s) :
  OpR X f (rI C fun i j=>.int (g i j)):=by
 intro pins s σ H x y v u Q I rx ry h
 obtain ⟨i,j,rfl,rfl,hc,q⟩:=h
 obtain ⟨t,rfl⟩:=rx
 obtain ⟨t',rfl⟩:=ry
 exact rule i j t t' s _ _ hc ⟨.int (g i j),H,I.tok _,⟨_,rfl⟩,q⟩
theorem opI0 {f:Value->Value->Sem Value} {g:Int->Int->Int}
  (rule:∀ (i j:Int) (t u:Tok) (s:Shared) (Q:Value->Shared->Prop) (E:Value->Shared->Prop),Q (.int (g i j) s.toks) { s with toks:=s.toks + 1 }->wpAny (model X.prog X.w) X.A (f (.int i t) (.int j u)) Q E s) :
  OpR X f (rI0 fun i j=>.int (g i j)):=by
 intro pins s σ H x y v u Q I rx ry h
 obtain ⟨i,j,rfl,rfl,q⟩:=h
 obtain ⟨t,rfl⟩:=rx
 obtain ⟨t',rfl⟩:=ry
 exact rule i j t t' s _ _ ⟨.int (g i j),H,I.tok _,⟨_,rfl⟩,q⟩
theorem opB0 {f:Value->Value->Sem Value} {g:Int->Int->Bool}
  (rule:∀ (i j:Int) (t u:Tok) (s:Shared) (Q:Value->Shared->Prop) (E:Value->Shared->Prop),Q (.bool (g i j)) s->wpAny (model X.prog X.w) X.A (f (.int i t) (.int j u)) Q E s) :
  OpR X f (rI0 fun i j=>.bl (g i j)):=by
 intro pins s σ H x y v u Q I rx ry h
 obtain ⟨i,j,rfl,rfl,q⟩:=h
 obtain ⟨t,rfl⟩:=rx
 obtain ⟨t',rfl⟩:=ry
 exact rule i j t t' s _ _ ⟨.bl (g i j),H,I,rfl,q⟩
def CDiv (i j:Int):Prop:=0 < j/\j < 1073741824
def CPow (i j:Int):Prop:=0 <= j/\j <= 1000000/\i.natAbs < 2 ^ 64
def CMul (i j:Int):Prop:=(-(2 ^ 64) < i/\i < 2 ^ 64) \/ (-(2 ^ 64) < j/\j < 2 ^ 64)
theorem CMul.ok {i j:Int} (h:CMul i j):IntMulOk i j:=by
 rcases h with ⟨h1,h2⟩ | ⟨h1,h2⟩
 ·exact .of_left (intBits_le_64 h1 h2)
 ·exact .of_right (intBits_le_64 h1 h2)
theorem op_add:OpR X (binaryOp .Add) (rI0 fun i j=>.int (i + j)):=opI0 fun _ _ _ _ _ _ _ q=>add_int q
theorem op_sub:OpR X (binaryOp .Sub) (rI0 fun i j=>.int (i - j)):=opI0 fun _ _ _ _ _ _ _ q=>sub_int q
theorem op_mul:OpR X (binaryOp .Mult) (rI CMul fun i j=>.int (i * j)):=opI fun _ _ _ _ _ _ _ hc q=>mul_int q hc.ok
theorem juc:OpR X (binaryOp .FloorDiv) (rI CDiv fun i j=>.int (i / j)):=opI fun i j _ _ _ _ _ hc q=>by
 have h1:(0:Int) < j:=hc.1
 have h2:j < 1073741824:=hc.2
 exact floordiv_int (by omega) (by rw [Int.fdiv_eq_ediv_of_nonneg i (by omega)]; exact q) (.inl (PyProof.noPylong_small (by omega)))
theorem op_mod:OpR X (binaryOp .Mod) (rI (fun _ j=>0 < j) fun i j=>.int (i % j)):=opI fun i j _ _ _ _ _ hc q=>by
 have h1:(0:Int) < j:=hc
 exact mod_int' (by omega) (by rw [Int.fmod_eq_emod_of_nonneg i (by omega)]; exact q)
theorem op_pow:OpR X (binaryOp .Pow) (rI CPow fun i j=>.int (i ^ j.toNat)):=opI fun _ _ _ _ _ _ _ hc q=>pow_int_small hc.1 hc.2.1 hc.2.2 q
theorem jut:OpR X (inplaceOp .Add) (rI0 fun i j=>.int (i + j)):=opI0 fun _ _ _ _ _ _ _ q=>iadd_int q
theorem unI {f:Value->Sem Value} {g:Int->Int}
  (rule:∀ (i:Int) (t:Tok) (s:Shared) (Q:Value->Shared->Prop) (E:Value->Shared->Prop),Q (.int (g i) s.toks) { s with toks:=s.toks + 1 }->wpAny (model X.prog X.w) X.A (f (.int i t)) Q E s) :
  UnR X f (rU fun i=>.int (g i)):=by
 intro pins s σ H x v Q I rx h
 obtain ⟨i,rfl,q⟩:=h
 obtain ⟨t,rfl⟩:=rx
 exact rule i t s _ _ ⟨.int (g i),H,I.tok _,⟨_,rfl⟩,q⟩
theorem un_neg:UnR X (unaryOp .USub) (rU fun i=>.int (-i)):=unI fun _ _ _ _ _ q=>neg_int q
end
def scal:V->V->Bool
 | .non,.non=>true | .non,.int _=>true | .int _,.non=>true | .non,.bl _=>true | .bl _,.non=>true | .non,.str _=>true | .str _,.non=>true
 | .int _,.int _=>true | .bl _,.bl _=>true | .str _,.str _=>true | .byt _,.byt _=>true
 | .int _,.str _=>true | .str _,.int _=>true | .bl _,.str _=>true | .str _,.bl _=>true
 | _,_=>false
def rEq:R2:=fun x y H Q=>scal x y = true/\Q (.bl (decide (x = y))) H
theorem jv2 {i j:Int}:decide (V.int i = V.int j) = (i == j):=by
 rw [Bool.eq_iff_iff]
 simp
theorem dec_bl {i j:Bool}:decide (V.bl i = V.bl j) = (i == j):=by
 rw [Bool.eq_iff_iff]
 simp
theorem jv1 {i j:Str}:decide (V.str i = V.str j) = (i == j):=by
 rw [Bool.eq_iff_iff]
 simp
theorem jv3 {i j:Array UInt8}:decide (V.byt i = V.byt j) = (i.toList == j.toList):=by
 rw [Bool.eq_iff_iff]
 cases i
 cases j
 simp
section
variable {X:Cx} {a b c:Expr} {ta tb tc:TE} {pos:Pos}
theorem jd7 {pins:List (Addr × Obj)} {σ:St} {H:Hp} {s:Shared} {Q:VK} {k k':Bool} (I:Inv X pins σ H s) (q:Q (.bl k) H) (e:k = k'):EP X pins σ Q (.bool k') s:=by
 subst e
 exact ⟨.bl k,H,I,rfl,q⟩
theorem op_eq:OpR X (compareOp .Eq) rEq:=by
 intro pins s σ H x y v u Q I rx ry h
 obtain ⟨hs,q⟩:=h
 cases x with
 | non =>
  cases rx
  cases y with
  | non=>cases ry; exact PySem.EqNone.eq_none_none (jd7 I q (by simp))
  | bl j=>cases ry; exact PySem.EqNone.eq_none_bool (jd7 I q (by simp))
  | int j=>obtain ⟨t',rfl⟩:=ry; exact PySem.EqNone.eq_none_int (jd7 I q (by simp))
  | str j=>obtain ⟨t',rfl⟩:=ry; exact PySem.EqNone.eq_none_str (jd7 I q (by simp))
  | _=>exact absurd (show false = true from hs) Bool.false_ne_true
 | bl i =>
  cases rx
  cases y with
  | non=>cases ry; exact PySem.EqNone.eq_bool_none (jd7 I q (by simp))
  | bl j=>cases ry; exact eq_bool (jd7 I q dec_bl)
  | str j=>obtain ⟨t',rfl⟩:=ry; exact PySem.EqMixed.eq_bool_str (jd7 I q (by simp))
  | _=>exact absurd (show false = true from hs) Bool.false_ne_true
 | int i =>
  obtain ⟨t,rfl⟩:=rx
  cases y with
  | non=>cases ry; exact PySem.EqNone.eq_int_none (jd7 I q (by simp))
  | int j=>obtain ⟨t',rfl⟩:=ry; exact eq_int (jd7 I q jv2)
  | str j=>obtain ⟨t',rfl⟩:=ry; exact PySem.EqMixed.eq_int_str (jd7 I q (by simp))
  | _=>exact absurd (show false = true from hs) Bool.false_ne_true
 | str i =>
  obtain ⟨t,rfl⟩:=rx
  cases y with
  | non=>cases ry; exact PySem.EqNone.eq_str_none (jd7 I q (by simp))
  | bl j=>cases ry; exact PySem.EqMixed.eq_str_bool (jd7 I q (by simp))
  | int j=>obtain ⟨t',rfl⟩:=ry; exact PySem.EqMixed.eq_str_int (jd7 I q (by simp))
  | str j=>obtain ⟨t',rfl⟩:=ry; exact eq_str (jd7 I q jv1)
  | _=>exact absurd (show false = true from hs) Bool.false_ne_true
 | byt i =>
  obtain ⟨t,rfl⟩:=rx
  cases y with
  | byt j=>obtain ⟨t',rfl⟩:=ry; exact PySem.W.eq_bytes (jd7 I q jv3)
  | _=>exact absurd (show false = true from hs) Bool.false_ne_true
 | _=>cases y <;> exact absurd (show false = true from hs) Bool.false_ne_true
theorem op_lt:OpR X (compareOp .Lt) (rI0 fun i j=>.bl (decide (i < j))):=opB0 fun _ _ _ _ _ _ _ q=>lt_int q
theorem op_le:OpR X (compareOp .LtE) (rI0 fun i j=>.bl (decide (i <= j))):=opB0 fun _ _ _ _ _ _ _ q=>le_int q
theorem op_gt:OpR X (compareOp .Gt) (rI0 fun i j=>.bl (decide (j < i))):=opB0 fun _ _ _ _ _ _ _ q=>gt_int q
theorem op_ge:OpR X (compareOp .GtE) (rI0 fun i j=>.bl (decide (j <= i))):=opB0 fun _ _ _ _ _ _ _ q=>ge_int q
theorem jub:OpR X (compareOp .IsNot) (fun x y H Q=>y = .non/\Q (.bl (!decide (x = .non))) H):=by
 intro pins s σ H x y v u Q I rx ry h
 obtain ⟨rfl,q⟩:=h
 cases ry
 refine isnot_none_gen (jd7 I q ?_)
 cases x <;> first
  | (cases rx; rfl)
  | (obtain ⟨t,rfl⟩:=rx; rfl)
theorem jby (b:Expr) {op:CmpOp} (h:op ≠ .In:=by decide) (h2:op ≠ .NotIn:=by decide):behindInMarks op b = false:=by
 have e1:(op == CmpOp.In) = false:=by cases op <;> first | rfl | exact absurd rfl h
 have e2:(op == CmpOp.NotIn) = false:=by cases op <;> first | rfl | exact absurd rfl h2
 cases b <;> simp [behindInMarks,e1,e2]
theorem jd5 {op:CmpOp} {r:R2} (ho:OpR X (compareOp op) r) (ha:PE X a ta) (hb:PE X b tb) (hm:behindInMarks op b = false):PE X (.Compare a [op] [b] pos) (tOp r ta tb):=by
 intro pins s σ H Q I h
 exact wpAny_Compare1 (binT ha hb I h fun v u s2 x y H2 I2 rx ry q=>ho pins s2 σ H2 x y v u Q I2 rx ry q) hm
def TruV (K:PySem.W.Frag) (x:V) (H:Hp) (k:Bool):Prop :=
 match x with
 | .non=>k = false
 | .bl b=>k = b
 | .int i=>k = (i != 0)
 | .str y=>y.length <= sizeLine/\k = ((y.length:Int) != 0)
 | .byt y=>y.size <= sizeLine/\k = ((y.size:Int) != 0)
 | .ref p=>(∃ xs,SqL K H p xs/\k = !xs.isEmpty) \/ (∃ xs,SqT K H p xs/\k = !xs.isEmpty) \/ ∃ kvs,H p = some (.dK kvs)/\k = !kvs.isEmpty
 | _=>False
theorem joa {κ:Type} {kvs:List (κ × V)} {vs:List (κ × Value)} (r:KV kvs vs):(!vs.isEmpty) = !kvs.isEmpty:=by
 cases r <;> rfl
theorem ji6 {xs:List V} {its:List Value} (r:Vals xs its):(!its.toArray.isEmpty) = !xs.isEmpty:=by
 cases r <;> simp
theorem ji1:(sizeLine:Nat) < 2 ^ 63:=by rw [sizeLine_eq]; decide
theorem tru_ok:TruR X (fun x H Q=>∃ k,TruV X.K x H k/\Q k H):=by
 intro pins s σ H x v Q I rx h
 obtain ⟨k,e,q⟩:=h
 have hl:=ji1
 have hs:sizeLine = 16777216:=sizeLine_eq
 cases x with
 | non =>
  cases rx
  have e':k = false:=e
  subst e'
  exact truthy_none ⟨H,I,q⟩
 | bl b =>
  cases rx
  have e':k = b:=e
  subst e'
  exact wpAny_truthy_bool ⟨H,I,q⟩
 | int i =>
  obtain ⟨t,rfl⟩:=rx
  have e':k = (i != 0):=e
  subst e'
  exact PySem.P.truthy_int ⟨H,I,q⟩
 | str y =>
  obtain ⟨t,rfl⟩:=rx
  obtain ⟨hy,e'⟩:y.length <= sizeLine/\k = ((y.length:Int) != 0):=e
  subst e'
  exact PySem.P.truthy_str (by omega) ⟨H,I.tok _,q⟩
 | byt y =>
  obtain ⟨t,rfl⟩:=rx
  obtain ⟨hy,e'⟩:y.size <= sizeLine/\k = ((y.size:Int) != 0):=e
  subst e'
  exact PySem.W.truthy_bytes (by omega) ⟨H,I.tok _,q⟩
 | ref p =>
  cases rx
  have e':(∃ xs,SqL X.K H p xs/\k = !xs.isEmpty) \/ (∃ xs,SqT X.K H p xs/\k = !xs.isEmpty) \/ ∃ kvs,H p = some (.dK kvs)/\k = !kvs.isEmpty:=e
  rcases e' with ⟨xs,hx,e'⟩ | ⟨xs,hx,e'⟩ | ⟨kvs,hx,e'⟩
  ·subst e'
   obtain ⟨its,r,pl,hz⟩:=I.list hx
   have hlen:=r.length
   exact wpAny_truthy_list pl.isList (by simp only [List.size_toArray]; omega) ⟨H,I.tok _,by rw [ji6 r]; exact q⟩
  ·subst e'
   obtain ⟨its,r,pl,hz⟩:=I.tuple hx
   have hlen:=r.length
   exact truthy_tuple pl (by simp only [List.size_toArray]; omega) ⟨H,I.tok _,by rw [ji6 r]; exact q⟩
  ·subst e'
   obtain ⟨hz,hS,vs,r,m⟩:kvs.length <= sizeLine/\(p == sysModules) = false/\∃ vs,KV kvs vs/\s.heap.DictOf (jc3 X.prog X.w) p vs:=I.hok p _ hx
   have hlen:kvs.length = vs.length:=Paired.length r
   exact wpAny_truthy_dict hS m (by omega) ⟨H,I.tok _,by rw [joa r]; exact q⟩
 | _=>exact (show False from e).elim
theorem jri (ha:PE X a ta) (he:∀ whole,isTrue a X.env whole = (do let v <- whole; standAt a.pos; holding [v] (truthy v))) :
  PT X a (fun σ H Q=>ta σ H fun x H'=>∃ k,TruV X.K x H' k/\Q k H'):=by
 intro pins s σ H Q I h
 exact isTrue_plain (thn (ha pins s σ H _ I h) fun v s1 ⟨x,H1,I1,r1,q1⟩=>tru_ok pins s1 σ H1 x v Q I1 r1 q1) (he _)
theorem jif {x:V} {us:List Value} (r:Vals [x] us):∃ u,us = [u]/\RelV x u:=by
 cases r with
 | cons r1 r2=>cases r2; exact ⟨_,rfl,r1⟩
theorem vals2 {x y:V} {us:List Value} (r:Vals [x,y] us):∃ u w',us = [u,w']/\RelV x u/\RelV y w':=by
 cases r with
 | cons r1 r2 =>
  cases r2 with
  | cons r3 r4=>cases r4; exact ⟨_,_,rfl,r1,r3⟩
theorem jqz (hc:X.calm = true):jde X (.builtin "max") (fun xs H Q=>∃ i j,xs = [.int i,.int j]/\Q (.int (if j > i then j else i)) H):=by
 intro pins s σ H xs us Q I r h
 obtain ⟨i,j,rfl,q⟩:=h
 obtain ⟨u,w',rfl,⟨t,rfl⟩,⟨t',rfl⟩⟩:=vals2 r
 refine max_two_ints (I.ok.hd hc) fun h' tk k=>⟨_,H,I.kept k,?_,q⟩
 by_cases hj:j > i
 ·rw [if_pos hj,if_pos hj]; exact ⟨_,rfl⟩
 ·rw [if_neg hj,if_neg hj]; exact ⟨_,rfl⟩
theorem jqx (hc:X.calm = true):jde X (.builtin "min") (fun xs H Q=>∃ i j,xs = [.int i,.int j]/\Q (.int (if j < i then j else i)) H):=by
 intro pins s σ H xs us Q I r h
 obtain ⟨i,j,rfl,q⟩:=h
 obtain ⟨u,w',rfl,⟨t,rfl⟩,⟨t',rfl⟩⟩:=vals2 r
 refine min_two_ints (I.ok.hd hc) fun h' tk k=>⟨_,H,I.kept k,?_,q⟩
 by_cases hj:j < i
 ·rw [if_pos hj,if_pos hj]; exact ⟨_,rfl⟩
 ·rw [if_neg hj,if_neg hj]; exact ⟨_,rfl⟩
theorem jr0:jde X (.type "int") (fun xs H Q=>(∃ i,xs = [.int i]/\Q (.int i) H) \/ ∃ k,xs = [.bl k]/\Q (.int (if k then 1 else 0)) H):=by
 intro pins s σ H xs us Q I r h
 rcases h with ⟨i,rfl,q⟩ | ⟨k,rfl,q⟩
 ·obtain ⟨u,rfl,t,rfl⟩:=jif r
  exact call_int_int ⟨.int i,H,I,⟨_,rfl⟩,q⟩
 ·obtain ⟨u,rfl,r1⟩:=jif r
  cases r1
  exact call_int_bool ⟨.int (if k then 1 else 0),H,I.tok _,⟨_,rfl⟩,q⟩
end
structure ObjM (h:Heap) (x dx C:Addr) (mA:Str->Option Value):Prop where
 obj:h.get? x = some (PySem.W.instObj C dx)
 ns:h.Ns1 dx mA
 ne:dx ≠ x
theorem jq4 {h:Heap} {dx:Addr} {mA:Str->Option Value} (n:h.Ns1 dx mA):∃ od,h.get? dx = some od/\∀ name,PySem.W.lookIn name od = some (mA name):=by
 obtain ⟨o,es,ep,ho,hd,hk,_,hm⟩:=n
 refine ⟨o,ho,fun name=>?_⟩
 have e:=hm name
 unfold nsFind findBy at e
 rw [<- Array.find?_toList] at e
 unfold PySem.W.lookIn
 rw [hd]
 dsimp only
 split
 ·rename_i y q
  rw [q] at e
  exact congrArg some e
 ·rename_i q
  rw [q] at e
  have a:es.toList.any (·.refKey) = false:=by
   rw [List.any_eq_false]
   intro y hy
   obtain ⟨z,t,hkey⟩:=hk y (Array.mem_toList_iff.mp hy)
   simp [DictEntry.refKey,hkey]
  have a':¬ es.toList.any (·.refKey) = true:=by rw [a]; exact Bool.false_ne_true
  rw [if_neg a']
  exact congrArg some e
theorem ObjM.look {h:Heap} {x dx C:Addr} {mA:Str->Option Value} (I:ObjM h x dx C mA):∃ od,PySem.W.InstAt h x (PySem.W.instObj C dx) C (some od)/\∀ name,PySem.W.lookIn name od = some (mA name) :=
 let ⟨od,ho,hl⟩:=jq4 I.ns
 ⟨od,⟨I.obj,rfl,rfl,ho⟩,hl⟩
section
variable {prog:Program} {w:World} {A:Around} {E:Value->Shared->Prop} {s:Shared} {K:PySem.W.Frag} {x dx C f:Addr} {mA:Str->Option Value} {name:Str} {v:Value}
theorem jux {expr:Bool} {Q:Value->Shared->Prop} (X:K.In s.heap) (I:ObjM s.heap x dx C mA) (hg:PySem.W.plainGet K C name = true) (hh:PySem.W.hasDictIn K C = true)
  (ha:PySem.W.findIn K (.ref C) name = some none) (hv:mA name = some v) (hv':PySem.W.handedIn v = true) (h:Q v { s with toks:=s.toks + 1 }) :
  wpAny (model prog w) A (getAttr (.ref x) name expr) Q E s:=by
 obtain ⟨od,J,hl⟩:=I.look
 exact PySem.W.get_value X J (PySem.W.plainGet_of hg).1 (PySem.W.findObj_own hh ha rfl (by rw [hl,hv])) hv' h
theorem jsa {pl:Sem Bool} {Q:Value × List Value->Shared->Prop} (X:K.In s.heap) (I:ObjM s.heap x dx C mA) (hg:PySem.W.plainGet K C name = true)
  (hf:PySem.W.findIn K (.ref C) name = some (some (.ref f))) (ht:PySem.W.isFn K (.ref f) = true) (hv:mA name = none) (h:Q (.ref f,[.ref x]) s) :
  wpAny (model prog w) A (getMethod (.ref x) name pl) Q E s:=by
 obtain ⟨od,J,hl⟩:=I.look
 exact PySem.W.method_fn X J (PySem.W.plainGet_of hg).1 (PySem.W.plainGet_of hg).2 hf (beq_iff_eq.mp ht) (by show (PySem.W.lookIn name od).map (·.isSome) = some false; rw [hl,hv]; rfl) h
theorem jtu {ns:List Str} {Q:Unit->Shared->Prop} (X:K.In s.heap) (I:ObjM s.heap x dx C mA)
  (hs:PySem.W.findIn K (.ref C) "__setattr__" = some (some (.builtin "object.__setattr__"))) (hp:PySem.W.plainOver K C = true) (ht:PySem.W.takerIn K C name = some none) (hh:PySem.W.hasDictIn K C = true)
  (hw:PySem.Within mA ns) (hsz:ns.length <= sizeLine)
  (h:∀ h',ObjM h' x dx C (fun y=>if y = name then some v else mA y)->Heap.SameBut dx s.heap h'->Q () { s with heap:=h',toks:=s.toks + 2 }) :
  wpAny (model prog w) A (setAttr (.ref x) name v) Q E s:=by
 obtain ⟨od,J,hl⟩:=I.look
 refine PySem.W.set_plain X J hs (PySem.W.osa_open (s:={ s with toks:=s.toks + 1 }) (r:=none) X J hp ht fun b=>?_)
 obtain ⟨cd,hc,hd'⟩:=PySem.W.any_some hh
 have hx:s.heap.get? x = some ⟨.ref C,some dx,.plain,#[]⟩:=I.obj
 refine wpAny_bind (wpAny_pure (wpAny_bind (wpAny_bind (wpAny_loadPart hx (wpAny_bind (PySem.W.Looks.here (s:={ s with toks:=s.toks + 1 }) (PySem.W.looks_clsIn X hc) ?_))))))
 rw [hd']
 refine wpAny_pure (a:=some dx) (wpAny_bind (wpAny_pure (wpAny_bind ?_)))
 refine wpAny_nsSet1 (s:={ s with toks:=s.toks + 1 }) I.ns fun h' hn2 hs2=>?_
 obtain ⟨oD,esD,epD,hoD,hdD,hcD⟩:=hn2.count (PySem.Within.cons name v hw)
 refine wpAny_bind (wpAny_lookBehind hoD (by rw [hdD]; exact pastItsLine_dict (Nat.le_trans hcD (by rw [List.length_cons]; omega))) ?_)
 exact wpAny_pure (h _ ⟨(hs2.2 _ (Ne.symm I.ne)).trans I.obj,hn2,I.ne⟩ hs2)
theorem js3 {R:Result->Shared->Prop} {vs:List Value} {kw:List (Str × Value)} (X:K.In s.heap) (hm:PySem.W.makesIn K C = true)
  (hi:PySem.W.findIn K (.ref C) "__init__" = some (some (.ref f))) (hf:PySem.W.typeIn K (.ref f) = some (.type "function"))
  (h:codeAny (model prog w) (A.under (.builtin "type.__call__" ⟨.ref C :: vs,kw⟩)) (.call (.ref f) ⟨.ref (s.heap.objs.size + 1) :: vs,kw⟩) (PySem.W.InitBack (s.heap.objs.size + 1) R)
   { s with heap:=(s.heap.push PySem.W.emptyDict).push (PySem.W.instObj C s.heap.objs.size) }) :
  codeAny (model prog w) A (.call (.ref C) ⟨vs,kw⟩) R s:=by
 obtain ⟨hh,g,d,t,os⟩:=s
 exact PySem.W.make_core (PySem.W.makes_of X hm) (PySem.W.looks_findIn X hi) (fun self=>PySem.W.bind_fn X self hf) (.inl rfl) h
end
def putF (f:Str) (v:V):List (Str × V)->List (Str × V)
 | []=>[(f,v)]
 | (g,x) :: r=>if g = f then (g,v) :: r else (g,x) :: putF f v r
theorem jh3 (f g:Str) (v:V):∀ fs:List (Str × V),(putF f v fs).lookup g = if g = f then some v else fs.lookup g
 | []=>by
  show List.lookup g [(f,v)] = _
  by_cases h:g = f
  ·have hb:(g == f) = true:=beq_iff_eq.mpr h
   simp only [List.lookup,hb,if_pos h]
  ·have hb:(g == f) = false:=beq_eq_false_iff_ne.mpr h
   simp only [List.lookup,hb,if_neg h]
 | (k,x) :: r=>by
  have ih:=jh3 f g v r
  rw [show putF f v ((k,x) :: r) = (if k = f then (k,v) :: r else (k,x) :: putF f v r) from rfl]
  by_cases hk:k = f
  ·rw [if_pos hk]
   by_cases h:g = k
   ·have hb:(g == k) = true:=beq_iff_eq.mpr h
    simp only [List.lookup,hb,if_pos (h.trans hk)]
   ·have hb:(g == k) = false:=beq_eq_false_iff_ne.mpr h
    simp only [List.lookup,hb,if_neg (fun e:g = f=>h (e.trans hk.symm))]
  ·rw [if_neg hk]
   by_cases h:g = k
   ·have hb:(g == k) = true:=beq_iff_eq.mpr h
    simp only [List.lookup,hb,if_neg (fun e:g = f=>hk (h.symm.trans e))]
   ·have hb:(g == k) = false:=beq_eq_false_iff_ne.mpr h
    simp only [List.lookup,hb]
    exact ih
theorem jh7 (f:Str) (v:V):∀ fs:List (Str × V),f ∈ (putF f v fs).map (·.1)/\∀ g,g ∈ fs.map (·.1)->g ∈ (putF f v fs).map (·.1)
 | []=>⟨by simp [putF],fun g h=>by simp at h⟩
 | (k,x) :: r=>by
  obtain ⟨i1,i2⟩:=jh7 f v r
  rw [show putF f v ((k,x) :: r) = (if k = f then (k,v) :: r else (k,x) :: putF f v r) from rfl]
  by_cases hk:k = f
  ·rw [if_pos hk]
   subst hk
   exact ⟨by simp,fun g h=>by simpa using h⟩
  ·rw [if_neg hk]
   refine ⟨?_,fun g h=>?_⟩
   ·rw [List.map_cons]
    exact List.mem_cons_of_mem _ i1
   ·rw [List.map_cons] at h ⊢
    rcases List.mem_cons.mp h with e | e
    ·exact List.mem_cons.mpr (.inl e)
    ·exact List.mem_cons_of_mem _ (i2 g e)
theorem jh6 (f:Str) (v:V):∀ fs:List (Str × V),(putF f v fs).length <= fs.length + 1
 | []=>by simp [putF]
 | (k,x) :: r=>by
  have ih:=jh6 f v r
  rw [show putF f v ((k,x) :: r) = (if k = f then (k,v) :: r else (k,x) :: putF f v r) from rfl]
  by_cases hk:k = f
  ·rw [if_pos hk,List.length_cons,List.length_cons]; omega
  ·rw [if_neg hk,List.length_cons,List.length_cons]; omega
theorem RelO.some_of {v:V} {o:Option Value} (r:RelO (some v) o):∃ u,o = some u/\RelV v u:=by
 cases o with
 | none=>exact (show False from r).elim
 | some u=>exact ⟨u,rfl,r⟩
theorem RelO.none_of {o:Option Value} (r:RelO none o):o = none:=by
 cases o with
 | none=>rfl
 | some u=>exact (show False from r).elim
theorem jqk {v:V} {u:Value} (r:RelV v u):PySem.W.handedIn u = true:=by
 cases v with
 | non=>cases (show u = Value.none from r); rfl
 | bl b=>cases (show u = Value.bool b from r); rfl
 | int i=>obtain ⟨t,e⟩:=(show ∃ t,u = Value.int i t from r); cases e; rfl
 | str x=>obtain ⟨t,e⟩:=(show ∃ t,u = Value.str x t from r); cases e; rfl
 | byt b=>obtain ⟨t,e⟩:=(show ∃ t,u = Value.bytes b t from r); cases e; rfl
 | flt b=>obtain ⟨t,e⟩:=(show ∃ t,u = Value.float b t from r); cases e; rfl
 | ref a=>cases (show u = Value.ref a from r); rfl
 | ty n=>cases (show u = Value.type n from r); rfl
section
variable {P:Program} {w:World} {H H':Hp} {h h':Heap} {a C dx:Addr} {fs fs':List (Str × V)}
theorem jjh (hok:HOk P w H h) (e:H a = some (.ins C dx fs)):∃ mA,ObjM h a dx C mA/\(∀ f,RelO (fs.lookup f) (mA f))/\PySem.Within mA (fs.map (·.1))/\fs.length <= 1000/\H dx = some (.own a):=by
 obtain ⟨d,z,ne,ob,mA,n,r,q⟩:=(show jcv P w H h a (.ins C dx fs) from hok a _ e)
 exact ⟨mA,⟨ob,n,ne⟩,r,q,z,d⟩
end
structure Cls (K:PySem.W.Frag) (C:Addr):Prop where
 pg:PySem.W.plainGet K C Str.empty = true
 hd:PySem.W.hasDictIn K C = true
 po:PySem.W.plainOver K C = true
 sa:PySem.W.findIn K (.ref C) "__setattr__" = some (some (.builtin "object.__setattr__"))
theorem Cls.get {K:PySem.W.Frag} {C:Addr} (c:Cls K C) (f:Str):PySem.W.plainGet K C f = true:=c.pg
def jfb (K:PySem.W.Frag) (C:Addr) (f:Str):Prop:=PySem.W.findIn K (.ref C) f = some none
theorem jfb.taker {K:PySem.W.Frag} {C:Addr} {f:Str} (n:jfb K C f):PySem.W.takerIn K C f = some none:=by
 unfold PySem.W.takerIn
 rw [show PySem.W.findIn K (.ref C) f = some none from n]
 rfl
structure Meth (K:PySem.W.Frag) (C:Addr) (m:Str) (f:Addr):Prop where
 at_:PySem.W.findIn K (.ref C) m = some (some (.ref f))
 fn:PySem.W.isFn K (.ref f) = true
 kp:PySem.W.keepIn K (.ref f) = true
section
variable {X:Cx} {pins:List (Addr × Obj)} {σ:St} {H:Hp} {s:Shared} {a C dx:Addr} {fs:List (Str × V)} {f:Str} {v:V} {A:Around} {E:Value->Shared->Prop}
theorem job {b:Bool} {Q:Value->Shared->Prop} (I:Inv X pins σ H s) (e:H a = some (.ins C dx fs)) (c:Cls X.K C) (n:jfb X.K C f) (l:fs.lookup f = some v)
  (h:∀ u s',Inv X pins σ H s'->RelV v u->Q u s'):wpAny (model X.prog X.w) A (getAttr (.ref a) f b) Q E s:=by
 obtain ⟨mA,O,r,_,_,_⟩:=jjh I.hok e
 obtain ⟨u,hu,ru⟩:=RelO.some_of (v:=v) (o:=mA f) (by rw [<- l]; exact r f)
 exact jux I.kIn O (c.get f) c.hd n hu (jqk ru) (h u _ (I.tok _) ru)
theorem ji7 {m:Str} {g:Addr} {pl:Sem Bool} {Q:Value × List Value->Shared->Prop} (I:Inv X pins σ H s) (e:H a = some (.ins C dx fs)) (c:Cls X.K C) (k:Meth X.K C m g) (l:fs.lookup m = none)
  (h:Q (.ref g,[.ref a]) s):wpAny (model X.prog X.w) A (getMethod (.ref a) m pl) Q E s:=by
 obtain ⟨mA,O,r,_,_,_⟩:=jjh I.hok e
 have hn:mA m = none:=RelO.none_of (by rw [<- l]; exact r m)
 exact jsa I.kIn O (c.get m) k.at_ k.fn hn h
theorem jnu {y:V} {u:Value} {Q:Unit->Shared->Prop} (I:Inv X pins σ H s) (e:H a = some (.ins C dx fs)) (c:Cls X.K C) (n:jfb X.K C f) (hl:fs.length < 1000) (ry:RelV y u)
  (h:∀ s',Inv X pins σ (upd H a (.ins C dx (putF f y fs))) s'->Q () s'):wpAny (model X.prog X.w) A (setAttr (.ref a) f u) Q E s:=by
 obtain ⟨mA,O,r,wi,_,ho⟩:=jjh I.hok e
 have hz:(fs.map (·.1)).length <= sizeLine:=by rw [List.length_map,sizeLine_eq]; omega
 refine jtu I.kIn O c.sa c.po n.taker c.hd wi hz fun h' O' sb=>h _ ?_
 have hd:∃ o,h'.get? dx = some o:=let ⟨o,_,_,e',_⟩:=O'.ns; ⟨o,e'⟩
 refine I.write (x:=a) (e:=dx) (by rw [e]; exact True.intro) (.inr ho) (fun b q hb z=>(sb.2 b hb).trans z) hd ?_
 refine ⟨by rw [jb7 O.ne]; exact ho,?_,O.ne,O'.obj,_,O'.ns,fun g=>?_,fun g hg=>?_⟩
 ·have:=jh6 f y fs; omega
 ·show RelO ((putF f y fs).lookup g) (if g = f then some u else mA g)
  rw [jh3]
  by_cases q:g = f
  ·rw [if_pos q,if_pos q]; exact ry
  ·rw [if_neg q,if_neg q]; exact r g
 ·by_cases q:g = f
  ·rw [q]; exact (jh7 f y fs).1
  ·refine (jh7 f y fs).2 g (wi g fun z=>hg ?_)
   show (if g = f then some u else mA g) = none
   rw [if_neg q]; exact z
theorem Inv.made (I:Inv X pins σ H s):Inv X pins σ (upd (upd H s.heap.objs.size (.own (s.heap.objs.size + 1))) (s.heap.objs.size + 1) (.ins C s.heap.objs.size []))
  { s with heap:=(s.heap.push PySem.W.emptyDict).push (PySem.W.instObj C s.heap.objs.size) }:=by
 have e1:(s.heap.push PySem.W.emptyDict).get? s.heap.objs.size = some PySem.W.emptyDict:=Heap.get?_push_size s.heap rfl
 have e2:((s.heap.push PySem.W.emptyDict).push (PySem.W.instObj C s.heap.objs.size)).get? (s.heap.objs.size + 1) = some (PySem.W.instObj C s.heap.objs.size):=by
  have:=Heap.get?_push_size (s.heap.push PySem.W.emptyDict) (o:=PySem.W.instObj C s.heap.objs.size) rfl
  rwa [Heap.size_push] at this
 have e3:(s.heap.push PySem.W.emptyDict).Ns s.heap.objs.size (fun _=>none):=⟨PySem.W.emptyDict,#[],_,e1,rfl,(fun e he=>absurd he (by simp)),fun _=>rfl⟩
 have I1:=I.laid (a:=s.heap.objs.size) (o:=.own (s.heap.objs.size + 1)) (h':=s.heap.push PySem.W.emptyDict) (t':=s.toks) (fun b u q=>Heap.get?_push_of_some _ q) (Nat.le_refl _) ⟨_,e1⟩
 refine I1.laid (a:=s.heap.objs.size + 1) (o:=.ins C s.heap.objs.size []) (t':=s.toks) (fun b u q=>Heap.get?_push_of_some _ q) (Nat.le_of_eq (Heap.size_push _ _)) ?_
 have ne:s.heap.objs.size ≠ s.heap.objs.size + 1:=Nat.ne_of_lt (Nat.lt_succ_self _)
 refine ⟨by rw [jb7 ne,ja1],Nat.zero_le _,ne,e2,fun _=>none,(Heap.Ns1.of_empty e3).at fun o q=>Heap.get?_push_of_some _ q,fun _=>True.intro,fun y hy=>absurd rfl hy⟩
theorem jv9 {prog:Program} {w:World} {env:Env} {e:Expr} {f:Str} {pos:Pos} {s:Shared} {Q:Value->Shared->Prop} (hb:attributeBase e f env (eval e env) = eval e env)
  (h:wpAny (model prog w) A (eval e env) (fun o s₁=>wpAny (model prog w) A (getAttr o f true) Q E s₁) E s):wpAny (model prog w) A (eval (.Attribute e f pos) env) Q E s :=
 Attribute_any_ h (by rw [arm_eval_Attribute,hb])
end
section
variable {X:Cx} {o e value:Expr} {f:Str} {pos pos' tpos:Pos} {ta tv:TE}
end
section
variable {X:Cx} {pins:List (Addr × Obj)} {σ:St} {H:Hp} {s:Shared} {A:Around} {E:Value->Shared->Prop} {Q:Value->Shared->Prop} {c:Value} {b:Bool}
inductive TyOf (K:PySem.W.Frag) (H:Hp):V->Value->Prop where
 | non:TyOf K H .non (.type "NoneType")
 | bl (x:Bool):TyOf K H (.bl x) (.type "bool")
 | int (i:Int):TyOf K H (.int i) (.type "int")
 | str (x:Str):TyOf K H (.str x) (.type "str")
 | flt (x:UInt64):TyOf K H (.flt x) (.type "float")
 | lst {a:Addr} {xs:List V} (e:H a = some (.lst xs)):TyOf K H (.ref a) (.type "list")
 | frz {a:Addr} {o:Obj} {xs:List V} (e:H a = some (.frz o (.lst xs))):TyOf K H (.ref a) (.type "list")
 | tup {a:Addr} {xs:List V} (e:H a = some (.tup xs)):TyOf K H (.ref a) (.type "tuple")
 | dK {a:Addr} {kvs:List (Key × V)} (e:H a = some (.dK kvs)):TyOf K H (.ref a) (.type "dict")
 | dT {a:Addr} {kvs:List (List Key × V)} (e:H a = some (.dT kvs)):TyOf K H (.ref a) (.type "dict")
 | ins {a C dx:Addr} {fs:List (Str × V)} (e:H a = some (.ins C dx fs)) (cl:Cls K C) (ha:PySem.W.findIn K (.ref C) "__class__" = some (some (.builtin "object.__class__")))
   (hn:PySem.W.specialIn K (.builtin "object.__class__") "__get__" = some (some (.builtin "getset_descriptor.__get__"))) (htk:PySem.W.takesIn K (.builtin "object.__class__") = some true)
   (hm:PySem.W.mroIn K C (.type "object") = some true):TyOf K H (.ref a) (.ref C)
theorem jqh {x:V} {u t:Value} (I:Inv X pins σ H s) (rx:RelV x u) (ty:TyOf X.K H x t) (e:PySem.W.kitOne X.K t c = some b) (h:∀ tk,Q (.bool b) { s with toks:=tk }) :
  wpAny (model X.prog X.w) A (call (.builtin "isinstance") [u,c]) Q E s:=by
 cases ty with
 | non=>cases (show u = Value.none from rx); exact PySem.W.kia_one PySem.W.kitx_none I.kIn True.intro e (fun z=>nomatch z) h
 | bl y=>cases (show u = Value.bool y from rx); exact PySem.W.kia_one PySem.W.kitx_bool I.kIn True.intro e (fun z=>nomatch z) h
 | int i=>obtain ⟨t,q⟩:=(show ∃ t,u = Value.int i t from rx); cases q; exact PySem.W.kia_one PySem.W.kitx_int I.kIn True.intro e (fun z=>nomatch z) h
 | str y=>obtain ⟨t,q⟩:=(show ∃ t,u = Value.str y t from rx); cases q; exact PySem.W.kia_one PySem.W.kitx_str I.kIn True.intro e (fun z=>nomatch z) h
 | flt y=>obtain ⟨t,q⟩:=(show ∃ t,u = Value.float y t from rx); cases q; exact PySem.W.kia_one PySem.W.kitx_float I.kIn True.intro e (fun z=>nomatch z) h
 | @lst a xs ea =>
  cases (show u = Value.ref a from rx)
  obtain ⟨_,_,n,_,h1⟩:=(show jcv X.prog X.w H s.heap a (.lst xs) from I.hok a _ ea)
  exact PySem.W.kia_one PySem.W.kitx_list I.kIn ⟨_,h1,rfl⟩ e (fun z=>nomatch z) h
 | @frz a ob xs ea =>
  cases (show u = Value.ref a from rx)
  obtain ⟨_,_,_,n,_,h1⟩:=(show jcv X.prog X.w H s.heap a (.frz ob (.lst xs)) from I.hok a _ ea)
  exact PySem.W.kia_one PySem.W.kitx_list I.kIn ⟨_,h1,rfl⟩ e (fun z=>nomatch z) h
 | @tup a xs ea =>
  cases (show u = Value.ref a from rx)
  obtain ⟨_,_,_,p⟩:=(show jcv X.prog X.w H s.heap a (.tup xs) from I.hok a _ ea)
  obtain ⟨o,h1,h2,_⟩:=p
  exact PySem.W.kia_one PySem.W.kitx_tuple I.kIn ⟨o,h1,h2⟩ e (fun z=>nomatch z) h
 | @dK a kvs ea =>
  cases (show u = Value.ref a from rx)
  obtain ⟨_,_,vs,_,p⟩:=(show jcv X.prog X.w H s.heap a (.dK kvs) from I.hok a _ ea)
  obtain ⟨o,es,ep,h1,h2,_⟩:=p
  exact PySem.W.kia_one PySem.W.kitx_dict I.kIn ⟨o,h1,h2.1⟩ e (fun z=>nomatch z) h
 | @dT a kvs ea =>
  cases (show u = Value.ref a from rx)
  obtain ⟨_,_,xs,_,o,es,ep,h1,h2,_⟩:=(show jcv X.prog X.w H s.heap a (.dT kvs) from I.hok a _ ea)
  exact PySem.W.kia_one PySem.W.kitx_dict I.kIn ⟨o,h1,h2.1⟩ e (fun z=>nomatch z) h
 | @ins a C dx fs ea cl ha hn htk hm =>
  cases (show u = Value.ref a from rx)
  obtain ⟨mA,O,_⟩:=jjh I.hok ea
  obtain ⟨od,J,_⟩:=O.look
  exact PySem.W.kia_one (PySem.W.kitx_own (cl.get _) cl.hd ha hn htk hm) I.kIn J e (fun z=>nomatch z) h
end
structure Room (k:Nat) (A:Around):Prop where
 hd:A.handled = none
 dp:A.depth + 3 * k + 5 < recursionLimit
 un:A.units + 16 * k + 200 < cLine
 gd:A.guards = some []
theorem Room.mono {j k:Nat} {A:Around} (r:Room k A) (h:j <= k):Room j A:=⟨r.hd,by have:=r.dp; omega,by have:=r.un; omega,by first | exact r.gd | (simp only [Around.deeper,Around.in1,Around.under]; exact r.gd)⟩
theorem Room.deeper {k:Nat} {A:Around} (r:Room (k + 1) A) (env:Env):Room k (A.deeper env) :=
 ⟨r.hd,by have:=r.dp; show A.depth + 1 + 3 * k + 5 < _; omega,by have:=r.un; show A.units + 3 + 16 * k + 200 < _; omega,by first | exact r.gd | (simp only [Around.deeper,Around.in1,Around.under]; exact r.gd)⟩
theorem jo9 {A:Around} {C:Addr} {us:List Value} {kw:List (Str × Value)}:(A.under (.builtin "type.__call__" ⟨.ref C :: us,kw⟩)).depth = A.depth + 1:=by
 first | rfl | simp [Around.under,Code.weight,Code.isCreation,Code.isGuard,Code.isCaller,Code.frames,Code.isFrame,guardIds]
theorem jo8 {A:Around} {C:Addr} {us:List Value} {kw:List (Str × Value)}:(A.under (.builtin "type.__call__" ⟨.ref C :: us,kw⟩)).units = A.units + 1:=by
 first | rfl | simp [Around.under,Code.cUnits,Code.frames,Code.isFrame]
theorem Room.make {k:Nat} {A:Around} (r:Room (k + 1) A) (C:Addr) (us:List Value) (kw:List (Str × Value)):Room k (A.under (.builtin "type.__call__" ⟨.ref C :: us,kw⟩)) :=
 ⟨r.hd,by have:=r.dp; rw [jo9]; omega,by have:=r.un; rw [jo8]; omega,by first | exact r.gd | (simp only [Around.deeper,Around.in1,Around.under]; exact r.gd)⟩
theorem Room.depth {k:Nat} {A:Around} (r:Room k A):A.depth < recursionLimit:=by have:=r.dp; omega
theorem Room.units {k:Nat} {A:Around} (r:Room k A):A.units + 64 < cLine:=by have:=r.un; omega
def tNil:TA:=fun _ H Q=>Q [] H
def jak (ta:TE) (tr:TA):TA:=fun σ H Q=>ta σ H fun x H1=>tr σ H1 fun xs H2=>Q (x :: xs) H2
section
variable {X:Cx} {e:Expr} {es:List Expr} {te:TE} {t:TA} {pos:Pos}
theorem jah:PA X [] tNil:=fun _ _ _ _ H Q I h=>Calls.spliced_nil ⟨[],H,I,.nil,h⟩
theorem ja0 (ha:PE X e te) (hr:PA X es t) (hs:starEach (e :: es) X.env = (false,eval e X.env) :: starEach es X.env:=by rfl):PA X (e :: es) (jak te t):=by
 intro pos pins s σ H Q I h
 rw [hs]
 show wpAny _ _ (spliced ((false,eval e X.env) :: backTo pos (starEach es X.env))) _ _ s
 refine Calls.spliced_cons (thn (ha pins s σ H _ I h) fun u s1 ⟨x,H1,I1,r1,q1⟩=>?_)
 exact thn (hr pos pins s1 σ H1 _ I1 q1) fun us s2 ⟨xs,H2,I2,r2,q2⟩=>⟨x :: xs,H2,I2,.cons r1 r2,q2⟩
def tTup (t:TA):TE:=fun σ H Q=>t σ H fun xs H1=>xs.length <= sizeLine/\∀ p,H1 p = none->Q (.ref p) (upd H1 p (.tup xs))
def tLst (t:TA):TE:=fun σ H Q=>t σ H fun xs H1=>xs.length <= sizeLine/\∀ p,H1 p = none->Q (.ref p) (upd H1 p (.lst xs))
theorem jc9 {x1} (h:PA X es t):PE X (.Tuple es x1 pos) (tTup t):=by
 intro pins s σ H Q I hq
 refine wpAny_Tuple_spliced (thn (h pos pins s σ H _ I hq) fun us s1 ⟨xs,H1,I1,r,z,q⟩=>⟨by rw [<- r.length]; exact z,?_⟩)
 have hf:H1 s1.heap.objs.size = none:=I1.hok.fresh (Nat.le_refl _)
 refine ⟨.ref s1.heap.objs.size,upd H1 s1.heap.objs.size (.tup xs),I1.laid (t':=s1.toks) (fun b u e=>Heap.get?_push_of_some _ e) (Nat.le_refl _) ?_,rfl,q _ hf⟩
 exact ⟨z,us,r,⟨_,Heap.get?_push_size _ rfl,rfl,_,rfl⟩⟩
theorem jcf (h:PA X es t):PE X (.List es pos) (tLst t):=by
 intro pins s σ H Q I hq
 refine wpAny_List_spliced (thn (h pos pins s σ H _ I hq) fun us s1 ⟨xs,H1,I1,r,z,q⟩=>⟨by rw [<- r.length]; exact z,?_⟩)
 have hf:H1 s1.heap.objs.size = none:=I1.hok.fresh (Nat.le_refl _)
 refine ⟨.ref s1.heap.objs.size,upd H1 s1.heap.objs.size (.lst xs),I1.laid (t':=s1.toks) (fun b u e=>Heap.get?_push_of_some _ e) (Nat.le_refl _) ?_,rfl,q _ hf⟩
 exact ⟨z,us,0,r,Heap.get?_push_size _ rfl⟩
end
abbrev Sp:=List V->Hp->VK->XK->Prop
abbrev CXT:=List Env->Hp->Shared->XK->Value->Shared->Prop
structure Env0 (P:Program) (w:World) (K:PySem.W.Frag) (mg:Str->Option Value) (base:Heap) (A:Around) (outer:List Env) (s:Shared) (H:Hp):Prop where
 frames:A.frames = some outer
 mod:Mod K mg base
 bs:∀ b o,base.get? b = some o->s.heap.get? b = some o/\H b = none
 bsz:base.objs.size <= s.heap.objs.size
 funs:s.heap.FunFrames base outer
 frf:∀ b ∈ frs outer,H b = none
 hok:HOk P w H s.heap
 bare:AllBare s.gens
def CE (outer:List Env) (P:Program) (w:World) (H:Hp) (s:Shared) (Q:VK) (u:Value) (s':Shared):Prop :=
 ∃ v H',s'.os = s.os/\AllBare s'.gens/\Un (frs outer) [] H H' s.heap s'.heap/\HOk P w H' s'.heap/\RelV v u/\Q v H'
def CR (CX:CXT) (outer:List Env) (P:Program) (w:World) (H:Hp) (s:Shared) (Q:VK) (E:XK) (r:Result) (s':Shared):Prop :=
 match r with
 | .ok (.ret u)=>CE outer P w H s Q u s'
 | .ok _=>False
 | .error e=>CX outer H s E e s'
structure FnOk (P:Program) (w:World) (K:PySem.W.Frag) (mg:Str->Option Value) (base:Heap) (CX:CXT) (k:Nat) (f:Addr) (fd:FuncData) (ps:List Str) (sp:Sp):Prop where
 len:∀ vs H Q E,sp vs H Q E->vs.length = ps.length
 run:∀ (A:Around) (outer:List Env) (s:Shared) (H:Hp) (args:Args) (us:List Value) (vs:List V) (Q:VK) (E:XK),Room k A->Env0 P w K mg base A outer s H->BindsTo s fd args (ps.zip us)->Vals vs us->sp vs H Q E ->
  codeAny (model P w) A (.call (.ref f) args) (CR CX outer P w H s Q E) s
theorem FnOk.mono {P:Program} {w:World} {K:PySem.W.Frag} {mg:Str->Option Value} {base:Heap} {CX:CXT} {j k:Nat} {f:Addr} {fd:FuncData} {ps:List Str} {sp:Sp} (F:FnOk P w K mg base CX j f fd ps sp) (h:j <= k) :
  FnOk P w K mg base CX k f fd ps sp:=⟨F.len,fun A outer s H args us vs Q E hr=>F.run A outer s H args us vs Q E (hr.mono h)⟩
theorem Env0.make {P:Program} {w:World} {K:PySem.W.Frag} {mg:Str->Option Value} {base:Heap} {A:Around} {outer:List Env} {s:Shared} {H:Hp} (e:Env0 P w K mg base A outer s H) (C:Addr) (us:List Value) (kw:List (Str × Value)) :
  Env0 P w K mg base (A.under (.builtin "type.__call__" ⟨.ref C :: us,kw⟩)) outer s H:=⟨by first | exact e.frames | (simpa [Around.under,Code.envs,Code.isFrame,pushEnvs] using e.frames),e.mod,e.bs,e.bsz,e.funs,e.frf,e.hok,e.bare⟩
section
variable {X:Cx} {pins:List (Addr × Obj)} {σ:St} {H:Hp} {s s':Shared}
theorem Inv.env0 (I:Inv X pins σ H s):Env0 X.prog X.w X.K X.mg X.base X.A X.stack s H :=
 ⟨I.ok.frames,I.ok.mod,I.bs,Nat.le_trans I.ok.bsz I.sz,I.stack,I.stkFree,I.hok,I.bare⟩
theorem Inv.after {Q:VK} {u:Value} (I:Inv X pins σ H s) (h:CE X.stack X.prog X.w H s Q u s'):EP X pins σ Q u s':=by
 obtain ⟨v,H',os,bare,un,hok,r,q⟩:=h
 obtain ⟨hh,g,d,t,os'⟩:=s'
 obtain rfl:os' = s.os:=os
 exact ⟨v,H',I.call (h':=hh) (g':=g) (d':=d) (t':=t) (ch:=[]) un hok bare (fun b z=>absurd z (by simp)),r,q⟩
end
def jaw (sp:Sp) (dvs:List V) (E:XK) (t:TA):TE:=fun σ H Q=>t σ H fun vs H1=>sp (vs ++ dvs) H1 Q E
def jtn (C:Addr) (m:Str) (sp:Sp) (dvs:List V) (E:XK) (ta:TE) (t:TA):TE:=fun σ H Q=>ta σ H fun x H1=>∃ a dx fs,x = .ref a/\H1 a = some (.ins C dx fs)/\fs.lookup m = none /\
 t σ H1 fun vs H2=>sp (x :: (vs ++ dvs)) H2 Q E
def jb4 (C:Addr) (sp:Sp) (dvs:List V) (E:XK) (t:TA):TE:=fun σ H Q=>t σ H fun vs H1=>∀ x dx,H1 x = none->H1 dx = none->dx ≠ x ->
 sp (.ref x :: (vs ++ dvs)) (upd (upd H1 dx (.own x)) x (.ins C dx [])) (fun v H2=>v = .non/\Q (.ref x) H2) E
def jfc (K:PySem.W.Frag) (fd:FuncData) (ps:List Str) (ds:List Value):Prop :=
 ∀ (s:Shared) (us:List Value),K.In s.heap->(us ++ ds).length = ps.length->BindsTo s fd ⟨us,[]⟩ (ps.zip (us ++ ds))
theorem jfc.all {K:PySem.W.Frag} {fd:FuncData} {ps:List Str} (h:∀ us:List Value,us.length = ps.length->bindArgs fd ⟨us,[]⟩ = pure (ps.zip us)):jfc K fd ps []:=fun s us _ hl=>by
 rw [List.append_nil] at hl ⊢
 exact .of_eq (h us hl)
def jfa (CX:CXT) (X:Cx) (E:XK):Prop:=∀ (pins:List (Addr × Obj)) (σ:St) (H:Hp) (s:Shared) (e:Value) (s':Shared),Inv X pins σ H s->CX X.stack H s E e s'->X.xe e s'
section
variable {X:Cx} {CX:CXT} {k:Nat} {f C:Addr} {fd:FuncData} {ps:List Str} {sp:Sp} {dvs:List V} {ds:List Value} {E:XK} {x m:Str} {p pos apos:Pos} {e o:Expr} {es:List Expr} {ta:TE} {t:TA}
theorem jp7 {pins:List (Addr × Obj)} {σ:St} {H:Hp} {s:Shared} {Q:VK} {us:List Value} {vs:List V} (F:FnOk X.prog X.w X.K X.mg X.base CX k f fd ps sp) (hr:Room k X.A) (hb:jfc X.K fd ps ds) (hd:Vals dvs ds) (hx:jfa CX X E)
  (I:Inv X pins σ H s) (r:Vals vs us) (h:sp (vs ++ dvs) H Q E):wpAny (model X.prog X.w) X.A (call (.ref f) us) (EP X pins σ Q) X.xe s:=by
 have r2:Vals (vs ++ dvs) (us ++ ds):=r.append hd
 have hl:(us ++ ds).length = ps.length:=by rw [<- r2.length]; exact F.len _ _ _ _ h
 refine wpAny_call (codeAny_mono (F.run X.A X.stack s H ⟨us,[]⟩ (us ++ ds) (vs ++ dvs) Q E hr I.env0 (hb s us I.kIn hl) r2 h) fun r s' hq=>?_)
 cases r with
 | error e=>exact hx pins σ H s e s' I hq
 | ok fl =>
  cases fl with
  | ret u=>exact I.after hq
  | next=>exact False.elim hq
  | brk=>exact False.elim hq
  | cont=>exact False.elim hq
theorem jbf (F:FnOk X.prog X.w X.K X.mg X.base CX k f fd ps sp) (hr:Room k X.A) (hg:Gl X x) (hm:X.mg x = some (.ref f)) (hk:PySem.W.keepIn X.K (.ref f) = true) (hb:jfc X.K fd ps ds) (hd:Vals dvs ds) (hx:jfa CX X E)
  (ha:PA X (e :: es) t) (hdb:(x == ("__debug__":Str)) = false:=by decide) (he:starEach (e :: es) X.env = (false,eval e X.env) :: starEach es X.env:=by rfl) (hpl:(backTo pos (starEach es X.env)).any (·.1) = false:=by rfl) :
  PE X (.Call (.Name x p) (e :: es) [] pos) (jaw sp dvs E t):=by
 intro pins s σ H Q I h
 refine wpAny_Call_Name_kw (jma I hg hm ?_ hdb)
 refine PySem.W.callWith_K (h₀:=X.base) I.ok.mod.kin hk (thn (ha pos pins s σ H _ I h) fun us s1 ⟨vs,H1,I1,r,q⟩=>⟨I1.kIn,?_⟩) he hpl
 exact jp7 F hr hb hd hx I1 r q
theorem ju5 {pl:Sem Bool} (he:PE X o ta) (c:Cls X.K C) (hm:Meth X.K C m f) (F:FnOk X.prog X.w X.K X.mg X.base CX k f fd ps sp) (hr:Room k X.A) (hb:jfc X.K fd ps ds) (hd:Vals dvs ds) (hx:jfa CX X E) (ha:PA X (e :: es) t)
  (hst:starEach (e :: es) X.env = (false,eval e X.env) :: starEach es X.env:=by rfl) (hpl:(backTo pos (starEach es X.env)).any (·.1) = false:=by rfl)
  (ht:eval (.Call (.Attribute o m apos) (e :: es) [] pos) X.env = (do
   let ov <- eval o X.env
   standAt apos.atName
   let (f,first) <- holding [ov] (getMethod ov m pl)
   callWith pos f first (backTo pos (starEach (e :: es) X.env)) (backToKw pos (keywordEach [] X.env))):=by rfl) :
  PE X (.Call (.Attribute o m apos) (e :: es) [] pos) (jtn C m sp dvs E ta t):=by
 intro pins s σ H Q I h
 refine PySem.W.methodCall_KW (pl:=pl) (thn (he pins s σ H _ I h) fun u s1 ⟨x,H1,I1,rx,a,dx,fs,ex,ea,l,q⟩=>?_) ht
 subst ex
 obtain rfl:u = Value.ref a:=rx
 refine ji7 I1 ea c hm l ?_
 refine PySem.W.callWith_K (first:=[.ref a]) (h₀:=X.base) I.ok.mod.kin hm.kp (thn (ha pos pins s1 σ H1 _ I1 q) fun us s2 ⟨vs,H2,I2,r,q2⟩=>⟨I2.kIn,?_⟩) hst hpl
 exact jp7 (us:=.ref a :: us) (vs:=.ref a :: vs) F hr hb hd hx I2 (.cons rfl r) q2
theorem jro {pl:Sem Bool} (he:PE X o ta) (c:Cls X.K C) (hm:Meth X.K C m f) (F:FnOk X.prog X.w X.K X.mg X.base CX k f fd ps sp) (hr:Room k X.A) (hb:jfc X.K fd ps ds) (hd:Vals dvs ds) (hx:jfa CX X E)
  (ht:eval (.Call (.Attribute o m apos) [] [] pos) X.env = (do
   let ov <- eval o X.env
   standAt apos.atName
   let (f,first) <- holding [ov] (getMethod ov m pl)
   callWith pos f first (backTo pos (starEach [] X.env)) (backToKw pos (keywordEach [] X.env))):=by rfl) :
  PE X (.Call (.Attribute o m apos) [] [] pos) (jtn C m sp dvs E ta tNil):=by
 intro pins s σ H Q I h
 refine PySem.W.methodCall_KW (pl:=pl) (thn (he pins s σ H _ I h) fun u s1 ⟨x,H1,I1,rx,a,dx,fs,ex,ea,l,q⟩=>?_) ht
 subst ex
 obtain rfl:u = Value.ref a:=rx
 refine ji7 I1 ea c hm l ?_
 exact PySem.W.callWith_K0 (first:=[.ref a]) I1.kIn hm.kp (jp7 (us:=[.ref a]) (vs:=[.ref a]) F hr hb hd hx I1 (.cons rfl .nil) q)
structure Mk (K:PySem.W.Frag) (C f:Addr):Prop where
 makes:PySem.W.makesIn K C = true
 init:PySem.W.findIn K (.ref C) "__init__" = some (some (.ref f))
 fn:PySem.W.isFn K (.ref f) = true
 kp:PySem.W.keepIn K (.ref C) = true
theorem jra {pins:List (Addr × Obj)} {σ:St} {H:Hp} {s:Shared} {Q:VK} {us:List Value} {vs:List V} (M:Mk X.K C f) (F:FnOk X.prog X.w X.K X.mg X.base CX k f fd ps sp) (hr:Room (k + 1) X.A) (hb:jfc X.K fd ps ds) (hd:Vals dvs ds)
  (hx:jfa CX X E) (I:Inv X pins σ H s) (r:Vals vs us)
  (h:∀ x dx,H x = none->H dx = none->dx ≠ x->sp (.ref x :: (vs ++ dvs)) (upd (upd H dx (.own x)) x (.ins C dx [])) (fun v H2=>v = .non/\Q (.ref x) H2) E) :
  wpAny (model X.prog X.w) X.A (call (.ref C) us) (EP X pins σ Q) X.xe s:=by
 have hq:=h (s.heap.objs.size + 1) s.heap.objs.size (I.hok.fresh (Nat.le_succ _)) (I.hok.fresh (Nat.le_refl _)) (Nat.ne_of_lt (Nat.lt_succ_self _))
 have I2:=Inv.made (C:=C) I
 have r2:Vals (V.ref (s.heap.objs.size + 1) :: (vs ++ dvs)) (Value.ref (s.heap.objs.size + 1) :: (us ++ ds)):=.cons rfl (r.append hd)
 have hl:(Value.ref (s.heap.objs.size + 1) :: us ++ ds).length = ps.length:=by
  have e:=r2.length
  rw [F.len _ _ _ _ hq] at e
  exact e.symm
 refine wpAny_call (js3 (f:=f) I.kIn M.makes M.init (beq_iff_eq.mp M.fn) (codeAny_mono (F.run _ X.stack _ _ ⟨Value.ref (s.heap.objs.size + 1) :: us,[]⟩ (Value.ref (s.heap.objs.size + 1) :: (us ++ ds)) _ _ E (hr.make C us [])
  (I2.env0.make C us []) (hb _ (Value.ref (s.heap.objs.size + 1) :: us) I2.kIn hl) r2 hq) fun r s' hq'=>?_))
 cases r with
 | error e=>exact hx pins σ _ _ e s' I2 hq'
 | ok fl =>
  cases fl with
  | ret u =>
   obtain ⟨v,H',I3,rv,ev,q3⟩:=I2.after hq'
   subst ev
   exact ⟨rv,⟨V.ref (s.heap.objs.size + 1),H',I3,rfl,q3⟩⟩
  | next=>exact False.elim hq'
  | brk=>exact False.elim hq'
  | cont=>exact False.elim hq'
theorem ju6 (M:Mk X.K C f) (F:FnOk X.prog X.w X.K X.mg X.base CX k f fd ps sp) (hr:Room (k + 1) X.A) (hg:Gl X x) (hm:X.mg x = some (.ref C)) (hb:jfc X.K fd ps ds) (hd:Vals dvs ds) (hx:jfa CX X E)
  (ha:PA X (e :: es) t) (hdb:(x == ("__debug__":Str)) = false:=by decide) (he:starEach (e :: es) X.env = (false,eval e X.env) :: starEach es X.env:=by rfl) (hpl:(backTo pos (starEach es X.env)).any (·.1) = false:=by rfl) :
  PE X (.Call (.Name x p) (e :: es) [] pos) (jb4 C sp dvs E t):=by
 intro pins s σ H Q I h
 refine wpAny_Call_Name_kw (jma I hg hm ?_ hdb)
 refine PySem.W.callWith_K (h₀:=X.base) I.ok.mod.kin M.kp (thn (ha pos pins s σ H _ I h) fun us s1 ⟨vs,H1,I1,r,q⟩=>⟨I1.kIn,?_⟩) he hpl
 exact jra M F hr hb hd hx I1 r q
end
def PK (X:Cx) (kws:List Keyword) (t:TA):Prop :=
 ∀ (pos:Pos) (pins:List (Addr × Obj)) (s:Shared) (σ:St) (H:Hp) (Q:List V->Hp->Prop),Inv X pins σ H s->t σ H Q->wpAny (model X.prog X.w) X.A (evalAll ((backToKw pos (keywordEach kws X.env)).map (·.2))) (AP X pins σ Q) X.xe s
section
variable {X:Cx} {CX:CXT} {k:Nat} {f C:Addr} {fd:FuncData} {ps ks:List Str} {sp:Sp} {E:XK} {x m:Str} {p pos apos kpos:Pos} {e o:Expr} {es:List Expr} {kws:List Keyword} {te ta:TE} {t tk:TA} {nm:Option Str}
theorem pk_nil:PK X [] tNil:=fun _ _ _ _ H Q I h=>wpAny_evalAll_nil ⟨[],H,I,.nil,h⟩
theorem ju3 (ha:PE X e te) (hr:PK X kws t):PK X (⟨nm,e,kpos⟩ :: kws) (jak te t):=by
 intro pos pins s σ H Q I h
 show wpAny _ _ (evalAll ((do let v <- eval e X.env; standAt pos; pure v) :: (backToKw pos (keywordEach kws X.env)).map (·.2))) _ _ s
 refine wpAny_evalAll_cons (wpAny_bind (thn (ha pins s σ H _ I h) fun u s1 ⟨x,H1,I1,r1,q1⟩=>wpAny_bind (wpAny_standAt (wpAny_pure ?_))))
 exact thn (hr pos pins s1 σ H1 _ I1 q1) fun us s2 ⟨xs,H2,I2,r2,q2⟩=>⟨x :: xs,H2,I2,.cons r1 r2,q2⟩
variable {g:List Value->List Value->List Value} {gV:List V->List V->List V}
end
structure FnScope (N P:List Str) (sc:Scope):Prop where
 kind:sc.kind = .function
 co:sc.isCoroutine = false
 gen:sc.isGenerator = false
 nd:N.Nodup
 pre:N.take P.length = P
 par:∀ x ∈ P,sc.names.lookup x = some .local \/ sc.names.lookup x = some .cell
 nofree:∀ y ∈ sc.names,y.2 ≠ .free
theorem jl8 {kindOf:Str->Option NameKind} {x:Str}:∀ {binds:List (Str × Value)} {m:Str->Option Value},(∀ v,(x,v) ∉ binds)->bindL kindOf binds m x = m x
 | [],_,_=>rfl
 | (n,v) :: r,m,h=>by
  unfold bindL
  rw [jl8 fun w hw=>h w (List.mem_cons_of_mem _ hw)]
  split
  ·have:x ≠ n:=by rintro rfl; exact h v List.mem_cons_self
   simp [this]
  ·rfl
theorem jla {kindOf:Str->Option NameKind} {x:Str}:∀ {binds:List (Str × Value)} {m:Str->Option Value},(∀ v,(x,v) ∉ binds)->bindC kindOf binds m x = m x
 | [],_,_=>rfl
 | (n,v) :: r,m,h=>by
  unfold bindC
  rw [jla fun w hw=>h w (List.mem_cons_of_mem _ hw)]
  split
  ·rfl
  ·have:x ≠ n:=by rintro rfl; exact h v List.mem_cons_self
   simp [this]
theorem jl9 {kindOf:Str->Option NameKind} {x:Str} {v:Value}:∀ {P:List Str} {vs:List Value} {i:Nat} {m:Str->Option Value},P.Nodup->P[i]? = some x->vs[i]? = some v->kindOf x = some .local ->
  bindL kindOf (P.zip vs) m x = some v
 | [],_,_,_,_,h,_,_=>by simp at h
 | _ :: _,[],_,_,_,_,h,_=>by simp at h
 | p :: P,w :: vs,0,m,nd,h1,h2,hk=>by
  simp at h1 h2; subst h1; subst h2
  show bindL kindOf ((p,w) :: P.zip vs) m p = _
  unfold bindL
  rw [jl8 fun v hv=>(List.nodup_cons.mp nd).1 (List.of_mem_zip hv).1,if_pos hk]
  simp
 | p :: P,w :: vs,i + 1,m,nd,h1,h2,hk=>by
  show bindL kindOf ((p,w) :: P.zip vs) m x = _
  unfold bindL
  exact jl9 (i:=i) (List.nodup_cons.mp nd).2 (by simpa using h1) (by simpa using h2) hk
theorem jlb {kindOf:Str->Option NameKind} {x:Str} {v:Value}:∀ {P:List Str} {vs:List Value} {i:Nat} {m:Str->Option Value},P.Nodup->P[i]? = some x->vs[i]? = some v->kindOf x ≠ some .local ->
  bindC kindOf (P.zip vs) m x = some v
 | [],_,_,_,_,h,_,_=>by simp at h
 | _ :: _,[],_,_,_,_,h,_=>by simp at h
 | p :: P,w :: vs,0,m,nd,h1,h2,hk=>by
  simp at h1 h2; subst h1; subst h2
  show bindC kindOf ((p,w) :: P.zip vs) m p = _
  unfold bindC
  rw [jla fun v hv=>(List.nodup_cons.mp nd).1 (List.of_mem_zip hv).1,if_neg hk]
  simp
 | p :: P,w :: vs,i + 1,m,nd,h1,h2,hk=>by
  show bindC kindOf ((p,w) :: P.zip vs) m x = _
  unfold bindC
  exact jlb (i:=i) (List.nodup_cons.mp nd).2 (by simpa using h1) (by simpa using h2) hk
def start (N:List Str) (vs:List V):St:=vs.map some ++ List.replicate (N.length - vs.length) none
def cxOf (CX:CXT) (P:Program) (w:World) (K:PySem.W.Frag) (mg:Str->Option Value) (base:Heap) (N:List Str) (qual:Str) (scope:Scope) (f:Addr) (cd:Value) (A:Around) (outer:List Env) (s:Shared) (H:Hp) (E:XK):Cx where
 prog:=P
 w:=w
 K:=K
 mg:=mg
 base:=base
 A:=A.deeper (envOfC qual scope s.heap.objs.size f cd)
 N:=N
 s₀:=s
 H₀:=H
 env:=envOfC qual scope s.heap.objs.size f cd
 outer:=outer
 stack:=envOfC qual scope s.heap.objs.size f cd :: outer
 ex:=[]
 calm:=true
 fn:=fun _=>true
 pn:=[]
 xe:=fun e s'=>wpAny (model P w) (A.deeper (envOfC qual scope s.heap.objs.size f cd)) (leaving (envOfC qual scope s.heap.objs.size f cd) e) (fun _ s''=>CX outer H s E e s'') (fun e' s''=>CX outer H s E e' s'') s'
theorem jno {sc:Scope} {n:Nat} {x:Str} (h:sc.names.lookup x = some .cell):∃ c,(cellsFrom n sc.names []).lookup x = some c:=by
 have q:=PySem.W.cellsFrom_some sc.names n [] (.inl h)
 exact Option.isSome_iff_exists.mp q
theorem jqi {CX:CXT} {P:Program} {w:World} {K:PySem.W.Frag} {mg:Str->Option Value} {base:Heap} {N ps:List Str} {qual:Str} {scope:Scope} {f:Addr} {cd:Value} {A:Around} {outer:List Env} {s s1:Shared} {H:Hp} {E:XK} {us:List Value} {vs:List V}
  (S:FnScope N ps scope) (hd:A.handled = none) (e0:Env0 P w K mg base A outer s H) (hl:vs.length = ps.length) (r:Vals vs us)
  (x:InCallC s s.heap.objs.size (bindL (envOfC qual scope s.heap.objs.size f cd).kindOf (ps.zip us) fun _=>none) (cellsFrom (s.heap.objs.size + 1) scope.names []) (bindC (envOfC qual scope s.heap.objs.size f cd).kindOf (ps.zip us) fun _=>none) s1) :
  Inv (cxOf CX P w K mg base N qual scope f cd A outer s H E) [] (start N vs) H s1:=by
 have hpl:ps.length <= N.length:=by have:=congrArg List.length S.pre; rw [List.length_take] at this; omega
 obtain ⟨h1,tk,rfl,hk⟩:=x.done
 have noA:∀ b:Addr,b ∉ (cxOf CX P w K mg base N qual scope f cd A outer s H E).ex:=fun b z=>absurd (show b ∈ ([]:List Addr) from z) (by simp)
 refine ⟨⟨e0.mod,S.kind,rfl,rfl,Nat.le_refl _,fun y z c h1 h2=>?_,fun y hy=>?_,fun y c _ h=>?_,fun _=>hd,Around.frames_deeper e0.frames,.inr ⟨rfl,rfl⟩,fun b z=>absurd z (noA b),e0.bs,e0.bsz,fun b _ _=>noA b,fun b z=>absurd z (noA b),e0.funs,e0.frf⟩,
  rfl,e0.bare,Un.kept hk,⟨_,x.toInCall.ns,fun i y v h1 h2 h3=>?_⟩,fun y c h=>⟨_,x.cell y c h⟩,e0.hok.fresh (Nat.le_refl _),fun y c h=>?_,fun p hp=>absurd (show p ∈ ([]:List (Addr × Obj)) from hp) (by simp),e0.hok.kept hk,?_⟩
 ·exact name_of_addr x.apart (PySem.mem_of_lookup h1) (PySem.mem_of_lookup h2)
 ·have hy:scope.names.lookup y = some .cell \/ scope.names.lookup y = some .free:=hy
  rcases hy with hy | hy
  ·exact jno hy
  ·exact absurd rfl (S.nofree _ (PySem.mem_of_lookup hy))
 ·exact Nat.le_of_lt (x.above y c (PySem.mem_of_lookup h))
 ·have hi:i < vs.length:=by
   unfold start at h2
   by_cases hi:i < vs.length
   ·exact hi
   ·rw [List.getElem?_append_right (by simpa using hi)] at h2
    rw [List.getElem?_replicate] at h2
    split at h2 <;> cases h2
  have ha:vs[i]? = some v:=by
   unfold start at h2
   rw [List.getElem?_append_left (by simpa using hi),List.getElem?_map] at h2
   cases e:vs[i]? with
   | none=>rw [e] at h2; cases h2
   | some a=>rw [e] at h2; cases h2; rfl
  obtain ⟨u,hu,rv⟩:=r.get ha
  have hp:ps[i]? = some y:=by
   rw [<- S.pre,List.getElem?_take_of_lt (by omega)]; exact h1
  have ndP:ps.Nodup:=by rw [<- S.pre]; exact S.nd.sublist (List.take_sublist _ _)
  refine ⟨u,rv,?_⟩
  rcases S.par y (List.mem_of_getElem? hp) with k | k
  ·exact .inl ⟨k,jl9 ndP hp hu k⟩
  ·obtain ⟨c,e⟩:=jno (n:=s.heap.objs.size + 1) k
   refine .inr ⟨.inl k,c,e,?_⟩
   have q:=x.cell y c e
   rw [jlb ndP hp hu (by show scope.names.lookup y ≠ _; rw [k]; decide)] at q
   exact q
 ·exact e0.hok.fresh (Nat.le_of_lt (x.above y c (PySem.mem_of_lookup h)))
 ·unfold start
  show _ = N.length
  rw [List.length_append,List.length_map,List.length_replicate]
  omega
theorem fn_of {CX:CXT} {P:Program} {w:World} {K:PySem.W.Frag} {mg:Str->Option Value} {base:Heap} {k:Nat} {f:Addr} {name qual:Str} {params:Arguments} {body:List Stmt} {scope:Scope} {dV kV doc pm cdv ct oc:Value} {an od:Option Addr}
  {osl:Array (Option Value)} {N ps:List Str} {sp:Sp} (lk:K.lookup f = some ⟨oc,od,.func (PySem.W.fnOf name qual params body scope dV kV doc pm an cdv ct),osl⟩) (hcd:PySem.W.codeIn K cdv qual = true) (S:FnScope N ps scope)
  (len:∀ vs H Q E,sp vs H Q E->vs.length = ps.length)
  (hbody:∀ (A:Around) (outer:List Env) (s:Shared) (H:Hp) (vs:List V) (Q:VK) (E:XK),Room k (A.deeper (envOfC qual scope s.heap.objs.size f cdv))->sp vs H Q E ->
   ∃ t,PSs (cxOf CX P w K mg base N qual scope f cdv A outer s H E) body t/\t { nx:=fun _ H'=>Q .non H',rt:=Q } (start N vs) H) :
  FnOk P w K mg base CX (k + 1) f (PySem.W.fnOf name qual params body scope dV kV doc pm an cdv ct) ps sp:=by
 refine ⟨len,fun A outer s H args us vs Q E hr e0 hb r hsp=>?_⟩
 have hl:=len _ _ _ _ hsp
 have KX:K.In s.heap:=e0.mod.kin.keeps fun b o e=>(e0.bs b o e).1
 have lim:s.heap.NoLimit:=e0.mod.nolimit.keeps fun b o e=>(e0.bs b o e).1
 have hkind:∀ y ∈ ps.zip us,scope.names.lookup y.1 = some .local \/ (scope.names.lookup y.1 = some .cell/\((cellsFrom (s.heap.objs.size + 1) scope.names []).lookup y.1).isSome = true):=fun ⟨n,v⟩ hy=>by
  rcases S.par n (List.of_mem_zip hy).1 with q | q
  ·exact .inl q
  ·exact .inr ⟨q,PySem.W.cellsFrom_some _ _ _ (.inl q)⟩
 refine codeAny_call_function hr.depth (KX _ _ lk) rfl S.co S.gen rfl (PySem.W.codeRec_of KX hcd) (hb _ _ _ _ ?_)
 refine wpAny_newFunctionEnv_cells S.kind hkind fun env he s1 x=>?_
 subst he
 refine ⟨lim.keeps x.toInCall.keep,codeAny_func ?_⟩
 obtain ⟨t,ht,hq⟩:=hbody A outer s H vs Q E (hr.deeper _) hsp
 have I:Inv (cxOf CX P w K mg base N qual scope f cdv A outer s H E) [] (start N vs) H s1:=jqi S hr.hd e0 hl r x
 refine wpAny_mono (ht [] s1 (start N vs) H _ I hq) (fun fl s' hs=>?_) fun e s' hs=>hs
 have fin:∀ {σ':St} {H':Hp} {v:V} {u:Value},Inv (cxOf CX P w K mg base N qual scope f cdv A outer s H E) [] σ' H' s'->RelV v u->Q v H'->CE outer P w H s Q u s' :=
  fun {σ' H' v u} J rv q=>⟨v,H',J.os,J.bare,J.base,J.hok,rv,q⟩
 cases fl with
 | ret u =>
  obtain ⟨v,σ',H',J,rv,q⟩:=hs
  exact fin J rv q
 | next =>
  obtain ⟨σ',H',J,q⟩:=hs
  exact fin (v:=V.non) (u:=Value.none) J rfl q
 | brk =>
  obtain ⟨_,_,_,q⟩:=hs
  exact False.elim q
 | cont =>
  obtain ⟨_,_,_,q⟩:=hs
  exact False.elim q
section
variable {X:Cx} {x:Str} {p pos:Pos} {e:Expr} {es:List Expr} {t:TA} {id T:String} {r:List V->Hp->VK->Prop}
def tCB (r:List V->Hp->VK->Prop) (t:TA):TE:=fun σ H Q=>t σ H fun vs H1=>r vs H1 Q
theorem jbp (hc:jde X (.builtin id) r) (hg:Gl X x) (hm:X.mg x = none) (hv:bootBuiltins x = some (.builtin id)) (ha:PA X (e :: es) t) (hn:x ≠ "__name__":=by decide) (hdb:(x == ("__debug__":Str)) = false:=by decide)
  (he:starEach (e :: es) X.env = (false,eval e X.env) :: starEach es X.env:=by rfl) (hpl:(backTo pos (starEach es X.env)).any (·.1) = false:=by rfl):PE X (.Call (.Name x p) (e :: es) [] pos) (tCB r t):=by
 intro pins s σ H Q I h
 refine wpAny_Call_Name_kw (jfu I hg hm hv ?_ hn hdb)
 exact PyProof.Rows.callWith_builtin1 (thn (ha pos pins s σ H _ I h) fun us s1 ⟨vs,H1,I1,r1,q1⟩=>hc pins s1 σ H1 vs us Q I1 r1 q1) he hpl
theorem jd1 (hc:jde X (.type T) r) (hg:Gl X x) (hm:X.mg x = none) (hv:bootBuiltins x = some (.type T)) (ha:PA X (e :: es) t) (hn:x ≠ "__name__":=by decide) (hdb:(x == ("__debug__":Str)) = false:=by decide)
  (he:starEach (e :: es) X.env = (false,eval e X.env) :: starEach es X.env:=by rfl) (hpl:(backTo pos (starEach es X.env)).any (·.1) = false:=by rfl):PE X (.Call (.Name x p) (e :: es) [] pos) (tCB r t):=by
 intro pins s σ H Q I h
 refine wpAny_Call_Name_kw (jfu I hg hm hv ?_ hn hdb)
 exact PyProof.Rows.callWith_type1 (thn (ha pos pins s σ H _ I h) fun us s1 ⟨vs,H1,I1,r1,q1⟩=>hc pins s1 σ H1 vs us Q I1 r1 q1) he hpl
end
end L2
namespace HT
open PySem PyProof.Rows
def lexLt:List Int->List Int->Bool
 | [],[]=>false
 | [],_ :: _=>true
 | _ :: _,[]=>false
 | x :: xs,y :: ys=>if x = y then lexLt xs ys else decide (x < y)
theorem lexLt_cons (x y:Int) (xs ys:List Int):lexLt (x :: xs) (y :: ys) = if x = y then lexLt xs ys else decide (x < y):=rfl
theorem jjb:lexLt [] [] = false:=rfl
theorem jhp (y:Int) (ys:List Int):lexLt [] (y :: ys) = true:=rfl
theorem jhq (x:Int) (xs:List Int):lexLt (x :: xs) [] = false:=rfl
theorem jse (A:Around) (s:Shared) (a:Int) (t:Tok) (c:Int) (u:Tok):∃ e,SeqAt.EqAt A s (.int a t) (.int c u) e/\(e = true ↔ a = c) :=
 ⟨(a == c),SeqAt.EqAt.int_int a t c u,by simp⟩
theorem jrb (A:Around) (s:Shared) (a:Int) (t:Tok) (c:Int) (u:Tok) (prog:Program) (w:World) (E:Value->Shared->Prop) (Q:Value->Shared->Prop) (h:Q (.bool (decide (a < c))) s) :
  wpAny (model prog w) A (richCompare .Lt (.int a t) (.int c u)) Q E s :=
 (PyProof.Rows.lt_int h:wpAny (model prog w) A (compareOp .Lt (.int a t) (.int c u)) Q E s)
section
open PySem.SeqAt
open PySem.AutoSeq1 (wpAny_loadPart')
open PySem.MeetsSeq PySem.MeetsSeq2 PySem.MeetsSeq3
theorem jij (l b:Addr) (items items2:Array Value) (n n2:Nat) (dd dd2:Option Addr) (sl sl2:Array (Option Value)) (ns ms:List Int) (hi:IntsAre items.toList ns) (hj:IntsAre items2.toList ms) :
  Meets (Builtin.«tuple.__lt__» ⟨[.ref l,.ref b],[]⟩)
   (fun _ R s=>s.heap.get? l = some { cls:=.type "tuple",dict:=dd,data:=.seq items n,slots:=sl }/\s.heap.get? b = some { cls:=.type "tuple",dict:=dd2,data:=.seq items2 n2,slots:=sl2 } /\
    R (.ok (.ret (.bool (lexLt ns ms)))) s) :=
 .of_wp fun prog w A R s h=>by
  obtain ⟨hp,g,d,tk,os⟩:=s; obtain ⟨hl,hb,h⟩:=h
  have f2:=AutoSeq1.sub_tuple_tuple
  have z1:items.size = ns.length:=by rw [<- hi.length]; simp
  have z2:items2.size = ms.length:=by rw [<- hj.length]; simp
  wp_walk using wpAny_loadPart' hl,wpAny_loadPart' hb,wpAny_forIn_list _ (fun rest b s'=>b.1 = none/\s' = ⟨hp,g,d,tk,os⟩/\∃ (vs ws:List Value) (ns' ms':List Int),rest = vs.zip ws /\
   IntsAre vs ns'/\IntsAre ws ms'/\ns'.length + items2.size = ms'.length + items.size/\R (.ok (.ret (.bool (lexLt ns' ms')))) ⟨hp,g,d,tk,os⟩) _
  case turn =>
   rintro ⟨y,x⟩ rest b s' ⟨hb',rfl,vs,ws,ns',ms',hz,hvi,hwi,hlen,hR⟩
   cases hvi with
   | nil=>rw [List.zip_nil_left] at hz; cases hz
   | cons a t hvi' =>
    cases hwi with
    | nil=>rw [List.zip_nil_right] at hz; cases hz
    | cons c u hwi' =>
     rw [List.zip_cons_cons] at hz
     injection hz with hyx hrest
     injection hyx with hy hx
     subst hy hx
     rw [lexLt_cons] at hR
     simp only [List.length_cons] at hlen
     obtain ⟨e,he,hiff⟩:=jse A.in1 ⟨hp,g,d,tk,os⟩ a t c u
     refine wpAny_bind (he prog w _ _ ?_)
     cases e with
     | true =>
      rw [if_pos (hiff.mp rfl)] at hR
      wp_walk
      exact ⟨rfl,rfl,_,_,_,_,hrest,hvi',hwi',by omega,hR⟩
     | false =>
      rw [if_neg (fun q=>absurd (hiff.mpr q) Bool.false_ne_true)] at hR
      have hri:=jrb A.in1 ⟨hp,g,d,tk,os⟩ a t c u prog w
      wp_walk using hri
      exact ⟨_,rfl,by simpa using hR⟩
  case fin =>
   rintro ⟨b1,b2⟩ s' ⟨hb',rfl,vs,ws,ns',ms',hz,hvi,hwi,hlen,hR⟩
   simp only at hb'
   subst hb'
   have hv:lexLt ns' ms' = decide (items.size < items2.size):=by
    cases hvi with
    | nil =>
     cases hwi with
     | nil =>
      simp only [List.length_nil] at hlen
      rw [jjb]
      exact (decide_eq_false (by omega)).symm
     | cons c u hw =>
      simp only [List.length_nil,List.length_cons] at hlen
      rw [jhp]
      exact (decide_eq_true (by omega)).symm
    | cons a t hv =>
     cases hwi with
     | nil =>
      simp only [List.length_nil,List.length_cons] at hlen
      rw [jhq]
      exact (decide_eq_false (by omega)).symm
     | cons c u hw =>
      rw [List.zip_cons_cons] at hz
      cases hz
   rw [hv] at hR
   wp_walk
   exact ⟨_,rfl,by simpa [Builtin.Tuple.tupleCompareSizes] using hR⟩
  case h =>
   exact ⟨rfl,rfl,items.toList,items2.toList,ns,ms,rfl,hi,hj,by omega,h⟩
end
section
variable {prog:Program} {w:World} {A:Around} {E:Value->Shared->Prop} {s:Shared}
theorem lt_tupInts {l b:Addr} {items items2:Array Value} {ns ms:List Int} {Q:Value->Shared->Prop} (hl:IsTup s.heap l items) (hb:IsTup s.heap b items2) (hi:IntsAre items.toList ns) (hj:IntsAre items2.toList ms)
  (hu:A.units < cLine) (h:Q (.bool (lexLt ns ms)) s):wpAny (model prog w) A (compareOp .Lt (.ref l) (.ref b)) Q E s:=by
 obtain ⟨⟨cls,dd,data,sl⟩,ho,hc,n,hd⟩:=id hl
 obtain ⟨⟨cls2,dd2,data2,sl2⟩,ho2,hc2,n2,hd2⟩:=id hb
 simp only at hc hd hc2 hd2
 subst hc hd hc2 hd2
 exact richCompare_meets_room (op:=.Lt) ⟨_,ho,rfl⟩ ⟨_,ho2,rfl⟩ PySem.F.slot_tuple_lt PySem.F.entry_tuple_lt (PySem.F.args_tuple_lt_2 _ _) (jij l b items items2 n n2 dd dd2 sl sl2 ns ms hi hj)
  ⟨ho,ho2,show Value.bool (lexLt ns ms) ≠ Value.notImplemented/\Q (.bool (lexLt ns ms)) s from ⟨(fun x=>nomatch x),h⟩⟩ hu
def sIx (n d:Nat):Option Int->Nat
 | none=>d
 | some v=>if v < 0 then (v + (n:Int)).toNat else min v.toNat n
end
end HT
namespace L2
open PySem PySem.Spec PyProof.Rows
abbrev TO:=St->Hp->(Option Int->Hp->Prop)->Prop
def PO (X:Cx) (e:Option Expr) (t:TO):Prop :=
 ∀ (pins:List (Addr × Obj)) (s:Shared) (σ:St) (H:Hp) (Q:Option Int->Hp->Prop),Inv X pins σ H s->t σ H Q ->
  wpAny (model X.prog X.w) X.A (evalPart e X.env) (fun u s'=>∃ o H',Inv X pins σ H' s'/\IsPart u o/\Q o H') X.xe s
def ja4:TO:=fun _ H Q=>Q none H
theorem jdp {ns:List Int}:∀ {us:List Value},Vals (ns.map V.int) us->IntsAre us ns:=by
 induction ns with
 | nil=>intro us r; rw [List.map_nil] at r; cases r; exact .nil
 | cons n ns ih =>
  intro us r
  rw [List.map_cons] at r
  cases r with
  | cons r1 r2 =>
   obtain ⟨t,e⟩:=r1
   subst e
   exact .cons n t (ih r2)
section
variable {X:Cx} {e:Expr} {te:TE} {lo hi:Option Expr} {tl th:TO} {pos p2:Pos}
theorem ju2:PO X none ja4:=by
 intro pins s σ H Q I h
 rw [evalPart_none]
 exact wpAny_pure ⟨none,H,I,.none,h⟩
def SlR (X:Cx) (r:V->Option Int->Option Int->Hp->VK->Prop):Prop :=
 ∀ (pins:List (Addr × Obj)) (s:Shared) (σ:St) (H:Hp) (x:V) (v vl vu:Value) (lo hi:Option Int) (sl:Addr) (Q:VK),Inv X pins σ H s->RelV x v->s.heap.IsSliceOf sl vl vu .none->IsPart vl lo->IsPart vu hi->r x lo hi H Q ->
  ∃ T id,typeLookup (.type T) "__getitem__" = pure (some (.builtin id))/\s.TypeIs v T/\wpAny (model X.prog X.w) X.A (getItem v (.ref sl)) (EP X pins σ Q) X.xe s
def tSl (r:V->Option Int->Option Int->Hp->VK->Prop) (te:TE) (tl th:TO):TE:=fun σ H Q=>te σ H fun x H1=>tl σ H1 fun l H2=>th σ H2 fun u H3=>r x l u H3 Q
theorem jrn {r:V->Option Int->Option Int->Hp->VK->Prop} (hr:SlR X r) (he:PE X e te) (hl:PO X lo tl) (hu:PO X hi th):PE X (.Subscript e (.Slice lo hi none p2) pos) (tSl r te tl th):=by
 intro pins s σ H Q I h
 refine Subscript_ (thn (he pins s σ H _ I h) fun v s1 ⟨x,H1,I1,r1,q1⟩=>?_)
 refine wpAny_Slice (thn (hl pins s1 σ H1 _ I1 q1) fun vl s2 ⟨l,H2,I2,pl,q2⟩=>thn (hu pins s2 σ H2 _ I2 q2) fun vu s3 ⟨u,H3,I3,pu,q3⟩=>?_)
 rw [evalPart_none]
 refine wpAny_pure ?_
 have I4:Inv X pins σ H3 { s3 with heap:=s3.heap.push { cls:=.type "slice",data:=.fields #[vl,vu,.none] } }:=I3.kept (t':=s3.toks) fun b ob q=>Heap.get?_push_of_some _ q
 obtain ⟨T,id,hT,ht,hg⟩:=hr pins { s3 with heap:=s3.heap.push { cls:=.type "slice",data:=.fields #[vl,vu,.none] } } σ H3 x v vl vu l u s3.heap.objs.size Q I4 r1 (Heap.IsSliceOf.new ..) pl pu q3
 show wpAny (model X.prog X.w) X.A (subscriptTail e (.Slice lo hi none p2) v (.ref s3.heap.objs.size)) (EP X pins σ Q) X.xe { s3 with heap:=s3.heap.push { cls:=.type "slice",data:=.fields #[vl,vu,.none] } }
 exact tail_any (ops:=[.ref s3.heap.objs.size,v]) ht hT hg (by with_unfolding_all rfl)
def cutV (xs:List V) (lo hi:Option Int):List V:=(xs.drop (HT.sIx xs.length 0 lo)).take (HT.sIx xs.length xs.length hi - HT.sIx xs.length 0 lo)
theorem jmj (xs:List V) (lo hi:Option Int):(cutV xs lo hi).length <= xs.length:=by
 unfold cutV
 rw [List.length_take,List.length_drop]
 omega
def rLtT (K:PySem.W.Frag):R2:=fun x y H Q=>∃ a b ns ms,x = .ref a/\y = .ref b/\SqT K H a (ns.map V.int)/\SqT K H b (ms.map V.int)/\Q (.bl (HT.lexLt ns ms)) H
theorem op_ltT (hu:X.A.units < cLine):OpR X (compareOp .Lt) (rLtT X.K):=by
 intro pins s σ H x y v u Q I rx ry h
 obtain ⟨a,b,ns,ms,rfl,rfl,ha,hb,q⟩:=h
 cases rx
 cases ry
 obtain ⟨its,r1,p1,_⟩:=I.tuple ha
 obtain ⟨its2,r2,p2,_⟩:=I.tuple hb
 have i1:IntsAre its.toArray.toList ns:=jdp r1
 have i2:IntsAre its2.toArray.toList ms:=jdp r2
 exact HT.lt_tupInts p1 p2 i1 i2 hu ⟨.bl (HT.lexLt ns ms),H,I,rfl,q⟩
end
def ixN (n:Nat) (i:Int):Option Nat:=if 0 <= i then (if i < n then some i.toNat else none) else if -(n:Int) <= i then some (i + n).toNat else none
def atI {α:Type} (xs:List α) (i:Int):Option α:=(ixN xs.length i).bind fun j=>xs[j]?
theorem jqf {n:Nat} {i:Int} {j:Nat} (h:ixN n i = some j):seqIndex? i n = some j/\j < n/\-(n:Int) <= i/\i < n:=by
 unfold ixN at h
 by_cases h0:0 <= i
 ·rw [if_pos h0] at h
  by_cases h1:i < n
  ·rw [if_pos h1] at h
   have e:i.toNat = j:=Option.some.inj h
   exact ⟨by rw [seqIndex_of h0 h1,e],by omega,by omega,h1⟩
  ·rw [if_neg h1] at h; cases h
 ·rw [if_neg h0] at h
  by_cases h1:-(n:Int) <= i
  ·rw [if_pos h1] at h
   have e:(i + n).toNat = j:=Option.some.inj h
   exact ⟨by rw [seqIndex_neg (by omega) h1,e],by omega,h1,by omega⟩
  ·rw [if_neg h1] at h; cases h
theorem jmn {α:Type} {xs:List α} {i:Int} {v:α} (h:atI xs i = some v):∃ j,seqIndex? i xs.length = some j/\xs[j]? = some v/\j < xs.length/\-(xs.length:Int) <= i/\i < xs.length:=by
 unfold atI at h
 cases e:ixN xs.length i with
 | none=>rw [e] at h; cases h
 | some j =>
  rw [e] at h
  obtain ⟨h1,h2,h3,h4⟩:=jqf e
  exact ⟨j,h1,h,h2,h3,h4⟩
theorem jdd {α:Type} {xs:List α} {j:Nat} {v:α} (h:xs[j]? = some v):atI xs (j:Int) = some v:=by
 have hj:j < xs.length:=(List.getElem?_eq_some_iff.mp h).1
 have e:ixN xs.length (j:Int) = some j:=by
  unfold ixN
  rw [if_pos (by omega),if_pos (by omega)]; simp
 unfold atI; rw [e]; exact h
def jva (b:Expr):Prop:=∀ o i,subscripted b false o i = operate [o,i] (getItem o i)
def IxR (X:Cx) (r:R2):Prop :=
 ∀ (value slice:Expr) (pins:List (Addr × Obj)) (s:Shared) (σ:St) (H:Hp) (x y:V) (v u:Value) (Q:VK),Inv X pins σ H s->RelV x v->RelV y u->r x y H Q ->
  subscripted slice false v u = operate [v,u] (getItem v u)->wpAny (model X.prog X.w) X.A (subscriptTail value slice v u) (EP X pins σ Q) X.xe s
def MtR (X:Cx) (id:String) (r:V->List V->Hp->VK->Prop):Prop :=
 ∀ (pins:List (Addr × Obj)) (s:Shared) (σ:St) (H:Hp) (x:V) (xs:List V) (v:Value) (us:List Value) (Q:VK),Inv X pins σ H s->RelV x v->Vals xs us->r x xs H Q ->
  wpAny (model X.prog X.w) X.A (call (.builtin id) (v :: us)) (EP X pins σ Q) X.xe s
section
variable {X:Cx} {a b:Expr} {ta tb:TE} {pos:Pos}
theorem IxR.or {r r':R2} (h:IxR X r) (h':IxR X r'):IxR X (fun x y H Q=>r x y H Q \/ r' x y H Q):=by
 intro value slice pins s σ H x y v u Q I rx ry q hs
 rcases q with q | q
 ·exact h value slice pins s σ H x y v u Q I rx ry q hs
 ·exact h' value slice pins s σ H x y v u Q I rx ry q hs
theorem jbj {r:R2} (hr:IxR X r) (ha:PE X a ta) (hb:PE X b tb) (hs:jva b):PE X (.Subscript a b pos) (tOp r ta tb):=by
 intro pins s σ H Q I h
 exact Subscript_ (binT ha hb I h fun v u s2 x y H2 I2 rx ry q=>hr a b pins s2 σ H2 x y v u Q I2 rx ry q (hs _ _))
def rIxL (K:PySem.W.Frag):R2:=fun x y H Q=>∃ p xs i v,x = .ref p/\y = .int i/\SqL K H p xs/\atI xs i = some v/\Q v H
def rIxT (K:PySem.W.Frag):R2:=fun x y H Q=>∃ p xs i v,x = .ref p/\y = .int i/\SqT K H p xs/\atI xs i = some v/\Q v H
theorem jqe:IxR X (rIxL X.K):=by
 intro value slice pins s σ H x y v u Q I rx ry h hs
 obtain ⟨p,xs,i,z,rfl,rfl,hq,he,q⟩:=h
 cases rx
 obtain ⟨t,rfl⟩:=ry
 obtain ⟨its,r,pl,hz⟩:=I.list hq
 obtain ⟨j,h1,h2,h3,h4,h5⟩:=jmn he
 obtain ⟨w,ew,rw'⟩:=r.get h2
 have hl:=r.length
 have hn:=ji1
 have fin:EP X pins σ Q w s:=⟨z,H,I,rw',q⟩
 by_cases h0:0 <= i
 ·have hj:i.toNat = j:=by
   rw [seqIndex_of h0 h5] at h1
   exact Option.some.inj h1
  exact item_listR pl.isList h0 (by omega) (by rw [hj]; simpa using ew) fin hs
 ·have hj:(i + (its.toArray.size:Int)).toNat = j:=by
   rw [seqIndex_neg (by omega) h4] at h1
   rw [List.size_toArray,<- hl]
   exact Option.some.inj h1
  exact subscriptTail_builtinR (x:=w) pl.isList.typeIs slot_list_getitem.lookup
   (wpAny_getItem_list_neg (Q:=fun r s'=>r = w/\EP X pins σ Q r s') pl.isList (by omega) (by rw [List.size_toArray] <;> omega) (by omega) (by rw [hj]; simpa using ew) ⟨rfl,fin⟩) hs
theorem ix_tup:IxR X (rIxT X.K):=by
 intro value slice pins s σ H x y v u Q I rx ry h hs
 obtain ⟨p,xs,i,z,rfl,rfl,hq,he,q⟩:=h
 cases rx
 obtain ⟨t,rfl⟩:=ry
 obtain ⟨its,r,pl,hz⟩:=I.tuple hq
 obtain ⟨j,h1,h2,h3,h4,h5⟩:=jmn he
 obtain ⟨w,ew,rw'⟩:=r.get h2
 have hl:=r.length
 have hn:=ji1
 have fin:EP X pins σ Q w s:=⟨z,H,I,rw',q⟩
 exact subscriptTail_builtinR (x:=w) pl.typeIs slot_tuple_getitem.lookup
  (getItem_tuple (j:=j) (Q:=fun r s'=>r = w/\EP X pins σ Q r s') pl (by omega) (by omega) (by rw [List.size_toArray,<- hl]; exact h1) (by simpa using ew) ⟨rfl,fin⟩) hs
theorem jo7 (its:List Value) (n j:Nat) (u:Value):Obj.mapSeq (·.setIfInBounds j u) { cls:=.type "list",data:=.seq its.toArray n } = { cls:=.type "list",data:=.seq (its.set j u).toArray n }:=by
 simp [Obj.mapSeq]
theorem Inv.lst {pins:List (Addr × Obj)} {σ:St} {H:Hp} {s:Shared} {p:Addr} {xs:List V} (I:Inv X pins σ H s) (h:H p = some (.lst xs)) :
  ∃ (its:List Value) (n:Nat),Vals xs its/\s.heap.get? p = some { cls:=.type "list",data:=.seq its.toArray n }/\xs.length <= sizeLine:=by
 obtain ⟨z,its,n,r,e⟩:=I.hok p _ h
 exact ⟨its,n,r,e,z⟩
theorem Inv.lstUpd {pins:List (Addr × Obj)} {σ:St} {H:Hp} {s:Shared} {p:Addr} {xs ys:List V} {its its':List Value} {n n':Nat} {f:Obj->Obj} (I:Inv X pins σ H s) (h:H p = some (.lst xs))
  (ho:s.heap.get? p = some { cls:=.type "list",data:=.seq its.toArray n }) (hf:f { cls:=.type "list",data:=.seq its.toArray n } = { cls:=.type "list",data:=.seq its'.toArray n' }) (r:Vals ys its') (hz:ys.length <= sizeLine) (t:Nat) :
  Inv X pins σ (upd H p (.lst ys)) { s with heap:=s.heap.update p f,toks:=t }:=by
 have e:(s.heap.update p f).get? p = some { cls:=.type "list",data:=.seq its'.toArray n' }:=by
  rw [Heap.get?_update_self f ho (by rw [hf] <;> rfl),hf]
 refine I.write (x:=p) (e:=p) (by rw [h]; trivial) (.inl rfl) (fun b u hb q=>(Heap.get?_update_other _ _ (Ne.symm hb)).trans q) ⟨_,e⟩ ?_
 exact ⟨hz,its',n',r,e⟩
def rSetL:V->V->V->Hp->(Hp->Prop)->Prop:=fun o i v H Q=>∃ p xs k j,o = .ref p/\i = .int k/\H p = some (.lst xs)/\ixN xs.length k = some j/\Q (upd H p (.lst (xs.set j v)))
theorem jr9:PSet X rSetL:=by
 intro pins s σ H o i v ov iv u Q I ro ri rv h
 obtain ⟨p,xs,k,j,rfl,rfl,hp,hj,q⟩:=h
 cases ro
 obtain ⟨t,rfl⟩:=ri
 obtain ⟨its,n,r,ho,hz⟩:=I.lst hp
 obtain ⟨h1,h2,h3,h4⟩:=jqf hj
 have hl:=r.length
 have hn:=ji1
 have I':Inv X pins σ (upd H p (.lst (xs.set j v))) { s with heap:=s.heap.update p (Obj.mapSeq (·.setIfInBounds j u)) } :=
  I.lstUpd hp ho (jo7 its n j u) (r.set rv j) (by rw [List.length_set]; exact hz) s.toks
 by_cases h0:0 <= k
 ·have hk:k.toNat = j:=by
   rw [seqIndex_of h0 h4] at h1
   exact Option.some.inj h1
  exact PySem.W.ki_setAt ho h0 (by omega) (by rw [List.size_toArray,<- hl]; exact h4) (by rw [hk]; exact ⟨_,I',q⟩)
 ·have hk:(k + (its.toArray.size:Int)).toNat = j:=by
   rw [seqIndex_neg (by omega) h3] at h1
   rw [List.size_toArray,<- hl]
   exact Option.some.inj h1
  exact PySem.W.ki_setBack ho (by omega) (by rw [List.size_toArray,<- hl]; exact h3) (by omega) (by rw [hk]; exact ⟨_,I',q⟩)
theorem jkf (lo hi:Option Int) (n:Nat):(sliceBounds lo hi none n).1 = ((HT.sIx n 0 lo:Nat):Int)/\(sliceBounds lo hi none n).2.1 = ((HT.sIx n n hi:Nat):Int)/\(sliceBounds lo hi none n).2.2 = 1:=by
 refine ⟨?_,?_,rfl⟩
 ·cases lo with
  | none=>simp [sliceBounds,HT.sIx]
  | some i =>
   simp only [sliceBounds,HT.sIx,Option.getD_none,show (1:Int) > 0 by decide,if_true]
   by_cases h:i < 0
   ·simp only [h,if_true] <;> omega
   ·simp only [h,if_false] <;> omega
 ·cases hi with
  | none=>simp [sliceBounds,HT.sIx]
  | some i =>
   simp only [sliceBounds,HT.sIx,Option.getD_none,show (1:Int) > 0 by decide,if_true]
   by_cases h:i < 0
   ·simp only [h,if_true] <;> omega
   ·simp only [h,if_false] <;> omega
theorem jiq (its:List Value) (lo hi:Option Int):slicePick its.toArray lo hi none = ((its.drop (HT.sIx its.length 0 lo)).take (HT.sIx its.length its.length hi - HT.sIx its.length 0 lo)).toArray:=by
 obtain ⟨h1,h2,h3⟩:=jkf lo hi its.toArray.size
 unfold slicePick
 rw [h1,h2,h3]
 simp only [sliceRange_one,pick_run,List.size_toArray] <;> rfl
def rSlL (K:PySem.W.Frag):V->Option Int->Option Int->Hp->VK->Prop:=fun x lo hi H Q=>∃ a xs,x = .ref a/\SqL K H a xs/\∀ p,H p = none->Q (.ref p) (upd H p (.lst (cutV xs lo hi)))
theorem jts:SlR X (rSlL X.K):=by
 intro pins s σ H x v vl vu lo hi sl Q I rx hs pl pu h
 obtain ⟨a,xs,rfl,hx,q⟩:=h
 cases rx
 obtain ⟨its,r,ht,hz⟩:=I.list hx
 have hlen:=r.length
 refine ⟨"list",_,slot_list_getitem.lookup,ht.isList.typeIs,?_⟩
 refine wpAny_getItem_list_slice ht.isList hs pl pu .none (by simp) ?_ (by rw [List.size_toArray] <;> omega)
 rw [jiq,<- hlen]
 refine ⟨.ref s.heap.objs.size,_,I.laid (t':=s.toks) (o:=.lst (cutV xs lo hi)) (fun b ob q=>Heap.get?_push_of_some _ q) (Nat.le_refl _) ?_,rfl,q _ (I.hok.fresh (Nat.le_refl _))⟩
 exact ⟨Nat.le_trans (jmj xs lo hi) hz,_,0,(r.drop (HT.sIx xs.length 0 lo)).take (HT.sIx xs.length xs.length hi - HT.sIx xs.length 0 lo),Heap.get?_push_size _ rfl⟩
def jdk:V->Bool
 | .non=>true
 | .bl _=>true
 | .int _=>true
 | .str _=>true
 | _=>false
def eqV:V->V->Bool
 | .non,.non=>true
 | .bl a,.bl b=>a == b
 | .bl a,.int b=>(if a then 1 else 0) == b
 | .int a,.bl b=>a == (if b then 1 else 0)
 | .int a,.int b=>a == b
 | .str a,.str b=>a == b
 | _,_=>false
theorem jtd {A:Around} {s:Shared} {y x:V} {u v:Value} (ry:RelV y u) (rx:RelV x v) (fy:jdk y = true) (fx:jdk x = true):SeqAt.EqAt A s u v (eqV y x):=by
 cases y with
 | non =>
  cases ry
  cases x with
  | non=>cases rx; exact SeqAt.EqAt.same _
  | bl b=>cases rx; exact SeqAt.EqAt.none_bool b
  | int b=>obtain ⟨t,rfl⟩:=rx; exact SeqAt.EqAt.none_int b t
  | str b=>obtain ⟨t,rfl⟩:=rx; exact SeqAt.EqAt.none_str b t
  | _=>exact absurd (show false = true from fx) Bool.false_ne_true
 | bl a =>
  cases ry
  cases x with
  | non=>cases rx; exact SeqAt.EqAt.bool_none a
  | bl b=>cases rx; exact SeqAt.EqAt.bool_bool a b
  | int b=>obtain ⟨t,rfl⟩:=rx; exact SeqAt.EqAt.bool_int a b t
  | str b=>obtain ⟨t,rfl⟩:=rx; exact SeqAt.EqAt.bool_str a b t
  | _=>exact absurd (show false = true from fx) Bool.false_ne_true
 | int a =>
  obtain ⟨t',rfl⟩:=ry
  cases x with
  | non=>cases rx; exact SeqAt.EqAt.int_none a t'
  | bl b=>cases rx; exact SeqAt.EqAt.int_bool a t' b
  | int b=>obtain ⟨t,rfl⟩:=rx; exact SeqAt.EqAt.int_int a t' b t
  | str b=>obtain ⟨t,rfl⟩:=rx; exact SeqAt.EqAt.int_str a t' b t
  | _=>exact absurd (show false = true from fx) Bool.false_ne_true
 | str a =>
  obtain ⟨t',rfl⟩:=ry
  cases x with
  | non=>cases rx; exact SeqAt.EqAt.str_none a t'
  | bl b=>cases rx; exact SeqAt.EqAt.str_bool a t' b
  | int b=>obtain ⟨t,rfl⟩:=rx; exact SeqAt.EqAt.str_int a t' b t
  | str b=>obtain ⟨t,rfl⟩:=rx; exact SeqAt.EqAt.str_str a t' b t
  | _=>exact absurd (show false = true from fx) Bool.false_ne_true
 | _=>exact absurd (show false = true from fy) Bool.false_ne_true
def eqU (x:V) (u:Value):Bool:=match u with
 | .none=>eqV .non x
 | .bool b=>eqV (.bl b) x
 | .int i _=>eqV (.int i) x
 | .str z _=>eqV (.str z) x
 | _=>false
theorem jtc {x y:V} {u:Value} (r:RelV y u) (f:jdk y = true):eqU x u = eqV y x:=by
 cases y with
 | non=>cases r; rfl
 | bl b=>cases r; rfl
 | int i=>obtain ⟨t,rfl⟩:=r; rfl
 | str z=>obtain ⟨t,rfl⟩:=r; rfl
 | _=>exact absurd (show false = true from f) Bool.false_ne_true
theorem jhk {x:V}:∀ {xs:List V} {us:List Value},Vals xs us->xs.all jdk = true->us.any (eqU x) = xs.any fun y=>eqV y x
 | _,_,.nil,_=>rfl
 | y :: xs,u :: us,.cons r t,f=>by
  rw [List.all_cons,Bool.and_eq_true] at f
  rw [List.any_cons,List.any_cons,jtc r f.1,jhk t f.2]
theorem jez {A:Around} {s:Shared} {x:V} {v:Value} (rx:RelV x v) (fx:jdk x = true):∀ {xs:List V} {us:List Value},Vals xs us->xs.all jdk = true->∀ u ∈ us,SeqAt.EqAt A s u v (eqU x u)
 | _,_,.nil,_=>fun u hu=>by cases hu
 | y :: xs,u :: us,.cons r t,f=>fun u' hu=>by
  rw [List.all_cons,Bool.and_eq_true] at f
  rcases List.mem_cons.mp hu with rfl | hu
  ·rw [jtc r f.1]; exact jtd r rx f.1 fx
  ·exact jez rx fx t f.2 u' hu
def inV (x:V) (xs:List V):Bool:=xs.any fun y=>eqV y x
def rIn (K:PySem.W.Frag) (neg:Bool):R2:=fun x y H Q=>∃ p xs,y = .ref p/\(SqL K H p xs \/ SqT K H p xs)/\jdk x = true/\xs.all jdk = true/\Q (.bl (if neg then !inV x xs else inV x xs)) H
theorem jps:OpR X (compareOp .In) (rIn X.K false):=by
 intro pins s σ H x y v u Q I rx ry h
 obtain ⟨p,xs,rfl,hq,fx,fs,q⟩:=h
 cases ry
 rcases hq with hq | hq
 ·obtain ⟨its,r,pl,hz⟩:=I.list hq
  refine SeqAt.in_listAt (eqU x) pl.isList (fun w hw=>jez rx fx r fs w (by simpa using hw)) ⟨.bl _,H,I,rfl,?_⟩
  rw [show its.toArray.any (eqU x) = its.any (eqU x) by simp,jhk r fs]
  exact q
 ·obtain ⟨its,r,pl,hz⟩:=I.tuple hq
  refine SeqAt.in_tupleAt (eqU x) pl (fun w hw=>jez rx fx r fs w (by simpa using hw)) ⟨.bl _,H,I,rfl,?_⟩
  rw [show its.toArray.any (eqU x) = its.any (eqU x) by simp,jhk r fs]
  exact q
theorem jkl:OpR X (compareOp .NotIn) (rIn X.K true):=by
 intro pins s σ H x y v u Q I rx ry h
 obtain ⟨p,xs,rfl,hq,fx,fs,q⟩:=h
 cases ry
 rcases hq with hq | hq
 ·obtain ⟨its,r,pl,hz⟩:=I.list hq
  refine SeqAt.notIn_listAt (eqU x) pl.isList (fun w hw=>jez rx fx r fs w (by simpa using hw)) ⟨.bl _,H,I,rfl,?_⟩
  rw [show its.toArray.any (eqU x) = its.any (eqU x) by simp,jhk r fs]
  exact q
 ·obtain ⟨its,r,pl,hz⟩:=I.tuple hq
  refine SeqAt.notIn_tupleAt (eqU x) pl (fun w hw=>jez rx fx r fs w (by simpa using hw)) ⟨.bl _,H,I,rfl,?_⟩
  rw [show its.toArray.any (eqU x) = its.any (eqU x) by simp,jhk r fs]
  exact q
theorem je7:jde X (.builtin "len") (fun xs H Q=>∃ p ys,xs = [.ref p]/\(SqL X.K H p ys \/ SqT X.K H p ys)/\Q (.int ys.length) H):=by
 intro pins s σ H xs us Q I r h
 obtain ⟨p,ys,rfl,hq,q⟩:=h
 obtain ⟨u,rfl,rx⟩:=jif r
 cases rx
 have hn:=ji1
 rcases hq with hq | hq
 ·obtain ⟨its,r',pl,hz⟩:=I.list hq
  have hlen:=r'.length
  exact Calls.call_len_list pl.isList (by simp only [List.size_toArray] <;> omega) ⟨.int ys.length,H,I.tok _,⟨s.toks + 1,by rw [List.size_toArray,hlen]⟩,q⟩
 ·obtain ⟨its,r',pl,hz⟩:=I.tuple hq
  have hlen:=r'.length
  exact len_tuple pl (by simp only [List.size_toArray] <;> omega) ⟨.int ys.length,H,I.tok _,⟨s.toks + 1,by rw [List.size_toArray,hlen]⟩,q⟩
theorem jl7:jde X (.type "list") (fun xs H Q=>∃ p ys,xs = [.ref p]/\(SqL X.K H p ys \/ SqT X.K H p ys)/\∀ l,H l = none->Q (.ref l) (upd H l (.lst ys))):=by
 intro pins s σ H xs us Q I r h
 obtain ⟨p,ys,rfl,hq,q⟩:=h
 obtain ⟨u,rfl,rx⟩:=jif r
 cases rx
 have fin:∀ (its:List Value),Vals ys its->ys.length <= sizeLine->∀ (h':Heap) (c':Nat),(∀ b o',s.heap.get? b = some o'->h'.get? b = some o') ->
   h'.get? s.heap.objs.size = some { cls:=.type "list",dict:=none,data:=.seq its.toArray c',slots:=#[] }->EP X pins σ Q (.ref s.heap.objs.size) { s with heap:=h' }:=fun its r' hz h' c' kp e =>
  ⟨.ref s.heap.objs.size,_,I.laid (t':=s.toks) kp (Nat.le_refl _) (show jcv X.prog X.w _ h' _ (.lst ys) from ⟨hz,its,c',r',e⟩),rfl,q _ (I.hok.fresh (Nat.le_refl _))⟩
 rcases hq with hq | hq
 ·obtain ⟨its,r',pl,hz⟩:=I.list hq
  have hlen:=r'.length
  obtain ⟨o,ho,hc,n,hd⟩:=pl.isList
  exact call_list_seq p (.inl rfl) ho hc hd (fun h' c' kp e=>fin its r' hz h' c' kp e) (by simp only [List.size_toArray] <;> omega)
 ·obtain ⟨its,r',pl,hz⟩:=I.tuple hq
  have hlen:=r'.length
  obtain ⟨o,ho,hc,n,hd⟩:=pl
  exact call_list_seq p (.inr rfl) ho hc hd (fun h' c' kp e=>fin its r' hz h' c' kp e) (by simp only [List.size_toArray] <;> omega)
def tyV (K:PySem.W.Frag) (T:String) (x:V) (H:Hp):Prop:=match x with
 | .str _=>T = "str"
 | .int _=>T = "int"
 | .ref p=>(T = "list"/\∃ xs,SqL K H p xs) \/ (T = "tuple"/\∃ o,K.lookup p = some o/\o.cls = .type "tuple"/\o.dict = none) \/
   (T = "dict"/\((∃ kvs,H p = some (.dK kvs)) \/ ∃ kvs,H p = some (.dT kvs))) \/ (T = "set"/\∃ S n,H p = some (.set S n))
 | _=>False
theorem tyV_is {pins:List (Addr × Obj)} {σ:St} {H:Hp} {s:Shared} {T:String} {x:V} {v:Value} (I:Inv X pins σ H s) (r:RelV x v) (ty:tyV X.K T x H) :
  s.TypeIs v T/\∀ a,v = .ref a->∃ ob,s.heap.get? a = some ob/\ob.dict = none:=by
 cases x with
 | str z =>
  obtain ⟨t,rfl⟩:=r
  cases (show T = "str" from ty)
  exact ⟨typeIs_str s z t,fun _ e=>nomatch e⟩
 | int i =>
  obtain ⟨t,rfl⟩:=r
  cases (show T = "int" from ty)
  exact ⟨typeIs_int s i t,fun _ e=>nomatch e⟩
 | ref p =>
  cases r
  rcases ty with ⟨rfl,xs,hq⟩ | ⟨rfl,o,hk,hc,hd⟩ | ⟨rfl,hk⟩ | ⟨rfl,S,n,hk⟩
  ·obtain ⟨its,_,pl,_⟩:=I.list hq
   refine ⟨pl.isList.typeIs,fun a e=>?_⟩
   cases e
   obtain ⟨o,n,e,c,hd,_⟩:=pl
   exact ⟨o,e,hd⟩
  ·refine ⟨⟨o,I.kIn p o hk,hc⟩,fun a e=>?_⟩
   cases e
   exact ⟨o,I.kIn _ o hk,hd⟩
  ·have z:∃ o,s.heap.get? p = some o/\o.ExactDict:=by
    rcases hk with ⟨kvs,hk⟩ | ⟨kvs,hk⟩
    ·obtain ⟨_,_,_,_,o,_,_,e,ex,_⟩:=I.hok p _ hk
     exact ⟨o,e,ex⟩
    ·obtain ⟨_,_,_,_,o,_,_,e,ex,_⟩:=I.hok p _ hk
     exact ⟨o,e,ex⟩
   obtain ⟨o,e,ex⟩:=z
   refine ⟨⟨o,e,ex.1⟩,fun a e2=>?_⟩
   cases e2
   exact ⟨o,e,ex.2.1⟩
  ·obtain ⟨o,_,_,_,e,ex,_⟩:=I.hok p _ hk
   refine ⟨⟨o,e,ex.1⟩,fun a e2=>?_⟩
   cases e2
   exact ⟨o,e,ex.2.1⟩
 | _=>exact False.elim ty
variable {o e:Expr} {es:List Expr} {to:TE} {t:TA} {name:Str} {apos cpos:Pos} {T id:String} {r:V->List V->Hp->VK->Prop}
/- xs.append(e),list.index on a module's tuple .. are MtR facts of 06m -/
end
def MtM (X:Cx) (id:String) (r:V->List V->Hp->VK->Prop):Prop :=
 ∀ (pins:List (Addr × Obj)) (s:Shared) (σ:St) (H:Hp) (x:V) (xs:List V) (v:Value) (us:List Value) (Q:VK),Inv X pins σ H s->RelV x v->Vals xs us->r x xs H Q ->
  wpAny (model X.prog X.w) X.A (call (.builtin id) (v :: us)) (EP X pins σ Q) X.xe s
theorem Vals.one:∀ {x:V} {us:List Value},Vals [x] us->∃ u,us = [u]/\RelV x u
 | _,_,.cons r .nil=>⟨_,rfl,r⟩
theorem Vals.two:∀ {x y:V} {us:List Value},Vals [x,y] us->∃ u v,us = [u,v]/\RelV x u/\RelV y v
 | _,_,_,.cons r (.cons q .nil)=>⟨_,_,rfl,r,q⟩
theorem Vals.rep {xs:List V} {us:List Value} (h:Vals xs us):∀ k:Nat,Vals (List.replicate k xs).flatten (List.replicate k us).flatten
 | 0=>.nil
 | k + 1=>by
  rw [List.replicate_succ,List.replicate_succ,List.flatten_cons,List.flatten_cons]
  exact Vals.append h (Vals.rep h k)
section
variable {X:Cx} {pins:List (Addr × Obj)} {σ:St} {H:Hp} {s:Shared} {l b:Addr} {xs ys zs:List V}
theorem Inv.lset {its its':List Value} {n:Nat} {f:Array Value->Array Value} {t':Nat} (I:Inv X pins σ H s) (hH:H l = some (.lst xs))
  (e:s.heap.get? l = some { cls:=.type "list",data:=.seq its.toArray n }) (hf:f its.toArray = its'.toArray) (hv:Vals ys its') (hz:ys.length <= sizeLine) :
  Inv X pins σ (upd H l (.lst ys)) { s with heap:=s.heap.update l (Obj.mapSeq f),toks:=t' }:=by
 have q:=PySem.IsL.update e f
 rw [hf] at q
 refine I.write (x:=l) (e:=l) (by rw [hH]; exact trivial) (.inl rfl) (fun b' u hb hu=>(Heap.get?_update_other s.heap (Obj.mapSeq f) (Ne.symm hb)).trans hu) ⟨_,q⟩ ?_
 exact ⟨hz,its',_,hv,q⟩
theorem Inv.lnew {its:List Value} {t':Nat} (I:Inv X pins σ H s) (hv:Vals ys its) (hz:ys.length <= sizeLine) :
  Inv X pins σ (upd H s.heap.objs.size (.lst ys)) { s with heap:=s.heap.push { cls:=.type "list",data:=.seq its.toArray },toks:=t' } :=
 I.laid (fun _ _ q=>Heap.get?_push_of_some _ q) (Nat.le_refl _) ⟨hz,its,0,hv,Heap.get?_push_size _ rfl⟩
theorem Inv.fresh (I:Inv X pins σ H s):H s.heap.objs.size = none:=I.hok.fresh (Nat.le_refl _)
theorem Inv.lstM (I:Inv X pins σ H s) (hH:H l = some (.lst xs)):xs.length <= sizeLine/\∃ (its:List Value) (n:Nat),Vals xs its/\xs.length = its.length/\s.heap.get? l = some { cls:=.type "list",data:=.seq its.toArray n }:=by
 obtain ⟨z,its,n,r,e⟩:=I.hok l _ hH
 exact ⟨z,its,n,r,r.length,e⟩
theorem jrw {n:Nat} (h:n <= sizeLine):Builtin.List.listTooLong n = false:=by
 unfold Builtin.List.listTooLong
 exact decide_eq_false (by omega)
end
section
variable {X:Cx}
def jpb:V->List V->Hp->VK->Prop:=fun x vs H Q=>∃ l xs y,x = .ref l/\vs = [y]/\H l = some (.lst xs)/\xs.length < sizeLine/\Q .non (upd H l (.lst (xs ++ [y])))
theorem jkr:MtM X "list.append" jpb:=by
 intro pins s σ H x vs v us Q I rx rv h
 obtain ⟨l,xs,y,rfl,rfl,hH,hz,q⟩:=h
 cases rx
 obtain ⟨u,rfl,ru⟩:=rv.one
 obtain ⟨z,its,n,r,hl,e⟩:=I.lstM hH
 refine call_meets F.slot_list_append ⟨_,e,rfl⟩ F.entry_list_append (F.args_list_append_2 _ _) (PySem.list_append l its.toArray n u (by rw [List.size_toArray]; omega)) ⟨e,?_⟩
 refine ⟨.non,_,I.lset (its':=its ++ [u]) hH e (by simp) (r.append (.cons ru .nil)) ?_,rfl,q⟩
 rw [List.length_append,List.length_singleton]
 omega
def rCat:R2:=fun x y H Q=>∃ l b xs zs,x = .ref l/\y = .ref b/\H l = some (.lst xs)/\H b = some (.lst zs)/\xs.length + zs.length <= sizeLine/\∀ p,H p = none->Q (.ref p) (upd H p (.lst (xs ++ zs)))
theorem op_cat:OpR X (binaryOp .Add) rCat:=by
 intro pins s σ H x y v u Q I rx ry h
 obtain ⟨l,b,xs,zs,rfl,rfl,hH,hB,hz,q⟩:=h
 cases rx
 cases ry
 obtain ⟨z,its,n,r,hl,e⟩:=I.lstM hH
 obtain ⟨z2,its2,n2,r2,hl2,e2⟩:=I.lstM hB
 refine PySem.P.add_list e e2 ?_ (by rw [List.size_toArray,List.size_toArray]; omega)
 have ea:its.toArray ++ its2.toArray = (its ++ its2).toArray:=by simp
 rw [ea]
 exact ⟨.ref _,_,I.lnew (t':=s.toks) (r.append r2) (by rw [List.length_append]; omega),rfl,q _ I.fresh⟩
end
section
variable {prog:Program} {w:World} {A:Around} {E:Value->Shared->Prop} {s:Shared}
end
section
variable {X:Cx}
end
end L2
namespace Att
open PySem PySem.W PySem.Calls PyProof.Rows
theorem jhc {P:Params} {h:Heap}:∀ (ns:List Int) (vs:List Value),WellAll P h vs (ns.map WData.int)->IntsAre vs ns:=by
 intro ns
 induction ns with
 | nil =>
  intro vs w
  rw [List.map_nil] at w
  cases w
  exact .nil
 | cons n ns ih =>
  intro vs w
  rw [List.map_cons] at w
  cases w with
  | cons a b =>
   cases a
   exact .cons _ _ (ih _ b)
theorem jp6 {l:OpenLaw} {n:Nat} (hn:l.most = some n) {P:Params} {h:Heap} {args:List WData} {vals:List Value}
  (hpre:l.row.toRowW.claim.pre args = true) (hwl:WellAll P h vals args) :
  ∃ a vs ns,vals = [Value.ref a]/\args = [WData.list (ns.map WData.int)]/\h.get? a = some { cls:=.type "list",data:=.seq vs.toArray }/\IntsAre vs ns/\ns.length <= n:=by
 have hsh:WShape.hasAll [] args [.list .int] = true:=(pre_splitW hpre).1
 have hc:l.pre.holds [] { args:=args } = true:=(pre_splitW hpre).2
 obtain ⟨d,r,rfl,h1,h2⟩:=hasAllW_cons hsh
 obtain rfl:=hasAllW_nil h2
 obtain ⟨xs,rfl,h3⟩:=hasW_list h1
 obtain ⟨ns,rfl⟩:=items_int h3
 have hlen:ns.length <= n:=by
  unfold OpenLaw.pre at hc
  have h4:(WTm.not (.lt (.lit (.int (n:Int))) (.len (.arg 0)))).holds [] { args:=[.list (ns.map .int)] } = true:=by
   have h4:=(holds_andW hc).1
   rw [hn] at h4
   exact h4
  have h5:=condW_of h4 (w_not (w_lt w_lit (w_len_list (w_arg rfl))))
  rw [List.length_map] at h5
  refine Nat.le_of_not_lt fun q=>?_
  have q':(n:Int) < ((ns.length:Nat):Int):=by omega
  first
   | (rw [decide_eq_true q'] at h5; exact absurd h5 (by decide))
   | (simp at h5; omega)
 cases hwl with
 | cons w1 w2 =>
  cases w2
  cases w1 with
  | list ho hall=>exact ⟨_,_,ns,rfl,rfl,ho,jhc ns _ hall,hlen⟩
theorem jpj (l:OpenLaw) (args:List WData):l.row.toRowW.claim.post args (.bool true) args = true :=
 postW_of (r:=l.row.toRowW) (X:=(true == true))
  (show WShape.has [] (.bool true) .bool = true by first | rfl | decide | simp [WShape.has,WShape.arms,WShape.armsAll])
  (show (WTm.eq .res (.lit (.bool true))).value [] { args:=args,res:=some (.bool true),after:=args } = some (.bool (true == true)) from w_eq_bool (w_res rfl) w_lit) rfl
theorem attach_call {l:OpenLaw} {n:Nat} {q:Program} {loose:List Str} {XP:(Str->Option Value)->Heap->Prop} {YP:World->Heap->Prop} {d:DefRec}
  (hn:l.most = some n) (hdf:d.params.defaults = [])
  (call:∀ (w:World) (s₀ s₁:Shared) (mg mb:Str->Option Value) (fa:Addr) (o:Obj) (pm cd doc:Value) (a:Addr) (vs:List Value) (ns:List Int),
   Ground q loose [] XP w s₀ mg mb s₁.heap->YP w s₁.heap ->
   s₁.heap.get? fa = some o->o.data = .func (docDef d.name d.params d.body d.scope pm cd doc)->s₁.heap.CodeRec cd d.name->mg d.name = some (.ref fa) ->
   s₁.heap.get? a = some { cls:=.type "list",data:=.seq vs.toArray }->IntsAre vs ns->ns.length <= n->s₁.gens = #[] ->
   codeAny (model l.prog w) callerA (.call (.ref fa) ⟨[.ref a],[]⟩) (fun r s'=>r = .ok (.ret (.bool true))/\OldK s₁.heap s'.heap/\s'.os = s₁.os/\AllBare s'.gens) s₁) :
  WalkO q loose XP YP l.row.toRowW d [] (fun f vs=>PySem.call f vs):=by
 intro w s₀ s₁ mg mb G Y fa o pm cd doc dV kV ho hd hcd hD hmg hg args vals as hpre hlay hrd hwl hlo
 obtain rfl:dV = .none:=Dflts.none hD hdf
 obtain rfl:kV = .none:=Dflts.noKw hD
 obtain ⟨a,vs,ns,rfl,rfl,hobj,hints,hlen⟩:=jp6 hn hpre hwl
 refine enter_call (codeAny_mono (call w s₀ s₁ mg mb fa o pm cd doc a vs ns G Y ho (fd_plain hd) hcd hmg hobj hints hlen hg) fun r s' hq=>?_)
 obtain ⟨rfl,h2,h3,h4⟩:=hq
 exact ⟨.inl ⟨.bool true,.bool true,[],rfl,fun _=>rfl,.bool true,jpj l _,fun _=>⟨List.Pairwise.nil,fun _ hm=>(nomatch hm)⟩⟩,h2,h3,h4⟩
section
variable {prog:Program} {w:World} {A:Around} {E:Value->Shared->Prop} {s:Shared} {K:Frag}
end
end Att
namespace L2
open PySem PySem.Spec PyProof.Rows
theorem jgf:∀ {vs:List Value} {ns:List Int},IntsAre vs ns->Vals (ns.map V.int) vs
 | _,_,.nil=>.nil
 | _,_,.cons n t h=>.cons ⟨t,rfl⟩ (jgf h)
def Only (H:Hp):Prop:=∀ b,H b = none \/ ∃ o xs,H b = some (.frz o (.lst xs))
theorem js5 {P:Program} {w:World} {K:PySem.W.Frag} {mg mb:Str->Option Value} {CX:CXT} {k:Nat} {fa a:Addr} {fd:FuncData} {x:Str} {sp:Sp} {s₁:Shared} {vs:List Value} {ns:List Int}
  (KX:K.In s₁.heap) (hns:s₁.heap.Ns mainGlobals mg) (hb:s₁.heap.Ns builtinsNs mb) (hbb:∀ x:Str,x ≠ "__name__"->mb x = bootBuiltins x) (hlim:s₁.heap.NoLimit) (hg:s₁.gens = #[])
  (ha:s₁.heap.get? a = some { cls:=.type "list",data:=.seq vs.toArray }) (hi:IntsAre vs ns) (hl:ns.length <= sizeLine) (hr:Room k callerA)
  (F:∀ base:Heap,K.In base->base.Ns mainGlobals mg->FnOk P w K mg base CX k fa fd [x] sp) (hbind:∀ (s:Shared) (u:Value),BindsTo s fd ⟨[u],[]⟩ [(x,u)])
  (hsp:∀ H:Hp,Only H->SqL K H a (ns.map V.int)->sp [.ref a] H (fun v _=>v = .bl true) fun _ _ _=>False)
  (hCX:∀ H e s',CX [] H s₁ (fun _ _ _=>False) e s'->False) :
  codeAny (model P w) callerA (.call (.ref fa) ⟨[.ref a],[]⟩) (fun r s'=>r = .ok (.ret (.bool true))/\OldK s₁.heap s'.heap/\s'.os = s₁.os/\AllBare s'.gens) s₁:=by
 have rv:=jgf hi
 have lenV:=hi.length
  -- from an abstract heap in which nothing but the script may be tracked
 have core:∀ H:Hp,Only H->SqL K H a (ns.map V.int)->HOk P w H s₁.heap->(∀ b,H b ≠ none->b = a)->(H a ≠ none->K.lookup a = none) ->
   codeAny (model P w) callerA (.call (.ref fa) ⟨[.ref a],[]⟩) (fun r s'=>r = .ok (.ret (.bool true))/\OldK s₁.heap s'.heap/\s'.os = s₁.os/\AllBare s'.gens) s₁:=by
  intro H hO hS hok hA hK
  have base_of:∀ {b:Addr} {o:Obj},s₁.heap.get? b = some o->H b = none->(hidT s₁.heap H).get? b = some o:=fun e n=>js7 e n
  have noA:∀ {b:Addr} {o:Obj} {es:Array DictEntry} {ep:Nat},s₁.heap.get? b = some o->o.data = .dict es ep->H b = none:=fun {b o es ep} e d=>by
   cases q:H b with
   | none=>rfl
   | some u =>
    have e':b = a:=hA b (by rw [q]; simp)
    subst e'
    rw [ha] at e; cases e
    have d':Data.seq vs.toArray _ = Data.dict es ep:=d
    cases d'
  have nsK:∀ {b:Addr} {m:Str->Option Value},s₁.heap.Ns b m->(hidT s₁.heap H).Ns b m:=fun {b m} ⟨o,es,ep,e,d,r⟩=>⟨o,es,ep,base_of e (noA e d),d,r⟩
  have hKb:K.In (hidT s₁.heap H):=fun b o e=>base_of (KX b o e) (by
   cases q:H b with
   | none=>rfl
   | some u =>
    have e':b = a:=hA b (by rw [q]; simp)
    subst e'
    rw [hK (by rw [q]; simp)] at e; cases e)
  have hM:Mod K mg (hidT s₁.heap H):=⟨hKb,nsK hns,⟨mb,nsK hb,hbb⟩,let ⟨mc,h1,h2⟩:=hlim; ⟨mc,nsK h1,h2⟩⟩
  have e0:Env0 P w K mg (hidT s₁.heap H) callerA [] s₁ H:=⟨rfl,hM,fun b o e=>jug e,Nat.le_of_eq (jqj _ _),trivial,fun b hb=>absurd (show b ∈ ([]:List Addr) from hb) (by simp),hok,.of_eq hg⟩
  refine codeAny_mono ((F _ hKb (nsK hns)).run callerA [] s₁ H ⟨[.ref a],[]⟩ [.ref a] [.ref a] _ _ hr e0 (hbind s₁ (.ref a)) (.cons rfl .nil) (hsp H hO hS)) fun r s' h=>?_
  cases r with
  | error e=>exact (hCX H e s' h).elim
  | ok fl =>
   cases fl with
   | next=>exact False.elim h
   | brk=>exact False.elim h
   | cont=>exact False.elim h
   | ret u =>
    obtain ⟨v,H',os,bare,un,hok',r',q⟩:=h
    have q':v = .bl true:=q
    subst q'
    obtain rfl:u = Value.bool true:=r'
    refine ⟨rfl,OldK.of_keep fun b o e=>?_,os,bare⟩
    cases q:H b with
    | none=>exact un.keep b o e q (by intro z; exact absurd (show b ∈ ([]:List Addr) from z) (by simp)) (by simp)
    | some u =>
     rcases hO b with z | ⟨ob,xs,z⟩
     ·rw [q] at z; cases z
     ·have z2:=un.frzs b ob _ z
      obtain ⟨e1,_⟩:=hok b _ z
      obtain ⟨e2,_⟩:=hok' b _ z2
      rw [e] at e1; cases e1
      exact e2
 cases hk:K.lookup a with
 | some o =>
    -- the script is one of the module's own objects
  have e:=KX a o hk
  rw [ha] at e
  cases e
  refine core (fun _=>none) (fun _=>.inl rfl) (.inr ⟨_,vs.toArray,_,hk,rfl,rfl,rfl,by rw [List.size_toArray,lenV]; exact hl,by simpa using rv⟩) (fun b u z=>by have z':(none:Option HO) = some u:=z; cases z') (fun b z=>absurd rfl z) fun z=>absurd rfl z
 | none =>
  refine core (fun b=>if b = a then some (.frz { cls:=.type "list",data:=.seq vs.toArray } (.lst (ns.map V.int))) else none) (fun b=>?_) (.inl (.inr ⟨{ cls:=.type "list",data:=.seq vs.toArray },if_pos rfl⟩)) (fun b u z=>?_) (fun b z=>?_) fun _=>hk
  ·by_cases hb:b = a
   ·exact .inr ⟨_,_,if_pos hb⟩
   ·exact .inl (if_neg hb)
  ·by_cases hb:b = a
   ·have z':=(if_pos hb).symm.trans z
    cases z'
    subst hb
    exact ⟨ha,by rw [List.length_map]; exact hl,vs,_,rv,ha⟩
   ·have z':=(if_neg hb).symm.trans z
    cases z'
  ·by_cases hb:b = a
   ·exact hb
   ·exact absurd (if_neg hb) z
abbrev KOf {K:PySem.W.Frag} {h:Heap} (_:K.In h):PySem.W.Frag:=K
theorem jom {l:PySem.W.OpenLaw} {n k:Nat} {q:Program} {loose:List Str} {XP:(Str->Option Value)->Heap->Prop} {YP:World->Heap->Prop} {d:DefRec} {K:Params->PySem.W.Frag} {CX:World->CXT} {sp:World->Sp} {x:Str}
    (hn:l.most = some n) (hn2:n <= sizeLine) (hdf:d.params.defaults = []) (hr:Room k callerA)
    (hY:∀ (w:World) (h:Heap),YP w h->(K w.params).In h)
    (F:∀ (w:World) (mg:Str->Option Value) (fa:Addr) (h:Heap),(K w.params).In h->h.Ns mainGlobals mg->mg d.name = some (.ref fa) ->
      ∃ fd:FuncData,(∀ (s:Shared) (u:Value),BindsTo s fd ⟨[u],[]⟩ [(x,u)]) /\
        ∀ base:Heap,(K w.params).In base->base.Ns mainGlobals mg->FnOk l.prog w (K w.params) mg base (CX w) k fa fd [x] (sp w))
    (hsp:∀ (w:World) (H:Hp) (a:Addr) (ns:List Int),ns.length <= n->Only H->SqL (K w.params) H a (ns.map V.int)->sp w [.ref a] H (fun v _=>v = .bl true) fun _ _ _=>False)
    (hCX:∀ (w:World) (H:Hp) (s:Shared) (e:Value) (s':Shared),CX w [] H s (fun _ _ _=>False) e s'->False) :
    PySem.W.WalkO q loose XP YP l.row.toRowW d [] (fun f vs=>PySem.call f vs):=by
  refine Att.attach_call hn hdf fun w s₀ s₁ mg mb fa o pm cd doc a vs ns G Y ho hd hcd hmg hobj hints hlen hg=>?_
  have KX:=hY w _ Y
  obtain ⟨fd,hb,hF⟩:=F w mg fa _ KX G.T.g hmg
  exact js5 KX G.T.g G.T.b G.T.builtins G.T.nolimit hg hobj hints (Nat.le_trans hlen hn2) hr hF hb (fun H hO hS=>hsp w H a ns hlen hO hS) fun H e s'=>hCX w H s₁ e s'
end L2
/- THE LAST THEOREM (shape; LID,My.* are yours):
   My.Adr: a structure of the addresses that your layer names (classes,functions); My.Txt K t: a structure (Prop) of the equations over K;
   My.txt_mk:{K} {implicit addresses ..} (e1:nsIn K mainGlobals "law" = some (some (.ref f))) (e2:K.lookup f = some ⟨oc,od,.func (fnOf "law" "law" params body scope dV kV doc pm an cdv ct),sl⟩) (e3:codeIn K cdv "law" = true) ..:∃ t,My.Txt K t
set_option maxRecDepth 100000 in
set_option maxHeartbeats 0 in
theorem PySem.Challenge.cw_LID_holds : PySem.Challenge.rw_LID.Holds := by
 w_on; o_law; k_head; (case hw=>w_witness2)
 k_fill
 refine L2.jom (l:=PySem.Challenge.rw_LID) (n:=63) (k:=40) (x:="script") (CX:=fun w=>..) (sp:=fun _=>My.sp_law) rfl (by decide) rfl ⟨rfl,by decide,by decide⟩ (fun w h Y=>PySem.W.kIn_of Y) ?F ?S ?C
 case F =>
  intro w mg fa h KX G hmg
  have T:∃ t,My.Txt (L2.KOf KX) t:=by
   dsimp only [L2.KOf]                          -- K must stand as «<heap const> w.params» for k_is
   refine' My.txt_mk ?e1 ?e2 ?e3 ..
   (case e1=>PySem.W.k_is)                    -- in the order: a name -> its address -> its object -> its parts
   (case e2=>PySem.W.k_is)
   ..
  obtain ⟨t,T⟩:=T
  have e0:=hmg.symm.trans (PySem.W.mg_of KX G T.law)
  cases e0                                       -- fa is the law's own address
  exact ⟨_,fun s u=>.of_eq rfl,fun base kb nb=>My.law_fn T kb nb⟩     -- if «.of_eq rfl» comes too early: refine' ⟨_,?b,fun base kb nb=>My.law_fn T kb nb⟩; exact fun s u=>.of_eq rfl
 case S=>exact fun w H a ns hl hO hS=>..
 case C=>exact ..
(the tactic k_is has no namespace: write k_is) -/
namespace L2
open PySem PySem.Spec PyProof.Rows
def je5 (s:Stmt):Arguments:=match s with
 | .FunctionDef _ a _ _ _ _ _ _ _ _=>a
 | _=>{ posonlyargs:=[],args:=[],vararg:=none,kwonlyargs:=[],kw_defaults:=[],kwarg:=none,defaults:=[] }
def jdx (s:Stmt):List Stmt:=match s with
 | .FunctionDef _ _ b _ _ _ _ _ _ _=>b
 | _=>[]
def jbe (s:Stmt):Scope:=match s with
 | .FunctionDef _ _ _ _ _ _ sc _ _ _=>sc
 | _=>{ kind:=.function,names:=[],isGenerator:=false,isCoroutine:=false }
abbrev CX0:CXT:=fun _ _ _ _ _ _=>False
abbrev E0:XK:=fun _ _ _=>False
theorem jbq {X:Cx}:jfa CX0 X E0:=fun _ _ _ _ _ _ _ h=>h.elim
structure Fun (K:PySem.W.Frag) (x qual:Str) (st:Stmt) (f:Addr) (fd:FuncData):Prop where
 ex:∃ (oc:Value) (od:Option Addr) (kV doc pm:Value) (an:Option Addr) (cdv ct:Value) (osl:Array (Option Value)),
  fd = PySem.W.fnOf x qual (je5 st) (jdx st) (jbe st) .none kV doc pm an cdv ct/\K.lookup f = some ⟨oc,od,.func fd,osl⟩/\PySem.W.codeIn K cdv qual = true
 kp:PySem.W.keepIn K (.ref f) = true
section
variable {P:Program} {w:World} {K:PySem.W.Frag} {mg:Str->Option Value} {base:Heap}
theorem Fun.ok {x qual:Str} {st:Stmt} {f:Addr} {fd:FuncData} {N ps:List Str} {k:Nat} {sp:Sp} (F:Fun K x qual st f fd) (S:FnScope N ps (jbe st)) (len:∀ vs H Q E,sp vs H Q E->vs.length = ps.length)
  (hbody:∀ (cdv:Value) (A:Around) (outer:List Env) (s:Shared) (H:Hp) (vs:List V) (Q:VK) (E:XK),Room k (A.deeper (envOfC qual (jbe st) s.heap.objs.size f cdv))->sp vs H Q E ->
   ∃ t,PSs (cxOf CX0 P w K mg base N qual (jbe st) f cdv A outer s H E).nox (jdx st) t/\t { nx:=fun _ H'=>Q .non H',rt:=Q } (start N vs) H):FnOk P w K mg base CX0 (k + 1) f fd ps sp:=by
 obtain ⟨oc,od,kV,doc,pm,an,cdv,ct,osl,rfl,lk,hcd⟩:=F.ex
 refine fn_of lk hcd S len fun A outer s H vs Q E hr hsp=>?_
 obtain ⟨t,h,q⟩:=hbody cdv A outer s H vs Q E hr hsp
 exact ⟨t,h.nox,q⟩
theorem Fun.binds {x qual:Str} {st:Stmt} {f:Addr} {fd:FuncData} {ps:List Str} (F:Fun K x qual st f fd)
  (h:∀ (kV doc pm:Value) (an:Option Addr) (cdv ct:Value) (us:List Value),us.length = ps.length->bindArgs (PySem.W.fnOf x qual (je5 st) (jdx st) (jbe st) .none kV doc pm an cdv ct) ⟨us,[]⟩ = pure (ps.zip us)):jfc K fd ps []:=by
 obtain ⟨oc,od,kV,doc,pm,an,cdv,ct,osl,rfl,lk,hcd⟩:=F.ex
 exact .all (h kV doc pm an cdv ct)
theorem jbs {x qual:Str} {st:Stmt} {f:Addr} {oc:Value} {od an:Option Addr} {osl:Array (Option Value)} {kV doc pm cdv ct:Value} (l:K.lookup f = some ⟨oc,od,.func (PySem.W.fnOf x qual (je5 st) (jdx st) (jbe st) .none kV doc pm an cdv ct),osl⟩)
  (c:PySem.W.codeIn K cdv qual = true) (k:PySem.W.keepIn K (.ref f) = true):Fun K x qual st f (PySem.W.fnOf x qual (je5 st) (jdx st) (jbe st) .none kV doc pm an cdv ct):=⟨⟨oc,od,kV,doc,pm,an,cdv,ct,osl,rfl,l,c⟩,k⟩
end
theorem jcc {A:Around} {k:Nat} (hr:Room k A):A.units + 1 < cLine:=Nat.lt_of_le_of_lt (Nat.add_le_add_left (by decide:1 <= 64) _) hr.units
section
variable {X:Cx}
end
theorem ite2 {c A B:Prop} [Decidable c] (h1:c->A) (h2:¬ c->B):if c then A else B:=by
 by_cases h:c
 ·rw [if_pos h]
  exact h1 h
 ·rw [if_neg h]
  exact h2 h
def Same (H H':Hp):Prop:=∀ b o,H b = some o->H' b = some o
theorem Same.refl (H:Hp):Same H H:=fun _ _ h=>h
theorem Same.trans {H H1 H2:Hp} (a:Same H H1) (b:Same H1 H2):Same H H2:=fun c o h=>b c o (a c o h)
theorem Same.free {H H':Hp} (e:Same H H') {l:Addr} (h:H' l = Option.none):H l = Option.none:=by
 cases q:H l with
 | none=>rfl
 | some o =>
  rw [e l o q] at h
  cases h
end L2
set_option maxHeartbeats 8000000
namespace L2
open PySem PySem.Spec PyProof.Rows
section
variable {κ:Type} [DecidableEq κ]
def valV (kvs:List (κ × V)) (k:κ):Option V:=(kvs.find? fun kv=>decide (kv.1 = k)).map (·.2)
def putK (kvs:List (κ × V)) (k:κ) (v:V):List (κ × V) :=
 if (kvs.any fun kv=>decide (kv.1 = k)) = true then kvs.map (fun kv=>if kv.1 = k then (kv.1,v) else kv) else kvs ++ [(k,v)]
theorem jig {p:κ × V} {r:List (κ × V)} {k:κ} (e:p.1 = k):valV (p :: r) k = some p.2:=by simp [valV,List.find?_cons,e]
theorem jih {p:κ × V} {r:List (κ × V)} {k:κ} (e:¬ p.1 = k):valV (p :: r) k = valV r k:=by simp [valV,List.find?_cons,e]
theorem jii (k:κ):∀ kvs:List (κ × V),(kvs.any fun kv=>decide (kv.1 = k)) = (valV kvs k).isSome
 | []=>rfl
 | p :: r=>by
  rw [List.any_cons]
  by_cases e:p.1 = k
  ·simp only [jig e,decide_eq_true e,Bool.true_or,Option.isSome_some]
  ·rw [jih e,decide_eq_false e,Bool.false_or]; exact jii k r
theorem jen (kvs:List (κ × V)) (k:κ) (v:V):(putK kvs k v).length <= kvs.length + 1:=by
 unfold putK
 split
 ·rw [List.length_map]; omega
 ·rw [List.length_append,List.length_cons,List.length_nil]; omega
theorem jrg {kvs:List (κ × V)} {k:κ} (v:V) (h:valV kvs k = none):putK kvs k v = kvs ++ [(k,v)]:=by
 unfold putK
 rw [jii,h]
 exact if_neg (by decide)
theorem RelO.isSome_eq {o:Option V} {u:Option Value} (r:RelO o u):o.isSome = u.isSome:=by
 cases o with
 | none=>cases u with
  | none=>rfl
  | some _=>exact (show False from r).elim
 | some _=>cases u with
  | none=>exact (show False from r).elim
  | some _=>rfl
theorem RelO.getD {o:Option V} {u:Option Value} {d:V} {d':Value} (r:RelO o u) (rd:RelV d d'):RelV (o.getD d) (u.getD d'):=by
 cases o with
 | none=>cases u with
  | none=>exact rd
  | some _=>exact (show False from r).elim
 | some _=>cases u with
  | none=>exact (show False from r).elim
  | some _=>exact r
theorem KV.val {kvs:List (κ × V)} {vs:List (κ × Value)} (r:KV kvs vs) (k:κ):RelO (valV kvs k) (valueAt vs k):=by
 unfold KV at r
 induction r with
 | nil=>exact True.intro
 | @cons p q ps qs h t ih =>
  obtain ⟨h1,h2⟩:=h
  by_cases e:p.1 = k
  ·have e':q.1 = k:=h1.symm.trans e
   have b:valueAt (q :: qs) k = some q.2:=by simp [valueAt,List.find?_cons,e']
   rw [jig e,b]; exact h2
  ·have e':¬ q.1 = k:=fun z=>e (h1.trans z)
   have b:valueAt (q :: qs) k = valueAt qs k:=by simp [valueAt,List.find?_cons,e']
   rw [jih e,b]; exact ih
theorem KV.any {kvs:List (κ × V)} {vs:List (κ × Value)} (r:KV kvs vs) (k:κ):(kvs.any fun kv=>decide (kv.1 = k)) = vs.any fun kv=>decide (kv.1 = k):=by
 unfold KV at r
 induction r with
 | nil=>rfl
 | cons h t ih=>rw [List.any_cons,List.any_cons,ih,h.1]
theorem KV.repl {kvs:List (κ × V)} {vs:List (κ × Value)} (r:KV kvs vs) (k:κ) {y:V} {u:Value} (ry:RelV y u) :
  KV (kvs.map fun kv=>if kv.1 = k then (kv.1,y) else kv) (vs.map fun kv=>if kv.1 = k then (kv.1,u) else kv):=by
 unfold KV at r ⊢
 induction r with
 | nil=>exact .nil
 | @cons p q ps qs h t ih =>
  rw [List.map_cons,List.map_cons]
  refine .cons ?_ ih
  obtain ⟨h1,h2⟩:=h
  by_cases e:p.1 = k
  ·rw [if_pos e,if_pos (h1.symm.trans e)]; exact ⟨h1,ry⟩
  ·rw [if_neg e,if_neg (fun z=>e (h1.trans z))]; exact ⟨h1,h2⟩
theorem KV.put {kvs:List (κ × V)} {vs:List (κ × Value)} (r:KV kvs vs) (k:κ) {y:V} {u:Value} (ry:RelV y u):KV (putK kvs k y) (stored vs k u):=by
 unfold putK stored
 rw [r.any k]
 by_cases e:(vs.any fun kv=>decide (kv.1 = k)) = true
 ·rw [if_pos e,if_pos e]; exact r.repl k ry
 ·rw [if_neg e,if_neg e]; exact Paired.snoc r ⟨rfl,ry⟩
theorem KV.keys {kvs:List (κ × V)} {vs:List (κ × Value)} (r:KV kvs vs):kvs.map (·.1) = vs.map (·.1):=by
 unfold KV at r
 induction r with
 | nil=>rfl
 | cons h t ih=>rw [List.map_cons,List.map_cons,ih,h.1]
theorem KV.length {kvs:List (κ × V)} {vs:List (κ × Value)} (r:KV kvs vs):kvs.length = vs.length:=Paired.length r
end
theorem jkz {P:Program} {w:World} {k:Key} {u:Value} (r:RelV (kV k) u):(jc3 P w).is k u = true:=by
 cases k with
 | inl i=>obtain ⟨t,e⟩:=(show ∃ t,u = Value.int i t from r); subst e; exact jm6 P w i t
 | inr x=>obtain ⟨t,e⟩:=(show ∃ t,u = Value.str x t from r); subst e; exact jm5 P w x t
theorem jl0 {P:Program} {w:World}:∀ {ks:List Key} {us:List Value},Vals (ks.map kV) us->ItemsAre (jc3 P w) ks us
 | [],_,r=>by rw [List.map_nil] at r; cases r; exact .nil
 | k :: ks,_,r=>by
  rw [List.map_cons] at r
  cases r with
  | cons h t=>exact .cons (jkz h) (jl0 t)
abbrev KT (H:Hp):List (List Key × V)->List (List Key × Addr × Value)->Prop:=Paired fun p q=>p.1 = q.1/\H q.2.1 = some (.tup (p.1.map kV))/\RelV p.2 q.2.2
theorem KT.val {H:Hp} {kvs:List (List Key × V)} {xs:List (List Key × Addr × Value)} (r:KT H kvs xs) (k:List Key):RelO (valV kvs k) ((atKey xs k).map (·.2)):=by
 induction r with
 | nil=>exact True.intro
 | @cons p q ps qs h t ih =>
  obtain ⟨h1,_,h2⟩:=h
  by_cases e:p.1 = k
  ·have e':q.1 = k:=h1.symm.trans e
   have b:atKey (q :: qs) k = some q.2:=by simp [atKey,List.find?_cons,e']
   rw [jig e,b]; exact h2
  ·have e':¬ q.1 = k:=fun z=>e (h1.trans z)
   have b:atKey (q :: qs) k = atKey qs k:=by simp [atKey,List.find?_cons,e']
   rw [jih e,b]; exact ih
theorem KT.repl {H:Hp} {kvs:List (List Key × V)} {xs:List (List Key × Addr × Value)} (r:KT H kvs xs) (k:List Key) {y:V} {u:Value} (ry:RelV y u) :
  KT H (kvs.map fun kv=>if kv.1 = k then (kv.1,y) else kv) (xs.map (putAt k u)):=by
 induction r with
 | nil=>exact .nil
 | @cons p q ps qs h t ih =>
  rw [List.map_cons,List.map_cons]
  refine .cons ?_ ih
  obtain ⟨h1,h2,h3⟩:=h
  unfold putAt
  by_cases e:p.1 = k
  ·rw [if_pos e,if_pos (h1.symm.trans e)]; exact ⟨h1,h2,ry⟩
  ·rw [if_neg e,if_neg (fun z=>e (h1.trans z))]; exact ⟨h1,h2,h3⟩
theorem KT.put {H:Hp} {kvs:List (List Key × V)} {xs:List (List Key × Addr × Value)} (r:KT H kvs xs) (k:List Key) {b:Addr} {y:V} {u:Value} (hb:H b = some (.tup (k.map kV))) (ry:RelV y u) :
  KT H (putK kvs k y) (storedH xs k b u):=by
 have e:(kvs.any fun kv=>decide (kv.1 = k)) = (atKey xs k).isSome:=by
  rw [jii,(r.val k).isSome_eq,Option.isSome_map]
 unfold putK storedH
 rw [e]
 by_cases q:(atKey xs k).isSome = true
 ·rw [if_pos q,if_pos q]; exact r.repl k ry
 ·rw [if_neg q,if_neg q]; exact Paired.snoc r ⟨rfl,hb,ry⟩
theorem KT.keeps {H H':Hp} {kvs:List (List Key × V)} {xs:List (List Key × Addr × Value)} (r:KT H kvs xs) (ht:∀ b ys,H b = some (.tup ys)->H' b = some (.tup ys)):KT H' kvs xs :=
 Paired.mapP r fun _ _ z=>⟨z.1,ht _ _ z.2.1,z.2.2⟩
section
variable {P:Program} {w:World} {H:Hp} {h:Heap} {a:Addr}
theorem rd_of {u:HO} (ok:HOk P w H h) (e:Rd H a u):jcv P w H h a u:=e.ok ok
theorem jmg {kvs:List (Key × V)} (ok:HOk P w H h) (e:Rd H a (.dK kvs)):kvs.length <= sizeLine/\(a == sysModules) = false/\∃ vs,KV kvs vs/\h.DictOf (jc3 P w) a vs :=
 show jcv P w H h a (.dK kvs) from rd_of ok e
theorem jv0 {kvs:List (Key × V)} (ok:HOk P w H h) (e:H a = some (.dK kvs)):kvs.length <= sizeLine/\(a == sysModules) = false/\∃ vs,KV kvs vs/\h.DictOf (jc3 P w) a vs:=jmg ok (.inl e)
theorem jh8 {ks:List Key} (ok:HOk P w H h) (e:H a = some (.tup (ks.map kV))):(tupleKind (jc3 P w)).is h ks a:=by
 obtain ⟨_,its,r,o,h1,h2,n,h3⟩:=(show jcv P w H h a (.tup (ks.map kV)) from ok a _ e)
 exact ⟨o,its.toArray,n,h1,h2,h3,by simpa using jl0 r⟩
theorem jmf {kvs:List (List Key × V)} (ok:HOk P w H h) (e:Rd H a (.dT kvs)):kvs.length <= sizeLine/\(a == sysModules) = false /\
  ∃ xs,KT H kvs xs/\h.DictOfH (tupleKind (jc3 P w)) a xs:=by
 obtain ⟨z,y,xs,r,o,es,ep,h1,h2,h3,h4,h5⟩:=(show jcv P w H h a (.dT kvs) from rd_of ok e)
 refine ⟨z,y,xs,r,o,es,ep,h1,h2,h3,h4,fun x hx=>?_,h5⟩
 have all:∀ {l:List (List Key × V)} {m:List (List Key × Addr × Value)},KT H l m->∀ x ∈ m,(tupleKind (jc3 P w)).is h x.1 x.2.1:=by
  intro l m q
  induction q with
  | nil=>intro x hx; exact nomatch hx
  | @cons p q ps qs hq t ih =>
   intro x hx
   rcases List.mem_cons.mp hx with e | hx
   ·subst e
    exact jh8 ok (by rw [<- hq.1]; exact hq.2.1)
   ·exact ih x hx
 exact all r x hx
theorem dt_of {kvs:List (List Key × V)} (ok:HOk P w H h) (e:H a = some (.dT kvs)):kvs.length <= sizeLine/\(a == sysModules) = false /\
  ∃ xs,KT H kvs xs/\h.DictOfH (tupleKind (jc3 P w)) a xs:=jmf ok (.inl e)
end
def DGet (H:Hp) (a:Addr) (y:V) (r:Option V):Prop :=
 (∃ kvs k,Rd H a (.dK kvs)/\y = kV k/\r = valV kvs k) \/ ∃ kvs k b,Rd H a (.dT kvs)/\y = .ref b/\H b = some (.tup (k.map kV))/\r = valV kvs k
def DPut (H:Hp) (a:Addr) (y v:V) (H':Hp):Prop :=
 (∃ kvs k,H a = some (.dK kvs)/\y = kV k/\kvs.length < sizeLine/\H' = upd H a (.dK (putK kvs k v))) \/
 ∃ kvs k b,H a = some (.dT kvs)/\y = .ref b/\H b = some (.tup (k.map kV))/\kvs.length < sizeLine/\H' = upd H a (.dT (putK kvs k v))
theorem DGet.k {H:Hp} {a:Addr} {kvs:List (Key × V)} {k:Key} (e:H a = some (.dK kvs)):DGet H a (kV k) (valV kvs k):=.inl ⟨kvs,k,.inl e,rfl,rfl⟩
theorem DGet.t {H:Hp} {a b:Addr} {kvs:List (List Key × V)} {k:List Key} (e:H a = some (.dT kvs)) (eb:H b = some (.tup (k.map kV))):DGet H a (.ref b) (valV kvs k):=.inr ⟨kvs,k,b,.inl e,rfl,eb,rfl⟩
theorem DPut.k {H:Hp} {a:Addr} {kvs:List (Key × V)} {k:Key} {v:V} (e:H a = some (.dK kvs)) (hl:kvs.length < sizeLine):DPut H a (kV k) v (upd H a (.dK (putK kvs k v))):=.inl ⟨kvs,k,e,rfl,hl,rfl⟩
theorem DPut.t {H:Hp} {a b:Addr} {kvs:List (List Key × V)} {k:List Key} {v:V} (e:H a = some (.dT kvs)) (eb:H b = some (.tup (k.map kV))) (hl:kvs.length < sizeLine) :
  DPut H a (.ref b) v (upd H a (.dT (putK kvs k v))):=.inr ⟨kvs,k,b,e,rfl,eb,hl,rfl⟩
section
variable {X:Cx} {pins:List (Addr × Obj)} {σ:St} {H:Hp} {s:Shared} {a:Addr} {y v:V} {u r:Value} {o:Option V} {A:Around} {E:Value->Shared->Prop}
theorem Inv.big (I:Inv X pins σ H s):sysModules < s.heap.objs.size:=by
 have h:mainGlobals < s.heap.objs.size:=(I.mod.glob.keeps I.bk).lt
 exact Nat.lt_trans (by decide) h
theorem jqr {Q:Value->Shared->Prop} (hu:A.units + 1 < cLine) (I:Inv X pins σ H s) (g:DGet H a y (some v)) (ry:RelV y u) (h:∀ w' s',Inv X pins σ H s'->RelV v w'->Q w' s') :
  wpAny (model X.prog X.w) A (getItem (.ref a) u) Q E s:=by
 rcases g with ⟨kvs,k,e,ey,l⟩ | ⟨kvs,k,b,e,ey,eb,l⟩
 ·subst ey
  obtain ⟨z,hd,vs,rel,dd⟩:=jmg I.hok e
  obtain ⟨w',hw,rw'⟩:=RelO.some_of (v:=v) (o:=valueAt vs k) (by rw [l]; exact rel.val k)
  exact wpAny_getItem_of (jkz ry) dd.mapOf hw (h w' _ (I.tok _) rw')
 ·subst ey
  cases (show u = Value.ref b from ry)
  obtain ⟨z,hd,xs,rel,dd⟩:=jmf I.hok e
  obtain ⟨w',hw,rw'⟩:=RelO.some_of (v:=v) (o:=(atKey xs k).map (·.2)) (by rw [l]; exact rel.val k)
  obtain ⟨p,hp,hp2⟩:=Option.map_eq_some_iff.mp hw
  refine wpAny_getItem_heap (tupleKind_room_in1 hu) (jh8 I.hok eb) dd hp ?_
  rw [hp2]
  exact h w' _ (I.tok _) rw'
theorem dzc {Q:Value->Shared->Prop} (hu:A.units + 1 < cLine) (I:Inv X pins σ H s) (g:DGet H a y o) (ry:RelV y u) (h:∀ s',Inv X pins σ H s'->Q (.bool o.isSome) s') :
  wpAny (model X.prog X.w) A (compareOp .In u (.ref a)) Q E s:=by
 rcases g with ⟨kvs,k,e,ey,l⟩ | ⟨kvs,k,b,e,ey,eb,l⟩
 ·subst ey
  obtain ⟨z,hd,vs,rel,dd⟩:=jmg I.hok e
  refine wpAny_in_of (jkz ry) hd dd.mapOf ?_
  rw [<- (rel.val k).isSome_eq,<- l]
  exact h _ (I.tok _)
 ·subst ey
  cases (show u = Value.ref b from ry)
  obtain ⟨z,hd,xs,rel,dd⟩:=jmf I.hok e
  refine wpAny_in_heap (tupleKind_room_in1 hu) (jh8 I.hok eb) hd dd ?_
  have q:=(rel.val k).isSome_eq
  rw [Option.isSome_map] at q
  rw [<- q,<- l]
  exact h _ (I.tok _)
theorem jv4 {Q:Value->Shared->Prop} (hu:A.units + 1 < cLine) (I:Inv X pins σ H s) (g:DGet H a y o) (ry:RelV y u) (h:∀ s',Inv X pins σ H s'->Q (.bool (!o.isSome)) s') :
  wpAny (model X.prog X.w) A (compareOp .NotIn u (.ref a)) Q E s:=by
 rcases g with ⟨kvs,k,e,ey,l⟩ | ⟨kvs,k,b,e,ey,eb,l⟩
 ·subst ey
  obtain ⟨z,hd,vs,rel,dd⟩:=jmg I.hok e
  refine wpAny_notIn_of (jkz ry) hd dd.mapOf ?_
  rw [<- (rel.val k).isSome_eq,<- l]
  exact h _ (I.tok _)
 ·subst ey
  cases (show u = Value.ref b from ry)
  obtain ⟨z,hd,xs,rel,dd⟩:=jmf I.hok e
  refine wpAny_notIn_heap (tupleKind_room_in1 hu) (jh8 I.hok eb) hd dd ?_
  have q:=(rel.val k).isSome_eq
  rw [Option.isSome_map] at q
  rw [<- q,<- l]
  exact h _ (I.tok _)
theorem jmi {h':Heap} {t':Nat} {ob:HO} (I:Inv X pins σ H s) (mu:Mut (H a)) (hs:Heap.SameBut a s.heap h') (he:∃ q,h'.get? a = some q) (new:jcv X.prog X.w (upd H a ob) h' a ob) :
  Inv X pins σ (upd H a ob) { s with heap:=h',toks:=t' } :=
 I.write (x:=a) (e:=a) mu (.inl rfl) (fun b q hb z=>(hs.2 b hb).trans z) he new
theorem jqo {P:Program} {w:World} {H':Hp} {h':Heap} {kvs:List (Key × V)} {vs:List (Key × Value)} (z:kvs.length <= sizeLine) (hd:(a == sysModules) = false) (rel:KV kvs vs) (dd:h'.DictOf (jc3 P w) a vs) :
  jcv P w H' h' a (.dK kvs):=⟨z,hd,vs,rel,dd⟩
theorem jqq {H':Hp} {Q:Unit->Shared->Prop} (hu:A.units + 1 < cLine) (I:Inv X pins σ H s) (g:DPut H a y v H') (ry:RelV y u) (rv:RelV v r) (h:∀ s',Inv X pins σ H' s'->Q () s') :
  wpAny (model X.prog X.w) A (setItem (.ref a) u r) Q E s:=by
 rcases g with ⟨kvs,k,e,ey,l,eH⟩ | ⟨kvs,k,b,e,ey,eb,l,eH⟩
 ·subst ey eH
  obtain ⟨z,hd,vs,rel,dd⟩:=jv0 I.hok e
  have hz:vs.length <= sizeLine:=by rw [<- rel.length]; exact z
  have hl:(putK kvs k v).length <= sizeLine:=by have:=jen kvs k v; omega
  refine wpAny_setItem_pairs (hsz:=hz) (jkz ry) dd fun h' dd' hs=>h _ ?_
  have he:∃ q,h'.get? a = some q:=let ⟨q,_,_,hq,_⟩:=dd'; ⟨q,hq⟩
  exact jmi I (by rw [e]; exact True.intro) hs he (jqo hl hd (rel.put k rv) dd')
 ·subst ey eH
  cases (show u = Value.ref b from ry)
  obtain ⟨z,hd,xs,rel,dd⟩:=dt_of I.hok e
  have hz:xs.length <= sizeLine:=by rw [<- Paired.length rel]; exact z
  have hl:(putK kvs k v).length <= sizeLine:=by have:=jen kvs k v; omega
  refine wpAny_setItem_heap (hsz:=hz) (tupleKind_room_in1 hu) (jh8 I.hok eb) dd fun h' dd' hs=>h _ ?_
  obtain ⟨q,es,ep,hq,h2,h3,h4,_,h5⟩:=dd'
  refine jmi I (by rw [e]; exact True.intro) hs ⟨q,hq⟩ ⟨hl,hd,_,(rel.put k eb rv).keeps fun c ys ec=>?_,q,es,ep,hq,h2,h3,h4,h5⟩
  rw [jb7 (jm1 ec e (fun z=>nomatch z))]
  exact ec
end
section
variable {X:Cx} {pins:List (Addr × Obj)} {σ:St} {H:Hp} {s:Shared} {a:Addr} {kvs:List (Key × V)} {k:Key} {u:Value} {A:Around} {E:Value->Shared->Prop}
end
def NoSl (i:Expr):Prop:=∀ ov iv,subscripted i false ov iv = operate [ov,iv] (getItem ov iv)
theorem jtp {prog:Program} {w:World} {A:Around} {E:Value->Shared->Prop} {s:Shared} {env:Env} {value slice:Expr} {pos:Pos} {T id:String} {Q:Value->Shared->Prop}
  (hl:typeLookup (.type T) "__getitem__" = pure (some (.builtin id))) (hs:NoSl slice)
  (h:wpAny (model prog w) A (eval value env) (fun o s₁=>wpAny (model prog w) A (eval slice env) (fun i s₂=>s₂.TypeIs o T/\wpAny (model prog w) A (getItem o i) Q E s₂) E s₁) E s) :
  wpAny (model prog w) A (eval (.Subscript value slice pos) env) Q E s:=by
 refine Subscript_ (wpAny_mono h (fun o s₁ h₁=>wpAny_mono h₁ (fun i s₂ h₂=>?_) fun _ _ x=>x) fun _ _ x=>x)
 obtain ⟨hT,h₂⟩:=h₂
 unfold subscriptTail
 refine wpAny_bind ?_
 rw [getitemInPython_of_ne hT.not_modules]
 refine wpAny_bind (wpAny_specialOf hT hl ?_)
 have fin:wpAny (model prog w) A (subscripted slice false o i) (fun r s₃=>wpAny (model prog w) A (letTemporaryGo value o r >>= fun _=>pure r) Q E s₃) E s₂:=by
  rw [hs o i]
  exact wpAny_operating (wpAny_mono h₂ (fun r s₃ h₃=>wpAny_bind (wpAny_letTemporaryGo (wpAny_pure h₃))) fun _ _ x=>x)
 first
  | exact wpAny_pure (wpAny_bind fin)
  | exact wpAny_bind (wpAny_pure (wpAny_bind fin))
  | exact wpAny_bind fin
theorem jmh {X:Cx} {pins:List (Addr × Obj)} {σ:St} {H:Hp} {s:Shared} {a:Addr} {y:V} {o:Option V} (I:Inv X pins σ H s) (g:DGet H a y o):s.TypeIs (.ref a) "dict":=by
 rcases g with ⟨kvs,k,e,_,_⟩ | ⟨kvs,k,b,e,_,_,_⟩
 ·obtain ⟨_,_,vs,_,dd⟩:=jmg I.hok e
  exact dd.typeIs
 ·obtain ⟨_,_,xs,_,dd⟩:=jmf I.hok e
  exact dd.typeIs
section
variable {X:Cx} {o i e value:Expr} {pos pos' tpos:Pos} {td ty tv:TE}
end
theorem jnm {P:Program} {w:World} {H:Hp} (h:Heap) (hb:sysModules < h.objs.size):jcv P w H (h.push { cls:=.type "dict",data:=.dict #[] }) h.objs.size (.dK []) :=
 ⟨Nat.zero_le _,beq_eq_false_iff_ne.mpr (Ne.symm (Nat.ne_of_lt hb)),[],.nil,Heap.DictOf.new h⟩
def ja7:TE:=fun _ H Q=>∀ p,H p = none->Q (.ref p) (upd H p (.dK []))
section
variable {X:Cx} {pos:Pos}
theorem jrp:PE X (.Dict [] [] pos) ja7:=fun pins s σ H Q I h =>
 wpAny_Dict_empty ⟨.ref s.heap.objs.size,_,I.laid (a:=s.heap.objs.size) (o:=.dK []) (t':=s.toks) (fun _ _ q=>Heap.get?_push_of_some _ q) (Nat.le_refl _) (jnm s.heap I.big),rfl,h _ (I.hok.fresh (Nat.le_refl _))⟩
end
def jos:List (TE × TE)->St->Hp->(List (V × V)->Hp->Prop)->Prop
 | [],_,H,Q=>Q [] H
 | (tk,tv) :: r,σ,H,Q=>tk σ H fun x H1=>tv σ H1 fun y H2=>jos r σ H2 fun ps H3=>Q ((x,y) :: ps) H3
abbrev VV:List (V × V)->List (Value × Value)->Prop:=Paired fun p q=>RelV p.1 q.1/\RelV p.2 q.2
def PPs (X:Cx) (pos:Pos) (keys:List (Option Expr)) (values:List Expr) (trs:List (TE × TE)):Prop :=
 ∀ (pins:List (Addr × Obj)) (s:Shared) (σ:St) (H:Hp) (Q:List (V × V)->Hp->Prop),Inv X pins σ H s->jos trs σ H Q ->
  wpAny (model X.prog X.w) X.A (evalPairs (pairTrees keys values X.env pos)) (fun vs s'=>∃ ps H',Inv X pins σ H' s'/\VV ps vs/\Q ps H') X.xe s
theorem ju1 {X:Cx} {pos:Pos}:PPs X pos [] [] []:=fun pins s σ H Q I h=>pairTrees_nil_walk ⟨[],H,I,.nil,h⟩
theorem jrk {X:Cx} {pos:Pos} {k v:Expr} {ks:List (Option Expr)} {vs:List Expr} {tk tv:TE} {trs:List (TE × TE)} (hk:PE X k tk) (hv:PE X v tv) (hr:PPs X pos ks vs trs) :
  PPs X pos (some k :: ks) (v :: vs) ((tk,tv) :: trs):=fun pins s σ H Q I h =>
 pairTrees_cons_walk (thn (hk pins s σ H _ I h) fun u s1 ⟨x,H1,I1,rx,q1⟩=>thn (hv pins s1 σ H1 _ I1 q1) fun w2 s2 ⟨y,H2,I2,ry,q2⟩ =>
  thn (hr pins s2 σ H2 _ I2 q2) fun ws s3 ⟨ps,H3,I3,rel,q3⟩=>⟨(x,y) :: ps,H3,I3,.cons ⟨rx,ry⟩ rel,q3⟩)
def jks (kvs more:List (Key × V)):List (Key × V):=more.foldl (fun acc kv=>putK acc kv.1 kv.2) kvs
theorem KV.merge:∀ {more:List (Key × V)} {rs:List (Key × Value)} {kvs:List (Key × V)} {vs:List (Key × Value)},KV more rs->KV kvs vs->KV (jks kvs more) (merged vs rs):=by
 intro more rs kvs vs r
 unfold KV at r
 induction r generalizing kvs vs with
 | nil=>intro q; exact q
 | @cons p q ps qs h t ih =>
  intro r0
  have e:KV (putK kvs p.1 p.2) (stored vs q.1 q.2):=by
   have:=r0.put p.1 h.2
   rw [<- h.1]; exact this
  exact ih e
theorem jf0:∀ (more kvs:List (Key × V)),(jks kvs more).length <= kvs.length + more.length
 | [],kvs=>by show kvs.length <= kvs.length + 0; omega
 | p :: r,kvs=>by
  have h1:=jf0 r (putK kvs p.1 p.2)
  have h2:=jen kvs p.1 p.2
  show (jks (putK kvs p.1 p.2) r).length <= _
  rw [List.length_cons]; omega
theorem jia {P:Program} {w:World}:∀ {kvs:List (Key × V)} {ws:List (Value × Value)},VV (kvs.map fun kv=>(kV kv.1,kv.2)) ws->∃ rs,Carries (jc3 P w) ws rs/\KV kvs rs
 | [],_,r=>by rw [List.map_nil] at r; cases r; exact ⟨[],True.intro,.nil⟩
 | p :: kvs,_,r=>by
  rw [List.map_cons] at r
  cases r with
  | @cons a b as bs h t =>
   obtain ⟨rs,c,q⟩:=jia (P:=P) (w:=w) t
   obtain ⟨b1,b2⟩:=b
   exact ⟨(p.1,b2) :: rs,⟨jkz h.1,rfl,c⟩,.cons ⟨rfl,h.2⟩ q⟩
def tDisp (trs:List (TE × TE)):TE:=fun σ H Q=>∀ p,H p = none->jos trs σ (upd H p (.dK [])) fun ps H2=>H2 p = some (.dK [])/\∃ kvs:List (Key × V),ps = kvs.map (fun kv=>(kV kv.1,kv.2))/\kvs.length <= 15/\Q (.ref p) (upd H2 p (.dK (jks [] kvs)))
theorem ju7 {X:Cx} {pos:Pos} {keys:List (Option Expr)} {values:List Expr} {trs:List (TE × TE)} (h:PPs X pos keys values trs) (hall:keys.all (·.isSome) = true) (hl:keys.length = values.length) (h0:keys ≠ [])
  (h15:keys.length <= 15):PE X (.Dict keys values pos) (tDisp trs):=by
 intro pins s σ H Q I q
 have hn:=I.hok.fresh (Nat.le_refl s.heap.objs.size)
 have I1:=I.laid (a:=s.heap.objs.size) (o:=.dK []) (h':=s.heap.push { cls:=.type "dict",data:=.dict #[] }) (t':=s.toks) (fun _ _ q=>Heap.get?_push_of_some _ q) (Nat.le_refl _) (jnm s.heap I.big)
 refine wpAny_Dict_walk (knd:=jc3 X.prog X.w) hall hl h0 h15 (thn (h pins _ σ _ _ I1 (q _ hn)) fun ws s2 ⟨ps,H2,I2,rel,e,kvs,ep,lk,q2⟩=>?_)
 subst ep
 obtain ⟨rs,c,rk⟩:=jia (P:=X.prog) (w:=X.w) rel
 obtain ⟨z,hd,vs0,r0,dd⟩:=jv0 I2.hok e
 cases r0
 refine ⟨rs,c,dd,fun h' dd' hs=>⟨.ref s.heap.objs.size,_,?_,rfl,q2⟩⟩
 have hz:(jks [] kvs).length <= sizeLine:=by
  have h1:=jf0 kvs []
  rw [List.length_nil] at h1
  rw [sizeLine_eq]; omega
 have he:∃ q,h'.get? s.heap.objs.size = some q:=let ⟨q,_,_,hq,_⟩:=dd'; ⟨q,hq⟩
 exact jmi I2 (by rw [e]; exact True.intro) hs he (jqo hz hd (rk.merge .nil) dd')
structure M1 (X:Cx) (o:Expr) (m:Str) (apos:Pos) (e:Expr) (cpos:Pos):Prop where
 base:attributeBase o m X.env (eval o X.env) = eval o X.env
 few:((backTo cpos (starEach [e] X.env)).all (fun x=>!x.1) && (backToKw cpos (keywordEach [] X.env)).all (fun x=>x.1.isSome)
  && decide (([e]:List Expr).length + ([]:List Keyword).length + (if ([]:List Keyword).isEmpty then 0 else 1) < 30)) = true
 line:(apos.endLine == cpos.line) = true
 trees:backTo cpos (starEach [e] X.env) = [(false,eval e X.env)]
def IsD (H:Hp) (a:Addr):Prop:=(∃ kvs,Rd H a (.dK kvs)) \/ ∃ kvs,Rd H a (.dT kvs)
theorem isD_at {X:Cx} {pins:List (Addr × Obj)} {σ:St} {H:Hp} {s:Shared} {a:Addr} (I:Inv X pins σ H s) (d:IsD H a) :
  s.TypeIs (.ref a) "dict"/\(∀ b,Value.ref a = .ref b->∃ ob,s.heap.get? b = some ob/\ob.dict = none)/\(a == sysModules) = false:=by
 rcases d with ⟨kvs,e⟩ | ⟨kvs,e⟩
 ·obtain ⟨_,hd,vs,_,dd⟩:=jmg I.hok e
  refine ⟨dd.typeIs,fun b q=>?_,hd⟩
  cases q
  obtain ⟨ob,_,_,h1,h2,_⟩:=dd
  exact ⟨ob,h1,h2.2.1⟩
 ·obtain ⟨_,hd,xs,_,dd⟩:=jmf I.hok e
  refine ⟨dd.typeIs,fun b q=>?_,hd⟩
  cases q
  obtain ⟨ob,_,_,h1,h2,_⟩:=dd
  exact ⟨ob,h1,h2.2.1⟩
section
variable {X:Cx} {pins:List (Addr × Obj)} {σ:St} {H:Hp} {s:Shared} {a:Addr} {y d:V} {u r:Value} {o:Option V} {A:Around} {E:Value->Shared->Prop}
theorem dzb {Q:Value->Shared->Prop} (hu:A.units + 1 < cLine) (I:Inv X pins σ H s) (g:DGet H a y o) (ry:RelV y u) (h:∀ w' s',Inv X pins σ H s'->RelV (o.getD .non) w'->Q w' s') :
  wpAny (model X.prog X.w) A (call (.builtin "dict.get") [.ref a,u]) Q E s:=by
 rcases g with ⟨kvs,k,e,ey,l⟩ | ⟨kvs,k,b,e,ey,eb,l⟩
 ·subst ey
  obtain ⟨z,hd,vs,rel,dd⟩:=jmg I.hok e
  refine call_meetsIn PySem.F.slot_dict_get dd.typeIs PySem.F.entry_dict_get (PySem.F.args_dict_get_2 _ _) (meets_dict_get (jc3 X.prog X.w) a (jkz ry) hd) ⟨_,dd.mapOf,h _ _ (I.tok _) ?_⟩
  rw [l]
  exact (rel.val k).getD rfl
 ·subst ey
  cases (show u = Value.ref b from ry)
  obtain ⟨z,hd,xs,rel,dd⟩:=jmf I.hok e
  refine call_meetsIn PySem.F.slot_dict_get dd.typeIs PySem.F.entry_dict_get (PySem.F.args_dict_get_2 _ _) (meetsH_dict_get (tupleKind (jc3 X.prog X.w)) a b hd) ⟨tupleKind_room_in1 hu,k,xs,jh8 I.hok eb,dd,h _ _ (I.tok _) ?_⟩
  rw [l]
  exact (rel.val k).getD rfl
end
section
variable {X:Cx} {o e f:Expr} {apos cpos:Pos} {td ty tx:TE}
end
section
variable {X:Cx} {pins:List (Addr × Obj)} {σ:St} {H:Hp} {s:Shared} {a:Addr} {kvs:List (Key × V)} {A:Around} {E:Value->Shared->Prop}
end
section
variable {X:Cx} {pins:List (Addr × Obj)} {σ:St} {H:Hp} {s:Shared} {a:Addr} {y:V} {u:Value} {A:Around} {E:Value->Shared->Prop}
end
section
variable {κ:Type} [DecidableEq κ]
end
def jcu (env:Env):List (Str × NameKind)->List (Str × Addr)->List (Str × Addr)
 | [],acc=>acc
 | (n,k) :: r,acc=>jcu env r (if k == .free then (n,(env.cells.lookup n).getD 0) :: acc else acc)
theorem jdq {scope:Scope} {env:Env} (h:∀ y ∈ scope.names,y.2 = .free->∃ c,env.cells.lookup y.1 = some c) :
    closureFor scope env = pure (jcu env scope.names []):=by
  have key:∀ (l:List (Str × NameKind)) (acc:List (Str × Addr)),(∀ y ∈ l,y.2 = .free->∃ c,env.cells.lookup y.1 = some c) ->
      (forIn l acc fun (x:Str × NameKind) (r:List (Str × Addr)) =>
        (if x.2 == NameKind.free then do
          let c <- cellOf env x.1
          pure (ForInStep.yield ((x.1,c) :: r))
        else pure (ForInStep.yield r):Sem (ForInStep (List (Str × Addr))))) = pure (jcu env l acc):=by
    intro l
    induction l with
    | nil=>intro acc _; rfl
    | cons y r ih =>
      intro acc hy
      obtain ⟨n,k⟩:=y
      rw [List.forIn_cons]
      by_cases hk:k = .free
      · subst hk
        obtain ⟨c,hc⟩:=hy (n,.free) List.mem_cons_self rfl
        have e1:cellOf env n = pure c:=by unfold cellOf; rw [hc]
        simp only [beq_self_eq_true,if_true]
        rw [e1]
        show (pure c >>= fun c=>pure (ForInStep.yield ((n,c) :: acc))) >>= _ = _
        have e2:jcu env ((n,NameKind.free) :: r) acc = jcu env r ((n,c) :: acc):=by
          have hc':env.cells.lookup n = some c:=hc
          show jcu env r (if (NameKind.free == NameKind.free) = true then (n,(env.cells.lookup n).getD 0) :: acc else acc) = _
          rw [hc']
          rfl
        rw [e2]
        exact ih _ fun z hz=>hy z (List.mem_cons_of_mem _ hz)
      · have hb:(k == NameKind.free) = false:=by simpa using hk
        simp only [hb,Bool.false_eq_true,if_false]
        have e2:jcu env ((n,k) :: r) acc = jcu env r acc:=by
          show jcu env r (if (k == NameKind.free) = true then _ else acc) = _
          rw [hb]; rfl
        rw [e2]
        exact ih _ fun z hz=>hy z (List.mem_cons_of_mem _ hz)
  unfold closureFor
  have e:=key scope.names [] h
  have e3:∀ (f:Str × NameKind->List (Str × Addr)->Sem (ForInStep (List (Str × Addr)))),(f = fun x r=>(if x.2 == NameKind.free then do
          let c <- cellOf env x.1
          pure (ForInStep.yield ((x.1,c) :: r))
        else pure (ForInStep.yield r)))->(forIn scope.names [] f >>= fun r=>pure r) = (pure (jcu env scope.names []):Sem (List (Str × Addr))):=by
    intro f hf
    rw [hf,e]
    rfl
  exact e3 _ rfl
theorem jf6 {env:Env} {x:Str}:∀ (l:List (Str × NameKind)) (acc:List (Str × Addr)) (c:Addr),(jcu env l acc).lookup x = some c ->
  ((∃ y ∈ l,y.1 = x/\y.2 = .free)/\(env.cells.lookup x).getD 0 = c) \/ acc.lookup x = some c
 | [],acc,c,h=>.inr h
 | (n,k) :: r,acc,c,h=>by
  rcases jf6 r _ c h with ⟨⟨y,hy,e⟩,q⟩ | q
  ·exact .inl ⟨⟨y,List.mem_cons_of_mem _ hy,e⟩,q⟩
  ·by_cases hk:k = .free
   ·subst hk
    have q':List.lookup x ((n,(env.cells.lookup n).getD 0) :: acc) = some c:=q
    rw [List.lookup_cons] at q'
    cases hx:x == n with
    | true =>
     rw [hx] at q'
     have hx':x = n:=by simpa using hx
     subst hx'
     exact .inl ⟨⟨_,List.mem_cons_self,rfl,rfl⟩,Option.some.inj q'⟩
    | false=>rw [hx] at q'; exact .inr q'
   ·have hb:(k == NameKind.free) = false:=by simpa using hk
    rw [hb] at q
    exact .inr q
theorem jfn {env:Env} {x:Str}:∀ (l:List (Str × NameKind)) (acc:List (Str × Addr)),((∃ y ∈ l,y.1 = x/\y.2 = .free) \/ (acc.lookup x).isSome)->((jcu env l acc).lookup x).isSome
 | [],acc,h=>by
  rcases h with ⟨y,hy,_⟩ | h
  ·cases hy
  ·exact h
 | (n,k) :: r,acc,h=>by
  show ((jcu env r (if (k == NameKind.free) = true then _ else acc)).lookup x).isSome
  refine jfn r _ ?_
  rcases h with ⟨y,hy,e1,e2⟩ | h
  ·rcases List.mem_cons.mp hy with rfl | hy
   ·have e2':k = .free:=e2
    have e1':n = x:=e1
    subst e2' e1'
    refine .inr ?_
    simp [List.lookup_cons]
   ·exact .inl ⟨y,hy,e1,e2⟩
  ·refine .inr ?_
   split
   ·rw [List.lookup_cons]
    split
    ·rfl
    ·exact h
   ·exact h
structure CpScope (X:Cx) (scope:Scope) (N:List Str) (src:List (Option Nat)):Prop where
 kind:scope.kind = .function
 nocell:∀ y ∈ scope.names,y.2 ≠ .cell
 locs:∀ y ∈ scope.names,y.2 = .local->scope.names.lookup y.1 = some .local
 frees:∀ y ∈ scope.names,y.2 = .free->scope.names.lookup y.1 = some .free/\X.env.scope.names.lookup y.1 = some .cell
 nd:N.Nodup
 len:src.length = N.length
 cap:∀ (i j:Nat),src[i]? = some (some j)->X.N[j]? = N[i]?/\(N[i]?).elim False (fun x=>scope.names.lookup x = some .free)
def cst (src:List (Option Nat)) (σ:St):St:=src.map fun o=>o.bind fun j=>(σ[j]?).join
theorem jdb {env:Env} (hk:env.scope.kind = .function):∀ {names:List (Str × NameKind)} {x:Str},names.lookup x = some .free->env.kindOf x = some .cell ->
  (names.map fun (n,k)=>if (k == NameKind.free && env.scope.kind == .function && env.kindOf n == some .cell) then (n,NameKind.cell) else (n,k)).lookup x = some .cell
 | [],_,h,_=>by simp at h
 | (n,k) :: r,x,h,hc=>by
  have ih:=@jdb env hk r x
  show List.lookup x ((if (k == NameKind.free && env.scope.kind == .function && env.kindOf n == some .cell) = true then (n,NameKind.cell) else (n,k)) :: _) = _
  cases hx:x == n with
  | true =>
   simp only [List.lookup_cons,hx] at h
   cases h
   have hx':x = n:=by simpa using hx
   subst hx'
   rw [if_pos (by rw [hk,hc]; rfl)]
   simp [List.lookup_cons]
  | false =>
   simp only [List.lookup_cons,hx] at h
   by_cases hq:(k == NameKind.free && env.scope.kind == .function && env.kindOf n == some .cell) = true
   ·rw [if_pos hq]; simp only [List.lookup_cons,hx]; exact ih h hc
   ·rw [if_neg hq]; simp only [List.lookup_cons,hx]; exact ih h hc
theorem jcr {env:Env}:∀ {names:List (Str × NameKind)} {x:Str} {k':NameKind},
  (names.map fun (n,k)=>if (k == NameKind.free && env.scope.kind == .function && env.kindOf n == some .cell) then (n,NameKind.cell) else (n,k)).lookup x = some k' ->
   names.lookup x = some k' \/ (names.lookup x = some .free/\k' = .cell)
 | [],_,_,h=>by simp at h
 | (n,k) :: r,x,k',h=>by
  have ih:=@jcr env r x k'
  have h:List.lookup x ((if (k == NameKind.free && env.scope.kind == .function && env.kindOf n == some .cell) = true then (n,NameKind.cell) else (n,k)) :: _) = _:=h
  cases hx:x == n with
  | true =>
   by_cases hq:(k == NameKind.free && env.scope.kind == .function && env.kindOf n == some .cell) = true
   ·rw [if_pos hq] at h
    have h1:=h
    simp only [List.lookup_cons,hx]
    have:k = .free:=by
     have:=(Bool.and_eq_true _ _ ▸ (Bool.and_eq_true _ _ ▸ hq).1).1
     simpa using this
    subst this
    refine .inr ⟨rfl,?_⟩
    have h2:List.lookup x ((n,NameKind.cell) :: (r.map fun (n,k)=>if (k == NameKind.free && env.scope.kind == .function && env.kindOf n == some .cell) then (n,NameKind.cell) else (n,k))) = some k':=h1
    simp only [List.lookup_cons,hx] at h2
    exact (Option.some.inj h2).symm
   ·rw [if_neg hq] at h
    simp only [List.lookup_cons,hx] at h ⊢
    exact .inl h
  | false =>
   have h':List.lookup x (r.map fun (n,k)=>if (k == NameKind.free && env.scope.kind == .function && env.kindOf n == some .cell) then (n,NameKind.cell) else (n,k)) = some k':=by
    by_cases hq:(k == NameKind.free && env.scope.kind == .function && env.kindOf n == some .cell) = true
    ·rw [if_pos hq] at h
     simpa only [List.lookup_cons,hx] using h
    ·rw [if_neg hq] at h
     simpa only [List.lookup_cons,hx] using h
   simp only [List.lookup_cons,hx]
   exact ih h'
def Cx.block (X:Cx) (scope:Scope) (N:List Str) (fp:List Addr) (s₀:Shared) (H₀:Hp) (C:Addr):Cx where
 prog:=X.prog
 w:=X.w
 K:=X.K
 mg:=X.mg
 base:=X.base
 A:=X.A
 N:=N
 s₀:=s₀
 H₀:=H₀
 env:=compEnvC scope (jcu X.env scope.names []) C X.env
 outer:=X.stack
 stack:=X.stack
 ex:=fp
 calm:=X.calm
 fn:=fun _=>false
 pn:=[]
 xe:=fun _ _=>False
theorem jqd {o:Option (Option V)} {v:V} (h:o.join = some v):o = some (some v):=by
 cases o with
 | none=>cases h
 | some z=>cases z with
  | none=>cases h
  | some z=>rw [show z = v from Option.some.inj h]
theorem Inv.enter {X:Cx} {scope:Scope} {N:List Str} {src:List (Option Nat)} {pins:List (Addr × Obj)} {σ:St} {H:Hp} {s s4:Shared} {fp:List Addr} (S:CpScope X scope N src) (I:Inv X pins σ H s)
  (f2:∀ b ∈ fp,FpOk X pins H b) (lt:∀ b ∈ fp,b < s.heap.objs.size) (hns:s4.heap.Ns s.heap.objs.size fun _=>none) (hk:∀ b o,s.heap.get? b = some o->s4.heap.get? b = some o) (hos:s4.os = s.os) (hg:s4.gens = s.gens) :
  Inv (X.block scope N fp s H s.heap.objs.size) [] (cst src σ) H s4:=by
 have cells:∀ x c,(jcu X.env scope.names []).lookup x = some c->X.env.cells.lookup x = some c:=fun x c e=>by
  rcases jf6 _ _ _ e with ⟨⟨y,hy,e1,e2⟩,q⟩ | q
  ·obtain ⟨c',hc'⟩:=I.ok.has y.1 (.inl (S.frees y hy e2).2)
   rw [e1] at hc'
   rw [hc'] at q ⊢
   exact congrArg some q
  ·cases q
 refine ⟨⟨I.mod,S.kind,I.ok.glob,I.ok.blt,Nat.le_refl _,fun x y c h1 h2=>I.ok.inj x y c (cells x c h1) (cells y c h2),fun x hx=>?_,fun x c h=>absurd (show false = true from h) Bool.false_ne_true,I.ok.hd,I.ok.frames,.inl rfl,fun b hb=>?_,I.bs,
   Nat.le_trans I.ok.bsz I.sz,fun b o e hb=>?_,fun b hb z=>?_,I.stack,I.stkFree⟩,hos,?_,Un.kept hk,⟨fun _=>none,hns,fun i x v h1 h2 h3=>?_⟩,fun x c e=>?_,I.fresh,fun x c e=>I.freeC x c (cells x c e),fun p hp=>?_,I.hok.kept hk,?_⟩
 ·have hx':(scope.names.map fun (n,k)=>if (k == NameKind.free && X.env.scope.kind == .function && X.env.kindOf n == some .cell) then (n,NameKind.cell) else (n,k)).lookup x = some .cell \/ (scope.names.map fun (n,k)=>if (k == NameKind.free && X.env.scope.kind == .function && X.env.kindOf n == some .cell) then (n,NameKind.cell) else (n,k)).lookup x = some .free:=hx
  have hf:scope.names.lookup x = some .free:=by
   rcases hx' with h | h
   ·rcases jcr h with h | h
    ·exact absurd rfl (S.nocell _ (PySem.mem_of_lookup h))
    ·exact h.1
   ·rcases jcr h with h | h
    ·exact h
    ·cases h.2
  have hsome:=jfn (env:=X.env) (x:=x) scope.names [] (.inl ⟨_,PySem.mem_of_lookup hf,rfl,rfl⟩)
  exact Option.isSome_iff_exists.mp hsome
 ·exact ⟨Nat.ne_of_lt (lt b hb),fun x c e=>(f2 b hb).2.2.2.2.1 x c (cells x c e)⟩
 ·have hb':b ∈ fp:=hb
  rcases (f2 b hb').2.2.2.1 with z | z
  ·exact I.ok.noex b o e z
  ·exact absurd (Nat.lt_of_lt_of_le (Heap.lt_size e) (Nat.le_trans I.ok.bsz z)) (Nat.lt_irrefl _)
 ·have hb':b ∈ fp:=hb
  have z':b ∈ frs X.stack:=z
  rcases List.mem_cons.mp (I.stkSub b z') with e | e
  ·exact (f2 b hb').2.1 e
  ·exact (f2 b hb').2.2.1 e
 ·rw [hg]; exact I.bare
 ·have h2':(src.map fun o=>o.bind fun j=>(σ[j]?).join)[i]? = some (some v):=h2
  rw [List.getElem?_map] at h2'
  cases e:src[i]? with
  | none=>rw [e] at h2'; cases h2'
  | some o =>
   rw [e] at h2'
   cases o with
   | none=>cases h2'
   | some j =>
    have h4:(σ[j]?).join = some v:=Option.some.inj h2'
    have h5:=jqd h4
    obtain ⟨c1,c2⟩:=S.cap i j e
    have h1':N[i]? = some x:=h1
    rw [h1'] at c1 c2
    have c2':scope.names.lookup x = some .free:=c2
    have c3:=(S.frees _ (PySem.mem_of_lookup c2') rfl).2
    obtain ⟨m,hn,hl⟩:=I.loc
    obtain ⟨u,r,l⟩:=hl j x v c1 h5 (.inr (.inl c3))
    refine ⟨u,r,?_⟩
    have c3':X.env.kindOf x = some .cell:=c3
    rcases l with ⟨k,_⟩ | ⟨_,c,e1,z⟩
    ·rw [c3'] at k; cases k
    ·refine .inr ⟨.inl (jdb I.ok.kind c2' c3'),c,?_,?_⟩
     ·have hs:=jfn (env:=X.env) (x:=x) scope.names [] (.inl ⟨_,PySem.mem_of_lookup c2',rfl,rfl⟩)
      obtain ⟨c',hc'⟩:=Option.isSome_iff_exists.mp hs
      have:=cells x c' hc'
      rw [e1] at this
      cases this
      exact hc'
     ·obtain ⟨o,ho,hd⟩:=z
      exact ⟨o,hk c o ho,hd⟩
 ·obtain ⟨v,o,ho,hd⟩:=I.cell x c (cells x c e)
  exact ⟨v,o,hk c o ho,hd⟩
 ·exact absurd (show p ∈ ([]:List (Addr × Obj)) from hp) (by simp)
 ·show (src.map _).length = N.length
  rw [List.length_map]
  exact S.len
def PIf (X:Cx) (ifs:List Expr) (t:TT):Prop :=
 ∀ (pins:List (Addr × Obj)) (s:Shared) (σ:St) (H:Hp) (Q:Bool->Hp->Prop),Inv X pins σ H s->t σ H Q ->
  wpAny (model X.prog X.w) X.A (forIn ifs true fun c r=>if r = true then do let ok <- isTrue c X.env (eval c X.env); pure (ForInStep.yield ok) else pure (ForInStep.yield r)) (TP X pins σ Q) X.xe s
def jav:TT:=fun _ H Q=>Q true H
theorem jch {X:Cx}:PIf X [] jav:=fun pins s σ H Q I h=>wpAny_tests_nil ⟨H,I,h⟩
theorem jcs {X:Cx} {c:Expr} {t:TT} (h:PT X c t):PIf X [c] t:=fun pins s σ H Q I hq=>wpAny_tests_one (h pins s σ H Q I hq)
def jr2 (J:It) (src:List (Option Nat)) (g:TG) (tc:TT) (te:TE) (Q:VK) (σ:St) (H:Hp) (l:Addr):Prop :=
 ∃ W:Nat->Nat->St->Hp->Prop,(∃ m,W 0 m (cst src σ) (upd H l (.lst [])))/\∀ i m σ' H,W i m σ' H ->
  (J.stop i H/\Q (.ref l) H) \/ (J.go i H/\∃ N:St->Hp->Prop,(∀ σ' H',N σ' H'->∃ m',m' < m/\W (i + 1) m' σ' H')/\∀ x H',J.yld i H x H'->g x σ' H' fun σ2 H2=>tc σ2 H2 fun b H3 =>
   if b = true then te σ2 H3 fun v H4=>∃ xs,H4 l = some (.lst xs)/\xs.length < sizeLine/\N σ2 (upd H4 l (.lst (xs ++ [v]))) else N σ2 H3)
theorem jbn {J:It} {src:List (Option Nat)} {g:TG} {tc:TT} {te:TE} {Q:VK} {σ:St} {H:Hp} {l:Addr} (n:Nat) (Iv:Nat->St->Hp->Prop) (h0:Iv 0 (cst src σ) (upd H l (.lst [])))
  (hs:∀ i σ' Hc,i < n->Iv i σ' Hc->J.go i Hc/\∀ x H',J.yld i Hc x H'->g x σ' H' fun σ2 H2=>tc σ2 H2 fun b H3 =>
   if b = true then te σ2 H3 fun v H4=>∃ xs,H4 l = some (.lst xs)/\xs.length < sizeLine/\Iv (i + 1) σ2 (upd H4 l (.lst (xs ++ [v]))) else Iv (i + 1) σ2 H3)
  (hd:∀ σ' Hc,Iv n σ' Hc->J.stop n Hc/\Q (.ref l) Hc):jr2 J src g tc te Q σ H l:=by
 refine ⟨fun i m σ' Hc=>m = n - i/\i <= n/\Iv i σ' Hc,⟨n,by simp,Nat.zero_le _,h0⟩,?_⟩
 rintro i m σ' Hc ⟨rfl,hi,p⟩
 by_cases hlt:i < n
 ·obtain ⟨go,step⟩:=hs i σ' Hc hlt p
  exact .inr ⟨go,Iv (i + 1),fun σ2 H2 p'=>⟨n - (i + 1),by omega,rfl,hlt,p'⟩,step⟩
 ·have e:i = n:=by omega
  subst e
  exact .inl (hd σ' Hc p)
theorem jl5 {X:Cx} {elt tg iter:Expr} {ifs:List Expr} {scope:Scope} {pos:Pos} {N:List Str} {src:List (Option Nat)} {g:TG} {tc:TT} {te:TE} {pins:List (Addr × Obj)} {σ:St} {H2:Hp} {s2:Shared}
  {fp:List Addr} {it:Addr} {tn:Nat->Heap->Prop} {J:It} {Q:VK} {E:Value->Shared->Prop} {RR:Value->Addr->Result->Shared->Prop} (S:CpScope X scope N src) (hc:X.calm = true)
  (hg:∀ fp s₀ H₀ C,PG (X.block scope N fp s₀ H₀ C) tg g) (ht:∀ fp s₀ H₀ C,PIf (X.block scope N fp s₀ H₀ C) ifs tc) (he:∀ fp s₀ H₀ C,PE (X.block scope N fp s₀ H₀ C) elt te)
  (I2:Inv X pins σ H2 s2) (T:Turn X.prog X.w X.K tg J fp it tn) (st2:tn 0 s2.heap) (f2:∀ b ∈ fp,FpOk X pins H2 b) (hw:∀ l,H2 l = none->jr2 J src g tc te Q σ H2 l)
  (hRR:∀ l C H' s',Inv X pins σ H' s'->(∃ m,s'.heap.Ns C m)->FpOk X pins H' C->Q (.ref l) H'->RR (.ref l) C (.ok .next) s') :
  wpAny (model X.prog X.w) X.A (newList []) (fun acc s₃=>wpAny (model X.prog X.w) X.A (newFunctionEnv scope X.env.globals (jcu X.env scope.names []) [] X.env.qual none .none (some X.env)) (fun cenv s₄ =>
   codeAny (model X.prog X.w) X.A (.compStart (.ListComp elt [⟨tg,iter,ifs,0⟩] scope pos) 0 (.ref it) acc { cenv with scope:=relabel scope X.env }) (RR acc cenv.locals) s₄) E s₃) E s2:=by
 have hl0:H2 s2.heap.objs.size = none:=I2.fresh
 have I3:Inv X pins σ (upd H2 s2.heap.objs.size (.lst [])) { s2 with heap:=s2.heap.push { cls:=.type "list",data:=.seq ([]:List Value).toArray } }:=I2.lnew (ys:=[]) (its:=[]) (t':=s2.toks) .nil (Nat.zero_le _)
 have ltf:∀ b ∈ fp,b < s2.heap.objs.size:=fun b hb=>by
  obtain ⟨o,e,_⟩:=T.obj _ _ st2 b hb
  exact Heap.lt_size e
 have f3:∀ b ∈ fp,FpOk X pins (upd H2 s2.heap.objs.size (.lst [])) b:=fun b hb=>⟨by rw [jb7 (Nat.ne_of_lt (ltf b hb))]; exact (f2 b hb).1,(f2 b hb).2⟩
 obtain ⟨W,⟨m0,w0⟩,turn⟩:=hw _ hl0
 refine wpAny_newObj_type (wpAny_newFunctionEnv S.nocell (by intro y hy; simp at hy) (fun h₁ hns₁ hsb₁=>?_) S.kind)
 dsimp only at hns₁ hsb₁ ⊢
 revert I3 f3
 intro I3 f3
 have st1:tn 0 (s2.heap.push { cls:=.type "list",data:=.seq ([]:List Value).toArray }):=T.keep _ _ _ st2 fun b hb o e=>Heap.get?_push_of_some _ e
 have lt3:∀ b ∈ fp,b < (s2.heap.push { cls:=.type "list",data:=.seq ([]:List Value).toArray }).objs.size:=fun b hb=>by rw [Heap.size_push]; exact Nat.lt_succ_of_lt (ltf b hb)
 generalize hH:s2.heap.push { cls:=.type "list",data:=.seq ([]:List Value).toArray } = h3 at I3 st1 lt3 hns₁ hsb₁ ⊢
 have hk:∀ b o,h3.get? b = some o->h₁.get? b = some o:=fun b o e=>hsb₁.extBut b o (Nat.ne_of_lt (Heap.lt_size e)) (Heap.get?_push_of_some _ e)
 have Ib:Inv (X.block scope N fp { s2 with heap:=h3 } (upd H2 s2.heap.objs.size (.lst [])) h3.objs.size) [] (cst src σ) (upd H2 s2.heap.objs.size (.lst [])) { s2 with heap:=h₁,toks:=s2.toks + ([]:List (Str × Value)).length } :=
  Inv.enter (s:={ s2 with heap:=h3 }) S I3 f3 lt3 hns₁ hk rfl rfl
 have fpB:∀ {H':Hp},(∀ b ∈ fp,H' b = none)->∀ b ∈ fp,FpOk (X.block scope N fp { s2 with heap:=h3 } (upd H2 s2.heap.objs.size (.lst [])) h3.objs.size) [] H' b:=fun hn b hb =>
  ⟨hn b hb,(Ib.ok.exf b hb).1,Ib.ok.exfs b hb,.inl hb,(Ib.ok.exf b hb).2,fun p hp=>absurd (show p ∈ ([]:List (Addr × Obj)) from hp) (by simp)⟩
 have tn1:tn 0 h₁:=T.keep _ _ _ st1 fun b _ o e=>hk b o e
 have loop:∀ s₃:Shared,s₃ = { s2 with heap:=h₁,toks:=s2.toks + ([]:List (Str × Value)).length } ->
   codeAny (model X.prog X.w) X.A (.compLoop (.ListComp elt [⟨tg,iter,ifs,0⟩] scope pos) 0 (.ref it) (.ref s2.heap.objs.size) (compEnvC scope (jcu X.env scope.names []) h3.objs.size X.env))
    (RR (.ref s2.heap.objs.size) h3.objs.size) s₃:=by
  rintro s₃ rfl
  refine codeAny_loop rfl (fun n s'=>∃ i σ' H',Inv (X.block scope N fp { s2 with heap:=h3 } (upd H2 s2.heap.objs.size (.lst [])) h3.objs.size) [] σ' H' s'/\tn i s'.heap/\(∀ b ∈ fp,H' b = none)/\W i n σ' H') ?_ m0
   ⟨0,_,_,Ib,tn1,fun b hb=>(f3 b hb).1,w0⟩
  rintro n s5 ⟨i,σ5,H5,I5,st5,fr5,w5⟩
  show wpAny _ X.A ((compTurn (.ListComp elt [⟨tg,iter,ifs,0⟩] scope pos) 0 (.ref it) (.ref s2.heap.objs.size) (compEnvC scope (jcu X.env scope.names []) h3.objs.size X.env)).onRaise (fun x=>do noteFrame x (compEnvC scope (jcu X.env scope.names []) h3.objs.size X.env); theTreesLotGoes x)) _ _ s5
  refine wpAny_noted ?_
  rw [compTurn_list]
  refine wpAny_bind (wpAny_standAt (wpAny_bind ?_))
  rcases turn i n σ5 H5 w5 with ⟨stop,qn⟩ | ⟨go,N',hN',step⟩
  ·refine thn (T.done (X.block scope N fp { s2 with heap:=h3 } (upd H2 s2.heap.objs.size (.lst [])) h3.objs.size) rfl rfl rfl hc i [] s5 σ5 H5 _ I5 (fpB fr5) st5 stop) fun r s6 ⟨hr,I6⟩=>?_
   subst hr
   refine wpAny_pure ?_
   have u6:Un (frs X.stack) fp (upd H2 s2.heap.objs.size (.lst [])) H5 h3 s6.heap:=I6.base
   have hf6:H5 h3.objs.size = none:=I6.free
   have I7:Inv X pins σ H5 s6:=I3.call' (ch:=fp) I6.os u6 I6.hok I6.bare fun b hb=>⟨(f3 b hb).2.2.2.1,(f3 b hb).2.1,(f3 b hb).2.2.2.2.1,(f3 b hb).2.2.2.2.2⟩
   obtain ⟨m,hm,_⟩:=I6.loc
   exact hRR _ _ H5 s6 I7 ⟨m,hm⟩ (I3.fpOk (Nat.le_refl _) hf6) qn
  ·refine thn (T.item (X.block scope N fp { s2 with heap:=h3 } (upd H2 s2.heap.objs.size (.lst [])) h3.objs.size) rfl rfl rfl hc i [] s5 σ5 H5 _ I5 (fpB fr5) st5 go) fun r s6 ⟨u,hr,h6⟩=>?_
   subst hr
   refine wpAny_bind (thn h6 fun _ s7 ⟨x,H7,I7,r7,y7,st7,fr7⟩=>?_)
   have I7':=I7.pinned (fpB fr7) (T.obj _ _ st7)
   have fin:∀ {σ9:St} {H9:Hp} {s9:Shared},Inv (X.block scope N fp { s2 with heap:=h3 } (upd H2 s2.heap.objs.size (.lst [])) h3.objs.size) ([] ++ jki fp s7.heap) σ9 H9 s9->N' σ9 H9 ->
     ∃ m,m < n/\∃ i σ' H',Inv (X.block scope N fp { s2 with heap:=h3 } (upd H2 s2.heap.objs.size (.lst [])) h3.objs.size) [] σ' H' s9/\tn i s9.heap/\(∀ b ∈ fp,H' b = none)/\W i m σ' H':=fun {σ9 H9 s9} I9 n9=>by
    obtain ⟨m',hm,w9⟩:=hN' σ9 H9 n9
    refine ⟨m',hm,i + 1,σ9,H9,I9.unpinned,T.keep _ _ _ st7 fun b hb o e=>(I9.pin (b,o) (List.mem_append_right _ (List.mem_append_right _ (jeb hb e)))).1,fun b hb=>?_,w9⟩
    obtain ⟨o,e,d⟩:=T.obj _ _ st7 b hb
    exact (I9.pin (b,o) (List.mem_append_right _ (List.mem_append_right _ (jeb hb e)))).2.1
   refine wpAny_bind (wpAny_mono (hg fp _ _ _ _ s7 σ5 H7 x u _ I7' r7 (step x H7 y7)) (fun _ s8 ⟨σ8,H8,I8,q8⟩=>?_) fun _ _ z=>False.elim z)
   refine wpAny_bind (wpAny_mono (ht fp _ _ _ _ s8 σ8 H8 _ I8 q8) (fun ok s9 ⟨H9,I9,q9⟩=>?_) fun _ _ z=>False.elim z)
   cases ok with
   | false=>exact wpAny_pure ⟨rfl,fin I9 q9⟩
   | true =>
    refine wpAny_bind (wpAny_bind (wpAny_mono (he fp _ _ _ _ s9 σ8 H9 _ I9 q9) (fun v s10 ⟨y,H10,I10,r10,xs,hx,hz,q10⟩=>?_) fun _ _ z=>False.elim z))
    refine wpAny_bind (wpAny_mono (jkr (X:=X.block scope N fp { s2 with heap:=h3 } (upd H2 s2.heap.objs.size (.lst [])) h3.objs.size) _ s10 σ8 H10 (.ref s2.heap.objs.size) [y] _ [v] (fun _ H11=>N' σ8 H11) I10 rfl (.cons r10 .nil) ⟨_,xs,y,rfl,rfl,hx,hz,q10⟩)
     (fun _ s11 ⟨_,H11,I11,_,q11⟩=>wpAny_pure (wpAny_pure ⟨rfl,fin I11 q11⟩)) fun _ _ z=>False.elim z)
 exact codeAny_compStart_list (loop _ rfl) (T.self _ 0 _ _ _ tn1 (loop _ rfl))
def jr7 (src:List (Option Nat)) (wi:TI) (g:TG) (tc:TT) (te:TE):TE:=fun σ H Q=>wi σ H fun J H1=>∀ l,H1 l = none->jr2 J src g tc te Q σ H1 l
theorem jc7 {X:Cx} {elt tg iter:Expr} {ifs:List Expr} {scope:Scope} {pos:Pos} {N:List Str} {src:List (Option Nat)} {wi:TI} {g:TG} {tc:TT} {te:TE} (S:CpScope X scope N src) (hc:X.calm = true)
  (hi:PI X tg iter wi) (hg:∀ fp s₀ H₀ C,PG (X.block scope N fp s₀ H₀ C) tg g) (ht:∀ fp s₀ H₀ C,PIf (X.block scope N fp s₀ H₀ C) ifs tc) (he:∀ fp s₀ H₀ C,PE (X.block scope N fp s₀ H₀ C) elt te)
  (hs:∀ x,foldedSetIterable iter X.env x = pure x:=by intro _; rfl):PE X (.ListComp elt [⟨tg,iter,ifs,0⟩] scope pos) (jr7 src wi g tc te):=by
 intro pins s σ H Q I h
 rw [eval_ListComp]
 refine wpAny_comprehension_free (use:=none) rfl hs (jdq fun y hy e=>I.ok.has y.1 (.inl (S.frees y hy e).2)) S.kind S.locs ?_
 refine thn (hi pins s σ H _ I h) fun v s1 h1=>thn h1 fun itv s2 h2=>?_
 obtain ⟨it,fp,tn,J,H2,e,I2,T,st2,f2,hw⟩:=h2
 subst e
 refine jl5 (RR:=fun acc C=>compPost (model X.prog X.w) X.A X.xe none (EP X pins σ Q) acc C) S hc hg ht he I2 T st2 f2 hw ?_
 intro l C H' s' I' hm fC q
 obtain ⟨m,hm⟩:=hm
 refine ⟨m,hm,fun h' hs'=>?_⟩
 exact ⟨.ref l,H',I'.turned (t':=s'.toks) (fun b o hb e=>hs'.extBut b o hb e) fC.1 fC.2.1 fC.2.2.2.1 fC.2.2.2.2.1 fC.2.2.2.2.2,rfl,q⟩
theorem jdj {X:Cx} {i:Nat} {x:Str} {pos' spos:Pos} {elt tg iter:Expr} {ifs:List Expr} {scope:Scope} {pos:Pos} {N:List Str} {src:List (Option Nat)} {wi:TI} {g:TG} {tc:TT} {te:TE} (hN:X.N.Nodup) (hix:X.N[i]? = some x) (hx:Loc X.env.scope x)
  (S:CpScope X scope N src) (hc:X.calm = true)
  (hi:PI X tg iter wi) (hg:∀ fp s₀ H₀ C,PG (X.block scope N fp s₀ H₀ C) tg g) (ht:∀ fp s₀ H₀ C,PIf (X.block scope N fp s₀ H₀ C) ifs tc) (he:∀ fp s₀ H₀ C,PE (X.block scope N fp s₀ H₀ C) elt te)
  (hsw:swapsWith (.ListComp elt [⟨tg,iter,ifs,0⟩] scope pos) (some (.Name x pos')) spos.line X.env = pure true:=by rfl)
  (hs:∀ x,foldedSetIterable iter X.env x = pure x:=by intro _; rfl) (hf:X.fn x = true \/ X.env.scope.names.lookup x = some .local:=by first | exact .inl rfl | exact .inr rfl | assumption) :
  PS X (.Assign [.Name x pos'] (.ListComp elt [⟨tg,iter,ifs,0⟩] scope pos) spos) (tAsg (jr7 src wi g tc te) (jan i)):=by
 intro pins s σ H D I h
 rw [exec_Assign_Name_used _ _ _ _ hsw]
 refine wpAny_bind (wpAny_standAt (wpAny_bind ?_))
 show wpAny _ X.A (do let _ <- comprehension (.ListComp elt [⟨tg,iter,ifs,0⟩] scope pos) scope X.env _ (newList []) false (eval iter X.env) (some (assign (.Name x pos') X.env))) _ _ s
 refine wpAny_bind (wpAny_mono (wpAny_comprehension_free (use:=some (assign (.Name x pos') X.env)) (Q:=fun _ s'=>SP X pins D .next s') rfl hs (jdq fun y hy e=>I.ok.has y.1 (.inl (S.frees y hy e).2)) S.kind S.locs
  (thn (hi pins s σ H _ I h) fun v s1 h1=>thn h1 fun itv s2 h2=>?_)) (fun _ s' hq=>wpAny_pure (wpAny_pure hq)) fun _ _ e=>e)
 obtain ⟨it,fp,tn,J,H2,e,I2,T,st2,f2,hw⟩:=h2
 subst e
 refine jl5 (Q:=fun v H'=>D.nx (σ.set i (some v)) H') (RR:=fun acc C=>compPost (model X.prog X.w) X.A X.xe (some (assign (.Name x pos') X.env)) (fun _ s'=>SP X pins D .next s') acc C) S hc hg ht he I2 T st2 f2 hw ?_
 intro l C H' s' I' hm fC q
 obtain ⟨m,hm⟩:=hm
 show wpAny _ X.A (assign (.Name x pos') X.env (.ref l)) _ _ _
 refine wpAny_assign_Name (jk9 I' hN hix hx (v:=.ref l) rfl (fun s'' I'' ⟨a,sb,ha⟩=>?_) hf)
 have hCa:C ≠ a:=by
  rcases ha with rfl | ha
  ·exact fC.2.1
  ·exact fun z=>fC.2.2.2.2.1 x a ha z.symm
 refine ⟨m,hm.sameBut sb hCa,fun h' hs'=>?_⟩
 exact ⟨_,H',I''.turned (t':=s''.toks) (fun b o hb e=>hs'.extBut b o hb e) fC.1 fC.2.1 fC.2.2.2.1 fC.2.2.2.2.1 fC.2.2.2.2.2,q⟩
theorem Inv.turnedNew {X:Cx} {pins:List (Addr × Obj)} {σ:St} {H:Hp} {s:Shared} {h':Heap} {ch:List Addr} {t:Addr} {o:HO} {t':Nat} (I:Inv X pins σ H s) (hsz:s.heap.objs.size <= t)
  (k:∀ b ob,b ∉ ch->s.heap.get? b = some ob->h'.get? b = some ob) (hch:∀ b ∈ ch,FpOk X pins H b) (new:jcv X.prog X.w (upd H t o) h' t o) :
  Inv X pins σ (upd H t o) { s with heap:=h',toks:=t' }:=by
 have hn:H t = none:=I.hok.fresh hsz
 have nt:∀ {b ob},s.heap.get? b = some ob->b ≠ t:=fun q=>Nat.ne_of_lt (Nat.lt_of_lt_of_le (Heap.lt_size q) hsz)
 have u:Un (frs X.stack) ch H (upd H t o) s.heap h' :=
  ⟨fun b ob q _ _ hx=>k b ob hx q,fun b ob q _ _ hx=>⟨ob.slots,k b ob hx q⟩,fun b ob q n _=>by rw [jb7 (nt q)]; exact n,fun b ob q hx=>⟨ob,k b ob hx q⟩,
   fun b xs q=>by rw [jb7 (jaj q hn)]; exact q,fun b ob xs q=>by rw [jb7 (jaj q hn)]; exact q,fun b ps q=>⟨#[],by rw [jb7 (jaj q hn),q]; simp⟩⟩
 refine I.call (g':=s.gens) (t':=t') (d':=s.drawn) u (fun b ob e=>?_) I.bare fun b hb=>⟨(hch b hb).2.2.2.1,(hch b hb).2.1,(hch b hb).2.2.2.2.1,(hch b hb).2.2.2.2.2⟩
 by_cases hb:b = t
 ·subst hb; rw [ja1] at e; cases e; exact new
 ·rw [jb7 hb] at e
  have ntr:∀ {c u},H c = some u->c ∉ ch:=fun q z=>by rw [(hch _ z).1] at q; cases q
  refine (I.hok b ob e).stay (fun c v hc q=>k c v ?_ q) (fun c q=>by rw [jb7 (jaj q hn)]; exact q) fun c xs q=>by rw [jb7 (jaj q hn)]; exact q
  rcases hc with z | z
  ·rw [z]; exact ntr e
  ·exact ntr z
theorem Inv.turnedAll {X:Cx} {pins:List (Addr × Obj)} {σ:St} {H:Hp} {s:Shared} {h':Heap} {ch:List Addr} {t':Nat} (I:Inv X pins σ H s)
  (k:∀ b ob,b ∉ ch->s.heap.get? b = some ob->h'.get? b = some ob) (hch:∀ b ∈ ch,FpOk X pins H b):Inv X pins σ H { s with heap:=h',toks:=t' }:=by
 have u:Un (frs X.stack) ch H H s.heap h' :=
  ⟨fun b ob q _ _ hx=>k b ob hx q,fun b ob q _ _ hx=>⟨ob.slots,k b ob hx q⟩,fun b ob q n _=>n,fun b ob q hx=>⟨ob,k b ob hx q⟩,fun b xs q=>q,fun b ob xs q=>q,fun b ps q=>⟨#[],by rw [q]; simp⟩⟩
 refine I.call (g':=s.gens) (t':=t') (d':=s.drawn) u (fun b ob e=>?_) I.bare fun b hb=>⟨(hch b hb).2.2.2.1,(hch b hb).2.1,(hch b hb).2.2.2.2.1,(hch b hb).2.2.2.2.2⟩
 have ntr:∀ {c u},H c = some u->c ∉ ch:=fun q z=>by rw [(hch _ z).1] at q; cases q
 refine (I.hok b ob e).stay (fun c v hc q=>k c v ?_ q) (fun c q=>q) fun c xs q=>q
 rcases hc with z | z
 ·rw [z]; exact ntr e
 ·exact ntr z
def Ite (K:PySem.W.Frag) (a:Addr):It :=
 ⟨fun i H=>∃ xs x,SqL K H a xs/\xs[i]? = some x,fun i H x H'=>∃ t y,H t = none/\x = .ref t/\H' = upd H t (.tup [.int i,y])/\∀ xs,SqL K H a xs->xs[i]? = some y,fun i H=>∃ xs,SqL K H a xs/\xs.length <= i⟩
theorem jop {P:Program} {w:World} {K:PySem.W.Frag} {elts:List Expr} {x1:Nat} {pos:Pos} (a e it:Addr) (hne:e ≠ it) :
  Turn P w K (.Tuple elts x1 pos) (Ite K a) [e,it] e (fun i h=>(∃ old,IsEnum h e it i old)/\h.IsListIter it a i) where
 mem:=by simp
 obj:=fun i h st b hb=>by
  obtain ⟨⟨old,he⟩,hit⟩:=st
  have q:b = e \/ b = it:=by simpa using hb
  rcases q with rfl | rfl
  ·exact ⟨_,he,fun v z=>by
    have z':Data.fields _ = Data.cell v:=z
    cases z'⟩
  ·obtain ⟨o,e1,c,d⟩:=hit
   exact ⟨o,e1,fun v z=>by rw [d] at z; cases z⟩
 keep:=fun i h h' st k=>by
  obtain ⟨⟨old,he⟩,hit⟩:=st
  exact ⟨⟨old,k e (by simp) _ he⟩,hit.at fun o z=>k it (by simp) o z⟩
 item:=by
  intro X hP hw hK hc i pins s σ H E I hf st hg
  subst hP hw hK
  obtain ⟨⟨old,he⟩,hit⟩:=st
  obtain ⟨xs,x,hq,hx⟩:=hg
  obtain ⟨its,rv,p,hz⟩:=I.list hq
  obtain ⟨u,hu,ru⟩:=rv.get hx
  have elt:e < s.heap.objs.size:=Heap.lt_size he
  have ilt:it < s.heap.objs.size:=by obtain ⟨_,z,_⟩:=hit; exact Heap.lt_size z
  refine wpAny_pyNext_enum_item he hit p.isList (x:=u) (by simpa using hu) hne fun h1 ho hit1 hT hsz1 hk1=>?_
  refine ⟨_,rfl,wpAny_letOwnedTupleGo_enum ho fun h2 he2 hs2=>?_⟩
  replace hs2:Heap.SameBut e h1 h2:=hs2
  have kk:∀ b ob,b ∉ [e,it]->s.heap.get? b = some ob->h2.get? b = some ob:=fun b ob hb q=>by
   have hb':b ≠ e/\b ≠ it:=by simpa using hb
   exact hs2.extBut b ob hb'.1 (hk1 b ob hb'.1 hb'.2 q)
  have hT2:h2.get? s.heap.objs.size = some { cls:=.type "tuple",data:=.seq #[.int i s.toks,u] }:=(hs2.2 _ (Nat.ne_of_gt elt)).trans hT
  refine ⟨.ref s.heap.objs.size,upd H s.heap.objs.size (.tup [.int i,x]),I.turnedNew (ch:=[e,it]) (Nat.le_refl _) kk hf ?_,rfl,⟨_,x,I.fresh,rfl,rfl,fun ys hy=>by rw [I.list_inj hy hq]; exact hx⟩,⟨⟨u,by simpa using he2⟩,hit1.at fun o z=>(hs2.2 it hne.symm).trans z⟩,fun b hb=>?_⟩
  ·exact ⟨by show 2 <= sizeLine; decide,[.int i s.toks,u],.cons ⟨_,rfl⟩ (.cons ru .nil),⟨_,hT2,rfl,_,rfl⟩⟩
  ·have hb':b = e \/ b = it:=by simpa using hb
   have:b ≠ s.heap.objs.size:=by
    rcases hb' with rfl | rfl
    ·exact Nat.ne_of_lt elt
    ·exact Nat.ne_of_lt ilt
   rw [jb7 this]
   exact (hf b hb).1
 done:=by
  intro X hP hw hK hc i pins s σ H E I hf st hg
  subst hP hw hK
  obtain ⟨⟨old,he⟩,hit⟩:=st
  obtain ⟨xs,hq,hx⟩:=hg
  obtain ⟨its,rv,p,hz⟩:=I.list hq
  have hl:=rv.length
  refine wpAny_pyNext_enum_end (I.ok.hd hc) he hit p.isList (by simp; omega) fun h' eb=>⟨rfl,I.turnedAll (ch:=[e,it]) (t':=s.toks) (fun b o hb q=>eb b o (fun z=>hb (by simp [z])) q) hf⟩
 self:=fun _ _ _ _ _ st h=>by
  obtain ⟨⟨old,he⟩,_⟩:=st
  exact wpAny_pyIter_enum he h
def juw (K:PySem.W.Frag) (ta:TA):TI:=fun σ H R=>ta σ H fun vs H1=>∃ a,vs = [.ref a]/\(∃ xs,SqL K H1 a xs)/\R (Ite K a) H1
theorem jj3 {X:Cx} {elts:List Expr} {x1:Nat} {tpos:Pos} {a:Expr} {ta:TA} {p pos:Pos} (hg:Gl X "enumerate") (hm:X.mg "enumerate" = none) (ha:PA X [a] ta) (hs:starEach [a] X.env = [(false,eval a X.env)]:=by rfl) :
  PI X (.Tuple elts x1 tpos) (.Call (.Name "enumerate" p) [a] [] pos) (juw X.K ta):=by
 intro pins s σ H R I h
 refine Call_ (jfu I hg hm boot_enumerate (PyProof.Rows.callWith_type1 (thn (ha pos pins s σ H _ I h) fun us s1 ⟨vs,H1,I1,r1,q1⟩=>?_) hs rfl))
 obtain ⟨a,e,⟨xs,hq⟩,q⟩:=q1
 subst e
 cases r1 with
 | cons r rr =>
  cases rr
  cases r
  obtain ⟨its,rv,pl,hz⟩:=I1.list hq
  refine call_enumerate_list pl.isList fun h' he hit hsz hk=>?_
  refine wpAny_pyIter_enum he ?_
  have I2:Inv X pins σ H1 { s1 with heap:=h' }:=I1.kept (t':=s1.toks) fun b o q=>hk b o q
  refine ⟨_,[s1.heap.objs.size + 1,s1.heap.objs.size],_,_,H1,rfl,I2,jop a _ _ (Nat.succ_ne_self _),⟨⟨_,he⟩,hit⟩,fun b hb=>?_,q⟩
  have hb':b = s1.heap.objs.size + 1 \/ b = s1.heap.objs.size:=by simpa using hb
  rcases hb' with rfl | rfl
  ·exact I1.fpOk (Nat.le_succ _) (I1.hok.fresh (Nat.le_succ _))
  ·exact I1.fpOk (Nat.le_refl _) (I1.hok.fresh (Nat.le_refl _))
section
variable {prog:Program} {w:World} {A:Around} {E:Value->Shared->Prop} {s:Shared}
theorem jo6 {j t:Addr} {k:Nat} {ar:Array Value} {x:Value} {Q:Value->Shared->Prop} (hj:s.heap.IsTupleIter j t k) (ht:s.heap.IsTuple t ar) (hx:ar[k]? = some x)
  (hQ:∀ h',h'.IsTupleIter j t (k + 1)->Heap.SameBut j s.heap h'->Q x { s with heap:=h' }):wpAny (model prog w) A (Builtin.SmallTypes.nextOf (.ref j)) Q E s:=by
 obtain ⟨ob,e0,hcl,hdt⟩:=id hj
 obtain ⟨ot,e1,_,nt,hdl⟩:=ht
 unfold Builtin.SmallTypes.nextOf
 refine wpAny_bind (wpAny_callSpecial?_slot (name:=Str.ofString "__next__") hj.typeIs F.slot_tuple_iterator_next (wpAny_call_entry F.slot_tuple_iterator_next hj.typeIs F.entry_tuple_iterator_next ?_ (F.args_tuple_iterator_next_1 _)))
 show wpAny _ _ (field (.ref j) 0 >>= _) _ _ s
 refine wpAny_bind (wpAny_field e0 hdt (x:=.ref t) rfl ?_)
 show wpAny _ _ (if (Value.ref t == Value.none) = true then _ else _) _ _ s
 rw [if_neg (show ¬ ((Value.ref t == Value.none) = true) from Bool.false_ne_true)]
 show wpAny _ _ (field (.ref j) 1 >>= _) _ _ s
 refine wpAny_bind (wpAny_field e0 hdt (x:=.int k 0) rfl ?_)
 show wpAny _ _ (seqItems? (.ref t) >>= _) _ _ s
 refine wpAny_bind (wpAny_seqItems e1 hdl ?_)
 simp only [Int.toNat_natCast,hx]
 refine wpAny_bind (wpAny_setField e0 hdt (by simp) (wpAny_pure ⟨x,rfl,wpAny_pure (hQ _ ?_ (Heap.SameBut.update ..))⟩))
 exact ⟨_,Heap.get?_update_self _ e0 (Obj.isFreed_of_fields (Obj.data_mapFields hdt _)),(Obj.cls_mapFields ..).trans hcl,by rw [Obj.data_mapFields hdt]; simp [rawInt]⟩
theorem jho {j t:Addr} {k:Nat} {ar:Array Value} {Q:Value->Shared->Prop} (hh:A.handled = none) (hj:s.heap.IsTupleIter j t k) (ht:s.heap.IsTuple t ar) (hx:ar[k]? = none)
  (hE:∀ h' e,Heap.ExtBut j s.heap h'->(∃ o,h'.get? e = some o/\o.cls = .type "StopIteration")->E (.ref e) { s with heap:=h' }):wpAny (model prog w) A (Builtin.SmallTypes.nextOf (.ref j)) Q E s:=by
 obtain ⟨ob,e0,hcl,hdt⟩:=id hj
 obtain ⟨ot,e1,_,nt,hdl⟩:=ht
 unfold Builtin.SmallTypes.nextOf
 refine wpAny_bind (wpAny_callSpecial?_slot (name:=Str.ofString "__next__") hj.typeIs F.slot_tuple_iterator_next (wpAny_call_entry F.slot_tuple_iterator_next hj.typeIs F.entry_tuple_iterator_next ?_ (F.args_tuple_iterator_next_1 _)))
 show wpAny _ _ (field (.ref j) 0 >>= _) _ _ s
 refine wpAny_bind (wpAny_field e0 hdt (x:=.ref t) rfl ?_)
 show wpAny _ _ (if (Value.ref t == Value.none) = true then _ else _) _ _ s
 rw [if_neg (show ¬ ((Value.ref t == Value.none) = true) from Bool.false_ne_true)]
 show wpAny _ _ (field (.ref j) 1 >>= _) _ _ s
 refine wpAny_bind (wpAny_field e0 hdt (x:=.int k 0) rfl ?_)
 show wpAny _ _ (seqItems? (.ref t) >>= _) _ _ s
 refine wpAny_bind (wpAny_seqItems e1 hdl ?_)
 simp only [Int.toNat_natCast,hx]
 refine wpAny_bind (wpAny_rule (wpAny_bind (wpAny_setField e0 hdt (by simp) ?_)))
 show wpAny _ _ (newExc (.type "StopIteration") [] >>= _) _ _ _
 refine wpAny_bind ?_
 simp only [newExc,newTuple]
 refine wpAny_bind (wpAny_newObj_type ?_ (by size_fits))
 refine wpAny_bind (m:=firstArgMember _ _) (wpAny_of_eq (a:=Value.none) (by first | rfl | (simp only [firstArgMember]; rfl)) ?_)
 refine wpAny_newObj_type ?_ (by size_fits)
 simp only [raiseNew]
 refine wpAny_bind (wpAny_handled ?_)
 first | rw [show A.in1.handled = none from hh] | rw [hh]
 refine wpAny_bind (wpAny_pure (wpAny_throw ?_))
 exact hE _ _ (((Heap.SameBut.update ..).extBut.push _).push _) ⟨_,Heap.get?_push_size _ rfl,rfl⟩
def IsSq (b:Bool) (h:Heap) (l:Addr) (ar:Array Value):Prop:=if b = true then h.IsList l ar else h.IsTuple l ar
def jcp (b:Bool) (h:Heap) (j l:Addr) (k:Nat):Prop:=if b = true then h.IsListIter j l k else h.IsTupleIter j l k
theorem IsSq.at' {b:Bool} {h h':Heap} {l:Addr} {ar:Array Value} (x:IsSq b h l ar) (k:∀ o,h.get? l = some o->h'.get? l = some o):IsSq b h' l ar:=by
 cases b with
 | true=>obtain ⟨o,e,r⟩:=(show h.IsList l ar from x); exact (show h'.IsList l ar from ⟨o,k o e,r⟩)
 | false=>obtain ⟨o,e,r⟩:=(show h.IsTuple l ar from x); exact (show h'.IsTuple l ar from ⟨o,k o e,r⟩)
theorem jcp.at' {b:Bool} {h h':Heap} {j l:Addr} {i:Nat} (x:jcp b h j l i) (k:∀ o,h.get? j = some o->h'.get? j = some o):jcp b h' j l i:=by
 cases b with
 | true=>obtain ⟨o,e,r⟩:=(show h.IsListIter j l i from x); exact (show h'.IsListIter j l i from ⟨o,k o e,r⟩)
 | false=>obtain ⟨o,e,r⟩:=(show h.IsTupleIter j l i from x); exact (show h'.IsTupleIter j l i from ⟨o,k o e,r⟩)
theorem jcp.obj {b:Bool} {h:Heap} {j l:Addr} {i:Nat} (x:jcp b h j l i):∃ o,h.get? j = some o/\∀ v,o.data ≠ .cell v:=by
 cases b with
 | true=>obtain ⟨o,e,_,d⟩:=(show h.IsListIter j l i from x); exact ⟨o,e,fun v z=>by rw [d] at z; cases z⟩
 | false=>obtain ⟨o,e,_,d⟩:=(show h.IsTupleIter j l i from x); exact ⟨o,e,fun v z=>by rw [d] at z; cases z⟩
theorem jgz {b:Bool} {j l:Addr} {k:Nat} {ar:Array Value} {x:Value} {Q:Value->Shared->Prop} (hj:jcp b s.heap j l k) (hl:IsSq b s.heap l ar) (hx:ar[k]? = some x)
  (hQ:∀ h',jcp b h' j l (k + 1)->Heap.SameBut j s.heap h'->Q x { s with heap:=h' }):wpAny (model prog w) A (Builtin.SmallTypes.nextOf (.ref j)) Q E s:=by
 cases b with
 | true=>exact wpAny_nextOf_list_item (show s.heap.IsListIter j l k from hj) (show s.heap.IsList l ar from hl) hx fun h' a b=>hQ h' a b
 | false=>exact jo6 (show s.heap.IsTupleIter j l k from hj) (show s.heap.IsTuple l ar from hl) hx fun h' a b=>hQ h' a b
theorem jey {b:Bool} {j l:Addr} {k:Nat} {ar:Array Value} {Q:Value->Shared->Prop} (hh:A.handled = none) (hj:jcp b s.heap j l k) (hl:IsSq b s.heap l ar) (hx:ar[k]? = none)
  (hE:∀ h' e,Heap.ExtBut j s.heap h'->(∃ o,h'.get? e = some o/\o.cls = .type "StopIteration")->E (.ref e) { s with heap:=h' }):wpAny (model prog w) A (Builtin.SmallTypes.nextOf (.ref j)) Q E s:=by
 cases b with
 | true=>exact wpAny_nextOf_list_end hh (show s.heap.IsListIter j l k from hj) (show s.heap.IsList l ar from hl) hx hE
 | false=>exact jho hh (show s.heap.IsTupleIter j l k from hj) (show s.heap.IsTuple l ar from hl) hx hE
theorem jk0 {b:Bool} {z TI TO i1 i2 l1 l2:Addr} {k1 k2:Nat} {xs ys:Array Value} {x y v0 v1:Value} {Q:Value->Shared->Prop} (D:ZipApart z TI TO i1 i2 l1 l2)
  (hz:IsZip s.heap z TI TO .none) (hTI:IsPair s.heap TI (.ref i1) (.ref i2)) (hTO:IsPair s.heap TO v0 v1)
  (h1:jcp b s.heap i1 l1 k1) (h2:jcp b s.heap i2 l2 k2) (hl1:IsSq b s.heap l1 xs) (hl2:IsSq b s.heap l2 ys) (hx:xs[k1]? = some x) (hy:ys[k2]? = some y)
  (hQ:∀ h',IsZip h' z TI TO (rawInt s.heap.objs.size)->IsPair h' TO x y->jcp b h' i1 l1 (k1 + 1)->jcp b h' i2 l2 (k2 + 1)->IsPair h' s.heap.objs.size x y ->
   (∀ c o,c ≠ z->c ≠ TO->c ≠ i1->c ≠ i2->s.heap.get? c = some o->h'.get? c = some o)->Q (.ref s.heap.objs.size) { s with heap:=h' }) :
  wpAny (model prog w) A (Builtin.«zip.__next__» ⟨[.ref z],[]⟩) (fun fin s'=>∃ v,fin = .done (.ret v)/\Q v s') E s:=by
 show wpAny _ _ (field (.ref z) 2 >>= _) _ _ _
 refine wpAny_bind (wpAny_field hz rfl (x:=.bool false) rfl ?_)
 show wpAny _ _ (field (.ref z) 3 >>= _) _ _ _
 refine wpAny_bind (wpAny_field hz rfl (x:=.ref TI) rfl ?_)
 refine wpAny_bind (wpAny_seqItems hTI rfl ?_)
 show wpAny _ _ (Builtin.SmallTypes.ownedTupleIsFree (.ref z) >>= _) _ _ _
 refine wpAny_bind ?_
 unfold Builtin.SmallTypes.ownedTupleIsFree
 refine wpAny_bind (wpAny_field hz rfl (x:=.none) rfl (wpAny_pure ?_))
 simp only [if_true]
 refine wpAny_bind (wpAny_rule ?_)
 refine wpAny_bind (wpAny_field hz rfl (x:=.ref TO) rfl ?_)
 refine wpAny_bind (wpAny_setField_rec hz (by simp) fun g1 hzA sA=>?_)
 replace hzA:IsZip g1 z TI TO .ellipsis:=hzA
 refine wpAny_bind ?_
 simp only [List.zipIdx_cons,List.zipIdx_nil,List.forIn_cons,List.forIn_nil]
 refine wpAny_bind (wpAny_bind (wpAny_onRaise ?_))
 show wpAny _ _ (Builtin.SmallTypes.nextOf (.ref i1) >>= _) _ _ _
 refine wpAny_bind (jgz (b:=b) (h1.at' fun o e=>sA.extBut _ o D.i1z e) (hl1.at' fun o e=>sA.extBut _ o D.l1z e) hx fun g2 h1B sB=>wpAny_pure ?_)
 have TOB:IsPair g2 TO v0 v1:=sB.extBut _ _ D.TOi1 (sA.extBut _ _ D.TOz hTO)
 refine wpAny_bind (wpAny_seqItems TOB rfl ?_)
 refine wpAny_bind (wpAny_updateSeq_pair TOB fun g3 TOC sC=>?_)
 replace TOC:IsPair g3 TO x v1:=TOC
 refine wpAny_bind (wpAny_letGo (wpAny_pure ?_))
 refine wpAny_bind (wpAny_bind (wpAny_onRaise ?_))
 show wpAny _ _ (Builtin.SmallTypes.nextOf (.ref i2) >>= _) _ _ _
 refine wpAny_bind (jgz (b:=b) (h2.at' fun o e=>sC.extBut _ o D.TOi2.symm (sB.extBut _ o D.i12.symm (sA.extBut _ o D.i2z e))) (hl2.at' fun o e=>sC.extBut _ o D.l2TO (sB.extBut _ o D.l2i1 (sA.extBut _ o D.l2z e))) hy fun g4 h2D sD=>wpAny_pure ?_)
 have TOD:IsPair g4 TO x v1:=sD.extBut _ _ D.TOi2 TOC
 refine wpAny_bind (wpAny_seqItems TOD rfl ?_)
 refine wpAny_bind (wpAny_updateSeq_pair TOD fun g5 TOE sE=>?_)
 replace TOE:IsPair g5 TO x y:=TOE
 refine wpAny_bind (wpAny_letGo (wpAny_pure (wpAny_pure ?_)))
 refine wpAny_bind (wpAny_seqItems TOE rfl ?_)
 refine wpAny_bind (wpAny_newTuple ?_)
 have hsz:g5.objs.size = s.heap.objs.size:=by rw [sE.1,sD.1,sC.1,sB.1,sA.1]
 have hzE:IsZip g5 z TI TO .ellipsis:=sE.extBut _ _ D.TOz.symm (sD.extBut _ _ D.i2z.symm (sC.extBut _ _ D.TOz.symm (sB.extBut _ _ D.i1z.symm hzA)))
 have hkE:∀ c o,c ≠ z->c ≠ TO->c ≠ i1->c ≠ i2->s.heap.get? c = some o->g5.get? c = some o:=fun c o c1 c2 c3 c4 e=>sE.extBut _ _ c2 (sD.extBut _ _ c4 (sC.extBut _ _ c2 (sB.extBut _ _ c3 (sA.extBut _ _ c1 e))))
 have h1E:jcp b g5 i1 l1 (k1 + 1):=h1B.at' fun o e=>sE.extBut _ o D.TOi1.symm (sD.extBut _ o D.i12 (sC.extBut _ o D.TOi1.symm e))
 have h2E:jcp b g5 i2 l2 (k2 + 1):=h2D.at' fun o e=>sE.extBut _ o D.TOi2.symm e
 have zlt:z < g5.objs.size:=Heap.lt_size hzE
 show wpAny _ _ (Builtin.SmallTypes.ownedTupleHandOut (.ref z) (.ref g5.objs.size) >>= _) _ _ _
 refine wpAny_bind ?_
 unfold Builtin.SmallTypes.ownedTupleHandOut
 have hzF:IsZip (g5.push { cls:=.type "tuple",data:=.seq #[x,y] }) z TI TO .ellipsis:=Heap.get?_push_of_some _ hzE
 refine wpAny_bind (wpAny_setField_rec hzF (by simp) fun g7 hzG sG=>?_)
 replace hzG:IsZip g7 z TI TO (rawInt g5.objs.size):=hzG
 refine wpAny_setField_rec hzG (by simp) fun g8 hzI sI=>?_
 replace hzI:IsZip g8 z TI TO (rawInt g5.objs.size):=hzI
 have up:∀ c o,c ≠ z->g5.get? c = some o->g8.get? c = some o:=fun c o c1 e=>sI.extBut _ _ c1 (sG.extBut _ _ c1 (Heap.get?_push_of_some _ e))
 have hTI8:IsPair g8 g5.objs.size x y:=sI.extBut _ _ (Nat.ne_of_gt zlt) (sG.extBut _ _ (Nat.ne_of_gt zlt) (Heap.get?_push_size _ rfl))
 rw [hsz] at hzI hTI8
 refine wpAny_pure ⟨_,rfl,?_⟩
 show Q (.ref g5.objs.size) _
 rw [hsz]
 exact hQ g8 hzI (up _ _ D.TOz TOE) (h1E.at' fun o e=>up _ o D.i1z e) (h2E.at' fun o e=>up _ o D.i2z e) hTI8 fun c o c1 c2 c3 c4 e=>up c o c1 (hkE c o c1 c2 c3 c4 e)
theorem jli {b:Bool} {z TI TO i1 i2 l1 l2:Addr} {k1 k2:Nat} {xs ys:Array Value} {v0 v1:Value} {Q:Fin->Shared->Prop} (hh:A.handled = none) (D:ZipApart z TI TO i1 i2 l1 l2)
  (hz:IsZip s.heap z TI TO .none) (hTI:IsPair s.heap TI (.ref i1) (.ref i2)) (hTO:IsPair s.heap TO v0 v1)
  (h1:jcp b s.heap i1 l1 k1) (h2:jcp b s.heap i2 l2 k2) (hl1:IsSq b s.heap l1 xs) (hl2:IsSq b s.heap l2 ys) (hend:xs[k1]? = none \/ ys[k2]? = none)
  (hE:∀ h' e,(∀ c o,c ≠ z->c ≠ TO->c ≠ i1->c ≠ i2->s.heap.get? c = some o->h'.get? c = some o)->(∃ o,h'.get? e = some o/\o.cls = .type "StopIteration")->E (.ref e) { s with heap:=h' }) :
  wpAny (model prog w) A (Builtin.«zip.__next__» ⟨[.ref z],[]⟩) Q E s:=by
 show wpAny _ _ (field (.ref z) 2 >>= _) _ _ _
 refine wpAny_bind (wpAny_field hz rfl (x:=.bool false) rfl ?_)
 show wpAny _ _ (field (.ref z) 3 >>= _) _ _ _
 refine wpAny_bind (wpAny_field hz rfl (x:=.ref TI) rfl ?_)
 refine wpAny_bind (wpAny_seqItems hTI rfl ?_)
 show wpAny _ _ (Builtin.SmallTypes.ownedTupleIsFree (.ref z) >>= _) _ _ _
 refine wpAny_bind ?_
 unfold Builtin.SmallTypes.ownedTupleIsFree
 refine wpAny_bind (wpAny_field hz rfl (x:=.none) rfl (wpAny_pure ?_))
 simp only [if_true]
 refine wpAny_bind (wpAny_rule ?_)
 refine wpAny_bind (wpAny_field hz rfl (x:=.ref TO) rfl ?_)
 refine wpAny_bind (wpAny_setField_rec hz (by simp) fun g1 hzA sA=>?_)
 replace hzA:IsZip g1 z TI TO .ellipsis:=hzA
 refine wpAny_bind ?_
 simp only [List.zipIdx_cons,List.zipIdx_nil,List.forIn_cons,List.forIn_nil]
 refine wpAny_bind (wpAny_bind (wpAny_onRaise ?_))
 show wpAny _ _ (Builtin.SmallTypes.nextOf (.ref i1) >>= _) _ _ _
 cases hx:xs[k1]? with
 | none =>
  refine wpAny_bind (jey (b:=b) hh (h1.at' fun o e=>sA.extBut _ o D.i1z e) (hl1.at' fun o e=>sA.extBut _ o D.l1z e) hx fun g2 ex sB he=>?_)
  obtain ⟨oe,hoe,hce⟩:=he
  have hzB:IsZip g2 z TI TO .ellipsis:=sB _ _ D.i1z.symm hzA
  have hez:ex ≠ z:=fun q=>by subst q; rw [hzB] at hoe; cases hoe; simp at hce
  refine wpAny_setField_rec hzB (by simp) fun g3 _ sC=>hE g3 ex (fun c o c1 _ c3 _ q=>sC.extBut _ _ c1 (sB _ _ c3 (sA.extBut _ _ c1 q))) ⟨oe,sC.extBut _ _ hez hoe,hce⟩
 | some x =>
  have hy:ys[k2]? = none:=by rcases hend with h | h; rw [hx] at h; cases h; exact h
  refine wpAny_bind (jgz (b:=b) (h1.at' fun o e=>sA.extBut _ o D.i1z e) (hl1.at' fun o e=>sA.extBut _ o D.l1z e) hx fun g2 h1B sB=>wpAny_pure ?_)
  have TOB:IsPair g2 TO v0 v1:=sB.extBut _ _ D.TOi1 (sA.extBut _ _ D.TOz hTO)
  refine wpAny_bind (wpAny_seqItems TOB rfl ?_)
  refine wpAny_bind (wpAny_updateSeq_pair TOB fun g3 TOC sC=>?_)
  refine wpAny_bind (wpAny_letGo (wpAny_pure ?_))
  refine wpAny_bind (wpAny_bind (wpAny_onRaise ?_))
  show wpAny _ _ (Builtin.SmallTypes.nextOf (.ref i2) >>= _) _ _ _
  refine wpAny_bind (jey (b:=b) hh (h2.at' fun o e=>sC.extBut _ o D.TOi2.symm (sB.extBut _ o D.i12.symm (sA.extBut _ o D.i2z e))) (hl2.at' fun o e=>sC.extBut _ o D.l2TO (sB.extBut _ o D.l2i1 (sA.extBut _ o D.l2z e))) hy fun g4 ex sD he=>?_)
  obtain ⟨oe,hoe,hce⟩:=he
  have hzD:IsZip g4 z TI TO .ellipsis:=sD _ _ D.i2z.symm (sC.extBut _ _ D.TOz.symm (sB.extBut _ _ D.i1z.symm hzA))
  have hez:ex ≠ z:=fun q=>by subst q; rw [hzD] at hoe; cases hoe; simp at hce
  refine wpAny_setField_rec hzD (by simp) fun g5 _ sE=>hE g5 ex (fun c o c1 c2 c3 c4 q=>sE.extBut _ _ c1 (sD _ _ c4 (sC.extBut _ _ c2 (sB.extBut _ _ c3 (sA.extBut _ _ c1 q))))) ⟨oe,sE.extBut _ _ hez hoe,hce⟩
end
abbrev zpIt (b:Bool) (l:Addr):Obj:={ cls:=.type (if b = true then "list_iterator" else "tuple_iterator"),data:=.fields #[.ref l,.int 0 0] }
abbrev zp2 (b:Bool) (h:Heap) (l1 l2:Addr):Heap:=(h.push (zpIt b l1)).push (zpIt b l2)
abbrev zp3 (b:Bool) (h:Heap) (l1 l2:Addr):Heap:=(zp2 b h l1 l2).push { cls:=.type "tuple",data:=.seq #[.ref h.objs.size,.ref (h.push (zpIt b l1)).objs.size] }
abbrev zp4 (b:Bool) (h:Heap) (l1 l2:Addr):Heap:=(zp3 b h l1 l2).push { cls:=.type "tuple",data:=.seq #[.none,.none] }
abbrev zp5 (b:Bool) (h:Heap) (l1 l2:Addr):Heap:=(zp4 b h l1 l2).push { cls:=.type "zip",data:=.fields #[.none,.bool false,.bool false,.ref (zp2 b h l1 l2).objs.size,.ref (zp3 b h l1 l2).objs.size] }
theorem jok (l1 l2:Addr) (xs ys:Array Value) :
  Meets (Builtin.«zip.__new__» ⟨[.type "zip",.ref l1,.ref l2],[]⟩) (fun _ R s=>s.heap.IsTuple l1 xs/\s.heap.IsTuple l2 ys/\R (.ok (.ret (.ref (zp4 false s.heap l1 l2).objs.size))) { s with heap:=zp5 false s.heap l1 l2 }) :=
 .of_wp fun prog w A R s h=>by
  obtain ⟨hp,g,d,tk,os⟩:=s; obtain ⟨hl1,hl2,h⟩:=h
  have hsub:=sub_zip
  have hL1:Heap.IsTuple (Shared.heap ⟨hp,g,d,tk,os⟩) l1 xs:=hl1
  have hL2:Heap.IsTuple (Shared.heap ⟨hp.push { cls:=.type "tuple_iterator",data:=.fields #[.ref l1,.int 0 0] },g,d,tk,os⟩) l2 ys:=Heap.IsTuple.push hl2 _
  wp_walk using wpAny_pyIter_tuple hL1,wpAny_pyIter_tuple hL2
  exact ⟨_,rfl,h⟩
section
variable {prog:Program} {w:World} {A:Around} {E:Value->Shared->Prop} {s:Shared}
theorem jv8 {b:Bool} {l1 l2:Addr} {xs ys:Array Value} {Q:Value->Shared->Prop} (hl1:IsSq b s.heap l1 xs) (hl2:IsSq b s.heap l2 ys)
  (h:∀ h',IsZip h' (s.heap.objs.size + 4) (s.heap.objs.size + 2) (s.heap.objs.size + 3) .none->IsPair h' (s.heap.objs.size + 2) (.ref s.heap.objs.size) (.ref (s.heap.objs.size + 1)) ->
   IsPair h' (s.heap.objs.size + 3) .none .none->jcp b h' s.heap.objs.size l1 0->jcp b h' (s.heap.objs.size + 1) l2 0->(∀ c o,s.heap.get? c = some o->h'.get? c = some o)->Q (.ref (s.heap.objs.size + 4)) { s with heap:=h' }) :
  wpAny (model prog w) A (call (.type "zip") [.ref l1,.ref l2]) Q E s:=by
 cases b with
 | true=>exact call_zip_2 (show s.heap.IsList l1 xs from hl1) (show s.heap.IsList l2 ys from hl2) fun h' a1 a2 a3 a4 a5 _ a7=>h h' a1 a2 a3 a4 a5 a7
 | false =>
  refine callType_new F.called_zip (by decide) (F.typeCall_zip_2 _ _) (F.newCall_zip_2 _ _) (fun obj=>F.args_object_init_3 obj _ _) F.entry_zip_new (jok l1 l2 xs ys) ⟨hl1,hl2,?_⟩
  have q1:(s.heap.push (zpIt false l1)).objs.size = s.heap.objs.size + 1:=Heap.size_push ..
  have q2:(zp2 false s.heap l1 l2).objs.size = s.heap.objs.size + 2:=by rw [Heap.size_push,q1]
  have q3:(zp3 false s.heap l1 l2).objs.size = s.heap.objs.size + 3:=by rw [Heap.size_push,q2]
  have q4:(zp4 false s.heap l1 l2).objs.size = s.heap.objs.size + 4:=by rw [Heap.size_push,q3]
  have p5:(zp5 false s.heap l1 l2).get? (zp4 false s.heap l1 l2).objs.size = some _:=Heap.get?_push_size _ rfl
  have p4:(zp5 false s.heap l1 l2).get? (zp3 false s.heap l1 l2).objs.size = some _:=Heap.get?_push_of_some _ (Heap.get?_push_size _ rfl)
  have p3:(zp5 false s.heap l1 l2).get? (zp2 false s.heap l1 l2).objs.size = some _:=Heap.get?_push_of_some _ (Heap.get?_push_of_some _ (Heap.get?_push_size _ rfl))
  have p2:(zp5 false s.heap l1 l2).get? (s.heap.push (zpIt false l1)).objs.size = some _:=Heap.get?_push_of_some _ (Heap.get?_push_of_some _ (Heap.get?_push_of_some _ (Heap.get?_push_size _ rfl)))
  have p1:(zp5 false s.heap l1 l2).get? s.heap.objs.size = some _:=Heap.get?_push_of_some _ (Heap.get?_push_of_some _ (Heap.get?_push_of_some _ (Heap.get?_push_of_some _ (Heap.get?_push_size _ rfl))))
  show _/\_
  rw [q2,q3,q4] at p5
  rw [q1,q2] at p3
  rw [q3] at p4
  rw [q1] at p2
  rw [q4]
  exact ⟨⟨_,p5,rfl⟩,h _ p5 p3 p4 (show Heap.IsTupleIter _ _ _ _ from ⟨_,p1,rfl,rfl⟩) (show Heap.IsTupleIter _ _ _ _ from ⟨_,p2,rfl,rfl⟩) fun c o x =>
   Heap.get?_push_of_some _ (Heap.get?_push_of_some _ (Heap.get?_push_of_some _ (Heap.get?_push_of_some _ (Heap.get?_push_of_some _ x))))⟩
end
def SqB (b:Bool) (K:PySem.W.Frag) (H:Hp) (a:Addr) (xs:List V):Prop:=if b = true then SqL K H a xs else SqT K H a xs
theorem Inv.sqB {X:Cx} {pins:List (Addr × Obj)} {σ:St} {H:Hp} {s:Shared} {b:Bool} {a:Addr} {xs:List V} (I:Inv X pins σ H s) (h:SqB b X.K H a xs):∃ its:List Value,Vals xs its/\IsSq b s.heap a its.toArray/\xs.length <= sizeLine:=by
 cases b with
 | true =>
  obtain ⟨its,r,p,z⟩:=I.list (show SqL X.K H a xs from h)
  exact ⟨its,r,p.isList,z⟩
 | false =>
  obtain ⟨its,r,p,z⟩:=I.tuple (show SqT X.K H a xs from h)
  exact ⟨its,r,(show s.heap.IsTuple a its.toArray from p),z⟩
theorem Inv.sqB_inj {X:Cx} {pins:List (Addr × Obj)} {σ:St} {H:Hp} {s:Shared} {b:Bool} {a:Addr} {xs ys:List V} (I:Inv X pins σ H s) (h:SqB b X.K H a xs) (h':SqB b X.K H a ys):xs = ys:=by
 cases b with
 | true=>exact I.list_inj (show SqL X.K H a xs from h) (show SqL X.K H a ys from h')
 | false=>exact I.tuple_inj (show SqT X.K H a xs from h) (show SqT X.K H a ys from h')
def Itz (b:Bool) (K:PySem.W.Frag) (a c:Addr):It :=
  ⟨fun i H=>∃ xs ys x y,SqB b K H a xs/\SqB b K H c ys/\xs[i]? = some x/\ys[i]? = some y,
   fun i H v H'=>∃ t x y,H t = none/\v = .ref t/\H' = upd H t (.tup [x,y])/\(∀ xs,SqB b K H a xs->xs[i]? = some x)/\∀ ys,SqB b K H c ys->ys[i]? = some y,
   fun i H=>∃ xs ys,SqB b K H a xs/\SqB b K H c ys/\(xs.length <= i \/ ys.length <= i)⟩
theorem jeg {X:Cx} {pins:List (Addr × Obj)} {σ:St} {H:Hp} {s:Shared} {b:Bool} {a j:Addr} {xs:List V} (I:Inv X pins σ H s) (h:SqB b X.K H a xs) (f:FpOk X pins H j):a ≠ j:=by
 intro e
 subst e
 have key:∀ {o},X.K.lookup a = some o->False:=fun {o} q=>by
  have q1:=I.mod.kin a o q
  rcases f.2.2.2.1 with z | z
  ·exact I.ok.noex a o q1 z
  ·exact absurd (Nat.lt_of_lt_of_le (Heap.lt_size q1) (Nat.le_trans I.ok.bsz z)) (Nat.lt_irrefl _)
 cases b with
 | true =>
  rcases (show SqL X.K H a xs from h) with (h | ⟨o,h⟩) | ⟨o,its,n,hk,_⟩
  ·rw [f.1] at h; cases h
  ·rw [f.1] at h; cases h
  ·exact key hk
 | false =>
  rcases (show SqT X.K H a xs from h) with (h | ⟨o,h⟩) | ⟨o,its,n,hk,_⟩
  ·rw [f.1] at h; cases h
  ·rw [f.1] at h; cases h
  ·exact key hk
structure ZpA (z TI TO i1 i2:Addr):Prop where
 TIz:TI ≠ z
 TOz:TO ≠ z
 i1z:i1 ≠ z
 i2z:i2 ≠ z
 TITO:TI ≠ TO
 TIi1:TI ≠ i1
 TIi2:TI ≠ i2
 TOi1:TO ≠ i1
 TOi2:TO ≠ i2
 i12:i1 ≠ i2
theorem jr4 {P:Program} {w:World} {K:PySem.W.Frag} {elts:List Expr} {x1:Nat} {pos:Pos} (b:Bool) (a c z TI TO i1 i2:Addr) (D0:ZpA z TI TO i1 i2) :
  Turn P w K (.Tuple elts x1 pos) (Itz b K a c) [z,TI,TO,i1,i2] z (fun i h=>IsZip h z TI TO .none/\IsPair h TI (.ref i1) (.ref i2)/\(∃ u v,IsPair h TO u v)/\jcp b h i1 a i/\jcp b h i2 c i) where
 mem:=by simp
 obj:=fun i h st d hd=>by
  obtain ⟨hz,hTI,⟨u,v,hTO⟩,h1,h2⟩:=st
  have q:d = z \/ d = TI \/ d = TO \/ d = i1 \/ d = i2:=by simpa using hd
  rcases q with rfl | rfl | rfl | rfl | rfl
  ·exact ⟨_,hz,fun v z=>by
    have z':Data.fields _ = Data.cell v:=z
    cases z'⟩
  ·exact ⟨_,hTI,fun v z=>by
    have z':Data.seq _ _ = Data.cell v:=z
    cases z'⟩
  ·exact ⟨_,hTO,fun v z=>by
    have z':Data.seq _ _ = Data.cell v:=z
    cases z'⟩
  ·exact h1.obj
  ·exact h2.obj
 keep:=fun i h h' st k=>by
  obtain ⟨hz,hTI,⟨u,v,hTO⟩,h1,h2⟩:=st
  exact ⟨k z (by simp) _ hz,k TI (by simp) _ hTI,⟨u,v,k TO (by simp) _ hTO⟩,h1.at' fun o e=>k i1 (by simp) o e,h2.at' fun o e=>k i2 (by simp) o e⟩
 item:=by
  intro X hP hw hK hc i pins s σ H E I hf st hg
  subst hP hw hK
  obtain ⟨hz,hTI,⟨u0,v0,hTO⟩,h1,h2⟩:=st
  obtain ⟨xs,ys,x,y,hq1,hq2,hx,hy⟩:=hg
  obtain ⟨its1,rv1,p1,hz1⟩:=I.sqB hq1
  obtain ⟨its2,rv2,p2,hz2⟩:=I.sqB hq2
  obtain ⟨u1,hu1,ru1⟩:=rv1.get hx
  obtain ⟨u2,hu2,ru2⟩:=rv2.get hy
  have D:ZipApart z TI TO i1 i2 a c:=⟨D0.TIz,D0.TOz,D0.i1z,D0.i2z,D0.TITO,D0.TIi1,D0.TIi2,D0.TOi1,D0.TOi2,D0.i12,
   jeg I hq1 (hf z (by simp)),jeg I hq1 (hf TO (by simp)),jeg I hq1 (hf i1 (by simp)),jeg I hq1 (hf i2 (by simp)),jeg I hq2 (hf z (by simp)),jeg I hq2 (hf TO (by simp)),jeg I hq2 (hf i1 (by simp)),jeg I hq2 (hf i2 (by simp))⟩
  have zlt:z < s.heap.objs.size:=Heap.lt_size hz
  have hT:s.TypeIs (.ref z) "zip":=⟨_,hz,rfl⟩
  unfold pyNext
  refine wpAny_bind (wpAny_attempt (wpAny_callSpecial?_slot (name:=Str.ofString "__next__") hT F.slot_zip_next (wpAny_call_entry F.slot_zip_next hT F.entry_zip_next
   (jk0 (b:=b) D hz hTI hTO h1 h2 p1 p2 (x:=u1) (y:=u2) (by simpa using hu1) (by simpa using hu2) fun h' a1 a2 a3 a4 a5 a7=>wpAny_pure ?_) (F.args_zip_next_1 _))))
  refine ⟨_,rfl,wpAny_letOwnedTupleGo_zip a1 fun g hz' hs'=>?_⟩
  replace hs':Heap.SameBut z h' g:=hs'
  have kk:∀ d ob,d ∉ [z,TI,TO,i1,i2]->s.heap.get? d = some ob->g.get? d = some ob:=fun d ob hd q=>by
   have hd':d ≠ z/\d ≠ TI/\d ≠ TO/\d ≠ i1/\d ≠ i2:=by simpa using hd
   exact hs'.extBut _ _ hd'.1 (a7 d ob hd'.1 hd'.2.2.1 hd'.2.2.2.1 hd'.2.2.2.2 q)
  have hT2:g.get? s.heap.objs.size = some { cls:=.type "tuple",data:=.seq #[u1,u2] }:=hs'.extBut _ _ (Nat.ne_of_gt zlt) a5
  refine ⟨.ref s.heap.objs.size,upd H s.heap.objs.size (.tup [x,y]),I.turnedNew (ch:=[z,TI,TO,i1,i2]) (t':=s.toks) (Nat.le_refl _) kk hf ?_,rfl,
   ⟨_,x,y,I.fresh,rfl,rfl,fun zs hq=>by rw [I.sqB_inj hq hq1]; exact hx,fun zs hq=>by rw [I.sqB_inj hq hq2]; exact hy⟩,
   ⟨hz',hs'.extBut _ _ D.TIz (a7 _ _ D.TIz D.TITO D.TIi1 D.TIi2 hTI),⟨_,_,hs'.extBut _ _ D.TOz a2⟩,a3.at' fun o e=>hs'.extBut _ _ D.i1z e,a4.at' fun o e=>hs'.extBut _ _ D.i2z e⟩,fun d hd=>?_⟩
  ·exact ⟨by show 2 <= sizeLine; decide,[u1,u2],.cons ru1 (.cons ru2 .nil),⟨_,hT2,rfl,_,rfl⟩⟩
  ·have dlt:d < s.heap.objs.size:=by
    have q:d = z \/ d = TI \/ d = TO \/ d = i1 \/ d = i2:=by simpa using hd
    rcases q with rfl | rfl | rfl | rfl | rfl
    ·exact zlt
    ·exact Heap.lt_size hTI
    ·exact Heap.lt_size hTO
    ·obtain ⟨o,e,_⟩:=h1.obj; exact Heap.lt_size e
    ·obtain ⟨o,e,_⟩:=h2.obj; exact Heap.lt_size e
   rw [jb7 (Nat.ne_of_lt dlt)]
   exact (hf d hd).1
 done:=by
  intro X hP hw hK hc i pins s σ H E I hf st hg
  subst hP hw hK
  obtain ⟨hz,hTI,⟨u0,v0,hTO⟩,h1,h2⟩:=st
  obtain ⟨xs,ys,hq1,hq2,hlen⟩:=hg
  obtain ⟨its1,rv1,p1,hz1⟩:=I.sqB hq1
  obtain ⟨its2,rv2,p2,hz2⟩:=I.sqB hq2
  have e1:=rv1.length
  have e2:=rv2.length
  have D:ZipApart z TI TO i1 i2 a c:=⟨D0.TIz,D0.TOz,D0.i1z,D0.i2z,D0.TITO,D0.TIi1,D0.TIi2,D0.TOi1,D0.TOi2,D0.i12,
   jeg I hq1 (hf z (by simp)),jeg I hq1 (hf TO (by simp)),jeg I hq1 (hf i1 (by simp)),jeg I hq1 (hf i2 (by simp)),jeg I hq2 (hf z (by simp)),jeg I hq2 (hf TO (by simp)),jeg I hq2 (hf i1 (by simp)),jeg I hq2 (hf i2 (by simp))⟩
  have hT:s.TypeIs (.ref z) "zip":=⟨_,hz,rfl⟩
  unfold pyNext
  refine wpAny_bind (wpAny_attempt (wpAny_callSpecial?_slot (name:=Str.ofString "__next__") hT F.slot_zip_next (wpAny_call_entry F.slot_zip_next hT F.entry_zip_next
   (jli (b:=b) (I.ok.hd hc) D hz hTI hTO h1 h2 p1 p2 (by rcases hlen with h | h; exact .inl (by simp; omega); exact .inr (by simp; omega)) fun h' e hk he=>?_) (F.args_zip_next_1 _))))
  obtain ⟨o,ho,hcl⟩:=he
  refine wpAny_bind (wpAny_isInstance (T:="StopIteration") (b:=true) ⟨o,ho,hcl⟩ isSubtype_stop ?_)
  exact wpAny_pure ⟨rfl,I.turnedAll (ch:=[z,TI,TO,i1,i2]) (t':=s.toks) (fun d ob hd q=>by
   have hd':d ≠ z/\d ≠ TI/\d ≠ TO/\d ≠ i1/\d ≠ i2:=by simpa using hd
   exact hk d ob hd'.1 hd'.2.2.1 hd'.2.2.2.1 hd'.2.2.2.2 q) hf⟩
 self:=fun _ _ _ _ _ st h=>wpAny_pyIter_zip st.1 h
theorem jlh {X:Cx} {b:Bool} {elts:List Expr} {x1:Nat} {tpos:Pos} {pins:List (Addr × Obj)} {σ:St} {H1:Hp} {s1:Shared} {R:It->Hp->Prop} {a c:Addr} {xs ys:List V} (I1:Inv X pins σ H1 s1) (hq1:SqB b X.K H1 a xs) (hq2:SqB b X.K H1 c ys) (q:R (Itz b X.K a c) H1) :
  wpAny (model X.prog X.w) X.A (call (.type "zip") [.ref a,.ref c]) (fun v s2=>wpAny (model X.prog X.w) X.A (pyIter v) (PIE X pins σ (.Tuple elts x1 tpos) R) X.xe s2) X.xe s1:=by
 obtain ⟨its1,rv1,p1,hz1⟩:=I1.sqB hq1
 obtain ⟨its2,rv2,p2,hz2⟩:=I1.sqB hq2
 refine jv8 p1 p2 fun h' a1 a2 a3 a4 a5 hk=>?_
 refine wpAny_pyIter_zip a1 ?_
 have I2:Inv X pins σ H1 { s1 with heap:=h' }:=I1.kept (t':=s1.toks) fun b o q=>hk b o q
 have ne:∀ i j:Nat,i ≠ j->s1.heap.objs.size + i ≠ s1.heap.objs.size + j:=fun i j h e=>h (Nat.add_left_cancel e)
 refine ⟨_,[s1.heap.objs.size + 4,s1.heap.objs.size + 2,s1.heap.objs.size + 3,s1.heap.objs.size,s1.heap.objs.size + 1],_,_,H1,rfl,I2,jr4 b a c _ _ _ _ _ ⟨ne 2 4 (by decide),ne 3 4 (by decide),ne 0 4 (by decide),ne 1 4 (by decide),ne 2 3 (by decide),ne 2 0 (by decide),ne 2 1 (by decide),ne 3 0 (by decide),ne 3 1 (by decide),ne 0 1 (by decide)⟩,
  ⟨a1,a2,⟨_,_,a3⟩,a4,a5⟩,fun d hd=>?_,q⟩
 have hd':d = s1.heap.objs.size + 4 \/ d = s1.heap.objs.size + 2 \/ d = s1.heap.objs.size + 3 \/ d = s1.heap.objs.size \/ d = s1.heap.objs.size + 1:=by simpa using hd
 have hle:s1.heap.objs.size <= d:=by
  rcases hd' with e | e | e | e | e <;> rw [e]
  ·exact Nat.le_add_right _ _
  ·exact Nat.le_add_right _ _
  ·exact Nat.le_add_right _ _
  ·exact Nat.le_refl _
  ·exact Nat.le_add_right _ _
 exact I1.fpOk hle (I1.hok.fresh hle)
def juu (K:PySem.W.Frag) (ta:TA):TI:=fun σ H R=>ta σ H fun vs H1=>∃ (b:Bool) (a c:Addr),vs = [.ref a,.ref c]/\(∃ xs,SqB b K H1 a xs)/\(∃ ys,SqB b K H1 c ys)/\R (Itz b K a c) H1
theorem jpk {X:Cx} {elts:List Expr} {x1:Nat} {tpos:Pos} {a c:Expr} {ta:TA} {p pos:Pos} (hg:Gl X "zip") (hm:X.mg "zip" = none) (ha:PA X [a,c] ta) (hs:starEach [a,c] X.env = [(false,eval a X.env),(false,eval c X.env)]:=by rfl) (hs2:starEach [c] X.env = [(false,eval c X.env)]:=by rfl) :
  PI X (.Tuple elts x1 tpos) (.Call (.Name "zip" p) [a,c] [] pos) (juu X.K ta):=by
 intro pins s σ H R I h
 refine Call_ (jfu I hg hm boot_zip (PyProof.Rows.callWith_type1 (thn (ha pos pins s σ H _ I h) fun us s1 ⟨vs,H1,I1,r1,q1⟩=>?_) (by rw [hs,hs2]) (by rw [hs2]; rfl)))
 obtain ⟨b,a,c,e,⟨xs,hq1⟩,⟨ys,hq2⟩,q⟩:=q1
 subst e
 cases r1 with
 | cons r rr =>
  cases rr with
  | cons r' rr =>
   cases rr
   cases r
   cases r'
   exact jlh I1 hq1 hq2 q
theorem jku:typeLookup (.type "list") "keys" = pure none:=by rw [typeLookup_type,builtinLookup_eq_fast]; kernel_rfl
theorem jh5:typeLookup (.type "list") "__getattr__" = pure none:=by rw [typeLookup_type,builtinLookup_eq_fast]; kernel_rfl
theorem jin:isSubtype (.type "AttributeError") (.type "AttributeError") = pure true:=by rw [isSubtype_type]; kernel_rfl
section
variable {prog:Program} {w:World} {A:Around} {E:Value->Shared->Prop} {h:Heap} {g:Array GenState} {d:Drawn} {t:Nat} {os:OsState} {a:Addr} {o:Obj}
theorem jny {α:Type} {Q:α->Shared->Prop} {u:Value} {x msg:Str} (hh:A.handled = none) (hm:msg.length <= sizeLine)
  (hE:∀ h' e tk,(∀ b o,h.get? b = some o->h'.get? b = some o)->(∃ o,h'.get? e = some o/\o.cls = .type "AttributeError")->E (.ref e) ⟨h',g,d,tk,os⟩) :
  wpAny (model prog w) A (raiseAttrError u x msg:Sem α) Q E ⟨h,g,d,t,os⟩:=by
 unfold raiseAttrError
 refine wpAny_bind (wpAny_mkStr ?_ hm)
 simp only [newExc,newTuple]
 refine wpAny_bind (wpAny_bind (wpAny_newObj_type ?_ (by size_fits)))
 refine wpAny_bind (m:=firstArgMember _ _) (wpAny_of_eq (a:=Value.none) (by first | rfl | (simp only [firstArgMember]; rfl)) ?_)
 refine wpAny_newObj_type ?_ (by size_fits)
 refine wpAny_bind (wpAny_mkText ?_)
 dsimp only
 refine wpAny_bind ?_
 unfold noteAttr
 generalize hh1:h.push { cls:=.type "tuple",data:=.seq #[.str msg t] } = h1
 have k1:∀ b o,h.get? b = some o->h1.get? b = some o:=fun b o q=>by rw [<- hh1]; exact Heap.get?_push_of_some _ q
 have hg:(h1.push { cls:=.type "AttributeError",data:=.fields #[.ref h.objs.size,.none,.none,.none,.bool false,.none,unsetMember,unsetMember] }).get? h1.objs.size = some _:=Heap.get?_push_size _ rfl
 have k2:∀ b o,h.get? b = some o->(h1.push { cls:=.type "AttributeError",data:=.fields #[.ref h.objs.size,.none,.none,.none,.bool false,.none,unsetMember,unsetMember] }).get? b = some o:=fun b o q=>Heap.get?_push_of_some _ (k1 b o q)
 have nb:∀ b o,h.get? b = some o->b ≠ h1.objs.size:=fun b o q=>Nat.ne_of_lt (Heap.lt_size (k1 b o q))
 show wpAny _ _ (lacksNameAndObj (.ref h1.objs.size) >>= _) _ _ ⟨h1.push { cls:=.type "AttributeError",data:=.fields #[.ref h.objs.size,.none,.none,.none,.bool false,.none,unsetMember,unsetMember] },g,d,t + 1 + 1,os⟩
 generalize hh2:h1.push { cls:=.type "AttributeError",data:=.fields #[.ref h.objs.size,.none,.none,.none,.bool false,.none,unsetMember,unsetMember] } = h2 at hg k2
 generalize h1.objs.size = e at hg nb
 clear hh2 k1 hh1
 have hT:(⟨h2,g,d,t + 1 + 1,os⟩:Shared).TypeIs (.ref e) "AttributeError":=⟨_,hg,rfl⟩
 refine wpAny_bind ?_
 unfold lacksNameAndObj
 refine wpAny_bind (wpAny_isInstance hT jin ?_)
 simp only [Bool.not_true,Bool.false_eq_true,if_false]
 refine wpAny_bind (wpAny_load hg ?_)
 show wpAny _ _ (pure true) _ _ _
 refine wpAny_pure ?_
 simp only [if_true]
 refine wpAny_bind (wpAny_rule (wpAny_bind (wpAny_typeOf hT ?_)))
 show wpAny _ _ (layMembers e 6 #[_,u]) _ _ _
 unfold layMembers
 refine wpAny_bind (wpAny_load hg ?_)
 show wpAny _ _ (update e _) _ _ _
 refine wpAny_update hg ?_
 refine wpAny_raiseNew_none hh (hE _ _ _ (fun b o q=>?_) ⟨_,Heap.get?_update_self _ hg rfl,rfl⟩)
 exact (Heap.get?_update_other _ _ (nb b o q).symm).trans (k2 b o q)
theorem jkp {tk:Tok} {Q:PySem.Fin->Shared->Prop} {its:Array Value} {n:Nat} (hx:h.get? a = some { cls:=.type "list",dict:=none,data:=.seq its n,slots:=#[] }) (hh:A.handled = none)
  (hE:∀ h' e tk,(∀ b o,h.get? b = some o->h'.get? b = some o)->(∃ o,h'.get? e = some o/\o.cls = .type "AttributeError")->E (.ref e) ⟨h',g,d,tk,os⟩) :
  wpAny (model prog w) A (Builtin.«object.__getattribute__» ⟨[.ref a,.str "keys" tk],[]⟩) Q E ⟨h,g,d,t,os⟩:=by
 have hT:(⟨h,g,d,t,os⟩:Shared).TypeIs (.ref a) "list":=⟨_,hx,rfl⟩
 have f4:=jku
 repeat (any_goals (first | assumption | wp_step))
 refine jny hh (by decide +kernel) hE
theorem jpz {tk:Tok} {Q:Value->Shared->Prop} {its:Array Value} {n:Nat} (hx:h.get? a = some { cls:=.type "list",dict:=none,data:=.seq its n,slots:=#[] }) (hh:A.handled = none)
  (hE:∀ h' e tk,(∀ b o,h.get? b = some o->h'.get? b = some o)->(∃ o,h'.get? e = some o/\o.cls = .type "AttributeError")->E (.ref e) ⟨h',g,d,tk,os⟩) :
  wpAny (model prog w) A (getAttrBy (.ref a) (.str "keys" tk) false) Q E ⟨h,g,d,t,os⟩:=by
 have hT:(⟨h,g,d,t,os⟩:Shared).TypeIs (.ref a) "list":=⟨_,hx,rfl⟩
 have f2:=F.slot_list_getattribute.lookup
 have f3:=F.slot_list_getattribute.bind (.ref a)
 repeat (any_goals (first | assumption | wp_step))
 refine codeAny_call_builtin F.slot_list_getattribute.plain F.entry_list_ga (F.slot_list_getattribute.check _ _ _ _ _ _ _ _ (show (⟨h,g,d,t,os⟩:Shared).TypeIs (.ref a) "list" from ⟨_,hx,rfl⟩) (F.args_list_getattribute_2 _ _) (jkp hx ?_ ?_))
 ·exact hh
 ·intro h' e tk k q
  obtain ⟨oe,he,hc⟩:=q
  have hT2:(⟨h',g,d,tk,os⟩:Shared).TypeIs (.ref e) "AttributeError":=⟨_,he,hc⟩
  have f5:=jin
  have f6:=jh5
  show wpAny _ A (getattributeRaised (Value.ref a) _ (Value.type "list") (.ref e) none false false) _ _ _
  have done:=hE h' e tk k ⟨oe,he,hc⟩
  unfold getattributeRaised
  repeat (any_goals (first | assumption | wp_step))
theorem jt4 {Q:Option Value->Shared->Prop} {its:Array Value} {n:Nat} (hx:h.get? a = some { cls:=.type "list",dict:=none,data:=.seq its n,slots:=#[] }) (hh:A.handled = none)
  (hq:∀ h' tk,(∀ b o,h.get? b = some o->h'.get? b = some o)->Q none ⟨h',g,d,tk,os⟩):wpAny (model prog w) A (getAttr? (.ref a) "keys") Q E ⟨h,g,d,t,os⟩:=by
 unfold getAttr? getAttrBy?
 refine wpAny_bind (wpAny_mkText (wpAny_bind (wpAny_attempt (jpz hx hh fun h' e tk k q=>?_))))
 obtain ⟨oe,he,hc⟩:=q
 refine wpAny_bind (wpAny_isInstance (T:="AttributeError") (b:=true) ⟨_,he,hc⟩ jin ?_)
 exact wpAny_pure (hq h' tk k)
end
theorem jc4:entryFor table "dict.update.loop" = some Builtin.«dict.update.loop»:=entryFor_of_fast (by kernel_rfl)
theorem jbl:plainId "dict.update.loop" = true:=by decide +kernel
theorem jns {K:Type} [DecidableEq K] (kvs:List (K × Value)) (k:K) (v:Value):(stored kvs k v).length <= kvs.length + 1:=by
 unfold stored
 split
 ·rw [List.length_map]; omega
 ·rw [List.length_append]; exact Nat.le_refl _
section
variable {prog:Program} {w:World} {A:Around} {E:Value->Shared->Prop} {K:Type} [DecidableEq K] {knd:KeyKind prog w K} {R:Result->Shared->Prop}
theorem jqp {d it l:Addr} {its:Array Value} {more:List (K × Value)} (hh:A.handled = none) (hlen:more.length = its.size) (hsz:its.size <= 1000) (hdl:l ≠ d) (hdi:it ≠ d) (hil:l ≠ it) :
  ∀ (k i:Nat) (tk0:Tok) (s:Shared) (kvs:List (K × Value)),its.size - i = k->i <= its.size->kvs.length <= i->s.heap.IsListIter it l i->s.heap.IsList l its->s.heap.DictOf knd d kvs ->
   (∀ (j:Nat) (q:K × Value),more[j]? = some q->∃ t kv,its[j]? = some (.ref t)/\s.heap.IsTuple t #[kv,q.2]/\knd.is q.1 kv = true) ->
   (∀ h' tk,h'.DictOf knd d (merged kvs (more.drop i))->(∀ b o,b ≠ d->b ≠ it->s.heap.get? b = some o->h'.get? b = some o)->R (.ok (.ret .none)) { s with heap:=h',toks:=tk }) ->
   codeAny (model prog w) A (.builtin "dict.update.loop" ⟨[.ref d,.ref it,.int i tk0,.none],[]⟩) R s:=by
 intro k
 induction k with
 | zero =>
  intro i tk0 s kvs hk hi hkl hit hl hd hp hR
  have e:i = its.size:=by omega
  subst e
  refine codeAny_builtin jc4 ?_
  rw [Around.under_plainId jbl _]
  show wpAny _ A.in1 (pyNext (.ref it) >>= _) _ _ s
  refine wpAny_bind (wpAny_pyNext_list_end hh hit hl (by simp) fun h' eb=>?_)
  show wpAny _ A.in1 (Builtin.Dict.addKeywords d [] >>= _) _ _ _
  refine wpAny_bind (wpAny_pure (wpAny_pure ?_))
  refine hR h' s.toks ?_ fun b o _ hb q=>eb b o hb q
  rw [List.drop_eq_nil_of_le (by omega)]
  exact hd.extBut eb hdi.symm
 | succ k ih =>
  intro i tk0 s kvs hk hi hkl hit hl hd hp hR
  have hlt:i < its.size:=by omega
  have hlm:i < more.length:=by omega
  obtain ⟨t,kv,hu,ht,hkey⟩:=hp i more[i] (by simp [hlm])
  refine codeAny_builtin jc4 ?_
  rw [Around.under_plainId jbl _]
  show wpAny _ A.in1 (pyNext (.ref it) >>= _) _ _ s
  refine wpAny_bind (wpAny_pyNext_list_item hit hl hu fun h1 hit1 sb1=>?_)
  have nti:t ≠ it:=fun z=>by
   subst z
   obtain ⟨o,e1,c1,_⟩:=ht
   obtain ⟨o',e2,c2,_⟩:=hit
   rw [e1] at e2; cases e2; rw [c1] at c2; exact absurd c2 (by decide)
  have ntd:t ≠ d:=fun z=>by
   subst z
   obtain ⟨o,e1,c1,_⟩:=ht
   obtain ⟨o',_,_,e2,c2,_⟩:=hd
   rw [e1] at e2; cases e2; rw [c2.1] at c1; exact absurd c1 (by decide)
  have ht1:h1.IsTuple t #[kv,more[i].2]:=ht.extBut sb1.extBut nti
  have hd1:h1.DictOf knd d kvs:=hd.extBut sb1.extBut hdi.symm
  show wpAny _ A.in1 (holding [.ref t] _ >>= _) _ _ _
  refine wpAny_bind (wpAny_holding ?_)
  refine wpAny_bind (m:=(Builtin.Dict.pairItems (.ref t)).tryCatch _) ?_
  refine wpAny_tryCatch ?_
  unfold Builtin.Dict.pairItems
  refine wpAny_bind (wpAny_typeOf ht1.typeIs ?_)
  obtain ⟨ot,e1,c1,n1,d1⟩:=id ht1
  rw [if_pos (by decide)]
  refine wpAny_bind (wpAny_seqItems e1 d1 ?_)
  refine wpAny_pure ?_
  show wpAny _ A.in1 (holding [kv,more[i].2] (dictSet d kv more[i].2)) _ _ _
  refine wpAny_holding (wpAny_dictSet_pairs hkey hd1 (fun h2 hd2 sb2=>?_) (by have:=(by decide:1000 <= sizeLine); omega))
  replace sb2:Heap.SameBut d h1 h2:=sb2
  have kk:∀ b o,b ≠ d->b ≠ it->s.heap.get? b = some o->h2.get? b = some o:=fun b o b1 b2 q=>sb2.extBut b o b1 (sb1.extBut b o b2 q)
  refine wpAny_pure ⟨plainId_quiet jbl _,?_⟩
  have hik:((i:Int) + 1) = ((i + 1:Nat):Int):=by omega
  show codeAny _ _ (.builtin "dict.update.loop" ⟨[.ref d,.ref it,rawInt ((i:Int) + 1),.none],[]⟩) _ _
  rw [hik]
  refine ih (i + 1) 0 _ (stored kvs more[i].1 more[i].2) (by omega) (by omega) ?_ (hit1.extBut sb2.extBut hdi) ((hl.extBut sb1.extBut hil).extBut sb2.extBut hdl) hd2 ?_ ?_
  ·have:=jns kvs more[i].1 more[i].2
   omega
  ·intro j q hq
   obtain ⟨t',kv',a1,a2,a3⟩:=hp j q hq
   have n1:t' ≠ it:=fun z=>by
    subst z
    obtain ⟨o,e1,c1,_⟩:=a2
    obtain ⟨o',e2,c2,_⟩:=hit
    rw [e1] at e2; cases e2; rw [c1] at c2; exact absurd c2 (by decide)
   have n2:t' ≠ d:=fun z=>by
    subst z
    obtain ⟨o,e1,c1,_⟩:=a2
    obtain ⟨o',_,_,e2,c2,_⟩:=hd
    rw [e1] at e2; cases e2; rw [c2.1] at c1; exact absurd c1 (by decide)
   exact ⟨t',kv',a1,(a2.extBut sb1.extBut n1).extBut sb2.extBut n2,a3⟩
  ·intro h' tk hd' k'
   refine hR h' tk ?_ fun b o b1 b2 q=>k' b o b1 b2 (kk b o b1 b2 q)
   rw [List.drop_eq_getElem_cons hlm]
   exact hd'
theorem jhr {l:Addr} {its:Array Value} {c:Nat} {more:List (K × Value)} {s:Shared} {Q:Value->Shared->Prop} (hh:A.handled = none) (hl:s.heap.get? l = some { cls:=.type "list",dict:=none,data:=.seq its c,slots:=#[] }) (hlen:more.length = its.size) (hsz:its.size <= 1000)
  (hp:∀ (j:Nat) (q:K × Value),more[j]? = some q->∃ t kv,its[j]? = some (.ref t)/\s.heap.IsTuple t #[kv,q.2]/\knd.is q.1 kv = true)
  (h:∀ h' tk,h'.DictOf knd s.heap.objs.size (merged [] more)->(∀ b o,s.heap.get? b = some o->h'.get? b = some o)->Q (.ref s.heap.objs.size) { s with heap:=h',toks:=tk }) :
  wpAny (model prog w) A (call (.type "dict") [.ref l]) Q E s:=by
 refine callType_codes (Q₁:=fun obj s₁=>obj = .ref s.heap.objs.size/\s₁ = { s with heap:=s.heap.push { cls:=.type "dict",data:=.dict #[] } }) F.kt_called_dict (F.kt_typeCall_dict_1 _) F.entry_dict_init (kt_code_dict_new _ ⟨rfl,rfl⟩) ?_
 rintro obj s₁ ⟨rfl,rfl⟩
 have hnew:(s.heap.push { cls:=.type "dict",data:=.dict #[] }).DictOf knd s.heap.objs.size []:=Heap.DictOf.new s.heap
 have hl1:(s.heap.push { cls:=.type "dict",data:=.dict #[] }).get? l = some { cls:=.type "list",dict:=none,data:=.seq its c,slots:=#[] }:=Heap.get?_push_of_some _ hl
 have k1:∀ b o,s.heap.get? b = some o->(s.heap.push { cls:=.type "dict",data:=.dict #[] }).get? b = some o:=fun b o q=>Heap.get?_push_of_some _ q
 have llt:l < s.heap.objs.size:=Heap.lt_size hl
 generalize s.heap.push { cls:=.type "dict",data:=.dict #[] } = h1 at hnew hl1 k1
 refine ⟨hnew.typeIs,F.args_dict_init_2 _ _,?_⟩
 unfold Builtin.«dict.__init__»
 refine wpAny_bind ?_
 unfold Builtin.Dict.selfAndRest
 refine wpAny_bind (wpAny_notOrdered_dict hnew.typeIs ?_)
 show wpAny _ _ (pure (s.heap.objs.size,[Value.ref l])) _ _ _
 refine wpAny_pure ?_
 show wpAny _ _ (Builtin.Dict.updateFrom "dict.__init__" s.heap.objs.size (.ref l) [] .none) _ _ _
 unfold Builtin.Dict.updateFrom
 refine wpAny_bind (wpAny_typeOf (T:="list") ⟨_,hl1,rfl⟩ ?_)
 rw [if_pos (by decide)]
 refine wpAny_bind (jt4 hl1 hh fun h2 tk2 k2=>?_)
 have hl2:=k2 _ _ hl1
 have hd2:h2.DictOf knd s.heap.objs.size []:=let ⟨o,es,ep,ho,r⟩:=hnew; ⟨o,es,ep,k2 _ _ ho,r⟩
 have dlt:s.heap.objs.size < h2.objs.size:=by obtain ⟨_,_,_,ho,_⟩:=hd2; exact Heap.lt_size ho
 simp only [Option.isNone_none,if_true]
 refine wpAny_bind (wpAny_rule ?_)
 have hL:Heap.IsList h2 l its:=⟨_,hl2,rfl,_,rfl⟩
 refine wpAny_bind (wpAny_pyIter_list (s:={ s with heap:=h2,toks:=tk2 }) hL ?_)
 refine wpAny_pure ⟨plainId_quiet jbl _,?_⟩
 have hit:(h2.push { cls:=.type "list_iterator",data:=.fields #[.ref l,.int 0 0] }).IsListIter h2.objs.size l 0:=⟨_,Heap.get?_push_size _ rfl,rfl,rfl⟩
 refine jqp (A:=A.in1) (knd:=knd) (more:=more) hh hlen hsz (Nat.ne_of_lt llt) (Nat.ne_of_gt dlt) (Nat.ne_of_lt (Nat.lt_trans llt dlt)) its.size 0 0 { s with heap:=h2.push { cls:=.type "list_iterator",data:=.fields #[.ref l,.int 0 0] },toks:=tk2 } [] rfl (Nat.zero_le _) (Nat.le_refl _) hit (hL.push _) (hd2.push _) ?_ ?_
 ·intro j q hq
  obtain ⟨t,kv,a1,a2,a3⟩:=hp j q hq
  obtain ⟨o,e,r⟩:=a2
  exact ⟨t,kv,a1,⟨o,Heap.get?_push_of_some _ (k2 _ _ (k1 _ _ e)),r⟩,a3⟩
 ·intro h' tk hd' k'
  rw [List.drop_zero] at hd'
  refine ⟨rfl,h h' tk hd' fun b o q=>k' b o (Nat.ne_of_lt (Heap.lt_size q)) (Nat.ne_of_lt (Heap.lt_size (k2 _ _ (k1 _ _ q)))) (Heap.get?_push_of_some _ (k2 _ _ (k1 _ _ q)))⟩
end
def PairAt (H:Hp) (v:V) (p:Key × V):Prop:=∃ t,v = .ref t/\H t = some (.tup [kV p.1,p.2])
def rDictL (K:PySem.W.Frag):List V->Hp->VK->Prop:=fun vs H Q=>∃ l xs kvs,vs = [.ref l]/\H l = some (.lst xs)/\Paired (PairAt H) xs kvs/\xs.length <= 1000/\(kvs.map (·.1)).Nodup/\∀ d,H d = none->Q (.ref d) (upd H d (.dK kvs))
theorem jhz {X:Cx} {pins:List (Addr × Obj)} {σ:St} {H:Hp} {s:Shared} (I:Inv X pins σ H s):∀ {xs:List V} {kvs:List (Key × V)} {its:List Value},Paired (PairAt H) xs kvs->Vals xs its ->
  ∃ more:List (Key × Value),KV kvs more/\∀ (j:Nat) (q:Key × Value),more[j]? = some q->∃ t kv,its[j]? = some (.ref t)/\s.heap.IsTuple t #[kv,q.2]/\(jc3 X.prog X.w).is q.1 kv = true
 | _,_,_,.nil,.nil=>⟨[],.nil,fun j q h=>by simp at h⟩
 | _,_,_,.cons hp tp,.cons rv tr=>by
  obtain ⟨more,hk,hm⟩:=jhz I tp tr
  obtain ⟨t,rfl,ht⟩:=hp
  cases rv
  obtain ⟨_,its',rt,hi⟩:=I.hok t _ ht
  obtain ⟨u1,u2,rfl,r1,r2⟩:=rt.two
  refine ⟨(_,u2) :: more,.cons ⟨rfl,r2⟩ hk,fun j q h=>?_⟩
  cases j with
  | zero =>
   simp at h
   subst h
   exact ⟨t,u1,rfl,hi,jkz r1⟩
  | succ j =>
   obtain ⟨t',kv,a1,a2,a3⟩:=hm j q (by simpa using h)
   exact ⟨t',kv,by simpa using a1,a2,a3⟩
theorem joh {X:Cx} (hc:X.calm = true):jde X (.type "dict") (rDictL X.K):=by
 intro pins s σ H vs us Q I rv h
 obtain ⟨l,xs,kvs,rfl,hl,hp,hz,hn,q⟩:=h
 obtain ⟨u,rfl,ru⟩:=rv.one
 cases ru
 obtain ⟨z,its,n,r,hlen,e⟩:=I.lstM hl
 obtain ⟨more,hkv,hm⟩:=jhz I hp r
 have hlm:kvs.length = more.length:=Paired.length hkv
 have hlx:xs.length = kvs.length:=Paired.length hp
 refine jhr (knd:=jc3 X.prog X.w) (more:=more) (I.ok.hd hc) e (by rw [List.size_toArray]; omega) (by rw [List.size_toArray]; omega) (fun j q hj=>?_) fun h' tk dd k=>?_
 ·obtain ⟨t,kv,a1,a2,a3⟩:=hm j q hj
  exact ⟨t,kv,by simpa using a1,a2,a3⟩
 ·refine ⟨.ref s.heap.objs.size,upd H s.heap.objs.size (.dK kvs),I.laid k (Nat.le_refl _) ?_,rfl,q _ I.fresh⟩
  rw [merged_nil_of_nodup more (by rw [<- hkv.keys]; exact hn)] at dd
  exact jqo (by have:=(by decide:1000 <= sizeLine); omega) (by have:=I.big; exact beq_false_of_ne (Nat.ne_of_gt this)) hkv dd
inductive Knd (H:Hp):V->String->Prop where
 | non:Knd H .non "NoneType"
 | bl {x:Bool}:Knd H (.bl x) "bool"
 | int {i:Int}:Knd H (.int i) "int"
 | str {x:Str}:Knd H (.str x) "str"
 | lst {a:Addr} {xs:List V} (e:H a = some (.lst xs)):Knd H (.ref a) "list"
 | tup {a:Addr} {xs:List V} (e:H a = some (.tup xs)):Knd H (.ref a) "tuple"
 | dK {a:Addr} {kvs:List (Key × V)} (e:H a = some (.dK kvs)):Knd H (.ref a) "dict"
theorem Knd.ty {K:PySem.W.Frag} {H:Hp} {v:V} {n:String} (h:Knd H v n):TyOf K H v (.type n):=by
 cases h with
 | non=>exact .non
 | bl=>exact .bl _
 | int=>exact .int _
 | str=>exact .str _
 | lst e=>exact .lst e
 | tup e=>exact .tup e
 | dK e=>exact .dK e
def isiK (a b:String):Bool:=a == b || (a == "bool" && b == "int")
def jje:List String:=["NoneType","bool","int","str","list","tuple","dict"]
theorem jun {K:PySem.W.Frag}:∀ a ∈ jje,∀ b ∈ jje,PySem.W.kitOne K (.type a) (.type b) = some (isiK a b):=by
 intro a ha b hb
 have ha':a = "NoneType" \/ a = "bool" \/ a = "int" \/ a = "str" \/ a = "list" \/ a = "tuple" \/ a = "dict":=by simpa [jje] using ha
 have hb':b = "NoneType" \/ b = "bool" \/ b = "int" \/ b = "str" \/ b = "list" \/ b = "tuple" \/ b = "dict":=by simpa [jje] using hb
 rcases ha' with rfl | rfl | rfl | rfl | rfl | rfl | rfl <;> rcases hb' with rfl | rfl | rfl | rfl | rfl | rfl | rfl <;> rfl
def rIsi:List V->Hp->VK->Prop:=fun vs H Q=>∃ x n T,vs = [x,.ty T]/\Knd H x n/\T ∈ jje/\Q (.bl (isiK n T)) H
theorem Knd.mem {H:Hp} {v:V} {n:String} (h:Knd H v n):n ∈ jje:=by cases h <;> simp [jje]
theorem jsi {X:Cx}:jde X (.builtin "isinstance") rIsi:=by
 intro pins s σ H vs us Q I rv h
 obtain ⟨x,n,T,rfl,hk,hT,q⟩:=h
 obtain ⟨u1,u2,rfl,r1,r2⟩:=rv.two
 cases (show u2 = Value.type T from r2)
 exact jqh I r1 hk.ty (jun n hk.mem T hT) fun tk=>⟨.bl _,H,I.tok tk,rfl,q⟩
section
variable {X:Cx} {e a b c o i:Expr} {es:List Expr} {t t' ta tb tc td te:TE} {pos p p2:Pos}
theorem PE.imp (h:PE X e t) (hi:∀ σ H Q,t' σ H Q->t σ H Q):PE X e t':=fun pins s σ H Q I q=>h pins s σ H Q I (hi σ H Q q)
theorem PG.imp {t t':TG} (h:PG X e t) (hi:∀ v σ H Q,t' v σ H Q->t v σ H Q):PG X e t':=fun pins s σ H v u Q I r q=>h pins s σ H v u Q I r (hi v σ H Q q)
theorem PGs.imp {t t':TGs} (h:PGs X es t) (hi:∀ v σ H Q,t' v σ H Q->t v σ H Q):PGs X es t':=fun pins s σ H v u Q I r q=>h pins s σ H v u Q I r (hi v σ H Q q)
theorem OpR.imp {f:Value->Value->Sem Value} {r r':R2} (h:OpR X f r) (hi:∀ x y H Q,r' x y H Q->r x y H Q):OpR X f r':=fun pins s σ H x y v u Q I rx ry q=>h pins s σ H x y v u Q I rx ry (hi x y H Q q)
theorem jde.imp {f:Value} {r r':List V->Hp->VK->Prop} (h:jde X f r) (hi:∀ vs H Q,r' vs H Q->r vs H Q):jde X f r':=fun pins s σ H xs us Q I rv q=>h pins s σ H xs us Q I rv (hi xs H Q q)
theorem IxR.imp {r r':R2} (h:IxR X r) (hi:∀ x y H Q,r' x y H Q->r x y H Q):IxR X r':=fun value slice pins s σ H x y v u Q I rx ry q hs=>h value slice pins s σ H x y v u Q I rx ry (hi x y H Q q) hs
theorem MtR.imp {id:String} {r r':V->List V->Hp->VK->Prop} (h:MtR X id r) (hi:∀ x vs H Q,r' x vs H Q->r x vs H Q):MtR X id r':=fun pins s σ H x xs v us Q I rx rv q=>h pins s σ H x xs v us Q I rx rv (hi x xs H Q q)
theorem PSet.imp {t t':TSet} (h:PSet X t) (hi:∀ o i v H Q,t' o i v H Q->t o i v H Q):PSet X t':=fun pins s σ H o i v ov iv u Q I r1 r2 r3 q=>h pins s σ H o i v ov iv u Q I r1 r2 r3 (hi o i v H Q q)
theorem SlR.imp {r r':V->Option Int->Option Int->Hp->VK->Prop} (h:SlR X r) (hi:∀ x l u H Q,r' x l u H Q->r x l u H Q):SlR X r':=fun pins s σ H x v vl vu lo hi' sl Q I rx hs pl pu q=>h pins s σ H x v vl vu lo hi' sl Q I rx hs pl pu (hi x lo hi' H Q q)
def fVar (i:Nat):TE:=fun σ H Q=>match σ[i]? with
 | some (some v)=>Q v H
 | _=>False
theorem qv (i:Nat) {x:Str} {pos:Pos} (hN:X.N[i]? = some x:=by rfl) (hv:Vis X.env.scope x:=by first | exact Or.inl rfl | exact Or.inr (Or.inl rfl) | exact Or.inr (Or.inr rfl)) (hd:(x == ("__debug__":Str)) = false:=by decide)
  (hcd:(x == ("__classdict__":Str)) = false:=by decide):PE X (.Name x pos) (fVar i):=(pe_var hN hv hd hcd).imp fun σ H Q q=>by
 unfold fVar at q
 split at q
 ·rename_i v e; exact ⟨v,e,q⟩
 ·exact q.elim
def fI (g:Int->Int->V):R2:=fun x y H Q=>match x,y with
 | .int i,.int j=>Q (g i j) H
 | _,_=>False
def fIC (C:Int->Int->Prop) (g:Int->Int->V):R2:=fun x y H Q=>match x,y with
 | .int i,.int j=>C i j/\Q (g i j) H
 | _,_=>False
theorem fI.r {g:Int->Int->V} {x y:V} {H:Hp} {Q:VK} (h:fI g x y H Q):rI0 g x y H Q:=by
 unfold fI at h
 split at h
 ·exact ⟨_,_,rfl,rfl,h⟩
 ·exact h.elim
theorem fIC.r {C:Int->Int->Prop} {g:Int->Int->V} {x y:V} {H:Hp} {Q:VK} (h:fIC C g x y H Q):rI C g x y H Q:=by
 unfold fIC at h
 split at h
 ·exact ⟨_,_,rfl,rfl,h.1,h.2⟩
 ·exact h.elim
theorem jcb:OpR X (binaryOp .Add) (fI fun i j=>.int (i + j)):=op_add.imp fun _ _ _ _=>fI.r
theorem q_sub:OpR X (binaryOp .Sub) (fI fun i j=>.int (i - j)):=op_sub.imp fun _ _ _ _=>fI.r
theorem jff:OpR X (binaryOp .Mult) (fIC CMul fun i j=>.int (i * j)):=op_mul.imp fun _ _ _ _=>fIC.r
theorem jkh:OpR X (binaryOp .Mod) (fIC (fun _ j=>0 < j) fun i j=>.int (i % j)):=op_mod.imp fun _ _ _ _=>fIC.r
theorem jn4:OpR X (binaryOp .FloorDiv) (fIC CDiv fun i j=>.int (i / j)):=juc.imp fun _ _ _ _=>fIC.r
theorem jrc:OpR X (binaryOp .Pow) (fIC CPow fun i j=>.int (i ^ j.toNat)):=op_pow.imp fun _ _ _ _=>fIC.r
theorem q_lt:OpR X (compareOp .Lt) (fI fun i j=>.bl (decide (i < j))):=op_lt.imp fun _ _ _ _=>fI.r
theorem q_le:OpR X (compareOp .LtE) (fI fun i j=>.bl (decide (i <= j))):=op_le.imp fun _ _ _ _=>fI.r
theorem q_gt:OpR X (compareOp .Gt) (fI fun i j=>.bl (decide (i > j))):=op_gt.imp fun _ _ _ _=>fI.r
theorem q_ge:OpR X (compareOp .GtE) (fI fun i j=>.bl (decide (i ≥ j))):=op_ge.imp fun _ _ _ _=>fI.r
theorem jpf:PIp X .Add (fI fun i j=>.int (i + j)):=fun pins s σ H x y v u Q I rx ry q=>jut pins s σ H x y v u Q I rx ry q.r
def fNeg:V->Hp->VK->Prop:=fun x H Q=>match x with
 | .int i=>Q (.int (-i)) H
 | _=>False
theorem jpd:UnR X (unaryOp .USub) fNeg:=fun pins s σ H x v Q I rx q=>by
 cases x <;> first
  | exact False.elim q
  | exact un_neg pins s σ H _ v Q I rx ⟨_,rfl,q⟩
def fEq:R2:=fun x y H Q=>match x,y with
 | .int i,.int j=>Q (.bl (decide (i = j))) H
 | .bl i,.bl j=>Q (.bl (decide (i = j))) H
 | .str i,.str j=>Q (.bl (decide (i = j))) H
 | _,_=>False
def fNe:R2:=fun x y H Q=>match x,y with
 | .int i,.int j=>Q (.bl (!decide (i = j))) H
 | .bl i,.bl j=>Q (.bl (!decide (i = j))) H
 | .str i,.str j=>Q (.bl (!decide (i = j))) H
 | _,_=>False
theorem dI (i j:Int):decide (V.int i = V.int j) = decide (i = j):=by simp
theorem dB (i j:Bool):decide (V.bl i = V.bl j) = decide (i = j):=by simp
theorem dS (i j:Str):decide (V.str i = V.str j) = decide (i = j):=by simp
theorem q_eq:OpR X (compareOp .Eq) fEq:=op_eq.imp fun x y H Q h=>by
 unfold fEq at h
 split at h
 ·exact ⟨rfl,by rw [dI]; exact h⟩
 ·exact ⟨rfl,by rw [dB]; exact h⟩
 ·exact ⟨rfl,by rw [dS]; exact h⟩
 ·exact h.elim
def jam:V->Bool
 | .non=>true
 | _=>false
def fIsN (f:Bool->Bool):R2:=fun x y H Q=>match y with
 | .non=>Q (.bl (f (jam x))) H
 | _=>False
theorem dN (x:V):decide (x = V.non) = jam x:=by cases x <;> simp [jam]
theorem q_notN:OpR X (compareOp .IsNot) (fIsN not):=jub.imp fun x y H Q h=>by
 unfold fIsN at h
 split at h
 ·exact ⟨rfl,by rw [dN]; exact h⟩
 ·exact h.elim
def fAnd (ta tb:TE):TE:=fun σ H Q=>ta σ H fun x H1=>match x with
 | .bl c=>if c = true then tb σ H1 Q else Q (.bl false) H1
 | _=>False
def fOr (ta tb:TE):TE:=fun σ H Q=>ta σ H fun x H1=>match x with
 | .bl c=>if c = true then Q (.bl true) H1 else tb σ H1 Q
 | _=>False
def fNot (ta:TE):TE:=fun σ H Q=>ta σ H fun x H1=>match x with
 | .bl c=>Q (.bl (!c)) H1
 | _=>False
def fB (t:TE):TT:=fun σ H Q=>t σ H fun x H1=>match x with
 | .bl c=>Q c H1
 | _=>False
variable {rest:List Expr}
theorem jeu (ha:PE X a ta) (hb:PE X (.BoolOp .And (b :: rest) pos) tb):PE X (.BoolOp .And (a :: b :: rest) pos) (fAnd ta tb):=by
  intro pins s σ H Q I h
  refine BoolOp_and (thn (ha pins s σ H _ I h) fun v s1 ⟨x,H1,I1,r1,q1⟩=>?_)
  cases x <;> first
    | exact False.elim q1
    | (rename_i c
       cases r1
       refine wpAny_truthy_bool ?_
       cases c with
       | true=>exact hb pins s1 σ H1 Q I1 q1
       | false=>exact ⟨.bl false,H1,I1,rfl,q1⟩)
theorem q_not (ha:PE X a ta):PE X (.UnaryOp .Not a pos) (fNot ta):=by
  intro pins s σ H Q I h
  refine UnaryOp_ (thn (ha pins s σ H _ I h) fun v s1 ⟨x,H1,I1,r1,q1⟩=>?_)
  cases x <;> first
    | exact False.elim q1
    | (rename_i c
       cases r1
       exact not_of (wpAny_truthy_bool ⟨.bl (!c),H1,I1,rfl,q1⟩))
theorem jdz {t:TE} (h:PE X e t) (he:∀ whole,isTrue e X.env whole = (do let v <- whole; standAt e.pos; holding [v] (truthy v)):=by intro _; rfl):PT X e (fB t):=by
  intro pins s σ H Q I hw
  refine isTrue_plain (thn (h pins s σ H _ I hw) fun v s1 ⟨x,H1,I1,r1,q1⟩=>?_) (he _)
  cases x <;> first
    | exact False.elim q1
    | (cases r1
       exact wpAny_truthy_bool ⟨H1,I1,q1⟩)
theorem jc0 {op:CmpOp} {r:R2} (ho:OpR X (compareOp op) r) (ha:PE X a ta) (hb:PE X b tb) (hm:behindInMarks op b = false):PT X (.Compare a [op] [b] pos) (fB (tOp r ta tb)):=by
  intro pins s σ H Q I h
  refine wpAny_isTrue_Compare1 (thn (ha pins s σ H _ I h) fun v s1 ⟨x,H1,I1,r1,q1⟩=>thn (hb pins s1 σ H1 _ I1 q1) fun u s2 ⟨y,H2,I2,r2,q2⟩ =>
    thn (ho pins s2 σ H2 x y v u _ I2 r1 r2 q2) fun c s3 ⟨z,H3,I3,r3,q3⟩=>?_) hm
  cases z <;> first
    | exact False.elim q3
    | (cases r3
       exact wpAny_truthy_bool ⟨H3,I3,q3⟩)
theorem jtv {op:CmpOp} {t:TE} (h:PC X op a b t) (h1:behindInMarks op b = false:=by first | exact jnc _ (by decide) (by decide) | rfl):PT X (.Compare a [op] [b] pos) (fB t):=by
  intro pins s σ H Q I hw
  refine wpAny_isTrue_Compare1 (thn (h pins s σ H _ I hw) fun v s1 h1=>thn h1 fun u s2 h2=>thn h2 fun c s3 ⟨x,H1,I1,r1,q1⟩=>?_) h1
  cases x <;> first
    | exact False.elim q1
    | (cases r1
       exact wpAny_truthy_bool ⟨H1,I1,q1⟩)
def ja9 (r r':R2) (ta tb tc:TE):TE:=fun σ H Q=>ta σ H fun x H1=>tb σ H1 fun y H2=>r x y H2 fun z H3=>match z with
 | .bl k=>(if k = true then tc σ H3 fun w' H4=>r' y w' H4 Q else Q (.bl false) H3)
 | _=>False
theorem jpg {op op':CmpOp} {g:Int->Int->Bool} {r':R2} (ho:OpR X (compareOp op) (fI fun i j=>.bl (g i j))) (ho':OpR X (compareOp op') r') (ha:PE X a ta) (hb:PE X b tb) (hc:PE X c tc)
  (hm:lastMarks [op,op'] [b,c] = false:=by with_unfolding_all rfl):PE X (.Compare a [op,op'] [b,c] pos) (ja9 (fI fun i j=>.bl (g i j)) r' ta tb tc):=by
 intro pins s σ H Q I h
 refine Compare_chain (thn (ha pins s σ H _ I h) fun v s1 ⟨x,H1,I1,r1,q1⟩=>chain_link (thn (hb pins s1 σ H1 _ I1 q1) fun u s2 ⟨y,H2,I2,r2,q2⟩ =>
  thn (ho pins s2 σ H2 x y v u (fun z H3=>∃ k,z = .bl k/\(if k = true then tc σ H3 fun w' H4=>r' y w' H4 Q else Q (.bl false) H3)) I2 r1 r2 ?_) fun d s3 ⟨z,H3,I3,r3,k,e,q3⟩=>?_)) hm
 ·dsimp only at q2
  unfold fI at q2 ⊢
  cases x <;> cases y <;> first
   | exact q2.elim
   | exact ⟨_,rfl,q2⟩
 ·subst e
  cases r3
  refine wpAny_truthy_bool ?_
  cases k with
  | false=>exact ite_ff ⟨.bl false,H3,I3,rfl,q3⟩
  | true=>exact ite_tt (chain_last (thn (hc pins s3 σ H3 _ I3 q3) fun w' s4 ⟨z',H4,I4,r4,q4⟩=>ho' pins s4 σ H4 y z' u w' Q I4 r2 r4 q4))
def jbm (H:Hp) (p:Addr):Option (List V):=match H p with
 | some (.lst xs)=>some xs
 | some (.tup xs)=>some xs
 | some (.frz _ (.lst xs))=>some xs
 | _=>none
theorem jg4 {K:PySem.W.Frag} {H:Hp} {p:Addr} {xs:List V} (h:jbm H p = some xs):SqL K H p xs \/ SqT K H p xs:=by
 unfold jbm at h
 split at h
 ·rename_i ys e; cases h; exact .inl (.inl (.inl e))
 ·rename_i ys e; cases h; exact .inr (SqT.of e)
 ·rename_i o ys e; cases h; exact .inl (.inl (.inr ⟨_,e⟩))
 ·cases h
def fIx:R2:=fun x y H Q=>match x,y with
 | .ref p,.int i=>match jbm H p with
  | some xs=>match atI xs i with
   | some v=>Q v H
   | none=>False
  | none=>False
 | _,_=>False
theorem q_ix:IxR X fIx:=(jqe.or ix_tup).imp fun x y H Q h=>by
 unfold fIx at h
 split at h
 ·split at h
  ·rename_i xs e
   split at h
   ·rename_i v ev
    rcases jg4 (K:=X.K) e with z | z
    ·exact .inl ⟨_,_,_,_,rfl,rfl,z,ev,h⟩
    ·exact .inr ⟨_,_,_,_,rfl,rfl,z,ev,h⟩
   ·exact h.elim
  ·exact h.elim
 ·exact h.elim
def fLen:List V->Hp->VK->Prop:=fun vs H Q=>match vs with
 | [.ref p]=>match jbm H p with
  | some xs=>Q (.int xs.length) H
  | none=>False
 | _=>False
theorem jfw:jde X (.builtin "len") fLen:=je7.imp fun vs H Q h=>by
 unfold fLen at h
 split at h
 ·split at h
  ·rename_i xs e; exact ⟨_,xs,rfl,jg4 e,h⟩
  ·exact h.elim
 ·exact h.elim
def ja3:List V->Hp->VK->Prop:=fun vs H Q=>match vs with
 | [.ref p]=>match jbm H p with
  | some xs=>∀ l,H l = none->Q (.ref l) (upd H l (.lst xs))
  | none=>False
 | _=>False
theorem jn3:jde X (.type "list") ja3:=jl7.imp fun vs H Q h=>by
 unfold ja3 at h
 split at h
 ·split at h
  ·rename_i xs e; exact ⟨_,xs,rfl,jg4 e,h⟩
  ·exact h.elim
 ·exact h.elim
def fMin:List V->Hp->VK->Prop:=fun vs H Q=>match vs with
 | [.int i,.int j]=>Q (.int (if j < i then j else i)) H
 | _=>False
theorem q_min (hc:X.calm = true):jde X (.builtin "min") fMin:=(jqx hc).imp fun vs H Q h=>by
 unfold fMin at h
 split at h
 ·exact ⟨_,_,rfl,h⟩
 ·exact h.elim
def fSlL:V->Option Int->Option Int->Hp->VK->Prop:=fun x lo hi H Q=>match x with
 | .ref a=>match H a with
  | some (.lst xs)=>∀ p,H p = none->Q (.ref p) (upd H p (.lst (cutV xs lo hi)))
  | _=>False
 | _=>False
theorem q_slL:SlR X fSlL:=jts.imp fun x l u H Q h=>by
 unfold fSlL at h
 split at h
 ·split at h
  ·rename_i xs e; exact ⟨_,xs,rfl,SqL.of e,h⟩
  ·exact h.elim
 ·exact h.elim
def ja2:V->List V->Hp->VK->Prop:=fun x vs H Q=>match x,vs with
 | .ref l,[y]=>match H l with
  | some (.lst xs)=>xs.length < sizeLine/\Q .non (upd H l (.lst (xs ++ [y])))
  | _=>False
 | _,_=>False
theorem jca:MtR X "list.append" ja2:=MtR.imp (r:=jpb) (fun pins s σ H x xs v us Q I rx rv q=>jkr pins s σ H x xs v us Q I rx rv q) fun x vs H Q h=>by
 unfold ja2 at h
 split at h
 ·split at h
  ·rename_i xs e; exact ⟨_,xs,_,rfl,rfl,e,h.1,h.2⟩
  ·exact h.elim
 ·exact h.elim
def fBM (r:V->List V->Hp->VK->Prop) (to:TE) (t:TA):TE:=fun σ H Q=>to σ H fun x H1=>(∃ a xs,x = .ref a/\H1 a = some (.lst xs))/\t σ H1 fun xs H2=>r x xs H2 Q
def jaq:TSet:=fun o i v H Q=>match o,i with
 | .ref p,.int k=>match H p with
  | some (.lst xs)=>match ixN xs.length k with
   | some j=>Q (upd H p (.lst (xs.set j v)))
   | none=>False
  | _=>False
 | _,_=>False
theorem jfr:PSet X jaq:=jr9.imp fun o i v H Q h=>by
 unfold jaq at h
 split at h
 ·split at h
  ·rename_i xs e
   split at h
   ·rename_i j ej; exact ⟨_,xs,_,j,rfl,rfl,e,ej,h⟩
   ·exact h.elim
  ·exact h.elim
 ·exact h.elim
def jat:TGs:=fun vs σ H Q=>match vs with
 | []=>Q σ H
 | _=>False
def ja5 (t:TG) (u:TGs):TGs:=fun vs σ H Q=>match vs with
 | v :: r=>t v σ H fun σ' H'=>u r σ' H' Q
 | []=>False
theorem jbw:PGs X [] jat:=ju4.imp fun v σ H Q h=>by
 unfold jat at h
 split at h
 ·exact ⟨rfl,h⟩
 ·exact h.elim
theorem jbb {t:TG} {u:TGs} (h1:PG X e t) (h2:PGs X es u) (hs:(assignEach (e :: es) X.env).map (·.2) = assign e X.env :: (assignEach es X.env).map (·.2):=by rfl):PGs X (e :: es) (ja5 t u):=(jrm h1 h2 hs).imp fun v σ H Q h=>by
 unfold ja5 at h
 split at h
 ·exact ⟨_,_,rfl,h⟩
 ·exact h.elim
def jas (n:Nat) (t:TGs):TG:=fun v σ H Q=>match v with
 | .ref a=>match H a with
  | some (.tup xs)=>xs.length = n/\t xs σ H Q
  | _=>False
 | _=>False
theorem jci {k:Nat} {t:TGs} {n:Nat} (hc:X.calm = true) (h:PGs X es t) (hn:(assignEach es X.env).length = n:=by rfl) (hst:(assignEach es X.env).findIdx? (·.1) = none:=by rfl):PG X (.Tuple es k pos) (jas n t) :=
 (pg_tup hc h hn hst).imp fun v σ H Q q=>by
  unfold jas at q
  split at q
  ·split at q
   ·rename_i xs e; exact ⟨_,xs,rfl,SqT.of e,q.1,q.2⟩
   ·exact q.elim
  ·exact q.elim
def fDIn (f:Bool->Bool) (ty td:TE):TE:=fun σ H Q=>ty σ H fun y H1=>td σ H1 fun x H2=>match y,x with
 | .int n,.ref a=>match H2 a with
  | some (.dK kvs)=>Q (.bl (f (valV kvs (Sum.inl n:Key)).isSome)) H2
  | _=>False
 | _,_=>False
def jaz (td ty:TE):TE:=fun σ H Q=>td σ H fun x H1=>ty σ H1 fun y H2=>match x,y with
 | .ref a,.int n=>match H2 a with
  | some (.dK kvs)=>match valV kvs (Sum.inl n:Key) with
   | some v=>Q v H2
   | none=>False
  | _=>False
 | _,_=>False
end
section
variable {X:Cx} {o i:Expr} {td ty:TE} {pos:Pos}
theorem jtb {f:Bool->Bool} {H2:Hp} {Q:VK} {y x:V} (h:(match y,x with
  | .int n,.ref a=>match H2 a with
    | some (.dK kvs)=>Q (.bl (f (valV kvs (Sum.inl n:Key)).isSome)) H2
    | _=>False
  | _,_=>False)):∃ a ov,x = .ref a/\DGet H2 a y ov/\Q (.bl (f ov.isSome)) H2:=by
  cases y <;> cases x <;> first
    | exact h.elim
    | (rename_i n a
       dsimp only at h
       split at h
       · rename_i kvs e; exact ⟨a,_,rfl,DGet.k (k:=Sum.inl n) e,h⟩
       · exact h.elim)
theorem jre (hu:X.A.units + 1 < cLine) (hi:PE X i ty) (ho:PE X o td):PC X .In i o (fDIn id ty td):=by
 intro pins s σ H Q I h
 refine thn (hi pins s σ H _ I h) fun iv s1 ⟨y,H1,I1,ry,q1⟩=>thn (ho pins s1 σ H1 _ I1 q1) fun u s2 ⟨x,H2,I2,rx,q2⟩=>?_
 obtain ⟨a,ov,ex,g,q3⟩:=jtb q2
 subst ex
 obtain rfl:u = Value.ref a:=rx
 exact dzc hu I2 g ry fun s' I3=>⟨.bl ov.isSome,H2,I3,rfl,q3⟩
theorem jrd (hu:X.A.units + 1 < cLine) (hi:PE X i ty) (ho:PE X o td):PC X .NotIn i o (fDIn not ty td):=by
 intro pins s σ H Q I h
 refine thn (hi pins s σ H _ I h) fun iv s1 ⟨y,H1,I1,ry,q1⟩=>thn (ho pins s1 σ H1 _ I1 q1) fun u s2 ⟨x,H2,I2,rx,q2⟩=>?_
 obtain ⟨a,ov,ex,g,q3⟩:=jtb q2
 subst ex
 obtain rfl:u = Value.ref a:=rx
 exact jv4 hu I2 g ry fun s' I3=>⟨.bl (!ov.isSome),H2,I3,rfl,q3⟩
theorem jet (hu:X.A.units + 1 < cLine) (ho:PE X o td) (hi:PE X i ty) (hs:NoSl i):PE X (.Subscript o i pos) (jaz td ty):=by
  intro pins s σ H Q I h
  refine jtp PySem.F.slot_dict_getitem.lookup hs (thn (ho pins s σ H _ I h) fun u s1 ⟨x,H1,I1,rx,q1⟩=>thn (hi pins s1 σ H1 _ I1 q1) fun iv s2 ⟨y,H2,I2,ry,q2⟩=>?_)
  cases x <;> cases y <;> first
    | exact False.elim q2
    | (dsimp only at q2
       split at q2
       · rename_i kvs e
         split at q2
         · rename_i v ev
           cases rx
           have g:∀ {a:Addr} {n:Int},H2 a = some (.dK kvs)->valV kvs (Sum.inl n:Key) = some v->DGet H2 a (.int n) (some v):=fun e1 e2=>e2 ▸ DGet.k (k:=Sum.inl _) e1
           have g:=g e ev
           exact ⟨jmh I2 g,jqr hu I2 g ry fun w' s3 I3 rw'=>⟨v,H2,I3,rw',q2⟩⟩
         · exact q2.elim
       · exact q2.elim)
theorem q_bm {e:Expr} {es:List Expr} {to:TE} {t:TA} {name:Str} {apos cpos:Pos} {id:String} {r:V->List V->Hp->VK->Prop} (pa:PlainAttrs "list") (slot:Slot "list" name id) (hty:typeOf (.builtin id) = pure (.type "method_descriptor")) (hm:MtR X id r) (ho:PE X o to) (ha:PA X (e :: es) t)
  (hbase:attributeBase o name X.env (eval o X.env) = eval o X.env:=by rfl)
  (hfew:((backTo cpos (starEach (e :: es) X.env)).all (fun x=>!x.1) && (backToKw cpos (keywordEach [] X.env)).all (fun x=>x.1.isSome)
   && decide ((e :: es).length + ([]:List Keyword).length + (if ([]:List Keyword).isEmpty then 0 else 1) < 30)) = true:=by rfl)
  (hline:(apos.endLine == cpos.line) = true:=by rfl) (hs:starEach (e :: es) X.env = (false,eval e X.env) :: starEach es X.env:=by rfl) (hplain:(backTo cpos (starEach es X.env)).any (·.1) = false:=by rfl) :
  PE X (.Call (.Attribute o name apos) (e :: es) [] cpos) (fBM r to t):=by
 intro pins s σ H Q I h
 refine wpAny_Call_method_late hbase hfew hline rfl (thn (ho pins s σ H _ I h) fun v s1 ⟨x,H1,I1,r1,⟨a,xs,ex,ea⟩,q1⟩=>?_)
 subst ex
 obtain ⟨h1,h2⟩:=tyV_is (T:="list") I1 r1 (.inl ⟨rfl,_,SqL.of ea⟩)
 refine ⟨"list",id,pa,slot,hty,h1,h2,?_⟩
 have hA:=ha cpos pins s1 σ H1 _ I1 q1
 rw [hs] at hA ⊢
 refine Calls.callWith_builtin (by show (false || (backTo cpos (starEach es X.env)).any (·.1)) = false; rw [hplain] <;> rfl) (Calls.evalArgs_plain ?_)
 exact thn hA fun us s2 ⟨vs,H2,I2,r2,q2⟩=>hm pins s2 σ H2 _ vs v us Q I2 r1 r2 q2
end
inductive Kd where
 | non | bl | int | str | lst | tup | dct
 deriving DecidableEq
def Kd.nm:Kd->String
 | .non=>"NoneType"
 | .bl=>"bool"
 | .int=>"int"
 | .str=>"str"
 | .lst=>"list"
 | .tup=>"tuple"
 | .dct=>"dict"
def kd (H:Hp) (v:V):Option Kd:=match v with
 | .non=>some .non
 | .bl _=>some .bl
 | .int _=>some .int
 | .str _=>some .str
 | .ref a=>match H a with
  | some (.lst _)=>some .lst
  | some (.tup _)=>some .tup
  | some (.dK _)=>some .dct
  | _=>none
 | _=>none
def isi (a b:Kd):Bool:=match a,b with
 | .bl,.int=>true
 | .non,.non=>true
 | .bl,.bl=>true
 | .int,.int=>true
 | .str,.str=>true
 | .lst,.lst=>true
 | .tup,.tup=>true
 | .dct,.dct=>true
 | _,_=>false
theorem kd_knd {H:Hp} {v:V} {k:Kd} (h:kd H v = some k):Knd H v k.nm:=by
 unfold kd at h
 split at h
 ·cases h; exact .non
 ·cases h; exact .bl
 ·cases h; exact .int
 ·cases h; exact .str
 ·split at h
  ·rename_i e; cases h; exact .lst e
  ·rename_i e; cases h; exact .tup e
  ·rename_i e; cases h; exact .dK e
  ·cases h
 ·cases h
theorem isi_K (a b:Kd):isiK a.nm b.nm = isi a b:=by cases a <;> cases b <;> rfl
theorem Kd.mem (b:Kd):b.nm ∈ jje:=by cases b <;> simp [jje,Kd.nm]
def fIsi (T:Kd):List V->Hp->VK->Prop:=fun vs H Q=>match vs with
 | [x,y]=>y = .ty T.nm/\match kd H x with
  | some k=>Q (.bl (isi k T)) H
  | none=>False
 | _=>False
theorem jpe {X:Cx} (T:Kd):jde X (.builtin "isinstance") (fIsi T):=jsi.imp fun vs H Q h=>by
 unfold fIsi at h
 split at h
 ·obtain ⟨rfl,h⟩:=h
  split at h
  ·rename_i k e
   exact ⟨_,_,_,rfl,kd_knd e,Kd.mem T,by rw [isi_K]; exact h⟩
  ·exact h.elim
 ·exact h.elim
def fAug (i:Nat) (te:TE) (ti:TIp):TS:=fun D σ H=>match σ[i]? with
 | some (some x)=>te σ H fun y H1=>ti x y H1 fun z H2=>D.nx (σ.set i (some z)) H2
 | _=>False
theorem jn1 {X:Cx} {pos:Pos} {i:Nat} {x:Str} {e:Expr} {te:TE} {op:Operator} {ti:TIp} {pos':Pos} (hN:X.N.Nodup) (hi:X.N[i]? = some x) (hx:Loc X.env.scope x) (he:PE X e te) (ho:PIp X op ti) (hf:X.fn x = true \/ X.env.scope.names.lookup x = some .local:=by first | exact .inl rfl | exact .inr rfl | assumption) :
  PS X (.AugAssign (.Name x pos') op e pos) (fAug i te ti):=fun pins s σ H D I h=>ps_aug hN hi hx he ho hf pins s σ H D I (by
 unfold fAug at h
 split at h
 ·rename_i x e; exact ⟨x,e,h⟩
 ·exact h.elim)
def jax (t:TE):TO:=fun σ H Q=>t σ H fun x H1=>match x with
 | .int i=>Q (some i) H1
 | _=>False
theorem jtw {X:Cx} {e:Expr} {te:TE} (h:PE X e te):PO X (some e) (jax te):=by
  intro pins s σ H Q I hw
  rw [evalPart_some]
  refine thn (h pins s σ H _ I hw) fun u s1 ⟨x,H1,I1,r1,q1⟩=>?_
  cases x <;> first
    | exact False.elim q1
    | (obtain ⟨t,rfl⟩:=r1
       exact ⟨some _,H1,I1,.int _ t,q1⟩)
def jae (f:List Bool->Bool):List V->Hp->VK->Prop:=fun vs H Q=>match vs with
 | [.ref l]=>match H l with
  | some (.lst xs)=>∃ bs:List Bool,xs = bs.map V.bl/\Q (.bl (f bs)) H
  | _=>False
 | _=>False
def ja6:List V->Hp->VK->Prop:=fun vs H Q=>match vs with
 | [.ref l]=>match H l with
  | some (.lst xs)=>∃ kvs:List (Key × V),Paired (PairAt H) xs kvs/\xs.length <= 1000/\(kvs.map (·.1)).Nodup/\∀ d,H d = none->Q (.ref d) (upd H d (.dK kvs))
  | _=>False
 | _=>False
theorem jix {X:Cx} (hc:X.calm = true):jde X (.type "dict") ja6:=(joh hc).imp fun vs H Q h=>by
 unfold ja6 at h
 split at h
 ·split at h
  ·rename_i xs e
   obtain ⟨kvs,h1,h2,h3,h4⟩:=h
   exact ⟨_,xs,kvs,rfl,e,h1,h2,h3,h4⟩
  ·exact h.elim
 ·exact h.elim
def fLtT:R2:=fun x y H Q=>match x,y with
 | .ref a,.ref b=>match H a,H b with
  | some (.tup [.int i,.int j]),some (.tup [.int k,.int l])=>Q (.bl (HT.lexLt [i,j] [k,l])) H
  | _,_=>False
 | _,_=>False
theorem q_ltT {X:Cx} (hu:X.A.units < cLine):OpR X (compareOp .Lt) fLtT:=(op_ltT hu).imp fun x y H Q h=>by
 unfold fLtT at h
 split at h
 ·split at h
  ·rename_i a b _ _ i j k l e1 e2
   exact ⟨a,b,[i,j],[k,l],rfl,rfl,SqT.of e1,SqT.of e2,h⟩
  ·exact h.elim
 ·exact h.elim
def capB (XN:List Str) (names:List (Str × NameKind)):List Str->List (Option Nat)->Bool
 | [],[]=>true
 | x :: N,none :: r=>capB XN names N r
 | x :: N,some j :: r=>(XN[j]? == some x) && (names.lookup x == some .free) && capB XN names N r
 | _,_=>false
theorem jml {XN:List Str} {names:List (Str × NameKind)}:∀ {N:List Str} {src:List (Option Nat)},capB XN names N src = true->src.length = N.length/\∀ (i j:Nat),src[i]? = some (some j)->XN[j]? = N[i]?/\(N[i]?).elim False (fun x=>names.lookup x = some .free)
 | [],[],_=>⟨rfl,fun i j e=>by simp at e⟩
 | x :: N,none :: r,h=>by
  obtain ⟨h1,h2⟩:=jml (N:=N) (src:=r) h
  refine ⟨by simp [h1],fun i j e=>?_⟩
  cases i with
  | zero=>simp at e
  | succ i=>exact h2 i j (by simpa using e)
 | x :: N,some k :: r,h=>by
  have h':((XN[k]? == some x) && (names.lookup x == some .free) && capB XN names N r) = true:=h
  rw [Bool.and_eq_true,Bool.and_eq_true] at h'
  obtain ⟨h1,h2⟩:=jml (N:=N) (src:=r) h'.2
  refine ⟨by simp [h1],fun i j e=>?_⟩
  cases i with
  | zero =>
   have e':k = j:=by simpa using e
   subst e'
   exact ⟨by simpa using h'.1.1,by simpa using h'.1.2⟩
  | succ i=>exact h2 i j (by simpa using e)
def jnb:List Str->Bool
 | []=>true
 | x :: r=>!(r.contains x) && jnb r
theorem jba:∀ {l:List Str},jnb l = true->l.Nodup
 | [],_=>List.nodup_nil
 | x :: r,h=>by
  have h':(!(r.contains x) && jnb r) = true:=h
  rw [Bool.and_eq_true] at h'
  exact List.nodup_cons.mpr ⟨by simpa using h'.1,jba h'.2⟩
def cpB (XN:List Str) (outer:List (Str × NameKind)) (scope:Scope) (N:List Str) (src:List (Option Nat)):Bool :=
 (scope.kind == .function) && scope.names.all (fun y=>y.2 != .cell) && scope.names.all (fun y=>y.2 != .local || scope.names.lookup y.1 == some .local) &&
  scope.names.all (fun y=>y.2 != .free || (scope.names.lookup y.1 == some .free && outer.lookup y.1 == some .cell)) && jnb N && capB XN scope.names N src
theorem CpScope.of {X:Cx} {scope:Scope} {N:List Str} {src:List (Option Nat)} (h:cpB X.N X.env.scope.names scope N src = true):CpScope X scope N src:=by
 unfold cpB at h
 simp only [Bool.and_eq_true] at h
 obtain ⟨⟨⟨⟨⟨h1,h2⟩,h3⟩,h4⟩,h5⟩,h6⟩:=h
 rw [List.all_eq_true] at h2 h3 h4
 obtain ⟨l,c⟩:=jml h6
 refine ⟨by simpa using h1,fun y hy=>by simpa using h2 y hy,fun y hy e=>?_,fun y hy e=>?_,jba h5,l,c⟩
 ·have:=h3 y hy
  rw [e] at this
  simpa using this
 ·have:=h4 y hy
  rw [e] at this
  simpa using this
theorem jjj {K:PySem.W.Frag} {a:Addr} {xs:List V} {g:TG} {tb:TS} {D:Ends} {σ:St} {H:Hp} (Pv:Nat->St->Hp->Prop) (h0:Pv 0 σ H) (hl:∀ i σ H,i <= xs.length->Pv i σ H->SqL K H a xs)
  (hs:∀ i x σ H t,xs[i]? = some x->Pv i σ H->H t = none->g (.ref t) σ (upd H t (.tup [.int i,x])) fun σ2 H2=>tb { D with nx:=Pv (i + 1),ct:=Pv (i + 1),bk:=D.nx } σ2 H2) (hd:∀ σ H,Pv xs.length σ H->D.nx σ H) :
  ∃ W:Nat->Nat->St->Hp->Prop,(∃ m,W 0 m σ H)/\∀ i m σ H,W i m σ H ->
   ((Ite K a).stop i H/\D.nx σ H) \/ ((Ite K a).go i H/\∃ N:St->Hp->Prop,(∀ σ' H',N σ' H'->∃ m',m' < m/\W (i + 1) m' σ' H')/\∀ x H',(Ite K a).yld i H x H'->g x σ H' fun σ2 H2=>tb { D with nx:=N,ct:=N,bk:=D.nx } σ2 H2):=by
 refine ⟨fun i m σ H=>m = xs.length - i/\i <= xs.length/\Pv i σ H,⟨xs.length,by simp,Nat.zero_le _,h0⟩,?_⟩
 rintro i m σ H ⟨rfl,hi,p⟩
 have q:=hl i σ H hi p
 by_cases hlt:i < xs.length
 ·refine .inr ⟨⟨xs,xs[i],q,by simp [hlt]⟩,Pv (i + 1),fun σ' H' p'=>⟨xs.length - (i + 1),by omega,rfl,hlt,p'⟩,fun x H' y=>?_⟩
  obtain ⟨t,z,ht,e1,e2,y⟩:=y
  subst e1 e2
  exact hs i z σ _ t (y xs q) p ht
 ·have e:i = xs.length:=by omega
  subst e
  exact .inl ⟨⟨xs,q,Nat.le_refl _⟩,hd σ H p⟩
theorem jc2 {wi:TI} {g:TG} {tb:TS} {D:Ends} {σ:St} {H:Hp} (J:It) (H1:Hp) (h1:∀ R:It->Hp->Prop,R J H1->wi σ H R)
  (h2:∃ W:Nat->Nat->St->Hp->Prop,(∃ m,W 0 m σ H1)/\∀ i m σ H,W i m σ H->(J.stop i H/\D.nx σ H) \/ (J.go i H/\∃ N:St->Hp->Prop,(∀ σ' H',N σ' H'->∃ m',m' < m/\W (i + 1) m' σ' H')/\∀ x H',J.yld i H x H'->g x σ H' fun σ2 H2=>tb { D with nx:=N,ct:=N,bk:=D.nx } σ2 H2)) :
  tFor wi g tb D σ H:=h1 _ h2
theorem jbh {src:List (Option Nat)} {wi:TI} {g:TG} {tc:TT} {te:TE} {Q:VK} {σ:St} {H:Hp} (J:It) (H1:Hp) (h1:∀ R:It->Hp->Prop,R J H1->wi σ H R) (h2:∀ l,H1 l = none->jr2 J src g tc te Q σ H1 l):jr7 src wi g tc te σ H Q:=h1 _ h2
theorem jag {H:Hp} {p:Addr} (h:H p = none) (o:HO):Same H (upd H p o):=fun b u q=>by rw [jb7 (jaj q h)]; exact q
theorem jbi {H H':Hp} {p:Addr} {o:HO} (s:Same H H') (h:H p = none):Same H (upd H' p o):=fun b u q=>by rw [jb7 (jaj q h)]; exact s b u q
def Pr (H:Hp) (v:V) (p:Int × Int):Prop:=∃ t,v = .ref t/\H t = some (.tup [.int p.1,.int p.2])
theorem Pr.same {H H':Hp} {v:V} {p:Int × Int} (h:Pr H v p) (s:Same H H'):Pr H' v p:=let ⟨t,e,q⟩:=h; ⟨t,e,s _ _ q⟩
def jup:HO->Bool
 | .tup _=>true
 | .frz _ _=>true
 | _=>false
def TupS (H H':Hp):Prop:=∀ b o,jup o = true->H b = some o->H' b = some o
theorem Same.tups {H H':Hp} (s:Same H H'):TupS H H':=fun b o _ q=>s b _ q
theorem TupS.trans {H H1 H2:Hp} (a:TupS H H1) (b:TupS H1 H2):TupS H H2:=fun c o i q=>b c o i (a c o i q)
theorem jbv {H:Hp} {l:Addr} {xs ys:List V} (h:H l = some (.lst xs)):TupS H (upd H l (.lst ys)):=fun b o i q=>by
 have:b ≠ l:=fun z=>by rw [z,h] at q; cases q; cases i
 rw [jb7 this]
 exact q
theorem jg2 {H:Hp} {l:Addr} {o:HO} (h:H l = none):TupS H (upd H l o):=(jag h o).tups
theorem Pr.tups {H H':Hp} {v:V} {p:Int × Int} (h:Pr H v p) (s:TupS H H'):Pr H' v p:=let ⟨t,e,q⟩:=h; ⟨t,e,s _ _ rfl q⟩
def Scr (K:PySem.W.Frag) (H:Hp) (a:Addr) (ns:List Int):Prop :=
 (∃ o,H a = some (.frz o (.lst (ns.map V.int)))) \/ ∃ (o:Obj) (its:Array Value) (n:Nat),K.lookup a = some o/\o.cls = .type "list"/\o.dict = none/\o.data = .seq its n/\its.size <= sizeLine/\Vals (ns.map V.int) its.toList
theorem Scr.sq {K:PySem.W.Frag} {H:Hp} {a:Addr} {ns:List Int} (h:Scr K H a ns):SqL K H a (ns.map V.int):=h.elim (fun ⟨o,q⟩=>.inl (.inr ⟨o,q⟩)) .inr
theorem Scr.of {K:PySem.W.Frag} {H:Hp} {a:Addr} {ns:List Int} (h:SqL K H a (ns.map V.int)) (o:Only H):Scr K H a ns:=by
 rcases h with (h | ⟨ob,h⟩) | h
 ·rcases o a with z | ⟨ob,xs,z⟩
  ·rw [h] at z; cases z
  ·rw [h] at z; cases z
 ·exact .inl ⟨ob,h⟩
 ·exact .inr h
theorem Scr.tups {K:PySem.W.Frag} {H H':Hp} {a:Addr} {ns:List Int} (h:Scr K H a ns) (s:TupS H H'):Scr K H' a ns:=h.elim (fun ⟨o,q⟩=>.inl ⟨o,s _ _ rfl q⟩) .inr
abbrev Prs (H:Hp):List V->List (Int × Int)->Prop:=Paired (Pr H)
theorem Prs.tups {H H':Hp} (s:TupS H H') {xs:List V} {ps:List (Int × Int)} (h:Prs H xs ps):Prs H' xs ps:=Paired.mapP h fun _ _ q=>q.tups s
theorem Prs.same {H H':Hp} (s:Same H H') {xs:List V} {ps:List (Int × Int)} (h:Prs H xs ps):Prs H' xs ps:=Prs.tups s.tups h
theorem jbd {α β:Type} {F:α->β->Prop}:∀ {xs:List α} {ys:List β} {i:Nat} {x:α},Paired F xs ys->xs[i]? = some x->∃ y,ys[i]? = some y/\F x y
 | _,_,_,_,.nil,e=>by simp at e
 | _,_,0,_,.cons r _,e=>by simp at e; subst e; exact ⟨_,rfl,r⟩
 | _,_,i + 1,y,.cons _ t,e=>by
  obtain ⟨u,h1,h2⟩:=jbd (i:=i) t (by simpa using e)
  exact ⟨u,by simpa using h1,h2⟩
theorem je1 {α β:Type} {F:α->β->Prop}:∀ {xs:List α} {ys:List β} {i:Nat} {y:β},Paired F xs ys->ys[i]? = some y->∃ x,xs[i]? = some x/\F x y
 | _,_,_,_,.nil,e=>by simp at e
 | _,_,0,_,.cons r _,e=>by simp at e; subst e; exact ⟨_,rfl,r⟩
 | _,_,i + 1,y,.cons _ t,e=>by
  obtain ⟨u,h1,h2⟩:=je1 (i:=i) t (by simpa using e)
  exact ⟨u,by simpa using h1,h2⟩
theorem jbk {α β:Type} {F:α->β->Prop} {a:α} {b:β} {l₁:List α} {l₂:List β} (h:Paired F l₁ l₂) (r:F a b):Paired F (l₁ ++ [a]) (l₂ ++ [b]):=Paired.snoc h r
theorem jnl {α:Type} {l:List α} {i:Nat} {x:α} (h:l[i]? = some x):l.drop i = x :: l.drop (i + 1):=by
 obtain ⟨h1,h2⟩:=List.getElem?_eq_some_iff.mp h
 rw [List.drop_eq_getElem_cons h1,h2]
theorem jbr {α:Type} {l:List α} {i:Nat} {x:α} (h:l[i]? = some x):l.take (i + 1) = l.take i ++ [x]:=by
 obtain ⟨h1,h2⟩:=List.getElem?_eq_some_iff.mp h
 rw [List.take_succ,h]
 rfl
inductive Dt where
 | non
 | bl (b:Bool)
 | int (i:Int)
 | str (x:Str)
 | tup (ds:List Dt)
 | lst (ds:List Dt)
mutual
def Rep (H:Hp):Dt->V->Prop
 | .non,v=>v = .non
 | .bl b,v=>v = .bl b
 | .int i,v=>v = .int i
 | .str x,v=>v = .str x
 | .tup ds,v=>∃ a vs,v = .ref a/\H a = some (.tup vs)/\Reps H ds vs
 | .lst ds,v=>∃ a vs,v = .ref a/\H a = some (.lst vs)/\Reps H ds vs
def Reps (H:Hp):List Dt->List V->Prop
 | [],vs=>vs = []
 | d :: ds,vs=>∃ v r,vs = v :: r/\Rep H d v/\Reps H ds r
end
mutual
theorem Rep.same {H H':Hp} (s:Same H H'):∀ (d:Dt) {v:V},Rep H d v->Rep H' d v
 | .non,_,h=>by rw [Rep] at *; exact h
 | .bl _,_,h=>by rw [Rep] at *; exact h
 | .int _,_,h=>by rw [Rep] at *; exact h
 | .str _,_,h=>by rw [Rep] at *; exact h
 | .tup ds,_,h=>by
  rw [Rep] at *
  obtain ⟨a,vs,e,q,r⟩:=h
  exact ⟨a,vs,e,s _ _ q,Reps.same s ds r⟩
 | .lst ds,_,h=>by
  rw [Rep] at *
  obtain ⟨a,vs,e,q,r⟩:=h
  exact ⟨a,vs,e,s _ _ q,Reps.same s ds r⟩
theorem Reps.same {H H':Hp} (s:Same H H'):∀ (ds:List Dt) {vs:List V},Reps H ds vs->Reps H' ds vs
 | [],_,h=>by rw [Reps] at *; exact h
 | d :: ds,_,h=>by
  rw [Reps] at *
  obtain ⟨v,r,e,h1,h2⟩:=h
  exact ⟨v,r,e,Rep.same s d h1,Reps.same s ds h2⟩
end
theorem Reps.len {H:Hp}:∀ {ds:List Dt} {vs:List V},Reps H ds vs->vs.length = ds.length
 | [],_,h=>by rw [Reps] at h; subst h; rfl
 | d :: ds,_,h=>by
  rw [Reps] at h
  obtain ⟨v,r,e,h1,h2⟩:=h
  rw [e,List.length_cons,List.length_cons,Reps.len h2]
theorem Reps.at {H:Hp}:∀ {ds:List Dt} {vs:List V} {i:Nat} {v:V},Reps H ds vs->vs[i]? = some v->∃ d,ds[i]? = some d/\Rep H d v
 | [],_,i,v,h,e=>by rw [Reps] at h; rw [h] at e; simp at e
 | d :: ds,_,i,v,h,e=>by
  rw [Reps] at h
  obtain ⟨w,r,e1,h1,h2⟩:=h
  subst e1
  cases i with
  | zero=>simp at e; subst e; exact ⟨d,rfl,h1⟩
  | succ i =>
   obtain ⟨d',q1,q2⟩:=Reps.at h2 (i:=i) (by simpa using e)
   exact ⟨d',by simpa using q1,q2⟩
def jee (p:Int × Int):Dt:=.tup [.int p.1,.int p.2]
theorem Pr.rep {H:Hp} {v:V} {p:Int × Int} (h:Pr H v p):Rep H (jee p) v:=by
 obtain ⟨t,e,q⟩:=h
 rw [jee,Rep]
 refine ⟨t,_,e,q,?_⟩
 rw [Reps]
 refine ⟨_,_,rfl,(by rw [Rep]),?_⟩
 rw [Reps]
 exact ⟨_,_,rfl,(by rw [Rep]),(by rw [Reps])⟩
theorem Prs.reps {H:Hp}:∀ {xs:List V} {ps:List (Int × Int)},Prs H xs ps->Reps H (ps.map jee) xs
 | _,_,.nil=>by rw [List.map_nil,Reps]
 | _,_,.cons r t=>by rw [List.map_cons,Reps]; exact ⟨_,_,rfl,r.rep,Prs.reps t⟩
def fMax:List V->Hp->VK->Prop:=fun vs H Q=>match vs with
 | [.int i,.int j]=>Q (.int (if i < j then j else i)) H
 | _=>False
theorem q_max {X:Cx} (hc:X.calm = true):jde X (.builtin "max") fMax:=(jqz hc).imp fun vs H Q h=>by
 unfold fMax at h
 split at h
 ·refine ⟨_,_,rfl,?_⟩
  first | exact h | (rename_i i j; by_cases c:i < j <;> simp_all)
 ·exact h.elim
def fInL (neg:Bool):R2:=fun x y H Q=>match y with
 | .ref p=>match jbm H p with
  | some xs=>jdk x = true/\xs.all jdk = true/\Q (.bl (if neg = true then !inV x xs else inV x xs)) H
  | none=>False
 | _=>False
theorem jta {K:PySem.W.Frag} {neg:Bool} {x y:V} {H:Hp} {Q:VK} (h:fInL neg x y H Q):rIn K neg x y H Q:=by
 unfold fInL at h
 split at h
 ·split at h
  ·rename_i xs e
   obtain ⟨h1,h2,h3⟩:=h
   exact ⟨_,xs,rfl,jg4 e,h1,h2,h3⟩
  ·exact h.elim
 ·exact h.elim
theorem jlp {X:Cx}:OpR X (compareOp .In) (fInL false):=jps.imp fun _ _ _ _=>jta
theorem jn2 {X:Cx}:OpR X (compareOp .NotIn) (fInL true):=jkl.imp fun _ _ _ _=>jta
theorem flat_ints (ns:List Int):(ns.map V.int).all jdk = true:=by
 rw [List.all_eq_true]
 intro v hv
 obtain ⟨n,_,e⟩:=List.mem_map.mp hv
 rw [<- e]
 rfl
theorem jdh (n:Int) (ns:List Int):inV (.int n) (ns.map V.int) = decide (n ∈ ns):=by
 rw [Bool.eq_iff_iff,inV,List.any_eq_true,decide_eq_true_iff]
 constructor
 ·rintro ⟨v,hv,e⟩
  obtain ⟨m,hm,e2⟩:=List.mem_map.mp hv
  subst e2
  have:m = n:=by simpa [eqV] using e
  rw [<- this]
  exact hm
 ·intro h
  exact ⟨.int n,List.mem_map_of_mem h,by simp [eqV]⟩
theorem jkx {P:Program} {w:World}:∀ {kvs:List (Key × V)} {vs:List (Key × Value)} {ns:List Int},KV kvs vs->kvs.map (·.1) = ns.map Sum.inl->∀ {us:List Value},us.length = vs.length->(∀ (j:Nat) (v:Value),us[j]? = some v->∃ k x,vs[j]? = some (k,x)/\(jc3 P w).is k v = true)->IntsAre us ns
 | [],_,ns,.nil,hk,us,hl,_=>by
  cases ns with
  | nil=>cases us with
   | nil=>exact .nil
   | cons _ _=>simp at hl
  | cons _ _=>simp at hk
 | kv :: kvs,_,ns,.cons (b:=b) r t,hk,us,hl,hv=>by
  cases ns with
  | nil=>simp at hk
  | cons n ns =>
   cases us with
   | nil=>simp at hl
   | cons u us =>
    rw [List.map_cons,List.map_cons] at hk
    injection hk with hk1 hk2
    obtain ⟨k,x,e1,e2⟩:=hv 0 u rfl
    simp only [List.getElem?_cons_zero,Option.some.injEq] at e1
    have hkn:k = Sum.inl n:=by rw [<- hk1,r.1,e1]
    rw [hkn] at e2
    rcases jc8 (show jmb (Sum.inl n) u = true from e2) with ⟨i,t',ei,ev⟩ | ⟨y,t',ei,ev⟩
    ·cases ei
     rw [ev]
     refine .cons n t' (jkx (P:=P) (w:=w) t hk2 (by simpa using hl) fun j v hj=>?_)
     obtain ⟨k',x',z1,z2⟩:=hv (j + 1) v (by simpa using hj)
     exact ⟨k',x',by simpa using z1,z2⟩
    ·cases ei
def rSortD:List V->Hp->VK->Prop:=fun vs H Q=>∃ (p:Addr) (kvs:List (Key × V)) (ns:List Int),vs = [.ref p]/\H p = some (.dK kvs)/\kvs.map (·.1) = ns.map Sum.inl/\ns.length < 64 /\
 ∀ (l:Addr) (ms:List Int),H l = none->ms.Perm ns->ms.Pairwise (· <= ·)->Q (.ref l) (upd H l (.lst (ms.map V.int)))
theorem jof {X:Cx} (hc:X.calm = true):jde X (.builtin "sorted") rSortD:=by
 intro pins s σ H xs us Q I r h
 obtain ⟨p,kvs,ns,rfl,e,hk,h64,q⟩:=h
 obtain ⟨u,rfl,rx⟩:=jif r
 cases rx
 obtain ⟨z,lo,vs',rel,dd⟩:=jv0 I.hok e
 obtain ⟨ep,hat⟩:=dd.dictAt
 have hkl:=rel.length
 refine Calls.call_function_entry kind_sorted plain_sorted entry_sorted (args_sorted1 _) ?_
 unfold Builtin.«sorted»
 refine wpAny_bind (m:=checkCount "sorted" 1 1 _) (wpAny_pure ?_)
 refine wpAny_bind (PySem.W.kdu_collect (PySem.W.kdl_dict (knd:=jc3 X.prog X.w) (kvs:=vs') (ep:=ep) lo) (I.ok.hd hc) hat (by omega) fun h' tk acc hkp hacc=>?_)
 have hl:acc.toList.length = vs'.length:=by rw [Array.length_toList]; exact hacc.1
 have hI:IntsAre acc.toList ns:=jkx rel hk hl fun j v ej=>hacc.2 j v (by rw [<- Array.getElem?_toList]; exact ej)
 have hnl:ns.length = kvs.length:=by
  have:=congrArg List.length hk
  simpa using this.symm
 refine wpAny_bind (wpAny_newList ?_ (by omega))
 have hoL:(h'.push (seqObj "list" acc.toList.toArray 0)).get? h'.objs.size = some (seqObj "list" acc.toList.toArray 0):=Heap.get?_push_size _ rfl
 show wpAny _ _ _ _ _ { s with heap:=h'.push (seqObj "list" acc.toList.toArray 0),toks:=tk }
 refine wpAny_bind (wpAny_holding (wpAny_call_entry slot_list_sort ⟨_,hoL,rfl⟩ entry_list_sort (list_sort_tree hoL hI (by omega) fun out ms a1 a2 a3=>⟨_,rfl,?_⟩) (args_list_sort _)))
 refine wpAny_pure ⟨_,rfl,?_⟩
 have hlt:∀ b o,h'.get? b = some o->b < h'.objs.size:=fun b o eb=>Heap.lt_size eb
 have kp:∀ b o,h'.get? b = some o->(sortedHeap (h'.push (seqObj "list" acc.toList.toArray 0)) h'.objs.size acc.toList out).get? b = some o:=fun b o eb=>by
  rw [sortedHeap_old (Nat.ne_of_lt (hlt b o eb)) (by rw [size_push']; exact Nat.lt_succ_of_lt (hlt b o eb)),Heap.get?_push_ne _ _ _ (Nat.ne_of_lt (hlt b o eb))]
  exact eb
 obtain ⟨c,hcc⟩:=sortedHeap_at (out:=out) hoL
 have hml:=a2.length_eq
 have I1:Inv X pins σ H { s with heap:=h',toks:=tk }:=I.kept hkp
 refine ⟨.ref h'.objs.size,_,I1.laid (t':=tk) kp (Nat.le_refl _) (show jcv X.prog X.w _ _ _ (.lst (ms.map V.int)) from ⟨?_,out.toList,c,jgf a1,?_⟩),rfl,q _ ms (I1.hok.fresh (Nat.le_refl _)) a2 a3⟩
 ·rw [List.length_map,hml]; exact Nat.le_trans (Nat.le_of_lt h64) (by decide)
 ·rw [hcc]
mutual
def eqP:Dt->Dt->Bool
 | .non,.non=>true
 | .bl a,.bl b=>a == b
 | .bl a,.int b=>(if a then 1 else 0) == b
 | .int a,.bl b=>a == (if b then 1 else 0)
 | .int a,.int b=>a == b
 | .str a,.str b=>a == b
 | .tup a,.tup b=>eqPs a b
 | .lst a,.lst b=>eqPs a b
 | _,_=>false
def eqPs:List Dt->List Dt->Bool
 | [],[]=>true
 | a :: r,b :: t=>eqP a b && eqPs r t
 | _,_=>false
end
mutual
def depP:Dt->Nat
 | .tup a=>jdw a + 1
 | .lst a=>jdw a + 1
 | _=>0
def jdw:List Dt->Nat
 | []=>0
 | a :: r=>max (depP a) (jdw r)
end
def jfm (a b:List Dt) (j:Nat):Bool:=match a[j]?,b[j]? with
 | some x,some y=>eqP x y
 | _,_=>false
theorem jec:∀ {a b:List Dt},a.length ≠ b.length->eqPs a b = false
 | [],[],h=>absurd rfl h
 | [],_ :: _,_=>by simp [eqPs]
 | _ :: _,[],_=>by simp [eqPs]
 | x :: a,y :: b,h=>by
  rw [eqPs,jec (by simpa using h),Bool.and_false]
theorem jpa:∀ (n:Nat) (f:Nat->Bool),(List.range (n + 1)).all f = (f 0 && (List.range n).all fun j=>f (j + 1)):=fun n f=>by
 rw [List.range_succ_eq_map,List.all_cons,List.all_map]
 rfl
theorem jda:∀ {a b:List Dt},a.length = b.length->eqPs a b = (List.range a.length).all (jfm a b)
 | [],[],_=>by rw [eqPs]; rfl
 | [],_ :: _,h=>by simp at h
 | _ :: _,[],h=>by simp at h
 | x :: a,y :: b,h=>by
  rw [eqPs,jda (a:=a) (b:=b) (by simpa using h),List.length_cons,jpa]
  rfl
theorem jjn:∀ {a:List Dt} {j:Nat} {d:Dt},a[j]? = some d->depP d <= jdw a
 | [],_,_,h=>by simp at h
 | x :: a,0,d,h=>by
  simp at h; subst h
  rw [jdw]; omega
 | x :: a,j + 1,d,h=>by
  have:=jjn (a:=a) (j:=j) (by simpa using h)
  rw [jdw]; omega
def jdg:Dt->Option V
 | .non=>some .non
 | .bl b=>some (.bl b)
 | .int i=>some (.int i)
 | .str x=>some (.str x)
 | _=>none
theorem jsd {d e:Dt} {x y:V} (hd:jdg d = some x) (he:jdg e = some y):eqP d e = eqV x y:=by
 cases d <;> cases e <;> simp only [jdg,Option.some.injEq,reduceCtorEq] at hd he <;> subst hd <;> subst he <;> simp [eqP,eqV]
theorem jiw {H:Hp} {d:Dt} {x v:V} (hd:jdg d = some x) (h:Rep H d v):v = x/\jdk x = true:=by
 cases d <;> simp only [jdg,Option.some.injEq,reduceCtorEq] at hd <;> subst hd <;> rw [Rep] at h <;> exact ⟨h,rfl⟩
section
variable {X:Cx} {pins:List (Addr × Obj)} {σ:St} {H:Hp} {s:Shared}
theorem Inv.tupE (I:Inv X pins σ H s) {a:Addr} {vs:List V} (e:H a = some (.tup vs)):∃ its:List Value,Vals vs its/\s.heap.IsTuple a its.toArray:=by
 obtain ⟨its,r,p,_⟩:=I.tuple (SqT.of e)
 exact ⟨its,r,p⟩
theorem Inv.lstE (I:Inv X pins σ H s) {a:Addr} {vs:List V} (e:H a = some (.lst vs)):∃ its:List Value,Vals vs its/\s.heap.IsList a its.toArray:=by
 obtain ⟨its,r,p,_⟩:=I.list (SqL.of e)
 exact ⟨its,r,p.isList⟩
mutual
theorem jf4:∀ d:Dt,eqP d d = true
 | .non=>by simp [eqP]
 | .bl _=>by simp [eqP]
 | .int _=>by simp [eqP]
 | .str _=>by simp [eqP]
 | .tup a=>by rw [eqP]; exact jhf a
 | .lst a=>by rw [eqP]; exact jhf a
theorem jhf:∀ a:List Dt,eqPs a a = true
 | []=>by rw [eqPs]
 | d :: r=>by rw [eqPs,jf4 d,jhf r]; rfl
end
mutual
theorem Rep.inj {H:Hp}:∀ {d e:Dt} {v:V},Rep H d v->Rep H e v->d = e
 | .non,e,v,h1,h2=>by rw [Rep] at h1; subst h1; cases e <;> simp [Rep] at h2 ⊢
 | .bl _,e,v,h1,h2=>by rw [Rep] at h1; subst h1; cases e <;> simp [Rep] at h2 ⊢; exact h2
 | .int _,e,v,h1,h2=>by rw [Rep] at h1; subst h1; cases e <;> simp [Rep] at h2 ⊢; exact h2
 | .str _,e,v,h1,h2=>by rw [Rep] at h1; subst h1; cases e <;> simp [Rep] at h2 ⊢; exact h2
 | .tup ds,e,v,h1,h2=>by
  rw [Rep] at h1
  obtain ⟨a,vs,rfl,q,r⟩:=h1
  cases e with
  | tup es =>
   rw [Rep] at h2
   obtain ⟨a',vs',e',q',r'⟩:=h2
   cases e'
   rw [q] at q'; cases q'
   rw [Reps.inj r r']
  | lst es =>
   rw [Rep] at h2
   obtain ⟨a',vs',e',q',r'⟩:=h2
   cases e'
   rw [q] at q'; cases q'
  | non=>rw [Rep] at h2; cases h2
  | bl _=>rw [Rep] at h2; cases h2
  | int _=>rw [Rep] at h2; cases h2
  | str _=>rw [Rep] at h2; cases h2
 | .lst ds,e,v,h1,h2=>by
  rw [Rep] at h1
  obtain ⟨a,vs,rfl,q,r⟩:=h1
  cases e with
  | lst es =>
   rw [Rep] at h2
   obtain ⟨a',vs',e',q',r'⟩:=h2
   cases e'
   rw [q] at q'; cases q'
   rw [Reps.inj r r']
  | tup es =>
   rw [Rep] at h2
   obtain ⟨a',vs',e',q',r'⟩:=h2
   cases e'
   rw [q] at q'; cases q'
  | non=>rw [Rep] at h2; cases h2
  | bl _=>rw [Rep] at h2; cases h2
  | int _=>rw [Rep] at h2; cases h2
  | str _=>rw [Rep] at h2; cases h2
theorem Reps.inj {H:Hp}:∀ {ds es:List Dt} {vs:List V},Reps H ds vs->Reps H es vs->ds = es
 | [],es,vs,h1,h2=>by
  rw [Reps] at h1; subst h1
  cases es with
  | nil=>rfl
  | cons e es=>rw [Reps] at h2; obtain ⟨_,_,z,_⟩:=h2; cases z
 | d :: ds,es,vs,h1,h2=>by
  rw [Reps] at h1
  obtain ⟨v,r,rfl,q1,q2⟩:=h1
  cases es with
  | nil=>rw [Reps] at h2; cases h2
  | cons e es =>
   rw [Reps] at h2
   obtain ⟨v',r',z,p1,p2⟩:=h2
   cases z
   rw [Rep.inj q1 p1,Reps.inj q2 p2]
end
theorem jfv {d e:Dt} (hd:jdg d = none) {y:V} (he:jdg e = some y):eqP d e = false/\eqP e d = false:=by
 cases d <;> cases e <;> simp only [jdg,Option.some.injEq,reduceCtorEq] at hd he <;> simp [eqP]
theorem eqAt_D:∀ (n:Nat) {A:Around} (I:Inv X pins σ H s) {d e:Dt} {x y:V} {u v:Value},depP d <= n->A.units + n < cLine->Rep H d x->Rep H e y->RelV x u->RelV y v->SeqAt.EqAt A s u v (eqP d e):=by
 intro n
 induction n with
 | zero =>
  intro A I d e x y u v hn hu rd re rx ry
  have hf:∃ z,jdg d = some z:=by
   cases d <;> simp only [depP,jdg] at hn ⊢ <;> first | exact ⟨_,rfl⟩ | omega
  obtain ⟨z,hz⟩:=hf
  obtain ⟨rfl,fz⟩:=jiw hz rd
  cases he:jdg e with
  | some y' =>
   obtain ⟨rfl,fy⟩:=jiw he re
   rw [jsd hz he]
   exact jtd rx ry fz fy
  | none =>
   rw [(jfv he hz).2]
   have hu0:A.units < cLine:=by omega
   cases e <;> simp only [jdg,reduceCtorEq] at he
   ·rw [Rep] at re
    obtain ⟨a,vs,rfl,q,_⟩:=re
    cases ry
    obtain ⟨its,_,p⟩:=I.tupE q
    cases d <;> simp only [jdg,Option.some.injEq,reduceCtorEq] at hz <;> subst hz
    ·cases rx; exact SeqAt.EqAt.none_tuple p hu0
    ·cases rx; exact SeqAt.EqAt.bool_tuple _ p hu0
    ·obtain ⟨t,rfl⟩:=rx; exact SeqAt.EqAt.int_tuple _ _ p hu0
    ·obtain ⟨t,rfl⟩:=rx; exact SeqAt.EqAt.str_tuple _ _ p hu0
   ·rw [Rep] at re
    obtain ⟨a,vs,rfl,q,_⟩:=re
    cases ry
    obtain ⟨its,_,p⟩:=I.lstE q
    cases d <;> simp only [jdg,Option.some.injEq,reduceCtorEq] at hz <;> subst hz
    ·cases rx; exact SeqAt.EqAt.none_list p hu0
    ·cases rx; exact SeqAt.EqAt.bool_list _ p hu0
    ·obtain ⟨t,rfl⟩:=rx; exact SeqAt.EqAt.int_list _ _ p hu0
    ·obtain ⟨t,rfl⟩:=rx; exact SeqAt.EqAt.str_list _ _ p hu0
 | succ n ih =>
  intro A I d e x y u v hn hu rd re rx ry
  have hu0:A.units < cLine:=by omega
  have items:∀ {ds es:List Dt} {vs ws:List V} {its its2:List Value},jdw ds <= n->Reps H ds vs->Reps H es ws->Vals vs its->Vals ws its2 ->
    ∀ j (h1:j < its.toArray.size) (h2:j < its2.toArray.size),SeqAt.EqAt A.in1 s its.toArray[j] its2.toArray[j] (jfm ds es j):=by
   intro ds es vs ws its its2 hdp r1 r2 w1 w2 j h1 h2
   rw [List.size_toArray] at h1 h2
   have l1:=w1.length
   have l2:=w2.length
   obtain ⟨u',e1,q1⟩:=w1.get (i:=j) (x:=vs[j]'(by omega)) (gE _)
   obtain ⟨v',e2,q2⟩:=w2.get (i:=j) (x:=ws[j]'(by omega)) (gE _)
   obtain ⟨d',f1,g1⟩:=r1.at (i:=j) (gE (by omega))
   obtain ⟨e',f2,g2⟩:=r2.at (i:=j) (gE (by omega))
   rw [gE h1] at e1
   rw [gE h2] at e2
   cases e1; cases e2
   have hj:jfm ds es j = eqP d' e':=by unfold jfm; rw [f1,f2]
   rw [hj]
   have:=jjn f1
   exact ih (A:=A.in1) I (by omega) (by show A.units + 1 + n < cLine; omega) g1 g2 q1 q2
  cases hf:jdg d with
  | some z =>
   refine ih I ?_ (by omega) rd re rx ry
   cases d <;> simp only [jdg,reduceCtorEq] at hf <;> simp [depP]
  | none =>
   cases he:jdg e with
   | some y' =>
    rw [(jfv hf he).1]
    obtain ⟨rfl,fy⟩:=jiw he re
    cases d <;> simp only [jdg,reduceCtorEq] at hf
    ·rw [Rep] at rd
     obtain ⟨a,vs,rfl,q,_⟩:=rd
     cases rx
     obtain ⟨its,_,p⟩:=I.tupE q
     cases e <;> simp only [jdg,Option.some.injEq,reduceCtorEq] at he <;> subst he
     ·cases ry; exact SeqAt.EqAt.tuple_none p hu0
     ·cases ry; exact SeqAt.EqAt.tuple_bool _ p hu0
     ·obtain ⟨t,rfl⟩:=ry; exact SeqAt.EqAt.tuple_int _ _ p hu0
     ·obtain ⟨t,rfl⟩:=ry; exact SeqAt.EqAt.tuple_str _ _ p hu0
    ·rw [Rep] at rd
     obtain ⟨a,vs,rfl,q,_⟩:=rd
     cases rx
     obtain ⟨its,_,p⟩:=I.lstE q
     cases e <;> simp only [jdg,Option.some.injEq,reduceCtorEq] at he <;> subst he
     ·cases ry; exact SeqAt.EqAt.list_none p hu0
     ·cases ry; exact SeqAt.EqAt.list_bool _ p hu0
     ·obtain ⟨t,rfl⟩:=ry; exact SeqAt.EqAt.list_int _ _ p hu0
     ·obtain ⟨t,rfl⟩:=ry; exact SeqAt.EqAt.list_str _ _ p hu0
   | none =>
    cases d <;> simp only [jdg,reduceCtorEq] at hf <;> cases e <;> simp only [jdg,reduceCtorEq] at he
    ·rename_i ds es
     have hn':jdw ds <= n:=by rw [depP] at hn; omega
     have rd0:=rd
     have re0:=re
     rw [Rep] at rd
     rw [Rep] at re
     obtain ⟨a,vs,rfl,q,r1⟩:=rd
     obtain ⟨b,ws,rfl,q2,r2⟩:=re
     cases rx; cases ry
     by_cases hab:a = b
     ·subst hab
      rw [Rep.inj rd0 re0,jf4]
      exact SeqAt.EqAt.same _
     ·obtain ⟨its,w1,p1⟩:=I.tupE q
      obtain ⟨its2,w2,p2⟩:=I.tupE q2
      have k:=SeqAt.RcAt.tuples p1 p2 hu0 (items hn' r1 r2 w1 w2)
      have e0:((List.range (min its.toArray.size its2.toArray.size)).all (jfm ds es) && its.toArray.size == its2.toArray.size) = eqP (.tup ds) (.tup es):=by
       have l1:=w1.length
       have l2:=w2.length
       have l3:=r1.len
       have l4:=r2.len
       rw [eqP,List.size_toArray,List.size_toArray]
       by_cases hl:ds.length = es.length
       ·rw [jda hl,<- l1,<- l2,l3,l4,hl,Nat.min_self]
        simp
       ·rw [jec hl]
        have:(its.length == its2.length) = false:=by
         rw [beq_eq_false_iff_ne]; omega
        rw [this,Bool.and_false]
      rw [e0] at k
      exact .of_refs hab k
    ·rename_i ds es
     rw [Rep] at rd
     rw [Rep] at re
     obtain ⟨a,vs,rfl,q,r1⟩:=rd
     obtain ⟨b,ws,rfl,q2,r2⟩:=re
     cases rx; cases ry
     obtain ⟨its,w1,p1⟩:=I.tupE q
     obtain ⟨its2,w2,p2⟩:=I.lstE q2
     have:eqP (.tup ds) (.lst es) = false:=by simp [eqP]
     rw [this]
     exact SeqAt.EqAt.tuple_list p1 p2 hu0
    ·rename_i ds es
     rw [Rep] at rd
     rw [Rep] at re
     obtain ⟨a,vs,rfl,q,r1⟩:=rd
     obtain ⟨b,ws,rfl,q2,r2⟩:=re
     cases rx; cases ry
     obtain ⟨its,w1,p1⟩:=I.lstE q
     obtain ⟨its2,w2,p2⟩:=I.tupE q2
     have:eqP (.lst ds) (.tup es) = false:=by simp [eqP]
     rw [this]
     exact SeqAt.EqAt.list_tuple p1 p2 hu0
    ·rename_i ds es
     have hn':jdw ds <= n:=by rw [depP] at hn; omega
     have rd0:=rd
     have re0:=re
     rw [Rep] at rd
     rw [Rep] at re
     obtain ⟨a,vs,rfl,q,r1⟩:=rd
     obtain ⟨b,ws,rfl,q2,r2⟩:=re
     cases rx; cases ry
     by_cases hab:a = b
     ·subst hab
      rw [Rep.inj rd0 re0,jf4]
      exact SeqAt.EqAt.same _
     ·obtain ⟨its,w1,p1⟩:=I.lstE q
      obtain ⟨its2,w2,p2⟩:=I.lstE q2
      have l1:=w1.length
      have l2:=w2.length
      have l3:=r1.len
      have l4:=r2.len
      refine .of_refs hab ?_
      rw [eqP]
      by_cases hl:ds.length = es.length
      ·rw [jda hl]
       have k:=SeqAt.RcAt.lists p1 p2 (by rw [List.size_toArray,List.size_toArray]; omega) hu0 (items hn' r1 r2 w1 w2)
       rw [List.size_toArray,<- l1,l3] at k
       exact k
      ·rw [jec hl]
       exact SeqAt.RcAt.lists_lengths p1 p2 (by rw [List.size_toArray,List.size_toArray]; simp; omega) hu0
end
section
variable {prog:Program} {w:World} {A:Around} {R:Result->Shared->Prop} {I:Addr} {fp wr:List Addr} {n:Nat} {P:Nat->Value->Prop} {St:Nat->Heap->Prop}
def Best (val:Nat->Int) (n:Nat) (m:Int):Prop:=(∃ i,i < n/\m = val i)/\∀ i,i < n->val i <= m
theorem Best.up {val:Nat->Int} {j:Nat} {m:Int} (h:Best val j m) (hb:val j > m):Best val (j + 1) (val j) :=
 ⟨⟨j,Nat.lt_succ_self _,rfl⟩,fun i hi=>by
  rcases Nat.lt_succ_iff_lt_or_eq.mp hi with z | z
  ·have:=h.2 i z; omega
  ·rw [z]; exact Int.le_refl _⟩
theorem Best.keep {val:Nat->Int} {j:Nat} {m:Int} (h:Best val j m) (hb:¬ val j > m):Best val (j + 1) m :=
 ⟨let ⟨i,hi,e⟩:=h.1; ⟨i,Nat.lt_succ_of_lt hi,e⟩,fun i hi=>by
  rcases Nat.lt_succ_iff_lt_or_eq.mp hi with z | z
  ·exact h.2 i z
  ·rw [z]; omega⟩
theorem jg8:(toString "max" ++ toString ".loop":String) = "max.loop":=by decide
theorem jm9 (W:Walks prog w A.in1 I fp wr n P St) (val:Nat->Int) (hval:∀ i v,P i v->∃ t:Tok,v = Value.int (val i) t) (kw:List (Str × Value)) (S:Addr) (hSf:S ∉ fp) :
  ∀ (k j:Nat) (s:Shared) (m:Int) (t:Tok) (c:Nat),n - j = k->j <= n->St j s.heap->Best val j m ->
  s.heap.get? S = some { cls:=.type "list",dict:=none,data:=.seq #[.int m t,.int m t] c,slots:=#[] } ->
  (∀ m' t' h' tk,Best val n m'->(∀ b o,b ∉ wr->b ≠ S->s.heap.get? b = some o->h'.get? b = some o)->R (.ok (.ret (.int m' t'))) { s with heap:=h',toks:=tk }) ->
  codeAny (model prog w) A (.builtin "max.loop" ⟨[.ref I,.none,.ref S],kw⟩) R s:=by
 have hSw:S ∉ wr:=fun z=>hSf (W.sub _ z)
 intro k
 induction k with
 | zero =>
  intro j s m t c hk hj hst hb hS hR
  have hin:j = n:=by omega
  subst hin
  refine codeAny_builtin PySem.F.entry_max_loop ?_
  rw [Around.under_plainId PySem.F.plain_max_loop _]
  show wpAny _ A.in1 (seqItems? (.ref S) >>= _) _ _ s
  refine wpAny_bind (wpAny_seqItems hS rfl ?_)
  show wpAny _ A.in1 (tryCatch (pyNext (.ref I)) _ >>= _) _ _ s
  refine wpAny_bind (wpAny_tryCatch (W.done s _ _ hst fun h' tk kp=>?_))
  have hS':=kp S _ hSw hS
  show wpAny _ A.in1 (updateSeq S (fun _=>#[]) >>= _) _ _ _
  refine wpAny_bind ?_
  refine wpAny_updateSeq hS' rfl (wpAny_bind (wpAny_letGo (wpAny_pure ?_)))
  exact hR m t _ tk hb fun b o hbw hbS e=>(Heap.get?_update_other _ _ (Ne.symm hbS)).trans (kp b o hbw e)
 | succ k ih =>
  intro j s m t c hk hj hst hb hS hR
  have hlt:j < n:=by omega
  refine codeAny_builtin PySem.F.entry_max_loop ?_
  rw [Around.under_plainId PySem.F.plain_max_loop _]
  show wpAny _ A.in1 (seqItems? (.ref S) >>= _) _ _ s
  refine wpAny_bind (wpAny_seqItems hS rfl ?_)
  show wpAny _ A.in1 (tryCatch (pyNext (.ref I)) _ >>= _) _ _ s
  refine wpAny_bind (wpAny_tryCatch (W.item j s _ _ hlt hst fun v h' tk hP hst' kp=>?_))
  obtain ⟨t',rfl⟩:=hval j v hP
  have hS':=kp S _ hSw hS
  show wpAny _ A.in1 (tryCatch (holding [.int (val j) t',.int (val j) t'] (richCompare .Gt (.int (val j) t') (.int m t) >>= _)) _ >>= _) _ _ _
  refine wpAny_bind (wpAny_tryCatch (wpAny_holding (wpAny_bind (gt_int ?_))))
  refine wpAny_bind (wpAny_holding (wpAny_truthy_bool ?_))
  refine wpAny_bind (wpAny_letGo (wpAny_pure ?_))
  by_cases hc:val j > m
  ·rw [decide_eq_true (show m < val j from hc)]
   simp only [if_true]
   refine wpAny_bind ?_
   refine wpAny_updateSeq hS' rfl (wpAny_bind (wpAny_letGo ?_))
   rw [jg8]
   refine wpAny_pure ⟨plainId_quiet PySem.F.plain_max_loop _,ih (j + 1) _ (val j) t' _ (by omega) hlt (W.frame _ _ _ hst' fun b hbf o e=>?_) (hb.up hc) (Heap.get?_update_self _ hS' rfl) fun m' u h'' tk'' hB k''=>?_⟩
   ·exact (Heap.get?_update_other _ _ (fun z:S = b=>hSf (by rw [z]; exact hbf))).trans e
   ·exact hR m' u h'' tk'' hB fun b o hbw hbS e=>k'' b o hbw hbS ((Heap.get?_update_other _ _ (Ne.symm hbS)).trans (kp b o hbw e))
  ·rw [decide_eq_false (show ¬ m < val j from hc)]
   simp only [Bool.false_eq_true,if_false]
   refine wpAny_bind (wpAny_letGo ?_)
   rw [jg8]
   refine wpAny_pure ⟨plainId_quiet PySem.F.plain_max_loop _,ih (j + 1) _ m t c (by omega) hlt hst' (hb.keep hc) hS' fun m' u h'' tk'' hB k''=>?_⟩
   exact hR m' u h'' tk'' hB fun b o hbw hbS e=>k'' b o hbw hbS (kp b o hbw e)
end
section
variable {X:Cx}
theorem jg0 (a d:Value):argsOk "max" ⟨[a],[(Str.ofString "default",d)]⟩:=by unfold argsOk; kernel_rfl
def rMaxD:List V->List V->Hp->VK->Prop:=fun vs zs H Q=>∃ (p:Addr) (ns:List Int) (d:Int),vs = [.ref p]/\zs = [.int d]/\H p = some (.lst (ns.map V.int)) /\
 ∀ m,(ns = []->m = d)->(ns ≠ []->m ∈ ns)->(∀ x ∈ ns,x <= m)->Q (.int m) H
theorem jqy (hc:X.calm = true):∀ (pins:List (Addr × Obj)) (s:Shared) (σ:St) (H:Hp) (xs zs:List V) (us ws:List Value) (Q:VK),Inv X pins σ H s->Vals xs us->Vals zs ws->rMaxD xs zs H Q ->
  wpAny (model X.prog X.w) X.A (call (.builtin "max") us ([Str.ofString "default"].zip ws)) (EP X pins σ Q) X.xe s:=by
 intro pins s σ H xs zs us ws Q I r rz h
 obtain ⟨p,ns,d,rfl,rfl,e,q⟩:=h
 obtain ⟨u,rfl,rx⟩:=jif r
 cases rx
 obtain ⟨dv,rfl,td,rfl⟩:=jif rz
 obtain ⟨z,its,c,r',hlen,e'⟩:=I.lstM e
 have hI:=jdp r'
 have plt:p < s.heap.objs.size:=Heap.lt_size e'
 have hL:s.heap.IsList p its.toArray:=⟨_,e',rfl,_,rfl⟩
 refine kmk_tree PySem.F.kind_max PySem.F.plain_max PySem.F.entry_max (jg0 _ _) ?_
 show wpAny _ X.A.in1 (Builtin.Builtins.bindParams "max" ["key","default"] 0 ⟨[],[(Str.ofString "default",.int d td)]⟩ >>= _) _ _ s
 refine wpAny_bind (wpAny_of_eq (show Builtin.Builtins.bindParams "max" ["key","default"] 0 ⟨[],[(Str.ofString "default",.int d td)]⟩ = pure [none,some (.int d td)] from rfl) ?_)
 refine wpAny_bind (wpAny_pure ?_)
 refine wpAny_bind (wpAny_pyIter_list hL ?_)
 refine wpAny_bind (wpAny_newList ?_ (Nat.zero_le _))
 rw [jg8]
 have hS:(s.heap.push { cls:=.type "list_iterator",data:=.fields #[.ref p,.int 0 0] }).objs.size = s.heap.objs.size + 1:=size_push' ..
 have W:=Walks.list (prog:=X.prog) (w:=X.w) (A:=X.A.in1) (show X.A.in1.handled = none from I.ok.hd hc) s.heap.objs.size p (Nat.ne_of_lt plt) its.toArray
 have hsz:its.toArray.size = ns.length:=by rw [List.size_toArray,<- hlen,List.length_map]
 have hval:∀ (i:Nat) (v:Value),its.toArray[i]? = some v->∃ t:Tok,v = Value.int (ns[i]?.getD 0) t:=fun i v hv=>by
  have hv':its[i]? = some v:=by simpa using hv
  have hi:i < ns.length:=by
   have:=(List.getElem?_eq_some_iff.mp hv').1
   rw [List.length_map] at hlen
   omega
  obtain ⟨u,e1,t,e2⟩:=r'.get (i:=i) (x:=.int ns[i]) (by rw [List.getElem?_map,gE hi]; rfl)
  rw [hv'] at e1
  cases e1
  exact ⟨t,by rw [e2,gE hi]; rfl⟩
 have kp0:∀ (h':Heap) (tk:Nat),(∀ b o,b ∉ [s.heap.objs.size]->b ≠ (s.heap.push { cls:=.type "list_iterator",data:=.fields #[.ref p,.int 0 0] }).objs.size->((s.heap.push { cls:=.type "list_iterator",data:=.fields #[.ref p,.int 0 0] }).push { cls:=.type "list",data:=.seq #[] }).get? b = some o->h'.get? b = some o) ->
   Inv X pins σ H { s with heap:=h',toks:=tk }:=fun h' tk k=>I.kept fun b o qq=>k b o (by
    intro z
    have:b = s.heap.objs.size:=by simpa using z
    exact absurd (Heap.lt_size qq) (by rw [this]; exact Nat.lt_irrefl _)) (by rw [hS]; exact Nat.ne_of_lt (Nat.lt_succ_of_lt (Heap.lt_size qq))) (Heap.get?_push_of_some _ (Heap.get?_push_of_some _ qq))
 have hst0:(fun i (h:Heap)=>h.IsListIter s.heap.objs.size p i/\h.IsList p its.toArray) 0 ((s.heap.push { cls:=.type "list_iterator",data:=.fields #[.ref p,.int 0 0] }).push { cls:=.type "list",data:=.seq #[] }) :=
  ⟨⟨_,Heap.get?_push_of_some _ (Heap.get?_push_size _ rfl),rfl,rfl⟩,(hL.push _).push _⟩
 have hSg:((s.heap.push { cls:=.type "list_iterator",data:=.fields #[.ref p,.int 0 0] }).push { cls:=.type "list",data:=.seq #[] }).get? (s.heap.push { cls:=.type "list_iterator",data:=.fields #[.ref p,.int 0 0] }).objs.size = some { cls:=.type "list",dict:=none,data:=.seq #[] 0,slots:=#[] }:=Heap.get?_push_size _ rfl
 have hSf:(s.heap.push { cls:=.type "list_iterator",data:=.fields #[.ref p,.int 0 0] }).objs.size ∉ [s.heap.objs.size,p]:=by
  rw [hS]
  intro z
  rcases List.mem_cons.mp z with z | z
  ·exact absurd z (Nat.succ_ne_self _)
  ·have z:=List.mem_singleton.mp z
   rw [<- z] at plt
   exact Nat.lt_irrefl _ (Nat.lt_of_succ_lt plt)
 refine wpAny_pure ⟨plainId_quiet PySem.F.plain_max_loop _,?_⟩
 refine codeAny_builtin PySem.F.entry_max_loop ?_
 rw [Around.under_plainId PySem.F.plain_max_loop _]
 show wpAny _ X.A.in1 (seqItems? (.ref _) >>= _) _ _ _
 refine wpAny_bind (wpAny_seqItems hSg rfl ?_)
 show wpAny _ X.A.in1 (tryCatch (pyNext (.ref s.heap.objs.size)) _ >>= _) _ _ _
 cases hn:ns with
 | nil =>
  have h0:its.toArray.size = 0:=by rw [hsz,hn]; rfl
  refine wpAny_bind (wpAny_tryCatch (W.done _ _ _ (by rw [h0]; exact hst0) fun h' tk kp=>?_))
  refine wpAny_bind (wpAny_rule (wpAny_pure ?_))
  exact ⟨.int d,H,kp0 h' tk fun b o h1 _ h3=>kp b o h1 h3,⟨td,rfl⟩,q d (fun _=>rfl) (fun z=>absurd hn z) (by rw [hn]; intro x hx; cases hx)⟩
 | cons n0 rest =>
  have hpos:0 < its.toArray.size:=by rw [hsz,hn]; simp
  refine wpAny_bind (wpAny_tryCatch (W.item 0 _ _ _ hpos hst0 fun v h' tk hP hst' kp=>?_))
  obtain ⟨t',rfl⟩:=hval 0 v hP
  have hS':=kp _ _ (fun z=>hSf (List.mem_cons.mpr (.inl (List.mem_singleton.mp z)))) hSg
  show wpAny _ X.A.in1 (updateSeq _ (fun _=>#[_,_]) >>= _) _ _ _
  refine wpAny_bind ?_
  refine wpAny_updateSeq hS' rfl ?_
  rw [jg8]
  refine wpAny_pure ⟨plainId_quiet PySem.F.plain_max_loop _,jm9 W (fun i=>ns[i]?.getD 0) hval _ _ hSf _ 1 _ _ t' _ rfl hpos (W.frame _ _ _ hst' fun b hbf o e=>?_) ⟨⟨0,Nat.one_pos,rfl⟩,fun i hi=>by
   have:i = 0:=by omega
   subst this; exact Int.le_refl _⟩ (Heap.get?_update_self _ hS' rfl) fun m u h'' tk'' hB k''=>?_⟩
  ·exact (Heap.get?_update_other _ _ (fun z=>hSf (by rw [z]; exact hbf))).trans e
  ·refine ⟨.int m,H,kp0 h'' tk'' fun b o h1 h2 h3=>k'' b o h1 h2 ((Heap.get?_update_other _ _ (Ne.symm h2)).trans (kp b o h1 h3)),⟨u,rfl⟩,q m (fun z=>by rw [hn] at z; cases z) (fun _=>?_) fun x hx=>?_⟩
   ·obtain ⟨i,hi,e1⟩:=hB.1
    rw [hsz] at hi
    rw [e1]
    show ns[i]?.getD 0 ∈ ns
    rw [gE hi]
    exact List.getElem_mem hi
   ·obtain ⟨i,hi,e1⟩:=List.mem_iff_getElem.mp hx
    have:ns[i]?.getD 0 <= m:=hB.2 i (by rw [hsz]; exact hi)
    rw [gE hi] at this
    rw [<- e1]
    exact this
def tCBK (r:List V->List V->Hp->VK->Prop) (t tk:TA):TE:=fun σ H Q=>t σ H fun vs H1=>tk σ H1 fun zs H2=>r vs zs H2 Q
theorem jpn {x k:Str} {p kp pos:Pos} {e g:Expr} {t tk:TA} {id:String} {r:List V->List V->Hp->VK->Prop}
  (hcall:∀ (pins:List (Addr × Obj)) (s:Shared) (σ:St) (H:Hp) (xs zs:List V) (us ws:List Value) (Q:VK),Inv X pins σ H s->Vals xs us->Vals zs ws->r xs zs H Q ->
   wpAny (model X.prog X.w) X.A (call (.builtin id) us ([k].zip ws)) (EP X pins σ Q) X.xe s)
  (hg:Gl X x) (hm:X.mg x = none) (hv:bootBuiltins x = some (.builtin id)) (ha:PA X [e] t) (hk:PK X [⟨some k,g,kp⟩] tk) (hn:x ≠ "__name__":=by decide) (hdb:(x == ("__debug__":Str)) = false:=by decide)
  (he:backTo pos (starEach [e] X.env) = (false,eval e X.env) :: backTo pos (starEach [] X.env):=by rfl) (hpl:(backTo pos (starEach [e] X.env)).any (·.1) = false:=by rfl):PE X (.Call (.Name x p) [e] [⟨some k,g,kp⟩] pos) (tCBK r t tk):=by
 intro pins s σ H Q I h
 refine wpAny_Call_Name_kw (jfu I hg hm hv ?_ hn hdb)
 refine callWith_kw (thn (ha pos pins s σ H _ I h) fun us s1 ⟨vs,H1,I1,r1,q1⟩=>thn (hk pos pins s1 σ H1 _ I1 q1) fun ws s2 ⟨zs,H2,I2,r2,q2⟩=>?_) he hpl
 exact hcall pins s2 σ H2 vs zs us ws Q I2 r1 r2 q2
end
section
variable {X:Cx} {pins:List (Addr × Obj)} {σ:St} {H:Hp} {s:Shared}
theorem jjg (n:Nat) {A:Around} (I:Inv X pins σ H s) {ds es:List Dt} {vs ws:List V} {its its2:List Value} (hdp:jdw ds <= n) (hu:A.units + n < cLine) (r1:Reps H ds vs) (r2:Reps H es ws) (w1:Vals vs its) (w2:Vals ws its2) :
  ∀ j (h1:j < its.toArray.size) (h2:j < its2.toArray.size),SeqAt.EqAt A s its.toArray[j] its2.toArray[j] (jfm ds es j):=by
 intro j h1 h2
 rw [List.size_toArray] at h1 h2
 have l1:=w1.length
 have l2:=w2.length
 obtain ⟨u',e1,q1⟩:=w1.get (i:=j) (x:=vs[j]'(by omega)) (gE _)
 obtain ⟨v',e2,q2⟩:=w2.get (i:=j) (x:=ws[j]'(by omega)) (gE _)
 obtain ⟨d',f1,g1⟩:=r1.at (i:=j) (gE (by omega))
 obtain ⟨e',f2,g2⟩:=r2.at (i:=j) (gE (by omega))
 rw [gE h1] at e1
 rw [gE h2] at e2
 cases e1; cases e2
 have hj:jfm ds es j = eqP d' e':=by unfold jfm; rw [f1,f2]
 rw [hj]
 have:=jjn f1
 exact eqAt_D n I (by omega) hu g1 g2 q1 q2
theorem jhs {ds es:List Dt} {vs ws:List V} {its its2:List Value} (r1:Reps H ds vs) (r2:Reps H es ws) (w1:Vals vs its) (w2:Vals ws its2) :
  ((List.range (min its.toArray.size its2.toArray.size)).all (jfm ds es) && its.toArray.size == its2.toArray.size) = eqPs ds es:=by
 have l1:=w1.length
 have l2:=w2.length
 have l3:=r1.len
 have l4:=r2.len
 rw [List.size_toArray,List.size_toArray]
 by_cases hl:ds.length = es.length
 ·rw [jda hl,<- l1,<- l2,l3,l4,hl,Nat.min_self]
  simp
 ·rw [jec hl]
  have:(its.length == its2.length) = false:=by
   rw [beq_eq_false_iff_ne]; omega
  rw [this,Bool.and_false]
def rEqD (neg:Bool):R2:=fun x y H Q=>∃ d e,Rep H d x/\Rep H e y/\depP d <= 20/\((∃ ds es,d = .lst ds/\e = .lst es) \/ ∃ ds es,d = .tup ds/\e = .tup es)/\Q (.bl (if neg = true then !eqP d e else eqP d e)) H
theorem jn9 (hu:X.A.units + 64 < cLine):OpR X (compareOp .Eq) (rEqD false):=by
 intro pins s σ H x y v u Q I rx ry h
 obtain ⟨d,e,rd,re,hd,hk,q⟩:=h
 have hu0:X.A.units < cLine:=by omega
 rcases hk with ⟨ds,es,rfl,rfl⟩ | ⟨ds,es,rfl,rfl⟩
 ·have hn':jdw ds <= 20:=by rw [depP] at hd; omega
  rw [Rep] at rd re
  obtain ⟨a,vs,rfl,q1,r1⟩:=rd
  obtain ⟨b,ws,rfl,q2,r2⟩:=re
  cases rx; cases ry
  obtain ⟨its,w1,p1⟩:=I.lstE q1
  obtain ⟨its2,w2,p2⟩:=I.lstE q2
  have l1:=w1.length
  have l2:=w2.length
  have l3:=r1.len
  have l4:=r2.len
  by_cases hl:ds.length = es.length
  ·refine SeqAt.RcAt.lists (e:=jfm ds es) p1 p2 (by rw [List.size_toArray,List.size_toArray]; omega) hu0 (jjg 20 I hn' (by show X.A.units + 1 + 20 < cLine; omega) r1 r2 w1 w2) _ _ _ _ ⟨.bl _,H,I,rfl,?_⟩
   rw [List.size_toArray,<- l1,l3,<- jda hl]
   rw [eqP] at q
   exact q
  ·refine SeqAt.RcAt.lists_lengths p1 p2 (by rw [List.size_toArray,List.size_toArray]; simp; omega) hu0 _ _ _ _ ⟨.bl _,H,I,rfl,?_⟩
   rw [eqP,jec hl] at q
   exact q
 ·have hn':jdw ds <= 20:=by rw [depP] at hd; omega
  rw [Rep] at rd re
  obtain ⟨a,vs,rfl,q1,r1⟩:=rd
  obtain ⟨b,ws,rfl,q2,r2⟩:=re
  cases rx; cases ry
  obtain ⟨its,w1,p1⟩:=I.tupE q1
  obtain ⟨its2,w2,p2⟩:=I.tupE q2
  refine SeqAt.RcAt.tuples (e:=jfm ds es) p1 p2 hu0 (jjg 20 I hn' (by show X.A.units + 1 + 20 < cLine; omega) r1 r2 w1 w2) _ _ _ _ ⟨.bl _,H,I,rfl,?_⟩
  rw [jhs r1 r2 w1 w2]
  rw [eqP] at q
  exact q
theorem op_neD (hu:X.A.units + 64 < cLine):OpR X (compareOp .NotEq) (rEqD true):=by
 intro pins s σ H x y v u Q I rx ry h
 obtain ⟨d,e,rd,re,hd,hk,q⟩:=h
 have hu0:X.A.units < cLine:=by omega
 rcases hk with ⟨ds,es,rfl,rfl⟩ | ⟨ds,es,rfl,rfl⟩
 ·have hn':jdw ds <= 20:=by rw [depP] at hd; omega
  rw [Rep] at rd re
  obtain ⟨a,vs,rfl,q1,r1⟩:=rd
  obtain ⟨b,ws,rfl,q2,r2⟩:=re
  cases rx; cases ry
  obtain ⟨its,w1,p1⟩:=I.lstE q1
  obtain ⟨its2,w2,p2⟩:=I.lstE q2
  have l1:=w1.length
  have l2:=w2.length
  have l3:=r1.len
  have l4:=r2.len
  by_cases hl:ds.length = es.length
  ·refine SeqAt.RcNeAt.lists (e:=jfm ds es) p1 p2 (by rw [List.size_toArray,List.size_toArray]; omega) hu0 (jjg 20 I hn' (by show X.A.units + 1 + 20 < cLine; omega) r1 r2 w1 w2) _ _ _ _ ⟨.bl _,H,I,rfl,?_⟩
   rw [List.size_toArray,<- l1,l3,<- jda hl]
   rw [eqP] at q
   exact q
  ·refine SeqAt.RcNeAt.lists_lengths p1 p2 (by rw [List.size_toArray,List.size_toArray]; simp; omega) hu0 _ _ _ _ ⟨.bl _,H,I,rfl,?_⟩
   rw [eqP,jec hl] at q
   exact q
 ·have hn':jdw ds <= 20:=by rw [depP] at hd; omega
  rw [Rep] at rd re
  obtain ⟨a,vs,rfl,q1,r1⟩:=rd
  obtain ⟨b,ws,rfl,q2,r2⟩:=re
  cases rx; cases ry
  obtain ⟨its,w1,p1⟩:=I.tupE q1
  obtain ⟨its2,w2,p2⟩:=I.tupE q2
  refine SeqAt.RcNeAt.tuples (e:=jfm ds es) p1 p2 hu0 (jjg 20 I hn' (by show X.A.units + 1 + 20 < cLine; omega) r1 r2 w1 w2) _ _ _ _ ⟨.bl _,H,I,rfl,?_⟩
  rw [jhs r1 r2 w1 w2]
  rw [eqP] at q
  exact q
end
section
variable {X:Cx} {o i e f value:Expr} {td ty tv tx:TE} {pos pos' apos cpos:Pos}
def ja8 (td ty tv:TE):TS:=fun D σ H=>tv σ H fun v H1=>td σ H1 fun x H2=>ty σ H2 fun y H3=>match x,y with
 | .ref a,.int n=>match H3 a with
  | some (.dK kvs)=>kvs.length < sizeLine/\D.nx σ (upd H3 a (.dK (putK kvs (Sum.inl n:Key) v)))
  | _=>False
 | _,_=>False
theorem dput_r {x y:V} {H3:Hp} {R:List (Key × V)->Addr->Int->Prop} (h:match x,y with
 | .ref a,.int n=>match H3 a with
  | some (.dK kvs)=>R kvs a n
  | _=>False
 | _,_=>False):∃ a n kvs,x = .ref a/\y = .int n/\H3 a = some (.dK kvs)/\R kvs a n:=by
 split at h
 ·split at h
  ·rename_i e; exact ⟨_,_,_,rfl,rfl,e,h⟩
  ·exact h.elim
 ·exact h.elim
theorem q_dput (hu:X.A.units + 1 < cLine) (ho:PE X o td) (hi:PE X i ty) (hv:PE X value tv) (hs:swapsWith value (some (.Subscript o i pos')) pos.line X.env = pure false:=by rfl) :
  PS X (.Assign [.Subscript o i pos'] value pos) (ja8 td ty tv):=by
 intro pins s σ H D I h
 refine wpAny_Assign_Subscript (thn (hv pins s σ H _ I h) fun r s1 ⟨v,H1,I1,rv,q1⟩=>thn (ho pins s1 σ H1 _ I1 q1) fun u s2 ⟨x,H2,I2,rx,q2⟩=>thn (hi pins s2 σ H2 _ I2 q2) fun iv s3 ⟨y,H3,I3,ry,q3⟩=>?_) hs
 obtain ⟨a,n,kvs,rfl,rfl,ea,q4,q5⟩:=dput_r (R:=fun kvs a n=>kvs.length < sizeLine/\D.nx σ (upd H3 a (.dK (putK kvs (Sum.inl n:Key) v)))) q3
 obtain rfl:u = Value.ref a:=rx
 exact jqq hu I3 (DPut.k (k:=Sum.inl n) ea q4) ry rv fun s4 I4=>⟨σ,_,I4,q5⟩
def jab (td ty tx:TE):TE:=fun σ H Q=>td σ H fun x H1=>match x with
 | .ref a=>(∃ kvs,H1 a = some (.dK kvs))/\ty σ H1 fun y H2=>tx σ H2 fun z H3=>match y with
  | .int n=>match H3 a with
   | some (.dK kvs)=>Q ((valV kvs (Sum.inl n:Key)).getD z) H3
   | _=>False
  | _=>False
 | _=>False
def fCat:R2:=fun x y H Q=>match x,y with
 | .ref l,.ref b=>match H l,H b with
  | some (.lst xs),some (.lst zs)=>xs.length + zs.length <= sizeLine/\∀ p,H p = none->Q (.ref p) (upd H p (.lst (xs ++ zs)))
  | _,_=>False
 | _,_=>False
theorem jrf:OpR X (binaryOp .Add) fCat:=op_cat.imp fun x y H Q h=>by
 unfold fCat at h
 split at h
 ·split at h
  ·rename_i e1 e2; exact ⟨_,_,_,_,rfl,rfl,e1,e2,h.1,h.2⟩
  ·exact h.elim
 ·exact h.elim
def jad:V->List V->Hp->VK->Prop:=fun x vs H Q=>match x,vs with
 | .ref l,[]=>match H l with
  | some (.lst _)=>Q .non (upd H l (.lst []))
  | _=>False
 | _,_=>False
def fBM0 (r:V->List V->Hp->VK->Prop) (to:TE):TE:=fun σ H Q=>to σ H fun x H1=>(∃ a xs,x = .ref a/\H1 a = some (.lst xs))/\r x [] H1 Q
def fSlT:V->Option Int->Option Int->Hp->VK->Prop:=fun x lo hi H Q=>match x with
 | .ref a=>match H a with
  | some (.tup xs)=>¬ (HT.sIx xs.length 0 lo = 0/\HT.sIx xs.length xs.length hi = xs.length)/\∀ p,H p = none->Q (.ref p) (upd H p (.tup (cutV xs lo hi)))
  | _=>False
 | _=>False
def jar:List V->Hp->VK->Prop:=fun vs H Q=>match vs with
 | [.bl k]=>Q (.int (if k = true then 1 else 0)) H
 | [.int i]=>Q (.int i) H
 | _=>False
theorem q_int1:jde X (.type "int") jar:=jr0.imp fun vs H Q h=>by
 unfold jar at h
 split at h
 ·exact .inr ⟨_,rfl,h⟩
 ·exact .inl ⟨_,rfl,h⟩
 ·exact h.elim
end
section
variable {prog:Program} {w:World} {A:Around} {E:Value->Shared->Prop}
theorem drawL {it l:Addr} {items:Array Value} (hne:l ≠ it):∀ (n i:Nat) (s:Shared) (Q:List Value->Shared->Prop),s.heap.IsListIter it l i->s.heap.IsList l items->i + n <= items.size ->
  (∀ h',h'.IsListIter it l (i + n)->Heap.SameBut it s.heap h'->Q ((items.toList.drop i).take n) { s with heap:=h' })->wpAny (model prog w) A (draw (.ref it) n) Q E s
 | 0,i,s,Q,hit,_,_,hQ=>wpAny_pure (by simpa using hQ s.heap hit (Heap.SameBut.refl ..))
 | n + 1,i,s,Q,hit,hl,hle,hQ=>by
  have hlt:i < items.size:=by omega
  show wpAny _ _ (pyNext (.ref it) >>= _) Q E s
  refine wpAny_bind (wpAny_pyNext_list_item hit hl (x:=items[i]) (by simp [hlt]) fun h1 hit1 hs1=>?_)
  refine wpAny_bind (wpAny_holding (drawL hne n (i + 1) _ _ hit1 (hl.extBut hs1.extBut hne) (by omega) fun h2 hit2 hs2=>wpAny_pure ?_))
  have z:=hQ h2 (by rw [show i + (n + 1) = i + 1 + n by omega]; exact hit2) (hs1.trans hs2)
  have hd:items.toList.drop i = items[i] :: items.toList.drop (i + 1):=by simp [List.drop_eq_getElem_cons,hlt]
  rw [hd,List.take_succ_cons] at z
  exact z
theorem jtk {s:Shared} {l:Addr} {items:Array Value} {Q:List Value->Shared->Prop} (hh:A.handled = none) (hl:s.heap.IsList l items)
  (hQ:∀ h',Heap.ExtBut s.heap.objs.size s.heap h'->Q items.toList { s with heap:=h' }):wpAny (model prog w) A (unpackItems (.ref l) items.size none) Q E s:=by
 have hne:l ≠ s.heap.objs.size:=by obtain ⟨o,ho,_⟩:=hl; exact Nat.ne_of_lt (Heap.lt_size ho)
 unfold unpackItems
 refine wpAny_bind ?_
 unfold notIterableAtAll
 refine wpAny_bind (wpAny_specialOf hl.typeIs slot_list_iter.lookup ?_)
 refine wpAny_pure ?_
 simp only [Bool.false_eq_true,if_false]
 refine wpAny_bind (wpAny_holding (wpAny_pyIter_list hl ?_))
 refine wpAny_bind (wpAny_holding (drawL hne items.size 0 _ _ ⟨_,Heap.get?_push_size _ rfl,rfl,rfl⟩ (hl.push _) (by omega) fun h1 hit1 hs1=>?_))
 rw [show List.take items.size (List.drop 0 items.toList) = items.toList by rw [List.drop_zero]; exact List.take_of_length_le (by simp)]
 rw [if_neg (by simp)]
 refine wpAny_bind (wpAny_holding (wpAny_pyNext_list_end hh hit1 ((hl.push _).extBut hs1.extBut hne) (by simp) fun h2 he2=>?_))
 simp only [Option.isSome_none,Bool.false_eq_true,if_false]
 exact wpAny_pure (hQ h2 fun b o hb e=>he2 b o hb (hs1.extBut b o hb (Heap.get?_push_of_some _ e)))
end
section
variable {X:Cx} {es:List Expr} {pos:Pos}
def jau (n:Nat) (t:TGs):TG:=fun v σ H Q=>match v with
 | .ref a=>match H a with
  | some (.lst xs)=>xs.length = n/\t xs σ H Q
  | _=>False
 | _=>False
theorem jpc {k:Nat} {t:TGs} {n:Nat} (hc:X.calm = true) (h:PGs X es t) (hn:(assignEach es X.env).length = n:=by rfl) (hst:(assignEach es X.env).findIdx? (·.1) = none:=by rfl):PG X (.Tuple es k pos) (jau n t):=by
 intro pins s σ H v u Q I r hw
 have hw':∃ a xs,v = .ref a/\H a = some (.lst xs)/\xs.length = n/\t xs σ H Q:=by
  unfold jau at hw
  split at hw
  ·split at hw
   ·rename_i e; exact ⟨_,_,rfl,e,hw.1,hw.2⟩
   ·exact hw.elim
  ·exact hw.elim
 obtain ⟨a,xs,rfl,e,hl,hw⟩:=hw'
 cases r
 obtain ⟨its,rv,ht⟩:=I.lstE e
 rw [assign_Tuple]
 refine wpAny_bind (wpAny_standAt ?_)
 unfold unpack
 have hsz:(assignEach es X.env).length = its.toArray.size:=by rw [hn,<- hl,List.size_toArray]; exact rv.length
 rw [hsz,hst]
 refine wpAny_bind (wpAny_holding (jtk (I.ok.hd hc) ht fun h' hx=>?_))
 have I1:Inv X pins σ H { s with heap:=h' }:=I.kept (t':=s.toks) fun b o q=>hx b o (Nat.ne_of_lt (Heap.lt_size q)) q
 exact h pins _ σ H xs _ Q I1 (by simpa using rv) hw
end
def TrD (h B:Heap) (x:Addr) (cl:Value) (dd:Option Addr) (fl:Value):Prop :=
 ∃ ox ws T oT ts,h.get? x = some ox/\ox.cls = cl/\ox.dict = dd/\ox.data = .fields ws/\ws[1]? = some (.ref T)/\B.get? T = none/\T ≠ x/\h.get? T = some oT/\oT.data = .fields ts/\ts[3]? = some fl/\(dd ≠ none->ws[2]? = some .none)
structure FlyD (B:Heap) (l:List Env) (x:Addr) (cl:Value) (dd:Option Addr) (fl:Value) (h:Heap):Prop where
 stays:B.StaysIn h
 new:B.get? x = none
 funs:h.FunFrames B l
 tr:TrD h B x cl dd fl
theorem FlyD.there {B:Heap} {l:List Env} {x:Addr} {cl:Value} {dd:Option Addr} {fl:Value} {h:Heap} (f:FlyD B l x cl dd fl h):∃ ox ws,h.get? x = some ox/\ox.cls = cl/\ox.dict = dd/\ox.data = .fields ws:=by
 obtain ⟨ox,ws,_,_,_,h1,h2,h3,h4,_⟩:=f.tr
 exact ⟨ox,ws,h1,h2,h3,h4⟩
section
variable {M:Model} {A:Around} {E:Value->Shared->Prop} {s:Shared} {B:Heap} {env:Env} {l:List Env} {L x:Addr} {cl:Value} {dd:Option Addr} {Q:Unit->Shared->Prop}
end
structure Df (X:Cx):Prop where
 stk:X.stack = X.env :: X.outer
 fr:X.env.frame = some X.env.locals
 ex:X.ex = []
 fn:∀ x,X.fn x = true
structure Cov (X:Cx) (B:Heap) (H:Hp) (h:Heap):Prop where
 tr:∀ b o,H b = some o->∃ q,h.get? b = some q/\B.get? b = some q
 old:∀ b o,X.s₀.heap.get? b = some o->b ∉ frs X.stack->∃ q,h.get? b = some q/\B.get? b = some q
 pin:∀ p ∈ X.pn,B.get? p.1 = some p.2
 cel:∀ x c,X.env.cells.lookup x = some c->∃ q,h.get? c = some q/\B.get? c = some q
section
variable {X:Cx} {σ:St} {H:Hp} {s:Shared} {B h':Heap}
end
inductive Md (B:Heap) (l:List Env) (L x:Addr) (cl:Value) (dd:Option Addr) (h:Heap):Prop where
 | new {ox:Obj} {ws:Array Value}:h.get? x = some ox->ox.cls = cl->ox.dict = dd->ox.data = .fields ws->ws[1]? = some .none->(dd ≠ none->ws[2]? = some .none)->B.StaysIn h->B.get? x = none->h.FunFrames B l->Md B l L x cl dd h
 | fly:FlyD B l x cl dd .none h->Md B l L x cl dd h
 | held:FlyD B l x cl dd (rawInt L) h->Md B l L x cl dd h
theorem Md.stays {B:Heap} {l:List Env} {L x:Addr} {cl:Value} {dd:Option Addr} {h:Heap} (m:Md B l L x cl dd h):B.StaysIn h:=by
 cases m with
 | new _ _ _ _ _ _ s _ _=>exact s
 | fly f=>exact f.stays
 | held f=>exact f.stays
def XT (X:Cx) (EX:St->XK):Value->Shared->Prop:=fun e s'=>∃ (x:Addr) (cl:Value) (dd:Option Addr) (σ:St) (H:Hp) (B:Heap),e = .ref x/\Inv X [] σ H s'/\H x = none/\X.s₀.heap.objs.size <= x/\Cov X B H s'.heap/\EX σ cl dd H/\Md B X.stack X.env.locals x cl dd s'.heap
def Cx.tr (X:Cx) (pins:List (Addr × Obj)) (EX:St->XK):Cx:={ X with pn:=X.pn ++ pins,xe:=XT { X with pn:=X.pn ++ pins } EX }
theorem Cx.Ok.pn {X:Cx} (ok:X.Ok) (pn:List (Addr × Obj)) (E:Value->Shared->Prop):({ X with pn:=pn,xe:=E }:Cx).Ok :=
 ⟨ok.mod,ok.kind,ok.glob,ok.blt,ok.above,ok.inj,ok.has,ok.cab,ok.hd,ok.frames,ok.stk,ok.exf,ok.bs,ok.bsz,ok.noex,ok.exfs,ok.funs,ok.frf⟩
theorem Inv.tr {X:Cx} {pins:List (Addr × Obj)} {σ:St} {H:Hp} {s:Shared} (I:Inv X pins σ H s) (EX:St->XK):Inv (X.tr pins EX) [] σ H s :=
 ⟨I.ok.pn _ _,I.os,I.bare,I.base,I.loc,I.cell,I.free,I.freeC,fun p hp=>I.pin p (by
  have:p ∈ (X.pn ++ pins) ++ []:=hp
  simpa using this),I.hok,I.len⟩
theorem Df.tr {X:Cx} (d:Df X) (pins:List (Addr × Obj)) (EX:St->XK):Df (X.tr pins EX):=⟨d.stk,d.fr,d.ex,d.fn⟩
section
variable {X:Cx} {CX:CXT} {k:Nat} {f:Addr} {fd:FuncData} {ps:List Str} {sp:Sp} {EX:St->XK} {x:Str} {p pos:Pos} {e:Expr} {es:List Expr} {t:TA} {ds:List Value} {dvs:List V}
end
section
variable {P:Program} {w:World} {K:PySem.W.Frag} {mg:Str->Option Value} {base:Heap}
end
section
variable {prog:Program} {w:World} {A:Around} {E:Value->Shared->Prop} {h:Heap} {g:Array GenState} {d:Drawn} {t:Nat} {os:OsState}
variable {nm q:Str} {C N:Addr} {bs bm bmB:List Value} {hdct:Bool} {sn:List Str} {sub:List Value} {ab:Bool} {col:Option Bool} {dd:Option Addr} {k0 k1 k2 k3 k5:Option Value} {B newId initId:String}
end
end L2
namespace L2
open PySem PySem.Spec PyProof.Rows Builtin Builtin.ObjectAttr
section
variable {prog:Program} {w:World} {A:Around} {E:Value->Shared->Prop} {h:Heap} {g:Array GenState} {d:Drawn} {t:Nat} {os:OsState} {C:Addr} {bmB:List Value} {B newId initId:String}
end
def jt8:Value->Bool
 | .ref _=>true
 | _=>false
theorem jt8.ex {v:Value} (h:jt8 v = true):∃ a,v = .ref a:=by
 cases v <;> first | exact ⟨_,rfl⟩ | cases h
section
variable {prog:Program} {w:World} {A:Around} {E:Value->Shared->Prop} {s:Shared} {K:PySem.W.Frag} {x C t0:Addr} {dz:Option Addr} {name:Str} {v:Value} {Q:Unit->Shared->Prop}
end
section
variable {P:Program} {w:World} {H:Hp} {h:Heap} {a C:Addr} {dd:Option Addr} {fs:List (Str × V)}
end
section
variable {X:Cx} {pins:List (Addr × Obj)} {σ:St} {H:Hp} {s:Shared} {h':Heap} {x dx:Addr} {φ:Heap->Prop} {o1 o2:HO} {t':Nat}
end
section
variable {X:Cx} {o value e:Expr} {es:List Expr} {f x:Str} {p pos pos' apos:Pos} {ta tv:TE} {t:TA} {C T:Addr} {bmB:List Value} {B newId initId:String} {fI:Addr}
end
section
variable {X:Cx} {EX:St->XK} {k:Nat} {fI C:Addr} {fd:FuncData} {ps:List Str} {sp:Sp} {x:Str} {p cpos pos:Pos} {e:Expr} {es:List Expr} {t:TA} {bmB:List Value} {B newId initId:String}
end
section
variable {X:Cx} {pins:List (Addr × Obj)} {σ:St} {H:Hp} {s:Shared} {x:Addr} {o:HO}
end
section
variable {X:Cx} {x n:Str} {np hpos pos:Pos} {body suite:List Stmt} {b0:Stmt} {C:Addr} {mt:Value->Prop} {i:Nat} {tb:(St->XK)->TS} {th:TS}
end
section
variable {X:Cx} {C dx a:Addr} {fs:List (Str × V)} {H:Hp} {s:Shared}
end
end L2
namespace L2
open PySem PySem.Spec PyProof.Rows Builtin Builtin.ObjectAttr
structure XG (K:PySem.W.Frag) (C:Addr):Prop where
 ga:PySem.W.findIn K (.ref C) "__getattribute__" = some (some (.builtin "BaseException.__getattribute__"))
 gt:PySem.W.findIn K (.ref C) "__getattr__" = some none
 sub:PySem.W.mroIn K C (.type "BaseException") = some true
section
variable {prog:Program} {w:World} {A:Around} {E:Value->Shared->Prop} {s:Shared} {K:PySem.W.Frag} {x C:Addr} {ox:Obj} {od:Option Obj} {name:Str} {v:Value}
end
structure XY (K:PySem.W.Frag) (C:Addr):Prop where
 g:XG K C
 hd:PySem.W.hasDictIn K C = true
 ha:PySem.W.findIn K (.ref C) "__class__" = some (some (.builtin "object.__class__"))
 hn:PySem.W.specialIn K (.builtin "object.__class__") "__get__" = some (some (.builtin "getset_descriptor.__get__"))
 ht:PySem.W.takesIn K (.builtin "object.__class__") = some true
 hm:PySem.W.mroIn K C (.type "object") = some true
theorem XY.cls {K:PySem.W.Frag} {C:Addr} (y:XY K C):∃ c d cd sl,K.lookup C = some ⟨c,d,.cls cd,sl⟩:=by
 obtain ⟨cd,hc,_⟩:=PySem.W.any_some y.hd
 unfold PySem.W.clsIn at hc
 split at hc
 ·rename_i ho
  exact ⟨_,_,_,_,ho⟩
 ·cases hc
section
variable {X:Cx} {C dx a:Addr} {fs:List (Str × V)} {H:Hp} {s:Shared}
end
section
variable {X:Cx}
end
structure RoomH (k:Nat) (A:Around):Prop where
 dp:A.depth + 3 * k + 5 < recursionLimit
 un:A.units + 16 * k + 200 < cLine
theorem Room.h {j k:Nat} {A:Around} (r:Room k A) (h:j <= k):RoomH j A:=⟨(r.mono h).dp,(r.mono h).un⟩
theorem Room.hm {j k:Nat} {A:Around} {o:Option Value} (r:Room k A) (h:j <= k):RoomH j (A.mark o):=⟨(r.mono h).dp,(r.mono h).un⟩
theorem RoomH.mono {j k:Nat} {A:Around} (r:RoomH k A) (h:j <= k):RoomH j A:=⟨by have:=r.dp; omega,by have:=r.un; omega⟩
section
variable {P:Program} {w:World} {K:PySem.W.Frag} {mg:Str->Option Value} {base:Heap}
end
section
variable {X:Cx} {k:Nat} {f:Addr} {fd:FuncData} {ps:List Str} {sp:Sp} {x:Str} {p pos:Pos} {e:Expr} {es:List Expr} {t:TA}
end
section
variable {X:Cx} {C:Addr}
end
section
variable {X:Cx} {x n:Str} {np hpos pos:Pos} {body suite:List Stmt} {b0:Stmt} {C:Addr} {mt:Value->Prop} {tb:(St->XK)->TS} {th:TS}
end
section
variable {prog:Program} {w:World} {A:Around} {E:Value->Shared->Prop} {s:Shared} {C a:Addr} {bmB:List Value} {newId:String}
end
section
variable {prog:Program} {w:World} {A:Around} {E:Value->Shared->Prop} {h:Heap} {g:Array GenState} {d:Drawn} {t:Nat} {os:OsState}
variable {C:Addr} {bmB:List Value} {B newId initId:String}
end
section
variable {X:Cx} {x y:Str} {np hpos pos p cpos rpos cp:Pos} {kk:Nat} {body:List Stmt} {C D':Addr} {mt:Value->Prop} {tb:(St->XK)->TS} {EX:St->XK} {e:Expr} {es:List Expr} {t:TA} {bmB:List Value} {B newId initId:String}
end
open PySem.Builtin.ObjectAttr
section
variable {X:Cx} {C a:Addr} {H:Hp} {s:Shared}
end
def CDivB (i j:Int):Prop:=0 < j/\j < 1000000000000000000
section
variable {X:Cx}
theorem jty:OpR X (binaryOp .FloorDiv) (fIC CDivB fun i j=>.int (i / j)):=by
 intro pins s σ H x y v u Q I rx ry h
 unfold fIC at h
 split at h
 ·rename_i i j
  obtain ⟨⟨h1,h2⟩,q⟩:=h
  obtain ⟨t,rfl⟩:=rx
  obtain ⟨t',rfl⟩:=ry
  refine floordiv_int (by omega) ?_ (.inl (PyProof.noPylong_of_log2 ?_))
  ·rw [Int.fdiv_eq_ediv_of_nonneg i (by omega)]
   exact ⟨.int (i / j),H,I.tok _,⟨_,rfl⟩,q⟩
  ·by_cases h0:j.natAbs = 0
   ·rw [h0]; decide
   ·exact Nat.lt_of_lt_of_le ((Nat.log2_lt h0).mpr (show j.natAbs < 2 ^ 60 by omega)) (by decide)
 ·exact h.elim
end
theorem jbc {a b:TS} {D:Ends} {σ:St} {H:Hp} (h:∀ R,R = b->tSeq a R D σ H):tSeq a b D σ H:=h b rfl
section
variable {X:Cx}
end
end L2
namespace So
open PySem PyProof.Rows
def Fore (lo:Nat) (xs ys:Array Keyed):Prop:=∀ i,i < lo->ys[i]? = xs[i]?
theorem Fore.tr {lo:Nat} {xs ys zs:Array Keyed} (a:Fore lo xs ys) (b:Fore lo ys zs):Fore lo xs zs:=fun i h=>(b i h).trans (a i h)
structure Bs (κ:SortKind) (a₀:Array Keyed) (pd:Array (Nat × Nat × Nat)) (st:SortSt):Prop where
 perm:(arrOf st).Perm a₀
 kind:kindOf st = κ
 ok:failedOf st = none
 pend:pendingOf st = pd
section
variable {prog:Program} {w:World} {A:Around} {E:Value->Shared->Prop} {s:Shared} {R:Keyed->Int} {κ:SortKind} {a₀:Array Keyed} {pd:Array (Nat × Nat × Nat)}
theorem Bs.size {st:SortSt} (b:Bs κ a₀ pd st):(arrOf st).size = a₀.size:=b.perm.size_eq
end
end So
namespace So
open PySem PyProof.Rows
section
variable {prog:Program} {w:World} {A:Around} {E:Value->Shared->Prop} {s:Shared} {R:Keyed->Int} {κ:SortKind} {a₀:Array Keyed} {pd:Array (Nat × Nat × Nat)}
end
end So
namespace So
open PySem PyProof.Rows
def Le (R:Keyed->Int):Keyed->Keyed->Prop:=fun x y=>R x <= R y
def MS (R:Keyed->Int) (o la lb tot:List Keyed):Prop:=(o ++ la).Pairwise (Le R)/\(o ++ lb).Pairwise (Le R)/\(o ++ (la ++ lb)).Perm tot
def Fi (R:Keyed->Int) (l tot:List Keyed):Prop:=l.Pairwise (Le R)/\l.Perm tot
section
variable {R:Keyed->Int} {o la lb tot xs:List Keyed}
theorem MS.a (h:MS R o (xs ++ la) lb tot) (hx:∀ x ∈ xs,∀ y ∈ lb,R x <= R y):MS R (o ++ xs) la lb tot:=by
 obtain ⟨h1,h2,h3⟩:=h
 refine ⟨by rw [List.append_assoc]; exact h1,?_,by rw [List.append_assoc,<- List.append_assoc xs]; exact h3⟩
 rw [List.append_assoc,List.pairwise_append]
 rw [List.pairwise_append] at h1 h2
 obtain ⟨o1,o2,o3⟩:=h1
 obtain ⟨p1,p2,p3⟩:=h2
 rw [List.pairwise_append] at o2
 refine ⟨o1,List.pairwise_append.mpr ⟨o2.1,p2,hx⟩,fun x m y n=>?_⟩
 rcases List.mem_append.mp n with n | n
 ·exact o3 x m y (List.mem_append_left _ n)
 ·exact p3 x m y n
theorem MS.b (h:MS R o la (xs ++ lb) tot) (hx:∀ x ∈ xs,∀ y ∈ la,R x <= R y):MS R (o ++ xs) la lb tot:=by
 have z:MS R o (xs ++ lb) la tot:=⟨h.2.1,h.1,(List.Perm.append_left _ List.perm_append_comm).trans h.2.2⟩
 have q:=z.a hx
 exact ⟨q.2.1,q.1,(List.Perm.append_left _ List.perm_append_comm).trans q.2.2⟩
end
section
variable {a:Array Keyed} {R:Keyed->Int} {i k:Nat}
end
section
variable {M:Model} {A:Around} {E:Value->Shared->Prop} {s:Shared} {σ α:Type}
end
section
variable {R:Keyed->Int} {a b out:Array Keyed} {ia ib k:Nat} {tot:List Keyed}
end
section
variable {prog:Program} {w:World} {A:Around} {E:Value->Shared->Prop} {s:Shared} {R:Keyed->Int} {κ:SortKind} {a₀:Array Keyed} {pd:Array (Nat × Nat × Nat)}
end
end So
namespace So
open PySem PyProof.Rows
def MH (R:Keyed->Int) (la lb o tot:List Keyed):Prop:=(la ++ o).Pairwise (Le R)/\(lb ++ o).Pairwise (Le R)/\(la ++ (lb ++ o)).Perm tot
section
variable {R:Keyed->Int} {o la lb tot xs:List Keyed}
theorem MH.a (h:MH R (la ++ xs) lb o tot) (hx:∀ x ∈ xs,∀ y ∈ lb,R y <= R x):MH R la lb (xs ++ o) tot:=by
 obtain ⟨h1,h2,h3⟩:=h
 refine ⟨by rw [<- List.append_assoc]; exact h1,?_,?_⟩
 ·rw [List.append_assoc,List.pairwise_append] at h1
  rw [List.pairwise_append] at h2 ⊢
  refine ⟨h2.1,h1.2.1,fun y hy x hx2=>?_⟩
  rcases List.mem_append.mp hx2 with n | n
  ·exact hx x n y hy
  ·exact h2.2.2 y hy x n
 ·refine List.Perm.trans ?_ h3
  rw [List.append_assoc]
  refine List.Perm.append_left _ ?_
  rw [<- List.append_assoc,<- List.append_assoc]
  exact List.Perm.append_right _ List.perm_append_comm
theorem MH.swap (h:MH R la lb o tot):MH R lb la o tot:=by
 refine ⟨h.2.1,h.1,List.Perm.trans ?_ h.2.2⟩
 rw [<- List.append_assoc,<- List.append_assoc]
 exact List.Perm.append_right _ List.perm_append_comm
theorem MH.b (h:MH R la (lb ++ xs) o tot) (hx:∀ x ∈ xs,∀ y ∈ la,R y <= R x):MH R la lb (xs ++ o) tot:=(h.swap.a hx).swap
theorem MH.first (h:MH R la lb o tot) (hx:∀ y ∈ lb,∀ x ∈ la,R y <= R x):Fi R (lb ++ la ++ o) tot:=by
 obtain ⟨h1,h2,h3⟩:=h.swap
 refine ⟨?_,by rw [List.append_assoc]; exact h3⟩
 rw [List.append_assoc]
 rw [List.pairwise_append] at h1 h2 ⊢
 refine ⟨h1.1,List.pairwise_append.mpr h2,fun y hy x hx2=>?_⟩
 rcases List.mem_append.mp hx2 with n | n
 ·exact hx y hy x n
 ·exact h1.2.2 y hy x n
end
section
variable {a:Array Keyed} {R:Keyed->Int} {i k n:Nat}
end
section
variable {R:Keyed->Int} {a b out:Array Keyed} {na nb k:Nat} {tot:List Keyed}
end
section
variable {prog:Program} {w:World} {A:Around} {E:Value->Shared->Prop} {s:Shared} {R:Keyed->Int} {κ:SortKind} {a₀:Array Keyed} {pd:Array (Nat × Nat × Nat)}
end
end So
namespace So
open PySem PyProof.Rows
section
variable {prog:Program} {w:World} {A:Around} {E:Value->Shared->Prop} {s:Shared} {R:Keyed->Int} {κ:SortKind} {a₀:Array Keyed} {pd:Array (Nat × Nat × Nat)}
end
end So
namespace So
open PySem PyProof.Rows
def two (pd:Array (Nat × Nat × Nat)):List (Nat × Nat):=pd.toList.map fun t=>(t.1,t.2.1)
section
variable {R:Keyed->Int} {xs ys:Array Keyed}
end
section
variable {prog:Program} {w:World} {A:Around} {E:Value->Shared->Prop} {s:Shared} {R:Keyed->Int} {κ:SortKind} {a₀:Array Keyed} {pd:Array (Nat × Nat × Nat)}
end
end So
namespace So
open PySem PyProof.Rows
section
variable {prog:Program} {w:World} {A:Around} {E:Value->Shared->Prop} {s:Shared}
def PairAt (h:Heap) (v:Value) (x y:Int):Prop:=∃ a o t u n,v = .ref a/\h.get? a = some o/\o.cls = .type "tuple"/\o.data = .seq #[.int x t,.int y u] n
end
end So
namespace L2
open PySem PySem.Spec PyProof.Rows
def rSum:List V->Hp->VK->Prop:=fun vs H Q=>∃ (p:Addr) (ns:List Int),vs = [.ref p]/\H p = some (.lst (ns.map V.int))/\Q (.int ns.sum) H
theorem jtx {X:Cx} (hc:X.calm = true):jde X (.builtin "sum") rSum:=by
 intro pins s σ H xs us Q I r h
 obtain ⟨p,ns,rfl,e,q⟩:=h
 obtain ⟨u,rfl,rx⟩:=jif r
 cases rx
 obtain ⟨its,r',pl,_⟩:=I.list (SqL.of e)
 have hI:=jdp r'
 obtain ⟨zs,hz⟩:=hI.allInts.items
 have hn:=hI.numsOf
 have hl:=pl.isList
 rw [hz] at hl
 refine sum_intListG (I.ok.hd hc) hl fun h' tk t' hk=>?_
 have e2:preSum (numAt zs) zs.size = ns.sum:=by
  rw [preSum_eq,List.take_of_length_le (by simp),<- hn,<- nums_intItems,<- hz]
 rw [e2]
 exact ⟨.int ns.sum,H,I.kept hk,⟨t',rfl⟩,q⟩
def fIsB (f:Bool->Bool):R2:=fun x y H Q=>match x,y with
 | .bl a,.bl b=>Q (.bl (f (a == b))) H
 | _,_=>False
end L2
namespace So
open PySem PyProof.Rows
section
variable {prog:Program} {w:World} {A:Around} {E:Value->Shared->Prop} {s:Shared}
section
variable {prog:Program} {w:World} {A:Around} {E:Value->Shared->Prop} {s:Shared} {R:Keyed->Int} {κ:SortKind} {a₀:Array Keyed} {pd:Array (Nat × Nat × Nat)}
end
section
variable {prog:Program} {w:World} {A:Around} {E:Value->Shared->Prop} {s:Shared}
end
end
end So
namespace L2
open PySem PySem.Spec PyProof.Rows
end L2
namespace My
open PySem L2
theorem sl0:(0 <= sizeLine) = True:=eq_true (by decide)
theorem sl1:(1 <= sizeLine) = True:=eq_true (by decide)
theorem sl2:(2 <= sizeLine) = True:=eq_true (by decide)
theorem sl3:(3 <= sizeLine) = True:=eq_true (by decide)
theorem sl4:(4 <= sizeLine) = True:=eq_true (by decide)
end My
local macro_rules | `(tactic| walk_at "SC") => `(tactic| exact ⟨rfl,rfl,rfl,by decide +kernel,rfl,by decide +kernel,by decide +kernel⟩)
local macro_rules | `(tactic| walk_at "RD") => `(tactic| try simp only [L2.fIsB, L2.tSeq, L2.jao, L2.jal, L2.tRet, L2.jb0, L2.tIfS, L2.tAsg, L2.jan, L2.fAug, L2.tOp, L2.tUn, L2.tC, L2.fVar, L2.fI, L2.fIC, L2.fNeg, L2.fEq, L2.fNe, L2.fIsN, L2.jam, L2.fAnd, L2.fOr, L2.fNot, L2.fB, L2.tNot, L2.tAnd, L2.tOr, L2.ja9, L2.fIx, L2.fLen, L2.ja3, L2.fMin, L2.fMax, L2.fInL, L2.fSlL, L2.tSl, L2.jax, L2.ja4, L2.ja2, L2.fBM, L2.jaq, L2.gSub, L2.jat, L2.ja5, L2.jas, L2.jau, L2.jab, L2.ja8, L2.ja7, L2.fCat, L2.jad, L2.fBM0, L2.fSlT, L2.jar, L2.tCBK, L2.fDIn, L2.jaz, L2.fIsi, L2.jae, L2.ja6, L2.fLtT, L2.jaw, L2.tCB, L2.jak, L2.tNil, L2.tTup, L2.tLst, L2.tIf, L2.jav, L2.Kd.nm, L2.start, List.map_cons, List.map_nil, List.length_cons, List.length_nil, Nat.reduceAdd, Nat.reduceSub, List.replicate_succ, List.replicate_zero, List.getElem?_cons_zero, List.getElem?_cons_succ, List.set_cons_zero, List.set_cons_succ, List.append_nil, List.nil_append, List.cons_append, eq_self, true_and, and_true, if_true, Bool.false_eq_true, if_false, Bool.not_true, Bool.not_false, id_eq, My.sl0, My.sl1, My.sl2, My.sl3, My.sl4])
local macro_rules | `(tactic| simp_arith [$args,*]) => `(tactic| try simp only [L2.fIsB, L2.tSeq, L2.jao, L2.jal, L2.tRet, L2.jb0, L2.tIfS, L2.tAsg, L2.jan, L2.fAug, L2.tOp, L2.tUn, L2.tC, L2.fVar, L2.fI, L2.fIC, L2.fNeg, L2.fEq, L2.fNe, L2.fIsN, L2.jam, L2.fAnd, L2.fOr, L2.fNot, L2.fB, L2.tNot, L2.tAnd, L2.tOr, L2.ja9, L2.fIx, L2.fLen, L2.ja3, L2.fMin, L2.fMax, L2.fInL, L2.fSlL, L2.tSl, L2.jax, L2.ja4, L2.ja2, L2.fBM, L2.jaq, L2.gSub, L2.jat, L2.ja5, L2.jas, L2.jau, L2.jab, L2.ja8, L2.ja7, L2.fCat, L2.jad, L2.fBM0, L2.fSlT, L2.jar, L2.tCBK, L2.fDIn, L2.jaz, L2.fIsi, L2.jae, L2.ja6, L2.fLtT, L2.jaw, L2.tCB, L2.jak, L2.tNil, L2.tTup, L2.tLst, L2.tIf, L2.jav, L2.Kd.nm, L2.start, List.map_cons, List.map_nil, List.length_cons, List.length_nil, Nat.reduceAdd, Nat.reduceSub, List.replicate_succ, List.replicate_zero, List.getElem?_cons_zero, List.getElem?_cons_succ, List.set_cons_zero, List.set_cons_succ, List.append_nil, List.nil_append, List.cons_append, eq_self, true_and, and_true, if_true, Bool.false_eq_true, if_false, Bool.not_true, Bool.not_false, id_eq, My.sl0, My.sl1, My.sl2, My.sl3, My.sl4, $args,*])
namespace My
open PySem L2
theorem szl {n:Nat} (h:n <= 1000):n <= sizeLine:=Nat.le_trans h (by decide)
theorem szl' {n:Nat} (h:n <= 1000):n < sizeLine:=Nat.lt_of_le_of_lt h (by decide)
def top (i:Nat):Stmt:=PySem.Challenge.pw_touchall_k27_whole_halves_and_sets.main.body.getD i (.Pass ⟨0,0,0,0⟩)
structure DefAt (K:PySem.W.Frag) (mg:Str->Option Value) (x:Str) (st:Stmt) (ps:List Str) (f:Addr) (fd:FuncData):Prop where
 F:Fun K x x st f fd
 b:jfc K fd ps []
 m:mg x = some (.ref f)
structure Blt (mg:Str->Option Value):Prop where
 len:mg "len" = none
 isinstance:mg "isinstance" = none
 all:mg "all" = none
 min:mg "min" = none
 list:mg "list" = none
 dict:mg "dict" = none
 int:mg "int" = none
 bool:mg "bool" = none
 str:mg "str" = none
 tuple:mg "tuple" = none
 range:mg "range" = none
 enumerate:mg "enumerate" = none
 zip:mg "zip" = none
 max:mg "max" = none
 any:mg "any" = none
 sum:mg "sum" = none
 sorted:mg "sorted" = none
 set:mg "set" = none
structure Cst (mg:Str->Option Value) (t1 t2 t3 t4:Tok):Prop where
 MOST_PLACES:mg "MOST_PLACES" = some (.int 40 t1)
 MOST_TIES:mg "MOST_TIES" = some (.int 120 t2)
 LAST_PLACE:mg "LAST_PLACE" = some (.int 999 t3)
 MOST_PRICE:mg "MOST_PRICE" = some (.int 1000000000000 t4)
section
variable {P:Program} {w:World} {K:PySem.W.Frag} {mg:Str->Option Value} {base:Heap} {c1 c2 c3 c4:Tok}
theorem at0 {α:Type} {x:α} {r:List α}:atI (x :: r) 0 = some x:=by
 have e:atI (x :: r) ((0:Nat):Int) = some x:=jdd rfl
 exact e
theorem at1 {α:Type} {x y:α} {r:List α}:atI (x :: y :: r) 1 = some y:=by
 have e:atI (x :: y :: r) ((1:Nat):Int) = some y:=jdd rfl
 exact e
theorem at2 {α:Type} {x y z:α} {r:List α}:atI (x :: y :: z :: r) 2 = some z:=by
 have e:atI (x :: y :: z :: r) ((2:Nat):Int) = some z:=jdd rfl
 exact e
def jk1:Kd->Bool
 | .int=>true
 | _=>false
def jll:Sp:=fun vs H Q _=>∃ x k,vs = [x]/\kd H x = some k/\Q (.bl (jk1 k)) H
def jgk:Sp:=fun vs H Q _=>∃ a xs m,vs = [.ref a,.int m]/\H a = some (.tup xs)/\Q (.bl (decide ((xs.length:Int) = m))) H
def jfe:Sp:=fun vs H Q _=>∃ a xs m,vs = [.ref a,.int m]/\H a = some (.lst xs)/\Q (.bl (decide ((xs.length:Int) <= m))) H
def jow:Sp:=fun vs H Q _=>∃ x p,vs = [x]/\Pr H x p/\Q (.bl true) H
def jer:Sp:=fun vs H Q _=>∃ x p l s,vs = [x,.int l,.int s]/\Pr H x p/\(l < p.1/\p.1 <= 999/\1 <= p.2/\p.2 <= 1000000000000 - s)/\Q (.bl true) H
def hasK (kvs:List (Key × V)) (n:Int):Bool:=(valV kvs (Sum.inl n:Key)).isSome
def jgl:Sp:=fun vs H Q _=>∃ x p y q d kvs,vs = [x,y,.ref d]/\Pr H x p/\Pr H y q/\H d = some (.dK kvs)/\(HT.lexLt [q.1,q.2] [p.1,p.2] = true/\p.1 < p.2/\hasK kvs p.1 = true/\hasK kvs p.2 = true)/\Q (.bl true) H
theorem jly (B:Blt mg) (D:DefAt K mg "is_whole" (top 7) ["thing"] f fd):FnOk P w K mg base CX0 1 f fd ["thing"] jll:=by
 have sc:FnScope ["thing"] ["thing"] (jbe (top 7)):=by walk_at "SC"
 refine D.F.ok sc (fun vs H Q E h=>?_) (fun cdv A outer s H vs Q E hr h=>?_)
 ·obtain ⟨x,k,rfl,_⟩:=h
  rfl
 obtain ⟨x,k,rfl,ek,h⟩:=h
 have hu:=jcc hr
 have hu0:_ < PySem.cLine:=Nat.lt_of_succ_lt hu
 refine ⟨_,(jb8 (jbu (jeu (jbp (jpe .int) rfl B.isinstance PyProof.Rows.boot_isinstance (ja0 (qv 0) (ja0 (jgp (v:=.ty "int") rfl B.int PyProof.Rows.boot_int rfl) jah))) (jex (q_not (jbp (jpe .bl) rfl B.isinstance PyProof.Rows.boot_isinstance (ja0 (qv 0) (ja0 (jgp (v:=.ty "bool") rfl B.bool PyProof.Rows.boot_bool rfl) jah)))))))),?_⟩
 simp_arith [ek]
 cases k <;> simpa only [isi,jk1,if_true,if_false,Bool.false_eq_true,Bool.not_true,Bool.not_false] using h
theorem jhn (B:Blt mg) (D:DefAt K mg "is_tuple_of" (top 8) ["thing","many"] f fd):FnOk P w K mg base CX0 1 f fd ["thing","many"] jgk:=by
 have sc:FnScope ["thing","many"] ["thing","many"] (jbe (top 8)):=by walk_at "SC"
 refine D.F.ok sc (fun vs H Q E h=>?_) (fun cdv A outer s H vs Q E hr h=>?_)
 ·obtain ⟨a,xs,m,rfl,_⟩:=h
  rfl
 obtain ⟨a,xs,m,rfl,ea,h⟩:=h
 have hu:=jcc hr
 have hu0:_ < PySem.cLine:=Nat.lt_of_succ_lt hu
 refine ⟨_,(jb8 (jbu (jeu (jbp (jpe .tup) rfl B.isinstance PyProof.Rows.boot_isinstance (ja0 (qv 0) (ja0 (jgp (v:=.ty "tuple") rfl B.tuple PyProof.Rows.boot_tuple rfl) jah))) (jex (jd5 q_eq (jbp jfw rfl B.len PySem.boot_len (ja0 (qv 0) jah)) (qv 1) (jby _)))))),?_⟩
 simp_arith [kd,ea,jbm,isi]
 exact h
theorem jfx (B:Blt mg) (D:DefAt K mg "is_list_up_to" (top 10) ["thing","most"] f fd):FnOk P w K mg base CX0 1 f fd ["thing","most"] jfe:=by
 have sc:FnScope ["thing","most"] ["thing","most"] (jbe (top 10)):=by walk_at "SC"
 refine D.F.ok sc (fun vs H Q E h=>?_) (fun cdv A outer s H vs Q E hr h=>?_)
 ·obtain ⟨a,xs,m,rfl,_⟩:=h
  rfl
 obtain ⟨a,xs,m,rfl,ea,h⟩:=h
 have hu:=jcc hr
 have hu0:_ < PySem.cLine:=Nat.lt_of_succ_lt hu
 refine ⟨_,(jb8 (jbu (jeu (jbp (jpe .lst) rfl B.isinstance PyProof.Rows.boot_isinstance (ja0 (qv 0) (ja0 (jgp (v:=.ty "list") rfl B.list PyProof.Rows.boot_list rfl) jah))) (jex (jd5 q_le (jbp jfw rfl B.len PySem.boot_len (ja0 (qv 0) jah)) (qv 1) (jby _)))))),?_⟩
 simp_arith [kd,ea,jbm,isi]
 exact h
theorem jef (B:Blt mg) (D:DefAt K mg "is_pair_of_wholes" (top 9) ["thing"] f fd) (Dqb:DefAt K mg "is_tuple_of" (top 8) ["thing","many"] fqb dqb) (Gqb:FnOk P w K mg base CX0 1 fqb dqb ["thing","many"] jgk) (Dqd:DefAt K mg "is_whole" (top 7) ["thing"] fqd dqd) (Gqd:FnOk P w K mg base CX0 1 fqd dqd ["thing"] jll):FnOk P w K mg base CX0 2 f fd ["thing"] jow:=by
 have sc:FnScope ["thing"] ["thing"] (jbe (top 9)):=by walk_at "SC"
 refine D.F.ok sc (fun vs H Q E h=>?_) (fun cdv A outer s H vs Q E hr h=>?_)
 ·obtain ⟨x,p,rfl,_⟩:=h
  rfl
 obtain ⟨x,p,rfl,⟨a,rfl,ea⟩,h⟩:=h
 have hu:=jcc hr
 have hu0:_ < PySem.cLine:=Nat.lt_of_succ_lt hu
 refine ⟨_,(jb8 (jbu (jeu (jbf Gqb (hr.mono (by decide)) rfl Dqb.m Dqb.F.kp Dqb.b .nil jbq (ja0 (qv 0) (ja0 jai jah))) (jeu (jbf Gqd (hr.mono (by decide)) rfl Dqd.m Dqd.F.kp Dqd.b .nil jbq (ja0 (jbj q_ix (qv 0) jai (fun _ _=>rfl)) jah)) (jex (jbf Gqd (hr.mono (by decide)) rfl Dqd.m Dqd.F.kp Dqd.b .nil jbq (ja0 (jbj q_ix (qv 0) jai (fun _ _=>rfl)) jah))))))),?_⟩
 simp_arith [jbm,ea,at0,at1]
 refine ⟨a,_,2,rfl,ea,?_⟩
 simp_arith [jbm,ea,at0,at1,Int.cast_ofNat_Int,decide_true]
 refine ⟨_,.int,rfl,rfl,?_⟩
 simp_arith [jk1,jbm,ea,at0,at1]
 exact ⟨_,.int,rfl,rfl,h⟩
theorem jgu (B:Blt mg) (C:Cst mg c1 c2 c3 c4) (D:DefAt K mg "place_stands" (top 20) ["thing","last","spent"] f fd) (Dqe:DefAt K mg "is_pair_of_wholes" (top 9) ["thing"] fqe dqe) (Gqe:FnOk P w K mg base CX0 2 fqe dqe ["thing"] jow):FnOk P w K mg base CX0 3 f fd ["thing","last","spent"] jer:=by
 have sc:FnScope ["thing","last","spent"] ["thing","last","spent"] (jbe (top 20)):=by walk_at "SC"
 refine D.F.ok sc (fun vs H Q E h=>?_) (fun cdv A outer s H vs Q E hr h=>?_)
 ·obtain ⟨x,p,l,s,rfl,_⟩:=h
  rfl
 obtain ⟨x,p,l,sp,rfl,hp,⟨b1,b2,b3,b4⟩,h⟩:=h
 obtain ⟨a,rfl,ea⟩:=id hp
 have hu:=jcc hr
 have hu0:_ < PySem.cLine:=Nat.lt_of_succ_lt hu
 refine ⟨_,(jaf (jdf (jeh (jdz (jbf Gqe (hr.mono (by decide)) rfl Dqe.m Dqe.F.kp Dqe.b .nil jbq (ja0 (qv 0) jah)))) (jb8 (jbu jj4)) jc5) (jb8 (jbu (jeu (jpg q_lt q_le (qv 1) (jbj q_ix (qv 0) jai (fun _ _=>rfl)) (jcx (v:=.int 999) rfl C.LAST_PLACE ⟨_,rfl⟩)) (jex (jpg q_le q_le jai (jbj q_ix (qv 0) jai (fun _ _=>rfl)) (jbo q_sub (jcx (v:=.int 1000000000000) rfl C.MOST_PRICE ⟨_,rfl⟩) (qv 2)))))))),?_⟩
 walk_at "RD"
 refine ⟨_,p,rfl,hp,?_⟩
 simp_arith [jbm,ea,at0,at1,decide_eq_true b1,decide_eq_true b2,decide_eq_true b3,decide_eq_true b4]
 exact h
theorem jj6 (B:Blt mg) (D:DefAt K mg "tie_stands" (top 21) ["thing","last","prices"] f fd) (Dqe:DefAt K mg "is_pair_of_wholes" (top 9) ["thing"] fqe dqe) (Gqe:FnOk P w K mg base CX0 2 fqe dqe ["thing"] jow):FnOk P w K mg base CX0 3 f fd ["thing","last","prices"] jgl:=by
 have sc:FnScope ["thing","last","prices"] ["thing","last","prices"] (jbe (top 21)):=by walk_at "SC"
 refine D.F.ok sc (fun vs H Q E h=>?_) (fun cdv A outer s H vs Q E hr h=>?_)
 ·obtain ⟨x,p,y,q,d,kvs,rfl,_⟩:=h
  rfl
 obtain ⟨x,p,y,q,d,kvs,rfl,hp,hq,hd,⟨b1,b2,b3,b4⟩,h⟩:=h
 obtain ⟨a,rfl,ea⟩:=id hp
 obtain ⟨b,rfl,eb⟩:=id hq
 unfold hasK at b3 b4
 have hu:=jcc hr
 have hu0:_ < PySem.cLine:=Nat.lt_of_succ_lt hu
 refine ⟨_,(jaf (jdf (jeh (jdz (jbf Gqe (hr.mono (by decide)) rfl Dqe.m Dqe.F.kp Dqe.b .nil jbq (ja0 (qv 0) jah)))) (jb8 (jbu jj4)) jc5) (jb8 (jbu (jeu (jd5 (q_ltT hu0) (qv 1) (qv 0) (jby _)) (jeu (jd5 q_lt (jbj q_ix (qv 0) jai (fun _ _=>rfl)) (jbj q_ix (qv 0) jai (fun _ _=>rfl)) (jby _)) (jeu (jt0 (jre hu (jbj q_ix (qv 0) jai (fun _ _=>rfl)) (qv 2))) (jex (jt0 (jre hu (jbj q_ix (qv 0) jai (fun _ _=>rfl)) (qv 2)))))))))),?_⟩
 walk_at "RD"
 refine ⟨_,p,rfl,hp,?_⟩
 simp_arith [jbm,ea,eb,hd,at0,at1,b1,decide_eq_true b2,b3,b4]
 exact h
def PlOk:Int->Int->List (Int × Int)->Prop
 | _,_,[]=>True
 | l,s,p :: r=>(l < p.1/\p.1 <= 999/\1 <= p.2/\p.2 <= 1000000000000 - s)/\PlOk p.1 (s + p.2) r
def jco (ps:List (Int × Int)):List (Key × V):=ps.map fun p=>(Sum.inl p.1,V.int p.2)
def TiOk (kvs:List (Key × V)):Int × Int->List (Int × Int)->Prop
 | _,[]=>True
 | q,p :: r=>(HT.lexLt [q.1,q.2] [p.1,p.2] = true/\p.1 < p.2/\hasK kvs p.1 = true/\hasK kvs p.2 = true)/\TiOk kvs p r
structure WebOk (ps ts:List (Int × Int)):Prop where
 pl:ps.length <= 40
 p:PlOk (-1) 0 ps
 tl:ts.length <= 120
 t:TiOk (jco ps) (-1,-1) ts
def jd3 (H:Hp) (v:V) (ps ts:List (Int × Int)):Prop :=
 ∃ u pa ta xs ys,v = .ref u/\H u = some (.tup [.ref pa,.ref ta])/\H pa = some (.lst xs)/\H ta = some (.lst ys)/\Prs H xs ps/\Prs H ys ts
theorem jd3.same {H H':Hp} {v:V} {ps ts:List (Int × Int)} (h:jd3 H v ps ts) (s:Same H H'):jd3 H' v ps ts:=by
 obtain ⟨u,pa,ta,xs,ys,e,h1,h2,h3,h4,h5⟩:=h
 exact ⟨u,pa,ta,xs,ys,e,s _ _ h1,s _ _ h2,s _ _ h3,Prs.same s h4,Prs.same s h5⟩
theorem PlOk.gt:∀ {ps:List (Int × Int)} {l s:Int},PlOk l s ps->∀ p ∈ ps,l < p.1
 | [],_,_,_,_,h=>by cases h
 | q :: r,l,s,h,p,hp=>by
  rcases List.mem_cons.mp hp with e | hp
  ·rw [e]; exact h.1.1
  ·have:=PlOk.gt h.2 p hp
   have:=h.1.1
   omega
theorem PlOk.nodup:∀ {ps:List (Int × Int)} {l s:Int},PlOk l s ps->(ps.map (·.1)).Nodup
 | [],_,_,_=>List.nodup_nil
 | q :: r,l,s,h=>by
  rw [List.map_cons]
  refine List.nodup_cons.mpr ⟨fun hm=>?_,PlOk.nodup h.2⟩
  obtain ⟨p,hp,e⟩:=List.mem_map.mp hm
  have:=PlOk.gt h.2 p hp
  omega
theorem jfk {ps:List (Int × Int)} (h:(ps.map (·.1)).Nodup):((jco ps).map (·.1)).Nodup:=by
 unfold jco
 rw [List.map_map]
 have e:((fun (x:Key × V)=>x.1) ∘ fun (p:Int × Int)=>((Sum.inl p.1:Key),V.int p.2)) = (fun (n:Int)=>(Sum.inl n:Key)) ∘ fun (p:Int × Int)=>p.1:=rfl
 rw [e,<- List.map_map]
 unfold List.Nodup at h ⊢
 rw [List.pairwise_map]
 exact h.imp fun q z=>q (Sum.inl.inj z)
theorem jg6 {H:Hp}:∀ {xs:List V} {ps:List (Int × Int)},Prs H xs ps->Paired (PairAt H) xs (jco ps)
 | _,_,.nil=>.nil
 | _,_,.cons r t=>by
  obtain ⟨a,e,q⟩:=r
  exact .cons ⟨a,e,q⟩ (jg6 t)
theorem jei:∀ {ps:List (Int × Int)} {p:Int × Int},(ps.map (·.1)).Nodup->p ∈ ps->valV (jco ps) (Sum.inl p.1:Key) = some (.int p.2)
 | [],_,_,h=>by cases h
 | q :: r,p,hn,h=>by
  rw [List.map_cons] at hn
  unfold jco valV
  rw [List.map_cons,List.find?_cons]
  rcases List.mem_cons.mp h with e | h
  ·rw [e]
   simp
  ·have hne:q.1 ≠ p.1:=fun z=>(List.nodup_cons.mp hn).1 (by rw [z]; exact List.mem_map_of_mem h)
   have hd:decide ((Sum.inl q.1:Key) = Sum.inl p.1) = false:=decide_eq_false fun z=>hne (Sum.inl.inj z)
   dsimp only
   rw [hd]
   exact jei (List.nodup_cons.mp hn).2 h
theorem jfl {ps:List (Int × Int)} {p:Int × Int} (hn:(ps.map (·.1)).Nodup) (h:p ∈ ps):hasK (jco ps) p.1 = true:=by
 unfold hasK
 rw [jei hn h]
 rfl
def jfq:Sp:=fun vs H Q _=>∃ a xs ps,vs = [.ref a]/\H a = some (.lst xs)/\Prs H xs ps/\ps.length <= 40/\PlOk (-1) 0 ps/\∀ H',Same H H'->Q .non H'
def jhv:Sp:=fun vs H Q _=>∃ a d xs ts kvs,vs = [.ref a,.ref d]/\H a = some (.lst xs)/\H d = some (.dK kvs)/\Prs H xs ts/\ts.length <= 120/\TiOk kvs (-1,-1) ts/\∀ H',Same H H'->Q .non H'
def jkd:Sp:=fun vs H Q _=>∃ v ps ts,vs = [v]/\jd3 H v ps ts/\WebOk ps ts/\∀ H',Same H H'->Q .non H'
theorem jfh (B:Blt mg) (C:Cst mg c1 c2 c3 c4) (D:DefAt K mg "look_at_places" (top 22) ["places"] f fd) (Dqg:DefAt K mg "is_list_up_to" (top 10) ["thing","most"] fqg dqg) (Gqg:FnOk P w K mg base CX0 1 fqg dqg ["thing","most"] jfe) (Dq3:DefAt K mg "place_stands" (top 20) ["thing","last","spent"] fq3 dq3) (Gq3:FnOk P w K mg base CX0 3 fq3 dq3 ["thing","last","spent"] jer):FnOk P w K mg base CX0 4 f fd ["places"] jfq:=by
 have sc:FnScope ["places","last","spent","number","thing"] ["places"] (jbe (top 22)):=by walk_at "SC"
 refine D.F.ok sc (fun vs H Q E h=>?_) (fun cdv A outer s H vs Q E hr h=>?_)
 ·obtain ⟨a,xs,ps,rfl,_⟩:=h
  rfl
 obtain ⟨a,xs,ps,rfl,ea,hp,hl,ok,h⟩:=h
 have hlx:xs.length = ps.length:=Paired.length hp
 have hu:=jcc hr
 have hu0:_ < PySem.cLine:=Nat.lt_of_succ_lt hu
 refine ⟨_,(jaf (jdf (jeh (jdz (jbf Gqg (hr.mono (by decide)) rfl Dqg.m Dqg.F.kp Dqg.b .nil jbq (ja0 (qv 0) (ja0 (jcx (v:=.int 40) rfl C.MOST_PLACES ⟨_,rfl⟩) jah))))) (jb8 jew) jc5) (jaf (jbg (i:=1) sc.nd rfl (Or.inl rfl) (jpl jpd jai)) (jaf (jbg (i:=2) sc.nd rfl (Or.inl rfl) jai) (jb8 (jcw PassesOwn.never rfl (jj3 rfl B.enumerate (ja0 (qv 0) jah)) (jci (n:=2) rfl (jbb (jb9 (i:=3) sc.nd rfl (Or.inl rfl)) (jbb (jb9 (i:=4) sc.nd rfl (Or.inl rfl)) jbw))) (jaf (jdf (jeh (jdz (jbf Gq3 (hr.mono (by decide)) rfl Dq3.m Dq3.F.kp Dq3.b .nil jbq (ja0 (qv 4) (ja0 (qv 1) (ja0 (qv 2) jah)))))) (jb8 jew) jc5) (jaf (jbg (i:=1) sc.nd rfl (Or.inl rfl) (jbj q_ix (qv 4) jai (fun _ _=>rfl))) (jb8 (jn1 (i:=2) sc.nd rfl (Or.inl rfl) (jbj q_ix (qv 4) jai (fun _ _=>rfl)) jpf))))))))),?_⟩
 walk_at "RD"
 refine ⟨a,xs,40,rfl,ea,?_⟩
 rw [decide_eq_true (show (xs.length:Int) <= 40 by omega)]
 walk_at "RD"
 refine ⟨a,rfl,⟨xs,SqL.of ea⟩,jjj (K:=K) (a:=a) (xs:=xs) (fun i σ H1=>∃ l sp nb th,σ = [some (.ref a),some (.int l),some (.int sp),nb,th]/\Same H H1/\PlOk l sp (ps.drop i)) ⟨-1,0,none,none,rfl,Same.refl _,ok⟩ (fun i σ H1 _ ⟨_,_,_,_,_,s1,_⟩=>SqL.of (s1 _ _ ea)) ?_ ?_⟩
 ·rintro i x σ H1 t hi ⟨l,sp,nb,th,rfl,s1,ok1⟩ ht
  obtain ⟨p,hpi,px⟩:=jbd hp hi
  rw [jnl hpi] at ok1
  have s2:Same H (upd H1 t (.tup [.int i,x])):=s1.trans (jag ht _)
  have px2:=px.same s2
  obtain ⟨u,rfl,eu⟩:=id px2
  simp_arith [ja1]
  refine ⟨_,p,l,sp,rfl,px2,ok1.1,?_⟩
  simp_arith [jbm,eu,at0,at1]
  exact ⟨_,_,_,_,rfl,s2,ok1.2⟩
 ·rintro σ H1 ⟨l,sp,nb,th,rfl,s1,_⟩
  exact h H1 s1
theorem jgv (B:Blt mg) (C:Cst mg c1 c2 c3 c4) (D:DefAt K mg "look_at_ties" (top 23) ["ties","prices"] f fd) (Dqg:DefAt K mg "is_list_up_to" (top 10) ["thing","most"] fqg dqg) (Gqg:FnOk P w K mg base CX0 1 fqg dqg ["thing","most"] jfe) (Dq4:DefAt K mg "tie_stands" (top 21) ["thing","last","prices"] fq4 dq4) (Gq4:FnOk P w K mg base CX0 3 fq4 dq4 ["thing","last","prices"] jgl):FnOk P w K mg base CX0 4 f fd ["ties","prices"] jhv:=by
 have sc:FnScope ["ties","prices","last","number","thing"] ["ties","prices"] (jbe (top 23)):=by walk_at "SC"
 refine D.F.ok sc (fun vs H Q E h=>?_) (fun cdv A outer s H vs Q E hr h=>?_)
 ·obtain ⟨a,d,xs,ts,kvs,rfl,_⟩:=h
  rfl
 obtain ⟨a,d,xs,ts,kvs,rfl,ea,ed,hp,hl,ok,h⟩:=h
 have hlx:xs.length = ts.length:=Paired.length hp
 have hu:=jcc hr
 have hu0:_ < PySem.cLine:=Nat.lt_of_succ_lt hu
 refine ⟨_,(jaf (jdf (jeh (jdz (jbf Gqg (hr.mono (by decide)) rfl Dqg.m Dqg.F.kp Dqg.b .nil jbq (ja0 (qv 0) (ja0 (jcx (v:=.int 120) rfl C.MOST_TIES ⟨_,rfl⟩) jah))))) (jb8 jew) jc5) (jaf (jbg (i:=2) sc.nd rfl (Or.inl rfl) (jc9 (ja0 (jpl jpd jai) (ja0 (jpl jpd jai) jah)))) (jb8 (jcw PassesOwn.never rfl (jj3 rfl B.enumerate (ja0 (qv 0) jah)) (jci (n:=2) rfl (jbb (jb9 (i:=3) sc.nd rfl (Or.inl rfl)) (jbb (jb9 (i:=4) sc.nd rfl (Or.inl rfl)) jbw))) (jaf (jdf (jeh (jdz (jbf Gq4 (hr.mono (by decide)) rfl Dq4.m Dq4.F.kp Dq4.b .nil jbq (ja0 (qv 4) (ja0 (qv 2) (ja0 (qv 1) jah)))))) (jb8 jew) jc5) (jb8 (jbg (i:=2) sc.nd rfl (Or.inl rfl) (qv 4)))))))),?_⟩
 walk_at "RD"
 refine ⟨a,xs,120,rfl,ea,?_⟩
 rw [decide_eq_true (show (xs.length:Int) <= 120 by omega)]
 walk_at "RD"
 intro t0 ht0
 refine ⟨a,rfl,⟨xs,SqL.of (jag ht0 _ _ _ ea)⟩,jjj (K:=K) (a:=a) (xs:=xs) (fun i σ H1=>∃ lv q nb th,σ = [some (.ref a),some (.ref d),some lv,nb,th]/\Same H H1/\Pr H1 lv q/\TiOk kvs q (ts.drop i)) ⟨_,(-1,-1),none,none,rfl,jag ht0 _,⟨t0,rfl,ja1⟩,ok⟩ (fun i σ H1 _ ⟨_,_,_,_,_,s1,_⟩=>SqL.of (s1 _ _ ea)) ?_ ?_⟩
 ·rintro i x σ H1 t hi ⟨lv,q,nb,th,rfl,s1,pq,ok1⟩ ht
  obtain ⟨p,hpi,px⟩:=jbd hp hi
  rw [jnl hpi] at ok1
  have s2:Same H (upd H1 t (.tup [.int i,x])):=s1.trans (jag ht _)
  have px2:=px.same s2
  simp_arith [ja1]
  refine ⟨_,p,_,q,d,kvs,rfl,px2,pq.same (jag ht _),s2 _ _ ed,ok1.1,?_⟩
  walk_at "RD"
  exact ⟨_,_,_,_,rfl,s2,px2,ok1.2⟩
 ·rintro σ H1 ⟨lv,q,nb,th,rfl,s1,_⟩
  exact h H1 s1
theorem jhm (B:Blt mg) (D:DefAt K mg "look_at_web" (top 24) ["thing"] f fd) (Dqb:DefAt K mg "is_tuple_of" (top 8) ["thing","many"] fqb dqb) (Gqb:FnOk P w K mg base CX0 1 fqb dqb ["thing","many"] jgk) (Dqz:DefAt K mg "look_at_places" (top 22) ["places"] fqz dqz) (Gqz:FnOk P w K mg base CX0 4 fqz dqz ["places"] jfq) (Dq0:DefAt K mg "look_at_ties" (top 23) ["ties","prices"] fq0 dq0) (Gq0:FnOk P w K mg base CX0 4 fq0 dq0 ["ties","prices"] jhv):FnOk P w K mg base CX0 5 f fd ["thing"] jkd:=by
 have sc:FnScope ["thing"] ["thing"] (jbe (top 24)):=by walk_at "SC"
 refine D.F.ok sc (fun vs H Q E h=>?_) (fun cdv A outer s H vs Q E hr h=>?_)
 ·obtain ⟨v,ps,ts,rfl,_⟩:=h
  rfl
 obtain ⟨v,ps,ts,rfl,hw,ok,h⟩:=h
 obtain ⟨u,pa,ta,xs,ys,rfl,eu,ep,et,pp,pt⟩:=hw
 have hlx:xs.length = ps.length:=Paired.length pp
 have okl:=ok.pl
 have hu:=jcc hr
 have hu0:_ < PySem.cLine:=Nat.lt_of_succ_lt hu
 refine ⟨_,(jaf (jdf (jeh (jdz (jbf Gqb (hr.mono (by decide)) rfl Dqb.m Dqb.F.kp Dqb.b .nil jbq (ja0 (qv 0) (ja0 jai jah))))) (jb8 jew) jc5) (jaf (jc6 (jbf Gqz (hr.mono (by decide)) rfl Dqz.m Dqz.F.kp Dqz.b .nil jbq (ja0 (jbj q_ix (qv 0) jai (fun _ _=>rfl)) jah))) (jb8 (jc6 (jbf Gq0 (hr.mono (by decide)) rfl Dq0.m Dq0.F.kp Dq0.b .nil jbq (ja0 (jbj q_ix (qv 0) jai (fun _ _=>rfl)) (ja0 (jd1 (jix rfl) rfl B.dict PyProof.Rows.boot_dict (ja0 (jbj q_ix (qv 0) jai (fun _ _=>rfl)) jah)) jah))))))),?_⟩
 walk_at "RD"
 refine ⟨u,_,2,rfl,eu,?_⟩
 simp_arith [jbm,eu,at0,at1,Int.cast_ofNat_Int,decide_true]
 refine ⟨pa,xs,ps,rfl,ep,pp,ok.pl,ok.p,fun H1 s1=>?_⟩
 simp_arith [jbm,s1 _ _ eu,s1 _ _ ep,at0,at1]
 refine ⟨jco ps,jg6 (Prs.same s1 pp),by omega,jfk ok.p.nodup,fun d hd=>?_⟩
 have s2:Same H (upd H1 d (.dK (jco ps))):=s1.trans (jag hd _)
 exact ⟨ta,d,ys,ts,_,rfl,s2 _ _ et,ja1,Prs.same s2 pt,ok.tl,ok.t,fun H3 s3=>h H3 (s2.trans s3)⟩
theorem ix30:ixN 3 0 = some 0:=rfl
theorem ix31:ixN 3 1 = some 1:=rfl
theorem ix32:ixN 3 2 = some 2:=rfl
def StO (o:HO):Prop:=∃ c st fl,o = .lst [.int c,.int st,.bl fl]/\0 <= st/\st < 4294967296
theorem StO.imm {o:HO} (h:StO o):jup o = false:=by obtain ⟨_,_,_,rfl,_⟩:=h; rfl
def jp3 (K:PySem.W.Frag):Sp:=fun vs H Q _=>∃ a k ns,vs = [.ref a,.int k]/\Scr K H a ns/\0 <= k/\k <= 1000/\∀ s o,H s = none->StO o->Q (.ref s) (upd H s o)
def jkb:Sp:=fun vs H Q _=>∃ s o m,vs = [.ref s,.int m]/\H s = some o/\StO o/\1 <= m/\m < 1000000000000000000/\∀ d o,0 <= d->d < m->StO o->Q (.int d) (upd H s o)
theorem cmR {i j:Int} (h1:-(2 ^ 64) < j) (h2:j < 2 ^ 64):CMul i j:=.inr ⟨h1,h2⟩
theorem cmL {i j:Int} (h1:-(2 ^ 64) < i) (h2:i < 2 ^ 64):CMul i j:=.inl ⟨h1,h2⟩
def Dr:Int->List (Int × Int)->Prop
 | _,[]=>True
 | l,p :: r=>(l < p.1/\p.1 <= l + 23/\1 <= p.2/\p.2 <= 1000000000)/\Dr p.1 r
def jq8 (l:Int):List (Int × Int)->Int
 | []=>l
 | p :: r=>jq8 p.1 r
theorem Dr.snoc:∀ {ps:List (Int × Int)} {l:Int} {p:Int × Int},Dr l ps->(jq8 l ps < p.1/\p.1 <= jq8 l ps + 23/\1 <= p.2/\p.2 <= 1000000000)->Dr l (ps ++ [p])
 | [],_,_,_,h=>⟨h,trivial⟩
 | q :: r,_,_,h,h2=>⟨h.1,Dr.snoc h.2 h2⟩
theorem ji3:∀ {ps:List (Int × Int)} {l:Int} {p:Int × Int},jq8 l (ps ++ [p]) = p.1
 | [],_,_=>rfl
 | q :: r,_,_=>ji3 (ps:=r)
def But (s:Addr) (H H':Hp):Prop:=∀ b o,b ≠ s->H b = some o->H' b = some o
theorem But.refl (s:Addr) (H:Hp):But s H H:=fun _ _ _ q=>q
theorem But.trans {s:Addr} {H H1 H2:Hp} (a:But s H H1) (b:But s H1 H2):But s H H2:=fun c o n q=>b c o n (a c o n q)
theorem But.at (s:Addr) (H:Hp) (o:HO):But s H (upd H s o):=fun b u n q=>by rw [jb7 n]; exact q
theorem But.new {s t:Addr} {H:Hp} {o:HO} (h:H t = none):But s H (upd H t o):=fun b u n q=>by rw [jb7 (jaj q h)]; exact q
theorem But.tups {s:Addr} {H H':Hp} (h:But s H H') {o:HO} (e:H s = some o) (i:jup o = false):TupS H H':=fun b u z q=>h b u (fun x=>by rw [x,e] at q; cases q; rw [i] at z; cases z) q
theorem at3 {α:Type} {x y z u:α} {r:List α}:atI (x :: y :: z :: u :: r) 3 = some u:=by
 have e:atI (x :: y :: z :: u :: r) ((3:Nat):Int) = some u:=jdd rfl
 exact e
theorem menu4 {a b c e d:Int} (h0:0 <= d) (h1:d < 4):∃ v,atI [V.int a,.int b,.int c,.int e] d = some (.int v)/\(v = a \/ v = b \/ v = c \/ v = e):=by
 have hd:d = 0 \/ d = 1 \/ d = 2 \/ d = 3:=by omega
 rcases hd with rfl | rfl | rfl | rfl
 ·exact ⟨a,at0,.inl rfl⟩
 ·exact ⟨b,at1,.inr (.inl rfl)⟩
 ·exact ⟨c,at2,.inr (.inr (.inl rfl))⟩
 ·exact ⟨e,at3,.inr (.inr (.inr rfl))⟩
theorem p9:(10:Int) ^ Int.toNat 9 = 1000000000:=by decide
def jmw:Sp:=fun vs H Q _=>∃ s o n,vs = [.ref s,.int n]/\H s = some o/\StO o/\0 <= n/\n <= 100 /\
 ∀ r H' o' xs ps,H r = none->But s H H'->H' s = some o'->StO o'->H' r = some (.lst xs)->Prs H' xs ps->(ps.length:Int) = n->Dr (-1) ps->Q (.ref r) H'
def jtg (H H':Hp) (t:Addr) (ps ts:List (Int × Int)):Prop:=∃ l1 l2 xs ys,H l1 = none/\H l2 = none/\l1 ≠ l2/\H' t = some (.tup [.ref l1,.ref l2])/\H' l1 = some (.lst xs)/\H' l2 = some (.lst ys)/\Prs H' xs ps/\Prs H' ys ts
def jsw:Sp:=fun vs H Q _=>∃ v ps ts,vs = [v]/\jd3 H v ps ts/\∀ t H',Same H H'->jtg H H' t ps ts->Q (.ref t) H'
theorem jlt (B:Blt mg) (D:DefAt K mg "_law_take" (top 34) ["_law_state","_law_many"] f fd):FnOk P w K mg base CX0 1 f fd ["_law_state","_law_many"] jkb:=by
 have sc:FnScope ["_law_state","_law_many","_law_digit","_law_number"] ["_law_state","_law_many"] (jbe (top 34)):=by walk_at "SC"
 refine D.F.ok sc (fun vs H Q E h=>?_) (fun cdv A outer s H vs Q E hr h=>?_)
 ·obtain ⟨s,o,m,rfl,_⟩:=h
  rfl
 obtain ⟨st,o,m,rfl,es,⟨c,x,fl,rfl,x0,x1⟩,m0,m1,h⟩:=h
 have hu:=jcc hr
 have hu0:_ < PySem.cLine:=Nat.lt_of_succ_lt hu
 refine ⟨_,(jaf (jdf (jdz (jbj q_ix (qv 0) jai (fun _ _=>rfl))) (jaf (jbg (i:=2) sc.nd rfl (Or.inl rfl) (jbo jkh (jbj q_ix (qv 0) jai (fun _ _=>rfl)) (qv 1))) (jaf (jgo (jbo jty (jbj q_ix (qv 0) jai (fun _ _=>rfl)) (qv 1)) (jhx (qv 0) jai jfr)) (jaf (jgo (jd5 q_gt (jbj q_ix (qv 0) jai (fun _ _=>rfl)) jai (jby _)) (jhx (qv 0) jai jfr)) (jb8 (jbu (qv 2)))))) jc5) (jaf (jgo (jbo jkh (jbo jcb (jbo jff (jbj q_ix (qv 0) jai (fun _ _=>rfl)) jai) jai) jai) (jhx (qv 0) jai jfr)) (jaf (jbg (i:=3) sc.nd rfl (Or.inl rfl) (jbo jn4 (jbo jkh (jbo jff (jbj q_ix (qv 0) jai (fun _ _=>rfl)) (jbj q_ix (qv 0) jai (fun _ _=>rfl))) jai) jai)) (jaf (jdf (jc0 q_gt (qv 1) (jbo jrc jai jai) (jby _)) (jaf (jgo (jbo jkh (jbo jcb (jbo jff (jbj q_ix (qv 0) jai (fun _ _=>rfl)) jai) jai) jai) (jhx (qv 0) jai jfr)) (jb8 (jbg (i:=3) sc.nd rfl (Or.inl rfl) (jbo jcb (jbo jff (qv 3) jai) (jbj q_ix (qv 0) jai (fun _ _=>rfl)))))) jc5) (jb8 (jbu (jbo jkh (qv 3) (qv 1)))))))),?_⟩
 simp_arith [jbm,es,at0,at1,at2,ix30,ix31,ix32,ja1,jej]
 have lo:∀ n:Int,0 <= n % m:=fun n=>Int.emod_nonneg _ (by omega)
 have hi:∀ n:Int,n % m < m:=fun n=>Int.emod_lt_of_pos _ (by omega)
 have y0:0 <= (x * 48271 + 39373) % 2147483647:=Int.emod_nonneg _ (by decide)
 have y1:(x * 48271 + 39373) % 2147483647 < 2147483647:=Int.emod_lt_of_pos _ (by decide)
 generalize (x * 48271 + 39373) % 2147483647 = y at y0 y1
 have z0:0 <= (y * 48271 + 39373) % 2147483647:=Int.emod_nonneg _ (by decide)
 have z1:(y * 48271 + 39373) % 2147483647 < 2147483647:=Int.emod_lt_of_pos _ (by decide)
 generalize (y * 48271 + 39373) % 2147483647 = z at z0 z1
 have cd:CDivB c m:=⟨by omega,by omega⟩
 have cd2:∀ n:Int,CDiv n 16:=fun n=>⟨by decide,by decide⟩
 have cp:CPow 10 6:=⟨by decide,by decide,by decide⟩
 refine ite2 (fun _=>⟨by omega,cd,h _ _ (lo _) (hi _) ⟨_,_,_,rfl,x0,x1⟩⟩) (fun _=>⟨cmR (by decide) (by decide),by decide,cmL (by omega) (by omega),by decide,cd2 _,cp,?_⟩)
 refine ite2 (fun _=>⟨cmR (by decide) (by decide),by decide,cmR (by decide) (by decide),by omega,h _ _ (lo _) (hi _) ⟨_,_,_,rfl,z0,by omega⟩⟩) (fun _=>⟨by omega,h _ _ (lo _) (hi _) ⟨_,_,_,rfl,y0,by omega⟩⟩)
theorem jkn (B:Blt mg) (D:DefAt K mg "_law_begun" (top 33) ["_law_script","_law_k"] f fd):FnOk P w K mg base CX0 1 f fd ["_law_script","_law_k"] (jp3 K):=by
 have sc:FnScope ["_law_script","_law_k","_law_cell","_law_mixed"] ["_law_script","_law_k"] (jbe (top 33)):=by walk_at "SC"
 refine D.F.ok sc (fun vs H Q E h=>?_) (fun cdv A outer s H vs Q E hr h=>?_)
 ·obtain ⟨a,k,ns,rfl,_⟩:=h
  rfl
 obtain ⟨a,k,ns,rfl,hs,k0,k1,h⟩:=h
 have hu:=jcc hr
 have hu0:_ < PySem.cLine:=Nat.lt_of_succ_lt hu
 refine ⟨_,(jaf (jbg (i:=2) sc.nd rfl (Or.inl rfl) jai) (jaf (jdf (jc0 q_lt (qv 1) (jbp je7 rfl B.len PySem.boot_len (ja0 (qv 0) jah)) (jby _)) (jb8 (jbg (i:=2) sc.nd rfl (Or.inl rfl) (jbj jqe (qv 0) (qv 1) (fun _ _=>rfl)))) jc5) (jaf (jbg (i:=3) sc.nd rfl (Or.inl rfl) (jbo jcb (jbo jcb (jbo jkh (qv 2) jai) (jbo jff jai (qv 1))) (jbo jff jai (jbo jn4 (qv 1) jai)))) (jb8 (jbu (jcf (ja0 (qv 2) (ja0 (jbo jkh (qv 3) jai) (ja0 (jd5 q_ge (qv 2) (jbo jrc jai jai) (jby _)) jah))))))))),?_⟩
 walk_at "RD"
 refine ⟨a,_,rfl,.inl hs.sq,?_⟩
 simp_arith [List.length_map,rIxL]
 have q0:∀ n:Int,0 <= n % 2147483629:=fun n=>Int.emod_nonneg _ (by decide)
 have q1:∀ n:Int,n % 2147483629 < 2147483629:=fun n=>Int.emod_lt_of_pos _ (by decide)
 have cp:CPow 10 18:=⟨by decide,by decide,by decide⟩
 have cd:CDiv k 7:=⟨by decide,by decide⟩
 refine ite2 (fun c=>?_) (fun c=>?_)
 ·have c':k < (ns.length:Int):=of_decide_eq_true c
  have hk:k.toNat < ns.length:=by omega
  have e1:atI (ns.map V.int) ((k.toNat:Nat):Int) = some (.int ns[k.toNat]):=jdd (by rw [List.getElem?_map,gE hk]; rfl)
  rw [show ((k.toNat:Nat):Int) = k by omega] at e1
  refine ⟨a,_,k,_,rfl,rfl,hs.sq,e1,?_⟩
  walk_at "RD"
  exact ⟨by decide,cmL (by decide) (by decide),cd,cmL (by decide) (by decide),by decide,cp,fun p hp=>h p _ hp ⟨_,_,_,rfl,q0 _,by have:=q1 (ns[k.toNat] % 2147483629 + 104729 * k + 7919 * (k / 7)); omega⟩⟩
 ·exact ⟨by decide,cmL (by decide) (by decide),cd,cmL (by decide) (by decide),by decide,cp,fun p hp=>h p _ hp ⟨_,_,_,rfl,q0 _,by have:=q1 (0 % 2147483629 + 104729 * k + 7919 * (k / 7)); omega⟩⟩
theorem jj8 (B:Blt mg) (D:DefAt K mg "_law_places" (top 35) ["_law_state","_law_count"] f fd) (Dqa:DefAt K mg "_law_take" (top 34) ["_law_state","_law_many"] fqa dqa) (Gqa:FnOk P w K mg base CX0 1 fqa dqa ["_law_state","_law_many"] jkb):FnOk P w K mg base CX0 2 f fd ["_law_state","_law_count"] jmw:=by
 have sc:FnScope ["_law_state","_law_count","_law_kind","_law_places_here","_law_number","_law_k"] ["_law_state","_law_count"] (jbe (top 35)):=by walk_at "SC"
 refine D.F.ok sc (fun vs H Q E h=>?_) (fun cdv A outer s H vs Q E hr h=>?_)
 ·obtain ⟨s,o,n,rfl,_⟩:=h
  rfl
 obtain ⟨st,o,n,rfl,es,so,n0,n1,h⟩:=h
 have hu:=jcc hr
 have hu0:_ < PySem.cLine:=Nat.lt_of_succ_lt hu
 refine ⟨_,(jaf (jbg (i:=2) sc.nd rfl (Or.inl rfl) (jbf Gqa (hr.mono (by decide)) rfl Dqa.m Dqa.F.kp Dqa.b .nil jbq (ja0 (qv 0) (ja0 jai jah)))) (jaf (jbg (i:=3) sc.nd rfl (Or.inl rfl) (jcf jah)) (jaf (jbg (i:=4) sc.nd rfl (Or.inl rfl) (jpl jpd jai)) (jaf (jcw PassesOwn.never rfl (jd0 rfl B.range (ja0 (qv 1) jah)) (jb9 (i:=5) sc.nd rfl (Or.inl rfl)) (jaf (jbg (i:=4) sc.nd rfl (Or.inl rfl) (jbo jcb (jbo jcb (qv 4) jai) (jbf Gqa (hr.mono (by decide)) rfl Dqa.m Dqa.F.kp Dqa.b .nil jbq (ja0 (qv 0) (ja0 (jbj q_ix (jcf (ja0 jai (ja0 jai (ja0 jai (ja0 jai jah))))) (jbf Gqa (hr.mono (by decide)) rfl Dqa.m Dqa.F.kp Dqa.b .nil jbq (ja0 (qv 0) (ja0 jai jah))) (fun _ _=>rfl)) jah))))) (jb8 (jc6 (q_bm PySem.F.plainAttrs_list PySem.F.slot_list_append PySem.F.type_list_append jca (qv 3) (ja0 (jc9 (ja0 (qv 4) (ja0 (jbo jcb jai (jbf Gqa (hr.mono (by decide)) rfl Dqa.m Dqa.F.kp Dqa.b .nil jbq (ja0 (qv 0) (ja0 (jbj q_ix (jcf (ja0 jai (ja0 jai (ja0 jai (ja0 (jbo jrc jai jai) jah))))) (qv 2) (fun _ _=>rfl)) jah)))) jah))) jah)))))) (jb8 (jbu (qv 3))))))),?_⟩
 walk_at "RD"
 refine ⟨st,o,4,rfl,es,so,by decide,by decide,fun kind o1 k0 k1 so1=>?_⟩
 walk_at "RD"
 intro r hr1
 have nr:r ≠ st:=fun z=>by rw [z,ja1] at hr1; cases hr1
 have hr0:H r = none:=by rw [<- hr1,jb7 nr]
 refine ⟨n,rfl,by omega,by omega,jdc (n:=n.toNat) (fun i σ H1=>∃ l kk ps xs o',σ = [some (.ref st),some (.int n),some (.int kind),some (.ref r),some (.int l),kk]/\But st H H1/\H1 st = some o'/\StO o'/\H1 r = some (.lst xs)/\Prs H1 xs ps/\ps.length = i/\Dr (-1) ps/\l = jq8 (-1) ps) ?_ ?_ ?_⟩
 ·refine ⟨-1,none,[],[],o1,rfl,fun b u nb q=>?_,by rw [jb7 nr.symm,ja1],so1,ja1,.nil,rfl,trivial,rfl⟩
  rw [jb7 (jaj q hr0),jb7 nb]
  exact q
 ·rintro i σ H1 hi ⟨l,kk,ps,xs,o',rfl,b1,e1,so',er,pp,hlen,dr,el⟩
  have hlx:xs.length = ps.length:=Paired.length pp
  walk_at "RD"
  intro p1 hp1
  have np:p1 ≠ st:=(jaj e1 hp1).symm
  have nr1:r ≠ p1:=jaj er hp1
  refine ⟨st,o',4,rfl,(by rw [jb7 np.symm]; exact e1),so',by decide,by decide,fun d1 o2 d10 d11 so2=>?_⟩
  obtain ⟨v,ev,v0,v1⟩:∃ v,atI [V.int 1,.int 2,.int 6,.int 23] d1 = some (.int v)/\1 <= v/\v <= 23:=by
   obtain ⟨v,ev,hv⟩:=menu4 (a:=1) (b:=2) (c:=6) (e:=23) d10 d11
   exact ⟨v,ev,by omega,by omega⟩
  simp_arith [jbm,jb7 np,ja1,ev]
  refine ⟨st,o2,v,rfl,ja1,so2,by omega,by omega,fun d2 o3 d20 d21 so3=>?_⟩
  simp_arith [jej]
  have b3:But st H1 (upd (upd H1 p1 (.lst [.int 1,.int 2,.int 6,.int 23])) st o3):=(But.new hp1).trans (But.at _ _ _)
  have e3:(upd (upd H1 p1 (.lst [.int 1,.int 2,.int 6,.int 23])) st o3) st = some o3:=ja1
  generalize upd (upd H1 p1 (.lst [.int 1,.int 2,.int 6,.int 23])) st o3 = H3 at b3 e3
  have t3:TupS H1 H3:=b3.tups e1 so'.imm
  have er3:=b3 _ _ nr er
  refine ⟨⟨r,xs,rfl,er3⟩,⟨by decide,by decide,by decide⟩,?_⟩
  intro p2 hp2
  have np2:p2 ≠ st:=(jaj e3 hp2).symm
  have nr2:r ≠ p2:=jaj er3 hp2
  obtain ⟨v2,ev2,v20,v21⟩:∃ v,atI [V.int 1,.int 3,.int 9,.int (10 ^ Int.toNat 9)] kind = some (.int v)/\1 <= v/\v <= 1000000000:=by
   obtain ⟨v,ev,hv⟩:=menu4 (a:=1) (b:=3) (c:=9) (e:=10 ^ Int.toNat 9) k0 k1
   rw [p9] at hv
   exact ⟨v,ev,by omega,by omega⟩
  simp_arith [jbm,ja1,ev2]
  refine ⟨st,o3,v2,rfl,(by rw [jb7 np2.symm]; exact e3),so3,by omega,by omega,fun d3 o4 d30 d31 so4=>?_⟩
  walk_at "RD"
  have b4:But st H3 (upd (upd H3 p2 (.lst [.int 1,.int 3,.int 9,.int (10 ^ Int.toNat 9)])) st o4):=(But.new hp2).trans (But.at _ _ _)
  have e4:(upd (upd H3 p2 (.lst [.int 1,.int 3,.int 9,.int (10 ^ Int.toNat 9)])) st o4) st = some o4:=ja1
  generalize upd (upd H3 p2 (.lst [.int 1,.int 3,.int 9,.int (10 ^ Int.toNat 9)])) st o4 = H4 at b4 e4
  have t4:TupS H3 H4:=b4.tups e3 so3.imm
  have er4:=b4 _ _ nr er3
  intro t ht
  have nt:t ≠ st:=(jaj e4 ht).symm
  have er5:upd H4 t (.tup [.int (l + 1 + d2),.int (1 + d3)]) r = some (.lst xs):=by rw [jb7 (jaj er4 ht)]; exact er4
  simp_arith [er5]
  have t5:TupS H4 (upd H4 t (.tup [.int (l + 1 + d2),.int (1 + d3)])):=jg2 ht
  have t6:=jbv (ys:=xs ++ [.ref t]) er5
  refine ⟨szl' (by omega),l + 1 + d2,_,ps ++ [(l + 1 + d2,1 + d3)],_,o4,rfl,fun b u nb q=>?_,?_,so4,(by first | rfl | exact ja1),?_,?_,?_,?_⟩
  ·have q1:=b4 _ _ nb (b3 _ _ nb (b1 _ _ nb q))
   rw [jb7 (jaj q hr0),jb7 (jaj q1 ht)]
   exact q1
  ·rw [jb7 nr.symm,jb7 nt.symm]
   exact e4
  ·exact jbk (Prs.tups (((t3.trans t4).trans t5).trans t6) pp) (Pr.tups ⟨t,rfl,ja1⟩ t6)
  ·rw [List.length_append,hlen]
   rfl
  ·exact dr.snoc ⟨by show _ < l + 1 + d2; omega,by show l + 1 + d2 <= _; omega,by show 1 <= 1 + d3; omega,by show 1 + d3 <= _; omega⟩
  ·rw [ji3]
 ·rintro σ H1 ⟨l,kk,ps,xs,o',rfl,b1,e1,so',er,pp,hlen,dr,el⟩
  walk_at "RD"
  exact h r H1 o' xs ps hr0 b1 e1 so' er pp (by omega) dr
end
end My
namespace So
open PySem PySem.Spec PyProof.Rows
section
variable {prog:Program} {w:World} {s:Shared}
end
end So
namespace L2
open PySem PySem.Spec PyProof.Rows
def Tp (H:Hp) (v:V) (p:Int × Int × Int):Prop:=∃ a,v = .ref a/\H a = some (.tup [.int p.1,.int p.2.1,.int p.2.2])
abbrev Tps (H:Hp) (xs:List V) (ps:List (Int × Int × Int)):Prop:=Paired (Tp H) xs ps
section
variable {X:Cx}
end
end L2
namespace L2
open PySem PySem.Spec PyProof.Rows
section
variable {X:Cx}
end
section
variable {prog:Program} {w:World} {A:Around} {E:Value->Shared->Prop} {s:Shared}
end
def jfj {K:Type} [DecidableEq K] (xs:List (K × Addr × Value)):List (K × Addr × Value)->List (K × Addr × Value)
 | []=>xs
 | q :: r=>jfj (storedH xs q.1 q.2.1 q.2.2) r
theorem jlk {K:Type} [DecidableEq K] (xs:List (K × Addr × Value)) (k:K) (a:Addr) (v:Value):(storedH xs k a v).length <= xs.length + 1:=by
 unfold storedH
 split
 ·rw [List.length_map]; omega
 ·rw [List.length_append]; exact Nat.le_refl _
section
variable {prog:Program} {w:World} {A:Around} {E:Value->Shared->Prop} {R:Result->Shared->Prop}
abbrev TK (prog:Program) (w:World):HeapKind prog w (List Key):=tupleKind (jc3 prog w)
theorem jed {h h':Heap} {d:Addr} {xs:List (List Key × Addr × Value)} (hd:h.DictOfH (TK prog w) d xs) (k0:∀ o,h.get? d = some o->h'.get? d = some o) (k1:∀ b o,o.cls = .type "tuple"->h.get? b = some o->h'.get? b = some o):h'.DictOfH (TK prog w) d xs:=by
 obtain ⟨o,es,ep,e1,e2,e3,e4,e5,e6⟩:=hd
 refine ⟨o,es,ep,k0 _ e1,e2,e3,e4,fun x hx=>?_,e6⟩
 obtain ⟨o2,its,n,f1,f2,f3⟩:=e5 x hx
 exact ⟨o2,its,n,k1 _ _ f2 f1,f2,f3⟩
theorem joe {d it l:Addr} {its:Array Value} {more:List (List Key × Addr × Value)} (hh:A.handled = none) (hu:A.in1.units < cLine) (hlen:more.length = its.size) (hsz:its.size <= 1000) (hdl:l ≠ d) (hdi:it ≠ d) (hil:l ≠ it) :
  ∀ (k i:Nat) (tk0:Tok) (s:Shared) (kvs:List (List Key × Addr × Value)),its.size - i = k->i <= its.size->kvs.length <= i->s.heap.IsListIter it l i->s.heap.IsList l its->s.heap.DictOfH (TK prog w) d kvs ->
   (∀ (j:Nat) (q:List Key × Addr × Value),more[j]? = some q->∃ t,its[j]? = some (.ref t)/\s.heap.IsTuple t #[.ref q.2.1,q.2.2]/\(TK prog w).is s.heap q.1 q.2.1) ->
   (∀ h' tk,h'.DictOfH (TK prog w) d (jfj kvs (more.drop i))->(∀ b o,b ≠ d->b ≠ it->s.heap.get? b = some o->h'.get? b = some o)->R (.ok (.ret .none)) { s with heap:=h',toks:=tk }) ->
   codeAny (model prog w) A (.builtin "dict.update.loop" ⟨[.ref d,.ref it,.int i tk0,.none],[]⟩) R s:=by
 intro k
 induction k with
 | zero =>
  intro i tk0 s kvs hk hi hkl hit hl hd hp hR
  have e:i = its.size:=by omega
  subst e
  refine codeAny_builtin jc4 ?_
  rw [Around.under_plainId jbl _]
  show wpAny _ A.in1 (pyNext (.ref it) >>= _) _ _ s
  refine wpAny_bind (wpAny_pyNext_list_end hh hit hl (by simp) fun h' eb=>?_)
  show wpAny _ A.in1 (Builtin.Dict.addKeywords d [] >>= _) _ _ _
  refine wpAny_bind (wpAny_pure (wpAny_pure ?_))
  refine hR h' s.toks ?_ fun b o _ hb q=>eb b o hb q
  rw [List.drop_eq_nil_of_le (by omega)]
  refine jed hd (fun o q=>eb d o hdi.symm q) fun b o c q=>eb b o (fun z=>?_) q
  subst z
  obtain ⟨o',e2,c2,_⟩:=hit
  rw [q] at e2; cases e2; rw [c] at c2; exact absurd c2 (by decide)
 | succ k ih =>
  intro i tk0 s kvs hk hi hkl hit hl hd hp hR
  have hlt:i < its.size:=by omega
  have hlm:i < more.length:=by omega
  obtain ⟨t,hu',ht,hkey⟩:=hp i more[i] (by simp [hlm])
  have nit:∀ {b:Addr} {o:Obj},o.cls = .type "tuple"->s.heap.get? b = some o->b ≠ it:=fun {b o} c q z=>by
   subst z
   obtain ⟨o',e2,c2,_⟩:=hit
   rw [q] at e2; cases e2; rw [c] at c2; exact absurd c2 (by decide)
  have nd:∀ {b:Addr} {o:Obj},o.cls = .type "tuple"->s.heap.get? b = some o->b ≠ d:=fun {b o} c q z=>by
   subst z
   obtain ⟨o',_,_,e2,c2,_⟩:=hd
   rw [q] at e2; cases e2; rw [c2.1] at c; exact absurd c (by decide)
  refine codeAny_builtin jc4 ?_
  rw [Around.under_plainId jbl _]
  show wpAny _ A.in1 (pyNext (.ref it) >>= _) _ _ s
  refine wpAny_bind (wpAny_pyNext_list_item hit hl hu' fun h1 hit1 sb1=>?_)
  obtain ⟨ot0,et0,ct0,_⟩:=id ht
  have ht1:h1.IsTuple t #[.ref more[i].2.1,more[i].2.2]:=ht.extBut sb1.extBut (nit ct0 et0)
  have keep1:∀ b o,o.cls = .type "tuple"->s.heap.get? b = some o->h1.get? b = some o:=fun b o c q=>sb1.extBut b o (nit c q) q
  have hd1:h1.DictOfH (TK prog w) d kvs:=jed hd (fun o q=>sb1.extBut d o hdi.symm q) keep1
  have hkey1:(TK prog w).is h1 more[i].1 more[i].2.1:=by
   obtain ⟨o2,its2,n2,f1,f2,f3⟩:=hkey
   exact ⟨o2,its2,n2,keep1 _ _ f2 f1,f2,f3⟩
  show wpAny _ A.in1 (holding [.ref t] _ >>= _) _ _ _
  refine wpAny_bind (wpAny_holding ?_)
  refine wpAny_bind (m:=(Builtin.Dict.pairItems (.ref t)).tryCatch _) ?_
  refine wpAny_tryCatch ?_
  unfold Builtin.Dict.pairItems
  refine wpAny_bind (wpAny_typeOf ht1.typeIs ?_)
  obtain ⟨ot,e1,c1,n1,d1⟩:=id ht1
  rw [if_pos (by decide)]
  refine wpAny_bind (wpAny_seqItems e1 d1 ?_)
  refine wpAny_pure ?_
  show wpAny _ A.in1 (holding [.ref more[i].2.1,more[i].2.2] (dictSet d (.ref more[i].2.1) more[i].2.2)) _ _ _
  refine wpAny_holding (wpAny_dictSet_heap (knd:=TK prog w) hu hkey1 hd1 (fun h2 hd2 sb2=>?_) (by have:=(by decide:1000 <= sizeLine); omega))
  replace sb2:Heap.SameBut d h1 h2:=sb2
  have kk:∀ b o,b ≠ d->b ≠ it->s.heap.get? b = some o->h2.get? b = some o:=fun b o b1 b2 q=>sb2.extBut b o b1 (sb1.extBut b o b2 q)
  refine wpAny_pure ⟨plainId_quiet jbl _,?_⟩
  have hik:((i:Int) + 1) = ((i + 1:Nat):Int):=by omega
  show codeAny _ _ (.builtin "dict.update.loop" ⟨[.ref d,.ref it,rawInt ((i:Int) + 1),.none],[]⟩) _ _
  rw [hik]
  refine ih (i + 1) 0 _ (storedH kvs more[i].1 more[i].2.1 more[i].2.2) (by omega) (by omega) ?_ (hit1.extBut sb2.extBut hdi) ((hl.extBut sb1.extBut hil).extBut sb2.extBut hdl) hd2 ?_ ?_
  ·have:=jlk kvs more[i].1 more[i].2.1 more[i].2.2
   omega
  ·intro j q hq
   obtain ⟨t',a1,a2,a3⟩:=hp j q hq
   obtain ⟨o3,f1,f2,f3⟩:=a2
   obtain ⟨o4,its4,n4,g1,g2,g3⟩:=a3
   exact ⟨t',a1,⟨o3,kk _ _ (nd f2 f1) (nit f2 f1) f1,f2,f3⟩,⟨o4,its4,n4,kk _ _ (nd g2 g1) (nit g2 g1) g1,g2,g3⟩⟩
  ·intro h' tk hd' k'
   refine hR h' tk ?_ fun b o b1 b2 q=>k' b o b1 b2 (kk b o b1 b2 q)
   rw [List.drop_eq_getElem_cons hlm]
   exact hd'
theorem jhj {l:Addr} {its:Array Value} {c:Nat} {more:List (List Key × Addr × Value)} {s:Shared} {Q:Value->Shared->Prop} (hh:A.handled = none) (hu:A.in1.in1.units < cLine) (hl:s.heap.get? l = some { cls:=.type "list",dict:=none,data:=.seq its c,slots:=#[] }) (hlen:more.length = its.size) (hsz:its.size <= 1000)
  (hp:∀ (j:Nat) (q:List Key × Addr × Value),more[j]? = some q->∃ t,its[j]? = some (.ref t)/\s.heap.IsTuple t #[.ref q.2.1,q.2.2]/\(TK prog w).is s.heap q.1 q.2.1)
  (h:∀ h' tk,h'.DictOfH (TK prog w) s.heap.objs.size (jfj [] more)->(∀ b o,s.heap.get? b = some o->h'.get? b = some o)->Q (.ref s.heap.objs.size) { s with heap:=h',toks:=tk }) :
  wpAny (model prog w) A (call (.type "dict") [.ref l]) Q E s:=by
 refine callType_codes (Q₁:=fun obj s₁=>obj = .ref s.heap.objs.size/\s₁ = { s with heap:=s.heap.push { cls:=.type "dict",data:=.dict #[] } }) F.kt_called_dict (F.kt_typeCall_dict_1 _) F.entry_dict_init (kt_code_dict_new _ ⟨rfl,rfl⟩) ?_
 rintro obj s₁ ⟨rfl,rfl⟩
 have hnew:(s.heap.push { cls:=.type "dict",data:=.dict #[] }).DictOfH (TK prog w) s.heap.objs.size []:=Heap.DictOfH.new s.heap
 have hl1:(s.heap.push { cls:=.type "dict",data:=.dict #[] }).get? l = some { cls:=.type "list",dict:=none,data:=.seq its c,slots:=#[] }:=Heap.get?_push_of_some _ hl
 have k1:∀ b o,s.heap.get? b = some o->(s.heap.push { cls:=.type "dict",data:=.dict #[] }).get? b = some o:=fun b o q=>Heap.get?_push_of_some _ q
 have llt:l < s.heap.objs.size:=Heap.lt_size hl
 generalize s.heap.push { cls:=.type "dict",data:=.dict #[] } = h1 at hnew hl1 k1
 refine ⟨hnew.typeIs,F.args_dict_init_2 _ _,?_⟩
 unfold Builtin.«dict.__init__»
 refine wpAny_bind ?_
 unfold Builtin.Dict.selfAndRest
 refine wpAny_bind (wpAny_notOrdered_dict hnew.typeIs ?_)
 show wpAny _ _ (pure (s.heap.objs.size,[Value.ref l])) _ _ _
 refine wpAny_pure ?_
 show wpAny _ _ (Builtin.Dict.updateFrom "dict.__init__" s.heap.objs.size (.ref l) [] .none) _ _ _
 unfold Builtin.Dict.updateFrom
 refine wpAny_bind (wpAny_typeOf (T:="list") ⟨_,hl1,rfl⟩ ?_)
 rw [if_pos (by decide)]
 refine wpAny_bind (jt4 hl1 hh fun h2 tk2 k2=>?_)
 have hl2:=k2 _ _ hl1
 have hd2:h2.DictOfH (TK prog w) s.heap.objs.size []:=jed hnew (fun o q=>k2 _ _ q) fun b o _ q=>k2 _ _ q
 have dlt:s.heap.objs.size < h2.objs.size:=by obtain ⟨_,_,_,ho,_⟩:=hd2; exact Heap.lt_size ho
 simp only [Option.isNone_none,if_true]
 refine wpAny_bind (wpAny_rule ?_)
 have hL:Heap.IsList h2 l its:=⟨_,hl2,rfl,_,rfl⟩
 refine wpAny_bind (wpAny_pyIter_list (s:={ s with heap:=h2,toks:=tk2 }) hL ?_)
 refine wpAny_pure ⟨plainId_quiet jbl _,?_⟩
 have hit:(h2.push { cls:=.type "list_iterator",data:=.fields #[.ref l,.int 0 0] }).IsListIter h2.objs.size l 0:=⟨_,Heap.get?_push_size _ rfl,rfl,rfl⟩
 refine joe (A:=A.in1) (more:=more) hh hu hlen hsz (Nat.ne_of_lt llt) (Nat.ne_of_gt dlt) (Nat.ne_of_lt (Nat.lt_trans llt dlt)) its.size 0 0 { s with heap:=h2.push { cls:=.type "list_iterator",data:=.fields #[.ref l,.int 0 0] },toks:=tk2 } [] rfl (Nat.zero_le _) (Nat.le_refl _) hit (hL.push _) (jed hd2 (fun o q=>Heap.get?_push_of_some _ q) fun b o _ q=>Heap.get?_push_of_some _ q) ?_ ?_
 ·intro j q hq
  obtain ⟨t,a1,a2,a3⟩:=hp j q hq
  obtain ⟨o,e,r⟩:=a2
  obtain ⟨o4,its4,n4,g1,g2,g3⟩:=a3
  exact ⟨t,a1,⟨o,Heap.get?_push_of_some _ (k2 _ _ (k1 _ _ e)),r⟩,⟨o4,its4,n4,Heap.get?_push_of_some _ (k2 _ _ (k1 _ _ g1)),g2,g3⟩⟩
 ·intro h' tk hd' k'
  rw [List.drop_zero] at hd'
  refine ⟨rfl,h h' tk hd' fun b o q=>k' b o (Nat.ne_of_lt (Heap.lt_size q)) (Nat.ne_of_lt (Heap.lt_size (k2 _ _ (k1 _ _ q)))) (Heap.get?_push_of_some _ (k2 _ _ (k1 _ _ q)))⟩
end
theorem joi {K:Type} [DecidableEq K] {xs:List (K × Addr × Value)} {k:K} (h:k ∉ xs.map (·.1)):(atKey xs k).isSome = false:=by
 unfold atKey
 rw [Option.isSome_map]
 refine Bool.eq_false_iff.mpr fun z=>?_
 rw [List.find?_isSome] at z
 obtain ⟨x,hx,e⟩:=z
 exact h (by rw [<- of_decide_eq_true e]; exact List.mem_map_of_mem hx)
theorem jh1 {K:Type} [DecidableEq K]:∀ (more xs:List (K × Addr × Value)),((xs ++ more).map (·.1)).Nodup->jfj xs more = xs ++ more
 | [],xs,_=>by rw [jfj,List.append_nil]
 | q :: r,xs,h=>by
  have hq:q.1 ∉ xs.map (·.1):=by
   rw [List.map_append,List.nodup_append] at h
   intro z
   exact h.2.2 _ z _ (List.mem_map_of_mem (List.mem_cons_self ..)) rfl
  rw [jfj]
  have e:storedH xs q.1 q.2.1 q.2.2 = xs ++ [q]:=by
   unfold storedH
   rw [joi hq,if_neg Bool.false_ne_true]
  rw [e,jh1 r (xs ++ [q]) (by rw [List.append_assoc]; exact h),List.append_assoc]
  rfl
def jjt (H:Hp) (v:V) (p:List Key × V):Prop:=∃ t b,v = .ref t/\H t = some (.tup [.ref b,p.2])/\H b = some (.tup (p.1.map kV))
def rDictT:List V->Hp->VK->Prop:=fun vs H Q=>∃ l xs kvs,vs = [.ref l]/\H l = some (.lst xs)/\Paired (jjt H) xs kvs/\xs.length <= 1000/\(kvs.map (·.1)).Nodup/\∀ d,H d = none->Q (.ref d) (upd H d (.dT kvs))
theorem jgq {X:Cx} {pins:List (Addr × Obj)} {σ:St} {H:Hp} {s:Shared} (I:Inv X pins σ H s):∀ {xs:List V} {kvs:List (List Key × V)} {its:List Value},Paired (jjt H) xs kvs->Vals xs its ->
  ∃ more:List (List Key × Addr × Value),KT H kvs more/\∀ (j:Nat) (q:List Key × Addr × Value),more[j]? = some q->∃ t,its[j]? = some (.ref t)/\s.heap.IsTuple t #[.ref q.2.1,q.2.2]/\(TK X.prog X.w).is s.heap q.1 q.2.1
 | _,_,_,.nil,.nil=>⟨[],.nil,fun j q h=>by simp at h⟩
 | _,_,_,.cons hp tp,.cons rv tr=>by
  obtain ⟨more,hk,hm⟩:=jgq I tp tr
  obtain ⟨t,b,rfl,ht,hb⟩:=hp
  cases rv
  obtain ⟨_,its',rt,hi⟩:=I.hok t _ ht
  obtain ⟨u1,u2,rfl,r1,r2⟩:=rt.two
  cases (show u1 = Value.ref b from r1)
  refine ⟨(_,b,u2) :: more,.cons ⟨rfl,hb,r2⟩ hk,fun j q h=>?_⟩
  cases j with
  | zero =>
   have e:=(show some _ = some q from h)
   cases e
   exact ⟨t,rfl,hi,jh8 I.hok hb⟩
  | succ j =>
   obtain ⟨t2,a1,a2,a3⟩:=hm j q (by simpa using h)
   exact ⟨t2,by simpa using a1,a2,a3⟩
theorem jr1 {H:Hp}:∀ {kvs:List (List Key × V)} {xs:List (List Key × Addr × Value)},KT H kvs xs->kvs.map (·.1) = xs.map (·.1)
 | _,_,.nil=>rfl
 | _,_,.cons r t=>by rw [List.map_cons,List.map_cons,r.1,jr1 t]
theorem jog {X:Cx} (hc:X.calm = true) (hu:X.A.units + 64 < cLine):jde X (.type "dict") rDictT:=by
 intro pins s σ H vs us Q I rv h
 obtain ⟨l,xs,kvs,rfl,hl,hp,hz,hn,q⟩:=h
 obtain ⟨u,rfl,ru⟩:=rv.one
 cases ru
 obtain ⟨z,its,n,r,hlen,e⟩:=I.lstM hl
 obtain ⟨more,hkv,hm⟩:=jgq I hp r
 have hlm:kvs.length = more.length:=Paired.length hkv
 have hlx:xs.length = kvs.length:=Paired.length hp
 refine jhj (more:=more) (I.ok.hd hc) (show X.A.units + 1 + 1 < cLine by omega) e (by rw [List.size_toArray]; omega) (by rw [List.size_toArray]; omega) (fun j q hj=>?_) fun h' tk dd k=>?_
 ·obtain ⟨t,a1,a2,a3⟩:=hm j q hj
  exact ⟨t,by simpa using a1,a2,a3⟩
 ·rw [jh1 more [] (by rw [List.nil_append,<- jr1 hkv]; exact hn),List.nil_append] at dd
  obtain ⟨o,es,ep,h1,h2,h3,h4,_,h5⟩:=dd
  refine ⟨.ref s.heap.objs.size,upd H s.heap.objs.size (.dT kvs),I.laid k (Nat.le_refl _) (show jcv X.prog X.w _ _ _ (.dT kvs) from ⟨by have:=(by decide:1000 <= sizeLine); omega,by have:=I.big; exact beq_false_of_ne (Nat.ne_of_gt this),more,hkv.keeps fun b ys eb=>?_,o,es,ep,h1,h2,h3,h4,h5⟩),rfl,q _ I.fresh⟩
  rw [jb7 (jaj eb I.fresh)]
  exact eb
def leL:List Int->List Int->Bool
 | [],_=>true
 | _ :: _,[]=>false
 | x :: xs,y :: ys=>if x = y then leL xs ys else decide (x <= y)
theorem jq7 (x y:Int) (xs ys:List Int):leL (x :: xs) (y :: ys) = if x = y then leL xs ys else decide (x <= y):=rfl
section
open PySem.SeqAt
open PySem.AutoSeq1 (wpAny_loadPart')
open PySem.MeetsSeq PySem.MeetsSeq2 PySem.MeetsSeq3
end
section
variable {X:Cx} {a b c:Expr} {ta tb tc:TE} {pos:Pos}
end
end L2
namespace My
open PySem L2
section
variable {P:Program} {w:World} {K:PySem.W.Frag} {mg:Str->Option Value} {base:Heap} {c1 c2 c3 c4:Tok} {C_NoWeb fqf:Addr} {dI:FuncData}
def prO:Dt->Option (Int × Int)
 | .tup [.int x,.int y]=>some (x,y)
 | _=>none
def OPr (H:Hp) (x:V) (o:Option (Int × Int)):Prop:=∃ d,Rep H d x/\prO d = o
theorem jrj {d:Dt} {p:Int × Int} (h:prO d = some p):d = jee p:=by
 unfold prO at h
 split at h
 ·cases h; rfl
 ·cases h
theorem Pr.o {H:Hp} {x:V} {p:Int × Int} (h:Pr H x p):OPr H x (some p):=⟨jee p,h.rep,rfl⟩
def kdD:Dt->Kd
 | .non=>.non
 | .bl _=>.bl
 | .int _=>.int
 | .str _=>.str
 | .tup _=>.tup
 | .lst _=>.lst
theorem jp9 {H:Hp} {d:Dt} {x:V} (h:Rep H d x):L2.kd H x = some (kdD d):=by
 cases d with
 | non=>rw [Rep] at h; subst h; rfl
 | bl b=>rw [Rep] at h; subst h; rfl
 | int b=>rw [Rep] at h; subst h; rfl
 | str b=>rw [Rep] at h; subst h; rfl
 | tup ds=>rw [Rep] at h; obtain ⟨a,vs,rfl,e,_⟩:=h; unfold L2.kd; dsimp only; rw [e]; rfl
 | lst ds=>rw [Rep] at h; obtain ⟨a,vs,rfl,e,_⟩:=h; unfold L2.kd; dsimp only; rw [e]; rfl
def tupB (m:Int):Dt->Bool
 | .tup ds=>decide ((ds.length:Int) = m)
 | _=>false
def jsp:Sp:=fun vs H Q _=>∃ x d m,vs = [x,.int m]/\Rep H d x/\Q (.bl (tupB m d)) H
def jtq:Sp:=fun vs H Q _=>∃ x o,vs = [x]/\OPr H x o/\Q (.bl o.isSome) H
def trO:Dt->Option (Int × Int × Int)
 | .tup [.int x,.int y,.int z]=>some (x,y,z)
 | _=>none
def jgg (d:Int × Int × Int):Dt:=.tup [.int d.1,.int d.2.1,.int d.2.2]
theorem jr5 {d:Dt} {p:Int × Int × Int} (h:trO d = some p):d = jgg p:=by
 unfold trO at h
 split at h
 ·cases h; rfl
 ·cases h
def dueO (d:Dt):Option (Int × Int × Int):=match trO d with
 | some p=>if 1 <= p.2.2 then some p else none
 | none=>none
def jbx (ds:List (Int × Int × Int)) (n:Int):Int:=(ds.map fun d=>(if d.1 = n then d.2.2 else 0) + (if d.2.1 = n then d.2.2 else 0)).sum
theorem Tp.tups {H H':Hp} {v:V} {p:Int × Int × Int} (h:Tp H v p) (s:TupS H H'):Tp H' v p:=let ⟨a,e,q⟩:=h; ⟨a,e,s _ _ rfl q⟩
theorem jbz {H H':Hp} (s:TupS H H'):∀ {xs:List V} {ps:List (Int × Int × Int)},Tps H xs ps->Tps H' xs ps
 | _,_,.nil=>.nil
 | _,_,.cons r t=>.cons (Tp.tups r s) (jbz s t)
theorem jgx (B:Blt mg) (D:DefAt K mg "is_tuple_of" (top 8) ["thing","many"] f fd):FnOk P w K mg base CX0 1 f fd ["thing","many"] jsp:=by
 have sc:FnScope ["thing","many"] ["thing","many"] (jbe (top 8)):=by walk_at "SC"
 refine D.F.ok sc (fun vs H Q E h=>?_) (fun cdv A outer s H vs Q E hr h=>?_)
 ·obtain ⟨x,d,m,rfl,_⟩:=h
  rfl
 obtain ⟨x,d,m,rfl,hd,h⟩:=h
 have hk:=jp9 hd
 have hu:=jcc hr
 have hu0:_ < PySem.cLine:=Nat.lt_of_succ_lt hu
 refine ⟨_,(jb8 (jbu (jeu (jbp (jpe .tup) rfl B.isinstance PyProof.Rows.boot_isinstance (ja0 (qv 0) (ja0 (jgp (v:=.ty "tuple") rfl B.tuple PyProof.Rows.boot_tuple rfl) jah))) (jex (jd5 q_eq (jbp jfw rfl B.len PySem.boot_len (ja0 (qv 0) jah)) (qv 1) (jby _)))))),?_⟩
 cases d with
 | tup ds =>
  rw [Rep] at hd
  obtain ⟨a,vs,rfl,ea,r⟩:=hd
  simp_arith [kd,ea,jbm,isi]
  rw [r.len]
  exact h
 | non=>simp_arith [hk,isi,kdD]; exact h
 | bl b=>simp_arith [hk,isi,kdD]; exact h
 | int b=>simp_arith [hk,isi,kdD]; exact h
 | str b=>simp_arith [hk,isi,kdD]; exact h
 | lst b=>simp_arith [hk,isi,kdD]; exact h
theorem je2 (B:Blt mg) (D:DefAt K mg "is_pair_of_wholes" (top 9) ["thing"] f fd) (Dqb:DefAt K mg "is_tuple_of" (top 8) ["thing","many"] fqb dqb) (Gqb:FnOk P w K mg base CX0 1 fqb dqb ["thing","many"] jsp) (Dqd:DefAt K mg "is_whole" (top 7) ["thing"] fqd dqd) (Gqd:FnOk P w K mg base CX0 1 fqd dqd ["thing"] jll):FnOk P w K mg base CX0 2 f fd ["thing"] jtq:=by
 have sc:FnScope ["thing"] ["thing"] (jbe (top 9)):=by walk_at "SC"
 refine D.F.ok sc (fun vs H Q E h=>?_) (fun cdv A outer s H vs Q E hr h=>?_)
 ·obtain ⟨x,o,rfl,_⟩:=h
  rfl
 obtain ⟨x,o,rfl,ho,h⟩:=h
 obtain ⟨d,hd,rfl⟩:=ho
 have hu:=jcc hr
 have hu0:_ < PySem.cLine:=Nat.lt_of_succ_lt hu
 refine ⟨_,(jb8 (jbu (jeu (jbf Gqb (hr.mono (by decide)) rfl Dqb.m Dqb.F.kp Dqb.b .nil jbq (ja0 (qv 0) (ja0 jai jah))) (jeu (jbf Gqd (hr.mono (by decide)) rfl Dqd.m Dqd.F.kp Dqd.b .nil jbq (ja0 (jbj q_ix (qv 0) jai (fun _ _=>rfl)) jah)) (jex (jbf Gqd (hr.mono (by decide)) rfl Dqd.m Dqd.F.kp Dqd.b .nil jbq (ja0 (jbj q_ix (qv 0) jai (fun _ _=>rfl)) jah))))))),?_⟩
 walk_at "RD"
 refine ⟨_,d,2,rfl,hd,?_⟩
 cases d with
 | tup ds =>
  rw [Rep] at hd
  obtain ⟨a,vs,rfl,ea,r⟩:=hd
  match ds,r,h with
  | [],r,h =>
   rw [show tupB 2 (.tup []) = false from rfl]
   walk_at "RD"
   exact h
  | [d1],r,h =>
   have e2:prO (.tup [d1]) = none:=by cases d1 <;> rfl
   rw [e2] at h
   rw [show tupB 2 (.tup [d1]) = false from rfl]
   walk_at "RD"
   exact h
  | d1 :: d2 :: d3 :: ds,r,h =>
   have e:tupB 2 (.tup (d1 :: d2 :: d3 :: ds)) = false:=by
    unfold tupB
    refine decide_eq_false ?_
    rw [List.length_cons,List.length_cons,List.length_cons]
    omega
   have e2:prO (.tup (d1 :: d2 :: d3 :: ds)) = none:=by cases d1 <;> cases d2 <;> rfl
   rw [e2] at h
   rw [e]
   walk_at "RD"
   exact h
  | [d1,d2],r,h =>
   rw [Reps] at r
   obtain ⟨v1,r1,rfl,e1,r⟩:=r
   rw [Reps] at r
   obtain ⟨v2,r2,rfl,e2,r⟩:=r
   rw [Reps] at r
   subst r
   rw [show tupB 2 (.tup [d1,d2]) = true from rfl]
   simp_arith [jbm,ea,at0,at1]
   refine ⟨_,kdD d1,rfl,jp9 e1,?_⟩
   cases d1 with
   | int i =>
    simp_arith [kdD,jk1,jbm,ea,at0,at1]
    refine ⟨_,kdD d2,rfl,jp9 e2,?_⟩
    cases d2 <;> exact h
   | _=>simp_arith [kdD,jk1]; exact h
 | _=>simp_arith [tupB]; exact h
def mkT (ts:List (Int × Int)):List (List Key × V):=ts.map fun t=>([Sum.inl t.1,Sum.inl t.2],V.bl true)
def jtr:Sp:=fun vs H Q _=>∃ u zs ts,vs = [.ref u]/\H u = some (.lst zs)/\Prs H zs ts/\ts.Nodup/\ts.length <= 120/\∀ d H',H d = none->Same H H'->H' d = some (.dT (mkT ts))->Q (.ref d) H'
theorem jjt.tups {H H':Hp} {v:V} {p:List Key × V} (h:jjt H v p) (s:TupS H H'):jjt H' v p:=let ⟨t,b,e,q,r⟩:=h; ⟨t,b,e,s _ _ rfl q,s _ _ rfl r⟩
theorem jel {H H':Hp} (s:TupS H H'):∀ {xs:List V} {ps:List (List Key × V)},Paired (jjt H) xs ps->Paired (jjt H') xs ps
 | _,_,.nil=>.nil
 | _,_,.cons r t=>.cons (jjt.tups r s) (jel s t)
theorem jpu (B:Blt mg) (D:DefAt K mg "marked" (top 11) ["places"] f fd):FnOk P w K mg base CX0 1 f fd ["places"] jtr:=by
 have sc:FnScope ["places"] ["places"] (jbe (top 11)):=by walk_at "SC"
 refine D.F.ok sc (fun vs H Q E h=>?_) (fun cdv A outer s H vs Q E hr h=>?_)
 ·obtain ⟨u,zs,ts,rfl,_⟩:=h
  rfl
 obtain ⟨u,zs,ts,rfl,eu,pz,nd,h120,h⟩:=h
 have hlz:zs.length = ts.length:=Paired.length pz
 have hu:=jcc hr
 have hu0:_ < PySem.cLine:=Nat.lt_of_succ_lt hu
 refine ⟨_,(jb8 (jbu (jd1 (jog rfl hr.units) rfl B.dict PyProof.Rows.boot_dict (ja0 (jc7 (CpScope.of (N:=["place"]) (src:=[none]) (by rfl)) rfl (jbt (qv 0)) (fun _ _ _ _=>(jb9 (i:=0) (jba (l:=["place"]) (by rfl)) rfl (Or.inl rfl))) (fun _ _ _ _=>jch) (fun _ _ _ _=>(jc9 (ja0 (qv 0) (ja0 jj4 jah))))) jah)))),?_⟩
 walk_at "RD"
 refine jbh (Itl K u) H (fun R hR=>?_) (fun l hl0=>jbn ts.length (fun i σ' Hc=>∃ w1 vs,σ' = [w1]/\Same H Hc/\Hc l = some (.lst vs)/\Paired (jjt Hc) vs (mkT (ts.take i))) ⟨none,[],rfl,jag hl0 _,ja1,.nil⟩ ?_ ?_)
 ·unfold jck
  walk_at "RD"
  exact ⟨u,rfl,⟨_,SqL.of eu⟩,hR⟩
 ·rintro i σ' Hc hi ⟨w1,vs,rfl,s2,ev,pv⟩
  have z1:SqL K Hc u zs:=SqL.of (s2 _ _ eu)
  have x1:zs[i]? = some (zs[i]'(by omega)):=gE _
  refine ⟨⟨_,_,z1,x1⟩,?_⟩
  rintro y H' ⟨rfl,hy⟩
  obtain ⟨q,hq,pq⟩:=jbd pz (hy _ z1)
  obtain ⟨b,rfl,hb⟩:=pq.same s2
  have hvl:vs.length <= 120:=by
   have:=Paired.length pv
   unfold mkT at this
   rw [List.length_map,List.length_take] at this
   omega
  walk_at "RD"
  intro t ht
  have q3:=jag ht (.tup [.ref b,.bl true])
  have ett:upd H' t (.tup [.ref b,.bl true]) t = some (.tup [.ref b,.bl true]):=ja1
  have ev2:=q3 _ _ ev
  have hb2:=q3 _ _ hb
  generalize upd H' t (.tup [.ref b,.bl true]) = H3 at q3 ett ev2 hb2
  have t6:=jbv (ys:=vs ++ [.ref t]) ev2
  refine ⟨vs,ev2,szl' (by omega),_,vs ++ [.ref t],rfl,jbi (s2.trans q3) hl0,(by first | rfl | exact ja1),?_⟩
  have em:mkT (ts.take (i + 1)) = mkT (ts.take i) ++ [([Sum.inl q.1,Sum.inl q.2],V.bl true)]:=by
   unfold mkT
   rw [jbr hq,List.map_append]
   rfl
  rw [em]
  exact jbk (jel t6 (jel q3.tups pv)) ⟨t,b,rfl,t6 _ _ rfl ett,t6 _ _ rfl hb2⟩
 ·rintro σ' Hc ⟨w1,vs,rfl,s2,ev,pv⟩
  refine ⟨⟨_,SqL.of (s2 _ _ eu),by omega⟩,?_⟩
  rw [List.take_length] at pv
  have hvl:vs.length <= 120:=by
   have:=Paired.length pv
   unfold mkT at this
   rw [List.length_map] at this
   omega
  refine ⟨l,vs,mkT ts,rfl,ev,pv,by omega,?_,fun d hd=>h d _ (s2.free hd) (s2.trans (jag hd _)) ja1⟩
  unfold mkT
  rw [List.map_map]
  unfold List.Nodup at nd ⊢
  rw [List.pairwise_map]
  refine nd.imp fun {x y} hne e=>hne ?_
  have e:([Sum.inl x.1,Sum.inl x.2]:List Key) = [Sum.inl y.1,Sum.inl y.2]:=e
  injection e with e1 e2
  injection e2 with e2 _
  exact Prod.ext (Sum.inl.inj e1) (Sum.inl.inj e2)
def jjm (ts:List (Int × Int)):Int × Int->List Dt->Option (List (Int × Int × Int))
 | _,[]=>some []
 | q,d :: r=>match dueO d with
  | some p=>if (p.1,p.2.1) ∈ ts/\leL [p.1,p.2.1] [q.1,q.2] = false then (jjm ts (p.1,p.2.1) r).map (p :: ·) else none
  | none=>none
def jua (ps:List (Int × Int)) (qs:List (Int × Int × Int)):Bool:=ps.all fun p=>decide (jbx qs p.1 <= 2 * p.2)
theorem jg9 {a b c d:Int} (h:HT.lexLt [a,b] [c,d] = true):a < c \/ (a = c/\b < d):=by
 rw [HT.lexLt_cons] at h
 by_cases e:a = c
 ·rw [if_pos e,HT.lexLt_cons] at h
  by_cases e2:b = d
  ·rw [if_pos e2] at h
   cases h
  ·rw [if_neg e2] at h
   exact .inr ⟨e,of_decide_eq_true h⟩
 ·rw [if_neg e] at h
  exact .inl (of_decide_eq_true h)
theorem jft {a b c d:Int} (h:a < c):HT.lexLt [a,b] [c,d] = true:=by
 rw [HT.lexLt_cons,if_neg (by omega)]
 exact decide_eq_true h
theorem jng {a b d:Int} (h:b < d):HT.lexLt [a,b] [a,d] = true:=by
 rw [HT.lexLt_cons,if_pos rfl,HT.lexLt_cons,if_neg (by omega)]
 exact decide_eq_true h
theorem jq3 {a b c d e f:Int} (h:HT.lexLt [a,b] [c,d] = true) (g:HT.lexLt [c,d] [e,f] = true):HT.lexLt [a,b] [e,f] = true:=by
 have h:=jg9 h
 have g:=jg9 g
 by_cases c:a < e
 ·exact jft c
 ·have:a = e:=by omega
  subst this
  exact jng (by omega)
theorem TiOk.lt {kvs:List (Key × V)}:∀ {ts:List (Int × Int)} {q:Int × Int},TiOk kvs q ts->∀ p ∈ ts,HT.lexLt [q.1,q.2] [p.1,p.2] = true
 | [],_,_,_,h=>by cases h
 | u :: r,q,h,p,hp=>by
  rcases List.mem_cons.mp hp with e | hp
  ·rw [e]; exact h.1.1
  ·exact jq3 h.1.1 (TiOk.lt h.2 p hp)
def halO:List (Int × Int)->List Dt->Option (List (Int × Int))
 | [],[]=>some []
 | p :: ps,d :: ds=>match prO d with
  | some h=>if h.1 = p.1/\0 <= h.2/\h.2 <= 2 then (halO ps ds).map (h :: ·) else none
  | none=>none
 | _,_=>none
def hOf (hs:List (Int × Int)) (n:Int):Int:=match valV (jco hs) (Sum.inl n:Key) with
 | some (.int i)=>i
 | _=>0
def jtm (ts hs:List (Int × Int)):Bool:=ts.all fun t=>decide (hOf hs t.1 + hOf hs t.2 ≥ 2)
theorem jql {hs:List (Int × Int)} {n:Int} (hn:(hs.map (·.1)).Nodup) (h:n ∈ hs.map (·.1)):valV (jco hs) (Sum.inl n:Key) = some (.int (hOf hs n)):=by
 obtain ⟨p,hp,rfl⟩:=List.mem_map.mp h
 have e:=jei hn hp
 unfold hOf
 rw [e]
theorem TiOk.in {kvs:List (Key × V)}:∀ {ts:List (Int × Int)} {q:Int × Int},TiOk kvs q ts->∀ p ∈ ts,p.1 < p.2/\hasK kvs p.1 = true/\hasK kvs p.2 = true
 | [],_,_,_,h=>by cases h
 | u :: r,q,h,p,hp=>by
  rcases List.mem_cons.mp hp with e | hp
  ·rw [e]; exact h.1.2
  ·exact TiOk.in h.2 p hp
theorem jmd:∀ {ps:List (Int × Int)} {n:Int},hasK (jco ps) n = true->n ∈ ps.map (·.1)
 | [],_,h=>by cases h
 | p :: r,n,h=>by
  by_cases c:p.1 = n
  ·rw [<- c]; exact List.mem_cons_self
  ·refine List.mem_cons_of_mem _ (jmd ?_)
   unfold hasK jco valV at h
   rw [List.map_cons,List.find?_cons] at h
   dsimp only at h
   rw [decide_eq_false (fun z=>c (Sum.inl.inj z))] at h
   exact h
def jqv (ps hs:List (Int × Int)):Int:=(hs.map fun h=>hOf ps h.1 * h.2).sum
theorem jf3:∀ {ps:List (Int × Int)} {ds:List Dt} {hs:List (Int × Int)},halO ps ds = some hs->ds = hs.map jee/\hs.map (·.1) = ps.map (·.1)/\∀ h ∈ hs,0 <= h.2/\h.2 <= 2
 | [],[],hs,h=>by cases h; exact ⟨rfl,rfl,fun _ z=>by cases z⟩
 | [],_ :: _,_,h=>by cases h
 | _ :: _,[],_,h=>by cases h
 | p :: ps,d :: ds,hs,h=>by
  rw [halO] at h
  split at h
  ·rename_i k hk
   split at h
   ·rename_i c
    cases e:halO ps ds with
    | none=>rw [e] at h; cases h
    | some r =>
     rw [e] at h
     cases h
     obtain ⟨i1,i2,i3⟩:=jf3 e
     refine ⟨by rw [List.map_cons,<- i1,jrj hk],by rw [List.map_cons,List.map_cons,i2,c.1],fun z hz=>?_⟩
     rcases List.mem_cons.mp hz with e | hz
     ·rw [e]; exact c.2
     ·exact i3 z hz
   ·cases h
  ·cases h
theorem jl3 {d:Dt} {p:Int × Int × Int} (hdu:dueO d = some p):d = jgg p/\1 <= p.2.2:=by
 unfold dueO at hdu
 split at hdu
 ·rename_i p' e
  split at hdu
  ·rename_i c; cases hdu; exact ⟨jr5 e,c⟩
  ·cases hdu
 ·cases hdu
theorem ji8 {ts:List (Int × Int)}:∀ {ds:List Dt} {q:Int × Int} {qs:List (Int × Int × Int)},jjm ts q ds = some qs->ds = qs.map jgg/\∀ d ∈ qs,(d.1,d.2.1) ∈ ts/\1 <= d.2.2
 | [],_,qs,h=>by cases h; exact ⟨rfl,fun _ z=>by cases z⟩
 | d :: ds,q,qs,h=>by
  rw [jjm] at h
  split at h
  ·rename_i k hk
   split at h
   ·rename_i c
    cases e:jjm ts (k.1,k.2.1) ds with
    | none=>rw [e] at h; cases h
    | some r =>
     rw [e] at h
     cases h
     obtain ⟨i1,i3⟩:=ji8 e
     refine ⟨by rw [List.map_cons,<- i1,(jl3 hk).1],fun z hz=>?_⟩
     rcases List.mem_cons.mp hz with e | hz
     ·rw [e]; exact ⟨c.1,(jl3 hk).2⟩
     ·exact i3 z hz
   ·cases h
  ·cases h
def pap2 (ps ts:List (Int × Int)) (a b:Dt):Bool:=match a,b with
 | .lst as,.lst bs=>match halO ps as,jjm ts (-1,-1) bs with
  | some hs,some qs=>jtm ts hs && (jua ps qs && decide ((qs.map (·.2.2)).sum = jqv ps hs))
  | _,_=>false
 | _,_=>false
def jpq (ps ts:List (Int × Int)):Dt->Bool
 | .tup [a,b]=>pap2 ps ts a b
 | _=>false
theorem jhy {ps ts:List (Int × Int)} {a b:Dt}:jpq ps ts (.tup [a,b]) = pap2 ps ts a b:=rfl
theorem jhg:∀ (ps:List (Int × Int)),jdw (ps.map jee) <= 1
 | []=>by rw [List.map_nil,jdw]; omega
 | p :: r=>by
  rw [List.map_cons,jdw]
  have:=jhg r
  have e:depP (jee p) = 1:=rfl
  omega
theorem jo2 (B:Blt mg) (D:DefAt K mg "_law_own" (top 32) ["_law_web_here"] f fd):FnOk P w K mg base CX0 1 f fd ["_law_web_here"] jsw:=by
 have sc:FnScope ["_law_web_here"] ["_law_web_here"] (jbe (top 32)):=by walk_at "SC"
 refine D.F.ok sc (fun vs H Q E h=>?_) (fun cdv A outer s H vs Q E hr h=>?_)
 ·obtain ⟨v,ps,ts,rfl,_⟩:=h
  rfl
 obtain ⟨v,ps,ts,rfl,hw,h⟩:=h
 obtain ⟨u,pa,ta,xs,ys,rfl,eu,ep,et,pp,pt⟩:=id hw
 have hu:=jcc hr
 have hu0:_ < PySem.cLine:=Nat.lt_of_succ_lt hu
 refine ⟨_,(jb8 (jbu (jc9 (ja0 (jd1 jn3 rfl B.list PyProof.Rows.boot_list (ja0 (jbj q_ix (qv 0) jai (fun _ _=>rfl)) jah)) (ja0 (jd1 jn3 rfl B.list PyProof.Rows.boot_list (ja0 (jbj q_ix (qv 0) jai (fun _ _=>rfl)) jah)) jah))))),?_⟩
 simp_arith [jbm,eu,ep,at0,at1]
 intro l1 h1
 have s1:Same H (upd H l1 (.lst xs)):=jag h1 _
 simp_arith [jbm,s1 _ _ eu,s1 _ _ et,at0,at1]
 intro l2 h2
 have s2:Same H (upd (upd H l1 (.lst xs)) l2 (.lst ys)):=s1.trans (jag h2 _)
 intro t h3
 have s3:Same (upd (upd H l1 (.lst xs)) l2 (.lst ys)) (upd (upd (upd H l1 (.lst xs)) l2 (.lst ys)) t (.tup [.ref l1,.ref l2])):=jag h3 _
 refine h _ _ (s2.trans s3) ⟨l1,l2,xs,ys,h1,s1.free h2,jaj ja1 h2,ja1,s3 _ _ (jag h2 _ _ _ ja1),s3 _ _ ja1,Prs.same (s2.trans s3) pp,Prs.same (s2.trans s3) pt⟩
end
end My
namespace L2
open PySem PySem.Spec PyProof.Rows
section
variable {prog:Program} {w:World} {A:Around} {R:Result->Shared->Prop} {I:Addr} {fp wr:List Addr} {n:Nat} {P:Nat->Value->Prop} {St:Nat->Heap->Prop}
def jle (val:Nat->Int) (n:Nat) (m:Int):Prop:=(∃ i,i < n/\m = val i)/\∀ i,i < n->m <= val i
theorem jle.up {val:Nat->Int} {j:Nat} {m:Int} (h:jle val j m) (hb:val j < m):jle val (j + 1) (val j) :=
 ⟨⟨j,Nat.lt_succ_self _,rfl⟩,fun i hi=>by
  rcases Nat.lt_succ_iff_lt_or_eq.mp hi with z | z
  ·have:=h.2 i z; omega
  ·rw [z]; exact Int.le_refl _⟩
theorem jle.keep {val:Nat->Int} {j:Nat} {m:Int} (h:jle val j m) (hb:¬ val j < m):jle val (j + 1) m :=
 ⟨let ⟨i,hi,e⟩:=h.1; ⟨i,Nat.lt_succ_of_lt hi,e⟩,fun i hi=>by
  rcases Nat.lt_succ_iff_lt_or_eq.mp hi with z | z
  ·exact h.2 i z
  ·rw [z]; omega⟩
theorem jg7:(toString "min" ++ toString ".loop":String) = "min.loop":=by decide
theorem jm7 (W:Walks prog w A.in1 I fp wr n P St) (val:Nat->Int) (hval:∀ i v,P i v->∃ t:Tok,v = Value.int (val i) t) (kw:List (Str × Value)) (S:Addr) (hSf:S ∉ fp) :
  ∀ (k j:Nat) (s:Shared) (m:Int) (t:Tok) (c:Nat),n - j = k->j <= n->St j s.heap->jle val j m ->
  s.heap.get? S = some { cls:=.type "list",dict:=none,data:=.seq #[.int m t,.int m t] c,slots:=#[] } ->
  (∀ m' t' h' tk,jle val n m'->(∀ b o,b ∉ wr->b ≠ S->s.heap.get? b = some o->h'.get? b = some o)->R (.ok (.ret (.int m' t'))) { s with heap:=h',toks:=tk }) ->
  codeAny (model prog w) A (.builtin "min.loop" ⟨[.ref I,.none,.ref S],kw⟩) R s:=by
 have hSw:S ∉ wr:=fun z=>hSf (W.sub _ z)
 intro k
 induction k with
 | zero =>
  intro j s m t c hk hj hst hb hS hR
  have hin:j = n:=by omega
  subst hin
  refine codeAny_builtin PySem.F.entry_min_loop ?_
  rw [Around.under_plainId PySem.F.plain_min_loop _]
  show wpAny _ A.in1 (seqItems? (.ref S) >>= _) _ _ s
  refine wpAny_bind (wpAny_seqItems hS rfl ?_)
  show wpAny _ A.in1 (tryCatch (pyNext (.ref I)) _ >>= _) _ _ s
  refine wpAny_bind (wpAny_tryCatch (W.done s _ _ hst fun h' tk kp=>?_))
  have hS':=kp S _ hSw hS
  show wpAny _ A.in1 (updateSeq S (fun _=>#[]) >>= _) _ _ _
  refine wpAny_bind ?_
  refine wpAny_updateSeq hS' rfl (wpAny_bind (wpAny_letGo (wpAny_pure ?_)))
  exact hR m t _ tk hb fun b o hbw hbS e=>(Heap.get?_update_other _ _ (Ne.symm hbS)).trans (kp b o hbw e)
 | succ k ih =>
  intro j s m t c hk hj hst hb hS hR
  have hlt:j < n:=by omega
  refine codeAny_builtin PySem.F.entry_min_loop ?_
  rw [Around.under_plainId PySem.F.plain_min_loop _]
  show wpAny _ A.in1 (seqItems? (.ref S) >>= _) _ _ s
  refine wpAny_bind (wpAny_seqItems hS rfl ?_)
  show wpAny _ A.in1 (tryCatch (pyNext (.ref I)) _ >>= _) _ _ s
  refine wpAny_bind (wpAny_tryCatch (W.item j s _ _ hlt hst fun v h' tk hP hst' kp=>?_))
  obtain ⟨t',rfl⟩:=hval j v hP
  have hS':=kp S _ hSw hS
  show wpAny _ A.in1 (tryCatch (holding [.int (val j) t',.int (val j) t'] (richCompare .Lt (.int (val j) t') (.int m t) >>= _)) _ >>= _) _ _ _
  refine wpAny_bind (wpAny_tryCatch (wpAny_holding (wpAny_bind (lt_int ?_))))
  refine wpAny_bind (wpAny_holding (wpAny_truthy_bool ?_))
  refine wpAny_bind (wpAny_letGo (wpAny_pure ?_))
  by_cases hc:val j < m
  ·rw [decide_eq_true (show val j < m from hc)]
   simp only [if_true]
   refine wpAny_bind ?_
   refine wpAny_updateSeq hS' rfl (wpAny_bind (wpAny_letGo ?_))
   rw [jg7]
   refine wpAny_pure ⟨plainId_quiet PySem.F.plain_min_loop _,ih (j + 1) _ (val j) t' _ (by omega) hlt (W.frame _ _ _ hst' fun b hbf o e=>?_) (hb.up hc) (Heap.get?_update_self _ hS' rfl) fun m' u h'' tk'' hB k''=>?_⟩
   ·exact (Heap.get?_update_other _ _ (fun z:S = b=>hSf (by rw [z]; exact hbf))).trans e
   ·exact hR m' u h'' tk'' hB fun b o hbw hbS e=>k'' b o hbw hbS ((Heap.get?_update_other _ _ (Ne.symm hbS)).trans (kp b o hbw e))
  ·rw [decide_eq_false (show ¬ val j < m from hc)]
   simp only [Bool.false_eq_true,if_false]
   refine wpAny_bind (wpAny_letGo ?_)
   rw [jg7]
   refine wpAny_pure ⟨plainId_quiet PySem.F.plain_min_loop _,ih (j + 1) _ m t c (by omega) hlt hst' (hb.keep hc) hS' fun m' u h'' tk'' hB k''=>?_⟩
   exact hR m' u h'' tk'' hB fun b o hbw hbS e=>k'' b o hbw hbS (kp b o hbw e)
end
section
variable {X:Cx}
end
end L2
namespace My
open PySem L2
section
variable {P:Program} {w:World} {K:PySem.W.Frag} {mg:Str->Option Value} {base:Heap} {c1 c2 c3 c4:Tok} {C_NoWeb fqf:Addr} {dI:FuncData}
theorem jnj {ps:List (Int × Int)} {p:Int × Int} (nd:(ps.map (·.1)).Nodup) (h:p ∈ ps):hOf ps p.1 = p.2:=by
 unfold hOf
 rw [jei nd h]
def jce:List Int->List Int->List (Int × Int)
 | n :: ns,c :: cs=>if 0 < c then (n,c) :: jce ns cs else jce ns cs
 | _,_=>[]
def jcn:List Int->List Int->List Int->List (Int × Int)
 | n :: ns,c :: cs,h :: hs=>if 0 < c then (n,h) :: jcn ns cs hs else jcn ns cs hs
 | _,_,_=>[]
theorem ji4:∀ {ns cs:List Int},ns.length = cs.length->∀ (n c:Int),jce (ns ++ [n]) (cs ++ [c]) = jce ns cs ++ (if 0 < c then [(n,c)] else [])
 | [],[],_,n,c=>by
  show jce [n] [c] = _
  rw [jce]
  split <;> rfl
 | a :: ns,b :: cs,h,n,c=>by
  have ih:=ji4 (ns:=ns) (cs:=cs) (by simpa using h) n c
  rw [List.cons_append,List.cons_append,jce,jce,ih]
  split <;> rfl
theorem ji5:∀ {ns cs hs:List Int},ns.length = cs.length->ns.length = hs.length->∀ (n c h:Int),jcn (ns ++ [n]) (cs ++ [c]) (hs ++ [h]) = jcn ns cs hs ++ (if 0 < c then [(n,h)] else [])
 | [],[],[],_,_,n,c,h=>by
  show jcn [n] [c] [h] = _
  rw [jcn]
  split <;> rfl
 | a :: ns,b :: cs,e :: hs,h1,h2,n,c,h=>by
  have ih:=ji5 (ns:=ns) (cs:=cs) (hs:=hs) (by simpa using h1) (by simpa using h2) n c h
  rw [List.cons_append,List.cons_append,List.cons_append,jcn,jcn,ih]
  split <;> rfl
theorem jf1:∀ {ns cs hs:List Int},ns.length = cs.length->ns.length = hs.length->(∀ h ∈ hs,0 <= h/\h <= 2)->halO (jce ns cs) ((jcn ns cs hs).map jee) = some (jcn ns cs hs)
 | [],[],[],_,_,_=>rfl
 | n :: ns,c :: cs,h :: hs,h1,h2,hb=>by
  have ih:=jf1 (ns:=ns) (cs:=cs) (hs:=hs) (by simpa using h1) (by simpa using h2) (fun x hx=>hb x (List.mem_cons_of_mem _ hx))
  rw [jce,jcn]
  split
  ·rw [List.map_cons,halO,show prO (jee (n,h)) = some (n,h) from rfl]
   dsimp only
   rw [if_pos ⟨rfl,hb h (List.mem_cons_self ..)⟩,ih]
   rfl
  ·exact ih
theorem jf2:∀ {ns cs:List Int},(jce ns cs).map (·.1) |>.Sublist ns
 | [],_=>by rw [jce]; exact List.Sublist.slnil; all_goals (intros; simp_all)
 | n :: ns,[]=>by rw [jce]; exact List.nil_sublist _; all_goals (intros; simp_all)
 | n :: ns,c :: cs=>by
  rw [jce]
  split
  ·rw [List.map_cons]; exact (jf2 (ns:=ns) (cs:=cs)).cons₂ _
  ·exact (jf2 (ns:=ns) (cs:=cs)).cons _
theorem jha {f:Int->Int}:∀ {ns cs hs:List Int},ns.length = cs.length->ns.length = hs.length->(∀ c ∈ cs,0 <= c)->(∀ p ∈ jce ns cs,f p.1 = p.2)->((jcn ns cs hs).map fun h=>f h.1 * h.2).sum = ((cs.zip hs).map fun q=>q.1 * q.2).sum
 | [],[],[],_,_,_,_=>rfl
 | n :: ns,c :: cs,h :: hs,h1,h2,hc,hf=>by
  rw [jce] at hf
  rw [jcn,List.zip_cons_cons,List.map_cons,List.sum_cons]
  by_cases c0:0 < c
  ·rw [if_pos c0] at hf ⊢
   have ih:=jha (f:=f) (ns:=ns) (cs:=cs) (hs:=hs) (by simpa using h1) (by simpa using h2) (fun x hx=>hc x (List.mem_cons_of_mem _ hx)) (fun p hp=>hf p (List.mem_cons_of_mem _ hp))
   have e1:f n = c:=hf (n,c) (List.mem_cons_self ..)
   rw [List.map_cons,List.sum_cons,ih,e1]
  ·rw [if_neg c0] at hf ⊢
   have ih:=jha (f:=f) (ns:=ns) (cs:=cs) (hs:=hs) (by simpa using h1) (by simpa using h2) (fun x hx=>hc x (List.mem_cons_of_mem _ hx)) hf
   have:=hc c (List.mem_cons_self ..)
   have:c = 0:=by omega
   rw [ih,this]
   simp
def nth (xs:List Int) (k:Int):Int:=(xs[k.toNat]?).getD 0
theorem jdr {xs:List Int} {k:Int} (h0:0 <= k) (h1:k < xs.length):atI (xs.map V.int) k = some (.int (nth xs k)):=by
 have hk:k.toNat < xs.length:=by omega
 have e:atI (xs.map V.int) ((k.toNat:Nat):Int) = some (.int xs[k.toNat]):=jdd (by rw [List.getElem?_map,gE hk]; rfl)
 rw [show ((k.toNat:Nat):Int) = k by omega] at e
 rw [e]
 unfold nth
 rw [gE hk]
 rfl
theorem jt7 {n:Nat} {k:Int} (h0:0 <= k) (h1:k < n):ixN n k = some k.toNat:=by
 unfold ixN
 rw [if_pos h0,if_pos h1]
theorem jlz {xs:List Int} {k i v:Int} (h0:0 <= k) (h1:k < xs.length) (hi:0 <= i):nth (xs.set k.toNat v) i = if k = i then v else nth xs i:=by
 unfold nth
 rw [List.getElem?_set]
 by_cases c:k = i
 ·subst c
  have:k.toNat < xs.length:=by omega
  simp [this]
 ·have:¬ k.toNat = i.toNat:=by omega
  rw [if_neg this,if_neg c]
def sumN (n:Nat) (g:Int->Int):Int:=((List.range n).map fun (k:Nat)=>g (k:Int)).sum
theorem jcj (n:Nat) (g:Int->Int):sumN (n + 1) g = sumN n g + g (n:Int):=by
 unfold sumN
 rw [List.range_succ,List.map_append,List.sum_append]
 simp
theorem jim (g h:Int->Int):∀ n:Nat,sumN n (fun k=>g k + h k) = sumN n g + sumN n h
 | 0=>rfl
 | n + 1=>by
  rw [jcj,jcj,jcj,jim g h n]
  omega
theorem jg3 (g:Int->Int) (a:Int):∀ n:Nat,sumN n (fun k=>g k * a) = sumN n g * a
 | 0=>by simp [sumN]
 | n + 1=>by
  rw [jcj,jcj,jg3 g a n,Int.add_mul]
theorem jdm {g h:Int->Int}:∀ {n:Nat},(∀ k:Int,0 <= k->k < n->g k = h k)->sumN n g = sumN n h
 | 0,_=>rfl
 | n + 1,e=>by
  rw [jcj,jcj,jdm (n:=n) (fun k k0 k1=>e k k0 (by omega)),e n (by omega) (by omega)]
theorem jk8 {g:Int->Int} {i d:Int}:∀ {n:Nat},¬ (0 <= i/\i < n)->sumN n (fun k=>g k * (if i = k then d else 0)) = 0
 | 0,_=>rfl
 | n + 1,h=>by
  rw [jcj,jk8 (n:=n) (fun z=>h (by omega)),if_neg (fun z=>h (by omega))]
  simp
theorem jil {g:Int->Int} {i d:Int}:∀ {n:Nat},0 <= i->i < n->sumN n (fun k=>g k * (if i = k then d else 0)) = g i * d
 | 0,h0,h1=>by omega
 | n + 1,h0,h1=>by
  rw [jcj]
  by_cases c:i = (n:Int)
  ·rw [if_pos c,jk8 (by omega),c]
   simp
  ·rw [if_neg c,jil (n:=n) h0 (by omega)]
   simp
theorem jms {h:Int->Int} {n:Nat}:∀ {raw:List (Int × Int × Int)},(∀ r ∈ raw,0 <= r.1/\r.1 < r.2.1/\r.2.1 < n)->sumN n (fun k=>h k * jbx raw k) = (raw.map fun r=>(h r.1 + h r.2.1) * r.2.2).sum
 | [],_=>by
  have:sumN n (fun k=>h k * jbx [] k) = sumN n fun _=>0 * 0:=jdm fun k _ _=>by simp [jbx]
  rw [this,jg3]
  simp
 | r :: raw,hx=>by
  have hr:=hx r (List.mem_cons_self ..)
  have ih:=jms (h:=h) (raw:=raw) (fun q hq=>hx q (List.mem_cons_of_mem _ hq))
  have e:sumN n (fun k=>h k * jbx (r :: raw) k) = sumN n fun k=>(h k * (if r.1 = k then r.2.2 else 0) + h k * (if r.2.1 = k then r.2.2 else 0)) + h k * jbx raw k:=jdm fun k _ _=>by
   unfold jbx
   rw [List.map_cons,List.sum_cons,Int.mul_add,Int.mul_add]
  rw [e,jim,jim,jil hr.1 (by omega),jil (by omega) hr.2.2,ih,List.map_cons,List.sum_cons,Int.add_mul]
theorem jhu (g:Int->Int):∀ n:Nat,sumN (n + 1) g = g 0 + sumN n fun k=>g (k + 1)
 | 0=>by simp [sumN]
 | n + 1=>by
  rw [jcj,jhu g n,jcj]
  simp only [Int.natCast_add]
  rw [Int.add_assoc]
  rfl
theorem je3 (c:Int) (cs:List Int):nth (c :: cs) 0 = c:=rfl
theorem jct (c:Int) (cs:List Int) {k:Int} (h:0 <= k):nth (c :: cs) (k + 1) = nth cs k:=by
 unfold nth
 rw [show (k + 1).toNat = k.toNat + 1 by omega,List.getElem?_cons_succ]
theorem joj:∀ {cs hs:List Int},cs.length = hs.length->((cs.zip hs).map fun q=>q.1 * q.2).sum = sumN cs.length fun k=>nth cs k * nth hs k
 | [],[],_=>rfl
 | c :: cs,h :: hs,e=>by
  have ih:=joj (cs:=cs) (hs:=hs) (by simpa using e)
  rw [List.zip_cons_cons,List.map_cons,List.sum_cons,ih,List.length_cons,jhu,je3,je3]
  rw [jdm (n:=cs.length) (g:=fun k=>nth (c :: cs) (k + 1) * nth (h :: hs) (k + 1)) (h:=fun k=>nth cs k * nth hs k) fun k k0 _=>by rw [jct _ _ k0,jct _ _ k0]]
theorem jqt {hs cs:List Int} {raw:List (Int × Int × Int)} {tw:Int} (hl:cs.length = hs.length) (ix:∀ r ∈ raw,0 <= r.1/\r.1 < r.2.1/\r.2.1 < hs.length) (due:∀ r ∈ raw,r.2.2 = 0 \/ nth hs r.1 + nth hs r.2.1 = 2)
  (pr:∀ k:Int,0 <= k->k < hs.length->nth hs k = 0 \/ 2 * nth cs k = jbx raw k * tw):((cs.zip hs).map fun q=>q.1 * q.2).sum = (raw.map fun r=>r.2.2 * tw).sum:=by
 rw [joj hl,hl]
 have e1:sumN hs.length (fun k=>nth cs k * nth hs k * 2) = sumN hs.length fun k=>nth hs k * jbx raw k * tw:=jdm fun k k0 k1=>by
  rcases pr k k0 k1 with z | z
  ·rw [z]; simp
  ·rw [Int.mul_assoc (nth hs k),<- z,Int.mul_comm (nth cs k),Int.mul_assoc,Int.mul_comm (nth cs k) 2]
 rw [jg3,jg3,jms ix] at e1
 have e2:∀ {raw:List (Int × Int × Int)},(∀ r ∈ raw,r.2.2 = 0 \/ nth hs r.1 + nth hs r.2.1 = 2)->(raw.map fun r=>(nth hs r.1 + nth hs r.2.1) * r.2.2).sum * tw = (raw.map fun r=>r.2.2 * tw).sum * 2:=by
  intro raw
  induction raw with
  | nil=>intro _; simp
  | cons r raw ih =>
   intro hd
   have i:=ih fun q hq=>hd q (List.mem_cons_of_mem _ hq)
   rw [List.map_cons,List.sum_cons,List.map_cons,List.sum_cons]
   have e3:(nth hs r.1 + nth hs r.2.1) * r.2.2 * tw = r.2.2 * tw * 2:=by
    rcases hd r (List.mem_cons_self ..) with z | z
    ·rw [z]; simp
    ·rw [z,Int.mul_assoc,Int.mul_comm]
   rw [Int.add_mul ((nth hs r.1 + nth hs r.2.1) * r.2.2),e3,i,<- Int.add_mul]
 rw [e2 due] at e1
 omega
theorem jm0 {ns:List Int} (hp:ns.Pairwise (· < ·)) {k j:Int} (k0:0 <= k) (k1:k < ns.length) (j0:0 <= j) (j1:j < ns.length) (e:nth ns k = nth ns j):k = j:=by
 have a1:k.toNat < ns.length:=by omega
 have a2:j.toNat < ns.length:=by omega
 unfold nth at e
 rw [gE a1,gE a2] at e
 have e':ns[k.toNat] = ns[j.toNat]:=e
 rcases Nat.lt_trichotomy k.toNat j.toNat with z | z | z
 ·have:=List.pairwise_iff_getElem.mp hp _ _ a1 a2 z
  omega
 ·omega
 ·have:=List.pairwise_iff_getElem.mp hp _ _ a2 a1 z
  omega
theorem jgy {hs:List Int} {k:Int} (h0:0 <= k) (h1:k < hs.length):nth hs k ∈ hs:=by
 have a:k.toNat < hs.length:=by omega
 unfold nth
 rw [gE a]
 exact List.getElem_mem a
def jcg (ns:List Int) (tw:Int) (raw:List (Int × Int × Int)):List (Int × Int × Int):=(raw.filter fun r=>decide (r.2.2 > 0)).map fun r=>(nth ns r.1,nth ns r.2.1,r.2.2 * tw)
theorem jkk {ns:List Int} (hp:ns.Pairwise (· < ·)) {tw:Int} {i:Int} (i0:0 <= i) (i1:i < ns.length):∀ {raw:List (Int × Int × Int)},(∀ r ∈ raw,0 <= r.1/\r.1 < r.2.1/\r.2.1 < ns.length)->(∀ r ∈ raw,0 <= r.2.2)->jbx (jcg ns tw raw) (nth ns i) = jbx raw i * tw
 | [],_,_=>by simp [jcg,jbx,jbx]
 | r :: raw,hx,hz=>by
  have ih:=jkk hp (tw:=tw) i0 i1 (raw:=raw) (fun q hq=>hx q (List.mem_cons_of_mem _ hq)) (fun q hq=>hz q (List.mem_cons_of_mem _ hq))
  have hr:=hx r (List.mem_cons_self ..)
  have hr0:=hz r (List.mem_cons_self ..)
  have c1:(nth ns r.1 = nth ns i) = (r.1 = i):=propext ⟨fun e=>jm0 hp hr.1 (by omega) i0 i1 e,fun e=>by rw [e]⟩
  have c2:(nth ns r.2.1 = nth ns i) = (r.2.1 = i):=propext ⟨fun e=>jm0 hp (by omega) hr.2.2 i0 i1 e,fun e=>by rw [e]⟩
  have e1:jbx (r :: raw) i = (if r.1 = i then r.2.2 else 0) + (if r.2.1 = i then r.2.2 else 0) + jbx raw i:=by
   unfold jbx
   rw [List.map_cons,List.sum_cons]
  by_cases c:r.2.2 > 0
  ·have e2:jcg ns tw (r :: raw) = (nth ns r.1,nth ns r.2.1,r.2.2 * tw) :: jcg ns tw raw:=by
    unfold jcg
    rw [List.filter_cons,if_pos (decide_eq_true c),List.map_cons]
   rw [e2,e1]
   unfold jbx at ih ⊢
   rw [List.map_cons,List.sum_cons,ih]
   simp only [c1,c2]
   rw [Int.add_mul,Int.add_mul]
   split <;> split <;> simp
  ·have e2:jcg ns tw (r :: raw) = jcg ns tw raw:=by
    unfold jcg
    rw [List.filter_cons,if_neg (by simpa using c)]
   have r0:r.2.2 = 0:=by omega
   rw [e2,ih,e1,r0]
   simp
theorem jpy {ns:List Int} (hp:ns.Pairwise (· < ·)) {k j:Int} (k0:0 <= k) (kj:k < j) (j1:j < ns.length):nth ns k < nth ns j:=by
 have a1:k.toNat < ns.length:=by omega
 have a2:j.toNat < ns.length:=by omega
 unfold nth
 rw [gE a1,gE a2]
 exact List.pairwise_iff_getElem.mp hp _ _ a1 a2 (by omega)
abbrev Lx (a b:Int × Int):Prop:=HT.lexLt [a.1,a.2] [b.1,b.2] = true
theorem jt3 {ns:List Int} (hp:ns.Pairwise (· < ·)) {a b:Int × Int} (a0:0 <= a.1/\a.1 < a.2/\a.2 < ns.length) (b0:0 <= b.1/\b.1 < b.2/\b.2 < ns.length) (h:Lx a b):Lx (nth ns a.1,nth ns a.2) (nth ns b.1,nth ns b.2):=by
 rcases jg9 h with z | ⟨z1,z2⟩
 ·exact jft (jpy hp a0.1 z (by omega))
 ·unfold Lx
  dsimp only
  rw [z1]
  exact jng (jpy hp (by omega) z2 b0.2.2)
theorem leL_no {a b:Int × Int} (h:Lx a b):leL [b.1,b.2] [a.1,a.2] = false:=by
 rcases jg9 h with z | ⟨z1,z2⟩
 ·rw [jq7,if_neg (by omega)]
  exact decide_eq_false (by omega)
 ·rw [jq7,if_pos z1.symm,jq7,if_neg (by omega)]
  exact decide_eq_false (by omega)
theorem jgh {kvs:List (Key × V)}:∀ {ts:List (Int × Int)} {q:Int × Int},ts.Pairwise Lx->(∀ t ∈ ts,Lx q t)->(∀ t ∈ ts,t.1 < t.2/\hasK kvs t.1 = true/\hasK kvs t.2 = true)->TiOk kvs q ts
 | [],_,_,_,_=>trivial
 | t :: r,q,h1,h2,h3=>by
  rw [List.pairwise_cons] at h1
  exact ⟨⟨h2 t (List.mem_cons_self ..),h3 t (List.mem_cons_self ..)⟩,jgh h1.2 h1.1 fun x hx=>h3 x (List.mem_cons_of_mem _ hx)⟩
theorem jnk {ts:List (Int × Int)}:∀ {ds:List (Int × Int × Int)} {q:Int × Int},ds.Pairwise (fun a b=>Lx (a.1,a.2.1) (b.1,b.2.1))->(∀ d ∈ ds,Lx q (d.1,d.2.1))->(∀ d ∈ ds,(d.1,d.2.1) ∈ ts/\1 <= d.2.2)->jjm ts q (ds.map jgg) = some ds
 | [],_,_,_,_=>rfl
 | d :: r,q,h1,h2,h3=>by
  rw [List.pairwise_cons] at h1
  have hd:=h3 d (List.mem_cons_self ..)
  rw [List.map_cons,jjm,show dueO (jgg d) = if 1 <= d.2.2 then some d else none from rfl,if_pos hd.2]
  dsimp only
  rw [if_pos ⟨hd.1,leL_no (a:=q) (b:=(d.1,d.2.1)) (h2 d (List.mem_cons_self ..))⟩,jnk h1.2 h1.1 fun x hx=>h3 x (List.mem_cons_of_mem _ hx)]
  rfl
theorem jmt {ns:List Int} {tw:Int}:∀ {raw:List (Int × Int × Int)},(∀ r ∈ raw,0 <= r.2.2)->((jcg ns tw raw).map (·.2.2)).sum = (raw.map fun r=>r.2.2 * tw).sum
 | [],_=>rfl
 | r :: raw,h=>by
  have ih:=jmt (ns:=ns) (tw:=tw) (raw:=raw) fun q hq=>h q (List.mem_cons_of_mem _ hq)
  have h0:=h r (List.mem_cons_self ..)
  unfold jcg at ih ⊢
  rw [List.filter_cons,List.map_cons,List.sum_cons]
  by_cases c:r.2.2 > 0
  ·rw [if_pos (decide_eq_true c),List.map_cons,List.map_cons,List.sum_cons,ih]
  ·rw [if_neg (by simpa using c),ih,show r.2.2 = 0 by omega]
   simp
theorem jhb:∀ {ns cs:List Int} {p:Int × Int},ns.length = cs.length->p ∈ jce ns cs->∃ k:Int,0 <= k/\k < cs.length/\p = (nth ns k,nth cs k)/\0 < nth cs k
 | [],[],p,_,h=>by cases h
 | n :: ns,c :: cs,p,e,h=>by
  have sub:p ∈ jce ns cs->∃ k:Int,0 <= k/\k < (c :: cs).length/\p = (nth (n :: ns) k,nth (c :: cs) k)/\0 < nth (c :: cs) k:=fun hp=>by
   obtain ⟨k,k0,k1,e1,e2⟩:=jhb (by simpa using e) hp
   exact ⟨k + 1,by omega,by rw [List.length_cons]; omega,by rw [jct _ _ k0,jct _ _ k0]; exact e1,by rw [jct _ _ k0]; exact e2⟩
  rw [jce] at h
  split at h
  ·rename_i c0
   rcases List.mem_cons.mp h with z | z
   ·exact ⟨0,by omega,by rw [List.length_cons]; omega,by rw [je3,je3]; exact z,by rw [je3]; exact c0⟩
   ·exact sub z
  ·exact sub h
theorem jjf:∀ {ns cs:List Int},ns.length = cs.length->∀ {k:Nat},k < cs.length->0 < nth cs k->(nth ns k,nth cs k) ∈ jce ns cs
 | [],[],_,k,h,_=>by cases h
 | n :: ns,c :: cs,e,0,_,h=>by
  have h:0 < c:=h
  rw [jce,if_pos h]
  exact List.mem_cons_self ..
 | n :: ns,c :: cs,e,k + 1,h1,h2=>by
  have k0:(0:Int) <= (k:Int):=by omega
  have e1:((k + 1:Nat):Int) = (k:Int) + 1:=by omega
  rw [e1,jct _ _ k0] at h2
  rw [e1,jct _ _ k0,jct _ _ k0]
  have ih:=jjf (ns:=ns) (cs:=cs) (by simpa using e) (k:=k) (by simpa using h1) h2
  rw [jce]
  split
  ·exact List.mem_cons_of_mem _ ih
  ·exact ih
theorem jni:∀ {ns cs hs:List Int},ns.length = cs.length->ns.length = hs.length->∀ {k:Nat},k < cs.length->0 < nth cs k->(nth ns k,nth hs k) ∈ jcn ns cs hs
 | [],[],[],_,_,k,h,_=>by cases h
 | n :: ns,c :: cs,g :: hs,e,_,0,_,h=>by
  have h:0 < c:=h
  rw [jcn,if_pos h]
  exact List.mem_cons_self ..
 | n :: ns,c :: cs,g :: hs,e,f,k + 1,h1,h2=>by
  have k0:(0:Int) <= (k:Int):=by omega
  have e1:((k + 1:Nat):Int) = (k:Int) + 1:=by omega
  rw [e1,jct _ _ k0] at h2
  rw [e1,jct _ _ k0,jct _ _ k0]
  have ih:=jni (ns:=ns) (cs:=cs) (hs:=hs) (by simpa using e) (by simpa using f) (k:=k) (by simpa using h1) h2
  rw [jcn]
  split
  ·exact List.mem_cons_of_mem _ ih
  ·exact ih
theorem jh9:∀ {ns cs:List Int} {l s:Int},ns.length = cs.length->ns.Pairwise (· < ·)->(∀ n ∈ ns,l < n/\n <= 999)->(∀ c ∈ cs,0 <= c)->s + cs.sum <= 1000000000000->PlOk l s (jce ns cs)
 | [],[],_,_,_,_,_,_,_=>trivial
 | n :: ns,c :: cs,l,s,e,hp,hn,hc,hs=>by
  rw [List.pairwise_cons] at hp
  have h0:=hn n (List.mem_cons_self ..)
  have h1:=hc c (List.mem_cons_self ..)
  have hc':∀ c ∈ cs,0 <= c:=fun x hx=>hc x (List.mem_cons_of_mem _ hx)
  rw [List.sum_cons] at hs
  have pos:∀ {xs:List Int},(∀ c ∈ xs,0 <= c)->0 <= xs.sum:=by
   intro xs
   induction xs with
   | nil=>intro _; exact Int.le_refl _
   | cons a r ih =>
    intro h
    have:=ih fun x hx=>h x (List.mem_cons_of_mem _ hx)
    have:=h a (List.mem_cons_self ..)
    rw [List.sum_cons]; omega
  have p0:=pos hc'
  rw [jce]
  split
  ·rename_i c0
   exact ⟨⟨h0.1,h0.2,by show 1 <= c; omega,by show c <= 1000000000000 - s; omega⟩,jh9 (by simpa using e) hp.2 (fun x hx=>⟨hp.1 x hx,(hn x (List.mem_cons_of_mem _ hx)).2⟩) hc' (by show s + c + _ <= _; omega)⟩
  ·exact jh9 (by simpa using e) hp.2 (fun x hx=>hn x (List.mem_cons_of_mem _ hx)) hc' (by omega)
def jcz (ns cs:List Int) (raw:List (Int × Int × Int)):List (Int × Int):=(raw.filter fun r=>decide (0 < nth cs r.1) && decide (0 < nth cs r.2.1)).map fun r=>(nth ns r.1,nth ns r.2.1)
structure Laid (hs ns cs:List Int) (raw:List (Int × Int × Int)) (tw:Int):Prop where
 nl:ns.length = hs.length
 cl:cs.length = hs.length
 hl:hs.length <= 9
 hb:∀ h ∈ hs,0 <= h/\h <= 2
 rise:ns.Pairwise (· < ·)
 nb:∀ n ∈ ns,-1 < n/\n <= 999
 ix:∀ r ∈ raw,0 <= r.1/\r.1 < r.2.1/\r.2.1 < hs.length
 len:raw.length <= 81
 up:raw.Pairwise fun a b=>Lx (a.1,a.2.1) (b.1,b.2.1)
 pos:∀ r ∈ raw,0 <= r.2.2
 two:∀ r ∈ raw,2 <= nth hs r.1 + nth hs r.2.1
 due:∀ r ∈ raw,0 < r.2.2->nth hs r.1 + nth hs r.2.1 = 2
 tw1:1 <= tw
 even:∀ k:Int,0 <= k->k < hs.length->0 < nth hs k->(jbx raw k * tw) % 2 = 0
 some':∀ k:Int,0 <= k->k < hs.length->¬ nth hs k = 0->nth cs k = jbx raw k * tw / 2
 none':∀ k:Int,0 <= k->k < hs.length->nth hs k = 0->1 <= nth cs k/\jbx raw k * tw <= 2 * nth cs k
 cpos:∀ c ∈ cs,0 <= c
 cap:cs.sum <= 1000000000000
theorem jpr {raw:List (Int × Int × Int)} (h:∀ r ∈ raw,0 <= r.2.2) (k:Int):0 <= jbx raw k:=by
 induction raw with
 | nil=>exact Int.le_refl _
 | cons a t ih =>
  have i:=ih fun x hx=>h x (List.mem_cons_of_mem _ hx)
  have h0:=h a (List.mem_cons_self ..)
  unfold jbx at i ⊢
  rw [List.map_cons,List.sum_cons]
  split <;> split <;> omega
theorem ju9 {raw:List (Int × Int × Int)} (h:∀ r ∈ raw,0 <= r.2.2) {r:Int × Int × Int} (hr:r ∈ raw) {k:Int} (hk:r.1 = k \/ r.2.1 = k):r.2.2 <= jbx raw k:=by
 induction raw with
 | nil=>cases hr
 | cons a t ih =>
  have h0:=h a (List.mem_cons_self ..)
  have ht:∀ r ∈ t,0 <= r.2.2:=fun x hx=>h x (List.mem_cons_of_mem _ hx)
  have nn:=jpr ht k
  have e:jbx (a :: t) k = (if a.1 = k then a.2.2 else 0) + (if a.2.1 = k then a.2.2 else 0) + jbx t k:=by
   unfold jbx
   rw [List.map_cons,List.sum_cons]
  rw [e]
  rcases List.mem_cons.mp hr with z | z
  ·subst z
   rcases hk with q | q
   ·rw [if_pos q]; split <;> omega
   ·rw [if_pos q]; split <;> omega
  ·have i:=ih ht z
   split <;> split <;> omega
section
variable {hs ns cs:List Int} {raw:List (Int × Int × Int)} {tw:Int}
theorem Laid.plok (L:Laid hs ns cs raw tw):PlOk (-1) 0 (jce ns cs):=jh9 (by rw [L.nl,L.cl]) L.rise L.nb L.cpos (by have:=L.cap; omega)
theorem Laid.kin (L:Laid hs ns cs raw tw) {k:Int} (k0:0 <= k) (k1:k < hs.length) (hc:0 < nth cs k):(nth ns k,nth cs k) ∈ jce ns cs:=by
 have e:((k.toNat:Nat):Int) = k:=by omega
 have:=jjf (ns:=ns) (cs:=cs) (by rw [L.nl,L.cl]) (k:=k.toNat) (by rw [L.cl]; omega) (by rw [e]; exact hc)
 rw [e] at this
 exact this
theorem Laid.web (L:Laid hs ns cs raw tw):WebOk (jce ns cs) (jcz ns cs raw):=by
 have hl:=L.hl
 have nl:=L.nl
 refine ⟨?_,L.plok,?_,?_⟩
 ·have:=(jf2 (ns:=ns) (cs:=cs)).length_le
  rw [List.length_map] at this
  omega
 ·unfold jcz
  rw [List.length_map]
  have:=List.length_filter_le (fun r:Int × Int × Int=>decide (0 < nth cs r.1) && decide (0 < nth cs r.2.1)) raw
  have:=L.len
  omega
 ·unfold jcz
  refine jgh ?_ ?_ ?_
  ·rw [List.pairwise_map]
   refine (L.up.filter _).imp_of_mem fun {a b} ha hb h=>?_
   have i1:=L.ix a (List.mem_filter.mp ha).1
   have i2:=L.ix b (List.mem_filter.mp hb).1
   exact jt3 L.rise (a:=(a.1,a.2.1)) (b:=(b.1,b.2.1)) ⟨i1.1,i1.2.1,by show a.2.1 < _; omega⟩ ⟨i2.1,i2.2.1,by show b.2.1 < _; omega⟩ h
  ·intro t ht
   obtain ⟨r,hr,rfl⟩:=List.mem_map.mp ht
   have i1:=L.ix r (List.mem_filter.mp hr).1
   exact jft (L.nb _ (jgy i1.1 (by omega))).1
  ·intro t ht
   obtain ⟨r,hr,rfl⟩:=List.mem_map.mp ht
   obtain ⟨hr1,hr2⟩:=List.mem_filter.mp hr
   have i1:=L.ix r hr1
   have c:=(Bool.and_eq_true _ _).mp hr2
   exact ⟨jpy L.rise i1.1 i1.2.1 (by omega),jfl (p:=(nth ns r.1,nth cs r.1)) L.plok.nodup (L.kin i1.1 (by omega) (of_decide_eq_true c.1)),jfl (p:=(nth ns r.2.1,nth cs r.2.1)) L.plok.nodup (L.kin (by omega) i1.2.2 (of_decide_eq_true c.2))⟩
theorem Laid.cpos' (L:Laid hs ns cs raw tw) {r:Int × Int × Int} (hr:r ∈ raw) (h0:0 < r.2.2) {k:Int} (hk:r.1 = k \/ r.2.1 = k):0 < nth cs k:=by
 have i1:=L.ix r hr
 have g:=ju9 L.pos hr hk
 have kr:0 <= k/\k < hs.length:=by rcases hk with z | z <;> omega
 by_cases c:nth hs k = 0
 ·have:=(L.none' k kr.1 kr.2 c).1
  omega
 ·have hb:=L.hb _ (jgy kr.1 kr.2)
  have e:=L.even k kr.1 kr.2 (by omega)
  rw [L.some' k kr.1 kr.2 c]
  have:0 < jbx raw k * tw:=Int.mul_pos (by omega) (by have:=L.tw1; omega)
  omega
theorem Laid.half (L:Laid hs ns cs raw tw) {k:Int} (k0:0 <= k) (k1:k < hs.length) (hc:0 < nth cs k):hOf (jcn ns cs hs) (nth ns k) = nth hs k:=by
 have ho:=jf1 (ns:=ns) (cs:=cs) (hs:=hs) (by rw [L.nl,L.cl]) L.nl L.hb
 have nd:((jcn ns cs hs).map (·.1)).Nodup:=by rw [(jf3 ho).2.1]; exact L.plok.nodup
 have e:((k.toNat:Nat):Int) = k:=by omega
 have:=jni (ns:=ns) (cs:=cs) (hs:=hs) (by rw [L.nl,L.cl]) L.nl (k:=k.toNat) (by rw [L.cl]; omega) (by rw [e]; exact hc)
 rw [e] at this
 exact jnj nd this
theorem Laid.stands (L:Laid hs ns cs raw tw):jpq (jce ns cs) (jcz ns cs raw) (.tup [.lst ((jcn ns cs hs).map jee),.lst ((jcg ns tw raw).map jgg)]) = true:=by
 have hl:=L.hl
 have nl:=L.nl
 have ho:=jf1 (ns:=ns) (cs:=cs) (hs:=hs) (by rw [L.nl,L.cl]) L.nl L.hb
 have hix:∀ r ∈ raw,0 <= r.1/\r.1 < r.2.1/\r.2.1 < ns.length:=fun r hr=>by have:=L.ix r hr; omega
 have qo:jjm (jcz ns cs raw) (-1,-1) ((jcg ns tw raw).map jgg) = some (jcg ns tw raw):=by
  unfold jcg
  refine jnk ?_ ?_ ?_
  ·rw [List.pairwise_map]
   refine (L.up.filter _).imp_of_mem fun {a b} ha hb h=>?_
   exact jt3 L.rise (a:=(a.1,a.2.1)) (b:=(b.1,b.2.1)) (hix a (List.mem_filter.mp ha).1) (hix b (List.mem_filter.mp hb).1) h
  ·intro t ht
   obtain ⟨r,hr,rfl⟩:=List.mem_map.mp ht
   have i1:=hix r (List.mem_filter.mp hr).1
   exact jft (L.nb _ (jgy i1.1 (by omega))).1
  ·intro t ht
   obtain ⟨r,hr,rfl⟩:=List.mem_map.mp ht
   obtain ⟨hr1,hr2⟩:=List.mem_filter.mp hr
   have h0:0 < r.2.2:=of_decide_eq_true hr2
   refine ⟨?_,?_⟩
   ·unfold jcz
    refine List.mem_map.mpr ⟨r,List.mem_filter.mpr ⟨hr1,?_⟩,rfl⟩
    rw [decide_eq_true (L.cpos' hr1 h0 (.inl rfl)),decide_eq_true (L.cpos' hr1 h0 (.inr rfl))]
    rfl
   ·have:0 < r.2.2 * tw:=Int.mul_pos h0 (by have:=L.tw1; omega)
    show 1 <= r.2.2 * tw
    omega
 rw [jhy]
 unfold pap2
 dsimp only
 rw [ho,qo]
 dsimp only
 have e1:jtm (jcz ns cs raw) (jcn ns cs hs) = true:=by
  unfold jtm jcz
  refine List.all_eq_true.mpr fun t ht=>decide_eq_true ?_
  obtain ⟨r,hr,rfl⟩:=List.mem_map.mp ht
  obtain ⟨hr1,hr2⟩:=List.mem_filter.mp hr
  have i1:=L.ix r hr1
  have c:=(Bool.and_eq_true _ _).mp hr2
  dsimp only
  rw [L.half i1.1 (by omega) (of_decide_eq_true c.1),L.half (by omega) i1.2.2 (of_decide_eq_true c.2)]
  exact L.two r hr1
 have e2:jua (jce ns cs) (jcg ns tw raw) = true:=by
  unfold jua
  refine List.all_eq_true.mpr fun p hp=>decide_eq_true ?_
  obtain ⟨k,k0,k1,rfl,_⟩:=jhb (by rw [L.nl,L.cl]) hp
  have k2:k < hs.length:=by rw [<- L.cl]; exact k1
  dsimp only
  rw [jkk L.rise k0 (by omega) hix L.pos]
  by_cases c:nth hs k = 0
  ·exact (L.none' k k0 k2 c).2
  ·have hb:=L.hb _ (jgy k0 k2)
   have e:=L.even k k0 k2 (by omega)
   rw [L.some' k k0 k2 c]
   omega
 have e3:((jcg ns tw raw).map (·.2.2)).sum = jqv (jce ns cs) (jcn ns cs hs):=by
  unfold jqv
  rw [jha (f:=hOf (jce ns cs)) (by rw [L.nl,L.cl]) L.nl L.cpos (fun p hp=>jnj L.plok.nodup hp),jmt L.pos]
  refine (jqt L.cl L.ix (fun r hr=>?_) fun k k0 k1=>?_).symm
  ·by_cases c:r.2.2 = 0
   ·exact .inl c
   ·exact .inr (L.due r hr (by have:=L.pos r hr; omega))
  ·by_cases c:nth hs k = 0
   ·exact .inl c
   ·have hb:=L.hb _ (jgy k0 k1)
    have e:=L.even k k0 k1 (by omega)
    refine .inr ?_
    rw [L.some' k k0 k1 c]
    omega
 rw [e1,e2,decide_eq_true e3]
 rfl
end
theorem jnz (ds:List (Int × Int × Int)) (d:Int × Int × Int) (p:Int):jbx (ds ++ [d]) p = jbx ds p + (if d.1 = p then d.2.2 else 0) + (if d.2.1 = p then d.2.2 else 0):=by
 unfold jbx
 rw [List.map_append,List.sum_append]
 simp
 omega
structure RawOk (hs:List Int) (raw:List (Int × Int × Int)):Prop where
 ix:∀ r ∈ raw,0 <= r.1/\r.1 < r.2.1/\r.2.1 < hs.length
 pos:∀ r ∈ raw,0 <= r.2.2
 top:∀ r ∈ raw,r.2.2 <= 1000000000
 two:∀ r ∈ raw,2 <= nth hs r.1 + nth hs r.2.1
 due:∀ r ∈ raw,0 < r.2.2->nth hs r.1 + nth hs r.2.1 = 2
 up:raw.Pairwise fun a b=>Lx (a.1,a.2.1) (b.1,b.2.1)
 len:raw.length <= 81
 hl:hs.length <= 9
 hb:∀ h ∈ hs,0 <= h/\h <= 2
theorem ju8 {raw:List (Int × Int × Int)} (h:∀ r ∈ raw,r.1 < r.2.1/\0 <= r.2.2/\r.2.2 <= 1000000000) (k:Int):jbx raw k <= 1000000000 * raw.length:=by
 induction raw with
 | nil=>exact Int.le_refl _
 | cons a t ih =>
  have i:=ih fun x hx=>h x (List.mem_cons_of_mem _ hx)
  have h0:=h a (List.mem_cons_self ..)
  unfold jbx at i ⊢
  rw [List.map_cons,List.sum_cons,List.length_cons]
  split <;> split <;> omega
theorem RawOk.ple {hs:List Int} {raw:List (Int × Int × Int)} (R:RawOk hs raw) (k:Int):0 <= jbx raw k/\jbx raw k <= 81000000000:=by
 have a:=ju8 (raw:=raw) (fun r hr=>⟨(R.ix r hr).2.1,R.pos r hr,R.top r hr⟩) k
 have b:=R.len
 exact ⟨jpr R.pos k,by omega⟩
theorem jsf (ns:List Int) (tw:Int) (raw:List (Int × Int × Int)):(jcg ns tw raw).length <= raw.length:=by
 unfold jcg
 rw [List.length_map]
 exact List.length_filter_le _ _
theorem jqn {ns:List Int} {tw:Int} {raw:List (Int × Int × Int)} {i:Nat} {r:Int × Int × Int} (h:raw[i]? = some r):jcg ns tw (raw.take (i + 1)) = jcg ns tw (raw.take i) ++ if decide (r.2.2 > 0) = true then [(nth ns r.1,nth ns r.2.1,r.2.2 * tw)] else []:=by
 unfold jcg
 rw [jbr h,List.filter_append,List.map_append]
 congr 1
 rw [List.filter_cons]
 split <;> simp
theorem jru {xs:List Int} {n k:Int} (h0:0 <= k) (h1:k < xs.length):nth (xs ++ [n]) k = nth xs k:=by
 unfold nth
 rw [List.getElem?_append_left (by omega)]
theorem jrv {xs:List Int} {n:Int}:nth (xs ++ [n]) xs.length = n:=by
 unfold nth
 simp
def jdo (hs:List Int) (raw:List (Int × Int × Int)) (i:Nat):List Int:=((List.range i).filter fun (k:Nat)=>decide (nth hs (k:Int) > 0)).map fun (k:Nat)=>jbx raw (k:Int) % 2
theorem jpw (hs:List Int) (raw:List (Int × Int × Int)) (i:Nat):jdo hs raw (i + 1) = jdo hs raw i ++ if decide (nth hs i > 0) = true then [jbx raw i % 2] else []:=by
 unfold jdo
 rw [List.range_succ,List.filter_append,List.map_append]
 congr 1
 rw [List.filter_cons]
 split <;> simp
theorem jrs (hs:List Int) (raw:List (Int × Int × Int)) (i:Nat):(jdo hs raw i).length <= i:=by
 unfold jdo
 rw [List.length_map]
 exact Nat.le_trans (List.length_filter_le _ _) (by rw [List.length_range]; exact Nat.le_refl _)
theorem jpx {hs:List Int} {raw:List (Int × Int × Int)} {m:Int} (h1:jdo hs raw hs.length = []->m = 0) (h2:jdo hs raw hs.length ≠ []->m ∈ jdo hs raw hs.length) (h3:∀ x ∈ jdo hs raw hs.length,x <= m) :
  (0 <= m/\m <= 1)/\∀ k:Int,0 <= k->k < hs.length->0 < nth hs k->(jbx raw k * (1 + m)) % 2 = 0:=by
 have hb:0 <= m/\m <= 1:=by
  by_cases c:jdo hs raw hs.length = []
  ·have:=h1 c; omega
  ·obtain ⟨k,_,e⟩:=List.mem_map.mp (h2 c)
   have:=Int.emod_nonneg (jbx raw k) (show (2:Int) ≠ 0 by decide)
   have:=Int.emod_lt_of_pos (jbx raw k) (show (0:Int) < 2 by decide)
   omega
 refine ⟨hb,fun k k0 k1 hk=>?_⟩
 have hm:jbx raw k % 2 ∈ jdo hs raw hs.length:=by
  refine List.mem_map.mpr ⟨k.toNat,List.mem_filter.mpr ⟨List.mem_range.mpr (by omega),?_⟩,?_⟩
  ·rw [show ((k.toNat:Nat):Int) = k by omega]
   exact decide_eq_true hk
  ·rw [show ((k.toNat:Nat):Int) = k by omega]
 have h4:=h3 _ hm
 have:m = 0 \/ m = 1:=by omega
 rcases this with rfl | rfl
 ·rw [show (1:Int) + 0 = 1 from rfl,Int.mul_one]
  have:=Int.emod_nonneg (jbx raw k) (show (2:Int) ≠ 0 by decide)
  omega
 ·rw [show (1:Int) + 1 = 2 from rfl]
  omega
def Rw (H:Hp) (v:V) (r:Int × Int × Int):Prop:=∃ a,v = .ref a/\H a = some (.lst [.int r.1,.int r.2.1,.int r.2.2])
abbrev Rws (H:Hp):List V->List (Int × Int × Int)->Prop:=Paired (Rw H)
theorem Rws.same {H H':Hp} (s:Same H H') {xs:List V} {rs:List (Int × Int × Int)} (h:Rws H xs rs):Rws H' xs rs:=Paired.mapP h fun _ _ ⟨a,e,q⟩=>⟨a,e,s _ _ q⟩
theorem jt5 {H:Hp} {st a:Addr} {o:HO} {ns:List Int} (e:H st = some o) (so:StO o) (ea:H a = some (.lst (ns.map V.int))):a ≠ st:=fun z=>by
 rw [z,e] at ea
 obtain ⟨c,x,fl,rfl,_⟩:=so
 have:[V.int c,.int x,.bl fl] = ns.map V.int:=by injection ea with ea; injection ea
 match ns,this with
 | [a,b,d],h=>simp at h
theorem Rw.but {H H':Hp} {st:Addr} {o:HO} (e:H st = some o) (so:StO o) (b:But st H H') {v:V} {r:Int × Int × Int} (h:Rw H v r):Rw H' v r:=by
 obtain ⟨a,e1,q⟩:=h
 have q':H a = some (.lst ([r.1,r.2.1,r.2.2].map V.int)):=q
 exact ⟨a,e1,b _ _ (jt5 e so q') q⟩
theorem Rws.but {H H':Hp} {st:Addr} {o:HO} (e:H st = some o) (so:StO o) (b:But st H H') {xs:List V} {rs:List (Int × Int × Int)} (h:Rws H xs rs):Rws H' xs rs:=Paired.mapP h fun _ _ q=>q.but e so b
theorem jir {H:Hp}:∀ {xs:List V} {ps:List (Int × Int × Int)},Rws H xs ps->∀ v ∈ xs,∃ t,v = .ref t
 | _,_,.nil=>fun v h=>by cases h
 | _,_,.cons r t=>fun v h=>by
  rcases List.mem_cons.mp h with z | z
  ·obtain ⟨b,e,_⟩:=r; rw [z]; exact ⟨b,e⟩
  ·exact jir t v z
theorem jrt {zs:List Int} (h:∀ x ∈ zs,x = 0) (k:Int):nth zs k = 0:=by
 unfold nth
 cases e:zs[k.toNat]? with
 | none=>rfl
 | some v=>exact h v (List.mem_of_getElem? e)
theorem menu3 {a b c d:Int} (h0:0 <= d) (h1:d < 3):∃ v,atI [V.int a,.int b,.int c] d = some (.int v)/\(v = a \/ v = b \/ v = c):=by
 have hd:d = 0 \/ d = 1 \/ d = 2:=by omega
 rcases hd with rfl | rfl | rfl
 ·exact ⟨a,at0,.inl rfl⟩
 ·exact ⟨b,at1,.inr (.inl rfl)⟩
 ·exact ⟨c,at2,.inr (.inr rfl)⟩
def PrOk (hs:List Int) (raw:List (Int × Int × Int)) (tw:Int) (i:Int) (c:Int):Prop:=(¬ nth hs i = 0->c = jbx raw i * tw / 2)/\(nth hs i = 0->1 <= c/\jbx raw i * tw <= 2 * c)/\0 <= c/\c <= 90000000000
structure PlC (hs:List Int) (raw:List (Int × Int × Int)) (tw:Int) (i:Nat) (ns cs:List Int):Prop where
 len:ns.length = i
 cl:cs.length = i
 rise:ns.Pairwise (· < ·)
 at':∀ k:Int,0 <= k->k < i->PrOk hs raw tw k (nth cs k)
def PlW (hs:List Int) (raw:List (Int × Int × Int)) (tw:Int) (i:Nat) (ns:List Int) (ps qs:List (Int × Int)):Prop:=∃ cs,PlC hs raw tw i ns cs/\ps = jce ns cs/\qs = jcn ns cs (hs.take i)
theorem jqc (ns cs:List Int):(jce ns cs).length <= ns.length:=by
 have:=(jf2 (ns:=ns) (cs:=cs)).length_le
 rw [List.length_map] at this
 exact this
theorem PlW.len {hs:List Int} {raw:List (Int × Int × Int)} {tw:Int} {i:Nat} {ns:List Int} {ps qs:List (Int × Int)} (h:PlW hs raw tw i ns ps qs):ns.length = i:=let ⟨_,c,_⟩:=h; c.len
theorem PlW.pl {hs:List Int} {raw:List (Int × Int × Int)} {tw:Int} {i:Nat} {ns:List Int} {ps qs:List (Int × Int)} (h:PlW hs raw tw i ns ps qs):ps.length <= i:=by
 obtain ⟨cs,c,rfl,_⟩:=h
 have:=jqc ns cs
 have:=c.len
 omega
theorem PlW.step' {hs:List Int} {raw:List (Int × Int × Int)} {tw:Int} {i:Nat} {ns:List Int} {ps qs:List (Int × Int)} (h:PlW hs raw tw i ns ps qs) (hi:i < hs.length) {n pr:Int} (hn:∀ x ∈ ns,x < n) (hp:PrOk hs raw tw i pr):PlW hs raw tw (i + 1) (ns ++ [n]) (ps ++ if 0 < pr then [(n,pr)] else []) (qs ++ if 0 < pr then [(n,nth hs i)] else []):=by
 obtain ⟨cs,c,rfl,rfl⟩:=h
 have e1:=c.len
 have e2:=c.cl
 have e3:hs[i]? = some (nth hs i):=by
  unfold nth
  rw [show ((i:Int)).toNat = i by omega,gE hi]
  rfl
 refine ⟨cs ++ [pr],⟨by rw [List.length_append,List.length_singleton,e1],by rw [List.length_append,List.length_singleton,e2],List.pairwise_append.mpr ⟨c.rise,List.pairwise_singleton _ _,fun a ha b hb=>by rw [List.mem_singleton.mp hb]; exact hn a ha⟩,fun k k0 k1=>?_⟩,?_,?_⟩
 ·by_cases z:k = (i:Int)
  ·have e4:nth (cs ++ [pr]) k = pr:=by rw [z,<- e2,jrv]
   rw [e4,z]; exact hp
  ·rw [jru k0 (by omega)]
   exact c.at' k k0 (by omega)
 ·rw [ji4 (by omega)]
 ·rw [jbr e3,ji5 (by omega) (by rw [List.length_take]; omega)]
theorem ne_st {H:Hp} {st a:Addr} {o:HO} {xs:List V} (e:H st = some o) (so:StO o) (ea:H a = some (.lst xs)) (hx:∀ v ∈ xs,∃ t,v = .ref t):a ≠ st:=fun z=>by
 rw [z,e] at ea
 obtain ⟨c,x,fl,rfl,_⟩:=so
 cases ea
 obtain ⟨t,e⟩:=hx (.int c) (List.mem_cons_self ..)
 cases e
theorem jfo {s p:Addr} {H H':Hp} {o:HO} (b:But s H H') (h:H p = none):But s H (upd H' p o):=fun x u nx q=>by rw [jb7 (jaj q h)]; exact b x u nx q
theorem But.same {s:Addr} {H H':Hp} (h:Same H H'):But s H H':=fun b o _ q=>h b o q
theorem RawOk.xle {hs:List Int} {raw:List (Int × Int × Int)} {tw:Int} (R:RawOk hs raw) (h:1 <= tw/\tw <= 2) (k:Int):0 <= jbx raw k * tw/\jbx raw k * tw <= 162000000000:=by
 have p:=R.ple k
 have t:tw = 1 \/ tw = 2:=by omega
 rcases t with rfl | rfl <;> omega
theorem PlC.mem {hs:List Int} {raw:List (Int × Int × Int)} {tw:Int} {i:Nat} {ns cs:List Int} (C:PlC hs raw tw i ns cs):∀ c ∈ cs,0 <= c/\c <= 90000000000:=fun c hc=>by
 obtain ⟨j,hj,rfl⟩:=List.mem_iff_getElem.mp hc
 have:=C.at' (j:Int) (by omega) (by have:=C.cl; omega)
 have e:nth cs (j:Int) = cs[j]:=by
  unfold nth
  rw [show ((j:Int)).toNat = j by omega,gE hj]
  rfl
 rw [e] at this
 exact this.2.2
theorem sum_le {b:Int}:∀ {cs:List Int},(∀ c ∈ cs,c <= b)->cs.sum <= b * cs.length
 | [],_=>by simp
 | c :: cs,h=>by
  have i:=sum_le (cs:=cs) fun x hx=>h x (List.mem_cons_of_mem _ hx)
  have:=h c (List.mem_cons_self ..)
  rw [List.sum_cons,List.length_cons,Int.natCast_add,Int.mul_add]
  omega
theorem js6 {hs ns cs:List Int} (nl:ns.length = hs.length) (cl:cs.length = hs.length) (hb:∀ h ∈ hs,0 <= h/\h <= 2) (rise:ns.Pairwise (· < ·)) {k:Int} (k0:0 <= k) (k1:k < hs.length):nth ns k ∈ (jcn ns cs hs).map (·.1) ↔ 0 < nth cs k:=by
 rw [(jf3 (jf1 (ns:=ns) (cs:=cs) (hs:=hs) (by omega) nl hb)).2.1]
 constructor
 ·intro h
  obtain ⟨p,hp,e⟩:=List.mem_map.mp h
  obtain ⟨j,j0,j1,rfl,j2⟩:=jhb (by omega) hp
  have:=jm0 rise k0 (by omega) j0 (by omega) e.symm
  rw [this]; exact j2
 ·intro h
  have e:((k.toNat:Nat):Int) = k:=by omega
  have:=jjf (ns:=ns) (cs:=cs) (by omega) (k:=k.toNat) (by omega) (by rw [e]; exact h)
  rw [e] at this
  exact List.mem_map.mpr ⟨_,this,rfl⟩
def jkc:Sp:=fun vs H Q _=>∃ (st ha ra:Addr) (o:HO) (hs:List Int) (rx:List V) (raw:List (Int × Int × Int)),vs = [.ref st,.ref ha,.ref ra]/\H st = some o/\StO o/\H ha = some (.lst (hs.map V.int))/\H ra = some (.lst rx)/\Rws H rx raw/\RawOk hs raw /\
 ∀ (t:Addr) (wv:V) (hl da:Addr) (hx dx:List V) (ns cs:List Int) (tw:Int) (H':Hp) (o':HO),But st H H'->H' st = some o'->StO o'->H' t = some (.tup [wv,.ref hl,.ref da])->jd3 H' wv (jce ns cs) (jcz ns cs raw)->H' hl = some (.lst hx)->Prs H' hx (jcn ns cs hs)->H' da = some (.lst dx)->Tps H' dx (jcg ns tw raw)->Laid hs ns cs raw tw->Q (.ref t) H'
theorem jj7 (B:Blt mg) (D:DefAt K mg "_law_priced" (top 37) ["_law_state","_law_hs","_law_raw"] f fd) (Dqa:DefAt K mg "_law_take" (top 34) ["_law_state","_law_many"] fqa dqa) (Gqa:FnOk P w K mg base CX0 1 fqa dqa ["_law_state","_law_many"] jkb):FnOk P w K mg base CX0 2 f fd ["_law_state","_law_hs","_law_raw"] jkc:=by
 have sc:FnScope ["_law_state","_law_hs","_law_raw","_law_paid","_law_k","_law_j","_law_due","_law_twice","_law_number","_law_names","_law_places_here","_law_halves","_law_price","_law_kept","_law_ties","_law_dues"] ["_law_state","_law_hs","_law_raw"] (jbe (top 37)):=by walk_at "SC"
 refine D.F.ok sc (fun vs H Q E h=>?_) (fun cdv A outer s H vs Q E hr h=>?_)
 ·obtain ⟨st,ha,ra,o,hs,rx,raw,rfl,_⟩:=h
  rfl
 obtain ⟨st,ha,ra,o,hs,rx,raw,rfl,es,so,eh,er,pr,R,h⟩:=h
 have hrx:rx.length = raw.length:=Paired.length pr
 have nha:=jt5 es so eh
 have nra:=ne_st es so er (jir pr)
 have hhl:=R.hl
 have hrl:=R.len
 have hu:=jcc hr
 have hu0:_ < PySem.cLine:=Nat.lt_of_succ_lt hu
 refine ⟨_,(jaf (jbg (i:=3) sc.nd rfl (Or.inr rfl) (jc7 (CpScope.of (N:=["_law_h"]) (src:=[none]) (by rfl)) rfl (jbt (qv 1)) (fun _ _ _ _=>(jb9 (i:=0) (jba (l:=["_law_h"]) (by rfl)) rfl (Or.inl rfl))) (fun _ _ _ _=>jch) (fun _ _ _ _=>jai))) (jaf (jcw PassesOwn.never rfl (jbt (qv 2)) (jpc (n:=3) rfl (jbb (jb9 (i:=4) sc.nd rfl (Or.inl rfl)) (jbb (jb9 (i:=5) sc.nd rfl (Or.inl rfl)) (jbb (jb9 (i:=6) sc.nd rfl (Or.inl rfl)) jbw)))) (jaf (jgo (jbo jcb (jbj q_ix (qv 3) (qv 4) (fun _ _=>rfl)) (qv 6)) (jhx (qv 3) (qv 4) jfr)) (jb8 (jgo (jbo jcb (jbj q_ix (qv 3) (qv 5) (fun _ _=>rfl)) (qv 6)) (jhx (qv 3) (qv 5) jfr))))) (jaf (jbg (i:=7) sc.nd rfl (Or.inr rfl) (jbo jcb jai (jpn (jqy rfl) rfl B.max PyProof.Rows.boot_max (ja0 (jc7 (CpScope.of (N:=["_law_k","_law_paid","_law_hs"]) (src:=[none,some 3,some 1]) (by rfl)) rfl (jd0 rfl B.range (ja0 (jbp jfw rfl B.len PySem.boot_len (ja0 (qv 1) jah)) jah)) (fun _ _ _ _=>(jb9 (i:=0) (jba (l:=["_law_k","_law_paid","_law_hs"]) (by rfl)) rfl (Or.inl rfl))) (fun _ _ _ _=>(jcs (jc0 q_gt (jbj q_ix (qv 2) (qv 0) (fun _ _=>rfl)) jai (jby _)))) (fun _ _ _ _=>(jbo jkh (jbj q_ix (qv 1) (qv 0) (fun _ _=>rfl)) jai))) jah) (ju3 jai pk_nil)))) (jaf (jbg (i:=8) sc.nd rfl (Or.inl rfl) (jpl jpd jai)) (jaf (jbg (i:=9) sc.nd rfl (Or.inr rfl) (jcf jah)) (jaf (jbg (i:=10) sc.nd rfl (Or.inl rfl) (jcf jah)) (jaf (jbg (i:=11) sc.nd rfl (Or.inl rfl) (jcf jah)) (jaf (jcw PassesOwn.never rfl (jd0 rfl B.range (ja0 (jbp jfw rfl B.len PySem.boot_len (ja0 (qv 1) jah)) jah)) (jb9 (i:=4) sc.nd rfl (Or.inl rfl)) (jaf (jbg (i:=8) sc.nd rfl (Or.inl rfl) (jbo jcb (jbo jcb (qv 8) jai) (jbf Gqa (hr.mono (by decide)) rfl Dqa.m Dqa.F.kp Dqa.b .nil jbq (ja0 (qv 0) (ja0 (jbj q_ix (jcf (ja0 jai (ja0 jai (ja0 jai jah)))) (jbf Gqa (hr.mono (by decide)) rfl Dqa.m Dqa.F.kp Dqa.b .nil jbq (ja0 (qv 0) (ja0 jai jah))) (fun _ _=>rfl)) jah))))) (jaf (jc6 (q_bm PySem.F.plainAttrs_list PySem.F.slot_list_append PySem.F.type_list_append jca (qv 9) (ja0 (qv 8) jah))) (jaf (jbg (i:=12) sc.nd rfl (Or.inl rfl) (jbo jn4 (jbo jff (jbj q_ix (qv 3) (qv 4) (fun _ _=>rfl)) (qv 7)) jai)) (jaf (jdf (jc0 q_eq (jbj q_ix (qv 1) (qv 4) (fun _ _=>rfl)) jai (jby _)) (jb8 (jbg (i:=12) sc.nd rfl (Or.inl rfl) (jbp (q_max rfl) rfl B.max PyProof.Rows.boot_max (ja0 jai (ja0 (jbo jcb (jbo jn4 (jbo jcb (jbo jff (jbj q_ix (qv 3) (qv 4) (fun _ _=>rfl)) (qv 7)) jai) jai) (jbf Gqa (hr.mono (by decide)) rfl Dqa.m Dqa.F.kp Dqa.b .nil jbq (ja0 (qv 0) (ja0 jai jah)))) jah))))) jc5) (jb8 (jdf (jc0 q_gt (qv 12) jai (jby _)) (jaf (jc6 (q_bm PySem.F.plainAttrs_list PySem.F.slot_list_append PySem.F.type_list_append jca (qv 10) (ja0 (jc9 (ja0 (qv 8) (ja0 (qv 12) jah))) jah))) (jb8 (jc6 (q_bm PySem.F.plainAttrs_list PySem.F.slot_list_append PySem.F.type_list_append jca (qv 11) (ja0 (jc9 (ja0 (qv 8) (ja0 (jbj q_ix (qv 1) (qv 4) (fun _ _=>rfl)) jah))) jah))))) jc5))))))) (jaf (jbg (i:=13) sc.nd rfl (Or.inr rfl) (jc7 (CpScope.of (N:=["_law_place","_law_h"]) (src:=[none,none]) (by rfl)) rfl (jbt (qv 11)) (fun _ _ _ _=>(jci (n:=2) rfl (jbb (jb9 (i:=0) (jba (l:=["_law_place","_law_h"]) (by rfl)) rfl (Or.inl rfl)) (jbb (jb9 (i:=1) (jba (l:=["_law_place","_law_h"]) (by rfl)) rfl (Or.inl rfl)) jbw)))) (fun _ _ _ _=>jch) (fun _ _ _ _=>(qv 0)))) (jaf (jdj (i:=14) sc.nd rfl (Or.inl rfl) (CpScope.of (N:=["_law_k","_law_j","_law_due","_law_names","_law_kept"]) (src:=[none,none,none,some 9,some 13]) (by rfl)) rfl (jbt (qv 2)) (fun _ _ _ _=>(jpc (n:=3) rfl (jbb (jb9 (i:=0) (jba (l:=["_law_k","_law_j","_law_due","_law_names","_law_kept"]) (by rfl)) rfl (Or.inl rfl)) (jbb (jb9 (i:=1) (jba (l:=["_law_k","_law_j","_law_due","_law_names","_law_kept"]) (by rfl)) rfl (Or.inl rfl)) (jbb (jb9 (i:=2) (jba (l:=["_law_k","_law_j","_law_due","_law_names","_law_kept"]) (by rfl)) rfl (Or.inl rfl)) jbw))))) (fun _ _ _ _=>(jcs (PW.pt (jhw (jc0 jlp (jbj q_ix (qv 3) (qv 0) (fun _ _=>rfl)) (qv 4) (by with_unfolding_all rfl)) (jfg (jc0 jlp (jbj q_ix (qv 3) (qv 1) (fun _ _=>rfl)) (qv 4) (by with_unfolding_all rfl))))))) (fun _ _ _ _=>(jc9 (ja0 (jbj q_ix (qv 3) (qv 0) (fun _ _=>rfl)) (ja0 (jbj q_ix (qv 3) (qv 1) (fun _ _=>rfl)) jah))))) (jaf (jdj (i:=15) sc.nd rfl (Or.inl rfl) (CpScope.of (N:=["_law_k","_law_j","_law_due","_law_names","_law_twice"]) (src:=[none,none,none,some 9,some 7]) (by rfl)) rfl (jbt (qv 2)) (fun _ _ _ _=>(jpc (n:=3) rfl (jbb (jb9 (i:=0) (jba (l:=["_law_k","_law_j","_law_due","_law_names","_law_twice"]) (by rfl)) rfl (Or.inl rfl)) (jbb (jb9 (i:=1) (jba (l:=["_law_k","_law_j","_law_due","_law_names","_law_twice"]) (by rfl)) rfl (Or.inl rfl)) (jbb (jb9 (i:=2) (jba (l:=["_law_k","_law_j","_law_due","_law_names","_law_twice"]) (by rfl)) rfl (Or.inl rfl)) jbw))))) (fun _ _ _ _=>(jcs (jc0 q_gt (qv 2) jai (jby _)))) (fun _ _ _ _=>(jc9 (ja0 (jbj q_ix (qv 3) (qv 0) (fun _ _=>rfl)) (ja0 (jbj q_ix (qv 3) (qv 1) (fun _ _=>rfl)) (ja0 (jbo jff (qv 2) (qv 4)) jah)))))) (jb8 (jbu (jc9 (ja0 (jc9 (ja0 (qv 10) (ja0 (qv 14) jah))) (ja0 (qv 11) (ja0 (qv 15) jah))))))))))))))))),?_⟩
 walk_at "RD"
 refine jbh (Itl K ha) H (fun R hR=>?_) (fun pl hpl=>jbn hs.length (fun i σ' Hc=>∃ w1 zs,σ' = [w1]/\Same H Hc/\Hc pl = some (.lst (zs.map V.int))/\zs.length = i/\∀ x ∈ zs,x = (0:Int)) ⟨none,[],rfl,jag hpl _,ja1,rfl,(fun x hx=>by cases hx)⟩ ?_ ?_)
 ·unfold jck
  walk_at "RD"
  exact ⟨ha,rfl,⟨_,SqL.of eh⟩,hR⟩
 ·rintro k σ' Hc hk ⟨w1,zs,rfl,s4,ez,lz,az⟩
  have X1:(hs.map V.int)[k]? = some (.int hs[k]):=by rw [List.getElem?_map,gE hk]; rfl
  have z1:SqL K Hc ha (hs.map V.int):=SqL.of (s4 _ _ eh)
  refine ⟨⟨_,_,z1,X1⟩,?_⟩
  rintro y H' ⟨rfl,hy⟩
  walk_at "RD"
  refine ⟨_,ez,by rw [List.length_map]; exact szl' (by omega),_,zs ++ [0],rfl,jbi s4 hpl,by rw [List.map_append]; exact ja1,by rw [List.length_append,List.length_singleton,lz],fun x hx=>?_⟩
  rcases List.mem_append.mp hx with z | z
  ·exact az x z
  ·exact List.mem_singleton.mp z
 rintro σ' H1 ⟨w1,zs0,rfl,s1,e1,lz0,az0⟩
 refine ⟨⟨_,SqL.of (s1 _ _ eh),by rw [List.length_map]; exact Nat.le_refl _⟩,?_⟩
 walk_at "RD"
 refine jc2 (Itl K ra) H1 (fun R hR=>?_) (jdi (K:=K) (a:=ra) (xs:=rx) (fun j σ H2=>∃ v1 v2 v3 v4 v5 v6 v7 v8 v9 v10 v11 v12 zs,σ = [some (.ref st),some (.ref ha),some (.ref ra),some (.ref pl),v1,v2,v3,v4,v5,v6,v7,v8,v9,v10,v11,v12]/\Same H H2/\H2 pl = some (.lst (zs.map V.int))/\zs.length = hs.length/\∀ i:Int,0 <= i->i < hs.length->nth zs i = jbx (raw.take j) i) ⟨none,none,none,none,none,none,none,none,none,none,none,none,zs0,rfl,s1,e1,lz0,fun i _ _=>by rw [jrt az0]; rfl⟩ (fun j σ H2 _ ⟨_,_,_,_,_,_,_,_,_,_,_,_,_,_,s2,_⟩=>SqL.of (s2 _ _ er)) ?_ ?_)
 ·unfold jck
  walk_at "RD"
  exact ⟨ra,rfl,⟨_,SqL.of (s1 _ _ er)⟩,hR⟩
 ·rintro j y σ H2 hj ⟨v1,v2,v3,v4,v5,v6,v7,v8,v9,v10,v11,v12,zs,rfl,s2,e2,lz,az⟩
  obtain ⟨r,hr,px⟩:=jbd pr hj
  obtain ⟨t,rfl,e3⟩:=px
  have e3':=s2 _ _ e3
  have rix:=R.ix r (List.mem_of_getElem? hr)
  have a1:=jdr (xs:=zs) (k:=r.1) (by omega) (by omega)
  have i1:=jt7 (n:=zs.length) (k:=r.1) (by omega) (by omega)
  have a2:=jdr (xs:=zs.set r.1.toNat (nth zs r.1 + r.2.2)) (k:=r.2.1) (by omega) (by rw [List.length_set]; omega)
  have i2:=jt7 (n:=zs.length) (k:=r.2.1) (by omega) (by omega)
  have ms:∀ (l:List Int) (k:Nat) (v:Int),(l.map V.int).set k (.int v) = (l.set k v).map V.int:=fun l k v=>(List.map_set ..).symm
  simp_arith [e3',jbm,e2,a1,List.length_map,i1,ms,ja1,a2,List.length_set,i2,jej]
  refine ⟨_,_,_,_,_,_,_,_,_,_,_,_,_,rfl,jbi s2 hpl,rfl,by rw [List.length_set,List.length_set]; exact lz,fun i i0 i1'=>?_⟩
  rw [jlz (by omega) (by rw [List.length_set]; omega) i0,jlz (by omega) (by omega) (by omega),jlz (by omega) (by omega) i0,jbr hr,jnz,az i i0 i1',az r.1 (by omega) (by omega),az r.2.1 (by omega) (by omega)]
  by_cases c1:r.1 = i
  ·by_cases c2:r.2.1 = i
   ·omega
   ·rw [if_neg c2,if_pos c1,if_neg c2,if_pos c1,c1]; omega
  ·by_cases c2:r.2.1 = i
   ·rw [if_pos c2,if_neg (show ¬ r.1 = r.2.1 by omega),if_pos c2,if_neg c1,c2]; omega
   ·rw [if_neg c2,if_neg c1,if_neg c2,if_neg c1]; omega
 rintro σ H2 ⟨v1,v2,v3,v4,v5,v6,v7,v8,v9,v10,v11,v12,zs,rfl,s2,e2,lz,az⟩
 rw [hrx,List.take_length] at az
 have eh2:=s2 _ _ eh
 have er2:=s2 _ _ er
 have pr2:=Rws.same s2 pr
 walk_at "RD"
 refine jbh (Itr 0 hs.length) H2 (fun R hR=>?_) (fun ol hol=>jbn hs.length (fun i σ' Hc=>∃ w1,σ' = [w1,some (.ref pl),some (.ref ha)]/\Same H2 Hc/\Hc ol = some (.lst ((jdo hs raw i).map V.int))) ⟨none,rfl,jag hol _,ja1⟩ ?_ ?_)
 ·unfold jl1
  simp_arith [jbm,eh2,List.length_map]
  exact ⟨_,rfl,by omega,by omega,hR⟩
 ·rintro k σ' Hc hk ⟨w1,rfl,s3,e3⟩
  refine ⟨hk,?_⟩
  rintro y H' ⟨rfl,rfl⟩
  have a1:=jdr (xs:=hs) (k:=0 + (k:Int)) (by omega) (by omega)
  have a2:=jdr (xs:=zs) (k:=0 + (k:Int)) (by omega) (by omega)
  simp_arith [jbm,s3 _ _ eh2,s3 _ _ e2,a1,a2]
  rw [jpw]
  refine ite2 (fun c1=>?_) (fun c1=>?_)
  ·rw [if_pos (by rw [Int.zero_add] at c1; exact c1)]
   refine ⟨by decide,_,e3,by rw [List.length_map]; have:=jrs hs raw k; exact szl' (by omega),_,rfl,jbi s3 hol,?_⟩
   rw [List.map_append,az _ (by omega) (by omega),Int.zero_add]
   exact ja1
  ·rw [if_neg (by rw [Int.zero_add] at c1; exact c1),List.append_nil]
   exact ⟨_,rfl,s3,e3⟩
 rintro σ' H3 ⟨w1,rfl,s3,e3⟩
 refine ⟨Nat.le_refl _,?_⟩
 walk_at "RD"
 refine ⟨ol,jdo hs raw hs.length,0,rfl,rfl,e3,fun m m1 m2 m3=>?_⟩
 obtain ⟨mb,ev⟩:=jpx m1 m2 m3
 clear m1 m2 m3 e3 hol
 have eh3:=s3 _ _ eh2
 have er3:=s3 _ _ er2
 have pr3:=Rws.same s3 pr2
 have ep3:=s3 _ _ e2
 have s03:=s2.trans s3
 have es3:=s03 _ _ es
 walk_at "RD"
 intro nl hnl pc hpc hc hhc
 have htwb:1 <= 1 + m/\1 + m <= 2:=by omega
 generalize 1 + m = tw at ev htwb ⊢
 have n1:nl ≠ pc:=fun z=>by rw [<- z,ja1] at hpc; cases hpc
 have n2:nl ≠ hc:=fun z=>by rw [<- z,jb7 n1,ja1] at hhc; cases hhc
 have n3:pc ≠ hc:=fun z=>by rw [<- z,ja1] at hhc; cases hhc
 have nst:st ≠ pl:=jaj es hpl
 have np3:pl ≠ st:=nst.symm
 have hnl3:=hnl
 have hpc3:H3 pc = none:=by rw [jb7 n1.symm] at hpc; exact hpc
 have hhc3:H3 hc = none:=by rw [jb7 n3.symm,jb7 n2.symm] at hhc; exact hhc
 have nls:nl ≠ st:=(jaj es3 hnl3).symm
 have pcs:pc ≠ st:=(jaj es3 hpc3).symm
 have hcs:hc ≠ st:=(jaj es3 hhc3).symm
 have s4:=(jag hnl (.lst [])).trans ((jag hpc (.lst [])).trans (jag hhc (.lst [])))
 have start:upd (upd (upd H3 nl (.lst [])) pc (.lst [])) hc (.lst []) nl = some (.lst [])/\upd (upd (upd H3 nl (.lst [])) pc (.lst [])) hc (.lst []) pc = some (.lst [])/\upd (upd (upd H3 nl (.lst [])) pc (.lst [])) hc (.lst []) hc = some (.lst []):=⟨by rw [jb7 n2,jb7 n1,ja1],by rw [jb7 n3,ja1],ja1⟩
 generalize upd (upd (upd H3 nl (.lst [])) pc (.lst [])) hc (.lst []) = H4 at s4 start
 refine jc2 (Itr 0 hs.length) H4 (fun R hR=>?_) (jdc (lo:=0) (n:=hs.length) (fun i σ H5=>∃ w1 num w2 ns ps qs px qx,σ = [some (.ref st),some (.ref ha),some (.ref ra),some (.ref pl),w1,v2,v3,some (.int tw),some (.int num),some (.ref nl),some (.ref pc),some (.ref hc),w2,v10,v11,v12]/\But st H3 H5/\(∃ o',H5 st = some o'/\StO o')/\H5 nl = some (.lst (ns.map V.int))/\H5 pc = some (.lst px)/\Prs H5 px ps/\H5 hc = some (.lst qx)/\Prs H5 qx qs/\qs.length <= i/\PlW hs raw tw i ns ps qs/\(∀ x ∈ ns,-1 < x/\x <= num)/\-1 <= num/\num <= 20 * (i:Int) - 1) ⟨_,-1,_,[],[],[],[],[],rfl,But.same s4,⟨o,s4 _ _ es3,so⟩,start.1,start.2.1,.nil,start.2.2,.nil,Nat.le_refl _,⟨[],⟨rfl,rfl,.nil,fun k k0 k1=>by omega⟩,rfl,by simp [jcn]⟩,(fun x hx=>by cases hx),by omega,by omega⟩ ?_ ?_)
 ·unfold jl1
  simp_arith [jbm,s4 _ _ eh3,List.length_map]
  exact ⟨_,rfl,by omega,by omega,hR⟩
 ·rintro i σ H5 hi ⟨w1,num,w2,ns,ps,qs,px,qx,rfl,b5,⟨o5,e5,so5⟩,en5,ep5,pp5,eq5,pq5,lq,W,hnum,hm1,hm2⟩
  generalize hB:tIfS (fB (tOp (fI fun i j=>V.bl (decide (i > j))) (fVar 12) (tC (V.int 0)))) (tSeq (jal (fBM ja2 (fVar 10) (jak (tTup (jak (fVar 8) (jak (fVar 12) tNil))) tNil))) (jal (fBM ja2 (fVar 11) (jak (tTup (jak (fVar 8) (jak (tOp fIx (fVar 1) (fVar 4)) tNil))) tNil)))) jao = B2
  have hpxl:px.length = ps.length:=Paired.length pp5
  have hqxl:qx.length = qs.length:=Paired.length pq5
  have hwl:=W.len
  have hwp:=W.pl
  have key:∀ (D':Ends) (H8:Hp) (num' pr:Int),(∀ (H9:Hp) (ps qs:List (Int × Int)) (px qx:List V),But st H3 H9/\(∃ o',H9 st = some o'/\StO o')/\H9 nl = some (.lst ((ns ++ [num']).map V.int))/\H9 pc = some (.lst px)/\Prs H9 px ps/\H9 hc = some (.lst qx)/\Prs H9 qx qs->qs.length <= i + 1->PlW hs raw tw (i + 1) (ns ++ [num']) ps qs->D'.nx [some (.ref st),some (.ref ha),some (.ref ra),some (.ref pl),some (.int (0 + (i:Int))),v2,v3,some (.int tw),some (.int num'),some (.ref nl),some (.ref pc),some (.ref hc),some (.int pr),v10,v11,v12] H9)->(∀ x ∈ ns,x < num')->PrOk hs raw tw i pr->But st H3 H8/\(∃ o',H8 st = some o'/\StO o')/\H8 nl = some (.lst ((ns ++ [num']).map V.int))/\H8 pc = some (.lst px)/\Prs H8 px ps/\H8 hc = some (.lst qx)/\Prs H8 qx qs->B2 D' [some (.ref st),some (.ref ha),some (.ref ra),some (.ref pl),some (.int (0 + (i:Int))),v2,v3,some (.int tw),some (.int num'),some (.ref nl),some (.ref pc),some (.ref hc),some (.int pr),v10,v11,v12] H8:=by
   rintro D' H8 num' pr hD hn hp ⟨b8,⟨o8,e8,so8⟩,en8,ep8,pp8,eq8,pq8⟩
   subst hB
   walk_at "RD"
   refine ite2 (fun c1=>?_) (fun c1=>hD H8 ps qs px qx ⟨b8,⟨o8,e8,so8⟩,en8,ep8,pp8,eq8,pq8⟩ (by omega) (by have z:=W.step' hi hn hp; rw [if_neg (fun y=>c1 (decide_eq_true y)),if_neg (fun y=>c1 (decide_eq_true y)),List.append_nil,List.append_nil] at z; exact z))
   refine ⟨⟨pc,_,rfl,ep8⟩,fun t ht=>?_⟩
   have nt:pc ≠ t:=jaj ep8 ht
   simp_arith [jb7 nt,ep8]
   refine ⟨szl' (by omega),?_⟩
   have sA:=jag ht (.tup [.int num',.int pr])
   have eA:=ja1 (H:=H8) (a:=t) (o:=.tup [.int num',.int pr])
   have epA:=sA _ _ ep8
   generalize upd H8 t (.tup [.int num',.int pr]) = HA at sA eA epA
   have tB:TupS HA (upd HA pc (.lst (px ++ [.ref t]))):=jbv epA
   have hcB:upd HA pc (.lst (px ++ [.ref t])) hc = some (.lst qx):=by rw [jb7 n3.symm]; exact sA _ _ eq8
   have nlB:upd HA pc (.lst (px ++ [.ref t])) nl = some (.lst ((ns ++ [num']).map V.int)):=by rw [jb7 n1]; exact sA _ _ en8
   have pcB:=ja1 (H:=HA) (a:=pc) (o:=.lst (px ++ [.ref t]))
   have stB:upd HA pc (.lst (px ++ [.ref t])) st = some o8:=by rw [jb7 pcs.symm]; exact sA _ _ e8
   have bB:But st H3 (upd HA pc (.lst (px ++ [.ref t]))):=jfo (b8.trans (But.same sA)) hpc3
   have ppB:Prs (upd HA pc (.lst (px ++ [.ref t]))) (px ++ [.ref t]) (ps ++ [(num',pr)]):=jbk (Prs.tups (sA.tups.trans tB) pp8) ⟨t,rfl,tB _ _ rfl eA⟩
   have pqB:Prs (upd HA pc (.lst (px ++ [.ref t]))) qx qs:=Prs.tups (sA.tups.trans tB) pq8
   generalize upd HA pc (.lst (px ++ [.ref t])) = HB at tB hcB nlB pcB stB bB ppB pqB
   have a1:=jdr (xs:=hs) (k:=0 + (i:Int)) (by omega) (by omega)
   have ehB:=bB _ _ nha eh3
   refine ⟨⟨hc,_,rfl,hcB⟩,?_⟩
   simp_arith [jbm,ehB,a1]
   intro t2 ht2
   have nt2:hc ≠ t2:=jaj hcB ht2
   simp_arith [jb7 nt2,hcB]
   refine ⟨szl' (by omega),?_⟩
   have sC:=jag ht2 (.tup [.int num',.int (nth hs (0 + (i:Int)))])
   have eC:=ja1 (H:=HB) (a:=t2) (o:=.tup [.int num',.int (nth hs (0 + (i:Int)))])
   have ehC:=sC _ _ hcB
   generalize upd HB t2 (.tup [.int num',.int (nth hs (0 + (i:Int)))]) = HC at sC eC ehC
   have tD:TupS HC (upd HC hc (.lst (qx ++ [.ref t2]))):=jbv ehC
   refine hD _ (ps ++ [(num',pr)]) (qs ++ [(num',nth hs (0 + (i:Int)))]) _ _ ⟨jfo (bB.trans (But.same sC)) hhc3,⟨o8,by rw [jb7 hcs.symm]; exact sC _ _ stB,so8⟩,by rw [jb7 n2]; exact sC _ _ nlB,by rw [jb7 n3]; exact sC _ _ pcB,Prs.tups (sC.tups.trans tD) ppB,ja1,jbk (Prs.tups (sC.tups.trans tD) pqB) ⟨t2,rfl,tD _ _ rfl eC⟩⟩ (by rw [List.length_append,List.length_singleton]; omega) (by have z:=W.step' hi hn hp; rw [if_pos (of_decide_eq_true c1),if_pos (of_decide_eq_true c1)] at z; rw [Int.zero_add]; exact z)
  walk_at "RD"
  intro p1 hp1
  have np1:p1 ≠ st:=(jaj e5 hp1).symm
  refine ⟨st,o5,3,rfl,(jag hp1 _) _ _ e5,so5,by decide,by decide,fun d1 o6 d10 d11 so6=>?_⟩
  obtain ⟨v,ev',v0,v1'⟩:∃ v,atI [V.int 1,.int 2,.int 20] d1 = some (.int v)/\1 <= v/\v <= 20:=by
   obtain ⟨v,e,hv⟩:=menu3 (a:=1) (b:=2) (c:=20) d10 d11
   exact ⟨v,e,by omega,by omega⟩
  simp_arith [jbm,jb7 np1,ja1,ev']
  refine ⟨st,o6,v,rfl,ja1,so6,by omega,by omega,fun d2 o7 d20 d21 so7=>?_⟩
  simp_arith [jej]
  have b7:But st H5 (upd (upd H5 p1 (.lst [.int 1,.int 2,.int 20])) st o7):=(But.new hp1).trans (But.at _ _ _)
  have e7:upd (upd H5 p1 (.lst [.int 1,.int 2,.int 20])) st o7 st = some o7:=ja1
  generalize upd (upd H5 p1 (.lst [.int 1,.int 2,.int 20])) st o7 = H7 at b7 e7
  have t7:TupS H5 H7:=b7.tups e5 so5.imm
  have en7:=b7 _ _ nls en5
  refine ⟨⟨nl,_,rfl,en7⟩,?_⟩
  simp_arith [en7]
  refine ⟨by rw [List.length_map]; exact szl' (by omega),?_⟩
  have hnew:∀ x ∈ ns,x < num + 1 + d2:=fun x hx=>by have:=hnum x hx; omega
  have st8:But st H3 (upd H7 nl (.lst (ns.map V.int ++ [.int (num + 1 + d2)])))/\(∃ o',(upd H7 nl (.lst (ns.map V.int ++ [.int (num + 1 + d2)]))) st = some o'/\StO o')/\(upd H7 nl (.lst (ns.map V.int ++ [.int (num + 1 + d2)]))) nl = some (.lst ((ns ++ [num + 1 + d2]).map V.int))/\(upd H7 nl (.lst (ns.map V.int ++ [.int (num + 1 + d2)]))) pc = some (.lst px)/\Prs (upd H7 nl (.lst (ns.map V.int ++ [.int (num + 1 + d2)]))) px ps/\(upd H7 nl (.lst (ns.map V.int ++ [.int (num + 1 + d2)]))) hc = some (.lst qx)/\Prs (upd H7 nl (.lst (ns.map V.int ++ [.int (num + 1 + d2)]))) qx qs:=by
   have t8:TupS H7 (upd H7 nl (.lst (ns.map V.int ++ [.int (num + 1 + d2)]))):=jbv en7
   refine ⟨jfo (b5.trans b7) hnl3,⟨o7,by rw [jb7 nls.symm]; exact e7,so7⟩,by rw [ja1,List.map_append]; rfl,by rw [jb7 n1.symm]; exact b7 _ _ pcs ep5,Prs.tups (t7.trans t8) pp5,by rw [jb7 n2.symm]; exact b7 _ _ hcs eq5,Prs.tups (t7.trans t8) pq5⟩
  have epl:=st8.1 _ _ np3 ep3
  have ehl:=st8.1 _ _ nha eh3
  have e8:∃ o',upd H7 nl (.lst (ns.map V.int ++ [.int (num + 1 + d2)])) st = some o'/\StO o':=st8.2.1
  generalize upd H7 nl (.lst (ns.map V.int ++ [.int (num + 1 + d2)])) = H8 at st8 epl ehl e8
  obtain ⟨o8,e8,so8⟩:=e8
  have a1:=jdr (xs:=hs) (k:=0 + (i:Int)) (by omega) (by omega)
  have a2:=jdr (xs:=zs) (k:=0 + (i:Int)) (by omega) (by omega)
  have ap:nth zs (0 + (i:Int)) = jbx raw (0 + (i:Int)):=az _ (by omega) (by omega)
  simp_arith [jbm,epl,ehl,a1,a2]
  refine ⟨cmR (by omega) (by omega),⟨by decide,by decide⟩,?_⟩
  have hfin:∀ (H9:Hp) (ps qs:List (Int × Int)) (px qx:List V) (w2:Option V),But st H3 H9/\(∃ o',H9 st = some o'/\StO o')/\H9 nl = some (.lst ((ns ++ [num + 1 + d2]).map V.int))/\H9 pc = some (.lst px)/\Prs H9 px ps/\H9 hc = some (.lst qx)/\Prs H9 qx qs->qs.length <= i + 1->PlW hs raw tw (i + 1) (ns ++ [num + 1 + d2]) ps qs->∃ w1 nn w2' ns ps qs px qx,[some (.ref st),some (.ref ha),some (.ref ra),some (.ref pl),some (.int (0 + (i:Int))),v2,v3,some (.int tw),some (.int (num + 1 + d2)),some (.ref nl),some (.ref pc),some (.ref hc),w2,v10,v11,v12] = [some (.ref st),some (.ref ha),some (.ref ra),some (.ref pl),w1,v2,v3,some (.int tw),some (.int nn),some (.ref nl),some (.ref pc),some (.ref hc),w2',v10,v11,v12]/\But st H3 H9/\(∃ o',H9 st = some o'/\StO o')/\H9 nl = some (.lst (ns.map V.int))/\H9 pc = some (.lst px)/\Prs H9 px ps/\H9 hc = some (.lst qx)/\Prs H9 qx qs/\qs.length <= i + 1/\PlW hs raw tw (i + 1) ns ps qs/\(∀ x ∈ ns,-1 < x/\x <= nn)/\-1 <= nn/\nn <= 20 * ((i + 1:Nat):Int) - 1:=fun H9 ps qs px qx w2 z1 z2 z3=>⟨_,num + 1 + d2,_,ns ++ [num + 1 + d2],ps,qs,px,qx,rfl,z1.1,z1.2.1,z1.2.2.1,z1.2.2.2.1,z1.2.2.2.2.1,z1.2.2.2.2.2.1,z1.2.2.2.2.2.2,z2,z3,(fun x hx=>by
   rcases List.mem_append.mp hx with y | y
   ·have:=hnew x y; have:=hnum x y; omega
   ·rw [List.mem_singleton.mp y]; omega),by omega,by omega⟩
  refine ite2 (fun c1=>?_) (fun c1=>?_)
  ·refine ⟨cmR (by omega) (by omega),⟨by decide,by decide⟩,?_⟩
   refine ⟨st,o8,3,rfl,e8,so8,by decide,by decide,fun d3 o9 d30 d31 so9=>?_⟩
   walk_at "RD"
   have c2:nth hs (i:Int) = 0:=by rw [Int.zero_add] at c1; exact of_decide_eq_true c1
   have t9:TupS H8 (upd H8 st o9):=(But.at st H8 o9).tups e8 so8.imm
   refine key _ _ _ _ (fun H9 ps qs px qx z1 z2 z3=>hfin H9 ps qs px qx _ z1 z2 z3) hnew (by refine ⟨fun z=>absurd c2 z,?_⟩; have X:=R.xle htwb (i:Int); rw [ap,Int.zero_add]; generalize jbx raw (i:Int) * tw = x at X ⊢; exact ⟨fun _=>⟨by split <;> omega,by split <;> omega⟩,by split <;> omega,by split <;> omega⟩) ⟨st8.1.trans (But.at _ _ _),⟨o9,ja1,so9⟩,by rw [jb7 nls]; exact st8.2.2.1,by rw [jb7 pcs]; exact st8.2.2.2.1,Prs.tups t9 st8.2.2.2.2.1,by rw [jb7 hcs]; exact st8.2.2.2.2.2.1,Prs.tups t9 st8.2.2.2.2.2.2⟩
  ·refine key _ _ _ _ (fun H9 ps qs px qx z1 z2 z3=>hfin H9 ps qs px qx _ z1 z2 z3) hnew (by have X:=R.xle htwb (i:Int); rw [ap]; refine ⟨fun _=>by rw [Int.zero_add],fun z=>absurd (decide_eq_true (by rw [Int.zero_add]; exact z)) c1,?_⟩; rw [Int.zero_add]; omega) st8
 rintro σ H5 ⟨w1,num,w2,ns,ps,qs,px,qx,rfl,b5,⟨o5,e5,so5⟩,en5,ep5,pp5,eq5,pq5,lq,W,hnum,hm1,hm2⟩
 have hwl:=W.len
 obtain ⟨cs,C,rfl,rfl⟩:=W
 rw [List.take_length] at pq5 lq
 have hcl:=C.cl
 have hqxl:qx.length = (jcn ns cs hs).length:=Paired.length pq5
 have er5:=b5 _ _ nra er3
 have pr5:=Rws.but es3 so b5 pr3
 walk_at "RD"
 refine jbh (Itl K hc) H5 (fun R hR=>?_) (fun kl hkl=>jbn (jcn ns cs hs).length (fun i σ' Hc=>∃ w1 w2,σ' = [w1,w2]/\Same H5 Hc/\Hc kl = some (.lst ((((jcn ns cs hs).take i).map (·.1)).map V.int))) ⟨none,none,rfl,jag hkl _,ja1⟩ ?_ ?_)
 ·unfold jck
  walk_at "RD"
  exact ⟨hc,rfl,⟨_,SqL.of eq5⟩,hR⟩
 ·rintro k σ' Hc hk ⟨w1,w2,rfl,s6,e6⟩
  have hkx:k < qx.length:=by omega
  have x1:qx[k]? = some qx[k]:=gE hkx
  obtain ⟨p,hp,qp⟩:=jbd pq5 x1
  have z1:SqL K Hc hc qx:=SqL.of (s6 _ _ eq5)
  refine ⟨⟨_,_,z1,x1⟩,?_⟩
  rintro y H' ⟨rfl,hy⟩
  have E1:qx[k] = y:=Option.some.inj (x1.symm.trans (hy _ z1))
  obtain ⟨t,e1,e2'⟩:=qp.same s6
  rw [E1] at e1
  subst e1
  simp_arith [e2']
  refine ⟨_,e6,by rw [List.length_map,List.length_map,List.length_take]; exact szl' (by omega),_,_,rfl,jbi s6 hkl,?_⟩
  rw [jbr hp,List.map_append,List.map_append]
  exact ja1
 rintro σ' H6 ⟨w1',w2',rfl,s6,e6⟩
 refine ⟨⟨_,SqL.of (s6 _ _ eq5),by rw [hqxl]; exact Nat.le_refl _⟩,?_⟩
 rw [List.take_length] at e6
 have er6:=s6 _ _ er5
 have pr6:=Rws.same s6 pr5
 have en6:=s6 _ _ en5
 walk_at "RD"
 refine jbh (Itl K ra) H6 (fun R hR=>?_) (fun tl htl=>jbn raw.length (fun i σ' Hc=>∃ w1 w2 w3 ys ts,σ' = [w1,w2,w3,some (.ref nl),some (.ref kl)]/\Same H6 Hc/\Hc tl = some (.lst ys)/\Prs Hc ys ts/\ts = jcz ns cs (raw.take i)/\ts.length <= i) ⟨none,none,none,[],[],rfl,jag htl _,ja1,.nil,rfl,Nat.le_refl _⟩ ?_ ?_)
 ·unfold jck
  walk_at "RD"
  exact ⟨ra,rfl,⟨_,SqL.of er6⟩,hR⟩
 ·rintro k σ' Hc hk ⟨w1,w2,w3,ys,ts,rfl,s7,e7,p7,g7,l7⟩
  have hkx:k < rx.length:=by omega
  have x1:rx[k]? = some rx[k]:=gE hkx
  obtain ⟨r,hr,qr⟩:=jbd pr6 x1
  have z1:SqL K Hc ra rx:=SqL.of (s7 _ _ er6)
  refine ⟨⟨_,_,z1,x1⟩,?_⟩
  rintro y H' ⟨rfl,hy⟩
  have E1:rx[k] = y:=Option.some.inj (x1.symm.trans (hy _ z1))
  obtain ⟨t,e1,e2'⟩:=qr
  rw [E1] at e1
  subst e1
  have e2'':=s7 _ _ e2'
  have rix:=R.ix r (List.mem_of_getElem? hr)
  have a1:=jdr (xs:=ns) (k:=r.1) (by omega) (by omega)
  have a2:=jdr (xs:=ns) (k:=r.2.1) (by omega) (by omega)
  have hyl:ys.length = ts.length:=Paired.length p7
  have hin:∀ k:Int,0 <= k->k < hs.length->(nth ns k ∈ (jcn ns cs hs).map (·.1) ↔ 0 < nth cs k):=fun k k0 k1=>js6 hwl hcl R.hb C.rise k0 k1
  have tsn:jcz ns cs (raw.take (k + 1)) = jcz ns cs (raw.take k) ++ if (decide (0 < nth cs r.1) && decide (0 < nth cs r.2.1)) = true then [(nth ns r.1,nth ns r.2.1)] else []:=by
   unfold jcz
   rw [jbr hr,List.filter_append,List.map_append]
   congr 1
   rw [List.filter_cons]
   split <;> simp
  have no1:¬ nth ns r.1 ∈ (jcn ns cs hs).map (·.1)->ts = jcz ns cs (raw.take (k + 1)):=fun z=>by
   rw [tsn,decide_eq_false (fun y=>z ((hin _ (by omega) (by omega)).mpr y)),Bool.false_and,if_neg (by decide),List.append_nil]; exact g7
  have no2:¬ nth ns r.2.1 ∈ (jcn ns cs hs).map (·.1)->ts = jcz ns cs (raw.take (k + 1)):=fun z=>by
   rw [tsn,decide_eq_false (fun y=>z ((hin _ (by omega) (by omega)).mpr y)),Bool.and_false,if_neg (by decide),List.append_nil]; exact g7
  simp_arith [e2'',jbm,s7 _ _ en6,s7 _ _ e6,a1,a2,jdk,flat_ints,jdh]
  refine ite2 (fun c1=>?_) (fun c1=>⟨_,_,_,ys,ts,rfl,s7,e7,p7,no1 (by simpa using c1),by omega⟩)
  refine ite2 (fun c2=>?_) (fun c2=>⟨_,_,_,ys,ts,rfl,s7,e7,p7,no2 (by simpa using c2),by omega⟩)
  intro t2 ht2
  have sA:=jag ht2 (.tup [.int (nth ns r.1),.int (nth ns r.2.1)])
  have tA:=sA.tups.trans (jbv (ys:=ys ++ [.ref t2]) (sA _ _ e7))
  refine ⟨_,sA _ _ e7,szl' (by omega),_,_,_,_,ts ++ [(nth ns r.1,nth ns r.2.1)],rfl,jbi (s7.trans sA) htl,ja1,jbk (Prs.tups tA p7) ⟨t2,rfl,by rw [jb7 (jaj e7 ht2).symm,ja1]⟩,?_,by rw [List.length_append,List.length_singleton]; omega⟩
  rw [tsn,decide_eq_true ((hin _ (by omega) (by omega)).mp (by simpa using c1)),decide_eq_true ((hin _ (by omega) (by omega)).mp (by simpa using c2)),Bool.true_and,if_pos rfl,g7]
 rintro σ' H7 ⟨w1'',w2'',w3'',ys,ts,rfl,s7,e7,p7,g7,l7⟩
 refine ⟨⟨_,SqL.of (s7 _ _ er6),by rw [hrx]; exact Nat.le_refl _⟩,?_⟩
 have er7:=s7 _ _ er6
 have pr7:=Rws.same s7 pr6
 have en7:=s7 _ _ en6
 walk_at "RD"
 refine jbh (Itl K ra) H7 (fun R hR=>?_) (fun dl hdl=>jbn raw.length (fun i σ' Hc=>∃ w1 w2 w3 zs,σ' = [w1,w2,w3,some (.ref nl),some (.int tw)]/\Same H7 Hc/\Hc dl = some (.lst zs)/\Tps Hc zs (jcg ns tw (raw.take i))) ⟨none,none,none,[],rfl,jag hdl _,ja1,.nil⟩ ?_ ?_)
 ·unfold jck
  walk_at "RD"
  exact ⟨ra,rfl,⟨_,SqL.of er7⟩,hR⟩
 ·rintro k σ' Hc hk ⟨w1,w2,w3,zs',rfl,s8,e8,p8⟩
  have hkx:k < rx.length:=by omega
  have x1:rx[k]? = some rx[k]:=gE hkx
  obtain ⟨r,hr,qr⟩:=jbd pr7 x1
  have z1:SqL K Hc ra rx:=SqL.of (s8 _ _ er7)
  refine ⟨⟨_,_,z1,x1⟩,?_⟩
  rintro y H' ⟨rfl,hy⟩
  have E1:rx[k] = y:=Option.some.inj (x1.symm.trans (hy _ z1))
  obtain ⟨t,e1,e2'⟩:=qr
  rw [E1] at e1
  subst e1
  have e2'':=s8 _ _ e2'
  have rix:=R.ix r (List.mem_of_getElem? hr)
  have a1:=jdr (xs:=ns) (k:=r.1) (by omega) (by omega)
  have a2:=jdr (xs:=ns) (k:=r.2.1) (by omega) (by omega)
  have hzl:zs'.length <= 81:=by
   have z2:=Paired.length p8
   have z3:=jsf ns tw (raw.take k)
   rw [List.length_take] at z3
   omega
  simp_arith [e2'',jbm,s8 _ _ en7,a1,a2]
  rw [jqn hr]
  refine ite2 (fun c1=>?_) (fun c1=>?_)
  ·rw [if_pos c1]
   refine ⟨cmR (by omega) (by omega),fun t2 ht2=>?_⟩
   have sA:=jag ht2 (.tup [.int (nth ns r.1),.int (nth ns r.2.1),.int (r.2.2 * tw)])
   have tA:=sA.tups.trans (jbv (ys:=zs' ++ [.ref t2]) (sA _ _ e8))
   exact ⟨_,sA _ _ e8,szl' (by omega),_,_,_,_,rfl,jbi (s8.trans sA) hdl,ja1,jbk (jbz tA p8) ⟨t2,rfl,by rw [jb7 (jaj e8 ht2).symm,ja1]⟩⟩
  ·rw [if_neg c1,List.append_nil]
   exact ⟨_,_,_,_,rfl,s8,e8,p8⟩
 rintro σ' H8 ⟨wa,wb,wc,dx,rfl,s8,e8,p8⟩
 refine ⟨⟨_,SqL.of (s8 _ _ er7),by rw [hrx]; exact Nat.le_refl _⟩,?_⟩
 rw [List.take_length] at p8
 walk_at "RD"
 intro t1 ht1 t2 ht2
 have sA:=jag ht1 (.tup [.ref pc,.ref tl])
 have sB:=jag ht2 (.tup [.ref t1,.ref hc,.ref dl])
 have n12:t1 ≠ t2:=fun z=>by rw [<- z,ja1] at ht2; cases ht2
 have sAB:=sA.trans sB
 have s58:=s6.trans (s7.trans s8)
 rw [List.take_length] at g7
 subst g7
 exact h t2 (.ref t1) hc dl qx dx ns cs tw _ o5 ((((But.same s03).trans b5).trans (But.same s58)).trans (But.same sAB)) ((s58.trans sAB) _ _ e5) so5 ja1 ⟨t1,pc,tl,px,ys,rfl,sB _ _ ja1,(s58.trans sAB) _ _ ep5,(s8.trans sAB) _ _ e7,Prs.same (s58.trans sAB) pp5,Prs.same (s8.trans sAB) p7⟩ ((s58.trans sAB) _ _ eq5) (Prs.same (s58.trans sAB) pq5) (sAB _ _ e8) (jbz sAB.tups p8) ⟨hwl,hcl,R.hl,R.hb,C.rise,(fun n hn=>by have:=hnum n hn; omega),R.ix,R.len,R.up,R.pos,R.two,R.due,htwb.1,(fun k k0 k1 kh=>ev k k0 k1 kh),(fun k k0 k1 hk=>(C.at' k k0 k1).1 hk),(fun k k0 k1 hk=>(C.at' k k0 k1).2.1 hk),(fun c hc=>(C.mem c hc).1),by have:=sum_le (b:=90000000000) (fun c hc=>(C.mem c hc).2); omega⟩
theorem jek {ι:Type} {src:List (Option Nat)} {wi:TI} {g:TG} {tc:TT} {te:TE} {Q:VK} {σ:St} {H:Hp} (J:ι->It) (H1:ι->Hp) (ok:ι->Prop) (h1:∀ R:It->Hp->Prop,(∀ p,ok p->R (J p) (H1 p))->wi σ H R)
  (h2:∀ p,ok p->∀ l,H1 p l = none->jr2 (J p) src g tc te Q σ (H1 p) l):jr7 src wi g tc te σ H Q:=h1 _ h2
theorem ten9:(10:Int) ^ Int.toNat 9 = 1000000000:=by decide
def GR (hs:List Int) (r:Int × Int × Int):Prop:=(0 <= r.1/\r.1 < r.2.1/\r.2.1 < hs.length)/\(0 <= r.2.2/\r.2.2 <= 1000000000)/\2 <= nth hs r.1 + nth hs r.2.1/\(0 < r.2.2->nth hs r.1 + nth hs r.2.1 = 2)
theorem rw_ne {H:Hp} {a b:Addr} {x y z:Int} {rx:List V} (ea:H a = some (.lst [.int x,.int y,.int z])) (eb:H b = some (.lst rx)) (h:∀ v ∈ rx,∃ t,v = .ref t):a ≠ b:=fun e=>by
 rw [e,eb] at ea
 cases ea
 obtain ⟨t,e⟩:=h (.int x) (List.mem_cons_self ..)
 cases e
theorem Rws.upd {H:Hp} {b:Addr} {rx ys:List V} {raw:List (Int × Int × Int)} (h:Rws H rx raw) (eb:H b = some (.lst rx)):Rws (upd H b (.lst ys)) rx raw:=by
 have hr:=jir h
 exact Paired.mapP h fun _ _ ⟨a,e,q⟩=>⟨a,e,by rw [jb7 (rw_ne q eb hr)]; exact q⟩
def joz:Sp:=fun vs H Q _=>∃ (st:Addr) (o:HO),vs = [.ref st,.int 8]/\H st = some o/\StO o /\
 ∀ (t:Addr) (wv:V) (hl da:Addr) (hx dx:List V) (hs ns cs:List Int) (raw:List (Int × Int × Int)) (tw:Int) (H':Hp) (o':HO),But st H H'->H' st = some o'->StO o'->H' t = some (.tup [wv,.ref hl,.ref da])->jd3 H' wv (jce ns cs) (jcz ns cs raw)->H' hl = some (.lst hx)->Prs H' hx (jcn ns cs hs)->H' da = some (.lst dx)->Tps H' dx (jcg ns tw raw)->Laid hs ns cs raw tw->Q (.ref t) H'
def LB (raw:List (Int × Int × Int)) (n:Nat) (a b:Int):Prop:=raw.length <= n/\(raw.Pairwise fun x y=>Lx (x.1,x.2.1) (y.1,y.2.1))/\∀ r ∈ raw,r.1 < a \/ (r.1 = a/\r.2.1 < b)
theorem LB.mono {raw:List (Int × Int × Int)} {n n':Nat} {a b a' b':Int} (h:LB raw n a b) (hn:n <= n') (hl:a < a' \/ (a = a'/\b <= b')):LB raw n' a' b':=⟨Nat.le_trans h.1 hn,h.2.1,fun r hr=>by have:=h.2.2 r hr; omega⟩
theorem LB.snoc {raw:List (Int × Int × Int)} {n n':Nat} {a b b':Int} {r:Int × Int × Int} (h:LB raw n a b) (hn:n + 1 <= n') (h1:r.1 = a) (h2:r.2.1 = b) (hb:b < b'):LB (raw ++ [r]) n' a b':=by
 refine ⟨by rw [List.length_append,List.length_singleton]; have:=h.1; omega,List.pairwise_append.mpr ⟨h.2.1,List.pairwise_singleton _ _,fun x hx y hy=>?_⟩,fun x hx=>?_⟩
 ·rw [List.mem_singleton.mp hy]
  rcases h.2.2 x hx with z | ⟨z1,z2⟩
  ·exact jft (by show x.1 < r.1; omega)
  ·unfold Lx
   dsimp only
   rw [z1,h1]
   exact jng (by omega)
 ·rcases List.mem_append.mp hx with z | z
  ·have:=h.2.2 x z; omega
  ·rw [List.mem_singleton.mp z]; omega
theorem jlw (B:Blt mg) (D:DefAt K mg "_law_laid" (top 38) ["_law_state","_law_most"] f fd) (Dqa:DefAt K mg "_law_take" (top 34) ["_law_state","_law_many"] fqa dqa) (Gqa:FnOk P w K mg base CX0 1 fqa dqa ["_law_state","_law_many"] jkb) (Dqy:DefAt K mg "_law_priced" (top 37) ["_law_state","_law_hs","_law_raw"] fqy dqy) (Gqy:FnOk P w K mg base CX0 2 fqy dqy ["_law_state","_law_hs","_law_raw"] jkc):FnOk P w K mg base CX0 3 f fd ["_law_state","_law_most"] joz:=by
 have sc:FnScope ["_law_state","_law_most","_law_great","_law_dense","_law_hs","_law_raw","_law_k","_law_j","_law_due"] ["_law_state","_law_most"] (jbe (top 38)):=by walk_at "SC"
 refine D.F.ok sc (fun vs H Q E h=>?_) (fun cdv A outer s H vs Q E hr h=>?_)
 ·obtain ⟨st,o,rfl,_⟩:=h
  rfl
 obtain ⟨st,o,rfl,es,so,h⟩:=h
 have hu:=jcc hr
 have hu0:_ < PySem.cLine:=Nat.lt_of_succ_lt hu
 refine ⟨_,(jaf (jbg (i:=2) sc.nd rfl (Or.inl rfl) (jbj q_ix (jcf (ja0 jai (ja0 jai (ja0 (jbo jrc jai jai) jah)))) (jbf Gqa (hr.mono (by decide)) rfl Dqa.m Dqa.F.kp Dqa.b .nil jbq (ja0 (qv 0) (ja0 jai jah))) (fun _ _=>rfl))) (jaf (jbg (i:=3) sc.nd rfl (Or.inl rfl) (jbo jcb jai (jbf Gqa (hr.mono (by decide)) rfl Dqa.m Dqa.F.kp Dqa.b .nil jbq (ja0 (qv 0) (ja0 jai jah))))) (jaf (jdj (i:=4) sc.nd rfl (Or.inl rfl) (CpScope.of (N:=["_law_k","_law_state"]) (src:=[none,some 0]) (by rfl)) rfl (jd0 rfl B.range (ja0 (jbf Gqa (hr.mono (by decide)) rfl Dqa.m Dqa.F.kp Dqa.b .nil jbq (ja0 (qv 0) (ja0 (jbo jcb (qv 1) jai) jah))) jah)) (fun _ _ _ _=>(jb9 (i:=0) (jba (l:=["_law_k","_law_state"]) (by rfl)) rfl (Or.inl rfl))) (fun _ _ _ _=>jch) (fun _ _ _ _=>(jbf Gqa (hr.mono (by decide)) rfl Dqa.m Dqa.F.kp Dqa.b .nil jbq (ja0 (qv 1) (ja0 jai jah))))) (jaf (jbg (i:=5) sc.nd rfl (Or.inl rfl) (jcf jah)) (jaf (jcw PassesOwn.never rfl (jd0 rfl B.range (ja0 (jbp jfw rfl B.len PySem.boot_len (ja0 (qv 4) jah)) jah)) (jb9 (i:=6) sc.nd rfl (Or.inl rfl)) (jb8 (jcw PassesOwn.never rfl (jkj rfl B.range (ja0 (jbo jcb (qv 6) jai) (ja0 (jbp jfw rfl B.len PySem.boot_len (ja0 (qv 4) jah)) jah))) (jb9 (i:=7) sc.nd rfl (Or.inl rfl)) (jb8 (jdf (PW.pt (jhw (jc0 q_gt (jbo jcb (jbj q_ix (qv 4) (qv 6) (fun _ _=>rfl)) (jbj q_ix (qv 4) (qv 7) (fun _ _=>rfl))) jai (jby _)) (jfg (jc0 q_lt (jbf Gqa (hr.mono (by decide)) rfl Dqa.m Dqa.F.kp Dqa.b .nil jbq (ja0 (qv 0) (ja0 jai jah))) (qv 3) (jby _))))) (jaf (jbg (i:=8) sc.nd rfl (Or.inl rfl) jai) (jaf (jdf (PW.pt (jhw (jc0 q_eq (jbo jcb (jbj q_ix (qv 4) (qv 6) (fun _ _=>rfl)) (jbj q_ix (qv 4) (qv 7) (fun _ _=>rfl))) jai (jby _)) (jfg (jc0 q_gt (jbf Gqa (hr.mono (by decide)) rfl Dqa.m Dqa.F.kp Dqa.b .nil jbq (ja0 (qv 0) (ja0 jai jah))) jai (jby _))))) (jb8 (jbg (i:=8) sc.nd rfl (Or.inl rfl) (jbo jcb jai (jbf Gqa (hr.mono (by decide)) rfl Dqa.m Dqa.F.kp Dqa.b .nil jbq (ja0 (qv 0) (ja0 (qv 2) jah)))))) jc5) (jb8 (jc6 (q_bm PySem.F.plainAttrs_list PySem.F.slot_list_append PySem.F.type_list_append jca (qv 5) (ja0 (jcf (ja0 (qv 6) (ja0 (qv 7) (ja0 (qv 8) jah)))) jah)))))) jc5))))) (jb8 (jbu (jbf Gqy (hr.mono (by decide)) rfl Dqy.m Dqy.F.kp Dqy.b .nil jbq (ja0 (qv 0) (ja0 (qv 4) (ja0 (qv 5) jah))))))))))),?_⟩
 walk_at "RD"
 refine ⟨⟨by decide,by decide,by decide⟩,?_⟩
 intro p1 hp1
 have np1:p1 ≠ st:=(jaj es hp1).symm
 refine ⟨st,o,3,rfl,(jag hp1 _) _ _ es,so,by decide,by decide,fun d1 o1 d10 d11 so1=>?_⟩
 obtain ⟨g,ev,g0,g1⟩:∃ v,atI [V.int 2,.int 9,.int (10 ^ Int.toNat 9)] d1 = some (.int v)/\1 <= v/\v <= 1000000000:=by
  obtain ⟨v,e,hv⟩:=menu3 (a:=2) (b:=9) (c:=10 ^ Int.toNat 9) d10 d11
  rw [ten9] at hv
  exact ⟨v,e,by omega,by omega⟩
 simp_arith [jbm,jb7 np1,ja1,ev]
 refine ⟨st,o1,4,rfl,ja1,so1,by decide,by decide,fun d2 o2 d20 d21 so2=>?_⟩
 simp_arith [jej]
 have b2:But st H (upd (upd H p1 (.lst [.int 2,.int 9,.int (10 ^ Int.toNat 9)])) st o2):=(But.new hp1).trans (But.at _ _ _)
 have e2:upd (upd H p1 (.lst [.int 2,.int 9,.int (10 ^ Int.toNat 9)])) st o2 st = some o2:=ja1
 generalize upd (upd H p1 (.lst [.int 2,.int 9,.int (10 ^ Int.toNat 9)])) st o2 = H1 at b2 e2
 generalize hdn:1 + d2 = dn
 refine jek (ι:=Int × HO) (fun i=>Itr 0 i.1.toNat) (fun i=>upd H1 st i.2) (fun i=>0 <= i.1/\i.1 <= 9/\StO i.2) (fun R hR=>?_) (fun i0 ok0 hl hhl=>?_)
 ·unfold jl1
  walk_at "RD"
  refine ⟨st,o2,9,rfl,e2,so2,by decide,by decide,fun d o3 d0 d1 so3=>?_⟩
  exact ⟨d,rfl,by omega,by omega,hR (d,o3) ⟨d0,by show d <= 9; omega,so3⟩⟩
 obtain ⟨n,o3⟩:=i0
 obtain ⟨n0,n1,so3⟩:=ok0
 dsimp only at n0 n1 so3 hhl ⊢
 have nhl:hl ≠ st:=fun z=>by rw [z,ja1] at hhl; cases hhl
 have hhl1:H1 hl = none:=by rw [jb7 nhl] at hhl; exact hhl
 refine jbn n.toNat (fun i σ' Hc=>∃ w1 o' hs,σ' = [w1,some (.ref st)]/\But st H1 Hc/\Hc st = some o'/\StO o'/\Hc hl = some (.lst (hs.map V.int))/\hs.length = i/\∀ h ∈ hs,0 <= h/\h <= (2:Int)) ⟨none,o3,[],rfl,jfo (But.at _ _ _) hhl1,by rw [jb7 nhl.symm,ja1],so3,ja1,rfl,(fun h hh=>by cases hh)⟩ ?_ ?_
 ·rintro k σ' Hc hk ⟨w1,o',hs,rfl,b3,e3,so',eh,lh,ah⟩
  refine ⟨hk,?_⟩
  rintro y H' ⟨rfl,rfl⟩
  walk_at "RD"
  refine ⟨st,o',3,rfl,e3,so',by decide,by decide,fun d o4 d0 d1 so4=>?_⟩
  refine ⟨_,by rw [jb7 nhl]; exact eh,by rw [List.length_map]; exact szl' (by omega),_,o4,hs ++ [d],rfl,jfo (b3.trans (But.at _ _ _)) hhl1,by rw [jb7 nhl.symm,ja1],so4,by rw [List.map_append]; exact ja1,by rw [List.length_append,List.length_singleton,lh],fun x hx=>?_⟩
  rcases List.mem_append.mp hx with z | z
  ·exact ah x z
  ·rw [List.mem_singleton.mp z]; omega
 rintro σ' H2 ⟨w1,o4,hs,rfl,b3,e3,so4,eh,lh,ah⟩
 refine ⟨Nat.le_refl _,?_⟩
 have hhs:hs.length <= 9:=by omega
 walk_at "RD"
 intro ra hra
 have nra:ra ≠ st:=(jaj e3 hra).symm
 have nhr:hl ≠ ra:=jaj eh hra
 refine jc2 (Itr 0 hs.length) _ (fun R hR=>?_) (jdc (lo:=0) (n:=hs.length) (fun i σ H3=>∃ w1 w2 w3 rx raw,σ = [some (.ref st),some (.int 8),some (.int g),some (.int dn),some (.ref hl),some (.ref ra),w1,w2,w3]/\But st H2 H3/\(∃ o',H3 st = some o'/\StO o')/\H3 ra = some (.lst rx)/\Rws H3 rx raw/\(∀ r ∈ raw,GR hs r)/\LB raw (9 * i) (i:Int) 0) ⟨_,_,_,[],[],rfl,But.new hra,⟨o4,(jag hra _) _ _ e3,so4⟩,ja1,.nil,(fun r hr=>by cases hr),⟨Nat.le_refl _,.nil,fun r hr=>by cases hr⟩⟩ ?_ ?_)
 ·unfold jl1
  simp_arith [jbm,(jag hra (.lst [])) _ _ eh,List.length_map]
  exact ⟨_,rfl,by omega,by omega,hR⟩
 ·rintro i σ H3 hi ⟨w1,w2,w3,rx,raw,rfl,b4,⟨o5,e4,so5⟩,er,pr,gr,lr⟩
  have eh3:=b4 _ _ nhl eh
  walk_at "RD"
  refine jc2 (Itr (0 + (i:Int) + 1) ((hs.length:Int) - (0 + (i:Int) + 1)).toNat) H3 (fun R hR=>?_) (jdc (lo:=0 + (i:Int) + 1) (n:=((hs.length:Int) - (0 + (i:Int) + 1)).toNat) (fun j σ H4=>∃ w2 w3 rx raw,σ = [some (.ref st),some (.int 8),some (.int g),some (.int dn),some (.ref hl),some (.ref ra),some (.int (0 + (i:Int))),w2,w3]/\But st H2 H4/\(∃ o',H4 st = some o'/\StO o')/\H4 ra = some (.lst rx)/\Rws H4 rx raw/\(∀ r ∈ raw,GR hs r)/\LB raw (9 * i + j) (i:Int) ((i:Int) + 1 + j)) ⟨_,_,rx,raw,rfl,b4,⟨o5,e4,so5⟩,er,pr,gr,lr.mono (by omega) (.inr ⟨rfl,by omega⟩)⟩ ?_ ?_)
  ·unfold juv
   simp_arith [jbm,eh3,List.length_map]
   exact ⟨_,_,rfl,⟨by omega,by omega,by omega,by omega⟩,hR⟩
  ·rintro j σ H4 hj ⟨w2,w3,rx,raw,rfl,b5,⟨o6,e5,so6⟩,er5,pr5,gr5,lr5⟩
   have eh4:=b5 _ _ nhl eh
   have hjj:0 + (i:Int) + 1 + j < hs.length:=by omega
   have a1:=jdr (xs:=hs) (k:=0 + (i:Int)) (by omega) (by omega)
   have a2:=jdr (xs:=hs) (k:=0 + (i:Int) + 1 + j) (by omega) (by omega)
   have hrl:rx.length = raw.length:=Paired.length pr5
   have lr5':=lr5.1
   have skip:∀ (H5:Hp) (w3:Option V),But st H4 H5->(∃ o',H5 st = some o'/\StO o')->∃ w2' w3' rx raw,[some (.ref st),some (.int 8),some (.int g),some (.int dn),some (.ref hl),some (.ref ra),some (.int (0 + (i:Int))),some (.int (0 + (i:Int) + 1 + j)),w3] = [some (.ref st),some (.int 8),some (.int g),some (.int dn),some (.ref hl),some (.ref ra),some (.int (0 + (i:Int))),w2',w3']/\But st H2 H5/\(∃ o',H5 st = some o'/\StO o')/\H5 ra = some (.lst rx)/\Rws H5 rx raw/\(∀ r ∈ raw,GR hs r)/\LB raw (9 * i + (j + 1)) (i:Int) ((i:Int) + 1 + ((j + 1:Nat):Int)):=fun H5 w3 b z=>⟨_,_,rx,raw,rfl,b5.trans b,z,b _ _ nra er5,Rws.but e5 so6 b pr5,gr5,lr5.mono (by omega) (.inr ⟨rfl,by omega⟩)⟩
   generalize hB:jal (fBM ja2 (fVar 5) (jak (tLst (jak (fVar 6) (jak (fVar 7) (jak (fVar 8) tNil)))) tNil)) = B2
   have key:∀ (D':Ends) (H5:Hp) (due:Int),(∀ (H6:Hp) (rx:List V) (raw:List (Int × Int × Int)),But st H2 H6/\(∃ o',H6 st = some o'/\StO o')/\H6 ra = some (.lst rx)/\Rws H6 rx raw/\(∀ r ∈ raw,GR hs r)->LB raw (9 * i + (j + 1)) (i:Int) ((i:Int) + 1 + ((j + 1:Nat):Int))->D'.nx [some (.ref st),some (.int 8),some (.int g),some (.int dn),some (.ref hl),some (.ref ra),some (.int (0 + (i:Int))),some (.int (0 + (i:Int) + 1 + j)),some (.int due)] H6)->But st H4 H5->(∃ o',H5 st = some o'/\StO o')->GR hs (0 + (i:Int),0 + (i:Int) + 1 + j,due)->B2 D' [some (.ref st),some (.int 8),some (.int g),some (.int dn),some (.ref hl),some (.ref ra),some (.int (0 + (i:Int))),some (.int (0 + (i:Int) + 1 + j)),some (.int due)] H5:=by
    rintro D' H5 due hD b6 ⟨o7,e6,so7⟩ gd
    have er6:=b6 _ _ nra er5
    have pr6:=Rws.but e5 so6 b6 pr5
    subst hB
    walk_at "RD"
    refine ⟨⟨ra,_,rfl,er6⟩,fun t ht=>?_⟩
    have nt:ra ≠ t:=jaj er6 ht
    simp_arith [jb7 nt,er6]
    refine ⟨szl' (by omega),?_⟩
    have sA:=jag ht (.lst [.int (0 + (i:Int)),.int (0 + (i:Int) + 1 + j),.int due])
    have erA:=sA _ _ er6
    have eA:=ja1 (H:=H5) (a:=t) (o:=.lst [.int (0 + (i:Int)),.int (0 + (i:Int) + 1 + j),.int due])
    have prA:=Rws.same sA pr6
    generalize upd H5 t (.lst [.int (0 + (i:Int)),.int (0 + (i:Int) + 1 + j),.int due]) = HA at sA erA eA prA
    refine hD _ (rx ++ [.ref t]) (raw ++ [(0 + (i:Int),0 + (i:Int) + 1 + j,due)]) ⟨jfo ((b5.trans b6).trans (But.same sA)) hra,⟨o7,by rw [jb7 nra.symm]; exact sA _ _ e6,so7⟩,ja1,jbk (Rws.upd prA erA) ⟨t,rfl,by rw [jb7 nt.symm]; exact eA⟩,fun r hr=>?_⟩ (lr5.snoc (by omega) (by show 0 + (i:Int) = _; omega) (by show 0 + (i:Int) + 1 + j = _; omega) (by omega))
    rcases List.mem_append.mp hr with z | z
    ·exact gr5 r z
    ·rw [List.mem_singleton.mp z]; exact gd
   simp_arith [jbm,eh4,a1,a2]
   refine ite2 (fun c1=>?_) (fun c1=>skip H4 _ (But.refl _ _) ⟨o6,e5,so6⟩)
   have c1':nth hs (0 + (i:Int)) + nth hs (0 + (i:Int) + 1 + j) > 1:=of_decide_eq_true c1
   refine ⟨st,o6,5,rfl,e5,so6,by decide,by decide,fun d3 o7 d30 d31 so7=>?_⟩
   walk_at "RD"
   refine ite2 (fun c2=>?_) (fun c2=>skip _ _ (But.at _ _ _) ⟨o7,ja1,so7⟩)
   have eh5:upd H4 st o7 hl = some (.lst (hs.map V.int)):=by rw [jb7 nhl]; exact eh4
   simp_arith [jbm,eh5,a1,a2]
   have fin:∀ (H6:Hp) (rx:List V) (raw:List (Int × Int × Int)) (w3:Option V),But st H2 H6/\(∃ o',H6 st = some o'/\StO o')/\H6 ra = some (.lst rx)/\Rws H6 rx raw/\(∀ r ∈ raw,GR hs r)->LB raw (9 * i + (j + 1)) (i:Int) ((i:Int) + 1 + ((j + 1:Nat):Int))->∃ w2' w3' rx raw,[some (.ref st),some (.int 8),some (.int g),some (.int dn),some (.ref hl),some (.ref ra),some (.int (0 + (i:Int))),some (.int (0 + (i:Int) + 1 + j)),w3] = [some (.ref st),some (.int 8),some (.int g),some (.int dn),some (.ref hl),some (.ref ra),some (.int (0 + (i:Int))),w2',w3']/\But st H2 H6/\(∃ o',H6 st = some o'/\StO o')/\H6 ra = some (.lst rx)/\Rws H6 rx raw/\(∀ r ∈ raw,GR hs r)/\LB raw (9 * i + (j + 1)) (i:Int) ((i:Int) + 1 + ((j + 1:Nat):Int)):=fun H6 rx raw w3 z1 z2=>⟨_,_,rx,raw,rfl,z1.1,z1.2.1,z1.2.2.1,z1.2.2.2.1,z1.2.2.2.2,z2⟩
   refine ite2 (fun c3=>?_) (fun c3=>?_)
   ·have c3':nth hs (0 + (i:Int)) + nth hs (0 + (i:Int) + 1 + j) = 2:=of_decide_eq_true c3
    refine ⟨st,o7,4,rfl,ja1,so7,by decide,by decide,fun d4 o8 d40 d41 so8=>?_⟩
    simp_arith [jej]
    refine ite2 (fun c4=>?_) (fun c4=>?_)
    ·refine ⟨st,o8,g,rfl,ja1,so8,by omega,by omega,fun d5 o9 d50 d51 so9=>?_⟩
     simp_arith [jej]
     exact key _ _ _ (fun H6 rx raw z1 z2=>fin H6 rx raw _ z1 z2) (But.at _ _ _) ⟨o9,ja1,so9⟩ ⟨⟨by show 0 <= 0 + (i:Int); omega,by show 0 + (i:Int) < 0 + (i:Int) + 1 + j; omega,hjj⟩,by show 0 <= 1 + d5/\1 + d5 <= 1000000000; omega,by show 2 <= nth hs (0 + (i:Int)) + nth hs (0 + (i:Int) + 1 + j); omega,fun _=>c3'⟩
    ·exact key _ _ _ (fun H6 rx raw z1 z2=>fin H6 rx raw _ z1 z2) (But.at _ _ _) ⟨o8,ja1,so8⟩ ⟨⟨by show 0 <= 0 + (i:Int); omega,by show 0 + (i:Int) < 0 + (i:Int) + 1 + j; omega,hjj⟩,by show (0:Int) <= 0/\(0:Int) <= 1000000000; omega,by show 2 <= nth hs (0 + (i:Int)) + nth hs (0 + (i:Int) + 1 + j); omega,fun _=>c3'⟩
   ·exact key _ _ _ (fun H6 rx raw z1 z2=>fin H6 rx raw _ z1 z2) (But.at _ _ _) ⟨o7,ja1,so7⟩ ⟨⟨by show 0 <= 0 + (i:Int); omega,by show 0 + (i:Int) < 0 + (i:Int) + 1 + j; omega,hjj⟩,by show (0:Int) <= 0/\(0:Int) <= 1000000000; omega,by show 2 <= nth hs (0 + (i:Int)) + nth hs (0 + (i:Int) + 1 + j); omega,fun z=>absurd z (by show ¬ (0:Int) < 0; omega)⟩
  ·rintro σ H4 ⟨w2,w3,rx,raw,rfl,b5,z5,er5,pr5,gr5,lr5⟩
   exact ⟨_,_,_,rx,raw,rfl,b5,z5,er5,pr5,gr5,lr5.mono (by omega) (.inl (by omega))⟩
 rintro σ H3 ⟨w1,w2,w3,rx,raw,rfl,b4,⟨o5,e4,so5⟩,er,pr,gr,lr⟩
 walk_at "RD"
 refine ⟨st,hl,ra,o5,hs,rx,raw,rfl,e4,so5,b4 _ _ nhl eh,er,pr,⟨fun r hr=>(gr r hr).1,fun r hr=>(gr r hr).2.1.1,fun r hr=>(gr r hr).2.1.2,fun r hr=>(gr r hr).2.2.1,fun r hr=>(gr r hr).2.2.2,lr.2.1,by have:=lr.1; omega,hhs,ah⟩,fun t wv hl' da hx dx ns cs tw H4 o6 b5 e5 so6 et w5 eh5 ph5 ed pd L=>?_⟩
 exact h t wv hl' da hx dx hs ns cs raw tw H4 o6 (((b2.trans b3).trans b4).trans b5) e5 so6 et w5 eh5 ph5 ed pd L
end
end My
namespace L2
open PySem PySem.Spec PyProof.Rows
def jjk (C:Addr) (o:Option HO) (f:Str):Option V:=match o with
 | some (.ins C' _ fs)=>if C' = C then fs.lookup f else none
 | _=>none
def jfz (C:Addr) (o:Option HO) (m:Str):Bool:=match o with
 | some (.ins C' _ fs)=>decide (C' = C) && (fs.lookup m).isNone
 | _=>false
def fFld (C:Addr) (f:Str) (ta:TE):TE:=fun σ H Q=>ta σ H fun x H1=>match x with
 | .ref a=>match jjk C (H1 a) f with
  | some v=>Q v H1
  | none=>False
 | _=>False
def jb6 (C:Addr) (f:Str) (ta tv:TE):TS:=fun D σ H=>tv σ H fun y H1=>ta σ H1 fun x H2=>match x with
 | .ref a=>match H2 a with
  | some (.ins C' dx fs)=>C' = C/\fs.length < 1000/\D.nx σ (upd H2 a (.ins C dx (putF f y fs)))
  | _=>False
 | _=>False
def jay (C:Addr) (m:Str) (sp:Sp) (dvs:List V) (E:XK) (ta:TE) (t:TA):TE:=fun σ H Q=>ta σ H fun x H1=>match x with
 | .ref a=>jfz C (H1 a) m = true/\t σ H1 fun vs H2=>sp (.ref a :: (vs ++ dvs)) H2 Q E
 | _=>False
section
variable {X:Cx} {C:Addr}
theorem jsb {o:Option HO} {f:Str} {v:V} (h:jjk C o f = some v):∃ dx fs,o = some (.ins C dx fs)/\fs.lookup f = some v:=by
 unfold jjk at h
 split at h
 ·split at h
  ·rename_i c; subst c; exact ⟨_,_,rfl,h⟩
  ·cases h
 ·cases h
theorem jrx {o:Option HO} {m:Str} (h:jfz C o m = true):∃ dx fs,o = some (.ins C dx fs)/\fs.lookup m = none:=by
 unfold jfz at h
 split at h
 ·rw [Bool.and_eq_true] at h
  have c:=of_decide_eq_true h.1
  subst c
  exact ⟨_,_,rfl,Option.isNone_iff_eq_none.mp h.2⟩
 ·cases h
theorem jd4 {e:Expr} {f:Str} {pos:Pos} {ta:TE} (c:Cls X.K C) (n:jfb X.K C f) (he:PE X e ta) (hb:attributeBase e f X.env (eval e X.env) = eval e X.env):PE X (.Attribute e f pos) (fFld C f ta):=by
 intro pins s σ H Q I h
 refine jv9 hb (thn (he pins s σ H _ I h) fun u s1 ⟨x,H1,I1,rx,q⟩=>?_)
 dsimp only at q
 split at q
 ·rename_i a
  split at q
  ·rename_i v hv
   obtain ⟨dx,fs,ea,l⟩:=jsb hv
   obtain rfl:u = Value.ref a:=rx
   exact job I1 ea c n l fun u' s2 I2 ru=>⟨v,H1,I2,ru,q⟩
  ·exact q.elim
 ·exact q.elim
theorem jlq {o value:Expr} {f:Str} {pos pos':Pos} {ta tv:TE} (c:Cls X.K C) (n:jfb X.K C f) (ha:PE X o ta) (hv:PE X value tv) (hs:swapsWith value (some (.Attribute o f pos')) pos.line X.env = pure false):PS X (.Assign [.Attribute o f pos'] value pos) (jb6 C f ta tv):=by
 intro pins s σ H D I h
 refine plainObj_wpAny_Assign_Attribute (thn (hv pins s σ H _ I h) fun u s1 ⟨y,H1,I1,ry,q⟩=>thn (ha pins s1 σ H1 _ I1 q) fun ov s2 ⟨x,H2,I2,rx,q2⟩=>?_) hs
 dsimp only at q2
 split at q2
 ·rename_i a
  split at q2
  ·rename_i C' dx fs ea
   obtain ⟨rfl,l,q2⟩:=q2
   obtain rfl:ov = Value.ref a:=rx
   exact jnu I2 ea c n l ry fun s3 I3=>⟨σ,_,I3,q2⟩
  ·exact q2.elim
 ·exact q2.elim
theorem jnf {m:Str} {sp:Sp} {dvs:List V} {E:XK} {ta:TE} {t:TA} {ex:Expr} (h:PE X ex (jtn C m sp dvs E ta t)) (hmono:∀ pins s σ H Q Q',Inv X pins σ H s->(∀ x H1,Q x H1->Q' x H1)->ta σ H Q->ta σ H Q'):PE X ex (jay C m sp dvs E ta t):=by
 intro pins s σ H Q I q
 refine h pins s σ H Q I (hmono pins s σ H _ _ I (fun x H1 q=>?_) q)
 split at q
 ·rename_i a
  obtain ⟨dx,fs,e,l⟩:=jrx q.1
  exact ⟨a,dx,fs,rfl,e,l,q.2⟩
 ·exact q.elim
theorem jj9 {i:Nat}:∀ (pins:List (Addr × Obj)) s σ H Q Q',Inv X pins σ H s->(∀ x H1,Q x H1->Q' x H1)->fVar i σ H Q->fVar i σ H Q':=by
 intro pins s σ H Q Q' _ h q
 unfold fVar at q ⊢
 split
 ·rename_i v e
  rw [e] at q
  exact h _ _ q
 ·rename_i hne
  split at q
  ·rename_i v e; exact absurd e (hne v)
  ·exact q
theorem jd9 {CX:CXT} {k:Nat} {f:Addr} {fd:FuncData} {ps:List Str} {sp:Sp} {dvs:List V} {ds:List Value} {E:XK} {m:Str} {pos apos:Pos} {e o:Expr} {es:List Expr} {i:Nat} {t:TA} {pl:Sem Bool}
  (he:PE X o (fVar i)) (c:Cls X.K C) (hm:Meth X.K C m f) (F:FnOk X.prog X.w X.K X.mg X.base CX k f fd ps sp) (hr:Room k X.A) (hb:jfc X.K fd ps ds) (hd:Vals dvs ds) (hx:jfa CX X E) (ha:PA X (e :: es) t)
  (hst:starEach (e :: es) X.env = (false,eval e X.env) :: starEach es X.env:=by rfl) (hpl:(backTo pos (starEach es X.env)).any (·.1) = false:=by rfl)
  (ht:eval (.Call (.Attribute o m apos) (e :: es) [] pos) X.env = (do
   let ov <- eval o X.env
   standAt apos.atName
   let (f,first) <- holding [ov] (getMethod ov m pl)
   callWith pos f first (backTo pos (starEach (e :: es) X.env)) (backToKw pos (keywordEach [] X.env))):=by rfl) :
  PE X (.Call (.Attribute o m apos) (e :: es) [] pos) (jay C m sp dvs E (fVar i) t) :=
 jnf (ju5 (pl:=pl) he c hm F hr hb hd hx ha hst hpl ht) jj9
theorem jpm {CX:CXT} {k:Nat} {f:Addr} {fd:FuncData} {ps:List Str} {sp:Sp} {dvs:List V} {ds:List Value} {E:XK} {m:Str} {pos apos:Pos} {o:Expr} {i:Nat} {pl:Sem Bool}
  (he:PE X o (fVar i)) (c:Cls X.K C) (hm:Meth X.K C m f) (F:FnOk X.prog X.w X.K X.mg X.base CX k f fd ps sp) (hr:Room k X.A) (hb:jfc X.K fd ps ds) (hd:Vals dvs ds) (hx:jfa CX X E)
  (ht:eval (.Call (.Attribute o m apos) [] [] pos) X.env = (do
   let ov <- eval o X.env
   standAt apos.atName
   let (f,first) <- holding [ov] (getMethod ov m pl)
   callWith pos f first (backTo pos (starEach [] X.env)) (backToKw pos (keywordEach [] X.env))):=by rfl) :
  PE X (.Call (.Attribute o m apos) [] [] pos) (jay C m sp dvs E (fVar i) tNil) :=
 jnf (jro (pl:=pl) he c hm F hr hb hd hx ht) jj9
end
section
variable {X:Cx}
def jac (td ty:TE):TE:=fun σ H Q=>td σ H fun x H1=>match x with
 | .ref a=>(∃ kvs,H1 a = some (.dK kvs))/\ty σ H1 fun y H2=>match y with
  | .int n=>match H2 a with
   | some (.dK kvs)=>Q ((valV kvs (Sum.inl n:Key)).getD .non) H2
   | _=>False
  | _=>False
 | _=>False
theorem jtz {o e:Expr} {apos cpos:Pos} {td ty:TE} (hu:X.A.units + 1 < cLine) (ho:PE X o td) (he:PE X e ty) (m:M1 X o "get" apos e cpos:=by exact ⟨rfl,rfl,rfl,rfl⟩):PE X (.Call (.Attribute o "get" apos) [e] [] cpos) (jac td ty):=by
 intro pins s σ H Q I h
 refine wpAny_Call_method m.base m.few m.line PySem.F.plainAttrs_dict PySem.F.slot_dict_get PySem.F.type_dict_get (thn (ho pins s σ H _ I h) fun u s1 ⟨x,H1,I1,rx,q1⟩=>?_)
 dsimp only at q1
 split at q1
 ·rename_i a
  obtain ⟨⟨kvs0,e0⟩,q1⟩:=q1
  obtain rfl:u = Value.ref a:=rx
  obtain ⟨t1,t2,_⟩:=isD_at I1 (.inl ⟨kvs0,.inl e0⟩)
  refine ⟨t1,t2,?_⟩
  rw [m.trees]
  refine Calls.callWith_builtin rfl (Calls.evalArgs_plain (Calls.spliced_cons (thn (he pins s1 σ H1 _ I1 q1) fun iv s2 ⟨y,H2,I2,ry,q2⟩=>Calls.spliced_nil ?_)))
  dsimp only at q2
  split at q2
  ·rename_i n
   split at q2
   ·rename_i kvs ea
    exact dzb hu I2 (DGet.k (k:=Sum.inl n) ea) ry fun w' s3 I3 rw'=>⟨_,H2,I3,rw',q2⟩
   ·exact q2.elim
  ·exact q2.elim
 ·exact q1.elim
def jaa (i:Nat):TE:=fun σ H Q=>match σ[i]? with
 | some (some (.int n))=>∀ p,H p = none->Q (.ref p) (upd H p (.dK [(Sum.inl n,.non)]))
 | _=>False
theorem jtj {H:Hp} {p:Addr} {a b:HO}:upd (upd H p a) p b = upd H p b:=by
 funext x
 by_cases c:x = p
 ·rw [c,ja1,ja1]
 ·rw [jb7 c,jb7 c,jb7 c]
theorem jrq {pos:Pos} {k v:Expr} {i:Nat} (hk:PE X k (fVar i)) (hv:PE X v (tC .non)):PE X (.Dict [some k] [v] pos) (jaa i):=by
 intro pins s σ H Q I q
 refine ju7 (jrk hk hv ju1) rfl rfl (fun z=>nomatch z) (Nat.le_of_ble_eq_true rfl) pins s σ H Q I ?_
 intro p hp
 unfold jaa at q
 split at q
 ·rename_i n e
  show fVar i σ (upd H p (.dK [])) _
  unfold fVar
  rw [e]
  show tC V.non σ _ _
  refine ⟨ja1,[(Sum.inl n,.non)],rfl,Nat.le_of_ble_eq_true rfl,?_⟩
  rw [jtj]
  exact q p hp
 ·exact q.elim
def jb1:V->V->Hp->VK->Prop:=fun o i H Q=>match o,i with
 | .ref p,.int k=>match H p with
  | some (.lst xs)=>0 <= k/\match atI xs k with
   | some v=>Q v H
   | none=>False
  | _=>False
 | _,_=>False
theorem jl2:PGet X jb1:=by
 intro pins s σ H o i ov iv Q I ro ri h
 unfold jb1 at h
 split at h
 ·rename_i p k
  split at h
  ·rename_i xs hp
   obtain ⟨k0,h⟩:=h
   split at h
   ·rename_i v hv
    cases ro
    obtain ⟨t,rfl⟩:=ri
    obtain ⟨its,r,pl,hz⟩:=I.list (SqL.of hp)
    obtain ⟨j,h1,h2,h3,h4,h5⟩:=jmn hv
    obtain ⟨w,ew,rw'⟩:=r.get h2
    have hn:=ji1
    have hj:k.toNat = j:=by
     rw [seqIndex_of k0 h5] at h1
     exact Option.some.inj h1
    exact wpAny_getItem_list pl.isList k0 (by omega) (by rw [hj]; simpa using ew) ⟨v,H,I,rw',h⟩
   ·exact h.elim
  ·exact h.elim
 ·exact h.elim
def jb2:TIp:=fun x y H Q=>match x,y with
 | .int i,.int j=>Q (.int (i - j)) H
 | _,_=>False
def jb3:TIp:=fun x y H Q=>match x,y with
 | .int i,.int j=>Q (.int (i + j)) H
 | _,_=>False
theorem juq:PIp X .Sub jb2:=by
 intro pins s σ H x y v u Q I r1 r2 h
 unfold jb2 at h
 split at h
 ·rename_i i j
  obtain ⟨t,rfl⟩:=(show ∃ t,v = Value.int i t from r1)
  obtain ⟨t',rfl⟩:=(show ∃ t,u = Value.int j t from r2)
  exact PyProof.Rows.isub_int ⟨.int (i - j),H,I.tok _,⟨_,rfl⟩,h⟩
 ·exact h.elim
theorem jus:PIp X .Add jb3:=by
 intro pins s σ H x y v u Q I r1 r2 h
 unfold jb3 at h
 split at h
 ·rename_i i j
  obtain ⟨t,rfl⟩:=(show ∃ t,v = Value.int i t from r1)
  obtain ⟨t',rfl⟩:=(show ∃ t,u = Value.int j t from r2)
  exact PyProof.Rows.iadd_int ⟨.int (i + j),H,I.tok _,⟨_,rfl⟩,h⟩
 ·exact h.elim
def fXor:R2:=fun x y H Q=>match x,y with
 | .int i,.int j=>Q (.int (Builtin.bitXor i j)) H
 | _,_=>False
theorem q_xor:OpR X (binaryOp .BitXor) fXor:=by
 intro pins s σ H x y v u Q I r1 r2 h
 unfold fXor at h
 split at h
 ·rename_i i j
  obtain ⟨t,rfl⟩:=(show ∃ t,v = Value.int i t from r1)
  obtain ⟨t',rfl⟩:=(show ∃ t,u = Value.int j t from r2)
  exact PyProof.Rows.xor_int ⟨.int (Builtin.bitXor i j),H,I.tok _,⟨_,rfl⟩,h⟩
 ·exact h.elim
theorem jth (w:Nat):Builtin.bitXor (w:Int) 1 = ((if w % 2 = 0 then w + 1 else w - 1:Nat):Int):=by
 have h1:(w ||| 1:Nat) = 2 * (w / 2) + 1:=by
  have a:=Nat.or_div_two (a:=w) (b:=1)
  have b:(w ||| 1) % 2 = 1:=by rw [Nat.or_mod_two_eq_one]; right; rfl
  rw [show 1 / 2 = 0 from rfl,Nat.or_zero] at a
  omega
 have h2:(w &&& 1:Nat) = w % 2:=Nat.and_one_is_mod w
 have n1:¬ (0:Int) <= -(w:Int) - 1:=by omega
 have e:Builtin.bitXor (w:Int) 1 = ((w ||| 1:Nat):Int) - ((w &&& 1:Nat):Int):=by
  unfold Builtin.bitXor Builtin.bitOr Builtin.bitAnd Builtin.bitNot
  simp only [decide_eq_false n1,show decide ((0:Int) <= -(1:Int) - 1) = false from rfl,show decide ((0:Int) <= (w:Int)) = true from decide_eq_true (by omega),show decide ((0:Int) <= 1) = true from rfl]
  simp only [show (-(-(w:Int) - 1) - 1).toNat = w by omega,show (-(-(1:Int) - 1) - 1).toNat = 1 from rfl,show ((w:Int)).toNat = w from rfl,show ((1:Int)).toNat = 1 from rfl]
  omega
 rw [e,h1,h2]
 split <;> omega
def alt {α:Type}:Bool->List α->List α
 | _,[]=>[]
 | true,x :: xs=>x :: alt false xs
 | false,_ :: xs=>alt true xs
def fAlt (b:Bool) (te:TE):TE:=fun σ H Q=>te σ H fun x H1=>match x with
 | .ref a=>match H1 a with
  | some (.lst xs)=>∀ p,H1 p = none->Q (.ref p) (upd H1 p (.lst (alt b xs)))
  | _=>False
 | _=>False
theorem jie:∀ (b:Bool) {vs:List V} {us:List Value},Vals vs us->Vals (alt b vs) (alt b us)
 | _,_,_,.nil=>by cases ‹Bool› <;> exact .nil
 | true,_,_,.cons r t=>.cons r (jie false t)
 | false,_,_,.cons _ t=>jie true t
theorem jmp {α:Type}:∀ (b:Bool) (xs:List α),(alt b xs).length <= xs.length
 | true,[]=>Nat.le_refl _
 | false,[]=>Nat.le_refl _
 | true,x :: xs=>by have:=jmp false xs; show (alt false xs).length + 1 <= xs.length + 1; omega
 | false,x :: xs=>by have:=jmp true xs; show (alt true xs).length <= xs.length + 1; omega
theorem jic {α:Type}:∀ (b:Bool) (xs:List α) (i:Nat),(alt b xs)[i]? = xs[2 * i + (if b then 0 else 1)]?
 | true,[],i=>by simp [alt]
 | false,[],i=>by simp [alt]
 | true,x :: xs,0=>rfl
 | true,x :: xs,i + 1=>by
  show (alt false xs)[i]? = _
  rw [jic false xs i,if_pos rfl,if_neg (by decide),show 2 * (i + 1) + 0 = (2 * i + 1) + 1 by omega,List.getElem?_cons_succ]
 | false,x :: xs,i=>by
  show (alt true xs)[i]? = _
  rw [jic true xs i,if_pos rfl,if_neg (by decide),List.getElem?_cons_succ]
  rfl
theorem jrl (its:List Value) (b:Bool) (hb:b = false->0 < its.length):slicePick its.toArray (some (if b then 0 else 1)) none (some 2) = (alt b its).toArray:=by
 unfold slicePick
 congr 1
 have h1:sliceBounds (some (if b then 0 else 1)) none (some 2) its.toArray.size = (((if b then 0 else 1:Nat):Int),(its.length:Int),2):=by
  cases b
  ·have:=hb rfl
   simp [sliceBounds]
   omega
  ·simp [sliceBounds]
   omega
 rw [h1]
 dsimp only
 have h2:∀ c:Nat,sliceRange ((c:Nat):Int) (its.length:Int) 2 = (List.range ((its.length + 1 - c) / 2)).map fun k=>c + 2 * k:=fun c=>by
  unfold sliceRange
  dsimp only
  rw [if_pos (by decide)]
  have e:(if (c:Int) < (its.length:Int) then ((its.length:Int) - c + 2 - 1) / 2 else 0).toNat = (its.length + 1 - c) / 2:=by
   split <;> omega
  rw [e]
  exact List.map_congr_left fun k _=>by omega
 rw [h2,List.filterMap_map]
 have h3:∀ (l:List Nat),(∀ k ∈ l,(if b then 0 else 1) + 2 * k < its.length)->l.filterMap ((fun x=>its.toArray[x]?) ∘ fun k=>(if b then 0 else 1) + 2 * k) = l.map fun k=>its.getD ((if b then 0 else 1) + 2 * k) .none:=fun l=>by
  induction l with
  | nil=>intro _; rfl
  | cons k r ih =>
   intro hk
   have hk0:=hk k (.head _)
   rw [List.filterMap_cons]
   have e:((fun x=>its.toArray[x]?) ∘ fun k=>(if b then 0 else 1) + 2 * k) k = some (its.getD ((if b then 0 else 1) + 2 * k) .none):=by
    show its.toArray[(if b then 0 else 1) + 2 * k]? = _
    rw [List.getElem?_toArray,List.getD_eq_getElem?_getD,gE hk0]
    rfl
   rw [e]
   dsimp only
   rw [List.map_cons,ih fun j hj=>hk j (.tail _ hj)]
 rw [h3 _ fun k hk=>by have:=List.mem_range.mp hk; cases b <;> simp only [if_true,if_false,Bool.false_eq_true] at this ⊢ <;> omega]
 apply List.ext_getElem?
 intro i
 rw [jic,List.getElem?_map]
 by_cases c:2 * i + (if b then 0 else 1) < its.length
 ·rw [List.getElem?_range (by cases b <;> simp only [if_true,if_false,Bool.false_eq_true] at c ⊢ <;> omega)]
  show some (its.getD _ .none) = _
  rw [List.getD_eq_getElem?_getD,Nat.add_comm,gE c]
  rfl
 ·rw [List.getElem?_eq_none (by rw [List.length_range]; cases b <;> simp only [if_true,if_false,Bool.false_eq_true] at c ⊢ <;> omega),List.getElem?_eq_none (by omega)]
  rfl
theorem jpo {b:Bool} {c:Int} (hc:c = if b then 0 else 1) {e:Expr} {te:TE} {k k2:Nat} {z1 z2 p2 pos:Pos} (he:PE X e te):PE X (.Subscript e (.Slice (some (.Constant (.int c) k2 z2)) none (some (.Constant (.int 2) k z1)) p2) pos) (fAlt b te):=by
 intro pins s σ H Q I h
 refine Subscript_ (thn (he pins s σ H _ I h) fun v s1 ⟨x,H1,I1,r1,q1⟩=>?_)
 refine wpAny_Slice ?_
 simp only [evalPart_none]
 rw [evalPart_some]
 refine thn ((jai (i:=c) (j:=k2) (pos:=z2):PE X _ _) pins s1 σ H1 (fun y H2=>y = .int c/\H2 = H1) I1 ⟨rfl,rfl⟩) fun st s2 ⟨y,H2,I2,r2,ey,eh⟩=>?_
 subst ey eh
 obtain ⟨t1,rfl⟩:=r2
 refine wpAny_pure ?_
 rw [evalPart_some]
 refine thn ((jai (i:=2) (j:=k) (pos:=z1):PE X _ _) pins s2 σ H2 (fun y H3=>y = .int 2/\H3 = H2) I2 ⟨rfl,rfl⟩) fun st s3 ⟨y,H3,I3,r3,ey,eh⟩=>?_
 subst ey eh
 obtain ⟨t2,rfl⟩:=r3
 split at q1
 ·rename_i a
  split at q1
  ·rename_i xs ea
   cases r1
   have I4:Inv X pins σ H3 { s3 with heap:=s3.heap.push { cls:=.type "slice",data:=.fields #[.int c t1,.none,.int 2 t2] } }:=I3.kept (t':=s3.toks) fun b ob q=>Heap.get?_push_of_some _ q
   obtain ⟨its,r,ht,hz⟩:=I4.list (SqL.of ea)
   have hlen:=r.length
   show wpAny (model X.prog X.w) X.A (subscriptTail e (.Slice (some (.Constant (.int c) k2 z2)) none (some (.Constant (.int 2) k z1)) p2) (.ref a) (.ref s3.heap.objs.size)) (EP X pins σ Q) X.xe { s3 with heap:=s3.heap.push { cls:=.type "slice",data:=.fields #[.int c t1,.none,.int 2 t2] } }
   refine tail_any (ops:=[.ref a,.ref s3.heap.objs.size]) ht.isList.typeIs slot_list_getitem.lookup ?_ (by with_unfolding_all rfl)
   refine wpAny_getItem_list_slice ht.isList (Heap.IsSliceOf.new ..) (.int _ t1) .none (.int 2 t2) (by decide) ?_ (by rw [List.size_toArray] <;> omega)
   by_cases hb:b = false->0 < its.length
   ·rw [show slicePick its.toArray (some c) none (some 2) = (alt b its).toArray from by rw [hc]; exact jrl _ _ hb]
    refine ⟨.ref _,_,I4.laid (t':=s3.toks) (o:=.lst (alt b xs)) (fun b ob q=>Heap.get?_push_of_some _ q) (Nat.le_refl _) ?_,rfl,q1 _ (I4.hok.fresh (Nat.le_refl _))⟩
    exact ⟨by have:=jmp b xs; omega,_,0,jie b r,Heap.get?_push_size _ rfl⟩
   ·have hi:its = []:=Classical.byContradiction fun z=>hb fun _=>List.length_pos_iff.mpr z
    have hx:xs = []:=List.length_eq_zero_iff.mp (by rw [hi] at hlen; exact hlen)
    subst hi hx
    have e2:alt b ([]:List V) = []:=by cases b <;> rfl
    rw [e2] at q1
    have e3:slicePick ([]:List Value).toArray (some c) none (some 2) = ([]:List Value).toArray:=by rw [hc]; cases b <;> rfl
    rw [e3]
    refine ⟨.ref _,_,I4.laid (t':=s3.toks) (o:=.lst []) (fun b ob q=>Heap.get?_push_of_some _ q) (Nat.le_refl _) ?_,rfl,q1 _ (I4.hok.fresh (Nat.le_refl _))⟩
    exact ⟨Nat.zero_le _,_,0,.nil,Heap.get?_push_size _ rfl⟩
  ·exact q1.elim
 ·exact q1.elim
def jap (ta:TE):TT:=fun σ H Q=>ta σ H fun x H1=>match x with
 | .ref a=>match H1 a with
  | some (.lst xs)=>Q (!xs.isEmpty) H1
  | _=>False
 | _=>False
theorem ju0 {a:Expr} {i:Nat} (ha:PE X a (fVar i)) (he:∀ whole,isTrue a X.env whole = (do let v <- whole; standAt a.pos; holding [v] (truthy v)):=by exact fun _=>rfl):PT X a (jap (fVar i)):=by
 intro pins s σ H Q I h
 refine jri ha he pins s σ H Q I ?_
 show fVar i σ H _
 have h:fVar i σ H _:=h
 refine jj9 pins s σ H _ _ I (fun x H1 q=>?_) h
 split at q
 ·rename_i a
  split at q
  ·rename_i xs e
   exact ⟨_,.inl ⟨xs,SqL.of e,rfl⟩,q⟩
  ·exact q.elim
 ·exact q.elim
end
end L2
namespace Fl
structure Tw where
 a:Int
 b:Int
 x:Int
 y:Int
def pick (n m v:Int):Int:=if n = m then v else 0
theorem je0 (n v:Int):pick n n v = v:=by unfold pick; rw [if_pos rfl]
theorem jcd {n m:Int} (h:n ≠ m) (v:Int):pick n m v = 0:=by unfold pick; rw [if_neg h]
theorem sum_one (c:Int->Int) (a x:Int):∀ {ns:List Int},ns.Nodup->a ∈ ns->(ns.map fun p=>c p * pick a p x).sum = c a * x
 | [],_,h=>by cases h
 | n :: ns,nd,h=>by
  rw [List.map_cons,List.sum_cons]
  have nd':=List.nodup_cons.mp nd
  by_cases e:a = n
  ·subst e
   have h0:∀ {l:List Int},a ∉ l->(l.map fun p=>c p * pick a p x).sum = 0:=by
    intro l
    induction l with
    | nil=>intro _; rfl
    | cons m l ih =>
     intro hm
     rw [List.map_cons,List.sum_cons,jcd (fun z:a = m=>hm (by rw [z]; exact List.mem_cons_self ..)),Int.mul_zero,ih fun z=>hm (List.mem_cons_of_mem _ z)]
     rfl
   rw [je0,h0 nd'.1,Int.add_zero]
  ·have hm:a ∈ ns:=(List.mem_cons.mp h).resolve_left e
   rw [jcd e,Int.mul_zero,sum_one c a x nd'.2 hm,Int.zero_add]
theorem sum_add {α:Type} (f g:α->Int):∀ (l:List α),(l.map fun p=>f p + g p).sum = (l.map f).sum + (l.map g).sum
 | []=>rfl
 | a :: l=>by
  rw [List.map_cons,List.map_cons,List.map_cons,List.sum_cons,List.sum_cons,List.sum_cons,sum_add f g l]
  omega
theorem sum_zero {α:Type}:∀ (l:List α),(l.map fun _=>(0:Int)).sum = 0
 | []=>rfl
 | _ :: l=>by rw [List.map_cons,List.sum_cons,sum_zero l]; rfl
theorem sum_congr {α:Type} {f g:α->Int}:∀ {l:List α},(∀ p ∈ l,f p = g p)->(l.map f).sum = (l.map g).sum
 | [],_=>rfl
 | a :: l,h=>by
  rw [List.map_cons,List.map_cons,List.sum_cons,List.sum_cons,h a (List.mem_cons_self ..),sum_congr fun p hp=>h p (List.mem_cons_of_mem _ hp)]
def outL (zs:List Tw) (p:Int):Int:=(zs.map fun z=>pick z.a p z.x + pick z.b p z.y).sum
def inR (zs:List Tw) (p:Int):Int:=(zs.map fun z=>pick z.b p z.x + pick z.a p z.y).sum
theorem jgc (c:Int->Int) {ns:List Int} (nd:ns.Nodup):∀ {zs:List Tw},(∀ z ∈ zs,z.a ∈ ns/\z.b ∈ ns)->(ns.map fun p=>c p * outL zs p).sum = (zs.map fun z=>c z.a * z.x + c z.b * z.y).sum
 | [],_=>by
  show (ns.map fun p=>c p * 0).sum = 0
  rw [sum_congr (g:=fun _=>0) fun p _=>Int.mul_zero _,sum_zero]
 | z :: zs,h=>by
  have hz:=h z (List.mem_cons_self ..)
  have e:∀ p ∈ ns,c p * outL (z :: zs) p = (c p * pick z.a p z.x + c p * pick z.b p z.y) + c p * outL zs p:=fun p _=>by
   unfold outL
   rw [List.map_cons,List.sum_cons,Int.mul_add,Int.mul_add]
  rw [sum_congr e,sum_add,sum_add,sum_one c _ _ nd hz.1,sum_one c _ _ nd hz.2,jgc c nd fun z hz=>h z (List.mem_cons_of_mem _ hz),List.map_cons,List.sum_cons]
theorem jmq (c:Int->Int) {ns:List Int} (nd:ns.Nodup):∀ {zs:List Tw},(∀ z ∈ zs,z.a ∈ ns/\z.b ∈ ns)->(ns.map fun p=>c p * inR zs p).sum = (zs.map fun z=>c z.b * z.x + c z.a * z.y).sum
 | [],_=>by
  show (ns.map fun p=>c p * 0).sum = 0
  rw [sum_congr (g:=fun _=>0) fun p _=>Int.mul_zero _,sum_zero]
 | z :: zs,h=>by
  have hz:=h z (List.mem_cons_self ..)
  have e:∀ p ∈ ns,c p * inR (z :: zs) p = (c p * pick z.b p z.x + c p * pick z.a p z.y) + c p * inR zs p:=fun p _=>by
   unfold inR
   rw [List.map_cons,List.sum_cons,Int.mul_add,Int.mul_add]
  rw [sum_congr e,sum_add,sum_add,sum_one c _ _ nd hz.2,sum_one c _ _ nd hz.1,jmq c nd fun z hz=>h z (List.mem_cons_of_mem _ hz),List.map_cons,List.sum_cons]
structure Full (ns:List Int) (pr:Int->Int) (zs:List Tw) (fs ft:Int->Int) (SL SR:Int->Bool):Prop where
 nd:ns.Nodup
 ends:∀ z ∈ zs,z.a ∈ ns/\z.b ∈ ns
 pos:∀ z ∈ zs,0 <= z.x/\0 <= z.y
 left:∀ p ∈ ns,fs p = outL zs p
 right:∀ p ∈ ns,ft p = inR zs p
 capL:∀ p ∈ ns,0 <= fs p/\fs p <= pr p
 capR:∀ p ∈ ns,0 <= ft p/\ft p <= pr p
 satL:∀ p ∈ ns,SL p = false->fs p = pr p
 satR:∀ p ∈ ns,SR p = true->ft p = pr p
 go:∀ z ∈ zs,(SL z.a = true->SR z.b = true)/\(SL z.b = true->SR z.a = true)
 zero:∀ z ∈ zs,(SR z.b = true->SL z.a = false->z.x = 0)/\(SR z.a = true->SL z.b = false->z.y = 0)
def one (b:Bool):Int:=if b = true then 1 else 0
def halfOf (SL SR:Int->Bool) (p:Int):Int:=(1 - one (SL p)) + one (SR p)
theorem jt1 (b:Bool):0 <= one b/\one b <= 1:=by cases b <;> decide
section
variable {ns:List Int} {pr:Int->Int} {zs:List Tw} {fs ft:Int->Int} {SL SR:Int->Bool}
theorem half_in (p:Int):0 <= halfOf SL SR p/\halfOf SL SR p <= 2:=by
 unfold halfOf
 have:=jt1 (SL p)
 have:=jt1 (SR p)
 omega
theorem Full.two (F:Full ns pr zs fs ft SL SR):∀ z ∈ zs,2 <= halfOf SL SR z.a + halfOf SL SR z.b:=fun z hz=>by
 obtain ⟨g1,g2⟩:=F.go z hz
 unfold halfOf one
 cases h1:SL z.a <;> cases h2:SL z.b <;> cases h3:SR z.a <;> cases h4:SR z.b <;> simp_all
theorem Full.worth (F:Full ns pr zs fs ft SL SR):(zs.map fun z=>z.x + z.y).sum = (ns.map fun p=>pr p * halfOf SL SR p).sum:=by
 have h1:(zs.map fun z=>z.x + z.y).sum = (ns.map fs).sum:=by
  have:=jgc (fun _=>1) F.nd (zs:=zs) F.ends
  rw [sum_congr (g:=fs) (fun p hp=>by rw [Int.one_mul,F.left p hp])] at this
  rw [this]
  exact sum_congr fun z _=>by rw [Int.one_mul,Int.one_mul]
 have h2:(ns.map fs).sum = (ns.map fun p=>(1 - one (SL p)) * pr p).sum + (ns.map fun p=>one (SL p) * outL zs p).sum:=by
  rw [<- sum_add]
  refine sum_congr fun p hp=>?_
  cases e:SL p with
  | true=>rw [<- F.left p hp]; show fs p = (1 - 1) * pr p + 1 * fs p; omega
  | false=>rw [F.satL p hp e]; show pr p = (1 - 0) * pr p + 0 * outL zs p; omega
 have h3:(ns.map fun p=>one (SL p) * outL zs p).sum = (ns.map fun p=>one (SR p) * inR zs p).sum:=by
  rw [jgc _ F.nd F.ends,jmq _ F.nd F.ends]
  refine sum_congr fun z hz=>?_
  obtain ⟨g1,g2⟩:=F.go z hz
  obtain ⟨z1,z2⟩:=F.zero z hz
  have e1:one (SL z.a) * z.x = one (SR z.b) * z.x:=by
   cases h1:SL z.a with
   | true=>rw [g1 h1]
   | false =>
    cases h2:SR z.b with
    | false=>rfl
    | true=>rw [z1 h2 h1]; rfl
  have e2:one (SL z.b) * z.y = one (SR z.a) * z.y:=by
   cases h1:SL z.b with
   | true=>rw [g2 h1]
   | false =>
    cases h2:SR z.a with
    | false=>rfl
    | true=>rw [z2 h2 h1]; rfl
  rw [e1,e2]
 have h4:(ns.map fun p=>one (SR p) * inR zs p).sum = (ns.map fun p=>one (SR p) * pr p).sum:=sum_congr fun p hp=>by
  cases e:SR p with
  | true=>rw [<- F.right p hp,F.satR p hp e]
  | false=>show 0 * _ = 0 * _; omega
 rw [h1,h2,h3,h4,<- sum_add]
 refine sum_congr fun p _=>?_
 unfold halfOf
 rw [Int.mul_add,Int.mul_comm (pr p),Int.mul_comm (pr p)]
end
end Fl
namespace Fl
def mate (w:Nat):Nat:=if w % 2 = 0 then w + 1 else w - 1
theorem jkt (w:Nat):mate (mate w) = w:=by unfold mate; split <;> split <;> omega
theorem mate_ne (w:Nat):mate w ≠ w:=by unfold mate; split <;> omega
theorem mate_lt {w m:Nat} (h:w < 2 * m):mate w < 2 * m:=by unfold mate; split <;> omega
def at' (l:List Int) (i:Nat):Int:=l.getD i 0
theorem at_set (l:List Int) (i j:Nat) (v:Int):at' (l.set i v) j = if i = j/\j < l.length then v else at' l j:=by
 unfold at'
 rw [List.getD_eq_getElem?_getD,List.getD_eq_getElem?_getD,List.getElem?_set]
 by_cases h:i = j
 ·by_cases h2:j < l.length
  ·rw [if_pos h,if_pos (by omega),if_pos ⟨h,h2⟩]; rfl
  ·rw [if_pos h,if_neg (by omega),if_neg (fun z=>h2 z.2),List.getElem?_eq_none (by omega)]
 ·rw [if_neg h,if_neg (fun z=>h z.1)]
def bump (r:List Int) (w:Nat) (a:Int):List Int:=(r.set w (at' r w - a)).set (mate w) (at' r (mate w) + a)
theorem jjq (r:List Int) (w:Nat) (a:Int):(bump r w a).length = r.length:=by unfold bump; rw [List.length_set,List.length_set]
theorem jmm {r:List Int} {w m:Nat} {a:Int} (hl:r.length = 2 * m) (hw:w < 2 * m) (j:Nat):at' (bump r w a) j = at' r j - (if j = w then a else 0) + (if j = mate w then a else 0):=by
 unfold bump
 rw [at_set,at_set]
 have hm:=mate_lt hw
 have hn:=mate_ne w
 rw [List.length_set,hl]
 by_cases h1:j = mate w
 ·subst h1
  rw [if_pos ⟨rfl,hm⟩,if_neg hn,if_pos rfl]
  omega
 ·rw [if_neg (fun z=>h1 z.1.symm),if_neg h1]
  by_cases h2:j = w
  ·subst h2
   rw [if_pos ⟨rfl,hw⟩,if_pos rfl]
   omega
  ·rw [if_neg (fun z=>h2 z.1.symm),if_neg h2]
   omega
theorem jds {g g':Nat->Int}:∀ {m k0:Nat},k0 < m->(∀ k,k ≠ k0->g' k = g k)->((List.range m).map g').sum = ((List.range m).map g).sum + (g' k0 - g k0)
 | 0,_,h,_=>by omega
 | m + 1,k0,h,he=>by
  rw [List.range_succ,List.map_append,List.map_append,List.sum_append,List.sum_append]
  show _ + (g' m + 0) = _ + (g m + 0) + _
  by_cases c:k0 = m
  ·subst c
   have e:((List.range k0).map g').sum = ((List.range k0).map g).sum:=sum_congr fun k hk=>he k (by have:=List.mem_range.mp hk; omega)
   rw [e]
   omega
  ·rw [jds (m:=m) (k0:=k0) (by omega) he,he m (fun z=>c z.symm)]
   omega
def ex (hs:List Int) (m:Nat) (r:List Int) (v:Int):Int:=((List.range m).map fun k=>pick (at' hs (2 * k)) v (at' r (2 * k + 1)) - pick (at' hs (2 * k + 1)) v (at' r (2 * k + 1))).sum
theorem jn7 (n v a b:Int):pick n v (a + b) = pick n v a + pick n v b:=by unfold pick; split <;> omega
theorem jn6 (n v a b:Int):pick n v (a - b) = pick n v a - pick n v b:=by unfold pick; split <;> omega
theorem juz {hs r:List Int} {m w:Nat} {a:Int} (hl:r.length = 2 * m) (hw:w < 2 * m) (v:Int):ex hs m (bump r w a) v = ex hs m r v + pick (at' hs w) v a - pick (at' hs (mate w)) v a:=by
 unfold ex
 have hk:w / 2 < m:=by omega
 rw [jds (g:=fun k=>pick (at' hs (2 * k)) v (at' r (2 * k + 1)) - pick (at' hs (2 * k + 1)) v (at' r (2 * k + 1))) hk (fun k hne=>?_)]
 ·rw [jmm hl hw]
  by_cases c:w % 2 = 0
  ·have e1:mate w = w + 1:=by unfold mate; rw [if_pos c]
   have e2:2 * (w / 2) = w:=by omega
   rw [e2,e1,if_neg (by omega),if_pos rfl,Int.sub_zero,jn7,jn7]
   omega
  ·have e1:mate w = w - 1:=by unfold mate; rw [if_neg c]
   have e2:2 * (w / 2) + 1 = w:=by omega
   have e3:2 * (w / 2) = w - 1:=by omega
   rw [e2,e3,e1,if_pos rfl,if_neg (by omega),Int.add_zero,jn6,jn6]
   omega
 ·rw [jmm hl hw,if_neg (by omega),if_neg (by unfold mate; split <;> omega),Int.sub_zero,Int.add_zero]
def push (r:List Int) (tr:List Nat) (a:Int):List Int:=tr.foldl (fun r w=>bump r w a) r
theorem push_len:∀ (tr:List Nat) (r:List Int) (a:Int),(push r tr a).length = r.length
 | [],_,_=>rfl
 | w :: tr,r,a=>by
  show (push (bump r w a) tr a).length = _
  rw [push_len tr,jjq]
def jsm (hs:List Int):Int->List Nat->Int->Prop
 | t,[],s=>t = s
 | t,w :: tr,s=>at' hs w = t/\jsm hs (at' hs (mate w)) tr s
theorem jqm {hs:List Int} {m:Nat} {a:Int} {s:Int} (v:Int):∀ {tr:List Nat} {r:List Int} {t:Int},r.length = 2 * m->(∀ w ∈ tr,w < 2 * m)->jsm hs t tr s->ex hs m (push r tr a) v = ex hs m r v + pick t v a - pick s v a
 | [],r,t,_,_,h=>by
  have h:t = s:=h
  subst h
  show ex hs m r v = _
  omega
 | w :: tr,r,t,hl,hw,h=>by
  show ex hs m (push (bump r w a) tr a) v = _
  obtain ⟨h1,h2⟩:=h
  rw [jqm v (by rw [jjq]; exact hl) (fun x hx=>hw x (List.mem_cons_of_mem _ hx)) h2,juz hl (hw w (List.mem_cons_self ..)),h1]
  omega
theorem jkq (a:Int) (n:Nat):a * ((n + 1:Nat):Int) = a * (n:Int) + a:=by rw [Int.natCast_add,Int.mul_add]; show _ + a * 1 = _; rw [Int.mul_one]
theorem jiy {m:Nat} {a:Int} (j:Nat):∀ {tr:List Nat} {r:List Int},r.length = 2 * m->(∀ w ∈ tr,w < 2 * m)->at' (push r tr a) j = at' r j - a * (tr.count j:Int) + a * (tr.count (mate j):Int)
 | [],r,_,_=>by
  show at' r j = at' r j - a * 0 + a * 0
  omega
 | w :: tr,r,hl,hw=>by
  show at' (push (bump r w a) tr a) j = _
  have hm:(j = mate w) ↔ (w = mate j):=⟨fun z=>by rw [z,jkt],fun z=>by rw [z,jkt]⟩
  rw [jiy j (by rw [jjq]; exact hl) (fun x hx=>hw x (List.mem_cons_of_mem _ hx)),jmm hl (hw w (List.mem_cons_self ..)),List.count_cons,List.count_cons]
  by_cases c1:j = w
  ·by_cases c2:j = mate w
   ·exact absurd (c2.symm.trans c1) (mate_ne w)
   ·rw [if_pos c1,if_neg c2,if_pos (by simp [c1]),if_neg (by simp; exact fun z=>c2 (hm.mpr z)),jkq]
    simp only [Nat.add_zero]
    omega
  ·by_cases c2:j = mate w
   ·rw [if_neg c1,if_pos c2,if_neg (by simp; exact fun z=>c1 z.symm),if_pos (by simp; exact hm.mp c2),jkq]
    simp only [Nat.add_zero]
    omega
   ·rw [if_neg c1,if_neg c2,if_neg (by simp; exact fun z=>c1 z.symm),if_neg (by simp; exact fun z=>c2 (hm.mpr z))]
    simp only [Nat.add_zero]
    omega
end Fl
namespace Fl
abbrev Cb:=List (Int × Option Nat)
def seen (cb:Cb) (v:Int):Bool:=decide (v ∈ cb.map (·.1))
def visit (hs r:List Int):Cb->List Nat->Cb
 | cb,[]=>cb
 | cb,w :: ws=>visit hs r (if 0 < at' r w/\seen cb (at' hs w) = false then cb ++ [(at' hs w,some w)] else cb) ws
def sprN (wf:Int->List Nat) (hs r:List Int) (s:Int):Nat->Cb
 | 0=>[(s,none)]
 | k + 1=>match (sprN wf hs r s k)[k]? with
  | some p=>visit hs r (sprN wf hs r s k) (wf p.1)
  | none=>sprN wf hs r s k
structure Cam (hs r:List Int) (m:Nat) (s:Int) (cb:Cb):Prop where
 nd:(cb.map (·.1)).Nodup
 first:cb[0]? = some (s,none)
 came:∀ i v o,cb[i]? = some (v,o)->0 < i->∃ w,o = some w/\w < 2 * m/\0 < at' r w/\at' hs w = v/\∃ j u,j < i/\(cb[j]?.map (·.1)) = some u/\at' hs (mate w) = u
section
variable {hs r:List Int} {m:Nat} {s:Int}
theorem Cam.put {cb:Cb} (h:Cam hs r m s cb) {w:Nat} {j:Nat} {u:Int} (hw:w < 2 * m) (hp:0 < at' r w) (hn:seen cb (at' hs w) = false) (hj:(cb[j]?.map (·.1)) = some u) (hu:at' hs (mate w) = u):Cam hs r m s (cb ++ [(at' hs w,some w)]):=by
 have hlen:0 < cb.length:=by
  have:=h.first
  cases cb with
  | nil=>cases this
  | cons _ _=>simp
 have hjl:j < cb.length:=by
  cases e:cb[j]? with
  | none=>rw [e] at hj; cases hj
  | some p=>exact (List.getElem?_eq_some_iff.mp e).1
 refine ⟨?_,?_,?_⟩
 ·rw [List.map_append,List.nodup_append]
  refine ⟨h.nd,by simp,fun a ha b hb=>?_⟩
  simp at hb
  subst hb
  intro z
  subst z
  unfold seen at hn
  rw [decide_eq_false_iff_not] at hn
  exact hn ha
 ·rw [List.getElem?_append_left hlen]
  exact h.first
 ·intro i v o hi h0
  by_cases c:i < cb.length
  ·rw [List.getElem?_append_left c] at hi
   obtain ⟨w',h1,h2,h3,h4,j',u',h5,h6,h7⟩:=h.came i v o hi h0
   exact ⟨w',h1,h2,h3,h4,j',u',h5,by rw [List.getElem?_append_left (by omega)]; exact h6,h7⟩
  ·rw [List.getElem?_append_right (by omega)] at hi
   have:i - cb.length = 0:=by
    cases e:i - cb.length with
    | zero=>rfl
    | succ n=>rw [e] at hi; simp at hi
   rw [this] at hi
   simp at hi
   obtain ⟨rfl,rfl⟩:=hi
   exact ⟨w,rfl,hw,hp,rfl,j,u,by omega,by rw [List.getElem?_append_left hjl]; exact hj,hu⟩
theorem jgd:∀ {ws:List Nat} {cb:Cb} {j:Nat} {u:Int},Cam hs r m s cb->(cb[j]?.map (·.1)) = some u->(∀ w ∈ ws,w < 2 * m/\at' hs (mate w) = u)->Cam hs r m s (visit hs r cb ws)
 | [],_,_,_,h,_,_=>h
 | w :: ws,cb,j,u,h,hj,hw=>by
  unfold visit
  have h1:=hw w (List.mem_cons_self ..)
  have hjl:j < cb.length:=by
   cases e:cb[j]? with
   | none=>rw [e] at hj; cases hj
   | some p=>exact (List.getElem?_eq_some_iff.mp e).1
  split
  ·rename_i c
   exact jgd (j:=j) (u:=u) (h.put h1.1 c.1 c.2 hj h1.2) (by rw [List.getElem?_append_left hjl]; exact hj) fun x hx=>hw x (List.mem_cons_of_mem _ hx)
  ·exact jgd h hj fun x hx=>hw x (List.mem_cons_of_mem _ hx)
theorem visit_pre:∀ (ws:List Nat) (cb:Cb),∃ l,visit hs r cb ws = cb ++ l
 | [],cb=>⟨[],(List.append_nil _).symm⟩
 | w :: ws,cb=>by
  unfold visit
  split
  ·obtain ⟨l,e⟩:=visit_pre ws (cb ++ [(at' hs w,some w)])
   exact ⟨(at' hs w,some w) :: l,by rw [e,List.append_assoc]; rfl⟩
  ·exact visit_pre ws cb
theorem jk2:∀ {ws:List Nat} {cb:Cb} {w:Nat},w ∈ ws->0 < at' r w->at' hs w ∈ (visit hs r cb ws).map (·.1)
 | x :: ws,cb,w,h,hp=>by
  unfold visit
  rcases List.mem_cons.mp h with rfl | h
  ·by_cases c:seen cb (at' hs w) = false
   ·rw [if_pos ⟨hp,c⟩]
    obtain ⟨l,e⟩:=visit_pre (hs:=hs) (r:=r) ws (cb ++ [(at' hs w,some w)])
    rw [e]
    simp
   ·rw [if_neg (fun z=>c z.2)]
    obtain ⟨l,e⟩:=visit_pre (hs:=hs) (r:=r) ws cb
    rw [e,List.map_append,List.mem_append]
    left
    unfold seen at c
    simpa using c
  ·exact jk2 h hp
end
section
variable {wf:Int->List Nat} {hs r:List Int} {m:Nat} {s:Int}
theorem spr_cam (hwf:∀ u,∀ w ∈ wf u,w < 2 * m/\at' hs (mate w) = u):∀ k,Cam hs r m s (sprN wf hs r s k)
 | 0=>⟨by simp [sprN],rfl,fun i v o h h0=>by
   cases i with
   | zero=>omega
   | succ i=>simp [sprN] at h⟩
 | k + 1=>by
  unfold sprN
  have ih:=spr_cam hwf k
  split
  ·rename_i p e
   exact jgd ih (j:=k) (u:=p.1) (by rw [e]; rfl) (hwf p.1)
  ·exact ih
theorem spr_pre (k:Nat):∃ l,sprN wf hs r s (k + 1) = sprN wf hs r s k ++ l:=by
 rw [sprN]
 split
 ·exact visit_pre _ _
 ·exact ⟨[],(List.append_nil _).symm⟩
theorem spr_rest {k:Nat} (h:(sprN wf hs r s k).length <= k):∀ j,sprN wf hs r s (k + j) = sprN wf hs r s k
 | 0=>rfl
 | j + 1=>by
  have ih:=spr_rest h j
  show sprN wf hs r s (k + j + 1) = _
  rw [sprN,ih,List.getElem?_eq_none (by omega)]
theorem jmu:∀ {k:Nat} {i:Nat} {p:Int × Option Nat} {w:Nat},i < k->(sprN wf hs r s k)[i]? = some p->w ∈ wf p.1->0 < at' r w->at' hs w ∈ (sprN wf hs r s k).map (·.1)
 | k + 1,i,p,w,hi,hp,hw,h0=>by
  obtain ⟨l,e⟩:=spr_pre (wf:=wf) (hs:=hs) (r:=r) (s:=s) k
  by_cases c:i < (sprN wf hs r s k).length
  ·rw [e,List.getElem?_append_left c] at hp
   by_cases c2:i = k
   ·subst c2
    rw [sprN,hp]
    exact jk2 hw h0
   ·rw [e,List.map_append,List.mem_append]
    left
    exact jmu (by omega) hp hw h0
  ·by_cases c3:(sprN wf hs r s k).length <= k
   ·have:=spr_rest c3 1
    rw [this,List.getElem?_eq_none (by omega)] at hp
    cases hp
   ·omega
end
end Fl
namespace Fl
def lk (cb:Cb) (v:Int):Option Nat:=(cb.find? fun p=>decide (p.1 = v)).bind (·.2)
theorem jul {cb:Cb} (nd:(cb.map (·.1)).Nodup) {i:Nat} {v:Int} {o:Option Nat} (h:cb[i]? = some (v,o)):lk cb v = o:=by
 unfold lk
 induction cb generalizing i with
 | nil=>cases h
 | cons p cb ih =>
  rw [List.map_cons] at nd
  have nd':=List.nodup_cons.mp nd
  rw [List.find?_cons]
  cases i with
  | zero =>
   simp at h
   subst h
   simp
  | succ i =>
   simp at h
   have hm:v ∈ cb.map (·.1):=List.mem_map.mpr ⟨(v,o),List.mem_of_getElem? h,rfl⟩
   have hne:p.1 ≠ v:=fun z=>nd'.1 (z ▸ hm)
   rw [decide_eq_false hne]
   exact ih nd'.2 h
theorem juk {cb:Cb} {v:Int} (h:v ∉ cb.map (·.1)):lk cb v = none:=by
 unfold lk
 rw [List.find?_eq_none.mpr fun p hp=>by
  rw [decide_eq_true_eq]
  exact fun z=>h (List.mem_map.mpr ⟨p,hp,z⟩)]
 rfl
def trailN (hs:List Int) (cb:Cb):Nat->Int->List Nat
 | 0,_=>[]
 | f + 1,v=>match lk cb v with
  | some w=>w :: trailN hs cb f (at' hs (mate w))
  | none=>[]
def key (cb:Cb) (i:Nat):Option Int:=cb[i]?.map (·.1)
theorem juo {cb:Cb} (nd:(cb.map (·.1)).Nodup) {i j:Nat} {v:Int} (h1:key cb i = some v) (h2:key cb j = some v):i = j:=by
 unfold key at h1 h2
 rw [<- List.getElem?_map] at h1 h2
 obtain ⟨a,b⟩:=List.getElem?_eq_some_iff.mp h1
 obtain ⟨c,d⟩:=List.getElem?_eq_some_iff.mp h2
 exact (List.getElem_inj nd).mp (b.trans d.symm)
structure Good (hs r:List Int) (m:Nat) (cb:Cb) (i:Nat) (tr:List Nat):Prop where
 up:∀ w ∈ tr,w < 2 * m/\0 < at' r w/\∃ k j,j < k/\k <= i/\key cb k = some (at' hs w)/\key cb j = some (at' hs (mate w))
 nd:tr.Nodup
section
variable {hs r:List Int} {m:Nat} {s:Int} {cb:Cb}
theorem jht (C:Cam hs r m s cb):∀ (i:Nat) (v:Int) (o:Option Nat),cb[i]? = some (v,o)->∀ f,i <= f->jsm hs v (trailN hs cb f v) s/\Good hs r m cb i (trailN hs cb f v)/\(0 < i->trailN hs cb f v ≠ []):=by
 intro i
 induction i using Nat.strongRecOn with
 | ind i ih =>
  intro v o h f hf
  by_cases h0:i = 0
  ·subst h0
   have e:=C.first
   rw [h] at e
   have ho:o = none:=congrArg Prod.snd (Option.some.inj e)
   have hv:v = s:=congrArg Prod.fst (Option.some.inj e)
   have hl:=jul C.nd h
   rw [ho] at hl
   have ht:trailN hs cb f v = []:=by
    cases f with
    | zero=>rfl
    | succ f=>unfold trailN; rw [hl]
   rw [ht]
   exact ⟨hv,⟨(fun w hw=>by cases hw),.nil⟩,fun z=>by omega⟩
  ·obtain ⟨w,rfl,h2,h3,h4,j,u,h5,h6,h7⟩:=C.came i v o h (by omega)
   have hl:=jul C.nd h
   obtain ⟨f',rfl⟩:∃ f',f = f' + 1:=⟨f - 1,by omega⟩
   have ht:trailN hs cb (f' + 1) v = w :: trailN hs cb f' u:=by
    rw [trailN,hl]
    dsimp only
    rw [h7]
   obtain ⟨p,hp⟩:∃ p,cb[j]? = some p:=by
    cases e:cb[j]? with
    | none=>rw [e] at h6; cases h6
    | some p=>exact ⟨p,rfl⟩
   have hpu:p.1 = u:=by rw [hp] at h6; exact Option.some.inj h6
   obtain ⟨p1,p2⟩:=p
   dsimp only at hpu
   subst hpu
   obtain ⟨t1,t2,_⟩:=ih j h5 p1 p2 hp f' (by omega)
   rw [ht]
   have kv:key cb i = some v:=by unfold key; rw [h]; rfl
   refine ⟨⟨h4,by rw [h7]; exact t1⟩,⟨fun x hx=>?_,?_⟩,fun _=>by simp⟩
   ·rcases List.mem_cons.mp hx with rfl | hx
    ·exact ⟨h2,h3,i,j,h5,Nat.le_refl _,by rw [h4]; exact kv,by rw [h7]; exact h6⟩
    ·obtain ⟨a,b,k,l,c1,c2,c3,c4⟩:=t2.up x hx
     exact ⟨a,b,k,l,c1,by omega,c3,c4⟩
   ·refine List.nodup_cons.mpr ⟨fun hm=>?_,t2.nd⟩
    obtain ⟨a,b,k,l,c1,c2,c3,c4⟩:=t2.up w hm
    rw [h4] at c3
    have:=juo C.nd kv c3
    omega
structure Rooms (m:Nat) (cap:Nat->Int) (r:List Int):Prop where
 len:r.length = 2 * m
 pos:∀ j,0 <= at' r j
 two:∀ k,k < m->at' r (2 * k) + at' r (2 * k + 1) = cap k
theorem jqs {l:List Nat} (nd:l.Nodup) (j:Nat):l.count j = if j ∈ l then 1 else 0:=by
 by_cases h:j ∈ l
 ·rw [if_pos h]
  have h1:=List.nodup_iff_count.mp nd j
  have h2:=List.count_pos_iff.mpr h
  omega
 ·rw [if_neg h]; exact List.count_eq_zero.mpr h
theorem Rooms.push {cap:Nat->Int} (R:Rooms m cap r) {tr:List Nat} (nd:tr.Nodup) (hw:∀ w ∈ tr,w < 2 * m) {a:Int} (ha:0 <= a) (hm:∀ w ∈ tr,a <= at' r w):Rooms m cap (push r tr a):=by
 refine ⟨by rw [push_len]; exact R.len,fun j=>?_,fun k hk=>?_⟩
 ·rw [jiy j R.len hw,jqs nd j]
  have h0:0 <= a * (tr.count (mate j):Int):=Int.mul_nonneg ha (Int.natCast_nonneg _)
  by_cases h:j ∈ tr
  ·rw [if_pos h]
   have:=hm j h
   show 0 <= at' r j - a * 1 + _
   omega
  ·rw [if_neg h]
   have:=R.pos j
   show 0 <= at' r j - a * 0 + _
   omega
 ·rw [jiy _ R.len hw,jiy _ R.len hw]
  have e1:mate (2 * k) = 2 * k + 1:=by unfold mate; rw [if_pos (by omega)]
  have e2:mate (2 * k + 1) = 2 * k:=by unfold mate; rw [if_neg (by omega)]; omega
  rw [e1,e2]
  have:=R.two k hk
  omega
end
end Fl
namespace Fl
structure Net (wf:Int->List Nat) (hs:List Int) (m n:Nat):Prop where
 len:hs.length = 2 * m
 from':∀ u,∀ w ∈ wf u,w < 2 * m/\at' hs (mate w) = u
 knot:∀ w,w < 2 * m->0 <= at' hs w/\at' hs w < n
 all:∀ w,w < 2 * m->w ∈ wf (at' hs (mate w))
def minR (r:List Int):List Nat->Int
 | []=>0
 | [w]=>at' r w
 | w :: x :: tr=>if minR r (x :: tr) < at' r w then minR r (x :: tr) else at' r w
theorem minR_le (r:List Int):∀ {tr:List Nat} {w:Nat},w ∈ tr->minR r tr <= at' r w
 | [],_,h=>by cases h
 | [x],w,h=>by rw [List.mem_singleton.mp h]; exact Int.le_refl _
 | y :: x :: tr,w,h=>by
  unfold minR
  rcases List.mem_cons.mp h with rfl | h
  ·split <;> omega
  ·have:=minR_le r h
   split <;> omega
theorem jne (r:List Int):∀ {tr:List Nat},tr ≠ []->(∀ w ∈ tr,0 < at' r w)->0 < minR r tr
 | [],h,_=>absurd rfl h
 | [x],_,h=>h x (List.mem_singleton.mpr rfl)
 | y :: x :: tr,_,h=>by
  unfold minR
  have h1:=h y (List.mem_cons_self ..)
  have h2:=jne r (tr:=x :: tr) (by simp) fun w hw=>h w (List.mem_cons_of_mem _ hw)
  split <;> omega
section
variable (wf:Int->List Nat) (hs:List Int) (n:Nat) (s t:Int)
def cbOf (r:List Int):Cb:=sprN wf hs r s n
def trOf (r:List Int):List Nat:=trailN hs (cbOf wf hs n s r) n t
def stp (r:List Int):Option (List Int):=if trOf wf hs n s t r = [] then none else some (push r (trOf wf hs n s t r) (minR r (trOf wf hs n s t r)))
inductive Runs:List Int->List Int->Prop
 | done (r:List Int):Runs r r
 | step {r r1 r':List Int}:stp wf hs n s t r = some r1->Runs r1 r'->Runs r r'
end
section
variable {wf:Int->List Nat} {hs:List Int} {n:Nat} {s t:Int}
theorem Runs.snoc {r r' r2:List Int} (h:Runs wf hs n s t r r') (e:stp wf hs n s t r' = some r2):Runs wf hs n s t r r2:=by
 induction h with
 | done r=>exact .step e (.done _)
 | step a _ ih=>exact .step a (ih e)
variable {m:Nat} {r:List Int}
theorem keys_in (N:Net wf hs m n) (hs0:0 <= s/\s < n) (k:Nat):∀ v:Int,v ∈ (sprN wf hs r s k).map (·.1)->0 <= v/\v < (n:Int):=fun v hv=>by
 obtain ⟨p,hp,rfl⟩:=List.mem_map.mp hv
 obtain ⟨i,hi,e⟩:=List.mem_iff_getElem.mp hp
 have C:=spr_cam (r:=r) (s:=s) N.from' k
 have he:(sprN wf hs r s k)[i]? = some p:=by rw [gE hi,e]
 cases i with
 | zero =>
  have:=C.first
  rw [he] at this
  cases this
  exact hs0
 | succ i =>
  obtain ⟨w,_,h2,_,h4,_⟩:=C.came (i + 1) p.1 p.2 he (by omega)
  rw [<- h4]
  exact N.knot w h2
theorem len_le {l:List Int} (nd:l.Nodup):∀ {n:Nat},(∀ v:Int,v ∈ l->0 <= v/\v < (n:Int))->l.length <= n:=fun {n} h=>by
 have h1:(l.map Int.toNat).Nodup:=by
  unfold List.Nodup at nd ⊢
  rw [List.pairwise_map]
  exact nd.imp_of_mem fun {a b} ha hb z e=>z (by have:=h a ha; have:=h b hb; omega)
 have h2:∀ x ∈ l.map Int.toNat,x ∈ List.range n:=fun x hx=>by
  obtain ⟨v,hv,rfl⟩:=List.mem_map.mp hx
  have:=h v hv
  exact List.mem_range.mpr (by omega)
 have h3:(l.map Int.toNat).length <= (List.range n).length:=by
  have key:∀ (a b:List Nat),a.Nodup->(∀ x ∈ a,x ∈ b)->a.length <= b.length:=by
   intro a
   induction a with
   | nil=>intro b _ _; exact Nat.zero_le _
   | cons x a ih =>
    intro b nd hb
    have nd':=List.nodup_cons.mp nd
    have hx:=hb x (List.mem_cons_self ..)
    have h4:=ih (b.erase x) nd'.2 fun y hy=>(List.mem_erase_of_ne (fun z:y = x=>nd'.1 (by rw [<- z]; exact hy))).mpr (hb y (List.mem_cons_of_mem _ hy))
    rw [List.length_erase_of_mem hx] at h4
    have:=List.length_pos_of_mem hx
    rw [List.length_cons]
    omega
  exact key _ _ h1 h2
 rw [List.length_map,List.length_range] at h3
 exact h3
theorem cb_len (N:Net wf hs m n) (hs0:0 <= s/\s < n) (k:Nat):(sprN wf hs r s k).length <= n:=by
 have:=len_le (spr_cam (r:=r) (s:=s) N.from' k).nd (keys_in N hs0 k)
 rw [List.length_map] at this
 exact this
theorem jl6 (N:Net wf hs m n) (hs0:0 <= s/\s < n) {w:Nat} (hw:w < 2 * m) (h0:0 < at' r w) (hf:at' hs (mate w) ∈ (cbOf wf hs n s r).map (·.1)):at' hs w ∈ (cbOf wf hs n s r).map (·.1):=by
 obtain ⟨p,hp,e⟩:=List.mem_map.mp hf
 obtain ⟨i,hi,e2⟩:=List.mem_iff_getElem.mp hp
 have:=cb_len (r:=r) N hs0 n
 unfold cbOf at hi
 exact jmu (k:=n) (i:=i) (p:=p) (by omega) (by rw [gE hi]; exact congrArg some e2) (by rw [e]; exact N.all w hw) h0
theorem s_in (N:Net wf hs m n):s ∈ (cbOf wf hs n s r).map (·.1):=by
 have:=(spr_cam (r:=r) (s:=s) N.from' n).first
 exact List.mem_map.mpr ⟨_,List.mem_of_getElem? this,rfl⟩
theorem t_out (N:Net wf hs m n) (hst:s ≠ t) (hs0:0 <= s/\s < n) (h:stp wf hs n s t r = none):t ∉ (cbOf wf hs n s r).map (·.1):=fun ht=>by
 obtain ⟨p,hp,e⟩:=List.mem_map.mp ht
 obtain ⟨i,hi,e2⟩:=List.mem_iff_getElem.mp hp
 have C:=spr_cam (r:=r) (s:=s) N.from' n
 have he:(sprN wf hs r s n)[i]? = some (t,p.2):=by
  unfold cbOf at hi e2
  rw [gE hi,e2,<- e]
 have hn:trOf wf hs n s t r = []:=by
  unfold stp at h
  split at h
  ·assumption
  ·cases h
 have hl:=cb_len (r:=r) N hs0 n
 unfold cbOf at hi
 have G:=jht C i t p.2 he n (by omega)
 by_cases h0:i = 0
 ·subst h0
  have:=C.first
  rw [he] at this
  have:=congrArg Prod.fst (Option.some.inj this)
  exact hst this.symm
 ·exact G.2.2 (by omega) hn
end
end Fl
namespace Fl
section
variable {wf:Int->List Nat} {hs:List Int} {m n:Nat} {s t:Int} {r:List Int} {cap:Nat->Int}
theorem tr_in (N:Net wf hs m n) (hst:s ≠ t) (hs0:0 <= s/\s < (n:Int)) (h:trOf wf hs n s t r ≠ []):jsm hs t (trOf wf hs n s t r) s/\∃ i,Good hs r m (cbOf wf hs n s r) i (trOf wf hs n s t r):=by
 have C:=spr_cam (r:=r) (s:=s) N.from' n
 by_cases ht:t ∈ (cbOf wf hs n s r).map (·.1)
 ·obtain ⟨p,hp,e⟩:=List.mem_map.mp ht
  obtain ⟨i,hi,e2⟩:=List.mem_iff_getElem.mp hp
  have he:(sprN wf hs r s n)[i]? = some (t,p.2):=by
   unfold cbOf at hi e2
   rw [gE hi,e2,<- e]
  have hl:=cb_len (r:=r) N hs0 n
  unfold cbOf at hi
  have G:=jht C i t p.2 he n (by omega)
  exact ⟨G.1,i,G.2.1⟩
 ·refine absurd ?_ h
  unfold trOf
  cases n with
  | zero=>rfl
  | succ k=>rw [trailN,juk ht]
theorem step_keeps (N:Net wf hs m n) (hst:s ≠ t) (hs0:0 <= s/\s < (n:Int)) (R:Rooms m cap r) {r1:List Int} (h:stp wf hs n s t r = some r1):Rooms m cap r1/\(∀ v,v ≠ s->v ≠ t->ex hs m r1 v = ex hs m r v)/\ex hs m r t + 1 <= ex hs m r1 t:=by
 unfold stp at h
 split at h
 ·cases h
 ·rename_i hne
  cases h
  obtain ⟨T,i,G⟩:=tr_in N hst hs0 hne
  have hw:∀ w ∈ trOf wf hs n s t r,w < 2 * m:=fun w hw=>(G.up w hw).1
  have hp:=jne r hne fun w hw=>(G.up w hw).2.1
  have E:=fun v=>jqm (a:=minR r (trOf wf hs n s t r)) v R.len hw T
  refine ⟨R.push G.nd hw (by omega) fun w hw=>minR_le r hw,fun v h1 h2=>?_,?_⟩
  ·rw [E v,jcd (fun z=>h2 z.symm),jcd (fun z=>h1 z.symm)]
   omega
  ·rw [E t,je0,jcd hst]
   omega
def capSum (cap:Nat->Int) (m:Nat):Int:=((List.range m).map cap).sum
theorem sum_le {α:Type} {f g:α->Int}:∀ {l:List α},(∀ p ∈ l,f p <= g p)->(l.map f).sum <= (l.map g).sum
 | [],_=>Int.le_refl _
 | a :: l,h=>by
  rw [List.map_cons,List.map_cons,List.sum_cons,List.sum_cons]
  have:=h a (List.mem_cons_self ..)
  have:=sum_le fun p hp=>h p (List.mem_cons_of_mem _ hp)
  omega
theorem ex_le (R:Rooms m cap r) (v:Int):ex hs m r v <= capSum cap m:=by
 unfold ex capSum
 refine sum_le fun k hk=>?_
 have h1:=R.pos (2 * k + 1)
 have h2:=R.pos (2 * k)
 have h3:=R.two k (List.mem_range.mp hk)
 unfold pick
 split <;> split <;> omega
theorem runs_keep (N:Net wf hs m n) (hst:s ≠ t) (hs0:0 <= s/\s < (n:Int)) {r':List Int} (h:Runs wf hs n s t r r'):Rooms m cap r->Rooms m cap r'/\∀ v,v ≠ s->v ≠ t->ex hs m r' v = ex hs m r v:=by
 induction h with
 | done r=>exact fun R=>⟨R,fun _ _ _=>rfl⟩
 | step e _ ih =>
  intro R
  obtain ⟨R1,E1,_⟩:=step_keeps N hst hs0 R e
  obtain ⟨R2,E2⟩:=ih R1
  exact ⟨R2,fun v h1 h2=>(E2 v h1 h2).trans (E1 v h1 h2)⟩
theorem jea (N:Net wf hs m n) (hs0:0 <= s/\s < (n:Int)) (R:Rooms m cap r) {k:Nat} (hk:k < m) :
  (at' hs (2 * k + 1) ∈ (cbOf wf hs n s r).map (·.1)->at' hs (2 * k) ∉ (cbOf wf hs n s r).map (·.1)->at' r (2 * k + 1) = cap k) /\
  (at' hs (2 * k) ∈ (cbOf wf hs n s r).map (·.1)->at' hs (2 * k + 1) ∉ (cbOf wf hs n s r).map (·.1)->at' r (2 * k + 1) = 0):=by
 have e1:mate (2 * k) = 2 * k + 1:=by unfold mate; rw [if_pos (by omega)]
 have e2:mate (2 * k + 1) = 2 * k:=by unfold mate; rw [if_neg (by omega)]; omega
 have h1:=R.pos (2 * k + 1)
 have h2:=R.pos (2 * k)
 have h3:=R.two k hk
 refine ⟨fun a b=>?_,fun a b=>?_⟩
 ·have:¬ 0 < at' r (2 * k):=fun z=>b (jl6 N hs0 (by omega) z (by rw [e1]; exact a))
  omega
 ·have:¬ 0 < at' r (2 * k + 1):=fun z=>b (jl6 N hs0 (by omega) z (by rw [e2]; exact a))
  omega
end
end Fl
namespace Fl
theorem jcq (g:Nat->Int) (a:Nat):∀ b,((List.range (a + b)).map g).sum = ((List.range a).map g).sum + ((List.range b).map fun k=>g (a + k)).sum
 | 0=>by show _ = _ + 0; rw [Int.add_zero]; rfl
 | b + 1=>by
  rw [<- Nat.add_assoc,List.range_succ,List.map_append,List.sum_append,jcq g a b,List.range_succ,List.map_append,List.sum_append]
  show _ + (g (a + b) + 0) = _ + (_ + (g (a + b) + 0))
  omega
theorem jdt (g:Nat->Int):∀ b,((List.range (2 * b)).map g).sum = ((List.range b).map fun k=>g (2 * k) + g (2 * k + 1)).sum
 | 0=>rfl
 | b + 1=>by
  rw [show 2 * (b + 1) = 2 * b + 1 + 1 by omega,List.range_succ,List.map_append,List.sum_append,List.range_succ,List.map_append,List.sum_append,jdt g b,List.range_succ,List.map_append,List.sum_append]
  show _ + (g (2 * b) + 0) + (g (2 * b + 1) + 0) = _ + (g (2 * b) + g (2 * b + 1) + 0)
  omega
theorem jeq (g:Nat->Int) {n i:Nat} (hi:i < n) (h:∀ k,k < n->k ≠ i->g k = 0):((List.range n).map g).sum = g i:=by
 have h1:((List.range n).map g).sum = ((List.range n).map fun k=>if k = i then g i else 0).sum:=sum_congr fun k hk=>by
  by_cases c:k = i
  ·rw [if_pos c,c]
  ·rw [if_neg c]; exact h k (List.mem_range.mp hk) c
 have h2:=jds (g:=fun _=>0) (g':=fun k=>if k = i then g i else 0) hi fun k hk=>if_neg hk
 rw [h1,h2,sum_zero,if_pos rfl]
 omega
structure Dbl (ns:List Int) (ts:List (Int × Int)) (sp:Int->Int) (hs:List Int):Prop where
 nd:ns.Nodup
 spot:∀ (i:Nat) (p:Int),ns[i]? = some p->sp p = 2 + (i:Int)
 ends:∀ t ∈ ts,t.1 ∈ ns/\t.2 ∈ ns
 src:∀ i:Nat,i < ns.length->at' hs (2 * i) = 2 + (i:Int)/\at' hs (2 * i + 1) = 0
 snk:∀ i:Nat,i < ns.length->at' hs (2 * (ns.length + i)) = 1/\at' hs (2 * (ns.length + i) + 1) = 2 + (ns.length:Int) + i
 tie:∀ (j:Nat) (t:Int × Int),ts[j]? = some t->(at' hs (2 * (ns.length + ns.length + 2 * j)) = sp t.2 + ns.length/\at' hs (2 * (ns.length + ns.length + 2 * j) + 1) = sp t.1)/\(at' hs (2 * (ns.length + ns.length + (2 * j + 1))) = sp t.1 + ns.length/\at' hs (2 * (ns.length + ns.length + (2 * j + 1)) + 1) = sp t.2)
section
variable {ns:List Int} {ts:List (Int × Int)} {sp:Int->Int} {hs r:List Int}
def twAt (ns:List Int) (r:List Int) (ts:List (Int × Int)) (j:Nat):Tw:=⟨(ts.getD j (0,0)).1,(ts.getD j (0,0)).2,at' r (2 * (ns.length + ns.length + 2 * j) + 1),at' r (2 * (ns.length + ns.length + (2 * j + 1)) + 1)⟩
def twS (ns:List Int) (r:List Int) (ts:List (Int × Int)):List Tw:=(List.range ts.length).map (twAt ns r ts)
theorem getD_at {l:List (Int × Int)} {j:Nat} (h:j < l.length):l[j]? = some (l.getD j (0,0)):=by
 rw [List.getD_eq_getElem?_getD,gE h]; rfl
theorem Dbl.spI (D:Dbl ns ts sp hs) {i:Nat} {p q:Int} (hp:ns[i]? = some p) (hq:q ∈ ns):sp q = 2 + (i:Int) ↔ q = p:=by
 obtain ⟨k,hk,e⟩:=List.mem_iff_getElem.mp hq
 have hk':ns[k]? = some q:=by rw [gE hk,e]
 constructor
 ·intro h
  rw [D.spot k q hk'] at h
  have:k = i:=by omega
  subst this
  rw [hp] at hk'
  exact (Option.some.inj hk').symm
 ·rintro rfl
  exact D.spot i q hp
theorem Dbl.spB (D:Dbl ns ts sp hs) {q:Int} (hq:q ∈ ns):2 <= sp q/\sp q < 2 + (ns.length:Int):=by
 obtain ⟨k,hk,e⟩:=List.mem_iff_getElem.mp hq
 rw [D.spot k q (by rw [gE hk,e])]
 omega
theorem jg5 {a b c d v:Int} (h:a = b ↔ c = d):pick a b v = pick c d v:=by
 unfold pick
 by_cases x:a = b
 ·rw [if_pos x,if_pos (h.mp x)]
 ·rw [if_neg x,if_neg fun z=>x (h.mpr z)]
theorem Dbl.left (D:Dbl ns ts sp hs) {i:Nat} {p:Int} (hp:ns[i]? = some p):ex hs (ns.length + ns.length + 2 * ts.length) r (2 + (i:Int)) = at' r (2 * i + 1) - outL (twS ns r ts) p:=by
 have hi:=(List.getElem?_eq_some_iff.mp hp).1
 unfold ex
 rw [jcq,jcq,jdt]
 have h1:((List.range ns.length).map fun k=>pick (at' hs (2 * k)) (2 + (i:Int)) (at' r (2 * k + 1)) - pick (at' hs (2 * k + 1)) (2 + (i:Int)) (at' r (2 * k + 1))).sum = at' r (2 * i + 1):=by
  rw [jeq _ hi fun k hk hne=>?_]
  ·rw [(D.src i hi).1,(D.src i hi).2,je0,jcd (by omega)]; omega
  ·rw [(D.src k hk).1,(D.src k hk).2,jcd (by omega),jcd (by omega)]; rfl
 have h2:((List.range ns.length).map fun k=>pick (at' hs (2 * (ns.length + k))) (2 + (i:Int)) (at' r (2 * (ns.length + k) + 1)) - pick (at' hs (2 * (ns.length + k) + 1)) (2 + (i:Int)) (at' r (2 * (ns.length + k) + 1))).sum = 0:=by
  rw [<- sum_zero (List.range ns.length)]
  refine sum_congr fun k hk=>?_
  have hk:=List.mem_range.mp hk
  rw [(D.snk k hk).1,(D.snk k hk).2,jcd (by omega),jcd (by omega)]
  rfl
 rw [h1,h2]
 have h3:outL (twS ns r ts) p = ((List.range ts.length).map fun j=>pick (twAt ns r ts j).a p (twAt ns r ts j).x + pick (twAt ns r ts j).b p (twAt ns r ts j).y).sum:=by
  unfold outL twS
  rw [List.map_map]
  rfl
 have h4:∀ (l:List Nat) (f g:Nat->Int),(∀ j ∈ l,f j = - g j)->(l.map f).sum = - (l.map g).sum:=fun l f g h=>by
  induction l with
  | nil=>rfl
  | cons a l ih =>
   rw [List.map_cons,List.map_cons,List.sum_cons,List.sum_cons,h a (List.mem_cons_self ..),ih fun j hj=>h j (List.mem_cons_of_mem _ hj)]
   omega
 rw [h3,h4 _ _ (fun j=>pick (twAt ns r ts j).a p (twAt ns r ts j).x + pick (twAt ns r ts j).b p (twAt ns r ts j).y) fun j hj=>?_]
 ·omega
 ·have hj:=List.mem_range.mp hj
  have hg:=getD_at hj
  have hm:=List.mem_of_getElem? hg
  have he:=D.ends _ hm
  obtain ⟨⟨a1,a2⟩,b1,b2⟩:=D.tie j _ hg
  have l1:=D.spB he.1
  have l2:=D.spB he.2
  have n1:sp (ts.getD j (0,0)).2 + ns.length ≠ 2 + (i:Int):=by omega
  have n2:sp (ts.getD j (0,0)).1 + ns.length ≠ 2 + (i:Int):=by omega
  rw [a1,a2,b1,b2,jcd n1,jcd n2,jg5 (D.spI hp he.1),jg5 (D.spI hp he.2)]
  unfold twAt
  dsimp only
  omega
theorem Dbl.right (D:Dbl ns ts sp hs) {i:Nat} {p:Int} (hp:ns[i]? = some p):ex hs (ns.length + ns.length + 2 * ts.length) r (2 + (ns.length:Int) + i) = inR (twS ns r ts) p - at' r (2 * (ns.length + i) + 1):=by
 have hi:=(List.getElem?_eq_some_iff.mp hp).1
 unfold ex
 rw [jcq,jcq,jdt]
 have h1:((List.range ns.length).map fun k=>pick (at' hs (2 * k)) (2 + (ns.length:Int) + i) (at' r (2 * k + 1)) - pick (at' hs (2 * k + 1)) (2 + (ns.length:Int) + i) (at' r (2 * k + 1))).sum = 0:=by
  rw [<- sum_zero (List.range ns.length)]
  refine sum_congr fun k hk=>?_
  have hk:=List.mem_range.mp hk
  rw [(D.src k hk).1,(D.src k hk).2,jcd (by omega),jcd (by omega)]
  rfl
 have h2:((List.range ns.length).map fun k=>pick (at' hs (2 * (ns.length + k))) (2 + (ns.length:Int) + i) (at' r (2 * (ns.length + k) + 1)) - pick (at' hs (2 * (ns.length + k) + 1)) (2 + (ns.length:Int) + i) (at' r (2 * (ns.length + k) + 1))).sum = - at' r (2 * (ns.length + i) + 1):=by
  rw [jeq _ hi fun k hk hne=>?_]
  ·rw [(D.snk i hi).1,(D.snk i hi).2,je0,jcd (by omega)]; omega
  ·rw [(D.snk k hk).1,(D.snk k hk).2,jcd (by omega),jcd (by omega)]; rfl
 rw [h1,h2]
 have h3:inR (twS ns r ts) p = ((List.range ts.length).map fun j=>pick (twAt ns r ts j).b p (twAt ns r ts j).x + pick (twAt ns r ts j).a p (twAt ns r ts j).y).sum:=by
  unfold inR twS
  rw [List.map_map]
  rfl
 rw [h3,sum_congr (g:=fun j=>pick (twAt ns r ts j).b p (twAt ns r ts j).x + pick (twAt ns r ts j).a p (twAt ns r ts j).y) fun j hj=>?_]
 ·omega
 ·have hj:=List.mem_range.mp hj
  have hg:=getD_at hj
  have hm:=List.mem_of_getElem? hg
  have he:=D.ends _ hm
  obtain ⟨⟨a1,a2⟩,b1,b2⟩:=D.tie j _ hg
  have l1:=D.spB he.1
  have l2:=D.spB he.2
  have i1:sp (ts.getD j (0,0)).1 + ns.length = 2 + (ns.length:Int) + i ↔ (ts.getD j (0,0)).1 = p:=⟨fun z=>(D.spI hp he.1).mp (by omega),fun z=>by have:=(D.spI hp he.1).mpr z; omega⟩
  have i2:sp (ts.getD j (0,0)).2 + ns.length = 2 + (ns.length:Int) + i ↔ (ts.getD j (0,0)).2 = p:=⟨fun z=>(D.spI hp he.2).mp (by omega),fun z=>by have:=(D.spI hp he.2).mpr z; omega⟩
  have n1:sp (ts.getD j (0,0)).1 ≠ 2 + (ns.length:Int) + i:=by omega
  have n2:sp (ts.getD j (0,0)).2 ≠ 2 + (ns.length:Int) + i:=by omega
  rw [a1,a2,b1,b2,jg5 i1,jg5 i2,jcd n1,jcd n2]
  unfold twAt
  dsimp only
  omega
end
end Fl
namespace Fl
section
variable {ns:List Int} {ts:List (Int × Int)} {sp:Int->Int} {hs r:List Int} {wf:Int->List Nat} {pr:Int->Int} {cap:Nat->Int}
def knots (ns:List Int):Nat:=2 + (ns.length + ns.length)
def arcs (ns:List Int) (ts:List (Int × Int)):Nat:=ns.length + ns.length + 2 * ts.length
def fsOf (sp:Int->Int) (r:List Int) (p:Int):Int:=at' r (2 * (sp p - 2).toNat + 1)
def ftOf (ns:List Int) (sp:Int->Int) (r:List Int) (p:Int):Int:=at' r (2 * (ns.length + (sp p - 2).toNat) + 1)
def inS (wf:Int->List Nat) (hs:List Int) (n:Nat) (r:List Int) (v:Int):Bool:=decide (v ∈ (cbOf wf hs n 0 r).map (·.1))
structure Caps (ns:List Int) (ts:List (Int × Int)) (pr:Int->Int) (cap:Nat->Int):Prop where
 src:∀ (i:Nat) (p:Int),ns[i]? = some p->cap i = pr p
 snk:∀ (i:Nat) (p:Int),ns[i]? = some p->cap (ns.length + i) = pr p
 tie:∀ j,j < 2 * ts.length->∀ p ∈ ns,pr p < cap (ns.length + ns.length + j)
theorem le_sum {α:Type} {f:α->Int}:∀ {l:List α},(∀ p ∈ l,0 <= f p)->∀ p ∈ l,f p <= (l.map f).sum
 | [],_,p,h=>by cases h
 | a :: l,h0,p,h=>by
  rw [List.map_cons,List.sum_cons]
  have ha:=h0 a (List.mem_cons_self ..)
  have hl:0 <= (l.map f).sum:=by
   have:=sum_le (f:=fun _=>0) (g:=f) (l:=l) fun q hq=>h0 q (List.mem_cons_of_mem _ hq)
   rw [sum_zero] at this
   exact this
  rcases List.mem_cons.mp h with rfl | h
  ·omega
  ·have:=le_sum (fun q hq=>h0 q (List.mem_cons_of_mem _ hq)) p h
   omega
theorem jj1 {n m v:Int} (h:0 <= v):0 <= pick n m v:=by unfold pick; split <;> omega
theorem full_rest (D:Dbl ns ts sp hs) (N:Net wf hs (arcs ns ts) (knots ns)) (C:Caps ns ts pr cap) (R:Rooms (arcs ns ts) cap r) (B:∀ v,v ≠ 0->v ≠ 1->ex hs (arcs ns ts) r v = 0) (hr:stp wf hs (knots ns) 0 1 r = none) :
  Full ns pr (twS ns r ts) (fsOf sp r) (ftOf ns sp r) (fun p=>inS wf hs (knots ns) r (sp p)) (fun p=>inS wf hs (knots ns) r (sp p + ns.length)):=by
 have hs0:(0:Int) <= 0/\(0:Int) < (knots ns:Nat):=⟨Int.le_refl _,by unfold knots; omega⟩
 have h0:(0:Int) ∈ (cbOf wf hs (knots ns) 0 r).map (·.1):=s_in N
 have h1:(1:Int) ∉ (cbOf wf hs (knots ns) 0 r).map (·.1):=t_out N (by decide) hs0 hr
 have idx:∀ p ∈ ns,∃ i:Nat,ns[i]? = some p/\i < ns.length/\(sp p - 2).toNat = i/\sp p = 2 + (i:Int):=fun p hp=>by
  obtain ⟨k,hk,e⟩:=List.mem_iff_getElem.mp hp
  have hk':ns[k]? = some p:=by rw [gE hk,e]
  have:=D.spot k p hk'
  exact ⟨k,hk',hk,by omega,this⟩
 have tw:∀ z ∈ twS ns r ts,∃ j,j < ts.length/\z = twAt ns r ts j:=fun z hz=>by
  unfold twS at hz
  obtain ⟨j,hj,e⟩:=List.mem_map.mp hz
  exact ⟨j,List.mem_range.mp hj,e.symm⟩
 have ends:∀ z ∈ twS ns r ts,z.a ∈ ns/\z.b ∈ ns:=fun z hz=>by
  obtain ⟨j,hj,rfl⟩:=tw z hz
  exact D.ends _ (List.mem_of_getElem? (getD_at hj))
 have pos:∀ z ∈ twS ns r ts,0 <= z.x/\0 <= z.y:=fun z hz=>by
  obtain ⟨j,hj,rfl⟩:=tw z hz
  exact ⟨R.pos _,R.pos _⟩
 have left:∀ p ∈ ns,fsOf sp r p = outL (twS ns r ts) p:=fun p hp=>by
  obtain ⟨i,hi,hl,e,es⟩:=idx p hp
  have:=D.left (r:=r) hi
  have hb:=B (2 + (i:Int)) (by omega) (by omega)
  unfold arcs at hb
  rw [hb] at this
  unfold fsOf
  rw [e]
  omega
 have right:∀ p ∈ ns,ftOf ns sp r p = inR (twS ns r ts) p:=fun p hp=>by
  obtain ⟨i,hi,hl,e,es⟩:=idx p hp
  have:=D.right (r:=r) hi
  have hb:=B (2 + (ns.length:Int) + i) (by omega) (by omega)
  unfold arcs at hb
  rw [hb] at this
  unfold ftOf
  rw [e]
  omega
 have capL:∀ p ∈ ns,0 <= fsOf sp r p/\fsOf sp r p <= pr p:=fun p hp=>by
  obtain ⟨i,hi,hl,e,es⟩:=idx p hp
  have h2:=R.two i (by unfold arcs; omega)
  rw [C.src i p hi] at h2
  have h3:=R.pos (2 * i)
  have h4:=R.pos (2 * i + 1)
  unfold fsOf
  rw [e]
  omega
 have capR:∀ p ∈ ns,0 <= ftOf ns sp r p/\ftOf ns sp r p <= pr p:=fun p hp=>by
  obtain ⟨i,hi,hl,e,es⟩:=idx p hp
  have h2:=R.two (ns.length + i) (by unfold arcs; omega)
  rw [C.snk i p hi] at h2
  have h3:=R.pos (2 * (ns.length + i))
  have h4:=R.pos (2 * (ns.length + i) + 1)
  unfold ftOf
  rw [e]
  omega
 have xle:∀ z ∈ twS ns r ts,z.x <= pr z.a/\z.y <= pr z.b:=fun z hz=>by
  obtain ⟨e1,e2⟩:=ends z hz
  have nn:∀ p,∀ z ∈ twS ns r ts,0 <= pick z.a p z.x + pick z.b p z.y:=fun p z hz=>by
   have:=jj1 (n:=z.a) (m:=p) (pos z hz).1
   have:=jj1 (n:=z.b) (m:=p) (pos z hz).2
   omega
  have a1:=le_sum (nn z.a) z hz
  have a2:=le_sum (nn z.b) z hz
  have b1:outL (twS ns r ts) z.a <= pr z.a:=by rw [<- left z.a e1]; exact (capL z.a e1).2
  have b2:outL (twS ns r ts) z.b <= pr z.b:=by rw [<- left z.b e2]; exact (capL z.b e2).2
  unfold outL at b1 b2
  rw [je0] at a1 a2
  have:=jj1 (n:=z.b) (m:=z.a) (pos z hz).2
  have:=jj1 (n:=z.a) (m:=z.b) (pos z hz).1
  omega
 refine ⟨D.nd,ends,pos,left,right,capL,capR,fun p hp hS=>?_,fun p hp hS=>?_,fun z hz=>?_,fun z hz=>?_⟩
 ·obtain ⟨i,hi,hl,e,es⟩:=idx p hp
  have:=(jea N hs0 R (k:=i) (by unfold arcs; omega)).1
  rw [(D.src i hl).1,(D.src i hl).2,C.src i p hi] at this
  unfold inS at hS
  rw [decide_eq_false_iff_not,es] at hS
  unfold fsOf
  rw [e]
  exact this h0 hS
 ·obtain ⟨i,hi,hl,e,es⟩:=idx p hp
  have:=(jea N hs0 R (k:=ns.length + i) (by unfold arcs; omega)).1
  rw [(D.snk i hl).1,(D.snk i hl).2,C.snk i p hi] at this
  unfold inS at hS
  rw [decide_eq_true_eq,es] at hS
  unfold ftOf
  rw [e]
  exact this (by rw [show (2:Int) + ns.length + i = 2 + i + ns.length by omega]; exact hS) h1
 ·obtain ⟨x1,x2⟩:=xle z hz
  obtain ⟨e1,e2⟩:=ends z hz
  obtain ⟨j,hj,rfl⟩:=tw z hz
  obtain ⟨⟨a1,a2⟩,b1,b2⟩:=D.tie j _ (getD_at hj)
  have r1:=(jea N hs0 R (k:=ns.length + ns.length + 2 * j) (by unfold arcs; omega)).1
  have r2:=(jea N hs0 R (k:=ns.length + ns.length + (2 * j + 1)) (by unfold arcs; omega)).1
  rw [a1,a2] at r1
  rw [b1,b2] at r2
  have c1:=C.tie (2 * j) (by omega) _ e1
  have c2:=C.tie (2 * j + 1) (by omega) _ e2
  unfold inS
  simp only [decide_eq_true_eq]
  unfold twAt at x1 x2 c1 c2 ⊢
  dsimp only at x1 x2 c1 c2 ⊢
  refine ⟨fun h=>Classical.byContradiction fun hn=>?_,fun h=>Classical.byContradiction fun hn=>?_⟩
  ·have:=r1 h hn; omega
  ·have:=r2 h hn; omega
 ·obtain ⟨j,hj,rfl⟩:=tw z hz
  obtain ⟨⟨a1,a2⟩,b1,b2⟩:=D.tie j _ (getD_at hj)
  have r1:=(jea N hs0 R (k:=ns.length + ns.length + 2 * j) (by unfold arcs; omega)).2
  have r2:=(jea N hs0 R (k:=ns.length + ns.length + (2 * j + 1)) (by unfold arcs; omega)).2
  rw [a1,a2] at r1
  rw [b1,b2] at r2
  unfold inS
  simp only [decide_eq_true_eq,decide_eq_false_iff_not]
  unfold twAt
  exact ⟨r1,r2⟩
end
end Fl
namespace Fl
abbrev Arc:=Int × Int × Int
def hsA:List Arc->List Int
 | []=>[]
 | a :: r=>a.2.1 :: a.1 :: hsA r
def rmA:List Arc->List Int
 | []=>[]
 | a :: r=>a.2.2 :: 0 :: rmA r
def capA (as:List Arc) (k:Nat):Int:=(as.getD k (0,0,0)).2.2
theorem hsA_len:∀ as:List Arc,(hsA as).length = 2 * as.length
 | []=>rfl
 | a :: r=>by rw [hsA,List.length_cons,List.length_cons,hsA_len r,List.length_cons]; omega
theorem rmA_len:∀ as:List Arc,(rmA as).length = 2 * as.length
 | []=>rfl
 | a :: r=>by rw [rmA,List.length_cons,List.length_cons,rmA_len r,List.length_cons]; omega
theorem jgb (x y:Int) (l:List Int) (i:Nat):at' (x :: y :: l) (i + 2) = at' l i:=rfl
theorem jdu:∀ (as:List Arc) (i:Nat),at' (hsA as) (2 * i) = (as.getD i (0,0,0)).2.1
 | [],i=>by simp [hsA,at']
 | a :: r,0=>rfl
 | a :: r,i + 1=>by rw [show 2 * (i + 1) = 2 * i + 2 by omega,hsA,jgb,jdu r i]; rfl
theorem jeo:∀ (as:List Arc) (i:Nat),at' (hsA as) (2 * i + 1) = (as.getD i (0,0,0)).1
 | [],i=>by simp [hsA,at']
 | a :: r,0=>rfl
 | a :: r,i + 1=>by rw [show 2 * (i + 1) + 1 = (2 * i + 1) + 2 by omega,hsA,jgb,jeo r i]; rfl
theorem jit:∀ (as:List Arc) (i:Nat),at' (rmA as) (2 * i) = capA as i
 | [],i=>by simp [rmA,at',capA]
 | a :: r,0=>rfl
 | a :: r,i + 1=>by rw [show 2 * (i + 1) = 2 * i + 2 by omega,rmA,jgb,jit r i]; rfl
theorem jis:∀ (as:List Arc) (i:Nat),at' (rmA as) (2 * i + 1) = 0
 | [],i=>by simp [rmA,at']
 | a :: r,0=>rfl
 | a :: r,i + 1=>by rw [show 2 * (i + 1) + 1 = (2 * i + 1) + 2 by omega,rmA,jgb,jis r i]
def wfA (as:List Arc) (u:Int):List Nat:=(List.range (2 * as.length)).filter fun w=>decide (at' (hsA as) (mate w) = u)
theorem js2 (k:Nat):mate (2 * k) = 2 * k + 1:=by unfold mate; rw [if_pos (by omega)]
theorem jq2 (k:Nat):mate (2 * k + 1) = 2 * k:=by unfold mate; rw [if_neg (by omega)]; omega
theorem je4 {α:Type} {l:List α} {i:Nat} {a d:α} (h:l[i]? = some a):l.getD i d = a:=by
 rw [List.getD_eq_getElem?_getD,h]; rfl
theorem jji {α:Type} {l:List α} {i:Nat} (d:α) (h:i < l.length):l.getD i d ∈ l:=by
 rw [List.getD_eq_getElem?_getD,gE h]
 exact List.getElem_mem h
theorem net_of {as:List Arc} {n:Nat} (h:∀ a ∈ as,(0 <= a.1/\a.1 < (n:Int))/\0 <= a.2.1/\a.2.1 < (n:Int)):Net (wfA as) (hsA as) as.length n:=by
 refine ⟨hsA_len as,fun u w hw=>?_,fun w hw=>?_,fun w hw=>?_⟩
 ·have hw:=List.mem_filter.mp hw
  exact ⟨List.mem_range.mp hw.1,of_decide_eq_true hw.2⟩
 ·by_cases c:w % 2 = 0
  ·have e:w = 2 * (w / 2):=by omega
   have hk:w / 2 < as.length:=by omega
   rw [e,jdu]
   exact (h _ (jji _ hk)).2
  ·have e:w = 2 * (w / 2) + 1:=by omega
   have hk:w / 2 < as.length:=by omega
   rw [e,jeo]
   exact (h _ (jji _ hk)).1
 ·exact List.mem_filter.mpr ⟨List.mem_range.mpr hw,decide_eq_true rfl⟩
theorem rooms0 {as:List Arc} (h:∀ a ∈ as,0 <= a.2.2):Rooms as.length (capA as) (rmA as):=by
 refine ⟨rmA_len as,fun j=>?_,fun k hk=>?_⟩
 ·by_cases c:j % 2 = 0
  ·rw [show j = 2 * (j / 2) by omega,jit]
   unfold capA
   by_cases hk:j / 2 < as.length
   ·exact h _ (jji _ hk)
   ·rw [List.getD_eq_getElem?_getD,List.getElem?_eq_none (by omega)]
    exact Int.le_refl _
  ·rw [show j = 2 * (j / 2) + 1 by omega,jis]
   exact Int.le_refl _
 ·rw [jit,jis]; omega
theorem ex0 (as:List Arc) (hs:List Int) (m:Nat) (v:Int):ex hs m (rmA as) v = 0:=by
 unfold ex
 rw [<- sum_zero (List.range m)]
 refine sum_congr fun k _=>?_
 rw [jis]
 unfold pick
 split <;> split <;> rfl
theorem hsA_snoc:∀ (as:List Arc) (a:Arc),hsA (as ++ [a]) = hsA as ++ [a.2.1,a.1]
 | [],a=>rfl
 | b :: r,a=>by rw [List.cons_append,hsA,hsA_snoc r a,hsA]; rfl
theorem rmA_snoc:∀ (as:List Arc) (a:Arc),rmA (as ++ [a]) = rmA as ++ [a.2.2,0]
 | [],a=>rfl
 | b :: r,a=>by rw [List.cons_append,rmA,rmA_snoc r a,rmA]; rfl
theorem at_app {l l':List Int} {i:Nat} (h:i < l.length):at' (l ++ l') i = at' l i:=by
 unfold at'
 rw [List.getD_eq_getElem?_getD,List.getD_eq_getElem?_getD,List.getElem?_append_left h]
theorem wfA_snoc (as:List Arc) (a:Arc) (u:Int):wfA (as ++ [a]) u = (wfA as u ++ (if a.1 = u then [2 * as.length] else [])) ++ (if a.2.1 = u then [2 * as.length + 1] else []):=by
 unfold wfA
 rw [List.length_append,List.length_singleton,show 2 * (as.length + 1) = 2 * as.length + 1 + 1 by omega,List.range_succ,List.filter_append,List.range_succ,List.filter_append]
 have e1:at' (hsA (as ++ [a])) (mate (2 * as.length)) = a.1:=by
  rw [js2,jeo,List.getD_eq_getElem?_getD,List.getElem?_append_right (Nat.le_refl _),Nat.sub_self]; rfl
 have e2:at' (hsA (as ++ [a])) (mate (2 * as.length + 1)) = a.2.1:=by
  rw [jq2,jdu,List.getD_eq_getElem?_getD,List.getElem?_append_right (Nat.le_refl _),Nat.sub_self]; rfl
 congr 1
 ·congr 1
  ·refine List.filter_congr fun w hw=>?_
   rw [hsA_snoc,at_app]
   rw [hsA_len]
   exact mate_lt (List.mem_range.mp hw)
  ·rw [List.filter_cons,e1]
   by_cases c:a.1 = u
   ·rw [if_pos c,if_pos (decide_eq_true c)]; rfl
   ·rw [if_neg c,if_neg (by simp [c])]; rfl
 ·rw [List.filter_cons,e2]
  by_cases c:a.2.1 = u
  ·rw [if_pos c,if_pos (decide_eq_true c)]; rfl
  ·rw [if_neg c,if_neg (by simp [c])]; rfl
def tieArcs (sp:Int->Int) (n pl:Int):List (Int × Int)->List Arc
 | []=>[]
 | t :: r=>(sp t.1,sp t.2 + n,pl) :: (sp t.2,sp t.1 + n,pl) :: tieArcs sp n pl r
def arcsD (sp:Int->Int) (pl:Int) (ps ts:List (Int × Int)):List Arc:=((ps.map fun p=>((0:Int),sp p.1,p.2)) ++ ps.map fun p=>(sp p.1 + ps.length,(1:Int),p.2)) ++ tieArcs sp ps.length pl ts
theorem jgi (sp:Int->Int) (n pl:Int):∀ ts,(tieArcs sp n pl ts).length = 2 * ts.length
 | []=>rfl
 | t :: r=>by rw [tieArcs,List.length_cons,List.length_cons,jgi sp n pl r,List.length_cons]; omega
theorem jfd (sp:Int->Int) (n pl:Int):∀ (ts:List (Int × Int)) (j:Nat) (t:Int × Int),ts[j]? = some t->(tieArcs sp n pl ts)[2 * j]? = some (sp t.1,sp t.2 + n,pl)/\(tieArcs sp n pl ts)[2 * j + 1]? = some (sp t.2,sp t.1 + n,pl)
 | [],j,t,h=>by simp at h
 | u :: r,0,t,h=>by cases h; exact ⟨rfl,rfl⟩
 | u :: r,j + 1,t,h=>by
  obtain ⟨a,b⟩:=jfd sp n pl r j t (by simpa using h)
  rw [tieArcs,show 2 * (j + 1) = 2 * j + 1 + 1 by omega,show 2 * j + 1 + 1 + 1 = (2 * j + 1) + 1 + 1 by omega]
  exact ⟨by rw [List.getElem?_cons_succ,List.getElem?_cons_succ]; exact a,by rw [List.getElem?_cons_succ,List.getElem?_cons_succ]; exact b⟩
theorem arcsD_len (sp:Int->Int) (pl:Int) (ps ts:List (Int × Int)):(arcsD sp pl ps ts).length = ps.length + ps.length + 2 * ts.length:=by
 unfold arcsD
 rw [List.length_append,List.length_append,List.length_map,List.length_map,jgi]
section
variable {sp:Int->Int} {pl:Int} {ps ts:List (Int × Int)}
theorem jlc {i:Nat} {p:Int × Int} (h:ps[i]? = some p):(arcsD sp pl ps ts)[i]? = some (0,sp p.1,p.2):=by
 have hi:=(List.getElem?_eq_some_iff.mp h).1
 unfold arcsD
 rw [List.getElem?_append_left (by rw [List.length_append,List.length_map,List.length_map]; omega),List.getElem?_append_left (by rw [List.length_map]; exact hi),List.getElem?_map,h]
 rfl
theorem jld {i:Nat} {p:Int × Int} (h:ps[i]? = some p):(arcsD sp pl ps ts)[ps.length + i]? = some (sp p.1 + ps.length,1,p.2):=by
 have hi:=(List.getElem?_eq_some_iff.mp h).1
 unfold arcsD
 rw [List.getElem?_append_left (by rw [List.length_append,List.length_map,List.length_map]; omega),List.getElem?_append_right (by rw [List.length_map]; omega),List.length_map,Nat.add_sub_cancel_left,List.getElem?_map,h]
 rfl
theorem jf9 {j:Nat} (k:Nat):(arcsD sp pl ps ts)[ps.length + ps.length + k]? = (tieArcs sp ps.length pl ts)[k]?:=by
 unfold arcsD
 rw [List.getElem?_append_right (by rw [List.length_append,List.length_map,List.length_map]; omega)]
 congr 1
 rw [List.length_append,List.length_map,List.length_map]
 omega
theorem dbl_of (nd:(ps.map (·.1)).Nodup) (hsp:∀ (i:Nat) (p:Int),(ps.map (·.1))[i]? = some p->sp p = 2 + (i:Int)) (hen:∀ t ∈ ts,t.1 ∈ ps.map (·.1)/\t.2 ∈ ps.map (·.1)):Dbl (ps.map (·.1)) ts sp (hsA (arcsD sp pl ps ts)):=by
 have get:∀ i,i < ps.length->∃ p,ps[i]? = some p/\sp p.1 = 2 + (i:Int):=fun i hi=>by
  refine ⟨ps[i],gE hi,hsp i _ ?_⟩
  rw [List.getElem?_map,gE hi]; rfl
 refine ⟨nd,hsp,hen,fun i hi=>?_,fun i hi=>?_,fun j t hj=>?_⟩
 ·rw [List.length_map] at hi
  obtain ⟨p,hp,e⟩:=get i hi
  rw [jdu,jeo,je4 (jlc hp)]
  exact ⟨e,rfl⟩
 ·rw [List.length_map] at hi
  obtain ⟨p,hp,e⟩:=get i hi
  rw [List.length_map,jdu,jeo,je4 (jld hp)]
  exact ⟨rfl,by dsimp only; rw [e]; omega⟩
 ·obtain ⟨a,b⟩:=jfd sp ps.length pl ts j t hj
  rw [List.length_map,jdu,jeo,jdu,jeo,je4 ((jf9 (j:=0) (2 * j)).trans a),je4 ((jf9 (j:=0) (2 * j + 1)).trans b)]
  exact ⟨⟨rfl,rfl⟩,rfl,rfl⟩
theorem caps_of {pr:Int->Int} (hpr:∀ p ∈ ps,pr p.1 = p.2) (hpl:∀ p ∈ ps,p.2 < pl):Caps (ps.map (·.1)) ts pr (capA (arcsD sp pl ps ts)):=by
 have get:∀ (i:Nat) (p:Int),(ps.map (·.1))[i]? = some p->∃ q,ps[i]? = some q/\q.1 = p:=fun i p h=>by
  rw [List.getElem?_map] at h
  cases e:ps[i]? with
  | none=>rw [e] at h; cases h
  | some q=>rw [e] at h; exact ⟨q,rfl,Option.some.inj h⟩
 refine ⟨fun i p h=>?_,fun i p h=>?_,fun j hj p hp=>?_⟩
 ·obtain ⟨q,hq,rfl⟩:=get i p h
  unfold capA
  rw [je4 (jlc hq),hpr q (List.mem_of_getElem? hq)]
 ·obtain ⟨q,hq,rfl⟩:=get i p h
  unfold capA
  rw [List.length_map,je4 (jld hq),hpr q (List.mem_of_getElem? hq)]
 ·obtain ⟨q,hq,rfl⟩:=List.mem_map.mp hp
  have hk:j / 2 < ts.length:=by omega
  have hg:ts[j / 2]? = some ts[j / 2]:=gE hk
  obtain ⟨a,b⟩:=jfd sp ps.length pl ts (j / 2) _ hg
  unfold capA
  rw [List.length_map,hpr q hq]
  by_cases c:j % 2 = 0
  ·rw [show j = 2 * (j / 2) by omega,je4 ((jf9 (j:=0) _).trans a)]
   exact hpl q hq
  ·rw [show j = 2 * (j / 2) + 1 by omega,je4 ((jf9 (j:=0) _).trans b)]
   exact hpl q hq
theorem arcsD_ok (hsp:∀ p ∈ ps.map (·.1),2 <= sp p/\sp p < 2 + (ps.length:Int)) (hen:∀ t ∈ ts,t.1 ∈ ps.map (·.1)/\t.2 ∈ ps.map (·.1)) (hpp:∀ p ∈ ps,0 <= p.2) (hpl:0 <= pl):∀ a ∈ arcsD sp pl ps ts,((0 <= a.1/\a.1 < ((2 + (ps.length + ps.length):Nat):Int))/\0 <= a.2.1/\a.2.1 < ((2 + (ps.length + ps.length):Nat):Int))/\0 <= a.2.2:=fun a ha=>by
 unfold arcsD at ha
 have tie:∀ {us:List (Int × Int)},(∀ t ∈ us,t.1 ∈ ps.map (·.1)/\t.2 ∈ ps.map (·.1))->a ∈ tieArcs sp ps.length pl us->((0 <= a.1/\a.1 < ((2 + (ps.length + ps.length):Nat):Int))/\0 <= a.2.1/\a.2.1 < ((2 + (ps.length + ps.length):Nat):Int))/\0 <= a.2.2:=fun {us}=>by
  induction us with
  | nil=>intro _ h; cases h
  | cons u r ih =>
   intro he h
   have h1:=hsp _ (he u (.head _)).1
   have h2:=hsp _ (he u (.head _)).2
   rcases List.mem_cons.mp h with rfl | h
   ·dsimp only; omega
   ·rcases List.mem_cons.mp h with rfl | h
    ·dsimp only; omega
    ·exact ih (fun t ht=>he t (.tail _ ht)) h
 rcases List.mem_append.mp ha with ha | ha
 ·rcases List.mem_append.mp ha with ha | ha
  ·obtain ⟨p,hp,rfl⟩:=List.mem_map.mp ha
   have:=hsp p.1 (List.mem_map_of_mem hp)
   have:=hpp p hp
   dsimp only
   omega
  ·obtain ⟨p,hp,rfl⟩:=List.mem_map.mp ha
   have:=hsp p.1 (List.mem_map_of_mem hp)
   have:=hpp p hp
   dsimp only
   omega
 ·exact tie hen ha
end
end Fl
namespace L2
open PySem PySem.Spec PyProof.Rows
section
variable {X:Cx}
theorem jmo (a:Value):argsOk "min" ⟨[a],[]⟩:=by unfold argsOk; kernel_rfl
def rMinN:List V->Hp->VK->Prop:=fun vs H Q=>∃ (p:Addr) (ns:List Int),vs = [.ref p]/\H p = some (.lst (ns.map V.int))/\ns ≠ [] /\
 ∀ m,m ∈ ns->(∀ x ∈ ns,m <= x)->Q (.int m) H
theorem jhi (hc:X.calm = true):jde X (.builtin "min") rMinN:=by
 intro pins s σ H xs us Q I r h
 obtain ⟨p,ns,rfl,e,hne,q⟩:=h
 obtain ⟨u,rfl,rx⟩:=jif r
 cases rx
 obtain ⟨z,its,c,r',hlen,e'⟩:=I.lstM e
 have hI:=jdp r'
 have plt:p < s.heap.objs.size:=Heap.lt_size e'
 have hL:s.heap.IsList p its.toArray:=⟨_,e',rfl,_,rfl⟩
 refine call_function_tree PySem.F.kind_min PySem.F.plain_min PySem.F.entry_min (jmo _) ?_
 show wpAny _ X.A.in1 (Builtin.Builtins.bindParams "min" ["key","default"] 0 ⟨[],[]⟩ >>= _) _ _ s
 refine wpAny_bind (wpAny_of_eq (show Builtin.Builtins.bindParams "min" ["key","default"] 0 ⟨[],[]⟩ = pure [none,none] from rfl) ?_)
 refine wpAny_bind (wpAny_pure ?_)
 refine wpAny_bind (wpAny_pyIter_list hL ?_)
 refine wpAny_bind (wpAny_newList ?_ (Nat.zero_le _))
 rw [jg7]
 have hS:(s.heap.push { cls:=.type "list_iterator",data:=.fields #[.ref p,.int 0 0] }).objs.size = s.heap.objs.size + 1:=size_push' ..
 have W:=Walks.list (prog:=X.prog) (w:=X.w) (A:=X.A.in1) (show X.A.in1.handled = none from I.ok.hd hc) s.heap.objs.size p (Nat.ne_of_lt plt) its.toArray
 have hsz:its.toArray.size = ns.length:=by rw [List.size_toArray,<- hlen,List.length_map]
 have hval:∀ (i:Nat) (v:Value),its.toArray[i]? = some v->∃ t:Tok,v = Value.int (ns[i]?.getD 0) t:=fun i v hv=>by
  have hv':its[i]? = some v:=by simpa using hv
  have hi:i < ns.length:=by
   have:=(List.getElem?_eq_some_iff.mp hv').1
   rw [List.length_map] at hlen
   omega
  obtain ⟨u,e1,t,e2⟩:=r'.get (i:=i) (x:=.int ns[i]) (by rw [List.getElem?_map,gE hi]; rfl)
  rw [hv'] at e1
  cases e1
  exact ⟨t,by rw [e2,gE hi]; rfl⟩
 have kp0:∀ (h':Heap) (tk:Nat),(∀ b o,b ∉ [s.heap.objs.size]->b ≠ (s.heap.push { cls:=.type "list_iterator",data:=.fields #[.ref p,.int 0 0] }).objs.size->((s.heap.push { cls:=.type "list_iterator",data:=.fields #[.ref p,.int 0 0] }).push { cls:=.type "list",data:=.seq #[] }).get? b = some o->h'.get? b = some o) ->
   Inv X pins σ H { s with heap:=h',toks:=tk }:=fun h' tk k=>I.kept fun b o qq=>k b o (by
    intro z
    have:b = s.heap.objs.size:=by simpa using z
    exact absurd (Heap.lt_size qq) (by rw [this]; exact Nat.lt_irrefl _)) (by rw [hS]; exact Nat.ne_of_lt (Nat.lt_succ_of_lt (Heap.lt_size qq))) (Heap.get?_push_of_some _ (Heap.get?_push_of_some _ qq))
 have hst0:(fun i (h:Heap)=>h.IsListIter s.heap.objs.size p i/\h.IsList p its.toArray) 0 ((s.heap.push { cls:=.type "list_iterator",data:=.fields #[.ref p,.int 0 0] }).push { cls:=.type "list",data:=.seq #[] }) :=
  ⟨⟨_,Heap.get?_push_of_some _ (Heap.get?_push_size _ rfl),rfl,rfl⟩,(hL.push _).push _⟩
 have hSg:((s.heap.push { cls:=.type "list_iterator",data:=.fields #[.ref p,.int 0 0] }).push { cls:=.type "list",data:=.seq #[] }).get? (s.heap.push { cls:=.type "list_iterator",data:=.fields #[.ref p,.int 0 0] }).objs.size = some { cls:=.type "list",dict:=none,data:=.seq #[] 0,slots:=#[] }:=Heap.get?_push_size _ rfl
 have hSf:(s.heap.push { cls:=.type "list_iterator",data:=.fields #[.ref p,.int 0 0] }).objs.size ∉ [s.heap.objs.size,p]:=by
  rw [hS]
  intro z
  rcases List.mem_cons.mp z with z | z
  ·exact absurd z (Nat.succ_ne_self _)
  ·have z:=List.mem_singleton.mp z
   rw [<- z] at plt
   exact Nat.lt_irrefl _ (Nat.lt_of_succ_lt plt)
 refine wpAny_pure ⟨plainId_quiet PySem.F.plain_min_loop _,?_⟩
 refine codeAny_builtin PySem.F.entry_min_loop ?_
 rw [Around.under_plainId PySem.F.plain_min_loop _]
 show wpAny _ X.A.in1 (seqItems? (.ref _) >>= _) _ _ _
 refine wpAny_bind (wpAny_seqItems hSg rfl ?_)
 show wpAny _ X.A.in1 (tryCatch (pyNext (.ref s.heap.objs.size)) _ >>= _) _ _ _
 cases hn:ns with
 | nil=>exact absurd hn hne
 | cons n0 rest =>
  have hpos:0 < its.toArray.size:=by rw [hsz,hn]; simp
  refine wpAny_bind (wpAny_tryCatch (W.item 0 _ _ _ hpos hst0 fun v h' tk hP hst' kp=>?_))
  obtain ⟨t',rfl⟩:=hval 0 v hP
  have hS':=kp _ _ (fun z=>hSf (List.mem_cons.mpr (.inl (List.mem_singleton.mp z)))) hSg
  show wpAny _ X.A.in1 (updateSeq _ (fun _=>#[_,_]) >>= _) _ _ _
  refine wpAny_bind ?_
  refine wpAny_updateSeq hS' rfl ?_
  rw [jg7]
  refine wpAny_pure ⟨plainId_quiet PySem.F.plain_min_loop _,jm7 W (fun i=>ns[i]?.getD 0) hval _ _ hSf _ 1 _ _ t' _ rfl hpos (W.frame _ _ _ hst' fun b hbf o e=>?_) ⟨⟨0,Nat.one_pos,rfl⟩,fun i hi=>by
   have:i = 0:=by omega
   subst this; exact Int.le_refl _⟩ (Heap.get?_update_self _ hS' rfl) fun m u h'' tk'' hB k''=>?_⟩
  ·exact (Heap.get?_update_other _ _ (fun z=>hSf (by rw [z]; exact hbf))).trans e
  ·refine ⟨.int m,H,kp0 h'' tk'' fun b o h1 h2 h3=>k'' b o h1 h2 ((Heap.get?_update_other _ _ (Ne.symm h2)).trans (kp b o h1 h3)),⟨u,rfl⟩,q m ?_ fun x hx=>?_⟩
   ·obtain ⟨i,hi,e1⟩:=hB.1
    rw [hsz] at hi
    rw [e1]
    show ns[i]?.getD 0 ∈ ns
    rw [gE hi]
    exact List.getElem_mem hi
   ·obtain ⟨i,hi,e1⟩:=List.mem_iff_getElem.mp hx
    have:m <= ns[i]?.getD 0:=hB.2 i (by rw [hsz]; exact hi)
    rw [gE hi] at this
    rw [<- e1]
    exact this
end
end L2
local macro_rules | `(tactic| walk_at "ND") => `(tactic| try simp only [L2.fIsB,L2.tSeq,L2.jao,L2.jal,L2.tRet,L2.jb0,L2.tIfS,L2.tAsg,L2.jan,L2.fAug,L2.tOp,L2.tUn,L2.tC,L2.fVar,L2.fI,L2.fIC,L2.fNeg,L2.fEq,L2.fNe,L2.fIsN,L2.jam,L2.fAnd,L2.fOr,L2.fNot,L2.fB,L2.tNot,L2.tAnd,L2.tOr,L2.ja9,L2.fIx,L2.fLen,L2.ja3,L2.fMin,L2.fMax,L2.fInL,L2.fSlL,L2.tSl,L2.jax,L2.ja4,L2.ja2,L2.fBM,L2.jaq,L2.gSub,L2.jat,L2.ja5,L2.jas,L2.jau,L2.jab,L2.ja8,L2.ja7,L2.fCat,L2.jad,L2.fBM0,L2.fSlT,L2.jar,L2.tCBK,L2.fDIn,L2.jaz,L2.fIsi,L2.jae,L2.ja6,L2.fLtT,L2.jaw,L2.tCB,L2.jak,L2.tNil,L2.tTup,L2.tLst,L2.tIf,L2.jav,L2.Kd.nm,L2.start,List.map_cons,List.map_nil,List.length_cons,List.length_nil,Nat.reduceAdd,Nat.reduceSub,List.replicate_succ,List.replicate_zero,List.getElem?_cons_zero,List.getElem?_cons_succ,List.set_cons_zero,List.set_cons_succ,List.append_nil,List.nil_append,List.cons_append,eq_self,true_and,and_true,if_true,Bool.false_eq_true,if_false,Bool.not_true,Bool.not_false,id_eq,My.sl0,My.sl1,My.sl2,My.sl3,My.sl4,L2.jaa,L2.jay,L2.fFld,L2.jb3,L2.jb4,L2.jac,L2.fAlt,L2.jb1,L2.jb6,L2.jb2,L2.jb5,L2.fXor,L2.jap])
local macro_rules | `(tactic| simp_all_arith [$args,*]) => `(tactic| try simp only [L2.fIsB,L2.tSeq,L2.jao,L2.jal,L2.tRet,L2.jb0,L2.tIfS,L2.tAsg,L2.jan,L2.fAug,L2.tOp,L2.tUn,L2.tC,L2.fVar,L2.fI,L2.fIC,L2.fNeg,L2.fEq,L2.fNe,L2.fIsN,L2.jam,L2.fAnd,L2.fOr,L2.fNot,L2.fB,L2.tNot,L2.tAnd,L2.tOr,L2.ja9,L2.fIx,L2.fLen,L2.ja3,L2.fMin,L2.fMax,L2.fInL,L2.fSlL,L2.tSl,L2.jax,L2.ja4,L2.ja2,L2.fBM,L2.jaq,L2.gSub,L2.jat,L2.ja5,L2.jas,L2.jau,L2.jab,L2.ja8,L2.ja7,L2.fCat,L2.jad,L2.fBM0,L2.fSlT,L2.jar,L2.tCBK,L2.fDIn,L2.jaz,L2.fIsi,L2.jae,L2.ja6,L2.fLtT,L2.jaw,L2.tCB,L2.jak,L2.tNil,L2.tTup,L2.tLst,L2.tIf,L2.jav,L2.Kd.nm,L2.start,List.map_cons,List.map_nil,List.length_cons,List.length_nil,Nat.reduceAdd,Nat.reduceSub,List.replicate_succ,List.replicate_zero,List.getElem?_cons_zero,List.getElem?_cons_succ,List.set_cons_zero,List.set_cons_succ,List.append_nil,List.nil_append,List.cons_append,eq_self,true_and,and_true,if_true,Bool.false_eq_true,if_false,Bool.not_true,Bool.not_false,id_eq,My.sl0,My.sl1,My.sl2,My.sl3,My.sl4,L2.jaa,L2.jay,L2.fFld,L2.jb3,L2.jb4,L2.jac,L2.fAlt,L2.jb1,L2.jb6,L2.jb2,L2.jb5,L2.fXor,L2.jap,$args,*])
namespace My
open PySem L2
section
variable {P:Program} {w:World} {K:PySem.W.Frag} {mg:Str->Option Value} {base:Heap} {c1 c2 c3 c4:Tok} {C_Net C_NoWeb fqf:Addr} {dI:FuncData}
def jv5:Stmt->List Stmt
 | .ClassDef _ _ _ b _ _ _ _ _ _ _=>b
 | _=>[]
def meth (i j:Nat):Stmt:=(jv5 (top i)).getD j (.Pass ⟨0,0,0,0⟩)
structure MthAt (K:PySem.W.Frag) (C:Addr) (x qual:Str) (st:Stmt) (ps:List Str) (f:Addr) (fd:FuncData):Prop where
 F:Fun K x qual st f fd
 b:jfc K fd ps []
 m:Meth K C x f
structure NetC (K:PySem.W.Frag) (mg:Str->Option Value) (C:Addr):Prop where
 cl:Cls K C
 n_ways_from:jfb K C "ways_from"
 n_heads:jfb K C "heads"
 n_rooms:jfb K C "rooms"
 m:mg "Net" = some (.ref C)
def netO (C dx W Hd R:Addr):HO:=.ins C dx [("ways_from",.ref W),("heads",.ref Hd),("rooms",.ref R)]
section
variable {C dx W Hd R:Addr}
theorem fld_w:jjk C (some (netO C dx W Hd R)) "ways_from" = some (.ref W):=by unfold jjk netO; dsimp only; rw [if_pos rfl]; rfl
theorem jsc:jjk C (some (netO C dx W Hd R)) "heads" = some (.ref Hd):=by unfold jjk netO; dsimp only; rw [if_pos rfl]; rfl
theorem joc:jjk C (some (netO C dx W Hd R)) "rooms" = some (.ref R):=by unfold jjk netO; dsimp only; rw [if_pos rfl]; rfl
theorem jm3 {m:Str} (h:(m == ("ways_from":Str)) = false) (h2:(m == ("heads":Str)) = false) (h3:(m == ("rooms":Str)) = false):jfz C (some (netO C dx W Hd R)) m = true:=by
 unfold jfz netO
 simp only [decide_true,Bool.true_and,List.lookup_cons,h,h2,h3,List.lookup_nil,Option.isNone_none]
theorem jh0:jfz C (some (netO C dx W Hd R)) "put_way" = true:=jm3 rfl rfl rfl
theorem ji0:jfz C (some (netO C dx W Hd R)) "spread" = true:=jm3 rfl rfl rfl
theorem jfs:jfz C (some (netO C dx W Hd R)) "shortest" = true:=jm3 rfl rfl rfl
theorem jry:jfz C (some (netO C dx W Hd R)) "push" = true:=jm3 rfl rfl rfl
theorem jrz:jfz C (some (netO C dx W Hd R)) "fill" = true:=jm3 rfl rfl rfl
theorem jq0:jfz C (some (netO C dx W Hd R)) "flows" = true:=jm3 rfl rfl rfl
theorem jm2:jfz C (some (netO C dx W Hd R)) "reached_from" = true:=jm3 rfl rfl rfl
end
def nv (ws:List Nat):List V:=ws.map fun w:Nat=>V.int (w:Int)
def NtS (C:Addr) (H:Hp) (p R:Addr) (wf:Int->List Nat) (hs:List Int) (n:Nat):Prop:=∃ (dx W Hd:Addr) (ls:List Addr),H p = some (netO C dx W Hd R)/\H W = some (.lst (ls.map V.ref))/\ls.length = n/\(∀ (i:Nat) (a:Addr),ls[i]? = some a->H a = some (.lst (nv (wf (i:Int))))/\a ≠ R)/\H Hd = some (.lst (hs.map V.int))/\W ≠ R/\Hd ≠ R/\p ≠ R
theorem NtS.but {C:Addr} {H H':Hp} {p R:Addr} {wf:Int->List Nat} {hs:List Int} {n:Nat} (h:NtS C H p R wf hs n) (s:But R H H'):NtS C H' p R wf hs n:=by
 obtain ⟨dx,W,Hd,ls,e1,e2,e3,e4,e5,n1,n2,n3⟩:=h
 exact ⟨dx,W,Hd,ls,s _ _ n3 e1,s _ _ n1 e2,e3,fun i a ha=>⟨s _ _ (e4 i a ha).2 (e4 i a ha).1,(e4 i a ha).2⟩,s _ _ n2 e5,n1,n2,n3⟩
theorem NtS.same {C:Addr} {H H':Hp} {p R:Addr} {wf:Int->List Nat} {hs:List Int} {n:Nat} (h:NtS C H p R wf hs n) (s:Same H H'):NtS C H' p R wf hs n:=h.but fun b o _ q=>s b o q
theorem jib {l:List Int} {w:Nat} (h:w < l.length):atI (l.map V.int) (w:Int) = some (.int (Fl.at' l w)):=by
 refine jdd ?_
 rw [List.getElem?_map,gE h]
 unfold Fl.at'
 rw [List.getD_eq_getElem?_getD,gE h]
 rfl
theorem jtf {l:List Addr} {i:Nat} {a:Addr} (h:l[i]? = some a):atI (l.map V.ref) (i:Int) = some (.ref a):=by
 refine jdd ?_
 rw [List.getElem?_map,h]
 rfl
def oV:Option Nat->V
 | none=>.non
 | some w=>.int (w:Int)
def cbK (cb:Fl.Cb):List (Key × V):=cb.map fun p=>(Sum.inl p.1,oV p.2)
theorem jjp:∀ (cb:Fl.Cb) (v:Int),(valV (cbK cb) (Sum.inl v:Key)).isSome = Fl.seen cb v
 | [],v=>rfl
 | p :: r,v=>by
  have ih:=jjp r v
  unfold cbK valV Fl.seen at ih ⊢
  rw [List.map_cons,List.find?_cons]
  by_cases c:p.1 = v
  ·dsimp only
   rw [decide_eq_true (show (Sum.inl p.1:Key) = Sum.inl v from congrArg Sum.inl c)]
   dsimp only
   rw [decide_eq_true (by rw [List.map_cons,c]; exact List.mem_cons_self)]
   rfl
  ·dsimp only
   rw [decide_eq_false (fun z:(Sum.inl p.1:Key) = Sum.inl v=>c (Sum.inl.inj z))]
   dsimp only
   rw [ih,List.map_cons]
   congr 1
   simp only [List.mem_cons,eq_iff_iff]
   exact ⟨fun z=>.inr z,fun z=>z.resolve_left fun e=>c e.symm⟩
theorem jqw:∀ (cb:Fl.Cb) (v:Int),(valV (cbK cb) (Sum.inl v:Key)).getD .non = oV (Fl.lk cb v)
 | [],v=>rfl
 | p :: r,v=>by
  have ih:=jqw r v
  unfold cbK valV Fl.lk at ih ⊢
  rw [List.map_cons,List.find?_cons,List.find?_cons]
  by_cases c:p.1 = v
  ·dsimp only
   rw [decide_eq_true (show (Sum.inl p.1:Key) = Sum.inl v from congrArg Sum.inl c),decide_eq_true c]
   rfl
  ·dsimp only
   rw [decide_eq_false (fun z:(Sum.inl p.1:Key) = Sum.inl v=>c (Sum.inl.inj z)),decide_eq_false c]
   dsimp only
   exact ih
theorem jv7 {cb:Fl.Cb} {v:Int} {w:Nat} (h:Fl.seen cb v = false):putK (cbK cb) (Sum.inl v:Key) (.int (w:Int)) = cbK (cb ++ [(v,some w)]):=by
 rw [jrg]
 ·unfold cbK
  rw [List.map_append]
  rfl
 ·rw [<- jjp] at h
  cases e:valV (cbK cb) (Sum.inl v:Key) with
  | none=>rfl
  | some x=>rw [e] at h; cases h
theorem jge (hs r:List Int):∀ (a b:List Nat) (cb:Fl.Cb),Fl.visit hs r cb (a ++ b) = Fl.visit hs r (Fl.visit hs r cb a) b
 | [],b,cb=>rfl
 | w :: a,b,cb=>by
  rw [List.cons_append,Fl.visit,Fl.visit]
  exact jge hs r a b _
theorem jr3 (hs r:List Int) (ws:List Nat) (i:Nat) (cb:Fl.Cb):(Fl.visit hs r cb (ws.take i)).length <= (Fl.visit hs r cb ws).length:=by
 have e:Fl.visit hs r cb ws = Fl.visit hs r (Fl.visit hs r cb (ws.take i)) (ws.drop i):=by rw [<- jge,List.take_append_drop]
 obtain ⟨l,e2⟩:=Fl.visit_pre (hs:=hs) (r:=r) (ws.drop i) (Fl.visit hs r cb (ws.take i))
 rw [e,e2,List.length_append]
 omega
structure Nt (C:Addr) (H:Hp) (p R:Addr) (wf:Int->List Nat) (hs:List Int) (m n:Nat) (r:List Int):Prop where
 st:NtS C H p R wf hs n
 eR:H R = some (.lst (r.map V.int))
 net:Fl.Net wf hs m n
 len:r.length = 2 * m
 big:2 * m <= 1000
 n200:n <= 200
theorem Nt.same {C:Addr} {H H':Hp} {p R:Addr} {wf:Int->List Nat} {hs:List Int} {m n:Nat} {r:List Int} (h:Nt C H p R wf hs m n r) (s:Same H H'):Nt C H' p R wf hs m n r:=⟨h.st.same s,s _ _ h.eR,h.net,h.len,h.big,h.n200⟩
def jip (C:Addr):Sp:=fun vs H Q _=>∃ p s R wf hs m n r,vs = [.ref p,.int s]/\Nt C H p R wf hs m n r/\0 <= s/\s < (n:Int)/\∀ d H',H d = none->Same H H'->H' d = some (.dK (cbK (Fl.cbOf wf hs n s r)))->Q (.ref d) H'
def jky (cb:Fl.Cb):List V:=cb.map fun p=>V.int p.1
theorem jpt (B:Blt mg) (D:MthAt K C_Net "spread" "Net.spread" (meth 5 4) ["self","source"] f fd) (T:NetC K mg C_Net):FnOk P w K mg base CX0 1 f fd ["self","source"] (jip C_Net):=by
 have sc:FnScope ["self","source","came_by","line","done","knot","way","head"] ["self","source"] (jbe (meth 5 4)):=by walk_at "SC"
 refine D.F.ok sc (fun vs H Q E h=>?_) (fun cdv A outer s H vs Q E hr h=>?_)
 ·obtain ⟨p,s,R,wf,hs,m,n,r,rfl,_⟩:=h
  rfl
 obtain ⟨p,s,R,wf,hs,m,n,r,rfl,N,s0,s1,h⟩:=h
 have hu:=jcc hr
 have hu0:_ < PySem.cLine:=Nat.lt_of_succ_lt hu
 refine ⟨_,(jaf (jbg (i:=2) sc.nd rfl (Or.inl rfl) (jrq (qv 1) jsz)) (jaf (jbg (i:=3) sc.nd rfl (Or.inl rfl) (jcf (ja0 (qv 1) jah))) (jaf (jbg (i:=4) sc.nd rfl (Or.inl rfl) jai) (jaf (jiz PassesOwn.never (jc0 q_lt (qv 4) (jbp jfw rfl B.len PySem.boot_len (ja0 (qv 3) jah)) (jby _)) (jaf (jbg (i:=5) sc.nd rfl (Or.inl rfl) (jbj q_ix (qv 3) (qv 4) (fun _ _=>rfl))) (jaf (jcw PassesOwn.never rfl (jbt (jbj q_ix (jd4 T.cl T.n_ways_from (qv 0) rfl) (qv 5) (fun _ _=>rfl))) (jb9 (i:=6) sc.nd rfl (Or.inl rfl)) (jaf (jbg (i:=7) sc.nd rfl (Or.inl rfl) (jbj q_ix (jd4 T.cl T.n_heads (qv 0) rfl) (qv 6) (fun _ _=>rfl))) (jb8 (jdf (PW.pt (jhw (jc0 q_gt (jbj q_ix (jd4 T.cl T.n_rooms (qv 0) rfl) (qv 6) (fun _ _=>rfl)) jai (jby _)) (jfg (jtv (jrd hu (qv 7) (qv 2)))))) (jaf (q_dput hu (qv 2) (qv 7) (qv 6)) (jb8 (jc6 (q_bm PySem.F.plainAttrs_list PySem.F.slot_list_append PySem.F.type_list_append jca (qv 3) (ja0 (qv 7) jah))))) jc5)))) (jb8 (jn1 (i:=4) sc.nd rfl (Or.inl rfl) jai jpf))))) (jb8 (jbu (qv 2))))))),?_⟩
 have N0:=N
 obtain ⟨⟨dx,W,Hd,ls,e1,e2,e3,e4,e5,n1,n2,n3⟩,eR,net,hlen,hbig,hn⟩:=N
 refine jbc fun R' hR=>?_
 walk_at "ND"
 intro d hd
 have q1:=jag hd (.dK [(Sum.inl s,.non)])
 have ed:upd H d (.dK [(Sum.inl s,.non)]) d = some (.dK [(Sum.inl s,.non)]):=ja1
 generalize upd H d (.dK [(Sum.inl s,.non)]) = H1 at q1 ed
 subst hR
 refine jbc fun R' hR=>?_
 walk_at "ND"
 intro l hl
 have q2:=q1.trans (jag hl (.lst [.int s]))
 have ed2:=jag hl (.lst [.int s]) _ _ ed
 have el:upd H1 l (.lst [.int s]) l = some (.lst [.int s]):=ja1
 have ld:l ≠ d:=(jaj ed hl).symm
 have hlH:H l = none:=q1.free hl
 generalize upd H1 l (.lst [.int s]) = H2 at q2 ed2 el
 subst hR
 refine jbc fun R' hR=>?_
 walk_at "ND"
 subst hR
 refine jbc fun R' hR=>?_
 refine jid (fun σ Hc=>∃ (k:Nat) (v5 v6 v7:Option V),σ = [some (.ref p),some (.int s),some (.ref d),some (.ref l),some (.int (k:Int)),v5,v6,v7]/\Same H Hc/\Hc d = some (.dK (cbK (Fl.sprN wf hs r s k)))/\Hc l = some (.lst (jky (Fl.sprN wf hs r s k)))/\k <= (Fl.sprN wf hs r s k).length) (fun σ _=>match σ with | [_,_,_,_,some (.int k),_,_,_]=>n - k.toNat | _=>0) ⟨0,none,none,none,rfl,q2,ed2,el,Nat.zero_le _⟩ ?_ ?_
 ·rintro σ Hc ⟨k,v5,v6,v7,rfl,s3,ed3,el3,hk⟩
  have hkl:=Fl.cb_len (r:=r) net ⟨s0,s1⟩ k
  have hlk:(jky (Fl.sprN wf hs r s k)).length = (Fl.sprN wf hs r s k).length:=List.length_map _
  by_cases c:k < (Fl.sprN wf hs r s k).length
  ·have hdt:decide ((k:Int) < ((Fl.sprN wf hs r s k).length:Int)) = true:=decide_eq_true (by omega)
   have hg:(Fl.sprN wf hs r s k)[k]? = some (Fl.sprN wf hs r s k)[k]:=gE c
   generalize hpk:(Fl.sprN wf hs r s k)[k] = pk at hg
   have hgl:atI (jky (Fl.sprN wf hs r s k)) (k:Int) = some (.int pk.1):=jdd (by unfold jky; rw [List.getElem?_map,hg]; rfl)
   simp_all_arith [jbm,el3,hlk,hdt,hgl]
   have hkn:=Fl.keys_in (r:=r) net ⟨s0,s1⟩ k pk.1 (List.mem_map.mpr ⟨_,List.mem_of_getElem? hg,rfl⟩)
   have hi:pk.1.toNat < ls.length:=by omega
   have hla:ls[pk.1.toNat]? = some ls[pk.1.toNat]:=gE hi
   generalize ls[pk.1.toNat] = wa at hla
   have ewa:=(e4 _ _ hla).1
   rw [show ((pk.1.toNat:Nat):Int) = pk.1 by omega] at ewa
   have hwa:atI (ls.map V.ref) pk.1 = some (.ref wa):=by have:=jtf hla; rw [show ((pk.1.toNat:Nat):Int) = pk.1 by omega] at this; exact this
   have hnext:Fl.sprN wf hs r s (k + 1) = Fl.visit hs r (Fl.sprN wf hs r s k) (wf pk.1):=by rw [Fl.sprN,hg]
   have hkl2:=Fl.cb_len (r:=r) net ⟨s0,s1⟩ (k + 1)
   rw [hnext] at hkl2
   generalize hcb:Fl.sprN wf hs r s k = cb at *
   refine jc2 (Itl K wa) Hc (fun R3 hR3=>?_) (jdi (K:=K) (a:=wa) (xs:=nv (wf pk.1)) (fun i σ H4=>∃ v6 v7,σ = [some (.ref p),some (.int s),some (.ref d),some (.ref l),some (.int (k:Int)),some (.int pk.1),v6,v7]/\Same H H4/\H4 d = some (.dK (cbK (Fl.visit hs r cb ((wf pk.1).take i))))/\H4 l = some (.lst (jky (Fl.visit hs r cb ((wf pk.1).take i))))) ⟨v6,v7,rfl,s3,ed3,el3⟩ (fun i σ H4 _ ⟨_,_,_,s4,_⟩=>SqL.of (s4 _ _ ewa)) ?_ ?_)
   ·unfold jck
    simp_all_arith [jbm,s3 _ _ e1,fld_w,s3 _ _ e2,hwa]
    exact ⟨wa,rfl,⟨_,SqL.of (s3 _ _ ewa)⟩,hR3⟩
   ·rintro i x σ H4 hx ⟨v6,v7,rfl,s4,ed4,el4⟩
    unfold nv at hx
    rw [List.getElem?_map] at hx
    obtain ⟨w,hw,rfl⟩:=Option.map_eq_some_iff.mp hx
    have hwm:=net.from' pk.1 w (List.mem_of_getElem? hw)
    have hh:atI (hs.map V.int) (w:Int) = some (.int (Fl.at' hs w)):=jib (by rw [net.len]; exact hwm.1)
    have hr':atI (r.map V.int) (w:Int) = some (.int (Fl.at' r w)):=jib (by rw [hlen]; exact hwm.1)
    have hv1:Fl.visit hs r cb ((wf pk.1).take (i + 1)) = if 0 < Fl.at' r w/\Fl.seen (Fl.visit hs r cb ((wf pk.1).take i)) (Fl.at' hs w) = false then Fl.visit hs r cb ((wf pk.1).take i) ++ [(Fl.at' hs w,some w)] else Fl.visit hs r cb ((wf pk.1).take i):=by
     rw [jbr hw,jge]
     rfl
    have hvl:=jr3 hs r (wf pk.1) i cb
    generalize Fl.visit hs r cb ((wf pk.1).take i) = cb1 at *
    simp_all_arith [jbm,s4 _ _ e1,jsc,joc,s4 _ _ e5,hh,s4 _ _ eR,hr',ed4,jjp]
    by_cases c1:0 < Fl.at' r w
    ·rw [decide_eq_true c1,if_pos rfl]
     cases c2:Fl.seen cb1 (Fl.at' hs w) with
     | true =>
      walk_at "ND"
      rw [if_neg (fun z=>by rw [c2] at z; cases z.2)] at hv1
      rw [hv1]
      exact ⟨_,_,rfl,s4,(by first | rfl | exact ed4),el4⟩
     | false =>
      rw [if_pos ⟨c1,c2⟩] at hv1
      simp_all_arith [jv7 c2]
      have hcl:(cbK cb1).length = cb1.length:=List.length_map _
      refine ⟨szl' (by omega),?_⟩
      have el5:upd H4 d (.dK (cbK (cb1 ++ [(Fl.at' hs w,some w)]))) l = some (.lst (jky cb1)):=by rw [jb7 ld]; exact el4
      refine ⟨⟨l,_,rfl,el5⟩,?_⟩
      rw [el5]
      dsimp only
      have hcl2:(jky cb1).length = cb1.length:=List.length_map _
      refine ⟨szl' (by omega),_,_,rfl,jbi (jbi s4 hd) hlH,?_,?_⟩
      ·rw [jb7 (Ne.symm ld),ja1,hv1]
      ·rw [ja1,hv1]
       unfold jky
       rw [List.map_append]
       rfl
    ·rw [decide_eq_false c1,if_neg (by decide)]
     rw [if_neg (fun z=>c1 z.1)] at hv1
     rw [hv1]
     exact ⟨_,_,rfl,s4,(by first | rfl | exact ed4),el4⟩
   ·rintro σ H4 ⟨v6,v7,rfl,s4,ed4,el4⟩
    have htl:(wf pk.1).take (nv (wf pk.1)).length = wf pk.1:=by unfold nv; rw [List.length_map,List.take_length]
    rw [htl,<- hnext] at ed4 el4
    walk_at "ND"
    refine ⟨⟨k + 1,_,_,_,by rw [show ((k + 1:Nat):Int) = (k:Int) + 1 by omega],s4,ed4,el4,?_⟩,?_⟩
    ·obtain ⟨z,hz⟩:=Fl.spr_pre (wf:=wf) (hs:=hs) (r:=r) (s:=s) k
     rw [hz,hcb,List.length_append]
     omega
    ·omega
  ·have hdt:decide ((k:Int) < ((Fl.sprN wf hs r s k).length:Int)) = false:=decide_eq_false (by omega)
   simp_all_arith [jbm,el3,hlk,hdt]
   subst hR
   walk_at "ND"
   have hfin:Fl.cbOf wf hs n s r = Fl.sprN wf hs r s k:=by
    unfold Fl.cbOf
    rw [show n = k + (n - k) by omega]
    exact Fl.spr_rest (by omega) _
   exact h d Hc hd s3 (by rw [hfin]; exact ed3)
 ·intro σ Hc Q1 Q2 hq hc
  unfold fB tOp tCB jak tNil fVar at hc ⊢
  cases e:σ[4]? with
  | none=>rw [e] at hc; exact hc.elim
  | some ov =>
   rw [e] at hc
   cases ov with
   | none=>exact hc.elim
   | some u =>
    dsimp only [fLen,fI,tC] at hc ⊢
    cases e3:σ[3]? with
    | none=>rw [e3] at hc; exact hc.elim
    | some ov3 =>
     rw [e3] at hc
     cases ov3 with
     | none=>exact hc.elim
     | some u3 =>
      dsimp only at hc ⊢
      cases u3 with
      | ref b =>
       dsimp only at hc ⊢
       cases e2:jbm Hc b with
       | none=>rw [e2] at hc; exact hc.elim
       | some us =>
        rw [e2] at hc
        dsimp only at hc ⊢
        cases u with
        | int i=>exact hq _ _ hc
        | _=>exact hc.elim
      | _=>exact hc.elim
end
end My
namespace Fl
section
variable {hs r:List Int} {m:Nat} {s:Int} {cb:Cb}
theorem juj {v:Int} {w:Nat} (h:lk cb v = some w):∃ i:Nat,cb[i]? = some (v,some w):=by
 unfold lk at h
 cases e:cb.find? fun p=>decide (p.1 = v) with
 | none=>rw [e] at h; cases h
 | some p =>
  rw [e] at h
  have hp:=List.mem_of_find?_eq_some e
  have hv:p.1 = v:=by have:=List.find?_some e; exact of_decide_eq_true (p:=p.1 = v) this
  obtain ⟨i,hi,e2⟩:=List.mem_iff_getElem.mp hp
  refine ⟨i,?_⟩
  rw [gE hi,e2]
  obtain ⟨a,b⟩:=p
  dsimp only at hv
  have h:b = some w:=h
  rw [hv,h]
theorem jnq (C:Cam hs r m s cb):∀ (i:Nat) (v:Int) (o:Option Nat),cb[i]? = some (v,o)->∀ f,i <= f->trailN hs cb (f + 1) v = trailN hs cb f v:=by
 intro i
 induction i using Nat.strongRecOn with
 | ind i ih =>
  intro v o h f hf
  have hl:=jul C.nd h
  by_cases h0:i = 0
  ·subst h0
   have e:=C.first
   rw [h] at e
   have ho:o = none:=congrArg Prod.snd (Option.some.inj e)
   rw [ho] at hl
   rw [trailN,hl]
   cases f with
   | zero=>rfl
   | succ f=>rw [trailN,hl]
  ·obtain ⟨w,rfl,h2,h3,h4,j,u,h5,h6,h7⟩:=C.came i v o h (by omega)
   obtain ⟨f',rfl⟩:∃ f',f = f' + 1:=⟨f - 1,by omega⟩
   obtain ⟨p,hp⟩:∃ p,cb[j]? = some p:=by
    cases e:cb[j]? with
    | none=>rw [e] at h6; cases h6
    | some p=>exact ⟨p,rfl⟩
   have hpu:p.1 = u:=by rw [hp] at h6; exact Option.some.inj h6
   obtain ⟨p1,p2⟩:=p
   dsimp only at hpu
   subst hpu
   have e1:trailN hs cb (f' + 1 + 1) v = w :: trailN hs cb (f' + 1) p1:=by
    rw [trailN,hl]; dsimp only; rw [h7]
   have e2:trailN hs cb (f' + 1) v = w :: trailN hs cb f' p1:=by
    rw [trailN,hl]; dsimp only; rw [h7]
   rw [e1,e2,ih j h5 p1 p2 hp f' (by omega)]
theorem trail_next (C:Cam hs r m s cb) {n:Nat} (hn:cb.length <= n) {v:Int} {w:Nat} (h:lk cb v = some w):trailN hs cb n v = w :: trailN hs cb n (at' hs (mate w))/\w < 2 * m:=by
 obtain ⟨i,hi⟩:=juj h
 have hil:=(List.getElem?_eq_some_iff.mp hi).1
 have h0:0 < i:=by
  by_cases z:i = 0
  ·subst z
   have e:=C.first
   rw [hi] at e
   have:=congrArg Prod.snd (Option.some.inj e)
   cases this
  ·omega
 obtain ⟨w',hw',h2,h3,h4,j,u,h5,h6,h7⟩:=C.came i v _ hi h0
 cases hw'
 obtain ⟨p,hp⟩:∃ p,cb[j]? = some p:=by
  cases e:cb[j]? with
  | none=>rw [e] at h6; cases h6
  | some p=>exact ⟨p,rfl⟩
 have hpu:p.1 = u:=by rw [hp] at h6; exact Option.some.inj h6
 obtain ⟨f',rfl⟩:∃ f',n = f' + 1:=⟨n - 1,by omega⟩
 refine ⟨?_,h2⟩
 rw [trailN,h]
 dsimp only
 rw [h7,<- hpu,jnq C j p.1 p.2 hp f' (by omega)]
theorem trail_end {v:Int} {n:Nat} (h:lk cb v = none):trailN hs cb n v = []:=by
 cases n with
 | zero=>rfl
 | succ n=>rw [trailN,h]
theorem trail_len:∀ (n:Nat) (v:Int),(trailN hs cb n v).length <= n
 | 0,_=>Nat.le_refl _
 | n + 1,v=>by
  rw [trailN]
  split
  ·have:=trail_len n (at' hs (mate ‹Nat›))
   rw [List.length_cons]; omega
  ·exact Nat.zero_le _
theorem minR_mem (r:List Int):∀ {tr:List Nat},tr ≠ []->minR r tr ∈ tr.map (at' r)
 | [],h=>absurd rfl h
 | [w],_=>List.mem_singleton.mpr rfl
 | w :: x :: tr,_=>by
  rw [minR]
  split
  ·exact List.mem_cons_of_mem _ (minR_mem r (tr:=x :: tr) (by simp))
  ·exact List.mem_cons_self
theorem push_snoc (r:List Int) (tr:List Nat) (w:Nat) (a:Int):push r (tr ++ [w]) a = bump (push r tr a) w a:=by
 unfold push
 rw [List.foldl_append]
 rfl
end
end Fl
namespace My
open PySem L2
section
variable {P:Program} {w:World} {K:PySem.W.Frag} {mg:Str->Option Value} {base:Heap} {c1 c2 c3 c4:Tok} {C_Net C_NoWeb fqf:Addr} {dI:FuncData}
def jot (C:Addr):Sp:=fun vs H Q _=>∃ p s t R wf hs m n r,vs = [.ref p,.int s,.int t]/\Nt C H p R wf hs m n r/\0 <= s/\s < (n:Int)/\∀ l H',H l = none->Same H H'->H' l = some (.lst (nv (Fl.trOf wf hs n s t r)))->Q (.ref l) H'
def jsr (C:Addr):Sp:=fun vs H Q _=>∃ p l R wf hs m n r tr,vs = [.ref p,.ref l]/\Nt C H p R wf hs m n r/\H l = some (.lst (nv tr))/\l ≠ R/\tr ≠ []/\tr.length <= 200/\(∀ w ∈ tr,w < 2 * m)/\∀ H',But R H H'->H' R = some (.lst ((Fl.push r tr (Fl.minR r tr)).map V.int))->Q (.int (Fl.minR r tr)) H'
def jsu (C:Addr):Sp:=fun vs H Q _=>∃ p s t R wf hs m n r cap,vs = [.ref p,.int s,.int t]/\Nt C H p R wf hs m n r/\s ≠ t/\0 <= s/\s < (n:Int)/\Fl.Rooms m cap r/\∀ x r' H',Fl.Runs wf hs n s t r r'->Fl.stp wf hs n s t r' = none->But R H H'->H' R = some (.lst (r'.map V.int))->Q (.int x) H'
theorem oV_isN (o:Option Nat):jam (oV o) = o.isNone:=by cases o <;> rfl
theorem jmr (w:Nat):PySem.Builtin.bitXor (w:Int) 1 = ((Fl.mate w:Nat):Int):=jth w
def unI (xs:List V):List Int:=xs.map fun x=>match x with
 | .int i=>i
 | _=>0
theorem jon (r:List Int):unI (r.map V.int) = r:=by
 unfold unI
 rw [List.map_map]
 exact List.map_id _
theorem jqg {n w:Nat} (h:w < n):ixN n (w:Int) = some w:=by
 unfold ixN
 rw [if_pos (by omega),if_pos (by omega)]
 rfl
theorem Nt.but {C:Addr} {H H':Hp} {p R:Addr} {wf:Int->List Nat} {hs:List Int} {m n:Nat} {r r':List Int} (h:Nt C H p R wf hs m n r) (s:But R H H') (e:H' R = some (.lst (r'.map V.int))) (hl:r'.length = 2 * m):Nt C H' p R wf hs m n r':=⟨h.st.but s,e,h.net,hl,h.big,h.n200⟩
theorem jv6 {cb:Fl.Cb} {v:Int} {w:Nat} (h:Fl.lk cb v = some w):valV (cbK cb) (Sum.inl v:Key) = some (.int (w:Int)):=by
 have:=jqw cb v
 rw [h] at this
 cases e:valV (cbK cb) (Sum.inl v:Key) with
 | none=>rw [e] at this; cases this
 | some x=>rw [e] at this; exact congrArg some this
theorem jls (B:Blt mg) (D:MthAt K C_Net "shortest" "Net.shortest" (meth 5 3) ["self","source","sink"] f fd) (Dqj:MthAt K C_Net "spread" "Net.spread" (meth 5 4) ["self","source"] fqj dqj) (Gqj:FnOk P w K mg base CX0 1 fqj dqj ["self","source"] (jip C_Net)) (T:NetC K mg C_Net):FnOk P w K mg base CX0 2 f fd ["self","source","sink"] (jot C_Net):=by
 have sc:FnScope ["self","source","sink","came_by","trail","knot"] ["self","source","sink"] (jbe (meth 5 3)):=by walk_at "SC"
 refine D.F.ok sc (fun vs H Q E h=>?_) (fun cdv A outer s H vs Q E hr h=>?_)
 ·obtain ⟨p,s,t,R,wf,hs,m,n,r,rfl,_⟩:=h
  rfl
 obtain ⟨p,s,t,R,wf,hs,m,n,r,rfl,N,s0,s1,h⟩:=h
 have hu:=jcc hr
 have hu0:_ < PySem.cLine:=Nat.lt_of_succ_lt hu
 refine ⟨_,(jaf (jbg (i:=3) sc.nd rfl (Or.inl rfl) (jd9 (qv 0) T.cl Dqj.m Gqj (hr.mono (by decide)) Dqj.b .nil jbq (ja0 (qv 1) jah))) (jaf (jbg (i:=4) sc.nd rfl (Or.inl rfl) (jcf jah)) (jaf (jbg (i:=5) sc.nd rfl (Or.inl rfl) (qv 2)) (jaf (jiz PassesOwn.never (jc0 q_notN (jtz hu (qv 3) (qv 5)) jsz (jby _)) (jaf (jc6 (q_bm PySem.F.plainAttrs_list PySem.F.slot_list_append PySem.F.type_list_append jca (qv 4) (ja0 (jet hu (qv 3) (qv 5) (fun _ _=>rfl)) jah))) (jb8 (jbg (i:=5) sc.nd rfl (Or.inl rfl) (jbj q_ix (jd4 T.cl T.n_heads (qv 0) rfl) (jbo q_xor (jet hu (qv 3) (qv 5) (fun _ _=>rfl)) jai) (fun _ _=>rfl)))))) (jb8 (jbu (qv 4))))))),?_⟩
 have N0:=N
 obtain ⟨⟨dx,W,Hd,ls,e1,e2,e3,e4,e5,n1,n2,n3⟩,eR,net,hlen,hbig,hn⟩:=N
 refine jbc fun R' hR=>?_
 simp_all_arith [e1,ji0]
 refine ⟨p,s,R,wf,hs,m,n,r,rfl,N0,s0,s1,fun d H1 hd q1 ed=>?_⟩
 subst hR
 refine jbc fun R' hR=>?_
 walk_at "ND"
 intro l hl
 have q2:=q1.trans (jag hl (.lst []))
 have ed2:=jag hl (.lst []) _ _ ed
 have el:upd H1 l (.lst []) l = some (.lst []):=ja1
 have hlH:H l = none:=q1.free hl
 have ld:l ≠ d:=(jaj ed hl).symm
 generalize upd H1 l (.lst []) = H2 at q2 ed2 el
 subst hR
 refine jbc fun R' hR=>?_
 walk_at "ND"
 subst hR
 refine jbc fun R' hR=>?_
 have Cm:=Fl.spr_cam (r:=r) (s:=s) net.from' n
 have hcl:=Fl.cb_len (r:=r) net ⟨s0,s1⟩ n
 have htl:=Fl.trail_len (hs:=hs) (cb:=Fl.cbOf wf hs n s r) n t
 have htr:Fl.trOf wf hs n s t r = Fl.trailN hs (Fl.cbOf wf hs n s r) n t:=rfl
 rw [htr] at h
 generalize hcb:Fl.cbOf wf hs n s r = cb at *
 unfold Fl.cbOf at hcb
 rw [hcb] at Cm hcl
 refine jid (fun σ Hc=>∃ (v:Int) (tr:List Nat),σ = [some (.ref p),some (.int s),some (.int t),some (.ref d),some (.ref l),some (.int v)]/\Same H Hc/\Hc d = some (.dK (cbK cb))/\Hc l = some (.lst (nv tr))/\Fl.trailN hs cb n t = tr ++ Fl.trailN hs cb n v) (fun σ _=>match σ with | [_,_,_,_,_,some (.int v)]=>(Fl.trailN hs cb n v).length | _=>0) ⟨t,[],rfl,q2,ed2,el,rfl⟩ ?_ ?_
 ·rintro σ Hc ⟨v,tr,rfl,s3,ed3,el3,htv⟩
  simp_all_arith [ed3,jqw,oV_isN]
  refine ⟨⟨_,rfl⟩,?_⟩
  cases hlk:Fl.lk cb v with
  | none =>
   simp_all_arith [Option.isNone]
   subst hR
   walk_at "ND"
   rw [Fl.trail_end hlk,List.append_nil] at htv
   exact h l Hc hlH s3 (by rw [htv]; exact el3)
  | some w =>
   obtain ⟨hnx,hw⟩:=Fl.trail_next Cm hcl hlk
   have hm:=Fl.mate_lt hw
   have hh:atI (hs.map V.int) ((Fl.mate w:Nat):Int) = some (.int (Fl.at' hs (Fl.mate w))):=jib (by rw [net.len]; exact hm)
   have hval:=jv6 hlk
   have htl2:tr.length <= n:=by
    have:=congrArg List.length htv
    rw [List.length_append] at this
    omega
   simp_all_arith [Option.isNone,el3,ed3,hval]
   refine ⟨⟨l,_,rfl,el3⟩,?_⟩
   have hnl:(nv tr).length = tr.length:=List.length_map _
   refine ⟨szl' (by omega),?_⟩
   have ed4:upd Hc l (.lst (nv tr ++ [.int (w:Int)])) d = some (.dK (cbK cb)):=by rw [jb7 (Ne.symm ld)]; exact ed3
   have s4:Same H (upd Hc l (.lst (nv tr ++ [.int (w:Int)]))):=jbi s3 hlH
   have el4:upd Hc l (.lst (nv tr ++ [.int (w:Int)])) l = some (.lst (nv (tr ++ [w]))):=by rw [ja1]; unfold nv; rw [List.map_append]; rfl
   generalize upd Hc l (.lst (nv tr ++ [.int (w:Int)])) = H4 at ed4 s4 el4
   simp_all_arith [jbm,s4 _ _ e1,jsc,s4 _ _ e5,ed4,hval,jmr,hh]
   refine ⟨⟨_,_,rfl,s4,el4,?_⟩,?_⟩
   ·rw [htv,hnx,List.append_assoc]
    rfl
   ·rw [hnx,List.length_cons]
    omega
 ·intro σ Hc Q1 Q2 hq hc
  unfold fB tOp jac fVar at hc ⊢
  cases e:σ[3]? with
  | none=>rw [e] at hc; exact hc.elim
  | some ov =>
   rw [e] at hc
   cases ov with
   | none=>exact hc.elim
   | some u =>
    dsimp only at hc ⊢
    cases u with
    | ref a =>
     dsimp only at hc ⊢
     refine ⟨hc.1,?_⟩
     have hc:=hc.2
     cases e3:σ[5]? with
     | none=>rw [e3] at hc; exact hc.elim
     | some ov3 =>
      rw [e3] at hc
      cases ov3 with
      | none=>exact hc.elim
      | some u3 =>
       dsimp only at hc ⊢
       cases u3 with
       | int i =>
        dsimp only at hc ⊢
        cases e4:Hc a with
        | none=>rw [e4] at hc; exact hc.elim
        | some ob =>
         rw [e4] at hc
         cases ob with
         | dK kvs=>dsimp only [tC,fIsN] at hc ⊢; exact hq _ _ hc
         | _=>exact hc.elim
       | _=>exact hc.elim
    | _=>exact hc.elim
theorem jh2 (r:List Int) (w:Nat) (x:Int):(r.map V.int).set w (.int x) = (r.set w x).map V.int:=by rw [List.map_set]
theorem js0 {i:Nat} {σ:St} {H:Hp} {Q Q':Bool->Hp->Prop} (hq:∀ b H1,Q b H1->Q' b H1) (hc:jap (fVar i) σ H Q):jap (fVar i) σ H Q':=by
 unfold jap fVar at hc ⊢
 cases e:σ[i]? with
 | none=>rw [e] at hc; exact hc.elim
 | some ov =>
  rw [e] at hc
  cases ov with
  | none=>exact hc.elim
  | some u =>
   dsimp only at hc ⊢
   cases u with
   | ref a =>
    dsimp only at hc ⊢
    cases e4:H a with
    | none=>rw [e4] at hc; exact hc.elim
    | some ob =>
     rw [e4] at hc
     cases ob with
     | lst xs=>exact hq _ _ hc
     | _=>exact hc.elim
   | _=>exact hc.elim
theorem jud (B:Blt mg) (D:MthAt K C_Net "push" "Net.push" (meth 5 5) ["self","trail"] f fd) (T:NetC K mg C_Net):FnOk P w K mg base CX0 1 f fd ["self","trail"] (jsr C_Net):=by
 have sc:FnScope ["self","trail","amount","way"] ["self","trail"] (jbe (meth 5 5)):=by walk_at "SC"
 refine D.F.ok sc (fun vs H Q E h=>?_) (fun cdv A outer s H vs Q E hr h=>?_)
 ·obtain ⟨p,l,R,wf,hs,m,n,r,tr,rfl,_⟩:=h
  rfl
 obtain ⟨p,l,R,wf,hs,m,n,r,tr,rfl,N,el,lR,tr0,htl,hw,h⟩:=h
 have hu:=jcc hr
 have hu0:_ < PySem.cLine:=Nat.lt_of_succ_lt hu
 refine ⟨_,(jaf (jbg (i:=2) sc.nd rfl (Or.inl rfl) (jbp (jhi rfl) rfl B.min PyProof.Rows.boot_min (ja0 (jc7 (CpScope.of (N:=["way","self"]) (src:=[none,some 0]) (by rfl)) rfl (jbt (qv 1)) (fun _ _ _ _=>(jb9 (i:=0) (jba (l:=["way","self"]) (by rfl)) rfl (Or.inl rfl))) (fun _ _ _ _=>jch) (fun _ _ _ _=>(jbj q_ix (jd4 T.cl T.n_rooms (qv 1) rfl) (qv 0) (fun _ _=>rfl)))) jah))) (jaf (jcw PassesOwn.never rfl (jbt (qv 1)) (jb9 (i:=3) sc.nd rfl (Or.inl rfl)) (jaf (jpi (jd4 T.cl T.n_rooms (qv 0) rfl) (qv 3) jl2 (qv 2) juq jfr) (jb8 (jpi (jd4 T.cl T.n_rooms (qv 0) rfl) (jbo q_xor (qv 3) jai) jl2 (qv 2) jus jfr)))) (jb8 (jbu (qv 2))))),?_⟩
 have N0:=N
 obtain ⟨⟨dx,W,Hd,ls,e1,e2,e3,e4,e5,n1,n2,n3⟩,eR,net,hlen,hbig,hn⟩:=N
 have hnl:(nv tr).length = tr.length:=List.length_map _
 refine jbc fun R' hR=>?_
 walk_at "ND"
 refine jbh (Itl K l) H (fun R2 hR2=>?_) (fun z hz0=>jbn tr.length (fun i σ' Hc=>∃ w1,σ' = [w1,some (.ref p)]/\Same H Hc/\Hc z = some (.lst (((tr.take i).map (Fl.at' r)).map V.int))) ⟨none,rfl,jag hz0 _,ja1⟩ ?_ ?_)
 ·unfold jck
  walk_at "ND"
  exact ⟨l,rfl,⟨_,SqL.of el⟩,hR2⟩
 ·rintro i σ' Hc hi ⟨w1,rfl,s7,ez⟩
  have x1:(nv tr)[i]? = some (.int ((tr[i]:Nat):Int)):=by unfold nv; rw [List.getElem?_map,gE hi]; rfl
  have x2:tr[i]? = some tr[i]:=gE hi
  have hwi:=hw _ (List.getElem_mem hi)
  generalize tr[i] = wi at x1 x2 hwi
  refine ⟨⟨_,_,SqL.of (s7 _ _ el),x1⟩,?_⟩
  rintro y H' ⟨rfl,hy⟩
  have E1:=Option.some.inj (x1.symm.trans (hy _ (SqL.of (s7 _ _ el))))
  subst E1
  have hr':atI (r.map V.int) (wi:Int) = some (.int (Fl.at' r wi)):=jib (by rw [hlen]; exact hwi)
  simp_all_arith [jbm,s7 _ _ e1,joc,s7 _ _ eR,hr']
  refine ⟨_,ez,?_,_,rfl,jbi s7 hz0,?_⟩
  ·rw [List.length_map,List.length_map,List.length_take]
   exact szl' (by omega)
  ·rw [ja1,jbr x2,List.map_append,List.map_append]
   rfl
 ·rintro σ' Hc ⟨w1,rfl,s7,ez⟩
  refine ⟨⟨_,SqL.of (s7 _ _ el),by omega⟩,?_⟩
  rw [List.take_length] at ez
  refine ⟨z,_,rfl,ez,by simpa using tr0,fun a ha hmin=>?_⟩
  have hae:a = Fl.minR r tr:=by
   have h1:=hmin _ (Fl.minR_mem r tr0)
   obtain ⟨w,hwt,rfl⟩:=List.mem_map.mp ha
   have h2:=Fl.minR_le r hwt
   omega
  subst hae
  generalize Fl.minR r tr = a at *
  walk_at "ND"
  subst hR
  refine jbc fun R' hR=>?_
  have zR:z ≠ R:=(jaj eR hz0).symm
  refine jc2 (Itl K l) Hc (fun R3 hR3=>?_) (jdi (K:=K) (a:=l) (xs:=nv tr) (fun i σ H4=>∃ v3,σ = [some (.ref p),some (.ref l),some (.int a),v3]/\But R H H4/\H4 R = some (.lst ((Fl.push r (tr.take i) a).map V.int))) ⟨none,rfl,fun b o _ q=>s7 b o q,s7 _ _ eR⟩ (fun i σ H4 _ ⟨_,_,s4,_⟩=>SqL.of (s4 _ _ lR el)) ?_ ?_)
  ·unfold jck
   walk_at "ND"
   exact ⟨l,rfl,⟨_,SqL.of (s7 _ _ el)⟩,hR3⟩
  ·rintro i x σ H4 hx ⟨v3,rfl,s4,eR4⟩
   unfold nv at hx
   rw [List.getElem?_map] at hx
   obtain ⟨w,hwt,rfl⟩:=Option.map_eq_some_iff.mp hx
   have hwm:=hw w (List.mem_of_getElem? hwt)
   have hmm:=Fl.mate_lt hwm
   have hpl:(Fl.push r (tr.take i) a).length = 2 * m:=by rw [Fl.push_len]; exact hlen
   have hps:Fl.push r (tr.take (i + 1)) a = Fl.bump (Fl.push r (tr.take i) a) w a:=by rw [jbr hwt,Fl.push_snoc]
   generalize Fl.push r (tr.take i) a = r1 at *
   have e14:=s4 _ _ n3 e1
   have h1:atI (r1.map V.int) (w:Int) = some (.int (Fl.at' r1 w)):=jib (by omega)
   have hx1:ixN (r1.map V.int).length (w:Int) = some w:=jqg (by rw [List.length_map]; omega)
   refine jbc fun R5 hR5=>?_
   simp_all_arith [e14,joc,eR4,h1,hx1]
   refine ⟨Int.natCast_nonneg _,?_⟩
   rw [jh2]
   have b5:But R H (upd H4 R (.lst ((r1.set w (Fl.at' r1 w - a)).map V.int))):=s4.trans (But.at R H4 _)
   have e15:=b5 _ _ n3 e1
   have eR5:upd H4 R (.lst ((r1.set w (Fl.at' r1 w - a)).map V.int)) R = some (.lst ((r1.set w (Fl.at' r1 w - a)).map V.int)):=ja1
   generalize upd H4 R (.lst ((r1.set w (Fl.at' r1 w - a)).map V.int)) = H5 at b5 e15 eR5
   have hl2:(r1.set w (Fl.at' r1 w - a)).length = 2 * m:=by rw [List.length_set]; exact hpl
   have h2:atI ((r1.set w (Fl.at' r1 w - a)).map V.int) ((Fl.mate w:Nat):Int) = some (.int (Fl.at' r1 (Fl.mate w))):=by
    rw [jib (by omega),Fl.at_set,if_neg (fun z=>Fl.mate_ne w z.1.symm)]
   have hx2:ixN ((r1.set w (Fl.at' r1 w - a)).map V.int).length ((Fl.mate w:Nat):Int) = some (Fl.mate w):=jqg (by rw [List.length_map]; omega)
   subst hR5
   simp_all_arith [e15,joc,eR5,jmr,h2,hx2]
   refine ⟨Int.natCast_nonneg _,_,rfl,b5.trans (But.at R H5 _),?_⟩
   rw [ja1,hps,jh2]
   rfl
  ·rintro σ H4 ⟨v3,rfl,s4,eR4⟩
   rw [hnl,List.take_length] at eR4
   subst hR
   walk_at "ND"
   exact h H4 s4 eR4
theorem juf (B:Blt mg) (D:MthAt K C_Net "fill" "Net.fill" (meth 5 2) ["self","source","sink"] f fd) (Dqo:MthAt K C_Net "shortest" "Net.shortest" (meth 5 3) ["self","source","sink"] fqo dqo) (Gqo:FnOk P w K mg base CX0 2 fqo dqo ["self","source","sink"] (jot C_Net)) (Dq9:MthAt K C_Net "push" "Net.push" (meth 5 5) ["self","trail"] fq9 dq9) (Gq9:FnOk P w K mg base CX0 1 fq9 dq9 ["self","trail"] (jsr C_Net)) (T:NetC K mg C_Net):FnOk P w K mg base CX0 3 f fd ["self","source","sink"] (jsu C_Net):=by
 have sc:FnScope ["self","source","sink","flowing","trail"] ["self","source","sink"] (jbe (meth 5 2)):=by walk_at "SC"
 refine D.F.ok sc (fun vs H Q E h=>?_) (fun cdv A outer s H vs Q E hr h=>?_)
 ·obtain ⟨p,s,t,R,wf,hs,m,n,r,cap,rfl,_⟩:=h
  rfl
 obtain ⟨p,s,t,R,wf,hs,m,n,r,cap,rfl,N,st,s0,s1,rm,h⟩:=h
 have hu:=jcc hr
 have hu0:_ < PySem.cLine:=Nat.lt_of_succ_lt hu
 refine ⟨_,(jaf (jbg (i:=3) sc.nd rfl (Or.inl rfl) jai) (jaf (jbg (i:=4) sc.nd rfl (Or.inl rfl) (jd9 (qv 0) T.cl Dqo.m Gqo (hr.mono (by decide)) Dqo.b .nil jbq (ja0 (qv 1) (ja0 (qv 2) jah)))) (jaf (jiz PassesOwn.never (ju0 (qv 4)) (jaf (jn1 (i:=3) sc.nd rfl (Or.inl rfl) (jd9 (qv 0) T.cl Dq9.m Gq9 (hr.mono (by decide)) Dq9.b .nil jbq (ja0 (qv 4) jah)) jpf) (jb8 (jbg (i:=4) sc.nd rfl (Or.inl rfl) (jd9 (qv 0) T.cl Dqo.m Gqo (hr.mono (by decide)) Dqo.b .nil jbq (ja0 (qv 1) (ja0 (qv 2) jah))))))) (jb8 (jbu (qv 3)))))),?_⟩
 refine jbc fun R' hR=>?_
 walk_at "ND"
 subst hR
 refine jbc fun R' hR=>?_
 obtain ⟨dx,W,Hd,ls,e1,e2,e3,e4,e5,n1,n2,n3⟩:=N.st
 simp_all_arith [e1,jfs]
 refine ⟨p,s,t,R,wf,hs,m,n,r,rfl,N,s0,s1,fun l H1 hl q1 el=>?_⟩
 have lR:l ≠ R:=(jaj N.eR hl).symm
 subst hR
 refine jbc fun R' hR=>?_
 refine jid (fun σ Hc=>∃ (x:Int) (l:Addr) (r1:List Int),σ = [some (.ref p),some (.int s),some (.int t),some (.int x),some (.ref l)]/\But R H Hc/\Hc R = some (.lst (r1.map V.int))/\Fl.Runs wf hs n s t r r1/\Fl.Rooms m cap r1/\Hc l = some (.lst (nv (Fl.trOf wf hs n s t r1)))/\l ≠ R) (fun _ Hc=>match Hc R with | some (.lst xs)=>(Fl.capSum cap m - Fl.ex hs m (unI xs) t).toNat | _=>0) ⟨0,l,r,rfl,fun b o _ q=>q1 b o q,q1 _ _ N.eR,.done r,rm,el,lR⟩ ?_ ?_
 ·rintro σ Hc ⟨x,l,r1,rfl,b2,eR2,run,rm1,el2,lR⟩
  have N2:=N.but b2 eR2 rm1.len
  have e12:=b2 _ _ n3 e1
  by_cases ct:Fl.trOf wf hs n s t r1 = []
  ·have hst:Fl.stp wf hs n s t r1 = none:=by unfold Fl.stp; rw [if_pos ct]
   have hne:(nv (Fl.trOf wf hs n s t r1)).isEmpty = true:=by rw [ct]; rfl
   simp_all_arith [el2,hne]
   subst hR
   walk_at "ND"
   exact h x r1 Hc run hst b2 eR2
  ·have hst:Fl.stp wf hs n s t r1 = some (Fl.push r1 (Fl.trOf wf hs n s t r1) (Fl.minR r1 (Fl.trOf wf hs n s t r1))):=by unfold Fl.stp; rw [if_neg ct]
   have hne:(nv (Fl.trOf wf hs n s t r1)).isEmpty = false:=by unfold nv; cases hq:Fl.trOf wf hs n s t r1 with | nil=>exact absurd hq ct | cons _ _=>rfl
   obtain ⟨_,gi,G⟩:=Fl.tr_in N.net st ⟨s0,s1⟩ ct
   have hk:=Fl.step_keeps N.net st ⟨s0,s1⟩ rm1 hst
   have hle:=Fl.trail_len (hs:=hs) (cb:=Fl.cbOf wf hs n s r1) n t
   simp_all_arith [el2,hne,e12,jry]
   refine ⟨p,l,R,wf,hs,m,n,r1,_,rfl,N2,el2,lR,ct,Nat.le_trans hle N.n200,fun w hw=>(G.up w hw).1,fun H3 b3 eR3=>?_⟩
   have b4:=b2.trans b3
   have N3:=N2.but b3 eR3 (by rw [Fl.push_len]; exact rm1.len)
   simp_all_arith [b4 _ _ n3 e1,jfs]
   refine ⟨p,s,t,R,wf,hs,m,n,_,rfl,N3,s0,s1,fun l2 H5 hl2 q5 el5=>?_⟩
   have eR5:=q5 _ _ eR3
   refine ⟨⟨_,l2,_,rfl,b4.trans fun b o _ q=>q5 b o q,eR5,run.snoc hst,hk.1,el5,(jaj eR3 hl2).symm⟩,?_⟩
   rw [eR5,eR2]
   dsimp only
   rw [jon,jon]
   have:=hk.2.2
   have:=Fl.ex_le (hs:=hs) hk.1 t
   omega
 ·intro σ Hc Q1 Q2 hq hc
  exact js0 hq hc
structure NtG (C:Addr) (H:Hp) (p dx W Hd R:Addr) (ls:List Addr) (f:Nat->List V) (hv rv:List V):Prop where
 o:H p = some (netO C dx W Hd R)
 w:H W = some (.lst (ls.map V.ref))
 l:∀ (i:Nat) (a:Addr),ls[i]? = some a->H a = some (.lst (f i))/\a ≠ R/\a ≠ Hd/\a ≠ W
 nd:ls.Nodup
 h:H Hd = some (.lst hv)
 r:H R = some (.lst rv)
 n1:W ≠ R
 n2:Hd ≠ R
 n3:W ≠ Hd
def putH (H:Hp) (wa Hd R:Addr) (a b c:List V):Hp:=upd (upd (upd H wa (.lst a)) Hd (.lst b)) R (.lst c)
theorem NtG.put {C:Addr} {H:Hp} {p dx W Hd R:Addr} {ls:List Addr} {f:Nat->List V} {hv rv:List V} (G:NtG C H p dx W Hd R ls f hv rv) {i:Nat} {wa:Addr} (hi:ls[i]? = some wa) (x y z:V) :
  NtG C (putH H wa Hd R (f i ++ [x]) (hv ++ [y]) (rv ++ [z])) p dx W Hd R ls (fun j=>if j = i then f i ++ [x] else f j) (hv ++ [y]) (rv ++ [z]):=by
 obtain ⟨a1,a2,a3,a4⟩:=G.l i wa hi
 have p1:p ≠ wa:=jm1 G.o a1 (by intro z; cases z)
 have p2:p ≠ Hd:=jm1 G.o G.h (by intro z; cases z)
 have p3:p ≠ R:=jm1 G.o G.r (by intro z; cases z)
 unfold putH
 refine ⟨by rw [jb7 p3,jb7 p2,jb7 p1]; exact G.o,by rw [jb7 G.n1,jb7 G.n3,jb7 (Ne.symm a4)]; exact G.w,fun j a ha=>?_,G.nd,by rw [jb7 G.n2,ja1],ja1,G.n1,G.n2,G.n3⟩
 obtain ⟨b1,b2,b3,b4⟩:=G.l j a ha
 refine ⟨?_,b2,b3,b4⟩
 rw [jb7 b2,jb7 b3]
 by_cases c:j = i
 ·subst c
  rw [hi] at ha
  cases ha
  rw [if_pos rfl,ja1]
 ·rw [if_neg c,jb7 (fun e=>c ?_)]
  ·exact b1
  ·subst e
   have h1:=(List.getElem?_eq_some_iff.mp ha)
   have h2:=(List.getElem?_eq_some_iff.mp hi)
   exact (List.getElem_inj G.nd).mp (h1.2.trans h2.2.symm)
def jmv (C:Addr):Sp:=fun vs H Q _=>∃ p dx W Hd R ls f hv rv i wa hd rm,vs = [.ref p,.int ((i:Nat):Int),.int hd,.int rm]/\NtG C H p dx W Hd R ls f hv rv/\ls[i]? = some wa/\(f i).length <= 900/\hv.length <= 900/\rv.length <= 900/\Q .non (putH H wa Hd R (f i ++ [.int (hv.length:Int)]) (hv ++ [.int hd]) (rv ++ [.int rm]))
def jss (C:Addr):Sp:=fun vs H Q _=>∃ p dx n al zs as,vs = [.ref p,.int ((n:Nat):Int),.ref al]/\H p = some (.ins C dx [])/\H al = some (.lst zs)/\Tps H zs as/\n <= 200/\as.length <= 450/\(∀ a ∈ as,(0 <= a.1/\a.1 < (n:Int))/\0 <= a.2.1/\a.2.1 < (n:Int))/\∀ R H',H R = none->But p H H'->Nt C H' p R (Fl.wfA as) (Fl.hsA as) as.length n (Fl.rmA as)->Q .non H'
theorem wfA_le (as:List Fl.Arc) (u:Int):(Fl.wfA as u).length <= 2 * as.length:=by
 unfold Fl.wfA
 have:=List.length_filter_le (fun w=>decide (Fl.at' (Fl.hsA as) (Fl.mate w) = u)) (List.range (2 * as.length))
 rw [List.length_range] at this
 exact this
theorem But.upd {p q:Addr} {H H':Hp} {o:HO} (b:But p H H') (h:H q = none):But p H (upd H' q o):=fun c u n e=>by rw [jb7 (jaj e h)]; exact b c u n e
theorem jt2 (a b:List Nat):nv (a ++ b) = nv a ++ nv b:=List.map_append
theorem jo0 (B:Blt mg) (D:MthAt K C_Net "put_way" "Net.put_way" (meth 5 1) ["self","tail","head","room"] f fd) (T:NetC K mg C_Net):FnOk P w K mg base CX0 1 f fd ["self","tail","head","room"] (jmv C_Net):=by
 have sc:FnScope ["self","tail","head","room"] ["self","tail","head","room"] (jbe (meth 5 1)):=by walk_at "SC"
 refine D.F.ok sc (fun vs H Q E h=>?_) (fun cdv A outer s H vs Q E hr h=>?_)
 ·obtain ⟨p,dx,W,Hd,R,ls,f,hv,rv,i,wa,hd,rm,rfl,_⟩:=h
  rfl
 obtain ⟨p,dx,W,Hd,R,ls,f,hv,rv,i,wa,hd,rm,rfl,G,hi,l1,l2,l3,h⟩:=h
 have hu:=jcc hr
 have hu0:_ < PySem.cLine:=Nat.lt_of_succ_lt hu
 refine ⟨_,(jaf (jc6 (q_bm PySem.F.plainAttrs_list PySem.F.slot_list_append PySem.F.type_list_append jca (jbj q_ix (jd4 T.cl T.n_ways_from (qv 0) rfl) (qv 1) (fun _ _=>rfl)) (ja0 (jbp jfw rfl B.len PySem.boot_len (ja0 (jd4 T.cl T.n_heads (qv 0) rfl) jah)) jah))) (jaf (jc6 (q_bm PySem.F.plainAttrs_list PySem.F.slot_list_append PySem.F.type_list_append jca (jd4 T.cl T.n_heads (qv 0) rfl) (ja0 (qv 2) jah))) (jb8 (jc6 (q_bm PySem.F.plainAttrs_list PySem.F.slot_list_append PySem.F.type_list_append jca (jd4 T.cl T.n_rooms (qv 0) rfl) (ja0 (qv 3) jah)))))),?_⟩
 have e1:=G.o
 have e2:=G.w
 have e3:=G.h
 have hat:=jtf hi
 obtain ⟨a1,a2,a3,a4⟩:=G.l i wa hi
 have p1:p ≠ wa:=jm1 G.o a1 (by intro z; cases z)
 have p2:p ≠ Hd:=jm1 G.o G.h (by intro z; cases z)
 refine jbc fun R' hR=>?_
 simp_all_arith [jbm,e1,fld_w,jsc,e2,hat,a1,e3]
 refine ⟨⟨wa,_,rfl,a1⟩,szl' (by omega),?_⟩
 have e4:upd H wa (.lst (f i ++ [.int (hv.length:Int)])) p = some (netO C_Net dx W Hd R):=by rw [jb7 p1]; exact e1
 have e5:upd H wa (.lst (f i ++ [.int (hv.length:Int)])) Hd = some (.lst hv):=by rw [jb7 (Ne.symm a3)]; exact e3
 have e6:upd H wa (.lst (f i ++ [.int (hv.length:Int)])) R = some (.lst rv):=by rw [jb7 (Ne.symm a2)]; exact G.r
 subst hR
 refine jbc fun R' hR=>?_
 simp_all_arith [e4,jsc,e5]
 refine ⟨⟨Hd,_,rfl,e5⟩,szl' (by omega),?_⟩
 have e7:upd (upd H wa (.lst (f i ++ [.int (hv.length:Int)]))) Hd (.lst (hv ++ [.int hd])) p = some (netO C_Net dx W Hd R):=by rw [jb7 p2]; exact e4
 have e8:upd (upd H wa (.lst (f i ++ [.int (hv.length:Int)]))) Hd (.lst (hv ++ [.int hd])) R = some (.lst rv):=by rw [jb7 (Ne.symm G.n2)]; exact e6
 subst hR
 simp_all_arith [e7,joc,e8]
 exact ⟨⟨R,_,rfl,e8⟩,szl' (by omega),h⟩
theorem NtG.congr {C:Addr} {H:Hp} {p dx W Hd R:Addr} {ls:List Addr} {f g:Nat->List V} {hv rv hv' rv':List V} (G:NtG C H p dx W Hd R ls f hv rv) (h:∀ i,i < ls.length->f i = g i) (e1:hv = hv') (e2:rv = rv'):NtG C H p dx W Hd R ls g hv' rv':=by
 subst e1 e2
 exact ⟨G.o,G.w,fun i a ha=>by rw [<- h i (List.getElem?_eq_some_iff.mp ha).1]; exact G.l i a ha,G.nd,G.h,G.r,G.n1,G.n2,G.n3⟩
theorem jn5 {p wa Hd R:Addr} {H H':Hp} {a b c:List V} (s:But p H H') (h1:H wa = none) (h2:H Hd = none) (h3:H R = none):But p H (putH H' wa Hd R a b c):=((s.upd h1).upd h2).upd h3
theorem jti {as:List Fl.Arc} {a:Fl.Arc} {i1 i2 j:Nat} (h1:a.1 = (i1:Int)) (h2:a.2.1 = (i2:Int)) {x y:V} (hx:x = .int ((2 * as.length:Nat):Int)) (hy:y = .int ((2 * as.length + 1:Nat):Int)) :
  (if j = i2 then (if i2 = i1 then nv (Fl.wfA as (i1:Int)) ++ [x] else nv (Fl.wfA as (i2:Int))) ++ [y] else (if j = i1 then nv (Fl.wfA as (i1:Int)) ++ [x] else nv (Fl.wfA as (j:Int)))) = nv (Fl.wfA (as ++ [a]) (j:Int)):=by
 rw [Fl.wfA_snoc,jt2,jt2,h1,h2,hx,hy]
 by_cases c1:j = i1
 ·by_cases c2:j = i2
  ·have:i2 = i1:=by omega
   subst c2
   subst this
   rw [if_pos rfl,if_pos rfl,if_pos rfl,if_pos rfl]
   rfl
  ·subst c1
   rw [if_neg c2,if_pos rfl,if_pos rfl,if_neg (by omega)]
   show _ = _ ++ []
   rw [List.append_nil]
   rfl
 ·by_cases c2:j = i2
  ·subst c2
   rw [if_pos rfl,if_neg c1,if_neg (by omega),if_pos rfl]
   show _ = (_ ++ []) ++ _
   rw [List.append_nil]
   rfl
  ·rw [if_neg c2,if_neg c1,if_neg (by omega),if_neg (by omega)]
   show _ = (_ ++ []) ++ []
   rw [List.append_nil,List.append_nil]
theorem jue (B:Blt mg) (D:MthAt K C_Net "__init__" "Net.__init__" (meth 5 0) ["self","many","arcs"] f fd) (Dqn:MthAt K C_Net "put_way" "Net.put_way" (meth 5 1) ["self","tail","head","room"] fqn dqn) (Gqn:FnOk P w K mg base CX0 1 fqn dqn ["self","tail","head","room"] (jmv C_Net)) (T:NetC K mg C_Net):FnOk P w K mg base CX0 2 f fd ["self","many","arcs"] (jss C_Net):=by
 have sc:FnScope ["self","many","arcs","tail","head","room"] ["self","many","arcs"] (jbe (meth 5 0)):=by walk_at "SC"
 refine D.F.ok sc (fun vs H Q E h=>?_) (fun cdv A outer s H vs Q E hr h=>?_)
 ·obtain ⟨p,dx,n,al,zs,as,rfl,_⟩:=h
  rfl
 obtain ⟨p,dx,n,al,zs,as,rfl,ep,eal,pz,hn,ha,hok,h⟩:=h
 have hu:=jcc hr
 have hu0:_ < PySem.cLine:=Nat.lt_of_succ_lt hu
 refine ⟨_,(jaf (jlq T.cl T.n_ways_from (qv 0) (jc7 (CpScope.of (N:=["knot"]) (src:=[none]) (by rfl)) rfl (jd0 rfl B.range (ja0 (qv 1) jah)) (fun _ _ _ _=>(jb9 (i:=0) (jba (l:=["knot"]) (by rfl)) rfl (Or.inl rfl))) (fun _ _ _ _=>jch) (fun _ _ _ _=>(jcf jah))) rfl) (jaf (jlq T.cl T.n_heads (qv 0) (jcf jah) rfl) (jaf (jlq T.cl T.n_rooms (qv 0) (jcf jah) rfl) (jb8 (jcw PassesOwn.never rfl (jbt (qv 2)) (jci (n:=3) rfl (jbb (jb9 (i:=3) sc.nd rfl (Or.inl rfl)) (jbb (jb9 (i:=4) sc.nd rfl (Or.inl rfl)) (jbb (jb9 (i:=5) sc.nd rfl (Or.inl rfl)) jbw)))) (jaf (jc6 (jd9 (qv 0) T.cl Dqn.m Gqn (hr.mono (by decide)) Dqn.b .nil jbq (ja0 (qv 3) (ja0 (qv 4) (ja0 (qv 5) jah))))) (jb8 (jc6 (jd9 (qv 0) T.cl Dqn.m Gqn (hr.mono (by decide)) Dqn.b .nil jbq (ja0 (qv 4) (ja0 (qv 3) (ja0 jai jah)))))))))))),?_⟩
 have hlz:zs.length = as.length:=Paired.length pz
 have alp:al ≠ p:=jm1 eal ep (by intro z; cases z)
 refine jbc fun R' hR=>?_
 walk_at "ND"
 refine jbh (Itr 0 n) H (fun R2 hR2=>?_) (fun W hW=>jbn n (fun i σ' Hc=>∃ w1 ls,σ' = [w1]/\Same H Hc/\Hc W = some (.lst (ls.map V.ref))/\ls.length = i/\ls.Nodup/\∀ a ∈ ls,Hc a = some (.lst [])/\a ≠ W/\H a = none) ⟨none,[],rfl,jag hW _,ja1,rfl,.nil,fun a z=>by cases z⟩ ?_ ?_)
 ·unfold jl1
  walk_at "ND"
  exact ⟨_,rfl,by omega,by omega,hR2⟩
 ·rintro i σ' Hc hi ⟨w1,ls,rfl,s1,eW,hl,nd,hls⟩
  refine ⟨hi,?_⟩
  rintro y H' ⟨rfl,rfl⟩
  walk_at "ND"
  intro b hb
  have q:=jag hb (.lst [])
  have eb:upd H' b (.lst []) b = some (.lst []):=ja1
  have eW2:=q _ _ eW
  have bW:b ≠ W:=(jaj eW hb).symm
  have s2:=s1.trans q
  have hls2:∀ a ∈ ls,upd H' b (.lst []) a = some (.lst [])/\a ≠ b:=fun a ha=>⟨q _ _ (hls a ha).1,jaj (hls a ha).1 hb⟩
  generalize upd H' b (.lst []) = H3 at q eb eW2 s2 hls2
  refine ⟨_,eW2,by rw [List.length_map]; exact szl' (by omega),_,ls ++ [b],rfl,jbi s2 hW,by rw [ja1,List.map_append]; rfl,by rw [List.length_append,hl]; rfl,?_,fun a ha=>?_⟩
  ·rw [List.nodup_append]
   refine ⟨nd,by simp,fun a ha c hc=>?_⟩
   rw [List.mem_singleton.mp hc]
   exact (hls2 a ha).2
  ·rcases List.mem_append.mp ha with ha | ha
   ·refine ⟨by rw [jb7 (hls a ha).2.1]; exact (hls2 a ha).1,(hls a ha).2⟩
   ·rw [List.mem_singleton.mp ha]
    exact ⟨by rw [jb7 bW]; exact eb,bW,s1.free hb⟩
 rintro σ' H1 ⟨w1,ls,rfl,s1,eW,hl,nd,hls⟩
 refine ⟨Nat.le_refl _,?_⟩
 have ep1:=s1 _ _ ep
 simp_all_arith [ep1]
 refine ⟨Nat.le_of_ble_eq_true rfl,?_⟩
 have b2:But p H (upd H1 p (.ins C_Net dx (putF "ways_from" (.ref W) []))):=fun b o n q=>by rw [jb7 n]; exact s1 b o q
 have ep2:upd H1 p (.ins C_Net dx (putF "ways_from" (.ref W) [])) p = some (.ins C_Net dx (putF "ways_from" (.ref W) [])):=ja1
 have Wp:W ≠ p:=(jaj ep hW).symm
 have eW2:upd H1 p (.ins C_Net dx (putF "ways_from" (.ref W) [])) W = some (.lst (ls.map V.ref)):=by rw [jb7 Wp]; exact eW
 have hls2:∀ a ∈ ls,upd H1 p (.ins C_Net dx (putF "ways_from" (.ref W) [])) a = some (.lst [])/\a ≠ W/\H a = none:=fun a ha=>⟨by rw [jb7 (jaj ep (hls a ha).2.2).symm]; exact (hls a ha).1,(hls a ha).2⟩
 generalize upd H1 p (.ins C_Net dx (putF "ways_from" (.ref W) [])) = H2 at b2 ep2 eW2 hls2
 clear hls eW ep1 s1
 have free:∀ {H':Hp} {q:Addr},But p H H'->H' p ≠ none->H' q = none->H q = none:=fun {H' q} b hp hq=>by
  cases e:H q with
  | none=>rfl
  | some o =>
   have hqp:q ≠ p:=fun z=>hp (by rw [<- z]; exact hq)
   rw [b _ _ hqp e] at hq
   cases hq
 subst hR
 refine jbc fun R' hR=>?_
 walk_at "ND"
 intro Hd hHd
 have fHd:H Hd = none:=free b2 (by rw [ep2]; simp) hHd
 have ep3:upd H2 Hd (.lst []) p = some (.ins C_Net dx (putF "ways_from" (.ref W) [])):=jag hHd _ _ _ ep2
 have eHd:upd H2 Hd (.lst []) Hd = some (.lst []):=ja1
 have WHd:W ≠ Hd:=jaj eW2 hHd
 have hls3:∀ a ∈ ls,upd H2 Hd (.lst []) a = some (.lst [])/\a ≠ Hd:=fun a ha=>⟨jag hHd _ _ _ (hls2 a ha).1,jaj (hls2 a ha).1 hHd⟩
 have eW3:=jag hHd (.lst []) _ _ eW2
 have b3:But p H (upd H2 Hd (.lst [])):=b2.upd fHd
 generalize upd H2 Hd (.lst []) = H3 at ep3 eHd hls3 eW3 b3
 simp_all_arith [ep3]
 refine ⟨Nat.le_of_ble_eq_true rfl,?_⟩
 have Hdp:Hd ≠ p:=(jaj ep fHd).symm
 have ep4:upd H3 p (.ins C_Net dx (putF "heads" (.ref Hd) (putF "ways_from" (.ref W) []))) p = some (.ins C_Net dx (putF "heads" (.ref Hd) (putF "ways_from" (.ref W) []))):=ja1
 have eHd4:upd H3 p (.ins C_Net dx (putF "heads" (.ref Hd) (putF "ways_from" (.ref W) []))) Hd = some (.lst []):=by rw [jb7 Hdp]; exact eHd
 have eW4:upd H3 p (.ins C_Net dx (putF "heads" (.ref Hd) (putF "ways_from" (.ref W) []))) W = some (.lst (ls.map V.ref)):=by rw [jb7 Wp]; exact eW3
 have hls4:∀ a ∈ ls,upd H3 p (.ins C_Net dx (putF "heads" (.ref Hd) (putF "ways_from" (.ref W) []))) a = some (.lst []):=fun a ha=>by rw [jb7 (jaj ep (hls2 a ha).2.2).symm]; exact (hls3 a ha).1
 have b4:But p H (upd H3 p (.ins C_Net dx (putF "heads" (.ref Hd) (putF "ways_from" (.ref W) [])))):=b3.trans (But.at p H3 _)
 generalize upd H3 p (.ins C_Net dx (putF "heads" (.ref Hd) (putF "ways_from" (.ref W) []))) = H4 at ep4 eHd4 eW4 hls4 b4
 subst hR
 refine jbc fun R' hR=>?_
 walk_at "ND"
 intro R hRn
 have fR:H R = none:=free b4 (by rw [ep4]; simp) hRn
 have ep5:upd H4 R (.lst []) p = some (.ins C_Net dx (putF "heads" (.ref Hd) (putF "ways_from" (.ref W) []))):=jag hRn _ _ _ ep4
 have eR5:upd H4 R (.lst []) R = some (.lst []):=ja1
 have eHd5:=jag hRn (.lst []) _ _ eHd4
 have eW5:=jag hRn (.lst []) _ _ eW4
 have WR:W ≠ R:=jaj eW4 hRn
 have HdR:Hd ≠ R:=jaj eHd4 hRn
 have hls5:∀ a ∈ ls,upd H4 R (.lst []) a = some (.lst [])/\a ≠ R:=fun a ha=>⟨jag hRn _ _ _ (hls4 a ha),jaj (hls4 a ha) hRn⟩
 have b5:But p H (upd H4 R (.lst [])):=b4.upd fR
 generalize upd H4 R (.lst []) = H5 at ep5 eR5 eHd5 eW5 hls5 b5
 simp_all_arith [ep5]
 refine ⟨Nat.le_of_ble_eq_true rfl,?_⟩
 have Rp:R ≠ p:=(jaj ep fR).symm
 have eo:(HO.ins C_Net dx (putF "rooms" (.ref R) (putF "heads" (.ref Hd) (putF "ways_from" (.ref W) [])))) = netO C_Net dx W Hd R:=rfl
 rw [eo]
 have b6:But p H (upd H5 p (netO C_Net dx W Hd R)):=b5.trans (But.at p H5 _)
 have G0:NtG C_Net (upd H5 p (netO C_Net dx W Hd R)) p dx W Hd R ls (fun i=>nv (Fl.wfA (as.take 0) (i:Int))) ((Fl.hsA (as.take 0)).map V.int) ((Fl.rmA (as.take 0)).map V.int):=by
  refine ⟨ja1,by rw [jb7 Wp]; exact eW5,fun i a hia=>?_,nd,by rw [jb7 Hdp]; exact eHd5,by rw [jb7 Rp]; exact eR5,WR,HdR,WHd⟩
  have ha:=List.mem_of_getElem? hia
  exact ⟨by rw [jb7 (jaj ep (hls2 a ha).2.2).symm]; exact (hls5 a ha).1,(hls5 a ha).2,(hls3 a ha).2,(hls2 a ha).2.1⟩
 generalize upd H5 p (netO C_Net dx W Hd R) = H6 at b6 G0
 have fls:∀ a ∈ ls,H a = none:=fun a ha=>(hls2 a ha).2.2
 clear hls2 hls3 hls4 hls5 b2 b3 b4 b5 ep2 ep3 ep4 ep5 eW2 eW3 eW4 eW5 eHd eHd4 eHd5 eR5
 subst hR
 refine jc2 (Itl K al) H6 (fun R3 hR3=>?_) (jdi (K:=K) (a:=al) (xs:=zs) (fun k σ Hc=>∃ v1 v2 v3,σ = [some (.ref p),some (.int (n:Int)),some (.ref al),v1,v2,v3]/\But p H Hc/\NtG C_Net Hc p dx W Hd R ls (fun i=>nv (Fl.wfA (as.take k) (i:Int))) ((Fl.hsA (as.take k)).map V.int) ((Fl.rmA (as.take k)).map V.int)) ⟨none,none,none,rfl,b6,G0⟩ (fun i σ Hc _ ⟨_,_,_,_,b,_⟩=>SqL.of (b _ _ alp eal)) ?_ ?_)
 ·unfold jck
  walk_at "ND"
  exact ⟨al,rfl,⟨_,SqL.of (b6 _ _ alp eal)⟩,hR3⟩
 ·rintro k x σ Hc hx ⟨v1,v2,v3,rfl,b7,G⟩
  obtain ⟨a,hka,pa⟩:=jbd pz hx
  obtain ⟨t,rfl,et⟩:=Tp.tups pa (b7.tups ep rfl)
  have hkl:=(List.getElem?_eq_some_iff.mp hka).1
  obtain ⟨⟨h1,h2⟩,h3,h4⟩:=hok a (List.mem_of_getElem? hka)
  have i1:ls[a.1.toNat]? = some (ls[a.1.toNat]'(by omega)):=gE _
  have i2:ls[a.2.1.toNat]? = some (ls[a.2.1.toNat]'(by omega)):=gE _
  generalize ls[a.1.toNat]'(by omega) = w1 at i1
  generalize ls[a.2.1.toNat]'(by omega) = w2 at i2
  have c1:((a.1.toNat:Nat):Int) = a.1:=by omega
  have c2:((a.2.1.toNat:Nat):Int) = a.2.1:=by omega
  have htk:(as.take k).length = k:=by rw [List.length_take]; omega
  have hl1:((Fl.hsA (as.take k)).map V.int).length = 2 * k:=by rw [List.length_map,Fl.hsA_len,htk]
  have hl2:((Fl.rmA (as.take k)).map V.int).length = 2 * k:=by rw [List.length_map,Fl.rmA_len,htk]
  have hl3:∀ u:Int,(nv (Fl.wfA (as.take k) u)).length <= 2 * k:=fun u=>by
   have:=wfA_le (as.take k) u
   rw [htk] at this
   unfold nv
   rw [List.length_map]
   exact this
  simp_all_arith [et,G.o,jh0]
  refine ⟨p,dx,W,Hd,R,ls,_,_,_,a.1.toNat,w1,a.2.1,a.2.2,by rw [c1],G,i1,by have:=hl3 ((a.1.toNat:Nat):Int); omega,by omega,by omega,?_⟩
  have G1:=G.put i1 (.int (((Fl.hsA (as.take k)).map V.int).length:Int)) (.int a.2.1) (.int a.2.2)
  have b8:=jn5 (wa:=w1) (Hd:=Hd) (R:=R) (a:=nv (Fl.wfA (as.take k) ((a.1.toNat:Nat):Int)) ++ [.int (((Fl.hsA (as.take k)).map V.int).length:Int)]) (b:=(Fl.hsA (as.take k)).map V.int ++ [.int a.2.1]) (c:=(Fl.rmA (as.take k)).map V.int ++ [.int a.2.2]) b7 (fls _ (List.mem_of_getElem? i1)) fHd fR
  generalize putH Hc w1 Hd R (nv (Fl.wfA (as.take k) ((a.1.toNat:Nat):Int)) ++ [.int (((Fl.hsA (as.take k)).map V.int).length:Int)]) ((Fl.hsA (as.take k)).map V.int ++ [.int a.2.1]) ((Fl.rmA (as.take k)).map V.int ++ [.int a.2.2]) = H8 at G1 b8
  simp_all_arith [G1.o,jh0]
  refine ⟨p,dx,W,Hd,R,ls,_,_,_,a.2.1.toNat,w2,a.1,0,by rw [c2],G1,i2,?_,by rw [List.length_append,hl1]; show _ + 1 <= _; omega,by rw [List.length_append,hl2]; show _ + 1 <= _; omega,?_⟩
  ·split
   ·rw [List.length_append]
    have:=hl3 ((a.1.toNat:Nat):Int)
    show _ + 1 <= _
    omega
   ·have:=hl3 ((a.2.1.toNat:Nat):Int); omega
  have G2:=G1.put i2 (.int ((((Fl.hsA (as.take k)).map V.int) ++ [V.int a.2.1]).length:Int)) (.int a.1) (.int 0)
  have b9:=jn5 (wa:=w2) (Hd:=Hd) (R:=R) (a:=(if a.2.1.toNat = a.1.toNat then nv (Fl.wfA (as.take k) ((a.1.toNat:Nat):Int)) ++ [.int (((Fl.hsA (as.take k)).map V.int).length:Int)] else nv (Fl.wfA (as.take k) ((a.2.1.toNat:Nat):Int))) ++ [.int ((((Fl.hsA (as.take k)).map V.int) ++ [V.int a.2.1]).length:Int)]) (b:=((Fl.hsA (as.take k)).map V.int ++ [.int a.2.1]) ++ [.int a.1]) (c:=((Fl.rmA (as.take k)).map V.int ++ [.int a.2.2]) ++ [.int 0]) b8 (fls _ (List.mem_of_getElem? i2)) fHd fR
  refine ⟨_,_,_,rfl,b9,G2.congr (fun j hj=>?_) ?_ ?_⟩
  ·rw [jbr hka]
   exact jti c1.symm c2.symm (by rw [hl1,htk]) (by rw [List.length_append,hl1,htk]; rfl)
  ·rw [jbr hka,Fl.hsA_snoc,List.map_append,List.append_assoc]; rfl
  ·rw [jbr hka,Fl.rmA_snoc,List.map_append,List.append_assoc]; rfl
 ·rintro σ Hc ⟨v1,v2,v3,rfl,b7,G⟩
  rw [hlz,List.take_length] at G
  refine h R Hc fR b7 ⟨⟨dx,W,Hd,ls,G.o,G.w,hl,fun i a hia=>⟨(G.l i a hia).1,(G.l i a hia).2.1⟩,G.h,G.n1,G.n2,Rp.symm⟩,G.r,Fl.net_of hok,Fl.rmA_len as,by omega,hn⟩
end
end My
namespace My
open PySem L2
section
variable {P:Program} {w:World} {K:PySem.W.Frag} {mg:Str->Option Value} {base:Heap} {c1 c2 c3 c4 e1 e2 e3:Tok} {C_Net C_NoWeb fqf:Addr} {dI:FuncData}
def mkI (ns:List Int):List (Key × V):=ns.map fun n=>(Sum.inl n,V.bl true)
theorem jq1:∀ (ns:List Int) (n:Int),hasK (mkI ns) n = decide (n ∈ ns)
 | [],n=>rfl
 | m :: r,n=>by
  have ih:=jq1 r n
  unfold hasK valV mkI at ih ⊢
  rw [List.map_cons,List.find?_cons]
  by_cases c:m = n
  ·subst c
   simp
  ·have hd:decide ((Sum.inl m:Key) = Sum.inl n) = false:=decide_eq_false fun z=>c (Sum.inl.inj z)
   dsimp only
   rw [hd]
   rw [ih,Bool.eq_iff_iff,decide_eq_true_eq,decide_eq_true_eq,List.mem_cons]
   exact ⟨.inr,fun z=>z.resolve_left fun y=>c y.symm⟩
def jox:Sp:=fun vs H Q _=>∃ u,∃ ns:List Int,vs = [.ref u]/\H u = some (.lst (ns.map V.int))/\ns.Nodup/\ns.length <= 120/\∀ d H',H d = none->Same H H'->H' d = some (.dK (mkI ns))->Q (.ref d) H'
structure Cst2 (mg:Str->Option Value) (t1 t2 t3:Tok):Prop where
 SOURCE:mg "SOURCE" = some (.int 0 t1)
 SINK:mg "SINK" = some (.int 1 t2)
 FIRST:mg "FIRST" = some (.int 2 t3)
theorem jhl {α β:Type} (f:α->β):∀ (b:Bool) (xs:List α),alt b (xs.map f) = (alt b xs).map f
 | true,[]=>rfl
 | false,[]=>rfl
 | true,x :: xs=>by show f x :: alt false (xs.map f) = f x :: (alt false xs).map f; rw [jhl f false xs]
 | false,x :: xs=>jhl f true xs
def jp1 (C:Addr):Sp:=fun vs H Q _=>∃ p R wf hs m n r,vs = [.ref p]/\Nt C H p R wf hs m n r/\∀ l H',H l = none->Same H H'->H' l = some (.lst ((alt false r).map V.int))->Q (.ref l) H'
def jov (C:Addr):Sp:=fun vs H Q _=>∃ p s R wf hs m n r,vs = [.ref p,.int s]/\Nt C H p R wf hs m n r/\0 <= s/\s < (n:Int)/\n < 64/\∀ (l:Addr) (ms:List Int) (H':Hp),H l = none->Same H H'->H' l = some (.lst (ms.map V.int))->ms.Perm ((Fl.cbOf wf hs n s r).map (·.1))->Q (.ref l) H'
def halR (S:Int->Bool) (many:Int) (ps:List (Int × Int)) (k:Nat):List (Int × Int):=(List.range k).map fun i=>((ps.getD i (0,0)).1,(if S (2 + (i:Int)) = true then 0 else 1) + (if S (2 + many + (i:Int)) = true then 1 else 0))
def jst:Sp:=fun vs H Q _=>∃ v ps ts d kvs,vs = [v,.ref d]/\jd3 H v ps ts/\WebOk ps ts/\H d = some (.dK kvs)/\∀ l zs H',H l = none->Same H H'->H' l = some (.lst zs)->Prs H' zs (halR (hasK kvs) ps.length ps ps.length)->Q (.ref l) H'
def duR (fs:List Int) (n:Nat) (ts:List (Int × Int)) (k:Nat):List (Int × Int × Int):=((List.range k).map fun j=>((ts.getD j (0,0)).1,(ts.getD j (0,0)).2,Fl.at' fs (2 * n + 2 * j) + Fl.at' fs (2 * n + 2 * j + 1))).filter fun d=>decide (d.2.2 > 0)
def jp2:Sp:=fun vs H Q _=>∃ v ps ts fl fs,vs = [v,.ref fl]/\jd3 H v ps ts/\WebOk ps ts/\H fl = some (.lst (fs.map V.int))/\fs.length = 2 * ps.length + 2 * ts.length/\∀ l zs H',H l = none->Same H H'->H' l = some (.lst zs)->Tps H' zs (duR fs ps.length ts ts.length)->Q (.ref l) H'
theorem jdv {α:Type} {l:List α} {i:Nat} {a d:α} (h:l[i]? = some a):l.getD i d = a:=by rw [List.getD_eq_getElem?_getD,h]; rfl
theorem jsg {xs:List V} {k:Nat} (h1:k <= xs.length):cutV xs (some (k:Int)) none = xs.drop k:=by
 unfold cutV HT.sIx
 simp only [if_neg (show ¬ (k:Int) < 0 by omega)]
 rw [Nat.min_eq_left (by omega)]
 exact List.take_of_length_le (by rw [List.length_drop]; exact Nat.le_refl _)
theorem jrr (B:Blt mg) (D:MthAt K C_Net "flows" "Net.flows" (meth 5 6) ["self"] f fd) (T:NetC K mg C_Net):FnOk P w K mg base CX0 1 f fd ["self"] (jp1 C_Net):=by
 have sc:FnScope ["self"] ["self"] (jbe (meth 5 6)):=by walk_at "SC"
 refine D.F.ok sc (fun vs H Q E h=>?_) (fun cdv A outer s H vs Q E hr h=>?_)
 ·obtain ⟨p,R,wf,hs,m,n,r,rfl,_⟩:=h
  rfl
 obtain ⟨p,R,wf,hs,m,n,r,rfl,N,h⟩:=h
 have hu:=jcc hr
 have hu0:_ < PySem.cLine:=Nat.lt_of_succ_lt hu
 refine ⟨_,(jb8 (jbu (jpo (b:=false) rfl (jd4 T.cl T.n_rooms (qv 0) rfl)))),?_⟩
 obtain ⟨⟨dx,W,Hd,ls,e1,e2,e3,e4,e5,n1,n2,n3⟩,eR,net,hlen,hbig,hn⟩:=N
 simp_all_arith [e1,joc,eR]
 intro l hl
 rw [jhl]
 exact h l _ hl (jag hl _) ja1
theorem jgt (B:Blt mg) (D:MthAt K C_Net "reached_from" "Net.reached_from" (meth 5 7) ["self","source"] f fd) (Dqj:MthAt K C_Net "spread" "Net.spread" (meth 5 4) ["self","source"] fqj dqj) (Gqj:FnOk P w K mg base CX0 1 fqj dqj ["self","source"] (jip C_Net)) (T:NetC K mg C_Net):FnOk P w K mg base CX0 2 f fd ["self","source"] (jov C_Net):=by
 have sc:FnScope ["self","source"] ["self","source"] (jbe (meth 5 7)):=by walk_at "SC"
 refine D.F.ok sc (fun vs H Q E h=>?_) (fun cdv A outer s H vs Q E hr h=>?_)
 ·obtain ⟨p,s,R,wf,hs,m,n,r,rfl,_⟩:=h
  rfl
 obtain ⟨p,s,R,wf,hs,m,n,r,rfl,N,s0,s1,h64,h⟩:=h
 have hu:=jcc hr
 have hu0:_ < PySem.cLine:=Nat.lt_of_succ_lt hu
 refine ⟨_,(jb8 (jbu (jbp (jof rfl) rfl B.sorted PyProof.Rows.boot_sorted (ja0 (jd9 (qv 0) T.cl Dqj.m Gqj (hr.mono (by decide)) Dqj.b .nil jbq (ja0 (qv 1) jah)) jah)))),?_⟩
 have N0:=N
 obtain ⟨⟨dx,W,Hd,ls,e1,e2,e3,e4,e5,n1,n2,n3⟩,eR,net,hlen,hbig,hn⟩:=N
 simp_all_arith [e1,ji0]
 refine ⟨p,s,R,wf,hs,m,n,r,rfl,N0,s0,s1,fun d H1 hd q1 ed=>?_⟩
 have hcl:=Fl.cb_len (r:=r) net ⟨s0,s1⟩ n
 refine ⟨d,_,(Fl.cbOf wf hs n s r).map (·.1),rfl,ed,?_,by rw [List.length_map]; exact Nat.lt_of_le_of_lt hcl h64,fun l ms hl pm _=>?_⟩
 ·unfold cbK
  rw [List.map_map,List.map_map]
  rfl
 ·exact h l ms _ (q1.free hl) (q1.trans (jag hl _)) ja1 pm
theorem jo5 (B:Blt mg) (D:DefAt K mg "marked" (top 11) ["places"] f fd):FnOk P w K mg base CX0 1 f fd ["places"] jox:=by
 have sc:FnScope ["places"] ["places"] (jbe (top 11)):=by walk_at "SC"
 refine D.F.ok sc (fun vs H Q E h=>?_) (fun cdv A outer s H vs Q E hr h=>?_)
 ·obtain ⟨u,ns,rfl,_⟩:=h
  rfl
 obtain ⟨u,ns,rfl,eu,nd,hl,h⟩:=h
 have hu:=jcc hr
 have hu0:_ < PySem.cLine:=Nat.lt_of_succ_lt hu
 refine ⟨_,(jb8 (jbu (jd1 (jix rfl) rfl B.dict PyProof.Rows.boot_dict (ja0 (jc7 (CpScope.of (N:=["place"]) (src:=[none]) (by rfl)) rfl (jbt (qv 0)) (fun _ _ _ _=>(jb9 (i:=0) (jba (l:=["place"]) (by rfl)) rfl (Or.inl rfl))) (fun _ _ _ _=>jch) (fun _ _ _ _=>(jc9 (ja0 (qv 0) (ja0 jj4 jah))))) jah)))),?_⟩
 walk_at "ND"
 refine jbh (Itl K u) H (fun R hR=>?_) (fun l hl0=>jbn ns.length (fun i σ' Hc=>∃ w1 zs,σ' = [w1]/\Same H Hc/\Hc l = some (.lst zs)/\Paired (PairAt Hc) zs (mkI (ns.take i))) ⟨none,[],rfl,jag hl0 _,ja1,.nil⟩ ?_ ?_)
 ·unfold jck
  walk_at "ND"
  exact ⟨u,rfl,⟨_,SqL.of eu⟩,hR⟩
 ·rintro i σ' Hc hi ⟨w1,zs,rfl,s2,ez,pz⟩
  have x1:ns[i]? = some ns[i]:=gE hi
  have X1:(ns.map V.int)[i]? = some (.int ns[i]):=by rw [List.getElem?_map,x1]; rfl
  have hlz:zs.length = (mkI (ns.take i)).length:=Paired.length pz
  have hlz2:zs.length <= i:=by
   rw [hlz,mkI,List.length_map,List.length_take]
   omega
  refine ⟨⟨_,_,SqL.of (s2 _ _ eu),X1⟩,?_⟩
  rintro y H' ⟨rfl,hy⟩
  have E1:V.int ns[i] = y:=Option.some.inj (X1.symm.trans (hy _ (SqL.of (s2 _ _ eu))))
  subst E1
  walk_at "ND"
  intro t ht
  have ez2:=jag ht (.tup [.int ns[i],.bl true]) _ _ ez
  have t6:=jbv (ys:=zs ++ [.ref t]) ez2
  refine ⟨zs,ez2,szl' (by omega),_,zs ++ [.ref t],rfl,jbi (s2.trans (jag ht _)) hl0,(by first | rfl | exact ja1),?_⟩
  rw [jbr x1,mkI,List.map_append]
  refine jbk (Paired.mapP pz fun v p q=>?_) ?_
  ·obtain ⟨b,e,q⟩:=q
   exact ⟨b,e,t6 _ _ rfl (jag ht _ _ _ q)⟩
  ·exact ⟨t,rfl,t6 _ _ rfl ja1⟩
 ·rintro σ' Hc ⟨w1,zs,rfl,s2,ez,pz⟩
  refine ⟨⟨_,SqL.of (s2 _ _ eu),by rw [List.length_map]; exact Nat.le_refl _⟩,?_⟩
  rw [List.take_length] at pz
  have hlz:zs.length = (mkI ns).length:=Paired.length pz
  rw [mkI,List.length_map] at hlz
  simp_all_arith [ez]
  refine ⟨mkI ns,pz,by omega,?_,fun d hd=>h d _ (s2.free hd) (s2.trans (jag hd _)) ja1⟩
  unfold mkI
  rw [List.map_map]
  have e:((fun (x:Key × V)=>x.1) ∘ fun (n:Int)=>((Sum.inl n:Key),V.bl true)) = fun (n:Int)=>(Sum.inl n:Key):=rfl
  rw [e]
  unfold List.Nodup at nd ⊢
  rw [List.pairwise_map]
  exact nd.imp fun q z=>q (Sum.inl.inj z)
theorem jfi (B:Blt mg) (D:DefAt K mg "halves_reached" (top 28) ["web","reached"] f fd) (C2:Cst2 mg e1 e2 e3):FnOk P w K mg base CX0 1 f fd ["web","reached"] jst:=by
 have sc:FnScope ["web","reached","many","halves","at","pair","left","right"] ["web","reached"] (jbe (top 28)):=by walk_at "SC"
 refine D.F.ok sc (fun vs H Q E h=>?_) (fun cdv A outer s H vs Q E hr h=>?_)
 ·obtain ⟨v,ps,ts,d,kvs,rfl,_⟩:=h
  rfl
 obtain ⟨v,ps,ts,d,kvs,rfl,hw,wk,ed,h⟩:=h
 obtain ⟨u,pa,ta,xs,ys,rfl,hu1,hpa,hta,hxs,hys⟩:=hw
 have hxl:=Paired.length hxs
 have hu:=jcc hr
 have hu0:_ < PySem.cLine:=Nat.lt_of_succ_lt hu
 refine ⟨_,(jaf (jbg (i:=2) sc.nd rfl (Or.inl rfl) (jbp jfw rfl B.len PySem.boot_len (ja0 (jbj q_ix (qv 0) jai (fun _ _=>rfl)) jah))) (jaf (jbg (i:=3) sc.nd rfl (Or.inl rfl) (jcf jah)) (jaf (jcw PassesOwn.never rfl (jj3 rfl B.enumerate (ja0 (jbj q_ix (qv 0) jai (fun _ _=>rfl)) jah)) (jci (n:=2) rfl (jbb (jb9 (i:=4) sc.nd rfl (Or.inl rfl)) (jbb (jb9 (i:=5) sc.nd rfl (Or.inl rfl)) jbw))) (jaf (jbg (i:=6) sc.nd rfl (Or.inl rfl) (jn8 (jtv (jre hu (jbo jcb (jcx (v:=.int 2) rfl C2.FIRST ⟨_,rfl⟩) (qv 4)) (qv 1))) jai jai)) (jaf (jbg (i:=7) sc.nd rfl (Or.inl rfl) (jn8 (jtv (jre hu (jbo jcb (jbo jcb (jcx (v:=.int 2) rfl C2.FIRST ⟨_,rfl⟩) (qv 2)) (qv 4)) (qv 1))) jai jai)) (jb8 (jc6 (q_bm PySem.F.plainAttrs_list PySem.F.slot_list_append PySem.F.type_list_append jca (qv 3) (ja0 (jc9 (ja0 (jbj q_ix (qv 5) jai (fun _ _=>rfl)) (ja0 (jbo jcb (qv 6) (qv 7)) jah))) jah))))))) (jb8 (jbu (qv 3)))))),?_⟩
 have hpl:=wk.pl
 refine jbc fun R' hR=>?_
 simp_all_arith [jbm,hu1,at0,hpa]
 subst hR
 refine jbc fun R' hR=>?_
 walk_at "ND"
 intro l hl
 have q1:=jag hl (.lst [])
 have el:upd H l (.lst []) l = some (.lst []):=ja1
 generalize upd H l (.lst []) = H1 at q1 el
 subst hR
 refine jbc fun R' hR=>?_
 refine jc2 (Ite K pa) H1 (fun R3 hR3=>?_) (jjj (K:=K) (a:=pa) (xs:=xs) (fun i σ Hc=>∃ v4 v5 v6 v7 zs,σ = [some (.ref u),some (.ref d),some (.int (xs.length:Int)),some (.ref l),v4,v5,v6,v7]/\Same H Hc/\Hc l = some (.lst zs)/\Prs Hc zs (halR (hasK kvs) ps.length ps i)) ⟨none,none,none,none,[],rfl,q1,el,.nil⟩ (fun i σ Hc _ ⟨_,_,_,_,_,_,s1,_⟩=>SqL.of (s1 _ _ hpa)) ?_ ?_)
 ·unfold juw
  simp_all_arith [jbm,q1 _ _ hu1,at0]
  exact ⟨pa,rfl,⟨_,SqL.of (q1 _ _ hpa)⟩,hR3⟩
 ·rintro i x σ Hc t hx ⟨v4,v5,v6,v7,zs,rfl,s2,el2,pz⟩ ht
  obtain ⟨p,hp,px⟩:=jbd hxs hx
  have hil:=(List.getElem?_eq_some_iff.mp hp).1
  have q3:=jag ht (.tup [.int i,x])
  have s3:=s2.trans q3
  have et:upd Hc t (.tup [.int i,x]) t = some (.tup [.int i,x]):=ja1
  have el3:=q3 _ _ el2
  have pz3:=Prs.same q3 pz
  obtain ⟨b,rfl,eb⟩:=px.same s3
  generalize upd Hc t (.tup [.int i,.ref b]) = H3 at q3 s3 et el3 pz3 eb
  have ed3:=s3 _ _ ed
  have hzl:=Paired.length pz
  have hhl:(halR (hasK kvs) ps.length ps i).length = i:=by unfold halR; rw [List.length_map,List.length_range]
  have key:∀ n:Int,(valV kvs (Sum.inl n:Key)).isSome = hasK kvs n:=fun n=>rfl
  have fin:∀ (a c:Int),a = (if hasK kvs (2 + (i:Int)) = true then 0 else 1)->c = (if hasK kvs (2 + (xs.length:Int) + (i:Int)) = true then 1 else 0)->∀ t2,H3 t2 = none->∃ v4 v5 v6 v7 zs',[some (V.ref u),some (.ref d),some (.int (xs.length:Int)),some (.ref l),some (.int i),some (.ref b),some (.int a),some (.int c)] = [some (V.ref u),some (.ref d),some (.int (xs.length:Int)),some (.ref l),v4,v5,v6,v7]/\Same H (upd (upd H3 t2 (.tup [.int p.1,.int (a + c)])) l (.lst (zs ++ [.ref t2])))/\upd (upd H3 t2 (.tup [.int p.1,.int (a + c)])) l (.lst (zs ++ [.ref t2])) l = some (.lst zs')/\Prs (upd (upd H3 t2 (.tup [.int p.1,.int (a + c)])) l (.lst (zs ++ [.ref t2]))) zs' (halR (hasK kvs) ps.length ps (i + 1)):=fun a c ha hc t2 ht2=>by
   have q4:=jag ht2 (.tup [.int p.1,.int (a + c)])
   have t6:=jbv (ys:=zs ++ [.ref t2]) (q4 _ _ el3)
   refine ⟨_,_,_,_,zs ++ [.ref t2],rfl,jbi (s3.trans q4) hl,ja1,?_⟩
   have eh:halR (hasK kvs) ps.length ps (i + 1) = halR (hasK kvs) ps.length ps i ++ [(p.1,a + c)]:=by
    unfold halR
    rw [List.range_succ,List.map_append,List.map_singleton,jdv hp,ha,hc,hxl]
   rw [eh]
   exact jbk (Prs.tups t6 (Prs.same q4 pz3)) ⟨t2,rfl,t6 _ _ rfl ja1⟩
  simp_all_arith [et,ed3,key]
  cases c1:hasK kvs (2 + (i:Int)) <;> cases c3:hasK kvs (2 + (xs.length:Int) + (i:Int))
  all_goals
   simp_all_arith [jbm,eb,at0,c3,ed3,key]
   refine ⟨⟨l,zs,rfl,el3⟩,fun t2 ht2=>?_⟩
   have e9:=fun o=>jag ht2 o _ _ el3
   simp only [e9]
   exact ⟨szl' (by omega),fin _ _ (by rw [c1]; rfl) (by rw [c3]; rfl) t2 ht2⟩
 ·rintro σ Hc ⟨v4,v5,v6,v7,zs,rfl,s2,el2,pz⟩
  subst hR
  walk_at "ND"
  rw [hxl] at pz
  exact h l zs Hc hl s2 el2 pz
theorem jgw (B:Blt mg) (D:DefAt K mg "dues_flowing" (top 27) ["web","flows"] f fd):FnOk P w K mg base CX0 1 f fd ["web","flows"] jp2:=by
 have sc:FnScope ["web","flows","across","amounts"] ["web","flows"] (jbe (top 27)):=by walk_at "SC"
 refine D.F.ok sc (fun vs H Q E h=>?_) (fun cdv A outer s H vs Q E hr h=>?_)
 ·obtain ⟨v,ps,ts,fl,fs,rfl,_⟩:=h
  rfl
 obtain ⟨v,ps,ts,fl,fs,rfl,hw,wk,ef,hfl,h⟩:=h
 obtain ⟨u,pa,ta,xs,ys,rfl,hu1,hpa,hta,hxs,hys⟩:=hw
 have hxl:=Paired.length hxs
 have hyl:=Paired.length hys
 have hu:=jcc hr
 have hu0:_ < PySem.cLine:=Nat.lt_of_succ_lt hu
 refine ⟨_,(jaf (jbg (i:=2) sc.nd rfl (Or.inl rfl) (jrn q_slL (qv 1) (jtw (jbo jff jai (jbp jfw rfl B.len PySem.boot_len (ja0 (jbj q_ix (qv 0) jai (fun _ _=>rfl)) jah)))) ju2)) (jaf (jdj (i:=3) sc.nd rfl (Or.inl rfl) (CpScope.of (N:=["there","back"]) (src:=[none,none]) (by rfl)) rfl (jpk rfl B.zip (ja0 (jpo (b:=true) rfl (qv 2)) (ja0 (jpo (b:=false) rfl (qv 2)) jah))) (fun _ _ _ _=>(jci (n:=2) rfl (jbb (jb9 (i:=0) (jba (l:=["there","back"]) (by rfl)) rfl (Or.inl rfl)) (jbb (jb9 (i:=1) (jba (l:=["there","back"]) (by rfl)) rfl (Or.inl rfl)) jbw)))) (fun _ _ _ _=>jch) (fun _ _ _ _=>(jbo jcb (qv 0) (qv 1)))) (jb8 (jbu (jc7 (CpScope.of (N:=["tie","amount"]) (src:=[none,none]) (by rfl)) rfl (jpk rfl B.zip (ja0 (jbj q_ix (qv 0) jai (fun _ _=>rfl)) (ja0 (qv 3) jah))) (fun _ _ _ _=>(jci (n:=2) rfl (jbb (jb9 (i:=0) (jba (l:=["tie","amount"]) (by rfl)) rfl (Or.inl rfl)) (jbb (jb9 (i:=1) (jba (l:=["tie","amount"]) (by rfl)) rfl (Or.inl rfl)) jbw)))) (fun _ _ _ _=>(jcs (jc0 q_gt (qv 1) jai (jby _)))) (fun _ _ _ _=>(jc9 (ja0 (jbj q_ix (qv 0) jai (fun _ _=>rfl)) (ja0 (jbj q_ix (qv 0) jai (fun _ _=>rfl)) (ja0 (qv 1) jah)))))))))),?_⟩
 have hpl:=wk.pl
 have htl:=wk.tl
 refine jbc fun R' hR=>?_
 simp_all_arith [jbm,hu1,at0,hpa,ef]
 refine ⟨cmL (by decide) (by decide),?_⟩
 intro ac hac
 rw [show (2:Int) * (xs.length:Int) = ((2 * ps.length:Nat):Int) by omega,jsg (by rw [List.length_map]; omega),<- List.map_drop]
 have q1:=jag hac (.lst ((fs.drop (2 * ps.length)).map V.int))
 have ea:upd H ac (.lst ((fs.drop (2 * ps.length)).map V.int)) ac = some (.lst ((fs.drop (2 * ps.length)).map V.int)):=ja1
 generalize upd H ac (.lst ((fs.drop (2 * ps.length)).map V.int)) = H1 at q1 ea
 have hgl:(fs.drop (2 * ps.length)).length = 2 * ts.length:=by rw [List.length_drop]; omega
 have hgat:∀ k,Fl.at' (fs.drop (2 * ps.length)) k = Fl.at' fs (2 * ps.length + k):=fun k=>by unfold Fl.at'; rw [List.getD_eq_getElem?_getD,List.getD_eq_getElem?_getD,List.getElem?_drop]
 generalize fs.drop (2 * ps.length) = gs at *
 have la:∀ b,(alt b gs).length = ts.length:=fun b=>by
  have hb1:(if b = true then 0 else 1:Nat) <= 1:=by split <;> decide
  have h1:=jic b gs
  have hlt:∀ j,j < ts.length->j < (alt b gs).length:=fun j hj=>by
   have:=h1 j
   rw [gE (show 2 * j + (if b = true then 0 else 1) < gs.length by omega)] at this
   exact (List.getElem?_eq_some_iff.mp this).1
  have hge:¬ ts.length < (alt b gs).length:=fun z=>by
   have:=h1 ts.length
   rw [gE z,List.getElem?_eq_none (show gs.length <= 2 * ts.length + (if b = true then 0 else 1) by omega)] at this
   cases this
  by_cases c:ts.length = 0
  ·omega
  ·have:=hlt (ts.length - 1) (by omega)
   omega
 subst hR
 refine jbc fun R' hR=>?_
 walk_at "ND"
 refine jek (ι:=Addr × Addr × Hp) (fun y=>Itz true K y.1 y.2.1) (fun y=>y.2.2) (fun y=>Same H1 y.2.2/\y.2.2 y.1 = some (.lst ((alt true gs).map V.int))/\y.2.2 y.2.1 = some (.lst ((alt false gs).map V.int))) (fun R2 hR2=>?_) ?_
 ·unfold juu
  simp_all_arith [ea]
  intro b1 hb1
  rw [jhl]
  have s1:=jag hb1 (.lst ((alt true gs).map V.int))
  have eb1:upd H1 b1 (.lst ((alt true gs).map V.int)) b1 = some (.lst ((alt true gs).map V.int)):=ja1
  generalize upd H1 b1 (.lst ((alt true gs).map V.int)) = H2 at s1 eb1
  simp_all_arith [s1 _ _ ea]
  intro b2 hb2
  rw [jhl]
  have s2:=s1.trans (jag hb2 (.lst ((alt false gs).map V.int)))
  have eb2:upd H2 b2 (.lst ((alt false gs).map V.int)) b2 = some (.lst ((alt false gs).map V.int)):=ja1
  have eb1':=jag hb2 (.lst ((alt false gs).map V.int)) _ _ eb1
  generalize upd H2 b2 (.lst ((alt false gs).map V.int)) = H3 at s2 eb2 eb1'
  exact ⟨true,b1,b2,rfl,⟨_,SqL.of eb1'⟩,⟨_,SqL.of eb2⟩,hR2 (b1,b2,H3) ⟨s2,eb1',eb2⟩⟩
 rintro ⟨b1,b2,H3⟩ ⟨s3,eb1,eb2⟩ am ham
 refine jbn ts.length (fun i σ' Hc=>∃ w1 w2,σ' = [w1,w2]/\Same H3 Hc/\Hc am = some (.lst (((List.range i).map fun j=>Fl.at' gs (2 * j) + Fl.at' gs (2 * j + 1)).map V.int))) ⟨none,none,rfl,jag ham _,ja1⟩ ?_ ?_
 ·rintro i σ' Hc hi ⟨w1,w2,rfl,s4,em⟩
  have z1:SqB true K Hc b1 ((alt true gs).map V.int):=SqL.of (s4 _ _ eb1)
  have z2:SqB true K Hc b2 ((alt false gs).map V.int):=SqL.of (s4 _ _ eb2)
  have at1':∀ b,(alt b gs)[i]? = some (Fl.at' gs (2 * i + (if b then 0 else 1))):=fun b=>by
   rw [jic,gE (by cases b <;> simp <;> omega)]
   unfold Fl.at'
   rw [List.getD_eq_getElem?_getD,gE (by cases b <;> simp <;> omega)]
   rfl
  have x1:((alt true gs).map V.int)[i]? = some (.int (Fl.at' gs (2 * i))):=by rw [List.getElem?_map,at1' true]; rfl
  have x2:((alt false gs).map V.int)[i]? = some (.int (Fl.at' gs (2 * i + 1))):=by rw [List.getElem?_map,at1' false]; rfl
  refine ⟨⟨_,_,_,_,z1,z2,x1,x2⟩,?_⟩
  rintro x H' ⟨t,y1,y2,ht,rfl,rfl,g1,g2⟩
  have E1:=Option.some.inj (x1.symm.trans (g1 _ z1))
  have E2:=Option.some.inj (x2.symm.trans (g2 _ z2))
  subst E1 E2
  have q5:=jag ht (.tup [.int (Fl.at' gs (2 * i)),.int (Fl.at' gs (2 * i + 1))])
  simp_all_arith [ja1]
  refine ⟨_,q5 _ _ em,?_,_,_,rfl,jbi (s4.trans q5) ham,?_⟩
  ·rw [List.length_map,List.length_map,List.length_range]
   exact szl' (by omega)
  ·try rw [ja1]
   rw [List.range_succ,List.map_append,List.map_append]
   rfl
 rintro σ' H4 ⟨w1,w2,rfl,s4,em⟩
 refine ⟨⟨_,_,SqL.of (s4 _ _ eb1),SqL.of (s4 _ _ eb2),.inl (by rw [List.length_map,la]; exact Nat.le_refl _)⟩,?_⟩
 have s5:=(q1.trans s3).trans s4
 walk_at "ND"
 subst hR
 walk_at "ND"
 refine jbh (Itz true K ta am) H4 (fun R2 hR2=>?_) (fun l hl0=>jbn ts.length (fun i σ' Hc=>∃ w1 w2 zs,σ' = [w1,w2]/\Same H4 Hc/\Hc l = some (.lst zs)/\Tps Hc zs (duR fs ps.length ts i)) ⟨none,none,[],rfl,jag hl0 _,ja1,.nil⟩ ?_ ?_)
 ·unfold juu
  simp_all_arith [jbm,s5 _ _ hu1,at1]
  exact ⟨true,ta,am,rfl,⟨_,SqL.of (s5 _ _ hta)⟩,⟨_,SqL.of em⟩,hR2⟩
 ·rintro i σ' Hc hi ⟨w1,w2,zs,rfl,s6,el,pz⟩
  have s7:=s5.trans s6
  have z1:SqB true K Hc ta ys:=SqL.of (s7 _ _ hta)
  have z2:SqB true K Hc am (((List.range ts.length).map fun j=>Fl.at' gs (2 * j) + Fl.at' gs (2 * j + 1)).map V.int):=SqL.of (s6 _ _ em)
  have x1:ys[i]? = some (ys[i]'(by omega)):=gE _
  have x2:(((List.range ts.length).map fun j=>Fl.at' gs (2 * j) + Fl.at' gs (2 * j + 1)).map V.int)[i]? = some (.int (Fl.at' gs (2 * i) + Fl.at' gs (2 * i + 1))):=by
   rw [List.getElem?_map,List.getElem?_map,List.getElem?_range hi]; rfl
  refine ⟨⟨_,_,_,_,z1,z2,x1,x2⟩,?_⟩
  rintro x H' ⟨t,y1,y2,ht,rfl,rfl,g1,g2⟩
  have E2:=Option.some.inj (x2.symm.trans (g2 _ z2))
  subst E2
  obtain ⟨tt,htt,pt⟩:=jbd hys (g1 _ z1)
  have q8:=jag ht (.tup [y1,.int (Fl.at' gs (2 * i) + Fl.at' gs (2 * i + 1))])
  have s8:=s7.trans q8
  obtain ⟨tb,rfl,etb⟩:=pt.same s8
  have et:upd Hc t (.tup [.ref tb,.int (Fl.at' gs (2 * i) + Fl.at' gs (2 * i + 1))]) t = some (.tup [.ref tb,.int (Fl.at' gs (2 * i) + Fl.at' gs (2 * i + 1))]):=ja1
  have el8:=q8 _ _ el
  have pz8:=jbz q8.tups pz
  have s68:=s6.trans q8
  generalize upd Hc t (.tup [.ref tb,.int (Fl.at' gs (2 * i) + Fl.at' gs (2 * i + 1))]) = H8 at q8 s8 etb et el8 pz8 s68
  have hdu:duR fs ps.length ts (i + 1) = duR fs ps.length ts i ++ (if Fl.at' gs (2 * i) + Fl.at' gs (2 * i + 1) > 0 then [(tt.1,tt.2,Fl.at' gs (2 * i) + Fl.at' gs (2 * i + 1))] else []):=by
   unfold duR
   rw [List.range_succ,List.map_append,List.filter_append,List.map_singleton,jdv htt,hgat,hgat,Nat.add_assoc]
   congr 1
   rw [List.filter_cons]
   by_cases c:Fl.at' fs (2 * ps.length + 2 * i) + Fl.at' fs (2 * ps.length + (2 * i + 1)) > 0
   ·rw [if_pos c,if_pos (decide_eq_true c)]; rfl
   ·rw [if_neg c,if_neg (by simpa using c)]; rfl
  have hzl:=Paired.length pz
  have hzl2:zs.length <= i:=by
   rw [hzl]
   unfold duR
   refine Nat.le_trans (List.length_filter_le _ _) ?_
   rw [List.length_map,List.length_range]
   exact Nat.le_refl _
  simp_all_arith [et]
  refine ite2 (fun c=>?_) (fun c=>?_)
  ·rw [if_pos (of_decide_eq_true c)] at hdu
   simp_all_arith [jbm,etb,at0,at1]
   intro t2 ht2
   have q9:=jag ht2 (.tup [.int tt.1,.int tt.2,.int (Fl.at' gs (2 * i) + Fl.at' gs (2 * i + 1))])
   have el9:=q9 _ _ el8
   have t9:=jbv (ys:=zs ++ [.ref t2]) el9
   refine ⟨zs,el9,szl' (by omega),_,_,zs ++ [.ref t2],rfl,jbi (s68.trans q9) hl0,(by first | rfl | exact ja1),?_⟩
   rw [hdu]
   exact jbk (jbz t9 (jbz q9.tups pz8)) ⟨t2,rfl,t9 _ _ rfl ja1⟩
  ·rw [if_neg (fun z=>c (decide_eq_true z)),List.append_nil] at hdu
   rw [hdu]
   exact ⟨_,_,zs,rfl,s68,el8,pz8⟩
 ·rintro σ' Hc ⟨w1,w2,zs,rfl,s6,el,pz⟩
  refine ⟨⟨_,_,SqL.of ((s5.trans s6) _ _ hta),SqL.of (s6 _ _ em),.inl (by omega)⟩,?_⟩
  exact h l zs Hc (s5.free hl0) (s5.trans s6) el pz
end
end My
namespace L2
open PySem PySem.Spec PyProof.Rows
section
variable {X:Cx}
theorem jp5:seqSlot? (.type "list") (dunderI "add") = pure (some (.builtin "list.__iadd__"))  :=PySem.seqSlot_of F.slot_list_iadd.lookup (by decide +kernel)
theorem jod:fillsInplaceSlot (.type "list") "add" (Operator.Add == .Add) = pure false:=by
 unfold fillsInplaceSlot
 show (typeLookup (.type "list") (dunderI "add") >>= fun fi=>pure (fi.isSome && !isSeqSlot fi)) = pure false
 rw [F.slot_list_iadd.lookup]
 have:isSeqSlot (some (Value.builtin "list.__iadd__")) = true:=by decide +kernel
 show (pure (true && !isSeqSlot (some (Value.builtin "list.__iadd__"))):Sem Bool) = pure false
 rw [this]
 rfl
def jcl:TIp:=fun x y H Q=>match x,y with
 | .ref l,.ref b=>match H l,H b with
  | some (.lst xs),some (.lst zs)=>xs.length + zs.length <= sizeLine/\Q (.ref l) (upd H l (.lst (xs ++ zs)))
  | _,_=>False
 | _,_=>False
theorem jur:PIp X .Add jcl:=by
 intro pins s σ H x y v u Q I rx ry h
 unfold jcl at h
 split at h
 ·rename_i l b
  split at h
  ·rename_i xs zs hH hB
   obtain ⟨hz,q⟩:=h
   cases rx
   cases ry
   obtain ⟨z,its,n,r,hl,e⟩:=I.lstM hH
   obtain ⟨z2,its2,n2,r2,hl2,e2⟩:=I.lstM hB
   have hsz:its.toArray.size + its2.toArray.size <= sizeLine:=by rw [List.size_toArray,List.size_toArray]; omega
   have hlong:¬ (!its.toArray.isEmpty && Builtin.List.listTooLong (its.toArray.size + its2.toArray.size)) = true:=by
    rw [jrw hsz,Bool.and_false]
    exact Bool.false_ne_true
   have ha:s.TypeIs (.ref l) "list":=⟨_,e,rfl⟩
   have hb:s.TypeIs (.ref b) "list":=⟨_,e2,rfl⟩
   unfold inplaceOp
   refine wpAny_holding ?_
   refine wpAny_bind (wpAny_typeOf ha (wpAny_bind (wpAny_of_eq jod ?_)))
   show wpAny _ _ (if false = true then _ else _) _ _ s
   rw [if_neg Bool.false_ne_true]
   refine wpAny_bind (wpAny_binaryOp1_none (nm:="add") ha hb noFill_list_add ?_)
   refine wpAny_bind (wpAny_of_eq jp5 ?_)
   refine wpAny_bind (wpAny_rule ?_)
   refine call_meets F.slot_list_iadd ha F.entry_list_iadd (F.args_list_iadd_2 _ _)
    (AutoSeq1.list___iadd___list_list_0 l its.toArray n b its2.toArray n2 hlong (by rw [List.size_toArray]; omega) (by omega)) ⟨e,e2,?_⟩
   refine ⟨.ref l,_,I.lset (its':=its ++ its2) hH e (by simp) (r.append r2) ?_,rfl,q⟩
   rw [List.length_append]
   omega
  ·exact h.elim
 ·exact h.elim
end
end L2
namespace My
open PySem L2
section
variable {P:Program} {w:World} {K:PySem.W.Frag} {mg:Str->Option Value} {base:Heap} {c1 c2 c3 c4 e1 e2 e3:Tok} {C_Net C_NoWeb fqf:Addr} {dI:FuncData}
def spL (ps:List (Int × Int)) (k:Nat):List (Int × Int):=(List.range k).map fun i=>((ps.getD i (0,0)).1,2 + (i:Int))
theorem jlm (ps:List (Int × Int)):∀ k,k <= ps.length->(spL ps k).map (·.1) = (ps.take k).map (·.1)
 | 0,_=>by simp [spL]
 | k + 1,h=>by
  have hk:ps[k]? = some ps[k]:=gE (by omega)
  have ih:=jlm ps k (by omega)
  unfold spL at ih ⊢
  rw [List.range_succ,List.map_append,List.map_append,ih,jbr hk,List.map_append,List.map_singleton,List.map_singleton,List.map_singleton,jdv hk]
def spF (ps:List (Int × Int)) (n:Int):Int:=hOf (spL ps ps.length) n
def plW (ps:List (Int × Int)):Int:=1 + (ps.map (·.2)).sum
def jcm (ps ts:List (Int × Int)):List Fl.Arc:=Fl.arcsD (spF ps) (plW ps) ps ts
theorem jp0 {ps ts:List (Int × Int)} (wk:WebOk ps ts):((spL ps ps.length).map (·.1)).Nodup:=by
 rw [jlm ps ps.length (Nat.le_refl _),List.take_length]
 exact wk.p.nodup
theorem jgm {ps ts:List (Int × Int)} (wk:WebOk ps ts) {n:Int} (h:n ∈ ps.map (·.1)):valV (jco (spL ps ps.length)) (Sum.inl n:Key) = some (.int (spF ps n)):=by
 refine jql (jp0 wk) ?_
 rw [jlm ps ps.length (Nat.le_refl _),List.take_length]
 exact h
theorem jmx {ps ts:List (Int × Int)} (wk:WebOk ps ts) {i:Nat} {p:Int} (h:(ps.map (·.1))[i]? = some p):spF ps p = 2 + (i:Int):=by
 have hi:=(List.getElem?_eq_some_iff.mp h).1
 rw [List.length_map] at hi
 have hm:(p,2 + (i:Int)) ∈ spL ps ps.length:=by
  unfold spL
  refine List.mem_map.mpr ⟨i,List.mem_range.mpr hi,?_⟩
  rw [List.getElem?_map,gE hi] at h
  have h2:ps[i].1 = p:=Option.some.inj h
  rw [jdv (gE hi),h2]
 have e:=jei (jp0 wk) hm
 rw [jgm wk (List.mem_of_getElem? h)] at e
 exact V.int.inj (Option.some.inj e)
theorem spF_bd {ps ts:List (Int × Int)} (wk:WebOk ps ts) {p:Int} (h:p ∈ ps.map (·.1)):2 <= spF ps p/\spF ps p < 2 + (ps.length:Int):=by
 obtain ⟨i,hi,e⟩:=List.mem_iff_getElem.mp h
 rw [jmx wk (i:=i) (by rw [gE hi,e])]
 rw [List.length_map] at hi
 omega
theorem jd6 {ps ts:List (Int × Int)} (wk:WebOk ps ts):∀ t ∈ ts,t.1 ∈ ps.map (·.1)/\t.2 ∈ ps.map (·.1):=fun t ht=>by
 obtain ⟨_,a,b⟩:=wk.t.in t ht
 exact ⟨jmd a,jmd b⟩
theorem PlOk.pos:∀ {ps:List (Int × Int)} {l s:Int},PlOk l s ps->∀ p ∈ ps,1 <= p.2
 | [],_,_,_,p,h=>by cases h
 | q :: r,l,s,h,p,hp=>by
  rcases List.mem_cons.mp hp with e | hp
  ·rw [e]; exact h.1.2.2.1
  ·exact PlOk.pos h.2 p hp
theorem jjs {ps ts:List (Int × Int)} (wk:WebOk ps ts):∀ a ∈ jcm ps ts,((0 <= a.1/\a.1 < ((2 + (ps.length + ps.length):Nat):Int))/\0 <= a.2.1/\a.2.1 < ((2 + (ps.length + ps.length):Nat):Int))/\0 <= a.2.2 :=
 Fl.arcsD_ok (fun p hp=>spF_bd wk hp) (jd6 wk) (fun p hp=>by have:=wk.p.pos p hp; omega) (by
  have h:0 <= (ps.map (·.2)).sum:=by
   have:=Fl.sum_le (f:=fun _=>(0:Int)) (g:=fun p:Int × Int=>p.2) (l:=ps) fun p hp=>by have:=wk.p.pos p hp; omega
   rw [Fl.sum_zero] at this
   exact this
  unfold plW
  omega)
theorem jf8 (ps ts:List (Int × Int)):(jcm ps ts).length = ps.length + ps.length + 2 * ts.length:=Fl.arcsD_len _ _ _ _
def jke (C:Addr):Sp:=fun vs H Q _=>∃ v ps ts,vs = [v]/\jd3 H v ps ts/\WebOk ps ts/\∀ p R H',H R = none->Same H H'->Nt C H' p R (Fl.wfA (jcm ps ts)) (Fl.hsA (jcm ps ts)) (jcm ps ts).length (2 + (ps.length + ps.length)) (Fl.rmA (jcm ps ts))->Q (.ref p) H'
theorem jfp (sp:Int->Int) (n pl:Int) (t:Int × Int):∀ ts,Fl.tieArcs sp n pl (ts ++ [t]) = (Fl.tieArcs sp n pl ts ++ [(sp t.1,sp t.2 + n,pl)]) ++ [(sp t.2,sp t.1 + n,pl)]
 | []=>rfl
 | u :: r=>by rw [List.cons_append,Fl.tieArcs,jfp sp n pl t r]; rfl
theorem jgr {α β:Type} {F:α->β->Prop}:∀ {xs xs':List α} {ys ys':List β},Paired F xs ys->Paired F xs' ys'->Paired F (xs ++ xs') (ys ++ ys')
 | _,_,_,_,.nil,h=>h
 | _,_,_,_,.cons a t,h=>.cons a (jgr t h)
theorem jo4 (B:Blt mg) (D:DefAt K mg "doubled" (top 26) ["web"] f fd) (Dq8:MthAt K C_Net "__init__" "Net.__init__" (meth 5 0) ["self","many","arcs"] fq8 dq8) (Gq8:FnOk P w K mg base CX0 2 fq8 dq8 ["self","many","arcs"] (jss C_Net)) (T:NetC K mg C_Net) (C2:Cst2 mg e1 e2 e3) (MK:Mk K C_Net fq8):FnOk P w K mg base CX0 5 f fd ["web"] (jke C_Net):=by
 have sc:FnScope ["web","many","plenty","spots","arcs","one","other"] ["web"] (jbe (top 26)):=by walk_at "SC"
 refine D.F.ok sc (fun vs H Q E h=>?_) (fun cdv A outer s H vs Q E hr h=>?_)
 ·obtain ⟨v,ps,ts,rfl,_⟩:=h
  rfl
 obtain ⟨v,ps,ts,rfl,hw,wk,h⟩:=h
 obtain ⟨u,pa,ta,xs,ys,rfl,hu1,hpa,hta,hxs,hys⟩:=hw
 have hxl:=Paired.length hxs
 have hyl:=Paired.length hys
 have hu:=jcc hr
 have hu0:_ < PySem.cLine:=Nat.lt_of_succ_lt hu
 refine ⟨_,(jaf (jbg (i:=1) sc.nd rfl (Or.inr rfl) (jbp jfw rfl B.len PySem.boot_len (ja0 (jbj q_ix (qv 0) jai (fun _ _=>rfl)) jah))) (jaf (jbg (i:=2) sc.nd rfl (Or.inl rfl) (jbo jcb jai (jbp (jtx rfl) rfl B.sum PyProof.Rows.boot_sum (ja0 (jc7 (CpScope.of (N:=["place","price"]) (src:=[none,none]) (by rfl)) rfl (jbt (jbj q_ix (qv 0) jai (fun _ _=>rfl))) (fun _ _ _ _=>(jci (n:=2) rfl (jbb (jb9 (i:=0) (jba (l:=["place","price"]) (by rfl)) rfl (Or.inl rfl)) (jbb (jb9 (i:=1) (jba (l:=["place","price"]) (by rfl)) rfl (Or.inl rfl)) jbw)))) (fun _ _ _ _=>jch) (fun _ _ _ _=>(qv 1))) jah)))) (jaf (jbg (i:=3) sc.nd rfl (Or.inr rfl) (jd1 (jix rfl) rfl B.dict PyProof.Rows.boot_dict (ja0 (jc7 (CpScope.of (N:=["at","pair"]) (src:=[none,none]) (by rfl)) rfl (jj3 rfl B.enumerate (ja0 (jbj q_ix (qv 0) jai (fun _ _=>rfl)) jah)) (fun _ _ _ _=>(jci (n:=2) rfl (jbb (jb9 (i:=0) (jba (l:=["at","pair"]) (by rfl)) rfl (Or.inl rfl)) (jbb (jb9 (i:=1) (jba (l:=["at","pair"]) (by rfl)) rfl (Or.inl rfl)) jbw)))) (fun _ _ _ _=>jch) (fun _ _ _ _=>(jc9 (ja0 (jbj q_ix (qv 1) jai (fun _ _=>rfl)) (ja0 (jbo jcb (jcx (v:=.int 2) rfl C2.FIRST ⟨_,rfl⟩) (qv 0)) jah))))) jah))) (jaf (jdj (i:=4) sc.nd rfl (Or.inl rfl) (CpScope.of (N:=["place","price","spots"]) (src:=[none,none,some 3]) (by rfl)) rfl (jbt (jbj q_ix (qv 0) jai (fun _ _=>rfl))) (fun _ _ _ _=>(jci (n:=2) rfl (jbb (jb9 (i:=0) (jba (l:=["place","price","spots"]) (by rfl)) rfl (Or.inl rfl)) (jbb (jb9 (i:=1) (jba (l:=["place","price","spots"]) (by rfl)) rfl (Or.inl rfl)) jbw)))) (fun _ _ _ _=>jch) (fun _ _ _ _=>(jc9 (ja0 (jcx (v:=.int 0) rfl C2.SOURCE ⟨_,rfl⟩) (ja0 (jet hu (qv 2) (qv 0) (fun _ _=>rfl)) (ja0 (qv 1) jah)))))) (jaf (jn1 (i:=4) sc.nd rfl (Or.inl rfl) (jc7 (CpScope.of (N:=["place","price","many","spots"]) (src:=[none,none,some 1,some 3]) (by rfl)) rfl (jbt (jbj q_ix (qv 0) jai (fun _ _=>rfl))) (fun _ _ _ _=>(jci (n:=2) rfl (jbb (jb9 (i:=0) (jba (l:=["place","price","many","spots"]) (by rfl)) rfl (Or.inl rfl)) (jbb (jb9 (i:=1) (jba (l:=["place","price","many","spots"]) (by rfl)) rfl (Or.inl rfl)) jbw)))) (fun _ _ _ _=>jch) (fun _ _ _ _=>(jc9 (ja0 (jbo jcb (jet hu (qv 3) (qv 0) (fun _ _=>rfl)) (qv 2)) (ja0 (jcx (v:=.int 1) rfl C2.SINK ⟨_,rfl⟩) (ja0 (qv 1) jah)))))) jur) (jaf (jcw PassesOwn.never rfl (jbt (jbj q_ix (qv 0) jai (fun _ _=>rfl))) (jci (n:=2) rfl (jbb (jb9 (i:=5) sc.nd rfl (Or.inl rfl)) (jbb (jb9 (i:=6) sc.nd rfl (Or.inl rfl)) jbw))) (jaf (jc6 (q_bm PySem.F.plainAttrs_list PySem.F.slot_list_append PySem.F.type_list_append jca (qv 4) (ja0 (jc9 (ja0 (jet hu (qv 3) (qv 5) (fun _ _=>rfl)) (ja0 (jbo jcb (jet hu (qv 3) (qv 6) (fun _ _=>rfl)) (qv 1)) (ja0 (qv 2) jah)))) jah))) (jb8 (jc6 (q_bm PySem.F.plainAttrs_list PySem.F.slot_list_append PySem.F.type_list_append jca (qv 4) (ja0 (jc9 (ja0 (jet hu (qv 3) (qv 6) (fun _ _=>rfl)) (ja0 (jbo jcb (jet hu (qv 3) (qv 5) (fun _ _=>rfl)) (qv 1)) (ja0 (qv 2) jah)))) jah)))))) (jb8 (jbu (ju6 MK Gq8 (hr.mono (by decide)) rfl T.m Dq8.b .nil jbq (ja0 (jbo jcb (jcx (v:=.int 2) rfl C2.FIRST ⟨_,rfl⟩) (jbo jff jai (qv 1))) (ja0 (qv 4) jah))))))))))),?_⟩
 have hpl:=wk.pl
 have htl:=wk.tl
 refine jbc fun R' hR=>?_
 simp_all_arith [jcl,jbm,hu1,at0,hpa]
 subst hR
 refine jbc fun R' hR=>?_
 simp_all_arith [jcl]
 refine jbh (Itl K pa) H (fun R2 hR2=>?_) (fun z hz0=>jbn ps.length (fun i σ' Hc=>∃ w1 w2,σ' = [w1,w2]/\Same H Hc/\Hc z = some (.lst (((ps.take i).map (·.2)).map V.int))) ⟨none,none,rfl,jag hz0 _,ja1⟩ ?_ ?_)
 ·unfold jck
  simp_all_arith [jcl,jbm,hu1,at0]
  exact ⟨pa,rfl,⟨_,SqL.of hpa⟩,hR2⟩
 ·rintro i σ' Hc hi ⟨w1,w2,rfl,s7,ez⟩
  have x1:xs[i]? = some (xs[i]'(by omega)):=gE _
  refine ⟨⟨_,_,SqL.of (s7 _ _ hpa),x1⟩,?_⟩
  rintro y H' ⟨rfl,hy⟩
  have E1:=Option.some.inj (x1.symm.trans (hy _ (SqL.of (s7 _ _ hpa))))
  obtain ⟨pr,hpr,px⟩:=jbd hxs x1
  rw [E1] at px
  obtain ⟨b,rfl,hb⟩:=px.same s7
  simp_all_arith [jcl,hb]
  refine ⟨_,ez,?_,_,_,rfl,jbi s7 hz0,?_⟩
  ·rw [List.length_map,List.length_map,List.length_take]
   exact szl' (by omega)
  ·rw [ja1,jbr hpr,List.map_append,List.map_append]
   rfl
 rintro σ' H1 ⟨w1,w2,rfl,s1,ez⟩
 refine ⟨⟨_,SqL.of (s1 _ _ hpa),by omega⟩,?_⟩
 rw [List.take_length] at ez
 refine ⟨z,_,rfl,ez,?_⟩
 simp_all_arith [jcl]
 rw [show (1:Int) + (ps.map (·.2)).sum = plW ps from rfl]
 clear ez
 subst hR
 refine jbc fun R' hR=>?_
 simp_all_arith [jcl]
 refine jbh (Ite K pa) H1 (fun R2 hR2=>?_) (fun z hz0=>jbn ps.length (fun i σ' Hc=>∃ w1 w2 zs,σ' = [w1,w2]/\Same H1 Hc/\Hc z = some (.lst zs)/\Prs Hc zs (spL ps i)) ⟨none,none,[],rfl,jag hz0 _,ja1,.nil⟩ ?_ ?_)
 ·unfold juw
  simp_all_arith [jcl,jbm,s1 _ _ hu1,at0]
  exact ⟨pa,rfl,⟨_,SqL.of (s1 _ _ hpa)⟩,hR2⟩
 ·rintro i σ' Hc hi ⟨w1,w2,zs,rfl,s2,ez,pz⟩
  have s3:=s1.trans s2
  have x1:xs[i]? = some (xs[i]'(by omega)):=gE _
  have z1:SqL K Hc pa xs:=SqL.of (s3 _ _ hpa)
  refine ⟨⟨_,_,z1,x1⟩,?_⟩
  rintro x H' ⟨t,y,ht,rfl,rfl,g⟩
  obtain ⟨p,hp,px⟩:=jbd hxs (g _ z1)
  have q4:=jag ht (.tup [.int i,y])
  have s4:=s3.trans q4
  obtain ⟨b,rfl,eb⟩:=px.same s4
  have et:upd Hc t (.tup [.int i,.ref b]) t = some (.tup [.int i,.ref b]):=ja1
  have ez4:=q4 _ _ ez
  have pz4:=Prs.same q4 pz
  have s24:=s2.trans q4
  generalize upd Hc t (.tup [.int i,.ref b]) = H4 at q4 s4 eb et ez4 pz4 s24
  have hzl:zs.length = i:=by rw [Paired.length pz]; unfold spL; rw [List.length_map,List.length_range]
  simp_all_arith [jcl,et,jbm,eb,at0]
  intro t2 ht2
  have q5:=jag ht2 (.tup [.int p.1,.int (2 + (i:Int))])
  have ez5:=q5 _ _ ez4
  have t6:=jbv (ys:=zs ++ [.ref t2]) ez5
  refine ⟨zs,ez5,szl' (by omega),_,_,zs ++ [.ref t2],rfl,jbi (s24.trans q5) hz0,(by first | rfl | exact ja1),?_⟩
  have e:spL ps (i + 1) = spL ps i ++ [(p.1,2 + (i:Int))]:=by
   unfold spL
   rw [List.range_succ,List.map_append,List.map_singleton,jdv hp]
  rw [e]
  exact jbk (Prs.tups t6 (Prs.same q5 pz4)) ⟨t2,rfl,t6 _ _ rfl ja1⟩
 rintro σ' H2 ⟨w1,w2,zs,rfl,s2,ez,pz⟩
 have s3:=s1.trans s2
 refine ⟨⟨_,SqL.of (s3 _ _ hpa),by omega⟩,?_⟩
 have hzl:zs.length = ps.length:=by rw [Paired.length pz]; unfold spL; rw [List.length_map,List.length_range]
 simp_all_arith [jcl,ez]
 refine ⟨jco (spL ps ps.length),jg6 pz,by omega,jfk (jp0 wk),fun d hd0=>?_⟩
 have s4:=s3.trans (jag hd0 (.dK (jco (spL ps ps.length))))
 have ed:upd H2 d (.dK (jco (spL ps ps.length))) d = some (.dK (jco (spL ps ps.length))):=ja1
 generalize upd H2 d (.dK (jco (spL ps ps.length))) = H3 at s4 ed
 clear ez pz hzl
 subst hR
 refine jbc fun R' hR=>?_
 simp_all_arith [jcl]
 refine jbh (Itl K pa) H3 (fun R2 hR2=>?_) (fun al hal=>jbn ps.length (fun i σ' Hc=>∃ w1 w2 zs,σ' = [w1,w2,some (.ref d)]/\Same H3 Hc/\Hc al = some (.lst zs)/\Tps Hc zs ((ps.take i).map fun p=>((0:Int),spF ps p.1,p.2))) ⟨none,none,[],rfl,jag hal _,ja1,.nil⟩ ?_ ?_)
 ·unfold jck
  simp_all_arith [jcl,jbm,s4 _ _ hu1,at0]
  exact ⟨pa,rfl,⟨_,SqL.of (s4 _ _ hpa)⟩,hR2⟩
 ·rintro i σ' Hc hi ⟨w1,w2,zs,rfl,s7,ez,pz⟩
  have s8:=s4.trans s7
  have x1:xs[i]? = some (xs[i]'(by omega)):=gE _
  refine ⟨⟨_,_,SqL.of (s8 _ _ hpa),x1⟩,?_⟩
  rintro y H' ⟨rfl,hy⟩
  have E1:=Option.some.inj (x1.symm.trans (hy _ (SqL.of (s8 _ _ hpa))))
  obtain ⟨pr,hpr,px⟩:=jbd hxs x1
  rw [E1] at px
  obtain ⟨b,rfl,hb⟩:=px.same s8
  have hv:=jgm wk (List.mem_map.mpr ⟨pr,List.mem_of_getElem? hpr,rfl⟩)
  have hzl:zs.length <= i:=by rw [Paired.length pz,List.length_map,List.length_take]; omega
  simp_all_arith [jcl,hb,s7 _ _ ed,hv]
  intro t2 ht2
  have q5:=jag ht2 (.tup [.int 0,.int (spF ps pr.1),.int pr.2])
  have ez5:=q5 _ _ ez
  have t6:=jbv (ys:=zs ++ [.ref t2]) ez5
  refine ⟨zs,ez5,szl' (by omega),_,_,zs ++ [.ref t2],rfl,jbi (s7.trans q5) hal,(by first | rfl | exact ja1),?_⟩
  rw [jbr hpr,List.map_append]
  exact jbk (jbz t6 (jbz q5.tups pz)) ⟨t2,rfl,t6 _ _ rfl ja1⟩
 rintro σ' H4 ⟨w1,w2,zs,rfl,s5,eal,pz⟩
 have s6:=s4.trans s5
 refine ⟨⟨_,SqL.of (s6 _ _ hpa),by omega⟩,?_⟩
 rw [List.take_length] at pz
 have falH:H al = none:=s4.free hal
 have hzl:zs.length = ps.length:=by rw [Paired.length pz,List.length_map]
 simp_all_arith [jcl]
 subst hR
 refine jbc fun R' hR=>?_
 have ed4:=s5 _ _ ed
 simp_all_arith [jcl]
 refine jbh (Itl K pa) H4 (fun R2 hR2=>?_) (fun bl hbl=>jbn ps.length (fun i σ' Hc=>∃ w1 w2 us,σ' = [w1,w2,some (.int (xs.length:Int)),some (.ref d)]/\Same H4 Hc/\Hc bl = some (.lst us)/\Tps Hc us ((ps.take i).map fun p=>(spF ps p.1 + (ps.length:Int),(1:Int),p.2))) ⟨none,none,[],rfl,jag hbl _,ja1,.nil⟩ ?_ ?_)
 ·unfold jck
  simp_all_arith [jcl,jbm,s6 _ _ hu1,at0]
  exact ⟨pa,rfl,⟨_,SqL.of (s6 _ _ hpa)⟩,hR2⟩
 ·rintro i σ' Hc hi ⟨w1,w2,us,rfl,s7,ez,pu⟩
  have s8:=s6.trans s7
  have x1:xs[i]? = some (xs[i]'(by omega)):=gE _
  refine ⟨⟨_,_,SqL.of (s8 _ _ hpa),x1⟩,?_⟩
  rintro y H' ⟨rfl,hy⟩
  have E1:=Option.some.inj (x1.symm.trans (hy _ (SqL.of (s8 _ _ hpa))))
  obtain ⟨pr,hpr,px⟩:=jbd hxs x1
  rw [E1] at px
  obtain ⟨b,rfl,hb⟩:=px.same s8
  have hv:=jgm wk (List.mem_map.mpr ⟨pr,List.mem_of_getElem? hpr,rfl⟩)
  have hul:us.length <= i:=by rw [Paired.length pu,List.length_map,List.length_take]; omega
  simp_all_arith [jcl,hb,s7 _ _ ed4,hv]
  intro t2 ht2
  have q5:=jag ht2 (.tup [.int (spF ps pr.1 + (xs.length:Int)),.int 1,.int pr.2])
  have ez5:=q5 _ _ ez
  have t6:=jbv (ys:=us ++ [.ref t2]) ez5
  refine ⟨us,ez5,szl' (by omega),_,_,us ++ [.ref t2],rfl,jbi (s7.trans q5) hbl,(by first | rfl | exact ja1),?_⟩
  rw [jbr hpr,List.map_append]
  exact jbk (jbz t6 (jbz q5.tups pu)) ⟨t2,rfl,by rw [<- hxl]; exact t6 _ _ rfl ja1⟩
 rintro σ' H5 ⟨w1,w2,us,rfl,s7,ebl,pu⟩
 have s8:=s6.trans s7
 refine ⟨⟨_,SqL.of (s8 _ _ hpa),by omega⟩,?_⟩
 rw [List.take_length] at pu
 have hul:us.length = ps.length:=by rw [Paired.length pu,List.length_map]
 have eal5:=s7 _ _ eal
 simp_all_arith [jcl,eal5,ebl]
 refine ⟨szl (by omega),?_⟩
 have s9:Same H (upd H5 al (.lst (zs ++ us))):=jbi s8 falH
 have t9:=jbv (ys:=zs ++ us) eal5
 have pz9:=jgr (jbz t9 (jbz s7.tups pz)) (jbz t9 pu)
 have eal9:upd H5 al (.lst (zs ++ us)) al = some (.lst (zs ++ us)):=ja1
 have dal:d ≠ al:=jaj ed hal
 have ed9:upd H5 al (.lst (zs ++ us)) d = some (.dK (jco (spL ps ps.length))):=by rw [jb7 dal]; exact s7 _ _ ed4
 generalize upd H5 al (.lst (zs ++ us)) = H6 at s9 pz9 eal9 ed9
 clear eal5 ebl pu pz eal t9
 subst hR
 refine jbc fun R' hR=>?_
 refine jc2 (Itl K ta) H6 (fun R3 hR3=>?_) (jdi (K:=K) (a:=ta) (xs:=ys) (fun k σ Hc=>∃ v5 v6 ws,σ = [some (.ref u),some (.int (xs.length:Int)),some (.int (plW ps)),some (.ref d),some (.ref al),v5,v6]/\Same H Hc/\Hc d = some (.dK (jco (spL ps ps.length)))/\Hc al = some (.lst ws)/\ws.length <= 80 + 2 * k/\Tps Hc ws (((ps.map fun p=>((0:Int),spF ps p.1,p.2)) ++ ps.map fun p=>(spF ps p.1 + (ps.length:Int),(1:Int),p.2)) ++ Fl.tieArcs (spF ps) ps.length (plW ps) (ts.take k))) ⟨none,none,zs ++ us,rfl,s9,ed9,eal9,by rw [List.length_append]; omega,by rw [List.take_zero]; show Tps H6 _ (_ ++ []); rw [List.append_nil]; exact pz9⟩ (fun i σ Hc _ ⟨_,_,_,_,s,_⟩=>SqL.of (s _ _ hta)) ?_ ?_)
 ·unfold jck
  simp_all_arith [jcl,jbm,s9 _ _ hu1,at1]
  exact ⟨ta,rfl,⟨_,SqL.of (s9 _ _ hta)⟩,hR3⟩
 ·rintro k x σ Hc hx ⟨v5,v6,ws,rfl,sA,edA,ealA,hwl,pw⟩
  obtain ⟨t,htk,pt⟩:=jbd hys hx
  obtain ⟨tb,rfl,etb⟩:=pt.same sA
  have hkl:=(List.getElem?_eq_some_iff.mp htk).1
  obtain ⟨m1,m2⟩:=jd6 wk t (List.mem_of_getElem? htk)
  have hv1:=jgm wk m1
  have hv2:=jgm wk m2
  simp_all_arith [jcl,etb,edA,hv1,hv2]
  refine ⟨⟨al,ws,rfl,ealA⟩,fun t1 ht1=>?_⟩
  have qB:=jag ht1 (.tup [.int (spF ps t.1),.int (spF ps t.2 + (xs.length:Int)),.int (plW ps)])
  have ealB:=qB _ _ ealA
  have edB:=qB _ _ edA
  simp only [ealB]
  refine ⟨szl' (by omega),?_⟩
  have tB:=jbv (ys:=ws ++ [.ref t1]) ealB
  have sC:Same H (upd (upd Hc t1 (.tup [.int (spF ps t.1),.int (spF ps t.2 + (xs.length:Int)),.int (plW ps)])) al (.lst (ws ++ [.ref t1]))):=jbi (sA.trans qB) falH
  have ealC:upd (upd Hc t1 (.tup [.int (spF ps t.1),.int (spF ps t.2 + (xs.length:Int)),.int (plW ps)])) al (.lst (ws ++ [.ref t1])) al = some (.lst (ws ++ [.ref t1])):=ja1
  have edC:upd (upd Hc t1 (.tup [.int (spF ps t.1),.int (spF ps t.2 + (xs.length:Int)),.int (plW ps)])) al (.lst (ws ++ [.ref t1])) d = some (.dK (jco (spL ps ps.length))):=by rw [jb7 dal]; exact edB
  have pC:=jbk (jbz tB (jbz qB.tups pw)) (show Tp _ (.ref t1) (spF ps t.1,spF ps t.2 + (ps.length:Int),plW ps) from ⟨t1,rfl,by rw [<- hxl]; exact tB _ _ rfl ja1⟩)
  generalize upd (upd Hc t1 (.tup [.int (spF ps t.1),.int (spF ps t.2 + (xs.length:Int)),.int (plW ps)])) al (.lst (ws ++ [.ref t1])) = HC at sC ealC edC pC
  simp_all_arith [jcl,edC,hv1,hv2]
  refine ⟨⟨al,_,rfl,ealC⟩,fun t2 ht2=>?_⟩
  have qD:=jag ht2 (.tup [.int (spF ps t.2),.int (spF ps t.1 + (xs.length:Int)),.int (plW ps)])
  have ealD:=qD _ _ ealC
  have edD:=qD _ _ edC
  simp only [ealD]
  have tD:=jbv (ys:=(ws ++ [.ref t1]) ++ [.ref t2]) ealD
  refine ⟨szl' (by rw [List.length_append]; show _ + 1 <= _; omega),_,_,(ws ++ [.ref t1]) ++ [.ref t2],rfl,jbi (sC.trans qD) falH,by rw [jb7 dal]; exact edD,ja1,by rw [List.length_append,List.length_append]; show _ + 1 + 1 <= _; omega,?_⟩
  rw [jbr htk,jfp,<- List.append_assoc,<- List.append_assoc]
  exact jbk (jbz tD (jbz qD.tups pC)) ⟨t2,rfl,by rw [<- hxl]; exact tD _ _ rfl ja1⟩
 ·rintro σ Hc ⟨v5,v6,ws,rfl,sA,edA,ealA,hwl,pw⟩
  rw [hyl,List.take_length] at pw
  have pw:Tps Hc ws (jcm ps ts):=pw
  subst hR
  simp_all_arith [jcl]
  refine ⟨cmL (by decide) (by decide),?_⟩
  intro p dx hp hdx hne
  have hpal:al ≠ p:=jaj ealA hp
  have hdal:al ≠ dx:=jaj ealA hdx
  have sB:Same Hc (upd (upd Hc dx (.own p)) p (.ins C_Net dx [])):=fun b o q=>by rw [jb7 (jaj q hp),jb7 (jaj q hdx)]; exact q
  refine ⟨p,dx,2 + (ps.length + ps.length),al,ws,jcm ps ts,by rw [show ((2 + (ps.length + ps.length):Nat):Int) = 2 + 2 * (xs.length:Int) by omega],ja1,sB _ _ ealA,jbz sB.tups pw,by omega,by rw [jf8]; omega,fun a ha=>(jjs wk a ha).1,fun R H' hR' b N=>?_⟩
  refine ⟨rfl,h p R H' (sA.free (sB.free hR')) (fun b' o q=>b b' o (jaj (sA _ _ q) hp) (sB _ _ (sA _ _ q))) N⟩
def knN (ps:List (Int × Int)):Nat:=2 + (ps.length + ps.length)
structure Rst (ps ts:List (Int × Int)) (r:List Int):Prop where
 run:Fl.Runs (Fl.wfA (jcm ps ts)) (Fl.hsA (jcm ps ts)) (knN ps) 0 1 (Fl.rmA (jcm ps ts)) r
 end_:Fl.stp (Fl.wfA (jcm ps ts)) (Fl.hsA (jcm ps ts)) (knN ps) 0 1 r = none
def inW (ps ts:List (Int × Int)) (r:List Int) (v:Int):Bool:=Fl.inS (Fl.wfA (jcm ps ts)) (Fl.hsA (jcm ps ts)) (knN ps) r v
def halT (ps ts:List (Int × Int)) (r:List Int):List (Int × Int):=halR (inW ps ts r) ps.length ps ps.length
def duT (ps ts:List (Int × Int)) (r:List Int):List (Int × Int × Int):=duR (alt false r) ps.length ts ts.length
def jka:Sp:=fun vs H Q _=>∃ v ps ts,vs = [v]/\jd3 H v ps ts/\WebOk ps ts/\ps.length <= 30/\∀ t l1 l2 zs us r H',Same H H'->H' t = some (.tup [.ref l1,.ref l2])->H' l1 = some (.lst zs)->H' l2 = some (.lst us)->H t = none->H l1 = none->H l2 = none->l1 ≠ l2->Rst ps ts r->Prs H' zs (halT ps ts r)->Tps H' us (duT ps ts r)->Q (.ref t) H'
theorem js8 {ps ts:List (Int × Int)} {r:List Int} {ms:List Int} (h:ms.Perm ((Fl.cbOf (Fl.wfA (jcm ps ts)) (Fl.hsA (jcm ps ts)) (knN ps) 0 r).map (·.1))):hasK (mkI ms) = inW ps ts r:=by
 funext n
 rw [jq1]
 unfold inW Fl.inS
 exact decide_eq_decide.mpr h.mem_iff
theorem jsx {ps ts:List (Int × Int)} (wk:WebOk ps ts):Fl.Rooms (jcm ps ts).length (Fl.capA (jcm ps ts)) (Fl.rmA (jcm ps ts)):=Fl.rooms0 fun a ha=>(jjs wk a ha).2
theorem netW {ps ts:List (Int × Int)} (wk:WebOk ps ts):Fl.Net (Fl.wfA (jcm ps ts)) (Fl.hsA (jcm ps ts)) (jcm ps ts).length (knN ps):=Fl.net_of fun a ha=>(jjs wk a ha).1
theorem Rst.rooms {ps ts:List (Int × Int)} {r:List Int} (wk:WebOk ps ts) (h:Rst ps ts r):Fl.Rooms (jcm ps ts).length (Fl.capA (jcm ps ts)) r/\∀ v,v ≠ 0->v ≠ 1->Fl.ex (Fl.hsA (jcm ps ts)) (jcm ps ts).length r v = 0:=by
 obtain ⟨a,b⟩:=Fl.runs_keep (netW wk) (by decide) ⟨Int.le_refl _,by unfold knN; omega⟩ h.run (jsx wk)
 exact ⟨a,fun v h1 h2=>(b v h1 h2).trans (Fl.ex0 _ _ _ _)⟩
theorem jsl {α:Type} {xs:List α} {k:Nat} (h:xs.length = 2 * k):(alt false xs).length = k:=by
 have h1:=jic false xs
 have hge:¬ k < (alt false xs).length:=fun z=>by
  have:=h1 k
  rw [gE z,List.getElem?_eq_none (show xs.length <= 2 * k + (if false = true then 0 else 1) by rw [if_neg (by decide)]; omega)] at this
  cases this
 by_cases c:k = 0
 ·omega
 ·have:=h1 (k - 1)
  rw [gE (show 2 * (k - 1) + (if false = true then 0 else 1) < xs.length by rw [if_neg (by decide)]; omega)] at this
  have:=(List.getElem?_eq_some_iff.mp this).1
  omega
theorem jj5 (B:Blt mg) (D:DefAt K mg "told_paper" (top 29) ["web"] f fd) (Dqp:DefAt K mg "doubled" (top 26) ["web"] fqp dqp) (Gqp:FnOk P w K mg base CX0 5 fqp dqp ["web"] (jke C_Net)) (Dq6:MthAt K C_Net "fill" "Net.fill" (meth 5 2) ["self","source","sink"] fq6 dq6) (Gq6:FnOk P w K mg base CX0 3 fq6 dq6 ["self","source","sink"] (jsu C_Net)) (Dza:MthAt K C_Net "reached_from" "Net.reached_from" (meth 5 7) ["self","source"] fza dza) (Gza:FnOk P w K mg base CX0 2 fza dza ["self","source"] (jov C_Net)) (Dq2:DefAt K mg "marked" (top 11) ["places"] fq2 dq2) (Gq2:FnOk P w K mg base CX0 1 fq2 dq2 ["places"] jox) (Dqr:DefAt K mg "halves_reached" (top 28) ["web","reached"] fqr dqr) (Gqr:FnOk P w K mg base CX0 1 fqr dqr ["web","reached"] jst) (Dq7:MthAt K C_Net "flows" "Net.flows" (meth 5 6) ["self"] fq7 dq7) (Gq7:FnOk P w K mg base CX0 1 fq7 dq7 ["self"] (jp1 C_Net)) (Dqq:DefAt K mg "dues_flowing" (top 27) ["web","flows"] fqq dqq) (Gqq:FnOk P w K mg base CX0 1 fqq dqq ["web","flows"] jp2) (T:NetC K mg C_Net) (C2:Cst2 mg e1 e2 e3):FnOk P w K mg base CX0 6 f fd ["web"] jka:=by
 have sc:FnScope ["web","net","halves"] ["web"] (jbe (top 29)):=by walk_at "SC"
 refine D.F.ok sc (fun vs H Q E h=>?_) (fun cdv A outer s H vs Q E hr h=>?_)
 ·obtain ⟨v,ps,ts,rfl,_⟩:=h
  rfl
 obtain ⟨v,ps,ts,rfl,hw,wk,h30,h⟩:=h
 have hu:=jcc hr
 have hu0:_ < PySem.cLine:=Nat.lt_of_succ_lt hu
 refine ⟨_,(jaf (jbg (i:=1) sc.nd rfl (Or.inl rfl) (jbf Gqp (hr.mono (by decide)) rfl Dqp.m Dqp.F.kp Dqp.b .nil jbq (ja0 (qv 0) jah))) (jaf (jc6 (jd9 (qv 1) T.cl Dq6.m Gq6 (hr.mono (by decide)) Dq6.b .nil jbq (ja0 (jcx (v:=.int 0) rfl C2.SOURCE ⟨_,rfl⟩) (ja0 (jcx (v:=.int 1) rfl C2.SINK ⟨_,rfl⟩) jah)))) (jaf (jbg (i:=2) sc.nd rfl (Or.inl rfl) (jbf Gqr (hr.mono (by decide)) rfl Dqr.m Dqr.F.kp Dqr.b .nil jbq (ja0 (qv 0) (ja0 (jbf Gq2 (hr.mono (by decide)) rfl Dq2.m Dq2.F.kp Dq2.b .nil jbq (ja0 (jd9 (qv 1) T.cl Dza.m Gza (hr.mono (by decide)) Dza.b .nil jbq (ja0 (jcx (v:=.int 0) rfl C2.SOURCE ⟨_,rfl⟩) jah)) jah)) jah)))) (jb8 (jbu (jc9 (ja0 (qv 2) (ja0 (jbf Gqq (hr.mono (by decide)) rfl Dqq.m Dqq.F.kp Dqq.b .nil jbq (ja0 (qv 0) (ja0 (jpm (qv 1) T.cl Dq7.m Gq7 (hr.mono (by decide)) Dq7.b .nil jbq) jah))) jah)))))))),?_⟩
 refine jbc fun R' hR=>?_
 walk_at "ND"
 refine ⟨v,ps,ts,rfl,hw,wk,fun p R H1 fR s1 N=>?_⟩
 subst hR
 refine jbc fun R' hR=>?_
 obtain ⟨dx,W,Hd,ls,o1,_,_,_,_,_,_,pR⟩:=N.st
 simp_all_arith [o1,jrz]
 refine ⟨p,0,1,R,_,_,_,_,_,Fl.capA (jcm ps ts),rfl,N,by decide,Int.le_refl _,by omega,jsx wk,fun x r H2 run fin b2 eR2=>?_⟩
 have rst:Rst ps ts r:=⟨run,fin⟩
 have rm:=(rst.rooms wk).1
 have N2:=N.but b2 eR2 rm.len
 have s2:Same H H2:=fun b o q=>b2 b o (jaj q fR) (s1 _ _ q)
 have o2:=b2 _ _ pR o1
 subst hR
 refine jbc fun R' hR=>?_
 simp_all_arith [o2,jm2]
 refine ⟨p,0,R,_,_,_,_,r,rfl,N2,Int.le_refl _,by omega,by omega,fun l ms H3 hl s3 el pm=>?_⟩
 have hmn:ms.Nodup:=pm.nodup_iff.mpr (Fl.spr_cam (r:=r) (s:=0) N.net.from' _).nd
 have hml:ms.length <= 120:=by
  rw [pm.length_eq,List.length_map]
  have:=Fl.cb_len (r:=r) N.net ⟨Int.le_refl 0,by omega⟩ (2 + (ps.length + ps.length))
  show (Fl.sprN _ _ _ _ _).length <= 120
  omega
 refine ⟨l,ms,rfl,el,hmn,hml,fun d H4 hd s4 ed=>?_⟩
 have s24:=s3.trans s4
 have s14:=s2.trans s24
 refine ⟨v,ps,ts,d,mkI ms,rfl,hw.same s14,wk,ed,fun l1 zs H5 hl1 s5 el1 pz=>?_⟩
 rw [js8 pm] at pz
 have s25:=s24.trans s5
 have s15:=s14.trans s5
 subst hR
 simp_all_arith [s25 _ _ o2,jq0]
 refine ⟨p,R,_,_,_,_,r,rfl,N2.same s25,fun fl H6 hfl s6 ef=>?_⟩
 refine ⟨v,ps,ts,fl,alt false r,rfl,hw.same (s15.trans s6),wk,ef,?_,fun l2 us H7 hl2 s7 el2 pu=>?_⟩
 ·rw [jsl rm.len,jf8]; omega
 intro t ht
 have q8:=jag ht (.tup [.ref l1,.ref l2])
 have s57:=s6.trans s7
 refine h t l1 l2 zs us r _ ((s15.trans s57).trans q8) ja1 (q8 _ _ (s57 _ _ el1)) (q8 _ _ el2) ((s15.trans s57).free ht) (s14.free hl1) ((s15.trans s6).free hl2) (jaj (s6 _ _ el1) hl2) rst (Prs.same (s57.trans q8) pz) (jbz q8.tups pu)
theorem jko (B:Blt mg) (D:DefAt K mg "halves_of" (top 30) ["web"] f fd) (Dq1:DefAt K mg "look_at_web" (top 24) ["thing"] fq1 dq1) (Gq1:FnOk P w K mg base CX0 5 fq1 dq1 ["thing"] jkd) (Dq5:DefAt K mg "told_paper" (top 29) ["web"] fq5 dq5) (Gq5:FnOk P w K mg base CX0 6 fq5 dq5 ["web"] jka):FnOk P w K mg base CX0 7 f fd ["web"] jka:=by
 have sc:FnScope ["web"] ["web"] (jbe (top 30)):=by walk_at "SC"
 refine D.F.ok sc (fun vs H Q E h=>?_) (fun cdv A outer s H vs Q E hr h=>?_)
 ·obtain ⟨v,ps,ts,rfl,_⟩:=h
  rfl
 obtain ⟨v,ps,ts,rfl,hw,wk,h30,h⟩:=h
 have hu:=jcc hr
 have hu0:_ < PySem.cLine:=Nat.lt_of_succ_lt hu
 refine ⟨_,(jaf (jc6 (jbf Gq1 (hr.mono (by decide)) rfl Dq1.m Dq1.F.kp Dq1.b .nil jbq (ja0 (qv 0) jah))) (jb8 (jbu (jbf Gq5 (hr.mono (by decide)) rfl Dq5.m Dq5.F.kp Dq5.b .nil jbq (ja0 (qv 0) jah))))),?_⟩
 walk_at "ND"
 refine ⟨v,ps,ts,rfl,hw,wk,fun H1 s1=>?_⟩
 walk_at "ND"
 refine ⟨v,ps,ts,rfl,hw.same s1,wk,h30,fun t l1 l2 zs us r H2 s2 e1 e2 e3 f1 f2 f3 ne rst pz pu=>?_⟩
 exact h t l1 l2 zs us r H2 (s1.trans s2) e1 e2 e3 (s1.free f1) (s1.free f2) (s1.free f3) ne rst pz pu
end
end My
namespace My
open PySem L2
section
variable {P:Program} {w:World} {K:PySem.W.Frag} {mg:Str->Option Value} {base:Heap} {c1 c2 c3 c4:Tok} {C_NoWeb fqf:Addr} {dI:FuncData}
theorem jik {kvs:List (Key × V)}:∀ {ts:List (Int × Int)} {q:Int × Int},TiOk kvs q ts->ts.Pairwise fun a b=>HT.lexLt [a.1,a.2] [b.1,b.2] = true
 | [],_,_=>.nil
 | u :: r,q,h=>List.pairwise_cons.mpr ⟨fun p hp=>TiOk.lt h.2 p hp,jik h.2⟩
def SLw (ps ts:List (Int × Int)) (r:List Int) (p:Int):Bool:=inW ps ts r (spF ps p)
def SRw (ps ts:List (Int × Int)) (r:List Int) (p:Int):Bool:=inW ps ts r (spF ps p + ps.length)
def hfW (ps ts:List (Int × Int)) (r:List Int):Int->Int:=Fl.halfOf (SLw ps ts r) (SRw ps ts r)
theorem jj0 {ps ts:List (Int × Int)} (wk:WebOk ps ts):∀ p ∈ ps,hOf ps p.1 = p.2:=fun p hp=>by
 have a:=jei wk.p.nodup hp
 rw [jql wk.p.nodup (List.mem_map.mpr ⟨p,hp,rfl⟩)] at a
 exact V.int.inj (Option.some.inj a)
theorem jme {ps ts:List (Int × Int)} {r:List Int} (wk:WebOk ps ts) (h:Rst ps ts r):Fl.Full (ps.map (·.1)) (hOf ps) (Fl.twS (ps.map (·.1)) r ts) (Fl.fsOf (spF ps) r) (Fl.ftOf (ps.map (·.1)) (spF ps) r) (SLw ps ts r) (SRw ps ts r):=by
 have hl:(ps.map (·.1)).length = ps.length:=List.length_map _
 have e1:(jcm ps ts).length = Fl.arcs (ps.map (·.1)) ts:=by rw [jf8]; unfold Fl.arcs; rw [hl]
 have e2:knN ps = Fl.knots (ps.map (·.1)):=by unfold knN Fl.knots; rw [hl]
 have D:Fl.Dbl (ps.map (·.1)) ts (spF ps) (Fl.hsA (jcm ps ts)):=Fl.dbl_of wk.p.nodup (fun i p hp=>jmx wk hp) (jd6 wk)
 have C:Fl.Caps (ps.map (·.1)) ts (hOf ps) (Fl.capA (jcm ps ts)):=Fl.caps_of (jj0 wk) fun p hp=>by
  have h0:∀ q ∈ ps,0 <= q.2:=fun q hq=>by have:=wk.p.pos q hq; omega
  have:=Fl.le_sum (f:=fun q:Int × Int=>q.2) h0 p hp
  unfold plW
  omega
 obtain ⟨rm,bal⟩:=h.rooms wk
 have N:=netW wk
 have en:=h.end_
 rw [e1] at rm bal N
 rw [e2] at N en
 have F:=Fl.full_rest D N C rm bal en
 rw [hl] at F
 unfold SLw SRw inW
 rw [e2]
 exact F
theorem jhd {ps ts:List (Int × Int)} {r:List Int} (wk:WebOk ps ts):halT ps ts r = ps.map fun p=>(p.1,hfW ps ts r p.1):=by
 unfold halT halR
 apply List.ext_getElem?
 intro i
 rw [List.getElem?_map,List.getElem?_map]
 by_cases c:i < ps.length
 ·have hi:ps[i]? = some ps[i]:=gE c
  have hs:=jmx wk (i:=i) (p:=ps[i].1) (by rw [List.getElem?_map,hi]; rfl)
  rw [List.getElem?_range c,hi]
  show some _ = some _
  dsimp only
  rw [jdv hi]
  unfold hfW Fl.halfOf Fl.one SLw SRw
  rw [hs,show (2:Int) + (i:Int) + (ps.length:Int) = 2 + (ps.length:Int) + (i:Int) by omega]
  congr 2
  cases inW ps ts r (2 + (i:Int)) <;> rfl
 ·rw [List.getElem?_eq_none (by rw [List.length_range]; omega),List.getElem?_eq_none (by omega)]
  rfl
def triW (ps ts:List (Int × Int)) (r:List Int):List (Int × Int × Int):=(Fl.twS (ps.map (·.1)) r ts).map fun z=>(z.a,z.b,z.x + z.y)
theorem joq (ps ts:List (Int × Int)) (r:List Int):(triW ps ts r).map (fun d=>(d.1,d.2.1)) = ts:=by
 unfold triW Fl.twS
 rw [List.map_map,List.map_map]
 apply List.ext_getElem?
 intro i
 rw [List.getElem?_map]
 by_cases c:i < ts.length
 ·rw [List.getElem?_range c,gE c]
  show some ((ts.getD i (0,0)).1,(ts.getD i (0,0)).2) = _
  rw [jdv (gE c)]
 ·rw [List.getElem?_eq_none (by rw [List.length_range]; omega),List.getElem?_eq_none (by omega)]
  rfl
theorem Dr.pl:∀ {ps:List (Int × Int)} {l s:Int},Dr l ps->l + 23 * ps.length <= 999->s + 1000000000 * ps.length <= 1000000000000->PlOk l s ps
 | [],_,_,_,_,_=>trivial
 | p :: r,l,s,h,h1,h2=>by
  have e:((p :: r).length:Int) = r.length + 1:=by simp
  rw [e] at h1 h2
  obtain ⟨⟨a1,a2,a3,a4⟩,h3⟩:=h
  exact ⟨⟨a1,by omega,a3,by omega⟩,Dr.pl h3 (by omega) (by omega)⟩
theorem Dr.gt:∀ {ps:List (Int × Int)} {l:Int},Dr l ps->∀ p ∈ ps,l < p.1
 | [],_,_,_,h=>by cases h
 | q :: r,l,h,p,hp=>by
  rcases List.mem_cons.mp hp with e | hp
  ·rw [e]; exact h.1.1
  ·have:=Dr.gt h.2 p hp
   have:=h.1.1
   omega
theorem Dr.rise:∀ {ps:List (Int × Int)} {l:Int},Dr l ps->∀ (i j:Nat) (p q:Int × Int),i < j->ps[i]? = some p->ps[j]? = some q->p.1 < q.1
 | [],_,_,i,j,p,q,_,h,_=>by simp at h
 | r :: rs,l,h,i,j,p,q,hij,hi,hj=>by
  cases j with
  | zero=>omega
  | succ j =>
   have hj':rs[j]? = some q:=by simpa using hj
   cases i with
   | zero =>
    have e:r = p:=by simpa using hi
    subst e
    exact Dr.gt h.2 q (List.mem_of_getElem? hj')
   | succ i=>exact Dr.rise h.2 i j p q (by omega) (by simpa using hi) hj'
def jkw (q:Int × Int):List (Int × Int)->Int × Int
 | []=>q
 | p :: r=>jkw p r
theorem ji2:∀ {ts:List (Int × Int)} {q p:Int × Int},jkw q (ts ++ [p]) = p
 | [],_,_=>rfl
 | t :: r,_,_=>ji2 (ts:=r)
theorem TiOk.snoc {kvs:List (Key × V)}:∀ {ts:List (Int × Int)} {q p:Int × Int},TiOk kvs q ts->(HT.lexLt [(jkw q ts).1,(jkw q ts).2] [p.1,p.2] = true/\p.1 < p.2/\hasK kvs p.1 = true/\hasK kvs p.2 = true)->TiOk kvs q (ts ++ [p])
 | [],_,_,_,h=>⟨h,trivial⟩
 | t :: r,_,_,h,h2=>⟨h.1,TiOk.snoc h.2 h2⟩
theorem jt6 {H:Hp} {a st:Addr} {xs:List V} {ps:List (Int × Int)} {o:HO} (ha:H a = some (.lst xs)) (pp:Prs H xs ps) (hs:H st = some o) (so:StO o):a ≠ st:=by
 intro z
 obtain ⟨c,s,f,e,_⟩:=so
 rw [z,hs,e] at ha
 cases ha
 cases pp with
 | cons r _=>obtain ⟨t,e,_⟩:=r; cases e
theorem jd3.but {H H':Hp} {st:Addr} {o:HO} {v:V} {ps ts:List (Int × Int)} (h:jd3 H v ps ts) (hs:H st = some o) (so:StO o) (b:But st H H'):jd3 H' v ps ts:=by
 obtain ⟨u,pa,ta,xs,ys,e,h1,h2,h3,h4,h5⟩:=h
 have t:=b.tups hs so.imm
 exact ⟨u,pa,ta,xs,ys,e,t _ _ rfl h1,b _ _ (jt6 h2 h4 hs so) h2,b _ _ (jt6 h3 h5 hs so) h3,Prs.tups t h4,Prs.tups t h5⟩
def tri (n:Nat):Nat->Nat
 | 0=>0
 | k + 1=>tri n k + (n - (k + 1))
theorem tri_le:∀ n,n <= 12->∀ k,k <= 12->tri n k <= 66:=by decide
theorem jtl:∀ n,n <= 10->tri n n <= 45:=by decide
def jso:Sp:=fun vs H Q _=>∃ s o m,vs = [.ref s,.int m]/\H s = some o/\StO o/\0 <= m/\m <= 10 /\
 ∀ v H' o' ps ts,But s H H'->H' s = some o'->StO o'->jd3 H' v ps ts->WebOk ps ts->Dr (-1) ps->(ps.length:Int) <= m->ts.length <= 45->Q v H'
theorem jt9 {ps:List (Int × Int)} (hn:(ps.map (·.1)).Nodup) {i:Nat} {p:Int × Int} (h:ps[i]? = some p):hasK (jco ps) p.1 = true:=jfl hn (List.mem_of_getElem? h)
theorem jo1 (B:Blt mg) (D:DefAt K mg "_law_web" (top 36) ["_law_state","_law_most"] f fd) (Dqa:DefAt K mg "_law_take" (top 34) ["_law_state","_law_many"] fqa dqa) (Gqa:FnOk P w K mg base CX0 1 fqa dqa ["_law_state","_law_many"] jkb) (Dqx:DefAt K mg "_law_places" (top 35) ["_law_state","_law_count"] fqx dqx) (Gqx:FnOk P w K mg base CX0 2 fqx dqx ["_law_state","_law_count"] jmw):FnOk P w K mg base CX0 3 f fd ["_law_state","_law_most"] jso:=by
 have sc:FnScope ["_law_state","_law_most","_law_count","_law_places_here","_law_dense","_law_ties","_law_k","_law_j"] ["_law_state","_law_most"] (jbe (top 36)):=by walk_at "SC"
 refine D.F.ok sc (fun vs H Q E h=>?_) (fun cdv A outer s H vs Q E hr h=>?_)
 ·obtain ⟨s,o,m,rfl,_⟩:=h
  rfl
 obtain ⟨st,o,m,rfl,es,so,m0,m1,h⟩:=h
 have hu:=jcc hr
 have hu0:_ < PySem.cLine:=Nat.lt_of_succ_lt hu
 refine ⟨_,(jaf (jbg (i:=2) sc.nd rfl (Or.inl rfl) (jbf Gqa (hr.mono (by decide)) rfl Dqa.m Dqa.F.kp Dqa.b .nil jbq (ja0 (qv 0) (ja0 (jbo jcb (qv 1) jai) jah)))) (jaf (jbg (i:=3) sc.nd rfl (Or.inl rfl) (jbf Gqx (hr.mono (by decide)) rfl Dqx.m Dqx.F.kp Dqx.b .nil jbq (ja0 (qv 0) (ja0 (qv 2) jah)))) (jaf (jbg (i:=4) sc.nd rfl (Or.inl rfl) (jbo jcb jai (jbf Gqa (hr.mono (by decide)) rfl Dqa.m Dqa.F.kp Dqa.b .nil jbq (ja0 (qv 0) (ja0 jai jah))))) (jaf (jbg (i:=5) sc.nd rfl (Or.inl rfl) (jcf jah)) (jaf (jcw PassesOwn.never rfl (jd0 rfl B.range (ja0 (qv 2) jah)) (jb9 (i:=6) sc.nd rfl (Or.inl rfl)) (jb8 (jcw PassesOwn.never rfl (jkj rfl B.range (ja0 (jbo jcb (qv 6) jai) (ja0 (qv 2) jah))) (jb9 (i:=7) sc.nd rfl (Or.inl rfl)) (jb8 (jdf (jc0 q_lt (jbf Gqa (hr.mono (by decide)) rfl Dqa.m Dqa.F.kp Dqa.b .nil jbq (ja0 (qv 0) (ja0 jai jah))) (qv 4) (jby _)) (jb8 (jc6 (q_bm PySem.F.plainAttrs_list PySem.F.slot_list_append PySem.F.type_list_append jca (qv 5) (ja0 (jc9 (ja0 (jbj q_ix (jbj q_ix (qv 3) (qv 6) (fun _ _=>rfl)) jai (fun _ _=>rfl)) (ja0 (jbj q_ix (jbj q_ix (qv 3) (qv 7) (fun _ _=>rfl)) jai (fun _ _=>rfl)) jah))) jah)))) jc5))))) (jb8 (jbu (jc9 (ja0 (qv 3) (ja0 (qv 5) jah)))))))))),?_⟩
 walk_at "ND"
 refine ⟨st,o,m + 1,rfl,es,so,by omega,by omega,fun n o1 n0 n1 so1=>?_⟩
 walk_at "ND"
 refine ⟨st,o1,n,rfl,ja1,so1,n0,by omega,fun r HA oA xs ps hr0 bA eA soA er pp hlen dr=>?_⟩
 walk_at "ND"
 refine ⟨st,oA,4,rfl,eA,soA,by decide,by decide,fun dn oB d0 d1 soB=>?_⟩
 have nr:r ≠ st:=fun z=>by rw [z,ja1] at hr0; cases hr0
 have hr1:H r = none:=by rw [<- hr0,jb7 nr]
 have bB:But st H (upd HA st oB):=((But.at st H o1).trans bA).trans (But.at st HA oB)
 have tB:TupS HA (upd HA st oB):=(But.at st HA oB).tups eA soA.imm
 have erB:upd HA st oB r = some (.lst xs):=by rw [jb7 nr]; exact er
 have eB:upd HA st oB st = some oB:=ja1
 have pB:Prs (upd HA st oB) xs ps:=Prs.tups tB pp
 generalize upd HA st oB = HB at bB erB eB pB
 clear tB pp er eA bA soA
 have hpl:ps.length <= 12:=by omega
 have plok:=dr.pl (s:=0) (by omega) (by omega)
 have hnd:=plok.nodup
 have hlx:xs.length = ps.length:=Paired.length pB
 have rise:=dr.rise
 walk_at "ND"
 intro tl htl
 have ntl:tl ≠ st:=(jaj eB htl).symm
 have nrt:r ≠ tl:=jaj erB htl
 have htl0:H tl = none:=by
  cases q:H tl with
  | none=>rfl
  | some u=>rw [bB _ _ ntl q] at htl; cases htl
 refine jc2 (Itr 0 ps.length) (upd HB tl (.lst [])) (fun R hR=>?_) (jdc (n:=ps.length) (fun k σ H1=>∃ kk jj zs ts o',σ = [some (.ref st),some (.int m),some (.int n),some (.ref r),some (.int (1 + dn)),some (.ref tl),kk,jj]/\But st H H1/\H1 st = some o'/\StO o'/\H1 r = some (.lst xs)/\Prs H1 xs ps/\H1 tl = some (.lst zs)/\Prs H1 zs ts/\TiOk (jco ps) (-1,-1) ts/\(∀ (j:Nat) (p:Int × Int),k <= j->ps[j]? = some p->(jkw (-1,-1) ts).1 < p.1)/\ts.length <= tri ps.length k) ?_ ?_ ?_)
 ·unfold jl1
  walk_at "ND"
  exact ⟨n,rfl,by omega,by omega,by rw [<- hlen]; exact hR⟩
 ·refine ⟨none,none,[],[],oB,rfl,bB.trans (But.new htl),by rw [jb7 ntl.symm]; exact eB,soB,by rw [jb7 nrt]; exact erB,Prs.tups (jg2 htl) pB,ja1,.nil,trivial,fun j p _ hp=>?_,by simp⟩
  have:=dr.gt p (List.mem_of_getElem? hp)
  exact this
 ·rintro k σ H1 hk ⟨kk,jj,zs,ts,o',rfl,b1,e1,so',er1,pp1,etl,pz,tok,hlast,htn⟩
  obtain ⟨lt0,hlt0⟩:∃ n:Nat,n = ts.length:=⟨_,rfl⟩
  have htr:=tri_le ps.length (by omega) k (by omega)
  rw [<- hlt0] at htn
  have xk:ps[k]? = some ps[k]:=gE hk
  generalize ps[k] = pk at xk
  walk_at "ND"
  refine jc2 (Itr (0 + (k:Int) + 1) (ps.length - (k + 1))) H1 (fun R hR=>?_) (jdc (n:=ps.length - (k + 1)) (fun i σ H2=>∃ jj zs ts o',σ = [some (.ref st),some (.int m),some (.int n),some (.ref r),some (.int (1 + dn)),some (.ref tl),some (.int (0 + (k:Int))),jj]/\But st H H2/\H2 st = some o'/\StO o'/\H2 r = some (.lst xs)/\Prs H2 xs ps/\H2 tl = some (.lst zs)/\Prs H2 zs ts/\TiOk (jco ps) (-1,-1) ts/\((jkw (-1,-1) ts).1 < pk.1 \/ ((jkw (-1,-1) ts).1 = pk.1/\∀ (j:Nat) (p:Int × Int),k + 1 + i <= j->ps[j]? = some p->(jkw (-1,-1) ts).2 < p.1))/\ts.length <= lt0 + i) ?_ ?_ ?_)
  ·unfold juv
   walk_at "ND"
   refine ⟨_,_,rfl,⟨by omega,by omega,by omega,by omega⟩,?_⟩
   have e:(n - (0 + (k:Int) + 1)).toNat = ps.length - (k + 1):=by omega
   rw [e]
   exact hR
  ·exact ⟨jj,zs,ts,o',rfl,b1,e1,so',er1,pp1,etl,pz,tok,.inl (hlast k pk (Nat.le_refl _) xk),by omega⟩
  ·rintro i σ H2 hi ⟨jj2,zs2,ts2,o2,rfl,b2,e2,so2,er2,pp2,etl2,pz2,tok2,hl2,htn2⟩
   have hj:k + 1 + i < ps.length:=by omega
   have xj:ps[k + 1 + i]? = some ps[k + 1 + i]:=gE hj
   generalize ps[k + 1 + i] = pj at xj
   have hkj:=rise k (k + 1 + i) pk pj (by omega) xk xj
   walk_at "ND"
   refine ⟨st,o2,5,rfl,e2,so2,by decide,by decide,fun d3 o3 d30 d31 so3=>?_⟩
   have b3:But st H2 (upd H2 st o3):=But.at _ _ _
   have t3:TupS H2 (upd H2 st o3):=b3.tups e2 so2.imm
   have er3:=b3 _ _ nr er2
   have etl3:=b3 _ _ ntl etl2
   have e3:upd H2 st o3 st = some o3:=ja1
   generalize upd H2 st o3 = H3 at b3 t3 er3 etl3 e3
   walk_at "ND"
   refine ite2 (fun c=>?_) (fun c=>?_)
   ·obtain ⟨uk,gk,hgk⟩:=je1 pp2 xk
    obtain ⟨uj,gj,hgj⟩:=je1 pp2 xj
    obtain ⟨tk,ek,hk3⟩:=hgk.tups t3
    obtain ⟨tj,ej,hj3⟩:=hgj.tups t3
    have ak:atI xs (0 + (k:Int)) = some (.ref tk):=by rw [Int.zero_add,<- ek]; exact jdd gk
    have aj:atI xs (0 + (k:Int) + 1 + (i:Int)) = some (.ref tj):=by
     rw [show 0 + (k:Int) + 1 + (i:Int) = ((k + 1 + i:Nat):Int) by omega,<- ej]
     exact jdd gj
    refine ⟨⟨tl,_,rfl,etl3⟩,?_⟩
    simp_all_arith [jbm,er3,ak,aj,hk3,hj3,at0]
    intro t ht
    have etl4:=jag ht (.tup [.int pk.1,.int pj.1]) _ _ etl3
    simp_all_arith [etl4]
    have t6:=jbv (ys:=zs2 ++ [.ref t]) etl4
    have nst:st ≠ tl:=ntl.symm
    have hz2:zs2.length = ts2.length:=Paired.length pz2
    refine ⟨szl' (by omega),_,zs2 ++ [.ref t],ts2 ++ [(pk.1,pj.1)],o3,rfl,fun b u nb q=>?_,?_,so3,?_,Prs.tups ((t3.trans (jg2 ht)).trans t6) pp2,(by first | rfl | exact ja1),jbk (Prs.tups ((t3.trans (jg2 ht)).trans t6) pz2) (Pr.tups ⟨t,rfl,ja1⟩ t6),?_,?_,?_⟩
    ·have q3:=b3 _ _ nb (b2 _ _ nb q)
     rw [jb7 (jaj q htl0),jb7 (jaj q3 ht)]
     exact q3
    ·rw [jb7 nst,jb7 (jaj e3 ht)]
     exact e3
    ·rw [jb7 nrt,jb7 (jaj er3 ht)]
     exact er3
    ·refine tok2.snoc ⟨?_,hkj,(show hasK _ pk.1 = true from jt9 hnd xk),(show hasK _ pj.1 = true from jt9 hnd xj)⟩
     rcases hl2 with q | ⟨q1,q2⟩
     ·exact jft q
     ·rw [q1]
      exact jng (q2 _ pj (Nat.le_refl _) xj)
    ·rw [ji2]
     exact .inr ⟨rfl,fun j p hj2 hp=>rise _ _ pj p (by omega) xj hp⟩
    ·rw [List.length_append]
     show _ + 1 <= _
     omega
   ·refine ⟨_,zs2,ts2,o3,rfl,b2.trans b3,e3,so3,er3,Prs.tups t3 pp2,etl3,Prs.tups t3 pz2,tok2,?_,by omega⟩
    rcases hl2 with q | ⟨q1,q2⟩
    ·exact .inl q
    ·exact .inr ⟨q1,fun j p hj2 hp=>q2 j p (by omega) hp⟩
  ·rintro σ H2 ⟨jj2,zs2,ts2,o2,rfl,b2,e2,so2,er2,pp2,etl2,pz2,tok2,hl2,htn2⟩
   refine ⟨_,jj2,zs2,ts2,o2,rfl,b2,e2,so2,er2,pp2,etl2,pz2,tok2,fun j p hj hp=>?_,by show _ <= tri ps.length k + (ps.length - (k + 1)); omega⟩
   have:=rise k j pk p (by omega) xk hp
   rcases hl2 with q | ⟨q1,_⟩
   ·omega
   ·omega
 ·rintro σ H1 ⟨kk,jj,zs,ts,o',rfl,b1,e1,so',er1,pp1,etl,pz,tok,hlast,htn⟩
  have htr:=jtl ps.length (by omega)
  walk_at "ND"
  intro wv hwv
  have s1:=jag hwv (.tup [.ref r,.ref tl])
  exact h _ _ o' ps ts (b1.trans (But.new hwv)) (s1 _ _ e1) so' ⟨wv,r,tl,xs,zs,rfl,ja1,s1 _ _ er1,s1 _ _ etl,Prs.same s1 pp1,Prs.same s1 pz⟩ ⟨by omega,plok,by omega,tok⟩ dr (by omega) (by omega)
end
end My
namespace Fl
def Rch (ns:List Int) (pr:Int->Int) (zs:List Tw) (fs:Int->Int) (SL SR:Int->Bool):Prop :=
 ∀ (A B:Int->Prop),(∀ p ∈ ns,fs p < pr p->A p)->(∀ z ∈ zs,(A z.a->B z.b)/\(A z.b->B z.a))->(∀ z ∈ zs,(0 < z.x->B z.b->A z.a)/\(0 < z.y->B z.a->A z.b))->∀ p ∈ ns,(SL p = true->A p)/\(SR p = true->B p)
section
variable {ns:List Int} {ts:List (Int × Int)} {sp:Int->Int} {hs r:List Int} {wf:Int->List Nat} {pr:Int->Int} {cap:Nat->Int}
theorem rch_rest (D:Dbl ns ts sp hs) (N:Net wf hs (arcs ns ts) (knots ns)) (C:Caps ns ts pr cap) (R:Rooms (arcs ns ts) cap r) (hr:stp wf hs (knots ns) 0 1 r = none) :
  Rch ns pr (twS ns r ts) (fsOf sp r) (fun p=>inS wf hs (knots ns) r (sp p)) (fun p=>inS wf hs (knots ns) r (sp p + ns.length)):=fun A B a1 a2 a3=>by
 have hs0:(0:Int) <= 0/\(0:Int) < (knots ns:Nat):=⟨Int.le_refl _,by unfold knots; omega⟩
 have h1:(1:Int) ∉ (cbOf wf hs (knots ns) 0 r).map (·.1):=t_out N (by decide) hs0 hr
 have cam:Cam hs r (arcs ns ts) 0 (cbOf wf hs (knots ns) 0 r):=spr_cam N.from' _
 unfold inS
 generalize cbOf wf hs (knots ns) 0 r = cb at h1 cam ⊢
 have inj:∀ p ∈ ns,∀ q ∈ ns,sp p = sp q->p = q:=fun p hp q hq e=>by
  obtain ⟨k,hk,ek⟩:=List.mem_iff_getElem.mp hq
  have hk':ns[k]? = some q:=by rw [gE hk,ek]
  exact (D.spI hk' hp).mp (by rw [e]; exact D.spot k q hk')
 have key:∀ (i:Nat) (v:Int) (o:Option Nat),cb[i]? = some (v,o)->(∀ p ∈ ns,sp p = v->A p)/\(∀ p ∈ ns,sp p + ns.length = v->B p):=by
  intro i
  induction i using Nat.strongRecOn with
  | ind i ih =>
   intro v o hi
   by_cases i0:i = 0
   ·subst i0
    rw [cam.first] at hi
    cases hi
    exact ⟨fun p hp e=>by have:=D.spB hp; omega,fun p hp e=>by have:=D.spB hp; omega⟩
   ·obtain ⟨w,rfl,hw,hrw,hv,j,u,hj,hu,hm⟩:=cam.came i v o hi (by omega)
    have hv1:v ≠ 1:=fun e=>h1 (by rw [<- e]; exact List.mem_map.mpr ⟨_,List.mem_of_getElem? hi,rfl⟩)
    obtain ⟨⟨u',o'⟩,hu2,hu3⟩:=Option.map_eq_some_iff.mp hu
    dsimp only at hu3
    subst hu3
    have hu1:u' ≠ 1:=fun e=>h1 (by rw [<- e]; exact List.mem_map.mpr ⟨_,List.mem_of_getElem? hu2,rfl⟩)
    obtain ⟨iA,iB⟩:=ih j hj u' o' hu2
    unfold arcs at hw
    by_cases c1:w < 2 * ns.length
    ·obtain ⟨k,hk⟩:∃ k,w = 2 * k \/ w = 2 * k + 1:=⟨w / 2,by omega⟩
     have kl:k < ns.length:=by omega
     obtain ⟨s1,s2⟩:=D.src k kl
     rcases hk with rfl | rfl
     ·rw [s1] at hv
      refine ⟨fun p hp e=>?_,fun p hp e=>by have:=D.spB hp; omega⟩
      have hk':ns[k]? = some ns[k]:=gE kl
      have e2:=(D.spI hk' hp).mp (by omega)
      have two:=R.two k (by unfold arcs; omega)
      rw [C.src k _ hk'] at two
      refine a1 p hp ?_
      unfold fsOf
      rw [e2,D.spot k _ hk',show (2 + (k:Int) - 2).toNat = k by omega]
      omega
     ·rw [s2] at hv
      exact ⟨fun p hp e=>by have:=D.spB hp; omega,fun p hp e=>by have:=D.spB hp; omega⟩
    ·by_cases c2:w < 2 * (ns.length + ns.length)
     ·obtain ⟨k,hk⟩:∃ k,w = 2 * (ns.length + k) \/ w = 2 * (ns.length + k) + 1:=⟨w / 2 - ns.length,by omega⟩
      obtain ⟨s1,s2⟩:=D.snk k (by omega)
      rcases hk with rfl | rfl
      ·exact absurd (hv.symm.trans s1) hv1
      ·rw [show mate (2 * (ns.length + k) + 1) = 2 * (ns.length + k) by unfold mate; rw [if_neg (by omega)]; omega] at hm
       exact absurd (hm.symm.trans s1) hu1
     ·obtain ⟨k,hk⟩:∃ k,w = 2 * (ns.length + ns.length + 2 * k) \/ w = 2 * (ns.length + ns.length + 2 * k) + 1 \/ w = 2 * (ns.length + ns.length + (2 * k + 1)) \/ w = 2 * (ns.length + ns.length + (2 * k + 1)) + 1:=⟨(w / 2 - (ns.length + ns.length)) / 2,by omega⟩
      have kl:k < ts.length:=by omega
      have ht:=getD_at kl
      obtain ⟨⟨t1,t2⟩,t3,t4⟩:=D.tie k _ ht
      obtain ⟨m1,m2⟩:=D.ends _ (List.mem_of_getElem? ht)
      have hz:twAt ns r ts k ∈ twS ns r ts:=List.mem_map.mpr ⟨k,List.mem_range.mpr kl,rfl⟩
      have z2:=a2 _ hz
      have z3:=a3 _ hz
      unfold twAt at z2 z3
      dsimp only at z2 z3
      have b1:=D.spB m1
      have b2:=D.spB m2
      rcases hk with rfl | rfl | rfl | rfl
      ·rw [show mate (2 * (ns.length + ns.length + 2 * k)) = 2 * (ns.length + ns.length + 2 * k) + 1 by unfold mate; rw [if_pos (by omega)]] at hm
       have q:=z2.1 (iA _ m1 (t2.symm.trans hm))
       refine ⟨fun p hp e=>by have:=D.spB hp; omega,fun p hp e=>?_⟩
       rw [inj p hp _ m2 (by omega)]
       exact q
      ·rw [show mate (2 * (ns.length + ns.length + 2 * k) + 1) = 2 * (ns.length + ns.length + 2 * k) by unfold mate; rw [if_neg (by omega)]; omega] at hm
       have q:=z3.1 hrw (iB _ m2 (t1.symm.trans hm))
       refine ⟨fun p hp e=>?_,fun p hp e=>by have:=D.spB hp; omega⟩
       rw [inj p hp _ m1 (by omega)]
       exact q
      ·rw [show mate (2 * (ns.length + ns.length + (2 * k + 1))) = 2 * (ns.length + ns.length + (2 * k + 1)) + 1 by unfold mate; rw [if_pos (by omega)]] at hm
       have q:=z2.2 (iA _ m2 (t4.symm.trans hm))
       refine ⟨fun p hp e=>by have:=D.spB hp; omega,fun p hp e=>?_⟩
       rw [inj p hp _ m1 (by omega)]
       exact q
      ·rw [show mate (2 * (ns.length + ns.length + (2 * k + 1)) + 1) = 2 * (ns.length + ns.length + (2 * k + 1)) by unfold mate; rw [if_neg (by omega)]; omega] at hm
       have q:=z3.2 hrw (iB _ m1 (t3.symm.trans hm))
       refine ⟨fun p hp e=>?_,fun p hp e=>by have:=D.spB hp; omega⟩
       rw [inj p hp _ m2 (by omega)]
       exact q
 intro p hp
 simp only [decide_eq_true_eq]
 refine ⟨fun h=>?_,fun h=>?_⟩
 all_goals
  obtain ⟨⟨v,o⟩,hm,e⟩:=List.mem_map.mp h
  obtain ⟨i,hi⟩:=List.mem_iff_getElem?.mp hm
 ·exact (key i v o hi).1 p hp e.symm
 ·exact (key i v o hi).2 p hp e.symm
end
section
variable {ns:List Int} {pr:Int->Int} {zs:List Tw} {fs ft:Int->Int} {SL SR:Int->Bool}
theorem jk7 {α:Type} {f:α->Int}:∀ {l:List α},(∀ p ∈ l,0 <= f p)->0 <= (l.map f).sum
 | [],_=>Int.le_refl _
 | a :: l,h=>by
  rw [List.map_cons,List.sum_cons]
  have:=h a (List.mem_cons_self ..)
  have:=jk7 (f:=f) (l:=l) fun p hp=>h p (List.mem_cons_of_mem _ hp)
  omega
theorem Full.gap (F:Full ns pr zs fs ft SL SR) (y:Int->Int):(ns.map fun p=>y p * (2 * pr p - (fs p + ft p))).sum + (zs.map fun z=>(z.x + z.y) * (y z.a + y z.b - 2)).sum = 2 * (ns.map fun p=>pr p * y p).sum - 2 * (ns.map fun p=>pr p * halfOf SL SR p).sum:=by
 have e1:(ns.map fun p=>y p * (2 * pr p - (fs p + ft p))).sum + ((ns.map fun p=>y p * outL zs p).sum + (ns.map fun p=>y p * inR zs p).sum) = (ns.map fun p=>pr p * y p).sum + (ns.map fun p=>pr p * y p).sum:=by
  rw [<- sum_add,<- sum_add,<- sum_add]
  refine sum_congr fun p hp=>?_
  rw [<- F.left p hp,<- F.right p hp,Int.mul_sub,Int.mul_add,Int.mul_comm (pr p),<- Int.mul_assoc,Int.mul_comm (y p) 2,Int.mul_assoc]
  omega
 have e2:(zs.map fun z=>(z.x + z.y) * (y z.a + y z.b - 2)).sum + ((zs.map fun z=>z.x + z.y).sum + (zs.map fun z=>z.x + z.y).sum) = (zs.map fun z=>y z.a * z.x + y z.b * z.y).sum + (zs.map fun z=>y z.b * z.x + y z.a * z.y).sum:=by
  rw [<- sum_add,<- sum_add,<- sum_add]
  refine sum_congr fun z _=>?_
  rw [Int.mul_sub,Int.mul_add,Int.add_mul,Int.add_mul,Int.mul_comm z.x,Int.mul_comm z.y,Int.mul_comm z.x,Int.mul_comm z.y]
  omega
 rw [jgc y F.nd F.ends,jmq y F.nd F.ends] at e1
 rw [F.worth] at e2
 omega
theorem Full.nnP (F:Full ns pr zs fs ft SL SR) {y:Int->Int} (y0:∀ p ∈ ns,0 <= y p):∀ p ∈ ns,0 <= y p * (2 * pr p - (fs p + ft p)):=fun p hp=>by
 have a:=F.capL p hp
 have b:=F.capR p hp
 exact Int.mul_nonneg (y0 p hp) (by omega)
theorem Full.nnZ (F:Full ns pr zs fs ft SL SR) {y:Int->Int} (y2:∀ z ∈ zs,2 <= y z.a + y z.b):∀ z ∈ zs,0 <= (z.x + z.y) * (y z.a + y z.b - 2):=fun z hz=>by
 have a:=F.pos z hz
 have b:=y2 z hz
 exact Int.mul_nonneg (by omega) (by omega)
theorem Full.least (F:Full ns pr zs fs ft SL SR) {y:Int->Int} (y0:∀ p ∈ ns,0 <= y p) (y2:∀ z ∈ zs,2 <= y z.a + y z.b):(ns.map fun p=>pr p * halfOf SL SR p).sum <= (ns.map fun p=>pr p * y p).sum:=by
 have g:=F.gap y
 have a:=jk7 (F.nnP y0)
 have b:=jk7 (F.nnZ y2)
 omega
theorem jol {a b:Int} (h:a * b <= 0) (ha:0 <= a) (hb:0 < b):a = 0:=by
 by_cases c:a = 0
 ·exact c
 ·have:=Int.mul_pos (show 0 < a by omega) hb
  omega
theorem Full.agree (F:Full ns pr zs fs ft SL SR) (W:Rch ns pr zs fs SL SR) {y:Int->Int} (y0:∀ p ∈ ns,0 <= y p/\y p <= 2) (y2:∀ z ∈ zs,2 <= y z.a + y z.b) (hc:(ns.map fun p=>pr p * y p).sum <= (ns.map fun p=>pr p * halfOf SL SR p).sum):∀ p ∈ ns,(SL p = true->y p = 0)/\(SR p = true->y p = 2):=by
 have g:=F.gap y
 have n1:=F.nnP fun p hp=>(y0 p hp).1
 have n2:=F.nnZ y2
 have s1:=jk7 n1
 have s2:=jk7 n2
 have l1:=le_sum n1
 have l2:=le_sum n2
 refine W (fun p=>y p = 0) (fun p=>y p = 2) (fun p hp h=>?_) (fun z hz=>?_) (fun z hz=>?_)
 ·have a:=F.capR p hp
  have:=l1 p hp
  exact jol (b:=2 * pr p - (fs p + ft p)) (by omega) (y0 p hp).1 (by omega)
 ·obtain ⟨i1,i2⟩:=F.ends z hz
  have:=y0 _ i1
  have:=y0 _ i2
  have:=y2 z hz
  exact ⟨fun h=>by omega,fun h=>by omega⟩
 ·have:=l2 z hz
  have hp:=F.pos z hz
  have h2:=y2 z hz
  refine ⟨fun h h3=>?_,fun h h3=>?_⟩
  all_goals
   have q:=jol (a:=y z.a + y z.b - 2) (b:=z.x + z.y) (by rw [Int.mul_comm]; omega) (by omega) (by omega)
   omega
theorem Full.fixed (F:Full ns pr zs fs ft SL SR) (W:Rch ns pr zs fs SL SR) {y:Int->Int} (y0:∀ p ∈ ns,0 <= y p/\y p <= 2) (y2:∀ z ∈ zs,2 <= y z.a + y z.b) (hc:(ns.map fun p=>pr p * y p).sum <= (ns.map fun p=>pr p * halfOf SL SR p).sum):∀ p ∈ ns,halfOf SL SR p ≠ 1->y p = halfOf SL SR p:=fun p hp h=>by
 obtain ⟨a,b⟩:=F.agree W y0 y2 hc p hp
 unfold halfOf at h ⊢
 cases e1:SL p <;> cases e2:SR p <;> rw [e1,e2] at h
 ·exact absurd rfl h
 ·rw [b e2]; rfl
 ·rw [a e1]; rfl
 ·exact absurd rfl h
end
end Fl
namespace Fl
section
variable {ns:List Int} {pr:Int->Int} {zs:List Tw} {fs ft:Int->Int} {SL SR:Int->Bool}
end
end Fl
namespace L2
open PySem PySem.Spec PyProof.Rows
section
variable {X:Cx}
end
section
variable {X:Cx}
end
end L2
namespace My
open PySem L2
section
variable {P:Program} {w:World} {K:PySem.W.Frag} {mg:Str->Option Value} {base:Heap} {c1 c2 c3 c4:Tok} {C_NoWeb fqf:Addr} {dI:FuncData}
theorem rch_of {ps ts:List (Int × Int)} {r:List Int} (wk:WebOk ps ts) (h:Rst ps ts r):Fl.Rch (ps.map (·.1)) (hOf ps) (Fl.twS (ps.map (·.1)) r ts) (Fl.fsOf (spF ps) r) (SLw ps ts r) (SRw ps ts r):=by
 have hl:(ps.map (·.1)).length = ps.length:=List.length_map _
 have e1:(jcm ps ts).length = Fl.arcs (ps.map (·.1)) ts:=by rw [jf8]; unfold Fl.arcs; rw [hl]
 have e2:knN ps = Fl.knots (ps.map (·.1)):=by unfold knN Fl.knots; rw [hl]
 have D:Fl.Dbl (ps.map (·.1)) ts (spF ps) (Fl.hsA (jcm ps ts)):=Fl.dbl_of wk.p.nodup (fun i p hp=>jmx wk hp) (jd6 wk)
 have C:Fl.Caps (ps.map (·.1)) ts (hOf ps) (Fl.capA (jcm ps ts)):=Fl.caps_of (jj0 wk) fun p hp=>by
  have h0:∀ q ∈ ps,0 <= q.2:=fun q hq=>by have:=wk.p.pos q hq; omega
  have:=Fl.le_sum (f:=fun q:Int × Int=>q.2) h0 p hp
  unfold plW
  omega
 obtain ⟨rm,bal⟩:=h.rooms wk
 have N:=netW wk
 have en:=h.end_
 rw [e1] at rm bal N
 rw [e2] at N en
 have F:=Fl.rch_rest D N C rm en
 rw [hl] at F
 unfold SLw SRw inW
 rw [e2]
 exact F
theorem tw_in {ps ts:List (Int × Int)} {r:List Int}:∀ z ∈ Fl.twS (ps.map (·.1)) r ts,(z.a,z.b) ∈ ts:=fun z hz=>by
 unfold Fl.twS at hz
 obtain ⟨j,hj,rfl⟩:=List.mem_map.mp hz
 exact List.mem_of_getElem? (Fl.getD_at (List.mem_range.mp hj))
theorem jgj {ps ts:List (Int × Int)} (wk:WebOk ps ts) (y:Int->Int):((ps.map (·.1)).map fun n=>hOf ps n * y n).sum = (ps.map fun p=>p.2 * y p.1).sum:=by
 rw [List.map_map]
 exact Fl.sum_congr fun p hp=>by show hOf ps p.1 * _ = _; rw [jj0 wk p hp]
def jcy (ps:List (Int × Int)) (y:Int->Int):Int:=(ps.map fun p=>p.2 * y p.1).sum
structure Cov (ps ts:List (Int × Int)) (y:Int->Int):Prop where
 b:∀ p ∈ ps,0 <= y p.1/\y p.1 <= 2
 t:∀ t ∈ ts,2 <= y t.1 + y t.2
theorem jga {ps ts:List (Int × Int)} {r:List Int} (wk:WebOk ps ts) (h:Rst ps ts r):Cov ps ts (hfW ps ts r):=by
 refine ⟨fun p _=>Fl.half_in p.1,fun t ht=>?_⟩
 have F:=jme wk h
 have hz:t ∈ (triW ps ts r).map (fun d=>(d.1,d.2.1)):=by rw [joq]; exact ht
 obtain ⟨d,hd,rfl⟩:=List.mem_map.mp hz
 obtain ⟨z,hz2,rfl⟩:=List.mem_map.mp hd
 exact F.two z hz2
theorem jnr {ps ts:List (Int × Int)} {r:List Int} (wk:WebOk ps ts) (h:Rst ps ts r) {y:Int->Int} (c:Cov ps ts y):jcy ps (hfW ps ts r) <= jcy ps y:=by
 have:=(jme wk h).least (y:=y) (fun n hn=>by obtain ⟨p,hp,rfl⟩:=List.mem_map.mp hn; exact (c.b p hp).1) fun z hz=>c.t _ (tw_in z hz)
 rw [jgj wk,jgj wk] at this
 exact this
theorem je8 {ps ts:List (Int × Int)} {r:List Int} (wk:WebOk ps ts) (h:Rst ps ts r) {y:Int->Int} (c:Cov ps ts y) (hc:jcy ps y <= jcy ps (hfW ps ts r)):∀ p ∈ ps,hfW ps ts r p.1 ≠ 1->y p.1 = hfW ps ts r p.1:=fun p hp=>by
 refine (jme wk h).fixed (rch_of wk h) (fun n hn=>by obtain ⟨p,hp,rfl⟩:=List.mem_map.mp hn; exact c.b p hp) (fun z hz=>c.t _ (tw_in z hz)) ?_ p.1 (List.mem_map.mpr ⟨p,hp,rfl⟩)
 rw [jgj wk,jgj wk]
 exact hc
structure Best (ps ts:List (Int × Int)) (y:Int->Int):Prop where
 c:Cov ps ts y
 m:∀ y',Cov ps ts y'->jcy ps y <= jcy ps y'
theorem jf7 {ps ts:List (Int × Int)} {r:List Int} (wk:WebOk ps ts) (h:Rst ps ts r):Best ps ts (hfW ps ts r):=⟨jga wk h,fun _ c=>jnr wk h c⟩
def Tch (ts:List (Int × Int)) (C:Int->Bool):Prop:=∀ t ∈ ts,C t.1 = true \/ C t.2 = true
def wC (ps:List (Int × Int)) (C:Int->Bool):Int:=(ps.map fun p=>if C p.1 = true then p.2 else 0).sum
def jnv (ps:List (Int × Int)) (C:Int->Bool):List Int:=(ps.map (·.1)).filter C
section
variable {ps ts:List (Int × Int)} {y:Int->Int}
theorem Tch.cov {C:Int->Bool} (h:Tch ts C):Cov ps ts (fun n=>if C n = true then 2 else 0):=by
 refine ⟨fun p _=>by split <;> omega,fun t ht=>?_⟩
 rcases h t ht with e | e
 ·rw [if_pos e]; split <;> omega
 ·rw [if_pos e]; split <;> omega
theorem jsh (C:Int->Bool):jcy ps (fun n=>if C n = true then 2 else 0) = 2 * wC ps C:=by
 unfold jcy wC
 have:(ps.map fun p=>p.2 * (if C p.1 = true then (2:Int) else 0)).sum = (ps.map fun p=>(if C p.1 = true then p.2 else 0)).sum + (ps.map fun p=>(if C p.1 = true then p.2 else 0)).sum:=by
  rw [<- Fl.sum_add]
  exact Fl.sum_congr fun p _=>by split <;> omega
 rw [this]
 omega
theorem Best.half (b:Best ps ts y) {C:Int->Bool} (h:Tch ts C):jcy ps y <= 2 * wC ps C:=by
 have:=b.m _ (h.cov (ps:=ps))
 rw [jsh] at this
 exact this
def push (y:Int->Int) (C:Int->Bool) (n:Int):Bool:=(C n && !decide (y n = 0)) || decide (y n = 2)
theorem jev (wk:WebOk ps ts):∀ t ∈ ts,∃ p ∈ ps,∃ q ∈ ps,p.1 = t.1/\q.1 = t.2:=fun t ht=>by
 obtain ⟨m1,m2⟩:=jd6 wk t ht
 obtain ⟨p,hp,e1⟩:=List.mem_map.mp m1
 obtain ⟨q,hq,e2⟩:=List.mem_map.mp m2
 exact ⟨p,hp,q,hq,e1,e2⟩
theorem Cov.ends (wk:WebOk ps ts) (c:Cov ps ts y) {t:Int × Int} (ht:t ∈ ts):(0 <= y t.1/\y t.1 <= 2)/\(0 <= y t.2/\y t.2 <= 2)/\2 <= y t.1 + y t.2:=by
 obtain ⟨p,hp,q,hq,e1,e2⟩:=jev wk t ht
 have a:=c.b p hp
 have b:=c.b q hq
 rw [e1] at a
 rw [e2] at b
 exact ⟨a,b,c.t t ht⟩
theorem jrh (wk:WebOk ps ts) (c:Cov ps ts y) {C:Int->Bool} (h:Tch ts C):Tch ts (push y C):=fun t ht=>by
 obtain ⟨a,b,s⟩:=c.ends wk ht
 unfold push
 by_cases a0:y t.1 = 0
 ·right
  have:y t.2 = 2:=by omega
  rw [this]; simp
 ·by_cases b0:y t.2 = 0
  ·left
   have:y t.1 = 2:=by omega
   rw [this]; simp
  ·rcases h t ht with e | e
   ·left; rw [e]; simp [a0]
   ·right; rw [e]; simp [b0]
def bend (y:Int->Int) (C:Int->Bool) (n:Int):Int:=if y n = 2/\C n = false then 1 else if y n = 0/\C n = true then 1 else y n
theorem jsk (wk:WebOk ps ts) (c:Cov ps ts y) {C:Int->Bool} (h:Tch ts C):Cov ps ts (bend y C):=by
 refine ⟨fun p hp=>?_,fun t ht=>?_⟩
 ·have:=c.b p hp
  unfold bend
  split
  ·omega
  ·split <;> omega
 ·obtain ⟨a,b,s⟩:=c.ends wk ht
  have hc:=h t ht
  unfold bend
  by_cases x1:y t.1 = 2/\C t.1 = false
  ·have c2:C t.2 = true:=hc.resolve_left (by rw [x1.2]; simp)
   rw [if_pos x1,if_neg (fun z=>by rw [c2] at z; exact absurd z.2 (by simp))]
   by_cases z:y t.2 = 0
   ·rw [if_pos ⟨z,c2⟩]; decide
   ·rw [if_neg (fun w=>z w.1)]; omega
  ·by_cases x2:y t.2 = 2/\C t.2 = false
   ·have c1:C t.1 = true:=hc.resolve_right (by rw [x2.2]; simp)
    rw [if_neg x1,if_pos x2]
    by_cases z:y t.1 = 0
    ·rw [if_pos ⟨z,c1⟩]; decide
    ·rw [if_neg (fun w=>z w.1)]; omega
   ·rw [if_neg x1,if_neg x2]
    split <;> split <;> omega
theorem jph (wk:WebOk ps ts) (c:Cov ps ts y) (C:Int->Bool):wC ps (push y C) + jcy ps (bend y C) = wC ps C + jcy ps y:=by
 unfold wC jcy
 rw [<- Fl.sum_add,<- Fl.sum_add]
 refine Fl.sum_congr fun p hp=>?_
 have b:=c.b p hp
 unfold push bend
 have yc:y p.1 = 0 \/ y p.1 = 1 \/ y p.1 = 2:=by omega
 rcases yc with e | e | e <;> rw [e] <;> cases C p.1 <;> simp <;> omega
theorem Best.push_le (wk:WebOk ps ts) (b:Best ps ts y) {C:Int->Bool} (h:Tch ts C):wC ps (push y C) <= wC ps C:=by
 have e:=jph wk b.c C
 have:=b.m _ (jsk wk b.c h)
 omega
def jd2 (y:Int->Int) (ps:List (Int × Int)):List (Int × Int):=ps.filter fun p=>decide (y p.1 = 1)
def jdy (y:Int->Int) (ts:List (Int × Int)):List (Int × Int):=ts.filter fun t=>decide (y t.1 = 1) && decide (y t.2 = 1)
theorem jdl (f:Int × Int->Int) (q:Int × Int->Bool):∀ l:List (Int × Int),((l.filter q).map f).sum = (l.map fun p=>if q p = true then f p else 0).sum
 | []=>rfl
 | a :: l=>by
  rw [List.filter_cons,List.map_cons,List.sum_cons,<- jdl f q l]
  cases q a <;> simp
theorem jkv (C:Int->Bool) (hb:∀ p ∈ ps,0 <= y p.1/\y p.1 <= 2):wC ps (push y C) = wC ps (fun n=>decide (y n = 2)) + wC (jd2 y ps) C:=by
 unfold wC jd2
 rw [jdl,<- Fl.sum_add]
 refine Fl.sum_congr fun p hp=>?_
 have b:=hb p hp
 unfold push
 have yc:y p.1 = 0 \/ y p.1 = 1 \/ y p.1 = 2:=by omega
 rcases yc with e | e | e <;> cases C p.1 <;> simp [e]
theorem js4 {C:Int->Bool} (h:Tch ts C):Tch (jdy y ts) C:=fun t ht=>h t (List.mem_filter.mp ht).1
theorem jum (wk:WebOk ps ts) (c:Cov ps ts y) {C:Int->Bool} (h:Tch (jdy y ts) C):Tch ts (push y C):=fun t ht=>by
 obtain ⟨a,b,s⟩:=c.ends wk ht
 unfold push
 by_cases a2:y t.1 = 2
 ·left; rw [a2]; simp
 ·by_cases b2:y t.2 = 2
  ·right; rw [b2]; simp
  ·have a1:y t.1 = 1:=by omega
   have b1:y t.2 = 1:=by omega
   rcases h t (List.mem_filter.mpr ⟨ht,by rw [a1,b1]; rfl⟩) with e | e
   ·left; rw [e,a1]; rfl
   ·right; rw [e,b1]; rfl
theorem jq6 (wk:WebOk ps ts) (b:Best ps ts y):Best (jd2 y ps) (jdy y ts) (fun _=>1):=by
 refine ⟨⟨fun _ _=>by omega,fun _ _=>by omega⟩,fun y' c'=>?_⟩
 have cv:Cov ps ts (fun n=>if y n = 1 then y' n else y n):=by
  refine ⟨fun p hp=>?_,fun t ht=>?_⟩
  ·split
   ·rename_i e
    exact c'.b p (List.mem_filter.mpr ⟨hp,decide_eq_true e⟩)
   ·exact b.c.b p hp
  ·obtain ⟨p,hp,q,hq,e1,e2⟩:=jev wk t ht
   obtain ⟨x,z,s⟩:=b.c.ends wk ht
   by_cases a1:y t.1 = 1
   ·rw [if_pos a1]
    have f1:=c'.b p (List.mem_filter.mpr ⟨hp,decide_eq_true (by rw [e1]; exact a1)⟩)
    rw [e1] at f1
    by_cases b1:y t.2 = 1
    ·rw [if_pos b1]
     exact c'.t t (List.mem_filter.mpr ⟨ht,by rw [a1,b1]; rfl⟩)
    ·rw [if_neg b1]
     omega
   ·rw [if_neg a1]
    by_cases b1:y t.2 = 1
    ·rw [if_pos b1]
     have f2:=c'.b q (List.mem_filter.mpr ⟨hq,decide_eq_true (by rw [e2]; exact b1)⟩)
     rw [e2] at f2
     omega
    ·rw [if_neg b1]
     exact s
 have m:=b.m _ cv
 unfold jcy at m ⊢
 unfold jd2
 rw [jdl,jdl]
 dsimp only at m ⊢
 have e:(ps.map fun p=>p.2 * (if y p.1 = 1 then y' p.1 else y p.1)).sum + (ps.map fun p=>if decide (y p.1 = 1) = true then p.2 * 1 else 0).sum = (ps.map fun p=>p.2 * y p.1).sum + (ps.map fun p=>if decide (y p.1 = 1) = true then p.2 * y' p.1 else 0).sum:=by
  rw [<- Fl.sum_add,<- Fl.sum_add]
  refine Fl.sum_congr fun p _=>?_
  by_cases q:y p.1 = 1
  ·rw [if_pos q,decide_eq_true q,if_pos rfl,if_pos rfl,q]; omega
  ·rw [if_neg q,decide_eq_false q,if_neg (by simp),if_neg (by simp)]
 omega
theorem jq5 {r:List Int} (b:Best ps ts y) (wk:WebOk ps ts) (wk2:WebOk (jd2 y ps) (jdy y ts)) (h:Rst (jd2 y ps) (jdy y ts) r):halT (jd2 y ps) (jdy y ts) r = (jd2 y ps).map fun p=>(p.1,(1:Int)):=by
 rw [jhd wk2]
 refine List.map_congr_left fun p hp=>?_
 have lb:=jq6 wk b
 by_cases q:hfW (jd2 y ps) (jdy y ts) r p.1 = 1
 ·rw [q]
 ·have:=je8 wk2 h lb.c (lb.m _ (jga wk2 h)) p hp q
  exact absurd this.symm q
end
section
variable {ps ts qs us:List (Int × Int)}
structure Far (ps ts qs us:List (Int × Int)):Prop where
 a:WebOk ps ts
 b:WebOk qs us
 ab:WebOk (ps ++ qs) (ts ++ us)
 dis:∀ p ∈ ps,∀ q ∈ qs,p.1 ≠ q.1
theorem jf5 (y:Int->Int):jcy (ps ++ qs) y = jcy ps y + jcy qs y:=by
 unfold jcy
 rw [List.map_append,List.sum_append]
theorem jmk {y:Int->Int}:Cov (ps ++ qs) (ts ++ us) y ↔ Cov ps ts y/\Cov qs us y:=by
 constructor
 ·intro c
  exact ⟨⟨fun p hp=>c.b p (List.mem_append_left _ hp),fun t ht=>c.t t (List.mem_append_left _ ht)⟩,⟨fun p hp=>c.b p (List.mem_append_right _ hp),fun t ht=>c.t t (List.mem_append_right _ ht)⟩⟩
 ·rintro ⟨c,d⟩
  exact ⟨fun p hp=>(List.mem_append.mp hp).elim (c.b p) (d.b p),fun t ht=>(List.mem_append.mp ht).elim (c.t t) (d.t t)⟩
theorem jl4 {y z:Int->Int} (wk:WebOk ps ts) (h:∀ p ∈ ps,y p.1 = z p.1) (c:Cov ps ts y):Cov ps ts z:=by
 refine ⟨fun p hp=>by rw [<- h p hp]; exact c.b p hp,fun t ht=>?_⟩
 obtain ⟨p,hp,q,hq,e1,e2⟩:=jev wk t ht
 have h1:=h p hp
 have h2:=h q hq
 rw [e1] at h1
 rw [e2] at h2
 rw [<- h1,<- h2]
 exact c.t t ht
theorem ji9 {y z:Int->Int} (h:∀ p ∈ ps,y p.1 = z p.1):jcy ps y = jcy ps z:=Fl.sum_congr fun p hp=>by rw [h p hp]
def mixY (ps:List (Int × Int)) (y z:Int->Int) (n:Int):Int:=if n ∈ ps.map (·.1) then y n else z n
theorem jui (y z:Int->Int):∀ p ∈ ps,y p.1 = mixY ps y z p.1:=fun p hp=>(if_pos (List.mem_map.mpr ⟨p,hp,rfl⟩)).symm
theorem juh (F:Far ps ts qs us) (y z:Int->Int):∀ p ∈ qs,z p.1 = mixY ps y z p.1:=fun q hq=>(if_neg fun m=>by
 obtain ⟨p,hp,e⟩:=List.mem_map.mp m
 exact F.dis p hp q hq e).symm
theorem jm4 (F:Far ps ts qs us) {y z:Int->Int} (c:Cov ps ts y) (d:Cov qs us z):Cov (ps ++ qs) (ts ++ us) (mixY ps y z):=jmk.mpr ⟨jl4 F.a (jui y z) c,jl4 F.b (juh F y z) d⟩
theorem jja (F:Far ps ts qs us) (y z:Int->Int):jcy (ps ++ qs) (mixY ps y z) = jcy ps y + jcy qs z:=by
 rw [jf5,<- ji9 (jui y z),<- ji9 (juh F y z)]
theorem jsj (F:Far ps ts qs us) {y:Int->Int} (b:Best (ps ++ qs) (ts ++ us) y):Best ps ts y/\Best qs us y:=by
 obtain ⟨c,d⟩:=jmk.mp b.c
 refine ⟨⟨c,fun y' c'=>?_⟩,⟨d,fun y' d'=>?_⟩⟩
 ·have:=b.m _ (jm4 F c' d)
  rw [jja F,jf5] at this
  omega
 ·have:=b.m _ (jm4 F c d')
  rw [jja F,jf5] at this
  omega
theorem js1 (F:Far ps ts qs us) {y z:Int->Int} (b:Best ps ts y) (d:Best qs us z):Best (ps ++ qs) (ts ++ us) (mixY ps y z):=by
 refine ⟨jm4 F b.c d.c,fun y' c'=>?_⟩
 obtain ⟨c1,c2⟩:=jmk.mp c'
 rw [jja F,jf5]
 have:=b.m _ c1
 have:=d.m _ c2
 omega
theorem jr6 (F:Far ps ts qs us) {r1 r2 r3:List Int} (h1:Rst ps ts r1) (h2:Rst qs us r2) (h3:Rst (ps ++ qs) (ts ++ us) r3):halT (ps ++ qs) (ts ++ us) r3 = halT ps ts r1 ++ halT qs us r2:=by
 have B3:=jf7 F.ab h3
 obtain ⟨x1,x2⟩:=jsj F B3
 have mb:=js1 F (jf7 F.a h1) (jf7 F.b h2)
 have up:=je8 F.ab h3 mb.c (mb.m _ B3.c)
 have f1:=je8 F.a h1 x1.c (x1.m _ (jga F.a h1))
 have f2:=je8 F.b h2 x2.c (x2.m _ (jga F.b h2))
 rw [jhd F.ab,jhd F.a,jhd F.b,List.map_append]
 congr 1
 ·refine List.map_congr_left fun p hp=>?_
  have e:=jui (ps:=ps) (hfW ps ts r1) (hfW qs us r2) p hp
  have u:=up p (List.mem_append_left _ hp)
  rw [<- e] at u
  by_cases c1:hfW ps ts r1 p.1 = 1
  ·by_cases c3:hfW (ps ++ qs) (ts ++ us) r3 p.1 = 1
   ·rw [c1,c3]
   ·rw [u c3]
  ·rw [f1 p hp c1]
 ·refine List.map_congr_left fun p hp=>?_
  have e:=juh F (hfW ps ts r1) (hfW qs us r2) p hp
  have u:=up p (List.mem_append_right _ hp)
  rw [<- e] at u
  by_cases c1:hfW qs us r2 p.1 = 1
  ·by_cases c3:hfW (ps ++ qs) (ts ++ us) r3 p.1 = 1
   ·rw [c1,c3]
   ·rw [u c3]
  ·rw [f2 p hp c1]
end
theorem jpp {ns:List Int} (nd:ns.Nodup) (y:Int->Int):∀ {ds:List (Int × Int × Int)},(∀ d ∈ ds,d.1 ∈ ns/\d.2.1 ∈ ns)->(ns.map fun n=>y n * jbx ds n).sum = (ds.map fun d=>d.2.2 * (y d.1 + y d.2.1)).sum
 | [],_=>by
  show (ns.map fun p=>y p * 0).sum = 0
  rw [Fl.sum_congr (g:=fun _=>0) fun p _=>Int.mul_zero _,Fl.sum_zero]
 | d :: ds,h=>by
  have hd:=h d (List.mem_cons_self ..)
  have e:∀ n ∈ ns,y n * jbx (d :: ds) n = (y n * Fl.pick d.1 n d.2.2 + y n * Fl.pick d.2.1 n d.2.2) + y n * jbx ds n:=fun n _=>by
   unfold jbx Fl.pick
   rw [List.map_cons,List.sum_cons,Int.mul_add,Int.mul_add]
  rw [Fl.sum_congr e,Fl.sum_add,Fl.sum_add,Fl.sum_one y _ _ nd hd.1,Fl.sum_one y _ _ nd hd.2,jpp nd y fun z hz=>h z (List.mem_cons_of_mem _ hz),List.map_cons,List.sum_cons,Int.mul_add,Int.mul_comm (y d.1),Int.mul_comm (y d.2.1)]
theorem jlj {α:Type} {f g:α->Int}:∀ {l:List α},(∀ p ∈ l,f p <= g p)->(l.map f).sum <= (l.map g).sum
 | [],_=>Int.le_refl _
 | a :: l,h=>by
  have:=jlj (l:=l) fun p hp=>h p (List.mem_cons_of_mem _ hp)
  have:=h a (List.mem_cons_self ..)
  rw [List.map_cons,List.map_cons,List.sum_cons,List.sum_cons]
  omega
theorem jto {α:Type} (f:α->Int) (l:List α):(l.map fun p=>2 * f p).sum = 2 * (l.map f).sum:=by
 have e:(l.map fun p=>2 * f p).sum = (l.map fun p=>f p + f p).sum:=Fl.sum_congr fun p _=>by omega
 rw [e,Fl.sum_add]
 omega
theorem jjr {ps ts:List (Int × Int)} {hs:List (Int × Int)} {ds:List (Int × Int × Int)} (wk:WebOk ps ts) (h:jpq ps ts (.tup [.lst (hs.map jee),.lst (ds.map jgg)]) = true):hs.map (·.1) = ps.map (·.1)/\Best ps ts (hOf hs):=by
 rw [jhy] at h
 unfold pap2 at h
 dsimp only at h
 cases e1:halO ps (hs.map jee) with
 | none=>rw [e1] at h; cases h
 | some hs' =>
  cases e2:jjm ts (-1,-1) (ds.map jgg) with
  | none=>rw [e1,e2] at h; cases h
  | some ds' =>
   rw [e1,e2] at h
   dsimp only at h
   obtain ⟨f1,f2,f3⟩:=jf3 e1
   obtain ⟨g1,g2⟩:=ji8 e2
   have ej:hs' = hs:=by
    have:=List.map_inj_right (f:=jee) (fun a b q=>by cases a; cases b; simp only [jee] at q; cases q; rfl) |>.mp f1
    exact this.symm
   have ek:ds' = ds:=by
    have:=List.map_inj_right (f:=jgg) (fun a b q=>by obtain ⟨a1,a2,a3⟩:=a; obtain ⟨b1,b2,b3⟩:=b; simp only [jgg] at q; cases q; rfl) |>.mp g1
    exact this.symm
   subst ej
   subst ek
   have h1:=(Bool.and_eq_true _ _).mp h
   have h2:=(Bool.and_eq_true _ _).mp h1.2
   have w:=of_decide_eq_true h2.2
   have nd:(hs'.map (·.1)).Nodup:=by rw [f2]; exact wk.p.nodup
   have hof:∀ q ∈ hs',hOf hs' q.1 = q.2:=fun q hq=>jnj nd hq
   have c:Cov ps ts (hOf hs'):=by
    refine ⟨fun p hp=>?_,fun t ht=>?_⟩
    ·have:p.1 ∈ hs'.map (·.1):=by rw [f2]; exact List.mem_map.mpr ⟨p,hp,rfl⟩
     obtain ⟨q,hq,e⟩:=List.mem_map.mp this
     rw [<- e,hof q hq]
     exact f3 q hq
    ·have:=of_decide_eq_true (List.all_eq_true.mp h1.1 t ht)
     omega
   have cost:jqv ps hs' = jcy ps (hOf hs'):=by
    have e3:jqv ps hs' = ((hs'.map (·.1)).map fun n=>hOf ps n * hOf hs' n).sum:=by
     rw [List.map_map]
     exact Fl.sum_congr fun q hq=>by show _ = hOf ps q.1 * hOf hs' q.1; rw [hof q hq]
    rw [e3,f2,jgj wk]
    rfl
   refine ⟨f2,c,fun y' c'=>?_⟩
   have ein:∀ d ∈ ds',d.1 ∈ ps.map (·.1)/\d.2.1 ∈ ps.map (·.1):=fun d hd=>jd6 wk _ (g2 d hd).1
   have p1:=jpp wk.p.nodup y' ein
   have p2:(ds'.map fun d=>2 * d.2.2).sum <= (ds'.map fun d=>d.2.2 * (y' d.1 + y' d.2.1)).sum:=jlj fun d hd=>by
    have a:=(g2 d hd).2
    have b:=c'.t _ (g2 d hd).1
    dsimp only at b
    have:=Int.mul_le_mul_of_nonneg_left b (show 0 <= d.2.2 by omega)
    omega
   have p3:((ps.map (·.1)).map fun n=>y' n * jbx ds' n).sum <= (ps.map fun p=>2 * (p.2 * y' p.1)).sum:=by
    rw [List.map_map]
    refine jlj fun p hp=>?_
    have a:=(c'.b p hp).1
    have b:=of_decide_eq_true (List.all_eq_true.mp h2.1 p hp)
    have:=Int.mul_le_mul_of_nonneg_left b a
    show y' p.1 * jbx ds' p.1 <= 2 * (p.2 * y' p.1)
    have e:y' p.1 * (2 * p.2) = 2 * (p.2 * y' p.1):=by rw [Int.mul_left_comm,Int.mul_comm (y' p.1)]
    omega
   rw [jto] at p2 p3
   have q3:(ps.map fun p=>p.2 * y' p.1).sum = jcy ps y':=rfl
   rw [q3] at p3
   omega
def jfy (ts:List (Int × Int)) (n:Int):List Int:=(ts.filter fun t=>decide (t.2 = n)).map (·.1)
def lack (m s:List Int):List Int:=m.filter fun x=>!decide (x ∈ s)
def jh4 (ts:List (Int × Int)) (n:Int) (s:List Int):List (List Int):=if lack (jfy ts n) s = [] then [s ++ [n],s] else [s ++ [n]]
def jep (ts:List (Int × Int)) (n:Int) (rs:List (List Int)):List (List Int):=rs.flatMap (jh4 ts n)
def jdn (ts:List (Int × Int)):List Int->List (List Int):=fun ns=>ns.foldl (fun rs n=>jep ts n rs) [[]]
theorem je9 (ts:List (Int × Int)) (ns:List Int) (n:Int):jdn ts (ns ++ [n]) = jep ts n (jdn ts ns):=by
 unfold jdn
 rw [List.foldl_append]
 rfl
theorem jhe (ts:List (Int × Int)) (n:Int):∀ rs:List (List Int),(jep ts n rs).length <= 2 * rs.length/\rs.length <= (jep ts n rs).length
 | []=>⟨Nat.le_refl _,Nat.le_refl _⟩
 | s :: rs=>by
  have:=jhe ts n rs
  unfold jep at this ⊢
  rw [List.flatMap_cons,List.length_append,List.length_cons]
  unfold jh4 at this ⊢
  split <;> simp only [List.length_cons,List.length_nil] <;> omega
theorem jes (ts:List (Int × Int)) (ns:List Int):∀ k,(jdn ts (ns.take k)).length <= 2 ^ k/\1 <= (jdn ts (ns.take k)).length
 | 0=>by rw [List.take_zero]; exact ⟨Nat.le_refl _,Nat.le_refl _⟩
 | k + 1=>by
  have ih:=jes ts ns k
  by_cases c:k < ns.length
  ·rw [List.take_succ_eq_append_getElem c,je9]
   have:=jhe ts ns[k] (jdn ts (ns.take k))
   rw [Nat.pow_succ]
   omega
  ·rw [List.take_of_length_le (by omega)]
   rw [List.take_of_length_le (by omega)] at ih
   rw [Nat.pow_succ]
   omega
theorem jjd {m s:List Int}:lack m s = [] ↔ ∀ x ∈ m,x ∈ s:=by
 unfold lack
 rw [List.filter_eq_nil_iff]
 constructor
 ·intro h x hx
  have:=h x hx
  simpa using this
 ·intro h x hx
  simpa using h x hx
theorem jp8 {α:Type} {P:List α->Prop} (h0:P []) (h1:∀ l a,P l->P (l ++ [a])) (l:List α):P l:=by
 have h:∀ l:List α,P l.reverse:=fun l=>by
  induction l with
  | nil=>exact h0
  | cons a l ih=>rw [List.reverse_cons]; exact h1 _ _ ih
 have:=h l.reverse
 rwa [List.reverse_reverse] at this
theorem jp4 {ts:List (Int × Int)}:∀ {ns:List Int},ns.Pairwise (· < ·)->(∀ t ∈ ts,t.2 ∈ ns->t.1 ∈ ns/\t.1 < t.2)->∀ s:List Int,s ∈ jdn ts ns ↔ ∃ C:Int->Bool,s = ns.filter C/\∀ t ∈ ts,t.2 ∈ ns->C t.1 = true \/ C t.2 = true:=by
 intro ns
 refine jp8 (P:=fun ns=>ns.Pairwise (· < ·)->(∀ t ∈ ts,t.2 ∈ ns->t.1 ∈ ns/\t.1 < t.2)->∀ s:List Int,s ∈ jdn ts ns ↔ ∃ C:Int->Bool,s = ns.filter C/\∀ t ∈ ts,t.2 ∈ ns->C t.1 = true \/ C t.2 = true) ?_ (fun ns n ih=>?_) ns
 ·intro _ _ s
  constructor
  ·intro h
   exact ⟨fun _=>true,by simpa [jdn] using h,fun t _ z=>by cases z⟩
  ·rintro ⟨C,rfl,_⟩
   simp [jdn]
 ·intro hp ht s
  obtain ⟨hp1,_,hp2⟩:=List.pairwise_append.mp hp
  have lt:∀ x ∈ ns,x < n:=fun x hx=>hp2 x hx n (List.mem_singleton.mpr rfl)
  have nn:n ∉ ns:=fun z=>by have:=lt n z; omega
  have ht1:∀ t ∈ ts,t.2 ∈ ns->t.1 ∈ ns/\t.1 < t.2:=fun t h z=>by
   have:=ht t h (List.mem_append_left _ z)
   refine ⟨?_,this.2⟩
   rcases List.mem_append.mp this.1 with q | q
   ·exact q
   ·have:=lt _ z
    have e:=List.mem_singleton.mp q
    omega
  have htn:∀ t ∈ ts,t.2 = n->t.1 ∈ ns:=fun t h z=>by
   have:=ht t h (List.mem_append_right _ (by rw [z]; exact List.mem_singleton.mpr rfl))
   rcases List.mem_append.mp this.1 with q | q
   ·exact q
   ·have e:=List.mem_singleton.mp q
    omega
  have ih:=ih hp1 ht1
  rw [je9]
  unfold jep
  rw [List.mem_flatMap]
  constructor
  ·rintro ⟨s0,hs0,hm⟩
   obtain ⟨C,rfl,hC⟩:=(ih s0).mp hs0
   have key:s = ns.filter C ++ [n] \/ (s = ns.filter C/\∀ x ∈ jfy ts n,x ∈ ns.filter C):=by
    unfold jh4 at hm
    split at hm
    ·rename_i hl
     simp only [List.mem_cons,List.not_mem_nil,or_false] at hm
     exact hm.imp id fun q=>⟨q,jjd.mp hl⟩
    ·simp only [List.mem_cons,List.not_mem_nil,or_false] at hm
     exact .inl hm
   rcases key with rfl | ⟨rfl,hx⟩
   ·refine ⟨fun x=>decide (x = n) || C x,?_,fun t h z=>?_⟩
    ·rw [List.filter_append]
     congr 1
     ·refine List.filter_congr fun x hx=>?_
      have:=lt x hx
      rw [decide_eq_false (show ¬ x = n by omega),Bool.false_or]
     ·simp
    ·rcases List.mem_append.mp z with z | z
     ·rcases hC t h z with q | q
      ·left; simp [q]
      ·right; simp [q]
     ·right
      simp [List.mem_singleton.mp z]
   ·refine ⟨fun x=>!decide (x = n) && C x,?_,fun t h z=>?_⟩
    ·rw [List.filter_append]
     have:[n].filter (fun x=>!decide (x = n) && C x) = []:=by simp
     rw [this,List.append_nil]
     refine List.filter_congr fun x hx=>?_
     have:=lt x hx
     rw [decide_eq_false (show ¬ x = n by omega)]
     rfl
    ·rcases List.mem_append.mp z with z | z
     ·have l2:=lt _ z
      have l1:=lt _ (ht1 t h z).1
      rcases hC t h z with q | q
      ·left; simp [q]; omega
      ·right; simp [q]; omega
     ·have e:=List.mem_singleton.mp z
      have l1:=lt _ (htn t h e)
      left
      have:=hx t.1 (List.mem_map.mpr ⟨t,List.mem_filter.mpr ⟨h,decide_eq_true e⟩,rfl⟩)
      have:=(List.mem_filter.mp this).2
      simp [this]; omega
  ·rintro ⟨C,rfl,hC⟩
   refine ⟨ns.filter C,(ih _).mpr ⟨C,rfl,fun t h z=>hC t h (List.mem_append_left _ z)⟩,?_⟩
   rw [List.filter_append]
   unfold jh4
   by_cases c:C n = true
   ·have:[n].filter C = [n]:=by simp [c]
    rw [this]
    split <;> exact List.mem_cons_self ..
   ·have e0:[n].filter C = []:=by simp [c]
    rw [e0,List.append_nil,if_pos]
    ·exact List.mem_cons_of_mem _ (List.mem_cons_self ..)
    ·refine jjd.mpr fun x hx=>?_
     obtain ⟨t,ht2,rfl⟩:=List.mem_map.mp hx
     obtain ⟨h1,h2⟩:=List.mem_filter.mp ht2
     have e:=of_decide_eq_true h2
     have:=hC t h1 (List.mem_append_right _ (by rw [e]; exact List.mem_singleton.mpr rfl))
     rw [e] at this
     exact List.mem_filter.mpr ⟨htn t h1 e,this.resolve_right c⟩
def je6 (ps:List (Int × Int)) (ss:List Int):Int:=((ps.filter fun p=>decide (p.1 ∈ ss)).map (·.2)).sum
theorem jqu (ps:List (Int × Int)) (ss:List Int):je6 ps ss = wC ps fun n=>decide (n ∈ ss):=by
 unfold je6 wC
 rw [jdl]
theorem PlOk.pw:∀ {ps:List (Int × Int)} {l s:Int},PlOk l s ps->(ps.map (·.1)).Pairwise (· < ·)
 | [],_,_,_=>.nil
 | q :: r,l,s,h=>by
  rw [List.map_cons,List.pairwise_cons]
  refine ⟨fun x hx=>?_,PlOk.pw h.2⟩
  obtain ⟨p,hp,rfl⟩:=List.mem_map.mp hx
  exact PlOk.gt h.2 p hp
section
variable {ps ts:List (Int × Int)}
def jd8 (ps ts:List (Int × Int)):List (List Int):=jdn ts (ps.map (·.1))
theorem jgn (wk:WebOk ps ts) {s:List Int}:s ∈ jd8 ps ts ↔ ∃ C,s = jnv ps C/\Tch ts C:=by
 unfold jd8 jnv Tch
 rw [jp4 wk.p.pw fun t ht _=>⟨(jd6 wk t ht).1,(TiOk.in wk.t t ht).1⟩]
 constructor
 ·rintro ⟨C,e,h⟩
  exact ⟨C,e,fun t ht=>h t ht (jd6 wk t ht).2⟩
 ·rintro ⟨C,e,h⟩
  exact ⟨C,e,fun t ht _=>h t ht⟩
theorem jjo (C:Int->Bool):je6 ps (jnv ps C) = wC ps C:=by
 rw [jqu]
 unfold wC jnv
 refine Fl.sum_congr fun p hp=>?_
 have:(p.1 ∈ (ps.map (·.1)).filter C) ↔ C p.1 = true:=by
  rw [List.mem_filter]
  exact ⟨fun h=>h.2,fun h=>⟨List.mem_map.mpr ⟨p,hp,rfl⟩,h⟩⟩
 by_cases c:C p.1 = true
 ·rw [if_pos (decide_eq_true (this.mpr c)),if_pos c]
 ·rw [if_neg (fun z=>c (this.mp (of_decide_eq_true z))),if_neg c]
def jm8 (l:List Int) (m:Int):Prop:=m ∈ l/\∀ x ∈ l,m <= x
theorem jnd (wk:WebOk ps ts) {m:Int} (h:jm8 ((jd8 ps ts).map (je6 ps)) m):(∃ C,Tch ts C/\wC ps C = m)/\∀ C,Tch ts C->m <= wC ps C:=by
 obtain ⟨s,hs,e⟩:=List.mem_map.mp h.1
 obtain ⟨C,rfl,t⟩:=(jgn wk).mp hs
 rw [jjo] at e
 refine ⟨⟨C,t,e⟩,fun D hD=>?_⟩
 have:=h.2 _ (List.mem_map.mpr ⟨jnv ps D,(jgn wk).mpr ⟨D,rfl,hD⟩,rfl⟩)
 rw [jjo] at this
 exact this
theorem PlOk.sub (q:Int × Int->Bool):∀ {ps:List (Int × Int)} {l s l' s':Int},PlOk l s ps->l' <= l->s' <= s->PlOk l' s' (ps.filter q)
 | [],_,_,_,_,_,_,_=>trivial
 | p :: r,l,s,l',s',h,h1,h2=>by
  obtain ⟨⟨a1,a2,a3,a4⟩,h3⟩:=h
  rw [List.filter_cons]
  split
  ·exact ⟨⟨by omega,a2,a3,by omega⟩,PlOk.sub q h3 (Int.le_refl _) (by omega)⟩
  ·exact PlOk.sub q h3 (by omega) (by omega)
theorem jjc (y:Int->Int) (wk:WebOk ps ts):WebOk (jd2 y ps) (jdy y ts):=by
 have pk:PlOk (-1) 0 (jd2 y ps):=PlOk.sub _ wk.p (Int.le_refl _) (Int.le_refl _)
 have l1:=List.length_filter_le (fun p:Int × Int=>decide (y p.1 = 1)) ps
 have l2:=List.length_filter_le (fun t:Int × Int=>decide (y t.1 = 1) && decide (y t.2 = 1)) ts
 refine ⟨Nat.le_trans l1 wk.pl,pk,Nat.le_trans l2 wk.tl,jgh ((jik wk.t).filter _) (fun t ht=>TiOk.lt wk.t t (List.mem_filter.mp ht).1) fun t ht=>?_⟩
 obtain ⟨h1,h2⟩:=List.mem_filter.mp ht
 have c:=(Bool.and_eq_true _ _).mp h2
 obtain ⟨p,hp,q,hq,e1,e2⟩:=jev wk t h1
 refine ⟨(TiOk.in wk.t t h1).1,?_,?_⟩
 ·rw [<- e1] at c ⊢
  exact jfl pk.nodup (List.mem_filter.mpr ⟨hp,c.1⟩)
 ·rw [<- e2] at c ⊢
  exact jfl pk.nodup (List.mem_filter.mpr ⟨hq,c.2⟩)
def twos (hs:List (Int × Int)) (k:Int):List Int:=(hs.filter fun h=>decide (h.2 = k)).map (·.1)
theorem jg1 {hs:List (Int × Int)} {y:Int->Int} (e:hs = ps.map fun p=>(p.1,y p.1)) {k n:Int}:n ∈ twos hs k ↔ n ∈ ps.map (·.1)/\y n = k:=by
 subst e
 unfold twos
 rw [List.mem_map]
 constructor
 ·rintro ⟨h,hh,rfl⟩
  obtain ⟨h1,h2⟩:=List.mem_filter.mp hh
  obtain ⟨p,hp,rfl⟩:=List.mem_map.mp h1
  exact ⟨List.mem_map.mpr ⟨p,hp,rfl⟩,of_decide_eq_true h2⟩
 ·rintro ⟨h1,h2⟩
  obtain ⟨p,hp,rfl⟩:=List.mem_map.mp h1
  exact ⟨(p.1,y p.1),List.mem_filter.mpr ⟨List.mem_map.mpr ⟨p,hp,rfl⟩,decide_eq_true h2⟩,rfl⟩
def kin (m s:List Int):List Int:=m.filter fun x=>decide (x ∈ s)
def jte (ps:List (Int × Int)) (m:Int) (hs:List (Int × Int)) (s:List Int):Prop:=je6 ps s = m/\lack (twos hs 2) s = []
theorem jln (wk:WebOk ps ts) {y:Int->Int} (b:Best ps ts y) {hs:List (Int × Int)} (e:hs = ps.map fun p=>(p.1,y p.1)) {m:Int} (h:jm8 ((jd8 ps ts).map (je6 ps)) m):∃ s ∈ jd8 ps ts,jte ps m hs s/\kin (twos hs 0) s = []:=by
 obtain ⟨⟨C,t,ec⟩,least⟩:=jnd wk h
 have tp:=jrh wk b.c t
 have le:=b.push_le wk t
 have ge:=least _ tp
 refine ⟨jnv ps (push y C),(jgn wk).mpr ⟨_,rfl,tp⟩,⟨by rw [jjo]; omega,jjd.mpr fun x hx=>?_⟩,?_⟩
 ·obtain ⟨x1,x2⟩:=(jg1 e).mp hx
  refine List.mem_filter.mpr ⟨x1,?_⟩
  unfold push
  rw [x2]; simp
 ·unfold kin
  rw [List.filter_eq_nil_iff]
  intro x hx z
  obtain ⟨x1,x2⟩:=(jg1 e).mp hx
  have:=(List.mem_filter.mp (of_decide_eq_true z)).2
  unfold push at this
  rw [x2] at this
  simp at this
theorem jnx (wk:WebOk ps ts) {y:Int->Int} (b:Best ps ts y) {hs:List (Int × Int)} (e:hs = ps.map fun p=>(p.1,y p.1)) {m m2:Int} (h:jm8 ((jd8 ps ts).map (je6 ps)) m) (h2:jm8 ((jd8 (jd2 y ps) (jdy y ts)).map (je6 (jd2 y ps))) m2):m = je6 ps (twos hs 2) + m2:=by
 obtain ⟨⟨C,t,ec⟩,least⟩:=jnd wk h
 obtain ⟨⟨D,u,ed⟩,least2⟩:=jnd (jjc y wk) h2
 have e2:je6 ps (twos hs 2) = wC ps (fun n=>decide (y n = 2)):=by
  rw [jqu]
  unfold wC
  refine Fl.sum_congr fun p hp=>?_
  have:p.1 ∈ twos hs 2 ↔ y p.1 = 2:=by
   rw [jg1 e]
   exact ⟨fun z=>z.2,fun z=>⟨List.mem_map.mpr ⟨p,hp,rfl⟩,z⟩⟩
  by_cases c:y p.1 = 2
  ·rw [if_pos (decide_eq_true (this.mpr c)),if_pos (decide_eq_true c)]
  ·rw [if_neg (fun z=>c (this.mp (of_decide_eq_true z))),if_neg (fun z=>c (of_decide_eq_true z))]
 have a1:=b.push_le wk t
 have a2:=jkv (ps:=ps) C b.c.b
 have a3:=least2 C (js4 t)
 have b1:=least _ (jum wk b.c u)
 have b2:=jkv (ps:=ps) D b.c.b
 omega
theorem jnw (wk:WebOk ps ts) {y:Int->Int} (b:Best ps ts y) {m:Int} (h:jm8 ((jd8 ps ts).map (je6 ps)) m):jcy ps y <= 2 * m:=by
 obtain ⟨⟨C,t,ec⟩,_⟩:=jnd wk h
 rw [<- ec]
 exact b.half t
end
def LsR (H:Hp) (v:V) (row:List Int):Prop:=∃ a,v = .ref a/\H a = some (.lst (row.map V.int))
abbrev LsRs (H:Hp):List V->List (List Int)->Prop:=Paired (LsR H)
theorem LsR.same {H H':Hp} (s:Same H H') {v:V} {row:List Int} (h:LsR H v row):LsR H' v row:=by
 obtain ⟨a,e,q⟩:=h
 exact ⟨a,e,s _ _ q⟩
theorem LsRs.same {H H':Hp} (s:Same H H') {xs:List V} {rs:List (List Int)} (h:LsRs H xs rs):LsRs H' xs rs:=Paired.imp' (fun _ _ q=>q.same s) h
def LsN (ls:List Addr) (H:Hp) (v:V) (row:List Int):Prop:=∃ a,v = .ref a/\a ∉ ls/\H a = some (.lst (row.map V.int))
theorem LsN.to {l:List Addr} {H:Hp} {xs:List V} {rs:List (List Int)} (h:Paired (LsN l H) xs rs):LsRs H xs rs:=Paired.imp' (fun _ _ ⟨a,e,_,q⟩=>⟨a,e,q⟩) h
theorem LsN.of {l:List Addr} {p:Addr} (hp:p ∈ l) {H:Hp} {o:HO} {xs:List V} {rs:List (List Int)} (h:Paired (LsN l H) xs rs):Paired (LsN l (upd H p o)) xs rs:=Paired.imp' (fun _ _ ⟨a,e,n,q⟩=>⟨a,e,n,by rw [jb7 (fun z:a = p=>n (by rw [z]; exact hp))]; exact q⟩) h
theorem LsN.same {l:List Addr} {H H':Hp} (s:Same H H') {xs:List V} {rs:List (List Int)} (h:Paired (LsN l H) xs rs):Paired (LsN l H') xs rs:=Paired.imp' (fun _ _ ⟨a,e,n,q⟩=>⟨a,e,n,s _ _ q⟩) h
theorem flat_ints:∀ (gs:List Int),(gs.map V.int).all jdk = true
 | []=>rfl
 | g :: r=>by rw [List.map_cons,List.all_cons,flat_ints r]; rfl
theorem jiv {H:Hp} {a:Addr} {ns:List Int} (e:H a = some (.lst (ns.map V.int))):Rep H (.lst (ns.map Dt.int)) (.ref a):=by
 rw [Rep]
 refine ⟨a,_,rfl,e,?_⟩
 clear e
 induction ns with
 | nil=>rw [List.map_nil,Reps]; rfl
 | cons n r ih=>rw [List.map_cons,Reps]; exact ⟨_,_,rfl,by rw [Rep],ih⟩
theorem jlo {H:Hp} {a:Addr} (e:H a = some (.lst [])):Rep H (.lst []) (.ref a):=by
 rw [Rep]
 exact ⟨a,[],rfl,e,by rw [Reps]⟩
theorem jjl (ns:List Int):eqP (.lst (ns.map Dt.int)) (.lst []) = decide (ns = []):=by
 cases ns <;> rfl
theorem jnn:∀ (ns:List Int),jdw (ns.map Dt.int) = 0
 | []=>rfl
 | n :: r=>by simp [jdw,depP,jnn r]
theorem jhh (ns:List Int):depP (.lst (ns.map Dt.int)) <= 20:=by rw [depP,jnn]; decide
theorem szb {n:Nat} (h:n <= 5000):n < sizeLine:=Nat.lt_of_le_of_lt h (by decide)
theorem jmc {ns:List Int} {i:Nat} {v:V} (h:(ns.map V.int)[i]? = some v):∃ n,ns[i]? = some n/\v = .int n:=by
 rw [List.getElem?_map] at h
 obtain ⟨n,hn,e⟩:=Option.map_eq_some_iff.mp h
 exact ⟨n,hn,e.symm⟩
theorem jc1 {α:Type} {f:α->Bool} {l:List α} {i:Nat} {x:α} (h:l[i]? = some x):(l.take (i + 1)).filter f = (l.take i).filter f ++ (if f x = true then [x] else []):=by
 rw [jbr h,List.filter_append,List.filter_cons,List.filter_nil]
def jsv:Sp:=fun vs H Q _=>∃ v sa ps ts ss,vs = [v,.ref sa]/\jd3 H v ps ts/\ps.length <= 900/\H sa = some (.lst (ss.map V.int))/\∀ H',Same H H'->Q (.int (je6 ps ss)) H'
def jsq:Sp:=fun vs H Q _=>∃ v ps ts,vs = [v]/\jd3 H v ps ts/\WebOk ps ts/\ps.length <= 9/\∀ l zs H',Same H H'->H' l = some (.lst zs)->LsRs H' zs (jd8 ps ts)->Q (.ref l) H'
theorem jkg {ps ts:List (Int × Int)} (h:ps.length <= 9):(jd8 ps ts).length <= 512:=by
 have:=(jes ts (ps.map (·.1)) ps.length).1
 rw [List.take_of_length_le (by rw [List.length_map]; omega)] at this
 exact Nat.le_trans this (Nat.pow_le_pow_right (by decide) h:2 ^ ps.length <= 2 ^ 9)
theorem pow9 {i n:Nat} (hi:i <= 9) (h:n <= 2 ^ i):n <= 512:=Nat.le_trans h (Nat.pow_le_pow_right (by decide) hi:2 ^ i <= 2 ^ 9)
theorem jor {ts:List (Int × Int)} {n:Int} {rs:List (List Int)} {i:Nat} {s:List Int} (h:rs[i]? = some s):jep ts n (rs.take (i + 1)) = jep ts n (rs.take i) ++ jh4 ts n s:=by
 unfold jep
 rw [jbr h,List.flatMap_append,List.flatMap_cons,List.flatMap_nil,List.append_nil]
theorem jnt {ts:List (Int × Int)}:∀ {ns:List Int} {s:List Int},s ∈ jdn ts ns->s.length <= ns.length:=by
 intro ns
 refine jp8 (P:=fun ns=>∀ {s:List Int},s ∈ jdn ts ns->s.length <= ns.length) ?_ (fun ns n ih=>?_) ns
 ·intro s h; rw [show jdn ts [] = [[]] from rfl,List.mem_singleton] at h; rw [h]; exact Nat.le_refl _
 ·intro s h
  rw [je9] at h
  unfold jep at h
  obtain ⟨s0,h0,h1⟩:=List.mem_flatMap.mp h
  have:=ih h0
  rw [List.length_append]
  unfold jh4 at h1
  have:s = s0 ++ [n] \/ s = s0:=by
   split at h1 <;> simp only [List.mem_cons,List.not_mem_nil,or_false] at h1
   ·exact h1
   ·exact .inl h1
  rcases this with rfl | rfl
  ·rw [List.length_append]; simp only [List.length_cons,List.length_nil]; omega
  ·simp only [List.length_cons,List.length_nil]; omega
theorem LsN.snoc {l:List Addr} {H:Hp} {xs:List V} {rs:List (List Int)} (h:Paired (LsN l H) xs rs) {a:Addr} {s:List Int} (ha:H a = some (.lst (s.map V.int))) (hn:a ∉ l):Paired (LsN l H) (xs ++ [.ref a]) (rs ++ [s]):=jbk h ⟨a,rfl,hn,ha⟩
theorem jlx (B:Blt mg) (D:DefAt K mg "_law_cost" (top 40) ["_law_web_here","_law_some"] f fd):FnOk P w K mg base CX0 1 f fd ["_law_web_here","_law_some"] jsv:=by
 have sc:FnScope ["_law_web_here","_law_some"] ["_law_web_here","_law_some"] (jbe (top 40)):=by walk_at "SC"
 refine D.F.ok sc (fun vs H Q E h=>?_) (fun cdv A outer s H vs Q E hr h=>?_)
 ·obtain ⟨v,u,ps,ts,ss,rfl,_⟩:=h
  rfl
 obtain ⟨v,sa,ps,ts,ss,rfl,hw,hl9,es,h⟩:=h
 obtain ⟨x,pa,ta,xs,ys,rfl,ex,ep,et,pp,pt⟩:=id hw
 have hlx:xs.length = ps.length:=Paired.length pp
 have hu:=jcc hr
 have hu0:_ < PySem.cLine:=Nat.lt_of_succ_lt hu
 refine ⟨_,(jb8 (jbu (jbp (jtx rfl) rfl B.sum PyProof.Rows.boot_sum (ja0 (jc7 (CpScope.of (N:=["_law_place","_law_price","_law_some"]) (src:=[none,none,some 1]) (by rfl)) rfl (jbt (jbj q_ix (qv 0) jai (fun _ _=>rfl))) (fun _ _ _ _=>(jci (n:=2) rfl (jbb (jb9 (i:=0) (jba (l:=["_law_place","_law_price","_law_some"]) (by rfl)) rfl (Or.inl rfl)) (jbb (jb9 (i:=1) (jba (l:=["_law_place","_law_price","_law_some"]) (by rfl)) rfl (Or.inl rfl)) jbw)))) (fun _ _ _ _=>(jcs (jc0 jlp (qv 0) (qv 2) (by with_unfolding_all rfl)))) (fun _ _ _ _=>(qv 1))) jah)))),?_⟩
 walk_at "ND"
 refine jbh (Itl K pa) H (fun R hR=>?_) (fun z hz=>jbn ps.length (fun i σ' Hc=>∃ w1 w2,σ' = [w1,w2,some (.ref sa)]/\Same H Hc/\Hc z = some (.lst ((((ps.take i).filter fun p=>decide (p.1 ∈ ss)).map (·.2)).map V.int))) ⟨none,none,rfl,jag hz _,ja1⟩ ?_ ?_)
 ·unfold jck
  simp_all_arith [jbm,ex,at0]
  exact ⟨pa,rfl,⟨_,SqL.of ep⟩,hR⟩
 ·rintro i σ' Hc hi ⟨w1,w2,rfl,s4,ez⟩
  have x1:xs[i]? = some (xs[i]'(by omega)):=gE _
  have z1:SqL K Hc pa xs:=SqL.of (s4 _ _ ep)
  refine ⟨⟨_,_,z1,x1⟩,?_⟩
  rintro y H' ⟨rfl,hy⟩
  obtain ⟨q,hq,pq⟩:=jbd pp (hy _ z1)
  obtain ⟨t,rfl,ht⟩:=pq.same s4
  have es':=s4 _ _ es
  simp_all_arith [ht,jbm,es',jdh,flat_ints,jdk]
  have hfl:(((ps.take i).filter fun p=>decide (p.1 ∈ ss))).length <= 900:=Nat.le_trans (List.length_filter_le _ _) (by rw [List.length_take]; omega)
  have ft:=jc1 (f:=fun p:Int × Int=>decide (p.1 ∈ ss)) hq
  by_cases c:q.1 ∈ ss
  ·simp only [c,decide_true,if_true] at ft ⊢
   refine ⟨_,ez,?_,_,_,rfl,jbi s4 hz,?_⟩
   ·rw [List.length_map,List.length_map]
    exact szl' (by omega)
   ·rw [ja1,ft,List.map_append,List.map_append]
    rfl
  ·simp only [c,decide_false,Bool.false_eq_true,if_false,List.append_nil] at ft ⊢
   exact ⟨_,_,rfl,s4,by rw [ft]; exact ez⟩
 rintro σ' H1 ⟨w1,w2,rfl,s1,ez⟩
 refine ⟨⟨_,SqL.of (s1 _ _ ep),by omega⟩,?_⟩
 rw [List.take_length] at ez
 exact ⟨z,_,rfl,ez,h H1 s1⟩
theorem jlu (B:Blt mg) (D:DefAt K mg "_law_sets" (top 39) ["_law_web_here"] f fd):FnOk P w K mg base CX0 1 f fd ["_law_web_here"] jsq:=by
 have sc:FnScope ["_law_web_here","_law_rows","_law_place","_law_price","_law_must","_law_longer","_law_some"] ["_law_web_here"] (jbe (top 39)):=by walk_at "SC"
 refine D.F.ok sc (fun vs H Q E h=>?_) (fun cdv A outer s H vs Q E hr h=>?_)
 ·obtain ⟨v,ps,ts,rfl,_⟩:=h
  rfl
 obtain ⟨v,ps,ts,rfl,hw,wk,h9,h⟩:=h
 obtain ⟨u,pa,ta,xs,ys,rfl,eu,epa,eta,hxs,hys⟩:=id hw
 have hxl:=Paired.length hxs
 have hyl:=Paired.length hys
 have htl:=wk.tl
 have hu:=jcc hr
 have hu0:_ < PySem.cLine:=Nat.lt_of_succ_lt hu
 refine ⟨_,(jaf (jbg (i:=1) sc.nd rfl (Or.inl rfl) (jcf (ja0 (jcf jah) jah))) (jaf (jcw PassesOwn.never rfl (jbt (jbj q_ix (qv 0) jai (fun _ _=>rfl))) (jci (n:=2) rfl (jbb (jb9 (i:=2) sc.nd rfl (Or.inr rfl)) (jbb (jb9 (i:=3) sc.nd rfl (Or.inl rfl)) jbw))) (jaf (jdj (i:=4) sc.nd rfl (Or.inl rfl) (CpScope.of (N:=["_law_one","_law_other","_law_place"]) (src:=[none,none,some 2]) (by rfl)) rfl (jbt (jbj q_ix (qv 0) jai (fun _ _=>rfl))) (fun _ _ _ _=>(jci (n:=2) rfl (jbb (jb9 (i:=0) (jba (l:=["_law_one","_law_other","_law_place"]) (by rfl)) rfl (Or.inl rfl)) (jbb (jb9 (i:=1) (jba (l:=["_law_one","_law_other","_law_place"]) (by rfl)) rfl (Or.inl rfl)) jbw)))) (fun _ _ _ _=>(jcs (jc0 q_eq (qv 1) (qv 2) (jby _)))) (fun _ _ _ _=>(qv 0))) (jaf (jbg (i:=5) sc.nd rfl (Or.inl rfl) (jcf jah)) (jaf (jcw PassesOwn.never rfl (jbt (qv 1)) (jb9 (i:=6) sc.nd rfl (Or.inr rfl)) (jaf (jc6 (q_bm PySem.F.plainAttrs_list PySem.F.slot_list_append PySem.F.type_list_append jca (qv 5) (ja0 (jbo jrf (qv 6) (jcf (ja0 (qv 2) jah))) jah))) (jb8 (jdf (jc0 (jn9 hr.units) (jc7 (CpScope.of (N:=["_law_one","_law_some"]) (src:=[none,some 6]) (by rfl)) rfl (jbt (qv 4)) (fun _ _ _ _=>(jb9 (i:=0) (jba (l:=["_law_one","_law_some"]) (by rfl)) rfl (Or.inl rfl))) (fun _ _ _ _=>(jcs (jc0 jn2 (qv 0) (qv 1) (by with_unfolding_all rfl)))) (fun _ _ _ _=>(qv 0))) (jcf jah) (jby _)) (jb8 (jc6 (q_bm PySem.F.plainAttrs_list PySem.F.slot_list_append PySem.F.type_list_append jca (qv 5) (ja0 (qv 6) jah)))) jc5)))) (jb8 (jbg (i:=1) sc.nd rfl (Or.inl rfl) (qv 5))))))) (jb8 (jbu (qv 1))))),?_⟩
 walk_at "ND"
 intro e0 he0
 have q0:=jag he0 (.lst [])
 have ee0:upd H e0 (.lst []) e0 = some (.lst []):=ja1
 generalize upd H e0 (.lst []) = H0 at q0 ee0
 intro r0 hr0
 have q1:=q0.trans (jag hr0 (.lst [.ref e0]))
 have ee1:=jag hr0 (.lst [.ref e0]) _ _ ee0
 have er1:upd H0 r0 (.lst [.ref e0]) r0 = some (.lst [.ref e0]):=ja1
 generalize upd H0 r0 (.lst [.ref e0]) = H1 at q1 ee1 er1
 refine jc2 (Itl K pa) H1 (fun R hR=>?_) (jdi (K:=K) (a:=pa) (xs:=xs) (fun i σ Hc=>∃ rl zs w2 w3 w4 w5 w6,σ = [some (.ref u),some (.ref rl),w2,w3,w4,w5,w6]/\Same H Hc/\Hc rl = some (.lst zs)/\LsRs Hc zs (jdn ts ((ps.map (·.1)).take i))) ⟨r0,_,none,none,none,none,none,rfl,q1,er1,.cons ⟨e0,rfl,ee1⟩ .nil⟩ (fun i σ Hc _ ⟨_,_,_,_,_,_,_,_,s2,_⟩=>SqL.of (s2 _ _ epa)) ?_ ?_)
 ·unfold jck
  simp_all_arith [jbm,q1 _ _ eu,at0]
  exact ⟨pa,rfl,⟨_,SqL.of (q1 _ _ epa)⟩,hR⟩
 ·rintro k y σ H2 hk ⟨rl,zs,w2,w3,w4,w5,w6,rfl,s2,erl,pz⟩
  obtain ⟨q,hq,pq⟩:=jbd hxs hk
  obtain ⟨b,rfl,hb⟩:=pq.same s2
  have hk9:k < ps.length:=(List.getElem?_eq_some_iff.mp hq).1
  have hzl:zs.length = (jdn ts ((ps.map (·.1)).take k)).length:=Paired.length pz
  have hz5:=pow9 (by omega) (jes ts (ps.map (·.1)) k).1
  have hmem:∀ s ∈ jdn ts ((ps.map (·.1)).take k),s.length <= 9:=fun s hs=>by
   have:=jnt hs
   rw [List.length_take] at this
   omega
  have hnext:jdn ts ((ps.map (·.1)).take (k + 1)) = jep ts q.1 (jdn ts ((ps.map (·.1)).take k)):=by
   rw [jbr (show (ps.map (·.1))[k]? = some q.1 by rw [List.getElem?_map,hq]; rfl),je9]
  generalize jdn ts ((ps.map (·.1)).take k) = rs at pz hzl hz5 hmem hnext
  simp_all_arith [hb]
  refine jbh (Itl K ta) H2 (fun R2 hR2=>?_) (fun ml hml=>jbn ts.length (fun j σ' Hc=>∃ w1 w2,σ' = [w1,w2,some (.int q.1)]/\Same H2 Hc/\Hc ml = some (.lst ((((ts.take j).filter fun t=>decide (t.2 = q.1)).map (·.1)).map V.int))) ⟨none,none,rfl,jag hml _,ja1⟩ ?_ ?_)
  ·unfold jck
   simp_all_arith [jbm,s2 _ _ eu,at1]
   exact ⟨ta,rfl,⟨_,SqL.of (s2 _ _ eta)⟩,hR2⟩
  ·rintro j σ' Hc hj ⟨w1,w2,rfl,s3,eml⟩
   have s23:=s2.trans s3
   have x1:ys[j]? = some (ys[j]'(by omega)):=gE _
   have z1:SqL K Hc ta ys:=SqL.of (s23 _ _ eta)
   refine ⟨⟨_,_,z1,x1⟩,?_⟩
   rintro y H' ⟨rfl,hy⟩
   obtain ⟨t,ht,pt⟩:=jbd hys (hy _ z1)
   obtain ⟨a,rfl,ha⟩:=pt.same s23
   simp_all_arith [ha]
   have hfl:(((ts.take j).filter fun t=>decide (t.2 = q.1))).length <= 200:=Nat.le_trans (List.length_filter_le _ _) (by rw [List.length_take]; omega)
   have ft:=jc1 (f:=fun t:Int × Int=>decide (t.2 = q.1)) ht
   by_cases c:t.2 = q.1
   ·simp only [c,decide_true,if_true] at ft ⊢
    refine ⟨_,eml,?_,_,_,rfl,jbi s3 hml,?_⟩
    ·rw [List.length_map,List.length_map]
     exact szl' (by omega)
    ·rw [ja1,ft,List.map_append,List.map_append]
     rfl
   ·simp only [c,decide_false,Bool.false_eq_true,if_false,List.append_nil] at ft ⊢
    exact ⟨_,_,rfl,s3,by rw [ft]; exact eml⟩
  rintro σ' H3 ⟨w1,w2',rfl,s3,eml⟩
  refine ⟨⟨_,SqL.of (s3 _ _ (s2 _ _ eta)),by omega⟩,?_⟩
  rw [List.take_length] at eml
  have hmd:(jfy ts q.1).length <= 120:=by
   unfold jfy
   rw [List.length_map]
   exact Nat.le_trans (List.length_filter_le _ _) htl
  rw [show (ts.filter fun t=>decide (t.2 = q.1)).map (·.1) = jfy ts q.1 from rfl] at eml
  walk_at "ND"
  intro lg hlg
  have q4:=jag hlg (.lst [])
  have elg:upd H3 lg (.lst []) lg = some (.lst []):=ja1
  have erl4:=q4 _ _ (s3 _ _ erl)
  have s34:=s3.trans q4
  have hlg2:H2 lg = none:=s3.free hlg
  have hlg0:H lg = none:=s2.free hlg2
  have eml4:=q4 _ _ eml
  have nml:ml ≠ lg:=jaj eml hlg
  have nrl:rl ≠ lg:=jaj erl hlg2
  generalize upd H3 lg (.lst []) = H4 at q4 elg erl4 s34 eml4
  refine jc2 (Itl K rl) H4 (fun R' hR'=>?_) (jdi (K:=K) (a:=rl) (xs:=zs) (fun i σ Hc=>∃ w6 ws,σ = [some (.ref u),some (.ref rl),some (.int q.1),some (.int q.2),some (.ref ml),some (.ref lg),w6]/\Same H3 Hc/\Hc lg = some (.lst ws)/\Paired (LsN [lg] Hc) ws (jep ts q.1 (rs.take i))) ⟨w6,[],rfl,q4,elg,.nil⟩ (fun i σ Hc _ ⟨_,_,_,s5,_⟩=>SqL.of (s5 _ _ (s3 _ _ erl))) ?_ ?_)
  ·unfold jck
   walk_at "ND"
   exact ⟨rl,rfl,⟨_,SqL.of erl4⟩,hR'⟩
  ·rintro i z σ Hc hz ⟨w6',ws,rfl,s5,elg5,pw⟩
   obtain ⟨s,hs,ps'⟩:=jbd pz hz
   have s35:=s3.trans s5
   obtain ⟨ra,rfl,era⟩:=ps'.same s35
   have hsl:=hmem s (List.mem_of_getElem? hs)
   have hil:i < rs.length:=(List.getElem?_eq_some_iff.mp hs).1
   have hwl:ws.length <= 2 * i:=by
    have a:=Paired.length pw
    have:=(jhe ts q.1 (rs.take i)).1
    rw [List.length_take] at this
    omega
   have nra:ra ≠ lg:=by
    obtain ⟨ra',e,q2⟩:=ps'
    cases e
    exact jaj q2 hlg2
   walk_at "ND"
   refine ⟨⟨lg,_,rfl,elg5⟩,?_⟩
   walk_at "ND"
   intro c1 hc1
   have q6:=jag hc1 (.lst [.int q.1])
   have ec6:upd Hc c1 (.lst [.int q.1]) c1 = some (.lst [.int q.1]):=ja1
   have era6:=q6 _ _ era
   generalize upd Hc c1 (.lst [.int q.1]) = H6 at q6 ec6 era6
   simp_all_arith [era6,ec6]
   refine ⟨?_,fun c2 hc2=>?_⟩
   ·rw [List.length_map]
    show s.length + 1 <= _
    exact szl (by omega)
   have q7:=jag hc2 (.lst (s.map V.int ++ [.int q.1]))
   have ec7:upd H6 c2 (.lst (s.map V.int ++ [.int q.1])) c2 = some (.lst ((s ++ [q.1]).map V.int)):=by rw [ja1,List.map_append]; rfl
   have s67:=q6.trans q7
   have nc2:c2 ≠ lg:=(jaj (q6 _ _ elg5) hc2).symm
   have era7:=q7 _ _ era6
   generalize upd H6 c2 (.lst (s.map V.int ++ [.int q.1])) = H7 at q7 ec7 s67 era7
   have elg7:=s67 _ _ elg5
   simp_all_arith [elg7]
   refine ⟨szb (by omega),?_⟩
   have pw8:Paired (LsN [lg] (upd H7 lg (.lst (ws ++ [.ref c2])))) (ws ++ [.ref c2]) (jep ts q.1 (rs.take i) ++ [s ++ [q.1]]):=LsN.of (List.mem_singleton.mpr rfl) (LsN.snoc (LsN.same s67 pw) ec7 (by simpa using nc2))
   have s8:Same H3 (upd H7 lg (.lst (ws ++ [.ref c2]))):=jbi (s5.trans s67) hlg
   have elg8:upd H7 lg (.lst (ws ++ [.ref c2])) lg = some (.lst (ws ++ [.ref c2])):=ja1
   have era8:upd H7 lg (.lst (ws ++ [.ref c2])) ra = some (.lst (s.map V.int)):=by rw [jb7 nra]; exact era7
   generalize upd H7 lg (.lst (ws ++ [.ref c2])) = H8 at pw8 s8 elg8 era8
   walk_at "ND"
   have em8:=s8 _ _ eml
   refine jbh (Itl K ml) H8 (fun R2 hR2=>?_) (fun dl hdl=>jbn (jfy ts q.1).length (fun j σ' Hd=>∃ w1,σ' = [w1,some (.ref ra)]/\Same H8 Hd/\Hd dl = some (.lst ((lack ((jfy ts q.1).take j) s).map V.int))) ⟨none,rfl,jag hdl _,ja1⟩ ?_ ?_)
   ·unfold jck
    walk_at "ND"
    exact ⟨ml,rfl,⟨_,SqL.of em8⟩,hR2⟩
   ·rintro j σ' Hd hj ⟨w1,rfl,s9,edl⟩
    have z1:SqL K Hd ml ((jfy ts q.1).map V.int):=SqL.of (s9 _ _ em8)
    have x1:((jfy ts q.1).map V.int)[j]? = some (((jfy ts q.1).map V.int)[j]'(by rw [List.length_map]; omega)):=gE _
    refine ⟨⟨_,_,z1,x1⟩,?_⟩
    rintro y H' ⟨rfl,hy⟩
    obtain ⟨n,hn,rfl⟩:=jmc (hy _ z1)
    have ft:=jc1 (f:=fun x:Int=>!decide (x ∈ s)) hn
    have hfl:(lack ((jfy ts q.1).take j) s).length <= 200:=Nat.le_trans (List.length_filter_le _ _) (by rw [List.length_take]; omega)
    unfold lack at hfl edl
    simp_all_arith [jbm,s9 _ _ era8,jdh,flat_ints,jdk]
    unfold lack
    by_cases c:n ∈ s
    ·simp only [c,decide_true,Bool.not_true,Bool.false_eq_true,if_false,List.append_nil] at ft ⊢
     exact ⟨_,rfl,s9,by rw [ft]; exact edl⟩
    ·simp only [c,decide_false,Bool.not_false,if_true] at ft ⊢
     refine ⟨_,edl,?_,_,rfl,jbi s9 hdl,?_⟩
     ·rw [List.length_map]
      exact szl' (by omega)
     ·rw [ja1,ft,List.map_append]
      rfl
   rintro σ' H9 ⟨w1,rfl,s9,edl⟩
   refine ⟨⟨_,SqL.of (s9 _ _ em8),by rw [List.length_map]; omega⟩,?_⟩
   rw [List.take_length] at edl
   walk_at "ND"
   intro e1 he1
   have t1:=jag he1 (.lst [])
   have ee1:upd H9 e1 (.lst []) e1 = some (.lst []):=ja1
   generalize upd H9 e1 (.lst []) = HA at t1 ee1
   have s9A:=s9.trans t1
   refine ⟨_,_,jiv (t1 _ _ edl),jlo ee1,jhh _,.inl ⟨_,_,rfl,rfl⟩,?_⟩
   rw [jjl]
   have pwA:=LsN.same s9A pw8
   have elgA:=s9A _ _ elg8
   have s3A:=s8.trans s9A
   have eraA:=s9A _ _ era8
   rw [jor hs]
   unfold jh4
   by_cases c:lack (jfy ts q.1) s = []
   ·rw [decide_eq_true c,if_pos c]
    walk_at "ND"
    refine ⟨⟨lg,_,rfl,elgA⟩,?_⟩
    simp_all_arith [elgA]
    refine ⟨szb (by rw [List.length_append]; show ws.length + 1 <= _; omega),_,_,rfl,jbi s3A hlg,ja1,?_⟩
    have:=LsN.of (o:=.lst (ws ++ [.ref c2] ++ [.ref ra])) (List.mem_singleton.mpr rfl) (LsN.snoc pwA eraA (by simpa using nra))
    rw [show jep ts q.1 (rs.take i) ++ [s ++ [q.1],s] = jep ts q.1 (rs.take i) ++ [s ++ [q.1]] ++ [s] by rw [List.append_assoc]; rfl]
    exact this
   ·rw [decide_eq_false c,if_neg c]
    walk_at "ND"
    exact ⟨_,_,rfl,s3A,elgA,pwA⟩
  ·rintro σ Hc ⟨w6',ws,rfl,s5,elg5,pw⟩
   walk_at "ND"
   rw [Paired.length pz,List.take_length] at pw
   refine ⟨lg,ws,_,_,_,_,_,rfl,s2.trans (s3.trans s5),elg5,?_⟩
   rw [hnext]
   exact LsN.to pw
 ·rintro σ Hc ⟨rl,zs,w2,w3,w4,w5,w6,rfl,s2,erl,pz⟩
  walk_at "ND"
  rw [List.take_of_length_le (by rw [List.length_map]; omega)] at pz
  exact h rl zs Hc s2 erl pz
def joy:Sp:=fun vs H Q _=>∃ v l zs ps ts y,vs = [v,.ref l]/\jd3 H v ps ts/\WebOk ps ts/\H l = some (.lst zs)/\Prs H zs (ps.map fun p=>(p.1,y p.1))/\∀ t H',Same H H'->jd3 H' (.ref t) (jd2 y ps) (jdy y ts)->Q (.ref t) H'
theorem jqb {ps:List (Int × Int)} {y:Int->Int} {n:Int} (h:n ∈ ps.map (·.1)):n ∈ twos (ps.map fun p=>(p.1,y p.1)) 1 ↔ y n = 1:=by
 rw [jg1 rfl]
 exact ⟨fun z=>z.2,fun z=>⟨h,z⟩⟩
theorem jlv (B:Blt mg) (D:DefAt K mg "_law_left" (top 41) ["_law_web_here","_law_halves"] f fd):FnOk P w K mg base CX0 1 f fd ["_law_web_here","_law_halves"] joy:=by
 have sc:FnScope ["_law_web_here","_law_halves","_law_kept","_law_places_here"] ["_law_web_here","_law_halves"] (jbe (top 41)):=by walk_at "SC"
 refine D.F.ok sc (fun vs H Q E h=>?_) (fun cdv A outer s H vs Q E hr h=>?_)
 ·obtain ⟨v,l,zs,ps,ts,y,rfl,_⟩:=h
  rfl
 obtain ⟨v,l,zs,ps,ts,y,rfl,hw,wk,el,pz,h⟩:=h
 obtain ⟨u,pa,ta,xs,ys,rfl,eu,epa,eta,hxs,hys⟩:=id hw
 have hxl:=Paired.length hxs
 have hyl:=Paired.length hys
 have htl:=wk.tl
 have hpl:=wk.pl
 obtain ⟨hs,ehs⟩:∃ hs,hs = ps.map fun p=>(p.1,y p.1):=⟨_,rfl⟩
 have hkp:=@jqb ps y
 rw [<- ehs] at pz hkp
 have hsl:hs.length = ps.length:=by rw [ehs,List.length_map]
 have hzl:=Paired.length pz
 clear ehs
 have hu:=jcc hr
 have hu0:_ < PySem.cLine:=Nat.lt_of_succ_lt hu
 refine ⟨_,(jaf (jbg (i:=2) sc.nd rfl (Or.inr rfl) (jc7 (CpScope.of (N:=["_law_place","_law_h"]) (src:=[none,none]) (by rfl)) rfl (jbt (qv 1)) (fun _ _ _ _=>(jci (n:=2) rfl (jbb (jb9 (i:=0) (jba (l:=["_law_place","_law_h"]) (by rfl)) rfl (Or.inl rfl)) (jbb (jb9 (i:=1) (jba (l:=["_law_place","_law_h"]) (by rfl)) rfl (Or.inl rfl)) jbw)))) (fun _ _ _ _=>(jcs (jc0 q_eq (qv 1) jai (jby _)))) (fun _ _ _ _=>(qv 0)))) (jaf (jdj (i:=3) sc.nd rfl (Or.inl rfl) (CpScope.of (N:=["_law_place","_law_price","_law_kept"]) (src:=[none,none,some 2]) (by rfl)) rfl (jbt (jbj q_ix (qv 0) jai (fun _ _=>rfl))) (fun _ _ _ _=>(jci (n:=2) rfl (jbb (jb9 (i:=0) (jba (l:=["_law_place","_law_price","_law_kept"]) (by rfl)) rfl (Or.inl rfl)) (jbb (jb9 (i:=1) (jba (l:=["_law_place","_law_price","_law_kept"]) (by rfl)) rfl (Or.inl rfl)) jbw)))) (fun _ _ _ _=>(jcs (jc0 jlp (qv 0) (qv 2) (by with_unfolding_all rfl)))) (fun _ _ _ _=>(jc9 (ja0 (qv 0) (ja0 (qv 1) jah))))) (jb8 (jbu (jc9 (ja0 (qv 3) (ja0 (jc7 (CpScope.of (N:=["_law_tie","_law_kept"]) (src:=[none,some 2]) (by rfl)) rfl (jbt (jbj q_ix (qv 0) jai (fun _ _=>rfl))) (fun _ _ _ _=>(jb9 (i:=0) (jba (l:=["_law_tie","_law_kept"]) (by rfl)) rfl (Or.inl rfl))) (fun _ _ _ _=>(jcs (PW.pt (jhw (jc0 jlp (jbj q_ix (qv 0) jai (fun _ _=>rfl)) (qv 1) (by with_unfolding_all rfl)) (jfg (jc0 jlp (jbj q_ix (qv 0) jai (fun _ _=>rfl)) (qv 1) (by with_unfolding_all rfl))))))) (fun _ _ _ _=>(qv 0))) jah))))))),?_⟩
 walk_at "ND"
 refine jbh (Itl K l) H (fun R2 hR2=>?_) (fun kl hkl=>jbn hs.length (fun j σ' Hc=>∃ w1 w2,σ' = [w1,w2]/\Same H Hc/\Hc kl = some (.lst ((((hs.take j).filter fun t=>decide (t.2 = 1)).map (·.1)).map V.int))) ⟨none,none,rfl,jag hkl _,ja1⟩ ?_ ?_)
 ·unfold jck
  walk_at "ND"
  exact ⟨l,rfl,⟨_,SqL.of el⟩,hR2⟩
 ·rintro j σ' Hc hj ⟨w1,w2,rfl,s3,eml⟩
  have x1:zs[j]? = some (zs[j]'(by omega)):=gE _
  have z1:SqL K Hc l zs:=SqL.of (s3 _ _ el)
  refine ⟨⟨_,_,z1,x1⟩,?_⟩
  rintro y H' ⟨rfl,hy⟩
  obtain ⟨t,ht,pt⟩:=jbd pz (hy _ z1)
  obtain ⟨a,rfl,ha⟩:=pt.same s3
  simp_all_arith [ha]
  have hfl:(((hs.take j).filter fun t=>decide (t.2 = 1))).length <= 200:=Nat.le_trans (List.length_filter_le _ _) (by rw [List.length_take]; omega)
  have ft:=jc1 (f:=fun t:Int × Int=>decide (t.2 = 1)) ht
  by_cases c:t.2 = 1
  ·simp only [c,decide_true,if_true] at ft ⊢
   refine ⟨_,eml,?_,_,_,rfl,jbi s3 hkl,?_⟩
   ·rw [List.length_map,List.length_map]
    exact szl' (by omega)
   ·rw [ja1,ft,List.map_append,List.map_append]
    rfl
  ·simp only [c,decide_false,Bool.false_eq_true,if_false,List.append_nil] at ft ⊢
   exact ⟨_,_,rfl,s3,by rw [ft]; exact eml⟩
 rintro σ' H3 ⟨w1,w2',rfl,s3,ekl⟩
 refine ⟨⟨_,SqL.of (s3 _ _ el),by omega⟩,?_⟩
 rw [List.take_length,show (hs.filter fun t=>decide (t.2 = 1)).map (·.1) = twos hs 1 from rfl] at ekl
 generalize twos hs 1 = kp at ekl hkp
 walk_at "ND"
 refine jbh (Itl K pa) H3 (fun R2 hR2=>?_) (fun pl hpl'=>jbn ps.length (fun j σ' Hc=>∃ w1 w2 ws,σ' = [w1,w2,some (.ref kl)]/\Same H3 Hc/\Hc pl = some (.lst ws)/\Prs Hc ws ((ps.take j).filter fun p=>decide (y p.1 = 1))) ⟨none,none,[],rfl,jag hpl' _,ja1,.nil⟩ ?_ ?_)
 ·unfold jck
  simp_all_arith [jbm,s3 _ _ eu,at0]
  exact ⟨pa,rfl,⟨_,SqL.of (s3 _ _ epa)⟩,hR2⟩
 ·rintro j σ' Hc hj ⟨w1,w2,ws,rfl,s4,epl,pw⟩
  have s34:=s3.trans s4
  have x1:xs[j]? = some (xs[j]'(by omega)):=gE _
  have z1:SqL K Hc pa xs:=SqL.of (s34 _ _ epa)
  refine ⟨⟨_,_,z1,x1⟩,?_⟩
  rintro yv H' ⟨rfl,hy⟩
  obtain ⟨p,hp,pp⟩:=jbd hxs (hy _ z1)
  obtain ⟨a,rfl,ha⟩:=pp.same s34
  have hk:=hkp (List.mem_map.mpr ⟨p,List.mem_of_getElem? hp,rfl⟩)
  have ekl':=s4 _ _ ekl
  simp_all_arith [ha,jbm,ekl',jdh,flat_ints,jdk]
  have hfl:(((ps.take j).filter fun p=>decide (y p.1 = 1))).length <= 200:=Nat.le_trans (List.length_filter_le _ _) (by rw [List.length_take]; omega)
  have hwl:=Paired.length pw
  have ft:=jc1 (f:=fun p:Int × Int=>decide (y p.1 = 1)) hp
  by_cases c:y p.1 = 1
  ·simp only [c,hk.mpr c,decide_true,if_true] at ft ⊢
   intro t5 ht5
   have q5:=jag ht5 (.tup [.int p.1,.int p.2])
   have e5:=q5 _ _ epl
   have t6:=jbv (ys:=ws ++ [.ref t5]) e5
   refine ⟨_,e5,szl' (by omega),_,_,ws ++ [.ref t5],rfl,jbi (s4.trans q5) hpl',ja1,?_⟩
   rw [ft]
   exact jbk (Prs.tups t6 (Prs.same q5 pw)) ⟨t5,rfl,t6 _ _ rfl ja1⟩
  ·have nk:¬ p.1 ∈ kp:=fun z=>c (hk.mp z)
   simp only [c,nk,decide_false,Bool.false_eq_true,if_false,List.append_nil] at ft ⊢
   exact ⟨_,_,_,rfl,s4,epl,by rw [ft]; exact pw⟩
 rintro σ' H4 ⟨w1,w2',ws,rfl,s4,epl,pw⟩
 have s34:=s3.trans s4
 refine ⟨⟨_,SqL.of (s34 _ _ epa),by omega⟩,?_⟩
 rw [List.take_length] at pw
 have ekl4:=s4 _ _ ekl
 walk_at "ND"
 refine jbh (Itl K ta) H4 (fun R2 hR2=>?_) (fun tl htl'=>jbn ts.length (fun j σ' Hc=>∃ w1 ws,σ' = [w1,some (.ref kl)]/\Same H4 Hc/\Hc tl = some (.lst ws)/\Prs Hc ws ((ts.take j).filter fun t=>decide (y t.1 = 1) && decide (y t.2 = 1))) ⟨none,[],rfl,jag htl' _,ja1,.nil⟩ ?_ ?_)
 ·unfold jck
  simp_all_arith [jbm,s34 _ _ eu,at1]
  exact ⟨ta,rfl,⟨_,SqL.of (s34 _ _ eta)⟩,hR2⟩
 ·rintro j σ' Hc hj ⟨w1,vs,rfl,s5,etl,pv⟩
  have s35:=s34.trans s5
  have x1:ys[j]? = some (ys[j]'(by omega)):=gE _
  have z1:SqL K Hc ta ys:=SqL.of (s35 _ _ eta)
  refine ⟨⟨_,_,z1,x1⟩,?_⟩
  rintro yv H' ⟨rfl,hy⟩
  obtain ⟨t,ht,pt⟩:=jbd hys (hy _ z1)
  obtain ⟨a,rfl,ha⟩:=pt.same s35
  obtain ⟨m1,m2⟩:=jd6 wk t (List.mem_of_getElem? ht)
  have hk1:=hkp m1
  have hk2:=hkp m2
  have ekl':=s5 _ _ ekl4
  have hfl:(((ts.take j).filter fun t=>decide (y t.1 = 1) && decide (y t.2 = 1))).length <= 200:=Nat.le_trans (List.length_filter_le _ _) (by rw [List.length_take]; omega)
  have hvl:=Paired.length pv
  have ft:=jc1 (f:=fun t:Int × Int=>decide (y t.1 = 1) && decide (y t.2 = 1)) ht
  have sk:(if (decide (y t.1 = 1) && decide (y t.2 = 1)) = true then [t] else []) = (if t.1 ∈ kp/\t.2 ∈ kp then [t] else []):=by
   by_cases c1:y t.1 = 1 <;> by_cases c2:y t.2 = 1 <;> simp [c1,c2,hk1,hk2]
  rw [sk] at ft
  clear hk1 hk2 sk
  simp_all_arith [jbm,ha,at0,at1,ekl',jdh,flat_ints,jdk]
  have no:∀ b:Prop,¬ b->(¬ (t.1 ∈ kp/\t.2 ∈ kp))->True:=fun _ _ _=>trivial
  by_cases c1:t.1 ∈ kp
  ·simp only [c1,decide_true,if_true,true_and] at ft ⊢
   simp_all_arith [jbm,ha,at0,at1,ekl',jdh,flat_ints,jdk]
   by_cases c2:t.2 ∈ kp
   ·simp only [c2,decide_true,if_true] at ft ⊢
    walk_at "ND"
    have t6:=jbv (ys:=vs ++ [.ref a]) etl
    refine ⟨_,etl,szl' (by omega),_,vs ++ [.ref a],rfl,jbi s5 htl',ja1,?_⟩
    rw [ft]
    exact jbk (Prs.tups t6 pv) ⟨a,rfl,t6 _ _ rfl ha⟩
   ·simp only [c2,decide_false,Bool.false_eq_true,if_false,List.append_nil] at ft ⊢
    walk_at "ND"
    exact ⟨_,_,rfl,s5,etl,by rw [ft]; exact pv⟩
  ·simp only [c1,decide_false,Bool.false_eq_true,if_false,false_and,List.append_nil] at ft ⊢
   walk_at "ND"
   exact ⟨_,_,rfl,s5,etl,by rw [ft]; exact pv⟩
 rintro σ' H5 ⟨w1,vs,rfl,s5,etl,pv⟩
 have s35:=s34.trans s5
 refine ⟨⟨_,SqL.of (s35 _ _ eta),by omega⟩,?_⟩
 rw [List.take_length] at pv
 walk_at "ND"
 intro t6 ht6
 have q6:=jag ht6 (.tup [.ref pl,.ref tl])
 exact h t6 _ (s35.trans q6) ⟨t6,pl,tl,ws,vs,rfl,ja1,q6 _ _ (s5 _ _ epl),q6 _ _ etl,Prs.same (s5.trans q6) pw,Prs.same q6 pv⟩
def jou:Sp:=fun vs H Q _=>∃ v l zs ps ts y,vs = [v,.ref l]/\jd3 H v ps ts/\WebOk ps ts/\ps.length <= 9/\H l = some (.lst zs)/\Prs H zs (ps.map fun p=>(p.1,y p.1))/\Best ps ts y/\∀ H',Same H H'->Q (.bl true) H'
theorem jmz {ps ts:List (Int × Int)}:jd8 ps ts ≠ []:=fun z=>by
 have:=(jes ts (ps.map (·.1)) (ps.map (·.1)).length).2
 rw [List.take_length] at this
 unfold jd8 at z
 rw [z] at this
 exact absurd this (by decide)
theorem jkm (B:Blt mg) (D:DefAt K mg "_law_right" (top 42) ["_law_web_here","_law_halves"] f fd) (Dqm:DefAt K mg "_law_sets" (top 39) ["_law_web_here"] fqm dqm) (Gqm:FnOk P w K mg base CX0 1 fqm dqm ["_law_web_here"] jsq) (Dqi:DefAt K mg "_law_cost" (top 40) ["_law_web_here","_law_some"] fqi dqi) (Gqi:FnOk P w K mg base CX0 1 fqi dqi ["_law_web_here","_law_some"] jsv) (Dqh:DefAt K mg "_law_left" (top 41) ["_law_web_here","_law_halves"] fqh dqh) (Gqh:FnOk P w K mg base CX0 1 fqh dqh ["_law_web_here","_law_halves"] joy):FnOk P w K mg base CX0 2 f fd ["_law_web_here","_law_halves"] jou:=by
 have sc:FnScope ["_law_web_here","_law_halves","_law_costs","_law_rows","_law_least","_law_ones","_law_noughts","_law_found","_law_some","_law_left_here","_law_rest","_law_prices","_law_paid"] ["_law_web_here","_law_halves"] (jbe (top 42)):=by walk_at "SC"
 refine D.F.ok sc (fun vs H Q E h=>?_) (fun cdv A outer s H vs Q E hr h=>?_)
 ·obtain ⟨v,l,zs,ps,ts,y,rfl,_⟩:=h
  rfl
 obtain ⟨v,l,zs,ps,ts,y,rfl,hw,wk,h9,el,pz,bst,h⟩:=h
 obtain ⟨hs,ehs⟩:∃ hs,hs = ps.map fun p=>(p.1,y p.1):=⟨_,rfl⟩
 rw [<- ehs] at pz
 have hsl:hs.length = ps.length:=by rw [ehs,List.length_map]
 have hzl:=Paired.length pz
 have hu:=jcc hr
 have hu0:_ < PySem.cLine:=Nat.lt_of_succ_lt hu
 refine ⟨_,(jaf (jbg (i:=2) sc.nd rfl (Or.inl rfl) jrp) (jaf (jbg (i:=3) sc.nd rfl (Or.inl rfl) (jbf Gqm (hr.mono (by decide)) rfl Dqm.m Dqm.F.kp Dqm.b .nil jbq (ja0 (qv 0) jah))) (jaf (jbg (i:=4) sc.nd rfl (Or.inl rfl) (jbp (jhi rfl) rfl B.min PyProof.Rows.boot_min (ja0 (jc7 (CpScope.of (N:=["_law_some","_law_web_here"]) (src:=[none,some 0]) (by rfl)) rfl (jbt (qv 3)) (fun _ _ _ _=>(jb9 (i:=0) (jba (l:=["_law_some","_law_web_here"]) (by rfl)) rfl (Or.inl rfl))) (fun _ _ _ _=>jch) (fun _ _ _ _=>(jbf Gqi (hr.mono (by decide)) rfl Dqi.m Dqi.F.kp Dqi.b .nil jbq (ja0 (qv 1) (ja0 (qv 0) jah))))) jah))) (jaf (jdj (i:=5) sc.nd rfl (Or.inl rfl) (CpScope.of (N:=["_law_place","_law_h"]) (src:=[none,none]) (by rfl)) rfl (jbt (qv 1)) (fun _ _ _ _=>(jci (n:=2) rfl (jbb (jb9 (i:=0) (jba (l:=["_law_place","_law_h"]) (by rfl)) rfl (Or.inl rfl)) (jbb (jb9 (i:=1) (jba (l:=["_law_place","_law_h"]) (by rfl)) rfl (Or.inl rfl)) jbw)))) (fun _ _ _ _=>(jcs (jc0 q_eq (qv 1) jai (jby _)))) (fun _ _ _ _=>(qv 0))) (jaf (jdj (i:=6) sc.nd rfl (Or.inl rfl) (CpScope.of (N:=["_law_place","_law_h"]) (src:=[none,none]) (by rfl)) rfl (jbt (qv 1)) (fun _ _ _ _=>(jci (n:=2) rfl (jbb (jb9 (i:=0) (jba (l:=["_law_place","_law_h"]) (by rfl)) rfl (Or.inl rfl)) (jbb (jb9 (i:=1) (jba (l:=["_law_place","_law_h"]) (by rfl)) rfl (Or.inl rfl)) jbw)))) (fun _ _ _ _=>(jcs (jc0 q_eq (qv 1) jai (jby _)))) (fun _ _ _ _=>(qv 0))) (jaf (jbg (i:=7) sc.nd rfl (Or.inl rfl) jai) (jaf (jcw PassesOwn.never rfl (jbt (qv 3)) (jb9 (i:=8) sc.nd rfl (Or.inr rfl)) (jb8 (jdf (PW.pt (jhw (jc0 q_eq (jbf Gqi (hr.mono (by decide)) rfl Dqi.m Dqi.F.kp Dqi.b .nil jbq (ja0 (qv 0) (ja0 (qv 8) jah))) (qv 4) (jby _)) (jfg (jc0 (jn9 hr.units) (jc7 (CpScope.of (N:=["_law_one","_law_some"]) (src:=[none,some 8]) (by rfl)) rfl (jbt (qv 5)) (fun _ _ _ _=>(jb9 (i:=0) (jba (l:=["_law_one","_law_some"]) (by rfl)) rfl (Or.inl rfl))) (fun _ _ _ _=>(jcs (jc0 jn2 (qv 0) (qv 1) (by with_unfolding_all rfl)))) (fun _ _ _ _=>(qv 0))) (jcf jah) (jby _))))) (jb8 (jbg (i:=7) sc.nd rfl (Or.inl rfl) (jbo jcb (qv 7) (jd1 q_int1 rfl B.int PyProof.Rows.boot_int (ja0 (jd5 (jn9 hr.units) (jc7 (CpScope.of (N:=["_law_one","_law_some"]) (src:=[none,some 8]) (by rfl)) rfl (jbt (qv 6)) (fun _ _ _ _=>(jb9 (i:=0) (jba (l:=["_law_one","_law_some"]) (by rfl)) rfl (Or.inl rfl))) (fun _ _ _ _=>(jcs (jc0 jlp (qv 0) (qv 1) (by with_unfolding_all rfl)))) (fun _ _ _ _=>(qv 0))) (jcf jah) (jby _)) jah))))) jc5))) (jaf (jbg (i:=9) sc.nd rfl (Or.inr rfl) (jbf Gqh (hr.mono (by decide)) rfl Dqh.m Dqh.F.kp Dqh.b .nil jbq (ja0 (qv 0) (ja0 (qv 1) jah)))) (jaf (jbg (i:=10) sc.nd rfl (Or.inl rfl) (jbp (jhi rfl) rfl B.min PyProof.Rows.boot_min (ja0 (jc7 (CpScope.of (N:=["_law_some","_law_left_here"]) (src:=[none,some 9]) (by rfl)) rfl (jbt (jbf Gqm (hr.mono (by decide)) rfl Dqm.m Dqm.F.kp Dqm.b .nil jbq (ja0 (qv 9) jah))) (fun _ _ _ _=>(jb9 (i:=0) (jba (l:=["_law_some","_law_left_here"]) (by rfl)) rfl (Or.inl rfl))) (fun _ _ _ _=>jch) (fun _ _ _ _=>(jbf Gqi (hr.mono (by decide)) rfl Dqi.m Dqi.F.kp Dqi.b .nil jbq (ja0 (qv 1) (ja0 (qv 0) jah))))) jah))) (jaf (jbg (i:=11) sc.nd rfl (Or.inr rfl) (jd1 (jix rfl) rfl B.dict PyProof.Rows.boot_dict (ja0 (jbj q_ix (qv 0) jai (fun _ _=>rfl)) jah))) (jaf (jbg (i:=12) sc.nd rfl (Or.inl rfl) (jbp (jtx rfl) rfl B.sum PyProof.Rows.boot_sum (ja0 (jc7 (CpScope.of (N:=["_law_place","_law_h","_law_prices"]) (src:=[none,none,some 11]) (by rfl)) rfl (jbt (qv 1)) (fun _ _ _ _=>(jci (n:=2) rfl (jbb (jb9 (i:=0) (jba (l:=["_law_place","_law_h","_law_prices"]) (by rfl)) rfl (Or.inl rfl)) (jbb (jb9 (i:=1) (jba (l:=["_law_place","_law_h","_law_prices"]) (by rfl)) rfl (Or.inl rfl)) jbw)))) (fun _ _ _ _=>jch) (fun _ _ _ _=>(jbo jff (jet hu (qv 2) (qv 0) (fun _ _=>rfl)) (qv 1)))) jah))) (jb8 (jbu (jeu (jd5 q_gt (qv 7) jai (jby _)) (jeu (jd5 q_eq (qv 4) (jbo jcb (jbf Gqi (hr.mono (by decide)) rfl Dqi.m Dqi.F.kp Dqi.b .nil jbq (ja0 (qv 0) (ja0 (qv 5) jah))) (qv 10)) (jby _)) (jex (jd5 q_ge (jbo jff jai (qv 4)) (qv 12) (jby _)))))))))))))))))),?_⟩
 refine jbc fun R hR=>?_
 walk_at "ND"
 intro d0 hd0
 have q0:=jag hd0 (.dK [])
 generalize upd H d0 (.dK []) = H0 at q0
 subst hR
 refine jbc fun R hR=>?_
 walk_at "ND"
 refine ⟨v,ps,ts,rfl,hw.same q0,wk,h9,fun rl rz H1 s1' erl prz=>?_⟩
 have s1:=q0.trans s1'
 have hrl:=Paired.length prz
 have hr5:(jd8 ps ts).length <= 512:=jkg h9
 subst hR
 refine jbc fun R hR=>?_
 walk_at "ND"
 refine jbh (Itl K rl) H1 (fun R2 hR2=>?_) (fun cl hcl=>jbn (jd8 ps ts).length (fun j σ' Hd=>∃ w1,σ' = [w1,some v]/\Same H1 Hd/\Hd cl = some (.lst ((((jd8 ps ts).take j).map (je6 ps)).map V.int))) ⟨none,rfl,jag hcl _,ja1⟩ ?_ ?_)
 ·unfold jck
  walk_at "ND"
  exact ⟨rl,rfl,⟨_,SqL.of erl⟩,hR2⟩
 ·rintro j σ' Hd hj ⟨w1,rfl,s9,edl⟩
  have z1:SqL K Hd rl rz:=SqL.of (s9 _ _ erl)
  have x1:rz[j]? = some (rz[j]'(by have:=Paired.length prz; omega)):=gE _
  refine ⟨⟨_,_,z1,x1⟩,?_⟩
  rintro y' H' ⟨rfl,hy⟩
  obtain ⟨s,hs,qs⟩:=jbd prz (hy _ z1)
  obtain ⟨ra,rfl,era⟩:=qs.same s9
  walk_at "ND"
  refine ⟨v,ra,ps,ts,s,rfl,(hw.same s1).same s9,by omega,era,fun H5 s5=>?_⟩
  walk_at "ND"
  refine ⟨_,s5 _ _ edl,?_,_,rfl,jbi (s9.trans s5) hcl,?_⟩
  ·rw [List.length_map,List.length_map,List.length_take]
   exact szl' (by omega)
  ·rw [ja1,jbr hs,List.map_append,List.map_append]
   rfl
 rintro σ' H2 ⟨w1,rfl,s2',ecl⟩
 refine ⟨⟨_,SqL.of (s2' _ _ erl),by omega⟩,?_⟩
 rw [List.take_length] at ecl
 have s2:=s1.trans s2'
 walk_at "ND"
 refine ⟨cl,_,rfl,ecl,by simpa using jmz,fun m m1 m2=>?_⟩
 have MO:jm8 ((jd8 ps ts).map (je6 ps)) m:=⟨m1,m2⟩
 have erl2:=s2' _ _ erl
 have prz2:=LsRs.same s2' prz
 clear ecl m1 m2 s2' erl prz
 subst hR
 refine jbc fun R hR=>?_
 walk_at "ND"
 refine jbh (Itl K l) H2 (fun R2 hR2=>?_) (fun ol hol=>jbn hs.length (fun j σ' Hc=>∃ w1 w2,σ' = [w1,w2]/\Same H2 Hc/\Hc ol = some (.lst ((((hs.take j).filter fun t=>decide (t.2 = 2)).map (·.1)).map V.int))) ⟨none,none,rfl,jag hol _,ja1⟩ ?_ ?_)
 ·unfold jck
  walk_at "ND"
  exact ⟨l,rfl,⟨_,SqL.of (s2 _ _ el)⟩,hR2⟩
 ·rintro j σ' Hc hj ⟨w1,w2,rfl,sQ,eml⟩
  have z1:SqL K Hc l zs:=SqL.of (sQ _ _ (s2 _ _ el))
  have x1:zs[j]? = some (zs[j]'(by omega)):=gE _
  refine ⟨⟨_,_,z1,x1⟩,?_⟩
  rintro y' H' ⟨rfl,hy⟩
  obtain ⟨t,ht,pt⟩:=jbd pz (hy _ z1)
  obtain ⟨a,rfl,ha⟩:=pt.same (s2.trans sQ)
  simp_all_arith [ha]
  have hfl:(((hs.take j).filter fun t=>decide (t.2 = 2))).length <= 200:=Nat.le_trans (List.length_filter_le _ _) (by rw [List.length_take]; omega)
  have ft:=jc1 (f:=fun t:Int × Int=>decide (t.2 = 2)) ht
  by_cases c:t.2 = 2
  ·simp only [c,decide_true,if_true] at ft ⊢
   refine ⟨_,eml,?_,_,_,rfl,jbi sQ hol,?_⟩
   ·rw [List.length_map,List.length_map]
    exact szl' (by omega)
   ·rw [ja1,ft,List.map_append,List.map_append]
    rfl
  ·simp only [c,decide_false,Bool.false_eq_true,if_false,List.append_nil] at ft ⊢
   exact ⟨_,_,rfl,sQ,by rw [ft]; exact eml⟩
 rintro σ' H3 ⟨w1,w2,rfl,s3',eol⟩
 refine ⟨⟨_,SqL.of (s3' _ _ (s2 _ _ el)),by omega⟩,?_⟩
 rw [List.take_length,show (hs.filter fun t=>decide (t.2 = 2)).map (·.1) = twos hs 2 from rfl] at eol
 have s3:=s2.trans s3'
 have h2l:(twos hs 2).length <= 40:=by
  unfold twos
  rw [List.length_map]
  exact Nat.le_trans (List.length_filter_le _ _) (by omega)
 subst hR
 refine jbc fun R hR=>?_
 walk_at "ND"
 refine jbh (Itl K l) H3 (fun R2 hR2=>?_) (fun nl hnl=>jbn hs.length (fun j σ' Hc=>∃ w1 w2,σ' = [w1,w2]/\Same H3 Hc/\Hc nl = some (.lst ((((hs.take j).filter fun t=>decide (t.2 = 0)).map (·.1)).map V.int))) ⟨none,none,rfl,jag hnl _,ja1⟩ ?_ ?_)
 ·unfold jck
  walk_at "ND"
  exact ⟨l,rfl,⟨_,SqL.of (s3 _ _ el)⟩,hR2⟩
 ·rintro j σ' Hc hj ⟨w1,w2,rfl,sQ,eml⟩
  have z1:SqL K Hc l zs:=SqL.of (sQ _ _ (s3 _ _ el))
  have x1:zs[j]? = some (zs[j]'(by omega)):=gE _
  refine ⟨⟨_,_,z1,x1⟩,?_⟩
  rintro y' H' ⟨rfl,hy⟩
  obtain ⟨t,ht,pt⟩:=jbd pz (hy _ z1)
  obtain ⟨a,rfl,ha⟩:=pt.same (s3.trans sQ)
  simp_all_arith [ha]
  have hfl:(((hs.take j).filter fun t=>decide (t.2 = 0))).length <= 200:=Nat.le_trans (List.length_filter_le _ _) (by rw [List.length_take]; omega)
  have ft:=jc1 (f:=fun t:Int × Int=>decide (t.2 = 0)) ht
  by_cases c:t.2 = 0
  ·simp only [c,decide_true,if_true] at ft ⊢
   refine ⟨_,eml,?_,_,_,rfl,jbi sQ hnl,?_⟩
   ·rw [List.length_map,List.length_map]
    exact szl' (by omega)
   ·rw [ja1,ft,List.map_append,List.map_append]
    rfl
  ·simp only [c,decide_false,Bool.false_eq_true,if_false,List.append_nil] at ft ⊢
   exact ⟨_,_,rfl,sQ,by rw [ft]; exact eml⟩
 rintro σ' H4 ⟨w1,w2,rfl,s4',enl⟩
 refine ⟨⟨_,SqL.of (s4' _ _ (s3 _ _ el)),by omega⟩,?_⟩
 rw [List.take_length,show (hs.filter fun t=>decide (t.2 = 0)).map (·.1) = twos hs 0 from rfl] at enl
 have s4:=s3.trans s4'
 have h0l:(twos hs 0).length <= 40:=by
  unfold twos
  rw [List.length_map]
  exact Nat.le_trans (List.length_filter_le _ _) (by omega)
 have s24:=s3'.trans s4'
 have erl4:=s24 _ _ erl2
 have prz4:=LsRs.same s24 prz2
 have eol4:=s4' _ _ eol
 clear erl2 prz2 eol
 subst hR
 refine jbc fun R hR=>?_
 walk_at "ND"
 subst hR
 refine jbc fun R hR=>?_
 refine jc2 (Itl K rl) H4 (fun R' hR'=>?_) (jdi (K:=K) (a:=rl) (xs:=rz) (fun i σ Hc=>∃ (f:Int) (w8:Option V),σ = [some v,some (.ref l),some (.ref d0),some (.ref rl),some (.int m),some (.ref ol),some (.ref nl),some (.int f),w8,none,none,none,none]/\Same H4 Hc/\0 <= f/\(∀ s ∈ (jd8 ps ts).take i,jte ps m hs s->kin (twos hs 0) s = []->0 < f)) ⟨0,none,rfl,fun _ _ q=>q,Int.le_refl _,fun s hs=>by rw [List.take_zero] at hs; cases hs⟩ (fun i σ Hc _ ⟨_,_,_,s5,_⟩=>SqL.of (s5 _ _ erl4)) ?_ ?_)
 ·unfold jck
  walk_at "ND"
  exact ⟨rl,rfl,⟨_,SqL.of erl4⟩,hR'⟩
 ·rintro i z σ Hc hz ⟨f,w8,rfl,s5,f0,hf⟩
  obtain ⟨s,hs',qs⟩:=jbd prz4 hz
  obtain ⟨ra,rfl,era⟩:=qs.same s5
  have tk:∀ x ∈ (jd8 ps ts).take (i + 1),x ∈ (jd8 ps ts).take i \/ x = s:=fun x hx=>by
   rw [jbr hs'] at hx
   exact (List.mem_append.mp hx).imp id List.mem_singleton.mp
  have s45:=s4.trans s5
  walk_at "ND"
  refine ⟨v,ra,ps,ts,s,rfl,hw.same s45,by omega,era,fun H6 s6=>?_⟩
  have s56:=s5.trans s6
  have era6:=s6 _ _ era
  walk_at "ND"
  by_cases c1:je6 ps s = m
  ·rw [decide_eq_true c1]
   walk_at "ND"
   refine jbh (Itl K ol) H6 (fun R2 hR2=>?_) (fun z1l hz1l=>jbn (twos hs 2).length (fun j σ' Hd=>∃ w1,σ' = [w1,some (.ref ra)]/\Same H6 Hd/\Hd z1l = some (.lst ((lack ((twos hs 2).take j) s).map V.int))) ⟨none,rfl,jag hz1l _,ja1⟩ ?_ ?_)
   ·unfold jck
    walk_at "ND"
    exact ⟨ol,rfl,⟨_,SqL.of (s56 _ _ eol4)⟩,hR2⟩
   ·rintro j σ' Hd hj ⟨w1,rfl,s9,edl⟩
    have z1:SqL K Hd ol ((twos hs 2).map V.int):=SqL.of (s9 _ _ (s56 _ _ eol4))
    have x1:((twos hs 2).map V.int)[j]? = some (((twos hs 2).map V.int)[j]'(by rw [List.length_map]; omega)):=gE _
    refine ⟨⟨_,_,z1,x1⟩,?_⟩
    rintro y' H' ⟨rfl,hy⟩
    obtain ⟨n,hn,rfl⟩:=jmc (hy _ z1)
    have ft:=jc1 (f:=fun x:Int=>!decide (x ∈ s)) hn
    have hfl:(lack ((twos hs 2).take j) s).length <= 200:=Nat.le_trans (List.length_filter_le _ _) (by rw [List.length_take]; omega)
    unfold lack at hfl edl
    simp_all_arith [jbm,s9 _ _ era6,jdh,flat_ints,jdk]
    unfold lack
    by_cases c:n ∈ s
    ·simp only [c,decide_true,Bool.not_true,Bool.false_eq_true,if_false,if_true,List.append_nil] at ft ⊢
     exact ⟨_,rfl,s9,by rw [ft]; exact edl⟩
    ·simp only [c,decide_false,Bool.not_false,Bool.false_eq_true,if_true,if_false,List.append_nil] at ft ⊢
     refine ⟨_,edl,?_,_,rfl,jbi s9 hz1l,?_⟩
     ·rw [List.length_map]
      exact szl' (by omega)
     ·rw [ja1,ft,List.map_append]
      rfl
   rintro σ' H7 ⟨w1,rfl,s7,edl⟩
   refine ⟨⟨_,SqL.of (s7 _ _ (s56 _ _ eol4)),by rw [List.length_map]; omega⟩,?_⟩
   rw [List.take_length] at edl
   walk_at "ND"
   intro e1 he1
   have t1:=jag he1 (.lst [])
   have ee1:upd H7 e1 (.lst []) e1 = some (.lst []):=ja1
   generalize upd H7 e1 (.lst []) = HA at t1 ee1
   have s7A:=s7.trans t1
   have s5A:=s56.trans s7A
   refine ⟨_,_,jiv (t1 _ _ edl),jlo ee1,jhh _,.inl ⟨_,_,rfl,rfl⟩,?_⟩
   rw [jjl]
   by_cases c2:lack (twos hs 2) s = []
   ·rw [decide_eq_true c2]
    walk_at "ND"
    have eraA:=s7A _ _ era6
    refine jbh (Itl K nl) HA (fun R2 hR2=>?_) (fun z2l hz2l=>jbn (twos hs 0).length (fun j σ' Hd=>∃ w1,σ' = [w1,some (.ref ra)]/\Same HA Hd/\Hd z2l = some (.lst ((kin ((twos hs 0).take j) s).map V.int))) ⟨none,rfl,jag hz2l _,ja1⟩ ?_ ?_)
    ·unfold jck
     walk_at "ND"
     exact ⟨nl,rfl,⟨_,SqL.of (s5A _ _ enl)⟩,hR2⟩
    ·rintro j σ' Hd hj ⟨w1,rfl,s9,edl⟩
     have z1:SqL K Hd nl ((twos hs 0).map V.int):=SqL.of (s9 _ _ (s5A _ _ enl))
     have x1:((twos hs 0).map V.int)[j]? = some (((twos hs 0).map V.int)[j]'(by rw [List.length_map]; omega)):=gE _
     refine ⟨⟨_,_,z1,x1⟩,?_⟩
     rintro y' H' ⟨rfl,hy⟩
     obtain ⟨n,hn,rfl⟩:=jmc (hy _ z1)
     have ft:=jc1 (f:=fun x:Int=>decide (x ∈ s)) hn
     have hfl:(kin ((twos hs 0).take j) s).length <= 200:=Nat.le_trans (List.length_filter_le _ _) (by rw [List.length_take]; omega)
     unfold kin at hfl edl
     simp_all_arith [jbm,s9 _ _ eraA,jdh,flat_ints,jdk]
     unfold kin
     by_cases c:n ∈ s
     ·simp only [c,decide_true,Bool.not_true,Bool.false_eq_true,if_false,if_true,List.append_nil] at ft ⊢
      refine ⟨_,edl,?_,_,rfl,jbi s9 hz2l,?_⟩
      ·rw [List.length_map]
       exact szl' (by omega)
      ·rw [ja1,ft,List.map_append]
       rfl
     ·simp only [c,decide_false,Bool.not_false,Bool.false_eq_true,if_true,if_false,List.append_nil] at ft ⊢
      exact ⟨_,rfl,s9,by rw [ft]; exact edl⟩
    rintro σ' HB ⟨w1,rfl,sB,edl2⟩
    refine ⟨⟨_,SqL.of (sB _ _ (s5A _ _ enl)),by rw [List.length_map]; omega⟩,?_⟩
    rw [List.take_length] at edl2
    walk_at "ND"
    intro e2 he2
    have t2:=jag he2 (.lst [])
    have ee2:upd HB e2 (.lst []) e2 = some (.lst []):=ja1
    generalize upd HB e2 (.lst []) = HC at t2 ee2
    refine ⟨_,_,jiv (t2 _ _ edl2),jlo ee2,jhh _,.inl ⟨_,_,rfl,rfl⟩,?_⟩
    rw [jjl]
    have s5C:=s5A.trans (sB.trans t2)
    by_cases c3:kin (twos hs 0) s = []
    ·rw [decide_eq_true c3]
     walk_at "ND"
     exact ⟨_,_,rfl,s5C,by omega,fun x hx h1 h2=>by omega⟩
    ·rw [decide_eq_false c3]
     walk_at "ND"
     exact ⟨_,_,rfl,s5C,by omega,fun x hx h1 h2=>by
      rcases tk x hx with q | rfl
      ·have:=hf x q h1 h2; omega
      ·exact absurd h2 c3⟩
   ·rw [decide_eq_false c2]
    walk_at "ND"
    exact ⟨_,_,rfl,s5A,f0,fun x hx h1 h2=>by
     rcases tk x hx with q | rfl
     ·exact hf x q h1 h2
     ·exact absurd h1.2 c2⟩
  ·rw [decide_eq_false c1]
   walk_at "ND"
   exact ⟨_,_,rfl,s56,f0,fun x hx h1 h2=>by
    rcases tk x hx with q | rfl
    ·exact hf x q h1 h2
    ·exact absurd h1.1 c1⟩
 rintro σ H5 ⟨f,w8,rfl,s5',f0,hf⟩
 rw [Paired.length prz4,List.take_length] at hf
 have fpos:0 < f:=by
  obtain ⟨s,h1,h2,h3⟩:=jln wk bst ehs MO
  exact hf s h1 h2 h3
 have s5:=s4.trans s5'
 have eol5:=s5' _ _ eol4
 clear hf
 refine (?_:R _ _ _)
 subst hR
 refine jbc fun R hR=>?_
 walk_at "ND"
 refine ⟨v,l,zs,ps,ts,y,rfl,hw.same s5,wk,s5 _ _ el,by rw [<- ehs]; exact Prs.same s5 pz,fun lt H6 s6' lw=>?_⟩
 have s6:=s5.trans s6'
 have lwk:=jjc y wk
 have l9:(jd2 y ps).length <= 9:=Nat.le_trans (List.length_filter_le _ _) h9
 have hr6:(jd8 (jd2 y ps) (jdy y ts)).length <= 512:=jkg l9
 subst hR
 refine jbc fun R hR=>?_
 walk_at "ND"
 refine jek (ι:=Addr × List V × Hp) (fun p=>Itl K p.1) (fun p=>p.2.2) (fun p=>Same H6 p.2.2/\p.2.2 p.1 = some (.lst p.2.1)/\LsRs p.2.2 p.2.1 (jd8 (jd2 y ps) (jdy y ts))) (fun R2 hR2=>?_) (fun ⟨sl,sz,H7⟩ ⟨s7',esl,psl⟩ z2 hz2=>jbn (jd8 (jd2 y ps) (jdy y ts)).length (fun j σ' Hd=>∃ w1,σ' = [w1,some (.ref lt)]/\Same H7 Hd/\Hd z2 = some (.lst ((((jd8 (jd2 y ps) (jdy y ts)).take j).map (je6 (jd2 y ps))).map V.int))) ⟨none,rfl,jag hz2 _,ja1⟩ ?_ ?_)
 ·unfold jck
  walk_at "ND"
  exact ⟨.ref lt,jd2 y ps,jdy y ts,rfl,lw,lwk,l9,fun sl sz H7 s7 esl psl=>⟨sl,rfl,⟨_,SqL.of esl⟩,hR2 ⟨sl,sz,H7⟩ ⟨s7,esl,psl⟩⟩⟩
 ·rintro j σ' Hd hj ⟨w1,rfl,s9,edl⟩
  have z1:SqL K Hd sl sz:=SqL.of (s9 _ _ esl)
  have x1:sz[j]? = some (sz[j]'(by have:=Paired.length psl; dsimp only at this; omega)):=gE _
  refine ⟨⟨_,_,z1,x1⟩,?_⟩
  rintro y' H' ⟨rfl,hy⟩
  obtain ⟨s,hs,qs⟩:=jbd psl (hy _ z1)
  obtain ⟨ra,rfl,era⟩:=qs.same s9
  walk_at "ND"
  refine ⟨(.ref lt),ra,(jd2 y ps),(jdy y ts),s,rfl,(lw.same s7').same s9,by omega,era,fun H5 s5=>?_⟩
  walk_at "ND"
  refine ⟨_,s5 _ _ edl,?_,_,rfl,jbi (s9.trans s5) hz2,?_⟩
  ·rw [List.length_map,List.length_map,List.length_take]
   exact szl' (by omega)
  ·rw [ja1,jbr hs,List.map_append,List.map_append]
   rfl
 rintro σ' H8 ⟨w1,rfl,s8',ez2⟩
 refine ⟨⟨_,SqL.of (s8' _ _ esl),by have:=Paired.length psl; omega⟩,?_⟩
 rw [List.take_length] at ez2
 have s8:=s6.trans (s7'.trans s8')
 have eol8:=(s6'.trans (s7'.trans s8')) _ _ eol5
 walk_at "ND"
 refine ⟨z2,_,rfl,ez2,by simpa using jmz,fun m2 n1 n2=>?_⟩
 have MO2:jm8 ((jd8 (jd2 y ps) (jdy y ts)).map (je6 (jd2 y ps))) m2:=⟨n1,n2⟩
 have RC:=jnx wk bst ehs MO MO2
 have RH:=jnw wk bst MO
 clear ez2 n1 n2
 obtain ⟨u,pa,ta,xs,ys,rfl,eu,epa,eta,hxs,hys⟩:=id hw
 have hxl:=Paired.length hxs
 subst hR
 refine jbc fun R hR=>?_
 simp_all_arith [jbm,s8 _ _ eu,at0,s8 _ _ epa]
 refine ⟨jco ps,jg6 (Prs.same s8 hxs),by omega,jfk wk.p.nodup,fun d hd=>?_⟩
 have q9:=jag hd (.dK (jco ps))
 have ed:upd H8 d (.dK (jco ps)) d = some (.dK (jco ps)):=ja1
 generalize upd H8 d (.dK (jco ps)) = H9 at q9 ed
 have s9:=s8.trans q9
 subst hR
 refine jbc fun R hR=>?_
 walk_at "ND"
 refine jbh (Itl K l) H9 (fun R2 hR2=>?_) (fun z hz0=>jbn ps.length (fun i σ' Hc=>∃ w1 w2,σ' = [w1,w2,some (.ref d)]/\Same H9 Hc/\Hc z = some (.lst (((ps.take i).map fun p=>p.2 * y p.1).map V.int))) ⟨none,none,rfl,jag hz0 _,ja1⟩ ?_ ?_)
 ·unfold jck
  walk_at "ND"
  exact ⟨l,rfl,⟨_,SqL.of (s9 _ _ el)⟩,hR2⟩
 ·rintro i σ' Hc hi ⟨w1,w2,rfl,s7,ez⟩
  have x1:zs[i]? = some (zs[i]'(by omega)):=gE _
  have z1:SqL K Hc l zs:=SqL.of (s7 _ _ (s9 _ _ el))
  refine ⟨⟨_,_,z1,x1⟩,?_⟩
  rintro y' H' ⟨rfl,hy⟩
  obtain ⟨t,ht,pt⟩:=jbd pz (hy _ z1)
  obtain ⟨a,rfl,ha⟩:=pt.same (s9.trans s7)
  rw [ehs,List.getElem?_map] at ht
  obtain ⟨p,hp,rfl⟩:=Option.map_eq_some_iff.mp ht
  have hpm:=List.mem_of_getElem? hp
  have bb:=bst.c.b p hpm
  have v1:=jei wk.p.nodup hpm
  simp_all_arith [ha,s7 _ _ ed,v1]
  refine ⟨cmR (by omega) (by omega),_,ez,?_,_,_,rfl,jbi s7 hz0,?_⟩
  ·rw [List.length_map,List.length_map,List.length_take]
   exact szl' (by omega)
  ·rw [ja1,jbr hp,List.map_append,List.map_append]
   rfl
 rintro σ' HA ⟨w1,w2,rfl,sA,ez⟩
 refine ⟨⟨_,SqL.of (sA _ _ (s9 _ _ el)),by omega⟩,?_⟩
 rw [List.take_length] at ez
 have s9A:=s9.trans sA
 walk_at "ND"
 refine ⟨z,_,rfl,ez,?_⟩
 have epd:(ps.map fun p=>p.2 * y p.1).sum = jcy ps y:=rfl
 rw [epd]
 subst hR
 walk_at "ND"
 rw [decide_eq_true (show f > 0 from fpos)]
 walk_at "ND"
 refine ⟨.ref u,ol,ps,ts,twos hs 2,rfl,hw.same s9A,by omega,(q9.trans sA) _ _ eol8,fun HB sB=>?_⟩
 walk_at "ND"
 rw [decide_eq_true RC]
 walk_at "ND"
 rw [decide_eq_true (show 2 * m ≥ jcy ps y from RH)]
 exact ⟨.inl ⟨by decide,by decide⟩,h HB (s9A.trans sB)⟩
def prsD (ts:List (Int × Int)):Dt:=.lst (ts.map jee)
theorem jiu {H:Hp} {a:Addr} {xs:List V} {ps:List (Int × Int)} (e:H a = some (.lst xs)) (pp:Prs H xs ps):Rep H (prsD ps) (.ref a):=by
 unfold prsD
 rw [Rep]
 exact ⟨a,xs,rfl,e,Prs.reps pp⟩
theorem js9 (ps ts:List (Int × Int)) (r:List Int):(halT ps ts r).length = ps.length:=by
 unfold halT halR
 rw [List.length_map,List.length_range]
def shP (qs:List (Int × Int)):List (Int × Int):=qs.map fun p=>(p.1 + 500,p.2)
def shT (us:List (Int × Int)):List (Int × Int):=us.map fun t=>(t.1 + 500,t.2 + 500)
theorem Dr.top:∀ {ps:List (Int × Int)} {l:Int},Dr l ps->∀ p ∈ ps,p.1 <= l + 23 * ps.length
 | [],_,_,_,h=>by cases h
 | q :: r,l,h,p,hp=>by
  have e:((q :: r).length:Int) = r.length + 1:=by simp
  have a:=h.1
  rcases List.mem_cons.mp hp with z | hp
  ·rw [e,z]; omega
  ·have:=Dr.top h.2 p hp
   rw [e]; omega
theorem Dr.sh:∀ {ps:List (Int × Int)} {l:Int},Dr l ps->Dr (l + 500) (shP ps)
 | [],_,_=>trivial
 | q :: r,l,h=>⟨⟨by have:=h.1.1; show l + 500 < q.1 + 500; omega,by have:=h.1.2.1; show q.1 + 500 <= l + 500 + 23; omega,h.1.2.2.1,h.1.2.2.2⟩,Dr.sh h.2⟩
theorem PlOk.mono:∀ {ps:List (Int × Int)} {l s l':Int},PlOk l s ps->l' <= l->PlOk l' s ps
 | [],_,_,_,_,_=>trivial
 | p :: r,l,s,l',h,h1=>⟨⟨by have:=h.1.1; omega,h.1.2⟩,h.2⟩
theorem jsy {qs:List (Int × Int)}:∀ {ps:List (Int × Int)} {l s:Int},Dr l ps->(∀ m t,m <= l + 23 * ps.length->t <= s + 1000000000 * ps.length->PlOk m t qs)->l + 23 * ps.length <= 999->s + 1000000000 * ps.length <= 1000000000000->PlOk l s (ps ++ qs)
 | [],l,s,_,h,_,_=>h l s (by simp) (by simp)
 | p :: r,l,s,d,h,h1,h2=>by
  have e:((p :: r).length:Int) = r.length + 1:=by simp
  rw [e] at h h1 h2
  obtain ⟨⟨a1,a2,a3,a4⟩,h3⟩:=d
  exact ⟨⟨a1,by omega,a3,by omega⟩,jsy h3 (fun m t x y=>h m t (by omega) (by omega)) (by omega) (by omega)⟩
theorem jtt (qs:List (Int × Int)):(shP qs).map (·.1) = (qs.map (·.1)).map (· + 500):=by
 unfold shP
 rw [List.map_map,List.map_map]
 rfl
theorem pw_sh {us:List (Int × Int)} (h:us.Pairwise Lx):(shT us).Pairwise Lx:=by
 unfold shT
 rw [List.pairwise_map]
 refine h.imp fun {a b} q=>?_
 unfold Lx at q ⊢
 rw [HT.lexLt_cons] at q ⊢
 by_cases c:a.1 = b.1
 ·rw [if_pos c,HT.lexLt_cons] at q
  rw [if_pos (by omega),HT.lexLt_cons]
  by_cases c2:a.2 = b.2
  ·rw [if_pos c2] at q; rw [if_pos (by omega)]; exact q
  ·rw [if_neg c2] at q; rw [if_neg (by omega)]
   have:=of_decide_eq_true q
   exact decide_eq_true (by omega)
 ·rw [if_neg c] at q
  rw [if_neg (by omega)]
  have:=of_decide_eq_true q
  exact decide_eq_true (by omega)
theorem far_of {ps ts qs us:List (Int × Int)} (wk:WebOk ps ts) (wq:WebOk qs us) (d1:Dr (-1) ps) (d2:Dr (-1) qs) (l1:ps.length <= 10) (l2:qs.length <= 10) (t1:ts.length <= 45) (t2:us.length <= 45):Far ps ts (shP qs) (shT us):=by
 have lq:(shP qs).length = qs.length:=List.length_map _
 have lu:(shT us).length = us.length:=List.length_map _
 have ds:Dr 499 (shP qs):=d2.sh
 have pk0:∀ m t,m <= 499->t <= 990000000000->PlOk m t (shP qs):=fun m t h1 h2=>PlOk.mono (Dr.pl (l:=499) (s:=t) ds (by rw [lq]; omega) (by rw [lq]; omega)) h1
 have pkq:PlOk (-1) 0 (shP qs):=pk0 _ _ (by omega) (by omega)
 have pkb:PlOk (-1) 0 (ps ++ shP qs):=jsy d1 (fun m t h1 h2=>pk0 m t (by omega) (by omega)) (by omega) (by omega)
 have endq:∀ u ∈ shT us,u.1 < u.2/\u.1 ∈ (shP qs).map (·.1)/\u.2 ∈ (shP qs).map (·.1)/\499 < u.1:=fun u hu=>by
  unfold shT at hu
  obtain ⟨t,ht,rfl⟩:=List.mem_map.mp hu
  obtain ⟨m1,m2⟩:=jd6 wq t ht
  rw [jtt]
  have g:=TiOk.in wq.t t ht
  refine ⟨by have:=g.1; dsimp only; omega,List.mem_map.mpr ⟨_,m1,rfl⟩,List.mem_map.mpr ⟨_,m2,rfl⟩,?_⟩
  obtain ⟨p,hp,e⟩:=List.mem_map.mp m1
  have:=Dr.gt d2 p hp
  dsimp only
  omega
 have endp:∀ t ∈ ts,t.1 <= 229/\t.1 < t.2:=fun t ht=>by
  obtain ⟨m1,_⟩:=jd6 wk t ht
  obtain ⟨p,hp,e⟩:=List.mem_map.mp m1
  have:=Dr.top d1 p hp
  exact ⟨by omega,(TiOk.in wk.t t ht).1⟩
 have hk:∀ {rs:List (Int × Int)} {n:Int},(rs.map (·.1)).Nodup->n ∈ rs.map (·.1)->hasK (jco rs) n = true:=fun nd h=>by
  obtain ⟨p,hp,rfl⟩:=List.mem_map.mp h
  exact jfl nd hp
 have pq:(shT us).Pairwise Lx:=pw_sh (jik wq.t)
 have fq:∀ u ∈ shT us,Lx (-1,-1) u:=fun u hu=>jft (by have:=(endq u hu).2.2.2; dsimp only; omega)
 refine ⟨wk,⟨by omega,pkq,by omega,jgh pq fq fun u hu=>?_⟩,⟨by rw [List.length_append]; omega,pkb,by rw [List.length_append]; omega,jgh ?_ ?_ ?_⟩,fun p hp q hq=>?_⟩
 ·have:=endq u hu
  exact ⟨this.1,hk pkq.nodup this.2.1,hk pkq.nodup this.2.2.1⟩
 ·refine List.pairwise_append.mpr ⟨jik wk.t,pq,fun t ht u hu=>jft ?_⟩
  have:=(endq u hu).2.2.2
  have:=(endp t ht).1
  omega
 ·intro t ht
  rcases List.mem_append.mp ht with h | h
  ·exact TiOk.lt wk.t t h
  ·exact fq t h
 ·intro t ht
  have sub1:∀ {n},n ∈ ps.map (·.1)->n ∈ (ps ++ shP qs).map (·.1):=fun h=>by rw [List.map_append]; exact List.mem_append_left _ h
  have sub2:∀ {n},n ∈ (shP qs).map (·.1)->n ∈ (ps ++ shP qs).map (·.1):=fun h=>by rw [List.map_append]; exact List.mem_append_right _ h
  rcases List.mem_append.mp ht with h | h
  ·obtain ⟨m1,m2⟩:=jd6 wk t h
   exact ⟨(endp t h).2,hk pkb.nodup (sub1 m1),hk pkb.nodup (sub1 m2)⟩
  ·have:=endq t h
   exact ⟨this.1,hk pkb.nodup (sub2 this.2.1),hk pkb.nodup (sub2 this.2.2.1)⟩
 ·have a:=Dr.top d1 p hp
  have b:=Dr.gt ds q hq
  omega
def spFar:Sp:=fun vs H Q _=>∃ v ps ts,vs = [v]/\jd3 H v ps ts/\ps.length <= 40/\ts.length <= 120/\∀ t H',Same H H'->jd3 H' (.ref t) (shP ps) (shT ts)->Q (.ref t) H'
def jmy:Sp:=fun vs H Q _=>∃ v1 v2 ps ts qs us,vs = [v1,v2]/\jd3 H v1 ps ts/\jd3 H v2 qs us/\Far ps ts qs us/\ps.length <= 10/\qs.length <= 10/\∀ H',Same H H'->Q (.bl true) H'
theorem jgs {α β:Type} {F:α->β->Prop}:∀ {a:List α} {b:List β} {c:List α} {d:List β},Paired F a b->Paired F c d->Paired F (a ++ c) (b ++ d)
 | _,_,_,_,.nil,h=>h
 | _,_,_,_,.cons r t,h=>.cons r (jgs t h)
theorem jlr {H:Hp} {xs ys:List V} {ps qs:List (Int × Int)} (h:Prs H xs ps) (g:Prs H ys qs):Prs H (xs ++ ys) (ps ++ qs):=jgs h g
theorem jo3 (B:Blt mg) (D:DefAt K mg "_law_far" (top 43) ["_law_web_here"] f fd):FnOk P w K mg base CX0 1 f fd ["_law_web_here"] spFar:=by
 have sc:FnScope ["_law_web_here","_law_places_here"] ["_law_web_here"] (jbe (top 43)):=by walk_at "SC"
 refine D.F.ok sc (fun vs H Q E h=>?_) (fun cdv A outer s H vs Q E hr h=>?_)
 ·obtain ⟨v,ps,ts,rfl,_⟩:=h
  rfl
 obtain ⟨v,ps,ts,rfl,hw,hp40,ht120,h⟩:=h
 obtain ⟨u,pa,ta,xs,ys,rfl,eu,epa,eta,hxs,hys⟩:=id hw
 have hxl:=Paired.length hxs
 have hyl:=Paired.length hys
 have s0:Same H H:=fun _ _ q=>q
 have hu:=jcc hr
 have hu0:_ < PySem.cLine:=Nat.lt_of_succ_lt hu
 refine ⟨_,(jaf (jdj (i:=1) sc.nd rfl (Or.inl rfl) (CpScope.of (N:=["_law_place","_law_price"]) (src:=[none,none]) (by rfl)) rfl (jbt (jbj q_ix (qv 0) jai (fun _ _=>rfl))) (fun _ _ _ _=>(jci (n:=2) rfl (jbb (jb9 (i:=0) (jba (l:=["_law_place","_law_price"]) (by rfl)) rfl (Or.inl rfl)) (jbb (jb9 (i:=1) (jba (l:=["_law_place","_law_price"]) (by rfl)) rfl (Or.inl rfl)) jbw)))) (fun _ _ _ _=>jch) (fun _ _ _ _=>(jc9 (ja0 (jbo jcb (qv 0) jai) (ja0 (qv 1) jah))))) (jb8 (jbu (jc9 (ja0 (qv 1) (ja0 (jc7 (CpScope.of (N:=["_law_one","_law_other"]) (src:=[none,none]) (by rfl)) rfl (jbt (jbj q_ix (qv 0) jai (fun _ _=>rfl))) (fun _ _ _ _=>(jci (n:=2) rfl (jbb (jb9 (i:=0) (jba (l:=["_law_one","_law_other"]) (by rfl)) rfl (Or.inl rfl)) (jbb (jb9 (i:=1) (jba (l:=["_law_one","_law_other"]) (by rfl)) rfl (Or.inl rfl)) jbw)))) (fun _ _ _ _=>jch) (fun _ _ _ _=>(jc9 (ja0 (jbo jcb (qv 0) jai) (ja0 (jbo jcb (qv 1) jai) jah))))) jah)))))),?_⟩
 walk_at "ND"
 refine jbh (Itl K pa) H (fun R2 hR2=>?_) (fun pl hpl=>jbn ps.length (fun j σ' Hc=>∃ w1 w2 ws,σ' = [w1,w2]/\Same H Hc/\Hc pl = some (.lst ws)/\Prs Hc ws (shP (ps.take j))) ⟨none,none,[],rfl,jag hpl _,ja1,.nil⟩ ?_ ?_)
 ·unfold jck
  simp_all_arith [jbm,s0 _ _ eu,at0]
  exact ⟨pa,rfl,⟨_,SqL.of (s0 _ _ epa)⟩,hR2⟩
 ·rintro j σ' Hc hj ⟨w1,w2,ws,rfl,sQ,ez,pw⟩
  have sR:=s0.trans sQ
  have z1:SqL K Hc pa xs:=SqL.of (sR _ _ epa)
  have x1:xs[j]? = some (xs[j]'(by omega)):=gE _
  refine ⟨⟨_,_,z1,x1⟩,?_⟩
  rintro y' H' ⟨rfl,hy⟩
  obtain ⟨p,hp,pp⟩:=jbd hxs (hy _ z1)
  obtain ⟨a,rfl,ha⟩:=pp.same sR
  have hwl:=Paired.length pw
  have htk:(shP (ps.take j)).length = j:=by unfold shP; rw [List.length_map,List.length_take]; omega
  simp_all_arith [ha]
  intro t5 ht5
  have q5:=jag ht5 (.tup [.int (p.1 + 500),.int p.2])
  have e5:=q5 _ _ ez
  have t6:=jbv (ys:=ws ++ [.ref t5]) e5
  refine ⟨_,e5,szl' (by omega),_,_,ws ++ [.ref t5],rfl,jbi (sQ.trans q5) hpl,ja1,?_⟩
  unfold shP
  rw [jbr hp,List.map_append]
  exact jbk (Prs.tups t6 (Prs.same q5 pw)) ⟨t5,rfl,t6 _ _ rfl ja1⟩
 rintro σ' H3 ⟨w1,w2',ws,rfl,s3,epl,pw⟩
 refine ⟨⟨_,SqL.of (s3 _ _ epa),by omega⟩,?_⟩
 rw [List.take_length] at pw
 walk_at "ND"
 refine jbh (Itl K ta) H3 (fun R2 hR2=>?_) (fun tl htl=>jbn ts.length (fun j σ' Hc=>∃ w1 w2 ws,σ' = [w1,w2]/\Same H3 Hc/\Hc tl = some (.lst ws)/\Prs Hc ws (shT (ts.take j))) ⟨none,none,[],rfl,jag htl _,ja1,.nil⟩ ?_ ?_)
 ·unfold jck
  simp_all_arith [jbm,s3 _ _ eu,at1]
  exact ⟨ta,rfl,⟨_,SqL.of (s3 _ _ eta)⟩,hR2⟩
 ·rintro j σ' Hc hj ⟨w1,w2,ws,rfl,sQ,ez,pw⟩
  have sR:=s3.trans sQ
  have z1:SqL K Hc ta ys:=SqL.of (sR _ _ eta)
  have x1:ys[j]? = some (ys[j]'(by omega)):=gE _
  refine ⟨⟨_,_,z1,x1⟩,?_⟩
  rintro y' H' ⟨rfl,hy⟩
  obtain ⟨p,hp,pp⟩:=jbd hys (hy _ z1)
  obtain ⟨a,rfl,ha⟩:=pp.same sR
  have hwl:=Paired.length pw
  have htk:(shT (ts.take j)).length = j:=by unfold shT; rw [List.length_map,List.length_take]; omega
  simp_all_arith [ha]
  intro t5 ht5
  have q5:=jag ht5 (.tup [.int (p.1 + 500),.int (p.2 + 500)])
  have e5:=q5 _ _ ez
  have t6:=jbv (ys:=ws ++ [.ref t5]) e5
  refine ⟨_,e5,szl' (by omega),_,_,ws ++ [.ref t5],rfl,jbi (sQ.trans q5) htl,ja1,?_⟩
  unfold shT
  rw [jbr hp,List.map_append]
  exact jbk (Prs.tups t6 (Prs.same q5 pw)) ⟨t5,rfl,t6 _ _ rfl ja1⟩
 rintro σ' H5 ⟨w1,w2',vs,rfl,s5,etl,pv⟩
 have s35:=s3.trans s5
 refine ⟨⟨_,SqL.of (s35 _ _ eta),by omega⟩,?_⟩
 rw [List.take_length] at pv
 walk_at "ND"
 intro t6 ht6
 have q6:=jag ht6 (.tup [.ref pl,.ref tl])
 exact h t6 _ (s35.trans q6) ⟨t6,pl,tl,ws,vs,rfl,ja1,q6 _ _ (s5 _ _ epl),q6 _ _ etl,Prs.same (s5.trans q6) pw,Prs.same q6 pv⟩
theorem jem (B:Blt mg) (D:DefAt K mg "_law_beside_right" (top 44) ["_law_one","_law_other"] f fd) (Dqc:DefAt K mg "halves_of" (top 30) ["web"] fqc dqc) (Gqc:FnOk P w K mg base CX0 7 fqc dqc ["web"] jka):FnOk P w K mg base CX0 8 f fd ["_law_one","_law_other"] jmy:=by
 have sc:FnScope ["_law_one","_law_other","_law_both"] ["_law_one","_law_other"] (jbe (top 44)):=by walk_at "SC"
 refine D.F.ok sc (fun vs H Q E h=>?_) (fun cdv A outer s H vs Q E hr h=>?_)
 ·obtain ⟨v1,v2,ps,ts,qs,us,rfl,_⟩:=h
  rfl
 obtain ⟨v1,v2,ps,ts,qs,us,rfl,hw1,hw2,F,l1,l2,h⟩:=h
 obtain ⟨u,pa,ta,xs,ys,rfl,eu,epa,eta,hxs,hys⟩:=id hw1
 obtain ⟨u2,pa2,ta2,xs2,ys2,rfl,eu2,epa2,eta2,hxs2,hys2⟩:=id hw2
 have hxl:=Paired.length hxs
 have hyl:=Paired.length hys
 have hxl2:=Paired.length hxs2
 have hyl2:=Paired.length hys2
 have tl1:=F.a.tl
 have tl2:=F.b.tl
 have hu:=jcc hr
 have hu0:_ < PySem.cLine:=Nat.lt_of_succ_lt hu
 refine ⟨_,(jaf (jbg (i:=2) sc.nd rfl (Or.inl rfl) (jc9 (ja0 (jbo jrf (jbj q_ix (qv 0) jai (fun _ _=>rfl)) (jbj q_ix (qv 1) jai (fun _ _=>rfl))) (ja0 (jbo jrf (jbj q_ix (qv 0) jai (fun _ _=>rfl)) (jbj q_ix (qv 1) jai (fun _ _=>rfl))) jah)))) (jb8 (jbu (jd5 (jn9 hr.units) (jbj q_ix (jbf Gqc (hr.mono (by decide)) rfl Dqc.m Dqc.F.kp Dqc.b .nil jbq (ja0 (qv 2) jah)) jai (fun _ _=>rfl)) (jbo jrf (jbj q_ix (jbf Gqc (hr.mono (by decide)) rfl Dqc.m Dqc.F.kp Dqc.b .nil jbq (ja0 (qv 0) jah)) jai (fun _ _=>rfl)) (jbj q_ix (jbf Gqc (hr.mono (by decide)) rfl Dqc.m Dqc.F.kp Dqc.b .nil jbq (ja0 (qv 1) jah)) jai (fun _ _=>rfl))) (jby _))))),?_⟩
 refine jbc fun R hR=>?_
 simp_all_arith [jbm,eu,eu2,at0,epa,epa2]
 refine ⟨szl (by omega),fun c1 hc1=>?_⟩
 have q1:=jag hc1 (.lst (xs ++ xs2))
 have ec1:upd H c1 (.lst (xs ++ xs2)) c1 = some (.lst (xs ++ xs2)):=ja1
 generalize upd H c1 (.lst (xs ++ xs2)) = H1 at q1 ec1
 simp_all_arith [jbm,q1 _ _ eu,q1 _ _ eu2,at1,q1 _ _ eta,q1 _ _ eta2]
 refine ⟨szl (by omega),fun c2 hc2=>?_⟩
 have q2:=jag hc2 (.lst (ys ++ ys2))
 have ec2:upd H1 c2 (.lst (ys ++ ys2)) c2 = some (.lst (ys ++ ys2)):=ja1
 have ec12:=q2 _ _ ec1
 generalize upd H1 c2 (.lst (ys ++ ys2)) = H2 at q2 ec2 ec12
 walk_at "ND"
 intro b hb
 have q3:=jag hb (.tup [.ref c1,.ref c2])
 have eb:upd H2 b (.tup [.ref c1,.ref c2]) b = some (.tup [.ref c1,.ref c2]):=ja1
 have ec13:=q3 _ _ ec12
 have ec23:=q3 _ _ ec2
 generalize upd H2 b (.tup [.ref c1,.ref c2]) = H3 at q3 eb ec13 ec23
 have s3:=(q1.trans q2).trans q3
 have wb:jd3 H3 (.ref b) (ps ++ qs) (ts ++ us):=⟨b,c1,c2,_,_,rfl,eb,ec13,ec23,jlr (Prs.same s3 hxs) (Prs.same s3 hxs2),jlr (Prs.same s3 hys) (Prs.same s3 hys2)⟩
 subst hR
 walk_at "ND"
 refine ⟨.ref b,_,_,rfl,wb,F.ab,by rw [List.length_append]; omega,fun t0 f1 f2 zs' vs r H4 s4 et0 ef1 ef2 n0 n1 n2 ff rst pz pu=>?_⟩
 have s04:=s3.trans s4
 simp_all_arith [jbm,et0,at0]
 refine ⟨.ref u,ps,ts,rfl,hw1.same s04,F.a,by omega,fun t1 g1 g2 zs1 vs1 r1 H5 s5 et1 eg1 eg2 m0 m1 m2 gg rst1 pz1 pu1=>?_⟩
 have s05:=s04.trans s5
 simp_all_arith [jbm,et1,at0]
 refine ⟨.ref u2,qs,us,rfl,hw2.same s05,F.b,by omega,fun t2 k1 k2 zs2 vs2 r2 H6 s6 et2 ek1 ek2 p0 p1 p2 kk rst2 pz2 pu2=>?_⟩
 have s06:=s05.trans s6
 have eg16:=s6 _ _ eg1
 simp_all_arith [jbm,et2,at0,eg16,ek1]
 have z1l:=Paired.length pz1
 have z2l:=Paired.length pz2
 rw [js9] at z1l z2l
 refine ⟨szl (by omega),fun c3 hc3=>?_⟩
 have q7:=jag hc3 (.lst (zs1 ++ zs2))
 have ec3:upd H6 c3 (.lst (zs1 ++ zs2)) c3 = some (.lst (zs1 ++ zs2)):=ja1
 generalize upd H6 c3 (.lst (zs1 ++ zs2)) = H7 at q7 ec3
 have s57:=s6.trans q7
 have s47:=s5.trans s57
 have ta:=jr6 F rst1 rst2 rst
 have pz7:=Prs.same s47 pz
 rw [ta] at pz7
 have pc3:=jlr (Prs.same s57 pz1) (Prs.same q7 pz2)
 refine ⟨_,_,jiu (s47 _ _ ef1) pz7,jiu ec3 pc3,by have:=jhg (halT ps ts r1 ++ halT qs us r2); unfold prsD; rw [depP]; omega,.inl ⟨_,_,rfl,rfl⟩,?_⟩
 rw [jf4]
 exact h H7 (s06.trans q7)
def jr8 (K:PySem.W.Frag):Sp:=fun vs H Q _=>∃ a ns,vs = [.ref a]/\Scr K H a ns/\∀ H',Q (.bl true) H'
theorem juy {ps qs:List (Int × Int)} (e:qs.map (·.1) = ps.map (·.1)) (nd:(ps.map (·.1)).Nodup):qs = ps.map fun p=>(p.1,hOf qs p.1):=by
 have nq:(qs.map (·.1)).Nodup:=by rw [e]; exact nd
 have h1:(ps.map fun p=>(p.1,hOf qs p.1)) = (ps.map (·.1)).map fun n=>(n,hOf qs n):=by rw [List.map_map]; rfl
 rw [h1,<- e,List.map_map]
 have h2:qs.map ((fun n=>(n,hOf qs n)) ∘ fun x=>x.1) = qs.map id:=List.map_congr_left fun q hq=>by
  show (q.1,hOf qs q.1) = q
  rw [jnj nq hq]
 rw [h2,List.map_id]
theorem jnh:∀ {ns cs:List Int},(jce ns cs).length <= cs.length
 | [],[]=>Nat.le_refl _
 | [],_ :: _=>Nat.zero_le _
 | _ :: _,[]=>Nat.zero_le _
 | n :: ns,c :: cs=>by
  have:=jnh (ns:=ns) (cs:=cs)
  rw [jce]
  split <;> simp only [List.length_cons] <;> omega
theorem nw_at {H H':Hp} {t:Addr} {ps ts:List (Int × Int)} (h:jtg H H' t ps ts):jd3 H' (.ref t) ps ts:=by
 obtain ⟨l1,l2,xs,ys,_,_,_,h1,h2,h3,h4,h5⟩:=h
 exact ⟨t,l1,l2,xs,ys,rfl,h1,h2,h3,h4,h5⟩
theorem ok_law (B:Blt mg) (D:DefAt K mg "law" (top 45) ["_law_script"] f fd) (Dqs:DefAt K mg "_law_begun" (top 33) ["_law_script","_law_k"] fqs dqs) (Gqs:FnOk P w K mg base CX0 1 fqs dqs ["_law_script","_law_k"] (jp3 K)) (Dqv:DefAt K mg "_law_laid" (top 38) ["_law_state","_law_most"] fqv dqv) (Gqv:FnOk P w K mg base CX0 3 fqv dqv ["_law_state","_law_most"] joz) (Dql:DefAt K mg "_law_right" (top 42) ["_law_web_here","_law_halves"] fql dql) (Gql:FnOk P w K mg base CX0 2 fql dql ["_law_web_here","_law_halves"] jou) (Dqk:DefAt K mg "_law_web" (top 36) ["_law_state","_law_most"] fqk dqk) (Gqk:FnOk P w K mg base CX0 3 fqk dqk ["_law_state","_law_most"] jso) (Dqw:DefAt K mg "_law_own" (top 32) ["_law_web_here"] fqw dqw) (Gqw:FnOk P w K mg base CX0 1 fqw dqw ["_law_web_here"] jsw) (Dqc:DefAt K mg "halves_of" (top 30) ["web"] fqc dqc) (Gqc:FnOk P w K mg base CX0 7 fqc dqc ["web"] jka) (Dqh:DefAt K mg "_law_left" (top 41) ["_law_web_here","_law_halves"] fqh dqh) (Gqh:FnOk P w K mg base CX0 1 fqh dqh ["_law_web_here","_law_halves"] joy) (Dqt:DefAt K mg "_law_beside_right" (top 44) ["_law_one","_law_other"] fqt dqt) (Gqt:FnOk P w K mg base CX0 8 fqt dqt ["_law_one","_law_other"] jmy) (Dqu:DefAt K mg "_law_far" (top 43) ["_law_web_here"] fqu dqu) (Gqu:FnOk P w K mg base CX0 1 fqu dqu ["_law_web_here"] spFar):FnOk P w K mg base CX0 9 f fd ["_law_script"] (jr8 K):=by
 have sc:FnScope ["_law_script","_law_k","_law_state","_law_web_here","_law_halves","_law_dues","_law_left_here"] ["_law_script"] (jbe (top 45)):=by walk_at "SC"
 refine D.F.ok sc (fun vs H Q E h=>?_) (fun cdv A outer s H vs Q E hr h=>?_)
 ·obtain ⟨a,ns,rfl,_⟩:=h
  rfl
 obtain ⟨a,ns,rfl,hs,h⟩:=h
 have hu:=jcc hr
 have hu0:_ < PySem.cLine:=Nat.lt_of_succ_lt hu
 refine ⟨_,(jaf (jcw PassesOwn.never rfl (jd0 rfl B.range (ja0 (jbp (q_max rfl) rfl B.max PyProof.Rows.boot_max (ja0 jai (ja0 (jbp (q_min rfl) rfl B.min PyProof.Rows.boot_min (ja0 (jbp je7 rfl B.len PySem.boot_len (ja0 (qv 0) jah)) (ja0 jai jah))) jah))) jah)) (jb9 (i:=1) sc.nd rfl (Or.inl rfl)) (jaf (jbg (i:=2) sc.nd rfl (Or.inl rfl) (jbf Gqs (hr.mono (by decide)) rfl Dqs.m Dqs.F.kp Dqs.b .nil jbq (ja0 (qv 0) (ja0 (qv 1) jah)))) (jaf (jgo (jbf Gqv (hr.mono (by decide)) rfl Dqv.m Dqv.F.kp Dqv.b .nil jbq (ja0 (qv 2) (ja0 jai jah))) (jci (n:=3) rfl (jbb (jb9 (i:=3) sc.nd rfl (Or.inl rfl)) (jbb (jb9 (i:=4) sc.nd rfl (Or.inl rfl)) (jbb (jb9 (i:=5) sc.nd rfl (Or.inl rfl)) jbw))))) (jaf (jdf (jeh (jdz (jbf Gql (hr.mono (by decide)) rfl Dql.m Dql.F.kp Dql.b .nil jbq (ja0 (qv 3) (ja0 (qv 4) jah))))) (jb8 (jbu jj4)) jc5) (jaf (jbg (i:=3) sc.nd rfl (Or.inl rfl) (jbf Gqk (hr.mono (by decide)) rfl Dqk.m Dqk.F.kp Dqk.b .nil jbq (ja0 (qv 2) (ja0 jai jah)))) (jaf (jbg (i:=4) sc.nd rfl (Or.inl rfl) (jbj q_ix (jbf Gqc (hr.mono (by decide)) rfl Dqc.m Dqc.F.kp Dqc.b .nil jbq (ja0 (jbf Gqw (hr.mono (by decide)) rfl Dqw.m Dqw.F.kp Dqw.b .nil jbq (ja0 (qv 3) jah)) jah)) jai (fun _ _=>rfl))) (jaf (jbg (i:=6) sc.nd rfl (Or.inl rfl) (jbf Gqh (hr.mono (by decide)) rfl Dqh.m Dqh.F.kp Dqh.b .nil jbq (ja0 (qv 3) (ja0 (qv 4) jah)))) (jaf (jdf (jeh (jdz (jbf Gql (hr.mono (by decide)) rfl Dql.m Dql.F.kp Dql.b .nil jbq (ja0 (qv 3) (ja0 (qv 4) jah))))) (jb8 (jbu jj4)) jc5) (jaf (jdf (jc0 (op_neD hr.units) (jbj q_ix (jbf Gqc (hr.mono (by decide)) rfl Dqc.m Dqc.F.kp Dqc.b .nil jbq (ja0 (qv 6) jah)) jai (fun _ _=>rfl)) (jc7 (CpScope.of (N:=["_law_place","_law_price"]) (src:=[none,none]) (by rfl)) rfl (jbt (jbj q_ix (qv 6) jai (fun _ _=>rfl))) (fun _ _ _ _=>(jci (n:=2) rfl (jbb (jb9 (i:=0) (jba (l:=["_law_place","_law_price"]) (by rfl)) rfl (Or.inl rfl)) (jbb (jb9 (i:=1) (jba (l:=["_law_place","_law_price"]) (by rfl)) rfl (Or.inl rfl)) jbw)))) (fun _ _ _ _=>jch) (fun _ _ _ _=>(jc9 (ja0 (qv 0) (ja0 jai jah))))) (jby _)) (jb8 (jbu jj4)) jc5) (jb8 (jdf (jeh (jdz (jbf Gqt (hr.mono (by decide)) rfl Dqt.m Dqt.F.kp Dqt.b .nil jbq (ja0 (jbf Gqk (hr.mono (by decide)) rfl Dqk.m Dqk.F.kp Dqk.b .nil jbq (ja0 (qv 2) (ja0 jai jah))) (ja0 (jbf Gqu (hr.mono (by decide)) rfl Dqu.m Dqu.F.kp Dqu.b .nil jbq (ja0 (jbf Gqk (hr.mono (by decide)) rfl Dqk.m Dqk.F.kp Dqk.b .nil jbq (ja0 (qv 2) (ja0 jai jah))) jah)) jah))))) (jb8 (jbu jj4)) jc5))))))))))) (jb8 (jbu jj4))),?_⟩
 refine jbc fun R hR=>?_
 obtain ⟨N,hN,hN2⟩:∃ N:Nat,N = (if (1:Int) < (if (8:Int) < (ns.length:Int) then 8 else (ns.length:Int)) then (if (8:Int) < (ns.length:Int) then 8 else (ns.length:Int)) else 1).toNat/\N < 70:=⟨_,rfl,by split <;> split <;> omega⟩
 refine jc2 (Itr 0 N) H (fun R' hR'=>?_) (jdc (n:=N) (fun i σ H1=>∃ v1 v2 v3 v4 v5 v6,σ = [some (.ref a),v1,v2,v3,v4,v5,v6]/\Scr K H1 a ns) ⟨none,none,none,none,none,none,rfl,hs⟩ ?_ ?_)
 ·unfold jl1
  walk_at "ND"
  refine ⟨a,_,rfl,.inl hs.sq,?_⟩
  simp_all_arith [List.length_map]
  refine ⟨_,rfl,?_,?_,?_⟩
  ·split <;> split <;> omega
  ·split <;> split <;> omega
  ·rw [<- hN]
   exact hR'
 ·rintro i σ H1 hi ⟨v1,v2,v3,v4,v5,v6,rfl,hs1⟩
  simp only [jan,List.set_cons_zero,List.set_cons_succ]
  refine jbc fun R9 hR9=>?_
  walk_at "ND"
  refine ⟨a,0 + (i:Int),ns,rfl,hs1,by omega,by omega,fun st o hst so=>?_⟩
  have s2:=jag hst o
  have e2:upd H1 st o st = some o:=ja1
  have hs2:=hs1.tups s2.tups
  generalize upd H1 st o = H2 at s2 e2 hs2
  walk_at "ND"
  subst hR9
  refine jbc fun R9 hR9=>?_
  walk_at "ND"
  refine ⟨st,o,rfl,e2,so,fun t wv hl da hx dx hs' ms cs raw tw H3 o3 b3 e3 so3 et hw eh ph ed pd LA=>?_⟩
  have hs3:=hs2.tups (b3.tups e2 so.imm)
  simp_all_arith [et,jbm]
  have wok:=LA.web
  have bp:=jjr wok LA.stands
  have kl:=jnh (ns:=ms) (cs:=cs)
  have k9:(jce ms cs).length <= 9:=by have:=LA.cl; have:=LA.hl; omega
  clear LA kl
  generalize jce ms cs = ps at hw wok bp k9
  generalize jcz ms cs raw = ts at hw wok bp
  generalize jcn ms cs hs' = qs at ph bp
  generalize jcg ms tw raw = ds at pd
  obtain ⟨fe,bst⟩:=bp
  have fo:=juy fe wok.p.nodup
  generalize hOf qs = y at fo bst
  rw [fo] at ph
  clear fo fe ed pd
  subst hR9
  refine jbc fun R9 hR9=>?_
  walk_at "ND"
  refine ⟨wv,hl,hx,ps,ts,y,rfl,hw,wok,k9,eh,ph,bst,fun H4 s4=>?_⟩
  have hs4:=hs3.tups s4.tups
  have e4:=s4 _ _ e3
  walk_at "ND"
  clear hw wok bst ph eh k9 b3 et hs3 e3 s4 hs2 e2 s2 hs1
  subst hR9
  refine jbc fun R9 hR9=>?_
  walk_at "ND"
  refine ⟨st,o3,8,rfl,e4,so3,by decide,by decide,fun v H5 o5 ps ts b5 e5 so5 W wk dr hpl htl=>?_⟩
  have hs5:=hs4.tups (b5.tups e4 so3.imm)
  clear b5 hs4 e4
  subst hR9
  refine jbc fun R9 hR9=>?_
  walk_at "ND"
  refine ⟨v,ps,ts,rfl,W,fun t1 H6 s6 nw=>?_⟩
  walk_at "ND"
  refine ⟨.ref t1,ps,ts,rfl,nw_at nw,wk,by omega,fun t0 f1 f2 zs us r H7 s7 et0 ef1 ef2 n0 n1 n2 ff rst pz pu=>?_⟩
  have s67:=s6.trans s7
  simp_all_arith [jbm,et0,at0]
  have W7:=W.same s67
  have e7:=s67 _ _ e5
  have hs7:=hs5.tups s67.tups
  have bst:=jf7 wk rst
  rw [jhd wk] at pz
  clear W e5 hs5 nw ef2 pu n0 n1 n2 ff et0 s6 s7 s67
  subst hR9
  refine jbc fun R9 hR9=>?_
  walk_at "ND"
  refine ⟨v,f1,zs,ps,ts,hfW ps ts r,rfl,W7,wk,ef1,pz,fun lt H8 s8 lw=>?_⟩
  have W8:=W7.same s8
  have e8:=s8 _ _ e7
  have hs8:=hs7.tups s8.tups
  have ef8:=s8 _ _ ef1
  have pz8:=Prs.same s8 pz
  have lwk:=jjc (hfW ps ts r) wk
  have lt9:=fun r2=>jq5 (r:=r2) bst wk lwk
  clear W7 e7 hs7 ef1 pz s8
  subst hR9
  refine jbc fun R9 hR9=>?_
  walk_at "ND"
  refine ⟨v,f1,zs,ps,ts,hfW ps ts r,rfl,W8,wk,by omega,ef8,pz8,bst,fun H9 s9=>?_⟩
  have lw9:=lw.same s9
  have e9:=s9 _ _ e8
  have hs9:=hs8.tups s9.tups
  walk_at "ND"
  have l30:(jd2 (hfW ps ts r) ps).length <= 30:=Nat.le_trans (List.length_filter_le _ _) (by omega)
  generalize jd2 (hfW ps ts r) ps = lp at lw9 lwk lt9 l30
  generalize jdy (hfW ps ts r) ts = lts at lw9 lwk lt9
  clear lw W8 e8 hs8 s9 pz8 ef8 bst wk dr rst
  subst hR9
  refine jbc fun R9 hR9=>?_
  walk_at "ND"
  refine ⟨.ref lt,lp,lts,rfl,lw9,lwk,l30,fun t0 g1 g2 ws us r2 HA sA et0 eg1 eg2 n0 n1 n2 gg rst2 pw pu=>?_⟩
  simp_all_arith [jbm,et0,at0]
  have ltr:=lt9 _ rst2
  rw [ltr] at pw
  have lwA:=lw9.same sA
  have eA:=sA _ _ e9
  have hsA:=hs9.tups sA.tups
  clear sA lw9 e9 hs9 pu eg2 et0 ltr lt9
  obtain ⟨u,pa,ta,xs,ys,e,eu,epa,eta,hxs,hys⟩:=id lwA
  cases e
  have hxl:=Paired.length hxs
  have s0:Same HA HA:=fun _ _ q=>q
  refine jbh (Itl K pa) HA (fun R2 hR2=>?_) (fun z hz=>jbn lp.length (fun j σ' Hc=>∃ w1 w2 vs,σ' = [w1,w2]/\Same HA Hc/\Hc z = some (.lst vs)/\Prs Hc vs ((lp.take j).map fun p=>(p.1,(1:Int)))) ⟨none,none,[],rfl,jag hz _,ja1,.nil⟩ ?_ ?_)
  ·unfold jck
   simp_all_arith [jbm,eu,at0]
   exact ⟨pa,rfl,⟨_,SqL.of epa⟩,hR2⟩
  ·rintro j σ' Hc hj ⟨w1,w2,vs,rfl,sQ,ez,pv⟩
   have z1:SqL K Hc pa xs:=SqL.of (sQ _ _ epa)
   have x1:xs[j]? = some (xs[j]'(by omega)):=gE _
   refine ⟨⟨_,_,z1,x1⟩,?_⟩
   rintro y' H' ⟨rfl,hy⟩
   obtain ⟨p,hp,pp⟩:=jbd hxs (hy _ z1)
   obtain ⟨b,rfl,hb⟩:=pp.same sQ
   have hvl:=Paired.length pv
   rw [List.length_map,List.length_take] at hvl
   simp_all_arith [hb]
   intro t5 ht5
   have q5:=jag ht5 (.tup [.int p.1,.int 1])
   have e5:=q5 _ _ ez
   have t6:=jbv (ys:=vs ++ [.ref t5]) e5
   refine ⟨_,e5,szl' (by omega),_,_,vs ++ [.ref t5],rfl,jbi (sQ.trans q5) hz,ja1,?_⟩
   rw [jbr hp,List.map_append]
   exact jbk (Prs.tups t6 (Prs.same q5 pv)) ⟨t5,rfl,t6 _ _ rfl ja1⟩
  rintro σ' HB ⟨w1,w2',vs,rfl,sB,ez,pv⟩
  refine ⟨⟨_,SqL.of (sB _ _ epa),by omega⟩,?_⟩
  rw [List.take_length] at pv
  refine ⟨_,_,jiu (sB _ _ eg1) (Prs.same sB pw),jiu ez pv,by have:=jhg (lp.map fun p=>(p.1,(1:Int))); unfold prsD; rw [depP]; omega,.inl ⟨_,_,rfl,rfl⟩,?_⟩
  rw [jf4]
  have eB:=sB _ _ eA
  have hsB:=hsA.tups sB.tups
  clear lwA eA hsA pw pv ez eg1 sB eu epa eta hxs hys s0
  walk_at "ND"
  subst hR9
  walk_at "ND"
  refine ⟨st,o5,10,rfl,eB,so5,by decide,by decide,fun v2 HC oC ps2 ts2 bC eC soC W2 wk2 dr2 hpl2 htl2=>?_⟩
  have hsC:=hsB.tups (bC.tups eB so5.imm)
  walk_at "ND"
  refine ⟨st,oC,10,rfl,eC,soC,by decide,by decide,fun v3 HD oD ps3 ts3 bD eD soD W3 wk3 dr3 hpl3 htl3=>?_⟩
  have hsD:=hsC.tups (bD.tups eC soC.imm)
  have W2D:=W2.but eC soC bD
  walk_at "ND"
  refine ⟨v3,ps3,ts3,rfl,W3,by omega,by omega,fun ft HE sE fw=>?_⟩
  have hsE:=hsD.tups sE.tups
  walk_at "ND"
  refine ⟨v2,.ref ft,ps2,ts2,shP ps3,shT ts3,rfl,W2D.same sE,fw,far_of wk2 wk3 dr2 dr3 (by omega) (by omega) htl2 htl3,by omega,by unfold shP; rw [List.length_map]; omega,fun HF sF=>?_⟩
  walk_at "ND"
  exact ⟨_,_,_,_,_,_,rfl,hsE.tups sF.tups⟩
 ·rintro σ H1 ⟨v1,v2,v3,v4,v5,v6,rfl,hs1⟩
  subst hR
  walk_at "ND"
  exact h _
end
end My
set_option autoImplicit true
namespace My
open PySem L2
abbrev aT (K:PySem.W.Frag) (x:Str) (f:Addr):Prop:=PySem.W.nsIn K mainGlobals x = some (some (.ref f))
abbrev lT (K:PySem.W.Frag) (x q:Str) (st:Stmt) (f:Addr) (oc:Value) (od an:Option Addr) (sl:Array (Option Value)) (kV dc pm cd ct:Value):Prop:=K.lookup f = some ⟨oc,od,.func (PySem.W.fnOf x q (je5 st) (jdx st) (jbe st) .none kV dc pm an cd ct),sl⟩
abbrev cT (K:PySem.W.Frag) (cd:Value) (x:Str):Prop:=PySem.W.codeIn K cd x = true
abbrev kT (K:PySem.W.Frag) (f:Addr):Prop:=PySem.W.keepIn K (.ref f) = true
abbrev zT (K:PySem.W.Frag) (x:Str):Prop:=PySem.W.nsIn K mainGlobals x = some none
theorem dmk {K:PySem.W.Frag} {h:Heap} {mg:Str->Option Value} (X:K.In h) (G:h.Ns mainGlobals mg) {x:Str} {st:Stmt} {f:Addr} {oc:Value} {od an:Option Addr} {sl:Array (Option Value)} {kV dc pm cd ct:Value} (a:aT K x f) (l:lT K x x st f oc od an sl kV dc pm cd ct) (c:cT K cd x) (k:kT K f) (ps:List Str)
  (b:jfc K (PySem.W.fnOf x x (je5 st) (jdx st) (jbe st) .none kV dc pm an cd ct) ps []):DefAt K mg x st ps f (PySem.W.fnOf x x (je5 st) (jdx st) (jbe st) .none kV dc pm an cd ct):=⟨jbs l c k,b,PySem.W.mg_of X G a⟩
theorem all_mk {l:PySem.W.OpenLaw} {w:World} {K:PySem.W.Frag} {h:Heap} {mg:Str->Option Value} {fa:Addr} (X:K.In h) (G:h.Ns mainGlobals mg) (hfa:mg "law" = some (.ref fa)) (a0:aT K "is_whole" f0) (l0:lT K "is_whole" "is_whole" (top 7) f0 oc0 od0 an0 sq0 kV0 dc0 pm0 cd0 ct0) (g0:cT K cd0 "is_whole") (k0:kT K f0) (a1:aT K "is_tuple_of" f1) (l1:lT K "is_tuple_of" "is_tuple_of" (top 8) f1 oc1 od1 an1 sq1 kV1 dc1 pm1 cd1 ct1) (g1:cT K cd1 "is_tuple_of") (k1:kT K f1) (a2:aT K "is_pair_of_wholes" f2) (l2:lT K "is_pair_of_wholes" "is_pair_of_wholes" (top 9) f2 oc2 od2 an2 sq2 kV2 dc2 pm2 cd2 ct2) (g2:cT K cd2 "is_pair_of_wholes") (k2:kT K f2) (a3:aT K "is_list_up_to" f3) (l3:lT K "is_list_up_to" "is_list_up_to" (top 10) f3 oc3 od3 an3 sq3 kV3 dc3 pm3 cd3 ct3) (g3:cT K cd3 "is_list_up_to") (k3:kT K f3) (a4:aT K "marked" f4) (l4:lT K "marked" "marked" (top 11) f4 oc4 od4 an4 sq4 kV4 dc4 pm4 cd4 ct4) (g4:cT K cd4 "marked") (k4:kT K f4) (a5:aT K "place_stands" f5) (l5:lT K "place_stands" "place_stands" (top 20) f5 oc5 od5 an5 sq5 kV5 dc5 pm5 cd5 ct5) (g5:cT K cd5 "place_stands") (k5:kT K f5) (a6:aT K "tie_stands" f6) (l6:lT K "tie_stands" "tie_stands" (top 21) f6 oc6 od6 an6 sq6 kV6 dc6 pm6 cd6 ct6) (g6:cT K cd6 "tie_stands") (k6:kT K f6) (a7:aT K "look_at_places" f7) (l7:lT K "look_at_places" "look_at_places" (top 22) f7 oc7 od7 an7 sq7 kV7 dc7 pm7 cd7 ct7) (g7:cT K cd7 "look_at_places") (k7:kT K f7) (a8:aT K "look_at_ties" f8) (l8:lT K "look_at_ties" "look_at_ties" (top 23) f8 oc8 od8 an8 sq8 kV8 dc8 pm8 cd8 ct8) (g8:cT K cd8 "look_at_ties") (k8:kT K f8) (a9:aT K "look_at_web" f9) (l9:lT K "look_at_web" "look_at_web" (top 24) f9 oc9 od9 an9 sq9 kV9 dc9 pm9 cd9 ct9) (g9:cT K cd9 "look_at_web") (k9:kT K f9) (a10:aT K "doubled" f10) (l10:lT K "doubled" "doubled" (top 26) f10 oc10 od10 an10 sq10 kV10 dc10 pm10 cd10 ct10) (g10:cT K cd10 "doubled") (k10:kT K f10) (a11:aT K "dues_flowing" f11) (l11:lT K "dues_flowing" "dues_flowing" (top 27) f11 oc11 od11 an11 sq11 kV11 dc11 pm11 cd11 ct11) (g11:cT K cd11 "dues_flowing") (k11:kT K f11) (a12:aT K "halves_reached" f12) (l12:lT K "halves_reached" "halves_reached" (top 28) f12 oc12 od12 an12 sq12 kV12 dc12 pm12 cd12 ct12) (g12:cT K cd12 "halves_reached") (k12:kT K f12) (a13:aT K "told_paper" f13) (l13:lT K "told_paper" "told_paper" (top 29) f13 oc13 od13 an13 sq13 kV13 dc13 pm13 cd13 ct13) (g13:cT K cd13 "told_paper") (k13:kT K f13) (a14:aT K "halves_of" f14) (l14:lT K "halves_of" "halves_of" (top 30) f14 oc14 od14 an14 sq14 kV14 dc14 pm14 cd14 ct14) (g14:cT K cd14 "halves_of") (k14:kT K f14) (a15:aT K "_law_own" f15) (l15:lT K "_law_own" "_law_own" (top 32) f15 oc15 od15 an15 sq15 kV15 dc15 pm15 cd15 ct15) (g15:cT K cd15 "_law_own") (k15:kT K f15) (a16:aT K "_law_begun" f16) (l16:lT K "_law_begun" "_law_begun" (top 33) f16 oc16 od16 an16 sq16 kV16 dc16 pm16 cd16 ct16) (g16:cT K cd16 "_law_begun") (k16:kT K f16) (a17:aT K "_law_take" f17) (l17:lT K "_law_take" "_law_take" (top 34) f17 oc17 od17 an17 sq17 kV17 dc17 pm17 cd17 ct17) (g17:cT K cd17 "_law_take") (k17:kT K f17) (a18:aT K "_law_places" f18) (l18:lT K "_law_places" "_law_places" (top 35) f18 oc18 od18 an18 sq18 kV18 dc18 pm18 cd18 ct18) (g18:cT K cd18 "_law_places") (k18:kT K f18) (a19:aT K "_law_web" f19) (l19:lT K "_law_web" "_law_web" (top 36) f19 oc19 od19 an19 sq19 kV19 dc19 pm19 cd19 ct19) (g19:cT K cd19 "_law_web") (k19:kT K f19) (a20:aT K "_law_priced" f20) (l20:lT K "_law_priced" "_law_priced" (top 37) f20 oc20 od20 an20 sq20 kV20 dc20 pm20 cd20 ct20) (g20:cT K cd20 "_law_priced") (k20:kT K f20) (a21:aT K "_law_laid" f21) (l21:lT K "_law_laid" "_law_laid" (top 38) f21 oc21 od21 an21 sq21 kV21 dc21 pm21 cd21 ct21) (g21:cT K cd21 "_law_laid") (k21:kT K f21) (a22:aT K "_law_sets" f22) (l22:lT K "_law_sets" "_law_sets" (top 39) f22 oc22 od22 an22 sq22 kV22 dc22 pm22 cd22 ct22) (g22:cT K cd22 "_law_sets") (k22:kT K f22) (a23:aT K "_law_cost" f23) (l23:lT K "_law_cost" "_law_cost" (top 40) f23 oc23 od23 an23 sq23 kV23 dc23 pm23 cd23 ct23) (g23:cT K cd23 "_law_cost") (k23:kT K f23) (a24:aT K "_law_left" f24) (l24:lT K "_law_left" "_law_left" (top 41) f24 oc24 od24 an24 sq24 kV24 dc24 pm24 cd24 ct24) (g24:cT K cd24 "_law_left") (k24:kT K f24) (a25:aT K "_law_right" f25) (l25:lT K "_law_right" "_law_right" (top 42) f25 oc25 od25 an25 sq25 kV25 dc25 pm25 cd25 ct25) (g25:cT K cd25 "_law_right") (k25:kT K f25) (a26:aT K "_law_far" f26) (l26:lT K "_law_far" "_law_far" (top 43) f26 oc26 od26 an26 sq26 kV26 dc26 pm26 cd26 ct26) (g26:cT K cd26 "_law_far") (k26:kT K f26) (a27:aT K "_law_beside_right" f27) (l27:lT K "_law_beside_right" "_law_beside_right" (top 44) f27 oc27 od27 an27 sq27 kV27 dc27 pm27 cd27 ct27) (g27:cT K cd27 "_law_beside_right") (k27:kT K f27) (a28:aT K "law" f28) (l28:lT K "law" "law" (top 45) f28 oc28 od28 an28 sq28 kV28 dc28 pm28 cd28 ct28) (g28:cT K cd28 "law") (k28:kT K f28) (z_len:zT K "len") (z_isinstance:zT K "isinstance") (z_all:zT K "all") (z_min:zT K "min") (z_list:zT K "list") (z_dict:zT K "dict") (z_int:zT K "int") (z_bool:zT K "bool") (z_str:zT K "str") (z_tuple:zT K "tuple") (z_range:zT K "range") (z_enumerate:zT K "enumerate") (z_zip:zT K "zip") (z_max:zT K "max") (z_any:zT K "any") (z_sum:zT K "sum") (z_sorted:zT K "sorted") (z_set:zT K "set") (n_MOST_PLACES:PySem.W.nsIn K mainGlobals "MOST_PLACES" = some (some (.int 40 c1))) (n_MOST_TIES:PySem.W.nsIn K mainGlobals "MOST_TIES" = some (some (.int 120 c2))) (n_LAST_PLACE:PySem.W.nsIn K mainGlobals "LAST_PLACE" = some (some (.int 999 c3))) (n_MOST_PRICE:PySem.W.nsIn K mainGlobals "MOST_PRICE" = some (some (.int 1000000000000 c4))) (aN:aT K "Net" C_Net) (pgN:PySem.W.plainGet K C_Net Str.empty = true) (hdN:PySem.W.hasDictIn K C_Net = true) (poN:PySem.W.plainOver K C_Net = true) (saN:PySem.W.findIn K (.ref C_Net) "__setattr__" = some (some (.builtin "object.__setattr__"))) (mkN:PySem.W.makesIn K C_Net = true) (kcN:kT K C_Net) (n_ways_from:PySem.W.findIn K (.ref C_Net) "ways_from" = some none) (n_heads:PySem.W.findIn K (.ref C_Net) "heads" = some none) (n_rooms:PySem.W.findIn K (.ref C_Net) "rooms" = some none) (fm0:PySem.W.findIn K (.ref C_Net) "__init__" = some (some (.ref m0))) (im0:PySem.W.isFn K (.ref m0) = true) (lm0:lT K "__init__" "Net.__init__" (meth 5 0) m0 ocm0 odm0 anm0 sqm0 kVm0 dcm0 pmm0 cdm0 ctm0) (gm0:cT K cdm0 "Net.__init__") (km0:kT K m0) (fm1:PySem.W.findIn K (.ref C_Net) "put_way" = some (some (.ref m1))) (im1:PySem.W.isFn K (.ref m1) = true) (lm1:lT K "put_way" "Net.put_way" (meth 5 1) m1 ocm1 odm1 anm1 sqm1 kVm1 dcm1 pmm1 cdm1 ctm1) (gm1:cT K cdm1 "Net.put_way") (km1:kT K m1) (fm2:PySem.W.findIn K (.ref C_Net) "fill" = some (some (.ref m2))) (im2:PySem.W.isFn K (.ref m2) = true) (lm2:lT K "fill" "Net.fill" (meth 5 2) m2 ocm2 odm2 anm2 sqm2 kVm2 dcm2 pmm2 cdm2 ctm2) (gm2:cT K cdm2 "Net.fill") (km2:kT K m2) (fm3:PySem.W.findIn K (.ref C_Net) "shortest" = some (some (.ref m3))) (im3:PySem.W.isFn K (.ref m3) = true) (lm3:lT K "shortest" "Net.shortest" (meth 5 3) m3 ocm3 odm3 anm3 sqm3 kVm3 dcm3 pmm3 cdm3 ctm3) (gm3:cT K cdm3 "Net.shortest") (km3:kT K m3) (fm4:PySem.W.findIn K (.ref C_Net) "spread" = some (some (.ref m4))) (im4:PySem.W.isFn K (.ref m4) = true) (lm4:lT K "spread" "Net.spread" (meth 5 4) m4 ocm4 odm4 anm4 sqm4 kVm4 dcm4 pmm4 cdm4 ctm4) (gm4:cT K cdm4 "Net.spread") (km4:kT K m4) (fm5:PySem.W.findIn K (.ref C_Net) "push" = some (some (.ref m5))) (im5:PySem.W.isFn K (.ref m5) = true) (lm5:lT K "push" "Net.push" (meth 5 5) m5 ocm5 odm5 anm5 sqm5 kVm5 dcm5 pmm5 cdm5 ctm5) (gm5:cT K cdm5 "Net.push") (km5:kT K m5) (fm6:PySem.W.findIn K (.ref C_Net) "flows" = some (some (.ref m6))) (im6:PySem.W.isFn K (.ref m6) = true) (lm6:lT K "flows" "Net.flows" (meth 5 6) m6 ocm6 odm6 anm6 sqm6 kVm6 dcm6 pmm6 cdm6 ctm6) (gm6:cT K cdm6 "Net.flows") (km6:kT K m6) (fm7:PySem.W.findIn K (.ref C_Net) "reached_from" = some (some (.ref m7))) (im7:PySem.W.isFn K (.ref m7) = true) (lm7:lT K "reached_from" "Net.reached_from" (meth 5 7) m7 ocm7 odm7 anm7 sqm7 kVm7 dcm7 pmm7 cdm7 ctm7) (gm7:cT K cdm7 "Net.reached_from") (km7:kT K m7) (nn_SOURCE:PySem.W.nsIn K mainGlobals "SOURCE" = some (some (.int 0 ee1))) (nn_SINK:PySem.W.nsIn K mainGlobals "SINK" = some (some (.int 1 ee2))) (nn_FIRST:PySem.W.nsIn K mainGlobals "FIRST" = some (some (.int 2 ee3)))
 :∃ fd:FuncData,(∀ (s:Shared) (v:Value),BindsTo s fd ⟨[v],[]⟩ [("_law_script",v)])/\∀ base:Heap,K.In base->base.Ns mainGlobals mg->FnOk l.prog w K mg base CX0 9 fa fd ["_law_script"] (jr8 K):=by
 have e:=hfa.symm.trans (PySem.W.mg_of X G a28)
 cases e
 have B:Blt mg:=⟨PySem.W.mg_none_of X G z_len,PySem.W.mg_none_of X G z_isinstance,PySem.W.mg_none_of X G z_all,PySem.W.mg_none_of X G z_min,PySem.W.mg_none_of X G z_list,PySem.W.mg_none_of X G z_dict,PySem.W.mg_none_of X G z_int,PySem.W.mg_none_of X G z_bool,PySem.W.mg_none_of X G z_str,PySem.W.mg_none_of X G z_tuple,PySem.W.mg_none_of X G z_range,PySem.W.mg_none_of X G z_enumerate,PySem.W.mg_none_of X G z_zip,PySem.W.mg_none_of X G z_max,PySem.W.mg_none_of X G z_any,PySem.W.mg_none_of X G z_sum,PySem.W.mg_none_of X G z_sorted,PySem.W.mg_none_of X G z_set⟩
 have C:Cst mg c1 c2 c3 c4:=⟨PySem.W.mg_of X G n_MOST_PLACES,PySem.W.mg_of X G n_MOST_TIES,PySem.W.mg_of X G n_LAST_PLACE,PySem.W.mg_of X G n_MOST_PRICE⟩
 have Dqd:=dmk X G a0 l0 g0 k0 ["thing"] ((jbs l0 g0 k0).binds fun _ _ _ _ _ _ us hl=>match us,hl with | [_],_=>rfl)
 have Dqb:=dmk X G a1 l1 g1 k1 ["thing","many"] ((jbs l1 g1 k1).binds fun _ _ _ _ _ _ us hl=>match us,hl with | [_,_],_=>rfl)
 have Dqe:=dmk X G a2 l2 g2 k2 ["thing"] ((jbs l2 g2 k2).binds fun _ _ _ _ _ _ us hl=>match us,hl with | [_],_=>rfl)
 have Dqg:=dmk X G a3 l3 g3 k3 ["thing","most"] ((jbs l3 g3 k3).binds fun _ _ _ _ _ _ us hl=>match us,hl with | [_,_],_=>rfl)
 have Dq2:=dmk X G a4 l4 g4 k4 ["places"] ((jbs l4 g4 k4).binds fun _ _ _ _ _ _ us hl=>match us,hl with | [_],_=>rfl)
 have Dq3:=dmk X G a5 l5 g5 k5 ["thing","last","spent"] ((jbs l5 g5 k5).binds fun _ _ _ _ _ _ us hl=>match us,hl with | [_,_,_],_=>rfl)
 have Dq4:=dmk X G a6 l6 g6 k6 ["thing","last","prices"] ((jbs l6 g6 k6).binds fun _ _ _ _ _ _ us hl=>match us,hl with | [_,_,_],_=>rfl)
 have Dqz:=dmk X G a7 l7 g7 k7 ["places"] ((jbs l7 g7 k7).binds fun _ _ _ _ _ _ us hl=>match us,hl with | [_],_=>rfl)
 have Dq0:=dmk X G a8 l8 g8 k8 ["ties","prices"] ((jbs l8 g8 k8).binds fun _ _ _ _ _ _ us hl=>match us,hl with | [_,_],_=>rfl)
 have Dq1:=dmk X G a9 l9 g9 k9 ["thing"] ((jbs l9 g9 k9).binds fun _ _ _ _ _ _ us hl=>match us,hl with | [_],_=>rfl)
 have Dqp:=dmk X G a10 l10 g10 k10 ["web"] ((jbs l10 g10 k10).binds fun _ _ _ _ _ _ us hl=>match us,hl with | [_],_=>rfl)
 have Dqq:=dmk X G a11 l11 g11 k11 ["web","flows"] ((jbs l11 g11 k11).binds fun _ _ _ _ _ _ us hl=>match us,hl with | [_,_],_=>rfl)
 have Dqr:=dmk X G a12 l12 g12 k12 ["web","reached"] ((jbs l12 g12 k12).binds fun _ _ _ _ _ _ us hl=>match us,hl with | [_,_],_=>rfl)
 have Dq5:=dmk X G a13 l13 g13 k13 ["web"] ((jbs l13 g13 k13).binds fun _ _ _ _ _ _ us hl=>match us,hl with | [_],_=>rfl)
 have Dqc:=dmk X G a14 l14 g14 k14 ["web"] ((jbs l14 g14 k14).binds fun _ _ _ _ _ _ us hl=>match us,hl with | [_],_=>rfl)
 have Dqw:=dmk X G a15 l15 g15 k15 ["_law_web_here"] ((jbs l15 g15 k15).binds fun _ _ _ _ _ _ us hl=>match us,hl with | [_],_=>rfl)
 have Dqs:=dmk X G a16 l16 g16 k16 ["_law_script","_law_k"] ((jbs l16 g16 k16).binds fun _ _ _ _ _ _ us hl=>match us,hl with | [_,_],_=>rfl)
 have Dqa:=dmk X G a17 l17 g17 k17 ["_law_state","_law_many"] ((jbs l17 g17 k17).binds fun _ _ _ _ _ _ us hl=>match us,hl with | [_,_],_=>rfl)
 have Dqx:=dmk X G a18 l18 g18 k18 ["_law_state","_law_count"] ((jbs l18 g18 k18).binds fun _ _ _ _ _ _ us hl=>match us,hl with | [_,_],_=>rfl)
 have Dqk:=dmk X G a19 l19 g19 k19 ["_law_state","_law_most"] ((jbs l19 g19 k19).binds fun _ _ _ _ _ _ us hl=>match us,hl with | [_,_],_=>rfl)
 have Dqy:=dmk X G a20 l20 g20 k20 ["_law_state","_law_hs","_law_raw"] ((jbs l20 g20 k20).binds fun _ _ _ _ _ _ us hl=>match us,hl with | [_,_,_],_=>rfl)
 have Dqv:=dmk X G a21 l21 g21 k21 ["_law_state","_law_most"] ((jbs l21 g21 k21).binds fun _ _ _ _ _ _ us hl=>match us,hl with | [_,_],_=>rfl)
 have Dqm:=dmk X G a22 l22 g22 k22 ["_law_web_here"] ((jbs l22 g22 k22).binds fun _ _ _ _ _ _ us hl=>match us,hl with | [_],_=>rfl)
 have Dqi:=dmk X G a23 l23 g23 k23 ["_law_web_here","_law_some"] ((jbs l23 g23 k23).binds fun _ _ _ _ _ _ us hl=>match us,hl with | [_,_],_=>rfl)
 have Dqh:=dmk X G a24 l24 g24 k24 ["_law_web_here","_law_halves"] ((jbs l24 g24 k24).binds fun _ _ _ _ _ _ us hl=>match us,hl with | [_,_],_=>rfl)
 have Dql:=dmk X G a25 l25 g25 k25 ["_law_web_here","_law_halves"] ((jbs l25 g25 k25).binds fun _ _ _ _ _ _ us hl=>match us,hl with | [_,_],_=>rfl)
 have Dqu:=dmk X G a26 l26 g26 k26 ["_law_web_here"] ((jbs l26 g26 k26).binds fun _ _ _ _ _ _ us hl=>match us,hl with | [_],_=>rfl)
 have Dqt:=dmk X G a27 l27 g27 k27 ["_law_one","_law_other"] ((jbs l27 g27 k27).binds fun _ _ _ _ _ _ us hl=>match us,hl with | [_,_],_=>rfl)
 have Dzd:=dmk X G a28 l28 g28 k28 ["_law_script"] ((jbs l28 g28 k28).binds fun _ _ _ _ _ _ us hl=>match us,hl with | [_],_=>rfl)
 refine ⟨PySem.W.fnOf "law" "law" (je5 (top 45)) (jdx (top 45)) (jbe (top 45)) .none kV28 dc28 pm28 an28 cd28 ct28,fun s v=>.of_eq rfl,fun base _ _=>?_⟩
 have Dq8:MthAt K C_Net "__init__" "Net.__init__" (meth 5 0) ["self","many","arcs"] _ _:=⟨jbs lm0 gm0 km0,(jbs lm0 gm0 km0).binds fun _ _ _ _ _ _ us hl=>match us,hl with | [_,_,_],_=>rfl,⟨fm0,im0,km0⟩⟩
 have Dqn:MthAt K C_Net "put_way" "Net.put_way" (meth 5 1) ["self","tail","head","room"] _ _:=⟨jbs lm1 gm1 km1,(jbs lm1 gm1 km1).binds fun _ _ _ _ _ _ us hl=>match us,hl with | [_,_,_,_],_=>rfl,⟨fm1,im1,km1⟩⟩
 have Dq6:MthAt K C_Net "fill" "Net.fill" (meth 5 2) ["self","source","sink"] _ _:=⟨jbs lm2 gm2 km2,(jbs lm2 gm2 km2).binds fun _ _ _ _ _ _ us hl=>match us,hl with | [_,_,_],_=>rfl,⟨fm2,im2,km2⟩⟩
 have Dqo:MthAt K C_Net "shortest" "Net.shortest" (meth 5 3) ["self","source","sink"] _ _:=⟨jbs lm3 gm3 km3,(jbs lm3 gm3 km3).binds fun _ _ _ _ _ _ us hl=>match us,hl with | [_,_,_],_=>rfl,⟨fm3,im3,km3⟩⟩
 have Dqj:MthAt K C_Net "spread" "Net.spread" (meth 5 4) ["self","source"] _ _:=⟨jbs lm4 gm4 km4,(jbs lm4 gm4 km4).binds fun _ _ _ _ _ _ us hl=>match us,hl with | [_,_],_=>rfl,⟨fm4,im4,km4⟩⟩
 have Dq9:MthAt K C_Net "push" "Net.push" (meth 5 5) ["self","trail"] _ _:=⟨jbs lm5 gm5 km5,(jbs lm5 gm5 km5).binds fun _ _ _ _ _ _ us hl=>match us,hl with | [_,_],_=>rfl,⟨fm5,im5,km5⟩⟩
 have Dq7:MthAt K C_Net "flows" "Net.flows" (meth 5 6) ["self"] _ _:=⟨jbs lm6 gm6 km6,(jbs lm6 gm6 km6).binds fun _ _ _ _ _ _ us hl=>match us,hl with | [_],_=>rfl,⟨fm6,im6,km6⟩⟩
 have Dza:MthAt K C_Net "reached_from" "Net.reached_from" (meth 5 7) ["self","source"] _ _:=⟨jbs lm7 gm7 km7,(jbs lm7 gm7 km7).binds fun _ _ _ _ _ _ us hl=>match us,hl with | [_,_],_=>rfl,⟨fm7,im7,km7⟩⟩
 have C2:Cst2 mg ee1 ee2 ee3:=⟨PySem.W.mg_of X G nn_SOURCE,PySem.W.mg_of X G nn_SINK,PySem.W.mg_of X G nn_FIRST⟩
 have T:NetC K mg C_Net:=⟨⟨pgN,hdN,poN,saN⟩,n_ways_from,n_heads,n_rooms,PySem.W.mg_of X G aN⟩
 have MK:Mk K C_Net m0:=⟨mkN,fm0,im0,kcN⟩
 have Gqd:=jly (P:=l.prog) (w:=w) (base:=base) B Dqd
 have Gqb:=jhn (P:=l.prog) (w:=w) (base:=base) B Dqb
 have Gqe:=jef (P:=l.prog) (w:=w) (base:=base) B Dqe Dqb Gqb Dqd Gqd
 have Gqg:=jfx (P:=l.prog) (w:=w) (base:=base) B Dqg
 have Gq2:=jpu (P:=l.prog) (w:=w) (base:=base) B Dq2
 have Gq3:=jgu (P:=l.prog) (w:=w) (base:=base) B C Dq3 Dqe Gqe
 have Gq4:=jj6 (P:=l.prog) (w:=w) (base:=base) B Dq4 Dqe Gqe
 have Gqz:=jfh (P:=l.prog) (w:=w) (base:=base) B C Dqz Dqg Gqg Dq3 Gq3
 have Gq0:=jgv (P:=l.prog) (w:=w) (base:=base) B C Dq0 Dqg Gqg Dq4 Gq4
 have Gq1:=jhm (P:=l.prog) (w:=w) (base:=base) B Dq1 Dqb Gqb Dqz Gqz Dq0 Gq0
 have Gqq:=jgw (P:=l.prog) (w:=w) (base:=base) B Dqq
 have Gqr:=jfi (P:=l.prog) (w:=w) (base:=base) B Dqr C2
 have Gqw:=jo2 (P:=l.prog) (w:=w) (base:=base) B Dqw
 have Gqs:=jkn (P:=l.prog) (w:=w) (base:=base) B Dqs
 have Gqa:=jlt (P:=l.prog) (w:=w) (base:=base) B Dqa
 have Gqx:=jj8 (P:=l.prog) (w:=w) (base:=base) B Dqx Dqa Gqa
 have Gqk:=jo1 (P:=l.prog) (w:=w) (base:=base) B Dqk Dqa Gqa Dqx Gqx
 have Gqy:=jj7 (P:=l.prog) (w:=w) (base:=base) B Dqy Dqa Gqa
 have Gqv:=jlw (P:=l.prog) (w:=w) (base:=base) B Dqv Dqa Gqa Dqy Gqy
 have Gqm:=jlu (P:=l.prog) (w:=w) (base:=base) B Dqm
 have Gqi:=jlx (P:=l.prog) (w:=w) (base:=base) B Dqi
 have Gqh:=jlv (P:=l.prog) (w:=w) (base:=base) B Dqh
 have Gql:=jkm (P:=l.prog) (w:=w) (base:=base) B Dql Dqm Gqm Dqi Gqi Dqh Gqh
 have Gqu:=jo3 (P:=l.prog) (w:=w) (base:=base) B Dqu
 have GD_is_tuple_of:=jgx (P:=l.prog) (w:=w) (base:=base) B Dqb
 have GD_is_pair_of_wholes:=je2 (P:=l.prog) (w:=w) (base:=base) B Dqe Dqb GD_is_tuple_of Dqd Gqd
 have GI_marked:=jo5 (P:=l.prog) (w:=w) (base:=base) B Dq2
 have Gqn:=jo0 (P:=l.prog) (w:=w) (base:=base) B Dqn T
 have Gqj:=jpt (P:=l.prog) (w:=w) (base:=base) B Dqj T
 have Gq9:=jud (P:=l.prog) (w:=w) (base:=base) B Dq9 T
 have Gq7:=jrr (P:=l.prog) (w:=w) (base:=base) B Dq7 T
 have Gza:=jgt (P:=l.prog) (w:=w) (base:=base) B Dza Dqj Gqj T
 have Gq8:=jue (P:=l.prog) (w:=w) (base:=base) B Dq8 Dqn Gqn T
 have Gqo:=jls (P:=l.prog) (w:=w) (base:=base) B Dqo Dqj Gqj T
 have Gqp:=jo4 (P:=l.prog) (w:=w) (base:=base) B Dqp Dq8 Gq8 T C2 MK
 have Gq6:=juf (P:=l.prog) (w:=w) (base:=base) B Dq6 Dqo Gqo Dq9 Gq9 T
 have Gq5:=jj5 (P:=l.prog) (w:=w) (base:=base) B Dq5 Dqp Gqp Dq6 Gq6 Dza Gza Dq2 GI_marked Dqr Gqr Dq7 Gq7 Dqq Gqq T C2
 have Gqc:=jko (P:=l.prog) (w:=w) (base:=base) B Dqc Dq1 Gq1 Dq5 Gq5
 have Gqt:=jem (P:=l.prog) (w:=w) (base:=base) B Dqt Dqc Gqc
 exact ok_law B Dzd Dqs Gqs Dqv Gqv Dql Gql Dqk Gqk Dqw Gqw Dqc Gqc Dqh Gqh Dqt Gqt Dqu Gqu
theorem walk {l:PySem.W.OpenLaw} {q:Program} {loose:List Str} {XP:(Str->Option Value)->Heap->Prop} {YP:World->Heap->Prop} {d:DefRec} {K:Params->PySem.W.Frag} (hn:l.most = some 63) (hdf:d.params.defaults = [])
  (hY:∀ (w:World) (h:Heap),YP w h->(K w.params).In h)
  (F:∀ (w:World) (mg:Str->Option Value) (fa:Addr) (h:Heap),(K w.params).In h->h.Ns mainGlobals mg->mg d.name = some (.ref fa) ->
   ∃ fd:FuncData,(∀ (s:Shared) (u:Value),BindsTo s fd ⟨[u],[]⟩ [("_law_script",u)])/\∀ base:Heap,(K w.params).In base->base.Ns mainGlobals mg->FnOk l.prog w (K w.params) mg base CX0 9 fa fd ["_law_script"] (jr8 (K w.params))) :
  PySem.W.WalkO q loose XP YP l.row.toRowW d [] (fun f vs=>PySem.call f vs) :=
 L2.jom (n:=63) (k:=9) (x:="_law_script") (CX:=fun _=>CX0) (sp:=fun w=>jr8 (K w.params)) hn (by decide) hdf ⟨rfl,by decide,by decide,rfl⟩ hY F (fun _ _ a ns hl hO hS=>⟨a,ns,rfl,Scr.of hS hO,fun _=>rfl⟩) fun _ _ _ _ _ z=>z
end My
open PySem PySem.W PyProof.Rows
set_option maxRecDepth 100000 in
set_option maxHeartbeats 0 in
theorem PySem.Challenge.cw_touchall_k27_whole_halves_and_sets_holds : PySem.Challenge.rw_touchall_k27_whole_halves_and_sets.Holds := by
 refine MyHead ?_
 k_fill
 refine My.walk (l:=PySem.Challenge.rw_touchall_k27_whole_halves_and_sets) rfl rfl (fun w h Y=>PySem.W.kIn_of Y) ?F
 case F =>
  intro w mg fa h KX G hmg
  refine' My.all_mk KX G hmg ?_ ?_ ?_ ?_ ?_ ?_ ?_ ?_ ?_ ?_ ?_ ?_ ?_ ?_ ?_ ?_ ?_ ?_ ?_ ?_ ?_ ?_ ?_ ?_ ?_ ?_ ?_ ?_ ?_ ?_ ?_ ?_ ?_ ?_ ?_ ?_ ?_ ?_ ?_ ?_ ?_ ?_ ?_ ?_ ?_ ?_ ?_ ?_ ?_ ?_ ?_ ?_ ?_ ?_ ?_ ?_ ?_ ?_ ?_ ?_ ?_ ?_ ?_ ?_ ?_ ?_ ?_ ?_ ?_ ?_ ?_ ?_ ?_ ?_ ?_ ?_ ?_ ?_ ?_ ?_ ?_ ?_ ?_ ?_ ?_ ?_ ?_ ?_ ?_ ?_ ?_ ?_ ?_ ?_ ?_ ?_ ?_ ?_ ?_ ?_ ?_ ?_ ?_ ?_ ?_ ?_ ?_ ?_ ?_ ?_ ?_ ?_ ?_ ?_ ?_ ?_ ?_ ?_ ?_ ?_ ?_ ?_ ?_ ?_ ?_ ?_ ?_ ?_ ?_ ?_ ?_ ?_ ?_ ?_ ?_ ?_ ?_ ?_ ?_ ?_ ?_ ?_ ?_ ?_ ?_ ?_ ?_ ?_ ?_ ?_ ?_ ?_ ?_ ?_ ?_ ?_ ?_ ?_ ?_ ?_ ?_ ?_ ?_ ?_ ?_ ?_ ?_ ?_ ?_ ?_ ?_ ?_ ?_ ?_ ?_ ?_ ?_ ?_ ?_ ?_ ?_ ?_ ?_ ?_ ?_ ?_ ?_ ?_ ?_ ?_ ?_
  any_goals first | k_is | (delta My.aT; k_is) | (delta My.lT; k_is) | (delta My.cT; k_is) | (delta My.kT; k_is) | (delta My.zT; k_is) | kernel_rfl | rfl
#print axioms PySem.Challenge.cw_touchall_k27_whole_halves_and_sets_holds
