import PyProof.Rows.All
import Wide.All
import OpenK.AllK
import Wide.FinOn
import PyProof.EqAt
import PyProof.EqKinds
import PyProof.TupleCall
import PyProof.NeKinds
import PyProof.StrLawsTight
import PyProof.ExcClass3
import PyProof.StationsW
import PyProof.ExcBaseAll.ValueError
import PyProof.NsDelKeeps
import PyProof.RulesAs
import PyProof.ExcArgsOwn
import PyProof.ExcAttrAll.ValueError
import PyProof.ZipIter
import PyProof.ListMulRoad
import KE.KDictSum
import PyProof.ListRange
import PyProof.Draws
import PyProof.EnumMake
import PyProof.Rows.Range3
import PyProof.Rows.SortShell
import PyProof.Conv_int_bool
import PyProof.Rows.SetFrom
import PyProof.Rows.SetObj
import PyProof.WalksMore
import KE.IntBitsLaws
import KE.KRevSl
import PyProof.FitsBits
import PyProof.CollectIter
import PyProof.IsRules
import PyProof.AttrMissHeap
import PyProof.WalksS
import KE.KDictOf
import PyProof.PureStr
import PyProof.StrOps2
import PyProof.SliceStr2
import PyProof.StrBlockI
import PyProof.CompFree
import PyProof.Rows.StrSplitJoin
import PyProof.StrCalls6
import PyProof.ConsumeWalk
import PyProof.StrLawsReplace
import PyProof.DictItems
import PyProof.Rows.SortRuns
import KE.KFind
import PySem.Builtin.SetT
import PyProof.FactsAll.tuple_iterator_0
import PyProof.Rows.TupTab
import KE.KSortAsk
import Lean
import PySem.Challenge.RW_shutpairs_k53_whole_one_to_one_and_onto
set_option Elab.async false
set_option linter.all false
set_option maxRecDepth 100000
namespace L2
open PySem PySem.Spec PyProof.Rows
abbrev Key:=Sum Int Str
def y0t:Key -> Value -> Bool
 | .inl k,v=>Value.isInt k v
 | .inr x,v=>Value.isStrOf x v
def keyH (w:World):Key -> Int
 | .inl k=>hashInt k
 | .inr x=>hashStr w x
theorem z2o:∀ {k:Key} {v:Value},y0t k v = true -> (∃ i t,k = Sum.inl i /\ v = Value.int i t) \/ (∃ x t,k = Sum.inr x /\ v = Value.str x t)
 | .inl i,v,h=>by
  obtain ⟨t,e⟩:=Value.isInt_shape (k:=i) (v:=v) h
  exact .inl ⟨i,t,rfl,e⟩
 | .inr x,v,h=>by
  obtain ⟨t,e⟩:=Value.isStrOf_shape (x:=x) (v:=v) h
  exact .inr ⟨x,t,rfl,e⟩
theorem y7l (i:Int) (t:Tok):y0t (.inl i) (.int i t) = true:=by simp [y0t,Value.isInt]
theorem y7m (x:Str) (t:Tok):y0t (.inr x) (.str x t) = true:=by simp [y0t,Value.isStrOf]
theorem yHa (a b:Int):decide ((Sum.inl a:Key) = Sum.inl b) = (a == b):=by
 by_cases e:a = b
 ·subst e; simp
 ·have h:¬ (Sum.inl a:Key) = Sum.inl b:=fun q=>e (Sum.inl.inj q)
  rw [decide_eq_false h]
  exact (beq_eq_false_iff_ne.mpr e).symm
theorem yHd (a b:Str):decide ((Sum.inr a:Key) = Sum.inr b) = decide (a = b):=by
 by_cases e:a = b
 ·subst e; simp
 ·have h:¬ (Sum.inr a:Key) = Sum.inr b:=fun q=>e (Sum.inr.inj q)
  rw [decide_eq_false h,decide_eq_false e]
theorem yHb (a:Int) (b:Str):decide ((Sum.inl a:Key) = Sum.inr b) = false:=decide_eq_false (fun q=>nomatch q)
theorem yHc (a:Str) (b:Int):decide ((Sum.inr a:Key) = Sum.inl b) = false:=decide_eq_false (fun q=>nomatch q)
def z4l (prog:Program) (w:World):PySem.KeyKind prog w Key where
 is:=y0t
 hash:=keyH w
 inj:=fun v a b ha hb=>by
  rcases z2o ha with ⟨i,t,rfl,rfl⟩ | ⟨x,t,rfl,rfl⟩
  ·rcases z2o hb with ⟨j,u,rfl,e⟩ | ⟨y,u,rfl,e⟩
   ·injection e with e1 _; rw [e1]
   ·exact nomatch e
  ·rcases z2o hb with ⟨j,u,rfl,e⟩ | ⟨y,u,rfl,e⟩
   ·exact nomatch e
   ·injection e with e1 _; rw [e1]
 byValue:=fun k v h=>by
  rcases z2o h with ⟨i,t,rfl,rfl⟩ | ⟨x,t,rfl,rfl⟩ <;> rfl
 pyHash:=fun hv h=>by
  rcases z2o hv with ⟨i,t,rfl,rfl⟩ | ⟨x,t,rfl,rfl⟩
  ·exact wpAny_pyHash_int h
  ·exact wpAny_pyHash_str h
 eqBool:=fun hu hv h=>by
  rcases z2o hu with ⟨i,t,rfl,rfl⟩ | ⟨x,t,rfl,rfl⟩
  ·rcases z2o hv with ⟨j,u,rfl,rfl⟩ | ⟨y,u,rfl,rfl⟩
   ·rw [yHa] at h; exact wpAny_eqBool_int h
   ·rw [yHb] at h; exact SeqAt.EqAt.int_str i t y u _ _ _ _ h
  ·rcases z2o hv with ⟨j,u,rfl,rfl⟩ | ⟨y,u,rfl,rfl⟩
   ·rw [yHc] at h; exact SeqAt.EqAt.str_int x t j u _ _ _ _ h
   ·rw [yHd] at h; exact wpAny_eqBool_str h
 «strs»:=fun k x t v h=>by
  rcases z2o h with ⟨i,u,rfl,e⟩ | ⟨y,u,rfl,e⟩
  ·exact nomatch e
  ·injection e with e1 _
   subst e1
   cases v <;> rfl
theorem y1b (prog:Program) (w:World) (i:Int) (t:Tok):(z4l prog w).is (.inl i) (.int i t) = true:=y7l i t
theorem y1c (prog:Program) (w:World) (x:Str) (t:Tok):(z4l prog w).is (.inr x) (.str x t) = true:=y7m x t
end L2
namespace L2
open PySem PySem.Spec PyProof.Rows
inductive V where
 | non | bl (b:Bool) | int (i:Int) | str (x:Str) | byt (b:Array UInt8) | flt (b:UInt64) | ref (a:Addr) | ty (n:String)
 deriving DecidableEq
def RelV:V -> Value -> Prop
 | .non,u=>u = Value.none
 | .bl b,u=>u = Value.bool b
 | .int i,u=>∃ t,u = Value.int i t
 | .str x,u=>∃ t,u = Value.str x t
 | .byt b,u=>∃ t,u = Value.bytes b t
 | .flt b,u=>∃ t,u = Value.float b t
 | .ref a,u=>u = Value.ref a
 | .ty n,u=>u = Value.type n
abbrev Vals:List V -> List Value -> Prop:=Paired RelV
theorem Vals.length {xs:List V} {us:List Value} (r:Vals xs us):xs.length = us.length:=Paired.length r
theorem Vals.get:∀ {xs:List V} {us:List Value} {i:Nat} {x:V},Vals xs us -> xs[i]? = some x -> ∃ u,us[i]? = some u /\ RelV x u
 | _,_,_,_,.nil,e=>by simp at e
 | _,_,0,_,.cons r _,e=>by simp at e; subst e; exact ⟨_,rfl,r⟩
 | _,_,i + 1,x,.cons _ t,e=>by
  obtain ⟨u,h1,h2⟩:=Vals.get (i:=i) (x:=x) t (by simpa using e)
  exact ⟨u,by simpa using h1,h2⟩
theorem Vals.set {x:V} {u:Value} (r:RelV x u):∀ {xs:List V} {us:List Value} (i:Nat),Vals xs us -> Vals (xs.set i x) (us.set i u)
 | _,_,_,.nil=>.nil
 | _,_,0,.cons _ t=>.cons r t
 | _,_,i + 1,.cons q t=>.cons q (Vals.set r i t)
theorem Vals.append:∀ {xs ys:List V} {us ws:List Value},Vals xs us -> Vals ys ws -> Vals (xs ++ ys) (us ++ ws)
 | _,_,_,_,.nil,s=>s
 | _,_,_,_,.cons r t,s=>.cons r (Vals.append t s)
theorem Vals.take:∀ {xs:List V} {us:List Value} (n:Nat),Vals xs us -> Vals (xs.take n) (us.take n)
 | _,_,0,_=>.nil
 | _,_,_ + 1,.nil=>.nil
 | _,_,n + 1,.cons r t=>.cons r (Vals.take n t)
theorem Vals.drop:∀ {xs:List V} {us:List Value} (n:Nat),Vals xs us -> Vals (xs.drop n) (us.drop n)
 | _,_,0,r=>r
 | _,_,_ + 1,.nil=>.nil
 | _,_,n + 1,.cons _ t=>Vals.drop n t
def RelO:Option V -> Option Value -> Prop
 | some v,some u=>RelV v u
 | none,none=>True
 | _,_=>False
def KV {κ:Type}:List (κ × V) -> List (κ × Value) -> Prop:=Paired fun (p:κ × V) (q:κ × Value)=>p.1 = q.1 /\ RelV p.2 q.2
def kV:Key -> V
 | .inl i=>.int i
 | .inr x=>.str x
inductive HO where
  | lst (xs:List V)
  | tup (xs:List V)
  | dK (kvs:List (Key × V)) | dT (kvs:List (List Key × V))
  | set (S:Int -> Bool) (n:Nat)
  | ins (C dx:Addr) (fs:List (Str × V))
  | own (x:Addr)
  | xd (fs:List (Str × V))
  | met (f x:Addr)
  | rng (lo hi:Int)
  | frz (o:Obj) (u:HO)
  | tbl (ps:Array Value)
  | ext (φ:Heap -> Prop)
abbrev Hp:=Addr -> Option HO
def upd (H:Hp) (a:Addr) (o:HO):Hp:=fun b=>if b = a then some o else H b
theorem z0c {H:Hp} {a:Addr} {o:HO}:upd H a o a = some o:=by unfold upd; rw [if_pos rfl]
theorem z0n {H:Hp} {a b:Addr} {o:HO} (h:b ≠ a):upd H a o b = H b:=by unfold upd; rw [if_neg h]
theorem yHf {H:Hp} {a b:Addr} {o u:HO} (h:H a = some o) (h':H b = some u) (d:o ≠ u):a ≠ b:=by
 intro e; subst e; rw [h] at h'; exact d (Option.some.inj h')
theorem z0r {H:Hp} {a b:Addr} {o:HO} (h:H a = some o) (h':H b = none):a ≠ b:=by
 intro e; subst e; rw [h] at h'; cases h'
section
variable (P:Program) (w:World)
def z2n (H:Hp) (h:Heap) (a:Addr):HO -> Prop
 | .lst xs=>xs.length <= sizeLine /\ ∃ (its:List Value) (n:Nat),Vals xs its /\ h.get? a = some { cls:=.type "list",data:=.seq its.toArray n }
 | .tup xs=>xs.length <= sizeLine /\ ∃ its:List Value,Vals xs its /\ IsTup h a its.toArray /\ ∀ o,h.get? a = some o -> o.dict = none
 | .dK kvs=>kvs.length <= sizeLine /\ (a == sysModules) = false /\ ∃ vs,KV kvs vs /\ h.DictOf (z4l P w) a vs
 | .dT kvs=>kvs.length <= sizeLine /\ (a == sysModules) = false /\ ∃ xs:List (List Key × Addr × Value),
   Paired (fun (p:List Key × V) (q:List Key × Addr × Value)=>p.1 = q.1 /\ H q.2.1 = some (.tup (p.1.map kV)) /\ RelV p.2 q.2.2) kvs xs /\
   ∃ o es ep,h.get? a = some o /\ o.ExactDict /\ o.data = .dict es ep /\ es.toList = xs.map (entryOfKey (tupleKind (z4l P w))) /\ (xs.map (·.1)).Nodup
 | .set S n=>h.SetOf (intKind P w) a S n
 | .ins C dx fs=>H dx = some (.own a) /\ fs.length <= 1000 /\ dx ≠ a /\ h.get? a = some (PySem.W.instObj C dx) /\
   ∃ mA,h.Ns1 dx mA /\ (∀ f,RelO (fs.lookup f) (mA f)) /\ PySem.Within mA (fs.map (·.1))
 | .own _=>∃ o,h.get? a = some o
 | .xd fs=>∃ mA,h.Ns1 a mA /\ ∀ f,RelO (fs.lookup f) (mA f)
 | .rng lo hi=>∃ t u v,h.get? a = some { cls:=.type "range",data:=.fields #[.int lo t,.int hi u,.int 1 v] }
 | .frz o u=>h.get? a = some o /\ z2n H h a u
 | .tbl ps=>h.get? a = some { cls:=.none,data:=.fields ps }
 | .met f x=>h.get? a = some (PySem.W.methodObj (.ref f) (.ref x))
 | .ext φ=>φ h /\ (∃ o,h.get? a = some o) /\ ∀ h1 h2:Heap,φ h1 -> (∀ o,h1.get? a = some o -> h2.get? a = some o) -> φ h2
theorem z7w {h:Heap} {its:Array Value}:∀ o,(h.push { cls:=.type "tuple",data:=.seq its }).get? h.objs.size = some o -> o.dict = none:=by
 intro o e
 rw [Heap.get?_push_size _ rfl] at e
 cases e
 rfl
def HOk (H:Hp) (h:Heap):Prop:=∀ a o,H a = some o -> z2n P w H h a o
end
section
variable {P:Program} {w:World} {H H':Hp} {h h':Heap} {a:Addr} {o:HO}
theorem z2n.lt (x:z2n P w H h a o):a < h.objs.size:=by
 cases o with
 | lst xs=>obtain ⟨_,_,_,_,e⟩:=x; exact Heap.lt_size e
 | tup xs=>obtain ⟨_,_,_,p,_⟩:=x; exact p.lt
 | dK kvs=>obtain ⟨_,_,_,_,o,_,_,e,_⟩:=x; exact Heap.lt_size e
 | dT kvs=>obtain ⟨_,_,_,_,o,_,_,e,_⟩:=x; exact Heap.lt_size e
 | set S n=>obtain ⟨o,_,_,_,e,_⟩:=x; exact Heap.lt_size e
 | ins C dx fs=>obtain ⟨_,_,_,e,_⟩:=x; exact Heap.lt_size e
 | own y=>obtain ⟨_,e⟩:=x; exact Heap.lt_size e
 | xd fs=>obtain ⟨_,⟨_,_,_,e,_⟩,_⟩:=x; exact Heap.lt_size e
 | rng lo hi=>obtain ⟨_,_,_,e⟩:=x; exact Heap.lt_size e
 | frz ob u=>obtain ⟨e,_⟩:=x; exact Heap.lt_size e
 | tbl ps=>exact Heap.lt_size (show h.get? a = some _ from x)
 | met f y=>exact Heap.lt_size (show h.get? a = some _ from x)
 | ext φ=>obtain ⟨_,⟨_,e⟩,_⟩:=x; exact Heap.lt_size e
theorem Paired.mapP {α β:Type} {F G:α -> β -> Prop}:∀ {l₁:List α} {l₂:List β},Paired F l₁ l₂ -> (∀ a b,F a b -> G a b) -> Paired G l₁ l₂
 | _,_,.nil,_=>.nil
 | _,_,.cons r t,f=>.cons (f _ _ r) (Paired.mapP t f)
theorem z2n.stay (x:z2n P w H h a o) (k:∀ b u,(b = a \/ H b = some (.own a)) -> h.get? b = some u -> h'.get? b = some u)
  (ho:∀ b,H b = some (.own a) -> H' b = some (.own a)) (ht:∀ b xs,H b = some (.tup xs) -> H' b = some (.tup xs)):z2n P w H' h' a o:=by
 induction o with
 | lst xs=>obtain ⟨z,its,n,r,e⟩:=x; exact ⟨z,its,n,r,k _ _ (.inl rfl) e⟩
 | tup xs =>
  obtain ⟨z,its,r,⟨ob,e,c⟩,nd⟩:=x
  have e':=k _ _ (.inl rfl) e
  exact ⟨z,its,r,⟨ob,e',c⟩,fun o q=>by rw [e'] at q; cases q; exact nd ob e⟩
 | dK kvs=>obtain ⟨z,y,vs,r,ob,es,ep,e,c⟩:=x; exact ⟨z,y,vs,r,ob,es,ep,k _ _ (.inl rfl) e,c⟩
 | dT kvs =>
  obtain ⟨z,y,xs,r,ob,es,ep,e,c⟩:=x
  exact ⟨z,y,xs,Paired.mapP r fun p q z=>⟨z.1,ht _ _ z.2.1,z.2.2⟩,ob,es,ep,k _ _ (.inl rfl) e,c⟩
 | set S n=>obtain ⟨ob,es,ep,t,e,c⟩:=x; exact ⟨ob,es,ep,t,k _ _ (.inl rfl) e,c⟩
 | ins C dx fs =>
  obtain ⟨d,z,ne,e,mA,⟨od,es,ep,e2,c⟩,r⟩:=x
  exact ⟨ho _ d,z,ne,k _ _ (.inl rfl) e,mA,⟨od,es,ep,k _ _ (.inr d) e2,c⟩,r⟩
 | own y=>obtain ⟨ob,e⟩:=x; exact ⟨ob,k _ _ (.inl rfl) e⟩
 | xd fs=>obtain ⟨mA,⟨od,es,ep,e,c⟩,r⟩:=x; exact ⟨mA,⟨od,es,ep,k _ _ (.inl rfl) e,c⟩,r⟩
 | rng lo hi=>obtain ⟨t,u,v,e⟩:=x; exact ⟨t,u,v,k _ _ (.inl rfl) e⟩
 | frz ob u ih=>obtain ⟨e,q⟩:=x; exact ⟨k _ _ (.inl rfl) e,ih q⟩
 | tbl ps =>
  have e:h.get? a = some { cls:=.none,data:=.fields ps }:=x
  show h'.get? a = some { cls:=.none,data:=.fields ps }
  exact k a _ (.inl rfl) e
 | met f y =>
  have e:h.get? a = some (PySem.W.methodObj (.ref f) (.ref y)):=x
  show h'.get? a = some (PySem.W.methodObj (.ref f) (.ref y))
  exact k a _ (.inl rfl) e
 | ext φ=>obtain ⟨p,⟨o,e⟩,st⟩:=x; exact ⟨st _ _ p fun o q=>k _ _ (.inl rfl) q,⟨o,k _ _ (.inl rfl) e⟩,st⟩
theorem HOk.lt (x:HOk P w H h) (e:H a = some o):a < h.objs.size:=(x a o e).lt
theorem HOk.fresh (x:HOk P w H h) (e:h.objs.size <= a):H a = none:=by
 cases q:H a with
 | none=>rfl
 | some u=>exact absurd (Nat.lt_of_lt_of_le (x.lt q) e) (Nat.lt_irrefl _)
theorem HOk.kept (x:HOk P w H h) (k:∀ b u,h.get? b = some u -> h'.get? b = some u):HOk P w H h':=fun a o e =>
 (x a o e).stay (fun b u _ q=>k b u q) (fun _ q=>q) fun _ _ q=>q
theorem HOk.laid (x:HOk P w H h) (k:∀ b u,h.get? b = some u -> h'.get? b = some u) (hp:h.objs.size <= a) (new:z2n P w (upd H a o) h' a o):HOk P w (upd H a o) h':=fun b u e=>by
 have hn:=x.fresh hp
 by_cases hb:b = a
 ·subst hb; rw [z0c] at e; cases e; exact new
 ·rw [z0n hb] at e
  exact (x b u e).stay (fun c v _ q=>k c v q) (fun c q=>by rw [z0n (z0r q hn)]; exact q) fun c xs q=>by rw [z0n (z0r q hn)]; exact q
end
def Rd (H:Hp) (a:Addr) (u:HO):Prop:=H a = some u \/ ∃ o,H a = some (.frz o u)
theorem Rd.ok {P:Program} {w:World} {H:Hp} {h:Heap} {a:Addr} {u:HO} (r:Rd H a u) (x:HOk P w H h):z2n P w H h a u:=by
 rcases r with r | ⟨o,r⟩
 ·exact x a u r
 ·obtain ⟨_,q⟩:=x a _ r
  exact q
def Mut:Option HO -> Prop
 | some (.lst _)=>True
 | some (.dK _)=>True
 | some (.dT _)=>True
 | some (.set _ _)=>True
 | some (.ins _ _ _)=>True
 | some (.ext _)=>True
 | _=>False
section
variable {P:Program} {w:World} {H:Hp} {h h':Heap} {x e:Addr} {o':HO}
theorem HOk.write (ok:HOk P w H h) (mu:Mut (H x)) (he:e = x \/ H e = some (.own x)) (k:∀ b u,b ≠ e -> h.get? b = some u -> h'.get? b = some u) (heo:∃ u,h'.get? e = some u)
  (new:z2n P w (upd H x o') h' x o'):HOk P w (upd H x o') h':=fun b u q=>by
 have nown:∀ c y,H c = some (.own y) -> c ≠ x:=fun c y r z=>by subst z; rw [r] at mu; exact mu
 have ntup:∀ c xs,H c = some (.tup xs) -> c ≠ x:=fun c xs r z=>by subst z; rw [r] at mu; exact mu
 by_cases hb:b = x
 ·subst hb; rw [z0c] at q; cases q; exact new
 ·rw [z0n hb] at q
  by_cases hbe:b = e
  ·have q':H b = some (.own x):=by
    rcases he with z | z
    ·exact absurd (hbe.trans z) hb
    ·rw [hbe]; exact z
   rw [q] at q'; cases q'
   obtain ⟨v,hv⟩:=heo
   exact ⟨v,by rw [hbe]; exact hv⟩
  ·refine (ok b u q).stay (fun c v hc r=>k c v ?_ r) (fun c r=>by rw [z0n (nown c b r)]; exact r) fun c xs r=>by rw [z0n (ntup c xs r)]; exact r
   rcases hc with rfl | hc
   ·exact hbe
   ·rintro rfl
    rcases he with z | z
    ·exact nown c b hc z
    ·rw [hc] at z; cases z; exact hb rfl
end
structure Un (fs ex:List Addr) (H H':Hp) (h h':Heap):Prop where
 keep:∀ b o,h.get? b = some o -> H b = none -> b ∉ fs -> b ∉ ex -> h'.get? b = some o
 slot:∀ b o,h.get? b = some o -> H b = none -> b ∈ fs -> b ∉ ex -> ∃ sl,h'.get? b = some { o with slots:=sl }
 free:∀ b o,h.get? b = some o -> H b = none -> b ∉ ex -> H' b = none
 there:∀ b o,h.get? b = some o -> b ∉ ex -> ∃ o',h'.get? b = some o'
 tups:∀ b xs,H b = some (.tup xs) -> H' b = some (.tup xs)
 frzs:∀ b o u,H b = some (.frz o u) -> H' b = some (.frz o u)
 tbls:∀ b ps,H b = some (.tbl ps) -> ∃ more,H' b = some (.tbl (ps ++ more))
section
variable {fs fs' ex ex':List Addr} {H H1 H2:Hp} {h h1 h2 h':Heap} {a x e:Addr} {o:HO}
theorem Un.any (u:Un fs ex H H1 h h1) {b:Addr} {ob:Obj} (q:h.get? b = some ob) (n:H b = none) (hx:b ∉ ex):∃ sl,h1.get? b = some { ob with slots:=sl }:=by
 by_cases hb:b ∈ fs
 ·exact u.slot b ob q n hb hx
 ·exact ⟨ob.slots,u.keep b ob q n hb hx⟩
theorem Un.kept (k:∀ b u,h.get? b = some u -> h'.get? b = some u):Un fs ex H H h h' :=
 ⟨fun b ob q _ _ _=>k b ob q,fun b ob q _ _ _=>⟨ob.slots,k b ob q⟩,fun _ _ _ n _=>n,fun b ob q _=>⟨ob,k b ob q⟩,fun _ _ q=>q,fun _ _ _ q=>q,fun _ ps q=>⟨#[],by rw [q]; simp⟩⟩
theorem Un.refl:Un fs ex H H h h:=Un.kept fun _ _ q=>q
theorem Un.laid (k:∀ b u,h.get? b = some u -> h'.get? b = some u) (hp:h.objs.size <= a) (hn:H a = none):Un fs ex H (upd H a o) h h' where
 keep:=fun b u q _ _ _=>k b u q
 slot:=fun b u q _ _ _=>⟨u.slots,k b u q⟩
 free:=fun b u q n _=>by rw [z0n (Nat.ne_of_lt (Nat.lt_of_lt_of_le (Heap.lt_size q) hp))]; exact n
 there:=fun b u q _=>⟨u,k b u q⟩
 tups:=fun b xs q=>by rw [z0n (z0r q hn)]; exact q
 frzs:=fun b u xs q=>by rw [z0n (z0r q hn)]; exact q
 tbls:=fun b ps q=>⟨#[],by rw [z0n (z0r q hn),q]; simp⟩
theorem Un.write (mu:Mut (H x)) (he:e = x \/ H e = some (.own x)) (k:∀ b u,b ≠ e -> h.get? b = some u -> h'.get? b = some u) (heo:∃ u,h'.get? e = some u):Un fs ex H (upd H x o) h h':=by
 have hx:∀ b,H b = none -> b ≠ x:=fun b n z=>by subst z; rw [n] at mu; exact mu
 have hb:∀ b,H b = none -> b ≠ e:=fun b n z=>by
  subst z
  rcases he with r | r
  ·exact hx b n r
  ·rw [n] at r; cases r
 have hm:∀ b u,H b = some u -> ¬ Mut (some u) -> b ≠ x:=fun b u q nm z=>by subst z; rw [q] at mu; exact nm mu
 refine ⟨fun b u q n _ _=>k b u (hb b n) q,fun b u q n _ _=>⟨u.slots,k b u (hb b n) q⟩,fun b u q n _=>by rw [z0n (hx b n)]; exact n,fun b u q _=>?_,
  fun b xs q=>by rw [z0n (hm b _ q fun z=>z)]; exact q,fun b u xs q=>by rw [z0n (hm b _ q fun z=>z)]; exact q,fun b ps q=>⟨#[],by rw [z0n (hm b _ q fun z=>z),q]; simp⟩⟩
 by_cases hbe:b = e
 ·subst hbe; exact heo
 ·exact ⟨u,k b u hbe q⟩
end
def trk (h:Heap) (H:Hp):List Addr:=(List.range h.objs.size).filter fun a=>(H a).isSome
def hidT (h:Heap) (H:Hp):Heap:=PySem.W.hideAll h (trk h H)
theorem y7d (h:Heap) (H:Hp):(hidT h H).objs.size = h.objs.size:=PySem.W.hideAll_size _ _
theorem yBo {h:Heap} {H:Hp} {b:Addr} {o:Obj} (e:h.get? b = some o) (n:H b = none):(hidT h H).get? b = some o :=
 PySem.W.hideAll_get _ e fun hm=>by
  have q:(H b).isSome = true:=(List.mem_filter.mp hm).2
  rw [n] at q; simp at q
theorem yFi {h:Heap} {H:Hp} {b:Addr} {o:Obj} (e:(hidT h H).get? b = some o):h.get? b = some o /\ H b = none:=by
 have e':h.get? b = some o:=PySem.W.of_hideAll (trk h H) e
 refine ⟨e',?_⟩
 cases q:H b with
 | none=>rfl
 | some x =>
  have hm:b ∈ trk h H:=List.mem_filter.mpr ⟨List.mem_range.mpr (Heap.lt_size e'),by simp [q]⟩
  have z:(hidT h H).get? b = none:=PySem.W.hideAll_none (trk h H) hm
  rw [z] at e; cases e
def yEi (g h:Heap) (L:Addr):List (Addr × Obj):=(List.range h.objs.size).filterMap fun a=>if a = L \/ (g.get? a).isSome = true then none else (h.get? a).map fun o=>(a,o)
def rest (g h:Heap) (L d:Addr):List (Addr × Obj):=(yEi g h L).filter fun p=>decide (p.1 ≠ d)
end L2
namespace L2
open PySem PySem.Spec PyProof.Rows
structure Mod (K:PySem.W.Frag) (mg:Str -> Option Value) (base:Heap):Prop where
 kin:K.In base
 glob:base.Ns mainGlobals mg
 blt:∃ mb,base.Ns builtinsNs mb /\ ∀ x:Str,x ≠ "__name__" -> mb x = bootBuiltins x
 nolimit:base.NoLimit
structure Cx where
 prog:Program
 w:World
 K:PySem.W.Frag
 mg:Str -> Option Value
 base:Heap
 A:Around
 N:List Str
 s₀:Shared
 H₀:Hp
 env:Env
 outer:List Env
 stack:List Env
 ex:List Addr
 fn:Str -> Bool
 calm:Bool
 pn:List (Addr × Obj)
 xe:Value -> Shared -> Prop
def frs (l:List Env):List Addr:=l.filterMap (·.frame)
abbrev Cx.fs (X:Cx):List Addr:=frs X.outer
def Vis (sc:Scope) (x:Str):Prop:=sc.names.lookup x = some .local \/ sc.names.lookup x = some .cell \/ sc.names.lookup x = some .free
def Loc (sc:Scope) (x:Str):Prop:=sc.names.lookup x = some .local \/ sc.names.lookup x = some .cell
def Look (env:Env) (h:Heap) (m:Str -> Option Value) (x:Str) (u:Value):Prop :=
 (env.kindOf x = some .local /\ m x = some u) \/ ((env.kindOf x = some .cell \/ env.kindOf x = some .free) /\ ∃ c,env.cells.lookup x = some c /\ h.IsCell c (some u))
structure Cx.Ok (X:Cx):Prop where
 mod:Mod X.K X.mg X.base
 kind:X.env.scope.kind = .function
 glob:X.env.globals = mainGlobals
 blt:X.env.builtins = builtinsNs
 above:X.s₀.heap.objs.size <= X.env.locals
 inj:∀ x y c,X.env.cells.lookup x = some c -> X.env.cells.lookup y = some c -> x = y
 has:∀ x,(X.env.kindOf x = some .cell \/ X.env.kindOf x = some .free) -> ∃ c,X.env.cells.lookup x = some c
 cab:∀ x c,X.fn x = true -> X.env.cells.lookup x = some c -> X.s₀.heap.objs.size <= c
 hd:X.calm = true -> X.A.handled = none
 frames:X.A.frames = some X.stack
 stk:X.stack = X.outer \/ (X.stack = X.env :: X.outer /\ X.env.frame = some X.env.locals)
 exf:∀ b ∈ X.ex,b ≠ X.env.locals /\ ∀ x c,X.env.cells.lookup x = some c -> c ≠ b
 bs:∀ b o,X.base.get? b = some o -> X.s₀.heap.get? b = some o /\ X.H₀ b = none
 bsz:X.base.objs.size <= X.s₀.heap.objs.size
 noex:∀ b o,X.base.get? b = some o -> b ∉ X.ex
 exfs:∀ b ∈ X.ex,b ∉ X.fs
 funs:X.s₀.heap.FunFrames X.base X.outer
 frf:∀ b ∈ X.fs,X.H₀ b = none
structure Inv (X:Cx) (pins:List (Addr × Obj)) (σ:List (Option V)) (H:Hp) (s:Shared):Prop where
 ok:X.Ok
 os:s.os = X.s₀.os
 bare:AllBare s.gens
 base:Un X.fs X.ex X.H₀ H X.s₀.heap s.heap
 loc:∃ m,s.heap.Ns X.env.locals m /\ ∀ (i:Nat) (x:Str) (v:V),X.N[i]? = some x -> σ[i]? = some (some v) -> Vis X.env.scope x -> ∃ u,RelV v u /\ Look X.env s.heap m x u
 cell:∀ x c,X.env.cells.lookup x = some c -> ∃ v,s.heap.IsCell c v
 free:H X.env.locals = none
 freeC:∀ x c,X.env.cells.lookup x = some c -> H c = none
 pin:∀ p ∈ X.pn ++ pins,s.heap.get? p.1 = some p.2 /\ H p.1 = none /\ p.1 ≠ X.env.locals /\ p.1 ∉ X.fs /\ ∀ v,p.2.data ≠ .cell v
 hok:HOk X.prog X.w H s.heap
 len:σ.length = X.N.length
section
variable {X:Cx} {pins:List (Addr × Obj)} {σ:List (Option V)} {H H':Hp} {s:Shared} {h':Heap}
theorem Cx.Ok.nofr (ok:X.Ok) {b:Addr} {o:Obj} (e:X.base.get? b = some o):b ∉ X.fs:=fun hb=>by
 have:=(ok.funs.mem hb).1
 rw [e] at this; cases this
theorem Inv.bs (I:Inv X pins σ H s):∀ b o,X.base.get? b = some o -> s.heap.get? b = some o /\ H b = none:=fun b o e =>
 ⟨I.base.keep b o (I.ok.bs b o e).1 (I.ok.bs b o e).2 (I.ok.nofr e) (I.ok.noex b o e),I.base.free b o (I.ok.bs b o e).1 (I.ok.bs b o e).2 (I.ok.noex b o e)⟩
theorem Inv.bk (I:Inv X pins σ H s):∀ b o,X.base.get? b = some o -> s.heap.get? b = some o:=fun b o e=>(I.bs b o e).1
theorem Inv.mod (I:Inv X pins σ H s):Mod X.K X.mg X.base:=I.ok.mod
theorem Inv.kIn (I:Inv X pins σ H s):X.K.In s.heap:=I.ok.mod.kin.keeps I.bk
theorem Inv.lt (I:Inv X pins σ H s):X.env.locals < s.heap.objs.size:=let ⟨_,hn,_⟩:=I.loc; hn.lt
theorem Inv.sz (I:Inv X pins σ H s):X.s₀.heap.objs.size <= s.heap.objs.size:=Nat.le_trans I.ok.above (Nat.le_of_lt I.lt)
theorem Inv.nofs (I:Inv X pins σ H s) {a:Addr} (h:s.heap.objs.size <= a):a ∉ X.fs:=fun hb=>by
 obtain ⟨_,o,ho,_⟩:=I.ok.funs.mem hb
 exact absurd (Nat.lt_of_lt_of_le (Heap.lt_size ho) (Nat.le_trans I.sz h)) (Nat.lt_irrefl _)
theorem Inv.cne (I:Inv X pins σ H s):∀ x c,X.env.cells.lookup x = some c -> c ≠ X.env.locals:=fun x c e z=>by
 obtain ⟨v,o,ho,hd⟩:=I.cell x c e
 obtain ⟨m,⟨o',es,ep,ho',hd',_⟩,_⟩:=I.loc
 rw [z,ho'] at ho; cases ho; rw [hd'] at hd; cases hd
theorem Inv.funs (I:Inv X pins σ H s):s.heap.FunFrames X.base X.outer:=by
 have all:∀ (l:List Env),(∀ b ∈ frs l,b ∈ X.fs) -> X.s₀.heap.FunFrames X.base l -> s.heap.FunFrames X.base l:=by
  intro l
  induction l with
  | nil=>intro _ _; trivial
  | cons env r ih =>
   intro hs hl
   obtain ⟨hk,⟨L,o,hf,hn,ho,hd⟩,hr⟩:=hl
   have hL:L ∈ X.fs:=hs L (by unfold frs; rw [List.filterMap_cons,hf]; exact List.mem_cons_self)
   obtain ⟨sl,e⟩:=I.base.slot L o ho (I.ok.frf L hL) hL fun z=>I.ok.exfs L z hL
   exact ⟨hk,⟨L,_,hf,hn,e,hd⟩,ih (fun b hb=>hs b (by unfold frs; rw [List.filterMap_cons,hf]; exact List.mem_cons_of_mem _ hb)) hr⟩
 exact all X.outer (fun _ hb=>hb) I.ok.funs
theorem Inv.stack (I:Inv X pins σ H s):s.heap.FunFrames X.base X.stack:=by
 rcases I.ok.stk with e | ⟨e,hf⟩
 ·rw [e]; exact I.funs
 ·rw [e]
  obtain ⟨m,hn,_⟩:=I.loc
  refine .cons (by rw [I.ok.kind]; decide) hf hn ?_ I.funs
  exact Heap.get?_none_of_le (Nat.le_trans I.ok.bsz I.ok.above)
theorem Inv.stkSub (I:Inv X pins σ H s):∀ b ∈ frs X.stack,b ∈ X.env.locals :: X.fs:=fun b hb=>by
 rcases I.ok.stk with e | ⟨e,hf⟩
 ·rw [e] at hb; exact List.mem_cons_of_mem _ hb
 ·rw [e] at hb
  unfold frs at hb
  rw [List.filterMap_cons,hf] at hb
  exact hb
theorem Inv.stkFree (I:Inv X pins σ H s):∀ b ∈ frs X.stack,H b = none:=fun b hb=>by
 rcases List.mem_cons.mp (I.stkSub b hb) with e | hb
 ·rw [e]; exact I.free
 ·obtain ⟨_,o,ho,_⟩:=I.ok.funs.mem hb
  exact I.base.free b o ho (I.ok.frf b hb) fun z=>I.ok.exfs b z hb
theorem Inv.step {g':Array GenState} {t':Nat} {d':Drawn} {ch:List Addr} (I:Inv X pins σ H s)
  (hch:∀ b ∈ ch,(b ∈ X.ex \/ X.s₀.heap.objs.size <= b) /\ b ≠ X.env.locals /\ (∀ x c,X.env.cells.lookup x = some c -> c ≠ b) /\ ∀ p ∈ X.pn ++ pins,p.1 ≠ b)
  (keep:∀ b o,b ≠ X.env.locals -> b ∉ X.fs -> b ∉ ch -> s.heap.get? b = some o -> H b = none -> h'.get? b = some o)
  (slot:∀ b o,b ≠ X.env.locals -> b ∈ X.fs -> b ∉ ch -> s.heap.get? b = some o -> H b = none -> ∃ sl,h'.get? b = some { o with slots:=sl }) (free:∀ b o,b ∉ ch -> s.heap.get? b = some o -> H b = none -> H' b = none)
  (there:∀ b o,b ∉ ch -> s.heap.get? b = some o -> ∃ o',h'.get? b = some o')
  (tups:∀ b xs,H b = some (.tup xs) -> H' b = some (.tup xs)) (frzs:∀ b o u,H b = some (.frz o u) -> H' b = some (.frz o u)) (tbls:∀ b ps,H b = some (.tbl ps) -> ∃ more,H' b = some (.tbl (ps ++ more)))
  (ns:∀ m,s.heap.Ns X.env.locals m -> h'.Ns X.env.locals m) (hok:HOk X.prog X.w H' h') (hg:AllBare g') :
  Inv X pins σ H' { s with heap:=h',gens:=g',drawn:=d',toks:=t' }:=by
 have neL:∀ b o,X.s₀.heap.get? b = some o -> b ≠ X.env.locals:=fun b o e=>Nat.ne_of_lt (Nat.lt_of_lt_of_le (Heap.lt_size e) I.ok.above)
 have neC:∀ b o,X.s₀.heap.get? b = some o -> b ∉ X.ex -> b ∉ ch:=fun b o e hx hb=>by
  rcases (hch b hb).1 with z | z
  ·exact hx z
  ·exact absurd (Nat.lt_of_lt_of_le (Heap.lt_size e) z) (Nat.lt_irrefl _)
 have cellK:∀ x c,X.env.cells.lookup x = some c -> ∀ v,s.heap.IsCell c v -> h'.IsCell c v:=fun x c e v ⟨o,ho,hd⟩=>by
  have nch:c ∉ ch:=fun z=>(hch c z).2.2.1 x c e rfl
  by_cases hc:c ∈ X.fs
  ·obtain ⟨sl,q⟩:=slot c o (I.cne x c e) hc nch ho (I.freeC x c e)
   exact ⟨_,q,hd⟩
  ·exact ⟨o,keep c o (I.cne x c e) hc nch ho (I.freeC x c e),hd⟩
 refine ⟨I.ok,I.os,hg,⟨fun b o e n hb hx=>?_,fun b o e n hb hx=>?_,fun b o e n hx=>?_,fun b o e hx=>?_,fun b xs e=>tups b xs (I.base.tups b xs e),fun b o xs e=>frzs b o xs (I.base.frzs b o xs e),fun b ps e=>?_⟩,?_,fun x c e=>?_,?_,fun x c e=>?_,fun p hp=>?_,hok,I.len⟩
 ·exact keep b o (neL b o e) hb (neC b o e hx) (I.base.keep b o e n hb hx) (I.base.free b o e n hx)
 ·obtain ⟨sl,e1⟩:=I.base.slot b o e n hb hx
  obtain ⟨sl',e2⟩:=slot b _ (neL b o e) hb (neC b o e hx) e1 (I.base.free b o e n hx)
  exact ⟨sl',e2⟩
 ·obtain ⟨o',e1⟩:=I.base.there b o e hx
  exact free b o' (neC b o e hx) e1 (I.base.free b o e n hx)
 ·obtain ⟨o',e1⟩:=I.base.there b o e hx
  exact there b o' (neC b o e hx) e1
 ·obtain ⟨m1,e1⟩:=I.base.tbls b ps e
  obtain ⟨m2,e2⟩:=tbls b _ e1
  exact ⟨m1 ++ m2,by rw [e2,Array.append_assoc]⟩
 ·obtain ⟨m,hn,hl⟩:=I.loc
  refine ⟨m,ns m hn,fun i x v e1 e2 e3=>?_⟩
  obtain ⟨u,r,l⟩:=hl i x v e1 e2 e3
  refine ⟨u,r,?_⟩
  rcases l with l | ⟨k,c,e,z⟩
  ·exact .inl l
  ·exact .inr ⟨k,c,e,cellK x c e _ z⟩
 ·obtain ⟨v,z⟩:=I.cell x c e
  exact ⟨v,cellK x c e v z⟩
 ·obtain ⟨m,⟨o,_,_,ho,_⟩,_⟩:=I.loc
  exact free _ o (fun z=>(hch _ z).2.1 rfl) ho I.free
 ·obtain ⟨v,o,ho,hd⟩:=I.cell x c e
  exact free c o (fun z=>(hch c z).2.2.1 x c e rfl) ho (I.freeC x c e)
 ·obtain ⟨e,n,ne,nf,d⟩:=I.pin p hp
  have nch:p.1 ∉ ch:=fun z=>(hch p.1 z).2.2.2 p hp rfl
  exact ⟨keep p.1 p.2 ne nf nch e n,free p.1 p.2 nch e n,ne,nf,d⟩
theorem Inv.un {t':Nat} (I:Inv X pins σ H s) (u:Un X.fs [] H H' s.heap h') (hok:HOk X.prog X.w H' h'):Inv X pins σ H' { s with heap:=h',toks:=t' }:=by
 obtain ⟨m,⟨o,es,ep,ho,r⟩,_⟩:=id I.loc
 obtain ⟨sl,hL⟩:=u.any ho I.free (by simp)
 exact I.step (g':=s.gens) (d':=s.drawn) (ch:=[]) (fun _ z=>nomatch z) (fun b o _ hb _ e n=>u.keep b o e n hb (by simp)) (fun b o _ hb _ e n=>u.slot b o e n hb (by simp)) (fun b o _ e n=>u.free b o e n (by simp)) (fun b o _ e=>u.there b o e (by simp)) u.tups u.frzs u.tbls (fun m' hm=>by
  obtain ⟨o',es',ep',ho',r'⟩:=hm
  rw [ho] at ho'; cases ho'
  exact ⟨_,es',ep',hL,r'⟩) hok I.bare
theorem Inv.call {g':Array GenState} {t':Nat} {d':Drawn} {ch:List Addr} (I:Inv X pins σ H s) (u:Un (frs X.stack) ch H H' s.heap h') (hok:HOk X.prog X.w H' h') (hg:AllBare g')
  (hch:∀ b ∈ ch,(b ∈ X.ex \/ X.s₀.heap.objs.size <= b) /\ b ≠ X.env.locals /\ (∀ x c,X.env.cells.lookup x = some c -> c ≠ b) /\ ∀ p ∈ X.pn ++ pins,p.1 ≠ b) :
  Inv X pins σ H' { s with heap:=h',gens:=g',drawn:=d',toks:=t' }:=by
 obtain ⟨m,⟨o,es,ep,ho,r⟩,_⟩:=id I.loc
 obtain ⟨sl,hL⟩:=u.any ho I.free fun z=>(hch _ z).2.1 rfl
 exact I.step (ch:=ch) hch (fun b o hL hb hc e n=>u.keep b o e n (fun z=>(List.mem_cons.mp (I.stkSub b z)).elim hL hb) hc) (fun b o _ _ hc e n=>u.any e n hc) (fun b o hc e n=>u.free b o e n hc) (fun b o hc e=>u.there b o e hc) u.tups u.frzs u.tbls (fun m' hm=>by
  obtain ⟨o',es',ep',ho',r'⟩:=hm
  rw [ho] at ho'; cases ho'
  exact ⟨_,es',ep',hL,r'⟩) hok hg
theorem Inv.turned {t':Nat} {it:Addr} (I:Inv X pins σ H s) (k:∀ b o,b ≠ it -> s.heap.get? b = some o -> h'.get? b = some o) (hn:H it = none) (hL:it ≠ X.env.locals)
  (h1:it ∈ X.ex \/ X.s₀.heap.objs.size <= it) (h2:∀ x c,X.env.cells.lookup x = some c -> c ≠ it) (h3:∀ p ∈ X.pn ++ pins,p.1 ≠ it):Inv X pins σ H { s with heap:=h',toks:=t' }:=by
 have nit:∀ b u,H b = some u -> b ≠ it:=fun b u e z=>by rw [z,hn] at e; cases e
 refine I.step (g':=s.gens) (d':=s.drawn) (ch:=[it]) (fun b hb=>?_) (fun b o _ _ hc e _=>k b o (fun z=>hc (by simp [z])) e) (fun b o _ _ hc e _=>⟨o.slots,k b o (fun z=>hc (by simp [z])) e⟩) (fun _ _ _ _ n=>n)
  (fun b o hc e=>⟨o,k b o (fun z=>hc (by simp [z])) e⟩) (fun _ _ e=>e) (fun _ _ _ e=>e) (fun b ps e=>⟨#[],by rw [e]; simp⟩) (fun m hm=>?_) (fun b u e=>?_) I.bare
 ·have e:b = it:=by simpa using hb
  subst e
  exact ⟨h1,hL,h2,h3⟩
 ·obtain ⟨o,es,ep,ho,r⟩:=hm
  exact ⟨o,es,ep,k _ o (Ne.symm hL) ho,r⟩
 ·refine (I.hok b u e).stay (fun c v hc q=>k c v ?_ q) (fun _ q=>q) fun _ _ q=>q
  rcases hc with z | z
  ·rw [z]; exact nit b u e
  ·exact nit c _ z
theorem Inv.tok (I:Inv X pins σ H s) (t:Nat):Inv X pins σ H { s with toks:=t }:=I.un (h':=s.heap) (t':=t) Un.refl I.hok
theorem Inv.kept {t':Nat} (I:Inv X pins σ H s) (k:∀ b u,s.heap.get? b = some u -> h'.get? b = some u):Inv X pins σ H { s with heap:=h',toks:=t' }:=I.un (Un.kept k) (I.hok.kept k)
theorem Inv.laid {a:Addr} {o:HO} {t':Nat} (I:Inv X pins σ H s) (k:∀ b u,s.heap.get? b = some u -> h'.get? b = some u) (hp:s.heap.objs.size <= a) (new:z2n X.prog X.w (upd H a o) h' a o) :
  Inv X pins σ (upd H a o) { s with heap:=h',toks:=t' }:=I.un (Un.laid k hp (I.hok.fresh hp)) (I.hok.laid k hp new)
theorem Inv.write {x e:Addr} {o:HO} {t':Nat} (I:Inv X pins σ H s) (mu:Mut (H x)) (he:e = x \/ H e = some (.own x)) (k:∀ b u,b ≠ e -> s.heap.get? b = some u -> h'.get? b = some u) (heo:∃ u,h'.get? e = some u)
  (new:z2n X.prog X.w (upd H x o) h' x o):Inv X pins σ (upd H x o) { s with heap:=h',toks:=t' }:=I.un (Un.write mu he k heo) (I.hok.write mu he k heo new)
theorem Inv.pins_of {pins':List (Addr × Obj)} (I:Inv X pins σ H s) (h:∀ p ∈ pins',s.heap.get? p.1 = some p.2 /\ H p.1 = none /\ p.1 ≠ X.env.locals /\ p.1 ∉ X.fs /\ ∀ v,p.2.data ≠ .cell v):Inv X pins' σ H s :=
 ⟨I.ok,I.os,I.bare,I.base,I.loc,I.cell,I.free,I.freeC,fun p hp=>(List.mem_append.mp hp).elim (fun z=>I.pin p (List.mem_append_left _ z)) (h p),I.hok,I.len⟩
theorem y2r {N:List Str} (hN:N.Nodup) {i j:Nat} {x:Str} (a:N[i]? = some x) (b:N[j]? = some x):i = j:=by
 obtain ⟨h1,e1⟩:=List.getElem?_eq_some_iff.mp a
 obtain ⟨h2,e2⟩:=List.getElem?_eq_some_iff.mp b
 exact (List.getElem_inj hN).mp (e1.trans e2.symm)
theorem y0a {M:Model} {A:Around} {E:Value -> Shared -> Prop} {i:Nat} {x:Str} {v:V} {u:Value} {Q:Unit -> Shared -> Prop} (I:Inv X pins σ H s) (hN:X.N.Nodup) (hi:X.N[i]? = some x) (hx:Loc X.env.scope x) (r:RelV v u)
  (h:∀ s',Inv X pins (σ.set i (some v)) H s' -> (∃ a,Heap.SameBut a s.heap s'.heap /\ (a = X.env.locals \/ X.env.cells.lookup x = some a)) -> Q () s') (hf:X.fn x = true \/ X.env.scope.names.lookup x = some .local:=by first | exact .inl rfl | exact .inr rfl | assumption):wpAny M A (storeName X.env x u) Q E s:=by
 obtain ⟨m,hn,hl⟩:=id I.loc
 have hcls:(X.env.scope.kind == .class || (X.env.scope.kind == .module && X.env.locals != X.env.globals)) = false:=by rw [I.ok.kind]; rfl
 have hiσ:i < σ.length:=by rw [I.len]; exact (List.getElem?_eq_some_iff.mp hi).1
 have cne:=I.cne
 have tracked:∀ {a:Addr} {h':Heap},(∃ o,s.heap.get? a = some o /\ H a = none) -> Heap.SameBut a s.heap h' -> HOk X.prog X.w H h':=fun {a h'} ha hs b ob e=>by
  obtain ⟨_,_,hfree⟩:=ha
  refine (I.hok b ob e).stay (fun c w' hc q=>(hs.2 c ?_).trans q) (fun _ q=>q) fun _ _ q=>q
  rintro rfl
  rcases hc with rfl | hc
  ·rw [hfree] at e; cases e
  ·rw [hfree] at hc; cases hc
 rcases hx with hk | hk
 ·refine wpAny_storeName_local hk hn (fun h' hn' hs=>?_) hcls
  obtain ⟨oL,_,_,hoL,_⟩:=id hn
  refine h _ ⟨I.ok,I.os,I.bare,⟨fun b o e n hb hx=>?_,fun b o e n hb hx=>?_,I.base.free,fun b o e hx=>?_,I.base.tups,I.base.frzs,I.base.tbls⟩,⟨_,hn',fun j y v' e1 e2 e3=>?_⟩,fun y c e=>?_,I.free,I.freeC,fun p hp=>?_,tracked ⟨oL,hoL,I.free⟩ hs,by simpa using I.len⟩ ⟨_,hs,.inl rfl⟩
  ·exact (hs.2 b (Nat.ne_of_lt (Nat.lt_of_lt_of_le (Heap.lt_size e) I.ok.above))).trans (I.base.keep b o e n hb hx)
  ·obtain ⟨sl,e1⟩:=I.base.slot b o e n hb hx
   exact ⟨sl,(hs.2 b (Nat.ne_of_lt (Nat.lt_of_lt_of_le (Heap.lt_size e) I.ok.above))).trans e1⟩
  ·obtain ⟨o',e1⟩:=I.base.there b o e hx
   exact ⟨o',(hs.2 b (Nat.ne_of_lt (Nat.lt_of_lt_of_le (Heap.lt_size e) I.ok.above))).trans e1⟩
  ·by_cases hj:j = i
   ·subst hj
    rw [hi] at e1; cases e1
    rw [List.getElem?_set_self hiσ] at e2
    cases e2
    exact ⟨u,r,.inl ⟨hk,by simp⟩⟩
   ·rw [List.getElem?_set_ne (Ne.symm hj)] at e2
    obtain ⟨u',r',q⟩:=hl j y v' e1 e2 e3
    refine ⟨u',r',?_⟩
    rcases q with ⟨k,e⟩ | ⟨k,c,e,z⟩
    ·refine .inl ⟨k,?_⟩
     have:y ≠ x:=fun e=>hj (y2r hN e1 (e ▸ hi))
     simp [this,e]
    ·exact .inr ⟨k,c,e,z.sameBut hs (cne y c e)⟩
  ·obtain ⟨w',z⟩:=I.cell y c e
   exact ⟨w',z.sameBut hs (cne y c e)⟩
  ·obtain ⟨e,n,ne,nf,d⟩:=I.pin p hp
   exact ⟨(hs.2 p.1 ne).trans e,n,ne,nf,d⟩
 ·have hfn:X.fn x = true:=by
   rcases hf with z | z
   ·exact z
   ·rw [z] at hk; cases hk
  obtain ⟨c,hc⟩:=I.ok.has x (.inl hk)
  obtain ⟨w',z⟩:=I.cell x c hc
  refine wpAny_storeName_cell I.ok.kind hk hc z (fun h' hc' hs=>?_)
  obtain ⟨oc,hoc,hocd⟩:=id z
  refine h { s with heap:=h' } ⟨I.ok,I.os,I.bare,⟨fun b o e n hb hx=>?_,fun b o e n hb hx=>?_,I.base.free,fun b o e hx=>?_,I.base.tups,I.base.frzs,I.base.tbls⟩,⟨m,hn.sameBut hs (Ne.symm (cne x c hc)),fun j y v' e1 e2 e3=>?_⟩,fun y c' e=>?_,I.free,I.freeC,fun p hp=>?_,tracked ⟨oc,hoc,I.freeC x c hc⟩ hs,by simpa using I.len⟩ ⟨c,hs,.inr hc⟩
  ·exact (hs.2 b (Nat.ne_of_lt (Nat.lt_of_lt_of_le (Heap.lt_size e) (I.ok.cab x c hfn hc)))).trans (I.base.keep b o e n hb hx)
  ·obtain ⟨sl,e1⟩:=I.base.slot b o e n hb hx
   exact ⟨sl,(hs.2 b (Nat.ne_of_lt (Nat.lt_of_lt_of_le (Heap.lt_size e) (I.ok.cab x c hfn hc)))).trans e1⟩
  ·obtain ⟨o',e1⟩:=I.base.there b o e hx
   exact ⟨o',(hs.2 b (Nat.ne_of_lt (Nat.lt_of_lt_of_le (Heap.lt_size e) (I.ok.cab x c hfn hc)))).trans e1⟩
  ·by_cases hj:j = i
   ·subst hj
    rw [hi] at e1; cases e1
    rw [List.getElem?_set_self hiσ] at e2
    cases e2
    exact ⟨u,r,.inr ⟨.inl hk,c,hc,hc'⟩⟩
   ·rw [List.getElem?_set_ne (Ne.symm hj)] at e2
    obtain ⟨u',r',q⟩:=hl j y v' e1 e2 e3
    refine ⟨u',r',?_⟩
    rcases q with q | ⟨k,c',e,z'⟩
    ·exact .inl q
    ·refine .inr ⟨k,c',e,z'.sameBut hs ?_⟩
     rintro rfl
     exact hj (y2r hN e1 (I.ok.inj _ _ _ e hc ▸ hi))
  ·by_cases hcc:c' = c
   ·subst hcc; exact ⟨_,hc'⟩
   ·obtain ⟨w2,z2⟩:=I.cell y c' e
    exact ⟨w2,z2.sameBut hs hcc⟩
  ·obtain ⟨e,n,ne,nf,d⟩:=I.pin p hp
   refine ⟨(hs.2 p.1 ?_).trans e,n,ne,nf,d⟩
   intro q
   rw [q,hoc] at e
   have q':oc = p.2:=Option.some.inj e
   exact d w' (by rw [<- q']; exact hocd)
theorem z9i {M:Model} {A:Around} {E:Value -> Shared -> Prop} {i:Nat} {x:Str} {v:V} {u:Value} {Q:Unit -> Shared -> Prop} (I:Inv X pins σ H s) (hN:X.N.Nodup) (hi:X.N[i]? = some x) (hx:Loc X.env.scope x) (r:RelV v u)
  (h:∀ s',Inv X pins (σ.set i (some v)) H s' -> Q () s') (hf:X.fn x = true \/ X.env.scope.names.lookup x = some .local:=by first | exact .inl rfl | exact .inr rfl | assumption):wpAny M A (storeName X.env x u) Q E s :=
 y0a I hN hi hx r (fun s' I' _=>h s' I') hf
theorem Inv.call' {s':Shared} {ch:List Addr} (I:Inv X pins σ H s) (ho:s'.os = s.os) (u:Un (frs X.stack) ch H H' s.heap s'.heap) (hok:HOk X.prog X.w H' s'.heap) (hg:AllBare s'.gens)
  (hch:∀ b ∈ ch,(b ∈ X.ex \/ X.s₀.heap.objs.size <= b) /\ b ≠ X.env.locals /\ (∀ x c,X.env.cells.lookup x = some c -> c ≠ b) /\ ∀ p ∈ X.pn ++ pins,p.1 ≠ b):Inv X pins σ H' s':=by
 obtain ⟨h',g',d',t',o'⟩:=s'
 have e:o' = s.os:=ho
 subst e
 exact I.call (g':=g') (t':=t') (d':=d') u hok hg hch
end
abbrev XK:=Value -> Option Addr -> Hp -> Prop
abbrev St:=List (Option V)
abbrev VK:=V -> Hp -> Prop
abbrev TE:=St -> Hp -> VK -> Prop
abbrev TT:=St -> Hp -> (Bool -> Hp -> Prop) -> Prop
abbrev TA:=St -> Hp -> (List V -> Hp -> Prop) -> Prop
structure Ends where
 nx:St -> Hp -> Prop
 rt:VK
 bk:St -> Hp -> Prop:=fun _ _=>False
 ct:St -> Hp -> Prop:=fun _ _=>False
abbrev TS:=Ends -> St -> Hp -> Prop
def EP (X:Cx) (pins:List (Addr × Obj)) (σ:St) (Q:VK) (u:Value) (s':Shared):Prop:=∃ v H',Inv X pins σ H' s' /\ RelV v u /\ Q v H'
def TP (X:Cx) (pins:List (Addr × Obj)) (σ:St) (Q:Bool -> Hp -> Prop) (b:Bool) (s':Shared):Prop:=∃ H',Inv X pins σ H' s' /\ Q b H'
def AP (X:Cx) (pins:List (Addr × Obj)) (σ:St) (Q:List V -> Hp -> Prop) (us:List Value) (s':Shared):Prop:=∃ vs H',Inv X pins σ H' s' /\ Vals vs us /\ Q vs H'
def SP (X:Cx) (pins:List (Addr × Obj)) (D:Ends) (f:Flow) (s':Shared):Prop :=
 match f with
 | .next=>∃ σ' H',Inv X pins σ' H' s' /\ D.nx σ' H'
 | .brk=>∃ σ' H',Inv X pins σ' H' s' /\ D.bk σ' H'
 | .cont=>∃ σ' H',Inv X pins σ' H' s' /\ D.ct σ' H'
 | .ret u=>∃ v σ' H',Inv X pins σ' H' s' /\ RelV v u /\ D.rt v H'
def PE (X:Cx) (e:Expr) (t:TE):Prop :=
 ∀ (pins:List (Addr × Obj)) (s:Shared) (σ:St) (H:Hp) (Q:VK),Inv X pins σ H s -> t σ H Q -> wpAny (model X.prog X.w) X.A (eval e X.env) (EP X pins σ Q) X.xe s
def PT (X:Cx) (e:Expr) (t:TT):Prop :=
 ∀ (pins:List (Addr × Obj)) (s:Shared) (σ:St) (H:Hp) (Q:Bool -> Hp -> Prop),Inv X pins σ H s -> t σ H Q -> wpAny (model X.prog X.w) X.A (isTrue e X.env (eval e X.env)) (TP X pins σ Q) X.xe s
def PW (X:Cx) (e:Expr) (t:TT):Prop :=
 ∀ (whole:Sem Value) (pins:List (Addr × Obj)) (s:Shared) (σ:St) (H:Hp) (Q:Bool -> Hp -> Prop),Inv X pins σ H s -> t σ H Q -> wpAny (model X.prog X.w) X.A (isTrue e X.env whole) (TP X pins σ Q) X.xe s
theorem PW.pt {X:Cx} {e:Expr} {t:TT} (h:PW X e t):PT X e t:=h _
def PA (X:Cx) (es:List Expr) (t:TA):Prop :=
 ∀ (pos:Pos) (pins:List (Addr × Obj)) (s:Shared) (σ:St) (H:Hp) (Q:List V -> Hp -> Prop),Inv X pins σ H s -> t σ H Q -> wpAny (model X.prog X.w) X.A (spliced (backTo pos (starEach es X.env))) (AP X pins σ Q) X.xe s
def PS (X:Cx) (st:Stmt) (t:TS):Prop :=
 ∀ (pins:List (Addr × Obj)) (s:Shared) (σ:St) (H:Hp) (D:Ends),Inv X pins σ H s -> t D σ H -> wpAny (model X.prog X.w) X.A (exec st X.env) (SP X pins D) X.xe s
def PSs (X:Cx) (st:List Stmt) (t:TS):Prop :=
 ∀ (pins:List (Addr × Obj)) (s:Shared) (σ:St) (H:Hp) (D:Ends),Inv X pins σ H s -> t D σ H -> wpAny (model X.prog X.w) X.A (execs st X.env) (SP X pins D) X.xe s
theorem thn {α:Type} {t:Sem α} {Q Q':α -> Shared -> Prop} {M:Model} {A:Around} {E:Value -> Shared -> Prop} {s:Shared} (h:wpAny M A t Q E s) (hQ:∀ a s,Q a s -> Q' a s):wpAny M A t Q' E s:=wpAny_mono h hQ fun _ _ x=>x
end L2
namespace L2
open PySem PySem.Spec PyProof.Rows
section
variable {X:Cx}
def tVar (i:Nat):TE:=fun σ H Q=>∃ v,σ[i]? = some (some v) /\ Q v H
def tC (v:V):TE:=fun _ H Q=>Q v H
theorem yDs {i:Nat} {x:Str} {pos:Pos} (hN:X.N[i]? = some x) (hv:Vis X.env.scope x) (hd:(x == ("__debug__" : Str)) = false:=by decide) (hcd:(x == ("__classdict__" : Str)) = false:=by decide):PE X (.Name x pos) (tVar i):=by
 intro pins s σ H Q I h
 obtain ⟨v,e,h⟩:=h
 obtain ⟨m,hn,hl⟩:=I.loc
 obtain ⟨u,r,l⟩:=hl i x v hN e hv
 have fin:EP X pins σ Q u s:=⟨v,H,I,r,h⟩
 rcases l with ⟨hk,hm⟩ | ⟨hk,c,hc,hcell⟩
 ·exact wpAny_Name (wpAny_loadName_local I.ok.kind hk hn hm fin) hd
 ·rcases hk with hk | hk
  ·exact wpAny_Name (wpAny_loadName_cell I.ok.kind hk hc hcell fin) hd
  ·exact wpAny_Name (wpAny_loadName_free I.ok.kind hk hc hcell fin hcd) hd
theorem z0i {i j pos}:PE X (.Constant (.int i) j pos) (tC (.int i)):=fun _ _ _ H _ I h=>wpAny_Constant_int ⟨.int i,H,I.tok _,⟨_,rfl⟩,h⟩
theorem z8a {b j pos}:PE X (.Constant (.bool b) j pos) (tC (.bl b)):=fun _ _ _ H _ I h=>Constant_bool ⟨.bl b,H,I,rfl,h⟩
theorem z6p {j pos}:PE X (.Constant .none j pos) (tC .non):=fun _ _ _ H _ I h=>Constant_none ⟨.non,H,I,rfl,h⟩
def Gl (X:Cx) (x:Str):Prop:=X.env.kindOf x = some .globalImplicit
theorem y0x {E:Value -> Shared -> Prop} {pins:List (Addr × Obj)} {s:Shared} {σ:St} {H:Hp} {x:Str} {u:Value} {pos:Pos} {Q:Value -> Shared -> Prop} (I:Inv X pins σ H s) (hg:Gl X x) (hm:X.mg x = some u) (h:Q u s)
  (hd:(x == ("__debug__" : Str)) = false:=by decide):wpAny (model X.prog X.w) X.A (eval (.Name x pos) X.env) Q E s :=
 Calls.Name_function_global I.ok.kind hg (Calls.loadGlobal_global (by rw [I.ok.glob]; exact I.mod.glob.keeps I.bk) hm h) hd
theorem z6n {E:Value -> Shared -> Prop} {pins:List (Addr × Obj)} {s:Shared} {σ:St} {H:Hp} {x:Str} {u:Value} {pos:Pos} {Q:Value -> Shared -> Prop} (I:Inv X pins σ H s) (hg:Gl X x) (hm:X.mg x = none) (hv:bootBuiltins x = some u) (h:Q u s)
  (hn:x ≠ "__name__" := by decide) (hd:(x == ("__debug__" : Str)) = false:=by decide):wpAny (model X.prog X.w) X.A (eval (.Name x pos) X.env) Q E s:=by
 obtain ⟨mb,h1,h2⟩:=I.mod.blt
 exact Calls.Name_function_global I.ok.kind hg (Calls.loadGlobal_builtin (by rw [I.ok.glob]; exact I.mod.glob.keeps I.bk) hm (by rw [I.ok.blt]; exact h1.keeps I.bk) ((h2 x hn).trans hv) h) hd
theorem zGj {x:Str} {v:V} {u:Value} {pos:Pos} (hg:Gl X x) (hm:X.mg x = some u) (r:RelV v u) (hd:(x == ("__debug__" : Str)) = false:=by decide):PE X (.Name x pos) (tC v) :=
 fun _ _ _ H _ I h=>y0x I hg hm ⟨v,H,I,r,h⟩ hd
theorem z3u {x:Str} {v:V} {u:Value} {pos:Pos} (hg:Gl X x) (hm:X.mg x = none) (hv:bootBuiltins x = some u) (r:RelV v u) (hn:x ≠ "__name__" := by decide) (hd:(x == ("__debug__" : Str)) = false:=by decide):PE X (.Name x pos) (tC v) :=
 fun _ _ _ H _ I h=>z6n I hg hm hv ⟨v,H,I,r,h⟩ hn hd
variable {a b:Expr} {ta tb:TE} {pos:Pos}
variable {tA tB':TT} {rest:List Expr}
def tAnd (t u:TT):TT:=fun σ H Q=>t σ H fun c H1=>if c = true then u σ H1 Q else Q false H1
def tOr (t u:TT):TT:=fun σ H Q=>t σ H fun c H1=>if c = true then Q true H1 else u σ H1 Q
def tNot (t:TT):TT:=fun σ H Q=>t σ H fun c H1=>Q (!c) H1
theorem zGn (ha:PT X a tA):PW X (.BoolOp .And [a] pos) tA:=by
 intro wh pins s σ H Q I h
 refine isTrue_and (thn (ha pins s σ H Q I h) fun c s1 e=>?_)
 cases c with
 | true=>exact isTrue_and_nil e
 | false=>exact e
theorem zDd (ha:PT X a tA):PW X (.BoolOp .Or [a] pos) tA:=by
 intro wh pins s σ H Q I h
 refine isTrue_or (thn (ha pins s σ H Q I h) fun c s1 e=>?_)
 cases c with
 | false=>exact isTrue_or_nil e
 | true=>exact e
theorem y3i (ha:PT X a tA) (hb:PW X (.BoolOp .And (b :: rest) pos) tB'):PW X (.BoolOp .And (a :: b :: rest) pos) (tAnd tA tB'):=by
 intro wh pins s σ H Q I h
 refine isTrue_and (thn (ha pins s σ H _ I h) fun c s1 ⟨H1,I1,q1⟩=>?_)
 cases c with
 | true=>exact hb wh pins s1 σ H1 Q I1 q1
 | false=>exact ⟨H1,I1,q1⟩
theorem zJn (ha:PT X a tA) (hb:PW X (.BoolOp .Or (b :: rest) pos) tB'):PW X (.BoolOp .Or (a :: b :: rest) pos) (tOr tA tB'):=by
 intro wh pins s σ H Q I h
 refine isTrue_or (thn (ha pins s σ H _ I h) fun c s1 ⟨H1,I1,q1⟩=>?_)
 cases c with
 | true=>exact ⟨H1,I1,q1⟩
 | false=>exact hb wh pins s1 σ H1 Q I1 q1
theorem z7m (ha:PT X a tA):PT X (.UnaryOp .Not a pos) (tNot tA):=by
 intro pins s σ H Q I h
 exact isTrue_not (ha pins s σ H (fun c H1=>Q (!c) H1) I h)
def k0f (ta tb:TE):TE:=fun σ H Q=>ta σ H fun x H1=>∃ c,x = .bl c /\ if c = true then tb σ H1 Q else Q (.bl false) H1
def k0m (ta:TE):TE:=fun σ H Q=>ta σ H fun x H1=>∃ c,x = .bl c /\ Q (.bl (!c)) H1
theorem zDa {op} {t:TE} (h:PE X a t):PE X (.BoolOp op [a] pos) t:=fun pins s σ H Q I hw=>BoolOp_one (h pins s σ H Q I hw)
theorem z8i (ha:PE X a ta) (hb:PE X (.BoolOp .And (b :: rest) pos) tb):PE X (.BoolOp .And (a :: b :: rest) pos) (k0f ta tb):=by
 intro pins s σ H Q I h
 refine BoolOp_and (thn (ha pins s σ H _ I h) fun v s1 ⟨x,H1,I1,r1,q1⟩=>?_)
 obtain ⟨c,rfl,q1⟩:=q1
 cases r1
 refine wpAny_truthy_bool ?_
 cases c with
 | true=>exact hb pins s1 σ H1 Q I1 q1
 | false=>exact ⟨.bl false,H1,I1,rfl,q1⟩
theorem yDr (ha:PE X a ta):PE X (.UnaryOp .Not a pos) (k0m ta):=by
 intro pins s σ H Q I h
 refine UnaryOp_ (thn (ha pins s σ H _ I h) fun v s1 ⟨x,H1,I1,r1,q1⟩=>?_)
 obtain ⟨c,rfl,q1⟩:=q1
 cases r1
 exact not_of (wpAny_truthy_bool ⟨.bl (!c),H1,I1,rfl,q1⟩)
def tIf (t:TT) (ta tb:TE):TE:=fun σ H Q=>t σ H fun c H1=>if c = true then ta σ H1 Q else tb σ H1 Q
theorem yCi {c:Expr} (hc:PT X c tA) (ha:PE X a ta) (hb:PE X b tb):PE X (.IfExp c a b pos) (tIf tA ta tb):=by
 intro pins s σ H Q I h
 refine wpAny_IfExp (thn (hc pins s σ H _ I h) fun d s1 ⟨H1,I1,q1⟩=>?_)
 cases d with
 | true=>exact ha pins s1 σ H1 Q I1 q1
 | false=>exact hb pins s1 σ H1 Q I1 q1
end
end L2
namespace L2
open PySem PySem.Spec PyProof.Rows
def SqL (K:PySem.W.Frag) (H:Hp) (a:Addr) (xs:List V):Prop :=
 Rd H a (.lst xs) \/
  ∃ (o:Obj) (its:Array Value) (n:Nat),K.lookup a = some o /\ o.cls = .type "list" /\ o.dict = none /\ o.data = .seq its n /\ its.size <= sizeLine /\ Vals xs its.toList
def SqT (K:PySem.W.Frag) (H:Hp) (a:Addr) (xs:List V):Prop :=
 Rd H a (.tup xs) \/
  ∃ (o:Obj) (its:Array Value) (n:Nat),K.lookup a = some o /\ o.cls = .type "tuple" /\ o.data = .seq its n /\ its.size <= sizeLine /\ Vals xs its.toList
def absV:Value -> Option V
 | .none=>some .non
 | .bool b=>some (.bl b)
 | .int i _=>some (.int i)
 | .str x _=>some (.str x)
 | .bytes b _=>some (.byt b)
 | .float b _=>some (.flt b)
 | .ref a=>some (.ref a)
 | .type n=>some (.ty n)
 | _=>none
theorem RelV.abs {x:V} {u:Value} (r:RelV x u):absV u = some x:=by
 cases x with
 | non=>cases r; rfl
 | bl _=>cases r; rfl
 | int _=>obtain ⟨t,rfl⟩:=r; rfl
 | str _=>obtain ⟨t,rfl⟩:=r; rfl
 | byt _=>obtain ⟨t,rfl⟩:=r; rfl
 | flt _=>obtain ⟨t,rfl⟩:=r; rfl
 | ref _=>cases r; rfl
 | ty _=>cases r; rfl
theorem RelV.inj {x y:V} {u:Value} (r:RelV x u) (q:RelV y u):x = y:=Option.some.inj (r.abs.symm.trans q.abs)
theorem Vals.inj:∀ {xs ys:List V} {us:List Value},Vals xs us -> Vals ys us -> xs = ys
 | _,_,_,.nil,.nil=>rfl
 | _,_,_,.cons r t,.cons r' t'=>by rw [r.inj r',Vals.inj t t']
section
variable {X:Cx} {pins:List (Addr × Obj)} {σ:St} {H:Hp} {s:Shared} {a:Addr} {xs ys:List V}
theorem SqL.of {K:PySem.W.Frag} (h:H a = some (.lst xs)):SqL K H a xs:=.inl (.inl h)
theorem SqT.of {K:PySem.W.Frag} (h:H a = some (.tup xs)):SqT K H a xs:=.inl (.inl h)
theorem Inv.list (I:Inv X pins σ H s) (h:SqL X.K H a xs):∃ its:List Value,Vals xs its /\ PlainL s.heap a its.toArray /\ xs.length <= sizeLine:=by
 rcases h with h | ⟨o,its,n,hk,hc,hd,hs,hz,r⟩
 ·obtain ⟨z,its,n,r,e⟩:=h.ok I.hok
  exact ⟨its,r,⟨_,n,e,rfl,rfl,rfl⟩,z⟩
 ·refine ⟨its.toList,r,⟨o,n,I.kIn a o hk,hc,hd,by simpa using hs⟩,?_⟩
  have e:=r.length
  simp only [Array.length_toList] at e
  omega
theorem Inv.tuple (I:Inv X pins σ H s) (h:SqT X.K H a xs):∃ its:List Value,Vals xs its /\ IsTup s.heap a its.toArray /\ xs.length <= sizeLine:=by
 rcases h with h | ⟨o,its,n,hk,hc,hs,hz,r⟩
 ·obtain ⟨z,its,r,p,_⟩:=h.ok I.hok
  exact ⟨its,r,p,z⟩
 ·refine ⟨its.toList,r,⟨o,I.kIn a o hk,hc,n,by simpa using hs⟩,?_⟩
  have e:=r.length
  simp only [Array.length_toList] at e
  omega
theorem Inv.list_inj (I:Inv X pins σ H s) (h:SqL X.K H a xs) (h':SqL X.K H a ys):xs = ys:=by
 obtain ⟨its,r,⟨o,n,e,_,_,d⟩,_⟩:=I.list h
 obtain ⟨its',r',⟨o',n',e',_,_,d'⟩,_⟩:=I.list h'
 rw [e] at e'; cases e'
 rw [d] at d'
 injection d' with d1 _
 have:its = its':=by simpa using congrArg Array.toList d1
 subst this
 exact r.inj r'
theorem Inv.tuple_inj (I:Inv X pins σ H s) (h:SqT X.K H a xs) (h':SqT X.K H a ys):xs = ys:=by
 obtain ⟨its,r,⟨o,e,_,n,d⟩,_⟩:=I.tuple h
 obtain ⟨its',r',⟨o',e',_,n',d'⟩,_⟩:=I.tuple h'
 rw [e] at e'; cases e'
 rw [d] at d'
 injection d' with d1 _
 have:its = its':=by simpa using congrArg Array.toList d1
 subst this
 exact r.inj r'
end
abbrev Cx.wish (X:Cx) (E:Value -> Shared -> Prop):Cx:={ X with xe:=E }
abbrev Cx.nox (X:Cx):Cx:=X.wish fun _ _=>False
theorem Cx.Ok.wish {X:Cx} (ok:X.Ok) (E:Value -> Shared -> Prop):(X.wish E).Ok :=
 ⟨ok.mod,ok.kind,ok.glob,ok.blt,ok.above,ok.inj,ok.has,ok.cab,ok.hd,ok.frames,ok.stk,ok.exf,ok.bs,ok.bsz,ok.noex,ok.exfs,ok.funs,ok.frf⟩
theorem Cx.Ok.unwish {X:Cx} {E:Value -> Shared -> Prop} (ok:(X.wish E).Ok):X.Ok :=
 ⟨ok.mod,ok.kind,ok.glob,ok.blt,ok.above,ok.inj,ok.has,ok.cab,ok.hd,ok.frames,ok.stk,ok.exf,ok.bs,ok.bsz,ok.noex,ok.exfs,ok.funs,ok.frf⟩
section
variable {X:Cx} {pins:List (Addr × Obj)} {σ:St} {H:Hp} {s:Shared} {E:Value -> Shared -> Prop}
theorem Inv.wish (I:Inv X pins σ H s) (E:Value -> Shared -> Prop):Inv (X.wish E) pins σ H s:=⟨I.ok.wish E,I.os,I.bare,I.base,I.loc,I.cell,I.free,I.freeC,I.pin,I.hok,I.len⟩
theorem Inv.unwish (I:Inv (X.wish E) pins σ H s):Inv X pins σ H s:=⟨I.ok.unwish,I.os,I.bare,I.base,I.loc,I.cell,I.free,I.freeC,I.pin,I.hok,I.len⟩
theorem SP.unwish {D:Ends} {f:Flow} {s':Shared} (h:SP (X.wish E) pins D f s'):SP X pins D f s':=by
 cases f with
 | next=>obtain ⟨σ',H',I,q⟩:=h; exact ⟨σ',H',I.unwish,q⟩
 | brk=>obtain ⟨σ',H',I,q⟩:=h; exact ⟨σ',H',I.unwish,q⟩
 | cont=>obtain ⟨σ',H',I,q⟩:=h; exact ⟨σ',H',I.unwish,q⟩
 | ret u=>obtain ⟨v,σ',H',I,r,q⟩:=h; exact ⟨v,σ',H',I.unwish,r,q⟩
theorem PSs.nox {st:List Stmt} {t:TS} (h:PSs X.nox st t):PSs X st t:=fun pins s σ H D I hw =>
 wpAny_mono (h pins s σ H D (I.wish _) hw) (fun _ _ q=>q.unwish) fun _ _ z=>False.elim z
end
section
variable {X:Cx} {st:Stmt} {rest:List Stmt} {t u:TS} {e:Expr} {te:TE} {pos:Pos}
def y9x:TS:=fun D σ H=>D.nx σ H
def tSeq (t u:TS):TS:=fun D σ H=>t { D with nx:=u D } σ H
theorem z1a:PSs X [] y9x:=fun _ _ σ H _ I h=>wpAny_execs_nil ⟨σ,H,I,h⟩
theorem z0e (h1:PS X st t) (h2:PSs X rest u):PSs X (st :: rest) (tSeq t u):=by
 intro pins s σ H D I h
 refine wpAny_execs_cons (thn (h1 pins s σ H { D with nx:=u D } I h) fun f s1 q=>?_)
 cases f with
 | next =>
  obtain ⟨σ',H',I',q⟩:=q
  exact h2 pins s1 σ' H' D I' q
 | ret v=>exact q
 | brk=>exact q
 | cont=>exact q
theorem z0f (h1:PS X st t):PSs X [st] t:=by
 intro pins s σ H D I h
 refine wpAny_execs_cons (thn (h1 pins s σ H D I h) fun f s1 q=>?_)
 cases f with
 | next=>exact wpAny_execs_nil q
 | ret v=>exact q
 | brk=>exact q
 | cont=>exact q
theorem Inv.quiet {pins:List (Addr × Obj)} {σ:St} {H:Hp} {s:Shared} (I:Inv X pins σ H s):interactive X.env = false:=by simp [interactive,I.ok.kind]
def k0j (te:TE):TS:=fun D σ H=>te σ H fun _ H1=>D.nx σ H1
theorem z3n (he:PE X e te) (hs:swapsWith e none pos.line X.env = pure false:=by rfl):PS X (.Expr e pos) (k0j te):=by
 intro pins s σ H D I h
 exact wpAny_Expr_any (thn (he pins s σ H _ I h) fun v s1 ⟨x,H1,I1,r1,q1⟩=>⟨σ,H1,I1,q1⟩) I.quiet hs
def tRet (te:TE):TS:=fun D σ H=>te σ H D.rt
theorem z0p (he:PE X e te):PS X (.Return (some e) pos) (tRet te):=by
 intro pins s σ H D I h
 exact wpAny_Return_some (thn (he pins s σ H _ I h) fun v s1 ⟨x,H1,I1,r1,q1⟩=>⟨x,σ,H1,I1,r1,q1⟩)
def tIfS (c:TT) (t u:TS):TS:=fun D σ H=>c σ H fun b H1=>if b = true then t D σ H1 else u D σ H1
theorem z2z {c:Expr} {a b:List Stmt} {tc:TT} (hc:PT X c tc) (ha:PSs X a t) (hb:PSs X b u):PS X (.If c a b pos) (tIfS tc t u):=by
 intro pins s σ H D I h
 refine wpAny_If (thn (hc pins s σ H _ I h) fun d s1 ⟨H1,I1,q1⟩=>?_)
 cases d with
 | true=>exact ha pins s1 σ H1 D I1 q1
 | false=>exact hb pins s1 σ H1 D I1 q1
def yIs:TS:=fun _ _ _=>False
theorem z4z:PS X st yIs:=fun _ _ _ _ _ _ h=>h.elim
end
abbrev TG:=V -> St -> Hp -> (St -> Hp -> Prop) -> Prop
abbrev TGs:=List V -> St -> Hp -> (St -> Hp -> Prop) -> Prop
def PG (X:Cx) (target:Expr) (t:TG):Prop :=
 ∀ (pins:List (Addr × Obj)) (s:Shared) (σ:St) (H:Hp) (v:V) (u:Value) (Q:St -> Hp -> Prop),Inv X pins σ H s -> RelV v u -> t v σ H Q ->
  wpAny (model X.prog X.w) X.A (assign target X.env u) (fun _ s'=>∃ σ' H',Inv X pins σ' H' s' /\ Q σ' H') X.xe s
def PGs (X:Cx) (ts:List Expr) (t:TGs):Prop :=
 ∀ (pins:List (Addr × Obj)) (s:Shared) (σ:St) (H:Hp) (vs:List V) (us:List Value) (Q:St -> Hp -> Prop),Inv X pins σ H s -> Vals vs us -> t vs σ H Q ->
  wpAny (model X.prog X.w) X.A (assignInOrder ((assignEach ts X.env).map (·.2)) us) (fun _ s'=>∃ σ' H',Inv X pins σ' H' s' /\ Q σ' H') X.xe s
abbrev TSet:=V -> V -> V -> Hp -> (Hp -> Prop) -> Prop
def PSet (X:Cx) (t:TSet):Prop :=
 ∀ (pins:List (Addr × Obj)) (s:Shared) (σ:St) (H:Hp) (o i v:V) (ov iv u:Value) (Q:Hp -> Prop),Inv X pins σ H s -> RelV o ov -> RelV i iv -> RelV v u -> t o i v H Q ->
  wpAny (model X.prog X.w) X.A (setItem ov iv u) (fun _ s'=>∃ H',Inv X pins σ H' s' /\ Q H') X.xe s
abbrev TIp:=V -> V -> Hp -> VK -> Prop
def PIp (X:Cx) (op:Operator) (t:TIp):Prop :=
 ∀ (pins:List (Addr × Obj)) (s:Shared) (σ:St) (H:Hp) (x y:V) (v u:Value) (Q:VK),Inv X pins σ H s -> RelV x v -> RelV y u -> t x y H Q ->
  wpAny (model X.prog X.w) X.A (inplaceOp op v u) (EP X pins σ Q) X.xe s
section
variable {X:Cx} {pos:Pos}
def zBx (i:Nat):TG:=fun v σ H Q=>Q (σ.set i (some v)) H
theorem z2m {i:Nat} {x:Str} (hN:X.N.Nodup) (hi:X.N[i]? = some x) (hx:Loc X.env.scope x) (hf:X.fn x = true \/ X.env.scope.names.lookup x = some .local:=by first | exact .inl rfl | exact .inr rfl | assumption):PG X (.Name x pos) (zBx i):=by
 intro pins s σ H v u Q I r h
 exact wpAny_assign_Name (z9i I hN hi hx r (fun s' I'=>⟨_,H,I',h⟩) hf)
def gNil:TGs:=fun vs σ H Q=>vs = [] /\ Q σ H
def yEz (t:TG) (u:TGs):TGs:=fun vs σ H Q=>∃ v r,vs = v :: r /\ t v σ H fun σ' H'=>u r σ' H' Q
theorem z5s:PGs X [] gNil:=by
 intro pins s σ H vs us Q I r h
 obtain ⟨e,h⟩:=h
 subst e
 cases r
 exact assignInOrder_nil ⟨σ,H,I,h⟩
theorem z1t {e:Expr} {es:List Expr} {t:TG} {u:TGs} (h1:PG X e t) (h2:PGs X es u)
  (hs:(assignEach (e :: es) X.env).map (·.2) = assign e X.env :: (assignEach es X.env).map (·.2):=by rfl):PGs X (e :: es) (yEz t u):=by
 intro pins s σ H vs us Q I r h
 obtain ⟨v,vr,e1,h⟩:=h
 subst e1
 cases r with
 | cons r rr =>
  rw [hs]
  refine assignInOrder_cons (thn (h1 pins s σ H _ _ _ I r h) fun _ s1 ⟨σ1,H1,I1,q1⟩=>?_)
  exact h2 pins s1 σ1 H1 _ _ Q I1 rr q1
def gTup (K:PySem.W.Frag) (n:Nat) (t:TGs):TG:=fun v σ H Q=>∃ a xs,v = .ref a /\ SqT K H a xs /\ xs.length = n /\ t xs σ H Q
theorem y3e {es:List Expr} {k:Nat} {t:TGs} {n:Nat} (hc:X.calm = true) (h:PGs X es t)
  (hn:(assignEach es X.env).length = n:=by rfl) (hst:(assignEach es X.env).findIdx? (·.1) = none:=by rfl):PG X (.Tuple es k pos) (gTup X.K n t):=by
 intro pins s σ H v u Q I r hw
 obtain ⟨a,xs,e1,hq,hl,hw⟩:=hw
 subst e1
 cases r
 obtain ⟨its,rv,ht,hz⟩:=I.tuple hq
 refine assign_Tuple_tuple (I.ok.hd hc) ht (by simp [hn,<- hl,rv.length]) hst fun h' hx=>?_
 have I1:Inv X pins σ H { s with heap:=h' }:=I.kept (t':=s.toks) fun b o e=>hx b o (Nat.ne_of_lt (Heap.lt_size e)) e
 exact h pins _ σ H xs _ Q I1 (by simpa using rv) hw
def gSub (to ti:TE) (t:TSet):TG:=fun v σ H Q=>to σ H fun o H1=>ti σ H1 fun i H2=>t o i v H2 fun H3=>Q σ H3
theorem yDt {o i:Expr} {to ti:TE} {t:TSet} (ho:PE X o to) (hi:PE X i ti) (hs:PSet X t)
  (ha:∀ v,assign (.Subscript o i pos) X.env v = (do
   let ov <- holding [v] (eval o X.env)
   let iv <- holding [v,ov] (eval i X.env)
   standAt pos
   holding [v,ov,iv] (setItem ov iv v)
   release [v,ov,iv] []):=by intro _; rfl):PG X (.Subscript o i pos) (gSub to ti t):=by
 intro pins s σ H v u Q I r h
 rw [ha]
 refine wpAny_bind (wpAny_holding (thn (ho pins s σ H _ I h) fun ov s1 ⟨x,H1,I1,r1,q1⟩=>?_))
 refine wpAny_bind (wpAny_holding (thn (hi pins s1 σ H1 _ I1 q1) fun iv s2 ⟨y,H2,I2,r2,q2⟩=>?_))
 refine wpAny_bind (wpAny_standAt (wpAny_bind (wpAny_holding (thn (hs pins s2 σ H2 x y v ov iv u _ I2 r1 r2 r q2) fun _ s3 ⟨H3,I3,q3⟩=>?_))))
 exact wpAny_release ⟨σ,H3,I3,q3⟩
def tAsg (te:TE) (g:TG):TS:=fun D σ H=>te σ H fun x H1=>g x σ H1 D.nx
theorem y3g {tg e:Expr} {te:TE} {g:TG} (he:PE X e te) (hg:PG X tg g) (hs:swapsWithSole [tg] e pos.line X.env = pure false:=by rfl) (hw:swappedStores [tg] e X.env = pure none:=by rfl)
  (h1:(assignEach [tg] X.env).map (·.2) = [assign tg X.env]:=by rfl):PS X (.Assign [tg] e pos) (tAsg te g):=by
 intro pins s σ H D I h
 refine wpAny_Assign_stores (thn (he pins s σ H _ I h) fun v s1 ⟨x,H1,I1,r1,q1⟩=>?_) hs hw
 rw [h1]
 exact thn (hg pins s1 σ H1 x v _ I1 r1 q1) fun _ s2 q=>q
theorem z0t {i:Nat} {x:Str} {e:Expr} {te:TE} {pos':Pos} (hN:X.N.Nodup) (hi:X.N[i]? = some x) (hx:Loc X.env.scope x) (he:PE X e te) (hs:swapsWith e (some (.Name x pos')) pos.line X.env = pure false:=by rfl) (hf:X.fn x = true \/ X.env.scope.names.lookup x = some .local:=by first | exact .inl rfl | exact .inr rfl | assumption) :
  PS X (.Assign [.Name x pos'] e pos) (tAsg te (zBx i)):=by
 intro pins s σ H D I h
 refine wpAny_Assign_Name (thn (he pins s σ H _ I h) fun v s1 ⟨y,H1,I1,r1,q1⟩=>?_) hs
 exact z9i I1 hN hi hx r1 (fun s2 I2=>⟨_,H1,I2,q1⟩) hf
def tPar (i j:Nat) (ta:TA):TS:=fun D σ H=>ta σ H fun vs H1=>∃ v w,vs = [v,w] /\ D.nx ((σ.set i (some v)).set j (some w)) H1
theorem yDv {i j:Nat} {x y:Str} {a b:Expr} {ta:TA} {px py pt:Pos} {kt k2 pt2} (hc:X.calm = true) (hN:X.N.Nodup) (hi:X.N[i]? = some x) (hj:X.N[j]? = some y) (hij:i ≠ j)
  (hx:X.env.scope.names.lookup x = some .local) (hy:X.env.scope.names.lookup y = some .local) (ha:PA X [a,b] ta)
  (hw:swappedStores [.Tuple [.Name x px,.Name y py] kt pt] (.Tuple [a,b] k2 pt2) X.env = pure (some [x,y]))
  (hs:swapsWithSole [.Tuple [.Name x px,.Name y py] kt pt] (.Tuple [a,b] k2 pt2) pos.line X.env = pure false:=by rfl) :
  PS X (.Assign [.Tuple [.Name x px,.Name y py] kt pt] (.Tuple [a,b] k2 pt2) pos) (tPar i j ta):=by
 intro pins s σ H D I h
 rw [exec_Assign_arm]
 refine wpAny_bind (wpAny_standAt ?_)
 rw [hs]
 refine wpAny_bind (wpAny_pure ?_)
 rw [if_neg (by decide)]
 refine wpAny_bind (Tuple_ (thn (ha _ pins s σ H _ I h) fun us s1 ⟨vs,H1,I1,r1,q1⟩=>?_))
 obtain ⟨v,w,e1,q1⟩:=q1
 subst e1
 obtain ⟨u1,u2,rfl,rv,rw'⟩:∃ u1 u2,us = [u1,u2] /\ RelV v u1 /\ RelV w u2:=by
  cases r1 with
  | cons p q =>
   cases q with
   | cons p' q' =>
    cases q'
    exact ⟨_,_,rfl,p,p'⟩
 refine wpAny_newObj_type ?_ (by show 2 <= sizeLine; decide)
 have I2:Inv X pins σ H1 { s1 with heap:=s1.heap.push { cls:=.type "tuple",data:=.seq [u1,u2].toArray } }:=I1.kept (t':=s1.toks) fun b o e=>Heap.get?_push_of_some _ e
 rw [hw]
 refine wpAny_bind (wpAny_pure ?_)
 show wpAny (model X.prog X.w) X.A (do rule "assign.swapped-stores"; let items <- unpackItems (.ref s1.heap.objs.size) 2 none; assignInOrder [fun v=>bindName X.env y v,fun v=>bindName X.env x v] items.reverse; pure Flow.next) _ _ _
 refine wpAny_bind (wpAny_rule (wpAny_bind (unpackItems_tuple (items:=#[u1,u2]) (I.ok.hd hc) (IsTup.new s1.heap _) fun h' hx'=>?_)))
 have I3:=I2.kept (h':=h') (t':=s1.toks) fun b o e=>hx' b o (Nat.ne_of_lt (Heap.lt_size e)) e
 show wpAny _ _ (assignInOrder [fun v=>bindName X.env y v,fun v=>bindName X.env x v] [u2,u1] >>= fun _=>pure Flow.next) _ _ _
 refine wpAny_bind (assignInOrder_cons (wpAny_bindName (z9i I3 hN hj (.inl hy) rw' (fun s2 I4=>?_) (.inr hy))))
 refine assignInOrder_cons (wpAny_bindName (z9i I4 hN hi (.inl hx) rv (fun s3 I5=>assignInOrder_nil (wpAny_pure ?_)) (.inr hx)))
 rw [List.set_comm _ _ (Ne.symm hij)] at I5
 exact ⟨_,H1,I5,q1⟩
def tAug (i:Nat) (te:TE) (ti:TIp):TS:=fun D σ H=>∃ x,σ[i]? = some (some x) /\ te σ H fun y H1=>ti x y H1 fun z H2=>D.nx (σ.set i (some z)) H2
theorem y3h {i:Nat} {x:Str} {e:Expr} {te:TE} {op:Operator} {ti:TIp} {pos':Pos} (hN:X.N.Nodup) (hi:X.N[i]? = some x) (hx:Loc X.env.scope x) (he:PE X e te) (ho:PIp X op ti) (hf:X.fn x = true \/ X.env.scope.names.lookup x = some .local:=by first | exact .inl rfl | exact .inr rfl | assumption) :
  PS X (.AugAssign (.Name x pos') op e pos) (tAug i te ti):=by
 intro pins s σ H D I h
 obtain ⟨v,e1,h⟩:=h
 obtain ⟨m,hn,hl⟩:=I.loc
 have vis:Vis X.env.scope x:=by rcases hx with k | k; exact .inl k; exact .inr (.inl k)
 obtain ⟨u,r,l⟩:=hl i x v hi e1 vis
 refine wpAny_AugAssign_Name ?_
 have go:wpAny (model X.prog X.w) X.A (eval e X.env) (fun w s₂=>wpAny (model X.prog X.w) X.A (inplaceOp op u w) (fun r s₃=>wpAny (model X.prog X.w) X.A (storeName X.env x r) (fun _=>SP X pins D .next) X.xe s₃) X.xe s₂) X.xe s:=by
  refine thn (he pins s σ H _ I h) fun w s1 ⟨y,H1,I1,r1,q1⟩=>?_
  refine thn (ho pins s1 σ H1 v y u w _ I1 r r1 q1) fun z s2 ⟨zv,H2,I2,r2,q2⟩=>?_
  exact z9i I2 hN hi hx r2 (fun s3 I3=>⟨_,H2,I3,q2⟩) hf
 rcases l with ⟨hk,hm⟩ | ⟨hk,c,hc,hcell⟩
 ·exact wpAny_loadName_local I.ok.kind hk hn hm go
 ·rcases hk with hk | hk
  ·exact wpAny_loadName_cell I.ok.kind hk hc hcell go
  ·rcases hx with k | k
   ·have:X.env.scope.names.lookup x = some .free:=hk
    rw [k] at this; cases this
   ·have:X.env.scope.names.lookup x = some .free:=hk
    rw [k] at this; cases this
def k0g (to ti te:TE) (tget:V -> V -> Hp -> VK -> Prop) (tip:TIp) (tset:TSet):TS:=fun D σ H=>to σ H fun o H1=>ti σ H1 fun i H2=>tget o i H2 fun x H3=>te σ H3 fun y H4=>tip x y H4 fun z H5=>tset o i z H5 fun H6=>D.nx σ H6
def PGet (X:Cx) (t:V -> V -> Hp -> VK -> Prop):Prop :=
 ∀ (pins:List (Addr × Obj)) (s:Shared) (σ:St) (H:Hp) (o i:V) (ov iv:Value) (Q:VK),Inv X pins σ H s -> RelV o ov -> RelV i iv -> t o i H Q ->
  wpAny (model X.prog X.w) X.A (getItem ov iv) (EP X pins σ Q) X.xe s
theorem yFq {o i e:Expr} {to ti te:TE} {tget:V -> V -> Hp -> VK -> Prop} {tip:TIp} {tset:TSet} {op:Operator} {tpos:Pos} (ho:PE X o to) (hi:PE X i ti) (hg:PGet X tget) (he:PE X e te) (hp:PIp X op tip) (hs:PSet X tset)
  (ha:∀ ov iv new,augStore i ov iv new = (do holding [new,ov,iv] (setItem ov iv new); release [new,ov,iv] []; pure .next):=by intros; rfl):PS X (.AugAssign (.Subscript o i tpos) op e pos) (k0g to ti te tget tip tset):=by
 intro pins s σ H D I h
 refine wpAny_AugAssign_SubscriptAny (thn (ho pins s σ H _ I h) fun ov s1 ⟨x1,H1,I1,r1,q1⟩=>?_) ha
 refine thn (hi pins s1 σ H1 _ I1 q1) fun iv s2 ⟨x2,H2,I2,r2,q2⟩=>?_
 refine thn (hg pins s2 σ H2 x1 x2 ov iv _ I2 r1 r2 q2) fun old s3 ⟨x3,H3,I3,r3,q3⟩=>?_
 refine thn (he pins s3 σ H3 _ I3 q3) fun v s4 ⟨x4,H4,I4,r4,q4⟩=>?_
 refine thn (hp pins s4 σ H4 x3 x4 old v _ I4 r3 r4 q4) fun new s5 ⟨x5,H5,I5,r5,q5⟩=>?_
 exact thn (hs pins s5 σ H5 x1 x2 x5 ov iv new _ I5 r1 r2 r5 q5) fun _ s6 ⟨H6,I6,q6⟩=>⟨σ,H6,I6,q6⟩
def ipI (f:Int -> Int -> Int):TIp:=fun x y H Q=>∃ i j,x = .int i /\ y = .int j /\ Q (.int (f i j)) H
theorem zId:PIp X .Add (ipI fun i j=>i + j):=by
 intro pins s σ H x y v u Q I r1 r2 h
 obtain ⟨i,j,e1,e2,q⟩:=h
 subst e1; subst e2
 obtain ⟨t,rfl⟩:=r1
 obtain ⟨t',rfl⟩:=r2
 exact iadd_int ⟨.int _,H,I.tok _,⟨_,rfl⟩,q⟩
end
section
variable {X:Cx} {pos:Pos}
def yIv (c:TT) (tb:TS):TS:=fun D σ H=>∃ W:Nat -> St -> Hp -> Prop,(∃ m,W m σ H) /\ ∀ m σ H,W m σ H ->
 c σ H fun b H1=>if b = true then ∃ N:St -> Hp -> Prop,(∀ σ' H',N σ' H' -> ∃ m',m' < m /\ W m' σ' H') /\ tb { D with nx:=N,ct:=N,bk:=D.nx } σ H1 else D.nx σ H1
theorem z9f {c:Expr} {body:List Stmt} {tc:TT} {tb:TS} (hp:PassesOwn (model X.prog X.w) X.A X.env X.xe) (hc:PT X c tc) (hb:PSs X body tb):PS X (.While c body [] pos) (yIv tc tb):=by
 intro pins s σ H D I h
 obtain ⟨W,⟨m0,w0⟩,turn⟩:=h
 refine wpAny_While (codeAny_whileLoop (fun n s'=>∃ σ' H',Inv X pins σ' H' s' /\ W n σ' H') ?_ m0 ⟨σ,H,I,w0⟩)
 rintro n s1 ⟨σ1,H1,I1,w1⟩
 refine wpAny_passesOwn hp (thn (hc pins s1 σ1 H1 _ I1 (turn n σ1 H1 w1)) fun b s2 ⟨H2,I2,q2⟩=>?_)
 cases b with
 | true =>
  obtain ⟨N,hN,q2⟩:=q2
  rw [if_pos rfl]
  refine wpAny_passesOwn hp (thn (hb pins s2 σ1 H2 _ I2 q2) fun f s3 q3=>?_)
  cases f with
  | next =>
   obtain ⟨σ3,H3,I3,n3⟩:=q3
   obtain ⟨m',hm,w3⟩:=hN σ3 H3 n3
   exact ⟨m',hm,σ3,H3,I3,w3⟩
  | cont =>
   obtain ⟨σ3,H3,I3,n3⟩:=q3
   obtain ⟨m',hm,w3⟩:=hN σ3 H3 n3
   exact ⟨m',hm,σ3,H3,I3,w3⟩
  | brk=>exact q3
  | ret v=>exact q3
 | false =>
  rw [if_neg Bool.false_ne_true]
  exact wpAny_execs_nil ⟨σ1,H2,I2,q2⟩
end
structure It where
 go:Nat -> Hp -> Prop
 yld:Nat -> Hp -> V -> Hp -> Prop
 stop:Nat -> Hp -> Prop
def FpOk (X:Cx) (pins:List (Addr × Obj)) (H:Hp) (b:Addr):Prop :=
 H b = none /\ b ≠ X.env.locals /\ b ∉ X.fs /\ (b ∈ X.ex \/ X.s₀.heap.objs.size <= b) /\ (∀ x c,X.env.cells.lookup x = some c -> c ≠ b) /\ ∀ p ∈ X.pn ++ pins,p.1 ≠ b
theorem Inv.fpOk {X:Cx} {pins:List (Addr × Obj)} {σ:St} {H H':Hp} {s:Shared} {b:Addr} (I:Inv X pins σ H s) (hb:s.heap.objs.size <= b) (hn:H' b = none):FpOk X pins H' b:=by
 refine ⟨hn,Nat.ne_of_gt (Nat.lt_of_lt_of_le I.lt hb),I.nofs hb,.inr (Nat.le_trans I.sz hb),fun x c e z=>?_,fun p hp z=>?_⟩
 ·obtain ⟨v,q⟩:=I.cell x c e
  exact absurd (Nat.lt_of_lt_of_le q.lt (by rw [z]; exact hb)) (Nat.lt_irrefl _)
 ·exact absurd (Nat.lt_of_lt_of_le (Heap.lt_size (I.pin p hp).1) (by rw [z]; exact hb)) (Nat.lt_irrefl _)
structure Turn (P:Program) (w:World) (K:PySem.W.Frag) (tg:Expr) (J:It) (fp:List Addr) (it:Addr) (tn:Nat -> Heap -> Prop):Prop where
 mem:it ∈ fp
 obj:∀ i h,tn i h -> ∀ b ∈ fp,∃ o,h.get? b = some o /\ ∀ v,o.data ≠ .cell v
 keep:∀ i h h',tn i h -> (∀ b ∈ fp,∀ o,h.get? b = some o -> h'.get? b = some o) -> tn i h'
 item:∀ (X:Cx),X.prog = P -> X.w = w -> X.K = K -> X.calm = true -> ∀ (i:Nat) (pins:List (Addr × Obj)) (s:Shared) (σ:St) (H:Hp) (E:Value -> Shared -> Prop),Inv X pins σ H s -> (∀ b ∈ fp,FpOk X pins H b) -> tn i s.heap -> J.go i H ->
  wpAny (model P w) X.A (pyNext (.ref it)) (fun r s1=>∃ u,r = some u /\
   wpAny (model P w) X.A (letOwnedTupleGo tg (.ref it) u) (fun _ s2=>∃ x H',Inv X pins σ H' s2 /\ RelV x u /\ J.yld i H x H' /\ tn (i + 1) s2.heap /\ ∀ b ∈ fp,H' b = none) E s1) E s
 done:∀ (X:Cx),X.prog = P -> X.w = w -> X.K = K -> X.calm = true -> ∀ (i:Nat) (pins:List (Addr × Obj)) (s:Shared) (σ:St) (H:Hp) (E:Value -> Shared -> Prop),Inv X pins σ H s -> (∀ b ∈ fp,FpOk X pins H b) -> tn i s.heap -> J.stop i H ->
  wpAny (model P w) X.A (pyNext (.ref it)) (fun r s1=>r = none /\ Inv X pins σ H s1) E s
 self:∀ (A:Around) (i:Nat) (s:Shared) (Q:Value -> Shared -> Prop) (E:Value -> Shared -> Prop),tn i s.heap -> Q (.ref it) s -> wpAny (model P w) A (pyIter (.ref it)) Q E s
abbrev TI:=St -> Hp -> (It -> Hp -> Prop) -> Prop
def PIE (X:Cx) (pins:List (Addr × Obj)) (σ:St) (tg:Expr) (R:It -> Hp -> Prop) (itv:Value) (s2:Shared):Prop :=
 ∃ (it:Addr) (fp:List Addr) (tn:Nat -> Heap -> Prop) (J:It) (H':Hp),itv = .ref it /\ Inv X pins σ H' s2 /\ Turn X.prog X.w X.K tg J fp it tn /\ tn 0 s2.heap /\ (∀ b ∈ fp,FpOk X pins H' b) /\ R J H'
def PI (X:Cx) (tg iter:Expr) (wi:TI):Prop :=
 ∀ (pins:List (Addr × Obj)) (s:Shared) (σ:St) (H:Hp) (R:It -> Hp -> Prop),Inv X pins σ H s -> wi σ H R ->
  wpAny (model X.prog X.w) X.A (eval iter X.env) (fun v s1=>wpAny (model X.prog X.w) X.A (pyIter v) (PIE X pins σ tg R) X.xe s1) X.xe s
theorem yBn {M:Model} {A:Around} {E:Value -> Shared -> Prop} {s:Shared} {tg:Expr} {it:Addr} {u:Value} {o:Obj} {n:String} {vs:Array Value} {Q:Unit -> Shared -> Prop} (ho:s.heap.get? it = some o) (hc:o.cls = .type n) (hd:o.data = .fields vs)
  (hn:["enumerate", "zip", "dict_itemiterator", "dict_reverseitemiterator", "odict_iterator", "itertools.zip_longest", "itertools.pairwise"].contains n = false) (hQ:Q () s):wpAny M A (letOwnedTupleGo tg (.ref it) u) Q E s:=by
 unfold letOwnedTupleGo
 cases tg <;> first
  | exact wpAny_pure hQ
  | (cases u <;> first
    | exact wpAny_pure hQ
    | (refine wpAny_bind (wpAny_load ho ?_); rw [hc,hd]; show wpAny M A (if (["enumerate", "zip", "dict_itemiterator", "dict_reverseitemiterator", "odict_iterator", "itertools.zip_longest", "itertools.pairwise"].contains n && vs[0]? == some (rawInt _)) = true then _ else _) Q E s; rw [if_neg (by intro h; rw [hn,Bool.false_and] at h; cases h)]; exact wpAny_pure hQ))
def Itl (K:PySem.W.Frag) (a:Addr):It :=
 ⟨fun i H=>∃ xs x,SqL K H a xs /\ xs[i]? = some x,fun i H x H'=>H' = H /\ ∀ xs,SqL K H a xs -> xs[i]? = some x,fun i H=>∃ xs,SqL K H a xs /\ xs.length <= i⟩
def Itt (K:PySem.W.Frag) (a:Addr):It :=
 ⟨fun i H=>∃ xs x,SqT K H a xs /\ xs[i]? = some x,fun i H x H'=>H' = H /\ ∀ xs,SqT K H a xs -> xs[i]? = some x,fun i H=>∃ xs,SqT K H a xs /\ xs.length <= i⟩
def Itr (lo:Int) (n:Nat):It:=⟨fun i _=>i < n,fun i H x H'=>H' = H /\ x = .int (lo + i),fun i _=>n <= i⟩
theorem yAc {P:Program} {w:World} {K:PySem.W.Frag} {tg:Expr} (a it:Addr):Turn P w K tg (Itl K a) [it] it (fun i h=>h.IsListIter it a i) where
 mem:=by simp
 obj:=fun i h st b hb=>by
  have e:b = it:=by simpa using hb
  subst e
  obtain ⟨o,e,c,d⟩:=st
  exact ⟨o,e,fun v z=>by rw [d] at z; cases z⟩
 keep:=fun i h h' st k=>st.at fun o e=>k it (by simp) o e
 item:=by
  intro X hP hw hK hc i pins s σ H E I hf st hg
  subst hP hw hK
  obtain ⟨xs,x,hq,hx⟩:=hg
  obtain ⟨its,rv,p,hz⟩:=I.list hq
  obtain ⟨u,hu,ru⟩:=rv.get hx
  obtain ⟨f0,f1,f2,f3,f4,f5⟩:=hf it (by simp)
  refine wpAny_pyNext_list_item st p.isList (x:=u) (by simpa using hu) fun h' st' sb=>?_
  have I1:Inv X pins σ H { s with heap:=h' }:=I.turned (t':=s.toks) (fun b o hb e=>(sb.2 b hb).trans e) f0 f1 f3 f4 f5
  obtain ⟨o,e,c,d⟩:=id st'
  exact ⟨u,rfl,yBn (s:={ s with heap:=h' }) e c d (by decide) ⟨x,H,I1,ru,⟨rfl,fun ys hy=>by rw [I.list_inj hy hq]; exact hx⟩,st',fun b hb=>(hf b hb).1⟩⟩
 done:=by
  intro X hP hw hK hc i pins s σ H E I hf st hg
  subst hP hw hK
  obtain ⟨xs,hq,hx⟩:=hg
  obtain ⟨its,rv,p,hz⟩:=I.list hq
  obtain ⟨f0,f1,f2,f3,f4,f5⟩:=hf it (by simp)
  have hl:=rv.length
  exact wpAny_pyNext_list_end (I.ok.hd hc) st p.isList (by simp; omega) fun h' eb=>⟨rfl,I.turned (t':=s.toks) (fun b o hb e=>eb b o hb e) f0 f1 f3 f4 f5⟩
 self:=fun _ _ _ _ _ st h=>wpAny_pyIter_listiter st h
theorem y6a {P:Program} {w:World} {K:PySem.W.Frag} {tg:Expr} (a it:Addr):Turn P w K tg (Itt K a) [it] it (fun i h=>h.IsTupleIter it a i) where
 mem:=by simp
 obj:=fun i h st b hb=>by
  have e:b = it:=by simpa using hb
  subst e
  obtain ⟨o,e,c,d⟩:=st
  exact ⟨o,e,fun v z=>by rw [d] at z; cases z⟩
 keep:=fun i h h' st k=>st.at fun o e=>k it (by simp) o e
 item:=by
  intro X hP hw hK hc i pins s σ H E I hf st hg
  subst hP hw hK
  obtain ⟨xs,x,hq,hx⟩:=hg
  obtain ⟨its,rv,p,hz⟩:=I.tuple hq
  obtain ⟨u,hu,ru⟩:=rv.get hx
  obtain ⟨f0,f1,f2,f3,f4,f5⟩:=hf it (by simp)
  refine wpAny_pyNext_tuple_item st (show s.heap.IsTuple a its.toArray from p) (x:=u) (by simpa using hu) fun h' st' sb=>?_
  have I1:Inv X pins σ H { s with heap:=h' }:=I.turned (t':=s.toks) (fun b o hb e=>(sb.2 b hb).trans e) f0 f1 f3 f4 f5
  obtain ⟨o,e,c,d⟩:=id st'
  exact ⟨u,rfl,yBn (s:={ s with heap:=h' }) e c d (by decide) ⟨x,H,I1,ru,⟨rfl,fun ys hy=>by rw [I.tuple_inj hy hq]; exact hx⟩,st',fun b hb=>(hf b hb).1⟩⟩
 done:=by
  intro X hP hw hK hc i pins s σ H E I hf st hg
  subst hP hw hK
  obtain ⟨xs,hq,hx⟩:=hg
  obtain ⟨its,rv,p,hz⟩:=I.tuple hq
  obtain ⟨f0,f1,f2,f3,f4,f5⟩:=hf it (by simp)
  have hl:=rv.length
  exact wpAny_pyNext_tuple_end (I.ok.hd hc) st (show s.heap.IsTuple a its.toArray from p) (by simp; omega) fun h' eb=>⟨rfl,I.turned (t':=s.toks) (fun b o hb e=>eb b o hb e) f0 f1 f3 f4 f5⟩
 self:=fun _ _ _ _ _ st h=>wpAny_pyIter_tupleiter st h
theorem y5z {P:Program} {w:World} {K:PySem.W.Frag} {tg:Expr} (it:Addr) (lo:Int) (n:Nat):Turn P w K tg (Itr lo n) [it] it (fun i h=>IsRangeIter h it (lo + (i:Nat) * 1) ((n:Int) - (i:Nat)) 1) where
 mem:=by simp
 obj:=fun i h st b hb=>by
  have e:b = it:=by simpa using hb
  subst e
  exact ⟨_,st,fun v z=>by
   have z':Data.fields _ = Data.cell v:=z
   cases z'⟩
 keep:=fun i h h' st k=>k it (by simp) _ st
 item:=by
  intro X hP hw hK hc i pins s σ H E I hf st hg
  subst hP hw hK
  obtain ⟨f0,f1,f2,f3,f4,f5⟩:=hf it (by simp)
  have W:=Walks.range (prog:=X.prog) (w:=X.w) (I.ok.hd hc) it lo 1 n
  refine W.item i s _ _ hg st fun v h' tk hv st' kk=>?_
  obtain ⟨t,rfl⟩:=hv
  have I1:Inv X pins σ H { s with heap:=h',toks:=tk }:=I.turned (fun b o hb e=>kk b o (by simpa using hb) e) f0 f1 f3 f4 f5
  refine ⟨_,rfl,yBn (s:={ s with heap:=h',toks:=tk }) (n := "range_iterator") st' rfl rfl (by decide) ⟨.int (lo + i),H,I1,⟨t,?_⟩,⟨rfl,rfl⟩,st',fun b hb=>(hf b hb).1⟩⟩
  rw [Int.mul_one]
 done:=by
  intro X hP hw hK hc i pins s σ H E I hf st hg
  subst hP hw hK
  obtain ⟨f0,f1,f2,f3,f4,f5⟩:=hf it (by simp)
  exact wpAny_pyNext_range_end (I.ok.hd hc) st (by have:n <= i:=hg; omega) fun h' eb=>⟨rfl,I.turned (t':=s.toks) (fun b o hb e=>eb b o hb e) f0 f1 f3 f4 f5⟩
 self:=fun _ _ _ _ _ st h=>wpAny_pyIter_rangeiter st h
end L2
namespace L2
open PySem PySem.Spec PyProof.Rows
section
variable {X:Cx} {tg:Expr}
def yGx (K:PySem.W.Frag) (tl:TE):TI:=fun σ H R=>tl σ H fun x H1=>∃ a,x = .ref a /\ (∃ xs,SqL K H1 a xs) /\ R (Itl K a) H1
def iTup (K:PySem.W.Frag) (tl:TE):TI:=fun σ H R=>tl σ H fun x H1=>∃ a,x = .ref a /\ (∃ xs,SqT K H1 a xs) /\ R (Itt K a) H1
theorem z2q {l:Expr} {tl:TE} (hl:PE X l tl):PI X tg l (yGx X.K tl):=by
 intro pins s σ H R I h
 refine thn (hl pins s σ H _ I h) fun v s1 ⟨x,H1,I1,r1,q1⟩=>?_
 obtain ⟨a,e,⟨xs,hq⟩,q⟩:=q1
 subst e
 cases r1
 obtain ⟨its,rv,p,hz⟩:=I1.list hq
 refine wpAny_pyIter_list p.isList ?_
 refine ⟨s1.heap.objs.size,[s1.heap.objs.size],_,_,H1,rfl,I1.kept (t':=s1.toks) fun b o e=>Heap.get?_push_of_some _ e,yAc a _,⟨_,Heap.get?_push_size _ rfl,rfl,rfl⟩,fun b hb=>?_,q⟩
 have e:b = s1.heap.objs.size:=by simpa using hb
 subst e
 exact I1.fpOk (Nat.le_refl _) (I1.hok.fresh (Nat.le_refl _))
theorem z9e {l:Expr} {tl:TE} (hl:PE X l tl):PI X tg l (iTup X.K tl):=by
 intro pins s σ H R I h
 refine thn (hl pins s σ H _ I h) fun v s1 ⟨x,H1,I1,r1,q1⟩=>?_
 obtain ⟨a,e,⟨xs,hq⟩,q⟩:=q1
 subst e
 cases r1
 obtain ⟨its,rv,p,hz⟩:=I1.tuple hq
 refine wpAny_pyIter_tuple (show s1.heap.IsTuple a its.toArray from p) ?_
 refine ⟨s1.heap.objs.size,[s1.heap.objs.size],_,_,H1,rfl,I1.kept (t':=s1.toks) fun b o e=>Heap.get?_push_of_some _ e,y6a a _,⟨_,Heap.get?_push_size _ rfl,rfl,rfl⟩,fun b hb=>?_,q⟩
 have e:b = s1.heap.objs.size:=by simpa using hb
 subst e
 exact I1.fpOk (Nat.le_refl _) (I1.hok.fresh (Nat.le_refl _))
theorem y3j {pins:List (Addr × Obj)} {σ:St} {H:Hp} {s:Shared} {R:It -> Hp -> Prop} {E:Value -> Shared -> Prop} {lo hi:Int} {t u v:Tok} {tk:Nat} (I:Inv X pins σ H s) (h1:-(2 ^ 62) <= lo) (h2:lo < 2 ^ 62) (h3:-(2 ^ 62) <= hi) (h4:hi < 2 ^ 62)
  (q:R (Itr lo (hi - lo).toNat) H):wpAny (model X.prog X.w) X.A (pyIter (.ref s.heap.objs.size)) (PIE X pins σ tg R) E { s with heap:=s.heap.push { cls:=.type "range",data:=.fields #[.int lo t,.int hi u,.int 1 v] },toks:=tk }:=by
 refine wpAny_pyIter_range (IsRange.new ..) (small_one h1 h2 h3 h4) ?_
 have I1:Inv X pins σ H { s with heap:=s.heap.push { cls:=.type "range",data:=.fields #[.int lo t,.int hi u,.int 1 v] },toks:=tk }:=I.kept fun b o e=>Heap.get?_push_of_some _ e
 refine ⟨(s.heap.push { cls:=.type "range",data:=.fields #[.int lo t,.int hi u,.int 1 v] }).objs.size,[(s.heap.push { cls:=.type "range",data:=.fields #[.int lo t,.int hi u,.int 1 v] }).objs.size],_,_,H,rfl,
  I1.kept (t':=tk) fun b o e=>Heap.get?_push_of_some _ e,y5z _ lo (hi - lo).toNat,?_,fun b hb=>?_,q⟩
 ·have e1:lo + ((0:Nat):Int) * 1 = lo:=by simp
  have e2:(((hi - lo).toNat:Nat):Int) - ((0:Nat):Int) = Builtin.Range.rangeSize lo hi 1:=by rw [rangeSize_one]; split <;> omega
  show IsRangeIter _ _ (lo + ((0:Nat):Int) * 1) ((((hi - lo).toNat:Nat):Int) - ((0:Nat):Int)) 1
  rw [e1,e2]
  exact Heap.get?_push_size _ rfl
 ·have e:b = (s.heap.push { cls:=.type "range",data:=.fields #[.int lo t,.int hi u,.int 1 v] }).objs.size:=by simpa using hb
  subst e
  exact I1.fpOk (Nat.le_refl _) (I1.hok.fresh (Nat.le_refl _))
def yJk (ta:TA):TI:=fun σ H R=>ta σ H fun vs H1=>∃ j:Int,vs = [.int j] /\ -(2 ^ 62) <= j /\ j < 2 ^ 62 /\ R (Itr 0 j.toNat) H1
def yJl (ta:TA):TI:=fun σ H R=>ta σ H fun vs H1=>∃ i j:Int,vs = [.int i,.int j] /\ (-(2 ^ 62) <= i /\ i < 2 ^ 62 /\ -(2 ^ 62) <= j /\ j < 2 ^ 62) /\ R (Itr i (j - i).toNat) H1
theorem z7l {a:Expr} {ta:TA} {p pos:Pos} (hg:Gl X "range") (hm:X.mg "range" = none) (ha:PA X [a] ta) (hs:starEach [a] X.env = [(false,eval a X.env)]:=by rfl):PI X tg (.Call (.Name "range" p) [a] [] pos) (yJk ta):=by
 intro pins s σ H R I h
 refine Call_ (z6n I hg hm boot_range (PyProof.Rows.callWith_type1 (thn (ha pos pins s σ H _ I h) fun us s1 ⟨vs,H1,I1,r1,q1⟩=>?_) hs rfl))
 obtain ⟨j,e,q1,q2,q⟩:=q1
 subst e
 cases r1 with
 | cons r rr =>
  cases rr
  obtain ⟨t,rfl⟩:=r
  exact call_range_1 (y3j I1 (by omega) (by omega) q1 q2 (by simpa using q))
theorem y8r {a b:Expr} {ta:TA} {p pos:Pos} (hg:Gl X "range") (hm:X.mg "range" = none) (ha:PA X [a,b] ta) (hs:starEach [a,b] X.env = [(false,eval a X.env),(false,eval b X.env)]:=by rfl) (hs2:starEach [b] X.env = [(false,eval b X.env)]:=by rfl) :
  PI X tg (.Call (.Name "range" p) [a,b] [] pos) (yJl ta):=by
 intro pins s σ H R I h
 refine Call_ (z6n I hg hm boot_range (PyProof.Rows.callWith_type1 (thn (ha pos pins s σ H _ I h) fun us s1 ⟨vs,H1,I1,r1,q1⟩=>?_) (by rw [hs,hs2]) (by rw [hs2]; rfl)))
 obtain ⟨i,j,e,⟨q1,q2,q3,q4⟩,q⟩:=q1
 subst e
 cases r1 with
 | cons r rr =>
  cases rr with
  | cons r' rr =>
   cases rr
   obtain ⟨t,rfl⟩:=r
   obtain ⟨t',rfl⟩:=r'
   exact call_range_2 (y3j I1 q1 q2 q3 q4 q)
def tFor (wi:TI) (g:TG) (tb:TS):TS:=fun D σ H=>wi σ H fun J H1=>∃ W:Nat -> Nat -> St -> Hp -> Prop,(∃ m,W 0 m σ H1) /\ ∀ i m σ H,W i m σ H ->
 (J.stop i H /\ D.nx σ H) \/ (J.go i H /\ ∃ N:St -> Hp -> Prop,(∀ σ' H',N σ' H' -> ∃ m',m' < m /\ W (i + 1) m' σ' H') /\ ∀ x H',J.yld i H x H' -> g x σ H' fun σ2 H2=>tb { D with nx:=N,ct:=N,bk:=D.nx } σ2 H2)
def zJl (fp:List Addr) (h:Heap):List (Addr × Obj):=fp.filterMap fun b=>(h.get? b).map fun o=>(b,o)
theorem z7r {fp:List Addr} {h:Heap} {b:Addr} {o:Obj} (hb:b ∈ fp) (e:h.get? b = some o):(b,o) ∈ zJl fp h:=List.mem_filterMap.mpr ⟨b,hb,by rw [e]; rfl⟩
theorem y8f {fp:List Addr} {h:Heap} {p:Addr × Obj} (hp:p ∈ zJl fp h):p.1 ∈ fp /\ h.get? p.1 = some p.2:=by
 obtain ⟨b,hb,e⟩:=List.mem_filterMap.mp hp
 cases q:h.get? b with
 | none=>rw [q] at e; cases e
 | some o =>
  rw [q] at e
  have e':(b,o) = p:=Option.some.inj e
  subst e'
  exact ⟨hb,q⟩
theorem Inv.pinned {pins:List (Addr × Obj)} {σ:St} {H:Hp} {s:Shared} {fp:List Addr} (I:Inv X pins σ H s) (hf:∀ b ∈ fp,FpOk X pins H b) (ho:∀ b ∈ fp,∃ o,s.heap.get? b = some o /\ ∀ v,o.data ≠ .cell v):Inv X (pins ++ zJl fp s.heap) σ H s :=
 I.pins_of fun p hp=>(List.mem_append.mp hp).elim (fun z=>I.pin p (List.mem_append_right _ z)) fun z=>by
  obtain ⟨hb,e⟩:=y8f z
  obtain ⟨f0,f1,f2,_⟩:=hf p.1 hb
  obtain ⟨o,e',d⟩:=ho p.1 hb
  rw [e] at e'; cases e'
  exact ⟨e,f0,f1,f2,d⟩
theorem Inv.unpinned {pins pl:List (Addr × Obj)} {σ:St} {H:Hp} {s:Shared} (I:Inv X (pins ++ pl) σ H s):Inv X pins σ H s:=I.pins_of fun p hp=>I.pin p (List.mem_append_right _ (List.mem_append_left _ hp))
theorem z5i {iter:Expr} {body:List Stmt} {wi:TI} {g:TG} {tb:TS} {pos:Pos} (hp:PassesOwn (model X.prog X.w) X.A X.env X.xe) (hc:X.calm = true) (hi:PI X tg iter wi) (hg:PG X tg g) (hb:PSs X body tb)
  (hs:∀ x,foldedSetIterable iter X.env x = pure x:=by intro _; rfl):PS X (.For tg iter body [] pos) (tFor wi g tb):=by
 intro pins s σ H D I h
 refine wpAny_For (thn (hi pins s σ H _ I h) fun v s1 h1=>thn h1 fun itv s2 h2=>?_) hs
 obtain ⟨it,fp,tn,J,H2,e,I2,T,st2,f2,W,⟨m0,w0⟩,turn⟩:=h2
 subst e
 -- what stays true of the iterator's objects through the loop
 have stat:∀ {H':Hp},(∀ b ∈ fp,H' b = none) -> ∀ b ∈ fp,FpOk X pins H' b:=fun hn b hb=>⟨hn b hb,(f2 b hb).2⟩
 refine codeAny_forLoop_any (fun n s'=>∃ i σ' H',Inv X pins σ' H' s' /\ tn i s'.heap /\ (∀ b ∈ fp,H' b = none) /\ W i n σ' H') ?_ m0 ⟨0,σ,H2,I2,st2,fun b hb=>(f2 b hb).1,w0⟩
 rintro n s3 ⟨i,σ3,H3,I3,st3,fr3,w3⟩
 rcases turn i n σ3 H3 w3 with ⟨stop,qn⟩ | ⟨go,N,hN,step⟩
 ·refine wpAny_passesOwn hp (thn (T.done X rfl rfl rfl hc i pins s3 σ3 H3 X.xe I3 (stat fr3) st3 stop) fun r s4 ⟨hr,I4⟩=>?_)
  subst hr
  exact wpAny_execs_nil ⟨σ3,H3,I4,qn⟩
 ·refine wpAny_passesOwn hp (thn (T.item X rfl rfl rfl hc i pins s3 σ3 H3 X.xe I3 (stat fr3) st3 go) fun r s4 ⟨u,hr,h4⟩=>?_)
  subst hr
  refine wpAny_passesOwn hp (thn h4 fun _ s5 ⟨x,H5,I5,r5,y5,st5,fr5⟩=>?_)
  have I5':=I5.pinned (stat fr5) (T.obj _ _ st5)
  refine wpAny_passesOwn hp (thn (hg _ s5 σ3 H5 x u _ I5' r5 (step x H5 y5)) fun _ s6 ⟨σ6,H6,I6,q6⟩=>?_)
  refine wpAny_passesOwn hp (thn (hb _ s6 σ6 H6 _ I6 q6) fun f s7 q7=>?_)
  have again:∀ {σ7:St} {H7:Hp},Inv X (pins ++ zJl fp s5.heap) σ7 H7 s7 -> N σ7 H7 -> ∃ m,m < n /\ ∃ i σ' H',Inv X pins σ' H' s7 /\ tn i s7.heap /\ (∀ b ∈ fp,H' b = none) /\ W i m σ' H':=fun {σ7 H7} I7 n7=>by
   obtain ⟨m',hm,w7⟩:=hN σ7 H7 n7
   refine ⟨m',hm,i + 1,σ7,H7,I7.unpinned,T.keep _ _ _ st5 fun b hb o e=>(I7.pin (b,o) (List.mem_append_right _ (List.mem_append_right _ (z7r hb e)))).1,fun b hb=>?_,w7⟩
   obtain ⟨o,e,d⟩:=T.obj _ _ st5 b hb
   exact (I7.pin (b,o) (List.mem_append_right _ (List.mem_append_right _ (z7r hb e)))).2.1
  cases f with
  | next=>obtain ⟨σ7,H7,I7,n7⟩:=q7; exact again I7 n7
  | cont=>obtain ⟨σ7,H7,I7,n7⟩:=q7; exact again I7 n7
  | brk=>obtain ⟨σ7,H7,I7,q7⟩:=q7; exact ⟨σ7,H7,I7.unpinned,q7⟩
  | ret v=>obtain ⟨x7,σ7,H7,I7,r7,q7⟩:=q7; exact ⟨x7,σ7,H7,I7.unpinned,r7,q7⟩
end
theorem z8t {K:PySem.W.Frag} {a:Addr} {xs:List V} {g:TG} {tb:TS} {D:Ends} {σ:St} {H:Hp} (Pv:Nat -> St -> Hp -> Prop) (h0:Pv 0 σ H) (hl:∀ i σ H,i <= xs.length -> Pv i σ H -> SqL K H a xs)
  (hs:∀ i x σ H,xs[i]? = some x -> Pv i σ H -> g x σ H fun σ2 H2=>tb { D with nx:=Pv (i + 1),ct:=Pv (i + 1),bk:=D.nx } σ2 H2) (hd:∀ σ H,Pv xs.length σ H -> D.nx σ H) :
  ∃ W:Nat -> Nat -> St -> Hp -> Prop,(∃ m,W 0 m σ H) /\ ∀ i m σ H,W i m σ H ->
   ((Itl K a).stop i H /\ D.nx σ H) \/ ((Itl K a).go i H /\ ∃ N:St -> Hp -> Prop,(∀ σ' H',N σ' H' -> ∃ m',m' < m /\ W (i + 1) m' σ' H') /\ ∀ x H',(Itl K a).yld i H x H' -> g x σ H' fun σ2 H2=>tb { D with nx:=N,ct:=N,bk:=D.nx } σ2 H2):=by
 refine ⟨fun i m σ H=>m = xs.length - i /\ i <= xs.length /\ Pv i σ H,⟨xs.length,by simp,Nat.zero_le _,h0⟩,?_⟩
 rintro i m σ H ⟨rfl,hi,p⟩
 have q:=hl i σ H hi p
 by_cases hlt:i < xs.length
 ·refine .inr ⟨⟨xs,xs[i],q,by simp [hlt]⟩,Pv (i + 1),fun σ' H' p'=>⟨xs.length - (i + 1),by omega,rfl,hlt,p'⟩,fun x H' y=>?_⟩
  obtain ⟨e,y⟩:=y
  subst e
  exact hs i x σ _ (y xs q) p
 ·have e:i = xs.length:=by omega
  subst e
  exact .inl ⟨⟨xs,q,Nat.le_refl _⟩,hd σ H p⟩
theorem zBw {K:PySem.W.Frag} {a:Addr} {xs:List V} {g:TG} {tb:TS} {D:Ends} {σ:St} {H:Hp} (Pv:Nat -> St -> Hp -> Prop) (h0:Pv 0 σ H) (hl:∀ i σ H,i <= xs.length -> Pv i σ H -> SqT K H a xs)
  (hs:∀ i x σ H,xs[i]? = some x -> Pv i σ H -> g x σ H fun σ2 H2=>tb { D with nx:=Pv (i + 1),ct:=Pv (i + 1),bk:=D.nx } σ2 H2) (hd:∀ σ H,Pv xs.length σ H -> D.nx σ H) :
  ∃ W:Nat -> Nat -> St -> Hp -> Prop,(∃ m,W 0 m σ H) /\ ∀ i m σ H,W i m σ H ->
   ((Itt K a).stop i H /\ D.nx σ H) \/ ((Itt K a).go i H /\ ∃ N:St -> Hp -> Prop,(∀ σ' H',N σ' H' -> ∃ m',m' < m /\ W (i + 1) m' σ' H') /\ ∀ x H',(Itt K a).yld i H x H' -> g x σ H' fun σ2 H2=>tb { D with nx:=N,ct:=N,bk:=D.nx } σ2 H2):=by
 refine ⟨fun i m σ H=>m = xs.length - i /\ i <= xs.length /\ Pv i σ H,⟨xs.length,by simp,Nat.zero_le _,h0⟩,?_⟩
 rintro i m σ H ⟨rfl,hi,p⟩
 have q:=hl i σ H hi p
 by_cases hlt:i < xs.length
 ·refine .inr ⟨⟨xs,xs[i],q,by simp [hlt]⟩,Pv (i + 1),fun σ' H' p'=>⟨xs.length - (i + 1),by omega,rfl,hlt,p'⟩,fun x H' y=>?_⟩
  obtain ⟨e,y⟩:=y
  subst e
  exact hs i x σ _ (y xs q) p
 ·have e:i = xs.length:=by omega
  subst e
  exact .inl ⟨⟨xs,q,Nat.le_refl _⟩,hd σ H p⟩
theorem zBv {lo:Int} {n:Nat} {g:TG} {tb:TS} {D:Ends} {σ:St} {H:Hp} (Pv:Nat -> St -> Hp -> Prop) (h0:Pv 0 σ H)
  (hs:∀ i σ H,i < n -> Pv i σ H -> g (.int (lo + i)) σ H fun σ2 H2=>tb { D with nx:=Pv (i + 1),ct:=Pv (i + 1),bk:=D.nx } σ2 H2) (hd:∀ σ H,Pv n σ H -> D.nx σ H) :
  ∃ W:Nat -> Nat -> St -> Hp -> Prop,(∃ m,W 0 m σ H) /\ ∀ i m σ H,W i m σ H ->
   ((Itr lo n).stop i H /\ D.nx σ H) \/ ((Itr lo n).go i H /\ ∃ N:St -> Hp -> Prop,(∀ σ' H',N σ' H' -> ∃ m',m' < m /\ W (i + 1) m' σ' H') /\ ∀ x H',(Itr lo n).yld i H x H' -> g x σ H' fun σ2 H2=>tb { D with nx:=N,ct:=N,bk:=D.nx } σ2 H2):=by
 refine ⟨fun i m σ H=>m = n - i /\ i <= n /\ Pv i σ H,⟨n,by simp,Nat.zero_le _,h0⟩,?_⟩
 rintro i m σ H ⟨rfl,hi,p⟩
 by_cases hlt:i < n
 ·refine .inr ⟨hlt,Pv (i + 1),fun σ' H' p'=>⟨n - (i + 1),by omega,rfl,hlt,p'⟩,fun x H' y=>?_⟩
  obtain ⟨e,y⟩:=y
  subst e y
  exact hs i σ _ hlt p
 ·have e:i = n:=by omega
  subst e
  exact .inl ⟨Nat.le_refl _,hd σ H p⟩
end L2
namespace L2
open PySem PySem.Spec PyProof.Rows
abbrev R2:=V -> V -> Hp -> VK -> Prop
def OpR (X:Cx) (f:Value -> Value -> Sem Value) (r:R2):Prop :=
 ∀ (pins:List (Addr × Obj)) (s:Shared) (σ:St) (H:Hp) (x y:V) (v u:Value) (Q:VK),Inv X pins σ H s -> RelV x v -> RelV y u -> r x y H Q ->
  wpAny (model X.prog X.w) X.A (f v u) (EP X pins σ Q) X.xe s
def UnR (X:Cx) (f:Value -> Sem Value) (r:V -> Hp -> VK -> Prop):Prop :=
 ∀ (pins:List (Addr × Obj)) (s:Shared) (σ:St) (H:Hp) (x:V) (v:Value) (Q:VK),Inv X pins σ H s -> RelV x v -> r x H Q ->
  wpAny (model X.prog X.w) X.A (f v) (EP X pins σ Q) X.xe s
def z6e (X:Cx) (f:Value) (r:List V -> Hp -> VK -> Prop):Prop :=
 ∀ (pins:List (Addr × Obj)) (s:Shared) (σ:St) (H:Hp) (xs:List V) (us:List Value) (Q:VK),Inv X pins σ H s -> Vals xs us -> r xs H Q ->
  wpAny (model X.prog X.w) X.A (call f us) (EP X pins σ Q) X.xe s
def TruR (X:Cx) (r:V -> Hp -> (Bool -> Hp -> Prop) -> Prop):Prop :=
 ∀ (pins:List (Addr × Obj)) (s:Shared) (σ:St) (H:Hp) (x:V) (v:Value) (Q:Bool -> Hp -> Prop),Inv X pins σ H s -> RelV x v -> r x H Q ->
  wpAny (model X.prog X.w) X.A (truthy v) (TP X pins σ Q) X.xe s
def tOp (r:R2) (ta tb:TE):TE:=fun σ H Q=>ta σ H fun x H1=>tb σ H1 fun y H2=>r x y H2 Q
def tUn (r:V -> Hp -> VK -> Prop) (ta:TE):TE:=fun σ H Q=>ta σ H fun x H1=>r x H1 Q
def rI (C:Int -> Int -> Prop) (g:Int -> Int -> V):R2:=fun x y H Q=>∃ i j,x = .int i /\ y = .int j /\ C i j /\ Q (g i j) H
def rI0 (g:Int -> Int -> V):R2:=fun x y H Q=>∃ i j,x = .int i /\ y = .int j /\ Q (g i j) H
def rU (g:Int -> V):V -> Hp -> VK -> Prop:=fun x H Q=>∃ i,x = .int i /\ Q (g i) H
section
variable {X:Cx} {a b c:Expr} {ta tb tc:TE} {pos:Pos}
theorem binT (ha:PE X a ta) (hb:PE X b tb) {pins:List (Addr × Obj)} {s:Shared} {σ:St} {H:Hp} {R:V -> V -> Hp -> Prop} (I:Inv X pins σ H s)
  (h:ta σ H fun x H1=>tb σ H1 fun y H2=>R x y H2) {Q:Value -> Shared -> Prop} {f:Value -> Value -> Sem Value}
  (hf:∀ v u s2 x y H2,Inv X pins σ H2 s2 -> RelV x v -> RelV y u -> R x y H2 -> wpAny (model X.prog X.w) X.A (f v u) Q X.xe s2) :
  wpAny (model X.prog X.w) X.A (eval a X.env) (fun v s₁=>wpAny (model X.prog X.w) X.A (eval b X.env) (fun u s₂=>wpAny (model X.prog X.w) X.A (f v u) Q X.xe s₂) X.xe s₁) X.xe s:=by
 refine thn (ha pins s σ H _ I h) fun v s1 ⟨x,H1,I1,r1,q1⟩=>?_
 refine thn (hb pins s1 σ H1 _ I1 q1) fun u s2 ⟨y,H2,I2,r2,q2⟩=>?_
 exact hf v u s2 x y H2 I2 r1 r2 q2
theorem z0v {op:Operator} {r:R2} (ho:OpR X (binaryOp op) r) (ha:PE X a ta) (hb:PE X b tb):PE X (.BinOp a op b pos) (tOp r ta tb):=by
 intro pins s σ H Q I h
 exact wpAny_BinOp (binT ha hb I h fun v u s2 x y H2 I2 rx ry q=>ho pins s2 σ H2 x y v u Q I2 rx ry q)
theorem zJj {op:UnaryOp} {r:V -> Hp -> VK -> Prop} (ho:UnR X (unaryOp op) r) (ha:PE X a ta):PE X (.UnaryOp op a pos) (tUn r ta):=by
 intro pins s σ H Q I h
 exact UnaryOp_ (thn (ha pins s σ H _ I h) fun v s1 ⟨x,H1,I1,r1,q1⟩=>ho pins s1 σ H1 x v Q I1 r1 q1)
theorem opI {f:Value -> Value -> Sem Value} {C:Int -> Int -> Prop} {g:Int -> Int -> Int}
  (rule:∀ (i j:Int) (t u:Tok) (s:Shared) (Q:Value -> Shared -> Prop) (E:Value -> Shared -> Prop),C i j -> Q (.int (g i j) s.toks) { s with toks:=s.toks + 1 } -> wpAny (model X.prog X.w) X.A (f (.int i t) (.int j u)) Q E s) :
  OpR X f (rI C fun i j=>.int (g i j)):=by
 intro pins s σ H x y v u Q I rx ry h
 obtain ⟨i,j,rfl,rfl,hc,q⟩:=h
 obtain ⟨t,rfl⟩:=rx
 obtain ⟨t',rfl⟩:=ry
 exact rule i j t t' s _ _ hc ⟨.int (g i j),H,I.tok _,⟨_,rfl⟩,q⟩
theorem opI0 {f:Value -> Value -> Sem Value} {g:Int -> Int -> Int}
  (rule:∀ (i j:Int) (t u:Tok) (s:Shared) (Q:Value -> Shared -> Prop) (E:Value -> Shared -> Prop),Q (.int (g i j) s.toks) { s with toks:=s.toks + 1 } -> wpAny (model X.prog X.w) X.A (f (.int i t) (.int j u)) Q E s) :
  OpR X f (rI0 fun i j=>.int (g i j)):=by
 intro pins s σ H x y v u Q I rx ry h
 obtain ⟨i,j,rfl,rfl,q⟩:=h
 obtain ⟨t,rfl⟩:=rx
 obtain ⟨t',rfl⟩:=ry
 exact rule i j t t' s _ _ ⟨.int (g i j),H,I.tok _,⟨_,rfl⟩,q⟩
theorem opB0 {f:Value -> Value -> Sem Value} {g:Int -> Int -> Bool}
  (rule:∀ (i j:Int) (t u:Tok) (s:Shared) (Q:Value -> Shared -> Prop) (E:Value -> Shared -> Prop),Q (.bool (g i j)) s -> wpAny (model X.prog X.w) X.A (f (.int i t) (.int j u)) Q E s) :
  OpR X f (rI0 fun i j=>.bl (g i j)):=by
 intro pins s σ H x y v u Q I rx ry h
 obtain ⟨i,j,rfl,rfl,q⟩:=h
 obtain ⟨t,rfl⟩:=rx
 obtain ⟨t',rfl⟩:=ry
 exact rule i j t t' s _ _ ⟨.bl (g i j),H,I,rfl,q⟩
def CPow (i j:Int):Prop:=0 <= j /\ j <= 1000000 /\ i.natAbs < 2 ^ 64
def CMul (i j:Int):Prop:=(-(2 ^ 64) < i /\ i < 2 ^ 64) \/ (-(2 ^ 64) < j /\ j < 2 ^ 64)
theorem CMul.ok {i j:Int} (h:CMul i j):IntMulOk i j:=by
 rcases h with ⟨h1,h2⟩ | ⟨h1,h2⟩
 ·exact .of_left (intBits_le_64 h1 h2)
 ·exact .of_right (intBits_le_64 h1 h2)
theorem z5z:OpR X (binaryOp .Add) (rI0 fun i j=>.int (i + j)):=opI0 fun _ _ _ _ _ _ _ q=>add_int q
theorem z8g:OpR X (binaryOp .Sub) (rI0 fun i j=>.int (i - j)):=opI0 fun _ _ _ _ _ _ _ q=>sub_int q
theorem z3x:OpR X (binaryOp .Mult) (rI CMul fun i j=>.int (i * j)):=opI fun _ _ _ _ _ _ _ hc q=>mul_int q hc.ok
theorem z7i:OpR X (binaryOp .Mod) (rI (fun _ j=>0 < j) fun i j=>.int (i % j)):=opI fun i j _ _ _ _ _ hc q=>by
 have h1:(0:Int) < j:=hc
 exact mod_int' (by omega) (by rw [Int.fmod_eq_emod_of_nonneg i (by omega)]; exact q)
theorem yHk:OpR X (binaryOp .Pow) (rI CPow fun i j=>.int (i ^ j.toNat)):=opI fun _ _ _ _ _ _ _ hc q=>pow_int_small hc.1 hc.2.1 hc.2.2 q
theorem unI {f:Value -> Sem Value} {g:Int -> Int}
  (rule:∀ (i:Int) (t:Tok) (s:Shared) (Q:Value -> Shared -> Prop) (E:Value -> Shared -> Prop),Q (.int (g i) s.toks) { s with toks:=s.toks + 1 } -> wpAny (model X.prog X.w) X.A (f (.int i t)) Q E s) :
  UnR X f (rU fun i=>.int (g i)):=by
 intro pins s σ H x v Q I rx h
 obtain ⟨i,rfl,q⟩:=h
 obtain ⟨t,rfl⟩:=rx
 exact rule i t s _ _ ⟨.int (g i),H,I.tok _,⟨_,rfl⟩,q⟩
theorem zAm:UnR X (unaryOp .USub) (rU fun i=>.int (-i)):=unI fun _ _ _ _ _ q=>neg_int q
end
def scal:V -> V -> Bool
 | .non,.non=>true | .non,.int _=>true | .int _,.non=>true | .non,.bl _=>true | .bl _,.non=>true | .non,.str _=>true | .str _,.non=>true
 | .int _,.int _=>true | .bl _,.bl _=>true | .str _,.str _=>true | .byt _,.byt _=>true
 | .int _,.str _=>true | .str _,.int _=>true | .bl _,.str _=>true | .str _,.bl _=>true
 | _,_=>false
def rEq:R2:=fun x y H Q=>scal x y = true /\ Q (.bl (decide (x = y))) H
def rNe:R2:=fun x y H Q=>scal x y = true /\ Q (.bl (!decide (x = y))) H
theorem y6w {i j:Int}:decide (V.int i = V.int j) = (i == j):=by
 rw [Bool.eq_iff_iff]
 simp
theorem yDm {i j:Bool}:decide (V.bl i = V.bl j) = (i == j):=by
 rw [Bool.eq_iff_iff]
 simp
theorem y6x {i j:Str}:decide (V.str i = V.str j) = (i == j):=by
 rw [Bool.eq_iff_iff]
 simp
theorem y6v {i j:Array UInt8}:decide (V.byt i = V.byt j) = (i.toList == j.toList):=by
 rw [Bool.eq_iff_iff]
 cases i
 cases j
 simp
section
variable {X:Cx} {a b c:Expr} {ta tb tc:TE} {pos:Pos}
theorem z2c {pins:List (Addr × Obj)} {σ:St} {H:Hp} {s:Shared} {Q:VK} {k k':Bool} (I:Inv X pins σ H s) (q:Q (.bl k) H) (e:k = k'):EP X pins σ Q (.bool k') s:=by
 subst e
 exact ⟨.bl k,H,I,rfl,q⟩
theorem z7z:OpR X (compareOp .Eq) rEq:=by
 intro pins s σ H x y v u Q I rx ry h
 obtain ⟨hs,q⟩:=h
 cases x with
 | non =>
  cases rx
  cases y with
  | non=>cases ry; exact PySem.EqNone.eq_none_none (z2c I q (by simp))
  | bl j=>cases ry; exact PySem.EqNone.eq_none_bool (z2c I q (by simp))
  | int j=>obtain ⟨t',rfl⟩:=ry; exact PySem.EqNone.eq_none_int (z2c I q (by simp))
  | str j=>obtain ⟨t',rfl⟩:=ry; exact PySem.EqNone.eq_none_str (z2c I q (by simp))
  | _=>exact absurd (show false = true from hs) Bool.false_ne_true
 | bl i =>
  cases rx
  cases y with
  | non=>cases ry; exact PySem.EqNone.eq_bool_none (z2c I q (by simp))
  | bl j=>cases ry; exact eq_bool (z2c I q yDm)
  | str j=>obtain ⟨t',rfl⟩:=ry; exact PySem.EqMixed.eq_bool_str (z2c I q (by simp))
  | _=>exact absurd (show false = true from hs) Bool.false_ne_true
 | int i =>
  obtain ⟨t,rfl⟩:=rx
  cases y with
  | non=>cases ry; exact PySem.EqNone.eq_int_none (z2c I q (by simp))
  | int j=>obtain ⟨t',rfl⟩:=ry; exact eq_int (z2c I q y6w)
  | str j=>obtain ⟨t',rfl⟩:=ry; exact PySem.EqMixed.eq_int_str (z2c I q (by simp))
  | _=>exact absurd (show false = true from hs) Bool.false_ne_true
 | str i =>
  obtain ⟨t,rfl⟩:=rx
  cases y with
  | non=>cases ry; exact PySem.EqNone.eq_str_none (z2c I q (by simp))
  | bl j=>cases ry; exact PySem.EqMixed.eq_str_bool (z2c I q (by simp))
  | int j=>obtain ⟨t',rfl⟩:=ry; exact PySem.EqMixed.eq_str_int (z2c I q (by simp))
  | str j=>obtain ⟨t',rfl⟩:=ry; exact eq_str (z2c I q y6x)
  | _=>exact absurd (show false = true from hs) Bool.false_ne_true
 | byt i =>
  obtain ⟨t,rfl⟩:=rx
  cases y with
  | byt j=>obtain ⟨t',rfl⟩:=ry; exact PySem.W.eq_bytes (z2c I q y6v)
  | _=>exact absurd (show false = true from hs) Bool.false_ne_true
 | _=>cases y <;> exact absurd (show false = true from hs) Bool.false_ne_true
theorem y5b:OpR X (compareOp .NotEq) rNe:=by
 intro pins s σ H x y v u Q I rx ry h
 obtain ⟨hs,q⟩:=h
 cases x with
 | non =>
  cases rx
  cases y with
  | non=>cases ry; exact PySem.EqNone.ne_none_none (z2c I q (by simp))
  | bl j=>cases ry; exact PySem.EqNone.ne_none_bool (z2c I q (by simp))
  | int j=>obtain ⟨t',rfl⟩:=ry; exact PySem.EqNone.ne_none_int (z2c I q (by simp))
  | str j=>obtain ⟨t',rfl⟩:=ry; exact PySem.EqNone.ne_none_str (z2c I q (by simp))
  | _=>exact absurd (show false = true from hs) Bool.false_ne_true
 | bl i =>
  cases rx
  cases y with
  | non=>cases ry; exact PySem.EqNone.ne_bool_none (z2c I q (by simp))
  | bl j=>cases ry; exact ne_bool (z2c I q (congrArg not yDm))
  | str j=>obtain ⟨t',rfl⟩:=ry; exact PySem.EqMixed.ne_bool_str (z2c I q (by simp))
  | _=>exact absurd (show false = true from hs) Bool.false_ne_true
 | int i =>
  obtain ⟨t,rfl⟩:=rx
  cases y with
  | non=>cases ry; exact PySem.EqNone.ne_int_none (z2c I q (by simp))
  | int j=>obtain ⟨t',rfl⟩:=ry; exact ne_int (z2c I q (congrArg not y6w))
  | str j=>obtain ⟨t',rfl⟩:=ry; exact PySem.EqMixed.ne_int_str (z2c I q (by simp))
  | _=>exact absurd (show false = true from hs) Bool.false_ne_true
 | str i =>
  obtain ⟨t,rfl⟩:=rx
  cases y with
  | non=>cases ry; exact PySem.EqNone.ne_str_none (z2c I q (by simp))
  | bl j=>cases ry; exact PySem.EqMixed.ne_str_bool (z2c I q (by simp))
  | int j=>obtain ⟨t',rfl⟩:=ry; exact PySem.EqMixed.ne_str_int (z2c I q (by simp))
  | str j=>obtain ⟨t',rfl⟩:=ry; exact ne_str (z2c I q (congrArg not y6x))
  | _=>exact absurd (show false = true from hs) Bool.false_ne_true
 | byt i =>
  obtain ⟨t,rfl⟩:=rx
  cases y with
  | byt j=>obtain ⟨t',rfl⟩:=ry; exact PySem.W.ne_bytes (z2c I q (congrArg not y6v))
  | _=>exact absurd (show false = true from hs) Bool.false_ne_true
 | _=>cases y <;> exact absurd (show false = true from hs) Bool.false_ne_true
theorem y5a:OpR X (compareOp .Lt) (rI0 fun i j=>.bl (decide (i < j))):=opB0 fun _ _ _ _ _ _ _ q=>lt_int q
theorem y8l:OpR X (compareOp .LtE) (rI0 fun i j=>.bl (decide (i <= j))):=opB0 fun _ _ _ _ _ _ _ q=>le_int q
theorem yFk:OpR X (compareOp .Gt) (rI0 fun i j=>.bl (decide (j < i))):=opB0 fun _ _ _ _ _ _ _ q=>gt_int q
theorem yHj:OpR X (compareOp .GtE) (rI0 fun i j=>.bl (decide (j <= i))):=opB0 fun _ _ _ _ _ _ _ q=>ge_int q
theorem zEx:OpR X (compareOp .Is) (fun x y H Q=>y = .non /\ Q (.bl (decide (x = .non))) H):=by
 intro pins s σ H x y v u Q I rx ry h
 obtain ⟨rfl,q⟩:=h
 cases ry
 refine is_none_gen (z2c I q ?_)
 cases x <;> first
  | (cases rx; rfl)
  | (obtain ⟨t,rfl⟩:=rx; rfl)
theorem y8m:OpR X (compareOp .IsNot) (fun x y H Q=>y = .non /\ Q (.bl (!decide (x = .non))) H):=by
 intro pins s σ H x y v u Q I rx ry h
 obtain ⟨rfl,q⟩:=h
 cases ry
 refine isnot_none_gen (z2c I q ?_)
 cases x <;> first
  | (cases rx; rfl)
  | (obtain ⟨t,rfl⟩:=rx; rfl)
theorem z1d (b:Expr) {op:CmpOp} (h:op ≠ .In:=by decide) (h2:op ≠ .NotIn:=by decide):behindInMarks op b = false:=by
 have e1:(op == CmpOp.In) = false:=by cases op <;> first | rfl | exact absurd rfl h
 have e2:(op == CmpOp.NotIn) = false:=by cases op <;> first | rfl | exact absurd rfl h2
 cases b <;> simp [behindInMarks,e1,e2]
theorem z5f {op:CmpOp} {r:R2} (ho:OpR X (compareOp op) r) (ha:PE X a ta) (hb:PE X b tb) (hm:behindInMarks op b = false):PE X (.Compare a [op] [b] pos) (tOp r ta tb):=by
 intro pins s σ H Q I h
 exact wpAny_Compare1 (binT ha hb I h fun v u s2 x y H2 I2 rx ry q=>ho pins s2 σ H2 x y v u Q I2 rx ry q) hm
def k0p (t:TE):TT:=fun σ H Q=>t σ H fun x H'=>∃ k,x = .bl k /\ Q k H'
theorem z0w {op:CmpOp} {r:R2} (ho:OpR X (compareOp op) r) (ha:PE X a ta) (hb:PE X b tb) (hm:behindInMarks op b = false):PT X (.Compare a [op] [b] pos) (k0p (tOp r ta tb)):=by
 intro pins s σ H Q I h
 refine wpAny_isTrue_Compare1 (thn (ha pins s σ H _ I h) fun v s1 ⟨x,H1,I1,r1,q1⟩=>thn (hb pins s1 σ H1 _ I1 q1) fun u s2 ⟨y,H2,I2,r2,q2⟩ =>
  thn (ho pins s2 σ H2 x y v u _ I2 r1 r2 q2) fun c s3 ⟨z,H3,I3,r3,k,e,q3⟩=>?_) hm
 subst e
 cases r3
 exact wpAny_truthy_bool ⟨H3,I3,q3⟩
def TruV (K:PySem.W.Frag) (x:V) (H:Hp) (k:Bool):Prop :=
 match x with
 | .non=>k = false
 | .bl b=>k = b
 | .int i=>k = (i != 0)
 | .str y=>y.length <= sizeLine /\ k = ((y.length:Int) != 0)
 | .byt y=>y.size <= sizeLine /\ k = ((y.size:Int) != 0)
 | .ref p=>(∃ xs,SqL K H p xs /\ k = !xs.isEmpty) \/ (∃ xs,SqT K H p xs /\ k = !xs.isEmpty) \/ ∃ kvs,H p = some (.dK kvs) /\ k = !kvs.isEmpty
 | _=>False
theorem y4c {κ:Type} {kvs:List (κ × V)} {vs:List (κ × Value)} (r:KV kvs vs):(!vs.isEmpty) = !kvs.isEmpty:=by
 cases r <;> rfl
theorem zEo {xs:List V} {its:List Value} (r:Vals xs its):(!its.toArray.isEmpty) = !xs.isEmpty:=by
 cases r <;> simp
theorem zEr:(sizeLine:Nat) < 2 ^ 63:=by rw [sizeLine_eq]; decide
theorem yIx:TruR X (fun x H Q=>∃ k,TruV X.K x H k /\ Q k H):=by
 intro pins s σ H x v Q I rx h
 obtain ⟨k,e,q⟩:=h
 have hl:=zEr
 have hs:sizeLine = 16777216:=sizeLine_eq
 cases x with
 | non =>
  cases rx
  have e':k = false:=e
  subst e'
  exact truthy_none ⟨H,I,q⟩
 | bl b =>
  cases rx
  have e':k = b:=e
  subst e'
  exact wpAny_truthy_bool ⟨H,I,q⟩
 | int i =>
  obtain ⟨t,rfl⟩:=rx
  have e':k = (i != 0):=e
  subst e'
  exact PySem.P.truthy_int ⟨H,I,q⟩
 | str y =>
  obtain ⟨t,rfl⟩:=rx
  obtain ⟨hy,e'⟩:y.length <= sizeLine /\ k = ((y.length:Int) != 0):=e
  subst e'
  exact PySem.P.truthy_str (by omega) ⟨H,I.tok _,q⟩
 | byt y =>
  obtain ⟨t,rfl⟩:=rx
  obtain ⟨hy,e'⟩:y.size <= sizeLine /\ k = ((y.size:Int) != 0):=e
  subst e'
  exact PySem.W.truthy_bytes (by omega) ⟨H,I.tok _,q⟩
 | ref p =>
  cases rx
  have e':(∃ xs,SqL X.K H p xs /\ k = !xs.isEmpty) \/ (∃ xs,SqT X.K H p xs /\ k = !xs.isEmpty) \/ ∃ kvs,H p = some (.dK kvs) /\ k = !kvs.isEmpty:=e
  rcases e' with ⟨xs,hx,e'⟩ | ⟨xs,hx,e'⟩ | ⟨kvs,hx,e'⟩
  ·subst e'
   obtain ⟨its,r,pl,hz⟩:=I.list hx
   have hlen:=r.length
   exact wpAny_truthy_list pl.isList (by simp only [List.size_toArray]; omega) ⟨H,I.tok _,by rw [zEo r]; exact q⟩
  ·subst e'
   obtain ⟨its,r,pl,hz⟩:=I.tuple hx
   have hlen:=r.length
   exact truthy_tuple pl (by simp only [List.size_toArray]; omega) ⟨H,I.tok _,by rw [zEo r]; exact q⟩
  ·subst e'
   obtain ⟨hz,hS,vs,r,m⟩:kvs.length <= sizeLine /\ (p == sysModules) = false /\ ∃ vs,KV kvs vs /\ s.heap.DictOf (z4l X.prog X.w) p vs:=I.hok p _ hx
   have hlen:kvs.length = vs.length:=Paired.length r
   exact wpAny_truthy_dict hS m (by omega) ⟨H,I.tok _,by rw [y4c r]; exact q⟩
 | _=>exact (show False from e).elim
theorem z2b (ha:PE X a ta) (he:∀ whole,isTrue a X.env whole = (do let v <- whole; standAt a.pos; holding [v] (truthy v))) :
  PT X a (fun σ H Q=>ta σ H fun x H'=>∃ k,TruV X.K x H' k /\ Q k H'):=by
 intro pins s σ H Q I h
 exact isTrue_plain (thn (ha pins s σ H _ I h) fun v s1 ⟨x,H1,I1,r1,q1⟩=>yIx pins s1 σ H1 x v Q I1 r1 q1) (he _)
theorem zDm {x:V} {us:List Value} (r:Vals [x] us):∃ u,us = [u] /\ RelV x u:=by
 cases r with
 | cons r1 r2=>cases r2; exact ⟨_,rfl,r1⟩
theorem yGl {x y:V} {us:List Value} (r:Vals [x,y] us):∃ u w',us = [u,w'] /\ RelV x u /\ RelV y w':=by
 cases r with
 | cons r1 r2 =>
  cases r2 with
  | cons r3 r4=>cases r4; exact ⟨_,_,rfl,r1,r3⟩
theorem zHq (hc:X.calm = true):z6e X (.builtin "min") (fun xs H Q=>∃ i j,xs = [.int i,.int j] /\ Q (.int (if j < i then j else i)) H):=by
 intro pins s σ H xs us Q I r h
 obtain ⟨i,j,rfl,q⟩:=h
 obtain ⟨u,w',rfl,⟨t,rfl⟩,⟨t',rfl⟩⟩:=yGl r
 refine min_two_ints (I.ok.hd hc) fun h' tk k=>⟨_,H,I.kept k,?_,q⟩
 by_cases hj:j < i
 ·rw [if_pos hj,if_pos hj]; exact ⟨_,rfl⟩
 ·rw [if_neg hj,if_neg hj]; exact ⟨_,rfl⟩
end
end L2
namespace L2
open PySem PySem.Spec PyProof.Rows
structure ObjM (h:Heap) (x dx C:Addr) (mA:Str -> Option Value):Prop where
 obj:h.get? x = some (PySem.W.instObj C dx)
 ns:h.Ns1 dx mA
 ne:dx ≠ x
theorem y7s {h:Heap} {dx:Addr} {mA:Str -> Option Value} (n:h.Ns1 dx mA):∃ od,h.get? dx = some od /\ ∀ name,PySem.W.lookIn name od = some (mA name):=by
 obtain ⟨o,es,ep,ho,hd,hk,_,hm⟩:=n
 refine ⟨o,ho,fun name=>?_⟩
 have e:=hm name
 unfold nsFind findBy at e
 rw [<- Array.find?_toList] at e
 unfold PySem.W.lookIn
 rw [hd]
 dsimp only
 split
 ·rename_i y q
  rw [q] at e
  exact congrArg some e
 ·rename_i q
  rw [q] at e
  have a:es.toList.any (·.refKey) = false:=by
   rw [List.any_eq_false]
   intro y hy
   obtain ⟨z,t,hkey⟩:=hk y (Array.mem_toList_iff.mp hy)
   simp [DictEntry.refKey,hkey]
  have a':¬ es.toList.any (·.refKey) = true:=by rw [a]; exact Bool.false_ne_true
  rw [if_neg a']
  exact congrArg some e
theorem ObjM.look {h:Heap} {x dx C:Addr} {mA:Str -> Option Value} (I:ObjM h x dx C mA):∃ od,PySem.W.InstAt h x (PySem.W.instObj C dx) C (some od) /\ ∀ name,PySem.W.lookIn name od = some (mA name) :=
 let ⟨od,ho,hl⟩:=y7s I.ns
 ⟨od,⟨I.obj,rfl,rfl,ho⟩,hl⟩
section
variable {prog:Program} {w:World} {A:Around} {E:Value -> Shared -> Prop} {s:Shared} {K:PySem.W.Frag} {x dx C f:Addr} {mA:Str -> Option Value} {name:Str} {v:Value}
theorem yFa {expr:Bool} {Q:Value -> Shared -> Prop} (X:K.In s.heap) (I:ObjM s.heap x dx C mA) (hg:PySem.W.plainGet K C name = true) (hh:PySem.W.hasDictIn K C = true)
  (ha:PySem.W.findIn K (.ref C) name = some none) (hv:mA name = some v) (hv':PySem.W.handedIn v = true) (h:Q v { s with toks:=s.toks + 1 }) :
  wpAny (model prog w) A (getAttr (.ref x) name expr) Q E s:=by
 obtain ⟨od,J,hl⟩:=I.look
 exact PySem.W.get_value X J (PySem.W.plainGet_of hg).1 (PySem.W.findObj_own hh ha rfl (by rw [hl,hv])) hv' h
theorem yBm {pl:Sem Bool} {Q:Value × List Value -> Shared -> Prop} (X:K.In s.heap) (I:ObjM s.heap x dx C mA) (hg:PySem.W.plainGet K C name = true)
  (hf:PySem.W.findIn K (.ref C) name = some (some (.ref f))) (ht:PySem.W.isFn K (.ref f) = true) (hv:mA name = none) (h:Q (.ref f,[.ref x]) s) :
  wpAny (model prog w) A (getMethod (.ref x) name pl) Q E s:=by
 obtain ⟨od,J,hl⟩:=I.look
 exact PySem.W.method_fn X J (PySem.W.plainGet_of hg).1 (PySem.W.plainGet_of hg).2 hf (beq_iff_eq.mp ht) (by show (PySem.W.lookIn name od).map (·.isSome) = some false; rw [hl,hv]; rfl) h
theorem yFw {ns:List Str} {Q:Unit -> Shared -> Prop} (X:K.In s.heap) (I:ObjM s.heap x dx C mA)
  (hs:PySem.W.findIn K (.ref C) "__setattr__" = some (some (.builtin "object.__setattr__"))) (hp:PySem.W.plainOver K C = true) (ht:PySem.W.takerIn K C name = some none) (hh:PySem.W.hasDictIn K C = true)
  (hw:PySem.Within mA ns) (hsz:ns.length <= sizeLine)
  (h:∀ h',ObjM h' x dx C (fun y=>if y = name then some v else mA y) -> Heap.SameBut dx s.heap h' -> Q () { s with heap:=h',toks:=s.toks + 2 }) :
  wpAny (model prog w) A (setAttr (.ref x) name v) Q E s:=by
 obtain ⟨od,J,hl⟩:=I.look
 refine PySem.W.set_plain X J hs (PySem.W.osa_open (s:={ s with toks:=s.toks + 1 }) (r:=none) X J hp ht fun b=>?_)
 obtain ⟨cd,hc,hd'⟩:=PySem.W.any_some hh
 have hx:s.heap.get? x = some ⟨.ref C,some dx,.plain,#[]⟩:=I.obj
 refine wpAny_bind (wpAny_pure (wpAny_bind (wpAny_bind (wpAny_loadPart hx (wpAny_bind (PySem.W.Looks.here (s:={ s with toks:=s.toks + 1 }) (PySem.W.looks_clsIn X hc) ?_))))))
 rw [hd']
 refine wpAny_pure (a:=some dx) (wpAny_bind (wpAny_pure (wpAny_bind ?_)))
 refine wpAny_nsSet1 (s:={ s with toks:=s.toks + 1 }) I.ns fun h' hn2 hs2=>?_
 obtain ⟨oD,esD,epD,hoD,hdD,hcD⟩:=hn2.count (PySem.Within.cons name v hw)
 refine wpAny_bind (wpAny_lookBehind hoD (by rw [hdD]; exact pastItsLine_dict (Nat.le_trans hcD (by rw [List.length_cons]; omega))) ?_)
 exact wpAny_pure (h _ ⟨(hs2.2 _ (Ne.symm I.ne)).trans I.obj,hn2,I.ne⟩ hs2)
theorem yBv {R:Result -> Shared -> Prop} {vs:List Value} {kw:List (Str × Value)} (X:K.In s.heap) (hm:PySem.W.makesIn K C = true)
  (hi:PySem.W.findIn K (.ref C) "__init__" = some (some (.ref f))) (hf:PySem.W.typeIn K (.ref f) = some (.type "function"))
  (h:codeAny (model prog w) (A.under (.builtin "type.__call__" ⟨.ref C :: vs,kw⟩)) (.call (.ref f) ⟨.ref (s.heap.objs.size + 1) :: vs,kw⟩) (PySem.W.InitBack (s.heap.objs.size + 1) R)
   { s with heap:=(s.heap.push PySem.W.emptyDict).push (PySem.W.instObj C s.heap.objs.size) }) :
  codeAny (model prog w) A (.call (.ref C) ⟨vs,kw⟩) R s:=by
 obtain ⟨hh,g,d,t,os⟩:=s
 exact PySem.W.make_core (PySem.W.makes_of X hm) (PySem.W.looks_findIn X hi) (fun self=>PySem.W.bind_fn X self hf) (.inl rfl) h
end
def putF (f:Str) (v:V):List (Str × V) -> List (Str × V)
 | []=>[(f,v)]
 | (g,x) :: r=>if g = f then (g,v) :: r else (g,x) :: putF f v r
theorem z4k (f g:Str) (v:V):∀ fs:List (Str × V),(putF f v fs).lookup g = if g = f then some v else fs.lookup g
 | []=>by
  show List.lookup g [(f,v)] = _
  by_cases h:g = f
  ·have hb:(g == f) = true:=beq_iff_eq.mpr h
   simp only [List.lookup,hb,if_pos h]
  ·have hb:(g == f) = false:=beq_eq_false_iff_ne.mpr h
   simp only [List.lookup,hb,if_neg h]
 | (k,x) :: r=>by
  have ih:=z4k f g v r
  rw [show putF f v ((k,x) :: r) = (if k = f then (k,v) :: r else (k,x) :: putF f v r) from rfl]
  by_cases hk:k = f
  ·rw [if_pos hk]
   by_cases h:g = k
   ·have hb:(g == k) = true:=beq_iff_eq.mpr h
    simp only [List.lookup,hb,if_pos (h.trans hk)]
   ·have hb:(g == k) = false:=beq_eq_false_iff_ne.mpr h
    simp only [List.lookup,hb,if_neg (fun e:g = f=>h (e.trans hk.symm))]
  ·rw [if_neg hk]
   by_cases h:g = k
   ·have hb:(g == k) = true:=beq_iff_eq.mpr h
    simp only [List.lookup,hb,if_neg (fun e:g = f=>hk (h.symm.trans e))]
   ·have hb:(g == k) = false:=beq_eq_false_iff_ne.mpr h
    simp only [List.lookup,hb]
    exact ih
theorem zCc (f:Str) (v:V):∀ fs:List (Str × V),f ∈ (putF f v fs).map (·.1) /\ ∀ g,g ∈ fs.map (·.1) -> g ∈ (putF f v fs).map (·.1)
 | []=>⟨by simp [putF],fun g h=>by simp at h⟩
 | (k,x) :: r=>by
  obtain ⟨i1,i2⟩:=zCc f v r
  rw [show putF f v ((k,x) :: r) = (if k = f then (k,v) :: r else (k,x) :: putF f v r) from rfl]
  by_cases hk:k = f
  ·rw [if_pos hk]
   subst hk
   exact ⟨by simp,fun g h=>by simpa using h⟩
  ·rw [if_neg hk]
   refine ⟨?_,fun g h=>?_⟩
   ·rw [List.map_cons]
    exact List.mem_cons_of_mem _ i1
   ·rw [List.map_cons] at h ⊢
    rcases List.mem_cons.mp h with e | e
    ·exact List.mem_cons.mpr (.inl e)
    ·exact List.mem_cons_of_mem _ (i2 g e)
theorem zCg (f:Str) (v:V):∀ fs:List (Str × V),(putF f v fs).length <= fs.length + 1
 | []=>by simp [putF]
 | (k,x) :: r=>by
  have ih:=zCg f v r
  rw [show putF f v ((k,x) :: r) = (if k = f then (k,v) :: r else (k,x) :: putF f v r) from rfl]
  by_cases hk:k = f
  ·rw [if_pos hk,List.length_cons,List.length_cons]; omega
  ·rw [if_neg hk,List.length_cons,List.length_cons]; omega
theorem RelO.some_of {v:V} {o:Option Value} (r:RelO (some v) o):∃ u,o = some u /\ RelV v u:=by
 cases o with
 | none=>exact (show False from r).elim
 | some u=>exact ⟨u,rfl,r⟩
theorem RelO.none_of {o:Option Value} (r:RelO none o):o = none:=by
 cases o with
 | none=>rfl
 | some u=>exact (show False from r).elim
theorem y7c {v:V} {u:Value} (r:RelV v u):PySem.W.handedIn u = true:=by
 cases v with
 | non=>cases (show u = Value.none from r); rfl
 | bl b=>cases (show u = Value.bool b from r); rfl
 | int i=>obtain ⟨t,e⟩:=(show ∃ t,u = Value.int i t from r); cases e; rfl
 | str x=>obtain ⟨t,e⟩:=(show ∃ t,u = Value.str x t from r); cases e; rfl
 | byt b=>obtain ⟨t,e⟩:=(show ∃ t,u = Value.bytes b t from r); cases e; rfl
 | flt b=>obtain ⟨t,e⟩:=(show ∃ t,u = Value.float b t from r); cases e; rfl
 | ref a=>cases (show u = Value.ref a from r); rfl
 | ty n=>cases (show u = Value.type n from r); rfl
section
variable {P:Program} {w:World} {H H':Hp} {h h':Heap} {a C dx:Addr} {fs fs':List (Str × V)}
theorem zBz (hok:HOk P w H h) (e:H a = some (.ins C dx fs)):∃ mA,ObjM h a dx C mA /\ (∀ f,RelO (fs.lookup f) (mA f)) /\ PySem.Within mA (fs.map (·.1)) /\ fs.length <= 1000 /\ H dx = some (.own a):=by
 obtain ⟨d,z,ne,ob,mA,n,r,q⟩:=(show z2n P w H h a (.ins C dx fs) from hok a _ e)
 exact ⟨mA,⟨ob,n,ne⟩,r,q,z,d⟩
end
structure Cls (K:PySem.W.Frag) (C:Addr):Prop where
 pg:PySem.W.plainGet K C Str.empty = true
 hd:PySem.W.hasDictIn K C = true
 po:PySem.W.plainOver K C = true
 sa:PySem.W.findIn K (.ref C) "__setattr__" = some (some (.builtin "object.__setattr__"))
theorem Cls.get {K:PySem.W.Frag} {C:Addr} (c:Cls K C) (f:Str):PySem.W.plainGet K C f = true:=c.pg
def zAc (K:PySem.W.Frag) (C:Addr) (f:Str):Prop:=PySem.W.findIn K (.ref C) f = some none
theorem zAc.taker {K:PySem.W.Frag} {C:Addr} {f:Str} (n:zAc K C f):PySem.W.takerIn K C f = some none:=by
 unfold PySem.W.takerIn
 rw [show PySem.W.findIn K (.ref C) f = some none from n]
 rfl
structure Meth (K:PySem.W.Frag) (C:Addr) (m:Str) (f:Addr):Prop where
 at_:PySem.W.findIn K (.ref C) m = some (some (.ref f))
 fn:PySem.W.isFn K (.ref f) = true
 kp:PySem.W.keepIn K (.ref f) = true
section
variable {X:Cx} {pins:List (Addr × Obj)} {σ:St} {H:Hp} {s:Shared} {a C dx:Addr} {fs:List (Str × V)} {f:Str} {v:V} {A:Around} {E:Value -> Shared -> Prop}
theorem y4a {b:Bool} {Q:Value -> Shared -> Prop} (I:Inv X pins σ H s) (e:H a = some (.ins C dx fs)) (c:Cls X.K C) (n:zAc X.K C f) (l:fs.lookup f = some v)
  (h:∀ u s',Inv X pins σ H s' -> RelV v u -> Q u s'):wpAny (model X.prog X.w) A (getAttr (.ref a) f b) Q E s:=by
 obtain ⟨mA,O,r,_,_,_⟩:=zBz I.hok e
 obtain ⟨u,hu,ru⟩:=RelO.some_of (v:=v) (o:=mA f) (by rw [<- l]; exact r f)
 exact yFa I.kIn O (c.get f) c.hd n hu (y7c ru) (h u _ (I.tok _) ru)
theorem y4b {m:Str} {g:Addr} {pl:Sem Bool} {Q:Value × List Value -> Shared -> Prop} (I:Inv X pins σ H s) (e:H a = some (.ins C dx fs)) (c:Cls X.K C) (k:Meth X.K C m g) (l:fs.lookup m = none)
  (h:Q (.ref g,[.ref a]) s):wpAny (model X.prog X.w) A (getMethod (.ref a) m pl) Q E s:=by
 obtain ⟨mA,O,r,_,_,_⟩:=zBz I.hok e
 have hn:mA m = none:=RelO.none_of (by rw [<- l]; exact r m)
 exact yBm I.kIn O (c.get m) k.at_ k.fn hn h
theorem y5l {y:V} {u:Value} {Q:Unit -> Shared -> Prop} (I:Inv X pins σ H s) (e:H a = some (.ins C dx fs)) (c:Cls X.K C) (n:zAc X.K C f) (hl:fs.length < 1000) (ry:RelV y u)
  (h:∀ s',Inv X pins σ (upd H a (.ins C dx (putF f y fs))) s' -> Q () s'):wpAny (model X.prog X.w) A (setAttr (.ref a) f u) Q E s:=by
 obtain ⟨mA,O,r,wi,_,ho⟩:=zBz I.hok e
 have hz:(fs.map (·.1)).length <= sizeLine:=by rw [List.length_map,sizeLine_eq]; omega
 refine yFw I.kIn O c.sa c.po n.taker c.hd wi hz fun h' O' sb=>h _ ?_
 have hd:∃ o,h'.get? dx = some o:=let ⟨o,_,_,e',_⟩:=O'.ns; ⟨o,e'⟩
 refine I.write (x:=a) (e:=dx) (by rw [e]; exact True.intro) (.inr ho) (fun b q hb z=>(sb.2 b hb).trans z) hd ?_
 refine ⟨by rw [z0n O.ne]; exact ho,?_,O.ne,O'.obj,_,O'.ns,fun g=>?_,fun g hg=>?_⟩
 ·have:=zCg f y fs; omega
 ·show RelO ((putF f y fs).lookup g) (if g = f then some u else mA g)
  rw [z4k]
  by_cases q:g = f
  ·rw [if_pos q,if_pos q]; exact ry
  ·rw [if_neg q,if_neg q]; exact r g
 ·by_cases q:g = f
  ·rw [q]; exact (zCc f y fs).1
  ·refine (zCc f y fs).2 g (wi g fun z=>hg ?_)
   show (if g = f then some u else mA g) = none
   rw [if_neg q]; exact z
theorem Inv.made (I:Inv X pins σ H s):Inv X pins σ (upd (upd H s.heap.objs.size (.own (s.heap.objs.size + 1))) (s.heap.objs.size + 1) (.ins C s.heap.objs.size []))
  { s with heap:=(s.heap.push PySem.W.emptyDict).push (PySem.W.instObj C s.heap.objs.size) }:=by
 have e1:(s.heap.push PySem.W.emptyDict).get? s.heap.objs.size = some PySem.W.emptyDict:=Heap.get?_push_size s.heap rfl
 have e2:((s.heap.push PySem.W.emptyDict).push (PySem.W.instObj C s.heap.objs.size)).get? (s.heap.objs.size + 1) = some (PySem.W.instObj C s.heap.objs.size):=by
  have:=Heap.get?_push_size (s.heap.push PySem.W.emptyDict) (o:=PySem.W.instObj C s.heap.objs.size) rfl
  rwa [Heap.size_push] at this
 have e3:(s.heap.push PySem.W.emptyDict).Ns s.heap.objs.size (fun _=>none):=⟨PySem.W.emptyDict,#[],_,e1,rfl,(fun e he=>absurd he (by simp)),fun _=>rfl⟩
 have I1:=I.laid (a:=s.heap.objs.size) (o:=.own (s.heap.objs.size + 1)) (h':=s.heap.push PySem.W.emptyDict) (t':=s.toks) (fun b u q=>Heap.get?_push_of_some _ q) (Nat.le_refl _) ⟨_,e1⟩
 refine I1.laid (a:=s.heap.objs.size + 1) (o:=.ins C s.heap.objs.size []) (t':=s.toks) (fun b u q=>Heap.get?_push_of_some _ q) (Nat.le_of_eq (Heap.size_push _ _)) ?_
 have ne:s.heap.objs.size ≠ s.heap.objs.size + 1:=Nat.ne_of_lt (Nat.lt_succ_self _)
 refine ⟨by rw [z0n ne,z0c],Nat.zero_le _,ne,e2,fun _=>none,(Heap.Ns1.of_empty e3).at fun o q=>Heap.get?_push_of_some _ q,fun _=>True.intro,fun y hy=>absurd rfl hy⟩
theorem yEj {prog:Program} {w:World} {env:Env} {e:Expr} {f:Str} {pos:Pos} {s:Shared} {Q:Value -> Shared -> Prop} (hb:attributeBase e f env (eval e env) = eval e env)
  (h:wpAny (model prog w) A (eval e env) (fun o s₁=>wpAny (model prog w) A (getAttr o f true) Q E s₁) E s):wpAny (model prog w) A (eval (.Attribute e f pos) env) Q E s :=
 Attribute_any_ h (by rw [arm_eval_Attribute,hb])
end
def tFld (K:PySem.W.Frag) (ta:TE) (f:Str):TE:=fun σ H Q=>ta σ H fun x H1=>∃ a C dx fs v,x = .ref a /\ H1 a = some (.ins C dx fs) /\ Cls K C /\ zAc K C f /\ fs.lookup f = some v /\ Q v H1
def sFld (K:PySem.W.Frag) (ta tv:TE) (f:Str):TS:=fun D σ H=>tv σ H fun y H1=>ta σ H1 fun x H2=>∃ a C dx fs,x = .ref a /\ H2 a = some (.ins C dx fs) /\ Cls K C /\ zAc K C f /\ fs.length < 1000 /\
 D.nx σ (upd H2 a (.ins C dx (putF f y fs)))
section
variable {X:Cx} {o e value:Expr} {f:Str} {pos pos' tpos:Pos} {ta tv:TE}
theorem y2z (he:PE X e ta) (hb:attributeBase e f X.env (eval e X.env) = eval e X.env):PE X (.Attribute e f pos) (tFld X.K ta f):=by
 intro pins s σ H Q I h
 refine yEj hb (thn (he pins s σ H _ I h) fun u s1 ⟨x,H1,I1,rx,a,C,dx,fs,v,ex,ea,c,n,l,q⟩=>?_)
 subst ex
 obtain rfl:u = Value.ref a:=rx
 exact y4a I1 ea c n l fun u' s2 I2 ru=>⟨v,H1,I2,ru,q⟩
theorem yDu (ha:PE X o ta) (hv:PE X value tv) (hs:swapsWith value (some (.Attribute o f pos')) pos.line X.env = pure false):PS X (.Assign [.Attribute o f pos'] value pos) (sFld X.K ta tv f):=by
 intro pins s σ H D I h
 refine plainObj_wpAny_Assign_Attribute (thn (hv pins s σ H _ I h) fun u s1 ⟨y,H1,I1,ry,q⟩=>thn (ha pins s1 σ H1 _ I1 q) fun ov s2 ⟨x,H2,I2,rx,a,C,dx,fs,ex,ea,c,n,l,q2⟩=>?_) hs
 subst ex
 obtain rfl:ov = Value.ref a:=rx
 exact y5l I2 ea c n l ry fun s3 I3=>⟨σ,_,I3,q2⟩
end
section
variable {X:Cx} {pins:List (Addr × Obj)} {σ:St} {H:Hp} {s:Shared} {A:Around} {E:Value -> Shared -> Prop} {Q:Value -> Shared -> Prop} {c:Value} {b:Bool}
inductive TyOf (K:PySem.W.Frag) (H:Hp):V -> Value -> Prop where
 | non:TyOf K H .non (.type "NoneType")
 | bl (x:Bool):TyOf K H (.bl x) (.type "bool")
 | int (i:Int):TyOf K H (.int i) (.type "int")
 | str (x:Str):TyOf K H (.str x) (.type "str")
 | flt (x:UInt64):TyOf K H (.flt x) (.type "float")
 | lst {a:Addr} {xs:List V} (e:H a = some (.lst xs)):TyOf K H (.ref a) (.type "list")
 | frz {a:Addr} {o:Obj} {xs:List V} (e:H a = some (.frz o (.lst xs))):TyOf K H (.ref a) (.type "list")
 | tup {a:Addr} {xs:List V} (e:H a = some (.tup xs)):TyOf K H (.ref a) (.type "tuple")
 | dK {a:Addr} {kvs:List (Key × V)} (e:H a = some (.dK kvs)):TyOf K H (.ref a) (.type "dict")
 | dT {a:Addr} {kvs:List (List Key × V)} (e:H a = some (.dT kvs)):TyOf K H (.ref a) (.type "dict")
 | ins {a C dx:Addr} {fs:List (Str × V)} (e:H a = some (.ins C dx fs)) (cl:Cls K C) (ha:PySem.W.findIn K (.ref C) "__class__" = some (some (.builtin "object.__class__")))
   (hn:PySem.W.specialIn K (.builtin "object.__class__") "__get__" = some (some (.builtin "getset_descriptor.__get__"))) (htk:PySem.W.takesIn K (.builtin "object.__class__") = some true)
   (hm:PySem.W.mroIn K C (.type "object") = some true):TyOf K H (.ref a) (.ref C)
theorem y7i {x:V} {u t:Value} (I:Inv X pins σ H s) (rx:RelV x u) (ty:TyOf X.K H x t) (e:PySem.W.kitOne X.K t c = some b) (h:∀ tk,Q (.bool b) { s with toks:=tk }) :
  wpAny (model X.prog X.w) A (call (.builtin "isinstance") [u,c]) Q E s:=by
 cases ty with
 | non=>cases (show u = Value.none from rx); exact PySem.W.kia_one PySem.W.kitx_none I.kIn True.intro e (fun z=>nomatch z) h
 | bl y=>cases (show u = Value.bool y from rx); exact PySem.W.kia_one PySem.W.kitx_bool I.kIn True.intro e (fun z=>nomatch z) h
 | int i=>obtain ⟨t,q⟩:=(show ∃ t,u = Value.int i t from rx); cases q; exact PySem.W.kia_one PySem.W.kitx_int I.kIn True.intro e (fun z=>nomatch z) h
 | str y=>obtain ⟨t,q⟩:=(show ∃ t,u = Value.str y t from rx); cases q; exact PySem.W.kia_one PySem.W.kitx_str I.kIn True.intro e (fun z=>nomatch z) h
 | flt y=>obtain ⟨t,q⟩:=(show ∃ t,u = Value.float y t from rx); cases q; exact PySem.W.kia_one PySem.W.kitx_float I.kIn True.intro e (fun z=>nomatch z) h
 | @lst a xs ea =>
  cases (show u = Value.ref a from rx)
  obtain ⟨_,_,n,_,h1⟩:=(show z2n X.prog X.w H s.heap a (.lst xs) from I.hok a _ ea)
  exact PySem.W.kia_one PySem.W.kitx_list I.kIn ⟨_,h1,rfl⟩ e (fun z=>nomatch z) h
 | @frz a ob xs ea =>
  cases (show u = Value.ref a from rx)
  obtain ⟨_,_,_,n,_,h1⟩:=(show z2n X.prog X.w H s.heap a (.frz ob (.lst xs)) from I.hok a _ ea)
  exact PySem.W.kia_one PySem.W.kitx_list I.kIn ⟨_,h1,rfl⟩ e (fun z=>nomatch z) h
 | @tup a xs ea =>
  cases (show u = Value.ref a from rx)
  obtain ⟨_,_,_,p,_⟩:=(show z2n X.prog X.w H s.heap a (.tup xs) from I.hok a _ ea)
  obtain ⟨o,h1,h2,_⟩:=p
  exact PySem.W.kia_one PySem.W.kitx_tuple I.kIn ⟨o,h1,h2⟩ e (fun z=>nomatch z) h
 | @dK a kvs ea =>
  cases (show u = Value.ref a from rx)
  obtain ⟨_,_,vs,_,p⟩:=(show z2n X.prog X.w H s.heap a (.dK kvs) from I.hok a _ ea)
  obtain ⟨o,es,ep,h1,h2,_⟩:=p
  exact PySem.W.kia_one PySem.W.kitx_dict I.kIn ⟨o,h1,h2.1⟩ e (fun z=>nomatch z) h
 | @dT a kvs ea =>
  cases (show u = Value.ref a from rx)
  obtain ⟨_,_,xs,_,o,es,ep,h1,h2,_⟩:=(show z2n X.prog X.w H s.heap a (.dT kvs) from I.hok a _ ea)
  exact PySem.W.kia_one PySem.W.kitx_dict I.kIn ⟨o,h1,h2.1⟩ e (fun z=>nomatch z) h
 | @ins a C dx fs ea cl ha hn htk hm =>
  cases (show u = Value.ref a from rx)
  obtain ⟨mA,O,_⟩:=zBz I.hok ea
  obtain ⟨od,J,_⟩:=O.look
  exact PySem.W.kia_one (PySem.W.kitx_own (cl.get _) cl.hd ha hn htk hm) I.kIn J e (fun z=>nomatch z) h
end
end L2
namespace L2
open PySem PySem.Spec PyProof.Rows
structure Room (k:Nat) (A:Around) (cm:Bool:=true):Prop where
 hd:cm = true -> A.handled = none
 dp:A.depth + 3 * k + 5 < recursionLimit
 un:A.units + 16 * k + 200 < cLine
theorem Room.mono {j k:Nat} {A:Around} {cm:Bool} (r:Room k A cm) (h:j <= k):Room j A cm:=⟨r.hd,by have:=r.dp; omega,by have:=r.un; omega⟩
theorem Room.deeper {k:Nat} {A:Around} {cm:Bool} (r:Room (k + 1) A cm) (env:Env):Room k (A.deeper env) cm :=
 ⟨r.hd,by have:=r.dp; show A.depth + 1 + 3 * k + 5 < _; omega,by have:=r.un; show A.units + 3 + 16 * k + 200 < _; omega⟩
theorem y4j {A:Around} {C:Addr} {us:List Value} {kw:List (Str × Value)}:(A.under (.builtin "type.__call__" ⟨.ref C :: us,kw⟩)).depth = A.depth + 1:=by
 first | rfl | simp [Around.under,Code.weight,Code.isCreation,Code.isGuard,Code.isCaller,Code.frames,Code.isFrame,guardIds]
theorem y4k {A:Around} {C:Addr} {us:List Value} {kw:List (Str × Value)}:(A.under (.builtin "type.__call__" ⟨.ref C :: us,kw⟩)).units = A.units + 1:=by
 first | rfl | simp [Around.under,Code.cUnits,Code.frames,Code.isFrame]
theorem Room.make {k:Nat} {A:Around} {cm:Bool} (r:Room (k + 1) A cm) (C:Addr) (us:List Value) (kw:List (Str × Value)):Room k (A.under (.builtin "type.__call__" ⟨.ref C :: us,kw⟩)) cm :=
 ⟨r.hd,by have:=r.dp; rw [y4j]; omega,by have:=r.un; rw [y4k]; omega⟩
theorem Room.depth {k:Nat} {A:Around} {cm:Bool} (r:Room k A cm):A.depth < recursionLimit:=by have:=r.dp; omega
theorem Room.units {k:Nat} {A:Around} {cm:Bool} (r:Room k A cm):A.units + 64 < cLine:=by have:=r.un; omega
def tNil:TA:=fun _ H Q=>Q [] H
def k0i (ta:TE) (tr:TA):TA:=fun σ H Q=>ta σ H fun x H1=>tr σ H1 fun xs H2=>Q (x :: xs) H2
section
variable {X:Cx} {e:Expr} {es:List Expr} {te:TE} {t:TA} {pos:Pos}
theorem z0d:PA X [] tNil:=fun _ _ _ _ H Q I h=>Calls.spliced_nil ⟨[],H,I,.nil,h⟩
theorem z0a (ha:PE X e te) (hr:PA X es t) (hs:starEach (e :: es) X.env = (false,eval e X.env) :: starEach es X.env:=by rfl):PA X (e :: es) (k0i te t):=by
 intro pos pins s σ H Q I h
 rw [hs]
 show wpAny _ _ (spliced ((false,eval e X.env) :: backTo pos (starEach es X.env))) _ _ s
 refine Calls.spliced_cons (thn (ha pins s σ H _ I h) fun u s1 ⟨x,H1,I1,r1,q1⟩=>?_)
 exact thn (hr pos pins s1 σ H1 _ I1 q1) fun us s2 ⟨xs,H2,I2,r2,q2⟩=>⟨x :: xs,H2,I2,.cons r1 r2,q2⟩
def tTup (t:TA):TE:=fun σ H Q=>t σ H fun xs H1=>xs.length <= sizeLine /\ ∀ p,H1 p = none -> Q (.ref p) (upd H1 p (.tup xs))
def tLst (t:TA):TE:=fun σ H Q=>t σ H fun xs H1=>xs.length <= sizeLine /\ ∀ p,H1 p = none -> Q (.ref p) (upd H1 p (.lst xs))
theorem z3f {x1} (h:PA X es t):PE X (.Tuple es x1 pos) (tTup t):=by
 intro pins s σ H Q I hq
 refine wpAny_Tuple_spliced (thn (h pos pins s σ H _ I hq) fun us s1 ⟨xs,H1,I1,r,z,q⟩=>⟨by rw [<- r.length]; exact z,?_⟩)
 have hf:H1 s1.heap.objs.size = none:=I1.hok.fresh (Nat.le_refl _)
 refine ⟨.ref s1.heap.objs.size,upd H1 s1.heap.objs.size (.tup xs),I1.laid (t':=s1.toks) (fun b u e=>Heap.get?_push_of_some _ e) (Nat.le_refl _) ?_,rfl,q _ hf⟩
 exact ⟨z,us,r,⟨_,Heap.get?_push_size _ rfl,rfl,_,rfl⟩,z7w⟩
theorem z3r (h:PA X es t):PE X (.List es pos) (tLst t):=by
 intro pins s σ H Q I hq
 refine wpAny_List_spliced (thn (h pos pins s σ H _ I hq) fun us s1 ⟨xs,H1,I1,r,z,q⟩=>⟨by rw [<- r.length]; exact z,?_⟩)
 have hf:H1 s1.heap.objs.size = none:=I1.hok.fresh (Nat.le_refl _)
 refine ⟨.ref s1.heap.objs.size,upd H1 s1.heap.objs.size (.lst xs),I1.laid (t':=s1.toks) (fun b u e=>Heap.get?_push_of_some _ e) (Nat.le_refl _) ?_,rfl,q _ hf⟩
 exact ⟨z,us,0,r,Heap.get?_push_size _ rfl⟩
end
abbrev Sp:=List V -> Hp -> VK -> XK -> Prop
abbrev CXT:=List Env -> Hp -> Shared -> XK -> Value -> Shared -> Prop
structure Env0 (P:Program) (w:World) (K:PySem.W.Frag) (mg:Str -> Option Value) (base:Heap) (A:Around) (outer:List Env) (s:Shared) (H:Hp):Prop where
 frames:A.frames = some outer
 mod:Mod K mg base
 bs:∀ b o,base.get? b = some o -> s.heap.get? b = some o /\ H b = none
 bsz:base.objs.size <= s.heap.objs.size
 funs:s.heap.FunFrames base outer
 frf:∀ b ∈ frs outer,H b = none
 hok:HOk P w H s.heap
 bare:AllBare s.gens
def CE (outer:List Env) (P:Program) (w:World) (H:Hp) (s:Shared) (Q:VK) (u:Value) (s':Shared):Prop :=
 ∃ v H',s'.os = s.os /\ AllBare s'.gens /\ Un (frs outer) [] H H' s.heap s'.heap /\ HOk P w H' s'.heap /\ RelV v u /\ Q v H'
def CR (CX:CXT) (outer:List Env) (P:Program) (w:World) (H:Hp) (s:Shared) (Q:VK) (E:XK) (r:Result) (s':Shared):Prop :=
 match r with
 | .ok (.ret u)=>CE outer P w H s Q u s'
 | .ok _=>False
 | .error e=>CX outer H s E e s'
structure FnOk (P:Program) (w:World) (K:PySem.W.Frag) (mg:Str -> Option Value) (base:Heap) (CX:CXT) (k:Nat) (f:Addr) (fd:FuncData) (ps:List Str) (sp:Sp) (cm:Bool:=true):Prop where
 len:∀ vs H Q E,sp vs H Q E -> vs.length = ps.length
 run:∀ (A:Around) (outer:List Env) (s:Shared) (H:Hp) (args:Args) (us:List Value) (vs:List V) (Q:VK) (E:XK),Room k A cm -> Env0 P w K mg base A outer s H -> BindsTo s fd args (ps.zip us) -> Vals vs us -> sp vs H Q E ->
  codeAny (model P w) A (.call (.ref f) args) (CR CX outer P w H s Q E) s
theorem Env0.make {P:Program} {w:World} {K:PySem.W.Frag} {mg:Str -> Option Value} {base:Heap} {A:Around} {outer:List Env} {s:Shared} {H:Hp} (e:Env0 P w K mg base A outer s H) (C:Addr) (us:List Value) (kw:List (Str × Value)) :
  Env0 P w K mg base (A.under (.builtin "type.__call__" ⟨.ref C :: us,kw⟩)) outer s H:=⟨by first | exact e.frames | (simpa [Around.under,Code.envs,Code.isFrame,pushEnvs] using e.frames),e.mod,e.bs,e.bsz,e.funs,e.frf,e.hok,e.bare⟩
section
variable {X:Cx} {pins:List (Addr × Obj)} {σ:St} {H:Hp} {s s':Shared}
theorem Inv.env0 (I:Inv X pins σ H s):Env0 X.prog X.w X.K X.mg X.base X.A X.stack s H :=
 ⟨I.ok.frames,I.ok.mod,I.bs,Nat.le_trans I.ok.bsz I.sz,I.stack,I.stkFree,I.hok,I.bare⟩
theorem Inv.after {Q:VK} {u:Value} (I:Inv X pins σ H s) (h:CE X.stack X.prog X.w H s Q u s'):EP X pins σ Q u s':=by
 obtain ⟨v,H',os,bare,un,hok,r,q⟩:=h
 obtain ⟨hh,g,d,t,os'⟩:=s'
 obtain rfl:os' = s.os:=os
 exact ⟨v,H',I.call (h':=hh) (g':=g) (d':=d) (t':=t) (ch:=[]) un hok bare (fun b z=>absurd z (by simp)),r,q⟩
end
def k0h (sp:Sp) (dvs:List V) (E:XK) (t:TA):TE:=fun σ H Q=>t σ H fun vs H1=>sp (vs ++ dvs) H1 Q E
def k0l (C:Addr) (m:Str) (sp:Sp) (dvs:List V) (E:XK) (ta:TE) (t:TA):TE:=fun σ H Q=>ta σ H fun x H1=>∃ a dx fs,x = .ref a /\ H1 a = some (.ins C dx fs) /\ fs.lookup m = none /\
 t σ H1 fun vs H2=>sp (x :: (vs ++ dvs)) H2 Q E
def k0k (C:Addr) (sp:Sp) (dvs:List V) (E:XK) (t:TA):TE:=fun σ H Q=>t σ H fun vs H1=>∀ x dx,H1 x = none -> H1 dx = none -> dx ≠ x ->
 sp (.ref x :: (vs ++ dvs)) (upd (upd H1 dx (.own x)) x (.ins C dx [])) (fun v H2=>v = .non /\ Q (.ref x) H2) E
def z1k (K:PySem.W.Frag) (fd:FuncData) (ps:List Str) (ds:List Value):Prop :=
 ∀ (s:Shared) (us:List Value),K.In s.heap -> (us ++ ds).length = ps.length -> BindsTo s fd ⟨us,[]⟩ (ps.zip (us ++ ds))
theorem z1k.all {K:PySem.W.Frag} {fd:FuncData} {ps:List Str} (h:∀ us:List Value,us.length = ps.length -> bindArgs fd ⟨us,[]⟩ = pure (ps.zip us)):z1k K fd ps []:=fun s us _ hl=>by
 rw [List.append_nil] at hl ⊢
 exact .of_eq (h us hl)
def zEh (CX:CXT) (X:Cx) (E:XK):Prop:=∀ (pins:List (Addr × Obj)) (σ:St) (H:Hp) (s:Shared) (e:Value) (s':Shared),Inv X pins σ H s -> CX X.stack H s E e s' -> X.xe e s'
section
variable {cm:Bool} {X:Cx} {CX:CXT} {k:Nat} {f C:Addr} {fd:FuncData} {ps:List Str} {sp:Sp} {dvs:List V} {ds:List Value} {E:XK} {x m:Str} {p pos apos:Pos} {e o:Expr} {es:List Expr} {ta:TE} {t:TA}
theorem yEb {pins:List (Addr × Obj)} {σ:St} {H:Hp} {s:Shared} {Q:VK} {us:List Value} {vs:List V} (F:FnOk X.prog X.w X.K X.mg X.base CX k f fd ps sp cm) (hr:Room k X.A cm) (hb:z1k X.K fd ps ds) (hd:Vals dvs ds) (hx:zEh CX X E)
  (I:Inv X pins σ H s) (r:Vals vs us) (h:sp (vs ++ dvs) H Q E):wpAny (model X.prog X.w) X.A (call (.ref f) us) (EP X pins σ Q) X.xe s:=by
 have r2:Vals (vs ++ dvs) (us ++ ds):=r.append hd
 have hl:(us ++ ds).length = ps.length:=by rw [<- r2.length]; exact F.len _ _ _ _ h
 refine wpAny_call (codeAny_mono (F.run X.A X.stack s H ⟨us,[]⟩ (us ++ ds) (vs ++ dvs) Q E hr I.env0 (hb s us I.kIn hl) r2 h) fun r s' hq=>?_)
 cases r with
 | error e=>exact hx pins σ H s e s' I hq
 | ok fl =>
  cases fl with
  | ret u=>exact I.after hq
  | next=>exact False.elim hq
  | brk=>exact False.elim hq
  | cont=>exact False.elim hq
theorem z0j (F:FnOk X.prog X.w X.K X.mg X.base CX k f fd ps sp cm) (hr:Room k X.A cm) (hg:Gl X x) (hm:X.mg x = some (.ref f)) (hk:PySem.W.keepIn X.K (.ref f) = true) (hb:z1k X.K fd ps ds) (hd:Vals dvs ds) (hx:zEh CX X E)
  (ha:PA X (e :: es) t) (hdb:(x == ("__debug__" : Str)) = false:=by decide) (he:starEach (e :: es) X.env = (false,eval e X.env) :: starEach es X.env:=by rfl) (hpl:(backTo pos (starEach es X.env)).any (·.1) = false:=by rfl) :
  PE X (.Call (.Name x p) (e :: es) [] pos) (k0h sp dvs E t):=by
 intro pins s σ H Q I h
 refine wpAny_Call_Name_kw (y0x I hg hm ?_ hdb)
 refine PySem.W.callWith_K (h₀:=X.base) I.ok.mod.kin hk (thn (ha pos pins s σ H _ I h) fun us s1 ⟨vs,H1,I1,r,q⟩=>⟨I1.kIn,?_⟩) he hpl
 exact yEb F hr hb hd hx I1 r q
theorem z9d {pl:Sem Bool} (he:PE X o ta) (c:Cls X.K C) (hm:Meth X.K C m f) (F:FnOk X.prog X.w X.K X.mg X.base CX k f fd ps sp cm) (hr:Room k X.A cm) (hb:z1k X.K fd ps ds) (hd:Vals dvs ds) (hx:zEh CX X E)
  (ht:eval (.Call (.Attribute o m apos) [] [] pos) X.env = (do
   let ov <- eval o X.env
   standAt apos.atName
   let (f,first) <- holding [ov] (getMethod ov m pl)
   callWith pos f first (backTo pos (starEach [] X.env)) (backToKw pos (keywordEach [] X.env))):=by rfl) :
  PE X (.Call (.Attribute o m apos) [] [] pos) (k0l C m sp dvs E ta tNil):=by
 intro pins s σ H Q I h
 refine PySem.W.methodCall_KW (pl:=pl) (thn (he pins s σ H _ I h) fun u s1 ⟨x,H1,I1,rx,a,dx,fs,ex,ea,l,q⟩=>?_) ht
 subst ex
 obtain rfl:u = Value.ref a:=rx
 refine y4b I1 ea c hm l ?_
 exact PySem.W.callWith_K0 (first:=[.ref a]) I1.kIn hm.kp (yEb (us:=[.ref a]) (vs:=[.ref a]) F hr hb hd hx I1 (.cons rfl .nil) q)
structure Mk (K:PySem.W.Frag) (C f:Addr):Prop where
 makes:PySem.W.makesIn K C = true
 init:PySem.W.findIn K (.ref C) "__init__" = some (some (.ref f))
 fn:PySem.W.isFn K (.ref f) = true
 kp:PySem.W.keepIn K (.ref C) = true
theorem yCr {pins:List (Addr × Obj)} {σ:St} {H:Hp} {s:Shared} {Q:VK} {us:List Value} {vs:List V} (M:Mk X.K C f) (F:FnOk X.prog X.w X.K X.mg X.base CX k f fd ps sp cm) (hr:Room (k + 1) X.A cm) (hb:z1k X.K fd ps ds) (hd:Vals dvs ds)
  (hx:zEh CX X E) (I:Inv X pins σ H s) (r:Vals vs us)
  (h:∀ x dx,H x = none -> H dx = none -> dx ≠ x -> sp (.ref x :: (vs ++ dvs)) (upd (upd H dx (.own x)) x (.ins C dx [])) (fun v H2=>v = .non /\ Q (.ref x) H2) E) :
  wpAny (model X.prog X.w) X.A (call (.ref C) us) (EP X pins σ Q) X.xe s:=by
 have hq:=h (s.heap.objs.size + 1) s.heap.objs.size (I.hok.fresh (Nat.le_succ _)) (I.hok.fresh (Nat.le_refl _)) (Nat.ne_of_lt (Nat.lt_succ_self _))
 have I2:=Inv.made (C:=C) I
 have r2:Vals (V.ref (s.heap.objs.size + 1) :: (vs ++ dvs)) (Value.ref (s.heap.objs.size + 1) :: (us ++ ds)):=.cons rfl (r.append hd)
 have hl:(Value.ref (s.heap.objs.size + 1) :: us ++ ds).length = ps.length:=by
  have e:=r2.length
  rw [F.len _ _ _ _ hq] at e
  exact e.symm
 refine wpAny_call (yBv (f:=f) I.kIn M.makes M.init (beq_iff_eq.mp M.fn) (codeAny_mono (F.run _ X.stack _ _ ⟨Value.ref (s.heap.objs.size + 1) :: us,[]⟩ (Value.ref (s.heap.objs.size + 1) :: (us ++ ds)) _ _ E (hr.make C us [])
  (I2.env0.make C us []) (hb _ (Value.ref (s.heap.objs.size + 1) :: us) I2.kIn hl) r2 hq) fun r s' hq'=>?_))
 cases r with
 | error e=>exact hx pins σ _ _ e s' I2 hq'
 | ok fl =>
  cases fl with
  | ret u =>
   obtain ⟨v,H',I3,rv,ev,q3⟩:=I2.after hq'
   subst ev
   exact ⟨rv,⟨V.ref (s.heap.objs.size + 1),H',I3,rfl,q3⟩⟩
  | next=>exact False.elim hq'
  | brk=>exact False.elim hq'
  | cont=>exact False.elim hq'
theorem y8o (M:Mk X.K C f) (F:FnOk X.prog X.w X.K X.mg X.base CX k f fd ps sp cm) (hr:Room (k + 1) X.A cm) (hg:Gl X x) (hm:X.mg x = some (.ref C)) (hb:z1k X.K fd ps ds) (hd:Vals dvs ds) (hx:zEh CX X E)
  (ha:PA X (e :: es) t) (hdb:(x == ("__debug__" : Str)) = false:=by decide) (he:starEach (e :: es) X.env = (false,eval e X.env) :: starEach es X.env:=by rfl) (hpl:(backTo pos (starEach es X.env)).any (·.1) = false:=by rfl) :
  PE X (.Call (.Name x p) (e :: es) [] pos) (k0k C sp dvs E t):=by
 intro pins s σ H Q I h
 refine wpAny_Call_Name_kw (y0x I hg hm ?_ hdb)
 refine PySem.W.callWith_K (h₀:=X.base) I.ok.mod.kin M.kp (thn (ha pos pins s σ H _ I h) fun us s1 ⟨vs,H1,I1,r,q⟩=>⟨I1.kIn,?_⟩) he hpl
 exact yCr M F hr hb hd hx I1 r q
end
section
variable {cm:Bool} {X:Cx} {CX:CXT} {k:Nat} {f C:Addr} {fd:FuncData} {ps ks:List Str} {sp:Sp} {E:XK} {x m:Str} {p pos apos kpos:Pos} {e o:Expr} {es:List Expr} {kws:List Keyword} {te ta:TE} {t tk:TA} {nm:Option Str}
variable {g:List Value -> List Value -> List Value} {gV:List V -> List V -> List V}
end
structure FnScope (N P:List Str) (sc:Scope):Prop where
 kind:sc.kind = .function
 co:sc.isCoroutine = false
 gen:sc.isGenerator = false
 nd:N.Nodup
 pre:N.take P.length = P
 par:∀ x ∈ P,sc.names.lookup x = some .local \/ sc.names.lookup x = some .cell
 nofree:∀ y ∈ sc.names,y.2 ≠ .free
theorem zHn {kindOf:Str -> Option NameKind} {x:Str}:∀ {binds:List (Str × Value)} {m:Str -> Option Value},(∀ v,(x,v) ∉ binds) -> bindL kindOf binds m x = m x
 | [],_,_=>rfl
 | (n,v) :: r,m,h=>by
  unfold bindL
  rw [zHn fun w hw=>h w (List.mem_cons_of_mem _ hw)]
  split
  ·have:x ≠ n:=by rintro rfl; exact h v List.mem_cons_self
   simp [this]
  ·rfl
theorem zHl {kindOf:Str -> Option NameKind} {x:Str}:∀ {binds:List (Str × Value)} {m:Str -> Option Value},(∀ v,(x,v) ∉ binds) -> bindC kindOf binds m x = m x
 | [],_,_=>rfl
 | (n,v) :: r,m,h=>by
  unfold bindC
  rw [zHl fun w hw=>h w (List.mem_cons_of_mem _ hw)]
  split
  ·rfl
  ·have:x ≠ n:=by rintro rfl; exact h v List.mem_cons_self
   simp [this]
theorem zHm {kindOf:Str -> Option NameKind} {x:Str} {v:Value}:∀ {P:List Str} {vs:List Value} {i:Nat} {m:Str -> Option Value},P.Nodup -> P[i]? = some x -> vs[i]? = some v -> kindOf x = some .local ->
  bindL kindOf (P.zip vs) m x = some v
 | [],_,_,_,_,h,_,_=>by simp at h
 | _ :: _,[],_,_,_,_,h,_=>by simp at h
 | p :: P,w :: vs,0,m,nd,h1,h2,hk=>by
  simp at h1 h2; subst h1; subst h2
  show bindL kindOf ((p,w) :: P.zip vs) m p = _
  unfold bindL
  rw [zHn fun v hv=>(List.nodup_cons.mp nd).1 (List.of_mem_zip hv).1,if_pos hk]
  simp
 | p :: P,w :: vs,i + 1,m,nd,h1,h2,hk=>by
  show bindL kindOf ((p,w) :: P.zip vs) m x = _
  unfold bindL
  exact zHm (i:=i) (List.nodup_cons.mp nd).2 (by simpa using h1) (by simpa using h2) hk
theorem zHk {kindOf:Str -> Option NameKind} {x:Str} {v:Value}:∀ {P:List Str} {vs:List Value} {i:Nat} {m:Str -> Option Value},P.Nodup -> P[i]? = some x -> vs[i]? = some v -> kindOf x ≠ some .local ->
  bindC kindOf (P.zip vs) m x = some v
 | [],_,_,_,_,h,_,_=>by simp at h
 | _ :: _,[],_,_,_,_,h,_=>by simp at h
 | p :: P,w :: vs,0,m,nd,h1,h2,hk=>by
  simp at h1 h2; subst h1; subst h2
  show bindC kindOf ((p,w) :: P.zip vs) m p = _
  unfold bindC
  rw [zHl fun v hv=>(List.nodup_cons.mp nd).1 (List.of_mem_zip hv).1,if_neg hk]
  simp
 | p :: P,w :: vs,i + 1,m,nd,h1,h2,hk=>by
  show bindC kindOf ((p,w) :: P.zip vs) m x = _
  unfold bindC
  exact zHk (i:=i) (List.nodup_cons.mp nd).2 (by simpa using h1) (by simpa using h2) hk
def zJz (N:List Str) (vs:List V):St:=vs.map some ++ List.replicate (N.length - vs.length) none
def cxOf (CX:CXT) (P:Program) (w:World) (K:PySem.W.Frag) (mg:Str -> Option Value) (base:Heap) (N:List Str) (qual:Str) (scope:Scope) (f:Addr) (cd:Value) (A:Around) (outer:List Env) (s:Shared) (H:Hp) (E:XK) (cm:Bool:=true):Cx where
 prog:=P
 w:=w
 K:=K
 mg:=mg
 base:=base
 A:=A.deeper (envOfC qual scope s.heap.objs.size f cd)
 N:=N
 s₀:=s
 H₀:=H
 env:=envOfC qual scope s.heap.objs.size f cd
 outer:=outer
 stack:=envOfC qual scope s.heap.objs.size f cd :: outer
 ex:=[]
 calm:=cm
 fn:=fun _=>true
 pn:=[]
 xe:=fun e s'=>wpAny (model P w) (A.deeper (envOfC qual scope s.heap.objs.size f cd)) (leaving (envOfC qual scope s.heap.objs.size f cd) e) (fun _ s''=>CX outer H s E e s'') (fun e' s''=>CX outer H s E e' s'') s'
theorem y1x {sc:Scope} {n:Nat} {x:Str} (h:sc.names.lookup x = some .cell):∃ c,(cellsFrom n sc.names []).lookup x = some c:=by
 have q:=PySem.W.cellsFrom_some sc.names n [] (.inl h)
 exact Option.isSome_iff_exists.mp q
theorem y7f {CX:CXT} {P:Program} {w:World} {K:PySem.W.Frag} {mg:Str -> Option Value} {base:Heap} {N ps:List Str} {qual:Str} {scope:Scope} {f:Addr} {cd:Value} {A:Around} {outer:List Env} {s s1:Shared} {H:Hp} {E:XK} {cm:Bool} {us:List Value} {vs:List V}
  (S:FnScope N ps scope) (hd:cm = true -> A.handled = none) (e0:Env0 P w K mg base A outer s H) (hl:vs.length = ps.length) (r:Vals vs us)
  (x:InCallC s s.heap.objs.size (bindL (envOfC qual scope s.heap.objs.size f cd).kindOf (ps.zip us) fun _=>none) (cellsFrom (s.heap.objs.size + 1) scope.names []) (bindC (envOfC qual scope s.heap.objs.size f cd).kindOf (ps.zip us) fun _=>none) s1) :
  Inv (cxOf CX P w K mg base N qual scope f cd A outer s H E cm) [] (zJz N vs) H s1:=by
 have hpl:ps.length <= N.length:=by have:=congrArg List.length S.pre; rw [List.length_take] at this; omega
 obtain ⟨h1,tk,rfl,hk⟩:=x.done
 have noA:∀ b:Addr,b ∉ (cxOf CX P w K mg base N qual scope f cd A outer s H E cm).ex:=fun b z=>absurd (show b ∈ ([]:List Addr) from z) (by simp)
 refine ⟨⟨e0.mod,S.kind,rfl,rfl,Nat.le_refl _,fun y z c h1 h2=>?_,fun y hy=>?_,fun y c _ h=>?_,hd,Around.frames_deeper e0.frames,.inr ⟨rfl,rfl⟩,fun b z=>absurd z (noA b),e0.bs,e0.bsz,fun b _ _=>noA b,fun b z=>absurd z (noA b),e0.funs,e0.frf⟩,
  rfl,e0.bare,Un.kept hk,⟨_,x.toInCall.ns,fun i y v h1 h2 h3=>?_⟩,fun y c h=>⟨_,x.cell y c h⟩,e0.hok.fresh (Nat.le_refl _),fun y c h=>?_,fun p hp=>absurd (show p ∈ ([]:List (Addr × Obj)) from hp) (by simp),e0.hok.kept hk,?_⟩
 ·exact name_of_addr x.apart (PySem.mem_of_lookup h1) (PySem.mem_of_lookup h2)
 ·have hy:scope.names.lookup y = some .cell \/ scope.names.lookup y = some .free:=hy
  rcases hy with hy | hy
  ·exact y1x hy
  ·exact absurd rfl (S.nofree _ (PySem.mem_of_lookup hy))
 ·exact Nat.le_of_lt (x.above y c (PySem.mem_of_lookup h))
 ·have hi:i < vs.length:=by
   unfold zJz at h2
   by_cases hi:i < vs.length
   ·exact hi
   ·rw [List.getElem?_append_right (by simpa using hi)] at h2
    rw [List.getElem?_replicate] at h2
    split at h2 <;> cases h2
  have ha:vs[i]? = some v:=by
   unfold zJz at h2
   rw [List.getElem?_append_left (by simpa using hi),List.getElem?_map] at h2
   cases e:vs[i]? with
   | none=>rw [e] at h2; cases h2
   | some a=>rw [e] at h2; cases h2; rfl
  obtain ⟨u,hu,rv⟩:=r.get ha
  have hp:ps[i]? = some y:=by
   rw [<- S.pre,List.getElem?_take_of_lt (by omega)]; exact h1
  have ndP:ps.Nodup:=by rw [<- S.pre]; exact S.nd.sublist (List.take_sublist _ _)
  refine ⟨u,rv,?_⟩
  rcases S.par y (List.mem_of_getElem? hp) with k | k
  ·exact .inl ⟨k,zHm ndP hp hu k⟩
  ·obtain ⟨c,e⟩:=y1x (n:=s.heap.objs.size + 1) k
   refine .inr ⟨.inl k,c,e,?_⟩
   have q:=x.cell y c e
   rw [zHk ndP hp hu (by show scope.names.lookup y ≠ _; rw [k]; decide)] at q
   exact q
 ·exact e0.hok.fresh (Nat.le_of_lt (x.above y c (PySem.mem_of_lookup h)))
 ·unfold zJz
  show _ = N.length
  rw [List.length_append,List.length_map,List.length_replicate]
  omega
theorem yJh {CX:CXT} {P:Program} {w:World} {K:PySem.W.Frag} {mg:Str -> Option Value} {base:Heap} {k:Nat} {f:Addr} {name qual:Str} {params:Arguments} {body:List Stmt} {scope:Scope} {dV kV doc pm cdv ct oc:Value} {an od:Option Addr}
  {osl:Array (Option Value)} {N ps:List Str} {sp:Sp} {cm:Bool} (lk:K.lookup f = some ⟨oc,od,.func (PySem.W.fnOf name qual params body scope dV kV doc pm an cdv ct),osl⟩) (hcd:PySem.W.codeIn K cdv qual = true) (S:FnScope N ps scope)
  (len:∀ vs H Q E,sp vs H Q E -> vs.length = ps.length)
  (hbody:∀ (A:Around) (outer:List Env) (s:Shared) (H:Hp) (vs:List V) (Q:VK) (E:XK),Room k (A.deeper (envOfC qual scope s.heap.objs.size f cdv)) cm -> sp vs H Q E ->
   ∃ t,PSs (cxOf CX P w K mg base N qual scope f cdv A outer s H E cm) body t /\ t { nx:=fun _ H'=>Q .non H',rt:=Q } (zJz N vs) H) :
  FnOk P w K mg base CX (k + 1) f (PySem.W.fnOf name qual params body scope dV kV doc pm an cdv ct) ps sp cm:=by
 refine ⟨len,fun A outer s H args us vs Q E hr e0 hb r hsp=>?_⟩
 have hl:=len _ _ _ _ hsp
 have KX:K.In s.heap:=e0.mod.kin.keeps fun b o e=>(e0.bs b o e).1
 have lim:s.heap.NoLimit:=e0.mod.nolimit.keeps fun b o e=>(e0.bs b o e).1
 have hkind:∀ y ∈ ps.zip us,scope.names.lookup y.1 = some .local \/ (scope.names.lookup y.1 = some .cell /\ ((cellsFrom (s.heap.objs.size + 1) scope.names []).lookup y.1).isSome = true):=fun ⟨n,v⟩ hy=>by
  rcases S.par n (List.of_mem_zip hy).1 with q | q
  ·exact .inl q
  ·exact .inr ⟨q,PySem.W.cellsFrom_some _ _ _ (.inl q)⟩
 refine codeAny_call_function hr.depth (KX _ _ lk) rfl S.co S.gen rfl (PySem.W.codeRec_of KX hcd) (hb _ _ _ _ ?_)
 refine wpAny_newFunctionEnv_cells S.kind hkind fun env he s1 x=>?_
 subst he
 refine ⟨lim.keeps x.toInCall.keep,codeAny_func ?_⟩
 obtain ⟨t,ht,hq⟩:=hbody A outer s H vs Q E (hr.deeper _) hsp
 have I:Inv (cxOf CX P w K mg base N qual scope f cdv A outer s H E cm) [] (zJz N vs) H s1:=y7f S hr.hd e0 hl r x
 refine wpAny_mono (ht [] s1 (zJz N vs) H _ I hq) (fun fl s' hs=>?_) fun e s' hs=>hs
 have fin:∀ {σ':St} {H':Hp} {v:V} {u:Value},Inv (cxOf CX P w K mg base N qual scope f cdv A outer s H E cm) [] σ' H' s' -> RelV v u -> Q v H' -> CE outer P w H s Q u s' :=
  fun {σ' H' v u} J rv q=>⟨v,H',J.os,J.bare,J.base,J.hok,rv,q⟩
 cases fl with
 | ret u =>
  obtain ⟨v,σ',H',J,rv,q⟩:=hs
  exact fin J rv q
 | next =>
  obtain ⟨σ',H',J,q⟩:=hs
  exact fin (v:=V.non) (u:=Value.none) J rfl q
 | brk =>
  obtain ⟨_,_,_,q⟩:=hs
  exact False.elim q
 | cont =>
  obtain ⟨_,_,_,q⟩:=hs
  exact False.elim q
end L2
namespace L2
open PySem PySem.Spec PyProof.Rows
section
variable {X:Cx} {x:Str} {p pos:Pos} {e:Expr} {es:List Expr} {t:TA} {id T:String} {r:List V -> Hp -> VK -> Prop}
def tCB (r:List V -> Hp -> VK -> Prop) (t:TA):TE:=fun σ H Q=>t σ H fun vs H1=>r vs H1 Q
theorem z0o (hc:z6e X (.builtin id) r) (hg:Gl X x) (hm:X.mg x = none) (hv:bootBuiltins x = some (.builtin id)) (ha:PA X (e :: es) t) (hn:x ≠ "__name__" := by decide) (hdb:(x == ("__debug__" : Str)) = false:=by decide)
  (he:starEach (e :: es) X.env = (false,eval e X.env) :: starEach es X.env:=by rfl) (hpl:(backTo pos (starEach es X.env)).any (·.1) = false:=by rfl):PE X (.Call (.Name x p) (e :: es) [] pos) (tCB r t):=by
 intro pins s σ H Q I h
 refine wpAny_Call_Name_kw (z6n I hg hm hv ?_ hn hdb)
 exact PyProof.Rows.callWith_builtin1 (thn (ha pos pins s σ H _ I h) fun us s1 ⟨vs,H1,I1,r1,q1⟩=>hc pins s1 σ H1 vs us Q I1 r1 q1) he hpl
theorem z5r (hc:z6e X (.type T) r) (hg:Gl X x) (hm:X.mg x = none) (hv:bootBuiltins x = some (.type T)) (ha:PA X (e :: es) t) (hn:x ≠ "__name__" := by decide) (hdb:(x == ("__debug__" : Str)) = false:=by decide)
  (he:starEach (e :: es) X.env = (false,eval e X.env) :: starEach es X.env:=by rfl) (hpl:(backTo pos (starEach es X.env)).any (·.1) = false:=by rfl):PE X (.Call (.Name x p) (e :: es) [] pos) (tCB r t):=by
 intro pins s σ H Q I h
 refine wpAny_Call_Name_kw (z6n I hg hm hv ?_ hn hdb)
 exact PyProof.Rows.callWith_type1 (thn (ha pos pins s σ H _ I h) fun us s1 ⟨vs,H1,I1,r1,q1⟩=>hc pins s1 σ H1 vs us Q I1 r1 q1) he hpl
end
end L2
namespace HT
open PySem PyProof.Rows
def lexLt:List Int -> List Int -> Bool
 | [],[]=>false
 | [],_ :: _=>true
 | _ :: _,[]=>false
 | x :: xs,y :: ys=>if x = y then lexLt xs ys else decide (x < y)
theorem lexLt_cons (x y:Int) (xs ys:List Int):lexLt (x :: xs) (y :: ys) = if x = y then lexLt xs ys else decide (x < y):=rfl
theorem zFt:lexLt [] [] = false:=rfl
theorem zDt (y:Int) (ys:List Int):lexLt [] (y :: ys) = true:=rfl
theorem zDs (x:Int) (xs:List Int):lexLt (x :: xs) [] = false:=rfl
theorem yBi (A:Around) (s:Shared) (a:Int) (t:Tok) (c:Int) (u:Tok):∃ e,SeqAt.EqAt A s (.int a t) (.int c u) e /\ (e = true ↔ a = c) :=
 ⟨(a == c),SeqAt.EqAt.int_int a t c u,by simp⟩
theorem rcLt_int (A:Around) (s:Shared) (a:Int) (t:Tok) (c:Int) (u:Tok) (prog:Program) (w:World) (E:Value -> Shared -> Prop) (Q:Value -> Shared -> Prop) (h:Q (.bool (decide (a < c))) s) :
  wpAny (model prog w) A (richCompare .Lt (.int a t) (.int c u)) Q E s :=
 (PyProof.Rows.lt_int h:wpAny (model prog w) A (compareOp .Lt (.int a t) (.int c u)) Q E s)
section
open PySem.SeqAt
open PySem.AutoSeq1 (wpAny_loadPart')
open PySem.MeetsSeq PySem.MeetsSeq2 PySem.MeetsSeq3
theorem zHb (l b:Addr) (items items2:Array Value) (n n2:Nat) (dd dd2:Option Addr) (sl sl2:Array (Option Value)) (ns ms:List Int) (hi:IntsAre items.toList ns) (hj:IntsAre items2.toList ms) :
  Meets (Builtin.«tuple.__lt__» ⟨[.ref l,.ref b],[]⟩)
   (fun _ R s=>s.heap.get? l = some { cls:=.type "tuple",dict:=dd,data:=.seq items n,slots:=sl } /\ s.heap.get? b = some { cls:=.type "tuple",dict:=dd2,data:=.seq items2 n2,slots:=sl2 } /\
    R (.ok (.ret (.bool (lexLt ns ms)))) s) :=
 .of_wp fun prog w A R s h=>by
  obtain ⟨hp,g,d,tk,os⟩:=s; obtain ⟨hl,hb,h⟩:=h
  have f2:=AutoSeq1.sub_tuple_tuple
  have z1:items.size = ns.length:=by rw [<- hi.length]; simp
  have z2:items2.size = ms.length:=by rw [<- hj.length]; simp
  wp_walk using wpAny_loadPart' hl,wpAny_loadPart' hb,wpAny_forIn_list _ (fun rest b s'=>b.1 = none /\ s' = ⟨hp,g,d,tk,os⟩ /\ ∃ (vs ws:List Value) (ns' ms':List Int),rest = vs.zip ws /\
   IntsAre vs ns' /\ IntsAre ws ms' /\ ns'.length + items2.size = ms'.length + items.size /\ R (.ok (.ret (.bool (lexLt ns' ms')))) ⟨hp,g,d,tk,os⟩) _
  case turn =>
   rintro ⟨y,x⟩ rest b s' ⟨hb',rfl,vs,ws,ns',ms',hz,hvi,hwi,hlen,hR⟩
   cases hvi with
   | nil=>rw [List.zip_nil_left] at hz; cases hz
   | cons a t hvi' =>
    cases hwi with
    | nil=>rw [List.zip_nil_right] at hz; cases hz
    | cons c u hwi' =>
     rw [List.zip_cons_cons] at hz
     injection hz with hyx hrest
     injection hyx with hy hx
     subst hy hx
     rw [lexLt_cons] at hR
     simp only [List.length_cons] at hlen
     obtain ⟨e,he,hiff⟩:=yBi A.in1 ⟨hp,g,d,tk,os⟩ a t c u
     refine wpAny_bind (he prog w _ _ ?_)
     cases e with
     | true =>
      rw [if_pos (hiff.mp rfl)] at hR
      wp_walk
      exact ⟨rfl,rfl,_,_,_,_,hrest,hvi',hwi',by omega,hR⟩
     | false =>
      rw [if_neg (fun q=>absurd (hiff.mpr q) Bool.false_ne_true)] at hR
      have hri:=rcLt_int A.in1 ⟨hp,g,d,tk,os⟩ a t c u prog w
      wp_walk using hri
      exact ⟨_,rfl,by simpa using hR⟩
  case fin =>
   rintro ⟨b1,b2⟩ s' ⟨hb',rfl,vs,ws,ns',ms',hz,hvi,hwi,hlen,hR⟩
   simp only at hb'
   subst hb'
   have hv:lexLt ns' ms' = decide (items.size < items2.size):=by
    cases hvi with
    | nil =>
     cases hwi with
     | nil =>
      simp only [List.length_nil] at hlen
      rw [zFt]
      exact (decide_eq_false (by omega)).symm
     | cons c u hw =>
      simp only [List.length_nil,List.length_cons] at hlen
      rw [zDt]
      exact (decide_eq_true (by omega)).symm
    | cons a t hv =>
     cases hwi with
     | nil =>
      simp only [List.length_nil,List.length_cons] at hlen
      rw [zDs]
      exact (decide_eq_false (by omega)).symm
     | cons c u hw =>
      rw [List.zip_cons_cons] at hz
      cases hz
   rw [hv] at hR
   wp_walk
   exact ⟨_,rfl,by simpa [Builtin.Tuple.tupleCompareSizes] using hR⟩
  case h =>
   exact ⟨rfl,rfl,items.toList,items2.toList,ns,ms,rfl,hi,hj,by omega,h⟩
end
section
variable {prog:Program} {w:World} {A:Around} {E:Value -> Shared -> Prop} {s:Shared}
theorem lt_tupInts {l b:Addr} {items items2:Array Value} {ns ms:List Int} {Q:Value -> Shared -> Prop} (hl:IsTup s.heap l items) (hb:IsTup s.heap b items2) (hi:IntsAre items.toList ns) (hj:IntsAre items2.toList ms)
  (hu:A.units < cLine) (h:Q (.bool (lexLt ns ms)) s):wpAny (model prog w) A (compareOp .Lt (.ref l) (.ref b)) Q E s:=by
 obtain ⟨⟨cls,dd,data,sl⟩,ho,hc,n,hd⟩:=id hl
 obtain ⟨⟨cls2,dd2,data2,sl2⟩,ho2,hc2,n2,hd2⟩:=id hb
 simp only at hc hd hc2 hd2
 subst hc hd hc2 hd2
 exact richCompare_meets_room (op:=.Lt) ⟨_,ho,rfl⟩ ⟨_,ho2,rfl⟩ PySem.F.slot_tuple_lt PySem.F.entry_tuple_lt (PySem.F.args_tuple_lt_2 _ _) (zHb l b items items2 n n2 dd dd2 sl sl2 ns ms hi hj)
  ⟨ho,ho2,show Value.bool (lexLt ns ms) ≠ Value.notImplemented /\ Q (.bool (lexLt ns ms)) s from ⟨(fun x=>nomatch x),h⟩⟩ hu
theorem cat_tup {t b:Addr} {vs ws:List Value} {Q:Value -> Shared -> Prop} (ht:IsTup s.heap t vs.toArray) (hb:IsTup s.heap b ws.toArray) (hv:vs ≠ [])
  (h1:ws = [] -> Q (.ref t) s) (h2:ws ≠ [] -> Q (.ref s.heap.objs.size) { s with heap:=s.heap.push { cls:=.type "tuple",data:=.seq (vs ++ ws).toArray } })
  (hsz:vs.length + ws.length <= sizeLine):wpAny (model prog w) A (binaryOp .Add (.ref t) (.ref b)) Q E s:=by
 obtain ⟨⟨cls,dd,data,sl⟩,ho,hc,n,hd⟩:=id ht
 obtain ⟨⟨cls2,dd2,data2,sl2⟩,ho2,hc2,n2,hd2⟩:=id hb
 simp only at hc hd hc2 hd2
 subst hc hd hc2 hd2
 have e:vs.toArray ++ ws.toArray = (vs ++ ws).toArray:=by simp
 by_cases hw:ws = []
 ·exact concat_meets ⟨_,ho,rfl⟩ ⟨_,ho2,rfl⟩ noFill_tuple_add seq_tuple_add PySem.F.slot_tuple_add PySem.F.entry_tuple_add (PySem.F.args_tuple_add_2 _ _)
   (tuple_addW1 t b vs.toArray ws.toArray n n2 dd dd2 sl sl2 (by simpa using hv) (by simp [hw])) ⟨ho,ho2,h1 hw⟩
 ·refine concat_meets ⟨_,ho,rfl⟩ ⟨_,ho2,rfl⟩ noFill_tuple_add seq_tuple_add PySem.F.slot_tuple_add PySem.F.entry_tuple_add (PySem.F.args_tuple_add_2 _ _)
   (tuple_addW2 t b vs.toArray ws.toArray n n2 dd dd2 sl sl2 (by simpa using hv) (by simpa using hw) (by rw [List.size_toArray,List.size_toArray]; exact hsz)) ⟨ho,ho2,?_⟩
  rw [e]
  exact h2 hw
def sIx (n d:Nat):Option Int -> Nat
 | none=>d
 | some v=>if v < 0 then (v + (n:Int)).toNat else min v.toNat n
theorem sIx_none (n d:Nat):sIx n d none = d:=rfl
theorem sIx_nat (n d k:Nat):sIx n d (some (k:Int)) = min k n:=by
 show (if (k:Int) < 0 then ((k:Int) + (n:Int)).toNat else min (k:Int).toNat n) = min k n
 rw [if_neg (by omega),Int.toNat_natCast]
theorem yIk (n d:Nat) (hd:d <= n) (o:Option Int):sIx n d o <= n:=by
 cases o with
 | none=>exact hd
 | some v =>
  show (if v < 0 then (v + (n:Int)).toNat else min v.toNat n) <= n
  by_cases hv:v < 0
  ·rw [if_pos hv]; omega
  ·rw [if_neg hv]; exact Nat.min_le_right _ _
theorem y6k (v:Int) (n d:Nat):(if v < 0 then max (v + (n:Int)) 0 else min v (n:Int)) = ((sIx n d (some v):Nat):Int):=by
 show (if v < 0 then max (v + (n:Int)) 0 else min v (n:Int)) = (((if v < 0 then (v + (n:Int)).toNat else min v.toNat n):Nat):Int)
 by_cases hv:v < 0
 ·simp only [if_pos hv]; omega
 ·simp only [if_neg hv]; omega
theorem y3t (lo hi:Option Int) (n:Nat):Builtin.Slice.sliceAdjust lo hi 1 (n:Int) = (((sIx n 0 lo:Nat):Int),((sIx n n hi:Nat):Int)):=by
 have h1:¬ ((1:Int) < 0):=by omega
 unfold Builtin.Slice.sliceAdjust
 simp only [h1,if_false]
 refine Prod.ext ?_ ?_
 ·cases lo with
  | none=>rfl
  | some v=>exact y6k v n 0
 ·cases hi with
  | none=>rfl
  | some v=>exact y6k v n n
theorem y5c (i j:Nat):Builtin.Slice.slicePlaces (i:Int) (j:Int) 1 = j - i:=by
 unfold Builtin.Slice.slicePlaces
 have h1:(1:Int) > 0:=by omega
 simp only [h1,if_true,Int.ediv_one]
 split <;> omega
theorem zFh {v:Value} {o:Option Int} {Q:Option Int -> Shared -> Prop} (p:IsPart v o) (h:Q o s):wpAny (model prog w) A (Builtin.Slice.slicePartIndex v) Q E s:=by
 cases p with
 | none=>exact slicePart_none h
 | int i t=>exact slicePart_int h
theorem z6y {sl:Addr} {vl vu:Value} {lo hi:Option Int} {n:Nat} {Q:Int × Int × Nat -> Shared -> Prop} (hs:s.heap.IsSliceOf sl vl vu .none) (pl:IsPart vl lo) (pu:IsPart vu hi)
  (h:Q (((sIx n 0 lo:Nat):Int),1,sIx n n hi - sIx n 0 lo) s):wpAny (model prog w) A (Builtin.Slice.sliceApplied (.ref sl) (pure (n:Int))) Q E s:=by
 obtain ⟨os,hos,hcs,hds⟩:=id hs
 unfold Builtin.Slice.sliceApplied Builtin.Slice.sliceFields
 refine wpAny_bind (wpAny_bind (wpAny_field hos hds (x:=vl) rfl (wpAny_bind (wpAny_field hos hds (x:=vu) rfl (wpAny_bind (wpAny_field hos hds (x:=.none) rfl (wpAny_pure ?_)))))))
 refine wpAny_bind (slicePart_none ?_)
 show wpAny _ _ (if ((1:Int) == 0) = true then _ else _) _ _ s
 rw [if_neg (by decide)]
 refine wpAny_bind (zFh pl (wpAny_bind (zFh pu (wpAny_bind (wpAny_pure ?_)))))
 show wpAny _ _ (match Builtin.Slice.sliceAdjust lo hi 1 (n:Int) with | (lo,hi)=>pure (lo,(1:Int),Builtin.Slice.slicePlaces lo hi 1)) _ _ s
 rw [y3t lo hi n]
 show wpAny _ _ (pure (((sIx n 0 lo:Nat):Int),(1:Int),Builtin.Slice.slicePlaces ((sIx n 0 lo:Nat):Int) ((sIx n n hi:Nat):Int) 1)) _ _ s
 rw [y5c]
 exact wpAny_pure h
theorem yCm (xs:Array Value) (i k:Nat):((List.range k).filterMap fun (m:Nat)=>xs[((i:Int) + (m:Int) * 1).toNat]?).toArray = ((xs.toList.drop i).take k).toArray:=by
 have e:(fun (m:Nat)=>xs[((i:Int) + (m:Int) * 1).toNat]?) = fun m=>xs[i + m]?:=by
  funext m
  have:((i:Int) + (m:Int) * 1).toNat = i + m:=by omega
  rw [this]
 rw [e]
 have:=pick_run xs i k
 rw [List.filterMap_map] at this
 have e2:((fun x=>xs[x]?) ∘ fun x=>i + x) = fun m=>xs[i + m]?:=rfl
 rw [e2] at this
 rw [this]
theorem getItem_tuple_cut {t sl:Addr} {items:Array Value} {vl vu:Value} {lo hi:Option Int} {Q:Value -> Shared -> Prop} (ht:IsTup s.heap t items) (hs:s.heap.IsSliceOf sl vl vu .none) (pl:IsPart vl lo) (pu:IsPart vu hi)
  (hw:¬ (sIx items.size 0 lo = 0 /\ sIx items.size items.size hi = items.size))
  (h:Q (.ref s.heap.objs.size) { s with heap:=s.heap.push { cls:=.type "tuple",data:=.seq ((items.toList.drop (sIx items.size 0 lo)).take (sIx items.size items.size hi - sIx items.size 0 lo)).toArray } })
  (hsz:items.size <= sizeLine):wpAny (model prog w) A (getItem (.ref t) (.ref sl)) Q E s:=by
 have htake:sizeOk (.seq ((items.toList.drop (sIx items.size 0 lo)).take (sIx items.size items.size hi - sIx items.size 0 lo)).toArray):=by
  show ((items.toList.drop (sIx items.size 0 lo)).take (sIx items.size items.size hi - sIx items.size 0 lo)).toArray.size <= sizeLine
  rw [List.size_toArray,List.length_take,List.length_drop,Array.length_toList]
  omega
 have hj:sIx items.size items.size hi <= items.size:=yIk _ _ (Nat.le_refl _) hi
 obtain ⟨os,hos,hcs,hds⟩:=id hs
 have hTs:s.TypeIs (.ref sl) "slice" := ⟨os,hos,hcs⟩
 unfold getItem
 try with_reducible refine wpAny_holding ?_
 first | refine wpAny_bind (wpAny_pure ?_) | skip
 refine wpAny_bind (wpAny_sequenceKey ht.typeIs (by decide) ?_)
 refine wpAny_bind (wpAny_callSpecial?_slot (name:=Str.ofString "__getitem__") ht.typeIs PyProof.Rows.slot_tuple_getitem
  (wpAny_call_entry PyProof.Rows.slot_tuple_getitem ht.typeIs entry_tuple_getitem ?_ (args_tuple_getitem _ _)))
 show wpAny _ _ (Builtin.Tuple.tupleItemsOf (.ref t) >>= _) _ _ s
 refine wpAny_bind (tupleItemsOf_ ht ?_)
 refine wpAny_bind (wpAny_typeOf hTs ?_)
 rw [if_pos (by decide)]
 refine wpAny_bind (z6y hs pl pu ?_)
 have hno:¬ ((((sIx items.size 0 lo:Nat):Int) == 0 && (1:Int) == 1 && (sIx items.size items.size hi - sIx items.size 0 lo) == items.size) = true):=by
  intro q
  rw [Bool.and_eq_true,Bool.and_eq_true] at q
  have q1:((sIx items.size 0 lo:Nat):Int) = 0:=eq_of_beq q.1.1
  have q2:sIx items.size items.size hi - sIx items.size 0 lo = items.size:=eq_of_beq q.2
  exact hw ⟨by omega,by omega⟩
 show wpAny _ _ (if (((sIx items.size 0 lo:Nat):Int) == 0 && (1:Int) == 1 && (sIx items.size items.size hi - sIx items.size 0 lo) == items.size) = true then _ else _) _ _ s
 rw [if_neg hno,yCm]
 first
  | exact wpAny_bind (m:=Builtin.Tuple.tupleExact _) (wpAny_newObj_type (wpAny_pure ⟨_,rfl,wpAny_pure h⟩) htake)
  | exact wpAny_bind (m:=Builtin.Tuple.tupleExact _) (wpAny_newObj_type (wpAny_bind (wpAny_pure (wpAny_pure ⟨_,rfl,wpAny_pure h⟩))) htake)
  | exact wpAny_bind (wpAny_bind (m:=Builtin.Tuple.tupleExact _) (wpAny_newObj_type (wpAny_pure (wpAny_pure ⟨_,rfl,wpAny_pure h⟩)) htake))
  | exact wpAny_bind (wpAny_bind (m:=Builtin.Tuple.tupleExact _) (wpAny_newObj_type (wpAny_pure ⟨_,rfl,wpAny_pure h⟩) htake))
end
end HT
namespace L2
open PySem PySem.Spec PyProof.Rows
abbrev TO:=St -> Hp -> (Option Int -> Hp -> Prop) -> Prop
def PO (X:Cx) (e:Option Expr) (t:TO):Prop :=
 ∀ (pins:List (Addr × Obj)) (s:Shared) (σ:St) (H:Hp) (Q:Option Int -> Hp -> Prop),Inv X pins σ H s -> t σ H Q ->
  wpAny (model X.prog X.w) X.A (evalPart e X.env) (fun u s'=>∃ o H',Inv X pins σ H' s' /\ IsPart u o /\ Q o H') X.xe s
def y1t:TO:=fun _ H Q=>Q none H
def k0n (t:TE):TO:=fun σ H Q=>t σ H fun x H1=>∃ i,x = .int i /\ Q (some i) H1
theorem z9q {ns:List Int}:∀ {us:List Value},Vals (ns.map V.int) us -> IntsAre us ns:=by
 induction ns with
 | nil=>intro us r; rw [List.map_nil] at r; cases r; exact .nil
 | cons n ns ih =>
  intro us r
  rw [List.map_cons] at r
  cases r with
  | cons r1 r2 =>
   obtain ⟨t,e⟩:=r1
   subst e
   exact .cons n t (ih r2)
section
variable {X:Cx} {e:Expr} {te:TE} {lo hi:Option Expr} {tl th:TO} {pos p2:Pos}
theorem y8t:PO X none y1t:=by
 intro pins s σ H Q I h
 rw [evalPart_none]
 exact wpAny_pure ⟨none,H,I,.none,h⟩
theorem y8u (h:PE X e te):PO X (some e) (k0n te):=by
 intro pins s σ H Q I hw
 rw [evalPart_some]
 refine thn (h pins s σ H _ I hw) fun u s1 ⟨x,H1,I1,r1,q1⟩=>?_
 obtain ⟨i,rfl,q⟩:=q1
 obtain ⟨t,rfl⟩:=r1
 exact ⟨some i,H1,I1,.int i t,q⟩
def SlR (X:Cx) (r:V -> Option Int -> Option Int -> Hp -> VK -> Prop):Prop :=
 ∀ (pins:List (Addr × Obj)) (s:Shared) (σ:St) (H:Hp) (x:V) (v vl vu:Value) (lo hi:Option Int) (sl:Addr) (Q:VK),Inv X pins σ H s -> RelV x v -> s.heap.IsSliceOf sl vl vu .none -> IsPart vl lo -> IsPart vu hi -> r x lo hi H Q ->
  ∃ T id,typeLookup (.type T) "__getitem__" = pure (some (.builtin id)) /\ s.TypeIs v T /\ wpAny (model X.prog X.w) X.A (getItem v (.ref sl)) (EP X pins σ Q) X.xe s
theorem SlR.or {r r':V -> Option Int -> Option Int -> Hp -> VK -> Prop} (h:SlR X r) (h':SlR X r'):SlR X (fun x lo hi H Q=>r x lo hi H Q \/ r' x lo hi H Q):=by
 intro pins s σ H x v vl vu lo hi sl Q I rx hs pl pu q
 rcases q with q | q
 ·exact h pins s σ H x v vl vu lo hi sl Q I rx hs pl pu q
 ·exact h' pins s σ H x v vl vu lo hi sl Q I rx hs pl pu q
def tSl (r:V -> Option Int -> Option Int -> Hp -> VK -> Prop) (te:TE) (tl th:TO):TE:=fun σ H Q=>te σ H fun x H1=>tl σ H1 fun l H2=>th σ H2 fun u H3=>r x l u H3 Q
theorem y3a {r:V -> Option Int -> Option Int -> Hp -> VK -> Prop} (hr:SlR X r) (he:PE X e te) (hl:PO X lo tl) (hu:PO X hi th):PE X (.Subscript e (.Slice lo hi none p2) pos) (tSl r te tl th):=by
 intro pins s σ H Q I h
 refine Subscript_ (thn (he pins s σ H _ I h) fun v s1 ⟨x,H1,I1,r1,q1⟩=>?_)
 refine wpAny_Slice (thn (hl pins s1 σ H1 _ I1 q1) fun vl s2 ⟨l,H2,I2,pl,q2⟩=>thn (hu pins s2 σ H2 _ I2 q2) fun vu s3 ⟨u,H3,I3,pu,q3⟩=>?_)
 rw [evalPart_none]
 refine wpAny_pure ?_
 have I4:Inv X pins σ H3 { s3 with heap:=s3.heap.push { cls:=.type "slice",data:=.fields #[vl,vu,.none] } }:=I3.kept (t':=s3.toks) fun b ob q=>Heap.get?_push_of_some _ q
 obtain ⟨T,id,hT,ht,hg⟩:=hr pins { s3 with heap:=s3.heap.push { cls:=.type "slice",data:=.fields #[vl,vu,.none] } } σ H3 x v vl vu l u s3.heap.objs.size Q I4 r1 (Heap.IsSliceOf.new ..) pl pu q3
 show wpAny (model X.prog X.w) X.A (subscriptTail e (.Slice lo hi none p2) v (.ref s3.heap.objs.size)) (EP X pins σ Q) X.xe { s3 with heap:=s3.heap.push { cls:=.type "slice",data:=.fields #[vl,vu,.none] } }
 exact tail_any (ops:=[.ref s3.heap.objs.size,v]) ht hT hg (by with_unfolding_all rfl)
def cutV (xs:List V) (lo hi:Option Int):List V:=(xs.drop (HT.sIx xs.length 0 lo)).take (HT.sIx xs.length xs.length hi - HT.sIx xs.length 0 lo)
theorem zBs (xs:List V) (lo hi:Option Int):(cutV xs lo hi).length <= xs.length:=by
 unfold cutV
 rw [List.length_take,List.length_drop]
 omega
def rSlT (K:PySem.W.Frag):V -> Option Int -> Option Int -> Hp -> VK -> Prop:=fun x lo hi H Q=>∃ a xs,x = .ref a /\ SqT K H a xs /\
 ¬ (HT.sIx xs.length 0 lo = 0 /\ HT.sIx xs.length xs.length hi = xs.length) /\ ∀ p,H p = none -> Q (.ref p) (upd H p (.tup (cutV xs lo hi)))
theorem yIm:SlR X (rSlT X.K):=by
 intro pins s σ H x v vl vu lo hi sl Q I rx hs pl pu h
 obtain ⟨a,xs,rfl,hx,hw,q⟩:=h
 cases rx
 obtain ⟨its,r,ht,hz⟩:=I.tuple hx
 have hlen:its.toArray.size = xs.length:=by rw [List.size_toArray]; exact r.length.symm
 refine ⟨"tuple",_,PyProof.Rows.slot_tuple_getitem.lookup,ht.typeIs,?_⟩
 refine HT.getItem_tuple_cut ht hs pl pu (by rw [hlen]; exact hw) ?_ (by rw [hlen]; exact hz)
 rw [hlen]
 refine ⟨.ref s.heap.objs.size,_,I.laid (t':=s.toks) (o:=.tup (cutV xs lo hi)) (fun b ob q=>Heap.get?_push_of_some _ q) (Nat.le_refl _) ?_,rfl,q _ (I.hok.fresh (Nat.le_refl _))⟩
 exact ⟨Nat.le_trans (zBs xs lo hi) hz,_,(r.drop (HT.sIx xs.length 0 lo)).take (HT.sIx xs.length xs.length hi - HT.sIx xs.length 0 lo),IsTup.new _ _,z7w⟩
def k0c (K:PySem.W.Frag):R2:=fun x y H Q=>∃ a b xs ys,x = .ref a /\ y = .ref b /\ SqT K H a xs /\ SqT K H b ys /\ xs ≠ [] /\ xs.length + ys.length <= sizeLine /\
 (ys = [] -> Q (.ref a) H) /\ (ys ≠ [] -> ∀ p,H p = none -> Q (.ref p) (upd H p (.tup (xs ++ ys))))
theorem Vals.nil_iff {xs:List V} {us:List Value} (r:Vals xs us):us = [] ↔ xs = []:=by
 cases r with
 | nil=>simp
 | cons _ _=>simp
theorem yFj:OpR X (binaryOp .Add) (k0c X.K):=by
 intro pins s σ H x y v u Q I rx ry h
 obtain ⟨a,b,xs,ys,rfl,rfl,ha,hb,hx,hz,q1,q2⟩:=h
 cases rx
 cases ry
 obtain ⟨its,r1,p1,_⟩:=I.tuple ha
 obtain ⟨its2,r2,p2,_⟩:=I.tuple hb
 refine HT.cat_tup p1 p2 (fun z=>hx (r1.nil_iff.mp z)) (fun z=>⟨.ref a,H,I,rfl,q1 (r2.nil_iff.mp z)⟩) (fun z=>?_) (by rw [<- r1.length,<- r2.length]; exact hz)
 refine ⟨.ref s.heap.objs.size,_,I.laid (t':=s.toks) (o:=.tup (xs ++ ys)) (fun b ob q=>Heap.get?_push_of_some _ q) (Nat.le_refl _) ?_,rfl,q2 (fun w=>z (r2.nil_iff.mpr w)) _ (I.hok.fresh (Nat.le_refl _))⟩
 exact ⟨by rw [List.length_append]; exact hz,_,r1.append r2,IsTup.new _ _,z7w⟩
end
end L2
namespace L2
open PySem PySem.Spec PyProof.Rows
def ixN (n:Nat) (i:Int):Option Nat:=if 0 <= i then (if i < n then some i.toNat else none) else if -(n:Int) <= i then some (i + n).toNat else none
def atI {α:Type} (xs:List α) (i:Int):Option α:=(ixN xs.length i).bind fun j=>xs[j]?
theorem y7j {n:Nat} {i:Int} {j:Nat} (h:ixN n i = some j):seqIndex? i n = some j /\ j < n /\ -(n:Int) <= i /\ i < n:=by
 unfold ixN at h
 by_cases h0:0 <= i
 ·rw [if_pos h0] at h
  by_cases h1:i < n
  ·rw [if_pos h1] at h
   have e:i.toNat = j:=Option.some.inj h
   exact ⟨by rw [seqIndex_of h0 h1,e],by omega,by omega,h1⟩
  ·rw [if_neg h1] at h; cases h
 ·rw [if_neg h0] at h
  by_cases h1:-(n:Int) <= i
  ·rw [if_pos h1] at h
   have e:(i + n).toNat = j:=Option.some.inj h
   exact ⟨by rw [seqIndex_neg (by omega) h1,e],by omega,h1,by omega⟩
  ·rw [if_neg h1] at h; cases h
theorem y6h {α:Type} {xs:List α} {i:Int} {v:α} (h:atI xs i = some v):∃ j,seqIndex? i xs.length = some j /\ xs[j]? = some v /\ j < xs.length /\ -(xs.length:Int) <= i /\ i < xs.length:=by
 unfold atI at h
 cases e:ixN xs.length i with
 | none=>rw [e] at h; cases h
 | some j =>
  rw [e] at h
  obtain ⟨h1,h2,h3,h4⟩:=y7j e
  exact ⟨j,h1,h,h2,h3,h4⟩
theorem z1l {α:Type} {xs:List α} {j:Nat} {v:α} (h:xs[j]? = some v):atI xs (j:Int) = some v:=by
 have hj:j < xs.length:=(List.getElem?_eq_some_iff.mp h).1
 have e:ixN xs.length (j:Int) = some j:=by
  unfold ixN
  rw [if_pos (by omega),if_pos (by omega)]; simp
 unfold atI; rw [e]; exact h
theorem zAw {α:Type} (xs:List α) (v:α):atI (xs ++ [v]) (-1) = some v:=by
 have hl:(xs ++ [v]).length = xs.length + 1:=by simp
 have e:ixN (xs ++ [v]).length (-1) = some xs.length:=by
  unfold ixN
  rw [hl,if_neg (by decide),if_pos (by omega)]
  congr 1
  omega
 unfold atI
 rw [e]
 show (xs ++ [v])[xs.length]? = some v
 simp
def yEh (b:Expr):Prop:=∀ o i,subscripted b false o i = operate [o,i] (getItem o i)
def IxR (X:Cx) (r:R2):Prop :=
 ∀ (value slice:Expr) (pins:List (Addr × Obj)) (s:Shared) (σ:St) (H:Hp) (x y:V) (v u:Value) (Q:VK),Inv X pins σ H s -> RelV x v -> RelV y u -> r x y H Q ->
  subscripted slice false v u = operate [v,u] (getItem v u) -> wpAny (model X.prog X.w) X.A (subscriptTail value slice v u) (EP X pins σ Q) X.xe s
def MtR (X:Cx) (id:String) (r:V -> List V -> Hp -> VK -> Prop):Prop :=
 ∀ (pins:List (Addr × Obj)) (s:Shared) (σ:St) (H:Hp) (x:V) (xs:List V) (v:Value) (us:List Value) (Q:VK),Inv X pins σ H s -> RelV x v -> Vals xs us -> r x xs H Q ->
  wpAny (model X.prog X.w) X.A (call (.builtin id) (v :: us)) (EP X pins σ Q) X.xe s
section
variable {X:Cx} {a b:Expr} {ta tb:TE} {pos:Pos}
theorem z2j {r:R2} (hr:IxR X r) (ha:PE X a ta) (hb:PE X b tb) (hs:yEh b):PE X (.Subscript a b pos) (tOp r ta tb):=by
 intro pins s σ H Q I h
 exact Subscript_ (binT ha hb I h fun v u s2 x y H2 I2 rx ry q=>hr a b pins s2 σ H2 x y v u Q I2 rx ry q (hs _ _))
def rIxL (K:PySem.W.Frag):R2:=fun x y H Q=>∃ p xs i v,x = .ref p /\ y = .int i /\ SqL K H p xs /\ atI xs i = some v /\ Q v H
def rIxT (K:PySem.W.Frag):R2:=fun x y H Q=>∃ p xs i v,x = .ref p /\ y = .int i /\ SqT K H p xs /\ atI xs i = some v /\ Q v H
theorem z3c:IxR X (rIxL X.K):=by
 intro value slice pins s σ H x y v u Q I rx ry h hs
 obtain ⟨p,xs,i,z,rfl,rfl,hq,he,q⟩:=h
 cases rx
 obtain ⟨t,rfl⟩:=ry
 obtain ⟨its,r,pl,hz⟩:=I.list hq
 obtain ⟨j,h1,h2,h3,h4,h5⟩:=y6h he
 obtain ⟨w,ew,rw'⟩:=r.get h2
 have hl:=r.length
 have hn:=zEr
 have fin:EP X pins σ Q w s:=⟨z,H,I,rw',q⟩
 by_cases h0:0 <= i
 ·have hj:i.toNat = j:=by
   rw [seqIndex_of h0 h5] at h1
   exact Option.some.inj h1
  exact item_listR pl.isList h0 (by omega) (by rw [hj]; simpa using ew) fin hs
 ·have hj:(i + (its.toArray.size:Int)).toNat = j:=by
   rw [seqIndex_neg (by omega) h4] at h1
   rw [List.size_toArray,<- hl]
   exact Option.some.inj h1
  exact subscriptTail_builtinR (x:=w) pl.isList.typeIs slot_list_getitem.lookup
   (wpAny_getItem_list_neg (Q:=fun r s'=>r = w /\ EP X pins σ Q r s') pl.isList (by omega) (by rw [List.size_toArray] <;> omega) (by omega) (by rw [hj]; simpa using ew) ⟨rfl,fin⟩) hs
theorem z2x:IxR X (rIxT X.K):=by
 intro value slice pins s σ H x y v u Q I rx ry h hs
 obtain ⟨p,xs,i,z,rfl,rfl,hq,he,q⟩:=h
 cases rx
 obtain ⟨t,rfl⟩:=ry
 obtain ⟨its,r,pl,hz⟩:=I.tuple hq
 obtain ⟨j,h1,h2,h3,h4,h5⟩:=y6h he
 obtain ⟨w,ew,rw'⟩:=r.get h2
 have hl:=r.length
 have hn:=zEr
 have fin:EP X pins σ Q w s:=⟨z,H,I,rw',q⟩
 exact subscriptTail_builtinR (x:=w) pl.typeIs slot_tuple_getitem.lookup
  (getItem_tuple (j:=j) (Q:=fun r s'=>r = w /\ EP X pins σ Q r s') pl (by omega) (by omega) (by rw [List.size_toArray,<- hl]; exact h1) (by simpa using ew) ⟨rfl,fin⟩) hs
theorem y4l (its:List Value) (n j:Nat) (u:Value):Obj.mapSeq (·.setIfInBounds j u) { cls:=.type "list",data:=.seq its.toArray n } = { cls:=.type "list",data:=.seq (its.set j u).toArray n }:=by
 simp [Obj.mapSeq]
theorem Inv.lst {pins:List (Addr × Obj)} {σ:St} {H:Hp} {s:Shared} {p:Addr} {xs:List V} (I:Inv X pins σ H s) (h:H p = some (.lst xs)) :
  ∃ (its:List Value) (n:Nat),Vals xs its /\ s.heap.get? p = some { cls:=.type "list",data:=.seq its.toArray n } /\ xs.length <= sizeLine:=by
 obtain ⟨z,its,n,r,e⟩:=I.hok p _ h
 exact ⟨its,n,r,e,z⟩
theorem Inv.lstUpd {pins:List (Addr × Obj)} {σ:St} {H:Hp} {s:Shared} {p:Addr} {xs ys:List V} {its its':List Value} {n n':Nat} {f:Obj -> Obj} (I:Inv X pins σ H s) (h:H p = some (.lst xs))
  (ho:s.heap.get? p = some { cls:=.type "list",data:=.seq its.toArray n }) (hf:f { cls:=.type "list",data:=.seq its.toArray n } = { cls:=.type "list",data:=.seq its'.toArray n' }) (r:Vals ys its') (hz:ys.length <= sizeLine) (t:Nat) :
  Inv X pins σ (upd H p (.lst ys)) { s with heap:=s.heap.update p f,toks:=t }:=by
 have e:(s.heap.update p f).get? p = some { cls:=.type "list",data:=.seq its'.toArray n' }:=by
  rw [Heap.get?_update_self f ho (by rw [hf] <;> rfl),hf]
 refine I.write (x:=p) (e:=p) (by rw [h]; trivial) (.inl rfl) (fun b u hb q=>(Heap.get?_update_other _ _ (Ne.symm hb)).trans q) ⟨_,e⟩ ?_
 exact ⟨hz,its',n',r,e⟩
def k0d:V -> V -> V -> Hp -> (Hp -> Prop) -> Prop:=fun o i v H Q=>∃ p xs k j,o = .ref p /\ i = .int k /\ H p = some (.lst xs) /\ ixN xs.length k = some j /\ Q (upd H p (.lst (xs.set j v)))
theorem zGv:PSet X k0d:=by
 intro pins s σ H o i v ov iv u Q I ro ri rv h
 obtain ⟨p,xs,k,j,rfl,rfl,hp,hj,q⟩:=h
 cases ro
 obtain ⟨t,rfl⟩:=ri
 obtain ⟨its,n,r,ho,hz⟩:=I.lst hp
 obtain ⟨h1,h2,h3,h4⟩:=y7j hj
 have hl:=r.length
 have hn:=zEr
 have I':Inv X pins σ (upd H p (.lst (xs.set j v))) { s with heap:=s.heap.update p (Obj.mapSeq (·.setIfInBounds j u)) } :=
  I.lstUpd hp ho (y4l its n j u) (r.set rv j) (by rw [List.length_set]; exact hz) s.toks
 by_cases h0:0 <= k
 ·have hk:k.toNat = j:=by
   rw [seqIndex_of h0 h4] at h1
   exact Option.some.inj h1
  exact PySem.W.ki_setAt ho h0 (by omega) (by rw [List.size_toArray,<- hl]; exact h4) (by rw [hk]; exact ⟨_,I',q⟩)
 ·have hk:(k + (its.toArray.size:Int)).toNat = j:=by
   rw [seqIndex_neg (by omega) h3] at h1
   rw [List.size_toArray,<- hl]
   exact Option.some.inj h1
  exact PySem.W.ki_setBack ho (by omega) (by rw [List.size_toArray,<- hl]; exact h3) (by omega) (by rw [hk]; exact ⟨_,I',q⟩)
theorem zJu (lo hi:Option Int) (n:Nat):(sliceBounds lo hi none n).1 = ((HT.sIx n 0 lo:Nat):Int) /\ (sliceBounds lo hi none n).2.1 = ((HT.sIx n n hi:Nat):Int) /\ (sliceBounds lo hi none n).2.2 = 1:=by
 refine ⟨?_,?_,rfl⟩
 ·cases lo with
  | none=>simp [sliceBounds,HT.sIx]
  | some i =>
   simp only [sliceBounds,HT.sIx,Option.getD_none,show (1:Int) > 0 by decide,if_true]
   by_cases h:i < 0
   ·simp only [h,if_true] <;> omega
   ·simp only [h,if_false] <;> omega
 ·cases hi with
  | none=>simp [sliceBounds,HT.sIx]
  | some i =>
   simp only [sliceBounds,HT.sIx,Option.getD_none,show (1:Int) > 0 by decide,if_true]
   by_cases h:i < 0
   ·simp only [h,if_true] <;> omega
   ·simp only [h,if_false] <;> omega
theorem zGw (its:List Value) (lo hi:Option Int):slicePick its.toArray lo hi none = ((its.drop (HT.sIx its.length 0 lo)).take (HT.sIx its.length its.length hi - HT.sIx its.length 0 lo)).toArray:=by
 obtain ⟨h1,h2,h3⟩:=zJu lo hi its.toArray.size
 unfold slicePick
 rw [h1,h2,h3]
 simp only [sliceRange_one,pick_run,List.size_toArray] <;> rfl
def rSlL (K:PySem.W.Frag):V -> Option Int -> Option Int -> Hp -> VK -> Prop:=fun x lo hi H Q=>∃ a xs,x = .ref a /\ SqL K H a xs /\ ∀ p,H p = none -> Q (.ref p) (upd H p (.lst (cutV xs lo hi)))
theorem yFx:SlR X (rSlL X.K):=by
 intro pins s σ H x v vl vu lo hi sl Q I rx hs pl pu h
 obtain ⟨a,xs,rfl,hx,q⟩:=h
 cases rx
 obtain ⟨its,r,ht,hz⟩:=I.list hx
 have hlen:=r.length
 refine ⟨"list",_,slot_list_getitem.lookup,ht.isList.typeIs,?_⟩
 refine wpAny_getItem_list_slice ht.isList hs pl pu .none (by simp) ?_ (by rw [List.size_toArray] <;> omega)
 rw [zGw,<- hlen]
 refine ⟨.ref s.heap.objs.size,_,I.laid (t':=s.toks) (o:=.lst (cutV xs lo hi)) (fun b ob q=>Heap.get?_push_of_some _ q) (Nat.le_refl _) ?_,rfl,q _ (I.hok.fresh (Nat.le_refl _))⟩
 exact ⟨Nat.le_trans (zBs xs lo hi) hz,_,0,(r.drop (HT.sIx xs.length 0 lo)).take (HT.sIx xs.length xs.length hi - HT.sIx xs.length 0 lo),Heap.get?_push_size _ rfl⟩
def z9p:V -> Bool
 | .non=>true
 | .bl _=>true
 | .int _=>true
 | .str _=>true
 | _=>false
def eqV:V -> V -> Bool
 | .non,.non=>true
 | .bl a,.bl b=>a == b
 | .bl a,.int b=>(if a then 1 else 0) == b
 | .int a,.bl b=>a == (if b then 1 else 0)
 | .int a,.int b=>a == b
 | .str a,.str b=>a == b
 | _,_=>false
theorem yGt {A:Around} {s:Shared} {y x:V} {u v:Value} (ry:RelV y u) (rx:RelV x v) (fy:z9p y = true) (fx:z9p x = true):SeqAt.EqAt A s u v (eqV y x):=by
 cases y with
 | non =>
  cases ry
  cases x with
  | non=>cases rx; exact SeqAt.EqAt.same _
  | bl b=>cases rx; exact SeqAt.EqAt.none_bool b
  | int b=>obtain ⟨t,rfl⟩:=rx; exact SeqAt.EqAt.none_int b t
  | str b=>obtain ⟨t,rfl⟩:=rx; exact SeqAt.EqAt.none_str b t
  | _=>exact absurd (show false = true from fx) Bool.false_ne_true
 | bl a =>
  cases ry
  cases x with
  | non=>cases rx; exact SeqAt.EqAt.bool_none a
  | bl b=>cases rx; exact SeqAt.EqAt.bool_bool a b
  | int b=>obtain ⟨t,rfl⟩:=rx; exact SeqAt.EqAt.bool_int a b t
  | str b=>obtain ⟨t,rfl⟩:=rx; exact SeqAt.EqAt.bool_str a b t
  | _=>exact absurd (show false = true from fx) Bool.false_ne_true
 | int a =>
  obtain ⟨t',rfl⟩:=ry
  cases x with
  | non=>cases rx; exact SeqAt.EqAt.int_none a t'
  | bl b=>cases rx; exact SeqAt.EqAt.int_bool a t' b
  | int b=>obtain ⟨t,rfl⟩:=rx; exact SeqAt.EqAt.int_int a t' b t
  | str b=>obtain ⟨t,rfl⟩:=rx; exact SeqAt.EqAt.int_str a t' b t
  | _=>exact absurd (show false = true from fx) Bool.false_ne_true
 | str a =>
  obtain ⟨t',rfl⟩:=ry
  cases x with
  | non=>cases rx; exact SeqAt.EqAt.str_none a t'
  | bl b=>cases rx; exact SeqAt.EqAt.str_bool a t' b
  | int b=>obtain ⟨t,rfl⟩:=rx; exact SeqAt.EqAt.str_int a t' b t
  | str b=>obtain ⟨t,rfl⟩:=rx; exact SeqAt.EqAt.str_str a t' b t
  | _=>exact absurd (show false = true from fx) Bool.false_ne_true
 | _=>exact absurd (show false = true from fy) Bool.false_ne_true
def eqU (x:V) (u:Value):Bool:=match u with
 | .none=>eqV .non x
 | .bool b=>eqV (.bl b) x
 | .int i _=>eqV (.int i) x
 | .str z _=>eqV (.str z) x
 | _=>false
theorem y6y {x y:V} {u:Value} (r:RelV y u) (f:z9p y = true):eqU x u = eqV y x:=by
 cases y with
 | non=>cases r; rfl
 | bl b=>cases r; rfl
 | int i=>obtain ⟨t,rfl⟩:=r; rfl
 | str z=>obtain ⟨t,rfl⟩:=r; rfl
 | _=>exact absurd (show false = true from f) Bool.false_ne_true
theorem zBl {x:V}:∀ {xs:List V} {us:List Value},Vals xs us -> xs.all z9p = true -> us.any (eqU x) = xs.any fun y=>eqV y x
 | _,_,.nil,_=>rfl
 | y :: xs,u :: us,.cons r t,f=>by
  rw [List.all_cons,Bool.and_eq_true] at f
  rw [List.any_cons,List.any_cons,y6y r f.1,zBl t f.2]
theorem z7q {A:Around} {s:Shared} {x:V} {v:Value} (rx:RelV x v) (fx:z9p x = true):∀ {xs:List V} {us:List Value},Vals xs us -> xs.all z9p = true -> ∀ u ∈ us,SeqAt.EqAt A s u v (eqU x u)
 | _,_,.nil,_=>fun u hu=>by cases hu
 | y :: xs,u :: us,.cons r t,f=>fun u' hu=>by
  rw [List.all_cons,Bool.and_eq_true] at f
  rcases List.mem_cons.mp hu with rfl | hu
  ·rw [y6y r f.1]; exact yGt r rx f.1 fx
  ·exact z7q rx fx t f.2 u' hu
def inV (x:V) (xs:List V):Bool:=xs.any fun y=>eqV y x
def rIn (K:PySem.W.Frag) (neg:Bool):R2:=fun x y H Q=>∃ p xs,y = .ref p /\ (SqL K H p xs \/ SqT K H p xs) /\ z9p x = true /\ xs.all z9p = true /\ Q (.bl (if neg then !inV x xs else inV x xs)) H
theorem y8k:OpR X (compareOp .In) (rIn X.K false):=by
 intro pins s σ H x y v u Q I rx ry h
 obtain ⟨p,xs,rfl,hq,fx,fs,q⟩:=h
 cases ry
 rcases hq with hq | hq
 ·obtain ⟨its,r,pl,hz⟩:=I.list hq
  refine SeqAt.in_listAt (eqU x) pl.isList (fun w hw=>z7q rx fx r fs w (by simpa using hw)) ⟨.bl _,H,I,rfl,?_⟩
  rw [show its.toArray.any (eqU x) = its.any (eqU x) by simp,zBl r fs]
  exact q
 ·obtain ⟨its,r,pl,hz⟩:=I.tuple hq
  refine SeqAt.in_tupleAt (eqU x) pl (fun w hw=>z7q rx fx r fs w (by simpa using hw)) ⟨.bl _,H,I,rfl,?_⟩
  rw [show its.toArray.any (eqU x) = its.any (eqU x) by simp,zBl r fs]
  exact q
theorem z6a:OpR X (compareOp .NotIn) (rIn X.K true):=by
 intro pins s σ H x y v u Q I rx ry h
 obtain ⟨p,xs,rfl,hq,fx,fs,q⟩:=h
 cases ry
 rcases hq with hq | hq
 ·obtain ⟨its,r,pl,hz⟩:=I.list hq
  refine SeqAt.notIn_listAt (eqU x) pl.isList (fun w hw=>z7q rx fx r fs w (by simpa using hw)) ⟨.bl _,H,I,rfl,?_⟩
  rw [show its.toArray.any (eqU x) = its.any (eqU x) by simp,zBl r fs]
  exact q
 ·obtain ⟨its,r,pl,hz⟩:=I.tuple hq
  refine SeqAt.notIn_tupleAt (eqU x) pl (fun w hw=>z7q rx fx r fs w (by simpa using hw)) ⟨.bl _,H,I,rfl,?_⟩
  rw [show its.toArray.any (eqU x) = its.any (eqU x) by simp,zBl r fs]
  exact q
theorem z0x:z6e X (.builtin "len") (fun xs H Q=>∃ p ys,xs = [.ref p] /\ (SqL X.K H p ys \/ SqT X.K H p ys) /\ Q (.int ys.length) H):=by
 intro pins s σ H xs us Q I r h
 obtain ⟨p,ys,rfl,hq,q⟩:=h
 obtain ⟨u,rfl,rx⟩:=zDm r
 cases rx
 have hn:=zEr
 rcases hq with hq | hq
 ·obtain ⟨its,r',pl,hz⟩:=I.list hq
  have hlen:=r'.length
  exact Calls.call_len_list pl.isList (by simp only [List.size_toArray] <;> omega) ⟨.int ys.length,H,I.tok _,⟨s.toks + 1,by rw [List.size_toArray,hlen]⟩,q⟩
 ·obtain ⟨its,r',pl,hz⟩:=I.tuple hq
  have hlen:=r'.length
  exact len_tuple pl (by simp only [List.size_toArray] <;> omega) ⟨.int ys.length,H,I.tok _,⟨s.toks + 1,by rw [List.size_toArray,hlen]⟩,q⟩
theorem zHp:z6e X (.type "list") (fun xs H Q=>∃ p ys,xs = [.ref p] /\ (SqL X.K H p ys \/ SqT X.K H p ys) /\ ∀ l,H l = none -> Q (.ref l) (upd H l (.lst ys))):=by
 intro pins s σ H xs us Q I r h
 obtain ⟨p,ys,rfl,hq,q⟩:=h
 obtain ⟨u,rfl,rx⟩:=zDm r
 cases rx
 have fin:∀ (its:List Value),Vals ys its -> ys.length <= sizeLine -> ∀ (h':Heap) (c':Nat),(∀ b o',s.heap.get? b = some o' -> h'.get? b = some o') ->
   h'.get? s.heap.objs.size = some { cls:=.type "list",dict:=none,data:=.seq its.toArray c',slots:=#[] } -> EP X pins σ Q (.ref s.heap.objs.size) { s with heap:=h' }:=fun its r' hz h' c' kp e =>
  ⟨.ref s.heap.objs.size,_,I.laid (t':=s.toks) kp (Nat.le_refl _) (show z2n X.prog X.w _ h' _ (.lst ys) from ⟨hz,its,c',r',e⟩),rfl,q _ (I.hok.fresh (Nat.le_refl _))⟩
 rcases hq with hq | hq
 ·obtain ⟨its,r',pl,hz⟩:=I.list hq
  have hlen:=r'.length
  obtain ⟨o,ho,hc,n,hd⟩:=pl.isList
  exact call_list_seq p (.inl rfl) ho hc hd (fun h' c' kp e=>fin its r' hz h' c' kp e) (by simp only [List.size_toArray] <;> omega)
 ·obtain ⟨its,r',pl,hz⟩:=I.tuple hq
  have hlen:=r'.length
  obtain ⟨o,ho,hc,n,hd⟩:=pl
  exact call_list_seq p (.inr rfl) ho hc hd (fun h' c' kp e=>fin its r' hz h' c' kp e) (by simp only [List.size_toArray] <;> omega)
theorem z4o:z6e X (.type "tuple") (fun xs H Q=>∃ p ys,xs = [.ref p] /\ ((SqL X.K H p ys /\ ∀ l,H l = none -> Q (.ref l) (upd H l (.tup ys))) \/ (SqT X.K H p ys /\ Q (.ref p) H))):=by
 intro pins s σ H xs us Q I r h
 obtain ⟨p,ys,rfl,h⟩:=h
 obtain ⟨u,rfl,rx⟩:=zDm r
 cases rx
 rcases h with ⟨hq,q⟩ | ⟨hq,q⟩
 ·obtain ⟨its,r',pl,hz⟩:=I.list hq
  have hlen:=r'.length
  refine call_tuple_list pl.isList (fun h' kp=>?_) (by simp only [List.size_toArray] <;> omega)
  have I1:Inv X pins σ H { s with heap:=h' }:=I.kept (t':=s.toks) kp
  have I2:Inv X pins σ (upd H h'.objs.size (.tup ys)) { s with heap:=h'.push { cls:=.type "tuple",data:=.seq its.toArray } } :=
   I1.laid (t':=s.toks) (fun b o e=>Heap.get?_push_of_some _ e) (Nat.le_refl _) (show z2n X.prog X.w _ _ _ (.tup ys) from ⟨hz,its,r',IsTup.new _ _,z7w⟩)
  exact ⟨.ref h'.objs.size,_,I2,rfl,q _ (I1.hok.fresh (Nat.le_refl _))⟩
 ·obtain ⟨its,r',pl,hz⟩:=I.tuple hq
  exact call_tuple_same pl ⟨.ref p,H,I,rfl,q⟩
def tyV (K:PySem.W.Frag) (T:String) (x:V) (H:Hp):Prop:=match x with
 | .str _=>T = "str"
 | .int _=>T = "int"
 | .ref p=>(T = "list" /\ ∃ xs,SqL K H p xs) \/ (T = "tuple" /\ ((∃ o,K.lookup p = some o /\ o.cls = .type "tuple" /\ o.dict = none) \/ ∃ xs,H p = some (.tup xs))) \/
   (T = "dict" /\ ((∃ kvs,H p = some (.dK kvs)) \/ ∃ kvs,H p = some (.dT kvs))) \/ (T = "set" /\ ∃ S n,H p = some (.set S n))
 | _=>False
theorem yIy {pins:List (Addr × Obj)} {σ:St} {H:Hp} {s:Shared} {T:String} {x:V} {v:Value} (I:Inv X pins σ H s) (r:RelV x v) (ty:tyV X.K T x H) :
  s.TypeIs v T /\ ∀ a,v = .ref a -> ∃ ob,s.heap.get? a = some ob /\ ob.dict = none:=by
 cases x with
 | str z =>
  obtain ⟨t,rfl⟩:=r
  cases (show T = "str" from ty)
  exact ⟨typeIs_str s z t,fun _ e=>nomatch e⟩
 | int i =>
  obtain ⟨t,rfl⟩:=r
  cases (show T = "int" from ty)
  exact ⟨typeIs_int s i t,fun _ e=>nomatch e⟩
 | ref p =>
  cases r
  rcases ty with ⟨rfl,xs,hq⟩ | ⟨rfl,⟨o,hk,hc,hd⟩ | ⟨xs,hk⟩⟩ | ⟨rfl,hk⟩ | ⟨rfl,S,n,hk⟩
  ·obtain ⟨its,_,pl,_⟩:=I.list hq
   refine ⟨pl.isList.typeIs,fun a e=>?_⟩
   cases e
   obtain ⟨o,n,e,c,hd,_⟩:=pl
   exact ⟨o,e,hd⟩
  ·refine ⟨⟨o,I.kIn p o hk,hc⟩,fun a e=>?_⟩
   cases e
   exact ⟨o,I.kIn _ o hk,hd⟩
  ·obtain ⟨_,_,_,⟨o,e,hc,_⟩,nd⟩:=(show z2n X.prog X.w H s.heap p (.tup xs) from I.hok p _ hk)
   refine ⟨⟨o,e,hc⟩,fun a e2=>?_⟩
   cases e2
   exact ⟨o,e,nd o e⟩
  ·have z:∃ o,s.heap.get? p = some o /\ o.ExactDict:=by
    rcases hk with ⟨kvs,hk⟩ | ⟨kvs,hk⟩
    ·obtain ⟨_,_,_,_,o,_,_,e,ex,_⟩:=I.hok p _ hk
     exact ⟨o,e,ex⟩
    ·obtain ⟨_,_,_,_,o,_,_,e,ex,_⟩:=I.hok p _ hk
     exact ⟨o,e,ex⟩
   obtain ⟨o,e,ex⟩:=z
   refine ⟨⟨o,e,ex.1⟩,fun a e2=>?_⟩
   cases e2
   exact ⟨o,e,ex.2.1⟩
  ·obtain ⟨o,_,_,_,e,ex,_⟩:=I.hok p _ hk
   refine ⟨⟨o,e,ex.1⟩,fun a e2=>?_⟩
   cases e2
   exact ⟨o,e,ex.2.1⟩
 | _=>exact False.elim ty
def tBM (K:PySem.W.Frag) (T:String) (r:V -> List V -> Hp -> VK -> Prop) (to:TE) (t:TA):TE:=fun σ H Q=>to σ H fun x H1=>tyV K T x H1 /\ t σ H1 fun xs H2=>r x xs H2 Q
variable {o e:Expr} {es:List Expr} {to:TE} {t:TA} {name:Str} {apos cpos:Pos} {T id:String} {r:V -> List V -> Hp -> VK -> Prop}
theorem z8b (pa:PlainAttrs T) (slot:Slot T name id) (hty:typeOf (.builtin id) = pure (.type "method_descriptor")) (hm:MtR X id r) (ho:PE X o to) (ha:PA X (e :: es) t)
  (hbase:attributeBase o name X.env (eval o X.env) = eval o X.env:=by rfl)
  (hfew:((backTo cpos (starEach (e :: es) X.env)).all (fun x=>!x.1) && (backToKw cpos (keywordEach [] X.env)).all (fun x=>x.1.isSome)
   && decide ((e :: es).length + ([]:List Keyword).length + (if ([]:List Keyword).isEmpty then 0 else 1) < 30)) = true:=by rfl)
  (hline:(apos.endLine == cpos.line) = true:=by rfl) (hs:starEach (e :: es) X.env = (false,eval e X.env) :: starEach es X.env:=by rfl) (hplain:(backTo cpos (starEach es X.env)).any (·.1) = false:=by rfl) :
  PE X (.Call (.Attribute o name apos) (e :: es) [] cpos) (tBM X.K T r to t):=by
 intro pins s σ H Q I h
 refine wpAny_Call_method_late hbase hfew hline rfl (thn (ho pins s σ H _ I h) fun v s1 ⟨x,H1,I1,r1,ty,q1⟩=>?_)
 obtain ⟨h1,h2⟩:=yIy I1 r1 ty
 refine ⟨T,id,pa,slot,hty,h1,h2,?_⟩
 have hA:=ha cpos pins s1 σ H1 _ I1 q1
 rw [hs] at hA ⊢
 refine Calls.callWith_builtin (by show (false || (backTo cpos (starEach es X.env)).any (·.1)) = false; rw [hplain] <;> rfl) (Calls.evalArgs_plain ?_)
 exact thn hA fun us s2 ⟨vs,H2,I2,r2,q2⟩=>hm pins s2 σ H2 x vs v us Q I2 r1 r2 q2
/- xs.append(e),list.index on a module's tuple .. are MtR facts of 06m -/
end
end L2
namespace L2
open PySem PySem.Spec PyProof.Rows
def MtM (X:Cx) (id:String) (r:V -> List V -> Hp -> VK -> Prop):Prop :=
 ∀ (pins:List (Addr × Obj)) (s:Shared) (σ:St) (H:Hp) (x:V) (xs:List V) (v:Value) (us:List Value) (Q:VK),Inv X pins σ H s -> RelV x v -> Vals xs us -> r x xs H Q ->
  wpAny (model X.prog X.w) X.A (call (.builtin id) (v :: us)) (EP X pins σ Q) X.xe s
theorem Vals.one:∀ {x:V} {us:List Value},Vals [x] us -> ∃ u,us = [u] /\ RelV x u
 | _,_,.cons r .nil=>⟨_,rfl,r⟩
theorem Vals.eraseIdx:∀ {xs:List V} {us:List Value} (i:Nat),Vals xs us -> Vals (xs.eraseIdx i) (us.eraseIdx i)
 | _,_,_,.nil=>.nil
 | _,_,0,.cons _ t=>t
 | _,_,i + 1,.cons r t=>.cons r (Vals.eraseIdx i t)
theorem Vals.rep {xs:List V} {us:List Value} (h:Vals xs us):∀ k:Nat,Vals (List.replicate k xs).flatten (List.replicate k us).flatten
 | 0=>.nil
 | k + 1=>by
  rw [List.replicate_succ,List.replicate_succ,List.flatten_cons,List.flatten_cons]
  exact Vals.append h (Vals.rep h k)
theorem zIi {α:Type}:∀ (l:List α) (i:Nat),(l.eraseIdx i).length <= l.length
 | [],_=>Nat.le_refl _
 | _ :: _,0=>Nat.le_succ _
 | _ :: r,i + 1=>Nat.succ_le_succ (zIi r i)
theorem zIa (its:List Value):∀ (k:Nat) (acc:List Value),
  List.foldl (fun x1 x2=>x1 ++ x2) acc.toArray (List.replicate k its.toArray) = (acc ++ (List.replicate k its).flatten).toArray
 | 0,acc=>by simp
 | k + 1,acc=>by
  have e:acc.toArray ++ its.toArray = (acc ++ its).toArray:=by simp
  have e2:(acc ++ its) ++ (List.replicate k its).flatten = acc ++ (List.replicate (k + 1) its).flatten:=by
   rw [List.replicate_succ,List.flatten_cons,List.append_assoc]
  rw [<- e2,<- zIa its k (acc ++ its),<- e,List.replicate_succ,List.foldl_cons]
section
variable {X:Cx} {pins:List (Addr × Obj)} {σ:St} {H:Hp} {s:Shared} {l b:Addr} {xs ys zs:List V}
theorem Inv.lset {its its':List Value} {n:Nat} {f:Array Value -> Array Value} {t':Nat} (I:Inv X pins σ H s) (hH:H l = some (.lst xs))
  (e:s.heap.get? l = some { cls:=.type "list",data:=.seq its.toArray n }) (hf:f its.toArray = its'.toArray) (hv:Vals ys its') (hz:ys.length <= sizeLine) :
  Inv X pins σ (upd H l (.lst ys)) { s with heap:=s.heap.update l (Obj.mapSeq f),toks:=t' }:=by
 have q:=PySem.IsL.update e f
 rw [hf] at q
 refine I.write (x:=l) (e:=l) (by rw [hH]; exact trivial) (.inl rfl) (fun b' u hb hu=>(Heap.get?_update_other s.heap (Obj.mapSeq f) (Ne.symm hb)).trans hu) ⟨_,q⟩ ?_
 exact ⟨hz,its',_,hv,q⟩
theorem Inv.lnew {its:List Value} {t':Nat} (I:Inv X pins σ H s) (hv:Vals ys its) (hz:ys.length <= sizeLine) :
  Inv X pins σ (upd H s.heap.objs.size (.lst ys)) { s with heap:=s.heap.push { cls:=.type "list",data:=.seq its.toArray },toks:=t' } :=
 I.laid (fun _ _ q=>Heap.get?_push_of_some _ q) (Nat.le_refl _) ⟨hz,its,0,hv,Heap.get?_push_size _ rfl⟩
theorem Inv.fresh (I:Inv X pins σ H s):H s.heap.objs.size = none:=I.hok.fresh (Nat.le_refl _)
theorem Inv.lstM (I:Inv X pins σ H s) (hH:H l = some (.lst xs)):xs.length <= sizeLine /\ ∃ (its:List Value) (n:Nat),Vals xs its /\ xs.length = its.length /\ s.heap.get? l = some { cls:=.type "list",data:=.seq its.toArray n }:=by
 obtain ⟨z,its,n,r,e⟩:=I.hok l _ hH
 exact ⟨z,its,n,r,r.length,e⟩
theorem y2s {n:Nat} (h:n <= sizeLine):Builtin.List.listTooLong n = false:=by
 unfold Builtin.List.listTooLong
 exact decide_eq_false (by omega)
end
section
variable {X:Cx}
def yFs:V -> List V -> Hp -> VK -> Prop:=fun x vs H Q=>∃ l xs y,x = .ref l /\ vs = [y] /\ H l = some (.lst xs) /\ xs.length < sizeLine /\ Q .non (upd H l (.lst (xs ++ [y])))
theorem z4p:MtM X "list.append" yFs:=by
 intro pins s σ H x vs v us Q I rx rv h
 obtain ⟨l,xs,y,rfl,rfl,hH,hz,q⟩:=h
 cases rx
 obtain ⟨u,rfl,ru⟩:=rv.one
 obtain ⟨z,its,n,r,hl,e⟩:=I.lstM hH
 refine call_meets F.slot_list_append ⟨_,e,rfl⟩ F.entry_list_append (F.args_list_append_2 _ _) (PySem.list_append l its.toArray n u (by rw [List.size_toArray]; omega)) ⟨e,?_⟩
 refine ⟨.non,_,I.lset (its':=its ++ [u]) hH e (by simp) (r.append (.cons ru .nil)) ?_,rfl,q⟩
 rw [List.length_append,List.length_singleton]
 omega
def yFt:V -> List V -> Hp -> VK -> Prop:=fun x vs H Q=>∃ l b xs zs,x = .ref l /\ vs = [.ref b] /\ H l = some (.lst xs) /\ H b = some (.lst zs) /\ xs.length + zs.length <= sizeLine /\ Q .non (upd H l (.lst (xs ++ zs)))
theorem zCk:MtM X "list.extend" yFt:=by
 intro pins s σ H x vs v us Q I rx rv h
 obtain ⟨l,b,xs,zs,rfl,rfl,hH,hB,hz,q⟩:=h
 cases rx
 obtain ⟨u,rfl,ru⟩:=rv.one
 cases ru
 obtain ⟨z,its,n,r,hl,e⟩:=I.lstM hH
 obtain ⟨z2,its2,n2,r2,hl2,e2⟩:=I.lstM hB
 have hsz:its.toArray.size + its2.toArray.size <= sizeLine:=by rw [List.size_toArray,List.size_toArray]; omega
 have hlong:¬ (!its.toArray.isEmpty && Builtin.List.listTooLong (its.toArray.size + its2.toArray.size)) = true:=by
  rw [y2s hsz,Bool.and_false]
  exact Bool.false_ne_true
 refine call_meets F.slot_list_extend ⟨_,e,rfl⟩ F.entry_list_extend (F.args_list_extend_2 _ _)
  (AutoSeq1.list_extend_list_list_0 l its.toArray n b its2.toArray n2 hlong (by rw [List.size_toArray]; omega) (by omega)) ⟨e,e2,?_⟩
 refine ⟨.non,_,I.lset (its':=its ++ its2) hH e (by simp) (r.append r2) ?_,rfl,q⟩
 rw [List.length_append]
 omega
def yIe:V -> List V -> Hp -> VK -> Prop:=fun x vs H Q=>∃ l xs i k y,x = .ref l /\ vs = [.int i] /\ H l = some (.lst xs) /\ -(2 ^ 63) <= i /\ i < 2 ^ 63 /\ seqIndex? i xs.length = some k /\ xs[k]? = some y /\ Q y (upd H l (.lst (xs.eraseIdx k)))
theorem yBx:MtM X "list.pop" yIe:=by
 intro pins s σ H x vs v us Q I rx rv h
 obtain ⟨l,xs,i,k,y,rfl,rfl,hH,h1,h2,hk,hy,q⟩:=h
 cases rx
 obtain ⟨u,rfl,ru⟩:=rv.one
 obtain ⟨t,rfl⟩:=ru
 obtain ⟨z,its,n,r,hl,e⟩:=I.lstM hH
 obtain ⟨w,hw,rw'⟩:=r.get hy
 refine call_meets F.slot_list_pop ⟨_,e,rfl⟩ F.entry_list_pop (F.args_list_pop_2 _ _)
  (MeetsSeq.list_pop_at l its.toArray n i t k w (fitsIndex_both h1 h2) (by rw [List.size_toArray,<- hl]; exact hk) (by rw [<- Array.getElem?_toList]; exact hw) (by rw [List.size_toArray]; omega)) ⟨e,?_⟩
 refine ⟨y,_,I.lset (its':=its.eraseIdx k) hH e ?_ (r.eraseIdx k) ?_,rw',q⟩
 ·show its.toArray.eraseIdxIfInBounds k = (its.eraseIdx k).toArray
  rw [List.eraseIdxIfInBounds_toArray]
 ·have:=zIi xs k
  omega
def rCat:R2:=fun x y H Q=>∃ l b xs zs,x = .ref l /\ y = .ref b /\ H l = some (.lst xs) /\ H b = some (.lst zs) /\ xs.length + zs.length <= sizeLine /\ ∀ p,H p = none -> Q (.ref p) (upd H p (.lst (xs ++ zs)))
theorem y2w:OpR X (binaryOp .Add) rCat:=by
 intro pins s σ H x y v u Q I rx ry h
 obtain ⟨l,b,xs,zs,rfl,rfl,hH,hB,hz,q⟩:=h
 cases rx
 cases ry
 obtain ⟨z,its,n,r,hl,e⟩:=I.lstM hH
 obtain ⟨z2,its2,n2,r2,hl2,e2⟩:=I.lstM hB
 refine PySem.P.add_list e e2 ?_ (by rw [List.size_toArray,List.size_toArray]; omega)
 have ea:its.toArray ++ its2.toArray = (its ++ its2).toArray:=by simp
 rw [ea]
 exact ⟨.ref _,_,I.lnew (t':=s.toks) (r.append r2) (by rw [List.length_append]; omega),rfl,q _ I.fresh⟩
def rRep:R2:=fun x y H Q=>∃ l k xs,x = .ref l /\ y = .int k /\ H l = some (.lst xs) /\ -(2 ^ 63) <= k /\ k < 2 ^ 63 /\ xs.length * k.toNat <= sizeLine /\
 ∀ p,H p = none -> Q (.ref p) (upd H p (.lst (List.replicate k.toNat xs).flatten))
theorem yFc {α:Type} (xs:List α) (k:Nat):(List.replicate k xs).flatten.length = k * xs.length:=by
 induction k with
 | zero=>simp
 | succ k ih=>rw [List.replicate_succ,List.flatten_cons,List.length_append,ih,Nat.succ_mul,Nat.add_comm]
theorem zJe:OpR X (binaryOp .Mult) rRep:=by
 intro pins s σ H x y v u Q I rx ry h
 obtain ⟨l,k,xs,rfl,rfl,hH,h1,h2,hz,q⟩:=h
 cases rx
 obtain ⟨t,rfl⟩:=ry
 obtain ⟨z,its,n,r,hl,e⟩:=I.lstM hH
 have hlen:its.toArray.size * k.toNat <= sizeLine:=by rw [List.size_toArray,<- hl]; exact hz
 have hcap:¬ its.toArray.size * k.toNat > (2 ^ 63 - 1) / 8:=by
  have:(sizeLine:Nat) <= (2 ^ 63 - 1) / 8:=by decide
  omega
 have hfit:¬ (!Builtin.List.listFitsIndex k) = true:=by
  rw [fitsIndex_both h1 h2]
  exact Bool.false_ne_true
 have hlong:¬ Builtin.List.listTooLong (its.toArray.size * k.toNat) = true:=by
  rw [y2s hlen]
  exact Bool.false_ne_true
 have hnew:List.foldl (fun x1 x2=>x1 ++ x2) #[] (List.replicate (if its.toArray.isEmpty = true then 0 else k.toNat) its.toArray) = (List.replicate k.toNat its).flatten.toArray:=by
  have f0:∀ m:Nat,List.foldl (fun x1 x2=>x1 ++ x2) #[] (List.replicate m its.toArray) = (List.replicate m its).flatten.toArray:=fun m=>by
   have:=zIa its m []
   rw [List.nil_append] at this
   exact this
  rw [f0]
  cases its with
  | nil=>simp
  | cons a r'=>rw [if_neg (by simp)]
 refine wpAny_binaryOp_repeat_ref (T := "list") (U := "int") (by decide) ⟨_,e,rfl⟩ (fun s'=>typeIs_int s' k t) noFill_list_mul F.fills_int_mul F.slot_int_rmul repeat_list F.slot_int_index.lookup
  (call_meets F.slot_int_rmul (typeIs_int s k t) F.entry_int_rmul (F.args_int_rmul_2 _ _) (int___rmul___int_list k t l its.toArray n)
   ⟨e,rfl,⟨_,e,rfl⟩,call_meets F.slot_list_mul ⟨_,e,rfl⟩ F.entry_list_mul (F.args_list_mul_2 _ _) (AutoListH.list___mul___list_int_3 l its.toArray n k t hfit hcap hlong) ⟨e,?_⟩⟩)
 rw [hnew]
 exact ⟨.ref _,_,I.lnew (t':=s.toks) (r.rep k.toNat) (by rw [yFc,Nat.mul_comm]; exact hz),rfl,q _ I.fresh⟩
end
section
variable {prog:Program} {w:World} {A:Around} {E:Value -> Shared -> Prop} {s:Shared}
end
section
variable {X:Cx}
end
end L2
namespace Att
open PySem PySem.W PySem.Calls PyProof.Rows
theorem zCa {P:Params} {h:Heap}:∀ (ns:List Int) (vs:List Value),WellAll P h vs (ns.map WData.int) -> IntsAre vs ns:=by
 intro ns
 induction ns with
 | nil =>
  intro vs w
  rw [List.map_nil] at w
  cases w
  exact .nil
 | cons n ns ih =>
  intro vs w
  rw [List.map_cons] at w
  cases w with
  | cons a b =>
   cases a
   exact .cons _ _ (ih _ b)
theorem y9i {l:OpenLaw} {n:Nat} (hn:l.most = some n) {P:Params} {h:Heap} {args:List WData} {vals:List Value}
  (hpre:l.row.toRowW.claim.pre args = true) (hwl:WellAll P h vals args) :
  ∃ a vs ns,vals = [Value.ref a] /\ args = [WData.list (ns.map WData.int)] /\ h.get? a = some { cls:=.type "list",data:=.seq vs.toArray } /\ IntsAre vs ns /\ ns.length <= n:=by
 have hsh:WShape.hasAll [] args [.list .int] = true:=(pre_splitW hpre).1
 have hc:l.pre.holds [] { args:=args } = true:=(pre_splitW hpre).2
 obtain ⟨d,r,rfl,h1,h2⟩:=hasAllW_cons hsh
 obtain rfl:=hasAllW_nil h2
 obtain ⟨xs,rfl,h3⟩:=hasW_list h1
 obtain ⟨ns,rfl⟩:=items_int h3
 have hlen:ns.length <= n:=by
  unfold OpenLaw.pre at hc
  have h4:(WTm.not (.lt (.lit (.int (n:Int))) (.len (.arg 0)))).holds [] { args:=[.list (ns.map .int)] } = true:=by
   have h4:=(holds_andW hc).1
   rw [hn] at h4
   exact h4
  have h5:=condW_of h4 (w_not (w_lt w_lit (w_len_list (w_arg rfl))))
  rw [List.length_map] at h5
  refine Nat.le_of_not_lt fun q=>?_
  have q':(n:Int) < ((ns.length:Nat):Int):=by omega
  first
   | (rw [decide_eq_true q'] at h5; exact absurd h5 (by decide))
   | (simp at h5; omega)
 cases hwl with
 | cons w1 w2 =>
  cases w2
  cases w1 with
  | list ho hall=>exact ⟨_,_,ns,rfl,rfl,ho,zCa ns _ hall,hlen⟩
theorem y8v (l:OpenLaw) (args:List WData):l.row.toRowW.claim.post args (.bool true) args = true :=
 postW_of (r:=l.row.toRowW) (X:=(true == true))
  (show WShape.has [] (.bool true) .bool = true by first | rfl | decide | simp [WShape.has,WShape.arms,WShape.armsAll])
  (show (WTm.eq .res (.lit (.bool true))).value [] { args:=args,res:=some (.bool true),after:=args } = some (.bool (true == true)) from w_eq_bool (w_res rfl) w_lit) rfl
theorem attach_call {l:OpenLaw} {n:Nat} {q:Program} {loose:List Str} {XP:(Str -> Option Value) -> Heap -> Prop} {YP:World -> Heap -> Prop} {d:DefRec}
  (hn:l.most = some n) (hdf:d.params.defaults = [])
  (call:∀ (w:World) (s₀ s₁:Shared) (mg mb:Str -> Option Value) (fa:Addr) (o:Obj) (pm cd doc:Value) (a:Addr) (vs:List Value) (ns:List Int),
   Ground q loose [] XP w s₀ mg mb s₁.heap -> YP w s₁.heap ->
   s₁.heap.get? fa = some o -> o.data = .func (docDef d.name d.params d.body d.scope pm cd doc) -> s₁.heap.CodeRec cd d.name -> mg d.name = some (.ref fa) ->
   s₁.heap.get? a = some { cls:=.type "list",data:=.seq vs.toArray } -> IntsAre vs ns -> ns.length <= n -> s₁.gens = #[] ->
   codeAny (model l.prog w) callerA (.call (.ref fa) ⟨[.ref a],[]⟩) (fun r s'=>r = .ok (.ret (.bool true)) /\ OldK s₁.heap s'.heap /\ s'.os = s₁.os /\ AllBare s'.gens) s₁) :
  WalkO q loose XP YP l.row.toRowW d [] (fun f vs=>PySem.call f vs):=by
 intro w s₀ s₁ mg mb G Y fa o pm cd doc dV kV ho hd hcd hD hmg hg args vals as hpre hlay hrd hwl hlo
 obtain rfl:dV = .none:=Dflts.none hD hdf
 obtain rfl:kV = .none:=Dflts.noKw hD
 obtain ⟨a,vs,ns,rfl,rfl,hobj,hints,hlen⟩:=y9i hn hpre hwl
 refine enter_call (codeAny_mono (call w s₀ s₁ mg mb fa o pm cd doc a vs ns G Y ho (fd_plain hd) hcd hmg hobj hints hlen hg) fun r s' hq=>?_)
 obtain ⟨rfl,h2,h3,h4⟩:=hq
 exact ⟨.inl ⟨.bool true,.bool true,[],rfl,fun _=>rfl,.bool true,y8v l _,fun _=>⟨List.Pairwise.nil,fun _ hm=>(nomatch hm)⟩⟩,h2,h3,h4⟩
section
variable {prog:Program} {w:World} {A:Around} {E:Value -> Shared -> Prop} {s:Shared} {K:Frag}
def k0t (h:Heap) (L d:Addr):List (Addr × Obj):=(List.range h.objs.size).filterMap fun a=>if a = L \/ a = d then none else (h.get? a).map fun o=>(a,o)
end
end Att
namespace L2
open PySem PySem.Spec PyProof.Rows
theorem z7p:∀ {vs:List Value} {ns:List Int},IntsAre vs ns -> Vals (ns.map V.int) vs
 | _,_,.nil=>.nil
 | _,_,.cons n t h=>.cons ⟨t,rfl⟩ (z7p h)
def Only (H:Hp):Prop:=∀ b,H b = none \/ ∃ o xs,H b = some (.frz o (.lst xs))
theorem yBt {P:Program} {w:World} {K:PySem.W.Frag} {mg mb:Str -> Option Value} {CX:CXT} {k:Nat} {fa a:Addr} {fd:FuncData} {x:Str} {sp:Sp} {s₁:Shared} {vs:List Value} {ns:List Int}
  (KX:K.In s₁.heap) (hns:s₁.heap.Ns mainGlobals mg) (hb:s₁.heap.Ns builtinsNs mb) (hbb:∀ x:Str,x ≠ "__name__" -> mb x = bootBuiltins x) (hlim:s₁.heap.NoLimit) (hg:s₁.gens = #[])
  (ha:s₁.heap.get? a = some { cls:=.type "list",data:=.seq vs.toArray }) (hi:IntsAre vs ns) (hl:ns.length <= sizeLine) (hr:Room k callerA)
  (F:∀ base:Heap,K.In base -> base.Ns mainGlobals mg -> FnOk P w K mg base CX k fa fd [x] sp) (hbind:∀ (s:Shared) (u:Value),BindsTo s fd ⟨[u],[]⟩ [(x,u)])
  (hsp:∀ H:Hp,Only H -> SqL K H a (ns.map V.int) -> sp [.ref a] H (fun v _=>v = .bl true) fun _ _ _=>False)
  (hCX:∀ H e s',CX [] H s₁ (fun _ _ _=>False) e s' -> False) :
  codeAny (model P w) callerA (.call (.ref fa) ⟨[.ref a],[]⟩) (fun r s'=>r = .ok (.ret (.bool true)) /\ OldK s₁.heap s'.heap /\ s'.os = s₁.os /\ AllBare s'.gens) s₁:=by
 have rv:=z7p hi
 have lenV:=hi.length
 -- from an abstract heap in which nothing but the script may be tracked
 have core:∀ H:Hp,Only H -> SqL K H a (ns.map V.int) -> HOk P w H s₁.heap -> (∀ b,H b ≠ none -> b = a) -> (H a ≠ none -> K.lookup a = none) ->
   codeAny (model P w) callerA (.call (.ref fa) ⟨[.ref a],[]⟩) (fun r s'=>r = .ok (.ret (.bool true)) /\ OldK s₁.heap s'.heap /\ s'.os = s₁.os /\ AllBare s'.gens) s₁:=by
  intro H hO hS hok hA hK
  have base_of:∀ {b:Addr} {o:Obj},s₁.heap.get? b = some o -> H b = none -> (hidT s₁.heap H).get? b = some o:=fun e n=>yBo e n
  have noA:∀ {b:Addr} {o:Obj} {es:Array DictEntry} {ep:Nat},s₁.heap.get? b = some o -> o.data = .dict es ep -> H b = none:=fun {b o es ep} e d=>by
   cases q:H b with
   | none=>rfl
   | some u =>
    have e':b = a:=hA b (by rw [q]; simp)
    subst e'
    rw [ha] at e; cases e
    have d':Data.seq vs.toArray _ = Data.dict es ep:=d
    cases d'
  have nsK:∀ {b:Addr} {m:Str -> Option Value},s₁.heap.Ns b m -> (hidT s₁.heap H).Ns b m:=fun {b m} ⟨o,es,ep,e,d,r⟩=>⟨o,es,ep,base_of e (noA e d),d,r⟩
  have hKb:K.In (hidT s₁.heap H):=fun b o e=>base_of (KX b o e) (by
   cases q:H b with
   | none=>rfl
   | some u =>
    have e':b = a:=hA b (by rw [q]; simp)
    subst e'
    rw [hK (by rw [q]; simp)] at e; cases e)
  have hM:Mod K mg (hidT s₁.heap H):=⟨hKb,nsK hns,⟨mb,nsK hb,hbb⟩,let ⟨mc,h1,h2⟩:=hlim; ⟨mc,nsK h1,h2⟩⟩
  have e0:Env0 P w K mg (hidT s₁.heap H) callerA [] s₁ H:=⟨rfl,hM,fun b o e=>yFi e,Nat.le_of_eq (y7d _ _),trivial,fun b hb=>absurd (show b ∈ ([]:List Addr) from hb) (by simp),hok,.of_eq hg⟩
  refine codeAny_mono ((F _ hKb (nsK hns)).run callerA [] s₁ H ⟨[.ref a],[]⟩ [.ref a] [.ref a] _ _ hr e0 (hbind s₁ (.ref a)) (.cons rfl .nil) (hsp H hO hS)) fun r s' h=>?_
  cases r with
  | error e=>exact (hCX H e s' h).elim
  | ok fl =>
   cases fl with
   | next=>exact False.elim h
   | brk=>exact False.elim h
   | cont=>exact False.elim h
   | ret u =>
    obtain ⟨v,H',os,bare,un,hok',r',q⟩:=h
    have q':v = .bl true:=q
    subst q'
    obtain rfl:u = Value.bool true:=r'
    refine ⟨rfl,OldK.of_keep fun b o e=>?_,os,bare⟩
    cases q:H b with
    | none=>exact un.keep b o e q (by intro z; exact absurd (show b ∈ ([]:List Addr) from z) (by simp)) (by simp)
    | some u =>
     rcases hO b with z | ⟨ob,xs,z⟩
     ·rw [q] at z; cases z
     ·have z2:=un.frzs b ob _ z
      obtain ⟨e1,_⟩:=hok b _ z
      obtain ⟨e2,_⟩:=hok' b _ z2
      rw [e] at e1; cases e1
      exact e2
 cases hk:K.lookup a with
 | some o =>
  -- the script is one of the module's own objects
  have e:=KX a o hk
  rw [ha] at e
  cases e
  refine core (fun _=>none) (fun _=>.inl rfl) (.inr ⟨_,vs.toArray,_,hk,rfl,rfl,rfl,by rw [List.size_toArray,lenV]; exact hl,by simpa using rv⟩) (fun b u z=>by have z':(none:Option HO) = some u:=z; cases z') (fun b z=>absurd rfl z) fun z=>absurd rfl z
 | none =>
  refine core (fun b=>if b = a then some (.frz { cls:=.type "list",data:=.seq vs.toArray } (.lst (ns.map V.int))) else none) (fun b=>?_) (.inl (.inr ⟨{ cls:=.type "list",data:=.seq vs.toArray },if_pos rfl⟩)) (fun b u z=>?_) (fun b z=>?_) fun _=>hk
  ·by_cases hb:b = a
   ·exact .inr ⟨_,_,if_pos hb⟩
   ·exact .inl (if_neg hb)
  ·by_cases hb:b = a
   ·have z':=(if_pos hb).symm.trans z
    cases z'
    subst hb
    exact ⟨ha,by rw [List.length_map]; exact hl,vs,_,rv,ha⟩
   ·have z':=(if_neg hb).symm.trans z
    cases z'
  ·by_cases hb:b = a
   ·exact hb
   ·exact absurd (if_neg hb) z
end L2
namespace L2
open PySem PySem.Spec PyProof.Rows
theorem k0r {l:PySem.W.OpenLaw} {n k:Nat} {q:Program} {loose:List Str} {XP:(Str -> Option Value) -> Heap -> Prop} {YP:World -> Heap -> Prop} {d:DefRec} {K:Params -> PySem.W.Frag} {CX:World -> CXT} {sp:World -> Sp} {x:Str}
  (hn:l.most = some n) (hn2:n <= sizeLine) (hdf:d.params.defaults = []) (hr:Room k callerA)
  (hY:∀ (w:World) (h:Heap),YP w h -> (K w.params).In h)
  (F:∀ (w:World) (mg:Str -> Option Value) (fa:Addr) (h:Heap),(K w.params).In h -> h.Ns mainGlobals mg -> mg d.name = some (.ref fa) ->
   ∃ fd:FuncData,(∀ (s:Shared) (u:Value),BindsTo s fd ⟨[u],[]⟩ [(x,u)]) /\
    ∀ base:Heap,(K w.params).In base -> base.Ns mainGlobals mg -> FnOk l.prog w (K w.params) mg base (CX w) k fa fd [x] (sp w))
  (hsp:∀ (w:World) (H:Hp) (a:Addr) (ns:List Int),ns.length <= n -> Only H -> SqL (K w.params) H a (ns.map V.int) -> sp w [.ref a] H (fun v _=>v = .bl true) fun _ _ _=>False)
  (hCX:∀ (w:World) (H:Hp) (s:Shared) (e:Value) (s':Shared),CX w [] H s (fun _ _ _=>False) e s' -> False) :
  PySem.W.WalkO q loose XP YP l.row.toRowW d [] (fun f vs=>PySem.call f vs):=by
 refine Att.attach_call hn hdf fun w s₀ s₁ mg mb fa o pm cd doc a vs ns G Y ho hd hcd hmg hobj hints hlen hg=>?_
 have KX:=hY w _ Y
 obtain ⟨fd,hb,hF⟩:=F w mg fa _ KX G.T.g hmg
 exact yBt KX G.T.g G.T.b G.T.builtins G.T.nolimit hg hobj hints (Nat.le_trans hlen hn2) hr hF hb (fun H hO hS=>hsp w H a ns hlen hO hS) fun H e s'=>hCX w H s₁ e s'
end L2
/- THE LAST THEOREM (shape; LID,My.* are yours):
  My.Adr: a structure of the addresses that your layer names (classes,functions); My.Txt K t: a structure (Prop) of the equations over K;
  My.txt_mk:{K} {implicit addresses ..} (e1:nsIn K mainGlobals "law" = some (some (.ref f))) (e2:K.lookup f = some ⟨oc,od,.func (fnOf "law" "law" params body scope dV kV doc pm an cdv ct),sl⟩) (e3:codeIn K cdv "law" = true) ..:∃ t,My.Txt K t
(the tactic k_is has no namespace: write k_is) -/
namespace L2
open PySem PySem.Spec PyProof.Rows
def y0p (s:Stmt) (j:Nat):Stmt:=match s with
 | .ClassDef _ _ _ body _ _ _ _ _ _ _=>body.getD j (.Pass ⟨0,0,0,0⟩)
 | _=>.Pass ⟨0,0,0,0⟩
def z0h (s:Stmt):Arguments:=match s with
 | .FunctionDef _ a _ _ _ _ _ _ _ _=>a
 | _=>{ posonlyargs:=[],args:=[],vararg:=none,kwonlyargs:=[],kw_defaults:=[],kwarg:=none,defaults:=[] }
def z0g (s:Stmt):List Stmt:=match s with
 | .FunctionDef _ _ b _ _ _ _ _ _ _=>b
 | _=>[]
def z0b (s:Stmt):Scope:=match s with
 | .FunctionDef _ _ _ _ _ _ sc _ _ _=>sc
 | _=>{ kind:=.function,names:=[],isGenerator:=false,isCoroutine:=false }
abbrev CX0:CXT:=fun _ _ _ _ _ _=>False
abbrev E0:XK:=fun _ _ _=>False
theorem z0s {X:Cx}:zEh CX0 X E0:=fun _ _ _ _ _ _ _ h=>h.elim
structure Fun (K:PySem.W.Frag) (x qual:Str) (st:Stmt) (f:Addr) (fd:FuncData):Prop where
 ex:∃ (oc:Value) (od:Option Addr) (kV doc pm:Value) (an:Option Addr) (cdv ct:Value) (osl:Array (Option Value)),
  fd = PySem.W.fnOf x qual (z0h st) (z0g st) (z0b st) .none kV doc pm an cdv ct /\ K.lookup f = some ⟨oc,od,.func fd,osl⟩ /\ PySem.W.codeIn K cdv qual = true
 kp:PySem.W.keepIn K (.ref f) = true
section
variable {P:Program} {w:World} {K:PySem.W.Frag} {mg:Str -> Option Value} {base:Heap}
theorem Fun.ok {x qual:Str} {st:Stmt} {f:Addr} {fd:FuncData} {N ps:List Str} {k:Nat} {sp:Sp} {cm:Bool} (F:Fun K x qual st f fd) (S:FnScope N ps (z0b st)) (len:∀ vs H Q E,sp vs H Q E -> vs.length = ps.length)
  (hbody:∀ (cdv:Value) (A:Around) (outer:List Env) (s:Shared) (H:Hp) (vs:List V) (Q:VK) (E:XK),Room k (A.deeper (envOfC qual (z0b st) s.heap.objs.size f cdv)) cm -> sp vs H Q E ->
   ∃ t,PSs (cxOf CX0 P w K mg base N qual (z0b st) f cdv A outer s H E cm).nox (z0g st) t /\ t { nx:=fun _ H'=>Q .non H',rt:=Q } (zJz N vs) H):FnOk P w K mg base CX0 (k + 1) f fd ps sp cm:=by
 obtain ⟨oc,od,kV,doc,pm,an,cdv,ct,osl,rfl,lk,hcd⟩:=F.ex
 refine yJh lk hcd S len fun A outer s H vs Q E hr hsp=>?_
 obtain ⟨t,h,q⟩:=hbody cdv A outer s H vs Q E hr hsp
 exact ⟨t,h.nox,q⟩
theorem Fun.binds {x qual:Str} {st:Stmt} {f:Addr} {fd:FuncData} {ps:List Str} (F:Fun K x qual st f fd)
  (h:∀ (kV doc pm:Value) (an:Option Addr) (cdv ct:Value) (us:List Value),us.length = ps.length -> bindArgs (PySem.W.fnOf x qual (z0h st) (z0g st) (z0b st) .none kV doc pm an cdv ct) ⟨us,[]⟩ = pure (ps.zip us)):z1k K fd ps []:=by
 obtain ⟨oc,od,kV,doc,pm,an,cdv,ct,osl,rfl,lk,hcd⟩:=F.ex
 exact .all (h kV doc pm an cdv ct)
theorem z0k {x qual:Str} {st:Stmt} {f:Addr} {oc:Value} {od an:Option Addr} {osl:Array (Option Value)} {kV doc pm cdv ct:Value} (l:K.lookup f = some ⟨oc,od,.func (PySem.W.fnOf x qual (z0h st) (z0g st) (z0b st) .none kV doc pm an cdv ct),osl⟩)
  (c:PySem.W.codeIn K cdv qual = true) (k:PySem.W.keepIn K (.ref f) = true):Fun K x qual st f (PySem.W.fnOf x qual (z0h st) (z0g st) (z0b st) .none kV doc pm an cdv ct):=⟨⟨oc,od,kV,doc,pm,an,cdv,ct,osl,rfl,l,c⟩,k⟩
end
section
variable {X:Cx}
theorem pv (i:Nat) {x:Str} {pos:Pos} (hN:X.N[i]? = some x:=by rfl) (hv:Vis X.env.scope x:=by first | exact Or.inl rfl | exact Or.inr (Or.inl rfl) | exact Or.inr (Or.inr rfl)) (hd:(x == ("__debug__" : Str)) = false:=by decide)
  (hcd:(x == ("__classdict__" : Str)) = false:=by decide):PE X (.Name x pos) (tVar i):=yDs hN hv hd hcd
end
theorem iteF {A B:Prop} (h:B):if false = true then A else B:=by
 rw [if_neg Bool.false_ne_true]
 exact h
theorem iteT {A B:Prop} (h:A):if true = true then A else B:=by
 rw [if_pos rfl]
 exact h
theorem ite2 {c A B:Prop} [Decidable c] (h1:c -> A) (h2:¬ c -> B):if c then A else B:=by
 by_cases h:c
 ·rw [if_pos h]
  exact h1 h
 ·rw [if_neg h]
  exact h2 h
theorem zDq {c A B:Prop} [Decidable c] (hc:c) (h:B):if (!decide c) = true then A else B:=by
 rw [decide_eq_true hc]
 exact iteF h
def Same (H H':Hp):Prop:=∀ b o,H b = some o -> H' b = some o
theorem Same.refl (H:Hp):Same H H:=fun _ _ h=>h
theorem Same.trans {H H1 H2:Hp} (a:Same H H1) (b:Same H1 H2):Same H H2:=fun c o h=>b c o (a c o h)
theorem Same.free {H H':Hp} (e:Same H H') {l:Addr} (h:H' l = Option.none):H l = Option.none:=by
 cases q:H l with
 | none=>rfl
 | some o =>
  rw [e l o q] at h
  cases h
theorem Same.seq {K:PySem.W.Frag} {H H':Hp} {a:Addr} {xs:List V} (e:Same H H') (h:SqL K H a xs):SqL K H' a xs:=by
 rcases h with (h | ⟨o,h⟩) | h
 ·exact .inl (.inl (e _ _ h))
 ·exact .inl (.inr ⟨o,e _ _ h⟩)
 ·exact .inr h
end L2
namespace L2
open PySem PySem.Spec PyProof.Rows
section
variable {prog:Program} {w:World} {A:Around} {R:Result -> Shared -> Prop} {s:Shared}
theorem zFq {elt target iter:Expr} {ifs:List Expr} {scope:Scope} {pos:Pos} {it acc:Value} {env:Env} (I:Nat -> Shared -> Prop)
  (turn:∀ n s,I n s -> wpAny (model prog w) A (pyNext it) (fun r s₁=>match r with
   | none=>R (.ok .next) s₁
   | some v=>wpAny (model prog w) A (letOwnedTupleGo target it v) (fun _ s₁'=>wpAny (model prog w) A (assign target env v) (fun _ s₂ =>
     wpAny (model prog w) A (forIn ifs true fun c r=>if r = true then do let ok <- isTrue c env (eval c env); pure (ForInStep.yield ok) else pure (ForInStep.yield r)) (fun ok s₃ =>
      if ok = true then wpAny (model prog w) A (eval elt env) (fun x s₄ =>
       wpAny (model prog w) A (call (.builtin "list.append") [acc,x]) (fun _ s₅=>∃ m,m < n /\ I m s₅) (notedBy (model prog w) A env fun e s'=>R (.error e) s') s₄) (notedBy (model prog w) A env fun e s'=>R (.error e) s') s₃
      else ∃ m,m < n /\ I m s₃) (notedBy (model prog w) A env fun e s'=>R (.error e) s') s₂) (notedBy (model prog w) A env fun e s'=>R (.error e) s') s₁') (notedBy (model prog w) A env fun e s'=>R (.error e) s') s₁) (notedBy (model prog w) A env fun e s'=>R (.error e) s') s)
  (n:Nat) (h:I n s) :
  codeAny (model prog w) A (.compLoop (.ListComp elt [⟨target,iter,ifs,0⟩] scope pos) 0 it acc env) R s:=by
 refine codeAny_loop rfl I (fun n s hI=>?_) n h
 show wpAny _ A ((compTurn (.ListComp elt [⟨target,iter,ifs,0⟩] scope pos) 0 it acc env).onRaise (fun x=>do noteFrame x env; theTreesLotGoes x)) _ _ s
 refine wpAny_noted ?_
 rw [compTurn_list]
 refine wpAny_bind (wpAny_standAt (wpAny_bind (wpAny_mono (turn n s hI) (fun r s₁ h₁=>?_) fun _ _ h'=>h')))
 cases r with
 | none=>exact wpAny_pure h₁
 | some v =>
  refine wpAny_bind (wpAny_mono h₁ (fun _ s₁' h₁=>?_) fun _ _ h'=>h')
  refine wpAny_bind (wpAny_mono h₁ (fun _ s₂ h₂=>wpAny_bind (wpAny_mono h₂ (fun ok s₃ h₃=>?_) fun _ _ h'=>h')) fun _ _ h'=>h')
  cases ok with
  | false=>exact wpAny_pure ⟨rfl,h₃⟩
  | true =>
   exact wpAny_bind (wpAny_bind (wpAny_mono h₃ (fun x s₄ h₄=>wpAny_bind (wpAny_mono h₄ (fun _ s₅ h₅=>wpAny_pure (wpAny_pure ⟨rfl,h₅⟩)) fun _ _ h'=>h')) fun _ _ h'=>h'))
end
def y0l (env:Env):List (Str × NameKind) -> List (Str × Addr) -> List (Str × Addr)
 | [],cs=>cs
 | (n,k) :: r,cs=>y0l env r (if k == .free then (n,(env.cells.lookup n).getD 0) :: cs else cs)
def clos (scope:Scope) (env:Env):List (Str × Addr):=y0l env scope.names []
theorem z8m {env:Env}:∀ (ns:List (Str × NameKind)) (cs:List (Str × Addr)),(∀ x ∈ ns,x.2 = .free -> ∃ c,env.cells.lookup x.1 = some c) ->
  (forIn ns cs fun (x:Str × NameKind) (r:List (Str × Addr))=>(match x with | (name,kind)=>if kind == .free then do let c <- cellOf env name; pure (ForInStep.yield ((name,c) :: r)) else pure (ForInStep.yield r):Sem (ForInStep (List (Str × Addr))))) = (pure (y0l env ns cs):Sem (List (Str × Addr)))
 | [],cs,_=>rfl
 | (n,k) :: r,cs,h=>by
  rw [List.forIn_cons]
  by_cases hk:k = .free
  ·subst hk
   obtain ⟨c,hc⟩:=h (n,.free) List.mem_cons_self rfl
   have e:cellOf env n = pure c:=by
    have hc':env.cells.lookup n = some c:=hc
    unfold cellOf; rw [hc']
   simp only [beq_self_eq_true,if_true,e,pure_bind]
   rw [z8m r _ fun x hx=>h x (List.mem_cons_of_mem _ hx)]
   have hc':env.cells.lookup n = some c:=hc
   simp [y0l,hc']
  ·have hb:(k == NameKind.free) = false:=by simpa using hk
   simp only [hb,Bool.false_eq_true,if_false,pure_bind]
   rw [z8m r _ fun x hx=>h x (List.mem_cons_of_mem _ hx)]
   simp [y0l,hb]
theorem z8s {scope:Scope} {env:Env} (h:∀ x ∈ scope.names,x.2 = .free -> ∃ c,env.cells.lookup x.1 = some c):closureFor scope env = pure (clos scope env):=by
 unfold closureFor clos
 have:=z8m (env:=env) scope.names [] h
 simp only [bind_pure]
 exact this
theorem zEj {env:Env} {x:Str} {c:Addr}:∀ (ns:List (Str × NameKind)) (cs:List (Str × Addr)),(∀ y ∈ ns,y.2 = .free -> ∃ c,env.cells.lookup y.1 = some c) -> (∀ c,cs.lookup x = some c -> env.cells.lookup x = some c) ->
  (y0l env ns cs).lookup x = some c -> env.cells.lookup x = some c
 | [],cs,_,hc,e=>hc c e
 | (n,k) :: r,cs,h,hc,e=>by
  refine zEj r _ (fun y hy=>h y (List.mem_cons_of_mem _ hy)) (fun c' e'=>?_) e
  by_cases hk:k = .free
  ·subst hk
   obtain ⟨c₁,h₁⟩:=h (n,.free) List.mem_cons_self rfl
   have h₁':env.cells.lookup n = some c₁:=h₁
   simp only [beq_self_eq_true,if_true,List.lookup_cons] at e'
   cases hx:x == n with
   | true =>
    rw [hx] at e'
    have hxn:x = n:=by simpa using hx
    subst hxn
    rw [h₁'] at e' ⊢
    exact e'
   | false=>rw [hx] at e'; exact hc c' e'
  ·have hb:(k == NameKind.free) = false:=by simpa using hk
   simp only [hb,Bool.false_eq_true,if_false] at e'
   exact hc c' e'
theorem zBp {env:Env} {x:Str}:∀ (ns:List (Str × NameKind)) (cs:List (Str × Addr)),((x,NameKind.free) ∈ ns \/ ∃ c,cs.lookup x = some c) -> ∃ c,(y0l env ns cs).lookup x = some c
 | [],cs,h=>h.elim (fun z=>nomatch z) fun z=>z
 | (n,k) :: r,cs,h=>by
  refine zBp r _ ?_
  rcases h with h | ⟨c,h⟩
  ·rcases List.mem_cons.mp h with e | h
   ·cases e
    right
    simp
   ·exact .inl h
  ·right
   by_cases hk:k = .free
   ·subst hk
    simp only [beq_self_eq_true,if_true,List.lookup_cons]
    cases x == n with
    | true=>exact ⟨_,rfl⟩
    | false=>exact ⟨c,h⟩
   ·have hb:(k == NameKind.free) = false:=by simpa using hk
    simp only [hb,Bool.false_eq_true,if_false]
    exact ⟨c,h⟩
theorem z7n {env:Env} {x:Str} {k':NameKind}:∀ {names:List (Str × NameKind)},
  (names.map fun (n,k)=>if (k == NameKind.free && env.scope.kind == .function && env.kindOf n == some .cell) then (n,NameKind.cell) else (n,k)).lookup x = some k' ->
  ∃ k,names.lookup x = some k /\ (x,k) ∈ names /\ (k' = k \/ (k = .free /\ k' = .cell))
 | [],h=>by simp at h
 | (n,k) :: r,h=>by
  have ih:=@z7n env x k' r
  have h':List.lookup x ((if (k == NameKind.free && env.scope.kind == .function && env.kindOf n == some .cell) = true then (n,NameKind.cell) else (n,k)) :: r.map fun (n,k)=>if (k == NameKind.free && env.scope.kind == .function && env.kindOf n == some .cell) then (n,NameKind.cell) else (n,k)) = some k':=h
  cases hx:x == n with
  | true =>
   have hxn:x = n:=by simpa using hx
   subst hxn
   refine ⟨k,by simp,List.mem_cons_self,?_⟩
   by_cases hc:(k == NameKind.free && env.scope.kind == .function && env.kindOf x == some .cell) = true
   ·rw [if_pos hc] at h'
    simp at h'
    have hk:k = .free:=by
     cases k <;> simp at hc ⊢
    exact .inr ⟨hk,h'.symm⟩
   ·rw [if_neg hc] at h'
    simp at h'
    exact .inl h'.symm
  | false =>
   have h2:(r.map fun (n,k)=>if (k == NameKind.free && env.scope.kind == .function && env.kindOf n == some .cell) then (n,NameKind.cell) else (n,k)).lookup x = some k':=by
    by_cases hc:(k == NameKind.free && env.scope.kind == .function && env.kindOf n == some .cell) = true
    ·rw [if_pos hc] at h'; simp only [List.lookup_cons,hx] at h'; exact h'
    ·rw [if_neg hc] at h'; simp only [List.lookup_cons,hx] at h'; exact h'
   obtain ⟨k0,e1,e2,e3⟩:=ih h2
   exact ⟨k0,by simp only [List.lookup_cons,hx]; exact e1,List.mem_cons_of_mem _ e2,e3⟩
def cxC (X:Cx) (scope:Scope) (N:List Str) (C:Addr) (s:Shared) (H:Hp) (ex:List Addr):Cx :=
 { X with N:=N,s₀:=s,H₀:=H,env:=compEnvC scope (clos scope X.env) C X.env,outer:=X.stack,stack:=X.stack,ex:=ex,fn:=fun _=>false,pn:=[],xe:=fun _ _=>False }
structure CScope (X:Cx) (scope:Scope) (ls:List Str) (fr:List (Str × Nat)):Prop where
 kind:scope.kind = .function
 nocell:∀ y ∈ scope.names,y.2 ≠ .cell
 names:∀ y ∈ scope.names,y.2 = .local -> scope.names.lookup y.1 = some .local
 free:∀ y ∈ scope.names,y.2 = .free -> X.env.kindOf y.1 = some .cell \/ X.env.kindOf y.1 = some .free
 slots:∀ p ∈ fr,X.N[p.2]? = some p.1 /\ scope.names.lookup p.1 = some .free
def zDk (ls:List Str) (fr:List (Str × Nat)) (σ:St):St:=ls.map (fun _=>none) ++ fr.map fun p=>(σ[p.2]?).join
section
variable {X:Cx} {scope:Scope} {ls:List Str} {fr:List (Str × Nat)}
theorem CScope.cells {pins:List (Addr × Obj)} {σ:St} {H:Hp} {s:Shared} (S:CScope X scope ls fr) (I:Inv X pins σ H s):∀ x ∈ scope.names,x.2 = .free -> ∃ c,X.env.cells.lookup x.1 = some c :=
 fun x hx hk=>I.ok.has x.1 (S.free x hx hk)
theorem CScope.look {pins:List (Addr × Obj)} {σ:St} {H:Hp} {s:Shared} (S:CScope X scope ls fr) (I:Inv X pins σ H s) {x:Str} {c:Addr} (e:(clos scope X.env).lookup x = some c):X.env.cells.lookup x = some c :=
 zEj scope.names [] (S.cells I) (fun _ z=>by simp at z) e
theorem y6q {pins:List (Addr × Obj)} {σ:St} {H:Hp} {s:Shared} {C:Addr} {ex:List Addr} (S:CScope X scope ls fr) (I:Inv X pins σ H s) (hC:s.heap.objs.size <= C) (hex:∀ b ∈ ex,FpOk X pins H b /\ b < s.heap.objs.size) :
  (cxC X scope (ls ++ fr.map (·.1)) C s H ex).Ok where
 mod:=I.ok.mod
 kind:=S.kind
 glob:=I.ok.glob
 blt:=I.ok.blt
 above:=hC
 inj:=fun x y c e1 e2=>I.ok.inj x y c (S.look I e1) (S.look I e2)
 has:=fun x h=>by
  have h':∃ k',(relabel scope X.env).names.lookup x = some k' /\ (k' = .cell \/ k' = .free):=h.elim (fun z=>⟨_,z,.inl rfl⟩) fun z=>⟨_,z,.inr rfl⟩
  obtain ⟨k',e,hk⟩:=h'
  obtain ⟨k,e1,e2,e3⟩:=z7n e
  refine zBp scope.names [] (.inl ?_)
  have hn:=S.nocell _ e2
  rcases e3 with rfl | ⟨rfl,_⟩
  ·rcases hk with rfl | rfl
   ·exact absurd rfl hn
   ·exact e2
  ·exact e2
 cab:=fun x c h=>nomatch h
 hd:=I.ok.hd
 frames:=I.ok.frames
 stk:=.inl rfl
 exf:=fun b hb=>by
  obtain ⟨⟨f0,f1,f2,f3,f4,f5⟩,hl⟩:=hex b hb
  exact ⟨Nat.ne_of_lt (Nat.lt_of_lt_of_le hl hC),fun x c e=>f4 x c (S.look I e)⟩
 bs:=I.bs
 bsz:=Nat.le_trans I.ok.bsz I.sz
 noex:=fun b o e hb=>by
  obtain ⟨⟨f0,f1,f2,f3,f4,f5⟩,hl⟩:=hex b hb
  rcases f3 with z | z
  ·exact I.ok.noex b o e z
  ·exact absurd (Nat.lt_of_lt_of_le (Heap.lt_size e) (Nat.le_trans I.ok.bsz z)) (Nat.lt_irrefl _)
 exfs:=fun b hb hf=>by
  obtain ⟨⟨f0,f1,f2,f3,f4,f5⟩,hl⟩:=hex b hb
  exact (List.mem_cons.mp (I.stkSub b hf)).elim f1 f2
 funs:=I.stack
 frf:=I.stkFree
theorem yAn {pins:List (Addr × Obj)} {σ:St} {H:Hp} {s s':Shared} {C:Addr} {m:Str -> Option Value} {ex:List Addr} (S:CScope X scope ls fr) (I:Inv X pins σ H s) (hC:s.heap.objs.size <= C) (hex:∀ b ∈ ex,FpOk X pins H b /\ b < s.heap.objs.size)
  (ho:s'.os = s.os) (hg:AllBare s'.gens) (k:∀ b o,s.heap.get? b = some o -> s'.heap.get? b = some o) (hn:s'.heap.Ns C m):Inv (cxC X scope (ls ++ fr.map (·.1)) C s H ex) [] (zDk ls fr σ) H s' where
 ok:=y6q S I hC hex
 os:=ho
 bare:=hg
 base:=Un.kept k
 loc:=by
  refine ⟨m,hn,fun i x v e1 e2 e3=>?_⟩
  have e2':(ls.map (fun _=>(none:Option V)) ++ fr.map fun p=>(σ[p.2]?).join)[i]? = some (some v):=e2
  have e1':(ls ++ fr.map (·.1))[i]? = some x:=e1
  by_cases hi:i < ls.length
  ·rw [List.getElem?_append_left (by simpa using hi),List.getElem?_map] at e2'
   cases q:ls[i]? with
   | none=>rw [q] at e2'; cases e2'
   | some y=>rw [q] at e2'; cases e2'
  ·have hi':ls.length <= i:=Nat.le_of_not_lt hi
   rw [List.getElem?_append_right (by simpa using hi'),List.getElem?_map,List.length_map] at e2'
   rw [List.getElem?_append_right hi',List.getElem?_map] at e1'
   cases q:fr[i - ls.length]? with
   | none=>rw [q] at e1'; cases e1'
   | some p =>
    rw [q] at e1' e2'
    have ex1:p.1 = x:=Option.some.inj e1'
    have hp:p ∈ fr:=List.mem_of_getElem? q
    obtain ⟨hsl,hfree⟩:=S.slots p hp
    subst ex1
    have hv:σ[p.2]? = some (some v):=by
     have z:(σ[p.2]?).join = some v:=Option.some.inj e2'
     cases w:σ[p.2]? with
     | none=>rw [w] at z; cases z
     | some o=>rw [w] at z; exact congrArg some z
    obtain ⟨m0,hn0,hl⟩:=id I.loc
    have vis':∃ k',(relabel scope X.env).names.lookup p.1 = some k' /\ (k' = .local \/ k' = .cell \/ k' = .free):=by
     rcases e3 with z | z | z
     ·exact ⟨_,z,.inl rfl⟩
     ·exact ⟨_,z,.inr (.inl rfl)⟩
     ·exact ⟨_,z,.inr (.inr rfl)⟩
    obtain ⟨k',ek,_⟩:=vis'
    obtain ⟨k0,f1,f2,f3⟩:=z7n ek
    rw [hfree] at f1
    cases f1
    have hk:=S.free _ f2 rfl
    have hk':k' = .cell \/ k' = .free:=f3.elim .inr fun z=>.inl z.2
    have hvis:Vis X.env.scope p.1:=hk.elim (fun z=>.inr (.inl z)) fun z=>.inr (.inr z)
    obtain ⟨u,ru,lk⟩:=hl p.2 p.1 v hsl hv hvis
    obtain ⟨c',hc'⟩:∃ c,(clos scope X.env).lookup p.1 = some c:=zBp scope.names [] (.inl f2)
    refine ⟨u,ru,.inr ⟨hk'.elim (fun z=>.inl (z ▸ ek)) fun z=>.inr (z ▸ ek),c',hc',?_⟩⟩
    rcases lk with ⟨z,_⟩ | ⟨_,c,ec,ic⟩
    ·rcases hk with y | y <;> (rw [y] at z; cases z)
    ·have:=S.look I hc'
     rw [ec] at this
     cases this
     exact ic.keeps k
 cell:=fun x c e=>by
  obtain ⟨v,z⟩:=I.cell x c (S.look I e)
  exact ⟨v,z.keeps k⟩
 free:=I.hok.fresh hC
 freeC:=fun x c e=>I.freeC x c (S.look I e)
 pin:=fun p hp=>nomatch hp
 hok:=I.hok.kept k
 len:=by simp [zDk,cxC]
def PF (X:Cx) (ifs:List Expr) (t:TT):Prop :=
 ∀ (pins:List (Addr × Obj)) (s:Shared) (σ:St) (H:Hp) (Q:Bool -> Hp -> Prop),Inv X pins σ H s -> t σ H Q ->
  wpAny (model X.prog X.w) X.A (forIn ifs true fun c r=>if r = true then do let ok <- isTrue c X.env (eval c X.env); pure (ForInStep.yield ok) else pure (ForInStep.yield r)) (TP X pins σ Q) X.xe s
def tYes:TT:=fun _ H Q=>Q true H
theorem z3v {X:Cx}:PF X [] tYes:=fun pins s σ H Q I h=>wpAny_tests_nil ⟨H,I,h⟩
theorem y3d {X:Cx} {c:Expr} {t:TT} (h:PT X c t):PF X [c] t:=fun pins s σ H Q I hw=>wpAny_tests_one (h pins s σ H Q I hw)
theorem HOk.add {P:Program} {w:World} {H:Hp} {h:Heap} {a:Addr} {o:HO} (x:HOk P w H h) (hn:H a = none) (new:z2n P w (upd H a o) h a o):HOk P w (upd H a o) h:=fun b u e=>by
 by_cases hb:b = a
 ·subst hb; rw [z0c] at e; cases e; exact new
 ·rw [z0n hb] at e
  exact (x b u e).stay (fun _ _ _ q=>q) (fun c q=>by rw [z0n (z0r q hn)]; exact q) fun c xs q=>by rw [z0n (z0r q hn)]; exact q
theorem Un.add {fs ex:List Addr} {H H':Hp} {h h':Heap} {a:Addr} {o:HO} (u:Un fs ex H H' h h') (ha:h.objs.size <= a) (hn:H' a = none):Un fs ex H (upd H' a o) h h' where
 keep:=u.keep
 slot:=u.slot
 free:=fun b ob q n hx=>by rw [z0n (Nat.ne_of_lt (Nat.lt_of_lt_of_le (Heap.lt_size q) ha))]; exact u.free b ob q n hx
 there:=u.there
 tups:=fun b xs q=>by
  have z:=u.tups b xs q
  rw [z0n (z0r z hn)]; exact z
 frzs:=fun b ob xs q=>by
  have z:=u.frzs b ob xs q
  rw [z0n (z0r z hn)]; exact z
 tbls:=fun b ps q=>by
  obtain ⟨more,z⟩:=u.tbls b ps q
  exact ⟨more,by rw [z0n (z0r z hn)]; exact z⟩
def z9j (g:TG) (tf:TT) (te:TE) (σ0:St) (J:It) (H:Hp) (Q:VK):Prop :=
 ∃ W:Nat -> Nat -> List V -> St -> Hp -> Prop,(∃ m,W 0 m [] σ0 H) /\ ∀ i m ys σ H,W i m ys σ H ->
  (J.stop i H /\ ys.length <= sizeLine /\ ∀ p,H p = none -> Q (.ref p) (upd H p (.lst ys))) \/
  (J.go i H /\ ys.length <= sizeLine /\ ∃ N:List V -> St -> Hp -> Prop,(∀ ys σ' H',N ys σ' H' -> ∃ m',m' < m /\ W (i + 1) m' ys σ' H') /\ ∀ x H1,J.yld i H x H1 -> g x σ H1 fun σ2 H2=>tf σ2 H2 fun b H3=>if b = true then te σ2 H3 fun v H4=>N (ys ++ [v]) σ2 H4 else N ys σ2 H3)
def yGi (wi:TI) (ls:List Str) (fr:List (Str × Nat)) (g:TG) (tf:TT) (te:TE):TE:=fun σ H Q=>wi σ H fun J H1=>z9j g tf te (zDk ls fr σ) J H1 Q
theorem zEm {pins:List (Addr × Obj)} {σ:St} {H:Hp} {s:Shared} {it:Addr} {fp:List Addr} {tn:Nat -> Heap -> Prop} {J:It} {tg elt iter:Expr} {ifs:List Expr} {pos:Pos} {g:TG} {tf:TT} {te:TE} {Q:VK} {E:Value -> Shared -> Prop} {RR:Value -> Addr -> Result -> Shared -> Prop}
  (S:CScope X scope ls fr) (hc:X.calm = true) (I:Inv X pins σ H s) (T:Turn X.prog X.w X.K tg J fp it tn) (st:tn 0 s.heap) (hf:∀ b ∈ fp,FpOk X pins H b) (hq:z9j g tf te (zDk ls fr σ) J H Q)
  (hg:∀ C s H ex,PG (cxC X scope (ls ++ fr.map (·.1)) C s H ex) tg g) (ht:∀ C s H ex,PF (cxC X scope (ls ++ fr.map (·.1)) C s H ex) ifs tf) (he:∀ C s H ex,PE (cxC X scope (ls ++ fr.map (·.1)) C s H ex) elt te)
  (hRR:∀ (D C:Addr) (s':Shared) (H':Hp) (m:Str -> Option Value),Inv X pins σ H' s' -> s'.heap.Ns C m -> s.heap.objs.size <= C -> H' C = none -> Q (.ref D) H' -> RR (.ref D) C (.ok .next) s') :
  wpAny (model X.prog X.w) X.A (newList []) (fun acc s₃=>wpAny (model X.prog X.w) X.A (newFunctionEnv scope X.env.globals (clos scope X.env) [] X.env.qual none .none (some X.env)) (fun cenv s₄ =>
   codeAny (model X.prog X.w) X.A (.compStart (.ListComp elt [⟨tg,iter,ifs,0⟩] scope pos) 0 (.ref it) acc { cenv with scope:=relabel scope X.env }) (RR acc cenv.locals) s₄) E s₃) E s:=by
 refine wpAny_newObj_type (wpAny_newFunctionEnv S.nocell (by intro y hy; simp at hy) (fun h₁ hns₁ hsb₁=>?_) S.kind)
 dsimp only at hns₁ hsb₁ ⊢
 generalize hH2:s.heap.push { cls:=.type "list",dict:=none,data:=.seq ([]:List Value).toArray } = H2 at hns₁ hsb₁ ⊢
 have hC:H2.objs.size = s.heap.objs.size + 1:=by rw [<- hH2,Heap.size_push]
 have hDC:s.heap.objs.size ≠ H2.objs.size:=by rw [hC]; exact Nat.ne_of_lt (Nat.lt_succ_self _)
 have hCle:s.heap.objs.size <= H2.objs.size:=by rw [hC]; exact Nat.le_succ _
 have below:∀ b,b < s.heap.objs.size -> b ≠ H2.objs.size /\ b ≠ s.heap.objs.size:=fun b hb=>⟨by rw [hC]; exact Nat.ne_of_lt (Nat.lt_succ_of_lt hb),Nat.ne_of_lt hb⟩
 have old:∀ b o,s.heap.get? b = some o -> h₁.get? b = some o:=fun b o e=>hsb₁.extBut b o (below b (Heap.lt_size e)).1 (Heap.get?_push_of_some _ (hH2 ▸ Heap.get?_push_of_some _ e))
 have hacc:h₁.PlainList s.heap.objs.size #[]:=⟨_,hsb₁.extBut _ _ hDC (Heap.get?_push_of_some _ (hH2 ▸ Heap.get?_push_size _ rfl))⟩
 have hfl:∀ b ∈ fp,b < s.heap.objs.size:=fun b hb=>by
  obtain ⟨o,e,_⟩:=T.obj _ _ st b hb
  exact Heap.lt_size e
 have hex:∀ b ∈ fp,FpOk X pins H b /\ b < s.heap.objs.size:=fun b hb=>⟨hf b hb,hfl b hb⟩
 generalize hs4:({ s with heap:=h₁,toks:=s.toks + ([]:List (Str × Value)).length }:Shared) = s4
 generalize hX:cxC X scope (ls ++ fr.map (·.1)) H2.objs.size s H fp = Y
 have I4:Inv Y [] (zDk ls fr σ) H s4:=by
  rw [<- hX,<- hs4]
  exact yAn S I hCle hex rfl I.bare old hns₁
 have YP:Y.prog = X.prog:=by rw [<- hX]; rfl
 have Yw:Y.w = X.w:=by rw [<- hX]; rfl
 have YK:Y.K = X.K:=by rw [<- hX]; rfl
 have YA:Y.A = X.A:=by rw [<- hX]; rfl
 have Yc:Y.calm = true:=by rw [<- hX]; exact hc
 have Yx:Y.xe = fun _ _=>False:=by rw [<- hX]; rfl
 have Yl:Y.env.locals = H2.objs.size:=by rw [<- hX]; rfl
 have Yok:(cxC X scope (ls ++ fr.map (·.1)) H2.objs.size s H fp).Ok:=y6q S I hCle hex
 have fpY:∀ {H':Hp} {o:Obj},(∀ b ∈ fp,H' b = none) -> ∀ b ∈ fp,FpOk Y [(s.heap.objs.size,o)] H' b:=fun {H' o} hn b hb=>by
  rw [<- hX]
  obtain ⟨f0,f1,f2,f3,f4,f5⟩:=hf b hb
  refine ⟨hn b hb,(below b (hfl b hb)).1,fun z=>Yok.exfs b hb z,.inl hb,fun x c e=>f4 x c (S.look I e),fun p hp=>?_⟩
  have e:p = (s.heap.objs.size,o):=by simpa [cxC] using hp
  subst e
  exact Ne.symm (below b (hfl b hb)).2
 have pinD:∀ {σ':St} {H':Hp} {s':Shared} {its:Array Value} {n:Nat},Inv Y [] σ' H' s' -> H' s.heap.objs.size = none -> s'.heap.get? s.heap.objs.size = some { cls:=.type "list",data:=.seq its n } ->
   Inv Y [(s.heap.objs.size,{ cls:=.type "list",data:=.seq its n })] σ' H' s':=fun {σ' H' s' its n} I' hn e=>I'.pins_of fun p hp=>by
  have ep:p = (s.heap.objs.size,{ cls:=.type "list",data:=.seq its n }):=by simpa using hp
  subst ep
  refine ⟨e,hn,by rw [Yl]; exact hDC,?_,fun v z=>nomatch z⟩
  rw [<- hX]
  exact fun hb=>I.nofs (Nat.le_refl _) ((List.mem_cons.mp (I.stkSub _ hb)).resolve_left fun z=>absurd I.lt (by rw [<- z]; exact Nat.lt_irrefl _))
 obtain ⟨W,⟨m0,w0⟩,turn⟩:=hq
 have E1:∀ {α:Type} {t:Sem α} {Q1:α -> Shared -> Prop} {s1:Shared} {E1:Value -> Shared -> Prop},wpAny (model X.prog X.w) X.A t Q1 Y.xe s1 -> wpAny (model X.prog X.w) X.A t Q1 E1 s1:=fun h=>wpAny_mono h (fun _ _ z=>z) fun _ _ z=>by rw [Yx] at z; exact z.elim
 have endC:∀ {σ':St} {H':Hp} {s':Shared} {its:List Value} {ys:List V},Inv Y [] σ' H' s' -> H' s.heap.objs.size = none -> s'.heap.PlainList s.heap.objs.size its.toArray -> Vals ys its -> ys.length <= sizeLine ->
   (∀ p,H' p = none -> Q (.ref p) (upd H' p (.lst ys))) -> RR (.ref s.heap.objs.size) H2.objs.size (.ok .next) s':=fun {σ' H' s' its ys} I' hn ⟨n,e⟩ rv hz q=>by
  subst hX
  obtain ⟨m,hm,_⟩:=id I'.loc
  have hCn:H' H2.objs.size = none:=I'.free
  refine hRR _ _ s' (upd H' s.heap.objs.size (.lst ys)) m (I.call' I'.os (Un.add I'.base (Nat.le_refl _) hn) (I'.hok.add hn ⟨hz,its,n,rv,e⟩) I'.bare fun b hb=>?_) hm hCle (by rw [z0n (Ne.symm hDC)]; exact hCn) (q _ hn)
  obtain ⟨f0,f1,f2,f3,f4,f5⟩:=hf b hb
  exact ⟨f3,f1,f4,f5⟩
 have loop:codeAny (model X.prog X.w) X.A (.compLoop (.ListComp elt [⟨tg,iter,ifs,0⟩] scope pos) 0 (.ref it) (.ref s.heap.objs.size) Y.env) (RR (.ref s.heap.objs.size) H2.objs.size) s4:=by
  refine zFq (fun n s'=>∃ (i:Nat) (σ':St) (H':Hp) (ys:List V) (its:List Value),Inv Y [] σ' H' s' /\ tn i s'.heap /\ (∀ b ∈ fp,H' b = none) /\ H' s.heap.objs.size = none /\ s'.heap.PlainList s.heap.objs.size its.toArray /\ Vals ys its /\ W i n ys σ' H') ?_ m0
   ⟨0,zDk ls fr σ,H,[],[],I4,T.keep _ _ _ st fun b _ o e=>by rw [<- hs4]; exact old b o e,fun b hb=>(hf b hb).1,I.hok.fresh (Nat.le_refl _),by rw [<- hs4]; exact hacc,.nil,w0⟩
  rintro n s5 ⟨i,σ5,H5,ys,its,I5,st5,fr5,hn5,⟨nn,e5⟩,rv,w5⟩
  have I5p:=pinD I5 hn5 e5
  rcases turn i n ys σ5 H5 w5 with ⟨stop,hz,qn⟩ | ⟨go,hz,NN,hNN,step⟩
  ·rw [<- YA]
   refine thn (T.done Y YP Yw YK Yc i _ s5 σ5 H5 _ I5p (fpY fr5) st5 stop) fun r s6 ⟨hr,I6⟩=>?_
   subst hr
   exact endC (I6.pins_of fun p hp=>nomatch hp) hn5 ⟨nn,(I6.pin _ (List.mem_append_right _ List.mem_cons_self)).1⟩ rv hz qn
  ·have hit:=T.item Y YP Yw YK Yc i _ s5 σ5 H5 (notedBy (model X.prog X.w) X.A Y.env fun e s'=>RR (Value.ref s.heap.objs.size) H2.objs.size (Except.error e) s') I5p (fpY fr5) st5 go
   rw [YA] at hit
   refine thn hit fun r s6 ⟨u,hr,h6⟩=>?_
   subst hr
   refine thn h6 fun _ s7 ⟨x,H7,I7,r7,y7,st7,fr7⟩=>?_
   have I7':=I7.pinned (fpY fr7) (T.obj _ _ st7)
   have h8:=hg H2.objs.size s H fp
   have h9:=ht H2.objs.size s H fp
   have h10:=he H2.objs.size s H fp
   rw [hX] at h8 h9 h10
   have a8:=h8 _ s7 σ5 H7 x u _ I7' r7 (step x H7 y7)
   rw [YP,Yw,YA] at a8
   refine thn (E1 a8) fun _ s8 ⟨σ8,H8,I8,q8⟩=>?_
   have a9:=h9 _ s8 σ8 H8 _ I8 q8
   rw [YP,Yw,YA] at a9
   refine thn (E1 a9) fun b s9 ⟨H9,I9,q9⟩=>?_
   have back:∀ {σ':St} {H':Hp} {s':Shared},Inv Y ([(s.heap.objs.size,{ cls:=.type "list",data:=.seq its.toArray nn })] ++ zJl fp s7.heap) σ' H' s' ->
     tn (i + 1) s'.heap /\ (∀ b ∈ fp,H' b = none) /\ H' s.heap.objs.size = none /\ s'.heap.PlainList s.heap.objs.size its.toArray:=fun {σ' H' s'} I'=>by
    have hp:=I'.pin (s.heap.objs.size,{ cls:=.type "list",data:=.seq its.toArray nn }) (List.mem_append_right _ (List.mem_append_left _ List.mem_cons_self))
    refine ⟨T.keep _ _ _ st7 fun b hb o e=>(I'.pin (b,o) (List.mem_append_right _ (List.mem_append_right _ (z7r hb e)))).1,fun b hb=>?_,hp.2.1,⟨nn,hp.1⟩⟩
    obtain ⟨o,e,d⟩:=T.obj _ _ st7 b hb
    exact (I'.pin (b,o) (List.mem_append_right _ (List.mem_append_right _ (z7r hb e)))).2.1
   cases b with
   | false =>
    rw [if_neg Bool.false_ne_true] at q9 ⊢
    obtain ⟨m',hm,w9⟩:=hNN _ _ _ q9
    obtain ⟨z1,z2,z3,z4⟩:=back I9
    exact ⟨m',hm,i + 1,σ8,H9,ys,its,I9.pins_of (fun p hp=>nomatch hp),z1,z2,z3,z4,rv,w9⟩
   | true =>
    rw [if_pos rfl] at q9 ⊢
    have a10:=h10 _ s9 σ8 H9 _ I9 q9
    rw [YP,Yw,YA] at a10
    refine thn (E1 a10) fun xv s10 ⟨v,H10,I10,rx,q10⟩=>?_
    obtain ⟨m',hm,w10⟩:=hNN _ _ _ q10
    obtain ⟨z1,z2,z3,z4⟩:=back I10
    have hlen:its.length = ys.length:=(rv.length).symm
    refine wpAny_list_append_plain z4 (fun h' pl sb=>?_) (by rw [List.size_toArray,hlen]; exact hz)
    refine ⟨m',hm,i + 1,σ8,H10,ys ++ [v],its ++ [xv],?_,?_,z2,z3,?_,rv.append (.cons rx .nil),w10⟩
    ·have I10':Inv Y [] σ8 H10 s10:=I10.pins_of fun p hp=>nomatch hp
     refine I10'.turned (t':=s10.toks) (it:=s.heap.objs.size) (fun b o hb e=>(sb.2 b hb).trans e) z3 (by rw [Yl]; exact hDC) (.inr ?_) (fun x c e=>?_) fun p hp=>?_
     ·rw [<- hX]; exact Nat.le_refl _
     ·rw [<- hX] at e
      intro z
      obtain ⟨v0,q0⟩:=I.cell x c (S.look I e)
      exact absurd q0.lt (by rw [z]; exact Nat.lt_irrefl _)
     ·rw [<- hX] at hp; exact nomatch hp
    ·refine T.keep _ _ _ z1 fun b hb o e=>(sb.2 b (below b (hfl b hb)).2).trans e
    ·have:(its ++ [xv]).toArray = its.toArray.push xv:=by simp
     rw [this]; exact pl
 have hYe:Y.env = { newEnv scope H2.objs.size X.env.globals (clos scope X.env) X.env.qual none .none (some X.env) builtinsNs with scope:=relabel scope X.env }:=by rw [<- hX]; rfl
 rw [<- hYe]
 rw [hYe] at loop ⊢
 refine codeAny_compStart_list loop ?_
 exact T.self _ 0 _ _ _ (T.keep _ _ _ st fun b _ o e=>by rw [<- hs4]; exact old b o e) loop
theorem z2p {wi:TI} {tg elt iter:Expr} {ifs:List Expr} {pos:Pos} {g:TG} {tf:TT} {te:TE} (S:CScope X scope ls fr) (hc:X.calm = true) (hi:PI X tg iter wi)
  (hg:∀ C s H ex,PG (cxC X scope (ls ++ fr.map (·.1)) C s H ex) tg g) (ht:∀ C s H ex,PF (cxC X scope (ls ++ fr.map (·.1)) C s H ex) ifs tf) (he:∀ C s H ex,PE (cxC X scope (ls ++ fr.map (·.1)) C s H ex) elt te)
  (hs:∀ x,foldedSetIterable iter X.env x = pure x:=by intro _; rfl):PE X (.ListComp elt [⟨tg,iter,ifs,0⟩] scope pos) (yGi wi ls fr g tf te):=by
 intro pins s σ H Q I h
 rw [eval_ListComp]
 refine wpAny_comprehension_free (use:=none) rfl hs (z8s (S.cells I)) S.kind S.names (thn (hi pins s σ H _ I h) fun xv s₁ h₁=>thn h₁ fun itv s₂ h₂=>?_)
 obtain ⟨it,fp,tn,J,H2,rfl,I2,T,st,hf,q⟩:=h₂
 refine zEm (RR:=fun acc C=>compPost (model X.prog X.w) X.A X.xe none (EP X pins σ Q) acc C) S hc I2 T st hf q hg ht he ?_
 intro D C s' H' m I' hn hC hCn hq
 refine ⟨m,hn,fun h' sb=>?_⟩
 have nC:∀ {b:Addr},b < s₂.heap.objs.size -> b ≠ C:=fun hb=>Nat.ne_of_lt (Nat.lt_of_lt_of_le hb hC)
 refine ⟨.ref D,H',I'.turned (t':=s'.toks) (it:=C) (fun b o hb e=>(sb.2 b hb).trans e) hCn (Ne.symm (nC I2.lt)) (.inr (Nat.le_trans I2.sz hC)) (fun x c e=>?_) fun p hp=>?_,rfl,hq⟩
 ·obtain ⟨v0,q0⟩:=I2.cell x c e
  exact nC q0.lt
 ·exact nC (Heap.lt_size (I2.pin p hp).1)
theorem z9y {wi:TI} {tg elt iter:Expr} {ifs:List Expr} {pos spos py:Pos} {y:Str} {i:Nat} {g:TG} {tf:TT} {te:TE} (S:CScope X scope ls fr) (hc:X.calm = true) (hi:PI X tg iter wi)
  (hg:∀ C s H ex,PG (cxC X scope (ls ++ fr.map (·.1)) C s H ex) tg g) (ht:∀ C s H ex,PF (cxC X scope (ls ++ fr.map (·.1)) C s H ex) ifs tf) (he:∀ C s H ex,PE (cxC X scope (ls ++ fr.map (·.1)) C s H ex) elt te)
  (hN:X.N.Nodup) (hy:X.N[i]? = some y) (hl:X.env.scope.names.lookup y = some .local) (hsw:swapsWith (.ListComp elt [⟨tg,iter,ifs,0⟩] scope pos) (some (.Name y py)) spos.line X.env = pure true)
  (hs:∀ x,foldedSetIterable iter X.env x = pure x:=by intro _; rfl):PS X (.Assign [.Name y py] (.ListComp elt [⟨tg,iter,ifs,0⟩] scope pos) spos) (tAsg (yGi wi ls fr g tf te) (zBx i)):=by
 intro pins s σ H D I h
 rw [exec_Assign_Name_used _ _ _ _ hsw]
 refine wpAny_bind (wpAny_standAt (wpAny_bind ?_))
 show wpAny _ X.A (do let _ <- comprehension (.ListComp elt [⟨tg,iter,ifs,0⟩] scope pos) scope X.env _ (newList []) false (eval iter X.env) (some (assign (.Name y py) X.env))) _ _ s
 refine wpAny_bind (wpAny_mono (wpAny_comprehension_free (use:=some (assign (.Name y py) X.env)) (Q:=fun _ s'=>SP X pins D .next s') rfl hs (z8s (S.cells I)) S.kind S.names
  (thn (hi pins s σ H _ I h) fun xv s₁ h₁=>thn h₁ fun itv s₂ h₂=>?_)) (fun _ s' hq=>wpAny_pure (wpAny_pure hq)) fun _ _ e=>e)
 obtain ⟨it,fp,tn,J,H2,rfl,I2,T,st,hf,q⟩:=h₂
 refine zEm (RR:=fun acc C=>compPost (model X.prog X.w) X.A X.xe (some (assign (.Name y py) X.env)) (fun _ s'=>SP X pins D .next s') acc C) S hc I2 T st hf q hg ht he ?_
 intro D1 C s' H' m I' hn hC hCn hq
 have nC:∀ {b:Addr},b < s₂.heap.objs.size -> b ≠ C:=fun hb=>Nat.ne_of_lt (Nat.lt_of_lt_of_le hb hC)
 have cC:∀ x c,X.env.cells.lookup x = some c -> c ≠ C:=fun x c e=>by
  obtain ⟨v0,q0⟩:=I2.cell x c e
  exact nC q0.lt
 show wpAny _ X.A (assign (.Name y py) X.env (.ref D1)) _ _ _
 refine wpAny_assign_Name (y0a I' hN hy (.inl hl) (v:=.ref D1) rfl (fun s3 I3 hsb=>?_) (.inr hl))
 obtain ⟨a,sb1,ha⟩:=hsb
 have haC:C ≠ a:=by
  rcases ha with rfl | e
  ·exact Ne.symm (nC I2.lt)
  ·exact Ne.symm (cC _ _ e)
 refine ⟨m,hn.sameBut sb1 haC,fun h' sb=>⟨_,H',I3.turned (t':=s3.toks) (it:=C) (fun b o hb e=>(sb.2 b hb).trans e) hCn (Ne.symm (nC I2.lt)) (.inr (Nat.le_trans I2.sz hC)) cC fun p hp=>nC (Heap.lt_size (I2.pin p hp).1),hq⟩⟩
end
theorem z3t {K:PySem.W.Frag} {a:Addr} {xs:List V} {g:TG} {tf:TT} {te:TE} {σ:St} {H:Hp} {Q:VK} (Pv:Nat -> List V -> St -> Hp -> Prop) (h0:Pv 0 [] σ H) (hl:∀ i ys σ H,i <= xs.length -> Pv i ys σ H -> SqL K H a xs /\ ys.length <= sizeLine)
  (hs:∀ i x ys σ H,xs[i]? = some x -> Pv i ys σ H -> g x σ H fun σ2 H2=>tf σ2 H2 fun b H3=>if b = true then te σ2 H3 fun v H4=>Pv (i + 1) (ys ++ [v]) σ2 H4 else Pv (i + 1) ys σ2 H3)
  (hd:∀ ys σ H,Pv xs.length ys σ H -> ∀ p,H p = none -> Q (.ref p) (upd H p (.lst ys))):z9j g tf te σ (Itl K a) H Q:=by
 refine ⟨fun i m ys σ H=>m = xs.length - i /\ i <= xs.length /\ Pv i ys σ H,⟨xs.length,by simp,Nat.zero_le _,h0⟩,?_⟩
 rintro i m ys σ H ⟨rfl,hi,p⟩
 obtain ⟨q,hz⟩:=hl i ys σ H hi p
 by_cases hlt:i < xs.length
 ·refine .inr ⟨⟨xs,xs[i],q,by simp [hlt]⟩,hz,Pv (i + 1),fun ys' σ' H' p'=>⟨xs.length - (i + 1),by omega,rfl,hlt,p'⟩,fun x H' y=>?_⟩
  obtain ⟨e,y⟩:=y
  subst e
  exact hs i x ys σ _ (y xs q) p
 ·have e:i = xs.length:=by omega
  subst e
  exact .inl ⟨⟨xs,q,Nat.le_refl _⟩,hz,hd ys σ H p⟩
theorem zAy {K:PySem.W.Frag} {a:Addr} {xs:List V} {g:TG} {tf:TT} {te:TE} {σ:St} {H:Hp} {Q:VK} (Pv:Nat -> List V -> St -> Hp -> Prop) (h0:Pv 0 [] σ H) (hl:∀ i ys σ H,i <= xs.length -> Pv i ys σ H -> SqT K H a xs /\ ys.length <= sizeLine)
  (hs:∀ i x ys σ H,xs[i]? = some x -> Pv i ys σ H -> g x σ H fun σ2 H2=>tf σ2 H2 fun b H3=>if b = true then te σ2 H3 fun v H4=>Pv (i + 1) (ys ++ [v]) σ2 H4 else Pv (i + 1) ys σ2 H3)
  (hd:∀ ys σ H,Pv xs.length ys σ H -> ∀ p,H p = none -> Q (.ref p) (upd H p (.lst ys))):z9j g tf te σ (Itt K a) H Q:=by
 refine ⟨fun i m ys σ H=>m = xs.length - i /\ i <= xs.length /\ Pv i ys σ H,⟨xs.length,by simp,Nat.zero_le _,h0⟩,?_⟩
 rintro i m ys σ H ⟨rfl,hi,p⟩
 obtain ⟨q,hz⟩:=hl i ys σ H hi p
 by_cases hlt:i < xs.length
 ·refine .inr ⟨⟨xs,xs[i],q,by simp [hlt]⟩,hz,Pv (i + 1),fun ys' σ' H' p'=>⟨xs.length - (i + 1),by omega,rfl,hlt,p'⟩,fun x H' y=>?_⟩
  obtain ⟨e,y⟩:=y
  subst e
  exact hs i x ys σ _ (y xs q) p
 ·have e:i = xs.length:=by omega
  subst e
  exact .inl ⟨⟨xs,q,Nat.le_refl _⟩,hz,hd ys σ H p⟩
theorem z9o {lo:Int} {n:Nat} {g:TG} {tf:TT} {te:TE} {σ:St} {H:Hp} {Q:VK} (Pv:Nat -> List V -> St -> Hp -> Prop) (h0:Pv 0 [] σ H) (hl:∀ i ys σ H,i <= n -> Pv i ys σ H -> ys.length <= sizeLine)
  (hs:∀ i ys σ H,i < n -> Pv i ys σ H -> g (.int (lo + i)) σ H fun σ2 H2=>tf σ2 H2 fun b H3=>if b = true then te σ2 H3 fun v H4=>Pv (i + 1) (ys ++ [v]) σ2 H4 else Pv (i + 1) ys σ2 H3)
  (hd:∀ ys σ H,Pv n ys σ H -> ∀ p,H p = none -> Q (.ref p) (upd H p (.lst ys))):z9j g tf te σ (Itr lo n) H Q:=by
 refine ⟨fun i m ys σ H=>m = n - i /\ i <= n /\ Pv i ys σ H,⟨n,by simp,Nat.zero_le _,h0⟩,?_⟩
 rintro i m ys σ H ⟨rfl,hi,p⟩
 have hz:=hl i ys σ H hi p
 by_cases hlt:i < n
 ·refine .inr ⟨hlt,hz,Pv (i + 1),fun ys' σ' H' p'=>⟨n - (i + 1),by omega,rfl,hlt,p'⟩,fun x H' y=>?_⟩
  obtain ⟨e,y⟩:=y
  subst e y
  exact hs i ys σ _ hlt p
 ·have e:i = n:=by omega
  subst e
  exact .inl ⟨Nat.le_refl _,hz,hd ys σ H p⟩
def y6s (sc:Scope) (N:List Str) (scope:Scope) (fr:List (Str × Nat)):Bool :=
 (scope.kind == .function) && scope.names.all (fun y=>y.2 != .cell) && scope.names.all (fun y=>y.2 != .local || scope.names.lookup y.1 == some .local) &&
 scope.names.all (fun y=>y.2 != .free || sc.names.lookup y.1 == some .cell || sc.names.lookup y.1 == some .free) && fr.all (fun p=>N[p.2]? == some p.1 && scope.names.lookup p.1 == some .free)
theorem z4w {X:Cx} {scope:Scope} {ls:List Str} {fr:List (Str × Nat)} (sc:Scope) (N:List Str) (h1:X.env.scope = sc) (h2:X.N = N) (h:y6s sc N scope fr = true):CScope X scope ls fr:=by
 subst h1 h2
 simp only [y6s,Bool.and_eq_true,List.all_eq_true,Bool.or_eq_true,bne_iff_ne,beq_iff_eq,ne_eq] at h
 obtain ⟨⟨⟨⟨a,b⟩,c⟩,d⟩,e⟩:=h
 refine ⟨a,b,fun y hy hk=>(c y hy).resolve_left fun z=>z hk,fun y hy hk=>?_,e⟩
 rcases d y hy with (z | z) | z
 ·exact absurd hk z
 ·exact .inl z
 ·exact .inr z
theorem pgc {X:Cx} {scope:Scope} {ls:List Str} {fr:List (Str × Nat)} {C:Addr} {s:Shared} {H:Hp} {ex:List Addr} {x:Str} {pos:Pos} (i:Nat) (hN:(ls ++ fr.map (·.1)).Nodup) (hi:(ls ++ fr.map (·.1))[i]? = some x) (hx:scope.names.lookup x = some .local) :
  PG (cxC X scope (ls ++ fr.map (·.1)) C s H ex) (.Name x pos) (zBx i) :=
 z2m hN hi (.inl (lookup_relabel_local hx)) (.inr (lookup_relabel_local hx))
def relN (scope sc:Scope):List (Str × NameKind):=scope.names.map fun (n,k)=>if (k == .free && sc.kind == .function && sc.names.lookup n == some .cell) then (n,.cell) else (n,k)
def visB (scope sc:Scope) (x:Str):Bool:=match (relN scope sc).lookup x with | some .local=>true | some .cell=>true | some .free=>true | _=>false
theorem pvc (sc:Scope) (i:Nat) {X:Cx} {scope:Scope} {N:List Str} {C:Addr} {s:Shared} {H:Hp} {ex:List Addr} {x:Str} {pos:Pos} (hN:N[i]? = some x:=by rfl) (hs:X.env.scope = sc:=by rfl) (hv:visB scope sc x = true:=by decide +kernel)
  (hd:(x == ("__debug__" : Str)) = false:=by decide +kernel) (hcd:(x == ("__classdict__" : Str)) = false:=by decide +kernel):PE (cxC X scope N C s H ex) (.Name x pos) (tVar i):=by
 subst hs
 refine yDs hN ?_ hd hcd
 have hv':visB scope X.env.scope x = true:=hv
 unfold visB at hv'
 show (relN scope X.env.scope).lookup x = some .local \/ (relN scope X.env.scope).lookup x = some .cell \/ (relN scope X.env.scope).lookup x = some .free
 split at hv'
 ·rename_i e; exact .inl e
 ·rename_i e; exact .inr (.inl e)
 ·rename_i e; exact .inr (.inr e)
 ·cases hv'
theorem glc (sc:Scope) {X:Cx} {scope:Scope} {N:List Str} {C:Addr} {s:Shared} {H:Hp} {ex:List Addr} {x:Str} (hs:X.env.scope = sc:=by rfl) (h:((relN scope sc).lookup x == some .globalImplicit) = true:=by decide +kernel):Gl (cxC X scope N C s H ex) x:=by
 subst hs
 exact eq_of_beq h
end L2
namespace L2
open PySem PySem.Spec PyProof.Rows
def insD (x:Int):List Int -> List Int
 | []=>[x]
 | y :: r=>if y <= x then x :: y :: r else y :: insD x r
def z6u:List Int -> List Int
 | []=>[]
 | x :: r=>insD x (z6u r)
theorem zBy (x:Int):∀ l:List Int,(insD x l).Perm (x :: l)
 | []=>.refl _
 | y :: r=>by
  unfold insD
  split
  ·exact .refl _
  ·exact ((zBy x r).cons y).trans (.swap x y r)
theorem z3m:∀ l:List Int,(z6u l).Perm l
 | []=>.refl _
 | x :: r=>(zBy x _).trans ((z3m r).cons x)
theorem y7e (x:Int):∀ {l:List Int},l.Pairwise (· >= ·) -> (insD x l).Pairwise (· >= ·)
 | [],_=>by simp [insD]
 | y :: r,h=>by
  obtain ⟨h1,h2⟩:=List.pairwise_cons.mp h
  unfold insD
  split
  ·rename_i hy
   refine List.pairwise_cons.mpr ⟨fun z hz=>?_,h⟩
   rcases List.mem_cons.mp hz with rfl | hz
   ·exact hy
   ·exact Int.le_trans (h1 z hz) hy
  ·rename_i hy
   refine List.pairwise_cons.mpr ⟨fun z hz=>?_,y7e x h2⟩
   rcases List.mem_cons.mp ((zBy x r).mem_iff.mp hz) with rfl | hz
   ·show z <= y
    omega
   ·exact h1 z hz
theorem z7u:∀ l:List Int,(z6u l).Pairwise (· >= ·)
 | []=>.nil
 | x :: r=>y7e x (z7u r)
theorem z9x {a b:List Int} (ha:a.Pairwise (· >= ·)) (hb:b.Pairwise (· >= ·)) (p:a.Perm b):a = b :=
 p.eq_of_pairwise (le:=fun x y=>x >= y) (fun x y _ _ h1 h2=>Int.le_antisymm h2 h1) ha hb
theorem y3m {a l:List Int} (p:a.Perm l) (h:a.Pairwise (· >= ·)):a = z6u l:=z9x h (z7u l) (p.trans (z3m l).symm)
section
variable {prog:Program} {w:World} {A:Around} {E:Value -> Shared -> Prop} {s:Shared}
theorem zAt {l:Addr} {vs:List Value} {ns:List Int} {b:Bool} {Q:Value -> Shared -> Prop} (hl:IsTup s.heap l vs.toArray) (hI:IntsAre vs ns) (h64:vs.length < 64)
  (h:∀ (out:List Value) (n:Nat) (h1 h':Heap) (ns':List Int),(∀ b o,s.heap.get? b = some o -> h1.get? b = some o) -> (∀ b o,h1.get? b = some o -> h'.get? b = some o) -> h'.get? h1.objs.size = some (seqObj "list" out.toArray n) -> IntsAre out ns' -> ns'.Perm ns -> Ordered b ns' -> Q (.ref h1.objs.size) { s with heap:=h' }) :
  wpAny (model prog w) A (call (.builtin "sorted") [.ref l] [(Str.ofString "reverse",.bool b)]) Q E s:=by
 refine call_function_entry_kw kind_sorted plain_sorted entry_sorted (args_sorted_rev _ _) ?_
 unfold Builtin.«sorted»
 refine wpAny_bind (m:=checkCount "sorted" 1 1 _) (wpAny_pure ?_)
 obtain ⟨o,ho,hc,n,hd⟩:=hl
 refine wpAny_bind (wpAny_collect_seq l (.inr rfl) ho hc hd (fun h1 hk1=>?_) (by simp [sizeLine_eq]; omega))
 refine wpAny_bind (wpAny_newList ?_)
 have hoL:(h1.push (seqObj "list" vs.toArray 0)).get? h1.objs.size = some (seqObj "list" vs.toArray 0):=Heap.get?_push_size _ rfl
 refine wpAny_bind (wpAny_holding (wpAny_call_entry_kw slot_list_sort ⟨_,hoL,rfl⟩ entry_list_sort (list_sort_tree_rev hoL hI h64 fun out ns' a1 a2 a3=>⟨_,rfl,?_⟩) (args_list_sort_rev _ _)))
 obtain ⟨e,he⟩:=sortedHeap_at (vs:=vs) (out:=out) hoL
 refine wpAny_pure ⟨_,rfl,h out.toList e h1 _ ns' hk1 (fun b o hb=>?_) he a1 a2 a3⟩
 have hlt:=Heap.lt_size hb
 rw [sortedHeap_old (Nat.ne_of_lt hlt) (by rw [Heap.size_push]; exact Nat.lt_succ_of_lt hlt)]
 exact Heap.get?_push_of_some _ hb
end
section
variable {X:Cx}
def yDz (K:PySem.W.Frag) (b:Bool):V -> Hp -> VK -> Prop:=fun x H Q=>∃ a ns,x = .ref a /\ (SqL K H a (ns.map V.int) \/ SqT K H a (ns.map V.int)) /\ ns.length < 64 /\ ∀ ns' p,ns'.Perm ns -> Ordered b ns' -> H p = none -> Q (.ref p) (upd H p (.lst (ns'.map V.int)))
def y9y (K:PySem.W.Frag) (b:Bool) (te:TE):TE:=fun σ H Q=>te σ H fun x H1=>yDz K b x H1 Q
theorem z5h {n:Nat} (h:n < 64):n <= sizeLine:=Nat.le_trans (Nat.le_of_lt h) (by decide)
theorem y3c {e:Expr} {te:TE} {b:Bool} {p kp cp pos:Pos} {j:Nat} (hg:Gl X "sorted") (hm:X.mg "sorted" = none) (he:PE X e te)
  (hse:starEach [e] X.env = [(false,eval e X.env)]:=by rfl):PE X (.Call (.Name "sorted" p) [e] [⟨some "reverse",.Constant (.bool b) j cp,kp⟩] pos) (y9y X.K b te):=by
 intro pins s σ H Q I h
 refine wpAny_Call_Name_kw (z6n I hg hm boot_sorted ?_ (by decide) (by decide))
 refine callWith_kw (thn (z0a he z0d hse pos pins s σ H (fun vs H1=>match vs with | [x]=>yDz X.K b x H1 Q | _=>False) I h) fun us s1 ⟨vs,H1,I1,r1,q1⟩=>?_) (by rw [hse]; rfl) (by rw [hse]; rfl)
 match vs,r1,q1 with
 | [x],r1,q =>
  obtain ⟨u,rfl,ru⟩:=zDm r1
  refine kws_cons (Constant_bool (kws_nil ?_))
  obtain ⟨a,ns,rfl,hq,hl,q⟩:=q
  cases ru
  show wpAny _ _ (call (.builtin "sorted") [.ref a] [(Str.ofString "reverse",.bool b)]) _ _ _
  rcases hq with hq | hq
  ·obtain ⟨its,r',pl,hz⟩:=I1.list hq
   have hlen:=r'.length
   rw [List.length_map] at hlen
   refine sorted_ints_rev pl.isList (z9q r') (by omega) fun out ns' a1 a2 a3=>?_
   obtain ⟨n,hn⟩:=sortedAll_at s1.heap its out
   have hz':(ns'.map V.int).length <= sizeLine:=by rw [List.length_map,a2.length_eq]; exact z5h hl
   exact ⟨.ref _,_,I1.laid (t':=s1.toks) (fun _ _=>sortedAll_old) (Nat.le_succ _) (show z2n X.prog X.w _ _ _ (.lst (ns'.map V.int)) from ⟨hz',out.toList,n,z7p a1,by simpa [seqObj] using hn⟩),rfl,q ns' _ a2 a3 (I1.hok.fresh (Nat.le_succ _))⟩
  ·obtain ⟨its,r',pl,hz⟩:=I1.tuple hq
   have hlen:=r'.length
   rw [List.length_map] at hlen
   refine zAt pl (z9q r') (by omega) fun out n h1 h' ns' k1 k2 e a1 a2 a3=>?_
   have hz':(ns'.map V.int).length <= sizeLine:=by rw [List.length_map,a2.length_eq]; exact z5h hl
   have I2:Inv X pins σ H1 { s1 with heap:=h1 }:=I1.kept (t':=s1.toks) k1
   exact ⟨.ref _,_,I2.laid (t':=s1.toks) k2 (Nat.le_refl _) (show z2n X.prog X.w _ _ _ (.lst (ns'.map V.int)) from ⟨hz',out,n,z7p a1,by simpa [seqObj] using e⟩),rfl,q ns' _ a2 a3 (I2.hok.fresh (Nat.le_refl _))⟩
theorem zDc (ns:List Int):∀ j,preSum (fun i=>ns.getD i 0) j = (ns.take j).sum
 | 0=>by simp [preSum]
 | j + 1=>by
  rw [preSum,zDc ns j]
  by_cases h:j < ns.length
  ·rw [List.take_succ_eq_append_getElem h,List.sum_append,List.sum_cons,List.sum_nil]
   have e:ns.getD j 0 = ns[j]:=by simp [h]
   rw [e]
   omega
  ·rw [List.take_of_length_le (by omega),List.take_of_length_le (by omega)]
   have:ns[j]? = none:=List.getElem?_eq_none (by omega)
   simp [List.getD,this]
theorem z4m {ns:List Int} {its:List Value} (r:Vals (ns.map V.int) its) (i:Nat) (v:Value) (e:its.toArray[i]? = some v):∃ t,v = .int (ns.getD i 0) t:=by
 have e':its[i]? = some v:=by simpa using e
 have hi:i < its.length:=(List.getElem?_eq_some_iff.mp e').1
 have hl:=r.length
 rw [List.length_map] at hl
 have hx:(ns.map V.int)[i]? = some (V.int (ns.getD i 0)):=by
  have hi':i < ns.length:=by omega
  simp [hi']
 obtain ⟨u,hu,t,rfl⟩:=r.get hx
 rw [e'] at hu
 cases hu
 exact ⟨t,rfl⟩
theorem zFm (hc:X.calm = true):z6e X (.builtin "sum") (fun xs H Q=>∃ (a:Addr) (ns:List Int),xs = [.ref a] /\ (SqL X.K H a (ns.map V.int) \/ SqT X.K H a (ns.map V.int)) /\ Q (.int ns.sum) H):=by
 intro pins s σ H xs us Q I r h
 obtain ⟨a,ns,rfl,hq,q⟩:=h
 obtain ⟨u,rfl,ru⟩:=zDm r
 cases ru
 have hh:X.A.in1.handled = none:=I.ok.hd hc
 have fin:∀ {its:List Value} (h':Heap) (tk:Nat) (t':Tok),Vals (ns.map V.int) its -> (∀ b o,s.heap.get? b = some o -> h'.get? b = some o) -> EP X pins σ Q (.int (preSum (fun i=>ns.getD i 0) its.toArray.size) t') { s with heap:=h',toks:=tk }:=fun {its} h' tk t' r' hk=>by
  have hl:=r'.length
  rw [List.length_map] at hl
  refine ⟨.int ns.sum,H,I.kept hk,⟨t',?_⟩,q⟩
  rw [zDc,List.size_toArray,<- hl,List.take_length]
 rcases hq with hq | hq
 ·obtain ⟨its,r',pl,hz⟩:=I.list hq
  have hlt:a < s.heap.objs.size:=by obtain ⟨_,e,_⟩:=pl.isList; exact Heap.lt_size e
  refine call_sum_walkG (wpAny_pyIter_list pl.isList ⟨_,_,_,_,_,_,fun i=>ns.getD i 0,rfl,Walks.list (A:=X.A.in1) hh _ a (Nat.ne_of_lt hlt) its.toArray,⟨⟨_,Heap.get?_push_size _ rfl,rfl,rfl⟩,pl.isList.push _⟩,fun b hb=>?_,z4m r',fun h' tk t' hk=>fin h' tk t' r' fun b o e=>hk b o (by simpa using Nat.ne_of_lt (Heap.lt_size e)) (Heap.get?_push_of_some _ e)⟩)
  show b < (s.heap.push _).objs.size
  rw [Heap.size_push]
  rcases List.mem_cons.mp hb with rfl | hb
  ·exact Nat.lt_succ_self _
  ·rcases List.mem_cons.mp hb with rfl | hb
   ·exact Nat.lt_succ_of_lt hlt
   ·cases hb
 ·obtain ⟨its,r',pl,hz⟩:=I.tuple hq
  have pl':s.heap.IsTuple a its.toArray:=pl
  have hlt:a < s.heap.objs.size:=by obtain ⟨_,e,_⟩:=pl; exact Heap.lt_size e
  refine call_sum_walkG (wpAny_pyIter_tuple pl' ⟨_,_,_,_,_,_,fun i=>ns.getD i 0,rfl,Walks.tuple (A:=X.A.in1) hh _ a (Nat.ne_of_lt hlt) its.toArray,⟨⟨_,Heap.get?_push_size _ rfl,rfl,rfl⟩,pl'.at fun o e=>Heap.get?_push_of_some _ e⟩,fun b hb=>?_,z4m r',fun h' tk t' hk=>fin h' tk t' r' fun b o e=>hk b o (by simpa using Nat.ne_of_lt (Heap.lt_size e)) (Heap.get?_push_of_some _ e)⟩)
  show b < (s.heap.push _).objs.size
  rw [Heap.size_push]
  rcases List.mem_cons.mp hb with rfl | hb
  ·exact Nat.lt_succ_self _
  ·rcases List.mem_cons.mp hb with rfl | hb
   ·exact Nat.lt_succ_of_lt hlt
   ·cases hb
def cntV (y:V) (xs:List V):Nat:=xs.countP fun x=>eqV x y
theorem y6n {x:V}:∀ {xs:List V} {us:List Value},Vals xs us -> xs.all z9p = true -> us.countP (eqU x) = cntV x xs
 | _,_,.nil,_=>rfl
 | y :: xs,u :: us,.cons r t,f=>by
  rw [List.all_cons,Bool.and_eq_true] at f
  unfold cntV
  rw [List.countP_cons,List.countP_cons,y6y r f.1,y6n t f.2]
  rfl
def y8z (K:PySem.W.Frag) (SQ:PySem.W.Frag -> Hp -> Addr -> List V -> Prop):V -> List V -> Hp -> VK -> Prop:=fun x vs H Q=>∃ a xs y,x = .ref a /\ vs = [y] /\ SQ K H a xs /\ z9p y = true /\ xs.all z9p = true /\ Q (.int (cntV y xs)) H
theorem zIo:MtR X "tuple.count" (y8z X.K SqT):=by
 intro pins s σ H x vs v us Q I rx rv h
 obtain ⟨a,xs,y,rfl,rfl,hq,fy,fs,q⟩:=h
 cases rx
 obtain ⟨u,rfl,ru⟩:=rv.one
 obtain ⟨its,r,pl,hz⟩:=I.tuple hq
 obtain ⟨o,ho,hc,n,hd⟩:=pl
 obtain ⟨c,dd,dt,sl⟩:=o
 cases hc
 cases hd
 refine call_meets F.slot_tuple_count ⟨_,ho,rfl⟩ F.entry_tuple_count (F.args_tuple_count_2 _ _) (SeqAt.tuple_countAt a its.toArray n dd sl u (eqU y)) ⟨ho,fun w hw=>z7q ru fy r fs w (by simpa using hw),?_⟩
 refine ⟨.int _,H,I.tok _,⟨s.toks,?_⟩,q⟩
 rw [show its.toArray.toList = its from rfl,y6n r fs]
theorem zBq (k:Int) (ns:List Int):cntV (.int k) (ns.map V.int) = ns.count k:=by
 unfold cntV
 rw [List.countP_map,List.count_eq_countP]
 congr 1
theorem z5o (ns:List Int):(ns.map V.int).all z9p = true:=by
 rw [List.all_map]; simp [z9p]
theorem z3w:z6e X (.builtin "isinstance") (fun xs H Q=>∃ x T t b,xs = [x,.ty T] /\ TyOf X.K H x t /\ PySem.W.kitOne X.K t (.type T) = some b /\ Q (.bl b) H):=by
 intro pins s σ H xs us Q I r h
 obtain ⟨x,T,t,b,rfl,ty,hk,q⟩:=h
 obtain ⟨u,v,rfl,ru,rv⟩:=yGl r
 cases (show v = Value.type T from rv)
 exact y7i I ru ty hk fun tk=>⟨.bl b,H,I.tok tk,rfl,q⟩
end
theorem zCe {K:PySem.W.Frag}:PySem.W.kitOne K (.type "int") (.type "int") = some true:=by unfold PySem.W.kitOne; rw [if_pos (by decide +kernel)]
theorem zAi {K:PySem.W.Frag}:PySem.W.kitOne K (.type "int") (.type "bool") = some false:=by
 unfold PySem.W.kitOne
 rw [if_neg (by decide +kernel)]
 rfl
theorem z5k {K:PySem.W.Frag}:PySem.W.kitOne K (.type "bool") (.type "bool") = some true:=by unfold PySem.W.kitOne; rw [if_pos (by decide +kernel)]
theorem z6t {K:PySem.W.Frag}:PySem.W.kitOne K (.type "tuple") (.type "tuple") = some true:=by unfold PySem.W.kitOne; rw [if_pos (by decide +kernel)]
theorem zCf {K:PySem.W.Frag}:PySem.W.kitOne K (.type "str") (.type "str") = some true:=by unfold PySem.W.kitOne; rw [if_pos (by decide +kernel)]
theorem z6s {K:PySem.W.Frag}:PySem.W.kitOne K (.type "list") (.type "list") = some true:=by unfold PySem.W.kitOne; rw [if_pos (by decide +kernel)]
end L2
namespace L2
open PySem PySem.Spec PyProof.Rows
theorem zIy {x y:Int} (h0:0 < y) (h:y <= 10 ^ 100):Builtin.divisionGoesByPylong x y = false:=by
 refine PyProof.noPylong_of_log2 ?_
 have hn:y.natAbs ≠ 0:=by omega
 have h1:y.natAbs <= 10 ^ 100:=by omega
 refine (Nat.log2_lt hn).mpr (Nat.lt_of_le_of_lt h1 (by decide +kernel))
def yJb (i j:Int):Prop:=0 < j /\ j <= 10 ^ 100
theorem z3q {X:Cx}:OpR X (binaryOp .FloorDiv) (rI yJb fun i j=>.int (i / j)):=opI fun i j _ _ _ _ _ hc q=>by
 refine floordiv_int (by have:=hc.1; omega) ?_ (.inl (zIy hc.1 hc.2))
 rw [Int.fdiv_eq_ediv_of_nonneg _ (Int.le_of_lt hc.1)]
 exact q
theorem yBl {X:Cx}:PGet X (fun x y H Q=>∃ p xs i v,x = .ref p /\ y = .int i /\ SqL X.K H p xs /\ 0 <= i /\ xs[i.toNat]? = some v /\ Q v H):=by
 intro pins s σ H o i ov iv Q I ro ri h
 obtain ⟨p,xs,k,v,rfl,rfl,hq,h0,hv,q⟩:=h
 cases ro
 obtain ⟨t,rfl⟩:=ri
 obtain ⟨its,r,pl,hz⟩:=I.list hq
 have hlen:=r.length
 have hn:=zEr
 obtain ⟨u,hu,ru⟩:=r.get hv
 have hk:=(List.getElem?_eq_some_iff.mp hv).1
 exact wpAny_getItem_list pl.isList h0 (by omega) (by simpa using hu) ⟨v,H,I,ru,q⟩
theorem zAb {A B:TS} {D:Ends} {σ:St} {H:Hp} (R:St -> Hp -> Prop) (h:∀ nx:St -> Hp -> Prop,(∀ σ' H',R σ' H' -> nx σ' H') -> A { D with nx:=nx } σ H) (hR:∀ σ' H',R σ' H' -> B D σ' H'):tSeq A B D σ H:=h (B D) hR
def Keep (S:List Addr) (H H':Hp):Prop:=∀ b o,H b = some o -> b ∉ S -> H' b = some o
theorem Keep.refl (S:List Addr) (H:Hp):Keep S H H:=fun _ _ h _=>h
theorem Keep.trans {S:List Addr} {H H1 H2:Hp} (a:Keep S H H1) (b:Keep S H1 H2):Keep S H H2:=fun c o h n=>b c o (a c o h n) n
theorem Keep.set {S:List Addr} {H:Hp} {p:Addr} {o:HO} (h:p ∈ S):Keep S H (upd H p o):=fun b u e n=>by
 have hb:b ≠ p:=fun z=>n (by rw [z]; exact h)
 rw [z0n hb]; exact e
theorem Same.keep {S:List Addr} {H H':Hp} (h:Same H H'):Keep S H H':=fun b o e _=>h b o e
structure StAt (H:Hp) (st ga ca:Addr) (N:Nat):Prop where
 ex:∃ (gs cs:List Int) (q n:Int),H st = some (.lst [.ref ga,.int q,.ref ca,.int n]) /\ H ga = some (.lst (gs.map V.int)) /\ H ca = some (.lst (cs.map V.int)) /\
  gs.length <= 63 /\ (∀ x ∈ gs,0 < x) /\ 0 <= q /\ 0 <= n /\ n <= N
 gc:ga ≠ ca
 sg:st ≠ ga
 sc:st ≠ ca
theorem StAt.nin {H:Hp} {st ga ca:Addr} {N:Nat} (S:StAt H st ga ca N) {p:Addr} (h:H p = none):p ∉ [st,ga]:=by
 obtain ⟨gs,cs,q,n,h1,h2,_⟩:=S.ex
 intro z
 rcases List.mem_cons.mp z with rfl | z
 ·rw [h1] at h; cases h
 ·rcases List.mem_cons.mp z with rfl | z
  ·rw [h2] at h; cases h
  ·cases z
theorem StAt.mono {H:Hp} {st ga ca:Addr} {N M:Nat} (S:StAt H st ga ca N) (h:N <= M):StAt H st ga ca M:=by
 obtain ⟨gs,cs,q,n,h1,h2,h3,h4,h5,h6,h7,h8⟩:=S.ex
 exact ⟨⟨gs,cs,q,n,h1,h2,h3,h4,h5,h6,h7,by omega⟩,S.gc,S.sg,S.sc⟩
theorem StAt.same {H H':Hp} {st ga ca:Addr} {N:Nat} (S:StAt H st ga ca N) (h:Same H H'):StAt H' st ga ca N:=by
 obtain ⟨gs,cs,q,n,h1,h2,h3,r⟩:=S.ex
 exact ⟨⟨gs,cs,q,n,h _ _ h1,h _ _ h2,h _ _ h3,r⟩,S.gc,S.sg,S.sc⟩
theorem Same.new {H:Hp} {p:Addr} {o:HO} (h:H p = none):Same H (upd H p o):=fun b u e=>by rw [z0n (z0r e h)]; exact e
theorem pick {ns:List Int} {r:Int} (h0:0 <= r) (h1:r < ns.length):∃ v,v ∈ ns /\ atI (ns.map V.int) r = some (.int v):=by
 obtain ⟨j,rfl⟩:∃ j:Nat,r = (j:Int):=⟨r.toNat,by omega⟩
 have hj:j < ns.length:=by omega
 exact ⟨ns[j],List.getElem_mem hj,z1l (by rw [List.getElem?_map,List.getElem?_eq_getElem hj]; rfl)⟩
theorem Keep.at {S:List Addr} {H H':Hp} (k:Keep S H H') {b:Addr} {o:HO} (h:H b = some o) (n:b ∉ S):H' b = some o:=k b o h n
theorem Keep.free {S:List Addr} {H H':Hp} (k:Keep S H H') {b:Addr} (h:H' b = none) (n:b ∉ S):H b = none:=by
 cases q:H b with
 | none=>rfl
 | some o=>rw [k b o q n] at h; cases h
theorem z5q {ns:List Int} {i:Nat} {x:V} (h:(ns.map V.int)[i]? = some x):∃ z,ns[i]? = some z /\ x = .int z:=by
 rw [List.getElem?_map] at h
 cases hn:ns[i]? with
 | none=>rw [hn] at h; cases h
 | some z=>rw [hn] at h; exact ⟨z,rfl,(Option.some.inj h).symm⟩
def lies (ns ms:List Int):Bool:=ns.all fun x=>decide (ns.count x <= ms.count x)
theorem yAi {α:Type} {p:α -> Bool} {l:List α} {i:Nat} {x:α} (hx:l[i]? = some x):(l.take (i + 1)).all p = ((l.take i).all p && p x):=by
 have hi:=(List.getElem?_eq_some_iff.mp hx).1
 have ex:=(List.getElem?_eq_some_iff.mp hx).2
 rw [List.take_succ_eq_append_getElem hi,List.all_append,ex]
 simp
theorem y6e {α:Type} {p:α -> Bool} {l:List α} {x:α} (hx:x ∈ l) (h:p x = false):l.all p = false:=by
 rw [List.all_eq_false]
 exact ⟨x,hx,by simp [h]⟩
theorem StAt.nin3 {H:Hp} {st ga ca:Addr} {N:Nat} (S:StAt H st ga ca N) {p:Addr} (h:H p = none):p ∉ [st,ga,ca]:=by
 obtain ⟨gs,cs,q,n,h1,h2,h3,_⟩:=S.ex
 intro z
 simp only [List.mem_cons,List.not_mem_nil,or_false] at z
 rcases z with rfl | rfl | rfl
 ·rw [h1] at h; cases h
 ·rw [h2] at h; cases h
 ·rw [h3] at h; cases h
theorem nin2 {st ga ca p:Addr} (h:p ∉ [st,ga,ca]):p ∉ [st,ga]:=fun z=>h (by
 simp only [List.mem_cons,List.not_mem_nil,or_false] at z ⊢
 rcases z with z | z
 ·exact .inl z
 ·exact .inr (.inl z))
theorem zIm:∀ (ms:List Int) (j:Nat),(ms.map V.int).eraseIdx j = (ms.eraseIdx j).map V.int
 | [],_=>rfl
 | _ :: _,0=>rfl
 | x :: r,j + 1=>by
  show V.int x :: (r.map V.int).eraseIdx j = V.int x :: (r.eraseIdx j).map V.int
  rw [zIm r j]
end L2
namespace L2
open PySem PySem.Spec PyProof.Rows
def EqK (X:Cx) (α:Type) [DecidableEq α] (R:α -> V -> Hp -> Prop) (n:Nat):Prop :=
 ∀ (pins:List (Addr × Obj)) (σ:St) (H:Hp) (s:Shared) (A:Around) (a b:α) (v w:V) (u u':Value),Inv X pins σ H s -> A.units + n < cLine -> R a v H -> R b w H -> RelV v u -> RelV w u' -> SeqAt.EqAt A s u u' (decide (a = b))
inductive All2 {α:Type} (R:α -> V -> Hp -> Prop) (H:Hp):List α -> List V -> Prop
 | nil:All2 R H [] []
 | cons {a:α} {v:V} {l:List α} {xs:List V}:R a v H -> All2 R H l xs -> All2 R H (a :: l) (v :: xs)
theorem All2.length {α:Type} {R:α -> V -> Hp -> Prop} {H:Hp}:∀ {l:List α} {xs:List V},All2 R H l xs -> l.length = xs.length
 | _,_,.nil=>rfl
 | _,_,.cons _ t=>by simp [t.length]
theorem All2.get {α:Type} {R:α -> V -> Hp -> Prop} {H:Hp}:∀ {l:List α} {xs:List V} {i:Nat} {x:V},All2 R H l xs -> xs[i]? = some x -> ∃ a,l[i]? = some a /\ R a x H
 | _,_,_,_,.nil,e=>by simp at e
 | _,_,0,_,.cons r _,e=>by simp at e; subst e; exact ⟨_,rfl,r⟩
 | _,_,i + 1,x,.cons _ t,e=>by
  obtain ⟨u,h1,h2⟩:=All2.get (i:=i) (x:=x) t (by simpa using e)
  exact ⟨u,by simpa using h1,h2⟩
theorem All2.append {α:Type} {R:α -> V -> Hp -> Prop} {H:Hp}:∀ {l l':List α} {xs xs':List V},All2 R H l xs -> All2 R H l' xs' -> All2 R H (l ++ l') (xs ++ xs')
 | _,_,_,_,.nil,s=>s
 | _,_,_,_,.cons r t,s=>.cons r (t.append s)
theorem All2.imp {α:Type} {R:α -> V -> Hp -> Prop} {H H':Hp} (f:∀ a v,R a v H -> R a v H'):∀ {l:List α} {xs:List V},All2 R H l xs -> All2 R H' l xs
 | _,_,.nil=>.nil
 | _,_,.cons r t=>.cons (f _ _ r) (t.imp f)
def RInt:Int -> V -> Hp -> Prop:=fun i v _=>v = .int i
theorem zHg {H:Hp}:∀ (ns:List Int),All2 RInt H ns (ns.map V.int)
 | []=>.nil
 | _ :: r=>.cons rfl (zHg r)
def RTup (K:PySem.W.Frag) {α:Type} (R:α -> V -> Hp -> Prop):List α -> V -> Hp -> Prop:=fun l v H=>∃ p xs,v = .ref p /\ SqT K H p xs /\ All2 R H l xs
def RLst (K:PySem.W.Frag) {α:Type} (R:α -> V -> Hp -> Prop):List α -> V -> Hp -> Prop:=fun l v H=>∃ p xs,v = .ref p /\ SqL K H p xs /\ All2 R H l xs
theorem zAd {α:Type} [DecidableEq α] {l m:List α} {e:Nat -> Bool} (h:∀ j a b,l[j]? = some a -> m[j]? = some b -> e j = decide (a = b)):((List.range (min l.length m.length)).all e && l.length == m.length) = decide (l = m):=by
 rw [Bool.eq_iff_iff]
 simp only [Bool.and_eq_true,List.all_eq_true,List.mem_range,beq_iff_eq,decide_eq_true_eq]
 constructor
 ·rintro ⟨h1,h2⟩
  refine List.ext_getElem h2 fun j j1 j2=>?_
  have:=h1 j (by omega)
  rw [h j _ _ (List.getElem?_eq_getElem j1) (List.getElem?_eq_getElem j2)] at this
  exact of_decide_eq_true this
 ·rintro rfl
  refine ⟨fun j hj=>?_,rfl⟩
  have hj':j < l.length:=by omega
  rw [h j _ _ (List.getElem?_eq_getElem hj') (List.getElem?_eq_getElem hj')]
  exact decide_eq_true rfl
section
variable {X:Cx}
theorem yEw:EqK X Int RInt 0:=fun pins σ H s A a b v w u u' I hu r1 r2 q1 q2=>by
 unfold RInt at r1 r2
 subst r1 r2
 obtain ⟨t,rfl⟩:=q1
 obtain ⟨t',rfl⟩:=q2
 have:=SeqAt.EqAt.int_int (A:=A) (s:=s) a t b t'
 rwa [show (a == b) = decide (a = b) from rfl] at this
variable {α:Type} [DecidableEq α] {R:α -> V -> Hp -> Prop} {n:Nat}
theorem zHw (h:EqK X α R n) {pins:List (Addr × Obj)} {σ:St} {H:Hp} {s:Shared} {A:Around} {l m:List α} {xs ys:List V} {us ws:List Value} (I:Inv X pins σ H s) (hu:A.units + (n + 1) < cLine)
  (r1:All2 R H l xs) (r2:All2 R H m ys) (q1:Vals xs us) (q2:Vals ys ws) :
  ∃ e:Nat -> Bool,(∀ j (h1:j < us.toArray.size) (h2:j < ws.toArray.size),SeqAt.EqAt A.in1 s us.toArray[j] ws.toArray[j] (e j)) /\ (∀ j a b,l[j]? = some a -> m[j]? = some b -> e j = decide (a = b)):=by
 refine ⟨fun j=>match l[j]?,m[j]? with | some a,some b=>decide (a = b) | _,_=>false,fun j h1 h2=>?_,fun j a b e1 e2=>by simp only [e1,e2]⟩
 have l1:=q1.length
 have l2:=q2.length
 have l3:=r1.length
 have l4:=r2.length
 simp only [List.size_toArray] at h1 h2
 have hx:xs[j]? = some xs[j]:=List.getElem?_eq_getElem (by omega)
 have hy:ys[j]? = some ys[j]:=List.getElem?_eq_getElem (by omega)
 obtain ⟨a,ea,ra⟩:=r1.get hx
 obtain ⟨b,eb,rb⟩:=r2.get hy
 obtain ⟨u,eu,ru⟩:=q1.get hx
 obtain ⟨w,ew,rw'⟩:=q2.get hy
 have e1:us.toArray[j]'(by simpa using h1) = u:=by
  have:=(List.getElem?_eq_some_iff.mp eu).2
  simpa using this
 have e2:ws.toArray[j]'(by simpa using h2) = w:=by
  have:=(List.getElem?_eq_some_iff.mp ew).2
  simpa using this
 rw [e1,e2]
 simp only [ea,eb]
 exact h pins σ H s A.in1 a b _ _ u w I (by show A.units + 1 + n < cLine; omega) ra rb ru rw'
theorem yIg (h:EqK X α R n) {pins:List (Addr × Obj)} {σ:St} {H:Hp} {s:Shared} {A:Around} {l m:List α} {p q:Addr} (I:Inv X pins σ H s) (hu:A.units + (n + 1) < cLine) (r1:RTup X.K R l (.ref p) H) (r2:RTup X.K R m (.ref q) H) :
  SeqAt.RcAt A s (.ref p) (.ref q) (decide (l = m)):=by
 obtain ⟨_,xs,e1,h1,a1⟩:=r1
 obtain ⟨_,ys,e2,h2,a2⟩:=r2
 cases e1
 cases e2
 obtain ⟨us,v1,t1,z1⟩:=I.tuple h1
 obtain ⟨ws,v2,t2,z2⟩:=I.tuple h2
 obtain ⟨e,he,hd⟩:=zHw h I hu a1 a2 v1 v2
 have:=SeqAt.RcAt.tuples (e:=e) t1 t2 (by omega) he
 rw [List.size_toArray,List.size_toArray,<- v1.length,<- v2.length,<- a1.length,<- a2.length,zAd hd] at this
 exact this
theorem yEx (h:EqK X α R n) (det:∀ (pins:List (Addr × Obj)) (σ:St) (H:Hp) (s:Shared) (a b:α) (v:V),Inv X pins σ H s -> R a v H -> R b v H -> a = b):EqK X (List α) (RTup X.K R) (n + 1):=fun pins σ H s A a b v w u u' I hu r1 r2 q1 q2=>by
 obtain ⟨p,xs,rfl,h1,a1⟩:=id r1
 obtain ⟨q,ys,rfl,h2,a2⟩:=id r2
 cases q1
 cases q2
 by_cases hpq:p = q
 ·subst hpq
  have e:=I.tuple_inj h1 h2
  subst e
  have:a = b:=by
   clear r1 r2 h1 h2 hu
   induction a1 generalizing b with
   | nil=>cases a2; rfl
   | cons r t ih =>
    cases a2 with
    | cons r' t'=>rw [det pins σ H s _ _ _ I r r',ih _ t']
  rw [decide_eq_true this]
  exact SeqAt.EqAt.same _
 ·exact SeqAt.EqAt.of_refs hpq (yIg h I hu r1 r2)
theorem yEv (pins:List (Addr × Obj)) (σ:St) (H:Hp) (s:Shared) (a b:Int) (v:V) (I:Inv X pins σ H s) (h1:RInt a v H) (h2:RInt b v H):a = b:=by
 unfold RInt at h1 h2
 rw [h1] at h2
 cases h2
 rfl
theorem yFl (h:EqK X α R n) (hu:X.A.units + (n + 1) < cLine):OpR X (compareOp .NotEq) (fun x y H Q=>∃ l m,RLst X.K R l x H /\ RLst X.K R m y H /\ Q (.bl (!decide (l = m))) H):=by
 intro pins s σ H x y v u Q I rx ry hq
 obtain ⟨l,m,r1,r2,q⟩:=hq
 obtain ⟨p,xs,rfl,h1,a1⟩:=r1
 obtain ⟨p',ys,rfl,h2,a2⟩:=r2
 cases rx
 cases ry
 obtain ⟨us,v1,t1,z1⟩:=I.list h1
 obtain ⟨ws,v2,t2,z2⟩:=I.list h2
 obtain ⟨e,he,hd⟩:=zHw h I hu a1 a2 v1 v2
 have ee:=zAd hd
 have s1:us.toArray.size = l.length:=by rw [List.size_toArray,<- v1.length,<- a1.length]
 have s2:ws.toArray.size = m.length:=by rw [List.size_toArray,<- v2.length,<- a2.length]
 by_cases hl:l.length = m.length
 ·have this:=SeqAt.RcNeAt.lists (e:=e) t1.isList t2.isList (by rw [s1,s2,hl]) (by omega) he
  rw [s1] at this
  rw [hl,Nat.min_self,beq_self_eq_true,Bool.and_true,<- hl] at ee
  rw [ee] at this
  exact this X.prog X.w X.xe _ ⟨.bl _,H,I,rfl,q⟩
 ·have this:=SeqAt.RcNeAt.lists_lengths t1.isList t2.isList (by rw [s1,s2]; simpa using hl) (show X.A.units < cLine by omega)
  have hne:¬ l = m:=fun e=>hl (by rw [e])
  rw [decide_eq_false hne] at q
  exact this X.prog X.w X.xe _ ⟨.bl _,H,I,rfl,q⟩
end
end L2
namespace L2
open PySem PySem.Spec PyProof.Rows
theorem huR {A:Around} {k n:Nat} {cm:Bool} (hr:Room k A cm) (h:n <= 64:=by decide):A.units + n < cLine:=Nat.lt_of_le_of_lt (Nat.add_le_add_left h _) hr.units
end L2
namespace HT
open PySem PySem.Spec PyProof.Rows
section
variable {prog:Program} {w:World} {A:Around} {E:Value -> Shared -> Prop} {s:Shared}
theorem getItem_tuple_whole {t sl:Addr} {items:Array Value} {vl vu:Value} {lo hi:Option Int} {Q:Value -> Shared -> Prop} (ht:IsTup s.heap t items) (hs:s.heap.IsSliceOf sl vl vu .none) (pl:IsPart vl lo) (pu:IsPart vu hi)
  (hw:sIx items.size 0 lo = 0 /\ sIx items.size items.size hi = items.size) (h:Q (.ref t) s):wpAny (model prog w) A (getItem (.ref t) (.ref sl)) Q E s:=by
 obtain ⟨os,hos,hcs,hds⟩:=id hs
 have hTs:s.TypeIs (.ref sl) "slice" := ⟨os,hos,hcs⟩
 unfold getItem
 try with_reducible refine wpAny_holding ?_
 first | refine wpAny_bind (wpAny_pure ?_) | skip
 refine wpAny_bind (wpAny_sequenceKey ht.typeIs (by decide) ?_)
 refine wpAny_bind (wpAny_callSpecial?_slot (name:=Str.ofString "__getitem__") ht.typeIs PyProof.Rows.slot_tuple_getitem
  (wpAny_call_entry PyProof.Rows.slot_tuple_getitem ht.typeIs entry_tuple_getitem ?_ (args_tuple_getitem _ _)))
 show wpAny _ _ (Builtin.Tuple.tupleItemsOf (.ref t) >>= _) _ _ s
 refine wpAny_bind (tupleItemsOf_ ht ?_)
 refine wpAny_bind (wpAny_typeOf hTs ?_)
 rw [if_pos (by decide)]
 refine wpAny_bind (z6y hs pl pu ?_)
 have hyes:(((sIx items.size 0 lo:Nat):Int) == 0 && (1:Int) == 1 && (sIx items.size items.size hi - sIx items.size 0 lo) == items.size) = true:=by
  rw [hw.1,hw.2]; simp
 show wpAny _ _ (if (((sIx items.size 0 lo:Nat):Int) == 0 && (1:Int) == 1 && (sIx items.size items.size hi - sIx items.size 0 lo) == items.size) = true then _ else _) _ _ s
 rw [if_pos hyes]
 refine wpAny_bind ?_
 unfold Builtin.Tuple.tupleIsExact
 refine wpAny_bind (wpAny_typeOf ht.typeIs (wpAny_pure ?_))
 rw [if_pos (by decide)]
 first
  | exact wpAny_bind (wpAny_rule (wpAny_bind (wpAny_pure (wpAny_pure ⟨_,rfl,wpAny_pure h⟩))))
  | exact wpAny_bind (wpAny_rule (wpAny_pure ⟨_,rfl,wpAny_pure h⟩))
end
end HT
namespace L2
open PySem PySem.Spec PyProof.Rows
section
variable {X:Cx}
theorem yFz:SlR X (fun x lo hi H Q=>∃ a xs,x = .ref a /\ SqT X.K H a xs /\ (HT.sIx xs.length 0 lo = 0 /\ HT.sIx xs.length xs.length hi = xs.length) /\ Q (.ref a) H):=by
 intro pins s σ H x v vl vu lo hi sl Q I rx hs pl pu h
 obtain ⟨a,xs,rfl,hx,hw,q⟩:=h
 cases rx
 obtain ⟨its,r,ht,hz⟩:=I.tuple hx
 have hlen:its.toArray.size = xs.length:=by rw [List.size_toArray]; exact r.length.symm
 refine ⟨"tuple",_,PyProof.Rows.slot_tuple_getitem.lookup,ht.typeIs,?_⟩
 exact HT.getItem_tuple_whole ht hs pl pu (by rw [hlen]; exact hw) ⟨.ref a,H,I,rfl,q⟩
def yIf (K:PySem.W.Frag):V -> Option Int -> Option Int -> Hp -> VK -> Prop:=fun x lo hi H Q=>(∃ a xs,x = .ref a /\ SqT K H a xs /\ (HT.sIx xs.length 0 lo = 0 /\ HT.sIx xs.length xs.length hi = xs.length) /\ Q (.ref a) H) \/ rSlT K x lo hi H Q
theorem yFy:SlR X (yIf X.K):=yFz.or yIm
end
end L2
namespace HT
open PySem PySem.Spec PyProof.Rows
def lexGt:List Int -> List Int -> Bool
 | [],[]=>false
 | [],_ :: _=>false
 | _ :: _,[]=>true
 | x :: xs,y :: ys=>if x = y then lexGt xs ys else decide (y < x)
theorem lexGt_cons (x y:Int) (xs ys:List Int):lexGt (x :: xs) (y :: ys) = if x = y then lexGt xs ys else decide (y < x):=rfl
section
open PySem.SeqAt
open PySem.AutoSeq1 (wpAny_loadPart')
open PySem.MeetsSeq PySem.MeetsSeq2 PySem.MeetsSeq3
end
section
variable {prog:Program} {w:World} {A:Around} {E:Value -> Shared -> Prop} {s:Shared}
end
end HT
namespace L2
open PySem PySem.Spec PyProof.Rows
section
variable {X:Cx}
end
end L2
namespace L2
open PySem PySem.Spec PyProof.Rows
section
variable {X:Cx} {tg:Expr}
end
section
variable {X:Cx}
theorem z3g (hc:X.calm = true):z6e X (.builtin "all") (fun xs H Q=>∃ (a:Addr) (bs:List Bool),xs = [.ref a] /\ SqL X.K H a (bs.map V.bl) /\ Q (.bl (bs.all id)) H):=by
 intro pins s σ H xs us Q I r h
 obtain ⟨a,bs,rfl,hq,q⟩:=h
 obtain ⟨u,rfl,ru⟩:=zDm r
 cases ru
 have hh:X.A.in1.handled = none:=I.ok.hd hc
 obtain ⟨its,r',pl,hz⟩:=I.list hq
 have hl:=r'.length
 rw [List.length_map] at hl
 have hlt:a < s.heap.objs.size:=by obtain ⟨_,e,_⟩:=pl.isList; exact Heap.lt_size e
 refine call_all_walk (wpAny_pyIter_list pl.isList ⟨_,_,_,_,_,_,fun i=>bs.getD i false,rfl,Walks.list (A:=X.A.in1) hh _ a (Nat.ne_of_lt hlt) its.toArray,⟨⟨_,Heap.get?_push_size _ rfl,rfl,rfl⟩,pl.isList.push _⟩,?_,fun h' tk hk=>?_⟩)
 ·intro i v s' Q' E' hv hQ
  have hv':its[i]? = some v:=by simpa using hv
  have hi:i < bs.length:=by have:=(List.getElem?_eq_some_iff.mp hv').1; omega
  have hx:(bs.map V.bl)[i]? = some (V.bl (bs.getD i false)):=by simp [hi]
  obtain ⟨u,hu,ru⟩:=r'.get hx
  rw [hv'] at hu
  cases hu
  cases ru
  exact wpAny_truthy_bool hQ
 ·have e:(List.range its.toArray.size).all (fun i=>bs.getD i false) = bs.all id:=by
   rw [List.size_toArray,<- hl,Bool.eq_iff_iff]
   simp only [List.all_eq_true,List.mem_range,id]
   constructor
   ·intro h b hb
    obtain ⟨i,hi,rfl⟩:=List.mem_iff_getElem.mp hb
    have:=h i hi
    simpa [hi] using this
   ·intro h i hi
    have:=h bs[i] (List.getElem_mem hi)
    simpa [hi] using this
  rw [e]
  exact ⟨.bl _,H,I.kept fun b o e=>hk b o (by simpa using Nat.ne_of_lt (Heap.lt_size e)) (Heap.get?_push_of_some _ e),rfl,q⟩
end
end L2
namespace L2
open PySem PySem.Spec PyProof.Rows PySem.NumText PySem.Calls
end L2
namespace L2
open PySem PySem.Spec PyProof.Rows PySem.NumText
end L2
namespace L2
open PySem PySem.Spec PyProof.Rows
section
variable {M:Model} {A:Around} {E:Value -> Shared -> Prop} {s:Shared} {base:Heap} {env:Env} {outer:List Env} {L e:Addr} {C:Value} {dd:Option Addr} {Q:Unit -> Shared -> Prop}
end
section
variable {X:Cx} {outer:List Env}
end
end L2
namespace L2
open PySem PySem.Spec PyProof.Rows
section
variable {P:Program} {w:World} {K:PySem.W.Frag} {mg:Str -> Option Value} {base:Heap}
end
end L2
namespace L2
open PySem PySem.Spec PyProof.Rows
section
variable {X:Cx} {pins:List (Addr × Obj)} {σ:St} {H H':Hp} {s s3:Shared} {e:Addr} {C:Value} {dd:Option Addr}
end
section
variable {X:Cx} {pins:List (Addr × Obj)} {σ:St} {H:Hp} {s:Shared} {e:Addr}
end
end L2
namespace L2
open PySem PySem.Spec PyProof.Rows PySem.W PySem.Calls PySem.Builtin PySem.Builtin.ObjectAttr PySem.Builtin.Getset_descriptor
end L2
namespace L2
open PySem PySem.Spec PyProof.Rows PySem.W
section
variable {X:Cx} {k:Nat} {f:Addr} {fd:FuncData} {ps:List Str} {sp:Sp} {dvs:List V} {ds:List Value} {x:Str} {p pos:Pos} {e:Expr} {es:List Expr} {t:TA} {cm:Bool}
end
end L2
namespace L2
open PySem PySem.Spec PyProof.Rows PySem.W
end L2
namespace L2
open PySem PySem.Spec PyProof.Rows
def zEp:Bool -> String
 | true => "tuple_iterator"
 | false => "list_iterator"
def z5m (k:Bool) (h:Heap) (it l:Addr) (i:Nat):Prop:=∃ o,h.get? it = some o /\ o.cls = .type (zEp k) /\ o.data = .fields #[.ref l,.int i 0]
def z5d (k:Bool) (h:Heap) (l:Addr) (items:Array Value):Prop :=
 match k with
 | true=>h.IsTuple l items
 | false=>h.IsList l items
theorem z5m.kept {k:Bool} {h h':Heap} {it l:Addr} {i:Nat} (x:z5m k h it l i) (f:∀ o,h.get? it = some o -> h'.get? it = some o):z5m k h' it l i :=
 let ⟨o,e,r⟩:=x; ⟨o,f o e,r⟩
theorem z5m.lt {k:Bool} {h:Heap} {it l:Addr} {i:Nat} (x:z5m k h it l i):it < h.objs.size:=let ⟨_,e,_⟩:=x; Heap.lt_size e
theorem z5d.kept {k:Bool} {h h':Heap} {l:Addr} {items:Array Value} (x:z5d k h l items) (f:∀ o,h.get? l = some o -> h'.get? l = some o):z5d k h' l items:=by
 cases k
 ·obtain ⟨o,e,r⟩:=x; exact ⟨o,f o e,r⟩
 ·obtain ⟨o,e,r⟩:=x; exact ⟨o,f o e,r⟩
theorem z5d.lt {k:Bool} {h:Heap} {l:Addr} {items:Array Value} (x:z5d k h l items):l < h.objs.size:=by
 cases k
 ·obtain ⟨o,e,_⟩:=x; exact Heap.lt_size e
 ·obtain ⟨o,e,_⟩:=x; exact Heap.lt_size e
section
variable {prog:Program} {w:World} {A:Around} {E:Value -> Shared -> Prop} {s:Shared}
theorem zEt {it l:Addr} {i:Nat} {items:Array Value} {Q:Value -> Shared -> Prop} (hit:s.heap.IsTupleIter it l i) (ht:s.heap.IsTuple l items)
  (h:match items[i]? with
   | some x=>∀ h',h'.IsTupleIter it l (i + 1) -> Heap.SameBut it s.heap h' -> Q x { s with heap:=h' }
   | none=>A.handled = none /\ ∀ h' e,Heap.ExtBut it s.heap h' -> (∃ o,h'.get? e = some o /\ o.cls = .type "StopIteration") -> E (.ref e) { s with heap:=h' }) :
  wpAny (model prog w) A (Builtin.SmallTypes.nextOf (.ref it)) Q E s:=by
 obtain ⟨oi,e1,c1,d1⟩:=id hit
 obtain ⟨ot,e2,_,m2,d2⟩:=ht
 unfold Builtin.SmallTypes.nextOf
 refine wpAny_bind (wpAny_callSpecial?_slot (name:=Str.ofString "__next__") hit.typeIs F.slot_tuple_iterator_next (wpAny_call_entry F.slot_tuple_iterator_next hit.typeIs F.entry_tuple_iterator_next ?_ (F.args_tuple_iterator_next_1 _)))
 show wpAny _ _ (field (.ref it) 0 >>= _) _ _ s
 refine wpAny_bind (wpAny_field e1 d1 (x:=.ref l) rfl ?_)
 show wpAny _ _ (if (Value.ref l == Value.none) = true then _ else _) _ _ s
 rw [if_neg (show ¬ ((Value.ref l == Value.none) = true) from Bool.false_ne_true)]
 show wpAny _ _ (field (.ref it) 1 >>= _) _ _ s
 refine wpAny_bind (wpAny_field e1 d1 (x:=.int i 0) rfl ?_)
 show wpAny _ _ (seqItems? (.ref l) >>= _) _ _ s
 refine wpAny_bind (wpAny_seqItems e2 d2 ?_)
 cases hx:items[i]? with
 | some x =>
  rw [hx] at h
  simp only [Int.toNat_natCast,hx]
  refine wpAny_bind (wpAny_setField e1 d1 (by simp) (wpAny_pure ⟨x,rfl,wpAny_pure (h _ ?_ (Heap.SameBut.update ..))⟩))
  refine ⟨_,Heap.get?_update_self _ e1 (Obj.isFreed_of_fields (Obj.data_mapFields d1 _)),(Obj.cls_mapFields ..).trans c1,?_⟩
  rw [Obj.data_mapFields d1]
  simp [rawInt]
 | none =>
  rw [hx] at h
  obtain ⟨hh,h⟩:=h
  simp only [Int.toNat_natCast,hx]
  refine wpAny_bind (wpAny_rule (wpAny_bind (wpAny_setField e1 d1 (by simp) ?_)))
  show wpAny _ _ (newExc (.type "StopIteration") [] >>= _) _ _ _
  refine wpAny_bind ?_
  simp only [newExc,newTuple]
  refine wpAny_bind (wpAny_newObj_type ?_ (by size_fits))
  refine wpAny_bind (m:=firstArgMember _ _) (wpAny_of_eq (a:=Value.none) (by first | rfl | (simp only [firstArgMember]; rfl)) ?_)
  refine wpAny_newObj_type ?_ (by size_fits)
  simp only [raiseNew]
  refine wpAny_bind (wpAny_handled ?_)
  first | rw [show A.in1.handled = none from hh] | rw [hh]
  exact wpAny_bind (wpAny_pure (wpAny_throw (h _ _ (((Heap.SameBut.update ..).extBut.push _).push _) ⟨_,Heap.get?_push_size _ rfl,rfl⟩)))
theorem yCb {k:Bool} {it l:Addr} {i:Nat} {items:Array Value} {x:Value} {Q:Value -> Shared -> Prop} (hit:z5m k s.heap it l i) (hl:z5d k s.heap l items) (hx:items[i]? = some x)
  (hQ:∀ h',z5m k h' it l (i + 1) -> Heap.SameBut it s.heap h' -> Q x { s with heap:=h' }):wpAny (model prog w) A (Builtin.SmallTypes.nextOf (.ref it)) Q E s:=by
 cases k
 ·exact wpAny_nextOf_list_item hit hl hx hQ
 ·exact zEt hit hl (by rw [hx]; exact hQ)
theorem endS {k:Bool} {it l:Addr} {i:Nat} {items:Array Value} {Q:Value -> Shared -> Prop} (hh:A.handled = none) (hit:z5m k s.heap it l i) (hl:z5d k s.heap l items) (hx:items[i]? = none)
  (hE:∀ h' e,Heap.ExtBut it s.heap h' -> (∃ o,h'.get? e = some o /\ o.cls = .type "StopIteration") -> E (.ref e) { s with heap:=h' }):wpAny (model prog w) A (Builtin.SmallTypes.nextOf (.ref it)) Q E s:=by
 cases k
 ·exact wpAny_nextOf_list_end hh hit hl hx hE
 ·exact zEt hit hl (by rw [hx]; exact ⟨hh,hE⟩)
theorem y8y {k:Bool} {l:Addr} {items:Array Value} {Q:Value -> Shared -> Prop} (hl:z5d k s.heap l items)
  (hQ:Q (.ref s.heap.objs.size) { s with heap:=s.heap.push { cls:=.type (zEp k),data:=.fields #[.ref l,.int 0 0] } }):wpAny (model prog w) A (pyIter (.ref l)) Q E s:=by
 cases k
 ·exact wpAny_pyIter_list hl hQ
 ·exact wpAny_pyIter_tuple hl hQ
structure ZipAt (k1 k2:Bool) (h:Heap) (z TI TO i1 i2 l1 l2:Addr) (f0:Value) (j1 j2:Nat):Prop where
 zz:IsZip h z TI TO f0
 ti:IsPair h TI (.ref i1) (.ref i2)
 tO:∃ a b,IsPair h TO a b
 a1:z5m k1 h i1 l1 j1
 a2:z5m k2 h i2 l2 j2
theorem ZipAt.kept {k1 k2:Bool} {h h':Heap} {z TI TO i1 i2 l1 l2:Addr} {f0:Value} {j1 j2:Nat} (x:ZipAt k1 k2 h z TI TO i1 i2 l1 l2 f0 j1 j2) (f:∀ b ∈ [z,TI,TO,i1,i2],∀ o,h.get? b = some o -> h'.get? b = some o) :
  ZipAt k1 k2 h' z TI TO i1 i2 l1 l2 f0 j1 j2:=by
 obtain ⟨a,b,⟨c,d,e⟩,p,q⟩:=x
 exact ⟨f z (by simp) _ a,f TI (by simp) _ b,⟨c,d,f TO (by simp) _ e⟩,p.kept (f i1 (by simp)),q.kept (f i2 (by simp))⟩
theorem yDk {k1 k2:Bool} {z TI TO i1 i2 l1 l2:Addr} {j1 j2:Nat} {xs ys:Array Value} {x y:Value} {Q:Value -> Shared -> Prop} (D:ZipApart z TI TO i1 i2 l1 l2) (Z:ZipAt k1 k2 s.heap z TI TO i1 i2 l1 l2 .none j1 j2)
  (b1:z5d k1 s.heap l1 xs) (b2:z5d k2 s.heap l2 ys) (hx:xs[j1]? = some x) (hy:ys[j2]? = some y)
  (hQ:∀ h',ZipAt k1 k2 h' z TI TO i1 i2 l1 l2 (rawInt s.heap.objs.size) (j1 + 1) (j2 + 1) -> IsPair h' s.heap.objs.size x y -> (∀ c o,c ∉ [z,TO,i1,i2] -> s.heap.get? c = some o -> h'.get? c = some o) -> Q (.ref s.heap.objs.size) { s with heap:=h' }) :
  wpAny (model prog w) A (Builtin.«zip.__next__» ⟨[.ref z],[]⟩) (fun fin s'=>∃ v,fin = .done (.ret v) /\ Q v s') E s:=by
 obtain ⟨g0,g1,⟨oa,ob,g2⟩,p1,p2⟩:=Z
 show wpAny _ _ (field (.ref z) 2 >>= _) _ _ _
 refine wpAny_bind (wpAny_field g0 rfl (x:=.bool false) rfl ?_)
 show wpAny _ _ (field (.ref z) 3 >>= _) _ _ _
 refine wpAny_bind (wpAny_field g0 rfl (x:=.ref TI) rfl ?_)
 refine wpAny_bind (wpAny_seqItems g1 rfl ?_)
 show wpAny _ _ (Builtin.SmallTypes.ownedTupleIsFree (.ref z) >>= _) _ _ _
 refine wpAny_bind ?_
 unfold Builtin.SmallTypes.ownedTupleIsFree
 refine wpAny_bind (wpAny_field g0 rfl (x:=.none) rfl (wpAny_pure ?_))
 simp only [if_true]
 refine wpAny_bind (wpAny_rule ?_)
 refine wpAny_bind (wpAny_field g0 rfl (x:=.ref TO) rfl ?_)
 refine wpAny_bind (wpAny_setField_rec g0 (by simp) fun ha za sa=>?_)
 replace za:IsZip ha z TI TO .ellipsis:=za
 refine wpAny_bind ?_
 simp only [List.zipIdx_cons,List.zipIdx_nil,List.forIn_cons,List.forIn_nil]
 refine wpAny_bind (wpAny_bind (wpAny_onRaise ?_))
 show wpAny _ _ (Builtin.SmallTypes.nextOf (.ref i1) >>= _) _ _ _
 refine wpAny_bind (yCb (p1.kept fun o e=>sa.extBut _ _ D.i1z e) (b1.kept fun o e=>sa.extBut _ _ D.l1z e) hx fun hb p1b sb=>wpAny_pure ?_)
 have t2:IsPair hb TO oa ob:=sb.extBut _ _ D.TOi1 (sa.extBut _ _ D.TOz g2)
 refine wpAny_bind (wpAny_seqItems t2 rfl ?_)
 refine wpAny_bind (wpAny_updateSeq_pair t2 fun hc t3 sc=>?_)
 replace t3:IsPair hc TO x ob:=t3
 refine wpAny_bind (wpAny_letGo (wpAny_pure ?_))
 refine wpAny_bind (wpAny_bind (wpAny_onRaise ?_))
 show wpAny _ _ (Builtin.SmallTypes.nextOf (.ref i2) >>= _) _ _ _
 refine wpAny_bind (yCb (p2.kept fun o e=>sc.extBut _ _ D.TOi2.symm (sb.extBut _ _ D.i12.symm (sa.extBut _ _ D.i2z e))) (b2.kept fun o e=>sc.extBut _ _ D.l2TO (sb.extBut _ _ D.l2i1 (sa.extBut _ _ D.l2z e))) hy fun hd p2d sd=>wpAny_pure ?_)
 have t4:IsPair hd TO x ob:=sd.extBut _ _ D.TOi2 t3
 refine wpAny_bind (wpAny_seqItems t4 rfl ?_)
 refine wpAny_bind (wpAny_updateSeq_pair t4 fun he t5 se=>?_)
 replace t5:IsPair he TO x y:=t5
 refine wpAny_bind (wpAny_letGo (wpAny_pure (wpAny_pure ?_)))
 refine wpAny_bind (wpAny_seqItems t5 rfl ?_)
 refine wpAny_bind (wpAny_newTuple ?_)
 have size:he.objs.size = s.heap.objs.size:=by rw [se.1,sd.1,sc.1,sb.1,sa.1]
 have ze:IsZip he z TI TO .ellipsis:=se.extBut _ _ D.TOz.symm (sd.extBut _ _ D.i2z.symm (sc.extBut _ _ D.TOz.symm (sb.extBut _ _ D.i1z.symm za)))
 have ke:∀ c o,c ∉ [z,TO,i1,i2] -> s.heap.get? c = some o -> he.get? c = some o:=fun c o n e=>by
  simp only [List.mem_cons,List.not_mem_nil,or_false,not_or] at n
  exact se.extBut _ _ n.2.1 (sd.extBut _ _ n.2.2.2 (sc.extBut _ _ n.2.1 (sb.extBut _ _ n.2.2.1 (sa.extBut _ _ n.1 e))))
 have q1:z5m k1 he i1 l1 (j1 + 1):=p1b.kept fun o e=>se.extBut _ _ D.TOi1.symm (sd.extBut _ _ D.i12 (sc.extBut _ _ D.TOi1.symm e))
 have q2:z5m k2 he i2 l2 (j2 + 1):=p2d.kept fun o e=>se.extBut _ _ D.TOi2.symm e
 have tie:IsPair he TI (.ref i1) (.ref i2):=se.extBut _ _ D.TITO (sd.extBut _ _ D.TIi2 (sc.extBut _ _ D.TITO (sb.extBut _ _ D.TIi1 (sa.extBut _ _ D.TIz g1))))
 have zlt:z < he.objs.size:=Heap.lt_size ze
 show wpAny _ _ (Builtin.SmallTypes.ownedTupleHandOut (.ref z) (.ref he.objs.size) >>= _) _ _ _
 refine wpAny_bind ?_
 unfold Builtin.SmallTypes.ownedTupleHandOut
 have zf:IsZip (he.push { cls:=.type "tuple",data:=.seq #[x,y] }) z TI TO .ellipsis:=Heap.get?_push_of_some _ ze
 refine wpAny_bind (wpAny_setField_rec zf (by simp) fun hg zg sg=>?_)
 replace zg:IsZip hg z TI TO (rawInt he.objs.size):=zg
 refine wpAny_setField_rec zg (by simp) fun hn zn sn=>?_
 replace zn:IsZip hn z TI TO (rawInt he.objs.size):=zn
 have up:∀ c o,c ≠ z -> he.get? c = some o -> hn.get? c = some o:=fun c o n e=>sn.extBut _ _ n (sg.extBut _ _ n (Heap.get?_push_of_some _ e))
 have tn:IsPair hn he.objs.size x y:=sn.extBut _ _ (Nat.ne_of_gt zlt) (sg.extBut _ _ (Nat.ne_of_gt zlt) (Heap.get?_push_size _ rfl))
 rw [size] at zn tn
 refine wpAny_pure ⟨_,rfl,?_⟩
 show Q (.ref he.objs.size) _
 rw [size]
 refine hQ hn ⟨zn,up _ _ D.TIz tie,⟨_,_,up _ _ D.TOz t5⟩,q1.kept fun o e=>up _ _ D.i1z e,q2.kept fun o e=>up _ _ D.i2z e⟩ tn fun c o n e=>up c o (fun z=>n (by simp [z])) (ke c o n e)
theorem yGq {k1 k2:Bool} {z TI TO i1 i2 l1 l2:Addr} {j1 j2:Nat} {xs ys:Array Value} {Q:Fin -> Shared -> Prop} (hh:A.handled = none) (D:ZipApart z TI TO i1 i2 l1 l2) (Z:ZipAt k1 k2 s.heap z TI TO i1 i2 l1 l2 .none j1 j2)
  (b1:z5d k1 s.heap l1 xs) (b2:z5d k2 s.heap l2 ys) (hend:xs[j1]? = none \/ ys[j2]? = none)
  (hE:∀ h' e,(∀ c o,c ∉ [z,TO,i1,i2] -> s.heap.get? c = some o -> h'.get? c = some o) -> (∃ o,h'.get? e = some o /\ o.cls = .type "StopIteration") -> E (.ref e) { s with heap:=h' }) :
  wpAny (model prog w) A (Builtin.«zip.__next__» ⟨[.ref z],[]⟩) Q E s:=by
 obtain ⟨g0,g1,⟨oa,ob,g2⟩,p1,p2⟩:=Z
 show wpAny _ _ (field (.ref z) 2 >>= _) _ _ _
 refine wpAny_bind (wpAny_field g0 rfl (x:=.bool false) rfl ?_)
 show wpAny _ _ (field (.ref z) 3 >>= _) _ _ _
 refine wpAny_bind (wpAny_field g0 rfl (x:=.ref TI) rfl ?_)
 refine wpAny_bind (wpAny_seqItems g1 rfl ?_)
 show wpAny _ _ (Builtin.SmallTypes.ownedTupleIsFree (.ref z) >>= _) _ _ _
 refine wpAny_bind ?_
 unfold Builtin.SmallTypes.ownedTupleIsFree
 refine wpAny_bind (wpAny_field g0 rfl (x:=.none) rfl (wpAny_pure ?_))
 simp only [if_true]
 refine wpAny_bind (wpAny_rule ?_)
 refine wpAny_bind (wpAny_field g0 rfl (x:=.ref TO) rfl ?_)
 refine wpAny_bind (wpAny_setField_rec g0 (by simp) fun ha za sa=>?_)
 replace za:IsZip ha z TI TO .ellipsis:=za
 refine wpAny_bind ?_
 simp only [List.zipIdx_cons,List.zipIdx_nil,List.forIn_cons,List.forIn_nil]
 refine wpAny_bind (wpAny_bind (wpAny_onRaise ?_))
 show wpAny _ _ (Builtin.SmallTypes.nextOf (.ref i1) >>= _) _ _ _
 cases hx:xs[j1]? with
 | none =>
  refine wpAny_bind (endS hh (p1.kept fun o e=>sa.extBut _ _ D.i1z e) (b1.kept fun o e=>sa.extBut _ _ D.l1z e) hx fun hb e sb te=>?_)
  obtain ⟨oe,e1,e2⟩:=te
  have zb:IsZip hb z TI TO .ellipsis:=sb _ _ D.i1z.symm za
  have nez:e ≠ z:=fun q=>by subst q; rw [zb] at e1; cases e1; simp at e2
  refine wpAny_setField_rec zb (by simp) fun hc _ sc=>hE hc e (fun c o n q=>?_) ⟨oe,sc.extBut _ _ nez e1,e2⟩
  simp only [List.mem_cons,List.not_mem_nil,or_false,not_or] at n
  exact sc.extBut _ _ n.1 (sb _ _ n.2.2.1 (sa.extBut _ _ n.1 q))
 | some x =>
  have hy:ys[j2]? = none:=hend.resolve_left (by rw [hx]; intro q; cases q)
  refine wpAny_bind (yCb (p1.kept fun o e=>sa.extBut _ _ D.i1z e) (b1.kept fun o e=>sa.extBut _ _ D.l1z e) hx fun hb p1b sb=>wpAny_pure ?_)
  have t2:IsPair hb TO oa ob:=sb.extBut _ _ D.TOi1 (sa.extBut _ _ D.TOz g2)
  refine wpAny_bind (wpAny_seqItems t2 rfl ?_)
  refine wpAny_bind (wpAny_updateSeq_pair t2 fun hc t3 sc=>?_)
  refine wpAny_bind (wpAny_letGo (wpAny_pure ?_))
  refine wpAny_bind (wpAny_bind (wpAny_onRaise ?_))
  show wpAny _ _ (Builtin.SmallTypes.nextOf (.ref i2) >>= _) _ _ _
  refine wpAny_bind (endS hh (p2.kept fun o e=>sc.extBut _ _ D.TOi2.symm (sb.extBut _ _ D.i12.symm (sa.extBut _ _ D.i2z e))) (b2.kept fun o e=>sc.extBut _ _ D.l2TO (sb.extBut _ _ D.l2i1 (sa.extBut _ _ D.l2z e))) hy fun hd e sd te=>?_)
  obtain ⟨oe,e1,e2⟩:=te
  have zd:IsZip hd z TI TO .ellipsis:=sd _ _ D.i2z.symm (sc.extBut _ _ D.TOz.symm (sb.extBut _ _ D.i1z.symm za))
  have nez:e ≠ z:=fun q=>by subst q; rw [zd] at e1; cases e1; simp at e2
  refine wpAny_setField_rec zd (by simp) fun he _ se=>hE he e (fun c o n q=>?_) ⟨oe,se.extBut _ _ nez e1,e2⟩
  simp only [List.mem_cons,List.not_mem_nil,or_false,not_or] at n
  exact se.extBut _ _ n.1 (sd _ _ n.2.2.2 (sc.extBut _ _ n.2.1 (sb.extBut _ _ n.2.2.1 (sa.extBut _ _ n.1 q))))
theorem y5d {k1 k2:Bool} {z TI TO i1 i2 l1 l2:Addr} {j1 j2:Nat} {xs ys:Array Value} {x y:Value} {Q:Option Value -> Shared -> Prop} (D:ZipApart z TI TO i1 i2 l1 l2) (Z:ZipAt k1 k2 s.heap z TI TO i1 i2 l1 l2 .none j1 j2)
  (b1:z5d k1 s.heap l1 xs) (b2:z5d k2 s.heap l2 ys) (hx:xs[j1]? = some x) (hy:ys[j2]? = some y)
  (hQ:∀ h',ZipAt k1 k2 h' z TI TO i1 i2 l1 l2 (rawInt s.heap.objs.size) (j1 + 1) (j2 + 1) -> IsPair h' s.heap.objs.size x y -> (∀ c o,c ∉ [z,TO,i1,i2] -> s.heap.get? c = some o -> h'.get? c = some o) -> Q (some (.ref s.heap.objs.size)) { s with heap:=h' }) :
  wpAny (model prog w) A (pyNext (.ref z)) Q E s:=by
 have ty:s.TypeIs (.ref z) "zip" := ⟨_,Z.zz,rfl⟩
 unfold pyNext
 exact wpAny_bind (wpAny_attempt (wpAny_callSpecial?_slot (name:=Str.ofString "__next__") ty F.slot_zip_next (wpAny_call_entry F.slot_zip_next ty F.entry_zip_next (yDk D Z b1 b2 hx hy fun h' r1 r2 r3=>wpAny_pure (hQ h' r1 r2 r3)) (F.args_zip_next_1 _))))
theorem zGo {k1 k2:Bool} {z TI TO i1 i2 l1 l2:Addr} {j1 j2:Nat} {xs ys:Array Value} {Q:Option Value -> Shared -> Prop} (hh:A.handled = none) (D:ZipApart z TI TO i1 i2 l1 l2) (Z:ZipAt k1 k2 s.heap z TI TO i1 i2 l1 l2 .none j1 j2)
  (b1:z5d k1 s.heap l1 xs) (b2:z5d k2 s.heap l2 ys) (hend:xs[j1]? = none \/ ys[j2]? = none)
  (hQ:∀ h',(∀ c o,c ∉ [z,TO,i1,i2] -> s.heap.get? c = some o -> h'.get? c = some o) -> Q none { s with heap:=h' }):wpAny (model prog w) A (pyNext (.ref z)) Q E s:=by
 have ty:s.TypeIs (.ref z) "zip" := ⟨_,Z.zz,rfl⟩
 unfold pyNext
 refine wpAny_bind (wpAny_attempt (wpAny_callSpecial?_slot (name:=Str.ofString "__next__") ty F.slot_zip_next (wpAny_call_entry F.slot_zip_next ty F.entry_zip_next (yGq hh D Z b1 b2 hend fun h' e hk he=>?_) (F.args_zip_next_1 _))))
 obtain ⟨o,e1,e2⟩:=he
 exact wpAny_bind (wpAny_isInstance (T := "StopIteration") (b:=true) ⟨o,e1,e2⟩ isSubtype_stop (wpAny_pure (hQ _ hk)))
end
def zH1 (k1:Bool) (h:Heap) (l1:Addr):Heap:=h.push { cls:=.type (zEp k1),data:=.fields #[.ref l1,.int 0 0] }
def zH2 (k1 k2:Bool) (h:Heap) (l1 l2:Addr):Heap:=(zH1 k1 h l1).push { cls:=.type (zEp k2),data:=.fields #[.ref l2,.int 0 0] }
def zH3 (k1 k2:Bool) (h:Heap) (l1 l2:Addr):Heap:=(zH2 k1 k2 h l1 l2).push { cls:=.type "tuple",data:=.seq #[.ref h.objs.size,.ref (zH1 k1 h l1).objs.size] }
def zH4 (k1 k2:Bool) (h:Heap) (l1 l2:Addr):Heap:=(zH3 k1 k2 h l1 l2).push { cls:=.type "tuple",data:=.seq #[.none,.none] }
def zH5 (k1 k2:Bool) (h:Heap) (l1 l2:Addr):Heap:=(zH4 k1 k2 h l1 l2).push { cls:=.type "zip",data:=.fields #[.none,.bool false,.bool false,.ref (zH2 k1 k2 h l1 l2).objs.size,.ref (zH3 k1 k2 h l1 l2).objs.size] }
theorem zHe (k1 k2:Bool) (l1 l2:Addr) (xs ys:Array Value) :
  Meets (Builtin.«zip.__new__» ⟨[.type "zip",.ref l1,.ref l2],[]⟩) (fun _ R s=>z5d k1 s.heap l1 xs /\ z5d k2 s.heap l2 ys /\ R (.ok (.ret (.ref (zH4 k1 k2 s.heap l1 l2).objs.size))) { s with heap:=zH5 k1 k2 s.heap l1 l2 }) :=
 .of_wp fun prog w A R s h=>by
  obtain ⟨hp,gn,dr,tk,os⟩:=s
  obtain ⟨q1,q2,h⟩:=h
  have hsub:=sub_zip
  have r1:z5d k1 (Shared.heap ⟨hp,gn,dr,tk,os⟩) l1 xs:=q1
  have r2:z5d k2 (Shared.heap ⟨hp.push { cls:=.type (zEp k1),data:=.fields #[.ref l1,.int 0 0] },gn,dr,tk,os⟩) l2 ys:=z5d.kept q2 fun o e=>Heap.get?_push_of_some _ e
  wp_walk using y8y r1,y8y r2
  exact ⟨_,rfl,h⟩
section
variable {prog:Program} {w:World} {A:Around} {E:Value -> Shared -> Prop} {s:Shared}
theorem yAl {k1 k2:Bool} {l1 l2:Addr} {xs ys:Array Value} {Q:Value -> Shared -> Prop} (b1:z5d k1 s.heap l1 xs) (b2:z5d k2 s.heap l2 ys)
  (hQ:∀ h',ZipAt k1 k2 h' (s.heap.objs.size + 4) (s.heap.objs.size + 2) (s.heap.objs.size + 3) s.heap.objs.size (s.heap.objs.size + 1) l1 l2 .none 0 0 -> (∀ c o,s.heap.get? c = some o -> h'.get? c = some o) -> Q (.ref (s.heap.objs.size + 4)) { s with heap:=h' }) :
  wpAny (model prog w) A (call (.type "zip") [.ref l1,.ref l2]) Q E s:=by
 refine callType_new F.called_zip (by decide) (F.typeCall_zip_2 _ _) (F.newCall_zip_2 _ _) (fun obj=>F.args_object_init_3 obj _ _) F.entry_zip_new (zHe k1 k2 l1 l2 xs ys) ⟨b1,b2,?_⟩
 have n1:(zH1 k1 s.heap l1).objs.size = s.heap.objs.size + 1:=Heap.size_push ..
 have n2:(zH2 k1 k2 s.heap l1 l2).objs.size = s.heap.objs.size + 2:=by unfold zH2; rw [Heap.size_push,n1]
 have n3:(zH3 k1 k2 s.heap l1 l2).objs.size = s.heap.objs.size + 3:=by unfold zH3; rw [Heap.size_push,n2]
 have n4:(zH4 k1 k2 s.heap l1 l2).objs.size = s.heap.objs.size + 4:=by unfold zH4; rw [Heap.size_push,n3]
 have f5:(zH5 k1 k2 s.heap l1 l2).get? (zH4 k1 k2 s.heap l1 l2).objs.size = some _:=Heap.get?_push_size _ rfl
 have f4:(zH5 k1 k2 s.heap l1 l2).get? (zH3 k1 k2 s.heap l1 l2).objs.size = some _:=Heap.get?_push_of_some _ (Heap.get?_push_size _ rfl)
 have f3:(zH5 k1 k2 s.heap l1 l2).get? (zH2 k1 k2 s.heap l1 l2).objs.size = some _:=Heap.get?_push_of_some _ (Heap.get?_push_of_some _ (Heap.get?_push_size _ rfl))
 have f2:(zH5 k1 k2 s.heap l1 l2).get? (zH1 k1 s.heap l1).objs.size = some _:=Heap.get?_push_of_some _ (Heap.get?_push_of_some _ (Heap.get?_push_of_some _ (Heap.get?_push_size _ rfl)))
 have f1:(zH5 k1 k2 s.heap l1 l2).get? s.heap.objs.size = some _:=Heap.get?_push_of_some _ (Heap.get?_push_of_some _ (Heap.get?_push_of_some _ (Heap.get?_push_of_some _ (Heap.get?_push_size _ rfl))))
 show _ /\ _
 rw [n2,n3,n4] at f5
 rw [n1,n2] at f3
 rw [n3] at f4
 rw [n1] at f2
 rw [n4]
 exact ⟨⟨_,f5,rfl⟩,hQ _ ⟨f5,f3,⟨_,_,f4⟩,⟨_,f1,rfl,rfl⟩,⟨_,f2,rfl,rfl⟩⟩ fun c o e=>Heap.get?_push_of_some _ (Heap.get?_push_of_some _ (Heap.get?_push_of_some _ (Heap.get?_push_of_some _ (Heap.get?_push_of_some _ e))))⟩
end
end L2
namespace L2
open PySem PySem.Spec PyProof.Rows
section
variable {X:Cx} {pins:List (Addr × Obj)} {σ:St} {H:Hp} {s:Shared} {h':Heap}
theorem Inv.turnedL {t':Nat} {ch:List Addr} (I:Inv X pins σ H s) (hf:∀ b ∈ ch,FpOk X pins H b) (k:∀ b o,b ∉ ch -> s.heap.get? b = some o -> h'.get? b = some o):Inv X pins σ H { s with heap:=h',toks:=t' }:=by
 have nch:∀ b u,H b = some u -> b ∉ ch:=fun b u e z=>by rw [(hf b z).1] at e; cases e
 refine I.step (g':=s.gens) (d':=s.drawn) (ch:=ch) (fun b hb=>⟨(hf b hb).2.2.2.1,(hf b hb).2.1,(hf b hb).2.2.2.2.1,(hf b hb).2.2.2.2.2⟩) (fun b o _ _ hc e _=>k b o hc e) (fun b o _ _ hc e _=>⟨o.slots,k b o hc e⟩) (fun _ _ _ _ n=>n)
  (fun b o hc e=>⟨o,k b o hc e⟩) (fun _ _ e=>e) (fun _ _ _ e=>e) (fun b ps e=>⟨#[],by rw [e]; simp⟩) (fun m hm=>?_) (fun b u e=>?_) I.bare
 ·obtain ⟨o,es,ep,ho,r⟩:=hm
  exact ⟨o,es,ep,k _ o (fun z=>(hf _ z).2.1 rfl) ho,r⟩
 ·refine (I.hok b u e).stay (fun c v hc q=>k c v ?_ q) (fun _ q=>q) fun _ _ q=>q
  rcases hc with z | z
  ·rw [z]; exact nch b u e
  ·exact nch c _ z
theorem Inv.turnedN {t':Nat} {ch:List Addr} {T:Addr} {o:HO} (I:Inv X pins σ H s) (hf:∀ b ∈ ch,FpOk X pins H b) (k:∀ b o,b ∉ ch -> s.heap.get? b = some o -> h'.get? b = some o) (hT:s.heap.objs.size <= T)
  (new:z2n X.prog X.w (upd H T o) h' T o):Inv X pins σ (upd H T o) { s with heap:=h',toks:=t' }:=by
 have nch:∀ b u,H b = some u -> b ∉ ch:=fun b u e z=>by rw [(hf b z).1] at e; cases e
 have hn:H T = none:=I.hok.fresh hT
 refine I.step (g':=s.gens) (d':=s.drawn) (ch:=ch) (fun b hb=>⟨(hf b hb).2.2.2.1,(hf b hb).2.1,(hf b hb).2.2.2.2.1,(hf b hb).2.2.2.2.2⟩) (fun b o _ _ hc e _=>k b o hc e) (fun b o _ _ hc e _=>⟨o.slots,k b o hc e⟩)
  (fun b u _ e n=>by rw [z0n (Nat.ne_of_lt (Nat.lt_of_lt_of_le (Heap.lt_size e) hT))]; exact n)
  (fun b o hc e=>⟨o,k b o hc e⟩) (fun b xs e=>by rw [z0n (z0r e hn)]; exact e) (fun b u xs e=>by rw [z0n (z0r e hn)]; exact e) (fun b ps e=>⟨#[],by rw [z0n (z0r e hn),e]; simp⟩) (fun m hm=>?_) (fun b u e=>?_) I.bare
 ·obtain ⟨o,es,ep,ho,r⟩:=hm
  exact ⟨o,es,ep,k _ o (fun z=>(hf _ z).2.1 rfl) ho,r⟩
 ·by_cases hb:b = T
  ·subst hb; rw [z0c] at e; cases e; exact new
  ·rw [z0n hb] at e
   refine (I.hok b u e).stay (fun c v hc q=>k c v ?_ q) (fun c q=>by rw [z0n (z0r q hn)]; exact q) fun c xs q=>by rw [z0n (z0r q hn)]; exact q
   rcases hc with z | z
   ·rw [z]; exact nch b u e
   ·exact nch c _ z
end
def Sq (k:Bool) (K:PySem.W.Frag) (H:Hp) (a:Addr) (xs:List V):Prop :=
 match k with
 | true=>SqT K H a xs
 | false=>SqL K H a xs
theorem Inv.sq {X:Cx} {pins:List (Addr × Obj)} {σ:St} {H:Hp} {s:Shared} {k:Bool} {a:Addr} {xs:List V} (I:Inv X pins σ H s) (h:Sq k X.K H a xs):∃ its:List Value,Vals xs its /\ z5d k s.heap a its.toArray /\ xs.length <= sizeLine:=by
 cases k
 ·obtain ⟨its,r,p,z⟩:=I.list h
  exact ⟨its,r,p.isList,z⟩
 ·exact I.tuple h
theorem Inv.sq_inj {X:Cx} {pins:List (Addr × Obj)} {σ:St} {H:Hp} {s:Shared} {k:Bool} {a:Addr} {xs ys:List V} (I:Inv X pins σ H s) (h:Sq k X.K H a xs) (h':Sq k X.K H a ys):xs = ys:=by
 cases k
 ·exact I.list_inj h h'
 ·exact I.tuple_inj h h'
def Itz (K:PySem.W.Frag) (k1 k2:Bool) (a b:Addr):It :=
 ⟨fun i H=>∃ xs ys x y,Sq k1 K H a xs /\ Sq k2 K H b ys /\ xs[i]? = some x /\ ys[i]? = some y,
  fun i H v H'=>∃ T x y,H T = none /\ v = .ref T /\ H' = upd H T (.tup [x,y]) /\ (∀ xs,Sq k1 K H a xs -> xs[i]? = some x) /\ ∀ ys,Sq k2 K H b ys -> ys[i]? = some y,
  fun i H=>∃ xs ys,Sq k1 K H a xs /\ Sq k2 K H b ys /\ (xs.length <= i \/ ys.length <= i)⟩
theorem y8n {P:Program} {w:World} {H:Hp} {h:Heap} {T:Addr} {x y:V} {u v:Value} (r1:RelV x u) (r2:RelV y v) (e:IsPair h T u v):z2n P w H h T (.tup [x,y]):=by
 refine ⟨by show 2 <= sizeLine; decide,[u,v],.cons r1 (.cons r2 .nil),⟨_,e,rfl,_,rfl⟩,fun o q=>?_⟩
 rw [e] at q
 cases q
 rfl
theorem yDf {P:Program} {w:World} {K:PySem.W.Frag} {elts:List Expr} {x1:Nat} {pos:Pos} (k1 k2:Bool) (a b z TI TO i1 i2:Addr) (D:ZipApart z TI TO i1 i2 a b) :
  Turn P w K (.Tuple elts x1 pos) (Itz K k1 k2 a b) [z,TI,TO,i1,i2] z (fun i h=>ZipAt k1 k2 h z TI TO i1 i2 a b .none i i) where
 mem:=by simp
 obj:=fun i h st c hc=>by
  obtain ⟨g0,g1,⟨oa,ob,g2⟩,⟨o1,e1,_,d1⟩,⟨o2,e2,_,d2⟩⟩:=st
  simp only [List.mem_cons,List.not_mem_nil,or_false] at hc
  rcases hc with rfl | rfl | rfl | rfl | rfl
  ·exact ⟨_,g0,fun v q=>by cases q⟩
  ·exact ⟨_,g1,fun v q=>by cases q⟩
  ·exact ⟨_,g2,fun v q=>by cases q⟩
  ·exact ⟨_,e1,fun v q=>by rw [d1] at q; cases q⟩
  ·exact ⟨_,e2,fun v q=>by rw [d2] at q; cases q⟩
 keep:=fun i h h' st k=>st.kept k
 item:=by
  intro X hP hw hK hc i pins s σ H E I hf st hg
  subst hP hw hK
  obtain ⟨xs,ys,x,y,hq1,hq2,hx,hy⟩:=hg
  obtain ⟨us,rv1,p1,_⟩:=I.sq hq1
  obtain ⟨ws,rv2,p2,_⟩:=I.sq hq2
  obtain ⟨u,hu,ru⟩:=rv1.get hx
  obtain ⟨v,hv,rv⟩:=rv2.get hy
  refine y5d D st p1 p2 (x:=u) (y:=v) (by simpa using hu) (by simpa using hv) fun h' st' tp kk=>⟨_,rfl,?_⟩
  refine wpAny_letOwnedTupleGo_zip st'.zz fun h2 hz2 sb=>?_
  have up:∀ c o,c ≠ z -> h'.get? c = some o -> h2.get? c = some o:=fun c o n e=>(sb.2 c n).trans e
  have lt:z < s.heap.objs.size:=Heap.lt_size st.zz
  have tp2:IsPair h2 s.heap.objs.size u v:=up _ _ (Nat.ne_of_gt lt) tp
  have I1:Inv X pins σ (upd H s.heap.objs.size (.tup [x,y])) { s with heap:=h2 }:=I.turnedN (t':=s.toks) (ch:=[z,TI,TO,i1,i2]) hf (fun c o n e=>up c o (fun q=>n (by simp [q])) (kk c o (fun q=>n (by
   simp only [List.mem_cons,List.not_mem_nil,or_false] at q ⊢
   rcases q with q | q | q | q <;> simp [q])) e)) (Nat.le_refl _) (y8n ru rv tp2)
  refine ⟨.ref s.heap.objs.size,_,I1,rfl,⟨_,x,y,I.hok.fresh (Nat.le_refl _),rfl,rfl,fun xs' h=>by rw [I.sq_inj h hq1]; exact hx,fun ys' h=>by rw [I.sq_inj h hq2]; exact hy⟩,
   ⟨hz2,up _ _ D.TIz st'.ti,?_,st'.a1.kept (fun o e=>up _ _ D.i1z e),st'.a2.kept fun o e=>up _ _ D.i2z e⟩,fun c hc=>?_⟩
  ·obtain ⟨oa,ob,e⟩:=st'.tO
   exact ⟨oa,ob,up _ _ D.TOz e⟩
  ·have hlt:c < s.heap.objs.size:=by
    obtain ⟨g0,g1,⟨oa,ob,g2⟩,⟨o1,e1,_,d1⟩,⟨o2,e2,_,d2⟩⟩:=st
    simp only [List.mem_cons,List.not_mem_nil,or_false] at hc
    rcases hc with rfl | rfl | rfl | rfl | rfl
    ·exact Heap.lt_size g0
    ·exact Heap.lt_size g1
    ·exact Heap.lt_size g2
    ·exact Heap.lt_size e1
    ·exact Heap.lt_size e2
   rw [z0n (Nat.ne_of_lt hlt)]
   exact (hf c hc).1
 done:=by
  intro X hP hw hK hc i pins s σ H E I hf st hg
  subst hP hw hK
  obtain ⟨xs,ys,hq1,hq2,hend⟩:=hg
  obtain ⟨us,rv1,p1,_⟩:=I.sq hq1
  obtain ⟨ws,rv2,p2,_⟩:=I.sq hq2
  have l1:=rv1.length
  have l2:=rv2.length
  refine zGo (I.ok.hd hc) D st p1 p2 ?_ fun h' kk=>⟨rfl,I.turnedL (t':=s.toks) (ch:=[z,TI,TO,i1,i2]) hf fun c o n e=>kk c o (fun q=>n (by
   simp only [List.mem_cons,List.not_mem_nil,or_false] at q ⊢
   rcases q with q | q | q | q <;> simp [q])) e⟩
  rcases hend with q | q
  ·exact .inl (by simp; omega)
  ·exact .inr (by simp; omega)
 self:=fun _ _ _ _ _ st h=>wpAny_pyIter_zip st.zz h
section
variable {X:Cx} {elts:List Expr} {x1:Nat} {tpos:Pos}
def iZip (K:PySem.W.Frag) (k1 k2:Bool) (ta:TA):TI:=fun σ H R=>ta σ H fun vs H1=>∃ a b,vs = [.ref a,.ref b] /\ (∃ xs,Sq k1 K H1 a xs) /\ (∃ ys,Sq k2 K H1 b ys) /\ R (Itz K k1 k2 a b) H1
theorem zJk (k1 k2:Bool) {a b:Expr} {ta:TA} {p pos:Pos} (hg:Gl X "zip") (hm:X.mg "zip" = none) (ha:PA X [a,b] ta) (hs:starEach [a,b] X.env = [(false,eval a X.env),(false,eval b X.env)]:=by rfl) (hs2:starEach [b] X.env = [(false,eval b X.env)]:=by rfl) :
  PI X (.Tuple elts x1 tpos) (.Call (.Name "zip" p) [a,b] [] pos) (iZip X.K k1 k2 ta):=by
 intro pins s σ H R I h
 refine Call_ (z6n I hg hm boot_zip (PyProof.Rows.callWith_type1 (thn (ha pos pins s σ H _ I h) fun us s1 ⟨vs,H1,I1,r1,q1⟩=>?_) (by rw [hs,hs2]) (by rw [hs2]; rfl)))
 obtain ⟨a,b,e,⟨xs,hq1⟩,⟨ys,hq2⟩,q⟩:=q1
 subst e
 cases r1 with
 | cons r rr =>
  cases rr with
  | cons r' rr =>
   cases rr
   cases r
   cases r'
   obtain ⟨us,rv1,p1,_⟩:=I1.sq hq1
   obtain ⟨ws,rv2,p2,_⟩:=I1.sq hq2
   refine yAl p1 p2 fun h' Z kk=>?_
   have D:=PyProof.Rows.zipApart_new p1.lt p2.lt
   have I2:Inv X pins σ H1 { s1 with heap:=h' }:=I1.kept (t':=s1.toks) kk
   refine wpAny_pyIter_zip (s:={ s1 with heap:=h' }) Z.zz ⟨_,[s1.heap.objs.size + 4,s1.heap.objs.size + 2,s1.heap.objs.size + 3,s1.heap.objs.size,s1.heap.objs.size + 1],_,_,H1,rfl,I2,yDf k1 k2 a b _ _ _ _ _ D,Z,fun c hc=>?_,q⟩
   have hle:s1.heap.objs.size <= c:=by
    simp only [List.mem_cons,List.not_mem_nil,or_false] at hc
    have hc':c = s1.heap.objs.size + 4 \/ c = s1.heap.objs.size + 2 \/ c = s1.heap.objs.size + 3 \/ c = s1.heap.objs.size \/ c = s1.heap.objs.size + 1:=hc
    rcases hc' with e | e | e | e | e <;> rw [e] <;> first | exact Nat.le_refl _ | exact Nat.le_add_right _ _
   exact I1.fpOk hle (I1.hok.fresh hle)
end
end L2
namespace L2
open PySem PySem.Spec PyProof.Rows
theorem zAz {K:PySem.W.Frag} {k1 k2:Bool} {a b:Addr} {xs ys:List V} {g:TG} {tf:TT} {te:TE} {σ:St} {H:Hp} {Q:VK} (Pv:Nat -> List V -> St -> Hp -> Prop) (h0:Pv 0 [] σ H)
  (hl:∀ i zs σ H,i <= min xs.length ys.length -> Pv i zs σ H -> Sq k1 K H a xs /\ Sq k2 K H b ys /\ zs.length <= sizeLine)
  (hs:∀ i x y zs σ H T,xs[i]? = some x -> ys[i]? = some y -> Pv i zs σ H -> H T = none -> g (.ref T) σ (upd H T (.tup [x,y])) fun σ2 H2=>tf σ2 H2 fun b H3=>if b = true then te σ2 H3 fun v H4=>Pv (i + 1) (zs ++ [v]) σ2 H4 else Pv (i + 1) zs σ2 H3)
  (hd:∀ zs σ H,Pv (min xs.length ys.length) zs σ H -> ∀ p,H p = none -> Q (.ref p) (upd H p (.lst zs))):z9j g tf te σ (Itz K k1 k2 a b) H Q:=by
 refine ⟨fun i m zs σ H=>m = min xs.length ys.length - i /\ i <= min xs.length ys.length /\ Pv i zs σ H,⟨_,(Nat.sub_zero _).symm,Nat.zero_le _,h0⟩,?_⟩
 rintro i m zs σ H ⟨rfl,hi,p⟩
 obtain ⟨q1,q2,hz⟩:=hl i zs σ H hi p
 by_cases hlt:i < min xs.length ys.length
 ·have l1:i < xs.length:=by omega
  have l2:i < ys.length:=by omega
  refine .inr ⟨⟨xs,ys,xs[i],ys[i],q1,q2,by simp [l1],by simp [l2]⟩,hz,Pv (i + 1),fun ys' σ' H' p'=>⟨min xs.length ys.length - (i + 1),by omega,rfl,hlt,p'⟩,fun x H' y=>?_⟩
  obtain ⟨T,u,v,hT,rfl,rfl,e1,e2⟩:=y
  exact hs i u v zs σ H T (e1 xs q1) (e2 ys q2) p hT
 ·have e:i = min xs.length ys.length:=by omega
  rw [e] at p
  exact .inl ⟨⟨xs,ys,q1,q2,by omega⟩,hz,hd zs σ H p⟩
theorem yEy {K:PySem.W.Frag} {k1 k2:Bool} {a b:Addr} {xs ys:List V} {g:TG} {tb:TS} {D:Ends} {σ:St} {H:Hp} (Pv:Nat -> St -> Hp -> Prop) (h0:Pv 0 σ H)
  (hl:∀ i σ H,i <= min xs.length ys.length -> Pv i σ H -> Sq k1 K H a xs /\ Sq k2 K H b ys)
  (hs:∀ i x y σ H T,xs[i]? = some x -> ys[i]? = some y -> Pv i σ H -> H T = none -> g (.ref T) σ (upd H T (.tup [x,y])) fun σ2 H2=>tb { D with nx:=Pv (i + 1),ct:=Pv (i + 1),bk:=D.nx } σ2 H2) (hd:∀ σ H,Pv (min xs.length ys.length) σ H -> D.nx σ H) :
  ∃ W:Nat -> Nat -> St -> Hp -> Prop,(∃ m,W 0 m σ H) /\ ∀ i m σ H,W i m σ H ->
   ((Itz K k1 k2 a b).stop i H /\ D.nx σ H) \/ ((Itz K k1 k2 a b).go i H /\ ∃ N:St -> Hp -> Prop,(∀ σ' H',N σ' H' -> ∃ m',m' < m /\ W (i + 1) m' σ' H') /\ ∀ x H',(Itz K k1 k2 a b).yld i H x H' -> g x σ H' fun σ2 H2=>tb { D with nx:=N,ct:=N,bk:=D.nx } σ2 H2):=by
 refine ⟨fun i m σ H=>m = min xs.length ys.length - i /\ i <= min xs.length ys.length /\ Pv i σ H,⟨_,(Nat.sub_zero _).symm,Nat.zero_le _,h0⟩,?_⟩
 rintro i m σ H ⟨rfl,hi,p⟩
 obtain ⟨q1,q2⟩:=hl i σ H hi p
 by_cases hlt:i < min xs.length ys.length
 ·have l1:i < xs.length:=by omega
  have l2:i < ys.length:=by omega
  refine .inr ⟨⟨xs,ys,xs[i],ys[i],q1,q2,by simp [l1],by simp [l2]⟩,Pv (i + 1),fun σ' H' p'=>⟨min xs.length ys.length - (i + 1),by omega,rfl,hlt,p'⟩,fun x H' y=>?_⟩
  obtain ⟨T,u,v,hT,rfl,rfl,e1,e2⟩:=y
  exact hs i u v σ H T (e1 xs q1) (e2 ys q2) p hT
 ·have e:i = min xs.length ys.length:=by omega
  rw [e] at p
  exact .inl ⟨⟨xs,ys,q1,q2,by omega⟩,hd σ H p⟩
section
variable {prog:Program} {w:World} {A:Around} {E:Value -> Shared -> Prop} {s:Shared}
theorem zHr {id:String} {b:Builtin} {args:List Value} {kw:List (Str × Value)} {Q:Value -> Shared -> Prop} (hk:builtinKind id = none) (hp:plainId id = true) (hb:entryFor table id = some b) (ha:argsOk id ⟨args,kw⟩)
  (hc:wpAny (model prog w) A.in1 (b ⟨args,kw⟩) (fun fin s'=>match fin with
   | .done f=>(match (Except.ok f:Result) with | .ok (.ret v)=>Q v s' | .ok _=>False | .error e=>E e s')
   | .again c'=>c'.quiet = true /\ codeAny (model prog w) A c' (fun r s'=>match r with | .ok (.ret v)=>Q v s' | .ok _=>False | .error e=>E e s') s') E s):wpAny (model prog w) A (call (.builtin id) args kw) Q E s:=by
 refine wpAny_call (codeAny_call_builtin hp hb ?_)
 simp only [checkBuiltinCall,hk]
 cases hsig:Manifest.signature? id with
 | none=>exact wpAny_pure hc
 | some sig =>
  have ha':Bind.checkArgs id sig ⟨args,kw⟩ = pure ():=by simpa only [argsOk,hsig] using ha
  simp only [ha']
  exact wpAny_pure hc
end
theorem y0i {val:Nat -> Int}:∀ n j:Nat,j <= n -> val j <= val (argBest (fun i j=>decide (val i > val j)) n)
 | 0,j,h=>by
  have:j = 0:=by omega
  subst this
  exact Int.le_refl _
 | n + 1,j,h=>by
  unfold argBest
  by_cases c:val (n + 1) > val (argBest (fun i j=>decide (val i > val j)) n)
  ·simp only [decide_eq_true c,if_true]
   by_cases e:j = n + 1
   ·rw [e]; exact Int.le_refl _
   ·have:=y0i (val:=val) n j (by omega); omega
  ·simp only [decide_eq_false c,Bool.false_eq_true,if_false]
   by_cases e:j = n + 1
   ·rw [e]; omega
   ·exact y0i n j (by omega)
theorem y0h {val:Nat -> Int}:∀ n j:Nat,j <= n -> val (argBest (fun i j=>decide (val i < val j)) n) <= val j
 | 0,j,h=>by
  have:j = 0:=by omega
  subst this
  exact Int.le_refl _
 | n + 1,j,h=>by
  unfold argBest
  by_cases c:val (n + 1) < val (argBest (fun i j=>decide (val i < val j)) n)
  ·simp only [decide_eq_true c,if_true]
   by_cases e:j = n + 1
   ·rw [e]; exact Int.le_refl _
   ·have:=y0h (val:=val) n j (by omega); omega
  ·simp only [decide_eq_false c,Bool.false_eq_true,if_false]
   by_cases e:j = n + 1
   ·rw [e]; omega
   ·exact y0h n j (by omega)
theorem y0j (bt:Nat -> Nat -> Bool):∀ n:Nat,argBest bt n <= n
 | 0=>Nat.le_refl _
 | n + 1=>by
  unfold argBest
  split
  ·exact Nat.le_refl _
  ·exact Nat.le_trans (y0j bt n) (Nat.le_succ n)
section
variable {prog:Program} {w:World} {A:Around} {R:Result -> Shared -> Prop} {I:Addr} {fp wr:List Addr} {n:Nat} {P:Nat -> Value -> Prop} {St:Nat -> Heap -> Prop}
end
section
variable {prog:Program} {w:World} {A:Around} {E:Value -> Shared -> Prop} {s:Shared}
end
section
variable {X:Cx}
def yEg (m:Int) (ns:List Int):Prop:=m ∈ ns /\ ∀ x ∈ ns,x <= m
theorem yBq {ns:List Int} (hn:0 < ns.length):yEg (ns.getD (argBest (fun i j=>decide (ns.getD i 0 > ns.getD j 0)) (ns.length - 1)) 0) ns:=by
 have hb:=y0j (fun i j=>decide (ns.getD i 0 > ns.getD j 0)) (ns.length - 1)
 have at':∀ j,j < ns.length -> ns.getD j 0 = ns[j]!:=fun j h=>by simp [h]
 refine ⟨?_,fun x hx=>?_⟩
 ·have hl:argBest (fun i j=>decide (ns.getD i 0 > ns.getD j 0)) (ns.length - 1) < ns.length:=by omega
  generalize argBest (fun i j=>decide (ns.getD i 0 > ns.getD j 0)) (ns.length - 1) = k at hl
  have:ns.getD k 0 = ns[k]:=by simp [hl]
  rw [this]
  exact List.getElem_mem hl
 ·obtain ⟨j,hj,rfl⟩:=List.mem_iff_getElem.mp hx
  have h1:=y0i (val:=fun i=>ns.getD i 0) (ns.length - 1) j (by omega)
  have h2:ns.getD j 0 = ns[j]:=by simp [hj]
  rw [<- h2]
  exact h1
theorem zFl (hc:X.calm = true):z6e X (.builtin "max") (fun xs H Q=>∃ (a:Addr) (ns:List Int),xs = [.ref a] /\ SqL X.K H a (ns.map V.int) /\ ns ≠ [] /\ ∀ m,yEg m ns -> Q (.int m) H):=by
 intro pins s σ H xs us Q I r h
 obtain ⟨a,ns,rfl,hq,hne,q⟩:=h
 obtain ⟨u,rfl,ru⟩:=zDm r
 cases ru
 have hh:X.A.in1.handled = none:=I.ok.hd hc
 obtain ⟨its,rv,p,hz⟩:=I.list hq
 have hl:=rv.length
 rw [List.length_map] at hl
 have hlt:a < s.heap.objs.size:=by obtain ⟨_,e,_⟩:=p.isList; exact Heap.lt_size e
 have hn:0 < ns.length:=List.length_pos_iff.mpr hne
 refine call_max_walk (wpAny_pyIter_list p.isList ⟨_,_,_,_,_,_,_,rfl,Walks.list (A:=X.A.in1) hh _ a (Nat.ne_of_lt hlt) its.toArray,⟨⟨_,Heap.get?_push_size _ rfl,rfl,rfl⟩,p.isList.push _⟩,fun b hb=>?_,by rw [List.size_toArray,<- hl]; exact hn,CmpOf.ints_gt (fun i=>ns.getD i 0) (z4m rv),fun v h' tk p1 kk=>?_⟩)
 ·show b < (s.heap.push _).objs.size
  rw [Heap.size_push]
  rcases List.mem_cons.mp hb with rfl | hb
  ·exact Nat.lt_succ_self _
  ·rcases List.mem_cons.mp hb with rfl | hb
   ·exact Nat.lt_succ_of_lt hlt
   ·cases hb
 ·rw [List.size_toArray,<- hl] at p1
  obtain ⟨t,e⟩:=z4m rv _ v p1
  exact ⟨.int _,H,I.kept fun b o e=>kk b o (by simpa using Nat.ne_of_lt (Heap.lt_size e)) (Heap.get?_push_of_some _ e),⟨t,e⟩,q _ (yBq hn)⟩
end
section
variable {prog:Program} {w:World} {A:Around} {R:Result -> Shared -> Prop} {I:Addr} {fp wr:List Addr} {n:Nat} {P:Nat -> Value -> Prop} {St:Nat -> Heap -> Prop}
theorem zAn (a v:Value):argsOk "min" ⟨[a],[(Str.ofString "default",v)]⟩:=by unfold argsOk; kernel_rfl
theorem y7v {kw:List (Str × Value)} (W:Walks prog w A.in1 I fp wr n P St) (bt:Nat -> Nat -> Bool) (hc:CmpOf prog w A.in1 .Lt P bt) (S:Addr) (hSf:S ∉ fp):∀ (k j:Nat) (s:Shared) (vb:Value) (c:Nat),n - (j + 1) = k -> j + 1 <= n -> St (j + 1) s.heap -> P (argBest bt j) vb ->
  s.heap.get? S = some { cls:=.type "list",dict:=none,data:=.seq #[vb,vb] c,slots:=#[] } ->
  (∀ v h' tk,P (argBest bt (n - 1)) v -> (∀ b o,b ∉ wr -> b ≠ S -> s.heap.get? b = some o -> h'.get? b = some o) -> R (.ok (.ret v)) { s with heap:=h',toks:=tk }) ->
  codeAny (model prog w) A (.builtin "min.loop" ⟨[.ref I,.none,.ref S],kw⟩) R s:=by
 have hSw:S ∉ wr:=fun h=>hSf (W.sub _ h)
 have nm:(toString "min" ++ toString ".loop" : String) = "min.loop" := by decide
 intro k
 induction k with
 | zero =>
  intro j s vb c hk hj st hP hS hR
  have hn:j + 1 = n:=by omega
  refine codeAny_builtin F.entry_min_loop ?_
  rw [Around.under_plainId F.plain_min_loop _]
  show wpAny _ A.in1 (seqItems? (.ref S) >>= _) _ _ s
  refine wpAny_bind (wpAny_seqItems hS rfl ?_)
  show wpAny _ A.in1 (tryCatch (pyNext (.ref I)) _ >>= _) _ _ s
  refine wpAny_bind (wpAny_tryCatch (W.done s _ _ (hn ▸ st) fun h' tk kk=>?_))
  have hS':=kk S _ hSw hS
  show wpAny _ A.in1 (updateSeq S (fun _=>#[]) >>= _) _ _ _
  refine wpAny_bind (wpAny_updateSeq hS' rfl (wpAny_bind (wpAny_letGo (wpAny_pure ?_))))
  exact hR vb _ tk (by rw [<- hn]; exact hP) fun b o n1 n2 e=>(Heap.get?_update_other _ _ (Ne.symm n2)).trans (kk b o n1 e)
 | succ k ih =>
  intro j s vb c hk hj st hP hS hR
  have hlt:j + 1 < n:=by omega
  refine codeAny_builtin F.entry_min_loop ?_
  rw [Around.under_plainId F.plain_min_loop _]
  show wpAny _ A.in1 (seqItems? (.ref S) >>= _) _ _ s
  refine wpAny_bind (wpAny_seqItems hS rfl ?_)
  show wpAny _ A.in1 (tryCatch (pyNext (.ref I)) _ >>= _) _ _ s
  refine wpAny_bind (wpAny_tryCatch (W.item (j + 1) s _ _ hlt st fun v h' tk hPv st' kk=>?_))
  have hS':=kk S _ hSw hS
  show wpAny _ A.in1 (tryCatch (holding [v,v] (richCompare .Lt v vb >>= _)) _ >>= _) _ _ _
  refine wpAny_bind (wpAny_tryCatch (wpAny_holding (wpAny_bind (hc (j + 1) (argBest bt j) v vb _ _ _ hPv hP ?_))))
  refine wpAny_bind (wpAny_holding (wpAny_truthy_bool ?_))
  refine wpAny_bind (wpAny_letGo (wpAny_pure ?_))
  cases hb:bt (j + 1) (argBest bt j) with
  | true =>
   simp only [if_true]
   refine wpAny_bind (wpAny_updateSeq hS' rfl (wpAny_bind (wpAny_letGo ?_)))
   rw [nm]
   refine wpAny_pure ⟨plainId_quiet F.plain_min_loop _,ih (j + 1) _ v _ (by omega) hlt (W.frame _ _ _ st' fun b q o e=>?_) (by simp only [argBest,hb,if_true]; exact hPv) (Heap.get?_update_self _ hS' rfl) fun v2 h2 t2 p2 k2=>?_⟩
   ·exact (Heap.get?_update_other _ _ (fun h:S = b=>hSf (by rw [h]; exact q))).trans e
   ·exact hR v2 h2 t2 p2 fun b o n1 n2 e=>k2 b o n1 n2 ((Heap.get?_update_other _ _ (Ne.symm n2)).trans (kk b o n1 e))
  | false =>
   simp only [Bool.false_eq_true,if_false]
   refine wpAny_bind (wpAny_letGo ?_)
   rw [nm]
   refine wpAny_pure ⟨plainId_quiet F.plain_min_loop _,ih (j + 1) _ vb c (by omega) hlt st' (by simp only [argBest,hb,Bool.false_eq_true,if_false]; exact hP) hS' fun v2 h2 t2 p2 k2=>?_⟩
   exact hR v2 h2 t2 p2 fun b o n1 n2 e=>k2 b o n1 n2 (kk b o n1 e)
theorem y7u {d:Value} {s:Shared} {c:Nat} (W:Walks prog w A.in1 I fp wr n P St) (bt:Nat -> Nat -> Bool) (hc:CmpOf prog w A.in1 .Lt P bt) (S:Addr) (hSf:S ∉ fp) (st:St 0 s.heap)
  (hS:s.heap.get? S = some { cls:=.type "list",dict:=none,data:=.seq #[] c,slots:=#[] })
  (hR:∀ v h' tk,(0 < n -> P (argBest bt (n - 1)) v) -> (n = 0 -> v = d) -> (∀ b o,b ∉ wr -> b ≠ S -> s.heap.get? b = some o -> h'.get? b = some o) -> R (.ok (.ret v)) { s with heap:=h',toks:=tk }) :
  codeAny (model prog w) A (.builtin "min.loop" ⟨[.ref I,.none,.ref S],[(Str.ofString "default",d)]⟩) R s:=by
 have hSw:S ∉ wr:=fun h=>hSf (W.sub _ h)
 have nm:(toString "min" ++ toString ".loop" : String) = "min.loop" := by decide
 refine codeAny_builtin F.entry_min_loop ?_
 rw [Around.under_plainId F.plain_min_loop _]
 show wpAny _ A.in1 (seqItems? (.ref S) >>= _) _ _ s
 refine wpAny_bind (wpAny_seqItems hS rfl ?_)
 show wpAny _ A.in1 (tryCatch (pyNext (.ref I)) _ >>= _) _ _ s
 by_cases h0:n = 0
 ·refine wpAny_bind (wpAny_tryCatch (W.done s _ _ (h0 ▸ st) fun h' tk kk=>?_))
  show wpAny _ A.in1 (rule _ >>= _) _ _ _
  refine wpAny_bind (wpAny_rule (wpAny_pure ?_))
  exact hR d h' tk (fun z=>absurd h0 (Nat.ne_of_gt z)) (fun _=>rfl) fun b o n1 _ e=>kk b o n1 e
 ·have hn:0 < n:=Nat.pos_of_ne_zero h0
  refine wpAny_bind (wpAny_tryCatch (W.item 0 s _ _ hn st fun v h' tk hPv st' kk=>?_))
  have hS':=kk S _ hSw hS
  show wpAny _ A.in1 (updateSeq S (fun _=>#[v,v]) >>= _) _ _ _
  refine wpAny_bind (wpAny_updateSeq hS' rfl ?_)
  rw [nm]
  refine wpAny_pure ⟨plainId_quiet F.plain_min_loop _,y7v W bt hc S hSf _ 0 _ v _ rfl hn (W.frame _ _ _ st' fun b q o e=>?_) hPv (Heap.get?_update_self _ hS' rfl) fun v2 h2 t2 p2 k2=>?_⟩
  ·exact (Heap.get?_update_other _ _ (fun h:S = b=>hSf (by rw [h]; exact q))).trans e
  ·exact hR v2 h2 t2 (fun _=>p2) (fun z=>absurd z h0) fun b o n1 n2 e=>k2 b o n1 n2 ((Heap.get?_update_other _ _ (Ne.symm n2)).trans (kk b o n1 e))
end
section
variable {prog:Program} {w:World} {A:Around} {E:Value -> Shared -> Prop} {s:Shared}
theorem z6v {x d:Value} {Q:Value -> Shared -> Prop}
  (h:wpAny (model prog w) A.in1 (pyIter x) (fun it s2=>∃ I fp wr n P St bt,it = .ref I /\ Walks prog w A.in1 I fp wr n P St /\ St 0 s2.heap /\ (∀ b ∈ fp,b < s2.heap.objs.size) /\ CmpOf prog w A.in1 .Lt P bt /\
   ∀ v h' tk,(0 < n -> P (argBest bt (n - 1)) v) -> (n = 0 -> v = d) -> (∀ b o,b ∉ wr -> s2.heap.get? b = some o -> h'.get? b = some o) -> Q v { s2 with heap:=h',toks:=tk }) E s) :
  wpAny (model prog w) A (call (.builtin "min") [x] [(Str.ofString "default",d)]) Q E s:=by
 have nm:(toString "min" ++ toString ".loop" : String) = "min.loop" := by decide
 refine zHr F.kind_min F.plain_min F.entry_min (zAn _ _) ?_
 show wpAny _ A.in1 (Builtin.Builtins.bindParams "min" ["key", "default"] 0 ⟨[],[(Str.ofString "default",d)]⟩ >>= _) _ _ s
 refine wpAny_bind (wpAny_of_eq (show Builtin.Builtins.bindParams "min" ["key", "default"] 0 ⟨[],[(Str.ofString "default",d)]⟩ = pure [none,some d] from rfl) ?_)
 refine wpAny_bind (wpAny_pure ?_)
 refine wpAny_bind (wpAny_mono h (fun it s2 h2=>?_) fun _ _ e=>e)
 obtain ⟨I,fp,wr,n,P,St,bt,rfl,W,st,hfp,hc,hQ⟩:=h2
 refine wpAny_bind (wpAny_newObj_type ?_)
 have hSf:s2.heap.objs.size ∉ fp:=fun hm=>Nat.lt_irrefl _ (hfp _ hm)
 rw [nm]
 refine wpAny_pure ⟨plainId_quiet F.plain_min_loop _,y7u W bt hc s2.heap.objs.size hSf (W.frame _ _ _ st fun b _ o e=>Heap.get?_push_of_some _ e) (Heap.get?_push_size _ rfl) fun v h' tk p1 p2 kk=>?_⟩
 exact hQ v h' tk p1 p2 fun b o n1 e=>kk b o n1 (Nat.ne_of_lt (Heap.lt_size e)) (Heap.get?_push_of_some _ e)
end
section
variable {X:Cx}
def yAh (m:Int) (ns:List Int):Prop:=m ∈ ns /\ ∀ x ∈ ns,m <= x
theorem yBr {ns:List Int} (hn:0 < ns.length):yAh (ns.getD (argBest (fun i j=>decide (ns.getD i 0 < ns.getD j 0)) (ns.length - 1)) 0) ns:=by
 have hb:=y0j (fun i j=>decide (ns.getD i 0 < ns.getD j 0)) (ns.length - 1)
 have at':∀ j,j < ns.length -> ns.getD j 0 = ns[j]!:=fun j h=>by simp [h]
 refine ⟨?_,fun x hx=>?_⟩
 ·have hl:argBest (fun i j=>decide (ns.getD i 0 < ns.getD j 0)) (ns.length - 1) < ns.length:=by omega
  generalize argBest (fun i j=>decide (ns.getD i 0 < ns.getD j 0)) (ns.length - 1) = k at hl
  have:ns.getD k 0 = ns[k]:=by simp [hl]
  rw [this]
  exact List.getElem_mem hl
 ·obtain ⟨j,hj,rfl⟩:=List.mem_iff_getElem.mp hx
  have h1:=y0h (val:=fun i=>ns.getD i 0) (ns.length - 1) j (by omega)
  have h2:ns.getD j 0 = ns[j]:=by simp [hj]
  rw [<- h2]
  exact h1
theorem y7w {pins:List (Addr × Obj)} {σ:St} {H:Hp} {s:Shared} {k:Bool} {a:Addr} {ns:List Int} {E:Value -> Shared -> Prop} {d:Value} {Q:Value -> Shared -> Prop} (hc:X.calm = true) (I:Inv X pins σ H s) (hq:Sq k X.K H a (ns.map V.int))
  (h:∀ h' tk v,(∀ b o,s.heap.get? b = some o -> h'.get? b = some o) -> (0 < ns.length -> ∃ m t,v = .int m t /\ yAh m ns) -> (ns.length = 0 -> v = d) -> Q v { s with heap:=h',toks:=tk }) :
  wpAny (model X.prog X.w) X.A (call (.builtin "min") [.ref a] [(Str.ofString "default",d)]) Q E s:=by
 have hh:X.A.in1.handled = none:=I.ok.hd hc
 obtain ⟨its,rv,p,hz⟩:=I.sq hq
 have hl:=rv.length
 rw [List.length_map] at hl
 have hlt:=p.lt
 have fin:∀ (h':Heap) (tk:Nat) (v:Value),(∀ b o,s.heap.get? b = some o -> h'.get? b = some o) -> (0 < its.toArray.size -> its.toArray[argBest (fun i j=>decide (ns.getD i 0 < ns.getD j 0)) (its.toArray.size - 1)]? = some v) -> (its.toArray.size = 0 -> v = d) -> Q v { s with heap:=h',toks:=tk }:=fun h' tk v kk p1 p2=>by
  rw [List.size_toArray,<- hl] at p1 p2
  refine h h' tk v kk (fun hn=>?_) p2
  obtain ⟨t,e⟩:=z4m rv _ v (p1 hn)
  exact ⟨_,t,e,yBr hn⟩
 have apart:∀ b ∈ [s.heap.objs.size,a],b < s.heap.objs.size + 1:=fun b hb=>by
  rcases List.mem_cons.mp hb with rfl | hb
  ·exact Nat.lt_succ_self _
  ·rcases List.mem_cons.mp hb with rfl | hb
   ·exact Nat.lt_succ_of_lt hlt
   ·cases hb
 cases k
 ·refine z6v (wpAny_pyIter_list p ⟨_,_,_,_,_,_,_,rfl,Walks.list (A:=X.A.in1) hh _ a (Nat.ne_of_lt hlt) its.toArray,⟨⟨_,Heap.get?_push_size _ rfl,rfl,rfl⟩,Heap.IsList.push p _⟩,fun b hb=>?_,CmpOf.ints_lt (fun i=>ns.getD i 0) (z4m rv),fun v h' tk p1 p2 kk=>?_⟩)
  ·show b < (s.heap.push _).objs.size
   rw [Heap.size_push]
   exact apart b hb
  ·exact fin h' tk v (fun b o e=>kk b o (by simpa using Nat.ne_of_lt (Heap.lt_size e)) (Heap.get?_push_of_some _ e)) p1 p2
 ·refine z6v (wpAny_pyIter_tuple p ⟨_,_,_,_,_,_,_,rfl,Walks.tuple (A:=X.A.in1) hh _ a (Nat.ne_of_lt hlt) its.toArray,⟨⟨_,Heap.get?_push_size _ rfl,rfl,rfl⟩,Heap.IsTuple.push p _⟩,fun b hb=>?_,CmpOf.ints_lt (fun i=>ns.getD i 0) (z4m rv),fun v h' tk p1 p2 kk=>?_⟩)
  ·show b < (s.heap.push _).objs.size
   rw [Heap.size_push]
   exact apart b hb
  ·exact fin h' tk v (fun b o e=>kk b o (by simpa using Nat.ne_of_lt (Heap.lt_size e)) (Heap.get?_push_of_some _ e)) p1 p2
def yIj (K:PySem.W.Frag) (k:Bool) (x d:V) (H:Hp) (Q:VK):Prop:=∃ a ns,x = .ref a /\ Sq k K H a (ns.map V.int) /\ ∀ v,((ns = [] /\ v = d) \/ ∃ m,v = .int m /\ yAh m ns) -> Q v H
def k0q (K:PySem.W.Frag) (k:Bool) (te td:TE):TE:=fun σ H Q=>te σ H fun x H1=>td σ H1 fun d H2=>yIj K k x d H2 Q
theorem yFm (k:Bool) {e dE:Expr} {te td:TE} {p kp pos:Pos} (hc:X.calm = true) (hg:Gl X "min") (hm:X.mg "min" = none) (he:PE X e te) (hd:PE X dE td)
  (hse:starEach [e] X.env = [(false,eval e X.env)]:=by rfl):PE X (.Call (.Name "min" p) [e] [⟨some "default",dE,kp⟩] pos) (k0q X.K k te td):=by
 intro pins s σ H Q I h
 refine wpAny_Call_Name_kw (z6n I hg hm boot_min ?_ (by decide) (by decide))
 refine callWith_kw (thn (z0a he z0d hse pos pins s σ H (fun vs H1=>match vs with | [x]=>td σ H1 fun d H2=>yIj X.K k x d H2 Q | _=>False) I h) fun us s1 ⟨vs,H1,I1,r1,q1⟩=>?_) (by rw [hse]; rfl) (by rw [hse]; rfl)
 match vs,r1,q1 with
 | [x],r1,q =>
  obtain ⟨u,rfl,ru⟩:=zDm r1
  refine kws_cons (thn (hd pins s1 σ H1 _ I1 q) fun dv s2 ⟨d,H2,I2,r2,q2⟩=>kws_nil ?_)
  obtain ⟨a,ns,rfl,hq,q3⟩:=q2
  cases ru
  show wpAny _ _ (call (.builtin "min") [.ref a] [(Str.ofString "default",dv)]) _ _ _
  refine y7w hc I2 hq fun h' tk v kk p1 p2=>?_
  by_cases hn:0 < ns.length
  ·obtain ⟨m,t,rfl,hm⟩:=p1 hn
   exact ⟨.int m,H2,I2.kept kk,⟨t,rfl⟩,q3 _ (.inr ⟨m,rfl,hm⟩)⟩
  ·have e0:ns.length = 0:=by omega
   rw [p2 e0]
   exact ⟨d,H2,I2.kept kk,r2,q3 _ (.inl ⟨List.length_eq_zero_iff.mp e0,rfl⟩)⟩
end
end L2
namespace L2
open PySem PySem.Spec PyProof.Rows
theorem z7k {X:Cx} {scope:Scope} {N:List Str} {C:Addr} {s:Shared} {H:Hp} {ex:List Addr} {es:List Expr} {k:Nat} {t:TGs} {pos:Pos} (n:Nat) (hc:X.calm = true) (h:PGs (cxC X scope N C s H ex) es t)
  (hn:(assignEach es (cxC X scope N C s H ex).env).length = n) (hst:(assignEach es (cxC X scope N C s H ex).env).findIdx? (·.1) = none):PG (cxC X scope N C s H ex) (.Tuple es k pos) (gTup X.K n t):=y3e hc h hn hst
end L2
namespace L2
open PySem PySem.Spec PyProof.Rows
section
variable {κ:Type} [DecidableEq κ]
def valV (kvs:List (κ × V)) (k:κ):Option V:=(kvs.find? fun kv=>decide (kv.1 = k)).map (·.2)
def putK (kvs:List (κ × V)) (k:κ) (v:V):List (κ × V) :=
 if (kvs.any fun kv=>decide (kv.1 = k)) = true then kvs.map (fun kv=>if kv.1 = k then (kv.1,v) else kv) else kvs ++ [(k,v)]
theorem y3s {p:κ × V} {r:List (κ × V)} {k:κ} (e:p.1 = k):valV (p :: r) k = some p.2:=by simp [valV,List.find?_cons,e]
theorem y3r {p:κ × V} {r:List (κ × V)} {k:κ} (e:¬ p.1 = k):valV (p :: r) k = valV r k:=by simp [valV,List.find?_cons,e]
theorem z7x (k:κ):∀ kvs:List (κ × V),(kvs.any fun kv=>decide (kv.1 = k)) = (valV kvs k).isSome
 | []=>rfl
 | p :: r=>by
  rw [List.any_cons]
  by_cases e:p.1 = k
  ·simp only [y3s e,decide_eq_true e,Bool.true_or,Option.isSome_some]
  ·rw [y3r e,decide_eq_false e,Bool.false_or]; exact z7x k r
theorem zCh (kvs:List (κ × V)) (k:κ) (v:V):(putK kvs k v).length <= kvs.length + 1:=by
 unfold putK
 split
 ·rw [List.length_map]; omega
 ·rw [List.length_append,List.length_cons,List.length_nil]; omega
theorem yCo {kvs:List (κ × V)} {k:κ} (v:V) (h:valV kvs k = none):putK kvs k v = kvs ++ [(k,v)]:=by
 unfold putK
 rw [z7x,h]
 exact if_neg (by decide)
theorem RelO.isSome_eq {o:Option V} {u:Option Value} (r:RelO o u):o.isSome = u.isSome:=by
 cases o with
 | none=>cases u with
  | none=>rfl
  | some _=>exact (show False from r).elim
 | some _=>cases u with
  | none=>exact (show False from r).elim
  | some _=>rfl
theorem KV.any {kvs:List (κ × V)} {vs:List (κ × Value)} (r:KV kvs vs) (k:κ):(kvs.any fun kv=>decide (kv.1 = k)) = vs.any fun kv=>decide (kv.1 = k):=by
 unfold KV at r
 induction r with
 | nil=>rfl
 | cons h t ih=>rw [List.any_cons,List.any_cons,ih,h.1]
theorem KV.repl {kvs:List (κ × V)} {vs:List (κ × Value)} (r:KV kvs vs) (k:κ) {y:V} {u:Value} (ry:RelV y u) :
  KV (kvs.map fun kv=>if kv.1 = k then (kv.1,y) else kv) (vs.map fun kv=>if kv.1 = k then (kv.1,u) else kv):=by
 unfold KV at r ⊢
 induction r with
 | nil=>exact .nil
 | @cons p q ps qs h t ih =>
  rw [List.map_cons,List.map_cons]
  refine .cons ?_ ih
  obtain ⟨h1,h2⟩:=h
  by_cases e:p.1 = k
  ·rw [if_pos e,if_pos (h1.symm.trans e)]; exact ⟨h1,ry⟩
  ·rw [if_neg e,if_neg (fun z=>e (h1.trans z))]; exact ⟨h1,h2⟩
theorem KV.put {kvs:List (κ × V)} {vs:List (κ × Value)} (r:KV kvs vs) (k:κ) {y:V} {u:Value} (ry:RelV y u):KV (putK kvs k y) (stored vs k u):=by
 unfold putK stored
 rw [r.any k]
 by_cases e:(vs.any fun kv=>decide (kv.1 = k)) = true
 ·rw [if_pos e,if_pos e]; exact r.repl k ry
 ·rw [if_neg e,if_neg e]; exact Paired.snoc r ⟨rfl,ry⟩
theorem KV.length {kvs:List (κ × V)} {vs:List (κ × Value)} (r:KV kvs vs):kvs.length = vs.length:=Paired.length r
end
theorem yGy {P:Program} {w:World} {k:Key} {u:Value} (r:RelV (kV k) u):(z4l P w).is k u = true:=by
 cases k with
 | inl i=>obtain ⟨t,e⟩:=(show ∃ t,u = Value.int i t from r); subst e; exact y1b P w i t
 | inr x=>obtain ⟨t,e⟩:=(show ∃ t,u = Value.str x t from r); subst e; exact y1c P w x t
theorem zIe {P:Program} {w:World}:∀ {ks:List Key} {us:List Value},Vals (ks.map kV) us -> ItemsAre (z4l P w) ks us
 | [],_,r=>by rw [List.map_nil] at r; cases r; exact .nil
 | k :: ks,_,r=>by
  rw [List.map_cons] at r
  cases r with
  | cons h t=>exact .cons (yGy h) (zIe t)
abbrev KT (H:Hp):List (List Key × V) -> List (List Key × Addr × Value) -> Prop:=Paired fun p q=>p.1 = q.1 /\ H q.2.1 = some (.tup (p.1.map kV)) /\ RelV p.2 q.2.2
theorem KT.val {H:Hp} {kvs:List (List Key × V)} {xs:List (List Key × Addr × Value)} (r:KT H kvs xs) (k:List Key):RelO (valV kvs k) ((atKey xs k).map (·.2)):=by
 induction r with
 | nil=>exact True.intro
 | @cons p q ps qs h t ih =>
  obtain ⟨h1,_,h2⟩:=h
  by_cases e:p.1 = k
  ·have e':q.1 = k:=h1.symm.trans e
   have b:atKey (q :: qs) k = some q.2:=by simp [atKey,List.find?_cons,e']
   rw [y3s e,b]; exact h2
  ·have e':¬ q.1 = k:=fun z=>e (h1.trans z)
   have b:atKey (q :: qs) k = atKey qs k:=by simp [atKey,List.find?_cons,e']
   rw [y3r e,b]; exact ih
theorem KT.repl {H:Hp} {kvs:List (List Key × V)} {xs:List (List Key × Addr × Value)} (r:KT H kvs xs) (k:List Key) {y:V} {u:Value} (ry:RelV y u) :
  KT H (kvs.map fun kv=>if kv.1 = k then (kv.1,y) else kv) (xs.map (putAt k u)):=by
 induction r with
 | nil=>exact .nil
 | @cons p q ps qs h t ih =>
  rw [List.map_cons,List.map_cons]
  refine .cons ?_ ih
  obtain ⟨h1,h2,h3⟩:=h
  unfold putAt
  by_cases e:p.1 = k
  ·rw [if_pos e,if_pos (h1.symm.trans e)]; exact ⟨h1,h2,ry⟩
  ·rw [if_neg e,if_neg (fun z=>e (h1.trans z))]; exact ⟨h1,h2,h3⟩
theorem KT.put {H:Hp} {kvs:List (List Key × V)} {xs:List (List Key × Addr × Value)} (r:KT H kvs xs) (k:List Key) {b:Addr} {y:V} {u:Value} (hb:H b = some (.tup (k.map kV))) (ry:RelV y u) :
  KT H (putK kvs k y) (storedH xs k b u):=by
 have e:(kvs.any fun kv=>decide (kv.1 = k)) = (atKey xs k).isSome:=by
  rw [z7x,(r.val k).isSome_eq,Option.isSome_map]
 unfold putK storedH
 rw [e]
 by_cases q:(atKey xs k).isSome = true
 ·rw [if_pos q,if_pos q]; exact r.repl k ry
 ·rw [if_neg q,if_neg q]; exact Paired.snoc r ⟨rfl,hb,ry⟩
theorem KT.keeps {H H':Hp} {kvs:List (List Key × V)} {xs:List (List Key × Addr × Value)} (r:KT H kvs xs) (ht:∀ b ys,H b = some (.tup ys) -> H' b = some (.tup ys)):KT H' kvs xs :=
 Paired.mapP r fun _ _ z=>⟨z.1,ht _ _ z.2.1,z.2.2⟩
section
variable {P:Program} {w:World} {H:Hp} {h:Heap} {a:Addr}
theorem yIh {u:HO} (ok:HOk P w H h) (e:Rd H a u):z2n P w H h a u:=e.ok ok
theorem yJd {kvs:List (Key × V)} (ok:HOk P w H h) (e:Rd H a (.dK kvs)):kvs.length <= sizeLine /\ (a == sysModules) = false /\ ∃ vs,KV kvs vs /\ h.DictOf (z4l P w) a vs :=
 show z2n P w H h a (.dK kvs) from yIh ok e
theorem yGs {kvs:List (Key × V)} (ok:HOk P w H h) (e:H a = some (.dK kvs)):kvs.length <= sizeLine /\ (a == sysModules) = false /\ ∃ vs,KV kvs vs /\ h.DictOf (z4l P w) a vs:=yJd ok (.inl e)
theorem yDo {ks:List Key} (ok:HOk P w H h) (e:H a = some (.tup (ks.map kV))):(tupleKind (z4l P w)).is h ks a:=by
 obtain ⟨_,its,r,⟨o,h1,h2,n,h3⟩,_⟩:=(show z2n P w H h a (.tup (ks.map kV)) from ok a _ e)
 exact ⟨o,its.toArray,n,h1,h2,h3,by simpa using zIe r⟩
theorem yJf {kvs:List (List Key × V)} (ok:HOk P w H h) (e:Rd H a (.dT kvs)):kvs.length <= sizeLine /\ (a == sysModules) = false /\
  ∃ xs,KT H kvs xs /\ h.DictOfH (tupleKind (z4l P w)) a xs:=by
 obtain ⟨z,y,xs,r,o,es,ep,h1,h2,h3,h4,h5⟩:=(show z2n P w H h a (.dT kvs) from yIh ok e)
 refine ⟨z,y,xs,r,o,es,ep,h1,h2,h3,h4,fun x hx=>?_,h5⟩
 have all:∀ {l:List (List Key × V)} {m:List (List Key × Addr × Value)},KT H l m -> ∀ x ∈ m,(tupleKind (z4l P w)).is h x.1 x.2.1:=by
  intro l m q
  induction q with
  | nil=>intro x hx; exact nomatch hx
  | @cons p q ps qs hq t ih =>
   intro x hx
   rcases List.mem_cons.mp hx with e | hx
   ·subst e
    exact yDo ok (by rw [<- hq.1]; exact hq.2.1)
   ·exact ih x hx
 exact all r x hx
theorem yJe {kvs:List (List Key × V)} (ok:HOk P w H h) (e:H a = some (.dT kvs)):kvs.length <= sizeLine /\ (a == sysModules) = false /\
  ∃ xs,KT H kvs xs /\ h.DictOfH (tupleKind (z4l P w)) a xs:=yJf ok (.inl e)
end
def DPut (H:Hp) (a:Addr) (y v:V) (H':Hp):Prop :=
 (∃ kvs k,H a = some (.dK kvs) /\ y = kV k /\ kvs.length < sizeLine /\ H' = upd H a (.dK (putK kvs k v))) \/
 ∃ kvs k b,H a = some (.dT kvs) /\ y = .ref b /\ H b = some (.tup (k.map kV)) /\ kvs.length < sizeLine /\ H' = upd H a (.dT (putK kvs k v))
theorem DPut.k {H:Hp} {a:Addr} {kvs:List (Key × V)} {k:Key} {v:V} (e:H a = some (.dK kvs)) (hl:kvs.length < sizeLine):DPut H a (kV k) v (upd H a (.dK (putK kvs k v))):=.inl ⟨kvs,k,e,rfl,hl,rfl⟩
section
variable {X:Cx} {pins:List (Addr × Obj)} {σ:St} {H:Hp} {s:Shared} {a:Addr} {y v:V} {u r:Value} {o:Option V} {A:Around} {E:Value -> Shared -> Prop}
theorem Inv.big (I:Inv X pins σ H s):sysModules < s.heap.objs.size:=by
 have h:mainGlobals < s.heap.objs.size:=(I.mod.glob.keeps I.bk).lt
 exact Nat.lt_trans (by decide) h
theorem y6u {h':Heap} {t':Nat} {ob:HO} (I:Inv X pins σ H s) (mu:Mut (H a)) (hs:Heap.SameBut a s.heap h') (he:∃ q,h'.get? a = some q) (new:z2n X.prog X.w (upd H a ob) h' a ob) :
  Inv X pins σ (upd H a ob) { s with heap:=h',toks:=t' } :=
 I.write (x:=a) (e:=a) mu (.inl rfl) (fun b q hb z=>(hs.2 b hb).trans z) he new
theorem yGr {P:Program} {w:World} {H':Hp} {h':Heap} {kvs:List (Key × V)} {vs:List (Key × Value)} (z:kvs.length <= sizeLine) (hd:(a == sysModules) = false) (rel:KV kvs vs) (dd:h'.DictOf (z4l P w) a vs) :
  z2n P w H' h' a (.dK kvs):=⟨z,hd,vs,rel,dd⟩
theorem y6t {H':Hp} {Q:Unit -> Shared -> Prop} (hu:A.units + 1 < cLine) (I:Inv X pins σ H s) (g:DPut H a y v H') (ry:RelV y u) (rv:RelV v r) (h:∀ s',Inv X pins σ H' s' -> Q () s') :
  wpAny (model X.prog X.w) A (setItem (.ref a) u r) Q E s:=by
 rcases g with ⟨kvs,k,e,ey,l,eH⟩ | ⟨kvs,k,b,e,ey,eb,l,eH⟩
 ·subst ey eH
  obtain ⟨z,hd,vs,rel,dd⟩:=yGs I.hok e
  have hz:vs.length <= sizeLine:=by rw [<- rel.length]; exact z
  have hl:(putK kvs k v).length <= sizeLine:=by have:=zCh kvs k v; omega
  refine wpAny_setItem_pairs (hsz:=hz) (yGy ry) dd fun h' dd' hs=>h _ ?_
  have he:∃ q,h'.get? a = some q:=let ⟨q,_,_,hq,_⟩:=dd'; ⟨q,hq⟩
  exact y6u I (by rw [e]; exact True.intro) hs he (yGr hl hd (rel.put k rv) dd')
 ·subst ey eH
  cases (show u = Value.ref b from ry)
  obtain ⟨z,hd,xs,rel,dd⟩:=yJe I.hok e
  have hz:xs.length <= sizeLine:=by rw [<- Paired.length rel]; exact z
  have hl:(putK kvs k v).length <= sizeLine:=by have:=zCh kvs k v; omega
  refine wpAny_setItem_heap (hsz:=hz) (tupleKind_room_in1 hu) (yDo I.hok eb) dd fun h' dd' hs=>h _ ?_
  obtain ⟨q,es,ep,hq,h2,h3,h4,_,h5⟩:=dd'
  refine y6u I (by rw [e]; exact True.intro) hs ⟨q,hq⟩ ⟨hl,hd,_,(rel.put k eb rv).keeps fun c ys ec=>?_,q,es,ep,hq,h2,h3,h4,h5⟩
  rw [z0n (yHf ec e (fun z=>nomatch z))]
  exact ec
end
section
variable {X:Cx} {pins:List (Addr × Obj)} {σ:St} {H:Hp} {s:Shared} {a:Addr} {kvs:List (Key × V)} {k:Key} {u:Value} {A:Around} {E:Value -> Shared -> Prop}
end
def k0e (td ty tv:TE):TS:=fun D σ H=>tv σ H fun v H1=>td σ H1 fun x H2=>ty σ H2 fun y H3=>∃ a H4,x = .ref a /\ DPut H3 a y v H4 /\ D.nx σ H4
section
variable {X:Cx} {o i e value:Expr} {pos pos' tpos:Pos} {td ty tv:TE}
theorem yFr (hu:X.A.units + 1 < cLine) (ho:PE X o td) (hi:PE X i ty) (hv:PE X value tv) (hs:swapsWith value (some (.Subscript o i pos')) pos.line X.env = pure false) :
  PS X (.Assign [.Subscript o i pos'] value pos) (k0e td ty tv):=by
 intro pins s σ H D I h
 refine wpAny_Assign_Subscript (thn (hv pins s σ H _ I h) fun r s1 ⟨v,H1,I1,rv,q1⟩=>thn (ho pins s1 σ H1 _ I1 q1) fun u s2 ⟨x,H2,I2,rx,q2⟩=>thn (hi pins s2 σ H2 _ I2 q2) fun iv s3 ⟨y,H3,I3,ry,a,H4,ex,g,q3⟩=>?_) hs
 subst ex
 obtain rfl:u = Value.ref a:=rx
 exact y6t hu I3 g ry rv fun s4 I4=>⟨σ,H4,I4,q3⟩
end
theorem yBh {P:Program} {w:World} {H:Hp} (h:Heap) (hb:sysModules < h.objs.size):z2n P w H (h.push { cls:=.type "dict",data:=.dict #[] }) h.objs.size (.dK []) :=
 ⟨Nat.zero_le _,beq_eq_false_iff_ne.mpr (Ne.symm (Nat.ne_of_lt hb)),[],.nil,Heap.DictOf.new h⟩
def yIr:TE:=fun _ H Q=>∀ p,H p = none -> Q (.ref p) (upd H p (.dK []))
section
variable {X:Cx} {pos:Pos}
theorem yCh:PE X (.Dict [] [] pos) yIr:=fun pins s σ H Q I h =>
 wpAny_Dict_empty ⟨.ref s.heap.objs.size,_,I.laid (a:=s.heap.objs.size) (o:=.dK []) (t':=s.toks) (fun _ _ q=>Heap.get?_push_of_some _ q) (Nat.le_refl _) (yBh s.heap I.big),rfl,h _ (I.hok.fresh (Nat.le_refl _))⟩
end
structure M2 (X:Cx) (o:Expr) (m:Str) (apos:Pos) (e f:Expr) (cpos:Pos):Prop where
 base:attributeBase o m X.env (eval o X.env) = eval o X.env
 few:((backTo cpos (starEach [e,f] X.env)).all (fun x=>!x.1) && (backToKw cpos (keywordEach [] X.env)).all (fun x=>x.1.isSome)
  && decide (([e,f]:List Expr).length + ([]:List Keyword).length + (if ([]:List Keyword).isEmpty then 0 else 1) < 30)) = true
 line:(apos.endLine == cpos.line) = true
 trees:backTo cpos (starEach [e,f] X.env) = [(false,eval e X.env),(false,eval f X.env)]
section
variable {X:Cx} {pins:List (Addr × Obj)} {σ:St} {H:Hp} {s:Shared} {a:Addr} {y d:V} {u r:Value} {o:Option V} {A:Around} {E:Value -> Shared -> Prop}
end
section
variable {X:Cx} {o e f:Expr} {apos cpos:Pos} {td ty tx:TE}
end
section
variable {X:Cx} {pins:List (Addr × Obj)} {σ:St} {H:Hp} {s:Shared} {a:Addr} {kvs:List (Key × V)} {A:Around} {E:Value -> Shared -> Prop}
end
section
variable {X:Cx} {pins:List (Addr × Obj)} {σ:St} {H:Hp} {s:Shared} {a:Addr} {y:V} {u:Value} {A:Around} {E:Value -> Shared -> Prop}
end
end L2
namespace L2
open PySem PySem.Spec PyProof.Rows
section
variable {κ:Type} [DecidableEq κ]
theorem yDh {kvs:List (κ × V)} {k:κ} (h:valV kvs k = none):¬ k ∈ kvs.map (·.1):=by
 intro m
 obtain ⟨p,hp,e⟩:=List.mem_map.mp m
 have q:(kvs.any fun kv=>decide (kv.1 = k)) = true:=List.any_eq_true.mpr ⟨p,hp,decide_eq_true e⟩
 rw [z7x,h] at q
 exact absurd q (by simp)
theorem yGk {kvs:List (κ × V)} {k:κ} {v:V} (h:valV kvs k = some v):k ∈ kvs.map (·.1):=by
 have q:(kvs.any fun kv=>decide (kv.1 = k)) = true:=by
  rw [z7x,h]
  all_goals rfl
 obtain ⟨p,hp,e⟩:=List.any_eq_true.mp q
 exact List.mem_map.mpr ⟨p,hp,of_decide_eq_true e⟩
end
end L2
namespace L2
open PySem PySem.Spec PyProof.Rows
theorem zCy {α β:Type} {R:α -> β -> Prop}:∀ {xs:List α} {ys:List β},xs.length = ys.length -> (∀ (j:Nat) x y,xs[j]? = some x -> ys[j]? = some y -> R x y) -> Paired R xs ys
 | [],[],_,_=>.nil
 | x :: xs,y :: ys,hl,h=>.cons (h 0 x y rfl rfl) (zCy (by simpa using hl) fun j a b e1 e2=>h (j + 1) a b (by simpa using e1) (by simpa using e2))
theorem yFb {kvs:List (Key × V)} {vs:List (Key × Value)} (r:KV kvs vs):vs.map (·.1) = kvs.map (·.1):=by
 unfold KV at r
 induction r with
 | nil=>rfl
 | cons h _ ih=>rw [List.map_cons,List.map_cons,ih,h.1]
section
variable {prog:Program} {w:World} {A:Around} {E:Value -> Shared -> Prop} {s:Shared}
theorem zAs {x:Value} {ns:List Int} {b:Bool} {Q:Value -> Shared -> Prop} (h64:ns.length < 64)
  (hc:∀ (R:List Value -> Shared -> Prop),(∀ h' tk (vs:List Value),(∀ b o,s.heap.get? b = some o -> h'.get? b = some o) -> IntsAre vs ns -> R vs { s with heap:=h',toks:=tk }) -> wpAny (model prog w) A.in1 (collect x) R E s)
  (h:∀ (out:List Value) (n:Nat) (h1 h':Heap) (tk:Nat) (ns':List Int),(∀ b o,s.heap.get? b = some o -> h1.get? b = some o) -> (∀ b o,h1.get? b = some o -> h'.get? b = some o) -> h'.get? h1.objs.size = some (seqObj "list" out.toArray n) -> IntsAre out ns' -> ns'.Perm ns -> Ordered b ns' -> Q (.ref h1.objs.size) { s with heap:=h',toks:=tk }) :
  wpAny (model prog w) A (call (.builtin "sorted") [x] [(Str.ofString "reverse",.bool b)]) Q E s:=by
 refine call_function_entry_kw kind_sorted plain_sorted entry_sorted (args_sorted_rev _ _) ?_
 unfold Builtin.«sorted»
 refine wpAny_bind (m:=checkCount "sorted" 1 1 _) (wpAny_pure ?_)
 refine wpAny_bind (hc _ fun h1 tk vs hk1 hI=>?_)
 have hlv:vs.length < 64:=by rw [<- hI.length] at h64; exact h64
 refine wpAny_bind (wpAny_newList ?_ (Nat.le_trans (Nat.le_of_lt hlv) (by decide)))
 have hoL:(h1.push (seqObj "list" vs.toArray 0)).get? h1.objs.size = some (seqObj "list" vs.toArray 0):=Heap.get?_push_size _ rfl
 refine wpAny_bind (wpAny_holding (wpAny_call_entry_kw slot_list_sort ⟨_,hoL,rfl⟩ entry_list_sort (list_sort_tree_rev hoL hI hlv fun out ns' a1 a2 a3=>⟨_,rfl,?_⟩) (args_list_sort_rev _ _)))
 obtain ⟨e,he⟩:=sortedHeap_at (vs:=vs) (out:=out) hoL
 refine wpAny_pure ⟨_,rfl,h out.toList e h1 _ tk ns' hk1 (fun b o hb=>?_) he a1 a2 a3⟩
 have hlt:=Heap.lt_size hb
 rw [sortedHeap_old (Nat.ne_of_lt hlt) (by rw [Heap.size_push]; exact Nat.lt_succ_of_lt hlt)]
 exact Heap.get?_push_of_some _ hb
end
section
variable {X:Cx}
def yDx (b:Bool):V -> Hp -> VK -> Prop:=fun x H Q=>∃ a kvs ns,x = .ref a /\ H a = some (.dK kvs) /\ kvs.map (·.1) = (ns:List Int).map Sum.inl /\ ns.length < 64 /\ ∀ ns' p,ns.Nodup -> ns'.Perm ns -> Ordered b ns' -> H p = none -> Q (.ref p) (upd H p (.lst (ns'.map V.int)))
def yIt (b:Bool) (te:TE):TE:=fun σ H Q=>te σ H fun x H1=>yDx b x H1 Q
theorem yCj {e:Expr} {te:TE} {b:Bool} {p kp cp pos:Pos} {j:Nat} (hcm:X.calm = true) (hg:Gl X "sorted") (hm:X.mg "sorted" = none) (he:PE X e te)
  (hse:starEach [e] X.env = [(false,eval e X.env)]:=by rfl):PE X (.Call (.Name "sorted" p) [e] [⟨some "reverse",.Constant (.bool b) j cp,kp⟩] pos) (yIt b te):=by
 intro pins s σ H Q I h
 refine wpAny_Call_Name_kw (z6n I hg hm boot_sorted ?_ (by decide) (by decide))
 refine callWith_kw (thn (z0a he z0d hse pos pins s σ H (fun vs H1=>match vs with | [x]=>yDx b x H1 Q | _=>False) I h) fun us s1 ⟨vs,H1,I1,r1,q1⟩=>?_) (by rw [hse]; rfl) (by rw [hse]; rfl)
 match vs,r1,q1 with
 | [x],r1,q =>
  obtain ⟨u,rfl,ru⟩:=zDm r1
  refine kws_cons (Constant_bool (kws_nil ?_))
  obtain ⟨a,kvs,ns,rfl,hq,hks,hl,q⟩:=q
  cases ru
  show wpAny _ _ (call (.builtin "sorted") [.ref a] [(Str.ofString "reverse",.bool b)]) _ _ _
  have hh:X.A.in1.handled = none:=I1.ok.hd hcm
  obtain ⟨hz,lo,ws,rel,o,es,ep,ho,hex,hd,hko,hpr,hnd⟩:=yGs I1.hok hq
  have hkeys:ws.map (·.1) = ns.map Sum.inl:=by rw [yFb rel,hks]
  have hlen:ws.length = ns.length:=by
   have:=congrArg List.length hkeys
   simpa using this
  have hdup:ns.Nodup:=by
   rw [hkeys] at hnd
   exact (List.Pairwise.of_map (S:=fun a b=>a ≠ b) Sum.inl (fun a b h z=>h (by rw [z])) hnd)
  refine zAs hl (fun R hR=>PySem.W.kdu_collect (A:=X.A.in1) (PySem.W.kdl_dict (knd:=z4l X.prog X.w) (kvs:=ws) (ep:=ep) lo) hh ⟨o,es,ho,hex,hd,hko,hpr,hnd⟩ (by rw [hlen]; exact z5h hl) fun h' tk acc hk hacc=>hR h' tk acc.toList hk ?_) fun out n h1 h' tk ns' k1 k2 e a1 a2 a3=>?_
  ·have hla:acc.toList.length = ns.length:=by rw [Array.length_toList,hacc.1,hlen]
   refine z9q (zCy (by rw [List.length_map,hla]) fun j x y e1 e2=>?_)
   obtain ⟨z,hz,rfl⟩:=z5q e1
   obtain ⟨kk,xx,hkk,his⟩:=hacc.2 j y (by rw [<- Array.getElem?_toList]; exact e2)
   have e3:(ws.map (·.1))[j]? = some kk:=by rw [List.getElem?_map,hkk]; rfl
   rw [hkeys,List.getElem?_map,hz] at e3
   have e4:Sum.inl z = kk:=Option.some.inj e3
   subst e4
   rcases z2o (show y0t (Sum.inl z) y = true from his) with ⟨i,t,e5,e6⟩ | ⟨i,t,e5,e6⟩
   ·cases e5
    exact ⟨t,e6⟩
   ·cases e5
  ·have hz':(ns'.map V.int).length <= sizeLine:=by rw [List.length_map,a2.length_eq]; exact z5h hl
   have I2:Inv X pins σ H1 { s1 with heap:=h1 }:=I1.kept (t':=s1.toks) k1
   exact ⟨.ref _,_,I2.laid (t':=tk) k2 (Nat.le_refl _) (show z2n X.prog X.w _ _ _ (.lst (ns'.map V.int)) from ⟨hz',out,n,z7p a1,by simpa [seqObj] using e⟩),rfl,q ns' _ hdup a2 a3 (I2.hok.fresh (Nat.le_refl _))⟩
end
end L2
namespace L2
open PySem PySem.Spec PyProof.Rows
section
variable {X:Cx}
def y5f (K:PySem.W.Frag):R2:=fun x y H Q=>∃ a b xs ys,x = .ref a /\ y = .ref b /\ SqT K H a xs /\ SqT K H b ys /\ xs.length + ys.length <= sizeLine /\
 (xs = [] -> Q (.ref b) H) /\ (xs ≠ [] -> ys = [] -> Q (.ref a) H) /\ (xs ≠ [] -> ys ≠ [] -> ∀ p,H p = none -> Q (.ref p) (upd H p (.tup (xs ++ ys))))
theorem y1i:OpR X (binaryOp .Add) (y5f X.K):=by
 intro pins s σ H x y v u Q I rx ry h
 obtain ⟨a,b,xs,ys,rfl,rfl,ha,hb,hz,q0,q1,q2⟩:=h
 by_cases hx:xs = []
 ·cases rx
  cases ry
  obtain ⟨its,r1,p1,_⟩:=I.tuple ha
  obtain ⟨its2,r2,p2,_⟩:=I.tuple hb
  obtain ⟨⟨cls,dd,data,sl⟩,ho,hc,n,hd⟩:=id p1
  obtain ⟨⟨cls2,dd2,data2,sl2⟩,ho2,hc2,n2,hd2⟩:=id p2
  simp only at hc hd hc2 hd2
  subst hc hd hc2 hd2
  have e0:its.toArray.isEmpty = true:=by
   have:=r1.nil_iff.mpr hx
   simp [this]
  exact concat_meets ⟨_,ho,rfl⟩ ⟨_,ho2,rfl⟩ noFill_tuple_add seq_tuple_add PySem.F.slot_tuple_add PySem.F.entry_tuple_add (PySem.F.args_tuple_add_2 _ _)
   (tuple_addW0 a b its.toArray its2.toArray n n2 dd dd2 sl sl2 e0) ⟨ho,ho2,⟨.ref b,H,I,rfl,q0 hx⟩⟩
 ·exact yFj pins s σ H (.ref a) (.ref b) v u Q I rx ry ⟨a,b,xs,ys,rfl,rfl,ha,hb,hx,hz,q1 hx,q2 hx⟩
def k0o (ta:TA):TE:=fun σ H Q=>ta σ H fun vs H1=>∃ j:Int,vs = [.int j] /\ ∀ p,H1 p = none -> Q (.ref p) (upd H1 p (.rng 0 j))
theorem yFn {a:Expr} {ta:TA} {p pos:Pos} (hg:Gl X "range") (hm:X.mg "range" = none) (ha:PA X [a] ta) (hs:starEach [a] X.env = [(false,eval a X.env)]:=by rfl):PE X (.Call (.Name "range" p) [a] [] pos) (k0o ta):=by
 intro pins s σ H Q I h
 refine Call_ (z6n I hg hm boot_range (PyProof.Rows.callWith_type1 (thn (ha pos pins s σ H _ I h) fun us s1 ⟨vs,H1,I1,r1,q1⟩=>?_) hs rfl))
 obtain ⟨j,e,q⟩:=q1
 subst e
 cases r1 with
 | cons r rr =>
  cases rr
  obtain ⟨t,rfl⟩:=r
  refine call_range_1 ?_
  exact ⟨.ref _,_,I1.laid (o:=.rng 0 j) (fun b o e=>Heap.get?_push_of_some _ e) (Nat.le_refl _) ⟨_,_,_,Heap.get?_push_size _ rfl⟩,rfl,q _ (I1.hok.fresh (Nat.le_refl _))⟩
theorem zFk (hc:X.calm = true):z6e X (.type "list") (fun xs H Q=>∃ (p:Addr) (hi:Int),xs = [.ref p] /\ H p = some (.rng 0 hi) /\ 0 <= hi /\ hi <= 100000 /\ ∀ l,H l = none -> Q (.ref l) (upd H l (.lst (((List.range hi.toNat).map fun (k:Nat)=>(k:Int)).map V.int)))):=by
 intro pins s σ H xs us Q I r h
 obtain ⟨p,hi,rfl,hq,h0,h1,q⟩:=h
 obtain ⟨u,rfl,ru⟩:=zDm r
 cases ru
 obtain ⟨t1,t2,t3,e⟩:=I.hok p _ hq
 have hn:Builtin.Range.rangeSize 0 hi 1 = ((hi.toNat:Nat):Int):=by rw [rangeSize_one]; split <;> omega
 refine call_list_range (I.ok.hd hc) e (small_one (by decide) (by decide) (by omega) (by omega)) hn (by omega) fun h' tk acc c kk hS hacc=>?_
 refine ⟨.ref _,_,I.laid (t':=tk) (o:=.lst (((List.range hi.toNat).map fun (k:Nat)=>(k:Int)).map V.int)) kk (Nat.le_refl _) ⟨?_,acc.toList,c,zCy ?_ (fun j x y e1 e2=>?_),by simpa using hS⟩,rfl,q _ (I.hok.fresh (Nat.le_refl _))⟩
 ·rw [List.length_map,List.length_map,List.length_range]
  have:(100000:Nat) <= sizeLine:=by decide
  omega
 ·rw [List.length_map,List.length_map,List.length_range,Array.length_toList,hacc.1]
 ·obtain ⟨z,hz,rfl⟩:=z5q e1
  obtain ⟨tk,rfl⟩:=hacc.2 j y (by rw [<- Array.getElem?_toList]; exact e2)
  rw [List.getElem?_map] at hz
  cases hr:(List.range hi.toNat)[j]? with
  | none=>rw [hr] at hz; cases hz
  | some k =>
   rw [hr] at hz
   have ek:j = k:=by
    obtain ⟨h1,h2⟩:=List.getElem?_eq_some_iff.mp hr
    rw [List.getElem_range] at h2
    exact h2
   have:(k:Int) = z:=Option.some.inj hz
   refine ⟨tk,?_⟩
   rw [<- this,<- ek]
   simp
end
end L2
namespace L2
def cntG (ns:List Int) (k:Int):Nat:=(ns.filter fun x=>decide (k <= x)).length
def turn (ns:List Int):List Int:=(List.range (ns.headD 0).toNat).map fun (k:Nat)=>((cntG ns ((k:Int) + 1):Nat):Int)
end L2
namespace L2
open PySem PySem.Spec PyProof.Rows
def Tups (H H':Hp):Prop:=∀ b xs,H b = some (.tup xs) -> H' b = some (.tup xs)
theorem Tups.trans {H H1 H2:Hp} (a:Tups H H1) (b:Tups H1 H2):Tups H H2:=fun c xs h=>b c xs (a c xs h)
theorem Same.tups {H H':Hp} (h:Same H H'):Tups H H':=fun b xs e=>h b _ e
theorem Keep.tups {H H':Hp} {st ga ca:Addr} {N:Nat} (K:Keep [st,ga] H H') (S:StAt H st ga ca N):Tups H H':=fun b xs e=>K b _ e (fun z=>by
 obtain ⟨gs,cs,q,n,h1,h2,_⟩:=S.ex
 simp only [List.mem_cons,List.not_mem_nil,or_false] at z
 rcases z with rfl | rfl
 ·rw [h1] at e; cases e
 ·rw [h2] at e; cases e)
theorem Tups.set {H:Hp} {l:Addr} {xs:List V} {o:HO} (h:H l = some (.lst xs)):Tups H (upd H l o):=fun b ys e=>by
 rw [z0n (yHf e h (by intro z; cases z))]; exact e
def Tup1 (hs:List Int) (v:V) (H:Hp):Prop:=∃ q,v = .ref q /\ H q = some (.tup (hs.map V.int))
theorem Tup1.mv {H H':Hp} {hs:List Int} {v:V} (t:Tups H H') (h:Tup1 hs v H):Tup1 hs v H':=let ⟨q,e,h⟩:=h; ⟨q,e,t _ _ h⟩
theorem All2.mv {H H':Hp} {ls:List (List Int)} {xs:List V} (t:Tups H H') (h:All2 Tup1 H ls xs):All2 Tup1 H' ls xs:=h.imp fun _ _ z=>z.mv t
theorem All2.at {α:Type} {R:α -> V -> Hp -> Prop} {H:Hp}:∀ {l:List α} {xs:List V} {i:Nat} {a:α},All2 R H l xs -> l[i]? = some a -> ∃ x,xs[i]? = some x /\ R a x H
 | _,_,_,_,.nil,e=>by simp at e
 | _,_,0,_,.cons r _,e=>by simp at e; subst e; exact ⟨_,rfl,r⟩
 | _,_,i + 1,a,.cons _ t,e=>by
  obtain ⟨u,h1,h2⟩:=All2.at (i:=i) (a:=a) t (by simpa using e)
  exact ⟨u,by simpa using h1,h2⟩
theorem All2.snoc {α:Type} {R:α -> V -> Hp -> Prop} {H:Hp} {l:List α} {xs:List V} {a:α} {x:V} (h:All2 R H l xs) (r:R a x H):All2 R H (l ++ [a]) (xs ++ [x]):=h.append (.cons r .nil)
def maxC:List (List Int) -> Int -> Nat
 | [],_=>0
 | h :: r,x=>max (h.count x) (maxC r x)
def z6z (ls:List (List Int)) (ms:List Int):Prop:=ms.Pairwise (· >= ·) /\ ∀ x,ms.count x = maxC ls x
theorem z6z.uniq {ls:List (List Int)} {a b:List Int} (h1:z6z ls a) (h2:z6z ls b):a = b :=
 z9x h1.1 h2.1 (List.perm_iff_count.mpr fun x=>by rw [h1.2,h2.2])
theorem zCj {ls:List (List Int)} {x:Int} {B:Nat} (h:∀ l ∈ ls,l.count x <= B):maxC ls x <= B:=by
 induction ls with
 | nil=>exact Nat.zero_le _
 | cons a r ih =>
  have h1:=h a (by simp)
  have h2:=ih fun l hl=>h l (by simp [hl])
  rw [maxC]; omega
theorem y0y {ls:List (List Int)} {x:Int} {l:List Int} (h:l ∈ ls):l.count x <= maxC ls x:=by
 induction ls with
 | nil=>cases h
 | cons a r ih =>
  rw [maxC]
  rcases List.mem_cons.mp h with rfl | h
  ·omega
  ·have:=ih h; omega
theorem zIn (ls:List (List Int)) (x:Int):maxC ls x <= ls.flatten.count x:=by
 induction ls with
 | nil=>exact Nat.zero_le _
 | cons a r ih=>rw [maxC,List.flatten_cons,List.count_append]; omega
theorem y7t {ls:List (List Int)} {x:Int} (h:x ∉ ls.flatten):maxC ls x = 0:=by
 have:=zIn ls x
 rw [List.count_eq_zero_of_not_mem h] at this
 omega
theorem zFv {ls:List (List Int)} {x m:Int} (h:yEg m (ls.map fun l=>((l.count x:Nat):Int))):m = ((maxC ls x:Nat):Int):=by
 obtain ⟨h1,h2⟩:=h
 obtain ⟨l,hl,rfl⟩:=List.mem_map.mp h1
 have a:=y0y (x:=x) hl
 have b:maxC ls x <= l.count x:=zCj fun k hk=>by
  have:=h2 _ (List.mem_map.mpr ⟨k,hk,rfl⟩)
  omega
 omega
def blow (f:Int -> Nat):List Int -> List Int
 | []=>[]
 | u :: r=>List.replicate (f u) u ++ blow f r
theorem y0k (f:Int -> Nat) (a b:List Int):blow f (a ++ b) = blow f a ++ blow f b:=by
 induction a with
 | nil=>rfl
 | cons u r ih=>rw [List.cons_append,blow,ih,blow,List.append_assoc]
theorem yAk {f:Int -> Nat} {us:List Int} {x:Int} (h:x ∈ blow f us):x ∈ us:=by
 induction us with
 | nil=>exact h
 | cons u r ih =>
  rcases List.mem_append.mp h with h | h
  ·rw [List.eq_of_mem_replicate h]; simp
  ·simp [ih h]
theorem y3u {f:Int -> Nat} {us:List Int} (hn:us.Nodup) (x:Int):(blow f us).count x = if x ∈ us then f x else 0:=by
 induction us with
 | nil=>rfl
 | cons u r ih =>
  obtain ⟨h1,h2⟩:=List.nodup_cons.mp hn
  rw [blow,List.count_append,ih h2,List.count_replicate]
  by_cases e:u = x
  ·subst e; simp [h1]
  ·have e':¬ x = u:=fun z=>e z.symm
   simp [e,e',List.mem_cons]
theorem yEk {f:Int -> Nat} {us:List Int} (h:us.Pairwise (· >= ·)):(blow f us).Pairwise (· >= ·):=by
 induction us with
 | nil=>exact .nil
 | cons u r ih =>
  obtain ⟨h1,h2⟩:=List.pairwise_cons.mp h
  refine List.pairwise_append.mpr ⟨?_,ih h2,fun a ha b hb=>?_⟩
  ·exact List.pairwise_replicate.mpr (Or.inr (Int.le_refl _))
  ·rw [List.eq_of_mem_replicate ha]
   exact h1 _ (yAk hb)
theorem zHo {ls:List (List Int)} {us:List Int} (hn:us.Nodup) (hp:us.Pairwise (· >= ·)) (hm:∀ x,x ∈ us ↔ x ∈ ls.flatten):z6z ls (blow (maxC ls) us):=by
 refine ⟨yEk hp,fun x=>?_⟩
 rw [y3u hn]
 by_cases h:x ∈ us
 ·rw [if_pos h]
 ·rw [if_neg h,y7t fun z=>h ((hm x).mpr z)]
def chG (ns:List Int):List (List Int):=ns.foldl (fun cs n=>cs ++ cs.map (· ++ [n])) [[]]
theorem z8r (ns:List Int) (n:Int):chG (ns ++ [n]) = chG ns ++ (chG ns).map (· ++ [n]):=by
 unfold chG; rw [List.foldl_append]; rfl
theorem zFo:∀ (k:Nat) (ns:List Int),ns.length = k -> (chG ns).length = 2 ^ k
 | 0,ns,h=>by rw [List.length_eq_zero_iff.mp h]; rfl
 | k + 1,ns,h=>by
  have hne:ns ≠ []:=fun z=>by rw [z] at h; cases h
  have e:=(List.dropLast_concat_getLast hne).symm
  rw [e,z8r,List.length_append,List.length_map,zFo k ns.dropLast (by rw [List.length_dropLast]; omega),Nat.pow_succ]
  omega
theorem zFp:∀ (k:Nat) (ns:List Int),ns.length = k -> ∀ c ∈ chG ns,c.length <= k /\ ∀ x ∈ c,x ∈ ns
 | 0,ns,h,c,hc=>by
  rw [List.length_eq_zero_iff.mp h] at hc
  have:c = []:=by simpa [chG] using hc
  rw [this]
  exact ⟨Nat.le_refl _,fun x hx=>nomatch hx⟩
 | k + 1,ns,h,c,hc=>by
  have hne:ns ≠ []:=fun z=>by rw [z] at h; cases h
  have e:=(List.dropLast_concat_getLast hne).symm
  rw [e,z8r] at hc
  have ih:=zFp k ns.dropLast (by rw [List.length_dropLast]; omega)
  rcases List.mem_append.mp hc with hc | hc
  ·obtain ⟨a,b⟩:=ih c hc
   exact ⟨by omega,fun x hx=>(List.dropLast_sublist ns).subset (b x hx)⟩
  ·obtain ⟨d,hd,rfl⟩:=List.mem_map.mp hc
   obtain ⟨a,b⟩:=ih d hd
   refine ⟨by simp; omega,fun x hx=>?_⟩
   rcases List.mem_append.mp hx with hx | hx
   ·exact (List.dropLast_sublist ns).subset (b x hx)
   ·have:x = ns.getLast hne:=by simpa using hx
    rw [this]; exact List.getLast_mem hne
theorem y8x {κ:Type} [DecidableEq κ] {kvs:List (κ × V)} {k:κ} {v w:V} (h:valV kvs k = some v):(putK kvs k w).map (·.1) = kvs.map (·.1):=by
 unfold putK
 rw [if_pos (by rw [z7x,h]; rfl),List.map_map]
 refine List.map_congr_left fun x _=>?_
 show (if x.1 = k then (x.1,w) else x).1 = x.1
 split <;> rfl
end L2
namespace L2
open PySem PySem.Spec PyProof.Rows
section
variable {X:Cx}
theorem OpR.kk {f:Value -> Value -> Sem Value} (K0:PySem.W.Frag) (r:PySem.W.Frag -> R2) (ho:OpR X f (r X.K)) (h:X.K = K0):OpR X f (r K0):=by subst h; exact ho
theorem IxR.kk (K0:PySem.W.Frag) (r:PySem.W.Frag -> R2) (ho:IxR X (r X.K)) (h:X.K = K0):IxR X (r K0):=by subst h; exact ho
theorem z6e.kk {f:Value} (K0:PySem.W.Frag) (r:PySem.W.Frag -> List V -> Hp -> VK -> Prop) (ho:z6e X f (r X.K)) (h:X.K = K0):z6e X f (r K0):=by subst h; exact ho
theorem MtR.kk {id:String} (K0:PySem.W.Frag) (r:PySem.W.Frag -> V -> List V -> Hp -> VK -> Prop) (ho:MtR X id (r X.K)) (h:X.K = K0):MtR X id (r K0):=by subst h; exact ho
theorem PE.kk {e:Expr} (K0:PySem.W.Frag) (t:PySem.W.Frag -> TE) (ho:PE X e (t X.K)) (h:X.K = K0):PE X e (t K0):=by subst h; exact ho
def yDw (K:PySem.W.Frag):List V -> Hp -> VK -> Prop:=fun xs H Q=>∃ p ys,xs = [.ref p] /\ (SqL K H p ys \/ SqT K H p ys) /\ Q (.int ys.length) H
theorem zFj (K0:PySem.W.Frag) (h:X.K = K0):z6e X (.builtin "len") (yDw K0):=z6e.kk K0 yDw z0x h
theorem zGf (K0:PySem.W.Frag) (h:X.K = K0):OpR X (binaryOp .Add) (y5f K0):=OpR.kk K0 y5f y1i h
theorem y0r (K0:PySem.W.Frag) (h:X.K = K0):IxR X (rIxT K0):=IxR.kk K0 rIxT z2x h
theorem zEs (K0:PySem.W.Frag) (h:X.K = K0):MtR X "tuple.count" (y8z K0 SqT):=MtR.kk K0 (fun K=>y8z K SqT) zIo h
variable {o e:Expr} {es:List Expr} {to:TE} {t:TA} {name:Str} {apos cpos:Pos} {T id:String} {r:V -> List V -> Hp -> VK -> Prop}
theorem yDq (K0:PySem.W.Frag) (h:X.K = K0) (pa:PlainAttrs T) (slot:Slot T name id) (hty:typeOf (.builtin id) = pure (.type "method_descriptor")) (hm:MtR X id r) (ho:PE X o to) (ha:PA X (e :: es) t)
  (hbase:attributeBase o name X.env (eval o X.env) = eval o X.env:=by rfl)
  (hfew:((backTo cpos (starEach (e :: es) X.env)).all (fun x=>!x.1) && (backToKw cpos (keywordEach [] X.env)).all (fun x=>x.1.isSome) && decide ((e :: es).length + ([]:List Keyword).length + (if ([]:List Keyword).isEmpty then 0 else 1) < 30)) = true:=by rfl)
  (hline:(apos.endLine == cpos.line) = true:=by rfl) (hs:starEach (e :: es) X.env = (false,eval e X.env) :: starEach es X.env:=by rfl) (hplain:(backTo cpos (starEach es X.env)).any (·.1) = false:=by rfl):PE X (.Call (.Attribute o name apos) (e :: es) [] cpos) (tBM K0 T r to t):=by
 subst h
 exact z8b pa slot hty hm ho ha hbase hfew hline hs hplain
theorem zJm {a:Expr} {ta:TE} (K0:PySem.W.Frag) (h:X.K = K0) (ha:PE X a ta) (he:∀ whole,isTrue a X.env whole = (do let v <- whole; standAt a.pos; holding [v] (truthy v))):PT X a (fun σ H Q=>ta σ H fun x H'=>∃ k,TruV K0 x H' k /\ Q k H'):=by
 subst h
 exact z2b ha he
def yEa (K:PySem.W.Frag):List V -> Hp -> VK -> Prop:=fun xs H Q=>∃ p ys,xs = [.ref p] /\ ((SqL K H p ys /\ ∀ l,H l = none -> Q (.ref l) (upd H l (.tup ys))) \/ (SqT K H p ys /\ Q (.ref p) H))
theorem zDn (K0:PySem.W.Frag) (h:X.K = K0):z6e X (.type "tuple") (yEa K0):=z6e.kk K0 yEa z4o h
def yId (K:PySem.W.Frag):List V -> Hp -> VK -> Prop:=fun xs H Q=>∃ x T t b,xs = [x,.ty T] /\ TyOf K H x t /\ PySem.W.kitOne K t (.type T) = some b /\ Q (.bl b) H
theorem zBn (K0:PySem.W.Frag) (h:X.K = K0):z6e X (.builtin "isinstance") (yId K0):=z6e.kk K0 yId z3w h
end
end L2
namespace L2
open PySem PySem.Spec PyProof.Rows
def upto (n:Nat):List Int:=(List.range n).map fun (k:Nat)=>(k:Int)
theorem y0c (n:Nat):upto (n + 1) = upto n ++ [(n:Int)]:=by unfold upto; rw [List.range_succ,List.map_append]; rfl
theorem z9k (n:Nat):(upto n).length = n:=by unfold upto; simp
theorem y3q {n:Nat} {x:Int} (h:x ∈ upto n):0 <= x /\ x < n:=by
 unfold upto at h
 obtain ⟨k,hk,rfl⟩:=List.mem_map.mp h
 rw [List.mem_range] at hk
 omega
theorem yEm {K:PySem.W.Frag} {H:Hp} {q:Addr} {hs:List Int} {z:Int} {t:Addr} {Q:V -> Hp -> Prop} (hq:H q = some (.tup (hs.map V.int))) (ht:H t = some (.tup [V.int z])) (hl:hs.length <= 60)
  (k:∀ (v:V) (H':Hp),Tup1 (hs ++ [z]) v H' -> Same H H' -> Q v H'):y5f K (.ref q) (.ref t) H Q:=by
 refine ⟨q,t,_,_,rfl,rfl,SqT.of hq,SqT.of ht,?_,fun e=>?_,fun _ e=>?_,fun _ _ p hp=>?_⟩
 ·rw [List.length_map]
  exact Nat.le_trans (m:=61) (by simp; omega) (by decide)
 ·have:hs = []:=List.map_eq_nil_iff.mp e
  subst this
  exact k _ _ ⟨t,rfl,ht⟩ (fun _ _ h=>h)
 ·cases e
 ·exact k _ _ ⟨p,rfl,by rw [z0c,List.map_append]; rfl⟩ (Same.new hp)
structure GoodH (n:Nat) (h:List Int):Prop where
 ln:h.length <= n
 bd:∀ x ∈ h,1 <= x /\ x <= 10 ^ 60
 pw:h.Pairwise (· >= ·)
structure RB (H0 H:Hp) (st ga ca l:Addr) (N i:Nat) (rule:List (List Int)) (xs:List V):Prop where
 li:H l = some (.lst xs)
 h2:All2 Tup1 H rule xs
 nw:H0 l = none
 ni:l ∉ [st,ga,ca]
 ln:rule.length = i
 gd:∀ h ∈ rule,GoodH (4 + i) h
 sa:StAt H st ga ca N
 kp:Keep [st,ga] H0 H
def z1y (rule:List (List Int)) (ch:List Int):List (List Int):=ch.map fun j=>rule.getD j.toNat []
theorem y8s {H:Hp} {rule:List (List Int)} {rs:List V} (h2:All2 Tup1 H rule rs) {j:Int} (h0:0 <= j) (h1:j < rule.length):∃ v,atI rs j = some v /\ Tup1 (rule.getD j.toNat []) v H:=by
 obtain ⟨n,rfl⟩:∃ n:Nat,j = (n:Int):=⟨j.toNat,by omega⟩
 have hn:n < rule.length:=by omega
 obtain ⟨x,hx,r⟩:=h2.at (List.getElem?_eq_getElem hn)
 refine ⟨x,z1l hx,?_⟩
 have:rule.getD (n:Int).toNat [] = rule[n]:=by simp [hn]
 rw [this]
 exact r
theorem y7b {B:Nat}:∀ {ls:List (List Int)},(∀ l ∈ ls,l.length <= B) -> ls.flatten.length <= B * ls.length
 | [],_=>Nat.zero_le _
 | l :: r,h=>by
  have h1:=h l (by simp)
  have h2:=y7b (ls:=r) fun m hm=>h m (by simp [hm])
  rw [List.flatten_cons,List.length_append,List.length_cons,Nat.mul_succ]
  omega
theorem zBo {K:PySem.W.Frag} {H:Hp} {q:Addr} {hs:List Int} {z:Int} {t:Addr} {Q:V -> Hp -> Prop} (hq:H q = some (.tup (hs.map V.int))) (ht:H t = some (.tup [V.int z])) (hl:hs.length <= 100)
  (k:∀ (v:V) (H':Hp),Tup1 (z :: hs) v H' -> Same H H' -> Q v H'):y5f K (.ref t) (.ref q) H Q:=by
 refine ⟨t,q,_,_,rfl,rfl,SqT.of ht,SqT.of hq,?_,(fun e=>by cases e),fun _ e=>?_,fun _ _ p hp=>?_⟩
 ·rw [List.length_map]
  exact Nat.le_trans (m:=101) (by simp; omega) (by decide)
 ·have:hs = []:=List.map_eq_nil_iff.mp e
  subst this
  exact k _ _ ⟨t,rfl,ht⟩ (fun _ _ h=>h)
 ·exact k _ _ ⟨p,rfl,by rw [z0c]; rfl⟩ (Same.new hp)
theorem z6q {α:Type} (p:α -> Bool) {l:List α} {i:Nat} {x:α} (h:l[i]? = some x):(l.take (i + 1)).filter p = (l.take i).filter p ++ if p x = true then [x] else []:=by
 obtain ⟨hi,e⟩:=List.getElem?_eq_some_iff.mp h
 rw [List.take_succ_eq_append_getElem hi,List.filter_append,e]
 by_cases c:p x = true
 ·rw [List.filter_cons,if_pos c,if_pos c]; rfl
 ·rw [List.filter_cons,if_neg c,if_neg c]; rfl
end L2
namespace L2
open PySem PySem.Spec PyProof.Rows
open AutoSeq1 (wpAny_loadPart')
theorem yDn {prog:Program} {w:World} {A:Around} (hh:A.handled = none) (k:Bool) (it l:Addr) (hne:l ≠ it) (items:Array Value) :
  Draws prog w A it [it,l] items.size (fun i v=>items[i]? = some v) (fun i h=>z5m k h it l i /\ z5d k h l items) where
 live:=fun _ _ st=>let ⟨o,ho,_⟩:=st.1; ⟨o,ho⟩
 frame:=fun _ _ _ st hk=>⟨st.1.kept fun o e=>hk it (by simp) o e,st.2.kept fun o e=>hk l (by simp) o e⟩
 item:=fun i s Q E hi st hQ=>yCb st.1 st.2 (x:=items[i]) (by simp [hi]) fun h' a b=>hQ _ h' s.toks (by simp [hi]) ⟨a,st.2.kept fun o e=>b.extBut _ _ hne e⟩ b
 done:=fun s Q E st hE=>endS hh st.1 st.2 (by simp) hE
def eH1 (k:Bool) (h:Heap) (l:Addr):Heap:=h.push { cls:=.type (zEp k),data:=.fields #[.ref l,.int 0 0] }
def eH2 (k:Bool) (h:Heap) (l:Addr):Heap:=(eH1 k h l).push { cls:=.type "enumerate",data:=.fields #[.none,.bool false,.ref h.objs.size,rawInt 0,.none,.none] }
set_option maxHeartbeats 1000000 in
theorem zDp (l:Addr) (items:Array Value) (n:Nat) (dct:Option Addr) (sl:Array (Option Value)) :
  Meets (Builtin.«enumerate.__new__» ⟨[.type "enumerate",.ref l],[]⟩) (fun _ R s=>s.heap.get? l = some { cls:=.type "tuple",dict:=dct,data:=.seq items n,slots:=sl } /\ R (.ok (.ret (.ref (eH1 true s.heap l).objs.size))) { s with heap:=eH2 true s.heap l }) :=
 .of_wp fun prog w A R s h=>by
  obtain ⟨hp,g,d,tk,os⟩:=s
  obtain ⟨hl,h⟩:=h
  have hsub:=sub_enumerate
  have hL:Heap.IsTuple (Shared.heap ⟨hp,g,d,tk,os⟩) l items:=⟨_,hl,rfl,n,rfl⟩
  wp_walk using wpAny_loadPart' hl
  refine wpAny_stack_any fun st=>wpAny_pure ?_
  split
  ·rename_i c _ _ _ _ _
   cases (c == Value.type "enumerate")
   all_goals (wp_walk using wpAny_loadPart' hl,wpAny_pyIter_tuple hL; exact ⟨_,rfl,h⟩)
  ·wp_walk using wpAny_loadPart' hl,wpAny_pyIter_tuple hL
   exact ⟨_,rfl,h⟩
section
variable {prog:Program} {w:World} {A:Around} {E:Value -> Shared -> Prop} {s:Shared}
theorem y3v {k:Bool} {l:Addr} {items:Array Value} {Q:Value -> Shared -> Prop} (hL:z5d k s.heap l items)
  (h:∀ h',IsEnum h' (s.heap.objs.size + 1) s.heap.objs.size 0 .none -> z5m k h' s.heap.objs.size l 0 -> (∀ b o,s.heap.get? b = some o -> h'.get? b = some o) -> Q (.ref (s.heap.objs.size + 1)) { s with heap:=h' }) :
  wpAny (model prog w) A (call (.type "enumerate") [.ref l]) Q E s:=by
 cases k
 ·exact call_enumerate_list hL fun h' a b _ c=>h h' a b c
 ·obtain ⟨⟨c,dct,dt,sl⟩,hl,hc,n,hd⟩:=hL
  replace hc:c = .type "tuple" := hc
  replace hd:dt = .seq items n:=hd
  subst hc hd
  refine callType_new F.called_enumerate (by decide) (F.typeCall_enumerate_1 _) (F.newCall_enumerate_1 _) (fun obj=>F.args_object_init_2 obj _) F.entry_enumerate_new (zDp l items n dct sl) ⟨hl,?_⟩
  have n1:(eH1 true s.heap l).objs.size = s.heap.objs.size + 1:=Heap.size_push ..
  have f2:(eH2 true s.heap l).get? (eH1 true s.heap l).objs.size = some _:=Heap.get?_push_size _ rfl
  have f1:(eH2 true s.heap l).get? s.heap.objs.size = some _:=Heap.get?_push_of_some _ (Heap.get?_push_size _ rfl)
  show _ /\ _
  rw [n1] at f2 ⊢
  exact ⟨⟨_,f2,rfl⟩,h _ f2 ⟨_,f1,rfl,rfl⟩ fun b o e=>Heap.get?_push_of_some _ (Heap.get?_push_of_some _ e)⟩
end
def Ite (K:PySem.W.Frag) (k:Bool) (a:Addr):It :=
 ⟨fun i H=>∃ xs x,Sq k K H a xs /\ xs[i]? = some x,
  fun i H v H'=>∃ T x,H T = none /\ v = .ref T /\ H' = upd H T (.tup [.int i,x]) /\ ∀ xs,Sq k K H a xs -> xs[i]? = some x,
  fun i H=>∃ xs,Sq k K H a xs /\ xs.length = i⟩
theorem yAb {P:Program} {w:World} {K:PySem.W.Frag} {elts:List Expr} {x1:Nat} {pos:Pos} (k:Bool) (a e it:Addr) (hei:e ≠ it) (hai:a ≠ it) (hae:a ≠ e) :
  Turn P w K (.Tuple elts x1 pos) (Ite K k a) [e,it] e (fun i h=>(∃ old,IsEnum h e it i old) /\ z5m k h it a i) where
 mem:=by simp
 obj:=fun i h st c hc=>by
  obtain ⟨⟨old,g0⟩,⟨o1,e1,_,d1⟩⟩:=st
  simp only [List.mem_cons,List.not_mem_nil,or_false] at hc
  rcases hc with rfl | rfl
  ·exact ⟨_,g0,fun v q=>by cases q⟩
  ·exact ⟨_,e1,fun v q=>by rw [d1] at q; cases q⟩
 keep:=fun i h h' st f=>by
  obtain ⟨⟨old,g0⟩,g1⟩:=st
  exact ⟨⟨old,f e (by simp) _ g0⟩,g1.kept (f it (by simp))⟩
 item:=by
  intro X hP hw hK hc i pins s σ H E I hf st hg
  subst hP hw hK
  obtain ⟨xs,x,hq,hx⟩:=hg
  obtain ⟨us,rv,p,_⟩:=I.sq hq
  obtain ⟨u,hu,ru⟩:=rv.get hx
  obtain ⟨⟨old,g0⟩,g1⟩:=st
  have hlt:i < us.toArray.size:=by
   have:=(List.getElem?_eq_some_iff.mp hu).1
   simpa using this
  have hh:X.A.in1.handled = none:=I.ok.hd hc
  refine wpAny_pyNext_enum_itemD (yDn hh k it a hai us.toArray) g0 ⟨g1,p⟩ hlt hei (by simp [hei,Ne.symm hae]) fun y h' tk hy ho hst hT _ kk=>⟨_,rfl,?_⟩
  have ey:y = u:=by
   have:us.toArray[i]? = some u:=by simpa using hu
   rw [this] at hy
   exact (Option.some.inj hy).symm
  subst ey
  refine wpAny_letOwnedTupleGo_enum (s:={ s with heap:=h',toks:=tk + 1 }) ho fun h2 he2 sb=>?_
  have up:∀ c o,c ≠ e -> h'.get? c = some o -> h2.get? c = some o:=fun c o n q=>(sb.2 c n).trans q
  have lt:e < s.heap.objs.size:=Heap.lt_size g0
  have tp:IsPair h2 s.heap.objs.size (.int i tk) y:=up _ _ (Nat.ne_of_gt lt) hT
  have I1:Inv X pins σ (upd H s.heap.objs.size (.tup [.int i,x])) { s with heap:=h2,toks:=tk + 1 }:=I.turnedN (t':=tk + 1) (ch:=[e,it]) hf (fun c o n q=>up c o (fun z=>n (by simp [z])) (kk c o (fun z=>n (by simp [z])) (fun z=>n (by simp [z])) q)) (Nat.le_refl _) (y8n ⟨tk,rfl⟩ ru tp)
  refine ⟨.ref s.heap.objs.size,_,I1,rfl,⟨_,x,I.hok.fresh (Nat.le_refl _),rfl,rfl,fun xs' h=>by rw [I.sq_inj h hq]; exact hx⟩,⟨⟨y,by simpa using he2⟩,hst.1.kept fun o q=>up _ _ (Ne.symm hei) q⟩,fun c hc=>?_⟩
  have hlt2:c < s.heap.objs.size:=by
   simp only [List.mem_cons,List.not_mem_nil,or_false] at hc
   rcases hc with rfl | rfl
   ·exact lt
   ·exact g1.lt
  rw [z0n (Nat.ne_of_lt hlt2)]
  exact (hf c hc).1
 done:=by
  intro X hP hw hK hc i pins s σ H E I hf st hg
  subst hP hw hK
  obtain ⟨xs,hq,hl⟩:=hg
  obtain ⟨us,rv,p,_⟩:=I.sq hq
  obtain ⟨⟨old,g0⟩,g1⟩:=st
  have hh:X.A.in1.handled = none:=I.ok.hd hc
  have e1:i = us.toArray.size:=by
   have:=rv.length
   rw [<- hl,this]; simp
  rw [e1] at g1
  exact wpAny_pyNext_enum_endD (yDn hh k it a hai us.toArray) g0 ⟨g1,p⟩ fun h' kk=>⟨rfl,I.turnedL (t':=s.toks) (ch:=[e,it]) hf fun c o n q=>kk c o (fun z=>n (by simp [z])) q⟩
 self:=fun _ _ _ _ _ st h=>by
  obtain ⟨⟨old,g0⟩,_⟩:=st
  exact wpAny_pyIter_enum g0 h
section
variable {X:Cx} {elts:List Expr} {x1:Nat} {tpos:Pos}
def yJj (K:PySem.W.Frag) (k:Bool) (ta:TA):TI:=fun σ H R=>ta σ H fun vs H1=>∃ a,vs = [.ref a] /\ (∃ xs,Sq k K H1 a xs) /\ R (Ite K k a) H1
theorem yFo (k:Bool) {a:Expr} {ta:TA} {p pos:Pos} (hg:Gl X "enumerate") (hm:X.mg "enumerate" = none) (ha:PA X [a] ta) (hs:starEach [a] X.env = [(false,eval a X.env)]:=by rfl):PI X (.Tuple elts x1 tpos) (.Call (.Name "enumerate" p) [a] [] pos) (yJj X.K k ta):=by
 intro pins s σ H R I h
 refine Call_ (z6n I hg hm boot_enumerate (PyProof.Rows.callWith_type1 (thn (ha pos pins s σ H _ I h) fun us s1 ⟨vs,H1,I1,r1,q1⟩=>?_) hs rfl))
 obtain ⟨a,e,⟨xs,hq⟩,q⟩:=q1
 subst e
 cases r1 with
 | cons r rr =>
  cases rr
  cases r
  obtain ⟨us,rv,p,_⟩:=I1.sq hq
  have hlt:=p.lt
  refine y3v p fun h' g0 g1 kk=>?_
  have I2:Inv X pins σ H1 { s1 with heap:=h' }:=I1.kept (t':=s1.toks) kk
  refine wpAny_pyIter_enum (s:={ s1 with heap:=h' }) g0 ⟨_,[s1.heap.objs.size + 1,s1.heap.objs.size],_,_,H1,rfl,I2,yAb k a _ _ (Nat.succ_ne_self _) (Nat.ne_of_lt hlt) (Nat.ne_of_lt (Nat.lt_succ_of_lt hlt)),⟨⟨_,g0⟩,g1⟩,fun c hc=>?_,q⟩
  have hle:s1.heap.objs.size <= c:=by
   have hc':c = s1.heap.objs.size + 1 \/ c = s1.heap.objs.size:=by simpa using hc
   rcases hc' with e | e <;> rw [e] <;> first | exact Nat.le_refl _ | exact Nat.le_add_right _ _
  exact I1.fpOk hle (I1.hok.fresh hle)
end
theorem y6p {K:PySem.W.Frag} {k:Bool} {a:Addr} {xs:List V} {g:TG} {tf:TT} {te:TE} {σ:St} {H:Hp} {Q:VK} (Pv:Nat -> List V -> St -> Hp -> Prop) (h0:Pv 0 [] σ H)
  (hl:∀ i zs σ H,i <= xs.length -> Pv i zs σ H -> Sq k K H a xs /\ zs.length <= sizeLine)
  (hs:∀ i x zs σ H T,xs[i]? = some x -> Pv i zs σ H -> H T = none -> g (.ref T) σ (upd H T (.tup [.int i,x])) fun σ2 H2=>tf σ2 H2 fun b H3=>if b = true then te σ2 H3 fun v H4=>Pv (i + 1) (zs ++ [v]) σ2 H4 else Pv (i + 1) zs σ2 H3)
  (hd:∀ zs σ H,Pv xs.length zs σ H -> ∀ p,H p = none -> Q (.ref p) (upd H p (.lst zs))):z9j g tf te σ (Ite K k a) H Q:=by
 refine ⟨fun i m zs σ H=>m = xs.length - i /\ i <= xs.length /\ Pv i zs σ H,⟨_,(Nat.sub_zero _).symm,Nat.zero_le _,h0⟩,?_⟩
 rintro i m zs σ H ⟨rfl,hi,p⟩
 obtain ⟨q1,hz⟩:=hl i zs σ H hi p
 by_cases hlt:i < xs.length
 ·refine .inr ⟨⟨xs,xs[i],q1,by simp [hlt]⟩,hz,Pv (i + 1),fun ys' σ' H' p'=>⟨xs.length - (i + 1),by omega,rfl,hlt,p'⟩,fun x H' y=>?_⟩
  obtain ⟨T,u,hT,rfl,rfl,e1⟩:=y
  exact hs i u zs σ H T (e1 xs q1) p hT
 ·have e:i = xs.length:=by omega
  rw [e] at p
  exact .inl ⟨⟨xs,q1,e.symm⟩,hz,hd zs σ H p⟩
end L2
namespace L2
open PySem PySem.Spec PyProof.Rows PySem.W
end L2
namespace L2
open PySem PySem.Spec PyProof.Rows
def Itd (n:Nat):It:=⟨fun i _=>i < n,fun i H x H'=>H' = H /\ x = .int ((n:Int) - i),fun i _=>n <= i⟩
theorem yAa {P:Program} {w:World} {K:PySem.W.Frag} {tg:Expr} (it:Addr) (n:Nat):Turn P w K tg (Itd n) [it] it (fun i h=>IsRangeIter h it ((n:Int) + (i:Nat) * (-1)) ((n:Int) - (i:Nat)) (-1)) where
 mem:=by simp
 obj:=fun i h st b hb=>by
  have e:b = it:=by simpa using hb
  subst e
  exact ⟨_,st,fun v z=>by
   have z':Data.fields _ = Data.cell v:=z
   cases z'⟩
 keep:=fun i h h' st k=>k it (by simp) _ st
 item:=by
  intro X hP hw hK hc i pins s σ H E I hf st hg
  subst hP hw hK
  obtain ⟨f0,f1,f2,f3,f4,f5⟩:=hf it (by simp)
  have W:=Walks.range (prog:=X.prog) (w:=X.w) (I.ok.hd hc) it (n:Int) (-1) n
  refine W.item i s _ _ hg st fun v h' tk hv st' kk=>?_
  obtain ⟨t,rfl⟩:=hv
  have I1:Inv X pins σ H { s with heap:=h',toks:=tk }:=I.turned (fun b o hb e=>kk b o (by simpa using hb) e) f0 f1 f3 f4 f5
  refine ⟨_,rfl,yBn (s:={ s with heap:=h',toks:=tk }) (n := "range_iterator") st' rfl rfl (by decide) ⟨.int ((n:Int) - i),H,I1,⟨t,?_⟩,⟨rfl,rfl⟩,st',fun b hb=>(hf b hb).1⟩⟩
  have:(n:Int) + (i:Int) * (-1) = (n:Int) - i:=by omega
  rw [this]
 done:=by
  intro X hP hw hK hc i pins s σ H E I hf st hg
  subst hP hw hK
  obtain ⟨f0,f1,f2,f3,f4,f5⟩:=hf it (by simp)
  exact wpAny_pyNext_range_end (I.ok.hd hc) st (by have:n <= i:=hg; omega) fun h' eb=>⟨rfl,I.turned (t':=s.toks) (fun b o hb e=>eb b o hb e) f0 f1 f3 f4 f5⟩
 self:=fun _ _ _ _ _ st h=>wpAny_pyIter_rangeiter st h
section
variable {X:Cx} {tg:Expr}
theorem zJt (n:Nat):Builtin.Range.rangeSize (n:Int) 0 (-1) = (n:Int):=by
 unfold Builtin.Range.rangeSize
 rw [if_neg (by decide)]
 have e:((-(-1:Int))) = 1:=by decide
 split
 ·rw [e,Int.ediv_one]; omega
 ·omega
theorem y5n {n:Nat} (h:n <= 100000):Builtin.Range.small (n:Int) 0 (-1) = true:=by
 unfold Builtin.Range.small
 rw [zJt]
 simp only [Builtin.Range.rangeFitsLong,Bool.and_eq_true,Bool.or_eq_true,decide_eq_true_eq,beq_iff_eq,show ¬ ((-1:Int) > 0) by decide,if_false]
 omega
def yJi (ta:TA):TI:=fun σ H R=>ta σ H fun vs H1=>∃ n:Nat,vs = [.int n,.int 0,.int (-1)] /\ n <= 100000 /\ R (Itd n) H1
theorem y8q {a b c:Expr} {ta:TA} {p pos:Pos} (hg:Gl X "range") (hm:X.mg "range" = none) (ha:PA X [a,b,c] ta) (hs:starEach [a,b,c] X.env = (false,eval a X.env) :: starEach [b,c] X.env:=by rfl) (hs2:(backTo pos (starEach [b,c] X.env)).any (·.1) = false:=by rfl) :
  PI X tg (.Call (.Name "range" p) [a,b,c] [] pos) (yJi ta):=by
 intro pins s σ H R I h
 refine Call_ (z6n I hg hm boot_range (PyProof.Rows.callWith_type1 (thn (ha pos pins s σ H _ I h) fun us s1 ⟨vs,H1,I1,r1,q1⟩=>?_) hs hs2))
 obtain ⟨n,e,hn,q⟩:=q1
 subst e
 cases r1 with
 | cons r rr =>
  cases rr with
  | cons r' rr =>
   cases rr with
   | cons r'' rr =>
    cases rr
    obtain ⟨t,rfl⟩:=r
    obtain ⟨t',rfl⟩:=r'
    obtain ⟨t'',rfl⟩:=r''
    refine call_range_3 (by decide) ?_ (.inl (PyProof.noPylong_small (by decide)))
    refine wpAny_pyIter_range (s:={ s1 with heap:=s1.heap.push { cls:=.type "range",data:=.fields #[.int n t,.int 0 t',.int (-1) t''] } }) (Heap.get?_push_size _ rfl) (y5n hn) ?_
    have I2:Inv X pins σ H1 { s1 with heap:=s1.heap.push { cls:=.type "range",data:=.fields #[.int n t,.int 0 t',.int (-1) t''] } }:=I1.kept (t':=s1.toks) fun b o e=>Heap.get?_push_of_some _ e
    refine ⟨_,[(s1.heap.push { cls:=.type "range",data:=.fields #[.int n t,.int 0 t',.int (-1) t''] }).objs.size],_,_,H1,rfl,I2.kept (t':=s1.toks) fun b o e=>Heap.get?_push_of_some _ e,yAa _ n,?_,fun b hb=>?_,q⟩
    ·show IsRangeIter _ _ ((n:Int) + ((0:Nat):Int) * (-1)) ((n:Int) - ((0:Nat):Int)) (-1)
     have e1:(n:Int) + ((0:Nat):Int) * (-1) = n:=by simp
     have e2:(n:Int) - ((0:Nat):Int) = Builtin.Range.rangeSize (n:Int) 0 (-1):=by rw [zJt]; simp
     rw [e1,e2]
     exact Heap.get?_push_size _ rfl
    ·have e:b = (s1.heap.push { cls:=.type "range",data:=.fields #[.int n t,.int 0 t',.int (-1) t''] }).objs.size:=by simpa using hb
     subst e
     exact I2.fpOk (Nat.le_refl _) (I2.hok.fresh (Nat.le_refl _))
end
theorem y2f {n:Nat} {g:TG} {tb:TS} {D:Ends} {σ:St} {H:Hp} (Pv:Nat -> St -> Hp -> Prop) (h0:Pv 0 σ H)
  (hs:∀ i σ H,i < n -> Pv i σ H -> g (.int ((n:Int) - i)) σ H fun σ2 H2=>tb { D with nx:=Pv (i + 1),ct:=Pv (i + 1),bk:=D.nx } σ2 H2) (hd:∀ σ H,Pv n σ H -> D.nx σ H) :
  ∃ W:Nat -> Nat -> St -> Hp -> Prop,(∃ m,W 0 m σ H) /\ ∀ i m σ H,W i m σ H ->
   ((Itd n).stop i H /\ D.nx σ H) \/ ((Itd n).go i H /\ ∃ N:St -> Hp -> Prop,(∀ σ' H',N σ' H' -> ∃ m',m' < m /\ W (i + 1) m' σ' H') /\ ∀ x H',(Itd n).yld i H x H' -> g x σ H' fun σ2 H2=>tb { D with nx:=N,ct:=N,bk:=D.nx } σ2 H2):=by
 refine ⟨fun i m σ H=>m = n - i /\ i <= n /\ Pv i σ H,⟨n,by simp,Nat.zero_le _,h0⟩,?_⟩
 rintro i m σ H ⟨rfl,hi,p⟩
 by_cases hlt:i < n
 ·refine .inr ⟨hlt,Pv (i + 1),fun σ' H' p'=>⟨n - (i + 1),by omega,rfl,hlt,p'⟩,fun x H' y=>?_⟩
  obtain ⟨e,y⟩:=y
  subst e y
  exact hs i σ _ hlt p
 ·have e:i = n:=by omega
  subst e
  exact .inl ⟨Nat.le_refl _,hd σ H p⟩
theorem FnOk.none {P:Program} {w:World} {K:PySem.W.Frag} {mg:Str -> Option Value} {base:Heap} {CX:CXT} {k:Nat} {f:Addr} {fd:FuncData} {ps:List Str} {sp:Sp} {cm:Bool} (h:∀ vs H Q E,¬ sp vs H Q E):FnOk P w K mg base CX k f fd ps sp cm :=
 ⟨fun vs H Q E z=>absurd z (h vs H Q E),fun A outer s H args us vs Q E hr he hb hv hs=>absurd hs (h _ _ _ _)⟩
end L2
namespace L2
open PySem PySem.Spec PyProof.Rows
def z2y:Nat -> Nat -> Nat -> List (List Int)
 | 0,_,_=>[]
 | f + 1,n,g=>if n = 0 then [[]] else (List.range (min n g)).flatMap fun i=>(z2y f (n - (min n g - i)) (min n g - i)).map (((min n g - i:Nat):Int) :: ·)
def z8p (f n k i:Nat):List (List Int):=(List.range i).flatMap fun i=>(z2y f (n - (k - i)) (k - i)).map (((k - i:Nat):Int) :: ·)
theorem z1j (f n g:Nat):z2y (f + 1) n g = if n = 0 then [[]] else z8p f n (min n g) (min n g):=rfl
theorem z9w (f n k i:Nat):z8p f n k (i + 1) = z8p f n k i ++ (z2y f (n - (k - i)) (k - i)).map (((k - i:Nat):Int) :: ·):=by
 unfold z8p
 rw [List.range_succ,List.flatMap_append]
 simp
theorem z9c {f:Nat} (ih:∀ n g,(z2y f n g).length <= 2 ^ n) {n k:Nat} (hk:k <= n):∀ i,i <= k -> (z8p f n k i).length <= 2 ^ (n - k + i)
 | 0,_=>by simp [z8p]
 | i + 1,hi=>by
  have h1:=z9c ih hk i (by omega)
  rw [z9w,List.length_append,List.length_map]
  have h2:=ih (n - (k - i)) (k - i)
  have e:n - (k - i) = n - k + i:=by omega
  rw [e] at h2
  have e2:n - k + (i + 1) = (n - k + i) + 1:=by omega
  rw [e2,Nat.pow_succ]
  rw [e]
  omega
theorem z5e:∀ f n g,(z2y f n g).length <= 2 ^ n
 | 0,n,g=>Nat.zero_le _
 | f + 1,n,g=>by
  rw [z1j]
  split
  ·rename_i h; rw [h]; exact Nat.le_refl _
  ·have:=z9c (z5e f) (n:=n) (k:=min n g) (Nat.min_le_left _ _) (min n g) (Nat.le_refl _)
   have e:n - min n g + min n g = n:=by omega
   rw [e] at this
   exact this
theorem zCz:∀ f n g,∀ h ∈ z2y f n g,h.length <= n
 | 0,n,g,h,hh=>nomatch hh
 | f + 1,n,g,h,hh=>by
  rw [z1j] at hh
  split at hh
  ·have:h = []:=by simpa using hh
   rw [this]; exact Nat.zero_le _
  ·unfold z8p at hh
   obtain ⟨i,hi,hh⟩:=List.mem_flatMap.mp hh
   rw [List.mem_range] at hi
   obtain ⟨r,hr,rfl⟩:=List.mem_map.mp hh
   have:=zCz f _ _ r hr
   rw [List.length_cons]
   omega
def idxP (rule:List (List Int)) (hs:List Int) (i:Nat):List Int:=((List.range i).filter fun i=>lies (rule.getD i []) hs).map fun (k:Nat)=>(k:Int)
def idxG (rule:List (List Int)) (hs:List Int):List Int:=idxP rule hs rule.length
theorem z5p (rule:List (List Int)) (hs:List Int) (i:Nat):idxP rule hs (i + 1) = idxP rule hs i ++ if lies (rule.getD i []) hs = true then [(i:Int)] else []:=by
 unfold idxP
 rw [List.range_succ,List.filter_append,List.map_append]
 by_cases h:lies (rule.getD i []) hs = true
 ·rw [List.filter_cons,if_pos h,if_pos h]; rfl
 ·rw [List.filter_cons,if_neg h,if_neg h]; rfl
theorem yBp (rule:List (List Int)) (hs:List Int) (i:Nat):(idxP rule hs i).length <= i:=by
 unfold idxP
 rw [List.length_map]
 exact Nat.le_trans (List.length_filter_le _ _) (by simp)
theorem y0o {rule:List (List Int)} {hs:List Int} {i:Nat} {x:Int} (h:x ∈ idxP rule hs i):0 <= x /\ x < i /\ lies (rule.getD x.toNat []) hs = true:=by
 unfold idxP at h
 obtain ⟨k,hk,rfl⟩:=List.mem_map.mp h
 obtain ⟨h1,h2⟩:=List.mem_filter.mp hk
 rw [List.mem_range] at h1
 refine ⟨by omega,by omega,?_⟩
 simpa using h2
def z1m (rule:List (List Int)) (hs:List Int):Option Int:=(idxG rule hs).head?
def optV:Option Int -> V
 | none=>.non
 | some i=>.int i
theorem zIc (rule:List (List Int)) (hs:List Int):∀ i m,yAh m (idxP rule hs i) -> (idxP rule hs i).head? = some m
 | 0,m,h=>nomatch h.1
 | i + 1,m,h=>by
  rw [z5p] at h ⊢
  cases e:idxP rule hs i with
  | nil =>
   rw [e] at h
   by_cases c:lies (rule.getD i []) hs = true
   ·rw [if_pos c] at h ⊢
    have:m = (i:Int):=by simpa using h.1
    rw [this]; rfl
   ·rw [if_neg c] at h
    exact nomatch h.1
  | cons y ys =>
   have ih:=zIc rule hs i
   rw [e] at ih h
   show some y = some m
   have hy:y ∈ idxP rule hs i:=by rw [e]; simp
   have hmem:m ∈ y :: ys:=by
    rcases List.mem_append.mp h.1 with z | z
    ·exact z
    ·by_cases c:lies (rule.getD i []) hs = true
     ·rw [if_pos c] at z
      have e1:m = (i:Int):=by simpa using z
      have:=h.2 y (by simp)
      have:=(y0o hy).2.1
      omega
     ·rw [if_neg c] at z
      exact nomatch z
   exact ih m ⟨hmem,fun x hx=>h.2 x (by rcases List.mem_cons.mp hx with z | z <;> simp [z])⟩
theorem zEn {rule:List (List Int)} {hs:List Int} (h:idxP rule hs rule.length = []):z1m rule hs = none:=by unfold z1m idxG; rw [h]; rfl
theorem y3z {rule:List (List Int)} {hs:List Int} {i:Nat} (h:idxP rule hs i = []) (hi:i < rule.length) (c:lies (rule.getD i []) hs = true):z1m rule hs = some (i:Int):=by
 have step:∀ d,(idxP rule hs (i + 1 + d)).head? = some (i:Int):=by
  intro d
  induction d with
  | zero=>rw [Nat.add_zero,z5p,h,if_pos c]; rfl
  | succ d ih =>
   rw [<- Nat.add_assoc,z5p]
   cases e:idxP rule hs (i + 1 + d) with
   | nil=>rw [e] at ih; cases ih
   | cons y ys=>rw [e] at ih; exact ih
 have:=step (rule.length - (i + 1))
 rw [show i + 1 + (rule.length - (i + 1)) = rule.length by omega] at this
 exact this
def z2a (rule:List (List Int)) (n:Nat):List (List Int):=(z2y 26 n n).filter fun h=>(z1m rule h).isNone
theorem y7k (rule:List (List Int)) (n:Nat):(z2a rule n).length <= 2 ^ n:=Nat.le_trans (List.length_filter_le _ _) (z5e _ _ _)
theorem y8w {n:Nat} (h:n <= 24):2 ^ n <= sizeLine:=Nat.le_trans (Nat.pow_le_pow_right (by decide) h) (by decide)
theorem zJf (o:Option Int):decide (optV o = V.non) = o.isNone:=by
 cases o with
 | none=>rfl
 | some i=>exact decide_eq_false (by intro z; cases z)
end L2
namespace L2
open PySem PySem.Spec PyProof.Rows
def z5v (pc:List Int × List Int) (v:V) (H:Hp):Prop:=∃ q a b,v = .ref q /\ H q = some (.tup [.ref a,.ref b]) /\ H a = some (.tup (pc.1.map V.int)) /\ H b = some (.tup (pc.2.map V.int))
theorem z5v.mv {H H':Hp} {pc:List Int × List Int} {v:V} (t:Tups H H') (h:z5v pc v H):z5v pc v H':=let ⟨q,a,b,e,h1,h2,h3⟩:=h; ⟨q,a,b,e,t _ _ h1,t _ _ h2,t _ _ h3⟩
theorem All2.mvP {H H':Hp} {ls:List (List Int × List Int)} {xs:List V} (t:Tups H H') (h:All2 z5v H ls xs):All2 z5v H' ls xs:=h.imp fun _ _ z=>z.mv t
end L2
namespace L2
open PySem PySem.Spec PyProof.Rows
def y6o (L:List Int) (part at_:Nat):List Int:=L.set at_ (L.getD at_ 0 + L.getD (at_ - part) 0)
def zAf (L:List Int) (part:Nat):Nat -> List Int
 | 0=>L
 | i + 1=>y6o (zAf L part i) part (part + i)
def z4u (n:Nat):Nat -> List Int
 | 0=>1 :: List.replicate n 0
 | k + 1=>zAf (z4u n k) (k + 1) (n - k)
theorem z9m (L:List Int) (part:Nat):∀ i,(zAf L part i).length = L.length
 | 0=>rfl
 | i + 1=>by unfold zAf y6o; rw [List.length_set,z9m L part i]
theorem zBr (n:Nat):∀ k,(z4u n k).length = n + 1
 | 0=>by simp [z4u]
 | k + 1=>by rw [z4u,z9m,zBr n k]
def yGu:List Int -> Bool
 | []=>true
 | [_]=>true
 | x :: y :: r=>decide (y <= x) && yGu (y :: r)
def lexB:List (List Int) -> Bool
 | []=>true
 | [_]=>true
 | x :: y :: r=>HT.lexGt x y && lexB (y :: r)
def z2u (n:Nat):Bool:=((z2y 26 n n).length:Int) == (z4u n n).getD n 0 && (z2y 26 n n).all (fun h=>h.sum == (n:Int) && h.all (fun x=>decide (1 <= x)) && yGu h) && lexB (z2y 26 n n)
theorem yJq:z2u 0 = true:=by decide +kernel
theorem yJr:z2u 1 = true:=by decide +kernel
theorem yJs:z2u 2 = true:=by decide +kernel
theorem yJt:z2u 3 = true:=by decide +kernel
theorem yJu:z2u 4 = true:=by decide +kernel
theorem yJv:z2u 5 = true:=by decide +kernel
theorem yJw:z2u 6 = true:=by decide +kernel
theorem yJx:z2u 7 = true:=by decide +kernel
theorem yJy:z2u 8 = true:=by decide +kernel
theorem yJz:z2u 9 = true:=by decide +kernel
theorem yHl:z2u 10 = true:=by decide +kernel
theorem yHm:z2u 11 = true:=by decide +kernel
theorem yHn:z2u 12 = true:=by decide +kernel
theorem yHo:z2u 13 = true:=by decide +kernel
theorem yHp:z2u 14 = true:=by decide +kernel
theorem yHq:z2u 15 = true:=by decide +kernel
theorem yHr:z2u 16 = true:=by decide +kernel
theorem yHs:z2u 17 = true:=by decide +kernel
theorem yHt:z2u 18 = true:=by decide +kernel
theorem yHu:z2u 19 = true:=by decide +kernel
theorem yHv:z2u 20 = true:=by decide +kernel
theorem yHw:z2u 21 = true:=by decide +kernel
theorem yHx:z2u 22 = true:=by decide +kernel
theorem yHy:z2u 23 = true:=by decide +kernel
theorem yHz:z2u 24 = true:=by decide +kernel
theorem zEy:∀ n,n < 25 -> z2u n = true
 | 0,_=>yJq
 | 1,_=>yJr
 | 2,_=>yJs
 | 3,_=>yJt
 | 4,_=>yJu
 | 5,_=>yJv
 | 6,_=>yJw
 | 7,_=>yJx
 | 8,_=>yJy
 | 9,_=>yJz
 | 10,_=>yHl
 | 11,_=>yHm
 | 12,_=>yHn
 | 13,_=>yHo
 | 14,_=>yHp
 | 15,_=>yHq
 | 16,_=>yHr
 | 17,_=>yHs
 | 18,_=>yHt
 | 19,_=>yHu
 | 20,_=>yHv
 | 21,_=>yHw
 | 22,_=>yHx
 | 23,_=>yHy
 | 24,_=>yHz
 | n + 25,h=>absurd h (by omega)
end L2
namespace L2
open PySem PySem.Spec PyProof.Rows
theorem y5m {K:PySem.W.Frag} {H:Hp} {p:Addr} {hs:List Int} {Q:VK} (hp:H p = some (.tup (hs.map V.int))) (k:∀ q H',H' q = some (.tup (hs.tail.map V.int)) -> Same H H' -> Q (.ref q) H'):yIf K (.ref p) (some 1) none H Q:=by
 have e1:∀ n d:Nat,HT.sIx n d (some 1) = min 1 n:=fun n d=>HT.sIx_nat n d 1
 cases hs with
 | nil=>exact .inl ⟨p,[],rfl,SqT.of hp,⟨rfl,rfl⟩,k p H hp fun _ _ z=>z⟩
 | cons x r =>
  refine .inr ⟨p,_,rfl,SqT.of hp,?_,fun q hq=>k q _ ?_ (Same.new hq)⟩
  ·rintro ⟨z,_⟩
   rw [e1] at z
   simp at z
  ·rw [z0c]
   unfold cutV
   rw [e1,HT.sIx_none]
   simp [List.take_of_length_le]
end L2
namespace L2
open PySem PySem.Spec PyProof.Rows
def zCr:List Int -> Nat -> Int
 | [],_=>0
 | x :: _,0=>x
 | _ :: r,n + 1=>zCr r n
theorem y2t:∀ (L:List Int) (n:Nat),zCr L n = L.getD n 0
 | [],_=>rfl
 | x :: _,0=>rfl
 | _ :: r,n + 1=>by rw [zCr,y2t r n,List.getD_cons_succ]
def zDb (m:Int):Int:=m * (3 * m - 1) / 2
def zGk (m:Int):Int:=m * (3 * m + 1) / 2
def zIx (R:List Int) (n:Int):Nat -> Int -> Int -> Int -> Int
 | 0,_,_,t=>t
 | f + 1,m,s,t=>if zDb m <= n then zIx R n f (m + 1) (-s) (if zGk m <= n then t + s * zCr R (zDb m - 1).toNat + s * zCr R (zGk m - 1).toNat else t + s * zCr R (zDb m - 1).toNat) else t
def wayR:Nat -> List Int
 | 0=>[1]
 | n + 1=>zIx (wayR n) (n + 1:Nat) (n + 3) 1 1 0 :: wayR n
theorem z7y:∀ n,(wayR n).length = n + 1
 | 0=>rfl
 | n + 1=>by rw [wayR,List.length_cons,z7y n]
theorem zHd (n:Nat):∀ d j,j <= n -> (wayR (n + d)).reverse.getD j 0 = (wayR n).reverse.getD j 0
 | 0,_,_=>rfl
 | d + 1,j,h=>by
  have hl:=z7y (n + d)
  rw [<- Nat.add_assoc,wayR,<- zHd n d j h,List.reverse_cons]
  simp only [List.getD_eq_getElem?_getD]
  rw [List.getElem?_append_left (by rw [List.length_reverse]; omega)]
theorem yCk {m:Int} (h:1 <= m):m <= zDb m:=by
 unfold zDb
 refine Int.le_ediv_of_mul_le (by decide) ?_
 exact Int.mul_le_mul_of_nonneg_left (by omega) (by omega)
theorem yCl {m:Int} (h:1 <= m):m <= zGk m:=by
 unfold zGk
 refine Int.le_ediv_of_mul_le (by decide) ?_
 exact Int.mul_le_mul_of_nonneg_left (by omega) (by omega)
def srow:List Int -> List Int -> List Int
 | [],_=>[]
 | x :: r,[]=>x :: srow r []
 | x :: r,f :: q=>(x + f) :: srow r (q ++ [x + f])
def qrow:List Int -> List Int -> List Int -> List Int
 | [],_,_=>[]
 | x :: r,[],b=>x :: qrow r [] b
 | x :: r,f :: fs,b=>(x + f) :: (match fs with
  | []=>qrow r ((x + f) :: b).reverse []
  | g :: gs=>qrow r (g :: gs) ((x + f) :: b))
theorem zGp:∀ (rest f b:List Int),f ≠ [] -> qrow rest f b = srow rest (f ++ b.reverse)
 | [],_,_,_=>rfl
 | x :: r,[],b,h=>absurd rfl h
 | x :: r,[f],b,_=>by
  show (x + f) :: qrow r ((x + f) :: b).reverse [] = (x + f) :: srow r ([] ++ b.reverse ++ [x + f])
  rw [zGp r ((x + f) :: b).reverse [] (by simp)]
  simp
 | x :: r,f :: g :: gs,b,_=>by
  show (x + f) :: qrow r (g :: gs) ((x + f) :: b) = (x + f) :: srow r ((g :: gs) ++ b.reverse ++ [x + f])
  rw [zGp r (g :: gs) ((x + f) :: b) (by simp)]
  simp
def z4v (n:Nat):Nat -> List Int
 | 0=>1 :: List.replicate n 0
 | k + 1=>qrow (z4v n k) (List.replicate (k + 1) 0) []
def zDo (L:List Int) (k:Nat):Nat -> List Int
 | 0=>L
 | d + 1=>qrow (zDo L k d) (List.replicate (k + d + 1) 0) []
theorem z5w (n k:Nat):∀ d,zDo (z4v n k) k d = z4v n (k + d)
 | 0=>rfl
 | d + 1=>by rw [zDo,z5w n k d,<- Nat.add_assoc,z4v]
def cq50:List Int:=[1,1,2,3,5,7,11,15,22,30,42,56,77,101,135,176,231,297,385,490,627,792,1002,1255,1575,1958,2436,3010,3718,4565,5604,6842,8349,10143,12310,14883,17977,21637,26015,31185,37338,44583,53174,63261,75175,89134,105558,124754,147273,173525,204226,239942,281587,329927,386148,451264,526804,614124,715175,831753,966370,1121366,1299961,1505227,1741257,2012050,2322836,2678774,3086523,3552748,4085881,4694491,5389277,6181181,7083737,8110926,9279795,10608131,12117422,13830190,15773451,17975698,20470784,23294649,26489697,30101084,34181806,38788540,43987339,49849140,56456203,63897051,72273916,81697112,92293394,104199918,117573669,132584737,149427189,168311655,189477547,213185155,239729465,269431448,302653933,339792125,381291480,427637718,479377030,537105225,601490937,673263968,753241472,842315871,941484521,1051836837,1174588289,1311066892,1462751659,1631258972,1818386208,2026097642,2256574474,2512200558,2795619096,3109718988,3457699287,3843055914,4269655537,4741723194,5263926265,5841364162,6479663976,7184972217,7964064529,8824340472,9773948460,10821785366,11977639132,13252193596,14657192172,16205449596,17911038795,19789312287,21857115827,24132820707,26636569168,29390320454,32418131467,35746220803,39403290219,43420609238,47832384654,52675870446,57991791098,63824483407,70222381936,77238197621,84929476115,93358820854,102594533523,112710891779,123788884589,135916553213,149189837227,163712991120,179599555706,196972866122,215967167844,236728230562,259414632528,284198499820,311266981900,340823140653,373087646355,408299840216,446719685955,488629036474,534333876647,584165831508,638484744275,697680464035,762175811707,832428694753,908935515542,992233670338,1082905466501,1181581065555,1288942987651,1405729571868,1532740151208,1670839117101,1820961864512,1984119553588,2161405941825,2354002954636,2563188530350,2790343131306,3036958750877,3304646507776,3595146988743,3910339095517,4252251912641,4623075005069,5025172033113,5461092717902,5933588460994,6445626232861,7000406480234,7601379233864,8252264633526,8957071582612,9720121271015,10546068758485,11439929916601,12407106381991,13453416404735,14585123661948,15808972572780,17132221540397,18562683356583,20108763525409,21779506475239,23584639693440,25534626567239,27640717169895,29915008647871,32370503621254,35021179169216,37882053922463,40969266848254,44300154271252,47893339802003,51768822698322,55948080473449,60454170181529,65311845454260,70547672520392,76190163631339,82269909875899,88819733228249,95874838471863,103472986407334,111654667521900,120463299203124,129945424149385,140150934824085,151133299971214,162949819976524,175661885310536,189335266912037,204040410891596,219852768602461,236853132471937,255128011038365,274770011427427,295878265279467,318558864112402,342925342842290,369099175042480,397210321627537,427397793937003,459810276078081,494606764787221,531957275023670,572043566659944,615059944143015,661214081359555,710727927497499,763838642876842,820799624688288,881881568140302,947373627472353,1017584618589192,1092844332611115,1173504898196922,1259942267057308,1352557756373532,1451779728114335,1558065334507539,1671902415628146,1793811473724418,1924347816571516,2064103789557422,2213711195668829,2373843817805096,2545220149951713,2728606246161299,2924818801687609,3134728369421425,3359262834458803,3599411043740918,3856226722683049,4130832569294291,4424424667357193,4738277102371563,5073746932301687,5432279389576082,5815413477594644,6224787830683202,6662147012675643,7129348115157310,7628367843476821,8161309943144965,8730413168580190,9338059638133689,9986783792096201,10679281788501182,11418421569397229,12207253422734608,13049021289660457,13947174632413897,14905381130857677,15927540012427921,17017796303289858,18180555794483298,19420501032029509,20742608113509862,22152164622681106,23654788472895842,25256448015347604,26963483170561991,28782627965396036,30721034221370632,32786296804617268,34986480170217634,37330146641535094,39826386143671896,42484847864204802,45315773546506116,48330032923598596,51539160983624096,54955397612520660,58591729290214933,62461933426372001,66580624997169624,70963306112418592,75626418159369745,80587397199351063,85864732248011152,91478027165653163,97448065772998468,103796880972789880,110547827477037067,117725658978654828,125356609351526919,133468478780513091,142090724390084494,151254556340415953,160993038944481104,171341197847809153,182336132809396524,194017137203845538,206425823769040482,219606257803612946,233605097324993399,248471741483396857,264258486729616881,281020692130124751,298816953315935754,317709286564219370,337763322489057328,359048510954497944,381638336677576822,405610547257552078,431047393092725106,458035881053521809,486668041369237652,517041209740495955,549258324133247795,583428238421059463,619666052333656709,658093460045054580,698839116865101352,742039026548167535,787836948692561133,836384828939179883,887843251458239977,942381916642531233,1000180143516931466,1061427400010052504,1126323860624635075,1195080994898273860,1267922186225917199,1345083384700785248,1426813793588262679,1513376593376624409,1605049703071129841,1702126582985843356,1804917078762963094,1913748311209243101,2028965611754409323,2150933508484501169,2280036762642953754,2416681460945377246,2561296163704500106,2714333114535867768,2876269511761151162,3047608847740028192,3228882316385965600,3420650295595098972]
def yEn:List Int:=[1,1,2,3,5,7,11,15,22,30,42,56,77,101,135,176,231,297,385,490,627,792,1002,1255,1575,1958,2436,3010,3718,4565,5604,6842,8349,10143,12310,14883,17977,21637,26015,31185,37338,44583,53174,63261,75175,89134,105558,124754,147273,173525,204226,239943,281589,329931,386155,451276,526823,614154,715220,831820,966467,1121505,1300156,1505499,1741630,2012558,2323520,2679689,3087735,3554345,4087968,4697205,5392783,6185689,7089500,8118264,9289091,10619863,12132164,13848650,15796476,18004327,20506255,23338469,26543660,30167357,34262962,38887673,44108109,49995925,56634173,64112359,72533807,82010177,92669720,104651419,118114304,133230930,150198136,169229875,190569292,214481125,241265377,271248946,304801358,342325697,384276317,431149359,483502799,541946173,607163649,679903064,761001961,851376356,952050292,1064143943,1188907564,1327709161,1482072931,1653667068,1844347473,2056145337,2291317406,2552333733,2841934737,3163120014,3519213396,3913852563,4351063858,4835253410,5371292375,5964510875,6620795418,7346585692,8148986732,9035769803,10015500524,11097545883,12292221061,13610803110,15065700165,16670473900,18440033429,20390669692,22540278119,24908406508,27516511964,30388025785,33548648550,37026436980,40852143568,45059328611,49684752507,54768518821,60354525846,66490648508,73229258894,80627453081,88747652960,97657887493,107432486584,118152429078,129906143783,142789934920,156908908786,172377492116,189320501882,207873775885,228185408845,250416513474,274742651144,301354748094,330460748454,362286715953,397078745119,435104278699,476654319895,522045004709,571620159306,625753174607,684849963773,749351188142,819735680357,896523083306,980277807740,1071612157987,1171190908666,1279734995599,1398026811229,1526914557174,1667318365717,1820235428103,1986747071455,2168024786754,2365338412953,2580063214361,2813689337560,3067830114195,3344232988433,3644789238724,3971546606112,4326720666079,4712709412389,5132106548901,5587718329474,6082579069877,6619970592952,7203440315074,7836823685343,8524265258756,9270244585522,10079600732229,10957562148574,11909775177520,12942338490621,14061836213508,15275377618464,16590635569944,18015892269014,19560083839871,21232853020114,23044600835947,25006547275334,27130791121464,29430379801326,31919378617773,34612951120006,37527439161480,40680455347158,44090975532002,47779445129988,51767885917649,56080018223136,60741384175502,65779488097534,71223938625705,77106609967963,83461805685174,90326443827728,97740245575174,105745947710688,114389519743382,123720407675841,133791783768012,144660826078841,156389005626933,169042406837822,182692057493906,197414295943998,213291150015223,230410757623257,248867801690864,268763991743005,290208562821385,313318826708260,338220743961852,365049554564434,393950433476262,425079211879345,458603128037697,494701651849320,533567344450672,575406800480631,620441631717963,668909543453920,721065459488505,777182751246876,837554523850252,902495019079085,972341084919427,1047453776359882,1128220033782804,1215054508819906,1308401480412706,1408736936540674,1516570760656963,1632449104261446,1756956880727068,1890720468364769,2034410553634510,2188745209543275,2354493135831603,2532477163530903,2723577945944962,2928737946916876,3148965643582688,3385340063392017,3639015567654384,3911227010943732,4203295183429256,4516632675944342,4852750069352978,5213262599330759,5599897192547033,6014500037495678,6459044580146917,6935640120970068,7446540897376461,7994155842501187,8581058898233009,9210000088861191,9883917226903373,10605948474421669,11379445624769814,12207988346401933,13095399247139019,14045760020263740,15063428524160595,16153057078513961,17319611821909494,18568393437296958,19905059083505057,21335645864578231,22866595668478016,24504781734671058,26257536775453708,28132683040646830,30138564144268597,32284079075391434,34578718205780310,37032601752243327,39656520500491090,42461979287257131,45461243042474609,48667385930341394,52094343386664694,55756967637483833,59671086492566878,63853566049027427,68322377096192965,73096665911541557,78196829237520268,83644594188963451,89463102880834703,95677002591304843,102312541251906315,109397669150822023,116962146645045183,125037658845493200,133657937076954893,142858888162133426,152678731341047433,163158143967899326,174340415809248101,186271613187623916,199000752810504326,212579986640327063,227064797666404249,242514208056196888,258990999572718472,276561947869430854,295298070580769854,315274890966247974,336572717064823648,359276938277779816,383478339382832665,409273434074065764,436764818084724140,466061544180750240,497279519146861648,530541925264723309,565979666480846328,603731841996767910,643946247567239691,686779907494645114,732399637708525355,780982643198769236,832717150310606615,887803077478708479,946452745045674064,1008891628081326360,1075359153006705988,1146109542311448881,1221412708350221295,1301555200917077564,1386841209790918160,1477593627401841065,1574155173049464231,1676889584318495163,1786182877393512321,1902444682464409655,2026109656231988424,2157638978306033015,2297521933855595772,2446277589964642994,2604456568449618192,2772642923320735272,2951456126092099392,3141553167924633698,3343630782315167666,3558427798198449883,3786727627749011319,4029360899723328744,4287208243275276543,4561203234157777833,4852335508972722159,5161654060562980865,5490270721028703484,5839363846764499651,6210182212920779201,6604049133121382808]
def yEo:List Int:=[1,1,2,3,5,7,11,15,22,30,42,56,77,101,135,176,231,297,385,490,627,792,1002,1255,1575,1958,2436,3010,3718,4565,5604,6842,8349,10143,12310,14883,17977,21637,26015,31185,37338,44583,53174,63261,75175,89134,105558,124754,147273,173525,204226,239943,281589,329931,386155,451276,526823,614154,715220,831820,966467,1121505,1300156,1505499,1741630,2012558,2323520,2679689,3087735,3554345,4087968,4697205,5392783,6185689,7089500,8118264,9289091,10619863,12132164,13848650,15796476,18004327,20506255,23338469,26543660,30167357,34262962,38887673,44108109,49995925,56634173,64112359,72533807,82010177,92669720,104651419,118114304,133230930,150198136,169229875,190569292,214481126,241265379,271248950,304801365,342325709,384276336,431149389,483502844,541946240,607163746,679903203,761002156,851376628,952050665,1064144451,1188908248,1327710076,1482074143,1653668665,1844349560,2056148051,2291320912,2552338241,2841940500,3163127352,3519222692,3913864295,4351078600,4835271870,5371315400,5964539504,6620830889,7346629512,8149040695,9035836076,10015581680,11097645016,12292341831,13610949895,15065878135,16670689208,18440293320,20390982757,22540654445,24908858009,27517052599,30388671978,33549419497,37027355200,40853235313,45060624581,49686288419,54770336320,60356673273,66493182085,73232243740,80630964739,88751778757,97662728488,107438159369,118159068288,129913904442,142798995658,156919474922,172389799747,189334821895,207890419187,228204731539,250438923518,274768615043,301384799334,330495496107,362326855387,397125068987,435157690492,476715847994,522115819463,571701590913,625846734660,684957367911,749474383152,819876872852,896684773707,980462826467,1071823708064,1171432611217,1280010943135,1398341624801,1527273452840,1667727226123,1820700885344,1987276596472,2168626792404,2366022365519,2580839761472,2814570446956,3068829232337,3345365212751,3646071513905,3972997937643,4328362362676,4714565350169,5134203470470,5590086170061,6085251325671,6622984723175,7206838194802,7840652100295,8528576461313,9275096902473,10085059246418,10963699444405,11916672175268,12950085359386,14070533391148,15285136927784,16601581463697,18028163192765,19573833749504,21248253043381,23061841119895,25025839008952,27152368781673,29454503612119,31946337277026,34643064785124,37561062756084,40717982181013,44132841305742,47826132318757,51819928615073,56138007442981,60805973704108,65851400897585,71303973898569,77195650879805,83560827879202,90436524734475,97862574661134,105881837684357,114540418880489,123887913292351,133977657026173,144867008167553,156617635529334,169295840741523,182972890089691,197725383686407,213635636627224,230792101941405,249289808175991,269230843778885,290724859177039,313889621318642,338851589459292,365746549755685,394720275263924,425929251868534,459541434405009,495737076770940,534709597754957,576666529890313,621830510450604,670440365624531,722752244204068,779040855931412,839600767827811,904747818067281,974820597621403,1050182063939230,1131221233597159,1218355023354835,1312030183005805,1412725395024799,1520953480762024,1637263794120668,1762244738618074,1896526495288094,2040783893192985,2195739517028556,2362166979368351,2540894459536834,2732808432207782,2938857695960290,3160057620139037,3397494729140737,3652331537643337,3925811765416690,4219265840172532,4534116827536428,4871886691229491,5234203033821871,5622806215725484,6039557014887637,6486444719216765,6965595827475499,7479283244737653,8029936162498131,8620150503600619,9252700137503996,9930548739948582,10656862519469338,11435023678454183,12268644849525221,13161584368680183,14117962645720391,15142179487053829,16238932653061540,17413237498600389,18670448002324929,20016279027142085,21456830142849660,22998610847079552,24648567543426887,26414112106687588,28303152424317223,30324124738341900,32486028209545877,34798461522787828,37271661991170646,39916546972806341,42744758096960174,45768708109085431,49001630873887351,52457634342405907,56151757068756948,60100028079696028,64319530733318020,68828470368678216,73646246437709776,78793528921145385,84292339780304864,90166139247736918,96439917774592126,103140293441268483,110295615721081334,117936075409246693,126093821685931432,134803086133745535,144100314764784483,154024307889163112,164616368974344920,175920462342268128,187983380957174915,200854924169994285,214588086785589742,229239259342779213,244868441097360363,261539465627490153,279320240688035233,298283002268560811,318504584631065875,340066706325131404,363056274120208654,387565704903795234,413693267665411690,441543445675090737,471227321174038443,502862982757311381,536575957982928114,572499671470312252,610775931261332854,651555443803029975,694998360587714110,741274856921803537,790565746147120716,843063129915610651,898971088158762048,958506409501439901,1021899366110665151,1089394533900742767,1161251662469065409,1237746595880588064,1319172249098641492,1405839641404223610,1498078992067440797,1596240879869896802,1700697472254305547,1811843825992229515,1930099265711892566,2055908842508338708,2189744879601034416,2332108607638311219,2483531897299806155,2644579092223508201,2815848950665918263,2997976699404634613,3191636209126702621,3397542295358794675,3616453155102336158,3849172943846679719,4096554504139089131,4359502251079576899,4638975227039480616,4935990331755961822,5251625741336136765,5587024523205253767,5943398461896440650,6322032103707372241,6724287036626100947]
def yEp:List Int:=[1,1,2,3,5,7,11,15,22,30,42,56,77,101,135,176,231,297,385,490,627,792,1002,1255,1575,1958,2436,3010,3718,4565,5604,6842,8349,10143,12310,14883,17977,21637,26015,31185,37338,44583,53174,63261,75175,89134,105558,124754,147273,173525,204226,239943,281589,329931,386155,451276,526823,614154,715220,831820,966467,1121505,1300156,1505499,1741630,2012558,2323520,2679689,3087735,3554345,4087968,4697205,5392783,6185689,7089500,8118264,9289091,10619863,12132164,13848650,15796476,18004327,20506255,23338469,26543660,30167357,34262962,38887673,44108109,49995925,56634173,64112359,72533807,82010177,92669720,104651419,118114304,133230930,150198136,169229875,190569292,214481126,241265379,271248950,304801365,342325709,384276336,431149389,483502844,541946240,607163746,679903203,761002156,851376628,952050665,1064144451,1188908248,1327710076,1482074143,1653668665,1844349560,2056148051,2291320912,2552338241,2841940500,3163127352,3519222692,3913864295,4351078600,4835271870,5371315400,5964539504,6620830889,7346629512,8149040695,9035836076,10015581680,11097645016,12292341831,13610949895,15065878135,16670689208,18440293320,20390982757,22540654445,24908858009,27517052599,30388671978,33549419497,37027355200,40853235313,45060624582,49686288421,54770336324,60356673280,66493182097,73232243759,80630964769,88751778802,97662728555,107438159466,118159068427,129913904637,142798995930,156919475295,172389800255,189334822579,207890420102,228204732751,250438925115,274768617130,301384802048,330495499613,362326859895,397125074750,435157697830,476715857290,522115831195,571701605655,625846753120,684957390936,749474411781,819876908323,896684817527,980462880430,1071823774337,1171432692373,1280011042268,1398341745571,1527273599625,1667727404093,1820701100652,1987276856363,2168627105469,2366022741845,2580840212973,2814570987591,3068829878530,3345365983698,3646072432125,3972999029388,4328363658646,4714566886081,5134205287969,5590088317488,6085253859248,6622987708021,7206841706460,7840656226092,8528581302308,9275102575258,10085065885628,10963707205064,11916681236006,12950095925522,14070545698779,15285151247797,16601598106999,18028182515459,19573856159548,21248279007280,23061871171135,25025873756605,27152408921107,29454549935987,31946390688819,34643126313223,37561133570838,40718063612620,44132934865795,47826239722895,51820051810083,56138148635476,60806135394509,65851585916312,71304185448646,77195892582356,83561103826738,90436839548047,97862933556800,105882246544763,114540884337730,123888442817368,133978259031823,144867692120119,156618412076445,169296721850919,182973889207833,197726515910725,213636918902405,230793553272936,249291449872588,269232699716665,290726956098609,313891989159231,338854261715091,365749563885917,394723673143669,425933080283514,459545745607613,495741929087964,534715056269260,576672667186314,621837407448605,670448112493661,722760941382233,779050615241470,839611713722597,904760088992454,974834347532984,1050197463965131,1131238473884652,1218374315093174,1312051760672273,1412749518843819,1520980439432044,1637293907799776,1762278362230783,1896564022145235,2040825758996562,2195786204255353,2362219022114072,2540952448817732,2732873021813314,2938929608856865,3160137655532647,3397583770203066,3652430560024384,3925921846555080,4219388169544644,4534252717862510,4872037590799535,5234370539968764,5622992089631890,6039763197766623,6486673350080476,6965849262545800,7479564078746249,8030247251947775,8620494992271624,9253081484300326,9930970749410933,10657329375075145,11435539979083031,12269215649241442,13162215220268316,14118659648164908,15142949337465761,16239782703288841,17414175817103629,18671483441610458,20017421297423293,21458089892296036,22999999749428326,24650098393394851,26415798924080022,28305010567365248,30326171027303961,32488281061217575,34800941097117608,37274390350756190,39919548256658544,42748058709465198,45772336925767618,49005619465089224,52462017216739490,56156571937657786,60105316145227349,64325337000811060,68834843986691760,73653241067196379,78801203136697255,84300757505716255,90175370229209870,96450038094233495,103151386074725365,110307771142446736,117949392247686256,126108407437723623,134819057934886957,144117800228509374,154043446014333437,164637311129829243,175943373334197632,188008440185085102,200882326879820836,214618045426565967,229272005037444219,244904225232937497,261578561579279719,279362945684482546,298329639410303157,318555505075249583,340122291649209506,363116938878405759,387631899392651697,413765480913782739,441622208677555055,471313210385630629,502956623871453067,536678030013415613,572610911162602585,610897137857380700,651687484188798921,695142174851542072,741431464357202421,790736251732731801,843248731311026330,899173083254166150,958726204565683095,1022138484581765297,1089654625870202587,1161534514910963607,1238054143684626229,1319506586966114749,1406203036675050553,1498473898546449750,1596669952730768170,1701163584099993709,1812350084162047479,1930649030926287221,2056505748955064278,2190392856567783823,2332811902811002705,2484295101847711022,2645407167808176113,2816747258513580867,2998951031599397896,3192692822285436260,3398687946868318138,3617695142104162661,3850519145176583331,4098013425434648284,4361083073293481244,4640687858603715176,4937845464669541471,5253634911458112006,5589200175065553740,5945754018348145319,6324582040778581349,6727046963942896825]
def yEq:List Int:=[1,1,2,3,5,7,11,15,22,30,42,56,77,101,135,176,231,297,385,490,627,792,1002,1255,1575,1958,2436,3010,3718,4565,5604,6842,8349,10143,12310,14883,17977,21637,26015,31185,37338,44583,53174,63261,75175,89134,105558,124754,147273,173525,204226,239943,281589,329931,386155,451276,526823,614154,715220,831820,966467,1121505,1300156,1505499,1741630,2012558,2323520,2679689,3087735,3554345,4087968,4697205,5392783,6185689,7089500,8118264,9289091,10619863,12132164,13848650,15796476,18004327,20506255,23338469,26543660,30167357,34262962,38887673,44108109,49995925,56634173,64112359,72533807,82010177,92669720,104651419,118114304,133230930,150198136,169229875,190569292,214481126,241265379,271248950,304801365,342325709,384276336,431149389,483502844,541946240,607163746,679903203,761002156,851376628,952050665,1064144451,1188908248,1327710076,1482074143,1653668665,1844349560,2056148051,2291320912,2552338241,2841940500,3163127352,3519222692,3913864295,4351078600,4835271870,5371315400,5964539504,6620830889,7346629512,8149040695,9035836076,10015581680,11097645016,12292341831,13610949895,15065878135,16670689208,18440293320,20390982757,22540654445,24908858009,27517052599,30388671978,33549419497,37027355200,40853235313,45060624582,49686288421,54770336324,60356673280,66493182097,73232243759,80630964769,88751778802,97662728555,107438159466,118159068427,129913904637,142798995930,156919475295,172389800255,189334822579,207890420102,228204732751,250438925115,274768617130,301384802048,330495499613,362326859895,397125074750,435157697830,476715857290,522115831195,571701605655,625846753120,684957390936,749474411781,819876908323,896684817527,980462880430,1071823774337,1171432692373,1280011042268,1398341745571,1527273599625,1667727404093,1820701100652,1987276856363,2168627105469,2366022741845,2580840212973,2814570987591,3068829878530,3345365983698,3646072432125,3972999029388,4328363658647,4714566886083,5134205287973,5590088317495,6085253859260,6622987708040,7206841706490,7840656226137,8528581302375,9275102575355,10085065885767,10963707205259,11916681236278,12950095925895,14070545699287,15285151248481,16601598107914,18028182516671,19573856161145,21248279009367,23061871173849,25025873760111,27152408925615,29454549941750,31946390696157,34643126322519,37561133582570,40718063627362,44132934884255,47826239745920,51820051838712,56138148670947,60806135438329,65851585970275,71304185514919,77195892663512,83561103925871,90436839668817,97862933703585,105882246722733,114540884553038,123888443077259,133978259344888,144867692496445,156618412527946,169296722391554,182973889854026,197726516681672,213636919820625,230793554364681,249291451168558,269232701252577,290726957916108,313891991306658,338854264248668,365749566870763,394723676655327,425933084409311,459545750448608,495741934760749,534715062908470,576672674946973,621837416509343,670448123059797,722760953689864,779050629561483,839611730365899,904760108315148,974834369943028,1050197489929030,1131238503935892,1218374349840827,1312051800811707,1412749565167687,1520980492843837,1637293969327875,1762278433045537,1896564103576842,2040825852556615,2195786311659491,2362219145309082,2540952590010227,2732873183503715,2938929793875592,3160137867082724,3397584011905617,3652430835971920,3925922161368652,4219388528440310,4534253126722916,4872038056256776,5234371069493781,5622992691637540,6039763881719189,6486674126627587,6965850143655196,7479565077864391,8030248384172093,8620496274546805,9253082935631857,9930972391107530,10657331231012925,11435542076004601,12269218017082031,13162217892524115,14118662662295140,15142952735345506,16239786531703821,17414180128306233,18671488293927482,20017426755937596,21458096029592037,23000006646426327,24650106140263981,26415807621258187,28305020326675306,30326181973198747,32488293332142748,34800954847029189,37274405750782091,39919565496946037,42748078001203537,45772358503434086,49005643588908244,52462044175409510,56156602051336894,60105349768840058,64325374527668201,68834885852495337,73653287754423176,78801255179442976,84300815494997153,90175434818815402,96450110007130070,103151466110118975,110307860183509065,117949491270067303,126108517518862013,134819180264259069,144117936118835456,154043596913903481,164637478635976136,175943559208104038,188008646367964088,200882555510684547,214618298861636268,229272285871452815,244904536322387141,261578906067950724,279363327031278876,298330061419765508,318555971930855390,340122807949838355,363117509678121982,387632530244239835,413766177916227265,441622978527967004,471314060435857958,502957562189956354,536679065452701215,572612053432883907,610898397606827246,651688873091147948,695143705701510401,741433151174595380,790738109875780564,843250777599989424,899175336105839270,958728684140014823,1022141212941353475,1089657627154058335,1161537815523473352,1238057772501314675,1319510575557324849,1406207419549394903,1498478713415364578,1596675240796317596,1701169390367510035,1812356457780090860,1930656025555811852,2056513423170664445,2190401274293256267,2332821133792552583,2484305222167448915,2645418260441753741,2816759413935096756,2998964348438024478,3192707408037460094,3398703918669745712,3617712627568239965,3850538283302186593,4098034367590662990,4361105984286058993,4640712917832415637,4937872867380329332,5253664870100254831,5589232920761631557,5945789802485429688,6324621136732429919,6727089668941822320]
def yEr:List Int:=[1,1,2,3,5,7,11,15,22,30,42,56,77,101,135,176,231,297,385,490,627,792,1002,1255,1575,1958,2436,3010,3718,4565,5604,6842,8349,10143,12310,14883,17977,21637,26015,31185,37338,44583,53174,63261,75175,89134,105558,124754,147273,173525,204226,239943,281589,329931,386155,451276,526823,614154,715220,831820,966467,1121505,1300156,1505499,1741630,2012558,2323520,2679689,3087735,3554345,4087968,4697205,5392783,6185689,7089500,8118264,9289091,10619863,12132164,13848650,15796476,18004327,20506255,23338469,26543660,30167357,34262962,38887673,44108109,49995925,56634173,64112359,72533807,82010177,92669720,104651419,118114304,133230930,150198136,169229875,190569292,214481126,241265379,271248950,304801365,342325709,384276336,431149389,483502844,541946240,607163746,679903203,761002156,851376628,952050665,1064144451,1188908248,1327710076,1482074143,1653668665,1844349560,2056148051,2291320912,2552338241,2841940500,3163127352,3519222692,3913864295,4351078600,4835271870,5371315400,5964539504,6620830889,7346629512,8149040695,9035836076,10015581680,11097645016,12292341831,13610949895,15065878135,16670689208,18440293320,20390982757,22540654445,24908858009,27517052599,30388671978,33549419497,37027355200,40853235313,45060624582,49686288421,54770336324,60356673280,66493182097,73232243759,80630964769,88751778802,97662728555,107438159466,118159068427,129913904637,142798995930,156919475295,172389800255,189334822579,207890420102,228204732751,250438925115,274768617130,301384802048,330495499613,362326859895,397125074750,435157697830,476715857290,522115831195,571701605655,625846753120,684957390936,749474411781,819876908323,896684817527,980462880430,1071823774337,1171432692373,1280011042268,1398341745571,1527273599625,1667727404093,1820701100652,1987276856363,2168627105469,2366022741845,2580840212973,2814570987591,3068829878530,3345365983698,3646072432125,3972999029388,4328363658647,4714566886083,5134205287973,5590088317495,6085253859260,6622987708040,7206841706490,7840656226137,8528581302375,9275102575355,10085065885767,10963707205259,11916681236278,12950095925895,14070545699287,15285151248481,16601598107914,18028182516671,19573856161145,21248279009367,23061871173849,25025873760111,27152408925615,29454549941750,31946390696157,34643126322519,37561133582570,40718063627362,44132934884255,47826239745920,51820051838712,56138148670947,60806135438329,65851585970275,71304185514919,77195892663512,83561103925871,90436839668817,97862933703585,105882246722733,114540884553038,123888443077259,133978259344888,144867692496445,156618412527946,169296722391554,182973889854026,197726516681672,213636919820625,230793554364681,249291451168559,269232701252579,290726957916112,313891991306665,338854264248680,365749566870782,394723676655357,425933084409356,459545750448675,495741934760846,534715062908609,576672674947168,621837416509615,670448123060170,722760953690372,779050629562167,839611730366814,904760108316360,974834369944625,1050197489931117,1131238503938606,1218374349844333,1312051800816215,1412749565173450,1520980492851175,1637293969337171,1762278433057269,1896564103591584,2040825852575075,2195786311682516,2362219145337711,2540952590045698,2732873183547535,2938929793929555,3160137867148997,3397584011986773,3652430836071053,3925922161489422,4219388528587095,4534253126900886,4872038056472084,5234371069753672,5622992691950605,6039763882095515,6486674127079088,6965850144195831,7479565078510584,8030248384943040,8620496275465025,9253082936723602,9930972392403500,10657331232548837,11435542077822100,12269218019229458,13162217895057692,14118662665279986,15142952738857164,16239786535829618,17414180133147228,18671488299600267,20017426762576806,21458096037352696,23000006655487065,24650106150830117,26415807633565818,28305020340995319,30326181989842049,32488293351465442,34800954869439233,37274405776745990,39919565526997277,42748078035951190,45772358543573520,49005643635232112,52462044228821303,56156602112864993,60105349839654812,64325374609099808,68834885946055390,73653287861827314,78801255302637986,84300815636189648,90175434980505803,96450110192148797,103151466321669052,110307860425211616,117949491546014839,126108517833675585,134819180623154735,144117936527695862,154043597379360722,164637479165501153,175943559810109688,188008647051916654,200882556287231658,214618299742745664,229272286870570957,244904537454611459,261578907350225905,279363328482610407,298330063061462105,318555973786793170,340122810046759925,363117512045962571,387632532916495634,413766180930357497,441622981925846749,471314064264272938,502957566501158958,536679070305018239,572612058891398210,610898403744123247,651688879988145949,695143713448379531,741433159871773545,790738119635090622,843250788545884210,899175348376764443,958728697889926404,1022141228341379376,1089657644394345828,1161537834815211691,1238057794078981143,1319510599681143869,1406207446508064923,1498478743529043686,1596675274419930305,1701169427894367176,1812356499645894437,1930656072243038649,2056513475213410166,2190401332282537165,2332821198382158115,2484305294080345490,2645418340477147351,2816759502976159085,2998964447460405525,3192707518118598484,3398704040999117824,3617712763458566047,3850538434201756637,4098034535096809883,4361106170159965399,4640713124015294623,4937873096011193043,5253665123535325132,5589233201595640153,5945790113574879332,6324621481221100924,6727090050288618650]
def yEs:List Int:=[1,1,2,3,5,7,11,15,22,30,42,56,77,101,135,176,231,297,385,490,627,792,1002,1255,1575,1958,2436,3010,3718,4565,5604,6842,8349,10143,12310,14883,17977,21637,26015,31185,37338,44583,53174,63261,75175,89134,105558,124754,147273,173525,204226,239943,281589,329931,386155,451276,526823,614154,715220,831820,966467,1121505,1300156,1505499,1741630,2012558,2323520,2679689,3087735,3554345,4087968,4697205,5392783,6185689,7089500,8118264,9289091,10619863,12132164,13848650,15796476,18004327,20506255,23338469,26543660,30167357,34262962,38887673,44108109,49995925,56634173,64112359,72533807,82010177,92669720,104651419,118114304,133230930,150198136,169229875,190569292,214481126,241265379,271248950,304801365,342325709,384276336,431149389,483502844,541946240,607163746,679903203,761002156,851376628,952050665,1064144451,1188908248,1327710076,1482074143,1653668665,1844349560,2056148051,2291320912,2552338241,2841940500,3163127352,3519222692,3913864295,4351078600,4835271870,5371315400,5964539504,6620830889,7346629512,8149040695,9035836076,10015581680,11097645016,12292341831,13610949895,15065878135,16670689208,18440293320,20390982757,22540654445,24908858009,27517052599,30388671978,33549419497,37027355200,40853235313,45060624582,49686288421,54770336324,60356673280,66493182097,73232243759,80630964769,88751778802,97662728555,107438159466,118159068427,129913904637,142798995930,156919475295,172389800255,189334822579,207890420102,228204732751,250438925115,274768617130,301384802048,330495499613,362326859895,397125074750,435157697830,476715857290,522115831195,571701605655,625846753120,684957390936,749474411781,819876908323,896684817527,980462880430,1071823774337,1171432692373,1280011042268,1398341745571,1527273599625,1667727404093,1820701100652,1987276856363,2168627105469,2366022741845,2580840212973,2814570987591,3068829878530,3345365983698,3646072432125,3972999029388,4328363658647,4714566886083,5134205287973,5590088317495,6085253859260,6622987708040,7206841706490,7840656226137,8528581302375,9275102575355,10085065885767,10963707205259,11916681236278,12950095925895,14070545699287,15285151248481,16601598107914,18028182516671,19573856161145,21248279009367,23061871173849,25025873760111,27152408925615,29454549941750,31946390696157,34643126322519,37561133582570,40718063627362,44132934884255,47826239745920,51820051838712,56138148670947,60806135438329,65851585970275,71304185514919,77195892663512,83561103925871,90436839668817,97862933703585,105882246722733,114540884553038,123888443077259,133978259344888,144867692496445,156618412527946,169296722391554,182973889854026,197726516681672,213636919820625,230793554364681,249291451168559,269232701252579,290726957916112,313891991306665,338854264248680,365749566870782,394723676655357,425933084409356,459545750448675,495741934760846,534715062908609,576672674947168,621837416509615,670448123060170,722760953690372,779050629562167,839611730366814,904760108316360,974834369944625,1050197489931117,1131238503938606,1218374349844333,1312051800816215,1412749565173450,1520980492851175,1637293969337171,1762278433057269,1896564103591584,2040825852575075,2195786311682516,2362219145337711,2540952590045698,2732873183547535,2938929793929555,3160137867148997,3397584011986773,3652430836071053,3925922161489422,4219388528587095,4534253126900886,4872038056472084,5234371069753672,5622992691950605,6039763882095515,6486674127079088,6965850144195831,7479565078510584,8030248384943040,8620496275465025,9253082936723602,9930972392403501,10657331232548839,11435542077822104,12269218019229465,13162217895057704,14118662665280005,15142952738857194,16239786535829663,17414180133147295,18671488299600364,20017426762576945,21458096037352891,23000006655487337,24650106150830490,26415807633566326,28305020340996003,30326181989842964,32488293351466654,34800954869440830,37274405776748077,39919565526999991,42748078035954696,45772358543578028,49005643635237875,52462044228828641,56156602112874289,60105349839666544,64325374609114550,68834885946073850,73653287861850339,78801255302666615,84300815636225119,90175434980549623,96450110192202760,103151466321735325,110307860425292772,117949491546113972,126108517833796355,134819180623301520,144117936527873832,154043597379576030,164637479165761044,175943559810422753,188008647052292980,200882556287683159,214618299743286299,229272286871217150,244904537455382406,261578907351144125,279363328483702152,298330063062758075,318555973788329082,340122810048577424,363117512048109998,387632532919029211,413766180933342343,441622981929358407,471314064268398735,502957566505999953,536679070310691024,572612058898037420,610898403751883906,651688879997206687,695143713458945667,741433159884081176,790738119649410635,843250788562527512,899175348396087137,958728697912336448,1022141228367343275,1089657644424397068,1161537834849959344,1238057794119120577,1319510599727467737,1406207446561476716,1498478743590571785,1596675274490745059,1701169427975798783,1812356499739454490,1930656072350442787,2056513475336605176,2190401332423729660,2332821198543848516,2484305294265364217,2645418340688697428,2816759503217861636,2998964447736353061,3192707518433412056,3398704041358013490,3617712763867426453,3850538434667213878,4098034535626334900,4361106170761971049,4640713124699247189,4937873096787740154,5253665124416434528,5589233202594758295,5945790114707103650,6324621482503376105,6727090051739950181]
def yEt:List Int:=[1,1,2,3,5,7,11,15,22,30,42,56,77,101,135,176,231,297,385,490,627,792,1002,1255,1575,1958,2436,3010,3718,4565,5604,6842,8349,10143,12310,14883,17977,21637,26015,31185,37338,44583,53174,63261,75175,89134,105558,124754,147273,173525,204226,239943,281589,329931,386155,451276,526823,614154,715220,831820,966467,1121505,1300156,1505499,1741630,2012558,2323520,2679689,3087735,3554345,4087968,4697205,5392783,6185689,7089500,8118264,9289091,10619863,12132164,13848650,15796476,18004327,20506255,23338469,26543660,30167357,34262962,38887673,44108109,49995925,56634173,64112359,72533807,82010177,92669720,104651419,118114304,133230930,150198136,169229875,190569292,214481126,241265379,271248950,304801365,342325709,384276336,431149389,483502844,541946240,607163746,679903203,761002156,851376628,952050665,1064144451,1188908248,1327710076,1482074143,1653668665,1844349560,2056148051,2291320912,2552338241,2841940500,3163127352,3519222692,3913864295,4351078600,4835271870,5371315400,5964539504,6620830889,7346629512,8149040695,9035836076,10015581680,11097645016,12292341831,13610949895,15065878135,16670689208,18440293320,20390982757,22540654445,24908858009,27517052599,30388671978,33549419497,37027355200,40853235313,45060624582,49686288421,54770336324,60356673280,66493182097,73232243759,80630964769,88751778802,97662728555,107438159466,118159068427,129913904637,142798995930,156919475295,172389800255,189334822579,207890420102,228204732751,250438925115,274768617130,301384802048,330495499613,362326859895,397125074750,435157697830,476715857290,522115831195,571701605655,625846753120,684957390936,749474411781,819876908323,896684817527,980462880430,1071823774337,1171432692373,1280011042268,1398341745571,1527273599625,1667727404093,1820701100652,1987276856363,2168627105469,2366022741845,2580840212973,2814570987591,3068829878530,3345365983698,3646072432125,3972999029388,4328363658647,4714566886083,5134205287973,5590088317495,6085253859260,6622987708040,7206841706490,7840656226137,8528581302375,9275102575355,10085065885767,10963707205259,11916681236278,12950095925895,14070545699287,15285151248481,16601598107914,18028182516671,19573856161145,21248279009367,23061871173849,25025873760111,27152408925615,29454549941750,31946390696157,34643126322519,37561133582570,40718063627362,44132934884255,47826239745920,51820051838712,56138148670947,60806135438329,65851585970275,71304185514919,77195892663512,83561103925871,90436839668817,97862933703585,105882246722733,114540884553038,123888443077259,133978259344888,144867692496445,156618412527946,169296722391554,182973889854026,197726516681672,213636919820625,230793554364681,249291451168559,269232701252579,290726957916112,313891991306665,338854264248680,365749566870782,394723676655357,425933084409356,459545750448675,495741934760846,534715062908609,576672674947168,621837416509615,670448123060170,722760953690372,779050629562167,839611730366814,904760108316360,974834369944625,1050197489931117,1131238503938606,1218374349844333,1312051800816215,1412749565173450,1520980492851175,1637293969337171,1762278433057269,1896564103591584,2040825852575075,2195786311682516,2362219145337711,2540952590045698,2732873183547535,2938929793929555,3160137867148997,3397584011986773,3652430836071053,3925922161489422,4219388528587095,4534253126900886,4872038056472084,5234371069753672,5622992691950605,6039763882095515,6486674127079088,6965850144195831,7479565078510584,8030248384943040,8620496275465025,9253082936723602,9930972392403501,10657331232548839,11435542077822104,12269218019229465,13162217895057704,14118662665280005,15142952738857194,16239786535829663,17414180133147295,18671488299600364,20017426762576945,21458096037352891,23000006655487337,24650106150830490,26415807633566326,28305020340996003,30326181989842964,32488293351466654,34800954869440830,37274405776748077,39919565526999991,42748078035954696,45772358543578028,49005643635237875,52462044228828641,56156602112874289,60105349839666544,64325374609114550,68834885946073850,73653287861850339,78801255302666615,84300815636225119,90175434980549623,96450110192202760,103151466321735325,110307860425292772,117949491546113972,126108517833796355,134819180623301520,144117936527873832,154043597379576030,164637479165761044,175943559810422753,188008647052292980,200882556287683159,214618299743286299,229272286871217150,244904537455382406,261578907351144125,279363328483702152,298330063062758076,318555973788329084,340122810048577428,363117512048110005,387632532919029223,413766180933342362,441622981929358437,471314064268398780,502957566506000020,536679070310691121,572612058898037559,610898403751884101,651688879997206959,695143713458946040,741433159884081684,790738119649411319,843250788562528427,899175348396088349,958728697912338045,1022141228367345362,1089657644424399782,1161537834849962850,1238057794119125085,1319510599727473500,1406207446561484054,1498478743590581081,1596675274490756791,1701169427975813525,1812356499739472950,1930656072350465812,2056513475336633805,2190401332423765131,2332821198543892336,2484305294265418180,2645418340688763701,2816759503217942792,2998964447736452194,3192707518433532826,3398704041358160275,3617712763867604423,3850538434667429186,4098034535626594791,4361106170762284114,4640713124699623515,4937873096788191655,5253665124416975163,5589233202595404488,5945790114707874597,6324621482504294325,6727090051741041926]
theorem yEu:z4v 400 50 = cq50:=by decide +kernel
theorem yAp:zDo cq50 50 50 = yEn:=by decide +kernel
theorem yAo:z4v 400 100 = yEn:=by rw [<- yAp,<- yEu,z5w]
theorem yAr:zDo yEn 100 50 = yEo:=by decide +kernel
theorem yAq:z4v 400 150 = yEo:=by rw [<- yAr,<- yAo,z5w]
theorem yAt:zDo yEo 150 50 = yEp:=by decide +kernel
theorem yAs:z4v 400 200 = yEp:=by rw [<- yAt,<- yAq,z5w]
theorem yAv:zDo yEp 200 50 = yEq:=by decide +kernel
theorem yAu:z4v 400 250 = yEq:=by rw [<- yAv,<- yAs,z5w]
theorem yAx:zDo yEq 250 50 = yEr:=by decide +kernel
theorem yAw:z4v 400 300 = yEr:=by rw [<- yAx,<- yAu,z5w]
theorem yAz:zDo yEr 300 50 = yEs:=by decide +kernel
theorem yAy:z4v 400 350 = yEs:=by rw [<- yAz,<- yAw,z5w]
theorem yBb:zDo yEs 350 50 = yEt:=by decide +kernel
theorem yBa:z4v 400 400 = yEt:=by rw [<- yBb,<- yAy,z5w]
theorem yGn:(wayR 400).reverse = yEt:=by decide +kernel
theorem yDj:(wayR 400).reverse = z4v 400 400:=by rw [yGn,yBa]
theorem zGz:∀ (L q:List Int),(srow L q).length = L.length
 | [],_=>rfl
 | x :: r,[]=>by rw [srow,List.length_cons,zGz r [],List.length_cons]
 | x :: r,f :: q=>by rw [srow,List.length_cons,zGz r _,List.length_cons]
theorem zHu (n:Nat):∀ k,(z4v n k).length = n + 1
 | 0=>by simp [z4v]
 | k + 1=>by rw [z4v,zGp _ _ _ (by simp [List.replicate_succ]),zGz,zHu n k]
theorem y9u:∀ (L:List Int) (q:List Int) (p j:Nat),q.length = p -> 1 <= p -> j < L.length -> (srow L q).getD j 0 = L.getD j 0 + (if j < p then q.getD j 0 else (srow L q).getD (j - p) 0)
 | [],_,_,_,_,_,h=>absurd h (by simp)
 | x :: r,[],p,_,hp,h1,_=>absurd hp (by simp; omega)
 | x :: r,f :: q,p,0,hp,h1,_=>by
  rw [if_pos (by omega)]
  rfl
 | x :: r,f :: q,p,j + 1,hp,h1,h=>by
  rw [List.length_cons] at hp
  have ih:=y9u r (q ++ [x + f]) p j (by rw [List.length_append]; exact hp) h1 (by rw [List.length_cons] at h; omega)
  rw [srow,List.getD_cons_succ,List.getD_cons_succ,ih]
  congr 1
  rcases Nat.lt_trichotomy (j + 1) p with c | c | c
  ·rw [if_pos (by omega),if_pos c,List.getD_cons_succ]
   simp only [List.getD_eq_getElem?_getD]
   rw [List.getElem?_append_left (by omega)]
  ·rw [if_pos (by omega),if_neg (by omega),show j + 1 - p = 0 by omega,List.getD_cons_zero]
   simp only [List.getD_eq_getElem?_getD]
   rw [List.getElem?_append_right (by omega),show j - q.length = 0 by omega]
   rfl
  ·rw [if_neg (by omega),if_neg (by omega),show j + 1 - p = (j - p) + 1 by omega,List.getD_cons_succ]
theorem y1z (n k j:Nat) (h:j <= n):(z4v n (k + 1)).getD j 0 = (z4v n k).getD j 0 + (if k + 1 <= j then (z4v n (k + 1)).getD (j - (k + 1)) 0 else 0):=by
 have e:z4v n (k + 1) = srow (z4v n k) (List.replicate (k + 1) 0):=by
  rw [z4v,zGp _ _ _ (by simp [List.replicate_succ])]
  simp
 rw [e,y9u _ _ (k + 1) j (by simp) (by omega) (by rw [zHu]; omega)]
 congr 1
 by_cases c:j < k + 1
 ·rw [if_pos c,if_neg (by omega)]
  simp only [List.getD_eq_getElem?_getD]
  rw [List.getElem?_replicate,if_pos c]
  rfl
 ·rw [if_neg c,if_pos (by omega)]
theorem zHt (L:List Int) (p:Nat) (hp:1 <= p):∀ i j,j < L.length -> (zAf L p i).getD j 0 = L.getD j 0 + (if p <= j /\ j < p + i then (zAf L p i).getD (j - p) 0 else 0)
 | 0,j,_=>by rw [if_neg (by omega),Int.add_zero,zAf]
 | i + 1,j,h=>by
  have ih:=zHt L p hp i j h
  have hl:=z9m L p i
  have es:∀ (X:List Int) (a b:Nat) (v:Int),b < X.length -> (X.set a v).getD b 0 = if a = b then v else X.getD b 0:=fun X a b v hb=>by
   simp only [List.getD_eq_getElem?_getD]
   rw [List.getElem?_set]
   by_cases c:a = b
   ·rw [if_pos c,if_pos c,if_pos (by omega)]
    rfl
   ·rw [if_neg c,if_neg c]
  rw [zAf,y6o,es _ _ _ _ (by omega)]
  by_cases c:p + i = j
  ·subst c
   rw [if_pos rfl,ih,if_neg (by omega),Int.add_zero,if_pos (by omega),es _ _ _ _ (by omega),if_neg (by omega)]
  ·rw [if_neg c,ih]
   congr 1
   by_cases d:p <= j /\ j < p + i
   ·rw [if_pos d,if_pos (by omega),es _ _ _ _ (by omega),if_neg (by omega)]
   ·rw [if_neg d,if_neg (by omega)]
theorem y3w (n k j:Nat) (h:j <= n):(z4u n (k + 1)).getD j 0 = (z4u n k).getD j 0 + (if k + 1 <= j then (z4u n (k + 1)).getD (j - (k + 1)) 0 else 0):=by
 rw [z4u,zHt _ _ (by omega) _ j (by rw [zBr]; omega)]
 congr 1
 by_cases c:k + 1 <= j
 ·rw [if_pos c,if_pos (by omega)]
 ·rw [if_neg c,if_neg (by omega)]
theorem yCq (f g a b:Nat -> Int) (p N:Nat) (hp:1 <= p) (hf:∀ j,j <= N -> f j = a j + (if p <= j then f (j - p) else 0)) (hg:∀ j,j <= N -> g j = b j + (if p <= j then g (j - p) else 0)) (h:∀ j,j <= N -> a j = b j):∀ j,j <= N -> f j = g j:=fun j=>by
 induction j using Nat.strongRecOn with
 | ind j ih =>
  intro hj
  rw [hf j hj,hg j hj,h j hj]
  congr 1
  by_cases c:p <= j
  ·rw [if_pos c,if_pos c,ih (j - p) (by omega) (by omega)]
  ·rw [if_neg c,if_neg c]
theorem yDl (n N:Nat) (hn:n <= N):∀ k j,j <= n -> (z4u n k).getD j 0 = (z4v N k).getD j 0
 | 0,0,_=>rfl
 | 0,j + 1,h=>by
  rw [z4u,z4v,List.getD_cons_succ,List.getD_cons_succ]
  simp only [List.getD_eq_getElem?_getD]
  rw [List.getElem?_replicate,List.getElem?_replicate,if_pos (by omega),if_pos (by omega)]
 | k + 1,j,h=>yCq _ _ (fun j=>(z4u n k).getD j 0) (fun j=>(z4v N k).getD j 0) (k + 1) n (by omega) (fun j hj=>y3w n k j hj) (fun j hj=>y1z N k j (by omega)) (fun j hj=>yDl n N hn k j hj) j h
theorem zEl (N n j:Nat) (h:j <= n) (hn:n <= N):∀ d,(z4v N (n + d)).getD j 0 = (z4v N n).getD j 0
 | 0=>rfl
 | d + 1=>by
  rw [<- Nat.add_assoc,y1z N (n + d) j (by omega),if_neg (by omega),Int.add_zero,zEl N n j h hn d]
theorem yAm {n j:Nat} (hn:n <= 400) (hj:j <= n):(z4u n n).getD j 0 = (wayR j).reverse.getD j 0:=by
 rw [yDl n 400 hn n j hj,<- zEl 400 n j hj hn (400 - n),show n + (400 - n) = 400 by omega,<- yDj,show (400:Nat) = j + (400 - j) by omega,zHd j _ j (Nat.le_refl _)]
theorem yIi {R:List Int} {n p:Nat} (hl:R.length = n) (h1:1 <= p) (h2:p <= n):(R.reverse.map V.int)[n - p]? = some (.int (zCr R (p - 1))):=by
 rw [List.getElem?_map,List.getElem?_reverse (by omega),y2t,show R.length - 1 - (n - p) = p - 1 by omega]
 simp only [List.getD_eq_getElem?_getD]
 rw [List.getElem?_eq_getElem (by omega)]
 rfl
theorem yAf {R:List Int} {n:Nat} {q:Int} (hl:R.length = n + 1) (h1:1 <= q) (h2:q <= ((n + 1:Nat):Int)):atI (R.reverse.map V.int) (((n + 1:Nat):Int) - q) = some (.int (zCr R (q - 1).toNat)):=by
 obtain ⟨p,rfl⟩:∃ p:Nat,q = (p:Int):=⟨q.toNat,by omega⟩
 rw [show ((n + 1:Nat):Int) - (p:Int) = ((n + 1 - p:Nat):Int) by omega,show ((p:Int) - 1).toNat = p - 1 by omega]
 exact z1l (yIi hl (by omega) (by omega))
theorem y4s (R:List Int) (n:Int):∀ f m s t,¬ zDb m <= n -> zIx R n f m s t = t
 | 0,_,_,_,_=>rfl
 | f + 1,m,s,t,h=>by rw [zIx,if_neg h]
end L2
namespace L2
open PySem PySem.Spec PyProof.Rows
def sgnG (c:List Int):Int:=if c.length % 2 = 0 then 1 else -1
def isCh (n:Nat):Int -> List Int -> Bool
 | _,[]=>true
 | l,x :: r=>if x < l \/ (n:Int) <= x then false else isCh n (x + 1) r
def z3b (rule:List (List Int)) (pc:List Int × List Int):Bool:=isCh rule.length 0 pc.2 && pc.2.all (fun j=>lies (rule.getD j.toNat []) pc.1)
def z2v (rule:List (List Int)) (pc:List Int × List Int):Option (List Int × List Int):=match z1m rule pc.1 with
 | none=>none
 | some m=>if m ∈ pc.2 then some (pc.1,pc.2.tail) else some (pc.1,m :: pc.2)
theorem z5j {n:Nat}:∀ {l:Int} {c:List Int},isCh n l c = true -> ∀ x ∈ c,l <= x /\ x < n
 | _,[],_,_,h=>by cases h
 | l,y :: r,e,x,h=>by
  rw [isCh] at e
  by_cases c:y < l \/ (n:Int) <= y
  ·rw [if_pos c] at e; cases e
  ·rw [if_neg c] at e
   rcases List.mem_cons.mp h with rfl | h
   ·omega
   ·have:=z5j e x h
    omega
def y0w (l:Int):List Int -> Int
 | []=>l
 | x :: r=>y0w (x + 1) r
theorem zEq (l:Int) (x:Int):∀ c:List Int,y0w l (c ++ [x]) = x + 1
 | []=>rfl
 | y :: r=>zEq (y + 1) x r
theorem zFs (n:Nat):∀ (l:Int) (a b:List Int),isCh n l (a ++ b) = (isCh n l a && isCh n (y0w l a) b)
 | l,[],b=>by rw [List.nil_append,isCh,Bool.true_and]; rfl
 | l,x :: r,b=>by
  rw [List.cons_append,isCh,isCh,y0w]
  by_cases c:x < l \/ (n:Int) <= x
  ·rw [if_pos c,if_pos c,Bool.false_and]
  ·rw [if_neg c,if_neg c,zFs n (x + 1) r b]
theorem z8u (z:Int):∀ ns:List Int,inV (.int z) (ns.map V.int) = decide (z ∈ ns):=fun ns=>by
 unfold inV
 rw [List.any_map,Bool.eq_iff_iff,List.any_eq_true,decide_eq_true_eq]
 constructor
 ·rintro ⟨x,hx,e⟩
  have e':x = z:=by simpa [eqV] using e
  exact e' ▸ hx
 ·intro h
  exact ⟨z,h,by simp [eqV]⟩
end L2
namespace L2
open PySem PySem.Spec PyProof.Rows
section
variable {prog:Program} {w:World} {A:Around} {E:Value -> Shared -> Prop} {s:Shared}
end
end L2
namespace L2
open PySem PySem.Spec PyProof.Rows
theorem y7h {n:Nat}:∀ {l:Int} {c:List Int},isCh n l c = true -> c.Pairwise (· < ·)
 | _,[],_=>.nil
 | l,y :: r,e=>by
  rw [isCh] at e
  by_cases c:y < l \/ (n:Int) <= y
  ·rw [if_pos c] at e; cases e
  ·rw [if_neg c] at e
   refine .cons (fun x hx=>?_) (y7h e)
   have:=z5j e x hx
   omega
theorem y7g {n:Nat} {l l':Int} {c:List Int} (h:isCh n l c = true) (hl:∀ x ∈ c,l' <= x):isCh n l' c = true:=by
 cases c with
 | nil=>rfl
 | cons y r =>
  rw [isCh] at h ⊢
  by_cases d:y < l \/ (n:Int) <= y
  ·rw [if_pos d] at h; cases h
  ·have:=hl y List.mem_cons_self
   rw [if_neg d] at h
   rw [if_neg (by omega)]
   exact h
theorem y2h {rule:List (List Int)} {hs:List Int} {i k:Nat} (hk:k < i) (c:lies (rule.getD k []) hs = true):(k:Int) ∈ idxP rule hs i:=by
 unfold idxP
 exact List.mem_map.mpr ⟨k,List.mem_filter.mpr ⟨List.mem_range.mpr hk,by simpa using c⟩,rfl⟩
theorem zAg {rule:List (List Int)} {hs:List Int}:∀ (i:Nat) (m:Int),(idxP rule hs i).head? = some m -> ∀ x ∈ idxP rule hs i,m <= x
 | 0,m,h,x,hx=>by cases hx
 | i + 1,m,h,x,hx=>by
  rw [z5p] at h hx
  cases e:idxP rule hs i with
  | nil =>
   rw [e] at h hx
   by_cases c:lies (rule.getD i []) hs = true
   ·rw [if_pos c] at h hx
    have h1:m = (i:Int):=by simpa using h.symm
    have h2:x = (i:Int):=by simpa using hx
    omega
   ·rw [if_neg c] at hx
    cases hx
  | cons y ys =>
   have ih:=zAg (rule:=rule) (hs:=hs) i
   rw [e] at ih h hx
   have hm:y = m:=by simpa using h
   subst hm
   have hy:y ∈ idxP rule hs i:=by rw [e]; exact List.mem_cons_self
   rcases List.mem_append.mp hx with z | z
   ·exact ih y rfl x z
   ·by_cases c:lies (rule.getD i []) hs = true
    ·rw [if_pos c] at z
     have:x = (i:Int):=by simpa using z
     have:=(y0o hy).2.1
     omega
    ·rw [if_neg c] at z
     cases z
theorem yBj {rule:List (List Int)} {hs:List Int} {m:Int} (h:z1m rule hs = some m):(0 <= m /\ m < rule.length /\ lies (rule.getD m.toNat []) hs = true) /\ ∀ j:Int,0 <= j -> j < rule.length -> lies (rule.getD j.toNat []) hs = true -> m <= j:=by
 unfold z1m idxG at h
 refine ⟨?_,fun j h0 h1 hl=>?_⟩
 ·have hm:m ∈ idxP rule hs rule.length:=List.mem_of_head? h
  have:=y0o hm
  exact ⟨this.1,by omega,this.2.2⟩
 ·have:=y2h (i:=rule.length) (k:=j.toNat) (by omega) hl
  have:=zAg _ _ h _ this
  omega
structure PairF (rule:List (List Int)) (pc:List Int × List Int) (m:Int):Prop where
 le:∀ x ∈ pc.2,m <= x
 pw:pc.2.Pairwise (· < ·)
 ch:isCh rule.length 0 pc.2 = true
 al:∀ j ∈ pc.2,lies (rule.getD j.toNat []) pc.1 = true
 m0:0 <= m
 m1:m < rule.length
 ml:lies (rule.getD m.toNat []) pc.1 = true
theorem k0a {rule:List (List Int)} {pc:List Int × List Int} {m:Int} (h:z3b rule pc = true) (hf:z1m rule pc.1 = some m):PairF rule pc m:=by
 unfold z3b at h
 rw [Bool.and_eq_true,List.all_eq_true] at h
 obtain ⟨⟨a,b,c⟩,d⟩:=yBj hf
 exact ⟨fun x hx=>d x (z5j h.1 x hx).1 (z5j h.1 x hx).2 (h.2 x hx),y7h h.1,h.1,h.2,a,b,c⟩
theorem PairF.head {rule:List (List Int)} {pc:List Int × List Int} {m:Int} (p:PairF rule pc m) (h:m ∈ pc.2):∃ r,pc.2 = m :: r /\ ∀ x ∈ r,m < x:=by
 have pw:=p.pw
 have le:=p.le
 cases e:pc.2 with
 | nil=>rw [e] at h; cases h
 | cons y r =>
  rw [e] at h pw le
  have hy:=le y List.mem_cons_self
  have hr:∀ x ∈ r,y < x:=(List.pairwise_cons.mp pw).1
  rcases List.mem_cons.mp h with rfl | h
  ·exact ⟨r,rfl,hr⟩
  ·have:=hr m h
   omega
theorem y3k (n:Nat):(if n % 2 = 0 then (1:Int) else -1) = 0 - (if (n + 1) % 2 = 0 then (1:Int) else -1):=by
 rcases Nat.mod_two_eq_zero_or_one n with h | h
 ·have h2:(n + 1) % 2 = 1:=by omega
  simp [h,h2]
 ·have h2:(n + 1) % 2 = 0:=by omega
  simp [h,h2]
theorem zJh {rule:List (List Int)} {pc pc':List Int × List Int} (h:z3b rule pc = true) (hp:z2v rule pc = some pc'):z3b rule pc' = true /\ z2v rule pc' = some pc /\ sgnG pc'.2 = 0 - sgnG pc.2 /\ pc'.1 = pc.1 /\ pc'.2.length <= pc.2.length + 1:=by
 unfold z2v at hp
 cases hf:z1m rule pc.1 with
 | none=>rw [hf] at hp; cases hp
 | some m =>
  rw [hf] at hp
  have p:=k0a h hf
  obtain ⟨hd,ch⟩:=pc
  by_cases c:m ∈ ch
  ·have hp':some (hd,ch.tail) = some pc':=by simpa [c] using hp
   cases hp'
   obtain ⟨r,e,hr⟩:=p.head c
   have e':ch = m :: r:=e
   subst e'
   have chh:=p.ch
   have cc:isCh rule.length (m + 1) r = true:=by
    have z:isCh rule.length 0 (m :: r) = true:=chh
    rw [isCh,if_neg (by have:=p.m0; have:=p.m1; omega)] at z
    exact z
   refine ⟨?_,?_,?_,rfl,by simp; omega⟩
   ·unfold z3b
    rw [Bool.and_eq_true,List.all_eq_true]
    exact ⟨y7g cc fun x hx=>by have:=hr x hx; have:=p.m0; omega,fun j hj=>p.al j (List.mem_cons_of_mem _ hj)⟩
   ·have nm:m ∉ r:=fun z=>by have:=hr m z; omega
    unfold z2v
    have hf':z1m rule hd = some m:=hf
    simp [hf',nm]
   ·unfold sgnG
    simp only [List.tail_cons,List.length_cons]
    exact y3k r.length
  ·have hp':some (hd,m :: ch) = some pc':=by simpa [c] using hp
   cases hp'
   refine ⟨?_,?_,?_,rfl,by simp⟩
   ·unfold z3b
    rw [Bool.and_eq_true,List.all_eq_true]
    refine ⟨?_,fun j hj=>?_⟩
    ·show isCh rule.length 0 (m :: ch) = true
     rw [isCh,if_neg (by have:=p.m0; have:=p.m1; omega)]
     refine y7g p.ch fun x hx=>?_
     have h1:=p.le x hx
     have h2:m ≠ x:=fun z=>c (z ▸ hx)
     omega
    ·rcases List.mem_cons.mp hj with rfl | hj
     ·exact p.ml
     ·exact p.al j hj
   ·unfold z2v
    have hf':z1m rule hd = some m:=hf
    simp [hf']
   ·unfold sgnG
    simp only [List.length_cons]
    rw [y3k ch.length]
    omega
theorem yEl {K:PySem.W.Frag} {H:Hp} {q t:Addr} {hs ms:List Int} {Q:V -> Hp -> Prop} (hq:H q = some (.tup (hs.map V.int))) (ht:H t = some (.tup (ms.map V.int))) (hl:(hs ++ ms).length <= 1000)
  (k:∀ (v:V) (H':Hp),Tup1 (hs ++ ms) v H' -> Same H H' -> Q v H'):y5f K (.ref q) (.ref t) H Q:=by
 refine ⟨q,t,_,_,rfl,rfl,SqT.of hq,SqT.of ht,?_,fun e=>?_,fun _ e=>?_,fun _ _ p hp=>?_⟩
 ·rw [List.length_map,List.length_map,<- List.length_append]
  exact Nat.le_trans hl (by decide)
 ·have:hs = []:=List.map_eq_nil_iff.mp e
  subst this
  exact k _ _ ⟨t,rfl,ht⟩ (fun _ _ h=>h)
 ·have:ms = []:=List.map_eq_nil_iff.mp e
  subst this
  exact k _ _ ⟨q,rfl,by rw [List.append_nil]; exact hq⟩ (fun _ _ h=>h)
 ·exact k _ _ ⟨p,rfl,by rw [z0c,List.map_append]⟩ (Same.new hp)
end L2
namespace L2
open PySem PySem.Spec PyProof.Rows PySem.W
theorem y4d {X:Cx} {pins:List (Addr × Obj)} {σ:St} {H:Hp} {s:Shared} {A:Around} {E:Value -> Shared -> Prop} {Q:Value -> Shared -> Prop} {b:Bool}
  {x:V} {u t:Value} {tp:Addr} {dd:Option Addr} {its:List Value} {n:Nat} {sl:Array (Option Value)} (I:Inv X pins σ H s) (rx:RelV x u) (ty:TyOf X.K H x t)
  (hg:s.heap.get? tp = some { cls:=Value.type "tuple",dict:=dd,data:=Data.seq its.toArray n,slots:=sl }) (e:kitAny X.K t its = some b) (h:∀ tk,Q (.bool b) { s with toks:=tk }) :
  wpAny (model X.prog X.w) A (call (.builtin "isinstance") [u,.ref tp]) Q E s:=by
 cases ty with
 | non=>cases (show u = Value.none from rx); exact kia_tup kitx_none I.kIn True.intro hg e (fun z=>nomatch z) h
 | bl y=>cases (show u = Value.bool y from rx); exact kia_tup kitx_bool I.kIn True.intro hg e (fun z=>nomatch z) h
 | int i=>obtain ⟨t,q⟩:=(show ∃ t,u = Value.int i t from rx); cases q; exact kia_tup kitx_int I.kIn True.intro hg e (fun z=>nomatch z) h
 | str y=>obtain ⟨t,q⟩:=(show ∃ t,u = Value.str y t from rx); cases q; exact kia_tup kitx_str I.kIn True.intro hg e (fun z=>nomatch z) h
 | flt y=>obtain ⟨t,q⟩:=(show ∃ t,u = Value.float y t from rx); cases q; exact kia_tup kitx_float I.kIn True.intro hg e (fun z=>nomatch z) h
 | @lst a xs ea =>
  cases (show u = Value.ref a from rx)
  obtain ⟨_,_,n,_,h1⟩:=(show z2n X.prog X.w H s.heap a (.lst xs) from I.hok a _ ea)
  exact kia_tup kitx_list I.kIn ⟨_,h1,rfl⟩ hg e (fun z=>nomatch z) h
 | @frz a ob xs ea =>
  cases (show u = Value.ref a from rx)
  obtain ⟨_,_,_,n,_,h1⟩:=(show z2n X.prog X.w H s.heap a (.frz ob (.lst xs)) from I.hok a _ ea)
  exact kia_tup kitx_list I.kIn ⟨_,h1,rfl⟩ hg e (fun z=>nomatch z) h
 | @tup a xs ea =>
  cases (show u = Value.ref a from rx)
  obtain ⟨_,_,_,p,_⟩:=(show z2n X.prog X.w H s.heap a (.tup xs) from I.hok a _ ea)
  obtain ⟨o,h1,h2,_⟩:=p
  exact kia_tup kitx_tuple I.kIn ⟨o,h1,h2⟩ hg e (fun z=>nomatch z) h
 | @dK a kvs ea =>
  cases (show u = Value.ref a from rx)
  obtain ⟨_,_,vs,_,p⟩:=(show z2n X.prog X.w H s.heap a (.dK kvs) from I.hok a _ ea)
  obtain ⟨o,es,ep,h1,h2,_⟩:=p
  exact kia_tup kitx_dict I.kIn ⟨o,h1,h2.1⟩ hg e (fun z=>nomatch z) h
 | @dT a kvs ea =>
  cases (show u = Value.ref a from rx)
  obtain ⟨_,_,xs,_,o,es,ep,h1,h2,_⟩:=(show z2n X.prog X.w H s.heap a (.dT kvs) from I.hok a _ ea)
  exact kia_tup kitx_dict I.kIn ⟨o,h1,h2.1⟩ hg e (fun z=>nomatch z) h
 | @ins a C dx fs ea cl ha hn htk hm =>
  cases (show u = Value.ref a from rx)
  obtain ⟨mA,O,_⟩:=zBz I.hok ea
  obtain ⟨od,J,_⟩:=O.look
  exact kia_tup (kitx_own (cl.get _) cl.hd ha hn htk hm) I.kIn J hg e (fun z=>nomatch z) h
theorem yGm {Ts:List String} {us:List Value} (h:Vals (Ts.map V.ty) us):us = Ts.map Value.type:=by
 induction Ts generalizing us with
 | nil=>cases h; rfl
 | cons a r ih =>
  cases h with
  | cons h1 h2 =>
   rw [ih h2]
   cases (show _ = Value.type a from h1)
   rfl
theorem y6j {X:Cx}:z6e X (.builtin "isinstance") (fun xs H Q=>∃ x tp Ts t b,xs = [x,.ref tp] /\ H tp = some (.tup (List.map V.ty Ts)) /\ TyOf X.K H x t /\ kitAny X.K t (Ts.map Value.type) = some b /\ Q (.bl b) H):=by
 intro pins s σ H xs us Q I r h
 obtain ⟨x,tp,Ts,t,b,rfl,ht,ty,hk,q⟩:=h
 obtain ⟨u,v,rfl,ru,rv⟩:=yGl r
 cases (show v = Value.ref tp from rv)
 obtain ⟨_,its,r2,⟨o,h1,h2,n,h3⟩,_⟩:=(show z2n X.prog X.w H s.heap tp (.tup (Ts.map V.ty)) from I.hok tp _ ht)
 cases yGm r2
 cases o
 cases h2
 cases h3
 exact y4d I ru ty h1 hk fun tk=>⟨.bl b,H,I.tok tk,rfl,q⟩
theorem z8c {K:Frag}:kitOne K (.type "list") (.type "tuple") = some false:=by
 unfold kitOne
 rw [if_neg (by decide +kernel)]
 rfl
theorem z8d {K:Frag}:kitOne K (.type "tuple") (.type "list") = some false:=by
 unfold kitOne
 rw [if_neg (by decide +kernel)]
 rfl
theorem y0v {K:Frag}:kitOne K (.type "int") (.type "str") = some false:=by
 unfold kitOne
 rw [if_neg (by decide +kernel)]
 rfl
theorem z6m {K:Frag}:kitOne K (.type "NoneType") (.type "bool") = some false:=by
 unfold kitOne
 rw [if_neg (by decide +kernel)]
 rfl
theorem y4h {K:Frag}:kitAny K (.type "list") (["list", "tuple"].map Value.type) = some true:=by rfl
theorem y0u {K:Frag}:kitAny K (.type "tuple") (["list", "tuple"].map Value.type) = some true:=by rfl
theorem y7o {K:Frag}:kitAny K (.type "int") (["list", "tuple"].map Value.type) = some false:=by rfl
theorem y4g {K:Frag}:kitAny K (.type "bool") (["list", "tuple"].map Value.type) = some false:=by rfl
theorem zDr {K:Frag}:kitAny K (.type "NoneType") (["list", "tuple"].map Value.type) = some false:=by rfl
theorem y7p {K:Frag}:kitAny K (.type "str") (["list", "tuple"].map Value.type) = some false:=by rfl
end L2
namespace L2
open PySem PySem.Spec PyProof.Rows
section
variable {X:Cx} {tg:Expr}
end
end L2
namespace L2
end L2
namespace L2
open PySem PySem.Spec PyProof.Rows PySem.W
end L2
namespace L2
def sumN:Nat -> (Nat -> Int) -> Int
 | 0,_=>0
 | n + 1,f=>sumN n f + f n
end L2
namespace L2
open PySem PySem.Spec PyProof.Rows
section
variable {X:Cx}
end
end L2
namespace L2
open PySem PySem.Spec PyProof.Rows
section
variable {X:Cx}
end
section
variable {X:Cx} {e st:Expr} {te:TE} {ts:TO} {p2 pos:Pos}
end
end L2
namespace L2
open PySem PySem.Spec PyProof.Rows
section
variable {X:Cx} {tg l:Expr} {t1 t2:TI}
def iOr (t1 t2:TI):TI:=fun σ H R=>t1 σ H R \/ t2 σ H R
theorem k0b (h1:PI X tg l t1) (h2:PI X tg l t2):PI X tg l (iOr t1 t2):=by
 intro pins s σ H R I h
 rcases h with h | h
 ·exact h1 pins s σ H R I h
 ·exact h2 pins s σ H R I h
end
end L2
namespace L2
open PySem PySem.Spec PyProof.Rows
section
variable {prog:Program} {w:World} {A:Around} {E:Value -> Shared -> Prop} {s:Shared}
end
section
variable {X:Cx}
end
end L2
namespace L2
open PySem PySem.Spec PyProof.Rows
theorem inV2 (x a b:Int):inV (.int x) [V.int a,V.int b] = (decide (x = a) || decide (x = b)):=by
 show inV (.int x) ([a,b].map V.int) = _
 rw [z8u]
 rw [Bool.eq_iff_iff]
 simp
end L2
namespace L2
open PySem PySem.Spec PyProof.Rows
end L2
namespace L2
open PySem PySem.Spec PyProof.Rows
section
variable {X:Cx}
end
end L2
set_option exponentiation.threshold 200000
namespace L2
open PySem PySem.Spec PyProof.Rows
section
variable {X:Cx}
end
def hdL (T B:Nat -> Int):Nat -> List Int
 | 0=>[]
 | n + 1=>hdL T B n ++ [T n - sumN n fun i=>B (i + 1) * (hdL T B n).getD (n - (i + 1)) 0]
def hd (T B:Nat -> Int) (n:Nat):Int:=(hdL T B (n + 1)).getD n 0
end L2
namespace L2
open PySem PySem.Spec PyProof.Rows PySem.W
end L2
namespace L2
open PySem PySem.Spec PyProof.Rows
end L2
namespace L2
open PySem PySem.Spec PyProof.Rows
end L2
namespace L2
open PySem PySem.Spec PyProof.Rows
section
variable {X:Cx}
end
end L2
namespace L2
open PySem PySem.Spec PyProof.Rows
section
variable {prog:Program} {w:World} {A:Around} {R:Result -> Shared -> Prop} {I:Addr} {fp wr:List Addr} {G:Array GenState -> Array GenState -> Prop} {n:Nat} {P:Nat -> Value -> Prop} {St:Nat -> Shared -> Prop} {K:Type} [DecidableEq K] {knd:KeyKind prog w K}
end
section
variable {X:Cx}
end
end L2
namespace L2
open PySem PySem.Spec PyProof.Rows
section
variable {X:Cx}
end
end L2
namespace L2
end L2
namespace L2
theorem z7t:∀ (f f' n g:Nat),n < f -> n < f' -> z2y f n g = z2y f' n g
 | 0,_,n,_,h,_=>absurd h (Nat.not_lt_zero _)
 | _ + 1,0,n,_,_,h=>absurd h (Nat.not_lt_zero _)
 | f + 1,f' + 1,n,g,h,h'=>by
  rw [z1j,z1j]
  by_cases c:n = 0
  ·rw [if_pos c,if_pos c]
  ·rw [if_neg c,if_neg c]
   unfold z8p
   rw [List.flatMap_def,List.flatMap_def]
   congr 1
   apply List.map_congr_left
   intro i hi
   have hi':=List.mem_range.mp hi
   rw [z7t f f' _ _ (by omega) (by omega)]
def z7j (n g:Nat):List (List Int):=z2y (n + 1) n g
theorem zFb {n g g':Nat} (h:n <= g) (h':n <= g'):z7j n g = z7j n g':=by
 unfold z7j
 rw [z1j,z1j,Nat.min_eq_left h,Nat.min_eq_left h']
theorem zFa (n g:Nat):z7j n (g + 1) = (if g + 1 <= n then (z7j (n - (g + 1)) (g + 1)).map (((g + 1:Nat):Int) :: ·) else []) ++ z7j n g:=by
 by_cases c:g + 1 <= n
 ·rw [if_pos c]
  have n0:n ≠ 0:=by omega
  unfold z7j
  rw [z1j n n,z1j n n g,if_neg n0,if_neg n0,Nat.min_eq_right c,Nat.min_eq_right (show g <= n by omega)]
  unfold z8p
  rw [List.range_succ_eq_map,List.flatMap_cons,List.flatMap_map,Nat.sub_zero,z7t n (n - (g + 1) + 1) _ _ (by omega) (by omega)]
  congr 1
  rw [List.flatMap_def,List.flatMap_def]
  congr 1
  apply List.map_congr_left
  intro i hi
  show (z2y n (n - (g + 1 - (i + 1))) (g + 1 - (i + 1))).map (((g + 1 - (i + 1):Nat):Int) :: ·) = _
  rw [Nat.add_sub_add_right]
 ·rw [if_neg c,List.nil_append]
  exact zFb (by omega) (by omega)
theorem zBg:∀ (f n g:Nat),∀ h ∈ z2y f n g,∀ x ∈ h,x <= (g:Int)
 | 0,n,g,h,hh,_,_=>by cases hh
 | f + 1,n,g,h,hh,x,hx=>by
  rw [z1j] at hh
  by_cases c:n = 0
  ·rw [if_pos c] at hh
   have:h = []:=by simpa using hh
   subst this
   cases hx
  ·rw [if_neg c] at hh
   unfold z8p at hh
   obtain ⟨i,hi,hh⟩:=List.mem_flatMap.mp hh
   rw [List.mem_range] at hi
   obtain ⟨r,hr,rfl⟩:=List.mem_map.mp hh
   rcases List.mem_cons.mp hx with rfl | hx
   ·omega
   ·have:=zBg f _ _ r hr x hx
    omega
end L2
namespace L2
def okC (c:Nat -> Nat) (g:Nat) (h:List Int):Bool:=(List.range g).all fun i=>decide (c (i + 1) <= h.count ((i + 1:Nat):Int))
theorem yCd (c:Nat -> Nat) (g:Nat) (h:List Int):okC c (g + 1) h = (okC c g h && decide (c (g + 1) <= h.count ((g + 1:Nat):Int))):=by
 unfold okC
 rw [List.range_succ,List.all_append]
 simp
theorem yCc (c:Nat -> Nat) (g:Nat) (h:List Int):okC c g (((g + 1:Nat):Int) :: h) = okC c g h:=by
 unfold okC
 rw [Bool.eq_iff_iff,List.all_eq_true,List.all_eq_true]
 have e:∀ i ∈ List.range g,List.count ((i + 1:Nat):Int) (((g + 1:Nat):Int) :: h) = List.count ((i + 1:Nat):Int) h:=fun i hi=>by
  have:=List.mem_range.mp hi
  rw [List.count_cons_of_ne (by omega)]
 exact ⟨fun z i hi=>by have:=z i hi; rwa [e i hi] at this,fun z i hi=>by rw [e i hi]; exact z i hi⟩
def lenN (g n:Nat):Nat:=(z7j n g).length
theorem zIh (g n:Nat):lenN (g + 1) n = (if g + 1 <= n then lenN (g + 1) (n - (g + 1)) else 0) + lenN g n:=by
 unfold lenN
 rw [zFa n g,List.length_append]
 by_cases c:g + 1 <= n
 ·rw [if_pos c,if_pos c,List.length_map]
 ·rw [if_neg c,if_neg c]
  rfl
def cntC (c:Nat -> Nat) (g n:Nat):Nat:=(z7j n g).countP (okC c g)
def cntT (c:Nat -> Nat) (g t n:Nat):Nat:=(z7j n (g + 1)).countP fun h=>okC c g h && decide (t <= h.count ((g + 1:Nat):Int))
theorem zHs (c:Nat -> Nat) (g t n:Nat):cntT c g t n = (if g + 1 <= n then cntT c g (t - 1) (n - (g + 1)) else 0) + if t = 0 then cntC c g n else 0:=by
 unfold cntT
 rw [zFa n g,List.countP_append]
 congr 1
 ·by_cases d:g + 1 <= n
  ·rw [if_pos d,if_pos d,List.countP_map]
   apply List.countP_congr
   intro h _
   show (okC c g (((g + 1:Nat):Int) :: h) && decide (t <= List.count ((g + 1:Nat):Int) (((g + 1:Nat):Int) :: h))) = true ↔ _
   rw [yCc,List.count_cons_self]
   simp only [Bool.and_eq_true,decide_eq_true_eq]
   exact and_congr_right fun _=>by omega
  ·rw [if_neg d,if_neg d]
   rfl
 ·unfold cntC
  have z:∀ h ∈ z7j n g,h.count ((g + 1:Nat):Int) = 0:=fun h hh=>List.count_eq_zero.mpr fun hm=>by
   have:=zBg _ _ _ h hh _ hm
   omega
  by_cases d:t = 0
  ·subst d
   rw [if_pos rfl]
   apply List.countP_congr
   intro h hh
   simp
  ·rw [if_neg d]
   apply List.countP_eq_zero.mpr
   intro h hh
   rw [z h hh,decide_eq_false (by omega),Bool.and_false]
   decide
theorem zEk (c:Nat -> Nat) (g:Nat):∀ t n,cntT c g t n = if t * (g + 1) <= n then cntT c g 0 (n - t * (g + 1)) else 0
 | 0,n=>by rw [Nat.zero_mul,if_pos (Nat.zero_le _),Nat.sub_zero]
 | t + 1,n=>by
  rw [zHs,if_neg (Nat.succ_ne_zero t),Nat.add_zero,Nat.add_sub_cancel,Nat.add_mul t 1,Nat.one_mul]
  by_cases d:g + 1 <= n
  ·rw [if_pos d,zEk c g t]
   by_cases e:t * (g + 1) <= n - (g + 1)
   ·rw [if_pos e,if_pos (by omega),Nat.sub_sub,Nat.add_comm (g + 1)]
   ·rw [if_neg e,if_neg (by omega)]
  ·rw [if_neg d,if_neg (by omega)]
def sC (c:Nat -> Nat):Nat -> Nat
 | 0=>0
 | g + 1=>sC c g + c (g + 1) * (g + 1)
theorem y6m {c:Nat -> Nat} {g:Nat} (ih:∀ n,cntC c g n = if sC c g <= n then lenN g (n - sC c g) else 0):∀ n,cntT c g 0 n = if sC c g <= n then lenN (g + 1) (n - sC c g) else 0:=by
 intro n
 induction n using Nat.strongRecOn with
 | _ n IH =>
  rw [zHs,if_pos rfl,ih]
  by_cases d:g + 1 <= n
  ·rw [if_pos d,Nat.zero_sub,IH (n - (g + 1)) (by omega)]
   by_cases e:sC c g <= n
   ·rw [if_pos e,if_pos e,zIh g (n - sC c g)]
    congr 1
    by_cases f:sC c g <= n - (g + 1)
    ·rw [if_pos f,if_pos (by omega)]
     congr 1
     omega
    ·rw [if_neg f,if_neg (by omega)]
   ·rw [if_neg e,if_neg e,if_neg (by omega)]
  ·rw [if_neg d,Nat.zero_add]
   by_cases e:sC c g <= n
   ·rw [if_pos e,if_pos e,zIh g (n - sC c g),if_neg (by omega),Nat.zero_add]
   ·rw [if_neg e,if_neg e]
theorem y6l (c:Nat -> Nat):∀ g n,cntC c g n = if sC c g <= n then lenN g (n - sC c g) else 0
 | 0,n=>by
  show (z7j n 0).countP (okC c 0) = if 0 <= n then lenN 0 n else 0
  rw [if_pos (Nat.zero_le _)]
  unfold lenN
  exact List.countP_eq_length.mpr fun _ _=>rfl
 | g + 1,n=>by
  have e:cntC c (g + 1) n = cntT c g (c (g + 1)) n:=by
   unfold cntC cntT
   congr 1
   funext h
   exact yCd c g h
  rw [e,zEk]
  show _ = if sC c g + c (g + 1) * (g + 1) <= n then lenN (g + 1) (n - (sC c g + c (g + 1) * (g + 1))) else 0
  by_cases d:c (g + 1) * (g + 1) <= n
  ·rw [if_pos d,y6m (y6l c g)]
   by_cases f:sC c g <= n - c (g + 1) * (g + 1)
   ·rw [if_pos f,if_pos (by omega)]
    congr 1
    omega
   ·rw [if_neg f,if_neg (by omega)]
  ·rw [if_neg d,if_neg (by omega)]
theorem y9d {J:List Int} {a:Int} (h0:1 <= a):∀ g,sC (fun x=>(a :: J).count (x:Int)) g = sC (fun x=>J.count (x:Int)) g + if a <= (g:Int) then a.toNat else 0
 | 0=>by rw [if_neg (by omega)]; rfl
 | g + 1=>by
  show sC _ g + List.count ((g + 1:Nat):Int) (a :: J) * (g + 1) = sC _ g + List.count ((g + 1:Nat):Int) J * (g + 1) + _
  rw [y9d h0 g]
  by_cases e:a = ((g + 1:Nat):Int)
  ·subst e
   rw [List.count_cons_self,if_neg (by omega),if_pos (Int.le_refl _),Nat.add_mul,Nat.one_mul,Int.toNat_natCast]
   omega
  ·rw [List.count_cons_of_ne (by omega)]
   by_cases f:a <= (g:Int)
   ·rw [if_pos f,if_pos (by omega)]
    omega
   ·rw [if_neg f,if_neg (by omega)]
    omega
theorem yEc (g:Nat):∀ {J:List Int},(∀ x ∈ J,1 <= x /\ x <= (g:Int)) -> ((sC (fun x=>J.count (x:Int)) g:Nat):Int) = J.sum
 | [],_=>by
  have e:∀ g,sC (fun x=>([]:List Int).count (x:Int)) g = 0:=fun g=>by
   induction g with
   | zero=>rfl
   | succ g ih =>
    show sC _ g + List.count _ [] * (g + 1) = 0
    rw [ih,List.count_nil,Nat.zero_mul]
  rw [e]
  rfl
 | a :: J,h=>by
  have ha:=h a List.mem_cons_self
  rw [y9d ha.1 g,if_pos ha.2,List.sum_cons,<- yEc g fun x hx=>h x (List.mem_cons_of_mem _ hx)]
  omega
theorem yEd {J:List Int} (h:∀ x ∈ J,1 <= x):0 <= J.sum /\ ∀ x ∈ J,x <= J.sum:=by
 induction J with
 | nil=>exact ⟨Int.le_refl _,(fun _ h=>by cases h)⟩
 | cons a J ih =>
  have ha:=h a List.mem_cons_self
  obtain ⟨i1,i2⟩:=ih fun x hx=>h x (List.mem_cons_of_mem _ hx)
  rw [List.sum_cons]
  refine ⟨by omega,fun x hx=>?_⟩
  rcases List.mem_cons.mp hx with rfl | hx
  ·omega
  ·have:=i2 x hx
   omega
theorem y4i {J:List Int} (h:∀ x ∈ J,1 <= x) (n:Nat):(z7j n n).countP (lies J) = if J.sum <= (n:Int) then (z7j (n - J.sum.toNat) (n - J.sum.toNat)).length else 0:=by
 by_cases hb:∀ x ∈ J,x <= (n:Int)
 ·have e1:(z7j n n).countP (lies J) = cntC (fun x=>J.count (x:Int)) n n:=by
   unfold cntC
   apply List.countP_congr
   intro hp _
   unfold lies okC
   rw [List.all_eq_true,List.all_eq_true]
   constructor
   ·intro z i _
    refine decide_eq_true ?_
    by_cases hm:((i + 1:Nat):Int) ∈ J
    ·exact of_decide_eq_true (z _ hm)
    ·show List.count ((i + 1:Nat):Int) J <= _
     rw [List.count_eq_zero.mpr hm]
     exact Nat.zero_le _
   ·intro z x hx
    have h1:=h x hx
    have h2:=hb x hx
    have:=z (x.toNat - 1) (List.mem_range.mpr (by omega))
    have this:decide (List.count ((x.toNat - 1 + 1:Nat):Int) J <= List.count ((x.toNat - 1 + 1:Nat):Int) hp) = true:=this
    rw [show x.toNat - 1 + 1 = x.toNat by omega,Int.toNat_of_nonneg (by omega)] at this
    exact this
  have es:=yEc n (J:=J) fun x hx=>⟨h x hx,hb x hx⟩
  rw [e1,y6l]
  by_cases d:J.sum <= (n:Int)
  ·have e2:J.sum.toNat = sC (fun x=>J.count (x:Int)) n:=by omega
   rw [if_pos d,if_pos (by omega),<- e2]
   unfold lenN
   rw [zFb (n:=n - J.sum.toNat) (g:=n) (g':=n - J.sum.toNat) (by omega) (Nat.le_refl _)]
  ·rw [if_neg d,if_neg (by omega)]
 ·have hb':∃ x,x ∈ J /\ (n:Int) < x:=by
   refine Decidable.byContradiction fun z=>hb fun x hx=>?_
   refine Decidable.byContradiction fun y=>z ⟨x,hx,by omega⟩
  obtain ⟨x,hx,hlt⟩:=hb'
  have:=(yEd h).2 x hx
  rw [if_neg (by omega)]
  apply List.countP_eq_zero.mpr
  intro hp hh z
  unfold lies at z
  have zx:=of_decide_eq_true (List.all_eq_true.mp z x hx)
  have c0:hp.count x = 0:=List.count_eq_zero.mpr fun hm=>by
   have:=zBg _ _ _ hp hh x hm
   omega
  have c1:0 < J.count x:=List.count_pos_iff.mpr hx
  omega
theorem zFu (J h:List Int):lies J h = true ↔ ∀ x,J.count x <= h.count x:=by
 unfold lies
 rw [List.all_eq_true]
 constructor
 ·intro z x
  by_cases hm:x ∈ J
  ·exact of_decide_eq_true (z x hm)
  ·rw [List.count_eq_zero.mpr hm]
   exact Nat.zero_le _
 ·intro z x _
  exact decide_eq_true (z x)
theorem y7r {ls:List (List Int)} {J:List Int} (h:z6z ls J) (hp:List Int):lies J hp = ls.all fun l=>lies l hp:=by
 rw [Bool.eq_iff_iff,zFu,List.all_eq_true]
 constructor
 ·intro z l hl
  rw [zFu]
  intro x
  have:=z x
  rw [h.2 x] at this
  exact Nat.le_trans (y0y hl) this
 ·intro z x
  rw [h.2 x]
  exact zCj fun l hl=>(zFu l hp).mp (z l hl) x
def bI (b:Bool):Int:=if b = true then 1 else 0
theorem yCv (c:List Int) (x:Int):sgnG (c ++ [x]) = - sgnG c:=by
 unfold sgnG
 rw [List.length_append,List.length_singleton]
 by_cases h:c.length % 2 = 0
 ·rw [if_pos h,if_neg (by omega)]
 ·rw [if_neg h,if_pos (by omega)]
  rfl
theorem yGg (L:List (List Int)) (f:List Int -> Int):(L.map fun c=>- f c).sum = - (L.map f).sum:=by
 induction L with
 | nil=>rfl
 | cons a L ih =>
  rw [List.map_cons,List.map_cons,List.sum_cons,List.sum_cons,ih]
  omega
theorem z8k (b:Int -> Bool):∀ (k:Nat),((chG (upto k)).map fun c=>sgnG c * bI (c.all b)).sum = bI ((upto k).all fun x=>!b x)
 | 0=>rfl
 | k + 1=>by
  rw [y0c,z8r,List.map_append,List.sum_append,List.map_map,List.all_append,z8k b k]
  have e:((fun c=>sgnG c * bI (c.all b)) ∘ fun x=>x ++ [(k:Int)]) = fun c=>- (sgnG c * bI (c.all b && b (k:Int))):=by
   funext c
   show sgnG (c ++ [(k:Int)]) * bI ((c ++ [(k:Int)]).all b) = _
   rw [yCv,List.all_append,Int.neg_mul]
   simp
  rw [e,yGg]
  cases hb:b (k:Int) with
  | true =>
   have e2:(fun c:List Int=>sgnG c * bI (c.all b && true)) = fun c=>sgnG c * bI (c.all b):=by
    funext c
    rw [Bool.and_true]
   rw [e2,z8k b k]
   simp [hb,bI]
   omega
  | false =>
   have e2:∀ L:List (List Int),(L.map fun c:List Int=>sgnG c * bI (c.all b && false)).sum = 0:=fun L=>by
    induction L with
    | nil=>rfl
    | cons a L ih =>
     rw [List.map_cons,List.sum_cons,ih,Bool.and_false]
     show sgnG a * 0 + 0 = 0
     rw [Int.mul_zero]
     rfl
   rw [e2]
   simp [hb]
theorem zHy (rule:List (List Int)) (h:List Int):(z1m rule h).isNone = (upto rule.length).all fun x=>!lies (rule.getD x.toNat []) h:=by
 unfold z1m idxG idxP
 rw [List.head?_map,Option.isNone_map,upto,List.all_map]
 rw [Bool.eq_iff_iff,Option.isNone_iff_eq_none,List.head?_eq_none_iff,List.filter_eq_nil_iff,List.all_eq_true]
 constructor
 ·intro z i hi
  have:=z i hi
  show (!lies (rule.getD ((i:Nat):Int).toNat []) h) = true
  rw [Int.toNat_natCast]
  simpa using this
 ·intro z i hi
  have:(!lies (rule.getD ((i:Nat):Int).toNat []) h) = true:=z i hi
  rw [Int.toNat_natCast] at this
  simpa using this
theorem y3p (L:List (List Int)) (f:List Int -> Bool) (g:List Int -> List Int -> Int) (hg:∀ h,(L.map fun c=>g c h).sum = bI (f h)):∀ P:List (List Int),(((P.filter f).length:Nat):Int) = (L.map fun c=>(P.map (g c)).sum).sum
 | []=>by
  have:∀ L:List (List Int),(L.map fun c=>(([]:List (List Int)).map (g c)).sum).sum = 0:=fun L=>by
   induction L with
   | nil=>rfl
   | cons a L ih=>rw [List.map_cons,List.sum_cons,ih]; rfl
  rw [this]
  rfl
 | h :: P=>by
  have e:∀ L:List (List Int),(L.map fun c=>((h :: P).map (g c)).sum).sum = (L.map fun c=>g c h).sum + (L.map fun c=>(P.map (g c)).sum).sum:=fun L=>by
   induction L with
   | nil=>rfl
   | cons a L ih =>
    rw [List.map_cons,List.map_cons,List.map_cons,List.sum_cons,List.sum_cons,List.sum_cons,ih,List.map_cons,List.sum_cons]
    omega
  rw [e,hg,<- y3p L f g hg P,List.filter_cons]
  cases hf:f h with
  | true =>
   rw [if_pos rfl,List.length_cons]
   show _ = 1 + _
   omega
  | false =>
   rw [if_neg (by decide)]
   show _ = 0 + _
   omega
theorem y9v (P:List (List Int)) (s:Int) (f:List Int -> Bool):(P.map fun h=>s * bI (f h)).sum = s * ((P.countP f:Nat):Int):=by
 induction P with
 | nil=>simp
 | cons a P ih =>
  rw [List.map_cons,List.sum_cons,ih,List.countP_cons]
  cases hf:f a with
  | true =>
   rw [if_pos rfl]
   show s * 1 + _ = s * (((P.countP f + 1:Nat)):Int)
   rw [Int.natCast_add,Int.mul_add,Int.add_comm]
   rfl
  | false =>
   rw [if_neg (by decide)]
   show s * 0 + _ = _
   rw [Int.mul_zero,Int.zero_add,Nat.add_zero]
theorem y0s {rule:List (List Int)} (hp:∀ h ∈ rule,∀ x ∈ h,1 <= x) (jn:List Int -> List Int) (hj:∀ c ∈ chG (upto rule.length),z6z (z1y rule c) (jn c)) {n:Nat} (hn:n < 26) :
  (((z2a rule n).length:Nat):Int) = ((chG (upto rule.length)).map fun c=>sgnG c * (if (jn c).sum <= (n:Int) then (((z2y 26 (n - (jn c).sum.toNat) (n - (jn c).sum.toNat)).length:Nat):Int) else 0)).sum:=by
 unfold z2a
 rw [y3p (chG (upto rule.length)) _ (fun c h=>sgnG c * bI (c.all fun x=>lies (rule.getD x.toNat []) h)) (fun h=>by rw [z8k,zHy])]
 congr 1
 apply List.map_congr_left
 intro c hc
 rw [y9v]
 congr 1
 have hJ:=hj c hc
 have hJ1:∀ x ∈ jn c,1 <= x:=fun x hx=>by
  have h1:0 < (jn c).count x:=List.count_pos_iff.mpr hx
  rw [hJ.2 x] at h1
  refine Decidable.byContradiction fun hx1=>?_
  have:maxC (z1y rule c) x <= 0:=zCj fun l hl=>by
   obtain ⟨j,_,rfl⟩:=List.mem_map.mp hl
   have e:(rule.getD j.toNat []).count x = 0:=List.count_eq_zero.mpr fun hm=>by
    by_cases hjl:j.toNat < rule.length
    ·rw [List.getD_eq_getElem?_getD,List.getElem?_eq_getElem hjl] at hm
     exact hx1 (hp _ (List.getElem_mem hjl) x hm)
    ·rw [List.getD_eq_getElem?_getD,List.getElem?_eq_none (by omega)] at hm
     cases hm
   omega
  omega
 have e1:(z2y 26 n n).countP (fun h=>c.all fun x=>lies (rule.getD x.toNat []) h) = (z7j n n).countP (lies (jn c)):=by
  rw [z7t 26 (n + 1) n n hn (by omega)]
  apply List.countP_congr
  intro h _
  rw [y7r hJ h]
  unfold z1y
  rw [List.all_map]
  exact Iff.rfl
 rw [e1,y4i hJ1]
 by_cases d:(jn c).sum <= (n:Int)
 ·rw [if_pos d,if_pos d]
  unfold z7j
  rw [z7t 26 (n - (jn c).sum.toNat + 1) _ _ (by omega) (by omega)]
 ·rw [if_neg d,if_neg d]
  rfl
end L2
namespace L2
theorem yFd {L:List (List Int)} {f g:List Int -> Int} (h:∀ c ∈ L,f c = g c):(L.map f).sum = (L.map g).sum:=by rw [List.map_congr_left h]
theorem zHx:∀ L:List Int,∃ us:List Int,us.Pairwise (· > ·) /\ ∀ y,y ∈ us ↔ y ∈ L
 | []=>⟨[],.nil,fun _=>Iff.rfl⟩
 | x :: L=>by
  obtain ⟨us,h1,h2⟩:=zHx L
  by_cases hx:x ∈ us
  ·refine ⟨us,h1,fun y=>?_⟩
   rw [List.mem_cons,<- h2 y]
   exact ⟨.inr,fun h=>h.elim (fun e=>e ▸ hx) id⟩
  ·refine ⟨us.filter (fun y=>decide (x < y)) ++ x :: us.filter (fun y=>decide (y < x)),?_,fun y=>?_⟩
   ·refine List.pairwise_append.mpr ⟨h1.sublist List.filter_sublist,List.pairwise_cons.mpr ⟨fun y hy=>?_,h1.sublist List.filter_sublist⟩,fun a ha b hb=>?_⟩
    ·exact of_decide_eq_true (List.mem_filter.mp hy).2
    ·have ha':x < a:=of_decide_eq_true (List.mem_filter.mp ha).2
     rcases List.mem_cons.mp hb with rfl | hb
     ·exact ha'
     ·have hb':b < x:=of_decide_eq_true (List.mem_filter.mp hb).2
      show b < a
      omega
   ·rw [List.mem_append,List.mem_cons,List.mem_filter,List.mem_filter,List.mem_cons,<- h2 y]
    constructor
    ·rintro (h | h | h)
     ·exact .inr h.1
     ·exact .inl h
     ·exact .inr h.1
    ·rintro (h | h)
     ·exact .inr (.inl h)
     ·rcases Int.lt_trichotomy x y with z | z | z
      ·exact .inl ⟨h,decide_eq_true z⟩
      ·exact .inr (.inl z.symm)
      ·exact .inr (.inr ⟨h,decide_eq_true z⟩)
theorem y6z (ls:List (List Int)):∃ ms,z6z ls ms:=by
 obtain ⟨us,h1,h2⟩:=zHx ls.flatten
 exact ⟨_,zHo (h1.imp fun h=>Int.ne_of_gt h) (h1.imp fun h=>Int.le_of_lt h) h2⟩
noncomputable def z3y (ls:List (List Int)):List Int:=Classical.choose (y6z ls)
theorem z6r (ls:List (List Int)):z6z ls (z3y ls):=Classical.choose_spec (y6z ls)
theorem zBb {ls:List (List Int)} {ms:List Int} (h:z6z ls ms):z3y ls = ms:=(z6r ls).uniq h
noncomputable def z6k (rule:List (List Int)) (W:Nat -> Int) (n:Nat) (cs:List (List Int)):Int:=(cs.map fun c=>sgnG c * if (z3y (z1y rule c)).sum <= (n:Int) then W (n - (z3y (z1y rule c)).sum.toNat) else 0).sum
theorem yGh (k:Nat) (v:Int):(List.replicate k v).sum = k * v:=by
 induction k with
 | zero=>simp
 | succ k ih=>rw [List.replicate_succ,List.sum_cons,ih,Int.natCast_add,Int.add_mul]; simp; omega
theorem zGl {a b:List Int} (h:a.Perm b):a.sum = b.sum:=by
 induction h with
 | nil=>rfl
 | cons x _ ih=>rw [List.sum_cons,List.sum_cons,ih]
 | swap x y l=>simp only [List.sum_cons]; omega
 | trans _ _ i1 i2=>rw [i1,i2]
end L2
namespace L2
open PySem PySem.Spec PyProof.Rows
structure SeenU (H0 H:Hp) (d:Addr) (L:List Int):Prop where
 ex:∃ (kvs:List (Key × V)) (ns:List Int),H d = some (.dK kvs) /\ kvs.map (·.1) = ns.map Sum.inl /\ ns.Nodup /\ ns.length <= L.length /\ ∀ x,x ∈ ns ↔ x ∈ L
 sm:∀ b o,H0 b = some o -> H b = some o
 nw:H0 d = none
theorem SeenU.put {H0 H:Hp} {d:Addr} {L:List Int} {z:Int} (h:SeenU H0 H d L) (hl:L.length < 1000):∃ H',DPut H d (.int z) (.bl true) H' /\ SeenU H0 H' d (L ++ [z]):=by
 obtain ⟨⟨kvs,ns,hd,hk,hnd,hn,hm⟩,sm,nw⟩:=h
 have hlen:kvs.length = ns.length:=by
  have:=congrArg List.length hk
  simpa using this
 refine ⟨upd H d (.dK (putK kvs (Sum.inl z) (.bl true))),DPut.k (k:=Sum.inl z) hd (Nat.lt_of_lt_of_le (show kvs.length < 1000 by omega) (by decide)),⟨?_,fun b o e=>by rw [z0n (z0r e nw)]; exact sm b o e,nw⟩⟩
 cases e:valV kvs (Sum.inl z) with
 | none =>
  have hz:z ∉ ns:=fun hz=>yDh e (by rw [hk]; exact List.mem_map.mpr ⟨z,hz,rfl⟩)
  refine ⟨_,ns ++ [z],z0c,by rw [yCo _ e,List.map_append,hk,List.map_append]; rfl,?_,by simp; omega,fun x=>by simp [hm]⟩
  refine List.nodup_append.mpr ⟨hnd,by simp,fun a ha b hb e=>?_⟩
  have:b = z:=by simpa using hb
  exact hz (by rw [<- this,<- e]; exact ha)
 | some v =>
  have hin:=yGk e
  rw [hk] at hin
  have hz:z ∈ ns:=by
   obtain ⟨y,hy,e2⟩:=List.mem_map.mp hin
   have:y = z:=Sum.inl.inj e2
   rw [<- this]; exact hy
  refine ⟨_,ns,z0c,?_,hnd,by simp; omega,fun x=>?_⟩
  ·have:(putK kvs (Sum.inl z) (V.bl true)).map (·.1) = kvs.map (·.1):=y8x e
   rw [this,hk]
  ·rw [List.mem_append,<- hm]
   exact ⟨Or.inl,fun h=>h.elim id fun h=>by rw [show x = z by simpa using h]; exact hz⟩
theorem zJa:∀ {a b:List Int},a.Nodup -> (∀ x ∈ a,x ∈ b) -> a.length <= b.length
 | [],_,_,_=>Nat.zero_le _
 | x :: a,b,hn,h=>by
  obtain ⟨h1,h2⟩:=List.nodup_cons.mp hn
  have hx:=h x List.mem_cons_self
  have:=zJa (b:=b.erase x) h2 fun y hy=>by
   have hne:y ≠ x:=fun e=>h1 (by rw [<- e]; exact hy)
   exact (List.mem_erase_of_ne hne).mpr (h y (List.mem_cons_of_mem _ hy))
  rw [List.length_erase_of_mem hx] at this
  have:0 < b.length:=List.length_pos_of_mem hx
  rw [List.length_cons]
  omega
section
variable {X:Cx}
end
def zBk (rule:List (List Int)):Prop:=(∃ D:List Int,D.length < 64 /\ ∀ h ∈ rule,∀ x ∈ h,x ∈ D) /\ (∀ h ∈ rule,h.length <= 100) /\ ∀ h ∈ rule,∀ x ∈ h,1 <= x
theorem zGm {rule:List (List Int)} {ch:List Int} {l:List Int} (h:l ∈ z1y rule ch):l ∈ rule \/ l = []:=by
 obtain ⟨j,_,rfl⟩:=List.mem_map.mp h
 by_cases hj:j.toNat < rule.length
 ·left
  rw [List.getD_eq_getElem?_getD,List.getElem?_eq_getElem hj]
  exact List.getElem_mem hj
 ·right
  rw [List.getD_eq_getElem?_getD,List.getElem?_eq_none (by omega)]
  rfl
theorem zBk.pick {rule:List (List Int)} (h:zBk rule) {ch:List Int} (hc:ch.length <= 6):(∃ D:List Int,D.length < 64 /\ ∀ x ∈ (z1y rule ch).flatten,x ∈ D) /\ (z1y rule ch).flatten.length < 1000:=by
 obtain ⟨⟨D,hD,hm⟩,hl,_⟩:=h
 refine ⟨⟨D,hD,fun x hx=>?_⟩,?_⟩
 ·obtain ⟨l,hl,hx⟩:=List.mem_flatten.mp hx
  rcases zGm hl with h | h
  ·exact hm l h x hx
  ·rw [h] at hx
   cases hx
 ·have:(z1y rule ch).flatten.length <= 100 * (z1y rule ch).length:=y7b fun l hl'=>by
   rcases zGm hl' with h | h
   ·exact hl l h
   ·rw [h]
    exact Nat.zero_le _
  have e:(z1y rule ch).length = ch.length:=by unfold z1y; rw [List.length_map]
  omega
def wayF (m j:Nat):Int:=(wayR m).reverse.getD j 0
theorem zAl (rule:List (List Int)) (W:Nat -> Int) (n:Nat) (cs:List (List Int)) (c:List Int):z6k rule W n (cs ++ [c]) = z6k rule W n cs + sgnG c * if (z3y (z1y rule c)).sum <= (n:Int) then W (n - (z3y (z1y rule c)).sum.toNat) else 0:=by
 unfold z6k
 rw [List.map_append,List.sum_append]
 simp
theorem zIf {rule:List (List Int)} (h:zBk rule) (ch:List Int):0 <= (z3y (z1y rule ch)).sum:=by
 refine (yEd fun x hx=>?_).1
 have hj:=z6r (z1y rule ch)
 have h1:0 < (z3y (z1y rule ch)).count x:=List.count_pos_iff.mpr hx
 rw [hj.2 x] at h1
 refine Decidable.byContradiction fun hx1=>?_
 have:maxC (z1y rule ch) x <= 0:=zCj fun l hl=>by
  have e:l.count x = 0:=List.count_eq_zero.mpr fun hm=>by
   rcases zGm hl with z | z
   ·exact hx1 (h.2.2 l z x hm)
   ·rw [z] at hm
    cases hm
  omega
 omega
theorem zBc {rule:List (List Int)} (hp:∀ h ∈ rule,∀ x ∈ h,1 <= x) {n:Nat} (hn:n <= 24):(((z2a rule n).length:Nat):Int) = z6k rule (wayF n) n (chG (upto rule.length)):=by
 rw [y0s hp (fun c=>z3y (z1y rule c)) (fun c _=>z6r _) (show n < 26 by omega)]
 unfold z6k
 refine yFd fun c _=>?_
 congr 1
 by_cases d:(z3y (z1y rule c)).sum <= (n:Int)
 ·rw [if_pos d,if_pos d]
  generalize (z3y (z1y rule c)).sum.toNat = a
  have h12:=zEy (n - a) (by omega)
  unfold z2u at h12
  simp only [Bool.and_eq_true,beq_iff_eq] at h12
  rw [h12.1.1,yAm (by omega) (Nat.le_refl _)]
  unfold wayF
  have:=zHd (n - a) (n - (n - a)) (n - a) (Nat.le_refl _)
  rw [show n - a + (n - (n - a)) = n by omega] at this
  exact this.symm
 ·rw [if_neg d,if_neg d]
end L2
namespace L2
open PySem PySem.Spec PyProof.Rows
open PySem.Builtin.Str (occurrences subAt)
section
variable {X:Cx}
end
end L2
namespace L2
open PySem PySem.Spec PyProof.Rows
section
variable {X:Cx}
end
section
variable {X:Cx} {scope:Scope} {ls:List Str} {fr:List (Str × Nat)}
end
end L2
namespace L2
open PySem PySem.Spec PyProof.Rows
theorem Same.updN {H H':Hp} {p:Addr} {o:HO} (s:Same H H') (h:H p = none):Same H (upd H' p o):=fun b u e=>by rw [z0n (z0r e h)]; exact s b u e
abbrev natV (n:Nat):V:=V.int (n:Int)
theorem yHe {ns:List Nat} {i:Nat} {x:V} (h:(ns.map natV)[i]? = some x):∃ z,ns[i]? = some z /\ x = .int (z:Int):=by
 rw [List.getElem?_map] at h
 cases e:ns[i]? with
 | none=>rw [e] at h; cases h
 | some z=>rw [e] at h; exact ⟨z,rfl,(Option.some.inj h).symm⟩
theorem y3x {K:PySem.W.Frag} {i:Nat} {a:Addr} {xs:List V} {nm:Str} {fr:List (Str × Nat)} {te:TE} {σ:St} {H:Hp} {Q:VK} {β:Type} (R:β -> V -> Hp -> Prop) (bs:List β) (tl:St) (hb:bs.length = xs.length) (hle:xs.length <= sizeLine) (mono:∀ b v H H',Same H H' -> R b v H -> R b v H') (htl:zDk [nm] fr σ = none :: tl) (hs:σ[i]? = some (some (.ref a))) (h:H a = some (.lst xs))
  (step:∀ (j:Nat) (x:V) (b:β) (H':Hp) (P:VK),xs[j]? = some x -> bs[j]? = some b -> Same H H' -> (∀ v H'',Same H' H'' -> R b v H'' -> P v H'') -> te (some x :: tl) H' P)
  (hd:∀ zs H' p,Same H H' -> All2 R H' bs zs -> H' p = none -> Q (.ref p) (upd H' p (.lst zs))):yGi (yGx K (tVar i)) [nm] fr (zBx 0) tYes te σ H Q:=by
 refine ⟨_,hs,a,rfl,⟨_,SqL.of h⟩,z3t (xs:=xs) (fun j zs σ' H'=>Same H H' /\ (∃ v,σ' = v :: tl) /\ All2 R H' (bs.take j) zs /\ j <= bs.length) ⟨Same.refl _,⟨_,htl⟩,.nil,Nat.zero_le _⟩ ?_ ?_ ?_⟩
 ·rintro j zs σ' H' hj ⟨s',_,a2,hj'⟩
  refine ⟨SqL.of (s' _ _ h),?_⟩
  rw [<- a2.length,List.length_take]
  exact Nat.le_trans (Nat.min_le_right _ _) (by rw [hb]; exact hle)
 ·rintro j x zs σ' H' hx ⟨s',⟨v,rfl⟩,a2,hj'⟩
  have hj:j < bs.length:=by rw [hb]; exact (List.getElem?_eq_some_iff.mp hx).1
  have hbj:bs[j]? = some bs[j]:=List.getElem?_eq_getElem hj
  refine step j x bs[j] H' _ hx hbj s' fun v2 H2 s2 r2=>⟨s'.trans s2,⟨_,rfl⟩,?_,hj⟩
  rw [List.take_succ,hbj]
  exact (a2.imp fun _ _ z=>mono _ _ _ _ s2 z).snoc r2
 ·rintro zs σ' H' ⟨s',_,a2,_⟩ p hp
  rw [<- hb,List.take_length] at a2
  exact hd zs H' p s' a2 hp
theorem yBf (xs:List V) (s:Nat):cutV xs none (some (s:Int)) = xs.take (min s xs.length):=by
 unfold cutV
 rw [HT.sIx_none,HT.sIx_nat,List.drop_zero,Nat.sub_zero]
end L2
namespace L2
open PySem PySem.Spec PyProof.Rows PySem.NumText
section
variable {X:Cx}
end
def weight (ys:List Str):Nat:=(ys.map (·.length)).sum + ys.length
section
variable {X:Cx} {e:Expr} {es:List Expr} {te:TE} {t:TA}
end
end L2
namespace L2
open PySem PySem.Spec PyProof.Rows
open PySem.StrLaws (At ChainG partsFrom)
open PySem.Builtin.Str (occurrences subAt)
section
variable {X:Cx} {e a b:Expr} {es:List Expr} {te ta tb:TE} {t:TA} {pos:Pos}
end
theorem z9n {K:PySem.W.Frag} {a:Addr} {xs:List V} {te:TE} {σ0:St} {H:Hp} {Q:VK} {β:Type} (R:β -> V -> Hp -> Prop) (bs:List β) (tl:St) (hb:bs.length = xs.length) (hle:xs.length <= sizeLine) (mono:∀ b v H H',Same H H' -> R b v H -> R b v H') (htl:σ0 = none :: tl) (h:H a = some (.lst xs))
  (step:∀ (j:Nat) (x:V) (b:β) (H':Hp) (P:VK),xs[j]? = some x -> bs[j]? = some b -> Same H H' -> (∀ v H'',Same H' H'' -> R b v H'' -> P v H'') -> te (some x :: tl) H' P)
  (hd:∀ zs H' p,Same H H' -> All2 R H' bs zs -> H' p = none -> Q (.ref p) (upd H' p (.lst zs))):z9j (zBx 0) tYes te σ0 (Itl K a) H Q:=by
 refine z3t (xs:=xs) (fun j zs σ' H'=>Same H H' /\ (∃ v,σ' = v :: tl) /\ All2 R H' (bs.take j) zs /\ j <= bs.length) ⟨Same.refl _,⟨_,htl⟩,.nil,Nat.zero_le _⟩ ?_ ?_ ?_
 ·rintro j zs σ' H' hj ⟨s',_,a2,hj'⟩
  refine ⟨SqL.of (s' _ _ h),?_⟩
  rw [<- a2.length,List.length_take]
  exact Nat.le_trans (Nat.min_le_right _ _) (by rw [hb]; exact hle)
 ·rintro j x zs σ' H' hx ⟨s',⟨v,rfl⟩,a2,hj'⟩
  have hj:j < bs.length:=by rw [hb]; exact (List.getElem?_eq_some_iff.mp hx).1
  have hbj:bs[j]? = some bs[j]:=List.getElem?_eq_getElem hj
  refine step j x bs[j] H' _ hx hbj s' fun v2 H2 s2 r2=>⟨s'.trans s2,⟨_,rfl⟩,?_,hj⟩
  rw [List.take_succ,hbj]
  exact (a2.imp fun _ _ z=>mono _ _ _ _ s2 z).snoc r2
 ·rintro zs σ' H' ⟨s',_,a2,_⟩ p hp
  rw [<- hb,List.take_length] at a2
  exact hd zs H' p s' a2 hp
end L2
namespace L2
open PySem PySem.Spec PyProof.Rows
section
variable {X:Cx} {elts:List Expr} {x1:Nat} {tpos:Pos}
end
end L2
namespace L2
open PySem PySem.Spec PyProof.Rows
theorem yBw {ls:List (List Int)} {x:Int} (h:0 < maxC ls x):∃ l ∈ ls,x ∈ l:=by
 induction ls with
 | nil=>simp [maxC] at h
 | cons a r ih =>
  rw [maxC] at h
  by_cases ha:0 < a.count x
  ·exact ⟨a,by simp,List.count_pos_iff.mp ha⟩
  ·obtain ⟨l,hl,hx⟩:=ih (by omega)
   exact ⟨l,List.mem_cons_of_mem _ hl,hx⟩
theorem yBs {ls:List (List Int)} {x:Int} (h:x ∈ z3y ls):∃ l ∈ ls,x ∈ l:=by
 refine yBw ?_
 rw [<- (z6r ls).2 x]
 exact List.count_pos_iff.mpr h
theorem z7v (l:List Int) (x:Int):(z6u l).count x = l.count x:=(z3m l).count_eq x
theorem zIb {α:Type} (f:α -> List Int) (rows:List α) (j:Nat):(rows.map f).getD j [] = match rows[j]? with | some r=>f r | none=>[]:=by
 rw [List.getD_eq_getElem?_getD,List.getElem?_map]
 cases rows[j]? <;> rfl
end L2
namespace L2
open PySem PySem.Spec PyProof.Rows
section
variable {X:Cx} {scope1 scope:Scope} {N1 N:List Str} {C1 C:Addr} {s1 s:Shared} {H1 H:Hp} {ex1 ex:List Addr}
end
end L2
namespace L2
open PySem PySem.Spec PyProof.Rows
end L2
namespace L2
open PySem PySem.Spec PyProof.Rows
theorem yBe (xs:List V) (s:Nat):cutV xs none (some (s:Int)) = xs.take s:=by
 rw [yBf]
 rcases Nat.le_total s xs.length with h | h
 ·rw [Nat.min_eq_left h]
 ·rw [Nat.min_eq_right h,List.take_length,List.take_of_length_le h]
end L2
namespace L2
open PySem PySem.Spec PyProof.Rows
section
variable {prog:Program} {w:World} {A:Around} {E:Value -> Shared -> Prop} {s:Shared}
end
end L2
namespace L2
open PySem PySem.Spec PyProof.Rows
section
variable {prog:Program} {w:World} {A:Around} {E:Value -> Shared -> Prop} {s:Shared}
end
end L2
namespace L2
open PySem PySem.Spec PyProof.Rows
section
variable {prog:Program} {w:World} {A:Around} {E:Value -> Shared -> Prop} {s:Shared}
end
end L2
namespace L2
open PySem PySem.Spec PyProof.Rows
structure SB (a₀:Array Keyed) (st:SortSt):Prop where
 perm:(arrOf st).Perm a₀
 kind:kindOf st = oneType'
 failed:failedOf st = none
section
variable {prog:Program} {w:World} {A:Around} {E:Value -> Shared -> Prop} {s:Shared} {a₀:Array Keyed}
end
end L2
namespace L2
open PySem PySem.Spec PyProof.Rows
section
variable {prog:Program} {w:World} {A:Around} {E:Value -> Shared -> Prop} {s:Shared} {a₀:Array Keyed}
end
end L2
namespace L2
open PySem PySem.Spec PyProof.Rows
section
variable {prog:Program} {w:World} {A:Around} {E:Value -> Shared -> Prop} {s:Shared} {a₀:Array Keyed}
end
end L2
namespace L2
open PySem PySem.Spec PyProof.Rows
section
variable {prog:Program} {w:World} {A:Around} {E:Value -> Shared -> Prop} {s:Shared}
end
section
variable {X:Cx}
end
end L2
namespace L2
open PySem PySem.Spec PyProof.Rows
def SmG:Nat -> Hp -> V -> V -> Prop
 | 0,_,_,_=>False
 | n + 1,H,x,y=>(∃ i:Int,x = .int i /\ y = .int i) \/ (∃ b:Bool,x = .bl b /\ y = .bl b) \/ (x = .non /\ y = .non) \/ (∃ z:Str,x = .str z /\ y = .str z) \/
   (∃ (f d:Addr) (xs ys:List V),x = .ref f /\ y = .ref d /\ ((H f = some (.tup xs) /\ H d = some (.tup ys)) \/ (H f = some (.lst xs) /\ H d = some (.lst ys))) /\ xs.length = ys.length /\ xs.length <= 100000 /\
    ∀ (i:Nat) (x y:V),xs[i]? = some x -> ys[i]? = some y -> SmG n H x y)
theorem SmG.mv {H H':Hp} (s:Same H H'):∀ {n:Nat} {x y:V},SmG n H x y -> SmG n H' x y
 | 0,_,_,h=>h.elim
 | n + 1,x,y,h=>by
  rcases h with h | h | h | h | ⟨f,d,xs,ys,e1,e2,h,hl,hb,k⟩
  ·exact .inl h
  ·exact .inr (.inl h)
  ·exact .inr (.inr (.inl h))
  ·exact .inr (.inr (.inr (.inl h)))
  ·refine .inr (.inr (.inr (.inr ⟨f,d,xs,ys,e1,e2,?_,hl,hb,fun i x y hx hy=>SmG.mv s (k i x y hx hy)⟩)))
   rcases h with ⟨h1,h2⟩ | ⟨h1,h2⟩
   ·exact .inl ⟨s _ _ h1,s _ _ h2⟩
   ·exact .inr ⟨s _ _ h1,s _ _ h2⟩
theorem SmG.int {n:Nat} {H:Hp} (i:Int):SmG (n + 1) H (.int i) (.int i):=.inl ⟨i,rfl,rfl⟩
theorem SmG.tup {n:Nat} {H:Hp} {f d:Addr} {xs ys:List V} (h1:H f = some (.tup xs)) (h2:H d = some (.tup ys)) (hl:xs.length = ys.length) (hb:xs.length <= 100000) (k:∀ (i:Nat) (x y:V),xs[i]? = some x -> ys[i]? = some y -> SmG n H x y):SmG (n + 1) H (.ref f) (.ref d) :=
 .inr (.inr (.inr (.inr ⟨f,d,xs,ys,rfl,rfl,.inl ⟨h1,h2⟩,hl,hb,k⟩)))
theorem SmG.lst {n:Nat} {H:Hp} {f d:Addr} {xs ys:List V} (h1:H f = some (.lst xs)) (h2:H d = some (.lst ys)) (hl:xs.length = ys.length) (hb:xs.length <= 100000) (k:∀ (i:Nat) (x y:V),xs[i]? = some x -> ys[i]? = some y -> SmG n H x y):SmG (n + 1) H (.ref f) (.ref d) :=
 .inr (.inr (.inr (.inr ⟨f,d,xs,ys,rfl,rfl,.inr ⟨h1,h2⟩,hl,hb,k⟩)))
theorem SmG.pair {n:Nat} {H:Hp} {f d:Addr} {x1 x2 y1 y2:V} (h1:H f = some (.tup [x1,x2])) (h2:H d = some (.tup [y1,y2])) (k1:SmG n H x1 y1) (k2:SmG n H x2 y2):SmG (n + 1) H (.ref f) (.ref d) :=
 .tup h1 h2 rfl (by show 2 <= 100000; decide) fun i x y hx hy=>by
  match i,hx,hy with
  | 0,hx,hy=>cases hx; cases hy; exact k1
  | 1,hx,hy=>cases hx; cases hy; exact k2
theorem y6d {α:Type} {R S:α -> V -> Hp -> Prop} {n:Nat} {H:Hp} {l:List α} {xs ys:List V} (a1:All2 R H l xs) (a2:All2 S H l ys) (k:∀ a x y,a ∈ l -> R a x H -> S a y H -> SmG n H x y):xs.length = ys.length /\ ∀ (i:Nat) (x y:V),xs[i]? = some x -> ys[i]? = some y -> SmG n H x y:=by
 refine ⟨by rw [<- a1.length,a2.length],fun i x y hx hy=>?_⟩
 obtain ⟨a,ha,r⟩:=a1.get hx
 obtain ⟨b,hb,r'⟩:=a2.get hy
 rw [ha] at hb
 cases hb
 exact k a x y (List.mem_of_getElem? ha) r r'
theorem SmG.lstR {α:Type} {R S:α -> V -> Hp -> Prop} {n:Nat} {H:Hp} {f d:Addr} {l:List α} {xs ys:List V} (h1:H f = some (.lst xs)) (h2:H d = some (.lst ys)) (a1:All2 R H l xs) (a2:All2 S H l ys) (hl:l.length <= 100000) (k:∀ a x y,a ∈ l -> R a x H -> S a y H -> SmG n H x y):SmG (n + 1) H (.ref f) (.ref d) :=
 .lst h1 h2 (y6d a1 a2 k).1 (by rw [<- a1.length]; exact hl) (y6d a1 a2 k).2
theorem SmG.ints {H:Hp} {n:Nat} {f d:Addr} {ns:List Int} (h1:H f = some (.tup (ns.map V.int))) (h2:H d = some (.tup (ns.map V.int))) (hl:ns.length <= 100000):SmG (n + 2) H (.ref f) (.ref d) :=
 .tup h1 h2 rfl (by rw [List.length_map]; exact hl) fun i x y hx hy=>by
  obtain ⟨z,hz,rfl⟩:=z5q hx
  obtain ⟨z',hz',rfl⟩:=z5q hy
  rw [hz] at hz'
  cases hz'
  exact .int z
def yIa:V -> Prop
 | .non=>True | .bl _=>True | .int _=>True | .str _=>True | .ref _=>True
 | _=>False
theorem yDp {X:Cx}:OpR X (compareOp .Is) (fun x y H Q=>∃ c:Bool,y = .bl c /\ yIa x /\ Q (.bl (decide (x = .bl c))) H):=by
 intro pins s σ H x y v u Q I rx ry h
 obtain ⟨c,rfl,hx,q⟩:=h
 cases ry
 cases x with
 | non=>cases rx; refine wpAny_is_plain rfl ⟨.bl _,H,I,?_,q⟩; rfl
 | bl b=>cases rx; refine wpAny_is_plain rfl ⟨.bl _,H,I,?_,q⟩; cases b <;> cases c <;> rfl
 | int i=>obtain ⟨t,rfl⟩:=rx; refine wpAny_is_plain rfl ⟨.bl _,H,I,?_,q⟩; rfl
 | str z=>obtain ⟨t,rfl⟩:=rx; refine wpAny_is_plain rfl ⟨.bl _,H,I,?_,q⟩; rfl
 | ref a=>cases rx; refine wpAny_is_plain rfl ⟨.bl _,H,I,?_,q⟩; rfl
 | byt b=>exact hx.elim
 | flt b=>exact hx.elim
 | ty b=>exact hx.elim
end L2
namespace L2
open PySem PySem.Spec PyProof.Rows
theorem z8n {a b:List Int} (h:∀ x,a.count x <= b.count x):lies a b = true:=List.all_eq_true.mpr fun x _=>decide_eq_true (h x)
section
variable {prog:Program} {w:World} {A:Around} {E:Value -> Shared -> Prop} {s:Shared}
end
end L2
namespace L2
open PySem PySem.Spec PyProof.Rows
def maxL (f:Nat -> Nat):List Int -> Nat
 | []=>0
 | j :: c=>max (f j.toNat) (maxL f c)
theorem y1a {f:Nat -> Nat} {B:Nat} (h:∀ j,f j <= B):∀ c,maxL f c <= B
 | []=>Nat.zero_le _
 | j :: c=>by
  have:=h j.toNat
  have:=y1a h c
  rw [maxL]
  omega
theorem z7b {α:Type} (f:α -> List Int) (x:Int):∀ ds:List α,(∀ d ∈ ds,x ∉ f d) -> (ds.flatMap f).count x = 0:=fun ds h=>List.count_eq_zero_of_not_mem fun z=>by
 obtain ⟨d,hd,hx⟩:=List.mem_flatMap.mp z
 exact h d hd hx
theorem z6f {α:Type} (f parts:α -> List Int) (x:Int) (d0:α):∀ ds:List α,(ds.flatMap parts).Nodup -> (∀ d ∈ ds,∀ y ∈ f d,y ∈ parts d) -> d0 ∈ ds -> x ∈ parts d0 -> (ds.flatMap f).count x = (f d0).count x
 | [],_,_,h,_=>by cases h
 | d :: ds,hn,hp,hd,hx=>by
  rw [List.flatMap_cons] at hn
  have hn2:=(List.nodup_append.mp hn).2.1
  have hdj:=(List.nodup_append.mp hn).2.2
  rw [List.flatMap_cons,List.count_append]
  rcases List.mem_cons.mp hd with e | hd
  ·subst e
   rw [z7b f x ds fun d' hd' hx'=>hdj x hx x (List.mem_flatMap.mpr ⟨d',hd',hp d' (List.mem_cons_of_mem _ hd') x hx'⟩) rfl]
   rfl
  ·have h0:(f d).count x = 0:=List.count_eq_zero_of_not_mem fun z=>hdj x (hp d (by simp) x z) x (List.mem_flatMap.mpr ⟨d0,hd,hx⟩) rfl
   rw [h0,Nat.zero_add]
   exact z6f f parts x d0 ds hn2 (fun d' hd'=>hp d' (List.mem_cons_of_mem _ hd')) hd hx
theorem y2e {α:Type} (f:α -> List Int):∀ ds:List α,(ds.flatMap f).sum = (ds.map fun d=>(f d).sum).sum
 | []=>rfl
 | d :: ds=>by rw [List.flatMap_cons,List.sum_append,y2e f ds,List.map_cons,List.sum_cons]
theorem y2a {α:Type} {ds:List α} {row:α -> Nat -> List Int} {lev:α -> Nat -> Nat} {parts:α -> List Int} {A:List (List Int)} (hn:(ds.flatMap parts).Nodup)
  (hp:∀ d ∈ ds,∀ v,∀ x ∈ row d v,x ∈ parts d) (hz:∀ d ∈ ds,row d 0 = []) (hl:∀ d ∈ ds,∀ j,lev d j <= 2) (hm:∀ d ∈ ds,∀ v w x,v <= w -> w <= 2 -> (row d v).count x <= (row d w).count x)
  (hA:∀ j x,(A.getD j []).count x = (ds.flatMap fun d=>row d (lev d j)).count x) (c:List Int):(z3y (z1y A c)).sum = (ds.map fun d=>(row d (maxL (lev d) c)).sum).sum:=by
 rw [<- y2e fun d=>row d (maxL (lev d) c)]
 refine zGl (List.perm_iff_count.mpr fun x=>?_)
 rw [(z6r _).2]
 by_cases hx:∃ d0 ∈ ds,x ∈ parts d0
 ·obtain ⟨d0,hd0,hx0⟩:=hx
  rw [z6f (fun d=>row d (maxL (lev d) c)) parts x d0 ds hn (fun d hd=>hp d hd _) hd0 hx0]
  unfold z1y
  induction c with
  | nil =>
   show 0 = (row d0 0).count x
   rw [hz d0 hd0]
   rfl
  | cons j c ih =>
   rw [List.map_cons,maxC,ih,hA,z6f (fun d=>row d (lev d j.toNat)) parts x d0 ds hn (fun d hd=>hp d hd _) hd0 hx0,maxL]
   have b1:=hl d0 hd0 j.toNat
   have b2:=y1a (hl d0 hd0) c
   rcases Nat.le_total (lev d0 j.toNat) (maxL (lev d0) c) with h | h
   ·rw [Nat.max_eq_right h]
    exact Nat.max_eq_right (hm d0 hd0 _ _ x h b2)
   ·rw [Nat.max_eq_left h]
    exact Nat.max_eq_left (hm d0 hd0 _ _ x h b1)
 ·have no:∀ (g:α -> Nat),(ds.flatMap fun d=>row d (g d)).count x = 0:=fun g=>z7b _ x ds fun d hd z=>hx ⟨d,hd,hp d hd _ x z⟩
  rw [no fun d=>maxL (lev d) c]
  refine Nat.le_zero.mp (zCj fun l hl'=>?_)
  obtain ⟨j,_,rfl⟩:=List.mem_map.mp hl'
  rw [hA,no fun d=>lev d j.toNat]
  exact Nat.le_refl _
structure LD where
 L:Nat
 R:Nat
 m:Nat
 k:Nat
 sp:Bool
 lev:List Nat
structure LD.Ok (d:LD):Prop where
 l1:1 <= d.L
 l8:d.L <= 8
 r1:1 <= d.R
 r8:d.R <= 8
 m8:d.m <= 8
 k8:d.k <= 8
 eq:d.L * d.m = d.R * d.k
 dv:d.sp = true -> d.R * (d.L / d.R) = d.L /\ d.R < d.L
 lv:∀ v ∈ d.lev,v <= 2
 mR:d.m <= d.R
 kL:d.k <= d.L
def LD.at (d:LD) (j:Nat):Nat:=d.lev.getD j 0
theorem LD.Ok.at {d:LD} (h:d.Ok) (j:Nat):d.at j <= 2:=by
 unfold LD.at
 rw [List.getD_eq_getElem?_getD]
 cases e:d.lev[j]? with
 | none=>exact Nat.zero_le _
 | some v=>exact h.lv v (List.mem_of_getElem? e)
def LD.cut (d:LD) (v:Nat):Nat:=if v = 0 then 0 else if v = 1 then 1 else 1 + d.L / d.R
def LD.lrow (d:LD) (v:Nat):List Int:=if d.sp then List.replicate v (d.L:Int) else List.replicate (v * d.m) (d.L:Int)
def LD.rrow (d:LD) (v:Nat):List Int:=if d.sp then ((d.L:Int) :: List.replicate (d.L / d.R) (d.R:Int)).take (d.cut v) else List.replicate (v * d.k) (d.R:Int)
def LD.lparts (d:LD):List Int:=[(d.L:Int)]
def LD.rparts (d:LD):List Int:=if d.sp then [(d.R:Int),(d.L:Int)] else [(d.R:Int)]
theorem zGq (n:Nat) (x:Int):(List.replicate n x).sum = n * x:=yGh n x
theorem LD.sums {d:LD} (h:d.Ok) {v:Nat} (hv:v <= 2):(d.lrow v).sum = (d.rrow v).sum:=by
 unfold LD.lrow LD.rrow
 cases hs:d.sp with
 | false =>
  rw [if_neg (by decide),if_neg (by decide),zGq,zGq]
  have e:=h.eq
  have:((v * d.m * d.L:Nat):Int) = ((v * d.k * d.R:Nat):Int):=by
   rw [Nat.mul_assoc,Nat.mul_comm d.m,e,Nat.mul_comm d.R,Nat.mul_assoc]
  simpa using this
 | true =>
  rw [if_pos rfl,if_pos rfl,zGq]
  have e:=(h.dv hs).1
  match v,hv with
  | 0,_=>simp [LD.cut]
  | 1,_=>simp [LD.cut]
  | 2,_ =>
   have ec:d.cut 2 = 1 + d.L / d.R:=rfl
   rw [ec,List.take_of_length_le (by simp; omega),List.sum_cons,zGq]
   have:((2 * d.L:Nat):Int) = ((d.L + d.L / d.R * d.R:Nat):Int):=by
    rw [Nat.mul_comm (d.L / d.R),e]
    omega
   simpa using this
theorem LD.lsub (d:LD) (v:Nat):∀ x ∈ d.lrow v,x ∈ d.lparts:=fun x hx=>by
 unfold LD.lrow at hx
 unfold LD.lparts
 split at hx <;> rw [List.eq_of_mem_replicate hx] <;> simp
theorem LD.rsub (d:LD) (v:Nat):∀ x ∈ d.rrow v,x ∈ d.rparts:=fun x hx=>by
 unfold LD.rrow at hx
 unfold LD.rparts
 cases hs:d.sp with
 | false =>
  rw [hs,if_neg (by decide)] at hx
  rw [if_neg (by decide),List.eq_of_mem_replicate hx]
  simp
 | true =>
  rw [hs,if_pos rfl] at hx
  rw [if_pos rfl]
  rcases List.mem_cons.mp (List.mem_of_mem_take hx) with h | h
  ·rw [h]; simp
  ·rw [List.eq_of_mem_replicate h]; simp
theorem LD.lmono (d:LD) {v w:Nat} (x:Int) (h:v <= w):(d.lrow v).count x <= (d.lrow w).count x:=by
 unfold LD.lrow
 split
 ·rw [List.count_replicate,List.count_replicate]
  split <;> omega
 ·rw [List.count_replicate,List.count_replicate]
  split
  ·exact Nat.mul_le_mul_right _ h
  ·exact Nat.le_refl _
theorem LD.rmono (d:LD) {v w:Nat} (x:Int) (h:v <= w):(d.rrow v).count x <= (d.rrow w).count x:=by
 unfold LD.rrow
 split
 ·refine List.Sublist.count_le x ?_
  have hc:d.cut v <= d.cut w:=by
   unfold LD.cut
   generalize d.L / d.R = q
   by_cases v0:v = 0
   ·rw [if_pos v0]; omega
   ·by_cases w0:w = 0
    ·omega
    ·rw [if_neg v0,if_neg w0]
     by_cases v1:v = 1
     ·rw [if_pos v1]; split <;> omega
     ·rw [if_neg v1,if_neg (by omega)]; omega
  have e:((d.L:Int) :: List.replicate (d.L / d.R) (d.R:Int)).take (d.cut v) = (((d.L:Int) :: List.replicate (d.L / d.R) (d.R:Int)).take (d.cut w)).take (d.cut v):=by rw [List.take_take,Nat.min_eq_left hc]
  rw [e]
  exact List.take_sublist _ _
 ·rw [List.count_replicate,List.count_replicate]
  split
  ·exact Nat.mul_le_mul_right _ h
  ·exact Nat.le_refl _
theorem LD.lzero (d:LD):d.lrow 0 = []:=by unfold LD.lrow; split <;> simp
theorem LD.rzero (d:LD):d.rrow 0 = []:=by unfold LD.rrow; split <;> simp [LD.cut]
def lefH (ds:List LD) (j:Nat):List Int:=ds.flatMap fun d=>d.lrow (d.at j)
def rigH (ds:List LD) (j:Nat):List Int:=ds.flatMap fun d=>d.rrow (d.at j)
structure LDs (ds:List LD) (n:Nat):Prop where
 ok:∀ d ∈ ds,d.Ok
 ln:∀ d ∈ ds,d.lev.length = n
 l:(ds.flatMap LD.lparts).Nodup
 r:(ds.flatMap LD.rparts).Nodup
 few:ds.length <= 4
def zEf (f:List LD -> Nat -> List Int) (ds:List LD) (n:Nat):List (List Int):=(List.range n).map fun j=>z6u (f ds j)
theorem y3l {f:List LD -> Nat -> List Int} {ds:List LD} {n:Nat} (h0:∀ j,n <= j -> f ds j = []) (j:Nat) (x:Int):((zEf f ds n).getD j []).count x = (f ds j).count x:=by
 unfold zEf
 rw [zIb]
 by_cases h:j < n
 ·rw [List.getElem?_range h]
  exact z7v _ x
 ·rw [List.getElem?_eq_none_iff.mpr (by rw [List.length_range]; omega),h0 j (by omega)]
theorem LD.at_out {d:LD} {j:Nat} (h:d.lev.length <= j):d.at j = 0:=by
 unfold LD.at
 rw [List.getD_eq_getElem?_getD,List.getElem?_eq_none_iff.mpr h]
 rfl
theorem y1m {ds:List LD} {n:Nat} (h:LDs ds n) (c:List Int):(z3y (z1y (zEf lefH ds n) c)).sum = (z3y (z1y (zEf rigH ds n) c)).sum:=by
 have out:∀ (g:LD -> Nat -> List Int),(∀ d,g d 0 = []) -> ∀ j,n <= j -> (ds.flatMap fun d=>g d (d.at j)) = []:=fun g hg j hj=>by
  refine List.flatMap_eq_nil_iff.mpr fun d hd=>?_
  rw [LD.at_out (by rw [h.ln d hd]; exact hj),hg]
 rw [y2a (row:=LD.lrow) (lev:=LD.at) h.l (fun d _=>d.lsub) (fun d _=>d.lzero) (fun d hd=>(h.ok d hd).at) (fun d _ v w x hv _=>d.lmono x hv) (fun j x=>y3l (f:=lefH) (out LD.lrow LD.lzero) j x) c,
  y2a (row:=LD.rrow) (lev:=LD.at) h.r (fun d _=>d.rsub) (fun d _=>d.rzero) (fun d hd=>(h.ok d hd).at) (fun d _ v w x hv _=>d.rmono x hv) (fun j x=>y3l (f:=rigH) (out LD.rrow LD.rzero) j x) c]
 congr 1
 exact List.map_congr_left fun d hd=>LD.sums (h.ok d hd) (y1a (h.ok d hd).at c)
structure Matched (one other:List (List Int)) (n:Nat):Prop where
 l1:one.length = n
 l2:other.length = n
 g1:∀ h ∈ one,h.length <= 64 /\ (∀ x ∈ h,1 <= x /\ x <= 8) /\ h.Pairwise (· >= ·)
 g2:∀ h ∈ other,h.length <= 64 /\ (∀ x ∈ h,1 <= x /\ x <= 8) /\ h.Pairwise (· >= ·)
 eq:∀ c,(z3y (z1y one c)).sum = (z3y (z1y other c)).sum
theorem Matched.swap {one other:List (List Int)} {n:Nat} (h:Matched one other n):Matched other one n:=⟨h.l2,h.l1,h.g2,h.g1,fun c=>(h.eq c).symm⟩
theorem z4j {α:Type} (f:α -> List Int) (B:Nat):∀ ds:List α,(∀ d ∈ ds,(f d).length <= B) -> (ds.flatMap f).length <= B * ds.length
 | [],_=>Nat.zero_le _
 | d :: ds,h=>by
  have h1:=h d (by simp)
  have h2:=z4j f B ds fun x hx=>h x (List.mem_cons_of_mem _ hx)
  rw [List.flatMap_cons,List.length_append,List.length_cons,Nat.mul_succ]
  omega
theorem LD.lrow_len {d:LD} (h:d.Ok) {v:Nat} (hv:v <= 2):(d.lrow v).length <= 16:=by
 unfold LD.lrow
 split
 ·rw [List.length_replicate]; omega
 ·rw [List.length_replicate]
  have:=Nat.mul_le_mul hv h.m8
  omega
theorem LD.rrow_len {d:LD} (h:d.Ok) {v:Nat} (hv:v <= 2):(d.rrow v).length <= 16:=by
 unfold LD.rrow
 split
 ·rw [List.length_take,List.length_cons,List.length_replicate]
  have:=Nat.div_le_self d.L d.R
  have:=h.l8
  omega
 ·rw [List.length_replicate]
  have:=Nat.mul_le_mul hv h.k8
  omega
theorem LD.bound {d:LD} (h:d.Ok):(∀ x ∈ d.lparts,1 <= x /\ x <= 8) /\ ∀ x ∈ d.rparts,1 <= x /\ x <= 8:=by
 have a:=h.l1; have b:=h.l8; have c:=h.r1; have e:=h.r8
 constructor
 ·intro x hx
  unfold LD.lparts at hx
  have:x = d.L:=by simpa using hx
  omega
 ·intro x hx
  unfold LD.rparts at hx
  split at hx
  ·have:x = d.R \/ x = d.L:=by simpa using hx
   omega
  ·have:x = d.R:=by simpa using hx
   omega
theorem y4m {ds:List LD} {n:Nat} (h:LDs ds n):Matched (zEf lefH ds n) (zEf rigH ds n) n:=by
 have ln:∀ f,(zEf f ds n).length = n:=fun f=>by unfold zEf; rw [List.length_map,List.length_range]
 refine ⟨ln _,ln _,fun x hx=>?_,fun x hx=>?_,y1m h⟩
 ·obtain ⟨j,_,rfl⟩:=List.mem_map.mp hx
  refine ⟨?_,fun y hy=>?_,z7u _⟩
  ·rw [(z3m _).length_eq]
   have:=z4j (fun d:LD=>d.lrow (d.at j)) 16 ds fun d hd=>LD.lrow_len (h.ok d hd) ((h.ok d hd).at j)
   have:=Nat.mul_le_mul_left 16 h.few
   unfold lefH
   omega
  ·obtain ⟨d,hd,hy'⟩:=List.mem_flatMap.mp ((z3m _).mem_iff.mp hy)
   exact (LD.bound (h.ok d hd)).1 y (d.lsub _ y hy')
 ·obtain ⟨j,_,rfl⟩:=List.mem_map.mp hx
  refine ⟨?_,fun y hy=>?_,z7u _⟩
  ·rw [(z3m _).length_eq]
   have:=z4j (fun d:LD=>d.rrow (d.at j)) 16 ds fun d hd=>LD.rrow_len (h.ok d hd) ((h.ok d hd).at j)
   have:=Nat.mul_le_mul_left 16 h.few
   unfold rigH
   omega
  ·obtain ⟨d,hd,hy'⟩:=List.mem_flatMap.mp ((z3m _).mem_iff.mp hy)
   exact (LD.bound (h.ok d hd)).2 y (d.rsub _ y hy')
theorem y1s (f:LD -> List Int) (g:LD -> Nat):∀ ds:List LD,(∀ d ∈ ds,g d <= 8 /\ (g d:Int) ∈ f d) -> (ds.flatMap f).Nodup -> (ds.map fun d=>2 * g d).sum <= 14 * ds.length + (if (8:Int) ∈ ds.flatMap f then 2 else 0)
 | [],_,_=>Nat.zero_le _
 | d :: ds,h,hn=>by
  obtain ⟨h1,h2⟩:=h d (by simp)
  rw [List.flatMap_cons] at hn
  obtain ⟨_,n2,n3⟩:=List.nodup_append.mp hn
  have ih:=y1s f g ds (fun x hx=>h x (List.mem_cons_of_mem _ hx)) n2
  rw [List.map_cons,List.sum_cons,List.length_cons,List.flatMap_cons]
  by_cases c:g d = 8
  ·have h2:(8:Int) ∈ f d:=by rw [c] at h2; exact h2
   have n8:(8:Int) ∉ ds.flatMap f:=fun z=>n3 8 h2 8 z rfl
   rw [if_neg n8] at ih
   rw [if_pos (List.mem_append_left _ h2)]
   omega
  ·by_cases c8:(8:Int) ∈ ds.flatMap f
   ·rw [if_pos c8] at ih
    rw [if_pos (List.mem_append_right _ c8)]
    omega
   ·rw [if_neg c8] at ih
    omega
theorem z8l {α:Type} (f:α -> List Int) (g:α -> Nat):∀ ds:List α,(∀ d ∈ ds,(f d).length <= g d) -> (ds.flatMap f).length <= (ds.map g).sum
 | [],_=>Nat.zero_le _
 | d :: ds,h=>by
  have h1:=h d (by simp)
  have h2:=z8l f g ds fun x hx=>h x (List.mem_cons_of_mem _ hx)
  rw [List.flatMap_cons,List.length_append,List.map_cons,List.sum_cons]
  omega
theorem yFv {ds:List LD} {n:Nat} (h:LDs ds n) (j:Nat):(lefH ds j).length < 64 /\ (rigH ds j).length < 64:=by
 have h1:(lefH ds j).length <= (ds.map fun d=>2 * d.R).sum:=z8l _ _ ds fun d hd=>by
  have ok:=h.ok d hd
  have hv:=ok.at j
  unfold LD.lrow
  split
  ·rw [List.length_replicate]
   have:=ok.r1
   omega
  ·rw [List.length_replicate]
   exact Nat.mul_le_mul hv ok.mR
 have h2:(rigH ds j).length <= (ds.map fun d=>2 * d.L).sum:=z8l _ _ ds fun d hd=>by
  have ok:=h.ok d hd
  have hv:=ok.at j
  unfold LD.rrow
  split
  ·rw [List.length_take,List.length_cons,List.length_replicate]
   have:=Nat.div_le_self d.L d.R
   have:=ok.l1
   omega
  ·rw [List.length_replicate]
   exact Nat.mul_le_mul hv ok.kL
 have h3:=y1s LD.rparts LD.R ds (fun d hd=>⟨(h.ok d hd).r8,by unfold LD.rparts; split <;> simp⟩) h.r
 have h4:=y1s LD.lparts LD.L ds (fun d hd=>⟨(h.ok d hd).l8,by simp [LD.lparts]⟩) h.l
 have h5:=h.few
 constructor
 ·split at h3 <;> omega
 ·split at h4 <;> omega
def Lst1 (row:List Int) (v:V) (H:Hp):Prop:=∃ q,v = .ref q /\ H q = some (.lst (row.map V.int))
theorem Lst1.mv {H H':Hp} {row:List Int} {v:V} (s:Same H H'):Lst1 row v H -> Lst1 row v H'
 | ⟨q,e,h⟩=>⟨q,e,s _ _ h⟩
theorem All2.mvI {H H':Hp} {rows:List (List Int)} {xs:List V} (s:Same H H') (h:All2 Lst1 H rows xs):All2 Lst1 H' rows xs:=h.imp fun _ _ z=>z.mv s
theorem zBh (n:Nat) (x:Int):(List.replicate n [V.int x]).flatten = (List.replicate n x).map V.int:=by simp
theorem yBg (xs:List V) (n:Nat):cutV xs none (some (n:Int)) = xs.take n:=yBe xs n
def LstN (S:List Addr) (row:List Int) (v:V) (H:Hp):Prop:=∃ q,v = .ref q /\ q ∉ S /\ H q = some (.lst (row.map V.int))
theorem LstN.mv {S:List Addr} {H H':Hp} {row:List Int} {v:V} (k:Keep S H H'):LstN S row v H -> LstN S row v H'
 | ⟨q,e,n,h⟩=>⟨q,e,n,k _ _ h n⟩
theorem All2.mvN {S:List Addr} {H H':Hp} {rows:List (List Int)} {xs:List V} (k:Keep S H H') (h:All2 (LstN S) H rows xs):All2 (LstN S) H' rows xs:=h.imp fun _ _ z=>z.mv k
theorem All2.toL {S:List Addr} {H:Hp} {rows:List (List Int)} {xs:List V} (h:All2 (LstN S) H rows xs):All2 Lst1 H rows xs:=by
 induction h with
 | nil=>exact .nil
 | cons r _ ih=>obtain ⟨q,e,_,h⟩:=r; exact .cons ⟨q,e,h⟩ ih
theorem zFy {H:Hp} {a b q:Addr} {x y:HO} (ha:H a = some x) (hb:H b = some y) (hq:H q = none):q ∉ [a,b]:=fun z=>by
 simp only [List.mem_cons,List.not_mem_nil,or_false] at z
 rcases z with rfl | rfl
 ·rw [hq] at ha; cases ha
 ·rw [hq] at hb; cases hb
theorem y2q {H:Hp} {a b q:Addr} {x:HO} (ha:H a = none) (hb:H b = none) (hq:H q = some x):q ∉ [a,b]:=fun z=>by
 simp only [List.mem_cons,List.not_mem_nil,or_false] at z
 rcases z with rfl | rfl
 ·rw [hq] at ha; cases ha
 ·rw [hq] at hb; cases hb
theorem Keep.wide {S S':List Addr} {H H':Hp} (k:Keep S H H') (h:∀ a ∈ S,a ∈ S'):Keep S' H H':=fun b o e n=>k b o e fun z=>n (h b z)
theorem yBu (ds:List LD) (d:LD) (j:Nat):lefH (ds ++ [d]) j = lefH ds j ++ d.lrow (d.at j):=by unfold lefH; rw [List.flatMap_append]; simp
theorem yCp (ds:List LD) (d:LD) (j:Nat):rigH (ds ++ [d]) j = rigH ds j ++ d.rrow (d.at j):=by unfold rigH; rw [List.flatMap_append]; simp
theorem LD.at_some {d:LD} {j v:Nat} (h:d.lev[j]? = some v):d.at j = v:=by unfold LD.at; rw [List.getD_eq_getElem?_getD,h]; rfl
structure LDi (ds:List LD) (n i:Nat):Prop where
 ok:∀ d ∈ ds,d.Ok
 ln:∀ d ∈ ds,d.lev.length = n
 l:(ds.flatMap LD.lparts).Nodup
 r:(ds.flatMap LD.rparts).Nodup
 few:ds.length <= i
theorem LDi.nil (n:Nat):LDi [] n 0:=⟨(fun _ h=>by cases h),(fun _ h=>by cases h),List.nodup_nil,List.nodup_nil,Nat.le_refl _⟩
theorem LDi.lds {ds:List LD} {n i:Nat} (h:LDi ds n i) (hi:i <= 4):LDs ds n:=⟨h.ok,h.ln,h.l,h.r,Nat.le_trans h.few hi⟩
theorem LDi.mono {ds:List LD} {n i j:Nat} (h:LDi ds n i) (hi:i <= j):LDi ds n j:=⟨h.ok,h.ln,h.l,h.r,Nat.le_trans h.few hi⟩
theorem LDi.snoc {ds:List LD} {n i:Nat} {d:LD} (h:LDi ds n i) (ok:d.Ok) (ln:d.lev.length = n) (h1:(d.L:Int) ∉ ds.flatMap LD.lparts) (h2:(d.R:Int) ∉ ds.flatMap LD.rparts) (h3:d.sp = true -> (d.L:Int) ∉ ds.flatMap LD.rparts):LDi (ds ++ [d]) n (i + 1):=by
 refine ⟨fun x hx=>?_,fun x hx=>?_,?_,?_,by rw [List.length_append]; exact Nat.succ_le_succ h.few⟩
 ·rcases List.mem_append.mp hx with hx | hx
  ·exact h.ok x hx
  ·rw [List.mem_singleton.mp hx]; exact ok
 ·rcases List.mem_append.mp hx with hx | hx
  ·exact h.ln x hx
  ·rw [List.mem_singleton.mp hx]; exact ln
 ·rw [List.flatMap_append]
  refine List.nodup_append.mpr ⟨h.l,by simp [LD.lparts],fun x hx y hy e=>?_⟩
  have:y = d.L:=by simpa [LD.lparts] using hy
  rw [e,this] at hx
  exact h1 hx
 ·rw [List.flatMap_append]
  have hne:d.sp = true -> (d.R:Int) ≠ d.L:=fun z=>by have:=(ok.dv z).2; omega
  refine List.nodup_append.mpr ⟨h.r,?_,fun x hx y hy e=>?_⟩
  ·cases hs:d.sp with
   | false=>simp [LD.rparts,hs]
   | true=>simp [LD.rparts,hs]; have:=hne hs; omega
  ·subst e
   cases hs:d.sp with
   | false =>
    have:x = d.R:=by simpa [LD.rparts,hs] using hy
    rw [this] at hx
    exact h2 hx
   | true =>
    have:x = d.R \/ x = d.L:=by simpa [LD.rparts,hs] using hy
    rcases this with z | z
    ·rw [z] at hx; exact h2 hx
    ·rw [z] at hx; exact h3 hs hx
theorem zIl {ds:List LD} {n:Nat} (h:LDs ds n) (j:Nat):(lefH ds j).length <= 64 /\ (rigH ds j).length <= 64:=by
 have h1:=z4j (fun d:LD=>d.lrow (d.at j)) 16 ds fun d hd=>LD.lrow_len (h.ok d hd) ((h.ok d hd).at j)
 have h2:=z4j (fun d:LD=>d.rrow (d.at j)) 16 ds fun d hd=>LD.rrow_len (h.ok d hd) ((h.ok d hd).at j)
 have:=Nat.mul_le_mul_left 16 h.few
 unfold lefH rigH
 omega
theorem y2p (n:Nat):(List.range n).map (lefH []) = List.replicate n [] /\ (List.range n).map (rigH []) = List.replicate n []:=by
 constructor <;> exact List.ext_getElem (by simp) fun i h1 h2=>by simp [lefH,rigH]
def LstF (H0:Hp) (row:List Int) (v:V) (H:Hp):Prop:=∃ q,v = .ref q /\ H0 q = none /\ H q = some (.lst (row.map V.int))
theorem All2.mvF {H0 H H':Hp} {rows:List (List Int)} {xs:List V} (s:Same H H') (h:All2 (LstF H0) H rows xs):All2 (LstF H0) H' rows xs:=h.imp fun _ _ ⟨q,e,n,g⟩=>⟨q,e,n,s _ _ g⟩
theorem All2.toN {H0 H:Hp} {S:List Addr} {rows:List (List Int)} {xs:List V} (f:∀ q o,H q = some o -> H0 q = none -> q ∉ S) (h:All2 (LstF H0) H rows xs):All2 (LstN S) H rows xs:=by
 induction h with
 | nil=>exact .nil
 | cons r _ ih=>obtain ⟨q,e,n,g⟩:=r; exact .cons ⟨q,e,f q _ g n,g⟩ ih
end L2
namespace L2
open PySem PySem.Spec PyProof.Rows
theorem yJo {its:List Value} {ns:List Int} (r:Vals (ns.map V.int) its):PySem.W.kf_ints its = true:=by
 induction ns generalizing its with
 | nil=>cases r; rfl
 | cons n ns ih =>
  cases r with
  | cons r t =>
   obtain ⟨tk,rfl⟩:=r
   have h:=ih t
   unfold PySem.W.kf_ints
   exact h
theorem y2c:∀ {ns:List Int} {z:Int},z ∈ ns -> ∃ j,ns[j]? = some z /\ (∀ i,i < j -> ns[i]? ≠ some z) /\ ns.eraseIdx j = ns.erase z
 | x :: ns,z,h=>by
  by_cases e:x = z
  ·subst e
   exact ⟨0,rfl,(fun i hi=>by omega),by simp⟩
  ·have hz:z ∈ ns:=by
    rcases List.mem_cons.mp h with h | h
    ·exact absurd h.symm e
    ·exact h
   obtain ⟨j,h1,h2,h3⟩:=y2c hz
   refine ⟨j + 1,by simpa using h1,fun i hi=>?_,?_⟩
   ·cases i with
    | zero=>simpa using e
    | succ i=>simpa using h2 i (by omega)
   ·rw [List.eraseIdx_cons_succ,h3,List.erase_cons_tail (by simpa using e)]
theorem y2k {its:List Value} {ns:List Int} {i:Nat} {y z:Int} (r:Vals (ns.map V.int) its) (h:ns[i]? = some y):∃ u,its[i]? = some u /\ isInt z u = decide (y = z):=by
 obtain ⟨u,hu,ru⟩:=r.get (i:=i) (x:=.int y) (by rw [List.getElem?_map,h]; rfl)
 obtain ⟨t,rfl⟩:=ru
 exact ⟨_,hu,rfl⟩
theorem hits {its:List Value} {ns:List Int} {j:Nat} {z:Int} (r:Vals (ns.map V.int) its) (h1:ns[j]? = some z) (h2:∀ i,i < j -> ns[i]? ≠ some z) :
  ∃ hj:j < its.toArray.size,isInt z its.toArray[j] = true /\ ∀ m (hm:m < its.toArray.size),m < j -> isInt z its.toArray[m] = false:=by
 have hl:ns.length = its.length:=by rw [<- r.length,List.length_map]
 obtain ⟨u,hu,e⟩:=y2k (z:=z) r h1
 have hj:=(List.getElem?_eq_some_iff.mp hu).1
 refine ⟨by simpa using hj,?_,fun m hm hlt=>?_⟩
 ·have:its.toArray[j]'(by simpa using hj) = u:=by simpa using (List.getElem?_eq_some_iff.mp hu).2
  rw [this,e]
  simp
 ·have hm':m < ns.length:=by simp at hm; omega
  obtain ⟨u',hu',e'⟩:=y2k (z:=z) (i:=m) r (List.getElem?_eq_getElem hm')
  have:its.toArray[m] = u':=by simpa using (List.getElem?_eq_some_iff.mp hu').2
  rw [this,e']
  refine decide_eq_false fun q=>h2 m hlt ?_
  rw [List.getElem?_eq_getElem hm',q]
def yFu:V -> List V -> Hp -> VK -> Prop:=fun x vs H Q=>∃ (l:Addr) (ns:List Int) (z:Int),x = .ref l /\ vs = [.int z] /\ H l = some (.lst (ns.map V.int)) /\ z ∈ ns /\ Q .non (upd H l (.lst ((ns.erase z).map V.int)))
theorem y7x {X:Cx}:MtR X "list.remove" yFu:=by
 intro pins s σ H x vs v us Q I rx rv h
 obtain ⟨l,ns,z,rfl,rfl,hH,hz,q⟩:=h
 cases rx
 obtain ⟨u,rfl,ru⟩:=rv.one
 obtain ⟨t,rfl⟩:=ru
 obtain ⟨zz,its,n,r,hl,e⟩:=I.lstM hH
 obtain ⟨j,h1,h2,h3⟩:=y2c hz
 obtain ⟨hj,c1,c2⟩:=hits r h1 h2
 refine call_meets PySem.F.slot_list_remove ⟨_,e,rfl⟩ PySem.F.entry_list_remove (PySem.F.args_list_remove_2 _ _)
  (MeetsSeq.list_remove l its.toArray n (.int z t) (isInt z) (fun y hy=>PySem.W.kf_eq (yJo r) y (by simpa using hy)) j hj c1 c2 (by rw [List.size_toArray,<- hl]; exact zz)) ⟨e,?_⟩
 have er:=r.eraseIdx j
 rw [zIm,h3] at er
 refine ⟨.non,_,I.lset (its':=its.eraseIdx j) hH e ?_ er ?_,rfl,q⟩
 ·show its.toArray.eraseIdxIfInBounds j = (its.eraseIdx j).toArray
  rw [List.eraseIdxIfInBounds_toArray]
 ·rw [List.length_map]
  have:=List.length_erase_le (a:=z) (l:=ns)
  rw [List.length_map] at zz
  omega
def z3o (ns ms:List Int):List Int:=ns.foldl (fun l x=>l.erase x) ms
theorem y0b (ns ms:List Int) (z:Int):z3o (ns ++ [z]) ms = (z3o ns ms).erase z:=by unfold z3o; rw [List.foldl_append]; rfl
theorem z4t:∀ (ns ms:List Int) (x:Int),(z3o ns ms).count x = ms.count x - ns.count x
 | [],ms,x=>by simp [z3o]
 | n :: ns,ms,x=>by
  show (z3o ns (ms.erase n)).count x = _
  rw [z4t ns (ms.erase n) x,List.count_erase,List.count_cons]
  by_cases h:n = x
  ·subst h; simp; omega
  ·have h':¬ x = n:=fun e=>h e.symm
   simp [h,h']
theorem y1u (ns:List Int):∀ ms,(z3o ns ms).Sublist ms:=by
 unfold z3o
 induction ns with
 | nil=>exact fun ms=>List.Sublist.refl _
 | cons n ns ih=>exact fun ms=>(ih (ms.erase n)).trans List.erase_sublist
theorem zBf {ns ms:List Int}:lies ns ms = true ↔ ∀ x,ns.count x <= ms.count x:=by
 constructor
 ·intro h x
  by_cases hx:x ∈ ns
  ·exact of_decide_eq_true (List.all_eq_true.mp h x hx)
  ·rw [List.count_eq_zero_of_not_mem hx]; exact Nat.zero_le _
 ·exact z8n
theorem yGj {ns ms:List Int} (h:lies ns ms = true) {i:Nat} {z:Int} (hz:ns[i]? = some z):z ∈ z3o (ns.take i) ms:=by
 refine List.count_pos_iff.mp ?_
 rw [z4t]
 have h1:=zBf.mp h z
 have hi:=(List.getElem?_eq_some_iff.mp hz).1
 have ez:=(List.getElem?_eq_some_iff.mp hz).2
 have h2:(ns.take i).count z + 1 <= ns.count z:=by
  have:(ns.take (i + 1)).count z <= ns.count z:=List.Sublist.count_le z (List.take_sublist _ _)
  rw [List.take_succ_eq_append_getElem hi,ez,List.count_append] at this
  simpa using this
 omega
end L2
namespace L2
open PySem PySem.Spec PyProof.Rows
abbrev Plc:=Int × List Int × List Int
def z3z (pl:Plc) (v:V) (H:Hp):Prop:=∃ t h c,v = .ref t /\ H t = some (.tup [.int pl.1,.ref h,.ref c]) /\ H h = some (.tup (pl.2.1.map V.int)) /\ H c = some (.tup (pl.2.2.map V.int))
theorem z3z.mv {H H':Hp} {pl:Plc} {v:V} (t:Tups H H'):z3z pl v H -> z3z pl v H'
 | ⟨a,h,c,e,g1,g2,g3⟩=>⟨a,h,c,e,t _ _ g1,t _ _ g2,t _ _ g3⟩
abbrev Rule:=List (List Int)
def onR (one other:Rule) (s:Int):Rule:=if s = 1 then one else other
def isPl (one other:Rule) (pl:Plc):Bool:=(decide (pl.1 = 1) || decide (pl.1 = 2)) && z3b (onR one other pl.1) (pl.2.1,pl.2.2)
noncomputable def z5n (one other:Rule) (pl:Plc):Plc:=(3 - pl.1,z6u (z3o (z3y (z1y (onR one other pl.1) pl.2.2)) pl.2.1 ++ z3y (z1y (onR one other (3 - pl.1)) pl.2.2)),pl.2.2)
theorem y2i {n:Nat}:∀ {l:Int} {c:List Int},isCh n l c = true -> 0 <= l -> c.length <= n - l.toNat
 | _,[],_,_=>Nat.zero_le _
 | l,x :: r,e,hl=>by
  rw [isCh] at e
  by_cases c:x < l \/ (n:Int) <= x
  ·rw [if_pos c] at e; cases e
  ·rw [if_neg c] at e
   have:=y2i e (by omega)
   rw [List.length_cons]
   omega
theorem z7s {rule:Rule} {h c:List Int} (hp:z3b rule (h,c) = true):isCh rule.length 0 c = true /\ ∀ j ∈ c,lies (rule.getD j.toNat []) h = true:=by
 unfold z3b at hp
 rw [Bool.and_eq_true] at hp
 exact ⟨hp.1,List.all_eq_true.mp hp.2⟩
theorem yCg {rule:Rule} {h c:List Int} (hp:z3b rule (h,c) = true):c.length <= rule.length:=by
 have:=y2i (z7s hp).1 (Int.le_refl 0)
 simpa using this
theorem y3f {rule:Rule} {h:List Int}:∀ {c:List Int},(∀ j ∈ c,lies (rule.getD j.toNat []) h = true) -> ∀ x,maxC (z1y rule c) x <= h.count x
 | [],_,x=>Nat.zero_le _
 | j :: c,hc,x=>by
  have h1:=zBf.mp (hc j (by simp)) x
  have h2:=y3f (fun i hi=>hc i (List.mem_cons_of_mem _ hi)) x
  unfold z1y at h2 ⊢
  rw [List.map_cons,maxC]
  omega
theorem zCx {rule:Rule} {h c:List Int} (hp:z3b rule (h,c) = true):lies (z3y (z1y rule c)) h = true :=
 z8n fun x=>by rw [(z6r _).2]; exact y3f (z7s hp).2 x
theorem yFp {rule:Rule} {c:List Int} {j:Int} (hj:j ∈ c) (x:Int):(rule.getD j.toNat []).count x <= (z3y (z1y rule c)).count x:=by
 rw [(z6r _).2]
 exact y0y (List.mem_map.mpr ⟨j,hj,rfl⟩)
theorem y1v {a b:List Int} (h:lies a b = true):(z3o a b).sum = b.sum - a.sum:=by
 have:(z3o a b ++ a).Perm b:=List.perm_iff_count.mpr fun x=>by
  rw [List.count_append,z4t]
  have:=zBf.mp h x
  omega
 have:=zGl this
 rw [List.sum_append] at this
 omega
theorem z9v {one other:Rule} (h:one.length = other.length) (s:Int):(onR one other s).length = one.length:=by unfold onR; split <;> simp [h]
theorem z2w {one other:Rule} {pl:Plc} (h:isPl one other pl = true):(pl.1 = 1 \/ pl.1 = 2) /\ z3b (onR one other pl.1) (pl.2.1,pl.2.2) = true:=by
 unfold isPl at h
 rw [Bool.and_eq_true,Bool.or_eq_true] at h
 exact ⟨h.1.imp of_decide_eq_true of_decide_eq_true,h.2⟩
theorem y0q {one other:Rule} {pl:Plc} (h:pl.1 = 1 \/ pl.1 = 2) (hp:z3b (onR one other pl.1) (pl.2.1,pl.2.2) = true):isPl one other pl = true:=by
 unfold isPl
 rw [hp,Bool.and_true]
 rcases h with h | h <;> rw [h] <;> rfl
theorem yBc {one other:Rule} {pl:Plc} (hl:one.length = other.length) (h:isPl one other pl = true):isPl one other (z5n one other pl) = true:=by
 obtain ⟨hs,hp⟩:=z2w h
 obtain ⟨h1,h2⟩:=z7s hp
 refine y0q (by show 3 - pl.1 = 1 \/ 3 - pl.1 = 2; omega) ?_
 unfold z3b
 rw [Bool.and_eq_true]
 refine ⟨?_,List.all_eq_true.mpr fun j hj=>z8n fun x=>?_⟩
 ·show isCh (onR one other (3 - pl.1)).length 0 pl.2.2 = true
  rw [z9v hl]
  rw [z9v hl] at h1
  exact h1
 ·show ((onR one other (3 - pl.1)).getD j.toNat []).count x <= (z6u _).count x
  rw [z7v,List.count_append]
  have:=yFp (rule:=onR one other (3 - pl.1)) (c:=pl.2.2) hj x
  omega
theorem y3y {one other:Rule} {pl:Plc} (h:isPl one other pl = true) (hw:pl.2.1.Pairwise (· >= ·)):z5n one other (z5n one other pl) = pl:=by
 obtain ⟨hs,hp⟩:=z2w h
 obtain ⟨s,hh,c⟩:=pl
 have e3:3 - (3 - s) = s:=by omega
 unfold z5n
 dsimp only at *
 rw [e3]
 congr 2
 refine z9x (z7u _) hw (List.perm_iff_count.mpr fun x=>?_)
 have:=zBf.mp (zCx hp) x
 rw [z7v,List.count_append,z4t,z7v,List.count_append,z4t]
 omega
theorem y6r {one other:Rule} {pl:Plc} (hm:∀ c,(z3y (z1y one c)).sum = (z3y (z1y other c)).sum) (h:isPl one other pl = true):(z5n one other pl).2.1.sum = pl.2.1.sum:=by
 obtain ⟨hs,hp⟩:=z2w h
 show (z6u _).sum = _
 rw [zGl (z3m _),List.sum_append,y1v (zCx hp)]
 have e:(z3y (z1y (onR one other pl.1) pl.2.2)).sum = (z3y (z1y (onR one other (3 - pl.1)) pl.2.2)).sum:=by
  rcases hs with e | e <;> rw [e]
  ·exact hm _
  ·exact (hm _).symm
 omega
def fl2 (p q:Addr):List (Str × V):=putF "other" (.ref q) (putF "one" (.ref p) [])
theorem yGv:¬ (("one" : Str) = "other"):=by decide +kernel
theorem y7a (p q:Addr):(fl2 p q).lookup ("one" : Str) = some (.ref p):=by unfold fl2; rw [z4k,if_neg yGv,z4k,if_pos rfl]
theorem zHz (p q:Addr):(fl2 p q).lookup ("other" : Str) = some (.ref q):=by unfold fl2; rw [z4k,if_pos rfl]
theorem y2d (p q:Addr) {m:Str} (h1:¬ m = "other") (h2:¬ m = "one"):(fl2 p q).lookup m = none:=by
 unfold fl2
 rw [z4k,if_neg h1,z4k,if_neg h2]
 rfl
structure Sided (C:Addr) (H:Hp) (x p q:Addr) (rs qs:List V) (one other:Rule):Prop where
 ob:∃ dx,H x = some (.ins C dx (fl2 p q))
 hp:H p = some (.tup rs)
 h2:All2 Tup1 H one rs
 hq:H q = some (.tup qs)
 g2:All2 Tup1 H other qs
 ln:one.length = other.length
 l6:one.length <= 6
 b1:∀ h ∈ one,h.length <= 64 /\ ∀ x ∈ h,1 <= x
 b2:∀ h ∈ other,h.length <= 64 /\ ∀ x ∈ h,1 <= x
theorem Sided.mv {C:Addr} {H H':Hp} {x p q:Addr} {rs qs:List V} {one other:Rule} (h:Sided C H x p q rs qs one other) (s:Same H H'):Sided C H' x p q rs qs one other :=
 ⟨let ⟨dx,e⟩:=h.ob; ⟨dx,s _ _ e⟩,s _ _ h.hp,h.h2.mv s.tups,s _ _ h.hq,h.g2.mv s.tups,h.ln,h.l6,h.b1,h.b2⟩
theorem yBk {rule:Rule} {j:Nat} {x:Int} (h:x ∈ rule.getD j []):∃ hh ∈ rule,x ∈ hh:=by
 rw [List.getD_eq_getElem?_getD] at h
 cases e:rule[j]? with
 | none=>rw [e] at h; cases h
 | some r=>rw [e] at h; exact ⟨r,List.mem_of_getElem? e,h⟩
theorem y2l {rule:Rule} (hb:∀ h ∈ rule,h.length <= 64 /\ ∀ x ∈ h,1 <= x) {c:List Int}:∀ x ∈ z3y (z1y rule c),1 <= x:=fun x hx=>by
 obtain ⟨l,hl,hxl⟩:=yBs hx
 obtain ⟨j,_,rfl⟩:=List.mem_map.mp hl
 obtain ⟨hh,h1,h2⟩:=yBk hxl
 exact (hb hh h1).2 x h2
theorem zDl {a b:List Int} {x:Int} (h:x ∈ z3o a b):x ∈ b:=(y1u a b).subset h
structure Two (H:Hp) (R p q:Addr) (rs qs:List V) (one other:Rule):Prop where
 at_:H R = some (.tup [.ref p,.ref q])
 hp:H p = some (.tup rs)
 h2:All2 Tup1 H one rs
 hq:H q = some (.tup qs)
 g2:All2 Tup1 H other qs
 ln:one.length = other.length
 l6:one.length <= 6
 b1:∀ h ∈ one,h.length <= 64 /\ ∀ x ∈ h,1 <= x
 b2:∀ h ∈ other,h.length <= 64 /\ ∀ x ∈ h,1 <= x
theorem Two.mv {H H':Hp} {R p q:Addr} {rs qs:List V} {one other:Rule} (h:Two H R p q rs qs one other) (t:Tups H H'):Two H' R p q rs qs one other :=
 ⟨t _ _ h.at_,t _ _ h.hp,h.h2.mv t,t _ _ h.hq,h.g2.mv t,h.ln,h.l6,h.b1,h.b2⟩
theorem y2j {n:Nat}:∀ {l:Int} {c:List Int},isCh n l c = true -> c.Pairwise (· < ·)
 | _,[],_=>.nil
 | l,x :: r,e=>by
  rw [isCh] at e
  by_cases c:x < l \/ (n:Int) <= x
  ·rw [if_pos c] at e; cases e
  ·rw [if_neg c] at e
   refine List.pairwise_cons.mpr ⟨fun y hy=>?_,y2j e⟩
   have:=z5j e y hy
   omega
end L2
namespace HT
open PySem PySem.Spec PyProof.Rows
section
variable {prog:Program} {w:World} {A:Around} {E:Value -> Shared -> Prop} {s:Shared}
end
end HT
namespace L2
open PySem PySem.Spec PyProof.Rows
section
variable {X:Cx} {e st:Expr} {te:TE} {ts:TO} {p2 pos:Pos}
end
end L2
namespace L2
open PySem PySem.Spec PyProof.Rows
theorem zCi:∀ {x y z:List Int},HT.lexGt x y = true -> HT.lexGt y z = true -> HT.lexGt x z = true
 | [],[],_,h,_=>by cases h
 | [],_ :: _,_,h,_=>by cases h
 | _ :: _,_,[],_,_=>rfl
 | _ :: _,[],_ :: _,_,h=>by cases h
 | a :: x,b :: y,c :: z,h,h'=>by
  rw [HT.lexGt_cons] at h h' ⊢
  by_cases e:a = b
  ·subst e
   rw [if_pos rfl] at h
   by_cases e':a = c
   ·subst e'
    rw [if_pos rfl] at h' ⊢
    exact zCi h h'
   ·rw [if_neg e'] at h' ⊢
    exact h'
  ·rw [if_neg e] at h
   have h1:=of_decide_eq_true h
   by_cases e':b = c
   ·subst e'
    rw [if_neg e]
    exact h
   ·rw [if_neg e'] at h'
    have h2:=of_decide_eq_true h'
    rw [if_neg (by omega)]
    exact decide_eq_true (by omega)
theorem zIj:∀ {l:List (List Int)},lexB l = true -> l.Pairwise fun x y=>HT.lexGt x y = true
 | [],_=>.nil
 | [x],_=>by simp
 | x :: y :: r,h=>by
  simp only [lexB,Bool.and_eq_true] at h
  have ih:=zIj h.2
  refine List.pairwise_cons.mpr ⟨fun z hz=>?_,ih⟩
  rcases List.mem_cons.mp hz with rfl | hz
  ·exact h.1
  ·exact zCi h.1 ((List.pairwise_cons.mp ih).1 z hz)
theorem zCb (rule:List (List Int)) {m:Nat} (hm:m <= 24):(z2a rule m).Pairwise fun x y=>HT.lexGt x y = true:=by
 have p12:=zEy m (by omega)
 unfold z2u at p12
 simp only [Bool.and_eq_true] at p12
 exact (zIj p12.2).sublist List.filter_sublist
theorem Matched.J {one other:List (List Int)} {n:Nat} (h:Matched one other n):zBk one :=
 ⟨⟨[1,2,3,4,5,6,7,8],by decide,fun l hl x hx=>by
  have:=(h.g1 l hl).2.1 x hx
  have:x = 1 \/ x = 2 \/ x = 3 \/ x = 4 \/ x = 5 \/ x = 6 \/ x = 7 \/ x = 8:=by omega
  simpa using this⟩,fun l hl=>Nat.le_trans (h.g1 l hl).1 (by decide),fun l hl x hx=>((h.g1 l hl).2.1 x hx).1⟩
theorem Matched.signed {one other:List (List Int)} {n:Nat} (h:Matched one other n) (W:Nat -> Int) (m:Nat):z6k one W m (chG (upto one.length)) = z6k other W m (chG (upto other.length)):=by
 unfold z6k
 rw [h.l1,h.l2]
 congr 1
 exact List.map_congr_left fun c _=>by rw [h.eq c]
theorem Matched.kept {one other:List (List Int)} {n:Nat} (h:Matched one other n) {m:Nat} (hm:m <= 24):(z2a one m).length = (z2a other m).length:=by
 have e1:=zBc (rule:=one) h.J.2.2 hm
 have e2:=zBc (rule:=other) h.swap.J.2.2 hm
 rw [h.signed,<- e2] at e1
 exact Int.ofNat.inj e1
theorem y6i {H:Hp}:∀ {bs:List Bool} {zs:List V},All2 (fun (b:Bool) v _=>v = V.bl b) H bs zs -> zs = bs.map V.bl
 | _,_,.nil=>rfl
 | _,_,.cons h t=>by rw [h,y6i t]; rfl
end L2
namespace L2
open PySem
theorem y9a:∀ {a b:List Int},a.Pairwise (· < ·) -> b.Pairwise (· < ·) -> (∀ x,x ∈ a ↔ x ∈ b) -> a = b
 | [],[],_,_,_=>rfl
 | [],y :: b,_,_,h=>by
  have:=(h y).mpr (by simp)
  cases this
 | x :: a,[],_,_,h=>by
  have:=(h x).mp (by simp)
  cases this
 | x :: a,y :: b,ha,hb,h=>by
  have ha':=List.pairwise_cons.mp ha
  have hb':=List.pairwise_cons.mp hb
  have exy:x = y:=by
   rcases List.mem_cons.mp ((h x).mp (by simp)) with e | e
   ·exact e
   ·rcases List.mem_cons.mp ((h y).mpr (by simp)) with e2 | e2
    ·exact e2.symm
    ·have:=hb'.1 x e
     have:=ha'.1 y e2
     omega
  subst exy
  congr 1
  refine y9a ha'.2 hb'.2 fun z=>⟨fun hz=>?_,fun hz=>?_⟩
  ·rcases List.mem_cons.mp ((h z).mp (List.mem_cons_of_mem _ hz)) with e | e
   ·have:=ha'.1 z hz
    omega
   ·exact e
  ·rcases List.mem_cons.mp ((h z).mpr (List.mem_cons_of_mem _ hz)) with e | e
   ·have:=hb'.1 z hz
    omega
   ·exact e
theorem zFn:∀ (n:Nat) {c:List Int},c.Pairwise (· < ·) -> (∀ x ∈ c,0 <= x /\ x < n) -> c ∈ chG (upto n)
 | 0,c,_,h=>by
  cases c with
  | nil=>exact List.mem_cons_self ..
  | cons x r=>have:=h x (by simp); omega
 | n + 1,c,hp,h=>by
  rw [y0c,z8r,List.mem_append]
  by_cases hn:(n:Int) ∈ c
  ·refine .inr (List.mem_map.mpr ⟨c.filter fun x=>decide (x < n),zFn n (hp.filter _) (fun x hx=>?_),?_⟩)
   ·have h1:=List.mem_filter.mp hx
    exact ⟨(h x h1.1).1,of_decide_eq_true h1.2⟩
   ·refine y9a (List.pairwise_append.mpr ⟨hp.filter _,List.pairwise_singleton ..,fun x hx y hy=>?_⟩) hp fun x=>?_
    ·have h1:=of_decide_eq_true (List.mem_filter.mp hx).2
     have:y = n:=by simpa using hy
     omega
    ·rw [List.mem_append,List.mem_filter,decide_eq_true_iff,List.mem_singleton]
     constructor
     ·rintro (z | z)
      ·exact z.1
      ·rw [z]; exact hn
     ·intro z
      have:=h x z
      by_cases hx:x < n
      ·exact .inl ⟨z,hx⟩
      ·exact .inr (by omega)
  ·refine .inl (zFn n hp fun x hx=>?_)
   have:=h x hx
   have:x ≠ n:=fun e=>hn (e ▸ hx)
   omega
end L2
namespace L2
open PySem PySem.Spec PyProof.Rows PySem.W
end L2
namespace L2
open PySem PySem.Spec PyProof.Rows PySem.W
section
variable {prog:Program} {w:World} {A:Around} {E:Value -> Shared -> Prop} {s:Shared} {K:Frag} {e dx C:Addr} {oe:Obj} {vs:Array Value} {mA:Str -> Option Value} {name:Str} {v:Value}
end
section
variable {X:Cx} {pins:List (Addr × Obj)} {σ:St} {H:Hp} {s:Shared} {e C:Addr} {f:Str} {A:Around} {E:Value -> Shared -> Prop}
end
end L2
namespace L2
open PySem PySem.Spec PyProof.Rows PySem.W
section
variable {prog:Program} {w:World} {A:Around} {E:Value -> Shared -> Prop} {h:Heap} {g:Array GenState} {d:Drawn} {t:Nat} {os:OsState}
variable {nm q:Str} {C N:Addr} {bs bm bmB bmN:List Value} {hdct:Bool} {sn:List Str} {sub:List Value} {ab:Bool} {col:Option Bool} {dd:Option Addr} {k0 k1 k2 k3 k5:Option Value} {B Bn newId nid initId inN:String}
end
section
variable {M:Model} {A:Around} {E:Value -> Shared -> Prop} {s:Shared} {env:Env} {nm q:Str} {C N:Addr} {bs bm:List Value} {hdct:Bool} {sn:List Str} {sub:List Value} {ab:Bool} {col:Option Bool} {dd:Option Addr} {k0 k1 k2 k3 k5:Option Value} {newId:String}
end
end L2
namespace L2
open PySem PySem.Spec PyProof.Rows PySem.W
section
variable {X:Cx} {o e value:Expr} {f:Str} {pos pos':Pos} {ta tv:TE}
end
end L2
namespace L2
open PySem PySem.Spec PyProof.Rows PySem.W
end L2
namespace L2
open PySem PySem.Spec PyProof.Rows PySem.W
theorem y8p {X:Cx} (K0:PySem.W.Frag) (h0:X.K = K0) {e:Expr} {te:TE} {b:Bool} {p kp cp pos:Pos} {j:Nat} (hg:Gl X "sorted") (hm:X.mg "sorted" = none) (he:PE X e te)
  (hse:starEach [e] X.env = [(false,eval e X.env)]:=by rfl):PE X (.Call (.Name "sorted" p) [e] [⟨some "reverse",.Constant (.bool b) j cp,kp⟩] pos) (y9y K0 b te) :=
 PE.kk K0 (fun K=>y9y K b te) (y3c hg hm he hse) h0
end L2
namespace L2
open PySem PySem.Spec PyProof.Rows PySem.W
section
variable {prog:Program} {w:World} {A:Around} {E:Value -> Shared -> Prop} {s:Shared} {K:Frag} {e dx C:Addr} {oe:Obj} {vs:Array Value} {mA:Str -> Option Value} {name:Str} {v:Value}
end
section
variable {X:Cx} {pins:List (Addr × Obj)} {σ:St} {H:Hp} {s:Shared} {e dx C:Addr} {f:Str} {A:Around} {E:Value -> Shared -> Prop}
end
section
variable {X:Cx} {o e value:Expr} {f:Str} {pos pos':Pos} {ta tv:TE}
end
end L2
namespace L2
open PySem PySem.Spec PyProof.Rows PySem.W
section
variable {X:Cx} {k:Nat} {f C:Addr} {fd:FuncData} {ps:List Str} {sp:Sp} {dvs:List V} {ds:List Value} {x:Str} {p pos:Pos} {e:Expr} {es:List Expr} {t:TA} {cm:Bool}
end
end L2
namespace L2
open PySem PySem.Spec PyProof.Rows PySem.W
end L2
namespace L2
open PySem PySem.Spec PyProof.Rows
theorem zHa:∀ {l:List Int},(∀ x ∈ l,1 <= x) -> 0 <= l.sum
 | [],_=>Int.le_refl _
 | x :: r,h=>by
  have h1:=h x (by simp)
  have h2:=zHa (l:=r) fun y hy=>h y (List.mem_cons_of_mem _ hy)
  rw [List.sum_cons]
  omega
theorem y9w:∀ {l:List Int},(∀ x ∈ l,1 <= x) -> (l.length:Int) <= l.sum
 | [],_=>Int.le_refl _
 | x :: r,h=>by
  have h1:=h x (by simp)
  have h2:=y9w (l:=r) fun y hy=>h y (List.mem_cons_of_mem _ hy)
  rw [List.sum_cons,List.length_cons]
  omega
structure Hep (n:Int) (h:List Int):Prop where
 pw:h.Pairwise (· >= ·)
 pos:∀ x ∈ h,1 <= x
 sum:h.sum = n
theorem zEz:∀ (f n g:Nat) (h:List Int),n < f -> h.Pairwise (· >= ·) -> (∀ x ∈ h,1 <= x /\ x <= (g:Int)) -> h.sum = (n:Int) -> h ∈ z2y f n g
 | 0,_,_,_,hf,_,_,_=>absurd hf (Nat.not_lt_zero _)
 | f + 1,n,g,[],hf,_,_,hs=>by
  rw [z1j]
  have:n = 0:=by
   have:(0:Int) = (n:Int):=hs
   omega
  rw [if_pos this]
  simp
 | f + 1,n,g,x :: r,hf,hw,hb,hs=>by
  obtain ⟨x1,x2⟩:=hb x (by simp)
  have hr:0 <= r.sum:=zHa fun y hy=>(hb y (List.mem_cons_of_mem _ hy)).1
  rw [List.sum_cons] at hs
  obtain ⟨k,rfl⟩:∃ k:Nat,x = (k:Int):=⟨x.toNat,by omega⟩
  have hw':=List.pairwise_cons.mp hw
  rw [z1j,if_neg (by omega)]
  unfold z8p
  refine List.mem_flatMap.mpr ⟨min n g - k,List.mem_range.mpr (by omega),?_⟩
  rw [show min n g - (min n g - k) = k by omega]
  refine List.mem_map.mpr ⟨r,zEz f (n - k) k r (by omega) hw'.2 (fun y hy=>⟨(hb y (List.mem_cons_of_mem _ hy)).1,hw'.1 y hy⟩) (by omega),rfl⟩
theorem y2y:∀ (f n g:Nat) (h:List Int),n < f -> h ∈ z2y f n g -> Hep (n:Int) h
 | 0,_,_,_,hf,_=>absurd hf (Nat.not_lt_zero _)
 | f + 1,n,g,h,hf,hh=>by
  rw [z1j] at hh
  by_cases c:n = 0
  ·rw [if_pos c] at hh
   have:h = []:=by simpa using hh
   subst this c
   exact ⟨.nil,fun x hx=>(by cases hx),rfl⟩
  ·rw [if_neg c] at hh
   unfold z8p at hh
   obtain ⟨i,hi,hh⟩:=List.mem_flatMap.mp hh
   rw [List.mem_range] at hi
   obtain ⟨r,hr,rfl⟩:=List.mem_map.mp hh
   have ih:=y2y f _ _ r (by omega) hr
   have hle:=zBg f _ _ r hr
   refine ⟨List.pairwise_cons.mpr ⟨fun y hy=>hle y hy,ih.pw⟩,fun x hx=>?_,?_⟩
   ·rcases List.mem_cons.mp hx with rfl | hx
    ·omega
    ·exact ih.pos x hx
   ·rw [List.sum_cons,ih.sum]
    omega
def cntF:Nat -> Nat -> Nat -> Nat
 | 0,_,_=>0
 | f + 1,n,g=>if n = 0 then 1 else ((List.range (min n g)).map fun i=>cntF f (n - (min n g - i)) (min n g - i)).sum
theorem y1y:∀ f n g,(z2y f n g).length = cntF f n g
 | 0,_,_=>rfl
 | f + 1,n,g=>by
  rw [z1j,cntF]
  split
  ·rfl
  ·unfold z8p
   rw [List.length_flatMap]
   congr 1
   apply List.map_congr_left
   intro i _
   rw [List.length_map,y1y f]
theorem yJc:(List.range 25).all (fun n=>decide (cntF 26 n n <= 1575)) = true:=by decide +kernel
theorem y2x {n:Nat} (h:n <= 24):(z2y 26 n n).length <= 1575:=by
 rw [y1y]
 exact of_decide_eq_true (List.all_eq_true.mp yJc n (List.mem_range.mpr (by omega)))
theorem zIz {α:Type} [DecidableEq α]:∀ {l u:List α},l.Nodup -> (∀ x ∈ l,x ∈ u) -> l.length <= u.length
 | [],_,_,_=>Nat.zero_le _
 | x :: r,u,hn,hs=>by
  have hx:=hs x (by simp)
  obtain ⟨n1,n2⟩:=List.nodup_cons.mp hn
  have:=zIz (l:=r) (u:=u.erase x) n2 fun y hy=>(List.mem_erase_of_ne (fun (e:y = x)=>n1 (e ▸ hy))).mpr (hs y (List.mem_cons_of_mem _ hy))
  rw [List.length_erase_of_mem hx] at this
  have:=List.length_pos_of_mem hx
  rw [List.length_cons]
  omega
noncomputable def togG (one other:Rule) (pl:Plc):Plc:=match z2v (onR one other pl.1) pl.2 with | some pc=>(pl.1,pc) | none=>pl
noncomputable def wk (one other:Rule) (h:List Int):Nat -> Plc
 | 0=>(1,h,[])
 | n + 1=>if n % 2 = 0 then z5n one other (wk one other h n) else togG one other (wk one other h n)
def fstP (one other:Rule) (pl:Plc):Option Int:=z1m (onR one other pl.1) pl.2.1
def Live (one other:Rule) (h:List Int) (n:Nat):Prop:=∀ i,i < n -> i % 2 = 1 -> fstP one other (wk one other h i) ≠ none
structure WP (one other:Rule) (n:Int) (i:Nat) (pl:Plc):Prop where
 ip:isPl one other pl = true
 pw:pl.2.1.Pairwise (· >= ·)
 pos:∀ x ∈ pl.2.1,1 <= x
 sum:pl.2.1.sum = n
 par:(pl.1 + (pl.2.2.length:Int) + (i:Int)) % 2 = 1
structure Rul (one other:Rule):Prop where
 ln:one.length = other.length
 l6:one.length <= 6
 b1:∀ h ∈ one,h.length <= 64 /\ ∀ x ∈ h,1 <= x
 b2:∀ h ∈ other,h.length <= 64 /\ ∀ x ∈ h,1 <= x
 eq:∀ c,(z3y (z1y one c)).sum = (z3y (z1y other c)).sum
 j1:zBk one
 j2:zBk other
theorem Rul.swap {one other:Rule} (R:Rul one other):Rul other one:=⟨R.ln.symm,R.ln ▸ R.l6,R.b2,R.b1,fun c=>(R.eq c).symm,R.j2,R.j1⟩
theorem Rul.jR {one other:Rule} (R:Rul one other) (s:Int):zBk (onR one other s):=by
 unfold onR
 split
 ·exact R.j1
 ·exact R.j2
theorem Rul.of {one other:Rule} {n:Nat} (m:Matched one other n) (h:n <= 6):Rul one other :=
 ⟨by rw [m.l1,m.l2],by rw [m.l1]; exact h,fun h hh=>⟨(m.g1 h hh).1,fun x hx=>((m.g1 h hh).2.1 x hx).1⟩,fun h hh=>⟨(m.g2 h hh).1,fun x hx=>((m.g2 h hh).2.1 x hx).1⟩,m.eq,m.J,m.swap.J⟩
theorem Rul.bR {one other:Rule} (R:Rul one other) (s:Int):∀ h ∈ onR one other s,h.length <= 64 /\ ∀ x ∈ h,1 <= x:=fun h hh=>by
 unfold onR at hh
 split at hh
 ·exact R.b1 h hh
 ·exact R.b2 h hh
theorem WP.hep {one other:Rule} {n:Int} {i:Nat} {pl:Plc} (w:WP one other n i pl):Hep n pl.2.1:=⟨w.pw,w.pos,w.sum⟩
theorem Hep.len {n:Int} {h:List Int} (p:Hep n h):(h.length:Int) <= n:=by rw [<- p.sum]; exact y9w p.pos
theorem WP.chl {one other:Rule} {n:Int} {i:Nat} {pl:Plc} (R:Rul one other) (w:WP one other n i pl):pl.2.2.length <= 6:=by
 have:=yCg (z2w w.ip).2
 rw [z9v R.ln] at this
 exact Nat.le_trans this R.l6
theorem WP.cross {one other:Rule} {n:Int} {i:Nat} {pl:Plc} (R:Rul one other) (w:WP one other n i pl):WP one other n (i + 1) (z5n one other pl):=by
 refine ⟨yBc R.ln w.ip,z7u _,fun y hy=>?_,(y6r R.eq w.ip).trans w.sum,?_⟩
 ·rcases List.mem_append.mp ((z3m _).mem_iff.mp hy) with hy | hy
  ·exact w.pos y (zDl hy)
  ·exact y2l (R.bR _) y hy
 ·have:=w.par
  show ((3 - pl.1) + (pl.2.2.length:Int) + ((i + 1:Nat):Int)) % 2 = 1
  omega
theorem WP.clen {one other:Rule} {n:Int} {i:Nat} {pl:Plc} (R:Rul one other) (w:WP one other n i pl):((z3o (z3y (z1y (onR one other pl.1) pl.2.2)) pl.2.1 ++ z3y (z1y (onR one other (3 - pl.1)) pl.2.2)).length:Int) <= n:=by
 have:=(w.cross R).hep.len
 unfold z5n at this
 dsimp only at this
 rw [(z3m _).length_eq] at this
 exact this
theorem WP.crossB {one other:Rule} {n:Int} {i:Nat} {pl:Plc} (w:WP one other n i pl):z5n one other (z5n one other pl) = pl:=y3y w.ip w.pw
theorem zJi {rule:Rule} {pc:List Int × List Int}:z2v rule pc = none ↔ z1m rule pc.1 = none:=by
 unfold z2v
 cases z1m rule pc.1 with
 | none=>exact ⟨fun _=>rfl,fun _=>rfl⟩
 | some m =>
  refine ⟨fun h=>?_,fun h=>by cases h⟩
  dsimp only at h
  split at h <;> cases h
theorem y9z {one other:Rule} {pl:Plc} {pc:List Int × List Int} (h:z2v (onR one other pl.1) pl.2 = some pc):togG one other pl = (pl.1,pc):=by unfold togG; rw [h]
theorem z8h {one other:Rule} {pl:Plc} (h:fstP one other pl ≠ none):∃ pc,z2v (onR one other pl.1) pl.2 = some pc:=by
 cases e:z2v (onR one other pl.1) pl.2 with
 | some pc=>exact ⟨pc,rfl⟩
 | none=>exact absurd (zJi.mp e) h
theorem WP.tog {one other:Rule} {n:Int} {i:Nat} {pl:Plc} (w:WP one other n i pl) (h:fstP one other pl ≠ none):WP one other n (i + 1) (togG one other pl) /\ togG one other (togG one other pl) = pl /\ (togG one other pl).1 = pl.1 /\ (togG one other pl).2.1 = pl.2.1:=by
 obtain ⟨pc,e⟩:=z8h h
 obtain ⟨hs,hp⟩:=z2w w.ip
 obtain ⟨b1,b2,b3,b4,_⟩:=zJh hp e
 rw [y9z e]
 refine ⟨⟨y0q hs b1,?_,?_,?_,?_⟩,?_,rfl,b4⟩
 ·show pc.1.Pairwise _
  rw [b4]; exact w.pw
 ·show ∀ x ∈ pc.1,1 <= x
  rw [b4]; exact w.pos
 ·show pc.1.sum = n
  rw [b4]; exact w.sum
 ·have:=w.par
  show (pl.1 + (pc.2.length:Int) + ((i + 1:Nat):Int)) % 2 = 1
  unfold sgnG at b3
  dsimp only at b3
  split at b3 <;> split at b3 <;> omega
 ·exact y9z (pl:=(pl.1,pc)) b2
theorem z8q {one other:Rule} {n:Int} {h:List Int} (R:Rul one other) (hp:Hep n h):∀ i,Live one other h i -> WP one other n i (wk one other h i)
 | 0,_=>⟨y0q (.inl rfl) rfl,hp.pw,hp.pos,hp.sum,rfl⟩
 | i + 1,L=>by
  have ih:=z8q R hp i fun j hj=>L j (by omega)
  rw [wk]
  split
  ·exact ih.cross R
  ·exact (ih.tog (L i (Nat.lt_succ_self i) (by omega))).1
theorem Live.less {one other:Rule} {h:List Int} {i j:Nat} (L:Live one other h j) (hi:i <= j):Live one other h i:=fun k hk=>L k (by omega)
theorem zGi {rule:Rule} {h c:List Int} (hp:z3b rule (h,c) = true) (hf:z1m rule h = none):c = []:=by
 cases c with
 | nil=>rfl
 | cons j r =>
  obtain ⟨h1,h2⟩:=z7s hp
  have hj:=z5j h1 j (by simp)
  have:=y2h (hs:=h) (i:=rule.length) (k:=j.toNat) (by omega) (h2 j (by simp))
  unfold z1m idxG at hf
  rw [List.head?_eq_none_iff] at hf
  rw [hf] at this
  cases this
def zAh (other:Rule) (pl:Plc):Bool:=decide (pl.1 = 2) && (z1m other pl.2.1).isNone
theorem WP.end_iff {one other:Rule} {n:Int} {i:Nat} {pl:Plc} (w:WP one other n i pl) (h0:i % 2 = 0 -> i = 0 \/ fstP one other pl ≠ none):zAh other pl = true ↔ i % 2 = 1 /\ fstP one other pl = none:=by
 obtain ⟨hs,hp⟩:=z2w w.ip
 have par:=w.par
 unfold zAh
 rw [Bool.and_eq_true,decide_eq_true_eq,Option.isNone_iff_eq_none]
 constructor
 ·rintro ⟨e,hf⟩
  have eo:onR one other pl.1 = other:=by rw [e]; rfl
  have hf':fstP one other pl = none:=by unfold fstP; rw [eo]; exact hf
  have hc:=zGi hp hf'
  rw [hc,e] at par
  refine ⟨?_,hf'⟩
  simp at par
  omega
 ·rintro ⟨hi,hf⟩
  have hc:=zGi hp hf
  rw [hc] at par
  have e:pl.1 = 2:=by
   simp at par
   omega
  have eo:onR one other pl.1 = other:=by rw [e]; rfl
  refine ⟨e,?_⟩
  unfold fstP at hf
  rw [eo] at hf
  exact hf
theorem y1w {one other:Rule} {n:Int} {h:List Int} (R:Rul one other) (hp:Hep n h) {i:Nat} (L:Live one other h i) (hi:i % 2 = 0):i = 0 \/ fstP one other (wk one other h i) ≠ none:=by
 cases i with
 | zero=>exact .inl rfl
 | succ i =>
  right
  have hf:=L i (Nat.lt_succ_self i) (by omega)
  obtain ⟨_,_,h1,h2⟩:=(z8q R hp i (L.less (Nat.le_succ i))).tog hf
  have e:wk one other h (i + 1) = togG one other (wk one other h i):=by rw [wk,if_neg (by omega)]
  unfold fstP at hf ⊢
  rw [e,h1,h2]
  exact hf
theorem yEe {one other:Rule} {n:Int} {h:List Int} (R:Rul one other) (hp:Hep n h) {i:Nat} (L:Live one other h i):zAh other (wk one other h i) = true ↔ i % 2 = 1 /\ fstP one other (wk one other h i) = none :=
 (z8q R hp i L).end_iff fun e=>y1w R hp L e
theorem yJa {one other:Rule} {n:Int} {h:List Int} (R:Rul one other) (hp:Hep n h) (hk:z1m one h = none):∀ {i j:Nat},i < j -> Live one other h j -> wk one other h i ≠ wk one other h j:=by
 intro i
 induction i with
 | zero =>
  intro j hj L e
  have w:=z8q R hp j L
  have par:=w.par
  rw [<- e] at par
  have hj2:j % 2 = 0:=by
   have:((1:Int) + ((0:Nat):Int) + (j:Int)) % 2 = 1:=par
   omega
  rcases y1w R hp L hj2 with z | z
  ·omega
  ·rw [<- e] at z
   exact z hk
 | succ i ih =>
  intro j hj L e
  obtain ⟨j,rfl⟩:∃ m,j = m + 1:=⟨j - 1,by omega⟩
  have Lj:=L.less (Nat.le_succ j)
  have Li1:=L.less (Nat.le_of_lt hj)
  have Li:=Li1.less (Nat.le_succ i)
  have wi:=z8q R hp i Li
  have wj:=z8q R hp j Lj
  have p1:=(z8q R hp (i + 1) Li1).par
  have p2:=(z8q R hp (j + 1) L).par
  rw [e] at p1
  have hm:i % 2 = j % 2:=by omega
  refine ih (by omega) Lj ?_
  rw [wk,wk] at e
  by_cases c:i % 2 = 0
  ·rw [if_pos c,if_pos (by omega)] at e
   rw [<- wi.crossB,e,wj.crossB]
  ·rw [if_neg c,if_neg (by omega)] at e
   rw [<- (wi.tog (Li1 i (Nat.lt_succ_self i) (by omega))).2.1,e,(wj.tog (L j (Nat.lt_succ_self j) (by omega))).2.1]
noncomputable def univ (L n:Nat):List Plc:=[1,2].flatMap fun s=>(z2y 26 n n).flatMap fun h=>(chG (upto L)).map fun c=>(s,h,c)
theorem yDg {L n:Nat} (hL:L <= 6) (hn:n <= 24):(univ L n).length <= 201600:=by
 unfold univ
 have h2:(chG (upto L)).length <= 64:=by
  rw [zFo L (upto L) (z9k L)]
  exact Nat.le_trans (Nat.pow_le_pow_right (by decide) hL) (by decide)
 have h3:=y2x hn
 have h4:∀ s:Int,((z2y 26 n n).flatMap fun h=>(chG (upto L)).map fun c=>((s,h,c):Plc)).length <= 100800:=fun s=>by
  rw [List.length_flatMap]
  have:∀ l:List (List Int),(l.map fun h=>((chG (upto L)).map fun c=>((s,h,c):Plc)).length).sum = l.length * (chG (upto L)).length:=fun l=>by
   induction l with
   | nil=>simp
   | cons x r ih =>
    rw [List.map_cons,List.sum_cons,ih,List.length_map,List.length_cons,Nat.succ_mul]
    omega
  rw [this]
  exact Nat.le_trans (Nat.mul_le_mul h3 h2) (by decide)
 have h5:=h4 1
 have h6:=h4 2
 rw [List.flatMap_cons,List.flatMap_cons,List.flatMap_nil,List.append_nil,List.length_append]
 omega
theorem Hep.part {m:Nat} {h:List Int} (p:Hep (m:Int) h) (hm:m <= 24):h ∈ z2y 26 m m:=by
 refine zEz 26 m m h (by omega) p.pw (fun x hx=>⟨p.pos x hx,?_⟩) p.sum
 have e:=p.sum
 obtain ⟨l,r,rfl⟩:=List.append_of_mem hx
 rw [List.sum_append,List.sum_cons] at e
 have h1:0 <= l.sum:=zHa fun y hy=>p.pos y (by simp [hy])
 have h2:0 <= r.sum:=zHa fun y hy=>p.pos y (by simp [hy])
 omega
theorem yGp {one other:Rule} {m:Nat} {h:List Int} (R:Rul one other) (hp:Hep (m:Int) h) (hm:m <= 24) (hk:z1m one h = none) {k:Nat} (L:Live one other h k):k < (univ one.length m).length:=by
 have hnd:((List.range (k + 1)).map (wk one other h)).Nodup:=by
  rw [List.nodup_iff_pairwise_ne,List.pairwise_map]
  refine List.Pairwise.imp_of_mem (fun {a b} ha hb hab=>?_) List.pairwise_lt_range
  exact yJa R hp hk hab (L.less (by have:=List.mem_range.mp hb; omega))
 have:=zIz hnd (u:=univ one.length m) fun x hx=>by
  obtain ⟨i,hi,rfl⟩:=List.mem_map.mp hx
  have w:=z8q R hp i (L.less (by have:=List.mem_range.mp hi; omega))
  obtain ⟨hs,hpr⟩:=z2w w.ip
  unfold univ
  refine List.mem_flatMap.mpr ⟨(wk one other h i).1,by simp; exact hs,List.mem_flatMap.mpr ⟨(wk one other h i).2.1,w.hep.part hm,List.mem_map.mpr ⟨(wk one other h i).2.2,?_,rfl⟩⟩⟩
  have hc:=(z7s hpr).1
  rw [z9v R.ln] at hc
  exact zFn _ (y2j hc) fun x hx=>z5j hc x hx
 rw [List.length_map,List.length_range] at this
 omega
theorem yEf {one other:Rule} {m:Nat} {h:List Int} (R:Rul one other) (hp:Hep (m:Int) h) (hm:m <= 24) (hk:z1m one h = none) {k:Nat} (L:Live one other h k):k < 201600 :=
 Nat.lt_of_lt_of_le (yGp R hp hm hk L) (yDg R.l6 hm)
structure EndAt (one other:Rule) (h:List Int) (m:Nat):Prop where
 lv:Live one other h m
 od:m % 2 = 1
 no:fstP one other (wk one other h m) = none
theorem EndAt.uniq {one other:Rule} {h:List Int} {m m':Nat} (a:EndAt one other h m) (b:EndAt one other h m'):m = m':=by
 rcases Nat.lt_trichotomy m m' with c | c | c
 ·exact absurd a.no (b.lv m c a.od)
 ·exact c
 ·exact absurd b.no (a.lv m' c b.od)
theorem Live.next {one other:Rule} {h:List Int} {k:Nat} (L:Live one other h k) (hn:¬ EndAt one other h k):Live one other h (k + 1):=fun i hi ho z=>by
 by_cases c:i = k
 ·subst c
  exact hn ⟨L,ho,z⟩
 ·exact L i (by omega) ho z
theorem yAg {one other:Rule} {m:Nat} {h:List Int} (R:Rul one other) (hp:Hep (m:Int) h) (hm:m <= 24) (hk:z1m one h = none):∃ k,EndAt one other h k:=by
 refine Classical.byContradiction fun hn=>?_
 have:∀ k,Live one other h k:=fun k=>by
  induction k with
  | zero=>exact fun i hi=>absurd hi (Nat.not_lt_zero _)
  | succ k ih=>exact ih.next fun e=>hn ⟨k,e⟩
 exact absurd (yEf R hp hm hk (this 201600)) (Nat.lt_irrefl _)
theorem EndAt.side {one other:Rule} {n:Int} {h:List Int} {k:Nat} (R:Rul one other) (hp:Hep n h) (e:EndAt one other h k):(wk one other h k).1 = 2 /\ (wk one other h k).2.2 = [] /\ z1m other (wk one other h k).2.1 = none:=by
 have w:=z8q R hp k e.lv
 have:=(yEe R hp e.lv).mpr ⟨e.od,e.no⟩
 unfold zAh at this
 rw [Bool.and_eq_true,decide_eq_true_eq,Option.isNone_iff_eq_none] at this
 exact ⟨this.1,zGi (z2w w.ip).2 e.no,this.2⟩
noncomputable def endH (one other:Rule) (h:List Int):List Int:=open Classical in if e:∃ k,EndAt one other h k then (wk one other h e.choose).2.1 else []
theorem zFr {one other:Rule} {h:List Int} {k:Nat} (e:EndAt one other h k):endH one other h = (wk one other h k).2.1:=by
 have x:∃ k,EndAt one other h k:=⟨k,e⟩
 unfold endH
 rw [dif_pos x,x.choose_spec.uniq e]
noncomputable def z9l (one other:Rule) (h:List Int) (k:Nat):List Plc:=(List.range (k + 1)).map (wk one other h)
theorem y6b (one other:Rule) (h:List Int) (k:Nat):z9l one other h (k + 1) = z9l one other h k ++ [wk one other h (k + 1)]:=by
 unfold z9l
 rw [List.range_succ,List.map_append]
 rfl
theorem yAd (one other:Rule) (h:List Int) (k:Nat):(z9l one other h k).length = k + 1:=by unfold z9l; rw [List.length_map,List.length_range]
theorem yDi (one other:Rule) (h:List Int) {k i:Nat} (hi:i <= k):(z9l one other h k)[i]? = some (wk one other h i):=by
 unfold z9l
 rw [List.getElem?_map,List.getElem?_range (by omega)]
 rfl
theorem y0e {one other:Rule} {hs:List Int} {k:Nat} {H:Hp} {xs:List V} (h:All2 z3z H (z9l one other hs k) xs):∃ ys v,xs = ys ++ [v] /\ ys.length = k /\ z3z (wk one other hs k) v H:=by
 have hl:=h.length
 rw [yAd] at hl
 have hne:xs ≠ []:=fun e=>by rw [e] at hl; cases hl
 have hd:xs.dropLast.length = k:=by rw [List.length_dropLast]; omega
 refine ⟨xs.dropLast,xs.getLast hne,(List.dropLast_concat_getLast hne).symm,hd,?_⟩
 have e:xs[k]? = some (xs.getLast hne):=by
  rw [List.getLast_eq_getElem,List.getElem?_eq_getElem (by omega)]
  congr 2
  omega
 obtain ⟨a,ha,r⟩:=h.get e
 rw [yDi one other hs (Nat.le_refl k)] at ha
 cases ha
 exact r
theorem yAe {one other:Rule} {hs:List Int} {k:Nat} {H H':Hp} {xs:List V} {v:V} (h:All2 z3z H (z9l one other hs k) xs) (t:Tups H H') (hv:z3z (wk one other hs (k + 1)) v H'):All2 z3z H' (z9l one other hs (k + 1)) (xs ++ [v]):=by
 rw [y6b]
 exact (h.imp fun _ _ z=>z.mv t).append (.cons hv .nil)
theorem z3p {rule:Rule} {m:Nat} {h:List Int} (hh:h ∈ z2a rule m) (hm:m <= 24):Hep (m:Int) h /\ z1m rule h = none:=by
 obtain ⟨h1,h2⟩:=List.mem_filter.mp hh
 exact ⟨y2y 26 m m h (by omega) h1,by simpa using h2⟩
theorem Hep.sm {n:Int} {h:List Int} (p:Hep n h) (hn:n <= 60):h.length <= 100000:=by
 have:=p.len
 omega
theorem zBa {one other:Rule} {m:Nat} {h:List Int} (R:Rul one other) (hp:Hep (m:Int) h) (hm:m <= 24) (hk:z1m one h = none):Hep (m:Int) (endH one other h) /\ z1m other (endH one other h) = none:=by
 obtain ⟨k,e⟩:=yAg R hp hm hk
 rw [zFr e]
 exact ⟨(z8q R hp k e.lv).hep,(e.side R hp).2.2⟩
theorem z5v.sm {H:Hp} {n:Nat} {z:List Int × List Int} {x y:V} (l1:z.1.length <= 100000) (l2:z.2.length <= 100000) (h1:z5v z x H) (h2:z5v z y H):SmG (n + 3) H x y:=by
 obtain ⟨q,a,b,rfl,a1,a2,a3⟩:=h1
 obtain ⟨q',a',b',rfl,b1,b2,b3⟩:=h2
 exact .pair a1 b1 (.ints a2 b2 l1) (.ints a3 b3 l2)
theorem yFe {one other:Rule} {m:Nat} (R:Rul one other) (hm:m <= 24) {H:Hp} {f d:Addr} {xs ys:List V} {n:Nat} (h1:H f = some (.lst xs)) (h2:H d = some (.lst ys)) (a1:All2 z5v H ((z2a one m).map fun h=>(h,endH one other h)) xs) (a2:All2 z5v H ((z2a one m).map fun h=>(h,endH one other h)) ys):SmG (n + 4) H (.ref f) (.ref d):=by
 refine SmG.lstR h1 h2 a1 a2 ?_ fun z x y hz r1 r2=>?_
 ·rw [List.length_map]
  have:=y2x hm
  have:=List.length_filter_le (fun h=>(z1m one h).isNone) (z2y 26 m m)
  unfold z2a
  omega
 ·obtain ⟨h,hh,rfl⟩:=List.mem_map.mp hz
  obtain ⟨p1,p2⟩:=z3p hh hm
  obtain ⟨p3,_⟩:=zBa R p1 hm p2
  exact z5v.sm (p1.sm (by omega)) (p3.sm (by omega)) r1 r2
def swS (pl:Plc):Plc:=(3 - pl.1,pl.2)
theorem y2v {one other:Rule} {s:Int} (h:s = 1 \/ s = 2):onR other one (3 - s) = onR one other s:=by
 rcases h with e | e <;> subst e <;> rfl
theorem yBd {one other:Rule} {pl:Plc} (h:pl.1 = 1 \/ pl.1 = 2):z5n other one (swS pl) = swS (z5n one other pl):=by
 unfold z5n swS
 dsimp only
 have e1:onR other one (3 - pl.1) = onR one other pl.1:=y2v h
 have e2:onR other one (3 - (3 - pl.1)) = onR one other (3 - pl.1):=y2v (s:=3 - pl.1) (by omega)
 rw [e1,e2]
theorem yIw {one other:Rule} {pl:Plc} (h:pl.1 = 1 \/ pl.1 = 2):togG other one (swS pl) = swS (togG one other pl):=by
 unfold togG
 have e1:onR other one (swS pl).1 = onR one other pl.1:=y2v h
 rw [e1]
 show (match z2v (onR one other pl.1) pl.2 with | some pc=>(_,pc) | none=>_) = _
 cases z2v (onR one other pl.1) pl.2 <;> rfl
theorem yGw {one other:Rule} {pl:Plc} (h:pl.1 = 1 \/ pl.1 = 2):fstP other one (swS pl) = fstP one other pl:=by
 unfold fstP
 rw [show onR other one (swS pl).1 = onR one other pl.1 from y2v h]
 rfl
theorem yGo {one other:Rule} {n:Int} {h:List Int} {m:Nat} (R:Rul one other) (hp:Hep n h) (e:EndAt one other h m):∀ i,i <= m -> wk other one (wk one other h m).2.1 i = swS (wk one other h (m - i)):=by
 intro i
 induction i with
 | zero =>
  intro _
  obtain ⟨s1,s2,_⟩:=e.side R hp
  show (1,(wk one other h m).2.1,[]) = (3 - (wk one other h m).1,(wk one other h m).2.1,(wk one other h m).2.2)
  rw [s1,s2]
  rfl
 | succ i ih =>
  intro hi
  have lt:m - (i + 1) < m:=by omega
  have w:=z8q R hp (m - (i + 1)) (e.lv.less (by omega))
  have w2:=z8q R hp (m - i) (e.lv.less (by omega))
  have em:m - i = (m - (i + 1)) + 1:=by omega
  have od:=e.od
  rw [wk,ih (by omega)]
  by_cases c:i % 2 = 0
  ·rw [if_pos c,yBd (z2w w2.ip).1,em,wk,if_pos (by omega),w.crossB]
  ·rw [if_neg c,yIw (z2w w2.ip).1,em,wk,if_neg (by omega),(w.tog (e.lv _ lt (by omega))).2.1]
theorem EndAt.back {one other:Rule} {n:Int} {h:List Int} {m:Nat} (R:Rul one other) (hp:Hep n h) (hk:z1m one h = none) (e:EndAt one other h m):EndAt other one (wk one other h m).2.1 m /\ (wk other one (wk one other h m).2.1 m).2.1 = h:=by
 have hb:=yGo R hp e
 have od:=e.od
 have e0:wk other one (wk one other h m).2.1 m = swS (1,h,[]):=by rw [hb m (Nat.le_refl _),Nat.sub_self]; rfl
 refine ⟨⟨fun i hi ho=>?_,od,?_⟩,by rw [e0]; rfl⟩
 ·rw [hb i (by omega),yGw (z2w (z8q R hp (m - i) (e.lv.less (by omega))).ip).1]
  rcases y1w R hp (e.lv.less (show m - i <= m by omega)) (by omega) with z | z
  ·omega
  ·exact z
 ·rw [e0]
  exact hk
theorem zBu {one other:Rule} {m:Nat} {h:List Int} (R:Rul one other) (hp:Hep (m:Int) h) (hm:m <= 24) (hk:z1m one h = none):endH other one (endH one other h) = h:=by
 obtain ⟨k,e⟩:=yAg R hp hm hk
 rw [zFr e]
 obtain ⟨e',h'⟩:=e.back R hp hk
 rw [zFr e',h']
end L2
namespace L2
open PySem PySem.Spec PyProof.Rows
def Rise (xs:List Nat):Prop:=xs.Pairwise (· < ·)
structure SI (b:Bool) (t:SetTable):Prop where
 led:t.led = b
 dum:t.dummies = #[]
 rise:Rise t.place.toList
section
variable {prog:Program} {w:World} {A:Around} {E:Value -> Shared -> Prop} {s:Shared}
end
section
variable {prog:Program} {w:World} {A:Around} {R:Result -> Shared -> Prop} {I:Addr} {fp wr:List Addr} {G:Array GenState -> Array GenState -> Prop} {n:Nat} {P:Nat -> Value -> Prop} {St:Nat -> Shared -> Prop}
end
section
variable {prog:Program} {w:World} {A:Around} {E:Value -> Shared -> Prop} {s:Shared}
end
end L2
namespace L2
open PySem PySem.Spec PyProof.Rows
section
variable {prog:Program} {w:World} {A:Around} {E:Value -> Shared -> Prop}
end
section
variable {prog:Program} {w:World} {A:Around} {E:Value -> Shared -> Prop} {s:Shared} {J S:Addr} {es:Array (Int × Value)} {ep:Nat} {t:SetTable}
end
section
variable {prog:Program} {w:World} {A:Around} {E:Value -> Shared -> Prop} {s:Shared} {S:Addr} {es:Array (Int × Value)} {ep:Nat} {t:SetTable}
end
end L2
namespace L2
open PySem PySem.Spec PyProof.Rows
section
variable {prog:Program} {w:World} {A:Around} {E:Value -> Shared -> Prop} {s:Shared} {S:Addr} {es:Array (Int × Value)} {ep:Nat} {t:SetTable}
end
section
variable {X:Cx}
end
end L2
namespace L2
open PySem PySem.Spec PyProof.Rows
abbrev Pr2:=List Int × List Int
section
variable {prog:Program} {w:World}
def z1x (prog:Program) (w:World) (h:Heap) (k:Pr2) (a:Addr):Prop:=∃ o n q1 q2,h.get? a = some o /\ o.cls = .type "tuple" /\ o.data = .seq #[.ref q1,.ref q2] n /\ IsTupleKey (intKind prog w) h k.1 q1 /\ IsTupleKey (intKind prog w) h k.2 q2
def zGg (prog:Program) (w:World) (k:Pr2):Int:=reduceHash (Builtin.Tuple.tupleHashOf [tupleKeyHash (intKind prog w) k.1,tupleKeyHash (intKind prog w) k.2])
def z9b (k:Pr2):Nat:=(k.1.length + 1) + (k.2.length + 1) + 1
theorem z1x.type {s:Shared} {k:Pr2} {a:Addr} (x:z1x prog w s.heap k a):s.TypeIs (.ref a) "tuple" := let ⟨o,_,_,_,ho,hc,_⟩:=x; ⟨o,ho,hc⟩
theorem z1x.inj {h:Heap} {a:Addr} {x y:Pr2} (hx:z1x prog w h x a) (hy:z1x prog w h y a):x = y:=by
 obtain ⟨o,n,q1,q2,ho,_,hd,h1,h2⟩:=hx
 obtain ⟨o',n',p1,p2,ho',_,hd',h1',h2'⟩:=hy
 rw [ho] at ho'
 cases ho'
 rw [hd] at hd'
 injection hd' with e1 _
 have e2:[Value.ref q1,Value.ref q2] = [Value.ref p1,Value.ref p2]:=congrArg Array.toList e1
 simp only [List.cons.injEq,Value.ref.injEq,and_true] at e2
 obtain ⟨rfl,rfl⟩:=e2
 exact Prod.ext (h1.inj h1') (h2.inj h2')
theorem z1x.keeps {h h':Heap} {k:Pr2} {a d:Addr} {o:Obj} {es:Array DictEntry} {ep:Nat} (x:z1x prog w h k a) (ho:h.get? d = some o) (hd:o.data = .dict es ep) (hs:Heap.SameBut d h h'):z1x prog w h' k a:=by
 obtain ⟨o',n,q1,q2,ho',hc,hd',h1,h2⟩:=x
 have hne:a ≠ d:=fun e=>by
  subst e
  rw [ho] at ho'
  cases ho'
  rw [hd] at hd'
  cases hd'
 exact ⟨o',n,q1,q2,(hs.2 a hne).trans ho',hc,hd',h1.keeps ho hd hs,h2.keeps ho hd hs⟩
variable {A:Around} {E:Value -> Shared -> Prop} {s:Shared}
theorem y1j {k:Pr2} {a:Addr} {Q:Int -> Shared -> Prop} (hu:A.units + 1 < cLine) (hk:z1x prog w s.heap k a) (h:Q (zGg prog w k) { s with toks:=s.toks + z9b k }) :
  wpAny (model prog w) A (pyHash (.ref a)) Q E s:=by
 have hT:=hk.type
 obtain ⟨o,n,q1,q2,ho,_,hd,h1,h2⟩:=hk
 unfold pyHash
 first | unfold pyHashByItsType | skip
 first | refine wpAny_bind (wpAny_cRoomFor_or (.inr (Nat.lt_of_succ_lt hu)) ?_) | skip
 refine wpAny_bind (wpAny_specialOf hT F.slot_tuple_hash.lookup ?_)
 show wpAny _ _ (if (some (Value.builtin "tuple.__hash__") == some Value.none) = true then _ else _) Q E s
 rw [if_neg (by rw [beq_builtin_none]; exact Bool.false_ne_true)]
 refine wpAny_bind (wpAny_specialOf hT F.slot_tuple_hash.lookup ?_)
 show wpAny _ _ (callSpecialIfBoundUnlessNone? (.ref a) "__hash__" _ >>= _) Q E s
 refine wpAny_bind (wpAny_callSpecialIfBoundUnlessNone?_slot hT F.slot_tuple_hash (wpAny_call_entry F.slot_tuple_hash hT F.entry_tuple_hash ?_ (F.args_tuple_hash_1 _)))
 show wpAny _ _ (Builtin.Tuple.tupleItemsOf (.ref a) >>= _) _ _ s
 refine wpAny_bind (wpAny_tupleItemsOf ho hd ?_)
 refine wpAny_bind ?_
 rw [<- Array.forIn_toList]
 refine wpAny_forIn_list _
  (fun rest (b:Array Int) s'=>(rest = [.ref q1,.ref q2] /\ b = #[] /\ s' = s) \/ (rest = [.ref q2] /\ b = #[tupleKeyHash (intKind prog w) k.1] /\ s' = { s with toks:=s.toks + (k.1.length + 1) }) \/
   (rest = [] /\ b = #[tupleKeyHash (intKind prog w) k.1,tupleKeyHash (intKind prog w) k.2] /\ s' = { s with toks:=s.toks + (k.1.length + 1) + (k.2.length + 1) }))
  _ ?_ ?_ _ _ (.inl ⟨rfl,rfl,rfl⟩)
 ·rintro x rest b s' (⟨e,rfl,rfl⟩ | ⟨e,rfl,rfl⟩ | ⟨e,_⟩)
  ·cases e
   refine wpAny_bind (wpAny_pyHash_tuple (A:=A.in1) hu h1 ?_)
   first
    | exact wpAny_pure (.inr (.inl ⟨rfl,rfl,rfl⟩))
    | exact wpAny_bind (wpAny_pure (wpAny_pure (.inr (.inl ⟨rfl,rfl,rfl⟩))))
  ·cases e
   refine wpAny_bind (wpAny_pyHash_tuple (A:=A.in1) (s:={ s with toks:=s.toks + (k.1.length + 1) }) hu h2 ?_)
   first
    | exact wpAny_pure (.inr (.inr ⟨rfl,rfl,rfl⟩))
    | exact wpAny_bind (wpAny_pure (wpAny_pure (.inr (.inr ⟨rfl,rfl,rfl⟩))))
  ·cases e
 ·rintro b s' (⟨e,_⟩ | ⟨e,_⟩ | ⟨_,rfl,rfl⟩)
  ·cases e
  ·cases e
  ·show wpAny _ _ (retInt (Builtin.Tuple.tupleHashOf [tupleKeyHash (intKind prog w) k.1,tupleKeyHash (intKind prog w) k.2])) _ _ _
   unfold zGg at h
   generalize Builtin.Tuple.tupleHashOf [tupleKeyHash (intKind prog w) k.1,tupleKeyHash (intKind prog w) k.2] = T at h ⊢
   have e:s.toks + z9b k = s.toks + (k.1.length + 1) + (k.2.length + 1) + 1:=by unfold z9b; omega
   rw [e] at h
   refine wpAny_ret_mkInt ?_
   show wpAny _ _ (if (decide (-(2:Int) ^ 63 <= T) && decide (T < 2 ^ 63)) = true then _ else _) Q E _
   unfold reduceHash at h
   by_cases hr:(decide (-(2:Int) ^ 63 <= T) && decide (T < 2 ^ 63)) = true
   ·rw [if_pos hr]
    rw [if_pos hr] at h
    exact wpAny_pure h
   ·rw [if_neg hr]
    rw [if_neg hr] at h
    exact wpAny_bind (wpAny_rule (wpAny_pure h))
theorem zJg {x y:Pr2} {a b:Addr} {P:Fin -> Shared -> Prop} (hu:A.units < cLine) (hx:z1x prog w s.heap x a) (hy:z1x prog w s.heap y b) (h:P (.done (.ret (.bool (decide (x = y))))) s) :
  wpAny (model prog w) A (Builtin.«tuple.__eq__» ⟨[.ref a,.ref b],[]⟩) P E s:=by
 have hTb:=hy.type
 obtain ⟨oa,na,q1,q2,hoa,_,hda,x1,x2⟩:=hx
 obtain ⟨ob,nb,p1,p2,hob,_,hdb,y1,y2⟩:=hy
 show wpAny _ _ (isInstance (.ref b) (.type "tuple") >>= _) _ _ s
 refine wpAny_bind (wpAny_isInstance hTb isSubtype_tuple_tuple ?_)
 simp only [Bool.not_true,Bool.false_eq_true,if_false]
 refine wpAny_bind (wpAny_tupleItemsOf hoa hda ?_)
 refine wpAny_bind (wpAny_tupleItemsOf hob hdb ?_)
 refine wpAny_bind ?_
 refine wpAny_forIn_list _
  (fun rest r s'=>r.1 = none /\ s' = s /\ (rest = [(.ref q1,.ref p1),(.ref q2,.ref p2)] \/ (rest = [(.ref q2,.ref p2)] /\ x.1 = y.1) \/ (rest = [] /\ x = y)))
  _ ?_ ?_ _ _ ⟨rfl,rfl,.inl rfl⟩
 ·rintro ⟨u,v⟩ rest r s' ⟨hr,rfl,e | ⟨e,e1⟩ | ⟨e,_⟩⟩
  ·cases e
   refine wpAny_bind (wpAny_eqBool_tuple hu x1 y1 ?_)
   by_cases hk:x.1 = y.1
   ·rw [decide_eq_true hk]
    simp only [Bool.not_true,Bool.false_eq_true,if_false]
    exact wpAny_pure ⟨rfl,rfl,.inr (.inl ⟨by trivial,hk⟩)⟩
   ·rw [decide_eq_false hk]
    simp only [Bool.not_false,if_true]
    have hf:decide (x = y) = false:=decide_eq_false fun z=>hk (by rw [z])
    rw [hf] at h
    exact wpAny_bind (wpAny_pure (wpAny_pure (wpAny_pure h)))
  ·cases e
   refine wpAny_bind (wpAny_eqBool_tuple hu x2 y2 ?_)
   by_cases hk:x.2 = y.2
   ·rw [decide_eq_true hk]
    simp only [Bool.not_true,Bool.false_eq_true,if_false]
    exact wpAny_pure ⟨rfl,rfl,.inr (.inr ⟨by trivial,Prod.ext e1 hk⟩)⟩
   ·rw [decide_eq_false hk]
    simp only [Bool.not_false,if_true]
    have hf:decide (x = y) = false:=decide_eq_false fun z=>hk (by rw [z])
    rw [hf] at h
    exact wpAny_bind (wpAny_pure (wpAny_pure (wpAny_pure h)))
  ·cases e
 ·rintro ⟨r1,r2⟩ s' ⟨hr,rfl,e | ⟨e,_⟩ | ⟨_,e⟩⟩
  ·cases e
  ·cases e
  ·simp only at hr
   subst hr
   refine wpAny_pure ?_
   rw [decide_eq_true e] at h
   exact h
theorem y0n {x y:Pr2} {a b:Addr} {Q:Bool -> Shared -> Prop} (hu:A.units + 1 < cLine) (hx:z1x prog w s.heap x a) (hy:z1x prog w s.heap y b) (h:Q (decide (x = y)) s) :
  wpAny (model prog w) A (eqBool (.ref a) (.ref b)) Q E s:=by
 unfold eqBool
 try with_reducible refine wpAny_holding ?_
 show wpAny _ _ (if (Value.ref a == Value.ref b) = true then _ else _) Q E s
 by_cases hab:(Value.ref a == Value.ref b) = true
 ·rw [if_pos hab]
  have e:a = b:=by have:=eq_of_beq hab; injection this
  subst e
  obtain rfl:=hx.inj hy
  exact wpAny_bind (wpAny_rule (wpAny_pure (by simpa using h)))
 ·rw [if_neg hab]
  exact wpAny_bind (wpAny_richCompare_same_room (op:=.Eq) hx.type hy.type F.slot_tuple_eq
   (wpAny_call_entry F.slot_tuple_eq hx.type F.entry_tuple_eq (zJg (A:=A.in1) hu hx hy ⟨_,rfl,(fun e=>nomatch e),wpAny_truthy_bool h⟩) (F.args_tuple_eq_2 _ _)) (Nat.lt_of_succ_lt hu))
theorem zFd {d:Nat} {ks:List Int} {a:Addr} {Q:Bool -> Shared -> Prop} (hk:IsTupleKey (intKind prog w) s.heap ks a) (h:Q true s):wpAny (model prog w) A (eqIsQuiet (d + 1) (.ref a)) Q E s:=by
 have hT:=hk.typeIs
 obtain ⟨o,items,n,ho,_,hd,hi⟩:=hk
 unfold eqIsQuiet
 refine wpAny_bind (wpAny_specialOf hT F.slot_tuple_eq.lookup ?_)
 show wpAny _ _ (isInstance (.ref a) (.type "tuple") >>= _) _ _ s
 refine wpAny_bind (wpAny_isInstance hT isSubtype_tuple_tuple ?_)
 simp only [Bool.not_true,Bool.false_eq_true,if_false]
 refine wpAny_bind (wpAny_seqItems ho hd ?_)
 refine wpAny_bind ?_
 show wpAny _ _ (forIn items _ _) _ _ s
 rw [<- Array.forIn_toList]
 refine wpAny_forIn_list _ (fun rest r s'=>r.1 = none /\ s' = s /\ ∀ v ∈ rest,carriedByValue v = true) _ ?_ ?_ _ _ ⟨rfl,rfl,hi.byValue⟩
 ·rintro v rest r s' ⟨hr,rfl,hall⟩
  rw [eqIsQuiet_byValue _ (hall v List.mem_cons_self)]
  refine wpAny_bind (wpAny_pure ?_)
  simp only [Bool.not_true,Bool.false_eq_true,if_false]
  exact wpAny_pure ⟨rfl,rfl,fun u hu'=>hall u (List.mem_cons_of_mem _ hu')⟩
 ·rintro ⟨r1,r2⟩ s' ⟨hr,rfl,_⟩
  simp only at hr
  subst hr
  exact wpAny_pure h
theorem y5e {k:Pr2} {a:Addr} {Q:Bool -> Shared -> Prop} (hk:z1x prog w s.heap k a) (h:Q true s):wpAny (model prog w) A (eqIsQuiet 8 (.ref a)) Q E s:=by
 have hT:=hk.type
 obtain ⟨o,n,q1,q2,ho,_,hd,h1,h2⟩:=hk
 unfold eqIsQuiet
 refine wpAny_bind (wpAny_specialOf hT F.slot_tuple_eq.lookup ?_)
 show wpAny _ _ (isInstance (.ref a) (.type "tuple") >>= _) _ _ s
 refine wpAny_bind (wpAny_isInstance hT isSubtype_tuple_tuple ?_)
 simp only [Bool.not_true,Bool.false_eq_true,if_false]
 refine wpAny_bind (wpAny_seqItems ho hd ?_)
 refine wpAny_bind ?_
 show wpAny _ _ (forIn #[Value.ref q1,Value.ref q2] _ _) _ _ s
 rw [<- Array.forIn_toList]
 refine wpAny_forIn_list _ (fun rest r s'=>r.1 = none /\ s' = s /\ ∀ v ∈ rest,v = .ref q1 \/ v = .ref q2) _ ?_ ?_ _ _ ⟨rfl,rfl,by simp⟩
 ·rintro v rest r s' ⟨hr,rfl,hall⟩
  have key:∀ {Q':Bool -> Shared -> Prop},Q' true s' -> wpAny (model prog w) A (eqIsQuiet 7 v) Q' E s':=fun hq=>by
   rcases hall v List.mem_cons_self with rfl | rfl
   ·exact zFd (d:=6) h1 hq
   ·exact zFd (d:=6) h2 hq
  refine wpAny_bind (key ?_)
  simp only [Bool.not_true,Bool.false_eq_true,if_false]
  exact wpAny_pure ⟨rfl,rfl,fun u hu'=>hall u (List.mem_cons_of_mem _ hu')⟩
 ·rintro ⟨r1,r2⟩ s' ⟨hr,rfl,_⟩
  simp only at hr
  subst hr
  exact wpAny_pure h
end
def yCf (prog:Program) (w:World):HeapKind prog w Pr2 where
 is:=z1x prog w
 hash:=zGg prog w
 draws:=z9b
 room:=fun A=>A.units + 1 < cLine
 inj:=fun hx hy=>hx.inj hy
 keeps:=fun x ho hd hs=>x.keeps ho hd hs
 pyHash:=fun hu hk h=>y1j hu hk h
 eqBool:=fun hu hx hy h=>y0n hu hx hy h
 quiet:=fun hk h=>y5e hk h
end L2
namespace L2
open PySem PySem.Spec PyProof.Rows
theorem y2g {prog:Program} {w:World}:∀ {ns:List Int} {its:List Value},Vals (ns.map V.int) its -> ItemsAre (intKind prog w) ns its
 | [],_,.nil=>.nil
 | n :: ns,_,.cons r rs=>by
  obtain ⟨t,rfl⟩:=r
  exact .cons (intKind_is _ _ _ _) (y2g rs)
section
variable {P:Program} {w:World} {H:Hp} {h:Heap}
theorem z8v {ns:List Int} {a:Addr} (ok:HOk P w H h) (e:H a = some (.tup (ns.map V.int))):IsTupleKey (intKind P w) h ns a:=by
 obtain ⟨_,its,r,⟨o,h1,h2,n,h3⟩,_⟩:=(show z2n P w H h a (.tup (ns.map V.int)) from ok a _ e)
 exact ⟨o,its.toArray,n,h1,h2,h3,by simpa using y2g r⟩
theorem zGh {k:Pr2} {b:Addr} (ok:HOk P w H h) (e:z5v k (.ref b) H):(yCf P w).is h k b:=by
 obtain ⟨q,a1,a2,eq,g1,g2,g3⟩:=e
 cases eq
 obtain ⟨_,its,r,⟨o,h1,h2,n,h3⟩,_⟩:=(show z2n P w H h b (.tup [.ref a1,.ref a2]) from ok b _ g1)
 cases r with
 | cons r1 r =>
  cases r with
  | cons r2 r =>
   cases r
   cases r1
   cases r2
   exact ⟨o,n,a1,a2,h1,h2,h3,z8v ok g2,z8v ok g3⟩
end
section
variable {X:Cx} {P0:Program} {w0:World}
end
end L2
namespace L2
open PySem PySem.W PyProof.Rows
def kRun {α:Type} (lt:Nat -> Nat -> Bool):KasT α -> α
 | .ret a=>a
 | .ask i j k=>kRun lt (k (lt i j))
theorem z6l {α β:Type} (lt:Nat -> Nat -> Bool) (f:α -> KasT β):∀ t:KasT α,kRun lt (t.bind f) = kRun lt (f (kRun lt t))
 | .ret _=>rfl
 | .ask i j k=>z6l lt f (k (lt i j))
structure Ord (lt:Nat -> Nat -> Bool):Prop where
 asym:∀ a b,lt a b = true -> lt b a = false
 tr:∀ a b c,lt b a = false -> lt c b = false -> lt c a = false
theorem Ord.irr {lt:Nat -> Nat -> Bool} (o:Ord lt) (a:Nat):lt a a = false:=by
 cases h:lt a a with
 | false=>rfl
 | true=>rw [o.asym a a h] at h; cases h
def at0 (p:Array Nat) (i:Nat):Nat:=p.getD i 0
theorem zHj {p q:Array Nat} {i j:Nat} (h:p[i]? = q[j]?):at0 p i = at0 q j:=by
 unfold at0
 rw [Array.getD_eq_getD_getElem?,Array.getD_eq_getD_getElem?,h]
theorem z7a {p:Array Nat} {i j:Nat} (hj:j <= p.size) (k:Nat):at0 (kas_rev p i j) k = if i <= k /\ k < j then at0 p (i + j - 1 - k) else at0 p k:=by
 have e:=getElem?_mirror_all (xs:=p) (i:=i) hj k
 by_cases h:i <= k /\ k < j
 ·rw [if_pos h] at e ⊢
  exact zHj e
 ·rw [if_neg h] at e ⊢
  exact zHj e
theorem zEi {p:Array Nat} {k l:Nat} (hk:k < p.size) (hl:l <= k) (i:Nat):at0 (bubble p k (k - l)) i = if i = l then at0 p k else if l < i /\ i <= k then at0 p (i - 1) else at0 p i:=by
 have e:=getElem?_bubble (xs:=p) hk (k - l) (by omega) i
 rw [show k - (k - l) = l by omega] at e
 by_cases h1:i = l
 ·rw [if_pos h1] at e ⊢
  exact zHj e
 ·rw [if_neg h1] at e ⊢
  by_cases h2:l < i /\ i <= k
  ·rw [if_pos h2] at e ⊢
   exact zHj e
  ·rw [if_neg h2] at e ⊢
   exact zHj e
section
variable {lt:Nat -> Nat -> Bool}
def Up (lt:Nat -> Nat -> Bool) (p:Array Nat) (m:Nat):Prop:=∀ i j,i <= j -> j < m -> lt (at0 p j) (at0 p i) = false
def Down (lt:Nat -> Nat -> Bool) (p:Array Nat) (m:Nat):Prop:=∀ i j,i <= j -> j < m -> lt (at0 p i) (at0 p j) = false
theorem y1k (o:Ord lt) (p:Array Nat):∀ (f n:Nat),1 <= n -> Up lt p n -> ∃ m,kRun lt (kas_asc p f n) = m /\ n <= m /\ m <= n + f /\ Up lt p m /\ (m = n + f \/ lt (at0 p m) (at0 p (m - 1)) = true)
 | 0,n,_,hu=>⟨n,rfl,Nat.le_refl _,Nat.le_refl _,hu,.inl rfl⟩
 | f + 1,n,h1,hu=>by
  cases hc:lt (at0 p n) (at0 p (n - 1)) with
  | true =>
   refine ⟨n,?_,Nat.le_refl _,by omega,hu,.inr hc⟩
   show kRun lt (if lt (at0 p n) (at0 p (n - 1)) = true then _ else _) = n
   rw [if_pos hc]
   rfl
  | false =>
   have hu':Up lt p (n + 1):=fun i j hij hj=>by
    by_cases e:j = n
    ·subst e
     by_cases e2:i = j
     ·subst e2
      exact o.irr _
     ·exact o.tr _ _ _ (hu i (j - 1) (by omega) (by omega)) hc
    ·exact hu i j hij (by omega)
   obtain ⟨m,e,a1,a2,a3,a4⟩:=y1k o p f (n + 1) (by omega) hu'
   refine ⟨m,?_,by omega,by omega,a3,?_⟩
   ·show kRun lt (if lt (at0 p n) (at0 p (n - 1)) = true then _ else _) = m
    rw [if_neg (by rw [hc]; decide)]
    exact e
   ·rcases a4 with a4 | a4
    ·exact .inl (by omega)
    ·exact .inr a4
def y6c (lt:Nat -> Nat -> Bool) (p:Array Nat) (n q:Nat):Prop:=∀ i j,n - (q + 1) <= i -> i < n -> n - (q + 1) <= j -> j < n -> lt (at0 p i) (at0 p j) = false
theorem y2b (o:Ord lt) {p:Array Nat} {n q:Nat} (hn:n <= p.size) (hd:Down lt p n) (ha:y6c lt p n q) (hq:q + 1 <= n):Down lt (kas_rev p (n - (q + 1)) n) n /\ (∀ k,n <= k -> at0 (kas_rev p (n - (q + 1)) n) k = at0 p k):=by
 refine ⟨fun i j hij hj=>?_,fun k hk=>by rw [z7a hn,if_neg (by omega)]⟩
 rw [z7a hn,z7a hn]
 by_cases hi:n - (q + 1) <= i /\ i < n
 ·rw [if_pos hi,if_pos (by omega)]
  exact ha _ _ (by omega) (by omega) (by omega) (by omega)
 ·rw [if_neg hi]
  by_cases hj2:n - (q + 1) <= j /\ j < n
  ·rw [if_pos hj2]
   exact hd _ _ (by omega) (by omega)
  ·rw [if_neg hj2]
   exact hd i j hij hj
theorem zBi (o:Ord lt):∀ (f:Nat) (p:Array Nat) (n q:Nat),n + f <= p.size -> q + 1 <= n -> Down lt p n -> y6c lt p n q ->
  ∃ p' m q',kRun lt (kas_desc f p n q) = (p',m,q') /\ n <= m /\ m <= n + f /\ p'.Perm p /\ q' + 1 <= m /\ Down lt p' m /\ y6c lt p' m q'
 | 0,p,n,q,_,hq,hd,ha=>⟨p,n,q,rfl,Nat.le_refl _,Nat.le_refl _,.refl _,hq,hd,ha⟩
 | f + 1,p,n,q,hs,hq,hd,ha=>by
  cases hc:lt (at0 p n) (at0 p (n - 1)) with
  | true =>
   have ext:∀ p1:Array Nat,Down lt p1 n -> at0 p1 n = at0 p n -> lt (at0 p1 (n - 1)) (at0 p n) = false -> Down lt p1 (n + 1) /\ y6c lt p1 (n + 1) 0:=fun p1 h1 h2 h3=>by
    refine ⟨fun i j hij hj=>?_,fun i j h1 h2 h3 h4=>?_⟩
    ·by_cases e:j = n
     ·subst e
      by_cases e2:i = j
      ·subst e2
       exact o.irr _
      ·rw [h2]
       exact o.tr _ _ _ h3 (h1 i (j - 1) (by omega) (by omega))
     ·exact h1 i j hij (by omega)
    ·have:i = j:=by omega
     subst this
     exact o.irr _
   have h0:lt (at0 p (n - 1)) (at0 p n) = false:=o.asym _ _ hc
   by_cases hqq:q > 0
   ·obtain ⟨d1,d2⟩:=y2b o (by omega) hd ha hq
    have h3:lt (at0 (kas_rev p (n - (q + 1)) n) (n - 1)) (at0 p n) = false:=by
     rw [z7a (by omega),if_pos (by omega)]
     exact o.tr _ _ _ h0 (ha _ _ (by omega) (by omega) (by omega) (by omega))
    obtain ⟨e1,e2⟩:=ext _ d1 (d2 n (Nat.le_refl _)) h3
    obtain ⟨p',m,q',e,a1,a2,a3,a4,a5,a6⟩:=zBi o f (kas_rev p (n - (q + 1)) n) (n + 1) 0 (by rw [kas_rev_size]; omega) (by omega) e1 e2
    refine ⟨p',m,q',?_,by omega,by omega,a3.trans (mirror_perm _ _ _ _),a4,a5,a6⟩
    show kRun lt (if lt (at0 p n) (at0 p (n - 1)) = true then _ else _) = _
    rw [if_pos hc,if_pos hqq]
    exact e
   ·obtain ⟨e1,e2⟩:=ext p hd rfl h0
    obtain ⟨p',m,q',e,a1,a2,a3,a4,a5,a6⟩:=zBi o f p (n + 1) 0 (by omega) (by omega) e1 e2
    refine ⟨p',m,q',?_,by omega,by omega,a3,a4,a5,a6⟩
    show kRun lt (if lt (at0 p n) (at0 p (n - 1)) = true then _ else _) = _
    rw [if_pos hc,if_neg hqq]
    exact e
  | false =>
   cases hd2:lt (at0 p (n - 1)) (at0 p n) with
   | true =>
    refine ⟨p,n,q,?_,Nat.le_refl _,by omega,.refl _,hq,hd,ha⟩
    show kRun lt (if lt (at0 p n) (at0 p (n - 1)) = true then _ else KasT.ask (at0 p (n - 1)) (at0 p n) _) = _
    rw [if_neg (by rw [hc]; decide)]
    show kRun lt (if lt (at0 p (n - 1)) (at0 p n) = true then _ else _) = _
    rw [if_pos hd2]
    rfl
   | false =>
    have e1:Down lt p (n + 1):=fun i j hij hj=>by
     by_cases e:j = n
     ·subst e
      by_cases e2:i = j
      ·subst e2
       exact o.irr _
      ·exact o.tr _ _ _ hd2 (hd i (j - 1) (by omega) (by omega))
     ·exact hd i j hij (by omega)
    have e2:y6c lt p (n + 1) (q + 1):=fun i j h1 h2 h3 h4=>by
     have toL:∀ i,n + 1 - (q + 1 + 1) <= i -> i < n + 1 -> lt (at0 p i) (at0 p (n - 1)) = false /\ lt (at0 p (n - 1)) (at0 p i) = false:=fun i h1 h2=>by
      by_cases e:i = n
      ·subst e
       exact ⟨hc,hd2⟩
      ·exact ⟨ha _ _ (by omega) (by omega) (by omega) (by omega),ha _ _ (by omega) (by omega) (by omega) (by omega)⟩
     exact o.tr _ _ _ (toL j h3 h4).2 (toL i h1 h2).1
    obtain ⟨p',m,q',e,a1,a2,a3,a4,a5,a6⟩:=zBi o f p (n + 1) (q + 1) (by omega) (by omega) e1 e2
    refine ⟨p',m,q',?_,by omega,by omega,a3,a4,a5,a6⟩
    show kRun lt (if lt (at0 p n) (at0 p (n - 1)) = true then _ else KasT.ask (at0 p (n - 1)) (at0 p n) _) = _
    rw [if_neg (by rw [hc]; decide)]
    show kRun lt (if lt (at0 p (n - 1)) (at0 p n) = true then _ else _) = _
    rw [if_neg (by rw [hd2]; decide)]
    exact e
theorem zJo (o:Ord lt) {p:Array Nat} {n nrem:Nat} (h1:1 <= n) (hn:n <= nrem) (hs:nrem <= p.size) (hd:Down lt p n) :
  ∃ m p',kRun lt (kas_tail3 n nrem p) = (m,p') /\ 1 <= m /\ m <= nrem /\ p'.Perm p /\ Up lt p' m:=by
 have hu:Up lt (kas_rev p 0 n) n:=fun i j hij hj=>by
  rw [z7a (by omega),z7a (by omega),if_pos (by omega),if_pos (by omega)]
  exact hd _ _ (by omega) (by omega)
 obtain ⟨m,e,a1,a2,a3,_⟩:=y1k o (kas_rev p 0 n) (nrem - n) n h1 hu
 refine ⟨m,kas_rev p 0 n,?_,by omega,by omega,mirror_perm _ _ _ _,a3⟩
 unfold kas_tail3
 rw [z6l,e]
 rfl
theorem zAk (o:Ord lt) {p:Array Nat} {n nrem:Nat} (h1:1 <= n) (hn:n + 1 <= nrem) (hs:nrem <= p.size) (hd:Down lt p (n + 1)) :
  ∃ m p',kRun lt (kas_descPart n nrem p) = (m,p') /\ 1 <= m /\ m <= nrem /\ p'.Perm p /\ Up lt p' m:=by
 obtain ⟨p1,m1,q1,e,a1,a2,a3,a4,a5,a6⟩:=zBi o (nrem - (n + 1)) p (n + 1) 0 (by omega) (by omega) hd (fun i j h1 h2 h3 h4=>by
  have:i = j:=by omega
  subst this
  exact o.irr _)
 have hs1:nrem <= p1.size:=by rw [a3.size_eq]; exact hs
 unfold kas_descPart
 rw [z6l,e]
 by_cases hq:q1 > 0
 ·show ∃ m p',kRun lt (if q1 > 0 then _ else _) = _ /\ _
  rw [if_pos hq]
  obtain ⟨d1,_⟩:=y2b o (by omega) a5 a6 a4
  obtain ⟨m,p',e',b1,b2,b3,b4⟩:=zJo o (nrem:=nrem) (by omega) (by omega) (by rw [kas_rev_size]; exact hs1) d1
  exact ⟨m,p',e',b1,b2,b3.trans ((mirror_perm _ _ _ _).trans a3),b4⟩
 ·show ∃ m p',kRun lt (if q1 > 0 then _ else _) = _ /\ _
  rw [if_neg hq]
  obtain ⟨m,p',e',b1,b2,b3,b4⟩:=zJo o (nrem:=nrem) (by omega) (by omega) hs1 a5
  exact ⟨m,p',e',b1,b2,b3.trans a3,b4⟩
theorem y9c (o:Ord lt) {p:Array Nat} {nrem:Nat} (h1:1 <= nrem) (hs:nrem <= p.size) :
  ∃ m p',kRun lt (kas_count nrem p) = (m,p') /\ 1 <= m /\ m <= nrem /\ p'.Perm p /\ Up lt p' m:=by
 obtain ⟨n,e,a1,a2,a3,a4⟩:=y1k o p (nrem - 1) 1 (Nat.le_refl _) (fun i j hij hj=>by
  have:i = j:=by omega
  subst this
  exact o.irr _)
 unfold kas_count
 rw [z6l,e]
 by_cases hn:n = nrem
 ·refine ⟨n,p,?_,a1,by omega,.refl _,a3⟩
  show kRun lt (if (n == nrem) = true then _ else _) = _
  rw [if_pos (by simp [hn])]
  rfl
 ·have hlt:lt (at0 p n) (at0 p (n - 1)) = true:=by
   rcases a4 with a4 | a4
   ·omega
   ·exact a4
  have h0:=o.asym _ _ hlt
  show ∃ m p',kRun lt (if (n == nrem) = true then _ else if n > 1 then KasT.ask (at0 p 0) (at0 p (n - 1)) _ else _) = _ /\ _
  rw [if_neg (by simp [hn])]
  by_cases hn1:n > 1
  ·rw [if_pos hn1]
   cases hc:lt (at0 p 0) (at0 p (n - 1)) with
   | true =>
    refine ⟨n,p,?_,a1,by omega,.refl _,a3⟩
    show kRun lt (if lt (at0 p 0) (at0 p (n - 1)) = true then _ else _) = _
    rw [if_pos hc]
    rfl
   | false =>
    have all:∀ i j,i < n -> j < n -> lt (at0 p i) (at0 p j) = false:=fun i j hi hj=>by
     have x1:lt (at0 p i) (at0 p 0) = false:=a3 0 i (Nat.zero_le _) hi
     have x2:lt (at0 p (n - 1)) (at0 p j) = false:=a3 j (n - 1) (by omega) (by omega)
     exact o.tr _ _ _ x2 (o.tr _ _ _ hc x1)
    have hd:Down lt (kas_rev p 0 n) (n + 1):=fun i j hij hj=>by
     rw [z7a (by omega),z7a (by omega)]
     by_cases hj2:j < n
     ·rw [if_pos (by omega),if_pos (by omega)]
      exact all _ _ (by omega) (by omega)
     ·have ej:j = n:=by omega
      subst ej
      rw [if_neg (show ¬ (0 <= j /\ j < j) by omega)]
      by_cases hi2:i < j
      ·rw [if_pos (by omega)]
       exact o.tr _ _ _ h0 (all _ _ (by omega) (by omega))
      ·have:i = j:=by omega
       subst this
       rw [if_neg (by omega)]
       exact o.irr _
    obtain ⟨m,p',e',b1,b2,b3,b4⟩:=zAk o (nrem:=nrem) a1 (by omega) (by rw [kas_rev_size]; exact hs) hd
    refine ⟨m,p',?_,b1,b2,b3.trans (mirror_perm _ _ _ _),b4⟩
    show kRun lt (if lt (at0 p 0) (at0 p (n - 1)) = true then _ else _) = _
    rw [if_neg (by rw [hc]; decide)]
    exact e'
  ·rw [if_neg hn1]
   have hd:Down lt p (n + 1):=fun i j hij hj=>by
    have en:n = 1:=by omega
    subst en
    by_cases e2:i = j
    ·subst e2
     exact o.irr _
    ·have:i = 0:=by omega
     have:j = 1:=by omega
     subst_vars
     exact h0
   exact zAk o (nrem:=nrem) a1 (by omega) hs hd
theorem zDe (o:Ord lt) {p:Array Nat} {k:Nat} (hu:Up lt p k):∀ (f l r:Nat),r - l <= f -> l <= r -> r <= k -> (∀ i,i < l -> lt (at0 p k) (at0 p i) = false) -> (∀ i,r <= i -> i < k -> lt (at0 p i) (at0 p k) = false) ->
  ∃ m,kRun lt (kas_place p k f l r) = m /\ m <= k /\ (∀ i,i < m -> lt (at0 p k) (at0 p i) = false) /\ (∀ i,m <= i -> i < k -> lt (at0 p i) (at0 p k) = false)
 | 0,l,r,hf,hl,hr,h1,h2=>by
  obtain rfl:l = r:=by omega
  exact ⟨l,rfl,hr,h1,h2⟩
 | f + 1,l,r,hf,hl,hr,h1,h2=>by
  unfold kas_place
  by_cases hlr:l >= r
  ·obtain rfl:l = r:=by omega
   rw [if_pos hlr]
   exact ⟨l,rfl,hr,h1,h2⟩
  ·rw [if_neg hlr]
   show ∃ m,kRun lt (if lt (at0 p k) (at0 p ((l + r) / 2)) = true then _ else _) = m /\ _
   cases hc:lt (at0 p k) (at0 p ((l + r) / 2)) with
   | true =>
    rw [if_pos rfl]
    refine zDe o hu f l ((l + r) / 2) (by omega) (by omega) (by omega) h1 fun i hi hik=>?_
    exact o.tr _ _ _ (o.asym _ _ hc) (hu ((l + r) / 2) i hi hik)
   | false =>
    rw [if_neg (by decide)]
    refine zDe o hu f ((l + r) / 2 + 1) r (by omega) (by omega) hr (fun i hi=>?_) h2
    exact o.tr _ _ _ (hu i ((l + r) / 2) (by omega) (by omega)) hc
theorem y9b (o:Ord lt):∀ (f:Nat) (p:Array Nat) (k:Nat),k + f <= p.size -> Up lt p k -> ∃ p',kRun lt (kas_bin f p k) = p' /\ p'.Perm p /\ Up lt p' (k + f)
 | 0,p,k,_,hu=>⟨p,rfl,.refl _,hu⟩
 | f + 1,p,k,hs,hu=>by
  obtain ⟨l,e,hl,h1,h2⟩:=zDe o hu k 0 k (by omega) (Nat.zero_le _) (Nat.le_refl _) (fun i hi=>by omega) (fun i hi hik=>by omega)
  have hu':Up lt (bubble p k (k - l)) (k + 1):=fun i j hij hj=>by
   rw [zEi (by omega) hl,zEi (by omega) hl]
   by_cases ej:j = l
   ·rw [if_pos ej]
    by_cases ei:i = l
    ·rw [if_pos ei]
     exact o.irr _
    ·rw [if_neg ei,if_neg (by omega)]
     exact h1 i (by omega)
   ·rw [if_neg ej]
    by_cases ej2:l < j /\ j <= k
    ·rw [if_pos ej2]
     by_cases ei:i = l
     ·rw [if_pos ei]
      exact h2 (j - 1) (by omega) (by omega)
     ·rw [if_neg ei]
      by_cases ei2:l < i /\ i <= k
      ·rw [if_pos ei2]
       exact hu _ _ (by omega) (by omega)
      ·rw [if_neg ei2]
       exact hu _ _ (by omega) (by omega)
    ·rw [if_neg ej2]
     have ei:i ≠ l:=by omega
     rw [if_neg ei,if_neg (by omega)]
     exact hu i j hij (by omega)
  obtain ⟨p',e',b1,b2⟩:=y9b o f (bubble p k (k - l)) (k + 1) (by rw [bubble_size]; omega) hu'
  refine ⟨p',?_,b1.trans (bubble_perm _ _ _),by rw [show k + (f + 1) = k + 1 + f by omega]; exact b2⟩
  unfold kas_bin
  rw [z6l,e]
  exact e'
theorem yCs (o:Ord lt) {n:Nat} (hn:1 <= n):∃ p,kRun lt (kas_sort n) = p /\ p.toList.Perm (List.range n) /\ Up lt p n:=by
 have hsz:(List.toArray (List.range n)).size = n:=by simp
 obtain ⟨m,p1,e,a1,a2,a3,a4⟩:=y9c o (p:=List.toArray (List.range n)) hn (Nat.le_of_eq hsz.symm)
 have hp1:p1.size = n:=by rw [a3.size_eq,hsz]
 have hperm:p1.toList.Perm (List.range n):=by
  have:=Array.perm_iff_toList_perm.mp a3
  simpa using this
 unfold kas_sort
 rw [z6l,e]
 show ∃ p,kRun lt (if m < n then _ else _) = p /\ _
 by_cases hm:m < n
 ·rw [if_pos hm]
  have em:max m 1 = m:=by omega
  show ∃ p,kRun lt (kas_bin (n - max m 1) p1 (max m 1)) = p /\ _
  rw [em]
  obtain ⟨p',e',b1,b2⟩:=y9b o (n - m) p1 m (by omega) a4
  refine ⟨p',e',?_,by rw [show m + (n - m) = n by omega] at b2; exact b2⟩
  exact (Array.perm_iff_toList_perm.mp b1).trans hperm
 ·rw [if_neg hm]
  have:m = n:=by omega
  subst this
  exact ⟨p1,rfl,hperm,a4⟩
end
def AskQ {α:Type} (n:Nat) (R:α -> Prop):KasT α -> Prop
 | .ret a=>R a
 | .ask i j k=>i < n /\ j < n /\ ∀ b,AskQ n R (k b)
theorem AskQ.bind {α β:Type} {n:Nat} {R:α -> Prop} {R':β -> Prop} {f:α -> KasT β} (hf:∀ a,R a -> AskQ n R' (f a)):∀ {t:KasT α},AskQ n R t -> AskQ n R' (t.bind f)
 | .ret a,h=>hf a h
 | .ask _ _ k,h=>⟨h.1,h.2.1,fun b=>AskQ.bind hf (t:=k b) (h.2.2 b)⟩
def z6d (n:Nat) (p:Array Nat):Prop:=∀ x ∈ p.toList,x < n
theorem z6d.at {n:Nat} {p:Array Nat} (h:z6d n p) (hn:1 <= n) (i:Nat):p.getD i 0 < n:=by
 by_cases hi:i < p.size
 ·have:p.getD i 0 = p[i]:=by simp [Array.getD,hi]
  rw [this]
  exact h _ (by simp)
 ·have:p.getD i 0 = 0:=by simp [Array.getD,hi]
  omega
theorem z6d.perm {n:Nat} {p q:Array Nat} (h:z6d n p) (hp:q.Perm p):z6d n q:=fun x hx=>h x ((Array.perm_iff_toList_perm.mp hp).mem_iff.mp hx)
section
variable {n:Nat}
theorem y0g (hn:1 <= n) {p:Array Nat} (hp:z6d n p):∀ (f m:Nat),AskQ n (fun _=>True) (kas_asc p f m)
 | 0,_=>trivial
 | f + 1,m=>⟨hp.at hn _,hp.at hn _,fun b=>by
  cases b
  ·exact y0g hn hp f (m + 1)
  ·exact trivial⟩
theorem zAv (hn:1 <= n):∀ (f:Nat) (p:Array Nat) (m q:Nat),z6d n p -> AskQ n (fun r=>z6d n r.1) (kas_desc f p m q)
 | 0,p,_,_,hp=>hp
 | f + 1,p,m,q,hp=>⟨hp.at hn _,hp.at hn _,fun b=>by
  cases b
  ·refine ⟨hp.at hn _,hp.at hn _,fun b=>?_⟩
   cases b
   ·exact zAv hn f p (m + 1) (q + 1) hp
   ·exact hp
  ·show AskQ n _ (if q > 0 then _ else _)
   by_cases h:q > 0
   ·rw [if_pos h]
    exact zAv hn f _ _ _ (hp.perm (mirror_perm _ _ _ _))
   ·rw [if_neg h]
    exact zAv hn f _ _ _ hp⟩
theorem zHi (hn:1 <= n) {p:Array Nat} (hp:z6d n p) (m nrem:Nat):AskQ n (fun r=>z6d n r.2) (kas_tail3 m nrem p):=by
 have hq:z6d n (kas_rev p 0 m):=hp.perm (mirror_perm _ _ _ _)
 unfold kas_tail3
 refine AskQ.bind (R:=fun _=>True) (R':=fun r:Nat × Array Nat=>z6d n r.2) (fun x _=>?_) (y0g hn hq _ _)
 exact hq
theorem zAe (hn:1 <= n) {p:Array Nat} (hp:z6d n p) (m nrem:Nat):AskQ n (fun r=>z6d n r.2) (kas_descPart m nrem p):=by
 refine AskQ.bind (R:=fun r=>z6d n r.1) (fun r hr=>?_) (zAv hn _ _ _ _ hp)
 show AskQ n _ (if r.2.2 > 0 then _ else _)
 by_cases h:r.2.2 > 0
 ·rw [if_pos h]
  exact zHi hn (hr.perm (mirror_perm _ _ _ _)) _ _
 ·rw [if_neg h]
  exact zHi hn hr _ _
theorem y6g (hn:1 <= n) {p:Array Nat} (hp:z6d n p) (nrem:Nat):AskQ n (fun r=>z6d n r.2) (kas_count nrem p):=by
 refine AskQ.bind (R:=fun _=>True) (fun m _=>?_) (y0g hn hp _ _)
 show AskQ n _ (if (m == nrem) = true then _ else if m > 1 then _ else _)
 by_cases h:(m == nrem) = true
 ·rw [if_pos h]
  exact hp
 ·rw [if_neg h]
  by_cases h1:m > 1
  ·rw [if_pos h1]
   refine ⟨hp.at hn _,hp.at hn _,fun b=>?_⟩
   cases b
   ·exact zAe hn (hp.perm (mirror_perm _ _ _ _)) _ _
   ·exact hp
  ·rw [if_neg h1]
   exact zAe hn hp _ _
theorem zBm (hn:1 <= n) {p:Array Nat} (hp:z6d n p) (k:Nat):∀ (f l r:Nat),AskQ n (fun _=>True) (kas_place p k f l r)
 | 0,_,_=>trivial
 | f + 1,l,r=>by
  unfold kas_place
  by_cases h:l >= r
  ·rw [if_pos h]
   exact trivial
  ·rw [if_neg h]
   refine ⟨hp.at hn _,hp.at hn _,fun b=>?_⟩
   cases b
   ·exact zBm hn hp k f _ _
   ·exact zBm hn hp k f _ _
theorem y6f (hn:1 <= n):∀ (f:Nat) (p:Array Nat) (k:Nat),z6d n p -> AskQ n (fun _=>True) (kas_bin f p k)
 | 0,_,_,_=>trivial
 | f + 1,p,k,hp=>AskQ.bind (R:=fun _=>True) (fun l _=>y6f hn f _ _ (hp.perm (bubble_perm _ _ _))) (zBm hn hp k _ _ _)
theorem yAj (hn:1 <= n):AskQ n (fun _=>True) (kas_sort n):=by
 have hb:z6d n (List.toArray (List.range n)):=fun x hx=>by simpa using hx
 refine AskQ.bind (R:=fun r=>z6d n r.2) (fun r hr=>?_) (y6g hn hb n)
 show AskQ n _ (if r.1 < n then _ else _)
 by_cases h:r.1 < n
 ·rw [if_pos h]
  exact y6f hn _ _ _ hr
 ·rw [if_neg h]
  exact trivial
end
theorem zIg {α:Type} {n:Nat} {lt:Nat -> Nat -> Bool} {cmp:Nat -> Nat -> (Bool -> Shared -> Prop) -> Shared -> Prop} {s:Shared} (hc:∀ i j,i < n -> j < n -> ∀ C:Bool -> Shared -> Prop,C (lt i j) s -> cmp i j C s) {Q:α -> Shared -> Prop} :
  ∀ {t:KasT α},AskQ n (fun _=>True) t -> Q (kRun lt t) s -> t.kasWp cmp Q s
 | .ret a,_,h=>h
 | .ask i j k,ha,h=>hc i j ha.1 ha.2.1 _ (zIg hc (t:=k (lt i j)) (ha.2.2 (lt i j)) h)
end L2
namespace L2
open PySem PySem.W PyProof.Rows
theorem y7q:∀ a:List Int,HT.lexLt a a = false
 | []=>rfl
 | x :: a=>by rw [HT.lexLt_cons,if_pos rfl]; exact y7q a
theorem zBe:∀ a b:List Int,HT.lexLt a b = true -> HT.lexLt b a = false
 | [],[],h=>by cases h
 | [],_ :: _,_=>rfl
 | _ :: _,[],h=>by cases h
 | x :: a,y :: b,h=>by
  rw [HT.lexLt_cons] at h ⊢
  by_cases e:x = y
  ·rw [if_pos e] at h
   rw [if_pos e.symm]
   exact zBe a b h
  ·rw [if_neg e] at h
   rw [if_neg fun z=>e z.symm,decide_eq_false_iff_not]
   have:=of_decide_eq_true h
   omega
theorem y2m:∀ a b c:List Int,HT.lexLt b a = false -> HT.lexLt c b = false -> HT.lexLt c a = false
 | [],[],_,_,h=>h
 | [],_ :: _,[],h,_=>rfl
 | [],_ :: _,_ :: _,_,_=>rfl
 | _ :: _,[],_,h,_=>by cases h
 | _ :: _,_ :: _,[],_,h=>by cases h
 | x :: a,y :: b,z :: c,h1,h2=>by
  rw [HT.lexLt_cons] at h1 h2 ⊢
  by_cases e1:y = x
  ·rw [if_pos e1] at h1
   subst e1
   by_cases e2:z = y
   ·rw [if_pos e2] at h2 ⊢
    exact y2m a b c h1 h2
   ·rw [if_neg e2] at h2 ⊢
    exact h2
  ·rw [if_neg e1,decide_eq_false_iff_not] at h1
   by_cases e2:z = y
   ·subst e2
    rw [if_neg e1,decide_eq_false_iff_not]
    exact h1
   ·rw [if_neg e2,decide_eq_false_iff_not] at h2
    rw [if_neg (by omega),decide_eq_false_iff_not]
    omega
theorem zIk:∀ a b:List Int,HT.lexLt a b = false -> HT.lexLt b a = false -> a = b
 | [],[],_,_=>rfl
 | [],_ :: _,h,_=>by cases h
 | _ :: _,[],_,h=>by cases h
 | x :: a,y :: b,h1,h2=>by
  rw [HT.lexLt_cons] at h1 h2
  by_cases e:x = y
  ·subst e
   rw [if_pos rfl] at h1 h2
   rw [zIk a b h1 h2]
  ·rw [if_neg e,decide_eq_false_iff_not] at h1
   rw [if_neg fun z=>e z.symm,decide_eq_false_iff_not] at h2
   omega
def plt (a b:Pr2):Bool:=if a.1 = b.1 then HT.lexLt a.2 b.2 else HT.lexLt a.1 b.1
theorem yCn (a b:Pr2) (h:plt a b = true):plt b a = false:=by
 unfold plt at *
 by_cases e:a.1 = b.1
 ·rw [if_pos e] at h
  rw [if_pos e.symm]
  exact zBe _ _ h
 ·rw [if_neg e] at h
  rw [if_neg fun z=>e z.symm]
  exact zBe _ _ h
theorem yIc (a b c:Pr2) (h1:plt b a = false) (h2:plt c b = false):plt c a = false:=by
 unfold plt at *
 by_cases e1:b.1 = a.1
 ·rw [if_pos e1] at h1
  by_cases e2:c.1 = b.1
  ·rw [if_pos e2] at h2
   rw [if_pos (e2.trans e1)]
   exact y2m _ _ _ h1 h2
  ·rw [if_neg e2] at h2
   rw [if_neg fun z=>e2 (z.trans e1.symm),<- e1]
   exact h2
 ·rw [if_neg e1] at h1
  by_cases e2:c.1 = b.1
  ·rw [if_neg fun z=>e1 (e2.symm.trans z),e2]
   exact h1
  ·rw [if_neg e2] at h2
   have h3:=y2m _ _ _ h1 h2
   by_cases e3:c.1 = a.1
   ·exfalso
    rw [e3] at h2
    exact e1 (zIk _ _ h1 h2)
   ·rw [if_neg e3]
    exact h3
section
variable {prog:Program} {w:World} {A:Around} {E:Value -> Shared -> Prop} {s:Shared}
theorem y4z {f:Bool} {a b:Int} {t u:Tok} {Q:Bool -> Shared -> Prop} (h:Q (decide (a < b)) s):wpAny (model prog w) A (oneLt' f (.int a t) (.int b u)) Q E s:=by
 cases f with
 | true=>exact oneLt_int h
 | false =>
  rw [oneLt'_eq]
  simp only [Bool.false_eq_true,if_false]
  exact wpAny_bind (HT.rcLt_int A s a t b u prog w E _ (wpAny_truthy_bool h))
theorem yJg {a b:Int} {t u:Tok} {Q:Bool -> Shared -> Prop} (h:Q (decide (a = b)) s):wpAny (model prog w) A (eqBool (.int a t) (.int b u)) Q E s :=
 (intKind prog w).eqBool (a:=a) (b:=b) (intKind_is _ _ _ _) (intKind_is _ _ _ _) h
theorem y4e {f:Bool} {x y:Addr} {a b:List Int} {Q:Bool -> Shared -> Prop} (hx:IsTupleKey (intKind prog w) s.heap a x) (hy:IsTupleKey (intKind prog w) s.heap b y) (h:Q (HT.lexLt a b) s) :
  wpAny (model prog w) A (keyLt' (tuples' f) (.ref x) (.ref y)) Q E s:=by
 obtain ⟨ox,xs,nx,gx,_,dx,ix⟩:=hx
 obtain ⟨oy,ys,ny,gy,_,dy,iy⟩:=hy
 show wpAny _ _ (Builtin.List.listItems (.ref x) >>= _) _ _ s
 unfold Builtin.List.listItems
 refine wpAny_bind (wpAny_bind (wpAny_seqItems gx dx (wpAny_pure ?_)))
 refine wpAny_bind (wpAny_bind (wpAny_seqItems gy dy (wpAny_pure ?_)))
 dsimp only
 refine wpAny_bind ?_
 refine wpAny_forIn_list _
  (fun rest r s'=>r.1 = none /\ s' = s /\ ∃ a' b' xs' ys' i,rest = (List.zip xs' ys').zipIdx i /\ ItemsAre (intKind prog w) a' xs' /\ ItemsAre (intKind prog w) b' ys' /\ HT.lexLt a' b' = HT.lexLt a b /\ decide (xs'.length < ys'.length) = decide (xs.size < ys.size))
  _ ?_ ?_ _ _ ⟨rfl,rfl,a,b,xs.toList,ys.toList,0,rfl,ix,iy,rfl,by simp⟩
 ·rintro ⟨⟨u,v⟩,i⟩ rest r s' ⟨hr,rfl,a',b',xs',ys',i',hz,hx',hy',hdec,hlen⟩
  cases hx' with
  | nil=>simp at hz
  | @cons k1 u' a'' xs'' h1 hx'' =>
   cases hy' with
   | nil=>simp at hz
   | @cons k2 v' b'' ys'' h2 hy'' =>
    simp only [List.zip_cons_cons,List.zipIdx_cons,List.cons.injEq,Prod.mk.injEq] at hz
    obtain ⟨⟨⟨rfl,rfl⟩,rfl⟩,rfl⟩:=hz
    obtain ⟨t1,rfl⟩:=Value.isInt_shape h1
    obtain ⟨t2,rfl⟩:=Value.isInt_shape h2
    refine wpAny_bind (yJg ?_)
    rw [HT.lexLt_cons] at hdec
    by_cases hk:k1 = k2
    ·rw [decide_eq_true hk]
     rw [if_pos hk] at hdec
     simp only [Bool.not_true,Bool.false_eq_true,if_false]
     exact wpAny_pure ⟨rfl,rfl,a'',b'',xs'',ys'',_,rfl,hx'',hy'',hdec,by simpa using hlen⟩
    ·rw [decide_eq_false hk]
     rw [if_neg hk] at hdec
     simp only [Bool.not_false,if_true]
     refine wpAny_bind (y4z ?_)
     rw [<- hdec] at h
     exact wpAny_pure (wpAny_pure h)
 ·rintro ⟨r1,r2⟩ s' ⟨hr,rfl,a',b',xs',ys',i',hz,hx',hy',hdec,hlen⟩
  simp only at hr
  subst hr
  refine wpAny_pure ?_
  have hfin:decide (xs.size < ys.size) = HT.lexLt a b:=by
   rw [<- hdec,<- hlen]
   cases hx' with
   | nil =>
    cases hy' with
    | nil=>rfl
    | cons _ _=>rfl
   | cons _ _ =>
    cases hy' with
    | nil=>rfl
    | cons _ _=>simp at hz
  rw [<- hfin] at h
  exact h
theorem yCw {a:Addr} {vs:List Value} {n:Nat} {κ:SortKind} {P:PySem.Fin -> Shared -> Prop} (ho:s.heap.get? a = some (seqObj "list" vs.toArray n)) (h64:vs.length < 64) {lt:Nat -> Nat -> Bool} (o:Ord lt)
  (hkind:2 <= vs.length -> ∀ h':Heap,(∀ b o,b ≠ a -> s.heap.get? b = some o -> h'.get? b = some o) -> ∀ Q':SortKind -> Shared -> Prop,Q' κ { s with heap:=h' } -> wpAny (model prog w) A (keyKind' vs.toArray) Q' E { s with heap:=h' })
  (hcmp:∀ h':Heap,(∀ b o,b ≠ a -> s.heap.get? b = some o -> h'.get? b = some o) -> ∀ i j,i < vs.length -> j < vs.length -> ∀ C:Bool -> Shared -> Prop,C (lt i j) { s with heap:=h' } -> kas_ask prog w A κ vs.reverse i j C { s with heap:=h' })
  (h:∀ p:List Nat,p.Perm (List.range vs.length) -> (∀ i j,i <= j -> j < vs.length -> lt (p.getD j 0) (p.getD i 0) = false) -> P (.done (.ret .none)) { s with heap:=sortedHeap s.heap a vs ((p.map fun i=>vs.reverse.getD i Value.none).reverse).toArray }) :
  wpAny (model prog w) A (Builtin.«list.sort» ⟨[.ref a],[(Str.ofString "reverse",.bool true)]⟩) P E s:=by
 rw [list_sort_rev]
 have ha:a < s.heap.objs.size:=Heap.lt_size ho
 refine wpAny_bind (listItems_at ho rfl ?_)
 refine wpAny_bind (listUpdate_at ho rfl ?_)
 obtain ⟨e1,ho1⟩:∃ e1,(s.heap.update a (Obj.mapSeq fun _=>#[])).get? a = some (seqObj "list" #[] e1):=⟨_,get?_update_seq ho (fun _=>#[])⟩
 refine wpAny_bind (seqEpoch_at ho1 rfl ?_)
 refine wpAny_bind (wpAny_newTuple ?_)
 refine wpAny_bind (wpAny_newList ?_)
 refine wpAny_holding ?_
 have ho6:(((s.heap.update a (Obj.mapSeq fun _=>#[])).push (seqObj "tuple" vs.toArray 0)).push (seqObj "list" #[] 0)).get? a = some (seqObj "list" #[] e1):=Heap.get?_push_of_some _ (Heap.get?_push_of_some _ ho1)
 have keep:∀ b o,b ≠ a -> s.heap.get? b = some o -> (((s.heap.update a (Obj.mapSeq fun _=>#[])).push (seqObj "tuple" vs.toArray 0)).push (seqObj "list" #[] 0)).get? b = some o:=fun b o hb e =>
  Heap.get?_push_of_some _ (Heap.get?_push_of_some _ ((Heap.get?_update_other _ _ (Ne.symm hb)).trans e))
 have hsz:vs.toArray.size = vs.length:=by simp
 show wpAny (model prog w) A _ P E { s with heap:=((s.heap.update a (Obj.mapSeq fun _=>#[])).push (seqObj "tuple" vs.toArray 0)).push (seqObj "list" #[] 0) }
 dsimp only
 refine wpAny_bind (wpAny_rule ?_)
 have hrev:(vs.toArray.zip vs.toArray).reverse = pairsOf vs.reverse:=by
  apply Array.toList_inj.mp
  rw [Array.toList_reverse]
  unfold pairsOf
  simp [List.zip_eq_zipWith,List.reverse_zipWith]
 have fin:∀ (p:Array Nat) (st':SortSt),p.toList.Perm (List.range vs.length) -> (∀ i j,i <= j -> j < vs.length -> lt (p.toList.getD j 0) (p.toList.getD i 0) = false) -> arrOf st' = p.map (kas_item (pairsOf vs.reverse)) -> failedOf st' = none ->
   wpAny (model prog w) A (do
    let touched:=(<- seqEpoch a) != e1
    Builtin.List.listUpdate (.ref a) fun _=>((arrOf st').map (·.2)).reverse
    if let some e:=failedOf st' then rule "list.sort.comparison-raised"; throw e
    if touched then rule "list.sort.modified"; raiseError "ValueError" "list modified during sort"
    ret .none) P E { s with heap:=((s.heap.update a (Obj.mapSeq fun _=>#[])).push (seqObj "tuple" vs.toArray 0)).push (seqObj "list" #[] 0) }:=fun p st' hp hs har hf=>by
  have hout:((arrOf st').map (·.2)).reverse = ((p.toList.map fun i=>vs.reverse.getD i Value.none).reverse).toArray:=by
   apply Array.toList_inj.mp
   rw [har,Array.toList_reverse,Array.map_map,Array.toList_map]
   show _ = (p.toList.map fun i=>vs.reverse.getD i Value.none).reverse
   congr 1
   exact List.map_congr_left fun i _=>by show (kas_item (pairsOf vs.reverse) i).2 = _; rw [kas_item_eq]
  have hlen:((p.toList.map fun i=>vs.reverse.getD i Value.none).reverse).toArray.size = vs.length:=by
   rw [List.size_toArray,List.length_reverse,List.length_map,hp.length_eq,List.length_range]
  rw [hout]
  refine wpAny_bind (seqEpoch_at ho6 rfl ?_)
  refine wpAny_bind (listUpdate_at ho6 rfl ?_ (hsz2:=by
   refine Nat.le_trans (Nat.le_of_eq hlen) ?_
   rw [sizeLine_eq]
   omega))
  rw [hf]
  simp only [bne_self_eq_false,Bool.false_eq_true,if_false]
  exact wpAny_pure (h p.toList hp hs)
 have hlr:(pairsOf vs.reverse).size = vs.length:=by rw [pairsOf_size,List.length_reverse]
 have hrng:(List.toArray (List.range vs.length)).map (kas_item (pairsOf vs.reverse)) = pairsOf vs.reverse:=by
  have e:=kas_range (pairsOf vs.reverse)
  rw [hlr] at e
  exact e
 by_cases h2:vs.toArray.size < 2
 ·rw [if_pos h2,if_pos h2]
  refine wpAny_bind (wpAny_pure ?_)
  rw [StateT.run_pure]
  refine wpAny_bind (wpAny_pure ?_)
  refine fin (List.toArray (List.range vs.length)) (SortSt.mk' general' (vs.toArray.zip vs.toArray).reverse #[] 7 none) (by simp) (fun i j hij hj=>?_) ?_ rfl
  ·have:i = j:=by omega
   subst this
   exact o.irr _
  ·rw [hrng,<- hrev]
 ·rw [if_neg h2,if_neg h2]
  refine wpAny_bind (hkind (by omega) _ keep _ ?_)
  have est:SortSt.mk' κ (vs.toArray.zip vs.toArray).reverse #[] 7 none = kas_st κ (pairsOf vs.reverse) (List.toArray (List.range vs.length)):=by
   show _ = SortSt.mk' κ ((List.toArray (List.range vs.length)).map (kas_item (pairsOf vs.reverse))) #[] 7 none
   rw [hrng,<- hrev]
  obtain ⟨p,ep,hp,hup⟩:=yCs o (n:=vs.length) (by omega)
  have hps:p.size = vs.length:=by
   have:=hp.length_eq
   simpa using this
  have run:=kas_runs (prog:=prog) (w:=w) (A:=A) (E:=E) (κ:=κ) (it:=pairsOf vs.reverse) (n:=vs.length) (Q:=fun _ st' s'=>s' = { s with heap:=((s.heap.update a (Obj.mapSeq fun _=>#[])).push (seqObj "tuple" vs.toArray 0)).push (seqObj "list" #[] 0) } /\ arrOf st' = p.map (kas_item (pairsOf vs.reverse)) /\ failedOf st' = none)
   (G:=fun p' s'=>p' = p /\ s' = { s with heap:=((s.heap.update a (Obj.mapSeq fun _=>#[])).push (seqObj "tuple" vs.toArray 0)).push (seqObj "list" #[] 0) })
   (s:={ s with heap:=((s.heap.update a (Obj.mapSeq fun _=>#[])).push (seqObj "tuple" vs.toArray 0)).push (seqObj "list" #[] 0) }) (by omega) h64 (fun p' st' s' a1 a2 a3 a4=>⟨a4.2,by rw [a2,a4.1],a3⟩)
   (zIg (lt:=lt) (fun i j hi hj C hC=>by
    have:=hcmp _ keep i j hi hj C hC
    rw [kas_ask_eq] at this
    exact this) (yAj (by omega)) ⟨ep,rfl⟩)
  rw [<- est] at run
  refine wpAny_bind (wpAny_mono run ?_ fun _ _ e=>e)
  rintro ⟨⟨⟩,st'⟩ s' ⟨rfl,har,hf⟩
  refine fin p st' hp (fun i j hij hj=>?_) har hf
  have e:∀ k,p.toList.getD k 0 = at0 p k:=fun k=>by
   unfold at0
   rw [Array.getD_eq_getD_getElem?,List.getD_eq_getElem?_getD,Array.getElem?_toList]
  rw [e,e]
  exact hup i j hij hj
end
end L2
namespace L2
open PySem PySem.W PySem.Spec PyProof.Rows
structure SortOn (X:Cx) {α:Type} (R:α -> V -> Hp -> Prop) (blt:α -> α -> Bool) (κ:SortKind) (good:List α -> Prop):Prop where
 asym:∀ a b,blt a b = true -> blt b a = false
 tr:∀ a b c,blt b a = false -> blt c b = false -> blt c a = false
 cmp:∀ (pins:List (Addr × Obj)) (σ:L2.St) (H:Hp) (s:Shared) (A:Around) (a b:α) (v u:V) (x y:Value) (C:Bool -> Shared -> Prop),Inv X pins σ H s -> A.units + 2 < cLine -> R a v H -> R b u H -> RelV v x -> RelV u y -> C (blt a b) s ->
  wpAny (model X.prog X.w) A (keyLt' κ x y) C (fun _ _=>False) s
 kind:∀ (pins:List (Addr × Obj)) (σ:L2.St) (H:Hp) (s:Shared) (A:Around) (E:Value -> Shared -> Prop) (hs:List α) (xs:List V) (vs:List Value) (Q:SortKind -> Shared -> Prop),Inv X pins σ H s -> All2 R H hs xs -> Vals xs vs -> 2 <= vs.length -> good hs -> Q κ s ->
  wpAny (model X.prog X.w) A (keyKind' vs.toArray) Q E s
 mv:∀ (a:α) (v:V) (H H':Hp),Tups H H' -> R a v H -> R a v H'
theorem zFi {α:Type} {R:α -> V -> Hp -> Prop} {H:Hp}:∀ {hs:List α} {xs:List V},All2 R H hs xs -> ∀ (d:α) (i:Nat),i < hs.length -> ∃ x,xs[i]? = some x /\ R (hs.getD i d) x H
 | h :: hs,x :: xs,.cons r t,d,0,_=>⟨x,rfl,r⟩
 | h :: hs,x :: xs,.cons r t,d,i + 1,hi=>by
  obtain ⟨y,e,r'⟩:=zFi t d i (by simpa using hi)
  exact ⟨y,by simpa using e,by simpa using r'⟩
theorem zAu {α:Type} {R:α -> V -> Hp -> Prop} {H:Hp}:∀ {hs:List α} {xs:List V},All2 R H hs xs -> All2 R H hs.reverse xs.reverse
 | [],_,.nil=>.nil
 | h :: hs,x :: xs,.cons r t=>by
  rw [List.reverse_cons,List.reverse_cons]
  exact (zAu t).snoc r
theorem zHh {α:Type} {R:α -> V -> Hp -> Prop} {H:Hp} {hs:List α} {xs:List V} (h:All2 R H hs xs) (d:α):∀ p:List Nat,(∀ i ∈ p,i < hs.length) -> All2 R H (p.map fun i=>hs.getD i d) (p.map fun i=>xs.getD i .non)
 | [],_=>.nil
 | i :: p,hp=>by
  obtain ⟨x,e,r⟩:=zFi h d i (hp i (by simp))
  refine .cons ?_ (zHh h d p fun j hj=>hp j (by simp [hj]))
  show R (hs.getD i d) (xs.getD i .non) H
  rw [List.getD_eq_getElem?_getD (l:=xs),e]
  exact r
theorem zBj:∀ {xs:List V} {vs:List Value},Vals xs vs -> Vals xs.reverse vs.reverse
 | _,_,.nil=>.nil
 | _,_,.cons r t=>by
  rw [List.reverse_cons,List.reverse_cons]
  exact Paired.snoc (zBj t) r
theorem zHc:∀ {xs:List V} {vs:List Value},Vals xs vs -> ∀ i,i < xs.length -> RelV (xs.getD i .non) (vs.getD i Value.none)
 | _,_,.cons r _,0,_=>by simpa using r
 | _,_,.cons _ t,i + 1,h=>by simpa using zHc t i (by simpa using h)
theorem y0d {xs:List V} {vs:List Value} (h:Vals xs vs):∀ p:List Nat,(∀ i ∈ p,i < xs.length) -> Vals (p.map fun i=>xs.getD i .non) (p.map fun i=>vs.getD i Value.none)
 | [],_=>.nil
 | i :: p,hp=>.cons (zHc h i (hp i (by simp))) (y0d h p fun j hj=>hp j (by simp [hj]))
section
variable {X:Cx} {α:Type} {R:α -> V -> Hp -> Prop} {blt:α -> α -> Bool} {κ:SortKind} {good:List α -> Prop}
def yDy (K:PySem.W.Frag) (R:α -> V -> Hp -> Prop) (blt:α -> α -> Bool) (good:List α -> Prop):V -> Hp -> VK -> Prop:=fun x H Q=>∃ a xs hs,x = .ref a /\ SqL K H a xs /\ All2 R H hs xs /\ hs.length < 64 /\ good hs /\
 ∀ gs ys p,gs.Perm hs -> gs.Pairwise (fun a b=>blt a b = false) -> All2 R H gs ys -> H p = none -> Q (.ref p) (upd H p (.lst ys))
def yIu (K:PySem.W.Frag) (R:α -> V -> Hp -> Prop) (blt:α -> α -> Bool) (good:List α -> Prop) (te:TE):TE:=fun σ H Q=>te σ H fun x H1=>yDy K R blt good x H1 Q
theorem y3b (so:SortOn X R blt κ good) (d:α) (hu:X.A.units + 10 < cLine) {e:Expr} {te:TE} {p kp cp pos:Pos} {j:Nat} (hg:Gl X "sorted") (hm:X.mg "sorted" = none) (he:PE X e te)
  (hse:starEach [e] X.env = [(false,eval e X.env)]:=by rfl):PE X (.Call (.Name "sorted" p) [e] [⟨some "reverse",.Constant (.bool true) j cp,kp⟩] pos) (yIu X.K R blt good te):=by
 intro pins s σ H Q I h
 refine wpAny_Call_Name_kw (z6n I hg hm boot_sorted ?_ (by decide) (by decide))
 refine callWith_kw (thn (z0a he z0d hse pos pins s σ H (fun vs H1=>match vs with | [x]=>yDy X.K R blt good x H1 Q | _=>False) I h) fun us s1 ⟨vs,H1,I1,r1,q1⟩=>?_) (by rw [hse]; rfl) (by rw [hse]; rfl)
 match vs,r1,q1 with
 | [x],r1,q =>
  obtain ⟨u,rfl,ru⟩:=zDm r1
  refine kws_cons (Constant_bool (kws_nil ?_))
  obtain ⟨a,xs,hs,rfl,hq,h2,hl,hgd,q⟩:=q
  cases ru
  show wpAny _ _ (call (.builtin "sorted") [.ref a] [(Str.ofString "reverse",.bool true)]) _ _ _
  obtain ⟨its,r',pl,hz⟩:=I1.list hq
  obtain ⟨o,ho,hc,n,hd⟩:=pl.isList
  have hxl:=h2.length
  have hil:=r'.length
  refine call_function_entry_kw kind_sorted plain_sorted entry_sorted (args_sorted_rev _ _) ?_
  unfold Builtin.«sorted»
  refine wpAny_bind (m:=checkCount "sorted" 1 1 _) (wpAny_pure ?_)
  refine wpAny_bind (wpAny_collect_seq a (.inl rfl) ho hc hd (fun h1 hk1=>?_) (by rw [List.size_toArray,sizeLine_eq]; omega))
  refine wpAny_bind (wpAny_newList ?_ (by show its.length <= _; rw [sizeLine_eq]; omega))
  have hoL:(h1.push (seqObj "list" its.toArray 0)).get? h1.objs.size = some (seqObj "list" its.toArray 0):=Heap.get?_push_size _ rfl
  have I2:Inv X pins σ H1 { s1 with heap:=h1,toks:=s1.toks }:=I1.kept (t':=s1.toks) hk1
  have I3:∀ h':Heap,(∀ b o,b ≠ h1.objs.size -> (h1.push (seqObj "list" its.toArray 0)).get? b = some o -> h'.get? b = some o) -> Inv X pins σ H1 { s1 with heap:=h',toks:=s1.toks }:=fun h' hk'=>I2.kept (t':=s1.toks) fun b o e=>hk' b o (Nat.ne_of_lt (Heap.lt_size e)) (Heap.get?_push_of_some _ e)
  refine wpAny_bind (wpAny_holding (wpAny_call_entry_kw slot_list_sort ⟨_,hoL,rfl⟩ entry_list_sort (yCw (κ:=κ) (lt:=fun i j=>blt (hs.reverse.getD i d) (hs.reverse.getD j d)) hoL (by omega) ⟨fun a b=>so.asym _ _,fun a b c=>so.tr _ _ _⟩ (fun h2' h' hk' Q' hQ'=>?_) (fun h' hk' i j hi hj C hC=>?_) fun pp hpp hord=>⟨_,rfl,?_⟩) (args_list_sort_rev _ _)))
  ·exact so.kind pins σ H1 _ _ _ hs xs its Q' (I3 h' hk') h2 r' h2' hgd hQ'
  ·have hr:=zAu h2
   have vr:=zBj r'
   obtain ⟨v1,e1,R1⟩:=zFi hr d i (by rw [List.length_reverse]; omega)
   obtain ⟨v2,e2,R2⟩:=zFi hr d j (by rw [List.length_reverse]; omega)
   have V1:=zHc vr i (by rw [List.length_reverse]; omega)
   have V2:=zHc vr j (by rw [List.length_reverse]; omega)
   rw [List.getD_eq_getElem?_getD (l:=xs.reverse),e1] at V1
   rw [List.getD_eq_getElem?_getD (l:=xs.reverse),e2] at V2
   exact so.cmp pins σ H1 _ _ _ _ v1 v2 _ _ C (I3 h' hk') (by simp; omega) R1 R2 V1 V2 hC
  ·obtain ⟨ee,hee⟩:=sortedHeap_at (vs:=its) (out:=((pp.map fun i=>its.reverse.getD i Value.none).reverse).toArray) hoL
   have hpb:∀ i ∈ pp,i < hs.reverse.length:=fun i hi=>by
    have:=List.mem_range.mp (hpp.mem_iff.mp hi)
    rw [List.length_reverse]
    omega
   have A2:=zAu (zHh (zAu h2) d pp hpb)
   have V2:=zBj (y0d (zBj r') pp fun i hi=>by have:=hpb i hi; rw [List.length_reverse] at this ⊢; omega)
   have gp:((pp.map fun i=>hs.reverse.getD i d).reverse).Perm hs:=by
    refine (List.reverse_perm _).trans ((hpp.map _).trans (List.Perm.trans (List.Perm.of_eq ?_) (List.reverse_perm hs)))
    apply List.ext_getElem?
    intro i
    rw [List.getElem?_map]
    by_cases hi:i < its.length
    ·rw [List.getElem?_range hi]
     have:i < hs.reverse.length:=by rw [List.length_reverse]; omega
     simp only [Option.map_some]
     rw [List.getD_eq_getElem?_getD,List.getElem?_eq_getElem this]
     rfl
    ·rw [List.getElem?_eq_none (by simpa using hi),List.getElem?_eq_none (by rw [List.length_reverse]; omega)]
     rfl
   have gw:((pp.map fun i=>hs.reverse.getD i d).reverse).Pairwise (fun a b=>blt a b = false):=by
    rw [List.pairwise_reverse,List.pairwise_map]
    have hpl:pp.length = its.length:=by rw [hpp.length_eq,List.length_range]
    refine List.pairwise_iff_getElem.mpr fun i j hi hj hij=>?_
    have:=hord i j (by omega) (by omega)
    have e1:pp.getD i 0 = pp[i]:=by simp [hi]
    have e2:pp.getD j 0 = pp[j]:=by simp [hj]
    rw [e1,e2] at this
    exact this
   have hz':((pp.map fun i=>xs.reverse.getD i V.non).reverse).length <= sizeLine:=by
    rw [List.length_reverse,List.length_map,hpp.length_eq,List.length_range,sizeLine_eq]
    omega
   refine wpAny_pure ⟨_,rfl,.ref _,_,I2.laid (t':=s1.toks) (a:=h1.objs.size) (fun b o' hb=>?_) (Nat.le_refl _) (show z2n X.prog X.w _ _ _ (.lst ((pp.map fun i=>xs.reverse.getD i V.non).reverse)) from ⟨hz',(pp.map fun i=>its.reverse.getD i Value.none).reverse,ee,V2,by simpa [seqObj] using hee⟩),rfl,q _ _ _ gp gw A2 (I2.hok.fresh (Nat.le_refl _))⟩
   have hlt:=Heap.lt_size hb
   rw [sortedHeap_old (Nat.ne_of_lt hlt) (by rw [Heap.size_push]; exact Nat.lt_succ_of_lt hlt)]
   exact Heap.get?_push_of_some _ hb
end
section
variable {M:Model} {A:Around} {E:Value -> Shared -> Prop} {s:Shared}
theorem y0z {α β:Type} {f:α -> Sem β} {g:α -> β}:∀ (l:List α) {Q:List β -> Shared -> Prop},(∀ v ∈ l,∀ (Q':β -> Shared -> Prop),Q' (g v) s -> wpAny M A (f v) Q' E s) -> Q (l.map g) s -> wpAny M A (l.mapM f) Q E s
 | [],_,_,h=>by rw [List.mapM_nil]; exact wpAny_pure h
 | x :: l,Q,hf,h=>by
  rw [List.mapM_cons]
  exact wpAny_bind (hf x (.head _) _ (wpAny_bind (y0z l (Q:=fun bs s'=>wpAny M A (pure (g x :: bs)) Q E s') (fun v hv=>hf v (.tail _ hv)) (wpAny_pure h))))
theorem zCd {vs:List Value} {g:Value -> Value} {T:Value} {Q:SortKind -> Shared -> Prop} (h2:2 <= vs.length) (hT:∀ v ∈ vs,∃ x xs n o,v = .ref x /\ s.heap.get? x = some o /\ o.cls = .type "tuple" /\ o.data = .seq xs n /\ xs[0]? = some (g v))
  (hG:∀ v ∈ vs,∀ (Q':Value -> Shared -> Prop),Q' T s -> wpAny M A (typeOf (g v)) Q' E s) (hTT:(T == T) = true) (h:Q (tuples' (T != .type "tuple")) s):wpAny M A (keyKind' vs.toArray) Q E s:=by
 rw [keyKind'_eq,List.mapM_toArray,map_eq_pure_bind]
 refine wpAny_bind (wpAny_bind (y0z (g:=fun v=>some (g v)) vs (fun v hv Q' hq=>?_) (wpAny_pure ?_)))
 ·rw [kas_first_eq]
  obtain ⟨x,xs,n,o,rfl,ho,hc,hd,h0⟩:=hT v hv
  refine wpAny_bind (wpAny_typeOf (T := "tuple") ⟨o,ho,hc⟩ ?_)
  rw [if_neg (by decide)]
  unfold Builtin.List.listItems
  refine wpAny_bind (wpAny_bind (wpAny_seqItems ho hd (wpAny_pure ?_)))
  rw [h0]
  exact wpAny_pure hq
 ·have hall:((vs.map fun v=>some (g v)).toArray.all (·.isSome)) = true:=by
   rw [List.all_toArray,List.all_eq_true]
   intro x hx
   obtain ⟨v,_,rfl⟩:=List.mem_map.mp hx
   rfl
  rw [if_pos hall]
  refine wpAny_bind (wpAny_rule ?_)
  have hfm:((vs.map fun v=>some (g v)).toArray.filterMap id) = (vs.map g).toArray:=by
   apply Array.toList_inj.mp
   rw [Array.toList_filterMap]
   show (vs.map fun v=>some (g v)).filterMap id = vs.map g
   rw [List.filterMap_map]
   exact (List.filterMap_eq_map (f:=g)) ▸ rfl
  rw [hfm,oneTypeOnly'_eq,List.mapM_toArray,map_eq_pure_bind]
  refine wpAny_bind (wpAny_bind (wpAny_bind (y0z (g:=fun _=>T) (vs.map g) (fun u hu Q' hq=>?_) (wpAny_pure ?_))))
  ·obtain ⟨v,hv,rfl⟩:=List.mem_map.mp hu
   exact hG v hv Q' hq
  ·have h0:((vs.map g).map fun _=>T).toArray[0]? = some T:=by
    cases vs with
    | nil=>simp at h2
    | cons v r=>simp
   have hall2:(((vs.map g).map fun _=>T).toArray.all (· == T)) = true:=by
    rw [List.all_toArray,List.all_eq_true]
    intro x hx
    obtain ⟨v,_,rfl⟩:=List.mem_map.mp hx
    exact hTT
   rw [h0]
   simp only [hall2,if_true]
   exact wpAny_pure (wpAny_pure h)
end
end L2
namespace L2
open PySem PySem.W PySem.Spec PyProof.Rows
section
variable {prog:Program} {w:World} {A:Around} {E:Value -> Shared -> Prop} {s:Shared}
theorem y7n {a:List Int} {x:Addr} {h:Heap} (hx:IsTupleKey (intKind prog w) h a x):∃ items:Array Value,IsTup h x items /\ IntsAre items.toList a:=by
 obtain ⟨o,items,n,ho,hc,hd,hi⟩:=hx
 refine ⟨items,⟨o,ho,hc,n,hd⟩,?_⟩
 have:∀ {ks:List Int} {vs:List Value},ItemsAre (intKind prog w) ks vs -> IntsAre vs ks:=by
  intro ks vs h
  induction h with
  | nil=>exact .nil
  | cons h1 _ ih =>
   obtain ⟨t,rfl⟩:=Value.isInt_shape h1
   exact .cons _ _ ih
 exact this hi
theorem zEw {x y:Addr} {a b:List Int} {Q:Bool -> Shared -> Prop} (hu:A.units < cLine) (hx:IsTupleKey (intKind prog w) s.heap a x) (hy:IsTupleKey (intKind prog w) s.heap b y) (h:Q (HT.lexLt a b) s) :
  wpAny (model prog w) A (oneLt' false (.ref x) (.ref y)) Q E s:=by
 obtain ⟨is,t1,i1⟩:=y7n hx
 obtain ⟨js,t2,i2⟩:=y7n hy
 rw [oneLt'_eq]
 simp only [Bool.false_eq_true,if_false]
 refine wpAny_bind ?_
 have:=HT.lt_tupInts (prog:=prog) (w:=w) (A:=A) (E:=E) (s:=s) (Q:=fun r s'=>wpAny (model prog w) A (truthOfDropped r) Q E s') t1 t2 i1 i2 hu (wpAny_truthy_bool h)
 exact this
theorem y4f {x y:Addr} {a b:Pr2} {Q:Bool -> Shared -> Prop} (hu:A.units < cLine) (hx:z1x prog w s.heap a x) (hy:z1x prog w s.heap b y) (h:Q (plt a b) s) :
  wpAny (model prog w) A (keyLt' (tuples' false) (.ref x) (.ref y)) Q E s:=by
 obtain ⟨ox,nx,q1,q2,gx,_,dx,x1,x2⟩:=hx
 obtain ⟨oy,ny,p1,p2,gy,_,dy,y1,y2⟩:=hy
 show wpAny _ _ (Builtin.List.listItems (.ref x) >>= _) _ _ s
 unfold Builtin.List.listItems
 refine wpAny_bind (wpAny_bind (wpAny_seqItems gx dx (wpAny_pure ?_)))
 refine wpAny_bind (wpAny_bind (wpAny_seqItems gy dy (wpAny_pure ?_)))
 dsimp only
 refine wpAny_bind ?_
 unfold plt at h
 refine wpAny_forIn_list _
  (fun rest r s'=>r.1 = none /\ s' = s /\ (rest = [((.ref q1,.ref p1),0),((.ref q2,.ref p2),1)] \/ (rest = [((.ref q2,.ref p2),1)] /\ a.1 = b.1) \/ (rest = [] /\ a = b)))
  _ ?_ ?_ _ _ ⟨rfl,rfl,.inl rfl⟩
 ·rintro ⟨⟨u,v⟩,i⟩ rest r s' ⟨hr,rfl,e | ⟨e,e1⟩ | ⟨e,_⟩⟩
  ·cases e
   refine wpAny_bind (wpAny_eqBool_tuple hu x1 y1 ?_)
   by_cases hk:a.1 = b.1
   ·rw [decide_eq_true hk]
    simp only [Bool.not_true,Bool.false_eq_true,if_false]
    exact wpAny_pure ⟨rfl,rfl,.inr (.inl ⟨by trivial,hk⟩)⟩
   ·rw [decide_eq_false hk]
    simp only [Bool.not_false,if_true]
    rw [if_neg hk] at h
    exact wpAny_bind (zEw hu x1 y1 (wpAny_pure (wpAny_pure h)))
  ·cases e
   rw [if_pos e1] at h
   refine wpAny_bind (wpAny_eqBool_tuple hu x2 y2 ?_)
   by_cases hk:a.2 = b.2
   ·rw [decide_eq_true hk]
    simp only [Bool.not_true,Bool.false_eq_true,if_false]
    exact wpAny_pure ⟨rfl,rfl,.inr (.inr ⟨by trivial,Prod.ext e1 hk⟩)⟩
   ·rw [decide_eq_false hk]
    simp only [Bool.not_false,if_true]
    exact wpAny_bind (zEw hu x2 y2 (wpAny_pure (wpAny_pure h)))
  ·cases e
 ·rintro ⟨r1,r2⟩ s' ⟨hr,rfl,e | ⟨e,_⟩ | ⟨_,e⟩⟩
  ·cases e
  ·cases e
  ·simp only at hr
   subst hr
   subst e
   refine wpAny_pure ?_
   rw [if_pos rfl,y7q] at h
   exact h
end
theorem yIn {X:Cx}:SortOn X Tup1 HT.lexLt (tuples' true) (fun hs=>2 <= hs.length -> ∀ h ∈ hs,h ≠ []) where
 asym:=zBe
 tr:=y2m
 cmp:=fun pins σ H s A a b v u x y C I hu r1 r2 q1 q2 hC=>by
  obtain ⟨p,rfl,g1⟩:=r1
  obtain ⟨q,rfl,g2⟩:=r2
  cases q1
  cases q2
  exact y4e (z8v I.hok g1) (z8v I.hok g2) hC
 kind:=fun pins σ H s A E hs xs vs Q I h2 r hl hgd hQ=>by
  have hxl:=h2.length
  have hvl:=r.length
  have key:∀ {hs:List (List Int)} {xs:List V} {vs:List Value},All2 Tup1 H hs xs -> Vals xs vs -> (∀ h ∈ hs,h ≠ []) -> ∀ v ∈ vs,∃ x xs n o k t,v = .ref x /\ s.heap.get? x = some o /\ o.cls = .type "tuple" /\ o.data = .seq xs n /\ xs[0]? = some (.int k t):=by
   intro hs xs vs h2
   induction h2 generalizing vs with
   | nil=>intro r _ v hv; cases r; cases hv
   | @cons a y as ys ra rt ih =>
    intro r hne v hv
    cases r with
    | cons rv rr =>
     rcases List.mem_cons.mp hv with rfl | hv
     ·obtain ⟨p,rfl,g⟩:=ra
      cases rv
      obtain ⟨o,items,n,ho,hc,hd,hi⟩:=z8v (P:=X.prog) (w:=X.w) I.hok g
      cases a with
      | nil=>exact absurd rfl (hne [] (by simp))
      | cons k ks =>
       cases hit:items.toList with
       | nil=>rw [hit] at hi; cases hi
       | cons w0 ws =>
        rw [hit] at hi
        cases hi with
        | cons h1 _ =>
         obtain ⟨t,rfl⟩:=Value.isInt_shape h1
         exact ⟨p,items,n,o,k,t,rfl,ho,hc,hd,by rw [<- Array.getElem?_toList,hit]; rfl⟩
     ·exact ih rr (fun h hh=>hne h (by simp [hh])) v hv
  have kk:=key h2 r (hgd (by omega))
  have:∀ v ∈ vs,∃ u,∃ x xs n o,v = .ref x /\ s.heap.get? x = some o /\ o.cls = .type "tuple" /\ o.data = .seq xs n /\ xs[0]? = some u /\ ∃ k t,u = .int k t:=fun v hv=>by
   obtain ⟨x,xs,n,o,k,t,e1,e2,e3,e4,e5⟩:=kk v hv
   exact ⟨_,x,xs,n,o,e1,e2,e3,e4,e5,k,t,rfl⟩
  let g:Value -> Value:=fun v=>open Classical in if h:v ∈ vs then (this v h).choose else .none
  have hg:∀ v ∈ vs,∃ x xs n o,v = .ref x /\ s.heap.get? x = some o /\ o.cls = .type "tuple" /\ o.data = .seq xs n /\ xs[0]? = some (g v) /\ ∃ k t,g v = .int k t:=fun v hv=>by
   have e:g v = (this v hv).choose:=dif_pos hv
   rw [e]
   exact (this v hv).choose_spec
  refine zCd (g:=g) (T:=.type "int") hl (fun v hv=>?_) (fun v hv Q' hq=>?_) (by decide) (by rw [show (Value.type "int" != Value.type "tuple") = true by decide]; exact hQ)
  ·obtain ⟨x,xs,n,o,e1,e2,e3,e4,e5,_⟩:=hg v hv
   exact ⟨x,xs,n,o,e1,e2,e3,e4,e5⟩
  ·obtain ⟨_,_,_,_,_,_,_,_,_,k,t,e⟩:=hg v hv
   rw [e]
   exact wpAny_typeOf (T := "int") (typeIs_int _ _ _) hq
 mv:=fun a v H H' t h=>h.mv t
theorem yGa {X:Cx}:SortOn X z5v plt (tuples' false) (fun _=>True) where
 asym:=yCn
 tr:=yIc
 cmp:=fun pins σ H s A a b v u x y C I hu r1 r2 q1 q2 hC=>by
  obtain ⟨p,_,_,rfl,_⟩:=id r1
  obtain ⟨q,_,_,rfl,_⟩:=id r2
  cases q1
  cases q2
  exact y4f (by omega) (zGh (P:=X.prog) (w:=X.w) I.hok r1) (zGh (P:=X.prog) (w:=X.w) I.hok r2) hC
 kind:=fun pins σ H s A E hs xs vs Q I h2 r hl _ hQ=>by
  have key:∀ {hs:List Pr2} {xs:List V} {vs:List Value},All2 z5v H hs xs -> Vals xs vs -> ∀ v ∈ vs,∃ u,∃ x xs n o,v = .ref x /\ s.heap.get? x = some o /\ o.cls = .type "tuple" /\ o.data = .seq xs n /\ xs[0]? = some u /\ ∃ q o',u = .ref q /\ s.heap.get? q = some o' /\ o'.cls = .type "tuple" := by
   intro hs xs vs h2
   induction h2 generalizing vs with
   | nil=>intro r v hv; cases r; cases hv
   | @cons a y as ys ra rt ih =>
    intro r v hv
    cases r with
    | cons rv rr =>
     rcases List.mem_cons.mp hv with rfl | hv
     ·obtain ⟨p,_,_,rfl,_⟩:=id ra
      cases rv
      obtain ⟨o,n,q1,q2,ho,hc,hd,k1,k2⟩:=zGh (P:=X.prog) (w:=X.w) I.hok ra
      obtain ⟨o',_,_,ho',hc',_⟩:=k1
      exact ⟨_,p,_,n,o,rfl,ho,hc,hd,rfl,q1,o',rfl,ho',hc'⟩
     ·exact ih rr v hv
  have this:=key h2 r
  let g:Value -> Value:=fun v=>open Classical in if h:v ∈ vs then (this v h).choose else .none
  have hg:∀ v ∈ vs,∃ x xs n o,v = .ref x /\ s.heap.get? x = some o /\ o.cls = .type "tuple" /\ o.data = .seq xs n /\ xs[0]? = some (g v) /\ ∃ q o',g v = .ref q /\ s.heap.get? q = some o' /\ o'.cls = .type "tuple" := fun v hv=>by
   have e:g v = (this v hv).choose:=dif_pos hv
   rw [e]
   exact (this v hv).choose_spec
  refine zCd (g:=g) (T:=.type "tuple") hl (fun v hv=>?_) (fun v hv Q' hq=>?_) (by decide) (by rw [show (Value.type "tuple" != Value.type "tuple") = false by decide]; exact hQ)
  ·obtain ⟨x,xs,n,o,e1,e2,e3,e4,e5,_⟩:=hg v hv
   exact ⟨x,xs,n,o,e1,e2,e3,e4,e5⟩
  ·obtain ⟨_,_,_,_,_,_,_,_,_,q,o',e,e2,e3⟩:=hg v hv
   rw [e]
   exact wpAny_typeOf (T := "tuple") ⟨o',e2,e3⟩ hq
 mv:=fun a v H H' t h=>h.mv t
end L2
namespace L2
open PySem PySem.Spec PyProof.Rows
theorem zFc {α:Type} [DecidableEq α]:∀ (F ns:List α),F.Nodup -> (∀ k ∈ F,k ∈ ns) -> ns.length = F.length -> F.Perm ns
 | [],ns,_,_,hl=>by rw [List.eq_nil_of_length_eq_zero hl]
 | x :: F,ns,hn,hs,hl=>by
  have hx:=hs x (by simp)
  have hp:=List.perm_cons_erase hx
  obtain ⟨h1,h2⟩:=List.nodup_cons.mp hn
  refine ((zFc F (ns.erase x) h2 (fun k hk=>?_) ?_).cons x).trans hp.symm
  ·have hne:k ≠ x:=fun z=>h1 (z ▸ hk)
   exact (List.mem_erase_of_ne hne).mpr (hs k (by simp [hk]))
  ·rw [List.length_erase_of_mem hx,hl]
   rfl
theorem zBt {α:Type} {r:α -> α -> Prop} (anti:∀ a b,r a b -> r b a -> a = b):∀ {l l':List α},l.Perm l' -> l.Pairwise r -> l'.Pairwise r -> l = l'
 | [],l',h,_,_=>(List.Perm.nil_eq h)
 | a :: t,[],h,_,_=>by
  have:=h.length_eq
  simp at this
 | a :: t,b :: t',h,h1,h2=>by
  obtain ⟨a1,a2⟩:=List.pairwise_cons.mp h1
  obtain ⟨b1,b2⟩:=List.pairwise_cons.mp h2
  have e:a = b:=by
   rcases List.mem_cons.mp (h.mem_iff.mp (show a ∈ a :: t by simp)) with e | e
   ·exact e
   ·rcases List.mem_cons.mp (h.mem_iff.mpr (show b ∈ b :: t' by simp)) with e2 | e2
    ·exact e2.symm
    ·exact anti a b (a1 b e2) (b1 a e)
  subst e
  rw [zBt anti (h.cons_inv) a2 b2]
theorem zBd:∀ a b:List Int,HT.lexGt a b = true -> HT.lexLt a b = false /\ a ≠ b
 | [],[],h=>by cases h
 | [],_ :: _,h=>by cases h
 | _ :: _,[],_=>⟨rfl,fun e=>by cases e⟩
 | x :: a,y :: b,h=>by
  rw [HT.lexGt_cons] at h
  rw [HT.lexLt_cons]
  by_cases e:x = y
  ·rw [if_pos e] at h ⊢
   obtain ⟨h1,h2⟩:=zBd a b h
   exact ⟨h1,fun z=>h2 (List.cons.inj z).2⟩
  ·rw [if_neg e] at h ⊢
   have:=of_decide_eq_true h
   exact ⟨decide_eq_false (by omega),fun z=>e (List.cons.inj z).1⟩
theorem yIb (a b:Pr2) (h1:plt a b = false) (h2:plt b a = false):a = b:=by
 unfold plt at *
 by_cases e:a.1 = b.1
 ·rw [if_pos e] at h1
  rw [if_pos e.symm] at h2
  exact Prod.ext e (zIk _ _ h1 h2)
 ·rw [if_neg e] at h1
  rw [if_neg fun z=>e z.symm] at h2
  exact absurd (zIk _ _ h1 h2) e
section
variable {one other:Rule} {m n:Nat}
theorem zHv (R:Rul one other) (hl:(z2a one m).length = (z2a other m).length) (hm:m <= 24):((z2a one m).map (endH one other)).Perm (z2a other m):=by
 refine zFc _ _ ?_ (fun g hg=>?_) (by rw [List.length_map]; exact hl.symm)
 ·rw [List.nodup_iff_pairwise_ne,List.pairwise_map]
  refine List.Pairwise.imp_of_mem (fun {a b} ha hb hab e=>?_) (zCb one hm)
  have e1:=zBu R (z3p ha hm).1 hm (z3p ha hm).2
  have e2:=zBu R (z3p hb hm).1 hm (z3p hb hm).2
  rw [e,e2] at e1
  exact (zBd a b hab).2 e1.symm
 ·obtain ⟨h,hh,rfl⟩:=List.mem_map.mp hg
  obtain ⟨p1,p2⟩:=zBa R (z3p hh hm).1 hm (z3p hh hm).2
  exact List.mem_filter.mpr ⟨p1.part hm,by rw [p2]; rfl⟩
theorem y0m (R:Rul one other) (hl:(z2a one m).length = (z2a other m).length) (hm:m <= 24) {gs:List (List Int)} (hp:gs.Perm ((z2a one m).map (endH one other))) (ho:gs.Pairwise fun a b=>HT.lexLt a b = false):gs = z2a other m :=
 zBt (fun a b h1 h2=>zIk a b h1 h2) (hp.trans (zHv R hl hm)) ho ((zCb other hm).imp fun h=>(zBd _ _ h).1)
theorem zHf (R:Rul one other) (hl:(z2a one m).length = (z2a other m).length) (hm:m <= 24) {gs:List Pr2} (hp:gs.Perm ((z2a one m).map fun h=>(endH one other h,h))) (ho:gs.Pairwise fun a b=>plt a b = false):gs = (z2a other m).map fun g=>(g,endH other one g):=by
 have e:((z2a one m).map fun h=>(endH one other h,h)) = ((z2a one m).map (endH one other)).map fun g=>(g,endH other one g):=by
  rw [List.map_map]
  refine List.map_congr_left fun h hh=>?_
  show _ = (endH one other h,endH other one (endH one other h))
  rw [zBu R (z3p hh hm).1 hm (z3p hh hm).2]
 rw [e] at hp
 refine zBt (fun a b h1 h2=>yIb a b h1 h2) (hp.trans ((zHv R hl hm).map _)) ho ?_
 rw [List.pairwise_map]
 refine (zCb other hm).imp fun {a b} h=>?_
 obtain ⟨h1,h2⟩:=zBd a b h
 unfold plt
 rw [if_neg h2]
 exact h1
end
theorem zAx {K K':PySem.W.Frag} {a:Addr} {xs:List V} {te:TE} {σ0:L2.St} {H:Hp} {Q:VK} {β:Type} (R:β -> V -> Hp -> Prop) (A:List Pr2) (bs:List β) (hb:bs.length = A.length) (hle:A.length <= sizeLine) (mono:∀ b v H H',Same H H' -> R b v H -> R b v H') (h0:σ0 = [none,none]) (h:H a = some (.lst xs)) (h2:All2 z5v H A xs)
  (step:∀ (j:Nat) (pc:Pr2) (b:β) (qa qb:Addr) (H':Hp) (P:VK),A[j]? = some pc -> bs[j]? = some b -> Same H H' -> H' qa = some (.tup (pc.1.map V.int)) -> H' qb = some (.tup (pc.2.map V.int)) -> (∀ v H'',Same H' H'' -> R b v H'' -> P v H'') -> te [some (.ref qa),some (.ref qb)] H' P)
  (hd:∀ zs H' p,Same H H' -> All2 R H' bs zs -> H' p = none -> Q (.ref p) (upd H' p (.lst zs))):z9j (gTup K' 2 (yEz (zBx 0) (yEz (zBx 1) gNil))) tYes te σ0 (Itl K a) H Q:=by
 subst h0
 have hl:=h2.length
 refine z3t (xs:=xs) (fun j zs σ' H'=>Same H H' /\ (∃ v w,σ' = [v,w]) /\ All2 R H' (bs.take j) zs /\ j <= bs.length) ⟨Same.refl _,⟨_,_,rfl⟩,.nil,Nat.zero_le _⟩ ?_ ?_ ?_
 ·rintro j zs σ' H' hj ⟨s',_,a2,hj'⟩
  refine ⟨SqL.of (s' _ _ h),?_⟩
  rw [<- a2.length,List.length_take]
  exact Nat.le_trans (Nat.min_le_right _ _) (by rw [hb]; exact hle)
 ·rintro j x zs σ' H' hx ⟨s',⟨v,w,rfl⟩,a2,hj'⟩
  obtain ⟨pc,hpc,q,qa,qb,rfl,g1,g2,g3⟩:=h2.get hx
  have hj:j < bs.length:=by rw [hb]; exact (List.getElem?_eq_some_iff.mp hpc).1
  refine ⟨q,_,rfl,SqT.of (s' _ _ g1),rfl,_,_,rfl,_,_,rfl,rfl,?_⟩
  refine step j pc bs[j] qa qb H' _ hpc (List.getElem?_eq_getElem hj) s' (s' _ _ g2) (s' _ _ g3) fun v H'' s'' r=>?_
  refine ⟨s'.trans s'',⟨_,_,rfl⟩,?_,hj⟩
  rw [List.take_succ,List.getElem?_eq_getElem hj]
  exact (a2.imp fun _ _ z=>mono _ _ _ _ s'' z).snoc r
 ·rintro zs σ' H' ⟨s',_,a2,_⟩ p hp
  rw [<- hl,<- hb,List.take_length] at a2
  exact hd zs H' p s' a2 hp
end L2
set_option maxHeartbeats 4000000
namespace My
open PySem PySem.Spec PyProof.Rows L2
def top (i:Nat):Stmt:=PySem.Challenge.pw_shutpairs_k53_whole_one_to_one_and_onto.main.body.getD i (.Pass ⟨0,0,0,0⟩)
abbrev z1g:Stmt:=top 11
abbrev z6h:Stmt:=top 15
abbrev z4c:Stmt:=top 16
abbrev z3d:Stmt:=top 22
abbrev z3k:Stmt:=top 23
abbrev z6g:Stmt:=top 24
abbrev z1f:Stmt:=top 28
abbrev z1w:Stmt:=top 29
abbrev z2l:Stmt:=top 30
abbrev z5c:Stmt:=top 14
abbrev z1h:Stmt:=top 25
abbrev z1n:Stmt:=y0p (top 56) 1
abbrev z5b:Stmt:=top 47
abbrev z4b:Stmt:=top 13
abbrev zEb:Stmt:=top 19
abbrev z6i:Stmt:=top 20
abbrev z1q:Stmt:=top 17
abbrev z3s:Stmt:=top 18
abbrev z1u:Stmt:=top 34
abbrev z2t:Stmt:=top 37
abbrev z2k:Stmt:=top 38
abbrev z4d:Stmt:=top 41
abbrev z4a:Stmt:=top 42
abbrev z2g:Stmt:=top 39
abbrev z4f:Stmt:=top 43
abbrev z2f:Stmt:=top 48
abbrev z1o:Stmt:=top 49
abbrev z2h:Stmt:=top 50
abbrev z5a:Stmt:=top 51
abbrev z1b:Stmt:=top 52
abbrev z0z:Stmt:=top 32
abbrev z2e:Stmt:=top 33
abbrev z4e:Stmt:=top 36
abbrev z3l:Stmt:=top 59
abbrev z4g:Stmt:=top 60
abbrev z3j:Stmt:=top 61
abbrev z1e:Stmt:=top 63
abbrev z3i:Stmt:=top 65
abbrev z2r:Stmt:=top 64
abbrev z2s:Stmt:=top 71
abbrev z1r:Stmt:=top 73
abbrev z0l:Stmt:=top 72
abbrev z1s:Stmt:=top 74
abbrev z1i:Stmt:=top 67
abbrev z2d:Stmt:=top 69
abbrev z0y:Stmt:=top 70
abbrev z0u:Stmt:=top 80
abbrev z0m:Stmt:=top 81
abbrev z1z:Stmt:=top 54
abbrev z1p:Stmt:=top 55
abbrev z1c:Stmt:=y0p (top 56) 0
abbrev z1v:Stmt:=y0p (top 56) 2
abbrev z4r:Stmt:=top 82
set_option genInjectivity false in
structure Adr where
 a_refuse_beyond:Addr
 fd_refuse_beyond:FuncData
 a_often:Addr
 fd_often:FuncData
 a_lies_in:Addr
 fd_lies_in:FuncData
 a_all_in:Addr
 fd_all_in:FuncData
 a_first_in:Addr
 fd_first_in:FuncData
 a_keeps:Addr
 fd_keeps:FuncData
 a_partings_to:Addr
 fd_partings_to:FuncData
 a_partings_of:Addr
 fd_partings_of:FuncData
 a_kept_of:Addr
 fd_kept_of:FuncData
 a_sum_of:Addr
 fd_sum_of:FuncData
 a_refuse_unkept:Addr
 fd_refuse_unkept:FuncData
 a_Beside_rules:Addr
 fd_Beside_rules:FuncData
 a_is_end:Addr
 fd_is_end:FuncData
 a_heap_of:Addr
 fd_heap_of:FuncData
 a_put:Addr
 fd_put:FuncData
 a_taken:Addr
 fd_taken:FuncData
 a_unlike_parts:Addr
 fd_unlike_parts:FuncData
 a_joined:Addr
 fd_joined:FuncData
 a_joined_of:Addr
 fd_joined_of:FuncData
 a_is_choice:Addr
 fd_is_choice:FuncData
 a_is_pair:Addr
 fd_is_pair:FuncData
 a_rule_on:Addr
 fd_rule_on:FuncData
 a_crossed:Addr
 fd_crossed:FuncData
 a_partner_of:Addr
 fd_partner_of:FuncData
 a_toggled:Addr
 fd_toggled:FuncData
 a_next_place:Addr
 fd_next_place:FuncData
 a_first_places:Addr
 fd_first_places:FuncData
 a_whole_walk:Addr
 fd_whole_walk:FuncData
 a_end_of:Addr
 fd_end_of:FuncData
 a_meetings_of:Addr
 fd_meetings_of:FuncData
 a_choices_among:Addr
 fd_choices_among:FuncData
 a_choices_of:Addr
 fd_choices_of:FuncData
 a_sign_of:Addr
 fd_sign_of:FuncData
 a_next_way:Addr
 fd_next_way:FuncData
 a_ways_to:Addr
 fd_ways_to:FuncData
 a_count_of:Addr
 fd_count_of:FuncData
 a__law_start:Addr
 fd__law_start:FuncData
 a__law_mix:Addr
 fd__law_mix:FuncData
 a__law_draw:Addr
 fd__law_draw:FuncData
 a__law_lane:Addr
 fd__law_lane:FuncData
 a__law_rule:Addr
 fd__law_rule:FuncData
 a__law_matched:Addr
 fd__law_matched:FuncData
 a__law_same:Addr
 fd__law_same:FuncData
 a__law_lies:Addr
 fd__law_lies:FuncData
 a__law_first:Addr
 fd__law_first:FuncData
 a__law_partings:Addr
 fd__law_partings:FuncData
 a__law_keepers:Addr
 fd__law_keepers:FuncData
 a__law_heap_told:Addr
 fd__law_heap_told:FuncData
 a_sums_of:Addr
 fd_sums_of:FuncData
 a_first_unlike:Addr
 fd_first_unlike:FuncData
 a_Beside___init__:Addr
 fd_Beside___init__:FuncData
 a_Beside_back:Addr
 fd_Beside_back:FuncData
 a_law:Addr
 fd_law:FuncData
 c_Beside:Addr
set_option genInjectivity false in
structure Txt (K:PySem.W.Frag) (mg:Str -> Option Value) (A:Adr):Prop where
 F_refuse_beyond:Fun K "refuse_beyond" "refuse_beyond" z1g A.a_refuse_beyond A.fd_refuse_beyond
 b_refuse_beyond:z1k K A.fd_refuse_beyond ["n", "most"] []
 g_refuse_beyond:mg "refuse_beyond" = some (.ref A.a_refuse_beyond)
 F_often:Fun K "often" "often" z6h A.a_often A.fd_often
 b_often:z1k K A.fd_often ["heap", "part"] []
 g_often:mg "often" = some (.ref A.a_often)
 F_lies_in:Fun K "lies_in" "lies_in" z4c A.a_lies_in A.fd_lies_in
 b_lies_in:z1k K A.fd_lies_in ["one", "other"] []
 g_lies_in:mg "lies_in" = some (.ref A.a_lies_in)
 F_all_in:Fun K "all_in" "all_in" z3d A.a_all_in A.fd_all_in
 b_all_in:z1k K A.fd_all_in ["rule", "heap"] []
 g_all_in:mg "all_in" = some (.ref A.a_all_in)
 F_first_in:Fun K "first_in" "first_in" z3k A.a_first_in A.fd_first_in
 b_first_in:z1k K A.fd_first_in ["rule", "heap"] []
 g_first_in:mg "first_in" = some (.ref A.a_first_in)
 F_keeps:Fun K "keeps" "keeps" z6g A.a_keeps A.fd_keeps
 b_keeps:z1k K A.fd_keeps ["rule", "heap"] []
 g_keeps:mg "keeps" = some (.ref A.a_keeps)
 F_partings_to:Fun K "partings_to" "partings_to" z1f A.a_partings_to A.fd_partings_to
 b_partings_to:z1k K A.fd_partings_to ["n", "greatest"] []
 g_partings_to:mg "partings_to" = some (.ref A.a_partings_to)
 F_partings_of:Fun K "partings_of" "partings_of" z1w A.a_partings_of A.fd_partings_of
 b_partings_of:z1k K A.fd_partings_of ["n"] []
 g_partings_of:mg "partings_of" = some (.ref A.a_partings_of)
 F_kept_of:Fun K "kept_of" "kept_of" z2l A.a_kept_of A.fd_kept_of
 b_kept_of:z1k K A.fd_kept_of ["rule", "n"] []
 g_kept_of:mg "kept_of" = some (.ref A.a_kept_of)
 F_sum_of:Fun K "sum_of" "sum_of" z5c A.a_sum_of A.fd_sum_of
 b_sum_of:z1k K A.fd_sum_of ["heap"] []
 g_sum_of:mg "sum_of" = some (.ref A.a_sum_of)
 F_refuse_unkept:Fun K "refuse_unkept" "refuse_unkept" z1h A.a_refuse_unkept A.fd_refuse_unkept
 b_refuse_unkept:z1k K A.fd_refuse_unkept ["rule", "heap"] []
 g_refuse_unkept:mg "refuse_unkept" = some (.ref A.a_refuse_unkept)
 F_Beside_rules:Fun K "rules" "Beside.rules" z1n A.a_Beside_rules A.fd_Beside_rules
 b_Beside_rules:z1k K A.fd_Beside_rules ["self"] []
 F_is_end:Fun K "is_end" "is_end" z5b A.a_is_end A.fd_is_end
 b_is_end:z1k K A.fd_is_end ["sided", "place"] []
 g_is_end:mg "is_end" = some (.ref A.a_is_end)
 F_heap_of:Fun K "heap_of" "heap_of" z4b A.a_heap_of A.fd_heap_of
 b_heap_of:z1k K A.fd_heap_of ["parts"] []
 g_heap_of:mg "heap_of" = some (.ref A.a_heap_of)
 F_put:Fun K "put" "put" zEb A.a_put A.fd_put
 b_put:z1k K A.fd_put ["one", "other"] []
 g_put:mg "put" = some (.ref A.a_put)
 F_taken:Fun K "taken" "taken" z6i A.a_taken A.fd_taken
 b_taken:z1k K A.fd_taken ["one", "other"] []
 g_taken:mg "taken" = some (.ref A.a_taken)
 F_unlike_parts:Fun K "unlike_parts" "unlike_parts" z1q A.a_unlike_parts A.fd_unlike_parts
 b_unlike_parts:z1k K A.fd_unlike_parts ["heaps"] []
 g_unlike_parts:mg "unlike_parts" = some (.ref A.a_unlike_parts)
 F_joined:Fun K "joined" "joined" z3s A.a_joined A.fd_joined
 b_joined:z1k K A.fd_joined ["heaps"] []
 g_joined:mg "joined" = some (.ref A.a_joined)
 F_joined_of:Fun K "joined_of" "joined_of" z1u A.a_joined_of A.fd_joined_of
 b_joined_of:z1k K A.fd_joined_of ["rule", "choice"] []
 g_joined_of:mg "joined_of" = some (.ref A.a_joined_of)
 F_is_choice:Fun K "is_choice" "is_choice" z2t A.a_is_choice A.fd_is_choice
 b_is_choice:z1k K A.fd_is_choice ["rule", "choice"] []
 g_is_choice:mg "is_choice" = some (.ref A.a_is_choice)
 F_is_pair:Fun K "is_pair" "is_pair" z2k A.a_is_pair A.fd_is_pair
 b_is_pair:z1k K A.fd_is_pair ["rule", "pair"] []
 g_is_pair:mg "is_pair" = some (.ref A.a_is_pair)
 F_rule_on:Fun K "rule_on" "rule_on" z4d A.a_rule_on A.fd_rule_on
 b_rule_on:z1k K A.fd_rule_on ["sided", "side"] []
 g_rule_on:mg "rule_on" = some (.ref A.a_rule_on)
 F_crossed:Fun K "crossed" "crossed" z4a A.a_crossed A.fd_crossed
 b_crossed:z1k K A.fd_crossed ["sided", "place"] []
 g_crossed:mg "crossed" = some (.ref A.a_crossed)
 F_partner_of:Fun K "partner_of" "partner_of" z2g A.a_partner_of A.fd_partner_of
 b_partner_of:z1k K A.fd_partner_of ["rule", "pair"] []
 g_partner_of:mg "partner_of" = some (.ref A.a_partner_of)
 F_toggled:Fun K "toggled" "toggled" z4f A.a_toggled A.fd_toggled
 b_toggled:z1k K A.fd_toggled ["sided", "place"] []
 g_toggled:mg "toggled" = some (.ref A.a_toggled)
 F_next_place:Fun K "next_place" "next_place" z2f A.a_next_place A.fd_next_place
 b_next_place:z1k K A.fd_next_place ["sided", "walk"] []
 g_next_place:mg "next_place" = some (.ref A.a_next_place)
 F_first_places:Fun K "first_places" "first_places" z1o A.a_first_places A.fd_first_places
 b_first_places:z1k K A.fd_first_places ["sided", "heap", "most"] []
 g_first_places:mg "first_places" = some (.ref A.a_first_places)
 F_whole_walk:Fun K "whole_walk" "whole_walk" z2h A.a_whole_walk A.fd_whole_walk
 b_whole_walk:z1k K A.fd_whole_walk ["sided", "heap"] []
 g_whole_walk:mg "whole_walk" = some (.ref A.a_whole_walk)
 F_end_of:Fun K "end_of" "end_of" z5a A.a_end_of A.fd_end_of
 b_end_of:z1k K A.fd_end_of ["sided", "heap"] []
 g_end_of:mg "end_of" = some (.ref A.a_end_of)
 F_meetings_of:Fun K "meetings_of" "meetings_of" z1b A.a_meetings_of A.fd_meetings_of
 b_meetings_of:z1k K A.fd_meetings_of ["sided", "n"] []
 g_meetings_of:mg "meetings_of" = some (.ref A.a_meetings_of)
 F_choices_among:Fun K "choices_among" "choices_among" z0z A.a_choices_among A.fd_choices_among
 b_choices_among:z1k K A.fd_choices_among ["numbers"] []
 g_choices_among:mg "choices_among" = some (.ref A.a_choices_among)
 F_choices_of:Fun K "choices_of" "choices_of" z2e A.a_choices_of A.fd_choices_of
 b_choices_of:z1k K A.fd_choices_of ["rule"] []
 g_choices_of:mg "choices_of" = some (.ref A.a_choices_of)
 F_sign_of:Fun K "sign_of" "sign_of" z4e A.a_sign_of A.fd_sign_of
 b_sign_of:z1k K A.fd_sign_of ["pair"] []
 g_sign_of:mg "sign_of" = some (.ref A.a_sign_of)
 F_next_way:Fun K "next_way" "next_way" z3l A.a_next_way A.fd_next_way
 b_next_way:z1k K A.fd_next_way ["ways"] []
 g_next_way:mg "next_way" = some (.ref A.a_next_way)
 F_ways_to:Fun K "ways_to" "ways_to" z4g A.a_ways_to A.fd_ways_to
 b_ways_to:z1k K A.fd_ways_to ["n"] []
 g_ways_to:mg "ways_to" = some (.ref A.a_ways_to)
 F_count_of:Fun K "count_of" "count_of" z3j A.a_count_of A.fd_count_of
 b_count_of:z1k K A.fd_count_of ["rule", "n"] []
 g_count_of:mg "count_of" = some (.ref A.a_count_of)
 F__law_start:Fun K "_law_start" "_law_start" z1e A.a__law_start A.fd__law_start
 b__law_start:z1k K A.fd__law_start ["_law_script"] []
 g__law_start:mg "_law_start" = some (.ref A.a__law_start)
 F__law_mix:Fun K "_law_mix" "_law_mix" z3i A.a__law_mix A.fd__law_mix
 b__law_mix:z1k K A.fd__law_mix ["_law_state"] []
 g__law_mix:mg "_law_mix" = some (.ref A.a__law_mix)
 F__law_draw:Fun K "_law_draw" "_law_draw" z2r A.a__law_draw A.fd__law_draw
 b__law_draw:z1k K A.fd__law_draw ["_law_state", "_law_many"] []
 g__law_draw:mg "_law_draw" = some (.ref A.a__law_draw)
 F__law_lane:Fun K "_law_lane" "_law_lane" z2s A.a__law_lane A.fd__law_lane
 b__law_lane:z1k K A.fd__law_lane ["_law_left", "_law_right", "_law_split", "_law_levels"] []
 g__law_lane:mg "_law_lane" = some (.ref A.a__law_lane)
 F__law_rule:Fun K "_law_rule" "_law_rule" z1r A.a__law_rule A.fd__law_rule
 b__law_rule:z1k K A.fd__law_rule ["_law_rows"] []
 g__law_rule:mg "_law_rule" = some (.ref A.a__law_rule)
 F__law_matched:Fun K "_law_matched" "_law_matched" z0l A.a__law_matched A.fd__law_matched
 b__law_matched:z1k K A.fd__law_matched ["_law_state", "_law_top"] []
 g__law_matched:mg "_law_matched" = some (.ref A.a__law_matched)
 F__law_same:Fun K "_law_same" "_law_same" z1s A.a__law_same A.fd__law_same
 b__law_same:z1k K A.fd__law_same ["_law_found", "_law_due"] []
 g__law_same:mg "_law_same" = some (.ref A.a__law_same)
 F__law_lies:Fun K "_law_lies" "_law_lies" z1i A.a__law_lies A.fd__law_lies
 b__law_lies:z1k K A.fd__law_lies ["_law_one", "_law_other"] []
 g__law_lies:mg "_law_lies" = some (.ref A.a__law_lies)
 F__law_first:Fun K "_law_first" "_law_first" z2d A.a__law_first A.fd__law_first
 b__law_first:z1k K A.fd__law_first ["_law_rule_here", "_law_heap_here"] []
 g__law_first:mg "_law_first" = some (.ref A.a__law_first)
 F__law_partings:Fun K "_law_partings" "_law_partings" z0y A.a__law_partings A.fd__law_partings
 b__law_partings:z1k K A.fd__law_partings ["_law_n", "_law_top"] []
 g__law_partings:mg "_law_partings" = some (.ref A.a__law_partings)
 F__law_keepers:Fun K "_law_keepers" "_law_keepers" z0u A.a__law_keepers A.fd__law_keepers
 b__law_keepers:z1k K A.fd__law_keepers ["_law_rule_here", "_law_n"] []
 g__law_keepers:mg "_law_keepers" = some (.ref A.a__law_keepers)
 F__law_heap_told:Fun K "_law_heap_told" "_law_heap_told" z0m A.a__law_heap_told A.fd__law_heap_told
 b__law_heap_told:z1k K A.fd__law_heap_told ["_law_found"] []
 g__law_heap_told:mg "_law_heap_told" = some (.ref A.a__law_heap_told)
 F_sums_of:Fun K "sums_of" "sums_of" z1z A.a_sums_of A.fd_sums_of
 b_sums_of:z1k K A.fd_sums_of ["rule"] []
 g_sums_of:mg "sums_of" = some (.ref A.a_sums_of)
 F_first_unlike:Fun K "first_unlike" "first_unlike" z1p A.a_first_unlike A.fd_first_unlike
 b_first_unlike:z1k K A.fd_first_unlike ["one", "other"] []
 g_first_unlike:mg "first_unlike" = some (.ref A.a_first_unlike)
 F_Beside___init__:Fun K "__init__" "Beside.__init__" z1c A.a_Beside___init__ A.fd_Beside___init__
 b_Beside___init__:z1k K A.fd_Beside___init__ ["self", "one", "other"] []
 F_Beside_back:Fun K "back" "Beside.back" z1v A.a_Beside_back A.fd_Beside_back
 b_Beside_back:z1k K A.fd_Beside_back ["self"] []
 F_law:Fun K "law" "law" z4r A.a_law A.fd_law
 b_law:z1k K A.fd_law ["_law_script"] []
 g_law:mg "law" = some (.ref A.a_law)
 b_all:mg "all" = none
 b_bool:mg "bool" = none
 b_enumerate:mg "enumerate" = none
 b_int:mg "int" = none
 b_isinstance:mg "isinstance" = none
 b_len:mg "len" = none
 b_list:mg "list" = none
 b_max:mg "max" = none
 b_min:mg "min" = none
 b_range:mg "range" = none
 b_sorted:mg "sorted" = none
 b_str:mg "str" = none
 b_sum:mg "sum" = none
 b_tuple:mg "tuple" = none
 b_zip:mg "zip" = none
 v_MOST_LISTED:∃ t,mg "MOST_LISTED" = some (.int 24 t)
 v_MOST_ENDED:∃ t,mg "MOST_ENDED" = some (.int 24 t)
 v_MOST_MET:∃ t,mg "MOST_MET" = some (.int 16 t)
 v_MOST_COUNTED:∃ t,mg "MOST_COUNTED" = some (.int 400 t)
 g_Beside:mg "Beside" = some (.ref A.c_Beside)
 cl_Beside:Cls K A.c_Beside
 mk_Beside:Mk K A.c_Beside A.a_Beside___init__
 mt_Beside_rules:Meth K A.c_Beside "rules" A.a_Beside_rules
 mt_Beside_back:Meth K A.c_Beside "back" A.a_Beside_back
 na_Beside_one:zAc K A.c_Beside "one"
 na_Beside_other:zAc K A.c_Beside "other"
section
variable {P:Program} {w:World} {K:PySem.W.Frag} {mg:Str -> Option Value} {base:Heap} {A:Adr}
def zCp:List Str:=["n", "most"]
theorem zAr:FnScope zCp ["n", "most"] (z0b z1g):=⟨rfl,rfl,rfl,by decide +kernel,rfl,by decide +kernel,by decide +kernel⟩
def y9p (A:Adr):Sp:=fun vs H Q _=>∃ (n m:Int),vs = [.int n,.int m] /\ (0 <= m /\ m <= 400) /\ ((0 <= n /\ n <= m /\ Q .non H) \/ False)
theorem z4h (T:Txt K mg A):FnOk P w K mg base CX0 1 A.a_refuse_beyond A.fd_refuse_beyond ["n", "most"] (y9p A):=by
 refine T.F_refuse_beyond.ok zAr (fun vs H Q E h=>?_) (fun cdv Ar outer s H vs Q E hr h=>?_)
 ·obtain ⟨n,m,rfl,hm,h⟩:=h
  rfl
 ·obtain ⟨n,m,rfl,hm,h⟩:=h
  refine ⟨_,(z0f (z2z (PW.pt (zJn (z0w y5a (pv 0) z0i (z1d _)) (zDd (z0w yFk (pv 0) (pv 1) (z1d _)))))
     (z0f z4z) z1a)),?_⟩
  rcases h with ⟨h1,h2,q⟩ | z
  ·refine ⟨_,rfl,_,_,rfl,rfl,_,rfl,?_⟩
   refine ite2 (fun hc=>absurd (of_decide_eq_true hc) (by omega)) (fun hc=>?_)
   refine ⟨_,rfl,_,rfl,_,_,rfl,rfl,_,rfl,?_⟩
   exact ite2 (fun hc2=>absurd (of_decide_eq_true hc2) (by omega)) (fun hc2=>q)
  ·exact z.elim
def yFg:List Str:=["heap", "part"]
theorem yCu:FnScope yFg ["heap", "part"] (z0b z6h):=⟨rfl,rfl,rfl,by decide +kernel,rfl,by decide +kernel,by decide +kernel⟩
def yDa (K:PySem.W.Frag):Sp:=fun vs H Q _=>∃ (a:Addr) (ns:List Int) (y:Int),vs = [.ref a,.int y] /\ H a = some (.tup (ns.map V.int)) /\ Q (.int (ns.count y:Nat)) H
theorem zGc (T:Txt K mg A):FnOk P w K mg base CX0 1 A.a_often A.fd_often ["heap", "part"] (yDa K):=by
 refine T.F_often.ok yCu (fun vs H Q E h=>?_) (fun cdv Ar outer s H vs Q E hr h=>?_)
 ·obtain ⟨a,ns,y,rfl,hS,k⟩:=h
  rfl
 ·obtain ⟨a,ns,y,rfl,hS,k⟩:=h
  refine ⟨_,(z0f (z0p (z8b PySem.F.plainAttrs_tuple PySem.F.slot_tuple_count PySem.F.type_tuple_count zIo (pv 0) (z0a (pv 1) z0d)))),?_⟩
  exact ⟨_,rfl,.inr (.inl ⟨rfl,.inr ⟨_,hS⟩⟩),_,rfl,a,_,_,rfl,rfl,SqT.of hS,rfl,z5o _,by rw [zBq]; exact k⟩
def y8a:List Str:=["one", "other", "part"]
theorem zFf:FnScope y8a ["one", "other"] (z0b z4c):=⟨rfl,rfl,rfl,by decide +kernel,rfl,by decide +kernel,by decide +kernel⟩
def y5t:Sp:=fun vs H Q _=>∃ (a b:Addr) (ns ms:List Int),vs = [.ref a,.ref b] /\ H a = some (.tup (ns.map V.int)) /\ H b = some (.tup (ms.map V.int)) /\ Q (.bl (lies ns ms)) H
theorem z9t (T:Txt K mg A):FnOk P w K mg base CX0 2 A.a_lies_in A.fd_lies_in ["one", "other"] y5t:=by
 refine T.F_lies_in.ok zFf (fun vs H Q E h=>?_) (fun cdv Ar outer s H vs Q E hr h=>?_)
 ·obtain ⟨a,b,ns,ms,rfl,ha,hb,k⟩:=h
  rfl
 ·obtain ⟨a,b,ns,ms,rfl,ha,hb,k⟩:=h
  refine ⟨_,(z0e (z5i PassesOwn.never rfl (z9e (pv 0)) (z2m (i:=2) zFf.nd rfl (by first | exact Or.inl rfl | exact Or.inr rfl))
     (z0f (z2z (z0w y5a (z0j (zGc T) (hr.mono (by decide)) rfl T.g_often T.F_often.kp T.b_often .nil z0s (z0a (pv 1) (z0a (pv 2) z0d))) (z0j (zGc T) (hr.mono (by decide)) rfl T.g_often T.F_often.kp T.b_often .nil z0s (z0a (pv 0) (z0a (pv 2) z0d))) (z1d _))
     (z0f (z0p z8a)) z1a)))
    (z0f (z0p z8a))),?_⟩
  refine ⟨_,rfl,a,rfl,⟨_,SqT.of ha⟩,zBw (xs:=ns.map V.int) (fun i σ' H'=>H' = H /\ (∃ v,σ' = [some (.ref a),some (.ref b),v]) /\ (ns.take i).all (fun x=>decide (ns.count x <= ms.count x)) = true) ⟨rfl,⟨_,rfl⟩,rfl⟩ ?_ ?_ ?_⟩
  ·rintro i σ' H' _ ⟨rfl,_⟩
   exact SqT.of ha
  ·rintro i x σ' H' hx ⟨rfl,⟨v,rfl⟩,hall⟩
   obtain ⟨z,hz,rfl⟩:=z5q hx
   refine ⟨_,rfl,_,rfl,b,ms,z,rfl,hb,?_⟩
   refine ⟨_,rfl,_,rfl,a,ns,z,rfl,ha,?_⟩
   refine ⟨_,_,rfl,rfl,_,rfl,?_⟩
   refine ite2 (fun hlt=>?_) (fun hlt=>⟨rfl,⟨_,rfl⟩,?_⟩)
   ·have h1:lies ns ms = false:=y6e (List.mem_of_getElem? hz) (by
     have:=of_decide_eq_true hlt
     exact decide_eq_false (by omega))
    rw [h1] at k
    exact k
   ·rw [yAi hz,hall,Bool.true_and]
    refine decide_eq_true ?_
    have:¬ ((ms.count z:Nat):Int) < ((ns.count z:Nat):Int):=fun q=>hlt (decide_eq_true q)
    omega
  ·rintro σ' H' ⟨rfl,_,hall⟩
   rw [List.length_map,List.take_length] at hall
   have h1:lies ns ms = true:=hall
   rw [h1] at k
   exact k
def y2n:List Str:=["rule", "heap"]
theorem y9e:FnScope y2n ["rule", "heap"] (z0b z3d):=⟨rfl,rfl,rfl,by decide +kernel,rfl,by decide +kernel,by decide +kernel⟩
def y9j:Sp:=fun vs H Q _=>∃ (p q:Addr) (rs:List V) (rule:List (List Int)) (hs:List Int),vs = [.ref p,.ref q] /\ H p = some (.tup rs) /\ All2 Tup1 H rule rs /\ H q = some (.tup (hs.map V.int)) /\ rule.length <= 60 /\
 ∀ (l:Addr) (H':Hp),H' l = some (.lst ((idxG rule hs).map V.int)) -> Same H H' -> H l = none -> Q (.ref l) H'
theorem y8g (T:Txt K mg A):FnOk P w K mg base CX0 3 A.a_all_in A.fd_all_in ["rule", "heap"] y9j:=by
 refine T.F_all_in.ok y9e (fun vs H Q E h=>?_) (fun cdv Ar outer s H vs Q E hr h=>?_)
 ·obtain ⟨p,q,rs,rule,hs,rfl,hp,h2,hq,hln,k⟩:=h
  rfl
 ·obtain ⟨p,q,rs,rule,hs,rfl,hp,h2,hq,hln,k⟩:=h
  refine ⟨_,(z0f (z0p (z2p (ls:=["number", "shut"]) (fr:=[("heap",1)]) (z4w (z0b z3d) y2n rfl rfl (by decide +kernel)) rfl (yFo true rfl T.b_enumerate (z0a (pv 0) z0d)) (fun _ _ _ _=>z7k 2 rfl (z1t (pgc (ls:=["number", "shut"]) (fr:=[("heap",1)]) 0 (by decide +kernel) rfl rfl) (z1t (pgc (ls:=["number", "shut"]) (fr:=[("heap",1)]) 1 (by decide +kernel) rfl rfl) z5s)) rfl rfl) (fun _ _ _ _=>y3d (zJm K rfl (z0j (z9t T) (hr.mono (by decide)) (glc (z0b z3d)) T.g_lies_in T.F_lies_in.kp T.b_lies_in .nil z0s (z0a (pvc (z0b z3d) 1) (z0a (pvc (z0b z3d) 2) z0d))) (fun _=>rfl))) (fun _ _ _ _=>(pvc (z0b z3d) 0))))),?_⟩
  refine ⟨_,rfl,p,rfl,⟨_,SqT.of hp⟩,y6p (k:=true) (xs:=rs) (fun i zs σ' H'=>Same H H' /\ (∃ v w,σ' = [v,w,some (.ref q)]) /\ zs = (idxP rule hs i).map V.int) ⟨fun _ _ h=>h,⟨_,_,rfl⟩,rfl⟩ ?_ ?_ ?_⟩
  ·rintro i zs σ' H' hi ⟨s,_,rfl⟩
   refine ⟨SqT.of (s _ _ hp),?_⟩
   rw [List.length_map]
   have h1:=yBp rule hs i
   have h2:=h2.length
   exact z5h (by omega)
  ·rintro i x zs σ' H' T' hx ⟨s,⟨v,w',rfl⟩,rfl⟩ hT
   obtain ⟨hs1,hh1,q1,rfl,hq1⟩:=h2.get hx
   have hi:=(List.getElem?_eq_some_iff.mp hh1).1
   have e1:rule.getD i [] = hs1:=by simp [hh1]
   refine ⟨T',_,rfl,SqT.of z0c,rfl,_,_,rfl,_,_,rfl,rfl,?_⟩
   have sn:=s.trans (Same.new (o:=.tup [.int i,.ref q1]) hT)
   refine ⟨_,rfl,_,rfl,q1,q,hs1,hs,rfl,sn _ _ hq1,sn _ _ hq,?_⟩
   refine ⟨_,rfl,?_⟩
   refine ite2 (fun hc=>⟨_,rfl,sn,⟨_,_,rfl⟩,?_⟩) (fun hc=>⟨sn,⟨_,_,rfl⟩,?_⟩)
   ·rw [z5p,e1,if_pos hc,List.map_append]
    rfl
   ·rw [z5p,e1,if_neg hc,List.append_nil]
  ·rintro zs σ' H' ⟨s,_,rfl⟩ l hl
   rw [<- h2.length]
   exact k l _ z0c (s.trans (Same.new hl)) (s.free hl)
def y4p:List Str:=["rule", "heap"]
theorem y1l:FnScope y4p ["rule", "heap"] (z0b z3k):=⟨rfl,rfl,rfl,by decide +kernel,rfl,by decide +kernel,by decide +kernel⟩
def y1q:Sp:=fun vs H Q _=>∃ (p q:Addr) (rs:List V) (rule:List (List Int)) (hs:List Int),vs = [.ref p,.ref q] /\ H p = some (.tup rs) /\ All2 Tup1 H rule rs /\ H q = some (.tup (hs.map V.int)) /\ rule.length <= 60 /\
 ∀ (H':Hp),Same H H' -> Q (optV (z1m rule hs)) H'
theorem z8o (T:Txt K mg A):FnOk P w K mg base CX0 4 A.a_first_in A.fd_first_in ["rule", "heap"] y1q:=by
 refine T.F_first_in.ok y1l (fun vs H Q E h=>?_) (fun cdv Ar outer s H vs Q E hr h=>?_)
 ·obtain ⟨p,q,rs,rule,hs,rfl,hp,h2,hq,hln,k⟩:=h
  rfl
 ·obtain ⟨p,q,rs,rule,hs,rfl,hp,h2,hq,hln,k⟩:=h
  refine ⟨_,(z0f (z0p (yFm false rfl rfl T.b_min (z0j (y8g T) (hr.mono (by decide)) rfl T.g_all_in T.F_all_in.kp T.b_all_in .nil z0s (z0a (pv 0) (z0a (pv 1) z0d))) z6p))),?_⟩
  refine ⟨_,rfl,_,rfl,p,q,rs,rule,hs,rfl,hp,h2,hq,hln,fun l H' hl s nl=>?_⟩
  refine ⟨l,idxG rule hs,rfl,SqL.of hl,fun v hv=>?_⟩
  rcases hv with ⟨e,rfl⟩ | ⟨m,rfl,hm⟩
  ·have:=k H' s
   rw [zEn e] at this
   exact this
  ·have e:z1m rule hs = some m:=zIc rule hs rule.length m hm
   have:=k H' s
   rw [e] at this
   exact this
def yFf:List Str:=["rule", "heap"]
theorem yCt:FnScope yFf ["rule", "heap"] (z0b z6g):=⟨rfl,rfl,rfl,by decide +kernel,rfl,by decide +kernel,by decide +kernel⟩
def yCy:Sp:=fun vs H Q _=>∃ (p q:Addr) (rs:List V) (rule:List (List Int)) (hs:List Int),vs = [.ref p,.ref q] /\ H p = some (.tup rs) /\ All2 Tup1 H rule rs /\ H q = some (.tup (hs.map V.int)) /\ rule.length <= 60 /\
 ∀ (H':Hp),Same H H' -> Q (.bl (z1m rule hs).isNone) H'
theorem y2u (T:Txt K mg A):FnOk P w K mg base CX0 5 A.a_keeps A.fd_keeps ["rule", "heap"] yCy:=by
 refine T.F_keeps.ok yCt (fun vs H Q E h=>?_) (fun cdv Ar outer s H vs Q E hr h=>?_)
 ·obtain ⟨p,q,rs,rule,hs,rfl,hp,h2,hq,hln,k⟩:=h
  rfl
 ·obtain ⟨p,q,rs,rule,hs,rfl,hp,h2,hq,hln,k⟩:=h
  refine ⟨_,(z0f (z0p (z5f zEx (z0j (z8o T) (hr.mono (by decide)) rfl T.g_first_in T.F_first_in.kp T.b_first_in .nil z0s (z0a (pv 0) (z0a (pv 1) z0d))) z6p (z1d _)))),?_⟩
  refine ⟨_,rfl,_,rfl,p,q,rs,rule,hs,rfl,hp,h2,hq,hln,fun H' s=>⟨rfl,?_⟩⟩
  rw [zJf]
  exact k H' s
def z8x:List Str:=["n", "greatest", "partings", "part"]
theorem z6j:FnScope z8x ["n", "greatest"] (z0b z1f):=⟨rfl,rfl,rfl,by decide +kernel,rfl,by decide +kernel,by decide +kernel⟩
def y3o (n:Nat):Sp:=fun vs H Q _=>∃ (m g:Nat),m < n /\ vs = [.int m,.int g] /\ m <= 24 /\ g <= 1000 /\
 ∀ (l:Addr) (xs:List V) (H':Hp),H' l = some (.lst xs) -> All2 Tup1 H' (z2y n m g) xs -> Same H H' -> H l = none -> Q (.ref l) H'
theorem z7h (T:Txt K mg A):∀ n:Nat,FnOk P w K mg base CX0 n A.a_partings_to A.fd_partings_to ["n", "greatest"] (y3o n)
 | 0=>FnOk.none (fun _ _ _ _ ⟨_,_,h,_⟩=>absurd h (Nat.not_lt_zero _))
 | n + 1=>by
  have ih:=z7h T n
  refine T.F_partings_to.ok z6j (fun vs H Q E h=>?_) (fun cdv Ar outer s H vs Q E hr h=>?_)
  ·obtain ⟨m,g,hm,rfl,hm24,hg,k⟩:=h
   rfl
  ·obtain ⟨m,g,hm,rfl,hm24,hg,k⟩:=h
   refine ⟨_,(z0e (z2z (z0w z7z (pv 0) z0i (z1d _))
      (z0f (z0p (z3r (z0a (z3f z0d) z0d)))) z1a)
     (z0e (z0t (i:=2) z6j.nd rfl (by first | exact Or.inl rfl | exact Or.inr rfl) (z3r z0d))
     (z0e (z5i PassesOwn.never rfl (y8q rfl T.b_range (z0a (z0o (zHq rfl) rfl T.b_min boot_min (z0a (pv 0) (z0a (pv 1) z0d))) (z0a z0i (z0a (zJj zAm z0i) z0d)))) (z2m (i:=3) z6j.nd rfl (by first | exact Or.inl rfl | exact Or.inr rfl))
      (z0f (z3n (z8b PySem.F.plainAttrs_list PySem.F.slot_list_extend PySem.F.type_list_extend zCk (pv 2) (z0a (z2p (ls:=["rest"]) (fr:=[("part",3)]) (z4w (z0b z1f) z8x rfl rfl (by decide +kernel)) rfl (z2q (z0j ih hr rfl T.g_partings_to T.F_partings_to.kp T.b_partings_to .nil z0s (z0a (z0v z8g (pv 0) (pv 3 (hv:=Or.inr (Or.inl rfl)))) (z0a (pv 3 (hv:=Or.inr (Or.inl rfl))) z0d)))) (fun _ _ _ _=>pgc 0 (by decide +kernel) rfl rfl) (fun _ _ _ _=>z3v) (fun _ _ _ _=>(z0v (zGf K rfl) (z3f (z0a (pvc (z0b z1f) 1) z0d)) (pvc (z0b z1f) 0)))) z0d)))))
     (z0f (z0p (pv 2)))))),?_⟩
   dsimp only [y9x]
   refine zAb (fun σ' H'=>m ≠ 0 /\ H' = H /\ σ' = [some (.int m),some (.int g),none,none]) (fun nx hnx=>?_) ?_
   ·refine ⟨_,rfl,rfl,_,rfl,?_⟩
    refine ite2 (fun h0=>?_) (fun h0=>hnx _ _ ⟨fun z=>h0 (by rw [z]; rfl),rfl,rfl⟩)
    have e0:m = 0:=by
     have:=of_decide_eq_true h0
     injection this with this
     omega
    refine ⟨by show 0 <= sizeLine; decide,fun e he=>⟨by show 1 <= sizeLine; decide,fun l hl=>?_⟩⟩
    refine k l [.ref e] _ z0c ?_ ((Same.new he).trans (Same.new hl)) ((Same.new he).free hl)
    rw [z1j,if_pos e0]
    exact .cons ⟨e,rfl,Same.new hl _ _ z0c⟩ .nil
   rintro σ1 H1 ⟨m0,rfl,rfl⟩
   refine ⟨by show 0 <= sizeLine; decide,fun l hl=>?_⟩
   have hmin:(if (g:Int) < (m:Int) then (g:Int) else (m:Int)) = ((min m g:Nat):Int):=by split <;> omega
   refine ⟨_,rfl,_,rfl,_,_,rfl,_,rfl,min m g,?_,by omega,y2f (n:=min m g) (fun i σ' H'=>Same H1 H' /\ i <= min m g /\ ∃ xs v,σ' = [some (.int m),some (.int g),some (.ref l),v] /\ H' l = some (.lst xs) /\ All2 Tup1 H' (z8p n m (min m g) i) xs) ⟨Same.new hl,Nat.zero_le _,[],_,rfl,z0c,.nil⟩ ?_ ?_⟩
   ·show [V.int (if (g:Int) < (m:Int) then (g:Int) else (m:Int)),V.int 0,V.int (-1)] = _
    rw [hmin]
   ·rintro i σ' H' hi ⟨s,_,xs,v,rfl,gl,h2⟩
    have ep:((min m g:Nat):Int) - (i:Int) = ((min m g - i:Nat):Int):=by omega
    have em:(m:Int) - ((min m g - i:Nat):Int) = ((m - (min m g - i):Nat):Int):=by omega
    have hlx:xs.length <= 2 ^ (m - min m g + i):=by
     rw [<- h2.length]
     exact z9c (z5e n) (Nat.min_le_left _ _) i (by omega)
    rw [ep]
    refine ⟨_,rfl,.inl ⟨rfl,_,SqL.of gl⟩,_,rfl,_,rfl,_,_,rfl,rfl,_,rfl,m - (min m g - i),min m g - i,by omega,?_,by omega,by omega,fun l2 xs2 H2 gl2 h3 s2 nl2=>?_⟩
    ·show [V.int ((m:Int) - ((min m g - i:Nat):Int)),V.int ((min m g - i:Nat):Int)] = _
     rw [em]
    have hlx2:xs2.length <= 2 ^ (m - min m g + i):=by
     rw [<- h3.length]
     have e1:m - (min m g - i) = m - min m g + i:=by omega
     exact Nat.le_trans (z5e n (m - (min m g - i)) (min m g - i)) (by rw [e1]; exact Nat.le_refl _)
    have hpw:2 ^ (m - min m g + i) + 2 ^ (m - min m g + i) <= sizeLine:=by
     have:2 ^ (m - min m g + i) + 2 ^ (m - min m g + i) = 2 ^ (m - min m g + i + 1):=by rw [Nat.pow_succ]; omega
     rw [this]
     exact y8w (by omega)
    refine ⟨l2,rfl,⟨_,SqL.of gl2⟩,z3t (xs:=xs2) (fun j ys σ' H3=>Same H2 H3 /\ (∃ v,σ' = [v,some (.int ((min m g - i:Nat):Int))]) /\ All2 Tup1 H3 (((z2y n (m - (min m g - i)) (min m g - i)).take j).map (((min m g - i:Nat):Int) :: ·)) ys) ⟨fun _ _ h=>h,⟨_,rfl⟩,.nil⟩ ?_ ?_ ?_⟩
    ·rintro j ys σ' H3 hj ⟨s3,_,h4⟩
     refine ⟨SqL.of (s3 _ _ gl2),?_⟩
     rw [<- h4.length,List.length_map,List.length_take]
     omega
    ·rintro j x ys σ' H3 hx ⟨s3,⟨v,rfl⟩,h4⟩
     obtain ⟨hs,hhs,q,rfl,hq⟩:=h3.get hx
     have hj:=(List.getElem?_eq_some_iff.mp hhs).1
     have eh:=(List.getElem?_eq_some_iff.mp hhs).2
     refine ⟨_,rfl,by show 1 <= sizeLine; decide,fun t ht=>⟨_,rfl,?_⟩⟩
     have hl1:hs.length <= 100:=by
      have:=zCz _ _ _ hs (List.mem_of_getElem? hhs)
      omega
     refine zBo (Same.new ht _ _ (s3 _ _ hq)) z0c hl1 fun v H4 hv s4=>?_
     have sn:=(Same.new (o:=.tup [V.int ((min m g - i:Nat):Int)]) ht).trans s4
     refine ⟨s3.trans sn,⟨_,rfl⟩,?_⟩
     rw [List.take_succ_eq_append_getElem hj,List.map_append,eh]
     exact (h4.mv sn.tups).snoc hv
    ·rintro ys σ' H3 ⟨s3,_,h4⟩ l3 hl3
     have et:(z2y n (m - (min m g - i)) (min m g - i)).take xs2.length = z2y n (m - (min m g - i)) (min m g - i):=by rw [<- h3.length,List.take_length]
     rw [et] at h4
     have hly:ys.length = xs2.length:=by rw [<- h4.length,List.length_map,h3.length]
     have sn:=s2.trans (s3.trans (Same.new (o:=.lst ys) hl3))
     refine ⟨l,l3,xs,ys,rfl,rfl,sn _ _ gl,z0c,by omega,?_⟩
     have tn:Tups H' (upd (upd H3 l3 (.lst ys)) l (.lst (xs ++ ys))):=sn.tups.trans (Tups.set (sn _ _ gl))
     have tn3:Tups H3 (upd (upd H3 l3 (.lst ys)) l (.lst (xs ++ ys))):=(Same.new hl3).tups.trans (Tups.set (sn _ _ gl))
     refine ⟨fun b o e=>?_,by omega,xs ++ ys,_,rfl,z0c,?_⟩
     ·rw [z0n (z0r e hl)]
      exact sn _ _ (s _ _ e)
     ·rw [z9w]
      exact (h2.mv tn).append (h4.mv tn3)
   ·rintro σ' H' ⟨s,_,xs,v,rfl,gl,h2⟩
    refine ⟨_,rfl,k l xs H' gl ?_ s hl⟩
    rw [z1j,if_neg m0]
    exact h2
theorem zEa (T:Txt K mg A):FnOk P w K mg base CX0 26 A.a_partings_to A.fd_partings_to ["n", "greatest"] (y3o 26):=z7h T 26
def zFx:List Str:=["n"]
theorem zEe:FnScope zFx ["n"] (z0b z1w):=⟨rfl,rfl,rfl,by decide +kernel,rfl,by decide +kernel,by decide +kernel⟩
def zEg (A:Adr):Sp:=fun vs H Q E=>∃ (n:Int),vs = [.int n] /\ ((∃ m:Nat,n = m /\ m <= 24 /\ ∀ (l:Addr) (xs:List V) (H':Hp),H' l = some (.lst xs) -> All2 Tup1 H' (z2y 26 m m) xs -> Same H H' -> H l = none -> Q (.ref l) H') \/ False)
theorem zDz (T:Txt K mg A):FnOk P w K mg base CX0 27 A.a_partings_of A.fd_partings_of ["n"] (zEg A):=by
 refine T.F_partings_of.ok zEe (fun vs H Q E h=>?_) (fun cdv Ar outer s H vs Q E hr h=>?_)
 ·obtain ⟨n,rfl,h⟩:=h
  rfl
 ·obtain ⟨n,rfl,h⟩:=h
  refine ⟨_,(z0e (z3n (z0j (z4h T) (hr.mono (by decide)) rfl T.g_refuse_beyond T.F_refuse_beyond.kp T.b_refuse_beyond .nil z0s (z0a (pv 0) (z0a (zGj (v:=.int 24) rfl T.v_MOST_LISTED.choose_spec ⟨_,rfl⟩) z0d))))
    (z0f (z0p (z0j (zEa T) (hr.mono (by decide)) rfl T.g_partings_to T.F_partings_to.kp T.b_partings_to .nil z0s (z0a (pv 0) (z0a (pv 0) z0d)))))),?_⟩
  rcases h with ⟨m,rfl,hm,k⟩ | z
  ·refine ⟨_,rfl,(m:Int),24,rfl,⟨by decide,by decide⟩,.inl ⟨by omega,by omega,?_⟩⟩
   exact ⟨_,rfl,_,rfl,m,m,by omega,rfl,hm,by omega,k⟩
  ·exact z.elim
def zIs:List Str:=["rule", "n"]
theorem y5h:FnScope zIs ["rule", "n"] (z0b z2l):=⟨rfl,rfl,rfl,by decide +kernel,rfl,by decide +kernel,by decide +kernel⟩
def y5s (A:Adr):Sp:=fun vs H Q E=>∃ (p:Addr) (rs:List V) (rule:List (List Int)) (n:Int),vs = [.ref p,.int n] /\ H p = some (.tup rs) /\ All2 Tup1 H rule rs /\ rule.length <= 60 /\
 ((∃ m:Nat,n = m /\ m <= 24 /\ ∀ (l:Addr) (xs:List V) (H':Hp),H' l = some (.lst xs) -> All2 Tup1 H' (z2a rule m) xs -> Same H H' -> H l = none -> Q (.ref l) H') \/ False)
theorem y4v (T:Txt K mg A):FnOk P w K mg base CX0 28 A.a_kept_of A.fd_kept_of ["rule", "n"] (y5s A):=by
 refine T.F_kept_of.ok y5h (fun vs H Q E h=>?_) (fun cdv Ar outer s H vs Q E hr h=>?_)
 ·obtain ⟨p,rs,rule,n,rfl,hp,h2,hln,h⟩:=h
  rfl
 ·obtain ⟨p,rs,rule,n,rfl,hp,h2,hln,h⟩:=h
  refine ⟨_,(z0f (z0p (z2p (ls:=["heap"]) (fr:=[("rule",0)]) (z4w (z0b z2l) zIs rfl rfl (by decide +kernel)) rfl (z2q (z0j (zDz T) (hr.mono (by decide)) rfl T.g_partings_of T.F_partings_of.kp T.b_partings_of .nil z0s (z0a (pv 1) z0d))) (fun _ _ _ _=>pgc 0 (by decide +kernel) rfl rfl) (fun _ _ _ _=>y3d (zJm K rfl (z0j (y2u T) (hr.mono (by decide)) (glc (z0b z2l)) T.g_keeps T.F_keeps.kp T.b_keeps .nil z0s (z0a (pvc (z0b z2l) 1) (z0a (pvc (z0b z2l) 0) z0d))) (fun _=>rfl))) (fun _ _ _ _=>(pvc (z0b z2l) 0))))),?_⟩
  rcases h with ⟨m,rfl,hm,k⟩ | z
  ·refine ⟨_,rfl,(m:Int),rfl,.inl ⟨m,rfl,hm,fun l xs H1 gl h1 s1 nl=>?_⟩⟩
   have hlx:xs.length <= sizeLine:=by rw [<- h1.length]; exact Nat.le_trans (z5e _ _ _) (y8w hm)
   refine ⟨l,rfl,⟨_,SqL.of gl⟩,z3t (xs:=xs) (fun i ys σ' H'=>Same H1 H' /\ (∃ v,σ' = [v,some (.ref p)]) /\ ys.length <= i /\ All2 Tup1 H' (((z2y 26 m m).take i).filter fun h=>(z1m rule h).isNone) ys) ⟨fun _ _ h=>h,⟨_,rfl⟩,Nat.le_refl _,.nil⟩ ?_ ?_ ?_⟩
   ·rintro i ys σ' H' hi ⟨s,_,hy,_⟩
    exact ⟨SqL.of (s _ _ gl),by omega⟩
   ·rintro i x ys σ' H' hx ⟨s,⟨v,rfl⟩,hy,h3⟩
    obtain ⟨hs,hhs,q,rfl,hq⟩:=h1.get hx
    have sn:=s1.trans s
    refine ⟨_,rfl,_,rfl,p,q,rs,rule,hs,rfl,sn _ _ hp,h2.mv sn.tups,s _ _ hq,hln,fun H2 s2=>⟨_,rfl,?_⟩⟩
    refine ite2 (fun hc=>⟨_,rfl,s.trans s2,⟨_,rfl⟩,by simp; omega,?_⟩) (fun hc=>⟨s.trans s2,⟨_,rfl⟩,by omega,?_⟩)
    ·rw [z6q _ hhs,if_pos hc]
     exact (h3.mv s2.tups).snoc ⟨q,rfl,s2 _ _ (s _ _ hq)⟩
    ·rw [z6q _ hhs,if_neg hc,List.append_nil]
     exact h3.mv s2.tups
   ·rintro ys σ' H' ⟨s,_,hy,h3⟩ l2 hl2
    rw [<- h1.length,List.take_length] at h3
    have sn:=s1.trans (s.trans (Same.new (o:=.lst ys) hl2))
    exact k l2 ys _ z0c (h3.mv (Same.new hl2).tups) sn ((s1.trans s).free hl2)
  ·exact z.elim
def yCa:List Str:=["heap"]
theorem y9h:FnScope yCa ["heap"] (z0b z5c):=⟨rfl,rfl,rfl,by decide +kernel,rfl,by decide +kernel,by decide +kernel⟩
def y9r (K:PySem.W.Frag):Sp:=fun vs H Q _=>∃ (a:Addr) (ns:List Int),vs = [.ref a] /\ SqT K H a (ns.map V.int) /\ Q (.int ns.sum) H
theorem z8z (T:Txt K mg A):FnOk P w K mg base CX0 1 A.a_sum_of A.fd_sum_of ["heap"] (y9r K):=by
 refine T.F_sum_of.ok y9h (fun vs H Q E h=>?_) (fun cdv Ar outer s H vs Q E hr h=>?_)
 ·obtain ⟨a,ns,rfl,hS,k⟩:=h
  rfl
 ·obtain ⟨a,ns,rfl,hS,k⟩:=h
  refine ⟨_,(z0f (z0p (z0o (zFm rfl) rfl T.b_sum boot_sum (z0a (pv 0) z0d)))),?_⟩
  exact ⟨_,rfl,a,ns,rfl,.inr hS,k⟩
def zCq:List Str:=["rule", "heap", "number"]
theorem z6x:FnScope zCq ["rule", "heap"] (z0b z1h):=⟨rfl,rfl,rfl,by decide +kernel,rfl,by decide +kernel,by decide +kernel⟩
def y9s:Sp:=fun vs H Q _=>∃ (p q:Addr) (rs:List V) (rule:List (List Int)) (hs:List Int),vs = [.ref p,.ref q] /\ H p = some (.tup rs) /\ All2 Tup1 H rule rs /\ H q = some (.tup (hs.map V.int)) /\ rule.length <= 60 /\ z1m rule hs = none /\
 ∀ (H':Hp),Same H H' -> Q .non H'
theorem zAq (T:Txt K mg A):FnOk P w K mg base CX0 5 A.a_refuse_unkept A.fd_refuse_unkept ["rule", "heap"] y9s:=by
 refine T.F_refuse_unkept.ok z6x (fun vs H Q E h=>?_) (fun cdv Ar outer s H vs Q E hr h=>?_)
 ·obtain ⟨p,q,rs,rule,hs,rfl,hp,h2,hq,hln,h0,k⟩:=h
  rfl
 ·obtain ⟨p,q,rs,rule,hs,rfl,hp,h2,hq,hln,h0,k⟩:=h
  refine ⟨_,(z0e (z0t (i:=2) z6x.nd rfl (by first | exact Or.inl rfl | exact Or.inr rfl) (z0j (z8o T) (hr.mono (by decide)) rfl T.g_first_in T.F_first_in.kp T.b_first_in .nil z0s (z0a (pv 0) (z0a (pv 1) z0d))))
    (z0f (z2z (z0w y8m (pv 2) z6p (z1d _))
     (z0f z4z) z1a))),?_⟩
  refine ⟨_,rfl,_,rfl,p,q,rs,rule,hs,rfl,hp,h2,hq,hln,fun H' s=>?_⟩
  rw [h0]
  exact ⟨_,rfl,rfl,_,rfl,iteF (k H' s)⟩
def zDu:List Str:=["self"]
theorem zDf:FnScope zDu ["self"] (z0b z1n):=⟨rfl,rfl,rfl,by decide +kernel,rfl,by decide +kernel,by decide +kernel⟩
def zJv (A:Adr):Sp:=fun vs H Q _=>∃ (x dx p q:Addr),vs = [.ref x] /\ H x = some (.ins A.c_Beside dx (fl2 p q)) /\ ∀ (t:Addr) (H':Hp),H' t = some (.tup [.ref p,.ref q]) -> Same H H' -> Q (.ref t) H'
theorem z4q (T:Txt K mg A):FnOk P w K mg base CX0 1 A.a_Beside_rules A.fd_Beside_rules ["self"] (zJv A):=by
 refine T.F_Beside_rules.ok zDf (fun vs H Q E h=>?_) (fun cdv Ar outer s H vs Q E hr h=>?_)
 ·obtain ⟨x,dx,p,q,rfl,hx,k⟩:=h
  rfl
 ·obtain ⟨x,dx,p,q,rfl,hx,k⟩:=h
  refine ⟨_,(z0f (z0p (z3f (z0a (y2z (pv 0) rfl) (z0a (y2z (pv 0) rfl) z0d))))),?_⟩
  exact ⟨_,rfl,x,A.c_Beside,dx,_,_,rfl,hx,T.cl_Beside,T.na_Beside_one,y7a _ _,_,rfl,x,A.c_Beside,dx,_,_,rfl,hx,T.cl_Beside,T.na_Beside_other,zHz _ _,by show 2 <= sizeLine; decide,fun t ht=>k t _ z0c (Same.new ht)⟩
def yBz:List Str:=["sided", "place"]
theorem y9g:FnScope yBz ["sided", "place"] (z0b z5b):=⟨rfl,rfl,rfl,by decide +kernel,rfl,by decide +kernel,by decide +kernel⟩
def y9l (A:Adr):Sp:=fun vs H Q _=>∃ (x p q:Addr) (rs qs:List V) (one other:List (List Int)) (pl:Plc) (v:V),vs = [.ref x,v] /\ Sided A.c_Beside H x p q rs qs one other /\ z3z pl v H /\ ∀ H',Same H H' -> Q (.bl (zAh other pl)) H'
theorem y8i (T:Txt K mg A):FnOk P w K mg base CX0 6 A.a_is_end A.fd_is_end ["sided", "place"] (y9l A):=by
 refine T.F_is_end.ok y9g (fun vs H Q E h=>?_) (fun cdv Ar outer s H vs Q E hr h=>?_)
 ·obtain ⟨x,p,q,rs,qs,one,other,pl,v,rfl,S,hv,k⟩:=h
  rfl
 ·obtain ⟨x,p,q,rs,qs,one,other,pl,v,rfl,S,hv,k⟩:=h
  refine ⟨_,(z0f (z0p (z8i (z5f z7z (z2j z2x (pv 1) z0i (fun _ _=>rfl)) z0i (z1d _)) (zDa (z0j (y2u T) (hr.mono (by decide)) rfl T.g_keeps T.F_keeps.kp T.b_keeps .nil z0s (z0a (z2j z2x (z9d (pv 0) T.cl_Beside T.mt_Beside_rules (z4q T) (hr.mono (by decide)) T.b_Beside_rules .nil z0s) z0i (fun _ _=>rfl)) (z0a (z2j z2x (pv 1) z0i (fun _ _=>rfl)) z0d))))))),?_⟩
  obtain ⟨t,hh,hc,rfl,g1,g2,g3⟩:=hv
  obtain ⟨sd,heap,ch⟩:=pl
  dsimp only at g1 g2 g3
  obtain ⟨dx,hx⟩:=S.ob
  refine ⟨_,rfl,t,_,_,_,rfl,rfl,SqT.of g1,z1l (j:=0) rfl,rfl,_,rfl,?_⟩
  refine ite2 (fun h1=>?_) (fun h1=>?_)
  ·have e:sd = 2:=V.int.inj (of_decide_eq_true h1)
   refine ⟨_,rfl,x,dx,_,rfl,hx,y2d _ _ (by decide +kernel) (by decide +kernel),x,dx,p,q,rfl,hx,fun t2 H2 ht2 s2=>?_⟩
   refine ⟨t2,_,1,_,rfl,rfl,SqT.of ht2,z1l (j:=1) rfl,_,rfl,t,_,_,_,rfl,rfl,SqT.of (s2 _ _ g1),z1l (j:=1) rfl,?_⟩
   have l6:=S.l6
   have ln:=S.ln
   refine ⟨q,hh,qs,other,heap,rfl,s2 _ _ S.hq,S.g2.mv s2.tups,s2 _ _ g2,by omega,fun H3 s3=>?_⟩
   have:=k H3 (s2.trans s3)
   unfold zAh at this
   rw [show decide ((sd,heap,ch).1 = 2) = true from decide_eq_true e,Bool.true_and] at this
   exact this
  ·have e:¬ sd = 2:=fun z=>h1 (decide_eq_true (by rw [z]))
   have:=k H (Same.refl _)
   unfold zAh at this
   rw [show decide ((sd,heap,ch).1 = 2) = false from decide_eq_false e,Bool.false_and] at this
   exact this
def y7z:List Str:=["parts", "part"]
theorem zFe:FnScope y7z ["parts"] (z0b z4b):=⟨rfl,rfl,rfl,by decide +kernel,rfl,by decide +kernel,by decide +kernel⟩
def y5q:Sp:=fun vs H Q _=>∃ (a:Addr) (ns:List Int),vs = [.ref a] /\ H a = some (.tup (ns.map V.int)) /\ ns.length < 64 /\ (∀ x ∈ ns,1 <= x) /\
 ∀ (p:Addr) (H':Hp),H' p = some (.tup ((z6u ns).map V.int)) -> Same H H' -> Q (.ref p) H'
theorem y4u (T:Txt K mg A):FnOk P w K mg base CX0 1 A.a_heap_of A.fd_heap_of ["parts"] y5q:=by
 refine T.F_heap_of.ok zFe (fun vs H Q E h=>?_) (fun cdv Ar outer s H vs Q E hr h=>?_)
 ·obtain ⟨a,ns,rfl,ha,hl,hp,k⟩:=h
  rfl
 ·obtain ⟨a,ns,rfl,ha,hl,hp,k⟩:=h
  refine ⟨_,(z0e (z5i PassesOwn.never rfl (z9e (pv 0)) (z2m (i:=1) zFe.nd rfl (by first | exact Or.inl rfl | exact Or.inr rfl))
     (z0f (z2z (z0w y5a (pv 1) z0i (z1d _))
     (z0f z4z) z1a)))
    (z0f (z0p (z5r z4o rfl T.b_tuple boot_tuple (z0a (y3c rfl T.b_sorted (pv 0)) z0d))))),?_⟩
  refine ⟨_,rfl,a,rfl,⟨_,SqT.of ha⟩,zBw (xs:=ns.map V.int) (fun i σ' H'=>H' = H /\ ∃ v,σ' = [some (.ref a),v]) ⟨rfl,_,rfl⟩ ?_ ?_ ?_⟩
  ·rintro i σ' H' _ ⟨rfl,_⟩
   exact SqT.of ha
  ·rintro i x σ' H' hx ⟨rfl,v,rfl⟩
   obtain ⟨z,hz,rfl⟩:=z5q hx
   have h1:=hp z (List.mem_of_getElem? hz)
   refine ⟨_,rfl,_,_,rfl,rfl,_,rfl,?_⟩
   refine ite2 (fun hlt=>absurd (of_decide_eq_true hlt) (by omega)) (fun _=>⟨rfl,_,rfl⟩)
  ·rintro σ' H' ⟨rfl,v,rfl⟩
   refine ⟨_,rfl,a,ns,rfl,.inr (SqT.of ha),hl,fun ns' p4 hperm hord hp4=>?_⟩
   refine ⟨p4,_,rfl,.inl ⟨SqL.of z0c,fun p5 hp5=>?_⟩⟩
   have e:ns' = z6u ns:=y3m hperm hord
   subst e
   exact k p5 _ z0c ((Same.new hp4).trans (Same.new hp5))
def yJp:List Str:=["one", "other"]
theorem yIl:FnScope yJp ["one", "other"] (z0b zEb):=⟨rfl,rfl,rfl,by decide +kernel,rfl,by decide +kernel,by decide +kernel⟩
def yIp:Sp:=fun vs H Q _=>∃ (a b:Addr) (ns ms:List Int),vs = [.ref a,.ref b] /\ H a = some (.tup (ns.map V.int)) /\ H b = some (.tup (ms.map V.int)) /\ (ns ++ ms).length < 64 /\ (∀ x ∈ ns ++ ms,1 <= x) /\
 ∀ (p:Addr) (H':Hp),H' p = some (.tup ((z6u (ns ++ ms)).map V.int)) -> Same H H' -> Q (.ref p) H'
theorem yHi (T:Txt K mg A):FnOk P w K mg base CX0 2 A.a_put A.fd_put ["one", "other"] yIp:=by
 refine T.F_put.ok yIl (fun vs H Q E h=>?_) (fun cdv Ar outer s H vs Q E hr h=>?_)
 ·obtain ⟨a,b,ns,ms,rfl,ha,hb,hl,hp,k⟩:=h
  rfl
 ·obtain ⟨a,b,ns,ms,rfl,ha,hb,hl,hp,k⟩:=h
  refine ⟨_,(z0f (z0p (z0j (y4u T) (hr.mono (by decide)) rfl T.g_heap_of T.F_heap_of.kp T.b_heap_of .nil z0s (z0a (z0v y1i (pv 0) (pv 1)) z0d)))),?_⟩
  refine ⟨_,rfl,_,rfl,yEl ha hb (Nat.le_trans (Nat.le_of_lt hl) (by decide)) fun v H1 hv s1=>?_⟩
  obtain ⟨q,rfl,hq⟩:=hv
  exact ⟨q,ns ++ ms,rfl,hq,hl,hp,fun p H2 hp2 s2=>k p H2 hp2 (s1.trans s2)⟩
def yFh:List Str:=["one", "other", "parts", "part"]
theorem zGt:FnScope yFh ["one", "other"] (z0b z6i):=⟨rfl,rfl,rfl,by decide +kernel,rfl,by decide +kernel,by decide +kernel⟩
def yDc (A:Adr):Sp:=fun vs H Q _=>∃ (a b:Addr) (ns ms:List Int),vs = [.ref a,.ref b] /\ H a = some (.tup (ns.map V.int)) /\ H b = some (.tup (ms.map V.int)) /\ ms.length <= 10000 /\ lies ns ms = true /\
 (∀ (p:Addr) (H':Hp),H' p = some (.tup ((z3o ns ms).map V.int)) -> Same H H' -> Q (.ref p) H')
theorem yCe (T:Txt K mg A):FnOk P w K mg base CX0 3 A.a_taken A.fd_taken ["one", "other"] (yDc A):=by
 refine T.F_taken.ok zGt (fun vs H Q E h=>?_) (fun cdv Ar outer s H vs Q E hr h=>?_)
 ·obtain ⟨a,b,ns,ms,rfl,ha,hb,hl,hc,k⟩:=h
  rfl
 ·obtain ⟨a,b,ns,ms,rfl,ha,hb,hl,hc,k⟩:=h
  refine ⟨_,(z0e (z2z (z7m (z2b (z0j (z9t T) (hr.mono (by decide)) rfl T.g_lies_in T.F_lies_in.kp T.b_lies_in .nil z0s (z0a (pv 0) (z0a (pv 1) z0d))) (fun _=>rfl)))
     (z0f z4z) z1a)
    (z0e (z0t (i:=2) zGt.nd rfl (by first | exact Or.inl rfl | exact Or.inr rfl) (z5r zHp rfl T.b_list boot_list (z0a (pv 1) z0d)))
    (z0e (z5i PassesOwn.never rfl (z9e (pv 0)) (z2m (i:=3) zGt.nd rfl (by first | exact Or.inl rfl | exact Or.inr rfl))
     (z0f (z3n (z8b PySem.F.plainAttrs_list PySem.F.slot_list_remove PySem.F.type_list_remove y7x (pv 2) (z0a (pv 3) z0d)))))
    (z0f (z0p (z5r z4o rfl T.b_tuple boot_tuple (z0a (pv 2) z0d))))))),?_⟩
  refine ⟨_,rfl,_,rfl,a,b,ns,ms,rfl,ha,hb,_,rfl,?_⟩
  rw [hc]
  refine iteF ⟨_,rfl,b,_,rfl,.inr (SqT.of hb),fun l hl0=>?_⟩
  have s0:=Same.new (o:=.lst (ms.map V.int)) hl0
  refine ⟨_,rfl,a,rfl,⟨_,SqT.of (s0 _ _ ha)⟩,zBw (xs:=ns.map V.int) (fun i σ' H'=>(∃ v,σ' = [some (.ref a),some (.ref b),some (.ref l),v]) /\ Same H H' /\ H' l = some (.lst ((z3o (ns.take i) ms).map V.int))) ⟨⟨_,rfl⟩,s0,z0c⟩ ?_ ?_ ?_⟩
  ·rintro i σ' H' _ ⟨_,s',_⟩
   exact SqT.of (s' _ _ ha)
  ·rintro i x σ' H' hx ⟨⟨v,rfl⟩,s',gl⟩
   obtain ⟨z,hz,rfl⟩:=z5q hx
   have hi:=(List.getElem?_eq_some_iff.mp hz).1
   have ez:=(List.getElem?_eq_some_iff.mp hz).2
   refine ⟨_,rfl,.inl ⟨rfl,_,SqL.of gl⟩,_,rfl,l,_,z,rfl,rfl,gl,yGj hc hz,⟨_,rfl⟩,s'.updN hl0,?_⟩
   rw [z0c,List.take_succ_eq_append_getElem hi,ez,y0b]
  ·rintro σ' H' ⟨⟨v,rfl⟩,s',gl⟩
   rw [List.length_map,List.take_length] at gl
   exact ⟨_,rfl,l,_,rfl,.inl ⟨SqL.of gl,fun p hp=>k p _ z0c (s'.trans (Same.new hp))⟩⟩
def zDx:List Str:=["heaps", "seen", "heap", "part"]
theorem z4s:FnScope zDx ["heaps"] (z0b z1q):=⟨rfl,rfl,rfl,by decide +kernel,rfl,by decide +kernel,by decide +kernel⟩
def y9t:Sp:=fun vs H Q _=>∃ (a:Addr) (xs:List V) (ls:List (List Int)),vs = [.ref a] /\ H a = some (.lst xs) /\ All2 Tup1 H ls xs /\ ((∃ D:List Int,D.length < 64 /\ ∀ x ∈ ls.flatten,x ∈ D) /\ ls.flatten.length < 1000) /\
 ∀ (l:Addr) (us:List Int) (H':Hp),H' l = some (.lst (us.map V.int)) -> us.Nodup -> us.Pairwise (· >= ·) -> (∀ x,x ∈ us ↔ x ∈ ls.flatten) -> us.length < 64 -> Same H H' -> H l = none -> Q (.ref l) H'
theorem zCw (T:Txt K mg A):FnOk P w K mg base CX0 1 A.a_unlike_parts A.fd_unlike_parts ["heaps"] y9t:=by
 refine T.F_unlike_parts.ok z4s (fun vs H Q E h=>?_) (fun cdv Ar outer s H vs Q E hr h=>?_)
 ·obtain ⟨a,xs,ls,rfl,ha,h2,⟨⟨D,hD,hDm⟩,hln⟩,k⟩:=h
  rfl
 ·obtain ⟨a,xs,ls,rfl,ha,h2,⟨⟨D,hD,hDm⟩,hln⟩,k⟩:=h
  refine ⟨_,(z0e (z0t (i:=1) z4s.nd rfl (by first | exact Or.inl rfl | exact Or.inr rfl) yCh)
    (z0e (z5i PassesOwn.never rfl (z2q (pv 0)) (z2m (i:=2) z4s.nd rfl (by first | exact Or.inl rfl | exact Or.inr rfl))
     (z0f (z5i PassesOwn.never rfl (z9e (pv 2)) (z2m (i:=3) z4s.nd rfl (by first | exact Or.inl rfl | exact Or.inr rfl))
     (z0f (yFr (huR hr) (pv 1) (pv 3) z8a rfl)))))
    (z0f (z0p (yCj rfl rfl T.b_sorted (pv 1)))))),?_⟩
  refine fun d hd=>?_
  have hlc:∀ i j (x:List Int),ls[i]? = some x -> ((ls.take i).flatten ++ x.take j).length < 1000:=fun i j x hx=>by
   have hi:=(List.getElem?_eq_some_iff.mp hx).1
   have ex:=(List.getElem?_eq_some_iff.mp hx).2
   have e1:ls.flatten = (ls.take i).flatten ++ (x ++ (ls.drop (i + 1)).flatten):=by
    conv=>lhs; rw [<- List.take_append_drop i ls]
    rw [List.flatten_append,List.drop_eq_getElem_cons hi,ex,List.flatten_cons]
   rw [e1] at hln
   simp only [List.length_append,List.length_take] at hln ⊢
   omega
  have hlen:=h2.length
  refine ⟨_,rfl,a,rfl,⟨_,SqL.of (Same.new hd _ _ ha)⟩,z8t (xs:=xs) (fun i σ' H'=>SeenU H H' d (ls.take i).flatten /\ ∃ v w,σ' = [some (.ref a),some (.ref d),v,w]) ⟨⟨⟨[],[],z0c,rfl,.nil,Nat.le_refl _,fun x=>Iff.rfl⟩,Same.new hd,hd⟩,_,_,rfl⟩ ?_ ?_ ?_⟩
  ·rintro i σ' H' _ ⟨S,_⟩
   exact SqL.of (S.sm _ _ ha)
  ·rintro i x σ' H' hx ⟨S,v,w',rfl⟩
   obtain ⟨hs,hhs,q,rfl,hq⟩:=h2.get hx
   refine ⟨_,rfl,q,rfl,⟨_,SqT.of (S.sm _ _ hq)⟩,zBw (xs:=hs.map V.int) (fun j σ' H'=>SeenU H H' d ((ls.take i).flatten ++ hs.take j) /\ ∃ w,σ' = [some (.ref a),some (.ref d),some (.ref q),w]) ⟨by rw [List.take_zero,List.append_nil]; exact S,_,rfl⟩ ?_ ?_ ?_⟩
   ·rintro j σ' H2 _ ⟨S2,_⟩
    exact SqT.of (S2.sm _ _ hq)
   ·rintro j x σ' H2 hx2 ⟨S2,w2,rfl⟩
    obtain ⟨z,hz,rfl⟩:=z5q hx2
    have hj:=(List.getElem?_eq_some_iff.mp hz).1
    have ez:=(List.getElem?_eq_some_iff.mp hz).2
    obtain ⟨H3,hp,S3⟩:=S2.put (z:=z) (by have:=hlc i j hs hhs; omega)
    refine ⟨_,rfl,_,rfl,d,H3,rfl,hp,?_,_,rfl⟩
    rw [List.take_succ_eq_append_getElem hj,ez,<- List.append_assoc]
    exact S3
   ·rintro σ' H2 ⟨S2,w2,rfl⟩
    rw [List.length_map,List.take_length] at S2
    have hi:=(List.getElem?_eq_some_iff.mp hhs).1
    have ez:=(List.getElem?_eq_some_iff.mp hhs).2
    refine ⟨?_,_,_,rfl⟩
    rw [List.take_succ_eq_append_getElem hi,List.flatten_append,ez]
    simpa using S2
  ·rintro σ' H2 ⟨S2,v,w2,rfl⟩
   rw [<- hlen,List.take_length] at S2
   obtain ⟨⟨kvs,ns,hd2,hk,hnd,hn,hm⟩,sm,nw⟩:=S2
   have hlD:ns.length <= D.length:=zJa hnd fun x hx=>hDm x ((hm x).mp hx)
   refine ⟨_,rfl,d,kvs,ns,rfl,hd2,hk,by omega,fun us l nd hperm hord hl=>?_⟩
   exact k l us _ z0c (hperm.nodup_iff.mpr nd) hord (fun x=>by rw [hperm.mem_iff,hm]) (by rw [hperm.length_eq]; omega) (Same.trans sm (Same.new hl)) (Same.free sm hl)
def y2o:List Str:=["heaps", "parts", "part"]
theorem zDh:FnScope y2o ["heaps"] (z0b z3s):=⟨rfl,rfl,rfl,by decide +kernel,rfl,by decide +kernel,by decide +kernel⟩
def y9m:Sp:=fun vs H Q _=>∃ (a:Addr) (xs:List V) (ls:List (List Int)),vs = [.ref a] /\ H a = some (.lst xs) /\ All2 Tup1 H ls xs /\ ((∃ D:List Int,D.length < 64 /\ ∀ x ∈ ls.flatten,x ∈ D) /\ ls.flatten.length < 1000) /\ ls.length <= 60 /\
 ∀ (p:Addr) (ms:List Int) (H':Hp),H' p = some (.tup (ms.map V.int)) -> z6z ls ms -> ms.length <= 100000 -> Same H H' -> H p = none -> Q (.ref p) H'
theorem y8j (T:Txt K mg A):FnOk P w K mg base CX0 2 A.a_joined A.fd_joined ["heaps"] y9m:=by
 refine T.F_joined.ok zDh (fun vs H Q E h=>?_) (fun cdv Ar outer s H vs Q E hr h=>?_)
 ·obtain ⟨a,xs,ls,rfl,ha,h2,hln,hls,k⟩:=h
  rfl
 ·obtain ⟨a,xs,ls,rfl,ha,h2,hln,hls,k⟩:=h
  refine ⟨_,(z0e (z0t (i:=1) zDh.nd rfl (by first | exact Or.inl rfl | exact Or.inr rfl) (z3r z0d))
    (z0e (z5i PassesOwn.never rfl (z2q (z0j (zCw T) (hr.mono (by decide)) rfl T.g_unlike_parts T.F_unlike_parts.kp T.b_unlike_parts .nil z0s (z0a (pv 0) z0d))) (z2m (i:=2) zDh.nd rfl (by first | exact Or.inl rfl | exact Or.inr rfl))
     (z0f (z3n (z8b PySem.F.plainAttrs_list PySem.F.slot_list_extend PySem.F.type_list_extend zCk (pv 1) (z0a (z0v zJe (z3r (z0a (pv 2 (hv:=Or.inr (Or.inl rfl))) z0d)) (z0o (zFl rfl) rfl T.b_max boot_max (z0a (z2p (ls:=["heap"]) (fr:=[("part",2)]) (z4w (z0b z3s) y2o rfl rfl (by decide +kernel)) rfl (z2q (pv 0)) (fun _ _ _ _=>pgc 0 (by decide +kernel) rfl rfl) (fun _ _ _ _=>z3v) (fun _ _ _ _=>(z0j (zGc T) (hr.mono (by decide)) (glc (z0b z3s)) T.g_often T.F_often.kp T.b_often .nil z0s (z0a (pvc (z0b z3s) 0) (z0a (pvc (z0b z3s) 1) z0d))))) z0d))) z0d)))))
    (z0f (z0p (z5r z4o rfl T.b_tuple boot_tuple (z0a (pv 1) z0d)))))),?_⟩
  refine ⟨by show 0 <= sizeLine; decide,fun pa hpa=>?_⟩
  have h2a:=h2.mv (Same.new (o:=.lst []) hpa).tups
  refine ⟨_,rfl,a,xs,ls,rfl,Same.new hpa _ _ ha,h2a,hln,fun l us H1 hl nd pw hm hul s1 nl=>?_⟩
  have s01:Same H H1:=(Same.new hpa).trans s1
  have npl:pa ≠ l:=z0r (z0c (H:=H) (a:=pa) (o:=.lst [])) nl
  refine ⟨l,rfl,⟨_,SqL.of hl⟩,z8t (xs:=us.map V.int) (fun i σ' H'=>(∀ b o,H1 b = some o -> b ≠ pa -> H' b = some o) /\ H' pa = some (.lst ((blow (maxC ls) (us.take i)).map V.int)) /\ (blow (maxC ls) (us.take i)).length <= 1000 * i /\ i <= 64 /\ ∃ v,σ' = [some (.ref a),some (.ref pa),v]) ⟨fun _ _ h _=>h,s1 _ _ z0c,Nat.le_refl _,Nat.zero_le _,_,rfl⟩ ?_ ?_ ?_⟩
  ·rintro i σ' H' _ ⟨kp,_⟩
   exact SqL.of (kp _ _ hl npl.symm)
  ·rintro i x σ' H' hx ⟨kp,gp,hle,hi64,v,rfl⟩
   obtain ⟨z,hz,rfl⟩:=z5q hx
   have hi:=(List.getElem?_eq_some_iff.mp hz).1
   have ez:=(List.getElem?_eq_some_iff.mp hz).2
   have ha':H' a = some (.lst xs):=kp _ _ (s01 _ _ ha) (z0r ha hpa)
   have t1:Tups H H':=fun b ys e=>kp _ _ (s01 _ _ e) (z0r e hpa)
   have h2':=h2.mv t1
   have zm:z ∈ ls.flatten:=(hm z).mp (List.mem_of_getElem? hz)
   refine ⟨_,rfl,.inl ⟨rfl,_,SqL.of gp⟩,_,rfl,by show 1 <= sizeLine; decide,fun l1 hl1=>?_⟩
   have h2b:=h2'.mv (Same.new (o:=.lst [V.int z]) hl1).tups
   have hab:=(Same.new (o:=.lst [V.int z]) hl1) _ _ ha'
   have gpb:=(Same.new (o:=.lst [V.int z]) hl1) _ _ gp
   generalize hHb:upd H' l1 (.lst [V.int z]) = Hb at h2b hab gpb
   have gl1:Hb l1 = some (.lst [V.int z]):=by rw [<- hHb]; exact z0c
   have sb:Same H' Hb:=by rw [<- hHb]; exact Same.new hl1
   refine ⟨_,rfl,a,rfl,⟨_,SqL.of hab⟩,z3t (xs:=xs) (fun j ys σ' H'=>H' = Hb /\ (∃ v,σ' = [v,some (.int z)]) /\ ys = ((ls.take j).map fun h=>((h.count z:Nat):Int)).map V.int) ⟨rfl,⟨_,rfl⟩,rfl⟩ ?_ ?_ ?_⟩
   ·rintro j ys σ' H'' hj ⟨rfl,_,rfl⟩
    refine ⟨SqL.of hab,?_⟩
    rw [List.length_map,List.length_map,List.length_take]
    exact z5h (by omega)
   ·rintro j x ys σ' H'' hx ⟨rfl,⟨v,rfl⟩,rfl⟩
    obtain ⟨hs,hhs,q,rfl,hq⟩:=h2b.get hx
    have hj:=(List.getElem?_eq_some_iff.mp hhs).1
    have eh:=(List.getElem?_eq_some_iff.mp hhs).2
    refine ⟨_,rfl,_,rfl,q,hs,z,rfl,hq,rfl,⟨_,rfl⟩,?_⟩
    rw [List.take_succ_eq_append_getElem hj,List.map_append,List.map_append,eh]
    rfl
   ·rintro ys σ' Hb ⟨rfl,_,rfl⟩ l2 hl2
    have elen:ls.take xs.length = ls:=by rw [<- h2.length,List.take_length]
    rw [elen]
    have hne:(ls.map fun h=>((h.count z:Nat):Int)) ≠ []:=fun e=>by
     have:ls = []:=List.map_eq_nil_iff.mp e
     rw [this] at zm
     cases zm
    refine ⟨l2,_,rfl,SqL.of z0c,hne,fun m hmx=>?_⟩
    have em:=zFv hmx
    have hM:maxC ls z <= 1000:=by
     have h1:=zIn ls z
     have h2:=List.count_le_length (a:=z) (l:=ls.flatten)
     omega
    refine ⟨l1,m,[V.int z],rfl,rfl,Same.new hl2 _ _ gl1,by omega,by omega,?_,fun l3 hl3=>?_⟩
    ·show 1 * m.toNat <= sizeLine
     refine Nat.le_trans (m:=1000) (by omega) (by decide)
    have er:(List.replicate m.toNat [V.int z]).flatten = (List.replicate (maxC ls z) z).map V.int:=by
     have:m.toNat = maxC ls z:=by omega
     rw [this]
     simp
    rw [er]
    have gp3:=(Same.new (o:=.lst ((List.replicate (maxC ls z) z).map V.int)) hl3) _ _ ((Same.new (o:=.lst ((ls.map fun h=>((h.count z:Nat):Int)).map V.int)) hl2) _ _ gpb)
    have sn:Same H' (upd (upd Hb l2 (.lst ((ls.map fun h=>((h.count z:Nat):Int)).map V.int))) l3 (.lst ((List.replicate (maxC ls z) z).map V.int))):=sb.trans ((Same.new hl2).trans (Same.new hl3))
    refine ⟨pa,l3,_,_,rfl,rfl,gp3,z0c,?_,?_⟩
    ·rw [List.length_map,List.length_map,List.length_replicate]
     refine Nat.le_trans (m:=1000 * 64 + 1000) ?_ (by decide)
     have:1000 * i <= 1000 * 64:=Nat.mul_le_mul_left _ hi64
     omega
    ·have eb:blow (maxC ls) (us.take (i + 1)) = blow (maxC ls) (us.take i) ++ List.replicate (maxC ls z) z:=by
      rw [List.take_succ_eq_append_getElem hi,y0k,ez]
      simp [blow]
     refine ⟨fun b o e ne=>?_,?_,?_,by omega,_,rfl⟩
     ·rw [z0n ne]
      exact sn _ _ (kp _ _ e ne)
     ·rw [z0c,eb,List.map_append]
     ·rw [eb,List.length_append,List.length_replicate]
      omega
  ·rintro σ' H' ⟨kp,gp,hle,_,v,rfl⟩
   rw [List.length_map,List.take_length] at gp hle
   refine ⟨_,rfl,pa,_,rfl,.inl ⟨SqL.of gp,fun p hp=>?_⟩⟩
   have sH:Same H H':=fun b o e=>kp _ _ (s01 _ _ e) (z0r e hpa)
   refine k p _ _ z0c (zHo nd pw hm) (by omega) (sH.trans (Same.new hp)) (sH.free hp)
def zCo:List Str:=["rule", "choice"]
theorem zJs:FnScope zCo ["rule", "choice"] (z0b z1u):=⟨rfl,rfl,rfl,by decide +kernel,rfl,by decide +kernel,by decide +kernel⟩
def zJx:Sp:=fun vs H Q _=>∃ (p c:Addr) (rs:List V) (rule:List (List Int)) (ch:List Int),vs = [.ref p,.ref c] /\ H p = some (.tup rs) /\ All2 Tup1 H rule rs /\ H c = some (.tup (ch.map V.int)) /\
 (((∃ D:List Int,D.length < 64 /\ ∀ x ∈ (z1y rule ch).flatten,x ∈ D) /\ (z1y rule ch).flatten.length < 1000) /\ ch.length <= 60) /\ (∀ j ∈ ch,0 <= j /\ j < rule.length) /\
 ∀ (q:Addr) (ms:List Int) (H':Hp),H' q = some (.tup (ms.map V.int)) -> z6z (z1y rule ch) ms -> ms.length <= 100000 -> Same H H' -> H q = none -> Q (.ref q) H'
theorem z5y (T:Txt K mg A):FnOk P w K mg base CX0 3 A.a_joined_of A.fd_joined_of ["rule", "choice"] zJx:=by
 refine T.F_joined_of.ok zJs (fun vs H Q E h=>?_) (fun cdv Ar outer s H vs Q E hr h=>?_)
 ·obtain ⟨p,c,rs,rule,ch,rfl,hp,h2,hc,hln,hch,k⟩:=h
  rfl
 ·obtain ⟨p,c,rs,rule,ch,rfl,hp,h2,hc,hln,hch,k⟩:=h
  refine ⟨_,(z0f (z0p (z0j (y8j T) (hr.mono (by decide)) rfl T.g_joined T.F_joined.kp T.b_joined .nil z0s (z0a (z2p (ls:=["number"]) (fr:=[("rule",0)]) (z4w (z0b z1u) zCo rfl rfl (by decide +kernel)) rfl (z9e (pv 1)) (fun _ _ _ _=>pgc 0 (by decide +kernel) rfl rfl) (fun _ _ _ _=>z3v) (fun _ _ _ _=>(z2j (y0r K rfl) (pvc (z0b z1u) 1) (pvc (z0b z1u) 0) (fun _ _=>rfl)))) z0d)))),?_⟩
  refine ⟨_,rfl,c,rfl,⟨_,SqT.of hc⟩,zAy (xs:=ch.map V.int) (fun i ys σ' H'=>H' = H /\ (∃ v,σ' = [v,some (.ref p)]) /\ All2 Tup1 H (z1y rule (ch.take i)) ys) ⟨rfl,⟨_,rfl⟩,.nil⟩ ?_ ?_ ?_⟩
  ·rintro i ys σ' H' hi ⟨rfl,_,h3⟩
   refine ⟨SqT.of hc,?_⟩
   rw [<- h3.length]
   unfold z1y
   rw [List.length_map,List.length_take]
   exact z5h (by omega)
  ·rintro i x ys σ' H' hx ⟨rfl,⟨v,rfl⟩,h3⟩
   obtain ⟨z,hz,rfl⟩:=z5q hx
   have hi:=(List.getElem?_eq_some_iff.mp hz).1
   have ez:=(List.getElem?_eq_some_iff.mp hz).2
   have hb:=hch z (List.mem_of_getElem? hz)
   obtain ⟨w',hw,r⟩:=y8s h2 hb.1 hb.2
   refine ⟨_,rfl,_,rfl,p,_,z,_,rfl,rfl,SqT.of hp,hw,rfl,⟨_,rfl⟩,?_⟩
   rw [List.take_succ_eq_append_getElem hi,ez]
   unfold z1y
   rw [List.map_append]
   exact h3.snoc r
  ·rintro ys σ' H' ⟨rfl,_,h3⟩ l hl
   rw [List.length_map,List.take_length] at h3
   have hll:(z1y rule ch).length <= 60:=by unfold z1y; rw [List.length_map]; exact hln.2
   exact ⟨l,ys,_,rfl,z0c,h3.mv (Same.new hl).tups,hln.1,hll,fun q ms H2 gq hj hl4 s nq=>k q ms H2 gq hj hl4 ((Same.new hl).trans s) ((Same.new hl).free nq)⟩
def y1f:List Str:=["rule", "choice", "least", "number"]
theorem z6c:FnScope y1f ["rule", "choice"] (z0b z2t):=⟨rfl,rfl,rfl,by decide +kernel,rfl,by decide +kernel,by decide +kernel⟩
def zJw:Sp:=fun vs H Q _=>∃ (p b:Addr) (rs:List V) (ch:List Int),vs = [.ref p,.ref b] /\ H p = some (.tup rs) /\ H b = some (.tup (ch.map V.int)) /\ Q (.bl (isCh rs.length 0 ch)) H
theorem zJd (T:Txt K mg A):FnOk P w K mg base CX0 1 A.a_is_choice A.fd_is_choice ["rule", "choice"] zJw:=by
 refine T.F_is_choice.ok z6c (fun vs H Q E h=>?_) (fun cdv Ar outer s H vs Q E hr h=>?_)
 ·obtain ⟨p,b,rs,ch,rfl,hp,hb,k⟩:=h
  rfl
 ·obtain ⟨p,b,rs,ch,rfl,hp,hb,k⟩:=h
  refine ⟨_,(z0e (z0t (i:=2) z6c.nd rfl (by first | exact Or.inl rfl | exact Or.inr rfl) z0i)
    (z0e (z5i PassesOwn.never rfl (z9e (pv 1)) (z2m (i:=3) z6c.nd rfl (by first | exact Or.inl rfl | exact Or.inr rfl))
     (z0e (z2z (PW.pt (zJn (z0w y5a (pv 3) (pv 2) (z1d _)) (zDd (z0w yHj (pv 3) (z0o z0x rfl T.b_len PySem.boot_len (z0a (pv 0) z0d)) (z1d _)))))
     (z0f (z0p z8a)) z1a)
    (z0f (z0t (i:=2) z6c.nd rfl (by first | exact Or.inl rfl | exact Or.inr rfl) (z0v z5z (pv 3) z0i)))))
    (z0f (z0p z8a)))),?_⟩
  refine ⟨_,rfl,b,rfl,⟨_,SqT.of hb⟩,zBw (xs:=ch.map V.int) (fun i σ' H'=>H' = H /\ (∃ v,σ' = [some (.ref p),some (.ref b),some (.int (y0w 0 (ch.take i))),v]) /\ isCh rs.length 0 (ch.take i) = true) ⟨rfl,⟨_,rfl⟩,rfl⟩ ?_ ?_ ?_⟩
  ·rintro i σ' H' _ ⟨eH,_⟩
   subst eH
   exact SqT.of hb
  ·rintro i x σ' H' hx ⟨eH,⟨v,rfl⟩,hc⟩
   subst eH
   obtain ⟨z,hz,rfl⟩:=z5q hx
   obtain ⟨hi,ez⟩:=List.getElem?_eq_some_iff.mp hz
   have et:ch.take (i + 1) = ch.take i ++ [z]:=by rw [List.take_succ_eq_append_getElem hi,ez]
   have stop:z < y0w 0 (ch.take i) \/ ((rs.length:Nat):Int) <= z -> isCh rs.length 0 ch = false:=fun c=>by
    have:ch = ch.take i ++ (z :: ch.drop (i + 1)):=by rw [<- ez,<- List.drop_eq_getElem_cons hi,List.take_append_drop]
    rw [this,zFs,isCh,if_pos c,Bool.and_false]
   refine ⟨_,rfl,_,rfl,_,_,rfl,rfl,_,rfl,?_⟩
   refine ite2 (fun h1=>?_) (fun h1=>?_)
   ·rw [stop (.inl (of_decide_eq_true h1))] at k
    exact iteT k
   ·refine ⟨_,rfl,_,rfl,p,_,rfl,.inr (SqT.of hp),_,_,rfl,rfl,_,rfl,?_⟩
    refine ite2 (fun h2=>?_) (fun h2=>?_)
    ·rw [stop (.inr (of_decide_eq_true h2))] at k
     exact k
    ·have c1:¬ z < y0w 0 (ch.take i):=fun e=>h1 (decide_eq_true e)
     have c2:¬ ((rs.length:Nat):Int) <= z:=fun e=>h2 (decide_eq_true e)
     refine ⟨_,rfl,_,_,rfl,rfl,rfl,⟨some (.int z),?_⟩,?_⟩
     ·rw [et,zEq]
      rfl
     ·rw [et,zFs,hc,isCh,if_neg (by omega)]
      rfl
  ·rintro σ' H' ⟨eH,_,hc⟩
   subst eH
   rw [List.length_map,List.take_length] at hc
   rw [hc] at k
   exact k
def zIr:List Str:=["rule", "pair"]
theorem y5g:FnScope zIr ["rule", "pair"] (z0b z2k):=⟨rfl,rfl,rfl,by decide +kernel,rfl,by decide +kernel,by decide +kernel⟩
def zDj:Sp:=fun vs H Q _=>∃ (p:Addr) (v:V) (rs:List V) (rule:List (List Int)) (pc:List Int × List Int),vs = [.ref p,v] /\ H p = some (.tup rs) /\ All2 Tup1 H rule rs /\ z5v pc v H /\ pc.2.length <= 100 /\ ∀ H',Same H H' -> Q (.bl (z3b rule pc)) H'
theorem zEu (T:Txt K mg A):FnOk P w K mg base CX0 3 A.a_is_pair A.fd_is_pair ["rule", "pair"] zDj:=by
 refine T.F_is_pair.ok y5g (fun vs H Q E h=>?_) (fun cdv Ar outer s H vs Q E hr h=>?_)
 ·obtain ⟨p,v,rs,rule,pc,rfl,hp,h2,hv,hln,k⟩:=h
  rfl
 ·obtain ⟨p,v,rs,rule,pc,rfl,hp,h2,hv,hln,k⟩:=h
  refine ⟨_,(z0e (z2z (z7m (z2b (z0j (zJd T) (hr.mono (by decide)) rfl T.g_is_choice T.F_is_choice.kp T.b_is_choice .nil z0s (z0a (pv 0 (hv:=Or.inr (Or.inl rfl))) (z0a (z2j z2x (pv 1 (hv:=Or.inr (Or.inl rfl))) z0i (fun _ _=>rfl)) z0d))) (fun _=>rfl)))
     (z0f (z0p z8a)) z1a)
    (z0f (z0p (z0o (z3g rfl) rfl T.b_all boot_all (z0a (z2p (ls:=["number"]) (fr:=[("rule",0),("pair",1)]) (z4w (z0b z2k) zIr rfl rfl (by decide +kernel)) rfl (z9e (z2j z2x (pv 1 (hv:=Or.inr (Or.inl rfl))) z0i (fun _ _=>rfl))) (fun _ _ _ _=>pgc 0 (by decide +kernel) rfl rfl) (fun _ _ _ _=>z3v) (fun _ _ _ _=>(z0j (z9t T) (hr.mono (by decide)) (glc (z0b z2k)) T.g_lies_in T.F_lies_in.kp T.b_lies_in .nil z0s (z0a (z2j (y0r K rfl) (pvc (z0b z2k) 1) (pvc (z0b z2k) 0) (fun _ _=>rfl)) (z0a (z2j (y0r K rfl) (pvc (z0b z2k) 2) z0i (fun _ _=>rfl)) z0d))))) z0d))))),?_⟩
  obtain ⟨q,a,b,rfl,g1,g2,g3⟩:=hv
  have hrl:=h2.length
  refine ⟨_,rfl,_,rfl,q,_,_,_,rfl,rfl,SqT.of g1,z1l (j:=1) rfl,p,b,rs,pc.2,rfl,hp,g3,_,rfl,?_⟩
  rw [<- hrl]
  cases hc:isCh rule.length 0 pc.2 with
  | false =>
   refine iteT ?_
   have:=k H fun _ _ z=>z
   unfold z3b at this
   rw [hc,Bool.false_and] at this
   exact this
  | true =>
   refine iteF ?_
   refine ⟨_,rfl,q,_,_,_,rfl,rfl,SqT.of g1,z1l (j:=1) rfl,b,rfl,⟨_,SqT.of g3⟩,zAy (xs:=pc.2.map V.int) (fun i ys σ' H'=>Same H H' /\ (∃ v,σ' = [v,some (.ref p),some (.ref q)]) /\ ys = ((pc.2.take i).map fun j=>lies (rule.getD j.toNat []) pc.1).map V.bl) ⟨fun _ _ z=>z,⟨_,rfl⟩,rfl⟩ ?_ ?_ ?_⟩
   ·rintro i ys σ' H' hi ⟨s,_,rfl⟩
    refine ⟨SqT.of (s _ _ g3),?_⟩
    rw [List.length_map,List.length_map,List.length_take]
    exact Nat.le_trans (m:=100) (by omega) (by decide)
   ·rintro i x ys σ' H' hx ⟨s,⟨v,rfl⟩,rfl⟩
    obtain ⟨z,hz,rfl⟩:=z5q hx
    obtain ⟨hi,ez⟩:=List.getElem?_eq_some_iff.mp hz
    have hb:=z5j hc z (List.mem_of_getElem? hz)
    obtain ⟨x,hx,c,rfl,gc⟩:=y8s (h2.mv s.tups) hb.1 hb.2
    refine ⟨_,rfl,_,rfl,p,_,_,_,rfl,rfl,SqT.of (s _ _ hp),hx,?_⟩
    refine ⟨_,rfl,q,_,_,_,rfl,rfl,SqT.of (s _ _ g1),z1l (j:=0) rfl,c,a,_,pc.1,rfl,gc,s _ _ g2,s,⟨_,rfl⟩,?_⟩
    rw [List.take_succ_eq_append_getElem hi,List.map_append,List.map_append,ez]
    rfl
   ·rintro ys σ' H' ⟨s,_,rfl⟩ l hl
    rw [List.length_map,List.take_length]
    refine ⟨l,_,rfl,SqL.of z0c,?_⟩
    have:=k _ (s.trans (Same.new (o:=.lst ((pc.2.map fun j=>lies (rule.getD j.toNat []) pc.1).map V.bl)) hl))
    unfold z3b at this
    rw [hc,Bool.true_and] at this
    rw [List.all_map]
    exact this
def y8b:List Str:=["sided", "side"]
theorem y5i:FnScope y8b ["sided", "side"] (z0b z4d):=⟨rfl,rfl,rfl,by decide +kernel,rfl,by decide +kernel,by decide +kernel⟩
def y5v (A:Adr):Sp:=fun vs H Q _=>∃ (x p q:Addr) (rs qs:List V) (one other:List (List Int)) (s:Int),vs = [.ref x,.int s] /\ Sided A.c_Beside H x p q rs qs one other /\ (s = 1 \/ s = 2) /\ (∀ H',Same H H' -> Q (.ref (if s = 1 then p else q)) H')
theorem z9u (T:Txt K mg A):FnOk P w K mg base CX0 2 A.a_rule_on A.fd_rule_on ["sided", "side"] (y5v A):=by
 refine T.F_rule_on.ok y5i (fun vs H Q E h=>?_) (fun cdv Ar outer s H vs Q E hr h=>?_)
 ·obtain ⟨x,p,q,rs,qs,one,other,s,rfl,S,hs,k⟩:=h
  rfl
 ·obtain ⟨x,p,q,rs,qs,one,other,s,rfl,S,hs,k⟩:=h
  refine ⟨_,(z0e (z2z (z0w z6a (pv 1) (z3f (z0a z0i (z0a z0i z0d))) rfl)
     (z0f z4z) z1a)
    (z0f (z0p (z2j z2x (z9d (pv 0) T.cl_Beside T.mt_Beside_rules (z4q T) (hr.mono (by decide)) T.b_Beside_rules .nil z0s) (z0v z8g (pv 1) z0i) (fun _ _=>rfl))))),?_⟩
  refine ⟨_,rfl,by show 2 <= sizeLine; decide,fun t ht=>⟨t,_,rfl,.inr (SqT.of z0c),rfl,rfl,_,rfl,?_⟩⟩
  have s1:=Same.new (o:=.tup [V.int 1,V.int 2]) ht
  rw [if_pos rfl,inV2]
  generalize upd H t (.tup [V.int 1,V.int 2]) = H1 at s1
  ·have e:(decide (s = 1) || decide (s = 2)) = true:=by rcases hs with h | h <;> rw [h] <;> rfl
   rw [e]
   obtain ⟨dx,hx⟩:=S.ob
   refine iteF ⟨_,rfl,x,dx,_,rfl,s1 _ _ hx,y2d _ _ (by decide +kernel) (by decide +kernel),x,dx,p,q,rfl,s1 _ _ hx,fun t2 H2 ht2 s2=>?_⟩
   refine ⟨_,rfl,_,_,rfl,rfl,t2,_,s - 1,_,rfl,rfl,SqT.of ht2,?_,k H2 (s1.trans s2)⟩
   rcases hs with h | h <;> rw [h]
   ·rw [if_pos rfl]; exact z1l (j:=0) rfl
   ·rw [if_neg (by decide)]; exact z1l (j:=1) rfl
def y7y:List Str:=["sided", "place", "side", "heap", "choice", "here", "beyond", "rest"]
theorem z4y:FnScope y7y ["sided", "place"] (z0b z4a):=⟨rfl,rfl,rfl,by decide +kernel,rfl,by decide +kernel,by decide +kernel⟩
def y5p (A:Adr):Sp:=fun vs H Q _=>∃ (x p q:Addr) (rs qs:List V) (one other:List (List Int)) (pl:Plc) (v:V) (n:Int) (i:Nat),vs = [.ref x,v] /\ Sided A.c_Beside H x p q rs qs one other /\ Rul one other /\ z3z pl v H /\ WP one other n i pl /\ n <= 60 /\
 ∀ v' H',z3z (z5n one other pl) v' H' -> Same H H' -> Q v' H'
theorem y4t (T:Txt K mg A):FnOk P w K mg base CX0 4 A.a_crossed A.fd_crossed ["sided", "place"] (y5p A):=by
 refine T.F_crossed.ok z4y (fun vs H Q E h=>?_) (fun cdv Ar outer s H vs Q E hr h=>?_)
 ·obtain ⟨x,p,q,rs,qs,one,other,pl,v,n,i,rfl,S,R,hv,w,hn,k⟩:=h
  rfl
 ·obtain ⟨x,p,q,rs,qs,one,other,pl,v,n,i,rfl,S,R,hv,w,hn,k⟩:=h
  refine ⟨_,(z0e (z0t (i:=2) z4y.nd rfl (by first | exact Or.inl rfl | exact Or.inr rfl) (z2j z2x (pv 1) z0i (fun _ _=>rfl)))
    (z0e (z0t (i:=3) z4y.nd rfl (by first | exact Or.inl rfl | exact Or.inr rfl) (z2j z2x (pv 1) z0i (fun _ _=>rfl)))
    (z0e (z0t (i:=4) z4y.nd rfl (by first | exact Or.inl rfl | exact Or.inr rfl) (z2j z2x (pv 1) z0i (fun _ _=>rfl)))
    (z0e (z0t (i:=5) z4y.nd rfl (by first | exact Or.inl rfl | exact Or.inr rfl) (z0j (z9u T) (hr.mono (by decide)) rfl T.g_rule_on T.F_rule_on.kp T.b_rule_on .nil z0s (z0a (pv 0) (z0a (pv 2) z0d))))
    (z0e (z2z (z7m (z2b (z0j (zEu T) (hr.mono (by decide)) rfl T.g_is_pair T.F_is_pair.kp T.b_is_pair .nil z0s (z0a (pv 5) (z0a (z3f (z0a (pv 3) (z0a (pv 4) z0d))) z0d))) (fun _=>rfl)))
     (z0f z4z) z1a)
    (z0e (z0t (i:=6) z4y.nd rfl (by first | exact Or.inl rfl | exact Or.inr rfl) (z0j (z9u T) (hr.mono (by decide)) rfl T.g_rule_on T.F_rule_on.kp T.b_rule_on .nil z0s (z0a (pv 0) (z0a (z0v z8g z0i (pv 2)) z0d))))
    (z0e (z0t (i:=7) z4y.nd rfl (by first | exact Or.inl rfl | exact Or.inr rfl) (z0j (yCe T) (hr.mono (by decide)) rfl T.g_taken T.F_taken.kp T.b_taken .nil z0s (z0a (z0j (z5y T) (hr.mono (by decide)) rfl T.g_joined_of T.F_joined_of.kp T.b_joined_of .nil z0s (z0a (pv 5) (z0a (pv 4) z0d))) (z0a (pv 3) z0d))))
    (z0f (z0p (z3f (z0a (z0v z8g z0i (pv 2)) (z0a (z0j (yHi T) (hr.mono (by decide)) rfl T.g_put T.F_put.kp T.b_put .nil z0s (z0a (pv 7) (z0a (z0j (z5y T) (hr.mono (by decide)) rfl T.g_joined_of T.F_joined_of.kp T.b_joined_of .nil z0s (z0a (pv 6) (z0a (pv 4) z0d))) z0d))) (z0a (pv 4) z0d))))))))))))),?_⟩
  obtain ⟨t,hh,hc,rfl,g1,g2,g3⟩:=hv
  have hcl:=w.chl R
  have hln:=w.hep.len
  have hcr:=w.clen R
  have hpos:=w.pos
  obtain ⟨hs,hpr⟩:=z2w w.ip
  obtain ⟨sd,heap,ch⟩:=pl
  dsimp only at g1 g2 g3 hcl hln hcr hs hpr hpos
  refine ⟨_,rfl,t,_,_,_,rfl,rfl,SqT.of g1,z1l (j:=0) rfl,?_⟩
  refine ⟨_,rfl,t,_,_,_,rfl,rfl,SqT.of g1,z1l (j:=1) rfl,?_⟩
  refine ⟨_,rfl,t,_,_,_,rfl,rfl,SqT.of g1,z1l (j:=2) rfl,?_⟩
  have hR:∀ s:Int,(s = 1 \/ s = 2) -> ∀ H',Same H H' -> ∃ rv:List V,H' (if s = 1 then p else q) = some (.tup rv) /\ All2 Tup1 H' (onR one other s) rv:=fun s hs H' s'=>by
   rcases hs with h | h <;> subst h
   ·exact ⟨rs,s' _ _ S.hp,S.h2.mv s'.tups⟩
   ·exact ⟨qs,s' _ _ S.hq,S.g2.mv s'.tups⟩
  refine ⟨_,rfl,_,rfl,x,p,q,rs,qs,one,other,sd,rfl,S,hs,fun H1 s1=>?_⟩
  obtain ⟨rv,hrv,arv⟩:=hR sd hs H1 s1
  refine ⟨_,rfl,_,rfl,_,rfl,by show 2 <= sizeLine; decide,fun t2 ht2=>?_⟩
  have s2:=Same.new (o:=.tup [V.ref hh,V.ref hc]) ht2
  have s12:=s1.trans s2
  refine ⟨_,_,rv,onR one other sd,(heap,ch),rfl,s2 _ _ hrv,arv.mv s2.tups,⟨t2,hh,hc,rfl,z0c,s12 _ _ g2,s12 _ _ g3⟩,Nat.le_trans hcl (by decide),fun H3 s3=>⟨_,rfl,?_⟩⟩
  have s03:=s12.trans s3
  rw [hpr]
  have S3:=S.mv s03
  have hs':3 - sd = 1 \/ 3 - sd = 2:=by omega
  have chb:∀ s:Int,∀ j ∈ ch,0 <= j /\ j < (onR one other s).length:=fun s j hj=>by
   have h1:=z5j (z7s hpr).1 j hj
   rw [z9v S.ln] at h1 ⊢
   exact h1
  refine iteF ⟨_,rfl,_,rfl,_,_,rfl,rfl,x,p,q,rs,qs,one,other,3 - sd,rfl,S3,hs',fun H4 s4=>?_⟩
  have s04:=s03.trans s4
  obtain ⟨rv4,hrv4,arv4⟩:=hR sd hs H4 s04
  obtain ⟨rb4,hrb4,arb4⟩:=hR (3 - sd) hs' H4 s04
  refine ⟨_,rfl,_,rfl,_,hc,rv4,onR one other sd,ch,rfl,hrv4,arv4,s04 _ _ g3,⟨(R.jR sd).pick hcl,Nat.le_trans hcl (by decide)⟩,chb sd,fun j1 ms H5 hj1 hjn hlm s5 _=>?_⟩
  have e1:=zBb hjn
  have s05:=s04.trans s5
  have hlj:lies ms heap = true:=by rw [<- e1]; exact zCx hpr
  refine ⟨_,rfl,j1,hh,ms,heap,rfl,hj1,s05 _ _ g2,Nat.le_trans (show heap.length <= 60 by omega) (by decide),hlj,fun t6 H6 ht6 s6=>?_⟩
  have s06:=s05.trans s6
  refine ⟨_,rfl,_,_,rfl,rfl,_,rfl,_,rfl,_,rfl,_,hc,rb4,onR one other (3 - sd),ch,rfl,(s5.trans s6) _ _ hrb4,arb4.mv (s5.trans s6).tups,s06 _ _ g3,⟨(R.jR (3 - sd)).pick hcl,Nat.le_trans hcl (by decide)⟩,chb (3 - sd),fun j2 ms2 H7 hj2 hjn2 hlm2 s7 _=>?_⟩
  have e2:=zBb hjn2
  rw [e1,e2] at hcr
  refine ⟨t6,j2,z3o ms heap,ms2,rfl,s7 _ _ ht6,hj2,by omega,fun y hy=>?_,fun p8 H8 hp8 s8=>?_⟩
  ·rcases List.mem_append.mp hy with hy | hy
   ·exact hpos y (zDl hy)
   ·rw [<- e2] at hy
    exact y2l (R.bR (3 - sd)) y hy
  refine ⟨_,rfl,by show 3 <= sizeLine; decide,fun t9 ht9=>?_⟩
  have s9:=Same.new (o:=.tup [V.int (3 - sd),V.ref p8,V.ref hc]) ht9
  have s09:=s06.trans (s7.trans (s8.trans s9))
  refine k _ _ ⟨t9,p8,hc,rfl,z0c,?_,s09 _ _ g3⟩ s09
  show _ = some (HO.tup ((z6u (z3o (z3y (z1y (onR one other sd) ch)) heap ++ z3y (z1y (onR one other (3 - sd)) ch))).map V.int))
  rw [e1,e2]
  exact s9 _ _ hp8
def zIu:List Str:=["rule", "pair", "heap", "choice", "number"]
theorem z5l:FnScope zIu ["rule", "pair"] (z0b z2g):=⟨rfl,rfl,rfl,by decide +kernel,rfl,by decide +kernel,by decide +kernel⟩
def zGy (A:Adr):Sp:=fun vs H Q _=>∃ (p:Addr) (v:V) (rs:List V) (rule:List (List Int)) (pc:List Int × List Int),vs = [.ref p,v] /\ H p = some (.tup rs) /\ All2 Tup1 H rule rs /\ z5v pc v H /\ pc.2.length <= 100 /\ rule.length <= 60 /\
 (z3b rule pc = true /\ (z2v rule pc = none -> ∀ H',Same H H' -> Q .non H') /\ ∀ pc',z2v rule pc = some pc' -> ∀ v' H',z5v pc' v' H' -> Same H H' -> Q v' H')
theorem zGd (T:Txt K mg A):FnOk P w K mg base CX0 5 A.a_partner_of A.fd_partner_of ["rule", "pair"] (zGy A):=by
 refine T.F_partner_of.ok z5l (fun vs H Q E h=>?_) (fun cdv Ar outer s H vs Q E hr h=>?_)
 ·obtain ⟨p,v,rs,rule,pc,rfl,hp,h2,hv,hln,hlr,h⟩:=h
  rfl
 ·obtain ⟨p,v,rs,rule,pc,rfl,hp,h2,hv,hln,hlr,h⟩:=h
  refine ⟨_,(z0e (z2z (z7m (z2b (z0j (zEu T) (hr.mono (by decide)) rfl T.g_is_pair T.F_is_pair.kp T.b_is_pair .nil z0s (z0a (pv 0) (z0a (pv 1) z0d))) (fun _=>rfl)))
     (z0f z4z) z1a)
    (z0e (z0t (i:=2) z5l.nd rfl (by first | exact Or.inl rfl | exact Or.inr rfl) (z2j z2x (pv 1) z0i (fun _ _=>rfl)))
    (z0e (z0t (i:=3) z5l.nd rfl (by first | exact Or.inl rfl | exact Or.inr rfl) (z2j z2x (pv 1) z0i (fun _ _=>rfl)))
    (z0e (z0t (i:=4) z5l.nd rfl (by first | exact Or.inl rfl | exact Or.inr rfl) (z0j (z8o T) (hr.mono (by decide)) rfl T.g_first_in T.F_first_in.kp T.b_first_in .nil z0s (z0a (pv 0) (z0a (pv 2) z0d))))
    (z0e (z2z (z0w zEx (pv 4) z6p (z1d _))
     (z0f (z0p z6p)) z1a)
    (z0e (z2z (z0w y8k (pv 4) (pv 3) rfl)
     (z0f (z0p (z3f (z0a (pv 2) (z0a (y3a yFy (pv 3) (y8u z0i) y8t) z0d))))) z1a)
    (z0f (z0p (z3f (z0a (pv 2) (z0a (z0v y1i (z3f (z0a (pv 4) z0d)) (pv 3)) z0d))))))))))),?_⟩
  obtain ⟨q,a,b,rfl,g1,g2,g3⟩:=hv
  refine ⟨_,rfl,_,rfl,p,_,rs,rule,pc,rfl,hp,h2,⟨q,a,b,rfl,g1,g2,g3⟩,hln,fun H1 s1=>⟨_,rfl,?_⟩⟩
  obtain ⟨hc,kN,kS⟩:=h
  ·rw [hc]
   refine iteF ?_
   refine ⟨_,rfl,q,_,_,_,rfl,rfl,SqT.of (s1 _ _ g1),z1l (j:=0) rfl,?_⟩
   refine ⟨_,rfl,q,_,_,_,rfl,rfl,SqT.of (s1 _ _ g1),z1l (j:=1) rfl,?_⟩
   refine ⟨_,rfl,_,rfl,p,a,rs,rule,pc.1,rfl,s1 _ _ hp,h2.mv s1.tups,s1 _ _ g2,hlr,fun H2 s2=>?_⟩
   have sn:=s1.trans s2
   unfold z2v at kN kS
   cases hf:z1m rule pc.1 with
   | none =>
    rw [hf] at kN
    refine ⟨_,rfl,rfl,_,rfl,ite2 (fun _=>?_) (fun z=>absurd (decide_eq_true rfl) z)⟩
    exact kN rfl H2 sn
   | some m =>
    rw [hf] at kS
    refine ⟨_,rfl,rfl,_,rfl,ite2 (fun z=>?_) (fun _=>?_)⟩
    ·have:=of_decide_eq_true z
     cases this
    refine ⟨_,rfl,_,rfl,b,_,rfl,.inr (SqT.of (sn _ _ g3)),rfl,z5o _,_,rfl,?_⟩
    have ei:inV (optV (some m)) (pc.2.map V.int) = decide (m ∈ pc.2):=z8u m _
    rw [if_neg Bool.false_ne_true,ei]
    refine ite2 (fun z=>?_) (fun z=>?_)
    ·have hm:m ∈ pc.2:=of_decide_eq_true z
     refine ⟨_,rfl,_,rfl,_,rfl,?_⟩
     dsimp only [y1t,tNil]
     refine y5m (sn _ _ g3) fun t H3 ht s3=>?_
     refine ⟨by show 2 <= sizeLine; decide,fun r hr=>?_⟩
     have s4:=Same.new (o:=.tup [.ref a,.ref t]) hr
     exact kS _ (if_pos hm) _ _ ⟨r,a,t,rfl,z0c,s4 _ _ (s3 _ _ (sn _ _ g2)),s4 _ _ ht⟩ (sn.trans (s3.trans s4))
    ·have hm:¬ m ∈ pc.2:=fun e=>z (decide_eq_true e)
     refine ⟨_,rfl,_,rfl,by show 1 <= sizeLine; decide,fun t ht=>⟨_,rfl,?_⟩⟩
     have s3:=Same.new (o:=.tup [V.int m]) ht
     refine zBo (z:=m) (s3 _ _ (sn _ _ g3)) z0c hln fun v H4 hv s4=>?_
     obtain ⟨c,rfl,gc⟩:=hv
     refine ⟨by show 2 <= sizeLine; decide,fun r hr=>?_⟩
     have s5:=Same.new (o:=.tup [.ref a,.ref c]) hr
     exact kS _ (if_neg hm) _ _ ⟨r,a,c,rfl,z0c,s5 _ _ (s4 _ _ (s3 _ _ (sn _ _ g2))),s5 _ _ gc⟩ (sn.trans (s3.trans (s4.trans s5)))
def y8d:List Str:=["sided", "place", "side", "partner"]
theorem zAa:FnScope y8d ["sided", "place"] (z0b z4f):=⟨rfl,rfl,rfl,by decide +kernel,rfl,by decide +kernel,by decide +kernel⟩
def yIq (A:Adr):Sp:=fun vs H Q _=>∃ (x p q:Addr) (rs qs:List V) (one other:List (List Int)) (pl:Plc) (v:V),vs = [.ref x,v] /\ Sided A.c_Beside H x p q rs qs one other /\ z3z pl v H /\ pl.2.2.length <= 100 /\ isPl one other pl = true /\ fstP one other pl ≠ none /\
 ∀ v' H',z3z (togG one other pl) v' H' -> Same H H' -> Q v' H'
theorem y4x (T:Txt K mg A):FnOk P w K mg base CX0 6 A.a_toggled A.fd_toggled ["sided", "place"] (yIq A):=by
 refine T.F_toggled.ok zAa (fun vs H Q E h=>?_) (fun cdv Ar outer s H vs Q E hr h=>?_)
 ·obtain ⟨x,p,q,rs,qs,one,other,pl,v,rfl,S,hv,hl2,hip,hf,k⟩:=h
  rfl
 ·obtain ⟨x,p,q,rs,qs,one,other,pl,v,rfl,S,hv,hl2,hip,hf,k⟩:=h
  refine ⟨_,(z0e (z0t (i:=2) zAa.nd rfl (by first | exact Or.inl rfl | exact Or.inr rfl) (z2j z2x (pv 1) z0i (fun _ _=>rfl)))
    (z0e (z0t (i:=3) zAa.nd rfl (by first | exact Or.inl rfl | exact Or.inr rfl) (z0j (zGd T) (hr.mono (by decide)) rfl T.g_partner_of T.F_partner_of.kp T.b_partner_of .nil z0s (z0a (z0j (z9u T) (hr.mono (by decide)) rfl T.g_rule_on T.F_rule_on.kp T.b_rule_on .nil z0s (z0a (pv 0) (z0a (pv 2) z0d))) (z0a (z3f (z0a (z2j z2x (pv 1) z0i (fun _ _=>rfl)) (z0a (z2j z2x (pv 1) z0i (fun _ _=>rfl)) z0d))) z0d))))
    (z0e (z2z (z0w zEx (pv 3) z6p (z1d _))
     (z0f z4z) z1a)
    (z0f (z0p (z3f (z0a (pv 2) (z0a (z2j z2x (pv 3) z0i (fun _ _=>rfl)) (z0a (z2j z2x (pv 3) z0i (fun _ _=>rfl)) z0d))))))))),?_⟩
  obtain ⟨t,hh,hc,rfl,g1,g2,g3⟩:=hv
  obtain ⟨pc,hpc⟩:=z8h hf
  rw [y9z hpc] at k
  obtain ⟨hs,hpr⟩:=z2w hip
  obtain ⟨sd,heap,ch⟩:=pl
  dsimp only at g1 g2 g3 hl2 k hs hpr hpc
  refine ⟨_,rfl,t,_,_,_,rfl,rfl,SqT.of g1,z1l (j:=0) rfl,?_⟩
  refine ⟨_,rfl,_,rfl,x,p,q,rs,qs,one,other,sd,rfl,S,hs,fun H1 s1=>?_⟩
  obtain ⟨rv,hrv,arv⟩:∃ rv:List V,H1 (if sd = 1 then p else q) = some (.tup rv) /\ All2 Tup1 H1 (onR one other sd) rv:=by
   rcases hs with h | h <;> subst h
   ·exact ⟨rs,s1 _ _ S.hp,S.h2.mv s1.tups⟩
   ·exact ⟨qs,s1 _ _ S.hq,S.g2.mv s1.tups⟩
  refine ⟨_,rfl,t,_,_,_,rfl,rfl,SqT.of (s1 _ _ g1),z1l (j:=1) rfl,_,rfl,t,_,_,_,rfl,rfl,SqT.of (s1 _ _ g1),z1l (j:=2) rfl,by show 2 <= sizeLine; decide,fun t2 ht2=>?_⟩
  have s2:=Same.new (o:=.tup [V.ref hh,V.ref hc]) ht2
  have s12:=s1.trans s2
  refine ⟨_,_,rv,onR one other sd,(heap,ch),rfl,s2 _ _ hrv,arv.mv s2.tups,⟨t2,hh,hc,rfl,z0c,s12 _ _ g2,s12 _ _ g3⟩,hl2,by rw [z9v S.ln]; have:=S.l6; omega,hpr,(fun z=>by rw [hpc] at z; cases z),fun pc' hpc' v' H3 hv' s3=>?_⟩
  rw [hpc] at hpc'
  cases hpc'
  obtain ⟨q',a',b',rfl,h1,h2,h3⟩:=hv'
  refine ⟨_,rfl,rfl,_,rfl,ite2 (fun z=>?_) (fun _=>?_)⟩
  ·have:=of_decide_eq_true z
   cases this
  refine ⟨_,rfl,_,rfl,q',_,_,_,rfl,rfl,SqT.of h1,z1l (j:=0) rfl,_,rfl,q',_,_,_,rfl,rfl,SqT.of h1,z1l (j:=1) rfl,by show 3 <= sizeLine; decide,fun t9 ht9=>?_⟩
  have s9:=Same.new (o:=.tup [V.int sd,V.ref a',V.ref b']) ht9
  exact k _ _ ⟨t9,a',b',rfl,z0c,s9 _ _ h2,s9 _ _ h3⟩ (s12.trans (s3.trans s9))
def zIt:List Str:=["sided", "walk"]
theorem zGs:FnScope zIt ["sided", "walk"] (z0b z2f):=⟨rfl,rfl,rfl,by decide +kernel,rfl,by decide +kernel,by decide +kernel⟩
noncomputable def yDe (one other:List (List Int)) (i:Nat) (pl:Plc):Plc:=if i % 2 = 0 then z5n one other pl else togG one other pl
def yGe (A:Adr):Sp:=fun vs H Q _=>∃ (x l p q:Addr) (rs qs:List V) (one other:List (List Int)) (pl:Plc) (v:V) (ys:List V) (n:Int),vs = [.ref x,.ref l] /\ Sided A.c_Beside H x p q rs qs one other /\ Rul one other /\ H l = some (.lst (ys ++ [v])) /\ z3z pl v H /\ WP one other n ys.length pl /\ n <= 60 /\ (ys.length % 2 = 1 -> fstP one other pl ≠ none) /\
 ∀ v' H',z3z (yDe one other ys.length pl) v' H' -> Same H H' -> Q v' H'
theorem zGb (T:Txt K mg A):FnOk P w K mg base CX0 7 A.a_next_place A.fd_next_place ["sided", "walk"] (yGe A):=by
 refine T.F_next_place.ok zGs (fun vs H Q E h=>?_) (fun cdv Ar outer s H vs Q E hr h=>?_)
 ·obtain ⟨x,l,p,q,rs,qs,one,other,pl,v,ys,n,rfl,S,R,hl,hv,w,hn,hf,k⟩:=h
  rfl
 ·obtain ⟨x,l,p,q,rs,qs,one,other,pl,v,ys,n,rfl,S,R,hl,hv,w,hn,hf,k⟩:=h
  refine ⟨_,(z0e (z2z (z0w z7z (z0v z7i (z0o z0x rfl T.b_len PySem.boot_len (z0a (pv 1) z0d)) z0i) z0i (z1d _))
     (z0f (z0p (z0j (y4t T) (hr.mono (by decide)) rfl T.g_crossed T.F_crossed.kp T.b_crossed .nil z0s (z0a (pv 0) (z0a (z2j z3c (pv 1) (zJj zAm z0i) (fun _ _=>rfl)) z0d))))) z1a)
    (z0f (z0p (z0j (y4x T) (hr.mono (by decide)) rfl T.g_toggled T.F_toggled.kp T.b_toggled .nil z0s (z0a (pv 0) (z0a (z2j z3c (pv 1) (zJj zAm z0i) (fun _ _=>rfl)) z0d)))))),?_⟩
  have hlen:((ys ++ [v]).length:Int) % 2 = 1 ↔ ys.length % 2 = 0:=by
   rw [List.length_append]
   show ((ys.length + 1:Nat):Int) % 2 = 1 ↔ _
   omega
  refine ⟨_,rfl,l,_,rfl,.inl (SqL.of hl),_,_,rfl,rfl,by omega,rfl,_,rfl,?_⟩
  refine ite2 (fun h1=>?_) (fun h1=>?_)
  ·have e0:ys.length % 2 = 0:=hlen.mp (V.int.inj (of_decide_eq_true h1))
   refine ⟨_,rfl,_,rfl,_,rfl,l,_,_,_,rfl,rfl,SqL.of hl,zAw _ _,x,p,q,rs,qs,one,other,pl,v,n,_,rfl,S,R,hv,w,hn,fun v' H' hv' s'=>k v' H' ?_ s'⟩
   unfold yDe
   rw [if_pos e0]
   exact hv'
  ·have e0:¬ ys.length % 2 = 0:=fun z=>h1 (decide_eq_true (congrArg V.int (hlen.mpr z)))
   refine ⟨_,rfl,_,rfl,_,rfl,l,_,_,_,rfl,rfl,SqL.of hl,zAw _ _,x,p,q,rs,qs,one,other,pl,v,rfl,S,hv,Nat.le_trans (w.chl R) (by decide),w.ip,hf (by omega),fun v' H' hv' s'=>k v' H' ?_ s'⟩
   unfold yDe
   rw [if_neg e0]
   exact hv'
def zDv:List Str:=["sided", "heap", "most", "walk"]
theorem z7o:FnScope zDv ["sided", "heap", "most"] (z0b z1o):=⟨rfl,rfl,rfl,by decide +kernel,rfl,by decide +kernel,by decide +kernel⟩
def y9o (A:Adr):Sp:=fun vs H Q _=>∃ (x h p q:Addr) (rs qs:List V) (one other:List (List Int)) (hs:List Int) (n:Int) (mo:V) (B:Nat),vs = [.ref x,.ref h,mo] /\ Sided A.c_Beside H x p q rs qs one other /\ Rul one other /\ H h = some (.tup (hs.map V.int)) /\ Hep n hs /\ n <= 60 /\ (mo = .non \/ mo = .int (B:Int)) /\ B <= 1000000 /\ (mo = .non -> ∀ k,Live one other hs k -> k < B) /\
 ∀ (l:Addr) (k:Nat) (xs:List V) (H':Hp),H' l = some (.lst xs) -> All2 z3z H' (z9l one other hs k) xs -> Live one other hs k -> (EndAt one other hs k \/ (mo = .int (B:Int) /\ ¬ EndAt one other hs k /\ B <= k + 1 /\ (k = 0 \/ k + 1 <= B))) -> Same H H' -> H l = none -> Q (.ref l) H'
theorem zCu (T:Txt K mg A):FnOk P w K mg base CX0 8 A.a_first_places A.fd_first_places ["sided", "heap", "most"] (y9o A):=by
 refine T.F_first_places.ok z7o (fun vs H Q E h=>?_) (fun cdv Ar outer s H vs Q E hr h=>?_)
 ·obtain ⟨x,h,p,q,rs,qs,one,other,hs,n,mo,B,rfl,S,R,gh,hh,hn,hm,hB,hBk,k⟩:=h
  rfl
 ·obtain ⟨x,h,p,q,rs,qs,one,other,hs,n,mo,B,rfl,S,R,gh,hh,hn,hm,hB,hBk,k⟩:=h
  refine ⟨_,(z0e (z0t (i:=3) z7o.nd rfl (by first | exact Or.inl rfl | exact Or.inr rfl) (z3r (z0a (z3f (z0a z0i (z0a (pv 1) (z0a (z3f z0d) z0d)))) z0d)))
    (z0e (z9f PassesOwn.never (PW.pt (y3i (z7m (z2b (z0j (y8i T) (hr.mono (by decide)) rfl T.g_is_end T.F_is_end.kp T.b_is_end .nil z0s (z0a (pv 0) (z0a (z2j z3c (pv 3) (zJj zAm z0i) (fun _ _=>rfl)) z0d))) (fun _=>rfl))) (zGn (PW.pt (zJn (z0w zEx (pv 2) z6p (z1d _)) (zDd (z0w y5a (z0o z0x rfl T.b_len PySem.boot_len (z0a (pv 3) z0d)) (pv 2) (z1d _))))))))
     (z0f (z3n (z8b PySem.F.plainAttrs_list PySem.F.slot_list_append PySem.F.type_list_append z4p (pv 3) (z0a (z0j (zGb T) (hr.mono (by decide)) rfl T.g_next_place T.F_next_place.kp T.b_next_place .nil z0s (z0a (pv 0) (z0a (pv 3) z0d))) z0d)))))
    (z0f (z0p (pv 3))))),?_⟩
  refine ⟨_,rfl,by show 0 <= sizeLine; decide,fun c0 hc0=>⟨by show 3 <= sizeLine; decide,fun t ht=>⟨by show 1 <= sizeLine; decide,fun l hl=>?_⟩⟩⟩
  have sT:=(Same.new (o:=.tup []) hc0).trans (Same.new (o:=.tup [V.int 1,V.ref h,V.ref c0]) ht)
  have sL:=sT.trans (Same.new (o:=.lst [V.ref t]) hl)
  have nl:H l = none:=sT.free hl
  have gt:=Same.new (o:=.lst [V.ref t]) hl _ _ (z0c (H:=upd H c0 (.tup [])) (a:=t) (o:=.tup [V.int 1,V.ref h,V.ref c0]))
  have gc:=Same.new (o:=.lst [V.ref t]) hl _ _ (Same.new (o:=.tup [V.int 1,V.ref h,V.ref c0]) ht _ _ (z0c (H:=H) (a:=c0) (o:=.tup [])))
  refine ⟨fun m σ' H'=>∃ (k:Nat) (xs:List V),m = B + 1 - k /\ σ' = [some (.ref x),some (.ref h),some mo,some (.ref l)] /\ H' l = some (.lst xs) /\ All2 z3z H' (z9l one other hs k) xs /\ Live one other hs k /\ (k = 0 \/ mo = .non \/ k + 1 <= B) /\ Same H H',⟨_,0,[V.ref t],rfl,rfl,z0c,.cons ⟨t,h,c0,rfl,gt,sL _ _ gh,gc⟩ .nil,fun i hi=>absurd hi (Nat.not_lt_zero _),.inl rfl,sL⟩,?_⟩
  clear gt gc sL sT hl ht hc0
  rintro m σ' H' ⟨k',xs,rfl,rfl,gl,a2,L,hk,s⟩
  obtain ⟨ys,v,rfl,hy,hv⟩:=y0e a2
  have w:=z8q R hh k' L
  have we:=yEe R hh L
  refine ⟨_,rfl,_,rfl,_,rfl,l,_,_,_,rfl,rfl,SqL.of gl,zAw _ _,x,p,q,rs,qs,one,other,_,v,rfl,S.mv s,hv,fun H1 s1=>⟨_,rfl,?_⟩⟩
  have s01:=s.trans s1
  have hlt:(ys ++ [v]).length < sizeLine -> True:=fun _=>trivial
  cases he:zAh other (wk one other hs k') with
  | true =>
   obtain ⟨e1,e2⟩:=we.mp he
   exact iteF (iteF ⟨_,rfl,k l k' _ H1 (s1 _ _ gl) (a2.imp fun _ _ z=>z.mv s1.tups) L (.inl ⟨L,e1,e2⟩) s01 nl⟩)
  | false =>
   have hne:¬ EndAt one other hs k':=fun z=>by rw [we.mpr ⟨z.od,z.no⟩] at he; cases he
   have hf:ys.length % 2 = 1 -> fstP one other (wk one other hs k') ≠ none:=fun o z=>hne ⟨L,by rw [<- hy]; exact o,z⟩
   have hk6:k' <= 1000000:=by
    rcases hm with z | z
    ·have:=hBk z k' L
     omega
    ·rcases hk with e | e | e
     ·omega
     ·rw [z] at e; cases e
     ·omega
   have hly:(ys ++ [v]).length < sizeLine:=by
    rw [List.length_append,hy]
    exact Nat.lt_of_le_of_lt (show k' + 1 <= 1000001 by omega) (by decide)
   have wy:WP one other n ys.length (wk one other hs k'):=by rw [hy]; exact w
   refine iteT ⟨_,rfl,rfl,_,rfl,?_⟩
   have fin:∀ (H2:Hp) (v':V),z3z (yDe one other ys.length (wk one other hs k')) v' H2 -> Same H' H2 -> (mo = .non \/ k' + 2 <= B) -> B + 1 - (k' + 1) < B + 1 - k' -> ∃ m',m' < B + 1 - k' /\ ∃ (k:Nat) (xs:List V),m' = B + 1 - k /\ [some (V.ref x),some (V.ref h),some mo,some (V.ref l)] = [some (.ref x),some (.ref h),some mo,some (.ref l)] /\ upd H2 l (.lst (ys ++ [v] ++ [v'])) l = some (.lst xs) /\ All2 z3z (upd H2 l (.lst (ys ++ [v] ++ [v']))) (z9l one other hs k) xs /\ Live one other hs k /\ (k = 0 \/ mo = .non \/ k + 1 <= B) /\ Same H (upd H2 l (.lst (ys ++ [v] ++ [v']))):=fun H2 v' hv' s2 hc hlt=>by
    rw [hy] at hv'
    have tS:Tups H2 (upd H2 l (.lst (ys ++ [v] ++ [v']))):=Tups.set (s2 _ _ gl)
    refine ⟨_,hlt,k' + 1,_,rfl,rfl,z0c,yAe a2 (s2.tups.trans tS) (z3z.mv tS ?_),L.next hne,.inr (hc.imp_right fun z=>by omega),(s.trans s2).updN nl⟩
    exact hv'
   rcases hm with rfl | rfl
   ·have hb:=hBk rfl k' L
    refine ite2 (fun _=>?_) (fun z=>absurd (decide_eq_true rfl) z)
    refine iteT ⟨_,fun σ' H' h=>h,?_⟩
    exact ⟨_,rfl,.inl ⟨rfl,_,SqL.of (s1 _ _ gl)⟩,_,rfl,_,rfl,x,l,p,q,rs,qs,one,other,_,v,ys,n,rfl,S.mv s01,R,s1 _ _ gl,hv.mv s1.tups,wy,hn,hf,fun v' H2 hv' s2=>⟨l,_,_,rfl,rfl,s2 _ _ (s1 _ _ gl),hly,fin H2 v' hv' (s1.trans s2) (.inl rfl) (by omega)⟩⟩
   ·refine ite2 (fun z=>by have:=of_decide_eq_true z; cases this) (fun _=>?_)
    refine ⟨_,rfl,l,_,rfl,.inl (SqL.of (s1 _ _ gl)),_,rfl,_,_,rfl,rfl,_,rfl,ite2 (fun hc=>?_) (fun hc=>?_)⟩
    ·have hc':k' + 2 <= B:=by
      have:=of_decide_eq_true hc
      rw [List.length_append,hy] at this
      simp at this
      omega
     refine ⟨_,fun σ' H' h=>h,?_⟩
     exact ⟨_,rfl,.inl ⟨rfl,_,SqL.of (s1 _ _ gl)⟩,_,rfl,_,rfl,x,l,p,q,rs,qs,one,other,_,v,ys,n,rfl,S.mv s01,R,s1 _ _ gl,hv.mv s1.tups,wy,hn,hf,fun v' H2 hv' s2=>⟨l,_,_,rfl,rfl,s2 _ _ (s1 _ _ gl),hly,fin H2 v' hv' (s1.trans s2) (.inr hc') (by omega)⟩⟩
    ·have hc':B <= k' + 1:=by
      refine Nat.le_of_not_lt fun z=>hc (decide_eq_true ?_)
      rw [List.length_append,hy]
      simp
      omega
     exact ⟨_,rfl,k l k' _ H1 (s1 _ _ gl) (a2.imp fun _ _ z=>z.mv s1.tups) L (.inr ⟨rfl,hne,hc',hk.imp_right fun z=>z.resolve_left (fun y=>by cases y)⟩) s01 nl⟩
def zIw:List Str:=["sided", "heap"]
theorem zGu:FnScope zIw ["sided", "heap"] (z0b z2h):=⟨rfl,rfl,rfl,by decide +kernel,rfl,by decide +kernel,by decide +kernel⟩
def yDd (A:Adr):Sp:=fun vs H Q _=>∃ (x h p q:Addr) (rs qs:List V) (one other:List (List Int)) (hs:List Int) (m:Nat),vs = [.ref x,.ref h] /\ Sided A.c_Beside H x p q rs qs one other /\ Rul one other /\ H h = some (.tup (hs.map V.int)) /\ Hep (m:Int) hs /\ m <= 24 /\ z1m one hs = none /\
 ∀ (l:Addr) (k:Nat) (xs:List V) (H':Hp),H' l = some (.lst xs) -> All2 z3z H' (z9l one other hs k) xs -> EndAt one other hs k -> Same H H' -> H l = none -> Q (.ref l) H'
theorem zGe (T:Txt K mg A):FnOk P w K mg base CX0 9 A.a_whole_walk A.fd_whole_walk ["sided", "heap"] (yDd A):=by
 refine T.F_whole_walk.ok zGu (fun vs H Q E h=>?_) (fun cdv Ar outer s H vs Q E hr h=>?_)
 ·obtain ⟨x,h,p,q,rs,qs,one,other,hs,m,rfl,S,R,gh,hh,hm,h0,k⟩:=h
  rfl
 ·obtain ⟨x,h,p,q,rs,qs,one,other,hs,m,rfl,S,R,gh,hh,hm,h0,k⟩:=h
  refine ⟨_,(z0e (z3n (z0j (z4h T) (hr.mono (by decide)) rfl T.g_refuse_beyond T.F_refuse_beyond.kp T.b_refuse_beyond .nil z0s (z0a (z0j (z8z T) (hr.mono (by decide)) rfl T.g_sum_of T.F_sum_of.kp T.b_sum_of .nil z0s (z0a (pv 1) z0d)) (z0a (zGj (v:=.int 24) rfl T.v_MOST_ENDED.choose_spec ⟨_,rfl⟩) z0d))))
    (z0e (z3n (z0j (zAq T) (hr.mono (by decide)) rfl T.g_refuse_unkept T.F_refuse_unkept.kp T.b_refuse_unkept .nil z0s (z0a (z2j z2x (z9d (pv 0) T.cl_Beside T.mt_Beside_rules (z4q T) (hr.mono (by decide)) T.b_Beside_rules .nil z0s) z0i (fun _ _=>rfl)) (z0a (pv 1) z0d))))
    (z0f (z0p (z0j (zCu T) (hr.mono (by decide)) rfl T.g_first_places T.F_first_places.kp T.b_first_places .nil z0s (z0a (pv 0) (z0a (pv 1) (z0a z6p z0d)))))))),?_⟩
  obtain ⟨dx,hx⟩:=S.ob
  have l6:=S.l6
  refine ⟨_,rfl,h,hs,rfl,SqT.of gh,hs.sum,24,rfl,⟨by decide,by decide⟩,.inl ⟨by rw [hh.sum]; omega,by rw [hh.sum]; omega,?_⟩⟩
  refine ⟨_,rfl,x,dx,_,rfl,hx,y2d _ _ (by decide +kernel) (by decide +kernel),x,dx,p,q,rfl,hx,fun t2 H2 ht2 s2=>?_⟩
  refine ⟨t2,_,0,_,rfl,rfl,SqT.of ht2,z1l (j:=0) rfl,_,rfl,p,h,rs,one,hs,rfl,s2 _ _ S.hp,S.h2.mv s2.tups,s2 _ _ gh,by omega,h0,fun H3 s3=>?_⟩
  have s23:=s2.trans s3
  refine ⟨_,rfl,_,rfl,x,h,p,q,rs,qs,one,other,hs,(m:Int),.non,201600,rfl,S.mv s23,R,s23 _ _ gh,hh,by omega,.inl rfl,by decide,fun _ k L=>yEf R hh hm h0 L,fun l k' xs H' gl a2 L he s' nl=>?_⟩
  refine k l k' xs H' gl a2 (he.resolve_right fun z=>by cases z.1) (s23.trans s') (s23.free nl)
def yBy:List Str:=["sided", "heap"]
theorem y9f:FnScope yBy ["sided", "heap"] (z0b z5a):=⟨rfl,rfl,rfl,by decide +kernel,rfl,by decide +kernel,by decide +kernel⟩
def y9k (A:Adr):Sp:=fun vs H Q _=>∃ (x h p q:Addr) (rs qs:List V) (one other:List (List Int)) (hs:List Int) (m:Nat),vs = [.ref x,.ref h] /\ Sided A.c_Beside H x p q rs qs one other /\ Rul one other /\ H h = some (.tup (hs.map V.int)) /\ Hep (m:Int) hs /\ m <= 24 /\ z1m one hs = none /\
 ∀ (e:Addr) (H':Hp),H' e = some (.tup ((endH one other hs).map V.int)) -> Same H H' -> Q (.ref e) H'
theorem y8h (T:Txt K mg A):FnOk P w K mg base CX0 10 A.a_end_of A.fd_end_of ["sided", "heap"] (y9k A):=by
 refine T.F_end_of.ok y9f (fun vs H Q E h=>?_) (fun cdv Ar outer s H vs Q E hr h=>?_)
 ·obtain ⟨x,h,p,q,rs,qs,one,other,hs,m,rfl,S,R,gh,hh,hm,h0,k⟩:=h
  rfl
 ·obtain ⟨x,h,p,q,rs,qs,one,other,hs,m,rfl,S,R,gh,hh,hm,h0,k⟩:=h
  refine ⟨_,(z0f (z0p (z2j z2x (z2j z3c (z0j (zGe T) (hr.mono (by decide)) rfl T.g_whole_walk T.F_whole_walk.kp T.b_whole_walk .nil z0s (z0a (pv 0) (z0a (pv 1) z0d))) (zJj zAm z0i) (fun _ _=>rfl)) z0i (fun _ _=>rfl)))),?_⟩
  refine ⟨_,rfl,_,rfl,x,h,p,q,rs,qs,one,other,hs,m,rfl,S,R,gh,hh,hm,h0,fun l k' xs H' gl a2 he s nl=>?_⟩
  obtain ⟨ys,v,rfl,hy,t,e,c,rfl,g1,g2,g3⟩:=y0e a2
  refine ⟨_,rfl,l,_,_,_,rfl,rfl,SqL.of gl,zAw _ _,t,_,1,_,rfl,rfl,SqT.of g1,z1l (j:=1) rfl,k e H' ?_ s⟩
  rw [zFr he]
  exact g2
def z8w:List Str:=["sided", "n"]
theorem zEd:FnScope z8w ["sided", "n"] (z0b z1b):=⟨rfl,rfl,rfl,by decide +kernel,rfl,by decide +kernel,by decide +kernel⟩
def yGd (A:Adr):Sp:=fun vs H Q E=>∃ (x p q:Addr) (rs qs:List V) (one other:List (List Int)) (n:Int),vs = [.ref x,.int n] /\ Sided A.c_Beside H x p q rs qs one other /\ Rul one other /\
 ((∃ m:Nat,n = (m:Int) /\ m <= 16 /\ ∀ (l:Addr) (xs:List V) (H':Hp),H' l = some (.lst xs) -> All2 z5v H' ((z2a one m).map fun h=>(h,endH one other h)) xs -> Same H H' -> H l = none -> Q (.ref l) H') \/ False)
theorem z8f (T:Txt K mg A):FnOk P w K mg base CX0 29 A.a_meetings_of A.fd_meetings_of ["sided", "n"] (yGd A):=by
 refine T.F_meetings_of.ok zEd (fun vs H Q E h=>?_) (fun cdv Ar outer s H vs Q E hr h=>?_)
 ·obtain ⟨x,p,q,rs,qs,one,other,n,rfl,S,R,h⟩:=h
  rfl
 ·obtain ⟨x,p,q,rs,qs,one,other,n,rfl,S,R,h⟩:=h
  refine ⟨_,(z0e (z3n (z0j (z4h T) (hr.mono (by decide)) rfl T.g_refuse_beyond T.F_refuse_beyond.kp T.b_refuse_beyond .nil z0s (z0a (pv 1) (z0a (zGj (v:=.int 16) rfl T.v_MOST_MET.choose_spec ⟨_,rfl⟩) z0d))))
    (z0f (z0p (z2p (ls:=["heap"]) (fr:=[("sided",0)]) (z4w (z0b z1b) z8w rfl rfl (by decide +kernel)) rfl (z2q (z0j (y4v T) (hr.mono (by decide)) rfl T.g_kept_of T.F_kept_of.kp T.b_kept_of .nil z0s (z0a (z2j z2x (z9d (pv 0 (hv:=Or.inr (Or.inl rfl))) T.cl_Beside T.mt_Beside_rules (z4q T) (hr.mono (by decide)) T.b_Beside_rules .nil z0s) z0i (fun _ _=>rfl)) (z0a (pv 1) z0d)))) (fun _ _ _ _=>pgc 0 (by decide +kernel) rfl rfl) (fun _ _ _ _=>z3v) (fun _ _ _ _=>(z3f (z0a (pvc (z0b z1b) 0) (z0a (z0j (y8h T) (hr.mono (by decide)) (glc (z0b z1b)) T.g_end_of T.F_end_of.kp T.b_end_of .nil z0s (z0a (pvc (z0b z1b) 1) (z0a (pvc (z0b z1b) 0) z0d))) z0d)))))))),?_⟩
  obtain ⟨dx,hx⟩:=S.ob
  have l6:=S.l6
  rcases h with ⟨m,rfl,hm,k⟩ | z
  ·refine ⟨_,rfl,(m:Int),16,rfl,⟨by decide,by decide⟩,.inl ⟨by omega,by omega,?_⟩⟩
   refine ⟨_,rfl,x,dx,_,rfl,hx,y2d _ _ (by decide +kernel) (by decide +kernel),x,dx,p,q,rfl,hx,fun t2 H2 ht2 s2=>?_⟩
   refine ⟨t2,_,0,_,rfl,rfl,SqT.of ht2,z1l (j:=0) rfl,_,rfl,p,rs,one,(m:Int),rfl,s2 _ _ S.hp,S.h2.mv s2.tups,by omega,.inl ⟨m,rfl,by omega,fun l xs H3 gl a3 s3 nl=>?_⟩⟩
   have hlx:xs.length <= sizeLine:=by rw [<- a3.length]; exact Nat.le_trans (y7k one m) (y8w (by omega))
   refine ⟨l,rfl,⟨_,SqL.of gl⟩,z9n z5v ((z2a one m).map fun h=>(h,endH one other h)) [some (.ref x)] (by rw [List.length_map]; exact a3.length) hlx (fun _ _ _ _ s h=>h.mv s.tups) rfl gl (fun j y b H' P hy hb s' hP=>?_) (fun zs H4 l2 s4 a4 hl2=>?_)⟩
   ·obtain ⟨hs,hhs,qh,rfl,gq⟩:=a3.get hy
    rw [List.getElem?_map,hhs] at hb
    have hmem:=z3p (List.mem_of_getElem? hhs) (by omega)
    have s23:=s2.trans (s3.trans s')
    refine ⟨_,rfl,_,rfl,_,rfl,x,qh,p,q,rs,qs,one,other,hs,m,rfl,S.mv s23,R,s' _ _ gq,hmem.1,by omega,hmem.2,fun e H5 ge s5=>⟨by show 2 <= sizeLine; decide,fun T1 hT1=>?_⟩⟩
    have s6:=Same.new (o:=.tup [V.ref qh,V.ref e]) hT1
    refine hP _ _ (s5.trans s6) ?_
    rw [<- Option.some.inj hb]
    exact ⟨T1,qh,e,rfl,z0c,s6 _ _ (s5 _ _ (s' _ _ gq)),s6 _ _ ge⟩
   ·exact k l2 zs _ z0c (a4.imp fun _ _ h=>h.mv (Same.new hl2).tups) (s2.trans (s3.trans (s4.trans (Same.new hl2)))) ((s2.trans (s3.trans s4)).free hl2)
  ·exact z.elim
def z7e:List Str:=["numbers", "choices", "number"]
theorem z4i:FnScope z7e ["numbers"] (z0b z0z):=⟨rfl,rfl,rfl,by decide +kernel,rfl,by decide +kernel,by decide +kernel⟩
def y5o:Sp:=fun vs H Q _=>∃ (a:Addr) (ns:List Int),vs = [.ref a] /\ H a = some (.lst (ns.map V.int)) /\ ns.length <= 6 /\
 ∀ (l:Addr) (xs:List V) (H':Hp),H' l = some (.lst xs) -> All2 Tup1 H' (chG ns) xs -> Same H H' -> H l = none -> Q (.ref l) H'
theorem zAp (T:Txt K mg A):FnOk P w K mg base CX0 1 A.a_choices_among A.fd_choices_among ["numbers"] y5o:=by
 refine T.F_choices_among.ok z4i (fun vs H Q E h=>?_) (fun cdv Ar outer s H vs Q E hr h=>?_)
 ·obtain ⟨a,ns,rfl,ha,hln,k⟩:=h
  rfl
 ·obtain ⟨a,ns,rfl,ha,hln,k⟩:=h
  refine ⟨_,(z0e (z0t (i:=1) z4i.nd rfl (by first | exact Or.inl rfl | exact Or.inr rfl) (z3r (z0a (z3f z0d) z0d)))
    (z0e (z5i PassesOwn.never rfl (z2q (pv 0)) (z2m (i:=2) z4i.nd rfl (by first | exact Or.inl rfl | exact Or.inr rfl))
     (z0f (z0t (i:=1) z4i.nd rfl (by first | exact Or.inl rfl | exact Or.inr rfl) (z0v y2w (pv 1) (z2p (ls:=["choice"]) (fr:=[("number",2)]) (z4w (z0b z0z) z7e rfl rfl (by decide +kernel)) rfl (z2q (pv 1)) (fun _ _ _ _=>pgc 0 (by decide +kernel) rfl rfl) (fun _ _ _ _=>z3v) (fun _ _ _ _=>(z0v (zGf K rfl) (pvc (z0b z0z) 0) (z3f (z0a (pvc (z0b z0z) 1) z0d)))))))))
    (z0f (z0p (pv 1))))),?_⟩
  refine ⟨by show 0 <= sizeLine; decide,fun e he=>⟨by show 1 <= sizeLine; decide,fun l0 hl0=>?_⟩⟩
  have ne0:H l0 = none:=(Same.new he).free hl0
  refine ⟨_,rfl,a,rfl,⟨_,SqL.of ((Same.new he).trans (Same.new hl0) _ _ ha)⟩,z8t (xs:=ns.map V.int) (fun i σ' H'=>Same H H' /\ i <= 6 /\ ∃ l xs v,σ' = [some (.ref a),some (.ref l),v] /\ H' l = some (.lst xs) /\ H l = none /\ All2 Tup1 H' (chG (ns.take i)) xs) ?_ ?_ ?_ ?_⟩
  ·refine ⟨(Same.new he).trans (Same.new hl0),Nat.zero_le _,l0,[.ref e],_,rfl,z0c,ne0,.cons ⟨e,rfl,?_⟩ .nil⟩
   exact Same.new hl0 _ _ z0c
  ·rintro i σ' H' _ ⟨s,_⟩
   exact SqL.of (s _ _ ha)
  ·rintro i x σ' H' hx ⟨s,hi6,l,xs,v,rfl,gl,nl,h2⟩
   obtain ⟨z,hz,rfl⟩:=z5q hx
   have hi:=(List.getElem?_eq_some_iff.mp hz).1
   have ez:=(List.getElem?_eq_some_iff.mp hz).2
   have hlen:=zFo i (ns.take i) (by rw [List.length_take]; omega)
   have hmem:=zFp i (ns.take i) (by rw [List.length_take]; omega)
   have hlx:xs.length <= 64:=by
    rw [<- h2.length,hlen]
    exact Nat.le_trans (Nat.pow_le_pow_right (by decide) hi6) (by decide)
   refine ⟨_,rfl,_,rfl,l,rfl,⟨_,SqL.of gl⟩,z3t (xs:=xs) (fun j ys σ' H2=>Same H' H2 /\ (∃ v,σ' = [v,some (.int z)]) /\ All2 Tup1 H2 (((chG (ns.take i)).take j).map (· ++ [z])) ys) ⟨fun _ _ h=>h,⟨_,rfl⟩,.nil⟩ ?_ ?_ ?_⟩
   ·rintro j ys σ' H2 hj ⟨s2,_,h3⟩
    refine ⟨SqL.of (s2 _ _ gl),?_⟩
    rw [<- h3.length,List.length_map,List.length_take]
    refine Nat.le_trans (m:=64) (by omega) (by decide)
   ·rintro j x ys σ' H2 hx ⟨s2,⟨v,rfl⟩,h3⟩
    obtain ⟨hs,hhs,q,rfl,hq⟩:=h2.get hx
    have hj:=(List.getElem?_eq_some_iff.mp hhs).1
    have eh:=(List.getElem?_eq_some_iff.mp hhs).2
    refine ⟨_,rfl,_,rfl,by show 1 <= sizeLine; decide,fun t ht=>?_⟩
    have hl1:hs.length <= 60:=by
     have:=(hmem hs (List.mem_of_getElem? hhs)).1
     omega
    refine yEm (Same.new ht _ _ (s2 _ _ hq)) z0c hl1 fun v H3 hv s3=>?_
    have sn:=(Same.new (o:=.tup [V.int z]) ht).trans s3
    refine ⟨s2.trans sn,⟨_,rfl⟩,?_⟩
    rw [List.take_succ_eq_append_getElem hj,List.map_append,eh]
    exact (h3.mv sn.tups).snoc hv
   ·rintro ys σ' H2 ⟨s2,⟨v,rfl⟩,h3⟩ l2 hl2
    have et:(chG (ns.take i)).take xs.length = chG (ns.take i):=by rw [<- h2.length,List.take_length]
    rw [et] at h3
    have hly:ys.length <= 64:=by
     rw [<- h3.length,List.length_map,h2.length]
     exact hlx
    refine ⟨l,l2,xs,ys,rfl,rfl,Same.new hl2 _ _ (s2 _ _ gl),z0c,Nat.le_trans (m:=128) (by omega) (by decide),fun l3 hl3=>?_⟩
    have sn:=s2.trans ((Same.new (o:=.lst ys) hl2).trans (Same.new (o:=.lst (xs ++ ys)) hl3))
    refine ⟨s.trans sn,by omega,l3,xs ++ ys,_,rfl,z0c,(s.trans (s2.trans (Same.new hl2))).free hl3,?_⟩
    rw [List.take_succ_eq_append_getElem hi,ez,z8r]
    exact (h2.mv sn.tups).append (h3.mv ((Same.new hl2).trans (Same.new hl3)).tups)
  ·rintro σ' H' ⟨s,_,l,xs,v,rfl,gl,nl,h2⟩
   rw [List.length_map,List.take_length] at h2
   exact ⟨_,rfl,k l xs H' gl h2 s nl⟩
def zIq:List Str:=["rule"]
theorem zGr:FnScope zIq ["rule"] (z0b z2e):=⟨rfl,rfl,rfl,by decide +kernel,rfl,by decide +kernel,by decide +kernel⟩
def zGx:Sp:=fun vs H Q _=>∃ (a:Addr) (rs:List V),vs = [.ref a] /\ H a = some (.tup rs) /\ rs.length <= 6 /\
 ∀ (l:Addr) (xs:List V) (H':Hp),H' l = some (.lst xs) -> All2 Tup1 H' (chG (upto rs.length)) xs -> Same H H' -> H l = none -> Q (.ref l) H'
theorem z8y (T:Txt K mg A):FnOk P w K mg base CX0 2 A.a_choices_of A.fd_choices_of ["rule"] zGx:=by
 refine T.F_choices_of.ok zGr (fun vs H Q E h=>?_) (fun cdv Ar outer s H vs Q E hr h=>?_)
 ·obtain ⟨a,rs,rfl,ha,hln,k⟩:=h
  rfl
 ·obtain ⟨a,rs,rfl,ha,hln,k⟩:=h
  refine ⟨_,(z0f (z0p (z0j (zAp T) (hr.mono (by decide)) rfl T.g_choices_among T.F_choices_among.kp T.b_choices_among .nil z0s (z0a (z5r (zFk rfl) rfl T.b_list boot_list (z0a (yFn rfl T.b_range (z0a (z0o z0x rfl T.b_len PySem.boot_len (z0a (pv 0) z0d)) z0d)) z0d)) z0d)))),?_⟩
  refine ⟨_,rfl,a,_,rfl,.inr (SqT.of ha),_,rfl,fun r hr'=>⟨r,_,rfl,z0c,by omega,by omega,fun l hl=>?_⟩⟩
  rw [Int.toNat_natCast]
  refine ⟨l,upto rs.length,rfl,z0c,by rw [z9k]; exact hln,fun l2 xs H' gl h2 s nl=>?_⟩
  exact k l2 xs H' gl h2 (((Same.new hr').trans (Same.new hl)).trans s) (((Same.new hr').trans (Same.new hl)).free nl)
def y8c:List Str:=["pair"]
theorem y5j:FnScope y8c ["pair"] (z0b z4e):=⟨rfl,rfl,rfl,by decide +kernel,rfl,by decide +kernel,by decide +kernel⟩
def y5w:Sp:=fun vs H Q _=>∃ (pc:List Int × List Int) (v:V),vs = [v] /\ z5v pc v H /\ Q (.int (sgnG pc.2)) H
theorem y4w (T:Txt K mg A):FnOk P w K mg base CX0 1 A.a_sign_of A.fd_sign_of ["pair"] y5w:=by
 refine T.F_sign_of.ok y5j (fun vs H Q E h=>?_) (fun cdv Ar outer s H vs Q E hr h=>?_)
 ·obtain ⟨pc,v,rfl,hv,k⟩:=h
  rfl
 ·obtain ⟨pc,v,rfl,hv,k⟩:=h
  refine ⟨_,(z0f (z0p (yCi (z0w z7z (z0v z7i (z0o z0x rfl T.b_len PySem.boot_len (z0a (z2j z2x (pv 0) z0i (fun _ _=>rfl)) z0d)) z0i) z0i (z1d _)) z0i (zJj zAm z0i)))),?_⟩
  obtain ⟨q,a,b,rfl,g1,g2,g3⟩:=hv
  refine ⟨_,rfl,q,_,_,_,rfl,rfl,SqT.of g1,z1l (j:=1) rfl,b,_,rfl,.inr (SqT.of g3),_,_,rfl,rfl,(show (0:Int) < 2 by decide),rfl,_,rfl,?_⟩
  rw [List.length_map]
  unfold sgnG at k
  refine ite2 (fun hc=>?_) (fun hc=>?_)
  ·have e:((pc.2.length:Nat):Int) % 2 = 0:=by simpa using hc
   rw [if_pos (by omega)] at k
   exact k
  ·have e:¬ ((pc.2.length:Nat):Int) % 2 = 0:=fun z=>hc (by simpa using z)
   rw [if_neg (by omega)] at k
   exact ⟨_,rfl,k⟩
def y4r:List Str:=["ways", "n", "total", "sign", "m"]
theorem z3e:FnScope y4r ["ways"] (z0b z3l):=⟨rfl,rfl,rfl,by decide +kernel,rfl,by decide +kernel,by decide +kernel⟩
def y1r:Sp:=fun vs H Q _=>∃ (l:Addr) (n:Nat),vs = [.ref l] /\ H l = some (.lst ((wayR n).reverse.map V.int)) /\ n <= 400 /\ Q (.int (zIx (wayR n) (n + 1:Nat) (n + 3) 1 1 0)) H
theorem y1h (T:Txt K mg A):FnOk P w K mg base CX0 1 A.a_next_way A.fd_next_way ["ways"] y1r:=by
 refine T.F_next_way.ok z3e (fun vs H Q E h=>?_) (fun cdv Ar outer s H vs Q E hr h=>?_)
 ·obtain ⟨l,n,rfl,hl,hn,k⟩:=h
  rfl
 ·obtain ⟨l,n,rfl,hl,hn,k⟩:=h
  refine ⟨_,(z0e (z0t (i:=1) z3e.nd rfl (by first | exact Or.inl rfl | exact Or.inr rfl) (z0o z0x rfl T.b_len PySem.boot_len (z0a (pv 0) z0d)))
    (z0e (z0t (i:=2) z3e.nd rfl (by first | exact Or.inl rfl | exact Or.inr rfl) z0i)
    (z0e (z0t (i:=3) z3e.nd rfl (by first | exact Or.inl rfl | exact Or.inr rfl) z0i)
    (z0e (z0t (i:=4) z3e.nd rfl (by first | exact Or.inl rfl | exact Or.inr rfl) z0i)
    (z0e (z9f PassesOwn.never (z0w y8l (z0v z3q (z0v z3x (pv 4) (z0v z8g (z0v z3x z0i (pv 4)) z0i)) z0i) (pv 1) (z1d _))
     (z0e (y3h (i:=2) z3e.nd rfl (by first | exact Or.inl rfl | exact Or.inr rfl) (z0v z3x (pv 3) (z2j z3c (pv 0) (z0v z8g (pv 1) (z0v z3q (z0v z3x (pv 4) (z0v z8g (z0v z3x z0i (pv 4)) z0i)) z0i)) (fun _ _=>rfl))) zId)
    (z0e (z2z (z0w y8l (z0v z3q (z0v z3x (pv 4) (z0v z5z (z0v z3x z0i (pv 4)) z0i)) z0i) (pv 1) (z1d _))
     (z0f (y3h (i:=2) z3e.nd rfl (by first | exact Or.inl rfl | exact Or.inr rfl) (z0v z3x (pv 3) (z2j z3c (pv 0) (z0v z8g (pv 1) (z0v z3q (z0v z3x (pv 4) (z0v z5z (z0v z3x z0i (pv 4)) z0i)) z0i)) (fun _ _=>rfl))) zId)) z1a)
    (z0e (z0t (i:=3) z3e.nd rfl (by first | exact Or.inl rfl | exact Or.inr rfl) (zJj zAm (pv 3)))
    (z0f (y3h (i:=4) z3e.nd rfl (by first | exact Or.inl rfl | exact Or.inr rfl) z0i zId))))))
    (z0f (z0p (pv 2)))))))),?_⟩
  have hlen:((wayR n).reverse.map V.int).length = n + 1:=by rw [List.length_map,List.length_reverse,z7y]
  refine ⟨_,rfl,l,_,rfl,.inl (SqL.of hl),?_⟩
  rw [hlen]
  refine ⟨fun f σ' H'=>H' = H /\ ∃ (m s t:Int),σ' = [some (.ref l),some (.int ((n + 1:Nat):Int)),some (.int t),some (.int s),some (.int m)] /\ 1 <= m /\ m <= n + 2 /\ (n:Int) + 3 <= m + f /\ (s = 1 \/ s = -1) /\ zIx (wayR n) (n + 1:Nat) f m s t = zIx (wayR n) (n + 1:Nat) (n + 3) 1 1 0,⟨n + 3,rfl,1,1,0,rfl,by decide,by omega,by omega,.inl rfl,rfl⟩,?_⟩
  rintro f σ' H' ⟨eH,m,s,t,rfl,m1,m2,hf,hs,ht⟩
  subst eH
  have hw:=z7y n
  refine ⟨_,rfl,_,rfl,_,_,rfl,rfl,.inl (by decide),_,_,rfl,rfl,_,_,rfl,rfl,.inl ⟨by omega,by omega⟩,_,_,rfl,rfl,⟨by decide,by decide⟩,_,rfl,_,_,rfl,rfl,_,rfl,?_⟩
  refine ite2 (fun hA=>?_) (fun hA=>?_)
  ·have hA':zDb m <= ((n + 1:Nat):Int):=of_decide_eq_true hA
   have gA:=yCk m1
   have gB:=yCl m1
   have hsb:-(2 ^ 64) < s /\ s < 2 ^ 64:=by rcases hs with rfl | rfl <;> exact ⟨by decide,by decide⟩
   obtain ⟨g,rfl⟩:∃ g,f = g + 1:=⟨f - 1,by omega⟩
   rw [zIx,if_pos hA'] at ht
   refine ⟨fun σ3 H3=>H3 = H' /\ σ3 = [some (.ref l),some (.int ((n + 1:Nat):Int)),some (.int (if zGk m <= ((n + 1:Nat):Int) then t + s * zCr (wayR n) (zDb m - 1).toNat + s * zCr (wayR n) (zGk m - 1).toNat else t + s * zCr (wayR n) (zDb m - 1).toNat)),some (.int (-s)),some (.int (m + 1))],fun σ3 H3 ⟨e1,e3⟩=>⟨g,by omega,e1,m + 1,-s,_,e3,by omega,by omega,by omega,(by rcases hs with rfl | rfl; exact .inr rfl; exact .inl rfl),ht⟩,?_⟩
   refine ⟨_,rfl,_,rfl,_,rfl,_,rfl,_,rfl,_,rfl,_,_,rfl,rfl,.inl (by decide),_,_,rfl,rfl,_,_,rfl,rfl,.inl ⟨by omega,by omega⟩,_,_,rfl,rfl,⟨by decide,by decide⟩,_,_,rfl,rfl,l,_,_,_,rfl,rfl,SqL.of hl,yAf (q:=zDb m) hw (by omega) hA',_,_,rfl,rfl,.inl hsb,_,_,rfl,rfl,?_⟩
   refine ⟨_,rfl,_,rfl,_,_,rfl,rfl,.inl (by decide),_,_,rfl,rfl,_,_,rfl,rfl,.inl ⟨by omega,by omega⟩,_,_,rfl,rfl,⟨by decide,by decide⟩,_,rfl,_,_,rfl,rfl,_,rfl,?_⟩
   refine ite2 (fun hB=>?_) (fun hB=>?_)
   ·have hB':zGk m <= ((n + 1:Nat):Int):=of_decide_eq_true hB
    refine ⟨_,rfl,_,rfl,_,rfl,_,rfl,_,rfl,_,rfl,_,_,rfl,rfl,.inl (by decide),_,_,rfl,rfl,_,_,rfl,rfl,.inl ⟨by omega,by omega⟩,_,_,rfl,rfl,⟨by decide,by decide⟩,_,_,rfl,rfl,l,_,_,_,rfl,rfl,SqL.of hl,yAf (q:=zGk m) hw (by omega) hB',_,_,rfl,rfl,.inl hsb,_,_,rfl,rfl,?_⟩
    rw [if_pos hB']
    exact ⟨_,rfl,_,rfl,_,rfl,_,_,rfl,rfl,rfl,rfl⟩
   ·have hB':¬ zGk m <= ((n + 1:Nat):Int):=fun z=>hB (decide_eq_true z)
    rw [if_neg hB']
    exact ⟨_,rfl,_,rfl,_,rfl,_,_,rfl,rfl,rfl,rfl⟩
  ·have hA':¬ zDb m <= ((n + 1:Nat):Int):=fun z=>hA (decide_eq_true z)
   rw [y4s _ _ _ _ _ _ hA'] at ht
   refine ⟨_,rfl,?_⟩
   rw [ht]
   exact k
def y8e:List Str:=["n", "ways"]
theorem zFg:FnScope y8e ["n"] (z0b z4g):=⟨rfl,rfl,rfl,by decide +kernel,rfl,by decide +kernel,by decide +kernel⟩
def y5y:Sp:=fun vs H Q _=>∃ (n:Nat),vs = [.int n] /\ n <= 400 /\ ∀ (l:Addr) (H':Hp),H' l = some (.lst ((wayR n).reverse.map V.int)) -> Same H H' -> H l = none -> Q (.ref l) H'
theorem y4y (T:Txt K mg A):FnOk P w K mg base CX0 2 A.a_ways_to A.fd_ways_to ["n"] y5y:=by
 refine T.F_ways_to.ok zFg (fun vs H Q E h=>?_) (fun cdv Ar outer s H vs Q E hr h=>?_)
 ·obtain ⟨n,rfl,hn,k⟩:=h
  rfl
 ·obtain ⟨n,rfl,hn,k⟩:=h
  refine ⟨_,(z0e (z0t (i:=1) zFg.nd rfl (by first | exact Or.inl rfl | exact Or.inr rfl) (z3r (z0a z0i z0d)))
    (z0e (z9f PassesOwn.never (z0w y8l (z0o z0x rfl T.b_len PySem.boot_len (z0a (pv 1) z0d)) (pv 0) (z1d _))
     (z0f (z3n (z8b PySem.F.plainAttrs_list PySem.F.slot_list_append PySem.F.type_list_append z4p (pv 1) (z0a (z0j (y1h T) (hr.mono (by decide)) rfl T.g_next_way T.F_next_way.kp T.b_next_way .nil z0s (z0a (pv 1) z0d)) z0d)))))
    (z0f (z0p (pv 1))))),?_⟩
  refine ⟨by show 1 <= sizeLine; decide,fun l hl=>?_⟩
  refine ⟨fun f σ' H'=>∃ i:Nat,i <= n /\ f = n - i /\ σ' = [some (.int n),some (.ref l)] /\ H' l = some (.lst ((wayR i).reverse.map V.int)) /\ Same H H',⟨n,0,Nat.zero_le _,rfl,rfl,z0c,Same.new hl⟩,?_⟩
  rintro f σ' H' ⟨i,hi,rfl,rfl,g,s⟩
  have hlen:((wayR i).reverse.map V.int).length = i + 1:=by rw [List.length_map,List.length_reverse,z7y]
  refine ⟨_,rfl,l,_,rfl,.inl (SqL.of g),_,rfl,_,_,rfl,rfl,_,rfl,?_⟩
  rw [hlen]
  refine ite2 (fun hc=>?_) (fun hc=>?_)
  ·have hc':((i + 1:Nat):Int) <= (n:Int):=of_decide_eq_true hc
   refine ⟨fun σ3 H3=>σ3 = [some (.int n),some (.ref l)] /\ H3 l = some (.lst ((wayR (i + 1)).reverse.map V.int)) /\ Same H H3,fun σ3 H3 ⟨e1,e2,e3⟩=>⟨n - (i + 1),by omega,i + 1,by omega,rfl,e1,e2,e3⟩,?_⟩
   refine ⟨_,rfl,.inl ⟨rfl,_,SqL.of g⟩,_,rfl,l,i,rfl,g,by omega,?_⟩
   refine ⟨l,_,_,rfl,rfl,g,?_,rfl,?_,fun b o e=>?_⟩
   ·rw [hlen]
    exact Nat.lt_of_lt_of_le (m:=402) (by omega) (by decide)
   ·rw [z0c,wayR,List.reverse_cons,List.map_append]
    rfl
   ·rw [z0n (z0r e hl)]
    exact s _ _ e
  ·have hc':¬ ((i + 1:Nat):Int) <= (n:Int):=fun z=>hc (decide_eq_true z)
   have e:i = n:=by omega
   subst e
   exact ⟨_,rfl,k l H' g s hl⟩
def y4o:List Str:=["rule", "n", "ways", "total", "choice", "heap"]
theorem z4x:FnScope y4o ["rule", "n"] (z0b z3j):=⟨rfl,rfl,rfl,by decide +kernel,rfl,by decide +kernel,by decide +kernel⟩
def y1p (A:Adr):Sp:=fun vs H Q E=>∃ (p:Addr) (rs:List V) (rule:List (List Int)) (n:Int),vs = [.ref p,.int n] /\ H p = some (.tup rs) /\ All2 Tup1 H rule rs /\ rule.length <= 6 /\ zBk rule /\
 ((∃ m:Nat,n = m /\ m <= 400 /\ ∀ H',Same H H' -> Q (.int (z6k rule (wayF m) m (chG (upto rule.length)))) H') \/ False)
theorem zCt (T:Txt K mg A):FnOk P w K mg base CX0 4 A.a_count_of A.fd_count_of ["rule", "n"] (y1p A):=by
 refine T.F_count_of.ok z4x (fun vs H Q E h=>?_) (fun cdv Ar outer s H vs Q E hr h=>?_)
 ·obtain ⟨p,rs,rule,n,rfl,hp,h2,hln,hJ,h⟩:=h
  rfl
 ·obtain ⟨p,rs,rule,n,rfl,hp,h2,hln,hJ,h⟩:=h
  refine ⟨_,(z0e (z3n (z0j (z4h T) (hr.mono (by decide)) rfl T.g_refuse_beyond T.F_refuse_beyond.kp T.b_refuse_beyond .nil z0s (z0a (pv 1) (z0a (zGj (v:=.int 400) rfl T.v_MOST_COUNTED.choose_spec ⟨_,rfl⟩) z0d))))
    (z0e (z0t (i:=2) z4x.nd rfl (by first | exact Or.inl rfl | exact Or.inr rfl) (z0j (y4y T) (hr.mono (by decide)) rfl T.g_ways_to T.F_ways_to.kp T.b_ways_to .nil z0s (z0a (pv 1) z0d)))
    (z0e (z0t (i:=3) z4x.nd rfl (by first | exact Or.inl rfl | exact Or.inr rfl) z0i)
    (z0e (z5i PassesOwn.never rfl (z2q (z0j (z8y T) (hr.mono (by decide)) rfl T.g_choices_of T.F_choices_of.kp T.b_choices_of .nil z0s (z0a (pv 0) z0d))) (z2m (i:=4) z4x.nd rfl (by first | exact Or.inl rfl | exact Or.inr rfl))
     (z0e (z0t (i:=5) z4x.nd rfl (by first | exact Or.inl rfl | exact Or.inr rfl) (z0j (z5y T) (hr.mono (by decide)) rfl T.g_joined_of T.F_joined_of.kp T.b_joined_of .nil z0s (z0a (pv 0) (z0a (pv 4) z0d))))
    (z0f (z2z (z0w y8l (z0j (z8z T) (hr.mono (by decide)) rfl T.g_sum_of T.F_sum_of.kp T.b_sum_of .nil z0s (z0a (pv 5) z0d)) (pv 1) (z1d _))
     (z0f (y3h (i:=3) z4x.nd rfl (by first | exact Or.inl rfl | exact Or.inr rfl) (z0v z3x (z0j (y4w T) (hr.mono (by decide)) rfl T.g_sign_of T.F_sign_of.kp T.b_sign_of .nil z0s (z0a (z3f (z0a (pv 5) (z0a (pv 4) z0d))) z0d)) (z2j z3c (pv 2) (z0v z8g (pv 1) (z0j (z8z T) (hr.mono (by decide)) rfl T.g_sum_of T.F_sum_of.kp T.b_sum_of .nil z0s (z0a (pv 5) z0d))) (fun _ _=>rfl))) zId)) z1a))))
    (z0f (z0p (pv 3))))))),?_⟩
  rcases h with ⟨m,rfl,hm,k⟩ | z
  ·refine ⟨_,rfl,(m:Int),400,rfl,⟨by decide,by decide⟩,.inl ⟨by omega,by omega,?_⟩⟩
   refine ⟨_,rfl,m,rfl,hm,fun w H1 gw s1 nw=>?_⟩
   have hrl:=h2.length
   refine ⟨_,rfl,p,rs,rfl,s1 _ _ hp,by omega,fun cl cs H2 gc h4 s2 ncl=>?_⟩
   rw [<- hrl] at h4
   have hcl:=h4.length
   have s12:=s1.trans s2
   refine ⟨cl,rfl,⟨_,SqL.of gc⟩,z8t (xs:=cs) (fun i σ' H'=>Same H2 H' /\ i <= cs.length /\ ∃ v4 v5,σ' = [some (.ref p),some (.int m),some (.ref w),some (.int (z6k rule (wayF m) m ((chG (upto rule.length)).take i))),v4,v5]) ⟨fun _ _ z=>z,Nat.zero_le _,_,_,rfl⟩ ?_ ?_ ?_⟩
   ·rintro i σ' H' _ ⟨s',_⟩
    exact SqL.of (s' _ _ gc)
   ·rintro i x σ' H' hx ⟨s',hi',v4,v5,rfl⟩
    obtain ⟨ch,hch,c,rfl,gcc⟩:=h4.get hx
    have hi:=(List.getElem?_eq_some_iff.mp hx).1
    have s02:=s12.trans s'
    obtain ⟨cm1,cm2⟩:=zFp rule.length (upto rule.length) (z9k _) ch (List.mem_of_getElem? hch)
    have chb:∀ j ∈ ch,0 <= j /\ j < rule.length:=fun j hj=>by
     have:=y3q (cm2 j hj)
     omega
    have etake:(chG (upto rule.length)).take (i + 1) = (chG (upto rule.length)).take i ++ [ch]:=by rw [List.take_succ,hch]; rfl
    refine ⟨_,rfl,_,rfl,p,c,rs,rule,ch,rfl,s02 _ _ hp,h2.mv s02.tups,s' _ _ gcc,⟨hJ.pick (by omega),by omega⟩,chb,fun q ms H4 gq hj hl4 s4 nq=>?_⟩
    have ej:=zBb hj
    have nn:=zIf hJ ch
    rw [ej] at nn
    refine ⟨_,rfl,q,ms,rfl,SqT.of gq,_,rfl,_,_,rfl,rfl,_,rfl,ite2 (fun hc=>?_) (fun hc=>?_)⟩
    ·have hc':ms.sum <= (m:Int):=of_decide_eq_true hc
     refine ⟨_,rfl,_,rfl,_,rfl,by show 2 <= sizeLine; decide,fun T1 hT1=>?_⟩
     have s5:=Same.new (o:=.tup [V.ref q,V.ref c]) hT1
     refine ⟨(ms,ch),_,rfl,⟨T1,q,c,rfl,z0c,s5 _ _ gq,s5 _ _ (s4 _ _ (s' _ _ gcc))⟩,?_⟩
     have gw5:=s5 _ _ (s4 _ _ (s' _ _ (s2 _ _ gw)))
     have hw:=z7y m
     have hsub:(m:Int) - ms.sum = ((m - ms.sum.toNat:Nat):Int):=by omega
     have hlt:m - ms.sum.toNat < (wayR m).reverse.length:=by rw [List.length_reverse]; omega
     have hsg:-(2 ^ 64) < sgnG ch /\ sgnG ch < 2 ^ 64:=by unfold sgnG; split <;> exact ⟨by decide,by decide⟩
     refine ⟨_,rfl,_,rfl,_,rfl,q,ms,rfl,SqT.of (s5 _ _ gq),_,_,rfl,rfl,w,_,_,V.int (wayF m (m - ms.sum.toNat)),rfl,rfl,SqL.of gw5,?_,_,_,rfl,rfl,.inl hsg,_,_,rfl,rfl,?_⟩
     ·rw [hsub]
      refine z1l ?_
      unfold wayF
      rw [List.getElem?_map,List.getD_eq_getElem?_getD,List.getElem?_eq_getElem hlt]
      rfl
     ·refine ⟨s'.trans (s4.trans s5),by omega,some (.ref c),some (.ref q),?_⟩
      rw [etake,zAl,ej,if_pos hc']
      rfl
    ·have hc':¬ ms.sum <= (m:Int):=fun z=>hc (decide_eq_true z)
     refine ⟨s'.trans s4,by omega,some (.ref c),some (.ref q),?_⟩
     rw [etake,zAl,ej,if_neg hc',Int.mul_zero,Int.add_zero]
     rfl
   ·rintro σ' H' ⟨s',_,v4,v5,rfl⟩
    rw [<- hcl,List.take_length]
    exact ⟨_,rfl,k H' (s12.trans s')⟩
  ·exact z.elim
def z7d:List Str:=["_law_script", "_law_great"]
theorem z9h:FnScope z7d ["_law_script"] (z0b z1e):=⟨rfl,rfl,rfl,by decide +kernel,rfl,by decide +kernel,by decide +kernel⟩
def yDb (K:PySem.W.Frag):Sp:=fun vs H Q _=>∃ (a:Addr) (ns:List Int),vs = [.ref a] /\ SqL K H a (ns.map V.int) /\ ns.length <= 63 /\
 ∀ (st ga ca:Addr) (H':Hp),StAt H' st ga ca 0 -> H st = none -> H ga = none -> H ca = none -> Same H H' -> Q (.ref st) H'
theorem zGa (T:Txt K mg A):FnOk P w K mg base CX0 1 A.a__law_start A.fd__law_start ["_law_script"] (yDb K):=by
 refine T.F__law_start.ok z9h (fun vs H Q E h=>?_) (fun cdv Ar outer s H vs Q E hr h=>?_)
 ·obtain ⟨a,ns,rfl,hS,hl,k⟩:=h
  rfl
 ·obtain ⟨a,ns,rfl,hS,hl,k⟩:=h
  refine ⟨_,(z0e (z9y (i:=1) (ls:=["_law_cell"]) (fr:=[]) (z4w (z0b z1e) z7d rfl rfl (by decide +kernel)) rfl (z2q (pv 0)) (fun _ _ _ _=>pgc 0 (by decide +kernel) rfl rfl) (fun _ _ _ _=>y3d (z0w yHj (pvc (z0b z1e) 0) (z0v yHk z0i z0i) (z1d _))) (fun _ _ _ _=>(pvc (z0b z1e) 0)) z9h.nd rfl rfl rfl)
    (z0f (z0p (z3r (z0a (pv 1) (z0a z0i (z0a (z2p (ls:=["_law_cell"]) (fr:=[]) (z4w (z0b z1e) z7d rfl rfl (by decide +kernel)) rfl (z2q (pv 0)) (fun _ _ _ _=>pgc 0 (by decide +kernel) rfl rfl) (fun _ _ _ _=>z3v) (fun _ _ _ _=>(z0v z7i (pvc (z0b z1e) 0) z0i))) (z0a z0i z0d)))))))),?_⟩
  refine ⟨_,rfl,a,rfl,⟨_,hS⟩,z3t (xs:=ns.map V.int) (fun i ys σ' H'=>H' = H /\ (∃ v,σ' = [v]) /\ ∃ gs:List Int,ys = gs.map V.int /\ gs.length <= i /\ ∀ x ∈ gs,0 < x) ⟨rfl,⟨_,rfl⟩,[],rfl,Nat.zero_le _,fun _ hx=>nomatch hx⟩ ?_ ?_ ?_⟩
  ·rintro i ys σ' H' hi ⟨rfl,_,gs,rfl,hg,_⟩
   refine ⟨hS,?_⟩
   rw [List.length_map] at hi ⊢
   exact Nat.le_trans (Nat.le_trans hg (Nat.le_trans hi hl)) (by decide)
  ·rintro i x ys σ' H' hx ⟨rfl,⟨v,rfl⟩,gs,rfl,hg,hp⟩
   rw [List.getElem?_map] at hx
   cases hn:ns[i]? with
   | none=>rw [hn] at hx; cases hx
   | some z =>
    rw [hn] at hx
    cases hx
    refine ⟨_,rfl,_,_,rfl,rfl,⟨by decide,by decide,by decide⟩,_,_,rfl,rfl,_,rfl,?_⟩
    refine ite2 (fun hz=>⟨_,rfl,rfl,⟨_,rfl⟩,gs ++ [z],by simp,by simp; exact hg,fun y hy=>?_⟩) (fun hz=>⟨rfl,⟨_,rfl⟩,gs,rfl,Nat.le_succ_of_le hg,hp⟩)
    rcases List.mem_append.mp hy with hy | hy
    ·exact hp y hy
    ·have:y = z:=by simpa using hy
     subst this
     exact Int.lt_of_lt_of_le (by decide) (of_decide_eq_true hz)
  ·rintro ys σ' H' ⟨rfl,_,gs,rfl,hg,hp⟩ g0 hg0
   rw [List.length_map] at hg
   have s1:Same H' (upd H' g0 (.lst (gs.map V.int))):=Same.new hg0
   refine ⟨_,rfl,_,rfl,a,rfl,⟨_,s1.seq hS⟩,z3t (xs:=ns.map V.int) (fun i ys σ' H2=>H2 = upd H' g0 (.lst (gs.map V.int)) /\ (∃ v,σ' = [v]) /\ ∃ cs:List Int,ys = cs.map V.int /\ cs.length = i) ⟨rfl,⟨_,rfl⟩,[],rfl,rfl⟩ ?_ ?_ ?_⟩
   ·rintro i ys σ' H2 hi ⟨rfl,_,cs,rfl,hc⟩
    refine ⟨s1.seq hS,?_⟩
    rw [List.length_map] at hi ⊢
    exact Nat.le_trans (Nat.le_trans (Nat.le_of_eq hc) (Nat.le_trans hi hl)) (by decide)
   ·rintro i x ys σ' H2 hx ⟨rfl,⟨v,rfl⟩,cs,rfl,hc⟩
    rw [List.getElem?_map] at hx
    cases hn:ns[i]? with
    | none=>rw [hn] at hx; cases hx
    | some z =>
     rw [hn] at hx
     cases hx
     refine ⟨_,rfl,_,_,rfl,rfl,(by show (0:Int) < 2147483629; decide),rfl,⟨_,rfl⟩,cs ++ [z % 2147483629],by simp,by simp [hc]⟩
   ·rintro ys σ' H2 ⟨rfl,_,cs,rfl,hc⟩ c0 hc0
    refine ⟨by show 4 <= sizeLine; decide,fun st hst=>?_⟩
    have n1:g0 ≠ c0:=fun z=>by rw [<- z,z0c] at hc0; cases hc0
    have n2:st ≠ c0:=fun z=>by rw [z,z0c] at hst; cases hst
    have hst1:upd H' g0 (.lst (gs.map V.int)) st = none:=by rw [z0n n2] at hst; exact hst
    have n3:st ≠ g0:=fun z=>by rw [z,z0c] at hst1; cases hst1
    refine k st g0 c0 _ ⟨⟨gs,cs,0,0,z0c,?_,?_,Nat.le_trans hg hl,hp,Int.le_refl _,Int.le_refl _,Int.le_refl _⟩,n1,n3,n2⟩ ?_ hg0 ?_ (s1.trans ((Same.new hc0).trans (Same.new hst)))
    ·rw [z0n n3.symm,z0n n1,z0c]
    ·rw [z0n n2.symm,z0c]
    ·rw [z0n n3] at hst1; exact hst1
    ·rw [z0n n1.symm] at hc0; exact hc0
def y4n:List Str:=["_law_state", "_law_count", "_law_cell", "_law_stirred"]
theorem z5t:FnScope y4n ["_law_state"] (z0b z3i):=⟨rfl,rfl,rfl,by decide +kernel,rfl,by decide +kernel,by decide +kernel⟩
def yIo:Sp:=fun vs H Q _=>∃ (st ga ca:Addr) (N:Nat),vs = [.ref st] /\ StAt H st ga ca N /\ N <= 10 ^ 9 /\
 ∀ (r:Int) (H':Hp),0 <= r -> StAt H' st ga ca (N + 1) -> Keep [st,ga] H H' -> Q (.int r) H'
theorem y1g (T:Txt K mg A):FnOk P w K mg base CX0 1 A.a__law_mix A.fd__law_mix ["_law_state"] yIo:=by
 refine T.F__law_mix.ok z5t (fun vs H Q E h=>?_) (fun cdv Ar outer s H vs Q E hr h=>?_)
 ·obtain ⟨st,ga,ca,N,rfl,S,hN,k⟩:=h
  rfl
 ·obtain ⟨st,ga,ca,N,rfl,S,hN,k⟩:=h
  refine ⟨_,(z0e (yFq (pv 0) z0i yBl z0i zId zGv)
    (z0e (z0t (i:=1) z5t.nd rfl (by first | exact Or.inl rfl | exact Or.inr rfl) (z2j z3c (pv 0) z0i (fun _ _=>rfl)))
    (z0e (z0t (i:=2) z5t.nd rfl (by first | exact Or.inl rfl | exact Or.inr rfl) z0i)
    (z0e (z2z (z2b (z2j z3c (pv 0) z0i (fun _ _=>rfl)) (fun _=>rfl))
     (z0f (z0t (i:=2) z5t.nd rfl (by first | exact Or.inl rfl | exact Or.inr rfl) (z2j z3c (z2j z3c (pv 0) z0i (fun _ _=>rfl)) (z0v z7i (pv 1) (z0o z0x rfl T.b_len PySem.boot_len (z0a (z2j z3c (pv 0) z0i (fun _ _=>rfl)) z0d))) (fun _ _=>rfl)))) z1a)
    (z0e (z0t (i:=3) z5t.nd rfl (by first | exact Or.inl rfl | exact Or.inr rfl) (z0v z7i (z0v z3x (z0v z5z (z0v z5z (z0v z5z (pv 2) (z0v z3x (z0v z3x z0i (pv 1)) (pv 1))) (z0v z3x z0i (pv 1))) z0i) z0i) z0i))
    (z0f (z0p (z0v z7i (z0v z3x (z0v z5z (z0v z5z (pv 3) (z0v z3x z0i (pv 1))) z0i) z0i) z0i)))))))),?_⟩
  obtain ⟨⟨gs,cs,q,n,h1,h2,h3,h4,h5,h6,h7,h8⟩,gc,sg,sc⟩:=S
  have hn:-(2 ^ 64) < n + 1 /\ n + 1 < 2 ^ 64:=by omega
  refine ⟨_,rfl,st,_,3,_,rfl,rfl,SqL.of h1,by decide,rfl,_,_,rfl,rfl,st,_,3,3,rfl,rfl,h1,rfl,?_⟩
  have e1:upd H st (.lst ([V.ref ga,V.int q,V.ref ca,V.int n].set 3 (V.int (n + 1)))) st = some (.lst [.ref ga,.int q,.ref ca,.int (n + 1)]):=z0c
  refine ⟨_,rfl,st,_,3,_,rfl,rfl,SqL.of e1,rfl,?_⟩
  refine ⟨_,rfl,st,_,2,_,rfl,rfl,SqL.of e1,rfl,?_⟩
  have e3:upd H st (.lst ([V.ref ga,V.int q,V.ref ca,V.int n].set 3 (V.int (n + 1)))) ca = some (.lst (cs.map V.int)):=by rw [z0n sc.symm]; exact h3
  have e2:upd H st (.lst ([V.ref ga,V.int q,V.ref ca,V.int n].set 3 (V.int (n + 1)))) ga = some (.lst (gs.map V.int)):=by rw [z0n sg.symm]; exact h2
  refine ⟨_,Or.inl ⟨_,SqL.of e3,rfl⟩,?_⟩
  have fin:∀ (c:Int),(tSeq (tAsg (tOp (rI (fun _ j=>0 < j) fun i j=>V.int (i % j)) (tOp (rI CMul fun i j=>V.int (i * j)) (tOp (rI0 fun i j=>V.int (i + j)) (tOp (rI0 fun i j=>V.int (i + j)) (tOp (rI0 fun i j=>V.int (i + j)) (tVar 2) (tOp (rI CMul fun i j=>V.int (i * j)) (tOp (rI CMul fun i j=>V.int (i * j)) (tC (V.int 7)) (tVar 1)) (tVar 1))) (tOp (rI CMul fun i j=>V.int (i * j)) (tC (V.int 13)) (tVar 1))) (tC (V.int 5))) (tC (V.int 1220703125))) (tC (V.int 2147483647))) (zBx 3))
    (tRet (tOp (rI (fun _ j=>0 < j) fun i j=>V.int (i % j)) (tOp (rI CMul fun i j=>V.int (i * j)) (tOp (rI0 fun i j=>V.int (i + j)) (tOp (rI0 fun i j=>V.int (i + j)) (tVar 3) (tOp (rI CMul fun i j=>V.int (i * j)) (tC (V.int 17)) (tVar 1))) (tC (V.int 3))) (tC (V.int 39373))) (tC (V.int 1000000007)))))
    { nx:=fun _ H'=>Q .non H',rt:=Q } [some (.ref st),some (.int (n + 1)),some (.int c),none] (upd H st (.lst ([V.ref ga,V.int q,V.ref ca,V.int n].set 3 (V.int (n + 1))))):=fun c=>by
   refine ⟨_,rfl,_,rfl,_,_,rfl,rfl,.inl (by decide),_,rfl,_,_,rfl,rfl,.inr hn,_,_,rfl,rfl,_,rfl,_,_,rfl,rfl,.inl (by decide),_,_,rfl,rfl,_,_,rfl,rfl,_,_,rfl,rfl,.inr (by decide),_,_,rfl,rfl,(by show (0:Int) < 2147483647; decide),?_⟩
   refine ⟨_,rfl,_,rfl,_,_,rfl,rfl,.inl (by decide),_,_,rfl,rfl,_,_,rfl,rfl,_,_,rfl,rfl,.inr (by decide),_,_,rfl,rfl,(by show (0:Int) < 1000000007; decide),?_⟩
   exact k _ _ (Int.emod_nonneg _ (by decide)) ⟨⟨gs,cs,q,n + 1,e1,e2,e3,h4,h5,h6,by omega,by omega⟩,gc,sg,sc⟩ (Keep.set (by simp))
  cases hc:cs with
  | nil =>
   refine iteF ?_
   exact fin 5
  | cons c0 cr =>
   refine iteT ?_
   rw [hc] at e3
   refine ⟨_,rfl,st,_,2,_,rfl,rfl,SqL.of e1,rfl,_,rfl,_,rfl,st,_,2,_,rfl,rfl,SqL.of e1,rfl,ca,_,rfl,.inl (SqL.of e3),_,_,rfl,rfl,?_,?_⟩
   ·rw [List.length_map]; simp only [List.length_cons]; omega
   ·have hpos:(0:Int) < ((c0 :: cr).length:Int):=by simp only [List.length_cons]; omega
    rw [List.length_map]
    have hm0:=Int.emod_nonneg (n + 1) (Int.ne_of_gt hpos)
    have hm1:=Int.emod_lt_of_pos (n + 1) hpos
    obtain ⟨j,hj⟩:∃ j:Nat,(n + 1) % ((c0 :: cr).length:Int) = (j:Int):=⟨((n + 1) % ((c0 :: cr).length:Int)).toNat,by omega⟩
    have hjl:j < (c0 :: cr).length:=by omega
    refine ⟨ca,_,_,_,rfl,rfl,SqL.of e3,by rw [hj]; exact z1l (v:=V.int ((c0 :: cr)[j])) (by rw [List.getElem?_map,List.getElem?_eq_getElem hjl]; rfl),?_⟩
    exact fin _
def y1d:List Str:=["_law_state", "_law_many", "_law_told", "_law_size"]
theorem z4n:FnScope y1d ["_law_state", "_law_many"] (z0b z2r):=⟨rfl,rfl,rfl,by decide +kernel,rfl,by decide +kernel,by decide +kernel⟩
def yGb:Sp:=fun vs H Q _=>∃ (st ga ca:Addr) (N:Nat) (m:Int),vs = [.ref st,.int m] /\ StAt H st ga ca N /\ N <= 10 ^ 8 /\ 0 < m /\ m <= 10 ^ 60 /\
 ∀ (r:Int) (H':Hp),0 <= r -> r < m -> StAt H' st ga ca (N + 7) -> Keep [st,ga] H H' -> Q (.int r) H'
theorem z3a (T:Txt K mg A):FnOk P w K mg base CX0 2 A.a__law_draw A.fd__law_draw ["_law_state", "_law_many"] yGb:=by
 refine T.F__law_draw.ok z4n (fun vs H Q E h=>?_) (fun cdv Ar outer s H vs Q E hr h=>?_)
 ·obtain ⟨st,ga,ca,N,m,rfl,S,hN,hm0,hm1,k⟩:=h
  rfl
 ·obtain ⟨st,ga,ca,N,m,rfl,S,hN,hm0,hm1,k⟩:=h
  refine ⟨_,(z0e (z2z (PW.pt (y3i (z0w z7z (z2j z3c (pv 0) z0i (fun _ _=>rfl)) z0i (z1d _)) (zGn (z2b (z2j z3c (pv 0) z0i (fun _ _=>rfl)) (fun _=>rfl)))))
     (z0f (y3g (z8b PySem.F.plainAttrs_list PySem.F.slot_list_pop PySem.F.type_list_pop yBx (z2j z3c (pv 0) z0i (fun _ _=>rfl)) (z0a z0i z0d)) (yDt (pv 0) z0i zGv))) z1a)
    (z0e (z2z (z0w yFk (z2j z3c (pv 0) z0i (fun _ _=>rfl)) z0i (z1d _))
     (z0e (z0t (i:=2) z4n.nd rfl (by first | exact Or.inl rfl | exact Or.inr rfl) (z0v z7i (z2j z3c (pv 0) z0i (fun _ _=>rfl)) (pv 1)))
    (z0e (y3g (z0v z3q (z2j z3c (pv 0) z0i (fun _ _=>rfl)) (pv 1)) (yDt (pv 0) z0i zGv))
    (z0f (z0p (pv 2))))) z1a)
    (z0e (z0t (i:=2) z4n.nd rfl (by first | exact Or.inl rfl | exact Or.inr rfl) z0i)
    (z0e (z0t (i:=3) z4n.nd rfl (by first | exact Or.inl rfl | exact Or.inr rfl) z0i)
    (z0e (z9f PassesOwn.never (z0w y5a (pv 3) (pv 1) (z1d _))
     (z0e (z0t (i:=2) z4n.nd rfl (by first | exact Or.inl rfl | exact Or.inr rfl) (z0v z5z (z0v z3x (pv 2) z0i) (z0j (y1g T) (hr.mono (by decide)) rfl T.g__law_mix T.F__law_mix.kp T.b__law_mix .nil z0s (z0a (pv 0) z0d))))
    (z0f (z0t (i:=3) z4n.nd rfl (by first | exact Or.inl rfl | exact Or.inr rfl) (z0v z3x (pv 3) z0i)))))
    (z0f (z0p (z0v z7i (pv 2) (pv 1))))))))),?_⟩
  obtain ⟨⟨gs,cs,q,n,h1,h2,h3,h4,h5,h6,h7,h8⟩,gc,sg,sc⟩:=S
  have hb:∀ (g:List Int) (x:Int) (H':Hp),H' = upd (upd H ga (.lst (g.map V.int))) st (.lst [.ref ga,.int x,.ref ca,.int n]) -> H' st = some (.lst [.ref ga,.int x,.ref ca,.int n]) /\ H' ga = some (.lst (g.map V.int)) /\ H' ca = some (.lst (cs.map V.int)) /\ Keep [st,ga] H H':=fun g x H' e=>by
   subst e
   refine ⟨z0c,by rw [z0n sg.symm,z0c],by rw [z0n sc.symm,z0n gc.symm]; exact h3,fun b o e hn=>?_⟩
   have n1:b ≠ st:=fun z=>hn (by simp [z])
   have n2:b ≠ ga:=fun z=>hn (by simp [z])
   rw [z0n n1,z0n n2]
   exact e
  refine zAb (fun σ' H'=>σ' = [some (.ref st),some (.int m),none,none] /\ ∃ (g:List Int) (x:Int),H' st = some (.lst [.ref ga,.int x,.ref ca,.int n]) /\ H' ga = some (.lst (g.map V.int)) /\ H' ca = some (.lst (cs.map V.int)) /\ Keep [st,ga] H H' /\ g.length <= 63 /\ (∀ x ∈ g,0 < x) /\ 0 <= x) (fun nx hnx=>?_) ?_
  ·have skip:nx [some (.ref st),some (.int m),none,none] H:=hnx _ _ ⟨rfl,gs,q,h1,h2,h3,Keep.refl _ _,h4,h5,h6⟩
   refine ⟨_,rfl,st,_,1,_,rfl,rfl,SqL.of h1,rfl,rfl,_,rfl,?_⟩
   refine ite2 (fun hq=>?_) (fun hq=>iteF skip)
   have hq0:q = 0:=by simpa using hq
   subst hq0
   refine ⟨_,rfl,st,_,0,_,rfl,rfl,SqL.of h1,rfl,_,.inl ⟨_,SqL.of h2,rfl⟩,?_⟩
   cases gs with
   | nil=>exact iteF skip
   | cons g0 gr =>
    refine iteT ?_
    have eg:upd H ga (.lst ((V.int g0 :: gr.map V.int).eraseIdx 0)) st = some (.lst [.ref ga,.int 0,.ref ca,.int n]):=by rw [z0n sg]; exact h1
    refine ⟨_,rfl,st,_,0,_,rfl,rfl,SqL.of h1,rfl,.inl ⟨rfl,_,SqL.of h2⟩,ga,_,0,0,V.int g0,rfl,rfl,h2,by decide,by decide,(by simp [seqIndex?]),rfl,?_⟩
    refine ⟨_,rfl,st,_,1,1,rfl,rfl,eg,rfl,?_⟩
    obtain ⟨b1,b2,b3,b4⟩:=hb gr g0 _ rfl
    exact hnx _ _ ⟨rfl,gr,g0,b1,b2,b3,b4,by simp only [List.length_cons] at h4; omega,fun y hy=>h5 y (List.mem_cons_of_mem _ hy),Int.le_of_lt (h5 g0 List.mem_cons_self)⟩
  ·rintro σ1 H1 ⟨rfl,g,x,c1,c2,c3,c4,c5,c6,c7⟩
   refine ⟨_,rfl,st,_,1,_,rfl,rfl,SqL.of c1,rfl,_,_,rfl,rfl,_,rfl,?_⟩
   refine ite2 (fun hx=>?_) (fun hx=>?_)
   ·refine ⟨_,rfl,st,_,1,_,rfl,rfl,SqL.of c1,rfl,_,rfl,_,_,rfl,rfl,hm0,?_⟩
    refine ⟨_,rfl,st,_,1,_,rfl,rfl,SqL.of c1,rfl,_,rfl,_,_,rfl,rfl,⟨hm0,Int.le_trans hm1 (by decide)⟩,?_⟩
    refine ⟨_,rfl,st,_,1,1,rfl,rfl,c1,rfl,?_⟩
    refine ⟨_,rfl,k _ _ (Int.emod_nonneg _ (Int.ne_of_gt hm0)) (Int.emod_lt_of_pos _ hm0) ⟨⟨g,cs,x / m,n,z0c,by rw [z0n sg.symm]; exact c2,by rw [z0n sc.symm]; exact c3,c5,c6,Int.ediv_nonneg c7 (Int.le_of_lt hm0),h7,by omega⟩,gc,sg,sc⟩ (c4.trans (Keep.set (by simp)))⟩
   ·refine ⟨fun mm σ2 H2=>∃ (j:Nat) (told:Int),j <= 7 /\ mm = 7 - j /\ σ2 = [some (.ref st),some (.int m),some (.int told),some (.int (1000000007 ^ j))] /\ StAt H2 st ga ca (N + j) /\ Keep [st,ga] H H2,
     ⟨7,0,0,by decide,rfl,rfl,⟨⟨g,cs,x,n,c1,c2,c3,c5,c6,c7,h7,by omega⟩,gc,sg,sc⟩,c4⟩,?_⟩
    rintro mm σ2 H2 ⟨j,told,hj,rfl,rfl,S2,k2⟩
    refine ⟨_,rfl,_,rfl,_,_,rfl,rfl,_,rfl,?_⟩
    refine ite2 (fun hlt=>?_) (fun hlt=>?_)
    ·have hlt':(1000000007:Int) ^ j < m:=of_decide_eq_true hlt
     have hj6:j < 7:=by
      rcases Nat.lt_or_ge j 7 with z | z
      ·exact z
      ·have e7:j = 7:=by omega
       subst e7
       exact absurd (Int.lt_of_lt_of_le hlt' hm1) (by decide)
     refine ⟨fun σ3 H3=>∃ (told:Int),σ3 = [some (.ref st),some (.int m),some (.int told),some (.int (1000000007 ^ (j + 1)))] /\ StAt H3 st ga ca (N + (j + 1)) /\ Keep [st,ga] H H3,fun σ3 H3 ⟨td,e3,S3,k3⟩=>⟨7 - (j + 1),by omega,j + 1,td,hj6,rfl,e3,S3,k3⟩,?_⟩
     refine ⟨_,rfl,_,_,rfl,rfl,.inr (by decide),_,rfl,st,ga,ca,N + j,rfl,S2,by omega,fun r H3 hr0 S3 k3=>?_⟩
     refine ⟨_,_,rfl,rfl,?_⟩
     refine ⟨_,rfl,_,_,rfl,rfl,.inr (by decide),?_⟩
     refine ⟨told * 1000000007 + r,?_,S3,k2.trans k3⟩
     show [some (V.ref st),some (V.int m),some (V.int _),some (V.int (1000000007 ^ j * 1000000007))] = _
     rw [<- Int.pow_succ]
    ·refine ⟨_,rfl,_,rfl,_,_,rfl,rfl,hm0,?_⟩
     exact k _ _ (Int.emod_nonneg _ (Int.ne_of_gt hm0)) (Int.emod_lt_of_pos _ hm0) (S2.mono (by omega)) k2
def y1e:List Str:=["_law_left", "_law_right", "_law_split", "_law_levels", "_law_base", "_law_by", "_law_ones", "_law_others", "_law_level"]
theorem z2i:FnScope y1e ["_law_left", "_law_right", "_law_split", "_law_levels"] (z0b z2s):=⟨rfl,rfl,rfl,by decide +kernel,rfl,by decide +kernel,by decide +kernel⟩
def yGc:Sp:=fun vs H Q _=>∃ (L R:Nat) (sp:Bool) (lv:Addr) (lev:List Nat),vs = [.int L,.int R,.bl sp,.ref lv] /\ H lv = some (.lst (lev.map natV)) /\ (1 <= L /\ L <= 8 /\ 1 <= R /\ R <= 8) /\ (sp = true -> R * (L / R) = L /\ R < L) /\ lev.length <= 60 /\ (∀ v ∈ lev,v <= 2) /\
 ∀ (p o1 o2:Addr) (xs ys:List V) (m n:Nat) (H':Hp),H' p = some (.tup [.ref o1,.ref o2]) -> H' o1 = some (.lst xs) -> H' o2 = some (.lst ys) -> (⟨L,R,m,n,sp,lev⟩:LD).Ok -> All2 Lst1 H' (lev.map (⟨L,R,m,n,sp,lev⟩:LD).lrow) xs -> All2 Lst1 H' (lev.map (⟨L,R,m,n,sp,lev⟩:LD).rrow) ys -> Same H H' -> Q (.ref p) H'
theorem zJb (T:Txt K mg A):FnOk P w K mg base CX0 1 A.a__law_lane A.fd__law_lane ["_law_left", "_law_right", "_law_split", "_law_levels"] yGc:=by
 refine T.F__law_lane.ok z2i (fun vs H Q E h=>?_) (fun cdv Ar outer s H vs Q E hr h=>?_)
 ·obtain ⟨L,R,sp,lv,lev,rfl,hlv,hb,hsp,hl,hv,k⟩:=h
  rfl
 ·obtain ⟨L,R,sp,lv,lev,rfl,hlv,hb,hsp,hl,hv,k⟩:=h
  refine ⟨_,(z0e (z0t (i:=4) z2i.nd rfl (by first | exact Or.inl rfl | exact Or.inr rfl) (z0v z3x (pv 0) (pv 1)))
    (z0e (z5i PassesOwn.never rfl (y8r rfl T.b_range (z0a z0i (z0a z0i z0d))) (z2m (i:=5) z2i.nd rfl (by first | exact Or.inl rfl | exact Or.inr rfl))
     (z0f (z9f PassesOwn.never (PW.pt (y3i (z0w z7z (z0v z7i (pv 0) (pv 5)) z0i (z1d _)) (zGn (z0w z7z (z0v z7i (pv 1) (pv 5)) z0i (z1d _)))))
     (z0e (z0t (i:=0) z2i.nd rfl (by first | exact Or.inl rfl | exact Or.inr rfl) (z0v z3q (pv 0) (pv 5)))
    (z0e (z0t (i:=1) z2i.nd rfl (by first | exact Or.inl rfl | exact Or.inr rfl) (z0v z3q (pv 1) (pv 5)))
    (z0f (z0t (i:=4) z2i.nd rfl (by first | exact Or.inl rfl | exact Or.inr rfl) (z0v z3q (pv 4) (pv 5)))))))))
    (z0e (yDv (i:=0) (j:=1) rfl z2i.nd rfl rfl (by decide) rfl rfl (z0a (z0v z3q (pv 4) (pv 1)) (z0a (z0v z3q (pv 4) (pv 0)) z0d)) rfl)
    (z0e (z0t (i:=6) z2i.nd rfl (by first | exact Or.inl rfl | exact Or.inr rfl) (z3r z0d))
    (z0e (z0t (i:=7) z2i.nd rfl (by first | exact Or.inl rfl | exact Or.inr rfl) (z3r z0d))
    (z0e (z5i PassesOwn.never rfl (z2q (pv 3)) (z2m (i:=8) z2i.nd rfl (by first | exact Or.inl rfl | exact Or.inr rfl))
     (z0f (z2z (z2b (pv 2) (fun _=>rfl))
     (z0e (z3n (z8b PySem.F.plainAttrs_list PySem.F.slot_list_append PySem.F.type_list_append z4p (pv 6) (z0a (z0v zJe (z3r (z0a (pv 0) z0d)) (pv 8)) z0d)))
    (z0f (z3n (z8b PySem.F.plainAttrs_list PySem.F.slot_list_append PySem.F.type_list_append z4p (pv 7) (z0a (y3a yFx (z0v y2w (z3r (z0a (pv 0) z0d)) (z0v zJe (z3r (z0a (pv 1) z0d)) (z0v z3q (pv 0) (pv 1)))) y8t (y8u (z2j z3c (z3r (z0a z0i (z0a z0i (z0a (z0v z5z z0i (z0v z3q (pv 0) (pv 1))) z0d)))) (pv 8) (fun _ _=>rfl)))) z0d))))) (z0e (z3n (z8b PySem.F.plainAttrs_list PySem.F.slot_list_append PySem.F.type_list_append z4p (pv 6) (z0a (z0v zJe (z3r (z0a (pv 0) z0d)) (z0v z3x (pv 8) (z0v z3q (pv 4) (pv 0)))) z0d)))
    (z0f (z3n (z8b PySem.F.plainAttrs_list PySem.F.slot_list_append PySem.F.type_list_append z4p (pv 7) (z0a (z0v zJe (z3r (z0a (pv 1) z0d)) (z0v z3x (pv 8) (z0v z3q (pv 4) (pv 1)))) z0d))))))))
    (z0f (z0p (z3f (z0a (pv 6) (z0a (pv 7) z0d))))))))))),?_⟩
  refine ⟨_,rfl,_,rfl,_,_,rfl,rfl,.inl ⟨by omega,by omega⟩,?_⟩
  refine ⟨2,9,rfl,⟨by decide,by decide,by decide,by decide⟩,zBv (lo:=2) (n:=7) (fun i σ' H'=>H' = H /\ ∃ (l r m:Nat) (v:Option V),σ' = [some (.int l),some (.int r),some (.bl sp),some (.ref lv),some (.int ((l * r * m:Nat):Int)),v,none,none,none] /\ l * m = L /\ r * m = R) ⟨rfl,L,R,1,none,?_,Nat.mul_one _,Nat.mul_one _⟩ ?_ ?_⟩
  ·show [some (V.int L),some (V.int R),some (V.bl sp),some (V.ref lv),some (V.int ((L:Int) * (R:Int))),none,none,none,none] = _
   rw [Nat.mul_one,Int.natCast_mul]
  ·rintro i σ' H' hi ⟨rfl,l,r,m,v,rfl,e1,e2⟩
   have hby:(0:Int) < 2 + (i:Int):=by omega
   refine ⟨fun mm σ2 H2=>H2 = H' /\ ∃ (l r m:Nat),mm = l /\ σ2 = [some (.int l),some (.int r),some (.bl sp),some (.ref lv),some (.int ((l * r * m:Nat):Int)),some (.int (2 + (i:Int))),none,none,none] /\ l * m = L /\ r * m = R,⟨l,rfl,l,r,m,rfl,rfl,e1,e2⟩,?_⟩
   rintro l σ2 H2 ⟨rfl,_,r,m,rfl,rfl,e1,e2⟩
   refine ⟨_,rfl,_,rfl,_,_,rfl,rfl,hby,rfl,_,rfl,?_⟩
   refine ite2 (fun h1=>?_) (fun h1=>iteF ⟨rfl,_,r,m,_,rfl,e1,e2⟩)
   refine ⟨_,rfl,_,rfl,_,_,rfl,rfl,hby,rfl,_,rfl,?_⟩
   refine ite2 (fun h2=>?_) (fun h2=>⟨rfl,_,r,m,_,rfl,e1,e2⟩)
   have d1:(l:Int) % (2 + (i:Int)) = 0:=by have:=of_decide_eq_true h1; injection this
   have d2:(r:Int) % (2 + (i:Int)) = 0:=by have:=of_decide_eq_true h2; injection this
   have c1:((2 + i:Nat):Int) = 2 + (i:Int):=by omega
   rw [<- c1] at d1 d2
   obtain ⟨l',rfl⟩:(2 + i) ∣ l:=Nat.dvd_of_mod_eq_zero (by exact_mod_cast d1)
   obtain ⟨r',rfl⟩:(2 + i) ∣ r:=Nat.dvd_of_mod_eq_zero (by exact_mod_cast d2)
   have q1:(((2 + i) * l':Nat):Int) / (2 + (i:Int)) = (l':Int):=by
    rw [<- c1,<- Int.natCast_ediv,Nat.mul_div_cancel_left _ (by omega)]
   have q2:(((2 + i) * r':Nat):Int) / (2 + (i:Int)) = (r':Int):=by
    rw [<- c1,<- Int.natCast_ediv,Nat.mul_div_cancel_left _ (by omega)]
   have q3:(((2 + i) * l' * ((2 + i) * r') * m:Nat):Int) / (2 + (i:Int)) = ((l' * r' * ((2 + i) * m):Nat):Int):=by
    have e:(2 + i) * l' * ((2 + i) * r') * m = (2 + i) * (l' * r' * ((2 + i) * m)):=by
     simp only [Nat.mul_assoc,Nat.mul_left_comm,Nat.mul_comm]
    rw [<- c1,<- Int.natCast_ediv,e,Nat.mul_div_cancel_left _ (by omega)]
   have l0:0 < l':=by
    rcases Nat.eq_zero_or_pos l' with z | z
    ·subst z; simp at e1; omega
    ·exact z
   refine ⟨fun σ3 H3=>H3 = H2 /\ σ3 = [some (.int l'),some (.int r'),some (.bl sp),some (.ref lv),some (.int ((l' * r' * ((2 + i) * m):Nat):Int)),some (.int (2 + (i:Int))),none,none,none],?_,?_⟩
   ·rintro σ3 H3 ⟨rfl,rfl⟩
    refine ⟨l',?_,rfl,l',r',(2 + i) * m,rfl,rfl,?_,?_⟩
    ·have:2 * l' <= (2 + i) * l':=Nat.mul_le_mul_right _ (by omega)
     omega
    ·rw [<- e1,Nat.mul_comm (2 + i) l',Nat.mul_assoc]
    ·rw [<- e2,Nat.mul_comm (2 + i) r',Nat.mul_assoc]
   ·have hb100:(2 + (i:Int)) <= 10 ^ 100:=Int.le_trans (show 2 + (i:Int) <= 9 by omega) (by decide)
    refine ⟨_,rfl,_,rfl,_,_,rfl,rfl,⟨hby,hb100⟩,_,rfl,_,rfl,_,_,rfl,rfl,⟨hby,hb100⟩,_,rfl,_,rfl,_,_,rfl,rfl,⟨hby,hb100⟩,rfl,?_⟩
    show [some (V.int (((2 + i) * l':Nat) / (2 + (i:Int)))),some (V.int (((2 + i) * r':Nat) / (2 + (i:Int)))),some (V.bl sp),some (V.ref lv),some (V.int (((2 + i) * l' * ((2 + i) * r') * m:Nat) / (2 + (i:Int)))),some (V.int (2 + (i:Int))),none,none,none] = _
    rw [q1,q2,q3]
  ·rintro σ' H' ⟨rfl,l,r,m,v,rfl,e1,e2⟩
   have l0:0 < l:=by
    rcases Nat.eq_zero_or_pos l with z | z
    ·subst z; simp at e1; omega
    ·exact z
   have r0:0 < r:=by
    rcases Nat.eq_zero_or_pos r with z | z
    ·subst z; simp at e2; omega
    ·exact z
   have m0:0 < m:=by
    rcases Nat.eq_zero_or_pos m with z | z
    ·subst z; simp at e1; omega
    ·exact z
   have ll:l <= L:=by rw [<- e1]; exact Nat.le_mul_of_pos_right _ m0
   have rl:r <= R:=by rw [<- e2]; exact Nat.le_mul_of_pos_right _ m0
   have b100:∀ n:Nat,n <= 8 -> (n:Int) <= 10 ^ 100:=fun n hn=>Int.le_trans (show (n:Int) <= 8 by omega) (by decide)
   have q1:((l * r * m:Nat):Int) / (r:Int) = (L:Int):=by
    rw [<- Int.natCast_ediv,<- e1,show l * r * m = r * (l * m) by rw [Nat.mul_comm l r,Nat.mul_assoc],Nat.mul_div_cancel_left _ r0]
   have q2:((l * r * m:Nat):Int) / (l:Int) = (R:Int):=by
    rw [<- Int.natCast_ediv,<- e2,Nat.mul_assoc,Nat.mul_div_cancel_left _ l0]
   have q3:((l * r * m:Nat):Int) / (L:Int) = (r:Int):=by
    rw [<- Int.natCast_ediv,<- e1,show l * r * m = l * m * r by rw [Nat.mul_assoc,Nat.mul_comm r m,<- Nat.mul_assoc],Nat.mul_div_cancel_left _ (Nat.mul_pos l0 m0)]
   have q4:((l * r * m:Nat):Int) / (R:Int) = (l:Int):=by
    rw [<- Int.natCast_ediv,<- e2,show l * r * m = r * m * l by rw [Nat.mul_comm l r,Nat.mul_assoc,Nat.mul_comm l m,<- Nat.mul_assoc],Nat.mul_div_cancel_left _ (Nat.mul_pos r0 m0)]
   have q5:(L:Int) / (R:Int) = ((L / R:Nat):Int):=(Int.natCast_ediv L R).symm
   have okD:(⟨L,R,r,l,sp,lev⟩:LD).Ok:=⟨hb.1,hb.2.1,hb.2.2.1,hb.2.2.2,by show r <= 8; omega,by show l <= 8; omega,by show L * r = R * l; rw [<- e1,<- e2,Nat.mul_assoc,Nat.mul_comm m r,Nat.mul_comm l],hsp,hv,rl,ll⟩
   refine ⟨_,rfl,_,rfl,_,_,rfl,rfl,⟨by omega,b100 r (by omega)⟩,_,rfl,_,rfl,_,_,rfl,rfl,⟨by omega,b100 l (by omega)⟩,_,_,rfl,?_⟩
   dsimp only
   rw [q1,q2]
   refine ⟨by show 0 <= sizeLine; decide,fun o1 ho1=>⟨by show 0 <= sizeLine; decide,fun o2 ho2=>?_⟩⟩
   have s2:=(Same.new (o:=.lst []) ho1).trans (Same.new (o:=.lst []) ho2)
   have g1:=Same.new (o:=.lst []) ho2 _ _ (z0c (H:=H') (a:=o1) (o:=.lst []))
   have g2:=z0c (H:=upd H' o1 (.lst [])) (a:=o2) (o:=.lst [])
   have n12:o1 ≠ o2:=z0r (z0c (H:=H') (a:=o1) (o:=.lst [])) ho2
   have no2:H' o2 = none:=(Same.new (o:=.lst []) ho1).free ho2
   generalize upd (upd H' o1 (.lst [])) o2 (.lst []) = H2 at s2 g1 g2
   refine ⟨_,rfl,lv,rfl,⟨_,SqL.of (s2 _ _ hlv)⟩,z8t (xs:=lev.map natV) (fun i σ' H3=>(∃ v w,σ' = [some (.int L),some (.int R),some (.bl sp),some (.ref lv),some (.int ((l * r * m:Nat):Int)),v,some (.ref o1),some (.ref o2),w]) /\ Same H' H3 /\ ∃ xs ys,H3 o1 = some (.lst xs) /\ H3 o2 = some (.lst ys) /\ All2 (LstN [o1,o2]) H3 ((lev.take i).map (⟨L,R,r,l,sp,lev⟩:LD).lrow) xs /\ All2 (LstN [o1,o2]) H3 ((lev.take i).map (⟨L,R,r,l,sp,lev⟩:LD).rrow) ys) ⟨⟨_,_,rfl⟩,s2,[],[],g1,g2,.nil,.nil⟩ ?_ ?_ ?_⟩
   ·rintro i σ' H3 _ ⟨_,s3,_⟩
    exact SqL.of (s3 _ _ hlv)
   ·rintro i x σ' H3 hx ⟨⟨w1,w2,rfl⟩,s3,xs,ys,f1,f2,A1,A2⟩
    obtain ⟨v,hv',rfl⟩:=yHe hx
    have hv2:v <= 2:=hv v (List.mem_of_getElem? hv')
    have hi:=(List.getElem?_eq_some_iff.mp hv').1
    have xl:xs.length < sizeLine:=by
     rw [<- A1.length,List.length_map,List.length_take]
     exact Nat.lt_of_lt_of_le (show _ < 100 by omega) (by decide)
    have yl:ys.length < sizeLine:=by
     rw [<- A2.length,List.length_map,List.length_take]
     exact Nat.lt_of_lt_of_le (show _ < 100 by omega) (by decide)
    have fin:∀ (a b:Addr) (H5:Hp),Keep [o1,o2] H3 H5 -> H5 o1 = some (.lst (xs ++ [.ref a])) -> H5 o2 = some (.lst (ys ++ [.ref b])) -> a ∉ [o1,o2] -> b ∉ [o1,o2] -> H5 a = some (.lst (((⟨L,R,r,l,sp,lev⟩:LD).lrow v).map V.int)) -> H5 b = some (.lst (((⟨L,R,r,l,sp,lev⟩:LD).rrow v).map V.int)) ->
      Same H' H5 /\ ∃ xs ys,H5 o1 = some (.lst xs) /\ H5 o2 = some (.lst ys) /\ All2 (LstN [o1,o2]) H5 ((lev.take (i + 1)).map (⟨L,R,r,l,sp,lev⟩:LD).lrow) xs /\ All2 (LstN [o1,o2]) H5 ((lev.take (i + 1)).map (⟨L,R,r,l,sp,lev⟩:LD).rrow) ys:=fun a b H5 K5 e1 e2 na nb ea eb=>by
     refine ⟨fun c o e=>K5 _ _ (s3 _ _ e) (y2q ho1 no2 e),_,_,e1,e2,?_,?_⟩
     ·rw [List.take_succ,hv',List.map_append]
      exact (A1.mvN K5).snoc ⟨a,rfl,na,ea⟩
     ·rw [List.take_succ,hv',List.map_append]
      exact (A2.mvN K5).snoc ⟨b,rfl,nb,eb⟩
    refine ⟨_,rfl,sp,rfl,?_⟩
    cases sp with
    | true =>
     refine iteT ⟨_,rfl,.inl ⟨rfl,_,SqL.of f1⟩,_,rfl,by show 1 <= sizeLine; decide,fun a1 ha1=>⟨_,rfl,a1,(v:Int),[V.int (L:Int)],rfl,rfl,z0c,by omega,by omega,?_,fun a2 ha2=>?_⟩⟩
     ·show 1 * (v:Int).toNat <= sizeLine
      exact Nat.le_trans (m:=2) (by omega) (by decide)
     rw [Int.toNat_natCast,zBh]
     have s4:=(Same.new (o:=.lst [V.int (L:Int)]) ha1).trans (Same.new (o:=.lst ((List.replicate v (L:Int)).map V.int)) ha2)
     have ga2:=z0c (H:=upd H3 a1 (.lst [V.int (L:Int)])) (a:=a2) (o:=.lst ((List.replicate v (L:Int)).map V.int))
     have na2:a2 ∉ [o1,o2]:=zFy (Same.new ha1 _ _ f1) (Same.new ha1 _ _ f2) ha2
     generalize upd (upd H3 a1 (.lst [V.int (L:Int)])) a2 (.lst ((List.replicate v (L:Int)).map V.int)) = H4 at s4 ga2
     refine ⟨o1,_,_,rfl,rfl,s4 _ _ f1,xl,?_⟩
     have K4:Keep [o1,o2] H3 (upd H4 o1 (.lst (xs ++ [.ref a2]))):=s4.keep.trans (Keep.set (by simp))
     have e1:=z0c (H:=H4) (a:=o1) (o:=.lst (xs ++ [.ref a2]))
     have e2:upd H4 o1 (.lst (xs ++ [.ref a2])) o2 = some (.lst ys):=by rw [z0n n12.symm]; exact s4 _ _ f2
     have ea:upd H4 o1 (.lst (xs ++ [.ref a2])) a2 = some (.lst ((List.replicate v (L:Int)).map V.int)):=by rw [z0n (fun z=>na2 (by simp [z]))]; exact ga2
     generalize upd H4 o1 (.lst (xs ++ [.ref a2])) = H5 at K4 e1 e2 ea
     have dv:(0:Int) < (R:Int) /\ (R:Int) <= 10 ^ 100:=⟨by omega,b100 R (by omega)⟩
     have hq8:L / R <= 8:=Nat.le_trans (Nat.div_le_self _ _) hb.2.1
     refine ⟨_,rfl,.inl ⟨rfl,_,SqL.of e2⟩,_,rfl,by show 1 <= sizeLine; decide,fun b1 hb1=>⟨_,rfl,by show 1 <= sizeLine; decide,fun b2 hb2=>⟨_,rfl,_,rfl,_,_,rfl,rfl,dv,?_⟩⟩⟩
     dsimp only
     rw [q5]
     have hqI:((L / R:Nat):Int) <= 8:=by exact_mod_cast hq8
     refine ⟨b2,((L / R:Nat):Int),[V.int (R:Int)],rfl,rfl,z0c,Int.le_trans (by decide) (Int.natCast_nonneg _),Int.lt_of_le_of_lt hqI (by decide),?_,fun b3 hb3=>?_⟩
     ·show 1 * ((L / R:Nat):Int).toNat <= sizeLine
      exact Nat.le_trans (m:=8) (by omega) (by decide)
     rw [Int.toNat_natCast,zBh]
     have sb:=(Same.new (o:=.lst [V.int (R:Int)]) hb2).trans (Same.new (o:=.lst ((List.replicate (L / R) (R:Int)).map V.int)) hb3)
     refine ⟨b1,b3,_,_,rfl,rfl,sb _ _ z0c,z0c,?_,fun b4 hb4=>?_⟩
     ·rw [List.length_map,List.length_replicate]
      show 1 + L / R <= sizeLine
      exact Nat.le_trans (m:=9) (by omega) (by decide)
     have sc:=(Same.new (o:=.lst [V.int (L:Int)]) hb1).trans (sb.trans (Same.new (o:=.lst ([V.int (L:Int)] ++ (List.replicate (L / R) (R:Int)).map V.int)) hb4))
     have g4:=z0c (H:=upd (upd (upd H5 b1 (.lst [V.int (L:Int)])) b2 (.lst [V.int (R:Int)])) b3 (.lst ((List.replicate (L / R) (R:Int)).map V.int))) (a:=b4) (o:=.lst ([V.int (L:Int)] ++ (List.replicate (L / R) (R:Int)).map V.int))
     generalize upd (upd (upd (upd H5 b1 (.lst [V.int (L:Int)])) b2 (.lst [V.int (R:Int)])) b3 (.lst ((List.replicate (L / R) (R:Int)).map V.int))) b4 (.lst ([V.int (L:Int)] ++ (List.replicate (L / R) (R:Int)).map V.int)) = H6 at sc g4
     dsimp only [y1t,tNil]
     refine ⟨_,rfl,_,rfl,_,_,rfl,rfl,dv,_,_,rfl,rfl,by show 3 <= sizeLine; decide,fun b5 hb5=>?_⟩
     dsimp only
     rw [q5]
     have em:atI [V.int 0,V.int 1,V.int (1 + ((L / R:Nat):Int))] (v:Int) = some (.int (((⟨L,R,r,l,true,lev⟩:LD).cut v:Nat):Int)):=by
      match v,hv2 with
      | 0,_=>rfl
      | 1,_=>rfl
      | 2,_ =>
       show some (V.int (1 + ((L / R:Nat):Int))) = some (V.int ((1 + L / R:Nat):Int))
       rw [Int.natCast_add]
       rfl
     refine ⟨_,rfl,b5,_,v,_,rfl,rfl,SqL.of z0c,em,_,rfl,b4,_,rfl,SqL.of (Same.new hb5 _ _ g4),fun b6 hb6=>?_⟩
     rw [yBg]
     have er:([V.int (L:Int)] ++ (List.replicate (L / R) (R:Int)).map V.int).take ((⟨L,R,r,l,true,lev⟩:LD).cut v) = ((⟨L,R,r,l,true,lev⟩:LD).rrow v).map V.int:=by
      unfold LD.rrow
      rw [if_pos rfl,List.map_take]
      rfl
     rw [er]
     have sd:=sc.trans ((Same.new (o:=.lst [V.int 0,V.int 1,V.int (1 + ((L / R:Nat):Int))]) hb5).trans (Same.new (o:=.lst (((⟨L,R,r,l,true,lev⟩:LD).rrow v).map V.int)) hb6))
     have g6:=z0c (H:=upd H6 b5 (.lst [V.int 0,V.int 1,V.int (1 + ((L / R:Nat):Int))])) (a:=b6) (o:=.lst (((⟨L,R,r,l,true,lev⟩:LD).rrow v).map V.int))
     have n6:b6 ∉ [o1,o2]:=zFy (Same.new hb5 _ _ (sc _ _ e1)) (Same.new hb5 _ _ (sc _ _ e2)) hb6
     generalize upd (upd H6 b5 (.lst [V.int 0,V.int 1,V.int (1 + ((L / R:Nat):Int))])) b6 (.lst (((⟨L,R,r,l,true,lev⟩:LD).rrow v).map V.int)) = H7 at sd g6
     refine ⟨o2,_,_,rfl,rfl,sd _ _ e2,yl,⟨_,_,rfl⟩,fin a2 b6 _ (K4.trans (sd.keep.trans (Keep.set (by simp)))) (by rw [z0n n12]; exact sd _ _ e1) z0c na2 n6 ?_ ?_⟩
     ·rw [z0n (fun z=>na2 (by simp [z]))]
      exact sd _ _ ea
     ·rw [z0n (fun z=>n6 (by simp [z]))]
      exact g6
    | false =>
     have dL:(0:Int) < (L:Int) /\ (L:Int) <= 10 ^ 100:=⟨by omega,b100 L (by omega)⟩
     have dR:(0:Int) < (R:Int) /\ (R:Int) <= 10 ^ 100:=⟨by omega,b100 R (by omega)⟩
     refine iteF ⟨_,rfl,.inl ⟨rfl,_,SqL.of f1⟩,_,rfl,by show 1 <= sizeLine; decide,fun a1 ha1=>⟨_,rfl,_,rfl,_,rfl,_,_,rfl,rfl,dL,?_⟩⟩
     dsimp only
     rw [q3]
     refine ⟨_,_,rfl,rfl,.inl ⟨by omega,by omega⟩,?_⟩
     dsimp only
     rw [<- Int.natCast_mul]
     have vr:v * r <= 16:=Nat.mul_le_mul hv2 (show r <= 8 by omega)
     have vl:v * l <= 16:=Nat.mul_le_mul hv2 (show l <= 8 by omega)
     refine ⟨a1,((v * r:Nat):Int),[V.int (L:Int)],rfl,rfl,z0c,by omega,by omega,?_,fun a2 ha2=>?_⟩
     ·show 1 * ((v * r:Nat):Int).toNat <= sizeLine
      exact Nat.le_trans (m:=16) (by omega) (by decide)
     rw [Int.toNat_natCast,zBh]
     have s4:=(Same.new (o:=.lst [V.int (L:Int)]) ha1).trans (Same.new (o:=.lst ((List.replicate (v * r) (L:Int)).map V.int)) ha2)
     have ga2:=z0c (H:=upd H3 a1 (.lst [V.int (L:Int)])) (a:=a2) (o:=.lst ((List.replicate (v * r) (L:Int)).map V.int))
     have na2:a2 ∉ [o1,o2]:=zFy (Same.new ha1 _ _ f1) (Same.new ha1 _ _ f2) ha2
     generalize upd (upd H3 a1 (.lst [V.int (L:Int)])) a2 (.lst ((List.replicate (v * r) (L:Int)).map V.int)) = H4 at s4 ga2
     refine ⟨o1,_,_,rfl,rfl,s4 _ _ f1,xl,?_⟩
     have K4:Keep [o1,o2] H3 (upd H4 o1 (.lst (xs ++ [.ref a2]))):=s4.keep.trans (Keep.set (by simp))
     have e1:=z0c (H:=H4) (a:=o1) (o:=.lst (xs ++ [.ref a2]))
     have e2:upd H4 o1 (.lst (xs ++ [.ref a2])) o2 = some (.lst ys):=by rw [z0n n12.symm]; exact s4 _ _ f2
     have ea:upd H4 o1 (.lst (xs ++ [.ref a2])) a2 = some (.lst ((List.replicate (v * r) (L:Int)).map V.int)):=by rw [z0n (fun z=>na2 (by simp [z]))]; exact ga2
     generalize upd H4 o1 (.lst (xs ++ [.ref a2])) = H5 at K4 e1 e2 ea
     refine ⟨_,rfl,.inl ⟨rfl,_,SqL.of e2⟩,_,rfl,by show 1 <= sizeLine; decide,fun b1 hb1=>⟨_,rfl,_,rfl,_,rfl,_,_,rfl,rfl,dR,?_⟩⟩
     dsimp only
     rw [q4]
     refine ⟨_,_,rfl,rfl,.inl ⟨by omega,by omega⟩,?_⟩
     dsimp only
     rw [<- Int.natCast_mul]
     refine ⟨b1,((v * l:Nat):Int),[V.int (R:Int)],rfl,rfl,z0c,by omega,by omega,?_,fun b2 hb2=>?_⟩
     ·show 1 * ((v * l:Nat):Int).toNat <= sizeLine
      exact Nat.le_trans (m:=16) (by omega) (by decide)
     rw [Int.toNat_natCast,zBh]
     have sd:=(Same.new (o:=.lst [V.int (R:Int)]) hb1).trans (Same.new (o:=.lst ((List.replicate (v * l) (R:Int)).map V.int)) hb2)
     have g6:=z0c (H:=upd H5 b1 (.lst [V.int (R:Int)])) (a:=b2) (o:=.lst ((List.replicate (v * l) (R:Int)).map V.int))
     have n6:b2 ∉ [o1,o2]:=zFy (Same.new hb1 _ _ e1) (Same.new hb1 _ _ e2) hb2
     generalize upd (upd H5 b1 (.lst [V.int (R:Int)])) b2 (.lst ((List.replicate (v * l) (R:Int)).map V.int)) = H7 at sd g6
     refine ⟨o2,_,_,rfl,rfl,sd _ _ e2,yl,⟨_,_,rfl⟩,fin a2 b2 _ (K4.trans (sd.keep.trans (Keep.set (by simp)))) (by rw [z0n n12]; exact sd _ _ e1) z0c na2 n6 ?_ ?_⟩
     ·rw [z0n (fun z=>na2 (by simp [z]))]
      exact sd _ _ ea
     ·rw [z0n (fun z=>n6 (by simp [z]))]
      exact g6
   ·rintro σ' H3 ⟨⟨w1,w2,rfl⟩,s3,xs,ys,f1,f2,A1,A2⟩
    rw [List.length_map,List.take_length] at A1 A2
    refine ⟨_,rfl,_,rfl,by show 2 <= sizeLine; decide,fun p hp=>?_⟩
    have s4:=Same.new (o:=.tup [V.ref o1,V.ref o2]) hp
    exact k p o1 o2 xs ys r l _ z0c (s4 _ _ f1) (s4 _ _ f2) okD (A1.toL.mvI s4) (A2.toL.mvI s4) (s3.trans s4)
def zCm:List Str:=["_law_rows"]
theorem zJq:FnScope zCm ["_law_rows"] (z0b z1r):=⟨rfl,rfl,rfl,by decide +kernel,rfl,by decide +kernel,by decide +kernel⟩
def yGf:Sp:=fun vs H Q _=>∃ (a:Addr) (xs:List V) (rows:List (List Int)),vs = [.ref a] /\ H a = some (.lst xs) /\ All2 Lst1 H rows xs /\ (∀ r ∈ rows,r.length < 64) /\ rows.length <= 60 /\
 ∀ (p:Addr) (rs:List V) (H':Hp),H' p = some (.tup rs) -> All2 Tup1 H' (rows.map z6u) rs -> Same H H' -> Q (.ref p) H'
theorem zAj (T:Txt K mg A):FnOk P w K mg base CX0 1 A.a__law_rule A.fd__law_rule ["_law_rows"] yGf:=by
 refine T.F__law_rule.ok zJq (fun vs H Q E h=>?_) (fun cdv Ar outer s H vs Q E hr h=>?_)
 ·obtain ⟨a,xs,rows,rfl,ha,h2,hb,hl,k⟩:=h
  rfl
 ·obtain ⟨a,xs,rows,rfl,ha,h2,hb,hl,k⟩:=h
  refine ⟨_,(z0f (z0p (z5r z4o rfl T.b_tuple boot_tuple (z0a (z2p (ls:=["_law_row"]) (fr:=[]) (z4w (z0b z1r) zCm rfl rfl (by decide +kernel)) rfl (z2q (pv 0)) (fun _ _ _ _=>pgc 0 (by decide +kernel) rfl rfl) (fun _ _ _ _=>z3v) (fun _ _ _ _=>(z5r (zDn K rfl) (glc (z0b z1r)) T.b_tuple boot_tuple (z0a (y8p K rfl (glc (z0b z1r)) T.b_sorted (pvc (z0b z1r) 0)) z0d)))) z0d)))),?_⟩
  have hlen:=h2.length
  refine y3x Tup1 (rows.map z6u) [] (by rw [List.length_map]; exact hlen) (Nat.le_trans (m:=60) (by omega) (by decide)) (fun _ _ _ _ s h=>h.mv s.tups) rfl rfl ha (fun j x b H' P hx hb' s' hP=>?_) (fun zs H' p s' a2 hp=>?_)
  ·obtain ⟨row,hrow,q,rfl,hq⟩:=h2.get hx
   rw [List.getElem?_map,hrow] at hb'
   have hbl:=hb row (List.mem_of_getElem? hrow)
   refine ⟨_,rfl,q,row,rfl,.inl (SqL.of (s' _ _ hq)),hbl,fun ns' l hperm hord hl0=>⟨l,_,rfl,.inl ⟨SqL.of z0c,fun t ht=>?_⟩⟩⟩
   refine hP _ _ ((Same.new hl0).trans (Same.new ht)) ⟨t,rfl,?_⟩
   rw [z0c,y3m hperm hord,<- Option.some.inj hb']
  ·refine ⟨p,_,rfl,.inl ⟨SqL.of z0c,fun t ht=>?_⟩⟩
   have sn:=(Same.new (o:=.lst zs) hp).trans (Same.new (o:=.tup zs) ht)
   exact k t zs _ z0c (a2.mv sn.tups) (s'.trans sn)
def z3h:List Str:=["_law_state", "_law_top", "_law_many", "_law_ones", "_law_others", "_law_lefts", "_law_rights", "_law_lane_here", "_law_left", "_law_right", "_law_split", "_law_levels", "_law_mine", "_law_theirs"]
theorem z0q:FnScope z3h ["_law_state", "_law_top"] (z0b z0l):=⟨rfl,rfl,rfl,by decide +kernel,rfl,by decide +kernel,by decide +kernel⟩
def y5u:Sp:=fun vs H Q _=>∃ (st ga ca:Addr) (N:Nat) (topp:Int),vs = [.ref st,.int topp] /\ StAt H st ga ca N /\ N <= 10 ^ 6 /\ 0 <= topp /\ topp <= 6 /\
 ∀ (p q1 q2:Addr) (rs qs:List V) (one other:List (List Int)) (n:Nat) (H':Hp),H' p = some (.tup [.ref q1,.ref q2]) -> H' q1 = some (.tup rs) -> All2 Tup1 H' one rs -> H' q2 = some (.tup qs) -> All2 Tup1 H' other qs -> Matched one other n -> (n:Int) <= topp -> StAt H' st ga ca (N + 1000) -> Keep [st,ga] H H' -> Q (.ref p) H'
structure MatI (H H':Hp) (st ga ca:Addr) (M n i:Nat) (oa ta la ra:Addr) (xs ys:List V) (ds:List LD):Prop where
 go:H' oa = some (.lst xs)
 gt:H' ta = some (.lst ys)
 ax:All2 (LstN [st,ga,la,ra]) H' ((List.range n).map (lefH ds)) xs
 ay:All2 (LstN [st,ga,la,ra]) H' ((List.range n).map (rigH ds)) ys
 gl:H' la = some (.lst ((ds.flatMap LD.lparts).map V.int))
 gr:H' ra = some (.lst ((ds.flatMap LD.rparts).map V.int))
 ld:LDi ds n i
 no:oa ∉ [st,ga,la,ra]
 nt:ta ∉ [st,ga,la,ra]
 sa:StAt H' st ga ca M
 kp:Keep [st,ga] H H'
theorem yHg {st ga la ra q:Addr} (h:q ∉ [st,ga,la,ra]):q ∉ [st,ga]:=fun z=>h (by
 simp only [List.mem_cons,List.not_mem_nil,or_false] at z ⊢
 rcases z with z | z
 ·exact .inl z
 ·exact .inr (.inl z))
theorem yIz {st ga la ra:Addr} {H H':Hp} (k:Keep [st,ga] H H'):Keep [st,ga,la,ra] H H':=k.wide fun a ha=>by
 simp only [List.mem_cons,List.not_mem_nil,or_false] at ha ⊢
 rcases ha with z | z
 ·exact .inl z
 ·exact .inr (.inl z)
theorem MatI.drawn {H H' H2:Hp} {st ga ca:Addr} {M M2 n i:Nat} {oa ta la ra:Addr} {xs ys:List V} {ds:List LD} (m:MatI H H' st ga ca M n i oa ta la ra xs ys ds) (hl:la ∉ [st,ga,ca]) (hr:ra ∉ [st,ga,ca]) (S:StAt H2 st ga ca M2) (K:Keep [st,ga] H' H2):MatI H H2 st ga ca M2 n i oa ta la ra xs ys ds :=
 ⟨K.at m.go (yHg m.no),K.at m.gt (yHg m.nt),m.ax.mvN (yIz K),m.ay.mvN (yIz K),K.at m.gl (nin2 hl),K.at m.gr (nin2 hr),m.ld,m.no,m.nt,S,m.kp.trans K⟩
theorem MatI.same {H H' H2:Hp} {st ga ca:Addr} {M n i:Nat} {oa ta la ra:Addr} {xs ys:List V} {ds:List LD} (m:MatI H H' st ga ca M n i oa ta la ra xs ys ds) (s:Same H' H2):MatI H H2 st ga ca M n i oa ta la ra xs ys ds :=
 ⟨s _ _ m.go,s _ _ m.gt,m.ax.mvN s.keep,m.ay.mvN s.keep,s _ _ m.gl,s _ _ m.gr,m.ld,m.no,m.nt,m.sa.same s,m.kp.trans s.keep⟩
theorem MatI.mono {H H':Hp} {st ga ca:Addr} {M M' n i i':Nat} {oa ta la ra:Addr} {xs ys:List V} {ds:List LD} (m:MatI H H' st ga ca M n i oa ta la ra xs ys ds) (h:M <= M') (hi:i <= i'):MatI H H' st ga ca M' n i' oa ta la ra xs ys ds :=
 ⟨m.go,m.gt,m.ax,m.ay,m.gl,m.gr,m.ld.mono hi,m.no,m.nt,m.sa.mono h,m.kp⟩
theorem zCs (T:Txt K mg A):FnOk P w K mg base CX0 5 A.a__law_matched A.fd__law_matched ["_law_state", "_law_top"] y5u:=by
 refine T.F__law_matched.ok z0q (fun vs H Q E h=>?_) (fun cdv Ar outer s H vs Q E hr h=>?_)
 ·obtain ⟨st,ga,ca,N,topp,rfl,S,hN,t0,t1,k⟩:=h
  rfl
 ·obtain ⟨st,ga,ca,N,topp,rfl,S,hN,t0,t1,k⟩:=h
  refine ⟨_,(z0e (z0t (i:=2) z0q.nd rfl (by first | exact Or.inl rfl | exact Or.inr rfl) (z0j (z3a T) (hr.mono (by decide)) rfl T.g__law_draw T.F__law_draw.kp T.b__law_draw .nil z0s (z0a (pv 0 (hv:=Or.inr (Or.inl rfl))) (z0a (z0v z5z (pv 1) z0i) z0d))))
    (z0e (z9y (i:=3) (ls:=["_law_k"]) (fr:=[]) (z4w (z0b z0l) z3h rfl rfl (by decide +kernel)) rfl (z7l rfl T.b_range (z0a (pv 2) z0d)) (fun _ _ _ _=>pgc 0 (by decide +kernel) rfl rfl) (fun _ _ _ _=>z3v) (fun _ _ _ _=>(z3r z0d)) z0q.nd rfl rfl rfl)
    (z0e (z9y (i:=4) (ls:=["_law_k"]) (fr:=[]) (z4w (z0b z0l) z3h rfl rfl (by decide +kernel)) rfl (z7l rfl T.b_range (z0a (pv 2) z0d)) (fun _ _ _ _=>pgc 0 (by decide +kernel) rfl rfl) (fun _ _ _ _=>z3v) (fun _ _ _ _=>(z3r z0d)) z0q.nd rfl rfl rfl)
    (z0e (z0t (i:=5) z0q.nd rfl (by first | exact Or.inl rfl | exact Or.inr rfl) (z3r z0d))
    (z0e (z0t (i:=6) z0q.nd rfl (by first | exact Or.inl rfl | exact Or.inr rfl) (z3r z0d))
    (z0e (z5i PassesOwn.never rfl (z7l rfl T.b_range (z0a (z0v z5z z0i (z0j (z3a T) (hr.mono (by decide)) rfl T.g__law_draw T.F__law_draw.kp T.b__law_draw .nil z0s (z0a (pv 0 (hv:=Or.inr (Or.inl rfl))) (z0a z0i z0d)))) z0d)) (z2m (i:=7) z0q.nd rfl (by first | exact Or.inl rfl | exact Or.inr rfl))
     (z0e (z0t (i:=8) z0q.nd rfl (by first | exact Or.inl rfl | exact Or.inr rfl) (z0v z5z z0i (z0j (z3a T) (hr.mono (by decide)) rfl T.g__law_draw T.F__law_draw.kp T.b__law_draw .nil z0s (z0a (pv 0 (hv:=Or.inr (Or.inl rfl))) (z0a z0i z0d)))))
    (z0e (z0t (i:=9) z0q.nd rfl (by first | exact Or.inl rfl | exact Or.inr rfl) (z0v z5z z0i (z0j (z3a T) (hr.mono (by decide)) rfl T.g__law_draw T.F__law_draw.kp T.b__law_draw .nil z0s (z0a (pv 0 (hv:=Or.inr (Or.inl rfl))) (z0a z0i z0d)))))
    (z0e (z0t (i:=10) z0q.nd rfl (by first | exact Or.inl rfl | exact Or.inr rfl) (z8i (z5f z7z (z0j (z3a T) (hr.mono (by decide)) rfl T.g__law_draw T.F__law_draw.kp T.b__law_draw .nil z0s (z0a (pv 0 (hv:=Or.inr (Or.inl rfl))) (z0a z0i z0d))) z0i (z1d _)) (z8i (z5f z7z (z0v z7i (pv 8) (pv 9)) z0i (z1d _)) (z8i (z5f yFk (pv 8) (pv 9) (z1d _)) (zDa (z5f z6a (pv 8) (pv 6) rfl))))))
    (z0e (z9y (i:=11) (ls:=["_law_k"]) (fr:=[("_law_state",0)]) (z4w (z0b z0l) z3h rfl rfl (by decide +kernel)) rfl (z7l rfl T.b_range (z0a (pv 2) z0d)) (fun _ _ _ _=>pgc 0 (by decide +kernel) rfl rfl) (fun _ _ _ _=>z3v) (fun _ _ _ _=>(z0j (z3a T) (hr.mono (by decide)) (glc (z0b z0l)) T.g__law_draw T.F__law_draw.kp T.b__law_draw .nil z0s (z0a (pvc (z0b z0l) 1) (z0a z0i z0d)))) z0q.nd rfl rfl rfl)
    (z0f (z2z (PW.pt (y3i (z0w z6a (pv 8) (pv 5) rfl) (zGn (z0w z6a (pv 9) (pv 6) rfl))))
     (z0e (z3n (z8b PySem.F.plainAttrs_list PySem.F.slot_list_append PySem.F.type_list_append z4p (pv 5) (z0a (pv 8) z0d)))
    (z0e (z3n (z8b PySem.F.plainAttrs_list PySem.F.slot_list_append PySem.F.type_list_append z4p (pv 6) (z0a (pv 9) z0d)))
    (z0e (z2z (z2b (pv 10) (fun _=>rfl))
     (z0f (z3n (z8b PySem.F.plainAttrs_list PySem.F.slot_list_append PySem.F.type_list_append z4p (pv 6) (z0a (pv 8) z0d)))) z1a)
    (z0e (y3g (z0j (zJb T) (hr.mono (by decide)) rfl T.g__law_lane T.F__law_lane.kp T.b__law_lane .nil z0s (z0a (pv 8) (z0a (pv 9) (z0a (pv 10) (z0a (pv 11) z0d))))) (y3e rfl (z1t (z2m (i:=12) z0q.nd rfl (by first | exact Or.inl rfl | exact Or.inr rfl)) (z1t (z2m (i:=13) z0q.nd rfl (by first | exact Or.inl rfl | exact Or.inr rfl)) z5s))))
    (z0e (z9y (i:=3) (ls:=["_law_heap_here", "_law_more"]) (fr:=[]) (z4w (z0b z0l) z3h rfl rfl (by decide +kernel)) rfl (zJk false false rfl T.b_zip (z0a (pv 3) (z0a (pv 12) z0d))) (fun _ _ _ _=>z7k 2 rfl (z1t (pgc (ls:=["_law_heap_here", "_law_more"]) (fr:=[]) 0 (by decide +kernel) rfl rfl) (z1t (pgc (ls:=["_law_heap_here", "_law_more"]) (fr:=[]) 1 (by decide +kernel) rfl rfl) z5s)) rfl rfl) (fun _ _ _ _=>z3v) (fun _ _ _ _=>(z0v y2w (pvc (z0b z0l) 0) (pvc (z0b z0l) 1))) z0q.nd rfl rfl rfl)
    (z0f (z9y (i:=4) (ls:=["_law_heap_here", "_law_more"]) (fr:=[]) (z4w (z0b z0l) z3h rfl rfl (by decide +kernel)) rfl (zJk false false rfl T.b_zip (z0a (pv 4) (z0a (pv 13) z0d))) (fun _ _ _ _=>z7k 2 rfl (z1t (pgc (ls:=["_law_heap_here", "_law_more"]) (fr:=[]) 0 (by decide +kernel) rfl rfl) (z1t (pgc (ls:=["_law_heap_here", "_law_more"]) (fr:=[]) 1 (by decide +kernel) rfl rfl) z5s)) rfl rfl) (fun _ _ _ _=>z3v) (fun _ _ _ _=>(z0v y2w (pvc (z0b z0l) 0) (pvc (z0b z0l) 1))) z0q.nd rfl rfl rfl))))))) z1a)))))))
    (z0e (z2z (z0w z7z (z0j (z3a T) (hr.mono (by decide)) rfl T.g__law_draw T.F__law_draw.kp T.b__law_draw .nil z0s (z0a (pv 0 (hv:=Or.inr (Or.inl rfl))) (z0a z0i z0d))) z0i (z1d _))
     (z0f (yDv (i:=3) (j:=4) rfl z0q.nd rfl rfl (by decide) rfl rfl (z0a (pv 4) (z0a (pv 3) z0d)) rfl)) z1a)
    (z0f (z0p (z3f (z0a (z0j (zAj T) (hr.mono (by decide)) rfl T.g__law_rule T.F__law_rule.kp T.b__law_rule .nil z0s (z0a (pv 3) z0d)) (z0a (z0j (zAj T) (hr.mono (by decide)) rfl T.g__law_rule T.F__law_rule.kp T.b__law_rule .nil z0s (z0a (pv 4) z0d)) z0d)))))))))))),?_⟩
  refine ⟨_,rfl,_,rfl,_,_,rfl,rfl,st,ga,ca,N,topp + 1,rfl,S,by omega,by omega,Int.le_trans (show topp + 1 <= 7 by omega) (by decide),fun many H1 m0 m1 S1 K1=>?_⟩
  obtain ⟨n,rfl⟩:∃ n:Nat,many = (n:Int):=⟨many.toNat,by omega⟩
  have n6:n <= 6:=by omega
  have mk:∀ (Ha:Hp) (ys:List V) (i:Nat) (q:Addr),Same H1 Ha -> All2 (LstF H1) Ha (List.replicate i []) ys -> Ha q = none -> All2 (LstF H1) (upd Ha q (.lst [])) (List.replicate (i + 1) []) (ys ++ [.ref q]):=fun Ha ys i q s a hq=>by
   rw [List.replicate_succ']
   exact (a.mvF (Same.new hq)).snoc ⟨q,rfl,s.free hq,z0c⟩
  refine ⟨_,rfl,_,rfl,by omega,by omega,z9o (fun i ys σ' H'=>Same H1 H' /\ (∃ v,σ' = [v]) /\ All2 (LstF H1) H' (List.replicate i []) ys /\ i <= n) ⟨Same.refl _,⟨_,rfl⟩,.nil,Nat.zero_le _⟩ ?_ ?_ ?_⟩
  ·rintro i ys σ' H' hi ⟨_,_,a2,_⟩
   rw [<- a2.length,List.length_replicate]
   exact z5h (by omega)
  ·rintro i ys σ' H' hi ⟨s,⟨v,rfl⟩,a2,_⟩
   exact ⟨by show 0 <= sizeLine; decide,fun q hq=>⟨s.trans (Same.new hq),⟨_,rfl⟩,mk _ _ _ _ s a2 hq,by omega⟩⟩
  rintro xs σ' H2 ⟨s2,_,ax,_⟩ oa hoa
  rw [Int.toNat_natCast] at ax
  have s3:=s2.trans (Same.new (o:=.lst xs) hoa)
  have goa:=z0c (H:=H2) (a:=oa) (o:=.lst xs)
  have ax3:=ax.mvF (Same.new (o:=.lst xs) hoa)
  generalize upd H2 oa (.lst xs) = H3 at s3 goa ax3
  refine ⟨_,rfl,_,rfl,by omega,by omega,z9o (fun i ys σ' H'=>Same H3 H' /\ (∃ v,σ' = [v]) /\ All2 (LstF H1) H' (List.replicate i []) ys /\ i <= n) ⟨Same.refl _,⟨_,rfl⟩,.nil,Nat.zero_le _⟩ ?_ ?_ ?_⟩
  ·rintro i ys σ' H' hi ⟨_,_,a2,_⟩
   rw [<- a2.length,List.length_replicate]
   exact z5h (by omega)
  ·rintro i ys σ' H' hi ⟨s,⟨v,rfl⟩,a2,_⟩
   exact ⟨by show 0 <= sizeLine; decide,fun q hq=>⟨s.trans (Same.new hq),⟨_,rfl⟩,mk _ _ _ _ (s3.trans s) a2 hq,by omega⟩⟩
  rintro ys σ' H4 ⟨s4,_,ay,_⟩ ta hta
  rw [Int.toNat_natCast] at ay
  have s5:=s4.trans (Same.new (o:=.lst ys) hta)
  have gta:=z0c (H:=H4) (a:=ta) (o:=.lst ys)
  have ay5:=ay.mvF (Same.new (o:=.lst ys) hta)
  generalize upd H4 ta (.lst ys) = H5 at s5 gta ay5
  have goa5:=s5 _ _ goa
  have ax5:=ax3.mvF s5
  refine ⟨by show 0 <= sizeLine; decide,fun la hla=>⟨by show 0 <= sizeLine; decide,fun ra hra=>?_⟩⟩
  have s6:=(Same.new (o:=.lst []) hla).trans (Same.new (o:=.lst []) hra)
  have gla:=Same.new (o:=.lst []) hra _ _ (z0c (H:=H5) (a:=la) (o:=.lst []))
  have gra:=z0c (H:=upd H5 la (.lst [])) (a:=ra) (o:=.lst [])
  have nra:H5 ra = none:=(Same.new (o:=.lst []) hla).free hra
  have nlr:la ≠ ra:=z0r (z0c (H:=H5) (a:=la) (o:=.lst [])) hra
  generalize upd (upd H5 la (.lst [])) ra (.lst []) = H6 at s6 gla gra
  have s15:=s3.trans s5
  have S6:=S1.same (s15.trans s6)
  have nin4:∀ (q:Addr) (o:HO),H5 q = some o -> H1 q = none -> q ∉ [st,ga,la,ra]:=fun q o e hn z=>by
   have h2:=S1.nin hn
   simp only [List.mem_cons,List.not_mem_nil,or_false] at z h2
   rcases z with rfl | rfl | rfl | rfl
   ·exact h2 (.inl rfl)
   ·exact h2 (.inr rfl)
   ·rw [hla] at e; cases e
   ·rw [nra] at e; cases e
  have ax6:=(ax5.toN nin4).mvN (Same.keep s6)
  have ay6:=(ay5.toN nin4).mvN (Same.keep s6)
  have noa:=nin4 oa _ goa5 (s2.free hoa)
  have nta:=nin4 ta _ gta ((s3.trans s4).free hta)
  have ela0:H la = none:=K1.free (s15.free hla) (S1.nin (s15.free hla))
  have era:H ra = none:=K1.free (s15.free nra) (S1.nin (s15.free nra))
  have nla:la ∉ [st,ga,ca]:=S1.nin3 (s15.free hla)
  have nra3:ra ∉ [st,ga,ca]:=S1.nin3 (s15.free nra)
  rw [<- (y2p n).1] at ax6
  rw [<- (y2p n).2] at ay6
  have M0:MatI H H6 st ga ca (N + 7) n 0 oa ta la ra xs ys []:=⟨s6 _ _ goa5,s6 _ _ gta,ax6,ay6,gla,gra,LDi.nil n,noa,nta,S6.mono (by omega),K1.trans (s15.trans s6).keep⟩
  clear ax ax3 ax5 ay ay5 ax6 ay6
  refine ⟨_,rfl,st,ga,ca,_,4,rfl,M0.sa,by omega,by decide,by decide,fun lanes H7 l0 l1 S7 K7=>⟨_,_,rfl,rfl,_,rfl,by omega,by omega,?_⟩⟩
  have M7:=M0.drawn nla nra3 S7 K7
  refine zBv (fun i σ' H'=>∃ (oa ta:Addr) (xs ys:List V) (ds:List LD) (v7 v8 v9 v10 v11 v12 v13:Option V),σ' = [some (.ref st),some (.int topp),some (.int (n:Int)),some (.ref oa),some (.ref ta),some (.ref la),some (.ref ra),v7,v8,v9,v10,v11,v12,v13] /\ MatI H H' st ga ca (N + 14 + 63 * i) n i oa ta la ra xs ys ds) ⟨oa,ta,xs,ys,[],none,none,none,none,none,none,none,rfl,M7⟩ ?_ ?_
  ·clear M0 M7 goa goa5 gta gla gra noa nta
   rintro i σ' H' hi ⟨oa,ta,xs,ys,ds,v7,v8,v9,v10,v11,v12,v13,rfl,M⟩
   have i4:i + 1 <= 4:=by omega
   refine ⟨_,rfl,st,ga,ca,_,8,rfl,M.sa,by omega,by decide,by decide,fun a1 HA a10 a11 SA KA=>⟨_,_,rfl,rfl,?_⟩⟩
   have MA:=M.drawn nla nra3 SA KA
   obtain ⟨L,eL⟩:∃ L:Nat,1 + a1 = (L:Int):=⟨(1 + a1).toNat,by omega⟩
   dsimp only
   rw [eL]
   refine ⟨_,rfl,st,ga,ca,_,8,rfl,MA.sa,by omega,by decide,by decide,fun a2 HB a20 a21 SB KB=>⟨_,_,rfl,rfl,?_⟩⟩
   have MB:=MA.drawn nla nra3 SB KB
   obtain ⟨R,eR⟩:∃ R:Nat,1 + a2 = (R:Int):=⟨(1 + a2).toNat,by omega⟩
   dsimp only
   rw [eR]
   have hb:1 <= L /\ L <= 8 /\ 1 <= R /\ R <= 8:=by omega
   refine zAb (fun σ' H'=>∃ b:Bool,σ' = [some (.ref st),some (.int topp),some (.int (n:Int)),some (.ref oa),some (.ref ta),some (.ref la),some (.ref ra),some (.int (0 + (i:Int))),some (.int (L:Int)),some (.int (R:Int)),some (.bl b),v11,v12,v13] /\ (b = true -> (L % R = 0 /\ R < L) /\ (L:Int) ∉ ds.flatMap LD.rparts) /\ MatI H H' st ga ca (N + 14 + 63 * i + 21) n i oa ta la ra xs ys ds) (fun nx hnx=>?_) ?_
   ·refine ⟨_,rfl,st,ga,ca,_,3,rfl,MB.sa,by omega,by decide,by decide,fun a3 HC a30 a31 SC KC=>⟨rfl,?_⟩⟩
    have MC:=(MB.drawn nla nra3 SC KC).mono (M':=N + 14 + 63 * i + 21) (by omega) (Nat.le_refl _)
    refine ⟨_,rfl,ite2 (fun h1=>?_) (fun h1=>hnx _ _ ⟨_,rfl,(fun z=>by cases z),MC⟩)⟩
    refine ⟨_,rfl,_,rfl,_,_,rfl,rfl,by omega,rfl,_,rfl,ite2 (fun h2=>?_) (fun h2=>hnx _ _ ⟨_,rfl,(fun z=>by cases z),MC⟩)⟩
    refine ⟨_,rfl,_,rfl,_,_,rfl,rfl,_,rfl,ite2 (fun h3=>?_) (fun h3=>hnx _ _ ⟨_,rfl,(fun z=>by cases z),MC⟩)⟩
    refine ⟨_,rfl,_,rfl,ra,_,rfl,.inl (SqL.of MC.gr),rfl,z5o _,?_⟩
    rw [if_pos rfl,z8u]
    have d2:(L:Int) % (R:Int) = 0:=by have:=of_decide_eq_true h2; injection this
    have d3:(R:Int) < (L:Int):=of_decide_eq_true h3
    exact hnx _ _ ⟨_,rfl,fun z=>⟨⟨by exact_mod_cast d2,by omega⟩,by simpa using z⟩,MC⟩
   ·rintro σ1 HC ⟨sp,rfl,hsp,MC⟩
    refine ⟨_,rfl,_,rfl,by omega,by omega,z9o (fun j zs σ' H'=>(∃ v,σ' = [v,some (.ref st)]) /\ ∃ lev:List Nat,zs = lev.map natV /\ lev.length = j /\ (∀ v ∈ lev,v <= 2) /\ MatI H H' st ga ca (N + 14 + 63 * i + 21 + 7 * j) n i oa ta la ra xs ys ds) ⟨⟨_,rfl⟩,[],rfl,rfl,(fun _ h=>by cases h),MC⟩ ?_ ?_ ?_⟩
    ·rintro j zs σ' H' hj ⟨_,lev,rfl,hl,_⟩
     rw [List.length_map,hl]
     exact z5h (by omega)
    ·rintro j zs σ' H' hj ⟨⟨v,rfl⟩,lev,rfl,hl,hv,M'⟩
     refine ⟨_,rfl,st,ga,ca,_,3,rfl,M'.sa,by omega,by decide,by decide,fun a4 HD a40 a41 SD KD=>⟨⟨_,rfl⟩,lev ++ [a4.toNat],?_,by simp [hl],fun v hv'=>?_,(M'.drawn nla nra3 SD KD).mono (by omega) (Nat.le_refl _)⟩⟩
     ·rw [List.map_append]
      show _ = _ ++ [V.int (a4.toNat:Int)]
      rw [Int.toNat_of_nonneg a40]
     ·rcases List.mem_append.mp hv' with h | h
      ·exact hv v h
      ·rw [List.mem_singleton.mp h]
       omega
    rintro zs σ' HD0 ⟨_,lev,rfl,hl,hv,MD0⟩ lv hlv
    rw [Int.toNat_natCast] at hl
    have MD:=(MD0.same (Same.new (o:=.lst (lev.map natV)) hlv)).mono (M':=N + 14 + 63 * (i + 1)) (by rw [Int.toNat_natCast]; omega) (Nat.le_refl _)
    have glv:=z0c (H:=HD0) (a:=lv) (o:=.lst (lev.map natV))
    have nlv:lv ≠ la /\ lv ≠ ra:=⟨(fun z=>by rw [z,MD0.gl] at hlv; cases hlv),(fun z=>by rw [z,MD0.gr] at hlv; cases hlv)⟩
    generalize upd HD0 lv (.lst (lev.map natV)) = HD at MD glv
    have skip:∀ (w7 w8 w9 w10 w11 w12 w13:Option V),∃ (oa' ta':Addr) (xs' ys':List V) (ds':List LD) (v7 v8 v9 v10 v11 v12 v13:Option V),[some (V.ref st),some (.int topp),some (.int (n:Int)),some (.ref oa),some (.ref ta),some (.ref la),some (.ref ra),w7,w8,w9,w10,w11,w12,w13] = [some (V.ref st),some (.int topp),some (.int (n:Int)),some (.ref oa'),some (.ref ta'),some (.ref la),some (.ref ra),v7,v8,v9,v10,v11,v12,v13] /\ MatI H HD st ga ca (N + 14 + 63 * (i + 1)) n (i + 1) oa' ta' la ra xs' ys' ds' :=
     fun w7 w8 w9 w10 w11 w12 w13=>⟨oa,ta,xs,ys,ds,w7,w8,w9,w10,w11,w12,w13,rfl,MD.mono (Nat.le_refl _) (by omega)⟩
    refine ⟨_,rfl,_,rfl,la,_,rfl,.inl (SqL.of MD.gl),rfl,z5o _,_,rfl,?_⟩
    rw [if_pos rfl,z8u]
    by_cases h1:(L:Int) ∈ ds.flatMap LD.lparts
    ·rw [decide_eq_true h1]
     exact iteF (iteF (skip _ _ _ _ _ _ _))
    rw [decide_eq_false h1]
    refine iteT ⟨_,rfl,_,rfl,ra,_,rfl,.inl (SqL.of MD.gr),rfl,z5o _,_,rfl,?_⟩
    rw [if_pos rfl,z8u]
    by_cases h2:(R:Int) ∈ ds.flatMap LD.rparts
    ·rw [decide_eq_true h2]
     exact iteF (skip _ _ _ _ _ _ _)
    rw [decide_eq_false h2]
    refine iteT ?_
    have ll:(ds.flatMap LD.lparts).length <= 4:=by
     have:=z4j LD.lparts 1 ds (fun d _=>by simp [LD.lparts])
     have:=MD.ld.few
     omega
    have rl:(ds.flatMap LD.rparts).length <= 8:=by
     have:=z4j LD.rparts 2 ds (fun d _=>by unfold LD.rparts; split <;> simp)
     have:=MD.ld.few
     omega
    refine ⟨_,rfl,.inl ⟨rfl,_,SqL.of MD.gl⟩,_,rfl,la,_,_,rfl,rfl,MD.gl,by rw [List.length_map]; exact Nat.lt_of_le_of_lt ll (by decide),?_⟩
    have KE:Keep [la,ra] HD (upd HD la (.lst ((ds.flatMap LD.lparts).map V.int ++ [V.int (L:Int)]))):=Keep.set (by simp)
    have gr1:upd HD la (.lst ((ds.flatMap LD.lparts).map V.int ++ [V.int (L:Int)])) ra = some (.lst ((ds.flatMap LD.rparts).map V.int)):=by rw [z0n nlr.symm]; exact MD.gr
    have gl1:=z0c (H:=HD) (a:=la) (o:=.lst ((ds.flatMap LD.lparts).map V.int ++ [V.int (L:Int)]))
    generalize upd HD la (.lst ((ds.flatMap LD.lparts).map V.int ++ [V.int (L:Int)])) = HE at KE gr1 gl1
    refine ⟨_,rfl,.inl ⟨rfl,_,SqL.of gr1⟩,_,rfl,ra,_,_,rfl,rfl,gr1,by rw [List.length_map]; exact Nat.lt_of_le_of_lt rl (by decide),?_⟩
    have KF:Keep [la,ra] HD (upd HE ra (.lst ((ds.flatMap LD.rparts).map V.int ++ [V.int (R:Int)]))):=KE.trans (Keep.set (by simp))
    have gl2:upd HE ra (.lst ((ds.flatMap LD.rparts).map V.int ++ [V.int (R:Int)])) la = some (.lst ((ds.flatMap LD.lparts).map V.int ++ [V.int (L:Int)])):=by rw [z0n nlr]; exact gl1
    have gr2:=z0c (H:=HE) (a:=ra) (o:=.lst ((ds.flatMap LD.rparts).map V.int ++ [V.int (R:Int)]))
    generalize upd HE ra (.lst ((ds.flatMap LD.rparts).map V.int ++ [V.int (R:Int)])) = HF at KF gl2 gr2
    dsimp only [y9x,zBx]
    refine zAb (fun σ' H'=>σ' = [some (.ref st),some (.int topp),some (.int (n:Int)),some (.ref oa),some (.ref ta),some (.ref la),some (.ref ra),some (.int (0 + (i:Int))),some (.int (L:Int)),some (.int (R:Int)),some (.bl sp),some (.ref lv),v12,v13] /\ Keep [la,ra] HD H' /\ H' la = some (.lst ((ds.flatMap LD.lparts).map V.int ++ [V.int (L:Int)])) /\ H' ra = some (.lst ((ds.flatMap LD.rparts).map V.int ++ (if sp then [V.int (R:Int),V.int (L:Int)] else [V.int (R:Int)])))) (fun nx hnx=>?_) ?_
    ·refine ⟨_,rfl,sp,rfl,?_⟩
     cases sp with
     | false=>exact iteF (hnx _ _ ⟨rfl,KF,gl2,gr2⟩)
     | true =>
      refine iteT ⟨_,rfl,.inl ⟨rfl,_,SqL.of gr2⟩,_,rfl,ra,_,_,rfl,rfl,gr2,?_,hnx _ _ ⟨rfl,KF.trans (Keep.set (by simp)),by rw [z0n nlr]; exact gl2,?_⟩⟩
      ·rw [List.length_append,List.length_map]
       exact Nat.lt_of_le_of_lt (show (ds.flatMap LD.rparts).length + 1 <= 9 by omega) (by decide)
      ·rw [z0c,List.append_assoc]
       rfl
    rintro σ2 HG ⟨rfl,KG,gl3,gr3⟩
    have glvG:HG lv = some (.lst (lev.map natV)):=KG.at glv (by simp [nlv.1,nlv.2])
    refine ⟨_,rfl,_,rfl,_,rfl,_,rfl,L,R,sp,lv,lev,rfl,glvG,hb,fun z=>⟨Nat.mul_div_cancel' (Nat.dvd_of_mod_eq_zero (hsp z).1.1),(hsp z).1.2⟩,by omega,hv,fun p o1 o2 xs' ys' m k' HI hp h1' h2' okD A1 A2 sI=>?_⟩
    refine ⟨p,_,rfl,SqT.of hp,rfl,_,_,rfl,_,_,rfl,rfl,?_⟩
    generalize hd:(⟨L,R,m,k',sp,lev⟩:LD) = d at okD A1 A2
    have hdl:d.lev = lev:=by rw [<- hd]
    have w4:∀ a ∈ [la,ra],a ∈ [st,ga,la,ra]:=fun a ha=>List.mem_cons_of_mem _ (List.mem_cons_of_mem _ ha)
    have KI:Keep [la,ra] HD HI:=KG.trans sI.keep
    have AXa:=MD.ax.mvN (KI.wide w4)
    have AYa:=MD.ay.mvN (KI.wide w4)
    have n2:∀ q,q ∉ [st,ga,la,ra] -> q ∉ [la,ra]:=fun q hq z=>hq (w4 q z)
    have Ga:=KI.at MD.go (n2 _ MD.no)
    have Gb:=KI.at MD.gt (n2 _ MD.nt)
    have SI:StAt HI st ga ca (N + 14 + 63 * (i + 1)):=by
     obtain ⟨⟨gs,cs,q0,nn,c1,c2,c3,c4⟩,c5,c6,c7⟩:=MD.sa
     have na:∀ x ∈ [st,ga,ca],x ∉ [la,ra]:=fun x hx z=>by
      simp only [List.mem_cons,List.not_mem_nil,or_false] at z
      rcases z with rfl | rfl
      ·exact nla hx
      ·exact nra3 hx
     exact ⟨⟨gs,cs,q0,nn,KI.at c1 (na _ (by simp)),KI.at c2 (na _ (by simp)),KI.at c3 (na _ (by simp)),c4⟩,c5,c6,c7⟩
    have gl4:=sI _ _ gl3
    have gr4:=sI _ _ gr3
    have nin4':∀ {q:Addr},HI q = none -> q ∉ [st,ga,la,ra]:=fun {q} hq z=>by
     have h2:=SI.nin hq
     simp only [List.mem_cons,List.not_mem_nil,or_false] at z h2
     rcases z with rfl | rfl | rfl | rfl
     ·exact h2 (.inl rfl)
     ·exact h2 (.inr rfl)
     ·rw [gl4] at hq; cases hq
     ·rw [gr4] at hq; cases hq
    have hv2L:∀ {j v:Nat},lev[j]? = some v -> d.at j = v:=fun {j v} h=>LD.at_some (by rw [hdl]; exact h)
    have Ba:∀ j v,lev[j]? = some v -> (lefH ds j ++ d.lrow v).length <= sizeLine:=fun j v hv'=>by
     rw [List.length_append]
     have e1:=zIl (MD.ld.lds (by omega)) j
     have e2:=LD.lrow_len okD (hv v (List.mem_of_getElem? hv'))
     exact Nat.le_trans (m:=100) (by omega) (by decide)
    refine ⟨_,rfl,_,rfl,oa,o1,rfl,⟨_,SqL.of Ga⟩,⟨_,SqL.of h1'⟩,zAz (xs:=xs) (ys:=xs') (fun j zs σ' H'=>Same HI H' /\ (∃ v w,σ' = [v,w]) /\ All2 (LstN [st,ga,la,ra]) H' (((List.range n).take j).map fun j=>lefH (ds ++ [d]) j) zs /\ j <= n) ⟨Same.refl _,⟨_,_,rfl⟩,.nil,Nat.zero_le _⟩ ?_ ?_ ?_⟩
    ·rintro j zs σ' H' hj ⟨s',_,a',hj'⟩
     refine ⟨SqL.of (s' _ _ Ga),SqL.of (s' _ _ h1'),?_⟩
     rw [<- a'.length,List.length_map,List.length_take]
     exact z5h (by omega)
    ·rintro j x y zs σ' H' T' hx hy ⟨s',⟨v,w',rfl⟩,a',hj'⟩ hT
     obtain ⟨row,hrow,q,rfl,nq,gq⟩:=AXa.get hx
     obtain ⟨row2,hrow2,q',rfl,gq'⟩:=A1.get hy
     have hj:j < n:=by
      have:=(List.getElem?_eq_some_iff.mp hrow).1
      rw [List.length_map,List.length_range] at this
      exact this
     rw [List.getElem?_map,List.getElem?_range hj] at hrow
     have er:lefH ds j = row:=Option.some.inj hrow
     rw [List.getElem?_map] at hrow2
     obtain ⟨v2,hv2,er2⟩:∃ v2,lev[j]? = some v2 /\ d.lrow v2 = row2:=by
      cases e:lev[j]? with
      | none=>rw [e] at hrow2; cases hrow2
      | some v2=>rw [e] at hrow2; exact ⟨v2,rfl,Option.some.inj hrow2⟩
     have hbl:=Ba j v2 hv2
     rw [er,er2,List.length_append] at hbl
     have sT:=s'.trans (Same.new (o:=.tup [V.ref q,V.ref q']) hT)
     refine ⟨T',_,rfl,SqT.of z0c,rfl,_,_,rfl,_,_,rfl,rfl,?_⟩
     refine ⟨_,rfl,_,rfl,q,q',_,_,rfl,rfl,sT _ _ gq,sT _ _ gq',by rw [List.length_map,List.length_map]; exact hbl,fun z hz=>⟨sT.trans (Same.new hz),⟨_,_,rfl⟩,?_,hj⟩⟩
     rw [List.take_succ,List.getElem?_range hj,List.map_append]
     refine (a'.mvN ((Same.new (o:=.tup [V.ref q,V.ref q']) hT).trans (Same.new hz)).keep).snoc ⟨z,rfl,nin4' (sT.free hz),?_⟩
     rw [z0c]
     show _ = some (HO.lst ((lefH (ds ++ [d]) j).map V.int))
     rw [yBu,hv2L hv2,er,er2,List.map_append]
    rintro zs1 σ' HJ ⟨sa',_,aa',_⟩ oa2 hoa2
    have ela:min xs.length xs'.length = n /\ min ys.length ys'.length = n:=by
     rw [<- MD.ax.length,<- MD.ay.length,<- A1.length,<- A2.length,List.length_map,List.length_map,List.length_map,List.length_map,List.length_range,hl]
     simp
    rw [ela.1,List.take_of_length_le (by rw [List.length_range]; exact Nat.le_refl _)] at aa'
    have sJ:=sa'.trans (Same.new (o:=.lst zs1) hoa2)
    have goa2:=z0c (H:=HJ) (a:=oa2) (o:=.lst zs1)
    have az1:=aa'.mvN (Same.new (o:=.lst zs1) hoa2).keep
    have noa2:=nin4' (sa'.free hoa2)
    generalize upd HJ oa2 (.lst zs1) = HK at sJ goa2 az1
    have AYK:=AYa.mvN sJ.keep
    have A2K:=A2.mvI sJ
    have GbK:=sJ _ _ Gb
    have g2K:=sJ _ _ h2'
    have Bb:∀ j v,lev[j]? = some v -> (rigH ds j ++ d.rrow v).length <= sizeLine:=fun j v hv'=>by
     rw [List.length_append]
     have e1:=zIl (MD.ld.lds (by omega)) j
     have e2:=LD.rrow_len okD (hv v (List.mem_of_getElem? hv'))
     exact Nat.le_trans (m:=100) (by omega) (by decide)
    refine ⟨_,rfl,_,rfl,ta,o2,rfl,⟨_,SqL.of GbK⟩,⟨_,SqL.of g2K⟩,zAz (xs:=ys) (ys:=ys') (fun j zs σ' H'=>Same HK H' /\ (∃ v w,σ' = [v,w]) /\ All2 (LstN [st,ga,la,ra]) H' (((List.range n).take j).map fun j=>rigH (ds ++ [d]) j) zs /\ j <= n) ⟨Same.refl _,⟨_,_,rfl⟩,.nil,Nat.zero_le _⟩ ?_ ?_ ?_⟩
    ·rintro j zs σ' H' hj ⟨s',_,a',hj'⟩
     refine ⟨SqL.of (s' _ _ GbK),SqL.of (s' _ _ g2K),?_⟩
     rw [<- a'.length,List.length_map,List.length_take]
     exact z5h (by omega)
    ·rintro j x y zs σ' H' T' hx hy ⟨s',⟨v,w',rfl⟩,a',hj'⟩ hT
     obtain ⟨row,hrow,q,rfl,nq,gq⟩:=AYK.get hx
     obtain ⟨row2,hrow2,q',rfl,gq'⟩:=A2K.get hy
     have hj:j < n:=by
      have:=(List.getElem?_eq_some_iff.mp hrow).1
      rw [List.length_map,List.length_range] at this
      exact this
     rw [List.getElem?_map,List.getElem?_range hj] at hrow
     have er:rigH ds j = row:=Option.some.inj hrow
     rw [List.getElem?_map] at hrow2
     obtain ⟨v2,hv2,er2⟩:∃ v2,lev[j]? = some v2 /\ d.rrow v2 = row2:=by
      cases e:lev[j]? with
      | none=>rw [e] at hrow2; cases hrow2
      | some v2=>rw [e] at hrow2; exact ⟨v2,rfl,Option.some.inj hrow2⟩
     have hbl:=Bb j v2 hv2
     rw [er,er2,List.length_append] at hbl
     have sT:=s'.trans (Same.new (o:=.tup [V.ref q,V.ref q']) hT)
     refine ⟨T',_,rfl,SqT.of z0c,rfl,_,_,rfl,_,_,rfl,rfl,?_⟩
     refine ⟨_,rfl,_,rfl,q,q',_,_,rfl,rfl,sT _ _ gq,sT _ _ gq',by rw [List.length_map,List.length_map]; exact hbl,fun z hz=>⟨sT.trans (Same.new hz),⟨_,_,rfl⟩,?_,hj⟩⟩
     rw [List.take_succ,List.getElem?_range hj,List.map_append]
     refine (a'.mvN ((Same.new (o:=.tup [V.ref q,V.ref q']) hT).trans (Same.new hz)).keep).snoc ⟨z,rfl,nin4' ((sJ.trans sT).free hz),?_⟩
     rw [z0c]
     show _ = some (HO.lst ((rigH (ds ++ [d]) j).map V.int))
     rw [yCp,hv2L hv2,er,er2,List.map_append]
    rintro zs2 σ' HL ⟨sb',_,ab',_⟩ ta2 hta2
    have elb:min xs.length xs'.length = n /\ min ys.length ys'.length = n:=by
     rw [<- MD.ax.length,<- MD.ay.length,<- A1.length,<- A2.length,List.length_map,List.length_map,List.length_map,List.length_map,List.length_range,hl]
     simp
    rw [elb.2,List.take_of_length_le (by rw [List.length_range]; exact Nat.le_refl _)] at ab'
    have sL:=sb'.trans (Same.new (o:=.lst zs2) hta2)
    have gta2:=z0c (H:=HL) (a:=ta2) (o:=.lst zs2)
    have az2:=ab'.mvN (Same.new (o:=.lst zs2) hta2).keep
    have nta2:=nin4' ((sJ.trans sb').free hta2)
    generalize upd HL ta2 (.lst zs2) = HM at sL gta2 az2
    have sIM:=sJ.trans sL
    have eLp:d.L = L /\ d.R = R /\ d.sp = sp:=by rw [<- hd]; exact ⟨rfl,rfl,rfl⟩
    refine ⟨oa2,ta2,zs1,zs2,ds ++ [d],_,_,_,_,_,_,_,rfl,⟨sL _ _ goa2,gta2,az1.mvN sL.keep,az2,?_,?_,MD.ld.snoc okD (by rw [hdl]; exact hl) (by rw [eLp.1]; exact h1) (by rw [eLp.2.1]; exact h2) (fun z=>by rw [eLp.1]; exact (hsp (by rw [<- eLp.2.2]; exact z)).2),noa2,nta2,SI.same sIM,fun b o e hn=>sIM _ _ (KI _ _ (MD.kp _ _ e hn) (y2q ela0 era e))⟩⟩
    ·rw [sIM _ _ gl4,List.flatMap_append,List.map_append]
     simp only [List.flatMap_cons,List.flatMap_nil,LD.lparts,eLp.1,List.append_nil,List.map_cons,List.map_nil]
    ·rw [sIM _ _ gr4,List.flatMap_append,List.map_append]
     simp only [List.flatMap_cons,List.flatMap_nil,LD.rparts,eLp.1,eLp.2.1,eLp.2.2,List.append_nil]
     cases sp <;> rfl
  ·clear M0 M7 goa goa5 gta gla gra noa nta
   rintro σ' H' ⟨oa,ta,xs,ys,ds,v7,v8,v9,v10,v11,v12,v13,rfl,M⟩
   have hL:=M.ld.lds (show (1 + lanes).toNat <= 4 by omega)
   have mt:=y4m hL
   have rl:=yFv hL
   dsimp only [y9x,zBx]
   refine zAb (fun σ' H'=>∃ (oa ta:Addr) (xs ys:List V) (r1 r2:List (List Int)),σ' = [some (.ref st),some (.int topp),some (.int (n:Int)),some (.ref oa),some (.ref ta),some (.ref la),some (.ref ra),v7,v8,v9,v10,v11,v12,v13] /\ H' oa = some (.lst xs) /\ H' ta = some (.lst ys) /\ All2 Lst1 H' r1 xs /\ All2 Lst1 H' r2 ys /\ (∀ r ∈ r1,r.length < 64) /\ (∀ r ∈ r2,r.length < 64) /\ r1.length <= 60 /\ r2.length <= 60 /\ Matched (r1.map z6u) (r2.map z6u) n /\ StAt H' st ga ca (N + 1000) /\ Keep [st,ga] H H') (fun nx hnx=>?_) ?_
   ·refine ⟨_,rfl,st,ga,ca,_,2,rfl,M.sa,by omega,by decide,by decide,fun r H8 r0 r1 S8 K8=>⟨rfl,_,rfl,?_⟩⟩
    have M8:=M.drawn nla nra3 S8 K8
    have e1:((List.range n).map (lefH ds)).map z6u = zEf lefH ds n:=by rw [List.map_map]; rfl
    have e2:((List.range n).map (rigH ds)).map z6u = zEf rigH ds n:=by rw [List.map_map]; rfl
    have b1:∀ r ∈ (List.range n).map (lefH ds),r.length < 64:=fun r hr'=>by
     obtain ⟨j,_,rfl⟩:=List.mem_map.mp hr'
     exact (rl j).1
    have b2:∀ r ∈ (List.range n).map (rigH ds),r.length < 64:=fun r hr'=>by
     obtain ⟨j,_,rfl⟩:=List.mem_map.mp hr'
     exact (rl j).2
    have ln:∀ f:Nat -> List Int,((List.range n).map f).length <= 60:=fun f=>by rw [List.length_map,List.length_range]; omega
    have S9:=M8.sa.mono (show _ <= N + 1000 by omega)
    refine ite2 (fun _=>?_) (fun _=>hnx _ _ ⟨oa,ta,xs,ys,_,_,rfl,M8.go,M8.gt,M8.ax.toL,M8.ay.toL,b1,b2,ln _,ln _,by rw [e1,e2]; exact mt,S9,M8.kp⟩)
    exact ⟨_,rfl,_,rfl,_,_,rfl,hnx _ _ ⟨ta,oa,ys,xs,_,_,rfl,M8.gt,M8.go,M8.ay.toL,M8.ax.toL,b2,b1,ln _,ln _,by rw [e1,e2]; exact mt.swap,S9,M8.kp⟩⟩
   ·rintro σ2 H8 ⟨oa,ta,xs,ys,r1,r2,rfl,g1,g2,a1,a2,b1,b2,l1,l2,mm,S9,K9⟩
    refine ⟨_,rfl,oa,xs,r1,rfl,g1,a1,b1,l1,fun p1 rs HA gA aA sA=>?_⟩
    refine ⟨_,rfl,ta,ys,r2,rfl,sA _ _ g2,a2.mvI sA,b2,l2,fun p2 qs HB gB aB sB=>?_⟩
    refine ⟨by show 2 <= sizeLine; decide,fun p hp=>?_⟩
    have sC:=Same.new (o:=.tup [V.ref p1,V.ref p2]) hp
    have s8:=sA.trans (sB.trans sC)
    exact k p p1 p2 rs qs _ _ n _ z0c (sC _ _ (sB _ _ gA)) (aA.mv (sB.trans sC).tups) (sC _ _ gB) (aB.mv sC.tups) mm (by omega) (S9.same s8) (K9.trans s8.keep)
def zCn:List Str:=["_law_found", "_law_due"]
theorem zJr:FnScope zCn ["_law_found", "_law_due"] (z0b z1s):=⟨rfl,rfl,rfl,by decide +kernel,rfl,by decide +kernel,by decide +kernel⟩
def y9q (n:Nat):Sp:=fun vs H Q _=>∃ (x y:V),vs = [x,y] /\ SmG n H x y /\ ∀ H',Same H H' -> Q (.bl true) H'
theorem z9a (T:Txt K mg A):∀ n:Nat,FnOk P w K mg base CX0 (n + 1) A.a__law_same A.fd__law_same ["_law_found", "_law_due"] (y9q n)
 | 0=>FnOk.none (fun _ _ _ _ ⟨_,_,_,h,_⟩=>h)
 | n + 1=>by
  have ih:=z9a T n
  refine T.F__law_same.ok zJr (fun vs H Q E h=>?_) (fun cdv Ar outer s H vs Q E hr h=>?_)
  ·obtain ⟨x,y,rfl,h,k⟩:=h
   rfl
  ·obtain ⟨x,y,rfl,h,k⟩:=h
   refine ⟨_,(z0e (z2z (z2b (z0o y6j rfl T.b_isinstance boot_isinstance (z0a (pv 1) (z0a (z3f (z0a (z3u (v:=.ty "list") rfl T.b_list boot_list rfl) (z0a (z3u (v:=.ty "tuple") rfl T.b_tuple boot_tuple rfl) z0d))) z0d))) (fun _=>rfl))
      (z0e (z2z (PW.pt (zJn (z0w y5b (z0o z3w rfl T.b_isinstance boot_isinstance (z0a (pv 0) (z0a (z3u (v:=.ty "list") rfl T.b_list boot_list rfl) z0d))) (z0o z3w rfl T.b_isinstance boot_isinstance (z0a (pv 1) (z0a (z3u (v:=.ty "list") rfl T.b_list boot_list rfl) z0d))) (z1d _)) (zDd (z0w y5b (z0o z3w rfl T.b_isinstance boot_isinstance (z0a (pv 0) (z0a (z3u (v:=.ty "tuple") rfl T.b_tuple boot_tuple rfl) z0d))) (z0o z3w rfl T.b_isinstance boot_isinstance (z0a (pv 1) (z0a (z3u (v:=.ty "tuple") rfl T.b_tuple boot_tuple rfl) z0d))) (z1d _)))))
      (z0f (z0p z8a)) z1a)
     (z0e (z2z (z0w y5b (z0o z0x rfl T.b_len PySem.boot_len (z0a (pv 0) z0d)) (z0o z0x rfl T.b_len PySem.boot_len (z0a (pv 1) z0d)) (z1d _))
      (z0f (z0p z8a)) z1a)
     (z0f (z0p (z0o (z3g rfl) rfl T.b_all boot_all (z0a (z2p (ls:=["_law_one", "_law_other"]) (fr:=[]) (z4w (z0b z1s) zCn rfl rfl (by decide +kernel)) rfl (k0b (zJk true true rfl T.b_zip (z0a (pv 0) (z0a (pv 1) z0d))) (zJk false false rfl T.b_zip (z0a (pv 0) (z0a (pv 1) z0d)))) (fun _ _ _ _=>z7k 2 rfl (z1t (pgc (ls:=["_law_one", "_law_other"]) (fr:=[]) 0 (by decide +kernel) rfl rfl) (z1t (pgc (ls:=["_law_one", "_law_other"]) (fr:=[]) 1 (by decide +kernel) rfl rfl) z5s)) rfl rfl) (fun _ _ _ _=>z3v) (fun _ _ _ _=>(z0j ih hr (glc (z0b z1s)) T.g__law_same T.F__law_same.kp T.b__law_same .nil z0s (z0a (pvc (z0b z1s) 0) (z0a (pvc (z0b z1s) 1) z0d))))) z0d)))))) z1a)
     (z0e (z2z (PW.pt (zJn (z0w zEx (pv 1) z6p (z1d _)) (zJn (z0w yDp (pv 1) z8a (z1d _)) (zDd (z0w yDp (pv 1) z8a (z1d _))))))
      (z0f (z0p (z8i (z5f z7z (z0o z3w rfl T.b_isinstance boot_isinstance (z0a (pv 0) (z0a (z3u (v:=.ty "bool") rfl T.b_bool boot_bool rfl) z0d))) (z0o z3w rfl T.b_isinstance boot_isinstance (z0a (pv 1) (z0a (z3u (v:=.ty "bool") rfl T.b_bool boot_bool rfl) z0d))) (z1d _)) (zDa (z5f z7z (pv 0) (pv 1) (z1d _)))))) z1a)
     (z0e (z2z (z2b (z0o z3w rfl T.b_isinstance boot_isinstance (z0a (pv 1) (z0a (z3u (v:=.ty "str") rfl T.b_str boot_str rfl) z0d))) (fun _=>rfl))
      (z0f (z0p (z8i (z0o z3w rfl T.b_isinstance boot_isinstance (z0a (pv 0) (z0a (z3u (v:=.ty "str") rfl T.b_str boot_str rfl) z0d))) (zDa (z5f z7z (pv 0) (pv 1) (z1d _)))))) z1a)
     (z0f (z0p (z8i (z0o z3w rfl T.b_isinstance boot_isinstance (z0a (pv 0) (z0a (z3u (v:=.ty "int") rfl T.b_int boot_int rfl) z0d))) (z8i (yDr (z0o z3w rfl T.b_isinstance boot_isinstance (z0a (pv 0) (z0a (z3u (v:=.ty "bool") rfl T.b_bool boot_bool rfl) z0d)))) (zDa (z5f z7z (pv 0) (pv 1) (z1d _)))))))))),?_⟩
   rcases h with ⟨i,rfl,rfl⟩ | ⟨b,rfl,rfl⟩ | ⟨rfl,rfl⟩ | ⟨z,rfl,rfl⟩ | ⟨f,d,xs,ys,rfl,rfl,hfd,hxy,hl,hall⟩
   ·refine ⟨_,rfl,by show 2 <= sizeLine; decide,fun tp htp=>⟨_,tp,["list", "tuple"],_,false,rfl,z0c,TyOf.int _,y7o,false,rfl,iteF ?_⟩⟩
    refine ⟨_,rfl,rfl,_,rfl,iteF ⟨_,rfl,true,rfl,trivial,_,rfl,iteF ⟨_,rfl,false,rfl,trivial,_,rfl,iteF ?_⟩⟩⟩
    refine ⟨_,rfl,_,_,_,false,rfl,TyOf.int _,y0v,false,rfl,iteF ?_⟩
    refine ⟨_,rfl,_,_,_,true,rfl,TyOf.int _,zCe,true,rfl,_,rfl,_,_,_,false,rfl,TyOf.int _,zAi,false,rfl,true,rfl,iteT ?_⟩
    refine ⟨_,rfl,_,rfl,rfl,?_⟩
    rw [decide_eq_true rfl]
    exact k _ (Same.new htp)
   ·refine ⟨_,rfl,by show 2 <= sizeLine; decide,fun tp htp=>⟨_,tp,["list", "tuple"],_,false,rfl,z0c,TyOf.bl _,y4g,false,rfl,iteF ?_⟩⟩
    refine ⟨_,rfl,rfl,_,rfl,iteF ⟨_,rfl,true,rfl,trivial,_,rfl,?_⟩⟩
    have fin:∀ (H':Hp),Same H H' -> Q (.bl true) H':=k
    cases b with
    | true =>
     refine iteT (iteT ⟨_,rfl,_,_,_,true,rfl,TyOf.bl _,z5k,_,rfl,_,_,_,true,rfl,TyOf.bl _,z5k,rfl,_,rfl,iteT ?_⟩)
     refine ⟨_,rfl,_,rfl,rfl,?_⟩
     rw [decide_eq_true rfl]
     exact k _ (Same.new htp)
    | false =>
     refine iteF ⟨_,rfl,false,rfl,trivial,_,rfl,iteT ?_⟩
     refine ⟨_,rfl,_,_,_,true,rfl,TyOf.bl _,z5k,_,rfl,_,_,_,true,rfl,TyOf.bl _,z5k,rfl,_,rfl,iteT ?_⟩
     refine ⟨_,rfl,_,rfl,rfl,?_⟩
     rw [decide_eq_true rfl]
     exact k _ (Same.new htp)
   ·refine ⟨_,rfl,by show 2 <= sizeLine; decide,fun tp htp=>⟨_,tp,["list", "tuple"],_,false,rfl,z0c,TyOf.non,zDr,false,rfl,iteF ?_⟩⟩
    refine ⟨_,rfl,rfl,_,rfl,iteT (iteT ?_)⟩
    refine ⟨_,rfl,_,_,_,false,rfl,TyOf.non,z6m,_,rfl,_,_,_,false,rfl,TyOf.non,z6m,rfl,_,rfl,iteT ?_⟩
    refine ⟨_,rfl,_,rfl,rfl,?_⟩
    rw [decide_eq_true rfl]
    exact k _ (Same.new htp)
   ·refine ⟨_,rfl,by show 2 <= sizeLine; decide,fun tp htp=>⟨_,tp,["list", "tuple"],_,false,rfl,z0c,TyOf.str _,y7p,false,rfl,iteF ?_⟩⟩
    refine ⟨_,rfl,rfl,_,rfl,iteF ⟨_,rfl,true,rfl,trivial,_,rfl,iteF ⟨_,rfl,false,rfl,trivial,_,rfl,iteF ?_⟩⟩⟩
    refine ⟨_,rfl,_,_,_,true,rfl,TyOf.str _,zCf,true,rfl,iteT ?_⟩
    refine ⟨_,rfl,_,_,_,true,rfl,TyOf.str _,zCf,true,rfl,iteT ?_⟩
    refine ⟨_,rfl,_,rfl,rfl,?_⟩
    rw [decide_eq_true rfl]
    exact k _ (Same.new htp)
   ·refine ⟨_,rfl,by show 2 <= sizeLine; decide,fun tp htp=>?_⟩
    have s1:=Same.new (o:=.tup [V.ty "list",V.ty "tuple"]) htp
    have g1:=z0c (H:=H) (a:=tp) (o:=.tup [V.ty "list",V.ty "tuple"])
    generalize upd H tp (.tup [V.ty "list",V.ty "tuple"]) = H1 at s1 g1
    rcases hfd with ⟨hf,hd⟩ | ⟨hf,hd⟩
    ·have hf1:=s1 _ _ hf
     have hd1:=s1 _ _ hd
     refine ⟨_,tp,["list", "tuple"],_,true,rfl,g1,TyOf.tup hd1,y0u,true,rfl,iteT ?_⟩
     refine ⟨_,rfl,_,_,_,false,rfl,TyOf.tup hf1,z8d,_,rfl,_,_,_,false,rfl,TyOf.tup hd1,z8d,rfl,_,rfl,zDq rfl ?_⟩
     refine ⟨_,rfl,_,_,_,true,rfl,TyOf.tup hf1,z6t,_,rfl,_,_,_,true,rfl,TyOf.tup hd1,z6t,rfl,_,rfl,zDq rfl ?_⟩
     refine ⟨_,rfl,f,_,rfl,.inr (SqT.of hf1),_,rfl,d,_,rfl,.inr (SqT.of hd1),rfl,_,rfl,zDq (by rw [hxy]) ?_⟩
     refine Or.inl ⟨_,rfl,_,rfl,f,d,rfl,⟨_,SqT.of hf1⟩,⟨_,SqT.of hd1⟩,zAz (xs:=xs) (ys:=ys) (fun i zs σ' H'=>Same H1 H' /\ (∃ v w,σ' = [v,w]) /\ zs = (List.replicate i true).map V.bl /\ i <= xs.length) ⟨fun _ _ z=>z,⟨_,_,rfl⟩,rfl,Nat.zero_le _⟩ ?_ ?_ ?_⟩
     ·rintro i zs σ' H' hi ⟨s',_,rfl,hi'⟩
      refine ⟨SqT.of (s' _ _ hf1),SqT.of (s' _ _ hd1),?_⟩
      rw [List.length_map,List.length_replicate]
      exact Nat.le_trans (Nat.le_trans hi' hl) (by decide)
     ·rintro i x y zs σ' H' T' hx hy ⟨s',⟨v,w',rfl⟩,rfl,hi'⟩ hT
      have hi:=(List.getElem?_eq_some_iff.mp hx).1
      have sn:=s'.trans (Same.new (o:=.tup [x,y]) hT)
      refine ⟨T',_,rfl,SqT.of z0c,rfl,_,_,rfl,_,_,rfl,rfl,?_⟩
      refine ⟨_,rfl,_,rfl,_,_,rfl,(hall i x y hx hy).mv (s1.trans sn),fun H2 s2=>⟨sn.trans s2,⟨_,_,rfl⟩,?_,hi⟩⟩
      rw [List.replicate_succ',List.map_append]
      rfl
     ·rintro zs σ' H' ⟨s',_,rfl,_⟩ l hl0
      refine ⟨l,_,rfl,SqL.of z0c,?_⟩
      have e:∀ n,(List.replicate n true).all id = true:=fun n=>by simp
      rw [e]
      exact k _ (s1.trans (s'.trans (Same.new hl0)))
    ·have hf1:=s1 _ _ hf
     have hd1:=s1 _ _ hd
     refine ⟨_,tp,["list", "tuple"],_,true,rfl,g1,TyOf.lst hd1,y4h,true,rfl,iteT ?_⟩
     refine ⟨_,rfl,_,_,_,true,rfl,TyOf.lst hf1,z6s,_,rfl,_,_,_,true,rfl,TyOf.lst hd1,z6s,rfl,_,rfl,zDq rfl ?_⟩
     refine ⟨_,rfl,_,_,_,false,rfl,TyOf.lst hf1,z8c,_,rfl,_,_,_,false,rfl,TyOf.lst hd1,z8c,rfl,_,rfl,zDq rfl ?_⟩
     refine ⟨_,rfl,f,_,rfl,.inl (SqL.of hf1),_,rfl,d,_,rfl,.inl (SqL.of hd1),rfl,_,rfl,zDq (by rw [hxy]) ?_⟩
     refine Or.inr ⟨_,rfl,_,rfl,f,d,rfl,⟨_,SqL.of hf1⟩,⟨_,SqL.of hd1⟩,zAz (xs:=xs) (ys:=ys) (fun i zs σ' H'=>Same H1 H' /\ (∃ v w,σ' = [v,w]) /\ zs = (List.replicate i true).map V.bl /\ i <= xs.length) ⟨fun _ _ z=>z,⟨_,_,rfl⟩,rfl,Nat.zero_le _⟩ ?_ ?_ ?_⟩
     ·rintro i zs σ' H' hi ⟨s',_,rfl,hi'⟩
      refine ⟨SqL.of (s' _ _ hf1),SqL.of (s' _ _ hd1),?_⟩
      rw [List.length_map,List.length_replicate]
      exact Nat.le_trans (Nat.le_trans hi' hl) (by decide)
     ·rintro i x y zs σ' H' T' hx hy ⟨s',⟨v,w',rfl⟩,rfl,hi'⟩ hT
      have hi:=(List.getElem?_eq_some_iff.mp hx).1
      have sn:=s'.trans (Same.new (o:=.tup [x,y]) hT)
      refine ⟨T',_,rfl,SqT.of z0c,rfl,_,_,rfl,_,_,rfl,rfl,?_⟩
      refine ⟨_,rfl,_,rfl,_,_,rfl,(hall i x y hx hy).mv (s1.trans sn),fun H2 s2=>⟨sn.trans s2,⟨_,_,rfl⟩,?_,hi⟩⟩
      rw [List.replicate_succ',List.map_append]
      rfl
     ·rintro zs σ' H' ⟨s',_,rfl,_⟩ l hl0
      refine ⟨l,_,rfl,SqL.of z0c,?_⟩
      have e:∀ n,(List.replicate n true).all id = true:=fun n=>by simp
      rw [e]
      exact k _ (s1.trans (s'.trans (Same.new hl0)))
theorem z7g (T:Txt K mg A):FnOk P w K mg base CX0 7 A.a__law_same A.fd__law_same ["_law_found", "_law_due"] (y9q 6):=z9a T 6
def zCl:List Str:=["_law_one", "_law_other"]
theorem zJp:FnScope zCl ["_law_one", "_law_other"] (z0b z1i):=⟨rfl,rfl,rfl,by decide +kernel,rfl,by decide +kernel,by decide +kernel⟩
def yCz:Sp:=fun vs H Q _=>∃ (a b:Addr) (ns ms:List Int),vs = [.ref a,.ref b] /\ H a = some (.tup (ns.map V.int)) /\ H b = some (.tup (ms.map V.int)) /\ ns.length <= 10000 /\ ∀ H',Same H H' -> Q (.bl (lies ns ms)) H'
theorem zJc (T:Txt K mg A):FnOk P w K mg base CX0 1 A.a__law_lies A.fd__law_lies ["_law_one", "_law_other"] yCz:=by
 refine T.F__law_lies.ok zJp (fun vs H Q E h=>?_) (fun cdv Ar outer s H vs Q E hr h=>?_)
 ·obtain ⟨a,b,ns,ms,rfl,ha,hb,hln,k⟩:=h
  rfl
 ·obtain ⟨a,b,ns,ms,rfl,ha,hb,hln,k⟩:=h
  refine ⟨_,(z0f (z0p (z0o (z3g rfl) rfl T.b_all boot_all (z0a (z2p (ls:=["_law_part"]) (fr:=[("_law_one",0),("_law_other",1)]) (z4w (z0b z1i) zCl rfl rfl (by decide +kernel)) rfl (z9e (pv 0 (hv:=Or.inr (Or.inl rfl)))) (fun _ _ _ _=>pgc 0 (by decide +kernel) rfl rfl) (fun _ _ _ _=>z3v) (fun _ _ _ _=>(z5f y8l (yDq K rfl PySem.F.plainAttrs_tuple PySem.F.slot_tuple_count PySem.F.type_tuple_count (zEs K rfl) (pvc (z0b z1i) 1) (z0a (pvc (z0b z1i) 0) z0d)) (yDq K rfl PySem.F.plainAttrs_tuple PySem.F.slot_tuple_count PySem.F.type_tuple_count (zEs K rfl) (pvc (z0b z1i) 2) (z0a (pvc (z0b z1i) 0) z0d)) (z1d _)))) z0d)))),?_⟩
  refine ⟨_,rfl,a,rfl,⟨_,SqT.of ha⟩,zAy (xs:=ns.map V.int) (fun i ys σ' H'=>H' = H /\ (∃ v,σ' = [v,some (.ref a),some (.ref b)]) /\ ys = ((ns.take i).map fun x=>decide (ns.count x <= ms.count x)).map V.bl) ⟨rfl,⟨_,rfl⟩,rfl⟩ ?_ ?_ ?_⟩
  ·rintro i ys σ' H' hi ⟨rfl,_,rfl⟩
   refine ⟨SqT.of ha,?_⟩
   rw [List.length_map,List.length_map,List.length_take]
   exact Nat.le_trans (m:=10000) (by omega) (by decide)
  ·rintro i x ys σ' H' hx ⟨rfl,⟨v,rfl⟩,rfl⟩
   obtain ⟨z,hz,rfl⟩:=z5q hx
   have hi:=(List.getElem?_eq_some_iff.mp hz).1
   have ez:=(List.getElem?_eq_some_iff.mp hz).2
   refine ⟨_,rfl,.inr (.inl ⟨rfl,.inr ⟨_,ha⟩⟩),_,rfl,a,_,_,rfl,rfl,SqT.of ha,rfl,z5o _,?_⟩
   refine ⟨_,rfl,.inr (.inl ⟨rfl,.inr ⟨_,hb⟩⟩),_,rfl,b,_,_,rfl,rfl,SqT.of hb,rfl,z5o _,?_⟩
   refine ⟨_,_,rfl,rfl,rfl,⟨_,rfl⟩,?_⟩
   rw [List.take_succ_eq_append_getElem hi,List.map_append,List.map_append,ez]
   show _ ++ [V.bl (decide (((cntV (V.int z) (ns.map V.int):Nat):Int) <= ((cntV (V.int z) (ms.map V.int):Nat):Int)))] = _
   rw [zBq,zBq]
   have e:decide (((ns.count z:Nat):Int) <= ((ms.count z:Nat):Int)) = decide (ns.count z <= ms.count z):=by
    rw [decide_eq_decide]; omega
   rw [e]
   rfl
  ·rintro ys σ' H' ⟨rfl,_,rfl⟩ l hl
   rw [List.length_map,List.take_length]
   refine ⟨l,_,rfl,SqL.of z0c,?_⟩
   have e:(ns.map fun x=>decide (ns.count x <= ms.count x)).all id = lies ns ms:=by
    unfold lies
    rw [List.all_map]
    rfl
   rw [e]
   exact k _ (Same.new hl)
def zIp:List Str:=["_law_rule_here", "_law_heap_here", "_law_number"]
theorem z9g:FnScope zIp ["_law_rule_here", "_law_heap_here"] (z0b z2d):=⟨rfl,rfl,rfl,by decide +kernel,rfl,by decide +kernel,by decide +kernel⟩
def y9n:Sp:=fun vs H Q _=>∃ (p q:Addr) (rs:List V) (rule:List (List Int)) (hs:List Int),vs = [.ref p,.ref q] /\ H p = some (.tup rs) /\ All2 Tup1 H rule rs /\ H q = some (.tup (hs.map V.int)) /\ rule.length <= 60 /\ (∀ h ∈ rule,h.length <= 1000) /\
 ∀ (H':Hp),Same H H' -> Q (optV (z1m rule hs)) H'
theorem zFz (T:Txt K mg A):FnOk P w K mg base CX0 2 A.a__law_first A.fd__law_first ["_law_rule_here", "_law_heap_here"] y9n:=by
 refine T.F__law_first.ok z9g (fun vs H Q E h=>?_) (fun cdv Ar outer s H vs Q E hr h=>?_)
 ·obtain ⟨p,q,rs,rule,hs,rfl,hp,h2,hq,hln,hlr,k⟩:=h
  rfl
 ·obtain ⟨p,q,rs,rule,hs,rfl,hp,h2,hq,hln,hlr,k⟩:=h
  refine ⟨_,(z0e (z5i PassesOwn.never rfl (z7l rfl T.b_range (z0a (z0o z0x rfl T.b_len PySem.boot_len (z0a (pv 0) z0d)) z0d)) (z2m (i:=2) z9g.nd rfl (by first | exact Or.inl rfl | exact Or.inr rfl))
     (z0f (z2z (z2b (z0j (zJc T) (hr.mono (by decide)) rfl T.g__law_lies T.F__law_lies.kp T.b__law_lies .nil z0s (z0a (z2j z2x (pv 0) (pv 2) (fun _ _=>rfl)) (z0a (pv 1) z0d))) (fun _=>rfl))
     (z0f (z0p (pv 2))) z1a)))
    (z0f (z0p z6p))),?_⟩
  have hrl:=h2.length
  refine ⟨_,rfl,p,_,rfl,.inr (SqT.of hp),_,rfl,by omega,by omega,zBv (n:=rs.length) (fun i σ' H'=>Same H H' /\ (∃ v,σ' = [some (.ref p),some (.ref q),v]) /\ idxP rule hs i = []) ⟨fun _ _ h=>h,⟨_,rfl⟩,rfl⟩ ?_ ?_⟩
  ·rintro i σ' H' hi ⟨s,⟨v,rfl⟩,h0⟩
   have hir:i < rule.length:=by omega
   obtain ⟨x,hx,q1,rfl,hq1⟩:=h2.at (List.getElem?_eq_getElem hir)
   have e1:rule.getD i [] = rule[i]:=by simp [hir]
   refine ⟨_,rfl,_,rfl,p,_,_,_,rfl,rfl,SqT.of (s _ _ hp),by rw [Int.zero_add]; exact z1l hx,?_⟩
   refine ⟨_,rfl,q1,q,rule[i],hs,rfl,s _ _ hq1,s _ _ hq,Nat.le_trans (hlr _ (List.getElem_mem hir)) (by decide),fun H2 s2=>⟨_,rfl,?_⟩⟩
   have s3:=s.trans s2
   refine ite2 (fun hc=>?_) (fun hc=>⟨s3,⟨_,rfl⟩,?_⟩)
   ·refine ⟨_,rfl,?_⟩
    have:=k H2 s3
    rw [y3z h0 hir (by rw [e1]; exact hc)] at this
    rw [Int.zero_add]
    exact this
   ·rw [z5p,e1,if_neg hc,h0]
    rfl
  ·rintro σ' H' ⟨s,_,h0⟩
   rw [<- hrl] at h0
   have:=k H' s
   rw [zEn h0] at this
   exact this
def z7c:List Str:=["_law_n", "_law_top", "_law_found", "_law_part"]
theorem z5g:FnScope z7c ["_law_n", "_law_top"] (z0b z0y):=⟨rfl,rfl,rfl,by decide +kernel,rfl,by decide +kernel,by decide +kernel⟩
def zJy (n:Nat):Sp:=fun vs H Q _=>∃ (m g:Nat),m < n /\ vs = [.int m,.int g] /\ m <= 24 /\ g <= 1000 /\
 ∀ (l:Addr) (xs:List V) (H':Hp),H' l = some (.lst xs) -> All2 Tup1 H' (z2y n m g) xs -> Same H H' -> H l = none -> Q (.ref l) H'
theorem z6o (T:Txt K mg A):∀ n:Nat,FnOk P w K mg base CX0 n A.a__law_partings A.fd__law_partings ["_law_n", "_law_top"] (zJy n)
 | 0=>FnOk.none (fun _ _ _ _ ⟨_,_,h,_⟩=>absurd h (Nat.not_lt_zero _))
 | n + 1=>by
  have ih:=z6o T n
  refine T.F__law_partings.ok z5g (fun vs H Q E h=>?_) (fun cdv Ar outer s H vs Q E hr h=>?_)
  ·obtain ⟨m,g,hm,rfl,hm24,hg,k⟩:=h
   rfl
  ·obtain ⟨m,g,hm,rfl,hm24,hg,k⟩:=h
   refine ⟨_,(z0e (z2z (z0w z7z (pv 0) z0i (z1d _))
      (z0f (z0p (z3r (z0a (z3f z0d) z0d)))) z1a)
     (z0e (z0t (i:=2) z5g.nd rfl (by first | exact Or.inl rfl | exact Or.inr rfl) (z3r z0d))
     (z0e (z5i PassesOwn.never rfl (y8q rfl T.b_range (z0a (z0o (zHq rfl) rfl T.b_min boot_min (z0a (pv 0) (z0a (pv 1) z0d))) (z0a z0i (z0a (zJj zAm z0i) z0d)))) (z2m (i:=3) z5g.nd rfl (by first | exact Or.inl rfl | exact Or.inr rfl))
      (z0f (z3n (z8b PySem.F.plainAttrs_list PySem.F.slot_list_extend PySem.F.type_list_extend zCk (pv 2) (z0a (z2p (ls:=["_law_rest"]) (fr:=[("_law_part",3)]) (z4w (z0b z0y) z7c rfl rfl (by decide +kernel)) rfl (z2q (z0j ih hr rfl T.g__law_partings T.F__law_partings.kp T.b__law_partings .nil z0s (z0a (z0v z8g (pv 0) (pv 3 (hv:=Or.inr (Or.inl rfl)))) (z0a (pv 3 (hv:=Or.inr (Or.inl rfl))) z0d)))) (fun _ _ _ _=>pgc 0 (by decide +kernel) rfl rfl) (fun _ _ _ _=>z3v) (fun _ _ _ _=>(z0v (zGf K rfl) (z3f (z0a (pvc (z0b z0y) 1) z0d)) (pvc (z0b z0y) 0)))) z0d)))))
     (z0f (z0p (pv 2)))))),?_⟩
   dsimp only [y9x]
   refine zAb (fun σ' H'=>m ≠ 0 /\ H' = H /\ σ' = [some (.int m),some (.int g),none,none]) (fun nx hnx=>?_) ?_
   ·refine ⟨_,rfl,rfl,_,rfl,?_⟩
    refine ite2 (fun h0=>?_) (fun h0=>hnx _ _ ⟨fun z=>h0 (by rw [z]; rfl),rfl,rfl⟩)
    have e0:m = 0:=by
     have:=of_decide_eq_true h0
     injection this with this
     omega
    refine ⟨by show 0 <= sizeLine; decide,fun e he=>⟨by show 1 <= sizeLine; decide,fun l hl=>?_⟩⟩
    refine k l [.ref e] _ z0c ?_ ((Same.new he).trans (Same.new hl)) ((Same.new he).free hl)
    rw [z1j,if_pos e0]
    exact .cons ⟨e,rfl,Same.new hl _ _ z0c⟩ .nil
   rintro σ1 H1 ⟨m0,rfl,rfl⟩
   refine ⟨by show 0 <= sizeLine; decide,fun l hl=>?_⟩
   have hmin:(if (g:Int) < (m:Int) then (g:Int) else (m:Int)) = ((min m g:Nat):Int):=by split <;> omega
   refine ⟨_,rfl,_,rfl,_,_,rfl,_,rfl,min m g,?_,by omega,y2f (n:=min m g) (fun i σ' H'=>Same H1 H' /\ i <= min m g /\ ∃ xs v,σ' = [some (.int m),some (.int g),some (.ref l),v] /\ H' l = some (.lst xs) /\ All2 Tup1 H' (z8p n m (min m g) i) xs) ⟨Same.new hl,Nat.zero_le _,[],_,rfl,z0c,.nil⟩ ?_ ?_⟩
   ·show [V.int (if (g:Int) < (m:Int) then (g:Int) else (m:Int)),V.int 0,V.int (-1)] = _
    rw [hmin]
   ·rintro i σ' H' hi ⟨s,_,xs,v,rfl,gl,h2⟩
    have ep:((min m g:Nat):Int) - (i:Int) = ((min m g - i:Nat):Int):=by omega
    have em:(m:Int) - ((min m g - i:Nat):Int) = ((m - (min m g - i):Nat):Int):=by omega
    have hlx:xs.length <= 2 ^ (m - min m g + i):=by
     rw [<- h2.length]
     exact z9c (z5e n) (Nat.min_le_left _ _) i (by omega)
    rw [ep]
    refine ⟨_,rfl,.inl ⟨rfl,_,SqL.of gl⟩,_,rfl,_,rfl,_,_,rfl,rfl,_,rfl,m - (min m g - i),min m g - i,by omega,?_,by omega,by omega,fun l2 xs2 H2 gl2 h3 s2 nl2=>?_⟩
    ·show [V.int ((m:Int) - ((min m g - i:Nat):Int)),V.int ((min m g - i:Nat):Int)] = _
     rw [em]
    have hlx2:xs2.length <= 2 ^ (m - min m g + i):=by
     rw [<- h3.length]
     have e1:m - (min m g - i) = m - min m g + i:=by omega
     exact Nat.le_trans (z5e n (m - (min m g - i)) (min m g - i)) (by rw [e1]; exact Nat.le_refl _)
    have hpw:2 ^ (m - min m g + i) + 2 ^ (m - min m g + i) <= sizeLine:=by
     have:2 ^ (m - min m g + i) + 2 ^ (m - min m g + i) = 2 ^ (m - min m g + i + 1):=by rw [Nat.pow_succ]; omega
     rw [this]
     exact y8w (by omega)
    refine ⟨l2,rfl,⟨_,SqL.of gl2⟩,z3t (xs:=xs2) (fun j ys σ' H3=>Same H2 H3 /\ (∃ v,σ' = [v,some (.int ((min m g - i:Nat):Int))]) /\ All2 Tup1 H3 (((z2y n (m - (min m g - i)) (min m g - i)).take j).map (((min m g - i:Nat):Int) :: ·)) ys) ⟨fun _ _ h=>h,⟨_,rfl⟩,.nil⟩ ?_ ?_ ?_⟩
    ·rintro j ys σ' H3 hj ⟨s3,_,h4⟩
     refine ⟨SqL.of (s3 _ _ gl2),?_⟩
     rw [<- h4.length,List.length_map,List.length_take]
     omega
    ·rintro j x ys σ' H3 hx ⟨s3,⟨v,rfl⟩,h4⟩
     obtain ⟨hs,hhs,q,rfl,hq⟩:=h3.get hx
     have hj:=(List.getElem?_eq_some_iff.mp hhs).1
     have eh:=(List.getElem?_eq_some_iff.mp hhs).2
     refine ⟨_,rfl,by show 1 <= sizeLine; decide,fun t ht=>⟨_,rfl,?_⟩⟩
     have hl1:hs.length <= 100:=by
      have:=zCz _ _ _ hs (List.mem_of_getElem? hhs)
      omega
     refine zBo (Same.new ht _ _ (s3 _ _ hq)) z0c hl1 fun v H4 hv s4=>?_
     have sn:=(Same.new (o:=.tup [V.int ((min m g - i:Nat):Int)]) ht).trans s4
     refine ⟨s3.trans sn,⟨_,rfl⟩,?_⟩
     rw [List.take_succ_eq_append_getElem hj,List.map_append,eh]
     exact (h4.mv sn.tups).snoc hv
    ·rintro ys σ' H3 ⟨s3,_,h4⟩ l3 hl3
     have et:(z2y n (m - (min m g - i)) (min m g - i)).take xs2.length = z2y n (m - (min m g - i)) (min m g - i):=by rw [<- h3.length,List.take_length]
     rw [et] at h4
     have hly:ys.length = xs2.length:=by rw [<- h4.length,List.length_map,h3.length]
     have sn:=s2.trans (s3.trans (Same.new (o:=.lst ys) hl3))
     refine ⟨l,l3,xs,ys,rfl,rfl,sn _ _ gl,z0c,by omega,?_⟩
     have tn:Tups H' (upd (upd H3 l3 (.lst ys)) l (.lst (xs ++ ys))):=sn.tups.trans (Tups.set (sn _ _ gl))
     have tn3:Tups H3 (upd (upd H3 l3 (.lst ys)) l (.lst (xs ++ ys))):=(Same.new hl3).tups.trans (Tups.set (sn _ _ gl))
     refine ⟨fun b o e=>?_,by omega,xs ++ ys,_,rfl,z0c,?_⟩
     ·rw [z0n (z0r e hl)]
      exact sn _ _ (s _ _ e)
     ·rw [z9w]
      exact (h2.mv tn).append (h4.mv tn3)
   ·rintro σ' H' ⟨s,_,xs,v,rfl,gl,h2⟩
    refine ⟨_,rfl,k l xs H' gl ?_ s hl⟩
    rw [z1j,if_neg m0]
    exact h2
theorem zAo (T:Txt K mg A):FnOk P w K mg base CX0 26 A.a__law_partings A.fd__law_partings ["_law_n", "_law_top"] (zJy 26):=z6o T 26
def z8e:List Str:=["_law_rule_here", "_law_n"]
theorem zDg:FnScope z8e ["_law_rule_here", "_law_n"] (z0b z0u):=⟨rfl,rfl,rfl,by decide +kernel,rfl,by decide +kernel,by decide +kernel⟩
def y5r:Sp:=fun vs H Q _=>∃ (p:Addr) (rs:List V) (rule:List (List Int)) (m:Nat),vs = [.ref p,.int (m:Int)] /\ H p = some (.tup rs) /\ All2 Tup1 H rule rs /\ rule.length <= 60 /\ (∀ h ∈ rule,h.length <= 1000) /\ m <= 24 /\
 ∀ (l:Addr) (xs:List V) (H':Hp),H' l = some (.lst xs) -> All2 Tup1 H' (z2a rule m) xs -> Same H H' -> H l = none -> Q (.ref l) H'
theorem z7f (T:Txt K mg A):FnOk P w K mg base CX0 27 A.a__law_keepers A.fd__law_keepers ["_law_rule_here", "_law_n"] y5r:=by
 refine T.F__law_keepers.ok zDg (fun vs H Q E h=>?_) (fun cdv Ar outer s H vs Q E hr h=>?_)
 ·obtain ⟨p,rs,rule,m,rfl,hp,h2,hln,hlr,hm,k⟩:=h
  rfl
 ·obtain ⟨p,rs,rule,m,rfl,hp,h2,hln,hlr,hm,k⟩:=h
  refine ⟨_,(z0f (z0p (z2p (ls:=["_law_heap_here"]) (fr:=[("_law_rule_here",0)]) (z4w (z0b z0u) z8e rfl rfl (by decide +kernel)) rfl (z2q (z0j (zAo T) (hr.mono (by decide)) rfl T.g__law_partings T.F__law_partings.kp T.b__law_partings .nil z0s (z0a (pv 1) (z0a (pv 1) z0d)))) (fun _ _ _ _=>pgc 0 (by decide +kernel) rfl rfl) (fun _ _ _ _=>y3d (z0w zEx (z0j (zFz T) (hr.mono (by decide)) (glc (z0b z0u)) T.g__law_first T.F__law_first.kp T.b__law_first .nil z0s (z0a (pvc (z0b z0u) 1) (z0a (pvc (z0b z0u) 0) z0d))) z6p (z1d _))) (fun _ _ _ _=>(pvc (z0b z0u) 0))))),?_⟩
  refine ⟨_,rfl,_,rfl,m,m,by omega,rfl,hm,by omega,fun l xs H1 gl h1 s1 nl=>?_⟩
  have hlx:xs.length <= sizeLine:=by rw [<- h1.length]; exact Nat.le_trans (z5e _ _ _) (y8w hm)
  refine ⟨l,rfl,⟨_,SqL.of gl⟩,z3t (xs:=xs) (fun i ys σ' H'=>Same H1 H' /\ (∃ v,σ' = [v,some (.ref p)]) /\ ys.length <= i /\ All2 Tup1 H' (((z2y 26 m m).take i).filter fun h=>(z1m rule h).isNone) ys) ⟨fun _ _ h=>h,⟨_,rfl⟩,Nat.le_refl _,.nil⟩ ?_ ?_ ?_⟩
  ·rintro i ys σ' H' hi ⟨s,_,hy,_⟩
   exact ⟨SqL.of (s _ _ gl),by omega⟩
  ·rintro i x ys σ' H' hx ⟨s,⟨v,rfl⟩,hy,h3⟩
   obtain ⟨hs,hhs,q,rfl,hq⟩:=h1.get hx
   have sn:=s1.trans s
   refine ⟨_,rfl,_,rfl,p,q,rs,rule,hs,rfl,sn _ _ hp,h2.mv sn.tups,s _ _ hq,hln,hlr,fun H2 s2=>⟨rfl,_,rfl,?_⟩⟩
   rw [zJf]
   refine ite2 (fun hc=>⟨_,rfl,s.trans s2,⟨_,rfl⟩,by simp; omega,?_⟩) (fun hc=>⟨s.trans s2,⟨_,rfl⟩,by omega,?_⟩)
   ·rw [z6q _ hhs,if_pos hc]
    exact (h3.mv s2.tups).snoc ⟨q,rfl,s2 _ _ (s _ _ hq)⟩
   ·rw [z6q _ hhs,if_neg hc,List.append_nil]
    exact h3.mv s2.tups
  ·rintro ys σ' H' ⟨s,_,hy,h3⟩ l2 hl2
   rw [<- h1.length,List.take_length] at h3
   have sn:=s1.trans (s.trans (Same.new (o:=.lst ys) hl2))
   exact k l2 ys _ z0c (h3.mv (Same.new hl2).tups) sn ((s1.trans s).free hl2)
def z6w:List Str:=["_law_found"]
theorem z9z:FnScope z6w ["_law_found"] (z0b z0m):=⟨rfl,rfl,rfl,by decide +kernel,rfl,by decide +kernel,by decide +kernel⟩
def yCx:Sp:=fun vs H Q _=>∃ (a:Addr) (ns:List Int),vs = [.ref a] /\ H a = some (.tup (ns.map V.int)) /\ ns.length <= 100000 /\ ∀ (H':Hp),Same H H' -> Q (.bl true) H'
theorem z9s (T:Txt K mg A):FnOk P w K mg base CX0 1 A.a__law_heap_told A.fd__law_heap_told ["_law_found"] yCx:=by
 refine T.F__law_heap_told.ok z9z (fun vs H Q E h=>?_) (fun cdv Ar outer s H vs Q E hr h=>?_)
 ·obtain ⟨a,ns,rfl,ha,hln,k⟩:=h
  rfl
 ·obtain ⟨a,ns,rfl,ha,hln,k⟩:=h
  refine ⟨_,(z0e (z2z (z7m (z2b (z0o z3w rfl T.b_isinstance boot_isinstance (z0a (pv 0) (z0a (z3u (v:=.ty "tuple") rfl T.b_tuple boot_tuple rfl) z0d))) (fun _=>rfl)))
     (z0f (z0p z8a)) z1a)
    (z0f (z0p (z0o (z3g rfl) rfl T.b_all boot_all (z0a (z2p (ls:=["_law_part"]) (fr:=[]) (z4w (z0b z0m) z6w rfl rfl (by decide +kernel)) rfl (z9e (pv 0)) (fun _ _ _ _=>pgc 0 (by decide +kernel) rfl rfl) (fun _ _ _ _=>z3v) (fun _ _ _ _=>(z8i (z0o (zBn K rfl) (glc (z0b z0m)) T.b_isinstance boot_isinstance (z0a (pvc (z0b z0m) 0) (z0a (z3u (v:=.ty "int") (glc (z0b z0m)) T.b_int boot_int rfl) z0d))) (zDa (yDr (z0o (zBn K rfl) (glc (z0b z0m)) T.b_isinstance boot_isinstance (z0a (pvc (z0b z0m) 0) (z0a (z3u (v:=.ty "bool") (glc (z0b z0m)) T.b_bool boot_bool rfl) z0d)))))))) z0d))))),?_⟩
  refine ⟨_,rfl,_,_,_,true,rfl,TyOf.tup ha,z6t,true,rfl,iteF ?_⟩
  refine ⟨_,rfl,a,rfl,⟨_,SqT.of ha⟩,zAy (xs:=ns.map V.int) (fun i ys σ' H'=>H' = H /\ (∃ v,σ' = [v]) /\ ys = (List.replicate i true).map V.bl /\ i <= ns.length) ⟨rfl,⟨_,rfl⟩,rfl,Nat.zero_le _⟩ ?_ ?_ ?_⟩
  ·rintro i ys σ' H' hi ⟨eH,_,rfl,hi'⟩
   subst eH
   refine ⟨SqT.of ha,?_⟩
   rw [List.length_map,List.length_replicate]
   exact Nat.le_trans (m:=100000) (by omega) (by decide)
  ·rintro i x ys σ' H' hx ⟨eH,⟨v,rfl⟩,rfl,hi'⟩
   subst eH
   obtain ⟨z,hz,rfl⟩:=z5q hx
   refine ⟨_,rfl,_,_,_,true,rfl,TyOf.int _,zCe,true,rfl,iteT ⟨_,rfl,_,_,_,false,rfl,TyOf.int _,zAi,false,rfl,rfl,⟨_,rfl⟩,?_,?_⟩⟩
   ·rw [List.replicate_succ',List.map_append]
    rfl
   ·have:=(List.getElem?_eq_some_iff.mp hz).1
    omega
  ·rintro ys σ' H' ⟨eH,_,rfl,_⟩ l hl
   subst eH
   rw [List.length_map]
   refine ⟨l,List.replicate ns.length true,rfl,SqL.of z0c,?_⟩
   rw [show (List.replicate ns.length true).all id = true by simp]
   exact k _ (Same.new hl)
def zIv:List Str:=["rule"]
theorem y5k:FnScope zIv ["rule"] (z0b z1z):=⟨rfl,rfl,rfl,by decide +kernel,rfl,by decide +kernel,by decide +kernel⟩
def CS (z:List Int × Int) (v:V) (H:Hp):Prop:=∃ q c,v = .ref q /\ H q = some (.tup [.ref c,.int z.2]) /\ H c = some (.tup (z.1.map V.int))
theorem CS.mv {H H':Hp} {z:List Int × Int} {v:V} (t:Tups H H'):CS z v H -> CS z v H'
 | ⟨q,c,e,h1,h2⟩=>⟨q,c,e,t _ _ h1,t _ _ h2⟩
noncomputable def sumX (rule:List (List Int)) (c:List Int):Int:=(z3y (z1y rule c)).sum
def y5x:Sp:=fun vs H Q _=>∃ (p:Addr) (rs:List V) (rule:List (List Int)),vs = [.ref p] /\ H p = some (.tup rs) /\ All2 Tup1 H rule rs /\ rule.length <= 6 /\ zBk rule /\
 ∀ (l:Addr) (xs:List V) (H':Hp),H' l = some (.lst xs) -> All2 CS H' ((chG (upto rule.length)).map fun c=>(c,sumX rule c)) xs -> Same H H' -> Q (.ref l) H'
theorem zEv (T:Txt K mg A):FnOk P w K mg base CX0 4 A.a_sums_of A.fd_sums_of ["rule"] y5x:=by
 refine T.F_sums_of.ok y5k (fun vs H Q E h=>?_) (fun cdv Ar outer s H vs Q E hr h=>?_)
 ·obtain ⟨p,rs,rule,rfl,hp,h2,h6,hJ,k⟩:=h
  rfl
 ·obtain ⟨p,rs,rule,rfl,hp,h2,h6,hJ,k⟩:=h
  refine ⟨_,(z0f (z0p (z2p (ls:=["choice"]) (fr:=[("rule",0)]) (z4w (z0b z1z) zIv rfl rfl (by decide +kernel)) rfl (z2q (z0j (z8y T) (hr.mono (by decide)) rfl T.g_choices_of T.F_choices_of.kp T.b_choices_of .nil z0s (z0a (pv 0 (hv:=Or.inr (Or.inl rfl))) z0d))) (fun _ _ _ _=>pgc 0 (by decide +kernel) rfl rfl) (fun _ _ _ _=>z3v) (fun _ _ _ _=>(z3f (z0a (pvc (z0b z1z) 0) (z0a (z0j (z8z T) (hr.mono (by decide)) (glc (z0b z1z)) T.g_sum_of T.F_sum_of.kp T.b_sum_of .nil z0s (z0a (z0j (z5y T) (hr.mono (by decide)) (glc (z0b z1z)) T.g_joined_of T.F_joined_of.kp T.b_joined_of .nil z0s (z0a (pvc (z0b z1z) 1) (z0a (pvc (z0b z1z) 0) z0d))) z0d)) z0d))))))),?_⟩
  have hrl:=h2.length
  refine ⟨_,rfl,p,rs,rfl,hp,by omega,fun cl cs H1 gc h4 s1 ncl=>?_⟩
  rw [<- hrl] at h4
  have hcl:=h4.length
  have h64:(chG (upto rule.length)).length <= 64:=by
   rw [zFo _ _ (z9k _)]
   exact Nat.le_trans (Nat.pow_le_pow_right (by decide) h6) (by decide)
  refine ⟨cl,rfl,⟨_,SqL.of gc⟩,z9n CS ((chG (upto rule.length)).map fun c=>(c,sumX rule c)) [some (.ref p)] (by rw [List.length_map]; exact hcl) (Nat.le_trans (m:=64) (by omega) (by decide)) (fun _ _ _ _ s h=>h.mv s.tups) rfl gc (fun j x b H' P hx hb s' hP=>?_) (fun zs H2 l s2 a2 hl=>?_)⟩
  ·obtain ⟨ch,hch,c,rfl,gcc⟩:=h4.get hx
   rw [List.getElem?_map,hch] at hb
   have s02:=s1.trans s'
   obtain ⟨cm1,cm2⟩:=zFp rule.length (upto rule.length) (z9k _) ch (List.mem_of_getElem? hch)
   have chb:∀ j ∈ ch,0 <= j /\ j < rule.length:=fun j hj=>by
    have:=y3q (cm2 j hj)
    omega
   refine ⟨_,rfl,_,rfl,_,rfl,p,c,rs,rule,ch,rfl,s02 _ _ hp,h2.mv s02.tups,s' _ _ gcc,⟨hJ.pick (by omega),by omega⟩,chb,fun q ms H4 gq hj hl4 s4 nq=>?_⟩
   have ej:=zBb hj
   refine ⟨q,ms,rfl,SqT.of gq,by show 2 <= sizeLine; decide,fun T1 hT1=>?_⟩
   have s5:=Same.new (o:=.tup [V.ref c,V.int ms.sum]) hT1
   refine hP _ _ (s4.trans s5) ?_
   rw [<- Option.some.inj hb]
   refine ⟨T1,c,rfl,?_,s5 _ _ (s4 _ _ (s' _ _ gcc))⟩
   rw [z0c]
   show _ = some (HO.tup [V.ref c,V.int (sumX rule ch)])
   unfold sumX
   rw [ej]
  ·exact k l zs _ z0c (a2.imp fun _ _ h=>h.mv (Same.new hl).tups) (s1.trans (s2.trans (Same.new hl)))
def zDw:List Str:=["one", "other", "row", "fellow"]
theorem z5u:FnScope zDw ["one", "other"] (z0b z1p):=⟨rfl,rfl,rfl,by decide +kernel,rfl,by decide +kernel,by decide +kernel⟩
def zDi:Sp:=fun vs H Q _=>∃ (p q:Addr) (rs qs:List V) (one other:List (List Int)),vs = [.ref p,.ref q] /\ H p = some (.tup rs) /\ All2 Tup1 H one rs /\ H q = some (.tup qs) /\ All2 Tup1 H other qs /\ one.length = other.length /\ one.length <= 6 /\ zBk one /\ zBk other /\ (∀ c,sumX one c = sumX other c) /\ ∀ H',Same H H' -> Q .non H'
theorem zCv (T:Txt K mg A):FnOk P w K mg base CX0 5 A.a_first_unlike A.fd_first_unlike ["one", "other"] zDi:=by
 refine T.F_first_unlike.ok z5u (fun vs H Q E h=>?_) (fun cdv Ar outer s H vs Q E hr h=>?_)
 ·obtain ⟨p,q,rs,qs,one,other,rfl,hp,h2,hq,g2,hl,h6,hJ,hJ2,hm,k⟩:=h
  rfl
 ·obtain ⟨p,q,rs,qs,one,other,rfl,hp,h2,hq,g2,hl,h6,hJ,hJ2,hm,k⟩:=h
  refine ⟨_,(z0e (z2z (z0w y5b (z0o z0x rfl T.b_len PySem.boot_len (z0a (pv 0) z0d)) (z0o z0x rfl T.b_len PySem.boot_len (z0a (pv 1) z0d)) (z1d _))
     (z0f z4z) z1a)
    (z0e (z5i PassesOwn.never rfl (zJk false false rfl T.b_zip (z0a (z0j (zEv T) (hr.mono (by decide)) rfl T.g_sums_of T.F_sums_of.kp T.b_sums_of .nil z0s (z0a (pv 0) z0d)) (z0a (z0j (zEv T) (hr.mono (by decide)) rfl T.g_sums_of T.F_sums_of.kp T.b_sums_of .nil z0s (z0a (pv 1) z0d)) z0d))) (y3e rfl (z1t (z2m (i:=2) z5u.nd rfl (by first | exact Or.inl rfl | exact Or.inr rfl)) (z1t (z2m (i:=3) z5u.nd rfl (by first | exact Or.inl rfl | exact Or.inr rfl)) z5s)))
     (z0f (z2z (z0w y5b (z2j z2x (pv 2) z0i (fun _ _=>rfl)) (z2j z2x (pv 3) z0i (fun _ _=>rfl)) (z1d _))
     (z0f (z0p (z3f (z0a (z2j z2x (pv 2) z0i (fun _ _=>rfl)) (z0a (z2j z2x (pv 2) z0i (fun _ _=>rfl)) (z0a (z2j z2x (pv 3) z0i (fun _ _=>rfl)) z0d)))))) z1a)))
    (z0f (z0p z6p)))),?_⟩
  have hrl:=h2.length
  have hql:=g2.length
  refine ⟨_,rfl,p,_,rfl,.inr (SqT.of hp),_,rfl,q,_,rfl,.inr (SqT.of hq),rfl,_,rfl,zDq (by rw [<- hrl,<- hql,hl]) ?_⟩
  refine ⟨_,rfl,p,rs,one,rfl,hp,h2,h6,hJ,fun l1 xs H1 gl1 a1 s1=>?_⟩
  refine ⟨_,rfl,q,qs,other,rfl,s1 _ _ hq,g2.mv s1.tups,by omega,hJ2,fun l2 ys H2 gl2 a2 s2=>?_⟩
  rw [<- hl] at a2
  have a1:=a1.imp (H':=H2) fun _ _ h=>h.mv s2.tups
  have gl1:=s2 _ _ gl1
  refine ⟨l1,l2,rfl,⟨_,SqL.of gl1⟩,⟨_,SqL.of gl2⟩,yEy (xs:=xs) (ys:=ys) (fun i σ' H'=>Same H2 H' /\ ∃ v w,σ' = [some (.ref p),some (.ref q),v,w]) ⟨Same.refl _,_,_,rfl⟩ ?_ ?_ ?_⟩
  ·rintro i σ' H' _ ⟨s',_⟩
   exact ⟨SqL.of (s' _ _ gl1),SqL.of (s' _ _ gl2)⟩
  ·rintro i x y σ' H' T' hx hy ⟨s',v,w',rfl⟩ hT
   obtain ⟨z1,hz1,q1,c1,rfl,e1,f1⟩:=a1.get hx
   obtain ⟨z2,hz2,q2,c2,rfl,e2,f2⟩:=a2.get hy
   rw [List.getElem?_map] at hz1 hz2
   have ez:z1.2 = z2.2:=by
    cases hc:(chG (upto one.length))[i]? with
    | none=>rw [hc] at hz1; cases hz1
    | some c =>
     rw [hc] at hz1 hz2
     rw [<- Option.some.inj hz1,<- Option.some.inj hz2]
     exact hm c
   have sT:=Same.new (o:=.tup [V.ref q1,V.ref q2]) hT
   have gT:=z0c (H:=H') (a:=T') (o:=.tup [V.ref q1,V.ref q2])
   generalize upd H' T' (.tup [V.ref q1,V.ref q2]) = H3 at sT gT
   have e1':=sT _ _ (s' _ _ e1)
   have e2':=sT _ _ (s' _ _ e2)
   refine ⟨T',_,rfl,SqT.of gT,rfl,_,_,rfl,_,_,rfl,rfl,?_⟩
   refine ⟨_,rfl,q1,_,_,_,rfl,rfl,SqT.of e1',z1l (j:=1) rfl,_,rfl,q2,_,_,_,rfl,rfl,SqT.of e2',z1l (j:=1) rfl,rfl,_,rfl,zDq (by rw [ez]) ?_⟩
   exact ⟨s'.trans sT,_,_,rfl⟩
  ·rintro σ' H' ⟨s',v,w',rfl⟩
   exact k H' (s1.trans (s2.trans s'))
def z9r:List Str:=["self", "one", "other", "unlike"]
theorem z6b:FnScope z9r ["self", "one", "other"] (z0b z1c):=⟨rfl,rfl,rfl,by decide +kernel,rfl,by decide +kernel,by decide +kernel⟩
def y1o (A:Adr):Sp:=fun vs H Q _=>∃ (x dx p q:Addr) (rs qs:List V) (one other:List (List Int)),vs = [.ref x,.ref p,.ref q] /\ H x = some (.ins A.c_Beside dx []) /\ H p = some (.tup rs) /\ All2 Tup1 H one rs /\ H q = some (.tup qs) /\ All2 Tup1 H other qs /\ Rul one other /\
 ∀ (H':Hp),H' x = some (.ins A.c_Beside dx (fl2 p q)) -> (∀ b o,H b = some o -> b ≠ x -> H' b = some o) -> Q .non H'
theorem z5x (T:Txt K mg A):FnOk P w K mg base CX0 6 A.a_Beside___init__ A.fd_Beside___init__ ["self", "one", "other"] (y1o A):=by
 refine T.F_Beside___init__.ok z6b (fun vs H Q E h=>?_) (fun cdv Ar outer s H vs Q E hr h=>?_)
 ·obtain ⟨x,dx,p,q,rs,qs,one,other,rfl,hx,hp,h2,hq,g2,R,k⟩:=h
  rfl
 ·obtain ⟨x,dx,p,q,rs,qs,one,other,rfl,hx,hp,h2,hq,g2,R,k⟩:=h
  refine ⟨_,(z0e (z0t (i:=3) z6b.nd rfl (by first | exact Or.inl rfl | exact Or.inr rfl) (z0j (zCv T) (hr.mono (by decide)) rfl T.g_first_unlike T.F_first_unlike.kp T.b_first_unlike .nil z0s (z0a (pv 1) (z0a (pv 2) z0d))))
    (z0e (z2z (z0w y8m (pv 3) z6p (z1d _))
     (z0f z4z) z1a)
    (z0e (yDu (pv 0) (pv 1) rfl)
    (z0f (yDu (pv 0) (pv 2) rfl))))),?_⟩
  refine ⟨_,rfl,_,rfl,p,q,rs,qs,one,other,rfl,hp,h2,hq,g2,R.ln,R.l6,R.j1,R.j2,R.eq,fun H1 s1=>?_⟩
  refine ⟨_,rfl,rfl,_,rfl,ite2 (fun z=>by simp at z) (fun _=>?_)⟩
  refine ⟨_,rfl,_,rfl,x,A.c_Beside,dx,[],rfl,s1 _ _ hx,T.cl_Beside,T.na_Beside_one,(by show 0 < 1000; decide),_,rfl,_,rfl,x,A.c_Beside,dx,_,rfl,z0c,T.cl_Beside,T.na_Beside_other,(by show 1 < 1000; decide),?_⟩
  refine k _ z0c fun b o e hb=>?_
  rw [z0n hb,z0n hb]
  exact s1 _ _ e
def zFw:List Str:=["self"]
theorem zEc:FnScope zFw ["self"] (z0b z1v):=⟨rfl,rfl,rfl,by decide +kernel,rfl,by decide +kernel,by decide +kernel⟩
def y1n (A:Adr):Sp:=fun vs H Q _=>∃ (x p q:Addr) (rs qs:List V) (one other:List (List Int)),vs = [.ref x] /\ Sided A.c_Beside H x p q rs qs one other /\ Rul one other /\
 ∀ (y:Addr) (H':Hp),Sided A.c_Beside H' y q p qs rs other one -> Same H H' -> Q (.ref y) H'
theorem zDy (T:Txt K mg A):FnOk P w K mg base CX0 8 A.a_Beside_back A.fd_Beside_back ["self"] (y1n A):=by
 refine T.F_Beside_back.ok zEc (fun vs H Q E h=>?_) (fun cdv Ar outer s H vs Q E hr h=>?_)
 ·obtain ⟨x,p,q,rs,qs,one,other,rfl,S,R,k⟩:=h
  rfl
 ·obtain ⟨x,p,q,rs,qs,one,other,rfl,S,R,k⟩:=h
  refine ⟨_,(z0f (z0p (y8o T.mk_Beside (z5x T) (hr.mono (by decide)) rfl T.g_Beside T.b_Beside___init__ .nil z0s (z0a (y2z (pv 0) rfl) (z0a (y2z (pv 0) rfl) z0d))))),?_⟩
  obtain ⟨dx,hx⟩:=S.ob
  refine ⟨_,rfl,x,A.c_Beside,dx,_,_,rfl,hx,T.cl_Beside,T.na_Beside_other,zHz _ _,_,rfl,x,A.c_Beside,dx,_,_,rfl,hx,T.cl_Beside,T.na_Beside_one,y7a _ _,fun y dy ny ndy ne=>?_⟩
  have sx:Same H (upd (upd H dy (.own y)) y (.ins A.c_Beside dy [])):=(Same.new ndy).trans (Same.new (by rw [z0n ne.symm]; exact ny))
  refine ⟨y,dy,q,p,qs,rs,other,one,rfl,z0c,sx _ _ S.hq,S.g2.mv sx.tups,sx _ _ S.hp,S.h2.mv sx.tups,R.swap,fun H' hy far=>⟨rfl,?_⟩⟩
  have s:Same H H':=fun b o hb=>far b o (sx _ _ hb) fun z=>by rw [z,ny] at hb; cases hb
  exact k y H' ⟨⟨dy,hy⟩,s _ _ S.hq,S.g2.mv s.tups,s _ _ S.hp,S.h2.mv s.tups,R.ln.symm,R.swap.l6,R.b2,R.b1⟩ s
def y4q:List Str:=["_law_script", "_law_state", "_law_one", "_law_other", "_law_n", "_law_sided", "_law_kept", "_law_theirs", "_law_told", "_law_about"]
theorem z8j:FnScope y4q ["_law_script"] (z0b z4r):=⟨rfl,rfl,rfl,by decide +kernel,rfl,by decide +kernel,by decide +kernel⟩
theorem y0f {K:PySem.W.Frag} {H:Hp}:∀ {A:List (List Int)} {xs:List V},All2 Tup1 H A xs -> All2 (RTup K RInt) H A xs
 | [],_,.nil=>.nil
 | h :: A,_,.cons hh t=>by
  obtain ⟨q,rfl,g⟩:=hh
  exact .cons ⟨q,_,rfl,SqT.of g,zHg _⟩ (y0f t)
theorem yJn:((List.range 9).all fun m=>decide ((z2y 26 m m).length <= 22)) = true:=by decide +kernel
theorem yGz {rule:List (List Int)} {m:Nat} (h:m <= 8):(z2a rule m).length <= 63:=by
 have h1:=of_decide_eq_true (List.all_eq_true.mp yJn m (List.mem_range.mpr (by omega)))
 have h2:(z2a rule m).length <= (z2y 26 m m).length:=List.length_filter_le ..
 omega
theorem yJm {rule:List (List Int)} {m:Nat} (h:m = 0):(z2a rule m).length <= 1:=by
 subst h
 have h2:(z2a rule 0).length <= (z2y 26 0 0).length:=List.length_filter_le ..
 exact Nat.le_trans h2 (by decide)
def y3n (K:PySem.W.Frag):Sp:=fun vs H Q _=>∃ (a:Addr) (ns:List Int),vs = [.ref a] /\ SqL K H a (ns.map V.int) /\ ns.length <= 63 /\ ∀ H',Q (.bl true) H'
theorem yHh (T:Txt K mg A):FnOk P w K mg base CX0 40 A.a_law A.fd_law ["_law_script"] (y3n K):=by
 refine T.F_law.ok z8j (fun vs H Q E h=>?_) (fun cdv Ar outer s H vs Q E hr h=>?_)
 ·obtain ⟨a,ns,rfl,hS,hl,k⟩:=h
  rfl
 ·obtain ⟨a,ns,rfl,hS,hl,k⟩:=h
  refine ⟨_,(z0e (z0t (i:=1) z8j.nd rfl (by first | exact Or.inl rfl | exact Or.inr rfl) (z0j (zGa T) (hr.mono (by decide)) rfl T.g__law_start T.F__law_start.kp T.b__law_start .nil z0s (z0a (pv 0) z0d)))
    (z0e (y3g (z0j (zCs T) (hr.mono (by decide)) rfl T.g__law_matched T.F__law_matched.kp T.b__law_matched .nil z0s (z0a (pv 1) (z0a z0i z0d))) (y3e rfl (z1t (z2m (i:=2) z8j.nd rfl (by first | exact Or.inl rfl | exact Or.inr rfl)) (z1t (z2m (i:=3) z8j.nd rfl (by first | exact Or.inl rfl | exact Or.inr rfl)) z5s))))
    (z0e (z0t (i:=4) z8j.nd rfl (by first | exact Or.inl rfl | exact Or.inr rfl) (z0j (z3a T) (hr.mono (by decide)) rfl T.g__law_draw T.F__law_draw.kp T.b__law_draw .nil z0s (z0a (pv 1) (z0a z0i z0d))))
    (z0e (z0t (i:=5) z8j.nd rfl (by first | exact Or.inl rfl | exact Or.inr rfl) (y8o T.mk_Beside (z5x T) (hr.mono (by decide)) rfl T.g_Beside T.b_Beside___init__ .nil z0s (z0a (pv 2) (z0a (pv 3) z0d))))
    (z0e (z0t (i:=6) z8j.nd rfl (by first | exact Or.inl rfl | exact Or.inr rfl) (z0j (z7f T) (hr.mono (by decide)) rfl T.g__law_keepers T.F__law_keepers.kp T.b__law_keepers .nil z0s (z0a (pv 2) (z0a (pv 4) z0d))))
    (z0e (z0t (i:=7) z8j.nd rfl (by first | exact Or.inl rfl | exact Or.inr rfl) (z0j (z7f T) (hr.mono (by decide)) rfl T.g__law_keepers T.F__law_keepers.kp T.b__law_keepers .nil z0s (z0a (pv 3) (z0a (pv 4) z0d))))
    (z0e (z0t (i:=8) z8j.nd rfl (by first | exact Or.inl rfl | exact Or.inr rfl) (z0j (z8f T) (hr.mono (by decide)) rfl T.g_meetings_of T.F_meetings_of.kp T.b_meetings_of .nil z0s (z0a (pv 5) (z0a (pv 4) z0d))))
    (z0e (z2z (PW.pt (zJn (z7m (z2b (z0o z3w rfl T.b_isinstance boot_isinstance (z0a (pv 8) (z0a (z3u (v:=.ty "list") rfl T.b_list boot_list rfl) z0d))) (fun _=>rfl))) (zDd (z7m (z2b (z0o (z3g rfl) rfl T.b_all boot_all (z0a (z2p (ls:=["_law_row"]) (fr:=[]) (z4w (z0b z4r) y4q rfl rfl (by decide +kernel)) rfl (z2q (pv 8)) (fun _ _ _ _=>pgc 0 (by decide +kernel) rfl rfl) (fun _ _ _ _=>z3v) (fun _ _ _ _=>(z8i (z0o (zBn K rfl) (glc (z0b z4r)) T.b_isinstance boot_isinstance (z0a (pvc (z0b z4r) 0) (z0a (z3u (v:=.ty "tuple") (glc (z0b z4r)) T.b_tuple boot_tuple rfl) z0d))) (zDa (z5f z7z (z0o (zFj K rfl) (glc (z0b z4r)) T.b_len PySem.boot_len (z0a (pvc (z0b z4r) 0) z0d)) z0i (z1d _)))))) z0d)) (fun _=>rfl))))))
     (z0f (z0p z8a)) z1a)
    (z0e (z2z (z7m (z2b (z0o (z3g rfl) rfl T.b_all boot_all (z0a (z2p (ls:=["_law_heap_here", "_law_end"]) (fr:=[]) (z4w (z0b z4r) y4q rfl rfl (by decide +kernel)) rfl (z2q (pv 8)) (fun _ _ _ _=>z7k 2 rfl (z1t (pgc (ls:=["_law_heap_here", "_law_end"]) (fr:=[]) 0 (by decide +kernel) rfl rfl) (z1t (pgc (ls:=["_law_heap_here", "_law_end"]) (fr:=[]) 1 (by decide +kernel) rfl rfl) z5s)) rfl rfl) (fun _ _ _ _=>z3v) (fun _ _ _ _=>(z0j (z9s T) (hr.mono (by decide)) (glc (z0b z4r)) T.g__law_heap_told T.F__law_heap_told.kp T.b__law_heap_told .nil z0s (z0a (pvc (z0b z4r) 1) z0d)))) z0d)) (fun _=>rfl)))
     (z0f (z0p z8a)) z1a)
    (z0e (z2z (PW.pt (zJn (z7m (z2b (z0j (z7g T) (hr.mono (by decide)) rfl T.g__law_same T.F__law_same.kp T.b__law_same .nil z0s (z0a (z2p (ls:=["_law_heap_here", "_law_end"]) (fr:=[]) (z4w (z0b z4r) y4q rfl rfl (by decide +kernel)) rfl (z2q (pv 8)) (fun _ _ _ _=>z7k 2 rfl (z1t (pgc (ls:=["_law_heap_here", "_law_end"]) (fr:=[]) 0 (by decide +kernel) rfl rfl) (z1t (pgc (ls:=["_law_heap_here", "_law_end"]) (fr:=[]) 1 (by decide +kernel) rfl rfl) z5s)) rfl rfl) (fun _ _ _ _=>z3v) (fun _ _ _ _=>(pvc (z0b z4r) 0))) (z0a (pv 6) z0d))) (fun _=>rfl))) (zDd (z0w y5b (z0o z0x rfl T.b_len PySem.boot_len (z0a (pv 6) z0d)) (z0o z0x rfl T.b_len PySem.boot_len (z0a (pv 7) z0d)) (z1d _)))))
     (z0f (z0p z8a)) z1a)
    (z0e (z2z (z0w (yFl (yEx yEw yEv) (huR hr)) (y3b yIn [] (huR hr) rfl T.b_sorted (z2p (ls:=["_law_heap_here", "_law_end"]) (fr:=[]) (z4w (z0b z4r) y4q rfl rfl (by decide +kernel)) rfl (z2q (pv 8)) (fun _ _ _ _=>z7k 2 rfl (z1t (pgc (ls:=["_law_heap_here", "_law_end"]) (fr:=[]) 0 (by decide +kernel) rfl rfl) (z1t (pgc (ls:=["_law_heap_here", "_law_end"]) (fr:=[]) 1 (by decide +kernel) rfl rfl) z5s)) rfl rfl) (fun _ _ _ _=>z3v) (fun _ _ _ _=>(pvc (z0b z4r) 1)))) (pv 7) (z1d _))
     (z0f (z0p z8a)) z1a)
    (z0e (z0t (i:=9) z8j.nd rfl (by first | exact Or.inl rfl | exact Or.inr rfl) (y3b yGa ([],[]) (huR hr) rfl T.b_sorted (z2p (ls:=["_law_heap_here", "_law_end"]) (fr:=[]) (z4w (z0b z4r) y4q rfl rfl (by decide +kernel)) rfl (z2q (pv 8)) (fun _ _ _ _=>z7k 2 rfl (z1t (pgc (ls:=["_law_heap_here", "_law_end"]) (fr:=[]) 0 (by decide +kernel) rfl rfl) (z1t (pgc (ls:=["_law_heap_here", "_law_end"]) (fr:=[]) 1 (by decide +kernel) rfl rfl) z5s)) rfl rfl) (fun _ _ _ _=>z3v) (fun _ _ _ _=>(z3f (z0a (pvc (z0b z4r) 1) (z0a (pvc (z0b z4r) 0) z0d)))))))
    (z0e (z2z (z7m (z2b (z0j (z7g T) (hr.mono (by decide)) rfl T.g__law_same T.F__law_same.kp T.b__law_same .nil z0s (z0a (z0j (z8f T) (hr.mono (by decide)) rfl T.g_meetings_of T.F_meetings_of.kp T.b_meetings_of .nil z0s (z0a (z9d (pv 5) T.cl_Beside T.mt_Beside_back (zDy T) (hr.mono (by decide)) T.b_Beside_back .nil z0s) (z0a (pv 4) z0d))) (z0a (pv 9) z0d))) (fun _=>rfl)))
     (z0f (z0p z8a)) z1a)
    (z0f (z0p (z0j (z7g T) (hr.mono (by decide)) rfl T.g__law_same T.F__law_same.kp T.b__law_same .nil z0s (z0a (z3r (z0a (z0j (zCt T) (hr.mono (by decide)) rfl T.g_count_of T.F_count_of.kp T.b_count_of .nil z0s (z0a (pv 2) (z0a (pv 4) z0d))) (z0a (z0j (zCt T) (hr.mono (by decide)) rfl T.g_count_of T.F_count_of.kp T.b_count_of .nil z0s (z0a (pv 3) (z0a (pv 4) z0d))) z0d))) (z0a (z3r (z0a (z0o z0x rfl T.b_len PySem.boot_len (z0a (pv 6) z0d)) (z0a (z0o z0x rfl T.b_len PySem.boot_len (z0a (pv 6) z0d)) z0d))) z0d)))))))))))))))))),?_⟩
  refine ⟨_,rfl,a,ns,rfl,hS,hl,fun st ga ca H1 S1 n1 n2 n3 s1=>?_⟩
  refine ⟨_,rfl,st,ga,ca,_,5,rfl,S1,by decide,by decide,by omega,fun R p q rs qs one other n H6 hR hp a1 hq a2 mt hn S6 K6=>?_⟩
  have RR:Rul one other:=Rul.of mt (by omega)
  have RB:Rul other one:=Rul.of mt.swap (by omega)
  have W:Two H6 R p q rs qs one other:=⟨hR,hp,a1,hq,a2,RR.ln,RR.l6,RR.b1,RR.b2⟩
  refine ⟨R,_,rfl,SqT.of W.at_,rfl,_,_,rfl,_,_,rfl,rfl,?_⟩
  refine ⟨_,rfl,st,ga,ca,_,9,rfl,S6,by decide,by decide,by decide,fun nn H7 m0 m1 S7 K7=>?_⟩
  obtain ⟨m,rfl⟩:∃ m:Nat,nn = (m:Int):=⟨nn.toNat,by omega⟩
  have hm8:m <= 8:=by omega
  have hm24:m <= 24:=by omega
  have W7:=W.mv (K7.tups S6)
  clear W hR hp a1 hq a2 S1 K6
  refine ⟨_,rfl,_,rfl,fun x dx nx ndx ne=>?_⟩
  have sx:Same H7 (upd (upd H7 dx (.own x)) x (.ins A.c_Beside dx [])):=(Same.new ndx).trans (Same.new (by rw [z0n ne.symm]; exact nx))
  have Wx:=W7.mv sx.tups
  refine ⟨x,dx,p,q,rs,qs,one,other,rfl,z0c,Wx.hp,Wx.h2,Wx.hq,Wx.g2,RR,fun H8 hx8 hk8=>⟨rfl,?_⟩⟩
  have s78:Same H7 H8:=fun b o hb=>hk8 b o (sx _ _ hb) (fun e=>by rw [e,nx] at hb; cases hb)
  have W8:=W7.mv s78.tups
  have B8:Sided A.c_Beside H8 x p q rs qs one other:=⟨⟨dx,hx8⟩,W8.hp,W8.h2,W8.hq,W8.g2,W8.ln,W8.l6,W8.b1,W8.b2⟩
  clear hk8 Wx sx W7 K7 S7 S6 s78 hx8 ne nx ndx
  have l6:=W8.l6
  have l6':other.length <= 6:=by rw [<- W8.ln]; exact l6
  refine ⟨_,rfl,_,rfl,p,rs,one,m,rfl,W8.hp,W8.h2,by omega,(fun h hh=>Nat.le_trans (W8.b1 h hh).1 (by decide)),hm24,fun kl kx H9 gk ak s9 nk=>?_⟩
  have W9:=W8.mv s9.tups
  refine ⟨_,rfl,_,rfl,q,qs,other,m,rfl,W9.hq,W9.g2,by omega,(fun h hh=>Nat.le_trans (W8.b2 h hh).1 (by decide)),hm24,fun tl tx HA gt at_ sA nt=>?_⟩
  have B9:=B8.mv (s9.trans sA)
  have WA:=W9.mv sA.tups
  refine ⟨_,rfl,_,rfl,x,p,q,rs,qs,one,other,(m:Int),rfl,B9,RR,.inl ⟨m,rfl,by omega,fun l xs HB gl al sB nl=>?_⟩⟩
  have gkB:=sB _ _ (sA _ _ gk)
  have akB:=ak.mv (sA.trans sB).tups
  have gtB:=sB _ _ gt
  have atB:=at_.mv sB.tups
  have BB:=B9.mv sB
  have WB:=WA.mv sB.tups
  have hkl:=mt.kept hm24
  have hk256:(z2a one m).length <= 63:=yGz hm8
  have hxl:=al.length
  rw [List.length_map] at hxl
  have hle:((z2a one m).map fun h=>(h,endH one other h)).length <= sizeLine:=by rw [List.length_map,sizeLine_eq]; omega
  refine ⟨_,rfl,_,_,_,true,rfl,TyOf.lst gl,z6s,true,rfl,iteF ?_⟩
  refine ⟨_,rfl,l,rfl,⟨_,SqL.of gl⟩,z9n (fun (b:Bool) v _=>v = V.bl b) (List.replicate xs.length true) [] (by rw [List.length_replicate]) (by rw [<- hxl,sizeLine_eq]; omega) (fun _ _ _ _ _ h=>h) rfl gl (fun j y b H' P hy hb s' hP=>?_) (fun zs HC w1 sC aC hw1=>?_)⟩
  ·obtain ⟨pc,hpc,qq,qa,qb,rfl,g1,g2,g3⟩:=al.get hy
   have eb:b = true:=by
    obtain ⟨_,e⟩:=List.getElem?_eq_some_iff.mp hb
    rw [<- e]; simp
   refine ⟨_,rfl,_,_,_,true,rfl,TyOf.tup (s' _ _ g1),z6t,_,rfl,iteT ⟨_,rfl,qq,_,rfl,.inr (SqT.of (s' _ _ g1)),rfl,?_⟩⟩
   exact hP _ _ (Same.refl _) (by rw [eb]; rfl)
  refine ⟨w1,List.replicate xs.length true,rfl,SqL.of (by rw [z0c,y6i aC]),true,(by show true = (List.replicate xs.length true).all id; simp),iteF ?_⟩
  have sC1:=sC.trans (Same.new (o:=.lst zs) hw1)
  generalize upd HC w1 (.lst zs) = HD at sC1 ⊢
  have alD:=al.mvP sC1.tups
  refine ⟨_,rfl,l,rfl,⟨_,SqL.of (sC1 _ _ gl)⟩,zAx (fun (b:Bool) v _=>v = V.bl b) _ (List.replicate (z2a one m).length true) (by rw [List.length_replicate,List.length_map]) hle (fun _ _ _ _ _ h=>h) rfl (sC1 _ _ gl) alD (fun j pc b qa qb H' P hpc hb s' g2 g3 hP=>?_) (fun zs2 HE w2 sE aE hw2=>?_)⟩
  ·have eb:b = true:=by
    obtain ⟨_,e⟩:=List.getElem?_eq_some_iff.mp hb
    rw [<- e]; simp
   rw [List.getElem?_map] at hpc
   obtain ⟨hh,hhh,rfl⟩:=Option.map_eq_some_iff.mp hpc
   have hep:=z3p (List.mem_of_getElem? hhh) hm24
   have ee:=(zBa RR hep.1 hm24 hep.2).1
   exact ⟨_,rfl,qb,_,rfl,g3,ee.sm (by omega),fun H'' s''=>hP _ _ s'' (by rw [eb])⟩
  refine ⟨w2,List.replicate (z2a one m).length true,rfl,SqL.of (by rw [z0c,y6i aE]),true,(by show true = (List.replicate (z2a one m).length true).all id; simp),iteF ?_⟩
  have sE1:=sC1.trans (sE.trans (Same.new (o:=.lst zs2) hw2))
  generalize upd HE w2 (.lst zs2) = HF at sE1 ⊢
  refine ⟨_,rfl,l,rfl,⟨_,SqL.of (sE1 _ _ gl)⟩,zAx Tup1 _ (z2a one m) (by rw [List.length_map]) hle (fun _ _ _ _ s h=>h.mv s.tups) rfl (sE1 _ _ gl) (al.mvP sE1.tups) (fun j pc b qa qb H' P hpc hb s' g2 g3 hP=>?_) (fun zs3 HG w3 sG aG hw3=>?_)⟩
  ·rw [List.getElem?_map,hb] at hpc
   cases hpc
   exact ⟨_,rfl,hP _ _ (Same.refl _) ⟨qa,rfl,g2⟩⟩
  have sG1:=sE1.trans (sG.trans (Same.new (o:=.lst zs3) hw3))
  have gw3:=z0c (H:=HG) (a:=w3) (o:=.lst zs3)
  have aG':=aG.mv (Same.new (o:=.lst zs3) hw3).tups
  generalize upd HG w3 (.lst zs3) = HH at sG1 gw3 aG' ⊢
  refine ⟨_,rfl,_,_,rfl,SmG.lstR gw3 (sG1 _ _ gkB) aG' (akB.mv sG1.tups) (by omega) (fun z x y hz h1 h2=>?_),fun HI sI=>⟨true,rfl,iteF ?_⟩⟩
  ·obtain ⟨p1,rfl,f1⟩:=h1
   obtain ⟨p2,rfl,f2⟩:=h2
   exact SmG.ints f1 f2 ((z3p hz hm24).1.sm (by omega))
  have sI1:=sG1.trans sI
  refine ⟨_,rfl,kl,_,rfl,.inl (SqL.of (sI1 _ _ gkB)),_,rfl,tl,_,rfl,.inl (SqL.of (sI1 _ _ gtB)),rfl,_,rfl,zDq (by rw [<- ak.length,<- at_.length,hkl]) ?_⟩
  refine ⟨_,rfl,l,rfl,⟨_,SqL.of (sI1 _ _ gl)⟩,zAx Tup1 _ ((z2a one m).map (endH one other)) (by rw [List.length_map,List.length_map]) hle (fun _ _ _ _ s h=>h.mv s.tups) rfl (sI1 _ _ gl) (al.mvP sI1.tups) (fun j pc b qa qb H' P hpc hb s' g2 g3 hP=>?_) (fun zs4 HJ w4 sJ aJ hw4=>?_)⟩
  ·rw [List.getElem?_map] at hpc hb
   obtain ⟨h1,e1,rfl⟩:=Option.map_eq_some_iff.mp hpc
   rw [e1] at hb
   cases hb
   exact ⟨_,rfl,hP _ _ (Same.refl _) ⟨qb,rfl,g3⟩⟩
  have sJ1:=sI1.trans (sJ.trans (Same.new (o:=.lst zs4) hw4))
  have gw4:=z0c (H:=HJ) (a:=w4) (o:=.lst zs4)
  have aJ':=aJ.mv (Same.new (o:=.lst zs4) hw4).tups
  generalize upd HJ w4 (.lst zs4) = HK at sJ1 gw4 aJ' ⊢
  refine ⟨w4,_,_,rfl,SqL.of gw4,aJ',by rw [List.length_map]; omega,?_,fun gs ys w5 hgp hgo ays hw5=>?_⟩
  ·intro h2l g hg
   obtain ⟨h1,hh1,rfl⟩:=List.mem_map.mp hg
   have ee:=(zBa RR (z3p hh1 hm24).1 hm24 (z3p hh1 hm24).2).1
   intro e0
   have es:=ee.sum
   rw [e0] at es
   have em:m = 0:=by
    have:(0:Int) = (m:Int):=es
    omega
   rw [List.length_map] at h2l
   have:=yJm (rule:=one) em
   omega
  have egs:=y0m RR hkl hm24 hgp hgo
  subst egs
  have sL:=sJ1.trans (Same.new (o:=.lst ys) hw5)
  have gw5:=z0c (H:=HK) (a:=w5) (o:=.lst ys)
  have ays':=ays.mv (Same.new (o:=.lst ys) hw5).tups
  generalize upd HK w5 (.lst ys) = HL at sL gw5 ays' ⊢
  refine ⟨_,rfl,z2a other m,z2a other m,⟨w5,_,rfl,SqL.of gw5,y0f ays'⟩,⟨tl,_,rfl,SqL.of (sL _ _ gtB),y0f (atB.mv sL.tups)⟩,_,rfl,zDq rfl ?_⟩
  refine ⟨_,rfl,l,rfl,⟨_,SqL.of (sL _ _ gl)⟩,zAx z5v _ ((z2a one m).map fun h=>(endH one other h,h)) (by rw [List.length_map,List.length_map]) hle (fun _ _ _ _ s h=>h.mv s.tups) rfl (sL _ _ gl) (al.mvP sL.tups) (fun j pc b qa qb H' P hpc hb s' g2 g3 hP=>?_) (fun zs5 HM w6 sM aM hw6=>?_)⟩
  ·rw [List.getElem?_map] at hpc hb
   obtain ⟨h1,e1,rfl⟩:=Option.map_eq_some_iff.mp hpc
   rw [e1] at hb
   cases hb
   refine ⟨_,rfl,_,rfl,by show 2 <= sizeLine; decide,fun t ht=>?_⟩
   exact hP _ _ (Same.new ht) ⟨t,qb,qa,rfl,z0c,Same.new ht _ _ g3,Same.new ht _ _ g2⟩
  have sM1:=sL.trans (sM.trans (Same.new (o:=.lst zs5) hw6))
  have gw6:=z0c (H:=HM) (a:=w6) (o:=.lst zs5)
  have aM':=aM.mvP (Same.new (o:=.lst zs5) hw6).tups
  generalize upd HM w6 (.lst zs5) = HN at sM1 gw6 aM' ⊢
  refine ⟨w6,_,_,rfl,SqL.of gw6,aM',by rw [List.length_map]; omega,trivial,fun gs2 ys2 w7 hgp2 hgo2 ays2 hw7=>?_⟩
  have egs2:=zHf RR hkl hm24 hgp2 hgo2
  subst egs2
  have sO:=sM1.trans (Same.new (o:=.lst ys2) hw7)
  have gw7:=z0c (H:=HN) (a:=w7) (o:=.lst ys2)
  have ays2':=ays2.mvP (Same.new (o:=.lst ys2) hw7).tups
  generalize upd HN w7 (.lst ys2) = HO at sO gw7 ays2' ⊢
  obtain ⟨dxO,gxO⟩:=(BB.mv sO).ob
  refine ⟨_,rfl,x,dxO,_,rfl,gxO,rfl,x,p,q,rs,qs,one,other,rfl,BB.mv sO,RR,fun y HP By sP=>?_⟩
  refine ⟨_,rfl,y,q,p,qs,rs,other,one,(m:Int),rfl,By,RB,.inl ⟨m,rfl,by omega,fun l2 xs2 HQ gl2 al2 sQ nl2=>?_⟩⟩
  have sPQ:=sP.trans sQ
  refine ⟨_,rfl,_,_,rfl,yFe RB hm24 gl2 (sPQ _ _ gw7) al2 (ays2'.mvP sPQ.tups),fun HR sR=>⟨true,rfl,iteF ?_⟩⟩
  have sR1:=sO.trans (sPQ.trans sR)
  have WR:=WB.mv sR1.tups
  have kw1:=zBc (rule:=one) mt.J.2.2 hm24
  have kw2:=zBc (rule:=other) mt.swap.J.2.2 hm24
  refine ⟨_,rfl,_,rfl,p,rs,one,(m:Int),rfl,WR.hp,WR.h2,l6,mt.J,.inl ⟨m,rfl,by omega,fun HS sS=>?_⟩⟩
  have WS:=WR.mv sS.tups
  refine ⟨_,rfl,_,rfl,q,qs,other,(m:Int),rfl,WS.hq,WS.g2,l6',mt.swap.J,.inl ⟨m,rfl,by omega,fun HT' sT=>?_⟩⟩
  rw [<- kw1,<- kw2,<- hkl]
  refine ⟨by show 2 <= sizeLine; decide,fun u1 hu1=>?_⟩
  have sU:=sR1.trans (sS.trans (sT.trans (Same.new (o:=.lst [V.int ((z2a one m).length:Nat),V.int ((z2a one m).length:Nat)]) hu1)))
  have gu1:=z0c (H:=HT') (a:=u1) (o:=.lst [V.int ((z2a one m).length:Nat),V.int ((z2a one m).length:Nat)])
  generalize upd HT' u1 (.lst [V.int ((z2a one m).length:Nat),V.int ((z2a one m).length:Nat)]) = HU at sU gu1 ⊢
  refine ⟨_,rfl,kl,_,rfl,.inl (SqL.of (sU _ _ gkB)),_,rfl,kl,_,rfl,.inl (SqL.of (sU _ _ gkB)),by show 2 <= sizeLine; decide,fun u2 hu2=>?_⟩
  refine ⟨_,_,rfl,SmG.lst (Same.new hu2 _ _ gu1) z0c rfl (by show 2 <= 100000; decide) (fun i x y hx hy=>?_),fun HV sV=>k HV⟩
  rw [<- ak.length] at hy
  match i,hx,hy with
  | 0,hx,hy=>cases hx; cases hy; exact SmG.int _
  | 1,hx,hy=>cases hx; cases hy; exact SmG.int _
end
theorem k0s {l:PySem.W.OpenLaw} {w:World} {K:PySem.W.Frag} {h:Heap} {mg:Str -> Option Value} {fa:Addr} (X:K.In h) (G:h.Ns mainGlobals mg) (hfa:mg "law" = some (.ref fa))
  {f0:Addr} {od0 an0:Option Addr} {sl0:Array (Option Value)} {oc0 kV0 dc0 pm0 cd0 ct0:Value}
  {f1:Addr} {od1 an1:Option Addr} {sl1:Array (Option Value)} {oc1 kV1 dc1 pm1 cd1 ct1:Value}
  {f2:Addr} {od2 an2:Option Addr} {sl2:Array (Option Value)} {oc2 kV2 dc2 pm2 cd2 ct2:Value}
  {f3:Addr} {od3 an3:Option Addr} {sl3:Array (Option Value)} {oc3 kV3 dc3 pm3 cd3 ct3:Value}
  {f4:Addr} {od4 an4:Option Addr} {sl4:Array (Option Value)} {oc4 kV4 dc4 pm4 cd4 ct4:Value}
  {f5:Addr} {od5 an5:Option Addr} {sl5:Array (Option Value)} {oc5 kV5 dc5 pm5 cd5 ct5:Value}
  {f6:Addr} {od6 an6:Option Addr} {sl6:Array (Option Value)} {oc6 kV6 dc6 pm6 cd6 ct6:Value}
  {f7:Addr} {od7 an7:Option Addr} {sl7:Array (Option Value)} {oc7 kV7 dc7 pm7 cd7 ct7:Value}
  {f8:Addr} {od8 an8:Option Addr} {sl8:Array (Option Value)} {oc8 kV8 dc8 pm8 cd8 ct8:Value}
  {f9:Addr} {od9 an9:Option Addr} {sl9:Array (Option Value)} {oc9 kV9 dc9 pm9 cd9 ct9:Value}
  {f10:Addr} {od10 an10:Option Addr} {sl10:Array (Option Value)} {oc10 kV10 dc10 pm10 cd10 ct10:Value}
  {f11:Addr} {od11 an11:Option Addr} {sl11:Array (Option Value)} {oc11 kV11 dc11 pm11 cd11 ct11:Value}
  {f12:Addr} {od12 an12:Option Addr} {sl12:Array (Option Value)} {oc12 kV12 dc12 pm12 cd12 ct12:Value}
  {f13:Addr} {od13 an13:Option Addr} {sl13:Array (Option Value)} {oc13 kV13 dc13 pm13 cd13 ct13:Value}
  {f14:Addr} {od14 an14:Option Addr} {sl14:Array (Option Value)} {oc14 kV14 dc14 pm14 cd14 ct14:Value}
  {f15:Addr} {od15 an15:Option Addr} {sl15:Array (Option Value)} {oc15 kV15 dc15 pm15 cd15 ct15:Value}
  {f16:Addr} {od16 an16:Option Addr} {sl16:Array (Option Value)} {oc16 kV16 dc16 pm16 cd16 ct16:Value}
  {f17:Addr} {od17 an17:Option Addr} {sl17:Array (Option Value)} {oc17 kV17 dc17 pm17 cd17 ct17:Value}
  {f18:Addr} {od18 an18:Option Addr} {sl18:Array (Option Value)} {oc18 kV18 dc18 pm18 cd18 ct18:Value}
  {f19:Addr} {od19 an19:Option Addr} {sl19:Array (Option Value)} {oc19 kV19 dc19 pm19 cd19 ct19:Value}
  {f20:Addr} {od20 an20:Option Addr} {sl20:Array (Option Value)} {oc20 kV20 dc20 pm20 cd20 ct20:Value}
  {f21:Addr} {od21 an21:Option Addr} {sl21:Array (Option Value)} {oc21 kV21 dc21 pm21 cd21 ct21:Value}
  {f22:Addr} {od22 an22:Option Addr} {sl22:Array (Option Value)} {oc22 kV22 dc22 pm22 cd22 ct22:Value}
  {f23:Addr} {od23 an23:Option Addr} {sl23:Array (Option Value)} {oc23 kV23 dc23 pm23 cd23 ct23:Value}
  {f24:Addr} {od24 an24:Option Addr} {sl24:Array (Option Value)} {oc24 kV24 dc24 pm24 cd24 ct24:Value}
  {f25:Addr} {od25 an25:Option Addr} {sl25:Array (Option Value)} {oc25 kV25 dc25 pm25 cd25 ct25:Value}
  {f26:Addr} {od26 an26:Option Addr} {sl26:Array (Option Value)} {oc26 kV26 dc26 pm26 cd26 ct26:Value}
  {f27:Addr} {od27 an27:Option Addr} {sl27:Array (Option Value)} {oc27 kV27 dc27 pm27 cd27 ct27:Value}
  {f28:Addr} {od28 an28:Option Addr} {sl28:Array (Option Value)} {oc28 kV28 dc28 pm28 cd28 ct28:Value}
  {f29:Addr} {od29 an29:Option Addr} {sl29:Array (Option Value)} {oc29 kV29 dc29 pm29 cd29 ct29:Value}
  {f30:Addr} {od30 an30:Option Addr} {sl30:Array (Option Value)} {oc30 kV30 dc30 pm30 cd30 ct30:Value}
  {f31:Addr} {od31 an31:Option Addr} {sl31:Array (Option Value)} {oc31 kV31 dc31 pm31 cd31 ct31:Value}
  {f32:Addr} {od32 an32:Option Addr} {sl32:Array (Option Value)} {oc32 kV32 dc32 pm32 cd32 ct32:Value}
  {f33:Addr} {od33 an33:Option Addr} {sl33:Array (Option Value)} {oc33 kV33 dc33 pm33 cd33 ct33:Value}
  {f34:Addr} {od34 an34:Option Addr} {sl34:Array (Option Value)} {oc34 kV34 dc34 pm34 cd34 ct34:Value}
  {f35:Addr} {od35 an35:Option Addr} {sl35:Array (Option Value)} {oc35 kV35 dc35 pm35 cd35 ct35:Value}
  {f36:Addr} {od36 an36:Option Addr} {sl36:Array (Option Value)} {oc36 kV36 dc36 pm36 cd36 ct36:Value}
  {f37:Addr} {od37 an37:Option Addr} {sl37:Array (Option Value)} {oc37 kV37 dc37 pm37 cd37 ct37:Value}
  {f38:Addr} {od38 an38:Option Addr} {sl38:Array (Option Value)} {oc38 kV38 dc38 pm38 cd38 ct38:Value}
  {f39:Addr} {od39 an39:Option Addr} {sl39:Array (Option Value)} {oc39 kV39 dc39 pm39 cd39 ct39:Value}
  {f40:Addr} {od40 an40:Option Addr} {sl40:Array (Option Value)} {oc40 kV40 dc40 pm40 cd40 ct40:Value}
  {f41:Addr} {od41 an41:Option Addr} {sl41:Array (Option Value)} {oc41 kV41 dc41 pm41 cd41 ct41:Value}
  {f42:Addr} {od42 an42:Option Addr} {sl42:Array (Option Value)} {oc42 kV42 dc42 pm42 cd42 ct42:Value}
  {f43:Addr} {od43 an43:Option Addr} {sl43:Array (Option Value)} {oc43 kV43 dc43 pm43 cd43 ct43:Value}
  {f44:Addr} {od44 an44:Option Addr} {sl44:Array (Option Value)} {oc44 kV44 dc44 pm44 cd44 ct44:Value}
  {f45:Addr} {od45 an45:Option Addr} {sl45:Array (Option Value)} {oc45 kV45 dc45 pm45 cd45 ct45:Value}
  {f46:Addr} {od46 an46:Option Addr} {sl46:Array (Option Value)} {oc46 kV46 dc46 pm46 cd46 ct46:Value}
  {f47:Addr} {od47 an47:Option Addr} {sl47:Array (Option Value)} {oc47 kV47 dc47 pm47 cd47 ct47:Value}
  {f48:Addr} {od48 an48:Option Addr} {sl48:Array (Option Value)} {oc48 kV48 dc48 pm48 cd48 ct48:Value}
  {f49:Addr} {od49 an49:Option Addr} {sl49:Array (Option Value)} {oc49 kV49 dc49 pm49 cd49 ct49:Value}
  {f50:Addr} {od50 an50:Option Addr} {sl50:Array (Option Value)} {oc50 kV50 dc50 pm50 cd50 ct50:Value}
  {f51:Addr} {od51 an51:Option Addr} {sl51:Array (Option Value)} {oc51 kV51 dc51 pm51 cd51 ct51:Value}
  {f52:Addr} {od52 an52:Option Addr} {sl52:Array (Option Value)} {oc52 kV52 dc52 pm52 cd52 ct52:Value}
  {q_Beside:Addr}
  (a0:PySem.W.nsIn K mainGlobals "refuse_beyond" = some (some (.ref f0))) (l0:K.lookup f0 = some ⟨oc0,od0,.func (PySem.W.fnOf "refuse_beyond" "refuse_beyond" (z0h z1g) (z0g z1g) (z0b z1g) .none kV0 dc0 pm0 an0 cd0 ct0),sl0⟩) (c0:PySem.W.codeIn K cd0 "refuse_beyond" = true) (k0:PySem.W.keepIn K (.ref f0) = true)
  (a1:PySem.W.nsIn K mainGlobals "often" = some (some (.ref f1))) (l1:K.lookup f1 = some ⟨oc1,od1,.func (PySem.W.fnOf "often" "often" (z0h z6h) (z0g z6h) (z0b z6h) .none kV1 dc1 pm1 an1 cd1 ct1),sl1⟩) (c1:PySem.W.codeIn K cd1 "often" = true) (k1:PySem.W.keepIn K (.ref f1) = true)
  (a2:PySem.W.nsIn K mainGlobals "lies_in" = some (some (.ref f2))) (l2:K.lookup f2 = some ⟨oc2,od2,.func (PySem.W.fnOf "lies_in" "lies_in" (z0h z4c) (z0g z4c) (z0b z4c) .none kV2 dc2 pm2 an2 cd2 ct2),sl2⟩) (c2:PySem.W.codeIn K cd2 "lies_in" = true) (k2:PySem.W.keepIn K (.ref f2) = true)
  (a3:PySem.W.nsIn K mainGlobals "all_in" = some (some (.ref f3))) (l3:K.lookup f3 = some ⟨oc3,od3,.func (PySem.W.fnOf "all_in" "all_in" (z0h z3d) (z0g z3d) (z0b z3d) .none kV3 dc3 pm3 an3 cd3 ct3),sl3⟩) (c3:PySem.W.codeIn K cd3 "all_in" = true) (k3:PySem.W.keepIn K (.ref f3) = true)
  (a4:PySem.W.nsIn K mainGlobals "first_in" = some (some (.ref f4))) (l4:K.lookup f4 = some ⟨oc4,od4,.func (PySem.W.fnOf "first_in" "first_in" (z0h z3k) (z0g z3k) (z0b z3k) .none kV4 dc4 pm4 an4 cd4 ct4),sl4⟩) (c4:PySem.W.codeIn K cd4 "first_in" = true) (k4:PySem.W.keepIn K (.ref f4) = true)
  (a5:PySem.W.nsIn K mainGlobals "keeps" = some (some (.ref f5))) (l5:K.lookup f5 = some ⟨oc5,od5,.func (PySem.W.fnOf "keeps" "keeps" (z0h z6g) (z0g z6g) (z0b z6g) .none kV5 dc5 pm5 an5 cd5 ct5),sl5⟩) (c5:PySem.W.codeIn K cd5 "keeps" = true) (k5:PySem.W.keepIn K (.ref f5) = true)
  (a6:PySem.W.nsIn K mainGlobals "partings_to" = some (some (.ref f6))) (l6:K.lookup f6 = some ⟨oc6,od6,.func (PySem.W.fnOf "partings_to" "partings_to" (z0h z1f) (z0g z1f) (z0b z1f) .none kV6 dc6 pm6 an6 cd6 ct6),sl6⟩) (c6:PySem.W.codeIn K cd6 "partings_to" = true) (k6:PySem.W.keepIn K (.ref f6) = true)
  (a7:PySem.W.nsIn K mainGlobals "partings_of" = some (some (.ref f7))) (l7:K.lookup f7 = some ⟨oc7,od7,.func (PySem.W.fnOf "partings_of" "partings_of" (z0h z1w) (z0g z1w) (z0b z1w) .none kV7 dc7 pm7 an7 cd7 ct7),sl7⟩) (c7:PySem.W.codeIn K cd7 "partings_of" = true) (k7:PySem.W.keepIn K (.ref f7) = true)
  (a8:PySem.W.nsIn K mainGlobals "kept_of" = some (some (.ref f8))) (l8:K.lookup f8 = some ⟨oc8,od8,.func (PySem.W.fnOf "kept_of" "kept_of" (z0h z2l) (z0g z2l) (z0b z2l) .none kV8 dc8 pm8 an8 cd8 ct8),sl8⟩) (c8:PySem.W.codeIn K cd8 "kept_of" = true) (k8:PySem.W.keepIn K (.ref f8) = true)
  (a9:PySem.W.nsIn K mainGlobals "sum_of" = some (some (.ref f9))) (l9:K.lookup f9 = some ⟨oc9,od9,.func (PySem.W.fnOf "sum_of" "sum_of" (z0h z5c) (z0g z5c) (z0b z5c) .none kV9 dc9 pm9 an9 cd9 ct9),sl9⟩) (c9:PySem.W.codeIn K cd9 "sum_of" = true) (k9:PySem.W.keepIn K (.ref f9) = true)
  (a10:PySem.W.nsIn K mainGlobals "refuse_unkept" = some (some (.ref f10))) (l10:K.lookup f10 = some ⟨oc10,od10,.func (PySem.W.fnOf "refuse_unkept" "refuse_unkept" (z0h z1h) (z0g z1h) (z0b z1h) .none kV10 dc10 pm10 an10 cd10 ct10),sl10⟩) (c10:PySem.W.codeIn K cd10 "refuse_unkept" = true) (k10:PySem.W.keepIn K (.ref f10) = true)
  (a12:PySem.W.nsIn K mainGlobals "is_end" = some (some (.ref f12))) (l12:K.lookup f12 = some ⟨oc12,od12,.func (PySem.W.fnOf "is_end" "is_end" (z0h z5b) (z0g z5b) (z0b z5b) .none kV12 dc12 pm12 an12 cd12 ct12),sl12⟩) (c12:PySem.W.codeIn K cd12 "is_end" = true) (k12:PySem.W.keepIn K (.ref f12) = true)
  (a13:PySem.W.nsIn K mainGlobals "heap_of" = some (some (.ref f13))) (l13:K.lookup f13 = some ⟨oc13,od13,.func (PySem.W.fnOf "heap_of" "heap_of" (z0h z4b) (z0g z4b) (z0b z4b) .none kV13 dc13 pm13 an13 cd13 ct13),sl13⟩) (c13:PySem.W.codeIn K cd13 "heap_of" = true) (k13:PySem.W.keepIn K (.ref f13) = true)
  (a14:PySem.W.nsIn K mainGlobals "put" = some (some (.ref f14))) (l14:K.lookup f14 = some ⟨oc14,od14,.func (PySem.W.fnOf "put" "put" (z0h zEb) (z0g zEb) (z0b zEb) .none kV14 dc14 pm14 an14 cd14 ct14),sl14⟩) (c14:PySem.W.codeIn K cd14 "put" = true) (k14:PySem.W.keepIn K (.ref f14) = true)
  (a15:PySem.W.nsIn K mainGlobals "taken" = some (some (.ref f15))) (l15:K.lookup f15 = some ⟨oc15,od15,.func (PySem.W.fnOf "taken" "taken" (z0h z6i) (z0g z6i) (z0b z6i) .none kV15 dc15 pm15 an15 cd15 ct15),sl15⟩) (c15:PySem.W.codeIn K cd15 "taken" = true) (k15:PySem.W.keepIn K (.ref f15) = true)
  (a16:PySem.W.nsIn K mainGlobals "unlike_parts" = some (some (.ref f16))) (l16:K.lookup f16 = some ⟨oc16,od16,.func (PySem.W.fnOf "unlike_parts" "unlike_parts" (z0h z1q) (z0g z1q) (z0b z1q) .none kV16 dc16 pm16 an16 cd16 ct16),sl16⟩) (c16:PySem.W.codeIn K cd16 "unlike_parts" = true) (k16:PySem.W.keepIn K (.ref f16) = true)
  (a17:PySem.W.nsIn K mainGlobals "joined" = some (some (.ref f17))) (l17:K.lookup f17 = some ⟨oc17,od17,.func (PySem.W.fnOf "joined" "joined" (z0h z3s) (z0g z3s) (z0b z3s) .none kV17 dc17 pm17 an17 cd17 ct17),sl17⟩) (c17:PySem.W.codeIn K cd17 "joined" = true) (k17:PySem.W.keepIn K (.ref f17) = true)
  (a18:PySem.W.nsIn K mainGlobals "joined_of" = some (some (.ref f18))) (l18:K.lookup f18 = some ⟨oc18,od18,.func (PySem.W.fnOf "joined_of" "joined_of" (z0h z1u) (z0g z1u) (z0b z1u) .none kV18 dc18 pm18 an18 cd18 ct18),sl18⟩) (c18:PySem.W.codeIn K cd18 "joined_of" = true) (k18:PySem.W.keepIn K (.ref f18) = true)
  (a19:PySem.W.nsIn K mainGlobals "is_choice" = some (some (.ref f19))) (l19:K.lookup f19 = some ⟨oc19,od19,.func (PySem.W.fnOf "is_choice" "is_choice" (z0h z2t) (z0g z2t) (z0b z2t) .none kV19 dc19 pm19 an19 cd19 ct19),sl19⟩) (c19:PySem.W.codeIn K cd19 "is_choice" = true) (k19:PySem.W.keepIn K (.ref f19) = true)
  (a20:PySem.W.nsIn K mainGlobals "is_pair" = some (some (.ref f20))) (l20:K.lookup f20 = some ⟨oc20,od20,.func (PySem.W.fnOf "is_pair" "is_pair" (z0h z2k) (z0g z2k) (z0b z2k) .none kV20 dc20 pm20 an20 cd20 ct20),sl20⟩) (c20:PySem.W.codeIn K cd20 "is_pair" = true) (k20:PySem.W.keepIn K (.ref f20) = true)
  (a21:PySem.W.nsIn K mainGlobals "rule_on" = some (some (.ref f21))) (l21:K.lookup f21 = some ⟨oc21,od21,.func (PySem.W.fnOf "rule_on" "rule_on" (z0h z4d) (z0g z4d) (z0b z4d) .none kV21 dc21 pm21 an21 cd21 ct21),sl21⟩) (c21:PySem.W.codeIn K cd21 "rule_on" = true) (k21:PySem.W.keepIn K (.ref f21) = true)
  (a22:PySem.W.nsIn K mainGlobals "crossed" = some (some (.ref f22))) (l22:K.lookup f22 = some ⟨oc22,od22,.func (PySem.W.fnOf "crossed" "crossed" (z0h z4a) (z0g z4a) (z0b z4a) .none kV22 dc22 pm22 an22 cd22 ct22),sl22⟩) (c22:PySem.W.codeIn K cd22 "crossed" = true) (k22:PySem.W.keepIn K (.ref f22) = true)
  (a23:PySem.W.nsIn K mainGlobals "partner_of" = some (some (.ref f23))) (l23:K.lookup f23 = some ⟨oc23,od23,.func (PySem.W.fnOf "partner_of" "partner_of" (z0h z2g) (z0g z2g) (z0b z2g) .none kV23 dc23 pm23 an23 cd23 ct23),sl23⟩) (c23:PySem.W.codeIn K cd23 "partner_of" = true) (k23:PySem.W.keepIn K (.ref f23) = true)
  (a24:PySem.W.nsIn K mainGlobals "toggled" = some (some (.ref f24))) (l24:K.lookup f24 = some ⟨oc24,od24,.func (PySem.W.fnOf "toggled" "toggled" (z0h z4f) (z0g z4f) (z0b z4f) .none kV24 dc24 pm24 an24 cd24 ct24),sl24⟩) (c24:PySem.W.codeIn K cd24 "toggled" = true) (k24:PySem.W.keepIn K (.ref f24) = true)
  (a25:PySem.W.nsIn K mainGlobals "next_place" = some (some (.ref f25))) (l25:K.lookup f25 = some ⟨oc25,od25,.func (PySem.W.fnOf "next_place" "next_place" (z0h z2f) (z0g z2f) (z0b z2f) .none kV25 dc25 pm25 an25 cd25 ct25),sl25⟩) (c25:PySem.W.codeIn K cd25 "next_place" = true) (k25:PySem.W.keepIn K (.ref f25) = true)
  (a26:PySem.W.nsIn K mainGlobals "first_places" = some (some (.ref f26))) (l26:K.lookup f26 = some ⟨oc26,od26,.func (PySem.W.fnOf "first_places" "first_places" (z0h z1o) (z0g z1o) (z0b z1o) .none kV26 dc26 pm26 an26 cd26 ct26),sl26⟩) (c26:PySem.W.codeIn K cd26 "first_places" = true) (k26:PySem.W.keepIn K (.ref f26) = true)
  (a27:PySem.W.nsIn K mainGlobals "whole_walk" = some (some (.ref f27))) (l27:K.lookup f27 = some ⟨oc27,od27,.func (PySem.W.fnOf "whole_walk" "whole_walk" (z0h z2h) (z0g z2h) (z0b z2h) .none kV27 dc27 pm27 an27 cd27 ct27),sl27⟩) (c27:PySem.W.codeIn K cd27 "whole_walk" = true) (k27:PySem.W.keepIn K (.ref f27) = true)
  (a28:PySem.W.nsIn K mainGlobals "end_of" = some (some (.ref f28))) (l28:K.lookup f28 = some ⟨oc28,od28,.func (PySem.W.fnOf "end_of" "end_of" (z0h z5a) (z0g z5a) (z0b z5a) .none kV28 dc28 pm28 an28 cd28 ct28),sl28⟩) (c28:PySem.W.codeIn K cd28 "end_of" = true) (k28:PySem.W.keepIn K (.ref f28) = true)
  (a29:PySem.W.nsIn K mainGlobals "meetings_of" = some (some (.ref f29))) (l29:K.lookup f29 = some ⟨oc29,od29,.func (PySem.W.fnOf "meetings_of" "meetings_of" (z0h z1b) (z0g z1b) (z0b z1b) .none kV29 dc29 pm29 an29 cd29 ct29),sl29⟩) (c29:PySem.W.codeIn K cd29 "meetings_of" = true) (k29:PySem.W.keepIn K (.ref f29) = true)
  (a30:PySem.W.nsIn K mainGlobals "choices_among" = some (some (.ref f30))) (l30:K.lookup f30 = some ⟨oc30,od30,.func (PySem.W.fnOf "choices_among" "choices_among" (z0h z0z) (z0g z0z) (z0b z0z) .none kV30 dc30 pm30 an30 cd30 ct30),sl30⟩) (c30:PySem.W.codeIn K cd30 "choices_among" = true) (k30:PySem.W.keepIn K (.ref f30) = true)
  (a31:PySem.W.nsIn K mainGlobals "choices_of" = some (some (.ref f31))) (l31:K.lookup f31 = some ⟨oc31,od31,.func (PySem.W.fnOf "choices_of" "choices_of" (z0h z2e) (z0g z2e) (z0b z2e) .none kV31 dc31 pm31 an31 cd31 ct31),sl31⟩) (c31:PySem.W.codeIn K cd31 "choices_of" = true) (k31:PySem.W.keepIn K (.ref f31) = true)
  (a32:PySem.W.nsIn K mainGlobals "sign_of" = some (some (.ref f32))) (l32:K.lookup f32 = some ⟨oc32,od32,.func (PySem.W.fnOf "sign_of" "sign_of" (z0h z4e) (z0g z4e) (z0b z4e) .none kV32 dc32 pm32 an32 cd32 ct32),sl32⟩) (c32:PySem.W.codeIn K cd32 "sign_of" = true) (k32:PySem.W.keepIn K (.ref f32) = true)
  (a33:PySem.W.nsIn K mainGlobals "next_way" = some (some (.ref f33))) (l33:K.lookup f33 = some ⟨oc33,od33,.func (PySem.W.fnOf "next_way" "next_way" (z0h z3l) (z0g z3l) (z0b z3l) .none kV33 dc33 pm33 an33 cd33 ct33),sl33⟩) (c33:PySem.W.codeIn K cd33 "next_way" = true) (k33:PySem.W.keepIn K (.ref f33) = true)
  (a34:PySem.W.nsIn K mainGlobals "ways_to" = some (some (.ref f34))) (l34:K.lookup f34 = some ⟨oc34,od34,.func (PySem.W.fnOf "ways_to" "ways_to" (z0h z4g) (z0g z4g) (z0b z4g) .none kV34 dc34 pm34 an34 cd34 ct34),sl34⟩) (c34:PySem.W.codeIn K cd34 "ways_to" = true) (k34:PySem.W.keepIn K (.ref f34) = true)
  (a35:PySem.W.nsIn K mainGlobals "count_of" = some (some (.ref f35))) (l35:K.lookup f35 = some ⟨oc35,od35,.func (PySem.W.fnOf "count_of" "count_of" (z0h z3j) (z0g z3j) (z0b z3j) .none kV35 dc35 pm35 an35 cd35 ct35),sl35⟩) (c35:PySem.W.codeIn K cd35 "count_of" = true) (k35:PySem.W.keepIn K (.ref f35) = true)
  (a36:PySem.W.nsIn K mainGlobals "_law_start" = some (some (.ref f36))) (l36:K.lookup f36 = some ⟨oc36,od36,.func (PySem.W.fnOf "_law_start" "_law_start" (z0h z1e) (z0g z1e) (z0b z1e) .none kV36 dc36 pm36 an36 cd36 ct36),sl36⟩) (c36:PySem.W.codeIn K cd36 "_law_start" = true) (k36:PySem.W.keepIn K (.ref f36) = true)
  (a37:PySem.W.nsIn K mainGlobals "_law_mix" = some (some (.ref f37))) (l37:K.lookup f37 = some ⟨oc37,od37,.func (PySem.W.fnOf "_law_mix" "_law_mix" (z0h z3i) (z0g z3i) (z0b z3i) .none kV37 dc37 pm37 an37 cd37 ct37),sl37⟩) (c37:PySem.W.codeIn K cd37 "_law_mix" = true) (k37:PySem.W.keepIn K (.ref f37) = true)
  (a38:PySem.W.nsIn K mainGlobals "_law_draw" = some (some (.ref f38))) (l38:K.lookup f38 = some ⟨oc38,od38,.func (PySem.W.fnOf "_law_draw" "_law_draw" (z0h z2r) (z0g z2r) (z0b z2r) .none kV38 dc38 pm38 an38 cd38 ct38),sl38⟩) (c38:PySem.W.codeIn K cd38 "_law_draw" = true) (k38:PySem.W.keepIn K (.ref f38) = true)
  (a39:PySem.W.nsIn K mainGlobals "_law_lane" = some (some (.ref f39))) (l39:K.lookup f39 = some ⟨oc39,od39,.func (PySem.W.fnOf "_law_lane" "_law_lane" (z0h z2s) (z0g z2s) (z0b z2s) .none kV39 dc39 pm39 an39 cd39 ct39),sl39⟩) (c39:PySem.W.codeIn K cd39 "_law_lane" = true) (k39:PySem.W.keepIn K (.ref f39) = true)
  (a40:PySem.W.nsIn K mainGlobals "_law_rule" = some (some (.ref f40))) (l40:K.lookup f40 = some ⟨oc40,od40,.func (PySem.W.fnOf "_law_rule" "_law_rule" (z0h z1r) (z0g z1r) (z0b z1r) .none kV40 dc40 pm40 an40 cd40 ct40),sl40⟩) (c40:PySem.W.codeIn K cd40 "_law_rule" = true) (k40:PySem.W.keepIn K (.ref f40) = true)
  (a41:PySem.W.nsIn K mainGlobals "_law_matched" = some (some (.ref f41))) (l41:K.lookup f41 = some ⟨oc41,od41,.func (PySem.W.fnOf "_law_matched" "_law_matched" (z0h z0l) (z0g z0l) (z0b z0l) .none kV41 dc41 pm41 an41 cd41 ct41),sl41⟩) (c41:PySem.W.codeIn K cd41 "_law_matched" = true) (k41:PySem.W.keepIn K (.ref f41) = true)
  (a42:PySem.W.nsIn K mainGlobals "_law_same" = some (some (.ref f42))) (l42:K.lookup f42 = some ⟨oc42,od42,.func (PySem.W.fnOf "_law_same" "_law_same" (z0h z1s) (z0g z1s) (z0b z1s) .none kV42 dc42 pm42 an42 cd42 ct42),sl42⟩) (c42:PySem.W.codeIn K cd42 "_law_same" = true) (k42:PySem.W.keepIn K (.ref f42) = true)
  (a43:PySem.W.nsIn K mainGlobals "_law_lies" = some (some (.ref f43))) (l43:K.lookup f43 = some ⟨oc43,od43,.func (PySem.W.fnOf "_law_lies" "_law_lies" (z0h z1i) (z0g z1i) (z0b z1i) .none kV43 dc43 pm43 an43 cd43 ct43),sl43⟩) (c43:PySem.W.codeIn K cd43 "_law_lies" = true) (k43:PySem.W.keepIn K (.ref f43) = true)
  (a44:PySem.W.nsIn K mainGlobals "_law_first" = some (some (.ref f44))) (l44:K.lookup f44 = some ⟨oc44,od44,.func (PySem.W.fnOf "_law_first" "_law_first" (z0h z2d) (z0g z2d) (z0b z2d) .none kV44 dc44 pm44 an44 cd44 ct44),sl44⟩) (c44:PySem.W.codeIn K cd44 "_law_first" = true) (k44:PySem.W.keepIn K (.ref f44) = true)
  (a45:PySem.W.nsIn K mainGlobals "_law_partings" = some (some (.ref f45))) (l45:K.lookup f45 = some ⟨oc45,od45,.func (PySem.W.fnOf "_law_partings" "_law_partings" (z0h z0y) (z0g z0y) (z0b z0y) .none kV45 dc45 pm45 an45 cd45 ct45),sl45⟩) (c45:PySem.W.codeIn K cd45 "_law_partings" = true) (k45:PySem.W.keepIn K (.ref f45) = true)
  (a46:PySem.W.nsIn K mainGlobals "_law_keepers" = some (some (.ref f46))) (l46:K.lookup f46 = some ⟨oc46,od46,.func (PySem.W.fnOf "_law_keepers" "_law_keepers" (z0h z0u) (z0g z0u) (z0b z0u) .none kV46 dc46 pm46 an46 cd46 ct46),sl46⟩) (c46:PySem.W.codeIn K cd46 "_law_keepers" = true) (k46:PySem.W.keepIn K (.ref f46) = true)
  (a47:PySem.W.nsIn K mainGlobals "_law_heap_told" = some (some (.ref f47))) (l47:K.lookup f47 = some ⟨oc47,od47,.func (PySem.W.fnOf "_law_heap_told" "_law_heap_told" (z0h z0m) (z0g z0m) (z0b z0m) .none kV47 dc47 pm47 an47 cd47 ct47),sl47⟩) (c47:PySem.W.codeIn K cd47 "_law_heap_told" = true) (k47:PySem.W.keepIn K (.ref f47) = true)
  (a48:PySem.W.nsIn K mainGlobals "sums_of" = some (some (.ref f48))) (l48:K.lookup f48 = some ⟨oc48,od48,.func (PySem.W.fnOf "sums_of" "sums_of" (z0h z1z) (z0g z1z) (z0b z1z) .none kV48 dc48 pm48 an48 cd48 ct48),sl48⟩) (c48:PySem.W.codeIn K cd48 "sums_of" = true) (k48:PySem.W.keepIn K (.ref f48) = true)
  (a49:PySem.W.nsIn K mainGlobals "first_unlike" = some (some (.ref f49))) (l49:K.lookup f49 = some ⟨oc49,od49,.func (PySem.W.fnOf "first_unlike" "first_unlike" (z0h z1p) (z0g z1p) (z0b z1p) .none kV49 dc49 pm49 an49 cd49 ct49),sl49⟩) (c49:PySem.W.codeIn K cd49 "first_unlike" = true) (k49:PySem.W.keepIn K (.ref f49) = true)
  (a52:PySem.W.nsIn K mainGlobals "law" = some (some (.ref f52))) (l52:K.lookup f52 = some ⟨oc52,od52,.func (PySem.W.fnOf "law" "law" (z0h z4r) (z0g z4r) (z0b z4r) .none kV52 dc52 pm52 an52 cd52 ct52),sl52⟩) (c52:PySem.W.codeIn K cd52 "law" = true) (k52:PySem.W.keepIn K (.ref f52) = true)
  (z_all:PySem.W.nsIn K mainGlobals "all" = some none)
  (z_bool:PySem.W.nsIn K mainGlobals "bool" = some none)
  (z_enumerate:PySem.W.nsIn K mainGlobals "enumerate" = some none)
  (z_int:PySem.W.nsIn K mainGlobals "int" = some none)
  (z_isinstance:PySem.W.nsIn K mainGlobals "isinstance" = some none)
  (z_len:PySem.W.nsIn K mainGlobals "len" = some none)
  (z_list:PySem.W.nsIn K mainGlobals "list" = some none)
  (z_max:PySem.W.nsIn K mainGlobals "max" = some none)
  (z_min:PySem.W.nsIn K mainGlobals "min" = some none)
  (z_range:PySem.W.nsIn K mainGlobals "range" = some none)
  (z_sorted:PySem.W.nsIn K mainGlobals "sorted" = some none)
  (z_str:PySem.W.nsIn K mainGlobals "str" = some none)
  (z_sum:PySem.W.nsIn K mainGlobals "sum" = some none)
  (z_tuple:PySem.W.nsIn K mainGlobals "tuple" = some none)
  (z_zip:PySem.W.nsIn K mainGlobals "zip" = some none)
  {tk_MOST_LISTED:Tok} (w_MOST_LISTED:PySem.W.nsIn K mainGlobals "MOST_LISTED" = some (some (.int 24 tk_MOST_LISTED)))
  {tk_MOST_ENDED:Tok} (w_MOST_ENDED:PySem.W.nsIn K mainGlobals "MOST_ENDED" = some (some (.int 24 tk_MOST_ENDED)))
  {tk_MOST_MET:Tok} (w_MOST_MET:PySem.W.nsIn K mainGlobals "MOST_MET" = some (some (.int 16 tk_MOST_MET)))
  {tk_MOST_COUNTED:Tok} (w_MOST_COUNTED:PySem.W.nsIn K mainGlobals "MOST_COUNTED" = some (some (.int 400 tk_MOST_COUNTED)))
  (m_Beside:PySem.W.nsIn K mainGlobals "Beside" = some (some (.ref q_Beside)))
  (a11:PySem.W.findIn K (.ref q_Beside) "rules" = some (some (.ref f11))) (i11:PySem.W.isFn K (.ref f11) = true) (l11:K.lookup f11 = some ⟨oc11,od11,.func (PySem.W.fnOf "rules" "Beside.rules" (z0h z1n) (z0g z1n) (z0b z1n) .none kV11 dc11 pm11 an11 cd11 ct11),sl11⟩) (c11:PySem.W.codeIn K cd11 "Beside.rules" = true) (k11:PySem.W.keepIn K (.ref f11) = true)
  (a50:PySem.W.findIn K (.ref q_Beside) "__init__" = some (some (.ref f50))) (i50:PySem.W.isFn K (.ref f50) = true) (l50:K.lookup f50 = some ⟨oc50,od50,.func (PySem.W.fnOf "__init__" "Beside.__init__" (z0h z1c) (z0g z1c) (z0b z1c) .none kV50 dc50 pm50 an50 cd50 ct50),sl50⟩) (c50:PySem.W.codeIn K cd50 "Beside.__init__" = true) (k50:PySem.W.keepIn K (.ref f50) = true)
  (a51:PySem.W.findIn K (.ref q_Beside) "back" = some (some (.ref f51))) (i51:PySem.W.isFn K (.ref f51) = true) (l51:K.lookup f51 = some ⟨oc51,od51,.func (PySem.W.fnOf "back" "Beside.back" (z0h z1v) (z0g z1v) (z0b z1v) .none kV51 dc51 pm51 an51 cd51 ct51),sl51⟩) (c51:PySem.W.codeIn K cd51 "Beside.back" = true) (k51:PySem.W.keepIn K (.ref f51) = true)
  (pg_Beside:PySem.W.plainGet K q_Beside Str.empty = true) (hd_Beside:PySem.W.hasDictIn K q_Beside = true) (po_Beside:PySem.W.plainOver K q_Beside = true) (sa_Beside:PySem.W.findIn K (.ref q_Beside) "__setattr__" = some (some (.builtin "object.__setattr__"))) (mk_Beside:PySem.W.makesIn K q_Beside = true) (kc_Beside:PySem.W.keepIn K (.ref q_Beside) = true)
  (na_Beside_one:PySem.W.findIn K (.ref q_Beside) "one" = some none)
  (na_Beside_other:PySem.W.findIn K (.ref q_Beside) "other" = some none) :
  ∃ fd:FuncData,(∀ (s:Shared) (v:Value),BindsTo s fd ⟨[v],[]⟩ [("_law_script",v)]) /\ ∀ base:Heap,K.In base -> base.Ns mainGlobals mg -> FnOk l.prog w K mg base CX0 40 fa fd ["_law_script"] (y3n K):=by
 have e:=hfa.symm.trans (PySem.W.mg_of X G a52)
 cases e
 have T:Txt K mg ⟨f0,PySem.W.fnOf "refuse_beyond" "refuse_beyond" (z0h z1g) (z0g z1g) (z0b z1g) .none kV0 dc0 pm0 an0 cd0 ct0,f1,PySem.W.fnOf "often" "often" (z0h z6h) (z0g z6h) (z0b z6h) .none kV1 dc1 pm1 an1 cd1 ct1,f2,PySem.W.fnOf "lies_in" "lies_in" (z0h z4c) (z0g z4c) (z0b z4c) .none kV2 dc2 pm2 an2 cd2 ct2,f3,PySem.W.fnOf "all_in" "all_in" (z0h z3d) (z0g z3d) (z0b z3d) .none kV3 dc3 pm3 an3 cd3 ct3,f4,PySem.W.fnOf "first_in" "first_in" (z0h z3k) (z0g z3k) (z0b z3k) .none kV4 dc4 pm4 an4 cd4 ct4,f5,PySem.W.fnOf "keeps" "keeps" (z0h z6g) (z0g z6g) (z0b z6g) .none kV5 dc5 pm5 an5 cd5 ct5,f6,PySem.W.fnOf "partings_to" "partings_to" (z0h z1f) (z0g z1f) (z0b z1f) .none kV6 dc6 pm6 an6 cd6 ct6,f7,PySem.W.fnOf "partings_of" "partings_of" (z0h z1w) (z0g z1w) (z0b z1w) .none kV7 dc7 pm7 an7 cd7 ct7,f8,PySem.W.fnOf "kept_of" "kept_of" (z0h z2l) (z0g z2l) (z0b z2l) .none kV8 dc8 pm8 an8 cd8 ct8,f9,PySem.W.fnOf "sum_of" "sum_of" (z0h z5c) (z0g z5c) (z0b z5c) .none kV9 dc9 pm9 an9 cd9 ct9,f10,PySem.W.fnOf "refuse_unkept" "refuse_unkept" (z0h z1h) (z0g z1h) (z0b z1h) .none kV10 dc10 pm10 an10 cd10 ct10,f11,PySem.W.fnOf "rules" "Beside.rules" (z0h z1n) (z0g z1n) (z0b z1n) .none kV11 dc11 pm11 an11 cd11 ct11,f12,PySem.W.fnOf "is_end" "is_end" (z0h z5b) (z0g z5b) (z0b z5b) .none kV12 dc12 pm12 an12 cd12 ct12,f13,PySem.W.fnOf "heap_of" "heap_of" (z0h z4b) (z0g z4b) (z0b z4b) .none kV13 dc13 pm13 an13 cd13 ct13,f14,PySem.W.fnOf "put" "put" (z0h zEb) (z0g zEb) (z0b zEb) .none kV14 dc14 pm14 an14 cd14 ct14,f15,PySem.W.fnOf "taken" "taken" (z0h z6i) (z0g z6i) (z0b z6i) .none kV15 dc15 pm15 an15 cd15 ct15,f16,PySem.W.fnOf "unlike_parts" "unlike_parts" (z0h z1q) (z0g z1q) (z0b z1q) .none kV16 dc16 pm16 an16 cd16 ct16,f17,PySem.W.fnOf "joined" "joined" (z0h z3s) (z0g z3s) (z0b z3s) .none kV17 dc17 pm17 an17 cd17 ct17,f18,PySem.W.fnOf "joined_of" "joined_of" (z0h z1u) (z0g z1u) (z0b z1u) .none kV18 dc18 pm18 an18 cd18 ct18,f19,PySem.W.fnOf "is_choice" "is_choice" (z0h z2t) (z0g z2t) (z0b z2t) .none kV19 dc19 pm19 an19 cd19 ct19,f20,PySem.W.fnOf "is_pair" "is_pair" (z0h z2k) (z0g z2k) (z0b z2k) .none kV20 dc20 pm20 an20 cd20 ct20,f21,PySem.W.fnOf "rule_on" "rule_on" (z0h z4d) (z0g z4d) (z0b z4d) .none kV21 dc21 pm21 an21 cd21 ct21,f22,PySem.W.fnOf "crossed" "crossed" (z0h z4a) (z0g z4a) (z0b z4a) .none kV22 dc22 pm22 an22 cd22 ct22,f23,PySem.W.fnOf "partner_of" "partner_of" (z0h z2g) (z0g z2g) (z0b z2g) .none kV23 dc23 pm23 an23 cd23 ct23,f24,PySem.W.fnOf "toggled" "toggled" (z0h z4f) (z0g z4f) (z0b z4f) .none kV24 dc24 pm24 an24 cd24 ct24,f25,PySem.W.fnOf "next_place" "next_place" (z0h z2f) (z0g z2f) (z0b z2f) .none kV25 dc25 pm25 an25 cd25 ct25,f26,PySem.W.fnOf "first_places" "first_places" (z0h z1o) (z0g z1o) (z0b z1o) .none kV26 dc26 pm26 an26 cd26 ct26,f27,PySem.W.fnOf "whole_walk" "whole_walk" (z0h z2h) (z0g z2h) (z0b z2h) .none kV27 dc27 pm27 an27 cd27 ct27,f28,PySem.W.fnOf "end_of" "end_of" (z0h z5a) (z0g z5a) (z0b z5a) .none kV28 dc28 pm28 an28 cd28 ct28,f29,PySem.W.fnOf "meetings_of" "meetings_of" (z0h z1b) (z0g z1b) (z0b z1b) .none kV29 dc29 pm29 an29 cd29 ct29,f30,PySem.W.fnOf "choices_among" "choices_among" (z0h z0z) (z0g z0z) (z0b z0z) .none kV30 dc30 pm30 an30 cd30 ct30,f31,PySem.W.fnOf "choices_of" "choices_of" (z0h z2e) (z0g z2e) (z0b z2e) .none kV31 dc31 pm31 an31 cd31 ct31,f32,PySem.W.fnOf "sign_of" "sign_of" (z0h z4e) (z0g z4e) (z0b z4e) .none kV32 dc32 pm32 an32 cd32 ct32,f33,PySem.W.fnOf "next_way" "next_way" (z0h z3l) (z0g z3l) (z0b z3l) .none kV33 dc33 pm33 an33 cd33 ct33,f34,PySem.W.fnOf "ways_to" "ways_to" (z0h z4g) (z0g z4g) (z0b z4g) .none kV34 dc34 pm34 an34 cd34 ct34,f35,PySem.W.fnOf "count_of" "count_of" (z0h z3j) (z0g z3j) (z0b z3j) .none kV35 dc35 pm35 an35 cd35 ct35,f36,PySem.W.fnOf "_law_start" "_law_start" (z0h z1e) (z0g z1e) (z0b z1e) .none kV36 dc36 pm36 an36 cd36 ct36,f37,PySem.W.fnOf "_law_mix" "_law_mix" (z0h z3i) (z0g z3i) (z0b z3i) .none kV37 dc37 pm37 an37 cd37 ct37,f38,PySem.W.fnOf "_law_draw" "_law_draw" (z0h z2r) (z0g z2r) (z0b z2r) .none kV38 dc38 pm38 an38 cd38 ct38,f39,PySem.W.fnOf "_law_lane" "_law_lane" (z0h z2s) (z0g z2s) (z0b z2s) .none kV39 dc39 pm39 an39 cd39 ct39,f40,PySem.W.fnOf "_law_rule" "_law_rule" (z0h z1r) (z0g z1r) (z0b z1r) .none kV40 dc40 pm40 an40 cd40 ct40,f41,PySem.W.fnOf "_law_matched" "_law_matched" (z0h z0l) (z0g z0l) (z0b z0l) .none kV41 dc41 pm41 an41 cd41 ct41,f42,PySem.W.fnOf "_law_same" "_law_same" (z0h z1s) (z0g z1s) (z0b z1s) .none kV42 dc42 pm42 an42 cd42 ct42,f43,PySem.W.fnOf "_law_lies" "_law_lies" (z0h z1i) (z0g z1i) (z0b z1i) .none kV43 dc43 pm43 an43 cd43 ct43,f44,PySem.W.fnOf "_law_first" "_law_first" (z0h z2d) (z0g z2d) (z0b z2d) .none kV44 dc44 pm44 an44 cd44 ct44,f45,PySem.W.fnOf "_law_partings" "_law_partings" (z0h z0y) (z0g z0y) (z0b z0y) .none kV45 dc45 pm45 an45 cd45 ct45,f46,PySem.W.fnOf "_law_keepers" "_law_keepers" (z0h z0u) (z0g z0u) (z0b z0u) .none kV46 dc46 pm46 an46 cd46 ct46,f47,PySem.W.fnOf "_law_heap_told" "_law_heap_told" (z0h z0m) (z0g z0m) (z0b z0m) .none kV47 dc47 pm47 an47 cd47 ct47,f48,PySem.W.fnOf "sums_of" "sums_of" (z0h z1z) (z0g z1z) (z0b z1z) .none kV48 dc48 pm48 an48 cd48 ct48,f49,PySem.W.fnOf "first_unlike" "first_unlike" (z0h z1p) (z0g z1p) (z0b z1p) .none kV49 dc49 pm49 an49 cd49 ct49,f50,PySem.W.fnOf "__init__" "Beside.__init__" (z0h z1c) (z0g z1c) (z0b z1c) .none kV50 dc50 pm50 an50 cd50 ct50,f51,PySem.W.fnOf "back" "Beside.back" (z0h z1v) (z0g z1v) (z0b z1v) .none kV51 dc51 pm51 an51 cd51 ct51,fa,PySem.W.fnOf "law" "law" (z0h z4r) (z0g z4r) (z0b z4r) .none kV52 dc52 pm52 an52 cd52 ct52,q_Beside⟩:=⟨z0k (st:=z1g) l0 c0 k0,
  (z0k (st:=z1g) l0 c0 k0).binds (fun _ _ _ _ _ _ us hl=>match us,hl with | [_,_],_=>rfl),
  PySem.W.mg_of X G a0,
  z0k (st:=z6h) l1 c1 k1,
  (z0k (st:=z6h) l1 c1 k1).binds (fun _ _ _ _ _ _ us hl=>match us,hl with | [_,_],_=>rfl),
  PySem.W.mg_of X G a1,
  z0k (st:=z4c) l2 c2 k2,
  (z0k (st:=z4c) l2 c2 k2).binds (fun _ _ _ _ _ _ us hl=>match us,hl with | [_,_],_=>rfl),
  PySem.W.mg_of X G a2,
  z0k (st:=z3d) l3 c3 k3,
  (z0k (st:=z3d) l3 c3 k3).binds (fun _ _ _ _ _ _ us hl=>match us,hl with | [_,_],_=>rfl),
  PySem.W.mg_of X G a3,
  z0k (st:=z3k) l4 c4 k4,
  (z0k (st:=z3k) l4 c4 k4).binds (fun _ _ _ _ _ _ us hl=>match us,hl with | [_,_],_=>rfl),
  PySem.W.mg_of X G a4,
  z0k (st:=z6g) l5 c5 k5,
  (z0k (st:=z6g) l5 c5 k5).binds (fun _ _ _ _ _ _ us hl=>match us,hl with | [_,_],_=>rfl),
  PySem.W.mg_of X G a5,
  z0k (st:=z1f) l6 c6 k6,
  (z0k (st:=z1f) l6 c6 k6).binds (fun _ _ _ _ _ _ us hl=>match us,hl with | [_,_],_=>rfl),
  PySem.W.mg_of X G a6,
  z0k (st:=z1w) l7 c7 k7,
  (z0k (st:=z1w) l7 c7 k7).binds (fun _ _ _ _ _ _ us hl=>match us,hl with | [_],_=>rfl),
  PySem.W.mg_of X G a7,
  z0k (st:=z2l) l8 c8 k8,
  (z0k (st:=z2l) l8 c8 k8).binds (fun _ _ _ _ _ _ us hl=>match us,hl with | [_,_],_=>rfl),
  PySem.W.mg_of X G a8,
  z0k (st:=z5c) l9 c9 k9,
  (z0k (st:=z5c) l9 c9 k9).binds (fun _ _ _ _ _ _ us hl=>match us,hl with | [_],_=>rfl),
  PySem.W.mg_of X G a9,
  z0k (st:=z1h) l10 c10 k10,
  (z0k (st:=z1h) l10 c10 k10).binds (fun _ _ _ _ _ _ us hl=>match us,hl with | [_,_],_=>rfl),
  PySem.W.mg_of X G a10,
  z0k (st:=z1n) l11 c11 k11,
  (z0k (st:=z1n) l11 c11 k11).binds (fun _ _ _ _ _ _ us hl=>match us,hl with | [_],_=>rfl),
  z0k (st:=z5b) l12 c12 k12,
  (z0k (st:=z5b) l12 c12 k12).binds (fun _ _ _ _ _ _ us hl=>match us,hl with | [_,_],_=>rfl),
  PySem.W.mg_of X G a12,
  z0k (st:=z4b) l13 c13 k13,
  (z0k (st:=z4b) l13 c13 k13).binds (fun _ _ _ _ _ _ us hl=>match us,hl with | [_],_=>rfl),
  PySem.W.mg_of X G a13,
  z0k (st:=zEb) l14 c14 k14,
  (z0k (st:=zEb) l14 c14 k14).binds (fun _ _ _ _ _ _ us hl=>match us,hl with | [_,_],_=>rfl),
  PySem.W.mg_of X G a14,
  z0k (st:=z6i) l15 c15 k15,
  (z0k (st:=z6i) l15 c15 k15).binds (fun _ _ _ _ _ _ us hl=>match us,hl with | [_,_],_=>rfl),
  PySem.W.mg_of X G a15,
  z0k (st:=z1q) l16 c16 k16,
  (z0k (st:=z1q) l16 c16 k16).binds (fun _ _ _ _ _ _ us hl=>match us,hl with | [_],_=>rfl),
  PySem.W.mg_of X G a16,
  z0k (st:=z3s) l17 c17 k17,
  (z0k (st:=z3s) l17 c17 k17).binds (fun _ _ _ _ _ _ us hl=>match us,hl with | [_],_=>rfl),
  PySem.W.mg_of X G a17,
  z0k (st:=z1u) l18 c18 k18,
  (z0k (st:=z1u) l18 c18 k18).binds (fun _ _ _ _ _ _ us hl=>match us,hl with | [_,_],_=>rfl),
  PySem.W.mg_of X G a18,
  z0k (st:=z2t) l19 c19 k19,
  (z0k (st:=z2t) l19 c19 k19).binds (fun _ _ _ _ _ _ us hl=>match us,hl with | [_,_],_=>rfl),
  PySem.W.mg_of X G a19,
  z0k (st:=z2k) l20 c20 k20,
  (z0k (st:=z2k) l20 c20 k20).binds (fun _ _ _ _ _ _ us hl=>match us,hl with | [_,_],_=>rfl),
  PySem.W.mg_of X G a20,
  z0k (st:=z4d) l21 c21 k21,
  (z0k (st:=z4d) l21 c21 k21).binds (fun _ _ _ _ _ _ us hl=>match us,hl with | [_,_],_=>rfl),
  PySem.W.mg_of X G a21,
  z0k (st:=z4a) l22 c22 k22,
  (z0k (st:=z4a) l22 c22 k22).binds (fun _ _ _ _ _ _ us hl=>match us,hl with | [_,_],_=>rfl),
  PySem.W.mg_of X G a22,
  z0k (st:=z2g) l23 c23 k23,
  (z0k (st:=z2g) l23 c23 k23).binds (fun _ _ _ _ _ _ us hl=>match us,hl with | [_,_],_=>rfl),
  PySem.W.mg_of X G a23,
  z0k (st:=z4f) l24 c24 k24,
  (z0k (st:=z4f) l24 c24 k24).binds (fun _ _ _ _ _ _ us hl=>match us,hl with | [_,_],_=>rfl),
  PySem.W.mg_of X G a24,
  z0k (st:=z2f) l25 c25 k25,
  (z0k (st:=z2f) l25 c25 k25).binds (fun _ _ _ _ _ _ us hl=>match us,hl with | [_,_],_=>rfl),
  PySem.W.mg_of X G a25,
  z0k (st:=z1o) l26 c26 k26,
  (z0k (st:=z1o) l26 c26 k26).binds (fun _ _ _ _ _ _ us hl=>match us,hl with | [_,_,_],_=>rfl),
  PySem.W.mg_of X G a26,
  z0k (st:=z2h) l27 c27 k27,
  (z0k (st:=z2h) l27 c27 k27).binds (fun _ _ _ _ _ _ us hl=>match us,hl with | [_,_],_=>rfl),
  PySem.W.mg_of X G a27,
  z0k (st:=z5a) l28 c28 k28,
  (z0k (st:=z5a) l28 c28 k28).binds (fun _ _ _ _ _ _ us hl=>match us,hl with | [_,_],_=>rfl),
  PySem.W.mg_of X G a28,
  z0k (st:=z1b) l29 c29 k29,
  (z0k (st:=z1b) l29 c29 k29).binds (fun _ _ _ _ _ _ us hl=>match us,hl with | [_,_],_=>rfl),
  PySem.W.mg_of X G a29,
  z0k (st:=z0z) l30 c30 k30,
  (z0k (st:=z0z) l30 c30 k30).binds (fun _ _ _ _ _ _ us hl=>match us,hl with | [_],_=>rfl),
  PySem.W.mg_of X G a30,
  z0k (st:=z2e) l31 c31 k31,
  (z0k (st:=z2e) l31 c31 k31).binds (fun _ _ _ _ _ _ us hl=>match us,hl with | [_],_=>rfl),
  PySem.W.mg_of X G a31,
  z0k (st:=z4e) l32 c32 k32,
  (z0k (st:=z4e) l32 c32 k32).binds (fun _ _ _ _ _ _ us hl=>match us,hl with | [_],_=>rfl),
  PySem.W.mg_of X G a32,
  z0k (st:=z3l) l33 c33 k33,
  (z0k (st:=z3l) l33 c33 k33).binds (fun _ _ _ _ _ _ us hl=>match us,hl with | [_],_=>rfl),
  PySem.W.mg_of X G a33,
  z0k (st:=z4g) l34 c34 k34,
  (z0k (st:=z4g) l34 c34 k34).binds (fun _ _ _ _ _ _ us hl=>match us,hl with | [_],_=>rfl),
  PySem.W.mg_of X G a34,
  z0k (st:=z3j) l35 c35 k35,
  (z0k (st:=z3j) l35 c35 k35).binds (fun _ _ _ _ _ _ us hl=>match us,hl with | [_,_],_=>rfl),
  PySem.W.mg_of X G a35,
  z0k (st:=z1e) l36 c36 k36,
  (z0k (st:=z1e) l36 c36 k36).binds (fun _ _ _ _ _ _ us hl=>match us,hl with | [_],_=>rfl),
  PySem.W.mg_of X G a36,
  z0k (st:=z3i) l37 c37 k37,
  (z0k (st:=z3i) l37 c37 k37).binds (fun _ _ _ _ _ _ us hl=>match us,hl with | [_],_=>rfl),
  PySem.W.mg_of X G a37,
  z0k (st:=z2r) l38 c38 k38,
  (z0k (st:=z2r) l38 c38 k38).binds (fun _ _ _ _ _ _ us hl=>match us,hl with | [_,_],_=>rfl),
  PySem.W.mg_of X G a38,
  z0k (st:=z2s) l39 c39 k39,
  (z0k (st:=z2s) l39 c39 k39).binds (fun _ _ _ _ _ _ us hl=>match us,hl with | [_,_,_,_],_=>rfl),
  PySem.W.mg_of X G a39,
  z0k (st:=z1r) l40 c40 k40,
  (z0k (st:=z1r) l40 c40 k40).binds (fun _ _ _ _ _ _ us hl=>match us,hl with | [_],_=>rfl),
  PySem.W.mg_of X G a40,
  z0k (st:=z0l) l41 c41 k41,
  (z0k (st:=z0l) l41 c41 k41).binds (fun _ _ _ _ _ _ us hl=>match us,hl with | [_,_],_=>rfl),
  PySem.W.mg_of X G a41,
  z0k (st:=z1s) l42 c42 k42,
  (z0k (st:=z1s) l42 c42 k42).binds (fun _ _ _ _ _ _ us hl=>match us,hl with | [_,_],_=>rfl),
  PySem.W.mg_of X G a42,
  z0k (st:=z1i) l43 c43 k43,
  (z0k (st:=z1i) l43 c43 k43).binds (fun _ _ _ _ _ _ us hl=>match us,hl with | [_,_],_=>rfl),
  PySem.W.mg_of X G a43,
  z0k (st:=z2d) l44 c44 k44,
  (z0k (st:=z2d) l44 c44 k44).binds (fun _ _ _ _ _ _ us hl=>match us,hl with | [_,_],_=>rfl),
  PySem.W.mg_of X G a44,
  z0k (st:=z0y) l45 c45 k45,
  (z0k (st:=z0y) l45 c45 k45).binds (fun _ _ _ _ _ _ us hl=>match us,hl with | [_,_],_=>rfl),
  PySem.W.mg_of X G a45,
  z0k (st:=z0u) l46 c46 k46,
  (z0k (st:=z0u) l46 c46 k46).binds (fun _ _ _ _ _ _ us hl=>match us,hl with | [_,_],_=>rfl),
  PySem.W.mg_of X G a46,
  z0k (st:=z0m) l47 c47 k47,
  (z0k (st:=z0m) l47 c47 k47).binds (fun _ _ _ _ _ _ us hl=>match us,hl with | [_],_=>rfl),
  PySem.W.mg_of X G a47,
  z0k (st:=z1z) l48 c48 k48,
  (z0k (st:=z1z) l48 c48 k48).binds (fun _ _ _ _ _ _ us hl=>match us,hl with | [_],_=>rfl),
  PySem.W.mg_of X G a48,
  z0k (st:=z1p) l49 c49 k49,
  (z0k (st:=z1p) l49 c49 k49).binds (fun _ _ _ _ _ _ us hl=>match us,hl with | [_,_],_=>rfl),
  PySem.W.mg_of X G a49,
  z0k (st:=z1c) l50 c50 k50,
  (z0k (st:=z1c) l50 c50 k50).binds (fun _ _ _ _ _ _ us hl=>match us,hl with | [_,_,_],_=>rfl),
  z0k (st:=z1v) l51 c51 k51,
  (z0k (st:=z1v) l51 c51 k51).binds (fun _ _ _ _ _ _ us hl=>match us,hl with | [_],_=>rfl),
  z0k (st:=z4r) l52 c52 k52,
  (z0k (st:=z4r) l52 c52 k52).binds (fun _ _ _ _ _ _ us hl=>match us,hl with | [_],_=>rfl),
  PySem.W.mg_of X G a52,
  PySem.W.mg_none_of X G z_all,
  PySem.W.mg_none_of X G z_bool,
  PySem.W.mg_none_of X G z_enumerate,
  PySem.W.mg_none_of X G z_int,
  PySem.W.mg_none_of X G z_isinstance,
  PySem.W.mg_none_of X G z_len,
  PySem.W.mg_none_of X G z_list,
  PySem.W.mg_none_of X G z_max,
  PySem.W.mg_none_of X G z_min,
  PySem.W.mg_none_of X G z_range,
  PySem.W.mg_none_of X G z_sorted,
  PySem.W.mg_none_of X G z_str,
  PySem.W.mg_none_of X G z_sum,
  PySem.W.mg_none_of X G z_tuple,
  PySem.W.mg_none_of X G z_zip,
  ⟨_,PySem.W.mg_of X G w_MOST_LISTED⟩,
  ⟨_,PySem.W.mg_of X G w_MOST_ENDED⟩,
  ⟨_,PySem.W.mg_of X G w_MOST_MET⟩,
  ⟨_,PySem.W.mg_of X G w_MOST_COUNTED⟩,
  PySem.W.mg_of X G m_Beside,
  ⟨pg_Beside,hd_Beside,po_Beside,sa_Beside⟩,
  ⟨mk_Beside,a50,i50,kc_Beside⟩,
  ⟨a11,i11,k11⟩,
  ⟨a51,i51,k51⟩,
  na_Beside_one,
  na_Beside_other⟩
 exact ⟨PySem.W.fnOf "law" "law" (z0h z4r) (z0g z4r) (z0b z4r) .none kV52 dc52 pm52 an52 cd52 ct52,fun s v=>.of_eq rfl,fun base _ _=>yHh T⟩
theorem walk {l:PySem.W.OpenLaw} {q:Program} {loose:List Str} {XP:(Str -> Option Value) -> Heap -> Prop} {YP:World -> Heap -> Prop} {d:DefRec} {K:Params -> PySem.W.Frag} (hn:l.most = some 63) (hdf:d.params.defaults = [])
  (hY:∀ (w:World) (h:Heap),YP w h -> (K w.params).In h)
  (F:∀ (w:World) (mg:Str -> Option Value) (fa:Addr) (h:Heap),(K w.params).In h -> h.Ns mainGlobals mg -> mg d.name = some (.ref fa) ->
   ∃ fd:FuncData,(∀ (s:Shared) (u:Value),BindsTo s fd ⟨[u],[]⟩ [("_law_script",u)]) /\ ∀ base:Heap,(K w.params).In base -> base.Ns mainGlobals mg -> FnOk l.prog w (K w.params) mg base CX0 40 fa fd ["_law_script"] (y3n (K w.params))) :
  PySem.W.WalkO q loose XP YP l.row.toRowW d [] (fun f vs=>PySem.call f vs) :=
 L2.k0r (n:=63) (k:=40) (x := "_law_script") (CX:=fun _=>CX0) (sp:=fun w=>y3n (K w.params)) hn (by decide) hdf ⟨fun _=>rfl,by decide,by decide⟩ hY F (fun _ _ a ns hl _ hS=>⟨a,ns,rfl,hS,hl,fun _=>rfl⟩) fun _ _ _ _ _ z=>z
end My
namespace PySem.W.Fast
def tw5779452514277408306:Nat:=0
def tw2153294233902185852:Nat:=0
def tw7803644682489651944:Nat:=0
def tw15992593671352173427:Nat:=0
def tw15041472773536190818:Nat:=0
def tw4119499015815620097:Nat:=0
def tw4260800956097694845:Nat:=0
def tw1629907669412590144:Nat:=0
def tw1904127114675933023:Nat:=0
def tw15787993259725412293:Nat:=0
def tw8842557674874740596:Nat:=0
def tw8289777710149324413:Nat:=0
def tw14134101581908825981:Nat:=0
def tw4476053455330264182:Nat:=0
def tw15307682678108164159:Nat:=0
def tw3466202274377262070:Nat:=0
def tw12028696860340001031:Nat:=0
def tw17199134851266378415:Nat:=0
def tw12284905327180610974:Nat:=0
def tw6664081001159063780:Nat:=0
def tw17991366720181243716:Nat:=0
def tw14385743452297591433:Nat:=0
def tw13841768559237794453:Nat:=0
def tw13551180898859285570:Nat:=0
def tw17744889444743745567:Nat:=0
def tw2875235090619587074:Nat:=0
def tw246243095258375839:Nat:=0
def tw17676207549024175433:Nat:=0
def tw17735335223413830812:Nat:=0
def tw15837493208661417198:Nat:=0
def tw54924372331915167:Nat:=0
def tw17520300038223094309:Nat:=0
def tw8692241029792787064:Nat:=0
def tw12553389036282265168:Nat:=0
def tw6880679866453485346:Nat:=0
def tw4311844569356707382:Nat:=0
def tw5962697074287068861:Nat:=0
def tw179266968625941529:Nat:=0
def tw943503703993167158:Nat:=0
def tw12512463911927897075:Nat:=0
def tw7700068636817265953:Nat:=0
def tw4187848977768167850:Nat:=0
def tw16440889755512132155:Nat:=0
def tw14278341071828059764:Nat:=0
def tw6582624323417075139:Nat:=0
def tw15603011360238471955:Nat:=0
def tw3203965211508325520:Nat:=0
def tw14944816101981851272:Nat:=0
def tw2369608603310899638:Nat:=0
def tw13122042661489669544:Nat:=0
def tw14644551440045607910:Nat:=0
def tw7755805528258764517:Nat:=0
def tw10588834268196500242:Nat:=0
def tw16364425460990664092:Nat:=0
def tw1641915737202776601:Nat:=0
def tw8337977572875712361:Nat:=0
def tw17747089224231379452:Nat:=0
def tw17210570143143063805:Nat:=0
def tw14163387118301543855:Nat:=0
def tw92877157739116901:Nat:=0
def tw2495460324186872065:Nat:=0
def tw10913658055529136992:Nat:=0
def tw9347340901795420144:Nat:=0
def tw11376535256919130422:Nat:=0
def tw17315680235797265756:Nat:=0
def tw13727768847225340843:Nat:=0
def tw10254738793896541891:Nat:=0
def tw17106962897087578709:Nat:=0
def tw12894913522604179497:Nat:=0
def tw4007109357508342772:Nat:=0
def tw6496001458744987608:Nat:=0
def tw5342467247690317405:Nat:=0
def tw16744963139989030024:Nat:=0
def tw3186560937442666193:Nat:=0
def tw3888089933215587438:Nat:=0
def tw17368678894534433737:Nat:=0
def tw3926263896154349091:Nat:=0
def tw7816071188988482543:Nat:=0
def tw1804296864422851729:Nat:=0
def tw16570721122959167503:Nat:=0
def tw8834809684912660023:Nat:=0
def tw4306823678392373416:Nat:=0
def tw8716572597331144515:Nat:=0
def tw16993440612689091741:Nat:=0
def tw16878153450140940004:Nat:=0
def tw17027448450036511160:Nat:=0
def tw674509968117991384:Nat:=0
def tw4781784731925832422:Nat:=0
def tw6443229886126296230:Nat:=0
def tw9711250888763590516:Nat:=0
def tw13349642316779821369:Nat:=0
def tw6733663353904430314:Nat:=0
def tw4679260585190211450:Nat:=0
def tw6626788027720816953:Nat:=0
def tw6006400466293692681:Nat:=0
def tw1461754436915582952:Nat:=0
def tw5718974787828666298:Nat:=0
def tw4272436834780591945:Nat:=0
def tw11416865592499238938:Nat:=0
def tw2709037990498152776:Nat:=0
def tw11633202247220036974:Nat:=0
def tw5472517791011876113:Nat:=0
def tw11433347176317675877:Nat:=0
def tw3370354357997606399:Nat:=0
def tw9121911950044296861:Nat:=0
def tw290748792757130487:Nat:=0
def tw10422338508689248226:Nat:=0
def tw8742661399935897281:Nat:=0
def tw1314864553708059639:Nat:=0
def tw9149023980051775121:Nat:=0
def tw5947653171867379729:Nat:=0
def tw12456606292593052026:Nat:=0
def tw5529939184117861114:Nat:=0
def tw14609296276454381225:Nat:=0
def tw9546772888277589752:Nat:=0
def tw15318826600555759631:Nat:=0
def tw13796700063148547535:Nat:=0
def tw2601158038318914109:Nat:=0
def tw13915505286816855573:Nat:=0
def tw17562968990003630940:Nat:=0
def tw15094522171961128031:Nat:=0
def tw15478691351143748636:Nat:=0
def tw2408646603773118629:Nat:=0
def tw15038510059064545408:Nat:=0
def tw4612017115267813734:Nat:=0
def tw37417726335035760:Nat:=0
def tw5058302722954174695:Nat:=0
def tw400400412751747133:Nat:=0
def tw8883016433250810080:Nat:=0
def tw4423310570669305015:Nat:=0
def tw5098510663039633134:Nat:=0
def tw17998295124547786481:Nat:=0
def tw12302505872151450772:Nat:=0
def tw17475874378161309724:Nat:=0
def tw7789639796703297559:Nat:=0
def tw6011846503000249208:Nat:=0
def tw18390857298475838884:Nat:=0
def tw8919373359117163362:Nat:=0
def tw5903108303114379256:Nat:=0
def tw16021646790094767298:Nat:=0
def tw5789314174861626405:Nat:=0
def tw17158244996784609243:Nat:=0
def tw2239230859467833486:Nat:=0
def tw16048222933495196725:Nat:=0
def tw17861607739449365623:Nat:=0
def tw3884834698276227085:Nat:=0
def tw15113016368835199153:Nat:=0
def tw8134015325284653947:Nat:=0
def tw15655792228552155447:Nat:=0
def tw15512083320693082590:Nat:=0
def tw10644114465078514939:Nat:=0
def tw16026455851401866899:Nat:=0
def tw14446078517669676541:Nat:=0
def tw8761064753142608918:Nat:=0
end PySem.W.Fast
open PySem PySem.W PyProof.Rows
set_option maxRecDepth 100000 in
set_option maxHeartbeats 0 in
theorem PySem.Challenge.cw_shutpairs_k53_whole_one_to_one_and_onto_holds : PySem.Challenge.rw_shutpairs_k53_whole_one_to_one_and_onto.Holds := by
 w_on; o_law; k_head; (case hw=>w_witness2)
 k_fill
 refine My.walk (l:=PySem.Challenge.rw_shutpairs_k53_whole_one_to_one_and_onto) rfl rfl (fun w h Y=>PySem.W.kIn_of Y) ?F
 case F =>
  intro w mg fa h KX G hmg
  refine' My.k0s KX G hmg ?a0 ?l0 ?c0 ?k0 ?a1 ?l1 ?c1 ?k1 ?a2 ?l2 ?c2 ?k2 ?a3 ?l3 ?c3 ?k3 ?a4 ?l4 ?c4 ?k4 ?a5 ?l5 ?c5 ?k5 ?a6 ?l6 ?c6 ?k6 ?a7 ?l7 ?c7 ?k7 ?a8 ?l8 ?c8 ?k8 ?a9 ?l9 ?c9 ?k9 ?a10 ?l10 ?c10 ?k10 ?a12 ?l12 ?c12 ?k12 ?a13 ?l13 ?c13 ?k13 ?a14 ?l14 ?c14 ?k14 ?a15 ?l15 ?c15 ?k15 ?a16 ?l16 ?c16 ?k16 ?a17 ?l17 ?c17 ?k17 ?a18 ?l18 ?c18 ?k18 ?a19 ?l19 ?c19 ?k19 ?a20 ?l20 ?c20 ?k20 ?a21 ?l21 ?c21 ?k21 ?a22 ?l22 ?c22 ?k22 ?a23 ?l23 ?c23 ?k23 ?a24 ?l24 ?c24 ?k24 ?a25 ?l25 ?c25 ?k25 ?a26 ?l26 ?c26 ?k26 ?a27 ?l27 ?c27 ?k27 ?a28 ?l28 ?c28 ?k28 ?a29 ?l29 ?c29 ?k29 ?a30 ?l30 ?c30 ?k30 ?a31 ?l31 ?c31 ?k31 ?a32 ?l32 ?c32 ?k32 ?a33 ?l33 ?c33 ?k33 ?a34 ?l34 ?c34 ?k34 ?a35 ?l35 ?c35 ?k35 ?a36 ?l36 ?c36 ?k36 ?a37 ?l37 ?c37 ?k37 ?a38 ?l38 ?c38 ?k38 ?a39 ?l39 ?c39 ?k39 ?a40 ?l40 ?c40 ?k40 ?a41 ?l41 ?c41 ?k41 ?a42 ?l42 ?c42 ?k42 ?a43 ?l43 ?c43 ?k43 ?a44 ?l44 ?c44 ?k44 ?a45 ?l45 ?c45 ?k45 ?a46 ?l46 ?c46 ?k46 ?a47 ?l47 ?c47 ?k47 ?a48 ?l48 ?c48 ?k48 ?a49 ?l49 ?c49 ?k49 ?a52 ?l52 ?c52 ?k52 ?z_all ?z_bool ?z_enumerate ?z_int ?z_isinstance ?z_len ?z_list ?z_max ?z_min ?z_range ?z_sorted ?z_str ?z_sum ?z_tuple ?z_zip ?w_MOST_LISTED ?w_MOST_ENDED ?w_MOST_MET ?w_MOST_COUNTED ?m_Beside ?a11 ?i11 ?l11 ?c11 ?k11 ?a50 ?i50 ?l50 ?c50 ?k50 ?a51 ?i51 ?l51 ?c51 ?k51 ?pg_Beside ?hd_Beside ?po_Beside ?sa_Beside ?mk_Beside ?kc_Beside ?na_Beside_one ?na_Beside_other
  (case a0=>k_is)
  (case l0=>k_is)
  (case c0=>k_is)
  (case k0=>k_is)
  (case a1=>k_is)
  (case l1=>k_is)
  (case c1=>k_is)
  (case k1=>k_is)
  (case a2=>k_is)
  (case l2=>k_is)
  (case c2=>k_is)
  (case k2=>k_is)
  (case a3=>k_is)
  (case l3=>k_is)
  (case c3=>k_is)
  (case k3=>k_is)
  (case a4=>k_is)
  (case l4=>k_is)
  (case c4=>k_is)
  (case k4=>k_is)
  (case a5=>k_is)
  (case l5=>k_is)
  (case c5=>k_is)
  (case k5=>k_is)
  (case a6=>k_is)
  (case l6=>k_is)
  (case c6=>k_is)
  (case k6=>k_is)
  (case a7=>k_is)
  (case l7=>k_is)
  (case c7=>k_is)
  (case k7=>k_is)
  (case a8=>k_is)
  (case l8=>k_is)
  (case c8=>k_is)
  (case k8=>k_is)
  (case a9=>k_is)
  (case l9=>k_is)
  (case c9=>k_is)
  (case k9=>k_is)
  (case a10=>k_is)
  (case l10=>k_is)
  (case c10=>k_is)
  (case k10=>k_is)
  (case a12=>k_is)
  (case l12=>k_is)
  (case c12=>k_is)
  (case k12=>k_is)
  (case a13=>k_is)
  (case l13=>k_is)
  (case c13=>k_is)
  (case k13=>k_is)
  (case a14=>k_is)
  (case l14=>k_is)
  (case c14=>k_is)
  (case k14=>k_is)
  (case a15=>k_is)
  (case l15=>k_is)
  (case c15=>k_is)
  (case k15=>k_is)
  (case a16=>k_is)
  (case l16=>k_is)
  (case c16=>k_is)
  (case k16=>k_is)
  (case a17=>k_is)
  (case l17=>k_is)
  (case c17=>k_is)
  (case k17=>k_is)
  (case a18=>k_is)
  (case l18=>k_is)
  (case c18=>k_is)
  (case k18=>k_is)
  (case a19=>k_is)
  (case l19=>k_is)
  (case c19=>k_is)
  (case k19=>k_is)
  (case a20=>k_is)
  (case l20=>k_is)
  (case c20=>k_is)
  (case k20=>k_is)
  (case a21=>k_is)
  (case l21=>k_is)
  (case c21=>k_is)
  (case k21=>k_is)
  (case a22=>k_is)
  (case l22=>k_is)
  (case c22=>k_is)
  (case k22=>k_is)
  (case a23=>k_is)
  (case l23=>k_is)
  (case c23=>k_is)
  (case k23=>k_is)
  (case a24=>k_is)
  (case l24=>k_is)
  (case c24=>k_is)
  (case k24=>k_is)
  (case a25=>k_is)
  (case l25=>k_is)
  (case c25=>k_is)
  (case k25=>k_is)
  (case a26=>k_is)
  (case l26=>k_is)
  (case c26=>k_is)
  (case k26=>k_is)
  (case a27=>k_is)
  (case l27=>k_is)
  (case c27=>k_is)
  (case k27=>k_is)
  (case a28=>k_is)
  (case l28=>k_is)
  (case c28=>k_is)
  (case k28=>k_is)
  (case a29=>k_is)
  (case l29=>k_is)
  (case c29=>k_is)
  (case k29=>k_is)
  (case a30=>k_is)
  (case l30=>k_is)
  (case c30=>k_is)
  (case k30=>k_is)
  (case a31=>k_is)
  (case l31=>k_is)
  (case c31=>k_is)
  (case k31=>k_is)
  (case a32=>k_is)
  (case l32=>k_is)
  (case c32=>k_is)
  (case k32=>k_is)
  (case a33=>k_is)
  (case l33=>k_is)
  (case c33=>k_is)
  (case k33=>k_is)
  (case a34=>k_is)
  (case l34=>k_is)
  (case c34=>k_is)
  (case k34=>k_is)
  (case a35=>k_is)
  (case l35=>k_is)
  (case c35=>k_is)
  (case k35=>k_is)
  (case a36=>k_is)
  (case l36=>k_is)
  (case c36=>k_is)
  (case k36=>k_is)
  (case a37=>k_is)
  (case l37=>k_is)
  (case c37=>k_is)
  (case k37=>k_is)
  (case a38=>k_is)
  (case l38=>k_is)
  (case c38=>k_is)
  (case k38=>k_is)
  (case a39=>k_is)
  (case l39=>k_is)
  (case c39=>k_is)
  (case k39=>k_is)
  (case a40=>k_is)
  (case l40=>k_is)
  (case c40=>k_is)
  (case k40=>k_is)
  (case a41=>k_is)
  (case l41=>k_is)
  (case c41=>k_is)
  (case k41=>k_is)
  (case a42=>k_is)
  (case l42=>k_is)
  (case c42=>k_is)
  (case k42=>k_is)
  (case a43=>k_is)
  (case l43=>k_is)
  (case c43=>k_is)
  (case k43=>k_is)
  (case a44=>k_is)
  (case l44=>k_is)
  (case c44=>k_is)
  (case k44=>k_is)
  (case a45=>k_is)
  (case l45=>k_is)
  (case c45=>k_is)
  (case k45=>k_is)
  (case a46=>k_is)
  (case l46=>k_is)
  (case c46=>k_is)
  (case k46=>k_is)
  (case a47=>k_is)
  (case l47=>k_is)
  (case c47=>k_is)
  (case k47=>k_is)
  (case a48=>k_is)
  (case l48=>k_is)
  (case c48=>k_is)
  (case k48=>k_is)
  (case a49=>k_is)
  (case l49=>k_is)
  (case c49=>k_is)
  (case k49=>k_is)
  (case a52=>k_is)
  (case l52=>k_is)
  (case c52=>k_is)
  (case k52=>k_is)
  (case z_all=>k_is)
  (case z_bool=>k_is)
  (case z_enumerate=>k_is)
  (case z_int=>k_is)
  (case z_isinstance=>k_is)
  (case z_len=>k_is)
  (case z_list=>k_is)
  (case z_max=>k_is)
  (case z_min=>k_is)
  (case z_range=>k_is)
  (case z_sorted=>k_is)
  (case z_str=>k_is)
  (case z_sum=>k_is)
  (case z_tuple=>k_is)
  (case z_zip=>k_is)
  (case w_MOST_LISTED=>k_is)
  (case w_MOST_ENDED=>k_is)
  (case w_MOST_MET=>k_is)
  (case w_MOST_COUNTED=>k_is)
  (case m_Beside=>k_is)
  (case a11=>k_is)
  (case i11=>k_is)
  (case l11=>k_is)
  (case c11=>k_is)
  (case k11=>k_is)
  (case a50=>k_is)
  (case i50=>k_is)
  (case l50=>k_is)
  (case c50=>k_is)
  (case k50=>k_is)
  (case a51=>k_is)
  (case i51=>k_is)
  (case l51=>k_is)
  (case c51=>k_is)
  (case k51=>k_is)
  (case pg_Beside=>k_is)
  (case hd_Beside=>k_is)
  (case po_Beside=>k_is)
  (case sa_Beside=>k_is)
  (case mk_Beside=>k_is)
  (case kc_Beside=>k_is)
  (case na_Beside_one=>k_is)
  (case na_Beside_other=>k_is)
