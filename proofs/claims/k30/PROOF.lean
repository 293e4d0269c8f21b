import PyProof.Rows.All
import Wide.All
import OpenK.AllK
import Wide.FinOn
import PyProof.EqAt
import PyProof.EqKinds
import PyProof.TupleCall
import PyProof.NeKinds
import PyProof.StrLawsTight
import PyProof.ExcClass3
import PyProof.StationsW
import PyProof.ExcBaseAll.ValueError
import PyProof.NsDelKeeps
import PyProof.RulesAs
import PyProof.ExcArgsOwn
import PyProof.ExcAttrAll.ValueError
import PyProof.ZipIter
import PyProof.ListMulRoad
import KE.KDictSum
import PyProof.ListRange
import PyProof.Draws
import PyProof.EnumMake
import PyProof.Rows.Range3
import PyProof.Rows.SortShell
import PyProof.Conv_int_bool
import PyProof.Rows.SetFrom
import PyProof.Rows.SetObj
import PyProof.WalksMore
import KE.IntBitsLaws
import KE.KRevSl
import PyProof.FitsBits
import PyProof.CollectIter
import PyProof.IsRules
import PyProof.AttrMissHeap
import PyProof.WalksS
import KE.KDictOf
import PyProof.PureStr
import PyProof.StrOps2
import PyProof.SliceStr2
import PyProof.StrBlockI
import PyProof.CompFree
import PyProof.Rows.StrSplitJoin
import PyProof.StrCalls6
import PyProof.ConsumeWalk
import PyProof.StrLawsReplace
import PyProof.DictItems
import PyProof.Rows.SortRuns
import KE.KFind
import Lean
import PySem.Challenge.RW_shutpairs_k30_what_holds_as_a_walk
set_option Elab.async false
set_option linter.all false
set_option maxRecDepth 100000
namespace L2
open PySem PySem.Spec PyProof.Rows
abbrev Key := Sum Int Str
def keyIs : Key -> Value -> Bool
 | .inl k, v => Value.isInt k v
 | .inr x, v => Value.isStrOf x v
def keyH (w : World) : Key -> Int
 | .inl k => hashInt k
 | .inr x => hashStr w x
theorem keyIs_shape : ∀ {k : Key} {v : Value}, keyIs k v = true -> (∃ i t, k = Sum.inl i /\ v = Value.int i t) \/ (∃ x t, k = Sum.inr x /\ v = Value.str x t)
 | .inl i, v, h => by
  obtain ⟨t, e⟩ := Value.isInt_shape (k := i) (v := v) h
  exact .inl ⟨i, t, rfl, e⟩
 | .inr x, v, h => by
  obtain ⟨t, e⟩ := Value.isStrOf_shape (x := x) (v := v) h
  exact .inr ⟨x, t, rfl, e⟩
theorem keyIs_int (i : Int) (t : Tok) : keyIs (.inl i) (.int i t) = true := by simp [keyIs, Value.isInt]
theorem keyIs_str (x : Str) (t : Tok) : keyIs (.inr x) (.str x t) = true := by simp [keyIs, Value.isStrOf]
theorem key_ll (a b : Int) : decide ((Sum.inl a : Key) = Sum.inl b) = (a == b) := by
 by_cases e : a = b
 ·subst e; simp
 ·have h : ¬ (Sum.inl a : Key) = Sum.inl b := fun q => e (Sum.inl.inj q)
  rw [decide_eq_false h]
  exact (beq_eq_false_iff_ne.mpr e).symm
theorem key_rr (a b : Str) : decide ((Sum.inr a : Key) = Sum.inr b) = decide (a = b) := by
 by_cases e : a = b
 ·subst e; simp
 ·have h : ¬ (Sum.inr a : Key) = Sum.inr b := fun q => e (Sum.inr.inj q)
  rw [decide_eq_false h, decide_eq_false e]
theorem key_lr (a : Int) (b : Str) : decide ((Sum.inl a : Key) = Sum.inr b) = false := decide_eq_false (fun q => nomatch q)
theorem key_rl (a : Str) (b : Int) : decide ((Sum.inr a : Key) = Sum.inl b) = false := decide_eq_false (fun q => nomatch q)
def mixKind (prog : Program) (w : World) : PySem.KeyKind prog w Key where
 is := keyIs
 hash := keyH w
 inj := fun v a b ha hb => by
  rcases keyIs_shape ha with ⟨i, t, rfl, rfl⟩ | ⟨x, t, rfl, rfl⟩
  ·rcases keyIs_shape hb with ⟨j, u, rfl, e⟩ | ⟨y, u, rfl, e⟩
   ·injection e with e1 _; rw [e1]
   ·exact nomatch e
  ·rcases keyIs_shape hb with ⟨j, u, rfl, e⟩ | ⟨y, u, rfl, e⟩
   ·exact nomatch e
   ·injection e with e1 _; rw [e1]
 byValue := fun k v h => by
  rcases keyIs_shape h with ⟨i, t, rfl, rfl⟩ | ⟨x, t, rfl, rfl⟩ <;> rfl
 pyHash := fun hv h => by
  rcases keyIs_shape hv with ⟨i, t, rfl, rfl⟩ | ⟨x, t, rfl, rfl⟩
  ·exact wpAny_pyHash_int h
  ·exact wpAny_pyHash_str h
 eqBool := fun hu hv h => by
  rcases keyIs_shape hu with ⟨i, t, rfl, rfl⟩ | ⟨x, t, rfl, rfl⟩
  ·rcases keyIs_shape hv with ⟨j, u, rfl, rfl⟩ | ⟨y, u, rfl, rfl⟩
   ·rw [key_ll] at h; exact wpAny_eqBool_int h
   ·rw [key_lr] at h; exact SeqAt.EqAt.int_str i t y u _ _ _ _ h
  ·rcases keyIs_shape hv with ⟨j, u, rfl, rfl⟩ | ⟨y, u, rfl, rfl⟩
   ·rw [key_rl] at h; exact SeqAt.EqAt.str_int x t j u _ _ _ _ h
   ·rw [key_rr] at h; exact wpAny_eqBool_str h
 «strs» := fun k x t v h => by
  rcases keyIs_shape h with ⟨i, u, rfl, e⟩ | ⟨y, u, rfl, e⟩
  ·exact nomatch e
  ·injection e with e1 _
   subst e1
   cases v <;> rfl
theorem mixKind_int (prog : Program) (w : World) (i : Int) (t : Tok) : (mixKind prog w).is (.inl i) (.int i t) = true := keyIs_int i t
theorem mixKind_str (prog : Program) (w : World) (x : Str) (t : Tok) : (mixKind prog w).is (.inr x) (.str x t) = true := keyIs_str x t
end L2
namespace L2
open PySem PySem.Spec PyProof.Rows
inductive V where
 | non | bl (b : Bool) | int (i : Int) | str (x : Str) | byt (b : Array UInt8) | flt (b : UInt64) | ref (a : Addr) | ty (n : String)
 deriving DecidableEq
def RelV : V -> Value -> Prop
 | .non, u => u = Value.none
 | .bl b, u => u = Value.bool b
 | .int i, u => ∃ t, u = Value.int i t
 | .str x, u => ∃ t, u = Value.str x t
 | .byt b, u => ∃ t, u = Value.bytes b t
 | .flt b, u => ∃ t, u = Value.float b t
 | .ref a, u => u = Value.ref a
 | .ty n, u => u = Value.type n
abbrev Vals : List V -> List Value -> Prop := Paired RelV
theorem Vals.length {xs : List V} {us : List Value} (r : Vals xs us) : xs.length = us.length := Paired.length r
theorem Vals.get : ∀ {xs : List V} {us : List Value} {i : Nat} {x : V}, Vals xs us -> xs[i]? = some x -> ∃ u, us[i]? = some u /\ RelV x u
 | _, _, _, _, .nil, e => by simp at e
 | _, _, 0, _, .cons r _, e => by simp at e; subst e; exact ⟨_, rfl, r⟩
 | _, _, i + 1, x, .cons _ t, e => by
  obtain ⟨u, h1, h2⟩ := Vals.get (i := i) (x := x) t (by simpa using e)
  exact ⟨u, by simpa using h1, h2⟩
theorem Vals.set {x : V} {u : Value} (r : RelV x u) : ∀ {xs : List V} {us : List Value} (i : Nat), Vals xs us -> Vals (xs.set i x) (us.set i u)
 | _, _, _, .nil => .nil
 | _, _, 0, .cons _ t => .cons r t
 | _, _, i + 1, .cons q t => .cons q (Vals.set r i t)
theorem Vals.append : ∀ {xs ys : List V} {us ws : List Value}, Vals xs us -> Vals ys ws -> Vals (xs ++ ys) (us ++ ws)
 | _, _, _, _, .nil, s => s
 | _, _, _, _, .cons r t, s => .cons r (Vals.append t s)
theorem Vals.take : ∀ {xs : List V} {us : List Value} (n : Nat), Vals xs us -> Vals (xs.take n) (us.take n)
 | _, _, 0, _ => .nil
 | _, _, _ + 1, .nil => .nil
 | _, _, n + 1, .cons r t => .cons r (Vals.take n t)
theorem Vals.drop : ∀ {xs : List V} {us : List Value} (n : Nat), Vals xs us -> Vals (xs.drop n) (us.drop n)
 | _, _, 0, r => r
 | _, _, _ + 1, .nil => .nil
 | _, _, n + 1, .cons _ t => Vals.drop n t
def RelO : Option V -> Option Value -> Prop
 | some v, some u => RelV v u
 | none, none => True
 | _, _ => False
def KV {κ : Type} : List (κ × V) -> List (κ × Value) -> Prop := Paired fun (p : κ × V) (q : κ × Value) => p.1 = q.1 /\ RelV p.2 q.2
def kV : Key -> V
 | .inl i => .int i
 | .inr x => .str x
inductive HO where
  | lst (xs : List V)
  | tup (xs : List V)
  | dK (kvs : List (Key × V)) | dT (kvs : List (List Key × V))
  | set (S : Int -> Bool) (n : Nat)
  | ins (C dx : Addr) (fs : List (Str × V))
  | own (x : Addr)
  | xd (fs : List (Str × V))
  | met (f x : Addr)
  | rng (lo hi : Int)
  | frz (o : Obj) (u : HO)
  | tbl (ps : Array Value)
  | ext (φ : Heap -> Prop)
abbrev Hp := Addr -> Option HO
def upd (H : Hp) (a : Addr) (o : HO) : Hp := fun b => if b = a then some o else H b
theorem upd_same {H : Hp} {a : Addr} {o : HO} : upd H a o a = some o := by unfold upd; rw [if_pos rfl]
theorem upd_ne {H : Hp} {a b : Addr} {o : HO} (h : b ≠ a) : upd H a o b = H b := by unfold upd; rw [if_neg h]
theorem ne_of {H : Hp} {a b : Addr} {o u : HO} (h : H a = some o) (h' : H b = some u) (d : o ≠ u) : a ≠ b := by
 intro e; subst e; rw [h] at h'; exact d (Option.some.inj h')
theorem ne_of_none {H : Hp} {a b : Addr} {o : HO} (h : H a = some o) (h' : H b = none) : a ≠ b := by
 intro e; subst e; rw [h] at h'; cases h'
section
variable (P : Program) (w : World)
def ObjOk (H : Hp) (h : Heap) (a : Addr) : HO -> Prop
 | .lst xs => xs.length <= sizeLine /\ ∃ (its : List Value) (n : Nat), Vals xs its /\ h.get? a = some { cls := .type "list", data := .seq its.toArray n }
 | .tup xs => xs.length <= sizeLine /\ ∃ its : List Value, Vals xs its /\ IsTup h a its.toArray /\ ∀ o, h.get? a = some o -> o.dict = none
 | .dK kvs => kvs.length <= sizeLine /\ (a == sysModules) = false /\ ∃ vs, KV kvs vs /\ h.DictOf (mixKind P w) a vs
 | .dT kvs => kvs.length <= sizeLine /\ (a == sysModules) = false /\ ∃ xs : List (List Key × Addr × Value),
   Paired (fun (p : List Key × V) (q : List Key × Addr × Value) => p.1 = q.1 /\ H q.2.1 = some (.tup (p.1.map kV)) /\ RelV p.2 q.2.2) kvs xs /\
   ∃ o es ep, h.get? a = some o /\ o.ExactDict /\ o.data = .dict es ep /\ es.toList = xs.map (entryOfKey (tupleKind (mixKind P w))) /\ (xs.map (·.1)).Nodup
 | .set S n => h.SetOf (intKind P w) a S n
 | .ins C dx fs => H dx = some (.own a) /\ fs.length <= 1000 /\ dx ≠ a /\ h.get? a = some (PySem.W.instObj C dx) /\
   ∃ mA, h.Ns1 dx mA /\ (∀ f, RelO (fs.lookup f) (mA f)) /\ PySem.Within mA (fs.map (·.1))
 | .own _ => ∃ o, h.get? a = some o
 | .xd fs => ∃ mA, h.Ns1 a mA /\ ∀ f, RelO (fs.lookup f) (mA f)
 | .rng lo hi => ∃ t u v, h.get? a = some { cls := .type "range", data := .fields #[.int lo t, .int hi u, .int 1 v] }
 | .frz o u => h.get? a = some o /\ ObjOk H h a u
 | .tbl ps => h.get? a = some { cls := .none, data := .fields ps }
 | .met f x => h.get? a = some (PySem.W.methodObj (.ref f) (.ref x))
 | .ext φ => φ h /\ (∃ o, h.get? a = some o) /\ ∀ h1 h2 : Heap, φ h1 -> (∀ o, h1.get? a = some o -> h2.get? a = some o) -> φ h2
theorem tup_nodict {h : Heap} {its : Array Value} : ∀ o, (h.push { cls := .type "tuple", data := .seq its }).get? h.objs.size = some o -> o.dict = none := by
 intro o e
 rw [Heap.get?_push_size _ rfl] at e
 cases e
 rfl
def HOk (H : Hp) (h : Heap) : Prop := ∀ a o, H a = some o -> ObjOk P w H h a o
end
section
variable {P : Program} {w : World} {H H' : Hp} {h h' : Heap} {a : Addr} {o : HO}
theorem ObjOk.lt (x : ObjOk P w H h a o) : a < h.objs.size := by
 cases o with
 | lst xs => obtain ⟨_, _, _, _, e⟩ := x; exact Heap.lt_size e
 | tup xs => obtain ⟨_, _, _, p, _⟩ := x; exact p.lt
 | dK kvs => obtain ⟨_, _, _, _, o, _, _, e, _⟩ := x; exact Heap.lt_size e
 | dT kvs => obtain ⟨_, _, _, _, o, _, _, e, _⟩ := x; exact Heap.lt_size e
 | set S n => obtain ⟨o, _, _, _, e, _⟩ := x; exact Heap.lt_size e
 | ins C dx fs => obtain ⟨_, _, _, e, _⟩ := x; exact Heap.lt_size e
 | own y => obtain ⟨_, e⟩ := x; exact Heap.lt_size e
 | xd fs => obtain ⟨_, ⟨_, _, _, e, _⟩, _⟩ := x; exact Heap.lt_size e
 | rng lo hi => obtain ⟨_, _, _, e⟩ := x; exact Heap.lt_size e
 | frz ob u => obtain ⟨e, _⟩ := x; exact Heap.lt_size e
 | tbl ps => exact Heap.lt_size (show h.get? a = some _ from x)
 | met f y => exact Heap.lt_size (show h.get? a = some _ from x)
 | ext φ => obtain ⟨_, ⟨_, e⟩, _⟩ := x; exact Heap.lt_size e
theorem Paired.mapP {α β : Type} {F G : α -> β -> Prop} : ∀ {l₁ : List α} {l₂ : List β}, Paired F l₁ l₂ -> (∀ a b, F a b -> G a b) -> Paired G l₁ l₂
 | _, _, .nil, _ => .nil
 | _, _, .cons r t, f => .cons (f _ _ r) (Paired.mapP t f)
theorem ObjOk.stay (x : ObjOk P w H h a o) (k : ∀ b u, (b = a \/ H b = some (.own a)) -> h.get? b = some u -> h'.get? b = some u)
  (ho : ∀ b, H b = some (.own a) -> H' b = some (.own a)) (ht : ∀ b xs, H b = some (.tup xs) -> H' b = some (.tup xs)) : ObjOk P w H' h' a o := by
 induction o with
 | lst xs => obtain ⟨z, its, n, r, e⟩ := x; exact ⟨z, its, n, r, k _ _ (.inl rfl) e⟩
 | tup xs =>
  obtain ⟨z, its, r, ⟨ob, e, c⟩, nd⟩ := x
  have e' := k _ _ (.inl rfl) e
  exact ⟨z, its, r, ⟨ob, e', c⟩, fun o q => by rw [e'] at q; cases q; exact nd ob e⟩
 | dK kvs => obtain ⟨z, y, vs, r, ob, es, ep, e, c⟩ := x; exact ⟨z, y, vs, r, ob, es, ep, k _ _ (.inl rfl) e, c⟩
 | dT kvs =>
  obtain ⟨z, y, xs, r, ob, es, ep, e, c⟩ := x
  exact ⟨z, y, xs, Paired.mapP r fun p q z => ⟨z.1, ht _ _ z.2.1, z.2.2⟩, ob, es, ep, k _ _ (.inl rfl) e, c⟩
 | set S n => obtain ⟨ob, es, ep, t, e, c⟩ := x; exact ⟨ob, es, ep, t, k _ _ (.inl rfl) e, c⟩
 | ins C dx fs =>
  obtain ⟨d, z, ne, e, mA, ⟨od, es, ep, e2, c⟩, r⟩ := x
  exact ⟨ho _ d, z, ne, k _ _ (.inl rfl) e, mA, ⟨od, es, ep, k _ _ (.inr d) e2, c⟩, r⟩
 | own y => obtain ⟨ob, e⟩ := x; exact ⟨ob, k _ _ (.inl rfl) e⟩
 | xd fs => obtain ⟨mA, ⟨od, es, ep, e, c⟩, r⟩ := x; exact ⟨mA, ⟨od, es, ep, k _ _ (.inl rfl) e, c⟩, r⟩
 | rng lo hi => obtain ⟨t, u, v, e⟩ := x; exact ⟨t, u, v, k _ _ (.inl rfl) e⟩
 | frz ob u ih => obtain ⟨e, q⟩ := x; exact ⟨k _ _ (.inl rfl) e, ih q⟩
 | tbl ps =>
  have e : h.get? a = some { cls := .none, data := .fields ps } := x
  show h'.get? a = some { cls := .none, data := .fields ps }
  exact k a _ (.inl rfl) e
 | met f y =>
  have e : h.get? a = some (PySem.W.methodObj (.ref f) (.ref y)) := x
  show h'.get? a = some (PySem.W.methodObj (.ref f) (.ref y))
  exact k a _ (.inl rfl) e
 | ext φ => obtain ⟨p, ⟨o, e⟩, st⟩ := x; exact ⟨st _ _ p fun o q => k _ _ (.inl rfl) q, ⟨o, k _ _ (.inl rfl) e⟩, st⟩
theorem HOk.lt (x : HOk P w H h) (e : H a = some o) : a < h.objs.size := (x a o e).lt
theorem HOk.fresh (x : HOk P w H h) (e : h.objs.size <= a) : H a = none := by
 cases q : H a with
 | none => rfl
 | some u => exact absurd (Nat.lt_of_lt_of_le (x.lt q) e) (Nat.lt_irrefl _)
theorem HOk.kept (x : HOk P w H h) (k : ∀ b u, h.get? b = some u -> h'.get? b = some u) : HOk P w H h' := fun a o e =>
 (x a o e).stay (fun b u _ q => k b u q) (fun _ q => q) fun _ _ q => q
theorem HOk.laid (x : HOk P w H h) (k : ∀ b u, h.get? b = some u -> h'.get? b = some u) (hp : h.objs.size <= a) (new : ObjOk P w (upd H a o) h' a o) : HOk P w (upd H a o) h' := fun b u e => by
 have hn := x.fresh hp
 by_cases hb : b = a
 ·subst hb; rw [upd_same] at e; cases e; exact new
 ·rw [upd_ne hb] at e
  exact (x b u e).stay (fun c v _ q => k c v q) (fun c q => by rw [upd_ne (ne_of_none q hn)]; exact q) fun c xs q => by rw [upd_ne (ne_of_none q hn)]; exact q
end
def Rd (H : Hp) (a : Addr) (u : HO) : Prop := H a = some u \/ ∃ o, H a = some (.frz o u)
theorem Rd.ok {P : Program} {w : World} {H : Hp} {h : Heap} {a : Addr} {u : HO} (r : Rd H a u) (x : HOk P w H h) : ObjOk P w H h a u := by
 rcases r with r | ⟨o, r⟩
 ·exact x a u r
 ·obtain ⟨_, q⟩ := x a _ r
  exact q
def Mut : Option HO -> Prop
 | some (.lst _) => True
 | some (.dK _) => True
 | some (.dT _) => True
 | some (.set _ _) => True
 | some (.ins _ _ _) => True
 | some (.ext _) => True
 | _ => False
section
variable {P : Program} {w : World} {H : Hp} {h h' : Heap} {x e : Addr} {o' : HO}
theorem HOk.write (ok : HOk P w H h) (mu : Mut (H x)) (he : e = x \/ H e = some (.own x)) (k : ∀ b u, b ≠ e -> h.get? b = some u -> h'.get? b = some u) (heo : ∃ u, h'.get? e = some u)
  (new : ObjOk P w (upd H x o') h' x o') : HOk P w (upd H x o') h' := fun b u q => by
 have nown : ∀ c y, H c = some (.own y) -> c ≠ x := fun c y r z => by subst z; rw [r] at mu; exact mu
 have ntup : ∀ c xs, H c = some (.tup xs) -> c ≠ x := fun c xs r z => by subst z; rw [r] at mu; exact mu
 by_cases hb : b = x
 ·subst hb; rw [upd_same] at q; cases q; exact new
 ·rw [upd_ne hb] at q
  by_cases hbe : b = e
  ·have q' : H b = some (.own x) := by
    rcases he with z | z
    ·exact absurd (hbe.trans z) hb
    ·rw [hbe]; exact z
   rw [q] at q'; cases q'
   obtain ⟨v, hv⟩ := heo
   exact ⟨v, by rw [hbe]; exact hv⟩
  ·refine (ok b u q).stay (fun c v hc r => k c v ?_ r) (fun c r => by rw [upd_ne (nown c b r)]; exact r) fun c xs r => by rw [upd_ne (ntup c xs r)]; exact r
   rcases hc with rfl | hc
   ·exact hbe
   ·rintro rfl
    rcases he with z | z
    ·exact nown c b hc z
    ·rw [hc] at z; cases z; exact hb rfl
end
structure Un (fs ex : List Addr) (H H' : Hp) (h h' : Heap) : Prop where
 keep : ∀ b o, h.get? b = some o -> H b = none -> b ∉ fs -> b ∉ ex -> h'.get? b = some o
 slot : ∀ b o, h.get? b = some o -> H b = none -> b ∈ fs -> b ∉ ex -> ∃ sl, h'.get? b = some { o with slots := sl }
 free : ∀ b o, h.get? b = some o -> H b = none -> b ∉ ex -> H' b = none
 there : ∀ b o, h.get? b = some o -> b ∉ ex -> ∃ o', h'.get? b = some o'
 tups : ∀ b xs, H b = some (.tup xs) -> H' b = some (.tup xs)
 frzs : ∀ b o u, H b = some (.frz o u) -> H' b = some (.frz o u)
 tbls : ∀ b ps, H b = some (.tbl ps) -> ∃ more, H' b = some (.tbl (ps ++ more))
section
variable {fs fs' ex ex' : List Addr} {H H1 H2 : Hp} {h h1 h2 h' : Heap} {a x e : Addr} {o : HO}
theorem Un.any (u : Un fs ex H H1 h h1) {b : Addr} {ob : Obj} (q : h.get? b = some ob) (n : H b = none) (hx : b ∉ ex) : ∃ sl, h1.get? b = some { ob with slots := sl } := by
 by_cases hb : b ∈ fs
 ·exact u.slot b ob q n hb hx
 ·exact ⟨ob.slots, u.keep b ob q n hb hx⟩
theorem Un.kept (k : ∀ b u, h.get? b = some u -> h'.get? b = some u) : Un fs ex H H h h' :=
 ⟨fun b ob q _ _ _ => k b ob q, fun b ob q _ _ _ => ⟨ob.slots, k b ob q⟩, fun _ _ _ n _ => n, fun b ob q _ => ⟨ob, k b ob q⟩, fun _ _ q => q, fun _ _ _ q => q, fun _ ps q => ⟨#[], by rw [q]; simp⟩⟩
theorem Un.refl : Un fs ex H H h h := Un.kept fun _ _ q => q
theorem Un.laid (k : ∀ b u, h.get? b = some u -> h'.get? b = some u) (hp : h.objs.size <= a) (hn : H a = none) : Un fs ex H (upd H a o) h h' where
 keep := fun b u q _ _ _ => k b u q
 slot := fun b u q _ _ _ => ⟨u.slots, k b u q⟩
 free := fun b u q n _ => by rw [upd_ne (Nat.ne_of_lt (Nat.lt_of_lt_of_le (Heap.lt_size q) hp))]; exact n
 there := fun b u q _ => ⟨u, k b u q⟩
 tups := fun b xs q => by rw [upd_ne (ne_of_none q hn)]; exact q
 frzs := fun b u xs q => by rw [upd_ne (ne_of_none q hn)]; exact q
 tbls := fun b ps q => ⟨#[], by rw [upd_ne (ne_of_none q hn), q]; simp⟩
theorem Un.write (mu : Mut (H x)) (he : e = x \/ H e = some (.own x)) (k : ∀ b u, b ≠ e -> h.get? b = some u -> h'.get? b = some u) (heo : ∃ u, h'.get? e = some u) : Un fs ex H (upd H x o) h h' := by
 have hx : ∀ b, H b = none -> b ≠ x := fun b n z => by subst z; rw [n] at mu; exact mu
 have hb : ∀ b, H b = none -> b ≠ e := fun b n z => by
  subst z
  rcases he with r | r
  ·exact hx b n r
  ·rw [n] at r; cases r
 have hm : ∀ b u, H b = some u -> ¬ Mut (some u) -> b ≠ x := fun b u q nm z => by subst z; rw [q] at mu; exact nm mu
 refine ⟨fun b u q n _ _ => k b u (hb b n) q, fun b u q n _ _ => ⟨u.slots, k b u (hb b n) q⟩, fun b u q n _ => by rw [upd_ne (hx b n)]; exact n, fun b u q _ => ?_,
  fun b xs q => by rw [upd_ne (hm b _ q fun z => z)]; exact q, fun b u xs q => by rw [upd_ne (hm b _ q fun z => z)]; exact q, fun b ps q => ⟨#[], by rw [upd_ne (hm b _ q fun z => z), q]; simp⟩⟩
 by_cases hbe : b = e
 ·subst hbe; exact heo
 ·exact ⟨u, k b u hbe q⟩
end
def trk (h : Heap) (H : Hp) : List Addr := (List.range h.objs.size).filter fun a => (H a).isSome
def hidT (h : Heap) (H : Hp) : Heap := PySem.W.hideAll h (trk h H)
theorem hidT_size (h : Heap) (H : Hp) : (hidT h H).objs.size = h.objs.size := PySem.W.hideAll_size _ _
theorem hidT_get {h : Heap} {H : Hp} {b : Addr} {o : Obj} (e : h.get? b = some o) (n : H b = none) : (hidT h H).get? b = some o :=
 PySem.W.hideAll_get _ e fun hm => by
  have q : (H b).isSome = true := (List.mem_filter.mp hm).2
  rw [n] at q; simp at q
theorem of_hidT {h : Heap} {H : Hp} {b : Addr} {o : Obj} (e : (hidT h H).get? b = some o) : h.get? b = some o /\ H b = none := by
 have e' : h.get? b = some o := PySem.W.of_hideAll (trk h H) e
 refine ⟨e', ?_⟩
 cases q : H b with
 | none => rfl
 | some x =>
  have hm : b ∈ trk h H := List.mem_filter.mpr ⟨List.mem_range.mpr (Heap.lt_size e'), by simp [q]⟩
  have z : (hidT h H).get? b = none := PySem.W.hideAll_none (trk h H) hm
  rw [z] at e; cases e
def allNews (g h : Heap) (L : Addr) : List (Addr × Obj) := (List.range h.objs.size).filterMap fun a => if a = L \/ (g.get? a).isSome = true then none else (h.get? a).map fun o => (a, o)
def rest (g h : Heap) (L d : Addr) : List (Addr × Obj) := (allNews g h L).filter fun p => decide (p.1 ≠ d)
end L2
namespace L2
open PySem PySem.Spec PyProof.Rows
structure Mod (K : PySem.W.Frag) (mg : Str -> Option Value) (base : Heap) : Prop where
 kin : K.In base
 glob : base.Ns mainGlobals mg
 blt : ∃ mb, base.Ns builtinsNs mb /\ ∀ x : Str, x ≠ "__name__" -> mb x = bootBuiltins x
 nolimit : base.NoLimit
structure Cx where
 prog : Program
 w : World
 K : PySem.W.Frag
 mg : Str -> Option Value
 base : Heap
 A : Around
 N : List Str
 s₀ : Shared
 H₀ : Hp
 env : Env
 outer : List Env
 stack : List Env
 ex : List Addr
 fn : Str -> Bool
 calm : Bool
 pn : List (Addr × Obj)
 xe : Value -> Shared -> Prop
def frs (l : List Env) : List Addr := l.filterMap (·.frame)
abbrev Cx.fs (X : Cx) : List Addr := frs X.outer
def Vis (sc : Scope) (x : Str) : Prop := sc.names.lookup x = some .local \/ sc.names.lookup x = some .cell \/ sc.names.lookup x = some .free
def Loc (sc : Scope) (x : Str) : Prop := sc.names.lookup x = some .local \/ sc.names.lookup x = some .cell
def Look (env : Env) (h : Heap) (m : Str -> Option Value) (x : Str) (u : Value) : Prop :=
 (env.kindOf x = some .local /\ m x = some u) \/ ((env.kindOf x = some .cell \/ env.kindOf x = some .free) /\ ∃ c, env.cells.lookup x = some c /\ h.IsCell c (some u))
structure Cx.Ok (X : Cx) : Prop where
 mod : Mod X.K X.mg X.base
 kind : X.env.scope.kind = .function
 glob : X.env.globals = mainGlobals
 blt : X.env.builtins = builtinsNs
 above : X.s₀.heap.objs.size <= X.env.locals
 inj : ∀ x y c, X.env.cells.lookup x = some c -> X.env.cells.lookup y = some c -> x = y
 has : ∀ x, (X.env.kindOf x = some .cell \/ X.env.kindOf x = some .free) -> ∃ c, X.env.cells.lookup x = some c
 cab : ∀ x c, X.fn x = true -> X.env.cells.lookup x = some c -> X.s₀.heap.objs.size <= c
 hd : X.calm = true -> X.A.handled = none
 frames : X.A.frames = some X.stack
 stk : X.stack = X.outer \/ (X.stack = X.env :: X.outer /\ X.env.frame = some X.env.locals)
 exf : ∀ b ∈ X.ex, b ≠ X.env.locals /\ ∀ x c, X.env.cells.lookup x = some c -> c ≠ b
 bs : ∀ b o, X.base.get? b = some o -> X.s₀.heap.get? b = some o /\ X.H₀ b = none
 bsz : X.base.objs.size <= X.s₀.heap.objs.size
 noex : ∀ b o, X.base.get? b = some o -> b ∉ X.ex
 exfs : ∀ b ∈ X.ex, b ∉ X.fs
 funs : X.s₀.heap.FunFrames X.base X.outer
 frf : ∀ b ∈ X.fs, X.H₀ b = none
structure Inv (X : Cx) (pins : List (Addr × Obj)) (σ : List (Option V)) (H : Hp) (s : Shared) : Prop where
 ok : X.Ok
 os : s.os = X.s₀.os
 bare : AllBare s.gens
 base : Un X.fs X.ex X.H₀ H X.s₀.heap s.heap
 loc : ∃ m, s.heap.Ns X.env.locals m /\ ∀ (i : Nat) (x : Str) (v : V), X.N[i]? = some x -> σ[i]? = some (some v) -> Vis X.env.scope x -> ∃ u, RelV v u /\ Look X.env s.heap m x u
 cell : ∀ x c, X.env.cells.lookup x = some c -> ∃ v, s.heap.IsCell c v
 free : H X.env.locals = none
 freeC : ∀ x c, X.env.cells.lookup x = some c -> H c = none
 pin : ∀ p ∈ X.pn ++ pins, s.heap.get? p.1 = some p.2 /\ H p.1 = none /\ p.1 ≠ X.env.locals /\ p.1 ∉ X.fs /\ ∀ v, p.2.data ≠ .cell v
 hok : HOk X.prog X.w H s.heap
 len : σ.length = X.N.length
section
variable {X : Cx} {pins : List (Addr × Obj)} {σ : List (Option V)} {H H' : Hp} {s : Shared} {h' : Heap}
theorem Cx.Ok.nofr (ok : X.Ok) {b : Addr} {o : Obj} (e : X.base.get? b = some o) : b ∉ X.fs := fun hb => by
 have := (ok.funs.mem hb).1
 rw [e] at this; cases this
theorem Inv.bs (I : Inv X pins σ H s) : ∀ b o, X.base.get? b = some o -> s.heap.get? b = some o /\ H b = none := fun b o e =>
 ⟨I.base.keep b o (I.ok.bs b o e).1 (I.ok.bs b o e).2 (I.ok.nofr e) (I.ok.noex b o e), I.base.free b o (I.ok.bs b o e).1 (I.ok.bs b o e).2 (I.ok.noex b o e)⟩
theorem Inv.bk (I : Inv X pins σ H s) : ∀ b o, X.base.get? b = some o -> s.heap.get? b = some o := fun b o e => (I.bs b o e).1
theorem Inv.mod (I : Inv X pins σ H s) : Mod X.K X.mg X.base := I.ok.mod
theorem Inv.kIn (I : Inv X pins σ H s) : X.K.In s.heap := I.ok.mod.kin.keeps I.bk
theorem Inv.lt (I : Inv X pins σ H s) : X.env.locals < s.heap.objs.size := let ⟨_, hn, _⟩ := I.loc; hn.lt
theorem Inv.sz (I : Inv X pins σ H s) : X.s₀.heap.objs.size <= s.heap.objs.size := Nat.le_trans I.ok.above (Nat.le_of_lt I.lt)
theorem Inv.nofs (I : Inv X pins σ H s) {a : Addr} (h : s.heap.objs.size <= a) : a ∉ X.fs := fun hb => by
 obtain ⟨_, o, ho, _⟩ := I.ok.funs.mem hb
 exact absurd (Nat.lt_of_lt_of_le (Heap.lt_size ho) (Nat.le_trans I.sz h)) (Nat.lt_irrefl _)
theorem Inv.cne (I : Inv X pins σ H s) : ∀ x c, X.env.cells.lookup x = some c -> c ≠ X.env.locals := fun x c e z => by
 obtain ⟨v, o, ho, hd⟩ := I.cell x c e
 obtain ⟨m, ⟨o', es, ep, ho', hd', _⟩, _⟩ := I.loc
 rw [z, ho'] at ho; cases ho; rw [hd'] at hd; cases hd
theorem Inv.funs (I : Inv X pins σ H s) : s.heap.FunFrames X.base X.outer := by
 have all : ∀ (l : List Env), (∀ b ∈ frs l, b ∈ X.fs) -> X.s₀.heap.FunFrames X.base l -> s.heap.FunFrames X.base l := by
  intro l
  induction l with
  | nil => intro _ _; trivial
  | cons env r ih =>
   intro hs hl
   obtain ⟨hk, ⟨L, o, hf, hn, ho, hd⟩, hr⟩ := hl
   have hL : L ∈ X.fs := hs L (by unfold frs; rw [List.filterMap_cons, hf]; exact List.mem_cons_self)
   obtain ⟨sl, e⟩ := I.base.slot L o ho (I.ok.frf L hL) hL fun z => I.ok.exfs L z hL
   exact ⟨hk, ⟨L, _, hf, hn, e, hd⟩, ih (fun b hb => hs b (by unfold frs; rw [List.filterMap_cons, hf]; exact List.mem_cons_of_mem _ hb)) hr⟩
 exact all X.outer (fun _ hb => hb) I.ok.funs
theorem Inv.stack (I : Inv X pins σ H s) : s.heap.FunFrames X.base X.stack := by
 rcases I.ok.stk with e | ⟨e, hf⟩
 ·rw [e]; exact I.funs
 ·rw [e]
  obtain ⟨m, hn, _⟩ := I.loc
  refine .cons (by rw [I.ok.kind]; decide) hf hn ?_ I.funs
  exact Heap.get?_none_of_le (Nat.le_trans I.ok.bsz I.ok.above)
theorem Inv.stkSub (I : Inv X pins σ H s) : ∀ b ∈ frs X.stack, b ∈ X.env.locals :: X.fs := fun b hb => by
 rcases I.ok.stk with e | ⟨e, hf⟩
 ·rw [e] at hb; exact List.mem_cons_of_mem _ hb
 ·rw [e] at hb
  unfold frs at hb
  rw [List.filterMap_cons, hf] at hb
  exact hb
theorem Inv.stkFree (I : Inv X pins σ H s) : ∀ b ∈ frs X.stack, H b = none := fun b hb => by
 rcases List.mem_cons.mp (I.stkSub b hb) with e | hb
 ·rw [e]; exact I.free
 ·obtain ⟨_, o, ho, _⟩ := I.ok.funs.mem hb
  exact I.base.free b o ho (I.ok.frf b hb) fun z => I.ok.exfs b z hb
theorem Inv.step {g' : Array GenState} {t' : Nat} {d' : Drawn} {ch : List Addr} (I : Inv X pins σ H s)
  (hch : ∀ b ∈ ch, (b ∈ X.ex \/ X.s₀.heap.objs.size <= b) /\ b ≠ X.env.locals /\ (∀ x c, X.env.cells.lookup x = some c -> c ≠ b) /\ ∀ p ∈ X.pn ++ pins, p.1 ≠ b)
  (keep : ∀ b o, b ≠ X.env.locals -> b ∉ X.fs -> b ∉ ch -> s.heap.get? b = some o -> H b = none -> h'.get? b = some o)
  (slot : ∀ b o, b ≠ X.env.locals -> b ∈ X.fs -> b ∉ ch -> s.heap.get? b = some o -> H b = none -> ∃ sl, h'.get? b = some { o with slots := sl }) (free : ∀ b o, b ∉ ch -> s.heap.get? b = some o -> H b = none -> H' b = none)
  (there : ∀ b o, b ∉ ch -> s.heap.get? b = some o -> ∃ o', h'.get? b = some o')
  (tups : ∀ b xs, H b = some (.tup xs) -> H' b = some (.tup xs)) (frzs : ∀ b o u, H b = some (.frz o u) -> H' b = some (.frz o u)) (tbls : ∀ b ps, H b = some (.tbl ps) -> ∃ more, H' b = some (.tbl (ps ++ more)))
  (ns : ∀ m, s.heap.Ns X.env.locals m -> h'.Ns X.env.locals m) (hok : HOk X.prog X.w H' h') (hg : AllBare g') :
  Inv X pins σ H' { s with heap := h', gens := g', drawn := d', toks := t' } := by
 have neL : ∀ b o, X.s₀.heap.get? b = some o -> b ≠ X.env.locals := fun b o e => Nat.ne_of_lt (Nat.lt_of_lt_of_le (Heap.lt_size e) I.ok.above)
 have neC : ∀ b o, X.s₀.heap.get? b = some o -> b ∉ X.ex -> b ∉ ch := fun b o e hx hb => by
  rcases (hch b hb).1 with z | z
  ·exact hx z
  ·exact absurd (Nat.lt_of_lt_of_le (Heap.lt_size e) z) (Nat.lt_irrefl _)
 have cellK : ∀ x c, X.env.cells.lookup x = some c -> ∀ v, s.heap.IsCell c v -> h'.IsCell c v := fun x c e v ⟨o, ho, hd⟩ => by
  have nch : c ∉ ch := fun z => (hch c z).2.2.1 x c e rfl
  by_cases hc : c ∈ X.fs
  ·obtain ⟨sl, q⟩ := slot c o (I.cne x c e) hc nch ho (I.freeC x c e)
   exact ⟨_, q, hd⟩
  ·exact ⟨o, keep c o (I.cne x c e) hc nch ho (I.freeC x c e), hd⟩
 refine ⟨I.ok, I.os, hg, ⟨fun b o e n hb hx => ?_, fun b o e n hb hx => ?_, fun b o e n hx => ?_, fun b o e hx => ?_, fun b xs e => tups b xs (I.base.tups b xs e), fun b o xs e => frzs b o xs (I.base.frzs b o xs e), fun b ps e => ?_⟩, ?_, fun x c e => ?_, ?_, fun x c e => ?_, fun p hp => ?_, hok, I.len⟩
 ·exact keep b o (neL b o e) hb (neC b o e hx) (I.base.keep b o e n hb hx) (I.base.free b o e n hx)
 ·obtain ⟨sl, e1⟩ := I.base.slot b o e n hb hx
  obtain ⟨sl', e2⟩ := slot b _ (neL b o e) hb (neC b o e hx) e1 (I.base.free b o e n hx)
  exact ⟨sl', e2⟩
 ·obtain ⟨o', e1⟩ := I.base.there b o e hx
  exact free b o' (neC b o e hx) e1 (I.base.free b o e n hx)
 ·obtain ⟨o', e1⟩ := I.base.there b o e hx
  exact there b o' (neC b o e hx) e1
 ·obtain ⟨m1, e1⟩ := I.base.tbls b ps e
  obtain ⟨m2, e2⟩ := tbls b _ e1
  exact ⟨m1 ++ m2, by rw [e2, Array.append_assoc]⟩
 ·obtain ⟨m, hn, hl⟩ := I.loc
  refine ⟨m, ns m hn, fun i x v e1 e2 e3 => ?_⟩
  obtain ⟨u, r, l⟩ := hl i x v e1 e2 e3
  refine ⟨u, r, ?_⟩
  rcases l with l | ⟨k, c, e, z⟩
  ·exact .inl l
  ·exact .inr ⟨k, c, e, cellK x c e _ z⟩
 ·obtain ⟨v, z⟩ := I.cell x c e
  exact ⟨v, cellK x c e v z⟩
 ·obtain ⟨m, ⟨o, _, _, ho, _⟩, _⟩ := I.loc
  exact free _ o (fun z => (hch _ z).2.1 rfl) ho I.free
 ·obtain ⟨v, o, ho, hd⟩ := I.cell x c e
  exact free c o (fun z => (hch c z).2.2.1 x c e rfl) ho (I.freeC x c e)
 ·obtain ⟨e, n, ne, nf, d⟩ := I.pin p hp
  have nch : p.1 ∉ ch := fun z => (hch p.1 z).2.2.2 p hp rfl
  exact ⟨keep p.1 p.2 ne nf nch e n, free p.1 p.2 nch e n, ne, nf, d⟩
theorem Inv.un {t' : Nat} (I : Inv X pins σ H s) (u : Un X.fs [] H H' s.heap h') (hok : HOk X.prog X.w H' h') : Inv X pins σ H' { s with heap := h', toks := t' } := by
 obtain ⟨m, ⟨o, es, ep, ho, r⟩, _⟩ := id I.loc
 obtain ⟨sl, hL⟩ := u.any ho I.free (by simp)
 exact I.step (g' := s.gens) (d' := s.drawn) (ch := []) (fun _ z => nomatch z) (fun b o _ hb _ e n => u.keep b o e n hb (by simp)) (fun b o _ hb _ e n => u.slot b o e n hb (by simp)) (fun b o _ e n => u.free b o e n (by simp)) (fun b o _ e => u.there b o e (by simp)) u.tups u.frzs u.tbls (fun m' hm => by
  obtain ⟨o', es', ep', ho', r'⟩ := hm
  rw [ho] at ho'; cases ho'
  exact ⟨_, es', ep', hL, r'⟩) hok I.bare
theorem Inv.call {g' : Array GenState} {t' : Nat} {d' : Drawn} {ch : List Addr} (I : Inv X pins σ H s) (u : Un (frs X.stack) ch H H' s.heap h') (hok : HOk X.prog X.w H' h') (hg : AllBare g')
  (hch : ∀ b ∈ ch, (b ∈ X.ex \/ X.s₀.heap.objs.size <= b) /\ b ≠ X.env.locals /\ (∀ x c, X.env.cells.lookup x = some c -> c ≠ b) /\ ∀ p ∈ X.pn ++ pins, p.1 ≠ b) :
  Inv X pins σ H' { s with heap := h', gens := g', drawn := d', toks := t' } := by
 obtain ⟨m, ⟨o, es, ep, ho, r⟩, _⟩ := id I.loc
 obtain ⟨sl, hL⟩ := u.any ho I.free fun z => (hch _ z).2.1 rfl
 exact I.step (ch := ch) hch (fun b o hL hb hc e n => u.keep b o e n (fun z => (List.mem_cons.mp (I.stkSub b z)).elim hL hb) hc) (fun b o _ _ hc e n => u.any e n hc) (fun b o hc e n => u.free b o e n hc) (fun b o hc e => u.there b o e hc) u.tups u.frzs u.tbls (fun m' hm => by
  obtain ⟨o', es', ep', ho', r'⟩ := hm
  rw [ho] at ho'; cases ho'
  exact ⟨_, es', ep', hL, r'⟩) hok hg
theorem Inv.turned {t' : Nat} {it : Addr} (I : Inv X pins σ H s) (k : ∀ b o, b ≠ it -> s.heap.get? b = some o -> h'.get? b = some o) (hn : H it = none) (hL : it ≠ X.env.locals)
  (h1 : it ∈ X.ex \/ X.s₀.heap.objs.size <= it) (h2 : ∀ x c, X.env.cells.lookup x = some c -> c ≠ it) (h3 : ∀ p ∈ X.pn ++ pins, p.1 ≠ it) : Inv X pins σ H { s with heap := h', toks := t' } := by
 have nit : ∀ b u, H b = some u -> b ≠ it := fun b u e z => by rw [z, hn] at e; cases e
 refine I.step (g' := s.gens) (d' := s.drawn) (ch := [it]) (fun b hb => ?_) (fun b o _ _ hc e _ => k b o (fun z => hc (by simp [z])) e) (fun b o _ _ hc e _ => ⟨o.slots, k b o (fun z => hc (by simp [z])) e⟩) (fun _ _ _ _ n => n)
  (fun b o hc e => ⟨o, k b o (fun z => hc (by simp [z])) e⟩) (fun _ _ e => e) (fun _ _ _ e => e) (fun b ps e => ⟨#[], by rw [e]; simp⟩) (fun m hm => ?_) (fun b u e => ?_) I.bare
 ·have e : b = it := by simpa using hb
  subst e
  exact ⟨h1, hL, h2, h3⟩
 ·obtain ⟨o, es, ep, ho, r⟩ := hm
  exact ⟨o, es, ep, k _ o (Ne.symm hL) ho, r⟩
 ·refine (I.hok b u e).stay (fun c v hc q => k c v ?_ q) (fun _ q => q) fun _ _ q => q
  rcases hc with z | z
  ·rw [z]; exact nit b u e
  ·exact nit c _ z
theorem Inv.tok (I : Inv X pins σ H s) (t : Nat) : Inv X pins σ H { s with toks := t } := I.un (h' := s.heap) (t' := t) Un.refl I.hok
theorem Inv.kept {t' : Nat} (I : Inv X pins σ H s) (k : ∀ b u, s.heap.get? b = some u -> h'.get? b = some u) : Inv X pins σ H { s with heap := h', toks := t' } := I.un (Un.kept k) (I.hok.kept k)
theorem Inv.laid {a : Addr} {o : HO} {t' : Nat} (I : Inv X pins σ H s) (k : ∀ b u, s.heap.get? b = some u -> h'.get? b = some u) (hp : s.heap.objs.size <= a) (new : ObjOk X.prog X.w (upd H a o) h' a o) :
  Inv X pins σ (upd H a o) { s with heap := h', toks := t' } := I.un (Un.laid k hp (I.hok.fresh hp)) (I.hok.laid k hp new)
theorem Inv.write {x e : Addr} {o : HO} {t' : Nat} (I : Inv X pins σ H s) (mu : Mut (H x)) (he : e = x \/ H e = some (.own x)) (k : ∀ b u, b ≠ e -> s.heap.get? b = some u -> h'.get? b = some u) (heo : ∃ u, h'.get? e = some u)
  (new : ObjOk X.prog X.w (upd H x o) h' x o) : Inv X pins σ (upd H x o) { s with heap := h', toks := t' } := I.un (Un.write mu he k heo) (I.hok.write mu he k heo new)
theorem Inv.pins_of {pins' : List (Addr × Obj)} (I : Inv X pins σ H s) (h : ∀ p ∈ pins', s.heap.get? p.1 = some p.2 /\ H p.1 = none /\ p.1 ≠ X.env.locals /\ p.1 ∉ X.fs /\ ∀ v, p.2.data ≠ .cell v) : Inv X pins' σ H s :=
 ⟨I.ok, I.os, I.bare, I.base, I.loc, I.cell, I.free, I.freeC, fun p hp => (List.mem_append.mp hp).elim (fun z => I.pin p (List.mem_append_left _ z)) (h p), I.hok, I.len⟩
theorem nodup_ix {N : List Str} (hN : N.Nodup) {i j : Nat} {x : Str} (a : N[i]? = some x) (b : N[j]? = some x) : i = j := by
 obtain ⟨h1, e1⟩ := List.getElem?_eq_some_iff.mp a
 obtain ⟨h2, e2⟩ := List.getElem?_eq_some_iff.mp b
 exact (List.getElem_inj hN).mp (e1.trans e2.symm)
theorem store_ok2 {M : Model} {A : Around} {E : Value -> Shared -> Prop} {i : Nat} {x : Str} {v : V} {u : Value} {Q : Unit -> Shared -> Prop} (I : Inv X pins σ H s) (hN : X.N.Nodup) (hi : X.N[i]? = some x) (hx : Loc X.env.scope x) (r : RelV v u)
  (h : ∀ s', Inv X pins (σ.set i (some v)) H s' -> (∃ a, Heap.SameBut a s.heap s'.heap /\ (a = X.env.locals \/ X.env.cells.lookup x = some a)) -> Q () s') (hf : X.fn x = true \/ X.env.scope.names.lookup x = some .local := by first | exact .inl rfl | exact .inr rfl | assumption) : wpAny M A (storeName X.env x u) Q E s := by
 obtain ⟨m, hn, hl⟩ := id I.loc
 have hcls : (X.env.scope.kind == .class || (X.env.scope.kind == .module && X.env.locals != X.env.globals)) = false := by rw [I.ok.kind]; rfl
 have hiσ : i < σ.length := by rw [I.len]; exact (List.getElem?_eq_some_iff.mp hi).1
 have cne := I.cne
 have tracked : ∀ {a : Addr} {h' : Heap}, (∃ o, s.heap.get? a = some o /\ H a = none) -> Heap.SameBut a s.heap h' -> HOk X.prog X.w H h' := fun {a h'} ha hs b ob e => by
  obtain ⟨_, _, hfree⟩ := ha
  refine (I.hok b ob e).stay (fun c w' hc q => (hs.2 c ?_).trans q) (fun _ q => q) fun _ _ q => q
  rintro rfl
  rcases hc with rfl | hc
  ·rw [hfree] at e; cases e
  ·rw [hfree] at hc; cases hc
 rcases hx with hk | hk
 ·refine wpAny_storeName_local hk hn (fun h' hn' hs => ?_) hcls
  obtain ⟨oL, _, _, hoL, _⟩ := id hn
  refine h _ ⟨I.ok, I.os, I.bare, ⟨fun b o e n hb hx => ?_, fun b o e n hb hx => ?_, I.base.free, fun b o e hx => ?_, I.base.tups, I.base.frzs, I.base.tbls⟩, ⟨_, hn', fun j y v' e1 e2 e3 => ?_⟩, fun y c e => ?_, I.free, I.freeC, fun p hp => ?_, tracked ⟨oL, hoL, I.free⟩ hs, by simpa using I.len⟩ ⟨_, hs, .inl rfl⟩
  ·exact (hs.2 b (Nat.ne_of_lt (Nat.lt_of_lt_of_le (Heap.lt_size e) I.ok.above))).trans (I.base.keep b o e n hb hx)
  ·obtain ⟨sl, e1⟩ := I.base.slot b o e n hb hx
   exact ⟨sl, (hs.2 b (Nat.ne_of_lt (Nat.lt_of_lt_of_le (Heap.lt_size e) I.ok.above))).trans e1⟩
  ·obtain ⟨o', e1⟩ := I.base.there b o e hx
   exact ⟨o', (hs.2 b (Nat.ne_of_lt (Nat.lt_of_lt_of_le (Heap.lt_size e) I.ok.above))).trans e1⟩
  ·by_cases hj : j = i
   ·subst hj
    rw [hi] at e1; cases e1
    rw [List.getElem?_set_self hiσ] at e2
    cases e2
    exact ⟨u, r, .inl ⟨hk, by simp⟩⟩
   ·rw [List.getElem?_set_ne (Ne.symm hj)] at e2
    obtain ⟨u', r', q⟩ := hl j y v' e1 e2 e3
    refine ⟨u', r', ?_⟩
    rcases q with ⟨k, e⟩ | ⟨k, c, e, z⟩
    ·refine .inl ⟨k, ?_⟩
     have : y ≠ x := fun e => hj (nodup_ix hN e1 (e ▸ hi))
     simp [this, e]
    ·exact .inr ⟨k, c, e, z.sameBut hs (cne y c e)⟩
  ·obtain ⟨w', z⟩ := I.cell y c e
   exact ⟨w', z.sameBut hs (cne y c e)⟩
  ·obtain ⟨e, n, ne, nf, d⟩ := I.pin p hp
   exact ⟨(hs.2 p.1 ne).trans e, n, ne, nf, d⟩
 ·have hfn : X.fn x = true := by
   rcases hf with z | z
   ·exact z
   ·rw [z] at hk; cases hk
  obtain ⟨c, hc⟩ := I.ok.has x (.inl hk)
  obtain ⟨w', z⟩ := I.cell x c hc
  refine wpAny_storeName_cell I.ok.kind hk hc z (fun h' hc' hs => ?_)
  obtain ⟨oc, hoc, hocd⟩ := id z
  refine h { s with heap := h' } ⟨I.ok, I.os, I.bare, ⟨fun b o e n hb hx => ?_, fun b o e n hb hx => ?_, I.base.free, fun b o e hx => ?_, I.base.tups, I.base.frzs, I.base.tbls⟩, ⟨m, hn.sameBut hs (Ne.symm (cne x c hc)), fun j y v' e1 e2 e3 => ?_⟩, fun y c' e => ?_, I.free, I.freeC, fun p hp => ?_, tracked ⟨oc, hoc, I.freeC x c hc⟩ hs, by simpa using I.len⟩ ⟨c, hs, .inr hc⟩
  ·exact (hs.2 b (Nat.ne_of_lt (Nat.lt_of_lt_of_le (Heap.lt_size e) (I.ok.cab x c hfn hc)))).trans (I.base.keep b o e n hb hx)
  ·obtain ⟨sl, e1⟩ := I.base.slot b o e n hb hx
   exact ⟨sl, (hs.2 b (Nat.ne_of_lt (Nat.lt_of_lt_of_le (Heap.lt_size e) (I.ok.cab x c hfn hc)))).trans e1⟩
  ·obtain ⟨o', e1⟩ := I.base.there b o e hx
   exact ⟨o', (hs.2 b (Nat.ne_of_lt (Nat.lt_of_lt_of_le (Heap.lt_size e) (I.ok.cab x c hfn hc)))).trans e1⟩
  ·by_cases hj : j = i
   ·subst hj
    rw [hi] at e1; cases e1
    rw [List.getElem?_set_self hiσ] at e2
    cases e2
    exact ⟨u, r, .inr ⟨.inl hk, c, hc, hc'⟩⟩
   ·rw [List.getElem?_set_ne (Ne.symm hj)] at e2
    obtain ⟨u', r', q⟩ := hl j y v' e1 e2 e3
    refine ⟨u', r', ?_⟩
    rcases q with q | ⟨k, c', e, z'⟩
    ·exact .inl q
    ·refine .inr ⟨k, c', e, z'.sameBut hs ?_⟩
     rintro rfl
     exact hj (nodup_ix hN e1 (I.ok.inj _ _ _ e hc ▸ hi))
  ·by_cases hcc : c' = c
   ·subst hcc; exact ⟨_, hc'⟩
   ·obtain ⟨w2, z2⟩ := I.cell y c' e
    exact ⟨w2, z2.sameBut hs hcc⟩
  ·obtain ⟨e, n, ne, nf, d⟩ := I.pin p hp
   refine ⟨(hs.2 p.1 ?_).trans e, n, ne, nf, d⟩
   intro q
   rw [q, hoc] at e
   have q' : oc = p.2 := Option.some.inj e
   exact d w' (by rw [<- q']; exact hocd)
theorem store_ok {M : Model} {A : Around} {E : Value -> Shared -> Prop} {i : Nat} {x : Str} {v : V} {u : Value} {Q : Unit -> Shared -> Prop} (I : Inv X pins σ H s) (hN : X.N.Nodup) (hi : X.N[i]? = some x) (hx : Loc X.env.scope x) (r : RelV v u)
  (h : ∀ s', Inv X pins (σ.set i (some v)) H s' -> Q () s') (hf : X.fn x = true \/ X.env.scope.names.lookup x = some .local := by first | exact .inl rfl | exact .inr rfl | assumption) : wpAny M A (storeName X.env x u) Q E s :=
 store_ok2 I hN hi hx r (fun s' I' _ => h s' I') hf
theorem Inv.call' {s' : Shared} {ch : List Addr} (I : Inv X pins σ H s) (ho : s'.os = s.os) (u : Un (frs X.stack) ch H H' s.heap s'.heap) (hok : HOk X.prog X.w H' s'.heap) (hg : AllBare s'.gens)
  (hch : ∀ b ∈ ch, (b ∈ X.ex \/ X.s₀.heap.objs.size <= b) /\ b ≠ X.env.locals /\ (∀ x c, X.env.cells.lookup x = some c -> c ≠ b) /\ ∀ p ∈ X.pn ++ pins, p.1 ≠ b) : Inv X pins σ H' s' := by
 obtain ⟨h', g', d', t', o'⟩ := s'
 have e : o' = s.os := ho
 subst e
 exact I.call (g' := g') (t' := t') (d' := d') u hok hg hch
end
abbrev XK := Value -> Option Addr -> Hp -> Prop
abbrev St := List (Option V)
abbrev VK := V -> Hp -> Prop
abbrev TE := St -> Hp -> VK -> Prop
abbrev TT := St -> Hp -> (Bool -> Hp -> Prop) -> Prop
abbrev TA := St -> Hp -> (List V -> Hp -> Prop) -> Prop
structure Ends where
 nx : St -> Hp -> Prop
 rt : VK
 bk : St -> Hp -> Prop := fun _ _ => False
 ct : St -> Hp -> Prop := fun _ _ => False
abbrev TS := Ends -> St -> Hp -> Prop
def EP (X : Cx) (pins : List (Addr × Obj)) (σ : St) (Q : VK) (u : Value) (s' : Shared) : Prop := ∃ v H', Inv X pins σ H' s' /\ RelV v u /\ Q v H'
def TP (X : Cx) (pins : List (Addr × Obj)) (σ : St) (Q : Bool -> Hp -> Prop) (b : Bool) (s' : Shared) : Prop := ∃ H', Inv X pins σ H' s' /\ Q b H'
def AP (X : Cx) (pins : List (Addr × Obj)) (σ : St) (Q : List V -> Hp -> Prop) (us : List Value) (s' : Shared) : Prop := ∃ vs H', Inv X pins σ H' s' /\ Vals vs us /\ Q vs H'
def SP (X : Cx) (pins : List (Addr × Obj)) (D : Ends) (f : Flow) (s' : Shared) : Prop :=
 match f with
 | .next => ∃ σ' H', Inv X pins σ' H' s' /\ D.nx σ' H'
 | .brk => ∃ σ' H', Inv X pins σ' H' s' /\ D.bk σ' H'
 | .cont => ∃ σ' H', Inv X pins σ' H' s' /\ D.ct σ' H'
 | .ret u => ∃ v σ' H', Inv X pins σ' H' s' /\ RelV v u /\ D.rt v H'
def PE (X : Cx) (e : Expr) (t : TE) : Prop :=
 ∀ (pins : List (Addr × Obj)) (s : Shared) (σ : St) (H : Hp) (Q : VK), Inv X pins σ H s -> t σ H Q -> wpAny (model X.prog X.w) X.A (eval e X.env) (EP X pins σ Q) X.xe s
def PT (X : Cx) (e : Expr) (t : TT) : Prop :=
 ∀ (pins : List (Addr × Obj)) (s : Shared) (σ : St) (H : Hp) (Q : Bool -> Hp -> Prop), Inv X pins σ H s -> t σ H Q -> wpAny (model X.prog X.w) X.A (isTrue e X.env (eval e X.env)) (TP X pins σ Q) X.xe s
def PW (X : Cx) (e : Expr) (t : TT) : Prop :=
 ∀ (whole : Sem Value) (pins : List (Addr × Obj)) (s : Shared) (σ : St) (H : Hp) (Q : Bool -> Hp -> Prop), Inv X pins σ H s -> t σ H Q -> wpAny (model X.prog X.w) X.A (isTrue e X.env whole) (TP X pins σ Q) X.xe s
theorem PW.pt {X : Cx} {e : Expr} {t : TT} (h : PW X e t) : PT X e t := h _
def PA (X : Cx) (es : List Expr) (t : TA) : Prop :=
 ∀ (pos : Pos) (pins : List (Addr × Obj)) (s : Shared) (σ : St) (H : Hp) (Q : List V -> Hp -> Prop), Inv X pins σ H s -> t σ H Q -> wpAny (model X.prog X.w) X.A (spliced (backTo pos (starEach es X.env))) (AP X pins σ Q) X.xe s
def PS (X : Cx) (st : Stmt) (t : TS) : Prop :=
 ∀ (pins : List (Addr × Obj)) (s : Shared) (σ : St) (H : Hp) (D : Ends), Inv X pins σ H s -> t D σ H -> wpAny (model X.prog X.w) X.A (exec st X.env) (SP X pins D) X.xe s
def PSs (X : Cx) (st : List Stmt) (t : TS) : Prop :=
 ∀ (pins : List (Addr × Obj)) (s : Shared) (σ : St) (H : Hp) (D : Ends), Inv X pins σ H s -> t D σ H -> wpAny (model X.prog X.w) X.A (execs st X.env) (SP X pins D) X.xe s
theorem thn {α : Type} {t : Sem α} {Q Q' : α -> Shared -> Prop} {M : Model} {A : Around} {E : Value -> Shared -> Prop} {s : Shared} (h : wpAny M A t Q E s) (hQ : ∀ a s, Q a s -> Q' a s) : wpAny M A t Q' E s := wpAny_mono h hQ fun _ _ x => x
end L2
namespace L2
open PySem PySem.Spec PyProof.Rows
section
variable {X : Cx}
def tVar (i : Nat) : TE := fun σ H Q => ∃ v, σ[i]? = some (some v) /\ Q v H
def tC (v : V) : TE := fun _ H Q => Q v H
theorem pe_var {i : Nat} {x : Str} {pos : Pos} (hN : X.N[i]? = some x) (hv : Vis X.env.scope x) (hd : (x == ("__debug__" : Str)) = false := by decide) (hcd : (x == ("__classdict__" : Str)) = false := by decide) : PE X (.Name x pos) (tVar i) := by
 intro pins s σ H Q I h
 obtain ⟨v, e, h⟩ := h
 obtain ⟨m, hn, hl⟩ := I.loc
 obtain ⟨u, r, l⟩ := hl i x v hN e hv
 have fin : EP X pins σ Q u s := ⟨v, H, I, r, h⟩
 rcases l with ⟨hk, hm⟩ | ⟨hk, c, hc, hcell⟩
 ·exact wpAny_Name (wpAny_loadName_local I.ok.kind hk hn hm fin) hd
 ·rcases hk with hk | hk
  ·exact wpAny_Name (wpAny_loadName_cell I.ok.kind hk hc hcell fin) hd
  ·exact wpAny_Name (wpAny_loadName_free I.ok.kind hk hc hcell fin hcd) hd
theorem pe_int {i j pos} : PE X (.Constant (.int i) j pos) (tC (.int i)) := fun _ _ _ H _ I h => wpAny_Constant_int ⟨.int i, H, I.tok _, ⟨_, rfl⟩, h⟩
theorem pe_bl {b j pos} : PE X (.Constant (.bool b) j pos) (tC (.bl b)) := fun _ _ _ H _ I h => Constant_bool ⟨.bl b, H, I, rfl, h⟩
theorem pe_non {j pos} : PE X (.Constant .none j pos) (tC .non) := fun _ _ _ H _ I h => Constant_none ⟨.non, H, I, rfl, h⟩
def Gl (X : Cx) (x : Str) : Prop := X.env.kindOf x = some .globalImplicit
theorem ld_glob {E : Value -> Shared -> Prop} {pins : List (Addr × Obj)} {s : Shared} {σ : St} {H : Hp} {x : Str} {u : Value} {pos : Pos} {Q : Value -> Shared -> Prop} (I : Inv X pins σ H s) (hg : Gl X x) (hm : X.mg x = some u) (h : Q u s)
  (hd : (x == ("__debug__" : Str)) = false := by decide) : wpAny (model X.prog X.w) X.A (eval (.Name x pos) X.env) Q E s :=
 Calls.Name_function_global I.ok.kind hg (Calls.loadGlobal_global (by rw [I.ok.glob]; exact I.mod.glob.keeps I.bk) hm h) hd
theorem ld_blt {E : Value -> Shared -> Prop} {pins : List (Addr × Obj)} {s : Shared} {σ : St} {H : Hp} {x : Str} {u : Value} {pos : Pos} {Q : Value -> Shared -> Prop} (I : Inv X pins σ H s) (hg : Gl X x) (hm : X.mg x = none) (hv : bootBuiltins x = some u) (h : Q u s)
  (hn : x ≠ "__name__" := by decide) (hd : (x == ("__debug__" : Str)) = false := by decide) : wpAny (model X.prog X.w) X.A (eval (.Name x pos) X.env) Q E s := by
 obtain ⟨mb, h1, h2⟩ := I.mod.blt
 exact Calls.Name_function_global I.ok.kind hg (Calls.loadGlobal_builtin (by rw [I.ok.glob]; exact I.mod.glob.keeps I.bk) hm (by rw [I.ok.blt]; exact h1.keeps I.bk) ((h2 x hn).trans hv) h) hd
theorem pe_bltn {x : Str} {v : V} {u : Value} {pos : Pos} (hg : Gl X x) (hm : X.mg x = none) (hv : bootBuiltins x = some u) (r : RelV v u) (hn : x ≠ "__name__" := by decide) (hd : (x == ("__debug__" : Str)) = false := by decide) : PE X (.Name x pos) (tC v) :=
 fun _ _ _ H _ I h => ld_blt I hg hm hv ⟨v, H, I, r, h⟩ hn hd
variable {a b : Expr} {ta tb : TE} {pos : Pos}
def tB (t : TE) : TT := fun σ H Q => t σ H fun x H1 => ∃ c, x = .bl c /\ Q c H1
variable {tA tB' : TT} {rest : List Expr}
def tAnd (t u : TT) : TT := fun σ H Q => t σ H fun c H1 => if c = true then u σ H1 Q else Q false H1
def tOr (t u : TT) : TT := fun σ H Q => t σ H fun c H1 => if c = true then Q true H1 else u σ H1 Q
def tNot (t : TT) : TT := fun σ H Q => t σ H fun c H1 => Q (!c) H1
theorem pw_and1 (ha : PT X a tA) : PW X (.BoolOp .And [a] pos) tA := by
 intro wh pins s σ H Q I h
 refine isTrue_and (thn (ha pins s σ H Q I h) fun c s1 e => ?_)
 cases c with
 | true => exact isTrue_and_nil e
 | false => exact e
theorem pw_or1 (ha : PT X a tA) : PW X (.BoolOp .Or [a] pos) tA := by
 intro wh pins s σ H Q I h
 refine isTrue_or (thn (ha pins s σ H Q I h) fun c s1 e => ?_)
 cases c with
 | false => exact isTrue_or_nil e
 | true => exact e
theorem pw_and (ha : PT X a tA) (hb : PW X (.BoolOp .And (b :: rest) pos) tB') : PW X (.BoolOp .And (a :: b :: rest) pos) (tAnd tA tB') := by
 intro wh pins s σ H Q I h
 refine isTrue_and (thn (ha pins s σ H _ I h) fun c s1 ⟨H1, I1, q1⟩ => ?_)
 cases c with
 | true => exact hb wh pins s1 σ H1 Q I1 q1
 | false => exact ⟨H1, I1, q1⟩
theorem pw_or (ha : PT X a tA) (hb : PW X (.BoolOp .Or (b :: rest) pos) tB') : PW X (.BoolOp .Or (a :: b :: rest) pos) (tOr tA tB') := by
 intro wh pins s σ H Q I h
 refine isTrue_or (thn (ha pins s σ H _ I h) fun c s1 ⟨H1, I1, q1⟩ => ?_)
 cases c with
 | true => exact ⟨H1, I1, q1⟩
 | false => exact hb wh pins s1 σ H1 Q I1 q1
theorem pt_not (ha : PT X a tA) : PT X (.UnaryOp .Not a pos) (tNot tA) := by
 intro pins s σ H Q I h
 exact isTrue_not (ha pins s σ H (fun c H1 => Q (!c) H1) I h)
def tAndV (ta tb : TE) : TE := fun σ H Q => ta σ H fun x H1 => ∃ c, x = .bl c /\ if c = true then tb σ H1 Q else Q (.bl false) H1
def tNotV (ta : TE) : TE := fun σ H Q => ta σ H fun x H1 => ∃ c, x = .bl c /\ Q (.bl (!c)) H1
theorem pe_one {op} {t : TE} (h : PE X a t) : PE X (.BoolOp op [a] pos) t := fun pins s σ H Q I hw => BoolOp_one (h pins s σ H Q I hw)
theorem pe_and (ha : PE X a ta) (hb : PE X (.BoolOp .And (b :: rest) pos) tb) : PE X (.BoolOp .And (a :: b :: rest) pos) (tAndV ta tb) := by
 intro pins s σ H Q I h
 refine BoolOp_and (thn (ha pins s σ H _ I h) fun v s1 ⟨x, H1, I1, r1, q1⟩ => ?_)
 obtain ⟨c, rfl, q1⟩ := q1
 cases r1
 refine wpAny_truthy_bool ?_
 cases c with
 | true => exact hb pins s1 σ H1 Q I1 q1
 | false => exact ⟨.bl false, H1, I1, rfl, q1⟩
theorem pe_not (ha : PE X a ta) : PE X (.UnaryOp .Not a pos) (tNotV ta) := by
 intro pins s σ H Q I h
 refine UnaryOp_ (thn (ha pins s σ H _ I h) fun v s1 ⟨x, H1, I1, r1, q1⟩ => ?_)
 obtain ⟨c, rfl, q1⟩ := q1
 cases r1
 exact not_of (wpAny_truthy_bool ⟨.bl (!c), H1, I1, rfl, q1⟩)
end
end L2
namespace L2
open PySem PySem.Spec PyProof.Rows
def SqL (K : PySem.W.Frag) (H : Hp) (a : Addr) (xs : List V) : Prop :=
 Rd H a (.lst xs) \/
  ∃ (o : Obj) (its : Array Value) (n : Nat), K.lookup a = some o /\ o.cls = .type "list" /\ o.dict = none /\ o.data = .seq its n /\ its.size <= sizeLine /\ Vals xs its.toList
def SqT (K : PySem.W.Frag) (H : Hp) (a : Addr) (xs : List V) : Prop :=
 Rd H a (.tup xs) \/
  ∃ (o : Obj) (its : Array Value) (n : Nat), K.lookup a = some o /\ o.cls = .type "tuple" /\ o.data = .seq its n /\ its.size <= sizeLine /\ Vals xs its.toList
def absV : Value -> Option V
 | .none => some .non
 | .bool b => some (.bl b)
 | .int i _ => some (.int i)
 | .str x _ => some (.str x)
 | .bytes b _ => some (.byt b)
 | .float b _ => some (.flt b)
 | .ref a => some (.ref a)
 | .type n => some (.ty n)
 | _ => none
theorem RelV.abs {x : V} {u : Value} (r : RelV x u) : absV u = some x := by
 cases x with
 | non => cases r; rfl
 | bl _ => cases r; rfl
 | int _ => obtain ⟨t, rfl⟩ := r; rfl
 | str _ => obtain ⟨t, rfl⟩ := r; rfl
 | byt _ => obtain ⟨t, rfl⟩ := r; rfl
 | flt _ => obtain ⟨t, rfl⟩ := r; rfl
 | ref _ => cases r; rfl
 | ty _ => cases r; rfl
theorem RelV.inj {x y : V} {u : Value} (r : RelV x u) (q : RelV y u) : x = y := Option.some.inj (r.abs.symm.trans q.abs)
theorem Vals.inj : ∀ {xs ys : List V} {us : List Value}, Vals xs us -> Vals ys us -> xs = ys
 | _, _, _, .nil, .nil => rfl
 | _, _, _, .cons r t, .cons r' t' => by rw [r.inj r', Vals.inj t t']
section
variable {X : Cx} {pins : List (Addr × Obj)} {σ : St} {H : Hp} {s : Shared} {a : Addr} {xs ys : List V}
theorem SqL.of {K : PySem.W.Frag} (h : H a = some (.lst xs)) : SqL K H a xs := .inl (.inl h)
theorem SqT.of {K : PySem.W.Frag} (h : H a = some (.tup xs)) : SqT K H a xs := .inl (.inl h)
theorem Inv.list (I : Inv X pins σ H s) (h : SqL X.K H a xs) : ∃ its : List Value, Vals xs its /\ PlainL s.heap a its.toArray /\ xs.length <= sizeLine := by
 rcases h with h | ⟨o, its, n, hk, hc, hd, hs, hz, r⟩
 ·obtain ⟨z, its, n, r, e⟩ := h.ok I.hok
  exact ⟨its, r, ⟨_, n, e, rfl, rfl, rfl⟩, z⟩
 ·refine ⟨its.toList, r, ⟨o, n, I.kIn a o hk, hc, hd, by simpa using hs⟩, ?_⟩
  have e := r.length
  simp only [Array.length_toList] at e
  omega
theorem Inv.tuple (I : Inv X pins σ H s) (h : SqT X.K H a xs) : ∃ its : List Value, Vals xs its /\ IsTup s.heap a its.toArray /\ xs.length <= sizeLine := by
 rcases h with h | ⟨o, its, n, hk, hc, hs, hz, r⟩
 ·obtain ⟨z, its, r, p, _⟩ := h.ok I.hok
  exact ⟨its, r, p, z⟩
 ·refine ⟨its.toList, r, ⟨o, I.kIn a o hk, hc, n, by simpa using hs⟩, ?_⟩
  have e := r.length
  simp only [Array.length_toList] at e
  omega
theorem Inv.list_inj (I : Inv X pins σ H s) (h : SqL X.K H a xs) (h' : SqL X.K H a ys) : xs = ys := by
 obtain ⟨its, r, ⟨o, n, e, _, _, d⟩, _⟩ := I.list h
 obtain ⟨its', r', ⟨o', n', e', _, _, d'⟩, _⟩ := I.list h'
 rw [e] at e'; cases e'
 rw [d] at d'
 injection d' with d1 _
 have : its = its' := by simpa using congrArg Array.toList d1
 subst this
 exact r.inj r'
theorem Inv.tuple_inj (I : Inv X pins σ H s) (h : SqT X.K H a xs) (h' : SqT X.K H a ys) : xs = ys := by
 obtain ⟨its, r, ⟨o, e, _, n, d⟩, _⟩ := I.tuple h
 obtain ⟨its', r', ⟨o', e', _, n', d'⟩, _⟩ := I.tuple h'
 rw [e] at e'; cases e'
 rw [d] at d'
 injection d' with d1 _
 have : its = its' := by simpa using congrArg Array.toList d1
 subst this
 exact r.inj r'
end
abbrev Cx.wish (X : Cx) (E : Value -> Shared -> Prop) : Cx := { X with xe := E }
abbrev Cx.nox (X : Cx) : Cx := X.wish fun _ _ => False
theorem Cx.Ok.wish {X : Cx} (ok : X.Ok) (E : Value -> Shared -> Prop) : (X.wish E).Ok :=
 ⟨ok.mod, ok.kind, ok.glob, ok.blt, ok.above, ok.inj, ok.has, ok.cab, ok.hd, ok.frames, ok.stk, ok.exf, ok.bs, ok.bsz, ok.noex, ok.exfs, ok.funs, ok.frf⟩
theorem Cx.Ok.unwish {X : Cx} {E : Value -> Shared -> Prop} (ok : (X.wish E).Ok) : X.Ok :=
 ⟨ok.mod, ok.kind, ok.glob, ok.blt, ok.above, ok.inj, ok.has, ok.cab, ok.hd, ok.frames, ok.stk, ok.exf, ok.bs, ok.bsz, ok.noex, ok.exfs, ok.funs, ok.frf⟩
section
variable {X : Cx} {pins : List (Addr × Obj)} {σ : St} {H : Hp} {s : Shared} {E : Value -> Shared -> Prop}
theorem Inv.wish (I : Inv X pins σ H s) (E : Value -> Shared -> Prop) : Inv (X.wish E) pins σ H s := ⟨I.ok.wish E, I.os, I.bare, I.base, I.loc, I.cell, I.free, I.freeC, I.pin, I.hok, I.len⟩
theorem Inv.unwish (I : Inv (X.wish E) pins σ H s) : Inv X pins σ H s := ⟨I.ok.unwish, I.os, I.bare, I.base, I.loc, I.cell, I.free, I.freeC, I.pin, I.hok, I.len⟩
theorem SP.unwish {D : Ends} {f : Flow} {s' : Shared} (h : SP (X.wish E) pins D f s') : SP X pins D f s' := by
 cases f with
 | next => obtain ⟨σ', H', I, q⟩ := h; exact ⟨σ', H', I.unwish, q⟩
 | brk => obtain ⟨σ', H', I, q⟩ := h; exact ⟨σ', H', I.unwish, q⟩
 | cont => obtain ⟨σ', H', I, q⟩ := h; exact ⟨σ', H', I.unwish, q⟩
 | ret u => obtain ⟨v, σ', H', I, r, q⟩ := h; exact ⟨v, σ', H', I.unwish, r, q⟩
theorem PSs.nox {st : List Stmt} {t : TS} (h : PSs X.nox st t) : PSs X st t := fun pins s σ H D I hw =>
 wpAny_mono (h pins s σ H D (I.wish _) hw) (fun _ _ q => q.unwish) fun _ _ z => False.elim z
end
section
variable {X : Cx} {st : Stmt} {rest : List Stmt} {t u : TS} {e : Expr} {te : TE} {pos : Pos}
def tNext : TS := fun D σ H => D.nx σ H
def tSeq (t u : TS) : TS := fun D σ H => t { D with nx := u D } σ H
theorem pss_nil : PSs X [] tNext := fun _ _ σ H _ I h => wpAny_execs_nil ⟨σ, H, I, h⟩
theorem pss_cons (h1 : PS X st t) (h2 : PSs X rest u) : PSs X (st :: rest) (tSeq t u) := by
 intro pins s σ H D I h
 refine wpAny_execs_cons (thn (h1 pins s σ H { D with nx := u D } I h) fun f s1 q => ?_)
 cases f with
 | next =>
  obtain ⟨σ', H', I', q⟩ := q
  exact h2 pins s1 σ' H' D I' q
 | ret v => exact q
 | brk => exact q
 | cont => exact q
theorem pss_one (h1 : PS X st t) : PSs X [st] t := by
 intro pins s σ H D I h
 refine wpAny_execs_cons (thn (h1 pins s σ H D I h) fun f s1 q => ?_)
 cases f with
 | next => exact wpAny_execs_nil q
 | ret v => exact q
 | brk => exact q
 | cont => exact q
theorem Inv.quiet {pins : List (Addr × Obj)} {σ : St} {H : Hp} {s : Shared} (I : Inv X pins σ H s) : interactive X.env = false := by simp [interactive, I.ok.kind]
def tDrop (te : TE) : TS := fun D σ H => te σ H fun _ H1 => D.nx σ H1
theorem ps_expr (he : PE X e te) (hs : swapsWith e none pos.line X.env = pure false := by rfl) : PS X (.Expr e pos) (tDrop te) := by
 intro pins s σ H D I h
 exact wpAny_Expr_any (thn (he pins s σ H _ I h) fun v s1 ⟨x, H1, I1, r1, q1⟩ => ⟨σ, H1, I1, q1⟩) I.quiet hs
def tRet (te : TE) : TS := fun D σ H => te σ H D.rt
theorem ps_ret (he : PE X e te) : PS X (.Return (some e) pos) (tRet te) := by
 intro pins s σ H D I h
 exact wpAny_Return_some (thn (he pins s σ H _ I h) fun v s1 ⟨x, H1, I1, r1, q1⟩ => ⟨x, σ, H1, I1, r1, q1⟩)
def tIfS (c : TT) (t u : TS) : TS := fun D σ H => c σ H fun b H1 => if b = true then t D σ H1 else u D σ H1
theorem ps_if {c : Expr} {a b : List Stmt} {tc : TT} (hc : PT X c tc) (ha : PSs X a t) (hb : PSs X b u) : PS X (.If c a b pos) (tIfS tc t u) := by
 intro pins s σ H D I h
 refine wpAny_If (thn (hc pins s σ H _ I h) fun d s1 ⟨H1, I1, q1⟩ => ?_)
 cases d with
 | true => exact ha pins s1 σ H1 D I1 q1
 | false => exact hb pins s1 σ H1 D I1 q1
def tNever : TS := fun _ _ _ => False
theorem ps_never : PS X st tNever := fun _ _ _ _ _ _ h => h.elim
end
abbrev TG := V -> St -> Hp -> (St -> Hp -> Prop) -> Prop
abbrev TGs := List V -> St -> Hp -> (St -> Hp -> Prop) -> Prop
def PG (X : Cx) (target : Expr) (t : TG) : Prop :=
 ∀ (pins : List (Addr × Obj)) (s : Shared) (σ : St) (H : Hp) (v : V) (u : Value) (Q : St -> Hp -> Prop), Inv X pins σ H s -> RelV v u -> t v σ H Q ->
  wpAny (model X.prog X.w) X.A (assign target X.env u) (fun _ s' => ∃ σ' H', Inv X pins σ' H' s' /\ Q σ' H') X.xe s
def PGs (X : Cx) (ts : List Expr) (t : TGs) : Prop :=
 ∀ (pins : List (Addr × Obj)) (s : Shared) (σ : St) (H : Hp) (vs : List V) (us : List Value) (Q : St -> Hp -> Prop), Inv X pins σ H s -> Vals vs us -> t vs σ H Q ->
  wpAny (model X.prog X.w) X.A (assignInOrder ((assignEach ts X.env).map (·.2)) us) (fun _ s' => ∃ σ' H', Inv X pins σ' H' s' /\ Q σ' H') X.xe s
abbrev TSet := V -> V -> V -> Hp -> (Hp -> Prop) -> Prop
def PSet (X : Cx) (t : TSet) : Prop :=
 ∀ (pins : List (Addr × Obj)) (s : Shared) (σ : St) (H : Hp) (o i v : V) (ov iv u : Value) (Q : Hp -> Prop), Inv X pins σ H s -> RelV o ov -> RelV i iv -> RelV v u -> t o i v H Q ->
  wpAny (model X.prog X.w) X.A (setItem ov iv u) (fun _ s' => ∃ H', Inv X pins σ H' s' /\ Q H') X.xe s
abbrev TIp := V -> V -> Hp -> VK -> Prop
def PIp (X : Cx) (op : Operator) (t : TIp) : Prop :=
 ∀ (pins : List (Addr × Obj)) (s : Shared) (σ : St) (H : Hp) (x y : V) (v u : Value) (Q : VK), Inv X pins σ H s -> RelV x v -> RelV y u -> t x y H Q ->
  wpAny (model X.prog X.w) X.A (inplaceOp op v u) (EP X pins σ Q) X.xe s
section
variable {X : Cx} {pos : Pos}
def gName (i : Nat) : TG := fun v σ H Q => Q (σ.set i (some v)) H
theorem pg_name {i : Nat} {x : Str} (hN : X.N.Nodup) (hi : X.N[i]? = some x) (hx : Loc X.env.scope x) (hf : X.fn x = true \/ X.env.scope.names.lookup x = some .local := by first | exact .inl rfl | exact .inr rfl | assumption) : PG X (.Name x pos) (gName i) := by
 intro pins s σ H v u Q I r h
 exact wpAny_assign_Name (store_ok I hN hi hx r (fun s' I' => ⟨_, H, I', h⟩) hf)
def gNil : TGs := fun vs σ H Q => vs = [] /\ Q σ H
def gCons (t : TG) (u : TGs) : TGs := fun vs σ H Q => ∃ v r, vs = v :: r /\ t v σ H fun σ' H' => u r σ' H' Q
theorem pgs_nil : PGs X [] gNil := by
 intro pins s σ H vs us Q I r h
 obtain ⟨e, h⟩ := h
 subst e
 cases r
 exact assignInOrder_nil ⟨σ, H, I, h⟩
theorem pgs_cons {e : Expr} {es : List Expr} {t : TG} {u : TGs} (h1 : PG X e t) (h2 : PGs X es u)
  (hs : (assignEach (e :: es) X.env).map (·.2) = assign e X.env :: (assignEach es X.env).map (·.2) := by rfl) : PGs X (e :: es) (gCons t u) := by
 intro pins s σ H vs us Q I r h
 obtain ⟨v, vr, e1, h⟩ := h
 subst e1
 cases r with
 | cons r rr =>
  rw [hs]
  refine assignInOrder_cons (thn (h1 pins s σ H _ _ _ I r h) fun _ s1 ⟨σ1, H1, I1, q1⟩ => ?_)
  exact h2 pins s1 σ1 H1 _ _ Q I1 rr q1
def gTup (K : PySem.W.Frag) (n : Nat) (t : TGs) : TG := fun v σ H Q => ∃ a xs, v = .ref a /\ SqT K H a xs /\ xs.length = n /\ t xs σ H Q
theorem pg_tup {es : List Expr} {k : Nat} {t : TGs} {n : Nat} (hc : X.calm = true) (h : PGs X es t)
  (hn : (assignEach es X.env).length = n := by rfl) (hst : (assignEach es X.env).findIdx? (·.1) = none := by rfl) : PG X (.Tuple es k pos) (gTup X.K n t) := by
 intro pins s σ H v u Q I r hw
 obtain ⟨a, xs, e1, hq, hl, hw⟩ := hw
 subst e1
 cases r
 obtain ⟨its, rv, ht, hz⟩ := I.tuple hq
 refine assign_Tuple_tuple (I.ok.hd hc) ht (by simp [hn, <- hl, rv.length]) hst fun h' hx => ?_
 have I1 : Inv X pins σ H { s with heap := h' } := I.kept (t' := s.toks) fun b o e => hx b o (Nat.ne_of_lt (Heap.lt_size e)) e
 exact h pins _ σ H xs _ Q I1 (by simpa using rv) hw
def gSub (to ti : TE) (t : TSet) : TG := fun v σ H Q => to σ H fun o H1 => ti σ H1 fun i H2 => t o i v H2 fun H3 => Q σ H3
theorem pg_sub {o i : Expr} {to ti : TE} {t : TSet} (ho : PE X o to) (hi : PE X i ti) (hs : PSet X t)
  (ha : ∀ v, assign (.Subscript o i pos) X.env v = (do
   let ov <- holding [v] (eval o X.env)
   let iv <- holding [v, ov] (eval i X.env)
   standAt pos
   holding [v, ov, iv] (setItem ov iv v)
   release [v, ov, iv] []) := by intro _; rfl) : PG X (.Subscript o i pos) (gSub to ti t) := by
 intro pins s σ H v u Q I r h
 rw [ha]
 refine wpAny_bind (wpAny_holding (thn (ho pins s σ H _ I h) fun ov s1 ⟨x, H1, I1, r1, q1⟩ => ?_))
 refine wpAny_bind (wpAny_holding (thn (hi pins s1 σ H1 _ I1 q1) fun iv s2 ⟨y, H2, I2, r2, q2⟩ => ?_))
 refine wpAny_bind (wpAny_standAt (wpAny_bind (wpAny_holding (thn (hs pins s2 σ H2 x y v ov iv u _ I2 r1 r2 r q2) fun _ s3 ⟨H3, I3, q3⟩ => ?_))))
 exact wpAny_release ⟨σ, H3, I3, q3⟩
def tAsg (te : TE) (g : TG) : TS := fun D σ H => te σ H fun x H1 => g x σ H1 D.nx
theorem ps_asg {tg e : Expr} {te : TE} {g : TG} (he : PE X e te) (hg : PG X tg g) (hs : swapsWithSole [tg] e pos.line X.env = pure false := by rfl) (hw : swappedStores [tg] e X.env = pure none := by rfl)
  (h1 : (assignEach [tg] X.env).map (·.2) = [assign tg X.env] := by rfl) : PS X (.Assign [tg] e pos) (tAsg te g) := by
 intro pins s σ H D I h
 refine wpAny_Assign_stores (thn (he pins s σ H _ I h) fun v s1 ⟨x, H1, I1, r1, q1⟩ => ?_) hs hw
 rw [h1]
 exact thn (hg pins s1 σ H1 x v _ I1 r1 q1) fun _ s2 q => q
theorem ps_set {i : Nat} {x : Str} {e : Expr} {te : TE} {pos' : Pos} (hN : X.N.Nodup) (hi : X.N[i]? = some x) (hx : Loc X.env.scope x) (he : PE X e te) (hs : swapsWith e (some (.Name x pos')) pos.line X.env = pure false := by rfl) (hf : X.fn x = true \/ X.env.scope.names.lookup x = some .local := by first | exact .inl rfl | exact .inr rfl | assumption) :
  PS X (.Assign [.Name x pos'] e pos) (tAsg te (gName i)) := by
 intro pins s σ H D I h
 refine wpAny_Assign_Name (thn (he pins s σ H _ I h) fun v s1 ⟨y, H1, I1, r1, q1⟩ => ?_) hs
 exact store_ok I1 hN hi hx r1 (fun s2 I2 => ⟨_, H1, I2, q1⟩) hf
def tPar (i j : Nat) (ta : TA) : TS := fun D σ H => ta σ H fun vs H1 => ∃ v w, vs = [v, w] /\ D.nx ((σ.set i (some v)).set j (some w)) H1
theorem ps_par {i j : Nat} {x y : Str} {a b : Expr} {ta : TA} {px py pt : Pos} {kt k2 pt2} (hc : X.calm = true) (hN : X.N.Nodup) (hi : X.N[i]? = some x) (hj : X.N[j]? = some y) (hij : i ≠ j)
  (hx : X.env.scope.names.lookup x = some .local) (hy : X.env.scope.names.lookup y = some .local) (ha : PA X [a, b] ta)
  (hw : swappedStores [.Tuple [.Name x px, .Name y py] kt pt] (.Tuple [a, b] k2 pt2) X.env = pure (some [x, y]))
  (hs : swapsWithSole [.Tuple [.Name x px, .Name y py] kt pt] (.Tuple [a, b] k2 pt2) pos.line X.env = pure false := by rfl) :
  PS X (.Assign [.Tuple [.Name x px, .Name y py] kt pt] (.Tuple [a, b] k2 pt2) pos) (tPar i j ta) := by
 intro pins s σ H D I h
 rw [exec_Assign_arm]
 refine wpAny_bind (wpAny_standAt ?_)
 rw [hs]
 refine wpAny_bind (wpAny_pure ?_)
 rw [if_neg (by decide)]
 refine wpAny_bind (Tuple_ (thn (ha _ pins s σ H _ I h) fun us s1 ⟨vs, H1, I1, r1, q1⟩ => ?_))
 obtain ⟨v, w, e1, q1⟩ := q1
 subst e1
 obtain ⟨u1, u2, rfl, rv, rw'⟩ : ∃ u1 u2, us = [u1, u2] /\ RelV v u1 /\ RelV w u2 := by
  cases r1 with
  | cons p q =>
   cases q with
   | cons p' q' =>
    cases q'
    exact ⟨_, _, rfl, p, p'⟩
 refine wpAny_newObj_type ?_ (by show 2 <= sizeLine; decide)
 have I2 : Inv X pins σ H1 { s1 with heap := s1.heap.push { cls := .type "tuple", data := .seq [u1, u2].toArray } } := I1.kept (t' := s1.toks) fun b o e => Heap.get?_push_of_some _ e
 rw [hw]
 refine wpAny_bind (wpAny_pure ?_)
 show wpAny (model X.prog X.w) X.A (do rule "assign.swapped-stores"; let items <- unpackItems (.ref s1.heap.objs.size) 2 none; assignInOrder [fun v => bindName X.env y v, fun v => bindName X.env x v] items.reverse; pure Flow.next) _ _ _
 refine wpAny_bind (wpAny_rule (wpAny_bind (unpackItems_tuple (items := #[u1, u2]) (I.ok.hd hc) (IsTup.new s1.heap _) fun h' hx' => ?_)))
 have I3 := I2.kept (h' := h') (t' := s1.toks) fun b o e => hx' b o (Nat.ne_of_lt (Heap.lt_size e)) e
 show wpAny _ _ (assignInOrder [fun v => bindName X.env y v, fun v => bindName X.env x v] [u2, u1] >>= fun _ => pure Flow.next) _ _ _
 refine wpAny_bind (assignInOrder_cons (wpAny_bindName (store_ok I3 hN hj (.inl hy) rw' (fun s2 I4 => ?_) (.inr hy))))
 refine assignInOrder_cons (wpAny_bindName (store_ok I4 hN hi (.inl hx) rv (fun s3 I5 => assignInOrder_nil (wpAny_pure ?_)) (.inr hx)))
 rw [List.set_comm _ _ (Ne.symm hij)] at I5
 exact ⟨_, H1, I5, q1⟩
def tAugS (to ti te : TE) (tget : V -> V -> Hp -> VK -> Prop) (tip : TIp) (tset : TSet) : TS := fun D σ H => to σ H fun o H1 => ti σ H1 fun i H2 => tget o i H2 fun x H3 => te σ H3 fun y H4 => tip x y H4 fun z H5 => tset o i z H5 fun H6 => D.nx σ H6
def PGet (X : Cx) (t : V -> V -> Hp -> VK -> Prop) : Prop :=
 ∀ (pins : List (Addr × Obj)) (s : Shared) (σ : St) (H : Hp) (o i : V) (ov iv : Value) (Q : VK), Inv X pins σ H s -> RelV o ov -> RelV i iv -> t o i H Q ->
  wpAny (model X.prog X.w) X.A (getItem ov iv) (EP X pins σ Q) X.xe s
theorem ps_augS {o i e : Expr} {to ti te : TE} {tget : V -> V -> Hp -> VK -> Prop} {tip : TIp} {tset : TSet} {op : Operator} {tpos : Pos} (ho : PE X o to) (hi : PE X i ti) (hg : PGet X tget) (he : PE X e te) (hp : PIp X op tip) (hs : PSet X tset)
  (ha : ∀ ov iv new, augStore i ov iv new = (do holding [new, ov, iv] (setItem ov iv new); release [new, ov, iv] []; pure .next) := by intros; rfl) : PS X (.AugAssign (.Subscript o i tpos) op e pos) (tAugS to ti te tget tip tset) := by
 intro pins s σ H D I h
 refine wpAny_AugAssign_SubscriptAny (thn (ho pins s σ H _ I h) fun ov s1 ⟨x1, H1, I1, r1, q1⟩ => ?_) ha
 refine thn (hi pins s1 σ H1 _ I1 q1) fun iv s2 ⟨x2, H2, I2, r2, q2⟩ => ?_
 refine thn (hg pins s2 σ H2 x1 x2 ov iv _ I2 r1 r2 q2) fun old s3 ⟨x3, H3, I3, r3, q3⟩ => ?_
 refine thn (he pins s3 σ H3 _ I3 q3) fun v s4 ⟨x4, H4, I4, r4, q4⟩ => ?_
 refine thn (hp pins s4 σ H4 x3 x4 old v _ I4 r3 r4 q4) fun new s5 ⟨x5, H5, I5, r5, q5⟩ => ?_
 exact thn (hs pins s5 σ H5 x1 x2 x5 ov iv new _ I5 r1 r2 r5 q5) fun _ s6 ⟨H6, I6, q6⟩ => ⟨σ, H6, I6, q6⟩
def ipI (f : Int -> Int -> Int) : TIp := fun x y H Q => ∃ i j, x = .int i /\ y = .int j /\ Q (.int (f i j)) H
theorem ip_add : PIp X .Add (ipI fun i j => i + j) := by
 intro pins s σ H x y v u Q I r1 r2 h
 obtain ⟨i, j, e1, e2, q⟩ := h
 subst e1; subst e2
 obtain ⟨t, rfl⟩ := r1
 obtain ⟨t', rfl⟩ := r2
 exact iadd_int ⟨.int _, H, I.tok _, ⟨_, rfl⟩, q⟩
end
section
variable {X : Cx} {pos : Pos}
def tWhile (c : TT) (tb : TS) : TS := fun D σ H => ∃ W : Nat -> St -> Hp -> Prop, (∃ m, W m σ H) /\ ∀ m σ H, W m σ H ->
 c σ H fun b H1 => if b = true then ∃ N : St -> Hp -> Prop, (∀ σ' H', N σ' H' -> ∃ m', m' < m /\ W m' σ' H') /\ tb { D with nx := N, ct := N, bk := D.nx } σ H1 else D.nx σ H1
theorem ps_while {c : Expr} {body : List Stmt} {tc : TT} {tb : TS} (hp : PassesOwn (model X.prog X.w) X.A X.env X.xe) (hc : PT X c tc) (hb : PSs X body tb) : PS X (.While c body [] pos) (tWhile tc tb) := by
 intro pins s σ H D I h
 obtain ⟨W, ⟨m0, w0⟩, turn⟩ := h
 refine wpAny_While (codeAny_whileLoop (fun n s' => ∃ σ' H', Inv X pins σ' H' s' /\ W n σ' H') ?_ m0 ⟨σ, H, I, w0⟩)
 rintro n s1 ⟨σ1, H1, I1, w1⟩
 refine wpAny_passesOwn hp (thn (hc pins s1 σ1 H1 _ I1 (turn n σ1 H1 w1)) fun b s2 ⟨H2, I2, q2⟩ => ?_)
 cases b with
 | true =>
  obtain ⟨N, hN, q2⟩ := q2
  rw [if_pos rfl]
  refine wpAny_passesOwn hp (thn (hb pins s2 σ1 H2 _ I2 q2) fun f s3 q3 => ?_)
  cases f with
  | next =>
   obtain ⟨σ3, H3, I3, n3⟩ := q3
   obtain ⟨m', hm, w3⟩ := hN σ3 H3 n3
   exact ⟨m', hm, σ3, H3, I3, w3⟩
  | cont =>
   obtain ⟨σ3, H3, I3, n3⟩ := q3
   obtain ⟨m', hm, w3⟩ := hN σ3 H3 n3
   exact ⟨m', hm, σ3, H3, I3, w3⟩
  | brk => exact q3
  | ret v => exact q3
 | false =>
  rw [if_neg Bool.false_ne_true]
  exact wpAny_execs_nil ⟨σ1, H2, I2, q2⟩
end
structure It where
 go : Nat -> Hp -> Prop
 yld : Nat -> Hp -> V -> Hp -> Prop
 stop : Nat -> Hp -> Prop
def FpOk (X : Cx) (pins : List (Addr × Obj)) (H : Hp) (b : Addr) : Prop :=
 H b = none /\ b ≠ X.env.locals /\ b ∉ X.fs /\ (b ∈ X.ex \/ X.s₀.heap.objs.size <= b) /\ (∀ x c, X.env.cells.lookup x = some c -> c ≠ b) /\ ∀ p ∈ X.pn ++ pins, p.1 ≠ b
theorem Inv.fpOk {X : Cx} {pins : List (Addr × Obj)} {σ : St} {H H' : Hp} {s : Shared} {b : Addr} (I : Inv X pins σ H s) (hb : s.heap.objs.size <= b) (hn : H' b = none) : FpOk X pins H' b := by
 refine ⟨hn, Nat.ne_of_gt (Nat.lt_of_lt_of_le I.lt hb), I.nofs hb, .inr (Nat.le_trans I.sz hb), fun x c e z => ?_, fun p hp z => ?_⟩
 ·obtain ⟨v, q⟩ := I.cell x c e
  exact absurd (Nat.lt_of_lt_of_le q.lt (by rw [z]; exact hb)) (Nat.lt_irrefl _)
 ·exact absurd (Nat.lt_of_lt_of_le (Heap.lt_size (I.pin p hp).1) (by rw [z]; exact hb)) (Nat.lt_irrefl _)
structure Turn (P : Program) (w : World) (K : PySem.W.Frag) (tg : Expr) (J : It) (fp : List Addr) (it : Addr) (tn : Nat -> Heap -> Prop) : Prop where
 mem : it ∈ fp
 obj : ∀ i h, tn i h -> ∀ b ∈ fp, ∃ o, h.get? b = some o /\ ∀ v, o.data ≠ .cell v
 keep : ∀ i h h', tn i h -> (∀ b ∈ fp, ∀ o, h.get? b = some o -> h'.get? b = some o) -> tn i h'
 item : ∀ (X : Cx), X.prog = P -> X.w = w -> X.K = K -> X.calm = true -> ∀ (i : Nat) (pins : List (Addr × Obj)) (s : Shared) (σ : St) (H : Hp) (E : Value -> Shared -> Prop), Inv X pins σ H s -> (∀ b ∈ fp, FpOk X pins H b) -> tn i s.heap -> J.go i H ->
  wpAny (model P w) X.A (pyNext (.ref it)) (fun r s1 => ∃ u, r = some u /\
   wpAny (model P w) X.A (letOwnedTupleGo tg (.ref it) u) (fun _ s2 => ∃ x H', Inv X pins σ H' s2 /\ RelV x u /\ J.yld i H x H' /\ tn (i + 1) s2.heap /\ ∀ b ∈ fp, H' b = none) E s1) E s
 done : ∀ (X : Cx), X.prog = P -> X.w = w -> X.K = K -> X.calm = true -> ∀ (i : Nat) (pins : List (Addr × Obj)) (s : Shared) (σ : St) (H : Hp) (E : Value -> Shared -> Prop), Inv X pins σ H s -> (∀ b ∈ fp, FpOk X pins H b) -> tn i s.heap -> J.stop i H ->
  wpAny (model P w) X.A (pyNext (.ref it)) (fun r s1 => r = none /\ Inv X pins σ H s1) E s
 self : ∀ (A : Around) (i : Nat) (s : Shared) (Q : Value -> Shared -> Prop) (E : Value -> Shared -> Prop), tn i s.heap -> Q (.ref it) s -> wpAny (model P w) A (pyIter (.ref it)) Q E s
abbrev TI := St -> Hp -> (It -> Hp -> Prop) -> Prop
def PIE (X : Cx) (pins : List (Addr × Obj)) (σ : St) (tg : Expr) (R : It -> Hp -> Prop) (itv : Value) (s2 : Shared) : Prop :=
 ∃ (it : Addr) (fp : List Addr) (tn : Nat -> Heap -> Prop) (J : It) (H' : Hp), itv = .ref it /\ Inv X pins σ H' s2 /\ Turn X.prog X.w X.K tg J fp it tn /\ tn 0 s2.heap /\ (∀ b ∈ fp, FpOk X pins H' b) /\ R J H'
def PI (X : Cx) (tg iter : Expr) (wi : TI) : Prop :=
 ∀ (pins : List (Addr × Obj)) (s : Shared) (σ : St) (H : Hp) (R : It -> Hp -> Prop), Inv X pins σ H s -> wi σ H R ->
  wpAny (model X.prog X.w) X.A (eval iter X.env) (fun v s1 => wpAny (model X.prog X.w) X.A (pyIter v) (PIE X pins σ tg R) X.xe s1) X.xe s
theorem go_of {M : Model} {A : Around} {E : Value -> Shared -> Prop} {s : Shared} {tg : Expr} {it : Addr} {u : Value} {o : Obj} {n : String} {vs : Array Value} {Q : Unit -> Shared -> Prop} (ho : s.heap.get? it = some o) (hc : o.cls = .type n) (hd : o.data = .fields vs)
  (hn : ["enumerate", "zip", "dict_itemiterator", "dict_reverseitemiterator", "odict_iterator", "itertools.zip_longest", "itertools.pairwise"].contains n = false) (hQ : Q () s) : wpAny M A (letOwnedTupleGo tg (.ref it) u) Q E s := by
 unfold letOwnedTupleGo
 cases tg <;> first
  | exact wpAny_pure hQ
  | (cases u <;> first
    | exact wpAny_pure hQ
    | (refine wpAny_bind (wpAny_load ho ?_); rw [hc, hd]; show wpAny M A (if (["enumerate", "zip", "dict_itemiterator", "dict_reverseitemiterator", "odict_iterator", "itertools.zip_longest", "itertools.pairwise"].contains n && vs[0]? == some (rawInt _)) = true then _ else _) Q E s; rw [if_neg (by intro h; rw [hn, Bool.false_and] at h; cases h)]; exact wpAny_pure hQ))
def Itl (K : PySem.W.Frag) (a : Addr) : It :=
 ⟨fun i H => ∃ xs x, SqL K H a xs /\ xs[i]? = some x, fun i H x H' => H' = H /\ ∀ xs, SqL K H a xs -> xs[i]? = some x, fun i H => ∃ xs, SqL K H a xs /\ xs.length <= i⟩
def Itt (K : PySem.W.Frag) (a : Addr) : It :=
 ⟨fun i H => ∃ xs x, SqT K H a xs /\ xs[i]? = some x, fun i H x H' => H' = H /\ ∀ xs, SqT K H a xs -> xs[i]? = some x, fun i H => ∃ xs, SqT K H a xs /\ xs.length <= i⟩
def Itr (lo : Int) (n : Nat) : It := ⟨fun i _ => i < n, fun i H x H' => H' = H /\ x = .int (lo + i), fun i _ => n <= i⟩
theorem turn_list {P : Program} {w : World} {K : PySem.W.Frag} {tg : Expr} (a it : Addr) : Turn P w K tg (Itl K a) [it] it (fun i h => h.IsListIter it a i) where
 mem := by simp
 obj := fun i h st b hb => by
  have e : b = it := by simpa using hb
  subst e
  obtain ⟨o, e, c, d⟩ := st
  exact ⟨o, e, fun v z => by rw [d] at z; cases z⟩
 keep := fun i h h' st k => st.at fun o e => k it (by simp) o e
 item := by
  intro X hP hw hK hc i pins s σ H E I hf st hg
  subst hP hw hK
  obtain ⟨xs, x, hq, hx⟩ := hg
  obtain ⟨its, rv, p, hz⟩ := I.list hq
  obtain ⟨u, hu, ru⟩ := rv.get hx
  obtain ⟨f0, f1, f2, f3, f4, f5⟩ := hf it (by simp)
  refine wpAny_pyNext_list_item st p.isList (x := u) (by simpa using hu) fun h' st' sb => ?_
  have I1 : Inv X pins σ H { s with heap := h' } := I.turned (t' := s.toks) (fun b o hb e => (sb.2 b hb).trans e) f0 f1 f3 f4 f5
  obtain ⟨o, e, c, d⟩ := id st'
  exact ⟨u, rfl, go_of (s := { s with heap := h' }) e c d (by decide) ⟨x, H, I1, ru, ⟨rfl, fun ys hy => by rw [I.list_inj hy hq]; exact hx⟩, st', fun b hb => (hf b hb).1⟩⟩
 done := by
  intro X hP hw hK hc i pins s σ H E I hf st hg
  subst hP hw hK
  obtain ⟨xs, hq, hx⟩ := hg
  obtain ⟨its, rv, p, hz⟩ := I.list hq
  obtain ⟨f0, f1, f2, f3, f4, f5⟩ := hf it (by simp)
  have hl := rv.length
  exact wpAny_pyNext_list_end (I.ok.hd hc) st p.isList (by simp; omega) fun h' eb => ⟨rfl, I.turned (t' := s.toks) (fun b o hb e => eb b o hb e) f0 f1 f3 f4 f5⟩
 self := fun _ _ _ _ _ st h => wpAny_pyIter_listiter st h
theorem turn_tuple {P : Program} {w : World} {K : PySem.W.Frag} {tg : Expr} (a it : Addr) : Turn P w K tg (Itt K a) [it] it (fun i h => h.IsTupleIter it a i) where
 mem := by simp
 obj := fun i h st b hb => by
  have e : b = it := by simpa using hb
  subst e
  obtain ⟨o, e, c, d⟩ := st
  exact ⟨o, e, fun v z => by rw [d] at z; cases z⟩
 keep := fun i h h' st k => st.at fun o e => k it (by simp) o e
 item := by
  intro X hP hw hK hc i pins s σ H E I hf st hg
  subst hP hw hK
  obtain ⟨xs, x, hq, hx⟩ := hg
  obtain ⟨its, rv, p, hz⟩ := I.tuple hq
  obtain ⟨u, hu, ru⟩ := rv.get hx
  obtain ⟨f0, f1, f2, f3, f4, f5⟩ := hf it (by simp)
  refine wpAny_pyNext_tuple_item st (show s.heap.IsTuple a its.toArray from p) (x := u) (by simpa using hu) fun h' st' sb => ?_
  have I1 : Inv X pins σ H { s with heap := h' } := I.turned (t' := s.toks) (fun b o hb e => (sb.2 b hb).trans e) f0 f1 f3 f4 f5
  obtain ⟨o, e, c, d⟩ := id st'
  exact ⟨u, rfl, go_of (s := { s with heap := h' }) e c d (by decide) ⟨x, H, I1, ru, ⟨rfl, fun ys hy => by rw [I.tuple_inj hy hq]; exact hx⟩, st', fun b hb => (hf b hb).1⟩⟩
 done := by
  intro X hP hw hK hc i pins s σ H E I hf st hg
  subst hP hw hK
  obtain ⟨xs, hq, hx⟩ := hg
  obtain ⟨its, rv, p, hz⟩ := I.tuple hq
  obtain ⟨f0, f1, f2, f3, f4, f5⟩ := hf it (by simp)
  have hl := rv.length
  exact wpAny_pyNext_tuple_end (I.ok.hd hc) st (show s.heap.IsTuple a its.toArray from p) (by simp; omega) fun h' eb => ⟨rfl, I.turned (t' := s.toks) (fun b o hb e => eb b o hb e) f0 f1 f3 f4 f5⟩
 self := fun _ _ _ _ _ st h => wpAny_pyIter_tupleiter st h
theorem turn_range {P : Program} {w : World} {K : PySem.W.Frag} {tg : Expr} (it : Addr) (lo : Int) (n : Nat) : Turn P w K tg (Itr lo n) [it] it (fun i h => IsRangeIter h it (lo + (i : Nat) * 1) ((n : Int) - (i : Nat)) 1) where
 mem := by simp
 obj := fun i h st b hb => by
  have e : b = it := by simpa using hb
  subst e
  exact ⟨_, st, fun v z => by
   have z' : Data.fields _ = Data.cell v := z
   cases z'⟩
 keep := fun i h h' st k => k it (by simp) _ st
 item := by
  intro X hP hw hK hc i pins s σ H E I hf st hg
  subst hP hw hK
  obtain ⟨f0, f1, f2, f3, f4, f5⟩ := hf it (by simp)
  have W := Walks.range (prog := X.prog) (w := X.w) (I.ok.hd hc) it lo 1 n
  refine W.item i s _ _ hg st fun v h' tk hv st' kk => ?_
  obtain ⟨t, rfl⟩ := hv
  have I1 : Inv X pins σ H { s with heap := h', toks := tk } := I.turned (fun b o hb e => kk b o (by simpa using hb) e) f0 f1 f3 f4 f5
  refine ⟨_, rfl, go_of (s := { s with heap := h', toks := tk }) (n := "range_iterator") st' rfl rfl (by decide) ⟨.int (lo + i), H, I1, ⟨t, ?_⟩, ⟨rfl, rfl⟩, st', fun b hb => (hf b hb).1⟩⟩
  rw [Int.mul_one]
 done := by
  intro X hP hw hK hc i pins s σ H E I hf st hg
  subst hP hw hK
  obtain ⟨f0, f1, f2, f3, f4, f5⟩ := hf it (by simp)
  exact wpAny_pyNext_range_end (I.ok.hd hc) st (by have : n <= i := hg; omega) fun h' eb => ⟨rfl, I.turned (t' := s.toks) (fun b o hb e => eb b o hb e) f0 f1 f3 f4 f5⟩
 self := fun _ _ _ _ _ st h => wpAny_pyIter_rangeiter st h
end L2
namespace L2
open PySem PySem.Spec PyProof.Rows
section
variable {X : Cx} {tg : Expr}
def iList (K : PySem.W.Frag) (tl : TE) : TI := fun σ H R => tl σ H fun x H1 => ∃ a, x = .ref a /\ (∃ xs, SqL K H1 a xs) /\ R (Itl K a) H1
def iTup (K : PySem.W.Frag) (tl : TE) : TI := fun σ H R => tl σ H fun x H1 => ∃ a, x = .ref a /\ (∃ xs, SqT K H1 a xs) /\ R (Itt K a) H1
theorem pi_list {l : Expr} {tl : TE} (hl : PE X l tl) : PI X tg l (iList X.K tl) := by
 intro pins s σ H R I h
 refine thn (hl pins s σ H _ I h) fun v s1 ⟨x, H1, I1, r1, q1⟩ => ?_
 obtain ⟨a, e, ⟨xs, hq⟩, q⟩ := q1
 subst e
 cases r1
 obtain ⟨its, rv, p, hz⟩ := I1.list hq
 refine wpAny_pyIter_list p.isList ?_
 refine ⟨s1.heap.objs.size, [s1.heap.objs.size], _, _, H1, rfl, I1.kept (t' := s1.toks) fun b o e => Heap.get?_push_of_some _ e, turn_list a _, ⟨_, Heap.get?_push_size _ rfl, rfl, rfl⟩, fun b hb => ?_, q⟩
 have e : b = s1.heap.objs.size := by simpa using hb
 subst e
 exact I1.fpOk (Nat.le_refl _) (I1.hok.fresh (Nat.le_refl _))
theorem pi_tup {l : Expr} {tl : TE} (hl : PE X l tl) : PI X tg l (iTup X.K tl) := by
 intro pins s σ H R I h
 refine thn (hl pins s σ H _ I h) fun v s1 ⟨x, H1, I1, r1, q1⟩ => ?_
 obtain ⟨a, e, ⟨xs, hq⟩, q⟩ := q1
 subst e
 cases r1
 obtain ⟨its, rv, p, hz⟩ := I1.tuple hq
 refine wpAny_pyIter_tuple (show s1.heap.IsTuple a its.toArray from p) ?_
 refine ⟨s1.heap.objs.size, [s1.heap.objs.size], _, _, H1, rfl, I1.kept (t' := s1.toks) fun b o e => Heap.get?_push_of_some _ e, turn_tuple a _, ⟨_, Heap.get?_push_size _ rfl, rfl, rfl⟩, fun b hb => ?_, q⟩
 have e : b = s1.heap.objs.size := by simpa using hb
 subst e
 exact I1.fpOk (Nat.le_refl _) (I1.hok.fresh (Nat.le_refl _))
theorem range_it {pins : List (Addr × Obj)} {σ : St} {H : Hp} {s : Shared} {R : It -> Hp -> Prop} {E : Value -> Shared -> Prop} {lo hi : Int} {t u v : Tok} {tk : Nat} (I : Inv X pins σ H s) (h1 : -(2 ^ 62) <= lo) (h2 : lo < 2 ^ 62) (h3 : -(2 ^ 62) <= hi) (h4 : hi < 2 ^ 62)
  (q : R (Itr lo (hi - lo).toNat) H) : wpAny (model X.prog X.w) X.A (pyIter (.ref s.heap.objs.size)) (PIE X pins σ tg R) E { s with heap := s.heap.push { cls := .type "range", data := .fields #[.int lo t, .int hi u, .int 1 v] }, toks := tk } := by
 refine wpAny_pyIter_range (IsRange.new ..) (small_one h1 h2 h3 h4) ?_
 have I1 : Inv X pins σ H { s with heap := s.heap.push { cls := .type "range", data := .fields #[.int lo t, .int hi u, .int 1 v] }, toks := tk } := I.kept fun b o e => Heap.get?_push_of_some _ e
 refine ⟨(s.heap.push { cls := .type "range", data := .fields #[.int lo t, .int hi u, .int 1 v] }).objs.size, [(s.heap.push { cls := .type "range", data := .fields #[.int lo t, .int hi u, .int 1 v] }).objs.size], _, _, H, rfl,
  I1.kept (t' := tk) fun b o e => Heap.get?_push_of_some _ e, turn_range _ lo (hi - lo).toNat, ?_, fun b hb => ?_, q⟩
 ·have e1 : lo + ((0 : Nat) : Int) * 1 = lo := by simp
  have e2 : (((hi - lo).toNat : Nat) : Int) - ((0 : Nat) : Int) = Builtin.Range.rangeSize lo hi 1 := by rw [rangeSize_one]; split <;> omega
  show IsRangeIter _ _ (lo + ((0 : Nat) : Int) * 1) ((((hi - lo).toNat : Nat) : Int) - ((0 : Nat) : Int)) 1
  rw [e1, e2]
  exact Heap.get?_push_size _ rfl
 ·have e : b = (s.heap.push { cls := .type "range", data := .fields #[.int lo t, .int hi u, .int 1 v] }).objs.size := by simpa using hb
  subst e
  exact I1.fpOk (Nat.le_refl _) (I1.hok.fresh (Nat.le_refl _))
def iRng1 (ta : TA) : TI := fun σ H R => ta σ H fun vs H1 => ∃ j : Int, vs = [.int j] /\ -(2 ^ 62) <= j /\ j < 2 ^ 62 /\ R (Itr 0 j.toNat) H1
def iRng2 (ta : TA) : TI := fun σ H R => ta σ H fun vs H1 => ∃ i j : Int, vs = [.int i, .int j] /\ (-(2 ^ 62) <= i /\ i < 2 ^ 62 /\ -(2 ^ 62) <= j /\ j < 2 ^ 62) /\ R (Itr i (j - i).toNat) H1
theorem pi_range1 {a : Expr} {ta : TA} {p pos : Pos} (hg : Gl X "range") (hm : X.mg "range" = none) (ha : PA X [a] ta) (hs : starEach [a] X.env = [(false, eval a X.env)] := by rfl) : PI X tg (.Call (.Name "range" p) [a] [] pos) (iRng1 ta) := by
 intro pins s σ H R I h
 refine Call_ (ld_blt I hg hm boot_range (PyProof.Rows.callWith_type1 (thn (ha pos pins s σ H _ I h) fun us s1 ⟨vs, H1, I1, r1, q1⟩ => ?_) hs rfl))
 obtain ⟨j, e, q1, q2, q⟩ := q1
 subst e
 cases r1 with
 | cons r rr =>
  cases rr
  obtain ⟨t, rfl⟩ := r
  exact call_range_1 (range_it I1 (by omega) (by omega) q1 q2 (by simpa using q))
theorem pi_range2 {a b : Expr} {ta : TA} {p pos : Pos} (hg : Gl X "range") (hm : X.mg "range" = none) (ha : PA X [a, b] ta) (hs : starEach [a, b] X.env = [(false, eval a X.env), (false, eval b X.env)] := by rfl) (hs2 : starEach [b] X.env = [(false, eval b X.env)] := by rfl) :
  PI X tg (.Call (.Name "range" p) [a, b] [] pos) (iRng2 ta) := by
 intro pins s σ H R I h
 refine Call_ (ld_blt I hg hm boot_range (PyProof.Rows.callWith_type1 (thn (ha pos pins s σ H _ I h) fun us s1 ⟨vs, H1, I1, r1, q1⟩ => ?_) (by rw [hs, hs2]) (by rw [hs2]; rfl)))
 obtain ⟨i, j, e, ⟨q1, q2, q3, q4⟩, q⟩ := q1
 subst e
 cases r1 with
 | cons r rr =>
  cases rr with
  | cons r' rr =>
   cases rr
   obtain ⟨t, rfl⟩ := r
   obtain ⟨t', rfl⟩ := r'
   exact call_range_2 (range_it I1 q1 q2 q3 q4 q)
def tFor (wi : TI) (g : TG) (tb : TS) : TS := fun D σ H => wi σ H fun J H1 => ∃ W : Nat -> Nat -> St -> Hp -> Prop, (∃ m, W 0 m σ H1) /\ ∀ i m σ H, W i m σ H ->
 (J.stop i H /\ D.nx σ H) \/ (J.go i H /\ ∃ N : St -> Hp -> Prop, (∀ σ' H', N σ' H' -> ∃ m', m' < m /\ W (i + 1) m' σ' H') /\ ∀ x H', J.yld i H x H' -> g x σ H' fun σ2 H2 => tb { D with nx := N, ct := N, bk := D.nx } σ2 H2)
def pinsAt (fp : List Addr) (h : Heap) : List (Addr × Obj) := fp.filterMap fun b => (h.get? b).map fun o => (b, o)
theorem mem_pinsAt {fp : List Addr} {h : Heap} {b : Addr} {o : Obj} (hb : b ∈ fp) (e : h.get? b = some o) : (b, o) ∈ pinsAt fp h := List.mem_filterMap.mpr ⟨b, hb, by rw [e]; rfl⟩
theorem of_pinsAt {fp : List Addr} {h : Heap} {p : Addr × Obj} (hp : p ∈ pinsAt fp h) : p.1 ∈ fp /\ h.get? p.1 = some p.2 := by
 obtain ⟨b, hb, e⟩ := List.mem_filterMap.mp hp
 cases q : h.get? b with
 | none => rw [q] at e; cases e
 | some o =>
  rw [q] at e
  have e' : (b, o) = p := Option.some.inj e
  subst e'
  exact ⟨hb, q⟩
theorem Inv.pinned {pins : List (Addr × Obj)} {σ : St} {H : Hp} {s : Shared} {fp : List Addr} (I : Inv X pins σ H s) (hf : ∀ b ∈ fp, FpOk X pins H b) (ho : ∀ b ∈ fp, ∃ o, s.heap.get? b = some o /\ ∀ v, o.data ≠ .cell v) : Inv X (pins ++ pinsAt fp s.heap) σ H s :=
 I.pins_of fun p hp => (List.mem_append.mp hp).elim (fun z => I.pin p (List.mem_append_right _ z)) fun z => by
  obtain ⟨hb, e⟩ := of_pinsAt z
  obtain ⟨f0, f1, f2, _⟩ := hf p.1 hb
  obtain ⟨o, e', d⟩ := ho p.1 hb
  rw [e] at e'; cases e'
  exact ⟨e, f0, f1, f2, d⟩
theorem Inv.unpinned {pins pl : List (Addr × Obj)} {σ : St} {H : Hp} {s : Shared} (I : Inv X (pins ++ pl) σ H s) : Inv X pins σ H s := I.pins_of fun p hp => I.pin p (List.mem_append_right _ (List.mem_append_left _ hp))
theorem ps_for {iter : Expr} {body : List Stmt} {wi : TI} {g : TG} {tb : TS} {pos : Pos} (hp : PassesOwn (model X.prog X.w) X.A X.env X.xe) (hc : X.calm = true) (hi : PI X tg iter wi) (hg : PG X tg g) (hb : PSs X body tb)
  (hs : ∀ x, foldedSetIterable iter X.env x = pure x := by intro _; rfl) : PS X (.For tg iter body [] pos) (tFor wi g tb) := by
 intro pins s σ H D I h
 refine wpAny_For (thn (hi pins s σ H _ I h) fun v s1 h1 => thn h1 fun itv s2 h2 => ?_) hs
 obtain ⟨it, fp, tn, J, H2, e, I2, T, st2, f2, W, ⟨m0, w0⟩, turn⟩ := h2
 subst e
 -- what stays true of the iterator's objects through the loop
 have stat : ∀ {H' : Hp}, (∀ b ∈ fp, H' b = none) -> ∀ b ∈ fp, FpOk X pins H' b := fun hn b hb => ⟨hn b hb, (f2 b hb).2⟩
 refine codeAny_forLoop_any (fun n s' => ∃ i σ' H', Inv X pins σ' H' s' /\ tn i s'.heap /\ (∀ b ∈ fp, H' b = none) /\ W i n σ' H') ?_ m0 ⟨0, σ, H2, I2, st2, fun b hb => (f2 b hb).1, w0⟩
 rintro n s3 ⟨i, σ3, H3, I3, st3, fr3, w3⟩
 rcases turn i n σ3 H3 w3 with ⟨stop, qn⟩ | ⟨go, N, hN, step⟩
 ·refine wpAny_passesOwn hp (thn (T.done X rfl rfl rfl hc i pins s3 σ3 H3 X.xe I3 (stat fr3) st3 stop) fun r s4 ⟨hr, I4⟩ => ?_)
  subst hr
  exact wpAny_execs_nil ⟨σ3, H3, I4, qn⟩
 ·refine wpAny_passesOwn hp (thn (T.item X rfl rfl rfl hc i pins s3 σ3 H3 X.xe I3 (stat fr3) st3 go) fun r s4 ⟨u, hr, h4⟩ => ?_)
  subst hr
  refine wpAny_passesOwn hp (thn h4 fun _ s5 ⟨x, H5, I5, r5, y5, st5, fr5⟩ => ?_)
  have I5' := I5.pinned (stat fr5) (T.obj _ _ st5)
  refine wpAny_passesOwn hp (thn (hg _ s5 σ3 H5 x u _ I5' r5 (step x H5 y5)) fun _ s6 ⟨σ6, H6, I6, q6⟩ => ?_)
  refine wpAny_passesOwn hp (thn (hb _ s6 σ6 H6 _ I6 q6) fun f s7 q7 => ?_)
  have again : ∀ {σ7 : St} {H7 : Hp}, Inv X (pins ++ pinsAt fp s5.heap) σ7 H7 s7 -> N σ7 H7 -> ∃ m, m < n /\ ∃ i σ' H', Inv X pins σ' H' s7 /\ tn i s7.heap /\ (∀ b ∈ fp, H' b = none) /\ W i m σ' H' := fun {σ7 H7} I7 n7 => by
   obtain ⟨m', hm, w7⟩ := hN σ7 H7 n7
   refine ⟨m', hm, i + 1, σ7, H7, I7.unpinned, T.keep _ _ _ st5 fun b hb o e => (I7.pin (b, o) (List.mem_append_right _ (List.mem_append_right _ (mem_pinsAt hb e)))).1, fun b hb => ?_, w7⟩
   obtain ⟨o, e, d⟩ := T.obj _ _ st5 b hb
   exact (I7.pin (b, o) (List.mem_append_right _ (List.mem_append_right _ (mem_pinsAt hb e)))).2.1
  cases f with
  | next => obtain ⟨σ7, H7, I7, n7⟩ := q7; exact again I7 n7
  | cont => obtain ⟨σ7, H7, I7, n7⟩ := q7; exact again I7 n7
  | brk => obtain ⟨σ7, H7, I7, q7⟩ := q7; exact ⟨σ7, H7, I7.unpinned, q7⟩
  | ret v => obtain ⟨x7, σ7, H7, I7, r7, q7⟩ := q7; exact ⟨x7, σ7, H7, I7.unpinned, r7, q7⟩
end
theorem for_list {K : PySem.W.Frag} {a : Addr} {xs : List V} {g : TG} {tb : TS} {D : Ends} {σ : St} {H : Hp} (Pv : Nat -> St -> Hp -> Prop) (h0 : Pv 0 σ H) (hl : ∀ i σ H, i <= xs.length -> Pv i σ H -> SqL K H a xs)
  (hs : ∀ i x σ H, xs[i]? = some x -> Pv i σ H -> g x σ H fun σ2 H2 => tb { D with nx := Pv (i + 1), ct := Pv (i + 1), bk := D.nx } σ2 H2) (hd : ∀ σ H, Pv xs.length σ H -> D.nx σ H) :
  ∃ W : Nat -> Nat -> St -> Hp -> Prop, (∃ m, W 0 m σ H) /\ ∀ i m σ H, W i m σ H ->
   ((Itl K a).stop i H /\ D.nx σ H) \/ ((Itl K a).go i H /\ ∃ N : St -> Hp -> Prop, (∀ σ' H', N σ' H' -> ∃ m', m' < m /\ W (i + 1) m' σ' H') /\ ∀ x H', (Itl K a).yld i H x H' -> g x σ H' fun σ2 H2 => tb { D with nx := N, ct := N, bk := D.nx } σ2 H2) := by
 refine ⟨fun i m σ H => m = xs.length - i /\ i <= xs.length /\ Pv i σ H, ⟨xs.length, by simp, Nat.zero_le _, h0⟩, ?_⟩
 rintro i m σ H ⟨rfl, hi, p⟩
 have q := hl i σ H hi p
 by_cases hlt : i < xs.length
 ·refine .inr ⟨⟨xs, xs[i], q, by simp [hlt]⟩, Pv (i + 1), fun σ' H' p' => ⟨xs.length - (i + 1), by omega, rfl, hlt, p'⟩, fun x H' y => ?_⟩
  obtain ⟨e, y⟩ := y
  subst e
  exact hs i x σ _ (y xs q) p
 ·have e : i = xs.length := by omega
  subst e
  exact .inl ⟨⟨xs, q, Nat.le_refl _⟩, hd σ H p⟩
theorem for_tup {K : PySem.W.Frag} {a : Addr} {xs : List V} {g : TG} {tb : TS} {D : Ends} {σ : St} {H : Hp} (Pv : Nat -> St -> Hp -> Prop) (h0 : Pv 0 σ H) (hl : ∀ i σ H, i <= xs.length -> Pv i σ H -> SqT K H a xs)
  (hs : ∀ i x σ H, xs[i]? = some x -> Pv i σ H -> g x σ H fun σ2 H2 => tb { D with nx := Pv (i + 1), ct := Pv (i + 1), bk := D.nx } σ2 H2) (hd : ∀ σ H, Pv xs.length σ H -> D.nx σ H) :
  ∃ W : Nat -> Nat -> St -> Hp -> Prop, (∃ m, W 0 m σ H) /\ ∀ i m σ H, W i m σ H ->
   ((Itt K a).stop i H /\ D.nx σ H) \/ ((Itt K a).go i H /\ ∃ N : St -> Hp -> Prop, (∀ σ' H', N σ' H' -> ∃ m', m' < m /\ W (i + 1) m' σ' H') /\ ∀ x H', (Itt K a).yld i H x H' -> g x σ H' fun σ2 H2 => tb { D with nx := N, ct := N, bk := D.nx } σ2 H2) := by
 refine ⟨fun i m σ H => m = xs.length - i /\ i <= xs.length /\ Pv i σ H, ⟨xs.length, by simp, Nat.zero_le _, h0⟩, ?_⟩
 rintro i m σ H ⟨rfl, hi, p⟩
 have q := hl i σ H hi p
 by_cases hlt : i < xs.length
 ·refine .inr ⟨⟨xs, xs[i], q, by simp [hlt]⟩, Pv (i + 1), fun σ' H' p' => ⟨xs.length - (i + 1), by omega, rfl, hlt, p'⟩, fun x H' y => ?_⟩
  obtain ⟨e, y⟩ := y
  subst e
  exact hs i x σ _ (y xs q) p
 ·have e : i = xs.length := by omega
  subst e
  exact .inl ⟨⟨xs, q, Nat.le_refl _⟩, hd σ H p⟩
theorem for_range {lo : Int} {n : Nat} {g : TG} {tb : TS} {D : Ends} {σ : St} {H : Hp} (Pv : Nat -> St -> Hp -> Prop) (h0 : Pv 0 σ H)
  (hs : ∀ i σ H, i < n -> Pv i σ H -> g (.int (lo + i)) σ H fun σ2 H2 => tb { D with nx := Pv (i + 1), ct := Pv (i + 1), bk := D.nx } σ2 H2) (hd : ∀ σ H, Pv n σ H -> D.nx σ H) :
  ∃ W : Nat -> Nat -> St -> Hp -> Prop, (∃ m, W 0 m σ H) /\ ∀ i m σ H, W i m σ H ->
   ((Itr lo n).stop i H /\ D.nx σ H) \/ ((Itr lo n).go i H /\ ∃ N : St -> Hp -> Prop, (∀ σ' H', N σ' H' -> ∃ m', m' < m /\ W (i + 1) m' σ' H') /\ ∀ x H', (Itr lo n).yld i H x H' -> g x σ H' fun σ2 H2 => tb { D with nx := N, ct := N, bk := D.nx } σ2 H2) := by
 refine ⟨fun i m σ H => m = n - i /\ i <= n /\ Pv i σ H, ⟨n, by simp, Nat.zero_le _, h0⟩, ?_⟩
 rintro i m σ H ⟨rfl, hi, p⟩
 by_cases hlt : i < n
 ·refine .inr ⟨hlt, Pv (i + 1), fun σ' H' p' => ⟨n - (i + 1), by omega, rfl, hlt, p'⟩, fun x H' y => ?_⟩
  obtain ⟨e, y⟩ := y
  subst e y
  exact hs i σ _ hlt p
 ·have e : i = n := by omega
  subst e
  exact .inl ⟨Nat.le_refl _, hd σ H p⟩
end L2
namespace L2
open PySem PySem.Spec PyProof.Rows
abbrev R2 := V -> V -> Hp -> VK -> Prop
def OpR (X : Cx) (f : Value -> Value -> Sem Value) (r : R2) : Prop :=
 ∀ (pins : List (Addr × Obj)) (s : Shared) (σ : St) (H : Hp) (x y : V) (v u : Value) (Q : VK), Inv X pins σ H s -> RelV x v -> RelV y u -> r x y H Q ->
  wpAny (model X.prog X.w) X.A (f v u) (EP X pins σ Q) X.xe s
def UnR (X : Cx) (f : Value -> Sem Value) (r : V -> Hp -> VK -> Prop) : Prop :=
 ∀ (pins : List (Addr × Obj)) (s : Shared) (σ : St) (H : Hp) (x : V) (v : Value) (Q : VK), Inv X pins σ H s -> RelV x v -> r x H Q ->
  wpAny (model X.prog X.w) X.A (f v) (EP X pins σ Q) X.xe s
def CallR (X : Cx) (f : Value) (r : List V -> Hp -> VK -> Prop) : Prop :=
 ∀ (pins : List (Addr × Obj)) (s : Shared) (σ : St) (H : Hp) (xs : List V) (us : List Value) (Q : VK), Inv X pins σ H s -> Vals xs us -> r xs H Q ->
  wpAny (model X.prog X.w) X.A (call f us) (EP X pins σ Q) X.xe s
def TruR (X : Cx) (r : V -> Hp -> (Bool -> Hp -> Prop) -> Prop) : Prop :=
 ∀ (pins : List (Addr × Obj)) (s : Shared) (σ : St) (H : Hp) (x : V) (v : Value) (Q : Bool -> Hp -> Prop), Inv X pins σ H s -> RelV x v -> r x H Q ->
  wpAny (model X.prog X.w) X.A (truthy v) (TP X pins σ Q) X.xe s
def tOp (r : R2) (ta tb : TE) : TE := fun σ H Q => ta σ H fun x H1 => tb σ H1 fun y H2 => r x y H2 Q
def tUn (r : V -> Hp -> VK -> Prop) (ta : TE) : TE := fun σ H Q => ta σ H fun x H1 => r x H1 Q
def rI (C : Int -> Int -> Prop) (g : Int -> Int -> V) : R2 := fun x y H Q => ∃ i j, x = .int i /\ y = .int j /\ C i j /\ Q (g i j) H
def rI0 (g : Int -> Int -> V) : R2 := fun x y H Q => ∃ i j, x = .int i /\ y = .int j /\ Q (g i j) H
def rU (g : Int -> V) : V -> Hp -> VK -> Prop := fun x H Q => ∃ i, x = .int i /\ Q (g i) H
section
variable {X : Cx} {a b c : Expr} {ta tb tc : TE} {pos : Pos}
theorem binT (ha : PE X a ta) (hb : PE X b tb) {pins : List (Addr × Obj)} {s : Shared} {σ : St} {H : Hp} {R : V -> V -> Hp -> Prop} (I : Inv X pins σ H s)
  (h : ta σ H fun x H1 => tb σ H1 fun y H2 => R x y H2) {Q : Value -> Shared -> Prop} {f : Value -> Value -> Sem Value}
  (hf : ∀ v u s2 x y H2, Inv X pins σ H2 s2 -> RelV x v -> RelV y u -> R x y H2 -> wpAny (model X.prog X.w) X.A (f v u) Q X.xe s2) :
  wpAny (model X.prog X.w) X.A (eval a X.env) (fun v s₁ => wpAny (model X.prog X.w) X.A (eval b X.env) (fun u s₂ => wpAny (model X.prog X.w) X.A (f v u) Q X.xe s₂) X.xe s₁) X.xe s := by
 refine thn (ha pins s σ H _ I h) fun v s1 ⟨x, H1, I1, r1, q1⟩ => ?_
 refine thn (hb pins s1 σ H1 _ I1 q1) fun u s2 ⟨y, H2, I2, r2, q2⟩ => ?_
 exact hf v u s2 x y H2 I2 r1 r2 q2
theorem pe_op {op : Operator} {r : R2} (ho : OpR X (binaryOp op) r) (ha : PE X a ta) (hb : PE X b tb) : PE X (.BinOp a op b pos) (tOp r ta tb) := by
 intro pins s σ H Q I h
 exact wpAny_BinOp (binT ha hb I h fun v u s2 x y H2 I2 rx ry q => ho pins s2 σ H2 x y v u Q I2 rx ry q)
theorem pe_un {op : UnaryOp} {r : V -> Hp -> VK -> Prop} (ho : UnR X (unaryOp op) r) (ha : PE X a ta) : PE X (.UnaryOp op a pos) (tUn r ta) := by
 intro pins s σ H Q I h
 exact UnaryOp_ (thn (ha pins s σ H _ I h) fun v s1 ⟨x, H1, I1, r1, q1⟩ => ho pins s1 σ H1 x v Q I1 r1 q1)
theorem opI {f : Value -> Value -> Sem Value} {C : Int -> Int -> Prop} {g : Int -> Int -> Int}
  (rule : ∀ (i j : Int) (t u : Tok) (s : Shared) (Q : Value -> Shared -> Prop) (E : Value -> Shared -> Prop), C i j -> Q (.int (g i j) s.toks) { s with toks := s.toks + 1 } -> wpAny (model X.prog X.w) X.A (f (.int i t) (.int j u)) Q E s) :
  OpR X f (rI C fun i j => .int (g i j)) := by
 intro pins s σ H x y v u Q I rx ry h
 obtain ⟨i, j, rfl, rfl, hc, q⟩ := h
 obtain ⟨t, rfl⟩ := rx
 obtain ⟨t', rfl⟩ := ry
 exact rule i j t t' s _ _ hc ⟨.int (g i j), H, I.tok _, ⟨_, rfl⟩, q⟩
theorem opI0 {f : Value -> Value -> Sem Value} {g : Int -> Int -> Int}
  (rule : ∀ (i j : Int) (t u : Tok) (s : Shared) (Q : Value -> Shared -> Prop) (E : Value -> Shared -> Prop), Q (.int (g i j) s.toks) { s with toks := s.toks + 1 } -> wpAny (model X.prog X.w) X.A (f (.int i t) (.int j u)) Q E s) :
  OpR X f (rI0 fun i j => .int (g i j)) := by
 intro pins s σ H x y v u Q I rx ry h
 obtain ⟨i, j, rfl, rfl, q⟩ := h
 obtain ⟨t, rfl⟩ := rx
 obtain ⟨t', rfl⟩ := ry
 exact rule i j t t' s _ _ ⟨.int (g i j), H, I.tok _, ⟨_, rfl⟩, q⟩
theorem opB0 {f : Value -> Value -> Sem Value} {g : Int -> Int -> Bool}
  (rule : ∀ (i j : Int) (t u : Tok) (s : Shared) (Q : Value -> Shared -> Prop) (E : Value -> Shared -> Prop), Q (.bool (g i j)) s -> wpAny (model X.prog X.w) X.A (f (.int i t) (.int j u)) Q E s) :
  OpR X f (rI0 fun i j => .bl (g i j)) := by
 intro pins s σ H x y v u Q I rx ry h
 obtain ⟨i, j, rfl, rfl, q⟩ := h
 obtain ⟨t, rfl⟩ := rx
 obtain ⟨t', rfl⟩ := ry
 exact rule i j t t' s _ _ ⟨.bl (g i j), H, I, rfl, q⟩
def CPow (i j : Int) : Prop := 0 <= j /\ j <= 1000000 /\ i.natAbs < 2 ^ 64
def CMul (i j : Int) : Prop := (-(2 ^ 64) < i /\ i < 2 ^ 64) \/ (-(2 ^ 64) < j /\ j < 2 ^ 64)
theorem CMul.ok {i j : Int} (h : CMul i j) : IntMulOk i j := by
 rcases h with ⟨h1, h2⟩ | ⟨h1, h2⟩
 ·exact .of_left (intBits_le_64 h1 h2)
 ·exact .of_right (intBits_le_64 h1 h2)
theorem op_add : OpR X (binaryOp .Add) (rI0 fun i j => .int (i + j)) := opI0 fun _ _ _ _ _ _ _ q => add_int q
theorem op_sub : OpR X (binaryOp .Sub) (rI0 fun i j => .int (i - j)) := opI0 fun _ _ _ _ _ _ _ q => sub_int q
theorem op_mul : OpR X (binaryOp .Mult) (rI CMul fun i j => .int (i * j)) := opI fun _ _ _ _ _ _ _ hc q => mul_int q hc.ok
theorem op_mod : OpR X (binaryOp .Mod) (rI (fun _ j => 0 < j) fun i j => .int (i % j)) := opI fun i j _ _ _ _ _ hc q => by
 have h1 : (0 : Int) < j := hc
 exact mod_int' (by omega) (by rw [Int.fmod_eq_emod_of_nonneg i (by omega)]; exact q)
theorem op_pow : OpR X (binaryOp .Pow) (rI CPow fun i j => .int (i ^ j.toNat)) := opI fun _ _ _ _ _ _ _ hc q => pow_int_small hc.1 hc.2.1 hc.2.2 q
theorem unI {f : Value -> Sem Value} {g : Int -> Int}
  (rule : ∀ (i : Int) (t : Tok) (s : Shared) (Q : Value -> Shared -> Prop) (E : Value -> Shared -> Prop), Q (.int (g i) s.toks) { s with toks := s.toks + 1 } -> wpAny (model X.prog X.w) X.A (f (.int i t)) Q E s) :
  UnR X f (rU fun i => .int (g i)) := by
 intro pins s σ H x v Q I rx h
 obtain ⟨i, rfl, q⟩ := h
 obtain ⟨t, rfl⟩ := rx
 exact rule i t s _ _ ⟨.int (g i), H, I.tok _, ⟨_, rfl⟩, q⟩
theorem un_neg : UnR X (unaryOp .USub) (rU fun i => .int (-i)) := unI fun _ _ _ _ _ q => neg_int q
end
def scal : V -> V -> Bool
 | .non, .non => true | .non, .int _ => true | .int _, .non => true | .non, .bl _ => true | .bl _, .non => true | .non, .str _ => true | .str _, .non => true
 | .int _, .int _ => true | .bl _, .bl _ => true | .str _, .str _ => true | .byt _, .byt _ => true
 | .int _, .str _ => true | .str _, .int _ => true | .bl _, .str _ => true | .str _, .bl _ => true
 | _, _ => false
def rEq : R2 := fun x y H Q => scal x y = true /\ Q (.bl (decide (x = y))) H
def rNe : R2 := fun x y H Q => scal x y = true /\ Q (.bl (!decide (x = y))) H
theorem dec_int {i j : Int} : decide (V.int i = V.int j) = (i == j) := by
 rw [Bool.eq_iff_iff]
 simp
theorem dec_bl {i j : Bool} : decide (V.bl i = V.bl j) = (i == j) := by
 rw [Bool.eq_iff_iff]
 simp
theorem dec_str {i j : Str} : decide (V.str i = V.str j) = (i == j) := by
 rw [Bool.eq_iff_iff]
 simp
theorem dec_byt {i j : Array UInt8} : decide (V.byt i = V.byt j) = (i.toList == j.toList) := by
 rw [Bool.eq_iff_iff]
 cases i
 cases j
 simp
section
variable {X : Cx} {a b c : Expr} {ta tb tc : TE} {pos : Pos}
theorem fin_bl {pins : List (Addr × Obj)} {σ : St} {H : Hp} {s : Shared} {Q : VK} {k k' : Bool} (I : Inv X pins σ H s) (q : Q (.bl k) H) (e : k = k') : EP X pins σ Q (.bool k') s := by
 subst e
 exact ⟨.bl k, H, I, rfl, q⟩
theorem op_eq : OpR X (compareOp .Eq) rEq := by
 intro pins s σ H x y v u Q I rx ry h
 obtain ⟨hs, q⟩ := h
 cases x with
 | non =>
  cases rx
  cases y with
  | non => cases ry; exact PySem.EqNone.eq_none_none (fin_bl I q (by simp))
  | bl j => cases ry; exact PySem.EqNone.eq_none_bool (fin_bl I q (by simp))
  | int j => obtain ⟨t', rfl⟩ := ry; exact PySem.EqNone.eq_none_int (fin_bl I q (by simp))
  | str j => obtain ⟨t', rfl⟩ := ry; exact PySem.EqNone.eq_none_str (fin_bl I q (by simp))
  | _ => exact absurd (show false = true from hs) Bool.false_ne_true
 | bl i =>
  cases rx
  cases y with
  | non => cases ry; exact PySem.EqNone.eq_bool_none (fin_bl I q (by simp))
  | bl j => cases ry; exact eq_bool (fin_bl I q dec_bl)
  | str j => obtain ⟨t', rfl⟩ := ry; exact PySem.EqMixed.eq_bool_str (fin_bl I q (by simp))
  | _ => exact absurd (show false = true from hs) Bool.false_ne_true
 | int i =>
  obtain ⟨t, rfl⟩ := rx
  cases y with
  | non => cases ry; exact PySem.EqNone.eq_int_none (fin_bl I q (by simp))
  | int j => obtain ⟨t', rfl⟩ := ry; exact eq_int (fin_bl I q dec_int)
  | str j => obtain ⟨t', rfl⟩ := ry; exact PySem.EqMixed.eq_int_str (fin_bl I q (by simp))
  | _ => exact absurd (show false = true from hs) Bool.false_ne_true
 | str i =>
  obtain ⟨t, rfl⟩ := rx
  cases y with
  | non => cases ry; exact PySem.EqNone.eq_str_none (fin_bl I q (by simp))
  | bl j => cases ry; exact PySem.EqMixed.eq_str_bool (fin_bl I q (by simp))
  | int j => obtain ⟨t', rfl⟩ := ry; exact PySem.EqMixed.eq_str_int (fin_bl I q (by simp))
  | str j => obtain ⟨t', rfl⟩ := ry; exact eq_str (fin_bl I q dec_str)
  | _ => exact absurd (show false = true from hs) Bool.false_ne_true
 | byt i =>
  obtain ⟨t, rfl⟩ := rx
  cases y with
  | byt j => obtain ⟨t', rfl⟩ := ry; exact PySem.W.eq_bytes (fin_bl I q dec_byt)
  | _ => exact absurd (show false = true from hs) Bool.false_ne_true
 | _ => cases y <;> exact absurd (show false = true from hs) Bool.false_ne_true
theorem op_ne : OpR X (compareOp .NotEq) rNe := by
 intro pins s σ H x y v u Q I rx ry h
 obtain ⟨hs, q⟩ := h
 cases x with
 | non =>
  cases rx
  cases y with
  | non => cases ry; exact PySem.EqNone.ne_none_none (fin_bl I q (by simp))
  | bl j => cases ry; exact PySem.EqNone.ne_none_bool (fin_bl I q (by simp))
  | int j => obtain ⟨t', rfl⟩ := ry; exact PySem.EqNone.ne_none_int (fin_bl I q (by simp))
  | str j => obtain ⟨t', rfl⟩ := ry; exact PySem.EqNone.ne_none_str (fin_bl I q (by simp))
  | _ => exact absurd (show false = true from hs) Bool.false_ne_true
 | bl i =>
  cases rx
  cases y with
  | non => cases ry; exact PySem.EqNone.ne_bool_none (fin_bl I q (by simp))
  | bl j => cases ry; exact ne_bool (fin_bl I q (congrArg not dec_bl))
  | str j => obtain ⟨t', rfl⟩ := ry; exact PySem.EqMixed.ne_bool_str (fin_bl I q (by simp))
  | _ => exact absurd (show false = true from hs) Bool.false_ne_true
 | int i =>
  obtain ⟨t, rfl⟩ := rx
  cases y with
  | non => cases ry; exact PySem.EqNone.ne_int_none (fin_bl I q (by simp))
  | int j => obtain ⟨t', rfl⟩ := ry; exact ne_int (fin_bl I q (congrArg not dec_int))
  | str j => obtain ⟨t', rfl⟩ := ry; exact PySem.EqMixed.ne_int_str (fin_bl I q (by simp))
  | _ => exact absurd (show false = true from hs) Bool.false_ne_true
 | str i =>
  obtain ⟨t, rfl⟩ := rx
  cases y with
  | non => cases ry; exact PySem.EqNone.ne_str_none (fin_bl I q (by simp))
  | bl j => cases ry; exact PySem.EqMixed.ne_str_bool (fin_bl I q (by simp))
  | int j => obtain ⟨t', rfl⟩ := ry; exact PySem.EqMixed.ne_str_int (fin_bl I q (by simp))
  | str j => obtain ⟨t', rfl⟩ := ry; exact ne_str (fin_bl I q (congrArg not dec_str))
  | _ => exact absurd (show false = true from hs) Bool.false_ne_true
 | byt i =>
  obtain ⟨t, rfl⟩ := rx
  cases y with
  | byt j => obtain ⟨t', rfl⟩ := ry; exact PySem.W.ne_bytes (fin_bl I q (congrArg not dec_byt))
  | _ => exact absurd (show false = true from hs) Bool.false_ne_true
 | _ => cases y <;> exact absurd (show false = true from hs) Bool.false_ne_true
theorem op_lt : OpR X (compareOp .Lt) (rI0 fun i j => .bl (decide (i < j))) := opB0 fun _ _ _ _ _ _ _ q => lt_int q
theorem op_le : OpR X (compareOp .LtE) (rI0 fun i j => .bl (decide (i <= j))) := opB0 fun _ _ _ _ _ _ _ q => le_int q
theorem op_gt : OpR X (compareOp .Gt) (rI0 fun i j => .bl (decide (j < i))) := opB0 fun _ _ _ _ _ _ _ q => gt_int q
theorem op_ge : OpR X (compareOp .GtE) (rI0 fun i j => .bl (decide (j <= i))) := opB0 fun _ _ _ _ _ _ _ q => ge_int q
theorem op_isN : OpR X (compareOp .Is) (fun x y H Q => y = .non /\ Q (.bl (decide (x = .non))) H) := by
 intro pins s σ H x y v u Q I rx ry h
 obtain ⟨rfl, q⟩ := h
 cases ry
 refine is_none_gen (fin_bl I q ?_)
 cases x <;> first
  | (cases rx; rfl)
  | (obtain ⟨t, rfl⟩ := rx; rfl)
theorem op_notN : OpR X (compareOp .IsNot) (fun x y H Q => y = .non /\ Q (.bl (!decide (x = .non))) H) := by
 intro pins s σ H x y v u Q I rx ry h
 obtain ⟨rfl, q⟩ := h
 cases ry
 refine isnot_none_gen (fin_bl I q ?_)
 cases x <;> first
  | (cases rx; rfl)
  | (obtain ⟨t, rfl⟩ := rx; rfl)
theorem nomark (b : Expr) {op : CmpOp} (h : op ≠ .In := by decide) (h2 : op ≠ .NotIn := by decide) : behindInMarks op b = false := by
 have e1 : (op == CmpOp.In) = false := by cases op <;> first | rfl | exact absurd rfl h
 have e2 : (op == CmpOp.NotIn) = false := by cases op <;> first | rfl | exact absurd rfl h2
 cases b <;> simp [behindInMarks, e1, e2]
theorem pe_cmpR {op : CmpOp} {r : R2} (ho : OpR X (compareOp op) r) (ha : PE X a ta) (hb : PE X b tb) (hm : behindInMarks op b = false) : PE X (.Compare a [op] [b] pos) (tOp r ta tb) := by
 intro pins s σ H Q I h
 exact wpAny_Compare1 (binT ha hb I h fun v u s2 x y H2 I2 rx ry q => ho pins s2 σ H2 x y v u Q I2 rx ry q) hm
def tTest (t : TE) : TT := fun σ H Q => t σ H fun x H' => ∃ k, x = .bl k /\ Q k H'
theorem pt_cmpR {op : CmpOp} {r : R2} (ho : OpR X (compareOp op) r) (ha : PE X a ta) (hb : PE X b tb) (hm : behindInMarks op b = false) : PT X (.Compare a [op] [b] pos) (tTest (tOp r ta tb)) := by
 intro pins s σ H Q I h
 refine wpAny_isTrue_Compare1 (thn (ha pins s σ H _ I h) fun v s1 ⟨x, H1, I1, r1, q1⟩ => thn (hb pins s1 σ H1 _ I1 q1) fun u s2 ⟨y, H2, I2, r2, q2⟩ =>
  thn (ho pins s2 σ H2 x y v u _ I2 r1 r2 q2) fun c s3 ⟨z, H3, I3, r3, k, e, q3⟩ => ?_) hm
 subst e
 cases r3
 exact wpAny_truthy_bool ⟨H3, I3, q3⟩
def TruV (K : PySem.W.Frag) (x : V) (H : Hp) (k : Bool) : Prop :=
 match x with
 | .non => k = false
 | .bl b => k = b
 | .int i => k = (i != 0)
 | .str y => y.length <= sizeLine /\ k = ((y.length : Int) != 0)
 | .byt y => y.size <= sizeLine /\ k = ((y.size : Int) != 0)
 | .ref p => (∃ xs, SqL K H p xs /\ k = !xs.isEmpty) \/ (∃ xs, SqT K H p xs /\ k = !xs.isEmpty) \/ ∃ kvs, H p = some (.dK kvs) /\ k = !kvs.isEmpty
 | _ => False
theorem isEmpty_kv {κ : Type} {kvs : List (κ × V)} {vs : List (κ × Value)} (r : KV kvs vs) : (!vs.isEmpty) = !kvs.isEmpty := by
 cases r <;> rfl
theorem isEmpty_of {xs : List V} {its : List Value} (r : Vals xs its) : (!its.toArray.isEmpty) = !xs.isEmpty := by
 cases r <;> simp
theorem line63 : (sizeLine : Nat) < 2 ^ 63 := by rw [sizeLine_eq]; decide
theorem tru_ok : TruR X (fun x H Q => ∃ k, TruV X.K x H k /\ Q k H) := by
 intro pins s σ H x v Q I rx h
 obtain ⟨k, e, q⟩ := h
 have hl := line63
 have hs : sizeLine = 16777216 := sizeLine_eq
 cases x with
 | non =>
  cases rx
  have e' : k = false := e
  subst e'
  exact truthy_none ⟨H, I, q⟩
 | bl b =>
  cases rx
  have e' : k = b := e
  subst e'
  exact wpAny_truthy_bool ⟨H, I, q⟩
 | int i =>
  obtain ⟨t, rfl⟩ := rx
  have e' : k = (i != 0) := e
  subst e'
  exact PySem.P.truthy_int ⟨H, I, q⟩
 | str y =>
  obtain ⟨t, rfl⟩ := rx
  obtain ⟨hy, e'⟩ : y.length <= sizeLine /\ k = ((y.length : Int) != 0) := e
  subst e'
  exact PySem.P.truthy_str (by omega) ⟨H, I.tok _, q⟩
 | byt y =>
  obtain ⟨t, rfl⟩ := rx
  obtain ⟨hy, e'⟩ : y.size <= sizeLine /\ k = ((y.size : Int) != 0) := e
  subst e'
  exact PySem.W.truthy_bytes (by omega) ⟨H, I.tok _, q⟩
 | ref p =>
  cases rx
  have e' : (∃ xs, SqL X.K H p xs /\ k = !xs.isEmpty) \/ (∃ xs, SqT X.K H p xs /\ k = !xs.isEmpty) \/ ∃ kvs, H p = some (.dK kvs) /\ k = !kvs.isEmpty := e
  rcases e' with ⟨xs, hx, e'⟩ | ⟨xs, hx, e'⟩ | ⟨kvs, hx, e'⟩
  ·subst e'
   obtain ⟨its, r, pl, hz⟩ := I.list hx
   have hlen := r.length
   exact wpAny_truthy_list pl.isList (by simp only [List.size_toArray]; omega) ⟨H, I.tok _, by rw [isEmpty_of r]; exact q⟩
  ·subst e'
   obtain ⟨its, r, pl, hz⟩ := I.tuple hx
   have hlen := r.length
   exact truthy_tuple pl (by simp only [List.size_toArray]; omega) ⟨H, I.tok _, by rw [isEmpty_of r]; exact q⟩
  ·subst e'
   obtain ⟨hz, hS, vs, r, m⟩ : kvs.length <= sizeLine /\ (p == sysModules) = false /\ ∃ vs, KV kvs vs /\ s.heap.DictOf (mixKind X.prog X.w) p vs := I.hok p _ hx
   have hlen : kvs.length = vs.length := Paired.length r
   exact wpAny_truthy_dict hS m (by omega) ⟨H, I.tok _, by rw [isEmpty_kv r]; exact q⟩
 | _ => exact (show False from e).elim
theorem pt_truth (ha : PE X a ta) (he : ∀ whole, isTrue a X.env whole = (do let v <- whole; standAt a.pos; holding [v] (truthy v))) :
  PT X a (fun σ H Q => ta σ H fun x H' => ∃ k, TruV X.K x H' k /\ Q k H') := by
 intro pins s σ H Q I h
 exact isTrue_plain (thn (ha pins s σ H _ I h) fun v s1 ⟨x, H1, I1, r1, q1⟩ => tru_ok pins s1 σ H1 x v Q I1 r1 q1) (he _)
theorem vals1 {x : V} {us : List Value} (r : Vals [x] us) : ∃ u, us = [u] /\ RelV x u := by
 cases r with
 | cons r1 r2 => cases r2; exact ⟨_, rfl, r1⟩
theorem vals2 {x y : V} {us : List Value} (r : Vals [x, y] us) : ∃ u w', us = [u, w'] /\ RelV x u /\ RelV y w' := by
 cases r with
 | cons r1 r2 =>
  cases r2 with
  | cons r3 r4 => cases r4; exact ⟨_, _, rfl, r1, r3⟩
theorem call_min2 (hc : X.calm = true) : CallR X (.builtin "min") (fun xs H Q => ∃ i j, xs = [.int i, .int j] /\ Q (.int (if j < i then j else i)) H) := by
 intro pins s σ H xs us Q I r h
 obtain ⟨i, j, rfl, q⟩ := h
 obtain ⟨u, w', rfl, ⟨t, rfl⟩, ⟨t', rfl⟩⟩ := vals2 r
 refine min_two_ints (I.ok.hd hc) fun h' tk k => ⟨_, H, I.kept k, ?_, q⟩
 by_cases hj : j < i
 ·rw [if_pos hj, if_pos hj]; exact ⟨_, rfl⟩
 ·rw [if_neg hj, if_neg hj]; exact ⟨_, rfl⟩
end
end L2
namespace L2
open PySem PySem.Spec PyProof.Rows
structure ObjM (h : Heap) (x dx C : Addr) (mA : Str -> Option Value) : Prop where
 obj : h.get? x = some (PySem.W.instObj C dx)
 ns : h.Ns1 dx mA
 ne : dx ≠ x
theorem lookIn_ns {h : Heap} {dx : Addr} {mA : Str -> Option Value} (n : h.Ns1 dx mA) : ∃ od, h.get? dx = some od /\ ∀ name, PySem.W.lookIn name od = some (mA name) := by
 obtain ⟨o, es, ep, ho, hd, hk, _, hm⟩ := n
 refine ⟨o, ho, fun name => ?_⟩
 have e := hm name
 unfold nsFind findBy at e
 rw [<- Array.find?_toList] at e
 unfold PySem.W.lookIn
 rw [hd]
 dsimp only
 split
 ·rename_i y q
  rw [q] at e
  exact congrArg some e
 ·rename_i q
  rw [q] at e
  have a : es.toList.any (·.refKey) = false := by
   rw [List.any_eq_false]
   intro y hy
   obtain ⟨z, t, hkey⟩ := hk y (Array.mem_toList_iff.mp hy)
   simp [DictEntry.refKey, hkey]
  have a' : ¬ es.toList.any (·.refKey) = true := by rw [a]; exact Bool.false_ne_true
  rw [if_neg a']
  exact congrArg some e
theorem ObjM.look {h : Heap} {x dx C : Addr} {mA : Str -> Option Value} (I : ObjM h x dx C mA) : ∃ od, PySem.W.InstAt h x (PySem.W.instObj C dx) C (some od) /\ ∀ name, PySem.W.lookIn name od = some (mA name) :=
 let ⟨od, ho, hl⟩ := lookIn_ns I.ns
 ⟨od, ⟨I.obj, rfl, rfl, ho⟩, hl⟩
section
variable {prog : Program} {w : World} {A : Around} {E : Value -> Shared -> Prop} {s : Shared} {K : PySem.W.Frag} {x dx C f : Addr} {mA : Str -> Option Value} {name : Str} {v : Value}
theorem get_map {expr : Bool} {Q : Value -> Shared -> Prop} (X : K.In s.heap) (I : ObjM s.heap x dx C mA) (hg : PySem.W.plainGet K C name = true) (hh : PySem.W.hasDictIn K C = true)
  (ha : PySem.W.findIn K (.ref C) name = some none) (hv : mA name = some v) (hv' : PySem.W.handedIn v = true) (h : Q v { s with toks := s.toks + 1 }) :
  wpAny (model prog w) A (getAttr (.ref x) name expr) Q E s := by
 obtain ⟨od, J, hl⟩ := I.look
 exact PySem.W.get_value X J (PySem.W.plainGet_of hg).1 (PySem.W.findObj_own hh ha rfl (by rw [hl, hv])) hv' h
theorem get_meth {pl : Sem Bool} {Q : Value × List Value -> Shared -> Prop} (X : K.In s.heap) (I : ObjM s.heap x dx C mA) (hg : PySem.W.plainGet K C name = true)
  (hf : PySem.W.findIn K (.ref C) name = some (some (.ref f))) (ht : PySem.W.isFn K (.ref f) = true) (hv : mA name = none) (h : Q (.ref f, [.ref x]) s) :
  wpAny (model prog w) A (getMethod (.ref x) name pl) Q E s := by
 obtain ⟨od, J, hl⟩ := I.look
 exact PySem.W.method_fn X J (PySem.W.plainGet_of hg).1 (PySem.W.plainGet_of hg).2 hf (beq_iff_eq.mp ht) (by show (PySem.W.lookIn name od).map (·.isSome) = some false; rw [hl, hv]; rfl) h
theorem set_map {ns : List Str} {Q : Unit -> Shared -> Prop} (X : K.In s.heap) (I : ObjM s.heap x dx C mA)
  (hs : PySem.W.findIn K (.ref C) "__setattr__" = some (some (.builtin "object.__setattr__"))) (hp : PySem.W.plainOver K C = true) (ht : PySem.W.takerIn K C name = some none) (hh : PySem.W.hasDictIn K C = true)
  (hw : PySem.Within mA ns) (hsz : ns.length <= sizeLine)
  (h : ∀ h', ObjM h' x dx C (fun y => if y = name then some v else mA y) -> Heap.SameBut dx s.heap h' -> Q () { s with heap := h', toks := s.toks + 2 }) :
  wpAny (model prog w) A (setAttr (.ref x) name v) Q E s := by
 obtain ⟨od, J, hl⟩ := I.look
 refine PySem.W.set_plain X J hs (PySem.W.osa_open (s := { s with toks := s.toks + 1 }) (r := none) X J hp ht fun b => ?_)
 obtain ⟨cd, hc, hd'⟩ := PySem.W.any_some hh
 have hx : s.heap.get? x = some ⟨.ref C, some dx, .plain, #[]⟩ := I.obj
 refine wpAny_bind (wpAny_pure (wpAny_bind (wpAny_bind (wpAny_loadPart hx (wpAny_bind (PySem.W.Looks.here (s := { s with toks := s.toks + 1 }) (PySem.W.looks_clsIn X hc) ?_))))))
 rw [hd']
 refine wpAny_pure (a := some dx) (wpAny_bind (wpAny_pure (wpAny_bind ?_)))
 refine wpAny_nsSet1 (s := { s with toks := s.toks + 1 }) I.ns fun h' hn2 hs2 => ?_
 obtain ⟨oD, esD, epD, hoD, hdD, hcD⟩ := hn2.count (PySem.Within.cons name v hw)
 refine wpAny_bind (wpAny_lookBehind hoD (by rw [hdD]; exact pastItsLine_dict (Nat.le_trans hcD (by rw [List.length_cons]; omega))) ?_)
 exact wpAny_pure (h _ ⟨(hs2.2 _ (Ne.symm I.ne)).trans I.obj, hn2, I.ne⟩ hs2)
theorem make_map {R : Result -> Shared -> Prop} {vs : List Value} {kw : List (Str × Value)} (X : K.In s.heap) (hm : PySem.W.makesIn K C = true)
  (hi : PySem.W.findIn K (.ref C) "__init__" = some (some (.ref f))) (hf : PySem.W.typeIn K (.ref f) = some (.type "function"))
  (h : codeAny (model prog w) (A.under (.builtin "type.__call__" ⟨.ref C :: vs, kw⟩)) (.call (.ref f) ⟨.ref (s.heap.objs.size + 1) :: vs, kw⟩) (PySem.W.InitBack (s.heap.objs.size + 1) R)
   { s with heap := (s.heap.push PySem.W.emptyDict).push (PySem.W.instObj C s.heap.objs.size) }) :
  codeAny (model prog w) A (.call (.ref C) ⟨vs, kw⟩) R s := by
 obtain ⟨hh, g, d, t, os⟩ := s
 exact PySem.W.make_core (PySem.W.makes_of X hm) (PySem.W.looks_findIn X hi) (fun self => PySem.W.bind_fn X self hf) (.inl rfl) h
end
def putF (f : Str) (v : V) : List (Str × V) -> List (Str × V)
 | [] => [(f, v)]
 | (g, x) :: r => if g = f then (g, v) :: r else (g, x) :: putF f v r
theorem lookup_putF (f g : Str) (v : V) : ∀ fs : List (Str × V), (putF f v fs).lookup g = if g = f then some v else fs.lookup g
 | [] => by
  show List.lookup g [(f, v)] = _
  by_cases h : g = f
  ·have hb : (g == f) = true := beq_iff_eq.mpr h
   simp only [List.lookup, hb, if_pos h]
  ·have hb : (g == f) = false := beq_eq_false_iff_ne.mpr h
   simp only [List.lookup, hb, if_neg h]
 | (k, x) :: r => by
  have ih := lookup_putF f g v r
  rw [show putF f v ((k, x) :: r) = (if k = f then (k, v) :: r else (k, x) :: putF f v r) from rfl]
  by_cases hk : k = f
  ·rw [if_pos hk]
   by_cases h : g = k
   ·have hb : (g == k) = true := beq_iff_eq.mpr h
    simp only [List.lookup, hb, if_pos (h.trans hk)]
   ·have hb : (g == k) = false := beq_eq_false_iff_ne.mpr h
    simp only [List.lookup, hb, if_neg (fun e : g = f => h (e.trans hk.symm))]
  ·rw [if_neg hk]
   by_cases h : g = k
   ·have hb : (g == k) = true := beq_iff_eq.mpr h
    simp only [List.lookup, hb, if_neg (fun e : g = f => hk (h.symm.trans e))]
   ·have hb : (g == k) = false := beq_eq_false_iff_ne.mpr h
    simp only [List.lookup, hb]
    exact ih
theorem keys_putF (f : Str) (v : V) : ∀ fs : List (Str × V), f ∈ (putF f v fs).map (·.1) /\ ∀ g, g ∈ fs.map (·.1) -> g ∈ (putF f v fs).map (·.1)
 | [] => ⟨by simp [putF], fun g h => by simp at h⟩
 | (k, x) :: r => by
  obtain ⟨i1, i2⟩ := keys_putF f v r
  rw [show putF f v ((k, x) :: r) = (if k = f then (k, v) :: r else (k, x) :: putF f v r) from rfl]
  by_cases hk : k = f
  ·rw [if_pos hk]
   subst hk
   exact ⟨by simp, fun g h => by simpa using h⟩
  ·rw [if_neg hk]
   refine ⟨?_, fun g h => ?_⟩
   ·rw [List.map_cons]
    exact List.mem_cons_of_mem _ i1
   ·rw [List.map_cons] at h ⊢
    rcases List.mem_cons.mp h with e | e
    ·exact List.mem_cons.mpr (.inl e)
    ·exact List.mem_cons_of_mem _ (i2 g e)
theorem length_putF (f : Str) (v : V) : ∀ fs : List (Str × V), (putF f v fs).length <= fs.length + 1
 | [] => by simp [putF]
 | (k, x) :: r => by
  have ih := length_putF f v r
  rw [show putF f v ((k, x) :: r) = (if k = f then (k, v) :: r else (k, x) :: putF f v r) from rfl]
  by_cases hk : k = f
  ·rw [if_pos hk, List.length_cons, List.length_cons]; omega
  ·rw [if_neg hk, List.length_cons, List.length_cons]; omega
theorem RelO.some_of {v : V} {o : Option Value} (r : RelO (some v) o) : ∃ u, o = some u /\ RelV v u := by
 cases o with
 | none => exact (show False from r).elim
 | some u => exact ⟨u, rfl, r⟩
theorem RelO.none_of {o : Option Value} (r : RelO none o) : o = none := by
 cases o with
 | none => rfl
 | some u => exact (show False from r).elim
theorem handed_of {v : V} {u : Value} (r : RelV v u) : PySem.W.handedIn u = true := by
 cases v with
 | non => cases (show u = Value.none from r); rfl
 | bl b => cases (show u = Value.bool b from r); rfl
 | int i => obtain ⟨t, e⟩ := (show ∃ t, u = Value.int i t from r); cases e; rfl
 | str x => obtain ⟨t, e⟩ := (show ∃ t, u = Value.str x t from r); cases e; rfl
 | byt b => obtain ⟨t, e⟩ := (show ∃ t, u = Value.bytes b t from r); cases e; rfl
 | flt b => obtain ⟨t, e⟩ := (show ∃ t, u = Value.float b t from r); cases e; rfl
 | ref a => cases (show u = Value.ref a from r); rfl
 | ty n => cases (show u = Value.type n from r); rfl
section
variable {P : Program} {w : World} {H H' : Hp} {h h' : Heap} {a C dx : Addr} {fs fs' : List (Str × V)}
theorem ins_get (hok : HOk P w H h) (e : H a = some (.ins C dx fs)) : ∃ mA, ObjM h a dx C mA /\ (∀ f, RelO (fs.lookup f) (mA f)) /\ PySem.Within mA (fs.map (·.1)) /\ fs.length <= 1000 /\ H dx = some (.own a) := by
 obtain ⟨d, z, ne, ob, mA, n, r, q⟩ := (show ObjOk P w H h a (.ins C dx fs) from hok a _ e)
 exact ⟨mA, ⟨ob, n, ne⟩, r, q, z, d⟩
end
structure Cls (K : PySem.W.Frag) (C : Addr) : Prop where
 pg : PySem.W.plainGet K C Str.empty = true
 hd : PySem.W.hasDictIn K C = true
 po : PySem.W.plainOver K C = true
 sa : PySem.W.findIn K (.ref C) "__setattr__" = some (some (.builtin "object.__setattr__"))
theorem Cls.get {K : PySem.W.Frag} {C : Addr} (c : Cls K C) (f : Str) : PySem.W.plainGet K C f = true := c.pg
def NoAttr (K : PySem.W.Frag) (C : Addr) (f : Str) : Prop := PySem.W.findIn K (.ref C) f = some none
theorem NoAttr.taker {K : PySem.W.Frag} {C : Addr} {f : Str} (n : NoAttr K C f) : PySem.W.takerIn K C f = some none := by
 unfold PySem.W.takerIn
 rw [show PySem.W.findIn K (.ref C) f = some none from n]
 rfl
structure Meth (K : PySem.W.Frag) (C : Addr) (m : Str) (f : Addr) : Prop where
 at_ : PySem.W.findIn K (.ref C) m = some (some (.ref f))
 fn : PySem.W.isFn K (.ref f) = true
 kp : PySem.W.keepIn K (.ref f) = true
section
variable {X : Cx} {pins : List (Addr × Obj)} {σ : St} {H : Hp} {s : Shared} {a C dx : Addr} {fs : List (Str × V)} {f : Str} {v : V} {A : Around} {E : Value -> Shared -> Prop}
theorem getattr_ok {b : Bool} {Q : Value -> Shared -> Prop} (I : Inv X pins σ H s) (e : H a = some (.ins C dx fs)) (c : Cls X.K C) (n : NoAttr X.K C f) (l : fs.lookup f = some v)
  (h : ∀ u s', Inv X pins σ H s' -> RelV v u -> Q u s') : wpAny (model X.prog X.w) A (getAttr (.ref a) f b) Q E s := by
 obtain ⟨mA, O, r, _, _, _⟩ := ins_get I.hok e
 obtain ⟨u, hu, ru⟩ := RelO.some_of (v := v) (o := mA f) (by rw [<- l]; exact r f)
 exact get_map I.kIn O (c.get f) c.hd n hu (handed_of ru) (h u _ (I.tok _) ru)
theorem getmeth_ok {m : Str} {g : Addr} {pl : Sem Bool} {Q : Value × List Value -> Shared -> Prop} (I : Inv X pins σ H s) (e : H a = some (.ins C dx fs)) (c : Cls X.K C) (k : Meth X.K C m g) (l : fs.lookup m = none)
  (h : Q (.ref g, [.ref a]) s) : wpAny (model X.prog X.w) A (getMethod (.ref a) m pl) Q E s := by
 obtain ⟨mA, O, r, _, _, _⟩ := ins_get I.hok e
 have hn : mA m = none := RelO.none_of (by rw [<- l]; exact r m)
 exact get_meth I.kIn O (c.get m) k.at_ k.fn hn h
theorem setattr_ok {y : V} {u : Value} {Q : Unit -> Shared -> Prop} (I : Inv X pins σ H s) (e : H a = some (.ins C dx fs)) (c : Cls X.K C) (n : NoAttr X.K C f) (hl : fs.length < 1000) (ry : RelV y u)
  (h : ∀ s', Inv X pins σ (upd H a (.ins C dx (putF f y fs))) s' -> Q () s') : wpAny (model X.prog X.w) A (setAttr (.ref a) f u) Q E s := by
 obtain ⟨mA, O, r, wi, _, ho⟩ := ins_get I.hok e
 have hz : (fs.map (·.1)).length <= sizeLine := by rw [List.length_map, sizeLine_eq]; omega
 refine set_map I.kIn O c.sa c.po n.taker c.hd wi hz fun h' O' sb => h _ ?_
 have hd : ∃ o, h'.get? dx = some o := let ⟨o, _, _, e', _⟩ := O'.ns; ⟨o, e'⟩
 refine I.write (x := a) (e := dx) (by rw [e]; exact True.intro) (.inr ho) (fun b q hb z => (sb.2 b hb).trans z) hd ?_
 refine ⟨by rw [upd_ne O.ne]; exact ho, ?_, O.ne, O'.obj, _, O'.ns, fun g => ?_, fun g hg => ?_⟩
 ·have := length_putF f y fs; omega
 ·show RelO ((putF f y fs).lookup g) (if g = f then some u else mA g)
  rw [lookup_putF]
  by_cases q : g = f
  ·rw [if_pos q, if_pos q]; exact ry
  ·rw [if_neg q, if_neg q]; exact r g
 ·by_cases q : g = f
  ·rw [q]; exact (keys_putF f y fs).1
  ·refine (keys_putF f y fs).2 g (wi g fun z => hg ?_)
   show (if g = f then some u else mA g) = none
   rw [if_neg q]; exact z
theorem Inv.made (I : Inv X pins σ H s) : Inv X pins σ (upd (upd H s.heap.objs.size (.own (s.heap.objs.size + 1))) (s.heap.objs.size + 1) (.ins C s.heap.objs.size []))
  { s with heap := (s.heap.push PySem.W.emptyDict).push (PySem.W.instObj C s.heap.objs.size) } := by
 have e1 : (s.heap.push PySem.W.emptyDict).get? s.heap.objs.size = some PySem.W.emptyDict := Heap.get?_push_size s.heap rfl
 have e2 : ((s.heap.push PySem.W.emptyDict).push (PySem.W.instObj C s.heap.objs.size)).get? (s.heap.objs.size + 1) = some (PySem.W.instObj C s.heap.objs.size) := by
  have := Heap.get?_push_size (s.heap.push PySem.W.emptyDict) (o := PySem.W.instObj C s.heap.objs.size) rfl
  rwa [Heap.size_push] at this
 have e3 : (s.heap.push PySem.W.emptyDict).Ns s.heap.objs.size (fun _ => none) := ⟨PySem.W.emptyDict, #[], _, e1, rfl, (fun e he => absurd he (by simp)), fun _ => rfl⟩
 have I1 := I.laid (a := s.heap.objs.size) (o := .own (s.heap.objs.size + 1)) (h' := s.heap.push PySem.W.emptyDict) (t' := s.toks) (fun b u q => Heap.get?_push_of_some _ q) (Nat.le_refl _) ⟨_, e1⟩
 refine I1.laid (a := s.heap.objs.size + 1) (o := .ins C s.heap.objs.size []) (t' := s.toks) (fun b u q => Heap.get?_push_of_some _ q) (Nat.le_of_eq (Heap.size_push _ _)) ?_
 have ne : s.heap.objs.size ≠ s.heap.objs.size + 1 := Nat.ne_of_lt (Nat.lt_succ_self _)
 refine ⟨by rw [upd_ne ne, upd_same], Nat.zero_le _, ne, e2, fun _ => none, (Heap.Ns1.of_empty e3).at fun o q => Heap.get?_push_of_some _ q, fun _ => True.intro, fun y hy => absurd rfl hy⟩
theorem attr_of {prog : Program} {w : World} {env : Env} {e : Expr} {f : Str} {pos : Pos} {s : Shared} {Q : Value -> Shared -> Prop} (hb : attributeBase e f env (eval e env) = eval e env)
  (h : wpAny (model prog w) A (eval e env) (fun o s₁ => wpAny (model prog w) A (getAttr o f true) Q E s₁) E s) : wpAny (model prog w) A (eval (.Attribute e f pos) env) Q E s :=
 Attribute_any_ h (by rw [arm_eval_Attribute, hb])
end
def tFld (K : PySem.W.Frag) (ta : TE) (f : Str) : TE := fun σ H Q => ta σ H fun x H1 => ∃ a C dx fs v, x = .ref a /\ H1 a = some (.ins C dx fs) /\ Cls K C /\ NoAttr K C f /\ fs.lookup f = some v /\ Q v H1
def sFld (K : PySem.W.Frag) (ta tv : TE) (f : Str) : TS := fun D σ H => tv σ H fun y H1 => ta σ H1 fun x H2 => ∃ a C dx fs, x = .ref a /\ H2 a = some (.ins C dx fs) /\ Cls K C /\ NoAttr K C f /\ fs.length < 1000 /\
 D.nx σ (upd H2 a (.ins C dx (putF f y fs)))
section
variable {X : Cx} {o e value : Expr} {f : Str} {pos pos' tpos : Pos} {ta tv : TE}
theorem pe_fld (he : PE X e ta) (hb : attributeBase e f X.env (eval e X.env) = eval e X.env) : PE X (.Attribute e f pos) (tFld X.K ta f) := by
 intro pins s σ H Q I h
 refine attr_of hb (thn (he pins s σ H _ I h) fun u s1 ⟨x, H1, I1, rx, a, C, dx, fs, v, ex, ea, c, n, l, q⟩ => ?_)
 subst ex
 obtain rfl : u = Value.ref a := rx
 exact getattr_ok I1 ea c n l fun u' s2 I2 ru => ⟨v, H1, I2, ru, q⟩
theorem ps_fld (ha : PE X o ta) (hv : PE X value tv) (hs : swapsWith value (some (.Attribute o f pos')) pos.line X.env = pure false) : PS X (.Assign [.Attribute o f pos'] value pos) (sFld X.K ta tv f) := by
 intro pins s σ H D I h
 refine plainObj_wpAny_Assign_Attribute (thn (hv pins s σ H _ I h) fun u s1 ⟨y, H1, I1, ry, q⟩ => thn (ha pins s1 σ H1 _ I1 q) fun ov s2 ⟨x, H2, I2, rx, a, C, dx, fs, ex, ea, c, n, l, q2⟩ => ?_) hs
 subst ex
 obtain rfl : ov = Value.ref a := rx
 exact setattr_ok I2 ea c n l ry fun s3 I3 => ⟨σ, _, I3, q2⟩
end
section
variable {X : Cx} {pins : List (Addr × Obj)} {σ : St} {H : Hp} {s : Shared} {A : Around} {E : Value -> Shared -> Prop} {Q : Value -> Shared -> Prop} {c : Value} {b : Bool}
inductive TyOf (K : PySem.W.Frag) (H : Hp) : V -> Value -> Prop where
 | non : TyOf K H .non (.type "NoneType")
 | bl (x : Bool) : TyOf K H (.bl x) (.type "bool")
 | int (i : Int) : TyOf K H (.int i) (.type "int")
 | str (x : Str) : TyOf K H (.str x) (.type "str")
 | flt (x : UInt64) : TyOf K H (.flt x) (.type "float")
 | lst {a : Addr} {xs : List V} (e : H a = some (.lst xs)) : TyOf K H (.ref a) (.type "list")
 | frz {a : Addr} {o : Obj} {xs : List V} (e : H a = some (.frz o (.lst xs))) : TyOf K H (.ref a) (.type "list")
 | tup {a : Addr} {xs : List V} (e : H a = some (.tup xs)) : TyOf K H (.ref a) (.type "tuple")
 | dK {a : Addr} {kvs : List (Key × V)} (e : H a = some (.dK kvs)) : TyOf K H (.ref a) (.type "dict")
 | dT {a : Addr} {kvs : List (List Key × V)} (e : H a = some (.dT kvs)) : TyOf K H (.ref a) (.type "dict")
 | ins {a C dx : Addr} {fs : List (Str × V)} (e : H a = some (.ins C dx fs)) (cl : Cls K C) (ha : PySem.W.findIn K (.ref C) "__class__" = some (some (.builtin "object.__class__")))
   (hn : PySem.W.specialIn K (.builtin "object.__class__") "__get__" = some (some (.builtin "getset_descriptor.__get__"))) (htk : PySem.W.takesIn K (.builtin "object.__class__") = some true)
   (hm : PySem.W.mroIn K C (.type "object") = some true) : TyOf K H (.ref a) (.ref C)
theorem isinst_ok {x : V} {u t : Value} (I : Inv X pins σ H s) (rx : RelV x u) (ty : TyOf X.K H x t) (e : PySem.W.kitOne X.K t c = some b) (h : ∀ tk, Q (.bool b) { s with toks := tk }) :
  wpAny (model X.prog X.w) A (call (.builtin "isinstance") [u, c]) Q E s := by
 cases ty with
 | non => cases (show u = Value.none from rx); exact PySem.W.kia_one PySem.W.kitx_none I.kIn True.intro e (fun z => nomatch z) h
 | bl y => cases (show u = Value.bool y from rx); exact PySem.W.kia_one PySem.W.kitx_bool I.kIn True.intro e (fun z => nomatch z) h
 | int i => obtain ⟨t, q⟩ := (show ∃ t, u = Value.int i t from rx); cases q; exact PySem.W.kia_one PySem.W.kitx_int I.kIn True.intro e (fun z => nomatch z) h
 | str y => obtain ⟨t, q⟩ := (show ∃ t, u = Value.str y t from rx); cases q; exact PySem.W.kia_one PySem.W.kitx_str I.kIn True.intro e (fun z => nomatch z) h
 | flt y => obtain ⟨t, q⟩ := (show ∃ t, u = Value.float y t from rx); cases q; exact PySem.W.kia_one PySem.W.kitx_float I.kIn True.intro e (fun z => nomatch z) h
 | @lst a xs ea =>
  cases (show u = Value.ref a from rx)
  obtain ⟨_, _, n, _, h1⟩ := (show ObjOk X.prog X.w H s.heap a (.lst xs) from I.hok a _ ea)
  exact PySem.W.kia_one PySem.W.kitx_list I.kIn ⟨_, h1, rfl⟩ e (fun z => nomatch z) h
 | @frz a ob xs ea =>
  cases (show u = Value.ref a from rx)
  obtain ⟨_, _, _, n, _, h1⟩ := (show ObjOk X.prog X.w H s.heap a (.frz ob (.lst xs)) from I.hok a _ ea)
  exact PySem.W.kia_one PySem.W.kitx_list I.kIn ⟨_, h1, rfl⟩ e (fun z => nomatch z) h
 | @tup a xs ea =>
  cases (show u = Value.ref a from rx)
  obtain ⟨_, _, _, p, _⟩ := (show ObjOk X.prog X.w H s.heap a (.tup xs) from I.hok a _ ea)
  obtain ⟨o, h1, h2, _⟩ := p
  exact PySem.W.kia_one PySem.W.kitx_tuple I.kIn ⟨o, h1, h2⟩ e (fun z => nomatch z) h
 | @dK a kvs ea =>
  cases (show u = Value.ref a from rx)
  obtain ⟨_, _, vs, _, p⟩ := (show ObjOk X.prog X.w H s.heap a (.dK kvs) from I.hok a _ ea)
  obtain ⟨o, es, ep, h1, h2, _⟩ := p
  exact PySem.W.kia_one PySem.W.kitx_dict I.kIn ⟨o, h1, h2.1⟩ e (fun z => nomatch z) h
 | @dT a kvs ea =>
  cases (show u = Value.ref a from rx)
  obtain ⟨_, _, xs, _, o, es, ep, h1, h2, _⟩ := (show ObjOk X.prog X.w H s.heap a (.dT kvs) from I.hok a _ ea)
  exact PySem.W.kia_one PySem.W.kitx_dict I.kIn ⟨o, h1, h2.1⟩ e (fun z => nomatch z) h
 | @ins a C dx fs ea cl ha hn htk hm =>
  cases (show u = Value.ref a from rx)
  obtain ⟨mA, O, _⟩ := ins_get I.hok ea
  obtain ⟨od, J, _⟩ := O.look
  exact PySem.W.kia_one (PySem.W.kitx_own (cl.get _) cl.hd ha hn htk hm) I.kIn J e (fun z => nomatch z) h
end
end L2
namespace L2
open PySem PySem.Spec PyProof.Rows
structure Room (k : Nat) (A : Around) (cm : Bool := true) : Prop where
 hd : cm = true -> A.handled = none
 dp : A.depth + 3 * k + 5 < recursionLimit
 un : A.units + 16 * k + 200 < cLine
theorem Room.mono {j k : Nat} {A : Around} {cm : Bool} (r : Room k A cm) (h : j <= k) : Room j A cm := ⟨r.hd, by have := r.dp; omega, by have := r.un; omega⟩
theorem Room.deeper {k : Nat} {A : Around} {cm : Bool} (r : Room (k + 1) A cm) (env : Env) : Room k (A.deeper env) cm :=
 ⟨r.hd, by have := r.dp; show A.depth + 1 + 3 * k + 5 < _; omega, by have := r.un; show A.units + 3 + 16 * k + 200 < _; omega⟩
theorem make_depth {A : Around} {C : Addr} {us : List Value} {kw : List (Str × Value)} : (A.under (.builtin "type.__call__" ⟨.ref C :: us, kw⟩)).depth = A.depth + 1 := by
 first | rfl | simp [Around.under, Code.weight, Code.isCreation, Code.isGuard, Code.isCaller, Code.frames, Code.isFrame, guardIds]
theorem make_units {A : Around} {C : Addr} {us : List Value} {kw : List (Str × Value)} : (A.under (.builtin "type.__call__" ⟨.ref C :: us, kw⟩)).units = A.units + 1 := by
 first | rfl | simp [Around.under, Code.cUnits, Code.frames, Code.isFrame]
theorem Room.make {k : Nat} {A : Around} {cm : Bool} (r : Room (k + 1) A cm) (C : Addr) (us : List Value) (kw : List (Str × Value)) : Room k (A.under (.builtin "type.__call__" ⟨.ref C :: us, kw⟩)) cm :=
 ⟨r.hd, by have := r.dp; rw [make_depth]; omega, by have := r.un; rw [make_units]; omega⟩
theorem Room.depth {k : Nat} {A : Around} {cm : Bool} (r : Room k A cm) : A.depth < recursionLimit := by have := r.dp; omega
theorem Room.units {k : Nat} {A : Around} {cm : Bool} (r : Room k A cm) : A.units + 64 < cLine := by have := r.un; omega
def tNil : TA := fun _ H Q => Q [] H
def tCons (ta : TE) (tr : TA) : TA := fun σ H Q => ta σ H fun x H1 => tr σ H1 fun xs H2 => Q (x :: xs) H2
section
variable {X : Cx} {e : Expr} {es : List Expr} {te : TE} {t : TA} {pos : Pos}
theorem pa_nil : PA X [] tNil := fun _ _ _ _ H Q I h => Calls.spliced_nil ⟨[], H, I, .nil, h⟩
theorem pa_cons (ha : PE X e te) (hr : PA X es t) (hs : starEach (e :: es) X.env = (false, eval e X.env) :: starEach es X.env := by rfl) : PA X (e :: es) (tCons te t) := by
 intro pos pins s σ H Q I h
 rw [hs]
 show wpAny _ _ (spliced ((false, eval e X.env) :: backTo pos (starEach es X.env))) _ _ s
 refine Calls.spliced_cons (thn (ha pins s σ H _ I h) fun u s1 ⟨x, H1, I1, r1, q1⟩ => ?_)
 exact thn (hr pos pins s1 σ H1 _ I1 q1) fun us s2 ⟨xs, H2, I2, r2, q2⟩ => ⟨x :: xs, H2, I2, .cons r1 r2, q2⟩
def tTup (t : TA) : TE := fun σ H Q => t σ H fun xs H1 => xs.length <= sizeLine /\ ∀ p, H1 p = none -> Q (.ref p) (upd H1 p (.tup xs))
def tLst (t : TA) : TE := fun σ H Q => t σ H fun xs H1 => xs.length <= sizeLine /\ ∀ p, H1 p = none -> Q (.ref p) (upd H1 p (.lst xs))
theorem pe_tup {x1} (h : PA X es t) : PE X (.Tuple es x1 pos) (tTup t) := by
 intro pins s σ H Q I hq
 refine wpAny_Tuple_spliced (thn (h pos pins s σ H _ I hq) fun us s1 ⟨xs, H1, I1, r, z, q⟩ => ⟨by rw [<- r.length]; exact z, ?_⟩)
 have hf : H1 s1.heap.objs.size = none := I1.hok.fresh (Nat.le_refl _)
 refine ⟨.ref s1.heap.objs.size, upd H1 s1.heap.objs.size (.tup xs), I1.laid (t' := s1.toks) (fun b u e => Heap.get?_push_of_some _ e) (Nat.le_refl _) ?_, rfl, q _ hf⟩
 exact ⟨z, us, r, ⟨_, Heap.get?_push_size _ rfl, rfl, _, rfl⟩, tup_nodict⟩
theorem pe_lst (h : PA X es t) : PE X (.List es pos) (tLst t) := by
 intro pins s σ H Q I hq
 refine wpAny_List_spliced (thn (h pos pins s σ H _ I hq) fun us s1 ⟨xs, H1, I1, r, z, q⟩ => ⟨by rw [<- r.length]; exact z, ?_⟩)
 have hf : H1 s1.heap.objs.size = none := I1.hok.fresh (Nat.le_refl _)
 refine ⟨.ref s1.heap.objs.size, upd H1 s1.heap.objs.size (.lst xs), I1.laid (t' := s1.toks) (fun b u e => Heap.get?_push_of_some _ e) (Nat.le_refl _) ?_, rfl, q _ hf⟩
 exact ⟨z, us, 0, r, Heap.get?_push_size _ rfl⟩
end
abbrev Sp := List V -> Hp -> VK -> XK -> Prop
abbrev CXT := List Env -> Hp -> Shared -> XK -> Value -> Shared -> Prop
structure Env0 (P : Program) (w : World) (K : PySem.W.Frag) (mg : Str -> Option Value) (base : Heap) (A : Around) (outer : List Env) (s : Shared) (H : Hp) : Prop where
 frames : A.frames = some outer
 mod : Mod K mg base
 bs : ∀ b o, base.get? b = some o -> s.heap.get? b = some o /\ H b = none
 bsz : base.objs.size <= s.heap.objs.size
 funs : s.heap.FunFrames base outer
 frf : ∀ b ∈ frs outer, H b = none
 hok : HOk P w H s.heap
 bare : AllBare s.gens
def CE (outer : List Env) (P : Program) (w : World) (H : Hp) (s : Shared) (Q : VK) (u : Value) (s' : Shared) : Prop :=
 ∃ v H', s'.os = s.os /\ AllBare s'.gens /\ Un (frs outer) [] H H' s.heap s'.heap /\ HOk P w H' s'.heap /\ RelV v u /\ Q v H'
def CR (CX : CXT) (outer : List Env) (P : Program) (w : World) (H : Hp) (s : Shared) (Q : VK) (E : XK) (r : Result) (s' : Shared) : Prop :=
 match r with
 | .ok (.ret u) => CE outer P w H s Q u s'
 | .ok _ => False
 | .error e => CX outer H s E e s'
structure FnOk (P : Program) (w : World) (K : PySem.W.Frag) (mg : Str -> Option Value) (base : Heap) (CX : CXT) (k : Nat) (f : Addr) (fd : FuncData) (ps : List Str) (sp : Sp) (cm : Bool := true) : Prop where
 len : ∀ vs H Q E, sp vs H Q E -> vs.length = ps.length
 run : ∀ (A : Around) (outer : List Env) (s : Shared) (H : Hp) (args : Args) (us : List Value) (vs : List V) (Q : VK) (E : XK), Room k A cm -> Env0 P w K mg base A outer s H -> BindsTo s fd args (ps.zip us) -> Vals vs us -> sp vs H Q E ->
  codeAny (model P w) A (.call (.ref f) args) (CR CX outer P w H s Q E) s
theorem Env0.make {P : Program} {w : World} {K : PySem.W.Frag} {mg : Str -> Option Value} {base : Heap} {A : Around} {outer : List Env} {s : Shared} {H : Hp} (e : Env0 P w K mg base A outer s H) (C : Addr) (us : List Value) (kw : List (Str × Value)) :
  Env0 P w K mg base (A.under (.builtin "type.__call__" ⟨.ref C :: us, kw⟩)) outer s H := ⟨by first | exact e.frames | (simpa [Around.under, Code.envs, Code.isFrame, pushEnvs] using e.frames), e.mod, e.bs, e.bsz, e.funs, e.frf, e.hok, e.bare⟩
section
variable {X : Cx} {pins : List (Addr × Obj)} {σ : St} {H : Hp} {s s' : Shared}
theorem Inv.env0 (I : Inv X pins σ H s) : Env0 X.prog X.w X.K X.mg X.base X.A X.stack s H :=
 ⟨I.ok.frames, I.ok.mod, I.bs, Nat.le_trans I.ok.bsz I.sz, I.stack, I.stkFree, I.hok, I.bare⟩
theorem Inv.after {Q : VK} {u : Value} (I : Inv X pins σ H s) (h : CE X.stack X.prog X.w H s Q u s') : EP X pins σ Q u s' := by
 obtain ⟨v, H', os, bare, un, hok, r, q⟩ := h
 obtain ⟨hh, g, d, t, os'⟩ := s'
 obtain rfl : os' = s.os := os
 exact ⟨v, H', I.call (h' := hh) (g' := g) (d' := d) (t' := t) (ch := []) un hok bare (fun b z => absurd z (by simp)), r, q⟩
end
def tCall (sp : Sp) (dvs : List V) (E : XK) (t : TA) : TE := fun σ H Q => t σ H fun vs H1 => sp (vs ++ dvs) H1 Q E
def tMeth (C : Addr) (m : Str) (sp : Sp) (dvs : List V) (E : XK) (ta : TE) (t : TA) : TE := fun σ H Q => ta σ H fun x H1 => ∃ a dx fs, x = .ref a /\ H1 a = some (.ins C dx fs) /\ fs.lookup m = none /\
 t σ H1 fun vs H2 => sp (x :: (vs ++ dvs)) H2 Q E
def tMake (C : Addr) (sp : Sp) (dvs : List V) (E : XK) (t : TA) : TE := fun σ H Q => t σ H fun vs H1 => ∀ x dx, H1 x = none -> H1 dx = none -> dx ≠ x ->
 sp (.ref x :: (vs ++ dvs)) (upd (upd H1 dx (.own x)) x (.ins C dx [])) (fun v H2 => v = .non /\ Q (.ref x) H2) E
def Binds (K : PySem.W.Frag) (fd : FuncData) (ps : List Str) (ds : List Value) : Prop :=
 ∀ (s : Shared) (us : List Value), K.In s.heap -> (us ++ ds).length = ps.length -> BindsTo s fd ⟨us, []⟩ (ps.zip (us ++ ds))
theorem Binds.all {K : PySem.W.Frag} {fd : FuncData} {ps : List Str} (h : ∀ us : List Value, us.length = ps.length -> bindArgs fd ⟨us, []⟩ = pure (ps.zip us)) : Binds K fd ps [] := fun s us _ hl => by
 rw [List.append_nil] at hl ⊢
 exact .of_eq (h us hl)
def Passes (CX : CXT) (X : Cx) (E : XK) : Prop := ∀ (pins : List (Addr × Obj)) (σ : St) (H : Hp) (s : Shared) (e : Value) (s' : Shared), Inv X pins σ H s -> CX X.stack H s E e s' -> X.xe e s'
section
variable {cm : Bool} {X : Cx} {CX : CXT} {k : Nat} {f C : Addr} {fd : FuncData} {ps : List Str} {sp : Sp} {dvs : List V} {ds : List Value} {E : XK} {x m : Str} {p pos apos : Pos} {e o : Expr} {es : List Expr} {ta : TE} {t : TA}
theorem run_fn {pins : List (Addr × Obj)} {σ : St} {H : Hp} {s : Shared} {Q : VK} {us : List Value} {vs : List V} (F : FnOk X.prog X.w X.K X.mg X.base CX k f fd ps sp cm) (hr : Room k X.A cm) (hb : Binds X.K fd ps ds) (hd : Vals dvs ds) (hx : Passes CX X E)
  (I : Inv X pins σ H s) (r : Vals vs us) (h : sp (vs ++ dvs) H Q E) : wpAny (model X.prog X.w) X.A (call (.ref f) us) (EP X pins σ Q) X.xe s := by
 have r2 : Vals (vs ++ dvs) (us ++ ds) := r.append hd
 have hl : (us ++ ds).length = ps.length := by rw [<- r2.length]; exact F.len _ _ _ _ h
 refine wpAny_call (codeAny_mono (F.run X.A X.stack s H ⟨us, []⟩ (us ++ ds) (vs ++ dvs) Q E hr I.env0 (hb s us I.kIn hl) r2 h) fun r s' hq => ?_)
 cases r with
 | error e => exact hx pins σ H s e s' I hq
 | ok fl =>
  cases fl with
  | ret u => exact I.after hq
  | next => exact False.elim hq
  | brk => exact False.elim hq
  | cont => exact False.elim hq
theorem pe_call (F : FnOk X.prog X.w X.K X.mg X.base CX k f fd ps sp cm) (hr : Room k X.A cm) (hg : Gl X x) (hm : X.mg x = some (.ref f)) (hk : PySem.W.keepIn X.K (.ref f) = true) (hb : Binds X.K fd ps ds) (hd : Vals dvs ds) (hx : Passes CX X E)
  (ha : PA X (e :: es) t) (hdb : (x == ("__debug__" : Str)) = false := by decide) (he : starEach (e :: es) X.env = (false, eval e X.env) :: starEach es X.env := by rfl) (hpl : (backTo pos (starEach es X.env)).any (·.1) = false := by rfl) :
  PE X (.Call (.Name x p) (e :: es) [] pos) (tCall sp dvs E t) := by
 intro pins s σ H Q I h
 refine wpAny_Call_Name_kw (ld_glob I hg hm ?_ hdb)
 refine PySem.W.callWith_K (h₀ := X.base) I.ok.mod.kin hk (thn (ha pos pins s σ H _ I h) fun us s1 ⟨vs, H1, I1, r, q⟩ => ⟨I1.kIn, ?_⟩) he hpl
 exact run_fn F hr hb hd hx I1 r q
theorem pe_meth0 {pl : Sem Bool} (he : PE X o ta) (c : Cls X.K C) (hm : Meth X.K C m f) (F : FnOk X.prog X.w X.K X.mg X.base CX k f fd ps sp cm) (hr : Room k X.A cm) (hb : Binds X.K fd ps ds) (hd : Vals dvs ds) (hx : Passes CX X E)
  (ht : eval (.Call (.Attribute o m apos) [] [] pos) X.env = (do
   let ov <- eval o X.env
   standAt apos.atName
   let (f, first) <- holding [ov] (getMethod ov m pl)
   callWith pos f first (backTo pos (starEach [] X.env)) (backToKw pos (keywordEach [] X.env))) := by rfl) :
  PE X (.Call (.Attribute o m apos) [] [] pos) (tMeth C m sp dvs E ta tNil) := by
 intro pins s σ H Q I h
 refine PySem.W.methodCall_KW (pl := pl) (thn (he pins s σ H _ I h) fun u s1 ⟨x, H1, I1, rx, a, dx, fs, ex, ea, l, q⟩ => ?_) ht
 subst ex
 obtain rfl : u = Value.ref a := rx
 refine getmeth_ok I1 ea c hm l ?_
 exact PySem.W.callWith_K0 (first := [.ref a]) I1.kIn hm.kp (run_fn (us := [.ref a]) (vs := [.ref a]) F hr hb hd hx I1 (.cons rfl .nil) q)
structure Mk (K : PySem.W.Frag) (C f : Addr) : Prop where
 makes : PySem.W.makesIn K C = true
 init : PySem.W.findIn K (.ref C) "__init__" = some (some (.ref f))
 fn : PySem.W.isFn K (.ref f) = true
 kp : PySem.W.keepIn K (.ref C) = true
theorem run_make {pins : List (Addr × Obj)} {σ : St} {H : Hp} {s : Shared} {Q : VK} {us : List Value} {vs : List V} (M : Mk X.K C f) (F : FnOk X.prog X.w X.K X.mg X.base CX k f fd ps sp cm) (hr : Room (k + 1) X.A cm) (hb : Binds X.K fd ps ds) (hd : Vals dvs ds)
  (hx : Passes CX X E) (I : Inv X pins σ H s) (r : Vals vs us)
  (h : ∀ x dx, H x = none -> H dx = none -> dx ≠ x -> sp (.ref x :: (vs ++ dvs)) (upd (upd H dx (.own x)) x (.ins C dx [])) (fun v H2 => v = .non /\ Q (.ref x) H2) E) :
  wpAny (model X.prog X.w) X.A (call (.ref C) us) (EP X pins σ Q) X.xe s := by
 have hq := h (s.heap.objs.size + 1) s.heap.objs.size (I.hok.fresh (Nat.le_succ _)) (I.hok.fresh (Nat.le_refl _)) (Nat.ne_of_lt (Nat.lt_succ_self _))
 have I2 := Inv.made (C := C) I
 have r2 : Vals (V.ref (s.heap.objs.size + 1) :: (vs ++ dvs)) (Value.ref (s.heap.objs.size + 1) :: (us ++ ds)) := .cons rfl (r.append hd)
 have hl : (Value.ref (s.heap.objs.size + 1) :: us ++ ds).length = ps.length := by
  have e := r2.length
  rw [F.len _ _ _ _ hq] at e
  exact e.symm
 refine wpAny_call (make_map (f := f) I.kIn M.makes M.init (beq_iff_eq.mp M.fn) (codeAny_mono (F.run _ X.stack _ _ ⟨Value.ref (s.heap.objs.size + 1) :: us, []⟩ (Value.ref (s.heap.objs.size + 1) :: (us ++ ds)) _ _ E (hr.make C us [])
  (I2.env0.make C us []) (hb _ (Value.ref (s.heap.objs.size + 1) :: us) I2.kIn hl) r2 hq) fun r s' hq' => ?_))
 cases r with
 | error e => exact hx pins σ _ _ e s' I2 hq'
 | ok fl =>
  cases fl with
  | ret u =>
   obtain ⟨v, H', I3, rv, ev, q3⟩ := I2.after hq'
   subst ev
   exact ⟨rv, ⟨V.ref (s.heap.objs.size + 1), H', I3, rfl, q3⟩⟩
  | next => exact False.elim hq'
  | brk => exact False.elim hq'
  | cont => exact False.elim hq'
theorem pe_make (M : Mk X.K C f) (F : FnOk X.prog X.w X.K X.mg X.base CX k f fd ps sp cm) (hr : Room (k + 1) X.A cm) (hg : Gl X x) (hm : X.mg x = some (.ref C)) (hb : Binds X.K fd ps ds) (hd : Vals dvs ds) (hx : Passes CX X E)
  (ha : PA X (e :: es) t) (hdb : (x == ("__debug__" : Str)) = false := by decide) (he : starEach (e :: es) X.env = (false, eval e X.env) :: starEach es X.env := by rfl) (hpl : (backTo pos (starEach es X.env)).any (·.1) = false := by rfl) :
  PE X (.Call (.Name x p) (e :: es) [] pos) (tMake C sp dvs E t) := by
 intro pins s σ H Q I h
 refine wpAny_Call_Name_kw (ld_glob I hg hm ?_ hdb)
 refine PySem.W.callWith_K (h₀ := X.base) I.ok.mod.kin M.kp (thn (ha pos pins s σ H _ I h) fun us s1 ⟨vs, H1, I1, r, q⟩ => ⟨I1.kIn, ?_⟩) he hpl
 exact run_make M F hr hb hd hx I1 r q
end
section
variable {cm : Bool} {X : Cx} {CX : CXT} {k : Nat} {f C : Addr} {fd : FuncData} {ps ks : List Str} {sp : Sp} {E : XK} {x m : Str} {p pos apos kpos : Pos} {e o : Expr} {es : List Expr} {kws : List Keyword} {te ta : TE} {t tk : TA} {nm : Option Str}
variable {g : List Value -> List Value -> List Value} {gV : List V -> List V -> List V}
end
structure FnScope (N P : List Str) (sc : Scope) : Prop where
 kind : sc.kind = .function
 co : sc.isCoroutine = false
 gen : sc.isGenerator = false
 nd : N.Nodup
 pre : N.take P.length = P
 par : ∀ x ∈ P, sc.names.lookup x = some .local \/ sc.names.lookup x = some .cell
 nofree : ∀ y ∈ sc.names, y.2 ≠ .free
theorem bindL_out {kindOf : Str -> Option NameKind} {x : Str} : ∀ {binds : List (Str × Value)} {m : Str -> Option Value}, (∀ v, (x, v) ∉ binds) -> bindL kindOf binds m x = m x
 | [], _, _ => rfl
 | (n, v) :: r, m, h => by
  unfold bindL
  rw [bindL_out fun w hw => h w (List.mem_cons_of_mem _ hw)]
  split
  ·have : x ≠ n := by rintro rfl; exact h v List.mem_cons_self
   simp [this]
  ·rfl
theorem bindC_out {kindOf : Str -> Option NameKind} {x : Str} : ∀ {binds : List (Str × Value)} {m : Str -> Option Value}, (∀ v, (x, v) ∉ binds) -> bindC kindOf binds m x = m x
 | [], _, _ => rfl
 | (n, v) :: r, m, h => by
  unfold bindC
  rw [bindC_out fun w hw => h w (List.mem_cons_of_mem _ hw)]
  split
  ·rfl
  ·have : x ≠ n := by rintro rfl; exact h v List.mem_cons_self
   simp [this]
theorem bindL_get {kindOf : Str -> Option NameKind} {x : Str} {v : Value} : ∀ {P : List Str} {vs : List Value} {i : Nat} {m : Str -> Option Value}, P.Nodup -> P[i]? = some x -> vs[i]? = some v -> kindOf x = some .local ->
  bindL kindOf (P.zip vs) m x = some v
 | [], _, _, _, _, h, _, _ => by simp at h
 | _ :: _, [], _, _, _, _, h, _ => by simp at h
 | p :: P, w :: vs, 0, m, nd, h1, h2, hk => by
  simp at h1 h2; subst h1; subst h2
  show bindL kindOf ((p, w) :: P.zip vs) m p = _
  unfold bindL
  rw [bindL_out fun v hv => (List.nodup_cons.mp nd).1 (List.of_mem_zip hv).1, if_pos hk]
  simp
 | p :: P, w :: vs, i + 1, m, nd, h1, h2, hk => by
  show bindL kindOf ((p, w) :: P.zip vs) m x = _
  unfold bindL
  exact bindL_get (i := i) (List.nodup_cons.mp nd).2 (by simpa using h1) (by simpa using h2) hk
theorem bindC_get {kindOf : Str -> Option NameKind} {x : Str} {v : Value} : ∀ {P : List Str} {vs : List Value} {i : Nat} {m : Str -> Option Value}, P.Nodup -> P[i]? = some x -> vs[i]? = some v -> kindOf x ≠ some .local ->
  bindC kindOf (P.zip vs) m x = some v
 | [], _, _, _, _, h, _, _ => by simp at h
 | _ :: _, [], _, _, _, _, h, _ => by simp at h
 | p :: P, w :: vs, 0, m, nd, h1, h2, hk => by
  simp at h1 h2; subst h1; subst h2
  show bindC kindOf ((p, w) :: P.zip vs) m p = _
  unfold bindC
  rw [bindC_out fun v hv => (List.nodup_cons.mp nd).1 (List.of_mem_zip hv).1, if_neg hk]
  simp
 | p :: P, w :: vs, i + 1, m, nd, h1, h2, hk => by
  show bindC kindOf ((p, w) :: P.zip vs) m x = _
  unfold bindC
  exact bindC_get (i := i) (List.nodup_cons.mp nd).2 (by simpa using h1) (by simpa using h2) hk
def start (N : List Str) (vs : List V) : St := vs.map some ++ List.replicate (N.length - vs.length) none
def cxOf (CX : CXT) (P : Program) (w : World) (K : PySem.W.Frag) (mg : Str -> Option Value) (base : Heap) (N : List Str) (qual : Str) (scope : Scope) (f : Addr) (cd : Value) (A : Around) (outer : List Env) (s : Shared) (H : Hp) (E : XK) (cm : Bool := true) : Cx where
 prog := P
 w := w
 K := K
 mg := mg
 base := base
 A := A.deeper (envOfC qual scope s.heap.objs.size f cd)
 N := N
 s₀ := s
 H₀ := H
 env := envOfC qual scope s.heap.objs.size f cd
 outer := outer
 stack := envOfC qual scope s.heap.objs.size f cd :: outer
 ex := []
 calm := cm
 fn := fun _ => true
 pn := []
 xe := fun e s' => wpAny (model P w) (A.deeper (envOfC qual scope s.heap.objs.size f cd)) (leaving (envOfC qual scope s.heap.objs.size f cd) e) (fun _ s'' => CX outer H s E e s'') (fun e' s'' => CX outer H s E e' s'') s'
theorem cell_has {sc : Scope} {n : Nat} {x : Str} (h : sc.names.lookup x = some .cell) : ∃ c, (cellsFrom n sc.names []).lookup x = some c := by
 have q := PySem.W.cellsFrom_some sc.names n [] (.inl h)
 exact Option.isSome_iff_exists.mp q
theorem inv_start {CX : CXT} {P : Program} {w : World} {K : PySem.W.Frag} {mg : Str -> Option Value} {base : Heap} {N ps : List Str} {qual : Str} {scope : Scope} {f : Addr} {cd : Value} {A : Around} {outer : List Env} {s s1 : Shared} {H : Hp} {E : XK} {cm : Bool} {us : List Value} {vs : List V}
  (S : FnScope N ps scope) (hd : cm = true -> A.handled = none) (e0 : Env0 P w K mg base A outer s H) (hl : vs.length = ps.length) (r : Vals vs us)
  (x : InCallC s s.heap.objs.size (bindL (envOfC qual scope s.heap.objs.size f cd).kindOf (ps.zip us) fun _ => none) (cellsFrom (s.heap.objs.size + 1) scope.names []) (bindC (envOfC qual scope s.heap.objs.size f cd).kindOf (ps.zip us) fun _ => none) s1) :
  Inv (cxOf CX P w K mg base N qual scope f cd A outer s H E cm) [] (start N vs) H s1 := by
 have hpl : ps.length <= N.length := by have := congrArg List.length S.pre; rw [List.length_take] at this; omega
 obtain ⟨h1, tk, rfl, hk⟩ := x.done
 have noA : ∀ b : Addr, b ∉ (cxOf CX P w K mg base N qual scope f cd A outer s H E cm).ex := fun b z => absurd (show b ∈ ([] : List Addr) from z) (by simp)
 refine ⟨⟨e0.mod, S.kind, rfl, rfl, Nat.le_refl _, fun y z c h1 h2 => ?_, fun y hy => ?_, fun y c _ h => ?_, hd, Around.frames_deeper e0.frames, .inr ⟨rfl, rfl⟩, fun b z => absurd z (noA b), e0.bs, e0.bsz, fun b _ _ => noA b, fun b z => absurd z (noA b), e0.funs, e0.frf⟩,
  rfl, e0.bare, Un.kept hk, ⟨_, x.toInCall.ns, fun i y v h1 h2 h3 => ?_⟩, fun y c h => ⟨_, x.cell y c h⟩, e0.hok.fresh (Nat.le_refl _), fun y c h => ?_, fun p hp => absurd (show p ∈ ([] : List (Addr × Obj)) from hp) (by simp), e0.hok.kept hk, ?_⟩
 ·exact name_of_addr x.apart (PySem.mem_of_lookup h1) (PySem.mem_of_lookup h2)
 ·have hy : scope.names.lookup y = some .cell \/ scope.names.lookup y = some .free := hy
  rcases hy with hy | hy
  ·exact cell_has hy
  ·exact absurd rfl (S.nofree _ (PySem.mem_of_lookup hy))
 ·exact Nat.le_of_lt (x.above y c (PySem.mem_of_lookup h))
 ·have hi : i < vs.length := by
   unfold start at h2
   by_cases hi : i < vs.length
   ·exact hi
   ·rw [List.getElem?_append_right (by simpa using hi)] at h2
    rw [List.getElem?_replicate] at h2
    split at h2 <;> cases h2
  have ha : vs[i]? = some v := by
   unfold start at h2
   rw [List.getElem?_append_left (by simpa using hi), List.getElem?_map] at h2
   cases e : vs[i]? with
   | none => rw [e] at h2; cases h2
   | some a => rw [e] at h2; cases h2; rfl
  obtain ⟨u, hu, rv⟩ := r.get ha
  have hp : ps[i]? = some y := by
   rw [<- S.pre, List.getElem?_take_of_lt (by omega)]; exact h1
  have ndP : ps.Nodup := by rw [<- S.pre]; exact S.nd.sublist (List.take_sublist _ _)
  refine ⟨u, rv, ?_⟩
  rcases S.par y (List.mem_of_getElem? hp) with k | k
  ·exact .inl ⟨k, bindL_get ndP hp hu k⟩
  ·obtain ⟨c, e⟩ := cell_has (n := s.heap.objs.size + 1) k
   refine .inr ⟨.inl k, c, e, ?_⟩
   have q := x.cell y c e
   rw [bindC_get ndP hp hu (by show scope.names.lookup y ≠ _; rw [k]; decide)] at q
   exact q
 ·exact e0.hok.fresh (Nat.le_of_lt (x.above y c (PySem.mem_of_lookup h)))
 ·unfold start
  show _ = N.length
  rw [List.length_append, List.length_map, List.length_replicate]
  omega
theorem fn_of {CX : CXT} {P : Program} {w : World} {K : PySem.W.Frag} {mg : Str -> Option Value} {base : Heap} {k : Nat} {f : Addr} {name qual : Str} {params : Arguments} {body : List Stmt} {scope : Scope} {dV kV doc pm cdv ct oc : Value} {an od : Option Addr}
  {osl : Array (Option Value)} {N ps : List Str} {sp : Sp} {cm : Bool} (lk : K.lookup f = some ⟨oc, od, .func (PySem.W.fnOf name qual params body scope dV kV doc pm an cdv ct), osl⟩) (hcd : PySem.W.codeIn K cdv qual = true) (S : FnScope N ps scope)
  (len : ∀ vs H Q E, sp vs H Q E -> vs.length = ps.length)
  (hbody : ∀ (A : Around) (outer : List Env) (s : Shared) (H : Hp) (vs : List V) (Q : VK) (E : XK), Room k (A.deeper (envOfC qual scope s.heap.objs.size f cdv)) cm -> sp vs H Q E ->
   ∃ t, PSs (cxOf CX P w K mg base N qual scope f cdv A outer s H E cm) body t /\ t { nx := fun _ H' => Q .non H', rt := Q } (start N vs) H) :
  FnOk P w K mg base CX (k + 1) f (PySem.W.fnOf name qual params body scope dV kV doc pm an cdv ct) ps sp cm := by
 refine ⟨len, fun A outer s H args us vs Q E hr e0 hb r hsp => ?_⟩
 have hl := len _ _ _ _ hsp
 have KX : K.In s.heap := e0.mod.kin.keeps fun b o e => (e0.bs b o e).1
 have lim : s.heap.NoLimit := e0.mod.nolimit.keeps fun b o e => (e0.bs b o e).1
 have hkind : ∀ y ∈ ps.zip us, scope.names.lookup y.1 = some .local \/ (scope.names.lookup y.1 = some .cell /\ ((cellsFrom (s.heap.objs.size + 1) scope.names []).lookup y.1).isSome = true) := fun ⟨n, v⟩ hy => by
  rcases S.par n (List.of_mem_zip hy).1 with q | q
  ·exact .inl q
  ·exact .inr ⟨q, PySem.W.cellsFrom_some _ _ _ (.inl q)⟩
 refine codeAny_call_function hr.depth (KX _ _ lk) rfl S.co S.gen rfl (PySem.W.codeRec_of KX hcd) (hb _ _ _ _ ?_)
 refine wpAny_newFunctionEnv_cells S.kind hkind fun env he s1 x => ?_
 subst he
 refine ⟨lim.keeps x.toInCall.keep, codeAny_func ?_⟩
 obtain ⟨t, ht, hq⟩ := hbody A outer s H vs Q E (hr.deeper _) hsp
 have I : Inv (cxOf CX P w K mg base N qual scope f cdv A outer s H E cm) [] (start N vs) H s1 := inv_start S hr.hd e0 hl r x
 refine wpAny_mono (ht [] s1 (start N vs) H _ I hq) (fun fl s' hs => ?_) fun e s' hs => hs
 have fin : ∀ {σ' : St} {H' : Hp} {v : V} {u : Value}, Inv (cxOf CX P w K mg base N qual scope f cdv A outer s H E cm) [] σ' H' s' -> RelV v u -> Q v H' -> CE outer P w H s Q u s' :=
  fun {σ' H' v u} J rv q => ⟨v, H', J.os, J.bare, J.base, J.hok, rv, q⟩
 cases fl with
 | ret u =>
  obtain ⟨v, σ', H', J, rv, q⟩ := hs
  exact fin J rv q
 | next =>
  obtain ⟨σ', H', J, q⟩ := hs
  exact fin (v := V.non) (u := Value.none) J rfl q
 | brk =>
  obtain ⟨_, _, _, q⟩ := hs
  exact False.elim q
 | cont =>
  obtain ⟨_, _, _, q⟩ := hs
  exact False.elim q
end L2
namespace L2
open PySem PySem.Spec PyProof.Rows
section
variable {X : Cx} {x : Str} {p pos : Pos} {e : Expr} {es : List Expr} {t : TA} {id T : String} {r : List V -> Hp -> VK -> Prop}
def tCB (r : List V -> Hp -> VK -> Prop) (t : TA) : TE := fun σ H Q => t σ H fun vs H1 => r vs H1 Q
theorem pe_callB (hc : CallR X (.builtin id) r) (hg : Gl X x) (hm : X.mg x = none) (hv : bootBuiltins x = some (.builtin id)) (ha : PA X (e :: es) t) (hn : x ≠ "__name__" := by decide) (hdb : (x == ("__debug__" : Str)) = false := by decide)
  (he : starEach (e :: es) X.env = (false, eval e X.env) :: starEach es X.env := by rfl) (hpl : (backTo pos (starEach es X.env)).any (·.1) = false := by rfl) : PE X (.Call (.Name x p) (e :: es) [] pos) (tCB r t) := by
 intro pins s σ H Q I h
 refine wpAny_Call_Name_kw (ld_blt I hg hm hv ?_ hn hdb)
 exact PyProof.Rows.callWith_builtin1 (thn (ha pos pins s σ H _ I h) fun us s1 ⟨vs, H1, I1, r1, q1⟩ => hc pins s1 σ H1 vs us Q I1 r1 q1) he hpl
theorem pe_callTy (hc : CallR X (.type T) r) (hg : Gl X x) (hm : X.mg x = none) (hv : bootBuiltins x = some (.type T)) (ha : PA X (e :: es) t) (hn : x ≠ "__name__" := by decide) (hdb : (x == ("__debug__" : Str)) = false := by decide)
  (he : starEach (e :: es) X.env = (false, eval e X.env) :: starEach es X.env := by rfl) (hpl : (backTo pos (starEach es X.env)).any (·.1) = false := by rfl) : PE X (.Call (.Name x p) (e :: es) [] pos) (tCB r t) := by
 intro pins s σ H Q I h
 refine wpAny_Call_Name_kw (ld_blt I hg hm hv ?_ hn hdb)
 exact PyProof.Rows.callWith_type1 (thn (ha pos pins s σ H _ I h) fun us s1 ⟨vs, H1, I1, r1, q1⟩ => hc pins s1 σ H1 vs us Q I1 r1 q1) he hpl
end
end L2
namespace HT
open PySem PyProof.Rows
section
open PySem.SeqAt
open PySem.AutoSeq1 (wpAny_loadPart')
open PySem.MeetsSeq PySem.MeetsSeq2 PySem.MeetsSeq3
end
section
variable {prog : Program} {w : World} {A : Around} {E : Value -> Shared -> Prop} {s : Shared}
theorem cat_tup {t b : Addr} {vs ws : List Value} {Q : Value -> Shared -> Prop} (ht : IsTup s.heap t vs.toArray) (hb : IsTup s.heap b ws.toArray) (hv : vs ≠ [])
  (h1 : ws = [] -> Q (.ref t) s) (h2 : ws ≠ [] -> Q (.ref s.heap.objs.size) { s with heap := s.heap.push { cls := .type "tuple", data := .seq (vs ++ ws).toArray } })
  (hsz : vs.length + ws.length <= sizeLine) : wpAny (model prog w) A (binaryOp .Add (.ref t) (.ref b)) Q E s := by
 obtain ⟨⟨cls, dd, data, sl⟩, ho, hc, n, hd⟩ := id ht
 obtain ⟨⟨cls2, dd2, data2, sl2⟩, ho2, hc2, n2, hd2⟩ := id hb
 simp only at hc hd hc2 hd2
 subst hc hd hc2 hd2
 have e : vs.toArray ++ ws.toArray = (vs ++ ws).toArray := by simp
 by_cases hw : ws = []
 ·exact concat_meets ⟨_, ho, rfl⟩ ⟨_, ho2, rfl⟩ noFill_tuple_add seq_tuple_add PySem.F.slot_tuple_add PySem.F.entry_tuple_add (PySem.F.args_tuple_add_2 _ _)
   (tuple_addW1 t b vs.toArray ws.toArray n n2 dd dd2 sl sl2 (by simpa using hv) (by simp [hw])) ⟨ho, ho2, h1 hw⟩
 ·refine concat_meets ⟨_, ho, rfl⟩ ⟨_, ho2, rfl⟩ noFill_tuple_add seq_tuple_add PySem.F.slot_tuple_add PySem.F.entry_tuple_add (PySem.F.args_tuple_add_2 _ _)
   (tuple_addW2 t b vs.toArray ws.toArray n n2 dd dd2 sl sl2 (by simpa using hv) (by simpa using hw) (by rw [List.size_toArray, List.size_toArray]; exact hsz)) ⟨ho, ho2, ?_⟩
  rw [e]
  exact h2 hw
def sIx (n d : Nat) : Option Int -> Nat
 | none => d
 | some v => if v < 0 then (v + (n : Int)).toNat else min v.toNat n
theorem sIx_none (n d : Nat) : sIx n d none = d := rfl
theorem sIx_nat (n d k : Nat) : sIx n d (some (k : Int)) = min k n := by
 show (if (k : Int) < 0 then ((k : Int) + (n : Int)).toNat else min (k : Int).toNat n) = min k n
 rw [if_neg (by omega), Int.toNat_natCast]
theorem sIx_le (n d : Nat) (hd : d <= n) (o : Option Int) : sIx n d o <= n := by
 cases o with
 | none => exact hd
 | some v =>
  show (if v < 0 then (v + (n : Int)).toNat else min v.toNat n) <= n
  by_cases hv : v < 0
  ·rw [if_pos hv]; omega
  ·rw [if_neg hv]; exact Nat.min_le_right _ _
theorem clip_eq (v : Int) (n d : Nat) : (if v < 0 then max (v + (n : Int)) 0 else min v (n : Int)) = ((sIx n d (some v) : Nat) : Int) := by
 show (if v < 0 then max (v + (n : Int)) 0 else min v (n : Int)) = (((if v < 0 then (v + (n : Int)).toNat else min v.toNat n) : Nat) : Int)
 by_cases hv : v < 0
 ·simp only [if_pos hv]; omega
 ·simp only [if_neg hv]; omega
theorem adjust_gen (lo hi : Option Int) (n : Nat) : Builtin.Slice.sliceAdjust lo hi 1 (n : Int) = (((sIx n 0 lo : Nat) : Int), ((sIx n n hi : Nat) : Int)) := by
 have h1 : ¬ ((1 : Int) < 0) := by omega
 unfold Builtin.Slice.sliceAdjust
 simp only [h1, if_false]
 refine Prod.ext ?_ ?_
 ·cases lo with
  | none => rfl
  | some v => exact clip_eq v n 0
 ·cases hi with
  | none => rfl
  | some v => exact clip_eq v n n
theorem places_gen (i j : Nat) : Builtin.Slice.slicePlaces (i : Int) (j : Int) 1 = j - i := by
 unfold Builtin.Slice.slicePlaces
 have h1 : (1 : Int) > 0 := by omega
 simp only [h1, if_true, Int.ediv_one]
 split <;> omega
theorem slicePart_ {v : Value} {o : Option Int} {Q : Option Int -> Shared -> Prop} (p : IsPart v o) (h : Q o s) : wpAny (model prog w) A (Builtin.Slice.slicePartIndex v) Q E s := by
 cases p with
 | none => exact slicePart_none h
 | int i t => exact slicePart_int h
theorem sliceApplied_gen {sl : Addr} {vl vu : Value} {lo hi : Option Int} {n : Nat} {Q : Int × Int × Nat -> Shared -> Prop} (hs : s.heap.IsSliceOf sl vl vu .none) (pl : IsPart vl lo) (pu : IsPart vu hi)
  (h : Q (((sIx n 0 lo : Nat) : Int), 1, sIx n n hi - sIx n 0 lo) s) : wpAny (model prog w) A (Builtin.Slice.sliceApplied (.ref sl) (pure (n : Int))) Q E s := by
 obtain ⟨os, hos, hcs, hds⟩ := id hs
 unfold Builtin.Slice.sliceApplied Builtin.Slice.sliceFields
 refine wpAny_bind (wpAny_bind (wpAny_field hos hds (x := vl) rfl (wpAny_bind (wpAny_field hos hds (x := vu) rfl (wpAny_bind (wpAny_field hos hds (x := .none) rfl (wpAny_pure ?_)))))))
 refine wpAny_bind (slicePart_none ?_)
 show wpAny _ _ (if ((1 : Int) == 0) = true then _ else _) _ _ s
 rw [if_neg (by decide)]
 refine wpAny_bind (slicePart_ pl (wpAny_bind (slicePart_ pu (wpAny_bind (wpAny_pure ?_)))))
 show wpAny _ _ (match Builtin.Slice.sliceAdjust lo hi 1 (n : Int) with | (lo, hi) => pure (lo, (1 : Int), Builtin.Slice.slicePlaces lo hi 1)) _ _ s
 rw [adjust_gen lo hi n]
 show wpAny _ _ (pure (((sIx n 0 lo : Nat) : Int), (1 : Int), Builtin.Slice.slicePlaces ((sIx n 0 lo : Nat) : Int) ((sIx n n hi : Nat) : Int) 1)) _ _ s
 rw [places_gen]
 exact wpAny_pure h
theorem pick_gen (xs : Array Value) (i k : Nat) : ((List.range k).filterMap fun (m : Nat) => xs[((i : Int) + (m : Int) * 1).toNat]?).toArray = ((xs.toList.drop i).take k).toArray := by
 have e : (fun (m : Nat) => xs[((i : Int) + (m : Int) * 1).toNat]?) = fun m => xs[i + m]? := by
  funext m
  have : ((i : Int) + (m : Int) * 1).toNat = i + m := by omega
  rw [this]
 rw [e]
 have := pick_run xs i k
 rw [List.filterMap_map] at this
 have e2 : ((fun x => xs[x]?) ∘ fun x => i + x) = fun m => xs[i + m]? := rfl
 rw [e2] at this
 rw [this]
theorem getItem_tuple_cut {t sl : Addr} {items : Array Value} {vl vu : Value} {lo hi : Option Int} {Q : Value -> Shared -> Prop} (ht : IsTup s.heap t items) (hs : s.heap.IsSliceOf sl vl vu .none) (pl : IsPart vl lo) (pu : IsPart vu hi)
  (hw : ¬ (sIx items.size 0 lo = 0 /\ sIx items.size items.size hi = items.size))
  (h : Q (.ref s.heap.objs.size) { s with heap := s.heap.push { cls := .type "tuple", data := .seq ((items.toList.drop (sIx items.size 0 lo)).take (sIx items.size items.size hi - sIx items.size 0 lo)).toArray } })
  (hsz : items.size <= sizeLine) : wpAny (model prog w) A (getItem (.ref t) (.ref sl)) Q E s := by
 have htake : sizeOk (.seq ((items.toList.drop (sIx items.size 0 lo)).take (sIx items.size items.size hi - sIx items.size 0 lo)).toArray) := by
  show ((items.toList.drop (sIx items.size 0 lo)).take (sIx items.size items.size hi - sIx items.size 0 lo)).toArray.size <= sizeLine
  rw [List.size_toArray, List.length_take, List.length_drop, Array.length_toList]
  omega
 have hj : sIx items.size items.size hi <= items.size := sIx_le _ _ (Nat.le_refl _) hi
 obtain ⟨os, hos, hcs, hds⟩ := id hs
 have hTs : s.TypeIs (.ref sl) "slice" := ⟨os, hos, hcs⟩
 unfold getItem
 try with_reducible refine wpAny_holding ?_
 first | refine wpAny_bind (wpAny_pure ?_) | skip
 refine wpAny_bind (wpAny_sequenceKey ht.typeIs (by decide) ?_)
 refine wpAny_bind (wpAny_callSpecial?_slot (name := Str.ofString "__getitem__") ht.typeIs PyProof.Rows.slot_tuple_getitem
  (wpAny_call_entry PyProof.Rows.slot_tuple_getitem ht.typeIs entry_tuple_getitem ?_ (args_tuple_getitem _ _)))
 show wpAny _ _ (Builtin.Tuple.tupleItemsOf (.ref t) >>= _) _ _ s
 refine wpAny_bind (tupleItemsOf_ ht ?_)
 refine wpAny_bind (wpAny_typeOf hTs ?_)
 rw [if_pos (by decide)]
 refine wpAny_bind (sliceApplied_gen hs pl pu ?_)
 have hno : ¬ ((((sIx items.size 0 lo : Nat) : Int) == 0 && (1 : Int) == 1 && (sIx items.size items.size hi - sIx items.size 0 lo) == items.size) = true) := by
  intro q
  rw [Bool.and_eq_true, Bool.and_eq_true] at q
  have q1 : ((sIx items.size 0 lo : Nat) : Int) = 0 := eq_of_beq q.1.1
  have q2 : sIx items.size items.size hi - sIx items.size 0 lo = items.size := eq_of_beq q.2
  exact hw ⟨by omega, by omega⟩
 show wpAny _ _ (if (((sIx items.size 0 lo : Nat) : Int) == 0 && (1 : Int) == 1 && (sIx items.size items.size hi - sIx items.size 0 lo) == items.size) = true then _ else _) _ _ s
 rw [if_neg hno, pick_gen]
 first
  | exact wpAny_bind (m := Builtin.Tuple.tupleExact _) (wpAny_newObj_type (wpAny_pure ⟨_, rfl, wpAny_pure h⟩) htake)
  | exact wpAny_bind (m := Builtin.Tuple.tupleExact _) (wpAny_newObj_type (wpAny_bind (wpAny_pure (wpAny_pure ⟨_, rfl, wpAny_pure h⟩))) htake)
  | exact wpAny_bind (wpAny_bind (m := Builtin.Tuple.tupleExact _) (wpAny_newObj_type (wpAny_pure (wpAny_pure ⟨_, rfl, wpAny_pure h⟩)) htake))
  | exact wpAny_bind (wpAny_bind (m := Builtin.Tuple.tupleExact _) (wpAny_newObj_type (wpAny_pure ⟨_, rfl, wpAny_pure h⟩) htake))
end
end HT
namespace L2
open PySem PySem.Spec PyProof.Rows
abbrev TO := St -> Hp -> (Option Int -> Hp -> Prop) -> Prop
def PO (X : Cx) (e : Option Expr) (t : TO) : Prop :=
 ∀ (pins : List (Addr × Obj)) (s : Shared) (σ : St) (H : Hp) (Q : Option Int -> Hp -> Prop), Inv X pins σ H s -> t σ H Q ->
  wpAny (model X.prog X.w) X.A (evalPart e X.env) (fun u s' => ∃ o H', Inv X pins σ H' s' /\ IsPart u o /\ Q o H') X.xe s
def tNoPart : TO := fun _ H Q => Q none H
def tPart (t : TE) : TO := fun σ H Q => t σ H fun x H1 => ∃ i, x = .int i /\ Q (some i) H1
theorem intsAre_of {ns : List Int} : ∀ {us : List Value}, Vals (ns.map V.int) us -> IntsAre us ns := by
 induction ns with
 | nil => intro us r; rw [List.map_nil] at r; cases r; exact .nil
 | cons n ns ih =>
  intro us r
  rw [List.map_cons] at r
  cases r with
  | cons r1 r2 =>
   obtain ⟨t, e⟩ := r1
   subst e
   exact .cons n t (ih r2)
section
variable {X : Cx} {e : Expr} {te : TE} {lo hi : Option Expr} {tl th : TO} {pos p2 : Pos}
theorem po_none : PO X none tNoPart := by
 intro pins s σ H Q I h
 rw [evalPart_none]
 exact wpAny_pure ⟨none, H, I, .none, h⟩
theorem po_some (h : PE X e te) : PO X (some e) (tPart te) := by
 intro pins s σ H Q I hw
 rw [evalPart_some]
 refine thn (h pins s σ H _ I hw) fun u s1 ⟨x, H1, I1, r1, q1⟩ => ?_
 obtain ⟨i, rfl, q⟩ := q1
 obtain ⟨t, rfl⟩ := r1
 exact ⟨some i, H1, I1, .int i t, q⟩
def SlR (X : Cx) (r : V -> Option Int -> Option Int -> Hp -> VK -> Prop) : Prop :=
 ∀ (pins : List (Addr × Obj)) (s : Shared) (σ : St) (H : Hp) (x : V) (v vl vu : Value) (lo hi : Option Int) (sl : Addr) (Q : VK), Inv X pins σ H s -> RelV x v -> s.heap.IsSliceOf sl vl vu .none -> IsPart vl lo -> IsPart vu hi -> r x lo hi H Q ->
  ∃ T id, typeLookup (.type T) "__getitem__" = pure (some (.builtin id)) /\ s.TypeIs v T /\ wpAny (model X.prog X.w) X.A (getItem v (.ref sl)) (EP X pins σ Q) X.xe s
theorem SlR.or {r r' : V -> Option Int -> Option Int -> Hp -> VK -> Prop} (h : SlR X r) (h' : SlR X r') : SlR X (fun x lo hi H Q => r x lo hi H Q \/ r' x lo hi H Q) := by
 intro pins s σ H x v vl vu lo hi sl Q I rx hs pl pu q
 rcases q with q | q
 ·exact h pins s σ H x v vl vu lo hi sl Q I rx hs pl pu q
 ·exact h' pins s σ H x v vl vu lo hi sl Q I rx hs pl pu q
def tSl (r : V -> Option Int -> Option Int -> Hp -> VK -> Prop) (te : TE) (tl th : TO) : TE := fun σ H Q => te σ H fun x H1 => tl σ H1 fun l H2 => th σ H2 fun u H3 => r x l u H3 Q
theorem pe_slice {r : V -> Option Int -> Option Int -> Hp -> VK -> Prop} (hr : SlR X r) (he : PE X e te) (hl : PO X lo tl) (hu : PO X hi th) : PE X (.Subscript e (.Slice lo hi none p2) pos) (tSl r te tl th) := by
 intro pins s σ H Q I h
 refine Subscript_ (thn (he pins s σ H _ I h) fun v s1 ⟨x, H1, I1, r1, q1⟩ => ?_)
 refine wpAny_Slice (thn (hl pins s1 σ H1 _ I1 q1) fun vl s2 ⟨l, H2, I2, pl, q2⟩ => thn (hu pins s2 σ H2 _ I2 q2) fun vu s3 ⟨u, H3, I3, pu, q3⟩ => ?_)
 rw [evalPart_none]
 refine wpAny_pure ?_
 have I4 : Inv X pins σ H3 { s3 with heap := s3.heap.push { cls := .type "slice", data := .fields #[vl, vu, .none] } } := I3.kept (t' := s3.toks) fun b ob q => Heap.get?_push_of_some _ q
 obtain ⟨T, id, hT, ht, hg⟩ := hr pins { s3 with heap := s3.heap.push { cls := .type "slice", data := .fields #[vl, vu, .none] } } σ H3 x v vl vu l u s3.heap.objs.size Q I4 r1 (Heap.IsSliceOf.new ..) pl pu q3
 show wpAny (model X.prog X.w) X.A (subscriptTail e (.Slice lo hi none p2) v (.ref s3.heap.objs.size)) (EP X pins σ Q) X.xe { s3 with heap := s3.heap.push { cls := .type "slice", data := .fields #[vl, vu, .none] } }
 exact tail_any (ops := [.ref s3.heap.objs.size, v]) ht hT hg (by with_unfolding_all rfl)
def cutV (xs : List V) (lo hi : Option Int) : List V := (xs.drop (HT.sIx xs.length 0 lo)).take (HT.sIx xs.length xs.length hi - HT.sIx xs.length 0 lo)
theorem cutV_length (xs : List V) (lo hi : Option Int) : (cutV xs lo hi).length <= xs.length := by
 unfold cutV
 rw [List.length_take, List.length_drop]
 omega
def rSlT (K : PySem.W.Frag) : V -> Option Int -> Option Int -> Hp -> VK -> Prop := fun x lo hi H Q => ∃ a xs, x = .ref a /\ SqT K H a xs /\
 ¬ (HT.sIx xs.length 0 lo = 0 /\ HT.sIx xs.length xs.length hi = xs.length) /\ ∀ p, H p = none -> Q (.ref p) (upd H p (.tup (cutV xs lo hi)))
theorem sl_tup : SlR X (rSlT X.K) := by
 intro pins s σ H x v vl vu lo hi sl Q I rx hs pl pu h
 obtain ⟨a, xs, rfl, hx, hw, q⟩ := h
 cases rx
 obtain ⟨its, r, ht, hz⟩ := I.tuple hx
 have hlen : its.toArray.size = xs.length := by rw [List.size_toArray]; exact r.length.symm
 refine ⟨"tuple", _, PyProof.Rows.slot_tuple_getitem.lookup, ht.typeIs, ?_⟩
 refine HT.getItem_tuple_cut ht hs pl pu (by rw [hlen]; exact hw) ?_ (by rw [hlen]; exact hz)
 rw [hlen]
 refine ⟨.ref s.heap.objs.size, _, I.laid (t' := s.toks) (o := .tup (cutV xs lo hi)) (fun b ob q => Heap.get?_push_of_some _ q) (Nat.le_refl _) ?_, rfl, q _ (I.hok.fresh (Nat.le_refl _))⟩
 exact ⟨Nat.le_trans (cutV_length xs lo hi) hz, _, (r.drop (HT.sIx xs.length 0 lo)).take (HT.sIx xs.length xs.length hi - HT.sIx xs.length 0 lo), IsTup.new _ _, tup_nodict⟩
def rCatT (K : PySem.W.Frag) : R2 := fun x y H Q => ∃ a b xs ys, x = .ref a /\ y = .ref b /\ SqT K H a xs /\ SqT K H b ys /\ xs ≠ [] /\ xs.length + ys.length <= sizeLine /\
 (ys = [] -> Q (.ref a) H) /\ (ys ≠ [] -> ∀ p, H p = none -> Q (.ref p) (upd H p (.tup (xs ++ ys))))
theorem Vals.nil_iff {xs : List V} {us : List Value} (r : Vals xs us) : us = [] ↔ xs = [] := by
 cases r with
 | nil => simp
 | cons _ _ => simp
theorem op_catT : OpR X (binaryOp .Add) (rCatT X.K) := by
 intro pins s σ H x y v u Q I rx ry h
 obtain ⟨a, b, xs, ys, rfl, rfl, ha, hb, hx, hz, q1, q2⟩ := h
 cases rx
 cases ry
 obtain ⟨its, r1, p1, _⟩ := I.tuple ha
 obtain ⟨its2, r2, p2, _⟩ := I.tuple hb
 refine HT.cat_tup p1 p2 (fun z => hx (r1.nil_iff.mp z)) (fun z => ⟨.ref a, H, I, rfl, q1 (r2.nil_iff.mp z)⟩) (fun z => ?_) (by rw [<- r1.length, <- r2.length]; exact hz)
 refine ⟨.ref s.heap.objs.size, _, I.laid (t' := s.toks) (o := .tup (xs ++ ys)) (fun b ob q => Heap.get?_push_of_some _ q) (Nat.le_refl _) ?_, rfl, q2 (fun w => z (r2.nil_iff.mpr w)) _ (I.hok.fresh (Nat.le_refl _))⟩
 exact ⟨by rw [List.length_append]; exact hz, _, r1.append r2, IsTup.new _ _, tup_nodict⟩
end
end L2
namespace L2
open PySem PySem.Spec PyProof.Rows
def ixN (n : Nat) (i : Int) : Option Nat := if 0 <= i then (if i < n then some i.toNat else none) else if -(n : Int) <= i then some (i + n).toNat else none
def atI {α : Type} (xs : List α) (i : Int) : Option α := (ixN xs.length i).bind fun j => xs[j]?
theorem ixN_seq {n : Nat} {i : Int} {j : Nat} (h : ixN n i = some j) : seqIndex? i n = some j /\ j < n /\ -(n : Int) <= i /\ i < n := by
 unfold ixN at h
 by_cases h0 : 0 <= i
 ·rw [if_pos h0] at h
  by_cases h1 : i < n
  ·rw [if_pos h1] at h
   have e : i.toNat = j := Option.some.inj h
   exact ⟨by rw [seqIndex_of h0 h1, e], by omega, by omega, h1⟩
  ·rw [if_neg h1] at h; cases h
 ·rw [if_neg h0] at h
  by_cases h1 : -(n : Int) <= i
  ·rw [if_pos h1] at h
   have e : (i + n).toNat = j := Option.some.inj h
   exact ⟨by rw [seqIndex_neg (by omega) h1, e], by omega, h1, by omega⟩
  ·rw [if_neg h1] at h; cases h
theorem atI_get {α : Type} {xs : List α} {i : Int} {v : α} (h : atI xs i = some v) : ∃ j, seqIndex? i xs.length = some j /\ xs[j]? = some v /\ j < xs.length /\ -(xs.length : Int) <= i /\ i < xs.length := by
 unfold atI at h
 cases e : ixN xs.length i with
 | none => rw [e] at h; cases h
 | some j =>
  rw [e] at h
  obtain ⟨h1, h2, h3, h4⟩ := ixN_seq e
  exact ⟨j, h1, h, h2, h3, h4⟩
theorem atI_nat {α : Type} {xs : List α} {j : Nat} {v : α} (h : xs[j]? = some v) : atI xs (j : Int) = some v := by
 have hj : j < xs.length := (List.getElem?_eq_some_iff.mp h).1
 have e : ixN xs.length (j : Int) = some j := by
  unfold ixN
  rw [if_pos (by omega), if_pos (by omega)]; simp
 unfold atI; rw [e]; exact h
theorem atI_last {α : Type} (xs : List α) (v : α) : atI (xs ++ [v]) (-1) = some v := by
 have hl : (xs ++ [v]).length = xs.length + 1 := by simp
 have e : ixN (xs ++ [v]).length (-1) = some xs.length := by
  unfold ixN
  rw [hl, if_neg (by decide), if_pos (by omega)]
  congr 1
  omega
 unfold atI
 rw [e]
 show (xs ++ [v])[xs.length]? = some v
 simp
def PlainIx (b : Expr) : Prop := ∀ o i, subscripted b false o i = operate [o, i] (getItem o i)
def IxR (X : Cx) (r : R2) : Prop :=
 ∀ (value slice : Expr) (pins : List (Addr × Obj)) (s : Shared) (σ : St) (H : Hp) (x y : V) (v u : Value) (Q : VK), Inv X pins σ H s -> RelV x v -> RelV y u -> r x y H Q ->
  subscripted slice false v u = operate [v, u] (getItem v u) -> wpAny (model X.prog X.w) X.A (subscriptTail value slice v u) (EP X pins σ Q) X.xe s
def MtR (X : Cx) (id : String) (r : V -> List V -> Hp -> VK -> Prop) : Prop :=
 ∀ (pins : List (Addr × Obj)) (s : Shared) (σ : St) (H : Hp) (x : V) (xs : List V) (v : Value) (us : List Value) (Q : VK), Inv X pins σ H s -> RelV x v -> Vals xs us -> r x xs H Q ->
  wpAny (model X.prog X.w) X.A (call (.builtin id) (v :: us)) (EP X pins σ Q) X.xe s
section
variable {X : Cx} {a b : Expr} {ta tb : TE} {pos : Pos}
theorem pe_ix {r : R2} (hr : IxR X r) (ha : PE X a ta) (hb : PE X b tb) (hs : PlainIx b) : PE X (.Subscript a b pos) (tOp r ta tb) := by
 intro pins s σ H Q I h
 exact Subscript_ (binT ha hb I h fun v u s2 x y H2 I2 rx ry q => hr a b pins s2 σ H2 x y v u Q I2 rx ry q (hs _ _))
def rIxL (K : PySem.W.Frag) : R2 := fun x y H Q => ∃ p xs i v, x = .ref p /\ y = .int i /\ SqL K H p xs /\ atI xs i = some v /\ Q v H
def rIxT (K : PySem.W.Frag) : R2 := fun x y H Q => ∃ p xs i v, x = .ref p /\ y = .int i /\ SqT K H p xs /\ atI xs i = some v /\ Q v H
theorem ix_list : IxR X (rIxL X.K) := by
 intro value slice pins s σ H x y v u Q I rx ry h hs
 obtain ⟨p, xs, i, z, rfl, rfl, hq, he, q⟩ := h
 cases rx
 obtain ⟨t, rfl⟩ := ry
 obtain ⟨its, r, pl, hz⟩ := I.list hq
 obtain ⟨j, h1, h2, h3, h4, h5⟩ := atI_get he
 obtain ⟨w, ew, rw'⟩ := r.get h2
 have hl := r.length
 have hn := line63
 have fin : EP X pins σ Q w s := ⟨z, H, I, rw', q⟩
 by_cases h0 : 0 <= i
 ·have hj : i.toNat = j := by
   rw [seqIndex_of h0 h5] at h1
   exact Option.some.inj h1
  exact item_listR pl.isList h0 (by omega) (by rw [hj]; simpa using ew) fin hs
 ·have hj : (i + (its.toArray.size : Int)).toNat = j := by
   rw [seqIndex_neg (by omega) h4] at h1
   rw [List.size_toArray, <- hl]
   exact Option.some.inj h1
  exact subscriptTail_builtinR (x := w) pl.isList.typeIs slot_list_getitem.lookup
   (wpAny_getItem_list_neg (Q := fun r s' => r = w /\ EP X pins σ Q r s') pl.isList (by omega) (by rw [List.size_toArray] <;> omega) (by omega) (by rw [hj]; simpa using ew) ⟨rfl, fin⟩) hs
theorem ix_tup : IxR X (rIxT X.K) := by
 intro value slice pins s σ H x y v u Q I rx ry h hs
 obtain ⟨p, xs, i, z, rfl, rfl, hq, he, q⟩ := h
 cases rx
 obtain ⟨t, rfl⟩ := ry
 obtain ⟨its, r, pl, hz⟩ := I.tuple hq
 obtain ⟨j, h1, h2, h3, h4, h5⟩ := atI_get he
 obtain ⟨w, ew, rw'⟩ := r.get h2
 have hl := r.length
 have hn := line63
 have fin : EP X pins σ Q w s := ⟨z, H, I, rw', q⟩
 exact subscriptTail_builtinR (x := w) pl.typeIs slot_tuple_getitem.lookup
  (getItem_tuple (j := j) (Q := fun r s' => r = w /\ EP X pins σ Q r s') pl (by omega) (by omega) (by rw [List.size_toArray, <- hl]; exact h1) (by simpa using ew) ⟨rfl, fin⟩) hs
theorem mapSeq_set (its : List Value) (n j : Nat) (u : Value) : Obj.mapSeq (·.setIfInBounds j u) { cls := .type "list", data := .seq its.toArray n } = { cls := .type "list", data := .seq (its.set j u).toArray n } := by
 simp [Obj.mapSeq]
theorem Inv.lst {pins : List (Addr × Obj)} {σ : St} {H : Hp} {s : Shared} {p : Addr} {xs : List V} (I : Inv X pins σ H s) (h : H p = some (.lst xs)) :
  ∃ (its : List Value) (n : Nat), Vals xs its /\ s.heap.get? p = some { cls := .type "list", data := .seq its.toArray n } /\ xs.length <= sizeLine := by
 obtain ⟨z, its, n, r, e⟩ := I.hok p _ h
 exact ⟨its, n, r, e, z⟩
theorem Inv.lstUpd {pins : List (Addr × Obj)} {σ : St} {H : Hp} {s : Shared} {p : Addr} {xs ys : List V} {its its' : List Value} {n n' : Nat} {f : Obj -> Obj} (I : Inv X pins σ H s) (h : H p = some (.lst xs))
  (ho : s.heap.get? p = some { cls := .type "list", data := .seq its.toArray n }) (hf : f { cls := .type "list", data := .seq its.toArray n } = { cls := .type "list", data := .seq its'.toArray n' }) (r : Vals ys its') (hz : ys.length <= sizeLine) (t : Nat) :
  Inv X pins σ (upd H p (.lst ys)) { s with heap := s.heap.update p f, toks := t } := by
 have e : (s.heap.update p f).get? p = some { cls := .type "list", data := .seq its'.toArray n' } := by
  rw [Heap.get?_update_self f ho (by rw [hf] <;> rfl), hf]
 refine I.write (x := p) (e := p) (by rw [h]; trivial) (.inl rfl) (fun b u hb q => (Heap.get?_update_other _ _ (Ne.symm hb)).trans q) ⟨_, e⟩ ?_
 exact ⟨hz, its', n', r, e⟩
def rSetL : V -> V -> V -> Hp -> (Hp -> Prop) -> Prop := fun o i v H Q => ∃ p xs k j, o = .ref p /\ i = .int k /\ H p = some (.lst xs) /\ ixN xs.length k = some j /\ Q (upd H p (.lst (xs.set j v)))
theorem set_list : PSet X rSetL := by
 intro pins s σ H o i v ov iv u Q I ro ri rv h
 obtain ⟨p, xs, k, j, rfl, rfl, hp, hj, q⟩ := h
 cases ro
 obtain ⟨t, rfl⟩ := ri
 obtain ⟨its, n, r, ho, hz⟩ := I.lst hp
 obtain ⟨h1, h2, h3, h4⟩ := ixN_seq hj
 have hl := r.length
 have hn := line63
 have I' : Inv X pins σ (upd H p (.lst (xs.set j v))) { s with heap := s.heap.update p (Obj.mapSeq (·.setIfInBounds j u)) } :=
  I.lstUpd hp ho (mapSeq_set its n j u) (r.set rv j) (by rw [List.length_set]; exact hz) s.toks
 by_cases h0 : 0 <= k
 ·have hk : k.toNat = j := by
   rw [seqIndex_of h0 h4] at h1
   exact Option.some.inj h1
  exact PySem.W.ki_setAt ho h0 (by omega) (by rw [List.size_toArray, <- hl]; exact h4) (by rw [hk]; exact ⟨_, I', q⟩)
 ·have hk : (k + (its.toArray.size : Int)).toNat = j := by
   rw [seqIndex_neg (by omega) h3] at h1
   rw [List.size_toArray, <- hl]
   exact Option.some.inj h1
  exact PySem.W.ki_setBack ho (by omega) (by rw [List.size_toArray, <- hl]; exact h3) (by omega) (by rw [hk]; exact ⟨_, I', q⟩)
theorem slice_bounds (lo hi : Option Int) (n : Nat) : (sliceBounds lo hi none n).1 = ((HT.sIx n 0 lo : Nat) : Int) /\ (sliceBounds lo hi none n).2.1 = ((HT.sIx n n hi : Nat) : Int) /\ (sliceBounds lo hi none n).2.2 = 1 := by
 refine ⟨?_, ?_, rfl⟩
 ·cases lo with
  | none => simp [sliceBounds, HT.sIx]
  | some i =>
   simp only [sliceBounds, HT.sIx, Option.getD_none, show (1 : Int) > 0 by decide, if_true]
   by_cases h : i < 0
   ·simp only [h, if_true] <;> omega
   ·simp only [h, if_false] <;> omega
 ·cases hi with
  | none => simp [sliceBounds, HT.sIx]
  | some i =>
   simp only [sliceBounds, HT.sIx, Option.getD_none, show (1 : Int) > 0 by decide, if_true]
   by_cases h : i < 0
   ·simp only [h, if_true] <;> omega
   ·simp only [h, if_false] <;> omega
theorem slicePick_cut (its : List Value) (lo hi : Option Int) : slicePick its.toArray lo hi none = ((its.drop (HT.sIx its.length 0 lo)).take (HT.sIx its.length its.length hi - HT.sIx its.length 0 lo)).toArray := by
 obtain ⟨h1, h2, h3⟩ := slice_bounds lo hi its.toArray.size
 unfold slicePick
 rw [h1, h2, h3]
 simp only [sliceRange_one, pick_run, List.size_toArray] <;> rfl
def rSlL (K : PySem.W.Frag) : V -> Option Int -> Option Int -> Hp -> VK -> Prop := fun x lo hi H Q => ∃ a xs, x = .ref a /\ SqL K H a xs /\ ∀ p, H p = none -> Q (.ref p) (upd H p (.lst (cutV xs lo hi)))
theorem sl_list : SlR X (rSlL X.K) := by
 intro pins s σ H x v vl vu lo hi sl Q I rx hs pl pu h
 obtain ⟨a, xs, rfl, hx, q⟩ := h
 cases rx
 obtain ⟨its, r, ht, hz⟩ := I.list hx
 have hlen := r.length
 refine ⟨"list", _, slot_list_getitem.lookup, ht.isList.typeIs, ?_⟩
 refine wpAny_getItem_list_slice ht.isList hs pl pu .none (by simp) ?_ (by rw [List.size_toArray] <;> omega)
 rw [slicePick_cut, <- hlen]
 refine ⟨.ref s.heap.objs.size, _, I.laid (t' := s.toks) (o := .lst (cutV xs lo hi)) (fun b ob q => Heap.get?_push_of_some _ q) (Nat.le_refl _) ?_, rfl, q _ (I.hok.fresh (Nat.le_refl _))⟩
 exact ⟨Nat.le_trans (cutV_length xs lo hi) hz, _, 0, (r.drop (HT.sIx xs.length 0 lo)).take (HT.sIx xs.length xs.length hi - HT.sIx xs.length 0 lo), Heap.get?_push_size _ rfl⟩
def flatV : V -> Bool
 | .non => true
 | .bl _ => true
 | .int _ => true
 | .str _ => true
 | _ => false
def eqV : V -> V -> Bool
 | .non, .non => true
 | .bl a, .bl b => a == b
 | .bl a, .int b => (if a then 1 else 0) == b
 | .int a, .bl b => a == (if b then 1 else 0)
 | .int a, .int b => a == b
 | .str a, .str b => a == b
 | _, _ => false
theorem eqAt_V {A : Around} {s : Shared} {y x : V} {u v : Value} (ry : RelV y u) (rx : RelV x v) (fy : flatV y = true) (fx : flatV x = true) : SeqAt.EqAt A s u v (eqV y x) := by
 cases y with
 | non =>
  cases ry
  cases x with
  | non => cases rx; exact SeqAt.EqAt.same _
  | bl b => cases rx; exact SeqAt.EqAt.none_bool b
  | int b => obtain ⟨t, rfl⟩ := rx; exact SeqAt.EqAt.none_int b t
  | str b => obtain ⟨t, rfl⟩ := rx; exact SeqAt.EqAt.none_str b t
  | _ => exact absurd (show false = true from fx) Bool.false_ne_true
 | bl a =>
  cases ry
  cases x with
  | non => cases rx; exact SeqAt.EqAt.bool_none a
  | bl b => cases rx; exact SeqAt.EqAt.bool_bool a b
  | int b => obtain ⟨t, rfl⟩ := rx; exact SeqAt.EqAt.bool_int a b t
  | str b => obtain ⟨t, rfl⟩ := rx; exact SeqAt.EqAt.bool_str a b t
  | _ => exact absurd (show false = true from fx) Bool.false_ne_true
 | int a =>
  obtain ⟨t', rfl⟩ := ry
  cases x with
  | non => cases rx; exact SeqAt.EqAt.int_none a t'
  | bl b => cases rx; exact SeqAt.EqAt.int_bool a t' b
  | int b => obtain ⟨t, rfl⟩ := rx; exact SeqAt.EqAt.int_int a t' b t
  | str b => obtain ⟨t, rfl⟩ := rx; exact SeqAt.EqAt.int_str a t' b t
  | _ => exact absurd (show false = true from fx) Bool.false_ne_true
 | str a =>
  obtain ⟨t', rfl⟩ := ry
  cases x with
  | non => cases rx; exact SeqAt.EqAt.str_none a t'
  | bl b => cases rx; exact SeqAt.EqAt.str_bool a t' b
  | int b => obtain ⟨t, rfl⟩ := rx; exact SeqAt.EqAt.str_int a t' b t
  | str b => obtain ⟨t, rfl⟩ := rx; exact SeqAt.EqAt.str_str a t' b t
  | _ => exact absurd (show false = true from fx) Bool.false_ne_true
 | _ => exact absurd (show false = true from fy) Bool.false_ne_true
def eqU (x : V) (u : Value) : Bool := match u with
 | .none => eqV .non x
 | .bool b => eqV (.bl b) x
 | .int i _ => eqV (.int i) x
 | .str z _ => eqV (.str z) x
 | _ => false
theorem eqU_of {x y : V} {u : Value} (r : RelV y u) (f : flatV y = true) : eqU x u = eqV y x := by
 cases y with
 | non => cases r; rfl
 | bl b => cases r; rfl
 | int i => obtain ⟨t, rfl⟩ := r; rfl
 | str z => obtain ⟨t, rfl⟩ := r; rfl
 | _ => exact absurd (show false = true from f) Bool.false_ne_true
theorem any_eqU {x : V} : ∀ {xs : List V} {us : List Value}, Vals xs us -> xs.all flatV = true -> us.any (eqU x) = xs.any fun y => eqV y x
 | _, _, .nil, _ => rfl
 | y :: xs, u :: us, .cons r t, f => by
  rw [List.all_cons, Bool.and_eq_true] at f
  rw [List.any_cons, List.any_cons, eqU_of r f.1, any_eqU t f.2]
theorem mem_eqAt {A : Around} {s : Shared} {x : V} {v : Value} (rx : RelV x v) (fx : flatV x = true) : ∀ {xs : List V} {us : List Value}, Vals xs us -> xs.all flatV = true -> ∀ u ∈ us, SeqAt.EqAt A s u v (eqU x u)
 | _, _, .nil, _ => fun u hu => by cases hu
 | y :: xs, u :: us, .cons r t, f => fun u' hu => by
  rw [List.all_cons, Bool.and_eq_true] at f
  rcases List.mem_cons.mp hu with rfl | hu
  ·rw [eqU_of r f.1]; exact eqAt_V r rx f.1 fx
  ·exact mem_eqAt rx fx t f.2 u' hu
def inV (x : V) (xs : List V) : Bool := xs.any fun y => eqV y x
def rIn (K : PySem.W.Frag) (neg : Bool) : R2 := fun x y H Q => ∃ p xs, y = .ref p /\ (SqL K H p xs \/ SqT K H p xs) /\ flatV x = true /\ xs.all flatV = true /\ Q (.bl (if neg then !inV x xs else inV x xs)) H
theorem op_in_seq : OpR X (compareOp .In) (rIn X.K false) := by
 intro pins s σ H x y v u Q I rx ry h
 obtain ⟨p, xs, rfl, hq, fx, fs, q⟩ := h
 cases ry
 rcases hq with hq | hq
 ·obtain ⟨its, r, pl, hz⟩ := I.list hq
  refine SeqAt.in_listAt (eqU x) pl.isList (fun w hw => mem_eqAt rx fx r fs w (by simpa using hw)) ⟨.bl _, H, I, rfl, ?_⟩
  rw [show its.toArray.any (eqU x) = its.any (eqU x) by simp, any_eqU r fs]
  exact q
 ·obtain ⟨its, r, pl, hz⟩ := I.tuple hq
  refine SeqAt.in_tupleAt (eqU x) pl (fun w hw => mem_eqAt rx fx r fs w (by simpa using hw)) ⟨.bl _, H, I, rfl, ?_⟩
  rw [show its.toArray.any (eqU x) = its.any (eqU x) by simp, any_eqU r fs]
  exact q
theorem op_notIn_seq : OpR X (compareOp .NotIn) (rIn X.K true) := by
 intro pins s σ H x y v u Q I rx ry h
 obtain ⟨p, xs, rfl, hq, fx, fs, q⟩ := h
 cases ry
 rcases hq with hq | hq
 ·obtain ⟨its, r, pl, hz⟩ := I.list hq
  refine SeqAt.notIn_listAt (eqU x) pl.isList (fun w hw => mem_eqAt rx fx r fs w (by simpa using hw)) ⟨.bl _, H, I, rfl, ?_⟩
  rw [show its.toArray.any (eqU x) = its.any (eqU x) by simp, any_eqU r fs]
  exact q
 ·obtain ⟨its, r, pl, hz⟩ := I.tuple hq
  refine SeqAt.notIn_tupleAt (eqU x) pl (fun w hw => mem_eqAt rx fx r fs w (by simpa using hw)) ⟨.bl _, H, I, rfl, ?_⟩
  rw [show its.toArray.any (eqU x) = its.any (eqU x) by simp, any_eqU r fs]
  exact q
theorem call_len_seq : CallR X (.builtin "len") (fun xs H Q => ∃ p ys, xs = [.ref p] /\ (SqL X.K H p ys \/ SqT X.K H p ys) /\ Q (.int ys.length) H) := by
 intro pins s σ H xs us Q I r h
 obtain ⟨p, ys, rfl, hq, q⟩ := h
 obtain ⟨u, rfl, rx⟩ := vals1 r
 cases rx
 have hn := line63
 rcases hq with hq | hq
 ·obtain ⟨its, r', pl, hz⟩ := I.list hq
  have hlen := r'.length
  exact Calls.call_len_list pl.isList (by simp only [List.size_toArray] <;> omega) ⟨.int ys.length, H, I.tok _, ⟨s.toks + 1, by rw [List.size_toArray, hlen]⟩, q⟩
 ·obtain ⟨its, r', pl, hz⟩ := I.tuple hq
  have hlen := r'.length
  exact len_tuple pl (by simp only [List.size_toArray] <;> omega) ⟨.int ys.length, H, I.tok _, ⟨s.toks + 1, by rw [List.size_toArray, hlen]⟩, q⟩
theorem call_list_of : CallR X (.type "list") (fun xs H Q => ∃ p ys, xs = [.ref p] /\ (SqL X.K H p ys \/ SqT X.K H p ys) /\ ∀ l, H l = none -> Q (.ref l) (upd H l (.lst ys))) := by
 intro pins s σ H xs us Q I r h
 obtain ⟨p, ys, rfl, hq, q⟩ := h
 obtain ⟨u, rfl, rx⟩ := vals1 r
 cases rx
 have fin : ∀ (its : List Value), Vals ys its -> ys.length <= sizeLine -> ∀ (h' : Heap) (c' : Nat), (∀ b o', s.heap.get? b = some o' -> h'.get? b = some o') ->
   h'.get? s.heap.objs.size = some { cls := .type "list", dict := none, data := .seq its.toArray c', slots := #[] } -> EP X pins σ Q (.ref s.heap.objs.size) { s with heap := h' } := fun its r' hz h' c' kp e =>
  ⟨.ref s.heap.objs.size, _, I.laid (t' := s.toks) kp (Nat.le_refl _) (show ObjOk X.prog X.w _ h' _ (.lst ys) from ⟨hz, its, c', r', e⟩), rfl, q _ (I.hok.fresh (Nat.le_refl _))⟩
 rcases hq with hq | hq
 ·obtain ⟨its, r', pl, hz⟩ := I.list hq
  have hlen := r'.length
  obtain ⟨o, ho, hc, n, hd⟩ := pl.isList
  exact call_list_seq p (.inl rfl) ho hc hd (fun h' c' kp e => fin its r' hz h' c' kp e) (by simp only [List.size_toArray] <;> omega)
 ·obtain ⟨its, r', pl, hz⟩ := I.tuple hq
  have hlen := r'.length
  obtain ⟨o, ho, hc, n, hd⟩ := pl
  exact call_list_seq p (.inr rfl) ho hc hd (fun h' c' kp e => fin its r' hz h' c' kp e) (by simp only [List.size_toArray] <;> omega)
theorem call_tuple_of : CallR X (.type "tuple") (fun xs H Q => ∃ p ys, xs = [.ref p] /\ ((SqL X.K H p ys /\ ∀ l, H l = none -> Q (.ref l) (upd H l (.tup ys))) \/ (SqT X.K H p ys /\ Q (.ref p) H))) := by
 intro pins s σ H xs us Q I r h
 obtain ⟨p, ys, rfl, h⟩ := h
 obtain ⟨u, rfl, rx⟩ := vals1 r
 cases rx
 rcases h with ⟨hq, q⟩ | ⟨hq, q⟩
 ·obtain ⟨its, r', pl, hz⟩ := I.list hq
  have hlen := r'.length
  refine call_tuple_list pl.isList (fun h' kp => ?_) (by simp only [List.size_toArray] <;> omega)
  have I1 : Inv X pins σ H { s with heap := h' } := I.kept (t' := s.toks) kp
  have I2 : Inv X pins σ (upd H h'.objs.size (.tup ys)) { s with heap := h'.push { cls := .type "tuple", data := .seq its.toArray } } :=
   I1.laid (t' := s.toks) (fun b o e => Heap.get?_push_of_some _ e) (Nat.le_refl _) (show ObjOk X.prog X.w _ _ _ (.tup ys) from ⟨hz, its, r', IsTup.new _ _, tup_nodict⟩)
  exact ⟨.ref h'.objs.size, _, I2, rfl, q _ (I1.hok.fresh (Nat.le_refl _))⟩
 ·obtain ⟨its, r', pl, hz⟩ := I.tuple hq
  exact call_tuple_same pl ⟨.ref p, H, I, rfl, q⟩
def tyV (K : PySem.W.Frag) (T : String) (x : V) (H : Hp) : Prop := match x with
 | .str _ => T = "str"
 | .int _ => T = "int"
 | .ref p => (T = "list" /\ ∃ xs, SqL K H p xs) \/ (T = "tuple" /\ ((∃ o, K.lookup p = some o /\ o.cls = .type "tuple" /\ o.dict = none) \/ ∃ xs, H p = some (.tup xs))) \/
   (T = "dict" /\ ((∃ kvs, H p = some (.dK kvs)) \/ ∃ kvs, H p = some (.dT kvs))) \/ (T = "set" /\ ∃ S n, H p = some (.set S n))
 | _ => False
theorem tyV_is {pins : List (Addr × Obj)} {σ : St} {H : Hp} {s : Shared} {T : String} {x : V} {v : Value} (I : Inv X pins σ H s) (r : RelV x v) (ty : tyV X.K T x H) :
  s.TypeIs v T /\ ∀ a, v = .ref a -> ∃ ob, s.heap.get? a = some ob /\ ob.dict = none := by
 cases x with
 | str z =>
  obtain ⟨t, rfl⟩ := r
  cases (show T = "str" from ty)
  exact ⟨typeIs_str s z t, fun _ e => nomatch e⟩
 | int i =>
  obtain ⟨t, rfl⟩ := r
  cases (show T = "int" from ty)
  exact ⟨typeIs_int s i t, fun _ e => nomatch e⟩
 | ref p =>
  cases r
  rcases ty with ⟨rfl, xs, hq⟩ | ⟨rfl, ⟨o, hk, hc, hd⟩ | ⟨xs, hk⟩⟩ | ⟨rfl, hk⟩ | ⟨rfl, S, n, hk⟩
  ·obtain ⟨its, _, pl, _⟩ := I.list hq
   refine ⟨pl.isList.typeIs, fun a e => ?_⟩
   cases e
   obtain ⟨o, n, e, c, hd, _⟩ := pl
   exact ⟨o, e, hd⟩
  ·refine ⟨⟨o, I.kIn p o hk, hc⟩, fun a e => ?_⟩
   cases e
   exact ⟨o, I.kIn _ o hk, hd⟩
  ·obtain ⟨_, _, _, ⟨o, e, hc, _⟩, nd⟩ := (show ObjOk X.prog X.w H s.heap p (.tup xs) from I.hok p _ hk)
   refine ⟨⟨o, e, hc⟩, fun a e2 => ?_⟩
   cases e2
   exact ⟨o, e, nd o e⟩
  ·have z : ∃ o, s.heap.get? p = some o /\ o.ExactDict := by
    rcases hk with ⟨kvs, hk⟩ | ⟨kvs, hk⟩
    ·obtain ⟨_, _, _, _, o, _, _, e, ex, _⟩ := I.hok p _ hk
     exact ⟨o, e, ex⟩
    ·obtain ⟨_, _, _, _, o, _, _, e, ex, _⟩ := I.hok p _ hk
     exact ⟨o, e, ex⟩
   obtain ⟨o, e, ex⟩ := z
   refine ⟨⟨o, e, ex.1⟩, fun a e2 => ?_⟩
   cases e2
   exact ⟨o, e, ex.2.1⟩
  ·obtain ⟨o, _, _, _, e, ex, _⟩ := I.hok p _ hk
   refine ⟨⟨o, e, ex.1⟩, fun a e2 => ?_⟩
   cases e2
   exact ⟨o, e, ex.2.1⟩
 | _ => exact False.elim ty
def tBM0 (K : PySem.W.Frag) (T : String) (r : V -> List V -> Hp -> VK -> Prop) (to : TE) : TE := fun σ H Q => to σ H fun x H1 => tyV K T x H1 /\ r x [] H1 Q
def tBM (K : PySem.W.Frag) (T : String) (r : V -> List V -> Hp -> VK -> Prop) (to : TE) (t : TA) : TE := fun σ H Q => to σ H fun x H1 => tyV K T x H1 /\ t σ H1 fun xs H2 => r x xs H2 Q
variable {o e : Expr} {es : List Expr} {to : TE} {t : TA} {name : Str} {apos cpos : Pos} {T id : String} {r : V -> List V -> Hp -> VK -> Prop}
theorem pe_bm0 (pa : PlainAttrs T) (slot : Slot T name id) (hty : typeOf (.builtin id) = pure (.type "method_descriptor")) (hm : MtR X id r) (ho : PE X o to)
  (hbase : attributeBase o name X.env (eval o X.env) = eval o X.env := by rfl) (hline : (apos.endLine == cpos.line) = true := by rfl) : PE X (.Call (.Attribute o name apos) [] [] cpos) (tBM0 X.K T r to) := by
 intro pins s σ H Q I h
 refine wpAny_Call_method0_late hbase hline (thn (ho pins s σ H _ I h) fun v s1 ⟨x, H1, I1, r1, ty, q1⟩ => ?_)
 obtain ⟨h1, h2⟩ := tyV_is I1 r1 ty
 exact ⟨T, id, pa, slot, hty, h1, h2, Calls.callWith_builtin rfl (PySem.evalArgs_none (hm pins s1 σ H1 x [] v [] Q I1 r1 .nil q1))⟩
theorem pe_bm (pa : PlainAttrs T) (slot : Slot T name id) (hty : typeOf (.builtin id) = pure (.type "method_descriptor")) (hm : MtR X id r) (ho : PE X o to) (ha : PA X (e :: es) t)
  (hbase : attributeBase o name X.env (eval o X.env) = eval o X.env := by rfl)
  (hfew : ((backTo cpos (starEach (e :: es) X.env)).all (fun x => !x.1) && (backToKw cpos (keywordEach [] X.env)).all (fun x => x.1.isSome)
   && decide ((e :: es).length + ([] : List Keyword).length + (if ([] : List Keyword).isEmpty then 0 else 1) < 30)) = true := by rfl)
  (hline : (apos.endLine == cpos.line) = true := by rfl) (hs : starEach (e :: es) X.env = (false, eval e X.env) :: starEach es X.env := by rfl) (hplain : (backTo cpos (starEach es X.env)).any (·.1) = false := by rfl) :
  PE X (.Call (.Attribute o name apos) (e :: es) [] cpos) (tBM X.K T r to t) := by
 intro pins s σ H Q I h
 refine wpAny_Call_method_late hbase hfew hline rfl (thn (ho pins s σ H _ I h) fun v s1 ⟨x, H1, I1, r1, ty, q1⟩ => ?_)
 obtain ⟨h1, h2⟩ := tyV_is I1 r1 ty
 refine ⟨T, id, pa, slot, hty, h1, h2, ?_⟩
 have hA := ha cpos pins s1 σ H1 _ I1 q1
 rw [hs] at hA ⊢
 refine Calls.callWith_builtin (by show (false || (backTo cpos (starEach es X.env)).any (·.1)) = false; rw [hplain] <;> rfl) (Calls.evalArgs_plain ?_)
 exact thn hA fun us s2 ⟨vs, H2, I2, r2, q2⟩ => hm pins s2 σ H2 x vs v us Q I2 r1 r2 q2
/- xs.append(e), list.index on a module's tuple .. are MtR facts of 06m -/
end
end L2
namespace L2
open PySem PySem.Spec PyProof.Rows
def MtM (X : Cx) (id : String) (r : V -> List V -> Hp -> VK -> Prop) : Prop :=
 ∀ (pins : List (Addr × Obj)) (s : Shared) (σ : St) (H : Hp) (x : V) (xs : List V) (v : Value) (us : List Value) (Q : VK), Inv X pins σ H s -> RelV x v -> Vals xs us -> r x xs H Q ->
  wpAny (model X.prog X.w) X.A (call (.builtin id) (v :: us)) (EP X pins σ Q) X.xe s
theorem Vals.one : ∀ {x : V} {us : List Value}, Vals [x] us -> ∃ u, us = [u] /\ RelV x u
 | _, _, .cons r .nil => ⟨_, rfl, r⟩
theorem Vals.zero : ∀ {us : List Value}, Vals [] us -> us = []
 | _, .nil => rfl
theorem Vals.dropLast {xs : List V} {us : List Value} (h : Vals xs us) : Vals xs.dropLast us.dropLast := by
 induction h with
 | nil => exact .nil
 | cons r t ih =>
  cases t with
  | nil => exact .nil
  | cons q t' => exact .cons r ih
theorem Vals.eraseIdx : ∀ {xs : List V} {us : List Value} (i : Nat), Vals xs us -> Vals (xs.eraseIdx i) (us.eraseIdx i)
 | _, _, _, .nil => .nil
 | _, _, 0, .cons _ t => t
 | _, _, i + 1, .cons r t => .cons r (Vals.eraseIdx i t)
theorem Vals.reverse {xs : List V} {us : List Value} (h : Vals xs us) : Vals xs.reverse us.reverse := by
 induction h with
 | nil => exact .nil
 | cons r t ih => rw [List.reverse_cons, List.reverse_cons]; exact Vals.append ih (.cons r .nil)
theorem Vals.rep {xs : List V} {us : List Value} (h : Vals xs us) : ∀ k : Nat, Vals (List.replicate k xs).flatten (List.replicate k us).flatten
 | 0 => .nil
 | k + 1 => by
  rw [List.replicate_succ, List.replicate_succ, List.flatten_cons, List.flatten_cons]
  exact Vals.append h (Vals.rep h k)
theorem erase_last {α : Type} (l : List α) : l.eraseIdx (l.length - 1) = l.dropLast := by
 induction l with
 | nil => rfl
 | cons a r ih =>
  cases r with
  | nil => rfl
  | cons b r =>
   have e : (a :: b :: r).length - 1 = ((b :: r).length - 1) + 1 := by
    have h1 : (a :: b :: r).length = r.length + 2 := rfl
    have h2 : (b :: r).length = r.length + 1 := rfl
    omega
   rw [e, List.eraseIdx_cons_succ, ih]
   all_goals rfl
theorem len_erase {α : Type} : ∀ (l : List α) (i : Nat), (l.eraseIdx i).length <= l.length
 | [], _ => Nat.le_refl _
 | _ :: _, 0 => Nat.le_succ _
 | _ :: r, i + 1 => Nat.succ_le_succ (len_erase r i)
theorem foldl_rep (its : List Value) : ∀ (k : Nat) (acc : List Value),
  List.foldl (fun x1 x2 => x1 ++ x2) acc.toArray (List.replicate k its.toArray) = (acc ++ (List.replicate k its).flatten).toArray
 | 0, acc => by simp
 | k + 1, acc => by
  have e : acc.toArray ++ its.toArray = (acc ++ its).toArray := by simp
  have e2 : (acc ++ its) ++ (List.replicate k its).flatten = acc ++ (List.replicate (k + 1) its).flatten := by
   rw [List.replicate_succ, List.flatten_cons, List.append_assoc]
  rw [<- e2, <- foldl_rep its k (acc ++ its), <- e, List.replicate_succ, List.foldl_cons]
section
variable {X : Cx} {pins : List (Addr × Obj)} {σ : St} {H : Hp} {s : Shared} {l b : Addr} {xs ys zs : List V}
theorem Inv.lset {its its' : List Value} {n : Nat} {f : Array Value -> Array Value} {t' : Nat} (I : Inv X pins σ H s) (hH : H l = some (.lst xs))
  (e : s.heap.get? l = some { cls := .type "list", data := .seq its.toArray n }) (hf : f its.toArray = its'.toArray) (hv : Vals ys its') (hz : ys.length <= sizeLine) :
  Inv X pins σ (upd H l (.lst ys)) { s with heap := s.heap.update l (Obj.mapSeq f), toks := t' } := by
 have q := PySem.IsL.update e f
 rw [hf] at q
 refine I.write (x := l) (e := l) (by rw [hH]; exact trivial) (.inl rfl) (fun b' u hb hu => (Heap.get?_update_other s.heap (Obj.mapSeq f) (Ne.symm hb)).trans hu) ⟨_, q⟩ ?_
 exact ⟨hz, its', _, hv, q⟩
theorem Inv.lnew {its : List Value} {t' : Nat} (I : Inv X pins σ H s) (hv : Vals ys its) (hz : ys.length <= sizeLine) :
  Inv X pins σ (upd H s.heap.objs.size (.lst ys)) { s with heap := s.heap.push { cls := .type "list", data := .seq its.toArray }, toks := t' } :=
 I.laid (fun _ _ q => Heap.get?_push_of_some _ q) (Nat.le_refl _) ⟨hz, its, 0, hv, Heap.get?_push_size _ rfl⟩
theorem Inv.fresh (I : Inv X pins σ H s) : H s.heap.objs.size = none := I.hok.fresh (Nat.le_refl _)
theorem Inv.lstM (I : Inv X pins σ H s) (hH : H l = some (.lst xs)) : xs.length <= sizeLine /\ ∃ (its : List Value) (n : Nat), Vals xs its /\ xs.length = its.length /\ s.heap.get? l = some { cls := .type "list", data := .seq its.toArray n } := by
 obtain ⟨z, its, n, r, e⟩ := I.hok l _ hH
 exact ⟨z, its, n, r, r.length, e⟩
theorem notLongL {n : Nat} (h : n <= sizeLine) : Builtin.List.listTooLong n = false := by
 unfold Builtin.List.listTooLong
 exact decide_eq_false (by omega)
end
section
variable {X : Cx}
def rAppend : V -> List V -> Hp -> VK -> Prop := fun x vs H Q => ∃ l xs y, x = .ref l /\ vs = [y] /\ H l = some (.lst xs) /\ xs.length < sizeLine /\ Q .non (upd H l (.lst (xs ++ [y])))
theorem mt_append : MtM X "list.append" rAppend := by
 intro pins s σ H x vs v us Q I rx rv h
 obtain ⟨l, xs, y, rfl, rfl, hH, hz, q⟩ := h
 cases rx
 obtain ⟨u, rfl, ru⟩ := rv.one
 obtain ⟨z, its, n, r, hl, e⟩ := I.lstM hH
 refine call_meets F.slot_list_append ⟨_, e, rfl⟩ F.entry_list_append (F.args_list_append_2 _ _) (PySem.list_append l its.toArray n u (by rw [List.size_toArray]; omega)) ⟨e, ?_⟩
 refine ⟨.non, _, I.lset (its' := its ++ [u]) hH e (by simp) (r.append (.cons ru .nil)) ?_, rfl, q⟩
 rw [List.length_append, List.length_singleton]
 omega
def rExtend : V -> List V -> Hp -> VK -> Prop := fun x vs H Q => ∃ l b xs zs, x = .ref l /\ vs = [.ref b] /\ H l = some (.lst xs) /\ H b = some (.lst zs) /\ xs.length + zs.length <= sizeLine /\ Q .non (upd H l (.lst (xs ++ zs)))
theorem mt_extend : MtM X "list.extend" rExtend := by
 intro pins s σ H x vs v us Q I rx rv h
 obtain ⟨l, b, xs, zs, rfl, rfl, hH, hB, hz, q⟩ := h
 cases rx
 obtain ⟨u, rfl, ru⟩ := rv.one
 cases ru
 obtain ⟨z, its, n, r, hl, e⟩ := I.lstM hH
 obtain ⟨z2, its2, n2, r2, hl2, e2⟩ := I.lstM hB
 have hsz : its.toArray.size + its2.toArray.size <= sizeLine := by rw [List.size_toArray, List.size_toArray]; omega
 have hlong : ¬ (!its.toArray.isEmpty && Builtin.List.listTooLong (its.toArray.size + its2.toArray.size)) = true := by
  rw [notLongL hsz, Bool.and_false]
  exact Bool.false_ne_true
 refine call_meets F.slot_list_extend ⟨_, e, rfl⟩ F.entry_list_extend (F.args_list_extend_2 _ _)
  (AutoSeq1.list_extend_list_list_0 l its.toArray n b its2.toArray n2 hlong (by rw [List.size_toArray]; omega) (by omega)) ⟨e, e2, ?_⟩
 refine ⟨.non, _, I.lset (its' := its ++ its2) hH e (by simp) (r.append r2) ?_, rfl, q⟩
 rw [List.length_append]
 omega
def rPop : V -> List V -> Hp -> VK -> Prop := fun x vs H Q => ∃ l xs y, x = .ref l /\ vs = [] /\ H l = some (.lst xs) /\ xs[xs.length - 1]? = some y /\ Q y (upd H l (.lst xs.dropLast))
theorem mt_pop : MtM X "list.pop" rPop := by
 intro pins s σ H x vs v us Q I rx rv h
 obtain ⟨l, xs, y, rfl, rfl, hH, hy, q⟩ := h
 cases rx
 have hus := rv.zero
 subst hus
 obtain ⟨z, its, n, r, hl, e⟩ := I.lstM hH
 obtain ⟨u, hu, ru⟩ := r.get hy
 have hy' : its.toArray[its.toArray.size - 1]? = some u := by
  show its.toArray[its.length - 1]? = some u
  rw [<- Array.getElem?_toList, <- hl]
  exact hu
 refine call_meets F.slot_list_pop ⟨_, e, rfl⟩ F.entry_list_pop (F.args_list_pop_1 _) (MeetsSeq.list_pop_last l its.toArray n u hy' (by rw [List.size_toArray]; omega)) ⟨e, ?_⟩
 refine ⟨y, _, I.lset (its' := its.dropLast) hH e ?_ r.dropLast ?_, ru, q⟩
 ·show its.toArray.eraseIdxIfInBounds (its.toArray.size - 1) = its.dropLast.toArray
  rw [List.size_toArray, List.eraseIdxIfInBounds_toArray, erase_last]
 ·rw [List.length_dropLast]
  omega
def rPopAt : V -> List V -> Hp -> VK -> Prop := fun x vs H Q => ∃ l xs i k y, x = .ref l /\ vs = [.int i] /\ H l = some (.lst xs) /\ -(2 ^ 63) <= i /\ i < 2 ^ 63 /\ seqIndex? i xs.length = some k /\ xs[k]? = some y /\ Q y (upd H l (.lst (xs.eraseIdx k)))
theorem mt_popAt : MtM X "list.pop" rPopAt := by
 intro pins s σ H x vs v us Q I rx rv h
 obtain ⟨l, xs, i, k, y, rfl, rfl, hH, h1, h2, hk, hy, q⟩ := h
 cases rx
 obtain ⟨u, rfl, ru⟩ := rv.one
 obtain ⟨t, rfl⟩ := ru
 obtain ⟨z, its, n, r, hl, e⟩ := I.lstM hH
 obtain ⟨w, hw, rw'⟩ := r.get hy
 refine call_meets F.slot_list_pop ⟨_, e, rfl⟩ F.entry_list_pop (F.args_list_pop_2 _ _)
  (MeetsSeq.list_pop_at l its.toArray n i t k w (fitsIndex_both h1 h2) (by rw [List.size_toArray, <- hl]; exact hk) (by rw [<- Array.getElem?_toList]; exact hw) (by rw [List.size_toArray]; omega)) ⟨e, ?_⟩
 refine ⟨y, _, I.lset (its' := its.eraseIdx k) hH e ?_ (r.eraseIdx k) ?_, rw', q⟩
 ·show its.toArray.eraseIdxIfInBounds k = (its.eraseIdx k).toArray
  rw [List.eraseIdxIfInBounds_toArray]
 ·have := len_erase xs k
  omega
def rCat : R2 := fun x y H Q => ∃ l b xs zs, x = .ref l /\ y = .ref b /\ H l = some (.lst xs) /\ H b = some (.lst zs) /\ xs.length + zs.length <= sizeLine /\ ∀ p, H p = none -> Q (.ref p) (upd H p (.lst (xs ++ zs)))
theorem op_cat : OpR X (binaryOp .Add) rCat := by
 intro pins s σ H x y v u Q I rx ry h
 obtain ⟨l, b, xs, zs, rfl, rfl, hH, hB, hz, q⟩ := h
 cases rx
 cases ry
 obtain ⟨z, its, n, r, hl, e⟩ := I.lstM hH
 obtain ⟨z2, its2, n2, r2, hl2, e2⟩ := I.lstM hB
 refine PySem.P.add_list e e2 ?_ (by rw [List.size_toArray, List.size_toArray]; omega)
 have ea : its.toArray ++ its2.toArray = (its ++ its2).toArray := by simp
 rw [ea]
 exact ⟨.ref _, _, I.lnew (t' := s.toks) (r.append r2) (by rw [List.length_append]; omega), rfl, q _ I.fresh⟩
def rRep : R2 := fun x y H Q => ∃ l k xs, x = .ref l /\ y = .int k /\ H l = some (.lst xs) /\ -(2 ^ 63) <= k /\ k < 2 ^ 63 /\ xs.length * k.toNat <= sizeLine /\
 ∀ p, H p = none -> Q (.ref p) (upd H p (.lst (List.replicate k.toNat xs).flatten))
theorem len_rep {α : Type} (xs : List α) (k : Nat) : (List.replicate k xs).flatten.length = k * xs.length := by
 induction k with
 | zero => simp
 | succ k ih => rw [List.replicate_succ, List.flatten_cons, List.length_append, ih, Nat.succ_mul, Nat.add_comm]
theorem op_rep : OpR X (binaryOp .Mult) rRep := by
 intro pins s σ H x y v u Q I rx ry h
 obtain ⟨l, k, xs, rfl, rfl, hH, h1, h2, hz, q⟩ := h
 cases rx
 obtain ⟨t, rfl⟩ := ry
 obtain ⟨z, its, n, r, hl, e⟩ := I.lstM hH
 have hlen : its.toArray.size * k.toNat <= sizeLine := by rw [List.size_toArray, <- hl]; exact hz
 have hcap : ¬ its.toArray.size * k.toNat > (2 ^ 63 - 1) / 8 := by
  have : (sizeLine : Nat) <= (2 ^ 63 - 1) / 8 := by decide
  omega
 have hfit : ¬ (!Builtin.List.listFitsIndex k) = true := by
  rw [fitsIndex_both h1 h2]
  exact Bool.false_ne_true
 have hlong : ¬ Builtin.List.listTooLong (its.toArray.size * k.toNat) = true := by
  rw [notLongL hlen]
  exact Bool.false_ne_true
 have hnew : List.foldl (fun x1 x2 => x1 ++ x2) #[] (List.replicate (if its.toArray.isEmpty = true then 0 else k.toNat) its.toArray) = (List.replicate k.toNat its).flatten.toArray := by
  have f0 : ∀ m : Nat, List.foldl (fun x1 x2 => x1 ++ x2) #[] (List.replicate m its.toArray) = (List.replicate m its).flatten.toArray := fun m => by
   have := foldl_rep its m []
   rw [List.nil_append] at this
   exact this
  rw [f0]
  cases its with
  | nil => simp
  | cons a r' => rw [if_neg (by simp)]
 refine wpAny_binaryOp_repeat_ref (T := "list") (U := "int") (by decide) ⟨_, e, rfl⟩ (fun s' => typeIs_int s' k t) noFill_list_mul F.fills_int_mul F.slot_int_rmul repeat_list F.slot_int_index.lookup
  (call_meets F.slot_int_rmul (typeIs_int s k t) F.entry_int_rmul (F.args_int_rmul_2 _ _) (int___rmul___int_list k t l its.toArray n)
   ⟨e, rfl, ⟨_, e, rfl⟩, call_meets F.slot_list_mul ⟨_, e, rfl⟩ F.entry_list_mul (F.args_list_mul_2 _ _) (AutoListH.list___mul___list_int_3 l its.toArray n k t hfit hcap hlong) ⟨e, ?_⟩⟩)
 rw [hnew]
 exact ⟨.ref _, _, I.lnew (t' := s.toks) (r.rep k.toNat) (by rw [len_rep, Nat.mul_comm]; exact hz), rfl, q _ I.fresh⟩
end
section
variable {prog : Program} {w : World} {A : Around} {E : Value -> Shared -> Prop} {s : Shared}
end
section
variable {X : Cx}
end
end L2
namespace Att
open PySem PySem.W PySem.Calls PyProof.Rows
theorem ints_of_wellAll {P : Params} {h : Heap} : ∀ (ns : List Int) (vs : List Value), WellAll P h vs (ns.map WData.int) -> IntsAre vs ns := by
 intro ns
 induction ns with
 | nil =>
  intro vs w
  rw [List.map_nil] at w
  cases w
  exact .nil
 | cons n ns ih =>
  intro vs w
  rw [List.map_cons] at w
  cases w with
  | cons a b =>
   cases a
   exact .cons _ _ (ih _ b)
theorem script_of {l : OpenLaw} {n : Nat} (hn : l.most = some n) {P : Params} {h : Heap} {args : List WData} {vals : List Value}
  (hpre : l.row.toRowW.claim.pre args = true) (hwl : WellAll P h vals args) :
  ∃ a vs ns, vals = [Value.ref a] /\ args = [WData.list (ns.map WData.int)] /\ h.get? a = some { cls := .type "list", data := .seq vs.toArray } /\ IntsAre vs ns /\ ns.length <= n := by
 have hsh : WShape.hasAll [] args [.list .int] = true := (pre_splitW hpre).1
 have hc : l.pre.holds [] { args := args } = true := (pre_splitW hpre).2
 obtain ⟨d, r, rfl, h1, h2⟩ := hasAllW_cons hsh
 obtain rfl := hasAllW_nil h2
 obtain ⟨xs, rfl, h3⟩ := hasW_list h1
 obtain ⟨ns, rfl⟩ := items_int h3
 have hlen : ns.length <= n := by
  unfold OpenLaw.pre at hc
  have h4 : (WTm.not (.lt (.lit (.int (n : Int))) (.len (.arg 0)))).holds [] { args := [.list (ns.map .int)] } = true := by
   have h4 := (holds_andW hc).1
   rw [hn] at h4
   exact h4
  have h5 := condW_of h4 (w_not (w_lt w_lit (w_len_list (w_arg rfl))))
  rw [List.length_map] at h5
  refine Nat.le_of_not_lt fun q => ?_
  have q' : (n : Int) < ((ns.length : Nat) : Int) := by omega
  first
   | (rw [decide_eq_true q'] at h5; exact absurd h5 (by decide))
   | (simp at h5; omega)
 cases hwl with
 | cons w1 w2 =>
  cases w2
  cases w1 with
  | list ho hall => exact ⟨_, _, ns, rfl, rfl, ho, ints_of_wellAll ns _ hall, hlen⟩
theorem post_true (l : OpenLaw) (args : List WData) : l.row.toRowW.claim.post args (.bool true) args = true :=
 postW_of (r := l.row.toRowW) (X := (true == true))
  (show WShape.has [] (.bool true) .bool = true by first | rfl | decide | simp [WShape.has, WShape.arms, WShape.armsAll])
  (show (WTm.eq .res (.lit (.bool true))).value [] { args := args, res := some (.bool true), after := args } = some (.bool (true == true)) from w_eq_bool (w_res rfl) w_lit) rfl
theorem attach_call {l : OpenLaw} {n : Nat} {q : Program} {loose : List Str} {XP : (Str -> Option Value) -> Heap -> Prop} {YP : World -> Heap -> Prop} {d : DefRec}
  (hn : l.most = some n) (hdf : d.params.defaults = [])
  (call : ∀ (w : World) (s₀ s₁ : Shared) (mg mb : Str -> Option Value) (fa : Addr) (o : Obj) (pm cd doc : Value) (a : Addr) (vs : List Value) (ns : List Int),
   Ground q loose [] XP w s₀ mg mb s₁.heap -> YP w s₁.heap ->
   s₁.heap.get? fa = some o -> o.data = .func (docDef d.name d.params d.body d.scope pm cd doc) -> s₁.heap.CodeRec cd d.name -> mg d.name = some (.ref fa) ->
   s₁.heap.get? a = some { cls := .type "list", data := .seq vs.toArray } -> IntsAre vs ns -> ns.length <= n -> s₁.gens = #[] ->
   codeAny (model l.prog w) callerA (.call (.ref fa) ⟨[.ref a], []⟩) (fun r s' => r = .ok (.ret (.bool true)) /\ OldK s₁.heap s'.heap /\ s'.os = s₁.os /\ AllBare s'.gens) s₁) :
  WalkO q loose XP YP l.row.toRowW d [] (fun f vs => PySem.call f vs) := by
 intro w s₀ s₁ mg mb G Y fa o pm cd doc dV kV ho hd hcd hD hmg hg args vals as hpre hlay hrd hwl hlo
 obtain rfl : dV = .none := Dflts.none hD hdf
 obtain rfl : kV = .none := Dflts.noKw hD
 obtain ⟨a, vs, ns, rfl, rfl, hobj, hints, hlen⟩ := script_of hn hpre hwl
 refine enter_call (codeAny_mono (call w s₀ s₁ mg mb fa o pm cd doc a vs ns G Y ho (fd_plain hd) hcd hmg hobj hints hlen hg) fun r s' hq => ?_)
 obtain ⟨rfl, h2, h3, h4⟩ := hq
 exact ⟨.inl ⟨.bool true, .bool true, [], rfl, fun _ => rfl, .bool true, post_true l _, fun _ => ⟨List.Pairwise.nil, fun _ hm => (nomatch hm)⟩⟩, h2, h3, h4⟩
section
variable {prog : Program} {w : World} {A : Around} {E : Value -> Shared -> Prop} {s : Shared} {K : Frag}
def ledger (h : Heap) (L d : Addr) : List (Addr × Obj) := (List.range h.objs.size).filterMap fun a => if a = L \/ a = d then none else (h.get? a).map fun o => (a, o)
end
end Att
namespace L2
open PySem PySem.Spec PyProof.Rows
theorem vals_ints : ∀ {vs : List Value} {ns : List Int}, IntsAre vs ns -> Vals (ns.map V.int) vs
 | _, _, .nil => .nil
 | _, _, .cons n t h => .cons ⟨t, rfl⟩ (vals_ints h)
def Only (H : Hp) : Prop := ∀ b, H b = none \/ ∃ o xs, H b = some (.frz o (.lst xs))
theorem law_call {P : Program} {w : World} {K : PySem.W.Frag} {mg mb : Str -> Option Value} {CX : CXT} {k : Nat} {fa a : Addr} {fd : FuncData} {x : Str} {sp : Sp} {s₁ : Shared} {vs : List Value} {ns : List Int}
  (KX : K.In s₁.heap) (hns : s₁.heap.Ns mainGlobals mg) (hb : s₁.heap.Ns builtinsNs mb) (hbb : ∀ x : Str, x ≠ "__name__" -> mb x = bootBuiltins x) (hlim : s₁.heap.NoLimit) (hg : s₁.gens = #[])
  (ha : s₁.heap.get? a = some { cls := .type "list", data := .seq vs.toArray }) (hi : IntsAre vs ns) (hl : ns.length <= sizeLine) (hr : Room k callerA)
  (F : ∀ base : Heap, K.In base -> base.Ns mainGlobals mg -> FnOk P w K mg base CX k fa fd [x] sp) (hbind : ∀ (s : Shared) (u : Value), BindsTo s fd ⟨[u], []⟩ [(x, u)])
  (hsp : ∀ H : Hp, Only H -> SqL K H a (ns.map V.int) -> sp [.ref a] H (fun v _ => v = .bl true) fun _ _ _ => False)
  (hCX : ∀ H e s', CX [] H s₁ (fun _ _ _ => False) e s' -> False) :
  codeAny (model P w) callerA (.call (.ref fa) ⟨[.ref a], []⟩) (fun r s' => r = .ok (.ret (.bool true)) /\ OldK s₁.heap s'.heap /\ s'.os = s₁.os /\ AllBare s'.gens) s₁ := by
 have rv := vals_ints hi
 have lenV := hi.length
 -- from an abstract heap in which nothing but the script may be tracked
 have core : ∀ H : Hp, Only H -> SqL K H a (ns.map V.int) -> HOk P w H s₁.heap -> (∀ b, H b ≠ none -> b = a) -> (H a ≠ none -> K.lookup a = none) ->
   codeAny (model P w) callerA (.call (.ref fa) ⟨[.ref a], []⟩) (fun r s' => r = .ok (.ret (.bool true)) /\ OldK s₁.heap s'.heap /\ s'.os = s₁.os /\ AllBare s'.gens) s₁ := by
  intro H hO hS hok hA hK
  have base_of : ∀ {b : Addr} {o : Obj}, s₁.heap.get? b = some o -> H b = none -> (hidT s₁.heap H).get? b = some o := fun e n => hidT_get e n
  have noA : ∀ {b : Addr} {o : Obj} {es : Array DictEntry} {ep : Nat}, s₁.heap.get? b = some o -> o.data = .dict es ep -> H b = none := fun {b o es ep} e d => by
   cases q : H b with
   | none => rfl
   | some u =>
    have e' : b = a := hA b (by rw [q]; simp)
    subst e'
    rw [ha] at e; cases e
    have d' : Data.seq vs.toArray _ = Data.dict es ep := d
    cases d'
  have nsK : ∀ {b : Addr} {m : Str -> Option Value}, s₁.heap.Ns b m -> (hidT s₁.heap H).Ns b m := fun {b m} ⟨o, es, ep, e, d, r⟩ => ⟨o, es, ep, base_of e (noA e d), d, r⟩
  have hKb : K.In (hidT s₁.heap H) := fun b o e => base_of (KX b o e) (by
   cases q : H b with
   | none => rfl
   | some u =>
    have e' : b = a := hA b (by rw [q]; simp)
    subst e'
    rw [hK (by rw [q]; simp)] at e; cases e)
  have hM : Mod K mg (hidT s₁.heap H) := ⟨hKb, nsK hns, ⟨mb, nsK hb, hbb⟩, let ⟨mc, h1, h2⟩ := hlim; ⟨mc, nsK h1, h2⟩⟩
  have e0 : Env0 P w K mg (hidT s₁.heap H) callerA [] s₁ H := ⟨rfl, hM, fun b o e => of_hidT e, Nat.le_of_eq (hidT_size _ _), trivial, fun b hb => absurd (show b ∈ ([] : List Addr) from hb) (by simp), hok, .of_eq hg⟩
  refine codeAny_mono ((F _ hKb (nsK hns)).run callerA [] s₁ H ⟨[.ref a], []⟩ [.ref a] [.ref a] _ _ hr e0 (hbind s₁ (.ref a)) (.cons rfl .nil) (hsp H hO hS)) fun r s' h => ?_
  cases r with
  | error e => exact (hCX H e s' h).elim
  | ok fl =>
   cases fl with
   | next => exact False.elim h
   | brk => exact False.elim h
   | cont => exact False.elim h
   | ret u =>
    obtain ⟨v, H', os, bare, un, hok', r', q⟩ := h
    have q' : v = .bl true := q
    subst q'
    obtain rfl : u = Value.bool true := r'
    refine ⟨rfl, OldK.of_keep fun b o e => ?_, os, bare⟩
    cases q : H b with
    | none => exact un.keep b o e q (by intro z; exact absurd (show b ∈ ([] : List Addr) from z) (by simp)) (by simp)
    | some u =>
     rcases hO b with z | ⟨ob, xs, z⟩
     ·rw [q] at z; cases z
     ·have z2 := un.frzs b ob _ z
      obtain ⟨e1, _⟩ := hok b _ z
      obtain ⟨e2, _⟩ := hok' b _ z2
      rw [e] at e1; cases e1
      exact e2
 cases hk : K.lookup a with
 | some o =>
  -- the script is one of the module's own objects
  have e := KX a o hk
  rw [ha] at e
  cases e
  refine core (fun _ => none) (fun _ => .inl rfl) (.inr ⟨_, vs.toArray, _, hk, rfl, rfl, rfl, by rw [List.size_toArray, lenV]; exact hl, by simpa using rv⟩) (fun b u z => by have z' : (none : Option HO) = some u := z; cases z') (fun b z => absurd rfl z) fun z => absurd rfl z
 | none =>
  refine core (fun b => if b = a then some (.frz { cls := .type "list", data := .seq vs.toArray } (.lst (ns.map V.int))) else none) (fun b => ?_) (.inl (.inr ⟨{ cls := .type "list", data := .seq vs.toArray }, if_pos rfl⟩)) (fun b u z => ?_) (fun b z => ?_) fun _ => hk
  ·by_cases hb : b = a
   ·exact .inr ⟨_, _, if_pos hb⟩
   ·exact .inl (if_neg hb)
  ·by_cases hb : b = a
   ·have z' := (if_pos hb).symm.trans z
    cases z'
    subst hb
    exact ⟨ha, by rw [List.length_map]; exact hl, vs, _, rv, ha⟩
   ·have z' := (if_neg hb).symm.trans z
    cases z'
  ·by_cases hb : b = a
   ·exact hb
   ·exact absurd (if_neg hb) z
end L2
namespace L2
open PySem PySem.Spec PyProof.Rows
theorem walk_of {l : PySem.W.OpenLaw} {n k : Nat} {q : Program} {loose : List Str} {XP : (Str -> Option Value) -> Heap -> Prop} {YP : World -> Heap -> Prop} {d : DefRec} {K : Params -> PySem.W.Frag} {CX : World -> CXT} {sp : World -> Sp} {x : Str}
  (hn : l.most = some n) (hn2 : n <= sizeLine) (hdf : d.params.defaults = []) (hr : Room k callerA)
  (hY : ∀ (w : World) (h : Heap), YP w h -> (K w.params).In h)
  (F : ∀ (w : World) (mg : Str -> Option Value) (fa : Addr) (h : Heap), (K w.params).In h -> h.Ns mainGlobals mg -> mg d.name = some (.ref fa) ->
   ∃ fd : FuncData, (∀ (s : Shared) (u : Value), BindsTo s fd ⟨[u], []⟩ [(x, u)]) /\
    ∀ base : Heap, (K w.params).In base -> base.Ns mainGlobals mg -> FnOk l.prog w (K w.params) mg base (CX w) k fa fd [x] (sp w))
  (hsp : ∀ (w : World) (H : Hp) (a : Addr) (ns : List Int), ns.length <= n -> Only H -> SqL (K w.params) H a (ns.map V.int) -> sp w [.ref a] H (fun v _ => v = .bl true) fun _ _ _ => False)
  (hCX : ∀ (w : World) (H : Hp) (s : Shared) (e : Value) (s' : Shared), CX w [] H s (fun _ _ _ => False) e s' -> False) :
  PySem.W.WalkO q loose XP YP l.row.toRowW d [] (fun f vs => PySem.call f vs) := by
 refine Att.attach_call hn hdf fun w s₀ s₁ mg mb fa o pm cd doc a vs ns G Y ho hd hcd hmg hobj hints hlen hg => ?_
 have KX := hY w _ Y
 obtain ⟨fd, hb, hF⟩ := F w mg fa _ KX G.T.g hmg
 exact law_call KX G.T.g G.T.b G.T.builtins G.T.nolimit hg hobj hints (Nat.le_trans hlen hn2) hr hF hb (fun H hO hS => hsp w H a ns hlen hO hS) fun H e s' => hCX w H s₁ e s'
end L2
/- THE LAST THEOREM (shape; LID, My.* are yours):
  My.Adr: a structure of the addresses that your layer names (classes, functions); My.Txt K t: a structure (Prop) of the equations over K;
  My.txt_mk : {K} {implicit addresses ..} (e1 : nsIn K mainGlobals "law" = some (some (.ref f))) (e2 : K.lookup f = some ⟨oc, od, .func (fnOf "law" "law" params body scope dV kV doc pm an cdv ct), sl⟩) (e3 : codeIn K cdv "law" = true) .. : ∃ t, My.Txt K t
(the tactic k_is has no namespace: write k_is) -/
namespace L2
open PySem PySem.Spec PyProof.Rows
def inClass (s : Stmt) (j : Nat) : Stmt := match s with
 | .ClassDef _ _ _ body _ _ _ _ _ _ _ => body.getD j (.Pass ⟨0, 0, 0, 0⟩)
 | _ => .Pass ⟨0, 0, 0, 0⟩
def defArgs (s : Stmt) : Arguments := match s with
 | .FunctionDef _ a _ _ _ _ _ _ _ _ => a
 | _ => { posonlyargs := [], args := [], vararg := none, kwonlyargs := [], kw_defaults := [], kwarg := none, defaults := [] }
def defBody (s : Stmt) : List Stmt := match s with
 | .FunctionDef _ _ b _ _ _ _ _ _ _ => b
 | _ => []
def defScope (s : Stmt) : Scope := match s with
 | .FunctionDef _ _ _ _ _ _ sc _ _ _ => sc
 | _ => { kind := .function, names := [], isGenerator := false, isCoroutine := false }
abbrev CX0 : CXT := fun _ _ _ _ _ _ => False
abbrev E0 : XK := fun _ _ _ => False
theorem pass0 {X : Cx} : Passes CX0 X E0 := fun _ _ _ _ _ _ _ h => h.elim
structure Fun (K : PySem.W.Frag) (x qual : Str) (st : Stmt) (f : Addr) (fd : FuncData) : Prop where
 ex : ∃ (oc : Value) (od : Option Addr) (kV doc pm : Value) (an : Option Addr) (cdv ct : Value) (osl : Array (Option Value)),
  fd = PySem.W.fnOf x qual (defArgs st) (defBody st) (defScope st) .none kV doc pm an cdv ct /\ K.lookup f = some ⟨oc, od, .func fd, osl⟩ /\ PySem.W.codeIn K cdv qual = true
 kp : PySem.W.keepIn K (.ref f) = true
section
variable {P : Program} {w : World} {K : PySem.W.Frag} {mg : Str -> Option Value} {base : Heap}
theorem Fun.ok {x qual : Str} {st : Stmt} {f : Addr} {fd : FuncData} {N ps : List Str} {k : Nat} {sp : Sp} {cm : Bool} (F : Fun K x qual st f fd) (S : FnScope N ps (defScope st)) (len : ∀ vs H Q E, sp vs H Q E -> vs.length = ps.length)
  (hbody : ∀ (cdv : Value) (A : Around) (outer : List Env) (s : Shared) (H : Hp) (vs : List V) (Q : VK) (E : XK), Room k (A.deeper (envOfC qual (defScope st) s.heap.objs.size f cdv)) cm -> sp vs H Q E ->
   ∃ t, PSs (cxOf CX0 P w K mg base N qual (defScope st) f cdv A outer s H E cm).nox (defBody st) t /\ t { nx := fun _ H' => Q .non H', rt := Q } (start N vs) H) : FnOk P w K mg base CX0 (k + 1) f fd ps sp cm := by
 obtain ⟨oc, od, kV, doc, pm, an, cdv, ct, osl, rfl, lk, hcd⟩ := F.ex
 refine fn_of lk hcd S len fun A outer s H vs Q E hr hsp => ?_
 obtain ⟨t, h, q⟩ := hbody cdv A outer s H vs Q E hr hsp
 exact ⟨t, h.nox, q⟩
theorem Fun.binds {x qual : Str} {st : Stmt} {f : Addr} {fd : FuncData} {ps : List Str} (F : Fun K x qual st f fd)
  (h : ∀ (kV doc pm : Value) (an : Option Addr) (cdv ct : Value) (us : List Value), us.length = ps.length -> bindArgs (PySem.W.fnOf x qual (defArgs st) (defBody st) (defScope st) .none kV doc pm an cdv ct) ⟨us, []⟩ = pure (ps.zip us)) : Binds K fd ps [] := by
 obtain ⟨oc, od, kV, doc, pm, an, cdv, ct, osl, rfl, lk, hcd⟩ := F.ex
 exact .all (h kV doc pm an cdv ct)
theorem fun_mk {x qual : Str} {st : Stmt} {f : Addr} {oc : Value} {od an : Option Addr} {osl : Array (Option Value)} {kV doc pm cdv ct : Value} (l : K.lookup f = some ⟨oc, od, .func (PySem.W.fnOf x qual (defArgs st) (defBody st) (defScope st) .none kV doc pm an cdv ct), osl⟩)
  (c : PySem.W.codeIn K cdv qual = true) (k : PySem.W.keepIn K (.ref f) = true) : Fun K x qual st f (PySem.W.fnOf x qual (defArgs st) (defBody st) (defScope st) .none kV doc pm an cdv ct) := ⟨⟨oc, od, kV, doc, pm, an, cdv, ct, osl, rfl, l, c⟩, k⟩
end
section
variable {X : Cx}
theorem pv (i : Nat) {x : Str} {pos : Pos} (hN : X.N[i]? = some x := by rfl) (hv : Vis X.env.scope x := by first | exact Or.inl rfl | exact Or.inr (Or.inl rfl) | exact Or.inr (Or.inr rfl)) (hd : (x == ("__debug__" : Str)) = false := by decide)
  (hcd : (x == ("__classdict__" : Str)) = false := by decide) : PE X (.Name x pos) (tVar i) := pe_var hN hv hd hcd
end
theorem iteF {A B : Prop} (h : B) : if false = true then A else B := by
 rw [if_neg Bool.false_ne_true]
 exact h
theorem iteT {A B : Prop} (h : A) : if true = true then A else B := by
 rw [if_pos rfl]
 exact h
theorem ite2 {c A B : Prop} [Decidable c] (h1 : c -> A) (h2 : ¬ c -> B) : if c then A else B := by
 by_cases h : c
 ·rw [if_pos h]
  exact h1 h
 ·rw [if_neg h]
  exact h2 h
theorem iteNS {c A B : Prop} [Decidable c] (hc : c) (h : B) : if (!decide c) = true then A else B := by
 rw [decide_eq_true hc]
 exact iteF h
def Same (H H' : Hp) : Prop := ∀ b o, H b = some o -> H' b = some o
theorem Same.refl (H : Hp) : Same H H := fun _ _ h => h
theorem Same.trans {H H1 H2 : Hp} (a : Same H H1) (b : Same H1 H2) : Same H H2 := fun c o h => b c o (a c o h)
theorem Same.free {H H' : Hp} (e : Same H H') {l : Addr} (h : H' l = Option.none) : H l = Option.none := by
 cases q : H l with
 | none => rfl
 | some o =>
  rw [e l o q] at h
  cases h
theorem Same.seq {K : PySem.W.Frag} {H H' : Hp} {a : Addr} {xs : List V} (e : Same H H') (h : SqL K H a xs) : SqL K H' a xs := by
 rcases h with (h | ⟨o, h⟩) | h
 ·exact .inl (.inl (e _ _ h))
 ·exact .inl (.inr ⟨o, e _ _ h⟩)
 ·exact .inr h
end L2
namespace L2
open PySem PySem.Spec PyProof.Rows
section
variable {prog : Program} {w : World} {A : Around} {R : Result -> Shared -> Prop} {s : Shared}
theorem comp_loop_any {elt target iter : Expr} {ifs : List Expr} {scope : Scope} {pos : Pos} {it acc : Value} {env : Env} (I : Nat -> Shared -> Prop)
  (turn : ∀ n s, I n s -> wpAny (model prog w) A (pyNext it) (fun r s₁ => match r with
   | none => R (.ok .next) s₁
   | some v => wpAny (model prog w) A (letOwnedTupleGo target it v) (fun _ s₁' => wpAny (model prog w) A (assign target env v) (fun _ s₂ =>
     wpAny (model prog w) A (forIn ifs true fun c r => if r = true then do let ok <- isTrue c env (eval c env); pure (ForInStep.yield ok) else pure (ForInStep.yield r)) (fun ok s₃ =>
      if ok = true then wpAny (model prog w) A (eval elt env) (fun x s₄ =>
       wpAny (model prog w) A (call (.builtin "list.append") [acc, x]) (fun _ s₅ => ∃ m, m < n /\ I m s₅) (notedBy (model prog w) A env fun e s' => R (.error e) s') s₄) (notedBy (model prog w) A env fun e s' => R (.error e) s') s₃
      else ∃ m, m < n /\ I m s₃) (notedBy (model prog w) A env fun e s' => R (.error e) s') s₂) (notedBy (model prog w) A env fun e s' => R (.error e) s') s₁') (notedBy (model prog w) A env fun e s' => R (.error e) s') s₁) (notedBy (model prog w) A env fun e s' => R (.error e) s') s)
  (n : Nat) (h : I n s) :
  codeAny (model prog w) A (.compLoop (.ListComp elt [⟨target, iter, ifs, 0⟩] scope pos) 0 it acc env) R s := by
 refine codeAny_loop rfl I (fun n s hI => ?_) n h
 show wpAny _ A ((compTurn (.ListComp elt [⟨target, iter, ifs, 0⟩] scope pos) 0 it acc env).onRaise (fun x => do noteFrame x env; theTreesLotGoes x)) _ _ s
 refine wpAny_noted ?_
 rw [compTurn_list]
 refine wpAny_bind (wpAny_standAt (wpAny_bind (wpAny_mono (turn n s hI) (fun r s₁ h₁ => ?_) fun _ _ h' => h')))
 cases r with
 | none => exact wpAny_pure h₁
 | some v =>
  refine wpAny_bind (wpAny_mono h₁ (fun _ s₁' h₁ => ?_) fun _ _ h' => h')
  refine wpAny_bind (wpAny_mono h₁ (fun _ s₂ h₂ => wpAny_bind (wpAny_mono h₂ (fun ok s₃ h₃ => ?_) fun _ _ h' => h')) fun _ _ h' => h')
  cases ok with
  | false => exact wpAny_pure ⟨rfl, h₃⟩
  | true =>
   exact wpAny_bind (wpAny_bind (wpAny_mono h₃ (fun x s₄ h₄ => wpAny_bind (wpAny_mono h₄ (fun _ s₅ h₅ => wpAny_pure (wpAny_pure ⟨rfl, h₅⟩)) fun _ _ h' => h')) fun _ _ h' => h'))
end
def closL (env : Env) : List (Str × NameKind) -> List (Str × Addr) -> List (Str × Addr)
 | [], cs => cs
 | (n, k) :: r, cs => closL env r (if k == .free then (n, (env.cells.lookup n).getD 0) :: cs else cs)
def clos (scope : Scope) (env : Env) : List (Str × Addr) := closL env scope.names []
theorem forIn_closL {env : Env} : ∀ (ns : List (Str × NameKind)) (cs : List (Str × Addr)), (∀ x ∈ ns, x.2 = .free -> ∃ c, env.cells.lookup x.1 = some c) ->
  (forIn ns cs fun (x : Str × NameKind) (r : List (Str × Addr)) => (match x with | (name, kind) => if kind == .free then do let c <- cellOf env name; pure (ForInStep.yield ((name, c) :: r)) else pure (ForInStep.yield r) : Sem (ForInStep (List (Str × Addr))))) = (pure (closL env ns cs) : Sem (List (Str × Addr)))
 | [], cs, _ => rfl
 | (n, k) :: r, cs, h => by
  rw [List.forIn_cons]
  by_cases hk : k = .free
  ·subst hk
   obtain ⟨c, hc⟩ := h (n, .free) List.mem_cons_self rfl
   have e : cellOf env n = pure c := by
    have hc' : env.cells.lookup n = some c := hc
    unfold cellOf; rw [hc']
   simp only [beq_self_eq_true, if_true, e, pure_bind]
   rw [forIn_closL r _ fun x hx => h x (List.mem_cons_of_mem _ hx)]
   have hc' : env.cells.lookup n = some c := hc
   simp [closL, hc']
  ·have hb : (k == NameKind.free) = false := by simpa using hk
   simp only [hb, Bool.false_eq_true, if_false, pure_bind]
   rw [forIn_closL r _ fun x hx => h x (List.mem_cons_of_mem _ hx)]
   simp [closL, hb]
theorem closureFor_eq {scope : Scope} {env : Env} (h : ∀ x ∈ scope.names, x.2 = .free -> ∃ c, env.cells.lookup x.1 = some c) : closureFor scope env = pure (clos scope env) := by
 unfold closureFor clos
 have := forIn_closL (env := env) scope.names [] h
 simp only [bind_pure]
 exact this
theorem closL_look {env : Env} {x : Str} {c : Addr} : ∀ (ns : List (Str × NameKind)) (cs : List (Str × Addr)), (∀ y ∈ ns, y.2 = .free -> ∃ c, env.cells.lookup y.1 = some c) -> (∀ c, cs.lookup x = some c -> env.cells.lookup x = some c) ->
  (closL env ns cs).lookup x = some c -> env.cells.lookup x = some c
 | [], cs, _, hc, e => hc c e
 | (n, k) :: r, cs, h, hc, e => by
  refine closL_look r _ (fun y hy => h y (List.mem_cons_of_mem _ hy)) (fun c' e' => ?_) e
  by_cases hk : k = .free
  ·subst hk
   obtain ⟨c₁, h₁⟩ := h (n, .free) List.mem_cons_self rfl
   have h₁' : env.cells.lookup n = some c₁ := h₁
   simp only [beq_self_eq_true, if_true, List.lookup_cons] at e'
   cases hx : x == n with
   | true =>
    rw [hx] at e'
    have hxn : x = n := by simpa using hx
    subst hxn
    rw [h₁'] at e' ⊢
    exact e'
   | false => rw [hx] at e'; exact hc c' e'
  ·have hb : (k == NameKind.free) = false := by simpa using hk
   simp only [hb, Bool.false_eq_true, if_false] at e'
   exact hc c' e'
theorem closL_has {env : Env} {x : Str} : ∀ (ns : List (Str × NameKind)) (cs : List (Str × Addr)), ((x, NameKind.free) ∈ ns \/ ∃ c, cs.lookup x = some c) -> ∃ c, (closL env ns cs).lookup x = some c
 | [], cs, h => h.elim (fun z => nomatch z) fun z => z
 | (n, k) :: r, cs, h => by
  refine closL_has r _ ?_
  rcases h with h | ⟨c, h⟩
  ·rcases List.mem_cons.mp h with e | h
   ·cases e
    right
    simp
   ·exact .inl h
  ·right
   by_cases hk : k = .free
   ·subst hk
    simp only [beq_self_eq_true, if_true, List.lookup_cons]
    cases x == n with
    | true => exact ⟨_, rfl⟩
    | false => exact ⟨c, h⟩
   ·have hb : (k == NameKind.free) = false := by simpa using hk
    simp only [hb, Bool.false_eq_true, if_false]
    exact ⟨c, h⟩
theorem relabel_back {env : Env} {x : Str} {k' : NameKind} : ∀ {names : List (Str × NameKind)},
  (names.map fun (n, k) => if (k == NameKind.free && env.scope.kind == .function && env.kindOf n == some .cell) then (n, NameKind.cell) else (n, k)).lookup x = some k' ->
  ∃ k, names.lookup x = some k /\ (x, k) ∈ names /\ (k' = k \/ (k = .free /\ k' = .cell))
 | [], h => by simp at h
 | (n, k) :: r, h => by
  have ih := @relabel_back env x k' r
  have h' : List.lookup x ((if (k == NameKind.free && env.scope.kind == .function && env.kindOf n == some .cell) = true then (n, NameKind.cell) else (n, k)) :: r.map fun (n, k) => if (k == NameKind.free && env.scope.kind == .function && env.kindOf n == some .cell) then (n, NameKind.cell) else (n, k)) = some k' := h
  cases hx : x == n with
  | true =>
   have hxn : x = n := by simpa using hx
   subst hxn
   refine ⟨k, by simp, List.mem_cons_self, ?_⟩
   by_cases hc : (k == NameKind.free && env.scope.kind == .function && env.kindOf x == some .cell) = true
   ·rw [if_pos hc] at h'
    simp at h'
    have hk : k = .free := by
     cases k <;> simp at hc ⊢
    exact .inr ⟨hk, h'.symm⟩
   ·rw [if_neg hc] at h'
    simp at h'
    exact .inl h'.symm
  | false =>
   have h2 : (r.map fun (n, k) => if (k == NameKind.free && env.scope.kind == .function && env.kindOf n == some .cell) then (n, NameKind.cell) else (n, k)).lookup x = some k' := by
    by_cases hc : (k == NameKind.free && env.scope.kind == .function && env.kindOf n == some .cell) = true
    ·rw [if_pos hc] at h'; simp only [List.lookup_cons, hx] at h'; exact h'
    ·rw [if_neg hc] at h'; simp only [List.lookup_cons, hx] at h'; exact h'
   obtain ⟨k0, e1, e2, e3⟩ := ih h2
   exact ⟨k0, by simp only [List.lookup_cons, hx]; exact e1, List.mem_cons_of_mem _ e2, e3⟩
def cxC (X : Cx) (scope : Scope) (N : List Str) (C : Addr) (s : Shared) (H : Hp) (ex : List Addr) : Cx :=
 { X with N := N, s₀ := s, H₀ := H, env := compEnvC scope (clos scope X.env) C X.env, outer := X.stack, stack := X.stack, ex := ex, fn := fun _ => false, pn := [], xe := fun _ _ => False }
structure CScope (X : Cx) (scope : Scope) (ls : List Str) (fr : List (Str × Nat)) : Prop where
 kind : scope.kind = .function
 nocell : ∀ y ∈ scope.names, y.2 ≠ .cell
 names : ∀ y ∈ scope.names, y.2 = .local -> scope.names.lookup y.1 = some .local
 free : ∀ y ∈ scope.names, y.2 = .free -> X.env.kindOf y.1 = some .cell \/ X.env.kindOf y.1 = some .free
 slots : ∀ p ∈ fr, X.N[p.2]? = some p.1 /\ scope.names.lookup p.1 = some .free
def startC (ls : List Str) (fr : List (Str × Nat)) (σ : St) : St := ls.map (fun _ => none) ++ fr.map fun p => (σ[p.2]?).join
section
variable {X : Cx} {scope : Scope} {ls : List Str} {fr : List (Str × Nat)}
theorem CScope.cells {pins : List (Addr × Obj)} {σ : St} {H : Hp} {s : Shared} (S : CScope X scope ls fr) (I : Inv X pins σ H s) : ∀ x ∈ scope.names, x.2 = .free -> ∃ c, X.env.cells.lookup x.1 = some c :=
 fun x hx hk => I.ok.has x.1 (S.free x hx hk)
theorem CScope.look {pins : List (Addr × Obj)} {σ : St} {H : Hp} {s : Shared} (S : CScope X scope ls fr) (I : Inv X pins σ H s) {x : Str} {c : Addr} (e : (clos scope X.env).lookup x = some c) : X.env.cells.lookup x = some c :=
 closL_look scope.names [] (S.cells I) (fun _ z => by simp at z) e
theorem comp_ok {pins : List (Addr × Obj)} {σ : St} {H : Hp} {s : Shared} {C : Addr} {ex : List Addr} (S : CScope X scope ls fr) (I : Inv X pins σ H s) (hC : s.heap.objs.size <= C) (hex : ∀ b ∈ ex, FpOk X pins H b /\ b < s.heap.objs.size) :
  (cxC X scope (ls ++ fr.map (·.1)) C s H ex).Ok where
 mod := I.ok.mod
 kind := S.kind
 glob := I.ok.glob
 blt := I.ok.blt
 above := hC
 inj := fun x y c e1 e2 => I.ok.inj x y c (S.look I e1) (S.look I e2)
 has := fun x h => by
  have h' : ∃ k', (relabel scope X.env).names.lookup x = some k' /\ (k' = .cell \/ k' = .free) := h.elim (fun z => ⟨_, z, .inl rfl⟩) fun z => ⟨_, z, .inr rfl⟩
  obtain ⟨k', e, hk⟩ := h'
  obtain ⟨k, e1, e2, e3⟩ := relabel_back e
  refine closL_has scope.names [] (.inl ?_)
  have hn := S.nocell _ e2
  rcases e3 with rfl | ⟨rfl, _⟩
  ·rcases hk with rfl | rfl
   ·exact absurd rfl hn
   ·exact e2
  ·exact e2
 cab := fun x c h => nomatch h
 hd := I.ok.hd
 frames := I.ok.frames
 stk := .inl rfl
 exf := fun b hb => by
  obtain ⟨⟨f0, f1, f2, f3, f4, f5⟩, hl⟩ := hex b hb
  exact ⟨Nat.ne_of_lt (Nat.lt_of_lt_of_le hl hC), fun x c e => f4 x c (S.look I e)⟩
 bs := I.bs
 bsz := Nat.le_trans I.ok.bsz I.sz
 noex := fun b o e hb => by
  obtain ⟨⟨f0, f1, f2, f3, f4, f5⟩, hl⟩ := hex b hb
  rcases f3 with z | z
  ·exact I.ok.noex b o e z
  ·exact absurd (Nat.lt_of_lt_of_le (Heap.lt_size e) (Nat.le_trans I.ok.bsz z)) (Nat.lt_irrefl _)
 exfs := fun b hb hf => by
  obtain ⟨⟨f0, f1, f2, f3, f4, f5⟩, hl⟩ := hex b hb
  exact (List.mem_cons.mp (I.stkSub b hf)).elim f1 f2
 funs := I.stack
 frf := I.stkFree
theorem comp_inv {pins : List (Addr × Obj)} {σ : St} {H : Hp} {s s' : Shared} {C : Addr} {m : Str -> Option Value} {ex : List Addr} (S : CScope X scope ls fr) (I : Inv X pins σ H s) (hC : s.heap.objs.size <= C) (hex : ∀ b ∈ ex, FpOk X pins H b /\ b < s.heap.objs.size)
  (ho : s'.os = s.os) (hg : AllBare s'.gens) (k : ∀ b o, s.heap.get? b = some o -> s'.heap.get? b = some o) (hn : s'.heap.Ns C m) : Inv (cxC X scope (ls ++ fr.map (·.1)) C s H ex) [] (startC ls fr σ) H s' where
 ok := comp_ok S I hC hex
 os := ho
 bare := hg
 base := Un.kept k
 loc := by
  refine ⟨m, hn, fun i x v e1 e2 e3 => ?_⟩
  have e2' : (ls.map (fun _ => (none : Option V)) ++ fr.map fun p => (σ[p.2]?).join)[i]? = some (some v) := e2
  have e1' : (ls ++ fr.map (·.1))[i]? = some x := e1
  by_cases hi : i < ls.length
  ·rw [List.getElem?_append_left (by simpa using hi), List.getElem?_map] at e2'
   cases q : ls[i]? with
   | none => rw [q] at e2'; cases e2'
   | some y => rw [q] at e2'; cases e2'
  ·have hi' : ls.length <= i := Nat.le_of_not_lt hi
   rw [List.getElem?_append_right (by simpa using hi'), List.getElem?_map, List.length_map] at e2'
   rw [List.getElem?_append_right hi', List.getElem?_map] at e1'
   cases q : fr[i - ls.length]? with
   | none => rw [q] at e1'; cases e1'
   | some p =>
    rw [q] at e1' e2'
    have ex1 : p.1 = x := Option.some.inj e1'
    have hp : p ∈ fr := List.mem_of_getElem? q
    obtain ⟨hsl, hfree⟩ := S.slots p hp
    subst ex1
    have hv : σ[p.2]? = some (some v) := by
     have z : (σ[p.2]?).join = some v := Option.some.inj e2'
     cases w : σ[p.2]? with
     | none => rw [w] at z; cases z
     | some o => rw [w] at z; exact congrArg some z
    obtain ⟨m0, hn0, hl⟩ := id I.loc
    have vis' : ∃ k', (relabel scope X.env).names.lookup p.1 = some k' /\ (k' = .local \/ k' = .cell \/ k' = .free) := by
     rcases e3 with z | z | z
     ·exact ⟨_, z, .inl rfl⟩
     ·exact ⟨_, z, .inr (.inl rfl)⟩
     ·exact ⟨_, z, .inr (.inr rfl)⟩
    obtain ⟨k', ek, _⟩ := vis'
    obtain ⟨k0, f1, f2, f3⟩ := relabel_back ek
    rw [hfree] at f1
    cases f1
    have hk := S.free _ f2 rfl
    have hk' : k' = .cell \/ k' = .free := f3.elim .inr fun z => .inl z.2
    have hvis : Vis X.env.scope p.1 := hk.elim (fun z => .inr (.inl z)) fun z => .inr (.inr z)
    obtain ⟨u, ru, lk⟩ := hl p.2 p.1 v hsl hv hvis
    obtain ⟨c', hc'⟩ : ∃ c, (clos scope X.env).lookup p.1 = some c := closL_has scope.names [] (.inl f2)
    refine ⟨u, ru, .inr ⟨hk'.elim (fun z => .inl (z ▸ ek)) fun z => .inr (z ▸ ek), c', hc', ?_⟩⟩
    rcases lk with ⟨z, _⟩ | ⟨_, c, ec, ic⟩
    ·rcases hk with y | y <;> (rw [y] at z; cases z)
    ·have := S.look I hc'
     rw [ec] at this
     cases this
     exact ic.keeps k
 cell := fun x c e => by
  obtain ⟨v, z⟩ := I.cell x c (S.look I e)
  exact ⟨v, z.keeps k⟩
 free := I.hok.fresh hC
 freeC := fun x c e => I.freeC x c (S.look I e)
 pin := fun p hp => nomatch hp
 hok := I.hok.kept k
 len := by simp [startC, cxC]
def PF (X : Cx) (ifs : List Expr) (t : TT) : Prop :=
 ∀ (pins : List (Addr × Obj)) (s : Shared) (σ : St) (H : Hp) (Q : Bool -> Hp -> Prop), Inv X pins σ H s -> t σ H Q ->
  wpAny (model X.prog X.w) X.A (forIn ifs true fun c r => if r = true then do let ok <- isTrue c X.env (eval c X.env); pure (ForInStep.yield ok) else pure (ForInStep.yield r)) (TP X pins σ Q) X.xe s
def tYes : TT := fun _ H Q => Q true H
theorem pf_nil {X : Cx} : PF X [] tYes := fun pins s σ H Q I h => wpAny_tests_nil ⟨H, I, h⟩
theorem pf_one {X : Cx} {c : Expr} {t : TT} (h : PT X c t) : PF X [c] t := fun pins s σ H Q I hw => wpAny_tests_one (h pins s σ H Q I hw)
theorem HOk.add {P : Program} {w : World} {H : Hp} {h : Heap} {a : Addr} {o : HO} (x : HOk P w H h) (hn : H a = none) (new : ObjOk P w (upd H a o) h a o) : HOk P w (upd H a o) h := fun b u e => by
 by_cases hb : b = a
 ·subst hb; rw [upd_same] at e; cases e; exact new
 ·rw [upd_ne hb] at e
  exact (x b u e).stay (fun _ _ _ q => q) (fun c q => by rw [upd_ne (ne_of_none q hn)]; exact q) fun c xs q => by rw [upd_ne (ne_of_none q hn)]; exact q
theorem Un.add {fs ex : List Addr} {H H' : Hp} {h h' : Heap} {a : Addr} {o : HO} (u : Un fs ex H H' h h') (ha : h.objs.size <= a) (hn : H' a = none) : Un fs ex H (upd H' a o) h h' where
 keep := u.keep
 slot := u.slot
 free := fun b ob q n hx => by rw [upd_ne (Nat.ne_of_lt (Nat.lt_of_lt_of_le (Heap.lt_size q) ha))]; exact u.free b ob q n hx
 there := u.there
 tups := fun b xs q => by
  have z := u.tups b xs q
  rw [upd_ne (ne_of_none z hn)]; exact z
 frzs := fun b ob xs q => by
  have z := u.frzs b ob xs q
  rw [upd_ne (ne_of_none z hn)]; exact z
 tbls := fun b ps q => by
  obtain ⟨more, z⟩ := u.tbls b ps q
  exact ⟨more, by rw [upd_ne (ne_of_none z hn)]; exact z⟩
def tCompK (g : TG) (tf : TT) (te : TE) (σ0 : St) (J : It) (H : Hp) (Q : VK) : Prop :=
 ∃ W : Nat -> Nat -> List V -> St -> Hp -> Prop, (∃ m, W 0 m [] σ0 H) /\ ∀ i m ys σ H, W i m ys σ H ->
  (J.stop i H /\ ys.length <= sizeLine /\ ∀ p, H p = none -> Q (.ref p) (upd H p (.lst ys))) \/
  (J.go i H /\ ys.length <= sizeLine /\ ∃ N : List V -> St -> Hp -> Prop, (∀ ys σ' H', N ys σ' H' -> ∃ m', m' < m /\ W (i + 1) m' ys σ' H') /\ ∀ x H1, J.yld i H x H1 -> g x σ H1 fun σ2 H2 => tf σ2 H2 fun b H3 => if b = true then te σ2 H3 fun v H4 => N (ys ++ [v]) σ2 H4 else N ys σ2 H3)
def tComp (wi : TI) (ls : List Str) (fr : List (Str × Nat)) (g : TG) (tf : TT) (te : TE) : TE := fun σ H Q => wi σ H fun J H1 => tCompK g tf te (startC ls fr σ) J H1 Q
theorem comp_block {pins : List (Addr × Obj)} {σ : St} {H : Hp} {s : Shared} {it : Addr} {fp : List Addr} {tn : Nat -> Heap -> Prop} {J : It} {tg elt iter : Expr} {ifs : List Expr} {pos : Pos} {g : TG} {tf : TT} {te : TE} {Q : VK} {E : Value -> Shared -> Prop} {RR : Value -> Addr -> Result -> Shared -> Prop}
  (S : CScope X scope ls fr) (hc : X.calm = true) (I : Inv X pins σ H s) (T : Turn X.prog X.w X.K tg J fp it tn) (st : tn 0 s.heap) (hf : ∀ b ∈ fp, FpOk X pins H b) (hq : tCompK g tf te (startC ls fr σ) J H Q)
  (hg : ∀ C s H ex, PG (cxC X scope (ls ++ fr.map (·.1)) C s H ex) tg g) (ht : ∀ C s H ex, PF (cxC X scope (ls ++ fr.map (·.1)) C s H ex) ifs tf) (he : ∀ C s H ex, PE (cxC X scope (ls ++ fr.map (·.1)) C s H ex) elt te)
  (hRR : ∀ (D C : Addr) (s' : Shared) (H' : Hp) (m : Str -> Option Value), Inv X pins σ H' s' -> s'.heap.Ns C m -> s.heap.objs.size <= C -> H' C = none -> Q (.ref D) H' -> RR (.ref D) C (.ok .next) s') :
  wpAny (model X.prog X.w) X.A (newList []) (fun acc s₃ => wpAny (model X.prog X.w) X.A (newFunctionEnv scope X.env.globals (clos scope X.env) [] X.env.qual none .none (some X.env)) (fun cenv s₄ =>
   codeAny (model X.prog X.w) X.A (.compStart (.ListComp elt [⟨tg, iter, ifs, 0⟩] scope pos) 0 (.ref it) acc { cenv with scope := relabel scope X.env }) (RR acc cenv.locals) s₄) E s₃) E s := by
 refine wpAny_newObj_type (wpAny_newFunctionEnv S.nocell (by intro y hy; simp at hy) (fun h₁ hns₁ hsb₁ => ?_) S.kind)
 dsimp only at hns₁ hsb₁ ⊢
 generalize hH2 : s.heap.push { cls := .type "list", dict := none, data := .seq ([] : List Value).toArray } = H2 at hns₁ hsb₁ ⊢
 have hC : H2.objs.size = s.heap.objs.size + 1 := by rw [<- hH2, Heap.size_push]
 have hDC : s.heap.objs.size ≠ H2.objs.size := by rw [hC]; exact Nat.ne_of_lt (Nat.lt_succ_self _)
 have hCle : s.heap.objs.size <= H2.objs.size := by rw [hC]; exact Nat.le_succ _
 have below : ∀ b, b < s.heap.objs.size -> b ≠ H2.objs.size /\ b ≠ s.heap.objs.size := fun b hb => ⟨by rw [hC]; exact Nat.ne_of_lt (Nat.lt_succ_of_lt hb), Nat.ne_of_lt hb⟩
 have old : ∀ b o, s.heap.get? b = some o -> h₁.get? b = some o := fun b o e => hsb₁.extBut b o (below b (Heap.lt_size e)).1 (Heap.get?_push_of_some _ (hH2 ▸ Heap.get?_push_of_some _ e))
 have hacc : h₁.PlainList s.heap.objs.size #[] := ⟨_, hsb₁.extBut _ _ hDC (Heap.get?_push_of_some _ (hH2 ▸ Heap.get?_push_size _ rfl))⟩
 have hfl : ∀ b ∈ fp, b < s.heap.objs.size := fun b hb => by
  obtain ⟨o, e, _⟩ := T.obj _ _ st b hb
  exact Heap.lt_size e
 have hex : ∀ b ∈ fp, FpOk X pins H b /\ b < s.heap.objs.size := fun b hb => ⟨hf b hb, hfl b hb⟩
 generalize hs4 : ({ s with heap := h₁, toks := s.toks + ([] : List (Str × Value)).length } : Shared) = s4
 generalize hX : cxC X scope (ls ++ fr.map (·.1)) H2.objs.size s H fp = Y
 have I4 : Inv Y [] (startC ls fr σ) H s4 := by
  rw [<- hX, <- hs4]
  exact comp_inv S I hCle hex rfl I.bare old hns₁
 have YP : Y.prog = X.prog := by rw [<- hX]; rfl
 have Yw : Y.w = X.w := by rw [<- hX]; rfl
 have YK : Y.K = X.K := by rw [<- hX]; rfl
 have YA : Y.A = X.A := by rw [<- hX]; rfl
 have Yc : Y.calm = true := by rw [<- hX]; exact hc
 have Yx : Y.xe = fun _ _ => False := by rw [<- hX]; rfl
 have Yl : Y.env.locals = H2.objs.size := by rw [<- hX]; rfl
 have Yok : (cxC X scope (ls ++ fr.map (·.1)) H2.objs.size s H fp).Ok := comp_ok S I hCle hex
 have fpY : ∀ {H' : Hp} {o : Obj}, (∀ b ∈ fp, H' b = none) -> ∀ b ∈ fp, FpOk Y [(s.heap.objs.size, o)] H' b := fun {H' o} hn b hb => by
  rw [<- hX]
  obtain ⟨f0, f1, f2, f3, f4, f5⟩ := hf b hb
  refine ⟨hn b hb, (below b (hfl b hb)).1, fun z => Yok.exfs b hb z, .inl hb, fun x c e => f4 x c (S.look I e), fun p hp => ?_⟩
  have e : p = (s.heap.objs.size, o) := by simpa [cxC] using hp
  subst e
  exact Ne.symm (below b (hfl b hb)).2
 have pinD : ∀ {σ' : St} {H' : Hp} {s' : Shared} {its : Array Value} {n : Nat}, Inv Y [] σ' H' s' -> H' s.heap.objs.size = none -> s'.heap.get? s.heap.objs.size = some { cls := .type "list", data := .seq its n } ->
   Inv Y [(s.heap.objs.size, { cls := .type "list", data := .seq its n })] σ' H' s' := fun {σ' H' s' its n} I' hn e => I'.pins_of fun p hp => by
  have ep : p = (s.heap.objs.size, { cls := .type "list", data := .seq its n }) := by simpa using hp
  subst ep
  refine ⟨e, hn, by rw [Yl]; exact hDC, ?_, fun v z => nomatch z⟩
  rw [<- hX]
  exact fun hb => I.nofs (Nat.le_refl _) ((List.mem_cons.mp (I.stkSub _ hb)).resolve_left fun z => absurd I.lt (by rw [<- z]; exact Nat.lt_irrefl _))
 obtain ⟨W, ⟨m0, w0⟩, turn⟩ := hq
 have E1 : ∀ {α : Type} {t : Sem α} {Q1 : α -> Shared -> Prop} {s1 : Shared} {E1 : Value -> Shared -> Prop}, wpAny (model X.prog X.w) X.A t Q1 Y.xe s1 -> wpAny (model X.prog X.w) X.A t Q1 E1 s1 := fun h => wpAny_mono h (fun _ _ z => z) fun _ _ z => by rw [Yx] at z; exact z.elim
 have endC : ∀ {σ' : St} {H' : Hp} {s' : Shared} {its : List Value} {ys : List V}, Inv Y [] σ' H' s' -> H' s.heap.objs.size = none -> s'.heap.PlainList s.heap.objs.size its.toArray -> Vals ys its -> ys.length <= sizeLine ->
   (∀ p, H' p = none -> Q (.ref p) (upd H' p (.lst ys))) -> RR (.ref s.heap.objs.size) H2.objs.size (.ok .next) s' := fun {σ' H' s' its ys} I' hn ⟨n, e⟩ rv hz q => by
  subst hX
  obtain ⟨m, hm, _⟩ := id I'.loc
  have hCn : H' H2.objs.size = none := I'.free
  refine hRR _ _ s' (upd H' s.heap.objs.size (.lst ys)) m (I.call' I'.os (Un.add I'.base (Nat.le_refl _) hn) (I'.hok.add hn ⟨hz, its, n, rv, e⟩) I'.bare fun b hb => ?_) hm hCle (by rw [upd_ne (Ne.symm hDC)]; exact hCn) (q _ hn)
  obtain ⟨f0, f1, f2, f3, f4, f5⟩ := hf b hb
  exact ⟨f3, f1, f4, f5⟩
 have loop : codeAny (model X.prog X.w) X.A (.compLoop (.ListComp elt [⟨tg, iter, ifs, 0⟩] scope pos) 0 (.ref it) (.ref s.heap.objs.size) Y.env) (RR (.ref s.heap.objs.size) H2.objs.size) s4 := by
  refine comp_loop_any (fun n s' => ∃ (i : Nat) (σ' : St) (H' : Hp) (ys : List V) (its : List Value), Inv Y [] σ' H' s' /\ tn i s'.heap /\ (∀ b ∈ fp, H' b = none) /\ H' s.heap.objs.size = none /\ s'.heap.PlainList s.heap.objs.size its.toArray /\ Vals ys its /\ W i n ys σ' H') ?_ m0
   ⟨0, startC ls fr σ, H, [], [], I4, T.keep _ _ _ st fun b _ o e => by rw [<- hs4]; exact old b o e, fun b hb => (hf b hb).1, I.hok.fresh (Nat.le_refl _), by rw [<- hs4]; exact hacc, .nil, w0⟩
  rintro n s5 ⟨i, σ5, H5, ys, its, I5, st5, fr5, hn5, ⟨nn, e5⟩, rv, w5⟩
  have I5p := pinD I5 hn5 e5
  rcases turn i n ys σ5 H5 w5 with ⟨stop, hz, qn⟩ | ⟨go, hz, NN, hNN, step⟩
  ·rw [<- YA]
   refine thn (T.done Y YP Yw YK Yc i _ s5 σ5 H5 _ I5p (fpY fr5) st5 stop) fun r s6 ⟨hr, I6⟩ => ?_
   subst hr
   exact endC (I6.pins_of fun p hp => nomatch hp) hn5 ⟨nn, (I6.pin _ (List.mem_append_right _ List.mem_cons_self)).1⟩ rv hz qn
  ·have hit := T.item Y YP Yw YK Yc i _ s5 σ5 H5 (notedBy (model X.prog X.w) X.A Y.env fun e s' => RR (Value.ref s.heap.objs.size) H2.objs.size (Except.error e) s') I5p (fpY fr5) st5 go
   rw [YA] at hit
   refine thn hit fun r s6 ⟨u, hr, h6⟩ => ?_
   subst hr
   refine thn h6 fun _ s7 ⟨x, H7, I7, r7, y7, st7, fr7⟩ => ?_
   have I7' := I7.pinned (fpY fr7) (T.obj _ _ st7)
   have h8 := hg H2.objs.size s H fp
   have h9 := ht H2.objs.size s H fp
   have h10 := he H2.objs.size s H fp
   rw [hX] at h8 h9 h10
   have a8 := h8 _ s7 σ5 H7 x u _ I7' r7 (step x H7 y7)
   rw [YP, Yw, YA] at a8
   refine thn (E1 a8) fun _ s8 ⟨σ8, H8, I8, q8⟩ => ?_
   have a9 := h9 _ s8 σ8 H8 _ I8 q8
   rw [YP, Yw, YA] at a9
   refine thn (E1 a9) fun b s9 ⟨H9, I9, q9⟩ => ?_
   have back : ∀ {σ' : St} {H' : Hp} {s' : Shared}, Inv Y ([(s.heap.objs.size, { cls := .type "list", data := .seq its.toArray nn })] ++ pinsAt fp s7.heap) σ' H' s' ->
     tn (i + 1) s'.heap /\ (∀ b ∈ fp, H' b = none) /\ H' s.heap.objs.size = none /\ s'.heap.PlainList s.heap.objs.size its.toArray := fun {σ' H' s'} I' => by
    have hp := I'.pin (s.heap.objs.size, { cls := .type "list", data := .seq its.toArray nn }) (List.mem_append_right _ (List.mem_append_left _ List.mem_cons_self))
    refine ⟨T.keep _ _ _ st7 fun b hb o e => (I'.pin (b, o) (List.mem_append_right _ (List.mem_append_right _ (mem_pinsAt hb e)))).1, fun b hb => ?_, hp.2.1, ⟨nn, hp.1⟩⟩
    obtain ⟨o, e, d⟩ := T.obj _ _ st7 b hb
    exact (I'.pin (b, o) (List.mem_append_right _ (List.mem_append_right _ (mem_pinsAt hb e)))).2.1
   cases b with
   | false =>
    rw [if_neg Bool.false_ne_true] at q9 ⊢
    obtain ⟨m', hm, w9⟩ := hNN _ _ _ q9
    obtain ⟨z1, z2, z3, z4⟩ := back I9
    exact ⟨m', hm, i + 1, σ8, H9, ys, its, I9.pins_of (fun p hp => nomatch hp), z1, z2, z3, z4, rv, w9⟩
   | true =>
    rw [if_pos rfl] at q9 ⊢
    have a10 := h10 _ s9 σ8 H9 _ I9 q9
    rw [YP, Yw, YA] at a10
    refine thn (E1 a10) fun xv s10 ⟨v, H10, I10, rx, q10⟩ => ?_
    obtain ⟨m', hm, w10⟩ := hNN _ _ _ q10
    obtain ⟨z1, z2, z3, z4⟩ := back I10
    have hlen : its.length = ys.length := (rv.length).symm
    refine wpAny_list_append_plain z4 (fun h' pl sb => ?_) (by rw [List.size_toArray, hlen]; exact hz)
    refine ⟨m', hm, i + 1, σ8, H10, ys ++ [v], its ++ [xv], ?_, ?_, z2, z3, ?_, rv.append (.cons rx .nil), w10⟩
    ·have I10' : Inv Y [] σ8 H10 s10 := I10.pins_of fun p hp => nomatch hp
     refine I10'.turned (t' := s10.toks) (it := s.heap.objs.size) (fun b o hb e => (sb.2 b hb).trans e) z3 (by rw [Yl]; exact hDC) (.inr ?_) (fun x c e => ?_) fun p hp => ?_
     ·rw [<- hX]; exact Nat.le_refl _
     ·rw [<- hX] at e
      intro z
      obtain ⟨v0, q0⟩ := I.cell x c (S.look I e)
      exact absurd q0.lt (by rw [z]; exact Nat.lt_irrefl _)
     ·rw [<- hX] at hp; exact nomatch hp
    ·refine T.keep _ _ _ z1 fun b hb o e => (sb.2 b (below b (hfl b hb)).2).trans e
    ·have : (its ++ [xv]).toArray = its.toArray.push xv := by simp
     rw [this]; exact pl
 have hYe : Y.env = { newEnv scope H2.objs.size X.env.globals (clos scope X.env) X.env.qual none .none (some X.env) builtinsNs with scope := relabel scope X.env } := by rw [<- hX]; rfl
 rw [<- hYe]
 rw [hYe] at loop ⊢
 refine codeAny_compStart_list loop ?_
 exact T.self _ 0 _ _ _ (T.keep _ _ _ st fun b _ o e => by rw [<- hs4]; exact old b o e) loop
theorem pe_comp {wi : TI} {tg elt iter : Expr} {ifs : List Expr} {pos : Pos} {g : TG} {tf : TT} {te : TE} (S : CScope X scope ls fr) (hc : X.calm = true) (hi : PI X tg iter wi)
  (hg : ∀ C s H ex, PG (cxC X scope (ls ++ fr.map (·.1)) C s H ex) tg g) (ht : ∀ C s H ex, PF (cxC X scope (ls ++ fr.map (·.1)) C s H ex) ifs tf) (he : ∀ C s H ex, PE (cxC X scope (ls ++ fr.map (·.1)) C s H ex) elt te)
  (hs : ∀ x, foldedSetIterable iter X.env x = pure x := by intro _; rfl) : PE X (.ListComp elt [⟨tg, iter, ifs, 0⟩] scope pos) (tComp wi ls fr g tf te) := by
 intro pins s σ H Q I h
 rw [eval_ListComp]
 refine wpAny_comprehension_free (use := none) rfl hs (closureFor_eq (S.cells I)) S.kind S.names (thn (hi pins s σ H _ I h) fun xv s₁ h₁ => thn h₁ fun itv s₂ h₂ => ?_)
 obtain ⟨it, fp, tn, J, H2, rfl, I2, T, st, hf, q⟩ := h₂
 refine comp_block (RR := fun acc C => compPost (model X.prog X.w) X.A X.xe none (EP X pins σ Q) acc C) S hc I2 T st hf q hg ht he ?_
 intro D C s' H' m I' hn hC hCn hq
 refine ⟨m, hn, fun h' sb => ?_⟩
 have nC : ∀ {b : Addr}, b < s₂.heap.objs.size -> b ≠ C := fun hb => Nat.ne_of_lt (Nat.lt_of_lt_of_le hb hC)
 refine ⟨.ref D, H', I'.turned (t' := s'.toks) (it := C) (fun b o hb e => (sb.2 b hb).trans e) hCn (Ne.symm (nC I2.lt)) (.inr (Nat.le_trans I2.sz hC)) (fun x c e => ?_) fun p hp => ?_, rfl, hq⟩
 ·obtain ⟨v0, q0⟩ := I2.cell x c e
  exact nC q0.lt
 ·exact nC (Heap.lt_size (I2.pin p hp).1)
theorem ps_comp {wi : TI} {tg elt iter : Expr} {ifs : List Expr} {pos spos py : Pos} {y : Str} {i : Nat} {g : TG} {tf : TT} {te : TE} (S : CScope X scope ls fr) (hc : X.calm = true) (hi : PI X tg iter wi)
  (hg : ∀ C s H ex, PG (cxC X scope (ls ++ fr.map (·.1)) C s H ex) tg g) (ht : ∀ C s H ex, PF (cxC X scope (ls ++ fr.map (·.1)) C s H ex) ifs tf) (he : ∀ C s H ex, PE (cxC X scope (ls ++ fr.map (·.1)) C s H ex) elt te)
  (hN : X.N.Nodup) (hy : X.N[i]? = some y) (hl : X.env.scope.names.lookup y = some .local) (hsw : swapsWith (.ListComp elt [⟨tg, iter, ifs, 0⟩] scope pos) (some (.Name y py)) spos.line X.env = pure true)
  (hs : ∀ x, foldedSetIterable iter X.env x = pure x := by intro _; rfl) : PS X (.Assign [.Name y py] (.ListComp elt [⟨tg, iter, ifs, 0⟩] scope pos) spos) (tAsg (tComp wi ls fr g tf te) (gName i)) := by
 intro pins s σ H D I h
 rw [exec_Assign_Name_used _ _ _ _ hsw]
 refine wpAny_bind (wpAny_standAt (wpAny_bind ?_))
 show wpAny _ X.A (do let _ <- comprehension (.ListComp elt [⟨tg, iter, ifs, 0⟩] scope pos) scope X.env _ (newList []) false (eval iter X.env) (some (assign (.Name y py) X.env))) _ _ s
 refine wpAny_bind (wpAny_mono (wpAny_comprehension_free (use := some (assign (.Name y py) X.env)) (Q := fun _ s' => SP X pins D .next s') rfl hs (closureFor_eq (S.cells I)) S.kind S.names
  (thn (hi pins s σ H _ I h) fun xv s₁ h₁ => thn h₁ fun itv s₂ h₂ => ?_)) (fun _ s' hq => wpAny_pure (wpAny_pure hq)) fun _ _ e => e)
 obtain ⟨it, fp, tn, J, H2, rfl, I2, T, st, hf, q⟩ := h₂
 refine comp_block (RR := fun acc C => compPost (model X.prog X.w) X.A X.xe (some (assign (.Name y py) X.env)) (fun _ s' => SP X pins D .next s') acc C) S hc I2 T st hf q hg ht he ?_
 intro D1 C s' H' m I' hn hC hCn hq
 have nC : ∀ {b : Addr}, b < s₂.heap.objs.size -> b ≠ C := fun hb => Nat.ne_of_lt (Nat.lt_of_lt_of_le hb hC)
 have cC : ∀ x c, X.env.cells.lookup x = some c -> c ≠ C := fun x c e => by
  obtain ⟨v0, q0⟩ := I2.cell x c e
  exact nC q0.lt
 show wpAny _ X.A (assign (.Name y py) X.env (.ref D1)) _ _ _
 refine wpAny_assign_Name (store_ok2 I' hN hy (.inl hl) (v := .ref D1) rfl (fun s3 I3 hsb => ?_) (.inr hl))
 obtain ⟨a, sb1, ha⟩ := hsb
 have haC : C ≠ a := by
  rcases ha with rfl | e
  ·exact Ne.symm (nC I2.lt)
  ·exact Ne.symm (cC _ _ e)
 refine ⟨m, hn.sameBut sb1 haC, fun h' sb => ⟨_, H', I3.turned (t' := s3.toks) (it := C) (fun b o hb e => (sb.2 b hb).trans e) hCn (Ne.symm (nC I2.lt)) (.inr (Nat.le_trans I2.sz hC)) cC fun p hp => nC (Heap.lt_size (I2.pin p hp).1), hq⟩⟩
end
theorem comp_list {K : PySem.W.Frag} {a : Addr} {xs : List V} {g : TG} {tf : TT} {te : TE} {σ : St} {H : Hp} {Q : VK} (Pv : Nat -> List V -> St -> Hp -> Prop) (h0 : Pv 0 [] σ H) (hl : ∀ i ys σ H, i <= xs.length -> Pv i ys σ H -> SqL K H a xs /\ ys.length <= sizeLine)
  (hs : ∀ i x ys σ H, xs[i]? = some x -> Pv i ys σ H -> g x σ H fun σ2 H2 => tf σ2 H2 fun b H3 => if b = true then te σ2 H3 fun v H4 => Pv (i + 1) (ys ++ [v]) σ2 H4 else Pv (i + 1) ys σ2 H3)
  (hd : ∀ ys σ H, Pv xs.length ys σ H -> ∀ p, H p = none -> Q (.ref p) (upd H p (.lst ys))) : tCompK g tf te σ (Itl K a) H Q := by
 refine ⟨fun i m ys σ H => m = xs.length - i /\ i <= xs.length /\ Pv i ys σ H, ⟨xs.length, by simp, Nat.zero_le _, h0⟩, ?_⟩
 rintro i m ys σ H ⟨rfl, hi, p⟩
 obtain ⟨q, hz⟩ := hl i ys σ H hi p
 by_cases hlt : i < xs.length
 ·refine .inr ⟨⟨xs, xs[i], q, by simp [hlt]⟩, hz, Pv (i + 1), fun ys' σ' H' p' => ⟨xs.length - (i + 1), by omega, rfl, hlt, p'⟩, fun x H' y => ?_⟩
  obtain ⟨e, y⟩ := y
  subst e
  exact hs i x ys σ _ (y xs q) p
 ·have e : i = xs.length := by omega
  subst e
  exact .inl ⟨⟨xs, q, Nat.le_refl _⟩, hz, hd ys σ H p⟩
theorem comp_tup {K : PySem.W.Frag} {a : Addr} {xs : List V} {g : TG} {tf : TT} {te : TE} {σ : St} {H : Hp} {Q : VK} (Pv : Nat -> List V -> St -> Hp -> Prop) (h0 : Pv 0 [] σ H) (hl : ∀ i ys σ H, i <= xs.length -> Pv i ys σ H -> SqT K H a xs /\ ys.length <= sizeLine)
  (hs : ∀ i x ys σ H, xs[i]? = some x -> Pv i ys σ H -> g x σ H fun σ2 H2 => tf σ2 H2 fun b H3 => if b = true then te σ2 H3 fun v H4 => Pv (i + 1) (ys ++ [v]) σ2 H4 else Pv (i + 1) ys σ2 H3)
  (hd : ∀ ys σ H, Pv xs.length ys σ H -> ∀ p, H p = none -> Q (.ref p) (upd H p (.lst ys))) : tCompK g tf te σ (Itt K a) H Q := by
 refine ⟨fun i m ys σ H => m = xs.length - i /\ i <= xs.length /\ Pv i ys σ H, ⟨xs.length, by simp, Nat.zero_le _, h0⟩, ?_⟩
 rintro i m ys σ H ⟨rfl, hi, p⟩
 obtain ⟨q, hz⟩ := hl i ys σ H hi p
 by_cases hlt : i < xs.length
 ·refine .inr ⟨⟨xs, xs[i], q, by simp [hlt]⟩, hz, Pv (i + 1), fun ys' σ' H' p' => ⟨xs.length - (i + 1), by omega, rfl, hlt, p'⟩, fun x H' y => ?_⟩
  obtain ⟨e, y⟩ := y
  subst e
  exact hs i x ys σ _ (y xs q) p
 ·have e : i = xs.length := by omega
  subst e
  exact .inl ⟨⟨xs, q, Nat.le_refl _⟩, hz, hd ys σ H p⟩
theorem comp_range {lo : Int} {n : Nat} {g : TG} {tf : TT} {te : TE} {σ : St} {H : Hp} {Q : VK} (Pv : Nat -> List V -> St -> Hp -> Prop) (h0 : Pv 0 [] σ H) (hl : ∀ i ys σ H, i <= n -> Pv i ys σ H -> ys.length <= sizeLine)
  (hs : ∀ i ys σ H, i < n -> Pv i ys σ H -> g (.int (lo + i)) σ H fun σ2 H2 => tf σ2 H2 fun b H3 => if b = true then te σ2 H3 fun v H4 => Pv (i + 1) (ys ++ [v]) σ2 H4 else Pv (i + 1) ys σ2 H3)
  (hd : ∀ ys σ H, Pv n ys σ H -> ∀ p, H p = none -> Q (.ref p) (upd H p (.lst ys))) : tCompK g tf te σ (Itr lo n) H Q := by
 refine ⟨fun i m ys σ H => m = n - i /\ i <= n /\ Pv i ys σ H, ⟨n, by simp, Nat.zero_le _, h0⟩, ?_⟩
 rintro i m ys σ H ⟨rfl, hi, p⟩
 have hz := hl i ys σ H hi p
 by_cases hlt : i < n
 ·refine .inr ⟨hlt, hz, Pv (i + 1), fun ys' σ' H' p' => ⟨n - (i + 1), by omega, rfl, hlt, p'⟩, fun x H' y => ?_⟩
  obtain ⟨e, y⟩ := y
  subst e y
  exact hs i ys σ _ hlt p
 ·have e : i = n := by omega
  subst e
  exact .inl ⟨Nat.le_refl _, hz, hd ys σ H p⟩
def cscopeB (sc : Scope) (N : List Str) (scope : Scope) (fr : List (Str × Nat)) : Bool :=
 (scope.kind == .function) && scope.names.all (fun y => y.2 != .cell) && scope.names.all (fun y => y.2 != .local || scope.names.lookup y.1 == some .local) &&
 scope.names.all (fun y => y.2 != .free || sc.names.lookup y.1 == some .cell || sc.names.lookup y.1 == some .free) && fr.all (fun p => N[p.2]? == some p.1 && scope.names.lookup p.1 == some .free)
theorem cs_of {X : Cx} {scope : Scope} {ls : List Str} {fr : List (Str × Nat)} (sc : Scope) (N : List Str) (h1 : X.env.scope = sc) (h2 : X.N = N) (h : cscopeB sc N scope fr = true) : CScope X scope ls fr := by
 subst h1 h2
 simp only [cscopeB, Bool.and_eq_true, List.all_eq_true, Bool.or_eq_true, bne_iff_ne, beq_iff_eq, ne_eq] at h
 obtain ⟨⟨⟨⟨a, b⟩, c⟩, d⟩, e⟩ := h
 refine ⟨a, b, fun y hy hk => (c y hy).resolve_left fun z => z hk, fun y hy hk => ?_, e⟩
 rcases d y hy with (z | z) | z
 ·exact absurd hk z
 ·exact .inl z
 ·exact .inr z
theorem pgc {X : Cx} {scope : Scope} {ls : List Str} {fr : List (Str × Nat)} {C : Addr} {s : Shared} {H : Hp} {ex : List Addr} {x : Str} {pos : Pos} (i : Nat) (hN : (ls ++ fr.map (·.1)).Nodup) (hi : (ls ++ fr.map (·.1))[i]? = some x) (hx : scope.names.lookup x = some .local) :
  PG (cxC X scope (ls ++ fr.map (·.1)) C s H ex) (.Name x pos) (gName i) :=
 pg_name hN hi (.inl (lookup_relabel_local hx)) (.inr (lookup_relabel_local hx))
def relN (scope sc : Scope) : List (Str × NameKind) := scope.names.map fun (n, k) => if (k == .free && sc.kind == .function && sc.names.lookup n == some .cell) then (n, .cell) else (n, k)
def visB (scope sc : Scope) (x : Str) : Bool := match (relN scope sc).lookup x with | some .local => true | some .cell => true | some .free => true | _ => false
theorem pvc (sc : Scope) (i : Nat) {X : Cx} {scope : Scope} {N : List Str} {C : Addr} {s : Shared} {H : Hp} {ex : List Addr} {x : Str} {pos : Pos} (hN : N[i]? = some x := by rfl) (hs : X.env.scope = sc := by rfl) (hv : visB scope sc x = true := by decide +kernel)
  (hd : (x == ("__debug__" : Str)) = false := by decide +kernel) (hcd : (x == ("__classdict__" : Str)) = false := by decide +kernel) : PE (cxC X scope N C s H ex) (.Name x pos) (tVar i) := by
 subst hs
 refine pe_var hN ?_ hd hcd
 have hv' : visB scope X.env.scope x = true := hv
 unfold visB at hv'
 show (relN scope X.env.scope).lookup x = some .local \/ (relN scope X.env.scope).lookup x = some .cell \/ (relN scope X.env.scope).lookup x = some .free
 split at hv'
 ·rename_i e; exact .inl e
 ·rename_i e; exact .inr (.inl e)
 ·rename_i e; exact .inr (.inr e)
 ·cases hv'
theorem glc (sc : Scope) {X : Cx} {scope : Scope} {N : List Str} {C : Addr} {s : Shared} {H : Hp} {ex : List Addr} {x : Str} (hs : X.env.scope = sc := by rfl) (h : ((relN scope sc).lookup x == some .globalImplicit) = true := by decide +kernel) : Gl (cxC X scope N C s H ex) x := by
 subst hs
 exact eq_of_beq h
end L2
namespace L2
open PySem PySem.Spec PyProof.Rows
def insD (x : Int) : List Int -> List Int
 | [] => [x]
 | y :: r => if y <= x then x :: y :: r else y :: insD x r
def sortD : List Int -> List Int
 | [] => []
 | x :: r => insD x (sortD r)
theorem insD_perm (x : Int) : ∀ l : List Int, (insD x l).Perm (x :: l)
 | [] => .refl _
 | y :: r => by
  unfold insD
  split
  ·exact .refl _
  ·exact ((insD_perm x r).cons y).trans (.swap x y r)
theorem sortD_perm : ∀ l : List Int, (sortD l).Perm l
 | [] => .refl _
 | x :: r => (insD_perm x _).trans ((sortD_perm r).cons x)
theorem insD_pw (x : Int) : ∀ {l : List Int}, l.Pairwise (· >= ·) -> (insD x l).Pairwise (· >= ·)
 | [], _ => by simp [insD]
 | y :: r, h => by
  obtain ⟨h1, h2⟩ := List.pairwise_cons.mp h
  unfold insD
  split
  ·rename_i hy
   refine List.pairwise_cons.mpr ⟨fun z hz => ?_, h⟩
   rcases List.mem_cons.mp hz with rfl | hz
   ·exact hy
   ·exact Int.le_trans (h1 z hz) hy
  ·rename_i hy
   refine List.pairwise_cons.mpr ⟨fun z hz => ?_, insD_pw x h2⟩
   rcases List.mem_cons.mp ((insD_perm x r).mem_iff.mp hz) with rfl | hz
   ·show z <= y
    omega
   ·exact h1 z hz
theorem sortD_pw : ∀ l : List Int, (sortD l).Pairwise (· >= ·)
 | [] => .nil
 | x :: r => insD_pw x (sortD_pw r)
theorem perm_ge_eq {a b : List Int} (ha : a.Pairwise (· >= ·)) (hb : b.Pairwise (· >= ·)) (p : a.Perm b) : a = b :=
 p.eq_of_pairwise (le := fun x y => x >= y) (fun x y _ _ h1 h2 => Int.le_antisymm h2 h1) ha hb
theorem sortD_eq {a l : List Int} (p : a.Perm l) (h : a.Pairwise (· >= ·)) : a = sortD l := perm_ge_eq h (sortD_pw l) (p.trans (sortD_perm l).symm)
section
variable {prog : Program} {w : World} {A : Around} {E : Value -> Shared -> Prop} {s : Shared}
theorem sorted_ints_revT {l : Addr} {vs : List Value} {ns : List Int} {b : Bool} {Q : Value -> Shared -> Prop} (hl : IsTup s.heap l vs.toArray) (hI : IntsAre vs ns) (h64 : vs.length < 64)
  (h : ∀ (out : List Value) (n : Nat) (h1 h' : Heap) (ns' : List Int), (∀ b o, s.heap.get? b = some o -> h1.get? b = some o) -> (∀ b o, h1.get? b = some o -> h'.get? b = some o) -> h'.get? h1.objs.size = some (seqObj "list" out.toArray n) -> IntsAre out ns' -> ns'.Perm ns -> Ordered b ns' -> Q (.ref h1.objs.size) { s with heap := h' }) :
  wpAny (model prog w) A (call (.builtin "sorted") [.ref l] [(Str.ofString "reverse", .bool b)]) Q E s := by
 refine call_function_entry_kw kind_sorted plain_sorted entry_sorted (args_sorted_rev _ _) ?_
 unfold Builtin.«sorted»
 refine wpAny_bind (m := checkCount "sorted" 1 1 _) (wpAny_pure ?_)
 obtain ⟨o, ho, hc, n, hd⟩ := hl
 refine wpAny_bind (wpAny_collect_seq l (.inr rfl) ho hc hd (fun h1 hk1 => ?_) (by simp [sizeLine_eq]; omega))
 refine wpAny_bind (wpAny_newList ?_)
 have hoL : (h1.push (seqObj "list" vs.toArray 0)).get? h1.objs.size = some (seqObj "list" vs.toArray 0) := Heap.get?_push_size _ rfl
 refine wpAny_bind (wpAny_holding (wpAny_call_entry_kw slot_list_sort ⟨_, hoL, rfl⟩ entry_list_sort (list_sort_tree_rev hoL hI h64 fun out ns' a1 a2 a3 => ⟨_, rfl, ?_⟩) (args_list_sort_rev _ _)))
 obtain ⟨e, he⟩ := sortedHeap_at (vs := vs) (out := out) hoL
 refine wpAny_pure ⟨_, rfl, h out.toList e h1 _ ns' hk1 (fun b o hb => ?_) he a1 a2 a3⟩
 have hlt := Heap.lt_size hb
 rw [sortedHeap_old (Nat.ne_of_lt hlt) (by rw [Heap.size_push]; exact Nat.lt_succ_of_lt hlt)]
 exact Heap.get?_push_of_some _ hb
end
section
variable {X : Cx}
def rSortR (K : PySem.W.Frag) (b : Bool) : V -> Hp -> VK -> Prop := fun x H Q => ∃ a ns, x = .ref a /\ (SqL K H a (ns.map V.int) \/ SqT K H a (ns.map V.int)) /\ ns.length < 64 /\ ∀ ns' p, ns'.Perm ns -> Ordered b ns' -> H p = none -> Q (.ref p) (upd H p (.lst (ns'.map V.int)))
def tSortR (K : PySem.W.Frag) (b : Bool) (te : TE) : TE := fun σ H Q => te σ H fun x H1 => rSortR K b x H1 Q
theorem small64 {n : Nat} (h : n < 64) : n <= sizeLine := Nat.le_trans (Nat.le_of_lt h) (by decide)
theorem pe_sortR {e : Expr} {te : TE} {b : Bool} {p kp cp pos : Pos} {j : Nat} (hg : Gl X "sorted") (hm : X.mg "sorted" = none) (he : PE X e te)
  (hse : starEach [e] X.env = [(false, eval e X.env)] := by rfl) : PE X (.Call (.Name "sorted" p) [e] [⟨some "reverse", .Constant (.bool b) j cp, kp⟩] pos) (tSortR X.K b te) := by
 intro pins s σ H Q I h
 refine wpAny_Call_Name_kw (ld_blt I hg hm boot_sorted ?_ (by decide) (by decide))
 refine callWith_kw (thn (pa_cons he pa_nil hse pos pins s σ H (fun vs H1 => match vs with | [x] => rSortR X.K b x H1 Q | _ => False) I h) fun us s1 ⟨vs, H1, I1, r1, q1⟩ => ?_) (by rw [hse]; rfl) (by rw [hse]; rfl)
 match vs, r1, q1 with
 | [x], r1, q =>
  obtain ⟨u, rfl, ru⟩ := vals1 r1
  refine kws_cons (Constant_bool (kws_nil ?_))
  obtain ⟨a, ns, rfl, hq, hl, q⟩ := q
  cases ru
  show wpAny _ _ (call (.builtin "sorted") [.ref a] [(Str.ofString "reverse", .bool b)]) _ _ _
  rcases hq with hq | hq
  ·obtain ⟨its, r', pl, hz⟩ := I1.list hq
   have hlen := r'.length
   rw [List.length_map] at hlen
   refine sorted_ints_rev pl.isList (intsAre_of r') (by omega) fun out ns' a1 a2 a3 => ?_
   obtain ⟨n, hn⟩ := sortedAll_at s1.heap its out
   have hz' : (ns'.map V.int).length <= sizeLine := by rw [List.length_map, a2.length_eq]; exact small64 hl
   exact ⟨.ref _, _, I1.laid (t' := s1.toks) (fun _ _ => sortedAll_old) (Nat.le_succ _) (show ObjOk X.prog X.w _ _ _ (.lst (ns'.map V.int)) from ⟨hz', out.toList, n, vals_ints a1, by simpa [seqObj] using hn⟩), rfl, q ns' _ a2 a3 (I1.hok.fresh (Nat.le_succ _))⟩
  ·obtain ⟨its, r', pl, hz⟩ := I1.tuple hq
   have hlen := r'.length
   rw [List.length_map] at hlen
   refine sorted_ints_revT pl (intsAre_of r') (by omega) fun out n h1 h' ns' k1 k2 e a1 a2 a3 => ?_
   have hz' : (ns'.map V.int).length <= sizeLine := by rw [List.length_map, a2.length_eq]; exact small64 hl
   have I2 : Inv X pins σ H1 { s1 with heap := h1 } := I1.kept (t' := s1.toks) k1
   exact ⟨.ref _, _, I2.laid (t' := s1.toks) k2 (Nat.le_refl _) (show ObjOk X.prog X.w _ _ _ (.lst (ns'.map V.int)) from ⟨hz', out, n, vals_ints a1, by simpa [seqObj] using e⟩), rfl, q ns' _ a2 a3 (I2.hok.fresh (Nat.le_refl _))⟩
theorem preSum_list (ns : List Int) : ∀ j, preSum (fun i => ns.getD i 0) j = (ns.take j).sum
 | 0 => by simp [preSum]
 | j + 1 => by
  rw [preSum, preSum_list ns j]
  by_cases h : j < ns.length
  ·rw [List.take_succ_eq_append_getElem h, List.sum_append, List.sum_cons, List.sum_nil]
   have e : ns.getD j 0 = ns[j] := by simp [h]
   rw [e]
   omega
  ·rw [List.take_of_length_le (by omega), List.take_of_length_le (by omega)]
   have : ns[j]? = none := List.getElem?_eq_none (by omega)
   simp [List.getD, this]
theorem vals_int_at {ns : List Int} {its : List Value} (r : Vals (ns.map V.int) its) (i : Nat) (v : Value) (e : its.toArray[i]? = some v) : ∃ t, v = .int (ns.getD i 0) t := by
 have e' : its[i]? = some v := by simpa using e
 have hi : i < its.length := (List.getElem?_eq_some_iff.mp e').1
 have hl := r.length
 rw [List.length_map] at hl
 have hx : (ns.map V.int)[i]? = some (V.int (ns.getD i 0)) := by
  have hi' : i < ns.length := by omega
  simp [hi']
 obtain ⟨u, hu, t, rfl⟩ := r.get hx
 rw [e'] at hu
 cases hu
 exact ⟨t, rfl⟩
theorem call_sum_ints (hc : X.calm = true) : CallR X (.builtin "sum") (fun xs H Q => ∃ (a : Addr) (ns : List Int), xs = [.ref a] /\ (SqL X.K H a (ns.map V.int) \/ SqT X.K H a (ns.map V.int)) /\ Q (.int ns.sum) H) := by
 intro pins s σ H xs us Q I r h
 obtain ⟨a, ns, rfl, hq, q⟩ := h
 obtain ⟨u, rfl, ru⟩ := vals1 r
 cases ru
 have hh : X.A.in1.handled = none := I.ok.hd hc
 have fin : ∀ {its : List Value} (h' : Heap) (tk : Nat) (t' : Tok), Vals (ns.map V.int) its -> (∀ b o, s.heap.get? b = some o -> h'.get? b = some o) -> EP X pins σ Q (.int (preSum (fun i => ns.getD i 0) its.toArray.size) t') { s with heap := h', toks := tk } := fun {its} h' tk t' r' hk => by
  have hl := r'.length
  rw [List.length_map] at hl
  refine ⟨.int ns.sum, H, I.kept hk, ⟨t', ?_⟩, q⟩
  rw [preSum_list, List.size_toArray, <- hl, List.take_length]
 rcases hq with hq | hq
 ·obtain ⟨its, r', pl, hz⟩ := I.list hq
  have hlt : a < s.heap.objs.size := by obtain ⟨_, e, _⟩ := pl.isList; exact Heap.lt_size e
  refine call_sum_walkG (wpAny_pyIter_list pl.isList ⟨_, _, _, _, _, _, fun i => ns.getD i 0, rfl, Walks.list (A := X.A.in1) hh _ a (Nat.ne_of_lt hlt) its.toArray, ⟨⟨_, Heap.get?_push_size _ rfl, rfl, rfl⟩, pl.isList.push _⟩, fun b hb => ?_, vals_int_at r', fun h' tk t' hk => fin h' tk t' r' fun b o e => hk b o (by simpa using Nat.ne_of_lt (Heap.lt_size e)) (Heap.get?_push_of_some _ e)⟩)
  show b < (s.heap.push _).objs.size
  rw [Heap.size_push]
  rcases List.mem_cons.mp hb with rfl | hb
  ·exact Nat.lt_succ_self _
  ·rcases List.mem_cons.mp hb with rfl | hb
   ·exact Nat.lt_succ_of_lt hlt
   ·cases hb
 ·obtain ⟨its, r', pl, hz⟩ := I.tuple hq
  have pl' : s.heap.IsTuple a its.toArray := pl
  have hlt : a < s.heap.objs.size := by obtain ⟨_, e, _⟩ := pl; exact Heap.lt_size e
  refine call_sum_walkG (wpAny_pyIter_tuple pl' ⟨_, _, _, _, _, _, fun i => ns.getD i 0, rfl, Walks.tuple (A := X.A.in1) hh _ a (Nat.ne_of_lt hlt) its.toArray, ⟨⟨_, Heap.get?_push_size _ rfl, rfl, rfl⟩, pl'.at fun o e => Heap.get?_push_of_some _ e⟩, fun b hb => ?_, vals_int_at r', fun h' tk t' hk => fin h' tk t' r' fun b o e => hk b o (by simpa using Nat.ne_of_lt (Heap.lt_size e)) (Heap.get?_push_of_some _ e)⟩)
  show b < (s.heap.push _).objs.size
  rw [Heap.size_push]
  rcases List.mem_cons.mp hb with rfl | hb
  ·exact Nat.lt_succ_self _
  ·rcases List.mem_cons.mp hb with rfl | hb
   ·exact Nat.lt_succ_of_lt hlt
   ·cases hb
def cntV (y : V) (xs : List V) : Nat := xs.countP fun x => eqV x y
theorem cnt_eqU {x : V} : ∀ {xs : List V} {us : List Value}, Vals xs us -> xs.all flatV = true -> us.countP (eqU x) = cntV x xs
 | _, _, .nil, _ => rfl
 | y :: xs, u :: us, .cons r t, f => by
  rw [List.all_cons, Bool.and_eq_true] at f
  unfold cntV
  rw [List.countP_cons, List.countP_cons, eqU_of r f.1, cnt_eqU t f.2]
  rfl
def rCount (K : PySem.W.Frag) (SQ : PySem.W.Frag -> Hp -> Addr -> List V -> Prop) : V -> List V -> Hp -> VK -> Prop := fun x vs H Q => ∃ a xs y, x = .ref a /\ vs = [y] /\ SQ K H a xs /\ flatV y = true /\ xs.all flatV = true /\ Q (.int (cntV y xs)) H
theorem mt_countT : MtR X "tuple.count" (rCount X.K SqT) := by
 intro pins s σ H x vs v us Q I rx rv h
 obtain ⟨a, xs, y, rfl, rfl, hq, fy, fs, q⟩ := h
 cases rx
 obtain ⟨u, rfl, ru⟩ := rv.one
 obtain ⟨its, r, pl, hz⟩ := I.tuple hq
 obtain ⟨o, ho, hc, n, hd⟩ := pl
 obtain ⟨c, dd, dt, sl⟩ := o
 cases hc
 cases hd
 refine call_meets F.slot_tuple_count ⟨_, ho, rfl⟩ F.entry_tuple_count (F.args_tuple_count_2 _ _) (SeqAt.tuple_countAt a its.toArray n dd sl u (eqU y)) ⟨ho, fun w hw => mem_eqAt ru fy r fs w (by simpa using hw), ?_⟩
 refine ⟨.int _, H, I.tok _, ⟨s.toks, ?_⟩, q⟩
 rw [show its.toArray.toList = its from rfl, cnt_eqU r fs]
theorem mt_countL : MtR X "list.count" (rCount X.K SqL) := by
 intro pins s σ H x vs v us Q I rx rv h
 obtain ⟨a, xs, y, rfl, rfl, hq, fy, fs, q⟩ := h
 cases rx
 obtain ⟨u, rfl, ru⟩ := rv.one
 obtain ⟨its, r, pl, hz⟩ := I.list hq
 obtain ⟨o, ho, hc, n, hd⟩ := pl.isList
 obtain ⟨c, dd, dt, sl⟩ := o
 cases hc
 cases hd
 refine call_meets F.slot_list_count ⟨_, ho, rfl⟩ F.entry_list_count (F.args_list_count_2 _ _) (SeqAt.list_countAt a its.toArray n dd sl u (eqU y)) ⟨ho, fun w hw => mem_eqAt ru fy r fs w (by simpa using hw), ?_⟩
 refine ⟨.int _, H, I.tok _, ⟨s.toks, ?_⟩, q⟩
 rw [show its.toArray.toList = its from rfl, cnt_eqU r fs]
theorem cntV_ints (k : Int) (ns : List Int) : cntV (.int k) (ns.map V.int) = ns.count k := by
 unfold cntV
 rw [List.countP_map, List.count_eq_countP]
 congr 1
theorem flat_ints (ns : List Int) : (ns.map V.int).all flatV = true := by
 rw [List.all_map]; simp [flatV]
theorem call_isi : CallR X (.builtin "isinstance") (fun xs H Q => ∃ x T t b, xs = [x, .ty T] /\ TyOf X.K H x t /\ PySem.W.kitOne X.K t (.type T) = some b /\ Q (.bl b) H) := by
 intro pins s σ H xs us Q I r h
 obtain ⟨x, T, t, b, rfl, ty, hk, q⟩ := h
 obtain ⟨u, v, rfl, ru, rv⟩ := vals2 r
 cases (show v = Value.type T from rv)
 exact isinst_ok I ru ty hk fun tk => ⟨.bl b, H, I.tok tk, rfl, q⟩
end
theorem kit_int_int {K : PySem.W.Frag} : PySem.W.kitOne K (.type "int") (.type "int") = some true := by unfold PySem.W.kitOne; rw [if_pos (by decide +kernel)]
theorem kit_int_bool {K : PySem.W.Frag} : PySem.W.kitOne K (.type "int") (.type "bool") = some false := by
 unfold PySem.W.kitOne
 rw [if_neg (by decide +kernel)]
 rfl
theorem kit_bool_bool {K : PySem.W.Frag} : PySem.W.kitOne K (.type "bool") (.type "bool") = some true := by unfold PySem.W.kitOne; rw [if_pos (by decide +kernel)]
theorem kit_tup_tup {K : PySem.W.Frag} : PySem.W.kitOne K (.type "tuple") (.type "tuple") = some true := by unfold PySem.W.kitOne; rw [if_pos (by decide +kernel)]
theorem kit_str_str {K : PySem.W.Frag} : PySem.W.kitOne K (.type "str") (.type "str") = some true := by unfold PySem.W.kitOne; rw [if_pos (by decide +kernel)]
theorem kit_list_list {K : PySem.W.Frag} : PySem.W.kitOne K (.type "list") (.type "list") = some true := by unfold PySem.W.kitOne; rw [if_pos (by decide +kernel)]
end L2
namespace L2
open PySem PySem.Spec PyProof.Rows
theorem noPylong_big {x y : Int} (h0 : 0 < y) (h : y <= 10 ^ 100) : Builtin.divisionGoesByPylong x y = false := by
 refine PyProof.noPylong_of_log2 ?_
 have hn : y.natAbs ≠ 0 := by omega
 have h1 : y.natAbs <= 10 ^ 100 := by omega
 refine (Nat.log2_lt hn).mpr (Nat.lt_of_le_of_lt h1 (by decide +kernel))
def CDivB (i j : Int) : Prop := 0 < j /\ j <= 10 ^ 100
theorem op_fdivB {X : Cx} : OpR X (binaryOp .FloorDiv) (rI CDivB fun i j => .int (i / j)) := opI fun i j _ _ _ _ _ hc q => by
 refine floordiv_int (by have := hc.1; omega) ?_ (.inl (noPylong_big hc.1 hc.2))
 rw [Int.fdiv_eq_ediv_of_nonneg _ (Int.le_of_lt hc.1)]
 exact q
theorem get_list {X : Cx} : PGet X (fun x y H Q => ∃ p xs i v, x = .ref p /\ y = .int i /\ SqL X.K H p xs /\ 0 <= i /\ xs[i.toNat]? = some v /\ Q v H) := by
 intro pins s σ H o i ov iv Q I ro ri h
 obtain ⟨p, xs, k, v, rfl, rfl, hq, h0, hv, q⟩ := h
 cases ro
 obtain ⟨t, rfl⟩ := ri
 obtain ⟨its, r, pl, hz⟩ := I.list hq
 have hlen := r.length
 have hn := line63
 obtain ⟨u, hu, ru⟩ := r.get hv
 have hk := (List.getElem?_eq_some_iff.mp hv).1
 exact wpAny_getItem_list pl.isList h0 (by omega) (by simpa using hu) ⟨v, H, I, ru, q⟩
theorem seqJoin {A B : TS} {D : Ends} {σ : St} {H : Hp} (R : St -> Hp -> Prop) (h : ∀ nx : St -> Hp -> Prop, (∀ σ' H', R σ' H' -> nx σ' H') -> A { D with nx := nx } σ H) (hR : ∀ σ' H', R σ' H' -> B D σ' H') : tSeq A B D σ H := h (B D) hR
def Keep (S : List Addr) (H H' : Hp) : Prop := ∀ b o, H b = some o -> b ∉ S -> H' b = some o
theorem Keep.refl (S : List Addr) (H : Hp) : Keep S H H := fun _ _ h _ => h
theorem Keep.trans {S : List Addr} {H H1 H2 : Hp} (a : Keep S H H1) (b : Keep S H1 H2) : Keep S H H2 := fun c o h n => b c o (a c o h n) n
theorem Keep.set {S : List Addr} {H : Hp} {p : Addr} {o : HO} (h : p ∈ S) : Keep S H (upd H p o) := fun b u e n => by
 have hb : b ≠ p := fun z => n (by rw [z]; exact h)
 rw [upd_ne hb]; exact e
theorem Same.keep {S : List Addr} {H H' : Hp} (h : Same H H') : Keep S H H' := fun b o e _ => h b o e
structure StAt (H : Hp) (st ga ca : Addr) (N : Nat) : Prop where
 ex : ∃ (gs cs : List Int) (q n : Int), H st = some (.lst [.ref ga, .int q, .ref ca, .int n]) /\ H ga = some (.lst (gs.map V.int)) /\ H ca = some (.lst (cs.map V.int)) /\
  gs.length <= 63 /\ (∀ x ∈ gs, 0 < x) /\ 0 <= q /\ 0 <= n /\ n <= N
 gc : ga ≠ ca
 sg : st ≠ ga
 sc : st ≠ ca
theorem StAt.nin {H : Hp} {st ga ca : Addr} {N : Nat} (S : StAt H st ga ca N) {p : Addr} (h : H p = none) : p ∉ [st, ga] := by
 obtain ⟨gs, cs, q, n, h1, h2, _⟩ := S.ex
 intro z
 rcases List.mem_cons.mp z with rfl | z
 ·rw [h1] at h; cases h
 ·rcases List.mem_cons.mp z with rfl | z
  ·rw [h2] at h; cases h
  ·cases z
theorem StAt.mono {H : Hp} {st ga ca : Addr} {N M : Nat} (S : StAt H st ga ca N) (h : N <= M) : StAt H st ga ca M := by
 obtain ⟨gs, cs, q, n, h1, h2, h3, h4, h5, h6, h7, h8⟩ := S.ex
 exact ⟨⟨gs, cs, q, n, h1, h2, h3, h4, h5, h6, h7, by omega⟩, S.gc, S.sg, S.sc⟩
theorem StAt.same {H H' : Hp} {st ga ca : Addr} {N : Nat} (S : StAt H st ga ca N) (h : Same H H') : StAt H' st ga ca N := by
 obtain ⟨gs, cs, q, n, h1, h2, h3, r⟩ := S.ex
 exact ⟨⟨gs, cs, q, n, h _ _ h1, h _ _ h2, h _ _ h3, r⟩, S.gc, S.sg, S.sc⟩
theorem Same.new {H : Hp} {p : Addr} {o : HO} (h : H p = none) : Same H (upd H p o) := fun b u e => by rw [upd_ne (ne_of_none e h)]; exact e
theorem pick {ns : List Int} {r : Int} (h0 : 0 <= r) (h1 : r < ns.length) : ∃ v, v ∈ ns /\ atI (ns.map V.int) r = some (.int v) := by
 obtain ⟨j, rfl⟩ : ∃ j : Nat, r = (j : Int) := ⟨r.toNat, by omega⟩
 have hj : j < ns.length := by omega
 exact ⟨ns[j], List.getElem_mem hj, atI_nat (by rw [List.getElem?_map, List.getElem?_eq_getElem hj]; rfl)⟩
theorem Keep.at {S : List Addr} {H H' : Hp} (k : Keep S H H') {b : Addr} {o : HO} (h : H b = some o) (n : b ∉ S) : H' b = some o := k b o h n
theorem Keep.free {S : List Addr} {H H' : Hp} (k : Keep S H H') {b : Addr} (h : H' b = none) (n : b ∉ S) : H b = none := by
 cases q : H b with
 | none => rfl
 | some o => rw [k b o q n] at h; cases h
theorem map_at {ns : List Int} {i : Nat} {x : V} (h : (ns.map V.int)[i]? = some x) : ∃ z, ns[i]? = some z /\ x = .int z := by
 rw [List.getElem?_map] at h
 cases hn : ns[i]? with
 | none => rw [hn] at h; cases h
 | some z => rw [hn] at h; exact ⟨z, rfl, (Option.some.inj h).symm⟩
def lies (ns ms : List Int) : Bool := ns.all fun x => decide (ns.count x <= ms.count x)
theorem all_take {α : Type} {p : α -> Bool} {l : List α} {i : Nat} {x : α} (hx : l[i]? = some x) : (l.take (i + 1)).all p = ((l.take i).all p && p x) := by
 have hi := (List.getElem?_eq_some_iff.mp hx).1
 have ex := (List.getElem?_eq_some_iff.mp hx).2
 rw [List.take_succ_eq_append_getElem hi, List.all_append, ex]
 simp
theorem all_false {α : Type} {p : α -> Bool} {l : List α} {x : α} (hx : x ∈ l) (h : p x = false) : l.all p = false := by
 rw [List.all_eq_false]
 exact ⟨x, hx, by simp [h]⟩
theorem StAt.nin3 {H : Hp} {st ga ca : Addr} {N : Nat} (S : StAt H st ga ca N) {p : Addr} (h : H p = none) : p ∉ [st, ga, ca] := by
 obtain ⟨gs, cs, q, n, h1, h2, h3, _⟩ := S.ex
 intro z
 simp only [List.mem_cons, List.not_mem_nil, or_false] at z
 rcases z with rfl | rfl | rfl
 ·rw [h1] at h; cases h
 ·rw [h2] at h; cases h
 ·rw [h3] at h; cases h
theorem nin2 {st ga ca p : Addr} (h : p ∉ [st, ga, ca]) : p ∉ [st, ga] := fun z => h (by
 simp only [List.mem_cons, List.not_mem_nil, or_false] at z ⊢
 rcases z with z | z
 ·exact .inl z
 ·exact .inr (.inl z))
theorem StAt.upd {H : Hp} {st ga ca : Addr} {N : Nat} {p : Addr} {o : HO} (S : StAt H st ga ca N) (h : p ∉ [st, ga, ca]) : StAt (upd H p o) st ga ca N := by
 obtain ⟨gs, cs, q, n, h1, h2, h3, r⟩ := S.ex
 have n1 : st ≠ p := fun z => h (by simp [z])
 have n2 : ga ≠ p := fun z => h (by simp [z])
 have n3 : ca ≠ p := fun z => h (by simp [z])
 exact ⟨⟨gs, cs, q, n, by rw [upd_ne n1]; exact h1, by rw [upd_ne n2]; exact h2, by rw [upd_ne n3]; exact h3, r⟩, S.gc, S.sg, S.sc⟩
theorem map_erase : ∀ (ms : List Int) (j : Nat), (ms.map V.int).eraseIdx j = (ms.eraseIdx j).map V.int
 | [], _ => rfl
 | _ :: _, 0 => rfl
 | x :: r, j + 1 => by
  show V.int x :: (r.map V.int).eraseIdx j = V.int x :: (r.eraseIdx j).map V.int
  rw [map_erase r j]
end L2
namespace L2
open PySem PySem.Spec PyProof.Rows
def EqK (X : Cx) (α : Type) [DecidableEq α] (R : α -> V -> Hp -> Prop) (n : Nat) : Prop :=
 ∀ (pins : List (Addr × Obj)) (σ : St) (H : Hp) (s : Shared) (A : Around) (a b : α) (v w : V) (u u' : Value), Inv X pins σ H s -> A.units + n < cLine -> R a v H -> R b w H -> RelV v u -> RelV w u' -> SeqAt.EqAt A s u u' (decide (a = b))
inductive All2 {α : Type} (R : α -> V -> Hp -> Prop) (H : Hp) : List α -> List V -> Prop
 | nil : All2 R H [] []
 | cons {a : α} {v : V} {l : List α} {xs : List V} : R a v H -> All2 R H l xs -> All2 R H (a :: l) (v :: xs)
theorem All2.length {α : Type} {R : α -> V -> Hp -> Prop} {H : Hp} : ∀ {l : List α} {xs : List V}, All2 R H l xs -> l.length = xs.length
 | _, _, .nil => rfl
 | _, _, .cons _ t => by simp [t.length]
theorem All2.get {α : Type} {R : α -> V -> Hp -> Prop} {H : Hp} : ∀ {l : List α} {xs : List V} {i : Nat} {x : V}, All2 R H l xs -> xs[i]? = some x -> ∃ a, l[i]? = some a /\ R a x H
 | _, _, _, _, .nil, e => by simp at e
 | _, _, 0, _, .cons r _, e => by simp at e; subst e; exact ⟨_, rfl, r⟩
 | _, _, i + 1, x, .cons _ t, e => by
  obtain ⟨u, h1, h2⟩ := All2.get (i := i) (x := x) t (by simpa using e)
  exact ⟨u, by simpa using h1, h2⟩
theorem All2.append {α : Type} {R : α -> V -> Hp -> Prop} {H : Hp} : ∀ {l l' : List α} {xs xs' : List V}, All2 R H l xs -> All2 R H l' xs' -> All2 R H (l ++ l') (xs ++ xs')
 | _, _, _, _, .nil, s => s
 | _, _, _, _, .cons r t, s => .cons r (t.append s)
theorem All2.imp {α : Type} {R : α -> V -> Hp -> Prop} {H H' : Hp} (f : ∀ a v, R a v H -> R a v H') : ∀ {l : List α} {xs : List V}, All2 R H l xs -> All2 R H' l xs
 | _, _, .nil => .nil
 | _, _, .cons r t => .cons (f _ _ r) (t.imp f)
def RInt : Int -> V -> Hp -> Prop := fun i v _ => v = .int i
theorem all2_ints {H : Hp} : ∀ (ns : List Int), All2 RInt H ns (ns.map V.int)
 | [] => .nil
 | _ :: r => .cons rfl (all2_ints r)
def RTup (K : PySem.W.Frag) {α : Type} (R : α -> V -> Hp -> Prop) : List α -> V -> Hp -> Prop := fun l v H => ∃ p xs, v = .ref p /\ SqT K H p xs /\ All2 R H l xs
def RLst (K : PySem.W.Frag) {α : Type} (R : α -> V -> Hp -> Prop) : List α -> V -> Hp -> Prop := fun l v H => ∃ p xs, v = .ref p /\ SqL K H p xs /\ All2 R H l xs
theorem all_range_eq {α : Type} [DecidableEq α] {l m : List α} {e : Nat -> Bool} (h : ∀ j a b, l[j]? = some a -> m[j]? = some b -> e j = decide (a = b)) : ((List.range (min l.length m.length)).all e && l.length == m.length) = decide (l = m) := by
 rw [Bool.eq_iff_iff]
 simp only [Bool.and_eq_true, List.all_eq_true, List.mem_range, beq_iff_eq, decide_eq_true_eq]
 constructor
 ·rintro ⟨h1, h2⟩
  refine List.ext_getElem h2 fun j j1 j2 => ?_
  have := h1 j (by omega)
  rw [h j _ _ (List.getElem?_eq_getElem j1) (List.getElem?_eq_getElem j2)] at this
  exact of_decide_eq_true this
 ·rintro rfl
  refine ⟨fun j hj => ?_, rfl⟩
  have hj' : j < l.length := by omega
  rw [h j _ _ (List.getElem?_eq_getElem hj') (List.getElem?_eq_getElem hj')]
  exact decide_eq_true rfl
section
variable {X : Cx}
theorem eqk_int : EqK X Int RInt 0 := fun pins σ H s A a b v w u u' I hu r1 r2 q1 q2 => by
 unfold RInt at r1 r2
 subst r1 r2
 obtain ⟨t, rfl⟩ := q1
 obtain ⟨t', rfl⟩ := q2
 have := SeqAt.EqAt.int_int (A := A) (s := s) a t b t'
 rwa [show (a == b) = decide (a = b) from rfl] at this
variable {α : Type} [DecidableEq α] {R : α -> V -> Hp -> Prop} {n : Nat}
theorem eqk_items (h : EqK X α R n) {pins : List (Addr × Obj)} {σ : St} {H : Hp} {s : Shared} {A : Around} {l m : List α} {xs ys : List V} {us ws : List Value} (I : Inv X pins σ H s) (hu : A.units + (n + 1) < cLine)
  (r1 : All2 R H l xs) (r2 : All2 R H m ys) (q1 : Vals xs us) (q2 : Vals ys ws) :
  ∃ e : Nat -> Bool, (∀ j (h1 : j < us.toArray.size) (h2 : j < ws.toArray.size), SeqAt.EqAt A.in1 s us.toArray[j] ws.toArray[j] (e j)) /\ (∀ j a b, l[j]? = some a -> m[j]? = some b -> e j = decide (a = b)) := by
 refine ⟨fun j => match l[j]?, m[j]? with | some a, some b => decide (a = b) | _, _ => false, fun j h1 h2 => ?_, fun j a b e1 e2 => by simp only [e1, e2]⟩
 have l1 := q1.length
 have l2 := q2.length
 have l3 := r1.length
 have l4 := r2.length
 simp only [List.size_toArray] at h1 h2
 have hx : xs[j]? = some xs[j] := List.getElem?_eq_getElem (by omega)
 have hy : ys[j]? = some ys[j] := List.getElem?_eq_getElem (by omega)
 obtain ⟨a, ea, ra⟩ := r1.get hx
 obtain ⟨b, eb, rb⟩ := r2.get hy
 obtain ⟨u, eu, ru⟩ := q1.get hx
 obtain ⟨w, ew, rw'⟩ := q2.get hy
 have e1 : us.toArray[j]'(by simpa using h1) = u := by
  have := (List.getElem?_eq_some_iff.mp eu).2
  simpa using this
 have e2 : ws.toArray[j]'(by simpa using h2) = w := by
  have := (List.getElem?_eq_some_iff.mp ew).2
  simpa using this
 rw [e1, e2]
 simp only [ea, eb]
 exact h pins σ H s A.in1 a b _ _ u w I (by show A.units + 1 + n < cLine; omega) ra rb ru rw'
theorem rc_tup (h : EqK X α R n) {pins : List (Addr × Obj)} {σ : St} {H : Hp} {s : Shared} {A : Around} {l m : List α} {p q : Addr} (I : Inv X pins σ H s) (hu : A.units + (n + 1) < cLine) (r1 : RTup X.K R l (.ref p) H) (r2 : RTup X.K R m (.ref q) H) :
  SeqAt.RcAt A s (.ref p) (.ref q) (decide (l = m)) := by
 obtain ⟨_, xs, e1, h1, a1⟩ := r1
 obtain ⟨_, ys, e2, h2, a2⟩ := r2
 cases e1
 cases e2
 obtain ⟨us, v1, t1, z1⟩ := I.tuple h1
 obtain ⟨ws, v2, t2, z2⟩ := I.tuple h2
 obtain ⟨e, he, hd⟩ := eqk_items h I hu a1 a2 v1 v2
 have := SeqAt.RcAt.tuples (e := e) t1 t2 (by omega) he
 rw [List.size_toArray, List.size_toArray, <- v1.length, <- v2.length, <- a1.length, <- a2.length, all_range_eq hd] at this
 exact this
theorem rc_lst (h : EqK X α R n) {pins : List (Addr × Obj)} {σ : St} {H : Hp} {s : Shared} {A : Around} {l m : List α} {p q : Addr} (I : Inv X pins σ H s) (hu : A.units + (n + 1) < cLine) (r1 : RLst X.K R l (.ref p) H) (r2 : RLst X.K R m (.ref q) H) :
  SeqAt.RcAt A s (.ref p) (.ref q) (decide (l = m)) := by
 obtain ⟨_, xs, e1, h1, a1⟩ := r1
 obtain ⟨_, ys, e2, h2, a2⟩ := r2
 cases e1
 cases e2
 obtain ⟨us, v1, t1, z1⟩ := I.list h1
 obtain ⟨ws, v2, t2, z2⟩ := I.list h2
 obtain ⟨e, he, hd⟩ := eqk_items h I hu a1 a2 v1 v2
 have ee := all_range_eq hd
 have s1 : us.toArray.size = l.length := by rw [List.size_toArray, <- v1.length, <- a1.length]
 have s2 : ws.toArray.size = m.length := by rw [List.size_toArray, <- v2.length, <- a2.length]
 by_cases hl : l.length = m.length
 ·have := SeqAt.RcAt.lists (e := e) t1.isList t2.isList (by rw [s1, s2, hl]) (by omega) he
  rw [s1] at this
  rw [hl, Nat.min_self, beq_self_eq_true, Bool.and_true, <- hl] at ee
  rwa [ee] at this
 ·have := SeqAt.RcAt.lists_lengths t1.isList t2.isList (by rw [s1, s2]; simpa using hl) (show A.units < cLine by omega)
  have hne : ¬ l = m := fun e => hl (by rw [e])
  rw [decide_eq_false hne]
  exact this
theorem eqk_tup (h : EqK X α R n) (det : ∀ (pins : List (Addr × Obj)) (σ : St) (H : Hp) (s : Shared) (a b : α) (v : V), Inv X pins σ H s -> R a v H -> R b v H -> a = b) : EqK X (List α) (RTup X.K R) (n + 1) := fun pins σ H s A a b v w u u' I hu r1 r2 q1 q2 => by
 obtain ⟨p, xs, rfl, h1, a1⟩ := id r1
 obtain ⟨q, ys, rfl, h2, a2⟩ := id r2
 cases q1
 cases q2
 by_cases hpq : p = q
 ·subst hpq
  have e := I.tuple_inj h1 h2
  subst e
  have : a = b := by
   clear r1 r2 h1 h2 hu
   induction a1 generalizing b with
   | nil => cases a2; rfl
   | cons r t ih =>
    cases a2 with
    | cons r' t' => rw [det pins σ H s _ _ _ I r r', ih _ t']
  rw [decide_eq_true this]
  exact SeqAt.EqAt.same _
 ·exact SeqAt.EqAt.of_refs hpq (rc_tup h I hu r1 r2)
theorem det_int (pins : List (Addr × Obj)) (σ : St) (H : Hp) (s : Shared) (a b : Int) (v : V) (I : Inv X pins σ H s) (h1 : RInt a v H) (h2 : RInt b v H) : a = b := by
 unfold RInt at h1 h2
 rw [h1] at h2
 cases h2
 rfl
theorem op_eqL' (h : EqK X α R n) (hu : X.A.units + (n + 1) < cLine) : OpR X (compareOp .Eq) (fun x y H Q => ∃ l m, RLst X.K R l x H /\ RLst X.K R m y H /\ Q (.bl (decide (l = m))) H) := by
 intro pins s σ H x y v u Q I rx ry hq
 obtain ⟨l, m, r1, r2, q⟩ := hq
 obtain ⟨p, xs, rfl, _⟩ := id r1
 obtain ⟨p', ys, rfl, _⟩ := id r2
 cases rx
 cases ry
 exact rc_lst h I hu r1 r2 X.prog X.w X.xe _ ⟨.bl _, H, I, rfl, q⟩
end
theorem RTup.ints {K : PySem.W.Frag} {H : Hp} {p : Addr} {ns : List Int} (h : SqT K H p (ns.map V.int)) : RTup K RInt ns (.ref p) H := ⟨p, _, rfl, h, all2_ints ns⟩
end L2
namespace L2
open PySem PySem.Spec PyProof.Rows
theorem huR {A : Around} {k n : Nat} {cm : Bool} (hr : Room k A cm) (h : n <= 64 := by decide) : A.units + n < cLine := Nat.lt_of_le_of_lt (Nat.add_le_add_left h _) hr.units
end L2
namespace HT
open PySem PySem.Spec PyProof.Rows
section
variable {prog : Program} {w : World} {A : Around} {E : Value -> Shared -> Prop} {s : Shared}
theorem getItem_tuple_whole {t sl : Addr} {items : Array Value} {vl vu : Value} {lo hi : Option Int} {Q : Value -> Shared -> Prop} (ht : IsTup s.heap t items) (hs : s.heap.IsSliceOf sl vl vu .none) (pl : IsPart vl lo) (pu : IsPart vu hi)
  (hw : sIx items.size 0 lo = 0 /\ sIx items.size items.size hi = items.size) (h : Q (.ref t) s) : wpAny (model prog w) A (getItem (.ref t) (.ref sl)) Q E s := by
 obtain ⟨os, hos, hcs, hds⟩ := id hs
 have hTs : s.TypeIs (.ref sl) "slice" := ⟨os, hos, hcs⟩
 unfold getItem
 try with_reducible refine wpAny_holding ?_
 first | refine wpAny_bind (wpAny_pure ?_) | skip
 refine wpAny_bind (wpAny_sequenceKey ht.typeIs (by decide) ?_)
 refine wpAny_bind (wpAny_callSpecial?_slot (name := Str.ofString "__getitem__") ht.typeIs PyProof.Rows.slot_tuple_getitem
  (wpAny_call_entry PyProof.Rows.slot_tuple_getitem ht.typeIs entry_tuple_getitem ?_ (args_tuple_getitem _ _)))
 show wpAny _ _ (Builtin.Tuple.tupleItemsOf (.ref t) >>= _) _ _ s
 refine wpAny_bind (tupleItemsOf_ ht ?_)
 refine wpAny_bind (wpAny_typeOf hTs ?_)
 rw [if_pos (by decide)]
 refine wpAny_bind (sliceApplied_gen hs pl pu ?_)
 have hyes : (((sIx items.size 0 lo : Nat) : Int) == 0 && (1 : Int) == 1 && (sIx items.size items.size hi - sIx items.size 0 lo) == items.size) = true := by
  rw [hw.1, hw.2]; simp
 show wpAny _ _ (if (((sIx items.size 0 lo : Nat) : Int) == 0 && (1 : Int) == 1 && (sIx items.size items.size hi - sIx items.size 0 lo) == items.size) = true then _ else _) _ _ s
 rw [if_pos hyes]
 refine wpAny_bind ?_
 unfold Builtin.Tuple.tupleIsExact
 refine wpAny_bind (wpAny_typeOf ht.typeIs (wpAny_pure ?_))
 rw [if_pos (by decide)]
 first
  | exact wpAny_bind (wpAny_rule (wpAny_bind (wpAny_pure (wpAny_pure ⟨_, rfl, wpAny_pure h⟩))))
  | exact wpAny_bind (wpAny_rule (wpAny_pure ⟨_, rfl, wpAny_pure h⟩))
end
end HT
namespace L2
open PySem PySem.Spec PyProof.Rows
section
variable {X : Cx}
theorem sl_tupW : SlR X (fun x lo hi H Q => ∃ a xs, x = .ref a /\ SqT X.K H a xs /\ (HT.sIx xs.length 0 lo = 0 /\ HT.sIx xs.length xs.length hi = xs.length) /\ Q (.ref a) H) := by
 intro pins s σ H x v vl vu lo hi sl Q I rx hs pl pu h
 obtain ⟨a, xs, rfl, hx, hw, q⟩ := h
 cases rx
 obtain ⟨its, r, ht, hz⟩ := I.tuple hx
 have hlen : its.toArray.size = xs.length := by rw [List.size_toArray]; exact r.length.symm
 refine ⟨"tuple", _, PyProof.Rows.slot_tuple_getitem.lookup, ht.typeIs, ?_⟩
 exact HT.getItem_tuple_whole ht hs pl pu (by rw [hlen]; exact hw) ⟨.ref a, H, I, rfl, q⟩
def rSlTA (K : PySem.W.Frag) : V -> Option Int -> Option Int -> Hp -> VK -> Prop := fun x lo hi H Q => (∃ a xs, x = .ref a /\ SqT K H a xs /\ (HT.sIx xs.length 0 lo = 0 /\ HT.sIx xs.length xs.length hi = xs.length) /\ Q (.ref a) H) \/ rSlT K x lo hi H Q
theorem sl_tupA : SlR X (rSlTA X.K) := sl_tupW.or sl_tup
end
end L2
namespace HT
open PySem PySem.Spec PyProof.Rows
section
open PySem.SeqAt
open PySem.AutoSeq1 (wpAny_loadPart')
open PySem.MeetsSeq PySem.MeetsSeq2 PySem.MeetsSeq3
end
section
variable {prog : Program} {w : World} {A : Around} {E : Value -> Shared -> Prop} {s : Shared}
end
end HT
namespace L2
open PySem PySem.Spec PyProof.Rows
section
variable {X : Cx}
end
end L2
namespace L2
open PySem PySem.Spec PyProof.Rows
section
variable {X : Cx} {tg : Expr}
end
section
variable {X : Cx}
theorem call_all_bools (hc : X.calm = true) : CallR X (.builtin "all") (fun xs H Q => ∃ (a : Addr) (bs : List Bool), xs = [.ref a] /\ SqL X.K H a (bs.map V.bl) /\ Q (.bl (bs.all id)) H) := by
 intro pins s σ H xs us Q I r h
 obtain ⟨a, bs, rfl, hq, q⟩ := h
 obtain ⟨u, rfl, ru⟩ := vals1 r
 cases ru
 have hh : X.A.in1.handled = none := I.ok.hd hc
 obtain ⟨its, r', pl, hz⟩ := I.list hq
 have hl := r'.length
 rw [List.length_map] at hl
 have hlt : a < s.heap.objs.size := by obtain ⟨_, e, _⟩ := pl.isList; exact Heap.lt_size e
 refine call_all_walk (wpAny_pyIter_list pl.isList ⟨_, _, _, _, _, _, fun i => bs.getD i false, rfl, Walks.list (A := X.A.in1) hh _ a (Nat.ne_of_lt hlt) its.toArray, ⟨⟨_, Heap.get?_push_size _ rfl, rfl, rfl⟩, pl.isList.push _⟩, ?_, fun h' tk hk => ?_⟩)
 ·intro i v s' Q' E' hv hQ
  have hv' : its[i]? = some v := by simpa using hv
  have hi : i < bs.length := by have := (List.getElem?_eq_some_iff.mp hv').1; omega
  have hx : (bs.map V.bl)[i]? = some (V.bl (bs.getD i false)) := by simp [hi]
  obtain ⟨u, hu, ru⟩ := r'.get hx
  rw [hv'] at hu
  cases hu
  cases ru
  exact wpAny_truthy_bool hQ
 ·have e : (List.range its.toArray.size).all (fun i => bs.getD i false) = bs.all id := by
   rw [List.size_toArray, <- hl, Bool.eq_iff_iff]
   simp only [List.all_eq_true, List.mem_range, id]
   constructor
   ·intro h b hb
    obtain ⟨i, hi, rfl⟩ := List.mem_iff_getElem.mp hb
    have := h i hi
    simpa [hi] using this
   ·intro h i hi
    have := h bs[i] (List.getElem_mem hi)
    simpa [hi] using this
  rw [e]
  exact ⟨.bl _, H, I.kept fun b o e => hk b o (by simpa using Nat.ne_of_lt (Heap.lt_size e)) (Heap.get?_push_of_some _ e), rfl, q⟩
end
end L2
namespace L2
open PySem PySem.Spec PyProof.Rows PySem.NumText PySem.Calls
end L2
namespace L2
open PySem PySem.Spec PyProof.Rows PySem.NumText
theorem atI0 {α : Type} (x : α) (r : List α) : atI (x :: r) 0 = some x := atI_nat (j := 0) rfl
end L2
namespace L2
open PySem PySem.Spec PyProof.Rows
section
variable {M : Model} {A : Around} {E : Value -> Shared -> Prop} {s : Shared} {base : Heap} {env : Env} {outer : List Env} {L e : Addr} {C : Value} {dd : Option Addr} {Q : Unit -> Shared -> Prop}
end
section
variable {X : Cx} {outer : List Env}
end
end L2
namespace L2
open PySem PySem.Spec PyProof.Rows
section
variable {P : Program} {w : World} {K : PySem.W.Frag} {mg : Str -> Option Value} {base : Heap}
end
end L2
namespace L2
open PySem PySem.Spec PyProof.Rows
section
variable {X : Cx} {pins : List (Addr × Obj)} {σ : St} {H H' : Hp} {s s3 : Shared} {e : Addr} {C : Value} {dd : Option Addr}
end
section
variable {X : Cx} {pins : List (Addr × Obj)} {σ : St} {H : Hp} {s : Shared} {e : Addr}
end
end L2
namespace L2
open PySem PySem.Spec PyProof.Rows PySem.W PySem.Calls PySem.Builtin PySem.Builtin.ObjectAttr PySem.Builtin.Getset_descriptor
end L2
namespace L2
open PySem PySem.Spec PyProof.Rows PySem.W
section
variable {X : Cx} {k : Nat} {f : Addr} {fd : FuncData} {ps : List Str} {sp : Sp} {dvs : List V} {ds : List Value} {x : Str} {p pos : Pos} {e : Expr} {es : List Expr} {t : TA} {cm : Bool}
end
end L2
namespace L2
open PySem PySem.Spec PyProof.Rows PySem.W
end L2
namespace L2
open PySem PySem.Spec PyProof.Rows
def itName : Bool -> String
 | true => "tuple_iterator"
 | false => "list_iterator"
def IterAt (k : Bool) (h : Heap) (it l : Addr) (i : Nat) : Prop := ∃ o, h.get? it = some o /\ o.cls = .type (itName k) /\ o.data = .fields #[.ref l, .int i 0]
def SeqIs (k : Bool) (h : Heap) (l : Addr) (items : Array Value) : Prop :=
 match k with
 | true => h.IsTuple l items
 | false => h.IsList l items
theorem IterAt.kept {k : Bool} {h h' : Heap} {it l : Addr} {i : Nat} (x : IterAt k h it l i) (f : ∀ o, h.get? it = some o -> h'.get? it = some o) : IterAt k h' it l i :=
 let ⟨o, e, r⟩ := x; ⟨o, f o e, r⟩
theorem IterAt.lt {k : Bool} {h : Heap} {it l : Addr} {i : Nat} (x : IterAt k h it l i) : it < h.objs.size := let ⟨_, e, _⟩ := x; Heap.lt_size e
theorem SeqIs.kept {k : Bool} {h h' : Heap} {l : Addr} {items : Array Value} (x : SeqIs k h l items) (f : ∀ o, h.get? l = some o -> h'.get? l = some o) : SeqIs k h' l items := by
 cases k
 ·obtain ⟨o, e, r⟩ := x; exact ⟨o, f o e, r⟩
 ·obtain ⟨o, e, r⟩ := x; exact ⟨o, f o e, r⟩
theorem SeqIs.lt {k : Bool} {h : Heap} {l : Addr} {items : Array Value} (x : SeqIs k h l items) : l < h.objs.size := by
 cases k
 ·obtain ⟨o, e, _⟩ := x; exact Heap.lt_size e
 ·obtain ⟨o, e, _⟩ := x; exact Heap.lt_size e
section
variable {prog : Program} {w : World} {A : Around} {E : Value -> Shared -> Prop} {s : Shared}
theorem nextOf_tup {it l : Addr} {i : Nat} {items : Array Value} {Q : Value -> Shared -> Prop} (hit : s.heap.IsTupleIter it l i) (ht : s.heap.IsTuple l items)
  (h : match items[i]? with
   | some x => ∀ h', h'.IsTupleIter it l (i + 1) -> Heap.SameBut it s.heap h' -> Q x { s with heap := h' }
   | none => A.handled = none /\ ∀ h' e, Heap.ExtBut it s.heap h' -> (∃ o, h'.get? e = some o /\ o.cls = .type "StopIteration") -> E (.ref e) { s with heap := h' }) :
  wpAny (model prog w) A (Builtin.SmallTypes.nextOf (.ref it)) Q E s := by
 obtain ⟨oi, e1, c1, d1⟩ := id hit
 obtain ⟨ot, e2, _, m2, d2⟩ := ht
 unfold Builtin.SmallTypes.nextOf
 refine wpAny_bind (wpAny_callSpecial?_slot (name := Str.ofString "__next__") hit.typeIs F.slot_tuple_iterator_next (wpAny_call_entry F.slot_tuple_iterator_next hit.typeIs F.entry_tuple_iterator_next ?_ (F.args_tuple_iterator_next_1 _)))
 show wpAny _ _ (field (.ref it) 0 >>= _) _ _ s
 refine wpAny_bind (wpAny_field e1 d1 (x := .ref l) rfl ?_)
 show wpAny _ _ (if (Value.ref l == Value.none) = true then _ else _) _ _ s
 rw [if_neg (show ¬ ((Value.ref l == Value.none) = true) from Bool.false_ne_true)]
 show wpAny _ _ (field (.ref it) 1 >>= _) _ _ s
 refine wpAny_bind (wpAny_field e1 d1 (x := .int i 0) rfl ?_)
 show wpAny _ _ (seqItems? (.ref l) >>= _) _ _ s
 refine wpAny_bind (wpAny_seqItems e2 d2 ?_)
 cases hx : items[i]? with
 | some x =>
  rw [hx] at h
  simp only [Int.toNat_natCast, hx]
  refine wpAny_bind (wpAny_setField e1 d1 (by simp) (wpAny_pure ⟨x, rfl, wpAny_pure (h _ ?_ (Heap.SameBut.update ..))⟩))
  refine ⟨_, Heap.get?_update_self _ e1 (Obj.isFreed_of_fields (Obj.data_mapFields d1 _)), (Obj.cls_mapFields ..).trans c1, ?_⟩
  rw [Obj.data_mapFields d1]
  simp [rawInt]
 | none =>
  rw [hx] at h
  obtain ⟨hh, h⟩ := h
  simp only [Int.toNat_natCast, hx]
  refine wpAny_bind (wpAny_rule (wpAny_bind (wpAny_setField e1 d1 (by simp) ?_)))
  show wpAny _ _ (newExc (.type "StopIteration") [] >>= _) _ _ _
  refine wpAny_bind ?_
  simp only [newExc, newTuple]
  refine wpAny_bind (wpAny_newObj_type ?_ (by size_fits))
  refine wpAny_bind (m := firstArgMember _ _) (wpAny_of_eq (a := Value.none) (by first | rfl | (simp only [firstArgMember]; rfl)) ?_)
  refine wpAny_newObj_type ?_ (by size_fits)
  simp only [raiseNew]
  refine wpAny_bind (wpAny_handled ?_)
  first | rw [show A.in1.handled = none from hh] | rw [hh]
  exact wpAny_bind (wpAny_pure (wpAny_throw (h _ _ (((Heap.SameBut.update ..).extBut.push _).push _) ⟨_, Heap.get?_push_size _ rfl, rfl⟩)))
theorem nextS {k : Bool} {it l : Addr} {i : Nat} {items : Array Value} {x : Value} {Q : Value -> Shared -> Prop} (hit : IterAt k s.heap it l i) (hl : SeqIs k s.heap l items) (hx : items[i]? = some x)
  (hQ : ∀ h', IterAt k h' it l (i + 1) -> Heap.SameBut it s.heap h' -> Q x { s with heap := h' }) : wpAny (model prog w) A (Builtin.SmallTypes.nextOf (.ref it)) Q E s := by
 cases k
 ·exact wpAny_nextOf_list_item hit hl hx hQ
 ·exact nextOf_tup hit hl (by rw [hx]; exact hQ)
theorem endS {k : Bool} {it l : Addr} {i : Nat} {items : Array Value} {Q : Value -> Shared -> Prop} (hh : A.handled = none) (hit : IterAt k s.heap it l i) (hl : SeqIs k s.heap l items) (hx : items[i]? = none)
  (hE : ∀ h' e, Heap.ExtBut it s.heap h' -> (∃ o, h'.get? e = some o /\ o.cls = .type "StopIteration") -> E (.ref e) { s with heap := h' }) : wpAny (model prog w) A (Builtin.SmallTypes.nextOf (.ref it)) Q E s := by
 cases k
 ·exact wpAny_nextOf_list_end hh hit hl hx hE
 ·exact nextOf_tup hit hl (by rw [hx]; exact ⟨hh, hE⟩)
theorem pyIterS {k : Bool} {l : Addr} {items : Array Value} {Q : Value -> Shared -> Prop} (hl : SeqIs k s.heap l items)
  (hQ : Q (.ref s.heap.objs.size) { s with heap := s.heap.push { cls := .type (itName k), data := .fields #[.ref l, .int 0 0] } }) : wpAny (model prog w) A (pyIter (.ref l)) Q E s := by
 cases k
 ·exact wpAny_pyIter_list hl hQ
 ·exact wpAny_pyIter_tuple hl hQ
structure ZipAt (k1 k2 : Bool) (h : Heap) (z TI TO i1 i2 l1 l2 : Addr) (f0 : Value) (j1 j2 : Nat) : Prop where
 zz : IsZip h z TI TO f0
 ti : IsPair h TI (.ref i1) (.ref i2)
 tO : ∃ a b, IsPair h TO a b
 a1 : IterAt k1 h i1 l1 j1
 a2 : IterAt k2 h i2 l2 j2
theorem ZipAt.kept {k1 k2 : Bool} {h h' : Heap} {z TI TO i1 i2 l1 l2 : Addr} {f0 : Value} {j1 j2 : Nat} (x : ZipAt k1 k2 h z TI TO i1 i2 l1 l2 f0 j1 j2) (f : ∀ b ∈ [z, TI, TO, i1, i2], ∀ o, h.get? b = some o -> h'.get? b = some o) :
  ZipAt k1 k2 h' z TI TO i1 i2 l1 l2 f0 j1 j2 := by
 obtain ⟨a, b, ⟨c, d, e⟩, p, q⟩ := x
 exact ⟨f z (by simp) _ a, f TI (by simp) _ b, ⟨c, d, f TO (by simp) _ e⟩, p.kept (f i1 (by simp)), q.kept (f i2 (by simp))⟩
theorem zip_item {k1 k2 : Bool} {z TI TO i1 i2 l1 l2 : Addr} {j1 j2 : Nat} {xs ys : Array Value} {x y : Value} {Q : Value -> Shared -> Prop} (D : ZipApart z TI TO i1 i2 l1 l2) (Z : ZipAt k1 k2 s.heap z TI TO i1 i2 l1 l2 .none j1 j2)
  (b1 : SeqIs k1 s.heap l1 xs) (b2 : SeqIs k2 s.heap l2 ys) (hx : xs[j1]? = some x) (hy : ys[j2]? = some y)
  (hQ : ∀ h', ZipAt k1 k2 h' z TI TO i1 i2 l1 l2 (rawInt s.heap.objs.size) (j1 + 1) (j2 + 1) -> IsPair h' s.heap.objs.size x y -> (∀ c o, c ∉ [z, TO, i1, i2] -> s.heap.get? c = some o -> h'.get? c = some o) -> Q (.ref s.heap.objs.size) { s with heap := h' }) :
  wpAny (model prog w) A (Builtin.«zip.__next__» ⟨[.ref z], []⟩) (fun fin s' => ∃ v, fin = .done (.ret v) /\ Q v s') E s := by
 obtain ⟨g0, g1, ⟨oa, ob, g2⟩, p1, p2⟩ := Z
 show wpAny _ _ (field (.ref z) 2 >>= _) _ _ _
 refine wpAny_bind (wpAny_field g0 rfl (x := .bool false) rfl ?_)
 show wpAny _ _ (field (.ref z) 3 >>= _) _ _ _
 refine wpAny_bind (wpAny_field g0 rfl (x := .ref TI) rfl ?_)
 refine wpAny_bind (wpAny_seqItems g1 rfl ?_)
 show wpAny _ _ (Builtin.SmallTypes.ownedTupleIsFree (.ref z) >>= _) _ _ _
 refine wpAny_bind ?_
 unfold Builtin.SmallTypes.ownedTupleIsFree
 refine wpAny_bind (wpAny_field g0 rfl (x := .none) rfl (wpAny_pure ?_))
 simp only [if_true]
 refine wpAny_bind (wpAny_rule ?_)
 refine wpAny_bind (wpAny_field g0 rfl (x := .ref TO) rfl ?_)
 refine wpAny_bind (wpAny_setField_rec g0 (by simp) fun ha za sa => ?_)
 replace za : IsZip ha z TI TO .ellipsis := za
 refine wpAny_bind ?_
 simp only [List.zipIdx_cons, List.zipIdx_nil, List.forIn_cons, List.forIn_nil]
 refine wpAny_bind (wpAny_bind (wpAny_onRaise ?_))
 show wpAny _ _ (Builtin.SmallTypes.nextOf (.ref i1) >>= _) _ _ _
 refine wpAny_bind (nextS (p1.kept fun o e => sa.extBut _ _ D.i1z e) (b1.kept fun o e => sa.extBut _ _ D.l1z e) hx fun hb p1b sb => wpAny_pure ?_)
 have t2 : IsPair hb TO oa ob := sb.extBut _ _ D.TOi1 (sa.extBut _ _ D.TOz g2)
 refine wpAny_bind (wpAny_seqItems t2 rfl ?_)
 refine wpAny_bind (wpAny_updateSeq_pair t2 fun hc t3 sc => ?_)
 replace t3 : IsPair hc TO x ob := t3
 refine wpAny_bind (wpAny_letGo (wpAny_pure ?_))
 refine wpAny_bind (wpAny_bind (wpAny_onRaise ?_))
 show wpAny _ _ (Builtin.SmallTypes.nextOf (.ref i2) >>= _) _ _ _
 refine wpAny_bind (nextS (p2.kept fun o e => sc.extBut _ _ D.TOi2.symm (sb.extBut _ _ D.i12.symm (sa.extBut _ _ D.i2z e))) (b2.kept fun o e => sc.extBut _ _ D.l2TO (sb.extBut _ _ D.l2i1 (sa.extBut _ _ D.l2z e))) hy fun hd p2d sd => wpAny_pure ?_)
 have t4 : IsPair hd TO x ob := sd.extBut _ _ D.TOi2 t3
 refine wpAny_bind (wpAny_seqItems t4 rfl ?_)
 refine wpAny_bind (wpAny_updateSeq_pair t4 fun he t5 se => ?_)
 replace t5 : IsPair he TO x y := t5
 refine wpAny_bind (wpAny_letGo (wpAny_pure (wpAny_pure ?_)))
 refine wpAny_bind (wpAny_seqItems t5 rfl ?_)
 refine wpAny_bind (wpAny_newTuple ?_)
 have size : he.objs.size = s.heap.objs.size := by rw [se.1, sd.1, sc.1, sb.1, sa.1]
 have ze : IsZip he z TI TO .ellipsis := se.extBut _ _ D.TOz.symm (sd.extBut _ _ D.i2z.symm (sc.extBut _ _ D.TOz.symm (sb.extBut _ _ D.i1z.symm za)))
 have ke : ∀ c o, c ∉ [z, TO, i1, i2] -> s.heap.get? c = some o -> he.get? c = some o := fun c o n e => by
  simp only [List.mem_cons, List.not_mem_nil, or_false, not_or] at n
  exact se.extBut _ _ n.2.1 (sd.extBut _ _ n.2.2.2 (sc.extBut _ _ n.2.1 (sb.extBut _ _ n.2.2.1 (sa.extBut _ _ n.1 e))))
 have q1 : IterAt k1 he i1 l1 (j1 + 1) := p1b.kept fun o e => se.extBut _ _ D.TOi1.symm (sd.extBut _ _ D.i12 (sc.extBut _ _ D.TOi1.symm e))
 have q2 : IterAt k2 he i2 l2 (j2 + 1) := p2d.kept fun o e => se.extBut _ _ D.TOi2.symm e
 have tie : IsPair he TI (.ref i1) (.ref i2) := se.extBut _ _ D.TITO (sd.extBut _ _ D.TIi2 (sc.extBut _ _ D.TITO (sb.extBut _ _ D.TIi1 (sa.extBut _ _ D.TIz g1))))
 have zlt : z < he.objs.size := Heap.lt_size ze
 show wpAny _ _ (Builtin.SmallTypes.ownedTupleHandOut (.ref z) (.ref he.objs.size) >>= _) _ _ _
 refine wpAny_bind ?_
 unfold Builtin.SmallTypes.ownedTupleHandOut
 have zf : IsZip (he.push { cls := .type "tuple", data := .seq #[x, y] }) z TI TO .ellipsis := Heap.get?_push_of_some _ ze
 refine wpAny_bind (wpAny_setField_rec zf (by simp) fun hg zg sg => ?_)
 replace zg : IsZip hg z TI TO (rawInt he.objs.size) := zg
 refine wpAny_setField_rec zg (by simp) fun hn zn sn => ?_
 replace zn : IsZip hn z TI TO (rawInt he.objs.size) := zn
 have up : ∀ c o, c ≠ z -> he.get? c = some o -> hn.get? c = some o := fun c o n e => sn.extBut _ _ n (sg.extBut _ _ n (Heap.get?_push_of_some _ e))
 have tn : IsPair hn he.objs.size x y := sn.extBut _ _ (Nat.ne_of_gt zlt) (sg.extBut _ _ (Nat.ne_of_gt zlt) (Heap.get?_push_size _ rfl))
 rw [size] at zn tn
 refine wpAny_pure ⟨_, rfl, ?_⟩
 show Q (.ref he.objs.size) _
 rw [size]
 refine hQ hn ⟨zn, up _ _ D.TIz tie, ⟨_, _, up _ _ D.TOz t5⟩, q1.kept fun o e => up _ _ D.i1z e, q2.kept fun o e => up _ _ D.i2z e⟩ tn fun c o n e => up c o (fun z => n (by simp [z])) (ke c o n e)
theorem zip_end {k1 k2 : Bool} {z TI TO i1 i2 l1 l2 : Addr} {j1 j2 : Nat} {xs ys : Array Value} {Q : Fin -> Shared -> Prop} (hh : A.handled = none) (D : ZipApart z TI TO i1 i2 l1 l2) (Z : ZipAt k1 k2 s.heap z TI TO i1 i2 l1 l2 .none j1 j2)
  (b1 : SeqIs k1 s.heap l1 xs) (b2 : SeqIs k2 s.heap l2 ys) (hend : xs[j1]? = none \/ ys[j2]? = none)
  (hE : ∀ h' e, (∀ c o, c ∉ [z, TO, i1, i2] -> s.heap.get? c = some o -> h'.get? c = some o) -> (∃ o, h'.get? e = some o /\ o.cls = .type "StopIteration") -> E (.ref e) { s with heap := h' }) :
  wpAny (model prog w) A (Builtin.«zip.__next__» ⟨[.ref z], []⟩) Q E s := by
 obtain ⟨g0, g1, ⟨oa, ob, g2⟩, p1, p2⟩ := Z
 show wpAny _ _ (field (.ref z) 2 >>= _) _ _ _
 refine wpAny_bind (wpAny_field g0 rfl (x := .bool false) rfl ?_)
 show wpAny _ _ (field (.ref z) 3 >>= _) _ _ _
 refine wpAny_bind (wpAny_field g0 rfl (x := .ref TI) rfl ?_)
 refine wpAny_bind (wpAny_seqItems g1 rfl ?_)
 show wpAny _ _ (Builtin.SmallTypes.ownedTupleIsFree (.ref z) >>= _) _ _ _
 refine wpAny_bind ?_
 unfold Builtin.SmallTypes.ownedTupleIsFree
 refine wpAny_bind (wpAny_field g0 rfl (x := .none) rfl (wpAny_pure ?_))
 simp only [if_true]
 refine wpAny_bind (wpAny_rule ?_)
 refine wpAny_bind (wpAny_field g0 rfl (x := .ref TO) rfl ?_)
 refine wpAny_bind (wpAny_setField_rec g0 (by simp) fun ha za sa => ?_)
 replace za : IsZip ha z TI TO .ellipsis := za
 refine wpAny_bind ?_
 simp only [List.zipIdx_cons, List.zipIdx_nil, List.forIn_cons, List.forIn_nil]
 refine wpAny_bind (wpAny_bind (wpAny_onRaise ?_))
 show wpAny _ _ (Builtin.SmallTypes.nextOf (.ref i1) >>= _) _ _ _
 cases hx : xs[j1]? with
 | none =>
  refine wpAny_bind (endS hh (p1.kept fun o e => sa.extBut _ _ D.i1z e) (b1.kept fun o e => sa.extBut _ _ D.l1z e) hx fun hb e sb te => ?_)
  obtain ⟨oe, e1, e2⟩ := te
  have zb : IsZip hb z TI TO .ellipsis := sb _ _ D.i1z.symm za
  have nez : e ≠ z := fun q => by subst q; rw [zb] at e1; cases e1; simp at e2
  refine wpAny_setField_rec zb (by simp) fun hc _ sc => hE hc e (fun c o n q => ?_) ⟨oe, sc.extBut _ _ nez e1, e2⟩
  simp only [List.mem_cons, List.not_mem_nil, or_false, not_or] at n
  exact sc.extBut _ _ n.1 (sb _ _ n.2.2.1 (sa.extBut _ _ n.1 q))
 | some x =>
  have hy : ys[j2]? = none := hend.resolve_left (by rw [hx]; intro q; cases q)
  refine wpAny_bind (nextS (p1.kept fun o e => sa.extBut _ _ D.i1z e) (b1.kept fun o e => sa.extBut _ _ D.l1z e) hx fun hb p1b sb => wpAny_pure ?_)
  have t2 : IsPair hb TO oa ob := sb.extBut _ _ D.TOi1 (sa.extBut _ _ D.TOz g2)
  refine wpAny_bind (wpAny_seqItems t2 rfl ?_)
  refine wpAny_bind (wpAny_updateSeq_pair t2 fun hc t3 sc => ?_)
  refine wpAny_bind (wpAny_letGo (wpAny_pure ?_))
  refine wpAny_bind (wpAny_bind (wpAny_onRaise ?_))
  show wpAny _ _ (Builtin.SmallTypes.nextOf (.ref i2) >>= _) _ _ _
  refine wpAny_bind (endS hh (p2.kept fun o e => sc.extBut _ _ D.TOi2.symm (sb.extBut _ _ D.i12.symm (sa.extBut _ _ D.i2z e))) (b2.kept fun o e => sc.extBut _ _ D.l2TO (sb.extBut _ _ D.l2i1 (sa.extBut _ _ D.l2z e))) hy fun hd e sd te => ?_)
  obtain ⟨oe, e1, e2⟩ := te
  have zd : IsZip hd z TI TO .ellipsis := sd _ _ D.i2z.symm (sc.extBut _ _ D.TOz.symm (sb.extBut _ _ D.i1z.symm za))
  have nez : e ≠ z := fun q => by subst q; rw [zd] at e1; cases e1; simp at e2
  refine wpAny_setField_rec zd (by simp) fun he _ se => hE he e (fun c o n q => ?_) ⟨oe, se.extBut _ _ nez e1, e2⟩
  simp only [List.mem_cons, List.not_mem_nil, or_false, not_or] at n
  exact se.extBut _ _ n.1 (sd _ _ n.2.2.2 (sc.extBut _ _ n.2.1 (sb.extBut _ _ n.2.2.1 (sa.extBut _ _ n.1 q))))
theorem pyNext_zip {k1 k2 : Bool} {z TI TO i1 i2 l1 l2 : Addr} {j1 j2 : Nat} {xs ys : Array Value} {x y : Value} {Q : Option Value -> Shared -> Prop} (D : ZipApart z TI TO i1 i2 l1 l2) (Z : ZipAt k1 k2 s.heap z TI TO i1 i2 l1 l2 .none j1 j2)
  (b1 : SeqIs k1 s.heap l1 xs) (b2 : SeqIs k2 s.heap l2 ys) (hx : xs[j1]? = some x) (hy : ys[j2]? = some y)
  (hQ : ∀ h', ZipAt k1 k2 h' z TI TO i1 i2 l1 l2 (rawInt s.heap.objs.size) (j1 + 1) (j2 + 1) -> IsPair h' s.heap.objs.size x y -> (∀ c o, c ∉ [z, TO, i1, i2] -> s.heap.get? c = some o -> h'.get? c = some o) -> Q (some (.ref s.heap.objs.size)) { s with heap := h' }) :
  wpAny (model prog w) A (pyNext (.ref z)) Q E s := by
 have ty : s.TypeIs (.ref z) "zip" := ⟨_, Z.zz, rfl⟩
 unfold pyNext
 exact wpAny_bind (wpAny_attempt (wpAny_callSpecial?_slot (name := Str.ofString "__next__") ty F.slot_zip_next (wpAny_call_entry F.slot_zip_next ty F.entry_zip_next (zip_item D Z b1 b2 hx hy fun h' r1 r2 r3 => wpAny_pure (hQ h' r1 r2 r3)) (F.args_zip_next_1 _))))
theorem pyNext_zipEnd {k1 k2 : Bool} {z TI TO i1 i2 l1 l2 : Addr} {j1 j2 : Nat} {xs ys : Array Value} {Q : Option Value -> Shared -> Prop} (hh : A.handled = none) (D : ZipApart z TI TO i1 i2 l1 l2) (Z : ZipAt k1 k2 s.heap z TI TO i1 i2 l1 l2 .none j1 j2)
  (b1 : SeqIs k1 s.heap l1 xs) (b2 : SeqIs k2 s.heap l2 ys) (hend : xs[j1]? = none \/ ys[j2]? = none)
  (hQ : ∀ h', (∀ c o, c ∉ [z, TO, i1, i2] -> s.heap.get? c = some o -> h'.get? c = some o) -> Q none { s with heap := h' }) : wpAny (model prog w) A (pyNext (.ref z)) Q E s := by
 have ty : s.TypeIs (.ref z) "zip" := ⟨_, Z.zz, rfl⟩
 unfold pyNext
 refine wpAny_bind (wpAny_attempt (wpAny_callSpecial?_slot (name := Str.ofString "__next__") ty F.slot_zip_next (wpAny_call_entry F.slot_zip_next ty F.entry_zip_next (zip_end hh D Z b1 b2 hend fun h' e hk he => ?_) (F.args_zip_next_1 _))))
 obtain ⟨o, e1, e2⟩ := he
 exact wpAny_bind (wpAny_isInstance (T := "StopIteration") (b := true) ⟨o, e1, e2⟩ isSubtype_stop (wpAny_pure (hQ _ hk)))
end
def zH1 (k1 : Bool) (h : Heap) (l1 : Addr) : Heap := h.push { cls := .type (itName k1), data := .fields #[.ref l1, .int 0 0] }
def zH2 (k1 k2 : Bool) (h : Heap) (l1 l2 : Addr) : Heap := (zH1 k1 h l1).push { cls := .type (itName k2), data := .fields #[.ref l2, .int 0 0] }
def zH3 (k1 k2 : Bool) (h : Heap) (l1 l2 : Addr) : Heap := (zH2 k1 k2 h l1 l2).push { cls := .type "tuple", data := .seq #[.ref h.objs.size, .ref (zH1 k1 h l1).objs.size] }
def zH4 (k1 k2 : Bool) (h : Heap) (l1 l2 : Addr) : Heap := (zH3 k1 k2 h l1 l2).push { cls := .type "tuple", data := .seq #[.none, .none] }
def zH5 (k1 k2 : Bool) (h : Heap) (l1 l2 : Addr) : Heap := (zH4 k1 k2 h l1 l2).push { cls := .type "zip", data := .fields #[.none, .bool false, .bool false, .ref (zH2 k1 k2 h l1 l2).objs.size, .ref (zH3 k1 k2 h l1 l2).objs.size] }
theorem zip_new_meets (k1 k2 : Bool) (l1 l2 : Addr) (xs ys : Array Value) :
  Meets (Builtin.«zip.__new__» ⟨[.type "zip", .ref l1, .ref l2], []⟩) (fun _ R s => SeqIs k1 s.heap l1 xs /\ SeqIs k2 s.heap l2 ys /\ R (.ok (.ret (.ref (zH4 k1 k2 s.heap l1 l2).objs.size))) { s with heap := zH5 k1 k2 s.heap l1 l2 }) :=
 .of_wp fun prog w A R s h => by
  obtain ⟨hp, gn, dr, tk, os⟩ := s
  obtain ⟨q1, q2, h⟩ := h
  have hsub := sub_zip
  have r1 : SeqIs k1 (Shared.heap ⟨hp, gn, dr, tk, os⟩) l1 xs := q1
  have r2 : SeqIs k2 (Shared.heap ⟨hp.push { cls := .type (itName k1), data := .fields #[.ref l1, .int 0 0] }, gn, dr, tk, os⟩) l2 ys := SeqIs.kept q2 fun o e => Heap.get?_push_of_some _ e
  wp_walk using pyIterS r1, pyIterS r2
  exact ⟨_, rfl, h⟩
section
variable {prog : Program} {w : World} {A : Around} {E : Value -> Shared -> Prop} {s : Shared}
theorem call_zip {k1 k2 : Bool} {l1 l2 : Addr} {xs ys : Array Value} {Q : Value -> Shared -> Prop} (b1 : SeqIs k1 s.heap l1 xs) (b2 : SeqIs k2 s.heap l2 ys)
  (hQ : ∀ h', ZipAt k1 k2 h' (s.heap.objs.size + 4) (s.heap.objs.size + 2) (s.heap.objs.size + 3) s.heap.objs.size (s.heap.objs.size + 1) l1 l2 .none 0 0 -> (∀ c o, s.heap.get? c = some o -> h'.get? c = some o) -> Q (.ref (s.heap.objs.size + 4)) { s with heap := h' }) :
  wpAny (model prog w) A (call (.type "zip") [.ref l1, .ref l2]) Q E s := by
 refine callType_new F.called_zip (by decide) (F.typeCall_zip_2 _ _) (F.newCall_zip_2 _ _) (fun obj => F.args_object_init_3 obj _ _) F.entry_zip_new (zip_new_meets k1 k2 l1 l2 xs ys) ⟨b1, b2, ?_⟩
 have n1 : (zH1 k1 s.heap l1).objs.size = s.heap.objs.size + 1 := Heap.size_push ..
 have n2 : (zH2 k1 k2 s.heap l1 l2).objs.size = s.heap.objs.size + 2 := by unfold zH2; rw [Heap.size_push, n1]
 have n3 : (zH3 k1 k2 s.heap l1 l2).objs.size = s.heap.objs.size + 3 := by unfold zH3; rw [Heap.size_push, n2]
 have n4 : (zH4 k1 k2 s.heap l1 l2).objs.size = s.heap.objs.size + 4 := by unfold zH4; rw [Heap.size_push, n3]
 have f5 : (zH5 k1 k2 s.heap l1 l2).get? (zH4 k1 k2 s.heap l1 l2).objs.size = some _ := Heap.get?_push_size _ rfl
 have f4 : (zH5 k1 k2 s.heap l1 l2).get? (zH3 k1 k2 s.heap l1 l2).objs.size = some _ := Heap.get?_push_of_some _ (Heap.get?_push_size _ rfl)
 have f3 : (zH5 k1 k2 s.heap l1 l2).get? (zH2 k1 k2 s.heap l1 l2).objs.size = some _ := Heap.get?_push_of_some _ (Heap.get?_push_of_some _ (Heap.get?_push_size _ rfl))
 have f2 : (zH5 k1 k2 s.heap l1 l2).get? (zH1 k1 s.heap l1).objs.size = some _ := Heap.get?_push_of_some _ (Heap.get?_push_of_some _ (Heap.get?_push_of_some _ (Heap.get?_push_size _ rfl)))
 have f1 : (zH5 k1 k2 s.heap l1 l2).get? s.heap.objs.size = some _ := Heap.get?_push_of_some _ (Heap.get?_push_of_some _ (Heap.get?_push_of_some _ (Heap.get?_push_of_some _ (Heap.get?_push_size _ rfl))))
 show _ /\ _
 rw [n2, n3, n4] at f5
 rw [n1, n2] at f3
 rw [n3] at f4
 rw [n1] at f2
 rw [n4]
 exact ⟨⟨_, f5, rfl⟩, hQ _ ⟨f5, f3, ⟨_, _, f4⟩, ⟨_, f1, rfl, rfl⟩, ⟨_, f2, rfl, rfl⟩⟩ fun c o e => Heap.get?_push_of_some _ (Heap.get?_push_of_some _ (Heap.get?_push_of_some _ (Heap.get?_push_of_some _ (Heap.get?_push_of_some _ e))))⟩
end
end L2
namespace L2
open PySem PySem.Spec PyProof.Rows
section
variable {X : Cx} {pins : List (Addr × Obj)} {σ : St} {H : Hp} {s : Shared} {h' : Heap}
theorem Inv.turnedL {t' : Nat} {ch : List Addr} (I : Inv X pins σ H s) (hf : ∀ b ∈ ch, FpOk X pins H b) (k : ∀ b o, b ∉ ch -> s.heap.get? b = some o -> h'.get? b = some o) : Inv X pins σ H { s with heap := h', toks := t' } := by
 have nch : ∀ b u, H b = some u -> b ∉ ch := fun b u e z => by rw [(hf b z).1] at e; cases e
 refine I.step (g' := s.gens) (d' := s.drawn) (ch := ch) (fun b hb => ⟨(hf b hb).2.2.2.1, (hf b hb).2.1, (hf b hb).2.2.2.2.1, (hf b hb).2.2.2.2.2⟩) (fun b o _ _ hc e _ => k b o hc e) (fun b o _ _ hc e _ => ⟨o.slots, k b o hc e⟩) (fun _ _ _ _ n => n)
  (fun b o hc e => ⟨o, k b o hc e⟩) (fun _ _ e => e) (fun _ _ _ e => e) (fun b ps e => ⟨#[], by rw [e]; simp⟩) (fun m hm => ?_) (fun b u e => ?_) I.bare
 ·obtain ⟨o, es, ep, ho, r⟩ := hm
  exact ⟨o, es, ep, k _ o (fun z => (hf _ z).2.1 rfl) ho, r⟩
 ·refine (I.hok b u e).stay (fun c v hc q => k c v ?_ q) (fun _ q => q) fun _ _ q => q
  rcases hc with z | z
  ·rw [z]; exact nch b u e
  ·exact nch c _ z
theorem Inv.turnedN {t' : Nat} {ch : List Addr} {T : Addr} {o : HO} (I : Inv X pins σ H s) (hf : ∀ b ∈ ch, FpOk X pins H b) (k : ∀ b o, b ∉ ch -> s.heap.get? b = some o -> h'.get? b = some o) (hT : s.heap.objs.size <= T)
  (new : ObjOk X.prog X.w (upd H T o) h' T o) : Inv X pins σ (upd H T o) { s with heap := h', toks := t' } := by
 have nch : ∀ b u, H b = some u -> b ∉ ch := fun b u e z => by rw [(hf b z).1] at e; cases e
 have hn : H T = none := I.hok.fresh hT
 refine I.step (g' := s.gens) (d' := s.drawn) (ch := ch) (fun b hb => ⟨(hf b hb).2.2.2.1, (hf b hb).2.1, (hf b hb).2.2.2.2.1, (hf b hb).2.2.2.2.2⟩) (fun b o _ _ hc e _ => k b o hc e) (fun b o _ _ hc e _ => ⟨o.slots, k b o hc e⟩)
  (fun b u _ e n => by rw [upd_ne (Nat.ne_of_lt (Nat.lt_of_lt_of_le (Heap.lt_size e) hT))]; exact n)
  (fun b o hc e => ⟨o, k b o hc e⟩) (fun b xs e => by rw [upd_ne (ne_of_none e hn)]; exact e) (fun b u xs e => by rw [upd_ne (ne_of_none e hn)]; exact e) (fun b ps e => ⟨#[], by rw [upd_ne (ne_of_none e hn), e]; simp⟩) (fun m hm => ?_) (fun b u e => ?_) I.bare
 ·obtain ⟨o, es, ep, ho, r⟩ := hm
  exact ⟨o, es, ep, k _ o (fun z => (hf _ z).2.1 rfl) ho, r⟩
 ·by_cases hb : b = T
  ·subst hb; rw [upd_same] at e; cases e; exact new
  ·rw [upd_ne hb] at e
   refine (I.hok b u e).stay (fun c v hc q => k c v ?_ q) (fun c q => by rw [upd_ne (ne_of_none q hn)]; exact q) fun c xs q => by rw [upd_ne (ne_of_none q hn)]; exact q
   rcases hc with z | z
   ·rw [z]; exact nch b u e
   ·exact nch c _ z
end
def Sq (k : Bool) (K : PySem.W.Frag) (H : Hp) (a : Addr) (xs : List V) : Prop :=
 match k with
 | true => SqT K H a xs
 | false => SqL K H a xs
theorem Inv.sq {X : Cx} {pins : List (Addr × Obj)} {σ : St} {H : Hp} {s : Shared} {k : Bool} {a : Addr} {xs : List V} (I : Inv X pins σ H s) (h : Sq k X.K H a xs) : ∃ its : List Value, Vals xs its /\ SeqIs k s.heap a its.toArray /\ xs.length <= sizeLine := by
 cases k
 ·obtain ⟨its, r, p, z⟩ := I.list h
  exact ⟨its, r, p.isList, z⟩
 ·exact I.tuple h
theorem Inv.sq_inj {X : Cx} {pins : List (Addr × Obj)} {σ : St} {H : Hp} {s : Shared} {k : Bool} {a : Addr} {xs ys : List V} (I : Inv X pins σ H s) (h : Sq k X.K H a xs) (h' : Sq k X.K H a ys) : xs = ys := by
 cases k
 ·exact I.list_inj h h'
 ·exact I.tuple_inj h h'
def Itz (K : PySem.W.Frag) (k1 k2 : Bool) (a b : Addr) : It :=
 ⟨fun i H => ∃ xs ys x y, Sq k1 K H a xs /\ Sq k2 K H b ys /\ xs[i]? = some x /\ ys[i]? = some y,
  fun i H v H' => ∃ T x y, H T = none /\ v = .ref T /\ H' = upd H T (.tup [x, y]) /\ (∀ xs, Sq k1 K H a xs -> xs[i]? = some x) /\ ∀ ys, Sq k2 K H b ys -> ys[i]? = some y,
  fun i H => ∃ xs ys, Sq k1 K H a xs /\ Sq k2 K H b ys /\ (xs.length <= i \/ ys.length <= i)⟩
theorem pair_ok {P : Program} {w : World} {H : Hp} {h : Heap} {T : Addr} {x y : V} {u v : Value} (r1 : RelV x u) (r2 : RelV y v) (e : IsPair h T u v) : ObjOk P w H h T (.tup [x, y]) := by
 refine ⟨by show 2 <= sizeLine; decide, [u, v], .cons r1 (.cons r2 .nil), ⟨_, e, rfl, _, rfl⟩, fun o q => ?_⟩
 rw [e] at q
 cases q
 rfl
theorem turn_zip {P : Program} {w : World} {K : PySem.W.Frag} {elts : List Expr} {x1 : Nat} {pos : Pos} (k1 k2 : Bool) (a b z TI TO i1 i2 : Addr) (D : ZipApart z TI TO i1 i2 a b) :
  Turn P w K (.Tuple elts x1 pos) (Itz K k1 k2 a b) [z, TI, TO, i1, i2] z (fun i h => ZipAt k1 k2 h z TI TO i1 i2 a b .none i i) where
 mem := by simp
 obj := fun i h st c hc => by
  obtain ⟨g0, g1, ⟨oa, ob, g2⟩, ⟨o1, e1, _, d1⟩, ⟨o2, e2, _, d2⟩⟩ := st
  simp only [List.mem_cons, List.not_mem_nil, or_false] at hc
  rcases hc with rfl | rfl | rfl | rfl | rfl
  ·exact ⟨_, g0, fun v q => by cases q⟩
  ·exact ⟨_, g1, fun v q => by cases q⟩
  ·exact ⟨_, g2, fun v q => by cases q⟩
  ·exact ⟨_, e1, fun v q => by rw [d1] at q; cases q⟩
  ·exact ⟨_, e2, fun v q => by rw [d2] at q; cases q⟩
 keep := fun i h h' st k => st.kept k
 item := by
  intro X hP hw hK hc i pins s σ H E I hf st hg
  subst hP hw hK
  obtain ⟨xs, ys, x, y, hq1, hq2, hx, hy⟩ := hg
  obtain ⟨us, rv1, p1, _⟩ := I.sq hq1
  obtain ⟨ws, rv2, p2, _⟩ := I.sq hq2
  obtain ⟨u, hu, ru⟩ := rv1.get hx
  obtain ⟨v, hv, rv⟩ := rv2.get hy
  refine pyNext_zip D st p1 p2 (x := u) (y := v) (by simpa using hu) (by simpa using hv) fun h' st' tp kk => ⟨_, rfl, ?_⟩
  refine wpAny_letOwnedTupleGo_zip st'.zz fun h2 hz2 sb => ?_
  have up : ∀ c o, c ≠ z -> h'.get? c = some o -> h2.get? c = some o := fun c o n e => (sb.2 c n).trans e
  have lt : z < s.heap.objs.size := Heap.lt_size st.zz
  have tp2 : IsPair h2 s.heap.objs.size u v := up _ _ (Nat.ne_of_gt lt) tp
  have I1 : Inv X pins σ (upd H s.heap.objs.size (.tup [x, y])) { s with heap := h2 } := I.turnedN (t' := s.toks) (ch := [z, TI, TO, i1, i2]) hf (fun c o n e => up c o (fun q => n (by simp [q])) (kk c o (fun q => n (by
   simp only [List.mem_cons, List.not_mem_nil, or_false] at q ⊢
   rcases q with q | q | q | q <;> simp [q])) e)) (Nat.le_refl _) (pair_ok ru rv tp2)
  refine ⟨.ref s.heap.objs.size, _, I1, rfl, ⟨_, x, y, I.hok.fresh (Nat.le_refl _), rfl, rfl, fun xs' h => by rw [I.sq_inj h hq1]; exact hx, fun ys' h => by rw [I.sq_inj h hq2]; exact hy⟩,
   ⟨hz2, up _ _ D.TIz st'.ti, ?_, st'.a1.kept (fun o e => up _ _ D.i1z e), st'.a2.kept fun o e => up _ _ D.i2z e⟩, fun c hc => ?_⟩
  ·obtain ⟨oa, ob, e⟩ := st'.tO
   exact ⟨oa, ob, up _ _ D.TOz e⟩
  ·have hlt : c < s.heap.objs.size := by
    obtain ⟨g0, g1, ⟨oa, ob, g2⟩, ⟨o1, e1, _, d1⟩, ⟨o2, e2, _, d2⟩⟩ := st
    simp only [List.mem_cons, List.not_mem_nil, or_false] at hc
    rcases hc with rfl | rfl | rfl | rfl | rfl
    ·exact Heap.lt_size g0
    ·exact Heap.lt_size g1
    ·exact Heap.lt_size g2
    ·exact Heap.lt_size e1
    ·exact Heap.lt_size e2
   rw [upd_ne (Nat.ne_of_lt hlt)]
   exact (hf c hc).1
 done := by
  intro X hP hw hK hc i pins s σ H E I hf st hg
  subst hP hw hK
  obtain ⟨xs, ys, hq1, hq2, hend⟩ := hg
  obtain ⟨us, rv1, p1, _⟩ := I.sq hq1
  obtain ⟨ws, rv2, p2, _⟩ := I.sq hq2
  have l1 := rv1.length
  have l2 := rv2.length
  refine pyNext_zipEnd (I.ok.hd hc) D st p1 p2 ?_ fun h' kk => ⟨rfl, I.turnedL (t' := s.toks) (ch := [z, TI, TO, i1, i2]) hf fun c o n e => kk c o (fun q => n (by
   simp only [List.mem_cons, List.not_mem_nil, or_false] at q ⊢
   rcases q with q | q | q | q <;> simp [q])) e⟩
  rcases hend with q | q
  ·exact .inl (by simp; omega)
  ·exact .inr (by simp; omega)
 self := fun _ _ _ _ _ st h => wpAny_pyIter_zip st.zz h
section
variable {X : Cx} {elts : List Expr} {x1 : Nat} {tpos : Pos}
def iZip (K : PySem.W.Frag) (k1 k2 : Bool) (ta : TA) : TI := fun σ H R => ta σ H fun vs H1 => ∃ a b, vs = [.ref a, .ref b] /\ (∃ xs, Sq k1 K H1 a xs) /\ (∃ ys, Sq k2 K H1 b ys) /\ R (Itz K k1 k2 a b) H1
theorem pi_zip (k1 k2 : Bool) {a b : Expr} {ta : TA} {p pos : Pos} (hg : Gl X "zip") (hm : X.mg "zip" = none) (ha : PA X [a, b] ta) (hs : starEach [a, b] X.env = [(false, eval a X.env), (false, eval b X.env)] := by rfl) (hs2 : starEach [b] X.env = [(false, eval b X.env)] := by rfl) :
  PI X (.Tuple elts x1 tpos) (.Call (.Name "zip" p) [a, b] [] pos) (iZip X.K k1 k2 ta) := by
 intro pins s σ H R I h
 refine Call_ (ld_blt I hg hm boot_zip (PyProof.Rows.callWith_type1 (thn (ha pos pins s σ H _ I h) fun us s1 ⟨vs, H1, I1, r1, q1⟩ => ?_) (by rw [hs, hs2]) (by rw [hs2]; rfl)))
 obtain ⟨a, b, e, ⟨xs, hq1⟩, ⟨ys, hq2⟩, q⟩ := q1
 subst e
 cases r1 with
 | cons r rr =>
  cases rr with
  | cons r' rr =>
   cases rr
   cases r
   cases r'
   obtain ⟨us, rv1, p1, _⟩ := I1.sq hq1
   obtain ⟨ws, rv2, p2, _⟩ := I1.sq hq2
   refine call_zip p1 p2 fun h' Z kk => ?_
   have D := PyProof.Rows.zipApart_new p1.lt p2.lt
   have I2 : Inv X pins σ H1 { s1 with heap := h' } := I1.kept (t' := s1.toks) kk
   refine wpAny_pyIter_zip (s := { s1 with heap := h' }) Z.zz ⟨_, [s1.heap.objs.size + 4, s1.heap.objs.size + 2, s1.heap.objs.size + 3, s1.heap.objs.size, s1.heap.objs.size + 1], _, _, H1, rfl, I2, turn_zip k1 k2 a b _ _ _ _ _ D, Z, fun c hc => ?_, q⟩
   have hle : s1.heap.objs.size <= c := by
    simp only [List.mem_cons, List.not_mem_nil, or_false] at hc
    have hc' : c = s1.heap.objs.size + 4 \/ c = s1.heap.objs.size + 2 \/ c = s1.heap.objs.size + 3 \/ c = s1.heap.objs.size \/ c = s1.heap.objs.size + 1 := hc
    rcases hc' with e | e | e | e | e <;> rw [e] <;> first | exact Nat.le_refl _ | exact Nat.le_add_right _ _
   exact I1.fpOk hle (I1.hok.fresh hle)
end
end L2
namespace L2
open PySem PySem.Spec PyProof.Rows
theorem comp_zip {K : PySem.W.Frag} {k1 k2 : Bool} {a b : Addr} {xs ys : List V} {g : TG} {tf : TT} {te : TE} {σ : St} {H : Hp} {Q : VK} (Pv : Nat -> List V -> St -> Hp -> Prop) (h0 : Pv 0 [] σ H)
  (hl : ∀ i zs σ H, i <= min xs.length ys.length -> Pv i zs σ H -> Sq k1 K H a xs /\ Sq k2 K H b ys /\ zs.length <= sizeLine)
  (hs : ∀ i x y zs σ H T, xs[i]? = some x -> ys[i]? = some y -> Pv i zs σ H -> H T = none -> g (.ref T) σ (upd H T (.tup [x, y])) fun σ2 H2 => tf σ2 H2 fun b H3 => if b = true then te σ2 H3 fun v H4 => Pv (i + 1) (zs ++ [v]) σ2 H4 else Pv (i + 1) zs σ2 H3)
  (hd : ∀ zs σ H, Pv (min xs.length ys.length) zs σ H -> ∀ p, H p = none -> Q (.ref p) (upd H p (.lst zs))) : tCompK g tf te σ (Itz K k1 k2 a b) H Q := by
 refine ⟨fun i m zs σ H => m = min xs.length ys.length - i /\ i <= min xs.length ys.length /\ Pv i zs σ H, ⟨_, (Nat.sub_zero _).symm, Nat.zero_le _, h0⟩, ?_⟩
 rintro i m zs σ H ⟨rfl, hi, p⟩
 obtain ⟨q1, q2, hz⟩ := hl i zs σ H hi p
 by_cases hlt : i < min xs.length ys.length
 ·have l1 : i < xs.length := by omega
  have l2 : i < ys.length := by omega
  refine .inr ⟨⟨xs, ys, xs[i], ys[i], q1, q2, by simp [l1], by simp [l2]⟩, hz, Pv (i + 1), fun ys' σ' H' p' => ⟨min xs.length ys.length - (i + 1), by omega, rfl, hlt, p'⟩, fun x H' y => ?_⟩
  obtain ⟨T, u, v, hT, rfl, rfl, e1, e2⟩ := y
  exact hs i u v zs σ H T (e1 xs q1) (e2 ys q2) p hT
 ·have e : i = min xs.length ys.length := by omega
  rw [e] at p
  exact .inl ⟨⟨xs, ys, q1, q2, by omega⟩, hz, hd zs σ H p⟩
theorem for_zip {K : PySem.W.Frag} {k1 k2 : Bool} {a b : Addr} {xs ys : List V} {g : TG} {tb : TS} {D : Ends} {σ : St} {H : Hp} (Pv : Nat -> St -> Hp -> Prop) (h0 : Pv 0 σ H)
  (hl : ∀ i σ H, i <= min xs.length ys.length -> Pv i σ H -> Sq k1 K H a xs /\ Sq k2 K H b ys)
  (hs : ∀ i x y σ H T, xs[i]? = some x -> ys[i]? = some y -> Pv i σ H -> H T = none -> g (.ref T) σ (upd H T (.tup [x, y])) fun σ2 H2 => tb { D with nx := Pv (i + 1), ct := Pv (i + 1), bk := D.nx } σ2 H2) (hd : ∀ σ H, Pv (min xs.length ys.length) σ H -> D.nx σ H) :
  ∃ W : Nat -> Nat -> St -> Hp -> Prop, (∃ m, W 0 m σ H) /\ ∀ i m σ H, W i m σ H ->
   ((Itz K k1 k2 a b).stop i H /\ D.nx σ H) \/ ((Itz K k1 k2 a b).go i H /\ ∃ N : St -> Hp -> Prop, (∀ σ' H', N σ' H' -> ∃ m', m' < m /\ W (i + 1) m' σ' H') /\ ∀ x H', (Itz K k1 k2 a b).yld i H x H' -> g x σ H' fun σ2 H2 => tb { D with nx := N, ct := N, bk := D.nx } σ2 H2) := by
 refine ⟨fun i m σ H => m = min xs.length ys.length - i /\ i <= min xs.length ys.length /\ Pv i σ H, ⟨_, (Nat.sub_zero _).symm, Nat.zero_le _, h0⟩, ?_⟩
 rintro i m σ H ⟨rfl, hi, p⟩
 obtain ⟨q1, q2⟩ := hl i σ H hi p
 by_cases hlt : i < min xs.length ys.length
 ·have l1 : i < xs.length := by omega
  have l2 : i < ys.length := by omega
  refine .inr ⟨⟨xs, ys, xs[i], ys[i], q1, q2, by simp [l1], by simp [l2]⟩, Pv (i + 1), fun σ' H' p' => ⟨min xs.length ys.length - (i + 1), by omega, rfl, hlt, p'⟩, fun x H' y => ?_⟩
  obtain ⟨T, u, v, hT, rfl, rfl, e1, e2⟩ := y
  exact hs i u v σ H T (e1 xs q1) (e2 ys q2) p hT
 ·have e : i = min xs.length ys.length := by omega
  rw [e] at p
  exact .inl ⟨⟨xs, ys, q1, q2, by omega⟩, hd σ H p⟩
section
variable {prog : Program} {w : World} {A : Around} {E : Value -> Shared -> Prop} {s : Shared}
theorem call_tree_kw {id : String} {b : Builtin} {args : List Value} {kw : List (Str × Value)} {Q : Value -> Shared -> Prop} (hk : builtinKind id = none) (hp : plainId id = true) (hb : entryFor table id = some b) (ha : argsOk id ⟨args, kw⟩)
  (hc : wpAny (model prog w) A.in1 (b ⟨args, kw⟩) (fun fin s' => match fin with
   | .done f => (match (Except.ok f : Result) with | .ok (.ret v) => Q v s' | .ok _ => False | .error e => E e s')
   | .again c' => c'.quiet = true /\ codeAny (model prog w) A c' (fun r s' => match r with | .ok (.ret v) => Q v s' | .ok _ => False | .error e => E e s') s') E s) : wpAny (model prog w) A (call (.builtin id) args kw) Q E s := by
 refine wpAny_call (codeAny_call_builtin hp hb ?_)
 simp only [checkBuiltinCall, hk]
 cases hsig : Manifest.signature? id with
 | none => exact wpAny_pure hc
 | some sig =>
  have ha' : Bind.checkArgs id sig ⟨args, kw⟩ = pure () := by simpa only [argsOk, hsig] using ha
  simp only [ha']
  exact wpAny_pure hc
end
theorem best_le {val : Nat -> Int} : ∀ n j : Nat, j <= n -> val j <= val (argBest (fun i j => decide (val i > val j)) n)
 | 0, j, h => by
  have : j = 0 := by omega
  subst this
  exact Int.le_refl _
 | n + 1, j, h => by
  unfold argBest
  by_cases c : val (n + 1) > val (argBest (fun i j => decide (val i > val j)) n)
  ·simp only [decide_eq_true c, if_true]
   by_cases e : j = n + 1
   ·rw [e]; exact Int.le_refl _
   ·have := best_le (val := val) n j (by omega); omega
  ·simp only [decide_eq_false c, Bool.false_eq_true, if_false]
   by_cases e : j = n + 1
   ·rw [e]; omega
   ·exact best_le n j (by omega)
theorem best_ge {val : Nat -> Int} : ∀ n j : Nat, j <= n -> val (argBest (fun i j => decide (val i < val j)) n) <= val j
 | 0, j, h => by
  have : j = 0 := by omega
  subst this
  exact Int.le_refl _
 | n + 1, j, h => by
  unfold argBest
  by_cases c : val (n + 1) < val (argBest (fun i j => decide (val i < val j)) n)
  ·simp only [decide_eq_true c, if_true]
   by_cases e : j = n + 1
   ·rw [e]; exact Int.le_refl _
   ·have := best_ge (val := val) n j (by omega); omega
  ·simp only [decide_eq_false c, Bool.false_eq_true, if_false]
   by_cases e : j = n + 1
   ·rw [e]; omega
   ·exact best_ge n j (by omega)
theorem best_lt (bt : Nat -> Nat -> Bool) : ∀ n : Nat, argBest bt n <= n
 | 0 => Nat.le_refl _
 | n + 1 => by
  unfold argBest
  split
  ·exact Nat.le_refl _
  ·exact Nat.le_trans (best_lt bt n) (Nat.le_succ n)
section
variable {prog : Program} {w : World} {A : Around} {R : Result -> Shared -> Prop} {I : Addr} {fp wr : List Addr} {n : Nat} {P : Nat -> Value -> Prop} {St : Nat -> Heap -> Prop}
end
section
variable {prog : Program} {w : World} {A : Around} {E : Value -> Shared -> Prop} {s : Shared}
end
section
variable {X : Cx}
def Ismax (m : Int) (ns : List Int) : Prop := m ∈ ns /\ ∀ x ∈ ns, x <= m
theorem ismax_of {ns : List Int} (hn : 0 < ns.length) : Ismax (ns.getD (argBest (fun i j => decide (ns.getD i 0 > ns.getD j 0)) (ns.length - 1)) 0) ns := by
 have hb := best_lt (fun i j => decide (ns.getD i 0 > ns.getD j 0)) (ns.length - 1)
 have at' : ∀ j, j < ns.length -> ns.getD j 0 = ns[j]! := fun j h => by simp [h]
 refine ⟨?_, fun x hx => ?_⟩
 ·have hl : argBest (fun i j => decide (ns.getD i 0 > ns.getD j 0)) (ns.length - 1) < ns.length := by omega
  generalize argBest (fun i j => decide (ns.getD i 0 > ns.getD j 0)) (ns.length - 1) = k at hl
  have : ns.getD k 0 = ns[k] := by simp [hl]
  rw [this]
  exact List.getElem_mem hl
 ·obtain ⟨j, hj, rfl⟩ := List.mem_iff_getElem.mp hx
  have h1 := best_le (val := fun i => ns.getD i 0) (ns.length - 1) j (by omega)
  have h2 : ns.getD j 0 = ns[j] := by simp [hj]
  rw [<- h2]
  exact h1
theorem call_max_ints (hc : X.calm = true) : CallR X (.builtin "max") (fun xs H Q => ∃ (a : Addr) (ns : List Int), xs = [.ref a] /\ SqL X.K H a (ns.map V.int) /\ ns ≠ [] /\ ∀ m, Ismax m ns -> Q (.int m) H) := by
 intro pins s σ H xs us Q I r h
 obtain ⟨a, ns, rfl, hq, hne, q⟩ := h
 obtain ⟨u, rfl, ru⟩ := vals1 r
 cases ru
 have hh : X.A.in1.handled = none := I.ok.hd hc
 obtain ⟨its, rv, p, hz⟩ := I.list hq
 have hl := rv.length
 rw [List.length_map] at hl
 have hlt : a < s.heap.objs.size := by obtain ⟨_, e, _⟩ := p.isList; exact Heap.lt_size e
 have hn : 0 < ns.length := List.length_pos_iff.mpr hne
 refine call_max_walk (wpAny_pyIter_list p.isList ⟨_, _, _, _, _, _, _, rfl, Walks.list (A := X.A.in1) hh _ a (Nat.ne_of_lt hlt) its.toArray, ⟨⟨_, Heap.get?_push_size _ rfl, rfl, rfl⟩, p.isList.push _⟩, fun b hb => ?_, by rw [List.size_toArray, <- hl]; exact hn, CmpOf.ints_gt (fun i => ns.getD i 0) (vals_int_at rv), fun v h' tk p1 kk => ?_⟩)
 ·show b < (s.heap.push _).objs.size
  rw [Heap.size_push]
  rcases List.mem_cons.mp hb with rfl | hb
  ·exact Nat.lt_succ_self _
  ·rcases List.mem_cons.mp hb with rfl | hb
   ·exact Nat.lt_succ_of_lt hlt
   ·cases hb
 ·rw [List.size_toArray, <- hl] at p1
  obtain ⟨t, e⟩ := vals_int_at rv _ v p1
  exact ⟨.int _, H, I.kept fun b o e => kk b o (by simpa using Nat.ne_of_lt (Heap.lt_size e)) (Heap.get?_push_of_some _ e), ⟨t, e⟩, q _ (ismax_of hn)⟩
end
section
variable {prog : Program} {w : World} {A : Around} {R : Result -> Shared -> Prop} {I : Addr} {fp wr : List Addr} {n : Nat} {P : Nat -> Value -> Prop} {St : Nat -> Heap -> Prop}
theorem args_min_default (a v : Value) : argsOk "min" ⟨[a], [(Str.ofString "default", v)]⟩ := by unfold argsOk; kernel_rfl
theorem min_loopK {kw : List (Str × Value)} (W : Walks prog w A.in1 I fp wr n P St) (bt : Nat -> Nat -> Bool) (hc : CmpOf prog w A.in1 .Lt P bt) (S : Addr) (hSf : S ∉ fp) : ∀ (k j : Nat) (s : Shared) (vb : Value) (c : Nat), n - (j + 1) = k -> j + 1 <= n -> St (j + 1) s.heap -> P (argBest bt j) vb ->
  s.heap.get? S = some { cls := .type "list", dict := none, data := .seq #[vb, vb] c, slots := #[] } ->
  (∀ v h' tk, P (argBest bt (n - 1)) v -> (∀ b o, b ∉ wr -> b ≠ S -> s.heap.get? b = some o -> h'.get? b = some o) -> R (.ok (.ret v)) { s with heap := h', toks := tk }) ->
  codeAny (model prog w) A (.builtin "min.loop" ⟨[.ref I, .none, .ref S], kw⟩) R s := by
 have hSw : S ∉ wr := fun h => hSf (W.sub _ h)
 have nm : (toString "min" ++ toString ".loop" : String) = "min.loop" := by decide
 intro k
 induction k with
 | zero =>
  intro j s vb c hk hj st hP hS hR
  have hn : j + 1 = n := by omega
  refine codeAny_builtin F.entry_min_loop ?_
  rw [Around.under_plainId F.plain_min_loop _]
  show wpAny _ A.in1 (seqItems? (.ref S) >>= _) _ _ s
  refine wpAny_bind (wpAny_seqItems hS rfl ?_)
  show wpAny _ A.in1 (tryCatch (pyNext (.ref I)) _ >>= _) _ _ s
  refine wpAny_bind (wpAny_tryCatch (W.done s _ _ (hn ▸ st) fun h' tk kk => ?_))
  have hS' := kk S _ hSw hS
  show wpAny _ A.in1 (updateSeq S (fun _ => #[]) >>= _) _ _ _
  refine wpAny_bind (wpAny_updateSeq hS' rfl (wpAny_bind (wpAny_letGo (wpAny_pure ?_))))
  exact hR vb _ tk (by rw [<- hn]; exact hP) fun b o n1 n2 e => (Heap.get?_update_other _ _ (Ne.symm n2)).trans (kk b o n1 e)
 | succ k ih =>
  intro j s vb c hk hj st hP hS hR
  have hlt : j + 1 < n := by omega
  refine codeAny_builtin F.entry_min_loop ?_
  rw [Around.under_plainId F.plain_min_loop _]
  show wpAny _ A.in1 (seqItems? (.ref S) >>= _) _ _ s
  refine wpAny_bind (wpAny_seqItems hS rfl ?_)
  show wpAny _ A.in1 (tryCatch (pyNext (.ref I)) _ >>= _) _ _ s
  refine wpAny_bind (wpAny_tryCatch (W.item (j + 1) s _ _ hlt st fun v h' tk hPv st' kk => ?_))
  have hS' := kk S _ hSw hS
  show wpAny _ A.in1 (tryCatch (holding [v, v] (richCompare .Lt v vb >>= _)) _ >>= _) _ _ _
  refine wpAny_bind (wpAny_tryCatch (wpAny_holding (wpAny_bind (hc (j + 1) (argBest bt j) v vb _ _ _ hPv hP ?_))))
  refine wpAny_bind (wpAny_holding (wpAny_truthy_bool ?_))
  refine wpAny_bind (wpAny_letGo (wpAny_pure ?_))
  cases hb : bt (j + 1) (argBest bt j) with
  | true =>
   simp only [if_true]
   refine wpAny_bind (wpAny_updateSeq hS' rfl (wpAny_bind (wpAny_letGo ?_)))
   rw [nm]
   refine wpAny_pure ⟨plainId_quiet F.plain_min_loop _, ih (j + 1) _ v _ (by omega) hlt (W.frame _ _ _ st' fun b q o e => ?_) (by simp only [argBest, hb, if_true]; exact hPv) (Heap.get?_update_self _ hS' rfl) fun v2 h2 t2 p2 k2 => ?_⟩
   ·exact (Heap.get?_update_other _ _ (fun h : S = b => hSf (by rw [h]; exact q))).trans e
   ·exact hR v2 h2 t2 p2 fun b o n1 n2 e => k2 b o n1 n2 ((Heap.get?_update_other _ _ (Ne.symm n2)).trans (kk b o n1 e))
  | false =>
   simp only [Bool.false_eq_true, if_false]
   refine wpAny_bind (wpAny_letGo ?_)
   rw [nm]
   refine wpAny_pure ⟨plainId_quiet F.plain_min_loop _, ih (j + 1) _ vb c (by omega) hlt st' (by simp only [argBest, hb, Bool.false_eq_true, if_false]; exact hP) hS' fun v2 h2 t2 p2 k2 => ?_⟩
   exact hR v2 h2 t2 p2 fun b o n1 n2 e => k2 b o n1 n2 (kk b o n1 e)
theorem min_loop0 {d : Value} {s : Shared} {c : Nat} (W : Walks prog w A.in1 I fp wr n P St) (bt : Nat -> Nat -> Bool) (hc : CmpOf prog w A.in1 .Lt P bt) (S : Addr) (hSf : S ∉ fp) (st : St 0 s.heap)
  (hS : s.heap.get? S = some { cls := .type "list", dict := none, data := .seq #[] c, slots := #[] })
  (hR : ∀ v h' tk, (0 < n -> P (argBest bt (n - 1)) v) -> (n = 0 -> v = d) -> (∀ b o, b ∉ wr -> b ≠ S -> s.heap.get? b = some o -> h'.get? b = some o) -> R (.ok (.ret v)) { s with heap := h', toks := tk }) :
  codeAny (model prog w) A (.builtin "min.loop" ⟨[.ref I, .none, .ref S], [(Str.ofString "default", d)]⟩) R s := by
 have hSw : S ∉ wr := fun h => hSf (W.sub _ h)
 have nm : (toString "min" ++ toString ".loop" : String) = "min.loop" := by decide
 refine codeAny_builtin F.entry_min_loop ?_
 rw [Around.under_plainId F.plain_min_loop _]
 show wpAny _ A.in1 (seqItems? (.ref S) >>= _) _ _ s
 refine wpAny_bind (wpAny_seqItems hS rfl ?_)
 show wpAny _ A.in1 (tryCatch (pyNext (.ref I)) _ >>= _) _ _ s
 by_cases h0 : n = 0
 ·refine wpAny_bind (wpAny_tryCatch (W.done s _ _ (h0 ▸ st) fun h' tk kk => ?_))
  show wpAny _ A.in1 (rule _ >>= _) _ _ _
  refine wpAny_bind (wpAny_rule (wpAny_pure ?_))
  exact hR d h' tk (fun z => absurd h0 (Nat.ne_of_gt z)) (fun _ => rfl) fun b o n1 _ e => kk b o n1 e
 ·have hn : 0 < n := Nat.pos_of_ne_zero h0
  refine wpAny_bind (wpAny_tryCatch (W.item 0 s _ _ hn st fun v h' tk hPv st' kk => ?_))
  have hS' := kk S _ hSw hS
  show wpAny _ A.in1 (updateSeq S (fun _ => #[v, v]) >>= _) _ _ _
  refine wpAny_bind (wpAny_updateSeq hS' rfl ?_)
  rw [nm]
  refine wpAny_pure ⟨plainId_quiet F.plain_min_loop _, min_loopK W bt hc S hSf _ 0 _ v _ rfl hn (W.frame _ _ _ st' fun b q o e => ?_) hPv (Heap.get?_update_self _ hS' rfl) fun v2 h2 t2 p2 k2 => ?_⟩
  ·exact (Heap.get?_update_other _ _ (fun h : S = b => hSf (by rw [h]; exact q))).trans e
  ·exact hR v2 h2 t2 (fun _ => p2) (fun z => absurd z h0) fun b o n1 n2 e => k2 b o n1 n2 ((Heap.get?_update_other _ _ (Ne.symm n2)).trans (kk b o n1 e))
end
section
variable {prog : Program} {w : World} {A : Around} {E : Value -> Shared -> Prop} {s : Shared}
theorem call_min_default {x d : Value} {Q : Value -> Shared -> Prop}
  (h : wpAny (model prog w) A.in1 (pyIter x) (fun it s2 => ∃ I fp wr n P St bt, it = .ref I /\ Walks prog w A.in1 I fp wr n P St /\ St 0 s2.heap /\ (∀ b ∈ fp, b < s2.heap.objs.size) /\ CmpOf prog w A.in1 .Lt P bt /\
   ∀ v h' tk, (0 < n -> P (argBest bt (n - 1)) v) -> (n = 0 -> v = d) -> (∀ b o, b ∉ wr -> s2.heap.get? b = some o -> h'.get? b = some o) -> Q v { s2 with heap := h', toks := tk }) E s) :
  wpAny (model prog w) A (call (.builtin "min") [x] [(Str.ofString "default", d)]) Q E s := by
 have nm : (toString "min" ++ toString ".loop" : String) = "min.loop" := by decide
 refine call_tree_kw F.kind_min F.plain_min F.entry_min (args_min_default _ _) ?_
 show wpAny _ A.in1 (Builtin.Builtins.bindParams "min" ["key", "default"] 0 ⟨[], [(Str.ofString "default", d)]⟩ >>= _) _ _ s
 refine wpAny_bind (wpAny_of_eq (show Builtin.Builtins.bindParams "min" ["key", "default"] 0 ⟨[], [(Str.ofString "default", d)]⟩ = pure [none, some d] from rfl) ?_)
 refine wpAny_bind (wpAny_pure ?_)
 refine wpAny_bind (wpAny_mono h (fun it s2 h2 => ?_) fun _ _ e => e)
 obtain ⟨I, fp, wr, n, P, St, bt, rfl, W, st, hfp, hc, hQ⟩ := h2
 refine wpAny_bind (wpAny_newObj_type ?_)
 have hSf : s2.heap.objs.size ∉ fp := fun hm => Nat.lt_irrefl _ (hfp _ hm)
 rw [nm]
 refine wpAny_pure ⟨plainId_quiet F.plain_min_loop _, min_loop0 W bt hc s2.heap.objs.size hSf (W.frame _ _ _ st fun b _ o e => Heap.get?_push_of_some _ e) (Heap.get?_push_size _ rfl) fun v h' tk p1 p2 kk => ?_⟩
 exact hQ v h' tk p1 p2 fun b o n1 e => kk b o n1 (Nat.ne_of_lt (Heap.lt_size e)) (Heap.get?_push_of_some _ e)
end
section
variable {X : Cx}
def Ismin (m : Int) (ns : List Int) : Prop := m ∈ ns /\ ∀ x ∈ ns, m <= x
theorem ismin_of {ns : List Int} (hn : 0 < ns.length) : Ismin (ns.getD (argBest (fun i j => decide (ns.getD i 0 < ns.getD j 0)) (ns.length - 1)) 0) ns := by
 have hb := best_lt (fun i j => decide (ns.getD i 0 < ns.getD j 0)) (ns.length - 1)
 have at' : ∀ j, j < ns.length -> ns.getD j 0 = ns[j]! := fun j h => by simp [h]
 refine ⟨?_, fun x hx => ?_⟩
 ·have hl : argBest (fun i j => decide (ns.getD i 0 < ns.getD j 0)) (ns.length - 1) < ns.length := by omega
  generalize argBest (fun i j => decide (ns.getD i 0 < ns.getD j 0)) (ns.length - 1) = k at hl
  have : ns.getD k 0 = ns[k] := by simp [hl]
  rw [this]
  exact List.getElem_mem hl
 ·obtain ⟨j, hj, rfl⟩ := List.mem_iff_getElem.mp hx
  have h1 := best_ge (val := fun i => ns.getD i 0) (ns.length - 1) j (by omega)
  have h2 : ns.getD j 0 = ns[j] := by simp [hj]
  rw [<- h2]
  exact h1
theorem min_walkI {pins : List (Addr × Obj)} {σ : St} {H : Hp} {s : Shared} {k : Bool} {a : Addr} {ns : List Int} {E : Value -> Shared -> Prop} {d : Value} {Q : Value -> Shared -> Prop} (hc : X.calm = true) (I : Inv X pins σ H s) (hq : Sq k X.K H a (ns.map V.int))
  (h : ∀ h' tk v, (∀ b o, s.heap.get? b = some o -> h'.get? b = some o) -> (0 < ns.length -> ∃ m t, v = .int m t /\ Ismin m ns) -> (ns.length = 0 -> v = d) -> Q v { s with heap := h', toks := tk }) :
  wpAny (model X.prog X.w) X.A (call (.builtin "min") [.ref a] [(Str.ofString "default", d)]) Q E s := by
 have hh : X.A.in1.handled = none := I.ok.hd hc
 obtain ⟨its, rv, p, hz⟩ := I.sq hq
 have hl := rv.length
 rw [List.length_map] at hl
 have hlt := p.lt
 have fin : ∀ (h' : Heap) (tk : Nat) (v : Value), (∀ b o, s.heap.get? b = some o -> h'.get? b = some o) -> (0 < its.toArray.size -> its.toArray[argBest (fun i j => decide (ns.getD i 0 < ns.getD j 0)) (its.toArray.size - 1)]? = some v) -> (its.toArray.size = 0 -> v = d) -> Q v { s with heap := h', toks := tk } := fun h' tk v kk p1 p2 => by
  rw [List.size_toArray, <- hl] at p1 p2
  refine h h' tk v kk (fun hn => ?_) p2
  obtain ⟨t, e⟩ := vals_int_at rv _ v (p1 hn)
  exact ⟨_, t, e, ismin_of hn⟩
 have apart : ∀ b ∈ [s.heap.objs.size, a], b < s.heap.objs.size + 1 := fun b hb => by
  rcases List.mem_cons.mp hb with rfl | hb
  ·exact Nat.lt_succ_self _
  ·rcases List.mem_cons.mp hb with rfl | hb
   ·exact Nat.lt_succ_of_lt hlt
   ·cases hb
 cases k
 ·refine call_min_default (wpAny_pyIter_list p ⟨_, _, _, _, _, _, _, rfl, Walks.list (A := X.A.in1) hh _ a (Nat.ne_of_lt hlt) its.toArray, ⟨⟨_, Heap.get?_push_size _ rfl, rfl, rfl⟩, Heap.IsList.push p _⟩, fun b hb => ?_, CmpOf.ints_lt (fun i => ns.getD i 0) (vals_int_at rv), fun v h' tk p1 p2 kk => ?_⟩)
  ·show b < (s.heap.push _).objs.size
   rw [Heap.size_push]
   exact apart b hb
  ·exact fin h' tk v (fun b o e => kk b o (by simpa using Nat.ne_of_lt (Heap.lt_size e)) (Heap.get?_push_of_some _ e)) p1 p2
 ·refine call_min_default (wpAny_pyIter_tuple p ⟨_, _, _, _, _, _, _, rfl, Walks.tuple (A := X.A.in1) hh _ a (Nat.ne_of_lt hlt) its.toArray, ⟨⟨_, Heap.get?_push_size _ rfl, rfl, rfl⟩, Heap.IsTuple.push p _⟩, fun b hb => ?_, CmpOf.ints_lt (fun i => ns.getD i 0) (vals_int_at rv), fun v h' tk p1 p2 kk => ?_⟩)
  ·show b < (s.heap.push _).objs.size
   rw [Heap.size_push]
   exact apart b hb
  ·exact fin h' tk v (fun b o e => kk b o (by simpa using Nat.ne_of_lt (Heap.lt_size e)) (Heap.get?_push_of_some _ e)) p1 p2
def rminD (K : PySem.W.Frag) (k : Bool) (x d : V) (H : Hp) (Q : VK) : Prop := ∃ a ns, x = .ref a /\ Sq k K H a (ns.map V.int) /\ ∀ v, ((ns = [] /\ v = d) \/ ∃ m, v = .int m /\ Ismin m ns) -> Q v H
def tminD (K : PySem.W.Frag) (k : Bool) (te td : TE) : TE := fun σ H Q => te σ H fun x H1 => td σ H1 fun d H2 => rminD K k x d H2 Q
theorem pe_minD (k : Bool) {e dE : Expr} {te td : TE} {p kp pos : Pos} (hc : X.calm = true) (hg : Gl X "min") (hm : X.mg "min" = none) (he : PE X e te) (hd : PE X dE td)
  (hse : starEach [e] X.env = [(false, eval e X.env)] := by rfl) : PE X (.Call (.Name "min" p) [e] [⟨some "default", dE, kp⟩] pos) (tminD X.K k te td) := by
 intro pins s σ H Q I h
 refine wpAny_Call_Name_kw (ld_blt I hg hm boot_min ?_ (by decide) (by decide))
 refine callWith_kw (thn (pa_cons he pa_nil hse pos pins s σ H (fun vs H1 => match vs with | [x] => td σ H1 fun d H2 => rminD X.K k x d H2 Q | _ => False) I h) fun us s1 ⟨vs, H1, I1, r1, q1⟩ => ?_) (by rw [hse]; rfl) (by rw [hse]; rfl)
 match vs, r1, q1 with
 | [x], r1, q =>
  obtain ⟨u, rfl, ru⟩ := vals1 r1
  refine kws_cons (thn (hd pins s1 σ H1 _ I1 q) fun dv s2 ⟨d, H2, I2, r2, q2⟩ => kws_nil ?_)
  obtain ⟨a, ns, rfl, hq, q3⟩ := q2
  cases ru
  show wpAny _ _ (call (.builtin "min") [.ref a] [(Str.ofString "default", dv)]) _ _ _
  refine min_walkI hc I2 hq fun h' tk v kk p1 p2 => ?_
  by_cases hn : 0 < ns.length
  ·obtain ⟨m, t, rfl, hm⟩ := p1 hn
   exact ⟨.int m, H2, I2.kept kk, ⟨t, rfl⟩, q3 _ (.inr ⟨m, rfl, hm⟩)⟩
  ·have e0 : ns.length = 0 := by omega
   rw [p2 e0]
   exact ⟨d, H2, I2.kept kk, r2, q3 _ (.inl ⟨List.length_eq_zero_iff.mp e0, rfl⟩)⟩
end
end L2
namespace L2
open PySem PySem.Spec PyProof.Rows
theorem pg_tupC {X : Cx} {scope : Scope} {N : List Str} {C : Addr} {s : Shared} {H : Hp} {ex : List Addr} {es : List Expr} {k : Nat} {t : TGs} {pos : Pos} (n : Nat) (hc : X.calm = true) (h : PGs (cxC X scope N C s H ex) es t)
  (hn : (assignEach es (cxC X scope N C s H ex).env).length = n) (hst : (assignEach es (cxC X scope N C s H ex).env).findIdx? (·.1) = none) : PG (cxC X scope N C s H ex) (.Tuple es k pos) (gTup X.K n t) := pg_tup hc h hn hst
end L2
namespace L2
open PySem PySem.Spec PyProof.Rows
section
variable {κ : Type} [DecidableEq κ]
def valV (kvs : List (κ × V)) (k : κ) : Option V := (kvs.find? fun kv => decide (kv.1 = k)).map (·.2)
def putK (kvs : List (κ × V)) (k : κ) (v : V) : List (κ × V) :=
 if (kvs.any fun kv => decide (kv.1 = k)) = true then kvs.map (fun kv => if kv.1 = k then (kv.1, v) else kv) else kvs ++ [(k, v)]
theorem valV_pos {p : κ × V} {r : List (κ × V)} {k : κ} (e : p.1 = k) : valV (p :: r) k = some p.2 := by simp [valV, List.find?_cons, e]
theorem valV_neg {p : κ × V} {r : List (κ × V)} {k : κ} (e : ¬ p.1 = k) : valV (p :: r) k = valV r k := by simp [valV, List.find?_cons, e]
theorem valV_any (k : κ) : ∀ kvs : List (κ × V), (kvs.any fun kv => decide (kv.1 = k)) = (valV kvs k).isSome
 | [] => rfl
 | p :: r => by
  rw [List.any_cons]
  by_cases e : p.1 = k
  ·simp only [valV_pos e, decide_eq_true e, Bool.true_or, Option.isSome_some]
  ·rw [valV_neg e, decide_eq_false e, Bool.false_or]; exact valV_any k r
theorem length_putK (kvs : List (κ × V)) (k : κ) (v : V) : (putK kvs k v).length <= kvs.length + 1 := by
 unfold putK
 split
 ·rw [List.length_map]; omega
 ·rw [List.length_append, List.length_cons, List.length_nil]; omega
theorem putK_new {kvs : List (κ × V)} {k : κ} (v : V) (h : valV kvs k = none) : putK kvs k v = kvs ++ [(k, v)] := by
 unfold putK
 rw [valV_any, h]
 exact if_neg (by decide)
theorem RelO.isSome_eq {o : Option V} {u : Option Value} (r : RelO o u) : o.isSome = u.isSome := by
 cases o with
 | none => cases u with
  | none => rfl
  | some _ => exact (show False from r).elim
 | some _ => cases u with
  | none => exact (show False from r).elim
  | some _ => rfl
theorem KV.any {kvs : List (κ × V)} {vs : List (κ × Value)} (r : KV kvs vs) (k : κ) : (kvs.any fun kv => decide (kv.1 = k)) = vs.any fun kv => decide (kv.1 = k) := by
 unfold KV at r
 induction r with
 | nil => rfl
 | cons h t ih => rw [List.any_cons, List.any_cons, ih, h.1]
theorem KV.repl {kvs : List (κ × V)} {vs : List (κ × Value)} (r : KV kvs vs) (k : κ) {y : V} {u : Value} (ry : RelV y u) :
  KV (kvs.map fun kv => if kv.1 = k then (kv.1, y) else kv) (vs.map fun kv => if kv.1 = k then (kv.1, u) else kv) := by
 unfold KV at r ⊢
 induction r with
 | nil => exact .nil
 | @cons p q ps qs h t ih =>
  rw [List.map_cons, List.map_cons]
  refine .cons ?_ ih
  obtain ⟨h1, h2⟩ := h
  by_cases e : p.1 = k
  ·rw [if_pos e, if_pos (h1.symm.trans e)]; exact ⟨h1, ry⟩
  ·rw [if_neg e, if_neg (fun z => e (h1.trans z))]; exact ⟨h1, h2⟩
theorem KV.put {kvs : List (κ × V)} {vs : List (κ × Value)} (r : KV kvs vs) (k : κ) {y : V} {u : Value} (ry : RelV y u) : KV (putK kvs k y) (stored vs k u) := by
 unfold putK stored
 rw [r.any k]
 by_cases e : (vs.any fun kv => decide (kv.1 = k)) = true
 ·rw [if_pos e, if_pos e]; exact r.repl k ry
 ·rw [if_neg e, if_neg e]; exact Paired.snoc r ⟨rfl, ry⟩
theorem KV.length {kvs : List (κ × V)} {vs : List (κ × Value)} (r : KV kvs vs) : kvs.length = vs.length := Paired.length r
end
theorem kV_is {P : Program} {w : World} {k : Key} {u : Value} (r : RelV (kV k) u) : (mixKind P w).is k u = true := by
 cases k with
 | inl i => obtain ⟨t, e⟩ := (show ∃ t, u = Value.int i t from r); subst e; exact mixKind_int P w i t
 | inr x => obtain ⟨t, e⟩ := (show ∃ t, u = Value.str x t from r); subst e; exact mixKind_str P w x t
theorem items_are {P : Program} {w : World} : ∀ {ks : List Key} {us : List Value}, Vals (ks.map kV) us -> ItemsAre (mixKind P w) ks us
 | [], _, r => by rw [List.map_nil] at r; cases r; exact .nil
 | k :: ks, _, r => by
  rw [List.map_cons] at r
  cases r with
  | cons h t => exact .cons (kV_is h) (items_are t)
abbrev KT (H : Hp) : List (List Key × V) -> List (List Key × Addr × Value) -> Prop := Paired fun p q => p.1 = q.1 /\ H q.2.1 = some (.tup (p.1.map kV)) /\ RelV p.2 q.2.2
theorem KT.val {H : Hp} {kvs : List (List Key × V)} {xs : List (List Key × Addr × Value)} (r : KT H kvs xs) (k : List Key) : RelO (valV kvs k) ((atKey xs k).map (·.2)) := by
 induction r with
 | nil => exact True.intro
 | @cons p q ps qs h t ih =>
  obtain ⟨h1, _, h2⟩ := h
  by_cases e : p.1 = k
  ·have e' : q.1 = k := h1.symm.trans e
   have b : atKey (q :: qs) k = some q.2 := by simp [atKey, List.find?_cons, e']
   rw [valV_pos e, b]; exact h2
  ·have e' : ¬ q.1 = k := fun z => e (h1.trans z)
   have b : atKey (q :: qs) k = atKey qs k := by simp [atKey, List.find?_cons, e']
   rw [valV_neg e, b]; exact ih
theorem KT.repl {H : Hp} {kvs : List (List Key × V)} {xs : List (List Key × Addr × Value)} (r : KT H kvs xs) (k : List Key) {y : V} {u : Value} (ry : RelV y u) :
  KT H (kvs.map fun kv => if kv.1 = k then (kv.1, y) else kv) (xs.map (putAt k u)) := by
 induction r with
 | nil => exact .nil
 | @cons p q ps qs h t ih =>
  rw [List.map_cons, List.map_cons]
  refine .cons ?_ ih
  obtain ⟨h1, h2, h3⟩ := h
  unfold putAt
  by_cases e : p.1 = k
  ·rw [if_pos e, if_pos (h1.symm.trans e)]; exact ⟨h1, h2, ry⟩
  ·rw [if_neg e, if_neg (fun z => e (h1.trans z))]; exact ⟨h1, h2, h3⟩
theorem KT.put {H : Hp} {kvs : List (List Key × V)} {xs : List (List Key × Addr × Value)} (r : KT H kvs xs) (k : List Key) {b : Addr} {y : V} {u : Value} (hb : H b = some (.tup (k.map kV))) (ry : RelV y u) :
  KT H (putK kvs k y) (storedH xs k b u) := by
 have e : (kvs.any fun kv => decide (kv.1 = k)) = (atKey xs k).isSome := by
  rw [valV_any, (r.val k).isSome_eq, Option.isSome_map]
 unfold putK storedH
 rw [e]
 by_cases q : (atKey xs k).isSome = true
 ·rw [if_pos q, if_pos q]; exact r.repl k ry
 ·rw [if_neg q, if_neg q]; exact Paired.snoc r ⟨rfl, hb, ry⟩
theorem KT.keeps {H H' : Hp} {kvs : List (List Key × V)} {xs : List (List Key × Addr × Value)} (r : KT H kvs xs) (ht : ∀ b ys, H b = some (.tup ys) -> H' b = some (.tup ys)) : KT H' kvs xs :=
 Paired.mapP r fun _ _ z => ⟨z.1, ht _ _ z.2.1, z.2.2⟩
section
variable {P : Program} {w : World} {H : Hp} {h : Heap} {a : Addr}
theorem rd_of {u : HO} (ok : HOk P w H h) (e : Rd H a u) : ObjOk P w H h a u := e.ok ok
theorem dk_rd {kvs : List (Key × V)} (ok : HOk P w H h) (e : Rd H a (.dK kvs)) : kvs.length <= sizeLine /\ (a == sysModules) = false /\ ∃ vs, KV kvs vs /\ h.DictOf (mixKind P w) a vs :=
 show ObjOk P w H h a (.dK kvs) from rd_of ok e
theorem dk_of {kvs : List (Key × V)} (ok : HOk P w H h) (e : H a = some (.dK kvs)) : kvs.length <= sizeLine /\ (a == sysModules) = false /\ ∃ vs, KV kvs vs /\ h.DictOf (mixKind P w) a vs := dk_rd ok (.inl e)
theorem key_of {ks : List Key} (ok : HOk P w H h) (e : H a = some (.tup (ks.map kV))) : (tupleKind (mixKind P w)).is h ks a := by
 obtain ⟨_, its, r, ⟨o, h1, h2, n, h3⟩, _⟩ := (show ObjOk P w H h a (.tup (ks.map kV)) from ok a _ e)
 exact ⟨o, its.toArray, n, h1, h2, h3, by simpa using items_are r⟩
theorem dt_rd {kvs : List (List Key × V)} (ok : HOk P w H h) (e : Rd H a (.dT kvs)) : kvs.length <= sizeLine /\ (a == sysModules) = false /\
  ∃ xs, KT H kvs xs /\ h.DictOfH (tupleKind (mixKind P w)) a xs := by
 obtain ⟨z, y, xs, r, o, es, ep, h1, h2, h3, h4, h5⟩ := (show ObjOk P w H h a (.dT kvs) from rd_of ok e)
 refine ⟨z, y, xs, r, o, es, ep, h1, h2, h3, h4, fun x hx => ?_, h5⟩
 have all : ∀ {l : List (List Key × V)} {m : List (List Key × Addr × Value)}, KT H l m -> ∀ x ∈ m, (tupleKind (mixKind P w)).is h x.1 x.2.1 := by
  intro l m q
  induction q with
  | nil => intro x hx; exact nomatch hx
  | @cons p q ps qs hq t ih =>
   intro x hx
   rcases List.mem_cons.mp hx with e | hx
   ·subst e
    exact key_of ok (by rw [<- hq.1]; exact hq.2.1)
   ·exact ih x hx
 exact all r x hx
theorem dt_of {kvs : List (List Key × V)} (ok : HOk P w H h) (e : H a = some (.dT kvs)) : kvs.length <= sizeLine /\ (a == sysModules) = false /\
  ∃ xs, KT H kvs xs /\ h.DictOfH (tupleKind (mixKind P w)) a xs := dt_rd ok (.inl e)
end
def DPut (H : Hp) (a : Addr) (y v : V) (H' : Hp) : Prop :=
 (∃ kvs k, H a = some (.dK kvs) /\ y = kV k /\ kvs.length < sizeLine /\ H' = upd H a (.dK (putK kvs k v))) \/
 ∃ kvs k b, H a = some (.dT kvs) /\ y = .ref b /\ H b = some (.tup (k.map kV)) /\ kvs.length < sizeLine /\ H' = upd H a (.dT (putK kvs k v))
theorem DPut.k {H : Hp} {a : Addr} {kvs : List (Key × V)} {k : Key} {v : V} (e : H a = some (.dK kvs)) (hl : kvs.length < sizeLine) : DPut H a (kV k) v (upd H a (.dK (putK kvs k v))) := .inl ⟨kvs, k, e, rfl, hl, rfl⟩
section
variable {X : Cx} {pins : List (Addr × Obj)} {σ : St} {H : Hp} {s : Shared} {a : Addr} {y v : V} {u r : Value} {o : Option V} {A : Around} {E : Value -> Shared -> Prop}
theorem Inv.big (I : Inv X pins σ H s) : sysModules < s.heap.objs.size := by
 have h : mainGlobals < s.heap.objs.size := (I.mod.glob.keeps I.bk).lt
 exact Nat.lt_trans (by decide) h
theorem d_write {h' : Heap} {t' : Nat} {ob : HO} (I : Inv X pins σ H s) (mu : Mut (H a)) (hs : Heap.SameBut a s.heap h') (he : ∃ q, h'.get? a = some q) (new : ObjOk X.prog X.w (upd H a ob) h' a ob) :
  Inv X pins σ (upd H a ob) { s with heap := h', toks := t' } :=
 I.write (x := a) (e := a) mu (.inl rfl) (fun b q hb z => (hs.2 b hb).trans z) he new
theorem dk_new {P : Program} {w : World} {H' : Hp} {h' : Heap} {kvs : List (Key × V)} {vs : List (Key × Value)} (z : kvs.length <= sizeLine) (hd : (a == sysModules) = false) (rel : KV kvs vs) (dd : h'.DictOf (mixKind P w) a vs) :
  ObjOk P w H' h' a (.dK kvs) := ⟨z, hd, vs, rel, dd⟩
theorem d_setItem {H' : Hp} {Q : Unit -> Shared -> Prop} (hu : A.units + 1 < cLine) (I : Inv X pins σ H s) (g : DPut H a y v H') (ry : RelV y u) (rv : RelV v r) (h : ∀ s', Inv X pins σ H' s' -> Q () s') :
  wpAny (model X.prog X.w) A (setItem (.ref a) u r) Q E s := by
 rcases g with ⟨kvs, k, e, ey, l, eH⟩ | ⟨kvs, k, b, e, ey, eb, l, eH⟩
 ·subst ey eH
  obtain ⟨z, hd, vs, rel, dd⟩ := dk_of I.hok e
  have hz : vs.length <= sizeLine := by rw [<- rel.length]; exact z
  have hl : (putK kvs k v).length <= sizeLine := by have := length_putK kvs k v; omega
  refine wpAny_setItem_pairs (hsz := hz) (kV_is ry) dd fun h' dd' hs => h _ ?_
  have he : ∃ q, h'.get? a = some q := let ⟨q, _, _, hq, _⟩ := dd'; ⟨q, hq⟩
  exact d_write I (by rw [e]; exact True.intro) hs he (dk_new hl hd (rel.put k rv) dd')
 ·subst ey eH
  cases (show u = Value.ref b from ry)
  obtain ⟨z, hd, xs, rel, dd⟩ := dt_of I.hok e
  have hz : xs.length <= sizeLine := by rw [<- Paired.length rel]; exact z
  have hl : (putK kvs k v).length <= sizeLine := by have := length_putK kvs k v; omega
  refine wpAny_setItem_heap (hsz := hz) (tupleKind_room_in1 hu) (key_of I.hok eb) dd fun h' dd' hs => h _ ?_
  obtain ⟨q, es, ep, hq, h2, h3, h4, _, h5⟩ := dd'
  refine d_write I (by rw [e]; exact True.intro) hs ⟨q, hq⟩ ⟨hl, hd, _, (rel.put k eb rv).keeps fun c ys ec => ?_, q, es, ep, hq, h2, h3, h4, h5⟩
  rw [upd_ne (ne_of ec e (fun z => nomatch z))]
  exact ec
end
section
variable {X : Cx} {pins : List (Addr × Obj)} {σ : St} {H : Hp} {s : Shared} {a : Addr} {kvs : List (Key × V)} {k : Key} {u : Value} {A : Around} {E : Value -> Shared -> Prop}
end
def sDPut (td ty tv : TE) : TS := fun D σ H => tv σ H fun v H1 => td σ H1 fun x H2 => ty σ H2 fun y H3 => ∃ a H4, x = .ref a /\ DPut H3 a y v H4 /\ D.nx σ H4
section
variable {X : Cx} {o i e value : Expr} {pos pos' tpos : Pos} {td ty tv : TE}
theorem ps_dput (hu : X.A.units + 1 < cLine) (ho : PE X o td) (hi : PE X i ty) (hv : PE X value tv) (hs : swapsWith value (some (.Subscript o i pos')) pos.line X.env = pure false) :
  PS X (.Assign [.Subscript o i pos'] value pos) (sDPut td ty tv) := by
 intro pins s σ H D I h
 refine wpAny_Assign_Subscript (thn (hv pins s σ H _ I h) fun r s1 ⟨v, H1, I1, rv, q1⟩ => thn (ho pins s1 σ H1 _ I1 q1) fun u s2 ⟨x, H2, I2, rx, q2⟩ => thn (hi pins s2 σ H2 _ I2 q2) fun iv s3 ⟨y, H3, I3, ry, a, H4, ex, g, q3⟩ => ?_) hs
 subst ex
 obtain rfl : u = Value.ref a := rx
 exact d_setItem hu I3 g ry rv fun s4 I4 => ⟨σ, H4, I4, q3⟩
end
theorem dk_empty {P : Program} {w : World} {H : Hp} (h : Heap) (hb : sysModules < h.objs.size) : ObjOk P w H (h.push { cls := .type "dict", data := .dict #[] }) h.objs.size (.dK []) :=
 ⟨Nat.zero_le _, beq_eq_false_iff_ne.mpr (Ne.symm (Nat.ne_of_lt hb)), [], .nil, Heap.DictOf.new h⟩
def tDNewK : TE := fun _ H Q => ∀ p, H p = none -> Q (.ref p) (upd H p (.dK []))
section
variable {X : Cx} {pos : Pos}
theorem pe_dnewK : PE X (.Dict [] [] pos) tDNewK := fun pins s σ H Q I h =>
 wpAny_Dict_empty ⟨.ref s.heap.objs.size, _, I.laid (a := s.heap.objs.size) (o := .dK []) (t' := s.toks) (fun _ _ q => Heap.get?_push_of_some _ q) (Nat.le_refl _) (dk_empty s.heap I.big), rfl, h _ (I.hok.fresh (Nat.le_refl _))⟩
end
structure M1 (X : Cx) (o : Expr) (m : Str) (apos : Pos) (e : Expr) (cpos : Pos) : Prop where
 base : attributeBase o m X.env (eval o X.env) = eval o X.env
 few : ((backTo cpos (starEach [e] X.env)).all (fun x => !x.1) && (backToKw cpos (keywordEach [] X.env)).all (fun x => x.1.isSome)
  && decide (([e] : List Expr).length + ([] : List Keyword).length + (if ([] : List Keyword).isEmpty then 0 else 1) < 30)) = true
 line : (apos.endLine == cpos.line) = true
 trees : backTo cpos (starEach [e] X.env) = [(false, eval e X.env)]
structure M2 (X : Cx) (o : Expr) (m : Str) (apos : Pos) (e f : Expr) (cpos : Pos) : Prop where
 base : attributeBase o m X.env (eval o X.env) = eval o X.env
 few : ((backTo cpos (starEach [e, f] X.env)).all (fun x => !x.1) && (backToKw cpos (keywordEach [] X.env)).all (fun x => x.1.isSome)
  && decide (([e, f] : List Expr).length + ([] : List Keyword).length + (if ([] : List Keyword).isEmpty then 0 else 1) < 30)) = true
 line : (apos.endLine == cpos.line) = true
 trees : backTo cpos (starEach [e, f] X.env) = [(false, eval e X.env), (false, eval f X.env)]
section
variable {X : Cx} {pins : List (Addr × Obj)} {σ : St} {H : Hp} {s : Shared} {a : Addr} {y d : V} {u r : Value} {o : Option V} {A : Around} {E : Value -> Shared -> Prop}
end
section
variable {X : Cx} {o e f : Expr} {apos cpos : Pos} {td ty tx : TE}
end
section
variable {X : Cx} {pins : List (Addr × Obj)} {σ : St} {H : Hp} {s : Shared} {a : Addr} {kvs : List (Key × V)} {A : Around} {E : Value -> Shared -> Prop}
end
section
variable {X : Cx} {pins : List (Addr × Obj)} {σ : St} {H : Hp} {s : Shared} {a : Addr} {y : V} {u : Value} {A : Around} {E : Value -> Shared -> Prop}
end
end L2
namespace L2
open PySem PySem.Spec PyProof.Rows
section
variable {κ : Type} [DecidableEq κ]
theorem valV_not {kvs : List (κ × V)} {k : κ} (h : valV kvs k = none) : ¬ k ∈ kvs.map (·.1) := by
 intro m
 obtain ⟨p, hp, e⟩ := List.mem_map.mp m
 have q : (kvs.any fun kv => decide (kv.1 = k)) = true := List.any_eq_true.mpr ⟨p, hp, decide_eq_true e⟩
 rw [valV_any, h] at q
 exact absurd q (by simp)
theorem valV_in {kvs : List (κ × V)} {k : κ} {v : V} (h : valV kvs k = some v) : k ∈ kvs.map (·.1) := by
 have q : (kvs.any fun kv => decide (kv.1 = k)) = true := by
  rw [valV_any, h]
  all_goals rfl
 obtain ⟨p, hp, e⟩ := List.any_eq_true.mp q
 exact List.mem_map.mpr ⟨p, hp, of_decide_eq_true e⟩
end
end L2
namespace L2
open PySem PySem.Spec PyProof.Rows
theorem paired_of {α β : Type} {R : α -> β -> Prop} : ∀ {xs : List α} {ys : List β}, xs.length = ys.length -> (∀ (j : Nat) x y, xs[j]? = some x -> ys[j]? = some y -> R x y) -> Paired R xs ys
 | [], [], _, _ => .nil
 | x :: xs, y :: ys, hl, h => .cons (h 0 x y rfl rfl) (paired_of (by simpa using hl) fun j a b e1 e2 => h (j + 1) a b (by simpa using e1) (by simpa using e2))
theorem kv_keys {kvs : List (Key × V)} {vs : List (Key × Value)} (r : KV kvs vs) : vs.map (·.1) = kvs.map (·.1) := by
 unfold KV at r
 induction r with
 | nil => rfl
 | cons h _ ih => rw [List.map_cons, List.map_cons, ih, h.1]
section
variable {prog : Program} {w : World} {A : Around} {E : Value -> Shared -> Prop} {s : Shared}
theorem sorted_collected {x : Value} {ns : List Int} {b : Bool} {Q : Value -> Shared -> Prop} (h64 : ns.length < 64)
  (hc : ∀ (R : List Value -> Shared -> Prop), (∀ h' tk (vs : List Value), (∀ b o, s.heap.get? b = some o -> h'.get? b = some o) -> IntsAre vs ns -> R vs { s with heap := h', toks := tk }) -> wpAny (model prog w) A.in1 (collect x) R E s)
  (h : ∀ (out : List Value) (n : Nat) (h1 h' : Heap) (tk : Nat) (ns' : List Int), (∀ b o, s.heap.get? b = some o -> h1.get? b = some o) -> (∀ b o, h1.get? b = some o -> h'.get? b = some o) -> h'.get? h1.objs.size = some (seqObj "list" out.toArray n) -> IntsAre out ns' -> ns'.Perm ns -> Ordered b ns' -> Q (.ref h1.objs.size) { s with heap := h', toks := tk }) :
  wpAny (model prog w) A (call (.builtin "sorted") [x] [(Str.ofString "reverse", .bool b)]) Q E s := by
 refine call_function_entry_kw kind_sorted plain_sorted entry_sorted (args_sorted_rev _ _) ?_
 unfold Builtin.«sorted»
 refine wpAny_bind (m := checkCount "sorted" 1 1 _) (wpAny_pure ?_)
 refine wpAny_bind (hc _ fun h1 tk vs hk1 hI => ?_)
 have hlv : vs.length < 64 := by rw [<- hI.length] at h64; exact h64
 refine wpAny_bind (wpAny_newList ?_ (Nat.le_trans (Nat.le_of_lt hlv) (by decide)))
 have hoL : (h1.push (seqObj "list" vs.toArray 0)).get? h1.objs.size = some (seqObj "list" vs.toArray 0) := Heap.get?_push_size _ rfl
 refine wpAny_bind (wpAny_holding (wpAny_call_entry_kw slot_list_sort ⟨_, hoL, rfl⟩ entry_list_sort (list_sort_tree_rev hoL hI hlv fun out ns' a1 a2 a3 => ⟨_, rfl, ?_⟩) (args_list_sort_rev _ _)))
 obtain ⟨e, he⟩ := sortedHeap_at (vs := vs) (out := out) hoL
 refine wpAny_pure ⟨_, rfl, h out.toList e h1 _ tk ns' hk1 (fun b o hb => ?_) he a1 a2 a3⟩
 have hlt := Heap.lt_size hb
 rw [sortedHeap_old (Nat.ne_of_lt hlt) (by rw [Heap.size_push]; exact Nat.lt_succ_of_lt hlt)]
 exact Heap.get?_push_of_some _ hb
end
section
variable {X : Cx}
def rSortD (b : Bool) : V -> Hp -> VK -> Prop := fun x H Q => ∃ a kvs ns, x = .ref a /\ H a = some (.dK kvs) /\ kvs.map (·.1) = (ns : List Int).map Sum.inl /\ ns.length < 64 /\ ∀ ns' p, ns.Nodup -> ns'.Perm ns -> Ordered b ns' -> H p = none -> Q (.ref p) (upd H p (.lst (ns'.map V.int)))
def tSortD (b : Bool) (te : TE) : TE := fun σ H Q => te σ H fun x H1 => rSortD b x H1 Q
theorem pe_sortD {e : Expr} {te : TE} {b : Bool} {p kp cp pos : Pos} {j : Nat} (hcm : X.calm = true) (hg : Gl X "sorted") (hm : X.mg "sorted" = none) (he : PE X e te)
  (hse : starEach [e] X.env = [(false, eval e X.env)] := by rfl) : PE X (.Call (.Name "sorted" p) [e] [⟨some "reverse", .Constant (.bool b) j cp, kp⟩] pos) (tSortD b te) := by
 intro pins s σ H Q I h
 refine wpAny_Call_Name_kw (ld_blt I hg hm boot_sorted ?_ (by decide) (by decide))
 refine callWith_kw (thn (pa_cons he pa_nil hse pos pins s σ H (fun vs H1 => match vs with | [x] => rSortD b x H1 Q | _ => False) I h) fun us s1 ⟨vs, H1, I1, r1, q1⟩ => ?_) (by rw [hse]; rfl) (by rw [hse]; rfl)
 match vs, r1, q1 with
 | [x], r1, q =>
  obtain ⟨u, rfl, ru⟩ := vals1 r1
  refine kws_cons (Constant_bool (kws_nil ?_))
  obtain ⟨a, kvs, ns, rfl, hq, hks, hl, q⟩ := q
  cases ru
  show wpAny _ _ (call (.builtin "sorted") [.ref a] [(Str.ofString "reverse", .bool b)]) _ _ _
  have hh : X.A.in1.handled = none := I1.ok.hd hcm
  obtain ⟨hz, lo, ws, rel, o, es, ep, ho, hex, hd, hko, hpr, hnd⟩ := dk_of I1.hok hq
  have hkeys : ws.map (·.1) = ns.map Sum.inl := by rw [kv_keys rel, hks]
  have hlen : ws.length = ns.length := by
   have := congrArg List.length hkeys
   simpa using this
  have hdup : ns.Nodup := by
   rw [hkeys] at hnd
   exact (List.Pairwise.of_map (S := fun a b => a ≠ b) Sum.inl (fun a b h z => h (by rw [z])) hnd)
  refine sorted_collected hl (fun R hR => PySem.W.kdu_collect (A := X.A.in1) (PySem.W.kdl_dict (knd := mixKind X.prog X.w) (kvs := ws) (ep := ep) lo) hh ⟨o, es, ho, hex, hd, hko, hpr, hnd⟩ (by rw [hlen]; exact small64 hl) fun h' tk acc hk hacc => hR h' tk acc.toList hk ?_) fun out n h1 h' tk ns' k1 k2 e a1 a2 a3 => ?_
  ·have hla : acc.toList.length = ns.length := by rw [Array.length_toList, hacc.1, hlen]
   refine intsAre_of (paired_of (by rw [List.length_map, hla]) fun j x y e1 e2 => ?_)
   obtain ⟨z, hz, rfl⟩ := map_at e1
   obtain ⟨kk, xx, hkk, his⟩ := hacc.2 j y (by rw [<- Array.getElem?_toList]; exact e2)
   have e3 : (ws.map (·.1))[j]? = some kk := by rw [List.getElem?_map, hkk]; rfl
   rw [hkeys, List.getElem?_map, hz] at e3
   have e4 : Sum.inl z = kk := Option.some.inj e3
   subst e4
   rcases keyIs_shape (show keyIs (Sum.inl z) y = true from his) with ⟨i, t, e5, e6⟩ | ⟨i, t, e5, e6⟩
   ·cases e5
    exact ⟨t, e6⟩
   ·cases e5
  ·have hz' : (ns'.map V.int).length <= sizeLine := by rw [List.length_map, a2.length_eq]; exact small64 hl
   have I2 : Inv X pins σ H1 { s1 with heap := h1 } := I1.kept (t' := s1.toks) k1
   exact ⟨.ref _, _, I2.laid (t' := tk) k2 (Nat.le_refl _) (show ObjOk X.prog X.w _ _ _ (.lst (ns'.map V.int)) from ⟨hz', out, n, vals_ints a1, by simpa [seqObj] using e⟩), rfl, q ns' _ hdup a2 a3 (I2.hok.fresh (Nat.le_refl _))⟩
end
end L2
namespace L2
open PySem PySem.Spec PyProof.Rows
section
variable {X : Cx}
def rCatA (K : PySem.W.Frag) : R2 := fun x y H Q => ∃ a b xs ys, x = .ref a /\ y = .ref b /\ SqT K H a xs /\ SqT K H b ys /\ xs.length + ys.length <= sizeLine /\
 (xs = [] -> Q (.ref b) H) /\ (xs ≠ [] -> ys = [] -> Q (.ref a) H) /\ (xs ≠ [] -> ys ≠ [] -> ∀ p, H p = none -> Q (.ref p) (upd H p (.tup (xs ++ ys))))
theorem op_catA : OpR X (binaryOp .Add) (rCatA X.K) := by
 intro pins s σ H x y v u Q I rx ry h
 obtain ⟨a, b, xs, ys, rfl, rfl, ha, hb, hz, q0, q1, q2⟩ := h
 by_cases hx : xs = []
 ·cases rx
  cases ry
  obtain ⟨its, r1, p1, _⟩ := I.tuple ha
  obtain ⟨its2, r2, p2, _⟩ := I.tuple hb
  obtain ⟨⟨cls, dd, data, sl⟩, ho, hc, n, hd⟩ := id p1
  obtain ⟨⟨cls2, dd2, data2, sl2⟩, ho2, hc2, n2, hd2⟩ := id p2
  simp only at hc hd hc2 hd2
  subst hc hd hc2 hd2
  have e0 : its.toArray.isEmpty = true := by
   have := r1.nil_iff.mpr hx
   simp [this]
  exact concat_meets ⟨_, ho, rfl⟩ ⟨_, ho2, rfl⟩ noFill_tuple_add seq_tuple_add PySem.F.slot_tuple_add PySem.F.entry_tuple_add (PySem.F.args_tuple_add_2 _ _)
   (tuple_addW0 a b its.toArray its2.toArray n n2 dd dd2 sl sl2 e0) ⟨ho, ho2, ⟨.ref b, H, I, rfl, q0 hx⟩⟩
 ·exact op_catT pins s σ H (.ref a) (.ref b) v u Q I rx ry ⟨a, b, xs, ys, rfl, rfl, ha, hb, hx, hz, q1 hx, q2 hx⟩
def tRng1 (ta : TA) : TE := fun σ H Q => ta σ H fun vs H1 => ∃ j : Int, vs = [.int j] /\ ∀ p, H1 p = none -> Q (.ref p) (upd H1 p (.rng 0 j))
theorem pe_rng1 {a : Expr} {ta : TA} {p pos : Pos} (hg : Gl X "range") (hm : X.mg "range" = none) (ha : PA X [a] ta) (hs : starEach [a] X.env = [(false, eval a X.env)] := by rfl) : PE X (.Call (.Name "range" p) [a] [] pos) (tRng1 ta) := by
 intro pins s σ H Q I h
 refine Call_ (ld_blt I hg hm boot_range (PyProof.Rows.callWith_type1 (thn (ha pos pins s σ H _ I h) fun us s1 ⟨vs, H1, I1, r1, q1⟩ => ?_) hs rfl))
 obtain ⟨j, e, q⟩ := q1
 subst e
 cases r1 with
 | cons r rr =>
  cases rr
  obtain ⟨t, rfl⟩ := r
  refine call_range_1 ?_
  exact ⟨.ref _, _, I1.laid (o := .rng 0 j) (fun b o e => Heap.get?_push_of_some _ e) (Nat.le_refl _) ⟨_, _, _, Heap.get?_push_size _ rfl⟩, rfl, q _ (I1.hok.fresh (Nat.le_refl _))⟩
theorem call_list_rng (hc : X.calm = true) : CallR X (.type "list") (fun xs H Q => ∃ (p : Addr) (hi : Int), xs = [.ref p] /\ H p = some (.rng 0 hi) /\ 0 <= hi /\ hi <= 100000 /\ ∀ l, H l = none -> Q (.ref l) (upd H l (.lst (((List.range hi.toNat).map fun (k : Nat) => (k : Int)).map V.int)))) := by
 intro pins s σ H xs us Q I r h
 obtain ⟨p, hi, rfl, hq, h0, h1, q⟩ := h
 obtain ⟨u, rfl, ru⟩ := vals1 r
 cases ru
 obtain ⟨t1, t2, t3, e⟩ := I.hok p _ hq
 have hn : Builtin.Range.rangeSize 0 hi 1 = ((hi.toNat : Nat) : Int) := by rw [rangeSize_one]; split <;> omega
 refine call_list_range (I.ok.hd hc) e (small_one (by decide) (by decide) (by omega) (by omega)) hn (by omega) fun h' tk acc c kk hS hacc => ?_
 refine ⟨.ref _, _, I.laid (t' := tk) (o := .lst (((List.range hi.toNat).map fun (k : Nat) => (k : Int)).map V.int)) kk (Nat.le_refl _) ⟨?_, acc.toList, c, paired_of ?_ (fun j x y e1 e2 => ?_), by simpa using hS⟩, rfl, q _ (I.hok.fresh (Nat.le_refl _))⟩
 ·rw [List.length_map, List.length_map, List.length_range]
  have : (100000 : Nat) <= sizeLine := by decide
  omega
 ·rw [List.length_map, List.length_map, List.length_range, Array.length_toList, hacc.1]
 ·obtain ⟨z, hz, rfl⟩ := map_at e1
  obtain ⟨tk, rfl⟩ := hacc.2 j y (by rw [<- Array.getElem?_toList]; exact e2)
  rw [List.getElem?_map] at hz
  cases hr : (List.range hi.toNat)[j]? with
  | none => rw [hr] at hz; cases hz
  | some k =>
   rw [hr] at hz
   have ek : j = k := by
    obtain ⟨h1, h2⟩ := List.getElem?_eq_some_iff.mp hr
    rw [List.getElem_range] at h2
    exact h2
   have : (k : Int) = z := Option.some.inj hz
   refine ⟨tk, ?_⟩
   rw [<- this, <- ek]
   simp
end
end L2
namespace L2
def cntG (ns : List Int) (k : Int) : Nat := (ns.filter fun x => decide (k <= x)).length
def turn (ns : List Int) : List Int := (List.range (ns.headD 0).toNat).map fun (k : Nat) => ((cntG ns ((k : Int) + 1) : Nat) : Int)
end L2
namespace L2
open PySem PySem.Spec PyProof.Rows
def Tups (H H' : Hp) : Prop := ∀ b xs, H b = some (.tup xs) -> H' b = some (.tup xs)
theorem Tups.refl (H : Hp) : Tups H H := fun _ _ h => h
theorem Tups.trans {H H1 H2 : Hp} (a : Tups H H1) (b : Tups H1 H2) : Tups H H2 := fun c xs h => b c xs (a c xs h)
theorem Same.tups {H H' : Hp} (h : Same H H') : Tups H H' := fun b xs e => h b _ e
theorem Keep.tups {H H' : Hp} {st ga ca : Addr} {N : Nat} (K : Keep [st, ga] H H') (S : StAt H st ga ca N) : Tups H H' := fun b xs e => K b _ e (fun z => by
 obtain ⟨gs, cs, q, n, h1, h2, _⟩ := S.ex
 simp only [List.mem_cons, List.not_mem_nil, or_false] at z
 rcases z with rfl | rfl
 ·rw [h1] at e; cases e
 ·rw [h2] at e; cases e)
theorem Tups.set {H : Hp} {l : Addr} {xs : List V} {o : HO} (h : H l = some (.lst xs)) : Tups H (upd H l o) := fun b ys e => by
 rw [upd_ne (ne_of e h (by intro z; cases z))]; exact e
def Tup1 (hs : List Int) (v : V) (H : Hp) : Prop := ∃ q, v = .ref q /\ H q = some (.tup (hs.map V.int))
theorem Tup1.mv {H H' : Hp} {hs : List Int} {v : V} (t : Tups H H') (h : Tup1 hs v H) : Tup1 hs v H' := let ⟨q, e, h⟩ := h; ⟨q, e, t _ _ h⟩
theorem All2.mv {H H' : Hp} {ls : List (List Int)} {xs : List V} (t : Tups H H') (h : All2 Tup1 H ls xs) : All2 Tup1 H' ls xs := h.imp fun _ _ z => z.mv t
theorem All2.at {α : Type} {R : α -> V -> Hp -> Prop} {H : Hp} : ∀ {l : List α} {xs : List V} {i : Nat} {a : α}, All2 R H l xs -> l[i]? = some a -> ∃ x, xs[i]? = some x /\ R a x H
 | _, _, _, _, .nil, e => by simp at e
 | _, _, 0, _, .cons r _, e => by simp at e; subst e; exact ⟨_, rfl, r⟩
 | _, _, i + 1, a, .cons _ t, e => by
  obtain ⟨u, h1, h2⟩ := All2.at (i := i) (a := a) t (by simpa using e)
  exact ⟨u, by simpa using h1, h2⟩
theorem All2.snoc {α : Type} {R : α -> V -> Hp -> Prop} {H : Hp} {l : List α} {xs : List V} {a : α} {x : V} (h : All2 R H l xs) (r : R a x H) : All2 R H (l ++ [a]) (xs ++ [x]) := h.append (.cons r .nil)
theorem All2.take {α : Type} {R : α -> V -> Hp -> Prop} {H : Hp} : ∀ {l : List α} {xs : List V} (n : Nat), All2 R H l xs -> All2 R H (l.take n) (xs.take n)
 | _, _, 0, _ => .nil
 | _, _, _ + 1, .nil => .nil
 | _, _, n + 1, .cons r t => .cons r (t.take n)
def maxC : List (List Int) -> Int -> Nat
 | [], _ => 0
 | h :: r, x => max (h.count x) (maxC r x)
def IsJoin (ls : List (List Int)) (ms : List Int) : Prop := ms.Pairwise (· >= ·) /\ ∀ x, ms.count x = maxC ls x
theorem IsJoin.uniq {ls : List (List Int)} {a b : List Int} (h1 : IsJoin ls a) (h2 : IsJoin ls b) : a = b :=
 perm_ge_eq h1.1 h2.1 (List.perm_iff_count.mpr fun x => by rw [h1.2, h2.2])
theorem maxC_append (a b : List (List Int)) (x : Int) : maxC (a ++ b) x = max (maxC a x) (maxC b x) := by
 induction a with
 | nil => simp [maxC]
 | cons h r ih => rw [List.cons_append, maxC, ih, maxC]; omega
theorem maxC_le {ls : List (List Int)} {x : Int} {B : Nat} (h : ∀ l ∈ ls, l.count x <= B) : maxC ls x <= B := by
 induction ls with
 | nil => exact Nat.zero_le _
 | cons a r ih =>
  have h1 := h a (by simp)
  have h2 := ih fun l hl => h l (by simp [hl])
  rw [maxC]; omega
theorem le_maxC {ls : List (List Int)} {x : Int} {l : List Int} (h : l ∈ ls) : l.count x <= maxC ls x := by
 induction ls with
 | nil => cases h
 | cons a r ih =>
  rw [maxC]
  rcases List.mem_cons.mp h with rfl | h
  ·omega
  ·have := ih h; omega
theorem maxC_flat (ls : List (List Int)) (x : Int) : maxC ls x <= ls.flatten.count x := by
 induction ls with
 | nil => exact Nat.zero_le _
 | cons a r ih => rw [maxC, List.flatten_cons, List.count_append]; omega
theorem maxC_zero {ls : List (List Int)} {x : Int} (h : x ∉ ls.flatten) : maxC ls x = 0 := by
 have := maxC_flat ls x
 rw [List.count_eq_zero_of_not_mem h] at this
 omega
theorem max_of_counts {ls : List (List Int)} {x m : Int} (h : Ismax m (ls.map fun l => ((l.count x : Nat) : Int))) : m = ((maxC ls x : Nat) : Int) := by
 obtain ⟨h1, h2⟩ := h
 obtain ⟨l, hl, rfl⟩ := List.mem_map.mp h1
 have a := le_maxC (x := x) hl
 have b : maxC ls x <= l.count x := maxC_le fun k hk => by
  have := h2 _ (List.mem_map.mpr ⟨k, hk, rfl⟩)
  omega
 omega
def blow (f : Int -> Nat) : List Int -> List Int
 | [] => []
 | u :: r => List.replicate (f u) u ++ blow f r
theorem blow_append (f : Int -> Nat) (a b : List Int) : blow f (a ++ b) = blow f a ++ blow f b := by
 induction a with
 | nil => rfl
 | cons u r ih => rw [List.cons_append, blow, ih, blow, List.append_assoc]
theorem blow_mem {f : Int -> Nat} {us : List Int} {x : Int} (h : x ∈ blow f us) : x ∈ us := by
 induction us with
 | nil => exact h
 | cons u r ih =>
  rcases List.mem_append.mp h with h | h
  ·rw [List.eq_of_mem_replicate h]; simp
  ·simp [ih h]
theorem blow_count {f : Int -> Nat} {us : List Int} (hn : us.Nodup) (x : Int) : (blow f us).count x = if x ∈ us then f x else 0 := by
 induction us with
 | nil => rfl
 | cons u r ih =>
  obtain ⟨h1, h2⟩ := List.nodup_cons.mp hn
  rw [blow, List.count_append, ih h2, List.count_replicate]
  by_cases e : u = x
  ·subst e; simp [h1]
  ·have e' : ¬ x = u := fun z => e z.symm
   simp [e, e', List.mem_cons]
theorem blow_pw {f : Int -> Nat} {us : List Int} (h : us.Pairwise (· >= ·)) : (blow f us).Pairwise (· >= ·) := by
 induction us with
 | nil => exact .nil
 | cons u r ih =>
  obtain ⟨h1, h2⟩ := List.pairwise_cons.mp h
  refine List.pairwise_append.mpr ⟨?_, ih h2, fun a ha b hb => ?_⟩
  ·exact List.pairwise_replicate.mpr (Or.inr (Int.le_refl _))
  ·rw [List.eq_of_mem_replicate ha]
   exact h1 _ (blow_mem hb)
theorem blow_join {ls : List (List Int)} {us : List Int} (hn : us.Nodup) (hp : us.Pairwise (· >= ·)) (hm : ∀ x, x ∈ us ↔ x ∈ ls.flatten) : IsJoin ls (blow (maxC ls) us) := by
 refine ⟨blow_pw hp, fun x => ?_⟩
 rw [blow_count hn]
 by_cases h : x ∈ us
 ·rw [if_pos h]
 ·rw [if_neg h, maxC_zero fun z => h ((hm x).mpr z)]
def chG (ns : List Int) : List (List Int) := ns.foldl (fun cs n => cs ++ cs.map (· ++ [n])) [[]]
theorem chG_snoc (ns : List Int) (n : Int) : chG (ns ++ [n]) = chG ns ++ (chG ns).map (· ++ [n]) := by
 unfold chG; rw [List.foldl_append]; rfl
theorem chG_len : ∀ (k : Nat) (ns : List Int), ns.length = k -> (chG ns).length = 2 ^ k
 | 0, ns, h => by rw [List.length_eq_zero_iff.mp h]; rfl
 | k + 1, ns, h => by
  have hne : ns ≠ [] := fun z => by rw [z] at h; cases h
  have e := (List.dropLast_concat_getLast hne).symm
  rw [e, chG_snoc, List.length_append, List.length_map, chG_len k ns.dropLast (by rw [List.length_dropLast]; omega), Nat.pow_succ]
  omega
theorem chG_mem : ∀ (k : Nat) (ns : List Int), ns.length = k -> ∀ c ∈ chG ns, c.length <= k /\ ∀ x ∈ c, x ∈ ns
 | 0, ns, h, c, hc => by
  rw [List.length_eq_zero_iff.mp h] at hc
  have : c = [] := by simpa [chG] using hc
  rw [this]
  exact ⟨Nat.le_refl _, fun x hx => nomatch hx⟩
 | k + 1, ns, h, c, hc => by
  have hne : ns ≠ [] := fun z => by rw [z] at h; cases h
  have e := (List.dropLast_concat_getLast hne).symm
  rw [e, chG_snoc] at hc
  have ih := chG_mem k ns.dropLast (by rw [List.length_dropLast]; omega)
  rcases List.mem_append.mp hc with hc | hc
  ·obtain ⟨a, b⟩ := ih c hc
   exact ⟨by omega, fun x hx => (List.dropLast_sublist ns).subset (b x hx)⟩
  ·obtain ⟨d, hd, rfl⟩ := List.mem_map.mp hc
   obtain ⟨a, b⟩ := ih d hd
   refine ⟨by simp; omega, fun x hx => ?_⟩
   rcases List.mem_append.mp hx with hx | hx
   ·exact (List.dropLast_sublist ns).subset (b x hx)
   ·have : x = ns.getLast hne := by simpa using hx
    rw [this]; exact List.getLast_mem hne
theorem putK_keys {κ : Type} [DecidableEq κ] {kvs : List (κ × V)} {k : κ} {v w : V} (h : valV kvs k = some v) : (putK kvs k w).map (·.1) = kvs.map (·.1) := by
 unfold putK
 rw [if_pos (by rw [valV_any, h]; rfl), List.map_map]
 refine List.map_congr_left fun x _ => ?_
 show (if x.1 = k then (x.1, w) else x).1 = x.1
 split <;> rfl
end L2
namespace L2
open PySem PySem.Spec PyProof.Rows
section
variable {X : Cx}
theorem OpR.kk {f : Value -> Value -> Sem Value} (K0 : PySem.W.Frag) (r : PySem.W.Frag -> R2) (ho : OpR X f (r X.K)) (h : X.K = K0) : OpR X f (r K0) := by subst h; exact ho
theorem IxR.kk (K0 : PySem.W.Frag) (r : PySem.W.Frag -> R2) (ho : IxR X (r X.K)) (h : X.K = K0) : IxR X (r K0) := by subst h; exact ho
theorem CallR.kk {f : Value} (K0 : PySem.W.Frag) (r : PySem.W.Frag -> List V -> Hp -> VK -> Prop) (ho : CallR X f (r X.K)) (h : X.K = K0) : CallR X f (r K0) := by subst h; exact ho
theorem MtR.kk {id : String} (K0 : PySem.W.Frag) (r : PySem.W.Frag -> V -> List V -> Hp -> VK -> Prop) (ho : MtR X id (r X.K)) (h : X.K = K0) : MtR X id (r K0) := by subst h; exact ho
theorem PE.kk {e : Expr} (K0 : PySem.W.Frag) (t : PySem.W.Frag -> TE) (ho : PE X e (t X.K)) (h : X.K = K0) : PE X e (t K0) := by subst h; exact ho
theorem op_catAK (K0 : PySem.W.Frag) (h : X.K = K0) : OpR X (binaryOp .Add) (rCatA K0) := OpR.kk K0 rCatA op_catA h
theorem ix_tupK (K0 : PySem.W.Frag) (h : X.K = K0) : IxR X (rIxT K0) := IxR.kk K0 rIxT ix_tup h
theorem mt_countTK (K0 : PySem.W.Frag) (h : X.K = K0) : MtR X "tuple.count" (rCount K0 SqT) := MtR.kk K0 (fun K => rCount K SqT) mt_countT h
variable {o e : Expr} {es : List Expr} {to : TE} {t : TA} {name : Str} {apos cpos : Pos} {T id : String} {r : V -> List V -> Hp -> VK -> Prop}
theorem pe_bmK (K0 : PySem.W.Frag) (h : X.K = K0) (pa : PlainAttrs T) (slot : Slot T name id) (hty : typeOf (.builtin id) = pure (.type "method_descriptor")) (hm : MtR X id r) (ho : PE X o to) (ha : PA X (e :: es) t)
  (hbase : attributeBase o name X.env (eval o X.env) = eval o X.env := by rfl)
  (hfew : ((backTo cpos (starEach (e :: es) X.env)).all (fun x => !x.1) && (backToKw cpos (keywordEach [] X.env)).all (fun x => x.1.isSome) && decide ((e :: es).length + ([] : List Keyword).length + (if ([] : List Keyword).isEmpty then 0 else 1) < 30)) = true := by rfl)
  (hline : (apos.endLine == cpos.line) = true := by rfl) (hs : starEach (e :: es) X.env = (false, eval e X.env) :: starEach es X.env := by rfl) (hplain : (backTo cpos (starEach es X.env)).any (·.1) = false := by rfl) : PE X (.Call (.Attribute o name apos) (e :: es) [] cpos) (tBM K0 T r to t) := by
 subst h
 exact pe_bm pa slot hty hm ho ha hbase hfew hline hs hplain
theorem pt_truthK {a : Expr} {ta : TE} (K0 : PySem.W.Frag) (h : X.K = K0) (ha : PE X a ta) (he : ∀ whole, isTrue a X.env whole = (do let v <- whole; standAt a.pos; holding [v] (truthy v))) : PT X a (fun σ H Q => ta σ H fun x H' => ∃ k, TruV K0 x H' k /\ Q k H') := by
 subst h
 exact pt_truth ha he
def rTupOf (K : PySem.W.Frag) : List V -> Hp -> VK -> Prop := fun xs H Q => ∃ p ys, xs = [.ref p] /\ ((SqL K H p ys /\ ∀ l, H l = none -> Q (.ref l) (upd H l (.tup ys))) \/ (SqT K H p ys /\ Q (.ref p) H))
theorem call_tuple_ofK (K0 : PySem.W.Frag) (h : X.K = K0) : CallR X (.type "tuple") (rTupOf K0) := CallR.kk K0 rTupOf call_tuple_of h
end
end L2
namespace L2
open PySem PySem.Spec PyProof.Rows
def upto (n : Nat) : List Int := (List.range n).map fun (k : Nat) => (k : Int)
theorem upto_len (n : Nat) : (upto n).length = n := by unfold upto; simp
theorem upto_mem {n : Nat} {x : Int} (h : x ∈ upto n) : 0 <= x /\ x < n := by
 unfold upto at h
 obtain ⟨k, hk, rfl⟩ := List.mem_map.mp h
 rw [List.mem_range] at hk
 omega
theorem cat_one {K : PySem.W.Frag} {H : Hp} {q : Addr} {hs : List Int} {z : Int} {t : Addr} {Q : V -> Hp -> Prop} (hq : H q = some (.tup (hs.map V.int))) (ht : H t = some (.tup [V.int z])) (hl : hs.length <= 60)
  (k : ∀ (v : V) (H' : Hp), Tup1 (hs ++ [z]) v H' -> Same H H' -> Q v H') : rCatA K (.ref q) (.ref t) H Q := by
 refine ⟨q, t, _, _, rfl, rfl, SqT.of hq, SqT.of ht, ?_, fun e => ?_, fun _ e => ?_, fun _ _ p hp => ?_⟩
 ·rw [List.length_map]
  exact Nat.le_trans (m := 61) (by simp; omega) (by decide)
 ·have : hs = [] := List.map_eq_nil_iff.mp e
  subst this
  exact k _ _ ⟨t, rfl, ht⟩ (fun _ _ h => h)
 ·cases e
 ·exact k _ _ ⟨p, rfl, by rw [upd_same, List.map_append]; rfl⟩ (Same.new hp)
def pickG (rule : List (List Int)) (ch : List Int) : List (List Int) := ch.map fun j => rule.getD j.toNat []
theorem pick_at {H : Hp} {rule : List (List Int)} {rs : List V} (h2 : All2 Tup1 H rule rs) {j : Int} (h0 : 0 <= j) (h1 : j < rule.length) : ∃ v, atI rs j = some v /\ Tup1 (rule.getD j.toNat []) v H := by
 obtain ⟨n, rfl⟩ : ∃ n : Nat, j = (n : Int) := ⟨j.toNat, by omega⟩
 have hn : n < rule.length := by omega
 obtain ⟨x, hx, r⟩ := h2.at (List.getElem?_eq_getElem hn)
 refine ⟨x, atI_nat hx, ?_⟩
 have : rule.getD (n : Int).toNat [] = rule[n] := by simp [hn]
 rw [this]
 exact r
theorem flat_le {B : Nat} : ∀ {ls : List (List Int)}, (∀ l ∈ ls, l.length <= B) -> ls.flatten.length <= B * ls.length
 | [], _ => Nat.zero_le _
 | l :: r, h => by
  have h1 := h l (by simp)
  have h2 := flat_le (ls := r) fun m hm => h m (by simp [hm])
  rw [List.flatten_cons, List.length_append, List.length_cons, Nat.mul_succ]
  omega
theorem cat_front {K : PySem.W.Frag} {H : Hp} {q : Addr} {hs : List Int} {z : Int} {t : Addr} {Q : V -> Hp -> Prop} (hq : H q = some (.tup (hs.map V.int))) (ht : H t = some (.tup [V.int z])) (hl : hs.length <= 100)
  (k : ∀ (v : V) (H' : Hp), Tup1 (z :: hs) v H' -> Same H H' -> Q v H') : rCatA K (.ref t) (.ref q) H Q := by
 refine ⟨t, q, _, _, rfl, rfl, SqT.of ht, SqT.of hq, ?_, (fun e => by cases e), fun _ e => ?_, fun _ _ p hp => ?_⟩
 ·rw [List.length_map]
  exact Nat.le_trans (m := 101) (by simp; omega) (by decide)
 ·have : hs = [] := List.map_eq_nil_iff.mp e
  subst this
  exact k _ _ ⟨t, rfl, ht⟩ (fun _ _ h => h)
 ·exact k _ _ ⟨p, rfl, by rw [upd_same]; rfl⟩ (Same.new hp)
theorem filter_take {α : Type} (p : α -> Bool) {l : List α} {i : Nat} {x : α} (h : l[i]? = some x) : (l.take (i + 1)).filter p = (l.take i).filter p ++ if p x = true then [x] else [] := by
 obtain ⟨hi, e⟩ := List.getElem?_eq_some_iff.mp h
 rw [List.take_succ_eq_append_getElem hi, List.filter_append, e]
 by_cases c : p x = true
 ·rw [List.filter_cons, if_pos c, if_pos c]; rfl
 ·rw [List.filter_cons, if_neg c, if_neg c]; rfl
theorem joinStep {M c t h : Nat} (hc : c = max M (min h (M + t))) (ht : t + 1 <= h) (hlt : c < h) : c + 1 = max M (min h (M + (t + 1))) := by omega
theorem joinStay {M c t h : Nat} (hc : c = max M (min h (M + t))) (ht : t + 1 <= h) (hlt : ¬ c < h) : c = max M (min h (M + (t + 1))) := by omega
end L2
namespace L2
open PySem PySem.Spec PyProof.Rows
open AutoSeq1 (wpAny_loadPart')
theorem drawsS {prog : Program} {w : World} {A : Around} (hh : A.handled = none) (k : Bool) (it l : Addr) (hne : l ≠ it) (items : Array Value) :
  Draws prog w A it [it, l] items.size (fun i v => items[i]? = some v) (fun i h => IterAt k h it l i /\ SeqIs k h l items) where
 live := fun _ _ st => let ⟨o, ho, _⟩ := st.1; ⟨o, ho⟩
 frame := fun _ _ _ st hk => ⟨st.1.kept fun o e => hk it (by simp) o e, st.2.kept fun o e => hk l (by simp) o e⟩
 item := fun i s Q E hi st hQ => nextS st.1 st.2 (x := items[i]) (by simp [hi]) fun h' a b => hQ _ h' s.toks (by simp [hi]) ⟨a, st.2.kept fun o e => b.extBut _ _ hne e⟩ b
 done := fun s Q E st hE => endS hh st.1 st.2 (by simp) hE
def eH1 (k : Bool) (h : Heap) (l : Addr) : Heap := h.push { cls := .type (itName k), data := .fields #[.ref l, .int 0 0] }
def eH2 (k : Bool) (h : Heap) (l : Addr) : Heap := (eH1 k h l).push { cls := .type "enumerate", data := .fields #[.none, .bool false, .ref h.objs.size, rawInt 0, .none, .none] }
set_option maxHeartbeats 1000000 in
theorem enum_tup_meets (l : Addr) (items : Array Value) (n : Nat) (dct : Option Addr) (sl : Array (Option Value)) :
  Meets (Builtin.«enumerate.__new__» ⟨[.type "enumerate", .ref l], []⟩) (fun _ R s => s.heap.get? l = some { cls := .type "tuple", dict := dct, data := .seq items n, slots := sl } /\ R (.ok (.ret (.ref (eH1 true s.heap l).objs.size))) { s with heap := eH2 true s.heap l }) :=
 .of_wp fun prog w A R s h => by
  obtain ⟨hp, g, d, tk, os⟩ := s
  obtain ⟨hl, h⟩ := h
  have hsub := sub_enumerate
  have hL : Heap.IsTuple (Shared.heap ⟨hp, g, d, tk, os⟩) l items := ⟨_, hl, rfl, n, rfl⟩
  wp_walk using wpAny_loadPart' hl
  refine wpAny_stack_any fun st => wpAny_pure ?_
  split
  ·rename_i c _ _ _ _ _
   cases (c == Value.type "enumerate")
   all_goals (wp_walk using wpAny_loadPart' hl, wpAny_pyIter_tuple hL; exact ⟨_, rfl, h⟩)
  ·wp_walk using wpAny_loadPart' hl, wpAny_pyIter_tuple hL
   exact ⟨_, rfl, h⟩
section
variable {prog : Program} {w : World} {A : Around} {E : Value -> Shared -> Prop} {s : Shared}
theorem call_enumS {k : Bool} {l : Addr} {items : Array Value} {Q : Value -> Shared -> Prop} (hL : SeqIs k s.heap l items)
  (h : ∀ h', IsEnum h' (s.heap.objs.size + 1) s.heap.objs.size 0 .none -> IterAt k h' s.heap.objs.size l 0 -> (∀ b o, s.heap.get? b = some o -> h'.get? b = some o) -> Q (.ref (s.heap.objs.size + 1)) { s with heap := h' }) :
  wpAny (model prog w) A (call (.type "enumerate") [.ref l]) Q E s := by
 cases k
 ·exact call_enumerate_list hL fun h' a b _ c => h h' a b c
 ·obtain ⟨⟨c, dct, dt, sl⟩, hl, hc, n, hd⟩ := hL
  replace hc : c = .type "tuple" := hc
  replace hd : dt = .seq items n := hd
  subst hc hd
  refine callType_new F.called_enumerate (by decide) (F.typeCall_enumerate_1 _) (F.newCall_enumerate_1 _) (fun obj => F.args_object_init_2 obj _) F.entry_enumerate_new (enum_tup_meets l items n dct sl) ⟨hl, ?_⟩
  have n1 : (eH1 true s.heap l).objs.size = s.heap.objs.size + 1 := Heap.size_push ..
  have f2 : (eH2 true s.heap l).get? (eH1 true s.heap l).objs.size = some _ := Heap.get?_push_size _ rfl
  have f1 : (eH2 true s.heap l).get? s.heap.objs.size = some _ := Heap.get?_push_of_some _ (Heap.get?_push_size _ rfl)
  show _ /\ _
  rw [n1] at f2 ⊢
  exact ⟨⟨_, f2, rfl⟩, h _ f2 ⟨_, f1, rfl, rfl⟩ fun b o e => Heap.get?_push_of_some _ (Heap.get?_push_of_some _ e)⟩
end
def Ite (K : PySem.W.Frag) (k : Bool) (a : Addr) : It :=
 ⟨fun i H => ∃ xs x, Sq k K H a xs /\ xs[i]? = some x,
  fun i H v H' => ∃ T x, H T = none /\ v = .ref T /\ H' = upd H T (.tup [.int i, x]) /\ ∀ xs, Sq k K H a xs -> xs[i]? = some x,
  fun i H => ∃ xs, Sq k K H a xs /\ xs.length = i⟩
theorem turn_enum {P : Program} {w : World} {K : PySem.W.Frag} {elts : List Expr} {x1 : Nat} {pos : Pos} (k : Bool) (a e it : Addr) (hei : e ≠ it) (hai : a ≠ it) (hae : a ≠ e) :
  Turn P w K (.Tuple elts x1 pos) (Ite K k a) [e, it] e (fun i h => (∃ old, IsEnum h e it i old) /\ IterAt k h it a i) where
 mem := by simp
 obj := fun i h st c hc => by
  obtain ⟨⟨old, g0⟩, ⟨o1, e1, _, d1⟩⟩ := st
  simp only [List.mem_cons, List.not_mem_nil, or_false] at hc
  rcases hc with rfl | rfl
  ·exact ⟨_, g0, fun v q => by cases q⟩
  ·exact ⟨_, e1, fun v q => by rw [d1] at q; cases q⟩
 keep := fun i h h' st f => by
  obtain ⟨⟨old, g0⟩, g1⟩ := st
  exact ⟨⟨old, f e (by simp) _ g0⟩, g1.kept (f it (by simp))⟩
 item := by
  intro X hP hw hK hc i pins s σ H E I hf st hg
  subst hP hw hK
  obtain ⟨xs, x, hq, hx⟩ := hg
  obtain ⟨us, rv, p, _⟩ := I.sq hq
  obtain ⟨u, hu, ru⟩ := rv.get hx
  obtain ⟨⟨old, g0⟩, g1⟩ := st
  have hlt : i < us.toArray.size := by
   have := (List.getElem?_eq_some_iff.mp hu).1
   simpa using this
  have hh : X.A.in1.handled = none := I.ok.hd hc
  refine wpAny_pyNext_enum_itemD (drawsS hh k it a hai us.toArray) g0 ⟨g1, p⟩ hlt hei (by simp [hei, Ne.symm hae]) fun y h' tk hy ho hst hT _ kk => ⟨_, rfl, ?_⟩
  have ey : y = u := by
   have : us.toArray[i]? = some u := by simpa using hu
   rw [this] at hy
   exact (Option.some.inj hy).symm
  subst ey
  refine wpAny_letOwnedTupleGo_enum (s := { s with heap := h', toks := tk + 1 }) ho fun h2 he2 sb => ?_
  have up : ∀ c o, c ≠ e -> h'.get? c = some o -> h2.get? c = some o := fun c o n q => (sb.2 c n).trans q
  have lt : e < s.heap.objs.size := Heap.lt_size g0
  have tp : IsPair h2 s.heap.objs.size (.int i tk) y := up _ _ (Nat.ne_of_gt lt) hT
  have I1 : Inv X pins σ (upd H s.heap.objs.size (.tup [.int i, x])) { s with heap := h2, toks := tk + 1 } := I.turnedN (t' := tk + 1) (ch := [e, it]) hf (fun c o n q => up c o (fun z => n (by simp [z])) (kk c o (fun z => n (by simp [z])) (fun z => n (by simp [z])) q)) (Nat.le_refl _) (pair_ok ⟨tk, rfl⟩ ru tp)
  refine ⟨.ref s.heap.objs.size, _, I1, rfl, ⟨_, x, I.hok.fresh (Nat.le_refl _), rfl, rfl, fun xs' h => by rw [I.sq_inj h hq]; exact hx⟩, ⟨⟨y, by simpa using he2⟩, hst.1.kept fun o q => up _ _ (Ne.symm hei) q⟩, fun c hc => ?_⟩
  have hlt2 : c < s.heap.objs.size := by
   simp only [List.mem_cons, List.not_mem_nil, or_false] at hc
   rcases hc with rfl | rfl
   ·exact lt
   ·exact g1.lt
  rw [upd_ne (Nat.ne_of_lt hlt2)]
  exact (hf c hc).1
 done := by
  intro X hP hw hK hc i pins s σ H E I hf st hg
  subst hP hw hK
  obtain ⟨xs, hq, hl⟩ := hg
  obtain ⟨us, rv, p, _⟩ := I.sq hq
  obtain ⟨⟨old, g0⟩, g1⟩ := st
  have hh : X.A.in1.handled = none := I.ok.hd hc
  have e1 : i = us.toArray.size := by
   have := rv.length
   rw [<- hl, this]; simp
  rw [e1] at g1
  exact wpAny_pyNext_enum_endD (drawsS hh k it a hai us.toArray) g0 ⟨g1, p⟩ fun h' kk => ⟨rfl, I.turnedL (t' := s.toks) (ch := [e, it]) hf fun c o n q => kk c o (fun z => n (by simp [z])) q⟩
 self := fun _ _ _ _ _ st h => by
  obtain ⟨⟨old, g0⟩, _⟩ := st
  exact wpAny_pyIter_enum g0 h
section
variable {X : Cx} {elts : List Expr} {x1 : Nat} {tpos : Pos}
def iEnum (K : PySem.W.Frag) (k : Bool) (ta : TA) : TI := fun σ H R => ta σ H fun vs H1 => ∃ a, vs = [.ref a] /\ (∃ xs, Sq k K H1 a xs) /\ R (Ite K k a) H1
theorem pi_enum (k : Bool) {a : Expr} {ta : TA} {p pos : Pos} (hg : Gl X "enumerate") (hm : X.mg "enumerate" = none) (ha : PA X [a] ta) (hs : starEach [a] X.env = [(false, eval a X.env)] := by rfl) : PI X (.Tuple elts x1 tpos) (.Call (.Name "enumerate" p) [a] [] pos) (iEnum X.K k ta) := by
 intro pins s σ H R I h
 refine Call_ (ld_blt I hg hm boot_enumerate (PyProof.Rows.callWith_type1 (thn (ha pos pins s σ H _ I h) fun us s1 ⟨vs, H1, I1, r1, q1⟩ => ?_) hs rfl))
 obtain ⟨a, e, ⟨xs, hq⟩, q⟩ := q1
 subst e
 cases r1 with
 | cons r rr =>
  cases rr
  cases r
  obtain ⟨us, rv, p, _⟩ := I1.sq hq
  have hlt := p.lt
  refine call_enumS p fun h' g0 g1 kk => ?_
  have I2 : Inv X pins σ H1 { s1 with heap := h' } := I1.kept (t' := s1.toks) kk
  refine wpAny_pyIter_enum (s := { s1 with heap := h' }) g0 ⟨_, [s1.heap.objs.size + 1, s1.heap.objs.size], _, _, H1, rfl, I2, turn_enum k a _ _ (Nat.succ_ne_self _) (Nat.ne_of_lt hlt) (Nat.ne_of_lt (Nat.lt_succ_of_lt hlt)), ⟨⟨_, g0⟩, g1⟩, fun c hc => ?_, q⟩
  have hle : s1.heap.objs.size <= c := by
   have hc' : c = s1.heap.objs.size + 1 \/ c = s1.heap.objs.size := by simpa using hc
   rcases hc' with e | e <;> rw [e] <;> first | exact Nat.le_refl _ | exact Nat.le_add_right _ _
  exact I1.fpOk hle (I1.hok.fresh hle)
end
theorem comp_enum {K : PySem.W.Frag} {k : Bool} {a : Addr} {xs : List V} {g : TG} {tf : TT} {te : TE} {σ : St} {H : Hp} {Q : VK} (Pv : Nat -> List V -> St -> Hp -> Prop) (h0 : Pv 0 [] σ H)
  (hl : ∀ i zs σ H, i <= xs.length -> Pv i zs σ H -> Sq k K H a xs /\ zs.length <= sizeLine)
  (hs : ∀ i x zs σ H T, xs[i]? = some x -> Pv i zs σ H -> H T = none -> g (.ref T) σ (upd H T (.tup [.int i, x])) fun σ2 H2 => tf σ2 H2 fun b H3 => if b = true then te σ2 H3 fun v H4 => Pv (i + 1) (zs ++ [v]) σ2 H4 else Pv (i + 1) zs σ2 H3)
  (hd : ∀ zs σ H, Pv xs.length zs σ H -> ∀ p, H p = none -> Q (.ref p) (upd H p (.lst zs))) : tCompK g tf te σ (Ite K k a) H Q := by
 refine ⟨fun i m zs σ H => m = xs.length - i /\ i <= xs.length /\ Pv i zs σ H, ⟨_, (Nat.sub_zero _).symm, Nat.zero_le _, h0⟩, ?_⟩
 rintro i m zs σ H ⟨rfl, hi, p⟩
 obtain ⟨q1, hz⟩ := hl i zs σ H hi p
 by_cases hlt : i < xs.length
 ·refine .inr ⟨⟨xs, xs[i], q1, by simp [hlt]⟩, hz, Pv (i + 1), fun ys' σ' H' p' => ⟨xs.length - (i + 1), by omega, rfl, hlt, p'⟩, fun x H' y => ?_⟩
  obtain ⟨T, u, hT, rfl, rfl, e1⟩ := y
  exact hs i u zs σ H T (e1 xs q1) p hT
 ·have e : i = xs.length := by omega
  rw [e] at p
  exact .inl ⟨⟨xs, q1, e.symm⟩, hz, hd zs σ H p⟩
end L2
namespace L2
open PySem PySem.Spec PyProof.Rows PySem.W
end L2
namespace L2
open PySem PySem.Spec PyProof.Rows
def Itd (n : Nat) : It := ⟨fun i _ => i < n, fun i H x H' => H' = H /\ x = .int ((n : Int) - i), fun i _ => n <= i⟩
theorem turn_down {P : Program} {w : World} {K : PySem.W.Frag} {tg : Expr} (it : Addr) (n : Nat) : Turn P w K tg (Itd n) [it] it (fun i h => IsRangeIter h it ((n : Int) + (i : Nat) * (-1)) ((n : Int) - (i : Nat)) (-1)) where
 mem := by simp
 obj := fun i h st b hb => by
  have e : b = it := by simpa using hb
  subst e
  exact ⟨_, st, fun v z => by
   have z' : Data.fields _ = Data.cell v := z
   cases z'⟩
 keep := fun i h h' st k => k it (by simp) _ st
 item := by
  intro X hP hw hK hc i pins s σ H E I hf st hg
  subst hP hw hK
  obtain ⟨f0, f1, f2, f3, f4, f5⟩ := hf it (by simp)
  have W := Walks.range (prog := X.prog) (w := X.w) (I.ok.hd hc) it (n : Int) (-1) n
  refine W.item i s _ _ hg st fun v h' tk hv st' kk => ?_
  obtain ⟨t, rfl⟩ := hv
  have I1 : Inv X pins σ H { s with heap := h', toks := tk } := I.turned (fun b o hb e => kk b o (by simpa using hb) e) f0 f1 f3 f4 f5
  refine ⟨_, rfl, go_of (s := { s with heap := h', toks := tk }) (n := "range_iterator") st' rfl rfl (by decide) ⟨.int ((n : Int) - i), H, I1, ⟨t, ?_⟩, ⟨rfl, rfl⟩, st', fun b hb => (hf b hb).1⟩⟩
  have : (n : Int) + (i : Int) * (-1) = (n : Int) - i := by omega
  rw [this]
 done := by
  intro X hP hw hK hc i pins s σ H E I hf st hg
  subst hP hw hK
  obtain ⟨f0, f1, f2, f3, f4, f5⟩ := hf it (by simp)
  exact wpAny_pyNext_range_end (I.ok.hd hc) st (by have : n <= i := hg; omega) fun h' eb => ⟨rfl, I.turned (t' := s.toks) (fun b o hb e => eb b o hb e) f0 f1 f3 f4 f5⟩
 self := fun _ _ _ _ _ st h => wpAny_pyIter_rangeiter st h
section
variable {X : Cx} {tg : Expr}
theorem size_down (n : Nat) : Builtin.Range.rangeSize (n : Int) 0 (-1) = (n : Int) := by
 unfold Builtin.Range.rangeSize
 rw [if_neg (by decide)]
 have e : ((-(-1 : Int))) = 1 := by decide
 split
 ·rw [e, Int.ediv_one]; omega
 ·omega
theorem small_down {n : Nat} (h : n <= 100000) : Builtin.Range.small (n : Int) 0 (-1) = true := by
 unfold Builtin.Range.small
 rw [size_down]
 simp only [Builtin.Range.rangeFitsLong, Bool.and_eq_true, Bool.or_eq_true, decide_eq_true_eq, beq_iff_eq, show ¬ ((-1 : Int) > 0) by decide, if_false]
 omega
def iDown (ta : TA) : TI := fun σ H R => ta σ H fun vs H1 => ∃ n : Nat, vs = [.int n, .int 0, .int (-1)] /\ n <= 100000 /\ R (Itd n) H1
theorem pi_down {a b c : Expr} {ta : TA} {p pos : Pos} (hg : Gl X "range") (hm : X.mg "range" = none) (ha : PA X [a, b, c] ta) (hs : starEach [a, b, c] X.env = (false, eval a X.env) :: starEach [b, c] X.env := by rfl) (hs2 : (backTo pos (starEach [b, c] X.env)).any (·.1) = false := by rfl) :
  PI X tg (.Call (.Name "range" p) [a, b, c] [] pos) (iDown ta) := by
 intro pins s σ H R I h
 refine Call_ (ld_blt I hg hm boot_range (PyProof.Rows.callWith_type1 (thn (ha pos pins s σ H _ I h) fun us s1 ⟨vs, H1, I1, r1, q1⟩ => ?_) hs hs2))
 obtain ⟨n, e, hn, q⟩ := q1
 subst e
 cases r1 with
 | cons r rr =>
  cases rr with
  | cons r' rr =>
   cases rr with
   | cons r'' rr =>
    cases rr
    obtain ⟨t, rfl⟩ := r
    obtain ⟨t', rfl⟩ := r'
    obtain ⟨t'', rfl⟩ := r''
    refine call_range_3 (by decide) ?_ (.inl (PyProof.noPylong_small (by decide)))
    refine wpAny_pyIter_range (s := { s1 with heap := s1.heap.push { cls := .type "range", data := .fields #[.int n t, .int 0 t', .int (-1) t''] } }) (Heap.get?_push_size _ rfl) (small_down hn) ?_
    have I2 : Inv X pins σ H1 { s1 with heap := s1.heap.push { cls := .type "range", data := .fields #[.int n t, .int 0 t', .int (-1) t''] } } := I1.kept (t' := s1.toks) fun b o e => Heap.get?_push_of_some _ e
    refine ⟨_, [(s1.heap.push { cls := .type "range", data := .fields #[.int n t, .int 0 t', .int (-1) t''] }).objs.size], _, _, H1, rfl, I2.kept (t' := s1.toks) fun b o e => Heap.get?_push_of_some _ e, turn_down _ n, ?_, fun b hb => ?_, q⟩
    ·show IsRangeIter _ _ ((n : Int) + ((0 : Nat) : Int) * (-1)) ((n : Int) - ((0 : Nat) : Int)) (-1)
     have e1 : (n : Int) + ((0 : Nat) : Int) * (-1) = n := by simp
     have e2 : (n : Int) - ((0 : Nat) : Int) = Builtin.Range.rangeSize (n : Int) 0 (-1) := by rw [size_down]; simp
     rw [e1, e2]
     exact Heap.get?_push_size _ rfl
    ·have e : b = (s1.heap.push { cls := .type "range", data := .fields #[.int n t, .int 0 t', .int (-1) t''] }).objs.size := by simpa using hb
     subst e
     exact I2.fpOk (Nat.le_refl _) (I2.hok.fresh (Nat.le_refl _))
end
theorem for_down {n : Nat} {g : TG} {tb : TS} {D : Ends} {σ : St} {H : Hp} (Pv : Nat -> St -> Hp -> Prop) (h0 : Pv 0 σ H)
  (hs : ∀ i σ H, i < n -> Pv i σ H -> g (.int ((n : Int) - i)) σ H fun σ2 H2 => tb { D with nx := Pv (i + 1), ct := Pv (i + 1), bk := D.nx } σ2 H2) (hd : ∀ σ H, Pv n σ H -> D.nx σ H) :
  ∃ W : Nat -> Nat -> St -> Hp -> Prop, (∃ m, W 0 m σ H) /\ ∀ i m σ H, W i m σ H ->
   ((Itd n).stop i H /\ D.nx σ H) \/ ((Itd n).go i H /\ ∃ N : St -> Hp -> Prop, (∀ σ' H', N σ' H' -> ∃ m', m' < m /\ W (i + 1) m' σ' H') /\ ∀ x H', (Itd n).yld i H x H' -> g x σ H' fun σ2 H2 => tb { D with nx := N, ct := N, bk := D.nx } σ2 H2) := by
 refine ⟨fun i m σ H => m = n - i /\ i <= n /\ Pv i σ H, ⟨n, by simp, Nat.zero_le _, h0⟩, ?_⟩
 rintro i m σ H ⟨rfl, hi, p⟩
 by_cases hlt : i < n
 ·refine .inr ⟨hlt, Pv (i + 1), fun σ' H' p' => ⟨n - (i + 1), by omega, rfl, hlt, p'⟩, fun x H' y => ?_⟩
  obtain ⟨e, y⟩ := y
  subst e y
  exact hs i σ _ hlt p
 ·have e : i = n := by omega
  subst e
  exact .inl ⟨Nat.le_refl _, hd σ H p⟩
theorem FnOk.none {P : Program} {w : World} {K : PySem.W.Frag} {mg : Str -> Option Value} {base : Heap} {CX : CXT} {k : Nat} {f : Addr} {fd : FuncData} {ps : List Str} {sp : Sp} {cm : Bool} (h : ∀ vs H Q E, ¬ sp vs H Q E) : FnOk P w K mg base CX k f fd ps sp cm :=
 ⟨fun vs H Q E z => absurd z (h vs H Q E), fun A outer s H args us vs Q E hr he hb hv hs => absurd hs (h _ _ _ _)⟩
end L2
namespace L2
open PySem PySem.Spec PyProof.Rows
def partF : Nat -> Nat -> Nat -> List (List Int)
 | 0, _, _ => []
 | f + 1, n, g => if n = 0 then [[]] else (List.range (min n g)).flatMap fun i => (partF f (n - (min n g - i)) (min n g - i)).map (((min n g - i : Nat) : Int) :: ·)
def partP (f n k i : Nat) : List (List Int) := (List.range i).flatMap fun i => (partF f (n - (k - i)) (k - i)).map (((k - i : Nat) : Int) :: ·)
theorem partF_succ (f n g : Nat) : partF (f + 1) n g = if n = 0 then [[]] else partP f n (min n g) (min n g) := rfl
theorem partP_succ (f n k i : Nat) : partP f n k (i + 1) = partP f n k i ++ (partF f (n - (k - i)) (k - i)).map (((k - i : Nat) : Int) :: ·) := by
 unfold partP
 rw [List.range_succ, List.flatMap_append]
 simp
theorem partP_len {f : Nat} (ih : ∀ n g, (partF f n g).length <= 2 ^ n) {n k : Nat} (hk : k <= n) : ∀ i, i <= k -> (partP f n k i).length <= 2 ^ (n - k + i)
 | 0, _ => by simp [partP]
 | i + 1, hi => by
  have h1 := partP_len ih hk i (by omega)
  rw [partP_succ, List.length_append, List.length_map]
  have h2 := ih (n - (k - i)) (k - i)
  have e : n - (k - i) = n - k + i := by omega
  rw [e] at h2
  have e2 : n - k + (i + 1) = (n - k + i) + 1 := by omega
  rw [e2, Nat.pow_succ]
  rw [e]
  omega
theorem partF_len : ∀ f n g, (partF f n g).length <= 2 ^ n
 | 0, n, g => Nat.zero_le _
 | f + 1, n, g => by
  rw [partF_succ]
  split
  ·rename_i h; rw [h]; exact Nat.le_refl _
  ·have := partP_len (partF_len f) (n := n) (k := min n g) (Nat.min_le_left _ _) (min n g) (Nat.le_refl _)
   have e : n - min n g + min n g = n := by omega
   rw [e] at this
   exact this
theorem partF_mem : ∀ f n g, ∀ h ∈ partF f n g, h.length <= n
 | 0, n, g, h, hh => nomatch hh
 | f + 1, n, g, h, hh => by
  rw [partF_succ] at hh
  split at hh
  ·have : h = [] := by simpa using hh
   rw [this]; exact Nat.zero_le _
  ·unfold partP at hh
   obtain ⟨i, hi, hh⟩ := List.mem_flatMap.mp hh
   rw [List.mem_range] at hi
   obtain ⟨r, hr, rfl⟩ := List.mem_map.mp hh
   have := partF_mem f _ _ r hr
   rw [List.length_cons]
   omega
def idxP (rule : List (List Int)) (hs : List Int) (i : Nat) : List Int := ((List.range i).filter fun i => lies (rule.getD i []) hs).map fun (k : Nat) => (k : Int)
def idxG (rule : List (List Int)) (hs : List Int) : List Int := idxP rule hs rule.length
theorem idxP_succ (rule : List (List Int)) (hs : List Int) (i : Nat) : idxP rule hs (i + 1) = idxP rule hs i ++ if lies (rule.getD i []) hs = true then [(i : Int)] else [] := by
 unfold idxP
 rw [List.range_succ, List.filter_append, List.map_append]
 by_cases h : lies (rule.getD i []) hs = true
 ·rw [List.filter_cons, if_pos h, if_pos h]; rfl
 ·rw [List.filter_cons, if_neg h, if_neg h]; rfl
theorem idxP_len (rule : List (List Int)) (hs : List Int) (i : Nat) : (idxP rule hs i).length <= i := by
 unfold idxP
 rw [List.length_map]
 exact Nat.le_trans (List.length_filter_le _ _) (by simp)
theorem idxP_lt {rule : List (List Int)} {hs : List Int} {i : Nat} {x : Int} (h : x ∈ idxP rule hs i) : 0 <= x /\ x < i /\ lies (rule.getD x.toNat []) hs = true := by
 unfold idxP at h
 obtain ⟨k, hk, rfl⟩ := List.mem_map.mp h
 obtain ⟨h1, h2⟩ := List.mem_filter.mp hk
 rw [List.mem_range] at h1
 refine ⟨by omega, by omega, ?_⟩
 simpa using h2
def firstG (rule : List (List Int)) (hs : List Int) : Option Int := (idxG rule hs).head?
def optV : Option Int -> V
 | none => .non
 | some i => .int i
theorem idxP_head (rule : List (List Int)) (hs : List Int) : ∀ i m, Ismin m (idxP rule hs i) -> (idxP rule hs i).head? = some m
 | 0, m, h => nomatch h.1
 | i + 1, m, h => by
  rw [idxP_succ] at h ⊢
  cases e : idxP rule hs i with
  | nil =>
   rw [e] at h
   by_cases c : lies (rule.getD i []) hs = true
   ·rw [if_pos c] at h ⊢
    have : m = (i : Int) := by simpa using h.1
    rw [this]; rfl
   ·rw [if_neg c] at h
    exact nomatch h.1
  | cons y ys =>
   have ih := idxP_head rule hs i
   rw [e] at ih h
   show some y = some m
   have hy : y ∈ idxP rule hs i := by rw [e]; simp
   have hmem : m ∈ y :: ys := by
    rcases List.mem_append.mp h.1 with z | z
    ·exact z
    ·by_cases c : lies (rule.getD i []) hs = true
     ·rw [if_pos c] at z
      have e1 : m = (i : Int) := by simpa using z
      have := h.2 y (by simp)
      have := (idxP_lt hy).2.1
      omega
     ·rw [if_neg c] at z
      exact nomatch z
   exact ih m ⟨hmem, fun x hx => h.2 x (by rcases List.mem_cons.mp hx with z | z <;> simp [z])⟩
theorem first_none {rule : List (List Int)} {hs : List Int} (h : idxP rule hs rule.length = []) : firstG rule hs = none := by unfold firstG idxG; rw [h]; rfl
theorem first_some {rule : List (List Int)} {hs : List Int} {i : Nat} (h : idxP rule hs i = []) (hi : i < rule.length) (c : lies (rule.getD i []) hs = true) : firstG rule hs = some (i : Int) := by
 have step : ∀ d, (idxP rule hs (i + 1 + d)).head? = some (i : Int) := by
  intro d
  induction d with
  | zero => rw [Nat.add_zero, idxP_succ, h, if_pos c]; rfl
  | succ d ih =>
   rw [<- Nat.add_assoc, idxP_succ]
   cases e : idxP rule hs (i + 1 + d) with
   | nil => rw [e] at ih; cases ih
   | cons y ys => rw [e] at ih; exact ih
 have := step (rule.length - (i + 1))
 rw [show i + 1 + (rule.length - (i + 1)) = rule.length by omega] at this
 exact this
def keptG (rule : List (List Int)) (n : Nat) : List (List Int) := (partF 26 n n).filter fun h => (firstG rule h).isNone
theorem pow24 {n : Nat} (h : n <= 24) : 2 ^ n <= sizeLine := Nat.le_trans (Nat.pow_le_pow_right (by decide) h) (by decide)
theorem optV_none (o : Option Int) : decide (optV o = V.non) = o.isNone := by
 cases o with
 | none => rfl
 | some i => exact decide_eq_false (by intro z; cases z)
end L2
namespace L2
open PySem PySem.Spec PyProof.Rows
def Pair1 (pc : List Int × List Int) (v : V) (H : Hp) : Prop := ∃ q a b, v = .ref q /\ H q = some (.tup [.ref a, .ref b]) /\ H a = some (.tup (pc.1.map V.int)) /\ H b = some (.tup (pc.2.map V.int))
end L2
namespace L2
open PySem PySem.Spec PyProof.Rows
end L2
namespace L2
open PySem PySem.Spec PyProof.Rows
theorem slice_tail {K : PySem.W.Frag} {H : Hp} {p : Addr} {hs : List Int} {Q : VK} (hp : H p = some (.tup (hs.map V.int))) (k : ∀ q H', H' q = some (.tup (hs.tail.map V.int)) -> Same H H' -> Q (.ref q) H') : rSlTA K (.ref p) (some 1) none H Q := by
 have e1 : ∀ n d : Nat, HT.sIx n d (some 1) = min 1 n := fun n d => HT.sIx_nat n d 1
 cases hs with
 | nil => exact .inl ⟨p, [], rfl, SqT.of hp, ⟨rfl, rfl⟩, k p H hp fun _ _ z => z⟩
 | cons x r =>
  refine .inr ⟨p, _, rfl, SqT.of hp, ?_, fun q hq => k q _ ?_ (Same.new hq)⟩
  ·rintro ⟨z, _⟩
   rw [e1] at z
   simp at z
  ·rw [upd_same]
   unfold cutV
   rw [e1, HT.sIx_none]
   simp [List.take_of_length_le]
theorem partF_ne : ∀ (f n g : Nat), n < f -> (n = 0 \/ 1 <= g) -> ∃ h, h ∈ partF f n g
 | 0, n, g, h, _ => absurd h (Nat.not_lt_zero _)
 | f + 1, n, g, h, hg => by
  rw [partF_succ]
  by_cases h0 : n = 0
  ·rw [if_pos h0]
   exact ⟨[], by simp⟩
  ·rw [if_neg h0]
   have hk : 1 <= min n g := by omega
   obtain ⟨r, hr⟩ := partF_ne f (n - 1) 1 (by omega) (.inr (Nat.le_refl _))
   refine ⟨((1 : Nat) : Int) :: r, ?_⟩
   unfold partP
   refine List.mem_flatMap.mpr ⟨min n g - 1, List.mem_range.mpr (by omega), ?_⟩
   rw [show min n g - (min n g - 1) = 1 by omega]
   exact List.mem_map.mpr ⟨r, hr, rfl⟩
end L2
namespace L2
open PySem PySem.Spec PyProof.Rows
end L2
namespace L2
open PySem PySem.Spec PyProof.Rows
def sgnG (c : List Int) : Int := if c.length % 2 = 0 then 1 else -1
def isCh (n : Nat) : Int -> List Int -> Bool
 | _, [] => true
 | l, x :: r => if x < l \/ (n : Int) <= x then false else isCh n (x + 1) r
def isPairG (rule : List (List Int)) (pc : List Int × List Int) : Bool := isCh rule.length 0 pc.2 && pc.2.all (fun j => lies (rule.getD j.toNat []) pc.1)
def partnerG (rule : List (List Int)) (pc : List Int × List Int) : Option (List Int × List Int) := match firstG rule pc.1 with
 | none => none
 | some m => if m ∈ pc.2 then some (pc.1, pc.2.tail) else some (pc.1, m :: pc.2)
theorem isCh_mem {n : Nat} : ∀ {l : Int} {c : List Int}, isCh n l c = true -> ∀ x ∈ c, l <= x /\ x < n
 | _, [], _, _, h => by cases h
 | l, y :: r, e, x, h => by
  rw [isCh] at e
  by_cases c : y < l \/ (n : Int) <= y
  ·rw [if_pos c] at e; cases e
  ·rw [if_neg c] at e
   rcases List.mem_cons.mp h with rfl | h
   ·omega
   ·have := isCh_mem e x h
    omega
def lastC (l : Int) : List Int -> Int
 | [] => l
 | x :: r => lastC (x + 1) r
theorem lastC_snoc (l : Int) (x : Int) : ∀ c : List Int, lastC l (c ++ [x]) = x + 1
 | [] => rfl
 | y :: r => lastC_snoc (y + 1) x r
theorem isCh_app (n : Nat) : ∀ (l : Int) (a b : List Int), isCh n l (a ++ b) = (isCh n l a && isCh n (lastC l a) b)
 | l, [], b => by rw [List.nil_append, isCh, Bool.true_and]; rfl
 | l, x :: r, b => by
  rw [List.cons_append, isCh, isCh, lastC]
  by_cases c : x < l \/ (n : Int) <= x
  ·rw [if_pos c, if_pos c, Bool.false_and]
  ·rw [if_neg c, if_neg c, isCh_app n (x + 1) r b]
theorem inV_ints (z : Int) : ∀ ns : List Int, inV (.int z) (ns.map V.int) = decide (z ∈ ns) := fun ns => by
 unfold inV
 rw [List.any_map, Bool.eq_iff_iff, List.any_eq_true, decide_eq_true_eq]
 constructor
 ·rintro ⟨x, hx, e⟩
  have e' : x = z := by simpa [eqV] using e
  exact e' ▸ hx
 ·intro h
  exact ⟨z, h, by simp [eqV]⟩
end L2
namespace L2
open PySem PySem.Spec PyProof.Rows
section
variable {prog : Program} {w : World} {A : Around} {E : Value -> Shared -> Prop} {s : Shared}
theorem sorted_intsT {l : Addr} {vs : List Value} {ns : List Int} {Q : Value -> Shared -> Prop} (hl : IsTup s.heap l vs.toArray) (hI : IntsAre vs ns) (h64 : vs.length < 64)
  (h : ∀ (out : List Value) (n : Nat) (h1 h' : Heap) (ns' : List Int), (∀ b o, s.heap.get? b = some o -> h1.get? b = some o) -> (∀ b o, h1.get? b = some o -> h'.get? b = some o) -> h'.get? h1.objs.size = some (seqObj "list" out.toArray n) -> IntsAre out ns' -> ns'.Perm ns -> ns'.Pairwise (· <= ·) -> Q (.ref h1.objs.size) { s with heap := h' }) :
  wpAny (model prog w) A (call (.builtin "sorted") [.ref l]) Q E s := by
 refine Calls.call_function_entry kind_sorted plain_sorted entry_sorted (args_sorted1 _) ?_
 unfold Builtin.«sorted»
 refine wpAny_bind (m := checkCount "sorted" 1 1 _) (wpAny_pure ?_)
 obtain ⟨o, ho, hc, n, hd⟩ := hl
 refine wpAny_bind (wpAny_collect_seq l (.inr rfl) ho hc hd (fun h1 hk1 => ?_) (by simp [sizeLine_eq]; omega))
 refine wpAny_bind (wpAny_newList ?_)
 have hoL : (h1.push (seqObj "list" vs.toArray 0)).get? h1.objs.size = some (seqObj "list" vs.toArray 0) := Heap.get?_push_size _ rfl
 refine wpAny_bind (wpAny_holding (wpAny_call_entry slot_list_sort ⟨_, hoL, rfl⟩ entry_list_sort (list_sort_tree hoL hI h64 fun out ns' a1 a2 a3 => ⟨_, rfl, ?_⟩) (args_list_sort _)))
 obtain ⟨e, he⟩ := sortedHeap_at (vs := vs) (out := out) hoL
 refine wpAny_pure ⟨_, rfl, h out.toList e h1 _ ns' hk1 (fun b o hb => ?_) he a1 a2 a3⟩
 have hlt := Heap.lt_size hb
 rw [sortedHeap_old (Nat.ne_of_lt hlt) (by rw [Heap.size_push]; exact Nat.lt_succ_of_lt hlt)]
 exact Heap.get?_push_of_some _ hb
end
theorem call_sortT {X : Cx} : CallR X (.builtin "sorted") (fun xs H Q => ∃ (a : Addr) (ns : List Int), xs = [.ref a] /\ SqT X.K H a (ns.map V.int) /\ ns.length < 64 /\ ∀ (ns' : List Int) (p : Addr), ns'.Perm ns -> ns'.Pairwise (· <= ·) -> H p = none -> Q (.ref p) (upd H p (.lst (ns'.map V.int)))) := by
 intro pins s σ H xs us Q I r h
 obtain ⟨a, ns, rfl, hq, hl, q⟩ := h
 obtain ⟨u, rfl, rx⟩ := vals1 r
 cases rx
 obtain ⟨its, r', pl, hz⟩ := I.tuple hq
 have hlen := r'.length
 rw [List.length_map] at hlen
 refine sorted_intsT pl (intsAre_of r') (by omega) fun out n h1 h' ns' k1 k2 e a1 a2 a3 => ?_
 have hz' : (ns'.map V.int).length <= sizeLine := by rw [List.length_map, a2.length_eq]; exact small64 hl
 have I2 : Inv X pins σ H { s with heap := h1 } := I.kept (t' := s.toks) k1
 exact ⟨.ref _, _, I2.laid (t' := s.toks) k2 (Nat.le_refl _) (show ObjOk X.prog X.w _ _ _ (.lst (ns'.map V.int)) from ⟨hz', out, n, vals_ints a1, by simpa [seqObj] using e⟩), rfl, q ns' _ a2 a3 (I2.hok.fresh (Nat.le_refl _))⟩
end L2
namespace L2
open PySem PySem.Spec PyProof.Rows
theorem isCh_pw {n : Nat} : ∀ {l : Int} {c : List Int}, isCh n l c = true -> c.Pairwise (· < ·)
 | _, [], _ => .nil
 | l, y :: r, e => by
  rw [isCh] at e
  by_cases c : y < l \/ (n : Int) <= y
  ·rw [if_pos c] at e; cases e
  ·rw [if_neg c] at e
   refine .cons (fun x hx => ?_) (isCh_pw e)
   have := isCh_mem e x hx
   omega
theorem isCh_of {n : Nat} {l l' : Int} {c : List Int} (h : isCh n l c = true) (hl : ∀ x ∈ c, l' <= x) : isCh n l' c = true := by
 cases c with
 | nil => rfl
 | cons y r =>
  rw [isCh] at h ⊢
  by_cases d : y < l \/ (n : Int) <= y
  ·rw [if_pos d] at h; cases h
  ·have := hl y List.mem_cons_self
   rw [if_neg d] at h
   rw [if_neg (by omega)]
   exact h
theorem idxP_mem {rule : List (List Int)} {hs : List Int} {i k : Nat} (hk : k < i) (c : lies (rule.getD k []) hs = true) : (k : Int) ∈ idxP rule hs i := by
 unfold idxP
 exact List.mem_map.mpr ⟨k, List.mem_filter.mpr ⟨List.mem_range.mpr hk, by simpa using c⟩, rfl⟩
theorem idxP_head_le {rule : List (List Int)} {hs : List Int} : ∀ (i : Nat) (m : Int), (idxP rule hs i).head? = some m -> ∀ x ∈ idxP rule hs i, m <= x
 | 0, m, h, x, hx => by cases hx
 | i + 1, m, h, x, hx => by
  rw [idxP_succ] at h hx
  cases e : idxP rule hs i with
  | nil =>
   rw [e] at h hx
   by_cases c : lies (rule.getD i []) hs = true
   ·rw [if_pos c] at h hx
    have h1 : m = (i : Int) := by simpa using h.symm
    have h2 : x = (i : Int) := by simpa using hx
    omega
   ·rw [if_neg c] at hx
    cases hx
  | cons y ys =>
   have ih := idxP_head_le (rule := rule) (hs := hs) i
   rw [e] at ih h hx
   have hm : y = m := by simpa using h
   subst hm
   have hy : y ∈ idxP rule hs i := by rw [e]; exact List.mem_cons_self
   rcases List.mem_append.mp hx with z | z
   ·exact ih y rfl x z
   ·by_cases c : lies (rule.getD i []) hs = true
    ·rw [if_pos c] at z
     have : x = (i : Int) := by simpa using z
     have := (idxP_lt hy).2.1
     omega
    ·rw [if_neg c] at z
     cases z
theorem first_is {rule : List (List Int)} {hs : List Int} {m : Int} (h : firstG rule hs = some m) : (0 <= m /\ m < rule.length /\ lies (rule.getD m.toNat []) hs = true) /\ ∀ j : Int, 0 <= j -> j < rule.length -> lies (rule.getD j.toNat []) hs = true -> m <= j := by
 unfold firstG idxG at h
 refine ⟨?_, fun j h0 h1 hl => ?_⟩
 ·have hm : m ∈ idxP rule hs rule.length := List.mem_of_head? h
  have := idxP_lt hm
  exact ⟨this.1, by omega, this.2.2⟩
 ·have := idxP_mem (i := rule.length) (k := j.toNat) (by omega) hl
  have := idxP_head_le _ _ h _ this
  omega
structure PairF (rule : List (List Int)) (pc : List Int × List Int) (m : Int) : Prop where
 le : ∀ x ∈ pc.2, m <= x
 pw : pc.2.Pairwise (· < ·)
 ch : isCh rule.length 0 pc.2 = true
 al : ∀ j ∈ pc.2, lies (rule.getD j.toNat []) pc.1 = true
 m0 : 0 <= m
 m1 : m < rule.length
 ml : lies (rule.getD m.toNat []) pc.1 = true
theorem pairF {rule : List (List Int)} {pc : List Int × List Int} {m : Int} (h : isPairG rule pc = true) (hf : firstG rule pc.1 = some m) : PairF rule pc m := by
 unfold isPairG at h
 rw [Bool.and_eq_true, List.all_eq_true] at h
 obtain ⟨⟨a, b, c⟩, d⟩ := first_is hf
 exact ⟨fun x hx => d x (isCh_mem h.1 x hx).1 (isCh_mem h.1 x hx).2 (h.2 x hx), isCh_pw h.1, h.1, h.2, a, b, c⟩
theorem PairF.head {rule : List (List Int)} {pc : List Int × List Int} {m : Int} (p : PairF rule pc m) (h : m ∈ pc.2) : ∃ r, pc.2 = m :: r /\ ∀ x ∈ r, m < x := by
 have pw := p.pw
 have le := p.le
 cases e : pc.2 with
 | nil => rw [e] at h; cases h
 | cons y r =>
  rw [e] at h pw le
  have hy := le y List.mem_cons_self
  have hr : ∀ x ∈ r, y < x := (List.pairwise_cons.mp pw).1
  rcases List.mem_cons.mp h with rfl | h
  ·exact ⟨r, rfl, hr⟩
  ·have := hr m h
   omega
theorem PairF.filt {rule : List (List Int)} {pc : List Int × List Int} {m : Int} (p : PairF rule pc m) (h : m ∈ pc.2) : pc.2.filter (fun x => !decide (x = m)) = pc.2.tail := by
 obtain ⟨r, e, hr⟩ := p.head h
 rw [e, List.filter_cons, if_neg (by simp), List.tail_cons]
 refine List.filter_eq_self.mpr fun x hx => ?_
 have := hr x hx
 simp
 omega
theorem PairF.sort {rule : List (List Int)} {pc : List Int × List Int} {m : Int} {s : List Int} (p : PairF rule pc m) (hp : s.Perm (pc.2 ++ [m])) (hs : s.Pairwise (· <= ·)) : s = m :: pc.2 := by
 have q : s.Perm (m :: pc.2) := hp.trans (List.perm_append_comm)
 refine q.eq_of_pairwise (le := fun x y => x <= y) (fun x y _ _ h1 h2 => Int.le_antisymm h1 h2) hs (.cons (fun x hx => p.le x hx) (p.pw.imp fun h => Int.le_of_lt h))
theorem sgn_step (n : Nat) : (if n % 2 = 0 then (1 : Int) else -1) = 0 - (if (n + 1) % 2 = 0 then (1 : Int) else -1) := by
 rcases Nat.mod_two_eq_zero_or_one n with h | h
 ·have h2 : (n + 1) % 2 = 1 := by omega
  simp [h, h2]
 ·have h2 : (n + 1) % 2 = 0 := by omega
  simp [h, h2]
theorem partner_back {rule : List (List Int)} {pc pc' : List Int × List Int} (h : isPairG rule pc = true) (hp : partnerG rule pc = some pc') : isPairG rule pc' = true /\ partnerG rule pc' = some pc /\ sgnG pc'.2 = 0 - sgnG pc.2 /\ pc'.1 = pc.1 /\ pc'.2.length <= pc.2.length + 1 := by
 unfold partnerG at hp
 cases hf : firstG rule pc.1 with
 | none => rw [hf] at hp; cases hp
 | some m =>
  rw [hf] at hp
  have p := pairF h hf
  obtain ⟨hd, ch⟩ := pc
  by_cases c : m ∈ ch
  ·have hp' : some (hd, ch.tail) = some pc' := by simpa [c] using hp
   cases hp'
   obtain ⟨r, e, hr⟩ := p.head c
   have e' : ch = m :: r := e
   subst e'
   have chh := p.ch
   have cc : isCh rule.length (m + 1) r = true := by
    have z : isCh rule.length 0 (m :: r) = true := chh
    rw [isCh, if_neg (by have := p.m0; have := p.m1; omega)] at z
    exact z
   refine ⟨?_, ?_, ?_, rfl, by simp; omega⟩
   ·unfold isPairG
    rw [Bool.and_eq_true, List.all_eq_true]
    exact ⟨isCh_of cc fun x hx => by have := hr x hx; have := p.m0; omega, fun j hj => p.al j (List.mem_cons_of_mem _ hj)⟩
   ·have nm : m ∉ r := fun z => by have := hr m z; omega
    unfold partnerG
    have hf' : firstG rule hd = some m := hf
    simp [hf', nm]
   ·unfold sgnG
    simp only [List.tail_cons, List.length_cons]
    exact sgn_step r.length
  ·have hp' : some (hd, m :: ch) = some pc' := by simpa [c] using hp
   cases hp'
   refine ⟨?_, ?_, ?_, rfl, by simp⟩
   ·unfold isPairG
    rw [Bool.and_eq_true, List.all_eq_true]
    refine ⟨?_, fun j hj => ?_⟩
    ·show isCh rule.length 0 (m :: ch) = true
     rw [isCh, if_neg (by have := p.m0; have := p.m1; omega)]
     refine isCh_of p.ch fun x hx => ?_
     have h1 := p.le x hx
     have h2 : m ≠ x := fun z => c (z ▸ hx)
     omega
    ·rcases List.mem_cons.mp hj with rfl | hj
     ·exact p.ml
     ·exact p.al j hj
   ·unfold partnerG
    have hf' : firstG rule hd = some m := hf
    simp [hf']
   ·unfold sgnG
    simp only [List.length_cons]
    rw [sgn_step ch.length]
    omega
theorem cat_any {K : PySem.W.Frag} {H : Hp} {q t : Addr} {hs ms : List Int} {Q : V -> Hp -> Prop} (hq : H q = some (.tup (hs.map V.int))) (ht : H t = some (.tup (ms.map V.int))) (hl : (hs ++ ms).length <= 1000)
  (k : ∀ (v : V) (H' : Hp), Tup1 (hs ++ ms) v H' -> Same H H' -> Q v H') : rCatA K (.ref q) (.ref t) H Q := by
 refine ⟨q, t, _, _, rfl, rfl, SqT.of hq, SqT.of ht, ?_, fun e => ?_, fun _ e => ?_, fun _ _ p hp => ?_⟩
 ·rw [List.length_map, List.length_map, <- List.length_append]
  exact Nat.le_trans hl (by decide)
 ·have : hs = [] := List.map_eq_nil_iff.mp e
  subst this
  exact k _ _ ⟨t, rfl, ht⟩ (fun _ _ h => h)
 ·have : ms = [] := List.map_eq_nil_iff.mp e
  subst this
  exact k _ _ ⟨q, rfl, by rw [List.append_nil]; exact hq⟩ (fun _ _ h => h)
 ·exact k _ _ ⟨p, rfl, by rw [upd_same, List.map_append]⟩ (Same.new hp)
end L2
namespace L2
open PySem PySem.Spec PyProof.Rows PySem.W
theorem isinst_tup {X : Cx} {pins : List (Addr × Obj)} {σ : St} {H : Hp} {s : Shared} {A : Around} {E : Value -> Shared -> Prop} {Q : Value -> Shared -> Prop} {b : Bool}
  {x : V} {u t : Value} {tp : Addr} {dd : Option Addr} {its : List Value} {n : Nat} {sl : Array (Option Value)} (I : Inv X pins σ H s) (rx : RelV x u) (ty : TyOf X.K H x t)
  (hg : s.heap.get? tp = some { cls := Value.type "tuple", dict := dd, data := Data.seq its.toArray n, slots := sl }) (e : kitAny X.K t its = some b) (h : ∀ tk, Q (.bool b) { s with toks := tk }) :
  wpAny (model X.prog X.w) A (call (.builtin "isinstance") [u, .ref tp]) Q E s := by
 cases ty with
 | non => cases (show u = Value.none from rx); exact kia_tup kitx_none I.kIn True.intro hg e (fun z => nomatch z) h
 | bl y => cases (show u = Value.bool y from rx); exact kia_tup kitx_bool I.kIn True.intro hg e (fun z => nomatch z) h
 | int i => obtain ⟨t, q⟩ := (show ∃ t, u = Value.int i t from rx); cases q; exact kia_tup kitx_int I.kIn True.intro hg e (fun z => nomatch z) h
 | str y => obtain ⟨t, q⟩ := (show ∃ t, u = Value.str y t from rx); cases q; exact kia_tup kitx_str I.kIn True.intro hg e (fun z => nomatch z) h
 | flt y => obtain ⟨t, q⟩ := (show ∃ t, u = Value.float y t from rx); cases q; exact kia_tup kitx_float I.kIn True.intro hg e (fun z => nomatch z) h
 | @lst a xs ea =>
  cases (show u = Value.ref a from rx)
  obtain ⟨_, _, n, _, h1⟩ := (show ObjOk X.prog X.w H s.heap a (.lst xs) from I.hok a _ ea)
  exact kia_tup kitx_list I.kIn ⟨_, h1, rfl⟩ hg e (fun z => nomatch z) h
 | @frz a ob xs ea =>
  cases (show u = Value.ref a from rx)
  obtain ⟨_, _, _, n, _, h1⟩ := (show ObjOk X.prog X.w H s.heap a (.frz ob (.lst xs)) from I.hok a _ ea)
  exact kia_tup kitx_list I.kIn ⟨_, h1, rfl⟩ hg e (fun z => nomatch z) h
 | @tup a xs ea =>
  cases (show u = Value.ref a from rx)
  obtain ⟨_, _, _, p, _⟩ := (show ObjOk X.prog X.w H s.heap a (.tup xs) from I.hok a _ ea)
  obtain ⟨o, h1, h2, _⟩ := p
  exact kia_tup kitx_tuple I.kIn ⟨o, h1, h2⟩ hg e (fun z => nomatch z) h
 | @dK a kvs ea =>
  cases (show u = Value.ref a from rx)
  obtain ⟨_, _, vs, _, p⟩ := (show ObjOk X.prog X.w H s.heap a (.dK kvs) from I.hok a _ ea)
  obtain ⟨o, es, ep, h1, h2, _⟩ := p
  exact kia_tup kitx_dict I.kIn ⟨o, h1, h2.1⟩ hg e (fun z => nomatch z) h
 | @dT a kvs ea =>
  cases (show u = Value.ref a from rx)
  obtain ⟨_, _, xs, _, o, es, ep, h1, h2, _⟩ := (show ObjOk X.prog X.w H s.heap a (.dT kvs) from I.hok a _ ea)
  exact kia_tup kitx_dict I.kIn ⟨o, h1, h2.1⟩ hg e (fun z => nomatch z) h
 | @ins a C dx fs ea cl ha hn htk hm =>
  cases (show u = Value.ref a from rx)
  obtain ⟨mA, O, _⟩ := ins_get I.hok ea
  obtain ⟨od, J, _⟩ := O.look
  exact kia_tup (kitx_own (cl.get _) cl.hd ha hn htk hm) I.kIn J hg e (fun z => nomatch z) h
theorem vals_ty {Ts : List String} {us : List Value} (h : Vals (Ts.map V.ty) us) : us = Ts.map Value.type := by
 induction Ts generalizing us with
 | nil => cases h; rfl
 | cons a r ih =>
  cases h with
  | cons h1 h2 =>
   rw [ih h2]
   cases (show _ = Value.type a from h1)
   rfl
theorem call_isiT {X : Cx} : CallR X (.builtin "isinstance") (fun xs H Q => ∃ x tp Ts t b, xs = [x, .ref tp] /\ H tp = some (.tup (List.map V.ty Ts)) /\ TyOf X.K H x t /\ kitAny X.K t (Ts.map Value.type) = some b /\ Q (.bl b) H) := by
 intro pins s σ H xs us Q I r h
 obtain ⟨x, tp, Ts, t, b, rfl, ht, ty, hk, q⟩ := h
 obtain ⟨u, v, rfl, ru, rv⟩ := vals2 r
 cases (show v = Value.ref tp from rv)
 obtain ⟨_, its, r2, ⟨o, h1, h2, n, h3⟩, _⟩ := (show ObjOk X.prog X.w H s.heap tp (.tup (Ts.map V.ty)) from I.hok tp _ ht)
 cases vals_ty r2
 cases o
 cases h2
 cases h3
 exact isinst_tup I ru ty h1 hk fun tk => ⟨.bl b, H, I.tok tk, rfl, q⟩
theorem kit_list_tuple {K : Frag} : kitOne K (.type "list") (.type "tuple") = some false := by
 unfold kitOne
 rw [if_neg (by decide +kernel)]
 rfl
theorem kit_tuple_list {K : Frag} : kitOne K (.type "tuple") (.type "list") = some false := by
 unfold kitOne
 rw [if_neg (by decide +kernel)]
 rfl
theorem kit_int_str {K : Frag} : kitOne K (.type "int") (.type "str") = some false := by
 unfold kitOne
 rw [if_neg (by decide +kernel)]
 rfl
theorem kit_NoneType_bool {K : Frag} : kitOne K (.type "NoneType") (.type "bool") = some false := by
 unfold kitOne
 rw [if_neg (by decide +kernel)]
 rfl
theorem kitA1_list {K : Frag} : kitAny K (.type "list") (["list", "tuple"].map Value.type) = some true := by rfl
theorem kitA1_tuple {K : Frag} : kitAny K (.type "tuple") (["list", "tuple"].map Value.type) = some true := by rfl
theorem kitA1_int {K : Frag} : kitAny K (.type "int") (["list", "tuple"].map Value.type) = some false := by rfl
theorem kitA1_bool {K : Frag} : kitAny K (.type "bool") (["list", "tuple"].map Value.type) = some false := by rfl
theorem kitA1_NoneType {K : Frag} : kitAny K (.type "NoneType") (["list", "tuple"].map Value.type) = some false := by rfl
theorem kitA1_str {K : Frag} : kitAny K (.type "str") (["list", "tuple"].map Value.type) = some false := by rfl
end L2
namespace L2
open PySem PySem.Spec PyProof.Rows
section
variable {X : Cx} {tg : Expr}
end
end L2
namespace L2
end L2
namespace L2
open PySem PySem.Spec PyProof.Rows PySem.W
end L2
namespace L2
def sumN : Nat -> (Nat -> Int) -> Int
 | 0, _ => 0
 | n + 1, f => sumN n f + f n
end L2
namespace L2
open PySem PySem.Spec PyProof.Rows
section
variable {X : Cx}
end
end L2
namespace L2
open PySem PySem.Spec PyProof.Rows
section
variable {X : Cx}
end
section
variable {X : Cx} {e st : Expr} {te : TE} {ts : TO} {p2 pos : Pos}
def tRev (K : PySem.W.Frag) (te : TE) (ts : TO) : TE := fun σ H Q => te σ H fun x H1 => ts σ H1 fun k H2 => k = some (-1) /\ ∃ a xs, x = .ref a /\ SqL K H2 a xs /\ ∀ p, H2 p = none -> Q (.ref p) (upd H2 p (.lst xs.reverse))
theorem pe_revL (he : PE X e te) (hst : PO X (some st) ts) (hsb : ∀ a b, ∃ ops, subscripted (.Slice none none (some st) p2) false a b = operate ops (getItem a b)) : PE X (.Subscript e (.Slice none none (some st) p2) pos) (tRev X.K te ts) := by
 intro pins s σ H Q I h
 refine Subscript_ (thn (he pins s σ H _ I h) fun v s1 ⟨x, H1, I1, r1, q1⟩ => ?_)
 refine wpAny_Slice ?_
 rw [evalPart_none]
 refine wpAny_pure (wpAny_pure ?_)
 refine thn (hst pins s1 σ H1 _ I1 q1) fun vk s3 ⟨k, H3, I3, pk, q3⟩ => ?_
 obtain ⟨rfl, a, xs, rfl, hx, q⟩ := q3
 have I4 : Inv X pins σ H3 { s3 with heap := s3.heap.push { cls := .type "slice", data := .fields #[.none, .none, vk] } } := I3.kept (t' := s3.toks) fun b ob q => Heap.get?_push_of_some _ q
 cases r1
 obtain ⟨its, r, ht, hz⟩ := I4.list hx
 have hlen := r.length
 show wpAny (model X.prog X.w) X.A (subscriptTail e (.Slice none none (some st) p2) (.ref a) (.ref s3.heap.objs.size)) (EP X pins σ Q) X.xe { s3 with heap := s3.heap.push { cls := .type "slice", data := .fields #[.none, .none, vk] } }
 obtain ⟨ops, hsb'⟩ := hsb (.ref a) (.ref s3.heap.objs.size)
 refine tail_any (ops := ops) ht.isList.typeIs slot_list_getitem.lookup ?_ hsb'
 refine wpAny_getItem_list_slice ht.isList (Heap.IsSliceOf.new ..) .none .none pk (by simp) ?_ (by rw [List.size_toArray] <;> omega)
 rw [PySem.W.krv_pick]
 refine ⟨.ref _, _, I4.laid (t' := s3.toks) (o := .lst xs.reverse) (fun b ob q => Heap.get?_push_of_some _ q) (Nat.le_refl _) ?_, rfl, q _ (I4.hok.fresh (Nat.le_refl _))⟩
 exact ⟨by rw [List.length_reverse]; exact hz, _, 0, r.reverse, Heap.get?_push_size _ rfl⟩
end
end L2
namespace L2
open PySem PySem.Spec PyProof.Rows
section
variable {X : Cx} {tg l : Expr} {t1 t2 : TI}
def iOr (t1 t2 : TI) : TI := fun σ H R => t1 σ H R \/ t2 σ H R
theorem pi_or (h1 : PI X tg l t1) (h2 : PI X tg l t2) : PI X tg l (iOr t1 t2) := by
 intro pins s σ H R I h
 rcases h with h | h
 ·exact h1 pins s σ H R I h
 ·exact h2 pins s σ H R I h
end
end L2
namespace L2
open PySem PySem.Spec PyProof.Rows
section
variable {prog : Program} {w : World} {A : Around} {E : Value -> Shared -> Prop} {s : Shared}
end
section
variable {X : Cx}
end
end L2
namespace L2
open PySem PySem.Spec PyProof.Rows
theorem inV2 (x a b : Int) : inV (.int x) [V.int a, V.int b] = (decide (x = a) || decide (x = b)) := by
 show inV (.int x) ([a, b].map V.int) = _
 rw [inV_ints]
 rw [Bool.eq_iff_iff]
 simp
end L2
namespace L2
open PySem PySem.Spec PyProof.Rows
end L2
namespace L2
open PySem PySem.Spec PyProof.Rows
theorem cut_from (xs : List V) (s : Nat) (h : s <= xs.length) : cutV xs (some (s : Int)) none = xs.drop s := by
 unfold cutV
 rw [HT.sIx_none, HT.sIx_nat, Nat.min_eq_left h]
 exact List.take_of_length_le (by rw [List.length_drop]; exact Nat.le_refl _)
section
variable {X : Cx}
end
end L2
set_option exponentiation.threshold 200000
namespace L2
open PySem PySem.Spec PyProof.Rows
section
variable {X : Cx}
end
def hdL (T B : Nat -> Int) : Nat -> List Int
 | 0 => []
 | n + 1 => hdL T B n ++ [T n - sumN n fun i => B (i + 1) * (hdL T B n).getD (n - (i + 1)) 0]
def hd (T B : Nat -> Int) (n : Nat) : Int := (hdL T B (n + 1)).getD n 0
end L2
namespace L2
open PySem PySem.Spec PyProof.Rows PySem.W
end L2
namespace L2
open PySem PySem.Spec PyProof.Rows
end L2
namespace L2
open PySem PySem.Spec PyProof.Rows
end L2
namespace L2
open PySem PySem.Spec PyProof.Rows
section
variable {X : Cx}
end
end L2
namespace L2
open PySem PySem.Spec PyProof.Rows
section
variable {prog : Program} {w : World} {A : Around} {R : Result -> Shared -> Prop} {I : Addr} {fp wr : List Addr} {G : Array GenState -> Array GenState -> Prop} {n : Nat} {P : Nat -> Value -> Prop} {St : Nat -> Shared -> Prop} {K : Type} [DecidableEq K] {knd : KeyKind prog w K}
end
section
variable {X : Cx}
end
end L2
namespace L2
open PySem PySem.Spec PyProof.Rows
section
variable {X : Cx}
end
end L2
namespace L2
end L2
namespace L2
theorem partF_le : ∀ (f n g : Nat), ∀ h ∈ partF f n g, ∀ x ∈ h, x <= (g : Int)
 | 0, n, g, h, hh, _, _ => by cases hh
 | f + 1, n, g, h, hh, x, hx => by
  rw [partF_succ] at hh
  by_cases c : n = 0
  ·rw [if_pos c] at hh
   have : h = [] := by simpa using hh
   subst this
   cases hx
  ·rw [if_neg c] at hh
   unfold partP at hh
   obtain ⟨i, hi, hh⟩ := List.mem_flatMap.mp hh
   rw [List.mem_range] at hi
   obtain ⟨r, hr, rfl⟩ := List.mem_map.mp hh
   rcases List.mem_cons.mp hx with rfl | hx
   ·omega
   ·have := partF_le f _ _ r hr x hx
    omega
end L2
namespace L2
def sC (c : Nat -> Nat) : Nat -> Nat
 | 0 => 0
 | g + 1 => sC c g + c (g + 1) * (g + 1)
end L2
namespace L2
theorem ex_unlike : ∀ L : List Int, ∃ us : List Int, us.Pairwise (· > ·) /\ ∀ y, y ∈ us ↔ y ∈ L
 | [] => ⟨[], .nil, fun _ => Iff.rfl⟩
 | x :: L => by
  obtain ⟨us, h1, h2⟩ := ex_unlike L
  by_cases hx : x ∈ us
  ·refine ⟨us, h1, fun y => ?_⟩
   rw [List.mem_cons, <- h2 y]
   exact ⟨.inr, fun h => h.elim (fun e => e ▸ hx) id⟩
  ·refine ⟨us.filter (fun y => decide (x < y)) ++ x :: us.filter (fun y => decide (y < x)), ?_, fun y => ?_⟩
   ·refine List.pairwise_append.mpr ⟨h1.sublist List.filter_sublist, List.pairwise_cons.mpr ⟨fun y hy => ?_, h1.sublist List.filter_sublist⟩, fun a ha b hb => ?_⟩
    ·exact of_decide_eq_true (List.mem_filter.mp hy).2
    ·have ha' : x < a := of_decide_eq_true (List.mem_filter.mp ha).2
     rcases List.mem_cons.mp hb with rfl | hb
     ·exact ha'
     ·have hb' : b < x := of_decide_eq_true (List.mem_filter.mp hb).2
      show b < a
      omega
   ·rw [List.mem_append, List.mem_cons, List.mem_filter, List.mem_filter, List.mem_cons, <- h2 y]
    constructor
    ·rintro (h | h | h)
     ·exact .inr h.1
     ·exact .inl h
     ·exact .inr h.1
    ·rintro (h | h)
     ·exact .inr (.inl h)
     ·rcases Int.lt_trichotomy x y with z | z | z
      ·exact .inl ⟨h, decide_eq_true z⟩
      ·exact .inr (.inl z.symm)
      ·exact .inr (.inr ⟨h, decide_eq_true z⟩)
theorem ex_join (ls : List (List Int)) : ∃ ms, IsJoin ls ms := by
 obtain ⟨us, h1, h2⟩ := ex_unlike ls.flatten
 exact ⟨_, blow_join (h1.imp fun h => Int.ne_of_gt h) (h1.imp fun h => Int.le_of_lt h) h2⟩
noncomputable def joinX (ls : List (List Int)) : List Int := Classical.choose (ex_join ls)
theorem joinX_is (ls : List (List Int)) : IsJoin ls (joinX ls) := Classical.choose_spec (ex_join ls)
theorem joinX_eq {ls : List (List Int)} {ms : List Int} (h : IsJoin ls ms) : joinX ls = ms := (joinX_is ls).uniq h
theorem sum_rep (k : Nat) (v : Int) : (List.replicate k v).sum = k * v := by
 induction k with
 | zero => simp
 | succ k ih => rw [List.replicate_succ, List.sum_cons, ih, Int.natCast_add, Int.add_mul]; simp; omega
theorem perm_sum {a b : List Int} (h : a.Perm b) : a.sum = b.sum := by
 induction h with
 | nil => rfl
 | cons x _ ih => rw [List.sum_cons, List.sum_cons, ih]
 | swap x y l => simp only [List.sum_cons]; omega
 | trans _ _ i1 i2 => rw [i1, i2]
end L2
namespace L2
open PySem PySem.Spec PyProof.Rows
structure SeenU (H0 H : Hp) (d : Addr) (L : List Int) : Prop where
 ex : ∃ (kvs : List (Key × V)) (ns : List Int), H d = some (.dK kvs) /\ kvs.map (·.1) = ns.map Sum.inl /\ ns.Nodup /\ ns.length <= L.length /\ ∀ x, x ∈ ns ↔ x ∈ L
 sm : ∀ b o, H0 b = some o -> H b = some o
 nw : H0 d = none
theorem SeenU.put {H0 H : Hp} {d : Addr} {L : List Int} {z : Int} (h : SeenU H0 H d L) (hl : L.length < 1000) : ∃ H', DPut H d (.int z) (.bl true) H' /\ SeenU H0 H' d (L ++ [z]) := by
 obtain ⟨⟨kvs, ns, hd, hk, hnd, hn, hm⟩, sm, nw⟩ := h
 have hlen : kvs.length = ns.length := by
  have := congrArg List.length hk
  simpa using this
 refine ⟨upd H d (.dK (putK kvs (Sum.inl z) (.bl true))), DPut.k (k := Sum.inl z) hd (Nat.lt_of_lt_of_le (show kvs.length < 1000 by omega) (by decide)), ⟨?_, fun b o e => by rw [upd_ne (ne_of_none e nw)]; exact sm b o e, nw⟩⟩
 cases e : valV kvs (Sum.inl z) with
 | none =>
  have hz : z ∉ ns := fun hz => valV_not e (by rw [hk]; exact List.mem_map.mpr ⟨z, hz, rfl⟩)
  refine ⟨_, ns ++ [z], upd_same, by rw [putK_new _ e, List.map_append, hk, List.map_append]; rfl, ?_, by simp; omega, fun x => by simp [hm]⟩
  refine List.nodup_append.mpr ⟨hnd, by simp, fun a ha b hb e => ?_⟩
  have : b = z := by simpa using hb
  exact hz (by rw [<- this, <- e]; exact ha)
 | some v =>
  have hin := valV_in e
  rw [hk] at hin
  have hz : z ∈ ns := by
   obtain ⟨y, hy, e2⟩ := List.mem_map.mp hin
   have : y = z := Sum.inl.inj e2
   rw [<- this]; exact hy
  refine ⟨_, ns, upd_same, ?_, hnd, by simp; omega, fun x => ?_⟩
  ·have : (putK kvs (Sum.inl z) (V.bl true)).map (·.1) = kvs.map (·.1) := putK_keys e
   rw [this, hk]
  ·rw [List.mem_append, <- hm]
   exact ⟨Or.inl, fun h => h.elim id fun h => by rw [show x = z by simpa using h]; exact hz⟩
theorem nodup_len : ∀ {a b : List Int}, a.Nodup -> (∀ x ∈ a, x ∈ b) -> a.length <= b.length
 | [], _, _, _ => Nat.zero_le _
 | x :: a, b, hn, h => by
  obtain ⟨h1, h2⟩ := List.nodup_cons.mp hn
  have hx := h x List.mem_cons_self
  have := nodup_len (b := b.erase x) h2 fun y hy => by
   have hne : y ≠ x := fun e => h1 (by rw [<- e]; exact hy)
   exact (List.mem_erase_of_ne hne).mpr (h y (List.mem_cons_of_mem _ hy))
  rw [List.length_erase_of_mem hx] at this
  have : 0 < b.length := List.length_pos_of_mem hx
  rw [List.length_cons]
  omega
section
variable {X : Cx}
end
def RuleJ (rule : List (List Int)) : Prop := (∃ D : List Int, D.length < 64 /\ ∀ h ∈ rule, ∀ x ∈ h, x ∈ D) /\ (∀ h ∈ rule, h.length <= 100) /\ ∀ h ∈ rule, ∀ x ∈ h, 1 <= x
theorem pick_mem {rule : List (List Int)} {ch : List Int} {l : List Int} (h : l ∈ pickG rule ch) : l ∈ rule \/ l = [] := by
 obtain ⟨j, _, rfl⟩ := List.mem_map.mp h
 by_cases hj : j.toNat < rule.length
 ·left
  rw [List.getD_eq_getElem?_getD, List.getElem?_eq_getElem hj]
  exact List.getElem_mem hj
 ·right
  rw [List.getD_eq_getElem?_getD, List.getElem?_eq_none (by omega)]
  rfl
theorem RuleJ.pick {rule : List (List Int)} (h : RuleJ rule) {ch : List Int} (hc : ch.length <= 6) : (∃ D : List Int, D.length < 64 /\ ∀ x ∈ (pickG rule ch).flatten, x ∈ D) /\ (pickG rule ch).flatten.length < 1000 := by
 obtain ⟨⟨D, hD, hm⟩, hl, _⟩ := h
 refine ⟨⟨D, hD, fun x hx => ?_⟩, ?_⟩
 ·obtain ⟨l, hl, hx⟩ := List.mem_flatten.mp hx
  rcases pick_mem hl with h | h
  ·exact hm l h x hx
  ·rw [h] at hx
   cases hx
 ·have : (pickG rule ch).flatten.length <= 100 * (pickG rule ch).length := flat_le fun l hl' => by
   rcases pick_mem hl' with h | h
   ·exact hl l h
   ·rw [h]
    exact Nat.zero_le _
  have e : (pickG rule ch).length = ch.length := by unfold pickG; rw [List.length_map]
  omega
end L2
namespace L2
open PySem PySem.Spec PyProof.Rows
open PySem.Builtin.Str (occurrences subAt)
section
variable {X : Cx}
end
end L2
namespace L2
open PySem PySem.Spec PyProof.Rows
section
variable {X : Cx}
end
section
variable {X : Cx} {scope : Scope} {ls : List Str} {fr : List (Str × Nat)}
end
end L2
namespace L2
open PySem PySem.Spec PyProof.Rows
theorem Same.updN {H H' : Hp} {p : Addr} {o : HO} (s : Same H H') (h : H p = none) : Same H (upd H' p o) := fun b u e => by rw [upd_ne (ne_of_none e h)]; exact s b u e
abbrev natV (n : Nat) : V := V.int (n : Int)
theorem nat_at {ns : List Nat} {i : Nat} {x : V} (h : (ns.map natV)[i]? = some x) : ∃ z, ns[i]? = some z /\ x = .int (z : Int) := by
 rw [List.getElem?_map] at h
 cases e : ns[i]? with
 | none => rw [e] at h; cases h
 | some z => rw [e] at h; exact ⟨z, rfl, (Option.some.inj h).symm⟩
theorem comp_map1L {K : PySem.W.Frag} {i : Nat} {a : Addr} {xs : List V} {nm : Str} {fr : List (Str × Nat)} {te : TE} {σ : St} {H : Hp} {Q : VK} {β : Type} (R : β -> V -> Hp -> Prop) (bs : List β) (tl : St) (hb : bs.length = xs.length) (hle : xs.length <= sizeLine) (mono : ∀ b v H H', Same H H' -> R b v H -> R b v H') (htl : startC [nm] fr σ = none :: tl) (hs : σ[i]? = some (some (.ref a))) (h : H a = some (.lst xs))
  (step : ∀ (j : Nat) (x : V) (b : β) (H' : Hp) (P : VK), xs[j]? = some x -> bs[j]? = some b -> Same H H' -> (∀ v H'', Same H' H'' -> R b v H'' -> P v H'') -> te (some x :: tl) H' P)
  (hd : ∀ zs H' p, Same H H' -> All2 R H' bs zs -> H' p = none -> Q (.ref p) (upd H' p (.lst zs))) : tComp (iList K (tVar i)) [nm] fr (gName 0) tYes te σ H Q := by
 refine ⟨_, hs, a, rfl, ⟨_, SqL.of h⟩, comp_list (xs := xs) (fun j zs σ' H' => Same H H' /\ (∃ v, σ' = v :: tl) /\ All2 R H' (bs.take j) zs /\ j <= bs.length) ⟨Same.refl _, ⟨_, htl⟩, .nil, Nat.zero_le _⟩ ?_ ?_ ?_⟩
 ·rintro j zs σ' H' hj ⟨s', _, a2, hj'⟩
  refine ⟨SqL.of (s' _ _ h), ?_⟩
  rw [<- a2.length, List.length_take]
  exact Nat.le_trans (Nat.min_le_right _ _) (by rw [hb]; exact hle)
 ·rintro j x zs σ' H' hx ⟨s', ⟨v, rfl⟩, a2, hj'⟩
  have hj : j < bs.length := by rw [hb]; exact (List.getElem?_eq_some_iff.mp hx).1
  have hbj : bs[j]? = some bs[j] := List.getElem?_eq_getElem hj
  refine step j x bs[j] H' _ hx hbj s' fun v2 H2 s2 r2 => ⟨s'.trans s2, ⟨_, rfl⟩, ?_, hj⟩
  rw [List.take_succ, hbj]
  exact (a2.imp fun _ _ z => mono _ _ _ _ s2 z).snoc r2
 ·rintro zs σ' H' ⟨s', _, a2, _⟩ p hp
  rw [<- hb, List.take_length] at a2
  exact hd zs H' p s' a2 hp
theorem cut_some (xs : List V) (s : Nat) : cutV xs none (some (s : Int)) = xs.take (min s xs.length) := by
 unfold cutV
 rw [HT.sIx_none, HT.sIx_nat, List.drop_zero, Nat.sub_zero]
end L2
namespace L2
open PySem PySem.Spec PyProof.Rows PySem.NumText
section
variable {X : Cx}
end
def weight (ys : List Str) : Nat := (ys.map (·.length)).sum + ys.length
section
variable {X : Cx} {e : Expr} {es : List Expr} {te : TE} {t : TA}
end
end L2
namespace L2
open PySem PySem.Spec PyProof.Rows
open PySem.StrLaws (At ChainG partsFrom)
open PySem.Builtin.Str (occurrences subAt)
section
variable {X : Cx} {e a b : Expr} {es : List Expr} {te ta tb : TE} {t : TA} {pos : Pos}
end
theorem compK_mapL {K : PySem.W.Frag} {a : Addr} {xs : List V} {te : TE} {σ0 : St} {H : Hp} {Q : VK} {β : Type} (R : β -> V -> Hp -> Prop) (bs : List β) (tl : St) (hb : bs.length = xs.length) (hle : xs.length <= sizeLine) (mono : ∀ b v H H', Same H H' -> R b v H -> R b v H') (htl : σ0 = none :: tl) (h : H a = some (.lst xs))
  (step : ∀ (j : Nat) (x : V) (b : β) (H' : Hp) (P : VK), xs[j]? = some x -> bs[j]? = some b -> Same H H' -> (∀ v H'', Same H' H'' -> R b v H'' -> P v H'') -> te (some x :: tl) H' P)
  (hd : ∀ zs H' p, Same H H' -> All2 R H' bs zs -> H' p = none -> Q (.ref p) (upd H' p (.lst zs))) : tCompK (gName 0) tYes te σ0 (Itl K a) H Q := by
 refine comp_list (xs := xs) (fun j zs σ' H' => Same H H' /\ (∃ v, σ' = v :: tl) /\ All2 R H' (bs.take j) zs /\ j <= bs.length) ⟨Same.refl _, ⟨_, htl⟩, .nil, Nat.zero_le _⟩ ?_ ?_ ?_
 ·rintro j zs σ' H' hj ⟨s', _, a2, hj'⟩
  refine ⟨SqL.of (s' _ _ h), ?_⟩
  rw [<- a2.length, List.length_take]
  exact Nat.le_trans (Nat.min_le_right _ _) (by rw [hb]; exact hle)
 ·rintro j x zs σ' H' hx ⟨s', ⟨v, rfl⟩, a2, hj'⟩
  have hj : j < bs.length := by rw [hb]; exact (List.getElem?_eq_some_iff.mp hx).1
  have hbj : bs[j]? = some bs[j] := List.getElem?_eq_getElem hj
  refine step j x bs[j] H' _ hx hbj s' fun v2 H2 s2 r2 => ⟨s'.trans s2, ⟨_, rfl⟩, ?_, hj⟩
  rw [List.take_succ, hbj]
  exact (a2.imp fun _ _ z => mono _ _ _ _ s2 z).snoc r2
 ·rintro zs σ' H' ⟨s', _, a2, _⟩ p hp
  rw [<- hb, List.take_length] at a2
  exact hd zs H' p s' a2 hp
end L2
namespace L2
open PySem PySem.Spec PyProof.Rows
section
variable {X : Cx} {elts : List Expr} {x1 : Nat} {tpos : Pos}
end
end L2
namespace L2
open PySem PySem.Spec PyProof.Rows
theorem maxC_mem {ls : List (List Int)} {x : Int} (h : 0 < maxC ls x) : ∃ l ∈ ls, x ∈ l := by
 induction ls with
 | nil => simp [maxC] at h
 | cons a r ih =>
  rw [maxC] at h
  by_cases ha : 0 < a.count x
  ·exact ⟨a, by simp, List.count_pos_iff.mp ha⟩
  ·obtain ⟨l, hl, hx⟩ := ih (by omega)
   exact ⟨l, List.mem_cons_of_mem _ hl, hx⟩
theorem join_mem {ls : List (List Int)} {x : Int} (h : x ∈ joinX ls) : ∃ l ∈ ls, x ∈ l := by
 refine maxC_mem ?_
 rw [<- (joinX_is ls).2 x]
 exact List.count_pos_iff.mpr h
theorem sort_count (l : List Int) (x : Int) : (sortD l).count x = l.count x := (sortD_perm l).count_eq x
theorem getD_map_nil {α : Type} (f : α -> List Int) (rows : List α) (j : Nat) : (rows.map f).getD j [] = match rows[j]? with | some r => f r | none => [] := by
 rw [List.getD_eq_getElem?_getD, List.getElem?_map]
 cases rows[j]? <;> rfl
end L2
namespace L2
open PySem PySem.Spec PyProof.Rows
section
variable {X : Cx} {scope1 scope : Scope} {N1 N : List Str} {C1 C : Addr} {s1 s : Shared} {H1 H : Hp} {ex1 ex : List Addr}
end
end L2
namespace L2
open PySem PySem.Spec PyProof.Rows
end L2
namespace L2
open PySem PySem.Spec PyProof.Rows
theorem cut_head (xs : List V) (s : Nat) : cutV xs none (some (s : Int)) = xs.take s := by
 rw [cut_some]
 rcases Nat.le_total s xs.length with h | h
 ·rw [Nat.min_eq_left h]
 ·rw [Nat.min_eq_right h, List.take_length, List.take_of_length_le h]
theorem cut_rest (xs : List V) (s : Nat) : cutV xs (some (s : Int)) none = xs.drop s := by
 rcases Nat.le_total s xs.length with h | h
 ·exact cut_from xs s h
 ·unfold cutV
  rw [HT.sIx_nat, HT.sIx_none, Nat.min_eq_right h, List.drop_length, List.drop_of_length_le h]
  simp
end L2
namespace L2
open PySem PySem.Spec PyProof.Rows
section
variable {prog : Program} {w : World} {A : Around} {E : Value -> Shared -> Prop} {s : Shared}
end
end L2
namespace L2
open PySem PySem.Spec PyProof.Rows
section
variable {prog : Program} {w : World} {A : Around} {E : Value -> Shared -> Prop} {s : Shared}
end
end L2
namespace L2
open PySem PySem.Spec PyProof.Rows
section
variable {prog : Program} {w : World} {A : Around} {E : Value -> Shared -> Prop} {s : Shared}
end
end L2
namespace L2
open PySem PySem.Spec PyProof.Rows
structure SB (a₀ : Array Keyed) (st : SortSt) : Prop where
 perm : (arrOf st).Perm a₀
 kind : kindOf st = oneType'
 failed : failedOf st = none
section
variable {prog : Program} {w : World} {A : Around} {E : Value -> Shared -> Prop} {s : Shared} {a₀ : Array Keyed}
end
end L2
namespace L2
open PySem PySem.Spec PyProof.Rows
section
variable {prog : Program} {w : World} {A : Around} {E : Value -> Shared -> Prop} {s : Shared} {a₀ : Array Keyed}
end
end L2
namespace L2
open PySem PySem.Spec PyProof.Rows
section
variable {prog : Program} {w : World} {A : Around} {E : Value -> Shared -> Prop} {s : Shared} {a₀ : Array Keyed}
end
end L2
namespace L2
open PySem PySem.Spec PyProof.Rows
section
variable {prog : Program} {w : World} {A : Around} {E : Value -> Shared -> Prop} {s : Shared}
end
section
variable {X : Cx}
end
end L2
namespace L2
open PySem PySem.Spec PyProof.Rows
def SmG : Nat -> Hp -> V -> V -> Prop
 | 0, _, _, _ => False
 | n + 1, H, x, y => (∃ i : Int, x = .int i /\ y = .int i) \/ (∃ b : Bool, x = .bl b /\ y = .bl b) \/ (x = .non /\ y = .non) \/ (∃ z : Str, x = .str z /\ y = .str z) \/
   (∃ (f d : Addr) (xs ys : List V), x = .ref f /\ y = .ref d /\ ((H f = some (.tup xs) /\ H d = some (.tup ys)) \/ (H f = some (.lst xs) /\ H d = some (.lst ys))) /\ xs.length = ys.length /\ xs.length <= 100000 /\
    ∀ (i : Nat) (x y : V), xs[i]? = some x -> ys[i]? = some y -> SmG n H x y)
theorem SmG.mv {H H' : Hp} (s : Same H H') : ∀ {n : Nat} {x y : V}, SmG n H x y -> SmG n H' x y
 | 0, _, _, h => h.elim
 | n + 1, x, y, h => by
  rcases h with h | h | h | h | ⟨f, d, xs, ys, e1, e2, h, hl, hb, k⟩
  ·exact .inl h
  ·exact .inr (.inl h)
  ·exact .inr (.inr (.inl h))
  ·exact .inr (.inr (.inr (.inl h)))
  ·refine .inr (.inr (.inr (.inr ⟨f, d, xs, ys, e1, e2, ?_, hl, hb, fun i x y hx hy => SmG.mv s (k i x y hx hy)⟩)))
   rcases h with ⟨h1, h2⟩ | ⟨h1, h2⟩
   ·exact .inl ⟨s _ _ h1, s _ _ h2⟩
   ·exact .inr ⟨s _ _ h1, s _ _ h2⟩
theorem SmG.int {n : Nat} {H : Hp} (i : Int) : SmG (n + 1) H (.int i) (.int i) := .inl ⟨i, rfl, rfl⟩
theorem SmG.bl {n : Nat} {H : Hp} (b : Bool) : SmG (n + 1) H (.bl b) (.bl b) := .inr (.inl ⟨b, rfl, rfl⟩)
theorem SmG.tup {n : Nat} {H : Hp} {f d : Addr} {xs ys : List V} (h1 : H f = some (.tup xs)) (h2 : H d = some (.tup ys)) (hl : xs.length = ys.length) (hb : xs.length <= 100000) (k : ∀ (i : Nat) (x y : V), xs[i]? = some x -> ys[i]? = some y -> SmG n H x y) : SmG (n + 1) H (.ref f) (.ref d) :=
 .inr (.inr (.inr (.inr ⟨f, d, xs, ys, rfl, rfl, .inl ⟨h1, h2⟩, hl, hb, k⟩)))
theorem SmG.lst {n : Nat} {H : Hp} {f d : Addr} {xs ys : List V} (h1 : H f = some (.lst xs)) (h2 : H d = some (.lst ys)) (hl : xs.length = ys.length) (hb : xs.length <= 100000) (k : ∀ (i : Nat) (x y : V), xs[i]? = some x -> ys[i]? = some y -> SmG n H x y) : SmG (n + 1) H (.ref f) (.ref d) :=
 .inr (.inr (.inr (.inr ⟨f, d, xs, ys, rfl, rfl, .inr ⟨h1, h2⟩, hl, hb, k⟩)))
theorem all2_sm {α : Type} {R S : α -> V -> Hp -> Prop} {n : Nat} {H : Hp} {l : List α} {xs ys : List V} (a1 : All2 R H l xs) (a2 : All2 S H l ys) (k : ∀ a x y, a ∈ l -> R a x H -> S a y H -> SmG n H x y) : xs.length = ys.length /\ ∀ (i : Nat) (x y : V), xs[i]? = some x -> ys[i]? = some y -> SmG n H x y := by
 refine ⟨by rw [<- a1.length, a2.length], fun i x y hx hy => ?_⟩
 obtain ⟨a, ha, r⟩ := a1.get hx
 obtain ⟨b, hb, r'⟩ := a2.get hy
 rw [ha] at hb
 cases hb
 exact k a x y (List.mem_of_getElem? ha) r r'
theorem SmG.lstR {α : Type} {R S : α -> V -> Hp -> Prop} {n : Nat} {H : Hp} {f d : Addr} {l : List α} {xs ys : List V} (h1 : H f = some (.lst xs)) (h2 : H d = some (.lst ys)) (a1 : All2 R H l xs) (a2 : All2 S H l ys) (hl : l.length <= 100000) (k : ∀ a x y, a ∈ l -> R a x H -> S a y H -> SmG n H x y) : SmG (n + 1) H (.ref f) (.ref d) :=
 .lst h1 h2 (all2_sm a1 a2 k).1 (by rw [<- a1.length]; exact hl) (all2_sm a1 a2 k).2
theorem SmG.ints {H : Hp} {n : Nat} {f d : Addr} {ns : List Int} (h1 : H f = some (.tup (ns.map V.int))) (h2 : H d = some (.tup (ns.map V.int))) (hl : ns.length <= 100000) : SmG (n + 2) H (.ref f) (.ref d) :=
 .tup h1 h2 rfl (by rw [List.length_map]; exact hl) fun i x y hx hy => by
  obtain ⟨z, hz, rfl⟩ := map_at hx
  obtain ⟨z', hz', rfl⟩ := map_at hy
  rw [hz] at hz'
  cases hz'
  exact .int z
def plainV : V -> Prop
 | .non => True | .bl _ => True | .int _ => True | .str _ => True | .ref _ => True
 | _ => False
theorem op_isG {X : Cx} : OpR X (compareOp .Is) (fun x y H Q => ∃ c : Bool, y = .bl c /\ plainV x /\ Q (.bl (decide (x = .bl c))) H) := by
 intro pins s σ H x y v u Q I rx ry h
 obtain ⟨c, rfl, hx, q⟩ := h
 cases ry
 cases x with
 | non => cases rx; refine wpAny_is_plain rfl ⟨.bl _, H, I, ?_, q⟩; rfl
 | bl b => cases rx; refine wpAny_is_plain rfl ⟨.bl _, H, I, ?_, q⟩; cases b <;> cases c <;> rfl
 | int i => obtain ⟨t, rfl⟩ := rx; refine wpAny_is_plain rfl ⟨.bl _, H, I, ?_, q⟩; rfl
 | str z => obtain ⟨t, rfl⟩ := rx; refine wpAny_is_plain rfl ⟨.bl _, H, I, ?_, q⟩; rfl
 | ref a => cases rx; refine wpAny_is_plain rfl ⟨.bl _, H, I, ?_, q⟩; rfl
 | byt b => exact hx.elim
 | flt b => exact hx.elim
 | ty b => exact hx.elim
theorem slice_any {K : PySem.W.Frag} {H : Hp} {p : Addr} {xs : List V} {lo hi : Option Int} {Q : VK} (hp : H p = some (.tup xs)) (k : ∀ q H', H' q = some (.tup (cutV xs lo hi)) -> Same H H' -> Q (.ref q) H') : rSlTA K (.ref p) lo hi H Q := by
 by_cases hw : HT.sIx xs.length 0 lo = 0 /\ HT.sIx xs.length xs.length hi = xs.length
 ·refine .inl ⟨p, xs, rfl, SqT.of hp, hw, k p H ?_ fun _ _ z => z⟩
  unfold cutV
  rw [hw.1, hw.2, List.drop_zero, Nat.sub_zero, List.take_length]
  exact hp
 ·exact .inr ⟨p, xs, rfl, SqT.of hp, hw, fun q hq => k q _ upd_same (Same.new hq)⟩
end L2
namespace L2
open PySem PySem.Spec PyProof.Rows
theorem lies_counts {a b : List Int} (h : ∀ x, a.count x <= b.count x) : lies a b = true := List.all_eq_true.mpr fun x _ => decide_eq_true (h x)
section
variable {prog : Program} {w : World} {A : Around} {E : Value -> Shared -> Prop} {s : Shared}
theorem sorted_intsL {l : Addr} {vs : List Value} {ns : List Int} {Q : Value -> Shared -> Prop} (hl : s.heap.IsList l vs.toArray) (hI : IntsAre vs ns) (h64 : vs.length < 64)
  (h : ∀ (out : List Value) (n : Nat) (h1 h' : Heap) (ns' : List Int), (∀ b o, s.heap.get? b = some o -> h1.get? b = some o) -> (∀ b o, h1.get? b = some o -> h'.get? b = some o) -> h'.get? h1.objs.size = some (seqObj "list" out.toArray n) -> IntsAre out ns' -> ns'.Perm ns -> ns'.Pairwise (· <= ·) -> Q (.ref h1.objs.size) { s with heap := h' }) :
  wpAny (model prog w) A (call (.builtin "sorted") [.ref l]) Q E s := by
 refine Calls.call_function_entry kind_sorted plain_sorted entry_sorted (args_sorted1 _) ?_
 unfold Builtin.«sorted»
 refine wpAny_bind (m := checkCount "sorted" 1 1 _) (wpAny_pure ?_)
 obtain ⟨o, ho, hc, n, hd⟩ := hl
 refine wpAny_bind (wpAny_collect_seq l (.inl rfl) ho hc hd (fun h1 hk1 => ?_) (by simp [sizeLine_eq]; omega))
 refine wpAny_bind (wpAny_newList ?_)
 have hoL : (h1.push (seqObj "list" vs.toArray 0)).get? h1.objs.size = some (seqObj "list" vs.toArray 0) := Heap.get?_push_size _ rfl
 refine wpAny_bind (wpAny_holding (wpAny_call_entry slot_list_sort ⟨_, hoL, rfl⟩ entry_list_sort (list_sort_tree hoL hI h64 fun out ns' a1 a2 a3 => ⟨_, rfl, ?_⟩) (args_list_sort _)))
 obtain ⟨e, he⟩ := sortedHeap_at (vs := vs) (out := out) hoL
 refine wpAny_pure ⟨_, rfl, h out.toList e h1 _ ns' hk1 (fun b o hb => ?_) he a1 a2 a3⟩
 have hlt := Heap.lt_size hb
 rw [sortedHeap_old (Nat.ne_of_lt hlt) (by rw [Heap.size_push]; exact Nat.lt_succ_of_lt hlt)]
 exact Heap.get?_push_of_some _ hb
end
theorem call_sortL {X : Cx} : CallR X (.builtin "sorted") (fun xs H Q => ∃ (a : Addr) (ns : List Int), xs = [.ref a] /\ SqL X.K H a (ns.map V.int) /\ ns.length < 64 /\ ∀ (ns' : List Int) (p : Addr), ns'.Perm ns -> ns'.Pairwise (· <= ·) -> H p = none -> Q (.ref p) (upd H p (.lst (ns'.map V.int)))) := by
 intro pins s σ H xs us Q I r h
 obtain ⟨a, ns, rfl, hq, hl, q⟩ := h
 obtain ⟨u, rfl, rx⟩ := vals1 r
 cases rx
 obtain ⟨its, r', pl, hz⟩ := I.list hq
 have hlen := r'.length
 rw [List.length_map] at hlen
 refine sorted_intsL pl.isList (intsAre_of r') (by omega) fun out n h1 h' ns' k1 k2 e a1 a2 a3 => ?_
 have hz' : (ns'.map V.int).length <= sizeLine := by rw [List.length_map, a2.length_eq]; exact small64 hl
 have I2 : Inv X pins σ H { s with heap := h1 } := I.kept (t' := s.toks) k1
 exact ⟨.ref _, _, I2.laid (t' := s.toks) k2 (Nat.le_refl _) (show ObjOk X.prog X.w _ _ _ (.lst (ns'.map V.int)) from ⟨hz', out, n, vals_ints a1, by simpa [seqObj] using e⟩), rfl, q ns' _ a2 a3 (I2.hok.fresh (Nat.le_refl _))⟩
end L2
namespace L2
open PySem PySem.Spec PyProof.Rows
def maxL (f : Nat -> Nat) : List Int -> Nat
 | [] => 0
 | j :: c => max (f j.toNat) (maxL f c)
theorem maxL_le {f : Nat -> Nat} {B : Nat} (h : ∀ j, f j <= B) : ∀ c, maxL f c <= B
 | [] => Nat.zero_le _
 | j :: c => by
  have := h j.toNat
  have := maxL_le h c
  rw [maxL]
  omega
theorem flat_count_none {α : Type} (f : α -> List Int) (x : Int) : ∀ ds : List α, (∀ d ∈ ds, x ∉ f d) -> (ds.flatMap f).count x = 0 := fun ds h => List.count_eq_zero_of_not_mem fun z => by
 obtain ⟨d, hd, hx⟩ := List.mem_flatMap.mp z
 exact h d hd hx
theorem flat_count_one {α : Type} (f parts : α -> List Int) (x : Int) (d0 : α) : ∀ ds : List α, (ds.flatMap parts).Nodup -> (∀ d ∈ ds, ∀ y ∈ f d, y ∈ parts d) -> d0 ∈ ds -> x ∈ parts d0 -> (ds.flatMap f).count x = (f d0).count x
 | [], _, _, h, _ => by cases h
 | d :: ds, hn, hp, hd, hx => by
  rw [List.flatMap_cons] at hn
  have hn2 := (List.nodup_append.mp hn).2.1
  have hdj := (List.nodup_append.mp hn).2.2
  rw [List.flatMap_cons, List.count_append]
  rcases List.mem_cons.mp hd with e | hd
  ·subst e
   rw [flat_count_none f x ds fun d' hd' hx' => hdj x hx x (List.mem_flatMap.mpr ⟨d', hd', hp d' (List.mem_cons_of_mem _ hd') x hx'⟩) rfl]
   rfl
  ·have h0 : (f d).count x = 0 := List.count_eq_zero_of_not_mem fun z => hdj x (hp d (by simp) x z) x (List.mem_flatMap.mpr ⟨d0, hd, hx⟩) rfl
   rw [h0, Nat.zero_add]
   exact flat_count_one f parts x d0 ds hn2 (fun d' hd' => hp d' (List.mem_cons_of_mem _ hd')) hd hx
theorem flat_sum {α : Type} (f : α -> List Int) : ∀ ds : List α, (ds.flatMap f).sum = (ds.map fun d => (f d).sum).sum
 | [] => rfl
 | d :: ds => by rw [List.flatMap_cons, List.sum_append, flat_sum f ds, List.map_cons, List.sum_cons]
theorem cols_sum {α : Type} {ds : List α} {row : α -> Nat -> List Int} {lev : α -> Nat -> Nat} {parts : α -> List Int} {A : List (List Int)} (hn : (ds.flatMap parts).Nodup)
  (hp : ∀ d ∈ ds, ∀ v, ∀ x ∈ row d v, x ∈ parts d) (hz : ∀ d ∈ ds, row d 0 = []) (hl : ∀ d ∈ ds, ∀ j, lev d j <= 2) (hm : ∀ d ∈ ds, ∀ v w x, v <= w -> w <= 2 -> (row d v).count x <= (row d w).count x)
  (hA : ∀ j x, (A.getD j []).count x = (ds.flatMap fun d => row d (lev d j)).count x) (c : List Int) : (joinX (pickG A c)).sum = (ds.map fun d => (row d (maxL (lev d) c)).sum).sum := by
 rw [<- flat_sum fun d => row d (maxL (lev d) c)]
 refine perm_sum (List.perm_iff_count.mpr fun x => ?_)
 rw [(joinX_is _).2]
 by_cases hx : ∃ d0 ∈ ds, x ∈ parts d0
 ·obtain ⟨d0, hd0, hx0⟩ := hx
  rw [flat_count_one (fun d => row d (maxL (lev d) c)) parts x d0 ds hn (fun d hd => hp d hd _) hd0 hx0]
  unfold pickG
  induction c with
  | nil =>
   show 0 = (row d0 0).count x
   rw [hz d0 hd0]
   rfl
  | cons j c ih =>
   rw [List.map_cons, maxC, ih, hA, flat_count_one (fun d => row d (lev d j.toNat)) parts x d0 ds hn (fun d hd => hp d hd _) hd0 hx0, maxL]
   have b1 := hl d0 hd0 j.toNat
   have b2 := maxL_le (hl d0 hd0) c
   rcases Nat.le_total (lev d0 j.toNat) (maxL (lev d0) c) with h | h
   ·rw [Nat.max_eq_right h]
    exact Nat.max_eq_right (hm d0 hd0 _ _ x h b2)
   ·rw [Nat.max_eq_left h]
    exact Nat.max_eq_left (hm d0 hd0 _ _ x h b1)
 ·have no : ∀ (g : α -> Nat), (ds.flatMap fun d => row d (g d)).count x = 0 := fun g => flat_count_none _ x ds fun d hd z => hx ⟨d, hd, hp d hd _ x z⟩
  rw [no fun d => maxL (lev d) c]
  refine Nat.le_zero.mp (maxC_le fun l hl' => ?_)
  obtain ⟨j, _, rfl⟩ := List.mem_map.mp hl'
  rw [hA, no fun d => lev d j.toNat]
  exact Nat.le_refl _
structure LD where
 L : Nat
 R : Nat
 m : Nat
 k : Nat
 sp : Bool
 lev : List Nat
structure LD.Ok (d : LD) : Prop where
 l1 : 1 <= d.L
 l8 : d.L <= 8
 r1 : 1 <= d.R
 r8 : d.R <= 8
 m8 : d.m <= 8
 k8 : d.k <= 8
 eq : d.L * d.m = d.R * d.k
 dv : d.sp = true -> d.R * (d.L / d.R) = d.L /\ d.R < d.L
 lv : ∀ v ∈ d.lev, v <= 2
 mR : d.m <= d.R
 kL : d.k <= d.L
def LD.at (d : LD) (j : Nat) : Nat := d.lev.getD j 0
theorem LD.Ok.at {d : LD} (h : d.Ok) (j : Nat) : d.at j <= 2 := by
 unfold LD.at
 rw [List.getD_eq_getElem?_getD]
 cases e : d.lev[j]? with
 | none => exact Nat.zero_le _
 | some v => exact h.lv v (List.mem_of_getElem? e)
def LD.cut (d : LD) (v : Nat) : Nat := if v = 0 then 0 else if v = 1 then 1 else 1 + d.L / d.R
def LD.lrow (d : LD) (v : Nat) : List Int := if d.sp then List.replicate v (d.L : Int) else List.replicate (v * d.m) (d.L : Int)
def LD.rrow (d : LD) (v : Nat) : List Int := if d.sp then ((d.L : Int) :: List.replicate (d.L / d.R) (d.R : Int)).take (d.cut v) else List.replicate (v * d.k) (d.R : Int)
def LD.lparts (d : LD) : List Int := [(d.L : Int)]
def LD.rparts (d : LD) : List Int := if d.sp then [(d.R : Int), (d.L : Int)] else [(d.R : Int)]
theorem rep_mul (n : Nat) (x : Int) : (List.replicate n x).sum = n * x := sum_rep n x
theorem LD.sums {d : LD} (h : d.Ok) {v : Nat} (hv : v <= 2) : (d.lrow v).sum = (d.rrow v).sum := by
 unfold LD.lrow LD.rrow
 cases hs : d.sp with
 | false =>
  rw [if_neg (by decide), if_neg (by decide), rep_mul, rep_mul]
  have e := h.eq
  have : ((v * d.m * d.L : Nat) : Int) = ((v * d.k * d.R : Nat) : Int) := by
   rw [Nat.mul_assoc, Nat.mul_comm d.m, e, Nat.mul_comm d.R, Nat.mul_assoc]
  simpa using this
 | true =>
  rw [if_pos rfl, if_pos rfl, rep_mul]
  have e := (h.dv hs).1
  match v, hv with
  | 0, _ => simp [LD.cut]
  | 1, _ => simp [LD.cut]
  | 2, _ =>
   have ec : d.cut 2 = 1 + d.L / d.R := rfl
   rw [ec, List.take_of_length_le (by simp; omega), List.sum_cons, rep_mul]
   have : ((2 * d.L : Nat) : Int) = ((d.L + d.L / d.R * d.R : Nat) : Int) := by
    rw [Nat.mul_comm (d.L / d.R), e]
    omega
   simpa using this
theorem LD.lsub (d : LD) (v : Nat) : ∀ x ∈ d.lrow v, x ∈ d.lparts := fun x hx => by
 unfold LD.lrow at hx
 unfold LD.lparts
 split at hx <;> rw [List.eq_of_mem_replicate hx] <;> simp
theorem LD.rsub (d : LD) (v : Nat) : ∀ x ∈ d.rrow v, x ∈ d.rparts := fun x hx => by
 unfold LD.rrow at hx
 unfold LD.rparts
 cases hs : d.sp with
 | false =>
  rw [hs, if_neg (by decide)] at hx
  rw [if_neg (by decide), List.eq_of_mem_replicate hx]
  simp
 | true =>
  rw [hs, if_pos rfl] at hx
  rw [if_pos rfl]
  rcases List.mem_cons.mp (List.mem_of_mem_take hx) with h | h
  ·rw [h]; simp
  ·rw [List.eq_of_mem_replicate h]; simp
theorem LD.lmono (d : LD) {v w : Nat} (x : Int) (h : v <= w) : (d.lrow v).count x <= (d.lrow w).count x := by
 unfold LD.lrow
 split
 ·rw [List.count_replicate, List.count_replicate]
  split <;> omega
 ·rw [List.count_replicate, List.count_replicate]
  split
  ·exact Nat.mul_le_mul_right _ h
  ·exact Nat.le_refl _
theorem LD.rmono (d : LD) {v w : Nat} (x : Int) (h : v <= w) : (d.rrow v).count x <= (d.rrow w).count x := by
 unfold LD.rrow
 split
 ·refine List.Sublist.count_le x ?_
  have hc : d.cut v <= d.cut w := by
   unfold LD.cut
   generalize d.L / d.R = q
   by_cases v0 : v = 0
   ·rw [if_pos v0]; omega
   ·by_cases w0 : w = 0
    ·omega
    ·rw [if_neg v0, if_neg w0]
     by_cases v1 : v = 1
     ·rw [if_pos v1]; split <;> omega
     ·rw [if_neg v1, if_neg (by omega)]; omega
  have e : ((d.L : Int) :: List.replicate (d.L / d.R) (d.R : Int)).take (d.cut v) = (((d.L : Int) :: List.replicate (d.L / d.R) (d.R : Int)).take (d.cut w)).take (d.cut v) := by rw [List.take_take, Nat.min_eq_left hc]
  rw [e]
  exact List.take_sublist _ _
 ·rw [List.count_replicate, List.count_replicate]
  split
  ·exact Nat.mul_le_mul_right _ h
  ·exact Nat.le_refl _
theorem LD.lzero (d : LD) : d.lrow 0 = [] := by unfold LD.lrow; split <;> simp
theorem LD.rzero (d : LD) : d.rrow 0 = [] := by unfold LD.rrow; split <;> simp [LD.cut]
def lefH (ds : List LD) (j : Nat) : List Int := ds.flatMap fun d => d.lrow (d.at j)
def rigH (ds : List LD) (j : Nat) : List Int := ds.flatMap fun d => d.rrow (d.at j)
structure LDs (ds : List LD) (n : Nat) : Prop where
 ok : ∀ d ∈ ds, d.Ok
 ln : ∀ d ∈ ds, d.lev.length = n
 l : (ds.flatMap LD.lparts).Nodup
 r : (ds.flatMap LD.rparts).Nodup
 few : ds.length <= 4
def sideR (f : List LD -> Nat -> List Int) (ds : List LD) (n : Nat) : List (List Int) := (List.range n).map fun j => sortD (f ds j)
theorem sideR_at {f : List LD -> Nat -> List Int} {ds : List LD} {n : Nat} (h0 : ∀ j, n <= j -> f ds j = []) (j : Nat) (x : Int) : ((sideR f ds n).getD j []).count x = (f ds j).count x := by
 unfold sideR
 rw [getD_map_nil]
 by_cases h : j < n
 ·rw [List.getElem?_range h]
  exact sort_count _ x
 ·rw [List.getElem?_eq_none_iff.mpr (by rw [List.length_range]; omega), h0 j (by omega)]
theorem LD.at_out {d : LD} {j : Nat} (h : d.lev.length <= j) : d.at j = 0 := by
 unfold LD.at
 rw [List.getD_eq_getElem?_getD, List.getElem?_eq_none_iff.mpr h]
 rfl
theorem sides_match {ds : List LD} {n : Nat} (h : LDs ds n) (c : List Int) : (joinX (pickG (sideR lefH ds n) c)).sum = (joinX (pickG (sideR rigH ds n) c)).sum := by
 have out : ∀ (g : LD -> Nat -> List Int), (∀ d, g d 0 = []) -> ∀ j, n <= j -> (ds.flatMap fun d => g d (d.at j)) = [] := fun g hg j hj => by
  refine List.flatMap_eq_nil_iff.mpr fun d hd => ?_
  rw [LD.at_out (by rw [h.ln d hd]; exact hj), hg]
 rw [cols_sum (row := LD.lrow) (lev := LD.at) h.l (fun d _ => d.lsub) (fun d _ => d.lzero) (fun d hd => (h.ok d hd).at) (fun d _ v w x hv _ => d.lmono x hv) (fun j x => sideR_at (f := lefH) (out LD.lrow LD.lzero) j x) c,
  cols_sum (row := LD.rrow) (lev := LD.at) h.r (fun d _ => d.rsub) (fun d _ => d.rzero) (fun d hd => (h.ok d hd).at) (fun d _ v w x hv _ => d.rmono x hv) (fun j x => sideR_at (f := rigH) (out LD.rrow LD.rzero) j x) c]
 congr 1
 exact List.map_congr_left fun d hd => LD.sums (h.ok d hd) (maxL_le (h.ok d hd).at c)
structure Matched (one other : List (List Int)) (n : Nat) : Prop where
 l1 : one.length = n
 l2 : other.length = n
 g1 : ∀ h ∈ one, h.length <= 64 /\ (∀ x ∈ h, 1 <= x /\ x <= 8) /\ h.Pairwise (· >= ·)
 g2 : ∀ h ∈ other, h.length <= 64 /\ (∀ x ∈ h, 1 <= x /\ x <= 8) /\ h.Pairwise (· >= ·)
 eq : ∀ c, (joinX (pickG one c)).sum = (joinX (pickG other c)).sum
theorem Matched.swap {one other : List (List Int)} {n : Nat} (h : Matched one other n) : Matched other one n := ⟨h.l2, h.l1, h.g2, h.g1, fun c => (h.eq c).symm⟩
theorem flat_len_le {α : Type} (f : α -> List Int) (B : Nat) : ∀ ds : List α, (∀ d ∈ ds, (f d).length <= B) -> (ds.flatMap f).length <= B * ds.length
 | [], _ => Nat.zero_le _
 | d :: ds, h => by
  have h1 := h d (by simp)
  have h2 := flat_len_le f B ds fun x hx => h x (List.mem_cons_of_mem _ hx)
  rw [List.flatMap_cons, List.length_append, List.length_cons, Nat.mul_succ]
  omega
theorem LD.lrow_len {d : LD} (h : d.Ok) {v : Nat} (hv : v <= 2) : (d.lrow v).length <= 16 := by
 unfold LD.lrow
 split
 ·rw [List.length_replicate]; omega
 ·rw [List.length_replicate]
  have := Nat.mul_le_mul hv h.m8
  omega
theorem LD.rrow_len {d : LD} (h : d.Ok) {v : Nat} (hv : v <= 2) : (d.rrow v).length <= 16 := by
 unfold LD.rrow
 split
 ·rw [List.length_take, List.length_cons, List.length_replicate]
  have := Nat.div_le_self d.L d.R
  have := h.l8
  omega
 ·rw [List.length_replicate]
  have := Nat.mul_le_mul hv h.k8
  omega
theorem LD.bound {d : LD} (h : d.Ok) : (∀ x ∈ d.lparts, 1 <= x /\ x <= 8) /\ ∀ x ∈ d.rparts, 1 <= x /\ x <= 8 := by
 have a := h.l1; have b := h.l8; have c := h.r1; have e := h.r8
 constructor
 ·intro x hx
  unfold LD.lparts at hx
  have : x = d.L := by simpa using hx
  omega
 ·intro x hx
  unfold LD.rparts at hx
  split at hx
  ·have : x = d.R \/ x = d.L := by simpa using hx
   omega
  ·have : x = d.R := by simpa using hx
   omega
theorem matched_of {ds : List LD} {n : Nat} (h : LDs ds n) : Matched (sideR lefH ds n) (sideR rigH ds n) n := by
 have ln : ∀ f, (sideR f ds n).length = n := fun f => by unfold sideR; rw [List.length_map, List.length_range]
 refine ⟨ln _, ln _, fun x hx => ?_, fun x hx => ?_, sides_match h⟩
 ·obtain ⟨j, _, rfl⟩ := List.mem_map.mp hx
  refine ⟨?_, fun y hy => ?_, sortD_pw _⟩
  ·rw [(sortD_perm _).length_eq]
   have := flat_len_le (fun d : LD => d.lrow (d.at j)) 16 ds fun d hd => LD.lrow_len (h.ok d hd) ((h.ok d hd).at j)
   have := Nat.mul_le_mul_left 16 h.few
   unfold lefH
   omega
  ·obtain ⟨d, hd, hy'⟩ := List.mem_flatMap.mp ((sortD_perm _).mem_iff.mp hy)
   exact (LD.bound (h.ok d hd)).1 y (d.lsub _ y hy')
 ·obtain ⟨j, _, rfl⟩ := List.mem_map.mp hx
  refine ⟨?_, fun y hy => ?_, sortD_pw _⟩
  ·rw [(sortD_perm _).length_eq]
   have := flat_len_le (fun d : LD => d.rrow (d.at j)) 16 ds fun d hd => LD.rrow_len (h.ok d hd) ((h.ok d hd).at j)
   have := Nat.mul_le_mul_left 16 h.few
   unfold rigH
   omega
  ·obtain ⟨d, hd, hy'⟩ := List.mem_flatMap.mp ((sortD_perm _).mem_iff.mp hy)
   exact (LD.bound (h.ok d hd)).2 y (d.rsub _ y hy')
theorem sum2_le (f : LD -> List Int) (g : LD -> Nat) : ∀ ds : List LD, (∀ d ∈ ds, g d <= 8 /\ (g d : Int) ∈ f d) -> (ds.flatMap f).Nodup -> (ds.map fun d => 2 * g d).sum <= 14 * ds.length + (if (8 : Int) ∈ ds.flatMap f then 2 else 0)
 | [], _, _ => Nat.zero_le _
 | d :: ds, h, hn => by
  obtain ⟨h1, h2⟩ := h d (by simp)
  rw [List.flatMap_cons] at hn
  obtain ⟨_, n2, n3⟩ := List.nodup_append.mp hn
  have ih := sum2_le f g ds (fun x hx => h x (List.mem_cons_of_mem _ hx)) n2
  rw [List.map_cons, List.sum_cons, List.length_cons, List.flatMap_cons]
  by_cases c : g d = 8
  ·have h2 : (8 : Int) ∈ f d := by rw [c] at h2; exact h2
   have n8 : (8 : Int) ∉ ds.flatMap f := fun z => n3 8 h2 8 z rfl
   rw [if_neg n8] at ih
   rw [if_pos (List.mem_append_left _ h2)]
   omega
  ·by_cases c8 : (8 : Int) ∈ ds.flatMap f
   ·rw [if_pos c8] at ih
    rw [if_pos (List.mem_append_right _ c8)]
    omega
   ·rw [if_neg c8] at ih
    omega
theorem flat_sum_le {α : Type} (f : α -> List Int) (g : α -> Nat) : ∀ ds : List α, (∀ d ∈ ds, (f d).length <= g d) -> (ds.flatMap f).length <= (ds.map g).sum
 | [], _ => Nat.zero_le _
 | d :: ds, h => by
  have h1 := h d (by simp)
  have h2 := flat_sum_le f g ds fun x hx => h x (List.mem_cons_of_mem _ hx)
  rw [List.flatMap_cons, List.length_append, List.map_cons, List.sum_cons]
  omega
theorem rows_lt {ds : List LD} {n : Nat} (h : LDs ds n) (j : Nat) : (lefH ds j).length < 64 /\ (rigH ds j).length < 64 := by
 have h1 : (lefH ds j).length <= (ds.map fun d => 2 * d.R).sum := flat_sum_le _ _ ds fun d hd => by
  have ok := h.ok d hd
  have hv := ok.at j
  unfold LD.lrow
  split
  ·rw [List.length_replicate]
   have := ok.r1
   omega
  ·rw [List.length_replicate]
   exact Nat.mul_le_mul hv ok.mR
 have h2 : (rigH ds j).length <= (ds.map fun d => 2 * d.L).sum := flat_sum_le _ _ ds fun d hd => by
  have ok := h.ok d hd
  have hv := ok.at j
  unfold LD.rrow
  split
  ·rw [List.length_take, List.length_cons, List.length_replicate]
   have := Nat.div_le_self d.L d.R
   have := ok.l1
   omega
  ·rw [List.length_replicate]
   exact Nat.mul_le_mul hv ok.kL
 have h3 := sum2_le LD.rparts LD.R ds (fun d hd => ⟨(h.ok d hd).r8, by unfold LD.rparts; split <;> simp⟩) h.r
 have h4 := sum2_le LD.lparts LD.L ds (fun d hd => ⟨(h.ok d hd).l8, by simp [LD.lparts]⟩) h.l
 have h5 := h.few
 constructor
 ·split at h3 <;> omega
 ·split at h4 <;> omega
def Lst1 (row : List Int) (v : V) (H : Hp) : Prop := ∃ q, v = .ref q /\ H q = some (.lst (row.map V.int))
theorem Lst1.mv {H H' : Hp} {row : List Int} {v : V} (s : Same H H') : Lst1 row v H -> Lst1 row v H'
 | ⟨q, e, h⟩ => ⟨q, e, s _ _ h⟩
theorem All2.mvI {H H' : Hp} {rows : List (List Int)} {xs : List V} (s : Same H H') (h : All2 Lst1 H rows xs) : All2 Lst1 H' rows xs := h.imp fun _ _ z => z.mv s
theorem rep_flat (n : Nat) (x : Int) : (List.replicate n [V.int x]).flatten = (List.replicate n x).map V.int := by simp
theorem cut_take (xs : List V) (n : Nat) : cutV xs none (some (n : Int)) = xs.take n := cut_head xs n
def LstN (S : List Addr) (row : List Int) (v : V) (H : Hp) : Prop := ∃ q, v = .ref q /\ q ∉ S /\ H q = some (.lst (row.map V.int))
theorem LstN.mv {S : List Addr} {H H' : Hp} {row : List Int} {v : V} (k : Keep S H H') : LstN S row v H -> LstN S row v H'
 | ⟨q, e, n, h⟩ => ⟨q, e, n, k _ _ h n⟩
theorem All2.mvN {S : List Addr} {H H' : Hp} {rows : List (List Int)} {xs : List V} (k : Keep S H H') (h : All2 (LstN S) H rows xs) : All2 (LstN S) H' rows xs := h.imp fun _ _ z => z.mv k
theorem All2.toL {S : List Addr} {H : Hp} {rows : List (List Int)} {xs : List V} (h : All2 (LstN S) H rows xs) : All2 Lst1 H rows xs := by
 induction h with
 | nil => exact .nil
 | cons r _ ih => obtain ⟨q, e, _, h⟩ := r; exact .cons ⟨q, e, h⟩ ih
theorem nin_two {H : Hp} {a b q : Addr} {x y : HO} (ha : H a = some x) (hb : H b = some y) (hq : H q = none) : q ∉ [a, b] := fun z => by
 simp only [List.mem_cons, List.not_mem_nil, or_false] at z
 rcases z with rfl | rfl
 ·rw [hq] at ha; cases ha
 ·rw [hq] at hb; cases hb
theorem nin_two' {H : Hp} {a b q : Addr} {x : HO} (ha : H a = none) (hb : H b = none) (hq : H q = some x) : q ∉ [a, b] := fun z => by
 simp only [List.mem_cons, List.not_mem_nil, or_false] at z
 rcases z with rfl | rfl
 ·rw [hq] at ha; cases ha
 ·rw [hq] at hb; cases hb
theorem Keep.wide {S S' : List Addr} {H H' : Hp} (k : Keep S H H') (h : ∀ a ∈ S, a ∈ S') : Keep S' H H' := fun b o e n => k b o e fun z => n (h b z)
theorem lef_snoc (ds : List LD) (d : LD) (j : Nat) : lefH (ds ++ [d]) j = lefH ds j ++ d.lrow (d.at j) := by unfold lefH; rw [List.flatMap_append]; simp
theorem rig_snoc (ds : List LD) (d : LD) (j : Nat) : rigH (ds ++ [d]) j = rigH ds j ++ d.rrow (d.at j) := by unfold rigH; rw [List.flatMap_append]; simp
theorem LD.at_some {d : LD} {j v : Nat} (h : d.lev[j]? = some v) : d.at j = v := by unfold LD.at; rw [List.getD_eq_getElem?_getD, h]; rfl
structure LDi (ds : List LD) (n i : Nat) : Prop where
 ok : ∀ d ∈ ds, d.Ok
 ln : ∀ d ∈ ds, d.lev.length = n
 l : (ds.flatMap LD.lparts).Nodup
 r : (ds.flatMap LD.rparts).Nodup
 few : ds.length <= i
theorem LDi.nil (n : Nat) : LDi [] n 0 := ⟨(fun _ h => by cases h), (fun _ h => by cases h), List.nodup_nil, List.nodup_nil, Nat.le_refl _⟩
theorem LDi.lds {ds : List LD} {n i : Nat} (h : LDi ds n i) (hi : i <= 4) : LDs ds n := ⟨h.ok, h.ln, h.l, h.r, Nat.le_trans h.few hi⟩
theorem LDi.mono {ds : List LD} {n i j : Nat} (h : LDi ds n i) (hi : i <= j) : LDi ds n j := ⟨h.ok, h.ln, h.l, h.r, Nat.le_trans h.few hi⟩
theorem LDi.snoc {ds : List LD} {n i : Nat} {d : LD} (h : LDi ds n i) (ok : d.Ok) (ln : d.lev.length = n) (h1 : (d.L : Int) ∉ ds.flatMap LD.lparts) (h2 : (d.R : Int) ∉ ds.flatMap LD.rparts) (h3 : d.sp = true -> (d.L : Int) ∉ ds.flatMap LD.rparts) : LDi (ds ++ [d]) n (i + 1) := by
 refine ⟨fun x hx => ?_, fun x hx => ?_, ?_, ?_, by rw [List.length_append]; exact Nat.succ_le_succ h.few⟩
 ·rcases List.mem_append.mp hx with hx | hx
  ·exact h.ok x hx
  ·rw [List.mem_singleton.mp hx]; exact ok
 ·rcases List.mem_append.mp hx with hx | hx
  ·exact h.ln x hx
  ·rw [List.mem_singleton.mp hx]; exact ln
 ·rw [List.flatMap_append]
  refine List.nodup_append.mpr ⟨h.l, by simp [LD.lparts], fun x hx y hy e => ?_⟩
  have : y = d.L := by simpa [LD.lparts] using hy
  rw [e, this] at hx
  exact h1 hx
 ·rw [List.flatMap_append]
  have hne : d.sp = true -> (d.R : Int) ≠ d.L := fun z => by have := (ok.dv z).2; omega
  refine List.nodup_append.mpr ⟨h.r, ?_, fun x hx y hy e => ?_⟩
  ·cases hs : d.sp with
   | false => simp [LD.rparts, hs]
   | true => simp [LD.rparts, hs]; have := hne hs; omega
  ·subst e
   cases hs : d.sp with
   | false =>
    have : x = d.R := by simpa [LD.rparts, hs] using hy
    rw [this] at hx
    exact h2 hx
   | true =>
    have : x = d.R \/ x = d.L := by simpa [LD.rparts, hs] using hy
    rcases this with z | z
    ·rw [z] at hx; exact h2 hx
    ·rw [z] at hx; exact h3 hs hx
theorem lrows_len {ds : List LD} {n : Nat} (h : LDs ds n) (j : Nat) : (lefH ds j).length <= 64 /\ (rigH ds j).length <= 64 := by
 have h1 := flat_len_le (fun d : LD => d.lrow (d.at j)) 16 ds fun d hd => LD.lrow_len (h.ok d hd) ((h.ok d hd).at j)
 have h2 := flat_len_le (fun d : LD => d.rrow (d.at j)) 16 ds fun d hd => LD.rrow_len (h.ok d hd) ((h.ok d hd).at j)
 have := Nat.mul_le_mul_left 16 h.few
 unfold lefH rigH
 omega
theorem nil_rows (n : Nat) : (List.range n).map (lefH []) = List.replicate n [] /\ (List.range n).map (rigH []) = List.replicate n [] := by
 constructor <;> exact List.ext_getElem (by simp) fun i h1 h2 => by simp [lefH, rigH]
def LstF (H0 : Hp) (row : List Int) (v : V) (H : Hp) : Prop := ∃ q, v = .ref q /\ H0 q = none /\ H q = some (.lst (row.map V.int))
theorem All2.mvF {H0 H H' : Hp} {rows : List (List Int)} {xs : List V} (s : Same H H') (h : All2 (LstF H0) H rows xs) : All2 (LstF H0) H' rows xs := h.imp fun _ _ ⟨q, e, n, g⟩ => ⟨q, e, n, s _ _ g⟩
theorem All2.toN {H0 H : Hp} {S : List Addr} {rows : List (List Int)} {xs : List V} (f : ∀ q o, H q = some o -> H0 q = none -> q ∉ S) (h : All2 (LstF H0) H rows xs) : All2 (LstN S) H rows xs := by
 induction h with
 | nil => exact .nil
 | cons r _ ih => obtain ⟨q, e, n, g⟩ := r; exact .cons ⟨q, e, f q _ g n, g⟩ ih
def RuleB (rule : List (List Int)) : Prop := ∀ h ∈ rule, h.length <= 160
theorem RuleB.pick {rule : List (List Int)} (h : RuleB rule) {ch : List Int} (hc : ch.length <= 6) : (pickG rule ch).flatten.length < 1000 := by
 have : (pickG rule ch).flatten.length <= 160 * (pickG rule ch).length := flat_le fun l hl => by
  obtain ⟨j, hj, rfl⟩ := List.mem_map.mp hl
  rw [List.getD_eq_getElem?_getD]
  cases e : rule[j.toNat]? with
  | none => exact Nat.zero_le _
  | some x => exact h x (List.mem_of_getElem? e)
 have e : (pickG rule ch).length = ch.length := by unfold pickG; rw [List.length_map]
 rw [e] at this
 omega
end L2
namespace L2
open PySem PySem.Spec PyProof.Rows
theorem kf_of {its : List Value} {ns : List Int} (r : Vals (ns.map V.int) its) : PySem.W.kf_ints its = true := by
 induction ns generalizing its with
 | nil => cases r; rfl
 | cons n ns ih =>
  cases r with
  | cons r t =>
   obtain ⟨tk, rfl⟩ := r
   have h := ih t
   unfold PySem.W.kf_ints
   exact h
theorem first_ix : ∀ {ns : List Int} {z : Int}, z ∈ ns -> ∃ j, ns[j]? = some z /\ (∀ i, i < j -> ns[i]? ≠ some z) /\ ns.eraseIdx j = ns.erase z
 | x :: ns, z, h => by
  by_cases e : x = z
  ·subst e
   exact ⟨0, rfl, (fun i hi => by omega), by simp⟩
  ·have hz : z ∈ ns := by
    rcases List.mem_cons.mp h with h | h
    ·exact absurd h.symm e
    ·exact h
   obtain ⟨j, h1, h2, h3⟩ := first_ix hz
   refine ⟨j + 1, by simpa using h1, fun i hi => ?_, ?_⟩
   ·cases i with
    | zero => simpa using e
    | succ i => simpa using h2 i (by omega)
   ·rw [List.eraseIdx_cons_succ, h3, List.erase_cons_tail (by simpa using e)]
theorem isInt_at {its : List Value} {ns : List Int} {i : Nat} {y z : Int} (r : Vals (ns.map V.int) its) (h : ns[i]? = some y) : ∃ u, its[i]? = some u /\ isInt z u = decide (y = z) := by
 obtain ⟨u, hu, ru⟩ := r.get (i := i) (x := .int y) (by rw [List.getElem?_map, h]; rfl)
 obtain ⟨t, rfl⟩ := ru
 exact ⟨_, hu, rfl⟩
theorem hits {its : List Value} {ns : List Int} {j : Nat} {z : Int} (r : Vals (ns.map V.int) its) (h1 : ns[j]? = some z) (h2 : ∀ i, i < j -> ns[i]? ≠ some z) :
  ∃ hj : j < its.toArray.size, isInt z its.toArray[j] = true /\ ∀ m (hm : m < its.toArray.size), m < j -> isInt z its.toArray[m] = false := by
 have hl : ns.length = its.length := by rw [<- r.length, List.length_map]
 obtain ⟨u, hu, e⟩ := isInt_at (z := z) r h1
 have hj := (List.getElem?_eq_some_iff.mp hu).1
 refine ⟨by simpa using hj, ?_, fun m hm hlt => ?_⟩
 ·have : its.toArray[j]'(by simpa using hj) = u := by simpa using (List.getElem?_eq_some_iff.mp hu).2
  rw [this, e]
  simp
 ·have hm' : m < ns.length := by simp at hm; omega
  obtain ⟨u', hu', e'⟩ := isInt_at (z := z) (i := m) r (List.getElem?_eq_getElem hm')
  have : its.toArray[m] = u' := by simpa using (List.getElem?_eq_some_iff.mp hu').2
  rw [this, e']
  refine decide_eq_false fun q => h2 m hlt ?_
  rw [List.getElem?_eq_getElem hm', q]
def rRemove : V -> List V -> Hp -> VK -> Prop := fun x vs H Q => ∃ (l : Addr) (ns : List Int) (z : Int), x = .ref l /\ vs = [.int z] /\ H l = some (.lst (ns.map V.int)) /\ z ∈ ns /\ Q .non (upd H l (.lst ((ns.erase z).map V.int)))
theorem mt_remove {X : Cx} : MtR X "list.remove" rRemove := by
 intro pins s σ H x vs v us Q I rx rv h
 obtain ⟨l, ns, z, rfl, rfl, hH, hz, q⟩ := h
 cases rx
 obtain ⟨u, rfl, ru⟩ := rv.one
 obtain ⟨t, rfl⟩ := ru
 obtain ⟨zz, its, n, r, hl, e⟩ := I.lstM hH
 obtain ⟨j, h1, h2, h3⟩ := first_ix hz
 obtain ⟨hj, c1, c2⟩ := hits r h1 h2
 refine call_meets PySem.F.slot_list_remove ⟨_, e, rfl⟩ PySem.F.entry_list_remove (PySem.F.args_list_remove_2 _ _)
  (MeetsSeq.list_remove l its.toArray n (.int z t) (isInt z) (fun y hy => PySem.W.kf_eq (kf_of r) y (by simpa using hy)) j hj c1 c2 (by rw [List.size_toArray, <- hl]; exact zz)) ⟨e, ?_⟩
 have er := r.eraseIdx j
 rw [map_erase, h3] at er
 refine ⟨.non, _, I.lset (its' := its.eraseIdx j) hH e ?_ er ?_, rfl, q⟩
 ·show its.toArray.eraseIdxIfInBounds j = (its.eraseIdx j).toArray
  rw [List.eraseIdxIfInBounds_toArray]
 ·rw [List.length_map]
  have := List.length_erase_le (a := z) (l := ns)
  rw [List.length_map] at zz
  omega
def takeOut (ns ms : List Int) : List Int := ns.foldl (fun l x => l.erase x) ms
theorem takeOut_snoc (ns ms : List Int) (z : Int) : takeOut (ns ++ [z]) ms = (takeOut ns ms).erase z := by unfold takeOut; rw [List.foldl_append]; rfl
theorem takeOut_count : ∀ (ns ms : List Int) (x : Int), (takeOut ns ms).count x = ms.count x - ns.count x
 | [], ms, x => by simp [takeOut]
 | n :: ns, ms, x => by
  show (takeOut ns (ms.erase n)).count x = _
  rw [takeOut_count ns (ms.erase n) x, List.count_erase, List.count_cons]
  by_cases h : n = x
  ·subst h; simp; omega
  ·have h' : ¬ x = n := fun e => h e.symm
   simp [h, h']
theorem takeOut_sub (ns : List Int) : ∀ ms, (takeOut ns ms).Sublist ms := by
 unfold takeOut
 induction ns with
 | nil => exact fun ms => List.Sublist.refl _
 | cons n ns ih => exact fun ms => (ih (ms.erase n)).trans List.erase_sublist
theorem lies_all {ns ms : List Int} : lies ns ms = true ↔ ∀ x, ns.count x <= ms.count x := by
 constructor
 ·intro h x
  by_cases hx : x ∈ ns
  ·exact of_decide_eq_true (List.all_eq_true.mp h x hx)
  ·rw [List.count_eq_zero_of_not_mem hx]; exact Nat.zero_le _
 ·exact lies_counts
theorem take_in {ns ms : List Int} (h : lies ns ms = true) {i : Nat} {z : Int} (hz : ns[i]? = some z) : z ∈ takeOut (ns.take i) ms := by
 refine List.count_pos_iff.mp ?_
 rw [takeOut_count]
 have h1 := lies_all.mp h z
 have hi := (List.getElem?_eq_some_iff.mp hz).1
 have ez := (List.getElem?_eq_some_iff.mp hz).2
 have h2 : (ns.take i).count z + 1 <= ns.count z := by
  have : (ns.take (i + 1)).count z <= ns.count z := List.Sublist.count_le z (List.take_sublist _ _)
  rw [List.take_succ_eq_append_getElem hi, ez, List.count_append] at this
  simpa using this
 omega
end L2
namespace L2
open PySem PySem.Spec PyProof.Rows
abbrev Plc := Int × List Int × List Int
def PlaceV (pl : Plc) (v : V) (H : Hp) : Prop := ∃ t h c, v = .ref t /\ H t = some (.tup [.int pl.1, .ref h, .ref c]) /\ H h = some (.tup (pl.2.1.map V.int)) /\ H c = some (.tup (pl.2.2.map V.int))
theorem PlaceV.mv {H H' : Hp} {pl : Plc} {v : V} (t : Tups H H') : PlaceV pl v H -> PlaceV pl v H'
 | ⟨a, h, c, e, g1, g2, g3⟩ => ⟨a, h, c, e, t _ _ g1, t _ _ g2, t _ _ g3⟩
theorem PlaceV.sm {H : Hp} {n : Nat} {pl : Plc} {v w : V} (h1 : pl.2.1.length <= 100000) (h2 : pl.2.2.length <= 100000) (a : PlaceV pl v H) (b : PlaceV pl w H) : SmG (n + 3) H v w := by
 obtain ⟨t, h, c, rfl, g1, g2, g3⟩ := a
 obtain ⟨t', h', c', rfl, g1', g2', g3'⟩ := b
 refine .tup g1 g1' rfl (by show 3 <= 100000; decide) fun i x y hx hy => ?_
 match i, hx, hy with
 | 0, hx, hy => cases hx; cases hy; exact .int _
 | 1, hx, hy => cases hx; cases hy; exact .ints g2 g2' h1
 | 2, hx, hy => cases hx; cases hy; exact .ints g3 g3' h2
abbrev Rule := List (List Int)
def onR (one other : Rule) (s : Int) : Rule := if s = 1 then one else other
def isPl (one other : Rule) (pl : Plc) : Bool := (decide (pl.1 = 1) || decide (pl.1 = 2)) && isPairG (onR one other pl.1) (pl.2.1, pl.2.2)
noncomputable def crossG (one other : Rule) (pl : Plc) : Plc := (3 - pl.1, sortD (takeOut (joinX (pickG (onR one other pl.1) pl.2.2)) pl.2.1 ++ joinX (pickG (onR one other (3 - pl.1)) pl.2.2)), pl.2.2)
theorem isCh_len {n : Nat} : ∀ {l : Int} {c : List Int}, isCh n l c = true -> 0 <= l -> c.length <= n - l.toNat
 | _, [], _, _ => Nat.zero_le _
 | l, x :: r, e, hl => by
  rw [isCh] at e
  by_cases c : x < l \/ (n : Int) <= x
  ·rw [if_pos c] at e; cases e
  ·rw [if_neg c] at e
   have := isCh_len e (by omega)
   rw [List.length_cons]
   omega
theorem pair_all {rule : Rule} {h c : List Int} (hp : isPairG rule (h, c) = true) : isCh rule.length 0 c = true /\ ∀ j ∈ c, lies (rule.getD j.toNat []) h = true := by
 unfold isPairG at hp
 rw [Bool.and_eq_true] at hp
 exact ⟨hp.1, List.all_eq_true.mp hp.2⟩
theorem pair_len {rule : Rule} {h c : List Int} (hp : isPairG rule (h, c) = true) : c.length <= rule.length := by
 have := isCh_len (pair_all hp).1 (Int.le_refl 0)
 simpa using this
theorem pick_le' {rule : Rule} {h : List Int} : ∀ {c : List Int}, (∀ j ∈ c, lies (rule.getD j.toNat []) h = true) -> ∀ x, maxC (pickG rule c) x <= h.count x
 | [], _, x => Nat.zero_le _
 | j :: c, hc, x => by
  have h1 := lies_all.mp (hc j (by simp)) x
  have h2 := pick_le' (fun i hi => hc i (List.mem_cons_of_mem _ hi)) x
  unfold pickG at h2 ⊢
  rw [List.map_cons, maxC]
  omega
theorem pair_join {rule : Rule} {h c : List Int} (hp : isPairG rule (h, c) = true) : lies (joinX (pickG rule c)) h = true :=
 lies_counts fun x => by rw [(joinX_is _).2]; exact pick_le' (pair_all hp).2 x
theorem pick_in {rule : Rule} {c : List Int} {j : Int} (hj : j ∈ c) (x : Int) : (rule.getD j.toNat []).count x <= (joinX (pickG rule c)).count x := by
 rw [(joinX_is _).2]
 exact le_maxC (List.mem_map.mpr ⟨j, hj, rfl⟩)
theorem takeOut_sum {a b : List Int} (h : lies a b = true) : (takeOut a b).sum = b.sum - a.sum := by
 have : (takeOut a b ++ a).Perm b := List.perm_iff_count.mpr fun x => by
  rw [List.count_append, takeOut_count]
  have := lies_all.mp h x
  omega
 have := perm_sum this
 rw [List.sum_append] at this
 omega
theorem onR_len {one other : Rule} (h : one.length = other.length) (s : Int) : (onR one other s).length = one.length := by unfold onR; split <;> simp [h]
theorem isPl_side {one other : Rule} {pl : Plc} (h : isPl one other pl = true) : (pl.1 = 1 \/ pl.1 = 2) /\ isPairG (onR one other pl.1) (pl.2.1, pl.2.2) = true := by
 unfold isPl at h
 rw [Bool.and_eq_true, Bool.or_eq_true] at h
 exact ⟨h.1.imp of_decide_eq_true of_decide_eq_true, h.2⟩
theorem isPl_of {one other : Rule} {pl : Plc} (h : pl.1 = 1 \/ pl.1 = 2) (hp : isPairG (onR one other pl.1) (pl.2.1, pl.2.2) = true) : isPl one other pl = true := by
 unfold isPl
 rw [hp, Bool.and_true]
 rcases h with h | h <;> rw [h] <;> rfl
theorem cross_is {one other : Rule} {pl : Plc} (hl : one.length = other.length) (h : isPl one other pl = true) : isPl one other (crossG one other pl) = true := by
 obtain ⟨hs, hp⟩ := isPl_side h
 obtain ⟨h1, h2⟩ := pair_all hp
 refine isPl_of (by show 3 - pl.1 = 1 \/ 3 - pl.1 = 2; omega) ?_
 unfold isPairG
 rw [Bool.and_eq_true]
 refine ⟨?_, List.all_eq_true.mpr fun j hj => lies_counts fun x => ?_⟩
 ·show isCh (onR one other (3 - pl.1)).length 0 pl.2.2 = true
  rw [onR_len hl]
  rw [onR_len hl] at h1
  exact h1
 ·show ((onR one other (3 - pl.1)).getD j.toNat []).count x <= (sortD _).count x
  rw [sort_count, List.count_append]
  have := pick_in (rule := onR one other (3 - pl.1)) (c := pl.2.2) hj x
  omega
theorem cross_sum {one other : Rule} {pl : Plc} (hm : ∀ c, (joinX (pickG one c)).sum = (joinX (pickG other c)).sum) (h : isPl one other pl = true) : (crossG one other pl).2.1.sum = pl.2.1.sum := by
 obtain ⟨hs, hp⟩ := isPl_side h
 show (sortD _).sum = _
 rw [perm_sum (sortD_perm _), List.sum_append, takeOut_sum (pair_join hp)]
 have e : (joinX (pickG (onR one other pl.1) pl.2.2)).sum = (joinX (pickG (onR one other (3 - pl.1)) pl.2.2)).sum := by
  rcases hs with e | e <;> rw [e]
  ·exact hm _
  ·exact (hm _).symm
 omega
def fl2 (p q : Addr) : List (Str × V) := putF "other" (.ref q) (putF "one" (.ref p) [])
theorem fl2_ne : ¬ (("one" : Str) = "other") := by decide +kernel
theorem fl2_one (p q : Addr) : (fl2 p q).lookup ("one" : Str) = some (.ref p) := by unfold fl2; rw [lookup_putF, if_neg fl2_ne, lookup_putF, if_pos rfl]
theorem fl2_other (p q : Addr) : (fl2 p q).lookup ("other" : Str) = some (.ref q) := by unfold fl2; rw [lookup_putF, if_pos rfl]
theorem fl2_no (p q : Addr) {m : Str} (h1 : ¬ m = "other") (h2 : ¬ m = "one") : (fl2 p q).lookup m = none := by
 unfold fl2
 rw [lookup_putF, if_neg h1, lookup_putF, if_neg h2]
 rfl
structure Sided (C : Addr) (H : Hp) (x p q : Addr) (rs qs : List V) (one other : Rule) : Prop where
 ob : ∃ dx, H x = some (.ins C dx (fl2 p q))
 hp : H p = some (.tup rs)
 h2 : All2 Tup1 H one rs
 hq : H q = some (.tup qs)
 g2 : All2 Tup1 H other qs
 ln : one.length = other.length
 l6 : one.length <= 6
 b1 : ∀ h ∈ one, h.length <= 64 /\ ∀ x ∈ h, 1 <= x
 b2 : ∀ h ∈ other, h.length <= 64 /\ ∀ x ∈ h, 1 <= x
theorem Sided.mv {C : Addr} {H H' : Hp} {x p q : Addr} {rs qs : List V} {one other : Rule} (h : Sided C H x p q rs qs one other) (s : Same H H') : Sided C H' x p q rs qs one other :=
 ⟨let ⟨dx, e⟩ := h.ob; ⟨dx, s _ _ e⟩, s _ _ h.hp, h.h2.mv s.tups, s _ _ h.hq, h.g2.mv s.tups, h.ln, h.l6, h.b1, h.b2⟩
theorem Sided.keep {C : Addr} {H H' : Hp} {st ga ca : Addr} {N : Nat} {x p q : Addr} {rs qs : List V} {one other : Rule} (h : Sided C H x p q rs qs one other) (S : StAt H st ga ca N) (K : Keep [st, ga] H H') : Sided C H' x p q rs qs one other := by
 obtain ⟨dx, e⟩ := h.ob
 have nx : x ∉ [st, ga] := fun z => by
  obtain ⟨⟨gs, cs, q0, n, c1, c2, _⟩, _⟩ := S
  simp only [List.mem_cons, List.not_mem_nil, or_false] at z
  rcases z with rfl | rfl
  ·rw [c1] at e; cases e
  ·rw [c2] at e; cases e
 exact ⟨⟨dx, K.at e nx⟩, K.tups S _ _ h.hp, h.h2.mv (K.tups S), K.tups S _ _ h.hq, h.g2.mv (K.tups S), h.ln, h.l6, h.b1, h.b2⟩
theorem getD_mem {rule : Rule} {j : Nat} {x : Int} (h : x ∈ rule.getD j []) : ∃ hh ∈ rule, x ∈ hh := by
 rw [List.getD_eq_getElem?_getD] at h
 cases e : rule[j]? with
 | none => rw [e] at h; cases h
 | some r => rw [e] at h; exact ⟨r, List.mem_of_getElem? e, h⟩
theorem join_pos {rule : Rule} (hb : ∀ h ∈ rule, h.length <= 64 /\ ∀ x ∈ h, 1 <= x) {c : List Int} : ∀ x ∈ joinX (pickG rule c), 1 <= x := fun x hx => by
 obtain ⟨l, hl, hxl⟩ := join_mem hx
 obtain ⟨j, _, rfl⟩ := List.mem_map.mp hl
 obtain ⟨hh, h1, h2⟩ := getD_mem hxl
 exact (hb hh h1).2 x h2
theorem takeOut_mem {a b : List Int} {x : Int} (h : x ∈ takeOut a b) : x ∈ b := (takeOut_sub a b).subset h
structure Two (H : Hp) (R p q : Addr) (rs qs : List V) (one other : Rule) : Prop where
 at_ : H R = some (.tup [.ref p, .ref q])
 hp : H p = some (.tup rs)
 h2 : All2 Tup1 H one rs
 hq : H q = some (.tup qs)
 g2 : All2 Tup1 H other qs
 ln : one.length = other.length
 l6 : one.length <= 6
 b1 : ∀ h ∈ one, h.length <= 64 /\ ∀ x ∈ h, 1 <= x
 b2 : ∀ h ∈ other, h.length <= 64 /\ ∀ x ∈ h, 1 <= x
theorem Two.mv {H H' : Hp} {R p q : Addr} {rs qs : List V} {one other : Rule} (h : Two H R p q rs qs one other) (t : Tups H H') : Two H' R p q rs qs one other :=
 ⟨t _ _ h.at_, t _ _ h.hp, h.h2.mv t, t _ _ h.hq, h.g2.mv t, h.ln, h.l6, h.b1, h.b2⟩
theorem Two.on {H : Hp} {R p q : Addr} {rs qs : List V} {one other : Rule} (h : Two H R p q rs qs one other) {s : Int} (hs : s = 1 \/ s = 2) : ∃ (a : Addr) (rv : List V), atI [V.ref p, V.ref q] (s - 1) = some (.ref a) /\ H a = some (.tup rv) /\ All2 Tup1 H (onR one other s) rv := by
 rcases hs with e | e <;> subst e
 ·exact ⟨p, rs, atI_nat (j := 0) rfl, h.hp, h.h2⟩
 ·exact ⟨q, qs, atI_nat (j := 1) rfl, h.hq, h.g2⟩
theorem Two.bR {H : Hp} {R p q : Addr} {rs qs : List V} {one other : Rule} (h : Two H R p q rs qs one other) (s : Int) : ∀ x ∈ onR one other s, x.length <= 64 /\ ∀ y ∈ x, 1 <= y := fun x hx => by
 unfold onR at hx
 split at hx
 ·exact h.b1 x hx
 ·exact h.b2 x hx
end L2
namespace HT
open PySem PySem.Spec PyProof.Rows
section
variable {prog : Program} {w : World} {A : Around} {E : Value -> Shared -> Prop} {s : Shared}
end
end HT
namespace L2
open PySem PySem.Spec PyProof.Rows
section
variable {X : Cx} {e st : Expr} {te : TE} {ts : TO} {p2 pos : Pos}
end
end L2
namespace L2
open PySem PySem.Spec PyProof.Rows
theorem ints_inj : ∀ {b c : List Int}, b.map V.int = c.map V.int -> b = c
 | [], [], _ => rfl
 | [], _ :: _, e => by cases e
 | _ :: _, [], e => by cases e
 | x :: r, y :: r', e => by
  have e' := List.cons.inj e
  rw [ints_inj e'.2]
  congr 1
  exact V.int.inj e'.1
theorem Matched.J {one other : List (List Int)} {n : Nat} (h : Matched one other n) : RuleJ one :=
 ⟨⟨[1, 2, 3, 4, 5, 6, 7, 8], by decide, fun l hl x hx => by
  have := (h.g1 l hl).2.1 x hx
  have : x = 1 \/ x = 2 \/ x = 3 \/ x = 4 \/ x = 5 \/ x = 6 \/ x = 7 \/ x = 8 := by omega
  simpa using this⟩, fun l hl => Nat.le_trans (h.g1 l hl).1 (by decide), fun l hl x hx => ((h.g1 l hl).2.1 x hx).1⟩
end L2
namespace L2
open PySem
end L2
namespace L2
open PySem PySem.Spec PyProof.Rows PySem.W
end L2
namespace L2
open PySem PySem.Spec PyProof.Rows PySem.W
section
variable {prog : Program} {w : World} {A : Around} {E : Value -> Shared -> Prop} {s : Shared} {K : Frag} {e dx C : Addr} {oe : Obj} {vs : Array Value} {mA : Str -> Option Value} {name : Str} {v : Value}
end
section
variable {X : Cx} {pins : List (Addr × Obj)} {σ : St} {H : Hp} {s : Shared} {e C : Addr} {f : Str} {A : Around} {E : Value -> Shared -> Prop}
end
end L2
namespace L2
open PySem PySem.Spec PyProof.Rows PySem.W
section
variable {prog : Program} {w : World} {A : Around} {E : Value -> Shared -> Prop} {h : Heap} {g : Array GenState} {d : Drawn} {t : Nat} {os : OsState}
variable {nm q : Str} {C N : Addr} {bs bm bmB bmN : List Value} {hdct : Bool} {sn : List Str} {sub : List Value} {ab : Bool} {col : Option Bool} {dd : Option Addr} {k0 k1 k2 k3 k5 : Option Value} {B Bn newId nid initId inN : String}
end
section
variable {M : Model} {A : Around} {E : Value -> Shared -> Prop} {s : Shared} {env : Env} {nm q : Str} {C N : Addr} {bs bm : List Value} {hdct : Bool} {sn : List Str} {sub : List Value} {ab : Bool} {col : Option Bool} {dd : Option Addr} {k0 k1 k2 k3 k5 : Option Value} {newId : String}
end
end L2
namespace L2
open PySem PySem.Spec PyProof.Rows PySem.W
section
variable {X : Cx} {o e value : Expr} {f : Str} {pos pos' : Pos} {ta tv : TE}
end
end L2
namespace L2
open PySem PySem.Spec PyProof.Rows PySem.W
end L2
namespace L2
open PySem PySem.Spec PyProof.Rows PySem.W
theorem pe_sortRK {X : Cx} (K0 : PySem.W.Frag) (h0 : X.K = K0) {e : Expr} {te : TE} {b : Bool} {p kp cp pos : Pos} {j : Nat} (hg : Gl X "sorted") (hm : X.mg "sorted" = none) (he : PE X e te)
  (hse : starEach [e] X.env = [(false, eval e X.env)] := by rfl) : PE X (.Call (.Name "sorted" p) [e] [⟨some "reverse", .Constant (.bool b) j cp, kp⟩] pos) (tSortR K0 b te) :=
 PE.kk K0 (fun K => tSortR K b te) (pe_sortR hg hm he hse) h0
end L2
namespace L2
open PySem PySem.Spec PyProof.Rows PySem.W
section
variable {prog : Program} {w : World} {A : Around} {E : Value -> Shared -> Prop} {s : Shared} {K : Frag} {e dx C : Addr} {oe : Obj} {vs : Array Value} {mA : Str -> Option Value} {name : Str} {v : Value}
end
section
variable {X : Cx} {pins : List (Addr × Obj)} {σ : St} {H : Hp} {s : Shared} {e dx C : Addr} {f : Str} {A : Around} {E : Value -> Shared -> Prop}
end
section
variable {X : Cx} {o e value : Expr} {f : Str} {pos pos' : Pos} {ta tv : TE}
end
end L2
namespace L2
open PySem PySem.Spec PyProof.Rows PySem.W
section
variable {X : Cx} {k : Nat} {f C : Addr} {fd : FuncData} {ps : List Str} {sp : Sp} {dvs : List V} {ds : List Value} {x : Str} {p pos : Pos} {e : Expr} {es : List Expr} {t : TA} {cm : Bool}
end
end L2
namespace L2
open PySem PySem.Spec PyProof.Rows PySem.W
end L2
namespace L2
open PySem PySem.Spec PyProof.Rows
theorem sum_ge0 : ∀ {l : List Int}, (∀ x ∈ l, 1 <= x) -> 0 <= l.sum
 | [], _ => Int.le_refl _
 | x :: r, h => by
  have h1 := h x (by simp)
  have h2 := sum_ge0 (l := r) fun y hy => h y (List.mem_cons_of_mem _ hy)
  rw [List.sum_cons]
  omega
theorem sum_len : ∀ {l : List Int}, (∀ x ∈ l, 1 <= x) -> (l.length : Int) <= l.sum
 | [], _ => Int.le_refl _
 | x :: r, h => by
  have h1 := h x (by simp)
  have h2 := sum_len (l := r) fun y hy => h y (List.mem_cons_of_mem _ hy)
  rw [List.sum_cons, List.length_cons]
  omega
structure Hep (n : Int) (h : List Int) : Prop where
 pw : h.Pairwise (· >= ·)
 pos : ∀ x ∈ h, 1 <= x
 sum : h.sum = n
theorem part_hep : ∀ (f n g : Nat) (h : List Int), n < f -> h ∈ partF f n g -> Hep (n : Int) h
 | 0, _, _, _, hf, _ => absurd hf (Nat.not_lt_zero _)
 | f + 1, n, g, h, hf, hh => by
  rw [partF_succ] at hh
  by_cases c : n = 0
  ·rw [if_pos c] at hh
   have : h = [] := by simpa using hh
   subst this c
   exact ⟨.nil, fun x hx => (by cases hx), rfl⟩
  ·rw [if_neg c] at hh
   unfold partP at hh
   obtain ⟨i, hi, hh⟩ := List.mem_flatMap.mp hh
   rw [List.mem_range] at hi
   obtain ⟨r, hr, rfl⟩ := List.mem_map.mp hh
   have ih := part_hep f _ _ r (by omega) hr
   have hle := partF_le f _ _ r hr
   refine ⟨List.pairwise_cons.mpr ⟨fun y hy => hle y hy, ih.pw⟩, fun x hx => ?_, ?_⟩
   ·rcases List.mem_cons.mp hx with rfl | hx
    ·omega
    ·exact ih.pos x hx
   ·rw [List.sum_cons, ih.sum]
    omega
def cntF : Nat -> Nat -> Nat -> Nat
 | 0, _, _ => 0
 | f + 1, n, g => if n = 0 then 1 else ((List.range (min n g)).map fun i => cntF f (n - (min n g - i)) (min n g - i)).sum
theorem cntF_len : ∀ f n g, (partF f n g).length = cntF f n g
 | 0, _, _ => rfl
 | f + 1, n, g => by
  rw [partF_succ, cntF]
  split
  ·rfl
  ·unfold partP
   rw [List.length_flatMap]
   congr 1
   apply List.map_congr_left
   intro i _
   rw [List.length_map, cntF_len f]
theorem cnt24 : (List.range 25).all (fun n => decide (cntF 26 n n <= 1575)) = true := by decide +kernel
theorem part_few {n : Nat} (h : n <= 24) : (partF 26 n n).length <= 1575 := by
 rw [cntF_len]
 exact of_decide_eq_true (List.all_eq_true.mp cnt24 n (List.mem_range.mpr (by omega)))
noncomputable def togG (one other : Rule) (pl : Plc) : Plc := match partnerG (onR one other pl.1) pl.2 with | some pc => (pl.1, pc) | none => pl
noncomputable def wk (one other : Rule) (h : List Int) : Nat -> Plc
 | 0 => (1, h, [])
 | n + 1 => if n % 2 = 0 then crossG one other (wk one other h n) else togG one other (wk one other h n)
def fstP (one other : Rule) (pl : Plc) : Option Int := firstG (onR one other pl.1) pl.2.1
def Live (one other : Rule) (h : List Int) (n : Nat) : Prop := ∀ i, i < n -> i % 2 = 1 -> fstP one other (wk one other h i) ≠ none
structure WP (one other : Rule) (n : Int) (i : Nat) (pl : Plc) : Prop where
 ip : isPl one other pl = true
 pw : pl.2.1.Pairwise (· >= ·)
 pos : ∀ x ∈ pl.2.1, 1 <= x
 sum : pl.2.1.sum = n
 par : (pl.1 + (pl.2.2.length : Int) + (i : Int)) % 2 = 1
structure Rul (one other : Rule) : Prop where
 ln : one.length = other.length
 l6 : one.length <= 6
 b1 : ∀ h ∈ one, h.length <= 64 /\ ∀ x ∈ h, 1 <= x
 b2 : ∀ h ∈ other, h.length <= 64 /\ ∀ x ∈ h, 1 <= x
 eq : ∀ c, (joinX (pickG one c)).sum = (joinX (pickG other c)).sum
 j1 : RuleJ one
 j2 : RuleJ other
theorem Rul.jR {one other : Rule} (R : Rul one other) (s : Int) : RuleJ (onR one other s) := by
 unfold onR
 split
 ·exact R.j1
 ·exact R.j2
theorem Rul.of {one other : Rule} {n : Nat} (m : Matched one other n) (h : n <= 6) : Rul one other :=
 ⟨by rw [m.l1, m.l2], by rw [m.l1]; exact h, fun h hh => ⟨(m.g1 h hh).1, fun x hx => ((m.g1 h hh).2.1 x hx).1⟩, fun h hh => ⟨(m.g2 h hh).1, fun x hx => ((m.g2 h hh).2.1 x hx).1⟩, m.eq, m.J, m.swap.J⟩
theorem Rul.bR {one other : Rule} (R : Rul one other) (s : Int) : ∀ h ∈ onR one other s, h.length <= 64 /\ ∀ x ∈ h, 1 <= x := fun h hh => by
 unfold onR at hh
 split at hh
 ·exact R.b1 h hh
 ·exact R.b2 h hh
theorem WP.hep {one other : Rule} {n : Int} {i : Nat} {pl : Plc} (w : WP one other n i pl) : Hep n pl.2.1 := ⟨w.pw, w.pos, w.sum⟩
theorem Hep.len {n : Int} {h : List Int} (p : Hep n h) : (h.length : Int) <= n := by rw [<- p.sum]; exact sum_len p.pos
theorem WP.chl {one other : Rule} {n : Int} {i : Nat} {pl : Plc} (R : Rul one other) (w : WP one other n i pl) : pl.2.2.length <= 6 := by
 have := pair_len (isPl_side w.ip).2
 rw [onR_len R.ln] at this
 exact Nat.le_trans this R.l6
theorem WP.cross {one other : Rule} {n : Int} {i : Nat} {pl : Plc} (R : Rul one other) (w : WP one other n i pl) : WP one other n (i + 1) (crossG one other pl) := by
 refine ⟨cross_is R.ln w.ip, sortD_pw _, fun y hy => ?_, (cross_sum R.eq w.ip).trans w.sum, ?_⟩
 ·rcases List.mem_append.mp ((sortD_perm _).mem_iff.mp hy) with hy | hy
  ·exact w.pos y (takeOut_mem hy)
  ·exact join_pos (R.bR _) y hy
 ·have := w.par
  show ((3 - pl.1) + (pl.2.2.length : Int) + ((i + 1 : Nat) : Int)) % 2 = 1
  omega
theorem WP.jlen {one other : Rule} {n : Int} {i : Nat} {pl : Plc} (R : Rul one other) (w : WP one other n i pl) (s : Int) : ((joinX (pickG (onR one other s) pl.2.2)).length : Int) <= n := by
 have h1 := sum_len (l := joinX (pickG (onR one other s) pl.2.2)) (join_pos (R.bR s))
 have h2 := takeOut_sum (pair_join (isPl_side w.ip).2)
 have h3 : 0 <= (takeOut (joinX (pickG (onR one other pl.1) pl.2.2)) pl.2.1).sum := sum_ge0 fun x hx => w.pos x (takeOut_mem hx)
 have e : ∀ s : Int, (joinX (pickG (onR one other s) pl.2.2)).sum = (joinX (pickG one pl.2.2)).sum := fun s => by
  unfold onR
  split
  ·rfl
  ·exact (R.eq _).symm
 have := w.sum
 rw [e] at h1 h2
 omega
theorem WP.clen {one other : Rule} {n : Int} {i : Nat} {pl : Plc} (R : Rul one other) (w : WP one other n i pl) : ((takeOut (joinX (pickG (onR one other pl.1) pl.2.2)) pl.2.1 ++ joinX (pickG (onR one other (3 - pl.1)) pl.2.2)).length : Int) <= n := by
 have := (w.cross R).hep.len
 unfold crossG at this
 dsimp only at this
 rw [(sortD_perm _).length_eq] at this
 exact this
theorem partner_none {rule : Rule} {pc : List Int × List Int} : partnerG rule pc = none ↔ firstG rule pc.1 = none := by
 unfold partnerG
 cases firstG rule pc.1 with
 | none => exact ⟨fun _ => rfl, fun _ => rfl⟩
 | some m =>
  refine ⟨fun h => ?_, fun h => by cases h⟩
  dsimp only at h
  split at h <;> cases h
theorem tog_of {one other : Rule} {pl : Plc} {pc : List Int × List Int} (h : partnerG (onR one other pl.1) pl.2 = some pc) : togG one other pl = (pl.1, pc) := by unfold togG; rw [h]
theorem partner_of_fst {one other : Rule} {pl : Plc} (h : fstP one other pl ≠ none) : ∃ pc, partnerG (onR one other pl.1) pl.2 = some pc := by
 cases e : partnerG (onR one other pl.1) pl.2 with
 | some pc => exact ⟨pc, rfl⟩
 | none => exact absurd (partner_none.mp e) h
theorem WP.tog {one other : Rule} {n : Int} {i : Nat} {pl : Plc} (w : WP one other n i pl) (h : fstP one other pl ≠ none) : WP one other n (i + 1) (togG one other pl) /\ togG one other (togG one other pl) = pl /\ (togG one other pl).1 = pl.1 /\ (togG one other pl).2.1 = pl.2.1 := by
 obtain ⟨pc, e⟩ := partner_of_fst h
 obtain ⟨hs, hp⟩ := isPl_side w.ip
 obtain ⟨b1, b2, b3, b4, _⟩ := partner_back hp e
 rw [tog_of e]
 refine ⟨⟨isPl_of hs b1, ?_, ?_, ?_, ?_⟩, ?_, rfl, b4⟩
 ·show pc.1.Pairwise _
  rw [b4]; exact w.pw
 ·show ∀ x ∈ pc.1, 1 <= x
  rw [b4]; exact w.pos
 ·show pc.1.sum = n
  rw [b4]; exact w.sum
 ·have := w.par
  show (pl.1 + (pc.2.length : Int) + ((i + 1 : Nat) : Int)) % 2 = 1
  unfold sgnG at b3
  dsimp only at b3
  split at b3 <;> split at b3 <;> omega
 ·exact tog_of (pl := (pl.1, pc)) b2
theorem wk_ok {one other : Rule} {n : Int} {h : List Int} (R : Rul one other) (hp : Hep n h) : ∀ i, Live one other h i -> WP one other n i (wk one other h i)
 | 0, _ => ⟨isPl_of (.inl rfl) rfl, hp.pw, hp.pos, hp.sum, rfl⟩
 | i + 1, L => by
  have ih := wk_ok R hp i fun j hj => L j (by omega)
  rw [wk]
  split
  ·exact ih.cross R
  ·exact (ih.tog (L i (Nat.lt_succ_self i) (by omega))).1
theorem Live.less {one other : Rule} {h : List Int} {i j : Nat} (L : Live one other h j) (hi : i <= j) : Live one other h i := fun k hk => L k (by omega)
theorem pair_nil {rule : Rule} {h c : List Int} (hp : isPairG rule (h, c) = true) (hf : firstG rule h = none) : c = [] := by
 cases c with
 | nil => rfl
 | cons j r =>
  obtain ⟨h1, h2⟩ := pair_all hp
  have hj := isCh_mem h1 j (by simp)
  have := idxP_mem (hs := h) (i := rule.length) (k := j.toNat) (by omega) (h2 j (by simp))
  unfold firstG idxG at hf
  rw [List.head?_eq_none_iff] at hf
  rw [hf] at this
  cases this
def isEndB (other : Rule) (pl : Plc) : Bool := decide (pl.1 = 2) && (firstG other pl.2.1).isNone
theorem WP.end_iff {one other : Rule} {n : Int} {i : Nat} {pl : Plc} (w : WP one other n i pl) (h0 : i % 2 = 0 -> i = 0 \/ fstP one other pl ≠ none) : isEndB other pl = true ↔ i % 2 = 1 /\ fstP one other pl = none := by
 obtain ⟨hs, hp⟩ := isPl_side w.ip
 have par := w.par
 unfold isEndB
 rw [Bool.and_eq_true, decide_eq_true_eq, Option.isNone_iff_eq_none]
 constructor
 ·rintro ⟨e, hf⟩
  have eo : onR one other pl.1 = other := by rw [e]; rfl
  have hf' : fstP one other pl = none := by unfold fstP; rw [eo]; exact hf
  have hc := pair_nil hp hf'
  rw [hc, e] at par
  refine ⟨?_, hf'⟩
  simp at par
  omega
 ·rintro ⟨hi, hf⟩
  have hc := pair_nil hp hf
  rw [hc] at par
  have e : pl.1 = 2 := by
   simp at par
   omega
  have eo : onR one other pl.1 = other := by rw [e]; rfl
  refine ⟨e, ?_⟩
  unfold fstP at hf
  rw [eo] at hf
  exact hf
theorem wk_even {one other : Rule} {n : Int} {h : List Int} (R : Rul one other) (hp : Hep n h) {i : Nat} (L : Live one other h i) (hi : i % 2 = 0) : i = 0 \/ fstP one other (wk one other h i) ≠ none := by
 cases i with
 | zero => exact .inl rfl
 | succ i =>
  right
  have hf := L i (Nat.lt_succ_self i) (by omega)
  obtain ⟨_, _, h1, h2⟩ := (wk_ok R hp i (L.less (Nat.le_succ i))).tog hf
  have e : wk one other h (i + 1) = togG one other (wk one other h i) := by rw [wk, if_neg (by omega)]
  unfold fstP at hf ⊢
  rw [e, h1, h2]
  exact hf
theorem wk_end {one other : Rule} {n : Int} {h : List Int} (R : Rul one other) (hp : Hep n h) {i : Nat} (L : Live one other h i) : isEndB other (wk one other h i) = true ↔ i % 2 = 1 /\ fstP one other (wk one other h i) = none :=
 (wk_ok R hp i L).end_iff fun e => wk_even R hp L e
structure EndAt (one other : Rule) (h : List Int) (m : Nat) : Prop where
 lv : Live one other h m
 od : m % 2 = 1
 no : fstP one other (wk one other h m) = none
theorem EndAt.uniq {one other : Rule} {h : List Int} {m m' : Nat} (a : EndAt one other h m) (b : EndAt one other h m') : m = m' := by
 rcases Nat.lt_trichotomy m m' with c | c | c
 ·exact absurd a.no (b.lv m c a.od)
 ·exact c
 ·exact absurd b.no (a.lv m' c b.od)
theorem Live.next {one other : Rule} {h : List Int} {k : Nat} (L : Live one other h k) (hn : ¬ EndAt one other h k) : Live one other h (k + 1) := fun i hi ho z => by
 by_cases c : i = k
 ·subst c
  exact hn ⟨L, ho, z⟩
 ·exact L i (by omega) ho z
noncomputable def walkL (one other : Rule) (h : List Int) (k : Nat) : List Plc := (List.range (k + 1)).map (wk one other h)
theorem walkL_succ (one other : Rule) (h : List Int) (k : Nat) : walkL one other h (k + 1) = walkL one other h k ++ [wk one other h (k + 1)] := by
 unfold walkL
 rw [List.range_succ, List.map_append]
 rfl
theorem walkL_len (one other : Rule) (h : List Int) (k : Nat) : (walkL one other h k).length = k + 1 := by unfold walkL; rw [List.length_map, List.length_range]
theorem walkL_at (one other : Rule) (h : List Int) {k i : Nat} (hi : i <= k) : (walkL one other h k)[i]? = some (wk one other h i) := by
 unfold walkL
 rw [List.getElem?_map, List.getElem?_range (by omega)]
 rfl
theorem walk_last {one other : Rule} {hs : List Int} {k : Nat} {H : Hp} {xs : List V} (h : All2 PlaceV H (walkL one other hs k) xs) : ∃ ys v, xs = ys ++ [v] /\ ys.length = k /\ PlaceV (wk one other hs k) v H := by
 have hl := h.length
 rw [walkL_len] at hl
 have hne : xs ≠ [] := fun e => by rw [e] at hl; cases hl
 have hd : xs.dropLast.length = k := by rw [List.length_dropLast]; omega
 refine ⟨xs.dropLast, xs.getLast hne, (List.dropLast_concat_getLast hne).symm, hd, ?_⟩
 have e : xs[k]? = some (xs.getLast hne) := by
  rw [List.getLast_eq_getElem, List.getElem?_eq_getElem (by omega)]
  congr 2
  omega
 obtain ⟨a, ha, r⟩ := h.get e
 rw [walkL_at one other hs (Nat.le_refl k)] at ha
 cases ha
 exact r
theorem walk_snoc {one other : Rule} {hs : List Int} {k : Nat} {H H' : Hp} {xs : List V} {v : V} (h : All2 PlaceV H (walkL one other hs k) xs) (t : Tups H H') (hv : PlaceV (wk one other hs (k + 1)) v H') : All2 PlaceV H' (walkL one other hs (k + 1)) (xs ++ [v]) := by
 rw [walkL_succ]
 exact (h.imp fun _ _ z => z.mv t).append (.cons hv .nil)
theorem kept_hep {rule : Rule} {m : Nat} {h : List Int} (hh : h ∈ keptG rule m) (hm : m <= 24) : Hep (m : Int) h /\ firstG rule h = none := by
 obtain ⟨h1, h2⟩ := List.mem_filter.mp hh
 exact ⟨part_hep 26 m m h (by omega) h1, by simpa using h2⟩
def swS (pl : Plc) : Plc := (3 - pl.1, pl.2)
end L2
namespace L2
open PySem PySem.Spec PyProof.Rows
theorem vals3 {x y z : V} {us : List Value} (h : Vals [x, y, z] us) : ∃ u v w, us = [u, v, w] /\ RelV x u /\ RelV y v /\ RelV z w := by
 cases h with
 | cons r t =>
  obtain ⟨v, w, rfl, r2, r3⟩ := vals2 t
  exact ⟨_, v, w, rfl, r, r2, r3⟩
theorem eqk_place {X : Cx} : EqK X Plc PlaceV 2 := fun pins σ H s A a b v w u u' I hu r1 r2 q1 q2 => by
 obtain ⟨t, h, c, rfl, g1, g2, g3⟩ := r1
 obtain ⟨t', h', c', rfl, g1', g2', g3'⟩ := r2
 cases q1
 cases q2
 obtain ⟨s1, a1, a2⟩ := a
 obtain ⟨s2, b1, b2⟩ := b
 dsimp only at g1 g2 g3 g1' g2' g3'
 by_cases ht : t = t'
 ·subst ht
  rw [g1] at g1'
  injection g1' with e
  injection e with e
  injection e with e1 e
  injection e with e2 e
  injection e with e3 e
  cases e1; cases e2; cases e3
  rw [g2] at g2'
  rw [g3] at g3'
  have h1 : a1 = b1 := ints_inj (by injection g2' with e; injection e)
  have h2 : a2 = b2 := ints_inj (by injection g3' with e; injection e)
  subst h1 h2
  rw [decide_eq_true rfl]
  exact SeqAt.EqAt.same _
 ·refine SeqAt.EqAt.of_refs ht ?_
  obtain ⟨us, v1, t1, z1⟩ := I.tuple (SqT.of (K := X.K) g1)
  obtain ⟨ws, v2, t2, z2⟩ := I.tuple (SqT.of (K := X.K) g1')
  obtain ⟨u1, u2, u3, rfl, k1, k2, k3⟩ := vals3 v1
  obtain ⟨w1, w2, w3, rfl, m1, m2, m3⟩ := vals3 v2
  have E1 := eqk_int (X := X) pins σ H s A.in1 s1 s2 _ _ _ _ I (by show A.units + 1 + 0 < cLine; omega) rfl rfl k1 m1
  have E2 := eqk_tup (X := X) eqk_int det_int pins σ H s A.in1 a1 b1 _ _ _ _ I (by show A.units + 1 + (0 + 1) < cLine; omega) (RTup.ints (SqT.of g2)) (RTup.ints (SqT.of g2')) k2 m2
  have E3 := eqk_tup (X := X) eqk_int det_int pins σ H s A.in1 a2 b2 _ _ _ _ I (by show A.units + 1 + (0 + 1) < cLine; omega) (RTup.ints (SqT.of g3)) (RTup.ints (SqT.of g3')) k3 m3
  have := SeqAt.RcAt.tuples (A := A) (e := fun j => match j with | 0 => decide (s1 = s2) | 1 => decide (a1 = b1) | _ => decide (a2 = b2)) t1 t2 (by omega) (fun j h1 h2 => by
   match j, h1, h2 with
   | 0, _, _ => exact E1
   | 1, _, _ => exact E2
   | 2, _, _ => exact E3)
  have e : decide (((s1, a1, a2) : Plc) = (s2, b1, b2)) = (decide (s1 = s2) && (decide (a1 = b1) && decide (a2 = b2))) := by
   rw [Bool.eq_iff_iff]
   simp [Prod.ext_iff]
  rw [e]
  have e2 : ((List.range (min [u1, u2, u3].toArray.size [w1, w2, w3].toArray.size)).all (fun j => match j with | 0 => decide (s1 = s2) | 1 => decide (a1 = b1) | _ => decide (a2 = b2)) && [u1, u2, u3].toArray.size == [w1, w2, w3].toArray.size) = (decide (s1 = s2) && (decide (a1 = b1) && decide (a2 = b2))) := by
   show ((List.range 3).all _ && true) = _
   rw [Bool.and_true]
   show ([0, 1, 2] : List Nat).all _ = _
   simp
  rw [e2] at this
  exact this
end L2
namespace L2
open PySem PySem.Spec PyProof.Rows
def IsW (one other : Rule) (rows : List Plc) : Prop := ∃ hs k, firstG one hs = none /\ EndAt one other hs k /\ rows = walkL one other hs k
noncomputable def isWB (one other : Rule) (rows : List Plc) : Bool := @decide (IsW one other rows) (Classical.propDecidable _)
theorem walkL_head (one other : Rule) (h : List Int) (k : Nat) : (walkL one other h k).head? = some (1, h, []) := by
 rw [List.head?_eq_getElem?, walkL_at one other h (Nat.zero_le k)]
 rfl
theorem isWB_nil (one other : Rule) : isWB one other [] = false := by
 unfold isWB
 refine @decide_eq_false _ (Classical.propDecidable _) ?_
 rintro ⟨hs, k, _, _, e⟩
 have := walkL_len one other hs k
 rw [<- e] at this
 cases this
theorem isWB_no {one other : Rule} {rows : List Plc} {r : Plc} (hh : rows.head? = some r) (h0 : firstG one r.2.1 ≠ none) : isWB one other rows = false := by
 unfold isWB
 refine @decide_eq_false _ (Classical.propDecidable _) ?_
 rintro ⟨hs, k, h1, _, rfl⟩
 rw [walkL_head] at hh
 cases hh
 exact h0 h1
theorem isWB_eq {one other : Rule} {rows : List Plc} {r : Plc} {k : Nat} (hh : rows.head? = some r) (h0 : firstG one r.2.1 = none) (L : Live one other r.2.1 k) (hk : EndAt one other r.2.1 k \/ rows.length <= k) : isWB one other rows = decide (rows = walkL one other r.2.1 k) := by
 unfold isWB
 have e : IsW one other rows ↔ rows = walkL one other r.2.1 k := by
  constructor
  ·rintro ⟨hs, k', h1, h2, rfl⟩
   rw [walkL_head] at hh
   cases hh
   rcases hk with hk | hk
   ·rw [h2.uniq hk]
   ·rw [walkL_len] at hk
    exact absurd h2.no (L k' (by omega) h2.od)
  ·intro e
   refine ⟨r.2.1, k, h0, hk.resolve_right fun z => ?_, e⟩
   rw [e, walkL_len] at z
   omega
 by_cases c : rows = walkL one other r.2.1 k
 ·rw [decide_eq_true c]
  exact @decide_eq_true _ (Classical.propDecidable _) (e.mpr c)
 ·rw [decide_eq_false c]
  exact @decide_eq_false _ (Classical.propDecidable _) fun z => c (e.mp z)
structure PRow (r : Plc) : Prop where
 hp : ∃ n : Int, n <= 40 /\ Hep n r.2.1
 ch : r.2.2.length <= 10
theorem PRow.len {r : Plc} (g : PRow r) : r.2.1.length <= 40 := by
 obtain ⟨n, hn, h⟩ := g.hp
 have := h.len
 omega
theorem walk_pg {one other : Rule} {n : Int} {h : List Int} (R : Rul one other) (hp : Hep n h) (hn : n <= 40) {k : Nat} (L : Live one other h k) : ∀ r ∈ walkL one other h k, PRow r := fun r hr => by
 obtain ⟨i, hi, rfl⟩ := List.mem_map.mp hr
 have w := wk_ok R hp i (L.less (by have := List.mem_range.mp hi; omega))
 exact ⟨⟨n, hn, w.hep⟩, Nat.le_trans (w.chl R) (by decide)⟩
theorem rows_sm {H : Hp} {f d : Addr} {rows : List Plc} {xs ys : List V} {n : Nat} (h1 : H f = some (.lst xs)) (h2 : H d = some (.lst ys)) (a1 : All2 PlaceV H rows xs) (a2 : All2 PlaceV H rows ys) (hl : rows.length <= 1000) (hg : ∀ r ∈ rows, PRow r) : SmG (n + 4) H (.ref f) (.ref d) :=
 .lstR h1 h2 a1 a2 (Nat.le_trans hl (by decide)) fun r x y hr p1 p2 => PlaceV.sm (Nat.le_trans (hg r hr).len (by decide)) (Nat.le_trans (hg r hr).ch (by decide)) p1 p2
theorem All2.head {α : Type} {R : α -> V -> Hp -> Prop} {H : Hp} {l : List α} {xs : List V} (h : All2 R H l xs) {a : α} (ha : l.head? = some a) : ∃ x, xs[0]? = some x /\ R a x H := by
 cases h with
 | nil => cases ha
 | cons r t => cases ha; exact ⟨_, rfl, r⟩
theorem All2.setA {α : Type} {R : α -> V -> Hp -> Prop} {H : Hp} {a : α} {v : V} (r : R a v H) : ∀ {l : List α} {xs : List V} (i : Nat), All2 R H l xs -> All2 R H (l.set i a) (xs.set i v)
 | _, _, _, .nil => .nil
 | _, _, 0, .cons _ t => .cons r t
 | _, _, i + 1, .cons r' t => .cons r' (t.setA r i)
theorem All2.eraseA {α : Type} {R : α -> V -> Hp -> Prop} {H : Hp} : ∀ {l : List α} {xs : List V} (i : Nat), All2 R H l xs -> All2 R H (l.eraseIdx i) (xs.eraseIdx i)
 | _, _, _, .nil => .nil
 | _, _, 0, .cons _ t => t
 | _, _, i + 1, .cons r t => .cons r (t.eraseA i)
theorem All2.dropA {α : Type} {R : α -> V -> Hp -> Prop} {H : Hp} : ∀ (n : Nat) {l : List α} {xs : List V}, All2 R H l xs -> All2 R H (l.drop n) (xs.drop n)
 | 0, _, _, h => h
 | n + 1, _, _, .nil => .nil
 | n + 1, _, _, .cons r t => dropA n t
theorem All2.dropLastA {α : Type} {R : α -> V -> Hp -> Prop} {H : Hp} : ∀ {l : List α} {xs : List V}, All2 R H l xs -> All2 R H l.dropLast xs.dropLast
 | _, _, .nil => .nil
 | _, _, .cons r .nil => .nil
 | _, _, .cons r (.cons r' t) => .cons r (All2.dropLastA (.cons r' t))
theorem All2.revA {α : Type} {R : α -> V -> Hp -> Prop} {H : Hp} : ∀ {l : List α} {xs : List V}, All2 R H l xs -> All2 R H l.reverse xs.reverse
 | _, _, .nil => .nil
 | _, _, .cons r t => by
  rw [List.reverse_cons, List.reverse_cons]
  exact t.revA.append (.cons r .nil)
theorem ixN_at {n : Nat} {j : Nat} (h : j < n) : ixN n (j : Int) = some j := by
 unfold ixN
 rw [if_pos (Int.natCast_nonneg j), if_pos (by omega), Int.toNat_natCast]
structure OC (H H' : Hp) (st ga ca : Addr) (M : Nat) (l l' : Addr) (rows' : List Plc) (xs' : List V) : Prop where
 gl : H' l' = some (.lst xs')
 a2 : All2 PlaceV H' rows' xs'
 len : rows'.length <= 200
 pr : ∀ r ∈ rows', PRow r
 sa : StAt H' st ga ca M
 kp : Keep [st, ga, l] H H'
 nl : l' ∉ [st, ga, ca]
theorem nin32 {st ga ca l : Addr} (h : l ∉ [st, ga, ca]) : l ∉ [st, ga] := fun z => h (by
 simp only [List.mem_cons, List.not_mem_nil, or_false] at z ⊢
 rcases z with z | z
 ·exact .inl z
 ·exact .inr (.inl z))
theorem OC.drawn {H H' H2 : Hp} {st ga ca : Addr} {M M2 : Nat} {l l' : Addr} {rows : List Plc} {xs : List V} (m : OC H H' st ga ca M l l' rows xs) (S : StAt H2 st ga ca M2) (K : Keep [st, ga] H' H2) : OC H H2 st ga ca M2 l l' rows xs :=
 ⟨K.at m.gl (nin32 m.nl), m.a2.imp fun _ _ z => z.mv (K.tups m.sa), m.len, m.pr, S, m.kp.trans (K.wide fun a ha => by
  simp only [List.mem_cons, List.not_mem_nil, or_false] at ha ⊢
  rcases ha with z | z
  ·exact .inl z
  ·exact .inr (.inl z)), m.nl⟩
theorem OC.same {H H' H2 : Hp} {st ga ca : Addr} {M : Nat} {l l' : Addr} {rows : List Plc} {xs : List V} (m : OC H H' st ga ca M l l' rows xs) (s : Same H' H2) : OC H H2 st ga ca M l l' rows xs :=
 ⟨s _ _ m.gl, m.a2.imp fun _ _ z => z.mv s.tups, m.len, m.pr, m.sa.same s, m.kp.trans s.keep, m.nl⟩
theorem OC.mono {H H' : Hp} {st ga ca : Addr} {M M' : Nat} {l l' : Addr} {rows : List Plc} {xs : List V} (m : OC H H' st ga ca M l l' rows xs) (h : M <= M') : OC H H' st ga ca M' l l' rows xs :=
 ⟨m.gl, m.a2, m.len, m.pr, m.sa.mono h, m.kp, m.nl⟩
theorem OC.put {H H' : Hp} {st ga ca : Addr} {M : Nat} {l : Addr} {rows rows' : List Plc} {xs xs' : List V} (m : OC H H' st ga ca M l l rows xs) (a : ∀ H2, Tups H' H2 -> All2 PlaceV H2 rows' xs') (hl : rows'.length <= 200) (hp : ∀ r ∈ rows', PRow r) : OC H (upd H' l (.lst xs')) st ga ca M l l rows' xs' :=
 ⟨upd_same, a _ (Tups.set m.gl), hl, hp, m.sa.upd m.nl, m.kp.trans (Keep.set (by simp)), m.nl⟩
theorem OC.set {H H' : Hp} {st ga ca : Addr} {M : Nat} {l : Addr} {rows : List Plc} {xs : List V} (m : OC H H' st ga ca M l l rows xs) (i : Nat) {pl : Plc} {v : V} (hv : PlaceV pl v H') (hg : PRow pl) : OC H (upd H' l (.lst (xs.set i v))) st ga ca M l l (rows.set i pl) (xs.set i v) :=
 m.put (fun H2 t => (m.a2.imp fun _ _ z => z.mv t).setA (hv.mv t) i) (by rw [List.length_set]; exact m.len) fun r hr => (List.mem_or_eq_of_mem_set hr).elim (m.pr r) fun e => e ▸ hg
theorem comp_without {K : PySem.W.Frag} {hc : Addr} {ch : List Int} {nu : Int} {i j : Nat} {nm nnum : Str} {σ : St} {H : Hp} {Q : VK} (hs1 : σ[i]? = some (some (.ref hc))) (hst : startC [nm] [(nnum, j)] σ = [none, some (.int nu)]) (g : H hc = some (.tup (ch.map V.int))) (hl : ch.length <= 60)
  (k : ∀ l, H l = none -> Q (.ref l) (upd H l (.lst ((ch.filter (fun x => !decide (x = nu))).map V.int)))) : tComp (iTup K (tVar i)) [nm] [(nnum, j)] (gName 0) (tTest (tOp rNe (tVar 0) (tVar 1))) (tVar 0) σ H Q := by
 refine ⟨_, hs1, hc, rfl, ⟨_, SqT.of g⟩, comp_tup (xs := ch.map V.int) (fun i ys σ' H' => H' = H /\ (∃ v, σ' = [v, some (.int nu)]) /\ ys = ((ch.take i).filter (fun x => !decide (x = nu))).map V.int) ⟨rfl, ⟨_, hst⟩, rfl⟩ ?_ ?_ ?_⟩
 ·rintro i ys σ' H' hi ⟨eH, _, rfl⟩
  subst eH
  refine ⟨SqT.of g, ?_⟩
  rw [List.length_map]
  have h1 := List.length_filter_le (fun x => !decide (x = nu)) (ch.take i)
  have h2 : (ch.take i).length <= ch.length := by rw [List.length_take]; omega
  exact Nat.le_trans (m := 60) (by omega) (by decide)
 ·rintro i x ys σ' H' hx ⟨eH, ⟨v, rfl⟩, rfl⟩
  subst eH
  obtain ⟨z, hz, rfl⟩ := map_at hx
  have ed : (!decide (V.int z = V.int nu)) = !decide (z = nu) := by simp
  refine ⟨_, rfl, _, rfl, rfl, _, rfl, ?_⟩
  rw [ed]
  refine ite2 (fun hc => ⟨_, rfl, rfl, ⟨_, rfl⟩, ?_⟩) (fun hc => ⟨rfl, ⟨_, rfl⟩, ?_⟩)
  ·rw [filter_take _ hz, if_pos hc, List.map_append]
   rfl
  ·rw [filter_take _ hz, if_neg hc, List.append_nil]
 ·rintro ys σ' H3 ⟨eH, _, rfl⟩ l hl
  subst eH
  rw [List.length_map, List.take_length]
  exact k l hl
end L2
set_option maxHeartbeats 4000000
namespace My
open PySem PySem.Spec PyProof.Rows L2
def top (i : Nat) : Stmt := PySem.Challenge.pw_shutpairs_k30_what_holds_as_a_walk.main.body.getD i (.Pass ⟨0, 0, 0, 0⟩)
abbrev s_often : Stmt := top 12
abbrev s_lies_in : Stmt := top 13
abbrev s_all_in : Stmt := top 19
abbrev s_first_in : Stmt := top 20
abbrev s_keeps : Stmt := top 21
abbrev s_Beside_rules : Stmt := inClass (top 42) 1
abbrev s_is_end : Stmt := top 35
abbrev s_heap_of : Stmt := top 10
abbrev s_put : Stmt := top 16
abbrev s_taken : Stmt := top 17
abbrev s_unlike_parts : Stmt := top 14
abbrev s_joined : Stmt := top 15
abbrev s_joined_of : Stmt := top 25
abbrev s_is_choice : Stmt := top 27
abbrev s_is_pair : Stmt := top 28
abbrev s_rule_on : Stmt := top 31
abbrev s_crossed : Stmt := top 32
abbrev s_partner_of : Stmt := top 29
abbrev s_toggled : Stmt := top 33
abbrev s_next_place : Stmt := top 36
abbrev s_first_places : Stmt := top 37
abbrev s_is_walk : Stmt := top 38
abbrev s__law_start : Stmt := top 44
abbrev s__law_mix : Stmt := top 46
abbrev s__law_draw : Stmt := top 45
abbrev s__law_partings : Stmt := top 51
abbrev s__law_lane : Stmt := top 52
abbrev s__law_rule : Stmt := top 54
abbrev s__law_matched : Stmt := top 53
abbrev s__law_same : Stmt := top 55
abbrev s__law_lies : Stmt := top 48
abbrev s__law_first : Stmt := top 50
abbrev s__law_toggled : Stmt := top 58
abbrev s__law_joined : Stmt := top 49
abbrev s__law_put : Stmt := top 56
abbrev s__law_less : Stmt := top 57
abbrev s__law_crossed : Stmt := top 59
abbrev s__law_walk : Stmt := top 60
abbrev s__law_keepers : Stmt := top 61
abbrev s__law_due : Stmt := top 62
abbrev s__law_other_heap : Stmt := top 63
abbrev s__law_one_changed : Stmt := top 64
abbrev s__law_spoilt : Stmt := top 65
abbrev s_sum_of : Stmt := top 11
abbrev s_choices_among : Stmt := top 23
abbrev s_choices_of : Stmt := top 24
abbrev s_sums_of : Stmt := top 40
abbrev s_first_unlike : Stmt := top 41
abbrev s_Beside___init__ : Stmt := inClass (top 42) 0
abbrev s_law : Stmt := top 66
set_option genInjectivity false in
structure Adr where
 a_often : Addr
 fd_often : FuncData
 a_lies_in : Addr
 fd_lies_in : FuncData
 a_all_in : Addr
 fd_all_in : FuncData
 a_first_in : Addr
 fd_first_in : FuncData
 a_keeps : Addr
 fd_keeps : FuncData
 a_Beside_rules : Addr
 fd_Beside_rules : FuncData
 a_is_end : Addr
 fd_is_end : FuncData
 a_heap_of : Addr
 fd_heap_of : FuncData
 a_put : Addr
 fd_put : FuncData
 a_taken : Addr
 fd_taken : FuncData
 a_unlike_parts : Addr
 fd_unlike_parts : FuncData
 a_joined : Addr
 fd_joined : FuncData
 a_joined_of : Addr
 fd_joined_of : FuncData
 a_is_choice : Addr
 fd_is_choice : FuncData
 a_is_pair : Addr
 fd_is_pair : FuncData
 a_rule_on : Addr
 fd_rule_on : FuncData
 a_crossed : Addr
 fd_crossed : FuncData
 a_partner_of : Addr
 fd_partner_of : FuncData
 a_toggled : Addr
 fd_toggled : FuncData
 a_next_place : Addr
 fd_next_place : FuncData
 a_first_places : Addr
 fd_first_places : FuncData
 a_is_walk : Addr
 fd_is_walk : FuncData
 a__law_start : Addr
 fd__law_start : FuncData
 a__law_mix : Addr
 fd__law_mix : FuncData
 a__law_draw : Addr
 fd__law_draw : FuncData
 a__law_partings : Addr
 fd__law_partings : FuncData
 a__law_lane : Addr
 fd__law_lane : FuncData
 a__law_rule : Addr
 fd__law_rule : FuncData
 a__law_matched : Addr
 fd__law_matched : FuncData
 a__law_same : Addr
 fd__law_same : FuncData
 a__law_lies : Addr
 fd__law_lies : FuncData
 a__law_first : Addr
 fd__law_first : FuncData
 a__law_toggled : Addr
 fd__law_toggled : FuncData
 a__law_joined : Addr
 fd__law_joined : FuncData
 a__law_put : Addr
 fd__law_put : FuncData
 a__law_less : Addr
 fd__law_less : FuncData
 a__law_crossed : Addr
 fd__law_crossed : FuncData
 a__law_walk : Addr
 fd__law_walk : FuncData
 a__law_keepers : Addr
 fd__law_keepers : FuncData
 a__law_due : Addr
 fd__law_due : FuncData
 a__law_other_heap : Addr
 fd__law_other_heap : FuncData
 a__law_one_changed : Addr
 fd__law_one_changed : FuncData
 a__law_spoilt : Addr
 fd__law_spoilt : FuncData
 a_sum_of : Addr
 fd_sum_of : FuncData
 a_choices_among : Addr
 fd_choices_among : FuncData
 a_choices_of : Addr
 fd_choices_of : FuncData
 a_sums_of : Addr
 fd_sums_of : FuncData
 a_first_unlike : Addr
 fd_first_unlike : FuncData
 a_Beside___init__ : Addr
 fd_Beside___init__ : FuncData
 a_law : Addr
 fd_law : FuncData
 c_Beside : Addr
set_option genInjectivity false in
structure Txt (K : PySem.W.Frag) (mg : Str -> Option Value) (A : Adr) : Prop where
 F_often : Fun K "often" "often" s_often A.a_often A.fd_often
 b_often : Binds K A.fd_often ["heap", "part"] []
 g_often : mg "often" = some (.ref A.a_often)
 F_lies_in : Fun K "lies_in" "lies_in" s_lies_in A.a_lies_in A.fd_lies_in
 b_lies_in : Binds K A.fd_lies_in ["one", "other"] []
 g_lies_in : mg "lies_in" = some (.ref A.a_lies_in)
 F_all_in : Fun K "all_in" "all_in" s_all_in A.a_all_in A.fd_all_in
 b_all_in : Binds K A.fd_all_in ["rule", "heap"] []
 g_all_in : mg "all_in" = some (.ref A.a_all_in)
 F_first_in : Fun K "first_in" "first_in" s_first_in A.a_first_in A.fd_first_in
 b_first_in : Binds K A.fd_first_in ["rule", "heap"] []
 g_first_in : mg "first_in" = some (.ref A.a_first_in)
 F_keeps : Fun K "keeps" "keeps" s_keeps A.a_keeps A.fd_keeps
 b_keeps : Binds K A.fd_keeps ["rule", "heap"] []
 g_keeps : mg "keeps" = some (.ref A.a_keeps)
 F_Beside_rules : Fun K "rules" "Beside.rules" s_Beside_rules A.a_Beside_rules A.fd_Beside_rules
 b_Beside_rules : Binds K A.fd_Beside_rules ["self"] []
 F_is_end : Fun K "is_end" "is_end" s_is_end A.a_is_end A.fd_is_end
 b_is_end : Binds K A.fd_is_end ["sided", "place"] []
 g_is_end : mg "is_end" = some (.ref A.a_is_end)
 F_heap_of : Fun K "heap_of" "heap_of" s_heap_of A.a_heap_of A.fd_heap_of
 b_heap_of : Binds K A.fd_heap_of ["parts"] []
 g_heap_of : mg "heap_of" = some (.ref A.a_heap_of)
 F_put : Fun K "put" "put" s_put A.a_put A.fd_put
 b_put : Binds K A.fd_put ["one", "other"] []
 g_put : mg "put" = some (.ref A.a_put)
 F_taken : Fun K "taken" "taken" s_taken A.a_taken A.fd_taken
 b_taken : Binds K A.fd_taken ["one", "other"] []
 g_taken : mg "taken" = some (.ref A.a_taken)
 F_unlike_parts : Fun K "unlike_parts" "unlike_parts" s_unlike_parts A.a_unlike_parts A.fd_unlike_parts
 b_unlike_parts : Binds K A.fd_unlike_parts ["heaps"] []
 g_unlike_parts : mg "unlike_parts" = some (.ref A.a_unlike_parts)
 F_joined : Fun K "joined" "joined" s_joined A.a_joined A.fd_joined
 b_joined : Binds K A.fd_joined ["heaps"] []
 g_joined : mg "joined" = some (.ref A.a_joined)
 F_joined_of : Fun K "joined_of" "joined_of" s_joined_of A.a_joined_of A.fd_joined_of
 b_joined_of : Binds K A.fd_joined_of ["rule", "choice"] []
 g_joined_of : mg "joined_of" = some (.ref A.a_joined_of)
 F_is_choice : Fun K "is_choice" "is_choice" s_is_choice A.a_is_choice A.fd_is_choice
 b_is_choice : Binds K A.fd_is_choice ["rule", "choice"] []
 g_is_choice : mg "is_choice" = some (.ref A.a_is_choice)
 F_is_pair : Fun K "is_pair" "is_pair" s_is_pair A.a_is_pair A.fd_is_pair
 b_is_pair : Binds K A.fd_is_pair ["rule", "pair"] []
 g_is_pair : mg "is_pair" = some (.ref A.a_is_pair)
 F_rule_on : Fun K "rule_on" "rule_on" s_rule_on A.a_rule_on A.fd_rule_on
 b_rule_on : Binds K A.fd_rule_on ["sided", "side"] []
 g_rule_on : mg "rule_on" = some (.ref A.a_rule_on)
 F_crossed : Fun K "crossed" "crossed" s_crossed A.a_crossed A.fd_crossed
 b_crossed : Binds K A.fd_crossed ["sided", "place"] []
 g_crossed : mg "crossed" = some (.ref A.a_crossed)
 F_partner_of : Fun K "partner_of" "partner_of" s_partner_of A.a_partner_of A.fd_partner_of
 b_partner_of : Binds K A.fd_partner_of ["rule", "pair"] []
 g_partner_of : mg "partner_of" = some (.ref A.a_partner_of)
 F_toggled : Fun K "toggled" "toggled" s_toggled A.a_toggled A.fd_toggled
 b_toggled : Binds K A.fd_toggled ["sided", "place"] []
 g_toggled : mg "toggled" = some (.ref A.a_toggled)
 F_next_place : Fun K "next_place" "next_place" s_next_place A.a_next_place A.fd_next_place
 b_next_place : Binds K A.fd_next_place ["sided", "walk"] []
 g_next_place : mg "next_place" = some (.ref A.a_next_place)
 F_first_places : Fun K "first_places" "first_places" s_first_places A.a_first_places A.fd_first_places
 b_first_places : Binds K A.fd_first_places ["sided", "heap", "most"] []
 g_first_places : mg "first_places" = some (.ref A.a_first_places)
 F_is_walk : Fun K "is_walk" "is_walk" s_is_walk A.a_is_walk A.fd_is_walk
 b_is_walk : Binds K A.fd_is_walk ["sided", "rows"] []
 g_is_walk : mg "is_walk" = some (.ref A.a_is_walk)
 F__law_start : Fun K "_law_start" "_law_start" s__law_start A.a__law_start A.fd__law_start
 b__law_start : Binds K A.fd__law_start ["_law_script"] []
 g__law_start : mg "_law_start" = some (.ref A.a__law_start)
 F__law_mix : Fun K "_law_mix" "_law_mix" s__law_mix A.a__law_mix A.fd__law_mix
 b__law_mix : Binds K A.fd__law_mix ["_law_state"] []
 g__law_mix : mg "_law_mix" = some (.ref A.a__law_mix)
 F__law_draw : Fun K "_law_draw" "_law_draw" s__law_draw A.a__law_draw A.fd__law_draw
 b__law_draw : Binds K A.fd__law_draw ["_law_state", "_law_many"] []
 g__law_draw : mg "_law_draw" = some (.ref A.a__law_draw)
 F__law_partings : Fun K "_law_partings" "_law_partings" s__law_partings A.a__law_partings A.fd__law_partings
 b__law_partings : Binds K A.fd__law_partings ["_law_n", "_law_top"] []
 g__law_partings : mg "_law_partings" = some (.ref A.a__law_partings)
 F__law_lane : Fun K "_law_lane" "_law_lane" s__law_lane A.a__law_lane A.fd__law_lane
 b__law_lane : Binds K A.fd__law_lane ["_law_left", "_law_right", "_law_split", "_law_levels"] []
 g__law_lane : mg "_law_lane" = some (.ref A.a__law_lane)
 F__law_rule : Fun K "_law_rule" "_law_rule" s__law_rule A.a__law_rule A.fd__law_rule
 b__law_rule : Binds K A.fd__law_rule ["_law_rows"] []
 g__law_rule : mg "_law_rule" = some (.ref A.a__law_rule)
 F__law_matched : Fun K "_law_matched" "_law_matched" s__law_matched A.a__law_matched A.fd__law_matched
 b__law_matched : Binds K A.fd__law_matched ["_law_state", "_law_top"] []
 g__law_matched : mg "_law_matched" = some (.ref A.a__law_matched)
 F__law_same : Fun K "_law_same" "_law_same" s__law_same A.a__law_same A.fd__law_same
 b__law_same : Binds K A.fd__law_same ["_law_found", "_law_due_here"] []
 g__law_same : mg "_law_same" = some (.ref A.a__law_same)
 F__law_lies : Fun K "_law_lies" "_law_lies" s__law_lies A.a__law_lies A.fd__law_lies
 b__law_lies : Binds K A.fd__law_lies ["_law_one", "_law_other"] []
 g__law_lies : mg "_law_lies" = some (.ref A.a__law_lies)
 F__law_first : Fun K "_law_first" "_law_first" s__law_first A.a__law_first A.fd__law_first
 b__law_first : Binds K A.fd__law_first ["_law_rule_here", "_law_heap_here"] []
 g__law_first : mg "_law_first" = some (.ref A.a__law_first)
 F__law_toggled : Fun K "_law_toggled" "_law_toggled" s__law_toggled A.a__law_toggled A.fd__law_toggled
 b__law_toggled : Binds K A.fd__law_toggled ["_law_rules", "_law_place"] []
 g__law_toggled : mg "_law_toggled" = some (.ref A.a__law_toggled)
 F__law_joined : Fun K "_law_joined" "_law_joined" s__law_joined A.a__law_joined A.fd__law_joined
 b__law_joined : Binds K A.fd__law_joined ["_law_heaps"] []
 g__law_joined : mg "_law_joined" = some (.ref A.a__law_joined)
 F__law_put : Fun K "_law_put" "_law_put" s__law_put A.a__law_put A.fd__law_put
 b__law_put : Binds K A.fd__law_put ["_law_one", "_law_other"] []
 g__law_put : mg "_law_put" = some (.ref A.a__law_put)
 F__law_less : Fun K "_law_less" "_law_less" s__law_less A.a__law_less A.fd__law_less
 b__law_less : Binds K A.fd__law_less ["_law_heap_here", "_law_out"] []
 g__law_less : mg "_law_less" = some (.ref A.a__law_less)
 F__law_crossed : Fun K "_law_crossed" "_law_crossed" s__law_crossed A.a__law_crossed A.fd__law_crossed
 b__law_crossed : Binds K A.fd__law_crossed ["_law_rules", "_law_place"] []
 g__law_crossed : mg "_law_crossed" = some (.ref A.a__law_crossed)
 F__law_walk : Fun K "_law_walk" "_law_walk" s__law_walk A.a__law_walk A.fd__law_walk
 b__law_walk : Binds K A.fd__law_walk ["_law_rules", "_law_heap_here", "_law_limit"] []
 g__law_walk : mg "_law_walk" = some (.ref A.a__law_walk)
 F__law_keepers : Fun K "_law_keepers" "_law_keepers" s__law_keepers A.a__law_keepers A.fd__law_keepers
 b__law_keepers : Binds K A.fd__law_keepers ["_law_rule_here", "_law_n"] []
 g__law_keepers : mg "_law_keepers" = some (.ref A.a__law_keepers)
 F__law_due : Fun K "_law_due" "_law_due" s__law_due A.a__law_due A.fd__law_due
 b__law_due : Binds K A.fd__law_due ["_law_rules", "_law_rows"] []
 g__law_due : mg "_law_due" = some (.ref A.a__law_due)
 F__law_other_heap : Fun K "_law_other_heap" "_law_other_heap" s__law_other_heap A.a__law_other_heap A.fd__law_other_heap
 b__law_other_heap : Binds K A.fd__law_other_heap ["_law_state", "_law_heap_here"] []
 g__law_other_heap : mg "_law_other_heap" = some (.ref A.a__law_other_heap)
 F__law_one_changed : Fun K "_law_one_changed" "_law_one_changed" s__law_one_changed A.a__law_one_changed A.fd__law_one_changed
 b__law_one_changed : Binds K A.fd__law_one_changed ["_law_state", "_law_rules", "_law_rows", "_law_way"] []
 g__law_one_changed : mg "_law_one_changed" = some (.ref A.a__law_one_changed)
 F__law_spoilt : Fun K "_law_spoilt" "_law_spoilt" s__law_spoilt A.a__law_spoilt A.fd__law_spoilt
 b__law_spoilt : Binds K A.fd__law_spoilt ["_law_state", "_law_rules", "_law_rows"] []
 g__law_spoilt : mg "_law_spoilt" = some (.ref A.a__law_spoilt)
 F_sum_of : Fun K "sum_of" "sum_of" s_sum_of A.a_sum_of A.fd_sum_of
 b_sum_of : Binds K A.fd_sum_of ["heap"] []
 g_sum_of : mg "sum_of" = some (.ref A.a_sum_of)
 F_choices_among : Fun K "choices_among" "choices_among" s_choices_among A.a_choices_among A.fd_choices_among
 b_choices_among : Binds K A.fd_choices_among ["numbers"] []
 g_choices_among : mg "choices_among" = some (.ref A.a_choices_among)
 F_choices_of : Fun K "choices_of" "choices_of" s_choices_of A.a_choices_of A.fd_choices_of
 b_choices_of : Binds K A.fd_choices_of ["rule"] []
 g_choices_of : mg "choices_of" = some (.ref A.a_choices_of)
 F_sums_of : Fun K "sums_of" "sums_of" s_sums_of A.a_sums_of A.fd_sums_of
 b_sums_of : Binds K A.fd_sums_of ["rule"] []
 g_sums_of : mg "sums_of" = some (.ref A.a_sums_of)
 F_first_unlike : Fun K "first_unlike" "first_unlike" s_first_unlike A.a_first_unlike A.fd_first_unlike
 b_first_unlike : Binds K A.fd_first_unlike ["one", "other"] []
 g_first_unlike : mg "first_unlike" = some (.ref A.a_first_unlike)
 F_Beside___init__ : Fun K "__init__" "Beside.__init__" s_Beside___init__ A.a_Beside___init__ A.fd_Beside___init__
 b_Beside___init__ : Binds K A.fd_Beside___init__ ["self", "one", "other"] []
 F_law : Fun K "law" "law" s_law A.a_law A.fd_law
 b_law : Binds K A.fd_law ["_law_script"] []
 g_law : mg "law" = some (.ref A.a_law)
 b_all : mg "all" = none
 b_bool : mg "bool" = none
 b_enumerate : mg "enumerate" = none
 b_int : mg "int" = none
 b_isinstance : mg "isinstance" = none
 b_len : mg "len" = none
 b_list : mg "list" = none
 b_max : mg "max" = none
 b_min : mg "min" = none
 b_range : mg "range" = none
 b_sorted : mg "sorted" = none
 b_str : mg "str" = none
 b_sum : mg "sum" = none
 b_tuple : mg "tuple" = none
 b_zip : mg "zip" = none
 g_Beside : mg "Beside" = some (.ref A.c_Beside)
 cl_Beside : Cls K A.c_Beside
 mk_Beside : Mk K A.c_Beside A.a_Beside___init__
 mt_Beside_rules : Meth K A.c_Beside "rules" A.a_Beside_rules
 na_Beside_one : NoAttr K A.c_Beside "one"
 na_Beside_other : NoAttr K A.c_Beside "other"
section
variable {P : Program} {w : World} {K : PySem.W.Frag} {mg : Str -> Option Value} {base : Heap} {A : Adr}
def n_often : List Str := ["heap", "part"]
theorem sc_often : FnScope n_often ["heap", "part"] (defScope s_often) := ⟨rfl, rfl, rfl, by decide +kernel, rfl, by decide +kernel, by decide +kernel⟩
def sp_often (K : PySem.W.Frag) : Sp := fun vs H Q _ => ∃ (a : Addr) (ns : List Int) (y : Int), vs = [.ref a, .int y] /\ H a = some (.tup (ns.map V.int)) /\ Q (.int (ns.count y : Nat)) H
theorem ok_often (T : Txt K mg A) : FnOk P w K mg base CX0 1 A.a_often A.fd_often ["heap", "part"] (sp_often K) := by
 refine T.F_often.ok sc_often (fun vs H Q E h => ?_) (fun cdv Ar outer s H vs Q E hr h => ?_)
 ·obtain ⟨a, ns, y, rfl, hS, k⟩ := h
  rfl
 ·obtain ⟨a, ns, y, rfl, hS, k⟩ := h
  refine ⟨_, (pss_one (ps_ret (pe_bm PySem.F.plainAttrs_tuple PySem.F.slot_tuple_count PySem.F.type_tuple_count mt_countT (pv 0) (pa_cons (pv 1) pa_nil)))), ?_⟩
  exact ⟨_, rfl, .inr (.inl ⟨rfl, .inr ⟨_, hS⟩⟩), _, rfl, a, _, _, rfl, rfl, SqT.of hS, rfl, flat_ints _, by rw [cntV_ints]; exact k⟩
def n_lies_in : List Str := ["one", "other", "part"]
theorem sc_lies_in : FnScope n_lies_in ["one", "other"] (defScope s_lies_in) := ⟨rfl, rfl, rfl, by decide +kernel, rfl, by decide +kernel, by decide +kernel⟩
def sp_lies_in : Sp := fun vs H Q _ => ∃ (a b : Addr) (ns ms : List Int), vs = [.ref a, .ref b] /\ H a = some (.tup (ns.map V.int)) /\ H b = some (.tup (ms.map V.int)) /\ Q (.bl (lies ns ms)) H
theorem ok_lies_in (T : Txt K mg A) : FnOk P w K mg base CX0 2 A.a_lies_in A.fd_lies_in ["one", "other"] sp_lies_in := by
 refine T.F_lies_in.ok sc_lies_in (fun vs H Q E h => ?_) (fun cdv Ar outer s H vs Q E hr h => ?_)
 ·obtain ⟨a, b, ns, ms, rfl, ha, hb, k⟩ := h
  rfl
 ·obtain ⟨a, b, ns, ms, rfl, ha, hb, k⟩ := h
  refine ⟨_, (pss_cons (ps_for PassesOwn.never rfl (pi_tup (pv 0)) (pg_name (i := 2) sc_lies_in.nd rfl (by first | exact Or.inl rfl | exact Or.inr rfl))
     (pss_one (ps_if (pt_cmpR op_lt (pe_call (ok_often T) (hr.mono (by decide)) rfl T.g_often T.F_often.kp T.b_often .nil pass0 (pa_cons (pv 1) (pa_cons (pv 2) pa_nil))) (pe_call (ok_often T) (hr.mono (by decide)) rfl T.g_often T.F_often.kp T.b_often .nil pass0 (pa_cons (pv 0) (pa_cons (pv 2) pa_nil))) (nomark _))
     (pss_one (ps_ret pe_bl)) pss_nil)))
    (pss_one (ps_ret pe_bl))), ?_⟩
  refine ⟨_, rfl, a, rfl, ⟨_, SqT.of ha⟩, for_tup (xs := ns.map V.int) (fun i σ' H' => H' = H /\ (∃ v, σ' = [some (.ref a), some (.ref b), v]) /\ (ns.take i).all (fun x => decide (ns.count x <= ms.count x)) = true) ⟨rfl, ⟨_, rfl⟩, rfl⟩ ?_ ?_ ?_⟩
  ·rintro i σ' H' _ ⟨rfl, _⟩
   exact SqT.of ha
  ·rintro i x σ' H' hx ⟨rfl, ⟨v, rfl⟩, hall⟩
   obtain ⟨z, hz, rfl⟩ := map_at hx
   refine ⟨_, rfl, _, rfl, b, ms, z, rfl, hb, ?_⟩
   refine ⟨_, rfl, _, rfl, a, ns, z, rfl, ha, ?_⟩
   refine ⟨_, _, rfl, rfl, _, rfl, ?_⟩
   refine ite2 (fun hlt => ?_) (fun hlt => ⟨rfl, ⟨_, rfl⟩, ?_⟩)
   ·have h1 : lies ns ms = false := all_false (List.mem_of_getElem? hz) (by
     have := of_decide_eq_true hlt
     exact decide_eq_false (by omega))
    rw [h1] at k
    exact k
   ·rw [all_take hz, hall, Bool.true_and]
    refine decide_eq_true ?_
    have : ¬ ((ms.count z : Nat) : Int) < ((ns.count z : Nat) : Int) := fun q => hlt (decide_eq_true q)
    omega
  ·rintro σ' H' ⟨rfl, _, hall⟩
   rw [List.length_map, List.take_length] at hall
   have h1 : lies ns ms = true := hall
   rw [h1] at k
   exact k
def n_all_in : List Str := ["rule", "heap"]
theorem sc_all_in : FnScope n_all_in ["rule", "heap"] (defScope s_all_in) := ⟨rfl, rfl, rfl, by decide +kernel, rfl, by decide +kernel, by decide +kernel⟩
def sp_all_in : Sp := fun vs H Q _ => ∃ (p q : Addr) (rs : List V) (rule : List (List Int)) (hs : List Int), vs = [.ref p, .ref q] /\ H p = some (.tup rs) /\ All2 Tup1 H rule rs /\ H q = some (.tup (hs.map V.int)) /\ rule.length <= 60 /\
 ∀ (l : Addr) (H' : Hp), H' l = some (.lst ((idxG rule hs).map V.int)) -> Same H H' -> H l = none -> Q (.ref l) H'
theorem ok_all_in (T : Txt K mg A) : FnOk P w K mg base CX0 3 A.a_all_in A.fd_all_in ["rule", "heap"] sp_all_in := by
 refine T.F_all_in.ok sc_all_in (fun vs H Q E h => ?_) (fun cdv Ar outer s H vs Q E hr h => ?_)
 ·obtain ⟨p, q, rs, rule, hs, rfl, hp, h2, hq, hln, k⟩ := h
  rfl
 ·obtain ⟨p, q, rs, rule, hs, rfl, hp, h2, hq, hln, k⟩ := h
  refine ⟨_, (pss_one (ps_ret (pe_comp (ls := ["number", "shut"]) (fr := [("heap", 1)]) (cs_of (defScope s_all_in) n_all_in rfl rfl (by decide +kernel)) rfl (pi_enum true rfl T.b_enumerate (pa_cons (pv 0) pa_nil)) (fun _ _ _ _ => pg_tupC 2 rfl (pgs_cons (pgc (ls := ["number", "shut"]) (fr := [("heap", 1)]) 0 (by decide +kernel) rfl rfl) (pgs_cons (pgc (ls := ["number", "shut"]) (fr := [("heap", 1)]) 1 (by decide +kernel) rfl rfl) pgs_nil)) rfl rfl) (fun _ _ _ _ => pf_one (pt_truthK K rfl (pe_call (ok_lies_in T) (hr.mono (by decide)) (glc (defScope s_all_in)) T.g_lies_in T.F_lies_in.kp T.b_lies_in .nil pass0 (pa_cons (pvc (defScope s_all_in) 1) (pa_cons (pvc (defScope s_all_in) 2) pa_nil))) (fun _ => rfl))) (fun _ _ _ _ => (pvc (defScope s_all_in) 0))))), ?_⟩
  refine ⟨_, rfl, p, rfl, ⟨_, SqT.of hp⟩, comp_enum (k := true) (xs := rs) (fun i zs σ' H' => Same H H' /\ (∃ v w, σ' = [v, w, some (.ref q)]) /\ zs = (idxP rule hs i).map V.int) ⟨fun _ _ h => h, ⟨_, _, rfl⟩, rfl⟩ ?_ ?_ ?_⟩
  ·rintro i zs σ' H' hi ⟨s, _, rfl⟩
   refine ⟨SqT.of (s _ _ hp), ?_⟩
   rw [List.length_map]
   have h1 := idxP_len rule hs i
   have h2 := h2.length
   exact small64 (by omega)
  ·rintro i x zs σ' H' T' hx ⟨s, ⟨v, w', rfl⟩, rfl⟩ hT
   obtain ⟨hs1, hh1, q1, rfl, hq1⟩ := h2.get hx
   have hi := (List.getElem?_eq_some_iff.mp hh1).1
   have e1 : rule.getD i [] = hs1 := by simp [hh1]
   refine ⟨T', _, rfl, SqT.of upd_same, rfl, _, _, rfl, _, _, rfl, rfl, ?_⟩
   have sn := s.trans (Same.new (o := .tup [.int i, .ref q1]) hT)
   refine ⟨_, rfl, _, rfl, q1, q, hs1, hs, rfl, sn _ _ hq1, sn _ _ hq, ?_⟩
   refine ⟨_, rfl, ?_⟩
   refine ite2 (fun hc => ⟨_, rfl, sn, ⟨_, _, rfl⟩, ?_⟩) (fun hc => ⟨sn, ⟨_, _, rfl⟩, ?_⟩)
   ·rw [idxP_succ, e1, if_pos hc, List.map_append]
    rfl
   ·rw [idxP_succ, e1, if_neg hc, List.append_nil]
  ·rintro zs σ' H' ⟨s, _, rfl⟩ l hl
   rw [<- h2.length]
   exact k l _ upd_same (s.trans (Same.new hl)) (s.free hl)
def n_first_in : List Str := ["rule", "heap"]
theorem sc_first_in : FnScope n_first_in ["rule", "heap"] (defScope s_first_in) := ⟨rfl, rfl, rfl, by decide +kernel, rfl, by decide +kernel, by decide +kernel⟩
def sp_first_in : Sp := fun vs H Q _ => ∃ (p q : Addr) (rs : List V) (rule : List (List Int)) (hs : List Int), vs = [.ref p, .ref q] /\ H p = some (.tup rs) /\ All2 Tup1 H rule rs /\ H q = some (.tup (hs.map V.int)) /\ rule.length <= 60 /\
 ∀ (H' : Hp), Same H H' -> Q (optV (firstG rule hs)) H'
theorem ok_first_in (T : Txt K mg A) : FnOk P w K mg base CX0 4 A.a_first_in A.fd_first_in ["rule", "heap"] sp_first_in := by
 refine T.F_first_in.ok sc_first_in (fun vs H Q E h => ?_) (fun cdv Ar outer s H vs Q E hr h => ?_)
 ·obtain ⟨p, q, rs, rule, hs, rfl, hp, h2, hq, hln, k⟩ := h
  rfl
 ·obtain ⟨p, q, rs, rule, hs, rfl, hp, h2, hq, hln, k⟩ := h
  refine ⟨_, (pss_one (ps_ret (pe_minD false rfl rfl T.b_min (pe_call (ok_all_in T) (hr.mono (by decide)) rfl T.g_all_in T.F_all_in.kp T.b_all_in .nil pass0 (pa_cons (pv 0) (pa_cons (pv 1) pa_nil))) pe_non))), ?_⟩
  refine ⟨_, rfl, _, rfl, p, q, rs, rule, hs, rfl, hp, h2, hq, hln, fun l H' hl s nl => ?_⟩
  refine ⟨l, idxG rule hs, rfl, SqL.of hl, fun v hv => ?_⟩
  rcases hv with ⟨e, rfl⟩ | ⟨m, rfl, hm⟩
  ·have := k H' s
   rw [first_none e] at this
   exact this
  ·have e : firstG rule hs = some m := idxP_head rule hs rule.length m hm
   have := k H' s
   rw [e] at this
   exact this
def n_keeps : List Str := ["rule", "heap"]
theorem sc_keeps : FnScope n_keeps ["rule", "heap"] (defScope s_keeps) := ⟨rfl, rfl, rfl, by decide +kernel, rfl, by decide +kernel, by decide +kernel⟩
def sp_keeps : Sp := fun vs H Q _ => ∃ (p q : Addr) (rs : List V) (rule : List (List Int)) (hs : List Int), vs = [.ref p, .ref q] /\ H p = some (.tup rs) /\ All2 Tup1 H rule rs /\ H q = some (.tup (hs.map V.int)) /\ rule.length <= 60 /\
 ∀ (H' : Hp), Same H H' -> Q (.bl (firstG rule hs).isNone) H'
theorem ok_keeps (T : Txt K mg A) : FnOk P w K mg base CX0 5 A.a_keeps A.fd_keeps ["rule", "heap"] sp_keeps := by
 refine T.F_keeps.ok sc_keeps (fun vs H Q E h => ?_) (fun cdv Ar outer s H vs Q E hr h => ?_)
 ·obtain ⟨p, q, rs, rule, hs, rfl, hp, h2, hq, hln, k⟩ := h
  rfl
 ·obtain ⟨p, q, rs, rule, hs, rfl, hp, h2, hq, hln, k⟩ := h
  refine ⟨_, (pss_one (ps_ret (pe_cmpR op_isN (pe_call (ok_first_in T) (hr.mono (by decide)) rfl T.g_first_in T.F_first_in.kp T.b_first_in .nil pass0 (pa_cons (pv 0) (pa_cons (pv 1) pa_nil))) pe_non (nomark _)))), ?_⟩
  refine ⟨_, rfl, _, rfl, p, q, rs, rule, hs, rfl, hp, h2, hq, hln, fun H' s => ⟨rfl, ?_⟩⟩
  rw [optV_none]
  exact k H' s
def n_Beside_rules : List Str := ["self"]
theorem sc_Beside_rules : FnScope n_Beside_rules ["self"] (defScope s_Beside_rules) := ⟨rfl, rfl, rfl, by decide +kernel, rfl, by decide +kernel, by decide +kernel⟩
def sp_bes_rules (A : Adr) : Sp := fun vs H Q _ => ∃ (x dx p q : Addr), vs = [.ref x] /\ H x = some (.ins A.c_Beside dx (fl2 p q)) /\ ∀ (t : Addr) (H' : Hp), H' t = some (.tup [.ref p, .ref q]) -> Same H H' -> Q (.ref t) H'
theorem ok_Beside_rules (T : Txt K mg A) : FnOk P w K mg base CX0 1 A.a_Beside_rules A.fd_Beside_rules ["self"] (sp_bes_rules A) := by
 refine T.F_Beside_rules.ok sc_Beside_rules (fun vs H Q E h => ?_) (fun cdv Ar outer s H vs Q E hr h => ?_)
 ·obtain ⟨x, dx, p, q, rfl, hx, k⟩ := h
  rfl
 ·obtain ⟨x, dx, p, q, rfl, hx, k⟩ := h
  refine ⟨_, (pss_one (ps_ret (pe_tup (pa_cons (pe_fld (pv 0) rfl) (pa_cons (pe_fld (pv 0) rfl) pa_nil))))), ?_⟩
  exact ⟨_, rfl, x, A.c_Beside, dx, _, _, rfl, hx, T.cl_Beside, T.na_Beside_one, fl2_one _ _, _, rfl, x, A.c_Beside, dx, _, _, rfl, hx, T.cl_Beside, T.na_Beside_other, fl2_other _ _, by show 2 <= sizeLine; decide, fun t ht => k t _ upd_same (Same.new ht)⟩
def n_is_end : List Str := ["sided", "place"]
theorem sc_is_end : FnScope n_is_end ["sided", "place"] (defScope s_is_end) := ⟨rfl, rfl, rfl, by decide +kernel, rfl, by decide +kernel, by decide +kernel⟩
def sp_is_end (A : Adr) : Sp := fun vs H Q _ => ∃ (x p q : Addr) (rs qs : List V) (one other : List (List Int)) (pl : Plc) (v : V), vs = [.ref x, v] /\ Sided A.c_Beside H x p q rs qs one other /\ PlaceV pl v H /\ ∀ H', Same H H' -> Q (.bl (isEndB other pl)) H'
theorem ok_is_end (T : Txt K mg A) : FnOk P w K mg base CX0 6 A.a_is_end A.fd_is_end ["sided", "place"] (sp_is_end A) := by
 refine T.F_is_end.ok sc_is_end (fun vs H Q E h => ?_) (fun cdv Ar outer s H vs Q E hr h => ?_)
 ·obtain ⟨x, p, q, rs, qs, one, other, pl, v, rfl, S, hv, k⟩ := h
  rfl
 ·obtain ⟨x, p, q, rs, qs, one, other, pl, v, rfl, S, hv, k⟩ := h
  refine ⟨_, (pss_one (ps_ret (pe_and (pe_cmpR op_eq (pe_ix ix_tup (pv 1) pe_int (fun _ _ => rfl)) pe_int (nomark _)) (pe_one (pe_call (ok_keeps T) (hr.mono (by decide)) rfl T.g_keeps T.F_keeps.kp T.b_keeps .nil pass0 (pa_cons (pe_ix ix_tup (pe_meth0 (pv 0) T.cl_Beside T.mt_Beside_rules (ok_Beside_rules T) (hr.mono (by decide)) T.b_Beside_rules .nil pass0) pe_int (fun _ _ => rfl)) (pa_cons (pe_ix ix_tup (pv 1) pe_int (fun _ _ => rfl)) pa_nil))))))), ?_⟩
  obtain ⟨t, hh, hc, rfl, g1, g2, g3⟩ := hv
  obtain ⟨sd, heap, ch⟩ := pl
  dsimp only at g1 g2 g3
  obtain ⟨dx, hx⟩ := S.ob
  refine ⟨_, rfl, t, _, _, _, rfl, rfl, SqT.of g1, atI_nat (j := 0) rfl, rfl, _, rfl, ?_⟩
  refine ite2 (fun h1 => ?_) (fun h1 => ?_)
  ·have e : sd = 2 := V.int.inj (of_decide_eq_true h1)
   refine ⟨_, rfl, x, dx, _, rfl, hx, fl2_no _ _ (by decide +kernel) (by decide +kernel), x, dx, p, q, rfl, hx, fun t2 H2 ht2 s2 => ?_⟩
   refine ⟨t2, _, 1, _, rfl, rfl, SqT.of ht2, atI_nat (j := 1) rfl, _, rfl, t, _, _, _, rfl, rfl, SqT.of (s2 _ _ g1), atI_nat (j := 1) rfl, ?_⟩
   have l6 := S.l6
   have ln := S.ln
   refine ⟨q, hh, qs, other, heap, rfl, s2 _ _ S.hq, S.g2.mv s2.tups, s2 _ _ g2, by omega, fun H3 s3 => ?_⟩
   have := k H3 (s2.trans s3)
   unfold isEndB at this
   rw [show decide ((sd, heap, ch).1 = 2) = true from decide_eq_true e, Bool.true_and] at this
   exact this
  ·have e : ¬ sd = 2 := fun z => h1 (decide_eq_true (by rw [z]))
   have := k H (Same.refl _)
   unfold isEndB at this
   rw [show decide ((sd, heap, ch).1 = 2) = false from decide_eq_false e, Bool.false_and] at this
   exact this
def n_heap_of : List Str := ["parts", "part"]
theorem sc_heap_of : FnScope n_heap_of ["parts"] (defScope s_heap_of) := ⟨rfl, rfl, rfl, by decide +kernel, rfl, by decide +kernel, by decide +kernel⟩
def sp_heap_of : Sp := fun vs H Q _ => ∃ (a : Addr) (ns : List Int), vs = [.ref a] /\ H a = some (.tup (ns.map V.int)) /\ ns.length < 64 /\ (∀ x ∈ ns, 1 <= x) /\
 ∀ (p : Addr) (H' : Hp), H' p = some (.tup ((sortD ns).map V.int)) -> Same H H' -> Q (.ref p) H'
theorem ok_heap_of (T : Txt K mg A) : FnOk P w K mg base CX0 1 A.a_heap_of A.fd_heap_of ["parts"] sp_heap_of := by
 refine T.F_heap_of.ok sc_heap_of (fun vs H Q E h => ?_) (fun cdv Ar outer s H vs Q E hr h => ?_)
 ·obtain ⟨a, ns, rfl, ha, hl, hp, k⟩ := h
  rfl
 ·obtain ⟨a, ns, rfl, ha, hl, hp, k⟩ := h
  refine ⟨_, (pss_cons (ps_for PassesOwn.never rfl (pi_tup (pv 0)) (pg_name (i := 1) sc_heap_of.nd rfl (by first | exact Or.inl rfl | exact Or.inr rfl))
     (pss_one (ps_if (pt_cmpR op_lt (pv 1) pe_int (nomark _))
     (pss_one ps_never) pss_nil)))
    (pss_one (ps_ret (pe_callTy call_tuple_of rfl T.b_tuple boot_tuple (pa_cons (pe_sortR rfl T.b_sorted (pv 0)) pa_nil))))), ?_⟩
  refine ⟨_, rfl, a, rfl, ⟨_, SqT.of ha⟩, for_tup (xs := ns.map V.int) (fun i σ' H' => H' = H /\ ∃ v, σ' = [some (.ref a), v]) ⟨rfl, _, rfl⟩ ?_ ?_ ?_⟩
  ·rintro i σ' H' _ ⟨rfl, _⟩
   exact SqT.of ha
  ·rintro i x σ' H' hx ⟨rfl, v, rfl⟩
   obtain ⟨z, hz, rfl⟩ := map_at hx
   have h1 := hp z (List.mem_of_getElem? hz)
   refine ⟨_, rfl, _, _, rfl, rfl, _, rfl, ?_⟩
   refine ite2 (fun hlt => absurd (of_decide_eq_true hlt) (by omega)) (fun _ => ⟨rfl, _, rfl⟩)
  ·rintro σ' H' ⟨rfl, v, rfl⟩
   refine ⟨_, rfl, a, ns, rfl, .inr (SqT.of ha), hl, fun ns' p4 hperm hord hp4 => ?_⟩
   refine ⟨p4, _, rfl, .inl ⟨SqL.of upd_same, fun p5 hp5 => ?_⟩⟩
   have e : ns' = sortD ns := sortD_eq hperm hord
   subst e
   exact k p5 _ upd_same ((Same.new hp4).trans (Same.new hp5))
def n_put : List Str := ["one", "other"]
theorem sc_put : FnScope n_put ["one", "other"] (defScope s_put) := ⟨rfl, rfl, rfl, by decide +kernel, rfl, by decide +kernel, by decide +kernel⟩
def sp_put : Sp := fun vs H Q _ => ∃ (a b : Addr) (ns ms : List Int), vs = [.ref a, .ref b] /\ H a = some (.tup (ns.map V.int)) /\ H b = some (.tup (ms.map V.int)) /\ (ns ++ ms).length < 64 /\ (∀ x ∈ ns ++ ms, 1 <= x) /\
 ∀ (p : Addr) (H' : Hp), H' p = some (.tup ((sortD (ns ++ ms)).map V.int)) -> Same H H' -> Q (.ref p) H'
theorem ok_put (T : Txt K mg A) : FnOk P w K mg base CX0 2 A.a_put A.fd_put ["one", "other"] sp_put := by
 refine T.F_put.ok sc_put (fun vs H Q E h => ?_) (fun cdv Ar outer s H vs Q E hr h => ?_)
 ·obtain ⟨a, b, ns, ms, rfl, ha, hb, hl, hp, k⟩ := h
  rfl
 ·obtain ⟨a, b, ns, ms, rfl, ha, hb, hl, hp, k⟩ := h
  refine ⟨_, (pss_one (ps_ret (pe_call (ok_heap_of T) (hr.mono (by decide)) rfl T.g_heap_of T.F_heap_of.kp T.b_heap_of .nil pass0 (pa_cons (pe_op op_catA (pv 0) (pv 1)) pa_nil)))), ?_⟩
  refine ⟨_, rfl, _, rfl, cat_any ha hb (Nat.le_trans (Nat.le_of_lt hl) (by decide)) fun v H1 hv s1 => ?_⟩
  obtain ⟨q, rfl, hq⟩ := hv
  exact ⟨q, ns ++ ms, rfl, hq, hl, hp, fun p H2 hp2 s2 => k p H2 hp2 (s1.trans s2)⟩
def n_taken : List Str := ["one", "other", "parts", "part"]
theorem sc_taken : FnScope n_taken ["one", "other"] (defScope s_taken) := ⟨rfl, rfl, rfl, by decide +kernel, rfl, by decide +kernel, by decide +kernel⟩
def sp_taken (A : Adr) : Sp := fun vs H Q _ => ∃ (a b : Addr) (ns ms : List Int), vs = [.ref a, .ref b] /\ H a = some (.tup (ns.map V.int)) /\ H b = some (.tup (ms.map V.int)) /\ ms.length <= 10000 /\ lies ns ms = true /\
 (∀ (p : Addr) (H' : Hp), H' p = some (.tup ((takeOut ns ms).map V.int)) -> Same H H' -> Q (.ref p) H')
theorem ok_taken (T : Txt K mg A) : FnOk P w K mg base CX0 3 A.a_taken A.fd_taken ["one", "other"] (sp_taken A) := by
 refine T.F_taken.ok sc_taken (fun vs H Q E h => ?_) (fun cdv Ar outer s H vs Q E hr h => ?_)
 ·obtain ⟨a, b, ns, ms, rfl, ha, hb, hl, hc, k⟩ := h
  rfl
 ·obtain ⟨a, b, ns, ms, rfl, ha, hb, hl, hc, k⟩ := h
  refine ⟨_, (pss_cons (ps_if (pt_not (pt_truth (pe_call (ok_lies_in T) (hr.mono (by decide)) rfl T.g_lies_in T.F_lies_in.kp T.b_lies_in .nil pass0 (pa_cons (pv 0) (pa_cons (pv 1) pa_nil))) (fun _ => rfl)))
     (pss_one ps_never) pss_nil)
    (pss_cons (ps_set (i := 2) sc_taken.nd rfl (by first | exact Or.inl rfl | exact Or.inr rfl) (pe_callTy call_list_of rfl T.b_list boot_list (pa_cons (pv 1) pa_nil)))
    (pss_cons (ps_for PassesOwn.never rfl (pi_tup (pv 0)) (pg_name (i := 3) sc_taken.nd rfl (by first | exact Or.inl rfl | exact Or.inr rfl))
     (pss_one (ps_expr (pe_bm PySem.F.plainAttrs_list PySem.F.slot_list_remove PySem.F.type_list_remove mt_remove (pv 2) (pa_cons (pv 3) pa_nil)))))
    (pss_one (ps_ret (pe_callTy call_tuple_of rfl T.b_tuple boot_tuple (pa_cons (pv 2) pa_nil))))))), ?_⟩
  refine ⟨_, rfl, _, rfl, a, b, ns, ms, rfl, ha, hb, _, rfl, ?_⟩
  rw [hc]
  refine iteF ⟨_, rfl, b, _, rfl, .inr (SqT.of hb), fun l hl0 => ?_⟩
  have s0 := Same.new (o := .lst (ms.map V.int)) hl0
  refine ⟨_, rfl, a, rfl, ⟨_, SqT.of (s0 _ _ ha)⟩, for_tup (xs := ns.map V.int) (fun i σ' H' => (∃ v, σ' = [some (.ref a), some (.ref b), some (.ref l), v]) /\ Same H H' /\ H' l = some (.lst ((takeOut (ns.take i) ms).map V.int))) ⟨⟨_, rfl⟩, s0, upd_same⟩ ?_ ?_ ?_⟩
  ·rintro i σ' H' _ ⟨_, s', _⟩
   exact SqT.of (s' _ _ ha)
  ·rintro i x σ' H' hx ⟨⟨v, rfl⟩, s', gl⟩
   obtain ⟨z, hz, rfl⟩ := map_at hx
   have hi := (List.getElem?_eq_some_iff.mp hz).1
   have ez := (List.getElem?_eq_some_iff.mp hz).2
   refine ⟨_, rfl, .inl ⟨rfl, _, SqL.of gl⟩, _, rfl, l, _, z, rfl, rfl, gl, take_in hc hz, ⟨_, rfl⟩, s'.updN hl0, ?_⟩
   rw [upd_same, List.take_succ_eq_append_getElem hi, ez, takeOut_snoc]
  ·rintro σ' H' ⟨⟨v, rfl⟩, s', gl⟩
   rw [List.length_map, List.take_length] at gl
   exact ⟨_, rfl, l, _, rfl, .inl ⟨SqL.of gl, fun p hp => k p _ upd_same (s'.trans (Same.new hp))⟩⟩
def n_unlike_parts : List Str := ["heaps", "seen", "heap", "part"]
theorem sc_unlike_parts : FnScope n_unlike_parts ["heaps"] (defScope s_unlike_parts) := ⟨rfl, rfl, rfl, by decide +kernel, rfl, by decide +kernel, by decide +kernel⟩
def sp_unlike : Sp := fun vs H Q _ => ∃ (a : Addr) (xs : List V) (ls : List (List Int)), vs = [.ref a] /\ H a = some (.lst xs) /\ All2 Tup1 H ls xs /\ ((∃ D : List Int, D.length < 64 /\ ∀ x ∈ ls.flatten, x ∈ D) /\ ls.flatten.length < 1000) /\
 ∀ (l : Addr) (us : List Int) (H' : Hp), H' l = some (.lst (us.map V.int)) -> us.Nodup -> us.Pairwise (· >= ·) -> (∀ x, x ∈ us ↔ x ∈ ls.flatten) -> us.length < 64 -> Same H H' -> H l = none -> Q (.ref l) H'
theorem ok_unlike_parts (T : Txt K mg A) : FnOk P w K mg base CX0 1 A.a_unlike_parts A.fd_unlike_parts ["heaps"] sp_unlike := by
 refine T.F_unlike_parts.ok sc_unlike_parts (fun vs H Q E h => ?_) (fun cdv Ar outer s H vs Q E hr h => ?_)
 ·obtain ⟨a, xs, ls, rfl, ha, h2, ⟨⟨D, hD, hDm⟩, hln⟩, k⟩ := h
  rfl
 ·obtain ⟨a, xs, ls, rfl, ha, h2, ⟨⟨D, hD, hDm⟩, hln⟩, k⟩ := h
  refine ⟨_, (pss_cons (ps_set (i := 1) sc_unlike_parts.nd rfl (by first | exact Or.inl rfl | exact Or.inr rfl) pe_dnewK)
    (pss_cons (ps_for PassesOwn.never rfl (pi_list (pv 0)) (pg_name (i := 2) sc_unlike_parts.nd rfl (by first | exact Or.inl rfl | exact Or.inr rfl))
     (pss_one (ps_for PassesOwn.never rfl (pi_tup (pv 2)) (pg_name (i := 3) sc_unlike_parts.nd rfl (by first | exact Or.inl rfl | exact Or.inr rfl))
     (pss_one (ps_dput (huR hr) (pv 1) (pv 3) pe_bl rfl)))))
    (pss_one (ps_ret (pe_sortD rfl rfl T.b_sorted (pv 1)))))), ?_⟩
  refine fun d hd => ?_
  have hlc : ∀ i j (x : List Int), ls[i]? = some x -> ((ls.take i).flatten ++ x.take j).length < 1000 := fun i j x hx => by
   have hi := (List.getElem?_eq_some_iff.mp hx).1
   have ex := (List.getElem?_eq_some_iff.mp hx).2
   have e1 : ls.flatten = (ls.take i).flatten ++ (x ++ (ls.drop (i + 1)).flatten) := by
    conv => lhs; rw [<- List.take_append_drop i ls]
    rw [List.flatten_append, List.drop_eq_getElem_cons hi, ex, List.flatten_cons]
   rw [e1] at hln
   simp only [List.length_append, List.length_take] at hln ⊢
   omega
  have hlen := h2.length
  refine ⟨_, rfl, a, rfl, ⟨_, SqL.of (Same.new hd _ _ ha)⟩, for_list (xs := xs) (fun i σ' H' => SeenU H H' d (ls.take i).flatten /\ ∃ v w, σ' = [some (.ref a), some (.ref d), v, w]) ⟨⟨⟨[], [], upd_same, rfl, .nil, Nat.le_refl _, fun x => Iff.rfl⟩, Same.new hd, hd⟩, _, _, rfl⟩ ?_ ?_ ?_⟩
  ·rintro i σ' H' _ ⟨S, _⟩
   exact SqL.of (S.sm _ _ ha)
  ·rintro i x σ' H' hx ⟨S, v, w', rfl⟩
   obtain ⟨hs, hhs, q, rfl, hq⟩ := h2.get hx
   refine ⟨_, rfl, q, rfl, ⟨_, SqT.of (S.sm _ _ hq)⟩, for_tup (xs := hs.map V.int) (fun j σ' H' => SeenU H H' d ((ls.take i).flatten ++ hs.take j) /\ ∃ w, σ' = [some (.ref a), some (.ref d), some (.ref q), w]) ⟨by rw [List.take_zero, List.append_nil]; exact S, _, rfl⟩ ?_ ?_ ?_⟩
   ·rintro j σ' H2 _ ⟨S2, _⟩
    exact SqT.of (S2.sm _ _ hq)
   ·rintro j x σ' H2 hx2 ⟨S2, w2, rfl⟩
    obtain ⟨z, hz, rfl⟩ := map_at hx2
    have hj := (List.getElem?_eq_some_iff.mp hz).1
    have ez := (List.getElem?_eq_some_iff.mp hz).2
    obtain ⟨H3, hp, S3⟩ := S2.put (z := z) (by have := hlc i j hs hhs; omega)
    refine ⟨_, rfl, _, rfl, d, H3, rfl, hp, ?_, _, rfl⟩
    rw [List.take_succ_eq_append_getElem hj, ez, <- List.append_assoc]
    exact S3
   ·rintro σ' H2 ⟨S2, w2, rfl⟩
    rw [List.length_map, List.take_length] at S2
    have hi := (List.getElem?_eq_some_iff.mp hhs).1
    have ez := (List.getElem?_eq_some_iff.mp hhs).2
    refine ⟨?_, _, _, rfl⟩
    rw [List.take_succ_eq_append_getElem hi, List.flatten_append, ez]
    simpa using S2
  ·rintro σ' H2 ⟨S2, v, w2, rfl⟩
   rw [<- hlen, List.take_length] at S2
   obtain ⟨⟨kvs, ns, hd2, hk, hnd, hn, hm⟩, sm, nw⟩ := S2
   have hlD : ns.length <= D.length := nodup_len hnd fun x hx => hDm x ((hm x).mp hx)
   refine ⟨_, rfl, d, kvs, ns, rfl, hd2, hk, by omega, fun us l nd hperm hord hl => ?_⟩
   exact k l us _ upd_same (hperm.nodup_iff.mpr nd) hord (fun x => by rw [hperm.mem_iff, hm]) (by rw [hperm.length_eq]; omega) (Same.trans sm (Same.new hl)) (Same.free sm hl)
def n_joined : List Str := ["heaps", "parts", "part"]
theorem sc_joined : FnScope n_joined ["heaps"] (defScope s_joined) := ⟨rfl, rfl, rfl, by decide +kernel, rfl, by decide +kernel, by decide +kernel⟩
def sp_joined : Sp := fun vs H Q _ => ∃ (a : Addr) (xs : List V) (ls : List (List Int)), vs = [.ref a] /\ H a = some (.lst xs) /\ All2 Tup1 H ls xs /\ ((∃ D : List Int, D.length < 64 /\ ∀ x ∈ ls.flatten, x ∈ D) /\ ls.flatten.length < 1000) /\ ls.length <= 60 /\
 ∀ (p : Addr) (ms : List Int) (H' : Hp), H' p = some (.tup (ms.map V.int)) -> IsJoin ls ms -> ms.length <= 100000 -> Same H H' -> H p = none -> Q (.ref p) H'
theorem ok_joined (T : Txt K mg A) : FnOk P w K mg base CX0 2 A.a_joined A.fd_joined ["heaps"] sp_joined := by
 refine T.F_joined.ok sc_joined (fun vs H Q E h => ?_) (fun cdv Ar outer s H vs Q E hr h => ?_)
 ·obtain ⟨a, xs, ls, rfl, ha, h2, hln, hls, k⟩ := h
  rfl
 ·obtain ⟨a, xs, ls, rfl, ha, h2, hln, hls, k⟩ := h
  refine ⟨_, (pss_cons (ps_set (i := 1) sc_joined.nd rfl (by first | exact Or.inl rfl | exact Or.inr rfl) (pe_lst pa_nil))
    (pss_cons (ps_for PassesOwn.never rfl (pi_list (pe_call (ok_unlike_parts T) (hr.mono (by decide)) rfl T.g_unlike_parts T.F_unlike_parts.kp T.b_unlike_parts .nil pass0 (pa_cons (pv 0) pa_nil))) (pg_name (i := 2) sc_joined.nd rfl (by first | exact Or.inl rfl | exact Or.inr rfl))
     (pss_one (ps_expr (pe_bm PySem.F.plainAttrs_list PySem.F.slot_list_extend PySem.F.type_list_extend mt_extend (pv 1) (pa_cons (pe_op op_rep (pe_lst (pa_cons (pv 2 (hv := Or.inr (Or.inl rfl))) pa_nil)) (pe_callB (call_max_ints rfl) rfl T.b_max boot_max (pa_cons (pe_comp (ls := ["heap"]) (fr := [("part", 2)]) (cs_of (defScope s_joined) n_joined rfl rfl (by decide +kernel)) rfl (pi_list (pv 0)) (fun _ _ _ _ => pgc 0 (by decide +kernel) rfl rfl) (fun _ _ _ _ => pf_nil) (fun _ _ _ _ => (pe_call (ok_often T) (hr.mono (by decide)) (glc (defScope s_joined)) T.g_often T.F_often.kp T.b_often .nil pass0 (pa_cons (pvc (defScope s_joined) 0) (pa_cons (pvc (defScope s_joined) 1) pa_nil))))) pa_nil))) pa_nil)))))
    (pss_one (ps_ret (pe_callTy call_tuple_of rfl T.b_tuple boot_tuple (pa_cons (pv 1) pa_nil)))))), ?_⟩
  refine ⟨by show 0 <= sizeLine; decide, fun pa hpa => ?_⟩
  have h2a := h2.mv (Same.new (o := .lst []) hpa).tups
  refine ⟨_, rfl, a, xs, ls, rfl, Same.new hpa _ _ ha, h2a, hln, fun l us H1 hl nd pw hm hul s1 nl => ?_⟩
  have s01 : Same H H1 := (Same.new hpa).trans s1
  have npl : pa ≠ l := ne_of_none (upd_same (H := H) (a := pa) (o := .lst [])) nl
  refine ⟨l, rfl, ⟨_, SqL.of hl⟩, for_list (xs := us.map V.int) (fun i σ' H' => (∀ b o, H1 b = some o -> b ≠ pa -> H' b = some o) /\ H' pa = some (.lst ((blow (maxC ls) (us.take i)).map V.int)) /\ (blow (maxC ls) (us.take i)).length <= 1000 * i /\ i <= 64 /\ ∃ v, σ' = [some (.ref a), some (.ref pa), v]) ⟨fun _ _ h _ => h, s1 _ _ upd_same, Nat.le_refl _, Nat.zero_le _, _, rfl⟩ ?_ ?_ ?_⟩
  ·rintro i σ' H' _ ⟨kp, _⟩
   exact SqL.of (kp _ _ hl npl.symm)
  ·rintro i x σ' H' hx ⟨kp, gp, hle, hi64, v, rfl⟩
   obtain ⟨z, hz, rfl⟩ := map_at hx
   have hi := (List.getElem?_eq_some_iff.mp hz).1
   have ez := (List.getElem?_eq_some_iff.mp hz).2
   have ha' : H' a = some (.lst xs) := kp _ _ (s01 _ _ ha) (ne_of_none ha hpa)
   have t1 : Tups H H' := fun b ys e => kp _ _ (s01 _ _ e) (ne_of_none e hpa)
   have h2' := h2.mv t1
   have zm : z ∈ ls.flatten := (hm z).mp (List.mem_of_getElem? hz)
   refine ⟨_, rfl, .inl ⟨rfl, _, SqL.of gp⟩, _, rfl, by show 1 <= sizeLine; decide, fun l1 hl1 => ?_⟩
   have h2b := h2'.mv (Same.new (o := .lst [V.int z]) hl1).tups
   have hab := (Same.new (o := .lst [V.int z]) hl1) _ _ ha'
   have gpb := (Same.new (o := .lst [V.int z]) hl1) _ _ gp
   generalize hHb : upd H' l1 (.lst [V.int z]) = Hb at h2b hab gpb
   have gl1 : Hb l1 = some (.lst [V.int z]) := by rw [<- hHb]; exact upd_same
   have sb : Same H' Hb := by rw [<- hHb]; exact Same.new hl1
   refine ⟨_, rfl, a, rfl, ⟨_, SqL.of hab⟩, comp_list (xs := xs) (fun j ys σ' H' => H' = Hb /\ (∃ v, σ' = [v, some (.int z)]) /\ ys = ((ls.take j).map fun h => ((h.count z : Nat) : Int)).map V.int) ⟨rfl, ⟨_, rfl⟩, rfl⟩ ?_ ?_ ?_⟩
   ·rintro j ys σ' H'' hj ⟨rfl, _, rfl⟩
    refine ⟨SqL.of hab, ?_⟩
    rw [List.length_map, List.length_map, List.length_take]
    exact small64 (by omega)
   ·rintro j x ys σ' H'' hx ⟨rfl, ⟨v, rfl⟩, rfl⟩
    obtain ⟨hs, hhs, q, rfl, hq⟩ := h2b.get hx
    have hj := (List.getElem?_eq_some_iff.mp hhs).1
    have eh := (List.getElem?_eq_some_iff.mp hhs).2
    refine ⟨_, rfl, _, rfl, q, hs, z, rfl, hq, rfl, ⟨_, rfl⟩, ?_⟩
    rw [List.take_succ_eq_append_getElem hj, List.map_append, List.map_append, eh]
    rfl
   ·rintro ys σ' Hb ⟨rfl, _, rfl⟩ l2 hl2
    have elen : ls.take xs.length = ls := by rw [<- h2.length, List.take_length]
    rw [elen]
    have hne : (ls.map fun h => ((h.count z : Nat) : Int)) ≠ [] := fun e => by
     have : ls = [] := List.map_eq_nil_iff.mp e
     rw [this] at zm
     cases zm
    refine ⟨l2, _, rfl, SqL.of upd_same, hne, fun m hmx => ?_⟩
    have em := max_of_counts hmx
    have hM : maxC ls z <= 1000 := by
     have h1 := maxC_flat ls z
     have h2 := List.count_le_length (a := z) (l := ls.flatten)
     omega
    refine ⟨l1, m, [V.int z], rfl, rfl, Same.new hl2 _ _ gl1, by omega, by omega, ?_, fun l3 hl3 => ?_⟩
    ·show 1 * m.toNat <= sizeLine
     refine Nat.le_trans (m := 1000) (by omega) (by decide)
    have er : (List.replicate m.toNat [V.int z]).flatten = (List.replicate (maxC ls z) z).map V.int := by
     have : m.toNat = maxC ls z := by omega
     rw [this]
     simp
    rw [er]
    have gp3 := (Same.new (o := .lst ((List.replicate (maxC ls z) z).map V.int)) hl3) _ _ ((Same.new (o := .lst ((ls.map fun h => ((h.count z : Nat) : Int)).map V.int)) hl2) _ _ gpb)
    have sn : Same H' (upd (upd Hb l2 (.lst ((ls.map fun h => ((h.count z : Nat) : Int)).map V.int))) l3 (.lst ((List.replicate (maxC ls z) z).map V.int))) := sb.trans ((Same.new hl2).trans (Same.new hl3))
    refine ⟨pa, l3, _, _, rfl, rfl, gp3, upd_same, ?_, ?_⟩
    ·rw [List.length_map, List.length_map, List.length_replicate]
     refine Nat.le_trans (m := 1000 * 64 + 1000) ?_ (by decide)
     have : 1000 * i <= 1000 * 64 := Nat.mul_le_mul_left _ hi64
     omega
    ·have eb : blow (maxC ls) (us.take (i + 1)) = blow (maxC ls) (us.take i) ++ List.replicate (maxC ls z) z := by
      rw [List.take_succ_eq_append_getElem hi, blow_append, ez]
      simp [blow]
     refine ⟨fun b o e ne => ?_, ?_, ?_, by omega, _, rfl⟩
     ·rw [upd_ne ne]
      exact sn _ _ (kp _ _ e ne)
     ·rw [upd_same, eb, List.map_append]
     ·rw [eb, List.length_append, List.length_replicate]
      omega
  ·rintro σ' H' ⟨kp, gp, hle, _, v, rfl⟩
   rw [List.length_map, List.take_length] at gp hle
   refine ⟨_, rfl, pa, _, rfl, .inl ⟨SqL.of gp, fun p hp => ?_⟩⟩
   have sH : Same H H' := fun b o e => kp _ _ (s01 _ _ e) (ne_of_none e hpa)
   refine k p _ _ upd_same (blow_join nd pw hm) (by omega) (sH.trans (Same.new hp)) (sH.free hp)
def n_joined_of : List Str := ["rule", "choice"]
theorem sc_joined_of : FnScope n_joined_of ["rule", "choice"] (defScope s_joined_of) := ⟨rfl, rfl, rfl, by decide +kernel, rfl, by decide +kernel, by decide +kernel⟩
def sp_joined_of : Sp := fun vs H Q _ => ∃ (p c : Addr) (rs : List V) (rule : List (List Int)) (ch : List Int), vs = [.ref p, .ref c] /\ H p = some (.tup rs) /\ All2 Tup1 H rule rs /\ H c = some (.tup (ch.map V.int)) /\
 (((∃ D : List Int, D.length < 64 /\ ∀ x ∈ (pickG rule ch).flatten, x ∈ D) /\ (pickG rule ch).flatten.length < 1000) /\ ch.length <= 60) /\ (∀ j ∈ ch, 0 <= j /\ j < rule.length) /\
 ∀ (q : Addr) (ms : List Int) (H' : Hp), H' q = some (.tup (ms.map V.int)) -> IsJoin (pickG rule ch) ms -> ms.length <= 100000 -> Same H H' -> H q = none -> Q (.ref q) H'
theorem ok_joined_of (T : Txt K mg A) : FnOk P w K mg base CX0 3 A.a_joined_of A.fd_joined_of ["rule", "choice"] sp_joined_of := by
 refine T.F_joined_of.ok sc_joined_of (fun vs H Q E h => ?_) (fun cdv Ar outer s H vs Q E hr h => ?_)
 ·obtain ⟨p, c, rs, rule, ch, rfl, hp, h2, hc, hln, hch, k⟩ := h
  rfl
 ·obtain ⟨p, c, rs, rule, ch, rfl, hp, h2, hc, hln, hch, k⟩ := h
  refine ⟨_, (pss_one (ps_ret (pe_call (ok_joined T) (hr.mono (by decide)) rfl T.g_joined T.F_joined.kp T.b_joined .nil pass0 (pa_cons (pe_comp (ls := ["number"]) (fr := [("rule", 0)]) (cs_of (defScope s_joined_of) n_joined_of rfl rfl (by decide +kernel)) rfl (pi_tup (pv 1)) (fun _ _ _ _ => pgc 0 (by decide +kernel) rfl rfl) (fun _ _ _ _ => pf_nil) (fun _ _ _ _ => (pe_ix (ix_tupK K rfl) (pvc (defScope s_joined_of) 1) (pvc (defScope s_joined_of) 0) (fun _ _ => rfl)))) pa_nil)))), ?_⟩
  refine ⟨_, rfl, c, rfl, ⟨_, SqT.of hc⟩, comp_tup (xs := ch.map V.int) (fun i ys σ' H' => H' = H /\ (∃ v, σ' = [v, some (.ref p)]) /\ All2 Tup1 H (pickG rule (ch.take i)) ys) ⟨rfl, ⟨_, rfl⟩, .nil⟩ ?_ ?_ ?_⟩
  ·rintro i ys σ' H' hi ⟨rfl, _, h3⟩
   refine ⟨SqT.of hc, ?_⟩
   rw [<- h3.length]
   unfold pickG
   rw [List.length_map, List.length_take]
   exact small64 (by omega)
  ·rintro i x ys σ' H' hx ⟨rfl, ⟨v, rfl⟩, h3⟩
   obtain ⟨z, hz, rfl⟩ := map_at hx
   have hi := (List.getElem?_eq_some_iff.mp hz).1
   have ez := (List.getElem?_eq_some_iff.mp hz).2
   have hb := hch z (List.mem_of_getElem? hz)
   obtain ⟨w', hw, r⟩ := pick_at h2 hb.1 hb.2
   refine ⟨_, rfl, _, rfl, p, _, z, _, rfl, rfl, SqT.of hp, hw, rfl, ⟨_, rfl⟩, ?_⟩
   rw [List.take_succ_eq_append_getElem hi, ez]
   unfold pickG
   rw [List.map_append]
   exact h3.snoc r
  ·rintro ys σ' H' ⟨rfl, _, h3⟩ l hl
   rw [List.length_map, List.take_length] at h3
   have hll : (pickG rule ch).length <= 60 := by unfold pickG; rw [List.length_map]; exact hln.2
   exact ⟨l, ys, _, rfl, upd_same, h3.mv (Same.new hl).tups, hln.1, hll, fun q ms H2 gq hj hl4 s nq => k q ms H2 gq hj hl4 ((Same.new hl).trans s) ((Same.new hl).free nq)⟩
def n_is_choice : List Str := ["rule", "choice", "least", "number"]
theorem sc_is_choice : FnScope n_is_choice ["rule", "choice"] (defScope s_is_choice) := ⟨rfl, rfl, rfl, by decide +kernel, rfl, by decide +kernel, by decide +kernel⟩
def sp_is_choice : Sp := fun vs H Q _ => ∃ (p b : Addr) (rs : List V) (ch : List Int), vs = [.ref p, .ref b] /\ H p = some (.tup rs) /\ H b = some (.tup (ch.map V.int)) /\ Q (.bl (isCh rs.length 0 ch)) H
theorem ok_is_choice (T : Txt K mg A) : FnOk P w K mg base CX0 1 A.a_is_choice A.fd_is_choice ["rule", "choice"] sp_is_choice := by
 refine T.F_is_choice.ok sc_is_choice (fun vs H Q E h => ?_) (fun cdv Ar outer s H vs Q E hr h => ?_)
 ·obtain ⟨p, b, rs, ch, rfl, hp, hb, k⟩ := h
  rfl
 ·obtain ⟨p, b, rs, ch, rfl, hp, hb, k⟩ := h
  refine ⟨_, (pss_cons (ps_set (i := 2) sc_is_choice.nd rfl (by first | exact Or.inl rfl | exact Or.inr rfl) pe_int)
    (pss_cons (ps_for PassesOwn.never rfl (pi_tup (pv 1)) (pg_name (i := 3) sc_is_choice.nd rfl (by first | exact Or.inl rfl | exact Or.inr rfl))
     (pss_cons (ps_if (PW.pt (pw_or (pt_cmpR op_lt (pv 3) (pv 2) (nomark _)) (pw_or1 (pt_cmpR op_ge (pv 3) (pe_callB call_len_seq rfl T.b_len PySem.boot_len (pa_cons (pv 0) pa_nil)) (nomark _)))))
     (pss_one (ps_ret pe_bl)) pss_nil)
    (pss_one (ps_set (i := 2) sc_is_choice.nd rfl (by first | exact Or.inl rfl | exact Or.inr rfl) (pe_op op_add (pv 3) pe_int)))))
    (pss_one (ps_ret pe_bl)))), ?_⟩
  refine ⟨_, rfl, b, rfl, ⟨_, SqT.of hb⟩, for_tup (xs := ch.map V.int) (fun i σ' H' => H' = H /\ (∃ v, σ' = [some (.ref p), some (.ref b), some (.int (lastC 0 (ch.take i))), v]) /\ isCh rs.length 0 (ch.take i) = true) ⟨rfl, ⟨_, rfl⟩, rfl⟩ ?_ ?_ ?_⟩
  ·rintro i σ' H' _ ⟨eH, _⟩
   subst eH
   exact SqT.of hb
  ·rintro i x σ' H' hx ⟨eH, ⟨v, rfl⟩, hc⟩
   subst eH
   obtain ⟨z, hz, rfl⟩ := map_at hx
   obtain ⟨hi, ez⟩ := List.getElem?_eq_some_iff.mp hz
   have et : ch.take (i + 1) = ch.take i ++ [z] := by rw [List.take_succ_eq_append_getElem hi, ez]
   have stop : z < lastC 0 (ch.take i) \/ ((rs.length : Nat) : Int) <= z -> isCh rs.length 0 ch = false := fun c => by
    have : ch = ch.take i ++ (z :: ch.drop (i + 1)) := by rw [<- ez, <- List.drop_eq_getElem_cons hi, List.take_append_drop]
    rw [this, isCh_app, isCh, if_pos c, Bool.and_false]
   refine ⟨_, rfl, _, rfl, _, _, rfl, rfl, _, rfl, ?_⟩
   refine ite2 (fun h1 => ?_) (fun h1 => ?_)
   ·rw [stop (.inl (of_decide_eq_true h1))] at k
    exact iteT k
   ·refine ⟨_, rfl, _, rfl, p, _, rfl, .inr (SqT.of hp), _, _, rfl, rfl, _, rfl, ?_⟩
    refine ite2 (fun h2 => ?_) (fun h2 => ?_)
    ·rw [stop (.inr (of_decide_eq_true h2))] at k
     exact k
    ·have c1 : ¬ z < lastC 0 (ch.take i) := fun e => h1 (decide_eq_true e)
     have c2 : ¬ ((rs.length : Nat) : Int) <= z := fun e => h2 (decide_eq_true e)
     refine ⟨_, rfl, _, _, rfl, rfl, rfl, ⟨some (.int z), ?_⟩, ?_⟩
     ·rw [et, lastC_snoc]
      rfl
     ·rw [et, isCh_app, hc, isCh, if_neg (by omega)]
      rfl
  ·rintro σ' H' ⟨eH, _, hc⟩
   subst eH
   rw [List.length_map, List.take_length] at hc
   rw [hc] at k
   exact k
def n_is_pair : List Str := ["rule", "pair"]
theorem sc_is_pair : FnScope n_is_pair ["rule", "pair"] (defScope s_is_pair) := ⟨rfl, rfl, rfl, by decide +kernel, rfl, by decide +kernel, by decide +kernel⟩
def sp_prog_is_pair : Sp := fun vs H Q _ => ∃ (p : Addr) (v : V) (rs : List V) (rule : List (List Int)) (pc : List Int × List Int), vs = [.ref p, v] /\ H p = some (.tup rs) /\ All2 Tup1 H rule rs /\ Pair1 pc v H /\ pc.2.length <= 100 /\ ∀ H', Same H H' -> Q (.bl (isPairG rule pc)) H'
theorem ok_is_pair (T : Txt K mg A) : FnOk P w K mg base CX0 3 A.a_is_pair A.fd_is_pair ["rule", "pair"] sp_prog_is_pair := by
 refine T.F_is_pair.ok sc_is_pair (fun vs H Q E h => ?_) (fun cdv Ar outer s H vs Q E hr h => ?_)
 ·obtain ⟨p, v, rs, rule, pc, rfl, hp, h2, hv, hln, k⟩ := h
  rfl
 ·obtain ⟨p, v, rs, rule, pc, rfl, hp, h2, hv, hln, k⟩ := h
  refine ⟨_, (pss_cons (ps_if (pt_not (pt_truth (pe_call (ok_is_choice T) (hr.mono (by decide)) rfl T.g_is_choice T.F_is_choice.kp T.b_is_choice .nil pass0 (pa_cons (pv 0 (hv := Or.inr (Or.inl rfl))) (pa_cons (pe_ix ix_tup (pv 1 (hv := Or.inr (Or.inl rfl))) pe_int (fun _ _ => rfl)) pa_nil))) (fun _ => rfl)))
     (pss_one (ps_ret pe_bl)) pss_nil)
    (pss_one (ps_ret (pe_callB (call_all_bools rfl) rfl T.b_all boot_all (pa_cons (pe_comp (ls := ["number"]) (fr := [("rule", 0), ("pair", 1)]) (cs_of (defScope s_is_pair) n_is_pair rfl rfl (by decide +kernel)) rfl (pi_tup (pe_ix ix_tup (pv 1 (hv := Or.inr (Or.inl rfl))) pe_int (fun _ _ => rfl))) (fun _ _ _ _ => pgc 0 (by decide +kernel) rfl rfl) (fun _ _ _ _ => pf_nil) (fun _ _ _ _ => (pe_call (ok_lies_in T) (hr.mono (by decide)) (glc (defScope s_is_pair)) T.g_lies_in T.F_lies_in.kp T.b_lies_in .nil pass0 (pa_cons (pe_ix (ix_tupK K rfl) (pvc (defScope s_is_pair) 1) (pvc (defScope s_is_pair) 0) (fun _ _ => rfl)) (pa_cons (pe_ix (ix_tupK K rfl) (pvc (defScope s_is_pair) 2) pe_int (fun _ _ => rfl)) pa_nil))))) pa_nil))))), ?_⟩
  obtain ⟨q, a, b, rfl, g1, g2, g3⟩ := hv
  have hrl := h2.length
  refine ⟨_, rfl, _, rfl, q, _, _, _, rfl, rfl, SqT.of g1, atI_nat (j := 1) rfl, p, b, rs, pc.2, rfl, hp, g3, _, rfl, ?_⟩
  rw [<- hrl]
  cases hc : isCh rule.length 0 pc.2 with
  | false =>
   refine iteT ?_
   have := k H fun _ _ z => z
   unfold isPairG at this
   rw [hc, Bool.false_and] at this
   exact this
  | true =>
   refine iteF ?_
   refine ⟨_, rfl, q, _, _, _, rfl, rfl, SqT.of g1, atI_nat (j := 1) rfl, b, rfl, ⟨_, SqT.of g3⟩, comp_tup (xs := pc.2.map V.int) (fun i ys σ' H' => Same H H' /\ (∃ v, σ' = [v, some (.ref p), some (.ref q)]) /\ ys = ((pc.2.take i).map fun j => lies (rule.getD j.toNat []) pc.1).map V.bl) ⟨fun _ _ z => z, ⟨_, rfl⟩, rfl⟩ ?_ ?_ ?_⟩
   ·rintro i ys σ' H' hi ⟨s, _, rfl⟩
    refine ⟨SqT.of (s _ _ g3), ?_⟩
    rw [List.length_map, List.length_map, List.length_take]
    exact Nat.le_trans (m := 100) (by omega) (by decide)
   ·rintro i x ys σ' H' hx ⟨s, ⟨v, rfl⟩, rfl⟩
    obtain ⟨z, hz, rfl⟩ := map_at hx
    obtain ⟨hi, ez⟩ := List.getElem?_eq_some_iff.mp hz
    have hb := isCh_mem hc z (List.mem_of_getElem? hz)
    obtain ⟨x, hx, c, rfl, gc⟩ := pick_at (h2.mv s.tups) hb.1 hb.2
    refine ⟨_, rfl, _, rfl, p, _, _, _, rfl, rfl, SqT.of (s _ _ hp), hx, ?_⟩
    refine ⟨_, rfl, q, _, _, _, rfl, rfl, SqT.of (s _ _ g1), atI_nat (j := 0) rfl, c, a, _, pc.1, rfl, gc, s _ _ g2, s, ⟨_, rfl⟩, ?_⟩
    rw [List.take_succ_eq_append_getElem hi, List.map_append, List.map_append, ez]
    rfl
   ·rintro ys σ' H' ⟨s, _, rfl⟩ l hl
    rw [List.length_map, List.take_length]
    refine ⟨l, _, rfl, SqL.of upd_same, ?_⟩
    have := k _ (s.trans (Same.new (o := .lst ((pc.2.map fun j => lies (rule.getD j.toNat []) pc.1).map V.bl)) hl))
    unfold isPairG at this
    rw [hc, Bool.true_and] at this
    rw [List.all_map]
    exact this
def n_rule_on : List Str := ["sided", "side"]
theorem sc_rule_on : FnScope n_rule_on ["sided", "side"] (defScope s_rule_on) := ⟨rfl, rfl, rfl, by decide +kernel, rfl, by decide +kernel, by decide +kernel⟩
def sp_rule_on (A : Adr) : Sp := fun vs H Q _ => ∃ (x p q : Addr) (rs qs : List V) (one other : List (List Int)) (s : Int), vs = [.ref x, .int s] /\ Sided A.c_Beside H x p q rs qs one other /\ (s = 1 \/ s = 2) /\ (∀ H', Same H H' -> Q (.ref (if s = 1 then p else q)) H')
theorem ok_rule_on (T : Txt K mg A) : FnOk P w K mg base CX0 2 A.a_rule_on A.fd_rule_on ["sided", "side"] (sp_rule_on A) := by
 refine T.F_rule_on.ok sc_rule_on (fun vs H Q E h => ?_) (fun cdv Ar outer s H vs Q E hr h => ?_)
 ·obtain ⟨x, p, q, rs, qs, one, other, s, rfl, S, hs, k⟩ := h
  rfl
 ·obtain ⟨x, p, q, rs, qs, one, other, s, rfl, S, hs, k⟩ := h
  refine ⟨_, (pss_cons (ps_if (pt_cmpR op_notIn_seq (pv 1) (pe_tup (pa_cons pe_int (pa_cons pe_int pa_nil))) rfl)
     (pss_one ps_never) pss_nil)
    (pss_one (ps_ret (pe_ix ix_tup (pe_meth0 (pv 0) T.cl_Beside T.mt_Beside_rules (ok_Beside_rules T) (hr.mono (by decide)) T.b_Beside_rules .nil pass0) (pe_op op_sub (pv 1) pe_int) (fun _ _ => rfl))))), ?_⟩
  refine ⟨_, rfl, by show 2 <= sizeLine; decide, fun t ht => ⟨t, _, rfl, .inr (SqT.of upd_same), rfl, rfl, _, rfl, ?_⟩⟩
  have s1 := Same.new (o := .tup [V.int 1, V.int 2]) ht
  rw [if_pos rfl, inV2]
  generalize upd H t (.tup [V.int 1, V.int 2]) = H1 at s1
  ·have e : (decide (s = 1) || decide (s = 2)) = true := by rcases hs with h | h <;> rw [h] <;> rfl
   rw [e]
   obtain ⟨dx, hx⟩ := S.ob
   refine iteF ⟨_, rfl, x, dx, _, rfl, s1 _ _ hx, fl2_no _ _ (by decide +kernel) (by decide +kernel), x, dx, p, q, rfl, s1 _ _ hx, fun t2 H2 ht2 s2 => ?_⟩
   refine ⟨_, rfl, _, _, rfl, rfl, t2, _, s - 1, _, rfl, rfl, SqT.of ht2, ?_, k H2 (s1.trans s2)⟩
   rcases hs with h | h <;> rw [h]
   ·rw [if_pos rfl]; exact atI_nat (j := 0) rfl
   ·rw [if_neg (by decide)]; exact atI_nat (j := 1) rfl
def n_crossed : List Str := ["sided", "place", "side", "heap", "choice", "here", "beyond", "rest"]
theorem sc_crossed : FnScope n_crossed ["sided", "place"] (defScope s_crossed) := ⟨rfl, rfl, rfl, by decide +kernel, rfl, by decide +kernel, by decide +kernel⟩
def sp_crossed (A : Adr) : Sp := fun vs H Q _ => ∃ (x p q : Addr) (rs qs : List V) (one other : List (List Int)) (pl : Plc) (v : V) (n : Int) (i : Nat), vs = [.ref x, v] /\ Sided A.c_Beside H x p q rs qs one other /\ Rul one other /\ PlaceV pl v H /\ WP one other n i pl /\ n <= 60 /\
 ∀ v' H', PlaceV (crossG one other pl) v' H' -> Same H H' -> Q v' H'
theorem ok_crossed (T : Txt K mg A) : FnOk P w K mg base CX0 4 A.a_crossed A.fd_crossed ["sided", "place"] (sp_crossed A) := by
 refine T.F_crossed.ok sc_crossed (fun vs H Q E h => ?_) (fun cdv Ar outer s H vs Q E hr h => ?_)
 ·obtain ⟨x, p, q, rs, qs, one, other, pl, v, n, i, rfl, S, R, hv, w, hn, k⟩ := h
  rfl
 ·obtain ⟨x, p, q, rs, qs, one, other, pl, v, n, i, rfl, S, R, hv, w, hn, k⟩ := h
  refine ⟨_, (pss_cons (ps_set (i := 2) sc_crossed.nd rfl (by first | exact Or.inl rfl | exact Or.inr rfl) (pe_ix ix_tup (pv 1) pe_int (fun _ _ => rfl)))
    (pss_cons (ps_set (i := 3) sc_crossed.nd rfl (by first | exact Or.inl rfl | exact Or.inr rfl) (pe_ix ix_tup (pv 1) pe_int (fun _ _ => rfl)))
    (pss_cons (ps_set (i := 4) sc_crossed.nd rfl (by first | exact Or.inl rfl | exact Or.inr rfl) (pe_ix ix_tup (pv 1) pe_int (fun _ _ => rfl)))
    (pss_cons (ps_set (i := 5) sc_crossed.nd rfl (by first | exact Or.inl rfl | exact Or.inr rfl) (pe_call (ok_rule_on T) (hr.mono (by decide)) rfl T.g_rule_on T.F_rule_on.kp T.b_rule_on .nil pass0 (pa_cons (pv 0) (pa_cons (pv 2) pa_nil))))
    (pss_cons (ps_if (pt_not (pt_truth (pe_call (ok_is_pair T) (hr.mono (by decide)) rfl T.g_is_pair T.F_is_pair.kp T.b_is_pair .nil pass0 (pa_cons (pv 5) (pa_cons (pe_tup (pa_cons (pv 3) (pa_cons (pv 4) pa_nil))) pa_nil))) (fun _ => rfl)))
     (pss_one ps_never) pss_nil)
    (pss_cons (ps_set (i := 6) sc_crossed.nd rfl (by first | exact Or.inl rfl | exact Or.inr rfl) (pe_call (ok_rule_on T) (hr.mono (by decide)) rfl T.g_rule_on T.F_rule_on.kp T.b_rule_on .nil pass0 (pa_cons (pv 0) (pa_cons (pe_op op_sub pe_int (pv 2)) pa_nil))))
    (pss_cons (ps_set (i := 7) sc_crossed.nd rfl (by first | exact Or.inl rfl | exact Or.inr rfl) (pe_call (ok_taken T) (hr.mono (by decide)) rfl T.g_taken T.F_taken.kp T.b_taken .nil pass0 (pa_cons (pe_call (ok_joined_of T) (hr.mono (by decide)) rfl T.g_joined_of T.F_joined_of.kp T.b_joined_of .nil pass0 (pa_cons (pv 5) (pa_cons (pv 4) pa_nil))) (pa_cons (pv 3) pa_nil))))
    (pss_one (ps_ret (pe_tup (pa_cons (pe_op op_sub pe_int (pv 2)) (pa_cons (pe_call (ok_put T) (hr.mono (by decide)) rfl T.g_put T.F_put.kp T.b_put .nil pass0 (pa_cons (pv 7) (pa_cons (pe_call (ok_joined_of T) (hr.mono (by decide)) rfl T.g_joined_of T.F_joined_of.kp T.b_joined_of .nil pass0 (pa_cons (pv 6) (pa_cons (pv 4) pa_nil))) pa_nil))) (pa_cons (pv 4) pa_nil))))))))))))), ?_⟩
  obtain ⟨t, hh, hc, rfl, g1, g2, g3⟩ := hv
  have hcl := w.chl R
  have hln := w.hep.len
  have hcr := w.clen R
  have hpos := w.pos
  obtain ⟨hs, hpr⟩ := isPl_side w.ip
  obtain ⟨sd, heap, ch⟩ := pl
  dsimp only at g1 g2 g3 hcl hln hcr hs hpr hpos
  refine ⟨_, rfl, t, _, _, _, rfl, rfl, SqT.of g1, atI_nat (j := 0) rfl, ?_⟩
  refine ⟨_, rfl, t, _, _, _, rfl, rfl, SqT.of g1, atI_nat (j := 1) rfl, ?_⟩
  refine ⟨_, rfl, t, _, _, _, rfl, rfl, SqT.of g1, atI_nat (j := 2) rfl, ?_⟩
  have hR : ∀ s : Int, (s = 1 \/ s = 2) -> ∀ H', Same H H' -> ∃ rv : List V, H' (if s = 1 then p else q) = some (.tup rv) /\ All2 Tup1 H' (onR one other s) rv := fun s hs H' s' => by
   rcases hs with h | h <;> subst h
   ·exact ⟨rs, s' _ _ S.hp, S.h2.mv s'.tups⟩
   ·exact ⟨qs, s' _ _ S.hq, S.g2.mv s'.tups⟩
  refine ⟨_, rfl, _, rfl, x, p, q, rs, qs, one, other, sd, rfl, S, hs, fun H1 s1 => ?_⟩
  obtain ⟨rv, hrv, arv⟩ := hR sd hs H1 s1
  refine ⟨_, rfl, _, rfl, _, rfl, by show 2 <= sizeLine; decide, fun t2 ht2 => ?_⟩
  have s2 := Same.new (o := .tup [V.ref hh, V.ref hc]) ht2
  have s12 := s1.trans s2
  refine ⟨_, _, rv, onR one other sd, (heap, ch), rfl, s2 _ _ hrv, arv.mv s2.tups, ⟨t2, hh, hc, rfl, upd_same, s12 _ _ g2, s12 _ _ g3⟩, Nat.le_trans hcl (by decide), fun H3 s3 => ⟨_, rfl, ?_⟩⟩
  have s03 := s12.trans s3
  rw [hpr]
  have S3 := S.mv s03
  have hs' : 3 - sd = 1 \/ 3 - sd = 2 := by omega
  have chb : ∀ s : Int, ∀ j ∈ ch, 0 <= j /\ j < (onR one other s).length := fun s j hj => by
   have h1 := isCh_mem (pair_all hpr).1 j hj
   rw [onR_len S.ln] at h1 ⊢
   exact h1
  refine iteF ⟨_, rfl, _, rfl, _, _, rfl, rfl, x, p, q, rs, qs, one, other, 3 - sd, rfl, S3, hs', fun H4 s4 => ?_⟩
  have s04 := s03.trans s4
  obtain ⟨rv4, hrv4, arv4⟩ := hR sd hs H4 s04
  obtain ⟨rb4, hrb4, arb4⟩ := hR (3 - sd) hs' H4 s04
  refine ⟨_, rfl, _, rfl, _, hc, rv4, onR one other sd, ch, rfl, hrv4, arv4, s04 _ _ g3, ⟨(R.jR sd).pick hcl, Nat.le_trans hcl (by decide)⟩, chb sd, fun j1 ms H5 hj1 hjn hlm s5 _ => ?_⟩
  have e1 := joinX_eq hjn
  have s05 := s04.trans s5
  have hlj : lies ms heap = true := by rw [<- e1]; exact pair_join hpr
  refine ⟨_, rfl, j1, hh, ms, heap, rfl, hj1, s05 _ _ g2, Nat.le_trans (show heap.length <= 60 by omega) (by decide), hlj, fun t6 H6 ht6 s6 => ?_⟩
  have s06 := s05.trans s6
  refine ⟨_, rfl, _, _, rfl, rfl, _, rfl, _, rfl, _, rfl, _, hc, rb4, onR one other (3 - sd), ch, rfl, (s5.trans s6) _ _ hrb4, arb4.mv (s5.trans s6).tups, s06 _ _ g3, ⟨(R.jR (3 - sd)).pick hcl, Nat.le_trans hcl (by decide)⟩, chb (3 - sd), fun j2 ms2 H7 hj2 hjn2 hlm2 s7 _ => ?_⟩
  have e2 := joinX_eq hjn2
  rw [e1, e2] at hcr
  refine ⟨t6, j2, takeOut ms heap, ms2, rfl, s7 _ _ ht6, hj2, by omega, fun y hy => ?_, fun p8 H8 hp8 s8 => ?_⟩
  ·rcases List.mem_append.mp hy with hy | hy
   ·exact hpos y (takeOut_mem hy)
   ·rw [<- e2] at hy
    exact join_pos (R.bR (3 - sd)) y hy
  refine ⟨_, rfl, by show 3 <= sizeLine; decide, fun t9 ht9 => ?_⟩
  have s9 := Same.new (o := .tup [V.int (3 - sd), V.ref p8, V.ref hc]) ht9
  have s09 := s06.trans (s7.trans (s8.trans s9))
  refine k _ _ ⟨t9, p8, hc, rfl, upd_same, ?_, s09 _ _ g3⟩ s09
  show _ = some (HO.tup ((sortD (takeOut (joinX (pickG (onR one other sd) ch)) heap ++ joinX (pickG (onR one other (3 - sd)) ch))).map V.int))
  rw [e1, e2]
  exact s9 _ _ hp8
def n_partner_of : List Str := ["rule", "pair", "heap", "choice", "number"]
theorem sc_partner_of : FnScope n_partner_of ["rule", "pair"] (defScope s_partner_of) := ⟨rfl, rfl, rfl, by decide +kernel, rfl, by decide +kernel, by decide +kernel⟩
def sp_partner_of (A : Adr) : Sp := fun vs H Q _ => ∃ (p : Addr) (v : V) (rs : List V) (rule : List (List Int)) (pc : List Int × List Int), vs = [.ref p, v] /\ H p = some (.tup rs) /\ All2 Tup1 H rule rs /\ Pair1 pc v H /\ pc.2.length <= 100 /\ rule.length <= 60 /\
 (isPairG rule pc = true /\ (partnerG rule pc = none -> ∀ H', Same H H' -> Q .non H') /\ ∀ pc', partnerG rule pc = some pc' -> ∀ v' H', Pair1 pc' v' H' -> Same H H' -> Q v' H')
theorem ok_partner_of (T : Txt K mg A) : FnOk P w K mg base CX0 5 A.a_partner_of A.fd_partner_of ["rule", "pair"] (sp_partner_of A) := by
 refine T.F_partner_of.ok sc_partner_of (fun vs H Q E h => ?_) (fun cdv Ar outer s H vs Q E hr h => ?_)
 ·obtain ⟨p, v, rs, rule, pc, rfl, hp, h2, hv, hln, hlr, h⟩ := h
  rfl
 ·obtain ⟨p, v, rs, rule, pc, rfl, hp, h2, hv, hln, hlr, h⟩ := h
  refine ⟨_, (pss_cons (ps_if (pt_not (pt_truth (pe_call (ok_is_pair T) (hr.mono (by decide)) rfl T.g_is_pair T.F_is_pair.kp T.b_is_pair .nil pass0 (pa_cons (pv 0) (pa_cons (pv 1) pa_nil))) (fun _ => rfl)))
     (pss_one ps_never) pss_nil)
    (pss_cons (ps_set (i := 2) sc_partner_of.nd rfl (by first | exact Or.inl rfl | exact Or.inr rfl) (pe_ix ix_tup (pv 1) pe_int (fun _ _ => rfl)))
    (pss_cons (ps_set (i := 3) sc_partner_of.nd rfl (by first | exact Or.inl rfl | exact Or.inr rfl) (pe_ix ix_tup (pv 1) pe_int (fun _ _ => rfl)))
    (pss_cons (ps_set (i := 4) sc_partner_of.nd rfl (by first | exact Or.inl rfl | exact Or.inr rfl) (pe_call (ok_first_in T) (hr.mono (by decide)) rfl T.g_first_in T.F_first_in.kp T.b_first_in .nil pass0 (pa_cons (pv 0) (pa_cons (pv 2) pa_nil))))
    (pss_cons (ps_if (pt_cmpR op_isN (pv 4) pe_non (nomark _))
     (pss_one (ps_ret pe_non)) pss_nil)
    (pss_cons (ps_if (pt_cmpR op_in_seq (pv 4) (pv 3) rfl)
     (pss_one (ps_ret (pe_tup (pa_cons (pv 2) (pa_cons (pe_slice sl_tupA (pv 3) (po_some pe_int) po_none) pa_nil))))) pss_nil)
    (pss_one (ps_ret (pe_tup (pa_cons (pv 2) (pa_cons (pe_op op_catA (pe_tup (pa_cons (pv 4) pa_nil)) (pv 3)) pa_nil))))))))))), ?_⟩
  obtain ⟨q, a, b, rfl, g1, g2, g3⟩ := hv
  refine ⟨_, rfl, _, rfl, p, _, rs, rule, pc, rfl, hp, h2, ⟨q, a, b, rfl, g1, g2, g3⟩, hln, fun H1 s1 => ⟨_, rfl, ?_⟩⟩
  obtain ⟨hc, kN, kS⟩ := h
  ·rw [hc]
   refine iteF ?_
   refine ⟨_, rfl, q, _, _, _, rfl, rfl, SqT.of (s1 _ _ g1), atI_nat (j := 0) rfl, ?_⟩
   refine ⟨_, rfl, q, _, _, _, rfl, rfl, SqT.of (s1 _ _ g1), atI_nat (j := 1) rfl, ?_⟩
   refine ⟨_, rfl, _, rfl, p, a, rs, rule, pc.1, rfl, s1 _ _ hp, h2.mv s1.tups, s1 _ _ g2, hlr, fun H2 s2 => ?_⟩
   have sn := s1.trans s2
   unfold partnerG at kN kS
   cases hf : firstG rule pc.1 with
   | none =>
    rw [hf] at kN
    refine ⟨_, rfl, rfl, _, rfl, ite2 (fun _ => ?_) (fun z => absurd (decide_eq_true rfl) z)⟩
    exact kN rfl H2 sn
   | some m =>
    rw [hf] at kS
    refine ⟨_, rfl, rfl, _, rfl, ite2 (fun z => ?_) (fun _ => ?_)⟩
    ·have := of_decide_eq_true z
     cases this
    refine ⟨_, rfl, _, rfl, b, _, rfl, .inr (SqT.of (sn _ _ g3)), rfl, flat_ints _, _, rfl, ?_⟩
    have ei : inV (optV (some m)) (pc.2.map V.int) = decide (m ∈ pc.2) := inV_ints m _
    rw [if_neg Bool.false_ne_true, ei]
    refine ite2 (fun z => ?_) (fun z => ?_)
    ·have hm : m ∈ pc.2 := of_decide_eq_true z
     refine ⟨_, rfl, _, rfl, _, rfl, ?_⟩
     dsimp only [tNoPart, tNil]
     refine slice_tail (sn _ _ g3) fun t H3 ht s3 => ?_
     refine ⟨by show 2 <= sizeLine; decide, fun r hr => ?_⟩
     have s4 := Same.new (o := .tup [.ref a, .ref t]) hr
     exact kS _ (if_pos hm) _ _ ⟨r, a, t, rfl, upd_same, s4 _ _ (s3 _ _ (sn _ _ g2)), s4 _ _ ht⟩ (sn.trans (s3.trans s4))
    ·have hm : ¬ m ∈ pc.2 := fun e => z (decide_eq_true e)
     refine ⟨_, rfl, _, rfl, by show 1 <= sizeLine; decide, fun t ht => ⟨_, rfl, ?_⟩⟩
     have s3 := Same.new (o := .tup [V.int m]) ht
     refine cat_front (z := m) (s3 _ _ (sn _ _ g3)) upd_same hln fun v H4 hv s4 => ?_
     obtain ⟨c, rfl, gc⟩ := hv
     refine ⟨by show 2 <= sizeLine; decide, fun r hr => ?_⟩
     have s5 := Same.new (o := .tup [.ref a, .ref c]) hr
     exact kS _ (if_neg hm) _ _ ⟨r, a, c, rfl, upd_same, s5 _ _ (s4 _ _ (s3 _ _ (sn _ _ g2))), s5 _ _ gc⟩ (sn.trans (s3.trans (s4.trans s5)))
def n_toggled : List Str := ["sided", "place", "side", "partner"]
theorem sc_toggled : FnScope n_toggled ["sided", "place"] (defScope s_toggled) := ⟨rfl, rfl, rfl, by decide +kernel, rfl, by decide +kernel, by decide +kernel⟩
def sp_tog (A : Adr) : Sp := fun vs H Q _ => ∃ (x p q : Addr) (rs qs : List V) (one other : List (List Int)) (pl : Plc) (v : V), vs = [.ref x, v] /\ Sided A.c_Beside H x p q rs qs one other /\ PlaceV pl v H /\ pl.2.2.length <= 100 /\ isPl one other pl = true /\ fstP one other pl ≠ none /\
 ∀ v' H', PlaceV (togG one other pl) v' H' -> Same H H' -> Q v' H'
theorem ok_toggled (T : Txt K mg A) : FnOk P w K mg base CX0 6 A.a_toggled A.fd_toggled ["sided", "place"] (sp_tog A) := by
 refine T.F_toggled.ok sc_toggled (fun vs H Q E h => ?_) (fun cdv Ar outer s H vs Q E hr h => ?_)
 ·obtain ⟨x, p, q, rs, qs, one, other, pl, v, rfl, S, hv, hl2, hip, hf, k⟩ := h
  rfl
 ·obtain ⟨x, p, q, rs, qs, one, other, pl, v, rfl, S, hv, hl2, hip, hf, k⟩ := h
  refine ⟨_, (pss_cons (ps_set (i := 2) sc_toggled.nd rfl (by first | exact Or.inl rfl | exact Or.inr rfl) (pe_ix ix_tup (pv 1) pe_int (fun _ _ => rfl)))
    (pss_cons (ps_set (i := 3) sc_toggled.nd rfl (by first | exact Or.inl rfl | exact Or.inr rfl) (pe_call (ok_partner_of T) (hr.mono (by decide)) rfl T.g_partner_of T.F_partner_of.kp T.b_partner_of .nil pass0 (pa_cons (pe_call (ok_rule_on T) (hr.mono (by decide)) rfl T.g_rule_on T.F_rule_on.kp T.b_rule_on .nil pass0 (pa_cons (pv 0) (pa_cons (pv 2) pa_nil))) (pa_cons (pe_tup (pa_cons (pe_ix ix_tup (pv 1) pe_int (fun _ _ => rfl)) (pa_cons (pe_ix ix_tup (pv 1) pe_int (fun _ _ => rfl)) pa_nil))) pa_nil))))
    (pss_cons (ps_if (pt_cmpR op_isN (pv 3) pe_non (nomark _))
     (pss_one ps_never) pss_nil)
    (pss_one (ps_ret (pe_tup (pa_cons (pv 2) (pa_cons (pe_ix ix_tup (pv 3) pe_int (fun _ _ => rfl)) (pa_cons (pe_ix ix_tup (pv 3) pe_int (fun _ _ => rfl)) pa_nil))))))))), ?_⟩
  obtain ⟨t, hh, hc, rfl, g1, g2, g3⟩ := hv
  obtain ⟨pc, hpc⟩ := partner_of_fst hf
  rw [tog_of hpc] at k
  obtain ⟨hs, hpr⟩ := isPl_side hip
  obtain ⟨sd, heap, ch⟩ := pl
  dsimp only at g1 g2 g3 hl2 k hs hpr hpc
  refine ⟨_, rfl, t, _, _, _, rfl, rfl, SqT.of g1, atI_nat (j := 0) rfl, ?_⟩
  refine ⟨_, rfl, _, rfl, x, p, q, rs, qs, one, other, sd, rfl, S, hs, fun H1 s1 => ?_⟩
  obtain ⟨rv, hrv, arv⟩ : ∃ rv : List V, H1 (if sd = 1 then p else q) = some (.tup rv) /\ All2 Tup1 H1 (onR one other sd) rv := by
   rcases hs with h | h <;> subst h
   ·exact ⟨rs, s1 _ _ S.hp, S.h2.mv s1.tups⟩
   ·exact ⟨qs, s1 _ _ S.hq, S.g2.mv s1.tups⟩
  refine ⟨_, rfl, t, _, _, _, rfl, rfl, SqT.of (s1 _ _ g1), atI_nat (j := 1) rfl, _, rfl, t, _, _, _, rfl, rfl, SqT.of (s1 _ _ g1), atI_nat (j := 2) rfl, by show 2 <= sizeLine; decide, fun t2 ht2 => ?_⟩
  have s2 := Same.new (o := .tup [V.ref hh, V.ref hc]) ht2
  have s12 := s1.trans s2
  refine ⟨_, _, rv, onR one other sd, (heap, ch), rfl, s2 _ _ hrv, arv.mv s2.tups, ⟨t2, hh, hc, rfl, upd_same, s12 _ _ g2, s12 _ _ g3⟩, hl2, by rw [onR_len S.ln]; have := S.l6; omega, hpr, (fun z => by rw [hpc] at z; cases z), fun pc' hpc' v' H3 hv' s3 => ?_⟩
  rw [hpc] at hpc'
  cases hpc'
  obtain ⟨q', a', b', rfl, h1, h2, h3⟩ := hv'
  refine ⟨_, rfl, rfl, _, rfl, ite2 (fun z => ?_) (fun _ => ?_)⟩
  ·have := of_decide_eq_true z
   cases this
  refine ⟨_, rfl, _, rfl, q', _, _, _, rfl, rfl, SqT.of h1, atI_nat (j := 0) rfl, _, rfl, q', _, _, _, rfl, rfl, SqT.of h1, atI_nat (j := 1) rfl, by show 3 <= sizeLine; decide, fun t9 ht9 => ?_⟩
  have s9 := Same.new (o := .tup [V.int sd, V.ref a', V.ref b']) ht9
  exact k _ _ ⟨t9, a', b', rfl, upd_same, s9 _ _ h2, s9 _ _ h3⟩ (s12.trans (s3.trans s9))
def n_next_place : List Str := ["sided", "walk"]
theorem sc_next_place : FnScope n_next_place ["sided", "walk"] (defScope s_next_place) := ⟨rfl, rfl, rfl, by decide +kernel, rfl, by decide +kernel, by decide +kernel⟩
noncomputable def stepG (one other : List (List Int)) (i : Nat) (pl : Plc) : Plc := if i % 2 = 0 then crossG one other pl else togG one other pl
def sp_next (A : Adr) : Sp := fun vs H Q _ => ∃ (x l p q : Addr) (rs qs : List V) (one other : List (List Int)) (pl : Plc) (v : V) (ys : List V) (n : Int), vs = [.ref x, .ref l] /\ Sided A.c_Beside H x p q rs qs one other /\ Rul one other /\ H l = some (.lst (ys ++ [v])) /\ PlaceV pl v H /\ WP one other n ys.length pl /\ n <= 60 /\ (ys.length % 2 = 1 -> fstP one other pl ≠ none) /\
 ∀ v' H', PlaceV (stepG one other ys.length pl) v' H' -> Same H H' -> Q v' H'
theorem ok_next_place (T : Txt K mg A) : FnOk P w K mg base CX0 7 A.a_next_place A.fd_next_place ["sided", "walk"] (sp_next A) := by
 refine T.F_next_place.ok sc_next_place (fun vs H Q E h => ?_) (fun cdv Ar outer s H vs Q E hr h => ?_)
 ·obtain ⟨x, l, p, q, rs, qs, one, other, pl, v, ys, n, rfl, S, R, hl, hv, w, hn, hf, k⟩ := h
  rfl
 ·obtain ⟨x, l, p, q, rs, qs, one, other, pl, v, ys, n, rfl, S, R, hl, hv, w, hn, hf, k⟩ := h
  refine ⟨_, (pss_cons (ps_if (pt_cmpR op_eq (pe_op op_mod (pe_callB call_len_seq rfl T.b_len PySem.boot_len (pa_cons (pv 1) pa_nil)) pe_int) pe_int (nomark _))
     (pss_one (ps_ret (pe_call (ok_crossed T) (hr.mono (by decide)) rfl T.g_crossed T.F_crossed.kp T.b_crossed .nil pass0 (pa_cons (pv 0) (pa_cons (pe_ix ix_list (pv 1) (pe_un un_neg pe_int) (fun _ _ => rfl)) pa_nil))))) pss_nil)
    (pss_one (ps_ret (pe_call (ok_toggled T) (hr.mono (by decide)) rfl T.g_toggled T.F_toggled.kp T.b_toggled .nil pass0 (pa_cons (pv 0) (pa_cons (pe_ix ix_list (pv 1) (pe_un un_neg pe_int) (fun _ _ => rfl)) pa_nil)))))), ?_⟩
  have hlen : ((ys ++ [v]).length : Int) % 2 = 1 ↔ ys.length % 2 = 0 := by
   rw [List.length_append]
   show ((ys.length + 1 : Nat) : Int) % 2 = 1 ↔ _
   omega
  refine ⟨_, rfl, l, _, rfl, .inl (SqL.of hl), _, _, rfl, rfl, by omega, rfl, _, rfl, ?_⟩
  refine ite2 (fun h1 => ?_) (fun h1 => ?_)
  ·have e0 : ys.length % 2 = 0 := hlen.mp (V.int.inj (of_decide_eq_true h1))
   refine ⟨_, rfl, _, rfl, _, rfl, l, _, _, _, rfl, rfl, SqL.of hl, atI_last _ _, x, p, q, rs, qs, one, other, pl, v, n, _, rfl, S, R, hv, w, hn, fun v' H' hv' s' => k v' H' ?_ s'⟩
   unfold stepG
   rw [if_pos e0]
   exact hv'
  ·have e0 : ¬ ys.length % 2 = 0 := fun z => h1 (decide_eq_true (congrArg V.int (hlen.mpr z)))
   refine ⟨_, rfl, _, rfl, _, rfl, l, _, _, _, rfl, rfl, SqL.of hl, atI_last _ _, x, p, q, rs, qs, one, other, pl, v, rfl, S, hv, Nat.le_trans (w.chl R) (by decide), w.ip, hf (by omega), fun v' H' hv' s' => k v' H' ?_ s'⟩
   unfold stepG
   rw [if_neg e0]
   exact hv'
def n_first_places : List Str := ["sided", "heap", "most", "walk"]
theorem sc_first_places : FnScope n_first_places ["sided", "heap", "most"] (defScope s_first_places) := ⟨rfl, rfl, rfl, by decide +kernel, rfl, by decide +kernel, by decide +kernel⟩
def sp_places (A : Adr) : Sp := fun vs H Q _ => ∃ (x h p q : Addr) (rs qs : List V) (one other : List (List Int)) (hs : List Int) (n : Int) (mo : V) (B : Nat), vs = [.ref x, .ref h, mo] /\ Sided A.c_Beside H x p q rs qs one other /\ Rul one other /\ H h = some (.tup (hs.map V.int)) /\ Hep n hs /\ n <= 60 /\ (mo = .non \/ mo = .int (B : Int)) /\ B <= 1000000 /\ (mo = .non -> ∀ k, Live one other hs k -> k < B) /\
 ∀ (l : Addr) (k : Nat) (xs : List V) (H' : Hp), H' l = some (.lst xs) -> All2 PlaceV H' (walkL one other hs k) xs -> Live one other hs k -> (EndAt one other hs k \/ (mo = .int (B : Int) /\ ¬ EndAt one other hs k /\ B <= k + 1 /\ (k = 0 \/ k + 1 <= B))) -> Same H H' -> H l = none -> Q (.ref l) H'
theorem ok_first_places (T : Txt K mg A) : FnOk P w K mg base CX0 8 A.a_first_places A.fd_first_places ["sided", "heap", "most"] (sp_places A) := by
 refine T.F_first_places.ok sc_first_places (fun vs H Q E h => ?_) (fun cdv Ar outer s H vs Q E hr h => ?_)
 ·obtain ⟨x, h, p, q, rs, qs, one, other, hs, n, mo, B, rfl, S, R, gh, hh, hn, hm, hB, hBk, k⟩ := h
  rfl
 ·obtain ⟨x, h, p, q, rs, qs, one, other, hs, n, mo, B, rfl, S, R, gh, hh, hn, hm, hB, hBk, k⟩ := h
  refine ⟨_, (pss_cons (ps_set (i := 3) sc_first_places.nd rfl (by first | exact Or.inl rfl | exact Or.inr rfl) (pe_lst (pa_cons (pe_tup (pa_cons pe_int (pa_cons (pv 1) (pa_cons (pe_tup pa_nil) pa_nil)))) pa_nil)))
    (pss_cons (ps_while PassesOwn.never (PW.pt (pw_and (pt_not (pt_truth (pe_call (ok_is_end T) (hr.mono (by decide)) rfl T.g_is_end T.F_is_end.kp T.b_is_end .nil pass0 (pa_cons (pv 0) (pa_cons (pe_ix ix_list (pv 3) (pe_un un_neg pe_int) (fun _ _ => rfl)) pa_nil))) (fun _ => rfl))) (pw_and1 (PW.pt (pw_or (pt_cmpR op_isN (pv 2) pe_non (nomark _)) (pw_or1 (pt_cmpR op_lt (pe_callB call_len_seq rfl T.b_len PySem.boot_len (pa_cons (pv 3) pa_nil)) (pv 2) (nomark _))))))))
     (pss_one (ps_expr (pe_bm PySem.F.plainAttrs_list PySem.F.slot_list_append PySem.F.type_list_append mt_append (pv 3) (pa_cons (pe_call (ok_next_place T) (hr.mono (by decide)) rfl T.g_next_place T.F_next_place.kp T.b_next_place .nil pass0 (pa_cons (pv 0) (pa_cons (pv 3) pa_nil))) pa_nil)))))
    (pss_one (ps_ret (pv 3))))), ?_⟩
  refine ⟨_, rfl, by show 0 <= sizeLine; decide, fun c0 hc0 => ⟨by show 3 <= sizeLine; decide, fun t ht => ⟨by show 1 <= sizeLine; decide, fun l hl => ?_⟩⟩⟩
  have sT := (Same.new (o := .tup []) hc0).trans (Same.new (o := .tup [V.int 1, V.ref h, V.ref c0]) ht)
  have sL := sT.trans (Same.new (o := .lst [V.ref t]) hl)
  have nl : H l = none := sT.free hl
  have gt := Same.new (o := .lst [V.ref t]) hl _ _ (upd_same (H := upd H c0 (.tup [])) (a := t) (o := .tup [V.int 1, V.ref h, V.ref c0]))
  have gc := Same.new (o := .lst [V.ref t]) hl _ _ (Same.new (o := .tup [V.int 1, V.ref h, V.ref c0]) ht _ _ (upd_same (H := H) (a := c0) (o := .tup [])))
  refine ⟨fun m σ' H' => ∃ (k : Nat) (xs : List V), m = B + 1 - k /\ σ' = [some (.ref x), some (.ref h), some mo, some (.ref l)] /\ H' l = some (.lst xs) /\ All2 PlaceV H' (walkL one other hs k) xs /\ Live one other hs k /\ (k = 0 \/ mo = .non \/ k + 1 <= B) /\ Same H H', ⟨_, 0, [V.ref t], rfl, rfl, upd_same, .cons ⟨t, h, c0, rfl, gt, sL _ _ gh, gc⟩ .nil, fun i hi => absurd hi (Nat.not_lt_zero _), .inl rfl, sL⟩, ?_⟩
  clear gt gc sL sT hl ht hc0
  rintro m σ' H' ⟨k', xs, rfl, rfl, gl, a2, L, hk, s⟩
  obtain ⟨ys, v, rfl, hy, hv⟩ := walk_last a2
  have w := wk_ok R hh k' L
  have we := wk_end R hh L
  refine ⟨_, rfl, _, rfl, _, rfl, l, _, _, _, rfl, rfl, SqL.of gl, atI_last _ _, x, p, q, rs, qs, one, other, _, v, rfl, S.mv s, hv, fun H1 s1 => ⟨_, rfl, ?_⟩⟩
  have s01 := s.trans s1
  have hlt : (ys ++ [v]).length < sizeLine -> True := fun _ => trivial
  cases he : isEndB other (wk one other hs k') with
  | true =>
   obtain ⟨e1, e2⟩ := we.mp he
   exact iteF (iteF ⟨_, rfl, k l k' _ H1 (s1 _ _ gl) (a2.imp fun _ _ z => z.mv s1.tups) L (.inl ⟨L, e1, e2⟩) s01 nl⟩)
  | false =>
   have hne : ¬ EndAt one other hs k' := fun z => by rw [we.mpr ⟨z.od, z.no⟩] at he; cases he
   have hf : ys.length % 2 = 1 -> fstP one other (wk one other hs k') ≠ none := fun o z => hne ⟨L, by rw [<- hy]; exact o, z⟩
   have hk6 : k' <= 1000000 := by
    rcases hm with z | z
    ·have := hBk z k' L
     omega
    ·rcases hk with e | e | e
     ·omega
     ·rw [z] at e; cases e
     ·omega
   have hly : (ys ++ [v]).length < sizeLine := by
    rw [List.length_append, hy]
    exact Nat.lt_of_le_of_lt (show k' + 1 <= 1000001 by omega) (by decide)
   have wy : WP one other n ys.length (wk one other hs k') := by rw [hy]; exact w
   refine iteT ⟨_, rfl, rfl, _, rfl, ?_⟩
   have fin : ∀ (H2 : Hp) (v' : V), PlaceV (stepG one other ys.length (wk one other hs k')) v' H2 -> Same H' H2 -> (mo = .non \/ k' + 2 <= B) -> B + 1 - (k' + 1) < B + 1 - k' -> ∃ m', m' < B + 1 - k' /\ ∃ (k : Nat) (xs : List V), m' = B + 1 - k /\ [some (V.ref x), some (V.ref h), some mo, some (V.ref l)] = [some (.ref x), some (.ref h), some mo, some (.ref l)] /\ upd H2 l (.lst (ys ++ [v] ++ [v'])) l = some (.lst xs) /\ All2 PlaceV (upd H2 l (.lst (ys ++ [v] ++ [v']))) (walkL one other hs k) xs /\ Live one other hs k /\ (k = 0 \/ mo = .non \/ k + 1 <= B) /\ Same H (upd H2 l (.lst (ys ++ [v] ++ [v']))) := fun H2 v' hv' s2 hc hlt => by
    rw [hy] at hv'
    have tS : Tups H2 (upd H2 l (.lst (ys ++ [v] ++ [v']))) := Tups.set (s2 _ _ gl)
    refine ⟨_, hlt, k' + 1, _, rfl, rfl, upd_same, walk_snoc a2 (s2.tups.trans tS) (PlaceV.mv tS ?_), L.next hne, .inr (hc.imp_right fun z => by omega), (s.trans s2).updN nl⟩
    exact hv'
   rcases hm with rfl | rfl
   ·have hb := hBk rfl k' L
    refine ite2 (fun _ => ?_) (fun z => absurd (decide_eq_true rfl) z)
    refine iteT ⟨_, fun σ' H' h => h, ?_⟩
    exact ⟨_, rfl, .inl ⟨rfl, _, SqL.of (s1 _ _ gl)⟩, _, rfl, _, rfl, x, l, p, q, rs, qs, one, other, _, v, ys, n, rfl, S.mv s01, R, s1 _ _ gl, hv.mv s1.tups, wy, hn, hf, fun v' H2 hv' s2 => ⟨l, _, _, rfl, rfl, s2 _ _ (s1 _ _ gl), hly, fin H2 v' hv' (s1.trans s2) (.inl rfl) (by omega)⟩⟩
   ·refine ite2 (fun z => by have := of_decide_eq_true z; cases this) (fun _ => ?_)
    refine ⟨_, rfl, l, _, rfl, .inl (SqL.of (s1 _ _ gl)), _, rfl, _, _, rfl, rfl, _, rfl, ite2 (fun hc => ?_) (fun hc => ?_)⟩
    ·have hc' : k' + 2 <= B := by
      have := of_decide_eq_true hc
      rw [List.length_append, hy] at this
      simp at this
      omega
     refine ⟨_, fun σ' H' h => h, ?_⟩
     exact ⟨_, rfl, .inl ⟨rfl, _, SqL.of (s1 _ _ gl)⟩, _, rfl, _, rfl, x, l, p, q, rs, qs, one, other, _, v, ys, n, rfl, S.mv s01, R, s1 _ _ gl, hv.mv s1.tups, wy, hn, hf, fun v' H2 hv' s2 => ⟨l, _, _, rfl, rfl, s2 _ _ (s1 _ _ gl), hly, fin H2 v' hv' (s1.trans s2) (.inr hc') (by omega)⟩⟩
    ·have hc' : B <= k' + 1 := by
      refine Nat.le_of_not_lt fun z => hc (decide_eq_true ?_)
      rw [List.length_append, hy]
      simp
      omega
     exact ⟨_, rfl, k l k' _ H1 (s1 _ _ gl) (a2.imp fun _ _ z => z.mv s1.tups) L (.inr ⟨rfl, hne, hc', hk.imp_right fun z => z.resolve_left (fun y => by cases y)⟩) s01 nl⟩
def n_is_walk : List Str := ["sided", "rows", "heap"]
theorem sc_is_walk : FnScope n_is_walk ["sided", "rows"] (defScope s_is_walk) := ⟨rfl, rfl, rfl, by decide +kernel, rfl, by decide +kernel, by decide +kernel⟩
def sp_is_walk (A : Adr) : Sp := fun vs H Q _ => ∃ (x l p q : Addr) (rs qs : List V) (one other : List (List Int)) (rows : List Plc) (xs : List V), vs = [.ref x, .ref l] /\ Sided A.c_Beside H x p q rs qs one other /\ Rul one other /\ H l = some (.lst xs) /\ All2 PlaceV H rows xs /\ rows.length <= 1000 /\ (∀ r ∈ rows, PRow r) /\ ∀ H', Same H H' -> Q (.bl (isWB one other rows)) H'
theorem ok_is_walk (T : Txt K mg A) : FnOk P w K mg base CX0 9 A.a_is_walk A.fd_is_walk ["sided", "rows"] (sp_is_walk A) := by
 refine T.F_is_walk.ok sc_is_walk (fun vs H Q E h => ?_) (fun cdv Ar outer s H vs Q E hr h => ?_)
 ·obtain ⟨x, l, p, q, rs, qs, one, other, rows, xs, rfl, S, R, gl, a2, hlen, hg, k⟩ := h
  rfl
 ·obtain ⟨x, l, p, q, rs, qs, one, other, rows, xs, rfl, S, R, gl, a2, hlen, hg, k⟩ := h
  refine ⟨_, (pss_cons (ps_if (pt_cmpR op_eq (pe_callB call_len_seq rfl T.b_len PySem.boot_len (pa_cons (pv 1) pa_nil)) pe_int (nomark _))
     (pss_one (ps_ret pe_bl)) pss_nil)
    (pss_cons (ps_set (i := 2) sc_is_walk.nd rfl (by first | exact Or.inl rfl | exact Or.inr rfl) (pe_ix ix_tup (pe_ix ix_list (pv 1) pe_int (fun _ _ => rfl)) pe_int (fun _ _ => rfl)))
    (pss_cons (ps_if (pt_not (pt_truth (pe_call (ok_keeps T) (hr.mono (by decide)) rfl T.g_keeps T.F_keeps.kp T.b_keeps .nil pass0 (pa_cons (pe_ix ix_tup (pe_meth0 (pv 0) T.cl_Beside T.mt_Beside_rules (ok_Beside_rules T) (hr.mono (by decide)) T.b_Beside_rules .nil pass0) pe_int (fun _ _ => rfl)) (pa_cons (pv 2) pa_nil))) (fun _ => rfl)))
     (pss_one (ps_ret pe_bl)) pss_nil)
    (pss_one (ps_ret (pe_cmpR (op_eqL' eqk_place (huR hr)) (pe_call (ok_first_places T) (hr.mono (by decide)) rfl T.g_first_places T.F_first_places.kp T.b_first_places .nil pass0 (pa_cons (pv 0) (pa_cons (pv 2) (pa_cons (pe_op op_add (pe_callB call_len_seq rfl T.b_len PySem.boot_len (pa_cons (pv 1) pa_nil)) pe_int) pa_nil)))) (pv 1) (nomark _))))))), ?_⟩
  have lx := a2.length
  have l6 := S.l6
  obtain ⟨dx, hx⟩ := S.ob
  refine ⟨_, rfl, l, _, rfl, .inl (SqL.of gl), rfl, _, rfl, ite2 (fun hc => ?_) (fun hc => ?_)⟩
  ·have e : rows = [] := List.eq_nil_of_length_eq_zero (by have : (xs.length : Int) = 0 := V.int.inj (of_decide_eq_true hc); omega)
   have := k H (Same.refl _)
   rw [e, isWB_nil] at this
   exact this
  have hpos : 0 < rows.length := Nat.pos_of_ne_zero fun z => hc (decide_eq_true (by rw [<- lx, z]; rfl))
  obtain ⟨r, hr⟩ : ∃ r, rows.head? = some r := by
   cases rows with
   | nil => cases hpos
   | cons r t => exact ⟨r, rfl⟩
  obtain ⟨⟨n, hn, hep⟩, _⟩ := hg r (List.mem_of_head? hr)
  obtain ⟨v, hv, t, h, c, rfl, g1, g2, g3⟩ := a2.head hr
  refine ⟨_, rfl, l, _, 0, _, rfl, rfl, SqL.of gl, atI_nat (j := 0) hv, t, _, 1, _, rfl, rfl, SqT.of g1, atI_nat (j := 1) rfl, ?_⟩
  refine ⟨_, rfl, x, dx, _, rfl, hx, fl2_no _ _ (by decide +kernel) (by decide +kernel), x, dx, p, q, rfl, hx, fun t2 H2 ht2 s2 => ?_⟩
  refine ⟨t2, _, 0, _, rfl, rfl, SqT.of ht2, atI_nat (j := 0) rfl, _, rfl, p, h, rs, one, r.2.1, rfl, s2 _ _ S.hp, S.h2.mv s2.tups, s2 _ _ g2, by omega, fun H3 s3 => ⟨_, rfl, ?_⟩⟩
  have s23 := s2.trans s3
  cases hf : firstG one r.2.1 with
  | some z =>
   refine iteT ?_
   have := k H3 s23
   rw [isWB_no hr (by rw [hf]; exact fun z => by cases z)] at this
   exact this
  | none =>
   refine iteF ⟨_, rfl, _, rfl, _, rfl, l, _, rfl, .inl (SqL.of (s23 _ _ gl)), _, _, rfl, rfl, x, h, p, q, rs, qs, one, other, r.2.1, n, .int ((xs.length + 1 : Nat) : Int), xs.length + 1, rfl, S.mv s23, R, s23 _ _ g2, hep, by omega, .inr rfl, by omega, (fun z => by cases z), fun l2 k' ys H4 gl2 b2 L he s4 nl2 => ?_⟩
   have s24 := s23.trans s4
   refine ⟨_, rfl, _, rows, ⟨l2, ys, rfl, SqL.of gl2, b2⟩, ⟨l, xs, rfl, SqL.of (s24 _ _ gl), a2.imp fun _ _ z => z.mv s24.tups⟩, ?_⟩
   have := k H4 s24
   rw [isWB_eq hr hf L (he.imp_right fun z => by omega)] at this
   have e : decide (walkL one other r.2.1 k' = rows) = decide (rows = walkL one other r.2.1 k') := by
    by_cases c : rows = walkL one other r.2.1 k'
    ·rw [decide_eq_true c, decide_eq_true c.symm]
    ·rw [decide_eq_false c, decide_eq_false fun z => c z.symm]
   rw [e]
   exact this
def n__law_start : List Str := ["_law_script", "_law_great"]
theorem sc__law_start : FnScope n__law_start ["_law_script"] (defScope s__law_start) := ⟨rfl, rfl, rfl, by decide +kernel, rfl, by decide +kernel, by decide +kernel⟩
def sp_start (K : PySem.W.Frag) : Sp := fun vs H Q _ => ∃ (a : Addr) (ns : List Int), vs = [.ref a] /\ SqL K H a (ns.map V.int) /\ ns.length <= 63 /\
 ∀ (st ga ca : Addr) (H' : Hp), StAt H' st ga ca 0 -> H st = none -> H ga = none -> H ca = none -> Same H H' -> Q (.ref st) H'
theorem ok__law_start (T : Txt K mg A) : FnOk P w K mg base CX0 1 A.a__law_start A.fd__law_start ["_law_script"] (sp_start K) := by
 refine T.F__law_start.ok sc__law_start (fun vs H Q E h => ?_) (fun cdv Ar outer s H vs Q E hr h => ?_)
 ·obtain ⟨a, ns, rfl, hS, hl, k⟩ := h
  rfl
 ·obtain ⟨a, ns, rfl, hS, hl, k⟩ := h
  refine ⟨_, (pss_cons (ps_comp (i := 1) (ls := ["_law_cell"]) (fr := []) (cs_of (defScope s__law_start) n__law_start rfl rfl (by decide +kernel)) rfl (pi_list (pv 0)) (fun _ _ _ _ => pgc 0 (by decide +kernel) rfl rfl) (fun _ _ _ _ => pf_one (pt_cmpR op_ge (pvc (defScope s__law_start) 0) (pe_op op_pow pe_int pe_int) (nomark _))) (fun _ _ _ _ => (pvc (defScope s__law_start) 0)) sc__law_start.nd rfl rfl rfl)
    (pss_one (ps_ret (pe_lst (pa_cons (pv 1) (pa_cons pe_int (pa_cons (pe_comp (ls := ["_law_cell"]) (fr := []) (cs_of (defScope s__law_start) n__law_start rfl rfl (by decide +kernel)) rfl (pi_list (pv 0)) (fun _ _ _ _ => pgc 0 (by decide +kernel) rfl rfl) (fun _ _ _ _ => pf_nil) (fun _ _ _ _ => (pe_op op_mod (pvc (defScope s__law_start) 0) pe_int))) (pa_cons pe_int pa_nil)))))))), ?_⟩
  refine ⟨_, rfl, a, rfl, ⟨_, hS⟩, comp_list (xs := ns.map V.int) (fun i ys σ' H' => H' = H /\ (∃ v, σ' = [v]) /\ ∃ gs : List Int, ys = gs.map V.int /\ gs.length <= i /\ ∀ x ∈ gs, 0 < x) ⟨rfl, ⟨_, rfl⟩, [], rfl, Nat.zero_le _, fun _ hx => nomatch hx⟩ ?_ ?_ ?_⟩
  ·rintro i ys σ' H' hi ⟨rfl, _, gs, rfl, hg, _⟩
   refine ⟨hS, ?_⟩
   rw [List.length_map] at hi ⊢
   exact Nat.le_trans (Nat.le_trans hg (Nat.le_trans hi hl)) (by decide)
  ·rintro i x ys σ' H' hx ⟨rfl, ⟨v, rfl⟩, gs, rfl, hg, hp⟩
   rw [List.getElem?_map] at hx
   cases hn : ns[i]? with
   | none => rw [hn] at hx; cases hx
   | some z =>
    rw [hn] at hx
    cases hx
    refine ⟨_, rfl, _, _, rfl, rfl, ⟨by decide, by decide, by decide⟩, _, _, rfl, rfl, _, rfl, ?_⟩
    refine ite2 (fun hz => ⟨_, rfl, rfl, ⟨_, rfl⟩, gs ++ [z], by simp, by simp; exact hg, fun y hy => ?_⟩) (fun hz => ⟨rfl, ⟨_, rfl⟩, gs, rfl, Nat.le_succ_of_le hg, hp⟩)
    rcases List.mem_append.mp hy with hy | hy
    ·exact hp y hy
    ·have : y = z := by simpa using hy
     subst this
     exact Int.lt_of_lt_of_le (by decide) (of_decide_eq_true hz)
  ·rintro ys σ' H' ⟨rfl, _, gs, rfl, hg, hp⟩ g0 hg0
   rw [List.length_map] at hg
   have s1 : Same H' (upd H' g0 (.lst (gs.map V.int))) := Same.new hg0
   refine ⟨_, rfl, _, rfl, a, rfl, ⟨_, s1.seq hS⟩, comp_list (xs := ns.map V.int) (fun i ys σ' H2 => H2 = upd H' g0 (.lst (gs.map V.int)) /\ (∃ v, σ' = [v]) /\ ∃ cs : List Int, ys = cs.map V.int /\ cs.length = i) ⟨rfl, ⟨_, rfl⟩, [], rfl, rfl⟩ ?_ ?_ ?_⟩
   ·rintro i ys σ' H2 hi ⟨rfl, _, cs, rfl, hc⟩
    refine ⟨s1.seq hS, ?_⟩
    rw [List.length_map] at hi ⊢
    exact Nat.le_trans (Nat.le_trans (Nat.le_of_eq hc) (Nat.le_trans hi hl)) (by decide)
   ·rintro i x ys σ' H2 hx ⟨rfl, ⟨v, rfl⟩, cs, rfl, hc⟩
    rw [List.getElem?_map] at hx
    cases hn : ns[i]? with
    | none => rw [hn] at hx; cases hx
    | some z =>
     rw [hn] at hx
     cases hx
     refine ⟨_, rfl, _, _, rfl, rfl, (by show (0 : Int) < 2147483629; decide), rfl, ⟨_, rfl⟩, cs ++ [z % 2147483629], by simp, by simp [hc]⟩
   ·rintro ys σ' H2 ⟨rfl, _, cs, rfl, hc⟩ c0 hc0
    refine ⟨by show 4 <= sizeLine; decide, fun st hst => ?_⟩
    have n1 : g0 ≠ c0 := fun z => by rw [<- z, upd_same] at hc0; cases hc0
    have n2 : st ≠ c0 := fun z => by rw [z, upd_same] at hst; cases hst
    have hst1 : upd H' g0 (.lst (gs.map V.int)) st = none := by rw [upd_ne n2] at hst; exact hst
    have n3 : st ≠ g0 := fun z => by rw [z, upd_same] at hst1; cases hst1
    refine k st g0 c0 _ ⟨⟨gs, cs, 0, 0, upd_same, ?_, ?_, Nat.le_trans hg hl, hp, Int.le_refl _, Int.le_refl _, Int.le_refl _⟩, n1, n3, n2⟩ ?_ hg0 ?_ (s1.trans ((Same.new hc0).trans (Same.new hst)))
    ·rw [upd_ne n3.symm, upd_ne n1, upd_same]
    ·rw [upd_ne n2.symm, upd_same]
    ·rw [upd_ne n3] at hst1; exact hst1
    ·rw [upd_ne n1.symm] at hc0; exact hc0
def n__law_mix : List Str := ["_law_state", "_law_count", "_law_cell", "_law_stirred"]
theorem sc__law_mix : FnScope n__law_mix ["_law_state"] (defScope s__law_mix) := ⟨rfl, rfl, rfl, by decide +kernel, rfl, by decide +kernel, by decide +kernel⟩
def sp_mix : Sp := fun vs H Q _ => ∃ (st ga ca : Addr) (N : Nat), vs = [.ref st] /\ StAt H st ga ca N /\ N <= 10 ^ 9 /\
 ∀ (r : Int) (H' : Hp), 0 <= r -> StAt H' st ga ca (N + 1) -> Keep [st, ga] H H' -> Q (.int r) H'
theorem ok__law_mix (T : Txt K mg A) : FnOk P w K mg base CX0 1 A.a__law_mix A.fd__law_mix ["_law_state"] sp_mix := by
 refine T.F__law_mix.ok sc__law_mix (fun vs H Q E h => ?_) (fun cdv Ar outer s H vs Q E hr h => ?_)
 ·obtain ⟨st, ga, ca, N, rfl, S, hN, k⟩ := h
  rfl
 ·obtain ⟨st, ga, ca, N, rfl, S, hN, k⟩ := h
  refine ⟨_, (pss_cons (ps_augS (pv 0) pe_int get_list pe_int ip_add set_list)
    (pss_cons (ps_set (i := 1) sc__law_mix.nd rfl (by first | exact Or.inl rfl | exact Or.inr rfl) (pe_ix ix_list (pv 0) pe_int (fun _ _ => rfl)))
    (pss_cons (ps_set (i := 2) sc__law_mix.nd rfl (by first | exact Or.inl rfl | exact Or.inr rfl) pe_int)
    (pss_cons (ps_if (pt_truth (pe_ix ix_list (pv 0) pe_int (fun _ _ => rfl)) (fun _ => rfl))
     (pss_one (ps_set (i := 2) sc__law_mix.nd rfl (by first | exact Or.inl rfl | exact Or.inr rfl) (pe_ix ix_list (pe_ix ix_list (pv 0) pe_int (fun _ _ => rfl)) (pe_op op_mod (pv 1) (pe_callB call_len_seq rfl T.b_len PySem.boot_len (pa_cons (pe_ix ix_list (pv 0) pe_int (fun _ _ => rfl)) pa_nil))) (fun _ _ => rfl)))) pss_nil)
    (pss_cons (ps_set (i := 3) sc__law_mix.nd rfl (by first | exact Or.inl rfl | exact Or.inr rfl) (pe_op op_mod (pe_op op_mul (pe_op op_add (pe_op op_add (pe_op op_add (pv 2) (pe_op op_mul (pe_op op_mul pe_int (pv 1)) (pv 1))) (pe_op op_mul pe_int (pv 1))) pe_int) pe_int) pe_int))
    (pss_one (ps_ret (pe_op op_mod (pe_op op_mul (pe_op op_add (pe_op op_add (pv 3) (pe_op op_mul pe_int (pv 1))) pe_int) pe_int) pe_int)))))))), ?_⟩
  obtain ⟨⟨gs, cs, q, n, h1, h2, h3, h4, h5, h6, h7, h8⟩, gc, sg, sc⟩ := S
  have hn : -(2 ^ 64) < n + 1 /\ n + 1 < 2 ^ 64 := by omega
  refine ⟨_, rfl, st, _, 3, _, rfl, rfl, SqL.of h1, by decide, rfl, _, _, rfl, rfl, st, _, 3, 3, rfl, rfl, h1, rfl, ?_⟩
  have e1 : upd H st (.lst ([V.ref ga, V.int q, V.ref ca, V.int n].set 3 (V.int (n + 1)))) st = some (.lst [.ref ga, .int q, .ref ca, .int (n + 1)]) := upd_same
  refine ⟨_, rfl, st, _, 3, _, rfl, rfl, SqL.of e1, rfl, ?_⟩
  refine ⟨_, rfl, st, _, 2, _, rfl, rfl, SqL.of e1, rfl, ?_⟩
  have e3 : upd H st (.lst ([V.ref ga, V.int q, V.ref ca, V.int n].set 3 (V.int (n + 1)))) ca = some (.lst (cs.map V.int)) := by rw [upd_ne sc.symm]; exact h3
  have e2 : upd H st (.lst ([V.ref ga, V.int q, V.ref ca, V.int n].set 3 (V.int (n + 1)))) ga = some (.lst (gs.map V.int)) := by rw [upd_ne sg.symm]; exact h2
  refine ⟨_, Or.inl ⟨_, SqL.of e3, rfl⟩, ?_⟩
  have fin : ∀ (c : Int), (tSeq (tAsg (tOp (rI (fun _ j => 0 < j) fun i j => V.int (i % j)) (tOp (rI CMul fun i j => V.int (i * j)) (tOp (rI0 fun i j => V.int (i + j)) (tOp (rI0 fun i j => V.int (i + j)) (tOp (rI0 fun i j => V.int (i + j)) (tVar 2) (tOp (rI CMul fun i j => V.int (i * j)) (tOp (rI CMul fun i j => V.int (i * j)) (tC (V.int 7)) (tVar 1)) (tVar 1))) (tOp (rI CMul fun i j => V.int (i * j)) (tC (V.int 13)) (tVar 1))) (tC (V.int 5))) (tC (V.int 1220703125))) (tC (V.int 2147483647))) (gName 3))
    (tRet (tOp (rI (fun _ j => 0 < j) fun i j => V.int (i % j)) (tOp (rI CMul fun i j => V.int (i * j)) (tOp (rI0 fun i j => V.int (i + j)) (tOp (rI0 fun i j => V.int (i + j)) (tVar 3) (tOp (rI CMul fun i j => V.int (i * j)) (tC (V.int 17)) (tVar 1))) (tC (V.int 3))) (tC (V.int 39373))) (tC (V.int 1000000007)))))
    { nx := fun _ H' => Q .non H', rt := Q } [some (.ref st), some (.int (n + 1)), some (.int c), none] (upd H st (.lst ([V.ref ga, V.int q, V.ref ca, V.int n].set 3 (V.int (n + 1))))) := fun c => by
   refine ⟨_, rfl, _, rfl, _, _, rfl, rfl, .inl (by decide), _, rfl, _, _, rfl, rfl, .inr hn, _, _, rfl, rfl, _, rfl, _, _, rfl, rfl, .inl (by decide), _, _, rfl, rfl, _, _, rfl, rfl, _, _, rfl, rfl, .inr (by decide), _, _, rfl, rfl, (by show (0 : Int) < 2147483647; decide), ?_⟩
   refine ⟨_, rfl, _, rfl, _, _, rfl, rfl, .inl (by decide), _, _, rfl, rfl, _, _, rfl, rfl, _, _, rfl, rfl, .inr (by decide), _, _, rfl, rfl, (by show (0 : Int) < 1000000007; decide), ?_⟩
   exact k _ _ (Int.emod_nonneg _ (by decide)) ⟨⟨gs, cs, q, n + 1, e1, e2, e3, h4, h5, h6, by omega, by omega⟩, gc, sg, sc⟩ (Keep.set (by simp))
  cases hc : cs with
  | nil =>
   refine iteF ?_
   exact fin 5
  | cons c0 cr =>
   refine iteT ?_
   rw [hc] at e3
   refine ⟨_, rfl, st, _, 2, _, rfl, rfl, SqL.of e1, rfl, _, rfl, _, rfl, st, _, 2, _, rfl, rfl, SqL.of e1, rfl, ca, _, rfl, .inl (SqL.of e3), _, _, rfl, rfl, ?_, ?_⟩
   ·rw [List.length_map]; simp only [List.length_cons]; omega
   ·have hpos : (0 : Int) < ((c0 :: cr).length : Int) := by simp only [List.length_cons]; omega
    rw [List.length_map]
    have hm0 := Int.emod_nonneg (n + 1) (Int.ne_of_gt hpos)
    have hm1 := Int.emod_lt_of_pos (n + 1) hpos
    obtain ⟨j, hj⟩ : ∃ j : Nat, (n + 1) % ((c0 :: cr).length : Int) = (j : Int) := ⟨((n + 1) % ((c0 :: cr).length : Int)).toNat, by omega⟩
    have hjl : j < (c0 :: cr).length := by omega
    refine ⟨ca, _, _, _, rfl, rfl, SqL.of e3, by rw [hj]; exact atI_nat (v := V.int ((c0 :: cr)[j])) (by rw [List.getElem?_map, List.getElem?_eq_getElem hjl]; rfl), ?_⟩
    exact fin _
def n__law_draw : List Str := ["_law_state", "_law_many", "_law_told", "_law_size"]
theorem sc__law_draw : FnScope n__law_draw ["_law_state", "_law_many"] (defScope s__law_draw) := ⟨rfl, rfl, rfl, by decide +kernel, rfl, by decide +kernel, by decide +kernel⟩
def sp_draw : Sp := fun vs H Q _ => ∃ (st ga ca : Addr) (N : Nat) (m : Int), vs = [.ref st, .int m] /\ StAt H st ga ca N /\ N <= 10 ^ 8 /\ 0 < m /\ m <= 10 ^ 60 /\
 ∀ (r : Int) (H' : Hp), 0 <= r -> r < m -> StAt H' st ga ca (N + 7) -> Keep [st, ga] H H' -> Q (.int r) H'
theorem ok__law_draw (T : Txt K mg A) : FnOk P w K mg base CX0 2 A.a__law_draw A.fd__law_draw ["_law_state", "_law_many"] sp_draw := by
 refine T.F__law_draw.ok sc__law_draw (fun vs H Q E h => ?_) (fun cdv Ar outer s H vs Q E hr h => ?_)
 ·obtain ⟨st, ga, ca, N, m, rfl, S, hN, hm0, hm1, k⟩ := h
  rfl
 ·obtain ⟨st, ga, ca, N, m, rfl, S, hN, hm0, hm1, k⟩ := h
  refine ⟨_, (pss_cons (ps_if (PW.pt (pw_and (pt_cmpR op_eq (pe_ix ix_list (pv 0) pe_int (fun _ _ => rfl)) pe_int (nomark _)) (pw_and1 (pt_truth (pe_ix ix_list (pv 0) pe_int (fun _ _ => rfl)) (fun _ => rfl)))))
     (pss_one (ps_asg (pe_bm PySem.F.plainAttrs_list PySem.F.slot_list_pop PySem.F.type_list_pop mt_popAt (pe_ix ix_list (pv 0) pe_int (fun _ _ => rfl)) (pa_cons pe_int pa_nil)) (pg_sub (pv 0) pe_int set_list))) pss_nil)
    (pss_cons (ps_if (pt_cmpR op_gt (pe_ix ix_list (pv 0) pe_int (fun _ _ => rfl)) pe_int (nomark _))
     (pss_cons (ps_set (i := 2) sc__law_draw.nd rfl (by first | exact Or.inl rfl | exact Or.inr rfl) (pe_op op_mod (pe_ix ix_list (pv 0) pe_int (fun _ _ => rfl)) (pv 1)))
    (pss_cons (ps_asg (pe_op op_fdivB (pe_ix ix_list (pv 0) pe_int (fun _ _ => rfl)) (pv 1)) (pg_sub (pv 0) pe_int set_list))
    (pss_one (ps_ret (pv 2))))) pss_nil)
    (pss_cons (ps_set (i := 2) sc__law_draw.nd rfl (by first | exact Or.inl rfl | exact Or.inr rfl) pe_int)
    (pss_cons (ps_set (i := 3) sc__law_draw.nd rfl (by first | exact Or.inl rfl | exact Or.inr rfl) pe_int)
    (pss_cons (ps_while PassesOwn.never (pt_cmpR op_lt (pv 3) (pv 1) (nomark _))
     (pss_cons (ps_set (i := 2) sc__law_draw.nd rfl (by first | exact Or.inl rfl | exact Or.inr rfl) (pe_op op_add (pe_op op_mul (pv 2) pe_int) (pe_call (ok__law_mix T) (hr.mono (by decide)) rfl T.g__law_mix T.F__law_mix.kp T.b__law_mix .nil pass0 (pa_cons (pv 0) pa_nil))))
    (pss_one (ps_set (i := 3) sc__law_draw.nd rfl (by first | exact Or.inl rfl | exact Or.inr rfl) (pe_op op_mul (pv 3) pe_int)))))
    (pss_one (ps_ret (pe_op op_mod (pv 2) (pv 1))))))))), ?_⟩
  obtain ⟨⟨gs, cs, q, n, h1, h2, h3, h4, h5, h6, h7, h8⟩, gc, sg, sc⟩ := S
  have hb : ∀ (g : List Int) (x : Int) (H' : Hp), H' = upd (upd H ga (.lst (g.map V.int))) st (.lst [.ref ga, .int x, .ref ca, .int n]) -> H' st = some (.lst [.ref ga, .int x, .ref ca, .int n]) /\ H' ga = some (.lst (g.map V.int)) /\ H' ca = some (.lst (cs.map V.int)) /\ Keep [st, ga] H H' := fun g x H' e => by
   subst e
   refine ⟨upd_same, by rw [upd_ne sg.symm, upd_same], by rw [upd_ne sc.symm, upd_ne gc.symm]; exact h3, fun b o e hn => ?_⟩
   have n1 : b ≠ st := fun z => hn (by simp [z])
   have n2 : b ≠ ga := fun z => hn (by simp [z])
   rw [upd_ne n1, upd_ne n2]
   exact e
  refine seqJoin (fun σ' H' => σ' = [some (.ref st), some (.int m), none, none] /\ ∃ (g : List Int) (x : Int), H' st = some (.lst [.ref ga, .int x, .ref ca, .int n]) /\ H' ga = some (.lst (g.map V.int)) /\ H' ca = some (.lst (cs.map V.int)) /\ Keep [st, ga] H H' /\ g.length <= 63 /\ (∀ x ∈ g, 0 < x) /\ 0 <= x) (fun nx hnx => ?_) ?_
  ·have skip : nx [some (.ref st), some (.int m), none, none] H := hnx _ _ ⟨rfl, gs, q, h1, h2, h3, Keep.refl _ _, h4, h5, h6⟩
   refine ⟨_, rfl, st, _, 1, _, rfl, rfl, SqL.of h1, rfl, rfl, _, rfl, ?_⟩
   refine ite2 (fun hq => ?_) (fun hq => iteF skip)
   have hq0 : q = 0 := by simpa using hq
   subst hq0
   refine ⟨_, rfl, st, _, 0, _, rfl, rfl, SqL.of h1, rfl, _, .inl ⟨_, SqL.of h2, rfl⟩, ?_⟩
   cases gs with
   | nil => exact iteF skip
   | cons g0 gr =>
    refine iteT ?_
    have eg : upd H ga (.lst ((V.int g0 :: gr.map V.int).eraseIdx 0)) st = some (.lst [.ref ga, .int 0, .ref ca, .int n]) := by rw [upd_ne sg]; exact h1
    refine ⟨_, rfl, st, _, 0, _, rfl, rfl, SqL.of h1, rfl, .inl ⟨rfl, _, SqL.of h2⟩, ga, _, 0, 0, V.int g0, rfl, rfl, h2, by decide, by decide, (by simp [seqIndex?]), rfl, ?_⟩
    refine ⟨_, rfl, st, _, 1, 1, rfl, rfl, eg, rfl, ?_⟩
    obtain ⟨b1, b2, b3, b4⟩ := hb gr g0 _ rfl
    exact hnx _ _ ⟨rfl, gr, g0, b1, b2, b3, b4, by simp only [List.length_cons] at h4; omega, fun y hy => h5 y (List.mem_cons_of_mem _ hy), Int.le_of_lt (h5 g0 List.mem_cons_self)⟩
  ·rintro σ1 H1 ⟨rfl, g, x, c1, c2, c3, c4, c5, c6, c7⟩
   refine ⟨_, rfl, st, _, 1, _, rfl, rfl, SqL.of c1, rfl, _, _, rfl, rfl, _, rfl, ?_⟩
   refine ite2 (fun hx => ?_) (fun hx => ?_)
   ·refine ⟨_, rfl, st, _, 1, _, rfl, rfl, SqL.of c1, rfl, _, rfl, _, _, rfl, rfl, hm0, ?_⟩
    refine ⟨_, rfl, st, _, 1, _, rfl, rfl, SqL.of c1, rfl, _, rfl, _, _, rfl, rfl, ⟨hm0, Int.le_trans hm1 (by decide)⟩, ?_⟩
    refine ⟨_, rfl, st, _, 1, 1, rfl, rfl, c1, rfl, ?_⟩
    refine ⟨_, rfl, k _ _ (Int.emod_nonneg _ (Int.ne_of_gt hm0)) (Int.emod_lt_of_pos _ hm0) ⟨⟨g, cs, x / m, n, upd_same, by rw [upd_ne sg.symm]; exact c2, by rw [upd_ne sc.symm]; exact c3, c5, c6, Int.ediv_nonneg c7 (Int.le_of_lt hm0), h7, by omega⟩, gc, sg, sc⟩ (c4.trans (Keep.set (by simp)))⟩
   ·refine ⟨fun mm σ2 H2 => ∃ (j : Nat) (told : Int), j <= 7 /\ mm = 7 - j /\ σ2 = [some (.ref st), some (.int m), some (.int told), some (.int (1000000007 ^ j))] /\ StAt H2 st ga ca (N + j) /\ Keep [st, ga] H H2,
     ⟨7, 0, 0, by decide, rfl, rfl, ⟨⟨g, cs, x, n, c1, c2, c3, c5, c6, c7, h7, by omega⟩, gc, sg, sc⟩, c4⟩, ?_⟩
    rintro mm σ2 H2 ⟨j, told, hj, rfl, rfl, S2, k2⟩
    refine ⟨_, rfl, _, rfl, _, _, rfl, rfl, _, rfl, ?_⟩
    refine ite2 (fun hlt => ?_) (fun hlt => ?_)
    ·have hlt' : (1000000007 : Int) ^ j < m := of_decide_eq_true hlt
     have hj6 : j < 7 := by
      rcases Nat.lt_or_ge j 7 with z | z
      ·exact z
      ·have e7 : j = 7 := by omega
       subst e7
       exact absurd (Int.lt_of_lt_of_le hlt' hm1) (by decide)
     refine ⟨fun σ3 H3 => ∃ (told : Int), σ3 = [some (.ref st), some (.int m), some (.int told), some (.int (1000000007 ^ (j + 1)))] /\ StAt H3 st ga ca (N + (j + 1)) /\ Keep [st, ga] H H3, fun σ3 H3 ⟨td, e3, S3, k3⟩ => ⟨7 - (j + 1), by omega, j + 1, td, hj6, rfl, e3, S3, k3⟩, ?_⟩
     refine ⟨_, rfl, _, _, rfl, rfl, .inr (by decide), _, rfl, st, ga, ca, N + j, rfl, S2, by omega, fun r H3 hr0 S3 k3 => ?_⟩
     refine ⟨_, _, rfl, rfl, ?_⟩
     refine ⟨_, rfl, _, _, rfl, rfl, .inr (by decide), ?_⟩
     refine ⟨told * 1000000007 + r, ?_, S3, k2.trans k3⟩
     show [some (V.ref st), some (V.int m), some (V.int _), some (V.int (1000000007 ^ j * 1000000007))] = _
     rw [<- Int.pow_succ]
    ·refine ⟨_, rfl, _, rfl, _, _, rfl, rfl, hm0, ?_⟩
     exact k _ _ (Int.emod_nonneg _ (Int.ne_of_gt hm0)) (Int.emod_lt_of_pos _ hm0) (S2.mono (by omega)) k2
def n__law_partings : List Str := ["_law_n", "_law_top", "_law_found", "_law_part"]
theorem sc__law_partings : FnScope n__law_partings ["_law_n", "_law_top"] (defScope s__law_partings) := ⟨rfl, rfl, rfl, by decide +kernel, rfl, by decide +kernel, by decide +kernel⟩
def sp_lparts (n : Nat) : Sp := fun vs H Q _ => ∃ (m g : Nat), m < n /\ vs = [.int m, .int g] /\ m <= 24 /\ g <= 1000 /\
 ∀ (l : Addr) (xs : List V) (H' : Hp), H' l = some (.lst xs) -> All2 Tup1 H' (partF n m g) xs -> Same H H' -> H l = none -> Q (.ref l) H'
theorem okr__law_partings (T : Txt K mg A) : ∀ n : Nat, FnOk P w K mg base CX0 n A.a__law_partings A.fd__law_partings ["_law_n", "_law_top"] (sp_lparts n)
 | 0 => FnOk.none (fun _ _ _ _ ⟨_, _, h, _⟩ => absurd h (Nat.not_lt_zero _))
 | n + 1 => by
  have ih := okr__law_partings T n
  refine T.F__law_partings.ok sc__law_partings (fun vs H Q E h => ?_) (fun cdv Ar outer s H vs Q E hr h => ?_)
  ·obtain ⟨m, g, hm, rfl, hm24, hg, k⟩ := h
   rfl
  ·obtain ⟨m, g, hm, rfl, hm24, hg, k⟩ := h
   refine ⟨_, (pss_cons (ps_if (pt_cmpR op_eq (pv 0) pe_int (nomark _))
      (pss_one (ps_ret (pe_lst (pa_cons (pe_tup pa_nil) pa_nil)))) pss_nil)
     (pss_cons (ps_set (i := 2) sc__law_partings.nd rfl (by first | exact Or.inl rfl | exact Or.inr rfl) (pe_lst pa_nil))
     (pss_cons (ps_for PassesOwn.never rfl (pi_down rfl T.b_range (pa_cons (pe_callB (call_min2 rfl) rfl T.b_min boot_min (pa_cons (pv 0) (pa_cons (pv 1) pa_nil))) (pa_cons pe_int (pa_cons (pe_un un_neg pe_int) pa_nil)))) (pg_name (i := 3) sc__law_partings.nd rfl (by first | exact Or.inl rfl | exact Or.inr rfl))
      (pss_one (ps_expr (pe_bm PySem.F.plainAttrs_list PySem.F.slot_list_extend PySem.F.type_list_extend mt_extend (pv 2) (pa_cons (pe_comp (ls := ["_law_rest"]) (fr := [("_law_part", 3)]) (cs_of (defScope s__law_partings) n__law_partings rfl rfl (by decide +kernel)) rfl (pi_list (pe_call ih hr rfl T.g__law_partings T.F__law_partings.kp T.b__law_partings .nil pass0 (pa_cons (pe_op op_sub (pv 0) (pv 3 (hv := Or.inr (Or.inl rfl)))) (pa_cons (pv 3 (hv := Or.inr (Or.inl rfl))) pa_nil)))) (fun _ _ _ _ => pgc 0 (by decide +kernel) rfl rfl) (fun _ _ _ _ => pf_nil) (fun _ _ _ _ => (pe_op (op_catAK K rfl) (pe_tup (pa_cons (pvc (defScope s__law_partings) 1) pa_nil)) (pvc (defScope s__law_partings) 0)))) pa_nil)))))
     (pss_one (ps_ret (pv 2)))))), ?_⟩
   dsimp only [tNext]
   refine seqJoin (fun σ' H' => m ≠ 0 /\ H' = H /\ σ' = [some (.int m), some (.int g), none, none]) (fun nx hnx => ?_) ?_
   ·refine ⟨_, rfl, rfl, _, rfl, ?_⟩
    refine ite2 (fun h0 => ?_) (fun h0 => hnx _ _ ⟨fun z => h0 (by rw [z]; rfl), rfl, rfl⟩)
    have e0 : m = 0 := by
     have := of_decide_eq_true h0
     injection this with this
     omega
    refine ⟨by show 0 <= sizeLine; decide, fun e he => ⟨by show 1 <= sizeLine; decide, fun l hl => ?_⟩⟩
    refine k l [.ref e] _ upd_same ?_ ((Same.new he).trans (Same.new hl)) ((Same.new he).free hl)
    rw [partF_succ, if_pos e0]
    exact .cons ⟨e, rfl, Same.new hl _ _ upd_same⟩ .nil
   rintro σ1 H1 ⟨m0, rfl, rfl⟩
   refine ⟨by show 0 <= sizeLine; decide, fun l hl => ?_⟩
   have hmin : (if (g : Int) < (m : Int) then (g : Int) else (m : Int)) = ((min m g : Nat) : Int) := by split <;> omega
   refine ⟨_, rfl, _, rfl, _, _, rfl, _, rfl, min m g, ?_, by omega, for_down (n := min m g) (fun i σ' H' => Same H1 H' /\ i <= min m g /\ ∃ xs v, σ' = [some (.int m), some (.int g), some (.ref l), v] /\ H' l = some (.lst xs) /\ All2 Tup1 H' (partP n m (min m g) i) xs) ⟨Same.new hl, Nat.zero_le _, [], _, rfl, upd_same, .nil⟩ ?_ ?_⟩
   ·show [V.int (if (g : Int) < (m : Int) then (g : Int) else (m : Int)), V.int 0, V.int (-1)] = _
    rw [hmin]
   ·rintro i σ' H' hi ⟨s, _, xs, v, rfl, gl, h2⟩
    have ep : ((min m g : Nat) : Int) - (i : Int) = ((min m g - i : Nat) : Int) := by omega
    have em : (m : Int) - ((min m g - i : Nat) : Int) = ((m - (min m g - i) : Nat) : Int) := by omega
    have hlx : xs.length <= 2 ^ (m - min m g + i) := by
     rw [<- h2.length]
     exact partP_len (partF_len n) (Nat.min_le_left _ _) i (by omega)
    rw [ep]
    refine ⟨_, rfl, .inl ⟨rfl, _, SqL.of gl⟩, _, rfl, _, rfl, _, _, rfl, rfl, _, rfl, m - (min m g - i), min m g - i, by omega, ?_, by omega, by omega, fun l2 xs2 H2 gl2 h3 s2 nl2 => ?_⟩
    ·show [V.int ((m : Int) - ((min m g - i : Nat) : Int)), V.int ((min m g - i : Nat) : Int)] = _
     rw [em]
    have hlx2 : xs2.length <= 2 ^ (m - min m g + i) := by
     rw [<- h3.length]
     have e1 : m - (min m g - i) = m - min m g + i := by omega
     exact Nat.le_trans (partF_len n (m - (min m g - i)) (min m g - i)) (by rw [e1]; exact Nat.le_refl _)
    have hpw : 2 ^ (m - min m g + i) + 2 ^ (m - min m g + i) <= sizeLine := by
     have : 2 ^ (m - min m g + i) + 2 ^ (m - min m g + i) = 2 ^ (m - min m g + i + 1) := by rw [Nat.pow_succ]; omega
     rw [this]
     exact pow24 (by omega)
    refine ⟨l2, rfl, ⟨_, SqL.of gl2⟩, comp_list (xs := xs2) (fun j ys σ' H3 => Same H2 H3 /\ (∃ v, σ' = [v, some (.int ((min m g - i : Nat) : Int))]) /\ All2 Tup1 H3 (((partF n (m - (min m g - i)) (min m g - i)).take j).map (((min m g - i : Nat) : Int) :: ·)) ys) ⟨fun _ _ h => h, ⟨_, rfl⟩, .nil⟩ ?_ ?_ ?_⟩
    ·rintro j ys σ' H3 hj ⟨s3, _, h4⟩
     refine ⟨SqL.of (s3 _ _ gl2), ?_⟩
     rw [<- h4.length, List.length_map, List.length_take]
     omega
    ·rintro j x ys σ' H3 hx ⟨s3, ⟨v, rfl⟩, h4⟩
     obtain ⟨hs, hhs, q, rfl, hq⟩ := h3.get hx
     have hj := (List.getElem?_eq_some_iff.mp hhs).1
     have eh := (List.getElem?_eq_some_iff.mp hhs).2
     refine ⟨_, rfl, by show 1 <= sizeLine; decide, fun t ht => ⟨_, rfl, ?_⟩⟩
     have hl1 : hs.length <= 100 := by
      have := partF_mem _ _ _ hs (List.mem_of_getElem? hhs)
      omega
     refine cat_front (Same.new ht _ _ (s3 _ _ hq)) upd_same hl1 fun v H4 hv s4 => ?_
     have sn := (Same.new (o := .tup [V.int ((min m g - i : Nat) : Int)]) ht).trans s4
     refine ⟨s3.trans sn, ⟨_, rfl⟩, ?_⟩
     rw [List.take_succ_eq_append_getElem hj, List.map_append, eh]
     exact (h4.mv sn.tups).snoc hv
    ·rintro ys σ' H3 ⟨s3, _, h4⟩ l3 hl3
     have et : (partF n (m - (min m g - i)) (min m g - i)).take xs2.length = partF n (m - (min m g - i)) (min m g - i) := by rw [<- h3.length, List.take_length]
     rw [et] at h4
     have hly : ys.length = xs2.length := by rw [<- h4.length, List.length_map, h3.length]
     have sn := s2.trans (s3.trans (Same.new (o := .lst ys) hl3))
     refine ⟨l, l3, xs, ys, rfl, rfl, sn _ _ gl, upd_same, by omega, ?_⟩
     have tn : Tups H' (upd (upd H3 l3 (.lst ys)) l (.lst (xs ++ ys))) := sn.tups.trans (Tups.set (sn _ _ gl))
     have tn3 : Tups H3 (upd (upd H3 l3 (.lst ys)) l (.lst (xs ++ ys))) := (Same.new hl3).tups.trans (Tups.set (sn _ _ gl))
     refine ⟨fun b o e => ?_, by omega, xs ++ ys, _, rfl, upd_same, ?_⟩
     ·rw [upd_ne (ne_of_none e hl)]
      exact sn _ _ (s _ _ e)
     ·rw [partP_succ]
      exact (h2.mv tn).append (h4.mv tn3)
   ·rintro σ' H' ⟨s, _, xs, v, rfl, gl, h2⟩
    refine ⟨_, rfl, k l xs H' gl ?_ s hl⟩
    rw [partF_succ, if_neg m0]
    exact h2
theorem ok__law_partings (T : Txt K mg A) : FnOk P w K mg base CX0 26 A.a__law_partings A.fd__law_partings ["_law_n", "_law_top"] (sp_lparts 26) := okr__law_partings T 26
def n__law_lane : List Str := ["_law_left", "_law_right", "_law_split", "_law_levels", "_law_base", "_law_by", "_law_ones", "_law_others", "_law_level"]
theorem sc__law_lane : FnScope n__law_lane ["_law_left", "_law_right", "_law_split", "_law_levels"] (defScope s__law_lane) := ⟨rfl, rfl, rfl, by decide +kernel, rfl, by decide +kernel, by decide +kernel⟩
def sp_lane : Sp := fun vs H Q _ => ∃ (L R : Nat) (sp : Bool) (lv : Addr) (lev : List Nat), vs = [.int L, .int R, .bl sp, .ref lv] /\ H lv = some (.lst (lev.map natV)) /\ (1 <= L /\ L <= 8 /\ 1 <= R /\ R <= 8) /\ (sp = true -> R * (L / R) = L /\ R < L) /\ lev.length <= 60 /\ (∀ v ∈ lev, v <= 2) /\
 ∀ (p o1 o2 : Addr) (xs ys : List V) (m n : Nat) (H' : Hp), H' p = some (.tup [.ref o1, .ref o2]) -> H' o1 = some (.lst xs) -> H' o2 = some (.lst ys) -> (⟨L, R, m, n, sp, lev⟩ : LD).Ok -> All2 Lst1 H' (lev.map (⟨L, R, m, n, sp, lev⟩ : LD).lrow) xs -> All2 Lst1 H' (lev.map (⟨L, R, m, n, sp, lev⟩ : LD).rrow) ys -> Same H H' -> Q (.ref p) H'
theorem ok__law_lane (T : Txt K mg A) : FnOk P w K mg base CX0 1 A.a__law_lane A.fd__law_lane ["_law_left", "_law_right", "_law_split", "_law_levels"] sp_lane := by
 refine T.F__law_lane.ok sc__law_lane (fun vs H Q E h => ?_) (fun cdv Ar outer s H vs Q E hr h => ?_)
 ·obtain ⟨L, R, sp, lv, lev, rfl, hlv, hb, hsp, hl, hv, k⟩ := h
  rfl
 ·obtain ⟨L, R, sp, lv, lev, rfl, hlv, hb, hsp, hl, hv, k⟩ := h
  refine ⟨_, (pss_cons (ps_set (i := 4) sc__law_lane.nd rfl (by first | exact Or.inl rfl | exact Or.inr rfl) (pe_op op_mul (pv 0) (pv 1)))
    (pss_cons (ps_for PassesOwn.never rfl (pi_range2 rfl T.b_range (pa_cons pe_int (pa_cons pe_int pa_nil))) (pg_name (i := 5) sc__law_lane.nd rfl (by first | exact Or.inl rfl | exact Or.inr rfl))
     (pss_one (ps_while PassesOwn.never (PW.pt (pw_and (pt_cmpR op_eq (pe_op op_mod (pv 0) (pv 5)) pe_int (nomark _)) (pw_and1 (pt_cmpR op_eq (pe_op op_mod (pv 1) (pv 5)) pe_int (nomark _)))))
     (pss_cons (ps_set (i := 0) sc__law_lane.nd rfl (by first | exact Or.inl rfl | exact Or.inr rfl) (pe_op op_fdivB (pv 0) (pv 5)))
    (pss_cons (ps_set (i := 1) sc__law_lane.nd rfl (by first | exact Or.inl rfl | exact Or.inr rfl) (pe_op op_fdivB (pv 1) (pv 5)))
    (pss_one (ps_set (i := 4) sc__law_lane.nd rfl (by first | exact Or.inl rfl | exact Or.inr rfl) (pe_op op_fdivB (pv 4) (pv 5)))))))))
    (pss_cons (ps_par (i := 0) (j := 1) rfl sc__law_lane.nd rfl rfl (by decide) rfl rfl (pa_cons (pe_op op_fdivB (pv 4) (pv 1)) (pa_cons (pe_op op_fdivB (pv 4) (pv 0)) pa_nil)) rfl)
    (pss_cons (ps_set (i := 6) sc__law_lane.nd rfl (by first | exact Or.inl rfl | exact Or.inr rfl) (pe_lst pa_nil))
    (pss_cons (ps_set (i := 7) sc__law_lane.nd rfl (by first | exact Or.inl rfl | exact Or.inr rfl) (pe_lst pa_nil))
    (pss_cons (ps_for PassesOwn.never rfl (pi_list (pv 3)) (pg_name (i := 8) sc__law_lane.nd rfl (by first | exact Or.inl rfl | exact Or.inr rfl))
     (pss_one (ps_if (pt_truth (pv 2) (fun _ => rfl))
     (pss_cons (ps_expr (pe_bm PySem.F.plainAttrs_list PySem.F.slot_list_append PySem.F.type_list_append mt_append (pv 6) (pa_cons (pe_op op_rep (pe_lst (pa_cons (pv 0) pa_nil)) (pv 8)) pa_nil)))
    (pss_one (ps_expr (pe_bm PySem.F.plainAttrs_list PySem.F.slot_list_append PySem.F.type_list_append mt_append (pv 7) (pa_cons (pe_slice sl_list (pe_op op_cat (pe_lst (pa_cons (pv 0) pa_nil)) (pe_op op_rep (pe_lst (pa_cons (pv 1) pa_nil)) (pe_op op_fdivB (pv 0) (pv 1)))) po_none (po_some (pe_ix ix_list (pe_lst (pa_cons pe_int (pa_cons pe_int (pa_cons (pe_op op_add pe_int (pe_op op_fdivB (pv 0) (pv 1))) pa_nil)))) (pv 8) (fun _ _ => rfl)))) pa_nil))))) (pss_cons (ps_expr (pe_bm PySem.F.plainAttrs_list PySem.F.slot_list_append PySem.F.type_list_append mt_append (pv 6) (pa_cons (pe_op op_rep (pe_lst (pa_cons (pv 0) pa_nil)) (pe_op op_mul (pv 8) (pe_op op_fdivB (pv 4) (pv 0)))) pa_nil)))
    (pss_one (ps_expr (pe_bm PySem.F.plainAttrs_list PySem.F.slot_list_append PySem.F.type_list_append mt_append (pv 7) (pa_cons (pe_op op_rep (pe_lst (pa_cons (pv 1) pa_nil)) (pe_op op_mul (pv 8) (pe_op op_fdivB (pv 4) (pv 1)))) pa_nil))))))))
    (pss_one (ps_ret (pe_tup (pa_cons (pv 6) (pa_cons (pv 7) pa_nil))))))))))), ?_⟩
  refine ⟨_, rfl, _, rfl, _, _, rfl, rfl, .inl ⟨by omega, by omega⟩, ?_⟩
  refine ⟨2, 9, rfl, ⟨by decide, by decide, by decide, by decide⟩, for_range (lo := 2) (n := 7) (fun i σ' H' => H' = H /\ ∃ (l r m : Nat) (v : Option V), σ' = [some (.int l), some (.int r), some (.bl sp), some (.ref lv), some (.int ((l * r * m : Nat) : Int)), v, none, none, none] /\ l * m = L /\ r * m = R) ⟨rfl, L, R, 1, none, ?_, Nat.mul_one _, Nat.mul_one _⟩ ?_ ?_⟩
  ·show [some (V.int L), some (V.int R), some (V.bl sp), some (V.ref lv), some (V.int ((L : Int) * (R : Int))), none, none, none, none] = _
   rw [Nat.mul_one, Int.natCast_mul]
  ·rintro i σ' H' hi ⟨rfl, l, r, m, v, rfl, e1, e2⟩
   have hby : (0 : Int) < 2 + (i : Int) := by omega
   refine ⟨fun mm σ2 H2 => H2 = H' /\ ∃ (l r m : Nat), mm = l /\ σ2 = [some (.int l), some (.int r), some (.bl sp), some (.ref lv), some (.int ((l * r * m : Nat) : Int)), some (.int (2 + (i : Int))), none, none, none] /\ l * m = L /\ r * m = R, ⟨l, rfl, l, r, m, rfl, rfl, e1, e2⟩, ?_⟩
   rintro l σ2 H2 ⟨rfl, _, r, m, rfl, rfl, e1, e2⟩
   refine ⟨_, rfl, _, rfl, _, _, rfl, rfl, hby, rfl, _, rfl, ?_⟩
   refine ite2 (fun h1 => ?_) (fun h1 => iteF ⟨rfl, _, r, m, _, rfl, e1, e2⟩)
   refine ⟨_, rfl, _, rfl, _, _, rfl, rfl, hby, rfl, _, rfl, ?_⟩
   refine ite2 (fun h2 => ?_) (fun h2 => ⟨rfl, _, r, m, _, rfl, e1, e2⟩)
   have d1 : (l : Int) % (2 + (i : Int)) = 0 := by have := of_decide_eq_true h1; injection this
   have d2 : (r : Int) % (2 + (i : Int)) = 0 := by have := of_decide_eq_true h2; injection this
   have c1 : ((2 + i : Nat) : Int) = 2 + (i : Int) := by omega
   rw [<- c1] at d1 d2
   obtain ⟨l', rfl⟩ : (2 + i) ∣ l := Nat.dvd_of_mod_eq_zero (by exact_mod_cast d1)
   obtain ⟨r', rfl⟩ : (2 + i) ∣ r := Nat.dvd_of_mod_eq_zero (by exact_mod_cast d2)
   have q1 : (((2 + i) * l' : Nat) : Int) / (2 + (i : Int)) = (l' : Int) := by
    rw [<- c1, <- Int.natCast_ediv, Nat.mul_div_cancel_left _ (by omega)]
   have q2 : (((2 + i) * r' : Nat) : Int) / (2 + (i : Int)) = (r' : Int) := by
    rw [<- c1, <- Int.natCast_ediv, Nat.mul_div_cancel_left _ (by omega)]
   have q3 : (((2 + i) * l' * ((2 + i) * r') * m : Nat) : Int) / (2 + (i : Int)) = ((l' * r' * ((2 + i) * m) : Nat) : Int) := by
    have e : (2 + i) * l' * ((2 + i) * r') * m = (2 + i) * (l' * r' * ((2 + i) * m)) := by
     simp only [Nat.mul_assoc, Nat.mul_left_comm, Nat.mul_comm]
    rw [<- c1, <- Int.natCast_ediv, e, Nat.mul_div_cancel_left _ (by omega)]
   have l0 : 0 < l' := by
    rcases Nat.eq_zero_or_pos l' with z | z
    ·subst z; simp at e1; omega
    ·exact z
   refine ⟨fun σ3 H3 => H3 = H2 /\ σ3 = [some (.int l'), some (.int r'), some (.bl sp), some (.ref lv), some (.int ((l' * r' * ((2 + i) * m) : Nat) : Int)), some (.int (2 + (i : Int))), none, none, none], ?_, ?_⟩
   ·rintro σ3 H3 ⟨rfl, rfl⟩
    refine ⟨l', ?_, rfl, l', r', (2 + i) * m, rfl, rfl, ?_, ?_⟩
    ·have : 2 * l' <= (2 + i) * l' := Nat.mul_le_mul_right _ (by omega)
     omega
    ·rw [<- e1, Nat.mul_comm (2 + i) l', Nat.mul_assoc]
    ·rw [<- e2, Nat.mul_comm (2 + i) r', Nat.mul_assoc]
   ·have hb100 : (2 + (i : Int)) <= 10 ^ 100 := Int.le_trans (show 2 + (i : Int) <= 9 by omega) (by decide)
    refine ⟨_, rfl, _, rfl, _, _, rfl, rfl, ⟨hby, hb100⟩, _, rfl, _, rfl, _, _, rfl, rfl, ⟨hby, hb100⟩, _, rfl, _, rfl, _, _, rfl, rfl, ⟨hby, hb100⟩, rfl, ?_⟩
    show [some (V.int (((2 + i) * l' : Nat) / (2 + (i : Int)))), some (V.int (((2 + i) * r' : Nat) / (2 + (i : Int)))), some (V.bl sp), some (V.ref lv), some (V.int (((2 + i) * l' * ((2 + i) * r') * m : Nat) / (2 + (i : Int)))), some (V.int (2 + (i : Int))), none, none, none] = _
    rw [q1, q2, q3]
  ·rintro σ' H' ⟨rfl, l, r, m, v, rfl, e1, e2⟩
   have l0 : 0 < l := by
    rcases Nat.eq_zero_or_pos l with z | z
    ·subst z; simp at e1; omega
    ·exact z
   have r0 : 0 < r := by
    rcases Nat.eq_zero_or_pos r with z | z
    ·subst z; simp at e2; omega
    ·exact z
   have m0 : 0 < m := by
    rcases Nat.eq_zero_or_pos m with z | z
    ·subst z; simp at e1; omega
    ·exact z
   have ll : l <= L := by rw [<- e1]; exact Nat.le_mul_of_pos_right _ m0
   have rl : r <= R := by rw [<- e2]; exact Nat.le_mul_of_pos_right _ m0
   have b100 : ∀ n : Nat, n <= 8 -> (n : Int) <= 10 ^ 100 := fun n hn => Int.le_trans (show (n : Int) <= 8 by omega) (by decide)
   have q1 : ((l * r * m : Nat) : Int) / (r : Int) = (L : Int) := by
    rw [<- Int.natCast_ediv, <- e1, show l * r * m = r * (l * m) by rw [Nat.mul_comm l r, Nat.mul_assoc], Nat.mul_div_cancel_left _ r0]
   have q2 : ((l * r * m : Nat) : Int) / (l : Int) = (R : Int) := by
    rw [<- Int.natCast_ediv, <- e2, Nat.mul_assoc, Nat.mul_div_cancel_left _ l0]
   have q3 : ((l * r * m : Nat) : Int) / (L : Int) = (r : Int) := by
    rw [<- Int.natCast_ediv, <- e1, show l * r * m = l * m * r by rw [Nat.mul_assoc, Nat.mul_comm r m, <- Nat.mul_assoc], Nat.mul_div_cancel_left _ (Nat.mul_pos l0 m0)]
   have q4 : ((l * r * m : Nat) : Int) / (R : Int) = (l : Int) := by
    rw [<- Int.natCast_ediv, <- e2, show l * r * m = r * m * l by rw [Nat.mul_comm l r, Nat.mul_assoc, Nat.mul_comm l m, <- Nat.mul_assoc], Nat.mul_div_cancel_left _ (Nat.mul_pos r0 m0)]
   have q5 : (L : Int) / (R : Int) = ((L / R : Nat) : Int) := (Int.natCast_ediv L R).symm
   have okD : (⟨L, R, r, l, sp, lev⟩ : LD).Ok := ⟨hb.1, hb.2.1, hb.2.2.1, hb.2.2.2, by show r <= 8; omega, by show l <= 8; omega, by show L * r = R * l; rw [<- e1, <- e2, Nat.mul_assoc, Nat.mul_comm m r, Nat.mul_comm l], hsp, hv, rl, ll⟩
   refine ⟨_, rfl, _, rfl, _, _, rfl, rfl, ⟨by omega, b100 r (by omega)⟩, _, rfl, _, rfl, _, _, rfl, rfl, ⟨by omega, b100 l (by omega)⟩, _, _, rfl, ?_⟩
   dsimp only
   rw [q1, q2]
   refine ⟨by show 0 <= sizeLine; decide, fun o1 ho1 => ⟨by show 0 <= sizeLine; decide, fun o2 ho2 => ?_⟩⟩
   have s2 := (Same.new (o := .lst []) ho1).trans (Same.new (o := .lst []) ho2)
   have g1 := Same.new (o := .lst []) ho2 _ _ (upd_same (H := H') (a := o1) (o := .lst []))
   have g2 := upd_same (H := upd H' o1 (.lst [])) (a := o2) (o := .lst [])
   have n12 : o1 ≠ o2 := ne_of_none (upd_same (H := H') (a := o1) (o := .lst [])) ho2
   have no2 : H' o2 = none := (Same.new (o := .lst []) ho1).free ho2
   generalize upd (upd H' o1 (.lst [])) o2 (.lst []) = H2 at s2 g1 g2
   refine ⟨_, rfl, lv, rfl, ⟨_, SqL.of (s2 _ _ hlv)⟩, for_list (xs := lev.map natV) (fun i σ' H3 => (∃ v w, σ' = [some (.int L), some (.int R), some (.bl sp), some (.ref lv), some (.int ((l * r * m : Nat) : Int)), v, some (.ref o1), some (.ref o2), w]) /\ Same H' H3 /\ ∃ xs ys, H3 o1 = some (.lst xs) /\ H3 o2 = some (.lst ys) /\ All2 (LstN [o1, o2]) H3 ((lev.take i).map (⟨L, R, r, l, sp, lev⟩ : LD).lrow) xs /\ All2 (LstN [o1, o2]) H3 ((lev.take i).map (⟨L, R, r, l, sp, lev⟩ : LD).rrow) ys) ⟨⟨_, _, rfl⟩, s2, [], [], g1, g2, .nil, .nil⟩ ?_ ?_ ?_⟩
   ·rintro i σ' H3 _ ⟨_, s3, _⟩
    exact SqL.of (s3 _ _ hlv)
   ·rintro i x σ' H3 hx ⟨⟨w1, w2, rfl⟩, s3, xs, ys, f1, f2, A1, A2⟩
    obtain ⟨v, hv', rfl⟩ := nat_at hx
    have hv2 : v <= 2 := hv v (List.mem_of_getElem? hv')
    have hi := (List.getElem?_eq_some_iff.mp hv').1
    have xl : xs.length < sizeLine := by
     rw [<- A1.length, List.length_map, List.length_take]
     exact Nat.lt_of_lt_of_le (show _ < 100 by omega) (by decide)
    have yl : ys.length < sizeLine := by
     rw [<- A2.length, List.length_map, List.length_take]
     exact Nat.lt_of_lt_of_le (show _ < 100 by omega) (by decide)
    have fin : ∀ (a b : Addr) (H5 : Hp), Keep [o1, o2] H3 H5 -> H5 o1 = some (.lst (xs ++ [.ref a])) -> H5 o2 = some (.lst (ys ++ [.ref b])) -> a ∉ [o1, o2] -> b ∉ [o1, o2] -> H5 a = some (.lst (((⟨L, R, r, l, sp, lev⟩ : LD).lrow v).map V.int)) -> H5 b = some (.lst (((⟨L, R, r, l, sp, lev⟩ : LD).rrow v).map V.int)) ->
      Same H' H5 /\ ∃ xs ys, H5 o1 = some (.lst xs) /\ H5 o2 = some (.lst ys) /\ All2 (LstN [o1, o2]) H5 ((lev.take (i + 1)).map (⟨L, R, r, l, sp, lev⟩ : LD).lrow) xs /\ All2 (LstN [o1, o2]) H5 ((lev.take (i + 1)).map (⟨L, R, r, l, sp, lev⟩ : LD).rrow) ys := fun a b H5 K5 e1 e2 na nb ea eb => by
     refine ⟨fun c o e => K5 _ _ (s3 _ _ e) (nin_two' ho1 no2 e), _, _, e1, e2, ?_, ?_⟩
     ·rw [List.take_succ, hv', List.map_append]
      exact (A1.mvN K5).snoc ⟨a, rfl, na, ea⟩
     ·rw [List.take_succ, hv', List.map_append]
      exact (A2.mvN K5).snoc ⟨b, rfl, nb, eb⟩
    refine ⟨_, rfl, sp, rfl, ?_⟩
    cases sp with
    | true =>
     refine iteT ⟨_, rfl, .inl ⟨rfl, _, SqL.of f1⟩, _, rfl, by show 1 <= sizeLine; decide, fun a1 ha1 => ⟨_, rfl, a1, (v : Int), [V.int (L : Int)], rfl, rfl, upd_same, by omega, by omega, ?_, fun a2 ha2 => ?_⟩⟩
     ·show 1 * (v : Int).toNat <= sizeLine
      exact Nat.le_trans (m := 2) (by omega) (by decide)
     rw [Int.toNat_natCast, rep_flat]
     have s4 := (Same.new (o := .lst [V.int (L : Int)]) ha1).trans (Same.new (o := .lst ((List.replicate v (L : Int)).map V.int)) ha2)
     have ga2 := upd_same (H := upd H3 a1 (.lst [V.int (L : Int)])) (a := a2) (o := .lst ((List.replicate v (L : Int)).map V.int))
     have na2 : a2 ∉ [o1, o2] := nin_two (Same.new ha1 _ _ f1) (Same.new ha1 _ _ f2) ha2
     generalize upd (upd H3 a1 (.lst [V.int (L : Int)])) a2 (.lst ((List.replicate v (L : Int)).map V.int)) = H4 at s4 ga2
     refine ⟨o1, _, _, rfl, rfl, s4 _ _ f1, xl, ?_⟩
     have K4 : Keep [o1, o2] H3 (upd H4 o1 (.lst (xs ++ [.ref a2]))) := s4.keep.trans (Keep.set (by simp))
     have e1 := upd_same (H := H4) (a := o1) (o := .lst (xs ++ [.ref a2]))
     have e2 : upd H4 o1 (.lst (xs ++ [.ref a2])) o2 = some (.lst ys) := by rw [upd_ne n12.symm]; exact s4 _ _ f2
     have ea : upd H4 o1 (.lst (xs ++ [.ref a2])) a2 = some (.lst ((List.replicate v (L : Int)).map V.int)) := by rw [upd_ne (fun z => na2 (by simp [z]))]; exact ga2
     generalize upd H4 o1 (.lst (xs ++ [.ref a2])) = H5 at K4 e1 e2 ea
     have dv : (0 : Int) < (R : Int) /\ (R : Int) <= 10 ^ 100 := ⟨by omega, b100 R (by omega)⟩
     have hq8 : L / R <= 8 := Nat.le_trans (Nat.div_le_self _ _) hb.2.1
     refine ⟨_, rfl, .inl ⟨rfl, _, SqL.of e2⟩, _, rfl, by show 1 <= sizeLine; decide, fun b1 hb1 => ⟨_, rfl, by show 1 <= sizeLine; decide, fun b2 hb2 => ⟨_, rfl, _, rfl, _, _, rfl, rfl, dv, ?_⟩⟩⟩
     dsimp only
     rw [q5]
     have hqI : ((L / R : Nat) : Int) <= 8 := by exact_mod_cast hq8
     refine ⟨b2, ((L / R : Nat) : Int), [V.int (R : Int)], rfl, rfl, upd_same, Int.le_trans (by decide) (Int.natCast_nonneg _), Int.lt_of_le_of_lt hqI (by decide), ?_, fun b3 hb3 => ?_⟩
     ·show 1 * ((L / R : Nat) : Int).toNat <= sizeLine
      exact Nat.le_trans (m := 8) (by omega) (by decide)
     rw [Int.toNat_natCast, rep_flat]
     have sb := (Same.new (o := .lst [V.int (R : Int)]) hb2).trans (Same.new (o := .lst ((List.replicate (L / R) (R : Int)).map V.int)) hb3)
     refine ⟨b1, b3, _, _, rfl, rfl, sb _ _ upd_same, upd_same, ?_, fun b4 hb4 => ?_⟩
     ·rw [List.length_map, List.length_replicate]
      show 1 + L / R <= sizeLine
      exact Nat.le_trans (m := 9) (by omega) (by decide)
     have sc := (Same.new (o := .lst [V.int (L : Int)]) hb1).trans (sb.trans (Same.new (o := .lst ([V.int (L : Int)] ++ (List.replicate (L / R) (R : Int)).map V.int)) hb4))
     have g4 := upd_same (H := upd (upd (upd H5 b1 (.lst [V.int (L : Int)])) b2 (.lst [V.int (R : Int)])) b3 (.lst ((List.replicate (L / R) (R : Int)).map V.int))) (a := b4) (o := .lst ([V.int (L : Int)] ++ (List.replicate (L / R) (R : Int)).map V.int))
     generalize upd (upd (upd (upd H5 b1 (.lst [V.int (L : Int)])) b2 (.lst [V.int (R : Int)])) b3 (.lst ((List.replicate (L / R) (R : Int)).map V.int))) b4 (.lst ([V.int (L : Int)] ++ (List.replicate (L / R) (R : Int)).map V.int)) = H6 at sc g4
     dsimp only [tNoPart, tNil]
     refine ⟨_, rfl, _, rfl, _, _, rfl, rfl, dv, _, _, rfl, rfl, by show 3 <= sizeLine; decide, fun b5 hb5 => ?_⟩
     dsimp only
     rw [q5]
     have em : atI [V.int 0, V.int 1, V.int (1 + ((L / R : Nat) : Int))] (v : Int) = some (.int (((⟨L, R, r, l, true, lev⟩ : LD).cut v : Nat) : Int)) := by
      match v, hv2 with
      | 0, _ => rfl
      | 1, _ => rfl
      | 2, _ =>
       show some (V.int (1 + ((L / R : Nat) : Int))) = some (V.int ((1 + L / R : Nat) : Int))
       rw [Int.natCast_add]
       rfl
     refine ⟨_, rfl, b5, _, v, _, rfl, rfl, SqL.of upd_same, em, _, rfl, b4, _, rfl, SqL.of (Same.new hb5 _ _ g4), fun b6 hb6 => ?_⟩
     rw [cut_take]
     have er : ([V.int (L : Int)] ++ (List.replicate (L / R) (R : Int)).map V.int).take ((⟨L, R, r, l, true, lev⟩ : LD).cut v) = ((⟨L, R, r, l, true, lev⟩ : LD).rrow v).map V.int := by
      unfold LD.rrow
      rw [if_pos rfl, List.map_take]
      rfl
     rw [er]
     have sd := sc.trans ((Same.new (o := .lst [V.int 0, V.int 1, V.int (1 + ((L / R : Nat) : Int))]) hb5).trans (Same.new (o := .lst (((⟨L, R, r, l, true, lev⟩ : LD).rrow v).map V.int)) hb6))
     have g6 := upd_same (H := upd H6 b5 (.lst [V.int 0, V.int 1, V.int (1 + ((L / R : Nat) : Int))])) (a := b6) (o := .lst (((⟨L, R, r, l, true, lev⟩ : LD).rrow v).map V.int))
     have n6 : b6 ∉ [o1, o2] := nin_two (Same.new hb5 _ _ (sc _ _ e1)) (Same.new hb5 _ _ (sc _ _ e2)) hb6
     generalize upd (upd H6 b5 (.lst [V.int 0, V.int 1, V.int (1 + ((L / R : Nat) : Int))])) b6 (.lst (((⟨L, R, r, l, true, lev⟩ : LD).rrow v).map V.int)) = H7 at sd g6
     refine ⟨o2, _, _, rfl, rfl, sd _ _ e2, yl, ⟨_, _, rfl⟩, fin a2 b6 _ (K4.trans (sd.keep.trans (Keep.set (by simp)))) (by rw [upd_ne n12]; exact sd _ _ e1) upd_same na2 n6 ?_ ?_⟩
     ·rw [upd_ne (fun z => na2 (by simp [z]))]
      exact sd _ _ ea
     ·rw [upd_ne (fun z => n6 (by simp [z]))]
      exact g6
    | false =>
     have dL : (0 : Int) < (L : Int) /\ (L : Int) <= 10 ^ 100 := ⟨by omega, b100 L (by omega)⟩
     have dR : (0 : Int) < (R : Int) /\ (R : Int) <= 10 ^ 100 := ⟨by omega, b100 R (by omega)⟩
     refine iteF ⟨_, rfl, .inl ⟨rfl, _, SqL.of f1⟩, _, rfl, by show 1 <= sizeLine; decide, fun a1 ha1 => ⟨_, rfl, _, rfl, _, rfl, _, _, rfl, rfl, dL, ?_⟩⟩
     dsimp only
     rw [q3]
     refine ⟨_, _, rfl, rfl, .inl ⟨by omega, by omega⟩, ?_⟩
     dsimp only
     rw [<- Int.natCast_mul]
     have vr : v * r <= 16 := Nat.mul_le_mul hv2 (show r <= 8 by omega)
     have vl : v * l <= 16 := Nat.mul_le_mul hv2 (show l <= 8 by omega)
     refine ⟨a1, ((v * r : Nat) : Int), [V.int (L : Int)], rfl, rfl, upd_same, by omega, by omega, ?_, fun a2 ha2 => ?_⟩
     ·show 1 * ((v * r : Nat) : Int).toNat <= sizeLine
      exact Nat.le_trans (m := 16) (by omega) (by decide)
     rw [Int.toNat_natCast, rep_flat]
     have s4 := (Same.new (o := .lst [V.int (L : Int)]) ha1).trans (Same.new (o := .lst ((List.replicate (v * r) (L : Int)).map V.int)) ha2)
     have ga2 := upd_same (H := upd H3 a1 (.lst [V.int (L : Int)])) (a := a2) (o := .lst ((List.replicate (v * r) (L : Int)).map V.int))
     have na2 : a2 ∉ [o1, o2] := nin_two (Same.new ha1 _ _ f1) (Same.new ha1 _ _ f2) ha2
     generalize upd (upd H3 a1 (.lst [V.int (L : Int)])) a2 (.lst ((List.replicate (v * r) (L : Int)).map V.int)) = H4 at s4 ga2
     refine ⟨o1, _, _, rfl, rfl, s4 _ _ f1, xl, ?_⟩
     have K4 : Keep [o1, o2] H3 (upd H4 o1 (.lst (xs ++ [.ref a2]))) := s4.keep.trans (Keep.set (by simp))
     have e1 := upd_same (H := H4) (a := o1) (o := .lst (xs ++ [.ref a2]))
     have e2 : upd H4 o1 (.lst (xs ++ [.ref a2])) o2 = some (.lst ys) := by rw [upd_ne n12.symm]; exact s4 _ _ f2
     have ea : upd H4 o1 (.lst (xs ++ [.ref a2])) a2 = some (.lst ((List.replicate (v * r) (L : Int)).map V.int)) := by rw [upd_ne (fun z => na2 (by simp [z]))]; exact ga2
     generalize upd H4 o1 (.lst (xs ++ [.ref a2])) = H5 at K4 e1 e2 ea
     refine ⟨_, rfl, .inl ⟨rfl, _, SqL.of e2⟩, _, rfl, by show 1 <= sizeLine; decide, fun b1 hb1 => ⟨_, rfl, _, rfl, _, rfl, _, _, rfl, rfl, dR, ?_⟩⟩
     dsimp only
     rw [q4]
     refine ⟨_, _, rfl, rfl, .inl ⟨by omega, by omega⟩, ?_⟩
     dsimp only
     rw [<- Int.natCast_mul]
     refine ⟨b1, ((v * l : Nat) : Int), [V.int (R : Int)], rfl, rfl, upd_same, by omega, by omega, ?_, fun b2 hb2 => ?_⟩
     ·show 1 * ((v * l : Nat) : Int).toNat <= sizeLine
      exact Nat.le_trans (m := 16) (by omega) (by decide)
     rw [Int.toNat_natCast, rep_flat]
     have sd := (Same.new (o := .lst [V.int (R : Int)]) hb1).trans (Same.new (o := .lst ((List.replicate (v * l) (R : Int)).map V.int)) hb2)
     have g6 := upd_same (H := upd H5 b1 (.lst [V.int (R : Int)])) (a := b2) (o := .lst ((List.replicate (v * l) (R : Int)).map V.int))
     have n6 : b2 ∉ [o1, o2] := nin_two (Same.new hb1 _ _ e1) (Same.new hb1 _ _ e2) hb2
     generalize upd (upd H5 b1 (.lst [V.int (R : Int)])) b2 (.lst ((List.replicate (v * l) (R : Int)).map V.int)) = H7 at sd g6
     refine ⟨o2, _, _, rfl, rfl, sd _ _ e2, yl, ⟨_, _, rfl⟩, fin a2 b2 _ (K4.trans (sd.keep.trans (Keep.set (by simp)))) (by rw [upd_ne n12]; exact sd _ _ e1) upd_same na2 n6 ?_ ?_⟩
     ·rw [upd_ne (fun z => na2 (by simp [z]))]
      exact sd _ _ ea
     ·rw [upd_ne (fun z => n6 (by simp [z]))]
      exact g6
   ·rintro σ' H3 ⟨⟨w1, w2, rfl⟩, s3, xs, ys, f1, f2, A1, A2⟩
    rw [List.length_map, List.take_length] at A1 A2
    refine ⟨_, rfl, _, rfl, by show 2 <= sizeLine; decide, fun p hp => ?_⟩
    have s4 := Same.new (o := .tup [V.ref o1, V.ref o2]) hp
    exact k p o1 o2 xs ys r l _ upd_same (s4 _ _ f1) (s4 _ _ f2) okD (A1.toL.mvI s4) (A2.toL.mvI s4) (s3.trans s4)
def n__law_rule : List Str := ["_law_rows"]
theorem sc__law_rule : FnScope n__law_rule ["_law_rows"] (defScope s__law_rule) := ⟨rfl, rfl, rfl, by decide +kernel, rfl, by decide +kernel, by decide +kernel⟩
def sp_rule : Sp := fun vs H Q _ => ∃ (a : Addr) (xs : List V) (rows : List (List Int)), vs = [.ref a] /\ H a = some (.lst xs) /\ All2 Lst1 H rows xs /\ (∀ r ∈ rows, r.length < 64) /\ rows.length <= 60 /\
 ∀ (p : Addr) (rs : List V) (H' : Hp), H' p = some (.tup rs) -> All2 Tup1 H' (rows.map sortD) rs -> Same H H' -> Q (.ref p) H'
theorem ok__law_rule (T : Txt K mg A) : FnOk P w K mg base CX0 1 A.a__law_rule A.fd__law_rule ["_law_rows"] sp_rule := by
 refine T.F__law_rule.ok sc__law_rule (fun vs H Q E h => ?_) (fun cdv Ar outer s H vs Q E hr h => ?_)
 ·obtain ⟨a, xs, rows, rfl, ha, h2, hb, hl, k⟩ := h
  rfl
 ·obtain ⟨a, xs, rows, rfl, ha, h2, hb, hl, k⟩ := h
  refine ⟨_, (pss_one (ps_ret (pe_callTy call_tuple_of rfl T.b_tuple boot_tuple (pa_cons (pe_comp (ls := ["_law_row"]) (fr := []) (cs_of (defScope s__law_rule) n__law_rule rfl rfl (by decide +kernel)) rfl (pi_list (pv 0)) (fun _ _ _ _ => pgc 0 (by decide +kernel) rfl rfl) (fun _ _ _ _ => pf_nil) (fun _ _ _ _ => (pe_callTy (call_tuple_ofK K rfl) (glc (defScope s__law_rule)) T.b_tuple boot_tuple (pa_cons (pe_sortRK K rfl (glc (defScope s__law_rule)) T.b_sorted (pvc (defScope s__law_rule) 0)) pa_nil)))) pa_nil)))), ?_⟩
  have hlen := h2.length
  refine comp_map1L Tup1 (rows.map sortD) [] (by rw [List.length_map]; exact hlen) (Nat.le_trans (m := 60) (by omega) (by decide)) (fun _ _ _ _ s h => h.mv s.tups) rfl rfl ha (fun j x b H' P hx hb' s' hP => ?_) (fun zs H' p s' a2 hp => ?_)
  ·obtain ⟨row, hrow, q, rfl, hq⟩ := h2.get hx
   rw [List.getElem?_map, hrow] at hb'
   have hbl := hb row (List.mem_of_getElem? hrow)
   refine ⟨_, rfl, q, row, rfl, .inl (SqL.of (s' _ _ hq)), hbl, fun ns' l hperm hord hl0 => ⟨l, _, rfl, .inl ⟨SqL.of upd_same, fun t ht => ?_⟩⟩⟩
   refine hP _ _ ((Same.new hl0).trans (Same.new ht)) ⟨t, rfl, ?_⟩
   rw [upd_same, sortD_eq hperm hord, <- Option.some.inj hb']
  ·refine ⟨p, _, rfl, .inl ⟨SqL.of upd_same, fun t ht => ?_⟩⟩
   have sn := (Same.new (o := .lst zs) hp).trans (Same.new (o := .tup zs) ht)
   exact k t zs _ upd_same (a2.mv sn.tups) (s'.trans sn)
def n__law_matched : List Str := ["_law_state", "_law_top", "_law_many", "_law_ones", "_law_others", "_law_lefts", "_law_rights", "_law_lane_here", "_law_left", "_law_right", "_law_split", "_law_levels", "_law_mine", "_law_theirs"]
theorem sc__law_matched : FnScope n__law_matched ["_law_state", "_law_top"] (defScope s__law_matched) := ⟨rfl, rfl, rfl, by decide +kernel, rfl, by decide +kernel, by decide +kernel⟩
def sp_matched : Sp := fun vs H Q _ => ∃ (st ga ca : Addr) (N : Nat) (topp : Int), vs = [.ref st, .int topp] /\ StAt H st ga ca N /\ N <= 10 ^ 6 /\ 0 <= topp /\ topp <= 6 /\
 ∀ (p q1 q2 : Addr) (rs qs : List V) (one other : List (List Int)) (n : Nat) (H' : Hp), H' p = some (.tup [.ref q1, .ref q2]) -> H' q1 = some (.tup rs) -> All2 Tup1 H' one rs -> H' q2 = some (.tup qs) -> All2 Tup1 H' other qs -> Matched one other n -> (n : Int) <= topp -> StAt H' st ga ca (N + 1000) -> Keep [st, ga] H H' -> Q (.ref p) H'
structure MatI (H H' : Hp) (st ga ca : Addr) (M n i : Nat) (oa ta la ra : Addr) (xs ys : List V) (ds : List LD) : Prop where
 go : H' oa = some (.lst xs)
 gt : H' ta = some (.lst ys)
 ax : All2 (LstN [st, ga, la, ra]) H' ((List.range n).map (lefH ds)) xs
 ay : All2 (LstN [st, ga, la, ra]) H' ((List.range n).map (rigH ds)) ys
 gl : H' la = some (.lst ((ds.flatMap LD.lparts).map V.int))
 gr : H' ra = some (.lst ((ds.flatMap LD.rparts).map V.int))
 ld : LDi ds n i
 no : oa ∉ [st, ga, la, ra]
 nt : ta ∉ [st, ga, la, ra]
 sa : StAt H' st ga ca M
 kp : Keep [st, ga] H H'
theorem nin42 {st ga la ra q : Addr} (h : q ∉ [st, ga, la, ra]) : q ∉ [st, ga] := fun z => h (by
 simp only [List.mem_cons, List.not_mem_nil, or_false] at z ⊢
 rcases z with z | z
 ·exact .inl z
 ·exact .inr (.inl z))
theorem wide4 {st ga la ra : Addr} {H H' : Hp} (k : Keep [st, ga] H H') : Keep [st, ga, la, ra] H H' := k.wide fun a ha => by
 simp only [List.mem_cons, List.not_mem_nil, or_false] at ha ⊢
 rcases ha with z | z
 ·exact .inl z
 ·exact .inr (.inl z)
theorem MatI.drawn {H H' H2 : Hp} {st ga ca : Addr} {M M2 n i : Nat} {oa ta la ra : Addr} {xs ys : List V} {ds : List LD} (m : MatI H H' st ga ca M n i oa ta la ra xs ys ds) (hl : la ∉ [st, ga, ca]) (hr : ra ∉ [st, ga, ca]) (S : StAt H2 st ga ca M2) (K : Keep [st, ga] H' H2) : MatI H H2 st ga ca M2 n i oa ta la ra xs ys ds :=
 ⟨K.at m.go (nin42 m.no), K.at m.gt (nin42 m.nt), m.ax.mvN (wide4 K), m.ay.mvN (wide4 K), K.at m.gl (nin2 hl), K.at m.gr (nin2 hr), m.ld, m.no, m.nt, S, m.kp.trans K⟩
theorem MatI.same {H H' H2 : Hp} {st ga ca : Addr} {M n i : Nat} {oa ta la ra : Addr} {xs ys : List V} {ds : List LD} (m : MatI H H' st ga ca M n i oa ta la ra xs ys ds) (s : Same H' H2) : MatI H H2 st ga ca M n i oa ta la ra xs ys ds :=
 ⟨s _ _ m.go, s _ _ m.gt, m.ax.mvN s.keep, m.ay.mvN s.keep, s _ _ m.gl, s _ _ m.gr, m.ld, m.no, m.nt, m.sa.same s, m.kp.trans s.keep⟩
theorem MatI.mono {H H' : Hp} {st ga ca : Addr} {M M' n i i' : Nat} {oa ta la ra : Addr} {xs ys : List V} {ds : List LD} (m : MatI H H' st ga ca M n i oa ta la ra xs ys ds) (h : M <= M') (hi : i <= i') : MatI H H' st ga ca M' n i' oa ta la ra xs ys ds :=
 ⟨m.go, m.gt, m.ax, m.ay, m.gl, m.gr, m.ld.mono hi, m.no, m.nt, m.sa.mono h, m.kp⟩
theorem ok__law_matched (T : Txt K mg A) : FnOk P w K mg base CX0 5 A.a__law_matched A.fd__law_matched ["_law_state", "_law_top"] sp_matched := by
 refine T.F__law_matched.ok sc__law_matched (fun vs H Q E h => ?_) (fun cdv Ar outer s H vs Q E hr h => ?_)
 ·obtain ⟨st, ga, ca, N, topp, rfl, S, hN, t0, t1, k⟩ := h
  rfl
 ·obtain ⟨st, ga, ca, N, topp, rfl, S, hN, t0, t1, k⟩ := h
  refine ⟨_, (pss_cons (ps_set (i := 2) sc__law_matched.nd rfl (by first | exact Or.inl rfl | exact Or.inr rfl) (pe_call (ok__law_draw T) (hr.mono (by decide)) rfl T.g__law_draw T.F__law_draw.kp T.b__law_draw .nil pass0 (pa_cons (pv 0 (hv := Or.inr (Or.inl rfl))) (pa_cons (pe_op op_add (pv 1) pe_int) pa_nil))))
    (pss_cons (ps_comp (i := 3) (ls := ["_law_k"]) (fr := []) (cs_of (defScope s__law_matched) n__law_matched rfl rfl (by decide +kernel)) rfl (pi_range1 rfl T.b_range (pa_cons (pv 2) pa_nil)) (fun _ _ _ _ => pgc 0 (by decide +kernel) rfl rfl) (fun _ _ _ _ => pf_nil) (fun _ _ _ _ => (pe_lst pa_nil)) sc__law_matched.nd rfl rfl rfl)
    (pss_cons (ps_comp (i := 4) (ls := ["_law_k"]) (fr := []) (cs_of (defScope s__law_matched) n__law_matched rfl rfl (by decide +kernel)) rfl (pi_range1 rfl T.b_range (pa_cons (pv 2) pa_nil)) (fun _ _ _ _ => pgc 0 (by decide +kernel) rfl rfl) (fun _ _ _ _ => pf_nil) (fun _ _ _ _ => (pe_lst pa_nil)) sc__law_matched.nd rfl rfl rfl)
    (pss_cons (ps_set (i := 5) sc__law_matched.nd rfl (by first | exact Or.inl rfl | exact Or.inr rfl) (pe_lst pa_nil))
    (pss_cons (ps_set (i := 6) sc__law_matched.nd rfl (by first | exact Or.inl rfl | exact Or.inr rfl) (pe_lst pa_nil))
    (pss_cons (ps_for PassesOwn.never rfl (pi_range1 rfl T.b_range (pa_cons (pe_op op_add pe_int (pe_call (ok__law_draw T) (hr.mono (by decide)) rfl T.g__law_draw T.F__law_draw.kp T.b__law_draw .nil pass0 (pa_cons (pv 0 (hv := Or.inr (Or.inl rfl))) (pa_cons pe_int pa_nil)))) pa_nil)) (pg_name (i := 7) sc__law_matched.nd rfl (by first | exact Or.inl rfl | exact Or.inr rfl))
     (pss_cons (ps_set (i := 8) sc__law_matched.nd rfl (by first | exact Or.inl rfl | exact Or.inr rfl) (pe_op op_add pe_int (pe_call (ok__law_draw T) (hr.mono (by decide)) rfl T.g__law_draw T.F__law_draw.kp T.b__law_draw .nil pass0 (pa_cons (pv 0 (hv := Or.inr (Or.inl rfl))) (pa_cons pe_int pa_nil)))))
    (pss_cons (ps_set (i := 9) sc__law_matched.nd rfl (by first | exact Or.inl rfl | exact Or.inr rfl) (pe_op op_add pe_int (pe_call (ok__law_draw T) (hr.mono (by decide)) rfl T.g__law_draw T.F__law_draw.kp T.b__law_draw .nil pass0 (pa_cons (pv 0 (hv := Or.inr (Or.inl rfl))) (pa_cons pe_int pa_nil)))))
    (pss_cons (ps_set (i := 10) sc__law_matched.nd rfl (by first | exact Or.inl rfl | exact Or.inr rfl) (pe_and (pe_cmpR op_eq (pe_call (ok__law_draw T) (hr.mono (by decide)) rfl T.g__law_draw T.F__law_draw.kp T.b__law_draw .nil pass0 (pa_cons (pv 0 (hv := Or.inr (Or.inl rfl))) (pa_cons pe_int pa_nil))) pe_int (nomark _)) (pe_and (pe_cmpR op_eq (pe_op op_mod (pv 8) (pv 9)) pe_int (nomark _)) (pe_and (pe_cmpR op_gt (pv 8) (pv 9) (nomark _)) (pe_one (pe_cmpR op_notIn_seq (pv 8) (pv 6) rfl))))))
    (pss_cons (ps_comp (i := 11) (ls := ["_law_k"]) (fr := [("_law_state", 0)]) (cs_of (defScope s__law_matched) n__law_matched rfl rfl (by decide +kernel)) rfl (pi_range1 rfl T.b_range (pa_cons (pv 2) pa_nil)) (fun _ _ _ _ => pgc 0 (by decide +kernel) rfl rfl) (fun _ _ _ _ => pf_nil) (fun _ _ _ _ => (pe_call (ok__law_draw T) (hr.mono (by decide)) (glc (defScope s__law_matched)) T.g__law_draw T.F__law_draw.kp T.b__law_draw .nil pass0 (pa_cons (pvc (defScope s__law_matched) 1) (pa_cons pe_int pa_nil)))) sc__law_matched.nd rfl rfl rfl)
    (pss_one (ps_if (PW.pt (pw_and (pt_cmpR op_notIn_seq (pv 8) (pv 5) rfl) (pw_and1 (pt_cmpR op_notIn_seq (pv 9) (pv 6) rfl))))
     (pss_cons (ps_expr (pe_bm PySem.F.plainAttrs_list PySem.F.slot_list_append PySem.F.type_list_append mt_append (pv 5) (pa_cons (pv 8) pa_nil)))
    (pss_cons (ps_expr (pe_bm PySem.F.plainAttrs_list PySem.F.slot_list_append PySem.F.type_list_append mt_append (pv 6) (pa_cons (pv 9) pa_nil)))
    (pss_cons (ps_if (pt_truth (pv 10) (fun _ => rfl))
     (pss_one (ps_expr (pe_bm PySem.F.plainAttrs_list PySem.F.slot_list_append PySem.F.type_list_append mt_append (pv 6) (pa_cons (pv 8) pa_nil)))) pss_nil)
    (pss_cons (ps_asg (pe_call (ok__law_lane T) (hr.mono (by decide)) rfl T.g__law_lane T.F__law_lane.kp T.b__law_lane .nil pass0 (pa_cons (pv 8) (pa_cons (pv 9) (pa_cons (pv 10) (pa_cons (pv 11) pa_nil))))) (pg_tup rfl (pgs_cons (pg_name (i := 12) sc__law_matched.nd rfl (by first | exact Or.inl rfl | exact Or.inr rfl)) (pgs_cons (pg_name (i := 13) sc__law_matched.nd rfl (by first | exact Or.inl rfl | exact Or.inr rfl)) pgs_nil))))
    (pss_cons (ps_comp (i := 3) (ls := ["_law_heap_here", "_law_more"]) (fr := []) (cs_of (defScope s__law_matched) n__law_matched rfl rfl (by decide +kernel)) rfl (pi_zip false false rfl T.b_zip (pa_cons (pv 3) (pa_cons (pv 12) pa_nil))) (fun _ _ _ _ => pg_tupC 2 rfl (pgs_cons (pgc (ls := ["_law_heap_here", "_law_more"]) (fr := []) 0 (by decide +kernel) rfl rfl) (pgs_cons (pgc (ls := ["_law_heap_here", "_law_more"]) (fr := []) 1 (by decide +kernel) rfl rfl) pgs_nil)) rfl rfl) (fun _ _ _ _ => pf_nil) (fun _ _ _ _ => (pe_op op_cat (pvc (defScope s__law_matched) 0) (pvc (defScope s__law_matched) 1))) sc__law_matched.nd rfl rfl rfl)
    (pss_one (ps_comp (i := 4) (ls := ["_law_heap_here", "_law_more"]) (fr := []) (cs_of (defScope s__law_matched) n__law_matched rfl rfl (by decide +kernel)) rfl (pi_zip false false rfl T.b_zip (pa_cons (pv 4) (pa_cons (pv 13) pa_nil))) (fun _ _ _ _ => pg_tupC 2 rfl (pgs_cons (pgc (ls := ["_law_heap_here", "_law_more"]) (fr := []) 0 (by decide +kernel) rfl rfl) (pgs_cons (pgc (ls := ["_law_heap_here", "_law_more"]) (fr := []) 1 (by decide +kernel) rfl rfl) pgs_nil)) rfl rfl) (fun _ _ _ _ => pf_nil) (fun _ _ _ _ => (pe_op op_cat (pvc (defScope s__law_matched) 0) (pvc (defScope s__law_matched) 1))) sc__law_matched.nd rfl rfl rfl))))))) pss_nil)))))))
    (pss_cons (ps_if (pt_cmpR op_eq (pe_call (ok__law_draw T) (hr.mono (by decide)) rfl T.g__law_draw T.F__law_draw.kp T.b__law_draw .nil pass0 (pa_cons (pv 0 (hv := Or.inr (Or.inl rfl))) (pa_cons pe_int pa_nil))) pe_int (nomark _))
     (pss_one (ps_par (i := 3) (j := 4) rfl sc__law_matched.nd rfl rfl (by decide) rfl rfl (pa_cons (pv 4) (pa_cons (pv 3) pa_nil)) rfl)) pss_nil)
    (pss_one (ps_ret (pe_tup (pa_cons (pe_call (ok__law_rule T) (hr.mono (by decide)) rfl T.g__law_rule T.F__law_rule.kp T.b__law_rule .nil pass0 (pa_cons (pv 3) pa_nil)) (pa_cons (pe_call (ok__law_rule T) (hr.mono (by decide)) rfl T.g__law_rule T.F__law_rule.kp T.b__law_rule .nil pass0 (pa_cons (pv 4) pa_nil)) pa_nil)))))))))))), ?_⟩
  refine ⟨_, rfl, _, rfl, _, _, rfl, rfl, st, ga, ca, N, topp + 1, rfl, S, by omega, by omega, Int.le_trans (show topp + 1 <= 7 by omega) (by decide), fun many H1 m0 m1 S1 K1 => ?_⟩
  obtain ⟨n, rfl⟩ : ∃ n : Nat, many = (n : Int) := ⟨many.toNat, by omega⟩
  have n6 : n <= 6 := by omega
  have mk : ∀ (Ha : Hp) (ys : List V) (i : Nat) (q : Addr), Same H1 Ha -> All2 (LstF H1) Ha (List.replicate i []) ys -> Ha q = none -> All2 (LstF H1) (upd Ha q (.lst [])) (List.replicate (i + 1) []) (ys ++ [.ref q]) := fun Ha ys i q s a hq => by
   rw [List.replicate_succ']
   exact (a.mvF (Same.new hq)).snoc ⟨q, rfl, s.free hq, upd_same⟩
  refine ⟨_, rfl, _, rfl, by omega, by omega, comp_range (fun i ys σ' H' => Same H1 H' /\ (∃ v, σ' = [v]) /\ All2 (LstF H1) H' (List.replicate i []) ys /\ i <= n) ⟨Same.refl _, ⟨_, rfl⟩, .nil, Nat.zero_le _⟩ ?_ ?_ ?_⟩
  ·rintro i ys σ' H' hi ⟨_, _, a2, _⟩
   rw [<- a2.length, List.length_replicate]
   exact small64 (by omega)
  ·rintro i ys σ' H' hi ⟨s, ⟨v, rfl⟩, a2, _⟩
   exact ⟨by show 0 <= sizeLine; decide, fun q hq => ⟨s.trans (Same.new hq), ⟨_, rfl⟩, mk _ _ _ _ s a2 hq, by omega⟩⟩
  rintro xs σ' H2 ⟨s2, _, ax, _⟩ oa hoa
  rw [Int.toNat_natCast] at ax
  have s3 := s2.trans (Same.new (o := .lst xs) hoa)
  have goa := upd_same (H := H2) (a := oa) (o := .lst xs)
  have ax3 := ax.mvF (Same.new (o := .lst xs) hoa)
  generalize upd H2 oa (.lst xs) = H3 at s3 goa ax3
  refine ⟨_, rfl, _, rfl, by omega, by omega, comp_range (fun i ys σ' H' => Same H3 H' /\ (∃ v, σ' = [v]) /\ All2 (LstF H1) H' (List.replicate i []) ys /\ i <= n) ⟨Same.refl _, ⟨_, rfl⟩, .nil, Nat.zero_le _⟩ ?_ ?_ ?_⟩
  ·rintro i ys σ' H' hi ⟨_, _, a2, _⟩
   rw [<- a2.length, List.length_replicate]
   exact small64 (by omega)
  ·rintro i ys σ' H' hi ⟨s, ⟨v, rfl⟩, a2, _⟩
   exact ⟨by show 0 <= sizeLine; decide, fun q hq => ⟨s.trans (Same.new hq), ⟨_, rfl⟩, mk _ _ _ _ (s3.trans s) a2 hq, by omega⟩⟩
  rintro ys σ' H4 ⟨s4, _, ay, _⟩ ta hta
  rw [Int.toNat_natCast] at ay
  have s5 := s4.trans (Same.new (o := .lst ys) hta)
  have gta := upd_same (H := H4) (a := ta) (o := .lst ys)
  have ay5 := ay.mvF (Same.new (o := .lst ys) hta)
  generalize upd H4 ta (.lst ys) = H5 at s5 gta ay5
  have goa5 := s5 _ _ goa
  have ax5 := ax3.mvF s5
  refine ⟨by show 0 <= sizeLine; decide, fun la hla => ⟨by show 0 <= sizeLine; decide, fun ra hra => ?_⟩⟩
  have s6 := (Same.new (o := .lst []) hla).trans (Same.new (o := .lst []) hra)
  have gla := Same.new (o := .lst []) hra _ _ (upd_same (H := H5) (a := la) (o := .lst []))
  have gra := upd_same (H := upd H5 la (.lst [])) (a := ra) (o := .lst [])
  have nra : H5 ra = none := (Same.new (o := .lst []) hla).free hra
  have nlr : la ≠ ra := ne_of_none (upd_same (H := H5) (a := la) (o := .lst [])) hra
  generalize upd (upd H5 la (.lst [])) ra (.lst []) = H6 at s6 gla gra
  have s15 := s3.trans s5
  have S6 := S1.same (s15.trans s6)
  have nin4 : ∀ (q : Addr) (o : HO), H5 q = some o -> H1 q = none -> q ∉ [st, ga, la, ra] := fun q o e hn z => by
   have h2 := S1.nin hn
   simp only [List.mem_cons, List.not_mem_nil, or_false] at z h2
   rcases z with rfl | rfl | rfl | rfl
   ·exact h2 (.inl rfl)
   ·exact h2 (.inr rfl)
   ·rw [hla] at e; cases e
   ·rw [nra] at e; cases e
  have ax6 := (ax5.toN nin4).mvN (Same.keep s6)
  have ay6 := (ay5.toN nin4).mvN (Same.keep s6)
  have noa := nin4 oa _ goa5 (s2.free hoa)
  have nta := nin4 ta _ gta ((s3.trans s4).free hta)
  have ela0 : H la = none := K1.free (s15.free hla) (S1.nin (s15.free hla))
  have era : H ra = none := K1.free (s15.free nra) (S1.nin (s15.free nra))
  have nla : la ∉ [st, ga, ca] := S1.nin3 (s15.free hla)
  have nra3 : ra ∉ [st, ga, ca] := S1.nin3 (s15.free nra)
  rw [<- (nil_rows n).1] at ax6
  rw [<- (nil_rows n).2] at ay6
  have M0 : MatI H H6 st ga ca (N + 7) n 0 oa ta la ra xs ys [] := ⟨s6 _ _ goa5, s6 _ _ gta, ax6, ay6, gla, gra, LDi.nil n, noa, nta, S6.mono (by omega), K1.trans (s15.trans s6).keep⟩
  clear ax ax3 ax5 ay ay5 ax6 ay6
  refine ⟨_, rfl, st, ga, ca, _, 4, rfl, M0.sa, by omega, by decide, by decide, fun lanes H7 l0 l1 S7 K7 => ⟨_, _, rfl, rfl, _, rfl, by omega, by omega, ?_⟩⟩
  have M7 := M0.drawn nla nra3 S7 K7
  refine for_range (fun i σ' H' => ∃ (oa ta : Addr) (xs ys : List V) (ds : List LD) (v7 v8 v9 v10 v11 v12 v13 : Option V), σ' = [some (.ref st), some (.int topp), some (.int (n : Int)), some (.ref oa), some (.ref ta), some (.ref la), some (.ref ra), v7, v8, v9, v10, v11, v12, v13] /\ MatI H H' st ga ca (N + 14 + 63 * i) n i oa ta la ra xs ys ds) ⟨oa, ta, xs, ys, [], none, none, none, none, none, none, none, rfl, M7⟩ ?_ ?_
  ·clear M0 M7 goa goa5 gta gla gra noa nta
   rintro i σ' H' hi ⟨oa, ta, xs, ys, ds, v7, v8, v9, v10, v11, v12, v13, rfl, M⟩
   have i4 : i + 1 <= 4 := by omega
   refine ⟨_, rfl, st, ga, ca, _, 8, rfl, M.sa, by omega, by decide, by decide, fun a1 HA a10 a11 SA KA => ⟨_, _, rfl, rfl, ?_⟩⟩
   have MA := M.drawn nla nra3 SA KA
   obtain ⟨L, eL⟩ : ∃ L : Nat, 1 + a1 = (L : Int) := ⟨(1 + a1).toNat, by omega⟩
   dsimp only
   rw [eL]
   refine ⟨_, rfl, st, ga, ca, _, 8, rfl, MA.sa, by omega, by decide, by decide, fun a2 HB a20 a21 SB KB => ⟨_, _, rfl, rfl, ?_⟩⟩
   have MB := MA.drawn nla nra3 SB KB
   obtain ⟨R, eR⟩ : ∃ R : Nat, 1 + a2 = (R : Int) := ⟨(1 + a2).toNat, by omega⟩
   dsimp only
   rw [eR]
   have hb : 1 <= L /\ L <= 8 /\ 1 <= R /\ R <= 8 := by omega
   refine seqJoin (fun σ' H' => ∃ b : Bool, σ' = [some (.ref st), some (.int topp), some (.int (n : Int)), some (.ref oa), some (.ref ta), some (.ref la), some (.ref ra), some (.int (0 + (i : Int))), some (.int (L : Int)), some (.int (R : Int)), some (.bl b), v11, v12, v13] /\ (b = true -> (L % R = 0 /\ R < L) /\ (L : Int) ∉ ds.flatMap LD.rparts) /\ MatI H H' st ga ca (N + 14 + 63 * i + 21) n i oa ta la ra xs ys ds) (fun nx hnx => ?_) ?_
   ·refine ⟨_, rfl, st, ga, ca, _, 3, rfl, MB.sa, by omega, by decide, by decide, fun a3 HC a30 a31 SC KC => ⟨rfl, ?_⟩⟩
    have MC := (MB.drawn nla nra3 SC KC).mono (M' := N + 14 + 63 * i + 21) (by omega) (Nat.le_refl _)
    refine ⟨_, rfl, ite2 (fun h1 => ?_) (fun h1 => hnx _ _ ⟨_, rfl, (fun z => by cases z), MC⟩)⟩
    refine ⟨_, rfl, _, rfl, _, _, rfl, rfl, by omega, rfl, _, rfl, ite2 (fun h2 => ?_) (fun h2 => hnx _ _ ⟨_, rfl, (fun z => by cases z), MC⟩)⟩
    refine ⟨_, rfl, _, rfl, _, _, rfl, rfl, _, rfl, ite2 (fun h3 => ?_) (fun h3 => hnx _ _ ⟨_, rfl, (fun z => by cases z), MC⟩)⟩
    refine ⟨_, rfl, _, rfl, ra, _, rfl, .inl (SqL.of MC.gr), rfl, flat_ints _, ?_⟩
    rw [if_pos rfl, inV_ints]
    have d2 : (L : Int) % (R : Int) = 0 := by have := of_decide_eq_true h2; injection this
    have d3 : (R : Int) < (L : Int) := of_decide_eq_true h3
    exact hnx _ _ ⟨_, rfl, fun z => ⟨⟨by exact_mod_cast d2, by omega⟩, by simpa using z⟩, MC⟩
   ·rintro σ1 HC ⟨sp, rfl, hsp, MC⟩
    refine ⟨_, rfl, _, rfl, by omega, by omega, comp_range (fun j zs σ' H' => (∃ v, σ' = [v, some (.ref st)]) /\ ∃ lev : List Nat, zs = lev.map natV /\ lev.length = j /\ (∀ v ∈ lev, v <= 2) /\ MatI H H' st ga ca (N + 14 + 63 * i + 21 + 7 * j) n i oa ta la ra xs ys ds) ⟨⟨_, rfl⟩, [], rfl, rfl, (fun _ h => by cases h), MC⟩ ?_ ?_ ?_⟩
    ·rintro j zs σ' H' hj ⟨_, lev, rfl, hl, _⟩
     rw [List.length_map, hl]
     exact small64 (by omega)
    ·rintro j zs σ' H' hj ⟨⟨v, rfl⟩, lev, rfl, hl, hv, M'⟩
     refine ⟨_, rfl, st, ga, ca, _, 3, rfl, M'.sa, by omega, by decide, by decide, fun a4 HD a40 a41 SD KD => ⟨⟨_, rfl⟩, lev ++ [a4.toNat], ?_, by simp [hl], fun v hv' => ?_, (M'.drawn nla nra3 SD KD).mono (by omega) (Nat.le_refl _)⟩⟩
     ·rw [List.map_append]
      show _ = _ ++ [V.int (a4.toNat : Int)]
      rw [Int.toNat_of_nonneg a40]
     ·rcases List.mem_append.mp hv' with h | h
      ·exact hv v h
      ·rw [List.mem_singleton.mp h]
       omega
    rintro zs σ' HD0 ⟨_, lev, rfl, hl, hv, MD0⟩ lv hlv
    rw [Int.toNat_natCast] at hl
    have MD := (MD0.same (Same.new (o := .lst (lev.map natV)) hlv)).mono (M' := N + 14 + 63 * (i + 1)) (by rw [Int.toNat_natCast]; omega) (Nat.le_refl _)
    have glv := upd_same (H := HD0) (a := lv) (o := .lst (lev.map natV))
    have nlv : lv ≠ la /\ lv ≠ ra := ⟨(fun z => by rw [z, MD0.gl] at hlv; cases hlv), (fun z => by rw [z, MD0.gr] at hlv; cases hlv)⟩
    generalize upd HD0 lv (.lst (lev.map natV)) = HD at MD glv
    have skip : ∀ (w7 w8 w9 w10 w11 w12 w13 : Option V), ∃ (oa' ta' : Addr) (xs' ys' : List V) (ds' : List LD) (v7 v8 v9 v10 v11 v12 v13 : Option V), [some (V.ref st), some (.int topp), some (.int (n : Int)), some (.ref oa), some (.ref ta), some (.ref la), some (.ref ra), w7, w8, w9, w10, w11, w12, w13] = [some (V.ref st), some (.int topp), some (.int (n : Int)), some (.ref oa'), some (.ref ta'), some (.ref la), some (.ref ra), v7, v8, v9, v10, v11, v12, v13] /\ MatI H HD st ga ca (N + 14 + 63 * (i + 1)) n (i + 1) oa' ta' la ra xs' ys' ds' :=
     fun w7 w8 w9 w10 w11 w12 w13 => ⟨oa, ta, xs, ys, ds, w7, w8, w9, w10, w11, w12, w13, rfl, MD.mono (Nat.le_refl _) (by omega)⟩
    refine ⟨_, rfl, _, rfl, la, _, rfl, .inl (SqL.of MD.gl), rfl, flat_ints _, _, rfl, ?_⟩
    rw [if_pos rfl, inV_ints]
    by_cases h1 : (L : Int) ∈ ds.flatMap LD.lparts
    ·rw [decide_eq_true h1]
     exact iteF (iteF (skip _ _ _ _ _ _ _))
    rw [decide_eq_false h1]
    refine iteT ⟨_, rfl, _, rfl, ra, _, rfl, .inl (SqL.of MD.gr), rfl, flat_ints _, _, rfl, ?_⟩
    rw [if_pos rfl, inV_ints]
    by_cases h2 : (R : Int) ∈ ds.flatMap LD.rparts
    ·rw [decide_eq_true h2]
     exact iteF (skip _ _ _ _ _ _ _)
    rw [decide_eq_false h2]
    refine iteT ?_
    have ll : (ds.flatMap LD.lparts).length <= 4 := by
     have := flat_len_le LD.lparts 1 ds (fun d _ => by simp [LD.lparts])
     have := MD.ld.few
     omega
    have rl : (ds.flatMap LD.rparts).length <= 8 := by
     have := flat_len_le LD.rparts 2 ds (fun d _ => by unfold LD.rparts; split <;> simp)
     have := MD.ld.few
     omega
    refine ⟨_, rfl, .inl ⟨rfl, _, SqL.of MD.gl⟩, _, rfl, la, _, _, rfl, rfl, MD.gl, by rw [List.length_map]; exact Nat.lt_of_le_of_lt ll (by decide), ?_⟩
    have KE : Keep [la, ra] HD (upd HD la (.lst ((ds.flatMap LD.lparts).map V.int ++ [V.int (L : Int)]))) := Keep.set (by simp)
    have gr1 : upd HD la (.lst ((ds.flatMap LD.lparts).map V.int ++ [V.int (L : Int)])) ra = some (.lst ((ds.flatMap LD.rparts).map V.int)) := by rw [upd_ne nlr.symm]; exact MD.gr
    have gl1 := upd_same (H := HD) (a := la) (o := .lst ((ds.flatMap LD.lparts).map V.int ++ [V.int (L : Int)]))
    generalize upd HD la (.lst ((ds.flatMap LD.lparts).map V.int ++ [V.int (L : Int)])) = HE at KE gr1 gl1
    refine ⟨_, rfl, .inl ⟨rfl, _, SqL.of gr1⟩, _, rfl, ra, _, _, rfl, rfl, gr1, by rw [List.length_map]; exact Nat.lt_of_le_of_lt rl (by decide), ?_⟩
    have KF : Keep [la, ra] HD (upd HE ra (.lst ((ds.flatMap LD.rparts).map V.int ++ [V.int (R : Int)]))) := KE.trans (Keep.set (by simp))
    have gl2 : upd HE ra (.lst ((ds.flatMap LD.rparts).map V.int ++ [V.int (R : Int)])) la = some (.lst ((ds.flatMap LD.lparts).map V.int ++ [V.int (L : Int)])) := by rw [upd_ne nlr]; exact gl1
    have gr2 := upd_same (H := HE) (a := ra) (o := .lst ((ds.flatMap LD.rparts).map V.int ++ [V.int (R : Int)]))
    generalize upd HE ra (.lst ((ds.flatMap LD.rparts).map V.int ++ [V.int (R : Int)])) = HF at KF gl2 gr2
    dsimp only [tNext, gName]
    refine seqJoin (fun σ' H' => σ' = [some (.ref st), some (.int topp), some (.int (n : Int)), some (.ref oa), some (.ref ta), some (.ref la), some (.ref ra), some (.int (0 + (i : Int))), some (.int (L : Int)), some (.int (R : Int)), some (.bl sp), some (.ref lv), v12, v13] /\ Keep [la, ra] HD H' /\ H' la = some (.lst ((ds.flatMap LD.lparts).map V.int ++ [V.int (L : Int)])) /\ H' ra = some (.lst ((ds.flatMap LD.rparts).map V.int ++ (if sp then [V.int (R : Int), V.int (L : Int)] else [V.int (R : Int)])))) (fun nx hnx => ?_) ?_
    ·refine ⟨_, rfl, sp, rfl, ?_⟩
     cases sp with
     | false => exact iteF (hnx _ _ ⟨rfl, KF, gl2, gr2⟩)
     | true =>
      refine iteT ⟨_, rfl, .inl ⟨rfl, _, SqL.of gr2⟩, _, rfl, ra, _, _, rfl, rfl, gr2, ?_, hnx _ _ ⟨rfl, KF.trans (Keep.set (by simp)), by rw [upd_ne nlr]; exact gl2, ?_⟩⟩
      ·rw [List.length_append, List.length_map]
       exact Nat.lt_of_le_of_lt (show (ds.flatMap LD.rparts).length + 1 <= 9 by omega) (by decide)
      ·rw [upd_same, List.append_assoc]
       rfl
    rintro σ2 HG ⟨rfl, KG, gl3, gr3⟩
    have glvG : HG lv = some (.lst (lev.map natV)) := KG.at glv (by simp [nlv.1, nlv.2])
    refine ⟨_, rfl, _, rfl, _, rfl, _, rfl, L, R, sp, lv, lev, rfl, glvG, hb, fun z => ⟨Nat.mul_div_cancel' (Nat.dvd_of_mod_eq_zero (hsp z).1.1), (hsp z).1.2⟩, by omega, hv, fun p o1 o2 xs' ys' m k' HI hp h1' h2' okD A1 A2 sI => ?_⟩
    refine ⟨p, _, rfl, SqT.of hp, rfl, _, _, rfl, _, _, rfl, rfl, ?_⟩
    generalize hd : (⟨L, R, m, k', sp, lev⟩ : LD) = d at okD A1 A2
    have hdl : d.lev = lev := by rw [<- hd]
    have w4 : ∀ a ∈ [la, ra], a ∈ [st, ga, la, ra] := fun a ha => List.mem_cons_of_mem _ (List.mem_cons_of_mem _ ha)
    have KI : Keep [la, ra] HD HI := KG.trans sI.keep
    have AXa := MD.ax.mvN (KI.wide w4)
    have AYa := MD.ay.mvN (KI.wide w4)
    have n2 : ∀ q, q ∉ [st, ga, la, ra] -> q ∉ [la, ra] := fun q hq z => hq (w4 q z)
    have Ga := KI.at MD.go (n2 _ MD.no)
    have Gb := KI.at MD.gt (n2 _ MD.nt)
    have SI : StAt HI st ga ca (N + 14 + 63 * (i + 1)) := by
     obtain ⟨⟨gs, cs, q0, nn, c1, c2, c3, c4⟩, c5, c6, c7⟩ := MD.sa
     have na : ∀ x ∈ [st, ga, ca], x ∉ [la, ra] := fun x hx z => by
      simp only [List.mem_cons, List.not_mem_nil, or_false] at z
      rcases z with rfl | rfl
      ·exact nla hx
      ·exact nra3 hx
     exact ⟨⟨gs, cs, q0, nn, KI.at c1 (na _ (by simp)), KI.at c2 (na _ (by simp)), KI.at c3 (na _ (by simp)), c4⟩, c5, c6, c7⟩
    have gl4 := sI _ _ gl3
    have gr4 := sI _ _ gr3
    have nin4' : ∀ {q : Addr}, HI q = none -> q ∉ [st, ga, la, ra] := fun {q} hq z => by
     have h2 := SI.nin hq
     simp only [List.mem_cons, List.not_mem_nil, or_false] at z h2
     rcases z with rfl | rfl | rfl | rfl
     ·exact h2 (.inl rfl)
     ·exact h2 (.inr rfl)
     ·rw [gl4] at hq; cases hq
     ·rw [gr4] at hq; cases hq
    have hv2L : ∀ {j v : Nat}, lev[j]? = some v -> d.at j = v := fun {j v} h => LD.at_some (by rw [hdl]; exact h)
    have Ba : ∀ j v, lev[j]? = some v -> (lefH ds j ++ d.lrow v).length <= sizeLine := fun j v hv' => by
     rw [List.length_append]
     have e1 := lrows_len (MD.ld.lds (by omega)) j
     have e2 := LD.lrow_len okD (hv v (List.mem_of_getElem? hv'))
     exact Nat.le_trans (m := 100) (by omega) (by decide)
    refine ⟨_, rfl, _, rfl, oa, o1, rfl, ⟨_, SqL.of Ga⟩, ⟨_, SqL.of h1'⟩, comp_zip (xs := xs) (ys := xs') (fun j zs σ' H' => Same HI H' /\ (∃ v w, σ' = [v, w]) /\ All2 (LstN [st, ga, la, ra]) H' (((List.range n).take j).map fun j => lefH (ds ++ [d]) j) zs /\ j <= n) ⟨Same.refl _, ⟨_, _, rfl⟩, .nil, Nat.zero_le _⟩ ?_ ?_ ?_⟩
    ·rintro j zs σ' H' hj ⟨s', _, a', hj'⟩
     refine ⟨SqL.of (s' _ _ Ga), SqL.of (s' _ _ h1'), ?_⟩
     rw [<- a'.length, List.length_map, List.length_take]
     exact small64 (by omega)
    ·rintro j x y zs σ' H' T' hx hy ⟨s', ⟨v, w', rfl⟩, a', hj'⟩ hT
     obtain ⟨row, hrow, q, rfl, nq, gq⟩ := AXa.get hx
     obtain ⟨row2, hrow2, q', rfl, gq'⟩ := A1.get hy
     have hj : j < n := by
      have := (List.getElem?_eq_some_iff.mp hrow).1
      rw [List.length_map, List.length_range] at this
      exact this
     rw [List.getElem?_map, List.getElem?_range hj] at hrow
     have er : lefH ds j = row := Option.some.inj hrow
     rw [List.getElem?_map] at hrow2
     obtain ⟨v2, hv2, er2⟩ : ∃ v2, lev[j]? = some v2 /\ d.lrow v2 = row2 := by
      cases e : lev[j]? with
      | none => rw [e] at hrow2; cases hrow2
      | some v2 => rw [e] at hrow2; exact ⟨v2, rfl, Option.some.inj hrow2⟩
     have hbl := Ba j v2 hv2
     rw [er, er2, List.length_append] at hbl
     have sT := s'.trans (Same.new (o := .tup [V.ref q, V.ref q']) hT)
     refine ⟨T', _, rfl, SqT.of upd_same, rfl, _, _, rfl, _, _, rfl, rfl, ?_⟩
     refine ⟨_, rfl, _, rfl, q, q', _, _, rfl, rfl, sT _ _ gq, sT _ _ gq', by rw [List.length_map, List.length_map]; exact hbl, fun z hz => ⟨sT.trans (Same.new hz), ⟨_, _, rfl⟩, ?_, hj⟩⟩
     rw [List.take_succ, List.getElem?_range hj, List.map_append]
     refine (a'.mvN ((Same.new (o := .tup [V.ref q, V.ref q']) hT).trans (Same.new hz)).keep).snoc ⟨z, rfl, nin4' (sT.free hz), ?_⟩
     rw [upd_same]
     show _ = some (HO.lst ((lefH (ds ++ [d]) j).map V.int))
     rw [lef_snoc, hv2L hv2, er, er2, List.map_append]
    rintro zs1 σ' HJ ⟨sa', _, aa', _⟩ oa2 hoa2
    have ela : min xs.length xs'.length = n /\ min ys.length ys'.length = n := by
     rw [<- MD.ax.length, <- MD.ay.length, <- A1.length, <- A2.length, List.length_map, List.length_map, List.length_map, List.length_map, List.length_range, hl]
     simp
    rw [ela.1, List.take_of_length_le (by rw [List.length_range]; exact Nat.le_refl _)] at aa'
    have sJ := sa'.trans (Same.new (o := .lst zs1) hoa2)
    have goa2 := upd_same (H := HJ) (a := oa2) (o := .lst zs1)
    have az1 := aa'.mvN (Same.new (o := .lst zs1) hoa2).keep
    have noa2 := nin4' (sa'.free hoa2)
    generalize upd HJ oa2 (.lst zs1) = HK at sJ goa2 az1
    have AYK := AYa.mvN sJ.keep
    have A2K := A2.mvI sJ
    have GbK := sJ _ _ Gb
    have g2K := sJ _ _ h2'
    have Bb : ∀ j v, lev[j]? = some v -> (rigH ds j ++ d.rrow v).length <= sizeLine := fun j v hv' => by
     rw [List.length_append]
     have e1 := lrows_len (MD.ld.lds (by omega)) j
     have e2 := LD.rrow_len okD (hv v (List.mem_of_getElem? hv'))
     exact Nat.le_trans (m := 100) (by omega) (by decide)
    refine ⟨_, rfl, _, rfl, ta, o2, rfl, ⟨_, SqL.of GbK⟩, ⟨_, SqL.of g2K⟩, comp_zip (xs := ys) (ys := ys') (fun j zs σ' H' => Same HK H' /\ (∃ v w, σ' = [v, w]) /\ All2 (LstN [st, ga, la, ra]) H' (((List.range n).take j).map fun j => rigH (ds ++ [d]) j) zs /\ j <= n) ⟨Same.refl _, ⟨_, _, rfl⟩, .nil, Nat.zero_le _⟩ ?_ ?_ ?_⟩
    ·rintro j zs σ' H' hj ⟨s', _, a', hj'⟩
     refine ⟨SqL.of (s' _ _ GbK), SqL.of (s' _ _ g2K), ?_⟩
     rw [<- a'.length, List.length_map, List.length_take]
     exact small64 (by omega)
    ·rintro j x y zs σ' H' T' hx hy ⟨s', ⟨v, w', rfl⟩, a', hj'⟩ hT
     obtain ⟨row, hrow, q, rfl, nq, gq⟩ := AYK.get hx
     obtain ⟨row2, hrow2, q', rfl, gq'⟩ := A2K.get hy
     have hj : j < n := by
      have := (List.getElem?_eq_some_iff.mp hrow).1
      rw [List.length_map, List.length_range] at this
      exact this
     rw [List.getElem?_map, List.getElem?_range hj] at hrow
     have er : rigH ds j = row := Option.some.inj hrow
     rw [List.getElem?_map] at hrow2
     obtain ⟨v2, hv2, er2⟩ : ∃ v2, lev[j]? = some v2 /\ d.rrow v2 = row2 := by
      cases e : lev[j]? with
      | none => rw [e] at hrow2; cases hrow2
      | some v2 => rw [e] at hrow2; exact ⟨v2, rfl, Option.some.inj hrow2⟩
     have hbl := Bb j v2 hv2
     rw [er, er2, List.length_append] at hbl
     have sT := s'.trans (Same.new (o := .tup [V.ref q, V.ref q']) hT)
     refine ⟨T', _, rfl, SqT.of upd_same, rfl, _, _, rfl, _, _, rfl, rfl, ?_⟩
     refine ⟨_, rfl, _, rfl, q, q', _, _, rfl, rfl, sT _ _ gq, sT _ _ gq', by rw [List.length_map, List.length_map]; exact hbl, fun z hz => ⟨sT.trans (Same.new hz), ⟨_, _, rfl⟩, ?_, hj⟩⟩
     rw [List.take_succ, List.getElem?_range hj, List.map_append]
     refine (a'.mvN ((Same.new (o := .tup [V.ref q, V.ref q']) hT).trans (Same.new hz)).keep).snoc ⟨z, rfl, nin4' ((sJ.trans sT).free hz), ?_⟩
     rw [upd_same]
     show _ = some (HO.lst ((rigH (ds ++ [d]) j).map V.int))
     rw [rig_snoc, hv2L hv2, er, er2, List.map_append]
    rintro zs2 σ' HL ⟨sb', _, ab', _⟩ ta2 hta2
    have elb : min xs.length xs'.length = n /\ min ys.length ys'.length = n := by
     rw [<- MD.ax.length, <- MD.ay.length, <- A1.length, <- A2.length, List.length_map, List.length_map, List.length_map, List.length_map, List.length_range, hl]
     simp
    rw [elb.2, List.take_of_length_le (by rw [List.length_range]; exact Nat.le_refl _)] at ab'
    have sL := sb'.trans (Same.new (o := .lst zs2) hta2)
    have gta2 := upd_same (H := HL) (a := ta2) (o := .lst zs2)
    have az2 := ab'.mvN (Same.new (o := .lst zs2) hta2).keep
    have nta2 := nin4' ((sJ.trans sb').free hta2)
    generalize upd HL ta2 (.lst zs2) = HM at sL gta2 az2
    have sIM := sJ.trans sL
    have eLp : d.L = L /\ d.R = R /\ d.sp = sp := by rw [<- hd]; exact ⟨rfl, rfl, rfl⟩
    refine ⟨oa2, ta2, zs1, zs2, ds ++ [d], _, _, _, _, _, _, _, rfl, ⟨sL _ _ goa2, gta2, az1.mvN sL.keep, az2, ?_, ?_, MD.ld.snoc okD (by rw [hdl]; exact hl) (by rw [eLp.1]; exact h1) (by rw [eLp.2.1]; exact h2) (fun z => by rw [eLp.1]; exact (hsp (by rw [<- eLp.2.2]; exact z)).2), noa2, nta2, SI.same sIM, fun b o e hn => sIM _ _ (KI _ _ (MD.kp _ _ e hn) (nin_two' ela0 era e))⟩⟩
    ·rw [sIM _ _ gl4, List.flatMap_append, List.map_append]
     simp only [List.flatMap_cons, List.flatMap_nil, LD.lparts, eLp.1, List.append_nil, List.map_cons, List.map_nil]
    ·rw [sIM _ _ gr4, List.flatMap_append, List.map_append]
     simp only [List.flatMap_cons, List.flatMap_nil, LD.rparts, eLp.1, eLp.2.1, eLp.2.2, List.append_nil]
     cases sp <;> rfl
  ·clear M0 M7 goa goa5 gta gla gra noa nta
   rintro σ' H' ⟨oa, ta, xs, ys, ds, v7, v8, v9, v10, v11, v12, v13, rfl, M⟩
   have hL := M.ld.lds (show (1 + lanes).toNat <= 4 by omega)
   have mt := matched_of hL
   have rl := rows_lt hL
   dsimp only [tNext, gName]
   refine seqJoin (fun σ' H' => ∃ (oa ta : Addr) (xs ys : List V) (r1 r2 : List (List Int)), σ' = [some (.ref st), some (.int topp), some (.int (n : Int)), some (.ref oa), some (.ref ta), some (.ref la), some (.ref ra), v7, v8, v9, v10, v11, v12, v13] /\ H' oa = some (.lst xs) /\ H' ta = some (.lst ys) /\ All2 Lst1 H' r1 xs /\ All2 Lst1 H' r2 ys /\ (∀ r ∈ r1, r.length < 64) /\ (∀ r ∈ r2, r.length < 64) /\ r1.length <= 60 /\ r2.length <= 60 /\ Matched (r1.map sortD) (r2.map sortD) n /\ StAt H' st ga ca (N + 1000) /\ Keep [st, ga] H H') (fun nx hnx => ?_) ?_
   ·refine ⟨_, rfl, st, ga, ca, _, 2, rfl, M.sa, by omega, by decide, by decide, fun r H8 r0 r1 S8 K8 => ⟨rfl, _, rfl, ?_⟩⟩
    have M8 := M.drawn nla nra3 S8 K8
    have e1 : ((List.range n).map (lefH ds)).map sortD = sideR lefH ds n := by rw [List.map_map]; rfl
    have e2 : ((List.range n).map (rigH ds)).map sortD = sideR rigH ds n := by rw [List.map_map]; rfl
    have b1 : ∀ r ∈ (List.range n).map (lefH ds), r.length < 64 := fun r hr' => by
     obtain ⟨j, _, rfl⟩ := List.mem_map.mp hr'
     exact (rl j).1
    have b2 : ∀ r ∈ (List.range n).map (rigH ds), r.length < 64 := fun r hr' => by
     obtain ⟨j, _, rfl⟩ := List.mem_map.mp hr'
     exact (rl j).2
    have ln : ∀ f : Nat -> List Int, ((List.range n).map f).length <= 60 := fun f => by rw [List.length_map, List.length_range]; omega
    have S9 := M8.sa.mono (show _ <= N + 1000 by omega)
    refine ite2 (fun _ => ?_) (fun _ => hnx _ _ ⟨oa, ta, xs, ys, _, _, rfl, M8.go, M8.gt, M8.ax.toL, M8.ay.toL, b1, b2, ln _, ln _, by rw [e1, e2]; exact mt, S9, M8.kp⟩)
    exact ⟨_, rfl, _, rfl, _, _, rfl, hnx _ _ ⟨ta, oa, ys, xs, _, _, rfl, M8.gt, M8.go, M8.ay.toL, M8.ax.toL, b2, b1, ln _, ln _, by rw [e1, e2]; exact mt.swap, S9, M8.kp⟩⟩
   ·rintro σ2 H8 ⟨oa, ta, xs, ys, r1, r2, rfl, g1, g2, a1, a2, b1, b2, l1, l2, mm, S9, K9⟩
    refine ⟨_, rfl, oa, xs, r1, rfl, g1, a1, b1, l1, fun p1 rs HA gA aA sA => ?_⟩
    refine ⟨_, rfl, ta, ys, r2, rfl, sA _ _ g2, a2.mvI sA, b2, l2, fun p2 qs HB gB aB sB => ?_⟩
    refine ⟨by show 2 <= sizeLine; decide, fun p hp => ?_⟩
    have sC := Same.new (o := .tup [V.ref p1, V.ref p2]) hp
    have s8 := sA.trans (sB.trans sC)
    exact k p p1 p2 rs qs _ _ n _ upd_same (sC _ _ (sB _ _ gA)) (aA.mv (sB.trans sC).tups) (sC _ _ gB) (aB.mv sC.tups) mm (by omega) (S9.same s8) (K9.trans s8.keep)
def n__law_same : List Str := ["_law_found", "_law_due_here"]
theorem sc__law_same : FnScope n__law_same ["_law_found", "_law_due_here"] (defScope s__law_same) := ⟨rfl, rfl, rfl, by decide +kernel, rfl, by decide +kernel, by decide +kernel⟩
def sp_same (n : Nat) : Sp := fun vs H Q _ => ∃ (x y : V), vs = [x, y] /\ SmG n H x y /\ ∀ H', Same H H' -> Q (.bl true) H'
theorem okr__law_same (T : Txt K mg A) : ∀ n : Nat, FnOk P w K mg base CX0 (n + 1) A.a__law_same A.fd__law_same ["_law_found", "_law_due_here"] (sp_same n)
 | 0 => FnOk.none (fun _ _ _ _ ⟨_, _, _, h, _⟩ => h)
 | n + 1 => by
  have ih := okr__law_same T n
  refine T.F__law_same.ok sc__law_same (fun vs H Q E h => ?_) (fun cdv Ar outer s H vs Q E hr h => ?_)
  ·obtain ⟨x, y, rfl, h, k⟩ := h
   rfl
  ·obtain ⟨x, y, rfl, h, k⟩ := h
   refine ⟨_, (pss_cons (ps_if (pt_truth (pe_callB call_isiT rfl T.b_isinstance boot_isinstance (pa_cons (pv 1) (pa_cons (pe_tup (pa_cons (pe_bltn (v := .ty "list") rfl T.b_list boot_list rfl) (pa_cons (pe_bltn (v := .ty "tuple") rfl T.b_tuple boot_tuple rfl) pa_nil))) pa_nil))) (fun _ => rfl))
      (pss_cons (ps_if (PW.pt (pw_or (pt_cmpR op_ne (pe_callB call_isi rfl T.b_isinstance boot_isinstance (pa_cons (pv 0) (pa_cons (pe_bltn (v := .ty "list") rfl T.b_list boot_list rfl) pa_nil))) (pe_callB call_isi rfl T.b_isinstance boot_isinstance (pa_cons (pv 1) (pa_cons (pe_bltn (v := .ty "list") rfl T.b_list boot_list rfl) pa_nil))) (nomark _)) (pw_or1 (pt_cmpR op_ne (pe_callB call_isi rfl T.b_isinstance boot_isinstance (pa_cons (pv 0) (pa_cons (pe_bltn (v := .ty "tuple") rfl T.b_tuple boot_tuple rfl) pa_nil))) (pe_callB call_isi rfl T.b_isinstance boot_isinstance (pa_cons (pv 1) (pa_cons (pe_bltn (v := .ty "tuple") rfl T.b_tuple boot_tuple rfl) pa_nil))) (nomark _)))))
      (pss_one (ps_ret pe_bl)) pss_nil)
     (pss_cons (ps_if (pt_cmpR op_ne (pe_callB call_len_seq rfl T.b_len PySem.boot_len (pa_cons (pv 0) pa_nil)) (pe_callB call_len_seq rfl T.b_len PySem.boot_len (pa_cons (pv 1) pa_nil)) (nomark _))
      (pss_one (ps_ret pe_bl)) pss_nil)
     (pss_one (ps_ret (pe_callB (call_all_bools rfl) rfl T.b_all boot_all (pa_cons (pe_comp (ls := ["_law_one", "_law_other"]) (fr := []) (cs_of (defScope s__law_same) n__law_same rfl rfl (by decide +kernel)) rfl (pi_or (pi_zip true true rfl T.b_zip (pa_cons (pv 0) (pa_cons (pv 1) pa_nil))) (pi_zip false false rfl T.b_zip (pa_cons (pv 0) (pa_cons (pv 1) pa_nil)))) (fun _ _ _ _ => pg_tupC 2 rfl (pgs_cons (pgc (ls := ["_law_one", "_law_other"]) (fr := []) 0 (by decide +kernel) rfl rfl) (pgs_cons (pgc (ls := ["_law_one", "_law_other"]) (fr := []) 1 (by decide +kernel) rfl rfl) pgs_nil)) rfl rfl) (fun _ _ _ _ => pf_nil) (fun _ _ _ _ => (pe_call ih hr (glc (defScope s__law_same)) T.g__law_same T.F__law_same.kp T.b__law_same .nil pass0 (pa_cons (pvc (defScope s__law_same) 0) (pa_cons (pvc (defScope s__law_same) 1) pa_nil))))) pa_nil)))))) pss_nil)
     (pss_cons (ps_if (PW.pt (pw_or (pt_cmpR op_isN (pv 1) pe_non (nomark _)) (pw_or (pt_cmpR op_isG (pv 1) pe_bl (nomark _)) (pw_or1 (pt_cmpR op_isG (pv 1) pe_bl (nomark _))))))
      (pss_one (ps_ret (pe_and (pe_cmpR op_eq (pe_callB call_isi rfl T.b_isinstance boot_isinstance (pa_cons (pv 0) (pa_cons (pe_bltn (v := .ty "bool") rfl T.b_bool boot_bool rfl) pa_nil))) (pe_callB call_isi rfl T.b_isinstance boot_isinstance (pa_cons (pv 1) (pa_cons (pe_bltn (v := .ty "bool") rfl T.b_bool boot_bool rfl) pa_nil))) (nomark _)) (pe_one (pe_cmpR op_eq (pv 0) (pv 1) (nomark _)))))) pss_nil)
     (pss_cons (ps_if (pt_truth (pe_callB call_isi rfl T.b_isinstance boot_isinstance (pa_cons (pv 1) (pa_cons (pe_bltn (v := .ty "str") rfl T.b_str boot_str rfl) pa_nil))) (fun _ => rfl))
      (pss_one (ps_ret (pe_and (pe_callB call_isi rfl T.b_isinstance boot_isinstance (pa_cons (pv 0) (pa_cons (pe_bltn (v := .ty "str") rfl T.b_str boot_str rfl) pa_nil))) (pe_one (pe_cmpR op_eq (pv 0) (pv 1) (nomark _)))))) pss_nil)
     (pss_one (ps_ret (pe_and (pe_callB call_isi rfl T.b_isinstance boot_isinstance (pa_cons (pv 0) (pa_cons (pe_bltn (v := .ty "int") rfl T.b_int boot_int rfl) pa_nil))) (pe_and (pe_not (pe_callB call_isi rfl T.b_isinstance boot_isinstance (pa_cons (pv 0) (pa_cons (pe_bltn (v := .ty "bool") rfl T.b_bool boot_bool rfl) pa_nil)))) (pe_one (pe_cmpR op_eq (pv 0) (pv 1) (nomark _)))))))))), ?_⟩
   rcases h with ⟨i, rfl, rfl⟩ | ⟨b, rfl, rfl⟩ | ⟨rfl, rfl⟩ | ⟨z, rfl, rfl⟩ | ⟨f, d, xs, ys, rfl, rfl, hfd, hxy, hl, hall⟩
   ·refine ⟨_, rfl, by show 2 <= sizeLine; decide, fun tp htp => ⟨_, tp, ["list", "tuple"], _, false, rfl, upd_same, TyOf.int _, kitA1_int, false, rfl, iteF ?_⟩⟩
    refine ⟨_, rfl, rfl, _, rfl, iteF ⟨_, rfl, true, rfl, trivial, _, rfl, iteF ⟨_, rfl, false, rfl, trivial, _, rfl, iteF ?_⟩⟩⟩
    refine ⟨_, rfl, _, _, _, false, rfl, TyOf.int _, kit_int_str, false, rfl, iteF ?_⟩
    refine ⟨_, rfl, _, _, _, true, rfl, TyOf.int _, kit_int_int, true, rfl, _, rfl, _, _, _, false, rfl, TyOf.int _, kit_int_bool, false, rfl, true, rfl, iteT ?_⟩
    refine ⟨_, rfl, _, rfl, rfl, ?_⟩
    rw [decide_eq_true rfl]
    exact k _ (Same.new htp)
   ·refine ⟨_, rfl, by show 2 <= sizeLine; decide, fun tp htp => ⟨_, tp, ["list", "tuple"], _, false, rfl, upd_same, TyOf.bl _, kitA1_bool, false, rfl, iteF ?_⟩⟩
    refine ⟨_, rfl, rfl, _, rfl, iteF ⟨_, rfl, true, rfl, trivial, _, rfl, ?_⟩⟩
    have fin : ∀ (H' : Hp), Same H H' -> Q (.bl true) H' := k
    cases b with
    | true =>
     refine iteT (iteT ⟨_, rfl, _, _, _, true, rfl, TyOf.bl _, kit_bool_bool, _, rfl, _, _, _, true, rfl, TyOf.bl _, kit_bool_bool, rfl, _, rfl, iteT ?_⟩)
     refine ⟨_, rfl, _, rfl, rfl, ?_⟩
     rw [decide_eq_true rfl]
     exact k _ (Same.new htp)
    | false =>
     refine iteF ⟨_, rfl, false, rfl, trivial, _, rfl, iteT ?_⟩
     refine ⟨_, rfl, _, _, _, true, rfl, TyOf.bl _, kit_bool_bool, _, rfl, _, _, _, true, rfl, TyOf.bl _, kit_bool_bool, rfl, _, rfl, iteT ?_⟩
     refine ⟨_, rfl, _, rfl, rfl, ?_⟩
     rw [decide_eq_true rfl]
     exact k _ (Same.new htp)
   ·refine ⟨_, rfl, by show 2 <= sizeLine; decide, fun tp htp => ⟨_, tp, ["list", "tuple"], _, false, rfl, upd_same, TyOf.non, kitA1_NoneType, false, rfl, iteF ?_⟩⟩
    refine ⟨_, rfl, rfl, _, rfl, iteT (iteT ?_)⟩
    refine ⟨_, rfl, _, _, _, false, rfl, TyOf.non, kit_NoneType_bool, _, rfl, _, _, _, false, rfl, TyOf.non, kit_NoneType_bool, rfl, _, rfl, iteT ?_⟩
    refine ⟨_, rfl, _, rfl, rfl, ?_⟩
    rw [decide_eq_true rfl]
    exact k _ (Same.new htp)
   ·refine ⟨_, rfl, by show 2 <= sizeLine; decide, fun tp htp => ⟨_, tp, ["list", "tuple"], _, false, rfl, upd_same, TyOf.str _, kitA1_str, false, rfl, iteF ?_⟩⟩
    refine ⟨_, rfl, rfl, _, rfl, iteF ⟨_, rfl, true, rfl, trivial, _, rfl, iteF ⟨_, rfl, false, rfl, trivial, _, rfl, iteF ?_⟩⟩⟩
    refine ⟨_, rfl, _, _, _, true, rfl, TyOf.str _, kit_str_str, true, rfl, iteT ?_⟩
    refine ⟨_, rfl, _, _, _, true, rfl, TyOf.str _, kit_str_str, true, rfl, iteT ?_⟩
    refine ⟨_, rfl, _, rfl, rfl, ?_⟩
    rw [decide_eq_true rfl]
    exact k _ (Same.new htp)
   ·refine ⟨_, rfl, by show 2 <= sizeLine; decide, fun tp htp => ?_⟩
    have s1 := Same.new (o := .tup [V.ty "list", V.ty "tuple"]) htp
    have g1 := upd_same (H := H) (a := tp) (o := .tup [V.ty "list", V.ty "tuple"])
    generalize upd H tp (.tup [V.ty "list", V.ty "tuple"]) = H1 at s1 g1
    rcases hfd with ⟨hf, hd⟩ | ⟨hf, hd⟩
    ·have hf1 := s1 _ _ hf
     have hd1 := s1 _ _ hd
     refine ⟨_, tp, ["list", "tuple"], _, true, rfl, g1, TyOf.tup hd1, kitA1_tuple, true, rfl, iteT ?_⟩
     refine ⟨_, rfl, _, _, _, false, rfl, TyOf.tup hf1, kit_tuple_list, _, rfl, _, _, _, false, rfl, TyOf.tup hd1, kit_tuple_list, rfl, _, rfl, iteNS rfl ?_⟩
     refine ⟨_, rfl, _, _, _, true, rfl, TyOf.tup hf1, kit_tup_tup, _, rfl, _, _, _, true, rfl, TyOf.tup hd1, kit_tup_tup, rfl, _, rfl, iteNS rfl ?_⟩
     refine ⟨_, rfl, f, _, rfl, .inr (SqT.of hf1), _, rfl, d, _, rfl, .inr (SqT.of hd1), rfl, _, rfl, iteNS (by rw [hxy]) ?_⟩
     refine Or.inl ⟨_, rfl, _, rfl, f, d, rfl, ⟨_, SqT.of hf1⟩, ⟨_, SqT.of hd1⟩, comp_zip (xs := xs) (ys := ys) (fun i zs σ' H' => Same H1 H' /\ (∃ v w, σ' = [v, w]) /\ zs = (List.replicate i true).map V.bl /\ i <= xs.length) ⟨fun _ _ z => z, ⟨_, _, rfl⟩, rfl, Nat.zero_le _⟩ ?_ ?_ ?_⟩
     ·rintro i zs σ' H' hi ⟨s', _, rfl, hi'⟩
      refine ⟨SqT.of (s' _ _ hf1), SqT.of (s' _ _ hd1), ?_⟩
      rw [List.length_map, List.length_replicate]
      exact Nat.le_trans (Nat.le_trans hi' hl) (by decide)
     ·rintro i x y zs σ' H' T' hx hy ⟨s', ⟨v, w', rfl⟩, rfl, hi'⟩ hT
      have hi := (List.getElem?_eq_some_iff.mp hx).1
      have sn := s'.trans (Same.new (o := .tup [x, y]) hT)
      refine ⟨T', _, rfl, SqT.of upd_same, rfl, _, _, rfl, _, _, rfl, rfl, ?_⟩
      refine ⟨_, rfl, _, rfl, _, _, rfl, (hall i x y hx hy).mv (s1.trans sn), fun H2 s2 => ⟨sn.trans s2, ⟨_, _, rfl⟩, ?_, hi⟩⟩
      rw [List.replicate_succ', List.map_append]
      rfl
     ·rintro zs σ' H' ⟨s', _, rfl, _⟩ l hl0
      refine ⟨l, _, rfl, SqL.of upd_same, ?_⟩
      have e : ∀ n, (List.replicate n true).all id = true := fun n => by simp
      rw [e]
      exact k _ (s1.trans (s'.trans (Same.new hl0)))
    ·have hf1 := s1 _ _ hf
     have hd1 := s1 _ _ hd
     refine ⟨_, tp, ["list", "tuple"], _, true, rfl, g1, TyOf.lst hd1, kitA1_list, true, rfl, iteT ?_⟩
     refine ⟨_, rfl, _, _, _, true, rfl, TyOf.lst hf1, kit_list_list, _, rfl, _, _, _, true, rfl, TyOf.lst hd1, kit_list_list, rfl, _, rfl, iteNS rfl ?_⟩
     refine ⟨_, rfl, _, _, _, false, rfl, TyOf.lst hf1, kit_list_tuple, _, rfl, _, _, _, false, rfl, TyOf.lst hd1, kit_list_tuple, rfl, _, rfl, iteNS rfl ?_⟩
     refine ⟨_, rfl, f, _, rfl, .inl (SqL.of hf1), _, rfl, d, _, rfl, .inl (SqL.of hd1), rfl, _, rfl, iteNS (by rw [hxy]) ?_⟩
     refine Or.inr ⟨_, rfl, _, rfl, f, d, rfl, ⟨_, SqL.of hf1⟩, ⟨_, SqL.of hd1⟩, comp_zip (xs := xs) (ys := ys) (fun i zs σ' H' => Same H1 H' /\ (∃ v w, σ' = [v, w]) /\ zs = (List.replicate i true).map V.bl /\ i <= xs.length) ⟨fun _ _ z => z, ⟨_, _, rfl⟩, rfl, Nat.zero_le _⟩ ?_ ?_ ?_⟩
     ·rintro i zs σ' H' hi ⟨s', _, rfl, hi'⟩
      refine ⟨SqL.of (s' _ _ hf1), SqL.of (s' _ _ hd1), ?_⟩
      rw [List.length_map, List.length_replicate]
      exact Nat.le_trans (Nat.le_trans hi' hl) (by decide)
     ·rintro i x y zs σ' H' T' hx hy ⟨s', ⟨v, w', rfl⟩, rfl, hi'⟩ hT
      have hi := (List.getElem?_eq_some_iff.mp hx).1
      have sn := s'.trans (Same.new (o := .tup [x, y]) hT)
      refine ⟨T', _, rfl, SqT.of upd_same, rfl, _, _, rfl, _, _, rfl, rfl, ?_⟩
      refine ⟨_, rfl, _, rfl, _, _, rfl, (hall i x y hx hy).mv (s1.trans sn), fun H2 s2 => ⟨sn.trans s2, ⟨_, _, rfl⟩, ?_, hi⟩⟩
      rw [List.replicate_succ', List.map_append]
      rfl
     ·rintro zs σ' H' ⟨s', _, rfl, _⟩ l hl0
      refine ⟨l, _, rfl, SqL.of upd_same, ?_⟩
      have e : ∀ n, (List.replicate n true).all id = true := fun n => by simp
      rw [e]
      exact k _ (s1.trans (s'.trans (Same.new hl0)))
theorem ok__law_same (T : Txt K mg A) : FnOk P w K mg base CX0 7 A.a__law_same A.fd__law_same ["_law_found", "_law_due_here"] (sp_same 6) := okr__law_same T 6
def n__law_lies : List Str := ["_law_one", "_law_other"]
theorem sc__law_lies : FnScope n__law_lies ["_law_one", "_law_other"] (defScope s__law_lies) := ⟨rfl, rfl, rfl, by decide +kernel, rfl, by decide +kernel, by decide +kernel⟩
def sp_llies : Sp := fun vs H Q _ => ∃ (a b : Addr) (ns ms : List Int), vs = [.ref a, .ref b] /\ H a = some (.tup (ns.map V.int)) /\ H b = some (.tup (ms.map V.int)) /\ ns.length <= 10000 /\ ∀ H', Same H H' -> Q (.bl (lies ns ms)) H'
theorem ok__law_lies (T : Txt K mg A) : FnOk P w K mg base CX0 1 A.a__law_lies A.fd__law_lies ["_law_one", "_law_other"] sp_llies := by
 refine T.F__law_lies.ok sc__law_lies (fun vs H Q E h => ?_) (fun cdv Ar outer s H vs Q E hr h => ?_)
 ·obtain ⟨a, b, ns, ms, rfl, ha, hb, hln, k⟩ := h
  rfl
 ·obtain ⟨a, b, ns, ms, rfl, ha, hb, hln, k⟩ := h
  refine ⟨_, (pss_one (ps_ret (pe_callB (call_all_bools rfl) rfl T.b_all boot_all (pa_cons (pe_comp (ls := ["_law_part"]) (fr := [("_law_one", 0), ("_law_other", 1)]) (cs_of (defScope s__law_lies) n__law_lies rfl rfl (by decide +kernel)) rfl (pi_tup (pv 0 (hv := Or.inr (Or.inl rfl)))) (fun _ _ _ _ => pgc 0 (by decide +kernel) rfl rfl) (fun _ _ _ _ => pf_nil) (fun _ _ _ _ => (pe_cmpR op_le (pe_bmK K rfl PySem.F.plainAttrs_tuple PySem.F.slot_tuple_count PySem.F.type_tuple_count (mt_countTK K rfl) (pvc (defScope s__law_lies) 1) (pa_cons (pvc (defScope s__law_lies) 0) pa_nil)) (pe_bmK K rfl PySem.F.plainAttrs_tuple PySem.F.slot_tuple_count PySem.F.type_tuple_count (mt_countTK K rfl) (pvc (defScope s__law_lies) 2) (pa_cons (pvc (defScope s__law_lies) 0) pa_nil)) (nomark _)))) pa_nil)))), ?_⟩
  refine ⟨_, rfl, a, rfl, ⟨_, SqT.of ha⟩, comp_tup (xs := ns.map V.int) (fun i ys σ' H' => H' = H /\ (∃ v, σ' = [v, some (.ref a), some (.ref b)]) /\ ys = ((ns.take i).map fun x => decide (ns.count x <= ms.count x)).map V.bl) ⟨rfl, ⟨_, rfl⟩, rfl⟩ ?_ ?_ ?_⟩
  ·rintro i ys σ' H' hi ⟨rfl, _, rfl⟩
   refine ⟨SqT.of ha, ?_⟩
   rw [List.length_map, List.length_map, List.length_take]
   exact Nat.le_trans (m := 10000) (by omega) (by decide)
  ·rintro i x ys σ' H' hx ⟨rfl, ⟨v, rfl⟩, rfl⟩
   obtain ⟨z, hz, rfl⟩ := map_at hx
   have hi := (List.getElem?_eq_some_iff.mp hz).1
   have ez := (List.getElem?_eq_some_iff.mp hz).2
   refine ⟨_, rfl, .inr (.inl ⟨rfl, .inr ⟨_, ha⟩⟩), _, rfl, a, _, _, rfl, rfl, SqT.of ha, rfl, flat_ints _, ?_⟩
   refine ⟨_, rfl, .inr (.inl ⟨rfl, .inr ⟨_, hb⟩⟩), _, rfl, b, _, _, rfl, rfl, SqT.of hb, rfl, flat_ints _, ?_⟩
   refine ⟨_, _, rfl, rfl, rfl, ⟨_, rfl⟩, ?_⟩
   rw [List.take_succ_eq_append_getElem hi, List.map_append, List.map_append, ez]
   show _ ++ [V.bl (decide (((cntV (V.int z) (ns.map V.int) : Nat) : Int) <= ((cntV (V.int z) (ms.map V.int) : Nat) : Int)))] = _
   rw [cntV_ints, cntV_ints]
   have e : decide (((ns.count z : Nat) : Int) <= ((ms.count z : Nat) : Int)) = decide (ns.count z <= ms.count z) := by
    rw [decide_eq_decide]; omega
   rw [e]
   rfl
  ·rintro ys σ' H' ⟨rfl, _, rfl⟩ l hl
   rw [List.length_map, List.take_length]
   refine ⟨l, _, rfl, SqL.of upd_same, ?_⟩
   have e : (ns.map fun x => decide (ns.count x <= ms.count x)).all id = lies ns ms := by
    unfold lies
    rw [List.all_map]
    rfl
   rw [e]
   exact k _ (Same.new hl)
def n__law_first : List Str := ["_law_rule_here", "_law_heap_here", "_law_number"]
theorem sc__law_first : FnScope n__law_first ["_law_rule_here", "_law_heap_here"] (defScope s__law_first) := ⟨rfl, rfl, rfl, by decide +kernel, rfl, by decide +kernel, by decide +kernel⟩
def sp_lfirst : Sp := fun vs H Q _ => ∃ (p q : Addr) (rs : List V) (rule : List (List Int)) (hs : List Int), vs = [.ref p, .ref q] /\ H p = some (.tup rs) /\ All2 Tup1 H rule rs /\ H q = some (.tup (hs.map V.int)) /\ rule.length <= 60 /\ (∀ h ∈ rule, h.length <= 1000) /\
 ∀ (H' : Hp), Same H H' -> Q (optV (firstG rule hs)) H'
theorem ok__law_first (T : Txt K mg A) : FnOk P w K mg base CX0 2 A.a__law_first A.fd__law_first ["_law_rule_here", "_law_heap_here"] sp_lfirst := by
 refine T.F__law_first.ok sc__law_first (fun vs H Q E h => ?_) (fun cdv Ar outer s H vs Q E hr h => ?_)
 ·obtain ⟨p, q, rs, rule, hs, rfl, hp, h2, hq, hln, hlr, k⟩ := h
  rfl
 ·obtain ⟨p, q, rs, rule, hs, rfl, hp, h2, hq, hln, hlr, k⟩ := h
  refine ⟨_, (pss_cons (ps_for PassesOwn.never rfl (pi_range1 rfl T.b_range (pa_cons (pe_callB call_len_seq rfl T.b_len PySem.boot_len (pa_cons (pv 0) pa_nil)) pa_nil)) (pg_name (i := 2) sc__law_first.nd rfl (by first | exact Or.inl rfl | exact Or.inr rfl))
     (pss_one (ps_if (pt_truth (pe_call (ok__law_lies T) (hr.mono (by decide)) rfl T.g__law_lies T.F__law_lies.kp T.b__law_lies .nil pass0 (pa_cons (pe_ix ix_tup (pv 0) (pv 2) (fun _ _ => rfl)) (pa_cons (pv 1) pa_nil))) (fun _ => rfl))
     (pss_one (ps_ret (pv 2))) pss_nil)))
    (pss_one (ps_ret pe_non))), ?_⟩
  have hrl := h2.length
  refine ⟨_, rfl, p, _, rfl, .inr (SqT.of hp), _, rfl, by omega, by omega, for_range (n := rs.length) (fun i σ' H' => Same H H' /\ (∃ v, σ' = [some (.ref p), some (.ref q), v]) /\ idxP rule hs i = []) ⟨fun _ _ h => h, ⟨_, rfl⟩, rfl⟩ ?_ ?_⟩
  ·rintro i σ' H' hi ⟨s, ⟨v, rfl⟩, h0⟩
   have hir : i < rule.length := by omega
   obtain ⟨x, hx, q1, rfl, hq1⟩ := h2.at (List.getElem?_eq_getElem hir)
   have e1 : rule.getD i [] = rule[i] := by simp [hir]
   refine ⟨_, rfl, _, rfl, p, _, _, _, rfl, rfl, SqT.of (s _ _ hp), by rw [Int.zero_add]; exact atI_nat hx, ?_⟩
   refine ⟨_, rfl, q1, q, rule[i], hs, rfl, s _ _ hq1, s _ _ hq, Nat.le_trans (hlr _ (List.getElem_mem hir)) (by decide), fun H2 s2 => ⟨_, rfl, ?_⟩⟩
   have s3 := s.trans s2
   refine ite2 (fun hc => ?_) (fun hc => ⟨s3, ⟨_, rfl⟩, ?_⟩)
   ·refine ⟨_, rfl, ?_⟩
    have := k H2 s3
    rw [first_some h0 hir (by rw [e1]; exact hc)] at this
    rw [Int.zero_add]
    exact this
   ·rw [idxP_succ, e1, if_neg hc, h0]
    rfl
  ·rintro σ' H' ⟨s, _, h0⟩
   rw [<- hrl] at h0
   have := k H' s
   rw [first_none h0] at this
   exact this
def n__law_toggled : List Str := ["_law_rules", "_law_place", "_law_side", "_law_heap_here", "_law_choice", "_law_number"]
theorem sc__law_toggled : FnScope n__law_toggled ["_law_rules", "_law_place"] (defScope s__law_toggled) := ⟨rfl, rfl, rfl, by decide +kernel, rfl, by decide +kernel, by decide +kernel⟩
def sp_ltog : Sp := fun vs H Q _ => ∃ (R p q : Addr) (rs qs : List V) (one other : List (List Int)) (pl : Plc) (v : V), vs = [.ref R, v] /\ Two H R p q rs qs one other /\ PlaceV pl v H /\ isPl one other pl = true /\
 (partnerG (onR one other pl.1) pl.2 = none -> ∀ H', Same H H' -> Q .non H') /\ (∀ pc, partnerG (onR one other pl.1) pl.2 = some pc -> ∀ v' H', PlaceV (pl.1, pc) v' H' -> Same H H' -> Q v' H')
theorem ok__law_toggled (T : Txt K mg A) : FnOk P w K mg base CX0 3 A.a__law_toggled A.fd__law_toggled ["_law_rules", "_law_place"] sp_ltog := by
 refine T.F__law_toggled.ok sc__law_toggled (fun vs H Q E h => ?_) (fun cdv Ar outer s H vs Q E hr h => ?_)
 ·obtain ⟨R, p, q, rs, qs, one, other, pl, v, rfl, W, hv, hip, kN, kS⟩ := h
  rfl
 ·obtain ⟨R, p, q, rs, qs, one, other, pl, v, rfl, W, hv, hip, kN, kS⟩ := h
  refine ⟨_, (pss_cons (ps_asg (pv 1) (pg_tup rfl (pgs_cons (pg_name (i := 2) sc__law_toggled.nd rfl (by first | exact Or.inl rfl | exact Or.inr rfl)) (pgs_cons (pg_name (i := 3) sc__law_toggled.nd rfl (by first | exact Or.inl rfl | exact Or.inr rfl)) (pgs_cons (pg_name (i := 4) sc__law_toggled.nd rfl (by first | exact Or.inl rfl | exact Or.inr rfl)) pgs_nil)))))
    (pss_cons (ps_set (i := 5) sc__law_toggled.nd rfl (by first | exact Or.inl rfl | exact Or.inr rfl) (pe_call (ok__law_first T) (hr.mono (by decide)) rfl T.g__law_first T.F__law_first.kp T.b__law_first .nil pass0 (pa_cons (pe_ix ix_tup (pv 0) (pe_op op_sub (pv 2) pe_int) (fun _ _ => rfl)) (pa_cons (pv 3) pa_nil))))
    (pss_cons (ps_if (pt_cmpR op_isN (pv 5 (hv := Or.inr (Or.inl rfl))) pe_non (nomark _))
     (pss_one (ps_ret pe_non)) pss_nil)
    (pss_cons (ps_if (pt_cmpR op_in_seq (pv 5 (hv := Or.inr (Or.inl rfl))) (pv 4) rfl)
     (pss_one (ps_ret (pe_tup (pa_cons (pv 2) (pa_cons (pv 3) (pa_cons (pe_callTy call_tuple_of rfl T.b_tuple boot_tuple (pa_cons (pe_comp (ls := ["_law_one"]) (fr := [("_law_number", 5)]) (cs_of (defScope s__law_toggled) n__law_toggled rfl rfl (by decide +kernel)) rfl (pi_tup (pv 4)) (fun _ _ _ _ => pgc 0 (by decide +kernel) rfl rfl) (fun _ _ _ _ => pf_one (pt_cmpR op_ne (pvc (defScope s__law_toggled) 0) (pvc (defScope s__law_toggled) 1) (nomark _))) (fun _ _ _ _ => (pvc (defScope s__law_toggled) 0))) pa_nil)) pa_nil)))))) pss_nil)
    (pss_one (ps_ret (pe_tup (pa_cons (pv 2) (pa_cons (pv 3) (pa_cons (pe_callTy call_tuple_of rfl T.b_tuple boot_tuple (pa_cons (pe_callB call_sortT rfl T.b_sorted boot_sorted (pa_cons (pe_op op_catA (pv 4) (pe_tup (pa_cons (pv 5 (hv := Or.inr (Or.inl rfl))) pa_nil))) pa_nil)) pa_nil)) pa_nil)))))))))), ?_⟩
  obtain ⟨hs, hc⟩ := isPl_side hip
  obtain ⟨t0, a, b, rfl, g1, g2, g3⟩ := hv
  obtain ⟨sd, heap, ch⟩ := pl
  dsimp only at g1 g2 g3 hs hc kN kS
  have hcl : ch.length <= 6 := by
   have := pair_len hc
   rw [onR_len W.ln] at this
   exact Nat.le_trans this W.l6
  refine ⟨_, rfl, t0, _, rfl, SqT.of g1, rfl, _, _, rfl, _, _, rfl, _, _, rfl, rfl, ?_⟩
  obtain ⟨ra, rv, eA, hra, arv⟩ := W.on hs
  refine ⟨_, rfl, _, rfl, _, _, rfl, rfl, R, _, sd - 1, _, rfl, rfl, SqT.of W.at_, eA, _, rfl, ra, a, rv, onR one other sd, heap, rfl, hra, arv, g2, by rw [onR_len W.ln]; have := W.l6; omega, (fun h hh => Nat.le_trans (W.bR sd h hh).1 (by decide)), fun H2 sn => ?_⟩
  cases hf : firstG (onR one other sd) heap with
  | none =>
   refine ⟨_, rfl, rfl, _, rfl, ite2 (fun _ => ?_) (fun z => absurd (decide_eq_true rfl) z)⟩
   exact kN (by unfold partnerG; rw [hf]) H2 sn
  | some m =>
   have pf := pairF hc hf
   refine ⟨_, rfl, rfl, _, rfl, ite2 (fun z => ?_) (fun _ => ?_)⟩
   ·have := of_decide_eq_true z
    cases this
   refine ⟨_, rfl, _, rfl, b, _, rfl, .inr (SqT.of (sn _ _ g3)), rfl, flat_ints _, _, rfl, ?_⟩
   have ei : inV (optV (some m)) (ch.map V.int) = decide (m ∈ ch) := inV_ints m _
   rw [if_neg Bool.false_ne_true, ei]
   refine ite2 (fun z => ?_) (fun z => ?_)
   ·have hm : m ∈ ch := of_decide_eq_true z
    refine ⟨_, rfl, _, rfl, _, rfl, b, rfl, ⟨_, SqT.of (sn _ _ g3)⟩, comp_tup (xs := ch.map V.int) (fun i ys σ' H' => H' = H2 /\ (∃ v, σ' = [v, some (optV (some m))]) /\ ys = ((ch.take i).filter (fun x => !decide (x = m))).map V.int) ⟨rfl, ⟨_, rfl⟩, rfl⟩ ?_ ?_ ?_⟩
    ·rintro i ys σ' H' hi ⟨eH, _, rfl⟩
     subst eH
     refine ⟨SqT.of (sn _ _ g3), ?_⟩
     rw [List.length_map]
     have h1 := List.length_filter_le (fun x => !decide (x = m)) (ch.take i)
     have h2 : (ch.take i).length <= ch.length := by rw [List.length_take]; omega
     exact Nat.le_trans (m := 50) (by omega) (by decide)
    ·rintro i x ys σ' H' hx ⟨eH, ⟨v, rfl⟩, rfl⟩
     subst eH
     obtain ⟨z, hz, rfl⟩ := map_at hx
     have ed : (!decide (V.int z = optV (some m))) = !decide (z = m) := by
      show (!decide (V.int z = V.int m)) = _
      simp
     refine ⟨_, rfl, _, rfl, rfl, _, rfl, ?_⟩
     rw [ed]
     refine ite2 (fun hc => ⟨_, rfl, rfl, ⟨_, rfl⟩, ?_⟩) (fun hc => ⟨rfl, ⟨_, rfl⟩, ?_⟩)
     ·rw [filter_take _ hz, if_pos hc, List.map_append]
      rfl
     ·rw [filter_take _ hz, if_neg hc, List.append_nil]
    ·rintro ys σ' H3 ⟨eH, _, rfl⟩ l hl
     subst eH
     rw [List.length_map, List.take_length, pf.filt hm]
     refine ⟨l, _, rfl, .inl ⟨SqL.of upd_same, fun t ht => ?_⟩⟩
     refine ⟨by show 3 <= sizeLine; decide, fun r hr => ?_⟩
     have s3 := (Same.new (o := .lst (ch.tail.map V.int)) hl).trans (Same.new (o := .tup (ch.tail.map V.int)) ht)
     have s4 := Same.new (o := .tup [.int sd, .ref a, .ref t]) hr
     exact kS (heap, ch.tail) (by unfold partnerG; rw [hf]; exact if_pos hm) _ _ ⟨r, a, t, rfl, upd_same, s4 _ _ (s3 _ _ (sn _ _ g2)), s4 _ _ upd_same⟩ (sn.trans (s3.trans s4))
   ·have hm : ¬ m ∈ ch := fun e => z (decide_eq_true e)
    refine ⟨_, rfl, _, rfl, _, rfl, _, rfl, by show 1 <= sizeLine; decide, fun t ht => ?_⟩
    have s3 := Same.new (o := .tup [V.int m]) ht
    refine cat_one (z := m) (s3 _ _ (sn _ _ g3)) upd_same (by omega) fun v H4 hv s4 => ?_
    obtain ⟨c, rfl, gc⟩ := hv
    refine ⟨c, ch ++ [m], rfl, SqT.of gc, by rw [List.length_append]; show ch.length + 1 < 64; omega, fun so l hperm hord hl => ?_⟩
    have eso := pf.sort hperm hord
    subst eso
    refine ⟨l, _, rfl, .inl ⟨SqL.of upd_same, fun t2 ht2 => ?_⟩⟩
    refine ⟨by show 3 <= sizeLine; decide, fun r hr => ?_⟩
    have s5 := (Same.new (o := .lst ((m :: ch).map V.int)) hl).trans (Same.new (o := .tup ((m :: ch).map V.int)) ht2)
    have s6 := Same.new (o := .tup [.int sd, .ref a, .ref t2]) hr
    exact kS (heap, m :: ch) (by unfold partnerG; rw [hf]; exact if_neg hm) _ _ ⟨r, a, t2, rfl, upd_same, s6 _ _ (s5 _ _ (s4 _ _ (s3 _ _ (sn _ _ g2)))), s6 _ _ upd_same⟩ (sn.trans (s3.trans (s4.trans (s5.trans s6))))
def n__law_joined : List Str := ["_law_heaps", "_law_found", "_law_heap_here", "_law_part"]
theorem sc__law_joined : FnScope n__law_joined ["_law_heaps"] (defScope s__law_joined) := ⟨rfl, rfl, rfl, by decide +kernel, rfl, by decide +kernel, by decide +kernel⟩
def sp_law_joined : Sp := fun vs H Q _ => ∃ (a : Addr) (xs : List V) (ls : List (List Int)), vs = [.ref a] /\ H a = some (.lst xs) /\ All2 Tup1 H ls xs /\ (ls.flatten.length < 1000 /\ (joinX ls).length < 64) /\
 ∀ (p : Addr) (ms : List Int) (H' : Hp), H' p = some (.tup (ms.map V.int)) -> IsJoin ls ms -> Same H H' -> H p = none -> Q (.ref p) H'
theorem ok__law_joined (T : Txt K mg A) : FnOk P w K mg base CX0 1 A.a__law_joined A.fd__law_joined ["_law_heaps"] sp_law_joined := by
 refine T.F__law_joined.ok sc__law_joined (fun vs H Q E h => ?_) (fun cdv Ar outer s H vs Q E hr h => ?_)
 ·obtain ⟨a, xs, ls, rfl, ha, h2, ⟨hln, hjl⟩, k⟩ := h
  rfl
 ·obtain ⟨a, xs, ls, rfl, ha, h2, ⟨hln, hjl⟩, k⟩ := h
  refine ⟨_, (pss_cons (ps_set (i := 1) sc__law_joined.nd rfl (by first | exact Or.inl rfl | exact Or.inr rfl) (pe_lst pa_nil))
    (pss_cons (ps_for PassesOwn.never rfl (pi_list (pv 0)) (pg_name (i := 2) sc__law_joined.nd rfl (by first | exact Or.inl rfl | exact Or.inr rfl))
     (pss_one (ps_for PassesOwn.never rfl (pi_tup (pv 2)) (pg_name (i := 3) sc__law_joined.nd rfl (by first | exact Or.inl rfl | exact Or.inr rfl))
     (pss_one (ps_if (pt_cmpR op_lt (pe_bm PySem.F.plainAttrs_list PySem.F.slot_list_count PySem.F.type_list_count mt_countL (pv 1) (pa_cons (pv 3) pa_nil)) (pe_bm PySem.F.plainAttrs_tuple PySem.F.slot_tuple_count PySem.F.type_tuple_count mt_countT (pv 2) (pa_cons (pv 3) pa_nil)) (nomark _))
     (pss_one (ps_expr (pe_bm PySem.F.plainAttrs_list PySem.F.slot_list_append PySem.F.type_list_append mt_append (pv 1) (pa_cons (pv 3) pa_nil)))) pss_nil)))))
    (pss_one (ps_ret (pe_callTy call_tuple_of rfl T.b_tuple boot_tuple (pa_cons (pe_sortR rfl T.b_sorted (pv 1)) pa_nil)))))), ?_⟩
  refine ⟨by show 0 <= sizeLine; decide, fun f hf => ?_⟩
  have hlc : ∀ i j (x : List Int), ls[i]? = some x -> ((ls.take i).flatten ++ x.take j).length < 1000 := fun i j x hx => by
   have hi := (List.getElem?_eq_some_iff.mp hx).1
   have ex := (List.getElem?_eq_some_iff.mp hx).2
   have e1 : ls.flatten = (ls.take i).flatten ++ (x ++ (ls.drop (i + 1)).flatten) := by
    conv => lhs; rw [<- List.take_append_drop i ls]
    rw [List.flatten_append, List.drop_eq_getElem_cons hi, ex, List.flatten_cons]
   rw [e1] at hln
   simp only [List.length_append, List.length_take] at hln ⊢
   omega
  refine ⟨_, rfl, a, rfl, ⟨_, SqL.of (Same.new hf _ _ ha)⟩, for_list (xs := xs) (fun i σ' H' => (∃ v w, σ' = [some (.ref a), some (.ref f), v, w]) /\ Same H H' /\ ∃ fs : List Int, H' f = some (.lst (fs.map V.int)) /\ fs.length <= (ls.take i).flatten.length /\ ∀ x, fs.count x = maxC (ls.take i) x) ⟨⟨_, _, rfl⟩, Same.new hf, [], upd_same, Nat.le_refl _, fun _ => rfl⟩ ?_ ?_ ?_⟩
  ·rintro i σ' H' _ ⟨_, s, _⟩
   exact SqL.of (s _ _ ha)
  ·rintro i x σ' H' hx ⟨⟨v, w', rfl⟩, s, fs, gf, hfl, hfc⟩
   obtain ⟨hs, hhs, q, rfl, hq⟩ := h2.get hx
   refine ⟨_, rfl, q, rfl, ⟨_, SqT.of (s _ _ hq)⟩, for_tup (xs := hs.map V.int) (fun j σ' H' => (∃ w, σ' = [some (.ref a), some (.ref f), some (.ref q), w]) /\ Same H H' /\ ∃ fs : List Int, H' f = some (.lst (fs.map V.int)) /\ fs.length <= ((ls.take i).flatten ++ hs.take j).length /\ ∀ x, fs.count x = max (maxC (ls.take i) x) (min (hs.count x) (maxC (ls.take i) x + (hs.take j).count x))) ⟨⟨_, rfl⟩, s, fs, gf, by rw [List.take_zero, List.append_nil]; exact hfl, fun x => by rw [hfc]; simp; omega⟩ ?_ ?_ ?_⟩
   ·rintro j σ' H2 _ ⟨_, s2, _⟩
    exact SqT.of (s2 _ _ hq)
   ·rintro j x σ' H2 hx2 ⟨⟨w2, rfl⟩, s2, fs2, gf2, hfl2, hfc2⟩
    obtain ⟨z, hz, rfl⟩ := map_at hx2
    have hj := (List.getElem?_eq_some_iff.mp hz).1
    have ez := (List.getElem?_eq_some_iff.mp hz).2
    have e1 : ∀ x, (hs.take (j + 1)).count x = (hs.take j).count x + if z = x then 1 else 0 := fun x => by
     rw [List.take_succ_eq_append_getElem hj, List.count_append, ez, List.count_singleton]
     simp
    have e2 : (hs.take (j + 1)).count z <= hs.count z := List.Sublist.count_le z (List.take_sublist _ _)
    have e3 := e1 z
    rw [if_pos rfl] at e3
    have hl64 := hlc i j hs hhs
    have e4 : ((ls.take i).flatten ++ hs.take (j + 1)).length = ((ls.take i).flatten ++ hs.take j).length + 1 := by
     simp only [List.length_append, List.length_take]; omega
    refine ⟨_, rfl, .inl ⟨rfl, _, SqL.of gf2⟩, _, rfl, f, _, _, rfl, rfl, SqL.of gf2, rfl, flat_ints _, ?_⟩
    refine ⟨_, rfl, .inr (.inl ⟨rfl, .inr ⟨_, s2 _ _ hq⟩⟩), _, rfl, q, _, _, rfl, rfl, SqT.of (s2 _ _ hq), rfl, flat_ints _, ?_⟩
    refine ⟨_, _, rfl, rfl, _, rfl, ?_⟩
    rw [cntV_ints, cntV_ints]
    refine ite2 (fun hlt => ?_) (fun hlt => ?_)
    ·have hlt' : fs2.count z < hs.count z := by have := of_decide_eq_true hlt; omega
     refine ⟨_, rfl, .inl ⟨rfl, _, SqL.of gf2⟩, _, rfl, f, _, _, rfl, rfl, gf2, ?_, ⟨_, rfl⟩, ?_, fs2 ++ [z], by rw [upd_same, List.map_append]; rfl, ?_, fun x => ?_⟩
     ·rw [List.length_map]
      exact Nat.lt_of_lt_of_le (show fs2.length < 1000 by omega) (by decide)
     ·exact fun b o e => by rw [upd_ne (ne_of_none e hf)]; exact s2 _ _ e
     ·rw [e4, List.length_append]
      show fs2.length + 1 <= _
      omega
     ·rw [List.count_append, List.count_singleton, hfc2 x, e1 x]
      by_cases e : z = x
      ·subst e
       have := joinStep (hfc2 z) (by omega) hlt'
       rw [hfc2 z] at this
       simpa using this
      ·have e' : (z == x) = false := by simpa using e
       rw [if_neg e, e']
       simp
    ·have hlt' : ¬ fs2.count z < hs.count z := fun h => hlt (decide_eq_true (by omega))
     refine ⟨⟨_, rfl⟩, s2, fs2, gf2, by omega, fun x => ?_⟩
     rw [hfc2 x, e1 x]
     by_cases e : z = x
     ·subst e
      have := joinStay (hfc2 z) (by omega) hlt'
      rw [hfc2 z] at this
      simpa using this
     ·rw [if_neg e]
      simp
   ·rintro σ' H2 ⟨⟨w2, rfl⟩, s2, fs2, gf2, hfl2, hfc2⟩
    rw [List.length_map, List.take_length] at hfl2 hfc2
    have hi := (List.getElem?_eq_some_iff.mp hhs).1
    have ez := (List.getElem?_eq_some_iff.mp hhs).2
    have et : ls.take (i + 1) = ls.take i ++ [hs] := by rw [List.take_succ_eq_append_getElem hi, ez]
    refine ⟨⟨_, _, rfl⟩, s2, fs2, gf2, ?_, fun x => ?_⟩
    ·rw [et, List.flatten_append]
     simpa using hfl2
    ·rw [et, maxC_append, hfc2 x]
     show _ = max _ (max (hs.count x) 0)
     omega
  ·rintro σ' H2 ⟨⟨v, w2, rfl⟩, s2, fs2, gf2, hfl2, hfc2⟩
   rw [<- h2.length, List.take_length] at hfl2 hfc2
   refine ⟨_, rfl, f, fs2, rfl, .inl (SqL.of gf2), by rw [(List.perm_iff_count.mpr fun x => by rw [hfc2, (joinX_is ls).2] : fs2.Perm (joinX ls)).length_eq]; exact hjl, fun ms l hperm hord hl => ?_⟩
   refine ⟨l, _, rfl, .inl ⟨SqL.of upd_same, fun p hp => ?_⟩⟩
   exact k p ms _ upd_same ⟨hord, fun x => by rw [hperm.count_eq, hfc2]⟩ (s2.trans ((Same.new hl).trans (Same.new hp))) (s2.free ((Same.new hl).free hp))
def n__law_put : List Str := ["_law_one", "_law_other"]
theorem sc__law_put : FnScope n__law_put ["_law_one", "_law_other"] (defScope s__law_put) := ⟨rfl, rfl, rfl, by decide +kernel, rfl, by decide +kernel, by decide +kernel⟩
def sp_lput : Sp := fun vs H Q _ => ∃ (a b : Addr) (ns ms : List Int), vs = [.ref a, .ref b] /\ H a = some (.tup (ns.map V.int)) /\ H b = some (.tup (ms.map V.int)) /\ (ns ++ ms).length < 64 /\
 ∀ (p : Addr) (H' : Hp), H' p = some (.tup ((sortD (ns ++ ms)).map V.int)) -> Same H H' -> Q (.ref p) H'
theorem ok__law_put (T : Txt K mg A) : FnOk P w K mg base CX0 1 A.a__law_put A.fd__law_put ["_law_one", "_law_other"] sp_lput := by
 refine T.F__law_put.ok sc__law_put (fun vs H Q E h => ?_) (fun cdv Ar outer s H vs Q E hr h => ?_)
 ·obtain ⟨a, b, ns, ms, rfl, ha, hb, hl, k⟩ := h
  rfl
 ·obtain ⟨a, b, ns, ms, rfl, ha, hb, hl, k⟩ := h
  refine ⟨_, (pss_one (ps_ret (pe_callTy call_tuple_of rfl T.b_tuple boot_tuple (pa_cons (pe_sortR rfl T.b_sorted (pe_op op_catA (pv 0) (pv 1))) pa_nil)))), ?_⟩
  refine ⟨_, rfl, _, rfl, cat_any ha hb (Nat.le_trans (Nat.le_of_lt hl) (by decide)) fun v H1 hv s1 => ?_⟩
  obtain ⟨q, rfl, hq⟩ := hv
  refine ⟨q, ns ++ ms, rfl, .inr (SqT.of hq), hl, fun ns' l hperm hord hl0 => ⟨l, _, rfl, .inl ⟨SqL.of upd_same, fun d hd => ?_⟩⟩⟩
  have e := sortD_eq hperm hord
  subst e
  exact k d _ upd_same (s1.trans ((Same.new hl0).trans (Same.new hd)))
def n__law_less : List Str := ["_law_heap_here", "_law_out", "_law_rest", "_law_part"]
theorem sc__law_less : FnScope n__law_less ["_law_heap_here", "_law_out"] (defScope s__law_less) := ⟨rfl, rfl, rfl, by decide +kernel, rfl, by decide +kernel, by decide +kernel⟩
def sp_lless : Sp := fun vs H Q _ => ∃ (a b : Addr) (ns ms : List Int), vs = [.ref b, .ref a] /\ H a = some (.tup (ns.map V.int)) /\ H b = some (.tup (ms.map V.int)) /\ lies ns ms = true /\
 ∀ (p : Addr) (H' : Hp), H' p = some (.tup ((takeOut ns ms).map V.int)) -> Same H H' -> Q (.ref p) H'
theorem ok__law_less (T : Txt K mg A) : FnOk P w K mg base CX0 1 A.a__law_less A.fd__law_less ["_law_heap_here", "_law_out"] sp_lless := by
 refine T.F__law_less.ok sc__law_less (fun vs H Q E h => ?_) (fun cdv Ar outer s H vs Q E hr h => ?_)
 ·obtain ⟨a, b, ns, ms, rfl, ha, hb, hc, k⟩ := h
  rfl
 ·obtain ⟨a, b, ns, ms, rfl, ha, hb, hc, k⟩ := h
  refine ⟨_, (pss_cons (ps_set (i := 2) sc__law_less.nd rfl (by first | exact Or.inl rfl | exact Or.inr rfl) (pe_callTy call_list_of rfl T.b_list boot_list (pa_cons (pv 0) pa_nil)))
    (pss_cons (ps_for PassesOwn.never rfl (pi_tup (pv 1)) (pg_name (i := 3) sc__law_less.nd rfl (by first | exact Or.inl rfl | exact Or.inr rfl))
     (pss_one (ps_expr (pe_bm PySem.F.plainAttrs_list PySem.F.slot_list_remove PySem.F.type_list_remove mt_remove (pv 2) (pa_cons (pv 3) pa_nil)))))
    (pss_one (ps_ret (pe_callTy call_tuple_of rfl T.b_tuple boot_tuple (pa_cons (pv 2) pa_nil)))))), ?_⟩
  refine ⟨_, rfl, b, _, rfl, .inr (SqT.of hb), fun l hl0 => ?_⟩
  have s0 := Same.new (o := .lst (ms.map V.int)) hl0
  refine ⟨_, rfl, a, rfl, ⟨_, SqT.of (s0 _ _ ha)⟩, for_tup (xs := ns.map V.int) (fun i σ' H' => (∃ v, σ' = [some (.ref b), some (.ref a), some (.ref l), v]) /\ Same H H' /\ H' l = some (.lst ((takeOut (ns.take i) ms).map V.int))) ⟨⟨_, rfl⟩, s0, upd_same⟩ ?_ ?_ ?_⟩
  ·rintro i σ' H' _ ⟨_, s', _⟩
   exact SqT.of (s' _ _ ha)
  ·rintro i x σ' H' hx ⟨⟨v, rfl⟩, s', gl⟩
   obtain ⟨z, hz, rfl⟩ := map_at hx
   have hi := (List.getElem?_eq_some_iff.mp hz).1
   have ez := (List.getElem?_eq_some_iff.mp hz).2
   refine ⟨_, rfl, .inl ⟨rfl, _, SqL.of gl⟩, _, rfl, l, _, z, rfl, rfl, gl, take_in hc hz, ⟨_, rfl⟩, s'.updN hl0, ?_⟩
   rw [upd_same, List.take_succ_eq_append_getElem hi, ez, takeOut_snoc]
  ·rintro σ' H' ⟨⟨v, rfl⟩, s', gl⟩
   rw [List.length_map, List.take_length] at gl
   exact ⟨_, rfl, l, _, rfl, .inl ⟨SqL.of gl, fun p hp => k p _ upd_same (s'.trans (Same.new hp))⟩⟩
def n__law_crossed : List Str := ["_law_rules", "_law_place", "_law_side", "_law_heap_here", "_law_choice", "_law_out", "_law_more"]
theorem sc__law_crossed : FnScope n__law_crossed ["_law_rules", "_law_place"] (defScope s__law_crossed) := ⟨rfl, rfl, rfl, by decide +kernel, rfl, by decide +kernel, by decide +kernel⟩
def sp_lcrossed : Sp := fun vs H Q _ => ∃ (R p q : Addr) (rs qs : List V) (one other : List (List Int)) (pl : Plc) (v : V) (n : Int) (iw : Nat), vs = [.ref R, v] /\ H R = some (.tup [.ref p, .ref q]) /\ H p = some (.tup rs) /\ All2 Tup1 H one rs /\ H q = some (.tup qs) /\ All2 Tup1 H other qs /\ Rul one other /\ PlaceV pl v H /\ WP one other n iw pl /\ n <= 60 /\
 ∀ v' H', PlaceV (crossG one other pl) v' H' -> Same H H' -> Q v' H'
theorem ok__law_crossed (T : Txt K mg A) : FnOk P w K mg base CX0 3 A.a__law_crossed A.fd__law_crossed ["_law_rules", "_law_place"] sp_lcrossed := by
 refine T.F__law_crossed.ok sc__law_crossed (fun vs H Q E h => ?_) (fun cdv Ar outer s H vs Q E hr h => ?_)
 ·obtain ⟨R, p, q, rs, qs, one, other, pl, v, n, iw, rfl, hR, hp, h2, hq, g2, RR, hv, w, hn, k⟩ := h
  rfl
 ·obtain ⟨R, p, q, rs, qs, one, other, pl, v, n, iw, rfl, hR, hp, h2, hq, g2, RR, hv, w, hn, k⟩ := h
  refine ⟨_, (pss_cons (ps_asg (pv 1) (pg_tup rfl (pgs_cons (pg_name (i := 2) sc__law_crossed.nd rfl (by first | exact Or.inl rfl | exact Or.inr rfl)) (pgs_cons (pg_name (i := 3) sc__law_crossed.nd rfl (by first | exact Or.inl rfl | exact Or.inr rfl)) (pgs_cons (pg_name (i := 4) sc__law_crossed.nd rfl (by first | exact Or.inl rfl | exact Or.inr rfl)) pgs_nil)))))
    (pss_cons (ps_set (i := 5) sc__law_crossed.nd rfl (by first | exact Or.inl rfl | exact Or.inr rfl) (pe_call (ok__law_joined T) (hr.mono (by decide)) rfl T.g__law_joined T.F__law_joined.kp T.b__law_joined .nil pass0 (pa_cons (pe_comp (ls := ["_law_number"]) (fr := [("_law_rules", 0), ("_law_side", 2)]) (cs_of (defScope s__law_crossed) n__law_crossed rfl rfl (by decide +kernel)) rfl (pi_tup (pv 4)) (fun _ _ _ _ => pgc 0 (by decide +kernel) rfl rfl) (fun _ _ _ _ => pf_nil) (fun _ _ _ _ => (pe_ix (ix_tupK K rfl) (pe_ix (ix_tupK K rfl) (pvc (defScope s__law_crossed) 1) (pe_op op_sub (pvc (defScope s__law_crossed) 2) pe_int) (fun _ _ => rfl)) (pvc (defScope s__law_crossed) 0) (fun _ _ => rfl)))) pa_nil)))
    (pss_cons (ps_set (i := 6) sc__law_crossed.nd rfl (by first | exact Or.inl rfl | exact Or.inr rfl) (pe_call (ok__law_joined T) (hr.mono (by decide)) rfl T.g__law_joined T.F__law_joined.kp T.b__law_joined .nil pass0 (pa_cons (pe_comp (ls := ["_law_number"]) (fr := [("_law_rules", 0), ("_law_side", 2)]) (cs_of (defScope s__law_crossed) n__law_crossed rfl rfl (by decide +kernel)) rfl (pi_tup (pv 4)) (fun _ _ _ _ => pgc 0 (by decide +kernel) rfl rfl) (fun _ _ _ _ => pf_nil) (fun _ _ _ _ => (pe_ix (ix_tupK K rfl) (pe_ix (ix_tupK K rfl) (pvc (defScope s__law_crossed) 1) (pe_op op_sub pe_int (pvc (defScope s__law_crossed) 2)) (fun _ _ => rfl)) (pvc (defScope s__law_crossed) 0) (fun _ _ => rfl)))) pa_nil)))
    (pss_one (ps_ret (pe_tup (pa_cons (pe_op op_sub pe_int (pv 2 (hv := Or.inr (Or.inl rfl)))) (pa_cons (pe_call (ok__law_put T) (hr.mono (by decide)) rfl T.g__law_put T.F__law_put.kp T.b__law_put .nil pass0 (pa_cons (pe_call (ok__law_less T) (hr.mono (by decide)) rfl T.g__law_less T.F__law_less.kp T.b__law_less .nil pass0 (pa_cons (pv 3) (pa_cons (pv 5) pa_nil))) (pa_cons (pv 6) pa_nil))) (pa_cons (pv 4) pa_nil))))))))), ?_⟩
  obtain ⟨t, hh, hc, rfl, g1, g2', g3⟩ := hv
  obtain ⟨hs, hpr⟩ := isPl_side w.ip
  have hcl := w.chl RR
  have hcr := w.clen RR
  have hjl := w.jlen RR
  have hlen := w.hep.len
  have hln := RR.ln
  have h6 := RR.l6
  have hb1 := RR.b1
  have hb2 := RR.b2
  obtain ⟨sd, heap, ch⟩ := pl
  dsimp only at g1 g2' g3 hs hpr hcl hcr hjl hlen
  refine ⟨_, rfl, t, _, rfl, SqT.of g1, rfl, _, _, rfl, _, _, rfl, _, _, rfl, rfl, ?_⟩
  have hRR : ∀ s : Int, (s = 1 \/ s = 2) -> ∀ H', Same H H' -> ∃ (a : Addr) (rv : List V), atI [V.ref p, V.ref q] (s - 1) = some (.ref a) /\ H' a = some (.tup rv) /\ All2 Tup1 H' (onR one other s) rv := fun s hs H' s' => by
   rcases hs with h | h <;> subst h
   ·exact ⟨p, rs, atI_nat (j := 0) rfl, s' _ _ hp, h2.mv s'.tups⟩
   ·exact ⟨q, qs, atI_nat (j := 1) rfl, s' _ _ hq, g2.mv s'.tups⟩
  have hbR : ∀ s : Int, ∀ h ∈ onR one other s, h.length <= 64 /\ ∀ y ∈ h, 1 <= y := fun s h hh' => by
   unfold onR at hh'
   split at hh'
   ·exact hb1 h hh'
   ·exact hb2 h hh'
  have hBR : ∀ s, RuleB (onR one other s) := fun s h hh' => Nat.le_trans (hbR s h hh').1 (by decide)
  have chb : ∀ s : Int, ∀ j ∈ ch, 0 <= j /\ j < (onR one other s).length := fun s j hj => by
   have h1 := isCh_mem (pair_all hpr).1 j hj
   rw [onR_len hln] at h1 ⊢
   exact h1
  have hs' : 3 - sd = 1 \/ 3 - sd = 2 := by omega
  obtain ⟨ra1, rv1, eA1, hra1, arv1⟩ := hRR (sd) hs H (Same.refl _)
  refine ⟨_, rfl, hc, rfl, ⟨_, SqT.of ((Same.refl _) _ _ g3)⟩, comp_tup (xs := ch.map V.int) (fun i ys σ' H'' => H'' = H /\ (∃ v, σ' = [v, some (.ref R), some (.int sd)]) /\ All2 Tup1 H (pickG (onR one other (sd)) (ch.take i)) ys) ⟨rfl, ⟨_, rfl⟩, .nil⟩ ?_ ?_ ?_⟩
  ·rintro i ys σ' H'' hi ⟨rfl, _, h3⟩
   refine ⟨SqT.of ((Same.refl _) _ _ g3), ?_⟩
   rw [<- h3.length]
   unfold pickG
   rw [List.length_map, List.length_take]
   exact small64 (by omega)
  ·rintro i x ys σ' H'' hx ⟨rfl, ⟨v, rfl⟩, h3⟩
   obtain ⟨z, hz, rfl⟩ := map_at hx
   have hi := (List.getElem?_eq_some_iff.mp hz).1
   have ez := (List.getElem?_eq_some_iff.mp hz).2
   have hb := chb (sd) z (List.mem_of_getElem? hz)
   obtain ⟨w', hw, r⟩ := pick_at arv1 hb.1 hb.2
   refine ⟨_, rfl, _, rfl, _, _, rfl, rfl, R, _, sd - 1, _, rfl, rfl, SqT.of ((Same.refl _) _ _ hR), eA1, _, rfl, ra1, _, z, _, rfl, rfl, SqT.of hra1, hw, rfl, ⟨_, rfl⟩, ?_⟩
   rw [List.take_succ_eq_append_getElem hi, ez]
   unfold pickG
   rw [List.map_append]
   exact h3.snoc r
  rintro ys σ' H'' ⟨rfl, _, h3⟩ l hl0
  rw [List.length_map, List.take_length] at h3
  refine ⟨l, ys, _, rfl, upd_same, h3.mv (Same.new hl0).tups, ⟨(hBR sd).pick hcl, by have := hjl sd; omega⟩, fun j1 ms H1 hj1 hjn sD _ => ?_⟩
  have e1 := joinX_eq hjn
  have s1 := (Same.new (o := .lst ys) hl0).trans sD
  obtain ⟨ra2, rv2, eA2, hra2, arv2⟩ := hRR (3 - sd) hs' H1 s1
  refine ⟨_, rfl, hc, rfl, ⟨_, SqT.of (s1 _ _ g3)⟩, comp_tup (xs := ch.map V.int) (fun i ys σ' H'' => H'' = H1 /\ (∃ v, σ' = [v, some (.ref R), some (.int sd)]) /\ All2 Tup1 H1 (pickG (onR one other (3 - sd)) (ch.take i)) ys) ⟨rfl, ⟨_, rfl⟩, .nil⟩ ?_ ?_ ?_⟩
  ·rintro i ys σ' H'' hi ⟨rfl, _, h3⟩
   refine ⟨SqT.of (s1 _ _ g3), ?_⟩
   rw [<- h3.length]
   unfold pickG
   rw [List.length_map, List.length_take]
   exact small64 (by omega)
  ·rintro i x ys σ' H'' hx ⟨rfl, ⟨v, rfl⟩, h3⟩
   obtain ⟨z, hz, rfl⟩ := map_at hx
   have hi := (List.getElem?_eq_some_iff.mp hz).1
   have ez := (List.getElem?_eq_some_iff.mp hz).2
   have hb := chb (3 - sd) z (List.mem_of_getElem? hz)
   obtain ⟨w', hw, r⟩ := pick_at arv2 hb.1 hb.2
   refine ⟨_, rfl, _, rfl, _, _, rfl, rfl, R, _, 2 - sd, _, rfl, rfl, SqT.of (s1 _ _ hR), (by rw [show (2 - sd : Int) = 3 - sd - 1 by omega]; exact eA2), _, rfl, ra2, _, z, _, rfl, rfl, SqT.of hra2, hw, rfl, ⟨_, rfl⟩, ?_⟩
   rw [List.take_succ_eq_append_getElem hi, ez]
   unfold pickG
   rw [List.map_append]
   exact h3.snoc r
  rintro ys2 σ' H2 ⟨rfl, _, h32⟩ l2 hl2
  rw [List.length_map, List.take_length] at h32
  refine ⟨l2, ys2, _, rfl, upd_same, h32.mv (Same.new hl2).tups, ⟨(hBR (3 - sd)).pick hcl, by have := hjl (3 - sd); omega⟩, fun j2 ms2 H3 hj2 hjn2 sE _ => ?_⟩
  have e2 := joinX_eq hjn2
  have s2 := (Same.new (o := .lst ys2) hl2).trans sE
  have s03 := s1.trans s2
  have hlj : lies ms heap = true := by rw [<- e1]; exact pair_join hpr
  rw [e1, e2] at hcr
  refine ⟨_, rfl, _, _, rfl, rfl, _, rfl, _, rfl, j1, hh, ms, heap, rfl, s2 _ _ hj1, s03 _ _ g2', hlj, fun t6 H6 ht6 s6 => ?_⟩
  refine ⟨_, rfl, t6, j2, takeOut ms heap, ms2, rfl, ht6, s6 _ _ hj2, by omega, fun p8 H8 hp8 s8 => ?_⟩
  refine ⟨_, rfl, by show 3 <= sizeLine; decide, fun t9 ht9 => ?_⟩
  have s9 := Same.new (o := .tup [V.int (3 - sd), V.ref p8, V.ref hc]) ht9
  have s09 := s03.trans (s6.trans (s8.trans s9))
  refine k _ _ ⟨t9, p8, hc, rfl, upd_same, ?_, s09 _ _ g3⟩ s09
  show _ = some (HO.tup ((sortD (takeOut (joinX (pickG (onR one other sd) ch)) heap ++ joinX (pickG (onR one other (3 - sd)) ch))).map V.int))
  rw [e1, e2]
  exact s9 _ _ hp8
def n__law_walk : List Str := ["_law_rules", "_law_heap_here", "_law_limit", "_law_rows", "_law_further"]
theorem sc__law_walk : FnScope n__law_walk ["_law_rules", "_law_heap_here", "_law_limit"] (defScope s__law_walk) := ⟨rfl, rfl, rfl, by decide +kernel, rfl, by decide +kernel, by decide +kernel⟩
def sp_lwalk : Sp := fun vs H Q _ => ∃ (R h p q : Addr) (rs qs : List V) (one other : List (List Int)) (hs : List Int) (n : Int) (L : Nat), vs = [.ref R, .ref h, .int (L : Int)] /\ Two H R p q rs qs one other /\ Rul one other /\ H h = some (.tup (hs.map V.int)) /\ Hep n hs /\ n <= 60 /\ L <= 100000 /\
 ∀ (l : Addr) (k : Nat) (xs : List V) (H' : Hp), H' l = some (.lst xs) -> All2 PlaceV H' (walkL one other hs k) xs -> Live one other hs k -> ((EndAt one other hs k /\ k + 1 <= L) \/ k = L) -> Same H H' -> H l = none -> Q (.ref l) H'
theorem ok__law_walk (T : Txt K mg A) : FnOk P w K mg base CX0 4 A.a__law_walk A.fd__law_walk ["_law_rules", "_law_heap_here", "_law_limit"] sp_lwalk := by
 refine T.F__law_walk.ok sc__law_walk (fun vs H Q E h => ?_) (fun cdv Ar outer s H vs Q E hr h => ?_)
 ·obtain ⟨R, h, p, q, rs, qs, one, other, hs, n, L, rfl, W, RR, gh, hh, hn, hL, k⟩ := h
  rfl
 ·obtain ⟨R, h, p, q, rs, qs, one, other, hs, n, L, rfl, W, RR, gh, hh, hn, hL, k⟩ := h
  refine ⟨_, (pss_cons (ps_set (i := 3) sc__law_walk.nd rfl (by first | exact Or.inl rfl | exact Or.inr rfl) (pe_lst (pa_cons (pe_tup (pa_cons pe_int (pa_cons (pv 1) (pa_cons (pe_tup pa_nil) pa_nil)))) pa_nil)))
    (pss_cons (ps_while PassesOwn.never (pt_cmpR op_le (pe_callB call_len_seq rfl T.b_len PySem.boot_len (pa_cons (pv 3) pa_nil)) (pv 2) (nomark _))
     (pss_one (ps_if (pt_cmpR op_eq (pe_op op_mod (pe_callB call_len_seq rfl T.b_len PySem.boot_len (pa_cons (pv 3) pa_nil)) pe_int) pe_int (nomark _))
     (pss_one (ps_expr (pe_bm PySem.F.plainAttrs_list PySem.F.slot_list_append PySem.F.type_list_append mt_append (pv 3) (pa_cons (pe_call (ok__law_crossed T) (hr.mono (by decide)) rfl T.g__law_crossed T.F__law_crossed.kp T.b__law_crossed .nil pass0 (pa_cons (pv 0) (pa_cons (pe_ix ix_list (pv 3) (pe_un un_neg pe_int) (fun _ _ => rfl)) pa_nil))) pa_nil)))) (pss_cons (ps_set (i := 4) sc__law_walk.nd rfl (by first | exact Or.inl rfl | exact Or.inr rfl) (pe_call (ok__law_toggled T) (hr.mono (by decide)) rfl T.g__law_toggled T.F__law_toggled.kp T.b__law_toggled .nil pass0 (pa_cons (pv 0) (pa_cons (pe_ix ix_list (pv 3) (pe_un un_neg pe_int) (fun _ _ => rfl)) pa_nil))))
    (pss_cons (ps_if (pt_cmpR op_isN (pv 4) pe_non (nomark _))
     (pss_one (ps_ret (pv 3))) pss_nil)
    (pss_one (ps_expr (pe_bm PySem.F.plainAttrs_list PySem.F.slot_list_append PySem.F.type_list_append mt_append (pv 3) (pa_cons (pv 4) pa_nil)))))))))
    (pss_one (ps_ret (pv 3))))), ?_⟩
  refine ⟨_, rfl, by show 0 <= sizeLine; decide, fun c0 hc0 => ⟨by show 3 <= sizeLine; decide, fun t ht => ⟨by show 1 <= sizeLine; decide, fun l hl => ?_⟩⟩⟩
  have sT := (Same.new (o := .tup []) hc0).trans (Same.new (o := .tup [V.int 1, V.ref h, V.ref c0]) ht)
  have sL := sT.trans (Same.new (o := .lst [V.ref t]) hl)
  have nl : H l = none := sT.free hl
  have gt := Same.new (o := .lst [V.ref t]) hl _ _ (upd_same (H := upd H c0 (.tup [])) (a := t) (o := .tup [V.int 1, V.ref h, V.ref c0]))
  have gc := Same.new (o := .lst [V.ref t]) hl _ _ (Same.new (o := .tup [V.int 1, V.ref h, V.ref c0]) ht _ _ (upd_same (H := H) (a := c0) (o := .tup [])))
  refine ⟨fun m σ' H' => ∃ (k : Nat) (xs : List V) (v4 : Option V), m = L - k /\ k <= L /\ σ' = [some (.ref R), some (.ref h), some (.int (L : Int)), some (.ref l), v4] /\ H' l = some (.lst xs) /\ All2 PlaceV H' (walkL one other hs k) xs /\ Live one other hs k /\ Same H H', ⟨_, 0, [V.ref t], _, rfl, Nat.zero_le _, rfl, upd_same, .cons ⟨t, h, c0, rfl, gt, sL _ _ gh, gc⟩ .nil, fun i hi => absurd hi (Nat.not_lt_zero _), sL⟩, ?_⟩
  clear gt gc sL sT hl ht hc0
  rintro m σ' H' ⟨k', xs, v4, rfl, hkL, rfl, gl, a2, Lv, s⟩
  obtain ⟨ys, v, rfl, hy, hv⟩ := walk_last a2
  have w := wk_ok RR hh k' Lv
  have lx : ((ys ++ [v]).length : Int) = (k' : Int) + 1 := by rw [List.length_append, hy]; rfl
  have hly : (ys ++ [v]).length < sizeLine := by
   rw [List.length_append, hy]
   exact Nat.lt_of_le_of_lt (show k' + 1 <= 1000001 by omega) (by decide)
  have fin : ∀ (H2 : Hp) (v' : V) (v4 : Option V), PlaceV (wk one other hs (k' + 1)) v' H2 -> Live one other hs (k' + 1) -> Same H' H2 -> k' + 1 <= L -> ∃ m', m' < L - k' /\ ∃ (k : Nat) (xs : List V) (v5 : Option V), m' = L - k /\ k <= L /\ [some (V.ref R), some (V.ref h), some (V.int (L : Int)), some (V.ref l), v4] = [some (.ref R), some (.ref h), some (.int (L : Int)), some (.ref l), v5] /\ upd H2 l (.lst (ys ++ [v] ++ [v'])) l = some (.lst xs) /\ All2 PlaceV (upd H2 l (.lst (ys ++ [v] ++ [v']))) (walkL one other hs k) xs /\ Live one other hs k /\ Same H (upd H2 l (.lst (ys ++ [v] ++ [v']))) := fun H2 v' v4 hv' L' s2 hc => by
   have tS : Tups H2 (upd H2 l (.lst (ys ++ [v] ++ [v']))) := Tups.set (s2 _ _ gl)
   exact ⟨L - (k' + 1), by omega, k' + 1, _, _, rfl, hc, rfl, upd_same, walk_snoc a2 (s2.tups.trans tS) (PlaceV.mv tS hv'), L', (s.trans s2).updN nl⟩
  refine ⟨_, rfl, l, _, rfl, .inl (SqL.of gl), _, rfl, _, _, rfl, rfl, _, rfl, ite2 (fun hc => ?_) (fun hc => ?_)⟩
  ·have hc' : k' + 1 <= L := by
    have := of_decide_eq_true hc
    rw [lx] at this
    omega
   refine ⟨_, fun σ' H' h => h, ?_⟩
   refine ⟨_, rfl, l, _, rfl, .inl (SqL.of gl), _, _, rfl, rfl, by omega, rfl, _, rfl, ite2 (fun h1 => ?_) (fun h1 => ?_)⟩
   ·have e0 : k' % 2 = 0 := by
     have : ((ys ++ [v]).length : Int) % 2 = 1 := V.int.inj (of_decide_eq_true h1)
     rw [lx] at this
     omega
    refine ⟨_, rfl, .inl ⟨rfl, _, SqL.of gl⟩, _, rfl, _, rfl, _, rfl, l, _, _, _, rfl, rfl, SqL.of gl, atI_last _ _, R, p, q, rs, qs, one, other, _, v, n, k', rfl, s _ _ W.at_, s _ _ W.hp, W.h2.mv s.tups, s _ _ W.hq, W.g2.mv s.tups, RR, hv, w, hn, fun v' H2 hv' s2 => ⟨l, _, _, rfl, rfl, s2 _ _ gl, hly, fin H2 v' _ ?_ (Lv.next fun z => by have := z.od; omega) s2 hc'⟩⟩
    rw [wk, if_pos e0]
    exact hv'
   ·have e0 : ¬ k' % 2 = 0 := fun z => h1 (decide_eq_true (congrArg V.int (show ((ys ++ [v]).length : Int) % 2 = 1 by rw [lx]; omega)))
    refine ⟨_, rfl, _, rfl, _, rfl, l, _, _, _, rfl, rfl, SqL.of gl, atI_last _ _, R, p, q, rs, qs, one, other, _, v, rfl, W.mv s.tups, hv, w.ip, fun hno H2 s2 => ?_, fun pc hpc v' H2 hv' s2 => ?_⟩
    ·refine ⟨_, rfl, rfl, _, rfl, ite2 (fun _ => ?_) (fun z => absurd (decide_eq_true rfl) z)⟩
     exact ⟨_, rfl, k l k' _ H2 (s2 _ _ gl) (a2.imp fun _ _ z => z.mv s2.tups) Lv (.inl ⟨⟨Lv, by omega, partner_none.mp hno⟩, hc'⟩) (s.trans s2) nl⟩
    ·obtain ⟨t9, h9, c9, rfl, q1, q2, q3⟩ := id hv'
     refine ⟨_, rfl, rfl, _, rfl, ite2 (fun z => by have := of_decide_eq_true z; cases this) (fun _ => ?_)⟩
     refine ⟨_, rfl, .inl ⟨rfl, _, SqL.of (s2 _ _ gl)⟩, _, rfl, l, _, _, rfl, rfl, s2 _ _ gl, hly, fin H2 _ _ ?_ (Lv.next fun z => ?_) s2 hc'⟩
     ·rw [wk, if_neg e0, tog_of hpc]
      exact hv'
     ·have := partner_none.mpr z.no
      rw [hpc] at this
      cases this
  ·have hc' : L <= k' := by
    refine Nat.le_of_not_lt fun z => hc (decide_eq_true ?_)
    rw [lx]
    omega
   exact ⟨_, rfl, k l k' _ H' gl a2 Lv (.inr (by omega)) s nl⟩
def n__law_keepers : List Str := ["_law_rule_here", "_law_n"]
theorem sc__law_keepers : FnScope n__law_keepers ["_law_rule_here", "_law_n"] (defScope s__law_keepers) := ⟨rfl, rfl, rfl, by decide +kernel, rfl, by decide +kernel, by decide +kernel⟩
def sp_keepers : Sp := fun vs H Q _ => ∃ (p : Addr) (rs : List V) (rule : List (List Int)) (m : Nat), vs = [.ref p, .int (m : Int)] /\ H p = some (.tup rs) /\ All2 Tup1 H rule rs /\ rule.length <= 60 /\ (∀ h ∈ rule, h.length <= 1000) /\ m <= 24 /\
 ∀ (l : Addr) (xs : List V) (H' : Hp), H' l = some (.lst xs) -> All2 Tup1 H' (keptG rule m) xs -> Same H H' -> H l = none -> Q (.ref l) H'
theorem ok__law_keepers (T : Txt K mg A) : FnOk P w K mg base CX0 27 A.a__law_keepers A.fd__law_keepers ["_law_rule_here", "_law_n"] sp_keepers := by
 refine T.F__law_keepers.ok sc__law_keepers (fun vs H Q E h => ?_) (fun cdv Ar outer s H vs Q E hr h => ?_)
 ·obtain ⟨p, rs, rule, m, rfl, hp, h2, hln, hlr, hm, k⟩ := h
  rfl
 ·obtain ⟨p, rs, rule, m, rfl, hp, h2, hln, hlr, hm, k⟩ := h
  refine ⟨_, (pss_one (ps_ret (pe_comp (ls := ["_law_heap_here"]) (fr := [("_law_rule_here", 0)]) (cs_of (defScope s__law_keepers) n__law_keepers rfl rfl (by decide +kernel)) rfl (pi_list (pe_call (ok__law_partings T) (hr.mono (by decide)) rfl T.g__law_partings T.F__law_partings.kp T.b__law_partings .nil pass0 (pa_cons (pv 1) (pa_cons (pv 1) pa_nil)))) (fun _ _ _ _ => pgc 0 (by decide +kernel) rfl rfl) (fun _ _ _ _ => pf_one (pt_cmpR op_isN (pe_call (ok__law_first T) (hr.mono (by decide)) (glc (defScope s__law_keepers)) T.g__law_first T.F__law_first.kp T.b__law_first .nil pass0 (pa_cons (pvc (defScope s__law_keepers) 1) (pa_cons (pvc (defScope s__law_keepers) 0) pa_nil))) pe_non (nomark _))) (fun _ _ _ _ => (pvc (defScope s__law_keepers) 0))))), ?_⟩
  refine ⟨_, rfl, _, rfl, m, m, by omega, rfl, hm, by omega, fun l xs H1 gl h1 s1 nl => ?_⟩
  have hlx : xs.length <= sizeLine := by rw [<- h1.length]; exact Nat.le_trans (partF_len _ _ _) (pow24 hm)
  refine ⟨l, rfl, ⟨_, SqL.of gl⟩, comp_list (xs := xs) (fun i ys σ' H' => Same H1 H' /\ (∃ v, σ' = [v, some (.ref p)]) /\ ys.length <= i /\ All2 Tup1 H' (((partF 26 m m).take i).filter fun h => (firstG rule h).isNone) ys) ⟨fun _ _ h => h, ⟨_, rfl⟩, Nat.le_refl _, .nil⟩ ?_ ?_ ?_⟩
  ·rintro i ys σ' H' hi ⟨s, _, hy, _⟩
   exact ⟨SqL.of (s _ _ gl), by omega⟩
  ·rintro i x ys σ' H' hx ⟨s, ⟨v, rfl⟩, hy, h3⟩
   obtain ⟨hs, hhs, q, rfl, hq⟩ := h1.get hx
   have sn := s1.trans s
   refine ⟨_, rfl, _, rfl, p, q, rs, rule, hs, rfl, sn _ _ hp, h2.mv sn.tups, s _ _ hq, hln, hlr, fun H2 s2 => ⟨rfl, _, rfl, ?_⟩⟩
   rw [optV_none]
   refine ite2 (fun hc => ⟨_, rfl, s.trans s2, ⟨_, rfl⟩, by simp; omega, ?_⟩) (fun hc => ⟨s.trans s2, ⟨_, rfl⟩, by omega, ?_⟩)
   ·rw [filter_take _ hhs, if_pos hc]
    exact (h3.mv s2.tups).snoc ⟨q, rfl, s2 _ _ (s _ _ hq)⟩
   ·rw [filter_take _ hhs, if_neg hc, List.append_nil]
    exact h3.mv s2.tups
  ·rintro ys σ' H' ⟨s, _, hy, h3⟩ l2 hl2
   rw [<- h1.length, List.take_length] at h3
   have sn := s1.trans (s.trans (Same.new (o := .lst ys) hl2))
   exact k l2 ys _ upd_same (h3.mv (Same.new hl2).tups) sn ((s1.trans s).free hl2)
def n__law_due : List Str := ["_law_rules", "_law_rows"]
theorem sc__law_due : FnScope n__law_due ["_law_rules", "_law_rows"] (defScope s__law_due) := ⟨rfl, rfl, rfl, by decide +kernel, rfl, by decide +kernel, by decide +kernel⟩
def sp_ldue : Sp := fun vs H Q _ => ∃ (Rr l p q : Addr) (rs qs : List V) (one other : List (List Int)) (rows : List Plc) (xs : List V), vs = [.ref Rr, .ref l] /\ Two H Rr p q rs qs one other /\ Rul one other /\ H l = some (.lst xs) /\ All2 PlaceV H rows xs /\ rows.length <= 1000 /\ (∀ r ∈ rows, PRow r) /\ ∀ H', Same H H' -> Q (.bl (isWB one other rows)) H'
theorem ok__law_due (T : Txt K mg A) : FnOk P w K mg base CX0 6 A.a__law_due A.fd__law_due ["_law_rules", "_law_rows"] sp_ldue := by
 refine T.F__law_due.ok sc__law_due (fun vs H Q E h => ?_) (fun cdv Ar outer s H vs Q E hr h => ?_)
 ·obtain ⟨Rr, l, p, q, rs, qs, one, other, rows, xs, rfl, W, R, gl, a2, hlen, hg, k⟩ := h
  rfl
 ·obtain ⟨Rr, l, p, q, rs, qs, one, other, rows, xs, rfl, W, R, gl, a2, hlen, hg, k⟩ := h
  refine ⟨_, (pss_cons (ps_if (PW.pt (pw_or (pt_not (pt_truth (pv 1) (fun _ => rfl))) (pw_or1 (pt_cmpR op_notN (pe_call (ok__law_first T) (hr.mono (by decide)) rfl T.g__law_first T.F__law_first.kp T.b__law_first .nil pass0 (pa_cons (pe_ix ix_tup (pv 0) pe_int (fun _ _ => rfl)) (pa_cons (pe_ix ix_tup (pe_ix ix_list (pv 1) pe_int (fun _ _ => rfl)) pe_int (fun _ _ => rfl)) pa_nil))) pe_non (nomark _)))))
     (pss_one (ps_ret pe_bl)) pss_nil)
    (pss_one (ps_ret (pe_cmpR (op_eqL' eqk_place (huR hr)) (pv 1) (pe_call (ok__law_walk T) (hr.mono (by decide)) rfl T.g__law_walk T.F__law_walk.kp T.b__law_walk .nil pass0 (pa_cons (pv 0) (pa_cons (pe_ix ix_tup (pe_ix ix_list (pv 1) pe_int (fun _ _ => rfl)) pe_int (fun _ _ => rfl)) (pa_cons (pe_callB call_len_seq rfl T.b_len PySem.boot_len (pa_cons (pv 1) pa_nil)) pa_nil)))) (nomark _))))), ?_⟩
  have lx := a2.length
  have l6 := W.l6
  by_cases hemp : xs = []
  ·refine ⟨_, rfl, false, .inl ⟨_, SqL.of gl, by rw [hemp]; rfl⟩, iteT (iteT ?_)⟩
   have e : rows = [] := List.eq_nil_of_length_eq_zero (by rw [lx, hemp]; rfl)
   have := k H (Same.refl _)
   rw [e, isWB_nil] at this
   exact this
  have hne : true = !xs.isEmpty := by
   cases xs with
   | nil => exact absurd rfl hemp
   | cons _ _ => rfl
  have hpos : 0 < rows.length := by rw [lx]; exact List.length_pos_iff.mpr hemp
  obtain ⟨r, hr⟩ : ∃ r, rows.head? = some r := by
   cases rows with
   | nil => cases hpos
   | cons r t => exact ⟨r, rfl⟩
  obtain ⟨⟨n, hn, hep⟩, _⟩ := hg r (List.mem_of_head? hr)
  obtain ⟨v, hv, t, h, c, rfl, g1, g2, g3⟩ := a2.head hr
  refine ⟨_, rfl, true, .inl ⟨_, SqL.of gl, hne⟩, iteF ⟨_, rfl, Rr, _, 0, _, rfl, rfl, SqT.of W.at_, atI_nat (j := 0) rfl, _, rfl, l, _, 0, _, rfl, rfl, SqL.of gl, atI_nat (j := 0) hv, t, _, 1, _, rfl, rfl, SqT.of g1, atI_nat (j := 1) rfl, p, h, rs, one, r.2.1, rfl, W.hp, W.h2, g2, by omega, (fun h hh => Nat.le_trans (W.b1 h hh).1 (by decide)), fun H1 s1 => ?_⟩⟩
  cases hf : firstG one r.2.1 with
  | some z =>
   refine ⟨rfl, _, rfl, ite2 (fun _ => ?_) (fun y => absurd rfl y)⟩
   have := k H1 s1
   rw [isWB_no hr (by rw [hf]; exact fun z => by cases z)] at this
   exact this
  | none =>
   refine ⟨rfl, _, rfl, ite2 (fun y => by simp [optV] at y) (fun _ => ?_)⟩
   refine ⟨_, rfl, _, rfl, _, rfl, l, _, 0, _, rfl, rfl, SqL.of (s1 _ _ gl), atI_nat (j := 0) hv, t, _, 1, _, rfl, rfl, SqT.of (s1 _ _ g1), atI_nat (j := 1) rfl, _, rfl, l, _, rfl, .inl (SqL.of (s1 _ _ gl)), Rr, h, p, q, rs, qs, one, other, r.2.1, n, xs.length, rfl, W.mv s1.tups, R, s1 _ _ g2, hep, by omega, by omega, fun l2 k' ys H2 gl2 b2 L he s2 nl2 => ?_⟩
   have s12 := s1.trans s2
   refine ⟨rows, _, ⟨l, xs, rfl, SqL.of (s12 _ _ gl), a2.imp fun _ _ z => z.mv s12.tups⟩, ⟨l2, ys, rfl, SqL.of gl2, b2⟩, ?_⟩
   have := k H2 s12
   rw [isWB_eq hr hf L (he.elim (fun z => .inl z.1) fun z => .inr (by omega))] at this
   exact this
def n__law_other_heap : List Str := ["_law_state", "_law_heap_here"]
theorem sc__law_other_heap : FnScope n__law_other_heap ["_law_state", "_law_heap_here"] (defScope s__law_other_heap) := ⟨rfl, rfl, rfl, by decide +kernel, rfl, by decide +kernel, by decide +kernel⟩
def sp_oheap : Sp := fun vs H Q _ => ∃ (st ga ca : Addr) (N : Nat) (h : Addr) (hs : List Int) (n : Int), vs = [.ref st, .ref h] /\ StAt H st ga ca N /\ N <= 10 ^ 6 /\ H h = some (.tup (hs.map V.int)) /\ Hep n hs /\ n <= 50 /\
 ∀ (p : Addr) (hs' : List Int) (n' : Int) (H' : Hp), H' p = some (.tup (hs'.map V.int)) -> Hep n' hs' -> n' <= n + 4 -> StAt H' st ga ca (N + 20) -> Keep [st, ga] H H' -> Q (.ref p) H'
theorem ok__law_other_heap (T : Txt K mg A) : FnOk P w K mg base CX0 4 A.a__law_other_heap A.fd__law_other_heap ["_law_state", "_law_heap_here"] sp_oheap := by
 refine T.F__law_other_heap.ok sc__law_other_heap (fun vs H Q E h => ?_) (fun cdv Ar outer s H vs Q E hr h => ?_)
 ·obtain ⟨st, ga, ca, N, h, hs, n, rfl, S, hN, gh, hep, hn, k⟩ := h
  rfl
 ·obtain ⟨st, ga, ca, N, h, hs, n, rfl, S, hN, gh, hep, hn, k⟩ := h
  refine ⟨_, (pss_cons (ps_if (PW.pt (pw_and (pt_truth (pv 1) (fun _ => rfl)) (pw_and (pt_cmpR op_gt (pe_ix ix_tup (pv 1) pe_int (fun _ _ => rfl)) pe_int (nomark _)) (pw_and1 (pt_cmpR op_eq (pe_call (ok__law_draw T) (hr.mono (by decide)) rfl T.g__law_draw T.F__law_draw.kp T.b__law_draw .nil pass0 (pa_cons (pv 0) (pa_cons pe_int pa_nil))) pe_int (nomark _))))))
     (pss_one (ps_ret (pe_callTy call_tuple_of rfl T.b_tuple boot_tuple (pa_cons (pe_sortR rfl T.b_sorted (pe_op op_catA (pe_tup (pa_cons (pe_op op_sub (pe_ix ix_tup (pv 1) pe_int (fun _ _ => rfl)) pe_int) (pa_cons pe_int pa_nil))) (pe_slice sl_tupA (pv 1) (po_some pe_int) po_none))) pa_nil)))) pss_nil)
    (pss_one (ps_ret (pe_callTy call_tuple_of rfl T.b_tuple boot_tuple (pa_cons (pe_sortR rfl T.b_sorted (pe_op op_catA (pv 1) (pe_tup (pa_cons (pe_op op_add pe_int (pe_call (ok__law_draw T) (hr.mono (by decide)) rfl T.g__law_draw T.F__law_draw.kp T.b__law_draw .nil pass0 (pa_cons (pv 0) (pa_cons pe_int pa_nil)))) pa_nil)))) pa_nil))))), ?_⟩
  have hlen := hep.len
  dsimp only [tNext]
  refine seqJoin (fun σ' H' => σ' = [some (.ref st), some (.ref h)] /\ StAt H' st ga ca (N + 7) /\ Keep [st, ga] H H') (fun nx hnx => ?_) ?_
  ·cases hs with
   | nil => exact ⟨_, rfl, false, .inr (.inl ⟨_, SqT.of gh, rfl⟩), iteF (iteF (hnx _ _ ⟨rfl, S.mono (by omega), Keep.refl _ _⟩))⟩
   | cons x r =>
    refine ⟨_, rfl, true, .inr (.inl ⟨_, SqT.of gh, rfl⟩), iteT ⟨_, rfl, h, _, 0, _, rfl, rfl, SqT.of gh, atI0 _ _, _, _, rfl, rfl, _, rfl, ite2 (fun h1 => ?_) (fun h1 => iteF (hnx _ _ ⟨rfl, S.mono (by omega), Keep.refl _ _⟩))⟩⟩
    refine ⟨_, rfl, st, ga, ca, _, 2, rfl, S, by omega, by decide, by decide, fun d H1 d0 d1 S1 K1 => ⟨rfl, _, rfl, ite2 (fun h2 => ?_) (fun h2 => hnx _ _ ⟨rfl, S1, K1⟩)⟩⟩
    have h1' : 1 < x := of_decide_eq_true h1
    have g1 := K1.tups S _ _ gh
    have hsum := hep.sum
    rw [List.sum_cons] at hsum
    rw [List.length_cons] at hlen
    refine ⟨_, rfl, h, _, 0, _, rfl, rfl, SqT.of g1, atI0 _ _, _, _, rfl, rfl, by show 2 <= sizeLine; decide, fun t1 ht1 => ?_⟩
    have s1 := Same.new (o := .tup [V.int (x - 1), V.int 1]) ht1
    have u1 := upd_same (H := H1) (a := t1) (o := .tup [V.int (x - 1), V.int 1])
    refine ⟨_, rfl, _, rfl, ?_⟩
    dsimp only [tNoPart, tNil] at s1 u1 ⊢
    generalize upd H1 t1 (.tup [V.int (x - 1), V.int 1]) = H2 at s1 u1 ⊢
    refine slice_any (s1 _ _ g1) fun t2 H3 ht2 s2 => ?_
    have e : cutV ((x :: r).map V.int) (some 1) none = r.map V.int := by
     rw [show (1 : Int) = ((1 : Nat) : Int) from rfl, cut_rest]
     rfl
    rw [e] at ht2
    refine cat_any (hs := [x - 1, 1]) (ms := r) (s2 _ _ u1) ht2 (by simp; omega) fun v H4 hv s3 => ?_
    obtain ⟨c, rfl, gc⟩ := hv
    refine ⟨c, [x - 1, 1] ++ r, rfl, .inr (SqT.of gc), by simp; omega, fun so l2 hperm hord hl2 => ⟨l2, _, rfl, .inl ⟨SqL.of upd_same, fun t4 ht4 => ?_⟩⟩⟩
    have eso := sortD_eq hperm hord
    subst eso
    have sA := s1.trans (s2.trans (s3.trans ((Same.new hl2).trans (Same.new (o := .tup ((sortD ([x - 1, 1] ++ r)).map V.int)) ht4))))
    refine k t4 _ n _ upd_same ⟨sortD_pw _, fun y hy => ?_, ?_⟩ (by omega) ((S1.same sA).mono (by omega)) (K1.trans sA.keep)
    ·rcases List.mem_append.mp ((sortD_perm _).mem_iff.mp hy) with hy | hy
     ·have : y = x - 1 \/ y = 1 := by simpa using hy
      omega
     ·exact hep.pos y (List.mem_cons_of_mem _ hy)
    ·rw [perm_sum (sortD_perm _), List.sum_append]
     simp
     omega
  ·rintro σ' H1 ⟨rfl, S1, K1⟩
   refine ⟨_, rfl, _, rfl, st, ga, ca, _, 4, rfl, S1, by omega, by decide, by decide, fun d H2 d0 d1 S2 K2 => ⟨_, _, rfl, rfl, by show 1 <= sizeLine; decide, fun t1 ht1 => ?_⟩⟩
   have s1 := Same.new (o := .tup [V.int (1 + d)]) ht1
   have u1 := upd_same (H := H2) (a := t1) (o := .tup [V.int (1 + d)])
   dsimp only at s1 u1 ⊢
   generalize upd H2 t1 (.tup [V.int (1 + d)]) = H3 at s1 u1 ⊢
   have g2 := s1 _ _ (K2.tups S1 _ _ (K1.tups S _ _ gh))
   refine cat_one (z := 1 + d) g2 u1 (by omega) fun v H4 hv s3 => ?_
   obtain ⟨c, rfl, gc⟩ := hv
   refine ⟨c, hs ++ [1 + d], rfl, .inr (SqT.of gc), by rw [List.length_append]; show hs.length + 1 < 64; omega, fun so l2 hperm hord hl2 => ⟨l2, _, rfl, .inl ⟨SqL.of upd_same, fun t4 ht4 => ?_⟩⟩⟩
   have eso := sortD_eq hperm hord
   subst eso
   have sA := s1.trans (s3.trans ((Same.new hl2).trans (Same.new (o := .tup ((sortD (hs ++ [1 + d])).map V.int)) ht4)))
   refine k t4 _ (n + (1 + d)) _ upd_same ⟨sortD_pw _, fun y hy => ?_, ?_⟩ (by omega) ((S2.same sA).mono (by omega)) (K1.trans (K2.trans sA.keep))
   ·rcases List.mem_append.mp ((sortD_perm _).mem_iff.mp hy) with hy | hy
    ·exact hep.pos y hy
    ·have : y = 1 + d := by simpa using hy
     omega
   ·rw [perm_sum (sortD_perm _), List.sum_append, hep.sum]
    simp
def n__law_one_changed : List Str := ["_law_state", "_law_rules", "_law_rows", "_law_way", "_law_at", "_law_other", "_law_side", "_law_heap_here", "_law_choice", "_law_number"]
theorem sc__law_one_changed : FnScope n__law_one_changed ["_law_state", "_law_rules", "_law_rows", "_law_way"] (defScope s__law_one_changed) := ⟨rfl, rfl, rfl, by decide +kernel, rfl, by decide +kernel, by decide +kernel⟩
def sp_oneC : Sp := fun vs H Q _ => ∃ (st ga ca : Addr) (N : Nat) (Rr l p q : Addr) (rs qs : List V) (one other : List (List Int)) (rows : List Plc) (xs : List V) (way : Int), vs = [.ref st, .ref Rr, .ref l, .int way] /\ StAt H st ga ca N /\ N <= 10 ^ 5 /\ Two H Rr p q rs qs one other /\ Rul one other /\ H l = some (.lst xs) /\ l ∉ [st, ga, ca] /\ All2 PlaceV H rows xs /\ 0 < rows.length /\ rows.length <= 200 /\ (∀ r ∈ rows, PRow r /\ (∃ n : Int, n <= 30 /\ Hep n r.2.1) /\ r.2.2.length <= 6) /\
 ∀ (l' : Addr) (rows' : List Plc) (xs' : List V) (H' : Hp), H' l' = some (.lst xs') -> All2 PlaceV H' rows' xs' -> rows'.length <= 200 -> (∀ r ∈ rows', PRow r) -> StAt H' st ga ca (N + 100) -> Keep [st, ga, l] H H' -> l' ∉ [st, ga, ca] -> Q (.ref l') H'
theorem ok__law_one_changed (T : Txt K mg A) : FnOk P w K mg base CX0 6 A.a__law_one_changed A.fd__law_one_changed ["_law_state", "_law_rules", "_law_rows", "_law_way"] sp_oneC := by
 refine T.F__law_one_changed.ok sc__law_one_changed (fun vs H Q E h => ?_) (fun cdv Ar outer s H vs Q E hr h => ?_)
 ·obtain ⟨st, ga, ca, N, Rr, l, p, q, rs, qs, one, other, rows, xs, way, rfl, S, hN, W, R, gl, nl, a2, hpos, hlen, hg, k⟩ := h
  rfl
 ·obtain ⟨st, ga, ca, N, Rr, l, p, q, rs, qs, one, other, rows, xs, way, rfl, S, hN, W, R, gl, nl, a2, hpos, hlen, hg, k⟩ := h
  refine ⟨_, (pss_cons (ps_set (i := 4) sc__law_one_changed.nd rfl (by first | exact Or.inl rfl | exact Or.inr rfl) (pe_call (ok__law_draw T) (hr.mono (by decide)) rfl T.g__law_draw T.F__law_draw.kp T.b__law_draw .nil pass0 (pa_cons (pv 0) (pa_cons (pe_callB call_len_seq rfl T.b_len PySem.boot_len (pa_cons (pv 2) pa_nil)) pa_nil))))
    (pss_cons (ps_set (i := 5) sc__law_one_changed.nd rfl (by first | exact Or.inl rfl | exact Or.inr rfl) (pe_call (ok__law_draw T) (hr.mono (by decide)) rfl T.g__law_draw T.F__law_draw.kp T.b__law_draw .nil pass0 (pa_cons (pv 0) (pa_cons (pe_callB call_len_seq rfl T.b_len PySem.boot_len (pa_cons (pv 2) pa_nil)) pa_nil))))
    (pss_cons (ps_asg (pe_ix ix_list (pv 2) (pv 4) (fun _ _ => rfl)) (pg_tup rfl (pgs_cons (pg_name (i := 6) sc__law_one_changed.nd rfl (by first | exact Or.inl rfl | exact Or.inr rfl)) (pgs_cons (pg_name (i := 7) sc__law_one_changed.nd rfl (by first | exact Or.inl rfl | exact Or.inr rfl)) (pgs_cons (pg_name (i := 8) sc__law_one_changed.nd rfl (by first | exact Or.inl rfl | exact Or.inr rfl)) pgs_nil)))))
    (pss_cons (ps_if (pt_cmpR op_eq (pv 3) pe_int (nomark _))
     (pss_one (ps_expr (pe_bm PySem.F.plainAttrs_list PySem.F.slot_list_pop PySem.F.type_list_pop mt_popAt (pv 2) (pa_cons (pv 4) pa_nil)))) pss_nil)
    (pss_cons (ps_if (pt_cmpR op_eq (pv 3) pe_int (nomark _))
     (pss_one (ps_asg (pe_tup (pa_cons (pe_ix ix_list (pv 2) (pv 5) (fun _ _ => rfl)) (pa_cons (pe_ix ix_list (pv 2) (pv 4) (fun _ _ => rfl)) pa_nil))) (pg_tup rfl (pgs_cons (pg_sub (pv 2) (pv 4) set_list) (pgs_cons (pg_sub (pv 2) (pv 5) set_list) pgs_nil))))) pss_nil)
    (pss_cons (ps_if (pt_cmpR op_eq (pv 3) pe_int (nomark _))
     (pss_one (ps_asg (pe_tup (pa_cons (pe_op op_sub pe_int (pv 6)) (pa_cons (pv 7) (pa_cons (pv 8) pa_nil)))) (pg_sub (pv 2) (pv 4) set_list))) pss_nil)
    (pss_cons (ps_if (pt_cmpR op_eq (pv 3) pe_int (nomark _))
     (pss_cons (ps_set (i := 9) sc__law_one_changed.nd rfl (by first | exact Or.inl rfl | exact Or.inr rfl) (pe_call (ok__law_draw T) (hr.mono (by decide)) rfl T.g__law_draw T.F__law_draw.kp T.b__law_draw .nil pass0 (pa_cons (pv 0) (pa_cons (pe_op op_add (pe_callB call_len_seq rfl T.b_len PySem.boot_len (pa_cons (pe_ix ix_tup (pv 1) pe_int (fun _ _ => rfl)) pa_nil)) pe_int) pa_nil))))
    (pss_cons (ps_asg (pe_tup (pa_cons (pv 6) (pa_cons (pv 7) (pa_cons (pe_callTy call_tuple_of rfl T.b_tuple boot_tuple (pa_cons (pe_callB call_sortL rfl T.b_sorted boot_sorted (pa_cons (pe_op op_cat (pe_comp (ls := ["_law_one"]) (fr := [("_law_number", 9)]) (cs_of (defScope s__law_one_changed) n__law_one_changed rfl rfl (by decide +kernel)) rfl (pi_tup (pv 8)) (fun _ _ _ _ => pgc 0 (by decide +kernel) rfl rfl) (fun _ _ _ _ => pf_one (pt_cmpR op_ne (pvc (defScope s__law_one_changed) 0) (pvc (defScope s__law_one_changed) 1) (nomark _))) (fun _ _ _ _ => (pvc (defScope s__law_one_changed) 0))) (pe_lst (pa_cons (pv 9 (hv := Or.inr (Or.inl rfl))) pa_nil))) pa_nil)) pa_nil)) pa_nil)))) (pg_sub (pv 2) (pv 4) set_list))
    (pss_one (ps_if (pt_cmpR op_in_seq (pv 9 (hv := Or.inr (Or.inl rfl))) (pv 8) rfl)
     (pss_one (ps_asg (pe_tup (pa_cons (pv 6) (pa_cons (pv 7) (pa_cons (pe_callTy call_tuple_of rfl T.b_tuple boot_tuple (pa_cons (pe_comp (ls := ["_law_one"]) (fr := [("_law_number", 9)]) (cs_of (defScope s__law_one_changed) n__law_one_changed rfl rfl (by decide +kernel)) rfl (pi_tup (pv 8)) (fun _ _ _ _ => pgc 0 (by decide +kernel) rfl rfl) (fun _ _ _ _ => pf_one (pt_cmpR op_ne (pvc (defScope s__law_one_changed) 0) (pvc (defScope s__law_one_changed) 1) (nomark _))) (fun _ _ _ _ => (pvc (defScope s__law_one_changed) 0))) pa_nil)) pa_nil)))) (pg_sub (pv 2) (pv 4) set_list))) pss_nil)))) pss_nil)
    (pss_cons (ps_if (pt_cmpR op_eq (pv 3) pe_int (nomark _))
     (pss_one (ps_asg (pe_tup (pa_cons (pv 6) (pa_cons (pe_call (ok__law_other_heap T) (hr.mono (by decide)) rfl T.g__law_other_heap T.F__law_other_heap.kp T.b__law_other_heap .nil pass0 (pa_cons (pv 0) (pa_cons (pv 7) pa_nil))) (pa_cons (pv 8) pa_nil)))) (pg_sub (pv 2) (pv 4) set_list))) pss_nil)
    (pss_cons (ps_if (pt_cmpR op_eq (pv 3) pe_int (nomark _))
     (pss_one (ps_set (i := 2) sc__law_one_changed.nd rfl (by first | exact Or.inl rfl | exact Or.inr rfl) (pe_slice sl_list (pv 2) (po_some (pv 4)) po_none))) pss_nil)
    (pss_one (ps_ret (pv 2)))))))))))), ?_⟩
  have lx := a2.length
  have M0 : OC H H st ga ca N l l rows xs := ⟨gl, a2, hlen, fun r hr => (hg r hr).1, S, Keep.refl _ _, nl⟩
  refine ⟨_, rfl, _, rfl, l, _, rfl, .inl (SqL.of gl), st, ga, ca, _, (xs.length : Int), rfl, S, by omega, by omega, Int.le_trans (show (xs.length : Int) <= 200 by omega) (by decide), fun r1 H1 r10 r11 S1 K1 => ?_⟩
  obtain ⟨at_, rfl⟩ : ∃ j : Nat, r1 = (j : Int) := ⟨r1.toNat, by omega⟩
  have M1 := M0.drawn S1 K1
  refine ⟨_, rfl, _, rfl, l, _, rfl, .inl (SqL.of M1.gl), st, ga, ca, _, (xs.length : Int), rfl, S1, by omega, by omega, Int.le_trans (show (xs.length : Int) <= 200 by omega) (by decide), fun r2 H2 r20 r21 S2 K2 => ?_⟩
  obtain ⟨ot, rfl⟩ : ∃ j : Nat, r2 = (j : Int) := ⟨r2.toNat, by omega⟩
  have M2 := M1.drawn S2 K2
  have W2 := (W.mv (K1.tups S)).mv (K2.tups S1)
  obtain ⟨y, hy⟩ : ∃ y, xs[at_]? = some y := ⟨_, List.getElem?_eq_getElem (by omega)⟩
  obtain ⟨y2, hy2⟩ : ∃ y, xs[ot]? = some y := ⟨_, List.getElem?_eq_getElem (by omega)⟩
  obtain ⟨pl, hpl, hv⟩ := M2.a2.get hy
  obtain ⟨pl2, hpl2, hv2⟩ := M2.a2.get hy2
  obtain ⟨g1', ⟨n, hn, hep⟩, hc6⟩ := hg pl (List.mem_of_getElem? hpl)
  have gp2 := (hg pl2 (List.mem_of_getElem? hpl2)).1
  obtain ⟨sd, hs, ch⟩ := pl
  dsimp only at hep hc6
  obtain ⟨t, hh, hc, rfl, g1, g2, g3⟩ := id hv
  dsimp only at g1 g2 g3
  have ia := ixN_at (n := xs.length) (j := at_) (by omega)
  have io := ixN_at (n := xs.length) (j := ot) (by omega)
  refine ⟨_, rfl, _, rfl, l, _, _, _, rfl, rfl, SqL.of M2.gl, atI_nat hy, t, _, rfl, SqT.of g1, rfl, _, _, rfl, _, _, rfl, _, _, rfl, rfl, ?_⟩
  clear M0 M1 S1 K1 S2 K2 a2 gl hv
  dsimp only [tNext, gName]
  refine seqJoin (fun σ' H' => ∃ (rows' : List Plc) (xs' : List V), σ' = [some (.ref st), some (.ref Rr), some (.ref l), some (.int way), some (.int (at_ : Int)), some (.int (ot : Int)), some (.int sd), some (.ref hh), some (.ref hc), none] /\ OC H H' st ga ca (N + 14) l l rows' xs' /\ (way ≠ 3 -> H' = H2 /\ rows' = rows /\ xs' = xs)) (fun nx hnx => ?_) ?_
  ·refine ⟨_, rfl, rfl, _, rfl, ite2 (fun hw => ?_) (fun hw => hnx _ _ ⟨rows, xs, rfl, M2, fun _ => ⟨rfl, rfl, rfl⟩⟩)⟩
   have e : way = 3 := V.int.inj (of_decide_eq_true hw)
   refine ⟨_, rfl, .inl ⟨rfl, _, SqL.of M2.gl⟩, _, rfl, l, _, _, at_, _, rfl, rfl, M2.gl, by omega, by omega, (ixN_seq ia).1, hy, hnx _ _ ⟨_, _, rfl, M2.put (rows' := rows.eraseIdx at_) (fun H3 tt => (M2.a2.imp fun _ _ z => z.mv tt).eraseA at_) (Nat.le_trans (List.length_eraseIdx_le _ _) hlen) (fun r hr => M2.pr r (List.mem_of_mem_eraseIdx hr)), fun z => absurd e z⟩⟩
  rintro σ' H3 ⟨rows', xs', rfl, M3, hu⟩
  refine seqJoin (fun σ' H' => ∃ (rows' : List Plc) (xs' : List V), σ' = [some (.ref st), some (.ref Rr), some (.ref l), some (.int way), some (.int (at_ : Int)), some (.int (ot : Int)), some (.int sd), some (.ref hh), some (.ref hc), none] /\ OC H H' st ga ca (N + 14) l l rows' xs' /\ (¬ (way = 3 \/ way = 4) -> H' = H2 /\ rows' = rows /\ xs' = xs)) (fun nx hnx => ?_) ?_
  ·refine ⟨_, rfl, rfl, _, rfl, ite2 (fun hw => ?_) (fun hw => hnx _ _ ⟨rows', xs', rfl, M3, fun z => hu fun y => z (.inl y)⟩)⟩
   have e : way = 4 := V.int.inj (of_decide_eq_true hw)
   obtain ⟨rfl, rfl, rfl⟩ := hu (by omega)
   refine ⟨_, rfl, _, rfl, l, _, _, _, rfl, rfl, SqL.of M3.gl, atI_nat hy2, _, rfl, _, rfl, l, _, _, _, rfl, rfl, SqL.of M3.gl, atI_nat hy, by show 2 <= sizeLine; decide, fun T1 hT1 => ?_⟩
   have sT := Same.new (o := .tup [y2, V.ref t]) hT1
   have gT := upd_same (H := H3) (a := T1) (o := .tup [y2, V.ref t])
   generalize upd H3 T1 (.tup [y2, V.ref t]) = H4 at sT gT ⊢
   have M4 := (M3.same sT).set at_ (hv2.mv sT.tups) gp2
   have ht4 : PlaceV (sd, hs, ch) (.ref t) (upd H4 l (.lst (xs'.set at_ y2))) := ⟨t, hh, hc, rfl, Tups.set (M3.same sT).gl _ _ (sT _ _ g1), Tups.set (M3.same sT).gl _ _ (sT _ _ g2), Tups.set (M3.same sT).gl _ _ (sT _ _ g3)⟩
   have M5 := M4.set ot ht4 g1'
   refine ⟨T1, _, rfl, SqT.of gT, rfl, _, _, rfl, _, rfl, _, rfl, l, _, _, at_, rfl, rfl, (M3.same sT).gl, ia, _, _, rfl, _, rfl, _, rfl, l, _, _, ot, rfl, rfl, M4.gl, by rw [List.length_set]; exact io, rfl, ?_⟩
   exact hnx _ _ ⟨_, _, rfl, M5, fun z => absurd (.inr e) z⟩
  clear hu M3
  rintro σ' H3 ⟨rows', xs', rfl, M3, hu⟩
  refine seqJoin (fun σ' H' => ∃ (rows' : List Plc) (xs' : List V), σ' = [some (.ref st), some (.ref Rr), some (.ref l), some (.int way), some (.int (at_ : Int)), some (.int (ot : Int)), some (.int sd), some (.ref hh), some (.ref hc), none] /\ OC H H' st ga ca (N + 14) l l rows' xs' /\ (¬ (way = 3 \/ way = 4 \/ way = 5) -> H' = H2 /\ rows' = rows /\ xs' = xs)) (fun nx hnx => ?_) ?_
  ·refine ⟨_, rfl, rfl, _, rfl, ite2 (fun hw => ?_) (fun hw => hnx _ _ ⟨rows', xs', rfl, M3, fun z => hu fun y => z (by omega)⟩)⟩
   have e : way = 5 := V.int.inj (of_decide_eq_true hw)
   obtain ⟨rfl, rfl, rfl⟩ := hu (by omega)
   refine ⟨_, rfl, _, _, rfl, rfl, _, rfl, _, rfl, by show 3 <= sizeLine; decide, fun T1 hT1 => ?_⟩
   have sT := Same.new (o := .tup [V.int (3 - sd), V.ref hh, V.ref hc]) hT1
   have gT := upd_same (H := H3) (a := T1) (o := .tup [V.int (3 - sd), V.ref hh, V.ref hc])
   dsimp only at sT gT ⊢
   generalize upd H3 T1 (.tup [V.int (3 - sd), V.ref hh, V.ref hc]) = H4 at sT gT ⊢
   have M4 := (M3.same sT).set at_ (pl := (3 - sd, hs, ch)) ⟨T1, hh, hc, rfl, gT, sT _ _ g2, sT _ _ g3⟩ ⟨g1'.hp, g1'.ch⟩
   exact ⟨_, rfl, _, rfl, l, _, _, at_, rfl, rfl, (M3.same sT).gl, ia, hnx _ _ ⟨_, _, rfl, M4, fun z => absurd (.inr (.inr e)) z⟩⟩
  clear hu M3
  rintro σ' H3 ⟨rows', xs', rfl, M3, hu⟩
  refine seqJoin (fun σ' H' => ∃ (rows' : List Plc) (xs' : List V) (v9 : Option V), σ' = [some (.ref st), some (.ref Rr), some (.ref l), some (.int way), some (.int (at_ : Int)), some (.int (ot : Int)), some (.int sd), some (.ref hh), some (.ref hc), v9] /\ OC H H' st ga ca (N + 21) l l rows' xs' /\ (¬ (way = 3 \/ way = 4 \/ way = 5 \/ way = 6) -> H' = H2 /\ rows' = rows /\ xs' = xs)) (fun nx hnx => ?_) ?_
  ·refine ⟨_, rfl, rfl, _, rfl, ite2 (fun hw => ?_) (fun hw => hnx _ _ ⟨rows', xs', _, rfl, M3.mono (by omega), fun z => hu fun y => z (by omega)⟩)⟩
   have e : way = 6 := V.int.inj (of_decide_eq_true hw)
   obtain ⟨rfl, rfl, rfl⟩ := hu (by omega)
   have l6 := W2.l6
   have rl := W2.h2.length
   refine ⟨_, rfl, _, rfl, Rr, _, 0, _, rfl, rfl, SqT.of W2.at_, atI_nat (j := 0) rfl, p, _, rfl, .inr (SqT.of W2.hp), _, _, rfl, rfl, st, ga, ca, _, (rs.length : Int) + 1, rfl, M3.sa, by omega, by omega, Int.le_trans (show (rs.length : Int) + 1 <= 7 by omega) (by decide), fun nu H4 n0 n1 S4 K4 => ?_⟩
   have M4 := M3.drawn S4 K4
   have g24 := K4.tups M3.sa _ _ g2
   have g34 := K4.tups M3.sa _ _ g3
   have lf := List.length_filter_le (fun x => !decide (x = nu)) ch
   refine ⟨_, rfl, _, rfl, comp_without rfl rfl g34 (by omega) fun l5 hl5 => ?_⟩
   refine ⟨_, rfl, by show 1 <= sizeLine; decide, fun l6 hl6 => ?_⟩
   have s5 := (Same.new (o := .lst ((ch.filter (fun x => !decide (x = nu))).map V.int)) hl5).trans (Same.new (o := .lst [V.int nu]) hl6)
   have u5 := Same.new (o := .lst [V.int nu]) hl6 _ _ (upd_same (H := H4) (a := l5) (o := .lst ((ch.filter (fun x => !decide (x = nu))).map V.int)))
   have u6 := upd_same (H := upd H4 l5 (.lst ((ch.filter (fun x => !decide (x = nu))).map V.int))) (a := l6) (o := .lst [V.int nu])
   generalize upd (upd H4 l5 (.lst ((ch.filter (fun x => !decide (x = nu))).map V.int))) l6 (.lst [V.int nu]) = H5 at s5 u5 u6 ⊢
   refine ⟨l5, l6, _, _, rfl, rfl, u5, u6, by rw [List.length_map]; exact Nat.le_trans (show _ + 1 <= 10 by omega) (by decide), fun l7 hl7 => ?_⟩
   have e7 : (ch.filter (fun x => !decide (x = nu))).map V.int ++ [V.int nu] = ((ch.filter (fun x => !decide (x = nu))) ++ [nu]).map V.int := by rw [List.map_append]; rfl
   rw [e7]
   refine ⟨l7, _, rfl, SqL.of upd_same, by rw [List.length_append]; show _ + 1 < 64; omega, fun so l8 hperm hord hl8 => ⟨l8, _, rfl, .inl ⟨SqL.of upd_same, fun t9 ht9 => ⟨by show 3 <= sizeLine; decide, fun T1 hT1 => ?_⟩⟩⟩⟩
   have lso : so.length <= 10 := by rw [hperm.length_eq, List.length_append]; show _ + 1 <= 10; omega
   have s9 := s5.trans ((Same.new hl7).trans ((Same.new hl8).trans (Same.new (o := .tup (so.map V.int)) ht9)))
   have u9 := upd_same (H := upd (upd H5 l7 (.lst (((ch.filter (fun x => !decide (x = nu))) ++ [nu]).map V.int))) l8 (.lst (so.map V.int))) (a := t9) (o := .tup (so.map V.int))
   generalize upd (upd (upd H5 l7 (.lst (((ch.filter (fun x => !decide (x = nu))) ++ [nu]).map V.int))) l8 (.lst (so.map V.int))) t9 (.tup (so.map V.int)) = H9 at s9 u9 hT1 ⊢
   have sT := Same.new (o := .tup [V.int sd, V.ref hh, V.ref t9]) hT1
   have gT := upd_same (H := H9) (a := T1) (o := .tup [V.int sd, V.ref hh, V.ref t9])
   generalize upd H9 T1 (.tup [V.int sd, V.ref hh, V.ref t9]) = HA at sT gT ⊢
   have sA := s9.trans sT
   have MA := M4.same sA
   have MB := MA.set at_ (pl := (sd, hs, so)) ⟨T1, hh, t9, rfl, gT, sA _ _ g24, sT _ _ u9⟩ ⟨g1'.hp, lso⟩
   refine ⟨_, rfl, _, rfl, l, _, _, at_, rfl, rfl, MA.gl, ia, ?_⟩
   have tB : Tups HA (upd HA l (.lst (xs'.set at_ (.ref T1)))) := Tups.set MA.gl
   have g3B := tB _ _ (sA _ _ g34)
   have g2B := tB _ _ (sA _ _ g24)
   generalize upd HA l (.lst (xs'.set at_ (.ref T1))) = HB at MB tB g3B g2B ⊢
   refine ⟨_, rfl, _, rfl, hc, _, rfl, .inr (SqT.of g3B), rfl, flat_ints _, _, rfl, ?_⟩
   rw [if_neg Bool.false_ne_true, inV_ints]
   refine ite2 (fun _ => ?_) (fun _ => hnx _ _ ⟨_, _, _, rfl, MB, fun z => absurd (by omega) z⟩)
   refine ⟨_, rfl, _, rfl, comp_without rfl rfl g3B (by omega) fun lc hlc => ⟨lc, _, rfl, .inl ⟨SqL.of upd_same, fun td htd => ⟨by show 3 <= sizeLine; decide, fun T2 hT2 => ?_⟩⟩⟩⟩
   have sD := (Same.new hlc).trans (Same.new (o := .tup ((ch.filter (fun x => !decide (x = nu))).map V.int)) htd)
   have uD := upd_same (H := upd HB lc (.lst ((ch.filter (fun x => !decide (x = nu))).map V.int))) (a := td) (o := .tup ((ch.filter (fun x => !decide (x = nu))).map V.int))
   generalize upd (upd HB lc (.lst ((ch.filter (fun x => !decide (x = nu))).map V.int))) td (.tup ((ch.filter (fun x => !decide (x = nu))).map V.int)) = HD at sD uD hT2 ⊢
   have sE := Same.new (o := .tup [V.int sd, V.ref hh, V.ref td]) hT2
   have gE := upd_same (H := HD) (a := T2) (o := .tup [V.int sd, V.ref hh, V.ref td])
   generalize upd HD T2 (.tup [V.int sd, V.ref hh, V.ref td]) = HE at sE gE ⊢
   have ME := MB.same (sD.trans sE)
   have MF := ME.set at_ (pl := (sd, hs, ch.filter (fun x => !decide (x = nu)))) ⟨T2, hh, td, rfl, gE, (sD.trans sE) _ _ g2B, sE _ _ uD⟩ ⟨g1'.hp, by show (ch.filter _).length <= 10; omega⟩
   exact ⟨_, rfl, _, rfl, l, _, _, at_, rfl, rfl, ME.gl, by rw [List.length_set]; exact ia, hnx _ _ ⟨_, _, _, rfl, MF, fun z => absurd (by omega) z⟩⟩
  clear hu M3
  rintro σ' H3 ⟨rows', xs', v9, rfl, M3, hu⟩
  refine seqJoin (fun σ' H' => ∃ (rows' : List Plc) (xs' : List V), σ' = [some (.ref st), some (.ref Rr), some (.ref l), some (.int way), some (.int (at_ : Int)), some (.int (ot : Int)), some (.int sd), some (.ref hh), some (.ref hc), v9] /\ OC H H' st ga ca (N + 41) l l rows' xs' /\ (¬ (way = 3 \/ way = 4 \/ way = 5 \/ way = 6 \/ way = 7) -> H' = H2 /\ rows' = rows /\ xs' = xs)) (fun nx hnx => ?_) ?_
  ·refine ⟨_, rfl, rfl, _, rfl, ite2 (fun hw => ?_) (fun hw => hnx _ _ ⟨rows', xs', rfl, M3.mono (by omega), fun z => hu fun y => z (by omega)⟩)⟩
   have e : way = 7 := V.int.inj (of_decide_eq_true hw)
   obtain ⟨rfl, rfl, rfl⟩ := hu (by omega)
   refine ⟨_, rfl, _, rfl, _, rfl, st, ga, ca, _, hh, hs, n, rfl, M3.sa, by omega, g2, hep, by omega, fun ph hs' n' H4 gph hep' hn' S4 K4 => ?_⟩
   have M4 := M3.drawn S4 K4
   refine ⟨_, rfl, by show 3 <= sizeLine; decide, fun T1 hT1 => ?_⟩
   have sT := Same.new (o := .tup [V.int sd, V.ref ph, V.ref hc]) hT1
   have gT := upd_same (H := H4) (a := T1) (o := .tup [V.int sd, V.ref ph, V.ref hc])
   generalize upd H4 T1 (.tup [V.int sd, V.ref ph, V.ref hc]) = H5 at sT gT ⊢
   have M5 := (M4.same sT).set at_ (pl := (sd, hs', ch)) ⟨T1, ph, hc, rfl, gT, sT _ _ gph, sT _ _ (K4.tups M3.sa _ _ g3)⟩ ⟨⟨n', by omega, hep'⟩, g1'.ch⟩
   exact ⟨_, rfl, _, rfl, l, _, _, at_, rfl, rfl, (M4.same sT).gl, ia, hnx _ _ ⟨_, _, rfl, M5.mono (by omega), fun z => absurd (by omega) z⟩⟩
  clear hu M3
  rintro σ' H3 ⟨rows', xs', rfl, M3, hu⟩
  refine seqJoin (fun σ' H' => ∃ (l' : Addr) (rows' : List Plc) (xs' : List V), σ' = [some (.ref st), some (.ref Rr), some (.ref l'), some (.int way), some (.int (at_ : Int)), some (.int (ot : Int)), some (.int sd), some (.ref hh), some (.ref hc), v9] /\ OC H H' st ga ca (N + 41) l l' rows' xs') (fun nx hnx => ?_) ?_
  ·refine ⟨_, rfl, rfl, _, rfl, ite2 (fun hw => ?_) (fun hw => hnx _ _ ⟨l, rows', xs', rfl, M3⟩)⟩
   refine ⟨_, rfl, _, rfl, ?_⟩
   dsimp only [tNoPart]
   refine ⟨_, rfl, l, _, rfl, SqL.of M3.gl, fun l2 hl2 => hnx _ _ ⟨l2, rows'.drop at_, xs'.drop at_, rfl, ?_⟩⟩
   have sT := Same.new (o := .lst (cutV xs' (some (at_ : Int)) none)) hl2
   have M4 := M3.same sT
   rw [cut_rest] at sT M4 ⊢
   exact ⟨upd_same, M4.a2.dropA at_, Nat.le_trans (by rw [List.length_drop]; omega) M3.len, fun r hr => M3.pr r (List.mem_of_mem_drop hr), M4.sa, M4.kp, M3.sa.nin3 hl2⟩
  rintro σ' H4 ⟨l', rows4, xs4, rfl, M4⟩
  exact ⟨_, rfl, k l' rows4 xs4 H4 M4.gl M4.a2 M4.len M4.pr (M4.sa.mono (by omega)) M4.kp M4.nl⟩
def n__law_spoilt : List Str := ["_law_state", "_law_rules", "_law_rows", "_law_way", "_law_heap_here"]
theorem sc__law_spoilt : FnScope n__law_spoilt ["_law_state", "_law_rules", "_law_rows"] (defScope s__law_spoilt) := ⟨rfl, rfl, rfl, by decide +kernel, rfl, by decide +kernel, by decide +kernel⟩
def sp_spoilt : Sp := fun vs H Q _ => ∃ (st ga ca : Addr) (N : Nat) (Rr g p q : Addr) (rs qs : List V) (one other : List (List Int)) (hs : List Int) (n : Int) (kk : Nat) (xs : List V), vs = [.ref st, .ref Rr, .ref g] /\ StAt H st ga ca N /\ N <= 10 ^ 4 /\ Two H Rr p q rs qs one other /\ Rul one other /\ H g = some (.lst xs) /\ All2 PlaceV H (walkL one other hs kk) xs /\ Live one other hs kk /\ Hep n hs /\ n <= 30 /\ kk <= 150 /\ g ∉ [st, ga] /\
 ∀ (l' : Addr) (rows' : List Plc) (xs' : List V) (H' : Hp), H' l' = some (.lst xs') -> All2 PlaceV H' rows' xs' -> rows'.length <= 200 -> (∀ r ∈ rows', PRow r) -> StAt H' st ga ca (N + 200) -> Keep [st, ga] H H' -> Q (.ref l') H'
theorem ok__law_spoilt (T : Txt K mg A) : FnOk P w K mg base CX0 8 A.a__law_spoilt A.fd__law_spoilt ["_law_state", "_law_rules", "_law_rows"] sp_spoilt := by
 refine T.F__law_spoilt.ok sc__law_spoilt (fun vs H Q E h => ?_) (fun cdv Ar outer s H vs Q E hr h => ?_)
 ·obtain ⟨st, ga, ca, N, Rr, g, p, q, rs, qs, one, other, hs, n, kk, xs, rfl, S, hN, W, R, gg, a2, Lv, hep, hn, hkk, ngo, k⟩ := h
  rfl
 ·obtain ⟨st, ga, ca, N, Rr, g, p, q, rs, qs, one, other, hs, n, kk, xs, rfl, S, hN, W, R, gg, a2, Lv, hep, hn, hkk, ngo, k⟩ := h
  refine ⟨_, (pss_cons (ps_set (i := 3) sc__law_spoilt.nd rfl (by first | exact Or.inl rfl | exact Or.inr rfl) (pe_call (ok__law_draw T) (hr.mono (by decide)) rfl T.g__law_draw T.F__law_draw.kp T.b__law_draw .nil pass0 (pa_cons (pv 0) (pa_cons pe_int pa_nil))))
    (pss_cons (ps_set (i := 2) sc__law_spoilt.nd rfl (by first | exact Or.inl rfl | exact Or.inr rfl) (pe_callTy call_list_of rfl T.b_list boot_list (pa_cons (pv 2) pa_nil)))
    (pss_cons (ps_if (pt_cmpR op_eq (pv 3) pe_int (nomark _))
     (pss_one (ps_expr (pe_bm0 PySem.F.plainAttrs_list PySem.F.slot_list_pop PySem.F.type_list_pop mt_pop (pv 2)))) pss_nil)
    (pss_cons (ps_if (pt_cmpR op_eq (pv 3) pe_int (nomark _))
     (pss_one (ps_expr (pe_bm PySem.F.plainAttrs_list PySem.F.slot_list_pop PySem.F.type_list_pop mt_popAt (pv 2) (pa_cons pe_int pa_nil)))) pss_nil)
    (pss_cons (ps_if (pt_cmpR op_in_seq (pv 3) (pe_tup (pa_cons pe_int (pa_cons pe_int (pa_cons pe_int (pa_cons pe_int (pa_cons pe_int (pa_cons pe_int pa_nil))))))) rfl)
     (pss_one (ps_set (i := 2) sc__law_spoilt.nd rfl (by first | exact Or.inl rfl | exact Or.inr rfl) (pe_call (ok__law_one_changed T) (hr.mono (by decide)) rfl T.g__law_one_changed T.F__law_one_changed.kp T.b__law_one_changed .nil pass0 (pa_cons (pv 0) (pa_cons (pv 1) (pa_cons (pv 2) (pa_cons (pv 3) pa_nil))))))) pss_nil)
    (pss_cons (ps_if (pt_cmpR op_eq (pv 3) pe_int (nomark _))
     (pss_one (ps_expr (pe_bm PySem.F.plainAttrs_list PySem.F.slot_list_append PySem.F.type_list_append mt_append (pv 2) (pa_cons (pe_call (ok__law_crossed T) (hr.mono (by decide)) rfl T.g__law_crossed T.F__law_crossed.kp T.b__law_crossed .nil pass0 (pa_cons (pv 1) (pa_cons (pe_ix ix_list (pv 2) (pe_un un_neg pe_int) (fun _ _ => rfl)) pa_nil))) pa_nil)))) pss_nil)
    (pss_cons (ps_if (pt_cmpR op_eq (pv 3) pe_int (nomark _))
     (pss_one (ps_set (i := 2) sc__law_spoilt.nd rfl (by first | exact Or.inl rfl | exact Or.inr rfl) (pe_op op_cat (pe_slice sl_list (pv 2) po_none (po_some pe_int)) (pv 2)))) pss_nil)
    (pss_cons (ps_if (pt_cmpR op_eq (pv 3) pe_int (nomark _))
     (pss_one (ps_comp (i := 2) (ls := ["_law_side", "_law_heap_here", "_law_choice"]) (fr := []) (cs_of (defScope s__law_spoilt) n__law_spoilt rfl rfl (by decide +kernel)) rfl (pi_list (pe_revL (pv 2) (po_some (pe_un un_neg pe_int)) (fun _ _ => ⟨_, by with_unfolding_all rfl⟩))) (fun _ _ _ _ => pg_tupC 3 rfl (pgs_cons (pgc (ls := ["_law_side", "_law_heap_here", "_law_choice"]) (fr := []) 0 (by decide +kernel) rfl rfl) (pgs_cons (pgc (ls := ["_law_side", "_law_heap_here", "_law_choice"]) (fr := []) 1 (by decide +kernel) rfl rfl) (pgs_cons (pgc (ls := ["_law_side", "_law_heap_here", "_law_choice"]) (fr := []) 2 (by decide +kernel) rfl rfl) pgs_nil))) rfl rfl) (fun _ _ _ _ => pf_nil) (fun _ _ _ _ => (pe_tup (pa_cons (pe_op op_sub pe_int (pvc (defScope s__law_spoilt) 0)) (pa_cons (pvc (defScope s__law_spoilt) 1) (pa_cons (pvc (defScope s__law_spoilt) 2) pa_nil))))) sc__law_spoilt.nd rfl rfl rfl)) pss_nil)
    (pss_cons (ps_if (pt_cmpR op_eq (pv 3) pe_int (nomark _))
     (pss_one (ps_set (i := 2) sc__law_spoilt.nd rfl (by first | exact Or.inl rfl | exact Or.inr rfl) (pe_lst pa_nil))) pss_nil)
    (pss_cons (ps_if (pt_cmpR op_eq (pv 3) pe_int (nomark _))
     (pss_cons (ps_set (i := 4) sc__law_spoilt.nd rfl (by first | exact Or.inl rfl | exact Or.inr rfl) (pe_call (ok__law_other_heap T) (hr.mono (by decide)) rfl T.g__law_other_heap T.F__law_other_heap.kp T.b__law_other_heap .nil pass0 (pa_cons (pv 0) (pa_cons (pe_ix ix_tup (pe_ix ix_list (pv 2) pe_int (fun _ _ => rfl)) pe_int (fun _ _ => rfl)) pa_nil))))
    (pss_one (ps_set (i := 2) sc__law_spoilt.nd rfl (by first | exact Or.inl rfl | exact Or.inr rfl) (pe_lst (pa_cons (pe_tup (pa_cons pe_int (pa_cons (pv 4) (pa_cons (pe_tup pa_nil) pa_nil)))) (pa_cons (pe_tup (pa_cons pe_int (pa_cons (pv 4) (pa_cons (pe_tup pa_nil) pa_nil)))) pa_nil)))))) pss_nil)
    (pss_one (ps_ret (pv 2))))))))))))), ?_⟩
  have lx := a2.length
  rw [walkL_len] at lx
  refine ⟨_, rfl, st, ga, ca, _, 14, rfl, S, by omega, by decide, by decide, fun way H1 w0 w1 S1 K1 => ?_⟩
  have W1 := W.mv (K1.tups S)
  have ng : g ∉ [st, ga] := ngo
  have gg1 := K1.at gg ng
  refine ⟨_, rfl, g, _, rfl, .inl (SqL.of gg1), fun l hl => ?_⟩
  have s2 := Same.new (o := .lst xs) hl
  have nlH : H l = none := K1.free hl (S1.nin hl)
  have M2 : OC H (upd H1 l (.lst xs)) st ga ca (N + 7) l l (walkL one other hs kk) xs := ⟨upd_same, a2.imp fun _ _ z => z.mv ((K1.tups S).trans s2.tups), by rw [walkL_len]; omega, walk_pg R hep (by omega) Lv, S1.same s2, (K1.trans s2.keep).wide fun a ha => (by
   simp only [List.mem_cons, List.not_mem_nil, or_false] at ha ⊢
   rcases ha with z | z
   ·exact .inl z
   ·exact .inr (.inl z)), S1.nin3 hl⟩
  have W2 := W1.mv s2.tups
  generalize upd H1 l (.lst xs) = H2 at M2 W2 s2 ⊢
  clear gg1 W1 s2 hl S1 K1
  obtain ⟨ys, vl, rfl, hyl, hvl⟩ := walk_last M2.a2
  have hd0 := walkL_head one other hs kk
  obtain ⟨v0, hv0, hpv0⟩ := M2.a2.head hd0
  have wl := wk_ok R hep kk Lv
  dsimp only [tNext, gName]
  refine seqJoin (fun σ' H' => ∃ (l' : Addr) (rows' : List Plc) (xs' : List V), σ' = [some (.ref st), some (.ref Rr), some (.ref l'), some (.int way), none] /\ OC H H' st ga ca (N + 7) l l' rows' xs' /\ (way ≠ 1 -> Tups H2 H' /\ l' = l /\ rows' = walkL one other hs kk /\ xs' = ys ++ [vl])) (fun nx hnx => ?_) ?_
  ·refine ⟨_, rfl, rfl, _, rfl, ite2 (fun hw => ?_) (fun hw => hnx _ _ ⟨l, _, _, rfl, M2, fun _ => ⟨Tups.refl _, rfl, rfl, rfl⟩⟩)⟩
   have e : way = 1 := V.int.inj (of_decide_eq_true hw)
   refine ⟨_, rfl, .inl ⟨rfl, _, SqL.of M2.gl⟩, l, _, vl, rfl, rfl, M2.gl, by rw [List.length_append]; simp, hnx _ _ ⟨l, _, _, rfl, M2.put (rows' := (walkL one other hs kk).dropLast) (fun H3 tt => (M2.a2.imp fun _ _ z => z.mv tt).dropLastA) (Nat.le_trans (by rw [List.length_dropLast]; omega) M2.len) (fun r hr => M2.pr r ((List.dropLast_sublist _).subset hr)), fun z => absurd e z⟩⟩
  rintro σ' H3 ⟨l', rows', xs', rfl, M3, hu⟩
  refine seqJoin (fun σ' H' => ∃ (l' : Addr) (rows' : List Plc) (xs' : List V), σ' = [some (.ref st), some (.ref Rr), some (.ref l'), some (.int way), none] /\ OC H H' st ga ca (N + 7) l l' rows' xs' /\ (¬ (way = 1 \/ way = 2) -> Tups H2 H' /\ l' = l /\ rows' = walkL one other hs kk /\ xs' = ys ++ [vl])) (fun nx hnx => ?_) ?_
  ·refine ⟨_, rfl, rfl, _, rfl, ite2 (fun hw => ?_) (fun hw => hnx _ _ ⟨l', _, _, rfl, M3, fun z => hu fun y => z (by omega)⟩)⟩
   have e : way = 2 := V.int.inj (of_decide_eq_true hw)
   obtain ⟨_, rfl, rfl, rfl⟩ := hu (by omega)
   have i0 := ixN_at (n := (ys ++ [vl]).length) (j := 0) (by rw [List.length_append]; show 0 < _ + 1; omega)
   refine ⟨_, rfl, .inl ⟨rfl, _, SqL.of M3.gl⟩, l', _, 0, 0, v0, rfl, rfl, M3.gl, by decide, by decide, (ixN_seq i0).1, hv0, hnx _ _ ⟨l', _, _, rfl, M3.put (rows' := (walkL one other hs kk).eraseIdx 0) (fun H3 tt => (M3.a2.imp fun _ _ z => z.mv tt).eraseA 0) (Nat.le_trans (List.length_eraseIdx_le _ _) M3.len) (fun r hr => M3.pr r (List.mem_of_mem_eraseIdx hr)), fun z => absurd (by omega) z⟩⟩
  clear hu M3
  rintro σ' H3 ⟨l', rows', xs', rfl, M3, hu⟩
  refine seqJoin (fun σ' H' => ∃ (l' : Addr) (rows' : List Plc) (xs' : List V), σ' = [some (.ref st), some (.ref Rr), some (.ref l'), some (.int way), none] /\ OC H H' st ga ca (N + 107) l l' rows' xs' /\ (¬ (way = 1 \/ way = 2 \/ way ∈ ([3, 4, 5, 6, 7, 9] : List Int)) -> Tups H2 H' /\ l' = l /\ rows' = walkL one other hs kk /\ xs' = ys ++ [vl])) (fun nx hnx => ?_) ?_
  ·refine ⟨_, rfl, by show 6 <= sizeLine; decide, fun t ht => ⟨t, ([3, 4, 5, 6, 7, 9] : List Int).map V.int, rfl, .inr (SqT.of upd_same), rfl, flat_ints _, _, rfl, ?_⟩⟩
   have sT := Same.new (o := .tup [V.int 3, V.int 4, V.int 5, V.int 6, V.int 7, V.int 9]) ht
   generalize upd H3 t (.tup [V.int 3, V.int 4, V.int 5, V.int 6, V.int 7, V.int 9]) = H4 at sT ⊢
   dsimp only
   rw [if_neg Bool.false_ne_true, inV_ints]
   have M4 := M3.same sT
   refine ite2 (fun hw => ?_) (fun hw => hnx _ _ ⟨l', _, _, rfl, M4.mono (by omega), fun z => ?_⟩)
   ·have hw' : way ∈ ([3, 4, 5, 6, 7, 9] : List Int) := of_decide_eq_true hw
    have hw2 : ¬ (way = 1 \/ way = 2) := fun z => by
     rcases z with rfl | rfl <;> revert hw' <;> decide
    obtain ⟨tu, rfl, rfl, rfl⟩ := hu hw2
    refine ⟨_, rfl, _, rfl, _, rfl, _, rfl, st, ga, ca, _, Rr, l', p, q, rs, qs, one, other, walkL one other hs kk, ys ++ [vl], way, rfl, M4.sa, by omega, W2.mv (tu.trans sT.tups), R, M4.gl, M4.nl, M4.a2, by rw [walkL_len]; omega, by rw [walkL_len]; omega, fun r hr => ?_, fun l5 rows5 xs5 H5 g5 a5 n5 p5 S5 K5 nl5 => ?_⟩
    ·refine ⟨M4.pr r hr, ?_⟩
     obtain ⟨i, hi, rfl⟩ := List.mem_map.mp hr
     have w := wk_ok R hep i (Lv.less (by have := List.mem_range.mp hi; omega))
     exact ⟨⟨n, hn, w.hep⟩, w.chl R⟩
    ·exact hnx _ _ ⟨l5, rows5, xs5, rfl, ⟨g5, a5, n5, p5, S5, M4.kp.trans K5, nl5⟩, fun z => absurd (.inr (.inr hw')) z⟩
   ·obtain ⟨tu, e⟩ := hu fun y => z (y.imp_right .inl)
    exact ⟨tu.trans sT.tups, e⟩
  clear hu M3
  rintro σ' H3 ⟨l', rows', xs', rfl, M3, hu⟩
  refine seqJoin (fun σ' H' => ∃ (l' : Addr) (rows' : List Plc) (xs' : List V), σ' = [some (.ref st), some (.ref Rr), some (.ref l'), some (.int way), none] /\ OC H H' st ga ca (N + 107) l l' rows' xs' /\ (¬ (way = 1 \/ way = 2 \/ way ∈ ([3, 4, 5, 6, 7, 9] : List Int) \/ way = 8) -> Tups H2 H' /\ l' = l /\ rows' = walkL one other hs kk /\ xs' = ys ++ [vl])) (fun nx hnx => ?_) ?_
  ·refine ⟨_, rfl, rfl, _, rfl, ite2 (fun hw => ?_) (fun hw => hnx _ _ ⟨l', _, _, rfl, M3, fun z => hu fun y => z (y.imp_right fun y => y.imp_right .inl)⟩)⟩
   have e : way = 8 := V.int.inj (of_decide_eq_true hw)
   obtain ⟨tu, rfl, rfl, rfl⟩ := hu (by rw [e]; decide)
   have W3 := W2.mv tu
   refine ⟨_, rfl, .inl ⟨rfl, _, SqL.of M3.gl⟩, _, rfl, _, rfl, _, rfl, l', _, _, _, rfl, rfl, SqL.of M3.gl, atI_last _ _, Rr, p, q, rs, qs, one, other, _, vl, n, kk, rfl, W3.at_, W3.hp, W3.h2, W3.hq, W3.g2, R, hvl.mv tu, wl, by omega, fun v' H4 hv' s4 => ?_⟩
   have M4 := M3.same s4
   have wc := wl.cross R
   refine ⟨l', _, _, rfl, rfl, M4.gl, by rw [<- lx]; exact Nat.lt_of_le_of_lt (show kk + 1 <= 151 by omega) (by decide), hnx _ _ ⟨l', _, _, rfl, M4.put (rows' := walkL one other hs kk ++ [crossG one other (wk one other hs kk)]) (fun H5 tt => (M4.a2.imp fun _ _ z => z.mv tt).append (.cons (hv'.mv tt) .nil)) (by rw [List.length_append, walkL_len]; show _ + 1 <= 200; omega) (fun r hr => ?_), fun z => absurd (.inr (.inr (.inr e))) z⟩⟩
   rcases List.mem_append.mp hr with hr | hr
   ·exact M4.pr r hr
   ·have er : r = crossG one other (wk one other hs kk) := by simpa using hr
    rw [er]
    exact ⟨⟨n, by omega, wc.hep⟩, Nat.le_trans (wc.chl R) (by decide)⟩
  clear hu M3
  rintro σ' H3 ⟨l', rows', xs', rfl, M3, hu⟩
  refine seqJoin (fun σ' H' => ∃ (l' : Addr) (rows' : List Plc) (xs' : List V), σ' = [some (.ref st), some (.ref Rr), some (.ref l'), some (.int way), none] /\ OC H H' st ga ca (N + 107) l l' rows' xs' /\ (¬ (way = 1 \/ way = 2 \/ way ∈ ([3, 4, 5, 6, 7, 9] : List Int) \/ way = 8 \/ way = 10) -> Tups H2 H' /\ l' = l /\ rows' = walkL one other hs kk /\ xs' = ys ++ [vl])) (fun nx hnx => ?_) ?_
  ·refine ⟨_, rfl, rfl, _, rfl, ite2 (fun hw => ?_) (fun hw => hnx _ _ ⟨l', _, _, rfl, M3, fun z => hu fun y => z (by rcases y with y | y | y | y <;> simp [y])⟩)⟩
   have e : way = 10 := V.int.inj (of_decide_eq_true hw)
   obtain ⟨tu, rfl, rfl, rfl⟩ := hu (by rw [e]; decide)
   refine ⟨_, rfl, ?_⟩
   dsimp only [tNoPart]
   refine ⟨_, rfl, l', _, rfl, SqL.of M3.gl, fun l5 hl5 => ?_⟩
   rw [show (some (1 : Int)) = some ((1 : Nat) : Int) from rfl, cut_take] at *
   have s5 := Same.new (o := .lst ((ys ++ [vl]).take 1)) hl5
   have M5 := M3.same s5
   have u5 := upd_same (H := H3) (a := l5) (o := .lst ((ys ++ [vl]).take 1))
   generalize upd H3 l5 (.lst ((ys ++ [vl]).take 1)) = H5 at s5 u5 M5 ⊢
   refine ⟨_, rfl, l5, l', _, _, rfl, rfl, u5, M5.gl, by rw [List.length_take]; exact Nat.le_trans (show _ <= 200 by omega) (by decide), fun l6 hl6 => ?_⟩
   have M6 := M5.same (Same.new (o := .lst ((ys ++ [vl]).take 1 ++ (ys ++ [vl]))) hl6)
   refine hnx _ _ ⟨l6, (walkL one other hs kk).take 1 ++ walkL one other hs kk, _, rfl, ⟨upd_same, (M6.a2.take 1).append M6.a2, ?_, fun r hr => ?_, M6.sa, M6.kp, M5.sa.nin3 hl6⟩, fun z => absurd (.inr (.inr (.inr (.inr e)))) z⟩
   ·rw [List.length_append, List.length_take, walkL_len]
    omega
   ·rcases List.mem_append.mp hr with hr | hr
    ·exact M6.pr r (List.mem_of_mem_take hr)
    ·exact M6.pr r hr
  clear hu M3
  rintro σ' H3 ⟨l', rows', xs', rfl, M3, hu⟩
  refine seqJoin (fun σ' H' => ∃ (l' : Addr) (rows' : List Plc) (xs' : List V), σ' = [some (.ref st), some (.ref Rr), some (.ref l'), some (.int way), none] /\ OC H H' st ga ca (N + 107) l l' rows' xs' /\ (¬ (way = 1 \/ way = 2 \/ way ∈ ([3, 4, 5, 6, 7, 9] : List Int) \/ way = 8 \/ way = 10 \/ way = 11) -> Tups H2 H' /\ l' = l /\ rows' = walkL one other hs kk /\ xs' = ys ++ [vl])) (fun nx hnx => ?_) ?_
  ·refine ⟨_, rfl, rfl, _, rfl, ite2 (fun hw => ?_) (fun hw => hnx _ _ ⟨l', _, _, rfl, M3, fun z => hu fun y => z (by rcases y with y | y | y | y | y <;> simp [y])⟩)⟩
   have e : way = 11 := V.int.inj (of_decide_eq_true hw)
   refine ⟨_, rfl, _, rfl, _, rfl, rfl, l', _, rfl, SqL.of M3.gl, fun l5 hl5 => ?_⟩
   have s5 := Same.new (o := .lst xs'.reverse) hl5
   have M5 := M3.same s5
   have u5 := upd_same (H := H3) (a := l5) (o := .lst xs'.reverse)
   generalize upd H3 l5 (.lst xs'.reverse) = H5 at s5 u5 M5 ⊢
   have ar := M5.a2.revA
   have lr := ar.length
   rw [List.length_reverse, List.length_reverse] at lr
   have M5l := M5.len
   refine ⟨l5, rfl, ⟨_, SqL.of u5⟩, comp_list (xs := xs'.reverse) (fun i zs σ' H' => Same H5 H' /\ (∃ v0 v1 v2, σ' = [v0, v1, v2]) /\ All2 PlaceV H' ((rows'.reverse.take i).map swS) zs) ⟨Same.refl _, ⟨_, _, _, rfl⟩, .nil⟩ ?_ ?_ ?_⟩
   ·rintro i zs σ' H' hi ⟨s', _, a'⟩
    refine ⟨SqL.of (s' _ _ u5), ?_⟩
    rw [<- a'.length, List.length_map, List.length_take, List.length_reverse]
    exact Nat.le_trans (show _ <= 200 by omega) (by decide)
   ·rintro i y zs σ' H' hy ⟨s', ⟨w0', w1', w2', rfl⟩, a'⟩
    obtain ⟨pl, hpl, t, hh, hc, rfl, g1, g2, g3⟩ := ar.get hy
    refine ⟨t, _, rfl, SqT.of (s' _ _ g1), rfl, _, _, rfl, _, _, rfl, _, _, rfl, rfl, ?_⟩
    refine ⟨_, rfl, _, _, rfl, rfl, _, rfl, _, rfl, by show 3 <= sizeLine; decide, fun T1 hT1 => ?_⟩
    have sT := Same.new (o := .tup [V.int (3 - pl.1), V.ref hh, V.ref hc]) hT1
    refine ⟨s'.trans sT, ⟨_, _, _, rfl⟩, ?_⟩
    rw [List.take_succ, hpl, List.map_append]
    exact (a'.imp fun _ _ z => z.mv sT.tups).append (.cons ⟨T1, hh, hc, rfl, upd_same, sT _ _ (s' _ _ g2), sT _ _ (s' _ _ g3)⟩ .nil)
   ·rintro zs σ' H6 ⟨s6, _, a6⟩ l6 hl6
    rw [List.length_reverse, <- M5.a2.length, <- List.length_reverse, List.take_length] at a6
    have M6 := (M5.same s6).same (Same.new (o := .lst zs) hl6)
    refine hnx _ _ ⟨l6, rows'.reverse.map swS, zs, rfl, ⟨upd_same, a6.imp fun _ _ z => z.mv (Same.new hl6).tups, by rw [List.length_map, List.length_reverse]; exact M5l, fun r hr => ?_, M6.sa, M6.kp, (M5.same s6).sa.nin3 hl6⟩, fun z => absurd (.inr (.inr (.inr (.inr (.inr e))))) z⟩
    obtain ⟨r0, hr0, rfl⟩ := List.mem_map.mp hr
    have := M5.pr r0 (List.mem_reverse.mp hr0)
    exact ⟨this.hp, this.ch⟩
  clear hu M3
  rintro σ' H3 ⟨l', rows', xs', rfl, M3, hu⟩
  refine seqJoin (fun σ' H' => ∃ (l' : Addr) (rows' : List Plc) (xs' : List V), σ' = [some (.ref st), some (.ref Rr), some (.ref l'), some (.int way), none] /\ OC H H' st ga ca (N + 107) l l' rows' xs' /\ (¬ (way = 1 \/ way = 2 \/ way ∈ ([3, 4, 5, 6, 7, 9] : List Int) \/ way = 8 \/ way = 10 \/ way = 11 \/ way = 12) -> Tups H2 H' /\ l' = l /\ rows' = walkL one other hs kk /\ xs' = ys ++ [vl])) (fun nx hnx => ?_) ?_
  ·refine ⟨_, rfl, rfl, _, rfl, ite2 (fun hw => ?_) (fun hw => hnx _ _ ⟨l', _, _, rfl, M3, fun z => hu fun y => z (by rcases y with y | y | y | y | y | y <;> simp [y])⟩)⟩
   have e : way = 12 := V.int.inj (of_decide_eq_true hw)
   refine ⟨by show 0 <= sizeLine; decide, fun l5 hl5 => ?_⟩
   have M5 := M3.same (Same.new (o := .lst []) hl5)
   exact hnx _ _ ⟨l5, [], [], rfl, ⟨upd_same, .nil, Nat.zero_le _, (fun r hr => by cases hr), M5.sa, M5.kp, M3.sa.nin3 hl5⟩, fun z => absurd (.inr (.inr (.inr (.inr (.inr (.inr e)))))) z⟩
  clear hu M3
  rintro σ' H3 ⟨l', rows', xs', rfl, M3, hu⟩
  refine seqJoin (fun σ' H' => ∃ (l' : Addr) (rows' : List Plc) (xs' : List V) (v4 : Option V), σ' = [some (.ref st), some (.ref Rr), some (.ref l'), some (.int way), v4] /\ OC H H' st ga ca (N + 127) l l' rows' xs') (fun nx hnx => ?_) ?_
  ·refine ⟨_, rfl, rfl, _, rfl, ite2 (fun hw => ?_) (fun hw => hnx _ _ ⟨l', _, _, _, rfl, M3.mono (by omega)⟩)⟩
   have e : way = 13 := V.int.inj (of_decide_eq_true hw)
   obtain ⟨tu, rfl, rfl, rfl⟩ := hu (by rw [e]; decide)
   obtain ⟨t, hh, hc, rfl, g1, g2, g3⟩ := hpv0.mv tu
   refine ⟨_, rfl, _, rfl, l', _, 0, _, rfl, rfl, SqL.of M3.gl, atI_nat (j := 0) hv0, t, _, 1, _, rfl, rfl, SqT.of g1, atI_nat (j := 1) rfl, st, ga, ca, _, hh, hs, n, rfl, M3.sa, by omega, g2, hep, by omega, fun ph hs' n' H4 gph hep' hn' S4 K4 => ?_⟩
   have M4 := M3.drawn S4 K4
   refine ⟨_, rfl, by show 0 <= sizeLine; decide, fun c1 hc1 => ⟨by show 3 <= sizeLine; decide, fun t1 ht1 => ⟨_, rfl, by show 0 <= sizeLine; decide, fun c2 hc2 => ⟨by show 3 <= sizeLine; decide, fun t2 ht2 => ⟨by show 2 <= sizeLine; decide, fun l5 hl5 => ?_⟩⟩⟩⟩⟩
   have q1 := Same.new (o := .tup []) hc1
   have q2 := Same.new (o := .tup [V.int 1, V.ref ph, V.ref c1]) ht1
   have q3 := Same.new (o := .tup []) hc2
   have q4 := Same.new (o := .tup [V.int 2, V.ref ph, V.ref c2]) ht2
   have q5 := Same.new (o := .lst [V.ref t1, V.ref t2]) hl5
   have q35 := q3.trans (q4.trans q5)
   have q25 := q2.trans q35
   have q15 := q1.trans q25
   have M5 := M4.same q15
   refine hnx _ _ ⟨l5, [(1, hs', []), (2, hs', [])], _, _, rfl, ⟨upd_same, .cons ⟨t1, ph, c1, rfl, q35 _ _ upd_same, q15 _ _ gph, q25 _ _ upd_same⟩ (.cons ⟨t2, ph, c2, rfl, q5 _ _ upd_same, q15 _ _ gph, (q4.trans q5) _ _ upd_same⟩ .nil), by show 2 <= 200; decide, fun r hr => ?_, M5.sa.mono (by omega), M5.kp, ((M4.same (q1.trans (q2.trans (q3.trans q4)))).sa).nin3 hl5⟩⟩
   have er : r = (1, hs', []) \/ r = (2, hs', []) := by simpa using hr
   rcases er with rfl | rfl
   ·exact ⟨⟨n', by omega, hep'⟩, by show 0 <= 10; decide⟩
   ·exact ⟨⟨n', by omega, hep'⟩, by show 0 <= 10; decide⟩
  rintro σ' H4 ⟨l4, rows4, xs4, v4, rfl, M4⟩
  exact ⟨_, rfl, k l4 rows4 xs4 H4 M4.gl M4.a2 M4.len M4.pr (M4.sa.mono (by omega)) (fun b o hb hn => M4.kp b o hb fun z => by
   simp only [List.mem_cons, List.not_mem_nil, or_false] at z hn
   rcases z with z | z | z
   ·exact hn (.inl z)
   ·exact hn (.inr z)
   ·rw [z, nlH] at hb; cases hb)⟩
def n_sum_of : List Str := ["heap"]
theorem sc_sum_of : FnScope n_sum_of ["heap"] (defScope s_sum_of) := ⟨rfl, rfl, rfl, by decide +kernel, rfl, by decide +kernel, by decide +kernel⟩
def sp_sum_of (K : PySem.W.Frag) : Sp := fun vs H Q _ => ∃ (a : Addr) (ns : List Int), vs = [.ref a] /\ SqT K H a (ns.map V.int) /\ Q (.int ns.sum) H
theorem ok_sum_of (T : Txt K mg A) : FnOk P w K mg base CX0 1 A.a_sum_of A.fd_sum_of ["heap"] (sp_sum_of K) := by
 refine T.F_sum_of.ok sc_sum_of (fun vs H Q E h => ?_) (fun cdv Ar outer s H vs Q E hr h => ?_)
 ·obtain ⟨a, ns, rfl, hS, k⟩ := h
  rfl
 ·obtain ⟨a, ns, rfl, hS, k⟩ := h
  refine ⟨_, (pss_one (ps_ret (pe_callB (call_sum_ints rfl) rfl T.b_sum boot_sum (pa_cons (pv 0) pa_nil)))), ?_⟩
  exact ⟨_, rfl, a, ns, rfl, .inr hS, k⟩
def n_choices_among : List Str := ["numbers", "choices", "number"]
theorem sc_choices_among : FnScope n_choices_among ["numbers"] (defScope s_choices_among) := ⟨rfl, rfl, rfl, by decide +kernel, rfl, by decide +kernel, by decide +kernel⟩
def sp_choices : Sp := fun vs H Q _ => ∃ (a : Addr) (ns : List Int), vs = [.ref a] /\ H a = some (.lst (ns.map V.int)) /\ ns.length <= 6 /\
 ∀ (l : Addr) (xs : List V) (H' : Hp), H' l = some (.lst xs) -> All2 Tup1 H' (chG ns) xs -> Same H H' -> H l = none -> Q (.ref l) H'
theorem ok_choices_among (T : Txt K mg A) : FnOk P w K mg base CX0 1 A.a_choices_among A.fd_choices_among ["numbers"] sp_choices := by
 refine T.F_choices_among.ok sc_choices_among (fun vs H Q E h => ?_) (fun cdv Ar outer s H vs Q E hr h => ?_)
 ·obtain ⟨a, ns, rfl, ha, hln, k⟩ := h
  rfl
 ·obtain ⟨a, ns, rfl, ha, hln, k⟩ := h
  refine ⟨_, (pss_cons (ps_set (i := 1) sc_choices_among.nd rfl (by first | exact Or.inl rfl | exact Or.inr rfl) (pe_lst (pa_cons (pe_tup pa_nil) pa_nil)))
    (pss_cons (ps_for PassesOwn.never rfl (pi_list (pv 0)) (pg_name (i := 2) sc_choices_among.nd rfl (by first | exact Or.inl rfl | exact Or.inr rfl))
     (pss_one (ps_set (i := 1) sc_choices_among.nd rfl (by first | exact Or.inl rfl | exact Or.inr rfl) (pe_op op_cat (pv 1) (pe_comp (ls := ["choice"]) (fr := [("number", 2)]) (cs_of (defScope s_choices_among) n_choices_among rfl rfl (by decide +kernel)) rfl (pi_list (pv 1)) (fun _ _ _ _ => pgc 0 (by decide +kernel) rfl rfl) (fun _ _ _ _ => pf_nil) (fun _ _ _ _ => (pe_op (op_catAK K rfl) (pvc (defScope s_choices_among) 0) (pe_tup (pa_cons (pvc (defScope s_choices_among) 1) pa_nil)))))))))
    (pss_one (ps_ret (pv 1))))), ?_⟩
  refine ⟨by show 0 <= sizeLine; decide, fun e he => ⟨by show 1 <= sizeLine; decide, fun l0 hl0 => ?_⟩⟩
  have ne0 : H l0 = none := (Same.new he).free hl0
  refine ⟨_, rfl, a, rfl, ⟨_, SqL.of ((Same.new he).trans (Same.new hl0) _ _ ha)⟩, for_list (xs := ns.map V.int) (fun i σ' H' => Same H H' /\ i <= 6 /\ ∃ l xs v, σ' = [some (.ref a), some (.ref l), v] /\ H' l = some (.lst xs) /\ H l = none /\ All2 Tup1 H' (chG (ns.take i)) xs) ?_ ?_ ?_ ?_⟩
  ·refine ⟨(Same.new he).trans (Same.new hl0), Nat.zero_le _, l0, [.ref e], _, rfl, upd_same, ne0, .cons ⟨e, rfl, ?_⟩ .nil⟩
   exact Same.new hl0 _ _ upd_same
  ·rintro i σ' H' _ ⟨s, _⟩
   exact SqL.of (s _ _ ha)
  ·rintro i x σ' H' hx ⟨s, hi6, l, xs, v, rfl, gl, nl, h2⟩
   obtain ⟨z, hz, rfl⟩ := map_at hx
   have hi := (List.getElem?_eq_some_iff.mp hz).1
   have ez := (List.getElem?_eq_some_iff.mp hz).2
   have hlen := chG_len i (ns.take i) (by rw [List.length_take]; omega)
   have hmem := chG_mem i (ns.take i) (by rw [List.length_take]; omega)
   have hlx : xs.length <= 64 := by
    rw [<- h2.length, hlen]
    exact Nat.le_trans (Nat.pow_le_pow_right (by decide) hi6) (by decide)
   refine ⟨_, rfl, _, rfl, l, rfl, ⟨_, SqL.of gl⟩, comp_list (xs := xs) (fun j ys σ' H2 => Same H' H2 /\ (∃ v, σ' = [v, some (.int z)]) /\ All2 Tup1 H2 (((chG (ns.take i)).take j).map (· ++ [z])) ys) ⟨fun _ _ h => h, ⟨_, rfl⟩, .nil⟩ ?_ ?_ ?_⟩
   ·rintro j ys σ' H2 hj ⟨s2, _, h3⟩
    refine ⟨SqL.of (s2 _ _ gl), ?_⟩
    rw [<- h3.length, List.length_map, List.length_take]
    refine Nat.le_trans (m := 64) (by omega) (by decide)
   ·rintro j x ys σ' H2 hx ⟨s2, ⟨v, rfl⟩, h3⟩
    obtain ⟨hs, hhs, q, rfl, hq⟩ := h2.get hx
    have hj := (List.getElem?_eq_some_iff.mp hhs).1
    have eh := (List.getElem?_eq_some_iff.mp hhs).2
    refine ⟨_, rfl, _, rfl, by show 1 <= sizeLine; decide, fun t ht => ?_⟩
    have hl1 : hs.length <= 60 := by
     have := (hmem hs (List.mem_of_getElem? hhs)).1
     omega
    refine cat_one (Same.new ht _ _ (s2 _ _ hq)) upd_same hl1 fun v H3 hv s3 => ?_
    have sn := (Same.new (o := .tup [V.int z]) ht).trans s3
    refine ⟨s2.trans sn, ⟨_, rfl⟩, ?_⟩
    rw [List.take_succ_eq_append_getElem hj, List.map_append, eh]
    exact (h3.mv sn.tups).snoc hv
   ·rintro ys σ' H2 ⟨s2, ⟨v, rfl⟩, h3⟩ l2 hl2
    have et : (chG (ns.take i)).take xs.length = chG (ns.take i) := by rw [<- h2.length, List.take_length]
    rw [et] at h3
    have hly : ys.length <= 64 := by
     rw [<- h3.length, List.length_map, h2.length]
     exact hlx
    refine ⟨l, l2, xs, ys, rfl, rfl, Same.new hl2 _ _ (s2 _ _ gl), upd_same, Nat.le_trans (m := 128) (by omega) (by decide), fun l3 hl3 => ?_⟩
    have sn := s2.trans ((Same.new (o := .lst ys) hl2).trans (Same.new (o := .lst (xs ++ ys)) hl3))
    refine ⟨s.trans sn, by omega, l3, xs ++ ys, _, rfl, upd_same, (s.trans (s2.trans (Same.new hl2))).free hl3, ?_⟩
    rw [List.take_succ_eq_append_getElem hi, ez, chG_snoc]
    exact (h2.mv sn.tups).append (h3.mv ((Same.new hl2).trans (Same.new hl3)).tups)
  ·rintro σ' H' ⟨s, _, l, xs, v, rfl, gl, nl, h2⟩
   rw [List.length_map, List.take_length] at h2
   exact ⟨_, rfl, k l xs H' gl h2 s nl⟩
def n_choices_of : List Str := ["rule"]
theorem sc_choices_of : FnScope n_choices_of ["rule"] (defScope s_choices_of) := ⟨rfl, rfl, rfl, by decide +kernel, rfl, by decide +kernel, by decide +kernel⟩
def sp_choices_of : Sp := fun vs H Q _ => ∃ (a : Addr) (rs : List V), vs = [.ref a] /\ H a = some (.tup rs) /\ rs.length <= 6 /\
 ∀ (l : Addr) (xs : List V) (H' : Hp), H' l = some (.lst xs) -> All2 Tup1 H' (chG (upto rs.length)) xs -> Same H H' -> H l = none -> Q (.ref l) H'
theorem ok_choices_of (T : Txt K mg A) : FnOk P w K mg base CX0 2 A.a_choices_of A.fd_choices_of ["rule"] sp_choices_of := by
 refine T.F_choices_of.ok sc_choices_of (fun vs H Q E h => ?_) (fun cdv Ar outer s H vs Q E hr h => ?_)
 ·obtain ⟨a, rs, rfl, ha, hln, k⟩ := h
  rfl
 ·obtain ⟨a, rs, rfl, ha, hln, k⟩ := h
  refine ⟨_, (pss_one (ps_ret (pe_call (ok_choices_among T) (hr.mono (by decide)) rfl T.g_choices_among T.F_choices_among.kp T.b_choices_among .nil pass0 (pa_cons (pe_callTy (call_list_rng rfl) rfl T.b_list boot_list (pa_cons (pe_rng1 rfl T.b_range (pa_cons (pe_callB call_len_seq rfl T.b_len PySem.boot_len (pa_cons (pv 0) pa_nil)) pa_nil)) pa_nil)) pa_nil)))), ?_⟩
  refine ⟨_, rfl, a, _, rfl, .inr (SqT.of ha), _, rfl, fun r hr' => ⟨r, _, rfl, upd_same, by omega, by omega, fun l hl => ?_⟩⟩
  rw [Int.toNat_natCast]
  refine ⟨l, upto rs.length, rfl, upd_same, by rw [upto_len]; exact hln, fun l2 xs H' gl h2 s nl => ?_⟩
  exact k l2 xs H' gl h2 (((Same.new hr').trans (Same.new hl)).trans s) (((Same.new hr').trans (Same.new hl)).free nl)
def n_sums_of : List Str := ["rule"]
theorem sc_sums_of : FnScope n_sums_of ["rule"] (defScope s_sums_of) := ⟨rfl, rfl, rfl, by decide +kernel, rfl, by decide +kernel, by decide +kernel⟩
def CS (z : List Int × Int) (v : V) (H : Hp) : Prop := ∃ q c, v = .ref q /\ H q = some (.tup [.ref c, .int z.2]) /\ H c = some (.tup (z.1.map V.int))
theorem CS.mv {H H' : Hp} {z : List Int × Int} {v : V} (t : Tups H H') : CS z v H -> CS z v H'
 | ⟨q, c, e, h1, h2⟩ => ⟨q, c, e, t _ _ h1, t _ _ h2⟩
noncomputable def sumX (rule : List (List Int)) (c : List Int) : Int := (joinX (pickG rule c)).sum
def sp_sums_of : Sp := fun vs H Q _ => ∃ (p : Addr) (rs : List V) (rule : List (List Int)), vs = [.ref p] /\ H p = some (.tup rs) /\ All2 Tup1 H rule rs /\ rule.length <= 6 /\ RuleJ rule /\
 ∀ (l : Addr) (xs : List V) (H' : Hp), H' l = some (.lst xs) -> All2 CS H' ((chG (upto rule.length)).map fun c => (c, sumX rule c)) xs -> Same H H' -> Q (.ref l) H'
theorem ok_sums_of (T : Txt K mg A) : FnOk P w K mg base CX0 4 A.a_sums_of A.fd_sums_of ["rule"] sp_sums_of := by
 refine T.F_sums_of.ok sc_sums_of (fun vs H Q E h => ?_) (fun cdv Ar outer s H vs Q E hr h => ?_)
 ·obtain ⟨p, rs, rule, rfl, hp, h2, h6, hJ, k⟩ := h
  rfl
 ·obtain ⟨p, rs, rule, rfl, hp, h2, h6, hJ, k⟩ := h
  refine ⟨_, (pss_one (ps_ret (pe_comp (ls := ["choice"]) (fr := [("rule", 0)]) (cs_of (defScope s_sums_of) n_sums_of rfl rfl (by decide +kernel)) rfl (pi_list (pe_call (ok_choices_of T) (hr.mono (by decide)) rfl T.g_choices_of T.F_choices_of.kp T.b_choices_of .nil pass0 (pa_cons (pv 0 (hv := Or.inr (Or.inl rfl))) pa_nil))) (fun _ _ _ _ => pgc 0 (by decide +kernel) rfl rfl) (fun _ _ _ _ => pf_nil) (fun _ _ _ _ => (pe_tup (pa_cons (pvc (defScope s_sums_of) 0) (pa_cons (pe_call (ok_sum_of T) (hr.mono (by decide)) (glc (defScope s_sums_of)) T.g_sum_of T.F_sum_of.kp T.b_sum_of .nil pass0 (pa_cons (pe_call (ok_joined_of T) (hr.mono (by decide)) (glc (defScope s_sums_of)) T.g_joined_of T.F_joined_of.kp T.b_joined_of .nil pass0 (pa_cons (pvc (defScope s_sums_of) 1) (pa_cons (pvc (defScope s_sums_of) 0) pa_nil))) pa_nil)) pa_nil))))))), ?_⟩
  have hrl := h2.length
  refine ⟨_, rfl, p, rs, rfl, hp, by omega, fun cl cs H1 gc h4 s1 ncl => ?_⟩
  rw [<- hrl] at h4
  have hcl := h4.length
  have h64 : (chG (upto rule.length)).length <= 64 := by
   rw [chG_len _ _ (upto_len _)]
   exact Nat.le_trans (Nat.pow_le_pow_right (by decide) h6) (by decide)
  refine ⟨cl, rfl, ⟨_, SqL.of gc⟩, compK_mapL CS ((chG (upto rule.length)).map fun c => (c, sumX rule c)) [some (.ref p)] (by rw [List.length_map]; exact hcl) (Nat.le_trans (m := 64) (by omega) (by decide)) (fun _ _ _ _ s h => h.mv s.tups) rfl gc (fun j x b H' P hx hb s' hP => ?_) (fun zs H2 l s2 a2 hl => ?_)⟩
  ·obtain ⟨ch, hch, c, rfl, gcc⟩ := h4.get hx
   rw [List.getElem?_map, hch] at hb
   have s02 := s1.trans s'
   obtain ⟨cm1, cm2⟩ := chG_mem rule.length (upto rule.length) (upto_len _) ch (List.mem_of_getElem? hch)
   have chb : ∀ j ∈ ch, 0 <= j /\ j < rule.length := fun j hj => by
    have := upto_mem (cm2 j hj)
    omega
   refine ⟨_, rfl, _, rfl, _, rfl, p, c, rs, rule, ch, rfl, s02 _ _ hp, h2.mv s02.tups, s' _ _ gcc, ⟨hJ.pick (by omega), by omega⟩, chb, fun q ms H4 gq hj hl4 s4 nq => ?_⟩
   have ej := joinX_eq hj
   refine ⟨q, ms, rfl, SqT.of gq, by show 2 <= sizeLine; decide, fun T1 hT1 => ?_⟩
   have s5 := Same.new (o := .tup [V.ref c, V.int ms.sum]) hT1
   refine hP _ _ (s4.trans s5) ?_
   rw [<- Option.some.inj hb]
   refine ⟨T1, c, rfl, ?_, s5 _ _ (s4 _ _ (s' _ _ gcc))⟩
   rw [upd_same]
   show _ = some (HO.tup [V.ref c, V.int (sumX rule ch)])
   unfold sumX
   rw [ej]
  ·exact k l zs _ upd_same (a2.imp fun _ _ h => h.mv (Same.new hl).tups) (s1.trans (s2.trans (Same.new hl)))
def n_first_unlike : List Str := ["one", "other", "row", "fellow"]
theorem sc_first_unlike : FnScope n_first_unlike ["one", "other"] (defScope s_first_unlike) := ⟨rfl, rfl, rfl, by decide +kernel, rfl, by decide +kernel, by decide +kernel⟩
def sp_first_unlike : Sp := fun vs H Q _ => ∃ (p q : Addr) (rs qs : List V) (one other : List (List Int)), vs = [.ref p, .ref q] /\ H p = some (.tup rs) /\ All2 Tup1 H one rs /\ H q = some (.tup qs) /\ All2 Tup1 H other qs /\ one.length = other.length /\ one.length <= 6 /\ RuleJ one /\ RuleJ other /\ (∀ c, sumX one c = sumX other c) /\ ∀ H', Same H H' -> Q .non H'
theorem ok_first_unlike (T : Txt K mg A) : FnOk P w K mg base CX0 5 A.a_first_unlike A.fd_first_unlike ["one", "other"] sp_first_unlike := by
 refine T.F_first_unlike.ok sc_first_unlike (fun vs H Q E h => ?_) (fun cdv Ar outer s H vs Q E hr h => ?_)
 ·obtain ⟨p, q, rs, qs, one, other, rfl, hp, h2, hq, g2, hl, h6, hJ, hJ2, hm, k⟩ := h
  rfl
 ·obtain ⟨p, q, rs, qs, one, other, rfl, hp, h2, hq, g2, hl, h6, hJ, hJ2, hm, k⟩ := h
  refine ⟨_, (pss_cons (ps_if (pt_cmpR op_ne (pe_callB call_len_seq rfl T.b_len PySem.boot_len (pa_cons (pv 0) pa_nil)) (pe_callB call_len_seq rfl T.b_len PySem.boot_len (pa_cons (pv 1) pa_nil)) (nomark _))
     (pss_one ps_never) pss_nil)
    (pss_cons (ps_for PassesOwn.never rfl (pi_zip false false rfl T.b_zip (pa_cons (pe_call (ok_sums_of T) (hr.mono (by decide)) rfl T.g_sums_of T.F_sums_of.kp T.b_sums_of .nil pass0 (pa_cons (pv 0) pa_nil)) (pa_cons (pe_call (ok_sums_of T) (hr.mono (by decide)) rfl T.g_sums_of T.F_sums_of.kp T.b_sums_of .nil pass0 (pa_cons (pv 1) pa_nil)) pa_nil))) (pg_tup rfl (pgs_cons (pg_name (i := 2) sc_first_unlike.nd rfl (by first | exact Or.inl rfl | exact Or.inr rfl)) (pgs_cons (pg_name (i := 3) sc_first_unlike.nd rfl (by first | exact Or.inl rfl | exact Or.inr rfl)) pgs_nil)))
     (pss_one (ps_if (pt_cmpR op_ne (pe_ix ix_tup (pv 2) pe_int (fun _ _ => rfl)) (pe_ix ix_tup (pv 3) pe_int (fun _ _ => rfl)) (nomark _))
     (pss_one (ps_ret (pe_tup (pa_cons (pe_ix ix_tup (pv 2) pe_int (fun _ _ => rfl)) (pa_cons (pe_ix ix_tup (pv 2) pe_int (fun _ _ => rfl)) (pa_cons (pe_ix ix_tup (pv 3) pe_int (fun _ _ => rfl)) pa_nil)))))) pss_nil)))
    (pss_one (ps_ret pe_non)))), ?_⟩
  have hrl := h2.length
  have hql := g2.length
  refine ⟨_, rfl, p, _, rfl, .inr (SqT.of hp), _, rfl, q, _, rfl, .inr (SqT.of hq), rfl, _, rfl, iteNS (by rw [<- hrl, <- hql, hl]) ?_⟩
  refine ⟨_, rfl, p, rs, one, rfl, hp, h2, h6, hJ, fun l1 xs H1 gl1 a1 s1 => ?_⟩
  refine ⟨_, rfl, q, qs, other, rfl, s1 _ _ hq, g2.mv s1.tups, by omega, hJ2, fun l2 ys H2 gl2 a2 s2 => ?_⟩
  rw [<- hl] at a2
  have a1 := a1.imp (H' := H2) fun _ _ h => h.mv s2.tups
  have gl1 := s2 _ _ gl1
  refine ⟨l1, l2, rfl, ⟨_, SqL.of gl1⟩, ⟨_, SqL.of gl2⟩, for_zip (xs := xs) (ys := ys) (fun i σ' H' => Same H2 H' /\ ∃ v w, σ' = [some (.ref p), some (.ref q), v, w]) ⟨Same.refl _, _, _, rfl⟩ ?_ ?_ ?_⟩
  ·rintro i σ' H' _ ⟨s', _⟩
   exact ⟨SqL.of (s' _ _ gl1), SqL.of (s' _ _ gl2)⟩
  ·rintro i x y σ' H' T' hx hy ⟨s', v, w', rfl⟩ hT
   obtain ⟨z1, hz1, q1, c1, rfl, e1, f1⟩ := a1.get hx
   obtain ⟨z2, hz2, q2, c2, rfl, e2, f2⟩ := a2.get hy
   rw [List.getElem?_map] at hz1 hz2
   have ez : z1.2 = z2.2 := by
    cases hc : (chG (upto one.length))[i]? with
    | none => rw [hc] at hz1; cases hz1
    | some c =>
     rw [hc] at hz1 hz2
     rw [<- Option.some.inj hz1, <- Option.some.inj hz2]
     exact hm c
   have sT := Same.new (o := .tup [V.ref q1, V.ref q2]) hT
   have gT := upd_same (H := H') (a := T') (o := .tup [V.ref q1, V.ref q2])
   generalize upd H' T' (.tup [V.ref q1, V.ref q2]) = H3 at sT gT
   have e1' := sT _ _ (s' _ _ e1)
   have e2' := sT _ _ (s' _ _ e2)
   refine ⟨T', _, rfl, SqT.of gT, rfl, _, _, rfl, _, _, rfl, rfl, ?_⟩
   refine ⟨_, rfl, q1, _, _, _, rfl, rfl, SqT.of e1', atI_nat (j := 1) rfl, _, rfl, q2, _, _, _, rfl, rfl, SqT.of e2', atI_nat (j := 1) rfl, rfl, _, rfl, iteNS (by rw [ez]) ?_⟩
   exact ⟨s'.trans sT, _, _, rfl⟩
  ·rintro σ' H' ⟨s', v, w', rfl⟩
   exact k H' (s1.trans (s2.trans s'))
def n_Beside___init__ : List Str := ["self", "one", "other", "unlike"]
theorem sc_Beside___init__ : FnScope n_Beside___init__ ["self", "one", "other"] (defScope s_Beside___init__) := ⟨rfl, rfl, rfl, by decide +kernel, rfl, by decide +kernel, by decide +kernel⟩
def sp_bes_init (A : Adr) : Sp := fun vs H Q _ => ∃ (x dx p q : Addr) (rs qs : List V) (one other : List (List Int)), vs = [.ref x, .ref p, .ref q] /\ H x = some (.ins A.c_Beside dx []) /\ H p = some (.tup rs) /\ All2 Tup1 H one rs /\ H q = some (.tup qs) /\ All2 Tup1 H other qs /\ Rul one other /\
 ∀ (H' : Hp), H' x = some (.ins A.c_Beside dx (fl2 p q)) -> (∀ b o, H b = some o -> b ≠ x -> H' b = some o) -> Q .non H'
theorem ok_Beside___init__ (T : Txt K mg A) : FnOk P w K mg base CX0 6 A.a_Beside___init__ A.fd_Beside___init__ ["self", "one", "other"] (sp_bes_init A) := by
 refine T.F_Beside___init__.ok sc_Beside___init__ (fun vs H Q E h => ?_) (fun cdv Ar outer s H vs Q E hr h => ?_)
 ·obtain ⟨x, dx, p, q, rs, qs, one, other, rfl, hx, hp, h2, hq, g2, R, k⟩ := h
  rfl
 ·obtain ⟨x, dx, p, q, rs, qs, one, other, rfl, hx, hp, h2, hq, g2, R, k⟩ := h
  refine ⟨_, (pss_cons (ps_set (i := 3) sc_Beside___init__.nd rfl (by first | exact Or.inl rfl | exact Or.inr rfl) (pe_call (ok_first_unlike T) (hr.mono (by decide)) rfl T.g_first_unlike T.F_first_unlike.kp T.b_first_unlike .nil pass0 (pa_cons (pv 1) (pa_cons (pv 2) pa_nil))))
    (pss_cons (ps_if (pt_cmpR op_notN (pv 3) pe_non (nomark _))
     (pss_one ps_never) pss_nil)
    (pss_cons (ps_fld (pv 0) (pv 1) rfl)
    (pss_one (ps_fld (pv 0) (pv 2) rfl))))), ?_⟩
  refine ⟨_, rfl, _, rfl, p, q, rs, qs, one, other, rfl, hp, h2, hq, g2, R.ln, R.l6, R.j1, R.j2, R.eq, fun H1 s1 => ?_⟩
  refine ⟨_, rfl, rfl, _, rfl, ite2 (fun z => by simp at z) (fun _ => ?_)⟩
  refine ⟨_, rfl, _, rfl, x, A.c_Beside, dx, [], rfl, s1 _ _ hx, T.cl_Beside, T.na_Beside_one, (by show 0 < 1000; decide), _, rfl, _, rfl, x, A.c_Beside, dx, _, rfl, upd_same, T.cl_Beside, T.na_Beside_other, (by show 1 < 1000; decide), ?_⟩
  refine k _ upd_same fun b o e hb => ?_
  rw [upd_ne hb, upd_ne hb]
  exact s1 _ _ e
def n_law : List Str := ["_law_script", "_law_state", "_law_rules", "_law_sided", "_law_n", "_law_heaps", "_law_heap_here", "_law_good", "_law_rows", "_law_handed"]
theorem sc_law : FnScope n_law ["_law_script"] (defScope s_law) := ⟨rfl, rfl, rfl, by decide +kernel, rfl, by decide +kernel, by decide +kernel⟩
def sp_law (K : PySem.W.Frag) : Sp := fun vs H Q _ => ∃ (a : Addr) (ns : List Int), vs = [.ref a] /\ SqL K H a (ns.map V.int) /\ ns.length <= 63 /\ ∀ H', Q (.bl true) H'
theorem ok_law (T : Txt K mg A) : FnOk P w K mg base CX0 40 A.a_law A.fd_law ["_law_script"] (sp_law K) := by
 refine T.F_law.ok sc_law (fun vs H Q E h => ?_) (fun cdv Ar outer s H vs Q E hr h => ?_)
 ·obtain ⟨a, ns, rfl, hS, hl, k⟩ := h
  rfl
 ·obtain ⟨a, ns, rfl, hS, hl, k⟩ := h
  refine ⟨_, (pss_cons (ps_set (i := 1) sc_law.nd rfl (by first | exact Or.inl rfl | exact Or.inr rfl) (pe_call (ok__law_start T) (hr.mono (by decide)) rfl T.g__law_start T.F__law_start.kp T.b__law_start .nil pass0 (pa_cons (pv 0) pa_nil)))
    (pss_cons (ps_set (i := 2) sc_law.nd rfl (by first | exact Or.inl rfl | exact Or.inr rfl) (pe_call (ok__law_matched T) (hr.mono (by decide)) rfl T.g__law_matched T.F__law_matched.kp T.b__law_matched .nil pass0 (pa_cons (pv 1) (pa_cons pe_int pa_nil))))
    (pss_cons (ps_set (i := 3) sc_law.nd rfl (by first | exact Or.inl rfl | exact Or.inr rfl) (pe_make T.mk_Beside (ok_Beside___init__ T) (hr.mono (by decide)) rfl T.g_Beside T.b_Beside___init__ .nil pass0 (pa_cons (pe_ix ix_tup (pv 2) pe_int (fun _ _ => rfl)) (pa_cons (pe_ix ix_tup (pv 2) pe_int (fun _ _ => rfl)) pa_nil))))
    (pss_cons (ps_set (i := 4) sc_law.nd rfl (by first | exact Or.inl rfl | exact Or.inr rfl) (pe_call (ok__law_draw T) (hr.mono (by decide)) rfl T.g__law_draw T.F__law_draw.kp T.b__law_draw .nil pass0 (pa_cons (pv 1) (pa_cons pe_int pa_nil))))
    (pss_cons (ps_set (i := 5) sc_law.nd rfl (by first | exact Or.inl rfl | exact Or.inr rfl) (pe_call (ok__law_keepers T) (hr.mono (by decide)) rfl T.g__law_keepers T.F__law_keepers.kp T.b__law_keepers .nil pass0 (pa_cons (pe_ix ix_tup (pv 2) pe_int (fun _ _ => rfl)) (pa_cons (pv 4) pa_nil))))
    (pss_cons (ps_if (pt_not (pt_truth (pv 5) (fun _ => rfl)))
     (pss_cons (ps_set (i := 6) sc_law.nd rfl (by first | exact Or.inl rfl | exact Or.inr rfl) (pe_ix ix_list (pe_call (ok__law_partings T) (hr.mono (by decide)) rfl T.g__law_partings T.F__law_partings.kp T.b__law_partings .nil pass0 (pa_cons (pv 4) (pa_cons (pv 4) pa_nil))) pe_int (fun _ _ => rfl)))
    (pss_one (ps_ret (pe_call (ok__law_same T) (hr.mono (by decide)) rfl T.g__law_same T.F__law_same.kp T.b__law_same .nil pass0 (pa_cons (pe_call (ok_is_walk T) (hr.mono (by decide)) rfl T.g_is_walk T.F_is_walk.kp T.b_is_walk .nil pass0 (pa_cons (pv 3) (pa_cons (pe_lst (pa_cons (pe_tup (pa_cons pe_int (pa_cons (pv 6) (pa_cons (pe_tup pa_nil) pa_nil)))) (pa_cons (pe_tup (pa_cons pe_int (pa_cons (pv 6) (pa_cons (pe_tup pa_nil) pa_nil)))) pa_nil))) pa_nil))) (pa_cons pe_bl pa_nil)))))) pss_nil)
    (pss_cons (ps_set (i := 7) sc_law.nd rfl (by first | exact Or.inl rfl | exact Or.inr rfl) (pe_call (ok__law_walk T) (hr.mono (by decide)) rfl T.g__law_walk T.F__law_walk.kp T.b__law_walk .nil pass0 (pa_cons (pv 2) (pa_cons (pe_ix ix_list (pv 5) (pe_call (ok__law_draw T) (hr.mono (by decide)) rfl T.g__law_draw T.F__law_draw.kp T.b__law_draw .nil pass0 (pa_cons (pv 1) (pa_cons (pe_callB call_len_seq rfl T.b_len PySem.boot_len (pa_cons (pv 5) pa_nil)) pa_nil))) (fun _ _ => rfl)) (pa_cons pe_int pa_nil)))))
    (pss_cons (ps_set (i := 8) sc_law.nd rfl (by first | exact Or.inl rfl | exact Or.inr rfl) (pe_call (ok__law_spoilt T) (hr.mono (by decide)) rfl T.g__law_spoilt T.F__law_spoilt.kp T.b__law_spoilt .nil pass0 (pa_cons (pv 1) (pa_cons (pv 2) (pa_cons (pv 7) pa_nil)))))
    (pss_cons (ps_set (i := 9) sc_law.nd rfl (by first | exact Or.inl rfl | exact Or.inr rfl) (pe_callTy call_list_of rfl T.b_list boot_list (pa_cons (pv 8) pa_nil)))
    (pss_cons (ps_if (PW.pt (pw_or (pt_not (pt_truth (pe_call (ok__law_same T) (hr.mono (by decide)) rfl T.g__law_same T.F__law_same.kp T.b__law_same .nil pass0 (pa_cons (pe_call (ok_is_walk T) (hr.mono (by decide)) rfl T.g_is_walk T.F_is_walk.kp T.b_is_walk .nil pass0 (pa_cons (pv 3) (pa_cons (pv 9) pa_nil))) (pa_cons (pe_call (ok__law_due T) (hr.mono (by decide)) rfl T.g__law_due T.F__law_due.kp T.b__law_due .nil pass0 (pa_cons (pv 2) (pa_cons (pv 8) pa_nil))) pa_nil))) (fun _ => rfl))) (pw_or1 (pt_not (pt_truth (pe_call (ok__law_same T) (hr.mono (by decide)) rfl T.g__law_same T.F__law_same.kp T.b__law_same .nil pass0 (pa_cons (pv 9) (pa_cons (pv 8) pa_nil))) (fun _ => rfl))))))
     (pss_one (ps_ret pe_bl)) pss_nil)
    (pss_one (ps_ret (pe_call (ok__law_same T) (hr.mono (by decide)) rfl T.g__law_same T.F__law_same.kp T.b__law_same .nil pass0 (pa_cons (pe_call (ok_is_walk T) (hr.mono (by decide)) rfl T.g_is_walk T.F_is_walk.kp T.b_is_walk .nil pass0 (pa_cons (pv 3) (pa_cons (pe_callTy call_list_of rfl T.b_list boot_list (pa_cons (pv 7) pa_nil)) pa_nil))) (pa_cons (pe_call (ok__law_due T) (hr.mono (by decide)) rfl T.g__law_due T.F__law_due.kp T.b__law_due .nil pass0 (pa_cons (pv 2) (pa_cons (pv 7) pa_nil))) pa_nil))))))))))))))), ?_⟩
  refine ⟨_, rfl, a, ns, rfl, hS, hl, fun st ga ca H1 S1 n1 n2 n3 s1 => ?_⟩
  refine ⟨_, rfl, st, ga, ca, _, 6, rfl, S1, by decide, by decide, by decide, fun R p q rs qs one other n H6 hR hp a1 hq a2 mt hn S6 K6 => ?_⟩
  have RR : Rul one other := Rul.of mt (by omega)
  have W : Two H6 R p q rs qs one other := ⟨hR, hp, a1, hq, a2, RR.ln, RR.l6, RR.b1, RR.b2⟩
  refine ⟨_, rfl, R, _, 0, _, rfl, rfl, SqT.of W.at_, atI_nat (j := 0) rfl, _, rfl, R, _, 1, _, rfl, rfl, SqT.of W.at_, atI_nat (j := 1) rfl, fun x dx nx ndx ne => ?_⟩
  have sx : Same H6 (upd (upd H6 dx (.own x)) x (.ins A.c_Beside dx [])) := (Same.new ndx).trans (Same.new (by rw [upd_ne ne.symm]; exact nx))
  have Wx := W.mv sx.tups
  refine ⟨x, dx, p, q, rs, qs, one, other, rfl, upd_same, Wx.hp, Wx.h2, Wx.hq, Wx.g2, RR, fun H7 hx7 hk7 => ⟨rfl, ?_⟩⟩
  have s67 : Same H6 H7 := fun b o hb => hk7 b o (sx _ _ hb) (fun e => by rw [e, nx] at hb; cases hb)
  have W7 := W.mv s67.tups
  have S7 := S6.same s67
  have B7 : Sided A.c_Beside H7 x p q rs qs one other := ⟨⟨dx, hx7⟩, W7.hp, W7.h2, W7.hq, W7.g2, W.ln, W.l6, W.b1, W.b2⟩
  clear hk7 Wx sx W K6 S6 hR hp a1 hq a2 s67 hx7 ne nx ndx
  have l6 := W7.l6
  refine ⟨_, rfl, st, ga, ca, _, 13, rfl, S7, by decide, by decide, by decide, fun nn H8 n0 n14 S8 K8 => ?_⟩
  obtain ⟨m, rfl⟩ : ∃ m : Nat, nn = (m : Int) := ⟨nn.toNat, by omega⟩
  have W8 := W7.mv (K8.tups S7)
  have B8 := B7.keep S7 K8
  refine ⟨_, rfl, R, _, 0, _, rfl, rfl, SqT.of W8.at_, atI_nat (j := 0) rfl, _, rfl, p, rs, one, m, rfl, W8.hp, W8.h2, by omega, (fun h hh => Nat.le_trans (W8.b1 h hh).1 (by decide)), by omega, fun l xs H9 gl a9 s9 nl => ?_⟩
  have nlS := S8.nin nl
  have S9 := S8.same s9
  have B9 := B8.mv s9
  have W9 := W8.mv s9.tups
  have lx := a9.length
  clear B8 W8 B7 W7 K8 S7
  dsimp only [tNext, gName]
  by_cases hemp : xs = []
  ·refine ⟨_, rfl, false, .inl ⟨_, SqL.of gl, by rw [hemp]; rfl⟩, iteT ?_⟩
   have hk0 : keptG one m = [] := List.eq_nil_of_length_eq_zero (by rw [lx, hemp]; rfl)
   refine ⟨_, rfl, _, rfl, m, m, by omega, rfl, by omega, by omega, fun l2 xs2 HA gl2 a2 s2 nl2 => ?_⟩
   obtain ⟨h1, hh1⟩ := partF_ne 26 m m (by omega) (by omega)
   have lx2 := a2.length
   have lp := List.length_pos_of_mem hh1
   obtain ⟨y, hy⟩ : ∃ y, xs2[0]? = some y := ⟨_, List.getElem?_eq_getElem (by omega)⟩
   obtain ⟨hs, hhs, qh, rfl, gq⟩ := a2.get hy
   have hmem := List.mem_of_getElem? hhs
   have hep := part_hep 26 m m hs (by omega) hmem
   have hno : firstG one hs ≠ none := fun z => by
    have : hs ∈ keptG one m := List.mem_filter.mpr ⟨hmem, by rw [z]; rfl⟩
    rw [hk0] at this
    cases this
   refine ⟨l2, _, 0, _, rfl, rfl, SqL.of gl2, atI_nat (j := 0) hy, ?_⟩
   refine ⟨_, rfl, _, rfl, by show 0 <= sizeLine; decide, fun c1 hc1 => ⟨by show 3 <= sizeLine; decide, fun t1 ht1 => ⟨_, rfl, by show 0 <= sizeLine; decide, fun c2 hc2 => ⟨by show 3 <= sizeLine; decide, fun t2 ht2 => ⟨by show 2 <= sizeLine; decide, fun l5 hl5 => ?_⟩⟩⟩⟩⟩
   have q1 := Same.new (o := .tup []) hc1
   have q2 := Same.new (o := .tup [V.int 1, V.ref qh, V.ref c1]) ht1
   have q3 := Same.new (o := .tup []) hc2
   have q4 := Same.new (o := .tup [V.int 2, V.ref qh, V.ref c2]) ht2
   have q5 := Same.new (o := .lst [V.ref t1, V.ref t2]) hl5
   have q35 := q3.trans (q4.trans q5)
   have q25 := q2.trans q35
   have q15 := q1.trans q25
   refine ⟨x, l5, p, q, rs, qs, one, other, [(1, hs, []), (2, hs, [])], _, rfl, B9.mv (s2.trans q15), RR, upd_same, .cons ⟨t1, qh, c1, rfl, q35 _ _ upd_same, q15 _ _ gq, q25 _ _ upd_same⟩ (.cons ⟨t2, qh, c2, rfl, q5 _ _ upd_same, q15 _ _ gq, (q4.trans q5) _ _ upd_same⟩ .nil), by show 2 <= 1000; decide, fun r hr => ?_, fun HF sF => ?_⟩
   ·have er : r = (1, hs, []) \/ r = (2, hs, []) := by simpa using hr
    rcases er with rfl | rfl
    ·exact ⟨⟨m, by omega, hep⟩, by show 0 <= 10; decide⟩
    ·exact ⟨⟨m, by omega, hep⟩, by show 0 <= 10; decide⟩
   ·rw [isWB_no (r := (1, hs, [])) rfl hno]
    exact ⟨_, _, rfl, .bl false, fun HG _ => k HG⟩
  have hne : true = !xs.isEmpty := by
   cases xs with
   | nil => exact absurd rfl hemp
   | cons _ _ => rfl
  have lp : 0 < xs.length := List.length_pos_iff.mpr hemp
  have pfew := part_few (n := m) (by omega)
  have lk : (keptG one m).length <= 1575 := Nat.le_trans (List.length_filter_le _ _) pfew
  refine ⟨_, rfl, true, .inl ⟨_, SqL.of gl, hne⟩, iteF ?_⟩
  refine ⟨_, rfl, _, rfl, _, rfl, _, rfl, l, _, rfl, .inl (SqL.of gl), st, ga, ca, _, (xs.length : Int), rfl, S9, by decide, by omega, Int.le_trans (show (xs.length : Int) <= 1575 by omega) (by decide), fun r HA r0 r1 SA KA => ?_⟩
  obtain ⟨j, rfl⟩ : ∃ j : Nat, r = (j : Int) := ⟨r.toNat, by omega⟩
  obtain ⟨y, hy⟩ : ∃ y, xs[j]? = some y := ⟨_, List.getElem?_eq_getElem (by omega)⟩
  obtain ⟨hs, hhs, qh, rfl, gq⟩ := a9.get hy
  obtain ⟨hep, hk0⟩ := kept_hep (List.mem_of_getElem? hhs) (by omega)
  have BA := B9.keep S9 KA
  have WA := W9.mv (KA.tups S9)
  refine ⟨l, _, _, _, rfl, rfl, SqL.of (KA.at gl nlS), atI_nat hy, R, qh, p, q, rs, qs, one, other, hs, (m : Int), 120, rfl, WA, RR, KA.tups S9 _ _ gq, hep, by omega, by decide, fun g kk gx HB gg ag Lv hk sB ng => ?_⟩
  have SB := SA.same sB
  have BB := BA.mv sB
  have WB := WA.mv sB.tups
  have ngS := SA.nin ng
  have hk120 : kk <= 120 := by omega
  have wlen : (walkL one other hs kk).length <= 1000 := by rw [walkL_len]; omega
  have wpg := walk_pg RR hep (by omega) Lv
  clear BA WA B9 W9 S9 KA gl a9 lx
  refine ⟨_, rfl, _, rfl, _, rfl, st, ga, ca, _, R, g, p, q, rs, qs, one, other, hs, (m : Int), kk, gx, rfl, SB, by decide, WB, RR, gg, ag, Lv, hep, by omega, by omega, ngS, fun l6 rows6 xs6 HC g6 a6 n6 p6 SC KC => ?_⟩
  have BC := BB.keep SB KC
  have WC := WB.mv (KC.tups SB)
  have ggC := KC.at gg ngS
  have agC := ag.imp (H' := HC) fun _ _ z => z.mv (KC.tups SB)
  have n6' : rows6.length <= 1000 := by omega
  refine ⟨_, rfl, l6, _, rfl, .inl (SqL.of g6), fun l7 hl7 => ?_⟩
  have sD := Same.new (o := .lst xs6) hl7
  have g7 := upd_same (H := HC) (a := l7) (o := .lst xs6)
  generalize upd HC l7 (.lst xs6) = HD at sD g7 ⊢
  have a6D := a6.imp (H' := HD) fun _ _ z => z.mv sD.tups
  dsimp only [tNext, gName]
  refine ⟨_, rfl, _, rfl, x, l7, p, q, rs, qs, one, other, rows6, xs6, rfl, BC.mv sD, RR, g7, a6D, n6', p6, fun HE sE => ?_⟩
  have sDE := sD.trans sE
  refine ⟨_, rfl, _, rfl, R, l6, p, q, rs, qs, one, other, rows6, xs6, rfl, WC.mv sDE.tups, RR, sDE _ _ g6, a6.imp fun _ _ z => z.mv sDE.tups, n6', p6, fun HF sF => ?_⟩
  refine ⟨_, _, rfl, .bl _, fun HG sG => ⟨true, rfl, iteF ?_⟩⟩
  have sDG := sE.trans (sF.trans sG)
  have sCG := sD.trans sDG
  refine ⟨_, rfl, _, rfl, _, _, rfl, rows_sm (n := 2) (sDG _ _ g7) (sCG _ _ g6) (a6D.imp fun _ _ z => z.mv sDG.tups) (a6.imp fun _ _ z => z.mv sCG.tups) n6' p6, fun HH sH => ⟨true, rfl, iteF ?_⟩⟩
  have sCH := sCG.trans sH
  refine ⟨_, rfl, _, rfl, g, _, rfl, .inl (SqL.of (sCH _ _ ggC)), fun l8 hl8 => ?_⟩
  have s8 := sCH.trans (Same.new (o := .lst gx) hl8)
  refine ⟨x, l8, p, q, rs, qs, one, other, walkL one other hs kk, gx, rfl, BC.mv s8, RR, upd_same, agC.imp fun _ _ z => z.mv s8.tups, wlen, wpg, fun HI sI => ?_⟩
  have s9' := s8.trans sI
  refine ⟨_, rfl, _, rfl, R, g, p, q, rs, qs, one, other, walkL one other hs kk, gx, rfl, WC.mv s9'.tups, RR, s9' _ _ ggC, agC.imp fun _ _ z => z.mv s9'.tups, wlen, wpg, fun HJ sJ => ?_⟩
  exact ⟨_, _, rfl, .bl _, fun HK _ => k HK⟩
end
theorem all_mk {l : PySem.W.OpenLaw} {w : World} {K : PySem.W.Frag} {h : Heap} {mg : Str -> Option Value} {fa : Addr} (X : K.In h) (G : h.Ns mainGlobals mg) (hfa : mg "law" = some (.ref fa))
  {f0 : Addr} {od0 an0 : Option Addr} {sl0 : Array (Option Value)} {oc0 kV0 dc0 pm0 cd0 ct0 : Value}
  {f1 : Addr} {od1 an1 : Option Addr} {sl1 : Array (Option Value)} {oc1 kV1 dc1 pm1 cd1 ct1 : Value}
  {f2 : Addr} {od2 an2 : Option Addr} {sl2 : Array (Option Value)} {oc2 kV2 dc2 pm2 cd2 ct2 : Value}
  {f3 : Addr} {od3 an3 : Option Addr} {sl3 : Array (Option Value)} {oc3 kV3 dc3 pm3 cd3 ct3 : Value}
  {f4 : Addr} {od4 an4 : Option Addr} {sl4 : Array (Option Value)} {oc4 kV4 dc4 pm4 cd4 ct4 : Value}
  {f5 : Addr} {od5 an5 : Option Addr} {sl5 : Array (Option Value)} {oc5 kV5 dc5 pm5 cd5 ct5 : Value}
  {f6 : Addr} {od6 an6 : Option Addr} {sl6 : Array (Option Value)} {oc6 kV6 dc6 pm6 cd6 ct6 : Value}
  {f7 : Addr} {od7 an7 : Option Addr} {sl7 : Array (Option Value)} {oc7 kV7 dc7 pm7 cd7 ct7 : Value}
  {f8 : Addr} {od8 an8 : Option Addr} {sl8 : Array (Option Value)} {oc8 kV8 dc8 pm8 cd8 ct8 : Value}
  {f9 : Addr} {od9 an9 : Option Addr} {sl9 : Array (Option Value)} {oc9 kV9 dc9 pm9 cd9 ct9 : Value}
  {f10 : Addr} {od10 an10 : Option Addr} {sl10 : Array (Option Value)} {oc10 kV10 dc10 pm10 cd10 ct10 : Value}
  {f11 : Addr} {od11 an11 : Option Addr} {sl11 : Array (Option Value)} {oc11 kV11 dc11 pm11 cd11 ct11 : Value}
  {f12 : Addr} {od12 an12 : Option Addr} {sl12 : Array (Option Value)} {oc12 kV12 dc12 pm12 cd12 ct12 : Value}
  {f13 : Addr} {od13 an13 : Option Addr} {sl13 : Array (Option Value)} {oc13 kV13 dc13 pm13 cd13 ct13 : Value}
  {f14 : Addr} {od14 an14 : Option Addr} {sl14 : Array (Option Value)} {oc14 kV14 dc14 pm14 cd14 ct14 : Value}
  {f15 : Addr} {od15 an15 : Option Addr} {sl15 : Array (Option Value)} {oc15 kV15 dc15 pm15 cd15 ct15 : Value}
  {f16 : Addr} {od16 an16 : Option Addr} {sl16 : Array (Option Value)} {oc16 kV16 dc16 pm16 cd16 ct16 : Value}
  {f17 : Addr} {od17 an17 : Option Addr} {sl17 : Array (Option Value)} {oc17 kV17 dc17 pm17 cd17 ct17 : Value}
  {f18 : Addr} {od18 an18 : Option Addr} {sl18 : Array (Option Value)} {oc18 kV18 dc18 pm18 cd18 ct18 : Value}
  {f19 : Addr} {od19 an19 : Option Addr} {sl19 : Array (Option Value)} {oc19 kV19 dc19 pm19 cd19 ct19 : Value}
  {f20 : Addr} {od20 an20 : Option Addr} {sl20 : Array (Option Value)} {oc20 kV20 dc20 pm20 cd20 ct20 : Value}
  {f21 : Addr} {od21 an21 : Option Addr} {sl21 : Array (Option Value)} {oc21 kV21 dc21 pm21 cd21 ct21 : Value}
  {f22 : Addr} {od22 an22 : Option Addr} {sl22 : Array (Option Value)} {oc22 kV22 dc22 pm22 cd22 ct22 : Value}
  {f23 : Addr} {od23 an23 : Option Addr} {sl23 : Array (Option Value)} {oc23 kV23 dc23 pm23 cd23 ct23 : Value}
  {f24 : Addr} {od24 an24 : Option Addr} {sl24 : Array (Option Value)} {oc24 kV24 dc24 pm24 cd24 ct24 : Value}
  {f25 : Addr} {od25 an25 : Option Addr} {sl25 : Array (Option Value)} {oc25 kV25 dc25 pm25 cd25 ct25 : Value}
  {f26 : Addr} {od26 an26 : Option Addr} {sl26 : Array (Option Value)} {oc26 kV26 dc26 pm26 cd26 ct26 : Value}
  {f27 : Addr} {od27 an27 : Option Addr} {sl27 : Array (Option Value)} {oc27 kV27 dc27 pm27 cd27 ct27 : Value}
  {f28 : Addr} {od28 an28 : Option Addr} {sl28 : Array (Option Value)} {oc28 kV28 dc28 pm28 cd28 ct28 : Value}
  {f29 : Addr} {od29 an29 : Option Addr} {sl29 : Array (Option Value)} {oc29 kV29 dc29 pm29 cd29 ct29 : Value}
  {f30 : Addr} {od30 an30 : Option Addr} {sl30 : Array (Option Value)} {oc30 kV30 dc30 pm30 cd30 ct30 : Value}
  {f31 : Addr} {od31 an31 : Option Addr} {sl31 : Array (Option Value)} {oc31 kV31 dc31 pm31 cd31 ct31 : Value}
  {f32 : Addr} {od32 an32 : Option Addr} {sl32 : Array (Option Value)} {oc32 kV32 dc32 pm32 cd32 ct32 : Value}
  {f33 : Addr} {od33 an33 : Option Addr} {sl33 : Array (Option Value)} {oc33 kV33 dc33 pm33 cd33 ct33 : Value}
  {f34 : Addr} {od34 an34 : Option Addr} {sl34 : Array (Option Value)} {oc34 kV34 dc34 pm34 cd34 ct34 : Value}
  {f35 : Addr} {od35 an35 : Option Addr} {sl35 : Array (Option Value)} {oc35 kV35 dc35 pm35 cd35 ct35 : Value}
  {f36 : Addr} {od36 an36 : Option Addr} {sl36 : Array (Option Value)} {oc36 kV36 dc36 pm36 cd36 ct36 : Value}
  {f37 : Addr} {od37 an37 : Option Addr} {sl37 : Array (Option Value)} {oc37 kV37 dc37 pm37 cd37 ct37 : Value}
  {f38 : Addr} {od38 an38 : Option Addr} {sl38 : Array (Option Value)} {oc38 kV38 dc38 pm38 cd38 ct38 : Value}
  {f39 : Addr} {od39 an39 : Option Addr} {sl39 : Array (Option Value)} {oc39 kV39 dc39 pm39 cd39 ct39 : Value}
  {f40 : Addr} {od40 an40 : Option Addr} {sl40 : Array (Option Value)} {oc40 kV40 dc40 pm40 cd40 ct40 : Value}
  {f41 : Addr} {od41 an41 : Option Addr} {sl41 : Array (Option Value)} {oc41 kV41 dc41 pm41 cd41 ct41 : Value}
  {f42 : Addr} {od42 an42 : Option Addr} {sl42 : Array (Option Value)} {oc42 kV42 dc42 pm42 cd42 ct42 : Value}
  {f43 : Addr} {od43 an43 : Option Addr} {sl43 : Array (Option Value)} {oc43 kV43 dc43 pm43 cd43 ct43 : Value}
  {f44 : Addr} {od44 an44 : Option Addr} {sl44 : Array (Option Value)} {oc44 kV44 dc44 pm44 cd44 ct44 : Value}
  {f45 : Addr} {od45 an45 : Option Addr} {sl45 : Array (Option Value)} {oc45 kV45 dc45 pm45 cd45 ct45 : Value}
  {f46 : Addr} {od46 an46 : Option Addr} {sl46 : Array (Option Value)} {oc46 kV46 dc46 pm46 cd46 ct46 : Value}
  {f47 : Addr} {od47 an47 : Option Addr} {sl47 : Array (Option Value)} {oc47 kV47 dc47 pm47 cd47 ct47 : Value}
  {f48 : Addr} {od48 an48 : Option Addr} {sl48 : Array (Option Value)} {oc48 kV48 dc48 pm48 cd48 ct48 : Value}
  {f49 : Addr} {od49 an49 : Option Addr} {sl49 : Array (Option Value)} {oc49 kV49 dc49 pm49 cd49 ct49 : Value}
  {q_Beside : Addr}
  (a0 : PySem.W.nsIn K mainGlobals "often" = some (some (.ref f0))) (l0 : K.lookup f0 = some ⟨oc0, od0, .func (PySem.W.fnOf "often" "often" (defArgs s_often) (defBody s_often) (defScope s_often) .none kV0 dc0 pm0 an0 cd0 ct0), sl0⟩) (c0 : PySem.W.codeIn K cd0 "often" = true) (k0 : PySem.W.keepIn K (.ref f0) = true)
  (a1 : PySem.W.nsIn K mainGlobals "lies_in" = some (some (.ref f1))) (l1 : K.lookup f1 = some ⟨oc1, od1, .func (PySem.W.fnOf "lies_in" "lies_in" (defArgs s_lies_in) (defBody s_lies_in) (defScope s_lies_in) .none kV1 dc1 pm1 an1 cd1 ct1), sl1⟩) (c1 : PySem.W.codeIn K cd1 "lies_in" = true) (k1 : PySem.W.keepIn K (.ref f1) = true)
  (a2 : PySem.W.nsIn K mainGlobals "all_in" = some (some (.ref f2))) (l2 : K.lookup f2 = some ⟨oc2, od2, .func (PySem.W.fnOf "all_in" "all_in" (defArgs s_all_in) (defBody s_all_in) (defScope s_all_in) .none kV2 dc2 pm2 an2 cd2 ct2), sl2⟩) (c2 : PySem.W.codeIn K cd2 "all_in" = true) (k2 : PySem.W.keepIn K (.ref f2) = true)
  (a3 : PySem.W.nsIn K mainGlobals "first_in" = some (some (.ref f3))) (l3 : K.lookup f3 = some ⟨oc3, od3, .func (PySem.W.fnOf "first_in" "first_in" (defArgs s_first_in) (defBody s_first_in) (defScope s_first_in) .none kV3 dc3 pm3 an3 cd3 ct3), sl3⟩) (c3 : PySem.W.codeIn K cd3 "first_in" = true) (k3 : PySem.W.keepIn K (.ref f3) = true)
  (a4 : PySem.W.nsIn K mainGlobals "keeps" = some (some (.ref f4))) (l4 : K.lookup f4 = some ⟨oc4, od4, .func (PySem.W.fnOf "keeps" "keeps" (defArgs s_keeps) (defBody s_keeps) (defScope s_keeps) .none kV4 dc4 pm4 an4 cd4 ct4), sl4⟩) (c4 : PySem.W.codeIn K cd4 "keeps" = true) (k4 : PySem.W.keepIn K (.ref f4) = true)
  (a6 : PySem.W.nsIn K mainGlobals "is_end" = some (some (.ref f6))) (l6 : K.lookup f6 = some ⟨oc6, od6, .func (PySem.W.fnOf "is_end" "is_end" (defArgs s_is_end) (defBody s_is_end) (defScope s_is_end) .none kV6 dc6 pm6 an6 cd6 ct6), sl6⟩) (c6 : PySem.W.codeIn K cd6 "is_end" = true) (k6 : PySem.W.keepIn K (.ref f6) = true)
  (a7 : PySem.W.nsIn K mainGlobals "heap_of" = some (some (.ref f7))) (l7 : K.lookup f7 = some ⟨oc7, od7, .func (PySem.W.fnOf "heap_of" "heap_of" (defArgs s_heap_of) (defBody s_heap_of) (defScope s_heap_of) .none kV7 dc7 pm7 an7 cd7 ct7), sl7⟩) (c7 : PySem.W.codeIn K cd7 "heap_of" = true) (k7 : PySem.W.keepIn K (.ref f7) = true)
  (a8 : PySem.W.nsIn K mainGlobals "put" = some (some (.ref f8))) (l8 : K.lookup f8 = some ⟨oc8, od8, .func (PySem.W.fnOf "put" "put" (defArgs s_put) (defBody s_put) (defScope s_put) .none kV8 dc8 pm8 an8 cd8 ct8), sl8⟩) (c8 : PySem.W.codeIn K cd8 "put" = true) (k8 : PySem.W.keepIn K (.ref f8) = true)
  (a9 : PySem.W.nsIn K mainGlobals "taken" = some (some (.ref f9))) (l9 : K.lookup f9 = some ⟨oc9, od9, .func (PySem.W.fnOf "taken" "taken" (defArgs s_taken) (defBody s_taken) (defScope s_taken) .none kV9 dc9 pm9 an9 cd9 ct9), sl9⟩) (c9 : PySem.W.codeIn K cd9 "taken" = true) (k9 : PySem.W.keepIn K (.ref f9) = true)
  (a10 : PySem.W.nsIn K mainGlobals "unlike_parts" = some (some (.ref f10))) (l10 : K.lookup f10 = some ⟨oc10, od10, .func (PySem.W.fnOf "unlike_parts" "unlike_parts" (defArgs s_unlike_parts) (defBody s_unlike_parts) (defScope s_unlike_parts) .none kV10 dc10 pm10 an10 cd10 ct10), sl10⟩) (c10 : PySem.W.codeIn K cd10 "unlike_parts" = true) (k10 : PySem.W.keepIn K (.ref f10) = true)
  (a11 : PySem.W.nsIn K mainGlobals "joined" = some (some (.ref f11))) (l11 : K.lookup f11 = some ⟨oc11, od11, .func (PySem.W.fnOf "joined" "joined" (defArgs s_joined) (defBody s_joined) (defScope s_joined) .none kV11 dc11 pm11 an11 cd11 ct11), sl11⟩) (c11 : PySem.W.codeIn K cd11 "joined" = true) (k11 : PySem.W.keepIn K (.ref f11) = true)
  (a12 : PySem.W.nsIn K mainGlobals "joined_of" = some (some (.ref f12))) (l12 : K.lookup f12 = some ⟨oc12, od12, .func (PySem.W.fnOf "joined_of" "joined_of" (defArgs s_joined_of) (defBody s_joined_of) (defScope s_joined_of) .none kV12 dc12 pm12 an12 cd12 ct12), sl12⟩) (c12 : PySem.W.codeIn K cd12 "joined_of" = true) (k12 : PySem.W.keepIn K (.ref f12) = true)
  (a13 : PySem.W.nsIn K mainGlobals "is_choice" = some (some (.ref f13))) (l13 : K.lookup f13 = some ⟨oc13, od13, .func (PySem.W.fnOf "is_choice" "is_choice" (defArgs s_is_choice) (defBody s_is_choice) (defScope s_is_choice) .none kV13 dc13 pm13 an13 cd13 ct13), sl13⟩) (c13 : PySem.W.codeIn K cd13 "is_choice" = true) (k13 : PySem.W.keepIn K (.ref f13) = true)
  (a14 : PySem.W.nsIn K mainGlobals "is_pair" = some (some (.ref f14))) (l14 : K.lookup f14 = some ⟨oc14, od14, .func (PySem.W.fnOf "is_pair" "is_pair" (defArgs s_is_pair) (defBody s_is_pair) (defScope s_is_pair) .none kV14 dc14 pm14 an14 cd14 ct14), sl14⟩) (c14 : PySem.W.codeIn K cd14 "is_pair" = true) (k14 : PySem.W.keepIn K (.ref f14) = true)
  (a15 : PySem.W.nsIn K mainGlobals "rule_on" = some (some (.ref f15))) (l15 : K.lookup f15 = some ⟨oc15, od15, .func (PySem.W.fnOf "rule_on" "rule_on" (defArgs s_rule_on) (defBody s_rule_on) (defScope s_rule_on) .none kV15 dc15 pm15 an15 cd15 ct15), sl15⟩) (c15 : PySem.W.codeIn K cd15 "rule_on" = true) (k15 : PySem.W.keepIn K (.ref f15) = true)
  (a16 : PySem.W.nsIn K mainGlobals "crossed" = some (some (.ref f16))) (l16 : K.lookup f16 = some ⟨oc16, od16, .func (PySem.W.fnOf "crossed" "crossed" (defArgs s_crossed) (defBody s_crossed) (defScope s_crossed) .none kV16 dc16 pm16 an16 cd16 ct16), sl16⟩) (c16 : PySem.W.codeIn K cd16 "crossed" = true) (k16 : PySem.W.keepIn K (.ref f16) = true)
  (a17 : PySem.W.nsIn K mainGlobals "partner_of" = some (some (.ref f17))) (l17 : K.lookup f17 = some ⟨oc17, od17, .func (PySem.W.fnOf "partner_of" "partner_of" (defArgs s_partner_of) (defBody s_partner_of) (defScope s_partner_of) .none kV17 dc17 pm17 an17 cd17 ct17), sl17⟩) (c17 : PySem.W.codeIn K cd17 "partner_of" = true) (k17 : PySem.W.keepIn K (.ref f17) = true)
  (a18 : PySem.W.nsIn K mainGlobals "toggled" = some (some (.ref f18))) (l18 : K.lookup f18 = some ⟨oc18, od18, .func (PySem.W.fnOf "toggled" "toggled" (defArgs s_toggled) (defBody s_toggled) (defScope s_toggled) .none kV18 dc18 pm18 an18 cd18 ct18), sl18⟩) (c18 : PySem.W.codeIn K cd18 "toggled" = true) (k18 : PySem.W.keepIn K (.ref f18) = true)
  (a19 : PySem.W.nsIn K mainGlobals "next_place" = some (some (.ref f19))) (l19 : K.lookup f19 = some ⟨oc19, od19, .func (PySem.W.fnOf "next_place" "next_place" (defArgs s_next_place) (defBody s_next_place) (defScope s_next_place) .none kV19 dc19 pm19 an19 cd19 ct19), sl19⟩) (c19 : PySem.W.codeIn K cd19 "next_place" = true) (k19 : PySem.W.keepIn K (.ref f19) = true)
  (a20 : PySem.W.nsIn K mainGlobals "first_places" = some (some (.ref f20))) (l20 : K.lookup f20 = some ⟨oc20, od20, .func (PySem.W.fnOf "first_places" "first_places" (defArgs s_first_places) (defBody s_first_places) (defScope s_first_places) .none kV20 dc20 pm20 an20 cd20 ct20), sl20⟩) (c20 : PySem.W.codeIn K cd20 "first_places" = true) (k20 : PySem.W.keepIn K (.ref f20) = true)
  (a21 : PySem.W.nsIn K mainGlobals "is_walk" = some (some (.ref f21))) (l21 : K.lookup f21 = some ⟨oc21, od21, .func (PySem.W.fnOf "is_walk" "is_walk" (defArgs s_is_walk) (defBody s_is_walk) (defScope s_is_walk) .none kV21 dc21 pm21 an21 cd21 ct21), sl21⟩) (c21 : PySem.W.codeIn K cd21 "is_walk" = true) (k21 : PySem.W.keepIn K (.ref f21) = true)
  (a22 : PySem.W.nsIn K mainGlobals "_law_start" = some (some (.ref f22))) (l22 : K.lookup f22 = some ⟨oc22, od22, .func (PySem.W.fnOf "_law_start" "_law_start" (defArgs s__law_start) (defBody s__law_start) (defScope s__law_start) .none kV22 dc22 pm22 an22 cd22 ct22), sl22⟩) (c22 : PySem.W.codeIn K cd22 "_law_start" = true) (k22 : PySem.W.keepIn K (.ref f22) = true)
  (a23 : PySem.W.nsIn K mainGlobals "_law_mix" = some (some (.ref f23))) (l23 : K.lookup f23 = some ⟨oc23, od23, .func (PySem.W.fnOf "_law_mix" "_law_mix" (defArgs s__law_mix) (defBody s__law_mix) (defScope s__law_mix) .none kV23 dc23 pm23 an23 cd23 ct23), sl23⟩) (c23 : PySem.W.codeIn K cd23 "_law_mix" = true) (k23 : PySem.W.keepIn K (.ref f23) = true)
  (a24 : PySem.W.nsIn K mainGlobals "_law_draw" = some (some (.ref f24))) (l24 : K.lookup f24 = some ⟨oc24, od24, .func (PySem.W.fnOf "_law_draw" "_law_draw" (defArgs s__law_draw) (defBody s__law_draw) (defScope s__law_draw) .none kV24 dc24 pm24 an24 cd24 ct24), sl24⟩) (c24 : PySem.W.codeIn K cd24 "_law_draw" = true) (k24 : PySem.W.keepIn K (.ref f24) = true)
  (a25 : PySem.W.nsIn K mainGlobals "_law_partings" = some (some (.ref f25))) (l25 : K.lookup f25 = some ⟨oc25, od25, .func (PySem.W.fnOf "_law_partings" "_law_partings" (defArgs s__law_partings) (defBody s__law_partings) (defScope s__law_partings) .none kV25 dc25 pm25 an25 cd25 ct25), sl25⟩) (c25 : PySem.W.codeIn K cd25 "_law_partings" = true) (k25 : PySem.W.keepIn K (.ref f25) = true)
  (a26 : PySem.W.nsIn K mainGlobals "_law_lane" = some (some (.ref f26))) (l26 : K.lookup f26 = some ⟨oc26, od26, .func (PySem.W.fnOf "_law_lane" "_law_lane" (defArgs s__law_lane) (defBody s__law_lane) (defScope s__law_lane) .none kV26 dc26 pm26 an26 cd26 ct26), sl26⟩) (c26 : PySem.W.codeIn K cd26 "_law_lane" = true) (k26 : PySem.W.keepIn K (.ref f26) = true)
  (a27 : PySem.W.nsIn K mainGlobals "_law_rule" = some (some (.ref f27))) (l27 : K.lookup f27 = some ⟨oc27, od27, .func (PySem.W.fnOf "_law_rule" "_law_rule" (defArgs s__law_rule) (defBody s__law_rule) (defScope s__law_rule) .none kV27 dc27 pm27 an27 cd27 ct27), sl27⟩) (c27 : PySem.W.codeIn K cd27 "_law_rule" = true) (k27 : PySem.W.keepIn K (.ref f27) = true)
  (a28 : PySem.W.nsIn K mainGlobals "_law_matched" = some (some (.ref f28))) (l28 : K.lookup f28 = some ⟨oc28, od28, .func (PySem.W.fnOf "_law_matched" "_law_matched" (defArgs s__law_matched) (defBody s__law_matched) (defScope s__law_matched) .none kV28 dc28 pm28 an28 cd28 ct28), sl28⟩) (c28 : PySem.W.codeIn K cd28 "_law_matched" = true) (k28 : PySem.W.keepIn K (.ref f28) = true)
  (a29 : PySem.W.nsIn K mainGlobals "_law_same" = some (some (.ref f29))) (l29 : K.lookup f29 = some ⟨oc29, od29, .func (PySem.W.fnOf "_law_same" "_law_same" (defArgs s__law_same) (defBody s__law_same) (defScope s__law_same) .none kV29 dc29 pm29 an29 cd29 ct29), sl29⟩) (c29 : PySem.W.codeIn K cd29 "_law_same" = true) (k29 : PySem.W.keepIn K (.ref f29) = true)
  (a30 : PySem.W.nsIn K mainGlobals "_law_lies" = some (some (.ref f30))) (l30 : K.lookup f30 = some ⟨oc30, od30, .func (PySem.W.fnOf "_law_lies" "_law_lies" (defArgs s__law_lies) (defBody s__law_lies) (defScope s__law_lies) .none kV30 dc30 pm30 an30 cd30 ct30), sl30⟩) (c30 : PySem.W.codeIn K cd30 "_law_lies" = true) (k30 : PySem.W.keepIn K (.ref f30) = true)
  (a31 : PySem.W.nsIn K mainGlobals "_law_first" = some (some (.ref f31))) (l31 : K.lookup f31 = some ⟨oc31, od31, .func (PySem.W.fnOf "_law_first" "_law_first" (defArgs s__law_first) (defBody s__law_first) (defScope s__law_first) .none kV31 dc31 pm31 an31 cd31 ct31), sl31⟩) (c31 : PySem.W.codeIn K cd31 "_law_first" = true) (k31 : PySem.W.keepIn K (.ref f31) = true)
  (a32 : PySem.W.nsIn K mainGlobals "_law_toggled" = some (some (.ref f32))) (l32 : K.lookup f32 = some ⟨oc32, od32, .func (PySem.W.fnOf "_law_toggled" "_law_toggled" (defArgs s__law_toggled) (defBody s__law_toggled) (defScope s__law_toggled) .none kV32 dc32 pm32 an32 cd32 ct32), sl32⟩) (c32 : PySem.W.codeIn K cd32 "_law_toggled" = true) (k32 : PySem.W.keepIn K (.ref f32) = true)
  (a33 : PySem.W.nsIn K mainGlobals "_law_joined" = some (some (.ref f33))) (l33 : K.lookup f33 = some ⟨oc33, od33, .func (PySem.W.fnOf "_law_joined" "_law_joined" (defArgs s__law_joined) (defBody s__law_joined) (defScope s__law_joined) .none kV33 dc33 pm33 an33 cd33 ct33), sl33⟩) (c33 : PySem.W.codeIn K cd33 "_law_joined" = true) (k33 : PySem.W.keepIn K (.ref f33) = true)
  (a34 : PySem.W.nsIn K mainGlobals "_law_put" = some (some (.ref f34))) (l34 : K.lookup f34 = some ⟨oc34, od34, .func (PySem.W.fnOf "_law_put" "_law_put" (defArgs s__law_put) (defBody s__law_put) (defScope s__law_put) .none kV34 dc34 pm34 an34 cd34 ct34), sl34⟩) (c34 : PySem.W.codeIn K cd34 "_law_put" = true) (k34 : PySem.W.keepIn K (.ref f34) = true)
  (a35 : PySem.W.nsIn K mainGlobals "_law_less" = some (some (.ref f35))) (l35 : K.lookup f35 = some ⟨oc35, od35, .func (PySem.W.fnOf "_law_less" "_law_less" (defArgs s__law_less) (defBody s__law_less) (defScope s__law_less) .none kV35 dc35 pm35 an35 cd35 ct35), sl35⟩) (c35 : PySem.W.codeIn K cd35 "_law_less" = true) (k35 : PySem.W.keepIn K (.ref f35) = true)
  (a36 : PySem.W.nsIn K mainGlobals "_law_crossed" = some (some (.ref f36))) (l36 : K.lookup f36 = some ⟨oc36, od36, .func (PySem.W.fnOf "_law_crossed" "_law_crossed" (defArgs s__law_crossed) (defBody s__law_crossed) (defScope s__law_crossed) .none kV36 dc36 pm36 an36 cd36 ct36), sl36⟩) (c36 : PySem.W.codeIn K cd36 "_law_crossed" = true) (k36 : PySem.W.keepIn K (.ref f36) = true)
  (a37 : PySem.W.nsIn K mainGlobals "_law_walk" = some (some (.ref f37))) (l37 : K.lookup f37 = some ⟨oc37, od37, .func (PySem.W.fnOf "_law_walk" "_law_walk" (defArgs s__law_walk) (defBody s__law_walk) (defScope s__law_walk) .none kV37 dc37 pm37 an37 cd37 ct37), sl37⟩) (c37 : PySem.W.codeIn K cd37 "_law_walk" = true) (k37 : PySem.W.keepIn K (.ref f37) = true)
  (a38 : PySem.W.nsIn K mainGlobals "_law_keepers" = some (some (.ref f38))) (l38 : K.lookup f38 = some ⟨oc38, od38, .func (PySem.W.fnOf "_law_keepers" "_law_keepers" (defArgs s__law_keepers) (defBody s__law_keepers) (defScope s__law_keepers) .none kV38 dc38 pm38 an38 cd38 ct38), sl38⟩) (c38 : PySem.W.codeIn K cd38 "_law_keepers" = true) (k38 : PySem.W.keepIn K (.ref f38) = true)
  (a39 : PySem.W.nsIn K mainGlobals "_law_due" = some (some (.ref f39))) (l39 : K.lookup f39 = some ⟨oc39, od39, .func (PySem.W.fnOf "_law_due" "_law_due" (defArgs s__law_due) (defBody s__law_due) (defScope s__law_due) .none kV39 dc39 pm39 an39 cd39 ct39), sl39⟩) (c39 : PySem.W.codeIn K cd39 "_law_due" = true) (k39 : PySem.W.keepIn K (.ref f39) = true)
  (a40 : PySem.W.nsIn K mainGlobals "_law_other_heap" = some (some (.ref f40))) (l40 : K.lookup f40 = some ⟨oc40, od40, .func (PySem.W.fnOf "_law_other_heap" "_law_other_heap" (defArgs s__law_other_heap) (defBody s__law_other_heap) (defScope s__law_other_heap) .none kV40 dc40 pm40 an40 cd40 ct40), sl40⟩) (c40 : PySem.W.codeIn K cd40 "_law_other_heap" = true) (k40 : PySem.W.keepIn K (.ref f40) = true)
  (a41 : PySem.W.nsIn K mainGlobals "_law_one_changed" = some (some (.ref f41))) (l41 : K.lookup f41 = some ⟨oc41, od41, .func (PySem.W.fnOf "_law_one_changed" "_law_one_changed" (defArgs s__law_one_changed) (defBody s__law_one_changed) (defScope s__law_one_changed) .none kV41 dc41 pm41 an41 cd41 ct41), sl41⟩) (c41 : PySem.W.codeIn K cd41 "_law_one_changed" = true) (k41 : PySem.W.keepIn K (.ref f41) = true)
  (a42 : PySem.W.nsIn K mainGlobals "_law_spoilt" = some (some (.ref f42))) (l42 : K.lookup f42 = some ⟨oc42, od42, .func (PySem.W.fnOf "_law_spoilt" "_law_spoilt" (defArgs s__law_spoilt) (defBody s__law_spoilt) (defScope s__law_spoilt) .none kV42 dc42 pm42 an42 cd42 ct42), sl42⟩) (c42 : PySem.W.codeIn K cd42 "_law_spoilt" = true) (k42 : PySem.W.keepIn K (.ref f42) = true)
  (a43 : PySem.W.nsIn K mainGlobals "sum_of" = some (some (.ref f43))) (l43 : K.lookup f43 = some ⟨oc43, od43, .func (PySem.W.fnOf "sum_of" "sum_of" (defArgs s_sum_of) (defBody s_sum_of) (defScope s_sum_of) .none kV43 dc43 pm43 an43 cd43 ct43), sl43⟩) (c43 : PySem.W.codeIn K cd43 "sum_of" = true) (k43 : PySem.W.keepIn K (.ref f43) = true)
  (a44 : PySem.W.nsIn K mainGlobals "choices_among" = some (some (.ref f44))) (l44 : K.lookup f44 = some ⟨oc44, od44, .func (PySem.W.fnOf "choices_among" "choices_among" (defArgs s_choices_among) (defBody s_choices_among) (defScope s_choices_among) .none kV44 dc44 pm44 an44 cd44 ct44), sl44⟩) (c44 : PySem.W.codeIn K cd44 "choices_among" = true) (k44 : PySem.W.keepIn K (.ref f44) = true)
  (a45 : PySem.W.nsIn K mainGlobals "choices_of" = some (some (.ref f45))) (l45 : K.lookup f45 = some ⟨oc45, od45, .func (PySem.W.fnOf "choices_of" "choices_of" (defArgs s_choices_of) (defBody s_choices_of) (defScope s_choices_of) .none kV45 dc45 pm45 an45 cd45 ct45), sl45⟩) (c45 : PySem.W.codeIn K cd45 "choices_of" = true) (k45 : PySem.W.keepIn K (.ref f45) = true)
  (a46 : PySem.W.nsIn K mainGlobals "sums_of" = some (some (.ref f46))) (l46 : K.lookup f46 = some ⟨oc46, od46, .func (PySem.W.fnOf "sums_of" "sums_of" (defArgs s_sums_of) (defBody s_sums_of) (defScope s_sums_of) .none kV46 dc46 pm46 an46 cd46 ct46), sl46⟩) (c46 : PySem.W.codeIn K cd46 "sums_of" = true) (k46 : PySem.W.keepIn K (.ref f46) = true)
  (a47 : PySem.W.nsIn K mainGlobals "first_unlike" = some (some (.ref f47))) (l47 : K.lookup f47 = some ⟨oc47, od47, .func (PySem.W.fnOf "first_unlike" "first_unlike" (defArgs s_first_unlike) (defBody s_first_unlike) (defScope s_first_unlike) .none kV47 dc47 pm47 an47 cd47 ct47), sl47⟩) (c47 : PySem.W.codeIn K cd47 "first_unlike" = true) (k47 : PySem.W.keepIn K (.ref f47) = true)
  (a49 : PySem.W.nsIn K mainGlobals "law" = some (some (.ref f49))) (l49 : K.lookup f49 = some ⟨oc49, od49, .func (PySem.W.fnOf "law" "law" (defArgs s_law) (defBody s_law) (defScope s_law) .none kV49 dc49 pm49 an49 cd49 ct49), sl49⟩) (c49 : PySem.W.codeIn K cd49 "law" = true) (k49 : PySem.W.keepIn K (.ref f49) = true)
  (z_all : PySem.W.nsIn K mainGlobals "all" = some none)
  (z_bool : PySem.W.nsIn K mainGlobals "bool" = some none)
  (z_enumerate : PySem.W.nsIn K mainGlobals "enumerate" = some none)
  (z_int : PySem.W.nsIn K mainGlobals "int" = some none)
  (z_isinstance : PySem.W.nsIn K mainGlobals "isinstance" = some none)
  (z_len : PySem.W.nsIn K mainGlobals "len" = some none)
  (z_list : PySem.W.nsIn K mainGlobals "list" = some none)
  (z_max : PySem.W.nsIn K mainGlobals "max" = some none)
  (z_min : PySem.W.nsIn K mainGlobals "min" = some none)
  (z_range : PySem.W.nsIn K mainGlobals "range" = some none)
  (z_sorted : PySem.W.nsIn K mainGlobals "sorted" = some none)
  (z_str : PySem.W.nsIn K mainGlobals "str" = some none)
  (z_sum : PySem.W.nsIn K mainGlobals "sum" = some none)
  (z_tuple : PySem.W.nsIn K mainGlobals "tuple" = some none)
  (z_zip : PySem.W.nsIn K mainGlobals "zip" = some none)
  (m_Beside : PySem.W.nsIn K mainGlobals "Beside" = some (some (.ref q_Beside)))
  (a5 : PySem.W.findIn K (.ref q_Beside) "rules" = some (some (.ref f5))) (i5 : PySem.W.isFn K (.ref f5) = true) (l5 : K.lookup f5 = some ⟨oc5, od5, .func (PySem.W.fnOf "rules" "Beside.rules" (defArgs s_Beside_rules) (defBody s_Beside_rules) (defScope s_Beside_rules) .none kV5 dc5 pm5 an5 cd5 ct5), sl5⟩) (c5 : PySem.W.codeIn K cd5 "Beside.rules" = true) (k5 : PySem.W.keepIn K (.ref f5) = true)
  (a48 : PySem.W.findIn K (.ref q_Beside) "__init__" = some (some (.ref f48))) (i48 : PySem.W.isFn K (.ref f48) = true) (l48 : K.lookup f48 = some ⟨oc48, od48, .func (PySem.W.fnOf "__init__" "Beside.__init__" (defArgs s_Beside___init__) (defBody s_Beside___init__) (defScope s_Beside___init__) .none kV48 dc48 pm48 an48 cd48 ct48), sl48⟩) (c48 : PySem.W.codeIn K cd48 "Beside.__init__" = true) (k48 : PySem.W.keepIn K (.ref f48) = true)
  (pg_Beside : PySem.W.plainGet K q_Beside Str.empty = true) (hd_Beside : PySem.W.hasDictIn K q_Beside = true) (po_Beside : PySem.W.plainOver K q_Beside = true) (sa_Beside : PySem.W.findIn K (.ref q_Beside) "__setattr__" = some (some (.builtin "object.__setattr__"))) (mk_Beside : PySem.W.makesIn K q_Beside = true) (kc_Beside : PySem.W.keepIn K (.ref q_Beside) = true)
  (na_Beside_one : PySem.W.findIn K (.ref q_Beside) "one" = some none)
  (na_Beside_other : PySem.W.findIn K (.ref q_Beside) "other" = some none) :
  ∃ fd : FuncData, (∀ (s : Shared) (v : Value), BindsTo s fd ⟨[v], []⟩ [("_law_script", v)]) /\ ∀ base : Heap, K.In base -> base.Ns mainGlobals mg -> FnOk l.prog w K mg base CX0 40 fa fd ["_law_script"] (sp_law K) := by
 have e := hfa.symm.trans (PySem.W.mg_of X G a49)
 cases e
 have T : Txt K mg ⟨f0, PySem.W.fnOf "often" "often" (defArgs s_often) (defBody s_often) (defScope s_often) .none kV0 dc0 pm0 an0 cd0 ct0, f1, PySem.W.fnOf "lies_in" "lies_in" (defArgs s_lies_in) (defBody s_lies_in) (defScope s_lies_in) .none kV1 dc1 pm1 an1 cd1 ct1, f2, PySem.W.fnOf "all_in" "all_in" (defArgs s_all_in) (defBody s_all_in) (defScope s_all_in) .none kV2 dc2 pm2 an2 cd2 ct2, f3, PySem.W.fnOf "first_in" "first_in" (defArgs s_first_in) (defBody s_first_in) (defScope s_first_in) .none kV3 dc3 pm3 an3 cd3 ct3, f4, PySem.W.fnOf "keeps" "keeps" (defArgs s_keeps) (defBody s_keeps) (defScope s_keeps) .none kV4 dc4 pm4 an4 cd4 ct4, f5, PySem.W.fnOf "rules" "Beside.rules" (defArgs s_Beside_rules) (defBody s_Beside_rules) (defScope s_Beside_rules) .none kV5 dc5 pm5 an5 cd5 ct5, f6, PySem.W.fnOf "is_end" "is_end" (defArgs s_is_end) (defBody s_is_end) (defScope s_is_end) .none kV6 dc6 pm6 an6 cd6 ct6, f7, PySem.W.fnOf "heap_of" "heap_of" (defArgs s_heap_of) (defBody s_heap_of) (defScope s_heap_of) .none kV7 dc7 pm7 an7 cd7 ct7, f8, PySem.W.fnOf "put" "put" (defArgs s_put) (defBody s_put) (defScope s_put) .none kV8 dc8 pm8 an8 cd8 ct8, f9, PySem.W.fnOf "taken" "taken" (defArgs s_taken) (defBody s_taken) (defScope s_taken) .none kV9 dc9 pm9 an9 cd9 ct9, f10, PySem.W.fnOf "unlike_parts" "unlike_parts" (defArgs s_unlike_parts) (defBody s_unlike_parts) (defScope s_unlike_parts) .none kV10 dc10 pm10 an10 cd10 ct10, f11, PySem.W.fnOf "joined" "joined" (defArgs s_joined) (defBody s_joined) (defScope s_joined) .none kV11 dc11 pm11 an11 cd11 ct11, f12, PySem.W.fnOf "joined_of" "joined_of" (defArgs s_joined_of) (defBody s_joined_of) (defScope s_joined_of) .none kV12 dc12 pm12 an12 cd12 ct12, f13, PySem.W.fnOf "is_choice" "is_choice" (defArgs s_is_choice) (defBody s_is_choice) (defScope s_is_choice) .none kV13 dc13 pm13 an13 cd13 ct13, f14, PySem.W.fnOf "is_pair" "is_pair" (defArgs s_is_pair) (defBody s_is_pair) (defScope s_is_pair) .none kV14 dc14 pm14 an14 cd14 ct14, f15, PySem.W.fnOf "rule_on" "rule_on" (defArgs s_rule_on) (defBody s_rule_on) (defScope s_rule_on) .none kV15 dc15 pm15 an15 cd15 ct15, f16, PySem.W.fnOf "crossed" "crossed" (defArgs s_crossed) (defBody s_crossed) (defScope s_crossed) .none kV16 dc16 pm16 an16 cd16 ct16, f17, PySem.W.fnOf "partner_of" "partner_of" (defArgs s_partner_of) (defBody s_partner_of) (defScope s_partner_of) .none kV17 dc17 pm17 an17 cd17 ct17, f18, PySem.W.fnOf "toggled" "toggled" (defArgs s_toggled) (defBody s_toggled) (defScope s_toggled) .none kV18 dc18 pm18 an18 cd18 ct18, f19, PySem.W.fnOf "next_place" "next_place" (defArgs s_next_place) (defBody s_next_place) (defScope s_next_place) .none kV19 dc19 pm19 an19 cd19 ct19, f20, PySem.W.fnOf "first_places" "first_places" (defArgs s_first_places) (defBody s_first_places) (defScope s_first_places) .none kV20 dc20 pm20 an20 cd20 ct20, f21, PySem.W.fnOf "is_walk" "is_walk" (defArgs s_is_walk) (defBody s_is_walk) (defScope s_is_walk) .none kV21 dc21 pm21 an21 cd21 ct21, f22, PySem.W.fnOf "_law_start" "_law_start" (defArgs s__law_start) (defBody s__law_start) (defScope s__law_start) .none kV22 dc22 pm22 an22 cd22 ct22, f23, PySem.W.fnOf "_law_mix" "_law_mix" (defArgs s__law_mix) (defBody s__law_mix) (defScope s__law_mix) .none kV23 dc23 pm23 an23 cd23 ct23, f24, PySem.W.fnOf "_law_draw" "_law_draw" (defArgs s__law_draw) (defBody s__law_draw) (defScope s__law_draw) .none kV24 dc24 pm24 an24 cd24 ct24, f25, PySem.W.fnOf "_law_partings" "_law_partings" (defArgs s__law_partings) (defBody s__law_partings) (defScope s__law_partings) .none kV25 dc25 pm25 an25 cd25 ct25, f26, PySem.W.fnOf "_law_lane" "_law_lane" (defArgs s__law_lane) (defBody s__law_lane) (defScope s__law_lane) .none kV26 dc26 pm26 an26 cd26 ct26, f27, PySem.W.fnOf "_law_rule" "_law_rule" (defArgs s__law_rule) (defBody s__law_rule) (defScope s__law_rule) .none kV27 dc27 pm27 an27 cd27 ct27, f28, PySem.W.fnOf "_law_matched" "_law_matched" (defArgs s__law_matched) (defBody s__law_matched) (defScope s__law_matched) .none kV28 dc28 pm28 an28 cd28 ct28, f29, PySem.W.fnOf "_law_same" "_law_same" (defArgs s__law_same) (defBody s__law_same) (defScope s__law_same) .none kV29 dc29 pm29 an29 cd29 ct29, f30, PySem.W.fnOf "_law_lies" "_law_lies" (defArgs s__law_lies) (defBody s__law_lies) (defScope s__law_lies) .none kV30 dc30 pm30 an30 cd30 ct30, f31, PySem.W.fnOf "_law_first" "_law_first" (defArgs s__law_first) (defBody s__law_first) (defScope s__law_first) .none kV31 dc31 pm31 an31 cd31 ct31, f32, PySem.W.fnOf "_law_toggled" "_law_toggled" (defArgs s__law_toggled) (defBody s__law_toggled) (defScope s__law_toggled) .none kV32 dc32 pm32 an32 cd32 ct32, f33, PySem.W.fnOf "_law_joined" "_law_joined" (defArgs s__law_joined) (defBody s__law_joined) (defScope s__law_joined) .none kV33 dc33 pm33 an33 cd33 ct33, f34, PySem.W.fnOf "_law_put" "_law_put" (defArgs s__law_put) (defBody s__law_put) (defScope s__law_put) .none kV34 dc34 pm34 an34 cd34 ct34, f35, PySem.W.fnOf "_law_less" "_law_less" (defArgs s__law_less) (defBody s__law_less) (defScope s__law_less) .none kV35 dc35 pm35 an35 cd35 ct35, f36, PySem.W.fnOf "_law_crossed" "_law_crossed" (defArgs s__law_crossed) (defBody s__law_crossed) (defScope s__law_crossed) .none kV36 dc36 pm36 an36 cd36 ct36, f37, PySem.W.fnOf "_law_walk" "_law_walk" (defArgs s__law_walk) (defBody s__law_walk) (defScope s__law_walk) .none kV37 dc37 pm37 an37 cd37 ct37, f38, PySem.W.fnOf "_law_keepers" "_law_keepers" (defArgs s__law_keepers) (defBody s__law_keepers) (defScope s__law_keepers) .none kV38 dc38 pm38 an38 cd38 ct38, f39, PySem.W.fnOf "_law_due" "_law_due" (defArgs s__law_due) (defBody s__law_due) (defScope s__law_due) .none kV39 dc39 pm39 an39 cd39 ct39, f40, PySem.W.fnOf "_law_other_heap" "_law_other_heap" (defArgs s__law_other_heap) (defBody s__law_other_heap) (defScope s__law_other_heap) .none kV40 dc40 pm40 an40 cd40 ct40, f41, PySem.W.fnOf "_law_one_changed" "_law_one_changed" (defArgs s__law_one_changed) (defBody s__law_one_changed) (defScope s__law_one_changed) .none kV41 dc41 pm41 an41 cd41 ct41, f42, PySem.W.fnOf "_law_spoilt" "_law_spoilt" (defArgs s__law_spoilt) (defBody s__law_spoilt) (defScope s__law_spoilt) .none kV42 dc42 pm42 an42 cd42 ct42, f43, PySem.W.fnOf "sum_of" "sum_of" (defArgs s_sum_of) (defBody s_sum_of) (defScope s_sum_of) .none kV43 dc43 pm43 an43 cd43 ct43, f44, PySem.W.fnOf "choices_among" "choices_among" (defArgs s_choices_among) (defBody s_choices_among) (defScope s_choices_among) .none kV44 dc44 pm44 an44 cd44 ct44, f45, PySem.W.fnOf "choices_of" "choices_of" (defArgs s_choices_of) (defBody s_choices_of) (defScope s_choices_of) .none kV45 dc45 pm45 an45 cd45 ct45, f46, PySem.W.fnOf "sums_of" "sums_of" (defArgs s_sums_of) (defBody s_sums_of) (defScope s_sums_of) .none kV46 dc46 pm46 an46 cd46 ct46, f47, PySem.W.fnOf "first_unlike" "first_unlike" (defArgs s_first_unlike) (defBody s_first_unlike) (defScope s_first_unlike) .none kV47 dc47 pm47 an47 cd47 ct47, f48, PySem.W.fnOf "__init__" "Beside.__init__" (defArgs s_Beside___init__) (defBody s_Beside___init__) (defScope s_Beside___init__) .none kV48 dc48 pm48 an48 cd48 ct48, fa, PySem.W.fnOf "law" "law" (defArgs s_law) (defBody s_law) (defScope s_law) .none kV49 dc49 pm49 an49 cd49 ct49, q_Beside⟩ := ⟨fun_mk (st := s_often) l0 c0 k0,
  (fun_mk (st := s_often) l0 c0 k0).binds (fun _ _ _ _ _ _ us hl => match us, hl with | [_, _], _ => rfl),
  PySem.W.mg_of X G a0,
  fun_mk (st := s_lies_in) l1 c1 k1,
  (fun_mk (st := s_lies_in) l1 c1 k1).binds (fun _ _ _ _ _ _ us hl => match us, hl with | [_, _], _ => rfl),
  PySem.W.mg_of X G a1,
  fun_mk (st := s_all_in) l2 c2 k2,
  (fun_mk (st := s_all_in) l2 c2 k2).binds (fun _ _ _ _ _ _ us hl => match us, hl with | [_, _], _ => rfl),
  PySem.W.mg_of X G a2,
  fun_mk (st := s_first_in) l3 c3 k3,
  (fun_mk (st := s_first_in) l3 c3 k3).binds (fun _ _ _ _ _ _ us hl => match us, hl with | [_, _], _ => rfl),
  PySem.W.mg_of X G a3,
  fun_mk (st := s_keeps) l4 c4 k4,
  (fun_mk (st := s_keeps) l4 c4 k4).binds (fun _ _ _ _ _ _ us hl => match us, hl with | [_, _], _ => rfl),
  PySem.W.mg_of X G a4,
  fun_mk (st := s_Beside_rules) l5 c5 k5,
  (fun_mk (st := s_Beside_rules) l5 c5 k5).binds (fun _ _ _ _ _ _ us hl => match us, hl with | [_], _ => rfl),
  fun_mk (st := s_is_end) l6 c6 k6,
  (fun_mk (st := s_is_end) l6 c6 k6).binds (fun _ _ _ _ _ _ us hl => match us, hl with | [_, _], _ => rfl),
  PySem.W.mg_of X G a6,
  fun_mk (st := s_heap_of) l7 c7 k7,
  (fun_mk (st := s_heap_of) l7 c7 k7).binds (fun _ _ _ _ _ _ us hl => match us, hl with | [_], _ => rfl),
  PySem.W.mg_of X G a7,
  fun_mk (st := s_put) l8 c8 k8,
  (fun_mk (st := s_put) l8 c8 k8).binds (fun _ _ _ _ _ _ us hl => match us, hl with | [_, _], _ => rfl),
  PySem.W.mg_of X G a8,
  fun_mk (st := s_taken) l9 c9 k9,
  (fun_mk (st := s_taken) l9 c9 k9).binds (fun _ _ _ _ _ _ us hl => match us, hl with | [_, _], _ => rfl),
  PySem.W.mg_of X G a9,
  fun_mk (st := s_unlike_parts) l10 c10 k10,
  (fun_mk (st := s_unlike_parts) l10 c10 k10).binds (fun _ _ _ _ _ _ us hl => match us, hl with | [_], _ => rfl),
  PySem.W.mg_of X G a10,
  fun_mk (st := s_joined) l11 c11 k11,
  (fun_mk (st := s_joined) l11 c11 k11).binds (fun _ _ _ _ _ _ us hl => match us, hl with | [_], _ => rfl),
  PySem.W.mg_of X G a11,
  fun_mk (st := s_joined_of) l12 c12 k12,
  (fun_mk (st := s_joined_of) l12 c12 k12).binds (fun _ _ _ _ _ _ us hl => match us, hl with | [_, _], _ => rfl),
  PySem.W.mg_of X G a12,
  fun_mk (st := s_is_choice) l13 c13 k13,
  (fun_mk (st := s_is_choice) l13 c13 k13).binds (fun _ _ _ _ _ _ us hl => match us, hl with | [_, _], _ => rfl),
  PySem.W.mg_of X G a13,
  fun_mk (st := s_is_pair) l14 c14 k14,
  (fun_mk (st := s_is_pair) l14 c14 k14).binds (fun _ _ _ _ _ _ us hl => match us, hl with | [_, _], _ => rfl),
  PySem.W.mg_of X G a14,
  fun_mk (st := s_rule_on) l15 c15 k15,
  (fun_mk (st := s_rule_on) l15 c15 k15).binds (fun _ _ _ _ _ _ us hl => match us, hl with | [_, _], _ => rfl),
  PySem.W.mg_of X G a15,
  fun_mk (st := s_crossed) l16 c16 k16,
  (fun_mk (st := s_crossed) l16 c16 k16).binds (fun _ _ _ _ _ _ us hl => match us, hl with | [_, _], _ => rfl),
  PySem.W.mg_of X G a16,
  fun_mk (st := s_partner_of) l17 c17 k17,
  (fun_mk (st := s_partner_of) l17 c17 k17).binds (fun _ _ _ _ _ _ us hl => match us, hl with | [_, _], _ => rfl),
  PySem.W.mg_of X G a17,
  fun_mk (st := s_toggled) l18 c18 k18,
  (fun_mk (st := s_toggled) l18 c18 k18).binds (fun _ _ _ _ _ _ us hl => match us, hl with | [_, _], _ => rfl),
  PySem.W.mg_of X G a18,
  fun_mk (st := s_next_place) l19 c19 k19,
  (fun_mk (st := s_next_place) l19 c19 k19).binds (fun _ _ _ _ _ _ us hl => match us, hl with | [_, _], _ => rfl),
  PySem.W.mg_of X G a19,
  fun_mk (st := s_first_places) l20 c20 k20,
  (fun_mk (st := s_first_places) l20 c20 k20).binds (fun _ _ _ _ _ _ us hl => match us, hl with | [_, _, _], _ => rfl),
  PySem.W.mg_of X G a20,
  fun_mk (st := s_is_walk) l21 c21 k21,
  (fun_mk (st := s_is_walk) l21 c21 k21).binds (fun _ _ _ _ _ _ us hl => match us, hl with | [_, _], _ => rfl),
  PySem.W.mg_of X G a21,
  fun_mk (st := s__law_start) l22 c22 k22,
  (fun_mk (st := s__law_start) l22 c22 k22).binds (fun _ _ _ _ _ _ us hl => match us, hl with | [_], _ => rfl),
  PySem.W.mg_of X G a22,
  fun_mk (st := s__law_mix) l23 c23 k23,
  (fun_mk (st := s__law_mix) l23 c23 k23).binds (fun _ _ _ _ _ _ us hl => match us, hl with | [_], _ => rfl),
  PySem.W.mg_of X G a23,
  fun_mk (st := s__law_draw) l24 c24 k24,
  (fun_mk (st := s__law_draw) l24 c24 k24).binds (fun _ _ _ _ _ _ us hl => match us, hl with | [_, _], _ => rfl),
  PySem.W.mg_of X G a24,
  fun_mk (st := s__law_partings) l25 c25 k25,
  (fun_mk (st := s__law_partings) l25 c25 k25).binds (fun _ _ _ _ _ _ us hl => match us, hl with | [_, _], _ => rfl),
  PySem.W.mg_of X G a25,
  fun_mk (st := s__law_lane) l26 c26 k26,
  (fun_mk (st := s__law_lane) l26 c26 k26).binds (fun _ _ _ _ _ _ us hl => match us, hl with | [_, _, _, _], _ => rfl),
  PySem.W.mg_of X G a26,
  fun_mk (st := s__law_rule) l27 c27 k27,
  (fun_mk (st := s__law_rule) l27 c27 k27).binds (fun _ _ _ _ _ _ us hl => match us, hl with | [_], _ => rfl),
  PySem.W.mg_of X G a27,
  fun_mk (st := s__law_matched) l28 c28 k28,
  (fun_mk (st := s__law_matched) l28 c28 k28).binds (fun _ _ _ _ _ _ us hl => match us, hl with | [_, _], _ => rfl),
  PySem.W.mg_of X G a28,
  fun_mk (st := s__law_same) l29 c29 k29,
  (fun_mk (st := s__law_same) l29 c29 k29).binds (fun _ _ _ _ _ _ us hl => match us, hl with | [_, _], _ => rfl),
  PySem.W.mg_of X G a29,
  fun_mk (st := s__law_lies) l30 c30 k30,
  (fun_mk (st := s__law_lies) l30 c30 k30).binds (fun _ _ _ _ _ _ us hl => match us, hl with | [_, _], _ => rfl),
  PySem.W.mg_of X G a30,
  fun_mk (st := s__law_first) l31 c31 k31,
  (fun_mk (st := s__law_first) l31 c31 k31).binds (fun _ _ _ _ _ _ us hl => match us, hl with | [_, _], _ => rfl),
  PySem.W.mg_of X G a31,
  fun_mk (st := s__law_toggled) l32 c32 k32,
  (fun_mk (st := s__law_toggled) l32 c32 k32).binds (fun _ _ _ _ _ _ us hl => match us, hl with | [_, _], _ => rfl),
  PySem.W.mg_of X G a32,
  fun_mk (st := s__law_joined) l33 c33 k33,
  (fun_mk (st := s__law_joined) l33 c33 k33).binds (fun _ _ _ _ _ _ us hl => match us, hl with | [_], _ => rfl),
  PySem.W.mg_of X G a33,
  fun_mk (st := s__law_put) l34 c34 k34,
  (fun_mk (st := s__law_put) l34 c34 k34).binds (fun _ _ _ _ _ _ us hl => match us, hl with | [_, _], _ => rfl),
  PySem.W.mg_of X G a34,
  fun_mk (st := s__law_less) l35 c35 k35,
  (fun_mk (st := s__law_less) l35 c35 k35).binds (fun _ _ _ _ _ _ us hl => match us, hl with | [_, _], _ => rfl),
  PySem.W.mg_of X G a35,
  fun_mk (st := s__law_crossed) l36 c36 k36,
  (fun_mk (st := s__law_crossed) l36 c36 k36).binds (fun _ _ _ _ _ _ us hl => match us, hl with | [_, _], _ => rfl),
  PySem.W.mg_of X G a36,
  fun_mk (st := s__law_walk) l37 c37 k37,
  (fun_mk (st := s__law_walk) l37 c37 k37).binds (fun _ _ _ _ _ _ us hl => match us, hl with | [_, _, _], _ => rfl),
  PySem.W.mg_of X G a37,
  fun_mk (st := s__law_keepers) l38 c38 k38,
  (fun_mk (st := s__law_keepers) l38 c38 k38).binds (fun _ _ _ _ _ _ us hl => match us, hl with | [_, _], _ => rfl),
  PySem.W.mg_of X G a38,
  fun_mk (st := s__law_due) l39 c39 k39,
  (fun_mk (st := s__law_due) l39 c39 k39).binds (fun _ _ _ _ _ _ us hl => match us, hl with | [_, _], _ => rfl),
  PySem.W.mg_of X G a39,
  fun_mk (st := s__law_other_heap) l40 c40 k40,
  (fun_mk (st := s__law_other_heap) l40 c40 k40).binds (fun _ _ _ _ _ _ us hl => match us, hl with | [_, _], _ => rfl),
  PySem.W.mg_of X G a40,
  fun_mk (st := s__law_one_changed) l41 c41 k41,
  (fun_mk (st := s__law_one_changed) l41 c41 k41).binds (fun _ _ _ _ _ _ us hl => match us, hl with | [_, _, _, _], _ => rfl),
  PySem.W.mg_of X G a41,
  fun_mk (st := s__law_spoilt) l42 c42 k42,
  (fun_mk (st := s__law_spoilt) l42 c42 k42).binds (fun _ _ _ _ _ _ us hl => match us, hl with | [_, _, _], _ => rfl),
  PySem.W.mg_of X G a42,
  fun_mk (st := s_sum_of) l43 c43 k43,
  (fun_mk (st := s_sum_of) l43 c43 k43).binds (fun _ _ _ _ _ _ us hl => match us, hl with | [_], _ => rfl),
  PySem.W.mg_of X G a43,
  fun_mk (st := s_choices_among) l44 c44 k44,
  (fun_mk (st := s_choices_among) l44 c44 k44).binds (fun _ _ _ _ _ _ us hl => match us, hl with | [_], _ => rfl),
  PySem.W.mg_of X G a44,
  fun_mk (st := s_choices_of) l45 c45 k45,
  (fun_mk (st := s_choices_of) l45 c45 k45).binds (fun _ _ _ _ _ _ us hl => match us, hl with | [_], _ => rfl),
  PySem.W.mg_of X G a45,
  fun_mk (st := s_sums_of) l46 c46 k46,
  (fun_mk (st := s_sums_of) l46 c46 k46).binds (fun _ _ _ _ _ _ us hl => match us, hl with | [_], _ => rfl),
  PySem.W.mg_of X G a46,
  fun_mk (st := s_first_unlike) l47 c47 k47,
  (fun_mk (st := s_first_unlike) l47 c47 k47).binds (fun _ _ _ _ _ _ us hl => match us, hl with | [_, _], _ => rfl),
  PySem.W.mg_of X G a47,
  fun_mk (st := s_Beside___init__) l48 c48 k48,
  (fun_mk (st := s_Beside___init__) l48 c48 k48).binds (fun _ _ _ _ _ _ us hl => match us, hl with | [_, _, _], _ => rfl),
  fun_mk (st := s_law) l49 c49 k49,
  (fun_mk (st := s_law) l49 c49 k49).binds (fun _ _ _ _ _ _ us hl => match us, hl with | [_], _ => rfl),
  PySem.W.mg_of X G a49,
  PySem.W.mg_none_of X G z_all,
  PySem.W.mg_none_of X G z_bool,
  PySem.W.mg_none_of X G z_enumerate,
  PySem.W.mg_none_of X G z_int,
  PySem.W.mg_none_of X G z_isinstance,
  PySem.W.mg_none_of X G z_len,
  PySem.W.mg_none_of X G z_list,
  PySem.W.mg_none_of X G z_max,
  PySem.W.mg_none_of X G z_min,
  PySem.W.mg_none_of X G z_range,
  PySem.W.mg_none_of X G z_sorted,
  PySem.W.mg_none_of X G z_str,
  PySem.W.mg_none_of X G z_sum,
  PySem.W.mg_none_of X G z_tuple,
  PySem.W.mg_none_of X G z_zip,
  PySem.W.mg_of X G m_Beside,
  ⟨pg_Beside, hd_Beside, po_Beside, sa_Beside⟩,
  ⟨mk_Beside, a48, i48, kc_Beside⟩,
  ⟨a5, i5, k5⟩,
  na_Beside_one,
  na_Beside_other⟩
 exact ⟨PySem.W.fnOf "law" "law" (defArgs s_law) (defBody s_law) (defScope s_law) .none kV49 dc49 pm49 an49 cd49 ct49, fun s v => .of_eq rfl, fun base _ _ => ok_law T⟩
theorem walk {l : PySem.W.OpenLaw} {q : Program} {loose : List Str} {XP : (Str -> Option Value) -> Heap -> Prop} {YP : World -> Heap -> Prop} {d : DefRec} {K : Params -> PySem.W.Frag} (hn : l.most = some 63) (hdf : d.params.defaults = [])
  (hY : ∀ (w : World) (h : Heap), YP w h -> (K w.params).In h)
  (F : ∀ (w : World) (mg : Str -> Option Value) (fa : Addr) (h : Heap), (K w.params).In h -> h.Ns mainGlobals mg -> mg d.name = some (.ref fa) ->
   ∃ fd : FuncData, (∀ (s : Shared) (u : Value), BindsTo s fd ⟨[u], []⟩ [("_law_script", u)]) /\ ∀ base : Heap, (K w.params).In base -> base.Ns mainGlobals mg -> FnOk l.prog w (K w.params) mg base CX0 40 fa fd ["_law_script"] (sp_law (K w.params))) :
  PySem.W.WalkO q loose XP YP l.row.toRowW d [] (fun f vs => PySem.call f vs) :=
 L2.walk_of (n := 63) (k := 40) (x := "_law_script") (CX := fun _ => CX0) (sp := fun w => sp_law (K w.params)) hn (by decide) hdf ⟨fun _ => rfl, by decide, by decide⟩ hY F (fun _ _ a ns hl _ hS => ⟨a, ns, rfl, hS, hl, fun _ => rfl⟩) fun _ _ _ _ _ z => z
end My
namespace PySem.W.Fast
def tw5099095749182802756 : Nat := 0
def tw9523514301006920246 : Nat := 0
def tw455008135347246785 : Nat := 0
def tw15326465042645992616 : Nat := 0
def tw15031620956189952539 : Nat := 0
def tw4844192699758688063 : Nat := 0
def tw6716692044849682647 : Nat := 0
def tw6028947755195078620 : Nat := 0
def tw1313112840902410204 : Nat := 0
def tw11073902544480310651 : Nat := 0
def tw6564588293529378045 : Nat := 0
def tw4513468220784469038 : Nat := 0
def tw14355804760395830204 : Nat := 0
def tw3417565121565177966 : Nat := 0
def tw10572608373190916102 : Nat := 0
def tw8729096357373707277 : Nat := 0
def tw566373426640173710 : Nat := 0
def tw9867521626573547666 : Nat := 0
def tw6067343661231616722 : Nat := 0
def tw15866018533757331156 : Nat := 0
def tw3514449430561198934 : Nat := 0
def tw13870155255372022074 : Nat := 0
def tw2592903269639227133 : Nat := 0
def tw14447289466383019202 : Nat := 0
def tw9843061966337093887 : Nat := 0
def tw18438777355503433340 : Nat := 0
def tw1927770439072756483 : Nat := 0
def tw5022110311051141429 : Nat := 0
def tw7660796328614174033 : Nat := 0
def tw15911377658040061844 : Nat := 0
def tw12783265780287028270 : Nat := 0
def tw11989453436962522692 : Nat := 0
def tw1770221278370376919 : Nat := 0
def tw9883174138034942775 : Nat := 0
def tw1812385004579100617 : Nat := 0
def tw16918062059172743702 : Nat := 0
def tw802944112274864943 : Nat := 0
def tw617155305277860017 : Nat := 0
def tw16660812979612696773 : Nat := 0
def tw2881739276450715826 : Nat := 0
def tw8350512317975150497 : Nat := 0
def tw2489173688518887342 : Nat := 0
def tw6538077454088861320 : Nat := 0
def tw11087605177405576987 : Nat := 0
def tw193435177290997956 : Nat := 0
def tw4651983634904799800 : Nat := 0
def tw15072599694030885241 : Nat := 0
def tw6168835560581111037 : Nat := 0
def tw3957314512938916619 : Nat := 0
def tw10155653394165049773 : Nat := 0
def tw15065930379556847658 : Nat := 0
def tw4697788965131861028 : Nat := 0
def tw15599857711626343273 : Nat := 0
def tw10033565561025422429 : Nat := 0
def tw4012296334179164157 : Nat := 0
def tw18145004123464782079 : Nat := 0
def tw2545815815028227523 : Nat := 0
def tw11525239900653680322 : Nat := 0
def tw9386511588469846278 : Nat := 0
def tw11325835823957189117 : Nat := 0
def tw11523654862354879028 : Nat := 0
def tw14061927831488739666 : Nat := 0
def tw5939564960788820800 : Nat := 0
def tw10197955400960498403 : Nat := 0
def tw7321048801183204179 : Nat := 0
def tw12516149074652097709 : Nat := 0
def tw15873497265513189047 : Nat := 0
def tw10508149992355621121 : Nat := 0
def tw1139004141823542489 : Nat := 0
def tw12889424113103386443 : Nat := 0
def tw8610568169131060329 : Nat := 0
def tw407239585689550004 : Nat := 0
def tw13724805695352619859 : Nat := 0
def tw4692068397945510334 : Nat := 0
def tw7492058165758788075 : Nat := 0
def tw10869336044941846617 : Nat := 0
def tw7223245935827874670 : Nat := 0
def tw16956960908702391089 : Nat := 0
def tw6764131763634580664 : Nat := 0
def tw6232466636043162756 : Nat := 0
def tw4437451770003181378 : Nat := 0
def tw16762711977100994868 : Nat := 0
def tw12746003656488521483 : Nat := 0
def tw11911641396818949018 : Nat := 0
def tw18041164697167170954 : Nat := 0
def tw8908729112824707787 : Nat := 0
def tw16982835467154321224 : Nat := 0
def tw11391863441210977286 : Nat := 0
def tw16154088834846343350 : Nat := 0
def tw1814232825468258069 : Nat := 0
def tw2255169230626612881 : Nat := 0
def tw4722177122746969405 : Nat := 0
def tw1316222102195193390 : Nat := 0
def tw4574658125281757590 : Nat := 0
def tw780382947429464787 : Nat := 0
def tw15924659230742886162 : Nat := 0
def tw5529495804013668890 : Nat := 0
def tw4134040536298875325 : Nat := 0
def tw1529292028296387510 : Nat := 0
def tw7995649843574505936 : Nat := 0
def tw8317173483428656658 : Nat := 0
def tw1955215868196234755 : Nat := 0
def tw12364000264750092752 : Nat := 0
def tw417008396465634235 : Nat := 0
def tw5763701246972650882 : Nat := 0
def tw18260258283784848064 : Nat := 0
def tw12615540989988080085 : Nat := 0
def tw11748240520078324070 : Nat := 0
def tw12778054515403143854 : Nat := 0
def tw11701920362261585229 : Nat := 0
def tw16155583793084114840 : Nat := 0
def tw3343344593832630870 : Nat := 0
def tw16100531178730155799 : Nat := 0
def tw2476656706412300546 : Nat := 0
def tw15826717950282887716 : Nat := 0
def tw10137802776950330328 : Nat := 0
def tw4402437907143230443 : Nat := 0
def tw16621600857457117820 : Nat := 0
def tw4495441928171262551 : Nat := 0
def tw5265939703168646015 : Nat := 0
def tw4375903438590088937 : Nat := 0
def tw12767552694491569205 : Nat := 0
def tw6536679437504803976 : Nat := 0
def tw5217231412032776863 : Nat := 0
def tw11550038176054385598 : Nat := 0
def tw17831198608530461054 : Nat := 0
def tw18372451301617157188 : Nat := 0
def tw17076139876444197719 : Nat := 0
def tw3754737389358589620 : Nat := 0
def tw2786975230752049109 : Nat := 0
def tw3269509531757713265 : Nat := 0
def tw10087108771635782956 : Nat := 0
def tw16650570548996882588 : Nat := 0
def tw280244038530832842 : Nat := 0
def tw15335230150172806287 : Nat := 0
def tw8013278995245014972 : Nat := 0
def tw685540433126124145 : Nat := 0
end PySem.W.Fast
open PySem PySem.W PyProof.Rows
set_option maxRecDepth 100000 in
set_option maxHeartbeats 0 in
theorem PySem.Challenge.cw_shutpairs_k30_what_holds_as_a_walk_holds : PySem.Challenge.rw_shutpairs_k30_what_holds_as_a_walk.Holds := by
 w_on; o_law; k_head; (case hw => w_witness2)
 k_fill
 refine My.walk (l := PySem.Challenge.rw_shutpairs_k30_what_holds_as_a_walk) rfl rfl (fun w h Y => PySem.W.kIn_of Y) ?F
 case F =>
  intro w mg fa h KX G hmg
  refine' My.all_mk KX G hmg ?a0 ?l0 ?c0 ?k0 ?a1 ?l1 ?c1 ?k1 ?a2 ?l2 ?c2 ?k2 ?a3 ?l3 ?c3 ?k3 ?a4 ?l4 ?c4 ?k4 ?a6 ?l6 ?c6 ?k6 ?a7 ?l7 ?c7 ?k7 ?a8 ?l8 ?c8 ?k8 ?a9 ?l9 ?c9 ?k9 ?a10 ?l10 ?c10 ?k10 ?a11 ?l11 ?c11 ?k11 ?a12 ?l12 ?c12 ?k12 ?a13 ?l13 ?c13 ?k13 ?a14 ?l14 ?c14 ?k14 ?a15 ?l15 ?c15 ?k15 ?a16 ?l16 ?c16 ?k16 ?a17 ?l17 ?c17 ?k17 ?a18 ?l18 ?c18 ?k18 ?a19 ?l19 ?c19 ?k19 ?a20 ?l20 ?c20 ?k20 ?a21 ?l21 ?c21 ?k21 ?a22 ?l22 ?c22 ?k22 ?a23 ?l23 ?c23 ?k23 ?a24 ?l24 ?c24 ?k24 ?a25 ?l25 ?c25 ?k25 ?a26 ?l26 ?c26 ?k26 ?a27 ?l27 ?c27 ?k27 ?a28 ?l28 ?c28 ?k28 ?a29 ?l29 ?c29 ?k29 ?a30 ?l30 ?c30 ?k30 ?a31 ?l31 ?c31 ?k31 ?a32 ?l32 ?c32 ?k32 ?a33 ?l33 ?c33 ?k33 ?a34 ?l34 ?c34 ?k34 ?a35 ?l35 ?c35 ?k35 ?a36 ?l36 ?c36 ?k36 ?a37 ?l37 ?c37 ?k37 ?a38 ?l38 ?c38 ?k38 ?a39 ?l39 ?c39 ?k39 ?a40 ?l40 ?c40 ?k40 ?a41 ?l41 ?c41 ?k41 ?a42 ?l42 ?c42 ?k42 ?a43 ?l43 ?c43 ?k43 ?a44 ?l44 ?c44 ?k44 ?a45 ?l45 ?c45 ?k45 ?a46 ?l46 ?c46 ?k46 ?a47 ?l47 ?c47 ?k47 ?a49 ?l49 ?c49 ?k49 ?z_all ?z_bool ?z_enumerate ?z_int ?z_isinstance ?z_len ?z_list ?z_max ?z_min ?z_range ?z_sorted ?z_str ?z_sum ?z_tuple ?z_zip ?m_Beside ?a5 ?i5 ?l5 ?c5 ?k5 ?a48 ?i48 ?l48 ?c48 ?k48 ?pg_Beside ?hd_Beside ?po_Beside ?sa_Beside ?mk_Beside ?kc_Beside ?na_Beside_one ?na_Beside_other
  (case a0 => k_is)
  (case l0 => k_is)
  (case c0 => k_is)
  (case k0 => k_is)
  (case a1 => k_is)
  (case l1 => k_is)
  (case c1 => k_is)
  (case k1 => k_is)
  (case a2 => k_is)
  (case l2 => k_is)
  (case c2 => k_is)
  (case k2 => k_is)
  (case a3 => k_is)
  (case l3 => k_is)
  (case c3 => k_is)
  (case k3 => k_is)
  (case a4 => k_is)
  (case l4 => k_is)
  (case c4 => k_is)
  (case k4 => k_is)
  (case a6 => k_is)
  (case l6 => k_is)
  (case c6 => k_is)
  (case k6 => k_is)
  (case a7 => k_is)
  (case l7 => k_is)
  (case c7 => k_is)
  (case k7 => k_is)
  (case a8 => k_is)
  (case l8 => k_is)
  (case c8 => k_is)
  (case k8 => k_is)
  (case a9 => k_is)
  (case l9 => k_is)
  (case c9 => k_is)
  (case k9 => k_is)
  (case a10 => k_is)
  (case l10 => k_is)
  (case c10 => k_is)
  (case k10 => k_is)
  (case a11 => k_is)
  (case l11 => k_is)
  (case c11 => k_is)
  (case k11 => k_is)
  (case a12 => k_is)
  (case l12 => k_is)
  (case c12 => k_is)
  (case k12 => k_is)
  (case a13 => k_is)
  (case l13 => k_is)
  (case c13 => k_is)
  (case k13 => k_is)
  (case a14 => k_is)
  (case l14 => k_is)
  (case c14 => k_is)
  (case k14 => k_is)
  (case a15 => k_is)
  (case l15 => k_is)
  (case c15 => k_is)
  (case k15 => k_is)
  (case a16 => k_is)
  (case l16 => k_is)
  (case c16 => k_is)
  (case k16 => k_is)
  (case a17 => k_is)
  (case l17 => k_is)
  (case c17 => k_is)
  (case k17 => k_is)
  (case a18 => k_is)
  (case l18 => k_is)
  (case c18 => k_is)
  (case k18 => k_is)
  (case a19 => k_is)
  (case l19 => k_is)
  (case c19 => k_is)
  (case k19 => k_is)
  (case a20 => k_is)
  (case l20 => k_is)
  (case c20 => k_is)
  (case k20 => k_is)
  (case a21 => k_is)
  (case l21 => k_is)
  (case c21 => k_is)
  (case k21 => k_is)
  (case a22 => k_is)
  (case l22 => k_is)
  (case c22 => k_is)
  (case k22 => k_is)
  (case a23 => k_is)
  (case l23 => k_is)
  (case c23 => k_is)
  (case k23 => k_is)
  (case a24 => k_is)
  (case l24 => k_is)
  (case c24 => k_is)
  (case k24 => k_is)
  (case a25 => k_is)
  (case l25 => k_is)
  (case c25 => k_is)
  (case k25 => k_is)
  (case a26 => k_is)
  (case l26 => k_is)
  (case c26 => k_is)
  (case k26 => k_is)
  (case a27 => k_is)
  (case l27 => k_is)
  (case c27 => k_is)
  (case k27 => k_is)
  (case a28 => k_is)
  (case l28 => k_is)
  (case c28 => k_is)
  (case k28 => k_is)
  (case a29 => k_is)
  (case l29 => k_is)
  (case c29 => k_is)
  (case k29 => k_is)
  (case a30 => k_is)
  (case l30 => k_is)
  (case c30 => k_is)
  (case k30 => k_is)
  (case a31 => k_is)
  (case l31 => k_is)
  (case c31 => k_is)
  (case k31 => k_is)
  (case a32 => k_is)
  (case l32 => k_is)
  (case c32 => k_is)
  (case k32 => k_is)
  (case a33 => k_is)
  (case l33 => k_is)
  (case c33 => k_is)
  (case k33 => k_is)
  (case a34 => k_is)
  (case l34 => k_is)
  (case c34 => k_is)
  (case k34 => k_is)
  (case a35 => k_is)
  (case l35 => k_is)
  (case c35 => k_is)
  (case k35 => k_is)
  (case a36 => k_is)
  (case l36 => k_is)
  (case c36 => k_is)
  (case k36 => k_is)
  (case a37 => k_is)
  (case l37 => k_is)
  (case c37 => k_is)
  (case k37 => k_is)
  (case a38 => k_is)
  (case l38 => k_is)
  (case c38 => k_is)
  (case k38 => k_is)
  (case a39 => k_is)
  (case l39 => k_is)
  (case c39 => k_is)
  (case k39 => k_is)
  (case a40 => k_is)
  (case l40 => k_is)
  (case c40 => k_is)
  (case k40 => k_is)
  (case a41 => k_is)
  (case l41 => k_is)
  (case c41 => k_is)
  (case k41 => k_is)
  (case a42 => k_is)
  (case l42 => k_is)
  (case c42 => k_is)
  (case k42 => k_is)
  (case a43 => k_is)
  (case l43 => k_is)
  (case c43 => k_is)
  (case k43 => k_is)
  (case a44 => k_is)
  (case l44 => k_is)
  (case c44 => k_is)
  (case k44 => k_is)
  (case a45 => k_is)
  (case l45 => k_is)
  (case c45 => k_is)
  (case k45 => k_is)
  (case a46 => k_is)
  (case l46 => k_is)
  (case c46 => k_is)
  (case k46 => k_is)
  (case a47 => k_is)
  (case l47 => k_is)
  (case c47 => k_is)
  (case k47 => k_is)
  (case a49 => k_is)
  (case l49 => k_is)
  (case c49 => k_is)
  (case k49 => k_is)
  (case z_all => k_is)
  (case z_bool => k_is)
  (case z_enumerate => k_is)
  (case z_int => k_is)
  (case z_isinstance => k_is)
  (case z_len => k_is)
  (case z_list => k_is)
  (case z_max => k_is)
  (case z_min => k_is)
  (case z_range => k_is)
  (case z_sorted => k_is)
  (case z_str => k_is)
  (case z_sum => k_is)
  (case z_tuple => k_is)
  (case z_zip => k_is)
  (case m_Beside => k_is)
  (case a5 => k_is)
  (case i5 => k_is)
  (case l5 => k_is)
  (case c5 => k_is)
  (case k5 => k_is)
  (case a48 => k_is)
  (case i48 => k_is)
  (case l48 => k_is)
  (case c48 => k_is)
  (case k48 => k_is)
  (case pg_Beside => k_is)
  (case hd_Beside => k_is)
  (case po_Beside => k_is)
  (case sa_Beside => k_is)
  (case mk_Beside => k_is)
  (case kc_Beside => k_is)
  (case na_Beside_one => k_is)
  (case na_Beside_other => k_is)
