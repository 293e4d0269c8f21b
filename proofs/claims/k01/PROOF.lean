import PyProof.Rows.All
import Wide.All
import OpenK.AllK
import Wide.FinOn
import PyProof.EqAt
import PyProof.EqKinds
import PyProof.TupleCall
import PyProof.NeKinds
import PyProof.StrLawsTight
import PyProof.ExcClass3
import PyProof.StationsW
import PyProof.ExcBaseAll.ValueError
import PyProof.NsDelKeeps
import PyProof.RulesAs
import PyProof.ExcArgsOwn
import PyProof.ExcAttrAll.ValueError
import PyProof.ZipIter
import PyProof.ListMulRoad
import KE.KDictSum
import PyProof.ListRange
import PyProof.Draws
import PyProof.EnumMake
import PyProof.Rows.Range3
import PyProof.Rows.SortShell
import PyProof.Conv_int_bool
import PyProof.Rows.SetFrom
import PyProof.Rows.SetObj
import PyProof.WalksMore
import KE.IntBitsLaws
import KE.KRevSl
import PyProof.FitsBits
import PyProof.CollectIter
import PyProof.IsRules
import PyProof.AttrMissHeap
import PyProof.WalksS
import KE.KDictOf
import PyProof.PureStr
import PyProof.StrOps2
import PyProof.SliceStr2
import PyProof.StrBlockI
import PyProof.CompFree
import PyProof.Rows.StrSplitJoin
import PyProof.StrCalls6
import PyProof.ConsumeWalk
import PyProof.StrLawsReplace
import PyProof.DictItems
import PyProof.Rows.SortRuns
import KE.KFind
import Lean
import PySem.Challenge.RW_shutpairs_k01_heaps_made
set_option Elab.async false
set_option linter.all false
set_option maxRecDepth 100000
/-! THE HAND LAYER, for ints, bools, texts, own classes, LISTS and tuples (index, slices, in, append, pop ..), calls, loops. Paste it whole ahead of your own text; what your proof does not reach may be deleted. -/
namespace L2
open PySem PySem.Spec PyProof.Rows

/-- a key: an int or a str -/
abbrev Key := Sum Int Str
def keyIs : Key → Value → Bool
  | .inl k, v => Value.isInt k v
  | .inr x, v => Value.isStrOf x v
def keyH (w : World) : Key → Int
  | .inl k => hashInt k
  | .inr x => hashStr w x
theorem keyIs_shape : ∀ {k : Key} {v : Value}, keyIs k v = true → (∃ i t, k = Sum.inl i ∧ v = Value.int i t) ∨ (∃ x t, k = Sum.inr x ∧ v = Value.str x t)
  | .inl i, v, h => by
    obtain ⟨t, e⟩ := Value.isInt_shape (k := i) (v := v) h
    exact .inl ⟨i, t, rfl, e⟩
  | .inr x, v, h => by
    obtain ⟨t, e⟩ := Value.isStrOf_shape (x := x) (v := v) h
    exact .inr ⟨x, t, rfl, e⟩
theorem key_ll (a b : Int) : decide ((Sum.inl a : Key) = Sum.inl b) = (a == b) := by
  by_cases e : a = b
  · subst e; simp
  · have h : ¬ (Sum.inl a : Key) = Sum.inl b := fun q => e (Sum.inl.inj q)
    rw [decide_eq_false h]
    exact (beq_eq_false_iff_ne.mpr e).symm
theorem key_rr (a b : Str) : decide ((Sum.inr a : Key) = Sum.inr b) = decide (a = b) := by
  by_cases e : a = b
  · subst e; simp
  · have h : ¬ (Sum.inr a : Key) = Sum.inr b := fun q => e (Sum.inr.inj q)
    rw [decide_eq_false h, decide_eq_false e]
theorem key_lr (a : Int) (b : Str) : decide ((Sum.inl a : Key) = Sum.inr b) = false := decide_eq_false (fun q => nomatch q)
theorem key_rl (a : Str) (b : Int) : decide ((Sum.inr a : Key) = Sum.inl b) = false := decide_eq_false (fun q => nomatch q)

def mixKind (prog : Program) (w : World) : PySem.KeyKind prog w Key where
  is := keyIs
  hash := keyH w
  inj := fun v a b ha hb => by
    rcases keyIs_shape ha with ⟨i, t, rfl, rfl⟩ | ⟨x, t, rfl, rfl⟩
    · rcases keyIs_shape hb with ⟨j, u, rfl, e⟩ | ⟨y, u, rfl, e⟩
      · injection e with e1 _; rw [e1]
      · exact nomatch e
    · rcases keyIs_shape hb with ⟨j, u, rfl, e⟩ | ⟨y, u, rfl, e⟩
      · exact nomatch e
      · injection e with e1 _; rw [e1]
  byValue := fun k v h => by
    rcases keyIs_shape h with ⟨i, t, rfl, rfl⟩ | ⟨x, t, rfl, rfl⟩ <;> rfl
  pyHash := fun hv h => by
    rcases keyIs_shape hv with ⟨i, t, rfl, rfl⟩ | ⟨x, t, rfl, rfl⟩
    · exact wpAny_pyHash_int h
    · exact wpAny_pyHash_str h
  eqBool := fun hu hv h => by
    rcases keyIs_shape hu with ⟨i, t, rfl, rfl⟩ | ⟨x, t, rfl, rfl⟩
    · rcases keyIs_shape hv with ⟨j, u, rfl, rfl⟩ | ⟨y, u, rfl, rfl⟩
      · rw [key_ll] at h; exact wpAny_eqBool_int h
      · rw [key_lr] at h; exact SeqAt.EqAt.int_str i t y u _ _ _ _ h
    · rcases keyIs_shape hv with ⟨j, u, rfl, rfl⟩ | ⟨y, u, rfl, rfl⟩
      · rw [key_rl] at h; exact SeqAt.EqAt.str_int x t j u _ _ _ _ h
      · rw [key_rr] at h; exact wpAny_eqBool_str h
  «strs» := fun k x t v h => by
    rcases keyIs_shape h with ⟨i, u, rfl, e⟩ | ⟨y, u, rfl, e⟩
    · exact nomatch e
    · injection e with e1 _
      subst e1
      cases v <;> rfl

end L2

namespace L2
open PySem PySem.Spec PyProof.Rows

/-- a value, without the heap -/
inductive V where
  | non | bl (b : Bool) | int (i : Int) | str (x : Str) | byt (b : Array UInt8) | flt (b : UInt64) | ref (a : Addr) | ty (n : String)
  deriving DecidableEq

def RelV : V → Value → Prop
  | .non, u => u = Value.none
  | .bl b, u => u = Value.bool b
  | .int i, u => ∃ t, u = Value.int i t
  | .str x, u => ∃ t, u = Value.str x t
  | .byt b, u => ∃ t, u = Value.bytes b t
  | .flt b, u => ∃ t, u = Value.float b t
  | .ref a, u => u = Value.ref a
  | .ty n, u => u = Value.type n

abbrev Vals : List V → List Value → Prop := Paired RelV
theorem Vals.length {xs : List V} {us : List Value} (r : Vals xs us) : xs.length = us.length := Paired.length r
theorem Vals.get : ∀ {xs : List V} {us : List Value} {i : Nat} {x : V}, Vals xs us → xs[i]? = some x → ∃ u, us[i]? = some u ∧ RelV x u
  | _, _, _, _, .nil, e => by simp at e
  | _, _, 0, _, .cons r _, e => by simp at e; subst e; exact ⟨_, rfl, r⟩
  | _, _, i + 1, x, .cons _ t, e => by
    obtain ⟨u, h1, h2⟩ := Vals.get (i := i) (x := x) t (by simpa using e)
    exact ⟨u, by simpa using h1, h2⟩
theorem Vals.set {x : V} {u : Value} (r : RelV x u) : ∀ {xs : List V} {us : List Value} (i : Nat), Vals xs us → Vals (xs.set i x) (us.set i u)
  | _, _, _, .nil => .nil
  | _, _, 0, .cons _ t => .cons r t
  | _, _, i + 1, .cons q t => .cons q (Vals.set r i t)
theorem Vals.append : ∀ {xs ys : List V} {us ws : List Value}, Vals xs us → Vals ys ws → Vals (xs ++ ys) (us ++ ws)
  | _, _, _, _, .nil, s => s
  | _, _, _, _, .cons r t, s => .cons r (Vals.append t s)
def RelO : Option V → Option Value → Prop
  | some v, some u => RelV v u
  | none, none => True
  | _, _ => False
def KV {κ : Type} : List (κ × V) → List (κ × Value) → Prop := Paired fun (p : κ × V) (q : κ × Value) => p.1 = q.1 ∧ RelV p.2 q.2

/-- a key of a dict (00_mix): an int or a text -/
def kV : Key → V
  | .inl i => .int i
  | .inr x => .str x

/-- what stands at a tracked address -/
inductive HO where
  /-- a list -/
  | lst (xs : List V)
  /-- a tuple (never changes) -/
  | tup (xs : List V)
  /-- a dict whose keys are ints and texts; one whose keys are tuples of ints and texts (the empty one is both) -/
  | dK (kvs : List (Key × V)) | dT (kvs : List (List Key × V))
  /-- a set of ints: its members, its size -/
  | set (S : Int → Bool) (n : Nat)
  /-- an instance of the class at C, its dict at dx, its attributes -/
  | ins (C dx : Addr) (fs : List (Str × V))
  /-- the dict of the instance at x -/
  | own (x : Addr)
  /-- the dict of an exception -/
  | xd (fs : List (Str × V))
  /-- a bound method, f of x -/
  | met (f x : Addr)
  /-- a range object lo, lo + 1, .. below hi -/
  | rng (lo hi : Int)
  /-- a thing that is known to the object (the script; a dict while a loop walks it): read, never written while it is so -/
  | frz (o : Obj) (u : HO)
  /-- a code object's table -/
  | tbl (ps : Array Value)
  /-- any other thing, by what is true of its one object (a def of one's own: SetO a S n := HO.ext fun h => ..) -/
  | ext (φ : Heap → Prop)

abbrev Hp := Addr → Option HO
def upd (H : Hp) (a : Addr) (o : HO) : Hp := fun b => if b = a then some o else H b
theorem upd_same {H : Hp} {a : Addr} {o : HO} : upd H a o a = some o := by unfold upd; rw [if_pos rfl]
theorem upd_ne {H : Hp} {a b : Addr} {o : HO} (h : b ≠ a) : upd H a o b = H b := by unfold upd; rw [if_neg h]
theorem ne_of_none {H : Hp} {a b : Addr} {o : HO} (h : H a = some o) (h' : H b = none) : a ≠ b := by
  intro e; subst e; rw [h] at h'; cases h'

section
variable (P : Program) (w : World)
def ObjOk (H : Hp) (h : Heap) (a : Addr) : HO → Prop
  | .lst xs => xs.length ≤ sizeLine ∧ ∃ (its : List Value) (n : Nat), Vals xs its ∧ h.get? a = some { cls := .type "list", data := .seq its.toArray n }
  | .tup xs => xs.length ≤ sizeLine ∧ ∃ its : List Value, Vals xs its ∧ IsTup h a its.toArray ∧ ∀ o, h.get? a = some o → o.dict = none
  | .dK kvs => kvs.length ≤ sizeLine ∧ (a == sysModules) = false ∧ ∃ vs, KV kvs vs ∧ h.DictOf (mixKind P w) a vs
  | .dT kvs => kvs.length ≤ sizeLine ∧ (a == sysModules) = false ∧ ∃ xs : List (List Key × Addr × Value),
      Paired (fun (p : List Key × V) (q : List Key × Addr × Value) => p.1 = q.1 ∧ H q.2.1 = some (.tup (p.1.map kV)) ∧ RelV p.2 q.2.2) kvs xs ∧
      ∃ o es ep, h.get? a = some o ∧ o.ExactDict ∧ o.data = .dict es ep ∧ es.toList = xs.map (entryOfKey (tupleKind (mixKind P w))) ∧ (xs.map (·.1)).Nodup
  | .set S n => h.SetOf (intKind P w) a S n
  | .ins C dx fs => H dx = some (.own a) ∧ fs.length ≤ 1000 ∧ dx ≠ a ∧ h.get? a = some (PySem.W.instObj C dx) ∧
      ∃ mA, h.Ns1 dx mA ∧ (∀ f, RelO (fs.lookup f) (mA f)) ∧ PySem.Within mA (fs.map (·.1))
  | .own _ => ∃ o, h.get? a = some o
  | .xd fs => ∃ mA, h.Ns1 a mA ∧ ∀ f, RelO (fs.lookup f) (mA f)
  | .rng lo hi => ∃ t u v, h.get? a = some { cls := .type "range", data := .fields #[.int lo t, .int hi u, .int 1 v] }
  | .frz o u => h.get? a = some o ∧ ObjOk H h a u
  | .tbl ps => h.get? a = some { cls := .none, data := .fields ps }
  | .met f x => h.get? a = some (PySem.W.methodObj (.ref f) (.ref x))
  | .ext φ => φ h ∧ (∃ o, h.get? a = some o) ∧ ∀ h1 h2 : Heap, φ h1 → (∀ o, h1.get? a = some o → h2.get? a = some o) → φ h2
theorem tup_nodict {h : Heap} {its : Array Value} : ∀ o, (h.push { cls := .type "tuple", data := .seq its }).get? h.objs.size = some o → o.dict = none := by
  intro o e
  rw [Heap.get?_push_size _ rfl] at e
  cases e
  rfl
/-- the abstract heap is held -/
def HOk (H : Hp) (h : Heap) : Prop := ∀ a o, H a = some o → ObjOk P w H h a o
end

section
variable {P : Program} {w : World} {H H' : Hp} {h h' : Heap} {a : Addr} {o : HO}
theorem ObjOk.lt (x : ObjOk P w H h a o) : a < h.objs.size := by
  cases o with
  | lst xs => obtain ⟨_, _, _, _, e⟩ := x; exact Heap.lt_size e
  | tup xs => obtain ⟨_, _, _, p, _⟩ := x; exact p.lt
  | dK kvs => obtain ⟨_, _, _, _, o, _, _, e, _⟩ := x; exact Heap.lt_size e
  | dT kvs => obtain ⟨_, _, _, _, o, _, _, e, _⟩ := x; exact Heap.lt_size e
  | set S n => obtain ⟨o, _, _, _, e, _⟩ := x; exact Heap.lt_size e
  | ins C dx fs => obtain ⟨_, _, _, e, _⟩ := x; exact Heap.lt_size e
  | own y => obtain ⟨_, e⟩ := x; exact Heap.lt_size e
  | xd fs => obtain ⟨_, ⟨_, _, _, e, _⟩, _⟩ := x; exact Heap.lt_size e
  | rng lo hi => obtain ⟨_, _, _, e⟩ := x; exact Heap.lt_size e
  | frz ob u => obtain ⟨e, _⟩ := x; exact Heap.lt_size e
  | tbl ps => exact Heap.lt_size (show h.get? a = some _ from x)
  | met f y => exact Heap.lt_size (show h.get? a = some _ from x)
  | ext φ => obtain ⟨_, ⟨_, e⟩, _⟩ := x; exact Heap.lt_size e
theorem Paired.mapP {α β : Type} {F G : α → β → Prop} : ∀ {l₁ : List α} {l₂ : List β}, Paired F l₁ l₂ → (∀ a b, F a b → G a b) → Paired G l₁ l₂
  | _, _, .nil, _ => .nil
  | _, _, .cons r t, f => .cons (f _ _ r) (Paired.mapP t f)
/-- what an object's description leans on: its own object, its own dict, the tuples -/
theorem ObjOk.stay (x : ObjOk P w H h a o) (k : ∀ b u, (b = a ∨ H b = some (.own a)) → h.get? b = some u → h'.get? b = some u)
    (ho : ∀ b, H b = some (.own a) → H' b = some (.own a)) (ht : ∀ b xs, H b = some (.tup xs) → H' b = some (.tup xs)) : ObjOk P w H' h' a o := by
  induction o with
  | lst xs => obtain ⟨z, its, n, r, e⟩ := x; exact ⟨z, its, n, r, k _ _ (.inl rfl) e⟩
  | tup xs =>
    obtain ⟨z, its, r, ⟨ob, e, c⟩, nd⟩ := x
    have e' := k _ _ (.inl rfl) e
    exact ⟨z, its, r, ⟨ob, e', c⟩, fun o q => by rw [e'] at q; cases q; exact nd ob e⟩
  | dK kvs => obtain ⟨z, y, vs, r, ob, es, ep, e, c⟩ := x; exact ⟨z, y, vs, r, ob, es, ep, k _ _ (.inl rfl) e, c⟩
  | dT kvs =>
    obtain ⟨z, y, xs, r, ob, es, ep, e, c⟩ := x
    exact ⟨z, y, xs, Paired.mapP r fun p q z => ⟨z.1, ht _ _ z.2.1, z.2.2⟩, ob, es, ep, k _ _ (.inl rfl) e, c⟩
  | set S n => obtain ⟨ob, es, ep, t, e, c⟩ := x; exact ⟨ob, es, ep, t, k _ _ (.inl rfl) e, c⟩
  | ins C dx fs =>
    obtain ⟨d, z, ne, e, mA, ⟨od, es, ep, e2, c⟩, r⟩ := x
    exact ⟨ho _ d, z, ne, k _ _ (.inl rfl) e, mA, ⟨od, es, ep, k _ _ (.inr d) e2, c⟩, r⟩
  | own y => obtain ⟨ob, e⟩ := x; exact ⟨ob, k _ _ (.inl rfl) e⟩
  | xd fs => obtain ⟨mA, ⟨od, es, ep, e, c⟩, r⟩ := x; exact ⟨mA, ⟨od, es, ep, k _ _ (.inl rfl) e, c⟩, r⟩
  | rng lo hi => obtain ⟨t, u, v, e⟩ := x; exact ⟨t, u, v, k _ _ (.inl rfl) e⟩
  | frz ob u ih => obtain ⟨e, q⟩ := x; exact ⟨k _ _ (.inl rfl) e, ih q⟩
  | tbl ps =>
    have e : h.get? a = some { cls := .none, data := .fields ps } := x
    show h'.get? a = some { cls := .none, data := .fields ps }
    exact k a _ (.inl rfl) e
  | met f y =>
    have e : h.get? a = some (PySem.W.methodObj (.ref f) (.ref y)) := x
    show h'.get? a = some (PySem.W.methodObj (.ref f) (.ref y))
    exact k a _ (.inl rfl) e
  | ext φ => obtain ⟨p, ⟨o, e⟩, st⟩ := x; exact ⟨st _ _ p fun o q => k _ _ (.inl rfl) q, ⟨o, k _ _ (.inl rfl) e⟩, st⟩
theorem HOk.lt (x : HOk P w H h) (e : H a = some o) : a < h.objs.size := (x a o e).lt
theorem HOk.fresh (x : HOk P w H h) (e : h.objs.size ≤ a) : H a = none := by
  cases q : H a with
  | none => rfl
  | some u => exact absurd (Nat.lt_of_lt_of_le (x.lt q) e) (Nat.lt_irrefl _)
/-- every object of the heap is kept -/
theorem HOk.kept (x : HOk P w H h) (k : ∀ b u, h.get? b = some u → h'.get? b = some u) : HOk P w H h' := fun a o e =>
  (x a o e).stay (fun b u _ q => k b u q) (fun _ q => q) fun _ _ q => q
/-- a new object is laid and tracked -/
theorem HOk.laid (x : HOk P w H h) (k : ∀ b u, h.get? b = some u → h'.get? b = some u) (hp : h.objs.size ≤ a) (new : ObjOk P w (upd H a o) h' a o) : HOk P w (upd H a o) h' := fun b u e => by
  have hn := x.fresh hp
  by_cases hb : b = a
  · subst hb; rw [upd_same] at e; cases e; exact new
  · rw [upd_ne hb] at e
    exact (x b u e).stay (fun c v _ q => k c v q) (fun c q => by rw [upd_ne (ne_of_none q hn)]; exact q) fun c xs q => by rw [upd_ne (ne_of_none q hn)]; exact q
end

/-- what may be read as u: it is u, or a known u -/
def Rd (H : Hp) (a : Addr) (u : HO) : Prop := H a = some u ∨ ∃ o, H a = some (.frz o u)
theorem Rd.ok {P : Program} {w : World} {H : Hp} {h : Heap} {a : Addr} {u : HO} (r : Rd H a u) (x : HOk P w H h) : ObjOk P w H h a u := by
  rcases r with r | ⟨o, r⟩
  · exact x a u r
  · obtain ⟨_, q⟩ := x a _ r
    exact q
/-- what may be written -/
def Mut : Option HO → Prop
  | some (.lst _) => True
  | some (.dK _) => True
  | some (.dT _) => True
  | some (.set _ _) => True
  | some (.ins _ _ _) => True
  | some (.ext _) => True
  | _ => False
section
variable {P : Program} {w : World} {H : Hp} {h h' : Heap} {x e : Addr} {o' : HO}
/-- the object at e is changed: x itself, or the dict of the instance x -/
theorem HOk.write (ok : HOk P w H h) (mu : Mut (H x)) (he : e = x ∨ H e = some (.own x)) (k : ∀ b u, b ≠ e → h.get? b = some u → h'.get? b = some u) (heo : ∃ u, h'.get? e = some u)
    (new : ObjOk P w (upd H x o') h' x o') : HOk P w (upd H x o') h' := fun b u q => by
  have nown : ∀ c y, H c = some (.own y) → c ≠ x := fun c y r z => by subst z; rw [r] at mu; exact mu
  have ntup : ∀ c xs, H c = some (.tup xs) → c ≠ x := fun c xs r z => by subst z; rw [r] at mu; exact mu
  by_cases hb : b = x
  · subst hb; rw [upd_same] at q; cases q; exact new
  · rw [upd_ne hb] at q
    by_cases hbe : b = e
    · have q' : H b = some (.own x) := by
        rcases he with z | z
        · exact absurd (hbe.trans z) hb
        · rw [hbe]; exact z
      rw [q] at q'; cases q'
      obtain ⟨v, hv⟩ := heo
      exact ⟨v, by rw [hbe]; exact hv⟩
    · refine (ok b u q).stay (fun c v hc r => k c v ?_ r) (fun c r => by rw [upd_ne (nown c b r)]; exact r) fun c xs r => by rw [upd_ne (ntup c xs r)]; exact r
      rcases hc with rfl | hc
      · exact hbe
      · rintro rfl
        rcases he with z | z
        · exact nown c b hc z
        · rw [hc] at z; cases z; exact hb rfl
end

/-! ### kept unless tracked; of the frames at fs (the callers') the slots may change (an exception that passes writes there); of the records at ex (iterators) nothing is said -/
structure Un (fs ex : List Addr) (H H' : Hp) (h h' : Heap) : Prop where
  keep : ∀ b o, h.get? b = some o → H b = none → b ∉ fs → b ∉ ex → h'.get? b = some o
  slot : ∀ b o, h.get? b = some o → H b = none → b ∈ fs → b ∉ ex → ∃ sl, h'.get? b = some { o with slots := sl }
  free : ∀ b o, h.get? b = some o → H b = none → b ∉ ex → H' b = none
  there : ∀ b o, h.get? b = some o → b ∉ ex → ∃ o', h'.get? b = some o'
  tups : ∀ b xs, H b = some (.tup xs) → H' b = some (.tup xs)
  frzs : ∀ b o u, H b = some (.frz o u) → H' b = some (.frz o u)
  tbls : ∀ b ps, H b = some (.tbl ps) → ∃ more, H' b = some (.tbl (ps ++ more))
section
variable {fs fs' ex ex' : List Addr} {H H1 H2 : Hp} {h h1 h2 h' : Heap} {a x e : Addr} {o : HO}
theorem Un.any (u : Un fs ex H H1 h h1) {b : Addr} {ob : Obj} (q : h.get? b = some ob) (n : H b = none) (hx : b ∉ ex) : ∃ sl, h1.get? b = some { ob with slots := sl } := by
  by_cases hb : b ∈ fs
  · exact u.slot b ob q n hb hx
  · exact ⟨ob.slots, u.keep b ob q n hb hx⟩
theorem Un.kept (k : ∀ b u, h.get? b = some u → h'.get? b = some u) : Un fs ex H H h h' :=
  ⟨fun b ob q _ _ _ => k b ob q, fun b ob q _ _ _ => ⟨ob.slots, k b ob q⟩, fun _ _ _ n _ => n, fun b ob q _ => ⟨ob, k b ob q⟩, fun _ _ q => q, fun _ _ _ q => q, fun _ ps q => ⟨#[], by rw [q]; simp⟩⟩
theorem Un.refl : Un fs ex H H h h := Un.kept fun _ _ q => q
theorem Un.laid (k : ∀ b u, h.get? b = some u → h'.get? b = some u) (hp : h.objs.size ≤ a) (hn : H a = none) : Un fs ex H (upd H a o) h h' where
  keep := fun b u q _ _ _ => k b u q
  slot := fun b u q _ _ _ => ⟨u.slots, k b u q⟩
  free := fun b u q n _ => by rw [upd_ne (Nat.ne_of_lt (Nat.lt_of_lt_of_le (Heap.lt_size q) hp))]; exact n
  there := fun b u q _ => ⟨u, k b u q⟩
  tups := fun b xs q => by rw [upd_ne (ne_of_none q hn)]; exact q
  frzs := fun b u xs q => by rw [upd_ne (ne_of_none q hn)]; exact q
  tbls := fun b ps q => ⟨#[], by rw [upd_ne (ne_of_none q hn), q]; simp⟩
theorem Un.write (mu : Mut (H x)) (he : e = x ∨ H e = some (.own x)) (k : ∀ b u, b ≠ e → h.get? b = some u → h'.get? b = some u) (heo : ∃ u, h'.get? e = some u) : Un fs ex H (upd H x o) h h' := by
  have hx : ∀ b, H b = none → b ≠ x := fun b n z => by subst z; rw [n] at mu; exact mu
  have hb : ∀ b, H b = none → b ≠ e := fun b n z => by
    subst z
    rcases he with r | r
    · exact hx b n r
    · rw [n] at r; cases r
  have hm : ∀ b u, H b = some u → ¬ Mut (some u) → b ≠ x := fun b u q nm z => by subst z; rw [q] at mu; exact nm mu
  refine ⟨fun b u q n _ _ => k b u (hb b n) q, fun b u q n _ _ => ⟨u.slots, k b u (hb b n) q⟩, fun b u q n _ => by rw [upd_ne (hx b n)]; exact n, fun b u q _ => ?_,
    fun b xs q => by rw [upd_ne (hm b _ q fun z => z)]; exact q, fun b u xs q => by rw [upd_ne (hm b _ q fun z => z)]; exact q, fun b ps q => ⟨#[], by rw [upd_ne (hm b _ q fun z => z), q]; simp⟩⟩
  by_cases hbe : b = e
  · subst hbe; exact heo
  · exact ⟨u, k b u hbe q⟩
end

/-! ### the heap without what is tracked -/
def trk (h : Heap) (H : Hp) : List Addr := (List.range h.objs.size).filter fun a => (H a).isSome
def hidT (h : Heap) (H : Hp) : Heap := PySem.W.hideAll h (trk h H)
theorem hidT_size (h : Heap) (H : Hp) : (hidT h H).objs.size = h.objs.size := PySem.W.hideAll_size _ _
theorem hidT_get {h : Heap} {H : Hp} {b : Addr} {o : Obj} (e : h.get? b = some o) (n : H b = none) : (hidT h H).get? b = some o :=
  PySem.W.hideAll_get _ e fun hm => by
    have q : (H b).isSome = true := (List.mem_filter.mp hm).2
    rw [n] at q; simp at q
theorem of_hidT {h : Heap} {H : Hp} {b : Addr} {o : Obj} (e : (hidT h H).get? b = some o) : h.get? b = some o ∧ H b = none := by
  have e' : h.get? b = some o := PySem.W.of_hideAll (trk h H) e
  refine ⟨e', ?_⟩
  cases q : H b with
  | none => rfl
  | some x =>
    have hm : b ∈ trk h H := List.mem_filter.mpr ⟨List.mem_range.mpr (Heap.lt_size e'), by simp [q]⟩
    have z : (hidT h H).get? b = none := PySem.W.hideAll_none (trk h H) hm
    rw [z] at e; cases e

/-! ### OpenK's ledger, filled with every new object but one -/
def allNews (g h : Heap) (L : Addr) : List (Addr × Obj) := (List.range h.objs.size).filterMap fun a => if a = L ∨ (g.get? a).isSome = true then none else (h.get? a).map fun o => (a, o)
def rest (g h : Heap) (L d : Addr) : List (Addr × Obj) := (allNews g h L).filter fun p => decide (p.1 ≠ d)
end L2

namespace L2
open PySem PySem.Spec PyProof.Rows

/-- the module's facts, over the base: the heap at the law's entry without what is tracked there -/
structure Mod (K : PySem.W.Frag) (mg : Str → Option Value) (base : Heap) : Prop where
  kin : K.In base
  glob : base.Ns mainGlobals mg
  blt : ∃ mb, base.Ns builtinsNs mb ∧ ∀ x : Str, x ≠ "__name__" → mb x = bootBuiltins x
  nolimit : base.NoLimit

/-- the context: a def's body (or a comprehension's block) running. base: fixed through the whole law; s₀, H₀: the entry; outer: the frames whose slots others may change (a def's callers); stack: all frames that run;
   ex: iterators that were made ahead of the entry and are walked here (a comprehension's); fn: the names whose cells were made at the entry (a def: all; a comprehension's block: its own); calm: not within an except suite; pn: pins that every state bears; xe: what is wanted of an exception that leaves the code -/
structure Cx where
  prog : Program
  w : World
  K : PySem.W.Frag
  mg : Str → Option Value
  base : Heap
  A : Around
  N : List Str
  s₀ : Shared
  H₀ : Hp
  env : Env
  outer : List Env
  stack : List Env
  ex : List Addr
  fn : Str → Bool
  calm : Bool
  pn : List (Addr × Obj)
  xe : Value → Shared → Prop
/-- the callers' frames -/
def frs (l : List Env) : List Addr := l.filterMap (·.frame)
abbrev Cx.fs (X : Cx) : List Addr := frs X.outer

def Vis (sc : Scope) (x : Str) : Prop := sc.names.lookup x = some .local ∨ sc.names.lookup x = some .cell ∨ sc.names.lookup x = some .free
def Loc (sc : Scope) (x : Str) : Prop := sc.names.lookup x = some .local ∨ sc.names.lookup x = some .cell
def Look (env : Env) (h : Heap) (m : Str → Option Value) (x : Str) (u : Value) : Prop :=
  (env.kindOf x = some .local ∧ m x = some u) ∨ ((env.kindOf x = some .cell ∨ env.kindOf x = some .free) ∧ ∃ c, env.cells.lookup x = some c ∧ h.IsCell c (some u))

structure Cx.Ok (X : Cx) : Prop where
  mod : Mod X.K X.mg X.base
  kind : X.env.scope.kind = .function
  glob : X.env.globals = mainGlobals
  blt : X.env.builtins = builtinsNs
  above : X.s₀.heap.objs.size ≤ X.env.locals
  inj : ∀ x y c, X.env.cells.lookup x = some c → X.env.cells.lookup y = some c → x = y
  has : ∀ x, (X.env.kindOf x = some .cell ∨ X.env.kindOf x = some .free) → ∃ c, X.env.cells.lookup x = some c
  cab : ∀ x c, X.fn x = true → X.env.cells.lookup x = some c → X.s₀.heap.objs.size ≤ c
  hd : X.calm = true → X.A.handled = none
  frames : X.A.frames = some X.stack
  stk : X.stack = X.outer ∨ (X.stack = X.env :: X.outer ∧ X.env.frame = some X.env.locals)
  exf : ∀ b ∈ X.ex, b ≠ X.env.locals ∧ ∀ x c, X.env.cells.lookup x = some c → c ≠ b
  bs : ∀ b o, X.base.get? b = some o → X.s₀.heap.get? b = some o ∧ X.H₀ b = none
  bsz : X.base.objs.size ≤ X.s₀.heap.objs.size
  noex : ∀ b o, X.base.get? b = some o → b ∉ X.ex
  exfs : ∀ b ∈ X.ex, b ∉ X.fs
  funs : X.s₀.heap.FunFrames X.base X.outer
  frf : ∀ b ∈ X.fs, X.H₀ b = none

structure Inv (X : Cx) (pins : List (Addr × Obj)) (σ : List (Option V)) (H : Hp) (s : Shared) : Prop where
  ok : X.Ok
  os : s.os = X.s₀.os
  bare : AllBare s.gens
  base : Un X.fs X.ex X.H₀ H X.s₀.heap s.heap
  loc : ∃ m, s.heap.Ns X.env.locals m ∧ ∀ (i : Nat) (x : Str) (v : V), X.N[i]? = some x → σ[i]? = some (some v) → Vis X.env.scope x → ∃ u, RelV v u ∧ Look X.env s.heap m x u
  cell : ∀ x c, X.env.cells.lookup x = some c → ∃ v, s.heap.IsCell c v
  free : H X.env.locals = none
  freeC : ∀ x c, X.env.cells.lookup x = some c → H c = none
  pin : ∀ p ∈ X.pn ++ pins, s.heap.get? p.1 = some p.2 ∧ H p.1 = none ∧ p.1 ≠ X.env.locals ∧ p.1 ∉ X.fs ∧ ∀ v, p.2.data ≠ .cell v
  hok : HOk X.prog X.w H s.heap
  len : σ.length = X.N.length

section
variable {X : Cx} {pins : List (Addr × Obj)} {σ : List (Option V)} {H H' : Hp} {s : Shared} {h' : Heap}

theorem Cx.Ok.nofr (ok : X.Ok) {b : Addr} {o : Obj} (e : X.base.get? b = some o) : b ∉ X.fs := fun hb => by
  have := (ok.funs.mem hb).1
  rw [e] at this; cases this
theorem Inv.bs (I : Inv X pins σ H s) : ∀ b o, X.base.get? b = some o → s.heap.get? b = some o ∧ H b = none := fun b o e =>
  ⟨I.base.keep b o (I.ok.bs b o e).1 (I.ok.bs b o e).2 (I.ok.nofr e) (I.ok.noex b o e), I.base.free b o (I.ok.bs b o e).1 (I.ok.bs b o e).2 (I.ok.noex b o e)⟩
theorem Inv.bk (I : Inv X pins σ H s) : ∀ b o, X.base.get? b = some o → s.heap.get? b = some o := fun b o e => (I.bs b o e).1
theorem Inv.mod (I : Inv X pins σ H s) : Mod X.K X.mg X.base := I.ok.mod
theorem Inv.kIn (I : Inv X pins σ H s) : X.K.In s.heap := I.ok.mod.kin.keeps I.bk
theorem Inv.lt (I : Inv X pins σ H s) : X.env.locals < s.heap.objs.size := let ⟨_, hn, _⟩ := I.loc; hn.lt
theorem Inv.sz (I : Inv X pins σ H s) : X.s₀.heap.objs.size ≤ s.heap.objs.size := Nat.le_trans I.ok.above (Nat.le_of_lt I.lt)
theorem Inv.nofs (I : Inv X pins σ H s) {a : Addr} (h : s.heap.objs.size ≤ a) : a ∉ X.fs := fun hb => by
  obtain ⟨_, o, ho, _⟩ := I.ok.funs.mem hb
  exact absurd (Nat.lt_of_lt_of_le (Heap.lt_size ho) (Nat.le_trans I.sz h)) (Nat.lt_irrefl _)
theorem Inv.cne (I : Inv X pins σ H s) : ∀ x c, X.env.cells.lookup x = some c → c ≠ X.env.locals := fun x c e z => by
  obtain ⟨v, o, ho, hd⟩ := I.cell x c e
  obtain ⟨m, ⟨o', es, ep, ho', hd', _⟩, _⟩ := I.loc
  rw [z, ho'] at ho; cases ho; rw [hd'] at hd; cases hd
theorem Inv.funs (I : Inv X pins σ H s) : s.heap.FunFrames X.base X.outer := by
  have all : ∀ (l : List Env), (∀ b ∈ frs l, b ∈ X.fs) → X.s₀.heap.FunFrames X.base l → s.heap.FunFrames X.base l := by
    intro l
    induction l with
    | nil => intro _ _; trivial
    | cons env r ih =>
      intro hs hl
      obtain ⟨hk, ⟨L, o, hf, hn, ho, hd⟩, hr⟩ := hl
      have hL : L ∈ X.fs := hs L (by unfold frs; rw [List.filterMap_cons, hf]; exact List.mem_cons_self)
      obtain ⟨sl, e⟩ := I.base.slot L o ho (I.ok.frf L hL) hL fun z => I.ok.exfs L z hL
      exact ⟨hk, ⟨L, _, hf, hn, e, hd⟩, ih (fun b hb => hs b (by unfold frs; rw [List.filterMap_cons, hf]; exact List.mem_cons_of_mem _ hb)) hr⟩
  exact all X.outer (fun _ hb => hb) I.ok.funs

/-- the frames that run, for a call -/
theorem Inv.stack (I : Inv X pins σ H s) : s.heap.FunFrames X.base X.stack := by
  rcases I.ok.stk with e | ⟨e, hf⟩
  · rw [e]; exact I.funs
  · rw [e]
    obtain ⟨m, hn, _⟩ := I.loc
    refine .cons (by rw [I.ok.kind]; decide) hf hn ?_ I.funs
    exact Heap.get?_none_of_le (Nat.le_trans I.ok.bsz I.ok.above)
theorem Inv.stkSub (I : Inv X pins σ H s) : ∀ b ∈ frs X.stack, b ∈ X.env.locals :: X.fs := fun b hb => by
  rcases I.ok.stk with e | ⟨e, hf⟩
  · rw [e] at hb; exact List.mem_cons_of_mem _ hb
  · rw [e] at hb
    unfold frs at hb
    rw [List.filterMap_cons, hf] at hb
    exact hb
theorem Inv.stkFree (I : Inv X pins σ H s) : ∀ b ∈ frs X.stack, H b = none := fun b hb => by
  rcases List.mem_cons.mp (I.stkSub b hb) with e | hb
  · rw [e]; exact I.free
  · obtain ⟨_, o, ho, _⟩ := I.ok.funs.mem hb
    exact I.base.free b o ho (I.ok.frf b hb) fun z => I.ok.exfs b z hb

/-- THE STEP: the untracked objects but the frame and the records at ch are kept (the callers' frames up to slots), the frame's map is kept, the new abstract heap is held -/
theorem Inv.step {g' : Array GenState} {t' : Nat} {d' : Drawn} {ch : List Addr} (I : Inv X pins σ H s)
    (hch : ∀ b ∈ ch, (b ∈ X.ex ∨ X.s₀.heap.objs.size ≤ b) ∧ b ≠ X.env.locals ∧ (∀ x c, X.env.cells.lookup x = some c → c ≠ b) ∧ ∀ p ∈ X.pn ++ pins, p.1 ≠ b)
    (keep : ∀ b o, b ≠ X.env.locals → b ∉ X.fs → b ∉ ch → s.heap.get? b = some o → H b = none → h'.get? b = some o)
    (slot : ∀ b o, b ≠ X.env.locals → b ∈ X.fs → b ∉ ch → s.heap.get? b = some o → H b = none → ∃ sl, h'.get? b = some { o with slots := sl }) (free : ∀ b o, b ∉ ch → s.heap.get? b = some o → H b = none → H' b = none)
    (there : ∀ b o, b ∉ ch → s.heap.get? b = some o → ∃ o', h'.get? b = some o')
    (tups : ∀ b xs, H b = some (.tup xs) → H' b = some (.tup xs)) (frzs : ∀ b o u, H b = some (.frz o u) → H' b = some (.frz o u)) (tbls : ∀ b ps, H b = some (.tbl ps) → ∃ more, H' b = some (.tbl (ps ++ more)))
    (ns : ∀ m, s.heap.Ns X.env.locals m → h'.Ns X.env.locals m) (hok : HOk X.prog X.w H' h') (hg : AllBare g') :
    Inv X pins σ H' { s with heap := h', gens := g', drawn := d', toks := t' } := by
  have neL : ∀ b o, X.s₀.heap.get? b = some o → b ≠ X.env.locals := fun b o e => Nat.ne_of_lt (Nat.lt_of_lt_of_le (Heap.lt_size e) I.ok.above)
  have neC : ∀ b o, X.s₀.heap.get? b = some o → b ∉ X.ex → b ∉ ch := fun b o e hx hb => by
    rcases (hch b hb).1 with z | z
    · exact hx z
    · exact absurd (Nat.lt_of_lt_of_le (Heap.lt_size e) z) (Nat.lt_irrefl _)
  have cellK : ∀ x c, X.env.cells.lookup x = some c → ∀ v, s.heap.IsCell c v → h'.IsCell c v := fun x c e v ⟨o, ho, hd⟩ => by
    have nch : c ∉ ch := fun z => (hch c z).2.2.1 x c e rfl
    by_cases hc : c ∈ X.fs
    · obtain ⟨sl, q⟩ := slot c o (I.cne x c e) hc nch ho (I.freeC x c e)
      exact ⟨_, q, hd⟩
    · exact ⟨o, keep c o (I.cne x c e) hc nch ho (I.freeC x c e), hd⟩
  refine ⟨I.ok, I.os, hg, ⟨fun b o e n hb hx => ?_, fun b o e n hb hx => ?_, fun b o e n hx => ?_, fun b o e hx => ?_, fun b xs e => tups b xs (I.base.tups b xs e), fun b o xs e => frzs b o xs (I.base.frzs b o xs e), fun b ps e => ?_⟩, ?_, fun x c e => ?_, ?_, fun x c e => ?_, fun p hp => ?_, hok, I.len⟩
  · exact keep b o (neL b o e) hb (neC b o e hx) (I.base.keep b o e n hb hx) (I.base.free b o e n hx)
  · obtain ⟨sl, e1⟩ := I.base.slot b o e n hb hx
    obtain ⟨sl', e2⟩ := slot b _ (neL b o e) hb (neC b o e hx) e1 (I.base.free b o e n hx)
    exact ⟨sl', e2⟩
  · obtain ⟨o', e1⟩ := I.base.there b o e hx
    exact free b o' (neC b o e hx) e1 (I.base.free b o e n hx)
  · obtain ⟨o', e1⟩ := I.base.there b o e hx
    exact there b o' (neC b o e hx) e1
  · obtain ⟨m1, e1⟩ := I.base.tbls b ps e
    obtain ⟨m2, e2⟩ := tbls b _ e1
    exact ⟨m1 ++ m2, by rw [e2, Array.append_assoc]⟩
  · obtain ⟨m, hn, hl⟩ := I.loc
    refine ⟨m, ns m hn, fun i x v e1 e2 e3 => ?_⟩
    obtain ⟨u, r, l⟩ := hl i x v e1 e2 e3
    refine ⟨u, r, ?_⟩
    rcases l with l | ⟨k, c, e, z⟩
    · exact .inl l
    · exact .inr ⟨k, c, e, cellK x c e _ z⟩
  · obtain ⟨v, z⟩ := I.cell x c e
    exact ⟨v, cellK x c e v z⟩
  · obtain ⟨m, ⟨o, _, _, ho, _⟩, _⟩ := I.loc
    exact free _ o (fun z => (hch _ z).2.1 rfl) ho I.free
  · obtain ⟨v, o, ho, hd⟩ := I.cell x c e
    exact free c o (fun z => (hch c z).2.2.1 x c e rfl) ho (I.freeC x c e)
  · obtain ⟨e, n, ne, nf, d⟩ := I.pin p hp
    have nch : p.1 ∉ ch := fun z => (hch p.1 z).2.2.2 p hp rfl
    exact ⟨keep p.1 p.2 ne nf nch e n, free p.1 p.2 nch e n, ne, nf, d⟩
/-- .. where the frame's own object is kept too -/
theorem Inv.un {t' : Nat} (I : Inv X pins σ H s) (u : Un X.fs [] H H' s.heap h') (hok : HOk X.prog X.w H' h') : Inv X pins σ H' { s with heap := h', toks := t' } := by
  obtain ⟨m, ⟨o, es, ep, ho, r⟩, _⟩ := id I.loc
  obtain ⟨sl, hL⟩ := u.any ho I.free (by simp)
  exact I.step (g' := s.gens) (d' := s.drawn) (ch := []) (fun _ z => nomatch z) (fun b o _ hb _ e n => u.keep b o e n hb (by simp)) (fun b o _ hb _ e n => u.slot b o e n hb (by simp)) (fun b o _ e n => u.free b o e n (by simp)) (fun b o _ e => u.there b o e (by simp)) u.tups u.frzs u.tbls (fun m' hm => by
    obtain ⟨o', es', ep', ho', r'⟩ := hm
    rw [ho] at ho'; cases ho'
    exact ⟨_, es', ep', hL, r'⟩) hok I.bare
/-- behind a call (or a comprehension's block): the slots of this frame may have changed too, the records at ch may have turned -/
theorem Inv.call {g' : Array GenState} {t' : Nat} {d' : Drawn} {ch : List Addr} (I : Inv X pins σ H s) (u : Un (frs X.stack) ch H H' s.heap h') (hok : HOk X.prog X.w H' h') (hg : AllBare g')
    (hch : ∀ b ∈ ch, (b ∈ X.ex ∨ X.s₀.heap.objs.size ≤ b) ∧ b ≠ X.env.locals ∧ (∀ x c, X.env.cells.lookup x = some c → c ≠ b) ∧ ∀ p ∈ X.pn ++ pins, p.1 ≠ b) :
    Inv X pins σ H' { s with heap := h', gens := g', drawn := d', toks := t' } := by
  obtain ⟨m, ⟨o, es, ep, ho, r⟩, _⟩ := id I.loc
  obtain ⟨sl, hL⟩ := u.any ho I.free fun z => (hch _ z).2.1 rfl
  exact I.step (ch := ch) hch (fun b o hL hb hc e n => u.keep b o e n (fun z => (List.mem_cons.mp (I.stkSub b z)).elim hL hb) hc) (fun b o _ _ hc e n => u.any e n hc) (fun b o hc e n => u.free b o e n hc) (fun b o hc e => u.there b o e hc) u.tups u.frzs u.tbls (fun m' hm => by
    obtain ⟨o', es', ep', ho', r'⟩ := hm
    rw [ho] at ho'; cases ho'
    exact ⟨_, es', ep', hL, r'⟩) hok hg
/-- an untracked record of ours (an iterator) has turned -/
theorem Inv.turned {t' : Nat} {it : Addr} (I : Inv X pins σ H s) (k : ∀ b o, b ≠ it → s.heap.get? b = some o → h'.get? b = some o) (hn : H it = none) (hL : it ≠ X.env.locals)
    (h1 : it ∈ X.ex ∨ X.s₀.heap.objs.size ≤ it) (h2 : ∀ x c, X.env.cells.lookup x = some c → c ≠ it) (h3 : ∀ p ∈ X.pn ++ pins, p.1 ≠ it) : Inv X pins σ H { s with heap := h', toks := t' } := by
  have nit : ∀ b u, H b = some u → b ≠ it := fun b u e z => by rw [z, hn] at e; cases e
  refine I.step (g' := s.gens) (d' := s.drawn) (ch := [it]) (fun b hb => ?_) (fun b o _ _ hc e _ => k b o (fun z => hc (by simp [z])) e) (fun b o _ _ hc e _ => ⟨o.slots, k b o (fun z => hc (by simp [z])) e⟩) (fun _ _ _ _ n => n)
    (fun b o hc e => ⟨o, k b o (fun z => hc (by simp [z])) e⟩) (fun _ _ e => e) (fun _ _ _ e => e) (fun b ps e => ⟨#[], by rw [e]; simp⟩) (fun m hm => ?_) (fun b u e => ?_) I.bare
  · have e : b = it := by simpa using hb
    subst e
    exact ⟨h1, hL, h2, h3⟩
  · obtain ⟨o, es, ep, ho, r⟩ := hm
    exact ⟨o, es, ep, k _ o (Ne.symm hL) ho, r⟩
  · refine (I.hok b u e).stay (fun c v hc q => k c v ?_ q) (fun _ q => q) fun _ _ q => q
    rcases hc with z | z
    · rw [z]; exact nit b u e
    · exact nit c _ z
theorem Inv.tok (I : Inv X pins σ H s) (t : Nat) : Inv X pins σ H { s with toks := t } := I.un (h' := s.heap) (t' := t) Un.refl I.hok
/-- all objects kept -/
theorem Inv.kept {t' : Nat} (I : Inv X pins σ H s) (k : ∀ b u, s.heap.get? b = some u → h'.get? b = some u) : Inv X pins σ H { s with heap := h', toks := t' } := I.un (Un.kept k) (I.hok.kept k)
/-- a new object laid and tracked -/
theorem Inv.laid {a : Addr} {o : HO} {t' : Nat} (I : Inv X pins σ H s) (k : ∀ b u, s.heap.get? b = some u → h'.get? b = some u) (hp : s.heap.objs.size ≤ a) (new : ObjOk X.prog X.w (upd H a o) h' a o) :
    Inv X pins σ (upd H a o) { s with heap := h', toks := t' } := I.un (Un.laid k hp (I.hok.fresh hp)) (I.hok.laid k hp new)
/-- an object written -/
theorem Inv.write {x e : Addr} {o : HO} {t' : Nat} (I : Inv X pins σ H s) (mu : Mut (H x)) (he : e = x ∨ H e = some (.own x)) (k : ∀ b u, b ≠ e → s.heap.get? b = some u → h'.get? b = some u) (heo : ∃ u, h'.get? e = some u)
    (new : ObjOk X.prog X.w (upd H x o) h' x o) : Inv X pins σ (upd H x o) { s with heap := h', toks := t' } := I.un (Un.write mu he k heo) (I.hok.write mu he k heo new)
theorem Inv.pins_of {pins' : List (Addr × Obj)} (I : Inv X pins σ H s) (h : ∀ p ∈ pins', s.heap.get? p.1 = some p.2 ∧ H p.1 = none ∧ p.1 ≠ X.env.locals ∧ p.1 ∉ X.fs ∧ ∀ v, p.2.data ≠ .cell v) : Inv X pins' σ H s :=
  ⟨I.ok, I.os, I.bare, I.base, I.loc, I.cell, I.free, I.freeC, fun p hp => (List.mem_append.mp hp).elim (fun z => I.pin p (List.mem_append_left _ z)) (h p), I.hok, I.len⟩

theorem nodup_ix {N : List Str} (hN : N.Nodup) {i j : Nat} {x : Str} (a : N[i]? = some x) (b : N[j]? = some x) : i = j := by
  obtain ⟨h1, e1⟩ := List.getElem?_eq_some_iff.mp a
  obtain ⟨h2, e2⟩ := List.getElem?_eq_some_iff.mp b
  exact (List.getElem_inj hN).mp (e1.trans e2.symm)

/-- a name is stored; what changed -/
theorem store_ok2 {M : Model} {A : Around} {E : Value → Shared → Prop} {i : Nat} {x : Str} {v : V} {u : Value} {Q : Unit → Shared → Prop} (I : Inv X pins σ H s) (hN : X.N.Nodup) (hi : X.N[i]? = some x) (hx : Loc X.env.scope x) (r : RelV v u)
    (h : ∀ s', Inv X pins (σ.set i (some v)) H s' → (∃ a, Heap.SameBut a s.heap s'.heap ∧ (a = X.env.locals ∨ X.env.cells.lookup x = some a)) → Q () s') (hf : X.fn x = true ∨ X.env.scope.names.lookup x = some .local := by first | exact .inl rfl | exact .inr rfl | assumption) : wpAny M A (storeName X.env x u) Q E s := by
  obtain ⟨m, hn, hl⟩ := id I.loc
  have hcls : (X.env.scope.kind == .class || (X.env.scope.kind == .module && X.env.locals != X.env.globals)) = false := by rw [I.ok.kind]; rfl
  have hiσ : i < σ.length := by rw [I.len]; exact (List.getElem?_eq_some_iff.mp hi).1
  have cne := I.cne
  have tracked : ∀ {a : Addr} {h' : Heap}, (∃ o, s.heap.get? a = some o ∧ H a = none) → Heap.SameBut a s.heap h' → HOk X.prog X.w H h' := fun {a h'} ha hs b ob e => by
    obtain ⟨_, _, hfree⟩ := ha
    refine (I.hok b ob e).stay (fun c w' hc q => (hs.2 c ?_).trans q) (fun _ q => q) fun _ _ q => q
    rintro rfl
    rcases hc with rfl | hc
    · rw [hfree] at e; cases e
    · rw [hfree] at hc; cases hc
  rcases hx with hk | hk
  · refine wpAny_storeName_local hk hn (fun h' hn' hs => ?_) hcls
    obtain ⟨oL, _, _, hoL, _⟩ := id hn
    refine h _ ⟨I.ok, I.os, I.bare, ⟨fun b o e n hb hx => ?_, fun b o e n hb hx => ?_, I.base.free, fun b o e hx => ?_, I.base.tups, I.base.frzs, I.base.tbls⟩, ⟨_, hn', fun j y v' e1 e2 e3 => ?_⟩, fun y c e => ?_, I.free, I.freeC, fun p hp => ?_, tracked ⟨oL, hoL, I.free⟩ hs, by simpa using I.len⟩ ⟨_, hs, .inl rfl⟩
    · exact (hs.2 b (Nat.ne_of_lt (Nat.lt_of_lt_of_le (Heap.lt_size e) I.ok.above))).trans (I.base.keep b o e n hb hx)
    · obtain ⟨sl, e1⟩ := I.base.slot b o e n hb hx
      exact ⟨sl, (hs.2 b (Nat.ne_of_lt (Nat.lt_of_lt_of_le (Heap.lt_size e) I.ok.above))).trans e1⟩
    · obtain ⟨o', e1⟩ := I.base.there b o e hx
      exact ⟨o', (hs.2 b (Nat.ne_of_lt (Nat.lt_of_lt_of_le (Heap.lt_size e) I.ok.above))).trans e1⟩
    · by_cases hj : j = i
      · subst hj
        rw [hi] at e1; cases e1
        rw [List.getElem?_set_self hiσ] at e2
        cases e2
        exact ⟨u, r, .inl ⟨hk, by simp⟩⟩
      · rw [List.getElem?_set_ne (Ne.symm hj)] at e2
        obtain ⟨u', r', q⟩ := hl j y v' e1 e2 e3
        refine ⟨u', r', ?_⟩
        rcases q with ⟨k, e⟩ | ⟨k, c, e, z⟩
        · refine .inl ⟨k, ?_⟩
          have : y ≠ x := fun e => hj (nodup_ix hN e1 (e ▸ hi))
          simp [this, e]
        · exact .inr ⟨k, c, e, z.sameBut hs (cne y c e)⟩
    · obtain ⟨w', z⟩ := I.cell y c e
      exact ⟨w', z.sameBut hs (cne y c e)⟩
    · obtain ⟨e, n, ne, nf, d⟩ := I.pin p hp
      exact ⟨(hs.2 p.1 ne).trans e, n, ne, nf, d⟩
  · have hfn : X.fn x = true := by
      rcases hf with z | z
      · exact z
      · rw [z] at hk; cases hk
    obtain ⟨c, hc⟩ := I.ok.has x (.inl hk)
    obtain ⟨w', z⟩ := I.cell x c hc
    refine wpAny_storeName_cell I.ok.kind hk hc z (fun h' hc' hs => ?_)
    obtain ⟨oc, hoc, hocd⟩ := id z
    refine h { s with heap := h' } ⟨I.ok, I.os, I.bare, ⟨fun b o e n hb hx => ?_, fun b o e n hb hx => ?_, I.base.free, fun b o e hx => ?_, I.base.tups, I.base.frzs, I.base.tbls⟩, ⟨m, hn.sameBut hs (Ne.symm (cne x c hc)), fun j y v' e1 e2 e3 => ?_⟩, fun y c' e => ?_, I.free, I.freeC, fun p hp => ?_, tracked ⟨oc, hoc, I.freeC x c hc⟩ hs, by simpa using I.len⟩ ⟨c, hs, .inr hc⟩
    · exact (hs.2 b (Nat.ne_of_lt (Nat.lt_of_lt_of_le (Heap.lt_size e) (I.ok.cab x c hfn hc)))).trans (I.base.keep b o e n hb hx)
    · obtain ⟨sl, e1⟩ := I.base.slot b o e n hb hx
      exact ⟨sl, (hs.2 b (Nat.ne_of_lt (Nat.lt_of_lt_of_le (Heap.lt_size e) (I.ok.cab x c hfn hc)))).trans e1⟩
    · obtain ⟨o', e1⟩ := I.base.there b o e hx
      exact ⟨o', (hs.2 b (Nat.ne_of_lt (Nat.lt_of_lt_of_le (Heap.lt_size e) (I.ok.cab x c hfn hc)))).trans e1⟩
    · by_cases hj : j = i
      · subst hj
        rw [hi] at e1; cases e1
        rw [List.getElem?_set_self hiσ] at e2
        cases e2
        exact ⟨u, r, .inr ⟨.inl hk, c, hc, hc'⟩⟩
      · rw [List.getElem?_set_ne (Ne.symm hj)] at e2
        obtain ⟨u', r', q⟩ := hl j y v' e1 e2 e3
        refine ⟨u', r', ?_⟩
        rcases q with q | ⟨k, c', e, z'⟩
        · exact .inl q
        · refine .inr ⟨k, c', e, z'.sameBut hs ?_⟩
          rintro rfl
          exact hj (nodup_ix hN e1 (I.ok.inj _ _ _ e hc ▸ hi))
    · by_cases hcc : c' = c
      · subst hcc; exact ⟨_, hc'⟩
      · obtain ⟨w2, z2⟩ := I.cell y c' e
        exact ⟨w2, z2.sameBut hs hcc⟩
    · obtain ⟨e, n, ne, nf, d⟩ := I.pin p hp
      refine ⟨(hs.2 p.1 ?_).trans e, n, ne, nf, d⟩
      intro q
      rw [q, hoc] at e
      have q' : oc = p.2 := Option.some.inj e
      exact d w' (by rw [← q']; exact hocd)
theorem store_ok {M : Model} {A : Around} {E : Value → Shared → Prop} {i : Nat} {x : Str} {v : V} {u : Value} {Q : Unit → Shared → Prop} (I : Inv X pins σ H s) (hN : X.N.Nodup) (hi : X.N[i]? = some x) (hx : Loc X.env.scope x) (r : RelV v u)
    (h : ∀ s', Inv X pins (σ.set i (some v)) H s' → Q () s') (hf : X.fn x = true ∨ X.env.scope.names.lookup x = some .local := by first | exact .inl rfl | exact .inr rfl | assumption) : wpAny M A (storeName X.env x u) Q E s :=
  store_ok2 I hN hi hx r (fun s' I' _ => h s' I') hf
/-- behind a call or a block, the state as it is -/
theorem Inv.call' {s' : Shared} {ch : List Addr} (I : Inv X pins σ H s) (ho : s'.os = s.os) (u : Un (frs X.stack) ch H H' s.heap s'.heap) (hok : HOk X.prog X.w H' s'.heap) (hg : AllBare s'.gens)
    (hch : ∀ b ∈ ch, (b ∈ X.ex ∨ X.s₀.heap.objs.size ≤ b) ∧ b ≠ X.env.locals ∧ (∀ x c, X.env.cells.lookup x = some c → c ≠ b) ∧ ∀ p ∈ X.pn ++ pins, p.1 ≠ b) : Inv X pins σ H' s' := by
  obtain ⟨h', g', d', t', o'⟩ := s'
  have e : o' = s.os := ho
  subst e
  exact I.call (g' := g') (t' := t') (d' := d') u hok hg hch
end

/-! ### the judgements -/
/-- an exception: its class, its own dict's address (where it has one), the abstract heap behind it -/
abbrev XK := Value → Option Addr → Hp → Prop
abbrev St := List (Option V)
abbrev VK := V → Hp → Prop
/-- an expression's reading; a test's; an argument list's -/
abbrev TE := St → Hp → VK → Prop
abbrev TT := St → Hp → (Bool → Hp → Prop) → Prop
abbrev TA := St → Hp → (List V → Hp → Prop) → Prop
/-- what is wanted behind a statement -/
structure Ends where
  nx : St → Hp → Prop
  rt : VK
  bk : St → Hp → Prop := fun _ _ => False
  ct : St → Hp → Prop := fun _ _ => False
abbrev TS := Ends → St → Hp → Prop

def EP (X : Cx) (pins : List (Addr × Obj)) (σ : St) (Q : VK) (u : Value) (s' : Shared) : Prop := ∃ v H', Inv X pins σ H' s' ∧ RelV v u ∧ Q v H'
def TP (X : Cx) (pins : List (Addr × Obj)) (σ : St) (Q : Bool → Hp → Prop) (b : Bool) (s' : Shared) : Prop := ∃ H', Inv X pins σ H' s' ∧ Q b H'
def AP (X : Cx) (pins : List (Addr × Obj)) (σ : St) (Q : List V → Hp → Prop) (us : List Value) (s' : Shared) : Prop := ∃ vs H', Inv X pins σ H' s' ∧ Vals vs us ∧ Q vs H'
def SP (X : Cx) (pins : List (Addr × Obj)) (D : Ends) (f : Flow) (s' : Shared) : Prop :=
  match f with
  | .next => ∃ σ' H', Inv X pins σ' H' s' ∧ D.nx σ' H'
  | .brk => ∃ σ' H', Inv X pins σ' H' s' ∧ D.bk σ' H'
  | .cont => ∃ σ' H', Inv X pins σ' H' s' ∧ D.ct σ' H'
  | .ret u => ∃ v σ' H', Inv X pins σ' H' s' ∧ RelV v u ∧ D.rt v H'

def PE (X : Cx) (e : Expr) (t : TE) : Prop :=
  ∀ (pins : List (Addr × Obj)) (s : Shared) (σ : St) (H : Hp) (Q : VK), Inv X pins σ H s → t σ H Q → wpAny (model X.prog X.w) X.A (eval e X.env) (EP X pins σ Q) X.xe s
def PT (X : Cx) (e : Expr) (t : TT) : Prop :=
  ∀ (pins : List (Addr × Obj)) (s : Shared) (σ : St) (H : Hp) (Q : Bool → Hp → Prop), Inv X pins σ H s → t σ H Q → wpAny (model X.prog X.w) X.A (isTrue e X.env (eval e X.env)) (TP X pins σ Q) X.xe s
/-- a test whatever its 'whole' is (and, or) -/
def PW (X : Cx) (e : Expr) (t : TT) : Prop :=
  ∀ (whole : Sem Value) (pins : List (Addr × Obj)) (s : Shared) (σ : St) (H : Hp) (Q : Bool → Hp → Prop), Inv X pins σ H s → t σ H Q → wpAny (model X.prog X.w) X.A (isTrue e X.env whole) (TP X pins σ Q) X.xe s
theorem PW.pt {X : Cx} {e : Expr} {t : TT} (h : PW X e t) : PT X e t := h _
/-- an argument list (no star), from the left -/
def PA (X : Cx) (es : List Expr) (t : TA) : Prop :=
  ∀ (pos : Pos) (pins : List (Addr × Obj)) (s : Shared) (σ : St) (H : Hp) (Q : List V → Hp → Prop), Inv X pins σ H s → t σ H Q → wpAny (model X.prog X.w) X.A (spliced (backTo pos (starEach es X.env))) (AP X pins σ Q) X.xe s
def PS (X : Cx) (st : Stmt) (t : TS) : Prop :=
  ∀ (pins : List (Addr × Obj)) (s : Shared) (σ : St) (H : Hp) (D : Ends), Inv X pins σ H s → t D σ H → wpAny (model X.prog X.w) X.A (exec st X.env) (SP X pins D) X.xe s
def PSs (X : Cx) (st : List Stmt) (t : TS) : Prop :=
  ∀ (pins : List (Addr × Obj)) (s : Shared) (σ : St) (H : Hp) (D : Ends), Inv X pins σ H s → t D σ H → wpAny (model X.prog X.w) X.A (execs st X.env) (SP X pins D) X.xe s
/-- weaken the end -/
theorem thn {α : Type} {t : Sem α} {Q Q' : α → Shared → Prop} {M : Model} {A : Around} {E : Value → Shared → Prop} {s : Shared} (h : wpAny M A t Q E s) (hQ : ∀ a s, Q a s → Q' a s) : wpAny M A t Q' E s := wpAny_mono h hQ fun _ _ x => x
end L2

namespace L2
open PySem PySem.Spec PyProof.Rows
section
variable {X : Cx}

/-! ### names and constants -/
def tVar (i : Nat) : TE := fun σ H Q => ∃ v, σ[i]? = some (some v) ∧ Q v H
def tC (v : V) : TE := fun _ H Q => Q v H
theorem pe_var {i : Nat} {x : Str} {pos : Pos} (hN : X.N[i]? = some x) (hv : Vis X.env.scope x) (hd : (x == ("__debug__" : Str)) = false := by decide) (hcd : (x == ("__classdict__" : Str)) = false := by decide) : PE X (.Name x pos) (tVar i) := by
  intro pins s σ H Q I h
  obtain ⟨v, e, h⟩ := h
  obtain ⟨m, hn, hl⟩ := I.loc
  obtain ⟨u, r, l⟩ := hl i x v hN e hv
  have fin : EP X pins σ Q u s := ⟨v, H, I, r, h⟩
  rcases l with ⟨hk, hm⟩ | ⟨hk, c, hc, hcell⟩
  · exact wpAny_Name (wpAny_loadName_local I.ok.kind hk hn hm fin) hd
  · rcases hk with hk | hk
    · exact wpAny_Name (wpAny_loadName_cell I.ok.kind hk hc hcell fin) hd
    · exact wpAny_Name (wpAny_loadName_free I.ok.kind hk hc hcell fin hcd) hd
theorem pe_int {i j pos} : PE X (.Constant (.int i) j pos) (tC (.int i)) := fun _ _ _ H _ I h => wpAny_Constant_int ⟨.int i, H, I.tok _, ⟨_, rfl⟩, h⟩
theorem pe_bl {b j pos} : PE X (.Constant (.bool b) j pos) (tC (.bl b)) := fun _ _ _ H _ I h => Constant_bool ⟨.bl b, H, I, rfl, h⟩
/-- a global name of the def -/
def Gl (X : Cx) (x : Str) : Prop := X.env.kindOf x = some .globalImplicit
theorem ld_glob {E : Value → Shared → Prop} {pins : List (Addr × Obj)} {s : Shared} {σ : St} {H : Hp} {x : Str} {u : Value} {pos : Pos} {Q : Value → Shared → Prop} (I : Inv X pins σ H s) (hg : Gl X x) (hm : X.mg x = some u) (h : Q u s)
    (hd : (x == ("__debug__" : Str)) = false := by decide) : wpAny (model X.prog X.w) X.A (eval (.Name x pos) X.env) Q E s :=
  Calls.Name_function_global I.ok.kind hg (Calls.loadGlobal_global (by rw [I.ok.glob]; exact I.mod.glob.keeps I.bk) hm h) hd
theorem ld_blt {E : Value → Shared → Prop} {pins : List (Addr × Obj)} {s : Shared} {σ : St} {H : Hp} {x : Str} {u : Value} {pos : Pos} {Q : Value → Shared → Prop} (I : Inv X pins σ H s) (hg : Gl X x) (hm : X.mg x = none) (hv : bootBuiltins x = some u) (h : Q u s)
    (hn : x ≠ "__name__" := by decide) (hd : (x == ("__debug__" : Str)) = false := by decide) : wpAny (model X.prog X.w) X.A (eval (.Name x pos) X.env) Q E s := by
  obtain ⟨mb, h1, h2⟩ := I.mod.blt
  exact Calls.Name_function_global I.ok.kind hg (Calls.loadGlobal_builtin (by rw [I.ok.glob]; exact I.mod.glob.keeps I.bk) hm (by rw [I.ok.blt]; exact h1.keeps I.bk) ((h2 x hn).trans hv) h) hd
/-- a module's constant, a class, a function, as a value -/
theorem pe_glob {x : Str} {v : V} {u : Value} {pos : Pos} (hg : Gl X x) (hm : X.mg x = some u) (r : RelV v u) (hd : (x == ("__debug__" : Str)) = false := by decide) : PE X (.Name x pos) (tC v) :=
  fun _ _ _ H _ I h => ld_glob I hg hm ⟨v, H, I, r, h⟩ hd
theorem pe_bltn {x : Str} {v : V} {u : Value} {pos : Pos} (hg : Gl X x) (hm : X.mg x = none) (hv : bootBuiltins x = some u) (r : RelV v u) (hn : x ≠ "__name__" := by decide) (hd : (x == ("__debug__" : Str)) = false := by decide) : PE X (.Name x pos) (tC v) :=
  fun _ _ _ H _ I h => ld_blt I hg hm hv ⟨v, H, I, r, h⟩ hn hd

/-! ### arithmetic -/
variable {a b : Expr} {ta tb : TE} {pos : Pos}
/-! ### comparisons -/
/-! ### and, or, not -/
variable {tA tB' : TT} {rest : List Expr}
def tAnd (t u : TT) : TT := fun σ H Q => t σ H fun c H1 => if c = true then u σ H1 Q else Q false H1
def tOr (t u : TT) : TT := fun σ H Q => t σ H fun c H1 => if c = true then Q true H1 else u σ H1 Q
def tNot (t : TT) : TT := fun σ H Q => t σ H fun c H1 => Q (!c) H1
theorem pw_and1 (ha : PT X a tA) : PW X (.BoolOp .And [a] pos) tA := by
  intro wh pins s σ H Q I h
  refine isTrue_and (thn (ha pins s σ H Q I h) fun c s1 e => ?_)
  cases c with
  | true => exact isTrue_and_nil e
  | false => exact e
theorem pw_or1 (ha : PT X a tA) : PW X (.BoolOp .Or [a] pos) tA := by
  intro wh pins s σ H Q I h
  refine isTrue_or (thn (ha pins s σ H Q I h) fun c s1 e => ?_)
  cases c with
  | false => exact isTrue_or_nil e
  | true => exact e
theorem pw_and (ha : PT X a tA) (hb : PW X (.BoolOp .And (b :: rest) pos) tB') : PW X (.BoolOp .And (a :: b :: rest) pos) (tAnd tA tB') := by
  intro wh pins s σ H Q I h
  refine isTrue_and (thn (ha pins s σ H _ I h) fun c s1 ⟨H1, I1, q1⟩ => ?_)
  cases c with
  | true => exact hb wh pins s1 σ H1 Q I1 q1
  | false => exact ⟨H1, I1, q1⟩
theorem pw_or (ha : PT X a tA) (hb : PW X (.BoolOp .Or (b :: rest) pos) tB') : PW X (.BoolOp .Or (a :: b :: rest) pos) (tOr tA tB') := by
  intro wh pins s σ H Q I h
  refine isTrue_or (thn (ha pins s σ H _ I h) fun c s1 ⟨H1, I1, q1⟩ => ?_)
  cases c with
  | true => exact ⟨H1, I1, q1⟩
  | false => exact hb wh pins s1 σ H1 Q I1 q1
theorem pt_not (ha : PT X a tA) : PT X (.UnaryOp .Not a pos) (tNot tA) := by
  intro pins s σ H Q I h
  exact isTrue_not (ha pins s σ H (fun c H1 => Q (!c) H1) I h)
/-- .. as values (bools) -/
def tAndV (ta tb : TE) : TE := fun σ H Q => ta σ H fun x H1 => ∃ c, x = .bl c ∧ if c = true then tb σ H1 Q else Q (.bl false) H1
def tNotV (ta : TE) : TE := fun σ H Q => ta σ H fun x H1 => ∃ c, x = .bl c ∧ Q (.bl (!c)) H1
theorem pe_one {op} {t : TE} (h : PE X a t) : PE X (.BoolOp op [a] pos) t := fun pins s σ H Q I hw => BoolOp_one (h pins s σ H Q I hw)
theorem pe_and (ha : PE X a ta) (hb : PE X (.BoolOp .And (b :: rest) pos) tb) : PE X (.BoolOp .And (a :: b :: rest) pos) (tAndV ta tb) := by
  intro pins s σ H Q I h
  refine BoolOp_and (thn (ha pins s σ H _ I h) fun v s1 ⟨x, H1, I1, r1, q1⟩ => ?_)
  obtain ⟨c, rfl, q1⟩ := q1
  cases r1
  refine wpAny_truthy_bool ?_
  cases c with
  | true => exact hb pins s1 σ H1 Q I1 q1
  | false => exact ⟨.bl false, H1, I1, rfl, q1⟩
theorem pe_not (ha : PE X a ta) : PE X (.UnaryOp .Not a pos) (tNotV ta) := by
  intro pins s σ H Q I h
  refine UnaryOp_ (thn (ha pins s σ H _ I h) fun v s1 ⟨x, H1, I1, r1, q1⟩ => ?_)
  obtain ⟨c, rfl, q1⟩ := q1
  cases r1
  exact not_of (wpAny_truthy_bool ⟨.bl (!c), H1, I1, rfl, q1⟩)
end
end L2

namespace L2
open PySem PySem.Spec PyProof.Rows

/-! ### a list, a tuple that is read: tracked, frozen, or an object of the module -/
def SqL (K : PySem.W.Frag) (H : Hp) (a : Addr) (xs : List V) : Prop :=
  Rd H a (.lst xs) ∨
    ∃ (o : Obj) (its : Array Value) (n : Nat), K.lookup a = some o ∧ o.cls = .type "list" ∧ o.dict = none ∧ o.data = .seq its n ∧ its.size ≤ sizeLine ∧ Vals xs its.toList
def SqT (K : PySem.W.Frag) (H : Hp) (a : Addr) (xs : List V) : Prop :=
  Rd H a (.tup xs) ∨
    ∃ (o : Obj) (its : Array Value) (n : Nat), K.lookup a = some o ∧ o.cls = .type "tuple" ∧ o.data = .seq its n ∧ its.size ≤ sizeLine ∧ Vals xs its.toList
def absV : Value → Option V
  | .none => some .non
  | .bool b => some (.bl b)
  | .int i _ => some (.int i)
  | .str x _ => some (.str x)
  | .bytes b _ => some (.byt b)
  | .float b _ => some (.flt b)
  | .ref a => some (.ref a)
  | .type n => some (.ty n)
  | _ => none
theorem RelV.abs {x : V} {u : Value} (r : RelV x u) : absV u = some x := by
  cases x with
  | non => cases r; rfl
  | bl _ => cases r; rfl
  | int _ => obtain ⟨t, rfl⟩ := r; rfl
  | str _ => obtain ⟨t, rfl⟩ := r; rfl
  | byt _ => obtain ⟨t, rfl⟩ := r; rfl
  | flt _ => obtain ⟨t, rfl⟩ := r; rfl
  | ref _ => cases r; rfl
  | ty _ => cases r; rfl
theorem RelV.inj {x y : V} {u : Value} (r : RelV x u) (q : RelV y u) : x = y := Option.some.inj (r.abs.symm.trans q.abs)
theorem Vals.inj : ∀ {xs ys : List V} {us : List Value}, Vals xs us → Vals ys us → xs = ys
  | _, _, _, .nil, .nil => rfl
  | _, _, _, .cons r t, .cons r' t' => by rw [r.inj r', Vals.inj t t']
section
variable {X : Cx} {pins : List (Addr × Obj)} {σ : St} {H : Hp} {s : Shared} {a : Addr} {xs ys : List V}
theorem SqL.of {K : PySem.W.Frag} (h : H a = some (.lst xs)) : SqL K H a xs := .inl (.inl h)
theorem SqT.of {K : PySem.W.Frag} (h : H a = some (.tup xs)) : SqT K H a xs := .inl (.inl h)
theorem Inv.list (I : Inv X pins σ H s) (h : SqL X.K H a xs) : ∃ its : List Value, Vals xs its ∧ PlainL s.heap a its.toArray ∧ xs.length ≤ sizeLine := by
  rcases h with h | ⟨o, its, n, hk, hc, hd, hs, hz, r⟩
  · obtain ⟨z, its, n, r, e⟩ := h.ok I.hok
    exact ⟨its, r, ⟨_, n, e, rfl, rfl, rfl⟩, z⟩
  · refine ⟨its.toList, r, ⟨o, n, I.kIn a o hk, hc, hd, by simpa using hs⟩, ?_⟩
    have e := r.length
    simp only [Array.length_toList] at e
    omega
theorem Inv.tuple (I : Inv X pins σ H s) (h : SqT X.K H a xs) : ∃ its : List Value, Vals xs its ∧ IsTup s.heap a its.toArray ∧ xs.length ≤ sizeLine := by
  rcases h with h | ⟨o, its, n, hk, hc, hs, hz, r⟩
  · obtain ⟨z, its, r, p, _⟩ := h.ok I.hok
    exact ⟨its, r, p, z⟩
  · refine ⟨its.toList, r, ⟨o, I.kIn a o hk, hc, n, by simpa using hs⟩, ?_⟩
    have e := r.length
    simp only [Array.length_toList] at e
    omega
theorem Inv.list_inj (I : Inv X pins σ H s) (h : SqL X.K H a xs) (h' : SqL X.K H a ys) : xs = ys := by
  obtain ⟨its, r, ⟨o, n, e, _, _, d⟩, _⟩ := I.list h
  obtain ⟨its', r', ⟨o', n', e', _, _, d'⟩, _⟩ := I.list h'
  rw [e] at e'; cases e'
  rw [d] at d'
  injection d' with d1 _
  have : its = its' := by simpa using congrArg Array.toList d1
  subst this
  exact r.inj r'
theorem Inv.tuple_inj (I : Inv X pins σ H s) (h : SqT X.K H a xs) (h' : SqT X.K H a ys) : xs = ys := by
  obtain ⟨its, r, ⟨o, e, _, n, d⟩, _⟩ := I.tuple h
  obtain ⟨its', r', ⟨o', e', _, n', d'⟩, _⟩ := I.tuple h'
  rw [e] at e'; cases e'
  rw [d] at d'
  injection d' with d1 _
  have : its = its' := by simpa using congrArg Array.toList d1
  subst this
  exact r.inj r'
end

/-! ### another wish about exceptions -/
abbrev Cx.wish (X : Cx) (E : Value → Shared → Prop) : Cx := { X with xe := E }
/-- no exception leaves -/
abbrev Cx.nox (X : Cx) : Cx := X.wish fun _ _ => False
theorem Cx.Ok.wish {X : Cx} (ok : X.Ok) (E : Value → Shared → Prop) : (X.wish E).Ok :=
  ⟨ok.mod, ok.kind, ok.glob, ok.blt, ok.above, ok.inj, ok.has, ok.cab, ok.hd, ok.frames, ok.stk, ok.exf, ok.bs, ok.bsz, ok.noex, ok.exfs, ok.funs, ok.frf⟩
theorem Cx.Ok.unwish {X : Cx} {E : Value → Shared → Prop} (ok : (X.wish E).Ok) : X.Ok :=
  ⟨ok.mod, ok.kind, ok.glob, ok.blt, ok.above, ok.inj, ok.has, ok.cab, ok.hd, ok.frames, ok.stk, ok.exf, ok.bs, ok.bsz, ok.noex, ok.exfs, ok.funs, ok.frf⟩
section
variable {X : Cx} {pins : List (Addr × Obj)} {σ : St} {H : Hp} {s : Shared} {E : Value → Shared → Prop}
theorem Inv.wish (I : Inv X pins σ H s) (E : Value → Shared → Prop) : Inv (X.wish E) pins σ H s := ⟨I.ok.wish E, I.os, I.bare, I.base, I.loc, I.cell, I.free, I.freeC, I.pin, I.hok, I.len⟩
theorem Inv.unwish (I : Inv (X.wish E) pins σ H s) : Inv X pins σ H s := ⟨I.ok.unwish, I.os, I.bare, I.base, I.loc, I.cell, I.free, I.freeC, I.pin, I.hok, I.len⟩
theorem SP.unwish {D : Ends} {f : Flow} {s' : Shared} (h : SP (X.wish E) pins D f s') : SP X pins D f s' := by
  cases f with
  | next => obtain ⟨σ', H', I, q⟩ := h; exact ⟨σ', H', I.unwish, q⟩
  | brk => obtain ⟨σ', H', I, q⟩ := h; exact ⟨σ', H', I.unwish, q⟩
  | cont => obtain ⟨σ', H', I, q⟩ := h; exact ⟨σ', H', I.unwish, q⟩
  | ret u => obtain ⟨v, σ', H', I, r, q⟩ := h; exact ⟨v, σ', H', I.unwish, r, q⟩
theorem PSs.nox {st : List Stmt} {t : TS} (h : PSs X.nox st t) : PSs X st t := fun pins s σ H D I hw =>
  wpAny_mono (h pins s σ H D (I.wish _) hw) (fun _ _ q => q.unwish) fun _ _ z => False.elim z
end

/-! ### blocks and small statements -/
section
variable {X : Cx} {st : Stmt} {rest : List Stmt} {t u : TS} {e : Expr} {te : TE} {pos : Pos}
def tNext : TS := fun D σ H => D.nx σ H
def tSeq (t u : TS) : TS := fun D σ H => t { D with nx := u D } σ H
theorem pss_nil : PSs X [] tNext := fun _ _ σ H _ I h => wpAny_execs_nil ⟨σ, H, I, h⟩
theorem pss_cons (h1 : PS X st t) (h2 : PSs X rest u) : PSs X (st :: rest) (tSeq t u) := by
  intro pins s σ H D I h
  refine wpAny_execs_cons (thn (h1 pins s σ H { D with nx := u D } I h) fun f s1 q => ?_)
  cases f with
  | next =>
    obtain ⟨σ', H', I', q⟩ := q
    exact h2 pins s1 σ' H' D I' q
  | ret v => exact q
  | brk => exact q
  | cont => exact q
theorem pss_one (h1 : PS X st t) : PSs X [st] t := by
  intro pins s σ H D I h
  refine wpAny_execs_cons (thn (h1 pins s σ H D I h) fun f s1 q => ?_)
  cases f with
  | next => exact wpAny_execs_nil q
  | ret v => exact q
  | brk => exact q
  | cont => exact q
/-- in a def's body nothing is shown -/
theorem Inv.quiet {pins : List (Addr × Obj)} {σ : St} {H : Hp} {s : Shared} (I : Inv X pins σ H s) : interactive X.env = false := by simp [interactive, I.ok.kind]
/-- an expression whose value is dropped -/
def tDrop (te : TE) : TS := fun D σ H => te σ H fun _ H1 => D.nx σ H1
theorem ps_expr (he : PE X e te) (hs : swapsWith e none pos.line X.env = pure false := by rfl) : PS X (.Expr e pos) (tDrop te) := by
  intro pins s σ H D I h
  exact wpAny_Expr_any (thn (he pins s σ H _ I h) fun v s1 ⟨x, H1, I1, r1, q1⟩ => ⟨σ, H1, I1, q1⟩) I.quiet hs
def tRet (te : TE) : TS := fun D σ H => te σ H D.rt
theorem ps_ret (he : PE X e te) : PS X (.Return (some e) pos) (tRet te) := by
  intro pins s σ H D I h
  exact wpAny_Return_some (thn (he pins s σ H _ I h) fun v s1 ⟨x, H1, I1, r1, q1⟩ => ⟨x, σ, H1, I1, r1, q1⟩)
def tIfS (c : TT) (t u : TS) : TS := fun D σ H => c σ H fun b H1 => if b = true then t D σ H1 else u D σ H1
theorem ps_if {c : Expr} {a b : List Stmt} {tc : TT} (hc : PT X c tc) (ha : PSs X a t) (hb : PSs X b u) : PS X (.If c a b pos) (tIfS tc t u) := by
  intro pins s σ H D I h
  refine wpAny_If (thn (hc pins s σ H _ I h) fun d s1 ⟨H1, I1, q1⟩ => ?_)
  cases d with
  | true => exact ha pins s1 σ H1 D I1 q1
  | false => exact hb pins s1 σ H1 D I1 q1
end

/-! ### targets -/
abbrev TG := V → St → Hp → (St → Hp → Prop) → Prop
def PG (X : Cx) (target : Expr) (t : TG) : Prop :=
  ∀ (pins : List (Addr × Obj)) (s : Shared) (σ : St) (H : Hp) (v : V) (u : Value) (Q : St → Hp → Prop), Inv X pins σ H s → RelV v u → t v σ H Q →
    wpAny (model X.prog X.w) X.A (assign target X.env u) (fun _ s' => ∃ σ' H', Inv X pins σ' H' s' ∧ Q σ' H') X.xe s
/-- o[i] = v, by values -/
abbrev TSet := V → V → V → Hp → (Hp → Prop) → Prop
def PSet (X : Cx) (t : TSet) : Prop :=
  ∀ (pins : List (Addr × Obj)) (s : Shared) (σ : St) (H : Hp) (o i v : V) (ov iv u : Value) (Q : Hp → Prop), Inv X pins σ H s → RelV o ov → RelV i iv → RelV v u → t o i v H Q →
    wpAny (model X.prog X.w) X.A (setItem ov iv u) (fun _ s' => ∃ H', Inv X pins σ H' s' ∧ Q H') X.xe s
/-- a op= b, by values -/
abbrev TIp := V → V → Hp → VK → Prop
def PIp (X : Cx) (op : Operator) (t : TIp) : Prop :=
  ∀ (pins : List (Addr × Obj)) (s : Shared) (σ : St) (H : Hp) (x y : V) (v u : Value) (Q : VK), Inv X pins σ H s → RelV x v → RelV y u → t x y H Q →
    wpAny (model X.prog X.w) X.A (inplaceOp op v u) (EP X pins σ Q) X.xe s
section
variable {X : Cx} {pos : Pos}
def gName (i : Nat) : TG := fun v σ H Q => Q (σ.set i (some v)) H
theorem pg_name {i : Nat} {x : Str} (hN : X.N.Nodup) (hi : X.N[i]? = some x) (hx : Loc X.env.scope x) (hf : X.fn x = true ∨ X.env.scope.names.lookup x = some .local := by first | exact .inl rfl | exact .inr rfl | assumption) : PG X (.Name x pos) (gName i) := by
  intro pins s σ H v u Q I r h
  exact wpAny_assign_Name (store_ok I hN hi hx r (fun s' I' => ⟨_, H, I', h⟩) hf)
/-- o[i] = .. -/
def gSub (to ti : TE) (t : TSet) : TG := fun v σ H Q => to σ H fun o H1 => ti σ H1 fun i H2 => t o i v H2 fun H3 => Q σ H3
theorem pg_sub {o i : Expr} {to ti : TE} {t : TSet} (ho : PE X o to) (hi : PE X i ti) (hs : PSet X t)
    (ha : ∀ v, assign (.Subscript o i pos) X.env v = (do
      let ov ← holding [v] (eval o X.env)
      let iv ← holding [v, ov] (eval i X.env)
      standAt pos
      holding [v, ov, iv] (setItem ov iv v)
      release [v, ov, iv] []) := by intro _; rfl) : PG X (.Subscript o i pos) (gSub to ti t) := by
  intro pins s σ H v u Q I r h
  rw [ha]
  refine wpAny_bind (wpAny_holding (thn (ho pins s σ H _ I h) fun ov s1 ⟨x, H1, I1, r1, q1⟩ => ?_))
  refine wpAny_bind (wpAny_holding (thn (hi pins s1 σ H1 _ I1 q1) fun iv s2 ⟨y, H2, I2, r2, q2⟩ => ?_))
  refine wpAny_bind (wpAny_standAt (wpAny_bind (wpAny_holding (thn (hs pins s2 σ H2 x y v ov iv u _ I2 r1 r2 r q2) fun _ s3 ⟨H3, I3, q3⟩ => ?_))))
  exact wpAny_release ⟨σ, H3, I3, q3⟩
/-- target = value -/
def tAsg (te : TE) (g : TG) : TS := fun D σ H => te σ H fun x H1 => g x σ H1 D.nx
theorem ps_asg {tg e : Expr} {te : TE} {g : TG} (he : PE X e te) (hg : PG X tg g) (hs : swapsWithSole [tg] e pos.line X.env = pure false := by rfl) (hw : swappedStores [tg] e X.env = pure none := by rfl)
    (h1 : (assignEach [tg] X.env).map (·.2) = [assign tg X.env] := by rfl) : PS X (.Assign [tg] e pos) (tAsg te g) := by
  intro pins s σ H D I h
  refine wpAny_Assign_stores (thn (he pins s σ H _ I h) fun v s1 ⟨x, H1, I1, r1, q1⟩ => ?_) hs hw
  rw [h1]
  exact thn (hg pins s1 σ H1 x v _ I1 r1 q1) fun _ s2 q => q
/-- name = value -/
theorem ps_set {i : Nat} {x : Str} {e : Expr} {te : TE} {pos' : Pos} (hN : X.N.Nodup) (hi : X.N[i]? = some x) (hx : Loc X.env.scope x) (he : PE X e te) (hs : swapsWith e (some (.Name x pos')) pos.line X.env = pure false := by rfl) (hf : X.fn x = true ∨ X.env.scope.names.lookup x = some .local := by first | exact .inl rfl | exact .inr rfl | assumption) :
    PS X (.Assign [.Name x pos'] e pos) (tAsg te (gName i)) := by
  intro pins s σ H D I h
  refine wpAny_Assign_Name (thn (he pins s σ H _ I h) fun v s1 ⟨y, H1, I1, r1, q1⟩ => ?_) hs
  exact store_ok I1 hN hi hx r1 (fun s2 I2 => ⟨_, H1, I2, q1⟩) hf
/-- o[i] op= e -/
def tAugS (to ti te : TE) (tget : V → V → Hp → VK → Prop) (tip : TIp) (tset : TSet) : TS := fun D σ H => to σ H fun o H1 => ti σ H1 fun i H2 => tget o i H2 fun x H3 => te σ H3 fun y H4 => tip x y H4 fun z H5 => tset o i z H5 fun H6 => D.nx σ H6
/-- o[i], by values -/
def PGet (X : Cx) (t : V → V → Hp → VK → Prop) : Prop :=
  ∀ (pins : List (Addr × Obj)) (s : Shared) (σ : St) (H : Hp) (o i : V) (ov iv : Value) (Q : VK), Inv X pins σ H s → RelV o ov → RelV i iv → t o i H Q →
    wpAny (model X.prog X.w) X.A (getItem ov iv) (EP X pins σ Q) X.xe s
theorem ps_augS {o i e : Expr} {to ti te : TE} {tget : V → V → Hp → VK → Prop} {tip : TIp} {tset : TSet} {op : Operator} {tpos : Pos} (ho : PE X o to) (hi : PE X i ti) (hg : PGet X tget) (he : PE X e te) (hp : PIp X op tip) (hs : PSet X tset)
    (ha : ∀ ov iv new, augStore i ov iv new = (do holding [new, ov, iv] (setItem ov iv new); release [new, ov, iv] []; pure .next) := by intros; rfl) : PS X (.AugAssign (.Subscript o i tpos) op e pos) (tAugS to ti te tget tip tset) := by
  intro pins s σ H D I h
  refine wpAny_AugAssign_SubscriptAny (thn (ho pins s σ H _ I h) fun ov s1 ⟨x1, H1, I1, r1, q1⟩ => ?_) ha
  refine thn (hi pins s1 σ H1 _ I1 q1) fun iv s2 ⟨x2, H2, I2, r2, q2⟩ => ?_
  refine thn (hg pins s2 σ H2 x1 x2 ov iv _ I2 r1 r2 q2) fun old s3 ⟨x3, H3, I3, r3, q3⟩ => ?_
  refine thn (he pins s3 σ H3 _ I3 q3) fun v s4 ⟨x4, H4, I4, r4, q4⟩ => ?_
  refine thn (hp pins s4 σ H4 x3 x4 old v _ I4 r3 r4 q4) fun new s5 ⟨x5, H5, I5, r5, q5⟩ => ?_
  exact thn (hs pins s5 σ H5 x1 x2 x5 ov iv new _ I5 r1 r2 r5 q5) fun _ s6 ⟨H6, I6, q6⟩ => ⟨σ, H6, I6, q6⟩
/-- ints -/
def ipI (f : Int → Int → Int) : TIp := fun x y H Q => ∃ i j, x = .int i ∧ y = .int j ∧ Q (.int (f i j)) H
theorem ip_add : PIp X .Add (ipI fun i j => i + j) := by
  intro pins s σ H x y v u Q I r1 r2 h
  obtain ⟨i, j, e1, e2, q⟩ := h
  subst e1; subst e2
  obtain ⟨t, rfl⟩ := r1
  obtain ⟨t', rfl⟩ := r2
  exact iadd_int ⟨.int _, H, I.tok _, ⟨_, rfl⟩, q⟩
end

/-! ### while -/
section
variable {X : Cx} {pos : Pos}
/-- the invariant W with its measure -/
def tWhile (c : TT) (tb : TS) : TS := fun D σ H => ∃ W : Nat → St → Hp → Prop, (∃ m, W m σ H) ∧ ∀ m σ H, W m σ H →
  c σ H fun b H1 => if b = true then ∃ N : St → Hp → Prop, (∀ σ' H', N σ' H' → ∃ m', m' < m ∧ W m' σ' H') ∧ tb { D with nx := N, ct := N, bk := D.nx } σ H1 else D.nx σ H1
theorem ps_while {c : Expr} {body : List Stmt} {tc : TT} {tb : TS} (hp : PassesOwn (model X.prog X.w) X.A X.env X.xe) (hc : PT X c tc) (hb : PSs X body tb) : PS X (.While c body [] pos) (tWhile tc tb) := by
  intro pins s σ H D I h
  obtain ⟨W, ⟨m0, w0⟩, turn⟩ := h
  refine wpAny_While (codeAny_whileLoop (fun n s' => ∃ σ' H', Inv X pins σ' H' s' ∧ W n σ' H') ?_ m0 ⟨σ, H, I, w0⟩)
  rintro n s1 ⟨σ1, H1, I1, w1⟩
  refine wpAny_passesOwn hp (thn (hc pins s1 σ1 H1 _ I1 (turn n σ1 H1 w1)) fun b s2 ⟨H2, I2, q2⟩ => ?_)
  cases b with
  | true =>
    obtain ⟨N, hN, q2⟩ := q2
    rw [if_pos rfl]
    refine wpAny_passesOwn hp (thn (hb pins s2 σ1 H2 _ I2 q2) fun f s3 q3 => ?_)
    cases f with
    | next =>
      obtain ⟨σ3, H3, I3, n3⟩ := q3
      obtain ⟨m', hm, w3⟩ := hN σ3 H3 n3
      exact ⟨m', hm, σ3, H3, I3, w3⟩
    | cont =>
      obtain ⟨σ3, H3, I3, n3⟩ := q3
      obtain ⟨m', hm, w3⟩ := hN σ3 H3 n3
      exact ⟨m', hm, σ3, H3, I3, w3⟩
    | brk => exact q3
    | ret v => exact q3
  | false =>
    rw [if_neg Bool.false_ne_true]
    exact wpAny_execs_nil ⟨σ1, H2, I2, q2⟩
end

/-! ### what a loop or a comprehension walks -/
/-- at turn i: it yields x (the heap may grow), or it stops -/
structure It where
  go : Nat → Hp → Prop
  yld : Nat → Hp → V → Hp → Prop
  stop : Nat → Hp → Prop
/-- the iterator's own objects may turn: they are not the frame's, not pinned, younger than the entry (or a comprehension's own) -/
def FpOk (X : Cx) (pins : List (Addr × Obj)) (H : Hp) (b : Addr) : Prop :=
  H b = none ∧ b ≠ X.env.locals ∧ b ∉ X.fs ∧ (b ∈ X.ex ∨ X.s₀.heap.objs.size ≤ b) ∧ (∀ x c, X.env.cells.lookup x = some c → c ≠ b) ∧ ∀ p ∈ X.pn ++ pins, p.1 ≠ b
theorem Inv.fpOk {X : Cx} {pins : List (Addr × Obj)} {σ : St} {H H' : Hp} {s : Shared} {b : Addr} (I : Inv X pins σ H s) (hb : s.heap.objs.size ≤ b) (hn : H' b = none) : FpOk X pins H' b := by
  refine ⟨hn, Nat.ne_of_gt (Nat.lt_of_lt_of_le I.lt hb), I.nofs hb, .inr (Nat.le_trans I.sz hb), fun x c e z => ?_, fun p hp z => ?_⟩
  · obtain ⟨v, q⟩ := I.cell x c e
    exact absurd (Nat.lt_of_lt_of_le q.lt (by rw [z]; exact hb)) (Nat.lt_irrefl _)
  · exact absurd (Nat.lt_of_lt_of_le (Heap.lt_size (I.pin p hp).1) (by rw [z]; exact hb)) (Nat.lt_irrefl _)
structure Turn (P : Program) (w : World) (K : PySem.W.Frag) (tg : Expr) (J : It) (fp : List Addr) (it : Addr) (tn : Nat → Heap → Prop) : Prop where
  mem : it ∈ fp
  obj : ∀ i h, tn i h → ∀ b ∈ fp, ∃ o, h.get? b = some o ∧ ∀ v, o.data ≠ .cell v
  keep : ∀ i h h', tn i h → (∀ b ∈ fp, ∀ o, h.get? b = some o → h'.get? b = some o) → tn i h'
  item : ∀ (X : Cx), X.prog = P → X.w = w → X.K = K → X.calm = true → ∀ (i : Nat) (pins : List (Addr × Obj)) (s : Shared) (σ : St) (H : Hp) (E : Value → Shared → Prop), Inv X pins σ H s → (∀ b ∈ fp, FpOk X pins H b) → tn i s.heap → J.go i H →
    wpAny (model P w) X.A (pyNext (.ref it)) (fun r s1 => ∃ u, r = some u ∧
      wpAny (model P w) X.A (letOwnedTupleGo tg (.ref it) u) (fun _ s2 => ∃ x H', Inv X pins σ H' s2 ∧ RelV x u ∧ J.yld i H x H' ∧ tn (i + 1) s2.heap ∧ ∀ b ∈ fp, H' b = none) E s1) E s
  done : ∀ (X : Cx), X.prog = P → X.w = w → X.K = K → X.calm = true → ∀ (i : Nat) (pins : List (Addr × Obj)) (s : Shared) (σ : St) (H : Hp) (E : Value → Shared → Prop), Inv X pins σ H s → (∀ b ∈ fp, FpOk X pins H b) → tn i s.heap → J.stop i H →
    wpAny (model P w) X.A (pyNext (.ref it)) (fun r s1 => r = none ∧ Inv X pins σ H s1) E s
  self : ∀ (A : Around) (i : Nat) (s : Shared) (Q : Value → Shared → Prop) (E : Value → Shared → Prop), tn i s.heap → Q (.ref it) s → wpAny (model P w) A (pyIter (.ref it)) Q E s
abbrev TI := St → Hp → (It → Hp → Prop) → Prop
/-- an iterator has come -/
def PIE (X : Cx) (pins : List (Addr × Obj)) (σ : St) (tg : Expr) (R : It → Hp → Prop) (itv : Value) (s2 : Shared) : Prop :=
  ∃ (it : Addr) (fp : List Addr) (tn : Nat → Heap → Prop) (J : It) (H' : Hp), itv = .ref it ∧ Inv X pins σ H' s2 ∧ Turn X.prog X.w X.K tg J fp it tn ∧ tn 0 s2.heap ∧ (∀ b ∈ fp, FpOk X pins H' b) ∧ R J H'
def PI (X : Cx) (tg iter : Expr) (wi : TI) : Prop :=
  ∀ (pins : List (Addr × Obj)) (s : Shared) (σ : St) (H : Hp) (R : It → Hp → Prop), Inv X pins σ H s → wi σ H R →
    wpAny (model X.prog X.w) X.A (eval iter X.env) (fun v s1 => wpAny (model X.prog X.w) X.A (pyIter v) (PIE X pins σ tg R) X.xe s1) X.xe s

/-- the step ahead of the store is nothing for an iterator that keeps no tuple -/
theorem go_of {M : Model} {A : Around} {E : Value → Shared → Prop} {s : Shared} {tg : Expr} {it : Addr} {u : Value} {o : Obj} {n : String} {vs : Array Value} {Q : Unit → Shared → Prop} (ho : s.heap.get? it = some o) (hc : o.cls = .type n) (hd : o.data = .fields vs)
    (hn : ["enumerate", "zip", "dict_itemiterator", "dict_reverseitemiterator", "odict_iterator", "itertools.zip_longest", "itertools.pairwise"].contains n = false) (hQ : Q () s) : wpAny M A (letOwnedTupleGo tg (.ref it) u) Q E s := by
  unfold letOwnedTupleGo
  cases tg <;> first
    | exact wpAny_pure hQ
    | (cases u <;> first
        | exact wpAny_pure hQ
        | (refine wpAny_bind (wpAny_load ho ?_)
           rw [hc, hd]
           show wpAny M A (if (["enumerate", "zip", "dict_itemiterator", "dict_reverseitemiterator", "odict_iterator", "itertools.zip_longest", "itertools.pairwise"].contains n && vs[0]? == some (rawInt _)) = true then _ else _) Q E s
           rw [if_neg (by intro h; rw [hn, Bool.false_and] at h; cases h)]
           exact wpAny_pure hQ))

/-- the list at a, as it stands at each turn (a loop may append to it) -/
def Itl (K : PySem.W.Frag) (a : Addr) : It :=
  ⟨fun i H => ∃ xs x, SqL K H a xs ∧ xs[i]? = some x, fun i H x H' => H' = H ∧ ∀ xs, SqL K H a xs → xs[i]? = some x, fun i H => ∃ xs, SqL K H a xs ∧ xs.length ≤ i⟩
def Itt (K : PySem.W.Frag) (a : Addr) : It :=
  ⟨fun i H => ∃ xs x, SqT K H a xs ∧ xs[i]? = some x, fun i H x H' => H' = H ∧ ∀ xs, SqT K H a xs → xs[i]? = some x, fun i H => ∃ xs, SqT K H a xs ∧ xs.length ≤ i⟩
/-- lo, lo + 1, .. (n of them) -/
def Itr (lo : Int) (n : Nat) : It := ⟨fun i _ => i < n, fun i H x H' => H' = H ∧ x = .int (lo + i), fun i _ => n ≤ i⟩
theorem turn_list {P : Program} {w : World} {K : PySem.W.Frag} {tg : Expr} (a it : Addr) : Turn P w K tg (Itl K a) [it] it (fun i h => h.IsListIter it a i) where
  mem := by simp
  obj := fun i h st b hb => by
    have e : b = it := by simpa using hb
    subst e
    obtain ⟨o, e, c, d⟩ := st
    exact ⟨o, e, fun v z => by rw [d] at z; cases z⟩
  keep := fun i h h' st k => st.at fun o e => k it (by simp) o e
  item := by
    intro X hP hw hK hc i pins s σ H E I hf st hg
    subst hP hw hK
    obtain ⟨xs, x, hq, hx⟩ := hg
    obtain ⟨its, rv, p, hz⟩ := I.list hq
    obtain ⟨u, hu, ru⟩ := rv.get hx
    obtain ⟨f0, f1, f2, f3, f4, f5⟩ := hf it (by simp)
    refine wpAny_pyNext_list_item st p.isList (x := u) (by simpa using hu) fun h' st' sb => ?_
    have I1 : Inv X pins σ H { s with heap := h' } := I.turned (t' := s.toks) (fun b o hb e => (sb.2 b hb).trans e) f0 f1 f3 f4 f5
    obtain ⟨o, e, c, d⟩ := id st'
    exact ⟨u, rfl, go_of (s := { s with heap := h' }) e c d (by decide) ⟨x, H, I1, ru, ⟨rfl, fun ys hy => by rw [I.list_inj hy hq]; exact hx⟩, st', fun b hb => (hf b hb).1⟩⟩
  done := by
    intro X hP hw hK hc i pins s σ H E I hf st hg
    subst hP hw hK
    obtain ⟨xs, hq, hx⟩ := hg
    obtain ⟨its, rv, p, hz⟩ := I.list hq
    obtain ⟨f0, f1, f2, f3, f4, f5⟩ := hf it (by simp)
    have hl := rv.length
    exact wpAny_pyNext_list_end (I.ok.hd hc) st p.isList (by simp; omega) fun h' eb => ⟨rfl, I.turned (t' := s.toks) (fun b o hb e => eb b o hb e) f0 f1 f3 f4 f5⟩
  self := fun _ _ _ _ _ st h => wpAny_pyIter_listiter st h
theorem turn_tuple {P : Program} {w : World} {K : PySem.W.Frag} {tg : Expr} (a it : Addr) : Turn P w K tg (Itt K a) [it] it (fun i h => h.IsTupleIter it a i) where
  mem := by simp
  obj := fun i h st b hb => by
    have e : b = it := by simpa using hb
    subst e
    obtain ⟨o, e, c, d⟩ := st
    exact ⟨o, e, fun v z => by rw [d] at z; cases z⟩
  keep := fun i h h' st k => st.at fun o e => k it (by simp) o e
  item := by
    intro X hP hw hK hc i pins s σ H E I hf st hg
    subst hP hw hK
    obtain ⟨xs, x, hq, hx⟩ := hg
    obtain ⟨its, rv, p, hz⟩ := I.tuple hq
    obtain ⟨u, hu, ru⟩ := rv.get hx
    obtain ⟨f0, f1, f2, f3, f4, f5⟩ := hf it (by simp)
    refine wpAny_pyNext_tuple_item st (show s.heap.IsTuple a its.toArray from p) (x := u) (by simpa using hu) fun h' st' sb => ?_
    have I1 : Inv X pins σ H { s with heap := h' } := I.turned (t' := s.toks) (fun b o hb e => (sb.2 b hb).trans e) f0 f1 f3 f4 f5
    obtain ⟨o, e, c, d⟩ := id st'
    exact ⟨u, rfl, go_of (s := { s with heap := h' }) e c d (by decide) ⟨x, H, I1, ru, ⟨rfl, fun ys hy => by rw [I.tuple_inj hy hq]; exact hx⟩, st', fun b hb => (hf b hb).1⟩⟩
  done := by
    intro X hP hw hK hc i pins s σ H E I hf st hg
    subst hP hw hK
    obtain ⟨xs, hq, hx⟩ := hg
    obtain ⟨its, rv, p, hz⟩ := I.tuple hq
    obtain ⟨f0, f1, f2, f3, f4, f5⟩ := hf it (by simp)
    have hl := rv.length
    exact wpAny_pyNext_tuple_end (I.ok.hd hc) st (show s.heap.IsTuple a its.toArray from p) (by simp; omega) fun h' eb => ⟨rfl, I.turned (t' := s.toks) (fun b o hb e => eb b o hb e) f0 f1 f3 f4 f5⟩
  self := fun _ _ _ _ _ st h => wpAny_pyIter_tupleiter st h
theorem turn_range {P : Program} {w : World} {K : PySem.W.Frag} {tg : Expr} (it : Addr) (lo : Int) (n : Nat) : Turn P w K tg (Itr lo n) [it] it (fun i h => IsRangeIter h it (lo + (i : Nat) * 1) ((n : Int) - (i : Nat)) 1) where
  mem := by simp
  obj := fun i h st b hb => by
    have e : b = it := by simpa using hb
    subst e
    exact ⟨_, st, fun v z => by
      have z' : Data.fields _ = Data.cell v := z
      cases z'⟩
  keep := fun i h h' st k => k it (by simp) _ st
  item := by
    intro X hP hw hK hc i pins s σ H E I hf st hg
    subst hP hw hK
    obtain ⟨f0, f1, f2, f3, f4, f5⟩ := hf it (by simp)
    have W := Walks.range (prog := X.prog) (w := X.w) (I.ok.hd hc) it lo 1 n
    refine W.item i s _ _ hg st fun v h' tk hv st' kk => ?_
    obtain ⟨t, rfl⟩ := hv
    have I1 : Inv X pins σ H { s with heap := h', toks := tk } := I.turned (fun b o hb e => kk b o (by simpa using hb) e) f0 f1 f3 f4 f5
    refine ⟨_, rfl, go_of (s := { s with heap := h', toks := tk }) (n := "range_iterator") st' rfl rfl (by decide) ⟨.int (lo + i), H, I1, ⟨t, ?_⟩, ⟨rfl, rfl⟩, st', fun b hb => (hf b hb).1⟩⟩
    rw [Int.mul_one]
  done := by
    intro X hP hw hK hc i pins s σ H E I hf st hg
    subst hP hw hK
    obtain ⟨f0, f1, f2, f3, f4, f5⟩ := hf it (by simp)
    exact wpAny_pyNext_range_end (I.ok.hd hc) st (by have : n ≤ i := hg; omega) fun h' eb => ⟨rfl, I.turned (t' := s.toks) (fun b o hb e => eb b o hb e) f0 f1 f3 f4 f5⟩
  self := fun _ _ _ _ _ st h => wpAny_pyIter_rangeiter st h
end L2

namespace L2
open PySem PySem.Spec PyProof.Rows
section
variable {X : Cx} {tg : Expr}
def iList (K : PySem.W.Frag) (tl : TE) : TI := fun σ H R => tl σ H fun x H1 => ∃ a, x = .ref a ∧ (∃ xs, SqL K H1 a xs) ∧ R (Itl K a) H1
def iTup (K : PySem.W.Frag) (tl : TE) : TI := fun σ H R => tl σ H fun x H1 => ∃ a, x = .ref a ∧ (∃ xs, SqT K H1 a xs) ∧ R (Itt K a) H1
theorem pi_list {l : Expr} {tl : TE} (hl : PE X l tl) : PI X tg l (iList X.K tl) := by
  intro pins s σ H R I h
  refine thn (hl pins s σ H _ I h) fun v s1 ⟨x, H1, I1, r1, q1⟩ => ?_
  obtain ⟨a, e, ⟨xs, hq⟩, q⟩ := q1
  subst e
  cases r1
  obtain ⟨its, rv, p, hz⟩ := I1.list hq
  refine wpAny_pyIter_list p.isList ?_
  refine ⟨s1.heap.objs.size, [s1.heap.objs.size], _, _, H1, rfl, I1.kept (t' := s1.toks) fun b o e => Heap.get?_push_of_some _ e, turn_list a _, ⟨_, Heap.get?_push_size _ rfl, rfl, rfl⟩, fun b hb => ?_, q⟩
  have e : b = s1.heap.objs.size := by simpa using hb
  subst e
  exact I1.fpOk (Nat.le_refl _) (I1.hok.fresh (Nat.le_refl _))
theorem pi_tup {l : Expr} {tl : TE} (hl : PE X l tl) : PI X tg l (iTup X.K tl) := by
  intro pins s σ H R I h
  refine thn (hl pins s σ H _ I h) fun v s1 ⟨x, H1, I1, r1, q1⟩ => ?_
  obtain ⟨a, e, ⟨xs, hq⟩, q⟩ := q1
  subst e
  cases r1
  obtain ⟨its, rv, p, hz⟩ := I1.tuple hq
  refine wpAny_pyIter_tuple (show s1.heap.IsTuple a its.toArray from p) ?_
  refine ⟨s1.heap.objs.size, [s1.heap.objs.size], _, _, H1, rfl, I1.kept (t' := s1.toks) fun b o e => Heap.get?_push_of_some _ e, turn_tuple a _, ⟨_, Heap.get?_push_size _ rfl, rfl, rfl⟩, fun b hb => ?_, q⟩
  have e : b = s1.heap.objs.size := by simpa using hb
  subst e
  exact I1.fpOk (Nat.le_refl _) (I1.hok.fresh (Nat.le_refl _))
/-- a range object just made, walked -/
theorem range_it {pins : List (Addr × Obj)} {σ : St} {H : Hp} {s : Shared} {R : It → Hp → Prop} {E : Value → Shared → Prop} {lo hi : Int} {t u v : Tok} {tk : Nat} (I : Inv X pins σ H s) (h1 : -(2 ^ 62) ≤ lo) (h2 : lo < 2 ^ 62) (h3 : -(2 ^ 62) ≤ hi) (h4 : hi < 2 ^ 62)
    (q : R (Itr lo (hi - lo).toNat) H) : wpAny (model X.prog X.w) X.A (pyIter (.ref s.heap.objs.size)) (PIE X pins σ tg R) E { s with heap := s.heap.push { cls := .type "range", data := .fields #[.int lo t, .int hi u, .int 1 v] }, toks := tk } := by
  refine wpAny_pyIter_range (IsRange.new ..) (small_one h1 h2 h3 h4) ?_
  have I1 : Inv X pins σ H { s with heap := s.heap.push { cls := .type "range", data := .fields #[.int lo t, .int hi u, .int 1 v] }, toks := tk } := I.kept fun b o e => Heap.get?_push_of_some _ e
  refine ⟨(s.heap.push { cls := .type "range", data := .fields #[.int lo t, .int hi u, .int 1 v] }).objs.size, [(s.heap.push { cls := .type "range", data := .fields #[.int lo t, .int hi u, .int 1 v] }).objs.size], _, _, H, rfl,
    I1.kept (t' := tk) fun b o e => Heap.get?_push_of_some _ e, turn_range _ lo (hi - lo).toNat, ?_, fun b hb => ?_, q⟩
  · have e1 : lo + ((0 : Nat) : Int) * 1 = lo := by simp
    have e2 : (((hi - lo).toNat : Nat) : Int) - ((0 : Nat) : Int) = Builtin.Range.rangeSize lo hi 1 := by rw [rangeSize_one]; split <;> omega
    show IsRangeIter _ _ (lo + ((0 : Nat) : Int) * 1) ((((hi - lo).toNat : Nat) : Int) - ((0 : Nat) : Int)) 1
    rw [e1, e2]
    exact Heap.get?_push_size _ rfl
  · have e : b = (s.heap.push { cls := .type "range", data := .fields #[.int lo t, .int hi u, .int 1 v] }).objs.size := by simpa using hb
    subst e
    exact I1.fpOk (Nat.le_refl _) (I1.hok.fresh (Nat.le_refl _))
def iRng1 (ta : TA) : TI := fun σ H R => ta σ H fun vs H1 => ∃ j : Int, vs = [.int j] ∧ -(2 ^ 62) ≤ j ∧ j < 2 ^ 62 ∧ R (Itr 0 j.toNat) H1
theorem pi_range1 {a : Expr} {ta : TA} {p pos : Pos} (hg : Gl X "range") (hm : X.mg "range" = none) (ha : PA X [a] ta) (hs : starEach [a] X.env = [(false, eval a X.env)] := by rfl) : PI X tg (.Call (.Name "range" p) [a] [] pos) (iRng1 ta) := by
  intro pins s σ H R I h
  refine Call_ (ld_blt I hg hm boot_range (PyProof.Rows.callWith_type1 (thn (ha pos pins s σ H _ I h) fun us s1 ⟨vs, H1, I1, r1, q1⟩ => ?_) hs rfl))
  obtain ⟨j, e, q1, q2, q⟩ := q1
  subst e
  cases r1 with
  | cons r rr =>
    cases rr
    obtain ⟨t, rfl⟩ := r
    exact call_range_1 (range_it I1 (by omega) (by omega) q1 q2 (by simpa using q))
/-! ### for -/
/-- W: the invariant by the turn and a measure; N: what the body is to reach -/
def tFor (wi : TI) (g : TG) (tb : TS) : TS := fun D σ H => wi σ H fun J H1 => ∃ W : Nat → Nat → St → Hp → Prop, (∃ m, W 0 m σ H1) ∧ ∀ i m σ H, W i m σ H →
  (J.stop i H ∧ D.nx σ H) ∨ (J.go i H ∧ ∃ N : St → Hp → Prop, (∀ σ' H', N σ' H' → ∃ m', m' < m ∧ W (i + 1) m' σ' H') ∧ ∀ x H', J.yld i H x H' → g x σ H' fun σ2 H2 => tb { D with nx := N, ct := N, bk := D.nx } σ2 H2)
/-- the records at fp as they stand -/
def pinsAt (fp : List Addr) (h : Heap) : List (Addr × Obj) := fp.filterMap fun b => (h.get? b).map fun o => (b, o)
theorem mem_pinsAt {fp : List Addr} {h : Heap} {b : Addr} {o : Obj} (hb : b ∈ fp) (e : h.get? b = some o) : (b, o) ∈ pinsAt fp h := List.mem_filterMap.mpr ⟨b, hb, by rw [e]; rfl⟩
theorem of_pinsAt {fp : List Addr} {h : Heap} {p : Addr × Obj} (hp : p ∈ pinsAt fp h) : p.1 ∈ fp ∧ h.get? p.1 = some p.2 := by
  obtain ⟨b, hb, e⟩ := List.mem_filterMap.mp hp
  cases q : h.get? b with
  | none => rw [q] at e; cases e
  | some o =>
    rw [q] at e
    have e' : (b, o) = p := Option.some.inj e
    subst e'
    exact ⟨hb, q⟩
theorem Inv.pinned {pins : List (Addr × Obj)} {σ : St} {H : Hp} {s : Shared} {fp : List Addr} (I : Inv X pins σ H s) (hf : ∀ b ∈ fp, FpOk X pins H b) (ho : ∀ b ∈ fp, ∃ o, s.heap.get? b = some o ∧ ∀ v, o.data ≠ .cell v) : Inv X (pins ++ pinsAt fp s.heap) σ H s :=
  I.pins_of fun p hp => (List.mem_append.mp hp).elim (fun z => I.pin p (List.mem_append_right _ z)) fun z => by
    obtain ⟨hb, e⟩ := of_pinsAt z
    obtain ⟨f0, f1, f2, _⟩ := hf p.1 hb
    obtain ⟨o, e', d⟩ := ho p.1 hb
    rw [e] at e'; cases e'
    exact ⟨e, f0, f1, f2, d⟩
theorem Inv.unpinned {pins pl : List (Addr × Obj)} {σ : St} {H : Hp} {s : Shared} (I : Inv X (pins ++ pl) σ H s) : Inv X pins σ H s := I.pins_of fun p hp => I.pin p (List.mem_append_right _ (List.mem_append_left _ hp))
theorem ps_for {iter : Expr} {body : List Stmt} {wi : TI} {g : TG} {tb : TS} {pos : Pos} (hp : PassesOwn (model X.prog X.w) X.A X.env X.xe) (hc : X.calm = true) (hi : PI X tg iter wi) (hg : PG X tg g) (hb : PSs X body tb)
    (hs : ∀ x, foldedSetIterable iter X.env x = pure x := by intro _; rfl) : PS X (.For tg iter body [] pos) (tFor wi g tb) := by
  intro pins s σ H D I h
  refine wpAny_For (thn (hi pins s σ H _ I h) fun v s1 h1 => thn h1 fun itv s2 h2 => ?_) hs
  obtain ⟨it, fp, tn, J, H2, e, I2, T, st2, f2, W, ⟨m0, w0⟩, turn⟩ := h2
  subst e
  -- what stays true of the iterator's objects through the loop
  have stat : ∀ {H' : Hp}, (∀ b ∈ fp, H' b = none) → ∀ b ∈ fp, FpOk X pins H' b := fun hn b hb => ⟨hn b hb, (f2 b hb).2⟩
  refine codeAny_forLoop_any (fun n s' => ∃ i σ' H', Inv X pins σ' H' s' ∧ tn i s'.heap ∧ (∀ b ∈ fp, H' b = none) ∧ W i n σ' H') ?_ m0 ⟨0, σ, H2, I2, st2, fun b hb => (f2 b hb).1, w0⟩
  rintro n s3 ⟨i, σ3, H3, I3, st3, fr3, w3⟩
  rcases turn i n σ3 H3 w3 with ⟨stop, qn⟩ | ⟨go, N, hN, step⟩
  · refine wpAny_passesOwn hp (thn (T.done X rfl rfl rfl hc i pins s3 σ3 H3 X.xe I3 (stat fr3) st3 stop) fun r s4 ⟨hr, I4⟩ => ?_)
    subst hr
    exact wpAny_execs_nil ⟨σ3, H3, I4, qn⟩
  · refine wpAny_passesOwn hp (thn (T.item X rfl rfl rfl hc i pins s3 σ3 H3 X.xe I3 (stat fr3) st3 go) fun r s4 ⟨u, hr, h4⟩ => ?_)
    subst hr
    refine wpAny_passesOwn hp (thn h4 fun _ s5 ⟨x, H5, I5, r5, y5, st5, fr5⟩ => ?_)
    have I5' := I5.pinned (stat fr5) (T.obj _ _ st5)
    refine wpAny_passesOwn hp (thn (hg _ s5 σ3 H5 x u _ I5' r5 (step x H5 y5)) fun _ s6 ⟨σ6, H6, I6, q6⟩ => ?_)
    refine wpAny_passesOwn hp (thn (hb _ s6 σ6 H6 _ I6 q6) fun f s7 q7 => ?_)
    have again : ∀ {σ7 : St} {H7 : Hp}, Inv X (pins ++ pinsAt fp s5.heap) σ7 H7 s7 → N σ7 H7 → ∃ m, m < n ∧ ∃ i σ' H', Inv X pins σ' H' s7 ∧ tn i s7.heap ∧ (∀ b ∈ fp, H' b = none) ∧ W i m σ' H' := fun {σ7 H7} I7 n7 => by
      obtain ⟨m', hm, w7⟩ := hN σ7 H7 n7
      refine ⟨m', hm, i + 1, σ7, H7, I7.unpinned, T.keep _ _ _ st5 fun b hb o e => (I7.pin (b, o) (List.mem_append_right _ (List.mem_append_right _ (mem_pinsAt hb e)))).1, fun b hb => ?_, w7⟩
      obtain ⟨o, e, d⟩ := T.obj _ _ st5 b hb
      exact (I7.pin (b, o) (List.mem_append_right _ (List.mem_append_right _ (mem_pinsAt hb e)))).2.1
    cases f with
    | next => obtain ⟨σ7, H7, I7, n7⟩ := q7; exact again I7 n7
    | cont => obtain ⟨σ7, H7, I7, n7⟩ := q7; exact again I7 n7
    | brk => obtain ⟨σ7, H7, I7, q7⟩ := q7; exact ⟨σ7, H7, I7.unpinned, q7⟩
    | ret v => obtain ⟨x7, σ7, H7, I7, r7, q7⟩ := q7; exact ⟨x7, σ7, H7, I7.unpinned, r7, q7⟩
end

/-! ### the forms one uses -/
/-- over a list that the body leaves as it is -/
theorem for_list {K : PySem.W.Frag} {a : Addr} {xs : List V} {g : TG} {tb : TS} {D : Ends} {σ : St} {H : Hp} (Pv : Nat → St → Hp → Prop) (h0 : Pv 0 σ H) (hl : ∀ i σ H, i ≤ xs.length → Pv i σ H → SqL K H a xs)
    (hs : ∀ i x σ H, xs[i]? = some x → Pv i σ H → g x σ H fun σ2 H2 => tb { D with nx := Pv (i + 1), ct := Pv (i + 1), bk := D.nx } σ2 H2) (hd : ∀ σ H, Pv xs.length σ H → D.nx σ H) :
    ∃ W : Nat → Nat → St → Hp → Prop, (∃ m, W 0 m σ H) ∧ ∀ i m σ H, W i m σ H →
      ((Itl K a).stop i H ∧ D.nx σ H) ∨ ((Itl K a).go i H ∧ ∃ N : St → Hp → Prop, (∀ σ' H', N σ' H' → ∃ m', m' < m ∧ W (i + 1) m' σ' H') ∧ ∀ x H', (Itl K a).yld i H x H' → g x σ H' fun σ2 H2 => tb { D with nx := N, ct := N, bk := D.nx } σ2 H2) := by
  refine ⟨fun i m σ H => m = xs.length - i ∧ i ≤ xs.length ∧ Pv i σ H, ⟨xs.length, by simp, Nat.zero_le _, h0⟩, ?_⟩
  rintro i m σ H ⟨rfl, hi, p⟩
  have q := hl i σ H hi p
  by_cases hlt : i < xs.length
  · refine .inr ⟨⟨xs, xs[i], q, by simp [hlt]⟩, Pv (i + 1), fun σ' H' p' => ⟨xs.length - (i + 1), by omega, rfl, hlt, p'⟩, fun x H' y => ?_⟩
    obtain ⟨e, y⟩ := y
    subst e
    exact hs i x σ _ (y xs q) p
  · have e : i = xs.length := by omega
    subst e
    exact .inl ⟨⟨xs, q, Nat.le_refl _⟩, hd σ H p⟩
theorem for_tup {K : PySem.W.Frag} {a : Addr} {xs : List V} {g : TG} {tb : TS} {D : Ends} {σ : St} {H : Hp} (Pv : Nat → St → Hp → Prop) (h0 : Pv 0 σ H) (hl : ∀ i σ H, i ≤ xs.length → Pv i σ H → SqT K H a xs)
    (hs : ∀ i x σ H, xs[i]? = some x → Pv i σ H → g x σ H fun σ2 H2 => tb { D with nx := Pv (i + 1), ct := Pv (i + 1), bk := D.nx } σ2 H2) (hd : ∀ σ H, Pv xs.length σ H → D.nx σ H) :
    ∃ W : Nat → Nat → St → Hp → Prop, (∃ m, W 0 m σ H) ∧ ∀ i m σ H, W i m σ H →
      ((Itt K a).stop i H ∧ D.nx σ H) ∨ ((Itt K a).go i H ∧ ∃ N : St → Hp → Prop, (∀ σ' H', N σ' H' → ∃ m', m' < m ∧ W (i + 1) m' σ' H') ∧ ∀ x H', (Itt K a).yld i H x H' → g x σ H' fun σ2 H2 => tb { D with nx := N, ct := N, bk := D.nx } σ2 H2) := by
  refine ⟨fun i m σ H => m = xs.length - i ∧ i ≤ xs.length ∧ Pv i σ H, ⟨xs.length, by simp, Nat.zero_le _, h0⟩, ?_⟩
  rintro i m σ H ⟨rfl, hi, p⟩
  have q := hl i σ H hi p
  by_cases hlt : i < xs.length
  · refine .inr ⟨⟨xs, xs[i], q, by simp [hlt]⟩, Pv (i + 1), fun σ' H' p' => ⟨xs.length - (i + 1), by omega, rfl, hlt, p'⟩, fun x H' y => ?_⟩
    obtain ⟨e, y⟩ := y
    subst e
    exact hs i x σ _ (y xs q) p
  · have e : i = xs.length := by omega
    subst e
    exact .inl ⟨⟨xs, q, Nat.le_refl _⟩, hd σ H p⟩
theorem for_range {lo : Int} {n : Nat} {g : TG} {tb : TS} {D : Ends} {σ : St} {H : Hp} (Pv : Nat → St → Hp → Prop) (h0 : Pv 0 σ H)
    (hs : ∀ i σ H, i < n → Pv i σ H → g (.int (lo + i)) σ H fun σ2 H2 => tb { D with nx := Pv (i + 1), ct := Pv (i + 1), bk := D.nx } σ2 H2) (hd : ∀ σ H, Pv n σ H → D.nx σ H) :
    ∃ W : Nat → Nat → St → Hp → Prop, (∃ m, W 0 m σ H) ∧ ∀ i m σ H, W i m σ H →
      ((Itr lo n).stop i H ∧ D.nx σ H) ∨ ((Itr lo n).go i H ∧ ∃ N : St → Hp → Prop, (∀ σ' H', N σ' H' → ∃ m', m' < m ∧ W (i + 1) m' σ' H') ∧ ∀ x H', (Itr lo n).yld i H x H' → g x σ H' fun σ2 H2 => tb { D with nx := N, ct := N, bk := D.nx } σ2 H2) := by
  refine ⟨fun i m σ H => m = n - i ∧ i ≤ n ∧ Pv i σ H, ⟨n, by simp, Nat.zero_le _, h0⟩, ?_⟩
  rintro i m σ H ⟨rfl, hi, p⟩
  by_cases hlt : i < n
  · refine .inr ⟨hlt, Pv (i + 1), fun σ' H' p' => ⟨n - (i + 1), by omega, rfl, hlt, p'⟩, fun x H' y => ?_⟩
    obtain ⟨e, y⟩ := y
    subst e y
    exact hs i σ _ hlt p
  · have e : i = n := by omega
    subst e
    exact .inl ⟨Nat.le_refl _, hd σ H p⟩
end L2

namespace L2
open PySem PySem.Spec PyProof.Rows

abbrev R2 := V → V → Hp → VK → Prop
/-- a two-place operation on values: f is binaryOp op, inplaceOp op or compareOp op -/
def OpR (X : Cx) (f : Value → Value → Sem Value) (r : R2) : Prop :=
  ∀ (pins : List (Addr × Obj)) (s : Shared) (σ : St) (H : Hp) (x y : V) (v u : Value) (Q : VK), Inv X pins σ H s → RelV x v → RelV y u → r x y H Q →
    wpAny (model X.prog X.w) X.A (f v u) (EP X pins σ Q) X.xe s
/-- a call of a value that is known (a builtin, a type) with values -/
def CallR (X : Cx) (f : Value) (r : List V → Hp → VK → Prop) : Prop :=
  ∀ (pins : List (Addr × Obj)) (s : Shared) (σ : St) (H : Hp) (xs : List V) (us : List Value) (Q : VK), Inv X pins σ H s → Vals xs us → r xs H Q →
    wpAny (model X.prog X.w) X.A (call f us) (EP X pins σ Q) X.xe s
/-- a value's truth -/
def TruR (X : Cx) (r : V → Hp → (Bool → Hp → Prop) → Prop) : Prop :=
  ∀ (pins : List (Addr × Obj)) (s : Shared) (σ : St) (H : Hp) (x : V) (v : Value) (Q : Bool → Hp → Prop), Inv X pins σ H s → RelV x v → r x H Q →
    wpAny (model X.prog X.w) X.A (truthy v) (TP X pins σ Q) X.xe s

def tOp (r : R2) (ta tb : TE) : TE := fun σ H Q => ta σ H fun x H1 => tb σ H1 fun y H2 => r x y H2 Q
/-- ints in, under C, and a value out -/
def rI (C : Int → Int → Prop) (g : Int → Int → V) : R2 := fun x y H Q => ∃ i j, x = .int i ∧ y = .int j ∧ C i j ∧ Q (g i j) H
def rI0 (g : Int → Int → V) : R2 := fun x y H Q => ∃ i j, x = .int i ∧ y = .int j ∧ Q (g i j) H
section
variable {X : Cx} {a b c : Expr} {ta tb tc : TE} {pos : Pos}

theorem binT (ha : PE X a ta) (hb : PE X b tb) {pins : List (Addr × Obj)} {s : Shared} {σ : St} {H : Hp} {R : V → V → Hp → Prop} (I : Inv X pins σ H s)
    (h : ta σ H fun x H1 => tb σ H1 fun y H2 => R x y H2) {Q : Value → Shared → Prop} {f : Value → Value → Sem Value}
    (hf : ∀ v u s2 x y H2, Inv X pins σ H2 s2 → RelV x v → RelV y u → R x y H2 → wpAny (model X.prog X.w) X.A (f v u) Q X.xe s2) :
    wpAny (model X.prog X.w) X.A (eval a X.env) (fun v s₁ => wpAny (model X.prog X.w) X.A (eval b X.env) (fun u s₂ => wpAny (model X.prog X.w) X.A (f v u) Q X.xe s₂) X.xe s₁) X.xe s := by
  refine thn (ha pins s σ H _ I h) fun v s1 ⟨x, H1, I1, r1, q1⟩ => ?_
  refine thn (hb pins s1 σ H1 _ I1 q1) fun u s2 ⟨y, H2, I2, r2, q2⟩ => ?_
  exact hf v u s2 x y H2 I2 r1 r2 q2

theorem pe_op {op : Operator} {r : R2} (ho : OpR X (binaryOp op) r) (ha : PE X a ta) (hb : PE X b tb) : PE X (.BinOp a op b pos) (tOp r ta tb) := by
  intro pins s σ H Q I h
  exact wpAny_BinOp (binT ha hb I h fun v u s2 x y H2 I2 rx ry q => ho pins s2 σ H2 x y v u Q I2 rx ry q)
/-! ### ints -/
theorem opI {f : Value → Value → Sem Value} {C : Int → Int → Prop} {g : Int → Int → Int}
    (rule : ∀ (i j : Int) (t u : Tok) (s : Shared) (Q : Value → Shared → Prop) (E : Value → Shared → Prop), C i j → Q (.int (g i j) s.toks) { s with toks := s.toks + 1 } → wpAny (model X.prog X.w) X.A (f (.int i t) (.int j u)) Q E s) :
    OpR X f (rI C fun i j => .int (g i j)) := by
  intro pins s σ H x y v u Q I rx ry h
  obtain ⟨i, j, rfl, rfl, hc, q⟩ := h
  obtain ⟨t, rfl⟩ := rx
  obtain ⟨t', rfl⟩ := ry
  exact rule i j t t' s _ _ hc ⟨.int (g i j), H, I.tok _, ⟨_, rfl⟩, q⟩
theorem opI0 {f : Value → Value → Sem Value} {g : Int → Int → Int}
    (rule : ∀ (i j : Int) (t u : Tok) (s : Shared) (Q : Value → Shared → Prop) (E : Value → Shared → Prop), Q (.int (g i j) s.toks) { s with toks := s.toks + 1 } → wpAny (model X.prog X.w) X.A (f (.int i t) (.int j u)) Q E s) :
    OpR X f (rI0 fun i j => .int (g i j)) := by
  intro pins s σ H x y v u Q I rx ry h
  obtain ⟨i, j, rfl, rfl, q⟩ := h
  obtain ⟨t, rfl⟩ := rx
  obtain ⟨t', rfl⟩ := ry
  exact rule i j t t' s _ _ ⟨.int (g i j), H, I.tok _, ⟨_, rfl⟩, q⟩
theorem opB0 {f : Value → Value → Sem Value} {g : Int → Int → Bool}
    (rule : ∀ (i j : Int) (t u : Tok) (s : Shared) (Q : Value → Shared → Prop) (E : Value → Shared → Prop), Q (.bool (g i j)) s → wpAny (model X.prog X.w) X.A (f (.int i t) (.int j u)) Q E s) :
    OpR X f (rI0 fun i j => .bl (g i j)) := by
  intro pins s σ H x y v u Q I rx ry h
  obtain ⟨i, j, rfl, rfl, q⟩ := h
  obtain ⟨t, rfl⟩ := rx
  obtain ⟨t', rfl⟩ := ry
  exact rule i j t t' s _ _ ⟨.bl (g i j), H, I, rfl, q⟩

def CPow (i j : Int) : Prop := 0 ≤ j ∧ j ≤ 1000000 ∧ i.natAbs < 2 ^ 64
def CMul (i j : Int) : Prop := (-(2 ^ 64) < i ∧ i < 2 ^ 64) ∨ (-(2 ^ 64) < j ∧ j < 2 ^ 64)
theorem CMul.ok {i j : Int} (h : CMul i j) : IntMulOk i j := by
  rcases h with ⟨h1, h2⟩ | ⟨h1, h2⟩
  · exact .of_left (intBits_le_64 h1 h2)
  · exact .of_right (intBits_le_64 h1 h2)
theorem op_add : OpR X (binaryOp .Add) (rI0 fun i j => .int (i + j)) := opI0 fun _ _ _ _ _ _ _ q => add_int q
theorem op_sub : OpR X (binaryOp .Sub) (rI0 fun i j => .int (i - j)) := opI0 fun _ _ _ _ _ _ _ q => sub_int q
theorem op_mul : OpR X (binaryOp .Mult) (rI CMul fun i j => .int (i * j)) := opI fun _ _ _ _ _ _ _ hc q => mul_int q hc.ok
/-- % by a positive divisor of any size -/
theorem op_mod : OpR X (binaryOp .Mod) (rI (fun _ j => 0 < j) fun i j => .int (i % j)) := opI fun i j _ _ _ _ _ hc q => by
  have h1 : (0 : Int) < j := hc
  exact mod_int' (by omega) (by rw [Int.fmod_eq_emod_of_nonneg i (by omega)]; exact q)
theorem op_pow : OpR X (binaryOp .Pow) (rI CPow fun i j => .int (i ^ j.toNat)) := opI fun _ _ _ _ _ _ _ hc q => pow_int_small hc.1 hc.2.1 hc.2.2 q
/-! ### bools among ints: n += (a < b) -/
end

/-! ### comparisons -/
/-- the scalars that == tells apart as data does -/
def scal : V → V → Bool
  | .non, .non => true | .non, .int _ => true | .int _, .non => true | .non, .bl _ => true | .bl _, .non => true | .non, .str _ => true | .str _, .non => true
  | .int _, .int _ => true | .bl _, .bl _ => true | .str _, .str _ => true | .byt _, .byt _ => true
  | .int _, .str _ => true | .str _, .int _ => true | .bl _, .str _ => true | .str _, .bl _ => true
  | _, _ => false
def rEq : R2 := fun x y H Q => scal x y = true ∧ Q (.bl (decide (x = y))) H
theorem dec_int {i j : Int} : decide (V.int i = V.int j) = (i == j) := by
  rw [Bool.eq_iff_iff]
  simp
theorem dec_bl {i j : Bool} : decide (V.bl i = V.bl j) = (i == j) := by
  rw [Bool.eq_iff_iff]
  simp
theorem dec_str {i j : Str} : decide (V.str i = V.str j) = (i == j) := by
  rw [Bool.eq_iff_iff]
  simp
theorem dec_byt {i j : Array UInt8} : decide (V.byt i = V.byt j) = (i.toList == j.toList) := by
  rw [Bool.eq_iff_iff]
  cases i
  cases j
  simp

section
variable {X : Cx} {a b c : Expr} {ta tb tc : TE} {pos : Pos}
theorem fin_bl {pins : List (Addr × Obj)} {σ : St} {H : Hp} {s : Shared} {Q : VK} {k k' : Bool} (I : Inv X pins σ H s) (q : Q (.bl k) H) (e : k = k') : EP X pins σ Q (.bool k') s := by
  subst e
  exact ⟨.bl k, H, I, rfl, q⟩
theorem op_eq : OpR X (compareOp .Eq) rEq := by
  intro pins s σ H x y v u Q I rx ry h
  obtain ⟨hs, q⟩ := h
  cases x with
  | non =>
    cases rx
    cases y with
    | non => cases ry; exact PySem.EqNone.eq_none_none (fin_bl I q (by simp))
    | bl j => cases ry; exact PySem.EqNone.eq_none_bool (fin_bl I q (by simp))
    | int j => obtain ⟨t', rfl⟩ := ry; exact PySem.EqNone.eq_none_int (fin_bl I q (by simp))
    | str j => obtain ⟨t', rfl⟩ := ry; exact PySem.EqNone.eq_none_str (fin_bl I q (by simp))
    | _ => exact absurd (show false = true from hs) Bool.false_ne_true
  | bl i =>
    cases rx
    cases y with
    | non => cases ry; exact PySem.EqNone.eq_bool_none (fin_bl I q (by simp))
    | bl j => cases ry; exact eq_bool (fin_bl I q dec_bl)
    | str j => obtain ⟨t', rfl⟩ := ry; exact PySem.EqMixed.eq_bool_str (fin_bl I q (by simp))
    | _ => exact absurd (show false = true from hs) Bool.false_ne_true
  | int i =>
    obtain ⟨t, rfl⟩ := rx
    cases y with
    | non => cases ry; exact PySem.EqNone.eq_int_none (fin_bl I q (by simp))
    | int j => obtain ⟨t', rfl⟩ := ry; exact eq_int (fin_bl I q dec_int)
    | str j => obtain ⟨t', rfl⟩ := ry; exact PySem.EqMixed.eq_int_str (fin_bl I q (by simp))
    | _ => exact absurd (show false = true from hs) Bool.false_ne_true
  | str i =>
    obtain ⟨t, rfl⟩ := rx
    cases y with
    | non => cases ry; exact PySem.EqNone.eq_str_none (fin_bl I q (by simp))
    | bl j => cases ry; exact PySem.EqMixed.eq_str_bool (fin_bl I q (by simp))
    | int j => obtain ⟨t', rfl⟩ := ry; exact PySem.EqMixed.eq_str_int (fin_bl I q (by simp))
    | str j => obtain ⟨t', rfl⟩ := ry; exact eq_str (fin_bl I q dec_str)
    | _ => exact absurd (show false = true from hs) Bool.false_ne_true
  | byt i =>
    obtain ⟨t, rfl⟩ := rx
    cases y with
    | byt j => obtain ⟨t', rfl⟩ := ry; exact PySem.W.eq_bytes (fin_bl I q dec_byt)
    | _ => exact absurd (show false = true from hs) Bool.false_ne_true
  | _ => cases y <;> exact absurd (show false = true from hs) Bool.false_ne_true
theorem op_lt : OpR X (compareOp .Lt) (rI0 fun i j => .bl (decide (i < j))) := opB0 fun _ _ _ _ _ _ _ q => lt_int q
theorem op_gt : OpR X (compareOp .Gt) (rI0 fun i j => .bl (decide (j < i))) := opB0 fun _ _ _ _ _ _ _ q => gt_int q
theorem op_ge : OpR X (compareOp .GtE) (rI0 fun i j => .bl (decide (j ≤ i))) := opB0 fun _ _ _ _ _ _ _ q => ge_int q
theorem nomark (b : Expr) {op : CmpOp} (h : op ≠ .In := by decide) (h2 : op ≠ .NotIn := by decide) : behindInMarks op b = false := by
  have e1 : (op == CmpOp.In) = false := by cases op <;> first | rfl | exact absurd rfl h
  have e2 : (op == CmpOp.NotIn) = false := by cases op <;> first | rfl | exact absurd rfl h2
  cases b <;> simp [behindInMarks, e1, e2]
/-- a comparison as a value; hm: nomark b, or (for in, not in) by with_unfolding_all rfl -/
theorem pe_cmpR {op : CmpOp} {r : R2} (ho : OpR X (compareOp op) r) (ha : PE X a ta) (hb : PE X b tb) (hm : behindInMarks op b = false) : PE X (.Compare a [op] [b] pos) (tOp r ta tb) := by
  intro pins s σ H Q I h
  exact wpAny_Compare1 (binT ha hb I h fun v u s2 x y H2 I2 rx ry q => ho pins s2 σ H2 x y v u Q I2 rx ry q) hm
/-- a reading of a value as a test -/
def tTest (t : TE) : TT := fun σ H Q => t σ H fun x H' => ∃ k, x = .bl k ∧ Q k H'
theorem pt_cmpR {op : CmpOp} {r : R2} (ho : OpR X (compareOp op) r) (ha : PE X a ta) (hb : PE X b tb) (hm : behindInMarks op b = false) : PT X (.Compare a [op] [b] pos) (tTest (tOp r ta tb)) := by
  intro pins s σ H Q I h
  refine wpAny_isTrue_Compare1 (thn (ha pins s σ H _ I h) fun v s1 ⟨x, H1, I1, r1, q1⟩ => thn (hb pins s1 σ H1 _ I1 q1) fun u s2 ⟨y, H2, I2, r2, q2⟩ =>
    thn (ho pins s2 σ H2 x y v u _ I2 r1 r2 q2) fun c s3 ⟨z, H3, I3, r3, k, e, q3⟩ => ?_) hm
  subst e
  cases r3
  exact wpAny_truthy_bool ⟨H3, I3, q3⟩
/-! ### truth -/
/-- a value's truth by the abstract heap -/
def TruV (K : PySem.W.Frag) (x : V) (H : Hp) (k : Bool) : Prop :=
  match x with
  | .non => k = false
  | .bl b => k = b
  | .int i => k = (i != 0)
  | .str y => y.length ≤ sizeLine ∧ k = ((y.length : Int) != 0)
  | .byt y => y.size ≤ sizeLine ∧ k = ((y.size : Int) != 0)
  | .ref p => (∃ xs, SqL K H p xs ∧ k = !xs.isEmpty) ∨ (∃ xs, SqT K H p xs ∧ k = !xs.isEmpty) ∨ ∃ kvs, H p = some (.dK kvs) ∧ k = !kvs.isEmpty
  | _ => False
theorem isEmpty_kv {κ : Type} {kvs : List (κ × V)} {vs : List (κ × Value)} (r : KV kvs vs) : (!vs.isEmpty) = !kvs.isEmpty := by
  cases r <;> rfl
theorem isEmpty_of {xs : List V} {its : List Value} (r : Vals xs its) : (!its.toArray.isEmpty) = !xs.isEmpty := by
  cases r <;> simp
theorem line63 : (sizeLine : Nat) < 2 ^ 63 := by rw [sizeLine_eq]; decide
theorem tru_ok : TruR X (fun x H Q => ∃ k, TruV X.K x H k ∧ Q k H) := by
  intro pins s σ H x v Q I rx h
  obtain ⟨k, e, q⟩ := h
  have hl := line63
  have hs : sizeLine = 16777216 := sizeLine_eq
  cases x with
  | non =>
    cases rx
    have e' : k = false := e
    subst e'
    exact truthy_none ⟨H, I, q⟩
  | bl b =>
    cases rx
    have e' : k = b := e
    subst e'
    exact wpAny_truthy_bool ⟨H, I, q⟩
  | int i =>
    obtain ⟨t, rfl⟩ := rx
    have e' : k = (i != 0) := e
    subst e'
    exact PySem.P.truthy_int ⟨H, I, q⟩
  | str y =>
    obtain ⟨t, rfl⟩ := rx
    obtain ⟨hy, e'⟩ : y.length ≤ sizeLine ∧ k = ((y.length : Int) != 0) := e
    subst e'
    exact PySem.P.truthy_str (by omega) ⟨H, I.tok _, q⟩
  | byt y =>
    obtain ⟨t, rfl⟩ := rx
    obtain ⟨hy, e'⟩ : y.size ≤ sizeLine ∧ k = ((y.size : Int) != 0) := e
    subst e'
    exact PySem.W.truthy_bytes (by omega) ⟨H, I.tok _, q⟩
  | ref p =>
    cases rx
    have e' : (∃ xs, SqL X.K H p xs ∧ k = !xs.isEmpty) ∨ (∃ xs, SqT X.K H p xs ∧ k = !xs.isEmpty) ∨ ∃ kvs, H p = some (.dK kvs) ∧ k = !kvs.isEmpty := e
    rcases e' with ⟨xs, hx, e'⟩ | ⟨xs, hx, e'⟩ | ⟨kvs, hx, e'⟩
    · subst e'
      obtain ⟨its, r, pl, hz⟩ := I.list hx
      have hlen := r.length
      exact wpAny_truthy_list pl.isList (by simp only [List.size_toArray]; omega) ⟨H, I.tok _, by rw [isEmpty_of r]; exact q⟩
    · subst e'
      obtain ⟨its, r, pl, hz⟩ := I.tuple hx
      have hlen := r.length
      exact truthy_tuple pl (by simp only [List.size_toArray]; omega) ⟨H, I.tok _, by rw [isEmpty_of r]; exact q⟩
    · subst e'
      obtain ⟨hz, hS, vs, r, m⟩ : kvs.length ≤ sizeLine ∧ (p == sysModules) = false ∧ ∃ vs, KV kvs vs ∧ s.heap.DictOf (mixKind X.prog X.w) p vs := I.hok p _ hx
      have hlen : kvs.length = vs.length := Paired.length r
      exact wpAny_truthy_dict hS m (by omega) ⟨H, I.tok _, by rw [isEmpty_kv r]; exact q⟩
  | _ => exact (show False from e).elim
/-- any expression whose test is its value's truth (a name, a call, a subscript, a field ..: he by fun _ => rfl) -/
theorem pt_truth (ha : PE X a ta) (he : ∀ whole, isTrue a X.env whole = (do let v ← whole; standAt a.pos; holding [v] (truthy v))) :
    PT X a (fun σ H Q => ta σ H fun x H' => ∃ k, TruV X.K x H' k ∧ Q k H') := by
  intro pins s σ H Q I h
  exact isTrue_plain (thn (ha pins s σ H _ I h) fun v s1 ⟨x, H1, I1, r1, q1⟩ => tru_ok pins s1 σ H1 x v Q I1 r1 q1) (he _)

/-! ### strs and bytes -/
/-! ### scalar builtins, by CallR -/
theorem vals1 {x : V} {us : List Value} (r : Vals [x] us) : ∃ u, us = [u] ∧ RelV x u := by
  cases r with
  | cons r1 r2 => cases r2; exact ⟨_, rfl, r1⟩
theorem vals2 {x y : V} {us : List Value} (r : Vals [x, y] us) : ∃ u w', us = [u, w'] ∧ RelV x u ∧ RelV y w' := by
  cases r with
  | cons r1 r2 =>
    cases r2 with
    | cons r3 r4 => cases r4; exact ⟨_, _, rfl, r1, r3⟩
end
end L2

namespace L2
open PySem PySem.Spec PyProof.Rows

/-! ### an instance, its attributes a map -/
structure ObjM (h : Heap) (x dx C : Addr) (mA : Str → Option Value) : Prop where
  obj : h.get? x = some (PySem.W.instObj C dx)
  ns : h.Ns1 dx mA
  ne : dx ≠ x

theorem lookIn_ns {h : Heap} {dx : Addr} {mA : Str → Option Value} (n : h.Ns1 dx mA) : ∃ od, h.get? dx = some od ∧ ∀ name, PySem.W.lookIn name od = some (mA name) := by
  obtain ⟨o, es, ep, ho, hd, hk, _, hm⟩ := n
  refine ⟨o, ho, fun name => ?_⟩
  have e := hm name
  unfold nsFind findBy at e
  rw [← Array.find?_toList] at e
  unfold PySem.W.lookIn
  rw [hd]
  dsimp only
  split
  · rename_i y q
    rw [q] at e
    exact congrArg some e
  · rename_i q
    rw [q] at e
    have a : es.toList.any (·.refKey) = false := by
      rw [List.any_eq_false]
      intro y hy
      obtain ⟨z, t, hkey⟩ := hk y (Array.mem_toList_iff.mp hy)
      simp [DictEntry.refKey, hkey]
    have a' : ¬ es.toList.any (·.refKey) = true := by rw [a]; exact Bool.false_ne_true
    rw [if_neg a']
    exact congrArg some e

theorem ObjM.look {h : Heap} {x dx C : Addr} {mA : Str → Option Value} (I : ObjM h x dx C mA) : ∃ od, PySem.W.InstAt h x (PySem.W.instObj C dx) C (some od) ∧ ∀ name, PySem.W.lookIn name od = some (mA name) :=
  let ⟨od, ho, hl⟩ := lookIn_ns I.ns
  ⟨od, ⟨I.obj, rfl, rfl, ho⟩, hl⟩

section
variable {prog : Program} {w : World} {A : Around} {E : Value → Shared → Prop} {s : Shared} {K : PySem.W.Frag} {x dx C f : Addr} {mA : Str → Option Value} {name : Str} {v : Value}

end

/-! ### the attributes as a list of pairs -/
theorem RelO.some_of {v : V} {o : Option Value} (r : RelO (some v) o) : ∃ u, o = some u ∧ RelV v u := by
  cases o with
  | none => exact (show False from r).elim
  | some u => exact ⟨u, rfl, r⟩
theorem handed_of {v : V} {u : Value} (r : RelV v u) : PySem.W.handedIn u = true := by
  cases v with
  | non => cases (show u = Value.none from r); rfl
  | bl b => cases (show u = Value.bool b from r); rfl
  | int i => obtain ⟨t, e⟩ := (show ∃ t, u = Value.int i t from r); cases e; rfl
  | str x => obtain ⟨t, e⟩ := (show ∃ t, u = Value.str x t from r); cases e; rfl
  | byt b => obtain ⟨t, e⟩ := (show ∃ t, u = Value.bytes b t from r); cases e; rfl
  | flt b => obtain ⟨t, e⟩ := (show ∃ t, u = Value.float b t from r); cases e; rfl
  | ref a => cases (show u = Value.ref a from r); rfl
  | ty n => cases (show u = Value.type n from r); rfl

section
variable {P : Program} {w : World} {H H' : Hp} {h h' : Heap} {a C dx : Addr} {fs fs' : List (Str × V)}
theorem ins_get (hok : HOk P w H h) (e : H a = some (.ins C dx fs)) : ∃ mA, ObjM h a dx C mA ∧ (∀ f, RelO (fs.lookup f) (mA f)) ∧ PySem.Within mA (fs.map (·.1)) ∧ fs.length ≤ 1000 ∧ H dx = some (.own a) := by
  obtain ⟨d, z, ne, ob, mA, n, r, q⟩ := (show ObjOk P w H h a (.ins C dx fs) from hok a _ e)
  exact ⟨mA, ⟨ob, n, ne⟩, r, q, z, d⟩
end

/-! ### what of the text a class must have -/
structure Cls (K : PySem.W.Frag) (C : Addr) : Prop where
  pg : PySem.W.plainGet K C Str.empty = true
  hd : PySem.W.hasDictIn K C = true
  po : PySem.W.plainOver K C = true
  sa : PySem.W.findIn K (.ref C) "__setattr__" = some (some (.builtin "object.__setattr__"))
theorem Cls.get {K : PySem.W.Frag} {C : Addr} (c : Cls K C) (f : Str) : PySem.W.plainGet K C f = true := c.pg
/-- no class of it has the name -/
def NoAttr (K : PySem.W.Frag) (C : Addr) (f : Str) : Prop := PySem.W.findIn K (.ref C) f = some none
section
variable {X : Cx} {pins : List (Addr × Obj)} {σ : St} {H : Hp} {s : Shared} {a C dx : Addr} {fs : List (Str × V)} {f : Str} {v : V} {A : Around} {E : Value → Shared → Prop}

/-- e.f where nothing but the object is asked: through attributeBase (super) and the last hold -/
theorem attr_of {prog : Program} {w : World} {env : Env} {e : Expr} {f : Str} {pos : Pos} {s : Shared} {Q : Value → Shared → Prop} (hb : attributeBase e f env (eval e env) = eval e env)
    (h : wpAny (model prog w) A (eval e env) (fun o s₁ => wpAny (model prog w) A (getAttr o f true) Q E s₁) E s) : wpAny (model prog w) A (eval (.Attribute e f pos) env) Q E s :=
  Attribute_any_ h (by rw [arm_eval_Attribute, hb])
end

/-! ### readings and rules -/
section
variable {X : Cx} {o e value : Expr} {f : Str} {pos pos' tpos : Pos} {ta tv : TE}
end

/-! ### isinstance -/
section
variable {X : Cx} {pins : List (Addr × Obj)} {σ : St} {H : Hp} {s : Shared} {A : Around} {E : Value → Shared → Prop} {Q : Value → Shared → Prop} {c : Value} {b : Bool}
/-- the type of a value, as the fragment's deciders take it; for an instance its class -/
inductive TyOf (K : PySem.W.Frag) (H : Hp) : V → Value → Prop where
  | non : TyOf K H .non (.type "NoneType")
  | bl (x : Bool) : TyOf K H (.bl x) (.type "bool")
  | int (i : Int) : TyOf K H (.int i) (.type "int")
  | str (x : Str) : TyOf K H (.str x) (.type "str")
  | flt (x : UInt64) : TyOf K H (.flt x) (.type "float")
  | lst {a : Addr} {xs : List V} (e : H a = some (.lst xs)) : TyOf K H (.ref a) (.type "list")
  | frz {a : Addr} {o : Obj} {xs : List V} (e : H a = some (.frz o (.lst xs))) : TyOf K H (.ref a) (.type "list")
  | tup {a : Addr} {xs : List V} (e : H a = some (.tup xs)) : TyOf K H (.ref a) (.type "tuple")
  | dK {a : Addr} {kvs : List (Key × V)} (e : H a = some (.dK kvs)) : TyOf K H (.ref a) (.type "dict")
  | dT {a : Addr} {kvs : List (List Key × V)} (e : H a = some (.dT kvs)) : TyOf K H (.ref a) (.type "dict")
  | ins {a C dx : Addr} {fs : List (Str × V)} (e : H a = some (.ins C dx fs)) (cl : Cls K C) (ha : PySem.W.findIn K (.ref C) "__class__" = some (some (.builtin "object.__class__")))
      (hn : PySem.W.specialIn K (.builtin "object.__class__") "__get__" = some (some (.builtin "getset_descriptor.__get__"))) (htk : PySem.W.takesIn K (.builtin "object.__class__") = some true)
      (hm : PySem.W.mroIn K C (.type "object") = some true) : TyOf K H (.ref a) (.ref C)
/-- isinstance(x, c) for one class c, a built-in or an own one: kitOne's answer -/
theorem isinst_ok {x : V} {u t : Value} (I : Inv X pins σ H s) (rx : RelV x u) (ty : TyOf X.K H x t) (e : PySem.W.kitOne X.K t c = some b) (h : ∀ tk, Q (.bool b) { s with toks := tk }) :
    wpAny (model X.prog X.w) A (call (.builtin "isinstance") [u, c]) Q E s := by
  cases ty with
  | non => cases (show u = Value.none from rx); exact PySem.W.kia_one PySem.W.kitx_none I.kIn True.intro e (fun z => nomatch z) h
  | bl y => cases (show u = Value.bool y from rx); exact PySem.W.kia_one PySem.W.kitx_bool I.kIn True.intro e (fun z => nomatch z) h
  | int i => obtain ⟨t, q⟩ := (show ∃ t, u = Value.int i t from rx); cases q; exact PySem.W.kia_one PySem.W.kitx_int I.kIn True.intro e (fun z => nomatch z) h
  | str y => obtain ⟨t, q⟩ := (show ∃ t, u = Value.str y t from rx); cases q; exact PySem.W.kia_one PySem.W.kitx_str I.kIn True.intro e (fun z => nomatch z) h
  | flt y => obtain ⟨t, q⟩ := (show ∃ t, u = Value.float y t from rx); cases q; exact PySem.W.kia_one PySem.W.kitx_float I.kIn True.intro e (fun z => nomatch z) h
  | @lst a xs ea =>
    cases (show u = Value.ref a from rx)
    obtain ⟨_, _, n, _, h1⟩ := (show ObjOk X.prog X.w H s.heap a (.lst xs) from I.hok a _ ea)
    exact PySem.W.kia_one PySem.W.kitx_list I.kIn ⟨_, h1, rfl⟩ e (fun z => nomatch z) h
  | @frz a ob xs ea =>
    cases (show u = Value.ref a from rx)
    obtain ⟨_, _, _, n, _, h1⟩ := (show ObjOk X.prog X.w H s.heap a (.frz ob (.lst xs)) from I.hok a _ ea)
    exact PySem.W.kia_one PySem.W.kitx_list I.kIn ⟨_, h1, rfl⟩ e (fun z => nomatch z) h
  | @tup a xs ea =>
    cases (show u = Value.ref a from rx)
    obtain ⟨_, _, _, p, _⟩ := (show ObjOk X.prog X.w H s.heap a (.tup xs) from I.hok a _ ea)
    obtain ⟨o, h1, h2, _⟩ := p
    exact PySem.W.kia_one PySem.W.kitx_tuple I.kIn ⟨o, h1, h2⟩ e (fun z => nomatch z) h
  | @dK a kvs ea =>
    cases (show u = Value.ref a from rx)
    obtain ⟨_, _, vs, _, p⟩ := (show ObjOk X.prog X.w H s.heap a (.dK kvs) from I.hok a _ ea)
    obtain ⟨o, es, ep, h1, h2, _⟩ := p
    exact PySem.W.kia_one PySem.W.kitx_dict I.kIn ⟨o, h1, h2.1⟩ e (fun z => nomatch z) h
  | @dT a kvs ea =>
    cases (show u = Value.ref a from rx)
    obtain ⟨_, _, xs, _, o, es, ep, h1, h2, _⟩ := (show ObjOk X.prog X.w H s.heap a (.dT kvs) from I.hok a _ ea)
    exact PySem.W.kia_one PySem.W.kitx_dict I.kIn ⟨o, h1, h2.1⟩ e (fun z => nomatch z) h
  | @ins a C dx fs ea cl ha hn htk hm =>
    cases (show u = Value.ref a from rx)
    obtain ⟨mA, O, _⟩ := ins_get I.hok ea
    obtain ⟨od, J, _⟩ := O.look
    exact PySem.W.kia_one (PySem.W.kitx_own (cl.get _) cl.hd ha hn htk hm) I.kIn J e (fun z => nomatch z) h
end
end L2

namespace L2
open PySem PySem.Spec PyProof.Rows

/-! ### room -/
structure Room (k : Nat) (A : Around) (cm : Bool := true) : Prop where
  hd : cm = true → A.handled = none
  dp : A.depth + 3 * k + 5 < recursionLimit
  un : A.units + 16 * k + 200 < cLine
theorem Room.mono {j k : Nat} {A : Around} {cm : Bool} (r : Room k A cm) (h : j ≤ k) : Room j A cm := ⟨r.hd, by have := r.dp; omega, by have := r.un; omega⟩
theorem Room.deeper {k : Nat} {A : Around} {cm : Bool} (r : Room (k + 1) A cm) (env : Env) : Room k (A.deeper env) cm :=
  ⟨r.hd, by have := r.dp; show A.depth + 1 + 3 * k + 5 < _; omega, by have := r.un; show A.units + 3 + 16 * k + 200 < _; omega⟩
theorem make_depth {A : Around} {C : Addr} {us : List Value} {kw : List (Str × Value)} : (A.under (.builtin "type.__call__" ⟨.ref C :: us, kw⟩)).depth = A.depth + 1 := by
  first | rfl | simp [Around.under, Code.weight, Code.isCreation, Code.isGuard, Code.isCaller, Code.frames, Code.isFrame, guardIds]
theorem make_units {A : Around} {C : Addr} {us : List Value} {kw : List (Str × Value)} : (A.under (.builtin "type.__call__" ⟨.ref C :: us, kw⟩)).units = A.units + 1 := by
  first | rfl | simp [Around.under, Code.cUnits, Code.frames, Code.isFrame]
theorem Room.make {k : Nat} {A : Around} {cm : Bool} (r : Room (k + 1) A cm) (C : Addr) (us : List Value) (kw : List (Str × Value)) : Room k (A.under (.builtin "type.__call__" ⟨.ref C :: us, kw⟩)) cm :=
  ⟨r.hd, by have := r.dp; rw [make_depth]; omega, by have := r.un; rw [make_units]; omega⟩
theorem Room.depth {k : Nat} {A : Around} {cm : Bool} (r : Room k A cm) : A.depth < recursionLimit := by have := r.dp; omega
theorem Room.units {k : Nat} {A : Around} {cm : Bool} (r : Room k A cm) : A.units + 64 < cLine := by have := r.un; omega
/-! ### argument lists and displays -/
def tNil : TA := fun _ H Q => Q [] H
def tCons (ta : TE) (tr : TA) : TA := fun σ H Q => ta σ H fun x H1 => tr σ H1 fun xs H2 => Q (x :: xs) H2
section
variable {X : Cx} {e : Expr} {es : List Expr} {te : TE} {t : TA} {pos : Pos}
theorem pa_nil : PA X [] tNil := fun _ _ _ _ H Q I h => Calls.spliced_nil ⟨[], H, I, .nil, h⟩
theorem pa_cons (ha : PE X e te) (hr : PA X es t) (hs : starEach (e :: es) X.env = (false, eval e X.env) :: starEach es X.env := by rfl) : PA X (e :: es) (tCons te t) := by
  intro pos pins s σ H Q I h
  rw [hs]
  show wpAny _ _ (spliced ((false, eval e X.env) :: backTo pos (starEach es X.env))) _ _ s
  refine Calls.spliced_cons (thn (ha pins s σ H _ I h) fun u s1 ⟨x, H1, I1, r1, q1⟩ => ?_)
  exact thn (hr pos pins s1 σ H1 _ I1 q1) fun us s2 ⟨xs, H2, I2, r2, q2⟩ => ⟨x :: xs, H2, I2, .cons r1 r2, q2⟩

def tLst (t : TA) : TE := fun σ H Q => t σ H fun xs H1 => xs.length ≤ sizeLine ∧ ∀ p, H1 p = none → Q (.ref p) (upd H1 p (.lst xs))
theorem pe_lst (h : PA X es t) : PE X (.List es pos) (tLst t) := by
  intro pins s σ H Q I hq
  refine wpAny_List_spliced (thn (h pos pins s σ H _ I hq) fun us s1 ⟨xs, H1, I1, r, z, q⟩ => ⟨by rw [← r.length]; exact z, ?_⟩)
  have hf : H1 s1.heap.objs.size = none := I1.hok.fresh (Nat.le_refl _)
  refine ⟨.ref s1.heap.objs.size, upd H1 s1.heap.objs.size (.lst xs), I1.laid (t' := s1.toks) (fun b u e => Heap.get?_push_of_some _ e) (Nat.le_refl _) ?_, rfl, q _ hf⟩
  exact ⟨z, us, 0, r, Heap.get?_push_size _ rfl⟩
end

/-! ### what a def promises -/
/-- a def's promise: the bound arguments in the parameters' order, the heap, the wanted end, the wanted exception -/
abbrev Sp := List V → Hp → VK → XK → Prop
/-- how an exception lies behind a call (file 08 gives it): the callers' frames, abstract heap and state ahead of the call, the wish, the exception, the state -/
abbrev CXT := List Env → Hp → Shared → XK → Value → Shared → Prop

/-- the state at a call -/
structure Env0 (P : Program) (w : World) (K : PySem.W.Frag) (mg : Str → Option Value) (base : Heap) (A : Around) (outer : List Env) (s : Shared) (H : Hp) : Prop where
  frames : A.frames = some outer
  mod : Mod K mg base
  bs : ∀ b o, base.get? b = some o → s.heap.get? b = some o ∧ H b = none
  bsz : base.objs.size ≤ s.heap.objs.size
  funs : s.heap.FunFrames base outer
  frf : ∀ b ∈ frs outer, H b = none
  hok : HOk P w H s.heap
  bare : AllBare s.gens
/-- a call's end -/
def CE (outer : List Env) (P : Program) (w : World) (H : Hp) (s : Shared) (Q : VK) (u : Value) (s' : Shared) : Prop :=
  ∃ v H', s'.os = s.os ∧ AllBare s'.gens ∧ Un (frs outer) [] H H' s.heap s'.heap ∧ HOk P w H' s'.heap ∧ RelV v u ∧ Q v H'
def CR (CX : CXT) (outer : List Env) (P : Program) (w : World) (H : Hp) (s : Shared) (Q : VK) (E : XK) (r : Result) (s' : Shared) : Prop :=
  match r with
  | .ok (.ret u) => CE outer P w H s Q u s'
  | .ok _ => False
  | .error e => CX outer H s E e s'
structure FnOk (P : Program) (w : World) (K : PySem.W.Frag) (mg : Str → Option Value) (base : Heap) (CX : CXT) (k : Nat) (f : Addr) (fd : FuncData) (ps : List Str) (sp : Sp) (cm : Bool := true) : Prop where
  len : ∀ vs H Q E, sp vs H Q E → vs.length = ps.length
  run : ∀ (A : Around) (outer : List Env) (s : Shared) (H : Hp) (args : Args) (us : List Value) (vs : List V) (Q : VK) (E : XK), Room k A cm → Env0 P w K mg base A outer s H → BindsTo s fd args (ps.zip us) → Vals vs us → sp vs H Q E →
    codeAny (model P w) A (.call (.ref f) args) (CR CX outer P w H s Q E) s
theorem Env0.make {P : Program} {w : World} {K : PySem.W.Frag} {mg : Str → Option Value} {base : Heap} {A : Around} {outer : List Env} {s : Shared} {H : Hp} (e : Env0 P w K mg base A outer s H) (C : Addr) (us : List Value) (kw : List (Str × Value)) :
    Env0 P w K mg base (A.under (.builtin "type.__call__" ⟨.ref C :: us, kw⟩)) outer s H := ⟨by first | exact e.frames | (simpa [Around.under, Code.envs, Code.isFrame, pushEnvs] using e.frames), e.mod, e.bs, e.bsz, e.funs, e.frf, e.hok, e.bare⟩
section
variable {X : Cx} {pins : List (Addr × Obj)} {σ : St} {H : Hp} {s s' : Shared}
/-- from a body: what a callee wants -/
theorem Inv.env0 (I : Inv X pins σ H s) : Env0 X.prog X.w X.K X.mg X.base X.A X.stack s H :=
  ⟨I.ok.frames, I.ok.mod, I.bs, Nat.le_trans I.ok.bsz I.sz, I.stack, I.stkFree, I.hok, I.bare⟩
/-- behind a call -/
theorem Inv.after {Q : VK} {u : Value} (I : Inv X pins σ H s) (h : CE X.stack X.prog X.w H s Q u s') : EP X pins σ Q u s' := by
  obtain ⟨v, H', os, bare, un, hok, r, q⟩ := h
  obtain ⟨hh, g, d, t, os'⟩ := s'
  obtain rfl : os' = s.os := os
  exact ⟨v, H', I.call (h' := hh) (g' := g) (d' := d) (t' := t) (ch := []) un hok bare (fun b z => absurd z (by simp)), r, q⟩
end

/-! ### calls -/
/-- f(..): the written arguments, then the defaults dvs; E: what is wanted of an exception -/
def tCall (sp : Sp) (dvs : List V) (E : XK) (t : TA) : TE := fun σ H Q => t σ H fun vs H1 => sp (vs ++ dvs) H1 Q E
/-- how the parameters are bound: us the positional arguments, kw the keywords' values by name, ds the defaults that fill up -/
def Binds (K : PySem.W.Frag) (fd : FuncData) (ps : List Str) (ds : List Value) : Prop :=
  ∀ (s : Shared) (us : List Value), K.In s.heap → (us ++ ds).length = ps.length → BindsTo s fd ⟨us, []⟩ (ps.zip (us ++ ds))
/-- every parameter is given -/
theorem Binds.all {K : PySem.W.Frag} {fd : FuncData} {ps : List Str} (h : ∀ us : List Value, us.length = ps.length → bindArgs fd ⟨us, []⟩ = pure (ps.zip us)) : Binds K fd ps [] := fun s us _ hl => by
  rw [List.append_nil] at hl ⊢
  exact .of_eq (h us hl)

/-- an exception of a callee reaches what this body wants of exceptions -/
def Passes (CX : CXT) (X : Cx) (E : XK) : Prop := ∀ (pins : List (Addr × Obj)) (σ : St) (H : Hp) (s : Shared) (e : Value) (s' : Shared), Inv X pins σ H s → CX X.stack H s E e s' → X.xe e s'

section
variable {cm : Bool} {X : Cx} {CX : CXT} {k : Nat} {f C : Addr} {fd : FuncData} {ps : List Str} {sp : Sp} {dvs : List V} {ds : List Value} {E : XK} {x m : Str} {p pos apos : Pos} {e o : Expr} {es : List Expr} {ta : TE} {t : TA}

/-- the callee runs -/
theorem run_fn {pins : List (Addr × Obj)} {σ : St} {H : Hp} {s : Shared} {Q : VK} {us : List Value} {vs : List V} (F : FnOk X.prog X.w X.K X.mg X.base CX k f fd ps sp cm) (hr : Room k X.A cm) (hb : Binds X.K fd ps ds) (hd : Vals dvs ds) (hx : Passes CX X E)
    (I : Inv X pins σ H s) (r : Vals vs us) (h : sp (vs ++ dvs) H Q E) : wpAny (model X.prog X.w) X.A (call (.ref f) us) (EP X pins σ Q) X.xe s := by
  have r2 : Vals (vs ++ dvs) (us ++ ds) := r.append hd
  have hl : (us ++ ds).length = ps.length := by rw [← r2.length]; exact F.len _ _ _ _ h
  refine wpAny_call (codeAny_mono (F.run X.A X.stack s H ⟨us, []⟩ (us ++ ds) (vs ++ dvs) Q E hr I.env0 (hb s us I.kIn hl) r2 h) fun r s' hq => ?_)
  cases r with
  | error e => exact hx pins σ H s e s' I hq
  | ok fl =>
    cases fl with
    | ret u => exact I.after hq
    | next => exact False.elim hq
    | brk => exact False.elim hq
    | cont => exact False.elim hq

theorem pe_call (F : FnOk X.prog X.w X.K X.mg X.base CX k f fd ps sp cm) (hr : Room k X.A cm) (hg : Gl X x) (hm : X.mg x = some (.ref f)) (hk : PySem.W.keepIn X.K (.ref f) = true) (hb : Binds X.K fd ps ds) (hd : Vals dvs ds) (hx : Passes CX X E)
    (ha : PA X (e :: es) t) (hdb : (x == ("__debug__" : Str)) = false := by decide) (he : starEach (e :: es) X.env = (false, eval e X.env) :: starEach es X.env := by rfl) (hpl : (backTo pos (starEach es X.env)).any (·.1) = false := by rfl) :
    PE X (.Call (.Name x p) (e :: es) [] pos) (tCall sp dvs E t) := by
  intro pins s σ H Q I h
  refine wpAny_Call_Name_kw (ld_glob I hg hm ?_ hdb)
  refine PySem.W.callWith_K (h₀ := X.base) I.ok.mod.kin hk (thn (ha pos pins s σ H _ I h) fun us s1 ⟨vs, H1, I1, r, q⟩ => ⟨I1.kIn, ?_⟩) he hpl
  exact run_fn F hr hb hd hx I1 r q
end

/-! ### keywords -/
section
variable {cm : Bool} {X : Cx} {CX : CXT} {k : Nat} {f C : Addr} {fd : FuncData} {ps ks : List Str} {sp : Sp} {E : XK} {x m : Str} {p pos apos kpos : Pos} {e o : Expr} {es : List Expr} {kws : List Keyword} {te ta : TE} {t tk : TA} {nm : Option Str}
variable {g : List Value → List Value → List Value} {gV : List V → List V → List V}
end

/-! ### a def's body keeps its promise -/
/-- names: the parameters first -/
structure FnScope (N P : List Str) (sc : Scope) : Prop where
  kind : sc.kind = .function
  co : sc.isCoroutine = false
  gen : sc.isGenerator = false
  nd : N.Nodup
  pre : N.take P.length = P
  par : ∀ x ∈ P, sc.names.lookup x = some .local ∨ sc.names.lookup x = some .cell
  nofree : ∀ y ∈ sc.names, y.2 ≠ .free

theorem bindL_out {kindOf : Str → Option NameKind} {x : Str} : ∀ {binds : List (Str × Value)} {m : Str → Option Value}, (∀ v, (x, v) ∉ binds) → bindL kindOf binds m x = m x
  | [], _, _ => rfl
  | (n, v) :: r, m, h => by
    unfold bindL
    rw [bindL_out fun w hw => h w (List.mem_cons_of_mem _ hw)]
    split
    · have : x ≠ n := by rintro rfl; exact h v List.mem_cons_self
      simp [this]
    · rfl
theorem bindC_out {kindOf : Str → Option NameKind} {x : Str} : ∀ {binds : List (Str × Value)} {m : Str → Option Value}, (∀ v, (x, v) ∉ binds) → bindC kindOf binds m x = m x
  | [], _, _ => rfl
  | (n, v) :: r, m, h => by
    unfold bindC
    rw [bindC_out fun w hw => h w (List.mem_cons_of_mem _ hw)]
    split
    · rfl
    · have : x ≠ n := by rintro rfl; exact h v List.mem_cons_self
      simp [this]
theorem bindL_get {kindOf : Str → Option NameKind} {x : Str} {v : Value} : ∀ {P : List Str} {vs : List Value} {i : Nat} {m : Str → Option Value}, P.Nodup → P[i]? = some x → vs[i]? = some v → kindOf x = some .local →
    bindL kindOf (P.zip vs) m x = some v
  | [], _, _, _, _, h, _, _ => by simp at h
  | _ :: _, [], _, _, _, _, h, _ => by simp at h
  | p :: P, w :: vs, 0, m, nd, h1, h2, hk => by
    simp at h1 h2; subst h1; subst h2
    show bindL kindOf ((p, w) :: P.zip vs) m p = _
    unfold bindL
    rw [bindL_out fun v hv => (List.nodup_cons.mp nd).1 (List.of_mem_zip hv).1, if_pos hk]
    simp
  | p :: P, w :: vs, i + 1, m, nd, h1, h2, hk => by
    show bindL kindOf ((p, w) :: P.zip vs) m x = _
    unfold bindL
    exact bindL_get (i := i) (List.nodup_cons.mp nd).2 (by simpa using h1) (by simpa using h2) hk
theorem bindC_get {kindOf : Str → Option NameKind} {x : Str} {v : Value} : ∀ {P : List Str} {vs : List Value} {i : Nat} {m : Str → Option Value}, P.Nodup → P[i]? = some x → vs[i]? = some v → kindOf x ≠ some .local →
    bindC kindOf (P.zip vs) m x = some v
  | [], _, _, _, _, h, _, _ => by simp at h
  | _ :: _, [], _, _, _, _, h, _ => by simp at h
  | p :: P, w :: vs, 0, m, nd, h1, h2, hk => by
    simp at h1 h2; subst h1; subst h2
    show bindC kindOf ((p, w) :: P.zip vs) m p = _
    unfold bindC
    rw [bindC_out fun v hv => (List.nodup_cons.mp nd).1 (List.of_mem_zip hv).1, if_neg hk]
    simp
  | p :: P, w :: vs, i + 1, m, nd, h1, h2, hk => by
    show bindC kindOf ((p, w) :: P.zip vs) m x = _
    unfold bindC
    exact bindC_get (i := i) (List.nodup_cons.mp nd).2 (by simpa using h1) (by simpa using h2) hk

/-- the names' values at the entry -/
def start (N : List Str) (vs : List V) : St := vs.map some ++ List.replicate (N.length - vs.length) none

/-- the context of a def's body, at its entry; an exception leaves the frame, then lies as CX says -/
def cxOf (CX : CXT) (P : Program) (w : World) (K : PySem.W.Frag) (mg : Str → Option Value) (base : Heap) (N : List Str) (qual : Str) (scope : Scope) (f : Addr) (cd : Value) (A : Around) (outer : List Env) (s : Shared) (H : Hp) (E : XK) (cm : Bool := true) : Cx where
  prog := P
  w := w
  K := K
  mg := mg
  base := base
  A := A.deeper (envOfC qual scope s.heap.objs.size f cd)
  N := N
  s₀ := s
  H₀ := H
  env := envOfC qual scope s.heap.objs.size f cd
  outer := outer
  stack := envOfC qual scope s.heap.objs.size f cd :: outer
  ex := []
  calm := cm
  fn := fun _ => true
  pn := []
  xe := fun e s' => wpAny (model P w) (A.deeper (envOfC qual scope s.heap.objs.size f cd)) (leaving (envOfC qual scope s.heap.objs.size f cd) e) (fun _ s'' => CX outer H s E e s'') (fun e' s'' => CX outer H s E e' s'') s'

theorem cell_has {sc : Scope} {n : Nat} {x : Str} (h : sc.names.lookup x = some .cell) : ∃ c, (cellsFrom n sc.names []).lookup x = some c := by
  have q := PySem.W.cellsFrom_some sc.names n [] (.inl h)
  exact Option.isSome_iff_exists.mp q

theorem inv_start {CX : CXT} {P : Program} {w : World} {K : PySem.W.Frag} {mg : Str → Option Value} {base : Heap} {N ps : List Str} {qual : Str} {scope : Scope} {f : Addr} {cd : Value} {A : Around} {outer : List Env} {s s1 : Shared} {H : Hp} {E : XK} {cm : Bool} {us : List Value} {vs : List V}
    (S : FnScope N ps scope) (hd : cm = true → A.handled = none) (e0 : Env0 P w K mg base A outer s H) (hl : vs.length = ps.length) (r : Vals vs us)
    (x : InCallC s s.heap.objs.size (bindL (envOfC qual scope s.heap.objs.size f cd).kindOf (ps.zip us) fun _ => none) (cellsFrom (s.heap.objs.size + 1) scope.names []) (bindC (envOfC qual scope s.heap.objs.size f cd).kindOf (ps.zip us) fun _ => none) s1) :
    Inv (cxOf CX P w K mg base N qual scope f cd A outer s H E cm) [] (start N vs) H s1 := by
  have hpl : ps.length ≤ N.length := by have := congrArg List.length S.pre; rw [List.length_take] at this; omega
  obtain ⟨h1, tk, rfl, hk⟩ := x.done
  have noA : ∀ b : Addr, b ∉ (cxOf CX P w K mg base N qual scope f cd A outer s H E cm).ex := fun b z => absurd (show b ∈ ([] : List Addr) from z) (by simp)
  refine ⟨⟨e0.mod, S.kind, rfl, rfl, Nat.le_refl _, fun y z c h1 h2 => ?_, fun y hy => ?_, fun y c _ h => ?_, hd, Around.frames_deeper e0.frames, .inr ⟨rfl, rfl⟩, fun b z => absurd z (noA b), e0.bs, e0.bsz, fun b _ _ => noA b, fun b z => absurd z (noA b), e0.funs, e0.frf⟩,
    rfl, e0.bare, Un.kept hk, ⟨_, x.toInCall.ns, fun i y v h1 h2 h3 => ?_⟩, fun y c h => ⟨_, x.cell y c h⟩, e0.hok.fresh (Nat.le_refl _), fun y c h => ?_, fun p hp => absurd (show p ∈ ([] : List (Addr × Obj)) from hp) (by simp), e0.hok.kept hk, ?_⟩
  · exact name_of_addr x.apart (PySem.mem_of_lookup h1) (PySem.mem_of_lookup h2)
  · have hy : scope.names.lookup y = some .cell ∨ scope.names.lookup y = some .free := hy
    rcases hy with hy | hy
    · exact cell_has hy
    · exact absurd rfl (S.nofree _ (PySem.mem_of_lookup hy))
  · exact Nat.le_of_lt (x.above y c (PySem.mem_of_lookup h))
  · have hi : i < vs.length := by
      unfold start at h2
      by_cases hi : i < vs.length
      · exact hi
      · rw [List.getElem?_append_right (by simpa using hi)] at h2
        rw [List.getElem?_replicate] at h2
        split at h2 <;> cases h2
    have ha : vs[i]? = some v := by
      unfold start at h2
      rw [List.getElem?_append_left (by simpa using hi), List.getElem?_map] at h2
      cases e : vs[i]? with
      | none => rw [e] at h2; cases h2
      | some a => rw [e] at h2; cases h2; rfl
    obtain ⟨u, hu, rv⟩ := r.get ha
    have hp : ps[i]? = some y := by
      rw [← S.pre, List.getElem?_take_of_lt (by omega)]; exact h1
    have ndP : ps.Nodup := by rw [← S.pre]; exact S.nd.sublist (List.take_sublist _ _)
    refine ⟨u, rv, ?_⟩
    rcases S.par y (List.mem_of_getElem? hp) with k | k
    · exact .inl ⟨k, bindL_get ndP hp hu k⟩
    · obtain ⟨c, e⟩ := cell_has (n := s.heap.objs.size + 1) k
      refine .inr ⟨.inl k, c, e, ?_⟩
      have q := x.cell y c e
      rw [bindC_get ndP hp hu (by show scope.names.lookup y ≠ _; rw [k]; decide)] at q
      exact q
  · exact e0.hok.fresh (Nat.le_of_lt (x.above y c (PySem.mem_of_lookup h)))
  · unfold start
    show _ = N.length
    rw [List.length_append, List.length_map, List.length_replicate]
    omega

/-- THE RULE: a def (or a method) of the text, by its body. The body's reading t is chosen for each entry; it is run at the parameters' values -/
theorem fn_of {CX : CXT} {P : Program} {w : World} {K : PySem.W.Frag} {mg : Str → Option Value} {base : Heap} {k : Nat} {f : Addr} {name qual : Str} {params : Arguments} {body : List Stmt} {scope : Scope} {dV kV doc pm cdv ct oc : Value} {an od : Option Addr}
    {osl : Array (Option Value)} {N ps : List Str} {sp : Sp} {cm : Bool} (lk : K.lookup f = some ⟨oc, od, .func (PySem.W.fnOf name qual params body scope dV kV doc pm an cdv ct), osl⟩) (hcd : PySem.W.codeIn K cdv qual = true) (S : FnScope N ps scope)
    (len : ∀ vs H Q E, sp vs H Q E → vs.length = ps.length)
    (hbody : ∀ (A : Around) (outer : List Env) (s : Shared) (H : Hp) (vs : List V) (Q : VK) (E : XK), Room k (A.deeper (envOfC qual scope s.heap.objs.size f cdv)) cm → sp vs H Q E →
      ∃ t, PSs (cxOf CX P w K mg base N qual scope f cdv A outer s H E cm) body t ∧ t { nx := fun _ H' => Q .non H', rt := Q } (start N vs) H) :
    FnOk P w K mg base CX (k + 1) f (PySem.W.fnOf name qual params body scope dV kV doc pm an cdv ct) ps sp cm := by
  refine ⟨len, fun A outer s H args us vs Q E hr e0 hb r hsp => ?_⟩
  have hl := len _ _ _ _ hsp
  have KX : K.In s.heap := e0.mod.kin.keeps fun b o e => (e0.bs b o e).1
  have lim : s.heap.NoLimit := e0.mod.nolimit.keeps fun b o e => (e0.bs b o e).1
  have hkind : ∀ y ∈ ps.zip us, scope.names.lookup y.1 = some .local ∨ (scope.names.lookup y.1 = some .cell ∧ ((cellsFrom (s.heap.objs.size + 1) scope.names []).lookup y.1).isSome = true) := fun ⟨n, v⟩ hy => by
    rcases S.par n (List.of_mem_zip hy).1 with q | q
    · exact .inl q
    · exact .inr ⟨q, PySem.W.cellsFrom_some _ _ _ (.inl q)⟩
  refine codeAny_call_function hr.depth (KX _ _ lk) rfl S.co S.gen rfl (PySem.W.codeRec_of KX hcd) (hb _ _ _ _ ?_)
  refine wpAny_newFunctionEnv_cells S.kind hkind fun env he s1 x => ?_
  subst he
  refine ⟨lim.keeps x.toInCall.keep, codeAny_func ?_⟩
  obtain ⟨t, ht, hq⟩ := hbody A outer s H vs Q E (hr.deeper _) hsp
  have I : Inv (cxOf CX P w K mg base N qual scope f cdv A outer s H E cm) [] (start N vs) H s1 := inv_start S hr.hd e0 hl r x
  refine wpAny_mono (ht [] s1 (start N vs) H _ I hq) (fun fl s' hs => ?_) fun e s' hs => hs
  have fin : ∀ {σ' : St} {H' : Hp} {v : V} {u : Value}, Inv (cxOf CX P w K mg base N qual scope f cdv A outer s H E cm) [] σ' H' s' → RelV v u → Q v H' → CE outer P w H s Q u s' :=
    fun {σ' H' v u} J rv q => ⟨v, H', J.os, J.bare, J.base, J.hok, rv, q⟩
  cases fl with
  | ret u =>
    obtain ⟨v, σ', H', J, rv, q⟩ := hs
    exact fin J rv q
  | next =>
    obtain ⟨σ', H', J, q⟩ := hs
    exact fin (v := V.non) (u := Value.none) J rfl q
  | brk =>
    obtain ⟨_, _, _, q⟩ := hs
    exact False.elim q
  | cont =>
    obtain ⟨_, _, _, q⟩ := hs
    exact False.elim q
end L2

namespace L2
open PySem PySem.Spec PyProof.Rows
section
variable {X : Cx} {x : Str} {p pos : Pos} {e : Expr} {es : List Expr} {t : TA} {id T : String} {r : List V → Hp → VK → Prop}

def tCB (r : List V → Hp → VK → Prop) (t : TA) : TE := fun σ H Q => t σ H fun vs H1 => r vs H1 Q
/-- f(e, ..), f a built-in function -/
theorem pe_callB (hc : CallR X (.builtin id) r) (hg : Gl X x) (hm : X.mg x = none) (hv : bootBuiltins x = some (.builtin id)) (ha : PA X (e :: es) t) (hn : x ≠ "__name__" := by decide) (hdb : (x == ("__debug__" : Str)) = false := by decide)
    (he : starEach (e :: es) X.env = (false, eval e X.env) :: starEach es X.env := by rfl) (hpl : (backTo pos (starEach es X.env)).any (·.1) = false := by rfl) : PE X (.Call (.Name x p) (e :: es) [] pos) (tCB r t) := by
  intro pins s σ H Q I h
  refine wpAny_Call_Name_kw (ld_blt I hg hm hv ?_ hn hdb)
  exact PyProof.Rows.callWith_builtin1 (thn (ha pos pins s σ H _ I h) fun us s1 ⟨vs, H1, I1, r1, q1⟩ => hc pins s1 σ H1 vs us Q I1 r1 q1) he hpl
/-- T(e, ..), T a built-in type -/
theorem pe_callTy (hc : CallR X (.type T) r) (hg : Gl X x) (hm : X.mg x = none) (hv : bootBuiltins x = some (.type T)) (ha : PA X (e :: es) t) (hn : x ≠ "__name__" := by decide) (hdb : (x == ("__debug__" : Str)) = false := by decide)
    (he : starEach (e :: es) X.env = (false, eval e X.env) :: starEach es X.env := by rfl) (hpl : (backTo pos (starEach es X.env)).any (·.1) = false := by rfl) : PE X (.Call (.Name x p) (e :: es) [] pos) (tCB r t) := by
  intro pins s σ H Q I h
  refine wpAny_Call_Name_kw (ld_blt I hg hm hv ?_ hn hdb)
  exact PyProof.Rows.callWith_type1 (thn (ha pos pins s σ H _ I h) fun us s1 ⟨vs, H1, I1, r1, q1⟩ => hc pins s1 σ H1 vs us Q I1 r1 q1) he hpl
end
end L2

namespace HT
open PySem PyProof.Rows

section
open PySem.SeqAt
open PySem.AutoSeq1 (wpAny_loadPart')
open PySem.MeetsSeq PySem.MeetsSeq2 PySem.MeetsSeq3

end

section
variable {prog : Program} {w : World} {A : Around} {E : Value → Shared → Prop} {s : Shared}

/-! ### t[a:b], not the whole -/
end
end HT

namespace L2
open PySem PySem.Spec PyProof.Rows

/-! ### the parts of a slice -/
abbrev TO := St → Hp → (Option Int → Hp → Prop) → Prop
theorem intsAre_of {ns : List Int} : ∀ {us : List Value}, Vals (ns.map V.int) us → IntsAre us ns := by
  induction ns with
  | nil => intro us r; rw [List.map_nil] at r; cases r; exact .nil
  | cons n ns ih =>
    intro us r
    rw [List.map_cons] at r
    cases r with
    | cons r1 r2 =>
      obtain ⟨t, e⟩ := r1
      subst e
      exact .cons n t (ih r2)

section
variable {X : Cx} {e : Expr} {te : TE} {lo hi : Option Expr} {tl th : TO} {pos p2 : Pos}

/-! ### t < u, t + u -/
end
end L2

namespace L2
open PySem PySem.Spec PyProof.Rows

/-! ### places -/
/-- the place that an index of any sign means -/
def ixN (n : Nat) (i : Int) : Option Nat := if 0 ≤ i then (if i < n then some i.toNat else none) else if -(n : Int) ≤ i then some (i + n).toNat else none
def atI {α : Type} (xs : List α) (i : Int) : Option α := (ixN xs.length i).bind fun j => xs[j]?
theorem ixN_seq {n : Nat} {i : Int} {j : Nat} (h : ixN n i = some j) : seqIndex? i n = some j ∧ j < n ∧ -(n : Int) ≤ i ∧ i < n := by
  unfold ixN at h
  by_cases h0 : 0 ≤ i
  · rw [if_pos h0] at h
    by_cases h1 : i < n
    · rw [if_pos h1] at h
      have e : i.toNat = j := Option.some.inj h
      exact ⟨by rw [seqIndex_of h0 h1, e], by omega, by omega, h1⟩
    · rw [if_neg h1] at h; cases h
  · rw [if_neg h0] at h
    by_cases h1 : -(n : Int) ≤ i
    · rw [if_pos h1] at h
      have e : (i + n).toNat = j := Option.some.inj h
      exact ⟨by rw [seqIndex_neg (by omega) h1, e], by omega, h1, by omega⟩
    · rw [if_neg h1] at h; cases h
theorem atI_get {α : Type} {xs : List α} {i : Int} {v : α} (h : atI xs i = some v) : ∃ j, seqIndex? i xs.length = some j ∧ xs[j]? = some v ∧ j < xs.length ∧ -(xs.length : Int) ≤ i ∧ i < xs.length := by
  unfold atI at h
  cases e : ixN xs.length i with
  | none => rw [e] at h; cases h
  | some j =>
    rw [e] at h
    obtain ⟨h1, h2, h3, h4⟩ := ixN_seq e
    exact ⟨j, h1, h, h2, h3, h4⟩
theorem atI_nat {α : Type} {xs : List α} {j : Nat} {v : α} (h : xs[j]? = some v) : atI xs (j : Int) = some v := by
  have hj : j < xs.length := (List.getElem?_eq_some_iff.mp h).1
  have e : ixN xs.length (j : Int) = some j := by
    unfold ixN
    rw [if_pos (by omega), if_pos (by omega)]; simp
  unfold atI; rw [e]; exact h
/-! ### what may be subscripted -/
/-- what stands as an index of a plain subscript -/
def PlainIx (b : Expr) : Prop := ∀ o i, subscripted b false o i = operate [o, i] (getItem o i)
/-- a subscript by values -/
def IxR (X : Cx) (r : R2) : Prop :=
  ∀ (value slice : Expr) (pins : List (Addr × Obj)) (s : Shared) (σ : St) (H : Hp) (x y : V) (v u : Value) (Q : VK), Inv X pins σ H s → RelV x v → RelV y u → r x y H Q →
    subscripted slice false v u = operate [v, u] (getItem v u) → wpAny (model X.prog X.w) X.A (subscriptTail value slice v u) (EP X pins σ Q) X.xe s
/-- a call of a builtin's method by values: the receiver, the arguments -/
def MtR (X : Cx) (id : String) (r : V → List V → Hp → VK → Prop) : Prop :=
  ∀ (pins : List (Addr × Obj)) (s : Shared) (σ : St) (H : Hp) (x : V) (xs : List V) (v : Value) (us : List Value) (Q : VK), Inv X pins σ H s → RelV x v → Vals xs us → r x xs H Q →
    wpAny (model X.prog X.w) X.A (call (.builtin id) (v :: us)) (EP X pins σ Q) X.xe s
section
variable {X : Cx} {a b : Expr} {ta tb : TE} {pos : Pos}
/-- a[b] -/
theorem pe_ix {r : R2} (hr : IxR X r) (ha : PE X a ta) (hb : PE X b tb) (hs : PlainIx b) : PE X (.Subscript a b pos) (tOp r ta tb) := by
  intro pins s σ H Q I h
  exact Subscript_ (binT ha hb I h fun v u s2 x y H2 I2 rx ry q => hr a b pins s2 σ H2 x y v u Q I2 rx ry q (hs _ _))

def rIxL (K : PySem.W.Frag) : R2 := fun x y H Q => ∃ p xs i v, x = .ref p ∧ y = .int i ∧ SqL K H p xs ∧ atI xs i = some v ∧ Q v H
theorem ix_list : IxR X (rIxL X.K) := by
  intro value slice pins s σ H x y v u Q I rx ry h hs
  obtain ⟨p, xs, i, z, rfl, rfl, hq, he, q⟩ := h
  cases rx
  obtain ⟨t, rfl⟩ := ry
  obtain ⟨its, r, pl, hz⟩ := I.list hq
  obtain ⟨j, h1, h2, h3, h4, h5⟩ := atI_get he
  obtain ⟨w, ew, rw'⟩ := r.get h2
  have hl := r.length
  have hn := line63
  have fin : EP X pins σ Q w s := ⟨z, H, I, rw', q⟩
  by_cases h0 : 0 ≤ i
  · have hj : i.toNat = j := by
      rw [seqIndex_of h0 h5] at h1
      exact Option.some.inj h1
    exact item_listR pl.isList h0 (by omega) (by rw [hj]; simpa using ew) fin hs
  · have hj : (i + (its.toArray.size : Int)).toNat = j := by
      rw [seqIndex_neg (by omega) h4] at h1
      rw [List.size_toArray, ← hl]
      exact Option.some.inj h1
    exact subscriptTail_builtinR (x := w) pl.isList.typeIs slot_list_getitem.lookup
      (wpAny_getItem_list_neg (Q := fun r s' => r = w ∧ EP X pins σ Q r s') pl.isList (by omega) (by rw [List.size_toArray] <;> omega) (by omega) (by rw [hj]; simpa using ew) ⟨rfl, fin⟩) hs
/-! ### xs[i] = v, any sign -/
/-- the list's object behind a store -/
theorem mapSeq_set (its : List Value) (n j : Nat) (u : Value) : Obj.mapSeq (·.setIfInBounds j u) { cls := .type "list", data := .seq its.toArray n } = { cls := .type "list", data := .seq (its.set j u).toArray n } := by
  simp [Obj.mapSeq]
theorem Inv.lst {pins : List (Addr × Obj)} {σ : St} {H : Hp} {s : Shared} {p : Addr} {xs : List V} (I : Inv X pins σ H s) (h : H p = some (.lst xs)) :
    ∃ (its : List Value) (n : Nat), Vals xs its ∧ s.heap.get? p = some { cls := .type "list", data := .seq its.toArray n } ∧ xs.length ≤ sizeLine := by
  obtain ⟨z, its, n, r, e⟩ := I.hok p _ h
  exact ⟨its, n, r, e, z⟩
/-- the list at p is written by an update of its object -/
theorem Inv.lstUpd {pins : List (Addr × Obj)} {σ : St} {H : Hp} {s : Shared} {p : Addr} {xs ys : List V} {its its' : List Value} {n n' : Nat} {f : Obj → Obj} (I : Inv X pins σ H s) (h : H p = some (.lst xs))
    (ho : s.heap.get? p = some { cls := .type "list", data := .seq its.toArray n }) (hf : f { cls := .type "list", data := .seq its.toArray n } = { cls := .type "list", data := .seq its'.toArray n' }) (r : Vals ys its') (hz : ys.length ≤ sizeLine) (t : Nat) :
    Inv X pins σ (upd H p (.lst ys)) { s with heap := s.heap.update p f, toks := t } := by
  have e : (s.heap.update p f).get? p = some { cls := .type "list", data := .seq its'.toArray n' } := by
    rw [Heap.get?_update_self f ho (by rw [hf] <;> rfl), hf]
  refine I.write (x := p) (e := p) (by rw [h]; trivial) (.inl rfl) (fun b u hb q => (Heap.get?_update_other _ _ (Ne.symm hb)).trans q) ⟨_, e⟩ ?_
  exact ⟨hz, its', n', r, e⟩
def rSetL : V → V → V → Hp → (Hp → Prop) → Prop := fun o i v H Q => ∃ p xs k j, o = .ref p ∧ i = .int k ∧ H p = some (.lst xs) ∧ ixN xs.length k = some j ∧ Q (upd H p (.lst (xs.set j v)))
theorem set_list : PSet X rSetL := by
  intro pins s σ H o i v ov iv u Q I ro ri rv h
  obtain ⟨p, xs, k, j, rfl, rfl, hp, hj, q⟩ := h
  cases ro
  obtain ⟨t, rfl⟩ := ri
  obtain ⟨its, n, r, ho, hz⟩ := I.lst hp
  obtain ⟨h1, h2, h3, h4⟩ := ixN_seq hj
  have hl := r.length
  have hn := line63
  have I' : Inv X pins σ (upd H p (.lst (xs.set j v))) { s with heap := s.heap.update p (Obj.mapSeq (·.setIfInBounds j u)) } :=
    I.lstUpd hp ho (mapSeq_set its n j u) (r.set rv j) (by rw [List.length_set]; exact hz) s.toks
  by_cases h0 : 0 ≤ k
  · have hk : k.toNat = j := by
      rw [seqIndex_of h0 h4] at h1
      exact Option.some.inj h1
    exact PySem.W.ki_setAt ho h0 (by omega) (by rw [List.size_toArray, ← hl]; exact h4) (by rw [hk]; exact ⟨_, I', q⟩)
  · have hk : (k + (its.toArray.size : Int)).toNat = j := by
      rw [seqIndex_neg (by omega) h3] at h1
      rw [List.size_toArray, ← hl]
      exact Option.some.inj h1
    exact PySem.W.ki_setBack ho (by omega) (by rw [List.size_toArray, ← hl]; exact h3) (by omega) (by rw [hk]; exact ⟨_, I', q⟩)

/-! ### slices -/
/-! ### in, not in: flat items -/
def flatV : V → Bool
  | .non => true
  | .bl _ => true
  | .int _ => true
  | .str _ => true
  | _ => false
/-- == of flat values -/
def eqV : V → V → Bool
  | .non, .non => true
  | .bl a, .bl b => a == b
  | .bl a, .int b => (if a then 1 else 0) == b
  | .int a, .bl b => a == (if b then 1 else 0)
  | .int a, .int b => a == b
  | .str a, .str b => a == b
  | _, _ => false
theorem eqAt_V {A : Around} {s : Shared} {y x : V} {u v : Value} (ry : RelV y u) (rx : RelV x v) (fy : flatV y = true) (fx : flatV x = true) : SeqAt.EqAt A s u v (eqV y x) := by
  cases y with
  | non =>
    cases ry
    cases x with
    | non => cases rx; exact SeqAt.EqAt.same _
    | bl b => cases rx; exact SeqAt.EqAt.none_bool b
    | int b => obtain ⟨t, rfl⟩ := rx; exact SeqAt.EqAt.none_int b t
    | str b => obtain ⟨t, rfl⟩ := rx; exact SeqAt.EqAt.none_str b t
    | _ => exact absurd (show false = true from fx) Bool.false_ne_true
  | bl a =>
    cases ry
    cases x with
    | non => cases rx; exact SeqAt.EqAt.bool_none a
    | bl b => cases rx; exact SeqAt.EqAt.bool_bool a b
    | int b => obtain ⟨t, rfl⟩ := rx; exact SeqAt.EqAt.bool_int a b t
    | str b => obtain ⟨t, rfl⟩ := rx; exact SeqAt.EqAt.bool_str a b t
    | _ => exact absurd (show false = true from fx) Bool.false_ne_true
  | int a =>
    obtain ⟨t', rfl⟩ := ry
    cases x with
    | non => cases rx; exact SeqAt.EqAt.int_none a t'
    | bl b => cases rx; exact SeqAt.EqAt.int_bool a t' b
    | int b => obtain ⟨t, rfl⟩ := rx; exact SeqAt.EqAt.int_int a t' b t
    | str b => obtain ⟨t, rfl⟩ := rx; exact SeqAt.EqAt.int_str a t' b t
    | _ => exact absurd (show false = true from fx) Bool.false_ne_true
  | str a =>
    obtain ⟨t', rfl⟩ := ry
    cases x with
    | non => cases rx; exact SeqAt.EqAt.str_none a t'
    | bl b => cases rx; exact SeqAt.EqAt.str_bool a t' b
    | int b => obtain ⟨t, rfl⟩ := rx; exact SeqAt.EqAt.str_int a t' b t
    | str b => obtain ⟨t, rfl⟩ := rx; exact SeqAt.EqAt.str_str a t' b t
    | _ => exact absurd (show false = true from fx) Bool.false_ne_true
  | _ => exact absurd (show false = true from fy) Bool.false_ne_true
/-- the items' answers, read off the values (a value's own answer does not lean on its token) -/
def eqU (x : V) (u : Value) : Bool := match u with
  | .none => eqV .non x
  | .bool b => eqV (.bl b) x
  | .int i _ => eqV (.int i) x
  | .str z _ => eqV (.str z) x
  | _ => false
theorem eqU_of {x y : V} {u : Value} (r : RelV y u) (f : flatV y = true) : eqU x u = eqV y x := by
  cases y with
  | non => cases r; rfl
  | bl b => cases r; rfl
  | int i => obtain ⟨t, rfl⟩ := r; rfl
  | str z => obtain ⟨t, rfl⟩ := r; rfl
  | _ => exact absurd (show false = true from f) Bool.false_ne_true
theorem mem_eqAt {A : Around} {s : Shared} {x : V} {v : Value} (rx : RelV x v) (fx : flatV x = true) : ∀ {xs : List V} {us : List Value}, Vals xs us → xs.all flatV = true → ∀ u ∈ us, SeqAt.EqAt A s u v (eqU x u)
  | _, _, .nil, _ => fun u hu => by cases hu
  | y :: xs, u :: us, .cons r t, f => fun u' hu => by
    rw [List.all_cons, Bool.and_eq_true] at f
    rcases List.mem_cons.mp hu with rfl | hu
    · rw [eqU_of r f.1]; exact eqAt_V r rx f.1 fx
    · exact mem_eqAt rx fx t f.2 u' hu
/-! ### len, list(x), tuple(x) of any list or tuple that is read -/
theorem call_len_seq : CallR X (.builtin "len") (fun xs H Q => ∃ p ys, xs = [.ref p] ∧ (SqL X.K H p ys ∨ SqT X.K H p ys) ∧ Q (.int ys.length) H) := by
  intro pins s σ H xs us Q I r h
  obtain ⟨p, ys, rfl, hq, q⟩ := h
  obtain ⟨u, rfl, rx⟩ := vals1 r
  cases rx
  have hn := line63
  rcases hq with hq | hq
  · obtain ⟨its, r', pl, hz⟩ := I.list hq
    have hlen := r'.length
    exact Calls.call_len_list pl.isList (by simp only [List.size_toArray] <;> omega) ⟨.int ys.length, H, I.tok _, ⟨s.toks + 1, by rw [List.size_toArray, hlen]⟩, q⟩
  · obtain ⟨its, r', pl, hz⟩ := I.tuple hq
    have hlen := r'.length
    exact len_tuple pl (by simp only [List.size_toArray] <;> omega) ⟨.int ys.length, H, I.tok _, ⟨s.toks + 1, by rw [List.size_toArray, hlen]⟩, q⟩
theorem call_list_of : CallR X (.type "list") (fun xs H Q => ∃ p ys, xs = [.ref p] ∧ (SqL X.K H p ys ∨ SqT X.K H p ys) ∧ ∀ l, H l = none → Q (.ref l) (upd H l (.lst ys))) := by
  intro pins s σ H xs us Q I r h
  obtain ⟨p, ys, rfl, hq, q⟩ := h
  obtain ⟨u, rfl, rx⟩ := vals1 r
  cases rx
  have fin : ∀ (its : List Value), Vals ys its → ys.length ≤ sizeLine → ∀ (h' : Heap) (c' : Nat), (∀ b o', s.heap.get? b = some o' → h'.get? b = some o') →
      h'.get? s.heap.objs.size = some { cls := .type "list", dict := none, data := .seq its.toArray c', slots := #[] } → EP X pins σ Q (.ref s.heap.objs.size) { s with heap := h' } := fun its r' hz h' c' kp e =>
    ⟨.ref s.heap.objs.size, _, I.laid (t' := s.toks) kp (Nat.le_refl _) (show ObjOk X.prog X.w _ h' _ (.lst ys) from ⟨hz, its, c', r', e⟩), rfl, q _ (I.hok.fresh (Nat.le_refl _))⟩
  rcases hq with hq | hq
  · obtain ⟨its, r', pl, hz⟩ := I.list hq
    have hlen := r'.length
    obtain ⟨o, ho, hc, n, hd⟩ := pl.isList
    exact call_list_seq p (.inl rfl) ho hc hd (fun h' c' kp e => fin its r' hz h' c' kp e) (by simp only [List.size_toArray] <;> omega)
  · obtain ⟨its, r', pl, hz⟩ := I.tuple hq
    have hlen := r'.length
    obtain ⟨o, ho, hc, n, hd⟩ := pl
    exact call_list_seq p (.inr rfl) ho hc hd (fun h' c' kp e => fin its r' hz h' c' kp e) (by simp only [List.size_toArray] <;> omega)
theorem call_tuple_of : CallR X (.type "tuple") (fun xs H Q => ∃ p ys, xs = [.ref p] ∧ ((SqL X.K H p ys ∧ ∀ l, H l = none → Q (.ref l) (upd H l (.tup ys))) ∨ (SqT X.K H p ys ∧ Q (.ref p) H))) := by
  intro pins s σ H xs us Q I r h
  obtain ⟨p, ys, rfl, h⟩ := h
  obtain ⟨u, rfl, rx⟩ := vals1 r
  cases rx
  rcases h with ⟨hq, q⟩ | ⟨hq, q⟩
  · obtain ⟨its, r', pl, hz⟩ := I.list hq
    have hlen := r'.length
    refine call_tuple_list pl.isList (fun h' kp => ?_) (by simp only [List.size_toArray] <;> omega)
    have I1 : Inv X pins σ H { s with heap := h' } := I.kept (t' := s.toks) kp
    have I2 : Inv X pins σ (upd H h'.objs.size (.tup ys)) { s with heap := h'.push { cls := .type "tuple", data := .seq its.toArray } } :=
      I1.laid (t' := s.toks) (fun b o e => Heap.get?_push_of_some _ e) (Nat.le_refl _) (show ObjOk X.prog X.w _ _ _ (.tup ys) from ⟨hz, its, r', IsTup.new _ _, tup_nodict⟩)
    exact ⟨.ref h'.objs.size, _, I2, rfl, q _ (I1.hok.fresh (Nat.le_refl _))⟩
  · obtain ⟨its, r', pl, hz⟩ := I.tuple hq
    exact call_tuple_same pl ⟨.ref p, H, I, rfl, q⟩

/-! ### the call of a builtin's method: o.m(..) -/
/-- the value is of that builtin type -/
def tyV (K : PySem.W.Frag) (T : String) (x : V) (H : Hp) : Prop := match x with
  | .str _ => T = "str"
  | .int _ => T = "int"
  | .ref p => (T = "list" ∧ ∃ xs, SqL K H p xs) ∨ (T = "tuple" ∧ ((∃ o, K.lookup p = some o ∧ o.cls = .type "tuple" ∧ o.dict = none) ∨ ∃ xs, H p = some (.tup xs))) ∨
      (T = "dict" ∧ ((∃ kvs, H p = some (.dK kvs)) ∨ ∃ kvs, H p = some (.dT kvs))) ∨ (T = "set" ∧ ∃ S n, H p = some (.set S n))
  | _ => False
theorem tyV_is {pins : List (Addr × Obj)} {σ : St} {H : Hp} {s : Shared} {T : String} {x : V} {v : Value} (I : Inv X pins σ H s) (r : RelV x v) (ty : tyV X.K T x H) :
    s.TypeIs v T ∧ ∀ a, v = .ref a → ∃ ob, s.heap.get? a = some ob ∧ ob.dict = none := by
  cases x with
  | str z =>
    obtain ⟨t, rfl⟩ := r
    cases (show T = "str" from ty)
    exact ⟨typeIs_str s z t, fun _ e => nomatch e⟩
  | int i =>
    obtain ⟨t, rfl⟩ := r
    cases (show T = "int" from ty)
    exact ⟨typeIs_int s i t, fun _ e => nomatch e⟩
  | ref p =>
    cases r
    rcases ty with ⟨rfl, xs, hq⟩ | ⟨rfl, ⟨o, hk, hc, hd⟩ | ⟨xs, hk⟩⟩ | ⟨rfl, hk⟩ | ⟨rfl, S, n, hk⟩
    · obtain ⟨its, _, pl, _⟩ := I.list hq
      refine ⟨pl.isList.typeIs, fun a e => ?_⟩
      cases e
      obtain ⟨o, n, e, c, hd, _⟩ := pl
      exact ⟨o, e, hd⟩
    · refine ⟨⟨o, I.kIn p o hk, hc⟩, fun a e => ?_⟩
      cases e
      exact ⟨o, I.kIn _ o hk, hd⟩
    · obtain ⟨_, _, _, ⟨o, e, hc, _⟩, nd⟩ := (show ObjOk X.prog X.w H s.heap p (.tup xs) from I.hok p _ hk)
      refine ⟨⟨o, e, hc⟩, fun a e2 => ?_⟩
      cases e2
      exact ⟨o, e, nd o e⟩
    · have z : ∃ o, s.heap.get? p = some o ∧ o.ExactDict := by
        rcases hk with ⟨kvs, hk⟩ | ⟨kvs, hk⟩
        · obtain ⟨_, _, _, _, o, _, _, e, ex, _⟩ := I.hok p _ hk
          exact ⟨o, e, ex⟩
        · obtain ⟨_, _, _, _, o, _, _, e, ex, _⟩ := I.hok p _ hk
          exact ⟨o, e, ex⟩
      obtain ⟨o, e, ex⟩ := z
      refine ⟨⟨o, e, ex.1⟩, fun a e2 => ?_⟩
      cases e2
      exact ⟨o, e, ex.2.1⟩
    · obtain ⟨o, _, _, _, e, ex, _⟩ := I.hok p _ hk
      refine ⟨⟨o, e, ex.1⟩, fun a e2 => ?_⟩
      cases e2
      exact ⟨o, e, ex.2.1⟩
  | _ => exact False.elim ty
def tBM (K : PySem.W.Frag) (T : String) (r : V → List V → Hp → VK → Prop) (to : TE) (t : TA) : TE := fun σ H Q => to σ H fun x H1 => tyV K T x H1 ∧ t σ H1 fun xs H2 => r x xs H2 Q
variable {o e : Expr} {es : List Expr} {to : TE} {t : TA} {name : Str} {apos cpos : Pos} {T id : String} {r : V → List V → Hp → VK → Prop}
theorem pe_bm (pa : PlainAttrs T) (slot : Slot T name id) (hty : typeOf (.builtin id) = pure (.type "method_descriptor")) (hm : MtR X id r) (ho : PE X o to) (ha : PA X (e :: es) t)
    (hbase : attributeBase o name X.env (eval o X.env) = eval o X.env := by rfl)
    (hfew : ((backTo cpos (starEach (e :: es) X.env)).all (fun x => !x.1) && (backToKw cpos (keywordEach [] X.env)).all (fun x => x.1.isSome)
      && decide ((e :: es).length + ([] : List Keyword).length + (if ([] : List Keyword).isEmpty then 0 else 1) < 30)) = true := by rfl)
    (hline : (apos.endLine == cpos.line) = true := by rfl) (hs : starEach (e :: es) X.env = (false, eval e X.env) :: starEach es X.env := by rfl) (hplain : (backTo cpos (starEach es X.env)).any (·.1) = false := by rfl) :
    PE X (.Call (.Attribute o name apos) (e :: es) [] cpos) (tBM X.K T r to t) := by
  intro pins s σ H Q I h
  refine wpAny_Call_method_late hbase hfew hline rfl (thn (ho pins s σ H _ I h) fun v s1 ⟨x, H1, I1, r1, ty, q1⟩ => ?_)
  obtain ⟨h1, h2⟩ := tyV_is I1 r1 ty
  refine ⟨T, id, pa, slot, hty, h1, h2, ?_⟩
  have hA := ha cpos pins s1 σ H1 _ I1 q1
  rw [hs] at hA ⊢
  refine Calls.callWith_builtin (by show (false || (backTo cpos (starEach es X.env)).any (·.1)) = false; rw [hplain] <;> rfl) (Calls.evalArgs_plain ?_)
  exact thn hA fun us s2 ⟨vs, H2, I2, r2, q2⟩ => hm pins s2 σ H2 x vs v us Q I2 r1 r2 q2
/- xs.append(e), list.index on a module's tuple .. are MtR facts of 06m -/
end
end L2

namespace L2
open PySem PySem.Spec PyProof.Rows

def MtM (X : Cx) (id : String) (r : V → List V → Hp → VK → Prop) : Prop :=
  ∀ (pins : List (Addr × Obj)) (s : Shared) (σ : St) (H : Hp) (x : V) (xs : List V) (v : Value) (us : List Value) (Q : VK), Inv X pins σ H s → RelV x v → Vals xs us → r x xs H Q →
    wpAny (model X.prog X.w) X.A (call (.builtin id) (v :: us)) (EP X pins σ Q) X.xe s

/-! ### lists of values -/
theorem Vals.one : ∀ {x : V} {us : List Value}, Vals [x] us → ∃ u, us = [u] ∧ RelV x u
  | _, _, .cons r .nil => ⟨_, rfl, r⟩
theorem Vals.eraseIdx : ∀ {xs : List V} {us : List Value} (i : Nat), Vals xs us → Vals (xs.eraseIdx i) (us.eraseIdx i)
  | _, _, _, .nil => .nil
  | _, _, 0, .cons _ t => t
  | _, _, i + 1, .cons r t => .cons r (Vals.eraseIdx i t)
theorem len_erase {α : Type} : ∀ (l : List α) (i : Nat), (l.eraseIdx i).length ≤ l.length
  | [], _ => Nat.le_refl _
  | _ :: _, 0 => Nat.le_succ _
  | _ :: r, i + 1 => Nat.succ_le_succ (len_erase r i)
section
variable {X : Cx} {pins : List (Addr × Obj)} {σ : St} {H : Hp} {s : Shared} {l b : Addr} {xs ys zs : List V}

/-! ### the two steps: a tracked list is rewritten, a new list is laid -/
theorem Inv.lset {its its' : List Value} {n : Nat} {f : Array Value → Array Value} {t' : Nat} (I : Inv X pins σ H s) (hH : H l = some (.lst xs))
    (e : s.heap.get? l = some { cls := .type "list", data := .seq its.toArray n }) (hf : f its.toArray = its'.toArray) (hv : Vals ys its') (hz : ys.length ≤ sizeLine) :
    Inv X pins σ (upd H l (.lst ys)) { s with heap := s.heap.update l (Obj.mapSeq f), toks := t' } := by
  have q := PySem.IsL.update e f
  rw [hf] at q
  refine I.write (x := l) (e := l) (by rw [hH]; exact trivial) (.inl rfl) (fun b' u hb hu => (Heap.get?_update_other s.heap (Obj.mapSeq f) (Ne.symm hb)).trans hu) ⟨_, q⟩ ?_
  exact ⟨hz, its', _, hv, q⟩
theorem Inv.lnew {its : List Value} {t' : Nat} (I : Inv X pins σ H s) (hv : Vals ys its) (hz : ys.length ≤ sizeLine) :
    Inv X pins σ (upd H s.heap.objs.size (.lst ys)) { s with heap := s.heap.push { cls := .type "list", data := .seq its.toArray }, toks := t' } :=
  I.laid (fun _ _ q => Heap.get?_push_of_some _ q) (Nat.le_refl _) ⟨hz, its, 0, hv, Heap.get?_push_size _ rfl⟩
theorem Inv.fresh (I : Inv X pins σ H s) : H s.heap.objs.size = none := I.hok.fresh (Nat.le_refl _)
theorem Inv.lstM (I : Inv X pins σ H s) (hH : H l = some (.lst xs)) : xs.length ≤ sizeLine ∧ ∃ (its : List Value) (n : Nat), Vals xs its ∧ xs.length = its.length ∧ s.heap.get? l = some { cls := .type "list", data := .seq its.toArray n } := by
  obtain ⟨z, its, n, r, e⟩ := I.hok l _ hH
  exact ⟨z, its, n, r, r.length, e⟩

end

section
variable {X : Cx}

/-! ### methods -/
def rAppend : V → List V → Hp → VK → Prop := fun x vs H Q => ∃ l xs y, x = .ref l ∧ vs = [y] ∧ H l = some (.lst xs) ∧ xs.length < sizeLine ∧ Q .non (upd H l (.lst (xs ++ [y])))
theorem mt_append : MtM X "list.append" rAppend := by
  intro pins s σ H x vs v us Q I rx rv h
  obtain ⟨l, xs, y, rfl, rfl, hH, hz, q⟩ := h
  cases rx
  obtain ⟨u, rfl, ru⟩ := rv.one
  obtain ⟨z, its, n, r, hl, e⟩ := I.lstM hH
  refine call_meets F.slot_list_append ⟨_, e, rfl⟩ F.entry_list_append (F.args_list_append_2 _ _) (PySem.list_append l its.toArray n u (by rw [List.size_toArray]; omega)) ⟨e, ?_⟩
  refine ⟨.non, _, I.lset (its' := its ++ [u]) hH e (by simp) (r.append (.cons ru .nil)) ?_, rfl, q⟩
  rw [List.length_append, List.length_singleton]
  omega

def rPopAt : V → List V → Hp → VK → Prop := fun x vs H Q => ∃ l xs i k y, x = .ref l ∧ vs = [.int i] ∧ H l = some (.lst xs) ∧ -(2 ^ 63) ≤ i ∧ i < 2 ^ 63 ∧ seqIndex? i xs.length = some k ∧ xs[k]? = some y ∧ Q y (upd H l (.lst (xs.eraseIdx k)))
theorem mt_popAt : MtM X "list.pop" rPopAt := by
  intro pins s σ H x vs v us Q I rx rv h
  obtain ⟨l, xs, i, k, y, rfl, rfl, hH, h1, h2, hk, hy, q⟩ := h
  cases rx
  obtain ⟨u, rfl, ru⟩ := rv.one
  obtain ⟨t, rfl⟩ := ru
  obtain ⟨z, its, n, r, hl, e⟩ := I.lstM hH
  obtain ⟨w, hw, rw'⟩ := r.get hy
  refine call_meets F.slot_list_pop ⟨_, e, rfl⟩ F.entry_list_pop (F.args_list_pop_2 _ _)
    (MeetsSeq.list_pop_at l its.toArray n i t k w (fitsIndex_both h1 h2) (by rw [List.size_toArray, ← hl]; exact hk) (by rw [← Array.getElem?_toList]; exact hw) (by rw [List.size_toArray]; omega)) ⟨e, ?_⟩
  refine ⟨y, _, I.lset (its' := its.eraseIdx k) hH e ?_ (r.eraseIdx k) ?_, rw', q⟩
  · show its.toArray.eraseIdxIfInBounds k = (its.eraseIdx k).toArray
    rw [List.eraseIdxIfInBounds_toArray]
  · have := len_erase xs k
    omega

/-! ### list + list, list += list, list * int -/
def rCat : R2 := fun x y H Q => ∃ l b xs zs, x = .ref l ∧ y = .ref b ∧ H l = some (.lst xs) ∧ H b = some (.lst zs) ∧ xs.length + zs.length ≤ sizeLine ∧ ∀ p, H p = none → Q (.ref p) (upd H p (.lst (xs ++ zs)))
theorem op_cat : OpR X (binaryOp .Add) rCat := by
  intro pins s σ H x y v u Q I rx ry h
  obtain ⟨l, b, xs, zs, rfl, rfl, hH, hB, hz, q⟩ := h
  cases rx
  cases ry
  obtain ⟨z, its, n, r, hl, e⟩ := I.lstM hH
  obtain ⟨z2, its2, n2, r2, hl2, e2⟩ := I.lstM hB
  refine PySem.P.add_list e e2 ?_ (by rw [List.size_toArray, List.size_toArray]; omega)
  have ea : its.toArray ++ its2.toArray = (its ++ its2).toArray := by simp
  rw [ea]
  exact ⟨.ref _, _, I.lnew (t' := s.toks) (r.append r2) (by rw [List.length_append]; omega), rfl, q _ I.fresh⟩
/-! ### del xs[i] -/
end

/-! ### xs[a:b] = ys -/
section
variable {prog : Program} {w : World} {A : Around} {E : Value → Shared → Prop} {s : Shared}
end

section
variable {X : Cx}
end
end L2

namespace Att
open PySem PySem.W PySem.Calls PyProof.Rows

/-! ### the script -/
theorem ints_of_wellAll {P : Params} {h : Heap} : ∀ (ns : List Int) (vs : List Value), WellAll P h vs (ns.map WData.int) → IntsAre vs ns := by
  intro ns
  induction ns with
  | nil =>
    intro vs w
    rw [List.map_nil] at w
    cases w
    exact .nil
  | cons n ns ih =>
    intro vs w
    rw [List.map_cons] at w
    cases w with
    | cons a b =>
      cases a
      exact .cons _ _ (ih _ b)

theorem script_of {l : OpenLaw} {n : Nat} (hn : l.most = some n) {P : Params} {h : Heap} {args : List WData} {vals : List Value}
    (hpre : l.row.toRowW.claim.pre args = true) (hwl : WellAll P h vals args) :
    ∃ a vs ns, vals = [Value.ref a] ∧ args = [WData.list (ns.map WData.int)] ∧ h.get? a = some { cls := .type "list", data := .seq vs.toArray } ∧ IntsAre vs ns ∧ ns.length ≤ n := by
  have hsh : WShape.hasAll [] args [.list .int] = true := (pre_splitW hpre).1
  have hc : l.pre.holds [] { args := args } = true := (pre_splitW hpre).2
  obtain ⟨d, r, rfl, h1, h2⟩ := hasAllW_cons hsh
  obtain rfl := hasAllW_nil h2
  obtain ⟨xs, rfl, h3⟩ := hasW_list h1
  obtain ⟨ns, rfl⟩ := items_int h3
  have hlen : ns.length ≤ n := by
    unfold OpenLaw.pre at hc
    have h4 : (WTm.not (.lt (.lit (.int (n : Int))) (.len (.arg 0)))).holds [] { args := [.list (ns.map .int)] } = true := by
      have h4 := (holds_andW hc).1
      rw [hn] at h4
      exact h4
    have h5 := condW_of h4 (w_not (w_lt w_lit (w_len_list (w_arg rfl))))
    rw [List.length_map] at h5
    refine Nat.le_of_not_lt fun q => ?_
    have q' : (n : Int) < ((ns.length : Nat) : Int) := by omega
    first
      | (rw [decide_eq_true q'] at h5; exact absurd h5 (by decide))
      | (simp at h5; omega)
  cases hwl with
  | cons w1 w2 =>
    cases w2
    cases w1 with
    | list ho hall => exact ⟨_, _, ns, rfl, rfl, ho, ints_of_wellAll ns _ hall, hlen⟩

theorem post_true (l : OpenLaw) (args : List WData) : l.row.toRowW.claim.post args (.bool true) args = true :=
  postW_of (r := l.row.toRowW) (X := (true == true))
    (show WShape.has [] (.bool true) .bool = true by first | rfl | decide | simp [WShape.has, WShape.arms, WShape.armsAll])
    (show (WTm.eq .res (.lit (.bool true))).value [] { args := args, res := some (.bool true), after := args } = some (.bool (true == true)) from w_eq_bool (w_res rfl) w_lit) rfl

/-! ### the attachment: holds_open's last premise (the goal 'hc' behind k_head) from a wpAny of the law's body -/
/-- the same from a codeAny of the CALL (for a layer whose function contracts speak of calls) -/
theorem attach_call {l : OpenLaw} {n : Nat} {q : Program} {loose : List Str} {XP : (Str → Option Value) → Heap → Prop} {YP : World → Heap → Prop} {d : DefRec}
    (hn : l.most = some n) (hdf : d.params.defaults = [])
    (call : ∀ (w : World) (s₀ s₁ : Shared) (mg mb : Str → Option Value) (fa : Addr) (o : Obj) (pm cd doc : Value) (a : Addr) (vs : List Value) (ns : List Int),
      Ground q loose [] XP w s₀ mg mb s₁.heap → YP w s₁.heap →
      s₁.heap.get? fa = some o → o.data = .func (docDef d.name d.params d.body d.scope pm cd doc) → s₁.heap.CodeRec cd d.name → mg d.name = some (.ref fa) →
      s₁.heap.get? a = some { cls := .type "list", data := .seq vs.toArray } → IntsAre vs ns → ns.length ≤ n → s₁.gens = #[] →
      codeAny (model l.prog w) callerA (.call (.ref fa) ⟨[.ref a], []⟩) (fun r s' => r = .ok (.ret (.bool true)) ∧ OldK s₁.heap s'.heap ∧ s'.os = s₁.os ∧ AllBare s'.gens) s₁) :
    WalkO q loose XP YP l.row.toRowW d [] (fun f vs => PySem.call f vs) := by
  intro w s₀ s₁ mg mb G Y fa o pm cd doc dV kV ho hd hcd hD hmg hg args vals as hpre hlay hrd hwl hlo
  obtain rfl : dV = .none := Dflts.none hD hdf
  obtain rfl : kV = .none := Dflts.noKw hD
  obtain ⟨a, vs, ns, rfl, rfl, hobj, hints, hlen⟩ := script_of hn hpre hwl
  refine enter_call (codeAny_mono (call w s₀ s₁ mg mb fa o pm cd doc a vs ns G Y ho (fd_plain hd) hcd hmg hobj hints hlen hg) fun r s' hq => ?_)
  obtain ⟨rfl, h2, h3, h4⟩ := hq
  exact ⟨.inl ⟨.bool true, .bool true, [], rfl, fun _ => rfl, .bool true, post_true l _, fun _ => ⟨List.Pairwise.nil, fun _ hm => (nomatch hm)⟩⟩, h2, h3, h4⟩

/-! ### rules over ANY heap (no ledger) from facts about the written part K: the library's own take a ledger (News) for what they write -/
section
variable {prog : Program} {w : World} {A : Around} {E : Value → Shared → Prop} {s : Shared} {K : Frag}

/-! the whole heap as the ledger: makes every rule that writes through a ledger a rule over any heap -/
def ledger (h : Heap) (L d : Addr) : List (Addr × Obj) := (List.range h.objs.size).filterMap fun a => if a = L ∨ a = d then none else (h.get? a).map fun o => (a, o)
end
end Att

namespace L2
open PySem PySem.Spec PyProof.Rows

theorem vals_ints : ∀ {vs : List Value} {ns : List Int}, IntsAre vs ns → Vals (ns.map V.int) vs
  | _, _, .nil => .nil
  | _, _, .cons n t h => .cons ⟨t, rfl⟩ (vals_ints h)

/-- nothing is tracked but the script, known to the object (or it is an object of the module) -/
def Only (H : Hp) : Prop := ∀ b, H b = none ∨ ∃ o xs, H b = some (.frz o (.lst xs))

/-- THE HEAD: the law's promise, at the heap behind the top. F, the promise of the law's def, may use that base is part of the heap (so K.In base, base.Ns mainGlobals mg stand in Mod) -/
theorem law_call {P : Program} {w : World} {K : PySem.W.Frag} {mg mb : Str → Option Value} {CX : CXT} {k : Nat} {fa a : Addr} {fd : FuncData} {x : Str} {sp : Sp} {s₁ : Shared} {vs : List Value} {ns : List Int}
    (KX : K.In s₁.heap) (hns : s₁.heap.Ns mainGlobals mg) (hb : s₁.heap.Ns builtinsNs mb) (hbb : ∀ x : Str, x ≠ "__name__" → mb x = bootBuiltins x) (hlim : s₁.heap.NoLimit) (hg : s₁.gens = #[])
    (ha : s₁.heap.get? a = some { cls := .type "list", data := .seq vs.toArray }) (hi : IntsAre vs ns) (hl : ns.length ≤ sizeLine) (hr : Room k callerA)
    (F : ∀ base : Heap, K.In base → base.Ns mainGlobals mg → FnOk P w K mg base CX k fa fd [x] sp) (hbind : ∀ (s : Shared) (u : Value), BindsTo s fd ⟨[u], []⟩ [(x, u)])
    (hsp : ∀ H : Hp, Only H → SqL K H a (ns.map V.int) → sp [.ref a] H (fun v _ => v = .bl true) fun _ _ _ => False)
    (hCX : ∀ H e s', CX [] H s₁ (fun _ _ _ => False) e s' → False) :
    codeAny (model P w) callerA (.call (.ref fa) ⟨[.ref a], []⟩) (fun r s' => r = .ok (.ret (.bool true)) ∧ OldK s₁.heap s'.heap ∧ s'.os = s₁.os ∧ AllBare s'.gens) s₁ := by
  have rv := vals_ints hi
  have lenV := hi.length
  -- from an abstract heap in which nothing but the script may be tracked
  have core : ∀ H : Hp, Only H → SqL K H a (ns.map V.int) → HOk P w H s₁.heap → (∀ b, H b ≠ none → b = a) → (H a ≠ none → K.lookup a = none) →
      codeAny (model P w) callerA (.call (.ref fa) ⟨[.ref a], []⟩) (fun r s' => r = .ok (.ret (.bool true)) ∧ OldK s₁.heap s'.heap ∧ s'.os = s₁.os ∧ AllBare s'.gens) s₁ := by
    intro H hO hS hok hA hK
    have base_of : ∀ {b : Addr} {o : Obj}, s₁.heap.get? b = some o → H b = none → (hidT s₁.heap H).get? b = some o := fun e n => hidT_get e n
    have noA : ∀ {b : Addr} {o : Obj} {es : Array DictEntry} {ep : Nat}, s₁.heap.get? b = some o → o.data = .dict es ep → H b = none := fun {b o es ep} e d => by
      cases q : H b with
      | none => rfl
      | some u =>
        have e' : b = a := hA b (by rw [q]; simp)
        subst e'
        rw [ha] at e; cases e
        have d' : Data.seq vs.toArray _ = Data.dict es ep := d
        cases d'
    have nsK : ∀ {b : Addr} {m : Str → Option Value}, s₁.heap.Ns b m → (hidT s₁.heap H).Ns b m := fun {b m} ⟨o, es, ep, e, d, r⟩ => ⟨o, es, ep, base_of e (noA e d), d, r⟩
    have hKb : K.In (hidT s₁.heap H) := fun b o e => base_of (KX b o e) (by
      cases q : H b with
      | none => rfl
      | some u =>
        have e' : b = a := hA b (by rw [q]; simp)
        subst e'
        rw [hK (by rw [q]; simp)] at e; cases e)
    have hM : Mod K mg (hidT s₁.heap H) := ⟨hKb, nsK hns, ⟨mb, nsK hb, hbb⟩, let ⟨mc, h1, h2⟩ := hlim; ⟨mc, nsK h1, h2⟩⟩
    have e0 : Env0 P w K mg (hidT s₁.heap H) callerA [] s₁ H := ⟨rfl, hM, fun b o e => of_hidT e, Nat.le_of_eq (hidT_size _ _), trivial, fun b hb => absurd (show b ∈ ([] : List Addr) from hb) (by simp), hok, .of_eq hg⟩
    refine codeAny_mono ((F _ hKb (nsK hns)).run callerA [] s₁ H ⟨[.ref a], []⟩ [.ref a] [.ref a] _ _ hr e0 (hbind s₁ (.ref a)) (.cons rfl .nil) (hsp H hO hS)) fun r s' h => ?_
    cases r with
    | error e => exact (hCX H e s' h).elim
    | ok fl =>
      cases fl with
      | next => exact False.elim h
      | brk => exact False.elim h
      | cont => exact False.elim h
      | ret u =>
        obtain ⟨v, H', os, bare, un, hok', r', q⟩ := h
        have q' : v = .bl true := q
        subst q'
        obtain rfl : u = Value.bool true := r'
        refine ⟨rfl, OldK.of_keep fun b o e => ?_, os, bare⟩
        cases q : H b with
        | none => exact un.keep b o e q (by intro z; exact absurd (show b ∈ ([] : List Addr) from z) (by simp)) (by simp)
        | some u =>
          rcases hO b with z | ⟨ob, xs, z⟩
          · rw [q] at z; cases z
          · have z2 := un.frzs b ob _ z
            obtain ⟨e1, _⟩ := hok b _ z
            obtain ⟨e2, _⟩ := hok' b _ z2
            rw [e] at e1; cases e1
            exact e2
  cases hk : K.lookup a with
  | some o =>
    -- the script is one of the module's own objects
    have e := KX a o hk
    rw [ha] at e
    cases e
    refine core (fun _ => none) (fun _ => .inl rfl) (.inr ⟨_, vs.toArray, _, hk, rfl, rfl, rfl, by rw [List.size_toArray, lenV]; exact hl, by simpa using rv⟩) (fun b u z => by have z' : (none : Option HO) = some u := z; cases z') (fun b z => absurd rfl z) fun z => absurd rfl z
  | none =>
    refine core (fun b => if b = a then some (.frz { cls := .type "list", data := .seq vs.toArray } (.lst (ns.map V.int))) else none) (fun b => ?_) (.inl (.inr ⟨{ cls := .type "list", data := .seq vs.toArray }, if_pos rfl⟩)) (fun b u z => ?_) (fun b z => ?_) fun _ => hk
    · by_cases hb : b = a
      · exact .inr ⟨_, _, if_pos hb⟩
      · exact .inl (if_neg hb)
    · by_cases hb : b = a
      · have z' := (if_pos hb).symm.trans z
        cases z'
        subst hb
        exact ⟨ha, by rw [List.length_map]; exact hl, vs, _, rv, ha⟩
      · have z' := (if_neg hb).symm.trans z
        cases z'
    · by_cases hb : b = a
      · exact hb
      · exact absurd (if_neg hb) z
end L2

namespace L2
open PySem PySem.Spec PyProof.Rows

/-- the goal that k_head leaves (case hc), from the law's promise. F gives the function object fd (K's own) once, then the promise over every base -/
theorem walk_of {l : PySem.W.OpenLaw} {n k : Nat} {q : Program} {loose : List Str} {XP : (Str → Option Value) → Heap → Prop} {YP : World → Heap → Prop} {d : DefRec} {K : Params → PySem.W.Frag} {CX : World → CXT} {sp : World → Sp} {x : Str}
    (hn : l.most = some n) (hn2 : n ≤ sizeLine) (hdf : d.params.defaults = []) (hr : Room k callerA)
    (hY : ∀ (w : World) (h : Heap), YP w h → (K w.params).In h)
    (F : ∀ (w : World) (mg : Str → Option Value) (fa : Addr) (h : Heap), (K w.params).In h → h.Ns mainGlobals mg → mg d.name = some (.ref fa) →
      ∃ fd : FuncData, (∀ (s : Shared) (u : Value), BindsTo s fd ⟨[u], []⟩ [(x, u)]) ∧
        ∀ base : Heap, (K w.params).In base → base.Ns mainGlobals mg → FnOk l.prog w (K w.params) mg base (CX w) k fa fd [x] (sp w))
    (hsp : ∀ (w : World) (H : Hp) (a : Addr) (ns : List Int), ns.length ≤ n → Only H → SqL (K w.params) H a (ns.map V.int) → sp w [.ref a] H (fun v _ => v = .bl true) fun _ _ _ => False)
    (hCX : ∀ (w : World) (H : Hp) (s : Shared) (e : Value) (s' : Shared), CX w [] H s (fun _ _ _ => False) e s' → False) :
    PySem.W.WalkO q loose XP YP l.row.toRowW d [] (fun f vs => PySem.call f vs) := by
  refine Att.attach_call hn hdf fun w s₀ s₁ mg mb fa o pm cd doc a vs ns G Y ho hd hcd hmg hobj hints hlen hg => ?_
  have KX := hY w _ Y
  obtain ⟨fd, hb, hF⟩ := F w mg fa _ KX G.T.g hmg
  exact law_call KX G.T.g G.T.b G.T.builtins G.T.nolimit hg hobj hints (Nat.le_trans hlen hn2) hr hF hb (fun H hO hS => hsp w H a ns hlen hO hS) fun H e s' => hCX w H s₁ e s'
end L2

/- THE LAST THEOREM (shape; LID, My.* are yours):
   My.Adr: a structure of the addresses that your layer names (classes, functions); My.Txt K t: a structure (Prop) of the equations over K;
   My.txt_mk : {K} {implicit addresses ..} (e1 : nsIn K mainGlobals "law" = some (some (.ref f))) (e2 : K.lookup f = some ⟨oc, od, .func (fnOf "law" "law" params body scope dV kV doc pm an cdv ct), sl⟩) (e3 : codeIn K cdv "law" = true) .. : ∃ t, My.Txt K t

(the tactic k_is has no namespace: write k_is) -/

/-! SHORT WORDS over the layer: a def of the text, its body, what a loop and a test want. -/
namespace L2
open PySem PySem.Spec PyProof.Rows

/-! ### the text by places -/
/-- the j-th statement of a class's body -/
def inClass (s : Stmt) (j : Nat) : Stmt := match s with
  | .ClassDef _ _ _ body _ _ _ _ _ _ _ => body.getD j (.Pass ⟨0, 0, 0, 0⟩)
  | _ => .Pass ⟨0, 0, 0, 0⟩
def defArgs (s : Stmt) : Arguments := match s with
  | .FunctionDef _ a _ _ _ _ _ _ _ _ => a
  | _ => { posonlyargs := [], args := [], vararg := none, kwonlyargs := [], kw_defaults := [], kwarg := none, defaults := [] }
def defBody (s : Stmt) : List Stmt := match s with
  | .FunctionDef _ _ b _ _ _ _ _ _ _ => b
  | _ => []
def defScope (s : Stmt) : Scope := match s with
  | .FunctionDef _ _ _ _ _ _ sc _ _ _ => sc
  | _ => { kind := .function, names := [], isGenerator := false, isCoroutine := false }

/-! ### no exception leaves a def -/
abbrev CX0 : CXT := fun _ _ _ _ _ _ => False
abbrev E0 : XK := fun _ _ _ => False
theorem pass0 {X : Cx} : Passes CX0 X E0 := fun _ _ _ _ _ _ _ h => h.elim

/-! ### a def (or method) of the text as it stands behind the top -/
structure Fun (K : PySem.W.Frag) (x qual : Str) (st : Stmt) (f : Addr) (fd : FuncData) : Prop where
  ex : ∃ (oc : Value) (od : Option Addr) (kV doc pm : Value) (an : Option Addr) (cdv ct : Value) (osl : Array (Option Value)),
    fd = PySem.W.fnOf x qual (defArgs st) (defBody st) (defScope st) .none kV doc pm an cdv ct ∧ K.lookup f = some ⟨oc, od, .func fd, osl⟩ ∧ PySem.W.codeIn K cdv qual = true
  kp : PySem.W.keepIn K (.ref f) = true
section
variable {P : Program} {w : World} {K : PySem.W.Frag} {mg : Str → Option Value} {base : Heap}
/-- THE RULE for a def: its body as a term of rules, and the reading of that term -/
theorem Fun.ok {x qual : Str} {st : Stmt} {f : Addr} {fd : FuncData} {N ps : List Str} {k : Nat} {sp : Sp} {cm : Bool} (F : Fun K x qual st f fd) (S : FnScope N ps (defScope st)) (len : ∀ vs H Q E, sp vs H Q E → vs.length = ps.length)
    (hbody : ∀ (cdv : Value) (A : Around) (outer : List Env) (s : Shared) (H : Hp) (vs : List V) (Q : VK) (E : XK), Room k (A.deeper (envOfC qual (defScope st) s.heap.objs.size f cdv)) cm → sp vs H Q E →
      ∃ t, PSs (cxOf CX0 P w K mg base N qual (defScope st) f cdv A outer s H E cm).nox (defBody st) t ∧ t { nx := fun _ H' => Q .non H', rt := Q } (start N vs) H) : FnOk P w K mg base CX0 (k + 1) f fd ps sp cm := by
  obtain ⟨oc, od, kV, doc, pm, an, cdv, ct, osl, rfl, lk, hcd⟩ := F.ex
  refine fn_of lk hcd S len fun A outer s H vs Q E hr hsp => ?_
  obtain ⟨t, h, q⟩ := hbody cdv A outer s H vs Q E hr hsp
  exact ⟨t, h.nox, q⟩
/-- how its arguments bind (no defaults): h is «fun _ _ _ _ _ _ us hl => match us, hl with | [_, _], _ => rfl», one _ a parameter -/
theorem Fun.binds {x qual : Str} {st : Stmt} {f : Addr} {fd : FuncData} {ps : List Str} (F : Fun K x qual st f fd)
    (h : ∀ (kV doc pm : Value) (an : Option Addr) (cdv ct : Value) (us : List Value), us.length = ps.length → bindArgs (PySem.W.fnOf x qual (defArgs st) (defBody st) (defScope st) .none kV doc pm an cdv ct) ⟨us, []⟩ = pure (ps.zip us)) : Binds K fd ps [] := by
  obtain ⟨oc, od, kV, doc, pm, an, cdv, ct, osl, rfl, lk, hcd⟩ := F.ex
  exact .all (h kV doc pm an cdv ct)
theorem fun_mk {x qual : Str} {st : Stmt} {f : Addr} {oc : Value} {od an : Option Addr} {osl : Array (Option Value)} {kV doc pm cdv ct : Value} (l : K.lookup f = some ⟨oc, od, .func (PySem.W.fnOf x qual (defArgs st) (defBody st) (defScope st) .none kV doc pm an cdv ct), osl⟩)
    (c : PySem.W.codeIn K cdv qual = true) (k : PySem.W.keepIn K (.ref f) = true) : Fun K x qual st f (PySem.W.fnOf x qual (defArgs st) (defBody st) (defScope st) .none kV doc pm an cdv ct) := ⟨⟨oc, od, kV, doc, pm, an, cdv, ct, osl, rfl, l, c⟩, k⟩
end
/-! ### expressions in short: the name that stands in the i-th slot -/
section
variable {X : Cx}
theorem pv (i : Nat) {x : Str} {pos : Pos} (hN : X.N[i]? = some x := by rfl) (hv : Vis X.env.scope x := by first | exact Or.inl rfl | exact Or.inr (Or.inl rfl) | exact Or.inr (Or.inr rfl)) (hd : (x == ("__debug__" : Str)) = false := by decide)
    (hcd : (x == ("__classdict__" : Str)) = false := by decide) : PE X (.Name x pos) (tVar i) := pe_var hN hv hd hcd
end

/-! ### tests -/
theorem iteF {A B : Prop} (h : B) : if false = true then A else B := by
  rw [if_neg Bool.false_ne_true]
  exact h
theorem iteT {A B : Prop} (h : A) : if true = true then A else B := by
  rw [if_pos rfl]
  exact h
theorem ite2 {c A B : Prop} [Decidable c] (h1 : c → A) (h2 : ¬ c → B) : if c then A else B := by
  by_cases h : c
  · rw [if_pos h]
    exact h1 h
  · rw [if_neg h]
    exact h2 h
theorem iteNS {c A B : Prop} [Decidable c] (hc : c) (h : B) : if (!decide c) = true then A else B := by
  rw [decide_eq_true hc]
  exact iteF h

/-! ### heaps -/
/-- all that was tracked is as it was -/
def Same (H H' : Hp) : Prop := ∀ b o, H b = some o → H' b = some o
theorem Same.trans {H H1 H2 : Hp} (a : Same H H1) (b : Same H1 H2) : Same H H2 := fun c o h => b c o (a c o h)
theorem Same.seq {K : PySem.W.Frag} {H H' : Hp} {a : Addr} {xs : List V} (e : Same H H') (h : SqL K H a xs) : SqL K H' a xs := by
  rcases h with (h | ⟨o, h⟩) | h
  · exact .inl (.inl (e _ _ h))
  · exact .inl (.inr ⟨o, e _ _ h⟩)
  · exact .inr h

end L2

set_option Elab.async false
set_option linter.all false
set_option maxRecDepth 100000
/-! ### list comprehensions (one for, none or one test) -/
namespace L2
open PySem PySem.Spec PyProof.Rows

section
variable {prog : Program} {w : World} {A : Around} {R : Result → Shared → Prop} {s : Shared}
theorem comp_loop_any {elt target iter : Expr} {ifs : List Expr} {scope : Scope} {pos : Pos} {it acc : Value} {env : Env} (I : Nat → Shared → Prop)
    (turn : ∀ n s, I n s → wpAny (model prog w) A (pyNext it) (fun r s₁ => match r with
      | none => R (.ok .next) s₁
      | some v => wpAny (model prog w) A (letOwnedTupleGo target it v) (fun _ s₁' => wpAny (model prog w) A (assign target env v) (fun _ s₂ =>
          wpAny (model prog w) A (forIn ifs true fun c r => if r = true then do let ok ← isTrue c env (eval c env); pure (ForInStep.yield ok) else pure (ForInStep.yield r)) (fun ok s₃ =>
            if ok = true then wpAny (model prog w) A (eval elt env) (fun x s₄ =>
              wpAny (model prog w) A (call (.builtin "list.append") [acc, x]) (fun _ s₅ => ∃ m, m < n ∧ I m s₅) (notedBy (model prog w) A env fun e s' => R (.error e) s') s₄) (notedBy (model prog w) A env fun e s' => R (.error e) s') s₃
            else ∃ m, m < n ∧ I m s₃) (notedBy (model prog w) A env fun e s' => R (.error e) s') s₂) (notedBy (model prog w) A env fun e s' => R (.error e) s') s₁') (notedBy (model prog w) A env fun e s' => R (.error e) s') s₁) (notedBy (model prog w) A env fun e s' => R (.error e) s') s)
    (n : Nat) (h : I n s) :
    codeAny (model prog w) A (.compLoop (.ListComp elt [⟨target, iter, ifs, 0⟩] scope pos) 0 it acc env) R s := by
  refine codeAny_loop rfl I (fun n s hI => ?_) n h
  show wpAny _ A ((compTurn (.ListComp elt [⟨target, iter, ifs, 0⟩] scope pos) 0 it acc env).onRaise (fun x => do noteFrame x env; theTreesLotGoes x)) _ _ s
  refine wpAny_noted ?_
  rw [compTurn_list]
  refine wpAny_bind (wpAny_standAt (wpAny_bind (wpAny_mono (turn n s hI) (fun r s₁ h₁ => ?_) fun _ _ h' => h')))
  cases r with
  | none => exact wpAny_pure h₁
  | some v =>
    refine wpAny_bind (wpAny_mono h₁ (fun _ s₁' h₁ => ?_) fun _ _ h' => h')
    refine wpAny_bind (wpAny_mono h₁ (fun _ s₂ h₂ => wpAny_bind (wpAny_mono h₂ (fun ok s₃ h₃ => ?_) fun _ _ h' => h')) fun _ _ h' => h')
    cases ok with
    | false => exact wpAny_pure ⟨rfl, h₃⟩
    | true =>
      exact wpAny_bind (wpAny_bind (wpAny_mono h₃ (fun x s₄ h₄ => wpAny_bind (wpAny_mono h₄ (fun _ s₅ h₅ => wpAny_pure (wpAny_pure ⟨rfl, h₅⟩)) fun _ _ h' => h')) fun _ _ h' => h'))
end

/-- the closure of a comprehension's block -/
def closL (env : Env) : List (Str × NameKind) → List (Str × Addr) → List (Str × Addr)
  | [], cs => cs
  | (n, k) :: r, cs => closL env r (if k == .free then (n, (env.cells.lookup n).getD 0) :: cs else cs)
def clos (scope : Scope) (env : Env) : List (Str × Addr) := closL env scope.names []
theorem forIn_closL {env : Env} : ∀ (ns : List (Str × NameKind)) (cs : List (Str × Addr)), (∀ x ∈ ns, x.2 = .free → ∃ c, env.cells.lookup x.1 = some c) →
    (forIn ns cs fun (x : Str × NameKind) (r : List (Str × Addr)) => (match x with | (name, kind) => if kind == .free then do let c ← cellOf env name; pure (ForInStep.yield ((name, c) :: r)) else pure (ForInStep.yield r) : Sem (ForInStep (List (Str × Addr))))) = (pure (closL env ns cs) : Sem (List (Str × Addr)))
  | [], cs, _ => rfl
  | (n, k) :: r, cs, h => by
    rw [List.forIn_cons]
    by_cases hk : k = .free
    · subst hk
      obtain ⟨c, hc⟩ := h (n, .free) List.mem_cons_self rfl
      have e : cellOf env n = pure c := by
        have hc' : env.cells.lookup n = some c := hc
        unfold cellOf; rw [hc']
      simp only [beq_self_eq_true, if_true, e, pure_bind]
      rw [forIn_closL r _ fun x hx => h x (List.mem_cons_of_mem _ hx)]
      have hc' : env.cells.lookup n = some c := hc
      simp [closL, hc']
    · have hb : (k == NameKind.free) = false := by simpa using hk
      simp only [hb, Bool.false_eq_true, if_false, pure_bind]
      rw [forIn_closL r _ fun x hx => h x (List.mem_cons_of_mem _ hx)]
      simp [closL, hb]
theorem closureFor_eq {scope : Scope} {env : Env} (h : ∀ x ∈ scope.names, x.2 = .free → ∃ c, env.cells.lookup x.1 = some c) : closureFor scope env = pure (clos scope env) := by
  unfold closureFor clos
  have := forIn_closL (env := env) scope.names [] h
  simp only [bind_pure]
  exact this
theorem closL_look {env : Env} {x : Str} {c : Addr} : ∀ (ns : List (Str × NameKind)) (cs : List (Str × Addr)), (∀ y ∈ ns, y.2 = .free → ∃ c, env.cells.lookup y.1 = some c) → (∀ c, cs.lookup x = some c → env.cells.lookup x = some c) →
    (closL env ns cs).lookup x = some c → env.cells.lookup x = some c
  | [], cs, _, hc, e => hc c e
  | (n, k) :: r, cs, h, hc, e => by
    refine closL_look r _ (fun y hy => h y (List.mem_cons_of_mem _ hy)) (fun c' e' => ?_) e
    by_cases hk : k = .free
    · subst hk
      obtain ⟨c₁, h₁⟩ := h (n, .free) List.mem_cons_self rfl
      have h₁' : env.cells.lookup n = some c₁ := h₁
      simp only [beq_self_eq_true, if_true, List.lookup_cons] at e'
      cases hx : x == n with
      | true =>
        rw [hx] at e'
        have hxn : x = n := by simpa using hx
        subst hxn
        rw [h₁'] at e' ⊢
        exact e'
      | false => rw [hx] at e'; exact hc c' e'
    · have hb : (k == NameKind.free) = false := by simpa using hk
      simp only [hb, Bool.false_eq_true, if_false] at e'
      exact hc c' e'
theorem closL_has {env : Env} {x : Str} : ∀ (ns : List (Str × NameKind)) (cs : List (Str × Addr)), ((x, NameKind.free) ∈ ns ∨ ∃ c, cs.lookup x = some c) → ∃ c, (closL env ns cs).lookup x = some c
  | [], cs, h => h.elim (fun z => nomatch z) fun z => z
  | (n, k) :: r, cs, h => by
    refine closL_has r _ ?_
    rcases h with h | ⟨c, h⟩
    · rcases List.mem_cons.mp h with e | h
      · cases e
        right
        simp
      · exact .inl h
    · right
      by_cases hk : k = .free
      · subst hk
        simp only [beq_self_eq_true, if_true, List.lookup_cons]
        cases x == n with
        | true => exact ⟨_, rfl⟩
        | false => exact ⟨c, h⟩
      · have hb : (k == NameKind.free) = false := by simpa using hk
        simp only [hb, Bool.false_eq_true, if_false]
        exact ⟨c, h⟩

theorem relabel_back {env : Env} {x : Str} {k' : NameKind} : ∀ {names : List (Str × NameKind)},
    (names.map fun (n, k) => if (k == NameKind.free && env.scope.kind == .function && env.kindOf n == some .cell) then (n, NameKind.cell) else (n, k)).lookup x = some k' →
    ∃ k, names.lookup x = some k ∧ (x, k) ∈ names ∧ (k' = k ∨ (k = .free ∧ k' = .cell))
  | [], h => by simp at h
  | (n, k) :: r, h => by
    have ih := @relabel_back env x k' r
    have h' : List.lookup x ((if (k == NameKind.free && env.scope.kind == .function && env.kindOf n == some .cell) = true then (n, NameKind.cell) else (n, k)) :: r.map fun (n, k) => if (k == NameKind.free && env.scope.kind == .function && env.kindOf n == some .cell) then (n, NameKind.cell) else (n, k)) = some k' := h
    cases hx : x == n with
    | true =>
      have hxn : x = n := by simpa using hx
      subst hxn
      refine ⟨k, by simp, List.mem_cons_self, ?_⟩
      by_cases hc : (k == NameKind.free && env.scope.kind == .function && env.kindOf x == some .cell) = true
      · rw [if_pos hc] at h'
        simp at h'
        have hk : k = .free := by
          cases k <;> simp at hc ⊢
        exact .inr ⟨hk, h'.symm⟩
      · rw [if_neg hc] at h'
        simp at h'
        exact .inl h'.symm
    | false =>
      have h2 : (r.map fun (n, k) => if (k == NameKind.free && env.scope.kind == .function && env.kindOf n == some .cell) then (n, NameKind.cell) else (n, k)).lookup x = some k' := by
        by_cases hc : (k == NameKind.free && env.scope.kind == .function && env.kindOf n == some .cell) = true
        · rw [if_pos hc] at h'; simp only [List.lookup_cons, hx] at h'; exact h'
        · rw [if_neg hc] at h'; simp only [List.lookup_cons, hx] at h'; exact h'
      obtain ⟨k0, e1, e2, e3⟩ := ih h2
      exact ⟨k0, by simp only [List.lookup_cons, hx]; exact e1, List.mem_cons_of_mem _ e2, e3⟩

/-- the block's context: s, H at the entry, ex the iterator's records -/
def cxC (X : Cx) (scope : Scope) (N : List Str) (C : Addr) (s : Shared) (H : Hp) (ex : List Addr) : Cx :=
  { X with N := N, s₀ := s, H₀ := H, env := compEnvC scope (clos scope X.env) C X.env, outer := X.stack, stack := X.stack, ex := ex, fn := fun _ => false, pn := [], xe := fun _ _ => False }

/-- a comprehension's scope in X; fr: its free names with their slots in X -/
structure CScope (X : Cx) (scope : Scope) (ls : List Str) (fr : List (Str × Nat)) : Prop where
  kind : scope.kind = .function
  nocell : ∀ y ∈ scope.names, y.2 ≠ .cell
  names : ∀ y ∈ scope.names, y.2 = .local → scope.names.lookup y.1 = some .local
  free : ∀ y ∈ scope.names, y.2 = .free → X.env.kindOf y.1 = some .cell ∨ X.env.kindOf y.1 = some .free
  slots : ∀ p ∈ fr, X.N[p.2]? = some p.1 ∧ scope.names.lookup p.1 = some .free

def startC (ls : List Str) (fr : List (Str × Nat)) (σ : St) : St := ls.map (fun _ => none) ++ fr.map fun p => (σ[p.2]?).join
section
variable {X : Cx} {scope : Scope} {ls : List Str} {fr : List (Str × Nat)}
theorem CScope.cells {pins : List (Addr × Obj)} {σ : St} {H : Hp} {s : Shared} (S : CScope X scope ls fr) (I : Inv X pins σ H s) : ∀ x ∈ scope.names, x.2 = .free → ∃ c, X.env.cells.lookup x.1 = some c :=
  fun x hx hk => I.ok.has x.1 (S.free x hx hk)
theorem CScope.look {pins : List (Addr × Obj)} {σ : St} {H : Hp} {s : Shared} (S : CScope X scope ls fr) (I : Inv X pins σ H s) {x : Str} {c : Addr} (e : (clos scope X.env).lookup x = some c) : X.env.cells.lookup x = some c :=
  closL_look scope.names [] (S.cells I) (fun _ z => by simp at z) e

theorem comp_ok {pins : List (Addr × Obj)} {σ : St} {H : Hp} {s : Shared} {C : Addr} {ex : List Addr} (S : CScope X scope ls fr) (I : Inv X pins σ H s) (hC : s.heap.objs.size ≤ C) (hex : ∀ b ∈ ex, FpOk X pins H b ∧ b < s.heap.objs.size) :
    (cxC X scope (ls ++ fr.map (·.1)) C s H ex).Ok where
  mod := I.ok.mod
  kind := S.kind
  glob := I.ok.glob
  blt := I.ok.blt
  above := hC
  inj := fun x y c e1 e2 => I.ok.inj x y c (S.look I e1) (S.look I e2)
  has := fun x h => by
    have h' : ∃ k', (relabel scope X.env).names.lookup x = some k' ∧ (k' = .cell ∨ k' = .free) := h.elim (fun z => ⟨_, z, .inl rfl⟩) fun z => ⟨_, z, .inr rfl⟩
    obtain ⟨k', e, hk⟩ := h'
    obtain ⟨k, e1, e2, e3⟩ := relabel_back e
    refine closL_has scope.names [] (.inl ?_)
    have hn := S.nocell _ e2
    rcases e3 with rfl | ⟨rfl, _⟩
    · rcases hk with rfl | rfl
      · exact absurd rfl hn
      · exact e2
    · exact e2
  cab := fun x c h => nomatch h
  hd := I.ok.hd
  frames := I.ok.frames
  stk := .inl rfl
  exf := fun b hb => by
    obtain ⟨⟨f0, f1, f2, f3, f4, f5⟩, hl⟩ := hex b hb
    exact ⟨Nat.ne_of_lt (Nat.lt_of_lt_of_le hl hC), fun x c e => f4 x c (S.look I e)⟩
  bs := I.bs
  bsz := Nat.le_trans I.ok.bsz I.sz
  noex := fun b o e hb => by
    obtain ⟨⟨f0, f1, f2, f3, f4, f5⟩, hl⟩ := hex b hb
    rcases f3 with z | z
    · exact I.ok.noex b o e z
    · exact absurd (Nat.lt_of_lt_of_le (Heap.lt_size e) (Nat.le_trans I.ok.bsz z)) (Nat.lt_irrefl _)
  exfs := fun b hb hf => by
    obtain ⟨⟨f0, f1, f2, f3, f4, f5⟩, hl⟩ := hex b hb
    exact (List.mem_cons.mp (I.stkSub b hf)).elim f1 f2
  funs := I.stack
  frf := I.stkFree

theorem comp_inv {pins : List (Addr × Obj)} {σ : St} {H : Hp} {s s' : Shared} {C : Addr} {m : Str → Option Value} {ex : List Addr} (S : CScope X scope ls fr) (I : Inv X pins σ H s) (hC : s.heap.objs.size ≤ C) (hex : ∀ b ∈ ex, FpOk X pins H b ∧ b < s.heap.objs.size)
    (ho : s'.os = s.os) (hg : AllBare s'.gens) (k : ∀ b o, s.heap.get? b = some o → s'.heap.get? b = some o) (hn : s'.heap.Ns C m) : Inv (cxC X scope (ls ++ fr.map (·.1)) C s H ex) [] (startC ls fr σ) H s' where
  ok := comp_ok S I hC hex
  os := ho
  bare := hg
  base := Un.kept k
  loc := by
    refine ⟨m, hn, fun i x v e1 e2 e3 => ?_⟩
    have e2' : (ls.map (fun _ => (none : Option V)) ++ fr.map fun p => (σ[p.2]?).join)[i]? = some (some v) := e2
    have e1' : (ls ++ fr.map (·.1))[i]? = some x := e1
    by_cases hi : i < ls.length
    · rw [List.getElem?_append_left (by simpa using hi), List.getElem?_map] at e2'
      cases q : ls[i]? with
      | none => rw [q] at e2'; cases e2'
      | some y => rw [q] at e2'; cases e2'
    · have hi' : ls.length ≤ i := Nat.le_of_not_lt hi
      rw [List.getElem?_append_right (by simpa using hi'), List.getElem?_map, List.length_map] at e2'
      rw [List.getElem?_append_right hi', List.getElem?_map] at e1'
      cases q : fr[i - ls.length]? with
      | none => rw [q] at e1'; cases e1'
      | some p =>
        rw [q] at e1' e2'
        have ex1 : p.1 = x := Option.some.inj e1'
        have hp : p ∈ fr := List.mem_of_getElem? q
        obtain ⟨hsl, hfree⟩ := S.slots p hp
        subst ex1
        have hv : σ[p.2]? = some (some v) := by
          have z : (σ[p.2]?).join = some v := Option.some.inj e2'
          cases w : σ[p.2]? with
          | none => rw [w] at z; cases z
          | some o => rw [w] at z; exact congrArg some z
        obtain ⟨m0, hn0, hl⟩ := id I.loc
        have vis' : ∃ k', (relabel scope X.env).names.lookup p.1 = some k' ∧ (k' = .local ∨ k' = .cell ∨ k' = .free) := by
          rcases e3 with z | z | z
          · exact ⟨_, z, .inl rfl⟩
          · exact ⟨_, z, .inr (.inl rfl)⟩
          · exact ⟨_, z, .inr (.inr rfl)⟩
        obtain ⟨k', ek, _⟩ := vis'
        obtain ⟨k0, f1, f2, f3⟩ := relabel_back ek
        rw [hfree] at f1
        cases f1
        have hk := S.free _ f2 rfl
        have hk' : k' = .cell ∨ k' = .free := f3.elim .inr fun z => .inl z.2
        have hvis : Vis X.env.scope p.1 := hk.elim (fun z => .inr (.inl z)) fun z => .inr (.inr z)
        obtain ⟨u, ru, lk⟩ := hl p.2 p.1 v hsl hv hvis
        obtain ⟨c', hc'⟩ : ∃ c, (clos scope X.env).lookup p.1 = some c := closL_has scope.names [] (.inl f2)
        refine ⟨u, ru, .inr ⟨hk'.elim (fun z => .inl (z ▸ ek)) fun z => .inr (z ▸ ek), c', hc', ?_⟩⟩
        rcases lk with ⟨z, _⟩ | ⟨_, c, ec, ic⟩
        · rcases hk with y | y <;> (rw [y] at z; cases z)
        · have := S.look I hc'
          rw [ec] at this
          cases this
          exact ic.keeps k
  cell := fun x c e => by
    obtain ⟨v, z⟩ := I.cell x c (S.look I e)
    exact ⟨v, z.keeps k⟩
  free := I.hok.fresh hC
  freeC := fun x c e => I.freeC x c (S.look I e)
  pin := fun p hp => nomatch hp
  hok := I.hok.kept k
  len := by simp [startC, cxC]

/-- none or one test -/
def PF (X : Cx) (ifs : List Expr) (t : TT) : Prop :=
  ∀ (pins : List (Addr × Obj)) (s : Shared) (σ : St) (H : Hp) (Q : Bool → Hp → Prop), Inv X pins σ H s → t σ H Q →
    wpAny (model X.prog X.w) X.A (forIn ifs true fun c r => if r = true then do let ok ← isTrue c X.env (eval c X.env); pure (ForInStep.yield ok) else pure (ForInStep.yield r)) (TP X pins σ Q) X.xe s
def tYes : TT := fun _ H Q => Q true H
theorem pf_nil {X : Cx} : PF X [] tYes := fun pins s σ H Q I h => wpAny_tests_nil ⟨H, I, h⟩
theorem pf_one {X : Cx} {c : Expr} {t : TT} (h : PT X c t) : PF X [c] t := fun pins s σ H Q I hw => wpAny_tests_one (h pins s σ H Q I hw)

/-- the list that was grown aside is tracked -/
theorem HOk.add {P : Program} {w : World} {H : Hp} {h : Heap} {a : Addr} {o : HO} (x : HOk P w H h) (hn : H a = none) (new : ObjOk P w (upd H a o) h a o) : HOk P w (upd H a o) h := fun b u e => by
  by_cases hb : b = a
  · subst hb; rw [upd_same] at e; cases e; exact new
  · rw [upd_ne hb] at e
    exact (x b u e).stay (fun _ _ _ q => q) (fun c q => by rw [upd_ne (ne_of_none q hn)]; exact q) fun c xs q => by rw [upd_ne (ne_of_none q hn)]; exact q
theorem Un.add {fs ex : List Addr} {H H' : Hp} {h h' : Heap} {a : Addr} {o : HO} (u : Un fs ex H H' h h') (ha : h.objs.size ≤ a) (hn : H' a = none) : Un fs ex H (upd H' a o) h h' where
  keep := u.keep
  slot := u.slot
  free := fun b ob q n hx => by rw [upd_ne (Nat.ne_of_lt (Nat.lt_of_lt_of_le (Heap.lt_size q) ha))]; exact u.free b ob q n hx
  there := u.there
  tups := fun b xs q => by
    have z := u.tups b xs q
    rw [upd_ne (ne_of_none z hn)]; exact z
  frzs := fun b ob xs q => by
    have z := u.frzs b ob xs q
    rw [upd_ne (ne_of_none z hn)]; exact z
  tbls := fun b ps q => by
    obtain ⟨more, z⟩ := u.tbls b ps q
    exact ⟨more, by rw [upd_ne (ne_of_none z hn)]; exact z⟩

/-- W: the invariant by the turn, a measure and the list so far -/
def tCompK (g : TG) (tf : TT) (te : TE) (σ0 : St) (J : It) (H : Hp) (Q : VK) : Prop :=
  ∃ W : Nat → Nat → List V → St → Hp → Prop, (∃ m, W 0 m [] σ0 H) ∧ ∀ i m ys σ H, W i m ys σ H →
    (J.stop i H ∧ ys.length ≤ sizeLine ∧ ∀ p, H p = none → Q (.ref p) (upd H p (.lst ys))) ∨
    (J.go i H ∧ ys.length ≤ sizeLine ∧ ∃ N : List V → St → Hp → Prop, (∀ ys σ' H', N ys σ' H' → ∃ m', m' < m ∧ W (i + 1) m' ys σ' H') ∧ ∀ x H1, J.yld i H x H1 → g x σ H1 fun σ2 H2 => tf σ2 H2 fun b H3 => if b = true then te σ2 H3 fun v H4 => N (ys ++ [v]) σ2 H4 else N ys σ2 H3)
def tComp (wi : TI) (ls : List Str) (fr : List (Str × Nat)) (g : TG) (tf : TT) (te : TE) : TE := fun σ H Q => wi σ H fun J H1 => tCompK g tf te (startC ls fr σ) J H1 Q

/-- the block, from the iterator on -/
theorem comp_block {pins : List (Addr × Obj)} {σ : St} {H : Hp} {s : Shared} {it : Addr} {fp : List Addr} {tn : Nat → Heap → Prop} {J : It} {tg elt iter : Expr} {ifs : List Expr} {pos : Pos} {g : TG} {tf : TT} {te : TE} {Q : VK} {E : Value → Shared → Prop} {RR : Value → Addr → Result → Shared → Prop}
    (S : CScope X scope ls fr) (hc : X.calm = true) (I : Inv X pins σ H s) (T : Turn X.prog X.w X.K tg J fp it tn) (st : tn 0 s.heap) (hf : ∀ b ∈ fp, FpOk X pins H b) (hq : tCompK g tf te (startC ls fr σ) J H Q)
    (hg : ∀ C s H ex, PG (cxC X scope (ls ++ fr.map (·.1)) C s H ex) tg g) (ht : ∀ C s H ex, PF (cxC X scope (ls ++ fr.map (·.1)) C s H ex) ifs tf) (he : ∀ C s H ex, PE (cxC X scope (ls ++ fr.map (·.1)) C s H ex) elt te)
    (hRR : ∀ (D C : Addr) (s' : Shared) (H' : Hp) (m : Str → Option Value), Inv X pins σ H' s' → s'.heap.Ns C m → s.heap.objs.size ≤ C → H' C = none → Q (.ref D) H' → RR (.ref D) C (.ok .next) s') :
    wpAny (model X.prog X.w) X.A (newList []) (fun acc s₃ => wpAny (model X.prog X.w) X.A (newFunctionEnv scope X.env.globals (clos scope X.env) [] X.env.qual none .none (some X.env)) (fun cenv s₄ =>
      codeAny (model X.prog X.w) X.A (.compStart (.ListComp elt [⟨tg, iter, ifs, 0⟩] scope pos) 0 (.ref it) acc { cenv with scope := relabel scope X.env }) (RR acc cenv.locals) s₄) E s₃) E s := by
  refine wpAny_newObj_type (wpAny_newFunctionEnv S.nocell (by intro y hy; simp at hy) (fun h₁ hns₁ hsb₁ => ?_) S.kind)
  dsimp only at hns₁ hsb₁ ⊢
  generalize hH2 : s.heap.push { cls := .type "list", dict := none, data := .seq ([] : List Value).toArray } = H2 at hns₁ hsb₁ ⊢
  have hC : H2.objs.size = s.heap.objs.size + 1 := by rw [← hH2, Heap.size_push]
  have hDC : s.heap.objs.size ≠ H2.objs.size := by rw [hC]; exact Nat.ne_of_lt (Nat.lt_succ_self _)
  have hCle : s.heap.objs.size ≤ H2.objs.size := by rw [hC]; exact Nat.le_succ _
  have below : ∀ b, b < s.heap.objs.size → b ≠ H2.objs.size ∧ b ≠ s.heap.objs.size := fun b hb => ⟨by rw [hC]; exact Nat.ne_of_lt (Nat.lt_succ_of_lt hb), Nat.ne_of_lt hb⟩
  have old : ∀ b o, s.heap.get? b = some o → h₁.get? b = some o := fun b o e => hsb₁.extBut b o (below b (Heap.lt_size e)).1 (Heap.get?_push_of_some _ (hH2 ▸ Heap.get?_push_of_some _ e))
  have hacc : h₁.PlainList s.heap.objs.size #[] := ⟨_, hsb₁.extBut _ _ hDC (Heap.get?_push_of_some _ (hH2 ▸ Heap.get?_push_size _ rfl))⟩
  have hfl : ∀ b ∈ fp, b < s.heap.objs.size := fun b hb => by
    obtain ⟨o, e, _⟩ := T.obj _ _ st b hb
    exact Heap.lt_size e
  have hex : ∀ b ∈ fp, FpOk X pins H b ∧ b < s.heap.objs.size := fun b hb => ⟨hf b hb, hfl b hb⟩
  generalize hs4 : ({ s with heap := h₁, toks := s.toks + ([] : List (Str × Value)).length } : Shared) = s4
  generalize hX : cxC X scope (ls ++ fr.map (·.1)) H2.objs.size s H fp = Y
  have I4 : Inv Y [] (startC ls fr σ) H s4 := by
    rw [← hX, ← hs4]
    exact comp_inv S I hCle hex rfl I.bare old hns₁
  have YP : Y.prog = X.prog := by rw [← hX]; rfl
  have Yw : Y.w = X.w := by rw [← hX]; rfl
  have YK : Y.K = X.K := by rw [← hX]; rfl
  have YA : Y.A = X.A := by rw [← hX]; rfl
  have Yc : Y.calm = true := by rw [← hX]; exact hc
  have Yx : Y.xe = fun _ _ => False := by rw [← hX]; rfl
  have Yl : Y.env.locals = H2.objs.size := by rw [← hX]; rfl
  have Yok : (cxC X scope (ls ++ fr.map (·.1)) H2.objs.size s H fp).Ok := comp_ok S I hCle hex
  have fpY : ∀ {H' : Hp} {o : Obj}, (∀ b ∈ fp, H' b = none) → ∀ b ∈ fp, FpOk Y [(s.heap.objs.size, o)] H' b := fun {H' o} hn b hb => by
    rw [← hX]
    obtain ⟨f0, f1, f2, f3, f4, f5⟩ := hf b hb
    refine ⟨hn b hb, (below b (hfl b hb)).1, fun z => Yok.exfs b hb z, .inl hb, fun x c e => f4 x c (S.look I e), fun p hp => ?_⟩
    have e : p = (s.heap.objs.size, o) := by simpa [cxC] using hp
    subst e
    exact Ne.symm (below b (hfl b hb)).2
  have pinD : ∀ {σ' : St} {H' : Hp} {s' : Shared} {its : Array Value} {n : Nat}, Inv Y [] σ' H' s' → H' s.heap.objs.size = none → s'.heap.get? s.heap.objs.size = some { cls := .type "list", data := .seq its n } →
      Inv Y [(s.heap.objs.size, { cls := .type "list", data := .seq its n })] σ' H' s' := fun {σ' H' s' its n} I' hn e => I'.pins_of fun p hp => by
    have ep : p = (s.heap.objs.size, { cls := .type "list", data := .seq its n }) := by simpa using hp
    subst ep
    refine ⟨e, hn, by rw [Yl]; exact hDC, ?_, fun v z => nomatch z⟩
    rw [← hX]
    exact fun hb => I.nofs (Nat.le_refl _) ((List.mem_cons.mp (I.stkSub _ hb)).resolve_left fun z => absurd I.lt (by rw [← z]; exact Nat.lt_irrefl _))
  obtain ⟨W, ⟨m0, w0⟩, turn⟩ := hq
  have E1 : ∀ {α : Type} {t : Sem α} {Q1 : α → Shared → Prop} {s1 : Shared} {E1 : Value → Shared → Prop}, wpAny (model X.prog X.w) X.A t Q1 Y.xe s1 → wpAny (model X.prog X.w) X.A t Q1 E1 s1 := fun h => wpAny_mono h (fun _ _ z => z) fun _ _ z => by rw [Yx] at z; exact z.elim
  have endC : ∀ {σ' : St} {H' : Hp} {s' : Shared} {its : List Value} {ys : List V}, Inv Y [] σ' H' s' → H' s.heap.objs.size = none → s'.heap.PlainList s.heap.objs.size its.toArray → Vals ys its → ys.length ≤ sizeLine →
      (∀ p, H' p = none → Q (.ref p) (upd H' p (.lst ys))) → RR (.ref s.heap.objs.size) H2.objs.size (.ok .next) s' := fun {σ' H' s' its ys} I' hn ⟨n, e⟩ rv hz q => by
    subst hX
    obtain ⟨m, hm, _⟩ := id I'.loc
    have hCn : H' H2.objs.size = none := I'.free
    refine hRR _ _ s' (upd H' s.heap.objs.size (.lst ys)) m (I.call' I'.os (Un.add I'.base (Nat.le_refl _) hn) (I'.hok.add hn ⟨hz, its, n, rv, e⟩) I'.bare fun b hb => ?_) hm hCle (by rw [upd_ne (Ne.symm hDC)]; exact hCn) (q _ hn)
    obtain ⟨f0, f1, f2, f3, f4, f5⟩ := hf b hb
    exact ⟨f3, f1, f4, f5⟩
  have loop : codeAny (model X.prog X.w) X.A (.compLoop (.ListComp elt [⟨tg, iter, ifs, 0⟩] scope pos) 0 (.ref it) (.ref s.heap.objs.size) Y.env) (RR (.ref s.heap.objs.size) H2.objs.size) s4 := by
    refine comp_loop_any (fun n s' => ∃ (i : Nat) (σ' : St) (H' : Hp) (ys : List V) (its : List Value), Inv Y [] σ' H' s' ∧ tn i s'.heap ∧ (∀ b ∈ fp, H' b = none) ∧ H' s.heap.objs.size = none ∧ s'.heap.PlainList s.heap.objs.size its.toArray ∧ Vals ys its ∧ W i n ys σ' H') ?_ m0
      ⟨0, startC ls fr σ, H, [], [], I4, T.keep _ _ _ st fun b _ o e => by rw [← hs4]; exact old b o e, fun b hb => (hf b hb).1, I.hok.fresh (Nat.le_refl _), by rw [← hs4]; exact hacc, .nil, w0⟩
    rintro n s5 ⟨i, σ5, H5, ys, its, I5, st5, fr5, hn5, ⟨nn, e5⟩, rv, w5⟩
    have I5p := pinD I5 hn5 e5
    rcases turn i n ys σ5 H5 w5 with ⟨stop, hz, qn⟩ | ⟨go, hz, NN, hNN, step⟩
    · rw [← YA]
      refine thn (T.done Y YP Yw YK Yc i _ s5 σ5 H5 _ I5p (fpY fr5) st5 stop) fun r s6 ⟨hr, I6⟩ => ?_
      subst hr
      exact endC (I6.pins_of fun p hp => nomatch hp) hn5 ⟨nn, (I6.pin _ (List.mem_append_right _ List.mem_cons_self)).1⟩ rv hz qn
    · have hit := T.item Y YP Yw YK Yc i _ s5 σ5 H5 (notedBy (model X.prog X.w) X.A Y.env fun e s' => RR (Value.ref s.heap.objs.size) H2.objs.size (Except.error e) s') I5p (fpY fr5) st5 go
      rw [YA] at hit
      refine thn hit fun r s6 ⟨u, hr, h6⟩ => ?_
      subst hr
      refine thn h6 fun _ s7 ⟨x, H7, I7, r7, y7, st7, fr7⟩ => ?_
      have I7' := I7.pinned (fpY fr7) (T.obj _ _ st7)
      have h8 := hg H2.objs.size s H fp
      have h9 := ht H2.objs.size s H fp
      have h10 := he H2.objs.size s H fp
      rw [hX] at h8 h9 h10
      have a8 := h8 _ s7 σ5 H7 x u _ I7' r7 (step x H7 y7)
      rw [YP, Yw, YA] at a8
      refine thn (E1 a8) fun _ s8 ⟨σ8, H8, I8, q8⟩ => ?_
      have a9 := h9 _ s8 σ8 H8 _ I8 q8
      rw [YP, Yw, YA] at a9
      refine thn (E1 a9) fun b s9 ⟨H9, I9, q9⟩ => ?_
      have back : ∀ {σ' : St} {H' : Hp} {s' : Shared}, Inv Y ([(s.heap.objs.size, { cls := .type "list", data := .seq its.toArray nn })] ++ pinsAt fp s7.heap) σ' H' s' →
          tn (i + 1) s'.heap ∧ (∀ b ∈ fp, H' b = none) ∧ H' s.heap.objs.size = none ∧ s'.heap.PlainList s.heap.objs.size its.toArray := fun {σ' H' s'} I' => by
        have hp := I'.pin (s.heap.objs.size, { cls := .type "list", data := .seq its.toArray nn }) (List.mem_append_right _ (List.mem_append_left _ List.mem_cons_self))
        refine ⟨T.keep _ _ _ st7 fun b hb o e => (I'.pin (b, o) (List.mem_append_right _ (List.mem_append_right _ (mem_pinsAt hb e)))).1, fun b hb => ?_, hp.2.1, ⟨nn, hp.1⟩⟩
        obtain ⟨o, e, d⟩ := T.obj _ _ st7 b hb
        exact (I'.pin (b, o) (List.mem_append_right _ (List.mem_append_right _ (mem_pinsAt hb e)))).2.1
      cases b with
      | false =>
        rw [if_neg Bool.false_ne_true] at q9 ⊢
        obtain ⟨m', hm, w9⟩ := hNN _ _ _ q9
        obtain ⟨z1, z2, z3, z4⟩ := back I9
        exact ⟨m', hm, i + 1, σ8, H9, ys, its, I9.pins_of (fun p hp => nomatch hp), z1, z2, z3, z4, rv, w9⟩
      | true =>
        rw [if_pos rfl] at q9 ⊢
        have a10 := h10 _ s9 σ8 H9 _ I9 q9
        rw [YP, Yw, YA] at a10
        refine thn (E1 a10) fun xv s10 ⟨v, H10, I10, rx, q10⟩ => ?_
        obtain ⟨m', hm, w10⟩ := hNN _ _ _ q10
        obtain ⟨z1, z2, z3, z4⟩ := back I10
        have hlen : its.length = ys.length := (rv.length).symm
        refine wpAny_list_append_plain z4 (fun h' pl sb => ?_) (by rw [List.size_toArray, hlen]; exact hz)
        refine ⟨m', hm, i + 1, σ8, H10, ys ++ [v], its ++ [xv], ?_, ?_, z2, z3, ?_, rv.append (.cons rx .nil), w10⟩
        · have I10' : Inv Y [] σ8 H10 s10 := I10.pins_of fun p hp => nomatch hp
          refine I10'.turned (t' := s10.toks) (it := s.heap.objs.size) (fun b o hb e => (sb.2 b hb).trans e) z3 (by rw [Yl]; exact hDC) (.inr ?_) (fun x c e => ?_) fun p hp => ?_
          · rw [← hX]; exact Nat.le_refl _
          · rw [← hX] at e
            intro z
            obtain ⟨v0, q0⟩ := I.cell x c (S.look I e)
            exact absurd q0.lt (by rw [z]; exact Nat.lt_irrefl _)
          · rw [← hX] at hp; exact nomatch hp
        · refine T.keep _ _ _ z1 fun b hb o e => (sb.2 b (below b (hfl b hb)).2).trans e
        · have : (its ++ [xv]).toArray = its.toArray.push xv := by simp
          rw [this]; exact pl
  have hYe : Y.env = { newEnv scope H2.objs.size X.env.globals (clos scope X.env) X.env.qual none .none (some X.env) builtinsNs with scope := relabel scope X.env } := by rw [← hX]; rfl
  rw [← hYe]
  rw [hYe] at loop ⊢
  refine codeAny_compStart_list loop ?_
  exact T.self _ 0 _ _ _ (T.keep _ _ _ st fun b _ o e => by rw [← hs4]; exact old b o e) loop

/-- a comprehension as a value -/
theorem pe_comp {wi : TI} {tg elt iter : Expr} {ifs : List Expr} {pos : Pos} {g : TG} {tf : TT} {te : TE} (S : CScope X scope ls fr) (hc : X.calm = true) (hi : PI X tg iter wi)
    (hg : ∀ C s H ex, PG (cxC X scope (ls ++ fr.map (·.1)) C s H ex) tg g) (ht : ∀ C s H ex, PF (cxC X scope (ls ++ fr.map (·.1)) C s H ex) ifs tf) (he : ∀ C s H ex, PE (cxC X scope (ls ++ fr.map (·.1)) C s H ex) elt te)
    (hs : ∀ x, foldedSetIterable iter X.env x = pure x := by intro _; rfl) : PE X (.ListComp elt [⟨tg, iter, ifs, 0⟩] scope pos) (tComp wi ls fr g tf te) := by
  intro pins s σ H Q I h
  rw [eval_ListComp]
  refine wpAny_comprehension_free (use := none) rfl hs (closureFor_eq (S.cells I)) S.kind S.names (thn (hi pins s σ H _ I h) fun xv s₁ h₁ => thn h₁ fun itv s₂ h₂ => ?_)
  obtain ⟨it, fp, tn, J, H2, rfl, I2, T, st, hf, q⟩ := h₂
  refine comp_block (RR := fun acc C => compPost (model X.prog X.w) X.A X.xe none (EP X pins σ Q) acc C) S hc I2 T st hf q hg ht he ?_
  intro D C s' H' m I' hn hC hCn hq
  refine ⟨m, hn, fun h' sb => ?_⟩
  have nC : ∀ {b : Addr}, b < s₂.heap.objs.size → b ≠ C := fun hb => Nat.ne_of_lt (Nat.lt_of_lt_of_le hb hC)
  refine ⟨.ref D, H', I'.turned (t' := s'.toks) (it := C) (fun b o hb e => (sb.2 b hb).trans e) hCn (Ne.symm (nC I2.lt)) (.inr (Nat.le_trans I2.sz hC)) (fun x c e => ?_) fun p hp => ?_, rfl, hq⟩
  · obtain ⟨v0, q0⟩ := I2.cell x c e
    exact nC q0.lt
  · exact nC (Heap.lt_size (I2.pin p hp).1)
/-- x = [..] (the name is stored ahead of the block's end) -/
theorem ps_comp {wi : TI} {tg elt iter : Expr} {ifs : List Expr} {pos spos py : Pos} {y : Str} {i : Nat} {g : TG} {tf : TT} {te : TE} (S : CScope X scope ls fr) (hc : X.calm = true) (hi : PI X tg iter wi)
    (hg : ∀ C s H ex, PG (cxC X scope (ls ++ fr.map (·.1)) C s H ex) tg g) (ht : ∀ C s H ex, PF (cxC X scope (ls ++ fr.map (·.1)) C s H ex) ifs tf) (he : ∀ C s H ex, PE (cxC X scope (ls ++ fr.map (·.1)) C s H ex) elt te)
    (hN : X.N.Nodup) (hy : X.N[i]? = some y) (hl : X.env.scope.names.lookup y = some .local) (hsw : swapsWith (.ListComp elt [⟨tg, iter, ifs, 0⟩] scope pos) (some (.Name y py)) spos.line X.env = pure true)
    (hs : ∀ x, foldedSetIterable iter X.env x = pure x := by intro _; rfl) : PS X (.Assign [.Name y py] (.ListComp elt [⟨tg, iter, ifs, 0⟩] scope pos) spos) (tAsg (tComp wi ls fr g tf te) (gName i)) := by
  intro pins s σ H D I h
  rw [exec_Assign_Name_used _ _ _ _ hsw]
  refine wpAny_bind (wpAny_standAt (wpAny_bind ?_))
  show wpAny _ X.A (do let _ ← comprehension (.ListComp elt [⟨tg, iter, ifs, 0⟩] scope pos) scope X.env _ (newList []) false (eval iter X.env) (some (assign (.Name y py) X.env))) _ _ s
  refine wpAny_bind (wpAny_mono (wpAny_comprehension_free (use := some (assign (.Name y py) X.env)) (Q := fun _ s' => SP X pins D .next s') rfl hs (closureFor_eq (S.cells I)) S.kind S.names
    (thn (hi pins s σ H _ I h) fun xv s₁ h₁ => thn h₁ fun itv s₂ h₂ => ?_)) (fun _ s' hq => wpAny_pure (wpAny_pure hq)) fun _ _ e => e)
  obtain ⟨it, fp, tn, J, H2, rfl, I2, T, st, hf, q⟩ := h₂
  refine comp_block (RR := fun acc C => compPost (model X.prog X.w) X.A X.xe (some (assign (.Name y py) X.env)) (fun _ s' => SP X pins D .next s') acc C) S hc I2 T st hf q hg ht he ?_
  intro D1 C s' H' m I' hn hC hCn hq
  have nC : ∀ {b : Addr}, b < s₂.heap.objs.size → b ≠ C := fun hb => Nat.ne_of_lt (Nat.lt_of_lt_of_le hb hC)
  have cC : ∀ x c, X.env.cells.lookup x = some c → c ≠ C := fun x c e => by
    obtain ⟨v0, q0⟩ := I2.cell x c e
    exact nC q0.lt
  show wpAny _ X.A (assign (.Name y py) X.env (.ref D1)) _ _ _
  refine wpAny_assign_Name (store_ok2 I' hN hy (.inl hl) (v := .ref D1) rfl (fun s3 I3 hsb => ?_) (.inr hl))
  obtain ⟨a, sb1, ha⟩ := hsb
  have haC : C ≠ a := by
    rcases ha with rfl | e
    · exact Ne.symm (nC I2.lt)
    · exact Ne.symm (cC _ _ e)
  refine ⟨m, hn.sameBut sb1 haC, fun h' sb => ⟨_, H', I3.turned (t' := s3.toks) (it := C) (fun b o hb e => (sb.2 b hb).trans e) hCn (Ne.symm (nC I2.lt)) (.inr (Nat.le_trans I2.sz hC)) cC fun p hp => nC (Heap.lt_size (I2.pin p hp).1), hq⟩⟩
end

/-! ### the forms one uses -/
theorem comp_list {K : PySem.W.Frag} {a : Addr} {xs : List V} {g : TG} {tf : TT} {te : TE} {σ : St} {H : Hp} {Q : VK} (Pv : Nat → List V → St → Hp → Prop) (h0 : Pv 0 [] σ H) (hl : ∀ i ys σ H, i ≤ xs.length → Pv i ys σ H → SqL K H a xs ∧ ys.length ≤ sizeLine)
    (hs : ∀ i x ys σ H, xs[i]? = some x → Pv i ys σ H → g x σ H fun σ2 H2 => tf σ2 H2 fun b H3 => if b = true then te σ2 H3 fun v H4 => Pv (i + 1) (ys ++ [v]) σ2 H4 else Pv (i + 1) ys σ2 H3)
    (hd : ∀ ys σ H, Pv xs.length ys σ H → ∀ p, H p = none → Q (.ref p) (upd H p (.lst ys))) : tCompK g tf te σ (Itl K a) H Q := by
  refine ⟨fun i m ys σ H => m = xs.length - i ∧ i ≤ xs.length ∧ Pv i ys σ H, ⟨xs.length, by simp, Nat.zero_le _, h0⟩, ?_⟩
  rintro i m ys σ H ⟨rfl, hi, p⟩
  obtain ⟨q, hz⟩ := hl i ys σ H hi p
  by_cases hlt : i < xs.length
  · refine .inr ⟨⟨xs, xs[i], q, by simp [hlt]⟩, hz, Pv (i + 1), fun ys' σ' H' p' => ⟨xs.length - (i + 1), by omega, rfl, hlt, p'⟩, fun x H' y => ?_⟩
    obtain ⟨e, y⟩ := y
    subst e
    exact hs i x ys σ _ (y xs q) p
  · have e : i = xs.length := by omega
    subst e
    exact .inl ⟨⟨xs, q, Nat.le_refl _⟩, hz, hd ys σ H p⟩
theorem comp_tup {K : PySem.W.Frag} {a : Addr} {xs : List V} {g : TG} {tf : TT} {te : TE} {σ : St} {H : Hp} {Q : VK} (Pv : Nat → List V → St → Hp → Prop) (h0 : Pv 0 [] σ H) (hl : ∀ i ys σ H, i ≤ xs.length → Pv i ys σ H → SqT K H a xs ∧ ys.length ≤ sizeLine)
    (hs : ∀ i x ys σ H, xs[i]? = some x → Pv i ys σ H → g x σ H fun σ2 H2 => tf σ2 H2 fun b H3 => if b = true then te σ2 H3 fun v H4 => Pv (i + 1) (ys ++ [v]) σ2 H4 else Pv (i + 1) ys σ2 H3)
    (hd : ∀ ys σ H, Pv xs.length ys σ H → ∀ p, H p = none → Q (.ref p) (upd H p (.lst ys))) : tCompK g tf te σ (Itt K a) H Q := by
  refine ⟨fun i m ys σ H => m = xs.length - i ∧ i ≤ xs.length ∧ Pv i ys σ H, ⟨xs.length, by simp, Nat.zero_le _, h0⟩, ?_⟩
  rintro i m ys σ H ⟨rfl, hi, p⟩
  obtain ⟨q, hz⟩ := hl i ys σ H hi p
  by_cases hlt : i < xs.length
  · refine .inr ⟨⟨xs, xs[i], q, by simp [hlt]⟩, hz, Pv (i + 1), fun ys' σ' H' p' => ⟨xs.length - (i + 1), by omega, rfl, hlt, p'⟩, fun x H' y => ?_⟩
    obtain ⟨e, y⟩ := y
    subst e
    exact hs i x ys σ _ (y xs q) p
  · have e : i = xs.length := by omega
    subst e
    exact .inl ⟨⟨xs, q, Nat.le_refl _⟩, hz, hd ys σ H p⟩
theorem comp_range {lo : Int} {n : Nat} {g : TG} {tf : TT} {te : TE} {σ : St} {H : Hp} {Q : VK} (Pv : Nat → List V → St → Hp → Prop) (h0 : Pv 0 [] σ H) (hl : ∀ i ys σ H, i ≤ n → Pv i ys σ H → ys.length ≤ sizeLine)
    (hs : ∀ i ys σ H, i < n → Pv i ys σ H → g (.int (lo + i)) σ H fun σ2 H2 => tf σ2 H2 fun b H3 => if b = true then te σ2 H3 fun v H4 => Pv (i + 1) (ys ++ [v]) σ2 H4 else Pv (i + 1) ys σ2 H3)
    (hd : ∀ ys σ H, Pv n ys σ H → ∀ p, H p = none → Q (.ref p) (upd H p (.lst ys))) : tCompK g tf te σ (Itr lo n) H Q := by
  refine ⟨fun i m ys σ H => m = n - i ∧ i ≤ n ∧ Pv i ys σ H, ⟨n, by simp, Nat.zero_le _, h0⟩, ?_⟩
  rintro i m ys σ H ⟨rfl, hi, p⟩
  have hz := hl i ys σ H hi p
  by_cases hlt : i < n
  · refine .inr ⟨hlt, hz, Pv (i + 1), fun ys' σ' H' p' => ⟨n - (i + 1), by omega, rfl, hlt, p'⟩, fun x H' y => ?_⟩
    obtain ⟨e, y⟩ := y
    subst e y
    exact hs i ys σ _ hlt p
  · have e : i = n := by omega
    subst e
    exact .inl ⟨Nat.le_refl _, hz, hd ys σ H p⟩

/-- the scope's conditions, to be decided -/
def cscopeB (sc : Scope) (N : List Str) (scope : Scope) (fr : List (Str × Nat)) : Bool :=
  (scope.kind == .function) && scope.names.all (fun y => y.2 != .cell) && scope.names.all (fun y => y.2 != .local || scope.names.lookup y.1 == some .local) &&
  scope.names.all (fun y => y.2 != .free || sc.names.lookup y.1 == some .cell || sc.names.lookup y.1 == some .free) && fr.all (fun p => N[p.2]? == some p.1 && scope.names.lookup p.1 == some .free)
theorem cs_of {X : Cx} {scope : Scope} {ls : List Str} {fr : List (Str × Nat)} (sc : Scope) (N : List Str) (h1 : X.env.scope = sc) (h2 : X.N = N) (h : cscopeB sc N scope fr = true) : CScope X scope ls fr := by
  subst h1 h2
  simp only [cscopeB, Bool.and_eq_true, List.all_eq_true, Bool.or_eq_true, bne_iff_ne, beq_iff_eq, ne_eq] at h
  obtain ⟨⟨⟨⟨a, b⟩, c⟩, d⟩, e⟩ := h
  refine ⟨a, b, fun y hy hk => (c y hy).resolve_left fun z => z hk, fun y hy hk => ?_, e⟩
  rcases d y hy with (z | z) | z
  · exact absurd hk z
  · exact .inl z
  · exact .inr z
theorem pgc {X : Cx} {scope : Scope} {ls : List Str} {fr : List (Str × Nat)} {C : Addr} {s : Shared} {H : Hp} {ex : List Addr} {x : Str} {pos : Pos} (i : Nat) (hN : (ls ++ fr.map (·.1)).Nodup) (hi : (ls ++ fr.map (·.1))[i]? = some x) (hx : scope.names.lookup x = some .local) :
    PG (cxC X scope (ls ++ fr.map (·.1)) C s H ex) (.Name x pos) (gName i) :=
  pg_name hN hi (.inl (lookup_relabel_local hx)) (.inr (lookup_relabel_local hx))
/-- names within a block, to be decided over the two scopes -/
def relN (scope sc : Scope) : List (Str × NameKind) := scope.names.map fun (n, k) => if (k == .free && sc.kind == .function && sc.names.lookup n == some .cell) then (n, .cell) else (n, k)
def visB (scope sc : Scope) (x : Str) : Bool := match (relN scope sc).lookup x with | some .local => true | some .cell => true | some .free => true | _ => false
theorem pvc (sc : Scope) (i : Nat) {X : Cx} {scope : Scope} {N : List Str} {C : Addr} {s : Shared} {H : Hp} {ex : List Addr} {x : Str} {pos : Pos} (hN : N[i]? = some x := by rfl) (hs : X.env.scope = sc := by rfl) (hv : visB scope sc x = true := by decide +kernel)
    (hd : (x == ("__debug__" : Str)) = false := by decide +kernel) (hcd : (x == ("__classdict__" : Str)) = false := by decide +kernel) : PE (cxC X scope N C s H ex) (.Name x pos) (tVar i) := by
  subst hs
  refine pe_var hN ?_ hd hcd
  have hv' : visB scope X.env.scope x = true := hv
  unfold visB at hv'
  show (relN scope X.env.scope).lookup x = some .local ∨ (relN scope X.env.scope).lookup x = some .cell ∨ (relN scope X.env.scope).lookup x = some .free
  split at hv'
  · rename_i e; exact .inl e
  · rename_i e; exact .inr (.inl e)
  · rename_i e; exact .inr (.inr e)
  · cases hv'
theorem glc (sc : Scope) {X : Cx} {scope : Scope} {N : List Str} {C : Addr} {s : Shared} {H : Hp} {ex : List Addr} {x : Str} (hs : X.env.scope = sc := by rfl) (h : ((relN scope sc).lookup x == some .globalImplicit) = true := by decide +kernel) : Gl (cxC X scope N C s H ex) x := by
  subst hs
  exact eq_of_beq h
end L2

set_option Elab.async false
set_option linter.all false
set_option maxRecDepth 100000
namespace L2
open PySem PySem.Spec PyProof.Rows

/-! ### ints sorted falling -/
def insD (x : Int) : List Int → List Int
  | [] => [x]
  | y :: r => if y ≤ x then x :: y :: r else y :: insD x r
def sortD : List Int → List Int
  | [] => []
  | x :: r => insD x (sortD r)
theorem insD_perm (x : Int) : ∀ l : List Int, (insD x l).Perm (x :: l)
  | [] => .refl _
  | y :: r => by
    unfold insD
    split
    · exact .refl _
    · exact ((insD_perm x r).cons y).trans (.swap x y r)
theorem sortD_perm : ∀ l : List Int, (sortD l).Perm l
  | [] => .refl _
  | x :: r => (insD_perm x _).trans ((sortD_perm r).cons x)
theorem insD_pw (x : Int) : ∀ {l : List Int}, l.Pairwise (· ≥ ·) → (insD x l).Pairwise (· ≥ ·)
  | [], _ => by simp [insD]
  | y :: r, h => by
    obtain ⟨h1, h2⟩ := List.pairwise_cons.mp h
    unfold insD
    split
    · rename_i hy
      refine List.pairwise_cons.mpr ⟨fun z hz => ?_, h⟩
      rcases List.mem_cons.mp hz with rfl | hz
      · exact hy
      · exact Int.le_trans (h1 z hz) hy
    · rename_i hy
      refine List.pairwise_cons.mpr ⟨fun z hz => ?_, insD_pw x h2⟩
      rcases List.mem_cons.mp ((insD_perm x r).mem_iff.mp hz) with rfl | hz
      · show z ≤ y
        omega
      · exact h1 z hz
theorem sortD_pw : ∀ l : List Int, (sortD l).Pairwise (· ≥ ·)
  | [] => .nil
  | x :: r => insD_pw x (sortD_pw r)
theorem perm_ge_eq {a b : List Int} (ha : a.Pairwise (· ≥ ·)) (hb : b.Pairwise (· ≥ ·)) (p : a.Perm b) : a = b :=
  p.eq_of_pairwise (le := fun x y => x ≥ y) (fun x y _ _ h1 h2 => Int.le_antisymm h2 h1) ha hb
theorem sortD_eq {a l : List Int} (p : a.Perm l) (h : a.Pairwise (· ≥ ·)) : a = sortD l := perm_ge_eq h (sortD_pw l) (p.trans (sortD_perm l).symm)
theorem sortD_length (l : List Int) : (sortD l).length = l.length := (sortD_perm l).length_eq

section
variable {prog : Program} {w : World} {A : Around} {E : Value → Shared → Prop} {s : Shared}
theorem sorted_ints_revT {l : Addr} {vs : List Value} {ns : List Int} {b : Bool} {Q : Value → Shared → Prop} (hl : IsTup s.heap l vs.toArray) (hI : IntsAre vs ns) (h64 : vs.length < 64)
    (h : ∀ (out : List Value) (n : Nat) (h1 h' : Heap) (ns' : List Int), (∀ b o, s.heap.get? b = some o → h1.get? b = some o) → (∀ b o, h1.get? b = some o → h'.get? b = some o) → h'.get? h1.objs.size = some (seqObj "list" out.toArray n) → IntsAre out ns' → ns'.Perm ns → Ordered b ns' → Q (.ref h1.objs.size) { s with heap := h' }) :
    wpAny (model prog w) A (call (.builtin "sorted") [.ref l] [(Str.ofString "reverse", .bool b)]) Q E s := by
  refine call_function_entry_kw kind_sorted plain_sorted entry_sorted (args_sorted_rev _ _) ?_
  unfold Builtin.«sorted»
  refine wpAny_bind (m := checkCount "sorted" 1 1 _) (wpAny_pure ?_)
  obtain ⟨o, ho, hc, n, hd⟩ := hl
  refine wpAny_bind (wpAny_collect_seq l (.inr rfl) ho hc hd (fun h1 hk1 => ?_) (by simp [sizeLine_eq]; omega))
  refine wpAny_bind (wpAny_newList ?_)
  have hoL : (h1.push (seqObj "list" vs.toArray 0)).get? h1.objs.size = some (seqObj "list" vs.toArray 0) := Heap.get?_push_size _ rfl
  refine wpAny_bind (wpAny_holding (wpAny_call_entry_kw slot_list_sort ⟨_, hoL, rfl⟩ entry_list_sort (list_sort_tree_rev hoL hI h64 fun out ns' a1 a2 a3 => ⟨_, rfl, ?_⟩) (args_list_sort_rev _ _)))
  obtain ⟨e, he⟩ := sortedHeap_at (vs := vs) (out := out) hoL
  refine wpAny_pure ⟨_, rfl, h out.toList e h1 _ ns' hk1 (fun b o hb => ?_) he a1 a2 a3⟩
  have hlt := Heap.lt_size hb
  rw [sortedHeap_old (Nat.ne_of_lt hlt) (by rw [Heap.size_push]; exact Nat.lt_succ_of_lt hlt)]
  exact Heap.get?_push_of_some _ hb
end

section
variable {X : Cx}
def rSortR (K : PySem.W.Frag) (b : Bool) : V → Hp → VK → Prop := fun x H Q => ∃ a ns, x = .ref a ∧ (SqL K H a (ns.map V.int) ∨ SqT K H a (ns.map V.int)) ∧ ns.length < 64 ∧ ∀ ns' p, ns'.Perm ns → Ordered b ns' → H p = none → Q (.ref p) (upd H p (.lst (ns'.map V.int)))
def tSortR (K : PySem.W.Frag) (b : Bool) (te : TE) : TE := fun σ H Q => te σ H fun x H1 => rSortR K b x H1 Q
theorem small64 {n : Nat} (h : n < 64) : n ≤ sizeLine := Nat.le_trans (Nat.le_of_lt h) (by decide)
/-- sorted(e, reverse=True) -/
theorem pe_sortR {e : Expr} {te : TE} {b : Bool} {p kp cp pos : Pos} {j : Nat} (hg : Gl X "sorted") (hm : X.mg "sorted" = none) (he : PE X e te)
    (hse : starEach [e] X.env = [(false, eval e X.env)] := by rfl) : PE X (.Call (.Name "sorted" p) [e] [⟨some "reverse", .Constant (.bool b) j cp, kp⟩] pos) (tSortR X.K b te) := by
  intro pins s σ H Q I h
  refine wpAny_Call_Name_kw (ld_blt I hg hm boot_sorted ?_ (by decide) (by decide))
  refine callWith_kw (thn (pa_cons he pa_nil hse pos pins s σ H (fun vs H1 => match vs with | [x] => rSortR X.K b x H1 Q | _ => False) I h) fun us s1 ⟨vs, H1, I1, r1, q1⟩ => ?_) (by rw [hse]; rfl) (by rw [hse]; rfl)
  match vs, r1, q1 with
  | [x], r1, q =>
    obtain ⟨u, rfl, ru⟩ := vals1 r1
    refine kws_cons (Constant_bool (kws_nil ?_))
    obtain ⟨a, ns, rfl, hq, hl, q⟩ := q
    cases ru
    show wpAny _ _ (call (.builtin "sorted") [.ref a] [(Str.ofString "reverse", .bool b)]) _ _ _
    rcases hq with hq | hq
    · obtain ⟨its, r', pl, hz⟩ := I1.list hq
      have hlen := r'.length
      rw [List.length_map] at hlen
      refine sorted_ints_rev pl.isList (intsAre_of r') (by omega) fun out ns' a1 a2 a3 => ?_
      obtain ⟨n, hn⟩ := sortedAll_at s1.heap its out
      have hz' : (ns'.map V.int).length ≤ sizeLine := by rw [List.length_map, a2.length_eq]; exact small64 hl
      exact ⟨.ref _, _, I1.laid (t' := s1.toks) (fun _ _ => sortedAll_old) (Nat.le_succ _) (show ObjOk X.prog X.w _ _ _ (.lst (ns'.map V.int)) from ⟨hz', out.toList, n, vals_ints a1, by simpa [seqObj] using hn⟩), rfl, q ns' _ a2 a3 (I1.hok.fresh (Nat.le_succ _))⟩
    · obtain ⟨its, r', pl, hz⟩ := I1.tuple hq
      have hlen := r'.length
      rw [List.length_map] at hlen
      refine sorted_ints_revT pl (intsAre_of r') (by omega) fun out n h1 h' ns' k1 k2 e a1 a2 a3 => ?_
      have hz' : (ns'.map V.int).length ≤ sizeLine := by rw [List.length_map, a2.length_eq]; exact small64 hl
      have I2 : Inv X pins σ H1 { s1 with heap := h1 } := I1.kept (t' := s1.toks) k1
      exact ⟨.ref _, _, I2.laid (t' := s1.toks) k2 (Nat.le_refl _) (show ObjOk X.prog X.w _ _ _ (.lst (ns'.map V.int)) from ⟨hz', out, n, vals_ints a1, by simpa [seqObj] using e⟩), rfl, q ns' _ a2 a3 (I2.hok.fresh (Nat.le_refl _))⟩

/-! ### x.count(y) over flat items -/
def cntV (y : V) (xs : List V) : Nat := xs.countP fun x => eqV x y
theorem cnt_eqU {x : V} : ∀ {xs : List V} {us : List Value}, Vals xs us → xs.all flatV = true → us.countP (eqU x) = cntV x xs
  | _, _, .nil, _ => rfl
  | y :: xs, u :: us, .cons r t, f => by
    rw [List.all_cons, Bool.and_eq_true] at f
    unfold cntV
    rw [List.countP_cons, List.countP_cons, eqU_of r f.1, cnt_eqU t f.2]
    rfl
def rCount (K : PySem.W.Frag) (SQ : PySem.W.Frag → Hp → Addr → List V → Prop) : V → List V → Hp → VK → Prop := fun x vs H Q => ∃ a xs y, x = .ref a ∧ vs = [y] ∧ SQ K H a xs ∧ flatV y = true ∧ xs.all flatV = true ∧ Q (.int (cntV y xs)) H
theorem mt_countL : MtR X "list.count" (rCount X.K SqL) := by
  intro pins s σ H x vs v us Q I rx rv h
  obtain ⟨a, xs, y, rfl, rfl, hq, fy, fs, q⟩ := h
  cases rx
  obtain ⟨u, rfl, ru⟩ := rv.one
  obtain ⟨its, r, pl, hz⟩ := I.list hq
  obtain ⟨o, ho, hc, n, hd⟩ := pl.isList
  obtain ⟨c, dd, dt, sl⟩ := o
  cases hc
  cases hd
  refine call_meets F.slot_list_count ⟨_, ho, rfl⟩ F.entry_list_count (F.args_list_count_2 _ _) (SeqAt.list_countAt a its.toArray n dd sl u (eqU y)) ⟨ho, fun w hw => mem_eqAt ru fy r fs w (by simpa using hw), ?_⟩
  refine ⟨.int _, H, I.tok _, ⟨s.toks, ?_⟩, q⟩
  rw [show its.toArray.toList = its from rfl, cnt_eqU r fs]
/-! ### isinstance(x, T), T a built-in type -/
theorem call_isi : CallR X (.builtin "isinstance") (fun xs H Q => ∃ x T t b, xs = [x, .ty T] ∧ TyOf X.K H x t ∧ PySem.W.kitOne X.K t (.type T) = some b ∧ Q (.bl b) H) := by
  intro pins s σ H xs us Q I r h
  obtain ⟨x, T, t, b, rfl, ty, hk, q⟩ := h
  obtain ⟨u, v, rfl, ru, rv⟩ := vals2 r
  cases (show v = Value.type T from rv)
  exact isinst_ok I ru ty hk fun tk => ⟨.bl b, H, I.tok tk, rfl, q⟩
end
/-! ### which built-in type lies beneath which -/
theorem kit_int_int {K : PySem.W.Frag} : PySem.W.kitOne K (.type "int") (.type "int") = some true := by unfold PySem.W.kitOne; rw [if_pos (by decide +kernel)]
theorem kit_int_bool {K : PySem.W.Frag} : PySem.W.kitOne K (.type "int") (.type "bool") = some false := by
  unfold PySem.W.kitOne
  rw [if_neg (by decide +kernel)]
  rfl
theorem kit_tup_tup {K : PySem.W.Frag} : PySem.W.kitOne K (.type "tuple") (.type "tuple") = some true := by unfold PySem.W.kitOne; rw [if_pos (by decide +kernel)]
end L2

set_option Elab.async false
set_option linter.all false
set_option maxRecDepth 100000
namespace L2
open PySem PySem.Spec PyProof.Rows
/-! ### the drawn state: [great, rest, cells, count] -/
theorem noPylong_big {x y : Int} (h0 : 0 < y) (h : y ≤ 10 ^ 100) : Builtin.divisionGoesByPylong x y = false := by
  refine PyProof.noPylong_of_log2 ?_
  have hn : y.natAbs ≠ 0 := by omega
  have h1 : y.natAbs ≤ 10 ^ 100 := by omega
  refine (Nat.log2_lt hn).mpr (Nat.lt_of_le_of_lt h1 (by decide +kernel))
def CDivB (i j : Int) : Prop := 0 < j ∧ j ≤ 10 ^ 100
theorem op_fdivB {X : Cx} : OpR X (binaryOp .FloorDiv) (rI CDivB fun i j => .int (i / j)) := opI fun i j _ _ _ _ _ hc q => by
  refine floordiv_int (by have := hc.1; omega) ?_ (.inl (noPylong_big hc.1 hc.2))
  rw [Int.fdiv_eq_ediv_of_nonneg _ (Int.le_of_lt hc.1)]
  exact q
theorem get_list {X : Cx} : PGet X (fun x y H Q => ∃ p xs i v, x = .ref p ∧ y = .int i ∧ SqL X.K H p xs ∧ 0 ≤ i ∧ xs[i.toNat]? = some v ∧ Q v H) := by
  intro pins s σ H o i ov iv Q I ro ri h
  obtain ⟨p, xs, k, v, rfl, rfl, hq, h0, hv, q⟩ := h
  cases ro
  obtain ⟨t, rfl⟩ := ri
  obtain ⟨its, r, pl, hz⟩ := I.list hq
  have hlen := r.length
  have hn := line63
  obtain ⟨u, hu, ru⟩ := r.get hv
  have hk := (List.getElem?_eq_some_iff.mp hv).1
  exact wpAny_getItem_list pl.isList h0 (by omega) (by simpa using hu) ⟨v, H, I, ru, q⟩

/-- what holds between two statements -/
theorem seqJoin {A B : TS} {D : Ends} {σ : St} {H : Hp} (R : St → Hp → Prop) (h : ∀ nx : St → Hp → Prop, (∀ σ' H', R σ' H' → nx σ' H') → A { D with nx := nx } σ H) (hR : ∀ σ' H', R σ' H' → B D σ' H') : tSeq A B D σ H := h (B D) hR
/-- what may change is at S alone -/
def Keep (S : List Addr) (H H' : Hp) : Prop := ∀ b o, H b = some o → b ∉ S → H' b = some o
theorem Keep.refl (S : List Addr) (H : Hp) : Keep S H H := fun _ _ h _ => h
theorem Keep.trans {S : List Addr} {H H1 H2 : Hp} (a : Keep S H H1) (b : Keep S H1 H2) : Keep S H H2 := fun c o h n => b c o (a c o h n) n
theorem Keep.set {S : List Addr} {H : Hp} {p : Addr} {o : HO} (h : p ∈ S) : Keep S H (upd H p o) := fun b u e n => by
  have hb : b ≠ p := fun z => n (by rw [z]; exact h)
  rw [upd_ne hb]; exact e
structure StAt (H : Hp) (st ga ca : Addr) (N : Nat) : Prop where
  ex : ∃ (gs cs : List Int) (q n : Int), H st = some (.lst [.ref ga, .int q, .ref ca, .int n]) ∧ H ga = some (.lst (gs.map V.int)) ∧ H ca = some (.lst (cs.map V.int)) ∧
    gs.length ≤ 63 ∧ (∀ x ∈ gs, 0 < x) ∧ 0 ≤ q ∧ 0 ≤ n ∧ n ≤ N
  gc : ga ≠ ca
  sg : st ≠ ga
  sc : st ≠ ca
theorem StAt.nin {H : Hp} {st ga ca : Addr} {N : Nat} (S : StAt H st ga ca N) {p : Addr} (h : H p = none) : p ∉ [st, ga] := by
  obtain ⟨gs, cs, q, n, h1, h2, _⟩ := S.ex
  intro z
  rcases List.mem_cons.mp z with rfl | z
  · rw [h1] at h; cases h
  · rcases List.mem_cons.mp z with rfl | z
    · rw [h2] at h; cases h
    · cases z
theorem StAt.mono {H : Hp} {st ga ca : Addr} {N M : Nat} (S : StAt H st ga ca N) (h : N ≤ M) : StAt H st ga ca M := by
  obtain ⟨gs, cs, q, n, h1, h2, h3, h4, h5, h6, h7, h8⟩ := S.ex
  exact ⟨⟨gs, cs, q, n, h1, h2, h3, h4, h5, h6, h7, by omega⟩, S.gc, S.sg, S.sc⟩
theorem StAt.same {H H' : Hp} {st ga ca : Addr} {N : Nat} (S : StAt H st ga ca N) (h : Same H H') : StAt H' st ga ca N := by
  obtain ⟨gs, cs, q, n, h1, h2, h3, r⟩ := S.ex
  exact ⟨⟨gs, cs, q, n, h _ _ h1, h _ _ h2, h _ _ h3, r⟩, S.gc, S.sg, S.sc⟩
theorem Same.new {H : Hp} {p : Addr} {o : HO} (h : H p = none) : Same H (upd H p o) := fun b u e => by rw [upd_ne (ne_of_none e h)]; exact e
theorem pick {ns : List Int} {r : Int} (h0 : 0 ≤ r) (h1 : r < ns.length) : ∃ v, v ∈ ns ∧ atI (ns.map V.int) r = some (.int v) := by
  obtain ⟨j, rfl⟩ : ∃ j : Nat, r = (j : Int) := ⟨r.toNat, by omega⟩
  have hj : j < ns.length := by omega
  exact ⟨ns[j], List.getElem_mem hj, atI_nat (by rw [List.getElem?_map, List.getElem?_eq_getElem hj]; rfl)⟩
theorem Keep.at {S : List Addr} {H H' : Hp} (k : Keep S H H') {b : Addr} {o : HO} (h : H b = some o) (n : b ∉ S) : H' b = some o := k b o h n
theorem map_at {ns : List Int} {i : Nat} {x : V} (h : (ns.map V.int)[i]? = some x) : ∃ z, ns[i]? = some z ∧ x = .int z := by
  rw [List.getElem?_map] at h
  cases hn : ns[i]? with
  | none => rw [hn] at h; cases h
  | some z => rw [hn] at h; exact ⟨z, rfl, (Option.some.inj h).symm⟩
/-- one heap lies in another -/
def lies (ns ms : List Int) : Bool := ns.all fun x => decide (ns.count x ≤ ms.count x)
theorem StAt.nin3 {H : Hp} {st ga ca : Addr} {N : Nat} (S : StAt H st ga ca N) {p : Addr} (h : H p = none) : p ∉ [st, ga, ca] := by
  obtain ⟨gs, cs, q, n, h1, h2, h3, _⟩ := S.ex
  intro z
  simp only [List.mem_cons, List.not_mem_nil, or_false] at z
  rcases z with rfl | rfl | rfl
  · rw [h1] at h; cases h
  · rw [h2] at h; cases h
  · rw [h3] at h; cases h
theorem StAt.upd {H : Hp} {st ga ca : Addr} {N : Nat} {p : Addr} {o : HO} (S : StAt H st ga ca N) (h : p ∉ [st, ga, ca]) : StAt (upd H p o) st ga ca N := by
  obtain ⟨gs, cs, q, n, h1, h2, h3, r⟩ := S.ex
  have n1 : st ≠ p := fun z => h (by simp [z])
  have n2 : ga ≠ p := fun z => h (by simp [z])
  have n3 : ca ≠ p := fun z => h (by simp [z])
  exact ⟨⟨gs, cs, q, n, by rw [upd_ne n1]; exact h1, by rw [upd_ne n2]; exact h2, by rw [upd_ne n3]; exact h3, r⟩, S.gc, S.sg, S.sc⟩
theorem ixN_nat {n j : Nat} (h : j < n) : ixN n (j : Int) = some j := by
  unfold ixN
  rw [if_pos (by omega), if_pos (by omega)]
  simp
end L2

set_option Elab.async false
set_option linter.all false
set_option maxRecDepth 100000
namespace L2
open PySem PySem.Spec PyProof.Rows

/-! ### == and != of tuples and lists, whatever they hold -/
/-- two values of one kind are compared -/
def EqK (X : Cx) (α : Type) [DecidableEq α] (R : α → V → Hp → Prop) (n : Nat) : Prop :=
  ∀ (pins : List (Addr × Obj)) (σ : St) (H : Hp) (s : Shared) (A : Around) (a b : α) (v w : V) (u u' : Value), Inv X pins σ H s → A.units + n < cLine → R a v H → R b w H → RelV v u → RelV w u' → SeqAt.EqAt A s u u' (decide (a = b))
/-- the values of a tuple, of a list -/
inductive All2 {α : Type} (R : α → V → Hp → Prop) (H : Hp) : List α → List V → Prop
  | nil : All2 R H [] []
  | cons {a : α} {v : V} {l : List α} {xs : List V} : R a v H → All2 R H l xs → All2 R H (a :: l) (v :: xs)
theorem All2.length {α : Type} {R : α → V → Hp → Prop} {H : Hp} : ∀ {l : List α} {xs : List V}, All2 R H l xs → l.length = xs.length
  | _, _, .nil => rfl
  | _, _, .cons _ t => by simp [t.length]
theorem All2.get {α : Type} {R : α → V → Hp → Prop} {H : Hp} : ∀ {l : List α} {xs : List V} {i : Nat} {x : V}, All2 R H l xs → xs[i]? = some x → ∃ a, l[i]? = some a ∧ R a x H
  | _, _, _, _, .nil, e => by simp at e
  | _, _, 0, _, .cons r _, e => by simp at e; subst e; exact ⟨_, rfl, r⟩
  | _, _, i + 1, x, .cons _ t, e => by
    obtain ⟨u, h1, h2⟩ := All2.get (i := i) (x := x) t (by simpa using e)
    exact ⟨u, by simpa using h1, h2⟩
def RInt : Int → V → Hp → Prop := fun i v _ => v = .int i
theorem all2_ints {H : Hp} : ∀ (ns : List Int), All2 RInt H ns (ns.map V.int)
  | [] => .nil
  | _ :: r => .cons rfl (all2_ints r)
/-- a tuple of such values -/
def RTup (K : PySem.W.Frag) {α : Type} (R : α → V → Hp → Prop) : List α → V → Hp → Prop := fun l v H => ∃ p xs, v = .ref p ∧ SqT K H p xs ∧ All2 R H l xs
def RLst (K : PySem.W.Frag) {α : Type} (R : α → V → Hp → Prop) : List α → V → Hp → Prop := fun l v H => ∃ p xs, v = .ref p ∧ SqL K H p xs ∧ All2 R H l xs
theorem all_range_eq {α : Type} [DecidableEq α] {l m : List α} {e : Nat → Bool} (h : ∀ j a b, l[j]? = some a → m[j]? = some b → e j = decide (a = b)) : ((List.range (min l.length m.length)).all e && l.length == m.length) = decide (l = m) := by
  rw [Bool.eq_iff_iff]
  simp only [Bool.and_eq_true, List.all_eq_true, List.mem_range, beq_iff_eq, decide_eq_true_eq]
  constructor
  · rintro ⟨h1, h2⟩
    refine List.ext_getElem h2 fun j j1 j2 => ?_
    have := h1 j (by omega)
    rw [h j _ _ (List.getElem?_eq_getElem j1) (List.getElem?_eq_getElem j2)] at this
    exact of_decide_eq_true this
  · rintro rfl
    refine ⟨fun j hj => ?_, rfl⟩
    have hj' : j < l.length := by omega
    rw [h j _ _ (List.getElem?_eq_getElem hj') (List.getElem?_eq_getElem hj')]
    exact decide_eq_true rfl
section
variable {X : Cx}
theorem eqk_int : EqK X Int RInt 0 := fun pins σ H s A a b v w u u' I hu r1 r2 q1 q2 => by
  unfold RInt at r1 r2
  subst r1 r2
  obtain ⟨t, rfl⟩ := q1
  obtain ⟨t', rfl⟩ := q2
  have := SeqAt.EqAt.int_int (A := A) (s := s) a t b t'
  rwa [show (a == b) = decide (a = b) from rfl] at this
variable {α : Type} [DecidableEq α] {R : α → V → Hp → Prop} {n : Nat}
/-- the items' answers -/
theorem eqk_items (h : EqK X α R n) {pins : List (Addr × Obj)} {σ : St} {H : Hp} {s : Shared} {A : Around} {l m : List α} {xs ys : List V} {us ws : List Value} (I : Inv X pins σ H s) (hu : A.units + (n + 1) < cLine)
    (r1 : All2 R H l xs) (r2 : All2 R H m ys) (q1 : Vals xs us) (q2 : Vals ys ws) :
    ∃ e : Nat → Bool, (∀ j (h1 : j < us.toArray.size) (h2 : j < ws.toArray.size), SeqAt.EqAt A.in1 s us.toArray[j] ws.toArray[j] (e j)) ∧ (∀ j a b, l[j]? = some a → m[j]? = some b → e j = decide (a = b)) := by
  refine ⟨fun j => match l[j]?, m[j]? with | some a, some b => decide (a = b) | _, _ => false, fun j h1 h2 => ?_, fun j a b e1 e2 => by simp only [e1, e2]⟩
  have l1 := q1.length
  have l2 := q2.length
  have l3 := r1.length
  have l4 := r2.length
  simp only [List.size_toArray] at h1 h2
  have hx : xs[j]? = some xs[j] := List.getElem?_eq_getElem (by omega)
  have hy : ys[j]? = some ys[j] := List.getElem?_eq_getElem (by omega)
  obtain ⟨a, ea, ra⟩ := r1.get hx
  obtain ⟨b, eb, rb⟩ := r2.get hy
  obtain ⟨u, eu, ru⟩ := q1.get hx
  obtain ⟨w, ew, rw'⟩ := q2.get hy
  have e1 : us.toArray[j]'(by simpa using h1) = u := by
    have := (List.getElem?_eq_some_iff.mp eu).2
    simpa using this
  have e2 : ws.toArray[j]'(by simpa using h2) = w := by
    have := (List.getElem?_eq_some_iff.mp ew).2
    simpa using this
  rw [e1, e2]
  simp only [ea, eb]
  exact h pins σ H s A.in1 a b _ _ u w I (by show A.units + 1 + n < cLine; omega) ra rb ru rw'
theorem rc_tup (h : EqK X α R n) {pins : List (Addr × Obj)} {σ : St} {H : Hp} {s : Shared} {A : Around} {l m : List α} {p q : Addr} (I : Inv X pins σ H s) (hu : A.units + (n + 1) < cLine) (r1 : RTup X.K R l (.ref p) H) (r2 : RTup X.K R m (.ref q) H) :
    SeqAt.RcAt A s (.ref p) (.ref q) (decide (l = m)) := by
  obtain ⟨_, xs, e1, h1, a1⟩ := r1
  obtain ⟨_, ys, e2, h2, a2⟩ := r2
  cases e1
  cases e2
  obtain ⟨us, v1, t1, z1⟩ := I.tuple h1
  obtain ⟨ws, v2, t2, z2⟩ := I.tuple h2
  obtain ⟨e, he, hd⟩ := eqk_items h I hu a1 a2 v1 v2
  have := SeqAt.RcAt.tuples (e := e) t1 t2 (by omega) he
  rw [List.size_toArray, List.size_toArray, ← v1.length, ← v2.length, ← a1.length, ← a2.length, all_range_eq hd] at this
  exact this
theorem rc_lst (h : EqK X α R n) {pins : List (Addr × Obj)} {σ : St} {H : Hp} {s : Shared} {A : Around} {l m : List α} {p q : Addr} (I : Inv X pins σ H s) (hu : A.units + (n + 1) < cLine) (r1 : RLst X.K R l (.ref p) H) (r2 : RLst X.K R m (.ref q) H) :
    SeqAt.RcAt A s (.ref p) (.ref q) (decide (l = m)) := by
  obtain ⟨_, xs, e1, h1, a1⟩ := r1
  obtain ⟨_, ys, e2, h2, a2⟩ := r2
  cases e1
  cases e2
  obtain ⟨us, v1, t1, z1⟩ := I.list h1
  obtain ⟨ws, v2, t2, z2⟩ := I.list h2
  obtain ⟨e, he, hd⟩ := eqk_items h I hu a1 a2 v1 v2
  have ee := all_range_eq hd
  have s1 : us.toArray.size = l.length := by rw [List.size_toArray, ← v1.length, ← a1.length]
  have s2 : ws.toArray.size = m.length := by rw [List.size_toArray, ← v2.length, ← a2.length]
  by_cases hl : l.length = m.length
  · have := SeqAt.RcAt.lists (e := e) t1.isList t2.isList (by rw [s1, s2, hl]) (by omega) he
    rw [s1] at this
    rw [hl, Nat.min_self, beq_self_eq_true, Bool.and_true, ← hl] at ee
    rwa [ee] at this
  · have := SeqAt.RcAt.lists_lengths t1.isList t2.isList (by rw [s1, s2]; simpa using hl) (show A.units < cLine by omega)
    have hne : ¬ l = m := fun e => hl (by rw [e])
    rw [decide_eq_false hne]
    exact this
/-- tuple == tuple -/
theorem op_eqT' (h : EqK X α R n) (hu : X.A.units + (n + 1) < cLine) : OpR X (compareOp .Eq) (fun x y H Q => ∃ l m, RTup X.K R l x H ∧ RTup X.K R m y H ∧ Q (.bl (decide (l = m))) H) := by
  intro pins s σ H x y v u Q I rx ry hq
  obtain ⟨l, m, r1, r2, q⟩ := hq
  obtain ⟨p, xs, rfl, _⟩ := id r1
  obtain ⟨p', ys, rfl, _⟩ := id r2
  cases rx
  cases ry
  exact rc_tup h I hu r1 r2 X.prog X.w X.xe _ ⟨.bl _, H, I, rfl, q⟩
theorem op_eqL' (h : EqK X α R n) (hu : X.A.units + (n + 1) < cLine) : OpR X (compareOp .Eq) (fun x y H Q => ∃ l m, RLst X.K R l x H ∧ RLst X.K R m y H ∧ Q (.bl (decide (l = m))) H) := by
  intro pins s σ H x y v u Q I rx ry hq
  obtain ⟨l, m, r1, r2, q⟩ := hq
  obtain ⟨p, xs, rfl, _⟩ := id r1
  obtain ⟨p', ys, rfl, _⟩ := id r2
  cases rx
  cases ry
  exact rc_lst h I hu r1 r2 X.prog X.w X.xe _ ⟨.bl _, H, I, rfl, q⟩
theorem op_neT' (h : EqK X α R n) (hu : X.A.units + (n + 1) < cLine) : OpR X (compareOp .NotEq) (fun x y H Q => ∃ l m, RTup X.K R l x H ∧ RTup X.K R m y H ∧ Q (.bl (!decide (l = m))) H) := by
  intro pins s σ H x y v u Q I rx ry hq
  obtain ⟨l, m, r1, r2, q⟩ := hq
  obtain ⟨p, xs, rfl, h1, a1⟩ := r1
  obtain ⟨p', ys, rfl, h2, a2⟩ := r2
  cases rx
  cases ry
  obtain ⟨us, v1, t1, z1⟩ := I.tuple h1
  obtain ⟨ws, v2, t2, z2⟩ := I.tuple h2
  obtain ⟨e, he, hd⟩ := eqk_items h I hu a1 a2 v1 v2
  have ee := all_range_eq hd
  have this := SeqAt.RcNeAt.tuples (e := e) t1 t2 (by omega) he
  rw [List.size_toArray, List.size_toArray, ← v1.length, ← v2.length, ← a1.length, ← a2.length, ee] at this
  exact this X.prog X.w X.xe _ ⟨.bl _, H, I, rfl, q⟩
theorem op_neL' (h : EqK X α R n) (hu : X.A.units + (n + 1) < cLine) : OpR X (compareOp .NotEq) (fun x y H Q => ∃ l m, RLst X.K R l x H ∧ RLst X.K R m y H ∧ Q (.bl (!decide (l = m))) H) := by
  intro pins s σ H x y v u Q I rx ry hq
  obtain ⟨l, m, r1, r2, q⟩ := hq
  obtain ⟨p, xs, rfl, h1, a1⟩ := r1
  obtain ⟨p', ys, rfl, h2, a2⟩ := r2
  cases rx
  cases ry
  obtain ⟨us, v1, t1, z1⟩ := I.list h1
  obtain ⟨ws, v2, t2, z2⟩ := I.list h2
  obtain ⟨e, he, hd⟩ := eqk_items h I hu a1 a2 v1 v2
  have ee := all_range_eq hd
  have s1 : us.toArray.size = l.length := by rw [List.size_toArray, ← v1.length, ← a1.length]
  have s2 : ws.toArray.size = m.length := by rw [List.size_toArray, ← v2.length, ← a2.length]
  by_cases hl : l.length = m.length
  · have this := SeqAt.RcNeAt.lists (e := e) t1.isList t2.isList (by rw [s1, s2, hl]) (by omega) he
    rw [s1] at this
    rw [hl, Nat.min_self, beq_self_eq_true, Bool.and_true, ← hl] at ee
    rw [ee] at this
    exact this X.prog X.w X.xe _ ⟨.bl _, H, I, rfl, q⟩
  · have this := SeqAt.RcNeAt.lists_lengths t1.isList t2.isList (by rw [s1, s2]; simpa using hl) (show X.A.units < cLine by omega)
    have hne : ¬ l = m := fun e => hl (by rw [e])
    rw [decide_eq_false hne] at q
    exact this X.prog X.w X.xe _ ⟨.bl _, H, I, rfl, q⟩
end
end L2
namespace L2
open PySem PySem.Spec PyProof.Rows
theorem huR {A : Around} {k n : Nat} {cm : Bool} (hr : Room k A cm) (h : n ≤ 64 := by decide) : A.units + n < cLine := Nat.lt_of_le_of_lt (Nat.add_le_add_left h _) hr.units
end L2
namespace HT
open PySem PySem.Spec PyProof.Rows
section
variable {prog : Program} {w : World} {A : Around} {E : Value → Shared → Prop} {s : Shared}
end
end HT
namespace L2
open PySem PySem.Spec PyProof.Rows
section
variable {X : Cx}
end
end L2

set_option Elab.async false
set_option linter.all false
set_option maxRecDepth 100000
namespace HT
open PySem PySem.Spec PyProof.Rows
section
open PySem.SeqAt
open PySem.AutoSeq1 (wpAny_loadPart')
open PySem.MeetsSeq PySem.MeetsSeq2 PySem.MeetsSeq3
end

section
variable {prog : Program} {w : World} {A : Around} {E : Value → Shared → Prop} {s : Shared}

end
end HT
namespace L2
open PySem PySem.Spec PyProof.Rows
section
variable {X : Cx}
/-! ### texts -/
/-! ### a loop over a text's signs -/
end
end L2

set_option Elab.async false
set_option linter.all false
set_option maxRecDepth 100000
namespace L2
open PySem PySem.Spec PyProof.Rows
section
variable {X : Cx} {tg : Expr}
end
section
variable {X : Cx}
/-- all(list of truths) -/
theorem call_all_bools (hc : X.calm = true) : CallR X (.builtin "all") (fun xs H Q => ∃ (a : Addr) (bs : List Bool), xs = [.ref a] ∧ SqL X.K H a (bs.map V.bl) ∧ Q (.bl (bs.all id)) H) := by
  intro pins s σ H xs us Q I r h
  obtain ⟨a, bs, rfl, hq, q⟩ := h
  obtain ⟨u, rfl, ru⟩ := vals1 r
  cases ru
  have hh : X.A.in1.handled = none := I.ok.hd hc
  obtain ⟨its, r', pl, hz⟩ := I.list hq
  have hl := r'.length
  rw [List.length_map] at hl
  have hlt : a < s.heap.objs.size := by obtain ⟨_, e, _⟩ := pl.isList; exact Heap.lt_size e
  refine call_all_walk (wpAny_pyIter_list pl.isList ⟨_, _, _, _, _, _, fun i => bs.getD i false, rfl, Walks.list (A := X.A.in1) hh _ a (Nat.ne_of_lt hlt) its.toArray, ⟨⟨_, Heap.get?_push_size _ rfl, rfl, rfl⟩, pl.isList.push _⟩, ?_, fun h' tk hk => ?_⟩)
  · intro i v s' Q' E' hv hQ
    have hv' : its[i]? = some v := by simpa using hv
    have hi : i < bs.length := by have := (List.getElem?_eq_some_iff.mp hv').1; omega
    have hx : (bs.map V.bl)[i]? = some (V.bl (bs.getD i false)) := by simp [hi]
    obtain ⟨u, hu, ru⟩ := r'.get hx
    rw [hv'] at hu
    cases hu
    cases ru
    exact wpAny_truthy_bool hQ
  · have e : (List.range its.toArray.size).all (fun i => bs.getD i false) = bs.all id := by
      rw [List.size_toArray, ← hl, Bool.eq_iff_iff]
      simp only [List.all_eq_true, List.mem_range, id]
      constructor
      · intro h b hb
        obtain ⟨i, hi, rfl⟩ := List.mem_iff_getElem.mp hb
        have := h i hi
        simpa [hi] using this
      · intro h i hi
        have := h bs[i] (List.getElem_mem hi)
        simpa [hi] using this
    rw [e]
    exact ⟨.bl _, H, I.kept fun b o e => hk b o (by simpa using Nat.ne_of_lt (Heap.lt_size e)) (Heap.get?_push_of_some _ e), rfl, q⟩
end
end L2

set_option Elab.async false
set_option linter.all false
set_option maxRecDepth 100000
namespace L2
open PySem PySem.Spec PyProof.Rows PySem.NumText PySem.Calls
/-! ### numbers written -/
/-! ### joined and split by one sign -/
end L2

set_option Elab.async false
set_option linter.all false
set_option maxRecDepth 100000
namespace L2
open PySem PySem.Spec PyProof.Rows PySem.NumText
end L2

set_option Elab.async false
set_option linter.all false
set_option maxRecDepth 100000
namespace L2
open PySem PySem.Spec PyProof.Rows

/-! ### the stations of a flight, with the exception's own dict kept in sight -/
theorem mapF_dict (f : Array Value → Array Value) (o : Obj) : (Obj.mapFields f o).dict = o.dict := by
  obtain ⟨c, d, dat, sl⟩ := o
  cases dat <;> rfl
/-- noted: its record, where it flies -/
def TrD (h base : Heap) (e : Addr) (C : Value) (dd : Option Addr) (fl : Value) : Prop :=
  ∃ oe vs T oT ts, h.get? e = some oe ∧ (oe.cls = C ∧ oe.dict = dd) ∧ oe.data = .fields vs ∧ vs[1]? = some (.ref T) ∧
    base.get? T = none ∧ T ≠ e ∧ h.get? T = some oT ∧ oT.data = .fields ts ∧ ts[3]? = some fl
def FlyD (base : Heap) (l : List Env) (e : Addr) (C : Value) (dd : Option Addr) (h : Heap) : Prop := base.StaysIn h ∧ base.get? e = none ∧ h.FunFrames base l ∧ TrD h base e C dd .none
def HeldD (base : Heap) (l : List Env) (e : Addr) (C : Value) (dd : Option Addr) (L : Addr) (h : Heap) : Prop := base.StaysIn h ∧ base.get? e = none ∧ h.FunFrames base l ∧ TrD h base e C dd (rawInt L)
/-- what is no record stays but for its slots -/
def UpS (h h' : Heap) : Prop := ∀ b o, h.get? b = some o → (∀ vs, o.data ≠ .fields vs) → ∃ sl, h'.get? b = some { o with slots := sl }
theorem UpS.same (h : Heap) : UpS h h := fun _ o q _ => ⟨o.slots, q⟩
theorem UpS.trans {h1 h2 h3 : Heap} (x : UpS h1 h2) (y : UpS h2 h3) : UpS h1 h3 := fun b o q n => by
  obtain ⟨sl, q2⟩ := x b o q n
  obtain ⟨sl2, q3⟩ := y b { o with slots := sl } q2 n
  exact ⟨sl2, q3⟩
section
variable {M : Model} {A : Around} {E : Value → Shared → Prop} {s : Shared} {base : Heap} {env : Env} {outer : List Env} {L e : Addr} {C : Value} {dd : Option Addr} {Q : Unit → Shared → Prop}
/-- a record's field set: all else stays -/
theorem upd_away {h : Heap} {T : Addr} {oT : Obj} {ts : Array Value} (hT : h.get? T = some oT) (hd : oT.data = .fields ts) (f : Array Value → Array Value) :
    (∀ b, b ≠ T → (h.update T (Obj.mapFields f)).get? b = h.get? b) ∧ (∀ b o, h.get? b = some o → (∀ vs, o.data ≠ .fields vs) → (h.update T (Obj.mapFields f)).get? b = some o) ∧ (h.update T (Obj.mapFields f)).get? T = some (Obj.mapFields f oT) := by
  have far : ∀ b, b ≠ T → (h.update T (Obj.mapFields f)).get? b = h.get? b := fun b n => Heap.get?_update_other _ _ (Ne.symm n)
  refine ⟨far, fun b o q n => ?_, Heap.get?_update_self _ hT (Obj.isFreed_of_fields (Obj.data_mapFields hd _))⟩
  refine (far b fun z => ?_).trans q
  subst z
  rw [hT] at q
  cases q
  exact n ts hd
/-- flight set -/
theorem st_flight {l : List Env} {fl : Value} (f : Option Addr) (k1 : base.StaysIn s.heap) (k2 : s.heap.FunFrames base l) (k3 : TrD s.heap base e C dd fl)
    (q : ∀ h', base.StaysIn h' → h'.FunFrames base l → TrD h' base e C dd (f.elim Value.none fun f => rawInt f) → UpS s.heap h' → Q () { s with heap := h' }) : wpAny M A (setFlight (.ref e) f) Q E s := by
  obtain ⟨oe, vs, T, oT, ts, g1, g2, g3, g4, g5, g6, g7, g8, g9⟩ := k3
  have z3 : 3 < ts.size := (Array.getElem?_eq_some_iff.mp g9).1
  obtain ⟨far, non, own⟩ := upd_away g7 g8 (·.setIfInBounds 3 (f.elim Value.none fun f => rawInt f))
  unfold setFlight
  refine wpAny_bind (wpAny_field g1 g3 g4 ?_)
  rw [if_pos (by simp)]
  refine wpAny_setField g7 g8 z3 (q _ ?_ ?_ ?_ fun b o q n => ⟨o.slots, non b o q n⟩)
  · intro b o qb
    refine (far b fun z => ?_).trans (k1 b o qb)
    rw [z, g5] at qb
    cases qb
  · exact k2.of_keeps fun b o qb n => ⟨o, non b o qb n, rfl⟩
  · exact ⟨oe, vs, T, _, _, (far e (Ne.symm g6)).trans g1, g2, g3, g4, g5, g6, own, Obj.data_mapFields g8 _, by simp [z3]⟩
/-- a new record in front -/
theorem st_entry {oe : Obj} {vs : Array Value} {head : Value} {more : Bool} (fr : A.frames = some (env :: outer)) (k2 : s.heap.FunFrames base (env :: outer)) (hL : env.frame = some L) (g1 : s.heap.get? e = some oe) (k1 : base.StaysIn s.heap) (ne : base.get? e = none)
    (g3 : oe.data = .fields vs) (z1 : 1 < vs.size) (q : ∀ h', base.StaysIn h' → h'.FunFrames base (env :: outer) → TrD h' base e oe.cls oe.dict (rawInt L) → UpS s.heap h' → Q () { s with heap := h' }) :
    wpAny M A (do
      let a ← frameOf env
      let pl ← entryPlaceOf L more
      let b ← EntryCells.newEntry head a .none (rawInt L) .none pl
      setField (.ref e) 1 b) Q E s := by
  have nf : e ∉ (env :: outer).filterMap (·.frame) := fun z => by
    obtain ⟨_, o, ho, n⟩ := k2.mem z
    rw [g1] at ho
    cases ho
    exact n vs g3
  refine wpAny_bind (wpAny_frameOf_fun fr k2 hL fun h1 x1 => ?_)
  refine wpAny_bind (wpAny_entryPlaceOf fun pl hpl => ?_)
  unfold EntryCells.newEntry newFields
  refine wpAny_bind (wpAny_newObj_type ?_ (hpl.sizeOk5 _ _ _ _ _))
  have e1 : h1.get? e = some oe := by rw [x1.2.1 e nf]; exact g1
  have b1 : base.StaysIn h1 := fun b o qb => by
    rw [x1.2.1 b fun z => by rw [(k2.mem z).1] at qb; cases qb]
    exact k1 b o qb
  generalize hR : ({ cls := .type "traceback", dict := none, data := .fields ([head, .ref L, .none, rawInt L, .none] ++ (if pl.isEmpty then List.replicate 6 Value.none else pl)).toArray } : Obj) = R
  have dR : R.data = .fields ([head, .ref L, .none, rawInt L, .none] ++ (if pl.isEmpty then List.replicate 6 Value.none else pl)).toArray := by rw [← hR]
  have fR : R.isFreed = false := Obj.isFreed_of_fields dR
  have e2 : (h1.push R).get? e = some oe := Heap.get?_push_of_some _ e1
  refine wpAny_setField e2 g3 z1 ?_
  have nT : h1.objs.size ≠ e := Nat.ne_of_gt (Heap.lt_size e1)
  obtain ⟨far, non, own⟩ := upd_away e2 g3 (·.setIfInBounds 1 (Value.ref h1.objs.size))
  have keep : ∀ b o, b ≠ e → h1.get? b = some o → ((h1.push R).update e (Obj.mapFields (·.setIfInBounds 1 (Value.ref h1.objs.size)))).get? b = some o := fun b o n qb => by
    rw [far b n]
    exact Heap.get?_push_of_some _ qb
  have ne' : ∀ b o, s.heap.get? b = some o → (∀ vs, o.data ≠ .fields vs) → b ≠ e := fun b o qb n z => by
    rw [z, g1] at qb
    cases qb
    exact n vs g3
  refine q _ ?_ ?_ ?_ ?_
  · exact fun b o qb => keep b o (fun z => by rw [z, ne] at qb; cases qb) (b1 b o qb)
  · refine k2.of_keeps fun b o qb n => ?_
    obtain ⟨sl, y⟩ := x1.2.2 b o qb
    exact ⟨_, keep b _ (ne' b o qb n) y, rfl⟩
  · refine ⟨_, _, h1.objs.size, R, _, own, ⟨Obj.cls_mapFields _ _, mapF_dict _ _⟩, Obj.data_mapFields g3 _, by simp [z1], b1.fresh, nT, ?_, dR, ?_⟩
    · rw [far _ nT]
      exact Heap.get?_push_size h1 fR
    · simp
  · intro b o qb n
    obtain ⟨sl, y⟩ := x1.2.2 b o qb
    exact ⟨sl, keep b _ (ne' b o qb n) y⟩
/-- noted here: one that flies -/
theorem st_note (fr : A.frames = some (env :: outer)) (hL : env.frame = some L) (x : FlyD base (env :: outer) e C dd s.heap) (q : ∀ h', HeldD base (env :: outer) e C dd L h' → UpS s.heap h' → Q () { s with heap := h' }) : wpAny M A (noteFrame (.ref e) env) Q E s := by
  obtain ⟨k1, ne, k2, oe, vs, T, oT, ts, g1, ⟨rfl, rfl⟩, g3, g4, g5, g6, g7, g8, g9⟩ := x
  obtain ⟨far, non, own⟩ := upd_away g7 g8 (·.setIfInBounds 3 Value.none)
  unfold noteFrame
  simp only [hL]
  refine wpAny_bind (wpAny_field g1 g3 g4 ?_)
  rw [if_pos (by simp)]
  refine wpAny_bind (wpAny_field g7 g8 g9 ?_)
  rw [if_neg (by simp [rawInt])]
  refine wpAny_bind (wpAny_setField g7 g8 (Array.getElem?_eq_some_iff.mp g9).1 ?_)
  refine st_entry fr (k2.of_keeps fun b o qb n => ⟨o, non b o qb n, rfl⟩) hL ((far e (Ne.symm g6)).trans g1) (fun b o qb => ?_) ne g3 (Array.getElem?_eq_some_iff.mp g4).1 fun h' y1 y2 y3 y4 => q h' ⟨y1, ne, y2, y3⟩ fun b o qb n => y4 b o (non b o qb n) n
  refine (far b fun z => ?_).trans (k1 b o qb)
  rw [z, g5] at qb
  cases qb
/-- .. and one that is noted here already -/
theorem st_again {fl : Value} (hL : env.frame = some L) (x : TrD s.heap base e C dd (rawInt L)) (q : Q () s) : wpAny M A (noteFrame (.ref e) env) Q E s := by
  obtain ⟨oe, vs, T, oT, ts, g1, g2, g3, g4, g5, g6, g7, g8, g9⟩ := x
  unfold noteFrame
  simp only [hL]
  refine wpAny_bind (wpAny_field g1 g3 g4 ?_)
  rw [if_pos (by simp)]
  refine wpAny_bind (wpAny_field g7 g8 g9 ?_)
  rw [if_pos (by simp)]
  exact wpAny_pure q
/-- .. and one just made -/
theorem st_first {oe : Obj} {vs : Array Value} (fr : A.frames = some (env :: outer)) (k2 : s.heap.FunFrames base (env :: outer)) (hL : env.frame = some L) (g1 : s.heap.get? e = some oe) (k1 : base.StaysIn s.heap) (ne : base.get? e = none)
    (g3 : oe.data = .fields vs) (g4 : vs[1]? = some .none) (q : ∀ h', HeldD base (env :: outer) e oe.cls oe.dict L h' → UpS s.heap h' → Q () { s with heap := h' }) : wpAny M A (noteFrame (.ref e) env) Q E s := by
  unfold noteFrame
  simp only [hL]
  refine wpAny_bind (wpAny_field g1 g3 g4 ?_)
  rw [if_neg (by decide)]
  exact st_entry fr k2 hL g1 k1 ne g3 (Array.getElem?_eq_some_iff.mp g4).1 fun h' y1 y2 y3 y4 => q h' ⟨y1, ne, y2, y3⟩ y4
end
/-! ### exceptions: how one lies behind a call, and within a body -/
/-- B: all that stays as it is while the exception flies (all but the frames, the exception and its records) -/
structure Cov (s₀ : Heap) (H₀ : Hp) (fr ex : List Addr) (H' : Hp) (B : Heap) : Prop where
  trk : ∀ b u, H' b = some u → ∃ o, B.get? b = some o
  old : ∀ b o, s₀.get? b = some o → H₀ b = none → b ∉ fr → b ∉ ex → B.get? b = some o
  all : ∀ b o, s₀.get? b = some o → b ∉ fr → b ∉ ex → ∃ o', B.get? b = some o'
def CX1 (P : Program) (w : World) : CXT := fun outer H s E ev s' => ∃ (e : Addr) (C : Value) (dd : Option Addr) (H' : Hp), ev = .ref e ∧ E C dd H' ∧ s'.os = s.os ∧ AllBare s'.gens ∧ Un (frs outer) [] H H' s.heap s'.heap ∧ HOk P w H' s'.heap ∧ H' e = none ∧
  ∃ B, FlyD B outer e C dd s'.heap ∧ Cov s.heap H (frs outer) [] H' B
/-- within a body: just made, come from a callee, or noted here -/
inductive ExcSt (B : Heap) (l : List Env) (L e : Addr) (C : Value) (dd : Option Addr) (h : Heap) : Prop where
  | made (oe : Obj) (vs : Array Value) : B.StaysIn h → h.FunFrames B l → B.get? e = none → h.get? e = some oe → oe.cls = C → oe.dict = dd → oe.data = .fields vs → vs[1]? = some .none → ExcSt B l L e C dd h
  | fly : FlyD B l e C dd h → ExcSt B l L e C dd h
  | held : HeldD B l e C dd L h → ExcSt B l L e C dd h
theorem ExcSt.stays {B : Heap} {l : List Env} {L e : Addr} {C : Value} {dd : Option Addr} {h : Heap} (x : ExcSt B l L e C dd h) : B.StaysIn h := by
  cases x with
  | made oe vs a b c => exact a
  | fly a => exact a.1
  | held a => exact a.1
theorem ExcSt.frames {B : Heap} {l : List Env} {L e : Addr} {C : Value} {dd : Option Addr} {h : Heap} (x : ExcSt B l L e C dd h) : h.FunFrames B l := by
  cases x with
  | made oe vs a b c => exact b
  | fly a => exact a.2.2.1
  | held a => exact a.2.2.1
structure ExcAt (X : Cx) (H' : Hp) (e : Addr) (C : Value) (dd : Option Addr) (s' : Shared) : Prop where
  os : s'.os = X.s₀.os
  bare : AllBare s'.gens
  un : Un X.fs X.ex X.H₀ H' X.s₀.heap s'.heap
  hok : HOk X.prog X.w H' s'.heap
  fe : H' e = none
  st : ∃ B, Cov X.s₀.heap X.H₀ (frs X.stack) X.ex H' B ∧ ExcSt B X.stack X.env.locals e C dd s'.heap
/-- the heap turns while the exception flies -/
theorem Cov.turn {P : Program} {w : World} {s₀ h h' : Heap} {H₀ H' : Hp} {fr fs ex : List Addr} {B : Heap} (c : Cov s₀ H₀ fr ex H' B) (hs : ∀ b ∈ fs, b ∈ fr) (hnf : ∀ b ∈ fr, ∃ o, h.get? b = some o ∧ ∀ vs, o.data ≠ .fields vs) (b1 : B.StaysIn h) (b2 : B.StaysIn h')
    (up : ∀ b o, h.get? b = some o → (∀ vs, o.data ≠ .fields vs) → ∃ sl, h'.get? b = some { o with slots := sl }) (un : Un fs ex H₀ H' s₀ h) (hok : HOk P w H' h)
    (hfs : ∀ b o, s₀.get? b = some o → b ∈ fr → b ∈ fs) : Un fs ex H₀ H' s₀ h' ∧ HOk P w H' h' := by
  refine ⟨⟨fun b o q n hb hx => ?_, fun b o q n hb hx => ?_, un.free, fun b o q hx => ?_, un.tups, un.frzs, un.tbls⟩, fun b u e => ?_⟩
  · by_cases hf : b ∈ fr
    · exact absurd (hfs b o q hf) hb
    · exact b2 b o (c.old b o q n hf hx)
  · obtain ⟨sl, e1⟩ := un.slot b o q n hb hx
    obtain ⟨o1, e2, nf⟩ := hnf b (hs b hb)
    rw [e1] at e2
    cases e2
    obtain ⟨sl', e3⟩ := up b _ e1 nf
    exact ⟨sl', e3⟩
  · by_cases hf : b ∈ fr
    · obtain ⟨o1, e2, nf⟩ := hnf b hf
      obtain ⟨sl', e3⟩ := up b _ e2 nf
      exact ⟨_, e3⟩
    · obtain ⟨o', e⟩ := c.all b o q hf hx
      exact ⟨o', b2 b o' e⟩
  · refine (hok b u e).stay (fun d v hd q => ?_) (fun _ q => q) fun _ _ q => q
    have hd' : ∃ u', H' d = some u' := by
      rcases hd with rfl | hd
      · exact ⟨u, e⟩
      · exact ⟨_, hd⟩
    obtain ⟨u', hu'⟩ := hd'
    obtain ⟨o, ho⟩ := c.trk d u' hu'
    have := b1 d o ho
    rw [q] at this
    cases this
    exact b2 d v ho
theorem frames_nf {B h : Heap} {l : List Env} (x : h.FunFrames B l) : ∀ b ∈ frs l, ∃ o, h.get? b = some o ∧ ∀ vs, o.data ≠ .fields vs := fun b hb => by
  obtain ⟨_, o, ho, hnf⟩ := x.mem hb
  exact ⟨o, ho, hnf⟩
/-- what is wanted of an exception that leaves a body -/
def XE (X : Cx) (E : XK) : Value → Shared → Prop := fun ev s' => ∃ (e : Addr) (C : Value) (dd : Option Addr) (H' : Hp), ev = .ref e ∧ E C dd H' ∧ ExcAt X H' e C dd s'
section
variable {X : Cx} {outer : List Env}
/-- a body's own frame is the top one -/
structure Own (X : Cx) : Prop where
  ok : X.Ok
  top : X.stack = X.env :: X.outer
  fr : X.env.frame = some X.env.locals
theorem Own.sub (o : Own X) : ∀ b ∈ X.fs, b ∈ frs X.stack := fun b hb => by
  rw [o.top]; unfold frs; rw [List.filterMap_cons, o.fr]; exact List.mem_cons_of_mem _ hb
theorem Own.old (o : Own X) : ∀ b ob, X.s₀.heap.get? b = some ob → b ∈ frs X.stack → b ∈ X.fs := fun b ob q hb => by
  rw [o.top] at hb
  unfold frs at hb
  rw [List.filterMap_cons, o.fr] at hb
  rcases List.mem_cons.mp hb with rfl | hb
  · exact absurd (Nat.lt_of_lt_of_le (Heap.lt_size q) o.ok.above) (Nat.lt_irrefl _)
  · exact hb
/-- noted here -/
theorem ExcAt.note {M : Model} {E' : Value → Shared → Prop} {H' : Hp} {e : Addr} {C : Value} {dd : Option Addr} {s' : Shared} {Q : Unit → Shared → Prop} (o : Own X) (x : ExcAt X H' e C dd s')
    (h : ∀ s'', ExcAt X H' e C dd s'' → (∃ B, HeldD B X.stack e C dd X.env.locals s''.heap ∧ Cov X.s₀.heap X.H₀ (frs X.stack) X.ex H' B) → Q () s'') : wpAny M X.A (noteFrame (.ref e) X.env) Q E' s' := by
  obtain ⟨B, c, st⟩ := x.st
  have fin : ∀ {h' : Heap}, HeldD B X.stack e C dd X.env.locals h' → UpS s'.heap h' → Q () { s' with heap := h' } := fun {h'} hh up => by
    obtain ⟨u, k⟩ := c.turn o.sub (frames_nf st.frames) st.stays hh.1 up x.un x.hok o.old
    exact h _ ⟨x.os, x.bare, u, k, x.fe, B, c, .held hh⟩ ⟨B, hh, c⟩
  have hfr : X.A.frames = some (X.env :: X.outer) := by rw [← o.top]; exact o.ok.frames
  cases st with
  | made oe vs b1 b2 b3 he hc hdd hd h1 =>
    subst hc hdd
    rw [o.top] at b2
    exact st_first hfr b2 o.fr he b1 b3 hd h1 fun h' hh up => fin (by rw [o.top]; exact hh) up
  | fly hf =>
    rw [o.top] at hf
    exact st_note hfr o.fr hf fun h' hh up => fin (by rw [o.top]; exact hh) up
  | held hh =>
    exact st_again (fl := .none) o.fr hh.2.2.2 (fin hh (UpS.same _))
/-- flight set once more -/
theorem ExcAt.back {M : Model} {E' : Value → Shared → Prop} {H' : Hp} {e : Addr} {C : Value} {dd : Option Addr} {s' : Shared} {Q : Unit → Shared → Prop} (o : Own X) (x : ExcAt X H' e C dd s') (hx : ∃ B, HeldD B X.stack e C dd X.env.locals s'.heap ∧ Cov X.s₀.heap X.H₀ (frs X.stack) X.ex H' B)
    (h : ∀ s'', ExcAt X H' e C dd s'' → Q () s'') : wpAny M X.A (do
      if (← field (.ref e) 1) == .none then unsupported "frame.own-activation:exception-without-traceback"
      setFlight (.ref e) X.env.frame) Q E' s' := by
  obtain ⟨B, ⟨f1, f2, f3, f4⟩, c⟩ := hx
  obtain ⟨oe, vs, T, oT, ts, he, hcls, hd, h1, hnT, hTe, hT, hdT, h3⟩ := id f4
  refine wpAny_bind (wpAny_field he hd h1 ?_)
  rw [if_neg (show ¬ ((Value.ref T == Value.none) = true) from by simp)]
  rw [o.fr]
  refine st_flight (some X.env.locals) f1 f3 f4 fun h' k1 k2 k3 up => ?_
  obtain ⟨u, k⟩ := c.turn o.sub (frames_nf f3) f1 k1 up x.un x.hok o.old
  exact h _ ⟨x.os, x.bare, u, k, x.fe, B, c, .held ⟨k1, f2, k2, k3⟩⟩
theorem XE.passes {E : XK} (o : Own X) : PassesOwn (model X.prog X.w) X.A X.env (XE X E) := fun ev s' hx => by
  obtain ⟨e, C, dd, H', rfl, hE, x⟩ := hx
  exact x.note o fun s'' x'' hh => x''.back o hh fun s3 x3 => ⟨e, C, dd, H', rfl, hE, x3⟩
/-- the exception leaves the body -/
theorem ExcAt.leave {M : Model} {E' : Value → Shared → Prop} {H' : Hp} {e : Addr} {C : Value} {dd : Option Addr} {s' : Shared} {E : XK} (o : Own X) (hex : X.ex = []) (x : ExcAt X H' e C dd s') (hE : E C dd H') :
    wpAny M X.A (leaving X.env (.ref e)) (fun _ s'' => CX1 X.prog X.w X.outer X.H₀ X.s₀ E (.ref e) s'') E' s' := by
  unfold leaving
  refine wpAny_bind (x.note o fun s2 x2 ⟨B, ⟨f1, f2, f3, f4⟩, c⟩ => ?_)
  refine st_flight none f1 f3 f4 fun h' k1 k2 k3 up => ?_
  obtain ⟨u, k⟩ := c.turn o.sub (frames_nf f3) f1 k1 up x2.un x2.hok o.old
  rw [hex] at u c
  rw [o.top] at k2
  obtain ⟨_, _, k2⟩ := k2
  exact ⟨e, C, dd, H', rfl, hE, x2.os, x2.bare, u, k, x2.fe, B, ⟨k1, f2, k2, k3⟩, c.trk, fun b ob q n hb hx => c.old b ob q n (fun z => hb (o.old b ob q z)) hx, fun b ob q hb hx => c.all b ob q (fun z => hb (o.old b ob q z)) hx⟩
end
end L2

set_option Elab.async false
set_option linter.all false
set_option maxRecDepth 100000
namespace L2
open PySem PySem.Spec PyProof.Rows

theorem PSs.wished {X : Cx} {E : Value → Shared → Prop} {st : List Stmt} {t : TS} (h : PSs (X.wish E) st t) (hE : X.Ok → ∀ ev s', E ev s' → X.xe ev s') : PSs X st t := fun pins s σ H D I hw =>
  wpAny_mono (h pins s σ H D (I.wish E) hw) (fun f s' q => q.unwish) fun ev s' q => hE I.ok ev s' q
section
variable {P : Program} {w : World} {K : PySem.W.Frag} {mg : Str → Option Value} {base : Heap}
/-- a def's body and what may leave it: E of every exception's class and heap -/
theorem Fun.okE {x qual : Str} {st : Stmt} {f : Addr} {fd : FuncData} {N ps : List Str} {k : Nat} {sp : Sp} {cm : Bool} (F : Fun K x qual st f fd) (S : FnScope N ps (defScope st)) (len : ∀ vs H Q E, sp vs H Q E → vs.length = ps.length)
    (hbody : ∀ (cdv : Value) (A : Around) (outer : List Env) (s : Shared) (H : Hp) (vs : List V) (Q : VK) (E : XK), Room k (A.deeper (envOfC qual (defScope st) s.heap.objs.size f cdv)) cm → sp vs H Q E →
      ∃ t, PSs ((cxOf (CX1 P w) P w K mg base N qual (defScope st) f cdv A outer s H E cm).wish (XE (cxOf (CX1 P w) P w K mg base N qual (defScope st) f cdv A outer s H E cm) E)) (defBody st) t ∧ t { nx := fun _ H' => Q .non H', rt := Q } (start N vs) H) : FnOk P w K mg base (CX1 P w) (k + 1) f fd ps sp cm := by
  obtain ⟨oc, od, kV, doc, pm, an, cdv, ct, osl, rfl, lk, hcd⟩ := F.ex
  refine fn_of lk hcd S len fun A outer s H vs Q E hr hsp => ?_
  obtain ⟨t, h, q⟩ := hbody cdv A outer s H vs Q E hr hsp
  refine ⟨t, h.wished fun ok ev s' hx => ?_, q⟩
  obtain ⟨e, C, dd, H', rfl, hE, x⟩ := hx
  exact ExcAt.leave (X := cxOf (CX1 P w) P w K mg base N qual (defScope st) f cdv A outer s H E cm) ⟨ok, rfl, rfl⟩ rfl x hE
end
/-- the loops' condition -/
theorem own1 {X : Cx} {E : XK} (top : X.stack = X.env :: X.outer) (fr : X.env.frame = some X.env.locals) (ok : X.Ok) : PassesOwn (model (X.wish (XE X E)).prog (X.wish (XE X E)).w) (X.wish (XE X E)).A (X.wish (XE X E)).env (X.wish (XE X E)).xe := XE.passes (X := X) ⟨ok, top, fr⟩

/-! ### raise -/
theorem ObjOk.some {P : Program} {w : World} {H : Hp} {h : Heap} {a : Addr} {o : HO} (x : ObjOk P w H h a o) : ∃ ob, h.get? a = some ob := by
  induction o with
  | lst xs => obtain ⟨_, _, _, _, e⟩ := x; exact ⟨_, e⟩
  | tup xs => obtain ⟨_, _, _, ⟨ob, e, _⟩, _⟩ := x; exact ⟨_, e⟩
  | dK kvs => obtain ⟨_, _, _, _, o, _, _, e, _⟩ := x; exact ⟨_, e⟩
  | dT kvs => obtain ⟨_, _, _, _, o, _, _, e, _⟩ := x; exact ⟨_, e⟩
  | set S n => obtain ⟨ob, _, _, _, e, _⟩ := x; exact ⟨_, e⟩
  | ins C dx fs => obtain ⟨_, _, _, e, _⟩ := x; exact ⟨_, e⟩
  | own y => exact x
  | xd fs => obtain ⟨_, ⟨ob, _, _, e, _⟩, _⟩ := x; exact ⟨_, e⟩
  | rng lo hi => obtain ⟨_, _, _, e⟩ := x; exact ⟨_, e⟩
  | frz ob u _ => exact ⟨_, x.1⟩
  | tbl ps => exact ⟨_, x⟩
  | met f y => exact ⟨_, x⟩
  | ext φ => exact x.2.1
/-- an own exception class beneath ValueError, without an __init__ along the way -/
def bmV : List Value := [.type "ValueError", .type "Exception", .type "BaseException", .type "object"]
structure ExcC (K : PySem.W.Frag) (C : Addr) : Prop where
  inn : PySem.W.excIn K C bmV "ValueError.__new__" = true
  kp : PySem.W.keepIn K (.ref C) = true
theorem ExcC.obj {K : PySem.W.Frag} {C : Addr} {h : Heap} (c : ExcC K C) (X : K.In h) : ∃ (bm : List Value) (N : Addr) (nm q : Str) (bs : List Value) (hdct : Bool) (sn : List Str) (sub : List Value) (ab : Bool) (col : Option Bool) (dd : Option Addr) (k0 k1 k2 k3 k5 : Option Value) (mN : Str → Option Value),
    h.get? C = some (excClassObj nm q C N bs bm hdct sn sub ab col dd k0 k1 k2 k3 k5 "ValueError.__new__") ∧ h.Ns N mN ∧ mN "__init__" = none ∧ OwnTail h bmV bm ∧ K.lookup C = some (excClassObj nm q C N bs bm hdct sn sub ab col dd k0 k1 k2 k3 k5 "ValueError.__new__") := by
  have q := c.inn
  unfold PySem.W.excIn at q
  split at q
  · rename_i dd cd sl ho
    split at q
    · rename_i C' bm k0 k1 k2 k3 n k5 hm hs
      simp only [Bool.and_eq_true, beq_iff_eq, Bool.not_eq_true'] at q
      obtain ⟨⟨⟨⟨⟨rfl, rfl⟩, hdel⟩, ht⟩, hok⟩, hni⟩ := q
      obtain ⟨nm, bs, mro, ns, qn, hd, sn, sub, ab, col, del⟩ := cd
      dsimp only at hm hdel hok hni
      subst hm hdel
      have hsl : sl = #[k0, k1, k2, k3, some (.builtin "ValueError.__new__"), k5] := by
        obtain ⟨l⟩ := sl
        simp only at hs
        rw [hs]
      subst hsl
      exact ⟨bm, ns, nm, qn, bs, hd, sn, sub, ab, col, dd, k0, k1, k2, k3, k5, _, X _ _ ho, .of_isNs (PySem.W.isNs_of_in X hok), PySem.W.nsMap_none_of_in X hok hni, PySem.W.tail_of_in X ht, ho⟩
    · cases q
  · cases q
end L2

set_option Elab.async false
set_option linter.all false
set_option maxRecDepth 100000
namespace L2
open PySem PySem.Spec PyProof.Rows

/-! ### an exception that has landed: noted here, its flight ended -/
structure Lnd (X : Cx) (s : Shared) (H H' : Hp) (e : Addr) (C : Value) (dd : Option Addr) (s3 : Shared) : Prop where
  os : s3.os = s.os
  bare : AllBare s3.gens
  un : Un (frs X.stack) [] H H' s.heap s3.heap
  hok : HOk X.prog X.w H' s3.heap
  fe : H' e = none
  st : ∃ B, FlyD B X.stack e C dd s3.heap ∧ Cov s.heap H (frs X.stack) [] H' B
def IsExc (e : Addr) (C : Value) (h : Heap) : Prop := ∃ oe vs, h.get? e = some oe ∧ oe.cls = C ∧ oe.data = .fields vs
section
variable {X : Cx} {pins : List (Addr × Obj)} {σ : St} {H H' : Hp} {s s3 : Shared} {e : Addr} {C : Value} {dd : Option Addr}
theorem Lnd.inv (I : Inv X pins σ H s) (l : Lnd X s H H' e C dd s3) : Inv X pins σ H' s3 := I.call' l.os l.un l.hok l.bare (fun b z => nomatch z)
theorem CX1.lands {M : Model} {E : XK} {E' : Value → Shared → Prop} {ev : Value} {s' : Shared} {Q : Unit → Shared → Prop} (hfr : X.A.frames = some (X.env :: X.outer)) (top : X.stack = X.env :: X.outer) (fr : X.env.frame = some X.env.locals) (h : CX1 X.prog X.w X.stack H s E ev s')
    (hQ : ∀ e C dd H' s3, ev = .ref e → E C dd H' → Lnd X s H H' e C dd s3 → Q () s3) : wpAny M X.A (noteFrame ev X.env) (fun _ s2 => wpAny M X.A (setFlight ev none) Q E' s2) E' s' := by
  obtain ⟨e, C, dd, H', rfl, hE, hos, hb, un, hok, fe, B, hf, c⟩ := h
  have hf' := hf
  rw [top] at hf
  refine st_note hfr fr hf fun h2 hh up => ?_
  obtain ⟨f1, f2, f3, f4⟩ := hh
  refine st_flight none f1 f3 f4 fun h3 k1 k2 k3 up3 => ?_
  obtain ⟨u, k⟩ := c.turn (P := X.prog) (w := X.w) (fs := frs X.stack) (fun _ z => z) (frames_nf hf'.2.2.1) hf.1 k1 (up.trans up3) un hok (fun _ _ _ z => z)
  rw [← top] at k2
  exact hQ e C dd H' _ rfl hE ⟨hos, hb, u, k, fe, B, ⟨k1, f2, k2, k3⟩, c⟩
theorem Lnd.again {M : Model} {A : Around} {E' : Value → Shared → Prop} {Q : Unit → Shared → Prop} (l : Lnd X s H H' e C dd s3) (hQ : ∀ s4, Lnd X s H H' e C dd s4 → Q () s4) : wpAny M A (setFlight (.ref e) none) Q E' s3 := by
  obtain ⟨B, ⟨f1, f2, f3, f4⟩, c⟩ := l.st
  refine st_flight none f1 f3 f4 fun h' k1 k2 k3 k4 => ?_
  obtain ⟨u, k⟩ := c.turn (P := X.prog) (w := X.w) (fs := frs X.stack) (fun _ z => z) (frames_nf f3) f1 k1 k4 l.un l.hok (fun _ _ _ z => z)
  exact hQ _ ⟨l.os, l.bare, u, k, l.fe, B, ⟨k1, f2, k2, k3⟩, c⟩
theorem Lnd.obj (l : Lnd X s H H' e C dd s3) : IsExc e C s3.heap := by
  obtain ⟨B, ⟨f1, f2, f3, oe, vs, T, oT, ts, he, hc, hd, _⟩, c⟩ := l.st
  exact ⟨oe, vs, he, hc.1, hd⟩
theorem Lnd.new (l : Lnd X s H H' e C dd s3) : s.heap.get? e = none := by
  obtain ⟨oe, vs, he, hc, hd⟩ := l.obj
  obtain ⟨B, ⟨f1, f2, f3, f4⟩, c⟩ := l.st
  cases q : s.heap.get? e with
  | none => rfl
  | some o =>
    by_cases hm : e ∈ frs X.stack
    · obtain ⟨o1, e1, nf⟩ := frames_nf f3 e hm
      rw [he] at e1; cases e1
      exact absurd hd (nf vs)
    · obtain ⟨o', e'⟩ := c.all e o q hm (by simp)
      rw [f2] at e'; cases e'
/-- .. with its dict -/
def IsExcD (e : Addr) (C : Value) (dd : Option Addr) (h : Heap) : Prop := ∃ oe vs, h.get? e = some oe ∧ oe.cls = C ∧ oe.dict = dd ∧ oe.data = .fields vs
theorem Lnd.objD (l : Lnd X s H H' e C dd s3) : IsExcD e C dd s3.heap := by
  obtain ⟨B, ⟨f1, f2, f3, oe, vs, T, oT, ts, he, hc, hd, _⟩, c⟩ := l.st
  exact ⟨oe, vs, he, hc.1, hc.2, hd⟩
/-- .. and tracked -/
theorem Lnd.track (I : Inv X pins σ H s) (l : Lnd X s H H' e C dd s3) {φ : Heap → Prop} (hφ : φ s3.heap) (mono : ∀ h h', φ h → (∀ o, h.get? e = some o → h'.get? e = some o) → φ h') : Inv X pins σ (upd H' e (.ext φ)) s3 := by
  have hnew := l.new
  have ne : ∀ b u, H b = some u → b ≠ e := fun b u q z => by
    obtain ⟨o, ho⟩ := (I.hok b u q).some
    rw [z, hnew] at ho; cases ho
  have ne' : ∀ b o, s.heap.get? b = some o → b ≠ e := fun b o q z => by rw [z, hnew] at q; cases q
  have hn : ∀ b u, H' b = some u → b ≠ e := fun b u q z => by rw [z, l.fe] at q; cases q
  refine I.call' l.os ⟨l.un.keep, l.un.slot, fun b o q n hx => ?_, l.un.there, fun b xs q => ?_, fun b o u q => ?_, fun b ps q => ?_⟩ (fun b u q => ?_) l.bare (fun b z => nomatch z)
  · rw [upd_ne (ne' b o q)]; exact l.un.free b o q n hx
  · rw [upd_ne (ne b _ q)]; exact l.un.tups b xs q
  · rw [upd_ne (ne b _ q)]; exact l.un.frzs b o u q
  · rw [upd_ne (ne b _ q)]; exact l.un.tbls b ps q
  · by_cases hb : b = e
    · subst hb; rw [upd_same] at q; cases q
      obtain ⟨oe, vs, he, hc, hd⟩ := l.obj
      exact ⟨hφ, ⟨oe, he⟩, mono⟩
    · rw [upd_ne hb] at q
      exact (l.hok b u q).stay (fun _ _ _ q => q) (fun c q => by rw [upd_ne (hn c _ q)]; exact q) fun c xs q => by rw [upd_ne (hn c _ q)]; exact q
theorem Lnd.trackedD (I : Inv X pins σ H s) (l : Lnd X s H H' e C dd s3) : Inv X pins σ (upd H' e (.ext (IsExcD e C dd))) s3 := l.track I l.objD fun h h' ⟨oe, vs, he, hc, h1, hd⟩ k => ⟨oe, vs, k oe he, hc, h1, hd⟩
end

/-! ### within the suite: the exception is marked -/
abbrev Cx.inH (X : Cx) (e : Addr) : Cx := { X with A := X.A.mark (some (.ref e)), calm := false }
section
variable {X : Cx} {pins : List (Addr × Obj)} {σ : St} {H : Hp} {s : Shared} {e : Addr}
theorem Cx.Ok.inH (ok : X.Ok) (hfr : (X.A.mark (some (.ref e))).frames = X.A.frames := by rfl) : (X.inH e).Ok :=
  ⟨ok.mod, ok.kind, ok.glob, ok.blt, ok.above, ok.inj, ok.has, ok.cab, (fun z => nomatch z), hfr.trans ok.frames, ok.stk, ok.exf, ok.bs, ok.bsz, ok.noex, ok.exfs, ok.funs, ok.frf⟩
theorem Inv.inH (I : Inv X pins σ H s) : Inv (X.inH e) pins σ H s := ⟨I.ok.inH, I.os, I.bare, I.base, I.loc, I.cell, I.free, I.freeC, I.pin, I.hok, I.len⟩
theorem Inv.ofH (ok : X.Ok) (I : Inv (X.inH e) pins σ H s) : Inv X pins σ H s := ⟨ok, I.os, I.bare, I.base, I.loc, I.cell, I.free, I.freeC, I.pin, I.hok, I.len⟩
/-- behind the suite the name goes -/
theorem goes {M : Model} {A : Around} {E : Value → Shared → Prop} {i : Nat} {n : Str} {pos : Pos} {Q : Unit → Shared → Prop} (I : Inv X pins σ H s) (hN : X.N.Nodup) (hi : X.N[i]? = some n) (hk : X.env.scope.names.lookup n = some .local)
    (h : ∀ s', Inv X pins (σ.set i none) H s' → Q () s') : wpAny M A (do bindName X.env n .none; unbindBehindTheSuite X.env n pos) Q E s := by
  obtain ⟨m, hn, hl⟩ := id I.loc
  have hcls : (X.env.scope.kind == .class || (X.env.scope.kind == .module && X.env.locals != X.env.globals)) = false := by rw [I.ok.kind]; rfl
  have hiσ : i < σ.length := by rw [I.len]; exact (List.getElem?_eq_some_iff.mp hi).1
  have cne := I.cne
  refine wpAny_nameGoes_keeps hk hn hcls fun h' v hn' hs => ?_
  obtain ⟨oL, _, _, hoL, _⟩ := id hn
  refine h _ ⟨I.ok, I.os, I.bare, ⟨fun b o e n hb hx => ?_, fun b o e n hb hx => ?_, I.base.free, fun b o e hx => ?_, I.base.tups, I.base.frzs, I.base.tbls⟩, ⟨_, hn', fun j y v' e1 e2 e3 => ?_⟩, fun y c e => ?_, I.free, I.freeC, fun p hp => ?_, fun b ob e => ?_, by simpa using I.len⟩
  · exact (hs.2 b (Nat.ne_of_lt (Nat.lt_of_lt_of_le (Heap.lt_size e) I.ok.above))).trans (I.base.keep b o e n hb hx)
  · obtain ⟨sl, e1⟩ := I.base.slot b o e n hb hx
    exact ⟨sl, (hs.2 b (Nat.ne_of_lt (Nat.lt_of_lt_of_le (Heap.lt_size e) I.ok.above))).trans e1⟩
  · obtain ⟨o', e1⟩ := I.base.there b o e hx
    exact ⟨o', (hs.2 b (Nat.ne_of_lt (Nat.lt_of_lt_of_le (Heap.lt_size e) I.ok.above))).trans e1⟩
  · by_cases hj : j = i
    · subst hj
      rw [List.getElem?_set_self hiσ] at e2
      cases e2
    · rw [List.getElem?_set_ne (Ne.symm hj)] at e2
      obtain ⟨u', r', q⟩ := hl j y v' e1 e2 e3
      refine ⟨u', r', ?_⟩
      rcases q with ⟨k, e⟩ | ⟨k, c, e, z⟩
      · refine .inl ⟨k, ?_⟩
        have : y ≠ n := fun e => hj (nodup_ix hN e1 (e ▸ hi))
        simp [this, e]
      · exact .inr ⟨k, c, e, z.sameBut hs (cne y c e)⟩
  · obtain ⟨w', z⟩ := I.cell y c e
    exact ⟨w', z.sameBut hs (cne y c e)⟩
  · obtain ⟨e, n, ne, nf, d⟩ := I.pin p hp
    exact ⟨(hs.2 p.1 ne).trans e, n, ne, nf, d⟩
  · refine (I.hok b ob e).stay (fun c w' hc q => (hs.2 c ?_).trans q) (fun _ q => q) fun _ _ q => q
    rintro rfl
    rcases hc with rfl | hc
    · rw [I.free] at e; cases e
    · rw [I.free] at hc; cases hc
end
end L2

set_option Elab.async false
set_option linter.all false
set_option maxRecDepth 100000
namespace L2
open PySem PySem.Spec PyProof.Rows PySem.W PySem.Calls PySem.Builtin PySem.Builtin.ObjectAttr PySem.Builtin.Getset_descriptor

/-! ### isinstance of an exception: only its class is known -/
def ClsAt (e D : Addr) (h : Heap) : Prop := ∃ oe, h.get? e = some oe ∧ oe.cls = .ref D
theorem ClsAt.looks {M : Model} {e D : Addr} {h : Heap} (p : ClsAt e D h) : Looks M h (typeOf (.ref e)) (.ref D) := by
  obtain ⟨oe, a, b⟩ := p
  exact b ▸ (Looks.ld a).andThen .now
/-- what the fragment says of an own class whose instances have no dict yet -/
structure ClsE (K : Frag) (D : Addr) : Prop where
  ga : findIn K (.ref D) "__getattribute__" = some (some (.builtin "BaseException.__getattribute__"))
  gn : findIn K (.ref D) "__getattr__" = some none
  fd : findIn K (.ref D) "__class__" = some (some (.builtin "object.__class__"))
  sp : specialIn K (.builtin "object.__class__") "__get__" = some (some (.builtin "getset_descriptor.__get__"))
  tk : takesIn K (.builtin "object.__class__") = some true
  ob : mroIn K D (.type "object") = some true
  be : mroIn K D (.type "BaseException") = some true
theorem cls_of_mro {K : Frag} {D : Addr} {v : Value} {b : Bool} (h : mroIn K D v = some b) : (clsIn K D).isSome = true := by
  unfold mroIn at h
  obtain ⟨cd, e, _⟩ := Option.bind_eq_some_iff.mp h
  rw [e]; rfl
theorem ClsE.cl {K : Frag} {D : Addr} (c : ClsE K D) : (clsIn K D).isSome = true := cls_of_mro c.ob
theorem ClsE.find {K : Frag} {D e : Addr} {M : Model} {h : Heap} (c : ClsE K D) (X : K.In h) : Looks M h (find (.ref e) (.ref D) "__class__") (.bind (.builtin "getset_descriptor.__get__") (.builtin "object.__class__")) := by
  have a1 := looks_findIn (M := M) X c.fd
  have a2 : Looks M h (getOf (some (.builtin "object.__class__"))) (some (.builtin "getset_descriptor.__get__")) := looks_specialIn X c.sp
  have a3 := looks_takesIn (M := M) X c.tk
  have a4 : Looks M h (dataDescriptor? (some (.builtin "object.__class__")) (some (.builtin "getset_descriptor.__get__"))) (some (.builtin "getset_descriptor.__get__", .builtin "object.__class__")) := a3.andThen .now
  exact a1.andThen (a2.andThen (a4.andThen (Looks.tag .now)))
theorem ClsE.kit {K : Frag} {D e : Addr} (c : ClsE K D) : KitX K (.ref e) (.ref D) (ClsAt e D) where
  ty := fun _ _ _ p => p.looks
  it := fun _ _ X _ => by
    have z := c.cl
    unfold clsIn at z
    split at z
    · rename_i ho
      intro A' Q' E' s' k q
      unfold isType loadHead
      exact wpAny_bind (wpAny_loadPart (k _ _ (X _ _ ho)) (wpAny_pure q))
    · cases z
  ne := fun h tp dd its n sl X htp => by
    have z := c.cl
    refine Bool.eq_false_iff.mpr fun q => ?_
    obtain rfl : D = tp := Value.ref.inj (beq_iff_eq.mp q)
    unfold clsIn at z
    split at z
    · rename_i ho
      cases (X _ _ ho).symm.trans htp
    · cases z
  ca := fun {prog w A E Q s} X p hq => by
    obtain ⟨hh, g, d, t, os⟩ := s
    have T := p.looks (M := model prog w)
    have G := looks_findIn (M := model prog w) X c.ga
    have N := looks_findIn (M := model prog w) X c.gn
    have F1 := c.find (e := e) (M := model prog w) X
    have O := looks_mroIn (M := model prog w) X c.ob
    unfold getAttr? getAttrBy? getAttrBy
    refine wpAny_bind (wpAny_mkText (wpAny_bind (wpAny_attempt (wpAny_holding (wpAny_bind (T.at (wpAny_bind (G.at ?_))))))))
    have hx2 : (Value.builtin "BaseException.__getattribute__" == Value.builtin "object.__getattribute__") = false := by decide +kernel
    have hx1 : ¬ (onTheHeap (Value.ref D) && Value.builtin "BaseException.__getattribute__" == Value.builtin "object.__getattribute__") = true := by rw [hx2, Bool.and_false]; exact Bool.false_ne_true
    have Bx := looks_mroIn (M := model prog w) X c.be
    dsimp only
    rw [if_neg hx1]
    unfold getAttrByItsOwn hookBefore callGetattribute boundAndCalled
    refine wpAny_bind (N.at ?_)
    refine wpAny_bind (wpAny_attempt (wpAny_holding ?_))
    show wpAny _ _ (bindSpecial (.builtin "BaseException.__getattribute__") (.ref e) >>= _) _ _ _
    refine wpAny_bind (wpAny_of_eq (PySem.F.attrBase_ValueError.ga.bind _) ?_)
    refine wpAny_call (codeAny_call_builtin PySem.F.attrBase_ValueError.ga.plain PySem.F.entry_bexc_ga ?_)
    have hk : builtinKind "BaseException.__getattribute__" = some .slot := by decide +kernel
    have hsplit : splitId "BaseException.__getattribute__" = some ("BaseException", "__getattribute__") := by decide +kernel
    have hag := PySem.F.args_bexc_ga (.ref e) (.str "__class__" t)
    simp only [checkBuiltinCall, hk, hsplit]
    unfold isInstance
    repeat ((fail_if_success (with_reducible show wpAny _ _ (call _ _) _ _ _)); (first | lk | wp_step))
    refine wpAny_call ?_
    refine codeAny_call_builtin KF.slot_gs.plain KF.entry_gs (KF.slot_gs.check _ _ _ _ _ _ _ _ KF.type_class (KF.args_gs _ _ _) ?_)
    unfold Builtin.«getset_descriptor.__get__» descrGet
    rw [dga_obj]
    refine wpAny_bind (wpAny_pure ?_)
    unfold descrGetter descrCheckInstance descrNameAndClass isInstance
    simp only [KF.owner_class]
    repeat lk
    refine ⟨Code.quiet_builtin _ (by decide +kernel), codeAny_builtin KF.entry_class ?_⟩
    unfold Builtin.«object.__class__» shownTypeOf
    repeat lk
    exact hq
/-! ### which classes an except clause takes -/
theorem matches_own {M : Model} {A : Around} {E : Value → Shared → Prop} {nm q nm' q' : Str} {C N S N' : Addr} {bs bm bs' bm' : List Value} {hdct hdct' : Bool} {sn sn' : List Str} {sub sub' : List Value} {ab ab' : Bool} {col col' : Option Bool} {dd dd' : Option Addr} {k0 k1 k2 k3 k5 k0' k1' k2' k3' k5' : Option Value} {newId newId' : String}
    {h : Heap} {g : Array GenState} {d : Drawn} {t : Nat} {os : OsState} {e : Addr} {oe : Obj} {Q : Bool → Shared → Prop}
    (hC : h.get? C = some (excClassObj nm q C N bs bm hdct sn sub ab col dd k0 k1 k2 k3 k5 newId)) (hS : h.get? S = some (excClassObj nm' q' S N' bs' bm' hdct' sn' sub' ab' col' dd' k0' k1' k2' k3' k5' newId'))
    (he : h.get? e = some oe) (hcls : oe.cls = .ref C) (hb : bm'.contains (.type "BaseException") = true) (hm : (Value.ref C :: bm).contains (.ref S) = true)
    (hq : Q true ⟨h, g, d, t, os⟩) : wpAny M A (excMatches (.ref e) (.ref S)) Q E ⟨h, g, d, t, os⟩ := by
  have hB : (Value.ref S :: bm').contains (.type "BaseException") = true := by rw [List.contains_cons, hb, Bool.or_true]
  have f := tc_notTuple
  unfold excMatches
  repeat (first | (with_reducible refine wpAny_loadPart_at he ?_; rw [hcls]) | with_reducible refine wpAny_loadPart_at hS ?_ | (with_reducible refine wpAny_isSubtype_exc hS ?_; rw [hB]) | (with_reducible refine wpAny_isSubtype_exc hC ?_; rw [hm]) | wp_step)
  exact hq
end L2

set_option Elab.async false
set_option linter.all false
set_option maxRecDepth 100000
namespace L2
open PySem PySem.Spec PyProof.Rows PySem.W

/-! ### try: f(..) except S as n: suite -/
abbrev TX := St → Hp → VK → XK → Prop
/-- an expression that may raise: by a call, whose own entry is known -/
def PX (X : Cx) (e : Expr) (t : TX) : Prop := ∀ (pins : List (Addr × Obj)) (s : Shared) (σ : St) (H : Hp) (Q : VK) (E : XK), Inv X pins σ H s → t σ H Q E →
  wpAny (model X.prog X.w) X.A (eval e X.env) (EP X pins σ Q) (fun ev s' => ∃ H1 s1, Inv X pins σ H1 s1 ∧ CX1 X.prog X.w X.stack H1 s1 E ev s') s
def xCall (sp : Sp) (dvs : List V) (t : TA) : TX := fun σ H Q E => t σ H fun vs H1 => sp (vs ++ dvs) H1 Q E
section
variable {X : Cx} {k : Nat} {f : Addr} {fd : FuncData} {ps : List Str} {sp : Sp} {dvs : List V} {ds : List Value} {x : Str} {p pos : Pos} {e : Expr} {es : List Expr} {t : TA} {cm : Bool}
theorem px_call (F : FnOk X.prog X.w X.K X.mg X.base (CX1 X.prog X.w) k f fd ps sp cm) (hr : Room k X.A cm) (hg : Gl X x) (hm : X.mg x = some (.ref f)) (hk : keepIn X.K (.ref f) = true) (hb : Binds X.K fd ps ds) (hd : Vals dvs ds) (ha : PA X.nox (e :: es) t)
    (hdb : (x == ("__debug__" : Str)) = false := by decide) (he : starEach (e :: es) X.env = (false, eval e X.env) :: starEach es X.env := by rfl) (hpl : (backTo pos (starEach es X.env)).any (·.1) = false := by rfl) :
    PX X (.Call (.Name x p) (e :: es) [] pos) (xCall sp dvs t) := by
  intro pins s σ H Q E I h
  refine wpAny_Call_Name_kw (ld_glob I hg hm ?_ hdb)
  have hA := wpAny_mono (ha pos pins s σ H _ (I.wish _) h) (fun us s1 q => q) (E' := fun ev s' => ∃ H1 s1, Inv X pins σ H1 s1 ∧ CX1 X.prog X.w X.stack H1 s1 E ev s') fun _ _ z => False.elim z
  refine callWith_K (h₀ := X.base) I.ok.mod.kin hk (thn hA fun us s1 ⟨vs, H1, I1, r, q⟩ => ⟨I1.kIn, ?_⟩) he hpl
  have I1' := I1.unwish
  have r2 : Vals (vs ++ dvs) (us ++ ds) := r.append hd
  have hl : (us ++ ds).length = ps.length := by rw [← r2.length]; exact F.len _ _ _ _ q
  refine wpAny_call (codeAny_mono (F.run X.A X.stack s1 H1 ⟨us, []⟩ (us ++ ds) (vs ++ dvs) Q E hr I1'.env0 (hb s1 us I1'.kIn hl) r2 q) fun r s' hq => ?_)
  cases r with
  | error e => exact ⟨H1, s1, I1', hq⟩
  | ok fl => cases fl with
    | ret u => exact I1'.after hq
    | _ => exact False.elim hq
end
def IsXC (K : Frag) (c : Addr) (bm : List Value) : Prop := ∃ (nm q : Str) (N : Addr) (bs : List Value) (hdct : Bool) (sn : List Str) (sub : List Value) (ab : Bool) (col : Option Bool) (dd : Option Addr) (k0 k1 k2 k3 k5 : Option Value) (newId : String),
  K.lookup c = some (excClassObj nm q c N bs bm hdct sn sub ab col dd k0 k1 k2 k3 k5 newId)
/-- an except clause of S takes an instance of c -/
structure Takes (K : Frag) (c S : Addr) : Prop where
  ex : ∃ bm bm', IsXC K c bm ∧ IsXC K S bm' ∧ bm'.contains (.type "BaseException") = true ∧ (Value.ref c :: bm).contains (.ref S) = true
end L2

set_option Elab.async false
set_option linter.all false
set_option maxRecDepth 100000
namespace L2
open PySem PySem.Spec PyProof.Rows PySem.W
theorem boot_ValueError : bootBuiltins "ValueError" = some (.type "ValueError") := by first | rfl | decide +kernel | (unfold bootBuiltins; rfl)
/-- with the context's facts at hand -/
theorem ps_ok {X : Cx} {st : Stmt} {t : TS} (h : X.Ok → PS X st t) : PS X st t := fun pins s σ H D I hw => h I.ok pins s σ H D I hw
/-- a callee that may raise, called where it doesn't -/
theorem pass01 {X : Cx} {P : Program} {w : World} : Passes (CX1 P w) X E0 := fun _ _ _ _ _ _ _ ⟨_, _, _, _, _, h, _⟩ => h.elim
theorem ownE {X : Cx} {E : XK} (ok : (X.wish (XE X E)).Ok) (top : X.stack = X.env :: X.outer := by rfl) (fr : X.env.frame = some X.env.locals := by rfl) : PassesOwn (model (X.wish (XE X E)).prog (X.wish (XE X E)).w) (X.wish (XE X E)).A (X.wish (XE X E)).env (X.wish (XE X E)).xe := own1 top fr ok.unwish
/-- room within an except suite -/
theorem Room.inH {k : Nat} {A : Around} {cm : Bool} (r : Room k A cm) (e : Addr) : Room k (A.mark (some (.ref e))) false := ⟨(fun z => nomatch z), r.dp, r.un⟩
theorem FnOk.any {P : Program} {w : World} {K : Frag} {mg : Str → Option Value} {base : Heap} {CX : CXT} {k : Nat} {f : Addr} {fd : FuncData} {ps : List Str} {sp : Sp} (F : FnOk P w K mg base CX k f fd ps sp false) : FnOk P w K mg base CX k f fd ps sp :=
  ⟨F.len, fun A outer s H args us vs Q E hr => F.run A outer s H args us vs Q E ⟨(fun z => nomatch z), hr.dp, hr.un⟩⟩
theorem ExcC.isX {K : Frag} {C : Addr} {h : Heap} (c : ExcC K C) (X : K.In h) : ∃ bm, IsXC K C bm ∧ OwnTail h bmV bm := by
  obtain ⟨bm, N, nm, q, bs, hdct, sn, sub, ab, col, dd, k0, k1, k2, k3, k5, mN, hC, hn, hni, hT, hlk⟩ := c.obj X
  exact ⟨bm, ⟨nm, q, N, bs, hdct, sn, sub, ab, col, dd, k0, k1, k2, k3, k5, _, hlk⟩, hT⟩
end L2

set_option Elab.async false
set_option linter.all false
set_option maxRecDepth 100000
namespace L2
open PySem PySem.Spec PyProof.Rows

/-! ### zip(a, b) walked by a tuple target -/
section
variable {prog : Program} {w : World} {A : Around} {E : Value → Shared → Prop} {s : Shared}
end
section
variable {prog : Program} {w : World} {A : Around} {E : Value → Shared → Prop} {s : Shared}
end
end L2

set_option Elab.async false
set_option linter.all false
set_option maxRecDepth 100000
namespace L2
open PySem PySem.Spec PyProof.Rows
section
variable {X : Cx} {pins : List (Addr × Obj)} {σ : St} {H : Hp} {s : Shared} {h' : Heap}
end
section
variable {X : Cx} {elts : List Expr} {x1 : Nat} {tpos : Pos}
end
end L2

set_option Elab.async false
set_option linter.all false
set_option maxRecDepth 100000
namespace L2
open PySem PySem.Spec PyProof.Rows
/-! ### zip in a comprehension, in a loop -/
/-! ### max and min of ints, with a default or without -/
section
variable {prog : Program} {w : World} {A : Around} {E : Value → Shared → Prop} {s : Shared}
end
section
variable {prog : Program} {w : World} {A : Around} {R : Result → Shared → Prop} {I : Addr} {fp wr : List Addr} {n : Nat} {P : Nat → Value → Prop} {St : Nat → Heap → Prop}
end
section
variable {prog : Program} {w : World} {A : Around} {E : Value → Shared → Prop} {s : Shared}
end
section
variable {X : Cx}
end

section
variable {prog : Program} {w : World} {A : Around} {R : Result → Shared → Prop} {I : Addr} {fp wr : List Addr} {n : Nat} {P : Nat → Value → Prop} {St : Nat → Heap → Prop}
end
section
variable {prog : Program} {w : World} {A : Around} {E : Value → Shared → Prop} {s : Shared}
end
section
variable {X : Cx}
end
end L2

set_option Elab.async false
set_option linter.all false
set_option maxRecDepth 100000
namespace L2
open PySem PySem.Spec PyProof.Rows
/-! ### a tuple times an int of two at least -/
end L2

set_option Elab.async false
set_option linter.all false
set_option maxRecDepth 100000
namespace L2
open PySem PySem.Spec PyProof.Rows

/-! ### lists of pairs as tables -/
section
variable {κ : Type} [DecidableEq κ]
end


/-! ### a tracked dict, its keys ints and texts or tuples of these -/
section
variable {P : Program} {w : World} {H : Hp} {h : Heap} {a : Addr}
end

section
variable {X : Cx} {pins : List (Addr × Obj)} {σ : St} {H : Hp} {s : Shared} {a : Addr} {y v : V} {u r : Value} {o : Option V} {A : Around} {E : Value → Shared → Prop}

end

section
variable {X : Cx} {pins : List (Addr × Obj)} {σ : St} {H : Hp} {s : Shared} {a : Addr} {kvs : List (Key × V)} {k : Key} {u : Value} {A : Around} {E : Value → Shared → Prop}
end


/-! ### readings and rules -/
section
variable {X : Cx} {o i e value : Expr} {pos pos' tpos : Pos} {td ty tv : TE}
end


/-! ### displays -/
section
variable {X : Cx} {pos : Pos}
end

/-! ### methods -/
section
variable {X : Cx} {pins : List (Addr × Obj)} {σ : St} {H : Hp} {s : Shared} {a : Addr} {y d : V} {u r : Value} {o : Option V} {A : Around} {E : Value → Shared → Prop}
end

section
variable {X : Cx} {o e f : Expr} {apos cpos : Pos} {td ty tx : TE}
end

/-! ### dict(d): a copy -/
section
variable {X : Cx} {pins : List (Addr × Obj)} {σ : St} {H : Hp} {s : Shared} {a : Addr} {kvs : List (Key × V)} {A : Around} {E : Value → Shared → Prop}
end


section
variable {X : Cx} {pins : List (Addr × Obj)} {σ : St} {H : Hp} {s : Shared} {a : Addr} {y : V} {u : Value} {A : Around} {E : Value → Shared → Prop}
end
end L2
namespace L2
open PySem PySem.Spec PyProof.Rows
/-! ### a dict's pairs: keys that differ -/
section
variable {κ : Type} [DecidableEq κ]
end
end L2

set_option Elab.async false
set_option linter.all false
set_option maxRecDepth 100000
namespace L2
open PySem PySem.Spec PyProof.Rows
/-! ### sorted(d, reverse=b), d a dict whose keys are ints -/
section
variable {prog : Program} {w : World} {A : Around} {E : Value → Shared → Prop} {s : Shared}
end
section
variable {X : Cx}
end
end L2

set_option Elab.async false
set_option linter.all false
set_option maxRecDepth 100000
namespace L2
open PySem PySem.Spec PyProof.Rows
section
variable {X : Cx}
end
end L2

set_option Elab.async false
set_option linter.all false
namespace L2
/-! ### heaps turned about -/
def cntG (ns : List Int) (k : Int) : Nat := (ns.filter fun x => decide (k ≤ x)).length
def turn (ns : List Int) : List Int := (List.range (ns.headD 0).toNat).map fun (k : Nat) => ((cntG ns ((k : Int) + 1) : Nat) : Int)
end L2

set_option Elab.async false
set_option linter.all false
namespace L2
open PySem PySem.Spec PyProof.Rows
/-! ### tuples stay; lists of tuples of ints -/
/-! ### joined heaps -/
/-! ### choices -/
end L2

set_option Elab.async false
set_option linter.all false
namespace L2
open PySem PySem.Spec PyProof.Rows
/-! ### rules within a comprehension: the fragment by its own name -/
section
variable {X : Cx}
variable {o e : Expr} {es : List Expr} {to : TE} {t : TA} {name : Str} {apos cpos : Pos} {T id : String} {r : V → List V → Hp → VK → Prop}
end
end L2

set_option Elab.async false
set_option linter.all false
namespace L2
open PySem PySem.Spec PyProof.Rows
end L2

set_option Elab.async false
set_option linter.all false
set_option maxRecDepth 100000
namespace L2
open PySem PySem.Spec PyProof.Rows
open AutoSeq1 (wpAny_loadPart')
/-! ### enumerate(a), a a list or a tuple, walked by a tuple target -/
section
variable {prog : Program} {w : World} {A : Around} {E : Value → Shared → Prop} {s : Shared}
end
section
variable {X : Cx} {elts : List Expr} {x1 : Nat} {tpos : Pos}
end
end L2

set_option Elab.async false
set_option linter.all false
set_option maxRecDepth 100000
namespace L2
open PySem PySem.Spec PyProof.Rows PySem.W
/-! ### try: f(..) except S: suite, without a name -/
/-! ### f'text{e}', e an int -/
end L2

set_option Elab.async false
set_option linter.all false
set_option maxRecDepth 100000
namespace L2
open PySem PySem.Spec PyProof.Rows
/-! ### range(n, 0, -1) -/
section
variable {X : Cx} {tg : Expr}
end
end L2

set_option Elab.async false
set_option linter.all false
namespace L2
open PySem PySem.Spec PyProof.Rows
/-! ### partings, what lies in a heap -/
end L2

set_option Elab.async false
set_option linter.all false
namespace L2
open PySem PySem.Spec PyProof.Rows
/-! ### pairs of a heap and a choice -/
end L2

set_option Elab.async false
set_option linter.all false
namespace L2
open PySem PySem.Spec PyProof.Rows
/-! ### coins -/
end L2

set_option Elab.async false
set_option linter.all false
set_option maxRecDepth 100000
namespace L2
open PySem PySem.Spec PyProof.Rows
/-! ### xs.insert(i, e), i a place there or behind the last one -/
/-! ### slices of tuples of ints from 1 on -/
end L2

set_option Elab.async false
set_option linter.all false
set_option maxRecDepth 100000
namespace L2
open PySem PySem.Spec PyProof.Rows
/-! ### ways by the rule of the left over ones: the last one first -/
/-! ### coins, once more -/
end L2

set_option Elab.async false
set_option linter.all false
namespace L2
open PySem PySem.Spec PyProof.Rows
/-! ### pairs and partners -/
/-! ### a heap in which all heaps of a rule lie -/
end L2

set_option Elab.async false
set_option linter.all false
namespace L2
open PySem PySem.Spec PyProof.Rows
/-! ### sorted(t), t a tuple of ints -/
section
variable {prog : Program} {w : World} {A : Around} {E : Value → Shared → Prop} {s : Shared}
end
end L2

set_option Elab.async false
set_option linter.all false
namespace L2
open PySem PySem.Spec PyProof.Rows
end L2

set_option Elab.async false
set_option linter.all false
namespace L2
open PySem PySem.Spec PyProof.Rows PySem.W
end L2

set_option Elab.async false
set_option linter.all false
set_option maxRecDepth 100000
namespace L2
open PySem PySem.Spec PyProof.Rows
/-! ### range(hi, hi - n, -1) -/
section
variable {X : Cx} {tg : Expr}
end
end L2

set_option Elab.async false
set_option linter.all false
set_option maxRecDepth 100000
namespace L2
end L2

set_option Elab.async false
set_option linter.all false
set_option maxRecDepth 100000
namespace L2
open PySem PySem.Spec PyProof.Rows PySem.W
/-! ### try: f(..) except S as n: suite else: other -/
end L2

set_option Elab.async false
set_option linter.all false
set_option maxRecDepth 100000
namespace L2
def sumN : Nat → (Nat → Int) → Int
  | 0, _ => 0
  | n + 1, f => sumN n f + f n
end L2

set_option Elab.async false
set_option linter.all false
set_option maxRecDepth 100000
namespace L2
open PySem PySem.Spec PyProof.Rows
/-! ### set(t) of ints, and its length -/
section
variable {X : Cx}
end
end L2

set_option Elab.async false
set_option linter.all false
set_option maxRecDepth 100000
namespace L2
open PySem PySem.Spec PyProof.Rows
/-! ### products of great ints -/
section
variable {X : Cx}
end
/-! ### for k, x in enumerate(xs) -/
/-! ### xs[::-1] -/
section
variable {X : Cx} {e st : Expr} {te : TE} {ts : TO} {p2 pos : Pos}
end
/-! ### trailing noughts dropped -/
/-! ### products of polynomials -/
end L2

set_option Elab.async false
set_option linter.all false
set_option maxRecDepth 100000
namespace L2
open PySem PySem.Spec PyProof.Rows
section
variable {X : Cx} {tg l : Expr} {t1 t2 : TI}
/-- either a list or a tuple -/
def iOr (t1 t2 : TI) : TI := fun σ H R => t1 σ H R ∨ t2 σ H R
theorem pi_or (h1 : PI X tg l t1) (h2 : PI X tg l t2) : PI X tg l (iOr t1 t2) := by
  intro pins s σ H R I h
  rcases h with h | h
  · exact h1 pins s σ H R I h
  · exact h2 pins s σ H R I h
end
/-! ### how many unlike ones -/
/-! ### tuples within tuples, the same -/
end L2

set_option Elab.async false
set_option linter.all false
set_option maxRecDepth 100000
namespace L2
open PySem PySem.Spec PyProof.Rows
/-! ### tuple(range(hi, lo, -1)) -/
section
variable {prog : Program} {w : World} {A : Around} {E : Value → Shared → Prop} {s : Shared}
end
section
variable {X : Cx}
end
end L2

set_option Elab.async false
set_option linter.all false
set_option maxRecDepth 100000
namespace L2
open PySem PySem.Spec PyProof.Rows
/-! ### hi, hi - 1, .. -/
/-! ### the left one of a number -/
end L2

set_option Elab.async false
set_option linter.all false
set_option maxRecDepth 100000
namespace L2
open PySem PySem.Spec PyProof.Rows
/-! ### strict heaps with a slope of run -/
/-! ### the slope, known by its parts -/
/-! ### shifted -/
end L2

set_option Elab.async false
set_option linter.all false
set_option maxRecDepth 100000
namespace L2
open PySem PySem.Spec PyProof.Rows
/-! ### slices -/
section
variable {X : Cx}
end
end L2

set_option Elab.async false
set_option linter.all false
set_option maxRecDepth 100000
set_option exponentiation.threshold 200000
namespace L2
open PySem PySem.Spec PyProof.Rows
/-! ### products of ints of up to 100000 bits -/
section
variable {X : Cx}
end
/-! ### heads of a fraction -/
def hdL (T B : Nat → Int) : Nat → List Int
  | 0 => []
  | n + 1 => hdL T B n ++ [T n - sumN n fun i => B (i + 1) * (hdL T B n).getD (n - (i + 1)) 0]
def hd (T B : Nat → Int) (n : Nat) : Int := (hdL T B (n + 1)).getD n 0
end L2

set_option Elab.async false
set_option linter.all false
set_option maxRecDepth 100000
namespace L2
open PySem PySem.Spec PyProof.Rows PySem.W
/-! ### two except clauses, both with the name -/
end L2

set_option Elab.async false
set_option linter.all false
set_option maxRecDepth 100000
namespace L2
open PySem PySem.Spec PyProof.Rows
/-! ### a tuple times one -/
/-! ### stores -/
end L2

set_option Elab.async false
set_option linter.all false
set_option maxRecDepth 100000
namespace L2
open PySem PySem.Spec PyProof.Rows
end L2

set_option Elab.async false
set_option linter.all false
set_option maxRecDepth 100000
namespace L2
open PySem PySem.Spec PyProof.Rows
/-! ### x not in a list of tuples of ints -/
section
variable {X : Cx}
end
/-! ### partings into unlike parts -/
end L2

set_option Elab.async false
set_option linter.all false
set_option maxRecDepth 100000
namespace L2
open PySem PySem.Spec PyProof.Rows
/-! ### dict(t) of a tuple of pairs -/
section
variable {prog : Program} {w : World} {A : Around} {R : Result → Shared → Prop} {I : Addr} {fp wr : List Addr} {G : Array GenState → Array GenState → Prop} {n : Nat} {P : Nat → Value → Prop} {St : Nat → Shared → Prop} {K : Type} [DecidableEq K] {knd : KeyKind prog w K}
end
section
variable {X : Cx}
end
end L2

set_option Elab.async false
set_option linter.all false
set_option maxRecDepth 100000
namespace L2
open PySem PySem.Spec PyProof.Rows
section
variable {X : Cx}
end
/-! ### a store as a table -/
/-! ### products without trimming -/
end L2

set_option Elab.async false
set_option linter.all false
set_option maxRecDepth 100000
namespace L2
/-! ### the order of the rows does not count -/
end L2

set_option Elab.async false
set_option linter.all false
set_option maxRecDepth 100000
namespace L2
/-! ### how many partings a store makes -/
end L2

set_option Elab.async false
set_option linter.all false
set_option maxRecDepth 100000
namespace L2
/-! ### partings in which a heap lies -/
def sC (c : Nat → Nat) : Nat → Nat
  | 0 => 0
  | g + 1 => sC c g + c (g + 1) * (g + 1)
/-! ### signs over all choices -/
end L2

set_option Elab.async false
set_option linter.all false
set_option maxRecDepth 100000
namespace L2
/-! ### parts that may stand less often -/
end L2

set_option Elab.async false
set_option linter.all false
set_option maxRecDepth 100000
namespace L2
open PySem PySem.Spec PyProof.Rows
/-! ### a dict of unlike parts -/
section
variable {X : Cx}
end
/-! ### the limited coins, step by step -/
end L2

set_option Elab.async false
set_option linter.all false
set_option maxRecDepth 100000
namespace L2
open PySem PySem.Spec PyProof.Rows
open PySem.Builtin.Str (occurrences subAt)
/-! ### texts of one sign -/
section
variable {X : Cx}
end
/-! ### rows of dots -/
end L2

set_option Elab.async false
set_option linter.all false
set_option maxRecDepth 100000
namespace L2
open PySem PySem.Spec PyProof.Rows
/-! ### a comprehension that an exception may leave -/
section
variable {X : Cx}
end
section
variable {X : Cx} {scope : Scope} {ls : List Str} {fr : List (Str × Nat)}
end
/-! ### names within such a block -/
end L2

set_option Elab.async false
set_option linter.all false
set_option maxRecDepth 100000
namespace L2
open PySem PySem.Spec PyProof.Rows
/-! ### lanes and rows of levels -/
/-! ### a comprehension that makes one thing of each -/
end L2

set_option Elab.async false
set_option linter.all false
set_option maxRecDepth 100000
namespace L2
open PySem PySem.Spec PyProof.Rows PySem.NumText
/-! ### a text read as a heap -/
/-! ### the ten figures -/
section
variable {X : Cx}
end
/-! ### words, weighed -/
def weight (ys : List Str) : Nat := (ys.map (·.length)).sum + ys.length
/-! ### long displays: a wrapped PA, whose type is no arrow -/
section
variable {X : Cx} {e : Expr} {es : List Expr} {te : TE} {t : TA}
end
end L2

set_option Elab.async false
set_option linter.all false
set_option maxRecDepth 100000
namespace L2
open PySem PySem.Spec PyProof.Rows
open PySem.StrLaws (At ChainG partsFrom)
open PySem.Builtin.Str (occurrences subAt)
/-! ### a text of heaps, by strokes -/
/-! ### replace, of two written signs -/
section
variable {X : Cx} {e a b : Expr} {es : List Expr} {te ta tb : TE} {t : TA} {pos : Pos}
end
/-! ### a text read as a rule -/
/-! ### texts of which the length alone is asked -/
end L2

set_option Elab.async false
set_option linter.all false
set_option maxRecDepth 100000
namespace L2
open PySem PySem.Spec PyProof.Rows
/-! ### for k, v in d.items(): the dict stands still from then on -/
section
variable {X : Cx} {elts : List Expr} {x1 : Nat} {tpos : Pos}
end
end L2

set_option Elab.async false
set_option linter.all false
set_option maxRecDepth 100000
namespace L2
open PySem PySem.Spec PyProof.Rows
/-! ### rules that match -/
/-! ### the rules of lanes -/
end L2

set_option Elab.async false
set_option linter.all false
set_option maxRecDepth 100000
namespace L2
open PySem PySem.Spec PyProof.Rows
/-! ### a comprehension within a comprehension -/
section
variable {X : Cx} {scope1 scope : Scope} {N1 N : List Str} {C1 C : Addr} {s1 s : Shared} {H1 H : Hp} {ex1 ex : List Addr}
end
end L2

set_option Elab.async false
set_option linter.all false
set_option maxRecDepth 100000
namespace L2
open PySem PySem.Spec PyProof.Rows
/-! ### a dict that counts -/
/-! ### heaps that change by freezing alone -/
end L2

set_option Elab.async false
set_option linter.all false
set_option maxRecDepth 100000
namespace L2
open PySem PySem.Spec PyProof.Rows
/-! ### lanes of which all but the first two are of one number -/
end L2

set_option Elab.async false
set_option linter.all false
set_option maxRecDepth 100000
namespace L2
open PySem PySem.Spec PyProof.Rows

/-! ### sorting long lists: galloping -/
section
variable {prog : Program} {w : World} {A : Around} {E : Value → Shared → Prop} {s : Shared}

end
end L2

set_option Elab.async false
set_option linter.all false
set_option maxRecDepth 100000
namespace L2
open PySem PySem.Spec PyProof.Rows

/-! ### merging -/
section
variable {prog : Program} {w : World} {A : Around} {E : Value → Shared → Prop} {s : Shared}
end
end L2

set_option Elab.async false
set_option linter.all false
set_option maxRecDepth 100000
namespace L2
open PySem PySem.Spec PyProof.Rows

/-! ### merging from above -/
section
variable {prog : Program} {w : World} {A : Around} {E : Value → Shared → Prop} {s : Shared}
end
end L2

set_option Elab.async false
set_option linter.all false
set_option maxRecDepth 100000
namespace L2
open PySem PySem.Spec PyProof.Rows

/-! ### one merge of two runs -/
section
variable {prog : Program} {w : World} {A : Around} {E : Value → Shared → Prop} {s : Shared} {a₀ : Array Keyed}
end
end L2

set_option Elab.async false
set_option linter.all false
set_option maxRecDepth 100000
namespace L2
open PySem PySem.Spec PyProof.Rows

/-! ### runs counted and made -/
section
variable {prog : Program} {w : World} {A : Around} {E : Value → Shared → Prop} {s : Shared} {a₀ : Array Keyed}
end
end L2

set_option Elab.async false
set_option linter.all false
set_option maxRecDepth 100000
namespace L2
open PySem PySem.Spec PyProof.Rows

/-! ### all runs -/
section
variable {prog : Program} {w : World} {A : Around} {E : Value → Shared → Prop} {s : Shared} {a₀ : Array Keyed}
end
end L2

set_option Elab.async false
set_option linter.all false
set_option maxRecDepth 100000
namespace L2
open PySem PySem.Spec PyProof.Rows

/-! ### sorted(..) of ints, however many -/
section
variable {prog : Program} {w : World} {A : Around} {E : Value → Shared → Prop} {s : Shared}
end
section
variable {X : Cx}
end
end L2

set_option Elab.async false
set_option linter.all false
set_option maxRecDepth 100000
namespace L2
open PySem PySem.Spec PyProof.Rows
/-! ### `for`, comprehensions over a list or a tuple alike -/
/-! ### told and due, the same -/
/-! ### tuples: slices, sums -/
end L2

set_option Elab.async false
set_option linter.all false
set_option maxRecDepth 100000
namespace L2
open PySem PySem.Spec PyProof.Rows
/-! ### the least counts -/
/-! ### sorted(x), x a list of ints -/
section
variable {prog : Program} {w : World} {A : Around} {E : Value → Shared → Prop} {s : Shared}
end
end L2

set_option Elab.async false
set_option linter.all false
set_option maxRecDepth 100000
namespace L2
open PySem PySem.Spec PyProof.Rows
/-! ### rules made of columns -/
/-! ### a lane, with its second level in other parts or not -/
structure LD where
  L : Nat
  R : Nat
  m : Nat
  k : Nat
  sp : Bool
  lev : List Nat
structure LD.Ok (d : LD) : Prop where
  l1 : 1 ≤ d.L
  l8 : d.L ≤ 8
  r1 : 1 ≤ d.R
  r8 : d.R ≤ 8
  m8 : d.m ≤ 8
  k8 : d.k ≤ 8
  eq : d.L * d.m = d.R * d.k
  dv : d.sp = true → d.R * (d.L / d.R) = d.L ∧ d.R < d.L
  lv : ∀ v ∈ d.lev, v ≤ 2
def LD.at (d : LD) (j : Nat) : Nat := d.lev.getD j 0
/-! ### the first choice of which something is true -/
/-! ### lists of truths -/
end L2

set_option Elab.async false
set_option linter.all false
set_option maxRecDepth 100000
namespace L2
open PySem PySem.Spec PyProof.Rows
/-! ### list.remove, list.index of ints -/
/-! ### one heap taken out of another -/
end L2

set_option Elab.async false
set_option linter.all false
set_option maxRecDepth 100000
namespace L2
open PySem PySem.Spec PyProof.Rows
/-! ### places, two rules side by side -/
/-! ### the object that holds both -/
end L2

set_option Elab.async false
set_option linter.all false
set_option maxRecDepth 100000
namespace HT
open PySem PySem.Spec PyProof.Rows
section
variable {prog : Program} {w : World} {A : Around} {E : Value → Shared → Prop} {s : Shared}
end
end HT
namespace L2
open PySem PySem.Spec PyProof.Rows
section
variable {X : Cx} {e st : Expr} {te : TE} {ts : TO} {p2 pos : Pos}
end
end L2

set_option Elab.async false
set_option linter.all false
set_option maxRecDepth 100000
namespace L2
open PySem PySem.Spec PyProof.Rows
/-! ### list.index of a tuple of ints -/
/-! ### falling lists of heaps -/
/-! ### a comprehension that is true all along -/
/-! ### partings of any number that keep a rule -/
end L2

set_option Elab.async false
set_option linter.all false
set_option maxRecDepth 100000
namespace L2
open PySem PySem.Spec PyProof.Rows PySem.W
/-! ### try: y = f(..) except S as n: suite -/
/-! ### lanes and levels as rows of ints; how many parts -/
end L2

set_option Elab.async false
set_option linter.all false
set_option maxRecDepth 100000
namespace L2
open PySem PySem.Spec PyProof.Rows PySem.W
/-! ### exceptions with attributes: read and set -/
section
variable {prog : Program} {w : World} {A : Around} {E : Value → Shared → Prop} {s : Shared} {K : Frag} {e dx C : Addr} {oe : Obj} {vs : Array Value} {mA : Str → Option Value} {name : Str} {v : Value}
theorem noCls {o : Obj} {vs : Array Value} (h : o.data = .fields vs) : notCls o = true := by
  unfold notCls
  rw [h]
/-- own classes first, then those of ValueError -/
def onlyVE : List Value → Bool
  | .ref _ :: r => onlyVE r
  | l => l == bmV
theorem refuse_VE (self : Value) : ∀ {l : List Value}, onlyVE l = true → refuseLoop self "__setattr__" l = pure ()
  | .ref c :: r, z => by
    rw [refuseLoop_ref]
    exact refuse_VE self z
  | [], z => by cases z
  | .type n :: r, z => by
    have e : Value.type n :: r = bmV := beq_iff_eq.mp z
    rw [e]
    exact PySem.F.store_ValueError.passes self
  | .none :: r, z => by cases z
  | .bool _ :: r, z => by cases z
  | .int _ _ :: r, z => by cases z
  | .float _ _ :: r, z => by cases z
  | .str _ _ :: r, z => by cases z
  | .bytes _ _ :: r, z => by cases z
  | .ellipsis :: r, z => by cases z
  | .notImplemented :: r, z => by cases z
  | .builtin _ :: r, z => by cases z
def overX (K : Frag) (C : Addr) : Bool := (clsIn K C).any fun cd => onlyVE cd.mro
/-- what the fragment says of an own exception class whose instances have attributes -/
structure ClsX (K : Frag) (C : Addr) : Prop where
  ga : findIn K (.ref C) "__getattribute__" = some (some (.builtin "BaseException.__getattribute__"))
  gn : findIn K (.ref C) "__getattr__" = some none
  be : mroIn K C (.type "BaseException") = some true
  hd : hasDictIn K C = true
  ob : mroIn K C (.type "object") = some true
  po : overX K C = true
  sa : findIn K (.ref C) "__setattr__" = some (some (.builtin "object.__setattr__"))
theorem getX {b : Bool} {Q : Value → Shared → Prop} (X : K.In s.heap) (g : s.heap.get? e = some oe) (hc : oe.cls = .ref C) (hda : oe.data = .fields vs) (hdd : oe.dict = some dx) (n : s.heap.Ns1 dx mA) (c : ClsX K C) (hn : NoAttr K C name)
    (hv : mA name = some v) (hv' : handedIn v = true) (h : Q v { s with toks := s.toks + 1 }) : wpAny (model prog w) A (getAttr (.ref e) name b) Q E s := by
  obtain ⟨od, ho, hl⟩ := lookIn_ns n
  have J : InstAt s.heap e oe C (some od) := ⟨g, hc, noCls hda, by rw [hdd]; exact ho⟩
  have hf : findObj K C (some od) name = some (.value v) := findObj_own c.hd hn rfl (by rw [hl, hv])
  obtain ⟨hh, gg, d, t, os⟩ := s
  have T := J.type (M := model prog w)
  have G := looks_findIn (M := model prog w) X c.ga
  have N := looks_findIn (M := model prog w) X c.gn
  have F1 := looks_find (M := model prog w) X J hf
  have Bx := looks_mroIn (M := model prog w) X c.be
  unfold getAttr getAttrBy
  refine wpAny_bind (wpAny_mkText (wpAny_holding (wpAny_bind (T.at (wpAny_bind (G.at ?_))))))
  have hx2 : (Value.builtin "BaseException.__getattribute__" == Value.builtin "object.__getattribute__") = false := by decide +kernel
  have hx1 : ¬ (onTheHeap (Value.ref C) && Value.builtin "BaseException.__getattribute__" == Value.builtin "object.__getattribute__") = true := by rw [hx2, Bool.and_false]; exact Bool.false_ne_true
  dsimp only at G N F1 Bx T ⊢
  rw [if_neg hx1]
  unfold getAttrByItsOwn hookBefore callGetattribute boundAndCalled
  refine wpAny_bind (N.at ?_)
  have hx0 : ¬ (b && onTheHeap (Value.builtin "BaseException.__getattribute__")) = true := by cases b <;> exact Bool.false_ne_true
  rw [if_neg hx0]
  refine wpAny_bind (wpAny_attempt (wpAny_holding ?_))
  refine wpAny_bind (wpAny_of_eq (PySem.F.attrBase_ValueError.ga.bind _) ?_)
  refine wpAny_call (codeAny_call_builtin PySem.F.attrBase_ValueError.ga.plain PySem.F.entry_bexc_ga ?_)
  have hk : builtinKind "BaseException.__getattribute__" = some .slot := by decide +kernel
  have hsplit : splitId "BaseException.__getattribute__" = some ("BaseException", "__getattribute__") := by decide +kernel
  have hag := PySem.F.args_bexc_ga (.ref e) (.str name t)
  simp only [checkBuiltinCall, hk, hsplit]
  unfold isInstance
  repeat (first | lk | wp_step)
  show wpAny _ _ (handedOut v) _ _ _
  rw [handedOut_of hv']
  exact wpAny_pure h
theorem osaX {od : Option Obj} {tk : Tok} {R : Result → Shared → Prop} (X : K.In s.heap) (J : InstAt s.heap e oe C od) (c : ClsX K C) (hn : NoAttr K C name)
    (h : ∀ b, wpAny (model prog w) A.in1 (Builtin.ObjectAttr.storeInOwnDict (.ref e) (.ref C) (.str name tk) name v b)
      (fun fin s' => match fin with | .done f => R (.ok f) s' | .again c' => c'.quiet = true ∧ codeAny (model prog w) A c' R s') (fun e s' => R (.error e) s') s) :
    codeAny (model prog w) A (.call (.builtin "object.__setattr__") ⟨[.ref e, .str name tk, v], []⟩) R s := by
  have SF := PySem.F.store_object
  obtain ⟨cd, hc, ho⟩ := any_some c.po
  have sub : Looks (model prog w) s.heap (isInstance (.ref e) (.type "object")) true := J.type.andThen (looks_mroIn X c.ob)
  have hm : Looks (model prog w) s.heap (mroOf (.ref C)) cd.mro := (looks_clsIn X hc).andThen .now
  refine codeAny_call_builtin SF.slot.plain SF.entry
    (@check_slot (model prog w) _ _ s "object.__setattr__" "object" "__setattr__" (.ref e) [.str name tk, v] [] _ SF.kind SF.split sub
      (SF.args (.ref e) (.str name tk) v) ?_)
  rw [osa_eq, refuse_eq]
  refine wpAny_bind (wpAny_bind (J.type.here (wpAny_bind (hm.here ?_))))
  rw [refuse_VE _ ho]
  refine wpAny_pure (wpAny_bind (J.type.here (wpAny_bind ((looks_findIn X hn).here ?_))))
  have L3 : Looks (model prog w) s.heap (Builtin.ObjectAttr.storeTaker? none) none := .now
  refine wpAny_bind (L3.here ?_)
  exact h _
theorem setX {Q : Unit → Shared → Prop} (X : K.In s.heap) (g : s.heap.get? e = some oe) (hc : oe.cls = .ref C) (hda : oe.data = .fields vs) (hdd : oe.dict = none) (c : ClsX K C) (hn : NoAttr K C name)
    (h : ∀ h' tk, h'.get? e = some { oe with dict := some s.heap.objs.size } → h'.Ns1 s.heap.objs.size (fun y => if y = name then some v else none) → (∀ b o, b ≠ e → s.heap.get? b = some o → h'.get? b = some o) → s.heap.objs.size < h'.objs.size → Q () { s with heap := h', toks := tk }) :
    wpAny (model prog w) A (setAttr (.ref e) name v) Q E s := by
  obtain ⟨oc, od, odt, osl⟩ := oe
  dsimp only at hc hda hdd
  subst hc hda hdd
  have J : InstAt s.heap e ⟨.ref C, none, .fields vs, osl⟩ C none := ⟨g, rfl, rfl, trivial⟩
  refine set_plain X J c.sa (osaX (s := { s with toks := s.toks + 1 }) X J c hn fun b => ?_)
  obtain ⟨cd, hcd, hd'⟩ := any_some c.hd
  refine wpAny_bind (wpAny_pure (wpAny_bind (wpAny_bind (wpAny_loadPart g (wpAny_bind (Looks.here (s := { s with toks := s.toks + 1 }) (looks_clsIn X hcd) ?_))))))
  rw [hd']
  rw [if_neg (by simp)]
  dsimp only
  rw [if_neg (by simp [typeHasDict])]
  refine wpAny_bind (wpAny_alloc' ?_)
  have g1 : (s.heap.push { cls := .type "dict", data := .dict #[] }).get? e = some ⟨.ref C, none, .fields vs, osl⟩ := Heap.get?_push_of_some _ g
  have ne : e ≠ s.heap.objs.size := Nat.ne_of_lt (Heap.lt_size g)
  refine wpAny_bind (wpAny_update' g1 ?_)
  refine wpAny_pure ?_
  have gd : ((s.heap.push { cls := .type "dict", data := .dict #[] }).update e fun o => { cls := o.cls, dict := some s.heap.objs.size, data := o.data, slots := o.slots }).get? s.heap.objs.size = some { cls := .type "dict", data := .dict #[] } := (Heap.get?_update_ne _ _ _ _ ne.symm).trans (Heap.get?_push_at rfl rfl)
  have ge := Heap.get?_update_self (fun o => { cls := o.cls, dict := some s.heap.objs.size, data := o.data, slots := o.slots }) g1 rfl
  have far : ∀ b o, b ≠ e → s.heap.get? b = some o → ((s.heap.push { cls := .type "dict", data := .dict #[] }).update e fun o => { cls := o.cls, dict := some s.heap.objs.size, data := o.data, slots := o.slots }).get? b = some o := fun b o hb q => (Heap.get?_update_ne _ _ _ _ hb).trans (Heap.get?_push_of_some _ q)
  generalize ((s.heap.push { cls := .type "dict", data := .dict #[] }).update e fun o => { cls := o.cls, dict := some s.heap.objs.size, data := o.data, slots := o.slots }) = h2 at gd ge far
  have n0 : h2.Ns s.heap.objs.size (fun _ => none) := ⟨_, #[], _, gd, rfl, fun e he => absurd he (by simp), fun _ => rfl⟩
  show wpAny _ _ (Builtin.ObjectAttr.storeInDict s.heap.objs.size (.str name s.toks) name v) _ _ _
  unfold Builtin.ObjectAttr.storeInDict Builtin.ObjectAttr.newKeyGuard
  refine wpAny_bind (wpAny_pure (wpAny_bind (wpAny_nsSet1 (Heap.Ns1.of_empty n0) fun h' n1 sb => ?_)))
  obtain ⟨oD, esD, epD, hoD, hdD, hcD⟩ := n1.count (Within.cons name v Within.nil)
  refine wpAny_bind (wpAny_lookBehind hoD (by rw [hdD]; exact pastItsLine_dict (Nat.le_trans hcD (by rw [List.length_cons, List.length_nil, sizeLine_eq]; omega))) ?_)
  exact wpAny_pure (h h' _ ((sb.2 e ne).trans ge) n1 (fun b o hb q => (sb.2 b (Nat.ne_of_lt (Heap.lt_size q))).trans (far b o hb q)) (Heap.lt_size hoD))
end
/-! ### .. in the layer -/
/-- an exception just made, not yet noted -/
def ExcM (e C : Addr) (dd : Option Addr) (h : Heap) : Prop := ∃ t sl, h.get? e = some ⟨.ref C, dd, .fields #[.ref t, .none, .none, .none, .bool false, .none], sl⟩
theorem ExcM.ext {e C : Addr} {dd : Option Addr} : ∀ h1 h2 : Heap, ExcM e C dd h1 → (∀ o, h1.get? e = some o → h2.get? e = some o) → ExcM e C dd h2 := fun _ _ ⟨t, sl, g⟩ k => ⟨t, sl, k _ g⟩
section
variable {X : Cx} {pins : List (Addr × Obj)} {σ : St} {H : Hp} {s : Shared} {e C : Addr} {f : Str} {A : Around} {E : Value → Shared → Prop}
/-- a tracked one is written, another is new -/
theorem HOk.addX {P : Program} {w : World} {H : Hp} {h : Heap} {a : Addr} {o : HO} (ok : HOk P w H h) (hn : H a = none) (new : ObjOk P w (upd H a o) h a o) : HOk P w (upd H a o) h := fun b u q => by
  by_cases hb : b = a
  · subst hb; rw [upd_same] at q; cases q; exact new
  · rw [upd_ne hb] at q
    have ne : ∀ c y, H c = some y → c ≠ a := fun c y r z => by rw [z, hn] at r; cases r
    exact (ok b u q).stay (fun _ _ _ r => r) (fun c r => by rw [upd_ne (ne c _ r)]; exact r) fun c xs r => by rw [upd_ne (ne c _ r)]; exact r
theorem setattrX_ok {y : V} {u : Value} {Q : Unit → Shared → Prop} (I : Inv X pins σ H s) (he : H e = some (.ext (ExcM e C none))) (c : ClsX X.K C) (n : NoAttr X.K C f) (ry : RelV y u)
    (h : ∀ dx s', H dx = none → Inv X pins σ (upd (upd H e (.ext (ExcM e C (some dx)))) dx (.xd [(f, y)])) s' → Q () s') : wpAny (model X.prog X.w) A (setAttr (.ref e) f u) Q E s := by
  obtain ⟨t, sl, g⟩ := (show ObjOk X.prog X.w H s.heap e (.ext (ExcM e C none)) from I.hok e _ he).1
  refine setX I.kIn g rfl rfl rfl c n fun h' tk ge n1 far lt => ?_
  have hfr : H s.heap.objs.size = none := I.hok.fresh (Nat.le_refl _)
  have ne : s.heap.objs.size ≠ e := fun z => by rw [z, he] at hfr; cases hfr
  refine h s.heap.objs.size _ hfr (I.un ⟨fun b o q n hb hx => ?_, fun b o q n hb hx => ?_, fun b o q n hx => ?_, fun b o q hx => ?_, fun b xs q => ?_, fun b o w q => ?_, fun b ps q => ?_⟩ ?_)
  · exact far b o (fun z => by rw [z, he] at n; cases n) q
  · exact ⟨o.slots, far b o (fun z => by rw [z, he] at n; cases n) q⟩
  · rw [upd_ne (Nat.ne_of_lt (Heap.lt_size q)), upd_ne (fun z => by rw [z, he] at n; cases n)]
    exact n
  · by_cases hb : b = e
    · subst hb; exact ⟨_, ge⟩
    · exact ⟨o, far b o hb q⟩
  · rw [upd_ne (fun z => by rw [z, hfr] at q; cases q), upd_ne (fun z => by rw [z, he] at q; cases q)]
    exact q
  · rw [upd_ne (fun z => by rw [z, hfr] at q; cases q), upd_ne (fun z => by rw [z, he] at q; cases q)]
    exact q
  · rw [upd_ne (fun z => by rw [z, hfr] at q; cases q), upd_ne (fun z => by rw [z, he] at q; cases q)]
    exact ⟨#[], by rw [Array.append_empty]; exact q⟩
  · have w1 : HOk X.prog X.w (upd H e (.ext (ExcM e C (some s.heap.objs.size)))) h' := I.hok.write (by rw [he]; trivial) (.inl rfl) (fun b o hb q => far b o hb q) ⟨_, ge⟩ ⟨⟨t, sl, ge⟩, ⟨_, ge⟩, ExcM.ext⟩
    refine w1.addX (by rw [upd_ne ne]; exact hfr) ⟨_, n1, fun g => ?_⟩
    by_cases hg : g = f
    · subst hg
      rw [if_pos rfl]
      simp only [List.lookup, beq_self_eq_true]
      exact ry
    · rw [if_neg hg]
      simp [List.lookup, beq_eq_false_iff_ne.mpr hg]
      trivial
end
end L2

set_option Elab.async false
set_option linter.all false
set_option maxRecDepth 100000
namespace L2
open PySem PySem.Spec PyProof.Rows PySem.W
/-! ### C(..) of an own exception class that has an __init__ -/
abbrev newExcO (C t : Addr) : Obj := { cls := .ref C, data := .fields #[.ref t, .none, .none, .none, .bool false, .none] }
abbrev newExcH (h : Heap) (C : Addr) (args : List Value) : Heap := (h.push { cls := .type "tuple", data := .seq args.toArray }).push (newExcO C h.objs.size)
section
variable {prog : Program} {w : World} {A : Around} {E : Value → Shared → Prop} {h : Heap} {g : Array GenState} {d : Drawn} {t : Nat} {os : OsState}
variable {nm q : Str} {C N : Addr} {bs bm bmB bmN : List Value} {hdct : Bool} {sn : List Str} {sub : List Value} {ab : Bool} {col : Option Bool} {dd : Option Addr} {k0 k1 k2 k3 k5 : Option Value} {B Bn newId nid initId inN : String}
theorem typecall_init (Fn : ExcBaseFacts Bn newId inN bmN) (hBn : bmB.contains (.type Bn) = true) (F : ExcBaseFacts B nid initId bmB) (T : OwnTail h bmB bm) {mN : Str → Option Value} {rest : List Value} {fI : Addr} {oI : Obj} {Q : Fin → Shared → Prop}
    (hC : h.get? C = some (excClassObj nm q C N bs bm hdct sn sub ab col dd k0 k1 k2 k3 k5 newId)) (hn : h.Ns N mN) (hi : mN "__init__" = some (.ref fI)) (gI : h.get? fI = some oI) (cI : oI.cls = .type "function")
    (hq : wpAny (model prog w) A (call (.ref fI) (.ref (h.objs.size + 1) :: rest)) (fun r s' => r = .none ∧ Q (.done (.ret (.ref (h.objs.size + 1)))) s') E ⟨newExcH h C rest, g, d, t, os⟩) (hl : rest.length ≤ sizeLine) :
    wpAny (model prog w) A (Builtin.«type.__call__» ⟨.ref C :: rest, []⟩) Q E ⟨h, g, d, t, os⟩ := by
  repeat
    first
    | with_reducible refine wpAny_loadPart_at hC ?_
    | with_reducible refine wpAny_madeBy_exc hC ?_
    | wp_step
  refine codeAny_call_builtin_code (Code.quiet_builtin _ Fn.quiet)
    (wpAny_check_new_subU Fn hBn T hC ?_)
  refine codeAny_exc_new_subU Fn hBn F T hC ?_ hl
  show wpAny _ _ _ _ _ _
  have kp : ∀ b o, h.get? b = some o → (newExcH h C rest).get? b = some o := fun b o z => Heap.get?_push_of_some _ (Heap.get?_push_of_some _ z)
  have hC1 := kp _ _ hC
  have hn1 : (newExcH h C rest).Ns N mN := let ⟨o, es, ep, z, r⟩ := hn; ⟨o, es, ep, kp _ _ z, r⟩
  have ge : (newExcH h C rest).get? (h.objs.size + 1) = some (newExcO C h.objs.size) := by heap_get
  have T1 := T.keeps kp
  have own : (Value.ref C :: bm).contains (.ref C) = true := by simp
  unfold isInstance
  repeat
    first
    | with_reducible refine wpAny_loadPart_at ge ?_
    | (with_reducible refine wpAny_isSubtype_exc hC1 ?_
       rw [own])
    | wp_step
  show wpAny _ _ (typeLookup (.ref C) _) _ _ _
  refine wpAny_typeLookup_tail hC1 hn1 T1 F.mroIs F.init.lookup ?_
  rw [hi]
  refine wpAny_holding (wpAny_bind ?_)
  unfold bindSpecial
  refine wpAny_bind (wpAny_typeOf (T := "function") ⟨_, kp _ _ gI, cI⟩ ?_)
  rw [if_pos (by decide)]
  refine wpAny_pure (wpAny_bind (wpAny_mono hq (fun r s' hr => ?_) fun _ _ z => z))
  obtain ⟨rfl, y⟩ := hr
  wp_walk
  exact y
theorem call_init (Fn : ExcBaseFacts Bn newId inN bmN) (hBn : bmB.contains (.type Bn) = true) (F : ExcBaseFacts B nid initId bmB) (T : OwnTail h bmB bm) {mN : Str → Option Value} {rest : List Value} {fI : Addr} {oI : Obj} {Q : Value → Shared → Prop}
    (hC : h.get? C = some (excClassObj nm q C N bs bm hdct sn sub ab col dd k0 k1 k2 k3 k5 newId)) (hn : h.Ns N mN) (hi : mN "__init__" = some (.ref fI)) (gI : h.get? fI = some oI) (cI : oI.cls = .type "function")
    (hq : wpAny (model prog w) (A.under (.builtin "type.__call__" ⟨.ref C :: rest, []⟩)) (call (.ref fI) (.ref (h.objs.size + 1) :: rest)) (fun r s' => r = .none ∧ Q (.ref (h.objs.size + 1)) s') E ⟨newExcH h C rest, g, d, t, os⟩) (hl : rest.length ≤ sizeLine) :
    wpAny (model prog w) A (call (.ref C) rest) Q E ⟨h, g, d, t, os⟩ := by
  have f1 := tc_lookup
  have f2 := tc_bind (.ref C)
  have hT : (⟨h, g, d, t, os⟩ : Shared).TypeIs (.ref C) "type" := ⟨_, hC, rfl⟩
  refine wpAny_call (codeAny_of_tree ?_)
  show wpAny _ _ (callAny (.ref C) _) _ _ _
  repeat
    any_goals
      first
      | assumption
      | with_reducible refine wpAny_loadPart_at hC ?_
      | wp_step
  refine ⟨rfl, ?_⟩
  exact codeAny_call_builtin_at (Code.quiet_builtin _ (by decide +kernel)) entry_typeCall
    (wpAny_check_type_call_sub hC (typecall_init Fn hBn F T hC hn hi gI cI hq hl))
end
/-! ### raise of an instance -/
section
variable {M : Model} {A : Around} {E : Value → Shared → Prop} {s : Shared} {env : Env} {nm q : Str} {C N : Addr} {bs bm : List Value} {hdct : Bool} {sn : List Str} {sub : List Value} {ab : Bool} {col : Option Bool} {dd : Option Addr} {k0 k1 k2 k3 k5 : Option Value} {newId : String}
theorem raise_ref {x : Sem Value} {Q : Flow → Shared → Prop} (hb : bm.contains (.type "BaseException") = true) (hh : A.handled = none)
    (h : wpAny M A x (fun v s1 => ∃ e dx t sl, v = .ref e ∧ s1.heap.get? C = some (excClassObj nm q C N bs bm hdct sn sub ab col dd k0 k1 k2 k3 k5 newId) ∧
      s1.heap.get? e = some ⟨.ref C, dx, .fields #[.ref t, .none, .none, .none, .bool false, .none], sl⟩ ∧ E (.ref e) s1) E s) : wpAny M A (raiseStmt env (some x) none) Q E s := by
  have hcB : (Value.ref C :: bm).contains (.type "BaseException") = true := by rw [List.contains_cons, hb, Bool.or_true]
  unfold raiseStmt
  refine wpAny_bind (wpAny_mono h (fun v s1 ⟨e, dx, t, sl, ev, hC, ge, hE⟩ => ?_) fun _ _ z => z)
  subst ev
  obtain ⟨hp, g, d, tk, os⟩ := s1
  repeat
    first
    | with_reducible refine wpAny_loadPart_at ge ?_
    | with_reducible refine wpAny_loadPart_at hC ?_
    | (with_reducible refine wpAny_isSubtype_exc hC ?_
       rw [hcB])
    | wp_step
  exact wpAny_raiseNew_none hh hE
end
end L2

set_option Elab.async false
set_option linter.all false
set_option maxRecDepth 100000
namespace L2
open PySem PySem.Spec PyProof.Rows PySem.W
/-! ### own exception classes with an __init__ of their own: raise, catch, read -/
def excInI (K : Frag) (C f : Addr) : Bool :=
  match K.lookup C with
  | some ⟨.type "type", _, .cls cd, sl⟩ =>
    (match cd.mro, sl.toList with
    | .ref D :: bm, [_, _, _, _, some (.builtin n), _] =>
      (D == C && n == "ValueError.__new__" && !cd.hasDel) && (tailIn K bmV bm && nsOkIn K cd.ns && nsIn K cd.ns "__init__" == some (some (.ref f)))
    | _, _ => false)
  | _ => false
theorem nsSome_of {K : Frag} {h : Heap} {N : Addr} {m : Str → Option Value} {x : Str} {v : Value} (X : K.In h) (G : h.Ns N m) (q : nsIn K N x = some (some v)) : m x = some v := by
  obtain ⟨o, es, ep, ho, hd, _, hf⟩ := G
  unfold nsIn at q
  split at q
  · rename_i es' _ _ lk
    have z := X _ _ lk
    rw [ho] at z
    cases z
    cases hd
    split at q
    · rename_i y hy
      cases q
      have := hf x
      unfold nsFind findBy at this
      rw [← Array.find?_toList, hy] at this
      exact this.symm
    · split at q <;> cases q
  · cases q
structure ExcI (K : Frag) (C f : Addr) : Prop where
  inn : excInI K C f = true
  kp : keepIn K (.ref C) = true
  fn : isFn K (.ref f) = true
theorem ExcI.obj {K : Frag} {C f : Addr} {h : Heap} (c : ExcI K C f) (X : K.In h) : ∃ (bm : List Value) (N : Addr) (nm q : Str) (bs : List Value) (hdct : Bool) (sn : List Str) (sub : List Value) (ab : Bool) (col : Option Bool) (dd : Option Addr) (k0 k1 k2 k3 k5 : Option Value) (mN : Str → Option Value),
    h.get? C = some (excClassObj nm q C N bs bm hdct sn sub ab col dd k0 k1 k2 k3 k5 "ValueError.__new__") ∧ h.Ns N mN ∧ mN "__init__" = some (.ref f) ∧ OwnTail h bmV bm ∧ K.lookup C = some (excClassObj nm q C N bs bm hdct sn sub ab col dd k0 k1 k2 k3 k5 "ValueError.__new__") := by
  have q := c.inn
  unfold excInI at q
  split at q
  · rename_i dd cd sl ho
    split at q
    · rename_i D bm k0 k1 k2 k3 n k5 hm hs
      simp only [Bool.and_eq_true, beq_iff_eq, Bool.not_eq_true'] at q
      obtain ⟨⟨⟨rfl, rfl⟩, hdel⟩, ⟨ht, hok⟩, hni⟩ := q
      obtain ⟨nm, bs, mro, ns, qn, hd, sn, sub, ab, col, del⟩ := cd
      dsimp only at hm hdel hok hni
      subst hm hdel
      have hsl : sl = #[k0, k1, k2, k3, some (.builtin "ValueError.__new__"), k5] := by
        obtain ⟨l⟩ := sl
        simp only at hs
        rw [hs]
      subst hsl
      have hN : h.Ns ns (h.nsMap ns) := .of_isNs (isNs_of_in X hok)
      exact ⟨bm, ns, nm, qn, bs, hd, sn, sub, ab, col, dd, k0, k1, k2, k3, k5, _, X _ _ ho, hN, nsSome_of X hN hni, tail_of_in X ht, ho⟩
    · cases q
  · cases q
theorem ExcI.isX {K : Frag} {C f : Addr} {h : Heap} (c : ExcI K C f) (X : K.In h) : ∃ bm, IsXC K C bm ∧ OwnTail h bmV bm := by
  obtain ⟨bm, N, nm, q, bs, hdct, sn, sub, ab, col, dd, k0, k1, k2, k3, k5, mN, hC, hn, hni, hT, hlk⟩ := c.obj X
  exact ⟨bm, ⟨nm, q, N, bs, hdct, sn, sub, ab, col, dd, k0, k1, k2, k3, k5, _, hlk⟩, hT⟩
theorem Takes.mkI {K : Frag} {c f S : Addr} {h : Heap} (X : K.In h) (hc : ExcI K c f) (hS : ∃ bm, IsXC K S bm ∧ OwnTail h bmV bm) (hm : mroIn K c (.ref S) = some true) : Takes K c S := by
  obtain ⟨bm, x, _⟩ := hc.isX X
  obtain ⟨bm', x', t'⟩ := hS
  refine ⟨bm, bm', x, x', t'.hasType (by decide), ?_⟩
  obtain ⟨nm, q, N, bs, hdct, sn, sub, ab, col, dd, k0, k1, k2, k3, k5, nid, lc⟩ := x
  unfold mroIn clsIn at hm
  rw [lc] at hm
  simpa using hm
/-- forgotten -/
def delH (H : Hp) (a : Addr) : Hp := fun b => if b = a then none else H b
theorem del_same {H : Hp} {a : Addr} : delH H a a = none := by unfold delH; rw [if_pos rfl]
theorem del_ne {H : Hp} {a b : Addr} (h : b ≠ a) : delH H a b = H b := by unfold delH; rw [if_neg h]
theorem del_some {H : Hp} {a b : Addr} {o : HO} (h : delH H a b = some o) : b ≠ a ∧ H b = some o := by
  by_cases z : b = a
  · subst z; rw [del_same] at h; cases h
  · rw [del_ne z] at h; exact ⟨z, h⟩
/-- an exception that was made, its __init__ done -/
theorem ExcAt.init {X : Cx} {pins : List (Addr × Obj)} {σ : St} {H : Hp} {s : Shared} {e C : Addr} {dd : Option Addr} (I : Inv X pins σ H s) (he : H e = some (.ext (ExcM e C dd))) (hnew : X.s₀.heap.get? e = none) : ExcAt X (delH H e) e (.ref C) dd s := by
  obtain ⟨t, sl, g⟩ := (show ObjOk X.prog X.w H s.heap e (.ext (ExcM e C dd)) from I.hok e _ he).1
  have nf : e ∉ frs X.stack := fun z => by rw [I.stkFree e z] at he; cases he
  have ne : ∀ b ob, X.s₀.heap.get? b = some ob → b ≠ e := fun b ob q z => by rw [z, hnew] at q; cases q
  have sub : ∀ b, b ∉ frs X.stack → b ∉ X.fs := fun b hb z => by
    rcases I.ok.stk with e | ⟨e, hf⟩
    · rw [e] at hb; exact hb z
    · rw [e] at hb
      unfold frs at hb
      rw [List.filterMap_cons, hf] at hb
      exact hb (List.mem_cons_of_mem _ z)
  have out : ∀ b, b ≠ e → b ∉ frs X.stack → b ∉ e :: frs X.stack := fun b h1 h2 z => (List.mem_cons.mp z).elim h1 h2
  have tr : ∀ b u, X.H₀ b = some u → (∀ φ, u ≠ .ext φ) → H b = some u → delH H e b = some u := fun b u _ hu q => by
    rw [del_ne (fun z => by rw [z, he] at q; cases q; exact hu _ rfl)]
    exact q
  refine ⟨I.os, I.bare, ⟨I.base.keep, I.base.slot, fun b ob q n hx => ?_, I.base.there, fun b xs q => ?_, fun b ob u q => ?_, fun b ps q => ?_⟩, fun b u q => ?_, del_same, hideAll s.heap (e :: frs X.stack), ⟨fun b u q => ?_, fun b ob q n hb hx => ?_, fun b ob q hb hx => ?_⟩, ?_⟩
  · rw [del_ne (ne b ob q)]; exact I.base.free b ob q n hx
  · exact tr b _ q (fun φ z => by cases z) (I.base.tups b xs q)
  · exact tr b _ q (fun φ z => by cases z) (I.base.frzs b ob u q)
  · obtain ⟨more, z⟩ := I.base.tbls b ps q
    refine ⟨more, ?_⟩
    rw [del_ne (fun y => by rw [y, he] at z; cases z)]
    exact z
  · obtain ⟨hb, q'⟩ := del_some q
    refine (I.hok b u q').stay (fun _ _ _ r => r) (fun c r => ?_) fun c xs r => ?_
    · rw [del_ne (fun y => by rw [y, he] at r; cases r)]; exact r
    · rw [del_ne (fun y => by rw [y, he] at r; cases r)]; exact r
  · obtain ⟨hb, q'⟩ := del_some q
    obtain ⟨ob, e1⟩ := (I.hok b u q').some
    exact ⟨ob, hideAll_get _ e1 (out b hb fun z => by rw [I.stkFree b z] at q'; cases q')⟩
  · exact hideAll_get _ (I.base.keep b ob q n (sub b hb) hx) (out b (ne b ob q) hb)
  · obtain ⟨o', e1⟩ := I.base.there b ob q hx
    exact ⟨o', hideAll_get _ e1 (out b (ne b ob q) hb)⟩
  · refine .made _ _ (fun b ob q => of_hideAll _ q) (funFrames_hide I.stack fun env hm a ha => List.mem_cons_of_mem _ (List.mem_filterMap.mpr ⟨env, hm, ha⟩)) (hideAll_none _ (by simp)) g rfl rfl rfl rfl
/-- raise C(args), C with an __init__ -/
def tRaiseI (C : Addr) (sp : Sp) (E : XK) (ta : TA) : TS := fun _ σ H => ta σ H fun vs H1 => vs.length ≤ sizeLine ∧ ∀ e, H1 e = none → sp (.ref e :: vs) (upd H1 e (.ext (ExcM e C none))) (fun v H2 => v = .non ∧ ∃ dd, H2 e = some (.ext (ExcM e C dd)) ∧ E (.ref C) dd (delH H2 e)) E0
theorem ps_raiseI {X : Cx} {E : XK} {C f : Addr} {fd : FuncData} {ps : List Str} {sp : Sp} {cm : Bool} {k : Nat} {x : Str} {a : Expr} {args : List Expr} {np cpos pos : Pos} {ta : TA} (hc : X.calm = true) (c : ExcI X.K C f) (F : FnOk X.prog X.w X.K X.mg X.base CX0 k f fd ps sp cm) (hr : Room (k + 1) X.A cm) (hb : Binds X.K fd ps [])
    (hg : Gl (X.wish (XE X E)) x) (hm : X.mg x = some (.ref C)) (ha : PA (X.wish (XE X E)) (a :: args) ta)
    (hd : (x == ("__debug__" : Str)) = false := by decide) (he : starEach (a :: args) X.env = (false, eval a X.env) :: starEach args X.env := by rfl) (hpl : (backTo cpos (starEach args X.env)).any (·.1) = false := by rfl) :
    PS (X.wish (XE X E)) (.Raise (some (.Call (.Name x np) (a :: args) [] cpos)) none pos) (tRaiseI C sp E ta) := by
  intro pins s σ H D I hw
  obtain ⟨bm, N, nm, q, bs, hdct, sn, sub, ab, col, dd, k0, k1, k2, k3, k5, mN, hC0, hn0, hi0, hT0, hlk⟩ := c.obj I.ok.mod.kin
  rw [arm_exec_Raise]
  refine wpAny_bind (wpAny_standAt (raise_ref (C := C) (nm := nm) (q := q) (N := N) (bs := bs) (bm := bm) (hdct := hdct) (sn := sn) (sub := sub) (ab := ab) (col := col) (dd := dd) (k0 := k0) (k1 := k1) (k2 := k2) (k3 := k3) (k5 := k5) (newId := "ValueError.__new__") (hT0.hasType (by decide)) (I.ok.hd hc) (wpAny_bind (wpAny_mono ?_ (fun v s1 h1 => wpAny_bind (wpAny_standAt (wpAny_pure h1))) fun _ _ z => z))))
  refine wpAny_Call_Name_kw (ld_glob I hg hm ?_ hd)
  refine callWith_K (h₀ := X.base) I.ok.mod.kin c.kp (thn (ha cpos pins s σ H _ I hw) fun us s1 ⟨vs, H1, I1, r, hl, q1⟩ => ⟨I1.kIn, ?_⟩) he hpl
  have kb : ∀ b ob, X.base.get? b = some ob → s1.heap.get? b = some ob := I1.bk
  obtain ⟨h1, g1, d1, t1, os1⟩ := s1
  have fnT : typeIn X.K (.ref f) = some (.type "function") := beq_iff_eq.mp c.fn
  obtain ⟨oI, lI, cI⟩ : ∃ oI, X.K.lookup f = some oI ∧ oI.cls = .type "function" := by
    unfold typeIn at fnT
    exact Option.map_eq_some_iff.mp fnT
  have hfree : H1 (h1.objs.size + 1) = none := I1.hok.fresh (Nat.le_succ _)
  have hq := q1 (h1.objs.size + 1) hfree
  have I2 : Inv (X.wish (XE X E)) pins σ (upd H1 (h1.objs.size + 1) (.ext (ExcM (h1.objs.size + 1) C none))) ⟨newExcH h1 C us, g1, d1, t1, os1⟩ := by
    have ge : (newExcH h1 C us).get? (h1.objs.size + 1) = some (newExcO C h1.objs.size) := by heap_get
    exact I1.laid (t' := t1) (fun b o z => Heap.get?_push_of_some _ (Heap.get?_push_of_some _ z)) (Nat.le_succ _) ⟨⟨_, _, ge⟩, ⟨_, ge⟩, ExcM.ext⟩
  have r2 : Vals (V.ref (h1.objs.size + 1) :: vs) (Value.ref (h1.objs.size + 1) :: us) := .cons rfl r
  have hlen : (Value.ref (h1.objs.size + 1) :: us).length = ps.length := by
    have e := r2.length
    rw [F.len _ _ _ _ hq] at e
    exact e.symm
  refine call_init PySem.F.excBase_ValueError (by decide) PySem.F.excBase_ValueError (hT0.keeps kb) (kb _ _ hC0) (hn0.keeps kb) hi0 (I1.kIn _ _ lI) cI ?_ (by show us.length ≤ sizeLine; rw [← r.length]; exact hl)
  refine wpAny_call (codeAny_mono (F.run _ X.stack _ _ ⟨Value.ref (h1.objs.size + 1) :: us, []⟩ (Value.ref (h1.objs.size + 1) :: us) _ _ E0 (hr.make C us []) (I2.env0.make C us []) ?_ r2 hq) fun r s' hq' => ?_)
  · have z := hb _ (Value.ref (h1.objs.size + 1) :: us) I2.kIn (by rw [List.append_nil]; exact hlen)
    rw [List.append_nil] at z
    exact z
  cases r with
  | error e => exact False.elim hq'
  | ok fl =>
    cases fl with
    | ret u =>
      obtain ⟨v, H', I3, rv, ev, dd', ge, hE⟩ := I2.after hq'
      subst ev
      obtain ⟨t, sl, g⟩ := (show ObjOk X.prog X.w H' s'.heap (h1.objs.size + 1) (.ext (ExcM (h1.objs.size + 1) C dd')) from I3.hok _ _ ge).1
      refine ⟨rv, _, _, t, sl, rfl, I3.bk _ _ hC0, g, _, _, dd', _, rfl, hE, ExcAt.init I3.unwish ge ?_⟩
      exact Heap.get?_none_of_le (Nat.le_trans I1.sz (Nat.le_succ _))
    | next => exact False.elim hq'
    | brk => exact False.elim hq'
    | cont => exact False.elim hq'
/-! ### self.f = v in such an __init__, e.f of one that was caught -/
section
variable {X : Cx} {o e value : Expr} {f : Str} {pos pos' : Pos} {ta tv : TE}
def sFldX (K : Frag) (ta tv : TE) (f : Str) : TS := fun D σ H => tv σ H fun y H1 => ta σ H1 fun x H2 => ∃ e C, x = .ref e ∧ H2 e = some (.ext (ExcM e C none)) ∧ ClsX K C ∧ NoAttr K C f ∧
  ∀ dx, H2 dx = none → D.nx σ (upd (upd H2 e (.ext (ExcM e C (some dx)))) dx (.xd [(f, y)]))
theorem ps_fldX (ha : PE X o ta) (hv : PE X value tv) (hs : swapsWith value (some (.Attribute o f pos')) pos.line X.env = pure false) : PS X (.Assign [.Attribute o f pos'] value pos) (sFldX X.K ta tv f) := by
  intro pins s σ H D I h
  refine plainObj_wpAny_Assign_Attribute (thn (hv pins s σ H _ I h) fun u s1 ⟨y, H1, I1, ry, q⟩ => thn (ha pins s1 σ H1 _ I1 q) fun ov s2 ⟨x, H2, I2, rx, a, C, ex, ea, c, n, q2⟩ => ?_) hs
  subst ex
  obtain rfl : ov = Value.ref a := rx
  exact setattrX_ok I2 ea c n ry fun dx s3 hx I3 => ⟨σ, _, I3, q2 dx hx⟩
def tFldX (K : Frag) (ta : TE) (f : Str) : TE := fun σ H Q => ta σ H fun x H1 => ∃ a C dx fs v, x = .ref a ∧ H1 a = some (.ext (IsExcD a (.ref C) (some dx))) ∧ H1 dx = some (.xd fs) ∧ ClsX K C ∧ NoAttr K C f ∧ fs.lookup f = some v ∧ Q v H1
theorem pe_fldX {K : Frag} (hK : X.K = K) (he : PE X e ta) (hb : attributeBase e f X.env (eval e X.env) = eval e X.env) : PE X (.Attribute e f pos) (tFldX K ta f) := by
  subst hK
  intro pins s σ H Q I h
  refine attr_of hb (thn (he pins s σ H _ I h) fun u s1 ⟨x, H1, I1, rx, a, C, dx, fs, v, ex, ea, ed, c, n, l, q⟩ => ?_)
  subst ex
  obtain rfl : u = Value.ref a := rx
  obtain ⟨oe, vs, g, g1, g2, g3⟩ := (show ObjOk X.prog X.w H1 s1.heap a (.ext (IsExcD a (.ref C) (some dx))) from I1.hok a _ ea).1
  obtain ⟨mA, n1, r⟩ := (show ObjOk X.prog X.w H1 s1.heap dx (.xd fs) from I1.hok dx _ ed)
  obtain ⟨u, hu, ru⟩ := RelO.some_of (v := v) (o := mA f) (by rw [← l]; exact r f)
  exact getX I1.kIn g g1 g3 g2 n1 c n hu (handed_of ru) ⟨v, H1, I1.tok _, ru, q⟩
end
theorem IsExcD.cls {e D : Addr} {dd : Option Addr} {h : Heap} (x : IsExcD e (.ref D) dd h) : ClsAt e D h := let ⟨oe, _, a, b, _, _⟩ := x; ⟨oe, a, b⟩
theorem call_isiXD {X : Cx} {K : Frag} (hK : X.K = K := by rfl) : CallR X (.builtin "isinstance") (fun xs H Q => ∃ e D dd, ∃ (x : V) (c : Value) (b : Bool), xs = [.ref e, x] ∧ (∀ u, RelV x u → u = c) ∧ H e = some (.ext (IsExcD e (.ref D) dd)) ∧ ClsE K D ∧ kitOne K (.ref D) c = some b ∧ Q (.bl b) H) := by
  intro pins s σ H xs us Q I r h
  subst hK
  obtain ⟨e, D, dd, x, c, b, rfl, hx, he, hc, hk, q⟩ := h
  obtain ⟨u, v, rfl, ru, rv⟩ := vals2 r
  obtain rfl : u = Value.ref e := ru
  obtain rfl := hx v rv
  have p : IsExcD e (.ref D) dd s.heap := (show ObjOk X.prog X.w H s.heap e (.ext (IsExcD e (.ref D) dd)) from I.hok e _ he).1
  exact kia_one hc.kit I.kIn p.cls hk (fun z => nomatch z) fun tk => ⟨.bl b, H, I.tok tk, rfl, q⟩
/-! ### try: f(..) except S as n: suite, the exception with its dict -/
def tTryX (K : Frag) (S : Addr) (i : Nat) (tx : TX) (ts : TS) : TS := fun D σ H => tx σ H (fun _ H1 => D.nx σ H1) (fun C dd H1 => ∃ c, C = .ref c ∧ Takes K c S ∧ ∀ e, H1 e = none →
  ts { nx := fun σ' H' => D.nx (σ'.set i none) H', rt := D.rt, bk := fun σ' H' => D.bk (σ'.set i none) H', ct := fun σ' H' => D.ct (σ'.set i none) H' } (σ.set i (some (.ref e))) (upd H1 e (.ext (IsExcD e (.ref c) dd))))
theorem ps_tryX {X : Cx} {e : Expr} {S n : Str} {Sc : Addr} {i : Nat} {b0 : Stmt} {body : List Stmt} {tx : TX} {ts : TS} {epos spos hpos pos : Pos} (top : X.stack = X.env :: X.outer) (fr : X.env.frame = some X.env.locals)
    (hx : PX X e tx) (hg : Gl X S) (hm : X.mg S = some (.ref Sc)) (hs : ∀ a, PSs (X.inH a).nox (b0 :: body) ts) (hN : X.N.Nodup) (hi : X.N[i]? = some n) (hk : X.env.scope.names.lookup n = some .local)
    (hd : (S == ("__debug__" : Str)) = false := by decide) (hsw : swapsWith e none epos.line X.env = pure false := by rfl) :
    PS X (.Try [.Expr e epos] [.ExceptHandler (some (.Name S spos)) (some n) (b0 :: body) hpos] [] [] pos) (tTryX X.K Sc i tx ts) := by
  intro pins s σ H D I h
  refine wpAny_Try_except ?_
  have hb := wpAny_Expr_any (Q := fun f s1 => f = .next ∧ ∃ H1, Inv X pins σ H1 s1 ∧ D.nx σ H1) (thn (hx pins s σ H _ _ I h) fun v s1 ⟨x, H1, I1, r, q⟩ => ⟨rfl, H1, I1, q⟩) I.quiet hsw
  refine wpAny_execs_cons (wpAny_mono hb (fun f s1 ⟨hf, H1, I1, q⟩ => ?_) fun ev s' ⟨H1, s1, I1, hc⟩ => ?_)
  · subst hf
    exact wpAny_execs_nil (wpAny_execs_nil ⟨σ, H1, I1, q⟩)
  · refine CX1.lands (by rw [← top]; exact I1.ok.frames) top fr hc fun a C dd0 H' s3 ha hE l => ?_
    subst ha
    obtain ⟨c, rfl, ⟨bm, bm', ⟨nm, q, N, bs, hdct, sn, sub, ab, col, dd, k0, k1, k2, k3, k5, nid, lc⟩, ⟨nm', q', N', bs', hdct', sn', sub', ab', col', dd', k0', k1', k2', k3', k5', nid', lS⟩, hB, hM⟩, hts⟩ := hE
    refine wpAny_handleBy_cons (codeAny_handlers_test ?_) (by intro q; cases q)
    have I3 := l.inv I1
    refine ld_glob (X := X.inH a) I3.inH hg hm ?_ hd
    obtain ⟨oe, vs, hoe, hcl, hda⟩ := l.obj
    have kC := I3.kIn _ _ lc
    have kS := I3.kIn _ _ lS
    obtain ⟨h3, g3, d3, t3, os3⟩ := s3
    refine matches_own kC kS hoe hcl hB hM ?_
    refine codeAny_handlers_suite_as ?_
    refine l.again fun s4 l4 => ?_
    have I4 := l4.trackedD I1
    refine store_ok (X := X.inH a) (v := .ref a) I4.inH hN hi (.inl hk) rfl (fun s5 I5 => ?_) (.inr hk)
    refine wpAny_mono (hs a pins s5 _ _ _ (I5.wish _) (hts a l4.fe)) (fun f s6 q => ?_) (fun _ _ z => False.elim z)
    cases f with
    | next => obtain ⟨σ', H2, J, q⟩ := q; exact goes (X := X) (J.unwish.ofH I.ok) hN hi hk fun s7 J7 => ⟨_, H2, J7, q⟩
    | brk => obtain ⟨σ', H2, J, q⟩ := q; exact goes (X := X) (J.unwish.ofH I.ok) hN hi hk fun s7 J7 => ⟨_, H2, J7, q⟩
    | cont => obtain ⟨σ', H2, J, q⟩ := q; exact goes (X := X) (J.unwish.ofH I.ok) hN hi hk fun s7 J7 => ⟨_, H2, J7, q⟩
    | ret u => obtain ⟨v, σ', H2, J, r, q⟩ := q; exact goes (X := X) (J.unwish.ofH I.ok) hN hi hk fun s7 J7 => ⟨v, _, H2, J7, r, q⟩
/-- what lies there behind a raise with one attribute -/
theorem del_made {H : Hp} {e dx C : Addr} {f : Str} {y : V} {H' : Hp} (he : H e = none) (hd : upd H e (.ext (ExcM e C none)) dx = none) (eH : H' = upd (upd (upd H e (.ext (ExcM e C none))) e (.ext (ExcM e C (some dx)))) dx (.xd [(f, y)])) :
    H' e = some (.ext (ExcM e C (some dx))) ∧ delH H' e dx = some (.xd [(f, y)]) ∧ ∀ b o, H b = some o → delH H' e b = some o := by
  have ne : dx ≠ e := fun z => by rw [z, upd_same] at hd; cases hd
  have hdx : H dx = none := by rw [upd_ne ne] at hd; exact hd
  subst eH
  refine ⟨by rw [upd_ne ne.symm, upd_same], by rw [del_ne ne, upd_same], fun b o q => ?_⟩
  have nb : b ≠ e := fun z => by rw [z, he] at q; cases q
  have nb2 : b ≠ dx := fun z => by rw [z, hdx] at q; cases q
  rw [del_ne nb, upd_ne nb2, upd_ne nb, upd_ne nb]
  exact q
end L2

set_option maxHeartbeats 4000000
namespace My
open PySem PySem.Spec PyProof.Rows L2
def top (i : Nat) : Stmt := PySem.Challenge.pw_shutpairs_k01_heaps_made.main.body.getD i (.Pass ⟨0, 0, 0, 0⟩)
abbrev s_NoHeap___init__ : Stmt := inClass (top 2) 0
abbrev s_heap_of : Stmt := top 23
abbrev s__law_start : Stmt := top 25
abbrev s__law_mix : Stmt := top 27
abbrev s__law_draw : Stmt := top 26
abbrev s__law_whole : Stmt := top 28
abbrev s__law_row : Stmt := top 29
abbrev s__law_alone : Stmt := top 30
abbrev s__law_refused : Stmt := top 31
abbrev s_law : Stmt := top 32
set_option genInjectivity false in
structure Adr where
  a_NoHeap___init__ : Addr
  fd_NoHeap___init__ : FuncData
  a_heap_of : Addr
  fd_heap_of : FuncData
  a__law_start : Addr
  fd__law_start : FuncData
  a__law_mix : Addr
  fd__law_mix : FuncData
  a__law_draw : Addr
  fd__law_draw : FuncData
  a__law_whole : Addr
  fd__law_whole : FuncData
  a__law_row : Addr
  fd__law_row : FuncData
  a__law_alone : Addr
  fd__law_alone : FuncData
  a__law_refused : Addr
  fd__law_refused : FuncData
  a_law : Addr
  fd_law : FuncData
  c_ShutError : Addr
  c_NoHeap : Addr
  c_NotIn : Addr
  c_NoText : Addr
  c_NoRule : Addr
  c_NoSum : Addr
  c_NotKept : Addr
  c_NoPlace : Addr
  c_NoPair : Addr
  c_NotSoMany : Addr
  c_Unmatched : Addr
  c_NotPaired : Addr
  c_TooLong : Addr
  c_NotStrict : Addr
  c_LeftOver : Addr
  c_NoBottom : Addr
  c_NoLanes : Addr
  c_TooGreat : Addr
  c_NoLine : Addr
  c_NoName : Addr
  c_NothingLeft : Addr
set_option genInjectivity false in
structure Txt (K : PySem.W.Frag) (mg : Str → Option Value) (A : Adr) : Prop where
  F_NoHeap___init__ : Fun K "__init__" "NoHeap.__init__" s_NoHeap___init__ A.a_NoHeap___init__ A.fd_NoHeap___init__
  b_NoHeap___init__ : Binds K A.fd_NoHeap___init__ ["self", "part"] []
  F_heap_of : Fun K "heap_of" "heap_of" s_heap_of A.a_heap_of A.fd_heap_of
  b_heap_of : Binds K A.fd_heap_of ["parts"] []
  g_heap_of : mg "heap_of" = some (.ref A.a_heap_of)
  F__law_start : Fun K "_law_start" "_law_start" s__law_start A.a__law_start A.fd__law_start
  b__law_start : Binds K A.fd__law_start ["_law_script"] []
  g__law_start : mg "_law_start" = some (.ref A.a__law_start)
  F__law_mix : Fun K "_law_mix" "_law_mix" s__law_mix A.a__law_mix A.fd__law_mix
  b__law_mix : Binds K A.fd__law_mix ["_law_state"] []
  g__law_mix : mg "_law_mix" = some (.ref A.a__law_mix)
  F__law_draw : Fun K "_law_draw" "_law_draw" s__law_draw A.a__law_draw A.fd__law_draw
  b__law_draw : Binds K A.fd__law_draw ["_law_state", "_law_many"] []
  g__law_draw : mg "_law_draw" = some (.ref A.a__law_draw)
  F__law_whole : Fun K "_law_whole" "_law_whole" s__law_whole A.a__law_whole A.fd__law_whole
  b__law_whole : Binds K A.fd__law_whole ["_law_found"] []
  g__law_whole : mg "_law_whole" = some (.ref A.a__law_whole)
  F__law_row : Fun K "_law_row" "_law_row" s__law_row A.a__law_row A.fd__law_row
  b__law_row : Binds K A.fd__law_row ["_law_found"] []
  g__law_row : mg "_law_row" = some (.ref A.a__law_row)
  F__law_alone : Fun K "_law_alone" "_law_alone" s__law_alone A.a__law_alone A.fd__law_alone
  b__law_alone : Binds K A.fd__law_alone ["_law_e"] []
  g__law_alone : mg "_law_alone" = some (.ref A.a__law_alone)
  F__law_refused : Fun K "_law_refused" "_law_refused" s__law_refused A.a__law_refused A.fd__law_refused
  b__law_refused : Binds K A.fd__law_refused ["_law_parts", "_law_first"] []
  g__law_refused : mg "_law_refused" = some (.ref A.a__law_refused)
  F_law : Fun K "law" "law" s_law A.a_law A.fd_law
  b_law : Binds K A.fd_law ["_law_script"] []
  g_law : mg "law" = some (.ref A.a_law)
  b_ValueError : mg "ValueError" = none
  b_all : mg "all" = none
  b_bool : mg "bool" = none
  b_int : mg "int" = none
  b_isinstance : mg "isinstance" = none
  b_len : mg "len" = none
  b_list : mg "list" = none
  b_range : mg "range" = none
  b_sorted : mg "sorted" = none
  b_tuple : mg "tuple" = none
  kin : ∃ h, K.In h
  g_ShutError : mg "ShutError" = some (.ref A.c_ShutError)
  g_NoHeap : mg "NoHeap" = some (.ref A.c_NoHeap)
  g_NotIn : mg "NotIn" = some (.ref A.c_NotIn)
  g_NoText : mg "NoText" = some (.ref A.c_NoText)
  g_NoRule : mg "NoRule" = some (.ref A.c_NoRule)
  g_NoSum : mg "NoSum" = some (.ref A.c_NoSum)
  g_NotKept : mg "NotKept" = some (.ref A.c_NotKept)
  g_NoPlace : mg "NoPlace" = some (.ref A.c_NoPlace)
  g_NoPair : mg "NoPair" = some (.ref A.c_NoPair)
  g_NotSoMany : mg "NotSoMany" = some (.ref A.c_NotSoMany)
  g_Unmatched : mg "Unmatched" = some (.ref A.c_Unmatched)
  g_NotPaired : mg "NotPaired" = some (.ref A.c_NotPaired)
  g_TooLong : mg "TooLong" = some (.ref A.c_TooLong)
  g_NotStrict : mg "NotStrict" = some (.ref A.c_NotStrict)
  g_LeftOver : mg "LeftOver" = some (.ref A.c_LeftOver)
  g_NoBottom : mg "NoBottom" = some (.ref A.c_NoBottom)
  g_NoLanes : mg "NoLanes" = some (.ref A.c_NoLanes)
  g_TooGreat : mg "TooGreat" = some (.ref A.c_TooGreat)
  g_NoLine : mg "NoLine" = some (.ref A.c_NoLine)
  g_NoName : mg "NoName" = some (.ref A.c_NoName)
  g_NothingLeft : mg "NothingLeft" = some (.ref A.c_NothingLeft)
  x_ShutError : ExcC K A.c_ShutError
  e_NoHeap : ClsE K A.c_NoHeap
  t_NoHeap_ShutError : PySem.W.mroIn K A.c_NoHeap (.ref A.c_ShutError) = some true
  i_NoHeap_LeftOver : PySem.W.kitOne K (.ref A.c_NoHeap) (.ref A.c_LeftOver) = some false
  i_NoHeap_NoBottom : PySem.W.kitOne K (.ref A.c_NoHeap) (.ref A.c_NoBottom) = some false
  i_NoHeap_NoHeap : PySem.W.kitOne K (.ref A.c_NoHeap) (.ref A.c_NoHeap) = some true
  i_NoHeap_NoLanes : PySem.W.kitOne K (.ref A.c_NoHeap) (.ref A.c_NoLanes) = some false
  i_NoHeap_NoLine : PySem.W.kitOne K (.ref A.c_NoHeap) (.ref A.c_NoLine) = some false
  i_NoHeap_NoName : PySem.W.kitOne K (.ref A.c_NoHeap) (.ref A.c_NoName) = some false
  i_NoHeap_NoPair : PySem.W.kitOne K (.ref A.c_NoHeap) (.ref A.c_NoPair) = some false
  i_NoHeap_NoPlace : PySem.W.kitOne K (.ref A.c_NoHeap) (.ref A.c_NoPlace) = some false
  i_NoHeap_NoRule : PySem.W.kitOne K (.ref A.c_NoHeap) (.ref A.c_NoRule) = some false
  i_NoHeap_NoSum : PySem.W.kitOne K (.ref A.c_NoHeap) (.ref A.c_NoSum) = some false
  i_NoHeap_NoText : PySem.W.kitOne K (.ref A.c_NoHeap) (.ref A.c_NoText) = some false
  i_NoHeap_NotIn : PySem.W.kitOne K (.ref A.c_NoHeap) (.ref A.c_NotIn) = some false
  i_NoHeap_NotKept : PySem.W.kitOne K (.ref A.c_NoHeap) (.ref A.c_NotKept) = some false
  i_NoHeap_NotPaired : PySem.W.kitOne K (.ref A.c_NoHeap) (.ref A.c_NotPaired) = some false
  i_NoHeap_NotSoMany : PySem.W.kitOne K (.ref A.c_NoHeap) (.ref A.c_NotSoMany) = some false
  i_NoHeap_NotStrict : PySem.W.kitOne K (.ref A.c_NoHeap) (.ref A.c_NotStrict) = some false
  i_NoHeap_NothingLeft : PySem.W.kitOne K (.ref A.c_NoHeap) (.ref A.c_NothingLeft) = some false
  i_NoHeap_ShutError : PySem.W.kitOne K (.ref A.c_NoHeap) (.ref A.c_ShutError) = some true
  i_NoHeap_TooGreat : PySem.W.kitOne K (.ref A.c_NoHeap) (.ref A.c_TooGreat) = some false
  i_NoHeap_TooLong : PySem.W.kitOne K (.ref A.c_NoHeap) (.ref A.c_TooLong) = some false
  i_NoHeap_Unmatched : PySem.W.kitOne K (.ref A.c_NoHeap) (.ref A.c_Unmatched) = some false
  i_NoHeap_ValueError : PySem.W.kitOne K (.ref A.c_NoHeap) (.type "ValueError") = some true
  xi_NoHeap : ExcI K A.c_NoHeap A.a_NoHeap___init__
  cx_NoHeap : ClsX K A.c_NoHeap
  na_NoHeap_part : NoAttr K A.c_NoHeap "part"
section
variable {P : Program} {w : World} {K : PySem.W.Frag} {mg : Str → Option Value} {base : Heap} {A : Adr}
def n_NoHeap___init__ : List Str := ["self", "part"]
theorem sc_NoHeap___init__ : FnScope n_NoHeap___init__ ["self", "part"] (defScope s_NoHeap___init__) := ⟨rfl, rfl, rfl, by decide +kernel, rfl, by decide +kernel, by decide +kernel⟩
def sp_NoHeap (A : Adr) : Sp := fun vs H Q _ => ∃ (e : Addr) (v : V), vs = [.ref e, v] ∧ H e = some (.ext (ExcM e A.c_NoHeap none)) ∧ ∀ (dx : Addr) (H' : Hp), H dx = none → H' = upd (upd H e (.ext (ExcM e A.c_NoHeap (some dx)))) dx (.xd [("part", v)]) → Q .non H'
theorem ok_NoHeap___init__ (T : Txt K mg A) : FnOk P w K mg base CX0 1 A.a_NoHeap___init__ A.fd_NoHeap___init__ ["self", "part"] (sp_NoHeap A) := by
  refine T.F_NoHeap___init__.ok sc_NoHeap___init__ (fun vs H Q E h => ?_) (fun cdv Ar outer s H vs Q E hr h => ?_)
  · obtain ⟨e, v, rfl, he, k⟩ := h
    rfl
  · obtain ⟨e, v, rfl, he, k⟩ := h
    refine ⟨_, (pss_one (ps_fldX (pv 0) (pv 1) rfl)), ?_⟩
    exact ⟨_, rfl, _, rfl, e, A.c_NoHeap, rfl, he, T.cx_NoHeap, T.na_NoHeap_part, fun dx hdx => k dx _ hdx rfl⟩
def n_heap_of : List Str := ["parts", "part"]
theorem sc_heap_of : FnScope n_heap_of ["parts"] (defScope s_heap_of) := ⟨rfl, rfl, rfl, by decide +kernel, rfl, by decide +kernel, by decide +kernel⟩
/-- the first one below 1 -/
def FirstBad (ns : List Int) (z : Int) : Prop := ∃ l r, ns = l ++ z :: r ∧ z < 1 ∧ ∀ x ∈ l, 1 ≤ x
theorem FirstBad.eq {ns : List Int} {z y : Int} {i : Nat} (h : FirstBad ns z) (hi : ns[i]? = some y) (hy : y < 1) (hall : ∀ x ∈ ns.take i, 1 ≤ x) : y = z := by
  obtain ⟨l, r, rfl, hz, hl⟩ := h
  rcases Nat.lt_trichotomy i l.length with c | c | c
  · rw [List.getElem?_append_left c] at hi
    have := hl y (List.mem_of_getElem? hi)
    omega
  · subst c
    rw [List.getElem?_append_right (Nat.le_refl _), Nat.sub_self] at hi
    exact (Option.some.inj hi).symm
  · have : z ∈ (l ++ z :: r).take i := by
      refine List.mem_iff_getElem?.mpr ⟨l.length, ?_⟩
      rw [List.getElem?_take_of_lt c, List.getElem?_append_right (Nat.le_refl _), Nat.sub_self]
      rfl
    have := hall z this
    omega
theorem FirstBad.not {ns : List Int} {z : Int} (h : FirstBad ns z) (hp : ∀ x ∈ ns, 1 ≤ x) : False := by
  obtain ⟨l, r, rfl, hz, hl⟩ := h
  have := hp z (by simp)
  omega
def sp_heap_of (A : Adr) : Sp := fun vs H Q E => ∃ (a : Addr) (ns : List Int), vs = [.ref a] ∧ (H a = some (.lst (ns.map V.int)) ∨ H a = some (.tup (ns.map V.int))) ∧ ns.length < 64 ∧
  (((∀ x ∈ ns, 1 ≤ x) ∧ ∀ (p : Addr) (H' : Hp), H' p = some (.tup ((sortD ns).map V.int)) → Same H H' → Q (.ref p) H') ∨ (∃ z, FirstBad ns z ∧ ∀ (dx : Addr) (H' : Hp), H' dx = some (.xd [("part", .int z)]) → Same H H' → E (.ref A.c_NoHeap) (some dx) H'))
theorem ok_heap_of (T : Txt K mg A) : FnOk P w K mg base (CX1 P w) 3 A.a_heap_of A.fd_heap_of ["parts"] (sp_heap_of A) := by
  refine T.F_heap_of.okE sc_heap_of (fun vs H Q E h => ?_) (fun cdv Ar outer s H vs Q E hr h => ?_)
  · obtain ⟨a, ns, rfl, ha, hl, h⟩ := h
    rfl
  · obtain ⟨a, ns, rfl, ha, hl, h⟩ := h
    refine ⟨_, (pss_cons (ps_ok fun ok => ps_for (ownE ok) rfl (pi_or (pi_list (pv 0)) (pi_tup (pv 0))) (pg_name (i := 1) sc_heap_of.nd rfl (by first | exact Or.inl rfl | exact Or.inr rfl))
          (pss_one (ps_if (pt_cmpR op_lt (pv 1) pe_int (nomark _))
          (pss_one (ps_raiseI rfl T.xi_NoHeap (ok_NoHeap___init__ T) (hr.mono (by decide)) T.b_NoHeap___init__ rfl T.g_NoHeap (pa_cons (pv 1) pa_nil))) pss_nil)))
        (pss_one (ps_ret (pe_callTy call_tuple_of rfl T.b_tuple boot_tuple (pa_cons (pe_sortR rfl T.b_sorted (pv 0)) pa_nil))))), ?_⟩
    rcases ha with ha | ha
    · refine .inl ⟨_, rfl, a, rfl, ⟨_, SqL.of ha⟩, for_list (xs := ns.map V.int) (fun i σ' H' => H' = H ∧ (∃ v, σ' = [some (.ref a), v]) ∧ i ≤ ns.length ∧ ∀ x ∈ ns.take i, 1 ≤ x) ⟨rfl, ⟨_, rfl⟩, Nat.zero_le _, by simp⟩ ?_ ?_ ?_⟩
      · rintro i σ' H' _ ⟨rfl, _⟩
        exact SqL.of ha
      · rintro i x σ' H' hx ⟨rfl, ⟨v, rfl⟩, hi, hall⟩
        obtain ⟨z, hz, rfl⟩ := map_at hx
        refine ⟨_, rfl, _, _, rfl, rfl, _, rfl, ite2 (fun hlt => ?_) (fun hge => ?_)⟩
        · have hz1 := of_decide_eq_true hlt
          refine ⟨_, rfl, by show 1 ≤ sizeLine; decide, fun e he => ⟨e, _, rfl, upd_same, fun dx H' hdx eH => ?_⟩⟩
          obtain ⟨d1, d2, d3⟩ := del_made he hdx eH
          refine ⟨rfl, some dx, d1, ?_⟩
          rcases h with ⟨hp, _⟩ | ⟨z', hz', k⟩
          · have := hp z (List.mem_of_getElem? hz)
            omega
          · rw [← hz'.eq hz hz1 hall] at k
            exact k dx _ d2 d3
        · have hz1 : ¬ z < 1 := fun y => hge (decide_eq_true y)
          refine ⟨rfl, ⟨_, rfl⟩, (List.getElem?_eq_some_iff.mp hz).1, fun x hx => ?_⟩
          rw [List.take_succ, hz] at hx
          rcases List.mem_append.mp hx with hx | hx
          · exact hall x hx
          · have : x = z := by simpa using hx
            omega
      · rintro σ' H' ⟨rfl, ⟨v, rfl⟩, _, hall⟩
        rw [List.length_map, List.take_length] at hall
        rcases h with ⟨_, k⟩ | ⟨z', hz', _⟩
        · refine ⟨_, rfl, a, ns, rfl, .inl (SqL.of ha), hl, fun ns' p4 hperm hord hp4 => ?_⟩
          refine ⟨p4, _, rfl, .inl ⟨SqL.of upd_same, fun p5 hp5 => ?_⟩⟩
          have e : ns' = sortD ns := sortD_eq hperm hord
          subst e
          exact k p5 _ upd_same ((Same.new hp4).trans (Same.new hp5))
        · exact (hz'.not hall).elim
    · refine .inr ⟨_, rfl, a, rfl, ⟨_, SqT.of ha⟩, for_tup (xs := ns.map V.int) (fun i σ' H' => H' = H ∧ (∃ v, σ' = [some (.ref a), v]) ∧ i ≤ ns.length ∧ ∀ x ∈ ns.take i, 1 ≤ x) ⟨rfl, ⟨_, rfl⟩, Nat.zero_le _, by simp⟩ ?_ ?_ ?_⟩
      · rintro i σ' H' _ ⟨rfl, _⟩
        exact SqT.of ha
      · rintro i x σ' H' hx ⟨rfl, ⟨v, rfl⟩, hi, hall⟩
        obtain ⟨z, hz, rfl⟩ := map_at hx
        refine ⟨_, rfl, _, _, rfl, rfl, _, rfl, ite2 (fun hlt => ?_) (fun hge => ?_)⟩
        · have hz1 := of_decide_eq_true hlt
          refine ⟨_, rfl, by show 1 ≤ sizeLine; decide, fun e he => ⟨e, _, rfl, upd_same, fun dx H' hdx eH => ?_⟩⟩
          obtain ⟨d1, d2, d3⟩ := del_made he hdx eH
          refine ⟨rfl, some dx, d1, ?_⟩
          rcases h with ⟨hp, _⟩ | ⟨z', hz', k⟩
          · have := hp z (List.mem_of_getElem? hz)
            omega
          · rw [← hz'.eq hz hz1 hall] at k
            exact k dx _ d2 d3
        · have hz1 : ¬ z < 1 := fun y => hge (decide_eq_true y)
          refine ⟨rfl, ⟨_, rfl⟩, (List.getElem?_eq_some_iff.mp hz).1, fun x hx => ?_⟩
          rw [List.take_succ, hz] at hx
          rcases List.mem_append.mp hx with hx | hx
          · exact hall x hx
          · have : x = z := by simpa using hx
            omega
      · rintro σ' H' ⟨rfl, ⟨v, rfl⟩, _, hall⟩
        rw [List.length_map, List.take_length] at hall
        rcases h with ⟨_, k⟩ | ⟨z', hz', _⟩
        · refine ⟨_, rfl, a, ns, rfl, .inr (SqT.of ha), hl, fun ns' p4 hperm hord hp4 => ?_⟩
          refine ⟨p4, _, rfl, .inl ⟨SqL.of upd_same, fun p5 hp5 => ?_⟩⟩
          have e : ns' = sortD ns := sortD_eq hperm hord
          subst e
          exact k p5 _ upd_same ((Same.new hp4).trans (Same.new hp5))
        · exact (hz'.not hall).elim
def n__law_start : List Str := ["_law_script", "_law_great"]
theorem sc__law_start : FnScope n__law_start ["_law_script"] (defScope s__law_start) := ⟨rfl, rfl, rfl, by decide +kernel, rfl, by decide +kernel, by decide +kernel⟩
def sp_start (K : PySem.W.Frag) : Sp := fun vs H Q _ => ∃ (a : Addr) (ns : List Int), vs = [.ref a] ∧ SqL K H a (ns.map V.int) ∧ ns.length ≤ 63 ∧
  ∀ (st ga ca : Addr) (H' : Hp), StAt H' st ga ca 0 → H st = none → H ga = none → H ca = none → Same H H' → Q (.ref st) H'
theorem ok__law_start (T : Txt K mg A) : FnOk P w K mg base CX0 1 A.a__law_start A.fd__law_start ["_law_script"] (sp_start K) := by
  refine T.F__law_start.ok sc__law_start (fun vs H Q E h => ?_) (fun cdv Ar outer s H vs Q E hr h => ?_)
  · obtain ⟨a, ns, rfl, hS, hl, k⟩ := h
    rfl
  · obtain ⟨a, ns, rfl, hS, hl, k⟩ := h
    refine ⟨_, (pss_cons (ps_comp (i := 1) (ls := ["_law_cell"]) (fr := []) (cs_of (defScope s__law_start) n__law_start rfl rfl (by decide +kernel)) rfl (pi_list (pv 0)) (fun _ _ _ _ => pgc 0 (by decide +kernel) rfl rfl) (fun _ _ _ _ => pf_one (pt_cmpR op_ge (pvc (defScope s__law_start) 0) (pe_op op_pow pe_int pe_int) (nomark _))) (fun _ _ _ _ => (pvc (defScope s__law_start) 0)) sc__law_start.nd rfl rfl rfl)
        (pss_one (ps_ret (pe_lst (pa_cons (pv 1) (pa_cons pe_int (pa_cons (pe_comp (ls := ["_law_cell"]) (fr := []) (cs_of (defScope s__law_start) n__law_start rfl rfl (by decide +kernel)) rfl (pi_list (pv 0)) (fun _ _ _ _ => pgc 0 (by decide +kernel) rfl rfl) (fun _ _ _ _ => pf_nil) (fun _ _ _ _ => (pe_op op_mod (pvc (defScope s__law_start) 0) pe_int))) (pa_cons pe_int pa_nil)))))))), ?_⟩
    refine ⟨_, rfl, a, rfl, ⟨_, hS⟩, comp_list (xs := ns.map V.int) (fun i ys σ' H' => H' = H ∧ (∃ v, σ' = [v]) ∧ ∃ gs : List Int, ys = gs.map V.int ∧ gs.length ≤ i ∧ ∀ x ∈ gs, 0 < x) ⟨rfl, ⟨_, rfl⟩, [], rfl, Nat.zero_le _, fun _ hx => nomatch hx⟩ ?_ ?_ ?_⟩
    · rintro i ys σ' H' hi ⟨rfl, _, gs, rfl, hg, _⟩
      refine ⟨hS, ?_⟩
      rw [List.length_map] at hi ⊢
      exact Nat.le_trans (Nat.le_trans hg (Nat.le_trans hi hl)) (by decide)
    · rintro i x ys σ' H' hx ⟨rfl, ⟨v, rfl⟩, gs, rfl, hg, hp⟩
      rw [List.getElem?_map] at hx
      cases hn : ns[i]? with
      | none => rw [hn] at hx; cases hx
      | some z =>
        rw [hn] at hx
        cases hx
        refine ⟨_, rfl, _, _, rfl, rfl, ⟨by decide, by decide, by decide⟩, _, _, rfl, rfl, _, rfl, ?_⟩
        refine ite2 (fun hz => ⟨_, rfl, rfl, ⟨_, rfl⟩, gs ++ [z], by simp, by simp; exact hg, fun y hy => ?_⟩) (fun hz => ⟨rfl, ⟨_, rfl⟩, gs, rfl, Nat.le_succ_of_le hg, hp⟩)
        rcases List.mem_append.mp hy with hy | hy
        · exact hp y hy
        · have : y = z := by simpa using hy
          subst this
          exact Int.lt_of_lt_of_le (by decide) (of_decide_eq_true hz)
    · rintro ys σ' H' ⟨rfl, _, gs, rfl, hg, hp⟩ g0 hg0
      rw [List.length_map] at hg
      have s1 : Same H' (upd H' g0 (.lst (gs.map V.int))) := Same.new hg0
      refine ⟨_, rfl, _, rfl, a, rfl, ⟨_, s1.seq hS⟩, comp_list (xs := ns.map V.int) (fun i ys σ' H2 => H2 = upd H' g0 (.lst (gs.map V.int)) ∧ (∃ v, σ' = [v]) ∧ ∃ cs : List Int, ys = cs.map V.int ∧ cs.length = i) ⟨rfl, ⟨_, rfl⟩, [], rfl, rfl⟩ ?_ ?_ ?_⟩
      · rintro i ys σ' H2 hi ⟨rfl, _, cs, rfl, hc⟩
        refine ⟨s1.seq hS, ?_⟩
        rw [List.length_map] at hi ⊢
        exact Nat.le_trans (Nat.le_trans (Nat.le_of_eq hc) (Nat.le_trans hi hl)) (by decide)
      · rintro i x ys σ' H2 hx ⟨rfl, ⟨v, rfl⟩, cs, rfl, hc⟩
        rw [List.getElem?_map] at hx
        cases hn : ns[i]? with
        | none => rw [hn] at hx; cases hx
        | some z =>
          rw [hn] at hx
          cases hx
          refine ⟨_, rfl, _, _, rfl, rfl, (by show (0 : Int) < 2147483629; decide), rfl, ⟨_, rfl⟩, cs ++ [z % 2147483629], by simp, by simp [hc]⟩
      · rintro ys σ' H2 ⟨rfl, _, cs, rfl, hc⟩ c0 hc0
        refine ⟨by show 4 ≤ sizeLine; decide, fun st hst => ?_⟩
        have n1 : g0 ≠ c0 := fun z => by rw [← z, upd_same] at hc0; cases hc0
        have n2 : st ≠ c0 := fun z => by rw [z, upd_same] at hst; cases hst
        have hst1 : upd H' g0 (.lst (gs.map V.int)) st = none := by rw [upd_ne n2] at hst; exact hst
        have n3 : st ≠ g0 := fun z => by rw [z, upd_same] at hst1; cases hst1
        refine k st g0 c0 _ ⟨⟨gs, cs, 0, 0, upd_same, ?_, ?_, Nat.le_trans hg hl, hp, Int.le_refl _, Int.le_refl _, Int.le_refl _⟩, n1, n3, n2⟩ ?_ hg0 ?_ (s1.trans ((Same.new hc0).trans (Same.new hst)))
        · rw [upd_ne n3.symm, upd_ne n1, upd_same]
        · rw [upd_ne n2.symm, upd_same]
        · rw [upd_ne n3] at hst1; exact hst1
        · rw [upd_ne n1.symm] at hc0; exact hc0
def n__law_mix : List Str := ["_law_state", "_law_count", "_law_cell", "_law_stirred"]
theorem sc__law_mix : FnScope n__law_mix ["_law_state"] (defScope s__law_mix) := ⟨rfl, rfl, rfl, by decide +kernel, rfl, by decide +kernel, by decide +kernel⟩
def sp_mix : Sp := fun vs H Q _ => ∃ (st ga ca : Addr) (N : Nat), vs = [.ref st] ∧ StAt H st ga ca N ∧ N ≤ 10 ^ 9 ∧
  ∀ (r : Int) (H' : Hp), 0 ≤ r → StAt H' st ga ca (N + 1) → Keep [st, ga] H H' → Q (.int r) H'
theorem ok__law_mix (T : Txt K mg A) : FnOk P w K mg base CX0 1 A.a__law_mix A.fd__law_mix ["_law_state"] sp_mix := by
  refine T.F__law_mix.ok sc__law_mix (fun vs H Q E h => ?_) (fun cdv Ar outer s H vs Q E hr h => ?_)
  · obtain ⟨st, ga, ca, N, rfl, S, hN, k⟩ := h
    rfl
  · obtain ⟨st, ga, ca, N, rfl, S, hN, k⟩ := h
    refine ⟨_, (pss_cons (ps_augS (pv 0) pe_int get_list pe_int ip_add set_list)
        (pss_cons (ps_set (i := 1) sc__law_mix.nd rfl (by first | exact Or.inl rfl | exact Or.inr rfl) (pe_ix ix_list (pv 0) pe_int (fun _ _ => rfl)))
        (pss_cons (ps_set (i := 2) sc__law_mix.nd rfl (by first | exact Or.inl rfl | exact Or.inr rfl) pe_int)
        (pss_cons (ps_if (pt_truth (pe_ix ix_list (pv 0) pe_int (fun _ _ => rfl)) (fun _ => rfl))
          (pss_one (ps_set (i := 2) sc__law_mix.nd rfl (by first | exact Or.inl rfl | exact Or.inr rfl) (pe_ix ix_list (pe_ix ix_list (pv 0) pe_int (fun _ _ => rfl)) (pe_op op_mod (pv 1) (pe_callB call_len_seq rfl T.b_len PySem.boot_len (pa_cons (pe_ix ix_list (pv 0) pe_int (fun _ _ => rfl)) pa_nil))) (fun _ _ => rfl)))) pss_nil)
        (pss_cons (ps_set (i := 3) sc__law_mix.nd rfl (by first | exact Or.inl rfl | exact Or.inr rfl) (pe_op op_mod (pe_op op_mul (pe_op op_add (pe_op op_add (pe_op op_add (pv 2) (pe_op op_mul (pe_op op_mul pe_int (pv 1)) (pv 1))) (pe_op op_mul pe_int (pv 1))) pe_int) pe_int) pe_int))
        (pss_one (ps_ret (pe_op op_mod (pe_op op_mul (pe_op op_add (pe_op op_add (pv 3) (pe_op op_mul pe_int (pv 1))) pe_int) pe_int) pe_int)))))))), ?_⟩
    obtain ⟨⟨gs, cs, q, n, h1, h2, h3, h4, h5, h6, h7, h8⟩, gc, sg, sc⟩ := S
    have hn : -(2 ^ 64) < n + 1 ∧ n + 1 < 2 ^ 64 := by omega
    refine ⟨_, rfl, st, _, 3, _, rfl, rfl, SqL.of h1, by decide, rfl, _, _, rfl, rfl, st, _, 3, 3, rfl, rfl, h1, rfl, ?_⟩
    have e1 : upd H st (.lst ([V.ref ga, V.int q, V.ref ca, V.int n].set 3 (V.int (n + 1)))) st = some (.lst [.ref ga, .int q, .ref ca, .int (n + 1)]) := upd_same
    refine ⟨_, rfl, st, _, 3, _, rfl, rfl, SqL.of e1, rfl, ?_⟩
    refine ⟨_, rfl, st, _, 2, _, rfl, rfl, SqL.of e1, rfl, ?_⟩
    have e3 : upd H st (.lst ([V.ref ga, V.int q, V.ref ca, V.int n].set 3 (V.int (n + 1)))) ca = some (.lst (cs.map V.int)) := by rw [upd_ne sc.symm]; exact h3
    have e2 : upd H st (.lst ([V.ref ga, V.int q, V.ref ca, V.int n].set 3 (V.int (n + 1)))) ga = some (.lst (gs.map V.int)) := by rw [upd_ne sg.symm]; exact h2
    refine ⟨_, Or.inl ⟨_, SqL.of e3, rfl⟩, ?_⟩
    have fin : ∀ (c : Int), (tSeq (tAsg (tOp (rI (fun _ j => 0 < j) fun i j => V.int (i % j)) (tOp (rI CMul fun i j => V.int (i * j)) (tOp (rI0 fun i j => V.int (i + j)) (tOp (rI0 fun i j => V.int (i + j)) (tOp (rI0 fun i j => V.int (i + j)) (tVar 2) (tOp (rI CMul fun i j => V.int (i * j)) (tOp (rI CMul fun i j => V.int (i * j)) (tC (V.int 7)) (tVar 1)) (tVar 1))) (tOp (rI CMul fun i j => V.int (i * j)) (tC (V.int 13)) (tVar 1))) (tC (V.int 5))) (tC (V.int 1220703125))) (tC (V.int 2147483647))) (gName 3))
        (tRet (tOp (rI (fun _ j => 0 < j) fun i j => V.int (i % j)) (tOp (rI CMul fun i j => V.int (i * j)) (tOp (rI0 fun i j => V.int (i + j)) (tOp (rI0 fun i j => V.int (i + j)) (tVar 3) (tOp (rI CMul fun i j => V.int (i * j)) (tC (V.int 17)) (tVar 1))) (tC (V.int 3))) (tC (V.int 39373))) (tC (V.int 1000000007)))))
        { nx := fun _ H' => Q .non H', rt := Q } [some (.ref st), some (.int (n + 1)), some (.int c), none] (upd H st (.lst ([V.ref ga, V.int q, V.ref ca, V.int n].set 3 (V.int (n + 1))))) := fun c => by
      refine ⟨_, rfl, _, rfl, _, _, rfl, rfl, .inl (by decide), _, rfl, _, _, rfl, rfl, .inr hn, _, _, rfl, rfl, _, rfl, _, _, rfl, rfl, .inl (by decide), _, _, rfl, rfl, _, _, rfl, rfl, _, _, rfl, rfl, .inr (by decide), _, _, rfl, rfl, (by show (0 : Int) < 2147483647; decide), ?_⟩
      refine ⟨_, rfl, _, rfl, _, _, rfl, rfl, .inl (by decide), _, _, rfl, rfl, _, _, rfl, rfl, _, _, rfl, rfl, .inr (by decide), _, _, rfl, rfl, (by show (0 : Int) < 1000000007; decide), ?_⟩
      exact k _ _ (Int.emod_nonneg _ (by decide)) ⟨⟨gs, cs, q, n + 1, e1, e2, e3, h4, h5, h6, by omega, by omega⟩, gc, sg, sc⟩ (Keep.set (by simp))
    cases hc : cs with
    | nil =>
      refine iteF ?_
      exact fin 5
    | cons c0 cr =>
      refine iteT ?_
      rw [hc] at e3
      refine ⟨_, rfl, st, _, 2, _, rfl, rfl, SqL.of e1, rfl, _, rfl, _, rfl, st, _, 2, _, rfl, rfl, SqL.of e1, rfl, ca, _, rfl, .inl (SqL.of e3), _, _, rfl, rfl, ?_, ?_⟩
      · rw [List.length_map]; simp only [List.length_cons]; omega
      · have hpos : (0 : Int) < ((c0 :: cr).length : Int) := by simp only [List.length_cons]; omega
        rw [List.length_map]
        have hm0 := Int.emod_nonneg (n + 1) (Int.ne_of_gt hpos)
        have hm1 := Int.emod_lt_of_pos (n + 1) hpos
        obtain ⟨j, hj⟩ : ∃ j : Nat, (n + 1) % ((c0 :: cr).length : Int) = (j : Int) := ⟨((n + 1) % ((c0 :: cr).length : Int)).toNat, by omega⟩
        have hjl : j < (c0 :: cr).length := by omega
        refine ⟨ca, _, _, _, rfl, rfl, SqL.of e3, by rw [hj]; exact atI_nat (v := V.int ((c0 :: cr)[j])) (by rw [List.getElem?_map, List.getElem?_eq_getElem hjl]; rfl), ?_⟩
        exact fin _
def n__law_draw : List Str := ["_law_state", "_law_many", "_law_told", "_law_size"]
theorem sc__law_draw : FnScope n__law_draw ["_law_state", "_law_many"] (defScope s__law_draw) := ⟨rfl, rfl, rfl, by decide +kernel, rfl, by decide +kernel, by decide +kernel⟩
/-- a draw: any number from 0 on below many; what it may change is the state's own -/
def sp_draw : Sp := fun vs H Q _ => ∃ (st ga ca : Addr) (N : Nat) (m : Int), vs = [.ref st, .int m] ∧ StAt H st ga ca N ∧ N ≤ 10 ^ 8 ∧ 0 < m ∧ m ≤ 10 ^ 60 ∧
  ∀ (r : Int) (H' : Hp), 0 ≤ r → r < m → StAt H' st ga ca (N + 7) → Keep [st, ga] H H' → Q (.int r) H'
theorem ok__law_draw (T : Txt K mg A) : FnOk P w K mg base CX0 2 A.a__law_draw A.fd__law_draw ["_law_state", "_law_many"] sp_draw := by
  refine T.F__law_draw.ok sc__law_draw (fun vs H Q E h => ?_) (fun cdv Ar outer s H vs Q E hr h => ?_)
  · obtain ⟨st, ga, ca, N, m, rfl, S, hN, hm0, hm1, k⟩ := h
    rfl
  · obtain ⟨st, ga, ca, N, m, rfl, S, hN, hm0, hm1, k⟩ := h
    refine ⟨_, (pss_cons (ps_if (PW.pt (pw_and (pt_cmpR op_eq (pe_ix ix_list (pv 0) pe_int (fun _ _ => rfl)) pe_int (nomark _)) (pw_and1 (pt_truth (pe_ix ix_list (pv 0) pe_int (fun _ _ => rfl)) (fun _ => rfl)))))
          (pss_one (ps_asg (pe_bm PySem.F.plainAttrs_list PySem.F.slot_list_pop PySem.F.type_list_pop mt_popAt (pe_ix ix_list (pv 0) pe_int (fun _ _ => rfl)) (pa_cons pe_int pa_nil)) (pg_sub (pv 0) pe_int set_list))) pss_nil)
        (pss_cons (ps_if (pt_cmpR op_gt (pe_ix ix_list (pv 0) pe_int (fun _ _ => rfl)) pe_int (nomark _))
          (pss_cons (ps_set (i := 2) sc__law_draw.nd rfl (by first | exact Or.inl rfl | exact Or.inr rfl) (pe_op op_mod (pe_ix ix_list (pv 0) pe_int (fun _ _ => rfl)) (pv 1)))
        (pss_cons (ps_asg (pe_op op_fdivB (pe_ix ix_list (pv 0) pe_int (fun _ _ => rfl)) (pv 1)) (pg_sub (pv 0) pe_int set_list))
        (pss_one (ps_ret (pv 2))))) pss_nil)
        (pss_cons (ps_set (i := 2) sc__law_draw.nd rfl (by first | exact Or.inl rfl | exact Or.inr rfl) pe_int)
        (pss_cons (ps_set (i := 3) sc__law_draw.nd rfl (by first | exact Or.inl rfl | exact Or.inr rfl) pe_int)
        (pss_cons (ps_while PassesOwn.never (pt_cmpR op_lt (pv 3) (pv 1) (nomark _))
          (pss_cons (ps_set (i := 2) sc__law_draw.nd rfl (by first | exact Or.inl rfl | exact Or.inr rfl) (pe_op op_add (pe_op op_mul (pv 2) pe_int) (pe_call (ok__law_mix T) (hr.mono (by decide)) rfl T.g__law_mix T.F__law_mix.kp T.b__law_mix .nil pass0 (pa_cons (pv 0) pa_nil))))
        (pss_one (ps_set (i := 3) sc__law_draw.nd rfl (by first | exact Or.inl rfl | exact Or.inr rfl) (pe_op op_mul (pv 3) pe_int)))))
        (pss_one (ps_ret (pe_op op_mod (pv 2) (pv 1))))))))), ?_⟩
    obtain ⟨⟨gs, cs, q, n, h1, h2, h3, h4, h5, h6, h7, h8⟩, gc, sg, sc⟩ := S
    have hb : ∀ (g : List Int) (x : Int) (H' : Hp), H' = upd (upd H ga (.lst (g.map V.int))) st (.lst [.ref ga, .int x, .ref ca, .int n]) → H' st = some (.lst [.ref ga, .int x, .ref ca, .int n]) ∧ H' ga = some (.lst (g.map V.int)) ∧ H' ca = some (.lst (cs.map V.int)) ∧ Keep [st, ga] H H' := fun g x H' e => by
      subst e
      refine ⟨upd_same, by rw [upd_ne sg.symm, upd_same], by rw [upd_ne sc.symm, upd_ne gc.symm]; exact h3, fun b o e hn => ?_⟩
      have n1 : b ≠ st := fun z => hn (by simp [z])
      have n2 : b ≠ ga := fun z => hn (by simp [z])
      rw [upd_ne n1, upd_ne n2]
      exact e
    refine seqJoin (fun σ' H' => σ' = [some (.ref st), some (.int m), none, none] ∧ ∃ (g : List Int) (x : Int), H' st = some (.lst [.ref ga, .int x, .ref ca, .int n]) ∧ H' ga = some (.lst (g.map V.int)) ∧ H' ca = some (.lst (cs.map V.int)) ∧ Keep [st, ga] H H' ∧ g.length ≤ 63 ∧ (∀ x ∈ g, 0 < x) ∧ 0 ≤ x) (fun nx hnx => ?_) ?_
    · have skip : nx [some (.ref st), some (.int m), none, none] H := hnx _ _ ⟨rfl, gs, q, h1, h2, h3, Keep.refl _ _, h4, h5, h6⟩
      refine ⟨_, rfl, st, _, 1, _, rfl, rfl, SqL.of h1, rfl, rfl, _, rfl, ?_⟩
      refine ite2 (fun hq => ?_) (fun hq => iteF skip)
      have hq0 : q = 0 := by simpa using hq
      subst hq0
      refine ⟨_, rfl, st, _, 0, _, rfl, rfl, SqL.of h1, rfl, _, .inl ⟨_, SqL.of h2, rfl⟩, ?_⟩
      cases gs with
      | nil => exact iteF skip
      | cons g0 gr =>
        refine iteT ?_
        have eg : upd H ga (.lst ((V.int g0 :: gr.map V.int).eraseIdx 0)) st = some (.lst [.ref ga, .int 0, .ref ca, .int n]) := by rw [upd_ne sg]; exact h1
        refine ⟨_, rfl, st, _, 0, _, rfl, rfl, SqL.of h1, rfl, .inl ⟨rfl, _, SqL.of h2⟩, ga, _, 0, 0, V.int g0, rfl, rfl, h2, by decide, by decide, (by simp [seqIndex?]), rfl, ?_⟩
        refine ⟨_, rfl, st, _, 1, 1, rfl, rfl, eg, rfl, ?_⟩
        obtain ⟨b1, b2, b3, b4⟩ := hb gr g0 _ rfl
        exact hnx _ _ ⟨rfl, gr, g0, b1, b2, b3, b4, by simp only [List.length_cons] at h4; omega, fun y hy => h5 y (List.mem_cons_of_mem _ hy), Int.le_of_lt (h5 g0 List.mem_cons_self)⟩
    · rintro σ1 H1 ⟨rfl, g, x, c1, c2, c3, c4, c5, c6, c7⟩
      refine ⟨_, rfl, st, _, 1, _, rfl, rfl, SqL.of c1, rfl, _, _, rfl, rfl, _, rfl, ?_⟩
      refine ite2 (fun hx => ?_) (fun hx => ?_)
      · refine ⟨_, rfl, st, _, 1, _, rfl, rfl, SqL.of c1, rfl, _, rfl, _, _, rfl, rfl, hm0, ?_⟩
        refine ⟨_, rfl, st, _, 1, _, rfl, rfl, SqL.of c1, rfl, _, rfl, _, _, rfl, rfl, ⟨hm0, Int.le_trans hm1 (by decide)⟩, ?_⟩
        refine ⟨_, rfl, st, _, 1, 1, rfl, rfl, c1, rfl, ?_⟩
        refine ⟨_, rfl, k _ _ (Int.emod_nonneg _ (Int.ne_of_gt hm0)) (Int.emod_lt_of_pos _ hm0) ⟨⟨g, cs, x / m, n, upd_same, by rw [upd_ne sg.symm]; exact c2, by rw [upd_ne sc.symm]; exact c3, c5, c6, Int.ediv_nonneg c7 (Int.le_of_lt hm0), h7, by omega⟩, gc, sg, sc⟩ (c4.trans (Keep.set (by simp)))⟩
      · refine ⟨fun mm σ2 H2 => ∃ (j : Nat) (told : Int), j ≤ 7 ∧ mm = 7 - j ∧ σ2 = [some (.ref st), some (.int m), some (.int told), some (.int (1000000007 ^ j))] ∧ StAt H2 st ga ca (N + j) ∧ Keep [st, ga] H H2,
          ⟨7, 0, 0, by decide, rfl, rfl, ⟨⟨g, cs, x, n, c1, c2, c3, c5, c6, c7, h7, by omega⟩, gc, sg, sc⟩, c4⟩, ?_⟩
        rintro mm σ2 H2 ⟨j, told, hj, rfl, rfl, S2, k2⟩
        refine ⟨_, rfl, _, rfl, _, _, rfl, rfl, _, rfl, ?_⟩
        refine ite2 (fun hlt => ?_) (fun hlt => ?_)
        · have hlt' : (1000000007 : Int) ^ j < m := of_decide_eq_true hlt
          have hj6 : j < 7 := by
            rcases Nat.lt_or_ge j 7 with z | z
            · exact z
            · have e7 : j = 7 := by omega
              subst e7
              exact absurd (Int.lt_of_lt_of_le hlt' hm1) (by decide)
          refine ⟨fun σ3 H3 => ∃ (told : Int), σ3 = [some (.ref st), some (.int m), some (.int told), some (.int (1000000007 ^ (j + 1)))] ∧ StAt H3 st ga ca (N + (j + 1)) ∧ Keep [st, ga] H H3, fun σ3 H3 ⟨td, e3, S3, k3⟩ => ⟨7 - (j + 1), by omega, j + 1, td, hj6, rfl, e3, S3, k3⟩, ?_⟩
          refine ⟨_, rfl, _, _, rfl, rfl, .inr (by decide), _, rfl, st, ga, ca, N + j, rfl, S2, by omega, fun r H3 hr0 S3 k3 => ?_⟩
          refine ⟨_, _, rfl, rfl, ?_⟩
          refine ⟨_, rfl, _, _, rfl, rfl, .inr (by decide), ?_⟩
          refine ⟨told * 1000000007 + r, ?_, S3, k2.trans k3⟩
          show [some (V.ref st), some (V.int m), some (V.int _), some (V.int (1000000007 ^ j * 1000000007))] = _
          rw [← Int.pow_succ]
        · refine ⟨_, rfl, _, rfl, _, _, rfl, rfl, hm0, ?_⟩
          exact k _ _ (Int.emod_nonneg _ (Int.ne_of_gt hm0)) (Int.emod_lt_of_pos _ hm0) (S2.mono (by omega)) k2
def n__law_whole : List Str := ["_law_found"]
theorem sc__law_whole : FnScope n__law_whole ["_law_found"] (defScope s__law_whole) := ⟨rfl, rfl, rfl, by decide +kernel, rfl, by decide +kernel, by decide +kernel⟩
def sp_whole : Sp := fun vs H Q _ => ∃ (i : Int), vs = [.int i] ∧ Q (.bl true) H
theorem ok__law_whole (T : Txt K mg A) : FnOk P w K mg base CX0 1 A.a__law_whole A.fd__law_whole ["_law_found"] sp_whole false := by
  refine T.F__law_whole.ok sc__law_whole (fun vs H Q E h => ?_) (fun cdv Ar outer s H vs Q E hr h => ?_)
  · obtain ⟨i, rfl, k⟩ := h
    rfl
  · obtain ⟨i, rfl, k⟩ := h
    refine ⟨_, (pss_one (ps_ret (pe_and (pe_callB call_isi rfl T.b_isinstance boot_isinstance (pa_cons (pv 0) (pa_cons (pe_bltn (v := .ty "int") rfl T.b_int boot_int rfl) pa_nil))) (pe_one (pe_not (pe_callB call_isi rfl T.b_isinstance boot_isinstance (pa_cons (pv 0) (pa_cons (pe_bltn (v := .ty "bool") rfl T.b_bool boot_bool rfl) pa_nil)))))))), ?_⟩
    exact ⟨_, rfl, _, _, _, true, rfl, TyOf.int _, kit_int_int, true, rfl, _, rfl, _, _, _, false, rfl, TyOf.int _, kit_int_bool, false, rfl, k⟩
def n__law_row : List Str := ["_law_found"]
theorem sc__law_row : FnScope n__law_row ["_law_found"] (defScope s__law_row) := ⟨rfl, rfl, rfl, by decide +kernel, rfl, by decide +kernel, by decide +kernel⟩
def sp_row : Sp := fun vs H Q _ => ∃ (a : Addr) (ns : List Int), vs = [.ref a] ∧ H a = some (.tup (ns.map V.int)) ∧ ns.length ≤ 100000 ∧ ∀ (H' : Hp), Same H H' → Q (.bl true) H'
theorem ok__law_row (T : Txt K mg A) : FnOk P w K mg base CX0 2 A.a__law_row A.fd__law_row ["_law_found"] sp_row := by
  refine T.F__law_row.ok sc__law_row (fun vs H Q E h => ?_) (fun cdv Ar outer s H vs Q E hr h => ?_)
  · obtain ⟨a, ns, rfl, ha, hln, k⟩ := h
    rfl
  · obtain ⟨a, ns, rfl, ha, hln, k⟩ := h
    refine ⟨_, (pss_one (ps_ret (pe_and (pe_callB call_isi rfl T.b_isinstance boot_isinstance (pa_cons (pv 0) (pa_cons (pe_bltn (v := .ty "tuple") rfl T.b_tuple boot_tuple rfl) pa_nil))) (pe_one (pe_callB (call_all_bools rfl) rfl T.b_all boot_all (pa_cons (pe_comp (ls := ["_law_one"]) (fr := []) (cs_of (defScope s__law_row) n__law_row rfl rfl (by decide +kernel)) rfl (pi_tup (pv 0)) (fun _ _ _ _ => pgc 0 (by decide +kernel) rfl rfl) (fun _ _ _ _ => pf_nil) (fun _ _ _ _ => (pe_call (ok__law_whole T).any (hr.mono (by decide)) (glc (defScope s__law_row)) T.g__law_whole T.F__law_whole.kp T.b__law_whole .nil pass0 (pa_cons (pvc (defScope s__law_row) 0) pa_nil)))) pa_nil)))))), ?_⟩
    refine ⟨_, rfl, _, _, _, true, rfl, TyOf.tup ha, kit_tup_tup, true, rfl, _, rfl, a, rfl, ⟨_, SqT.of ha⟩, comp_tup (xs := ns.map V.int) (fun i ys σ' H' => H' = H ∧ (∃ v, σ' = [v]) ∧ ys = (List.replicate i true).map V.bl ∧ i ≤ ns.length) ⟨rfl, ⟨_, rfl⟩, rfl, Nat.zero_le _⟩ ?_ ?_ ?_⟩
    · rintro i ys σ' H' hi ⟨rfl, _, rfl, hi'⟩
      refine ⟨SqT.of ha, ?_⟩
      rw [List.length_map, List.length_replicate]
      exact Nat.le_trans (Nat.le_trans hi' hln) (by decide)
    · rintro i x ys σ' H' hx ⟨rfl, ⟨v, rfl⟩, rfl, hi'⟩
      obtain ⟨z, hz, rfl⟩ := map_at hx
      have hi := (List.getElem?_eq_some_iff.mp hz).1
      refine ⟨_, rfl, z, rfl, rfl, ⟨_, rfl⟩, ?_, hi⟩
      rw [List.replicate_succ', List.map_append]
      rfl
    · rintro ys σ' H' ⟨rfl, _, rfl, hi'⟩ l hl0
      refine ⟨l, _, rfl, SqL.of upd_same, ?_⟩
      have e : (List.replicate (ns.map V.int).length true).all id = true := by simp
      rw [e]
      exact k _ (Same.new hl0)
def n__law_alone : List Str := ["_law_e", "_law_found"]
theorem sc__law_alone : FnScope n__law_alone ["_law_e"] (defScope s__law_alone) := ⟨rfl, rfl, rfl, by decide +kernel, rfl, by decide +kernel, by decide +kernel⟩
def sp_one_class (A : Adr) : Sp := fun vs H Q _ => ∃ (e : Addr) (dd : Option Addr), vs = [.ref e] ∧ H e = some (.ext (IsExcD e (.ref A.c_NoHeap) dd)) ∧ ∀ H', Same H H' → Q (.bl true) H'
theorem ok__law_alone (T : Txt K mg A) : FnOk P w K mg base CX0 1 A.a__law_alone A.fd__law_alone ["_law_e"] (sp_one_class A) false := by
  refine T.F__law_alone.ok sc__law_alone (fun vs H Q E h => ?_) (fun cdv Ar outer s H vs Q E hr h => ?_)
  · obtain ⟨e, dd, rfl, he, k⟩ := h
    rfl
  · obtain ⟨e, dd, rfl, he, k⟩ := h
    refine ⟨_, (pss_cons (ps_set (i := 1) sc__law_alone.nd rfl (by first | exact Or.inl rfl | exact Or.inr rfl) (pe_lst (pa_cons (pe_callB (call_isiXD (K := K)) rfl T.b_isinstance boot_isinstance (pa_cons (pv 0) (pa_cons (pe_glob (v := .ref A.c_NotIn) rfl T.g_NotIn rfl) pa_nil))) (pa_cons (pe_callB (call_isiXD (K := K)) rfl T.b_isinstance boot_isinstance (pa_cons (pv 0) (pa_cons (pe_glob (v := .ref A.c_NoText) rfl T.g_NoText rfl) pa_nil))) (pa_cons (pe_callB (call_isiXD (K := K)) rfl T.b_isinstance boot_isinstance (pa_cons (pv 0) (pa_cons (pe_glob (v := .ref A.c_NoRule) rfl T.g_NoRule rfl) pa_nil))) (pa_cons (pe_callB (call_isiXD (K := K)) rfl T.b_isinstance boot_isinstance (pa_cons (pv 0) (pa_cons (pe_glob (v := .ref A.c_NoSum) rfl T.g_NoSum rfl) pa_nil))) pa_nil))))))
        (pss_cons (ps_set (i := 1) sc__law_alone.nd rfl (by first | exact Or.inl rfl | exact Or.inr rfl) (pe_op op_cat (pv 1) (pe_lst (pa_cons (pe_callB (call_isiXD (K := K)) rfl T.b_isinstance boot_isinstance (pa_cons (pv 0) (pa_cons (pe_glob (v := .ref A.c_NoPlace) rfl T.g_NoPlace rfl) pa_nil))) (pa_cons (pe_callB (call_isiXD (K := K)) rfl T.b_isinstance boot_isinstance (pa_cons (pv 0) (pa_cons (pe_glob (v := .ref A.c_NoPair) rfl T.g_NoPair rfl) pa_nil))) (pa_cons (pe_callB (call_isiXD (K := K)) rfl T.b_isinstance boot_isinstance (pa_cons (pv 0) (pa_cons (pe_glob (v := .ref A.c_NotPaired) rfl T.g_NotPaired rfl) pa_nil))) pa_nil))))))
        (pss_cons (ps_set (i := 1) sc__law_alone.nd rfl (by first | exact Or.inl rfl | exact Or.inr rfl) (pe_op op_cat (pv 1) (pe_lst (pa_cons (pe_callB (call_isiXD (K := K)) rfl T.b_isinstance boot_isinstance (pa_cons (pv 0) (pa_cons (pe_glob (v := .ref A.c_NotSoMany) rfl T.g_NotSoMany rfl) pa_nil))) (pa_cons (pe_callB (call_isiXD (K := K)) rfl T.b_isinstance boot_isinstance (pa_cons (pv 0) (pa_cons (pe_glob (v := .ref A.c_NotStrict) rfl T.g_NotStrict rfl) pa_nil))) (pa_cons (pe_callB (call_isiXD (K := K)) rfl T.b_isinstance boot_isinstance (pa_cons (pv 0) (pa_cons (pe_glob (v := .ref A.c_LeftOver) rfl T.g_LeftOver rfl) pa_nil))) pa_nil))))))
        (pss_cons (ps_set (i := 1) sc__law_alone.nd rfl (by first | exact Or.inl rfl | exact Or.inr rfl) (pe_op op_cat (pv 1) (pe_lst (pa_cons (pe_callB (call_isiXD (K := K)) rfl T.b_isinstance boot_isinstance (pa_cons (pv 0) (pa_cons (pe_glob (v := .ref A.c_NoBottom) rfl T.g_NoBottom rfl) pa_nil))) (pa_cons (pe_callB (call_isiXD (K := K)) rfl T.b_isinstance boot_isinstance (pa_cons (pv 0) (pa_cons (pe_glob (v := .ref A.c_NoLanes) rfl T.g_NoLanes rfl) pa_nil))) (pa_cons (pe_callB (call_isiXD (K := K)) rfl T.b_isinstance boot_isinstance (pa_cons (pv 0) (pa_cons (pe_glob (v := .ref A.c_TooGreat) rfl T.g_TooGreat rfl) pa_nil))) pa_nil))))))
        (pss_cons (ps_set (i := 1) sc__law_alone.nd rfl (by first | exact Or.inl rfl | exact Or.inr rfl) (pe_op op_cat (pv 1) (pe_lst (pa_cons (pe_callB (call_isiXD (K := K)) rfl T.b_isinstance boot_isinstance (pa_cons (pv 0) (pa_cons (pe_glob (v := .ref A.c_NoLine) rfl T.g_NoLine rfl) pa_nil))) (pa_cons (pe_callB (call_isiXD (K := K)) rfl T.b_isinstance boot_isinstance (pa_cons (pv 0) (pa_cons (pe_glob (v := .ref A.c_NothingLeft) rfl T.g_NothingLeft rfl) pa_nil))) (pa_cons (pe_callB (call_isiXD (K := K)) rfl T.b_isinstance boot_isinstance (pa_cons (pv 0) (pa_cons (pe_glob (v := .ref A.c_NoHeap) rfl T.g_NoHeap rfl) pa_nil))) pa_nil))))))
        (pss_cons (ps_set (i := 1) sc__law_alone.nd rfl (by first | exact Or.inl rfl | exact Or.inr rfl) (pe_op op_cat (pv 1) (pe_lst (pa_cons (pe_callB (call_isiXD (K := K)) rfl T.b_isinstance boot_isinstance (pa_cons (pv 0) (pa_cons (pe_glob (v := .ref A.c_NotKept) rfl T.g_NotKept rfl) pa_nil))) (pa_cons (pe_callB (call_isiXD (K := K)) rfl T.b_isinstance boot_isinstance (pa_cons (pv 0) (pa_cons (pe_glob (v := .ref A.c_Unmatched) rfl T.g_Unmatched rfl) pa_nil))) (pa_cons (pe_callB (call_isiXD (K := K)) rfl T.b_isinstance boot_isinstance (pa_cons (pv 0) (pa_cons (pe_glob (v := .ref A.c_TooLong) rfl T.g_TooLong rfl) pa_nil))) pa_nil))))))
        (pss_cons (ps_set (i := 1) sc__law_alone.nd rfl (by first | exact Or.inl rfl | exact Or.inr rfl) (pe_op op_cat (pv 1) (pe_lst (pa_cons (pe_callB (call_isiXD (K := K)) rfl T.b_isinstance boot_isinstance (pa_cons (pv 0) (pa_cons (pe_glob (v := .ref A.c_NoName) rfl T.g_NoName rfl) pa_nil))) pa_nil))))
        (pss_one (ps_ret (pe_and (pe_cmpR op_eq (pe_bm PySem.F.plainAttrs_list PySem.F.slot_list_count PySem.F.type_list_count mt_countL (pv 1) (pa_cons pe_bl pa_nil)) pe_int (nomark _)) (pe_and (pe_callB (call_isiXD (K := K)) rfl T.b_isinstance boot_isinstance (pa_cons (pv 0) (pa_cons (pe_glob (v := .ref A.c_ShutError) rfl T.g_ShutError rfl) pa_nil))) (pe_one (pe_callB (call_isiXD (K := K)) rfl T.b_isinstance boot_isinstance (pa_cons (pv 0) (pa_cons (pe_bltn (v := .ty "ValueError") rfl T.b_ValueError boot_ValueError rfl) pa_nil))))))))))))))), ?_⟩
    refine ⟨_, rfl, e, A.c_NoHeap, dd, _, _, _, rfl, (fun _ h => h), he, T.e_NoHeap, T.i_NoHeap_NotIn, _, rfl, e, A.c_NoHeap, dd, _, _, _, rfl, (fun _ h => h), he, T.e_NoHeap, T.i_NoHeap_NoText, _, rfl, e, A.c_NoHeap, dd, _, _, _, rfl, (fun _ h => h), he, T.e_NoHeap, T.i_NoHeap_NoRule, _, rfl, e, A.c_NoHeap, dd, _, _, _, rfl, (fun _ h => h), he, T.e_NoHeap, T.i_NoHeap_NoSum, by show 4 ≤ sizeLine; decide, fun l0 hl0 => ?_⟩
    obtain ⟨H0, hH0⟩ : ∃ H0, H0 = upd H l0 (.lst [V.bl false, V.bl false, V.bl false, V.bl false]) := ⟨_, rfl⟩
    rw [← hH0]
    have s0 : Same H H0 := by rw [hH0]; exact Same.new hl0
    have g0 : H0 l0 = some (.lst [V.bl false, V.bl false, V.bl false, V.bl false]) := by rw [hH0]; exact upd_same
    refine ⟨_, rfl, _, rfl, e, A.c_NoHeap, dd, _, _, _, rfl, (fun _ h => h), (s0 _ _ he), T.e_NoHeap, T.i_NoHeap_NoPlace, _, rfl, e, A.c_NoHeap, dd, _, _, _, rfl, (fun _ h => h), (s0 _ _ he), T.e_NoHeap, T.i_NoHeap_NoPair, _, rfl, e, A.c_NoHeap, dd, _, _, _, rfl, (fun _ h => h), (s0 _ _ he), T.e_NoHeap, T.i_NoHeap_NotPaired, by show 3 ≤ sizeLine; decide, fun m1 hm1 => ?_⟩
    refine ⟨l0, m1, _, _, rfl, rfl, Same.new hm1 _ _ g0, upd_same, by show 7 ≤ sizeLine; decide, fun l1 hl1 => ?_⟩
    obtain ⟨H1, hH1⟩ : ∃ H', H' = upd (upd H0 m1 (.lst [V.bl false, V.bl false, V.bl false])) l1 (.lst ([V.bl false, V.bl false, V.bl false, V.bl false] ++ [V.bl false, V.bl false, V.bl false])) := ⟨_, rfl⟩
    rw [← hH1]
    have s1 : Same H H1 := by rw [hH1]; exact s0.trans ((Same.new hm1).trans (Same.new hl1))
    have g1 : H1 l1 = some (.lst [V.bl false, V.bl false, V.bl false, V.bl false, V.bl false, V.bl false, V.bl false]) := by rw [hH1]; exact upd_same
    refine ⟨_, rfl, _, rfl, e, A.c_NoHeap, dd, _, _, _, rfl, (fun _ h => h), (s1 _ _ he), T.e_NoHeap, T.i_NoHeap_NotSoMany, _, rfl, e, A.c_NoHeap, dd, _, _, _, rfl, (fun _ h => h), (s1 _ _ he), T.e_NoHeap, T.i_NoHeap_NotStrict, _, rfl, e, A.c_NoHeap, dd, _, _, _, rfl, (fun _ h => h), (s1 _ _ he), T.e_NoHeap, T.i_NoHeap_LeftOver, by show 3 ≤ sizeLine; decide, fun m2 hm2 => ?_⟩
    refine ⟨l1, m2, _, _, rfl, rfl, Same.new hm2 _ _ g1, upd_same, by show 10 ≤ sizeLine; decide, fun l2 hl2 => ?_⟩
    obtain ⟨H2, hH2⟩ : ∃ H', H' = upd (upd H1 m2 (.lst [V.bl false, V.bl false, V.bl false])) l2 (.lst ([V.bl false, V.bl false, V.bl false, V.bl false, V.bl false, V.bl false, V.bl false] ++ [V.bl false, V.bl false, V.bl false])) := ⟨_, rfl⟩
    rw [← hH2]
    have s2 : Same H H2 := by rw [hH2]; exact s1.trans ((Same.new hm2).trans (Same.new hl2))
    have g2 : H2 l2 = some (.lst [V.bl false, V.bl false, V.bl false, V.bl false, V.bl false, V.bl false, V.bl false, V.bl false, V.bl false, V.bl false]) := by rw [hH2]; exact upd_same
    refine ⟨_, rfl, _, rfl, e, A.c_NoHeap, dd, _, _, _, rfl, (fun _ h => h), (s2 _ _ he), T.e_NoHeap, T.i_NoHeap_NoBottom, _, rfl, e, A.c_NoHeap, dd, _, _, _, rfl, (fun _ h => h), (s2 _ _ he), T.e_NoHeap, T.i_NoHeap_NoLanes, _, rfl, e, A.c_NoHeap, dd, _, _, _, rfl, (fun _ h => h), (s2 _ _ he), T.e_NoHeap, T.i_NoHeap_TooGreat, by show 3 ≤ sizeLine; decide, fun m3 hm3 => ?_⟩
    refine ⟨l2, m3, _, _, rfl, rfl, Same.new hm3 _ _ g2, upd_same, by show 13 ≤ sizeLine; decide, fun l3 hl3 => ?_⟩
    obtain ⟨H3, hH3⟩ : ∃ H', H' = upd (upd H2 m3 (.lst [V.bl false, V.bl false, V.bl false])) l3 (.lst ([V.bl false, V.bl false, V.bl false, V.bl false, V.bl false, V.bl false, V.bl false, V.bl false, V.bl false, V.bl false] ++ [V.bl false, V.bl false, V.bl false])) := ⟨_, rfl⟩
    rw [← hH3]
    have s3 : Same H H3 := by rw [hH3]; exact s2.trans ((Same.new hm3).trans (Same.new hl3))
    have g3 : H3 l3 = some (.lst [V.bl false, V.bl false, V.bl false, V.bl false, V.bl false, V.bl false, V.bl false, V.bl false, V.bl false, V.bl false, V.bl false, V.bl false, V.bl false]) := by rw [hH3]; exact upd_same
    refine ⟨_, rfl, _, rfl, e, A.c_NoHeap, dd, _, _, _, rfl, (fun _ h => h), (s3 _ _ he), T.e_NoHeap, T.i_NoHeap_NoLine, _, rfl, e, A.c_NoHeap, dd, _, _, _, rfl, (fun _ h => h), (s3 _ _ he), T.e_NoHeap, T.i_NoHeap_NothingLeft, _, rfl, e, A.c_NoHeap, dd, _, _, _, rfl, (fun _ h => h), (s3 _ _ he), T.e_NoHeap, T.i_NoHeap_NoHeap, by show 3 ≤ sizeLine; decide, fun m4 hm4 => ?_⟩
    refine ⟨l3, m4, _, _, rfl, rfl, Same.new hm4 _ _ g3, upd_same, by show 16 ≤ sizeLine; decide, fun l4 hl4 => ?_⟩
    obtain ⟨H4, hH4⟩ : ∃ H', H' = upd (upd H3 m4 (.lst [V.bl false, V.bl false, V.bl true])) l4 (.lst ([V.bl false, V.bl false, V.bl false, V.bl false, V.bl false, V.bl false, V.bl false, V.bl false, V.bl false, V.bl false, V.bl false, V.bl false, V.bl false] ++ [V.bl false, V.bl false, V.bl true])) := ⟨_, rfl⟩
    rw [← hH4]
    have s4 : Same H H4 := by rw [hH4]; exact s3.trans ((Same.new hm4).trans (Same.new hl4))
    have g4 : H4 l4 = some (.lst [V.bl false, V.bl false, V.bl false, V.bl false, V.bl false, V.bl false, V.bl false, V.bl false, V.bl false, V.bl false, V.bl false, V.bl false, V.bl false, V.bl false, V.bl false, V.bl true]) := by rw [hH4]; exact upd_same
    refine ⟨_, rfl, _, rfl, e, A.c_NoHeap, dd, _, _, _, rfl, (fun _ h => h), (s4 _ _ he), T.e_NoHeap, T.i_NoHeap_NotKept, _, rfl, e, A.c_NoHeap, dd, _, _, _, rfl, (fun _ h => h), (s4 _ _ he), T.e_NoHeap, T.i_NoHeap_Unmatched, _, rfl, e, A.c_NoHeap, dd, _, _, _, rfl, (fun _ h => h), (s4 _ _ he), T.e_NoHeap, T.i_NoHeap_TooLong, by show 3 ≤ sizeLine; decide, fun m5 hm5 => ?_⟩
    refine ⟨l4, m5, _, _, rfl, rfl, Same.new hm5 _ _ g4, upd_same, by show 19 ≤ sizeLine; decide, fun l5 hl5 => ?_⟩
    obtain ⟨H5, hH5⟩ : ∃ H', H' = upd (upd H4 m5 (.lst [V.bl false, V.bl false, V.bl false])) l5 (.lst ([V.bl false, V.bl false, V.bl false, V.bl false, V.bl false, V.bl false, V.bl false, V.bl false, V.bl false, V.bl false, V.bl false, V.bl false, V.bl false, V.bl false, V.bl false, V.bl true] ++ [V.bl false, V.bl false, V.bl false])) := ⟨_, rfl⟩
    rw [← hH5]
    have s5 : Same H H5 := by rw [hH5]; exact s4.trans ((Same.new hm5).trans (Same.new hl5))
    have g5 : H5 l5 = some (.lst [V.bl false, V.bl false, V.bl false, V.bl false, V.bl false, V.bl false, V.bl false, V.bl false, V.bl false, V.bl false, V.bl false, V.bl false, V.bl false, V.bl false, V.bl false, V.bl true, V.bl false, V.bl false, V.bl false]) := by rw [hH5]; exact upd_same
    refine ⟨_, rfl, _, rfl, e, A.c_NoHeap, dd, _, _, _, rfl, (fun _ h => h), (s5 _ _ he), T.e_NoHeap, T.i_NoHeap_NoName, by show 1 ≤ sizeLine; decide, fun m6 hm6 => ?_⟩
    refine ⟨l5, m6, _, _, rfl, rfl, Same.new hm6 _ _ g5, upd_same, by show 20 ≤ sizeLine; decide, fun l6 hl6 => ?_⟩
    obtain ⟨H6, hH6⟩ : ∃ H', H' = upd (upd H5 m6 (.lst [V.bl false])) l6 (.lst ([V.bl false, V.bl false, V.bl false, V.bl false, V.bl false, V.bl false, V.bl false, V.bl false, V.bl false, V.bl false, V.bl false, V.bl false, V.bl false, V.bl false, V.bl false, V.bl true, V.bl false, V.bl false, V.bl false] ++ [V.bl false])) := ⟨_, rfl⟩
    rw [← hH6]
    have s6 : Same H H6 := by rw [hH6]; exact s5.trans ((Same.new hm6).trans (Same.new hl6))
    have g6 : H6 l6 = some (.lst [V.bl false, V.bl false, V.bl false, V.bl false, V.bl false, V.bl false, V.bl false, V.bl false, V.bl false, V.bl false, V.bl false, V.bl false, V.bl false, V.bl false, V.bl false, V.bl true, V.bl false, V.bl false, V.bl false, V.bl false]) := by rw [hH6]; exact upd_same
    refine ⟨_, rfl, .inl ⟨rfl, _, SqL.of g6⟩, l6, _, _, rfl, rfl, SqL.of g6, rfl, rfl, rfl, ⟨true, by first | rfl | decide, iteT ?_⟩⟩
    refine ⟨_, rfl, e, A.c_NoHeap, dd, _, _, _, rfl, (fun _ h => h), (s6 _ _ he), T.e_NoHeap, T.i_NoHeap_ShutError, ⟨true, rfl, iteT ?_⟩⟩
    exact ⟨_, rfl, e, A.c_NoHeap, dd, _, _, _, rfl, (fun _ h => h), (s6 _ _ he), T.e_NoHeap, T.i_NoHeap_ValueError, k _ s6⟩
def n__law_refused : List Str := ["_law_parts", "_law_first", "_law_e"]
theorem sc__law_refused : FnScope n__law_refused ["_law_parts", "_law_first"] (defScope s__law_refused) := ⟨rfl, rfl, rfl, by decide +kernel, rfl, by decide +kernel, by decide +kernel⟩
def sp_refused : Sp := fun vs H Q _ => ∃ (a : Addr) (ns : List Int) (z : Int), vs = [.ref a, .int z] ∧ (H a = some (.lst (ns.map V.int)) ∨ H a = some (.tup (ns.map V.int))) ∧ ns.length < 64 ∧ FirstBad ns z ∧ ∀ (H' : Hp), Same H H' → Q (.bl true) H'
theorem ok__law_refused (T : Txt K mg A) : FnOk P w K mg base CX0 5 A.a__law_refused A.fd__law_refused ["_law_parts", "_law_first"] sp_refused := by
  refine T.F__law_refused.ok sc__law_refused (fun vs H Q E h => ?_) (fun cdv Ar outer s H vs Q E hr h => ?_)
  · obtain ⟨a, ns, z, rfl, ha, hl, hz, k⟩ := h
    rfl
  · obtain ⟨a, ns, z, rfl, ha, hl, hz, k⟩ := h
    refine ⟨_, (pss_cons (ps_tryX (i := 2) rfl rfl (px_call (ok_heap_of T) (hr.mono (by decide)) rfl T.g_heap_of T.F_heap_of.kp T.b_heap_of .nil (pa_cons (pv 0) pa_nil)) rfl T.g_ShutError (fun _ => (pss_one (ps_ret (pe_and (pe_callB (call_isiXD (K := K)) rfl T.b_isinstance boot_isinstance (pa_cons (pv 2) (pa_cons (pe_glob (v := .ref A.c_NoHeap) rfl T.g_NoHeap rfl) pa_nil))) (pe_and (pe_call (ok__law_alone T) ((hr.mono (by decide)).inH _) rfl T.g__law_alone T.F__law_alone.kp T.b__law_alone .nil pass0 (pa_cons (pv 2) pa_nil)) (pe_and (pe_call (ok__law_whole T) ((hr.mono (by decide)).inH _) rfl T.g__law_whole T.F__law_whole.kp T.b__law_whole .nil pass0 (pa_cons (pe_fldX (K := K) rfl (pv 2) rfl) pa_nil)) (pe_one (pe_cmpR op_eq (pe_fldX (K := K) rfl (pv 2) rfl) (pv 1) (nomark _))))))))) sc__law_refused.nd rfl rfl)
        (pss_one (ps_ret pe_bl))), ?_⟩
    refine ⟨_, rfl, a, ns, rfl, ha, hl, .inr ⟨z, hz, fun dx H1 gdx s1 => ?_⟩⟩
    obtain ⟨h0, hk⟩ := T.kin
    refine ⟨_, rfl, Takes.mkI hk T.xi_NoHeap (T.x_ShutError.isX hk) T.t_NoHeap_ShutError, fun e hen => ?_⟩
    have sE := Same.new (o := .ext (IsExcD e (.ref A.c_NoHeap) (some dx))) hen
    have he := upd_same (H := H1) (a := e) (o := .ext (IsExcD e (.ref A.c_NoHeap) (some dx)))
    have gE := sE _ _ gdx
    generalize upd H1 e (.ext (IsExcD e (.ref A.c_NoHeap) (some dx))) = HE at sE he gE
    have hlk : List.lookup ("part" : Str) [(("part" : Str), V.int z)] = some (V.int z) := by simp [List.lookup]
    refine ⟨_, rfl, e, A.c_NoHeap, some dx, _, _, _, rfl, (fun _ h => h), he, T.e_NoHeap, T.i_NoHeap_NoHeap, true, rfl, iteT ?_⟩
    refine ⟨_, rfl, e, some dx, rfl, he, fun H2 s2 => ⟨true, rfl, iteT ?_⟩⟩
    refine ⟨_, rfl, e, A.c_NoHeap, dx, _, _, rfl, s2 _ _ he, s2 _ _ gE, T.cx_NoHeap, T.na_NoHeap_part, hlk, z, rfl, true, rfl, iteT ?_⟩
    refine ⟨_, rfl, e, A.c_NoHeap, dx, _, _, rfl, s2 _ _ he, s2 _ _ gE, T.cx_NoHeap, T.na_NoHeap_part, hlk, _, rfl, rfl, ?_⟩
    rw [decide_eq_true rfl]
    exact k H2 (s1.trans (sE.trans s2))
def n_law : List Str := ["_law_script", "_law_state", "_law_many", "_law_size", "_law_parts", "_law_k", "_law_bad", "_law_handed", "_law_due", "_law_found"]
theorem sc_law : FnScope n_law ["_law_script"] (defScope s_law) := ⟨rfl, rfl, rfl, by decide +kernel, rfl, by decide +kernel, by decide +kernel⟩
def sp_law (K : PySem.W.Frag) : Sp := fun vs H Q _ => ∃ (a : Addr) (ns : List Int), vs = [.ref a] ∧ SqL K H a (ns.map V.int) ∧ ns.length ≤ 63 ∧ ∀ H', Q (.bl true) H'
theorem fb_of : ∀ {ns : List Int} {z : Int} {r : List Int}, ns.filter (fun x => decide (x < 1)) = z :: r → FirstBad ns z
  | [], _, _, h => by cases h
  | x :: ns, z, r, h => by
    by_cases hx : x < 1
    · rw [List.filter_cons_of_pos (by simpa using hx)] at h
      cases h
      exact ⟨[], ns, rfl, hx, by simp⟩
    · rw [List.filter_cons_of_neg (by simpa using hx)] at h
      obtain ⟨l, r', e, hz, hl⟩ := fb_of h
      refine ⟨x :: l, r', by rw [e]; rfl, hz, fun y hy => ?_⟩
      rcases List.mem_cons.mp hy with rfl | hy
      · omega
      · exact hl y hy
theorem fb_none {ns : List Int} (h : ns.filter (fun x => decide (x < 1)) = []) : ∀ x ∈ ns, 1 ≤ x := fun x hx => by
  have := List.filter_eq_nil_iff.mp h x hx
  simp at this
  omega
theorem ok_law (T : Txt K mg A) : FnOk P w K mg base CX0 7 A.a_law A.fd_law ["_law_script"] (sp_law K) := by
  refine T.F_law.ok sc_law (fun vs H Q E h => ?_) (fun cdv Ar outer s H vs Q E hr h => ?_)
  · obtain ⟨a, ns, rfl, hS, hl, k⟩ := h
    rfl
  · obtain ⟨a, ns, rfl, hS, hl, k⟩ := h
    refine ⟨_, (pss_cons (ps_set (i := 1) sc_law.nd rfl (by first | exact Or.inl rfl | exact Or.inr rfl) (pe_call (ok__law_start T) (hr.mono (by decide)) rfl T.g__law_start T.F__law_start.kp T.b__law_start .nil pass0 (pa_cons (pv 0) pa_nil)))
        (pss_cons (ps_set (i := 2) sc_law.nd rfl (by first | exact Or.inl rfl | exact Or.inr rfl) (pe_ix ix_list (pe_lst (pa_cons pe_int (pa_cons pe_int (pa_cons pe_int (pa_cons pe_int (pa_cons pe_int (pa_cons pe_int pa_nil))))))) (pe_call (ok__law_draw T) (hr.mono (by decide)) rfl T.g__law_draw T.F__law_draw.kp T.b__law_draw .nil pass0 (pa_cons (pv 1 (hv := Or.inr (Or.inl rfl))) (pa_cons pe_int pa_nil))) (fun _ _ => rfl)))
        (pss_cons (ps_set (i := 3) sc_law.nd rfl (by first | exact Or.inl rfl | exact Or.inr rfl) (pe_ix ix_list (pe_lst (pa_cons pe_int (pa_cons pe_int (pa_cons pe_int (pa_cons (pe_op op_sub (pe_op op_pow pe_int pe_int) pe_int) pa_nil))))) (pe_call (ok__law_draw T) (hr.mono (by decide)) rfl T.g__law_draw T.F__law_draw.kp T.b__law_draw .nil pass0 (pa_cons (pv 1 (hv := Or.inr (Or.inl rfl))) (pa_cons pe_int pa_nil))) (fun _ _ => rfl)))
        (pss_cons (ps_comp (i := 4) (ls := ["_law_k"]) (fr := [("_law_state", 1), ("_law_size", 3)]) (cs_of (defScope s_law) n_law rfl rfl (by decide +kernel)) rfl (pi_range1 rfl T.b_range (pa_cons (pv 2) pa_nil)) (fun _ _ _ _ => pgc 0 (by decide +kernel) rfl rfl) (fun _ _ _ _ => pf_nil) (fun _ _ _ _ => (pe_op op_add pe_int (pe_call (ok__law_draw T) (hr.mono (by decide)) (glc (defScope s_law)) T.g__law_draw T.F__law_draw.kp T.b__law_draw .nil pass0 (pa_cons (pvc (defScope s_law) 1) (pa_cons (pvc (defScope s_law) 2) pa_nil))))) sc_law.nd rfl rfl rfl)
        (pss_cons (ps_if (PW.pt (pw_and (pt_cmpR op_gt (pv 2) pe_int (nomark _)) (pw_and1 (pt_cmpR op_eq (pe_call (ok__law_draw T) (hr.mono (by decide)) rfl T.g__law_draw T.F__law_draw.kp T.b__law_draw .nil pass0 (pa_cons (pv 1 (hv := Or.inr (Or.inl rfl))) (pa_cons pe_int pa_nil))) pe_int (nomark _)))))
          (pss_one (ps_for PassesOwn.never rfl (pi_range1 rfl T.b_range (pa_cons (pe_op op_add pe_int (pe_call (ok__law_draw T) (hr.mono (by decide)) rfl T.g__law_draw T.F__law_draw.kp T.b__law_draw .nil pass0 (pa_cons (pv 1 (hv := Or.inr (Or.inl rfl))) (pa_cons pe_int pa_nil)))) pa_nil)) (pg_name (i := 5) sc_law.nd rfl (by first | exact Or.inl rfl | exact Or.inr rfl))
          (pss_one (ps_asg (pe_op op_sub pe_int (pe_call (ok__law_draw T) (hr.mono (by decide)) rfl T.g__law_draw T.F__law_draw.kp T.b__law_draw .nil pass0 (pa_cons (pv 1 (hv := Or.inr (Or.inl rfl))) (pa_cons (pe_ix ix_list (pe_lst (pa_cons pe_int (pa_cons pe_int (pa_cons (pe_op op_pow pe_int pe_int) pa_nil)))) (pe_call (ok__law_draw T) (hr.mono (by decide)) rfl T.g__law_draw T.F__law_draw.kp T.b__law_draw .nil pass0 (pa_cons (pv 1 (hv := Or.inr (Or.inl rfl))) (pa_cons pe_int pa_nil))) (fun _ _ => rfl)) pa_nil)))) (pg_sub (pv 4) (pe_call (ok__law_draw T) (hr.mono (by decide)) rfl T.g__law_draw T.F__law_draw.kp T.b__law_draw .nil pass0 (pa_cons (pv 1 (hv := Or.inr (Or.inl rfl))) (pa_cons (pv 2) pa_nil))) set_list))))) pss_nil)
        (pss_cons (ps_comp (i := 6) (ls := ["_law_part"]) (fr := []) (cs_of (defScope s_law) n_law rfl rfl (by decide +kernel)) rfl (pi_list (pv 4)) (fun _ _ _ _ => pgc 0 (by decide +kernel) rfl rfl) (fun _ _ _ _ => pf_one (pt_cmpR op_lt (pvc (defScope s_law) 0) pe_int (nomark _))) (fun _ _ _ _ => (pvc (defScope s_law) 0)) sc_law.nd rfl rfl rfl)
        (pss_cons (ps_set (i := 7) sc_law.nd rfl (by first | exact Or.inl rfl | exact Or.inr rfl) (pe_callTy call_list_of rfl T.b_list boot_list (pa_cons (pv 4) pa_nil)))
        (pss_cons (ps_if (pt_truth (pv 6) (fun _ => rfl))
          (pss_one (ps_ret (pe_and (pe_call (ok__law_refused T) (hr.mono (by decide)) rfl T.g__law_refused T.F__law_refused.kp T.b__law_refused .nil pass0 (pa_cons (pv 7) (pa_cons (pe_ix ix_list (pv 6) pe_int (fun _ _ => rfl)) pa_nil))) (pe_and (pe_call (ok__law_refused T) (hr.mono (by decide)) rfl T.g__law_refused T.F__law_refused.kp T.b__law_refused .nil pass0 (pa_cons (pe_callTy call_tuple_of rfl T.b_tuple boot_tuple (pa_cons (pv 4) pa_nil)) (pa_cons (pe_ix ix_list (pv 6) pe_int (fun _ _ => rfl)) pa_nil))) (pe_one (pe_cmpR (op_eqL' eqk_int (huR hr)) (pv 7) (pv 4) (nomark _))))))) pss_nil)
        (pss_cons (ps_set (i := 8) sc_law.nd rfl (by first | exact Or.inl rfl | exact Or.inr rfl) (pe_callTy call_tuple_of rfl T.b_tuple boot_tuple (pa_cons (pe_sortR rfl T.b_sorted (pv 4)) pa_nil)))
        (pss_cons (ps_set (i := 9) sc_law.nd rfl (by first | exact Or.inl rfl | exact Or.inr rfl) (pe_call (ok_heap_of T) (hr.mono (by decide)) rfl T.g_heap_of T.F_heap_of.kp T.b_heap_of .nil pass01 (pa_cons (pv 7) pa_nil)))
        (pss_cons (ps_if (PW.pt (pw_or (pt_not (pt_truth (pe_call (ok__law_row T) (hr.mono (by decide)) rfl T.g__law_row T.F__law_row.kp T.b__law_row .nil pass0 (pa_cons (pv 9) pa_nil)) (fun _ => rfl))) (pw_or (pt_cmpR (op_neT' eqk_int (huR hr)) (pv 9) (pv 8) (nomark _)) (pw_or1 (pt_cmpR (op_neL' eqk_int (huR hr)) (pv 7) (pv 4) (nomark _))))))
          (pss_one (ps_ret pe_bl)) pss_nil)
        (pss_cons (ps_expr (pe_bm PySem.F.plainAttrs_list PySem.F.slot_list_append PySem.F.type_list_append mt_append (pv 7) (pa_cons pe_int pa_nil)))
        (pss_one (ps_ret (pe_and (pe_cmpR (op_eqT' eqk_int (huR hr)) (pv 9) (pv 8) (nomark _)) (pe_and (pe_cmpR (op_eqT' eqk_int (huR hr)) (pe_call (ok_heap_of T) (hr.mono (by decide)) rfl T.g_heap_of T.F_heap_of.kp T.b_heap_of .nil pass01 (pa_cons (pe_callTy call_tuple_of rfl T.b_tuple boot_tuple (pa_cons (pv 4) pa_nil)) pa_nil)) (pv 8) (nomark _)) (pe_one (pe_cmpR (op_eqT' eqk_int (huR hr)) (pe_call (ok_heap_of T) (hr.mono (by decide)) rfl T.g_heap_of T.F_heap_of.kp T.b_heap_of .nil pass01 (pa_cons (pv 8) pa_nil)) (pv 8) (nomark _))))))))))))))))))), ?_⟩
    refine ⟨_, rfl, a, ns, rfl, hS, hl, fun st ga ca H1 S1 n1 n2 n3 s1 => ?_⟩
    refine ⟨by show 6 ≤ sizeLine; decide, fun p1 hp1 => ?_⟩
    refine ⟨_, rfl, st, ga, ca, 0, 6, rfl, S1.same (Same.new hp1), by decide, by decide, by decide, fun r1 H2 r10 r11 S2 K2 => ?_⟩
    obtain ⟨many, hm, em⟩ := pick (ns := [0, 1, 2, 5, 9, 60]) r10 r11
    have hm' : 0 ≤ many ∧ many ≤ 60 := by
      simp only [List.mem_cons, List.not_mem_nil, or_false] at hm
      omega
    refine ⟨p1, _, r1, _, rfl, rfl, SqL.of (K2.at upd_same (S1.nin hp1)), em, ?_⟩
    refine ⟨_, _, rfl, rfl, ⟨by decide, by decide, by decide⟩, _, _, rfl, rfl, by show 4 ≤ sizeLine; decide, fun p2 hp2 => ?_⟩
    refine ⟨_, rfl, st, ga, ca, _, 4, rfl, S2.same (Same.new hp2), by decide, by decide, by decide, fun r2 H3 r20 r21 S3 K3 => ?_⟩
    obtain ⟨size, hs, es⟩ := pick (ns := [1, 3, 40, 10 ^ Int.toNat 60 - 1]) r20 r21
    have hs' : 0 < size ∧ size ≤ 10 ^ 60 := by
      simp only [List.mem_cons, List.not_mem_nil, or_false] at hs
      rcases hs with rfl | rfl | rfl | rfl <;> decide
    refine ⟨p2, _, r2, _, rfl, rfl, SqL.of (K3.at upd_same (S2.nin hp2)), es, ?_⟩
    refine ⟨_, rfl, _, rfl, by omega, by omega, comp_range (fun i ys σ' H' => (∃ v, σ' = [v, some (.ref st), some (.int size)]) ∧ ∃ ns : List Int, ys = ns.map V.int ∧ ns.length = i ∧ StAt H' st ga ca (14 + 7 * i)) ⟨⟨_, rfl⟩, [], rfl, rfl, S3⟩ ?_ ?_ ?_⟩
    · rintro i ys σ' H' hi ⟨_, ns, rfl, hl, _⟩
      rw [List.length_map, hl]
      exact small64 (by omega)
    · rintro i ys σ' H' hi ⟨⟨v, rfl⟩, ns, rfl, hl, S'⟩
      refine ⟨_, rfl, _, rfl, st, ga, ca, 14 + 7 * i, size, rfl, S', by omega, hs'.1, hs'.2, fun r H3 h0 h1 S3 K3 => ?_⟩
      exact ⟨_, _, rfl, rfl, ⟨_, rfl⟩, ns ++ [1 + r], by simp, by simp [hl], S3.mono (by omega)⟩
    rintro ys σ' H4 ⟨_, ns0, rfl, hl0, S4⟩ p3 hp3
    have np3 := S4.nin hp3
    have np33 := S4.nin3 hp3
    have S5 := S4.same (Same.new (o := .lst (ns0.map V.int)) hp3)
    have g5 := upd_same (H := H4) (a := p3) (o := .lst (ns0.map V.int))
    generalize upd H4 p3 (.lst (ns0.map V.int)) = H5 at S5 g5
    dsimp only [tNext, gName]
    refine seqJoin (fun σ' H' => ∃ (v5 : Option V) (ms : List Int), σ' = [some (.ref a), some (.ref st), some (.int many), some (.int size), some (.ref p3), v5, none, none, none, none] ∧ ms.length < 64 ∧ H' p3 = some (.lst (ms.map V.int)) ∧ StAt H' st ga ca 2000) (fun nx hnx => ?_) ?_
    · have l0 : ns0.length < 64 := by omega
      refine ⟨_, rfl, _, _, rfl, rfl, _, rfl, ite2 (fun hm0 => ?_) (fun _ => iteF (hnx _ _ ⟨_, ns0, rfl, l0, g5, S5.mono (by omega)⟩))⟩
      have hm1 : 0 < many := of_decide_eq_true hm0
      refine ⟨_, rfl, st, ga, ca, _, 2, rfl, S5, by omega, by decide, by decide, fun c H6 c0 c1 S6 K6 => ⟨rfl, _, rfl, ite2 (fun _ => ?_) (fun _ => hnx _ _ ⟨_, ns0, rfl, l0, K6.at g5 np3, S6.mono (by omega)⟩)⟩⟩
      refine ⟨_, rfl, st, ga, ca, _, 2, rfl, S6, by omega, by decide, by decide, fun r H7 r0 r1 S7 K7 => ?_⟩
      have g7 := K7.at (K6.at g5 np3) np3
      refine ⟨_, _, rfl, rfl, _, rfl, by omega, by omega, for_range (n := (1 + r).toNat) (fun i σ' H' => ∃ (v5 : Option V) (ms : List Int), σ' = [some (.ref a), some (.ref st), some (.int many), some (.int size), some (.ref p3), v5, none, none, none, none] ∧ (ms.length : Int) = many ∧ H' p3 = some (.lst (ms.map V.int)) ∧ StAt H' st ga ca (1000 + 21 * i)) ⟨_, ns0, rfl, by omega, g7, S7.mono (by omega)⟩ ?_ ?_⟩
      · rintro i σ' H' hi ⟨v5, ms, rfl, hms, g, S⟩
        refine ⟨_, rfl, _, _, rfl, rfl, ⟨by decide, by decide, by decide⟩, by show 3 ≤ sizeLine; decide, fun q hq => ?_⟩
        refine ⟨_, rfl, st, ga, ca, _, 3, rfl, S.same (Same.new hq), by omega, by decide, by decide, fun r3 Ha ra0 ra1 Sa Ka => ?_⟩
        obtain ⟨sz2, hz2, ez2⟩ := pick (ns := [1, 3, 10 ^ Int.toNat 50]) ra0 ra1
        have hz2' : 0 < sz2 ∧ sz2 ≤ 10 ^ 60 := by
          simp only [List.mem_cons, List.not_mem_nil, or_false] at hz2
          rcases hz2 with rfl | rfl | rfl <;> decide
        refine ⟨q, _, r3, _, rfl, rfl, SqL.of (Ka.at upd_same (S.nin hq)), ez2, ?_⟩
        refine ⟨st, ga, ca, _, sz2, rfl, Sa, by omega, hz2'.1, hz2'.2, fun w Hb w0 w1 Sb Kb => ?_⟩
        refine ⟨_, _, rfl, rfl, ?_⟩
        refine ⟨_, rfl, _, rfl, _, rfl, st, ga, ca, _, many, rfl, Sb, by omega, hm1, Int.le_trans hm'.2 (by decide), fun at_ Hc at0 at1 Sc Kc => ?_⟩
        obtain ⟨an, rfl⟩ : ∃ n : Nat, at_ = (n : Int) := ⟨at_.toNat, by omega⟩
        have gc : Hc p3 = some (.lst (ms.map V.int)) := Kc.at (Kb.at (Ka.at ((Same.new hq) _ _ g) np3) np3) np3
        have e0 : (fun i j => V.int (i - j)) 0 w = V.int (0 - w) := rfl
        refine ⟨p3, _, (an : Int), an, rfl, rfl, gc, ixN_nat (by rw [List.length_map]; omega), ?_⟩
        refine ⟨_, ms.set an (0 - w), rfl, by rw [List.length_set]; exact hms, ?_, (Sc.upd np33).mono (by omega)⟩
        rw [upd_same, List.map_set]
      · rintro σ' H' ⟨v5, ms, rfl, hms, g, S⟩
        exact hnx _ _ ⟨_, ms, rfl, by omega, g, S.mono (by omega)⟩
    rintro σ1 H6 ⟨v5, ms, rfl, hms, g6, S6⟩
    refine ⟨_, rfl, p3, rfl, ⟨_, SqL.of g6⟩, comp_list (xs := ms.map V.int) (fun i ys σ' H' => H' = H6 ∧ (∃ v, σ' = [v]) ∧ i ≤ ms.length ∧ ys = ((ms.take i).filter fun x => decide (x < 1)).map V.int) ⟨rfl, ⟨_, rfl⟩, Nat.zero_le _, rfl⟩ ?_ ?_ ?_⟩
    · rintro i ys σ' H' hi ⟨rfl, _, hi', rfl⟩
      refine ⟨SqL.of g6, ?_⟩
      rw [List.length_map]
      have h1 := List.length_filter_le (fun x => decide (x < 1)) (ms.take i)
      rw [List.length_take] at h1
      exact Nat.le_trans (show _ ≤ 64 by omega) (by decide)
    · rintro i x ys σ' H' hx ⟨rfl, ⟨v, rfl⟩, hi', rfl⟩
      obtain ⟨z, hz, rfl⟩ := map_at hx
      have hi := (List.getElem?_eq_some_iff.mp hz).1
      refine ⟨_, rfl, _, _, rfl, rfl, _, rfl, ite2 (fun hlt => ?_) (fun hge => ?_)⟩
      · refine ⟨_, rfl, rfl, ⟨_, rfl⟩, hi, ?_⟩
        rw [List.take_succ, hz, List.filter_append, List.map_append]
        simp [of_decide_eq_true hlt]
      · refine ⟨rfl, ⟨_, rfl⟩, hi, ?_⟩
        rw [List.take_succ, hz, List.filter_append, List.map_append]
        have : ¬ z < 1 := fun y => hge (decide_eq_true y)
        simp [this]
    rintro ys σ' H7 ⟨rfl, _, _, rfl⟩ pb hpb
    rw [List.length_map, List.take_length]
    have s7 := Same.new (o := .lst ((ms.filter fun x => decide (x < 1)).map V.int)) hpb
    have gb := upd_same (H := H7) (a := pb) (o := .lst ((ms.filter fun x => decide (x < 1)).map V.int))
    generalize upd H7 pb (.lst ((ms.filter fun x => decide (x < 1)).map V.int)) = H8 at s7 gb
    have g8 := s7 _ _ g6
    refine ⟨_, rfl, p3, _, rfl, .inl (SqL.of g8), fun ph hph => ?_⟩
    have s8 := Same.new (o := .lst (ms.map V.int)) hph
    have gh := upd_same (H := H8) (a := ph) (o := .lst (ms.map V.int))
    have nh : p3 ≠ ph := fun z => by rw [z, hph] at g8; cases g8
    generalize upd H8 ph (.lst (ms.map V.int)) = H9 at s8 gh
    have g9 := s8 _ _ g8
    have gb9 := s8 _ _ gb
    refine ⟨_, rfl, _, .inl ⟨_, SqL.of gb9, rfl⟩, ?_⟩
    have l9 : ms.length < 64 := hms
    cases hbad : ms.filter (fun x => decide (x < 1)) with
    | cons z rb =>
      rw [hbad] at gb9
      have fb := fb_of hbad
      refine iteT ?_
      refine ⟨_, rfl, _, rfl, pb, _, _, _, rfl, rfl, SqL.of gb9, atI_nat (j := 0) rfl, ph, ms, z, rfl, .inl gh, hms, fb, fun HA sA => ⟨true, rfl, iteT ?_⟩⟩
      refine ⟨_, rfl, p3, _, rfl, .inl ⟨SqL.of (sA _ _ g9), fun pt hpt => ?_⟩⟩
      have sT := Same.new (o := .tup (ms.map V.int)) hpt
      refine ⟨_, rfl, pb, _, _, _, rfl, rfl, SqL.of (sT _ _ (sA _ _ gb9)), atI_nat (j := 0) rfl, pt, ms, z, rfl, .inr upd_same, hms, fb, fun HB sB => ⟨true, rfl, iteT ?_⟩⟩
      have sAB := sA.trans (sT.trans sB)
      refine ⟨_, rfl, _, rfl, ms, ms, ⟨ph, _, rfl, SqL.of (sAB _ _ gh), all2_ints _⟩, ⟨p3, _, rfl, SqL.of (sAB _ _ g9), all2_ints _⟩, ?_⟩
      rw [decide_eq_true rfl]
      exact k _
    | nil =>
      have hp := fb_none hbad
      refine iteF ?_
      refine ⟨_, rfl, p3, ms, rfl, .inl (SqL.of g9), hms, fun ns' p4 hperm hord hp4 => ?_⟩
      have es := sortD_eq hperm hord
      subst es
      refine ⟨p4, _, rfl, .inl ⟨SqL.of upd_same, fun pd hpd => ?_⟩⟩
      have sA := (Same.new (o := .lst ((sortD ms).map V.int)) hp4).trans (Same.new (o := .tup ((sortD ms).map V.int)) hpd)
      have gd := upd_same (H := upd H9 p4 (.lst ((sortD ms).map V.int))) (a := pd) (o := .tup ((sortD ms).map V.int))
      generalize upd (upd H9 p4 (.lst ((sortD ms).map V.int))) pd (.tup ((sortD ms).map V.int)) = HA at sA gd
      refine ⟨_, rfl, ph, ms, rfl, .inl (sA _ _ gh), hms, .inl ⟨hp, fun pf HB gf sB => ?_⟩⟩
      have ls : (sortD ms).length < 64 := by rw [sortD_length]; exact hms
      refine ⟨_, rfl, pf, sortD ms, rfl, gf, by omega, fun HC sC => ⟨true, rfl, iteF ?_⟩⟩
      have sBC := sB.trans sC
      have gfC := sC _ _ gf
      have gdC := sBC _ _ gd
      have ghC := sBC _ _ (sA _ _ gh)
      have g3C := sBC _ _ (sA _ _ g9)
      refine ⟨_, rfl, _, rfl, sortD ms, sortD ms, ⟨pf, _, rfl, SqT.of gfC, all2_ints _⟩, ⟨pd, _, rfl, SqT.of gdC, all2_ints _⟩, _, rfl, iteNS rfl ?_⟩
      refine ⟨_, rfl, _, rfl, ms, ms, ⟨ph, _, rfl, SqL.of ghC, all2_ints _⟩, ⟨p3, _, rfl, SqL.of g3C, all2_ints _⟩, _, rfl, iteNS rfl ?_⟩
      refine ⟨_, rfl, .inl ⟨rfl, _, SqL.of ghC⟩, ph, _, _, rfl, rfl, ghC, by rw [List.length_map]; exact Nat.lt_of_lt_of_le hms (by decide), ?_⟩
      have gfD : upd HC ph (.lst (ms.map V.int ++ [V.int 7])) pf = some (.tup ((sortD ms).map V.int)) := by rw [upd_ne (fun z => by rw [z, ghC] at gfC; cases gfC)]; exact gfC
      have gdD : upd HC ph (.lst (ms.map V.int ++ [V.int 7])) pd = some (.tup ((sortD ms).map V.int)) := by rw [upd_ne (fun z => by rw [z, ghC] at gdC; cases gdC)]; exact gdC
      have g3D : upd HC ph (.lst (ms.map V.int ++ [V.int 7])) p3 = some (.lst (ms.map V.int)) := by rw [upd_ne nh]; exact g3C
      generalize upd HC ph (.lst (ms.map V.int ++ [V.int 7])) = HD at gfD gdD g3D
      refine ⟨_, rfl, _, rfl, sortD ms, sortD ms, ⟨pf, _, rfl, SqT.of gfD, all2_ints _⟩, ⟨pd, _, rfl, SqT.of gdD, all2_ints _⟩, true, by rw [decide_eq_true rfl], iteT ?_⟩
      refine ⟨_, rfl, p3, _, rfl, .inl ⟨SqL.of g3D, fun pt hpt => ?_⟩⟩
      have sT := Same.new (o := .tup (ms.map V.int)) hpt
      refine ⟨pt, ms, rfl, .inr upd_same, hms, .inl ⟨hp, fun p5 HE g5 sE => ?_⟩⟩
      have gdE := sE _ _ (sT _ _ gdD)
      refine ⟨_, rfl, sortD ms, sortD ms, ⟨p5, _, rfl, SqT.of g5, all2_ints _⟩, ⟨pd, _, rfl, SqT.of gdE, all2_ints _⟩, true, by rw [decide_eq_true rfl], iteT ?_⟩
      refine ⟨_, rfl, pd, sortD ms, rfl, .inr gdE, ls, .inl ⟨fun x hx => hp x (hperm.mem_iff.mp hx), fun p6 HF g6 sF => ?_⟩⟩
      rw [← sortD_eq (List.Perm.refl (sortD ms)) hord] at g6
      refine ⟨_, rfl, sortD ms, sortD ms, ⟨p6, _, rfl, SqT.of g6, all2_ints _⟩, ⟨pd, _, rfl, SqT.of (sF _ _ gdE), all2_ints _⟩, ?_⟩
      rw [decide_eq_true rfl]
      exact k _
end
theorem all_mk {l : PySem.W.OpenLaw} {w : World} {K : PySem.W.Frag} {h : Heap} {mg : Str → Option Value} {fa : Addr} (X : K.In h) (G : h.Ns mainGlobals mg) (hfa : mg "law" = some (.ref fa))
    {f0 : Addr} {od0 an0 : Option Addr} {sl0 : Array (Option Value)} {oc0 kV0 dc0 pm0 cd0 ct0 : Value}
    {f1 : Addr} {od1 an1 : Option Addr} {sl1 : Array (Option Value)} {oc1 kV1 dc1 pm1 cd1 ct1 : Value}
    {f2 : Addr} {od2 an2 : Option Addr} {sl2 : Array (Option Value)} {oc2 kV2 dc2 pm2 cd2 ct2 : Value}
    {f3 : Addr} {od3 an3 : Option Addr} {sl3 : Array (Option Value)} {oc3 kV3 dc3 pm3 cd3 ct3 : Value}
    {f4 : Addr} {od4 an4 : Option Addr} {sl4 : Array (Option Value)} {oc4 kV4 dc4 pm4 cd4 ct4 : Value}
    {f5 : Addr} {od5 an5 : Option Addr} {sl5 : Array (Option Value)} {oc5 kV5 dc5 pm5 cd5 ct5 : Value}
    {f6 : Addr} {od6 an6 : Option Addr} {sl6 : Array (Option Value)} {oc6 kV6 dc6 pm6 cd6 ct6 : Value}
    {f7 : Addr} {od7 an7 : Option Addr} {sl7 : Array (Option Value)} {oc7 kV7 dc7 pm7 cd7 ct7 : Value}
    {f8 : Addr} {od8 an8 : Option Addr} {sl8 : Array (Option Value)} {oc8 kV8 dc8 pm8 cd8 ct8 : Value}
    {f9 : Addr} {od9 an9 : Option Addr} {sl9 : Array (Option Value)} {oc9 kV9 dc9 pm9 cd9 ct9 : Value}
    {q_ShutError : Addr}
    {q_NoHeap : Addr}
    {q_NotIn : Addr}
    {q_NoText : Addr}
    {q_NoRule : Addr}
    {q_NoSum : Addr}
    {q_NotKept : Addr}
    {q_NoPlace : Addr}
    {q_NoPair : Addr}
    {q_NotSoMany : Addr}
    {q_Unmatched : Addr}
    {q_NotPaired : Addr}
    {q_TooLong : Addr}
    {q_NotStrict : Addr}
    {q_LeftOver : Addr}
    {q_NoBottom : Addr}
    {q_NoLanes : Addr}
    {q_TooGreat : Addr}
    {q_NoLine : Addr}
    {q_NoName : Addr}
    {q_NothingLeft : Addr}
    (a1 : PySem.W.nsIn K mainGlobals "heap_of" = some (some (.ref f1))) (l1 : K.lookup f1 = some ⟨oc1, od1, .func (PySem.W.fnOf "heap_of" "heap_of" (defArgs s_heap_of) (defBody s_heap_of) (defScope s_heap_of) .none kV1 dc1 pm1 an1 cd1 ct1), sl1⟩) (c1 : PySem.W.codeIn K cd1 "heap_of" = true) (k1 : PySem.W.keepIn K (.ref f1) = true)
    (a2 : PySem.W.nsIn K mainGlobals "_law_start" = some (some (.ref f2))) (l2 : K.lookup f2 = some ⟨oc2, od2, .func (PySem.W.fnOf "_law_start" "_law_start" (defArgs s__law_start) (defBody s__law_start) (defScope s__law_start) .none kV2 dc2 pm2 an2 cd2 ct2), sl2⟩) (c2 : PySem.W.codeIn K cd2 "_law_start" = true) (k2 : PySem.W.keepIn K (.ref f2) = true)
    (a3 : PySem.W.nsIn K mainGlobals "_law_mix" = some (some (.ref f3))) (l3 : K.lookup f3 = some ⟨oc3, od3, .func (PySem.W.fnOf "_law_mix" "_law_mix" (defArgs s__law_mix) (defBody s__law_mix) (defScope s__law_mix) .none kV3 dc3 pm3 an3 cd3 ct3), sl3⟩) (c3 : PySem.W.codeIn K cd3 "_law_mix" = true) (k3 : PySem.W.keepIn K (.ref f3) = true)
    (a4 : PySem.W.nsIn K mainGlobals "_law_draw" = some (some (.ref f4))) (l4 : K.lookup f4 = some ⟨oc4, od4, .func (PySem.W.fnOf "_law_draw" "_law_draw" (defArgs s__law_draw) (defBody s__law_draw) (defScope s__law_draw) .none kV4 dc4 pm4 an4 cd4 ct4), sl4⟩) (c4 : PySem.W.codeIn K cd4 "_law_draw" = true) (k4 : PySem.W.keepIn K (.ref f4) = true)
    (a5 : PySem.W.nsIn K mainGlobals "_law_whole" = some (some (.ref f5))) (l5 : K.lookup f5 = some ⟨oc5, od5, .func (PySem.W.fnOf "_law_whole" "_law_whole" (defArgs s__law_whole) (defBody s__law_whole) (defScope s__law_whole) .none kV5 dc5 pm5 an5 cd5 ct5), sl5⟩) (c5 : PySem.W.codeIn K cd5 "_law_whole" = true) (k5 : PySem.W.keepIn K (.ref f5) = true)
    (a6 : PySem.W.nsIn K mainGlobals "_law_row" = some (some (.ref f6))) (l6 : K.lookup f6 = some ⟨oc6, od6, .func (PySem.W.fnOf "_law_row" "_law_row" (defArgs s__law_row) (defBody s__law_row) (defScope s__law_row) .none kV6 dc6 pm6 an6 cd6 ct6), sl6⟩) (c6 : PySem.W.codeIn K cd6 "_law_row" = true) (k6 : PySem.W.keepIn K (.ref f6) = true)
    (a7 : PySem.W.nsIn K mainGlobals "_law_alone" = some (some (.ref f7))) (l7 : K.lookup f7 = some ⟨oc7, od7, .func (PySem.W.fnOf "_law_alone" "_law_alone" (defArgs s__law_alone) (defBody s__law_alone) (defScope s__law_alone) .none kV7 dc7 pm7 an7 cd7 ct7), sl7⟩) (c7 : PySem.W.codeIn K cd7 "_law_alone" = true) (k7 : PySem.W.keepIn K (.ref f7) = true)
    (a8 : PySem.W.nsIn K mainGlobals "_law_refused" = some (some (.ref f8))) (l8 : K.lookup f8 = some ⟨oc8, od8, .func (PySem.W.fnOf "_law_refused" "_law_refused" (defArgs s__law_refused) (defBody s__law_refused) (defScope s__law_refused) .none kV8 dc8 pm8 an8 cd8 ct8), sl8⟩) (c8 : PySem.W.codeIn K cd8 "_law_refused" = true) (k8 : PySem.W.keepIn K (.ref f8) = true)
    (a9 : PySem.W.nsIn K mainGlobals "law" = some (some (.ref f9))) (l9 : K.lookup f9 = some ⟨oc9, od9, .func (PySem.W.fnOf "law" "law" (defArgs s_law) (defBody s_law) (defScope s_law) .none kV9 dc9 pm9 an9 cd9 ct9), sl9⟩) (c9 : PySem.W.codeIn K cd9 "law" = true) (k9 : PySem.W.keepIn K (.ref f9) = true)
    (z_ValueError : PySem.W.nsIn K mainGlobals "ValueError" = some none)
    (z_all : PySem.W.nsIn K mainGlobals "all" = some none)
    (z_bool : PySem.W.nsIn K mainGlobals "bool" = some none)
    (z_int : PySem.W.nsIn K mainGlobals "int" = some none)
    (z_isinstance : PySem.W.nsIn K mainGlobals "isinstance" = some none)
    (z_len : PySem.W.nsIn K mainGlobals "len" = some none)
    (z_list : PySem.W.nsIn K mainGlobals "list" = some none)
    (z_range : PySem.W.nsIn K mainGlobals "range" = some none)
    (z_sorted : PySem.W.nsIn K mainGlobals "sorted" = some none)
    (z_tuple : PySem.W.nsIn K mainGlobals "tuple" = some none)
    (m_ShutError : PySem.W.nsIn K mainGlobals "ShutError" = some (some (.ref q_ShutError)))
    (m_NoHeap : PySem.W.nsIn K mainGlobals "NoHeap" = some (some (.ref q_NoHeap)))
    (m_NotIn : PySem.W.nsIn K mainGlobals "NotIn" = some (some (.ref q_NotIn)))
    (m_NoText : PySem.W.nsIn K mainGlobals "NoText" = some (some (.ref q_NoText)))
    (m_NoRule : PySem.W.nsIn K mainGlobals "NoRule" = some (some (.ref q_NoRule)))
    (m_NoSum : PySem.W.nsIn K mainGlobals "NoSum" = some (some (.ref q_NoSum)))
    (m_NotKept : PySem.W.nsIn K mainGlobals "NotKept" = some (some (.ref q_NotKept)))
    (m_NoPlace : PySem.W.nsIn K mainGlobals "NoPlace" = some (some (.ref q_NoPlace)))
    (m_NoPair : PySem.W.nsIn K mainGlobals "NoPair" = some (some (.ref q_NoPair)))
    (m_NotSoMany : PySem.W.nsIn K mainGlobals "NotSoMany" = some (some (.ref q_NotSoMany)))
    (m_Unmatched : PySem.W.nsIn K mainGlobals "Unmatched" = some (some (.ref q_Unmatched)))
    (m_NotPaired : PySem.W.nsIn K mainGlobals "NotPaired" = some (some (.ref q_NotPaired)))
    (m_TooLong : PySem.W.nsIn K mainGlobals "TooLong" = some (some (.ref q_TooLong)))
    (m_NotStrict : PySem.W.nsIn K mainGlobals "NotStrict" = some (some (.ref q_NotStrict)))
    (m_LeftOver : PySem.W.nsIn K mainGlobals "LeftOver" = some (some (.ref q_LeftOver)))
    (m_NoBottom : PySem.W.nsIn K mainGlobals "NoBottom" = some (some (.ref q_NoBottom)))
    (m_NoLanes : PySem.W.nsIn K mainGlobals "NoLanes" = some (some (.ref q_NoLanes)))
    (m_TooGreat : PySem.W.nsIn K mainGlobals "TooGreat" = some (some (.ref q_TooGreat)))
    (m_NoLine : PySem.W.nsIn K mainGlobals "NoLine" = some (some (.ref q_NoLine)))
    (m_NoName : PySem.W.nsIn K mainGlobals "NoName" = some (some (.ref q_NoName)))
    (m_NothingLeft : PySem.W.nsIn K mainGlobals "NothingLeft" = some (some (.ref q_NothingLeft)))
    (x_ShutError : PySem.W.excIn K q_ShutError bmV "ValueError.__new__" = true) (y_ShutError : PySem.W.keepIn K (.ref q_ShutError) = true)
    (e1_NoHeap : PySem.W.findIn K (.ref q_NoHeap) "__getattribute__" = some (some (.builtin "BaseException.__getattribute__"))) (e2_NoHeap : PySem.W.findIn K (.ref q_NoHeap) "__getattr__" = some none) (e3_NoHeap : PySem.W.findIn K (.ref q_NoHeap) "__class__" = some (some (.builtin "object.__class__"))) (e4_NoHeap : PySem.W.specialIn K (.builtin "object.__class__") "__get__" = some (some (.builtin "getset_descriptor.__get__"))) (e5_NoHeap : PySem.W.takesIn K (.builtin "object.__class__") = some true) (e6_NoHeap : PySem.W.mroIn K q_NoHeap (.type "object") = some true) (e7_NoHeap : PySem.W.mroIn K q_NoHeap (.type "BaseException") = some true)
    (t_NoHeap_ShutError : PySem.W.mroIn K q_NoHeap (.ref q_ShutError) = some true)
    (i_NoHeap_LeftOver : PySem.W.kitOne K (.ref q_NoHeap) (.ref q_LeftOver) = some false)
    (i_NoHeap_NoBottom : PySem.W.kitOne K (.ref q_NoHeap) (.ref q_NoBottom) = some false)
    (i_NoHeap_NoHeap : PySem.W.kitOne K (.ref q_NoHeap) (.ref q_NoHeap) = some true)
    (i_NoHeap_NoLanes : PySem.W.kitOne K (.ref q_NoHeap) (.ref q_NoLanes) = some false)
    (i_NoHeap_NoLine : PySem.W.kitOne K (.ref q_NoHeap) (.ref q_NoLine) = some false)
    (i_NoHeap_NoName : PySem.W.kitOne K (.ref q_NoHeap) (.ref q_NoName) = some false)
    (i_NoHeap_NoPair : PySem.W.kitOne K (.ref q_NoHeap) (.ref q_NoPair) = some false)
    (i_NoHeap_NoPlace : PySem.W.kitOne K (.ref q_NoHeap) (.ref q_NoPlace) = some false)
    (i_NoHeap_NoRule : PySem.W.kitOne K (.ref q_NoHeap) (.ref q_NoRule) = some false)
    (i_NoHeap_NoSum : PySem.W.kitOne K (.ref q_NoHeap) (.ref q_NoSum) = some false)
    (i_NoHeap_NoText : PySem.W.kitOne K (.ref q_NoHeap) (.ref q_NoText) = some false)
    (i_NoHeap_NotIn : PySem.W.kitOne K (.ref q_NoHeap) (.ref q_NotIn) = some false)
    (i_NoHeap_NotKept : PySem.W.kitOne K (.ref q_NoHeap) (.ref q_NotKept) = some false)
    (i_NoHeap_NotPaired : PySem.W.kitOne K (.ref q_NoHeap) (.ref q_NotPaired) = some false)
    (i_NoHeap_NotSoMany : PySem.W.kitOne K (.ref q_NoHeap) (.ref q_NotSoMany) = some false)
    (i_NoHeap_NotStrict : PySem.W.kitOne K (.ref q_NoHeap) (.ref q_NotStrict) = some false)
    (i_NoHeap_NothingLeft : PySem.W.kitOne K (.ref q_NoHeap) (.ref q_NothingLeft) = some false)
    (i_NoHeap_ShutError : PySem.W.kitOne K (.ref q_NoHeap) (.ref q_ShutError) = some true)
    (i_NoHeap_TooGreat : PySem.W.kitOne K (.ref q_NoHeap) (.ref q_TooGreat) = some false)
    (i_NoHeap_TooLong : PySem.W.kitOne K (.ref q_NoHeap) (.ref q_TooLong) = some false)
    (i_NoHeap_Unmatched : PySem.W.kitOne K (.ref q_NoHeap) (.ref q_Unmatched) = some false)
    (i_NoHeap_ValueError : PySem.W.kitOne K (.ref q_NoHeap) (.type "ValueError") = some true)
    (a0 : PySem.W.findIn K (.ref q_NoHeap) "__init__" = some (some (.ref f0))) (i0 : PySem.W.isFn K (.ref f0) = true) (l0 : K.lookup f0 = some ⟨oc0, od0, .func (PySem.W.fnOf "__init__" "NoHeap.__init__" (defArgs s_NoHeap___init__) (defBody s_NoHeap___init__) (defScope s_NoHeap___init__) .none kV0 dc0 pm0 an0 cd0 ct0), sl0⟩) (c0 : PySem.W.codeIn K cd0 "NoHeap.__init__" = true) (k0 : PySem.W.keepIn K (.ref f0) = true)
    (xi_NoHeap : excInI K q_NoHeap f0 = true) (y_NoHeap : PySem.W.keepIn K (.ref q_NoHeap) = true) (hd_NoHeap : PySem.W.hasDictIn K q_NoHeap = true) (po_NoHeap : overX K q_NoHeap = true) (sa_NoHeap : PySem.W.findIn K (.ref q_NoHeap) "__setattr__" = some (some (.builtin "object.__setattr__")))
    (na_NoHeap_part : PySem.W.findIn K (.ref q_NoHeap) "part" = some none) :
    ∃ fd : FuncData, (∀ (s : Shared) (v : Value), BindsTo s fd ⟨[v], []⟩ [("_law_script", v)]) ∧ ∀ base : Heap, K.In base → base.Ns mainGlobals mg → FnOk l.prog w K mg base CX0 7 fa fd ["_law_script"] (sp_law K) := by
  have e := hfa.symm.trans (PySem.W.mg_of X G a9)
  cases e
  have T : Txt K mg ⟨f0, PySem.W.fnOf "__init__" "NoHeap.__init__" (defArgs s_NoHeap___init__) (defBody s_NoHeap___init__) (defScope s_NoHeap___init__) .none kV0 dc0 pm0 an0 cd0 ct0, f1, PySem.W.fnOf "heap_of" "heap_of" (defArgs s_heap_of) (defBody s_heap_of) (defScope s_heap_of) .none kV1 dc1 pm1 an1 cd1 ct1, f2, PySem.W.fnOf "_law_start" "_law_start" (defArgs s__law_start) (defBody s__law_start) (defScope s__law_start) .none kV2 dc2 pm2 an2 cd2 ct2, f3, PySem.W.fnOf "_law_mix" "_law_mix" (defArgs s__law_mix) (defBody s__law_mix) (defScope s__law_mix) .none kV3 dc3 pm3 an3 cd3 ct3, f4, PySem.W.fnOf "_law_draw" "_law_draw" (defArgs s__law_draw) (defBody s__law_draw) (defScope s__law_draw) .none kV4 dc4 pm4 an4 cd4 ct4, f5, PySem.W.fnOf "_law_whole" "_law_whole" (defArgs s__law_whole) (defBody s__law_whole) (defScope s__law_whole) .none kV5 dc5 pm5 an5 cd5 ct5, f6, PySem.W.fnOf "_law_row" "_law_row" (defArgs s__law_row) (defBody s__law_row) (defScope s__law_row) .none kV6 dc6 pm6 an6 cd6 ct6, f7, PySem.W.fnOf "_law_alone" "_law_alone" (defArgs s__law_alone) (defBody s__law_alone) (defScope s__law_alone) .none kV7 dc7 pm7 an7 cd7 ct7, f8, PySem.W.fnOf "_law_refused" "_law_refused" (defArgs s__law_refused) (defBody s__law_refused) (defScope s__law_refused) .none kV8 dc8 pm8 an8 cd8 ct8, fa, PySem.W.fnOf "law" "law" (defArgs s_law) (defBody s_law) (defScope s_law) .none kV9 dc9 pm9 an9 cd9 ct9, q_ShutError, q_NoHeap, q_NotIn, q_NoText, q_NoRule, q_NoSum, q_NotKept, q_NoPlace, q_NoPair, q_NotSoMany, q_Unmatched, q_NotPaired, q_TooLong, q_NotStrict, q_LeftOver, q_NoBottom, q_NoLanes, q_TooGreat, q_NoLine, q_NoName, q_NothingLeft⟩ := ⟨fun_mk (st := s_NoHeap___init__) l0 c0 k0,
    (fun_mk (st := s_NoHeap___init__) l0 c0 k0).binds (fun _ _ _ _ _ _ us hl => match us, hl with | [_, _], _ => rfl),
    fun_mk (st := s_heap_of) l1 c1 k1,
    (fun_mk (st := s_heap_of) l1 c1 k1).binds (fun _ _ _ _ _ _ us hl => match us, hl with | [_], _ => rfl),
    PySem.W.mg_of X G a1,
    fun_mk (st := s__law_start) l2 c2 k2,
    (fun_mk (st := s__law_start) l2 c2 k2).binds (fun _ _ _ _ _ _ us hl => match us, hl with | [_], _ => rfl),
    PySem.W.mg_of X G a2,
    fun_mk (st := s__law_mix) l3 c3 k3,
    (fun_mk (st := s__law_mix) l3 c3 k3).binds (fun _ _ _ _ _ _ us hl => match us, hl with | [_], _ => rfl),
    PySem.W.mg_of X G a3,
    fun_mk (st := s__law_draw) l4 c4 k4,
    (fun_mk (st := s__law_draw) l4 c4 k4).binds (fun _ _ _ _ _ _ us hl => match us, hl with | [_, _], _ => rfl),
    PySem.W.mg_of X G a4,
    fun_mk (st := s__law_whole) l5 c5 k5,
    (fun_mk (st := s__law_whole) l5 c5 k5).binds (fun _ _ _ _ _ _ us hl => match us, hl with | [_], _ => rfl),
    PySem.W.mg_of X G a5,
    fun_mk (st := s__law_row) l6 c6 k6,
    (fun_mk (st := s__law_row) l6 c6 k6).binds (fun _ _ _ _ _ _ us hl => match us, hl with | [_], _ => rfl),
    PySem.W.mg_of X G a6,
    fun_mk (st := s__law_alone) l7 c7 k7,
    (fun_mk (st := s__law_alone) l7 c7 k7).binds (fun _ _ _ _ _ _ us hl => match us, hl with | [_], _ => rfl),
    PySem.W.mg_of X G a7,
    fun_mk (st := s__law_refused) l8 c8 k8,
    (fun_mk (st := s__law_refused) l8 c8 k8).binds (fun _ _ _ _ _ _ us hl => match us, hl with | [_, _], _ => rfl),
    PySem.W.mg_of X G a8,
    fun_mk (st := s_law) l9 c9 k9,
    (fun_mk (st := s_law) l9 c9 k9).binds (fun _ _ _ _ _ _ us hl => match us, hl with | [_], _ => rfl),
    PySem.W.mg_of X G a9,
    PySem.W.mg_none_of X G z_ValueError,
    PySem.W.mg_none_of X G z_all,
    PySem.W.mg_none_of X G z_bool,
    PySem.W.mg_none_of X G z_int,
    PySem.W.mg_none_of X G z_isinstance,
    PySem.W.mg_none_of X G z_len,
    PySem.W.mg_none_of X G z_list,
    PySem.W.mg_none_of X G z_range,
    PySem.W.mg_none_of X G z_sorted,
    PySem.W.mg_none_of X G z_tuple,
    ⟨h, X⟩,
    PySem.W.mg_of X G m_ShutError,
    PySem.W.mg_of X G m_NoHeap,
    PySem.W.mg_of X G m_NotIn,
    PySem.W.mg_of X G m_NoText,
    PySem.W.mg_of X G m_NoRule,
    PySem.W.mg_of X G m_NoSum,
    PySem.W.mg_of X G m_NotKept,
    PySem.W.mg_of X G m_NoPlace,
    PySem.W.mg_of X G m_NoPair,
    PySem.W.mg_of X G m_NotSoMany,
    PySem.W.mg_of X G m_Unmatched,
    PySem.W.mg_of X G m_NotPaired,
    PySem.W.mg_of X G m_TooLong,
    PySem.W.mg_of X G m_NotStrict,
    PySem.W.mg_of X G m_LeftOver,
    PySem.W.mg_of X G m_NoBottom,
    PySem.W.mg_of X G m_NoLanes,
    PySem.W.mg_of X G m_TooGreat,
    PySem.W.mg_of X G m_NoLine,
    PySem.W.mg_of X G m_NoName,
    PySem.W.mg_of X G m_NothingLeft,
    ⟨x_ShutError, y_ShutError⟩,
    ⟨e1_NoHeap, e2_NoHeap, e3_NoHeap, e4_NoHeap, e5_NoHeap, e6_NoHeap, e7_NoHeap⟩,
    t_NoHeap_ShutError,
    i_NoHeap_LeftOver,
    i_NoHeap_NoBottom,
    i_NoHeap_NoHeap,
    i_NoHeap_NoLanes,
    i_NoHeap_NoLine,
    i_NoHeap_NoName,
    i_NoHeap_NoPair,
    i_NoHeap_NoPlace,
    i_NoHeap_NoRule,
    i_NoHeap_NoSum,
    i_NoHeap_NoText,
    i_NoHeap_NotIn,
    i_NoHeap_NotKept,
    i_NoHeap_NotPaired,
    i_NoHeap_NotSoMany,
    i_NoHeap_NotStrict,
    i_NoHeap_NothingLeft,
    i_NoHeap_ShutError,
    i_NoHeap_TooGreat,
    i_NoHeap_TooLong,
    i_NoHeap_Unmatched,
    i_NoHeap_ValueError,
    ⟨xi_NoHeap, y_NoHeap, i0⟩,
    ⟨e1_NoHeap, e2_NoHeap, e7_NoHeap, hd_NoHeap, e6_NoHeap, po_NoHeap, sa_NoHeap⟩,
    na_NoHeap_part⟩
  exact ⟨PySem.W.fnOf "law" "law" (defArgs s_law) (defBody s_law) (defScope s_law) .none kV9 dc9 pm9 an9 cd9 ct9, fun s v => .of_eq rfl, fun base _ _ => ok_law T⟩
theorem walk {l : PySem.W.OpenLaw} {q : Program} {loose : List Str} {XP : (Str → Option Value) → Heap → Prop} {YP : World → Heap → Prop} {d : DefRec} {K : Params → PySem.W.Frag} (hn : l.most = some 63) (hdf : d.params.defaults = [])
    (hY : ∀ (w : World) (h : Heap), YP w h → (K w.params).In h)
    (F : ∀ (w : World) (mg : Str → Option Value) (fa : Addr) (h : Heap), (K w.params).In h → h.Ns mainGlobals mg → mg d.name = some (.ref fa) →
      ∃ fd : FuncData, (∀ (s : Shared) (u : Value), BindsTo s fd ⟨[u], []⟩ [("_law_script", u)]) ∧ ∀ base : Heap, (K w.params).In base → base.Ns mainGlobals mg → FnOk l.prog w (K w.params) mg base CX0 7 fa fd ["_law_script"] (sp_law (K w.params))) :
    PySem.W.WalkO q loose XP YP l.row.toRowW d [] (fun f vs => PySem.call f vs) :=
  L2.walk_of (n := 63) (k := 7) (x := "_law_script") (CX := fun _ => CX0) (sp := fun w => sp_law (K w.params)) hn (by decide) hdf ⟨fun _ => rfl, by decide, by decide⟩ hY F (fun _ _ a ns hl _ hS => ⟨a, ns, rfl, hS, hl, fun _ => rfl⟩) fun _ _ _ _ _ z => z
end My
namespace PySem.W.Fast
def tw8140205710049383290 : Nat := 0
def tw5353241515618273101 : Nat := 0
def tw3069756466530315398 : Nat := 0
def tw5972292658384684584 : Nat := 0
def tw7727419245970776241 : Nat := 0
def tw4208255987844985655 : Nat := 0
def tw696153273375622706 : Nat := 0
def tw17616484008582966498 : Nat := 0
def tw1971188299535181764 : Nat := 0
def tw3392393299117538597 : Nat := 0
def tw10492736920702246345 : Nat := 0
def tw3180053545723877318 : Nat := 0
def tw9582023881532469421 : Nat := 0
def tw16120879920704879134 : Nat := 0
def tw14395242207543694061 : Nat := 0
def tw7818218948466194033 : Nat := 0
def tw13997006100847267718 : Nat := 0
def tw3350122354244332028 : Nat := 0
def tw5326714520333657651 : Nat := 0
def tw8402193797542987197 : Nat := 0
def tw8558183739930282058 : Nat := 0
def tw13394764933972026109 : Nat := 0
def tw4327497526028604170 : Nat := 0
def tw7267886786377009667 : Nat := 0
def tw10345864711328568913 : Nat := 0
def tw1605012689612363322 : Nat := 0
def tw8084233658357147064 : Nat := 0
def tw3199271664022024430 : Nat := 0
def tw8270197861715670282 : Nat := 0
def tw10926643716088313520 : Nat := 0
def tw12831827851731207033 : Nat := 0
def tw15556525523873321763 : Nat := 0
def tw2828442919043531217 : Nat := 0
def tw767082536832108863 : Nat := 0
def tw5274461725974880488 : Nat := 0
def tw915527790571250146 : Nat := 0
def tw6360319838779825112 : Nat := 0
def tw5251402379268535569 : Nat := 0
def tw15232234818404524434 : Nat := 0
def tw9788341453480571374 : Nat := 0
def tw14823360106692627095 : Nat := 0
def tw13931375700171609567 : Nat := 0
def tw11462383579008238051 : Nat := 0
def tw17194480799606838273 : Nat := 0
def tw17838659759265342294 : Nat := 0
def tw1646137082020128849 : Nat := 0
def tw2989220226669014713 : Nat := 0
def tw11391525158532893413 : Nat := 0
def tw10491661797896980512 : Nat := 0
def tw7919727761310418125 : Nat := 0
def tw9582683552782337997 : Nat := 0
def tw6907682395738228511 : Nat := 0
def tw18016131995528761283 : Nat := 0
def tw10169886457001294319 : Nat := 0
def tw16381725639616475049 : Nat := 0
def tw4661681305851010622 : Nat := 0
def tw11149436003595917925 : Nat := 0
def tw9989337504715708732 : Nat := 0
def tw5295207701638224317 : Nat := 0
def tw774410373278900002 : Nat := 0
def tw8811741136051494987 : Nat := 0
def tw14209969374719821179 : Nat := 0
def tw5895635162496690764 : Nat := 0
def tw2965339660870496165 : Nat := 0
def tw3383319719485640239 : Nat := 0
def tw3328084576219510456 : Nat := 0
def tw18051733660983148944 : Nat := 0
def tw581623477828398045 : Nat := 0
def tw10100807386542370807 : Nat := 0
def tw1909976781914561959 : Nat := 0
def tw15463353084938189183 : Nat := 0
def tw9740064290994362587 : Nat := 0
def tw6621606286174153534 : Nat := 0
def tw6873972365058349149 : Nat := 0
def tw6059594322930139074 : Nat := 0
def tw13128764821400468372 : Nat := 0
def tw15963330591799512429 : Nat := 0
def tw10286238789717576877 : Nat := 0
def tw12090867924752482446 : Nat := 0
def tw3612796293907474893 : Nat := 0
def tw13459479019201202819 : Nat := 0
def tw11609304737324953924 : Nat := 0
def tw8081497933380875224 : Nat := 0
def tw2006560025117858517 : Nat := 0
def tw8932911583838403622 : Nat := 0
def tw14504122779641082311 : Nat := 0
def tw12622653056279726726 : Nat := 0
def tw13266067465261366115 : Nat := 0
def tw8188610860566301533 : Nat := 0
def tw1427126375511579546 : Nat := 0
def tw6753232781962391292 : Nat := 0
def tw4874252380001121272 : Nat := 0
def tw4675293626999910212 : Nat := 0
def tw3633592147905474649 : Nat := 0
def tw16823605430083228891 : Nat := 0
def tw13920131416809022086 : Nat := 0
def tw9738578677344367075 : Nat := 0
def tw3953292583040433698 : Nat := 0
def tw12730783796962801113 : Nat := 0
def tw14360942908117402740 : Nat := 0
def tw2219913181005460939 : Nat := 0
def tw1983767771105678889 : Nat := 0
def tw5515299307432807198 : Nat := 0
def tw594413900153354333 : Nat := 0
def tw14095473998996463773 : Nat := 0
def tw15563991745354741908 : Nat := 0
def tw10012030621334241473 : Nat := 0
def tw9244956835779090912 : Nat := 0
def tw15121971411181820044 : Nat := 0
def tw4398042014206284710 : Nat := 0
def tw9280998976033538756 : Nat := 0
def tw1780214344226273054 : Nat := 0
def tw7588673595036876680 : Nat := 0
def tw1136807260203808591 : Nat := 0
def tw1362875748813980750 : Nat := 0
def tw12979917441625237857 : Nat := 0
def tw14683165451671651450 : Nat := 0
def tw4184296171222729780 : Nat := 0
def tw1689154739246154060 : Nat := 0
def tw14534849775124823893 : Nat := 0
def tw18165245589345804434 : Nat := 0
def tw12108370305188698589 : Nat := 0
def tw14644881728696991665 : Nat := 0
def tw15512029367907518373 : Nat := 0
def tw3682780930029838792 : Nat := 0
def tw14619155034013026659 : Nat := 0
def tw1833640317754589267 : Nat := 0
def tw813166965119210379 : Nat := 0
def tw9695358350560217349 : Nat := 0
def tw15825062266967880145 : Nat := 0
def tw2250816183663409792 : Nat := 0
def tw5397215888344295222 : Nat := 0
def tw4632644406459156081 : Nat := 0
def tw6285626945727433156 : Nat := 0
def tw14271838911784831642 : Nat := 0
def tw5852349435961801632 : Nat := 0
def tw6141942453225660898 : Nat := 0
def tw1379477798699020068 : Nat := 0
def tw10523200576800464894 : Nat := 0
def tw4984997286126813608 : Nat := 0
def tw16786234135952207808 : Nat := 0
def tw16716358227557455283 : Nat := 0
def tw9480298483818624433 : Nat := 0
def tw10513287856100981731 : Nat := 0
def tw17785158451567758170 : Nat := 0
def tw7381740381077996620 : Nat := 0
def tw2335584121799710453 : Nat := 0
def tw9748548970517087741 : Nat := 0
def tw7015665038508769804 : Nat := 0
def tw4197379216063534475 : Nat := 0
def tw14817474512257410028 : Nat := 0
def tw11150731459088021773 : Nat := 0
def tw10847435522567304538 : Nat := 0
def tw10697135710855279822 : Nat := 0
def tw14946438888265066306 : Nat := 0
def tw12576986407529535318 : Nat := 0
def tw10837462798612252061 : Nat := 0
def tw5836756646780325719 : Nat := 0
def tw4520081282191310460 : Nat := 0
def tw3385834743874921102 : Nat := 0
def tw13011330874903708554 : Nat := 0
def tw15304123791946097531 : Nat := 0
def tw10194527414894247652 : Nat := 0
def tw6917071832740111399 : Nat := 0
def tw2328103599999715676 : Nat := 0
def tw8068611016334438807 : Nat := 0
def tw7079073381806472465 : Nat := 0
def tw17401559725939393487 : Nat := 0
def tw3575551368141167933 : Nat := 0
def tw7107652632476107156 : Nat := 0
def tw2142902003230107083 : Nat := 0
def tw850101755061034991 : Nat := 0
def tw9718808752549726784 : Nat := 0
def tw6967284267188936330 : Nat := 0
def tw3082508109377998986 : Nat := 0
def tw17061314156989514606 : Nat := 0
def tw10283573198086818984 : Nat := 0
def tw7774576799452456317 : Nat := 0
def tw15660168464291774949 : Nat := 0
def tw10062423714038333877 : Nat := 0
def tw9146573542269704573 : Nat := 0
def tw9729323390044644233 : Nat := 0
end PySem.W.Fast
open PySem PySem.W PyProof.Rows
set_option maxRecDepth 100000 in
set_option maxHeartbeats 0 in
theorem PySem.Challenge.cw_shutpairs_k01_heaps_made_holds : PySem.Challenge.rw_shutpairs_k01_heaps_made.Holds := by
  w_on; o_law; k_head; (case hw => w_witness2)
  k_fill
  refine My.walk (l := PySem.Challenge.rw_shutpairs_k01_heaps_made) rfl rfl (fun w h Y => PySem.W.kIn_of Y) ?F
  case F =>
    intro w mg fa h KX G hmg
    refine' My.all_mk KX G hmg ?a1 ?l1 ?c1 ?k1 ?a2 ?l2 ?c2 ?k2 ?a3 ?l3 ?c3 ?k3 ?a4 ?l4 ?c4 ?k4 ?a5 ?l5 ?c5 ?k5 ?a6 ?l6 ?c6 ?k6 ?a7 ?l7 ?c7 ?k7 ?a8 ?l8 ?c8 ?k8 ?a9 ?l9 ?c9 ?k9 ?z_ValueError ?z_all ?z_bool ?z_int ?z_isinstance ?z_len ?z_list ?z_range ?z_sorted ?z_tuple ?m_ShutError ?m_NoHeap ?m_NotIn ?m_NoText ?m_NoRule ?m_NoSum ?m_NotKept ?m_NoPlace ?m_NoPair ?m_NotSoMany ?m_Unmatched ?m_NotPaired ?m_TooLong ?m_NotStrict ?m_LeftOver ?m_NoBottom ?m_NoLanes ?m_TooGreat ?m_NoLine ?m_NoName ?m_NothingLeft ?x_ShutError ?y_ShutError ?e1_NoHeap ?e2_NoHeap ?e3_NoHeap ?e4_NoHeap ?e5_NoHeap ?e6_NoHeap ?e7_NoHeap ?t_NoHeap_ShutError ?i_NoHeap_LeftOver ?i_NoHeap_NoBottom ?i_NoHeap_NoHeap ?i_NoHeap_NoLanes ?i_NoHeap_NoLine ?i_NoHeap_NoName ?i_NoHeap_NoPair ?i_NoHeap_NoPlace ?i_NoHeap_NoRule ?i_NoHeap_NoSum ?i_NoHeap_NoText ?i_NoHeap_NotIn ?i_NoHeap_NotKept ?i_NoHeap_NotPaired ?i_NoHeap_NotSoMany ?i_NoHeap_NotStrict ?i_NoHeap_NothingLeft ?i_NoHeap_ShutError ?i_NoHeap_TooGreat ?i_NoHeap_TooLong ?i_NoHeap_Unmatched ?i_NoHeap_ValueError ?a0 ?i0 ?l0 ?c0 ?k0 ?xi_NoHeap ?y_NoHeap ?hd_NoHeap ?po_NoHeap ?sa_NoHeap ?na_NoHeap_part
    (case a1 => k_is)
    (case l1 => k_is)
    (case c1 => k_is)
    (case k1 => k_is)
    (case a2 => k_is)
    (case l2 => k_is)
    (case c2 => k_is)
    (case k2 => k_is)
    (case a3 => k_is)
    (case l3 => k_is)
    (case c3 => k_is)
    (case k3 => k_is)
    (case a4 => k_is)
    (case l4 => k_is)
    (case c4 => k_is)
    (case k4 => k_is)
    (case a5 => k_is)
    (case l5 => k_is)
    (case c5 => k_is)
    (case k5 => k_is)
    (case a6 => k_is)
    (case l6 => k_is)
    (case c6 => k_is)
    (case k6 => k_is)
    (case a7 => k_is)
    (case l7 => k_is)
    (case c7 => k_is)
    (case k7 => k_is)
    (case a8 => k_is)
    (case l8 => k_is)
    (case c8 => k_is)
    (case k8 => k_is)
    (case a9 => k_is)
    (case l9 => k_is)
    (case c9 => k_is)
    (case k9 => k_is)
    (case z_ValueError => k_is)
    (case z_all => k_is)
    (case z_bool => k_is)
    (case z_int => k_is)
    (case z_isinstance => k_is)
    (case z_len => k_is)
    (case z_list => k_is)
    (case z_range => k_is)
    (case z_sorted => k_is)
    (case z_tuple => k_is)
    (case m_ShutError => k_is)
    (case m_NoHeap => k_is)
    (case m_NotIn => k_is)
    (case m_NoText => k_is)
    (case m_NoRule => k_is)
    (case m_NoSum => k_is)
    (case m_NotKept => k_is)
    (case m_NoPlace => k_is)
    (case m_NoPair => k_is)
    (case m_NotSoMany => k_is)
    (case m_Unmatched => k_is)
    (case m_NotPaired => k_is)
    (case m_TooLong => k_is)
    (case m_NotStrict => k_is)
    (case m_LeftOver => k_is)
    (case m_NoBottom => k_is)
    (case m_NoLanes => k_is)
    (case m_TooGreat => k_is)
    (case m_NoLine => k_is)
    (case m_NoName => k_is)
    (case m_NothingLeft => k_is)
    (case x_ShutError => k_exc)
    (case y_ShutError => k_is)
    (case e1_NoHeap => k_is)
    (case e2_NoHeap => k_is)
    (case e3_NoHeap => k_is)
    (case e4_NoHeap => k_is)
    (case e5_NoHeap => k_is)
    (case e6_NoHeap => k_is)
    (case e7_NoHeap => k_is)
    (case t_NoHeap_ShutError => k_is)
    (case i_NoHeap_LeftOver => kit_is)
    (case i_NoHeap_NoBottom => kit_is)
    (case i_NoHeap_NoHeap => kit_is)
    (case i_NoHeap_NoLanes => kit_is)
    (case i_NoHeap_NoLine => kit_is)
    (case i_NoHeap_NoName => kit_is)
    (case i_NoHeap_NoPair => kit_is)
    (case i_NoHeap_NoPlace => kit_is)
    (case i_NoHeap_NoRule => kit_is)
    (case i_NoHeap_NoSum => kit_is)
    (case i_NoHeap_NoText => kit_is)
    (case i_NoHeap_NotIn => kit_is)
    (case i_NoHeap_NotKept => kit_is)
    (case i_NoHeap_NotPaired => kit_is)
    (case i_NoHeap_NotSoMany => kit_is)
    (case i_NoHeap_NotStrict => kit_is)
    (case i_NoHeap_NothingLeft => kit_is)
    (case i_NoHeap_ShutError => kit_is)
    (case i_NoHeap_TooGreat => kit_is)
    (case i_NoHeap_TooLong => kit_is)
    (case i_NoHeap_Unmatched => kit_is)
    (case i_NoHeap_ValueError => kit_is)
    (case a0 => k_is)
    (case i0 => k_is)
    (case l0 => k_is)
    (case c0 => k_is)
    (case k0 => k_is)
    (case xi_NoHeap => kernel_rfl)
    (case y_NoHeap => k_is)
    (case hd_NoHeap => k_is)
    (case po_NoHeap => kernel_rfl)
    (case sa_NoHeap => k_is)
    (case na_NoHeap_part => k_is)
