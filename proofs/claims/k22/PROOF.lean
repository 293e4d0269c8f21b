import PyProof.Rows.All
import Wide.All
import OpenK.AllK
import Wide.FinOn
import PyProof.EqAt
import PyProof.EqKinds
import PyProof.TupleCall
import PyProof.NeKinds
import PyProof.StrLawsTight
import PyProof.ExcClass3
import PyProof.StationsW
import PyProof.ExcBaseAll.ValueError
import PyProof.NsDelKeeps
import PyProof.RulesAs
import PyProof.ExcArgsOwn
import PyProof.ExcAttrAll.ValueError
import PyProof.ZipIter
import PyProof.ListMulRoad
import KE.KDictSum
import PyProof.ListRange
import PyProof.Draws
import PyProof.EnumMake
import PyProof.Rows.Range3
import PyProof.Rows.SortShell
import PyProof.Conv_int_bool
import PyProof.Rows.SetFrom
import PyProof.Rows.SetObj
import PyProof.WalksMore
import KE.IntBitsLaws
import KE.KRevSl
import PyProof.FitsBits
import PyProof.CollectIter
import PyProof.IsRules
import PyProof.AttrMissHeap
import PyProof.WalksS
import KE.KDictOf
import PyProof.PureStr
import PyProof.StrOps2
import PyProof.SliceStr2
import PyProof.StrBlockI
import PyProof.CompFree
import PyProof.Rows.StrSplitJoin
import PyProof.StrCalls6
import PyProof.ConsumeWalk
import PyProof.StrLawsReplace
import PyProof.DictItems
import PyProof.Rows.SortRuns
import KE.KFind
import PySem.Builtin.SetT
import PyProof.FactsAll.tuple_iterator_0
import Lean
import PySem.Challenge.RW_shutpairs_k22_weights_of_dots
set_option Elab.async false
set_option linter.all false
set_option maxRecDepth 100000
/-! THE HAND LAYER, for ints, bools, texts, own classes, LISTS and tuples (index, slices, in, append, pop ..), calls, loops. Paste it whole ahead of your own text; what your proof does not reach may be deleted. -/
namespace L2
open PySem PySem.Spec PyProof.Rows

/-- a key: an int or a str -/
abbrev Key := Sum Int Str
def keyIs : Key → Value → Bool
  | .inl k, v => Value.isInt k v
  | .inr x, v => Value.isStrOf x v
def keyH (w : World) : Key → Int
  | .inl k => hashInt k
  | .inr x => hashStr w x
theorem keyIs_shape : ∀ {k : Key} {v : Value}, keyIs k v = true → (∃ i t, k = Sum.inl i ∧ v = Value.int i t) ∨ (∃ x t, k = Sum.inr x ∧ v = Value.str x t)
  | .inl i, v, h => by
    obtain ⟨t, e⟩ := Value.isInt_shape (k := i) (v := v) h
    exact .inl ⟨i, t, rfl, e⟩
  | .inr x, v, h => by
    obtain ⟨t, e⟩ := Value.isStrOf_shape (x := x) (v := v) h
    exact .inr ⟨x, t, rfl, e⟩
theorem keyIs_int (i : Int) (t : Tok) : keyIs (.inl i) (.int i t) = true := by simp [keyIs, Value.isInt]
theorem keyIs_str (x : Str) (t : Tok) : keyIs (.inr x) (.str x t) = true := by simp [keyIs, Value.isStrOf]
theorem key_ll (a b : Int) : decide ((Sum.inl a : Key) = Sum.inl b) = (a == b) := by
  by_cases e : a = b
  · subst e; simp
  · have h : ¬ (Sum.inl a : Key) = Sum.inl b := fun q => e (Sum.inl.inj q)
    rw [decide_eq_false h]
    exact (beq_eq_false_iff_ne.mpr e).symm
theorem key_rr (a b : Str) : decide ((Sum.inr a : Key) = Sum.inr b) = decide (a = b) := by
  by_cases e : a = b
  · subst e; simp
  · have h : ¬ (Sum.inr a : Key) = Sum.inr b := fun q => e (Sum.inr.inj q)
    rw [decide_eq_false h, decide_eq_false e]
theorem key_lr (a : Int) (b : Str) : decide ((Sum.inl a : Key) = Sum.inr b) = false := decide_eq_false (fun q => nomatch q)
theorem key_rl (a : Str) (b : Int) : decide ((Sum.inr a : Key) = Sum.inl b) = false := decide_eq_false (fun q => nomatch q)

def mixKind (prog : Program) (w : World) : PySem.KeyKind prog w Key where
  is := keyIs
  hash := keyH w
  inj := fun v a b ha hb => by
    rcases keyIs_shape ha with ⟨i, t, rfl, rfl⟩ | ⟨x, t, rfl, rfl⟩
    · rcases keyIs_shape hb with ⟨j, u, rfl, e⟩ | ⟨y, u, rfl, e⟩
      · injection e with e1 _; rw [e1]
      · exact nomatch e
    · rcases keyIs_shape hb with ⟨j, u, rfl, e⟩ | ⟨y, u, rfl, e⟩
      · exact nomatch e
      · injection e with e1 _; rw [e1]
  byValue := fun k v h => by
    rcases keyIs_shape h with ⟨i, t, rfl, rfl⟩ | ⟨x, t, rfl, rfl⟩ <;> rfl
  pyHash := fun hv h => by
    rcases keyIs_shape hv with ⟨i, t, rfl, rfl⟩ | ⟨x, t, rfl, rfl⟩
    · exact wpAny_pyHash_int h
    · exact wpAny_pyHash_str h
  eqBool := fun hu hv h => by
    rcases keyIs_shape hu with ⟨i, t, rfl, rfl⟩ | ⟨x, t, rfl, rfl⟩
    · rcases keyIs_shape hv with ⟨j, u, rfl, rfl⟩ | ⟨y, u, rfl, rfl⟩
      · rw [key_ll] at h; exact wpAny_eqBool_int h
      · rw [key_lr] at h; exact SeqAt.EqAt.int_str i t y u _ _ _ _ h
    · rcases keyIs_shape hv with ⟨j, u, rfl, rfl⟩ | ⟨y, u, rfl, rfl⟩
      · rw [key_rl] at h; exact SeqAt.EqAt.str_int x t j u _ _ _ _ h
      · rw [key_rr] at h; exact wpAny_eqBool_str h
  «strs» := fun k x t v h => by
    rcases keyIs_shape h with ⟨i, u, rfl, e⟩ | ⟨y, u, rfl, e⟩
    · exact nomatch e
    · injection e with e1 _
      subst e1
      cases v <;> rfl

theorem mixKind_int (prog : Program) (w : World) (i : Int) (t : Tok) : (mixKind prog w).is (.inl i) (.int i t) = true := keyIs_int i t
theorem mixKind_str (prog : Program) (w : World) (x : Str) (t : Tok) : (mixKind prog w).is (.inr x) (.str x t) = true := keyIs_str x t
end L2

namespace L2
open PySem PySem.Spec PyProof.Rows

/-- a value, without the heap -/
inductive V where
  | non | bl (b : Bool) | int (i : Int) | str (x : Str) | byt (b : Array UInt8) | flt (b : UInt64) | ref (a : Addr) | ty (n : String)
  deriving DecidableEq

def RelV : V → Value → Prop
  | .non, u => u = Value.none
  | .bl b, u => u = Value.bool b
  | .int i, u => ∃ t, u = Value.int i t
  | .str x, u => ∃ t, u = Value.str x t
  | .byt b, u => ∃ t, u = Value.bytes b t
  | .flt b, u => ∃ t, u = Value.float b t
  | .ref a, u => u = Value.ref a
  | .ty n, u => u = Value.type n

abbrev Vals : List V → List Value → Prop := Paired RelV
theorem Vals.length {xs : List V} {us : List Value} (r : Vals xs us) : xs.length = us.length := Paired.length r
theorem Vals.get : ∀ {xs : List V} {us : List Value} {i : Nat} {x : V}, Vals xs us → xs[i]? = some x → ∃ u, us[i]? = some u ∧ RelV x u
  | _, _, _, _, .nil, e => by simp at e
  | _, _, 0, _, .cons r _, e => by simp at e; subst e; exact ⟨_, rfl, r⟩
  | _, _, i + 1, x, .cons _ t, e => by
    obtain ⟨u, h1, h2⟩ := Vals.get (i := i) (x := x) t (by simpa using e)
    exact ⟨u, by simpa using h1, h2⟩
theorem Vals.set {x : V} {u : Value} (r : RelV x u) : ∀ {xs : List V} {us : List Value} (i : Nat), Vals xs us → Vals (xs.set i x) (us.set i u)
  | _, _, _, .nil => .nil
  | _, _, 0, .cons _ t => .cons r t
  | _, _, i + 1, .cons q t => .cons q (Vals.set r i t)
theorem Vals.append : ∀ {xs ys : List V} {us ws : List Value}, Vals xs us → Vals ys ws → Vals (xs ++ ys) (us ++ ws)
  | _, _, _, _, .nil, s => s
  | _, _, _, _, .cons r t, s => .cons r (Vals.append t s)
theorem Vals.take : ∀ {xs : List V} {us : List Value} (n : Nat), Vals xs us → Vals (xs.take n) (us.take n)
  | _, _, 0, _ => .nil
  | _, _, _ + 1, .nil => .nil
  | _, _, n + 1, .cons r t => .cons r (Vals.take n t)
theorem Vals.drop : ∀ {xs : List V} {us : List Value} (n : Nat), Vals xs us → Vals (xs.drop n) (us.drop n)
  | _, _, 0, r => r
  | _, _, _ + 1, .nil => .nil
  | _, _, n + 1, .cons _ t => Vals.drop n t
def RelO : Option V → Option Value → Prop
  | some v, some u => RelV v u
  | none, none => True
  | _, _ => False
def KV {κ : Type} : List (κ × V) → List (κ × Value) → Prop := Paired fun (p : κ × V) (q : κ × Value) => p.1 = q.1 ∧ RelV p.2 q.2

/-- a key of a dict (00_mix): an int or a text -/
def kV : Key → V
  | .inl i => .int i
  | .inr x => .str x

/-- what stands at a tracked address -/
inductive HO where
  /-- a list -/
  | lst (xs : List V)
  /-- a tuple (never changes) -/
  | tup (xs : List V)
  /-- a dict whose keys are ints and texts; one whose keys are tuples of ints and texts (the empty one is both) -/
  | dK (kvs : List (Key × V)) | dT (kvs : List (List Key × V))
  /-- a set of ints: its members, its size -/
  | set (S : Int → Bool) (n : Nat)
  /-- an instance of the class at C, its dict at dx, its attributes -/
  | ins (C dx : Addr) (fs : List (Str × V))
  /-- the dict of the instance at x -/
  | own (x : Addr)
  /-- the dict of an exception -/
  | xd (fs : List (Str × V))
  /-- a bound method, f of x -/
  | met (f x : Addr)
  /-- a range object lo, lo + 1, .. below hi -/
  | rng (lo hi : Int)
  /-- a thing that is known to the object (the script; a dict while a loop walks it): read, never written while it is so -/
  | frz (o : Obj) (u : HO)
  /-- a code object's table -/
  | tbl (ps : Array Value)
  /-- any other thing, by what is true of its one object (a def of one's own: SetO a S n := HO.ext fun h => ..) -/
  | ext (φ : Heap → Prop)

abbrev Hp := Addr → Option HO
def upd (H : Hp) (a : Addr) (o : HO) : Hp := fun b => if b = a then some o else H b
theorem upd_same {H : Hp} {a : Addr} {o : HO} : upd H a o a = some o := by unfold upd; rw [if_pos rfl]
theorem upd_ne {H : Hp} {a b : Addr} {o : HO} (h : b ≠ a) : upd H a o b = H b := by unfold upd; rw [if_neg h]
/-- two objects of different content stand apart -/
theorem ne_of {H : Hp} {a b : Addr} {o u : HO} (h : H a = some o) (h' : H b = some u) (d : o ≠ u) : a ≠ b := by
  intro e; subst e; rw [h] at h'; exact d (Option.some.inj h')
theorem ne_of_none {H : Hp} {a b : Addr} {o : HO} (h : H a = some o) (h' : H b = none) : a ≠ b := by
  intro e; subst e; rw [h] at h'; cases h'

section
variable (P : Program) (w : World)
def ObjOk (H : Hp) (h : Heap) (a : Addr) : HO → Prop
  | .lst xs => xs.length ≤ sizeLine ∧ ∃ (its : List Value) (n : Nat), Vals xs its ∧ h.get? a = some { cls := .type "list", data := .seq its.toArray n }
  | .tup xs => xs.length ≤ sizeLine ∧ ∃ its : List Value, Vals xs its ∧ IsTup h a its.toArray ∧ ∀ o, h.get? a = some o → o.dict = none
  | .dK kvs => kvs.length ≤ sizeLine ∧ (a == sysModules) = false ∧ ∃ vs, KV kvs vs ∧ h.DictOf (mixKind P w) a vs
  | .dT kvs => kvs.length ≤ sizeLine ∧ (a == sysModules) = false ∧ ∃ xs : List (List Key × Addr × Value),
      Paired (fun (p : List Key × V) (q : List Key × Addr × Value) => p.1 = q.1 ∧ H q.2.1 = some (.tup (p.1.map kV)) ∧ RelV p.2 q.2.2) kvs xs ∧
      ∃ o es ep, h.get? a = some o ∧ o.ExactDict ∧ o.data = .dict es ep ∧ es.toList = xs.map (entryOfKey (tupleKind (mixKind P w))) ∧ (xs.map (·.1)).Nodup
  | .set S n => h.SetOf (intKind P w) a S n
  | .ins C dx fs => H dx = some (.own a) ∧ fs.length ≤ 1000 ∧ dx ≠ a ∧ h.get? a = some (PySem.W.instObj C dx) ∧
      ∃ mA, h.Ns1 dx mA ∧ (∀ f, RelO (fs.lookup f) (mA f)) ∧ PySem.Within mA (fs.map (·.1))
  | .own _ => ∃ o, h.get? a = some o
  | .xd fs => ∃ mA, h.Ns1 a mA ∧ ∀ f, RelO (fs.lookup f) (mA f)
  | .rng lo hi => ∃ t u v, h.get? a = some { cls := .type "range", data := .fields #[.int lo t, .int hi u, .int 1 v] }
  | .frz o u => h.get? a = some o ∧ ObjOk H h a u
  | .tbl ps => h.get? a = some { cls := .none, data := .fields ps }
  | .met f x => h.get? a = some (PySem.W.methodObj (.ref f) (.ref x))
  | .ext φ => φ h ∧ (∃ o, h.get? a = some o) ∧ ∀ h1 h2 : Heap, φ h1 → (∀ o, h1.get? a = some o → h2.get? a = some o) → φ h2
theorem tup_nodict {h : Heap} {its : Array Value} : ∀ o, (h.push { cls := .type "tuple", data := .seq its }).get? h.objs.size = some o → o.dict = none := by
  intro o e
  rw [Heap.get?_push_size _ rfl] at e
  cases e
  rfl
/-- the abstract heap is held -/
def HOk (H : Hp) (h : Heap) : Prop := ∀ a o, H a = some o → ObjOk P w H h a o
end

section
variable {P : Program} {w : World} {H H' : Hp} {h h' : Heap} {a : Addr} {o : HO}
theorem ObjOk.lt (x : ObjOk P w H h a o) : a < h.objs.size := by
  cases o with
  | lst xs => obtain ⟨_, _, _, _, e⟩ := x; exact Heap.lt_size e
  | tup xs => obtain ⟨_, _, _, p, _⟩ := x; exact p.lt
  | dK kvs => obtain ⟨_, _, _, _, o, _, _, e, _⟩ := x; exact Heap.lt_size e
  | dT kvs => obtain ⟨_, _, _, _, o, _, _, e, _⟩ := x; exact Heap.lt_size e
  | set S n => obtain ⟨o, _, _, _, e, _⟩ := x; exact Heap.lt_size e
  | ins C dx fs => obtain ⟨_, _, _, e, _⟩ := x; exact Heap.lt_size e
  | own y => obtain ⟨_, e⟩ := x; exact Heap.lt_size e
  | xd fs => obtain ⟨_, ⟨_, _, _, e, _⟩, _⟩ := x; exact Heap.lt_size e
  | rng lo hi => obtain ⟨_, _, _, e⟩ := x; exact Heap.lt_size e
  | frz ob u => obtain ⟨e, _⟩ := x; exact Heap.lt_size e
  | tbl ps => exact Heap.lt_size (show h.get? a = some _ from x)
  | met f y => exact Heap.lt_size (show h.get? a = some _ from x)
  | ext φ => obtain ⟨_, ⟨_, e⟩, _⟩ := x; exact Heap.lt_size e
theorem Paired.mapP {α β : Type} {F G : α → β → Prop} : ∀ {l₁ : List α} {l₂ : List β}, Paired F l₁ l₂ → (∀ a b, F a b → G a b) → Paired G l₁ l₂
  | _, _, .nil, _ => .nil
  | _, _, .cons r t, f => .cons (f _ _ r) (Paired.mapP t f)
/-- what an object's description leans on: its own object, its own dict, the tuples -/
theorem ObjOk.stay (x : ObjOk P w H h a o) (k : ∀ b u, (b = a ∨ H b = some (.own a)) → h.get? b = some u → h'.get? b = some u)
    (ho : ∀ b, H b = some (.own a) → H' b = some (.own a)) (ht : ∀ b xs, H b = some (.tup xs) → H' b = some (.tup xs)) : ObjOk P w H' h' a o := by
  induction o with
  | lst xs => obtain ⟨z, its, n, r, e⟩ := x; exact ⟨z, its, n, r, k _ _ (.inl rfl) e⟩
  | tup xs =>
    obtain ⟨z, its, r, ⟨ob, e, c⟩, nd⟩ := x
    have e' := k _ _ (.inl rfl) e
    exact ⟨z, its, r, ⟨ob, e', c⟩, fun o q => by rw [e'] at q; cases q; exact nd ob e⟩
  | dK kvs => obtain ⟨z, y, vs, r, ob, es, ep, e, c⟩ := x; exact ⟨z, y, vs, r, ob, es, ep, k _ _ (.inl rfl) e, c⟩
  | dT kvs =>
    obtain ⟨z, y, xs, r, ob, es, ep, e, c⟩ := x
    exact ⟨z, y, xs, Paired.mapP r fun p q z => ⟨z.1, ht _ _ z.2.1, z.2.2⟩, ob, es, ep, k _ _ (.inl rfl) e, c⟩
  | set S n => obtain ⟨ob, es, ep, t, e, c⟩ := x; exact ⟨ob, es, ep, t, k _ _ (.inl rfl) e, c⟩
  | ins C dx fs =>
    obtain ⟨d, z, ne, e, mA, ⟨od, es, ep, e2, c⟩, r⟩ := x
    exact ⟨ho _ d, z, ne, k _ _ (.inl rfl) e, mA, ⟨od, es, ep, k _ _ (.inr d) e2, c⟩, r⟩
  | own y => obtain ⟨ob, e⟩ := x; exact ⟨ob, k _ _ (.inl rfl) e⟩
  | xd fs => obtain ⟨mA, ⟨od, es, ep, e, c⟩, r⟩ := x; exact ⟨mA, ⟨od, es, ep, k _ _ (.inl rfl) e, c⟩, r⟩
  | rng lo hi => obtain ⟨t, u, v, e⟩ := x; exact ⟨t, u, v, k _ _ (.inl rfl) e⟩
  | frz ob u ih => obtain ⟨e, q⟩ := x; exact ⟨k _ _ (.inl rfl) e, ih q⟩
  | tbl ps =>
    have e : h.get? a = some { cls := .none, data := .fields ps } := x
    show h'.get? a = some { cls := .none, data := .fields ps }
    exact k a _ (.inl rfl) e
  | met f y =>
    have e : h.get? a = some (PySem.W.methodObj (.ref f) (.ref y)) := x
    show h'.get? a = some (PySem.W.methodObj (.ref f) (.ref y))
    exact k a _ (.inl rfl) e
  | ext φ => obtain ⟨p, ⟨o, e⟩, st⟩ := x; exact ⟨st _ _ p fun o q => k _ _ (.inl rfl) q, ⟨o, k _ _ (.inl rfl) e⟩, st⟩
theorem HOk.lt (x : HOk P w H h) (e : H a = some o) : a < h.objs.size := (x a o e).lt
theorem HOk.fresh (x : HOk P w H h) (e : h.objs.size ≤ a) : H a = none := by
  cases q : H a with
  | none => rfl
  | some u => exact absurd (Nat.lt_of_lt_of_le (x.lt q) e) (Nat.lt_irrefl _)
/-- every object of the heap is kept -/
theorem HOk.kept (x : HOk P w H h) (k : ∀ b u, h.get? b = some u → h'.get? b = some u) : HOk P w H h' := fun a o e =>
  (x a o e).stay (fun b u _ q => k b u q) (fun _ q => q) fun _ _ q => q
/-- a new object is laid and tracked -/
theorem HOk.laid (x : HOk P w H h) (k : ∀ b u, h.get? b = some u → h'.get? b = some u) (hp : h.objs.size ≤ a) (new : ObjOk P w (upd H a o) h' a o) : HOk P w (upd H a o) h' := fun b u e => by
  have hn := x.fresh hp
  by_cases hb : b = a
  · subst hb; rw [upd_same] at e; cases e; exact new
  · rw [upd_ne hb] at e
    exact (x b u e).stay (fun c v _ q => k c v q) (fun c q => by rw [upd_ne (ne_of_none q hn)]; exact q) fun c xs q => by rw [upd_ne (ne_of_none q hn)]; exact q
end

/-- what may be read as u: it is u, or a known u -/
def Rd (H : Hp) (a : Addr) (u : HO) : Prop := H a = some u ∨ ∃ o, H a = some (.frz o u)
theorem Rd.ok {P : Program} {w : World} {H : Hp} {h : Heap} {a : Addr} {u : HO} (r : Rd H a u) (x : HOk P w H h) : ObjOk P w H h a u := by
  rcases r with r | ⟨o, r⟩
  · exact x a u r
  · obtain ⟨_, q⟩ := x a _ r
    exact q
/-- what may be written -/
def Mut : Option HO → Prop
  | some (.lst _) => True
  | some (.dK _) => True
  | some (.dT _) => True
  | some (.set _ _) => True
  | some (.ins _ _ _) => True
  | some (.ext _) => True
  | _ => False
section
variable {P : Program} {w : World} {H : Hp} {h h' : Heap} {x e : Addr} {o' : HO}
/-- the object at e is changed: x itself, or the dict of the instance x -/
theorem HOk.write (ok : HOk P w H h) (mu : Mut (H x)) (he : e = x ∨ H e = some (.own x)) (k : ∀ b u, b ≠ e → h.get? b = some u → h'.get? b = some u) (heo : ∃ u, h'.get? e = some u)
    (new : ObjOk P w (upd H x o') h' x o') : HOk P w (upd H x o') h' := fun b u q => by
  have nown : ∀ c y, H c = some (.own y) → c ≠ x := fun c y r z => by subst z; rw [r] at mu; exact mu
  have ntup : ∀ c xs, H c = some (.tup xs) → c ≠ x := fun c xs r z => by subst z; rw [r] at mu; exact mu
  by_cases hb : b = x
  · subst hb; rw [upd_same] at q; cases q; exact new
  · rw [upd_ne hb] at q
    by_cases hbe : b = e
    · have q' : H b = some (.own x) := by
        rcases he with z | z
        · exact absurd (hbe.trans z) hb
        · rw [hbe]; exact z
      rw [q] at q'; cases q'
      obtain ⟨v, hv⟩ := heo
      exact ⟨v, by rw [hbe]; exact hv⟩
    · refine (ok b u q).stay (fun c v hc r => k c v ?_ r) (fun c r => by rw [upd_ne (nown c b r)]; exact r) fun c xs r => by rw [upd_ne (ntup c xs r)]; exact r
      rcases hc with rfl | hc
      · exact hbe
      · rintro rfl
        rcases he with z | z
        · exact nown c b hc z
        · rw [hc] at z; cases z; exact hb rfl
end

/-! ### kept unless tracked; of the frames at fs (the callers') the slots may change (an exception that passes writes there); of the records at ex (iterators) nothing is said -/
structure Un (fs ex : List Addr) (H H' : Hp) (h h' : Heap) : Prop where
  keep : ∀ b o, h.get? b = some o → H b = none → b ∉ fs → b ∉ ex → h'.get? b = some o
  slot : ∀ b o, h.get? b = some o → H b = none → b ∈ fs → b ∉ ex → ∃ sl, h'.get? b = some { o with slots := sl }
  free : ∀ b o, h.get? b = some o → H b = none → b ∉ ex → H' b = none
  there : ∀ b o, h.get? b = some o → b ∉ ex → ∃ o', h'.get? b = some o'
  tups : ∀ b xs, H b = some (.tup xs) → H' b = some (.tup xs)
  frzs : ∀ b o u, H b = some (.frz o u) → H' b = some (.frz o u)
  tbls : ∀ b ps, H b = some (.tbl ps) → ∃ more, H' b = some (.tbl (ps ++ more))
section
variable {fs fs' ex ex' : List Addr} {H H1 H2 : Hp} {h h1 h2 h' : Heap} {a x e : Addr} {o : HO}
theorem Un.any (u : Un fs ex H H1 h h1) {b : Addr} {ob : Obj} (q : h.get? b = some ob) (n : H b = none) (hx : b ∉ ex) : ∃ sl, h1.get? b = some { ob with slots := sl } := by
  by_cases hb : b ∈ fs
  · exact u.slot b ob q n hb hx
  · exact ⟨ob.slots, u.keep b ob q n hb hx⟩
theorem Un.kept (k : ∀ b u, h.get? b = some u → h'.get? b = some u) : Un fs ex H H h h' :=
  ⟨fun b ob q _ _ _ => k b ob q, fun b ob q _ _ _ => ⟨ob.slots, k b ob q⟩, fun _ _ _ n _ => n, fun b ob q _ => ⟨ob, k b ob q⟩, fun _ _ q => q, fun _ _ _ q => q, fun _ ps q => ⟨#[], by rw [q]; simp⟩⟩
theorem Un.refl : Un fs ex H H h h := Un.kept fun _ _ q => q
theorem Un.laid (k : ∀ b u, h.get? b = some u → h'.get? b = some u) (hp : h.objs.size ≤ a) (hn : H a = none) : Un fs ex H (upd H a o) h h' where
  keep := fun b u q _ _ _ => k b u q
  slot := fun b u q _ _ _ => ⟨u.slots, k b u q⟩
  free := fun b u q n _ => by rw [upd_ne (Nat.ne_of_lt (Nat.lt_of_lt_of_le (Heap.lt_size q) hp))]; exact n
  there := fun b u q _ => ⟨u, k b u q⟩
  tups := fun b xs q => by rw [upd_ne (ne_of_none q hn)]; exact q
  frzs := fun b u xs q => by rw [upd_ne (ne_of_none q hn)]; exact q
  tbls := fun b ps q => ⟨#[], by rw [upd_ne (ne_of_none q hn), q]; simp⟩
theorem Un.write (mu : Mut (H x)) (he : e = x ∨ H e = some (.own x)) (k : ∀ b u, b ≠ e → h.get? b = some u → h'.get? b = some u) (heo : ∃ u, h'.get? e = some u) : Un fs ex H (upd H x o) h h' := by
  have hx : ∀ b, H b = none → b ≠ x := fun b n z => by subst z; rw [n] at mu; exact mu
  have hb : ∀ b, H b = none → b ≠ e := fun b n z => by
    subst z
    rcases he with r | r
    · exact hx b n r
    · rw [n] at r; cases r
  have hm : ∀ b u, H b = some u → ¬ Mut (some u) → b ≠ x := fun b u q nm z => by subst z; rw [q] at mu; exact nm mu
  refine ⟨fun b u q n _ _ => k b u (hb b n) q, fun b u q n _ _ => ⟨u.slots, k b u (hb b n) q⟩, fun b u q n _ => by rw [upd_ne (hx b n)]; exact n, fun b u q _ => ?_,
    fun b xs q => by rw [upd_ne (hm b _ q fun z => z)]; exact q, fun b u xs q => by rw [upd_ne (hm b _ q fun z => z)]; exact q, fun b ps q => ⟨#[], by rw [upd_ne (hm b _ q fun z => z), q]; simp⟩⟩
  by_cases hbe : b = e
  · subst hbe; exact heo
  · exact ⟨u, k b u hbe q⟩
end

/-! ### the heap without what is tracked -/
def trk (h : Heap) (H : Hp) : List Addr := (List.range h.objs.size).filter fun a => (H a).isSome
def hidT (h : Heap) (H : Hp) : Heap := PySem.W.hideAll h (trk h H)
theorem hidT_size (h : Heap) (H : Hp) : (hidT h H).objs.size = h.objs.size := PySem.W.hideAll_size _ _
theorem hidT_get {h : Heap} {H : Hp} {b : Addr} {o : Obj} (e : h.get? b = some o) (n : H b = none) : (hidT h H).get? b = some o :=
  PySem.W.hideAll_get _ e fun hm => by
    have q : (H b).isSome = true := (List.mem_filter.mp hm).2
    rw [n] at q; simp at q
theorem of_hidT {h : Heap} {H : Hp} {b : Addr} {o : Obj} (e : (hidT h H).get? b = some o) : h.get? b = some o ∧ H b = none := by
  have e' : h.get? b = some o := PySem.W.of_hideAll (trk h H) e
  refine ⟨e', ?_⟩
  cases q : H b with
  | none => rfl
  | some x =>
    have hm : b ∈ trk h H := List.mem_filter.mpr ⟨List.mem_range.mpr (Heap.lt_size e'), by simp [q]⟩
    have z : (hidT h H).get? b = none := PySem.W.hideAll_none (trk h H) hm
    rw [z] at e; cases e

/-! ### OpenK's ledger, filled with every new object but one -/
def allNews (g h : Heap) (L : Addr) : List (Addr × Obj) := (List.range h.objs.size).filterMap fun a => if a = L ∨ (g.get? a).isSome = true then none else (h.get? a).map fun o => (a, o)
def rest (g h : Heap) (L d : Addr) : List (Addr × Obj) := (allNews g h L).filter fun p => decide (p.1 ≠ d)
end L2

namespace L2
open PySem PySem.Spec PyProof.Rows

/-- the module's facts, over the base: the heap at the law's entry without what is tracked there -/
structure Mod (K : PySem.W.Frag) (mg : Str → Option Value) (base : Heap) : Prop where
  kin : K.In base
  glob : base.Ns mainGlobals mg
  blt : ∃ mb, base.Ns builtinsNs mb ∧ ∀ x : Str, x ≠ "__name__" → mb x = bootBuiltins x
  nolimit : base.NoLimit

/-- the context: a def's body (or a comprehension's block) running. base: fixed through the whole law; s₀, H₀: the entry; outer: the frames whose slots others may change (a def's callers); stack: all frames that run;
   ex: iterators that were made ahead of the entry and are walked here (a comprehension's); fn: the names whose cells were made at the entry (a def: all; a comprehension's block: its own); calm: not within an except suite; pn: pins that every state bears; xe: what is wanted of an exception that leaves the code -/
structure Cx where
  prog : Program
  w : World
  K : PySem.W.Frag
  mg : Str → Option Value
  base : Heap
  A : Around
  N : List Str
  s₀ : Shared
  H₀ : Hp
  env : Env
  outer : List Env
  stack : List Env
  ex : List Addr
  fn : Str → Bool
  calm : Bool
  pn : List (Addr × Obj)
  xe : Value → Shared → Prop
/-- the callers' frames -/
def frs (l : List Env) : List Addr := l.filterMap (·.frame)
abbrev Cx.fs (X : Cx) : List Addr := frs X.outer

def Vis (sc : Scope) (x : Str) : Prop := sc.names.lookup x = some .local ∨ sc.names.lookup x = some .cell ∨ sc.names.lookup x = some .free
def Loc (sc : Scope) (x : Str) : Prop := sc.names.lookup x = some .local ∨ sc.names.lookup x = some .cell
def Look (env : Env) (h : Heap) (m : Str → Option Value) (x : Str) (u : Value) : Prop :=
  (env.kindOf x = some .local ∧ m x = some u) ∨ ((env.kindOf x = some .cell ∨ env.kindOf x = some .free) ∧ ∃ c, env.cells.lookup x = some c ∧ h.IsCell c (some u))

structure Cx.Ok (X : Cx) : Prop where
  mod : Mod X.K X.mg X.base
  kind : X.env.scope.kind = .function
  glob : X.env.globals = mainGlobals
  blt : X.env.builtins = builtinsNs
  above : X.s₀.heap.objs.size ≤ X.env.locals
  inj : ∀ x y c, X.env.cells.lookup x = some c → X.env.cells.lookup y = some c → x = y
  has : ∀ x, (X.env.kindOf x = some .cell ∨ X.env.kindOf x = some .free) → ∃ c, X.env.cells.lookup x = some c
  cab : ∀ x c, X.fn x = true → X.env.cells.lookup x = some c → X.s₀.heap.objs.size ≤ c
  hd : X.calm = true → X.A.handled = none
  frames : X.A.frames = some X.stack
  stk : X.stack = X.outer ∨ (X.stack = X.env :: X.outer ∧ X.env.frame = some X.env.locals)
  exf : ∀ b ∈ X.ex, b ≠ X.env.locals ∧ ∀ x c, X.env.cells.lookup x = some c → c ≠ b
  bs : ∀ b o, X.base.get? b = some o → X.s₀.heap.get? b = some o ∧ X.H₀ b = none
  bsz : X.base.objs.size ≤ X.s₀.heap.objs.size
  noex : ∀ b o, X.base.get? b = some o → b ∉ X.ex
  exfs : ∀ b ∈ X.ex, b ∉ X.fs
  funs : X.s₀.heap.FunFrames X.base X.outer
  frf : ∀ b ∈ X.fs, X.H₀ b = none

structure Inv (X : Cx) (pins : List (Addr × Obj)) (σ : List (Option V)) (H : Hp) (s : Shared) : Prop where
  ok : X.Ok
  os : s.os = X.s₀.os
  bare : AllBare s.gens
  base : Un X.fs X.ex X.H₀ H X.s₀.heap s.heap
  loc : ∃ m, s.heap.Ns X.env.locals m ∧ ∀ (i : Nat) (x : Str) (v : V), X.N[i]? = some x → σ[i]? = some (some v) → Vis X.env.scope x → ∃ u, RelV v u ∧ Look X.env s.heap m x u
  cell : ∀ x c, X.env.cells.lookup x = some c → ∃ v, s.heap.IsCell c v
  free : H X.env.locals = none
  freeC : ∀ x c, X.env.cells.lookup x = some c → H c = none
  pin : ∀ p ∈ X.pn ++ pins, s.heap.get? p.1 = some p.2 ∧ H p.1 = none ∧ p.1 ≠ X.env.locals ∧ p.1 ∉ X.fs ∧ ∀ v, p.2.data ≠ .cell v
  hok : HOk X.prog X.w H s.heap
  len : σ.length = X.N.length

section
variable {X : Cx} {pins : List (Addr × Obj)} {σ : List (Option V)} {H H' : Hp} {s : Shared} {h' : Heap}

theorem Cx.Ok.nofr (ok : X.Ok) {b : Addr} {o : Obj} (e : X.base.get? b = some o) : b ∉ X.fs := fun hb => by
  have := (ok.funs.mem hb).1
  rw [e] at this; cases this
theorem Inv.bs (I : Inv X pins σ H s) : ∀ b o, X.base.get? b = some o → s.heap.get? b = some o ∧ H b = none := fun b o e =>
  ⟨I.base.keep b o (I.ok.bs b o e).1 (I.ok.bs b o e).2 (I.ok.nofr e) (I.ok.noex b o e), I.base.free b o (I.ok.bs b o e).1 (I.ok.bs b o e).2 (I.ok.noex b o e)⟩
theorem Inv.bk (I : Inv X pins σ H s) : ∀ b o, X.base.get? b = some o → s.heap.get? b = some o := fun b o e => (I.bs b o e).1
theorem Inv.mod (I : Inv X pins σ H s) : Mod X.K X.mg X.base := I.ok.mod
theorem Inv.kIn (I : Inv X pins σ H s) : X.K.In s.heap := I.ok.mod.kin.keeps I.bk
theorem Inv.lt (I : Inv X pins σ H s) : X.env.locals < s.heap.objs.size := let ⟨_, hn, _⟩ := I.loc; hn.lt
theorem Inv.sz (I : Inv X pins σ H s) : X.s₀.heap.objs.size ≤ s.heap.objs.size := Nat.le_trans I.ok.above (Nat.le_of_lt I.lt)
theorem Inv.nofs (I : Inv X pins σ H s) {a : Addr} (h : s.heap.objs.size ≤ a) : a ∉ X.fs := fun hb => by
  obtain ⟨_, o, ho, _⟩ := I.ok.funs.mem hb
  exact absurd (Nat.lt_of_lt_of_le (Heap.lt_size ho) (Nat.le_trans I.sz h)) (Nat.lt_irrefl _)
theorem Inv.cne (I : Inv X pins σ H s) : ∀ x c, X.env.cells.lookup x = some c → c ≠ X.env.locals := fun x c e z => by
  obtain ⟨v, o, ho, hd⟩ := I.cell x c e
  obtain ⟨m, ⟨o', es, ep, ho', hd', _⟩, _⟩ := I.loc
  rw [z, ho'] at ho; cases ho; rw [hd'] at hd; cases hd
theorem Inv.funs (I : Inv X pins σ H s) : s.heap.FunFrames X.base X.outer := by
  have all : ∀ (l : List Env), (∀ b ∈ frs l, b ∈ X.fs) → X.s₀.heap.FunFrames X.base l → s.heap.FunFrames X.base l := by
    intro l
    induction l with
    | nil => intro _ _; trivial
    | cons env r ih =>
      intro hs hl
      obtain ⟨hk, ⟨L, o, hf, hn, ho, hd⟩, hr⟩ := hl
      have hL : L ∈ X.fs := hs L (by unfold frs; rw [List.filterMap_cons, hf]; exact List.mem_cons_self)
      obtain ⟨sl, e⟩ := I.base.slot L o ho (I.ok.frf L hL) hL fun z => I.ok.exfs L z hL
      exact ⟨hk, ⟨L, _, hf, hn, e, hd⟩, ih (fun b hb => hs b (by unfold frs; rw [List.filterMap_cons, hf]; exact List.mem_cons_of_mem _ hb)) hr⟩
  exact all X.outer (fun _ hb => hb) I.ok.funs

/-- the frames that run, for a call -/
theorem Inv.stack (I : Inv X pins σ H s) : s.heap.FunFrames X.base X.stack := by
  rcases I.ok.stk with e | ⟨e, hf⟩
  · rw [e]; exact I.funs
  · rw [e]
    obtain ⟨m, hn, _⟩ := I.loc
    refine .cons (by rw [I.ok.kind]; decide) hf hn ?_ I.funs
    exact Heap.get?_none_of_le (Nat.le_trans I.ok.bsz I.ok.above)
theorem Inv.stkSub (I : Inv X pins σ H s) : ∀ b ∈ frs X.stack, b ∈ X.env.locals :: X.fs := fun b hb => by
  rcases I.ok.stk with e | ⟨e, hf⟩
  · rw [e] at hb; exact List.mem_cons_of_mem _ hb
  · rw [e] at hb
    unfold frs at hb
    rw [List.filterMap_cons, hf] at hb
    exact hb
theorem Inv.stkFree (I : Inv X pins σ H s) : ∀ b ∈ frs X.stack, H b = none := fun b hb => by
  rcases List.mem_cons.mp (I.stkSub b hb) with e | hb
  · rw [e]; exact I.free
  · obtain ⟨_, o, ho, _⟩ := I.ok.funs.mem hb
    exact I.base.free b o ho (I.ok.frf b hb) fun z => I.ok.exfs b z hb

/-- THE STEP: the untracked objects but the frame and the records at ch are kept (the callers' frames up to slots), the frame's map is kept, the new abstract heap is held -/
theorem Inv.step {g' : Array GenState} {t' : Nat} {d' : Drawn} {ch : List Addr} (I : Inv X pins σ H s)
    (hch : ∀ b ∈ ch, (b ∈ X.ex ∨ X.s₀.heap.objs.size ≤ b) ∧ b ≠ X.env.locals ∧ (∀ x c, X.env.cells.lookup x = some c → c ≠ b) ∧ ∀ p ∈ X.pn ++ pins, p.1 ≠ b)
    (keep : ∀ b o, b ≠ X.env.locals → b ∉ X.fs → b ∉ ch → s.heap.get? b = some o → H b = none → h'.get? b = some o)
    (slot : ∀ b o, b ≠ X.env.locals → b ∈ X.fs → b ∉ ch → s.heap.get? b = some o → H b = none → ∃ sl, h'.get? b = some { o with slots := sl }) (free : ∀ b o, b ∉ ch → s.heap.get? b = some o → H b = none → H' b = none)
    (there : ∀ b o, b ∉ ch → s.heap.get? b = some o → ∃ o', h'.get? b = some o')
    (tups : ∀ b xs, H b = some (.tup xs) → H' b = some (.tup xs)) (frzs : ∀ b o u, H b = some (.frz o u) → H' b = some (.frz o u)) (tbls : ∀ b ps, H b = some (.tbl ps) → ∃ more, H' b = some (.tbl (ps ++ more)))
    (ns : ∀ m, s.heap.Ns X.env.locals m → h'.Ns X.env.locals m) (hok : HOk X.prog X.w H' h') (hg : AllBare g') :
    Inv X pins σ H' { s with heap := h', gens := g', drawn := d', toks := t' } := by
  have neL : ∀ b o, X.s₀.heap.get? b = some o → b ≠ X.env.locals := fun b o e => Nat.ne_of_lt (Nat.lt_of_lt_of_le (Heap.lt_size e) I.ok.above)
  have neC : ∀ b o, X.s₀.heap.get? b = some o → b ∉ X.ex → b ∉ ch := fun b o e hx hb => by
    rcases (hch b hb).1 with z | z
    · exact hx z
    · exact absurd (Nat.lt_of_lt_of_le (Heap.lt_size e) z) (Nat.lt_irrefl _)
  have cellK : ∀ x c, X.env.cells.lookup x = some c → ∀ v, s.heap.IsCell c v → h'.IsCell c v := fun x c e v ⟨o, ho, hd⟩ => by
    have nch : c ∉ ch := fun z => (hch c z).2.2.1 x c e rfl
    by_cases hc : c ∈ X.fs
    · obtain ⟨sl, q⟩ := slot c o (I.cne x c e) hc nch ho (I.freeC x c e)
      exact ⟨_, q, hd⟩
    · exact ⟨o, keep c o (I.cne x c e) hc nch ho (I.freeC x c e), hd⟩
  refine ⟨I.ok, I.os, hg, ⟨fun b o e n hb hx => ?_, fun b o e n hb hx => ?_, fun b o e n hx => ?_, fun b o e hx => ?_, fun b xs e => tups b xs (I.base.tups b xs e), fun b o xs e => frzs b o xs (I.base.frzs b o xs e), fun b ps e => ?_⟩, ?_, fun x c e => ?_, ?_, fun x c e => ?_, fun p hp => ?_, hok, I.len⟩
  · exact keep b o (neL b o e) hb (neC b o e hx) (I.base.keep b o e n hb hx) (I.base.free b o e n hx)
  · obtain ⟨sl, e1⟩ := I.base.slot b o e n hb hx
    obtain ⟨sl', e2⟩ := slot b _ (neL b o e) hb (neC b o e hx) e1 (I.base.free b o e n hx)
    exact ⟨sl', e2⟩
  · obtain ⟨o', e1⟩ := I.base.there b o e hx
    exact free b o' (neC b o e hx) e1 (I.base.free b o e n hx)
  · obtain ⟨o', e1⟩ := I.base.there b o e hx
    exact there b o' (neC b o e hx) e1
  · obtain ⟨m1, e1⟩ := I.base.tbls b ps e
    obtain ⟨m2, e2⟩ := tbls b _ e1
    exact ⟨m1 ++ m2, by rw [e2, Array.append_assoc]⟩
  · obtain ⟨m, hn, hl⟩ := I.loc
    refine ⟨m, ns m hn, fun i x v e1 e2 e3 => ?_⟩
    obtain ⟨u, r, l⟩ := hl i x v e1 e2 e3
    refine ⟨u, r, ?_⟩
    rcases l with l | ⟨k, c, e, z⟩
    · exact .inl l
    · exact .inr ⟨k, c, e, cellK x c e _ z⟩
  · obtain ⟨v, z⟩ := I.cell x c e
    exact ⟨v, cellK x c e v z⟩
  · obtain ⟨m, ⟨o, _, _, ho, _⟩, _⟩ := I.loc
    exact free _ o (fun z => (hch _ z).2.1 rfl) ho I.free
  · obtain ⟨v, o, ho, hd⟩ := I.cell x c e
    exact free c o (fun z => (hch c z).2.2.1 x c e rfl) ho (I.freeC x c e)
  · obtain ⟨e, n, ne, nf, d⟩ := I.pin p hp
    have nch : p.1 ∉ ch := fun z => (hch p.1 z).2.2.2 p hp rfl
    exact ⟨keep p.1 p.2 ne nf nch e n, free p.1 p.2 nch e n, ne, nf, d⟩
/-- .. where the frame's own object is kept too -/
theorem Inv.un {t' : Nat} (I : Inv X pins σ H s) (u : Un X.fs [] H H' s.heap h') (hok : HOk X.prog X.w H' h') : Inv X pins σ H' { s with heap := h', toks := t' } := by
  obtain ⟨m, ⟨o, es, ep, ho, r⟩, _⟩ := id I.loc
  obtain ⟨sl, hL⟩ := u.any ho I.free (by simp)
  exact I.step (g' := s.gens) (d' := s.drawn) (ch := []) (fun _ z => nomatch z) (fun b o _ hb _ e n => u.keep b o e n hb (by simp)) (fun b o _ hb _ e n => u.slot b o e n hb (by simp)) (fun b o _ e n => u.free b o e n (by simp)) (fun b o _ e => u.there b o e (by simp)) u.tups u.frzs u.tbls (fun m' hm => by
    obtain ⟨o', es', ep', ho', r'⟩ := hm
    rw [ho] at ho'; cases ho'
    exact ⟨_, es', ep', hL, r'⟩) hok I.bare
/-- behind a call (or a comprehension's block): the slots of this frame may have changed too, the records at ch may have turned -/
theorem Inv.call {g' : Array GenState} {t' : Nat} {d' : Drawn} {ch : List Addr} (I : Inv X pins σ H s) (u : Un (frs X.stack) ch H H' s.heap h') (hok : HOk X.prog X.w H' h') (hg : AllBare g')
    (hch : ∀ b ∈ ch, (b ∈ X.ex ∨ X.s₀.heap.objs.size ≤ b) ∧ b ≠ X.env.locals ∧ (∀ x c, X.env.cells.lookup x = some c → c ≠ b) ∧ ∀ p ∈ X.pn ++ pins, p.1 ≠ b) :
    Inv X pins σ H' { s with heap := h', gens := g', drawn := d', toks := t' } := by
  obtain ⟨m, ⟨o, es, ep, ho, r⟩, _⟩ := id I.loc
  obtain ⟨sl, hL⟩ := u.any ho I.free fun z => (hch _ z).2.1 rfl
  exact I.step (ch := ch) hch (fun b o hL hb hc e n => u.keep b o e n (fun z => (List.mem_cons.mp (I.stkSub b z)).elim hL hb) hc) (fun b o _ _ hc e n => u.any e n hc) (fun b o hc e n => u.free b o e n hc) (fun b o hc e => u.there b o e hc) u.tups u.frzs u.tbls (fun m' hm => by
    obtain ⟨o', es', ep', ho', r'⟩ := hm
    rw [ho] at ho'; cases ho'
    exact ⟨_, es', ep', hL, r'⟩) hok hg
/-- an untracked record of ours (an iterator) has turned -/
theorem Inv.turned {t' : Nat} {it : Addr} (I : Inv X pins σ H s) (k : ∀ b o, b ≠ it → s.heap.get? b = some o → h'.get? b = some o) (hn : H it = none) (hL : it ≠ X.env.locals)
    (h1 : it ∈ X.ex ∨ X.s₀.heap.objs.size ≤ it) (h2 : ∀ x c, X.env.cells.lookup x = some c → c ≠ it) (h3 : ∀ p ∈ X.pn ++ pins, p.1 ≠ it) : Inv X pins σ H { s with heap := h', toks := t' } := by
  have nit : ∀ b u, H b = some u → b ≠ it := fun b u e z => by rw [z, hn] at e; cases e
  refine I.step (g' := s.gens) (d' := s.drawn) (ch := [it]) (fun b hb => ?_) (fun b o _ _ hc e _ => k b o (fun z => hc (by simp [z])) e) (fun b o _ _ hc e _ => ⟨o.slots, k b o (fun z => hc (by simp [z])) e⟩) (fun _ _ _ _ n => n)
    (fun b o hc e => ⟨o, k b o (fun z => hc (by simp [z])) e⟩) (fun _ _ e => e) (fun _ _ _ e => e) (fun b ps e => ⟨#[], by rw [e]; simp⟩) (fun m hm => ?_) (fun b u e => ?_) I.bare
  · have e : b = it := by simpa using hb
    subst e
    exact ⟨h1, hL, h2, h3⟩
  · obtain ⟨o, es, ep, ho, r⟩ := hm
    exact ⟨o, es, ep, k _ o (Ne.symm hL) ho, r⟩
  · refine (I.hok b u e).stay (fun c v hc q => k c v ?_ q) (fun _ q => q) fun _ _ q => q
    rcases hc with z | z
    · rw [z]; exact nit b u e
    · exact nit c _ z
theorem Inv.tok (I : Inv X pins σ H s) (t : Nat) : Inv X pins σ H { s with toks := t } := I.un (h' := s.heap) (t' := t) Un.refl I.hok
/-- all objects kept -/
theorem Inv.kept {t' : Nat} (I : Inv X pins σ H s) (k : ∀ b u, s.heap.get? b = some u → h'.get? b = some u) : Inv X pins σ H { s with heap := h', toks := t' } := I.un (Un.kept k) (I.hok.kept k)
/-- a new object laid and tracked -/
theorem Inv.laid {a : Addr} {o : HO} {t' : Nat} (I : Inv X pins σ H s) (k : ∀ b u, s.heap.get? b = some u → h'.get? b = some u) (hp : s.heap.objs.size ≤ a) (new : ObjOk X.prog X.w (upd H a o) h' a o) :
    Inv X pins σ (upd H a o) { s with heap := h', toks := t' } := I.un (Un.laid k hp (I.hok.fresh hp)) (I.hok.laid k hp new)
/-- an object written -/
theorem Inv.write {x e : Addr} {o : HO} {t' : Nat} (I : Inv X pins σ H s) (mu : Mut (H x)) (he : e = x ∨ H e = some (.own x)) (k : ∀ b u, b ≠ e → s.heap.get? b = some u → h'.get? b = some u) (heo : ∃ u, h'.get? e = some u)
    (new : ObjOk X.prog X.w (upd H x o) h' x o) : Inv X pins σ (upd H x o) { s with heap := h', toks := t' } := I.un (Un.write mu he k heo) (I.hok.write mu he k heo new)
theorem Inv.pins_of {pins' : List (Addr × Obj)} (I : Inv X pins σ H s) (h : ∀ p ∈ pins', s.heap.get? p.1 = some p.2 ∧ H p.1 = none ∧ p.1 ≠ X.env.locals ∧ p.1 ∉ X.fs ∧ ∀ v, p.2.data ≠ .cell v) : Inv X pins' σ H s :=
  ⟨I.ok, I.os, I.bare, I.base, I.loc, I.cell, I.free, I.freeC, fun p hp => (List.mem_append.mp hp).elim (fun z => I.pin p (List.mem_append_left _ z)) (h p), I.hok, I.len⟩

theorem nodup_ix {N : List Str} (hN : N.Nodup) {i j : Nat} {x : Str} (a : N[i]? = some x) (b : N[j]? = some x) : i = j := by
  obtain ⟨h1, e1⟩ := List.getElem?_eq_some_iff.mp a
  obtain ⟨h2, e2⟩ := List.getElem?_eq_some_iff.mp b
  exact (List.getElem_inj hN).mp (e1.trans e2.symm)

/-- a name is stored; what changed -/
theorem store_ok2 {M : Model} {A : Around} {E : Value → Shared → Prop} {i : Nat} {x : Str} {v : V} {u : Value} {Q : Unit → Shared → Prop} (I : Inv X pins σ H s) (hN : X.N.Nodup) (hi : X.N[i]? = some x) (hx : Loc X.env.scope x) (r : RelV v u)
    (h : ∀ s', Inv X pins (σ.set i (some v)) H s' → (∃ a, Heap.SameBut a s.heap s'.heap ∧ (a = X.env.locals ∨ X.env.cells.lookup x = some a)) → Q () s') (hf : X.fn x = true ∨ X.env.scope.names.lookup x = some .local := by first | exact .inl rfl | exact .inr rfl | assumption) : wpAny M A (storeName X.env x u) Q E s := by
  obtain ⟨m, hn, hl⟩ := id I.loc
  have hcls : (X.env.scope.kind == .class || (X.env.scope.kind == .module && X.env.locals != X.env.globals)) = false := by rw [I.ok.kind]; rfl
  have hiσ : i < σ.length := by rw [I.len]; exact (List.getElem?_eq_some_iff.mp hi).1
  have cne := I.cne
  have tracked : ∀ {a : Addr} {h' : Heap}, (∃ o, s.heap.get? a = some o ∧ H a = none) → Heap.SameBut a s.heap h' → HOk X.prog X.w H h' := fun {a h'} ha hs b ob e => by
    obtain ⟨_, _, hfree⟩ := ha
    refine (I.hok b ob e).stay (fun c w' hc q => (hs.2 c ?_).trans q) (fun _ q => q) fun _ _ q => q
    rintro rfl
    rcases hc with rfl | hc
    · rw [hfree] at e; cases e
    · rw [hfree] at hc; cases hc
  rcases hx with hk | hk
  · refine wpAny_storeName_local hk hn (fun h' hn' hs => ?_) hcls
    obtain ⟨oL, _, _, hoL, _⟩ := id hn
    refine h _ ⟨I.ok, I.os, I.bare, ⟨fun b o e n hb hx => ?_, fun b o e n hb hx => ?_, I.base.free, fun b o e hx => ?_, I.base.tups, I.base.frzs, I.base.tbls⟩, ⟨_, hn', fun j y v' e1 e2 e3 => ?_⟩, fun y c e => ?_, I.free, I.freeC, fun p hp => ?_, tracked ⟨oL, hoL, I.free⟩ hs, by simpa using I.len⟩ ⟨_, hs, .inl rfl⟩
    · exact (hs.2 b (Nat.ne_of_lt (Nat.lt_of_lt_of_le (Heap.lt_size e) I.ok.above))).trans (I.base.keep b o e n hb hx)
    · obtain ⟨sl, e1⟩ := I.base.slot b o e n hb hx
      exact ⟨sl, (hs.2 b (Nat.ne_of_lt (Nat.lt_of_lt_of_le (Heap.lt_size e) I.ok.above))).trans e1⟩
    · obtain ⟨o', e1⟩ := I.base.there b o e hx
      exact ⟨o', (hs.2 b (Nat.ne_of_lt (Nat.lt_of_lt_of_le (Heap.lt_size e) I.ok.above))).trans e1⟩
    · by_cases hj : j = i
      · subst hj
        rw [hi] at e1; cases e1
        rw [List.getElem?_set_self hiσ] at e2
        cases e2
        exact ⟨u, r, .inl ⟨hk, by simp⟩⟩
      · rw [List.getElem?_set_ne (Ne.symm hj)] at e2
        obtain ⟨u', r', q⟩ := hl j y v' e1 e2 e3
        refine ⟨u', r', ?_⟩
        rcases q with ⟨k, e⟩ | ⟨k, c, e, z⟩
        · refine .inl ⟨k, ?_⟩
          have : y ≠ x := fun e => hj (nodup_ix hN e1 (e ▸ hi))
          simp [this, e]
        · exact .inr ⟨k, c, e, z.sameBut hs (cne y c e)⟩
    · obtain ⟨w', z⟩ := I.cell y c e
      exact ⟨w', z.sameBut hs (cne y c e)⟩
    · obtain ⟨e, n, ne, nf, d⟩ := I.pin p hp
      exact ⟨(hs.2 p.1 ne).trans e, n, ne, nf, d⟩
  · have hfn : X.fn x = true := by
      rcases hf with z | z
      · exact z
      · rw [z] at hk; cases hk
    obtain ⟨c, hc⟩ := I.ok.has x (.inl hk)
    obtain ⟨w', z⟩ := I.cell x c hc
    refine wpAny_storeName_cell I.ok.kind hk hc z (fun h' hc' hs => ?_)
    obtain ⟨oc, hoc, hocd⟩ := id z
    refine h { s with heap := h' } ⟨I.ok, I.os, I.bare, ⟨fun b o e n hb hx => ?_, fun b o e n hb hx => ?_, I.base.free, fun b o e hx => ?_, I.base.tups, I.base.frzs, I.base.tbls⟩, ⟨m, hn.sameBut hs (Ne.symm (cne x c hc)), fun j y v' e1 e2 e3 => ?_⟩, fun y c' e => ?_, I.free, I.freeC, fun p hp => ?_, tracked ⟨oc, hoc, I.freeC x c hc⟩ hs, by simpa using I.len⟩ ⟨c, hs, .inr hc⟩
    · exact (hs.2 b (Nat.ne_of_lt (Nat.lt_of_lt_of_le (Heap.lt_size e) (I.ok.cab x c hfn hc)))).trans (I.base.keep b o e n hb hx)
    · obtain ⟨sl, e1⟩ := I.base.slot b o e n hb hx
      exact ⟨sl, (hs.2 b (Nat.ne_of_lt (Nat.lt_of_lt_of_le (Heap.lt_size e) (I.ok.cab x c hfn hc)))).trans e1⟩
    · obtain ⟨o', e1⟩ := I.base.there b o e hx
      exact ⟨o', (hs.2 b (Nat.ne_of_lt (Nat.lt_of_lt_of_le (Heap.lt_size e) (I.ok.cab x c hfn hc)))).trans e1⟩
    · by_cases hj : j = i
      · subst hj
        rw [hi] at e1; cases e1
        rw [List.getElem?_set_self hiσ] at e2
        cases e2
        exact ⟨u, r, .inr ⟨.inl hk, c, hc, hc'⟩⟩
      · rw [List.getElem?_set_ne (Ne.symm hj)] at e2
        obtain ⟨u', r', q⟩ := hl j y v' e1 e2 e3
        refine ⟨u', r', ?_⟩
        rcases q with q | ⟨k, c', e, z'⟩
        · exact .inl q
        · refine .inr ⟨k, c', e, z'.sameBut hs ?_⟩
          rintro rfl
          exact hj (nodup_ix hN e1 (I.ok.inj _ _ _ e hc ▸ hi))
    · by_cases hcc : c' = c
      · subst hcc; exact ⟨_, hc'⟩
      · obtain ⟨w2, z2⟩ := I.cell y c' e
        exact ⟨w2, z2.sameBut hs hcc⟩
    · obtain ⟨e, n, ne, nf, d⟩ := I.pin p hp
      refine ⟨(hs.2 p.1 ?_).trans e, n, ne, nf, d⟩
      intro q
      rw [q, hoc] at e
      have q' : oc = p.2 := Option.some.inj e
      exact d w' (by rw [← q']; exact hocd)
theorem store_ok {M : Model} {A : Around} {E : Value → Shared → Prop} {i : Nat} {x : Str} {v : V} {u : Value} {Q : Unit → Shared → Prop} (I : Inv X pins σ H s) (hN : X.N.Nodup) (hi : X.N[i]? = some x) (hx : Loc X.env.scope x) (r : RelV v u)
    (h : ∀ s', Inv X pins (σ.set i (some v)) H s' → Q () s') (hf : X.fn x = true ∨ X.env.scope.names.lookup x = some .local := by first | exact .inl rfl | exact .inr rfl | assumption) : wpAny M A (storeName X.env x u) Q E s :=
  store_ok2 I hN hi hx r (fun s' I' _ => h s' I') hf
/-- behind a call or a block, the state as it is -/
theorem Inv.call' {s' : Shared} {ch : List Addr} (I : Inv X pins σ H s) (ho : s'.os = s.os) (u : Un (frs X.stack) ch H H' s.heap s'.heap) (hok : HOk X.prog X.w H' s'.heap) (hg : AllBare s'.gens)
    (hch : ∀ b ∈ ch, (b ∈ X.ex ∨ X.s₀.heap.objs.size ≤ b) ∧ b ≠ X.env.locals ∧ (∀ x c, X.env.cells.lookup x = some c → c ≠ b) ∧ ∀ p ∈ X.pn ++ pins, p.1 ≠ b) : Inv X pins σ H' s' := by
  obtain ⟨h', g', d', t', o'⟩ := s'
  have e : o' = s.os := ho
  subst e
  exact I.call (g' := g') (t' := t') (d' := d') u hok hg hch
end

/-! ### the judgements -/
/-- an exception: its class, its own dict's address (where it has one), the abstract heap behind it -/
abbrev XK := Value → Option Addr → Hp → Prop
abbrev St := List (Option V)
abbrev VK := V → Hp → Prop
/-- an expression's reading; a test's; an argument list's -/
abbrev TE := St → Hp → VK → Prop
abbrev TT := St → Hp → (Bool → Hp → Prop) → Prop
abbrev TA := St → Hp → (List V → Hp → Prop) → Prop
/-- what is wanted behind a statement -/
structure Ends where
  nx : St → Hp → Prop
  rt : VK
  bk : St → Hp → Prop := fun _ _ => False
  ct : St → Hp → Prop := fun _ _ => False
abbrev TS := Ends → St → Hp → Prop

def EP (X : Cx) (pins : List (Addr × Obj)) (σ : St) (Q : VK) (u : Value) (s' : Shared) : Prop := ∃ v H', Inv X pins σ H' s' ∧ RelV v u ∧ Q v H'
def TP (X : Cx) (pins : List (Addr × Obj)) (σ : St) (Q : Bool → Hp → Prop) (b : Bool) (s' : Shared) : Prop := ∃ H', Inv X pins σ H' s' ∧ Q b H'
def AP (X : Cx) (pins : List (Addr × Obj)) (σ : St) (Q : List V → Hp → Prop) (us : List Value) (s' : Shared) : Prop := ∃ vs H', Inv X pins σ H' s' ∧ Vals vs us ∧ Q vs H'
def SP (X : Cx) (pins : List (Addr × Obj)) (D : Ends) (f : Flow) (s' : Shared) : Prop :=
  match f with
  | .next => ∃ σ' H', Inv X pins σ' H' s' ∧ D.nx σ' H'
  | .brk => ∃ σ' H', Inv X pins σ' H' s' ∧ D.bk σ' H'
  | .cont => ∃ σ' H', Inv X pins σ' H' s' ∧ D.ct σ' H'
  | .ret u => ∃ v σ' H', Inv X pins σ' H' s' ∧ RelV v u ∧ D.rt v H'

def PE (X : Cx) (e : Expr) (t : TE) : Prop :=
  ∀ (pins : List (Addr × Obj)) (s : Shared) (σ : St) (H : Hp) (Q : VK), Inv X pins σ H s → t σ H Q → wpAny (model X.prog X.w) X.A (eval e X.env) (EP X pins σ Q) X.xe s
def PT (X : Cx) (e : Expr) (t : TT) : Prop :=
  ∀ (pins : List (Addr × Obj)) (s : Shared) (σ : St) (H : Hp) (Q : Bool → Hp → Prop), Inv X pins σ H s → t σ H Q → wpAny (model X.prog X.w) X.A (isTrue e X.env (eval e X.env)) (TP X pins σ Q) X.xe s
/-- a test whatever its 'whole' is (and, or) -/
def PW (X : Cx) (e : Expr) (t : TT) : Prop :=
  ∀ (whole : Sem Value) (pins : List (Addr × Obj)) (s : Shared) (σ : St) (H : Hp) (Q : Bool → Hp → Prop), Inv X pins σ H s → t σ H Q → wpAny (model X.prog X.w) X.A (isTrue e X.env whole) (TP X pins σ Q) X.xe s
theorem PW.pt {X : Cx} {e : Expr} {t : TT} (h : PW X e t) : PT X e t := h _
/-- an argument list (no star), from the left -/
def PA (X : Cx) (es : List Expr) (t : TA) : Prop :=
  ∀ (pos : Pos) (pins : List (Addr × Obj)) (s : Shared) (σ : St) (H : Hp) (Q : List V → Hp → Prop), Inv X pins σ H s → t σ H Q → wpAny (model X.prog X.w) X.A (spliced (backTo pos (starEach es X.env))) (AP X pins σ Q) X.xe s
def PS (X : Cx) (st : Stmt) (t : TS) : Prop :=
  ∀ (pins : List (Addr × Obj)) (s : Shared) (σ : St) (H : Hp) (D : Ends), Inv X pins σ H s → t D σ H → wpAny (model X.prog X.w) X.A (exec st X.env) (SP X pins D) X.xe s
def PSs (X : Cx) (st : List Stmt) (t : TS) : Prop :=
  ∀ (pins : List (Addr × Obj)) (s : Shared) (σ : St) (H : Hp) (D : Ends), Inv X pins σ H s → t D σ H → wpAny (model X.prog X.w) X.A (execs st X.env) (SP X pins D) X.xe s
/-- weaken the end -/
theorem thn {α : Type} {t : Sem α} {Q Q' : α → Shared → Prop} {M : Model} {A : Around} {E : Value → Shared → Prop} {s : Shared} (h : wpAny M A t Q E s) (hQ : ∀ a s, Q a s → Q' a s) : wpAny M A t Q' E s := wpAny_mono h hQ fun _ _ x => x
end L2

namespace L2
open PySem PySem.Spec PyProof.Rows
section
variable {X : Cx}

/-! ### names and constants -/
def tVar (i : Nat) : TE := fun σ H Q => ∃ v, σ[i]? = some (some v) ∧ Q v H
def tC (v : V) : TE := fun _ H Q => Q v H
theorem pe_var {i : Nat} {x : Str} {pos : Pos} (hN : X.N[i]? = some x) (hv : Vis X.env.scope x) (hd : (x == ("__debug__" : Str)) = false := by decide) (hcd : (x == ("__classdict__" : Str)) = false := by decide) : PE X (.Name x pos) (tVar i) := by
  intro pins s σ H Q I h
  obtain ⟨v, e, h⟩ := h
  obtain ⟨m, hn, hl⟩ := I.loc
  obtain ⟨u, r, l⟩ := hl i x v hN e hv
  have fin : EP X pins σ Q u s := ⟨v, H, I, r, h⟩
  rcases l with ⟨hk, hm⟩ | ⟨hk, c, hc, hcell⟩
  · exact wpAny_Name (wpAny_loadName_local I.ok.kind hk hn hm fin) hd
  · rcases hk with hk | hk
    · exact wpAny_Name (wpAny_loadName_cell I.ok.kind hk hc hcell fin) hd
    · exact wpAny_Name (wpAny_loadName_free I.ok.kind hk hc hcell fin hcd) hd
theorem pe_int {i j pos} : PE X (.Constant (.int i) j pos) (tC (.int i)) := fun _ _ _ H _ I h => wpAny_Constant_int ⟨.int i, H, I.tok _, ⟨_, rfl⟩, h⟩
theorem pe_bl {b j pos} : PE X (.Constant (.bool b) j pos) (tC (.bl b)) := fun _ _ _ H _ I h => Constant_bool ⟨.bl b, H, I, rfl, h⟩
theorem pe_non {j pos} : PE X (.Constant .none j pos) (tC .non) := fun _ _ _ H _ I h => Constant_none ⟨.non, H, I, rfl, h⟩
/-- a global name of the def -/
def Gl (X : Cx) (x : Str) : Prop := X.env.kindOf x = some .globalImplicit
theorem ld_glob {E : Value → Shared → Prop} {pins : List (Addr × Obj)} {s : Shared} {σ : St} {H : Hp} {x : Str} {u : Value} {pos : Pos} {Q : Value → Shared → Prop} (I : Inv X pins σ H s) (hg : Gl X x) (hm : X.mg x = some u) (h : Q u s)
    (hd : (x == ("__debug__" : Str)) = false := by decide) : wpAny (model X.prog X.w) X.A (eval (.Name x pos) X.env) Q E s :=
  Calls.Name_function_global I.ok.kind hg (Calls.loadGlobal_global (by rw [I.ok.glob]; exact I.mod.glob.keeps I.bk) hm h) hd
theorem ld_blt {E : Value → Shared → Prop} {pins : List (Addr × Obj)} {s : Shared} {σ : St} {H : Hp} {x : Str} {u : Value} {pos : Pos} {Q : Value → Shared → Prop} (I : Inv X pins σ H s) (hg : Gl X x) (hm : X.mg x = none) (hv : bootBuiltins x = some u) (h : Q u s)
    (hn : x ≠ "__name__" := by decide) (hd : (x == ("__debug__" : Str)) = false := by decide) : wpAny (model X.prog X.w) X.A (eval (.Name x pos) X.env) Q E s := by
  obtain ⟨mb, h1, h2⟩ := I.mod.blt
  exact Calls.Name_function_global I.ok.kind hg (Calls.loadGlobal_builtin (by rw [I.ok.glob]; exact I.mod.glob.keeps I.bk) hm (by rw [I.ok.blt]; exact h1.keeps I.bk) ((h2 x hn).trans hv) h) hd
theorem pe_bltn {x : Str} {v : V} {u : Value} {pos : Pos} (hg : Gl X x) (hm : X.mg x = none) (hv : bootBuiltins x = some u) (r : RelV v u) (hn : x ≠ "__name__" := by decide) (hd : (x == ("__debug__" : Str)) = false := by decide) : PE X (.Name x pos) (tC v) :=
  fun _ _ _ H _ I h => ld_blt I hg hm hv ⟨v, H, I, r, h⟩ hn hd

/-! ### arithmetic -/
variable {a b : Expr} {ta tb : TE} {pos : Pos}
/-! ### comparisons -/
/-! ### and, or, not -/
variable {tA tB' : TT} {rest : List Expr}
def tAnd (t u : TT) : TT := fun σ H Q => t σ H fun c H1 => if c = true then u σ H1 Q else Q false H1
def tOr (t u : TT) : TT := fun σ H Q => t σ H fun c H1 => if c = true then Q true H1 else u σ H1 Q
def tNot (t : TT) : TT := fun σ H Q => t σ H fun c H1 => Q (!c) H1
theorem pw_and1 (ha : PT X a tA) : PW X (.BoolOp .And [a] pos) tA := by
  intro wh pins s σ H Q I h
  refine isTrue_and (thn (ha pins s σ H Q I h) fun c s1 e => ?_)
  cases c with
  | true => exact isTrue_and_nil e
  | false => exact e
theorem pw_or1 (ha : PT X a tA) : PW X (.BoolOp .Or [a] pos) tA := by
  intro wh pins s σ H Q I h
  refine isTrue_or (thn (ha pins s σ H Q I h) fun c s1 e => ?_)
  cases c with
  | false => exact isTrue_or_nil e
  | true => exact e
theorem pw_and (ha : PT X a tA) (hb : PW X (.BoolOp .And (b :: rest) pos) tB') : PW X (.BoolOp .And (a :: b :: rest) pos) (tAnd tA tB') := by
  intro wh pins s σ H Q I h
  refine isTrue_and (thn (ha pins s σ H _ I h) fun c s1 ⟨H1, I1, q1⟩ => ?_)
  cases c with
  | true => exact hb wh pins s1 σ H1 Q I1 q1
  | false => exact ⟨H1, I1, q1⟩
theorem pw_or (ha : PT X a tA) (hb : PW X (.BoolOp .Or (b :: rest) pos) tB') : PW X (.BoolOp .Or (a :: b :: rest) pos) (tOr tA tB') := by
  intro wh pins s σ H Q I h
  refine isTrue_or (thn (ha pins s σ H _ I h) fun c s1 ⟨H1, I1, q1⟩ => ?_)
  cases c with
  | true => exact ⟨H1, I1, q1⟩
  | false => exact hb wh pins s1 σ H1 Q I1 q1
theorem pt_not (ha : PT X a tA) : PT X (.UnaryOp .Not a pos) (tNot tA) := by
  intro pins s σ H Q I h
  exact isTrue_not (ha pins s σ H (fun c H1 => Q (!c) H1) I h)
/-- .. as values (bools) -/
def tAndV (ta tb : TE) : TE := fun σ H Q => ta σ H fun x H1 => ∃ c, x = .bl c ∧ if c = true then tb σ H1 Q else Q (.bl false) H1
def tNotV (ta : TE) : TE := fun σ H Q => ta σ H fun x H1 => ∃ c, x = .bl c ∧ Q (.bl (!c)) H1
theorem pe_one {op} {t : TE} (h : PE X a t) : PE X (.BoolOp op [a] pos) t := fun pins s σ H Q I hw => BoolOp_one (h pins s σ H Q I hw)
theorem pe_and (ha : PE X a ta) (hb : PE X (.BoolOp .And (b :: rest) pos) tb) : PE X (.BoolOp .And (a :: b :: rest) pos) (tAndV ta tb) := by
  intro pins s σ H Q I h
  refine BoolOp_and (thn (ha pins s σ H _ I h) fun v s1 ⟨x, H1, I1, r1, q1⟩ => ?_)
  obtain ⟨c, rfl, q1⟩ := q1
  cases r1
  refine wpAny_truthy_bool ?_
  cases c with
  | true => exact hb pins s1 σ H1 Q I1 q1
  | false => exact ⟨.bl false, H1, I1, rfl, q1⟩
theorem pe_not (ha : PE X a ta) : PE X (.UnaryOp .Not a pos) (tNotV ta) := by
  intro pins s σ H Q I h
  refine UnaryOp_ (thn (ha pins s σ H _ I h) fun v s1 ⟨x, H1, I1, r1, q1⟩ => ?_)
  obtain ⟨c, rfl, q1⟩ := q1
  cases r1
  exact not_of (wpAny_truthy_bool ⟨.bl (!c), H1, I1, rfl, q1⟩)
end
end L2

namespace L2
open PySem PySem.Spec PyProof.Rows

/-! ### a list, a tuple that is read: tracked, frozen, or an object of the module -/
def SqL (K : PySem.W.Frag) (H : Hp) (a : Addr) (xs : List V) : Prop :=
  Rd H a (.lst xs) ∨
    ∃ (o : Obj) (its : Array Value) (n : Nat), K.lookup a = some o ∧ o.cls = .type "list" ∧ o.dict = none ∧ o.data = .seq its n ∧ its.size ≤ sizeLine ∧ Vals xs its.toList
def SqT (K : PySem.W.Frag) (H : Hp) (a : Addr) (xs : List V) : Prop :=
  Rd H a (.tup xs) ∨
    ∃ (o : Obj) (its : Array Value) (n : Nat), K.lookup a = some o ∧ o.cls = .type "tuple" ∧ o.data = .seq its n ∧ its.size ≤ sizeLine ∧ Vals xs its.toList
def absV : Value → Option V
  | .none => some .non
  | .bool b => some (.bl b)
  | .int i _ => some (.int i)
  | .str x _ => some (.str x)
  | .bytes b _ => some (.byt b)
  | .float b _ => some (.flt b)
  | .ref a => some (.ref a)
  | .type n => some (.ty n)
  | _ => none
theorem RelV.abs {x : V} {u : Value} (r : RelV x u) : absV u = some x := by
  cases x with
  | non => cases r; rfl
  | bl _ => cases r; rfl
  | int _ => obtain ⟨t, rfl⟩ := r; rfl
  | str _ => obtain ⟨t, rfl⟩ := r; rfl
  | byt _ => obtain ⟨t, rfl⟩ := r; rfl
  | flt _ => obtain ⟨t, rfl⟩ := r; rfl
  | ref _ => cases r; rfl
  | ty _ => cases r; rfl
theorem RelV.inj {x y : V} {u : Value} (r : RelV x u) (q : RelV y u) : x = y := Option.some.inj (r.abs.symm.trans q.abs)
theorem Vals.inj : ∀ {xs ys : List V} {us : List Value}, Vals xs us → Vals ys us → xs = ys
  | _, _, _, .nil, .nil => rfl
  | _, _, _, .cons r t, .cons r' t' => by rw [r.inj r', Vals.inj t t']
section
variable {X : Cx} {pins : List (Addr × Obj)} {σ : St} {H : Hp} {s : Shared} {a : Addr} {xs ys : List V}
theorem SqL.of {K : PySem.W.Frag} (h : H a = some (.lst xs)) : SqL K H a xs := .inl (.inl h)
theorem SqT.of {K : PySem.W.Frag} (h : H a = some (.tup xs)) : SqT K H a xs := .inl (.inl h)
theorem Inv.list (I : Inv X pins σ H s) (h : SqL X.K H a xs) : ∃ its : List Value, Vals xs its ∧ PlainL s.heap a its.toArray ∧ xs.length ≤ sizeLine := by
  rcases h with h | ⟨o, its, n, hk, hc, hd, hs, hz, r⟩
  · obtain ⟨z, its, n, r, e⟩ := h.ok I.hok
    exact ⟨its, r, ⟨_, n, e, rfl, rfl, rfl⟩, z⟩
  · refine ⟨its.toList, r, ⟨o, n, I.kIn a o hk, hc, hd, by simpa using hs⟩, ?_⟩
    have e := r.length
    simp only [Array.length_toList] at e
    omega
theorem Inv.tuple (I : Inv X pins σ H s) (h : SqT X.K H a xs) : ∃ its : List Value, Vals xs its ∧ IsTup s.heap a its.toArray ∧ xs.length ≤ sizeLine := by
  rcases h with h | ⟨o, its, n, hk, hc, hs, hz, r⟩
  · obtain ⟨z, its, r, p, _⟩ := h.ok I.hok
    exact ⟨its, r, p, z⟩
  · refine ⟨its.toList, r, ⟨o, I.kIn a o hk, hc, n, by simpa using hs⟩, ?_⟩
    have e := r.length
    simp only [Array.length_toList] at e
    omega
theorem Inv.list_inj (I : Inv X pins σ H s) (h : SqL X.K H a xs) (h' : SqL X.K H a ys) : xs = ys := by
  obtain ⟨its, r, ⟨o, n, e, _, _, d⟩, _⟩ := I.list h
  obtain ⟨its', r', ⟨o', n', e', _, _, d'⟩, _⟩ := I.list h'
  rw [e] at e'; cases e'
  rw [d] at d'
  injection d' with d1 _
  have : its = its' := by simpa using congrArg Array.toList d1
  subst this
  exact r.inj r'
theorem Inv.tuple_inj (I : Inv X pins σ H s) (h : SqT X.K H a xs) (h' : SqT X.K H a ys) : xs = ys := by
  obtain ⟨its, r, ⟨o, e, _, n, d⟩, _⟩ := I.tuple h
  obtain ⟨its', r', ⟨o', e', _, n', d'⟩, _⟩ := I.tuple h'
  rw [e] at e'; cases e'
  rw [d] at d'
  injection d' with d1 _
  have : its = its' := by simpa using congrArg Array.toList d1
  subst this
  exact r.inj r'
end

/-! ### another wish about exceptions -/
abbrev Cx.wish (X : Cx) (E : Value → Shared → Prop) : Cx := { X with xe := E }
/-- no exception leaves -/
abbrev Cx.nox (X : Cx) : Cx := X.wish fun _ _ => False
theorem Cx.Ok.wish {X : Cx} (ok : X.Ok) (E : Value → Shared → Prop) : (X.wish E).Ok :=
  ⟨ok.mod, ok.kind, ok.glob, ok.blt, ok.above, ok.inj, ok.has, ok.cab, ok.hd, ok.frames, ok.stk, ok.exf, ok.bs, ok.bsz, ok.noex, ok.exfs, ok.funs, ok.frf⟩
theorem Cx.Ok.unwish {X : Cx} {E : Value → Shared → Prop} (ok : (X.wish E).Ok) : X.Ok :=
  ⟨ok.mod, ok.kind, ok.glob, ok.blt, ok.above, ok.inj, ok.has, ok.cab, ok.hd, ok.frames, ok.stk, ok.exf, ok.bs, ok.bsz, ok.noex, ok.exfs, ok.funs, ok.frf⟩
section
variable {X : Cx} {pins : List (Addr × Obj)} {σ : St} {H : Hp} {s : Shared} {E : Value → Shared → Prop}
theorem Inv.wish (I : Inv X pins σ H s) (E : Value → Shared → Prop) : Inv (X.wish E) pins σ H s := ⟨I.ok.wish E, I.os, I.bare, I.base, I.loc, I.cell, I.free, I.freeC, I.pin, I.hok, I.len⟩
theorem Inv.unwish (I : Inv (X.wish E) pins σ H s) : Inv X pins σ H s := ⟨I.ok.unwish, I.os, I.bare, I.base, I.loc, I.cell, I.free, I.freeC, I.pin, I.hok, I.len⟩
theorem SP.unwish {D : Ends} {f : Flow} {s' : Shared} (h : SP (X.wish E) pins D f s') : SP X pins D f s' := by
  cases f with
  | next => obtain ⟨σ', H', I, q⟩ := h; exact ⟨σ', H', I.unwish, q⟩
  | brk => obtain ⟨σ', H', I, q⟩ := h; exact ⟨σ', H', I.unwish, q⟩
  | cont => obtain ⟨σ', H', I, q⟩ := h; exact ⟨σ', H', I.unwish, q⟩
  | ret u => obtain ⟨v, σ', H', I, r, q⟩ := h; exact ⟨v, σ', H', I.unwish, r, q⟩
theorem PSs.nox {st : List Stmt} {t : TS} (h : PSs X.nox st t) : PSs X st t := fun pins s σ H D I hw =>
  wpAny_mono (h pins s σ H D (I.wish _) hw) (fun _ _ q => q.unwish) fun _ _ z => False.elim z
end

/-! ### blocks and small statements -/
section
variable {X : Cx} {st : Stmt} {rest : List Stmt} {t u : TS} {e : Expr} {te : TE} {pos : Pos}
def tNext : TS := fun D σ H => D.nx σ H
def tSeq (t u : TS) : TS := fun D σ H => t { D with nx := u D } σ H
theorem pss_nil : PSs X [] tNext := fun _ _ σ H _ I h => wpAny_execs_nil ⟨σ, H, I, h⟩
theorem pss_cons (h1 : PS X st t) (h2 : PSs X rest u) : PSs X (st :: rest) (tSeq t u) := by
  intro pins s σ H D I h
  refine wpAny_execs_cons (thn (h1 pins s σ H { D with nx := u D } I h) fun f s1 q => ?_)
  cases f with
  | next =>
    obtain ⟨σ', H', I', q⟩ := q
    exact h2 pins s1 σ' H' D I' q
  | ret v => exact q
  | brk => exact q
  | cont => exact q
theorem pss_one (h1 : PS X st t) : PSs X [st] t := by
  intro pins s σ H D I h
  refine wpAny_execs_cons (thn (h1 pins s σ H D I h) fun f s1 q => ?_)
  cases f with
  | next => exact wpAny_execs_nil q
  | ret v => exact q
  | brk => exact q
  | cont => exact q
/-- in a def's body nothing is shown -/
theorem Inv.quiet {pins : List (Addr × Obj)} {σ : St} {H : Hp} {s : Shared} (I : Inv X pins σ H s) : interactive X.env = false := by simp [interactive, I.ok.kind]
/-- an expression whose value is dropped -/
def tDrop (te : TE) : TS := fun D σ H => te σ H fun _ H1 => D.nx σ H1
theorem ps_expr (he : PE X e te) (hs : swapsWith e none pos.line X.env = pure false := by rfl) : PS X (.Expr e pos) (tDrop te) := by
  intro pins s σ H D I h
  exact wpAny_Expr_any (thn (he pins s σ H _ I h) fun v s1 ⟨x, H1, I1, r1, q1⟩ => ⟨σ, H1, I1, q1⟩) I.quiet hs
def tRet (te : TE) : TS := fun D σ H => te σ H D.rt
theorem ps_ret (he : PE X e te) : PS X (.Return (some e) pos) (tRet te) := by
  intro pins s σ H D I h
  exact wpAny_Return_some (thn (he pins s σ H _ I h) fun v s1 ⟨x, H1, I1, r1, q1⟩ => ⟨x, σ, H1, I1, r1, q1⟩)
def tIfS (c : TT) (t u : TS) : TS := fun D σ H => c σ H fun b H1 => if b = true then t D σ H1 else u D σ H1
theorem ps_if {c : Expr} {a b : List Stmt} {tc : TT} (hc : PT X c tc) (ha : PSs X a t) (hb : PSs X b u) : PS X (.If c a b pos) (tIfS tc t u) := by
  intro pins s σ H D I h
  refine wpAny_If (thn (hc pins s σ H _ I h) fun d s1 ⟨H1, I1, q1⟩ => ?_)
  cases d with
  | true => exact ha pins s1 σ H1 D I1 q1
  | false => exact hb pins s1 σ H1 D I1 q1
end

/-! ### targets -/
abbrev TG := V → St → Hp → (St → Hp → Prop) → Prop
abbrev TGs := List V → St → Hp → (St → Hp → Prop) → Prop
def PG (X : Cx) (target : Expr) (t : TG) : Prop :=
  ∀ (pins : List (Addr × Obj)) (s : Shared) (σ : St) (H : Hp) (v : V) (u : Value) (Q : St → Hp → Prop), Inv X pins σ H s → RelV v u → t v σ H Q →
    wpAny (model X.prog X.w) X.A (assign target X.env u) (fun _ s' => ∃ σ' H', Inv X pins σ' H' s' ∧ Q σ' H') X.xe s
/-- several targets, one after another -/
def PGs (X : Cx) (ts : List Expr) (t : TGs) : Prop :=
  ∀ (pins : List (Addr × Obj)) (s : Shared) (σ : St) (H : Hp) (vs : List V) (us : List Value) (Q : St → Hp → Prop), Inv X pins σ H s → Vals vs us → t vs σ H Q →
    wpAny (model X.prog X.w) X.A (assignInOrder ((assignEach ts X.env).map (·.2)) us) (fun _ s' => ∃ σ' H', Inv X pins σ' H' s' ∧ Q σ' H') X.xe s
/-- o[i] = v, by values -/
abbrev TSet := V → V → V → Hp → (Hp → Prop) → Prop
def PSet (X : Cx) (t : TSet) : Prop :=
  ∀ (pins : List (Addr × Obj)) (s : Shared) (σ : St) (H : Hp) (o i v : V) (ov iv u : Value) (Q : Hp → Prop), Inv X pins σ H s → RelV o ov → RelV i iv → RelV v u → t o i v H Q →
    wpAny (model X.prog X.w) X.A (setItem ov iv u) (fun _ s' => ∃ H', Inv X pins σ H' s' ∧ Q H') X.xe s
/-- a op= b, by values -/
abbrev TIp := V → V → Hp → VK → Prop
def PIp (X : Cx) (op : Operator) (t : TIp) : Prop :=
  ∀ (pins : List (Addr × Obj)) (s : Shared) (σ : St) (H : Hp) (x y : V) (v u : Value) (Q : VK), Inv X pins σ H s → RelV x v → RelV y u → t x y H Q →
    wpAny (model X.prog X.w) X.A (inplaceOp op v u) (EP X pins σ Q) X.xe s
section
variable {X : Cx} {pos : Pos}
def gName (i : Nat) : TG := fun v σ H Q => Q (σ.set i (some v)) H
theorem pg_name {i : Nat} {x : Str} (hN : X.N.Nodup) (hi : X.N[i]? = some x) (hx : Loc X.env.scope x) (hf : X.fn x = true ∨ X.env.scope.names.lookup x = some .local := by first | exact .inl rfl | exact .inr rfl | assumption) : PG X (.Name x pos) (gName i) := by
  intro pins s σ H v u Q I r h
  exact wpAny_assign_Name (store_ok I hN hi hx r (fun s' I' => ⟨_, H, I', h⟩) hf)
def gNil : TGs := fun vs σ H Q => vs = [] ∧ Q σ H
def gCons (t : TG) (u : TGs) : TGs := fun vs σ H Q => ∃ v r, vs = v :: r ∧ t v σ H fun σ' H' => u r σ' H' Q
theorem pgs_nil : PGs X [] gNil := by
  intro pins s σ H vs us Q I r h
  obtain ⟨e, h⟩ := h
  subst e
  cases r
  exact assignInOrder_nil ⟨σ, H, I, h⟩
theorem pgs_cons {e : Expr} {es : List Expr} {t : TG} {u : TGs} (h1 : PG X e t) (h2 : PGs X es u)
    (hs : (assignEach (e :: es) X.env).map (·.2) = assign e X.env :: (assignEach es X.env).map (·.2) := by rfl) : PGs X (e :: es) (gCons t u) := by
  intro pins s σ H vs us Q I r h
  obtain ⟨v, vr, e1, h⟩ := h
  subst e1
  cases r with
  | cons r rr =>
    rw [hs]
    refine assignInOrder_cons (thn (h1 pins s σ H _ _ _ I r h) fun _ s1 ⟨σ1, H1, I1, q1⟩ => ?_)
    exact h2 pins s1 σ1 H1 _ _ Q I1 rr q1
/-- (a, b, ..) = a tuple of that length -/
def gTup (K : PySem.W.Frag) (n : Nat) (t : TGs) : TG := fun v σ H Q => ∃ a xs, v = .ref a ∧ SqT K H a xs ∧ xs.length = n ∧ t xs σ H Q
theorem pg_tup {es : List Expr} {k : Nat} {t : TGs} {n : Nat} (hc : X.calm = true) (h : PGs X es t)
    (hn : (assignEach es X.env).length = n := by rfl) (hst : (assignEach es X.env).findIdx? (·.1) = none := by rfl) : PG X (.Tuple es k pos) (gTup X.K n t) := by
  intro pins s σ H v u Q I r hw
  obtain ⟨a, xs, e1, hq, hl, hw⟩ := hw
  subst e1
  cases r
  obtain ⟨its, rv, ht, hz⟩ := I.tuple hq
  refine assign_Tuple_tuple (I.ok.hd hc) ht (by simp [hn, ← hl, rv.length]) hst fun h' hx => ?_
  have I1 : Inv X pins σ H { s with heap := h' } := I.kept (t' := s.toks) fun b o e => hx b o (Nat.ne_of_lt (Heap.lt_size e)) e
  exact h pins _ σ H xs _ Q I1 (by simpa using rv) hw
/-- o[i] = .. -/
def gSub (to ti : TE) (t : TSet) : TG := fun v σ H Q => to σ H fun o H1 => ti σ H1 fun i H2 => t o i v H2 fun H3 => Q σ H3
theorem pg_sub {o i : Expr} {to ti : TE} {t : TSet} (ho : PE X o to) (hi : PE X i ti) (hs : PSet X t)
    (ha : ∀ v, assign (.Subscript o i pos) X.env v = (do
      let ov ← holding [v] (eval o X.env)
      let iv ← holding [v, ov] (eval i X.env)
      standAt pos
      holding [v, ov, iv] (setItem ov iv v)
      release [v, ov, iv] []) := by intro _; rfl) : PG X (.Subscript o i pos) (gSub to ti t) := by
  intro pins s σ H v u Q I r h
  rw [ha]
  refine wpAny_bind (wpAny_holding (thn (ho pins s σ H _ I h) fun ov s1 ⟨x, H1, I1, r1, q1⟩ => ?_))
  refine wpAny_bind (wpAny_holding (thn (hi pins s1 σ H1 _ I1 q1) fun iv s2 ⟨y, H2, I2, r2, q2⟩ => ?_))
  refine wpAny_bind (wpAny_standAt (wpAny_bind (wpAny_holding (thn (hs pins s2 σ H2 x y v ov iv u _ I2 r1 r2 r q2) fun _ s3 ⟨H3, I3, q3⟩ => ?_))))
  exact wpAny_release ⟨σ, H3, I3, q3⟩
/-- target = value -/
def tAsg (te : TE) (g : TG) : TS := fun D σ H => te σ H fun x H1 => g x σ H1 D.nx
theorem ps_asg {tg e : Expr} {te : TE} {g : TG} (he : PE X e te) (hg : PG X tg g) (hs : swapsWithSole [tg] e pos.line X.env = pure false := by rfl) (hw : swappedStores [tg] e X.env = pure none := by rfl)
    (h1 : (assignEach [tg] X.env).map (·.2) = [assign tg X.env] := by rfl) : PS X (.Assign [tg] e pos) (tAsg te g) := by
  intro pins s σ H D I h
  refine wpAny_Assign_stores (thn (he pins s σ H _ I h) fun v s1 ⟨x, H1, I1, r1, q1⟩ => ?_) hs hw
  rw [h1]
  exact thn (hg pins s1 σ H1 x v _ I1 r1 q1) fun _ s2 q => q
/-- name = value -/
theorem ps_set {i : Nat} {x : Str} {e : Expr} {te : TE} {pos' : Pos} (hN : X.N.Nodup) (hi : X.N[i]? = some x) (hx : Loc X.env.scope x) (he : PE X e te) (hs : swapsWith e (some (.Name x pos')) pos.line X.env = pure false := by rfl) (hf : X.fn x = true ∨ X.env.scope.names.lookup x = some .local := by first | exact .inl rfl | exact .inr rfl | assumption) :
    PS X (.Assign [.Name x pos'] e pos) (tAsg te (gName i)) := by
  intro pins s σ H D I h
  refine wpAny_Assign_Name (thn (he pins s σ H _ I h) fun v s1 ⟨y, H1, I1, r1, q1⟩ => ?_) hs
  exact store_ok I1 hN hi hx r1 (fun s2 I2 => ⟨_, H1, I2, q1⟩) hf
/-- name op= e -/
def tAug (i : Nat) (te : TE) (ti : TIp) : TS := fun D σ H => ∃ x, σ[i]? = some (some x) ∧ te σ H fun y H1 => ti x y H1 fun z H2 => D.nx (σ.set i (some z)) H2
theorem ps_aug {i : Nat} {x : Str} {e : Expr} {te : TE} {op : Operator} {ti : TIp} {pos' : Pos} (hN : X.N.Nodup) (hi : X.N[i]? = some x) (hx : Loc X.env.scope x) (he : PE X e te) (ho : PIp X op ti) (hf : X.fn x = true ∨ X.env.scope.names.lookup x = some .local := by first | exact .inl rfl | exact .inr rfl | assumption) :
    PS X (.AugAssign (.Name x pos') op e pos) (tAug i te ti) := by
  intro pins s σ H D I h
  obtain ⟨v, e1, h⟩ := h
  obtain ⟨m, hn, hl⟩ := I.loc
  have vis : Vis X.env.scope x := by rcases hx with k | k; exact .inl k; exact .inr (.inl k)
  obtain ⟨u, r, l⟩ := hl i x v hi e1 vis
  refine wpAny_AugAssign_Name ?_
  have go : wpAny (model X.prog X.w) X.A (eval e X.env) (fun w s₂ => wpAny (model X.prog X.w) X.A (inplaceOp op u w) (fun r s₃ => wpAny (model X.prog X.w) X.A (storeName X.env x r) (fun _ => SP X pins D .next) X.xe s₃) X.xe s₂) X.xe s := by
    refine thn (he pins s σ H _ I h) fun w s1 ⟨y, H1, I1, r1, q1⟩ => ?_
    refine thn (ho pins s1 σ H1 v y u w _ I1 r r1 q1) fun z s2 ⟨zv, H2, I2, r2, q2⟩ => ?_
    exact store_ok I2 hN hi hx r2 (fun s3 I3 => ⟨_, H2, I3, q2⟩) hf
  rcases l with ⟨hk, hm⟩ | ⟨hk, c, hc, hcell⟩
  · exact wpAny_loadName_local I.ok.kind hk hn hm go
  · rcases hk with hk | hk
    · exact wpAny_loadName_cell I.ok.kind hk hc hcell go
    · rcases hx with k | k
      · have : X.env.scope.names.lookup x = some .free := hk
        rw [k] at this; cases this
      · have : X.env.scope.names.lookup x = some .free := hk
        rw [k] at this; cases this
/-- o[i] op= e -/
def tAugS (to ti te : TE) (tget : V → V → Hp → VK → Prop) (tip : TIp) (tset : TSet) : TS := fun D σ H => to σ H fun o H1 => ti σ H1 fun i H2 => tget o i H2 fun x H3 => te σ H3 fun y H4 => tip x y H4 fun z H5 => tset o i z H5 fun H6 => D.nx σ H6
/-- o[i], by values -/
def PGet (X : Cx) (t : V → V → Hp → VK → Prop) : Prop :=
  ∀ (pins : List (Addr × Obj)) (s : Shared) (σ : St) (H : Hp) (o i : V) (ov iv : Value) (Q : VK), Inv X pins σ H s → RelV o ov → RelV i iv → t o i H Q →
    wpAny (model X.prog X.w) X.A (getItem ov iv) (EP X pins σ Q) X.xe s
theorem ps_augS {o i e : Expr} {to ti te : TE} {tget : V → V → Hp → VK → Prop} {tip : TIp} {tset : TSet} {op : Operator} {tpos : Pos} (ho : PE X o to) (hi : PE X i ti) (hg : PGet X tget) (he : PE X e te) (hp : PIp X op tip) (hs : PSet X tset)
    (ha : ∀ ov iv new, augStore i ov iv new = (do holding [new, ov, iv] (setItem ov iv new); release [new, ov, iv] []; pure .next) := by intros; rfl) : PS X (.AugAssign (.Subscript o i tpos) op e pos) (tAugS to ti te tget tip tset) := by
  intro pins s σ H D I h
  refine wpAny_AugAssign_SubscriptAny (thn (ho pins s σ H _ I h) fun ov s1 ⟨x1, H1, I1, r1, q1⟩ => ?_) ha
  refine thn (hi pins s1 σ H1 _ I1 q1) fun iv s2 ⟨x2, H2, I2, r2, q2⟩ => ?_
  refine thn (hg pins s2 σ H2 x1 x2 ov iv _ I2 r1 r2 q2) fun old s3 ⟨x3, H3, I3, r3, q3⟩ => ?_
  refine thn (he pins s3 σ H3 _ I3 q3) fun v s4 ⟨x4, H4, I4, r4, q4⟩ => ?_
  refine thn (hp pins s4 σ H4 x3 x4 old v _ I4 r3 r4 q4) fun new s5 ⟨x5, H5, I5, r5, q5⟩ => ?_
  exact thn (hs pins s5 σ H5 x1 x2 x5 ov iv new _ I5 r1 r2 r5 q5) fun _ s6 ⟨H6, I6, q6⟩ => ⟨σ, H6, I6, q6⟩
/-- ints -/
def ipI (f : Int → Int → Int) : TIp := fun x y H Q => ∃ i j, x = .int i ∧ y = .int j ∧ Q (.int (f i j)) H
theorem ip_add : PIp X .Add (ipI fun i j => i + j) := by
  intro pins s σ H x y v u Q I r1 r2 h
  obtain ⟨i, j, e1, e2, q⟩ := h
  subst e1; subst e2
  obtain ⟨t, rfl⟩ := r1
  obtain ⟨t', rfl⟩ := r2
  exact iadd_int ⟨.int _, H, I.tok _, ⟨_, rfl⟩, q⟩
end

/-! ### while -/
section
variable {X : Cx} {pos : Pos}
/-- the invariant W with its measure -/
def tWhile (c : TT) (tb : TS) : TS := fun D σ H => ∃ W : Nat → St → Hp → Prop, (∃ m, W m σ H) ∧ ∀ m σ H, W m σ H →
  c σ H fun b H1 => if b = true then ∃ N : St → Hp → Prop, (∀ σ' H', N σ' H' → ∃ m', m' < m ∧ W m' σ' H') ∧ tb { D with nx := N, ct := N, bk := D.nx } σ H1 else D.nx σ H1
theorem ps_while {c : Expr} {body : List Stmt} {tc : TT} {tb : TS} (hp : PassesOwn (model X.prog X.w) X.A X.env X.xe) (hc : PT X c tc) (hb : PSs X body tb) : PS X (.While c body [] pos) (tWhile tc tb) := by
  intro pins s σ H D I h
  obtain ⟨W, ⟨m0, w0⟩, turn⟩ := h
  refine wpAny_While (codeAny_whileLoop (fun n s' => ∃ σ' H', Inv X pins σ' H' s' ∧ W n σ' H') ?_ m0 ⟨σ, H, I, w0⟩)
  rintro n s1 ⟨σ1, H1, I1, w1⟩
  refine wpAny_passesOwn hp (thn (hc pins s1 σ1 H1 _ I1 (turn n σ1 H1 w1)) fun b s2 ⟨H2, I2, q2⟩ => ?_)
  cases b with
  | true =>
    obtain ⟨N, hN, q2⟩ := q2
    rw [if_pos rfl]
    refine wpAny_passesOwn hp (thn (hb pins s2 σ1 H2 _ I2 q2) fun f s3 q3 => ?_)
    cases f with
    | next =>
      obtain ⟨σ3, H3, I3, n3⟩ := q3
      obtain ⟨m', hm, w3⟩ := hN σ3 H3 n3
      exact ⟨m', hm, σ3, H3, I3, w3⟩
    | cont =>
      obtain ⟨σ3, H3, I3, n3⟩ := q3
      obtain ⟨m', hm, w3⟩ := hN σ3 H3 n3
      exact ⟨m', hm, σ3, H3, I3, w3⟩
    | brk => exact q3
    | ret v => exact q3
  | false =>
    rw [if_neg Bool.false_ne_true]
    exact wpAny_execs_nil ⟨σ1, H2, I2, q2⟩
end

/-! ### what a loop or a comprehension walks -/
/-- at turn i: it yields x (the heap may grow), or it stops -/
structure It where
  go : Nat → Hp → Prop
  yld : Nat → Hp → V → Hp → Prop
  stop : Nat → Hp → Prop
/-- the iterator's own objects may turn: they are not the frame's, not pinned, younger than the entry (or a comprehension's own) -/
def FpOk (X : Cx) (pins : List (Addr × Obj)) (H : Hp) (b : Addr) : Prop :=
  H b = none ∧ b ≠ X.env.locals ∧ b ∉ X.fs ∧ (b ∈ X.ex ∨ X.s₀.heap.objs.size ≤ b) ∧ (∀ x c, X.env.cells.lookup x = some c → c ≠ b) ∧ ∀ p ∈ X.pn ++ pins, p.1 ≠ b
theorem Inv.fpOk {X : Cx} {pins : List (Addr × Obj)} {σ : St} {H H' : Hp} {s : Shared} {b : Addr} (I : Inv X pins σ H s) (hb : s.heap.objs.size ≤ b) (hn : H' b = none) : FpOk X pins H' b := by
  refine ⟨hn, Nat.ne_of_gt (Nat.lt_of_lt_of_le I.lt hb), I.nofs hb, .inr (Nat.le_trans I.sz hb), fun x c e z => ?_, fun p hp z => ?_⟩
  · obtain ⟨v, q⟩ := I.cell x c e
    exact absurd (Nat.lt_of_lt_of_le q.lt (by rw [z]; exact hb)) (Nat.lt_irrefl _)
  · exact absurd (Nat.lt_of_lt_of_le (Heap.lt_size (I.pin p hp).1) (by rw [z]; exact hb)) (Nat.lt_irrefl _)
structure Turn (P : Program) (w : World) (K : PySem.W.Frag) (tg : Expr) (J : It) (fp : List Addr) (it : Addr) (tn : Nat → Heap → Prop) : Prop where
  mem : it ∈ fp
  obj : ∀ i h, tn i h → ∀ b ∈ fp, ∃ o, h.get? b = some o ∧ ∀ v, o.data ≠ .cell v
  keep : ∀ i h h', tn i h → (∀ b ∈ fp, ∀ o, h.get? b = some o → h'.get? b = some o) → tn i h'
  item : ∀ (X : Cx), X.prog = P → X.w = w → X.K = K → X.calm = true → ∀ (i : Nat) (pins : List (Addr × Obj)) (s : Shared) (σ : St) (H : Hp) (E : Value → Shared → Prop), Inv X pins σ H s → (∀ b ∈ fp, FpOk X pins H b) → tn i s.heap → J.go i H →
    wpAny (model P w) X.A (pyNext (.ref it)) (fun r s1 => ∃ u, r = some u ∧
      wpAny (model P w) X.A (letOwnedTupleGo tg (.ref it) u) (fun _ s2 => ∃ x H', Inv X pins σ H' s2 ∧ RelV x u ∧ J.yld i H x H' ∧ tn (i + 1) s2.heap ∧ ∀ b ∈ fp, H' b = none) E s1) E s
  done : ∀ (X : Cx), X.prog = P → X.w = w → X.K = K → X.calm = true → ∀ (i : Nat) (pins : List (Addr × Obj)) (s : Shared) (σ : St) (H : Hp) (E : Value → Shared → Prop), Inv X pins σ H s → (∀ b ∈ fp, FpOk X pins H b) → tn i s.heap → J.stop i H →
    wpAny (model P w) X.A (pyNext (.ref it)) (fun r s1 => r = none ∧ Inv X pins σ H s1) E s
  self : ∀ (A : Around) (i : Nat) (s : Shared) (Q : Value → Shared → Prop) (E : Value → Shared → Prop), tn i s.heap → Q (.ref it) s → wpAny (model P w) A (pyIter (.ref it)) Q E s
abbrev TI := St → Hp → (It → Hp → Prop) → Prop
/-- an iterator has come -/
def PIE (X : Cx) (pins : List (Addr × Obj)) (σ : St) (tg : Expr) (R : It → Hp → Prop) (itv : Value) (s2 : Shared) : Prop :=
  ∃ (it : Addr) (fp : List Addr) (tn : Nat → Heap → Prop) (J : It) (H' : Hp), itv = .ref it ∧ Inv X pins σ H' s2 ∧ Turn X.prog X.w X.K tg J fp it tn ∧ tn 0 s2.heap ∧ (∀ b ∈ fp, FpOk X pins H' b) ∧ R J H'
def PI (X : Cx) (tg iter : Expr) (wi : TI) : Prop :=
  ∀ (pins : List (Addr × Obj)) (s : Shared) (σ : St) (H : Hp) (R : It → Hp → Prop), Inv X pins σ H s → wi σ H R →
    wpAny (model X.prog X.w) X.A (eval iter X.env) (fun v s1 => wpAny (model X.prog X.w) X.A (pyIter v) (PIE X pins σ tg R) X.xe s1) X.xe s

/-- the step ahead of the store is nothing for an iterator that keeps no tuple -/
theorem go_of {M : Model} {A : Around} {E : Value → Shared → Prop} {s : Shared} {tg : Expr} {it : Addr} {u : Value} {o : Obj} {n : String} {vs : Array Value} {Q : Unit → Shared → Prop} (ho : s.heap.get? it = some o) (hc : o.cls = .type n) (hd : o.data = .fields vs)
    (hn : ["enumerate", "zip", "dict_itemiterator", "dict_reverseitemiterator", "odict_iterator", "itertools.zip_longest", "itertools.pairwise"].contains n = false) (hQ : Q () s) : wpAny M A (letOwnedTupleGo tg (.ref it) u) Q E s := by
  unfold letOwnedTupleGo
  cases tg <;> first
    | exact wpAny_pure hQ
    | (cases u <;> first
        | exact wpAny_pure hQ
        | (refine wpAny_bind (wpAny_load ho ?_)
           rw [hc, hd]
           show wpAny M A (if (["enumerate", "zip", "dict_itemiterator", "dict_reverseitemiterator", "odict_iterator", "itertools.zip_longest", "itertools.pairwise"].contains n && vs[0]? == some (rawInt _)) = true then _ else _) Q E s
           rw [if_neg (by intro h; rw [hn, Bool.false_and] at h; cases h)]
           exact wpAny_pure hQ))

/-- the list at a, as it stands at each turn (a loop may append to it) -/
def Itl (K : PySem.W.Frag) (a : Addr) : It :=
  ⟨fun i H => ∃ xs x, SqL K H a xs ∧ xs[i]? = some x, fun i H x H' => H' = H ∧ ∀ xs, SqL K H a xs → xs[i]? = some x, fun i H => ∃ xs, SqL K H a xs ∧ xs.length ≤ i⟩
def Itt (K : PySem.W.Frag) (a : Addr) : It :=
  ⟨fun i H => ∃ xs x, SqT K H a xs ∧ xs[i]? = some x, fun i H x H' => H' = H ∧ ∀ xs, SqT K H a xs → xs[i]? = some x, fun i H => ∃ xs, SqT K H a xs ∧ xs.length ≤ i⟩
/-- lo, lo + 1, .. (n of them) -/
def Itr (lo : Int) (n : Nat) : It := ⟨fun i _ => i < n, fun i H x H' => H' = H ∧ x = .int (lo + i), fun i _ => n ≤ i⟩
theorem turn_list {P : Program} {w : World} {K : PySem.W.Frag} {tg : Expr} (a it : Addr) : Turn P w K tg (Itl K a) [it] it (fun i h => h.IsListIter it a i) where
  mem := by simp
  obj := fun i h st b hb => by
    have e : b = it := by simpa using hb
    subst e
    obtain ⟨o, e, c, d⟩ := st
    exact ⟨o, e, fun v z => by rw [d] at z; cases z⟩
  keep := fun i h h' st k => st.at fun o e => k it (by simp) o e
  item := by
    intro X hP hw hK hc i pins s σ H E I hf st hg
    subst hP hw hK
    obtain ⟨xs, x, hq, hx⟩ := hg
    obtain ⟨its, rv, p, hz⟩ := I.list hq
    obtain ⟨u, hu, ru⟩ := rv.get hx
    obtain ⟨f0, f1, f2, f3, f4, f5⟩ := hf it (by simp)
    refine wpAny_pyNext_list_item st p.isList (x := u) (by simpa using hu) fun h' st' sb => ?_
    have I1 : Inv X pins σ H { s with heap := h' } := I.turned (t' := s.toks) (fun b o hb e => (sb.2 b hb).trans e) f0 f1 f3 f4 f5
    obtain ⟨o, e, c, d⟩ := id st'
    exact ⟨u, rfl, go_of (s := { s with heap := h' }) e c d (by decide) ⟨x, H, I1, ru, ⟨rfl, fun ys hy => by rw [I.list_inj hy hq]; exact hx⟩, st', fun b hb => (hf b hb).1⟩⟩
  done := by
    intro X hP hw hK hc i pins s σ H E I hf st hg
    subst hP hw hK
    obtain ⟨xs, hq, hx⟩ := hg
    obtain ⟨its, rv, p, hz⟩ := I.list hq
    obtain ⟨f0, f1, f2, f3, f4, f5⟩ := hf it (by simp)
    have hl := rv.length
    exact wpAny_pyNext_list_end (I.ok.hd hc) st p.isList (by simp; omega) fun h' eb => ⟨rfl, I.turned (t' := s.toks) (fun b o hb e => eb b o hb e) f0 f1 f3 f4 f5⟩
  self := fun _ _ _ _ _ st h => wpAny_pyIter_listiter st h
theorem turn_tuple {P : Program} {w : World} {K : PySem.W.Frag} {tg : Expr} (a it : Addr) : Turn P w K tg (Itt K a) [it] it (fun i h => h.IsTupleIter it a i) where
  mem := by simp
  obj := fun i h st b hb => by
    have e : b = it := by simpa using hb
    subst e
    obtain ⟨o, e, c, d⟩ := st
    exact ⟨o, e, fun v z => by rw [d] at z; cases z⟩
  keep := fun i h h' st k => st.at fun o e => k it (by simp) o e
  item := by
    intro X hP hw hK hc i pins s σ H E I hf st hg
    subst hP hw hK
    obtain ⟨xs, x, hq, hx⟩ := hg
    obtain ⟨its, rv, p, hz⟩ := I.tuple hq
    obtain ⟨u, hu, ru⟩ := rv.get hx
    obtain ⟨f0, f1, f2, f3, f4, f5⟩ := hf it (by simp)
    refine wpAny_pyNext_tuple_item st (show s.heap.IsTuple a its.toArray from p) (x := u) (by simpa using hu) fun h' st' sb => ?_
    have I1 : Inv X pins σ H { s with heap := h' } := I.turned (t' := s.toks) (fun b o hb e => (sb.2 b hb).trans e) f0 f1 f3 f4 f5
    obtain ⟨o, e, c, d⟩ := id st'
    exact ⟨u, rfl, go_of (s := { s with heap := h' }) e c d (by decide) ⟨x, H, I1, ru, ⟨rfl, fun ys hy => by rw [I.tuple_inj hy hq]; exact hx⟩, st', fun b hb => (hf b hb).1⟩⟩
  done := by
    intro X hP hw hK hc i pins s σ H E I hf st hg
    subst hP hw hK
    obtain ⟨xs, hq, hx⟩ := hg
    obtain ⟨its, rv, p, hz⟩ := I.tuple hq
    obtain ⟨f0, f1, f2, f3, f4, f5⟩ := hf it (by simp)
    have hl := rv.length
    exact wpAny_pyNext_tuple_end (I.ok.hd hc) st (show s.heap.IsTuple a its.toArray from p) (by simp; omega) fun h' eb => ⟨rfl, I.turned (t' := s.toks) (fun b o hb e => eb b o hb e) f0 f1 f3 f4 f5⟩
  self := fun _ _ _ _ _ st h => wpAny_pyIter_tupleiter st h
theorem turn_range {P : Program} {w : World} {K : PySem.W.Frag} {tg : Expr} (it : Addr) (lo : Int) (n : Nat) : Turn P w K tg (Itr lo n) [it] it (fun i h => IsRangeIter h it (lo + (i : Nat) * 1) ((n : Int) - (i : Nat)) 1) where
  mem := by simp
  obj := fun i h st b hb => by
    have e : b = it := by simpa using hb
    subst e
    exact ⟨_, st, fun v z => by
      have z' : Data.fields _ = Data.cell v := z
      cases z'⟩
  keep := fun i h h' st k => k it (by simp) _ st
  item := by
    intro X hP hw hK hc i pins s σ H E I hf st hg
    subst hP hw hK
    obtain ⟨f0, f1, f2, f3, f4, f5⟩ := hf it (by simp)
    have W := Walks.range (prog := X.prog) (w := X.w) (I.ok.hd hc) it lo 1 n
    refine W.item i s _ _ hg st fun v h' tk hv st' kk => ?_
    obtain ⟨t, rfl⟩ := hv
    have I1 : Inv X pins σ H { s with heap := h', toks := tk } := I.turned (fun b o hb e => kk b o (by simpa using hb) e) f0 f1 f3 f4 f5
    refine ⟨_, rfl, go_of (s := { s with heap := h', toks := tk }) (n := "range_iterator") st' rfl rfl (by decide) ⟨.int (lo + i), H, I1, ⟨t, ?_⟩, ⟨rfl, rfl⟩, st', fun b hb => (hf b hb).1⟩⟩
    rw [Int.mul_one]
  done := by
    intro X hP hw hK hc i pins s σ H E I hf st hg
    subst hP hw hK
    obtain ⟨f0, f1, f2, f3, f4, f5⟩ := hf it (by simp)
    exact wpAny_pyNext_range_end (I.ok.hd hc) st (by have : n ≤ i := hg; omega) fun h' eb => ⟨rfl, I.turned (t' := s.toks) (fun b o hb e => eb b o hb e) f0 f1 f3 f4 f5⟩
  self := fun _ _ _ _ _ st h => wpAny_pyIter_rangeiter st h
end L2

namespace L2
open PySem PySem.Spec PyProof.Rows
section
variable {X : Cx} {tg : Expr}
def iList (K : PySem.W.Frag) (tl : TE) : TI := fun σ H R => tl σ H fun x H1 => ∃ a, x = .ref a ∧ (∃ xs, SqL K H1 a xs) ∧ R (Itl K a) H1
def iTup (K : PySem.W.Frag) (tl : TE) : TI := fun σ H R => tl σ H fun x H1 => ∃ a, x = .ref a ∧ (∃ xs, SqT K H1 a xs) ∧ R (Itt K a) H1
theorem pi_list {l : Expr} {tl : TE} (hl : PE X l tl) : PI X tg l (iList X.K tl) := by
  intro pins s σ H R I h
  refine thn (hl pins s σ H _ I h) fun v s1 ⟨x, H1, I1, r1, q1⟩ => ?_
  obtain ⟨a, e, ⟨xs, hq⟩, q⟩ := q1
  subst e
  cases r1
  obtain ⟨its, rv, p, hz⟩ := I1.list hq
  refine wpAny_pyIter_list p.isList ?_
  refine ⟨s1.heap.objs.size, [s1.heap.objs.size], _, _, H1, rfl, I1.kept (t' := s1.toks) fun b o e => Heap.get?_push_of_some _ e, turn_list a _, ⟨_, Heap.get?_push_size _ rfl, rfl, rfl⟩, fun b hb => ?_, q⟩
  have e : b = s1.heap.objs.size := by simpa using hb
  subst e
  exact I1.fpOk (Nat.le_refl _) (I1.hok.fresh (Nat.le_refl _))
theorem pi_tup {l : Expr} {tl : TE} (hl : PE X l tl) : PI X tg l (iTup X.K tl) := by
  intro pins s σ H R I h
  refine thn (hl pins s σ H _ I h) fun v s1 ⟨x, H1, I1, r1, q1⟩ => ?_
  obtain ⟨a, e, ⟨xs, hq⟩, q⟩ := q1
  subst e
  cases r1
  obtain ⟨its, rv, p, hz⟩ := I1.tuple hq
  refine wpAny_pyIter_tuple (show s1.heap.IsTuple a its.toArray from p) ?_
  refine ⟨s1.heap.objs.size, [s1.heap.objs.size], _, _, H1, rfl, I1.kept (t' := s1.toks) fun b o e => Heap.get?_push_of_some _ e, turn_tuple a _, ⟨_, Heap.get?_push_size _ rfl, rfl, rfl⟩, fun b hb => ?_, q⟩
  have e : b = s1.heap.objs.size := by simpa using hb
  subst e
  exact I1.fpOk (Nat.le_refl _) (I1.hok.fresh (Nat.le_refl _))
/-- a range object just made, walked -/
theorem range_it {pins : List (Addr × Obj)} {σ : St} {H : Hp} {s : Shared} {R : It → Hp → Prop} {E : Value → Shared → Prop} {lo hi : Int} {t u v : Tok} {tk : Nat} (I : Inv X pins σ H s) (h1 : -(2 ^ 62) ≤ lo) (h2 : lo < 2 ^ 62) (h3 : -(2 ^ 62) ≤ hi) (h4 : hi < 2 ^ 62)
    (q : R (Itr lo (hi - lo).toNat) H) : wpAny (model X.prog X.w) X.A (pyIter (.ref s.heap.objs.size)) (PIE X pins σ tg R) E { s with heap := s.heap.push { cls := .type "range", data := .fields #[.int lo t, .int hi u, .int 1 v] }, toks := tk } := by
  refine wpAny_pyIter_range (IsRange.new ..) (small_one h1 h2 h3 h4) ?_
  have I1 : Inv X pins σ H { s with heap := s.heap.push { cls := .type "range", data := .fields #[.int lo t, .int hi u, .int 1 v] }, toks := tk } := I.kept fun b o e => Heap.get?_push_of_some _ e
  refine ⟨(s.heap.push { cls := .type "range", data := .fields #[.int lo t, .int hi u, .int 1 v] }).objs.size, [(s.heap.push { cls := .type "range", data := .fields #[.int lo t, .int hi u, .int 1 v] }).objs.size], _, _, H, rfl,
    I1.kept (t' := tk) fun b o e => Heap.get?_push_of_some _ e, turn_range _ lo (hi - lo).toNat, ?_, fun b hb => ?_, q⟩
  · have e1 : lo + ((0 : Nat) : Int) * 1 = lo := by simp
    have e2 : (((hi - lo).toNat : Nat) : Int) - ((0 : Nat) : Int) = Builtin.Range.rangeSize lo hi 1 := by rw [rangeSize_one]; split <;> omega
    show IsRangeIter _ _ (lo + ((0 : Nat) : Int) * 1) ((((hi - lo).toNat : Nat) : Int) - ((0 : Nat) : Int)) 1
    rw [e1, e2]
    exact Heap.get?_push_size _ rfl
  · have e : b = (s.heap.push { cls := .type "range", data := .fields #[.int lo t, .int hi u, .int 1 v] }).objs.size := by simpa using hb
    subst e
    exact I1.fpOk (Nat.le_refl _) (I1.hok.fresh (Nat.le_refl _))
def iRng1 (ta : TA) : TI := fun σ H R => ta σ H fun vs H1 => ∃ j : Int, vs = [.int j] ∧ -(2 ^ 62) ≤ j ∧ j < 2 ^ 62 ∧ R (Itr 0 j.toNat) H1
theorem pi_range1 {a : Expr} {ta : TA} {p pos : Pos} (hg : Gl X "range") (hm : X.mg "range" = none) (ha : PA X [a] ta) (hs : starEach [a] X.env = [(false, eval a X.env)] := by rfl) : PI X tg (.Call (.Name "range" p) [a] [] pos) (iRng1 ta) := by
  intro pins s σ H R I h
  refine Call_ (ld_blt I hg hm boot_range (PyProof.Rows.callWith_type1 (thn (ha pos pins s σ H _ I h) fun us s1 ⟨vs, H1, I1, r1, q1⟩ => ?_) hs rfl))
  obtain ⟨j, e, q1, q2, q⟩ := q1
  subst e
  cases r1 with
  | cons r rr =>
    cases rr
    obtain ⟨t, rfl⟩ := r
    exact call_range_1 (range_it I1 (by omega) (by omega) q1 q2 (by simpa using q))
/-! ### for -/
/-- W: the invariant by the turn and a measure; N: what the body is to reach -/
def tFor (wi : TI) (g : TG) (tb : TS) : TS := fun D σ H => wi σ H fun J H1 => ∃ W : Nat → Nat → St → Hp → Prop, (∃ m, W 0 m σ H1) ∧ ∀ i m σ H, W i m σ H →
  (J.stop i H ∧ D.nx σ H) ∨ (J.go i H ∧ ∃ N : St → Hp → Prop, (∀ σ' H', N σ' H' → ∃ m', m' < m ∧ W (i + 1) m' σ' H') ∧ ∀ x H', J.yld i H x H' → g x σ H' fun σ2 H2 => tb { D with nx := N, ct := N, bk := D.nx } σ2 H2)
/-- the records at fp as they stand -/
def pinsAt (fp : List Addr) (h : Heap) : List (Addr × Obj) := fp.filterMap fun b => (h.get? b).map fun o => (b, o)
theorem mem_pinsAt {fp : List Addr} {h : Heap} {b : Addr} {o : Obj} (hb : b ∈ fp) (e : h.get? b = some o) : (b, o) ∈ pinsAt fp h := List.mem_filterMap.mpr ⟨b, hb, by rw [e]; rfl⟩
theorem of_pinsAt {fp : List Addr} {h : Heap} {p : Addr × Obj} (hp : p ∈ pinsAt fp h) : p.1 ∈ fp ∧ h.get? p.1 = some p.2 := by
  obtain ⟨b, hb, e⟩ := List.mem_filterMap.mp hp
  cases q : h.get? b with
  | none => rw [q] at e; cases e
  | some o =>
    rw [q] at e
    have e' : (b, o) = p := Option.some.inj e
    subst e'
    exact ⟨hb, q⟩
theorem Inv.pinned {pins : List (Addr × Obj)} {σ : St} {H : Hp} {s : Shared} {fp : List Addr} (I : Inv X pins σ H s) (hf : ∀ b ∈ fp, FpOk X pins H b) (ho : ∀ b ∈ fp, ∃ o, s.heap.get? b = some o ∧ ∀ v, o.data ≠ .cell v) : Inv X (pins ++ pinsAt fp s.heap) σ H s :=
  I.pins_of fun p hp => (List.mem_append.mp hp).elim (fun z => I.pin p (List.mem_append_right _ z)) fun z => by
    obtain ⟨hb, e⟩ := of_pinsAt z
    obtain ⟨f0, f1, f2, _⟩ := hf p.1 hb
    obtain ⟨o, e', d⟩ := ho p.1 hb
    rw [e] at e'; cases e'
    exact ⟨e, f0, f1, f2, d⟩
theorem Inv.unpinned {pins pl : List (Addr × Obj)} {σ : St} {H : Hp} {s : Shared} (I : Inv X (pins ++ pl) σ H s) : Inv X pins σ H s := I.pins_of fun p hp => I.pin p (List.mem_append_right _ (List.mem_append_left _ hp))
theorem ps_for {iter : Expr} {body : List Stmt} {wi : TI} {g : TG} {tb : TS} {pos : Pos} (hp : PassesOwn (model X.prog X.w) X.A X.env X.xe) (hc : X.calm = true) (hi : PI X tg iter wi) (hg : PG X tg g) (hb : PSs X body tb)
    (hs : ∀ x, foldedSetIterable iter X.env x = pure x := by intro _; rfl) : PS X (.For tg iter body [] pos) (tFor wi g tb) := by
  intro pins s σ H D I h
  refine wpAny_For (thn (hi pins s σ H _ I h) fun v s1 h1 => thn h1 fun itv s2 h2 => ?_) hs
  obtain ⟨it, fp, tn, J, H2, e, I2, T, st2, f2, W, ⟨m0, w0⟩, turn⟩ := h2
  subst e
  -- what stays true of the iterator's objects through the loop
  have stat : ∀ {H' : Hp}, (∀ b ∈ fp, H' b = none) → ∀ b ∈ fp, FpOk X pins H' b := fun hn b hb => ⟨hn b hb, (f2 b hb).2⟩
  refine codeAny_forLoop_any (fun n s' => ∃ i σ' H', Inv X pins σ' H' s' ∧ tn i s'.heap ∧ (∀ b ∈ fp, H' b = none) ∧ W i n σ' H') ?_ m0 ⟨0, σ, H2, I2, st2, fun b hb => (f2 b hb).1, w0⟩
  rintro n s3 ⟨i, σ3, H3, I3, st3, fr3, w3⟩
  rcases turn i n σ3 H3 w3 with ⟨stop, qn⟩ | ⟨go, N, hN, step⟩
  · refine wpAny_passesOwn hp (thn (T.done X rfl rfl rfl hc i pins s3 σ3 H3 X.xe I3 (stat fr3) st3 stop) fun r s4 ⟨hr, I4⟩ => ?_)
    subst hr
    exact wpAny_execs_nil ⟨σ3, H3, I4, qn⟩
  · refine wpAny_passesOwn hp (thn (T.item X rfl rfl rfl hc i pins s3 σ3 H3 X.xe I3 (stat fr3) st3 go) fun r s4 ⟨u, hr, h4⟩ => ?_)
    subst hr
    refine wpAny_passesOwn hp (thn h4 fun _ s5 ⟨x, H5, I5, r5, y5, st5, fr5⟩ => ?_)
    have I5' := I5.pinned (stat fr5) (T.obj _ _ st5)
    refine wpAny_passesOwn hp (thn (hg _ s5 σ3 H5 x u _ I5' r5 (step x H5 y5)) fun _ s6 ⟨σ6, H6, I6, q6⟩ => ?_)
    refine wpAny_passesOwn hp (thn (hb _ s6 σ6 H6 _ I6 q6) fun f s7 q7 => ?_)
    have again : ∀ {σ7 : St} {H7 : Hp}, Inv X (pins ++ pinsAt fp s5.heap) σ7 H7 s7 → N σ7 H7 → ∃ m, m < n ∧ ∃ i σ' H', Inv X pins σ' H' s7 ∧ tn i s7.heap ∧ (∀ b ∈ fp, H' b = none) ∧ W i m σ' H' := fun {σ7 H7} I7 n7 => by
      obtain ⟨m', hm, w7⟩ := hN σ7 H7 n7
      refine ⟨m', hm, i + 1, σ7, H7, I7.unpinned, T.keep _ _ _ st5 fun b hb o e => (I7.pin (b, o) (List.mem_append_right _ (List.mem_append_right _ (mem_pinsAt hb e)))).1, fun b hb => ?_, w7⟩
      obtain ⟨o, e, d⟩ := T.obj _ _ st5 b hb
      exact (I7.pin (b, o) (List.mem_append_right _ (List.mem_append_right _ (mem_pinsAt hb e)))).2.1
    cases f with
    | next => obtain ⟨σ7, H7, I7, n7⟩ := q7; exact again I7 n7
    | cont => obtain ⟨σ7, H7, I7, n7⟩ := q7; exact again I7 n7
    | brk => obtain ⟨σ7, H7, I7, q7⟩ := q7; exact ⟨σ7, H7, I7.unpinned, q7⟩
    | ret v => obtain ⟨x7, σ7, H7, I7, r7, q7⟩ := q7; exact ⟨x7, σ7, H7, I7.unpinned, r7, q7⟩
end

/-! ### the forms one uses -/
/-- over a list that the body leaves as it is -/
theorem for_list {K : PySem.W.Frag} {a : Addr} {xs : List V} {g : TG} {tb : TS} {D : Ends} {σ : St} {H : Hp} (Pv : Nat → St → Hp → Prop) (h0 : Pv 0 σ H) (hl : ∀ i σ H, i ≤ xs.length → Pv i σ H → SqL K H a xs)
    (hs : ∀ i x σ H, xs[i]? = some x → Pv i σ H → g x σ H fun σ2 H2 => tb { D with nx := Pv (i + 1), ct := Pv (i + 1), bk := D.nx } σ2 H2) (hd : ∀ σ H, Pv xs.length σ H → D.nx σ H) :
    ∃ W : Nat → Nat → St → Hp → Prop, (∃ m, W 0 m σ H) ∧ ∀ i m σ H, W i m σ H →
      ((Itl K a).stop i H ∧ D.nx σ H) ∨ ((Itl K a).go i H ∧ ∃ N : St → Hp → Prop, (∀ σ' H', N σ' H' → ∃ m', m' < m ∧ W (i + 1) m' σ' H') ∧ ∀ x H', (Itl K a).yld i H x H' → g x σ H' fun σ2 H2 => tb { D with nx := N, ct := N, bk := D.nx } σ2 H2) := by
  refine ⟨fun i m σ H => m = xs.length - i ∧ i ≤ xs.length ∧ Pv i σ H, ⟨xs.length, by simp, Nat.zero_le _, h0⟩, ?_⟩
  rintro i m σ H ⟨rfl, hi, p⟩
  have q := hl i σ H hi p
  by_cases hlt : i < xs.length
  · refine .inr ⟨⟨xs, xs[i], q, by simp [hlt]⟩, Pv (i + 1), fun σ' H' p' => ⟨xs.length - (i + 1), by omega, rfl, hlt, p'⟩, fun x H' y => ?_⟩
    obtain ⟨e, y⟩ := y
    subst e
    exact hs i x σ _ (y xs q) p
  · have e : i = xs.length := by omega
    subst e
    exact .inl ⟨⟨xs, q, Nat.le_refl _⟩, hd σ H p⟩
theorem for_tup {K : PySem.W.Frag} {a : Addr} {xs : List V} {g : TG} {tb : TS} {D : Ends} {σ : St} {H : Hp} (Pv : Nat → St → Hp → Prop) (h0 : Pv 0 σ H) (hl : ∀ i σ H, i ≤ xs.length → Pv i σ H → SqT K H a xs)
    (hs : ∀ i x σ H, xs[i]? = some x → Pv i σ H → g x σ H fun σ2 H2 => tb { D with nx := Pv (i + 1), ct := Pv (i + 1), bk := D.nx } σ2 H2) (hd : ∀ σ H, Pv xs.length σ H → D.nx σ H) :
    ∃ W : Nat → Nat → St → Hp → Prop, (∃ m, W 0 m σ H) ∧ ∀ i m σ H, W i m σ H →
      ((Itt K a).stop i H ∧ D.nx σ H) ∨ ((Itt K a).go i H ∧ ∃ N : St → Hp → Prop, (∀ σ' H', N σ' H' → ∃ m', m' < m ∧ W (i + 1) m' σ' H') ∧ ∀ x H', (Itt K a).yld i H x H' → g x σ H' fun σ2 H2 => tb { D with nx := N, ct := N, bk := D.nx } σ2 H2) := by
  refine ⟨fun i m σ H => m = xs.length - i ∧ i ≤ xs.length ∧ Pv i σ H, ⟨xs.length, by simp, Nat.zero_le _, h0⟩, ?_⟩
  rintro i m σ H ⟨rfl, hi, p⟩
  have q := hl i σ H hi p
  by_cases hlt : i < xs.length
  · refine .inr ⟨⟨xs, xs[i], q, by simp [hlt]⟩, Pv (i + 1), fun σ' H' p' => ⟨xs.length - (i + 1), by omega, rfl, hlt, p'⟩, fun x H' y => ?_⟩
    obtain ⟨e, y⟩ := y
    subst e
    exact hs i x σ _ (y xs q) p
  · have e : i = xs.length := by omega
    subst e
    exact .inl ⟨⟨xs, q, Nat.le_refl _⟩, hd σ H p⟩
theorem for_range {lo : Int} {n : Nat} {g : TG} {tb : TS} {D : Ends} {σ : St} {H : Hp} (Pv : Nat → St → Hp → Prop) (h0 : Pv 0 σ H)
    (hs : ∀ i σ H, i < n → Pv i σ H → g (.int (lo + i)) σ H fun σ2 H2 => tb { D with nx := Pv (i + 1), ct := Pv (i + 1), bk := D.nx } σ2 H2) (hd : ∀ σ H, Pv n σ H → D.nx σ H) :
    ∃ W : Nat → Nat → St → Hp → Prop, (∃ m, W 0 m σ H) ∧ ∀ i m σ H, W i m σ H →
      ((Itr lo n).stop i H ∧ D.nx σ H) ∨ ((Itr lo n).go i H ∧ ∃ N : St → Hp → Prop, (∀ σ' H', N σ' H' → ∃ m', m' < m ∧ W (i + 1) m' σ' H') ∧ ∀ x H', (Itr lo n).yld i H x H' → g x σ H' fun σ2 H2 => tb { D with nx := N, ct := N, bk := D.nx } σ2 H2) := by
  refine ⟨fun i m σ H => m = n - i ∧ i ≤ n ∧ Pv i σ H, ⟨n, by simp, Nat.zero_le _, h0⟩, ?_⟩
  rintro i m σ H ⟨rfl, hi, p⟩
  by_cases hlt : i < n
  · refine .inr ⟨hlt, Pv (i + 1), fun σ' H' p' => ⟨n - (i + 1), by omega, rfl, hlt, p'⟩, fun x H' y => ?_⟩
    obtain ⟨e, y⟩ := y
    subst e y
    exact hs i σ _ hlt p
  · have e : i = n := by omega
    subst e
    exact .inl ⟨Nat.le_refl _, hd σ H p⟩
end L2

namespace L2
open PySem PySem.Spec PyProof.Rows

abbrev R2 := V → V → Hp → VK → Prop
/-- a two-place operation on values: f is binaryOp op, inplaceOp op or compareOp op -/
def OpR (X : Cx) (f : Value → Value → Sem Value) (r : R2) : Prop :=
  ∀ (pins : List (Addr × Obj)) (s : Shared) (σ : St) (H : Hp) (x y : V) (v u : Value) (Q : VK), Inv X pins σ H s → RelV x v → RelV y u → r x y H Q →
    wpAny (model X.prog X.w) X.A (f v u) (EP X pins σ Q) X.xe s
/-- a one-place operation -/
def UnR (X : Cx) (f : Value → Sem Value) (r : V → Hp → VK → Prop) : Prop :=
  ∀ (pins : List (Addr × Obj)) (s : Shared) (σ : St) (H : Hp) (x : V) (v : Value) (Q : VK), Inv X pins σ H s → RelV x v → r x H Q →
    wpAny (model X.prog X.w) X.A (f v) (EP X pins σ Q) X.xe s
/-- a call of a value that is known (a builtin, a type) with values -/
def CallR (X : Cx) (f : Value) (r : List V → Hp → VK → Prop) : Prop :=
  ∀ (pins : List (Addr × Obj)) (s : Shared) (σ : St) (H : Hp) (xs : List V) (us : List Value) (Q : VK), Inv X pins σ H s → Vals xs us → r xs H Q →
    wpAny (model X.prog X.w) X.A (call f us) (EP X pins σ Q) X.xe s
/-- a value's truth -/
def TruR (X : Cx) (r : V → Hp → (Bool → Hp → Prop) → Prop) : Prop :=
  ∀ (pins : List (Addr × Obj)) (s : Shared) (σ : St) (H : Hp) (x : V) (v : Value) (Q : Bool → Hp → Prop), Inv X pins σ H s → RelV x v → r x H Q →
    wpAny (model X.prog X.w) X.A (truthy v) (TP X pins σ Q) X.xe s

def tOp (r : R2) (ta tb : TE) : TE := fun σ H Q => ta σ H fun x H1 => tb σ H1 fun y H2 => r x y H2 Q
def tUn (r : V → Hp → VK → Prop) (ta : TE) : TE := fun σ H Q => ta σ H fun x H1 => r x H1 Q
/-- ints in, under C, and a value out -/
def rI (C : Int → Int → Prop) (g : Int → Int → V) : R2 := fun x y H Q => ∃ i j, x = .int i ∧ y = .int j ∧ C i j ∧ Q (g i j) H
def rI0 (g : Int → Int → V) : R2 := fun x y H Q => ∃ i j, x = .int i ∧ y = .int j ∧ Q (g i j) H
def rU (g : Int → V) : V → Hp → VK → Prop := fun x H Q => ∃ i, x = .int i ∧ Q (g i) H

section
variable {X : Cx} {a b c : Expr} {ta tb tc : TE} {pos : Pos}

theorem binT (ha : PE X a ta) (hb : PE X b tb) {pins : List (Addr × Obj)} {s : Shared} {σ : St} {H : Hp} {R : V → V → Hp → Prop} (I : Inv X pins σ H s)
    (h : ta σ H fun x H1 => tb σ H1 fun y H2 => R x y H2) {Q : Value → Shared → Prop} {f : Value → Value → Sem Value}
    (hf : ∀ v u s2 x y H2, Inv X pins σ H2 s2 → RelV x v → RelV y u → R x y H2 → wpAny (model X.prog X.w) X.A (f v u) Q X.xe s2) :
    wpAny (model X.prog X.w) X.A (eval a X.env) (fun v s₁ => wpAny (model X.prog X.w) X.A (eval b X.env) (fun u s₂ => wpAny (model X.prog X.w) X.A (f v u) Q X.xe s₂) X.xe s₁) X.xe s := by
  refine thn (ha pins s σ H _ I h) fun v s1 ⟨x, H1, I1, r1, q1⟩ => ?_
  refine thn (hb pins s1 σ H1 _ I1 q1) fun u s2 ⟨y, H2, I2, r2, q2⟩ => ?_
  exact hf v u s2 x y H2 I2 r1 r2 q2

theorem pe_op {op : Operator} {r : R2} (ho : OpR X (binaryOp op) r) (ha : PE X a ta) (hb : PE X b tb) : PE X (.BinOp a op b pos) (tOp r ta tb) := by
  intro pins s σ H Q I h
  exact wpAny_BinOp (binT ha hb I h fun v u s2 x y H2 I2 rx ry q => ho pins s2 σ H2 x y v u Q I2 rx ry q)
theorem pe_un {op : UnaryOp} {r : V → Hp → VK → Prop} (ho : UnR X (unaryOp op) r) (ha : PE X a ta) : PE X (.UnaryOp op a pos) (tUn r ta) := by
  intro pins s σ H Q I h
  exact UnaryOp_ (thn (ha pins s σ H _ I h) fun v s1 ⟨x, H1, I1, r1, q1⟩ => ho pins s1 σ H1 x v Q I1 r1 q1)
/-! ### ints -/
theorem opI {f : Value → Value → Sem Value} {C : Int → Int → Prop} {g : Int → Int → Int}
    (rule : ∀ (i j : Int) (t u : Tok) (s : Shared) (Q : Value → Shared → Prop) (E : Value → Shared → Prop), C i j → Q (.int (g i j) s.toks) { s with toks := s.toks + 1 } → wpAny (model X.prog X.w) X.A (f (.int i t) (.int j u)) Q E s) :
    OpR X f (rI C fun i j => .int (g i j)) := by
  intro pins s σ H x y v u Q I rx ry h
  obtain ⟨i, j, rfl, rfl, hc, q⟩ := h
  obtain ⟨t, rfl⟩ := rx
  obtain ⟨t', rfl⟩ := ry
  exact rule i j t t' s _ _ hc ⟨.int (g i j), H, I.tok _, ⟨_, rfl⟩, q⟩
theorem opI0 {f : Value → Value → Sem Value} {g : Int → Int → Int}
    (rule : ∀ (i j : Int) (t u : Tok) (s : Shared) (Q : Value → Shared → Prop) (E : Value → Shared → Prop), Q (.int (g i j) s.toks) { s with toks := s.toks + 1 } → wpAny (model X.prog X.w) X.A (f (.int i t) (.int j u)) Q E s) :
    OpR X f (rI0 fun i j => .int (g i j)) := by
  intro pins s σ H x y v u Q I rx ry h
  obtain ⟨i, j, rfl, rfl, q⟩ := h
  obtain ⟨t, rfl⟩ := rx
  obtain ⟨t', rfl⟩ := ry
  exact rule i j t t' s _ _ ⟨.int (g i j), H, I.tok _, ⟨_, rfl⟩, q⟩
theorem opB0 {f : Value → Value → Sem Value} {g : Int → Int → Bool}
    (rule : ∀ (i j : Int) (t u : Tok) (s : Shared) (Q : Value → Shared → Prop) (E : Value → Shared → Prop), Q (.bool (g i j)) s → wpAny (model X.prog X.w) X.A (f (.int i t) (.int j u)) Q E s) :
    OpR X f (rI0 fun i j => .bl (g i j)) := by
  intro pins s σ H x y v u Q I rx ry h
  obtain ⟨i, j, rfl, rfl, q⟩ := h
  obtain ⟨t, rfl⟩ := rx
  obtain ⟨t', rfl⟩ := ry
  exact rule i j t t' s _ _ ⟨.bl (g i j), H, I, rfl, q⟩

def CPow (i j : Int) : Prop := 0 ≤ j ∧ j ≤ 1000000 ∧ i.natAbs < 2 ^ 64
def CMul (i j : Int) : Prop := (-(2 ^ 64) < i ∧ i < 2 ^ 64) ∨ (-(2 ^ 64) < j ∧ j < 2 ^ 64)
theorem CMul.ok {i j : Int} (h : CMul i j) : IntMulOk i j := by
  rcases h with ⟨h1, h2⟩ | ⟨h1, h2⟩
  · exact .of_left (intBits_le_64 h1 h2)
  · exact .of_right (intBits_le_64 h1 h2)
theorem op_add : OpR X (binaryOp .Add) (rI0 fun i j => .int (i + j)) := opI0 fun _ _ _ _ _ _ _ q => add_int q
theorem op_sub : OpR X (binaryOp .Sub) (rI0 fun i j => .int (i - j)) := opI0 fun _ _ _ _ _ _ _ q => sub_int q
theorem op_mul : OpR X (binaryOp .Mult) (rI CMul fun i j => .int (i * j)) := opI fun _ _ _ _ _ _ _ hc q => mul_int q hc.ok
/-- % by a positive divisor of any size -/
theorem op_mod : OpR X (binaryOp .Mod) (rI (fun _ j => 0 < j) fun i j => .int (i % j)) := opI fun i j _ _ _ _ _ hc q => by
  have h1 : (0 : Int) < j := hc
  exact mod_int' (by omega) (by rw [Int.fmod_eq_emod_of_nonneg i (by omega)]; exact q)
theorem op_pow : OpR X (binaryOp .Pow) (rI CPow fun i j => .int (i ^ j.toNat)) := opI fun _ _ _ _ _ _ _ hc q => pow_int_small hc.1 hc.2.1 hc.2.2 q
theorem unI {f : Value → Sem Value} {g : Int → Int}
    (rule : ∀ (i : Int) (t : Tok) (s : Shared) (Q : Value → Shared → Prop) (E : Value → Shared → Prop), Q (.int (g i) s.toks) { s with toks := s.toks + 1 } → wpAny (model X.prog X.w) X.A (f (.int i t)) Q E s) :
    UnR X f (rU fun i => .int (g i)) := by
  intro pins s σ H x v Q I rx h
  obtain ⟨i, rfl, q⟩ := h
  obtain ⟨t, rfl⟩ := rx
  exact rule i t s _ _ ⟨.int (g i), H, I.tok _, ⟨_, rfl⟩, q⟩
theorem un_neg : UnR X (unaryOp .USub) (rU fun i => .int (-i)) := unI fun _ _ _ _ _ q => neg_int q
/-! ### bools among ints: n += (a < b) -/
end

/-! ### comparisons -/
/-- the scalars that == tells apart as data does -/
def scal : V → V → Bool
  | .non, .non => true | .non, .int _ => true | .int _, .non => true | .non, .bl _ => true | .bl _, .non => true | .non, .str _ => true | .str _, .non => true
  | .int _, .int _ => true | .bl _, .bl _ => true | .str _, .str _ => true | .byt _, .byt _ => true
  | .int _, .str _ => true | .str _, .int _ => true | .bl _, .str _ => true | .str _, .bl _ => true
  | _, _ => false
def rEq : R2 := fun x y H Q => scal x y = true ∧ Q (.bl (decide (x = y))) H
def rNe : R2 := fun x y H Q => scal x y = true ∧ Q (.bl (!decide (x = y))) H

theorem dec_int {i j : Int} : decide (V.int i = V.int j) = (i == j) := by
  rw [Bool.eq_iff_iff]
  simp
theorem dec_bl {i j : Bool} : decide (V.bl i = V.bl j) = (i == j) := by
  rw [Bool.eq_iff_iff]
  simp
theorem dec_str {i j : Str} : decide (V.str i = V.str j) = (i == j) := by
  rw [Bool.eq_iff_iff]
  simp
theorem dec_byt {i j : Array UInt8} : decide (V.byt i = V.byt j) = (i.toList == j.toList) := by
  rw [Bool.eq_iff_iff]
  cases i
  cases j
  simp

section
variable {X : Cx} {a b c : Expr} {ta tb tc : TE} {pos : Pos}
theorem fin_bl {pins : List (Addr × Obj)} {σ : St} {H : Hp} {s : Shared} {Q : VK} {k k' : Bool} (I : Inv X pins σ H s) (q : Q (.bl k) H) (e : k = k') : EP X pins σ Q (.bool k') s := by
  subst e
  exact ⟨.bl k, H, I, rfl, q⟩
theorem op_eq : OpR X (compareOp .Eq) rEq := by
  intro pins s σ H x y v u Q I rx ry h
  obtain ⟨hs, q⟩ := h
  cases x with
  | non =>
    cases rx
    cases y with
    | non => cases ry; exact PySem.EqNone.eq_none_none (fin_bl I q (by simp))
    | bl j => cases ry; exact PySem.EqNone.eq_none_bool (fin_bl I q (by simp))
    | int j => obtain ⟨t', rfl⟩ := ry; exact PySem.EqNone.eq_none_int (fin_bl I q (by simp))
    | str j => obtain ⟨t', rfl⟩ := ry; exact PySem.EqNone.eq_none_str (fin_bl I q (by simp))
    | _ => exact absurd (show false = true from hs) Bool.false_ne_true
  | bl i =>
    cases rx
    cases y with
    | non => cases ry; exact PySem.EqNone.eq_bool_none (fin_bl I q (by simp))
    | bl j => cases ry; exact eq_bool (fin_bl I q dec_bl)
    | str j => obtain ⟨t', rfl⟩ := ry; exact PySem.EqMixed.eq_bool_str (fin_bl I q (by simp))
    | _ => exact absurd (show false = true from hs) Bool.false_ne_true
  | int i =>
    obtain ⟨t, rfl⟩ := rx
    cases y with
    | non => cases ry; exact PySem.EqNone.eq_int_none (fin_bl I q (by simp))
    | int j => obtain ⟨t', rfl⟩ := ry; exact eq_int (fin_bl I q dec_int)
    | str j => obtain ⟨t', rfl⟩ := ry; exact PySem.EqMixed.eq_int_str (fin_bl I q (by simp))
    | _ => exact absurd (show false = true from hs) Bool.false_ne_true
  | str i =>
    obtain ⟨t, rfl⟩ := rx
    cases y with
    | non => cases ry; exact PySem.EqNone.eq_str_none (fin_bl I q (by simp))
    | bl j => cases ry; exact PySem.EqMixed.eq_str_bool (fin_bl I q (by simp))
    | int j => obtain ⟨t', rfl⟩ := ry; exact PySem.EqMixed.eq_str_int (fin_bl I q (by simp))
    | str j => obtain ⟨t', rfl⟩ := ry; exact eq_str (fin_bl I q dec_str)
    | _ => exact absurd (show false = true from hs) Bool.false_ne_true
  | byt i =>
    obtain ⟨t, rfl⟩ := rx
    cases y with
    | byt j => obtain ⟨t', rfl⟩ := ry; exact PySem.W.eq_bytes (fin_bl I q dec_byt)
    | _ => exact absurd (show false = true from hs) Bool.false_ne_true
  | _ => cases y <;> exact absurd (show false = true from hs) Bool.false_ne_true
theorem op_ne : OpR X (compareOp .NotEq) rNe := by
  intro pins s σ H x y v u Q I rx ry h
  obtain ⟨hs, q⟩ := h
  cases x with
  | non =>
    cases rx
    cases y with
    | non => cases ry; exact PySem.EqNone.ne_none_none (fin_bl I q (by simp))
    | bl j => cases ry; exact PySem.EqNone.ne_none_bool (fin_bl I q (by simp))
    | int j => obtain ⟨t', rfl⟩ := ry; exact PySem.EqNone.ne_none_int (fin_bl I q (by simp))
    | str j => obtain ⟨t', rfl⟩ := ry; exact PySem.EqNone.ne_none_str (fin_bl I q (by simp))
    | _ => exact absurd (show false = true from hs) Bool.false_ne_true
  | bl i =>
    cases rx
    cases y with
    | non => cases ry; exact PySem.EqNone.ne_bool_none (fin_bl I q (by simp))
    | bl j => cases ry; exact ne_bool (fin_bl I q (congrArg not dec_bl))
    | str j => obtain ⟨t', rfl⟩ := ry; exact PySem.EqMixed.ne_bool_str (fin_bl I q (by simp))
    | _ => exact absurd (show false = true from hs) Bool.false_ne_true
  | int i =>
    obtain ⟨t, rfl⟩ := rx
    cases y with
    | non => cases ry; exact PySem.EqNone.ne_int_none (fin_bl I q (by simp))
    | int j => obtain ⟨t', rfl⟩ := ry; exact ne_int (fin_bl I q (congrArg not dec_int))
    | str j => obtain ⟨t', rfl⟩ := ry; exact PySem.EqMixed.ne_int_str (fin_bl I q (by simp))
    | _ => exact absurd (show false = true from hs) Bool.false_ne_true
  | str i =>
    obtain ⟨t, rfl⟩ := rx
    cases y with
    | non => cases ry; exact PySem.EqNone.ne_str_none (fin_bl I q (by simp))
    | bl j => cases ry; exact PySem.EqMixed.ne_str_bool (fin_bl I q (by simp))
    | int j => obtain ⟨t', rfl⟩ := ry; exact PySem.EqMixed.ne_str_int (fin_bl I q (by simp))
    | str j => obtain ⟨t', rfl⟩ := ry; exact ne_str (fin_bl I q (congrArg not dec_str))
    | _ => exact absurd (show false = true from hs) Bool.false_ne_true
  | byt i =>
    obtain ⟨t, rfl⟩ := rx
    cases y with
    | byt j => obtain ⟨t', rfl⟩ := ry; exact PySem.W.ne_bytes (fin_bl I q (congrArg not dec_byt))
    | _ => exact absurd (show false = true from hs) Bool.false_ne_true
  | _ => cases y <;> exact absurd (show false = true from hs) Bool.false_ne_true

theorem op_lt : OpR X (compareOp .Lt) (rI0 fun i j => .bl (decide (i < j))) := opB0 fun _ _ _ _ _ _ _ q => lt_int q
theorem op_gt : OpR X (compareOp .Gt) (rI0 fun i j => .bl (decide (j < i))) := opB0 fun _ _ _ _ _ _ _ q => gt_int q
theorem op_ge : OpR X (compareOp .GtE) (rI0 fun i j => .bl (decide (j ≤ i))) := opB0 fun _ _ _ _ _ _ _ q => ge_int q
/-- is None, is not None: the right side a value none -/
theorem op_isN : OpR X (compareOp .Is) (fun x y H Q => y = .non ∧ Q (.bl (decide (x = .non))) H) := by
  intro pins s σ H x y v u Q I rx ry h
  obtain ⟨rfl, q⟩ := h
  cases ry
  refine is_none_gen (fin_bl I q ?_)
  cases x <;> first
    | (cases rx; rfl)
    | (obtain ⟨t, rfl⟩ := rx; rfl)
theorem nomark (b : Expr) {op : CmpOp} (h : op ≠ .In := by decide) (h2 : op ≠ .NotIn := by decide) : behindInMarks op b = false := by
  have e1 : (op == CmpOp.In) = false := by cases op <;> first | rfl | exact absurd rfl h
  have e2 : (op == CmpOp.NotIn) = false := by cases op <;> first | rfl | exact absurd rfl h2
  cases b <;> simp [behindInMarks, e1, e2]
/-- a comparison as a value; hm: nomark b, or (for in, not in) by with_unfolding_all rfl -/
theorem pe_cmpR {op : CmpOp} {r : R2} (ho : OpR X (compareOp op) r) (ha : PE X a ta) (hb : PE X b tb) (hm : behindInMarks op b = false) : PE X (.Compare a [op] [b] pos) (tOp r ta tb) := by
  intro pins s σ H Q I h
  exact wpAny_Compare1 (binT ha hb I h fun v u s2 x y H2 I2 rx ry q => ho pins s2 σ H2 x y v u Q I2 rx ry q) hm
/-- a reading of a value as a test -/
def tTest (t : TE) : TT := fun σ H Q => t σ H fun x H' => ∃ k, x = .bl k ∧ Q k H'
theorem pt_cmpR {op : CmpOp} {r : R2} (ho : OpR X (compareOp op) r) (ha : PE X a ta) (hb : PE X b tb) (hm : behindInMarks op b = false) : PT X (.Compare a [op] [b] pos) (tTest (tOp r ta tb)) := by
  intro pins s σ H Q I h
  refine wpAny_isTrue_Compare1 (thn (ha pins s σ H _ I h) fun v s1 ⟨x, H1, I1, r1, q1⟩ => thn (hb pins s1 σ H1 _ I1 q1) fun u s2 ⟨y, H2, I2, r2, q2⟩ =>
    thn (ho pins s2 σ H2 x y v u _ I2 r1 r2 q2) fun c s3 ⟨z, H3, I3, r3, k, e, q3⟩ => ?_) hm
  subst e
  cases r3
  exact wpAny_truthy_bool ⟨H3, I3, q3⟩
/-! ### truth -/
/-- a value's truth by the abstract heap -/
def TruV (K : PySem.W.Frag) (x : V) (H : Hp) (k : Bool) : Prop :=
  match x with
  | .non => k = false
  | .bl b => k = b
  | .int i => k = (i != 0)
  | .str y => y.length ≤ sizeLine ∧ k = ((y.length : Int) != 0)
  | .byt y => y.size ≤ sizeLine ∧ k = ((y.size : Int) != 0)
  | .ref p => (∃ xs, SqL K H p xs ∧ k = !xs.isEmpty) ∨ (∃ xs, SqT K H p xs ∧ k = !xs.isEmpty) ∨ ∃ kvs, H p = some (.dK kvs) ∧ k = !kvs.isEmpty
  | _ => False
theorem isEmpty_kv {κ : Type} {kvs : List (κ × V)} {vs : List (κ × Value)} (r : KV kvs vs) : (!vs.isEmpty) = !kvs.isEmpty := by
  cases r <;> rfl
theorem isEmpty_of {xs : List V} {its : List Value} (r : Vals xs its) : (!its.toArray.isEmpty) = !xs.isEmpty := by
  cases r <;> simp
theorem line63 : (sizeLine : Nat) < 2 ^ 63 := by rw [sizeLine_eq]; decide
theorem tru_ok : TruR X (fun x H Q => ∃ k, TruV X.K x H k ∧ Q k H) := by
  intro pins s σ H x v Q I rx h
  obtain ⟨k, e, q⟩ := h
  have hl := line63
  have hs : sizeLine = 16777216 := sizeLine_eq
  cases x with
  | non =>
    cases rx
    have e' : k = false := e
    subst e'
    exact truthy_none ⟨H, I, q⟩
  | bl b =>
    cases rx
    have e' : k = b := e
    subst e'
    exact wpAny_truthy_bool ⟨H, I, q⟩
  | int i =>
    obtain ⟨t, rfl⟩ := rx
    have e' : k = (i != 0) := e
    subst e'
    exact PySem.P.truthy_int ⟨H, I, q⟩
  | str y =>
    obtain ⟨t, rfl⟩ := rx
    obtain ⟨hy, e'⟩ : y.length ≤ sizeLine ∧ k = ((y.length : Int) != 0) := e
    subst e'
    exact PySem.P.truthy_str (by omega) ⟨H, I.tok _, q⟩
  | byt y =>
    obtain ⟨t, rfl⟩ := rx
    obtain ⟨hy, e'⟩ : y.size ≤ sizeLine ∧ k = ((y.size : Int) != 0) := e
    subst e'
    exact PySem.W.truthy_bytes (by omega) ⟨H, I.tok _, q⟩
  | ref p =>
    cases rx
    have e' : (∃ xs, SqL X.K H p xs ∧ k = !xs.isEmpty) ∨ (∃ xs, SqT X.K H p xs ∧ k = !xs.isEmpty) ∨ ∃ kvs, H p = some (.dK kvs) ∧ k = !kvs.isEmpty := e
    rcases e' with ⟨xs, hx, e'⟩ | ⟨xs, hx, e'⟩ | ⟨kvs, hx, e'⟩
    · subst e'
      obtain ⟨its, r, pl, hz⟩ := I.list hx
      have hlen := r.length
      exact wpAny_truthy_list pl.isList (by simp only [List.size_toArray]; omega) ⟨H, I.tok _, by rw [isEmpty_of r]; exact q⟩
    · subst e'
      obtain ⟨its, r, pl, hz⟩ := I.tuple hx
      have hlen := r.length
      exact truthy_tuple pl (by simp only [List.size_toArray]; omega) ⟨H, I.tok _, by rw [isEmpty_of r]; exact q⟩
    · subst e'
      obtain ⟨hz, hS, vs, r, m⟩ : kvs.length ≤ sizeLine ∧ (p == sysModules) = false ∧ ∃ vs, KV kvs vs ∧ s.heap.DictOf (mixKind X.prog X.w) p vs := I.hok p _ hx
      have hlen : kvs.length = vs.length := Paired.length r
      exact wpAny_truthy_dict hS m (by omega) ⟨H, I.tok _, by rw [isEmpty_kv r]; exact q⟩
  | _ => exact (show False from e).elim
/-- any expression whose test is its value's truth (a name, a call, a subscript, a field ..: he by fun _ => rfl) -/
theorem pt_truth (ha : PE X a ta) (he : ∀ whole, isTrue a X.env whole = (do let v ← whole; standAt a.pos; holding [v] (truthy v))) :
    PT X a (fun σ H Q => ta σ H fun x H' => ∃ k, TruV X.K x H' k ∧ Q k H') := by
  intro pins s σ H Q I h
  exact isTrue_plain (thn (ha pins s σ H _ I h) fun v s1 ⟨x, H1, I1, r1, q1⟩ => tru_ok pins s1 σ H1 x v Q I1 r1 q1) (he _)

/-! ### strs and bytes -/
/-! ### scalar builtins, by CallR -/
theorem vals1 {x : V} {us : List Value} (r : Vals [x] us) : ∃ u, us = [u] ∧ RelV x u := by
  cases r with
  | cons r1 r2 => cases r2; exact ⟨_, rfl, r1⟩
theorem vals2 {x y : V} {us : List Value} (r : Vals [x, y] us) : ∃ u w', us = [u, w'] ∧ RelV x u ∧ RelV y w' := by
  cases r with
  | cons r1 r2 =>
    cases r2 with
    | cons r3 r4 => cases r4; exact ⟨_, _, rfl, r1, r3⟩
theorem call_max2 (hc : X.calm = true) : CallR X (.builtin "max") (fun xs H Q => ∃ i j, xs = [.int i, .int j] ∧ Q (.int (if j > i then j else i)) H) := by
  intro pins s σ H xs us Q I r h
  obtain ⟨i, j, rfl, q⟩ := h
  obtain ⟨u, w', rfl, ⟨t, rfl⟩, ⟨t', rfl⟩⟩ := vals2 r
  refine max_two_ints (I.ok.hd hc) fun h' tk k => ⟨_, H, I.kept k, ?_, q⟩
  by_cases hj : j > i
  · rw [if_pos hj, if_pos hj]; exact ⟨_, rfl⟩
  · rw [if_neg hj, if_neg hj]; exact ⟨_, rfl⟩
end
end L2

namespace L2
open PySem PySem.Spec PyProof.Rows

/-! ### an instance, its attributes a map -/
structure ObjM (h : Heap) (x dx C : Addr) (mA : Str → Option Value) : Prop where
  obj : h.get? x = some (PySem.W.instObj C dx)
  ns : h.Ns1 dx mA
  ne : dx ≠ x

theorem lookIn_ns {h : Heap} {dx : Addr} {mA : Str → Option Value} (n : h.Ns1 dx mA) : ∃ od, h.get? dx = some od ∧ ∀ name, PySem.W.lookIn name od = some (mA name) := by
  obtain ⟨o, es, ep, ho, hd, hk, _, hm⟩ := n
  refine ⟨o, ho, fun name => ?_⟩
  have e := hm name
  unfold nsFind findBy at e
  rw [← Array.find?_toList] at e
  unfold PySem.W.lookIn
  rw [hd]
  dsimp only
  split
  · rename_i y q
    rw [q] at e
    exact congrArg some e
  · rename_i q
    rw [q] at e
    have a : es.toList.any (·.refKey) = false := by
      rw [List.any_eq_false]
      intro y hy
      obtain ⟨z, t, hkey⟩ := hk y (Array.mem_toList_iff.mp hy)
      simp [DictEntry.refKey, hkey]
    have a' : ¬ es.toList.any (·.refKey) = true := by rw [a]; exact Bool.false_ne_true
    rw [if_neg a']
    exact congrArg some e

theorem ObjM.look {h : Heap} {x dx C : Addr} {mA : Str → Option Value} (I : ObjM h x dx C mA) : ∃ od, PySem.W.InstAt h x (PySem.W.instObj C dx) C (some od) ∧ ∀ name, PySem.W.lookIn name od = some (mA name) :=
  let ⟨od, ho, hl⟩ := lookIn_ns I.ns
  ⟨od, ⟨I.obj, rfl, rfl, ho⟩, hl⟩

section
variable {prog : Program} {w : World} {A : Around} {E : Value → Shared → Prop} {s : Shared} {K : PySem.W.Frag} {x dx C f : Addr} {mA : Str → Option Value} {name : Str} {v : Value}

end

/-! ### the attributes as a list of pairs -/
section
variable {P : Program} {w : World} {H H' : Hp} {h h' : Heap} {a C dx : Addr} {fs fs' : List (Str × V)}
theorem ins_get (hok : HOk P w H h) (e : H a = some (.ins C dx fs)) : ∃ mA, ObjM h a dx C mA ∧ (∀ f, RelO (fs.lookup f) (mA f)) ∧ PySem.Within mA (fs.map (·.1)) ∧ fs.length ≤ 1000 ∧ H dx = some (.own a) := by
  obtain ⟨d, z, ne, ob, mA, n, r, q⟩ := (show ObjOk P w H h a (.ins C dx fs) from hok a _ e)
  exact ⟨mA, ⟨ob, n, ne⟩, r, q, z, d⟩
end

/-! ### what of the text a class must have -/
structure Cls (K : PySem.W.Frag) (C : Addr) : Prop where
  pg : PySem.W.plainGet K C Str.empty = true
  hd : PySem.W.hasDictIn K C = true
  po : PySem.W.plainOver K C = true
  sa : PySem.W.findIn K (.ref C) "__setattr__" = some (some (.builtin "object.__setattr__"))
theorem Cls.get {K : PySem.W.Frag} {C : Addr} (c : Cls K C) (f : Str) : PySem.W.plainGet K C f = true := c.pg
section
variable {X : Cx} {pins : List (Addr × Obj)} {σ : St} {H : Hp} {s : Shared} {a C dx : Addr} {fs : List (Str × V)} {f : Str} {v : V} {A : Around} {E : Value → Shared → Prop}

end

/-! ### readings and rules -/
section
variable {X : Cx} {o e value : Expr} {f : Str} {pos pos' tpos : Pos} {ta tv : TE}
end

/-! ### isinstance -/
section
variable {X : Cx} {pins : List (Addr × Obj)} {σ : St} {H : Hp} {s : Shared} {A : Around} {E : Value → Shared → Prop} {Q : Value → Shared → Prop} {c : Value} {b : Bool}
/-- the type of a value, as the fragment's deciders take it; for an instance its class -/
inductive TyOf (K : PySem.W.Frag) (H : Hp) : V → Value → Prop where
  | non : TyOf K H .non (.type "NoneType")
  | bl (x : Bool) : TyOf K H (.bl x) (.type "bool")
  | int (i : Int) : TyOf K H (.int i) (.type "int")
  | str (x : Str) : TyOf K H (.str x) (.type "str")
  | flt (x : UInt64) : TyOf K H (.flt x) (.type "float")
  | lst {a : Addr} {xs : List V} (e : H a = some (.lst xs)) : TyOf K H (.ref a) (.type "list")
  | frz {a : Addr} {o : Obj} {xs : List V} (e : H a = some (.frz o (.lst xs))) : TyOf K H (.ref a) (.type "list")
  | tup {a : Addr} {xs : List V} (e : H a = some (.tup xs)) : TyOf K H (.ref a) (.type "tuple")
  | dK {a : Addr} {kvs : List (Key × V)} (e : H a = some (.dK kvs)) : TyOf K H (.ref a) (.type "dict")
  | dT {a : Addr} {kvs : List (List Key × V)} (e : H a = some (.dT kvs)) : TyOf K H (.ref a) (.type "dict")
  | ins {a C dx : Addr} {fs : List (Str × V)} (e : H a = some (.ins C dx fs)) (cl : Cls K C) (ha : PySem.W.findIn K (.ref C) "__class__" = some (some (.builtin "object.__class__")))
      (hn : PySem.W.specialIn K (.builtin "object.__class__") "__get__" = some (some (.builtin "getset_descriptor.__get__"))) (htk : PySem.W.takesIn K (.builtin "object.__class__") = some true)
      (hm : PySem.W.mroIn K C (.type "object") = some true) : TyOf K H (.ref a) (.ref C)
/-- isinstance(x, c) for one class c, a built-in or an own one: kitOne's answer -/
theorem isinst_ok {x : V} {u t : Value} (I : Inv X pins σ H s) (rx : RelV x u) (ty : TyOf X.K H x t) (e : PySem.W.kitOne X.K t c = some b) (h : ∀ tk, Q (.bool b) { s with toks := tk }) :
    wpAny (model X.prog X.w) A (call (.builtin "isinstance") [u, c]) Q E s := by
  cases ty with
  | non => cases (show u = Value.none from rx); exact PySem.W.kia_one PySem.W.kitx_none I.kIn True.intro e (fun z => nomatch z) h
  | bl y => cases (show u = Value.bool y from rx); exact PySem.W.kia_one PySem.W.kitx_bool I.kIn True.intro e (fun z => nomatch z) h
  | int i => obtain ⟨t, q⟩ := (show ∃ t, u = Value.int i t from rx); cases q; exact PySem.W.kia_one PySem.W.kitx_int I.kIn True.intro e (fun z => nomatch z) h
  | str y => obtain ⟨t, q⟩ := (show ∃ t, u = Value.str y t from rx); cases q; exact PySem.W.kia_one PySem.W.kitx_str I.kIn True.intro e (fun z => nomatch z) h
  | flt y => obtain ⟨t, q⟩ := (show ∃ t, u = Value.float y t from rx); cases q; exact PySem.W.kia_one PySem.W.kitx_float I.kIn True.intro e (fun z => nomatch z) h
  | @lst a xs ea =>
    cases (show u = Value.ref a from rx)
    obtain ⟨_, _, n, _, h1⟩ := (show ObjOk X.prog X.w H s.heap a (.lst xs) from I.hok a _ ea)
    exact PySem.W.kia_one PySem.W.kitx_list I.kIn ⟨_, h1, rfl⟩ e (fun z => nomatch z) h
  | @frz a ob xs ea =>
    cases (show u = Value.ref a from rx)
    obtain ⟨_, _, _, n, _, h1⟩ := (show ObjOk X.prog X.w H s.heap a (.frz ob (.lst xs)) from I.hok a _ ea)
    exact PySem.W.kia_one PySem.W.kitx_list I.kIn ⟨_, h1, rfl⟩ e (fun z => nomatch z) h
  | @tup a xs ea =>
    cases (show u = Value.ref a from rx)
    obtain ⟨_, _, _, p, _⟩ := (show ObjOk X.prog X.w H s.heap a (.tup xs) from I.hok a _ ea)
    obtain ⟨o, h1, h2, _⟩ := p
    exact PySem.W.kia_one PySem.W.kitx_tuple I.kIn ⟨o, h1, h2⟩ e (fun z => nomatch z) h
  | @dK a kvs ea =>
    cases (show u = Value.ref a from rx)
    obtain ⟨_, _, vs, _, p⟩ := (show ObjOk X.prog X.w H s.heap a (.dK kvs) from I.hok a _ ea)
    obtain ⟨o, es, ep, h1, h2, _⟩ := p
    exact PySem.W.kia_one PySem.W.kitx_dict I.kIn ⟨o, h1, h2.1⟩ e (fun z => nomatch z) h
  | @dT a kvs ea =>
    cases (show u = Value.ref a from rx)
    obtain ⟨_, _, xs, _, o, es, ep, h1, h2, _⟩ := (show ObjOk X.prog X.w H s.heap a (.dT kvs) from I.hok a _ ea)
    exact PySem.W.kia_one PySem.W.kitx_dict I.kIn ⟨o, h1, h2.1⟩ e (fun z => nomatch z) h
  | @ins a C dx fs ea cl ha hn htk hm =>
    cases (show u = Value.ref a from rx)
    obtain ⟨mA, O, _⟩ := ins_get I.hok ea
    obtain ⟨od, J, _⟩ := O.look
    exact PySem.W.kia_one (PySem.W.kitx_own (cl.get _) cl.hd ha hn htk hm) I.kIn J e (fun z => nomatch z) h
end
end L2

namespace L2
open PySem PySem.Spec PyProof.Rows

/-! ### room -/
structure Room (k : Nat) (A : Around) (cm : Bool := true) : Prop where
  hd : cm = true → A.handled = none
  dp : A.depth + 3 * k + 5 < recursionLimit
  un : A.units + 16 * k + 200 < cLine
theorem Room.mono {j k : Nat} {A : Around} {cm : Bool} (r : Room k A cm) (h : j ≤ k) : Room j A cm := ⟨r.hd, by have := r.dp; omega, by have := r.un; omega⟩
theorem Room.deeper {k : Nat} {A : Around} {cm : Bool} (r : Room (k + 1) A cm) (env : Env) : Room k (A.deeper env) cm :=
  ⟨r.hd, by have := r.dp; show A.depth + 1 + 3 * k + 5 < _; omega, by have := r.un; show A.units + 3 + 16 * k + 200 < _; omega⟩
theorem Room.depth {k : Nat} {A : Around} {cm : Bool} (r : Room k A cm) : A.depth < recursionLimit := by have := r.dp; omega
theorem Room.units {k : Nat} {A : Around} {cm : Bool} (r : Room k A cm) : A.units + 64 < cLine := by have := r.un; omega
/-! ### argument lists and displays -/
def tNil : TA := fun _ H Q => Q [] H
def tCons (ta : TE) (tr : TA) : TA := fun σ H Q => ta σ H fun x H1 => tr σ H1 fun xs H2 => Q (x :: xs) H2
section
variable {X : Cx} {e : Expr} {es : List Expr} {te : TE} {t : TA} {pos : Pos}
theorem pa_nil : PA X [] tNil := fun _ _ _ _ H Q I h => Calls.spliced_nil ⟨[], H, I, .nil, h⟩
theorem pa_cons (ha : PE X e te) (hr : PA X es t) (hs : starEach (e :: es) X.env = (false, eval e X.env) :: starEach es X.env := by rfl) : PA X (e :: es) (tCons te t) := by
  intro pos pins s σ H Q I h
  rw [hs]
  show wpAny _ _ (spliced ((false, eval e X.env) :: backTo pos (starEach es X.env))) _ _ s
  refine Calls.spliced_cons (thn (ha pins s σ H _ I h) fun u s1 ⟨x, H1, I1, r1, q1⟩ => ?_)
  exact thn (hr pos pins s1 σ H1 _ I1 q1) fun us s2 ⟨xs, H2, I2, r2, q2⟩ => ⟨x :: xs, H2, I2, .cons r1 r2, q2⟩

/-- a tuple, a list of written items -/
def tTup (t : TA) : TE := fun σ H Q => t σ H fun xs H1 => xs.length ≤ sizeLine ∧ ∀ p, H1 p = none → Q (.ref p) (upd H1 p (.tup xs))
def tLst (t : TA) : TE := fun σ H Q => t σ H fun xs H1 => xs.length ≤ sizeLine ∧ ∀ p, H1 p = none → Q (.ref p) (upd H1 p (.lst xs))
theorem pe_tup {x1} (h : PA X es t) : PE X (.Tuple es x1 pos) (tTup t) := by
  intro pins s σ H Q I hq
  refine wpAny_Tuple_spliced (thn (h pos pins s σ H _ I hq) fun us s1 ⟨xs, H1, I1, r, z, q⟩ => ⟨by rw [← r.length]; exact z, ?_⟩)
  have hf : H1 s1.heap.objs.size = none := I1.hok.fresh (Nat.le_refl _)
  refine ⟨.ref s1.heap.objs.size, upd H1 s1.heap.objs.size (.tup xs), I1.laid (t' := s1.toks) (fun b u e => Heap.get?_push_of_some _ e) (Nat.le_refl _) ?_, rfl, q _ hf⟩
  exact ⟨z, us, r, ⟨_, Heap.get?_push_size _ rfl, rfl, _, rfl⟩, tup_nodict⟩
theorem pe_lst (h : PA X es t) : PE X (.List es pos) (tLst t) := by
  intro pins s σ H Q I hq
  refine wpAny_List_spliced (thn (h pos pins s σ H _ I hq) fun us s1 ⟨xs, H1, I1, r, z, q⟩ => ⟨by rw [← r.length]; exact z, ?_⟩)
  have hf : H1 s1.heap.objs.size = none := I1.hok.fresh (Nat.le_refl _)
  refine ⟨.ref s1.heap.objs.size, upd H1 s1.heap.objs.size (.lst xs), I1.laid (t' := s1.toks) (fun b u e => Heap.get?_push_of_some _ e) (Nat.le_refl _) ?_, rfl, q _ hf⟩
  exact ⟨z, us, 0, r, Heap.get?_push_size _ rfl⟩
end

/-! ### what a def promises -/
/-- a def's promise: the bound arguments in the parameters' order, the heap, the wanted end, the wanted exception -/
abbrev Sp := List V → Hp → VK → XK → Prop
/-- how an exception lies behind a call (file 08 gives it): the callers' frames, abstract heap and state ahead of the call, the wish, the exception, the state -/
abbrev CXT := List Env → Hp → Shared → XK → Value → Shared → Prop

/-- the state at a call -/
structure Env0 (P : Program) (w : World) (K : PySem.W.Frag) (mg : Str → Option Value) (base : Heap) (A : Around) (outer : List Env) (s : Shared) (H : Hp) : Prop where
  frames : A.frames = some outer
  mod : Mod K mg base
  bs : ∀ b o, base.get? b = some o → s.heap.get? b = some o ∧ H b = none
  bsz : base.objs.size ≤ s.heap.objs.size
  funs : s.heap.FunFrames base outer
  frf : ∀ b ∈ frs outer, H b = none
  hok : HOk P w H s.heap
  bare : AllBare s.gens
/-- a call's end -/
def CE (outer : List Env) (P : Program) (w : World) (H : Hp) (s : Shared) (Q : VK) (u : Value) (s' : Shared) : Prop :=
  ∃ v H', s'.os = s.os ∧ AllBare s'.gens ∧ Un (frs outer) [] H H' s.heap s'.heap ∧ HOk P w H' s'.heap ∧ RelV v u ∧ Q v H'
def CR (CX : CXT) (outer : List Env) (P : Program) (w : World) (H : Hp) (s : Shared) (Q : VK) (E : XK) (r : Result) (s' : Shared) : Prop :=
  match r with
  | .ok (.ret u) => CE outer P w H s Q u s'
  | .ok _ => False
  | .error e => CX outer H s E e s'
structure FnOk (P : Program) (w : World) (K : PySem.W.Frag) (mg : Str → Option Value) (base : Heap) (CX : CXT) (k : Nat) (f : Addr) (fd : FuncData) (ps : List Str) (sp : Sp) (cm : Bool := true) : Prop where
  len : ∀ vs H Q E, sp vs H Q E → vs.length = ps.length
  run : ∀ (A : Around) (outer : List Env) (s : Shared) (H : Hp) (args : Args) (us : List Value) (vs : List V) (Q : VK) (E : XK), Room k A cm → Env0 P w K mg base A outer s H → BindsTo s fd args (ps.zip us) → Vals vs us → sp vs H Q E →
    codeAny (model P w) A (.call (.ref f) args) (CR CX outer P w H s Q E) s
section
variable {X : Cx} {pins : List (Addr × Obj)} {σ : St} {H : Hp} {s s' : Shared}
/-- from a body: what a callee wants -/
theorem Inv.env0 (I : Inv X pins σ H s) : Env0 X.prog X.w X.K X.mg X.base X.A X.stack s H :=
  ⟨I.ok.frames, I.ok.mod, I.bs, Nat.le_trans I.ok.bsz I.sz, I.stack, I.stkFree, I.hok, I.bare⟩
/-- behind a call -/
theorem Inv.after {Q : VK} {u : Value} (I : Inv X pins σ H s) (h : CE X.stack X.prog X.w H s Q u s') : EP X pins σ Q u s' := by
  obtain ⟨v, H', os, bare, un, hok, r, q⟩ := h
  obtain ⟨hh, g, d, t, os'⟩ := s'
  obtain rfl : os' = s.os := os
  exact ⟨v, H', I.call (h' := hh) (g' := g) (d' := d) (t' := t) (ch := []) un hok bare (fun b z => absurd z (by simp)), r, q⟩
end

/-! ### calls -/
/-- f(..): the written arguments, then the defaults dvs; E: what is wanted of an exception -/
def tCall (sp : Sp) (dvs : List V) (E : XK) (t : TA) : TE := fun σ H Q => t σ H fun vs H1 => sp (vs ++ dvs) H1 Q E
/-- how the parameters are bound: us the positional arguments, kw the keywords' values by name, ds the defaults that fill up -/
def Binds (K : PySem.W.Frag) (fd : FuncData) (ps : List Str) (ds : List Value) : Prop :=
  ∀ (s : Shared) (us : List Value), K.In s.heap → (us ++ ds).length = ps.length → BindsTo s fd ⟨us, []⟩ (ps.zip (us ++ ds))
/-- every parameter is given -/
theorem Binds.all {K : PySem.W.Frag} {fd : FuncData} {ps : List Str} (h : ∀ us : List Value, us.length = ps.length → bindArgs fd ⟨us, []⟩ = pure (ps.zip us)) : Binds K fd ps [] := fun s us _ hl => by
  rw [List.append_nil] at hl ⊢
  exact .of_eq (h us hl)

/-- an exception of a callee reaches what this body wants of exceptions -/
def Passes (CX : CXT) (X : Cx) (E : XK) : Prop := ∀ (pins : List (Addr × Obj)) (σ : St) (H : Hp) (s : Shared) (e : Value) (s' : Shared), Inv X pins σ H s → CX X.stack H s E e s' → X.xe e s'

section
variable {cm : Bool} {X : Cx} {CX : CXT} {k : Nat} {f C : Addr} {fd : FuncData} {ps : List Str} {sp : Sp} {dvs : List V} {ds : List Value} {E : XK} {x m : Str} {p pos apos : Pos} {e o : Expr} {es : List Expr} {ta : TE} {t : TA}

/-- the callee runs -/
theorem run_fn {pins : List (Addr × Obj)} {σ : St} {H : Hp} {s : Shared} {Q : VK} {us : List Value} {vs : List V} (F : FnOk X.prog X.w X.K X.mg X.base CX k f fd ps sp cm) (hr : Room k X.A cm) (hb : Binds X.K fd ps ds) (hd : Vals dvs ds) (hx : Passes CX X E)
    (I : Inv X pins σ H s) (r : Vals vs us) (h : sp (vs ++ dvs) H Q E) : wpAny (model X.prog X.w) X.A (call (.ref f) us) (EP X pins σ Q) X.xe s := by
  have r2 : Vals (vs ++ dvs) (us ++ ds) := r.append hd
  have hl : (us ++ ds).length = ps.length := by rw [← r2.length]; exact F.len _ _ _ _ h
  refine wpAny_call (codeAny_mono (F.run X.A X.stack s H ⟨us, []⟩ (us ++ ds) (vs ++ dvs) Q E hr I.env0 (hb s us I.kIn hl) r2 h) fun r s' hq => ?_)
  cases r with
  | error e => exact hx pins σ H s e s' I hq
  | ok fl =>
    cases fl with
    | ret u => exact I.after hq
    | next => exact False.elim hq
    | brk => exact False.elim hq
    | cont => exact False.elim hq

theorem pe_call (F : FnOk X.prog X.w X.K X.mg X.base CX k f fd ps sp cm) (hr : Room k X.A cm) (hg : Gl X x) (hm : X.mg x = some (.ref f)) (hk : PySem.W.keepIn X.K (.ref f) = true) (hb : Binds X.K fd ps ds) (hd : Vals dvs ds) (hx : Passes CX X E)
    (ha : PA X (e :: es) t) (hdb : (x == ("__debug__" : Str)) = false := by decide) (he : starEach (e :: es) X.env = (false, eval e X.env) :: starEach es X.env := by rfl) (hpl : (backTo pos (starEach es X.env)).any (·.1) = false := by rfl) :
    PE X (.Call (.Name x p) (e :: es) [] pos) (tCall sp dvs E t) := by
  intro pins s σ H Q I h
  refine wpAny_Call_Name_kw (ld_glob I hg hm ?_ hdb)
  refine PySem.W.callWith_K (h₀ := X.base) I.ok.mod.kin hk (thn (ha pos pins s σ H _ I h) fun us s1 ⟨vs, H1, I1, r, q⟩ => ⟨I1.kIn, ?_⟩) he hpl
  exact run_fn F hr hb hd hx I1 r q
end

/-! ### keywords -/
section
variable {cm : Bool} {X : Cx} {CX : CXT} {k : Nat} {f C : Addr} {fd : FuncData} {ps ks : List Str} {sp : Sp} {E : XK} {x m : Str} {p pos apos kpos : Pos} {e o : Expr} {es : List Expr} {kws : List Keyword} {te ta : TE} {t tk : TA} {nm : Option Str}
variable {g : List Value → List Value → List Value} {gV : List V → List V → List V}
end

/-! ### a def's body keeps its promise -/
/-- names: the parameters first -/
structure FnScope (N P : List Str) (sc : Scope) : Prop where
  kind : sc.kind = .function
  co : sc.isCoroutine = false
  gen : sc.isGenerator = false
  nd : N.Nodup
  pre : N.take P.length = P
  par : ∀ x ∈ P, sc.names.lookup x = some .local ∨ sc.names.lookup x = some .cell
  nofree : ∀ y ∈ sc.names, y.2 ≠ .free

theorem bindL_out {kindOf : Str → Option NameKind} {x : Str} : ∀ {binds : List (Str × Value)} {m : Str → Option Value}, (∀ v, (x, v) ∉ binds) → bindL kindOf binds m x = m x
  | [], _, _ => rfl
  | (n, v) :: r, m, h => by
    unfold bindL
    rw [bindL_out fun w hw => h w (List.mem_cons_of_mem _ hw)]
    split
    · have : x ≠ n := by rintro rfl; exact h v List.mem_cons_self
      simp [this]
    · rfl
theorem bindC_out {kindOf : Str → Option NameKind} {x : Str} : ∀ {binds : List (Str × Value)} {m : Str → Option Value}, (∀ v, (x, v) ∉ binds) → bindC kindOf binds m x = m x
  | [], _, _ => rfl
  | (n, v) :: r, m, h => by
    unfold bindC
    rw [bindC_out fun w hw => h w (List.mem_cons_of_mem _ hw)]
    split
    · rfl
    · have : x ≠ n := by rintro rfl; exact h v List.mem_cons_self
      simp [this]
theorem bindL_get {kindOf : Str → Option NameKind} {x : Str} {v : Value} : ∀ {P : List Str} {vs : List Value} {i : Nat} {m : Str → Option Value}, P.Nodup → P[i]? = some x → vs[i]? = some v → kindOf x = some .local →
    bindL kindOf (P.zip vs) m x = some v
  | [], _, _, _, _, h, _, _ => by simp at h
  | _ :: _, [], _, _, _, _, h, _ => by simp at h
  | p :: P, w :: vs, 0, m, nd, h1, h2, hk => by
    simp at h1 h2; subst h1; subst h2
    show bindL kindOf ((p, w) :: P.zip vs) m p = _
    unfold bindL
    rw [bindL_out fun v hv => (List.nodup_cons.mp nd).1 (List.of_mem_zip hv).1, if_pos hk]
    simp
  | p :: P, w :: vs, i + 1, m, nd, h1, h2, hk => by
    show bindL kindOf ((p, w) :: P.zip vs) m x = _
    unfold bindL
    exact bindL_get (i := i) (List.nodup_cons.mp nd).2 (by simpa using h1) (by simpa using h2) hk
theorem bindC_get {kindOf : Str → Option NameKind} {x : Str} {v : Value} : ∀ {P : List Str} {vs : List Value} {i : Nat} {m : Str → Option Value}, P.Nodup → P[i]? = some x → vs[i]? = some v → kindOf x ≠ some .local →
    bindC kindOf (P.zip vs) m x = some v
  | [], _, _, _, _, h, _, _ => by simp at h
  | _ :: _, [], _, _, _, _, h, _ => by simp at h
  | p :: P, w :: vs, 0, m, nd, h1, h2, hk => by
    simp at h1 h2; subst h1; subst h2
    show bindC kindOf ((p, w) :: P.zip vs) m p = _
    unfold bindC
    rw [bindC_out fun v hv => (List.nodup_cons.mp nd).1 (List.of_mem_zip hv).1, if_neg hk]
    simp
  | p :: P, w :: vs, i + 1, m, nd, h1, h2, hk => by
    show bindC kindOf ((p, w) :: P.zip vs) m x = _
    unfold bindC
    exact bindC_get (i := i) (List.nodup_cons.mp nd).2 (by simpa using h1) (by simpa using h2) hk

/-- the names' values at the entry -/
def start (N : List Str) (vs : List V) : St := vs.map some ++ List.replicate (N.length - vs.length) none

/-- the context of a def's body, at its entry; an exception leaves the frame, then lies as CX says -/
def cxOf (CX : CXT) (P : Program) (w : World) (K : PySem.W.Frag) (mg : Str → Option Value) (base : Heap) (N : List Str) (qual : Str) (scope : Scope) (f : Addr) (cd : Value) (A : Around) (outer : List Env) (s : Shared) (H : Hp) (E : XK) (cm : Bool := true) : Cx where
  prog := P
  w := w
  K := K
  mg := mg
  base := base
  A := A.deeper (envOfC qual scope s.heap.objs.size f cd)
  N := N
  s₀ := s
  H₀ := H
  env := envOfC qual scope s.heap.objs.size f cd
  outer := outer
  stack := envOfC qual scope s.heap.objs.size f cd :: outer
  ex := []
  calm := cm
  fn := fun _ => true
  pn := []
  xe := fun e s' => wpAny (model P w) (A.deeper (envOfC qual scope s.heap.objs.size f cd)) (leaving (envOfC qual scope s.heap.objs.size f cd) e) (fun _ s'' => CX outer H s E e s'') (fun e' s'' => CX outer H s E e' s'') s'

theorem cell_has {sc : Scope} {n : Nat} {x : Str} (h : sc.names.lookup x = some .cell) : ∃ c, (cellsFrom n sc.names []).lookup x = some c := by
  have q := PySem.W.cellsFrom_some sc.names n [] (.inl h)
  exact Option.isSome_iff_exists.mp q

theorem inv_start {CX : CXT} {P : Program} {w : World} {K : PySem.W.Frag} {mg : Str → Option Value} {base : Heap} {N ps : List Str} {qual : Str} {scope : Scope} {f : Addr} {cd : Value} {A : Around} {outer : List Env} {s s1 : Shared} {H : Hp} {E : XK} {cm : Bool} {us : List Value} {vs : List V}
    (S : FnScope N ps scope) (hd : cm = true → A.handled = none) (e0 : Env0 P w K mg base A outer s H) (hl : vs.length = ps.length) (r : Vals vs us)
    (x : InCallC s s.heap.objs.size (bindL (envOfC qual scope s.heap.objs.size f cd).kindOf (ps.zip us) fun _ => none) (cellsFrom (s.heap.objs.size + 1) scope.names []) (bindC (envOfC qual scope s.heap.objs.size f cd).kindOf (ps.zip us) fun _ => none) s1) :
    Inv (cxOf CX P w K mg base N qual scope f cd A outer s H E cm) [] (start N vs) H s1 := by
  have hpl : ps.length ≤ N.length := by have := congrArg List.length S.pre; rw [List.length_take] at this; omega
  obtain ⟨h1, tk, rfl, hk⟩ := x.done
  have noA : ∀ b : Addr, b ∉ (cxOf CX P w K mg base N qual scope f cd A outer s H E cm).ex := fun b z => absurd (show b ∈ ([] : List Addr) from z) (by simp)
  refine ⟨⟨e0.mod, S.kind, rfl, rfl, Nat.le_refl _, fun y z c h1 h2 => ?_, fun y hy => ?_, fun y c _ h => ?_, hd, Around.frames_deeper e0.frames, .inr ⟨rfl, rfl⟩, fun b z => absurd z (noA b), e0.bs, e0.bsz, fun b _ _ => noA b, fun b z => absurd z (noA b), e0.funs, e0.frf⟩,
    rfl, e0.bare, Un.kept hk, ⟨_, x.toInCall.ns, fun i y v h1 h2 h3 => ?_⟩, fun y c h => ⟨_, x.cell y c h⟩, e0.hok.fresh (Nat.le_refl _), fun y c h => ?_, fun p hp => absurd (show p ∈ ([] : List (Addr × Obj)) from hp) (by simp), e0.hok.kept hk, ?_⟩
  · exact name_of_addr x.apart (PySem.mem_of_lookup h1) (PySem.mem_of_lookup h2)
  · have hy : scope.names.lookup y = some .cell ∨ scope.names.lookup y = some .free := hy
    rcases hy with hy | hy
    · exact cell_has hy
    · exact absurd rfl (S.nofree _ (PySem.mem_of_lookup hy))
  · exact Nat.le_of_lt (x.above y c (PySem.mem_of_lookup h))
  · have hi : i < vs.length := by
      unfold start at h2
      by_cases hi : i < vs.length
      · exact hi
      · rw [List.getElem?_append_right (by simpa using hi)] at h2
        rw [List.getElem?_replicate] at h2
        split at h2 <;> cases h2
    have ha : vs[i]? = some v := by
      unfold start at h2
      rw [List.getElem?_append_left (by simpa using hi), List.getElem?_map] at h2
      cases e : vs[i]? with
      | none => rw [e] at h2; cases h2
      | some a => rw [e] at h2; cases h2; rfl
    obtain ⟨u, hu, rv⟩ := r.get ha
    have hp : ps[i]? = some y := by
      rw [← S.pre, List.getElem?_take_of_lt (by omega)]; exact h1
    have ndP : ps.Nodup := by rw [← S.pre]; exact S.nd.sublist (List.take_sublist _ _)
    refine ⟨u, rv, ?_⟩
    rcases S.par y (List.mem_of_getElem? hp) with k | k
    · exact .inl ⟨k, bindL_get ndP hp hu k⟩
    · obtain ⟨c, e⟩ := cell_has (n := s.heap.objs.size + 1) k
      refine .inr ⟨.inl k, c, e, ?_⟩
      have q := x.cell y c e
      rw [bindC_get ndP hp hu (by show scope.names.lookup y ≠ _; rw [k]; decide)] at q
      exact q
  · exact e0.hok.fresh (Nat.le_of_lt (x.above y c (PySem.mem_of_lookup h)))
  · unfold start
    show _ = N.length
    rw [List.length_append, List.length_map, List.length_replicate]
    omega

/-- THE RULE: a def (or a method) of the text, by its body. The body's reading t is chosen for each entry; it is run at the parameters' values -/
theorem fn_of {CX : CXT} {P : Program} {w : World} {K : PySem.W.Frag} {mg : Str → Option Value} {base : Heap} {k : Nat} {f : Addr} {name qual : Str} {params : Arguments} {body : List Stmt} {scope : Scope} {dV kV doc pm cdv ct oc : Value} {an od : Option Addr}
    {osl : Array (Option Value)} {N ps : List Str} {sp : Sp} {cm : Bool} (lk : K.lookup f = some ⟨oc, od, .func (PySem.W.fnOf name qual params body scope dV kV doc pm an cdv ct), osl⟩) (hcd : PySem.W.codeIn K cdv qual = true) (S : FnScope N ps scope)
    (len : ∀ vs H Q E, sp vs H Q E → vs.length = ps.length)
    (hbody : ∀ (A : Around) (outer : List Env) (s : Shared) (H : Hp) (vs : List V) (Q : VK) (E : XK), Room k (A.deeper (envOfC qual scope s.heap.objs.size f cdv)) cm → sp vs H Q E →
      ∃ t, PSs (cxOf CX P w K mg base N qual scope f cdv A outer s H E cm) body t ∧ t { nx := fun _ H' => Q .non H', rt := Q } (start N vs) H) :
    FnOk P w K mg base CX (k + 1) f (PySem.W.fnOf name qual params body scope dV kV doc pm an cdv ct) ps sp cm := by
  refine ⟨len, fun A outer s H args us vs Q E hr e0 hb r hsp => ?_⟩
  have hl := len _ _ _ _ hsp
  have KX : K.In s.heap := e0.mod.kin.keeps fun b o e => (e0.bs b o e).1
  have lim : s.heap.NoLimit := e0.mod.nolimit.keeps fun b o e => (e0.bs b o e).1
  have hkind : ∀ y ∈ ps.zip us, scope.names.lookup y.1 = some .local ∨ (scope.names.lookup y.1 = some .cell ∧ ((cellsFrom (s.heap.objs.size + 1) scope.names []).lookup y.1).isSome = true) := fun ⟨n, v⟩ hy => by
    rcases S.par n (List.of_mem_zip hy).1 with q | q
    · exact .inl q
    · exact .inr ⟨q, PySem.W.cellsFrom_some _ _ _ (.inl q)⟩
  refine codeAny_call_function hr.depth (KX _ _ lk) rfl S.co S.gen rfl (PySem.W.codeRec_of KX hcd) (hb _ _ _ _ ?_)
  refine wpAny_newFunctionEnv_cells S.kind hkind fun env he s1 x => ?_
  subst he
  refine ⟨lim.keeps x.toInCall.keep, codeAny_func ?_⟩
  obtain ⟨t, ht, hq⟩ := hbody A outer s H vs Q E (hr.deeper _) hsp
  have I : Inv (cxOf CX P w K mg base N qual scope f cdv A outer s H E cm) [] (start N vs) H s1 := inv_start S hr.hd e0 hl r x
  refine wpAny_mono (ht [] s1 (start N vs) H _ I hq) (fun fl s' hs => ?_) fun e s' hs => hs
  have fin : ∀ {σ' : St} {H' : Hp} {v : V} {u : Value}, Inv (cxOf CX P w K mg base N qual scope f cdv A outer s H E cm) [] σ' H' s' → RelV v u → Q v H' → CE outer P w H s Q u s' :=
    fun {σ' H' v u} J rv q => ⟨v, H', J.os, J.bare, J.base, J.hok, rv, q⟩
  cases fl with
  | ret u =>
    obtain ⟨v, σ', H', J, rv, q⟩ := hs
    exact fin J rv q
  | next =>
    obtain ⟨σ', H', J, q⟩ := hs
    exact fin (v := V.non) (u := Value.none) J rfl q
  | brk =>
    obtain ⟨_, _, _, q⟩ := hs
    exact False.elim q
  | cont =>
    obtain ⟨_, _, _, q⟩ := hs
    exact False.elim q
end L2

namespace L2
open PySem PySem.Spec PyProof.Rows
section
variable {X : Cx} {x : Str} {p pos : Pos} {e : Expr} {es : List Expr} {t : TA} {id T : String} {r : List V → Hp → VK → Prop}

def tCB (r : List V → Hp → VK → Prop) (t : TA) : TE := fun σ H Q => t σ H fun vs H1 => r vs H1 Q
/-- f(e, ..), f a built-in function -/
theorem pe_callB (hc : CallR X (.builtin id) r) (hg : Gl X x) (hm : X.mg x = none) (hv : bootBuiltins x = some (.builtin id)) (ha : PA X (e :: es) t) (hn : x ≠ "__name__" := by decide) (hdb : (x == ("__debug__" : Str)) = false := by decide)
    (he : starEach (e :: es) X.env = (false, eval e X.env) :: starEach es X.env := by rfl) (hpl : (backTo pos (starEach es X.env)).any (·.1) = false := by rfl) : PE X (.Call (.Name x p) (e :: es) [] pos) (tCB r t) := by
  intro pins s σ H Q I h
  refine wpAny_Call_Name_kw (ld_blt I hg hm hv ?_ hn hdb)
  exact PyProof.Rows.callWith_builtin1 (thn (ha pos pins s σ H _ I h) fun us s1 ⟨vs, H1, I1, r1, q1⟩ => hc pins s1 σ H1 vs us Q I1 r1 q1) he hpl
/-- T(e, ..), T a built-in type -/
theorem pe_callTy (hc : CallR X (.type T) r) (hg : Gl X x) (hm : X.mg x = none) (hv : bootBuiltins x = some (.type T)) (ha : PA X (e :: es) t) (hn : x ≠ "__name__" := by decide) (hdb : (x == ("__debug__" : Str)) = false := by decide)
    (he : starEach (e :: es) X.env = (false, eval e X.env) :: starEach es X.env := by rfl) (hpl : (backTo pos (starEach es X.env)).any (·.1) = false := by rfl) : PE X (.Call (.Name x p) (e :: es) [] pos) (tCB r t) := by
  intro pins s σ H Q I h
  refine wpAny_Call_Name_kw (ld_blt I hg hm hv ?_ hn hdb)
  exact PyProof.Rows.callWith_type1 (thn (ha pos pins s σ H _ I h) fun us s1 ⟨vs, H1, I1, r1, q1⟩ => hc pins s1 σ H1 vs us Q I1 r1 q1) he hpl
end
end L2

namespace HT
open PySem PyProof.Rows

section
open PySem.SeqAt
open PySem.AutoSeq1 (wpAny_loadPart')
open PySem.MeetsSeq PySem.MeetsSeq2 PySem.MeetsSeq3

end

section
variable {prog : Program} {w : World} {A : Around} {E : Value → Shared → Prop} {s : Shared}

/-- t + u, t not empty -/
theorem cat_tup {t b : Addr} {vs ws : List Value} {Q : Value → Shared → Prop} (ht : IsTup s.heap t vs.toArray) (hb : IsTup s.heap b ws.toArray) (hv : vs ≠ [])
    (h1 : ws = [] → Q (.ref t) s) (h2 : ws ≠ [] → Q (.ref s.heap.objs.size) { s with heap := s.heap.push { cls := .type "tuple", data := .seq (vs ++ ws).toArray } })
    (hsz : vs.length + ws.length ≤ sizeLine) : wpAny (model prog w) A (binaryOp .Add (.ref t) (.ref b)) Q E s := by
  obtain ⟨⟨cls, dd, data, sl⟩, ho, hc, n, hd⟩ := id ht
  obtain ⟨⟨cls2, dd2, data2, sl2⟩, ho2, hc2, n2, hd2⟩ := id hb
  simp only at hc hd hc2 hd2
  subst hc hd hc2 hd2
  have e : vs.toArray ++ ws.toArray = (vs ++ ws).toArray := by simp
  by_cases hw : ws = []
  · exact concat_meets ⟨_, ho, rfl⟩ ⟨_, ho2, rfl⟩ noFill_tuple_add seq_tuple_add PySem.F.slot_tuple_add PySem.F.entry_tuple_add (PySem.F.args_tuple_add_2 _ _)
      (tuple_addW1 t b vs.toArray ws.toArray n n2 dd dd2 sl sl2 (by simpa using hv) (by simp [hw])) ⟨ho, ho2, h1 hw⟩
  · refine concat_meets ⟨_, ho, rfl⟩ ⟨_, ho2, rfl⟩ noFill_tuple_add seq_tuple_add PySem.F.slot_tuple_add PySem.F.entry_tuple_add (PySem.F.args_tuple_add_2 _ _)
      (tuple_addW2 t b vs.toArray ws.toArray n n2 dd dd2 sl sl2 (by simpa using hv) (by simpa using hw) (by rw [List.size_toArray, List.size_toArray]; exact hsz)) ⟨ho, ho2, ?_⟩
    rw [e]
    exact h2 hw

/-! ### t[a:b], not the whole -/
/-- a slice's bound as a place among n (d where it is left out) -/
def sIx (n d : Nat) : Option Int → Nat
  | none => d
  | some v => if v < 0 then (v + (n : Int)).toNat else min v.toNat n
theorem sIx_none (n d : Nat) : sIx n d none = d := rfl
theorem sIx_nat (n d k : Nat) : sIx n d (some (k : Int)) = min k n := by
  show (if (k : Int) < 0 then ((k : Int) + (n : Int)).toNat else min (k : Int).toNat n) = min k n
  rw [if_neg (by omega), Int.toNat_natCast]
theorem sIx_le (n d : Nat) (hd : d ≤ n) (o : Option Int) : sIx n d o ≤ n := by
  cases o with
  | none => exact hd
  | some v =>
    show (if v < 0 then (v + (n : Int)).toNat else min v.toNat n) ≤ n
    by_cases hv : v < 0
    · rw [if_pos hv]; omega
    · rw [if_neg hv]; exact Nat.min_le_right _ _
theorem clip_eq (v : Int) (n d : Nat) : (if v < 0 then max (v + (n : Int)) 0 else min v (n : Int)) = ((sIx n d (some v) : Nat) : Int) := by
  show (if v < 0 then max (v + (n : Int)) 0 else min v (n : Int)) = (((if v < 0 then (v + (n : Int)).toNat else min v.toNat n) : Nat) : Int)
  by_cases hv : v < 0
  · simp only [if_pos hv]; omega
  · simp only [if_neg hv]; omega
theorem adjust_gen (lo hi : Option Int) (n : Nat) : Builtin.Slice.sliceAdjust lo hi 1 (n : Int) = (((sIx n 0 lo : Nat) : Int), ((sIx n n hi : Nat) : Int)) := by
  have h1 : ¬ ((1 : Int) < 0) := by omega
  unfold Builtin.Slice.sliceAdjust
  simp only [h1, if_false]
  refine Prod.ext ?_ ?_
  · cases lo with
    | none => rfl
    | some v => exact clip_eq v n 0
  · cases hi with
    | none => rfl
    | some v => exact clip_eq v n n
theorem places_gen (i j : Nat) : Builtin.Slice.slicePlaces (i : Int) (j : Int) 1 = j - i := by
  unfold Builtin.Slice.slicePlaces
  have h1 : (1 : Int) > 0 := by omega
  simp only [h1, if_true, Int.ediv_one]
  split <;> omega
theorem slicePart_ {v : Value} {o : Option Int} {Q : Option Int → Shared → Prop} (p : IsPart v o) (h : Q o s) : wpAny (model prog w) A (Builtin.Slice.slicePartIndex v) Q E s := by
  cases p with
  | none => exact slicePart_none h
  | int i t => exact slicePart_int h
theorem sliceApplied_gen {sl : Addr} {vl vu : Value} {lo hi : Option Int} {n : Nat} {Q : Int × Int × Nat → Shared → Prop} (hs : s.heap.IsSliceOf sl vl vu .none) (pl : IsPart vl lo) (pu : IsPart vu hi)
    (h : Q (((sIx n 0 lo : Nat) : Int), 1, sIx n n hi - sIx n 0 lo) s) : wpAny (model prog w) A (Builtin.Slice.sliceApplied (.ref sl) (pure (n : Int))) Q E s := by
  obtain ⟨os, hos, hcs, hds⟩ := id hs
  unfold Builtin.Slice.sliceApplied Builtin.Slice.sliceFields
  refine wpAny_bind (wpAny_bind (wpAny_field hos hds (x := vl) rfl (wpAny_bind (wpAny_field hos hds (x := vu) rfl (wpAny_bind (wpAny_field hos hds (x := .none) rfl (wpAny_pure ?_)))))))
  refine wpAny_bind (slicePart_none ?_)
  show wpAny _ _ (if ((1 : Int) == 0) = true then _ else _) _ _ s
  rw [if_neg (by decide)]
  refine wpAny_bind (slicePart_ pl (wpAny_bind (slicePart_ pu (wpAny_bind (wpAny_pure ?_)))))
  show wpAny _ _ (match Builtin.Slice.sliceAdjust lo hi 1 (n : Int) with | (lo, hi) => pure (lo, (1 : Int), Builtin.Slice.slicePlaces lo hi 1)) _ _ s
  rw [adjust_gen lo hi n]
  show wpAny _ _ (pure (((sIx n 0 lo : Nat) : Int), (1 : Int), Builtin.Slice.slicePlaces ((sIx n 0 lo : Nat) : Int) ((sIx n n hi : Nat) : Int) 1)) _ _ s
  rw [places_gen]
  exact wpAny_pure h
theorem pick_gen (xs : Array Value) (i k : Nat) : ((List.range k).filterMap fun (m : Nat) => xs[((i : Int) + (m : Int) * 1).toNat]?).toArray = ((xs.toList.drop i).take k).toArray := by
  have e : (fun (m : Nat) => xs[((i : Int) + (m : Int) * 1).toNat]?) = fun m => xs[i + m]? := by
    funext m
    have : ((i : Int) + (m : Int) * 1).toNat = i + m := by omega
    rw [this]
  rw [e]
  have := pick_run xs i k
  rw [List.filterMap_map] at this
  have e2 : ((fun x => xs[x]?) ∘ fun x => i + x) = fun m => xs[i + m]? := rfl
  rw [e2] at this
  rw [this]

theorem getItem_tuple_cut {t sl : Addr} {items : Array Value} {vl vu : Value} {lo hi : Option Int} {Q : Value → Shared → Prop} (ht : IsTup s.heap t items) (hs : s.heap.IsSliceOf sl vl vu .none) (pl : IsPart vl lo) (pu : IsPart vu hi)
    (hw : ¬ (sIx items.size 0 lo = 0 ∧ sIx items.size items.size hi = items.size))
    (h : Q (.ref s.heap.objs.size) { s with heap := s.heap.push { cls := .type "tuple", data := .seq ((items.toList.drop (sIx items.size 0 lo)).take (sIx items.size items.size hi - sIx items.size 0 lo)).toArray } })
    (hsz : items.size ≤ sizeLine) : wpAny (model prog w) A (getItem (.ref t) (.ref sl)) Q E s := by
  have htake : sizeOk (.seq ((items.toList.drop (sIx items.size 0 lo)).take (sIx items.size items.size hi - sIx items.size 0 lo)).toArray) := by
    show ((items.toList.drop (sIx items.size 0 lo)).take (sIx items.size items.size hi - sIx items.size 0 lo)).toArray.size ≤ sizeLine
    rw [List.size_toArray, List.length_take, List.length_drop, Array.length_toList]
    omega
  have hj : sIx items.size items.size hi ≤ items.size := sIx_le _ _ (Nat.le_refl _) hi
  obtain ⟨os, hos, hcs, hds⟩ := id hs
  have hTs : s.TypeIs (.ref sl) "slice" := ⟨os, hos, hcs⟩
  unfold getItem
  try with_reducible refine wpAny_holding ?_
  first | refine wpAny_bind (wpAny_pure ?_) | skip
  refine wpAny_bind (wpAny_sequenceKey ht.typeIs (by decide) ?_)
  refine wpAny_bind (wpAny_callSpecial?_slot (name := Str.ofString "__getitem__") ht.typeIs PyProof.Rows.slot_tuple_getitem
    (wpAny_call_entry PyProof.Rows.slot_tuple_getitem ht.typeIs entry_tuple_getitem ?_ (args_tuple_getitem _ _)))
  show wpAny _ _ (Builtin.Tuple.tupleItemsOf (.ref t) >>= _) _ _ s
  refine wpAny_bind (tupleItemsOf_ ht ?_)
  refine wpAny_bind (wpAny_typeOf hTs ?_)
  rw [if_pos (by decide)]
  refine wpAny_bind (sliceApplied_gen hs pl pu ?_)
  have hno : ¬ ((((sIx items.size 0 lo : Nat) : Int) == 0 && (1 : Int) == 1 && (sIx items.size items.size hi - sIx items.size 0 lo) == items.size) = true) := by
    intro q
    rw [Bool.and_eq_true, Bool.and_eq_true] at q
    have q1 : ((sIx items.size 0 lo : Nat) : Int) = 0 := eq_of_beq q.1.1
    have q2 : sIx items.size items.size hi - sIx items.size 0 lo = items.size := eq_of_beq q.2
    exact hw ⟨by omega, by omega⟩
  show wpAny _ _ (if (((sIx items.size 0 lo : Nat) : Int) == 0 && (1 : Int) == 1 && (sIx items.size items.size hi - sIx items.size 0 lo) == items.size) = true then _ else _) _ _ s
  rw [if_neg hno, pick_gen]
  first
    | exact wpAny_bind (m := Builtin.Tuple.tupleExact _) (wpAny_newObj_type (wpAny_pure ⟨_, rfl, wpAny_pure h⟩) htake)
    | exact wpAny_bind (m := Builtin.Tuple.tupleExact _) (wpAny_newObj_type (wpAny_bind (wpAny_pure (wpAny_pure ⟨_, rfl, wpAny_pure h⟩))) htake)
    | exact wpAny_bind (wpAny_bind (m := Builtin.Tuple.tupleExact _) (wpAny_newObj_type (wpAny_pure (wpAny_pure ⟨_, rfl, wpAny_pure h⟩)) htake))
    | exact wpAny_bind (wpAny_bind (m := Builtin.Tuple.tupleExact _) (wpAny_newObj_type (wpAny_pure ⟨_, rfl, wpAny_pure h⟩) htake))
end
end HT

namespace L2
open PySem PySem.Spec PyProof.Rows

/-! ### the parts of a slice -/
abbrev TO := St → Hp → (Option Int → Hp → Prop) → Prop
/-- a slice's part (left out, or an int) -/
def PO (X : Cx) (e : Option Expr) (t : TO) : Prop :=
  ∀ (pins : List (Addr × Obj)) (s : Shared) (σ : St) (H : Hp) (Q : Option Int → Hp → Prop), Inv X pins σ H s → t σ H Q →
    wpAny (model X.prog X.w) X.A (evalPart e X.env) (fun u s' => ∃ o H', Inv X pins σ H' s' ∧ IsPart u o ∧ Q o H') X.xe s
def tNoPart : TO := fun _ H Q => Q none H
def tPart (t : TE) : TO := fun σ H Q => t σ H fun x H1 => ∃ i, x = .int i ∧ Q (some i) H1

theorem intsAre_of {ns : List Int} : ∀ {us : List Value}, Vals (ns.map V.int) us → IntsAre us ns := by
  induction ns with
  | nil => intro us r; rw [List.map_nil] at r; cases r; exact .nil
  | cons n ns ih =>
    intro us r
    rw [List.map_cons] at r
    cases r with
    | cons r1 r2 =>
      obtain ⟨t, e⟩ := r1
      subst e
      exact .cons n t (ih r2)

section
variable {X : Cx} {e : Expr} {te : TE} {lo hi : Option Expr} {tl th : TO} {pos p2 : Pos}

theorem po_none : PO X none tNoPart := by
  intro pins s σ H Q I h
  rw [evalPart_none]
  exact wpAny_pure ⟨none, H, I, .none, h⟩
theorem po_some (h : PE X e te) : PO X (some e) (tPart te) := by
  intro pins s σ H Q I hw
  rw [evalPart_some]
  refine thn (h pins s σ H _ I hw) fun u s1 ⟨x, H1, I1, r1, q1⟩ => ?_
  obtain ⟨i, rfl, q⟩ := q1
  obtain ⟨t, rfl⟩ := r1
  exact ⟨some i, H1, I1, .int i t, q⟩

/-- what a slice of a value is, by values: the slice object stands at sl -/
def SlR (X : Cx) (r : V → Option Int → Option Int → Hp → VK → Prop) : Prop :=
  ∀ (pins : List (Addr × Obj)) (s : Shared) (σ : St) (H : Hp) (x : V) (v vl vu : Value) (lo hi : Option Int) (sl : Addr) (Q : VK), Inv X pins σ H s → RelV x v → s.heap.IsSliceOf sl vl vu .none → IsPart vl lo → IsPart vu hi → r x lo hi H Q →
    ∃ T id, typeLookup (.type T) "__getitem__" = pure (some (.builtin id)) ∧ s.TypeIs v T ∧ wpAny (model X.prog X.w) X.A (getItem v (.ref sl)) (EP X pins σ Q) X.xe s
theorem SlR.or {r r' : V → Option Int → Option Int → Hp → VK → Prop} (h : SlR X r) (h' : SlR X r') : SlR X (fun x lo hi H Q => r x lo hi H Q ∨ r' x lo hi H Q) := by
  intro pins s σ H x v vl vu lo hi sl Q I rx hs pl pu q
  rcases q with q | q
  · exact h pins s σ H x v vl vu lo hi sl Q I rx hs pl pu q
  · exact h' pins s σ H x v vl vu lo hi sl Q I rx hs pl pu q
def tSl (r : V → Option Int → Option Int → Hp → VK → Prop) (te : TE) (tl th : TO) : TE := fun σ H Q => te σ H fun x H1 => tl σ H1 fun l H2 => th σ H2 fun u H3 => r x l u H3 Q
/-- a[lo:hi], any a -/
theorem pe_slice {r : V → Option Int → Option Int → Hp → VK → Prop} (hr : SlR X r) (he : PE X e te) (hl : PO X lo tl) (hu : PO X hi th) : PE X (.Subscript e (.Slice lo hi none p2) pos) (tSl r te tl th) := by
  intro pins s σ H Q I h
  refine Subscript_ (thn (he pins s σ H _ I h) fun v s1 ⟨x, H1, I1, r1, q1⟩ => ?_)
  refine wpAny_Slice (thn (hl pins s1 σ H1 _ I1 q1) fun vl s2 ⟨l, H2, I2, pl, q2⟩ => thn (hu pins s2 σ H2 _ I2 q2) fun vu s3 ⟨u, H3, I3, pu, q3⟩ => ?_)
  rw [evalPart_none]
  refine wpAny_pure ?_
  have I4 : Inv X pins σ H3 { s3 with heap := s3.heap.push { cls := .type "slice", data := .fields #[vl, vu, .none] } } := I3.kept (t' := s3.toks) fun b ob q => Heap.get?_push_of_some _ q
  obtain ⟨T, id, hT, ht, hg⟩ := hr pins { s3 with heap := s3.heap.push { cls := .type "slice", data := .fields #[vl, vu, .none] } } σ H3 x v vl vu l u s3.heap.objs.size Q I4 r1 (Heap.IsSliceOf.new ..) pl pu q3
  show wpAny (model X.prog X.w) X.A (subscriptTail e (.Slice lo hi none p2) v (.ref s3.heap.objs.size)) (EP X pins σ Q) X.xe { s3 with heap := s3.heap.push { cls := .type "slice", data := .fields #[vl, vu, .none] } }
  exact tail_any (ops := [.ref s3.heap.objs.size, v]) ht hT hg (by with_unfolding_all rfl)

/-- the items of xs[lo:hi] -/
def cutV (xs : List V) (lo hi : Option Int) : List V := (xs.drop (HT.sIx xs.length 0 lo)).take (HT.sIx xs.length xs.length hi - HT.sIx xs.length 0 lo)
theorem cutV_length (xs : List V) (lo hi : Option Int) : (cutV xs lo hi).length ≤ xs.length := by
  unfold cutV
  rw [List.length_take, List.length_drop]
  omega
/-- t[lo:hi], not the whole of it (the whole would be t itself) -/
def rSlT (K : PySem.W.Frag) : V → Option Int → Option Int → Hp → VK → Prop := fun x lo hi H Q => ∃ a xs, x = .ref a ∧ SqT K H a xs ∧
  ¬ (HT.sIx xs.length 0 lo = 0 ∧ HT.sIx xs.length xs.length hi = xs.length) ∧ ∀ p, H p = none → Q (.ref p) (upd H p (.tup (cutV xs lo hi)))
theorem sl_tup : SlR X (rSlT X.K) := by
  intro pins s σ H x v vl vu lo hi sl Q I rx hs pl pu h
  obtain ⟨a, xs, rfl, hx, hw, q⟩ := h
  cases rx
  obtain ⟨its, r, ht, hz⟩ := I.tuple hx
  have hlen : its.toArray.size = xs.length := by rw [List.size_toArray]; exact r.length.symm
  refine ⟨"tuple", _, PyProof.Rows.slot_tuple_getitem.lookup, ht.typeIs, ?_⟩
  refine HT.getItem_tuple_cut ht hs pl pu (by rw [hlen]; exact hw) ?_ (by rw [hlen]; exact hz)
  rw [hlen]
  refine ⟨.ref s.heap.objs.size, _, I.laid (t' := s.toks) (o := .tup (cutV xs lo hi)) (fun b ob q => Heap.get?_push_of_some _ q) (Nat.le_refl _) ?_, rfl, q _ (I.hok.fresh (Nat.le_refl _))⟩
  exact ⟨Nat.le_trans (cutV_length xs lo hi) hz, _, (r.drop (HT.sIx xs.length 0 lo)).take (HT.sIx xs.length xs.length hi - HT.sIx xs.length 0 lo), IsTup.new _ _, tup_nodict⟩

/-! ### t < u, t + u -/
/-- t + u, t not empty: u empty gives t itself -/
def rCatT (K : PySem.W.Frag) : R2 := fun x y H Q => ∃ a b xs ys, x = .ref a ∧ y = .ref b ∧ SqT K H a xs ∧ SqT K H b ys ∧ xs ≠ [] ∧ xs.length + ys.length ≤ sizeLine ∧
  (ys = [] → Q (.ref a) H) ∧ (ys ≠ [] → ∀ p, H p = none → Q (.ref p) (upd H p (.tup (xs ++ ys))))
theorem Vals.nil_iff {xs : List V} {us : List Value} (r : Vals xs us) : us = [] ↔ xs = [] := by
  cases r with
  | nil => simp
  | cons _ _ => simp
theorem op_catT : OpR X (binaryOp .Add) (rCatT X.K) := by
  intro pins s σ H x y v u Q I rx ry h
  obtain ⟨a, b, xs, ys, rfl, rfl, ha, hb, hx, hz, q1, q2⟩ := h
  cases rx
  cases ry
  obtain ⟨its, r1, p1, _⟩ := I.tuple ha
  obtain ⟨its2, r2, p2, _⟩ := I.tuple hb
  refine HT.cat_tup p1 p2 (fun z => hx (r1.nil_iff.mp z)) (fun z => ⟨.ref a, H, I, rfl, q1 (r2.nil_iff.mp z)⟩) (fun z => ?_) (by rw [← r1.length, ← r2.length]; exact hz)
  refine ⟨.ref s.heap.objs.size, _, I.laid (t' := s.toks) (o := .tup (xs ++ ys)) (fun b ob q => Heap.get?_push_of_some _ q) (Nat.le_refl _) ?_, rfl, q2 (fun w => z (r2.nil_iff.mpr w)) _ (I.hok.fresh (Nat.le_refl _))⟩
  exact ⟨by rw [List.length_append]; exact hz, _, r1.append r2, IsTup.new _ _, tup_nodict⟩
end
end L2

namespace L2
open PySem PySem.Spec PyProof.Rows

/-! ### places -/
/-- the place that an index of any sign means -/
def ixN (n : Nat) (i : Int) : Option Nat := if 0 ≤ i then (if i < n then some i.toNat else none) else if -(n : Int) ≤ i then some (i + n).toNat else none
def atI {α : Type} (xs : List α) (i : Int) : Option α := (ixN xs.length i).bind fun j => xs[j]?
theorem ixN_seq {n : Nat} {i : Int} {j : Nat} (h : ixN n i = some j) : seqIndex? i n = some j ∧ j < n ∧ -(n : Int) ≤ i ∧ i < n := by
  unfold ixN at h
  by_cases h0 : 0 ≤ i
  · rw [if_pos h0] at h
    by_cases h1 : i < n
    · rw [if_pos h1] at h
      have e : i.toNat = j := Option.some.inj h
      exact ⟨by rw [seqIndex_of h0 h1, e], by omega, by omega, h1⟩
    · rw [if_neg h1] at h; cases h
  · rw [if_neg h0] at h
    by_cases h1 : -(n : Int) ≤ i
    · rw [if_pos h1] at h
      have e : (i + n).toNat = j := Option.some.inj h
      exact ⟨by rw [seqIndex_neg (by omega) h1, e], by omega, h1, by omega⟩
    · rw [if_neg h1] at h; cases h
theorem atI_get {α : Type} {xs : List α} {i : Int} {v : α} (h : atI xs i = some v) : ∃ j, seqIndex? i xs.length = some j ∧ xs[j]? = some v ∧ j < xs.length ∧ -(xs.length : Int) ≤ i ∧ i < xs.length := by
  unfold atI at h
  cases e : ixN xs.length i with
  | none => rw [e] at h; cases h
  | some j =>
    rw [e] at h
    obtain ⟨h1, h2, h3, h4⟩ := ixN_seq e
    exact ⟨j, h1, h, h2, h3, h4⟩
theorem atI_nat {α : Type} {xs : List α} {j : Nat} {v : α} (h : xs[j]? = some v) : atI xs (j : Int) = some v := by
  have hj : j < xs.length := (List.getElem?_eq_some_iff.mp h).1
  have e : ixN xs.length (j : Int) = some j := by
    unfold ixN
    rw [if_pos (by omega), if_pos (by omega)]; simp
  unfold atI; rw [e]; exact h
/-! ### what may be subscripted -/
/-- what stands as an index of a plain subscript -/
def PlainIx (b : Expr) : Prop := ∀ o i, subscripted b false o i = operate [o, i] (getItem o i)
/-- a subscript by values -/
def IxR (X : Cx) (r : R2) : Prop :=
  ∀ (value slice : Expr) (pins : List (Addr × Obj)) (s : Shared) (σ : St) (H : Hp) (x y : V) (v u : Value) (Q : VK), Inv X pins σ H s → RelV x v → RelV y u → r x y H Q →
    subscripted slice false v u = operate [v, u] (getItem v u) → wpAny (model X.prog X.w) X.A (subscriptTail value slice v u) (EP X pins σ Q) X.xe s
/-- a call of a builtin's method by values: the receiver, the arguments -/
def MtR (X : Cx) (id : String) (r : V → List V → Hp → VK → Prop) : Prop :=
  ∀ (pins : List (Addr × Obj)) (s : Shared) (σ : St) (H : Hp) (x : V) (xs : List V) (v : Value) (us : List Value) (Q : VK), Inv X pins σ H s → RelV x v → Vals xs us → r x xs H Q →
    wpAny (model X.prog X.w) X.A (call (.builtin id) (v :: us)) (EP X pins σ Q) X.xe s
section
variable {X : Cx} {a b : Expr} {ta tb : TE} {pos : Pos}
/-- a[b] -/
theorem pe_ix {r : R2} (hr : IxR X r) (ha : PE X a ta) (hb : PE X b tb) (hs : PlainIx b) : PE X (.Subscript a b pos) (tOp r ta tb) := by
  intro pins s σ H Q I h
  exact Subscript_ (binT ha hb I h fun v u s2 x y H2 I2 rx ry q => hr a b pins s2 σ H2 x y v u Q I2 rx ry q (hs _ _))

def rIxL (K : PySem.W.Frag) : R2 := fun x y H Q => ∃ p xs i v, x = .ref p ∧ y = .int i ∧ SqL K H p xs ∧ atI xs i = some v ∧ Q v H
def rIxT (K : PySem.W.Frag) : R2 := fun x y H Q => ∃ p xs i v, x = .ref p ∧ y = .int i ∧ SqT K H p xs ∧ atI xs i = some v ∧ Q v H
theorem ix_list : IxR X (rIxL X.K) := by
  intro value slice pins s σ H x y v u Q I rx ry h hs
  obtain ⟨p, xs, i, z, rfl, rfl, hq, he, q⟩ := h
  cases rx
  obtain ⟨t, rfl⟩ := ry
  obtain ⟨its, r, pl, hz⟩ := I.list hq
  obtain ⟨j, h1, h2, h3, h4, h5⟩ := atI_get he
  obtain ⟨w, ew, rw'⟩ := r.get h2
  have hl := r.length
  have hn := line63
  have fin : EP X pins σ Q w s := ⟨z, H, I, rw', q⟩
  by_cases h0 : 0 ≤ i
  · have hj : i.toNat = j := by
      rw [seqIndex_of h0 h5] at h1
      exact Option.some.inj h1
    exact item_listR pl.isList h0 (by omega) (by rw [hj]; simpa using ew) fin hs
  · have hj : (i + (its.toArray.size : Int)).toNat = j := by
      rw [seqIndex_neg (by omega) h4] at h1
      rw [List.size_toArray, ← hl]
      exact Option.some.inj h1
    exact subscriptTail_builtinR (x := w) pl.isList.typeIs slot_list_getitem.lookup
      (wpAny_getItem_list_neg (Q := fun r s' => r = w ∧ EP X pins σ Q r s') pl.isList (by omega) (by rw [List.size_toArray] <;> omega) (by omega) (by rw [hj]; simpa using ew) ⟨rfl, fin⟩) hs
theorem ix_tup : IxR X (rIxT X.K) := by
  intro value slice pins s σ H x y v u Q I rx ry h hs
  obtain ⟨p, xs, i, z, rfl, rfl, hq, he, q⟩ := h
  cases rx
  obtain ⟨t, rfl⟩ := ry
  obtain ⟨its, r, pl, hz⟩ := I.tuple hq
  obtain ⟨j, h1, h2, h3, h4, h5⟩ := atI_get he
  obtain ⟨w, ew, rw'⟩ := r.get h2
  have hl := r.length
  have hn := line63
  have fin : EP X pins σ Q w s := ⟨z, H, I, rw', q⟩
  exact subscriptTail_builtinR (x := w) pl.typeIs slot_tuple_getitem.lookup
    (getItem_tuple (j := j) (Q := fun r s' => r = w ∧ EP X pins σ Q r s') pl (by omega) (by omega) (by rw [List.size_toArray, ← hl]; exact h1) (by simpa using ew) ⟨rfl, fin⟩) hs
/-! ### xs[i] = v, any sign -/
/-- the list's object behind a store -/
theorem mapSeq_set (its : List Value) (n j : Nat) (u : Value) : Obj.mapSeq (·.setIfInBounds j u) { cls := .type "list", data := .seq its.toArray n } = { cls := .type "list", data := .seq (its.set j u).toArray n } := by
  simp [Obj.mapSeq]
theorem Inv.lst {pins : List (Addr × Obj)} {σ : St} {H : Hp} {s : Shared} {p : Addr} {xs : List V} (I : Inv X pins σ H s) (h : H p = some (.lst xs)) :
    ∃ (its : List Value) (n : Nat), Vals xs its ∧ s.heap.get? p = some { cls := .type "list", data := .seq its.toArray n } ∧ xs.length ≤ sizeLine := by
  obtain ⟨z, its, n, r, e⟩ := I.hok p _ h
  exact ⟨its, n, r, e, z⟩
/-- the list at p is written by an update of its object -/
theorem Inv.lstUpd {pins : List (Addr × Obj)} {σ : St} {H : Hp} {s : Shared} {p : Addr} {xs ys : List V} {its its' : List Value} {n n' : Nat} {f : Obj → Obj} (I : Inv X pins σ H s) (h : H p = some (.lst xs))
    (ho : s.heap.get? p = some { cls := .type "list", data := .seq its.toArray n }) (hf : f { cls := .type "list", data := .seq its.toArray n } = { cls := .type "list", data := .seq its'.toArray n' }) (r : Vals ys its') (hz : ys.length ≤ sizeLine) (t : Nat) :
    Inv X pins σ (upd H p (.lst ys)) { s with heap := s.heap.update p f, toks := t } := by
  have e : (s.heap.update p f).get? p = some { cls := .type "list", data := .seq its'.toArray n' } := by
    rw [Heap.get?_update_self f ho (by rw [hf] <;> rfl), hf]
  refine I.write (x := p) (e := p) (by rw [h]; trivial) (.inl rfl) (fun b u hb q => (Heap.get?_update_other _ _ (Ne.symm hb)).trans q) ⟨_, e⟩ ?_
  exact ⟨hz, its', n', r, e⟩
def rSetL : V → V → V → Hp → (Hp → Prop) → Prop := fun o i v H Q => ∃ p xs k j, o = .ref p ∧ i = .int k ∧ H p = some (.lst xs) ∧ ixN xs.length k = some j ∧ Q (upd H p (.lst (xs.set j v)))
theorem set_list : PSet X rSetL := by
  intro pins s σ H o i v ov iv u Q I ro ri rv h
  obtain ⟨p, xs, k, j, rfl, rfl, hp, hj, q⟩ := h
  cases ro
  obtain ⟨t, rfl⟩ := ri
  obtain ⟨its, n, r, ho, hz⟩ := I.lst hp
  obtain ⟨h1, h2, h3, h4⟩ := ixN_seq hj
  have hl := r.length
  have hn := line63
  have I' : Inv X pins σ (upd H p (.lst (xs.set j v))) { s with heap := s.heap.update p (Obj.mapSeq (·.setIfInBounds j u)) } :=
    I.lstUpd hp ho (mapSeq_set its n j u) (r.set rv j) (by rw [List.length_set]; exact hz) s.toks
  by_cases h0 : 0 ≤ k
  · have hk : k.toNat = j := by
      rw [seqIndex_of h0 h4] at h1
      exact Option.some.inj h1
    exact PySem.W.ki_setAt ho h0 (by omega) (by rw [List.size_toArray, ← hl]; exact h4) (by rw [hk]; exact ⟨_, I', q⟩)
  · have hk : (k + (its.toArray.size : Int)).toNat = j := by
      rw [seqIndex_neg (by omega) h3] at h1
      rw [List.size_toArray, ← hl]
      exact Option.some.inj h1
    exact PySem.W.ki_setBack ho (by omega) (by rw [List.size_toArray, ← hl]; exact h3) (by omega) (by rw [hk]; exact ⟨_, I', q⟩)

/-! ### slices -/
theorem slice_bounds (lo hi : Option Int) (n : Nat) : (sliceBounds lo hi none n).1 = ((HT.sIx n 0 lo : Nat) : Int) ∧ (sliceBounds lo hi none n).2.1 = ((HT.sIx n n hi : Nat) : Int) ∧ (sliceBounds lo hi none n).2.2 = 1 := by
  refine ⟨?_, ?_, rfl⟩
  · cases lo with
    | none => simp [sliceBounds, HT.sIx]
    | some i =>
      simp only [sliceBounds, HT.sIx, Option.getD_none, show (1 : Int) > 0 by decide, if_true]
      by_cases h : i < 0
      · simp only [h, if_true] <;> omega
      · simp only [h, if_false] <;> omega
  · cases hi with
    | none => simp [sliceBounds, HT.sIx]
    | some i =>
      simp only [sliceBounds, HT.sIx, Option.getD_none, show (1 : Int) > 0 by decide, if_true]
      by_cases h : i < 0
      · simp only [h, if_true] <;> omega
      · simp only [h, if_false] <;> omega
theorem slicePick_cut (its : List Value) (lo hi : Option Int) : slicePick its.toArray lo hi none = ((its.drop (HT.sIx its.length 0 lo)).take (HT.sIx its.length its.length hi - HT.sIx its.length 0 lo)).toArray := by
  obtain ⟨h1, h2, h3⟩ := slice_bounds lo hi its.toArray.size
  unfold slicePick
  rw [h1, h2, h3]
  simp only [sliceRange_one, pick_run, List.size_toArray] <;> rfl
/-- xs[lo:hi] of a list: a new list -/
def rSlL (K : PySem.W.Frag) : V → Option Int → Option Int → Hp → VK → Prop := fun x lo hi H Q => ∃ a xs, x = .ref a ∧ SqL K H a xs ∧ ∀ p, H p = none → Q (.ref p) (upd H p (.lst (cutV xs lo hi)))
theorem sl_list : SlR X (rSlL X.K) := by
  intro pins s σ H x v vl vu lo hi sl Q I rx hs pl pu h
  obtain ⟨a, xs, rfl, hx, q⟩ := h
  cases rx
  obtain ⟨its, r, ht, hz⟩ := I.list hx
  have hlen := r.length
  refine ⟨"list", _, slot_list_getitem.lookup, ht.isList.typeIs, ?_⟩
  refine wpAny_getItem_list_slice ht.isList hs pl pu .none (by simp) ?_ (by rw [List.size_toArray] <;> omega)
  rw [slicePick_cut, ← hlen]
  refine ⟨.ref s.heap.objs.size, _, I.laid (t' := s.toks) (o := .lst (cutV xs lo hi)) (fun b ob q => Heap.get?_push_of_some _ q) (Nat.le_refl _) ?_, rfl, q _ (I.hok.fresh (Nat.le_refl _))⟩
  exact ⟨Nat.le_trans (cutV_length xs lo hi) hz, _, 0, (r.drop (HT.sIx xs.length 0 lo)).take (HT.sIx xs.length xs.length hi - HT.sIx xs.length 0 lo), Heap.get?_push_size _ rfl⟩

/-! ### in, not in: flat items -/
def flatV : V → Bool
  | .non => true
  | .bl _ => true
  | .int _ => true
  | .str _ => true
  | _ => false
/-- == of flat values -/
def eqV : V → V → Bool
  | .non, .non => true
  | .bl a, .bl b => a == b
  | .bl a, .int b => (if a then 1 else 0) == b
  | .int a, .bl b => a == (if b then 1 else 0)
  | .int a, .int b => a == b
  | .str a, .str b => a == b
  | _, _ => false
theorem eqAt_V {A : Around} {s : Shared} {y x : V} {u v : Value} (ry : RelV y u) (rx : RelV x v) (fy : flatV y = true) (fx : flatV x = true) : SeqAt.EqAt A s u v (eqV y x) := by
  cases y with
  | non =>
    cases ry
    cases x with
    | non => cases rx; exact SeqAt.EqAt.same _
    | bl b => cases rx; exact SeqAt.EqAt.none_bool b
    | int b => obtain ⟨t, rfl⟩ := rx; exact SeqAt.EqAt.none_int b t
    | str b => obtain ⟨t, rfl⟩ := rx; exact SeqAt.EqAt.none_str b t
    | _ => exact absurd (show false = true from fx) Bool.false_ne_true
  | bl a =>
    cases ry
    cases x with
    | non => cases rx; exact SeqAt.EqAt.bool_none a
    | bl b => cases rx; exact SeqAt.EqAt.bool_bool a b
    | int b => obtain ⟨t, rfl⟩ := rx; exact SeqAt.EqAt.bool_int a b t
    | str b => obtain ⟨t, rfl⟩ := rx; exact SeqAt.EqAt.bool_str a b t
    | _ => exact absurd (show false = true from fx) Bool.false_ne_true
  | int a =>
    obtain ⟨t', rfl⟩ := ry
    cases x with
    | non => cases rx; exact SeqAt.EqAt.int_none a t'
    | bl b => cases rx; exact SeqAt.EqAt.int_bool a t' b
    | int b => obtain ⟨t, rfl⟩ := rx; exact SeqAt.EqAt.int_int a t' b t
    | str b => obtain ⟨t, rfl⟩ := rx; exact SeqAt.EqAt.int_str a t' b t
    | _ => exact absurd (show false = true from fx) Bool.false_ne_true
  | str a =>
    obtain ⟨t', rfl⟩ := ry
    cases x with
    | non => cases rx; exact SeqAt.EqAt.str_none a t'
    | bl b => cases rx; exact SeqAt.EqAt.str_bool a t' b
    | int b => obtain ⟨t, rfl⟩ := rx; exact SeqAt.EqAt.str_int a t' b t
    | str b => obtain ⟨t, rfl⟩ := rx; exact SeqAt.EqAt.str_str a t' b t
    | _ => exact absurd (show false = true from fx) Bool.false_ne_true
  | _ => exact absurd (show false = true from fy) Bool.false_ne_true
/-- the items' answers, read off the values (a value's own answer does not lean on its token) -/
def eqU (x : V) (u : Value) : Bool := match u with
  | .none => eqV .non x
  | .bool b => eqV (.bl b) x
  | .int i _ => eqV (.int i) x
  | .str z _ => eqV (.str z) x
  | _ => false
theorem eqU_of {x y : V} {u : Value} (r : RelV y u) (f : flatV y = true) : eqU x u = eqV y x := by
  cases y with
  | non => cases r; rfl
  | bl b => cases r; rfl
  | int i => obtain ⟨t, rfl⟩ := r; rfl
  | str z => obtain ⟨t, rfl⟩ := r; rfl
  | _ => exact absurd (show false = true from f) Bool.false_ne_true
theorem any_eqU {x : V} : ∀ {xs : List V} {us : List Value}, Vals xs us → xs.all flatV = true → us.any (eqU x) = xs.any fun y => eqV y x
  | _, _, .nil, _ => rfl
  | y :: xs, u :: us, .cons r t, f => by
    rw [List.all_cons, Bool.and_eq_true] at f
    rw [List.any_cons, List.any_cons, eqU_of r f.1, any_eqU t f.2]
theorem mem_eqAt {A : Around} {s : Shared} {x : V} {v : Value} (rx : RelV x v) (fx : flatV x = true) : ∀ {xs : List V} {us : List Value}, Vals xs us → xs.all flatV = true → ∀ u ∈ us, SeqAt.EqAt A s u v (eqU x u)
  | _, _, .nil, _ => fun u hu => by cases hu
  | y :: xs, u :: us, .cons r t, f => fun u' hu => by
    rw [List.all_cons, Bool.and_eq_true] at f
    rcases List.mem_cons.mp hu with rfl | hu
    · rw [eqU_of r f.1]; exact eqAt_V r rx f.1 fx
    · exact mem_eqAt rx fx t f.2 u' hu
def inV (x : V) (xs : List V) : Bool := xs.any fun y => eqV y x
/-- x in a list or tuple of flat items -/
def rIn (K : PySem.W.Frag) (neg : Bool) : R2 := fun x y H Q => ∃ p xs, y = .ref p ∧ (SqL K H p xs ∨ SqT K H p xs) ∧ flatV x = true ∧ xs.all flatV = true ∧ Q (.bl (if neg then !inV x xs else inV x xs)) H
theorem op_in_seq : OpR X (compareOp .In) (rIn X.K false) := by
  intro pins s σ H x y v u Q I rx ry h
  obtain ⟨p, xs, rfl, hq, fx, fs, q⟩ := h
  cases ry
  rcases hq with hq | hq
  · obtain ⟨its, r, pl, hz⟩ := I.list hq
    refine SeqAt.in_listAt (eqU x) pl.isList (fun w hw => mem_eqAt rx fx r fs w (by simpa using hw)) ⟨.bl _, H, I, rfl, ?_⟩
    rw [show its.toArray.any (eqU x) = its.any (eqU x) by simp, any_eqU r fs]
    exact q
  · obtain ⟨its, r, pl, hz⟩ := I.tuple hq
    refine SeqAt.in_tupleAt (eqU x) pl (fun w hw => mem_eqAt rx fx r fs w (by simpa using hw)) ⟨.bl _, H, I, rfl, ?_⟩
    rw [show its.toArray.any (eqU x) = its.any (eqU x) by simp, any_eqU r fs]
    exact q
theorem op_notIn_seq : OpR X (compareOp .NotIn) (rIn X.K true) := by
  intro pins s σ H x y v u Q I rx ry h
  obtain ⟨p, xs, rfl, hq, fx, fs, q⟩ := h
  cases ry
  rcases hq with hq | hq
  · obtain ⟨its, r, pl, hz⟩ := I.list hq
    refine SeqAt.notIn_listAt (eqU x) pl.isList (fun w hw => mem_eqAt rx fx r fs w (by simpa using hw)) ⟨.bl _, H, I, rfl, ?_⟩
    rw [show its.toArray.any (eqU x) = its.any (eqU x) by simp, any_eqU r fs]
    exact q
  · obtain ⟨its, r, pl, hz⟩ := I.tuple hq
    refine SeqAt.notIn_tupleAt (eqU x) pl (fun w hw => mem_eqAt rx fx r fs w (by simpa using hw)) ⟨.bl _, H, I, rfl, ?_⟩
    rw [show its.toArray.any (eqU x) = its.any (eqU x) by simp, any_eqU r fs]
    exact q
/-! ### len, list(x), tuple(x) of any list or tuple that is read -/
theorem call_len_seq : CallR X (.builtin "len") (fun xs H Q => ∃ p ys, xs = [.ref p] ∧ (SqL X.K H p ys ∨ SqT X.K H p ys) ∧ Q (.int ys.length) H) := by
  intro pins s σ H xs us Q I r h
  obtain ⟨p, ys, rfl, hq, q⟩ := h
  obtain ⟨u, rfl, rx⟩ := vals1 r
  cases rx
  have hn := line63
  rcases hq with hq | hq
  · obtain ⟨its, r', pl, hz⟩ := I.list hq
    have hlen := r'.length
    exact Calls.call_len_list pl.isList (by simp only [List.size_toArray] <;> omega) ⟨.int ys.length, H, I.tok _, ⟨s.toks + 1, by rw [List.size_toArray, hlen]⟩, q⟩
  · obtain ⟨its, r', pl, hz⟩ := I.tuple hq
    have hlen := r'.length
    exact len_tuple pl (by simp only [List.size_toArray] <;> omega) ⟨.int ys.length, H, I.tok _, ⟨s.toks + 1, by rw [List.size_toArray, hlen]⟩, q⟩
theorem call_tuple_of : CallR X (.type "tuple") (fun xs H Q => ∃ p ys, xs = [.ref p] ∧ ((SqL X.K H p ys ∧ ∀ l, H l = none → Q (.ref l) (upd H l (.tup ys))) ∨ (SqT X.K H p ys ∧ Q (.ref p) H))) := by
  intro pins s σ H xs us Q I r h
  obtain ⟨p, ys, rfl, h⟩ := h
  obtain ⟨u, rfl, rx⟩ := vals1 r
  cases rx
  rcases h with ⟨hq, q⟩ | ⟨hq, q⟩
  · obtain ⟨its, r', pl, hz⟩ := I.list hq
    have hlen := r'.length
    refine call_tuple_list pl.isList (fun h' kp => ?_) (by simp only [List.size_toArray] <;> omega)
    have I1 : Inv X pins σ H { s with heap := h' } := I.kept (t' := s.toks) kp
    have I2 : Inv X pins σ (upd H h'.objs.size (.tup ys)) { s with heap := h'.push { cls := .type "tuple", data := .seq its.toArray } } :=
      I1.laid (t' := s.toks) (fun b o e => Heap.get?_push_of_some _ e) (Nat.le_refl _) (show ObjOk X.prog X.w _ _ _ (.tup ys) from ⟨hz, its, r', IsTup.new _ _, tup_nodict⟩)
    exact ⟨.ref h'.objs.size, _, I2, rfl, q _ (I1.hok.fresh (Nat.le_refl _))⟩
  · obtain ⟨its, r', pl, hz⟩ := I.tuple hq
    exact call_tuple_same pl ⟨.ref p, H, I, rfl, q⟩

/-! ### the call of a builtin's method: o.m(..) -/
/-- the value is of that builtin type -/
def tyV (K : PySem.W.Frag) (T : String) (x : V) (H : Hp) : Prop := match x with
  | .str _ => T = "str"
  | .int _ => T = "int"
  | .ref p => (T = "list" ∧ ∃ xs, SqL K H p xs) ∨ (T = "tuple" ∧ ((∃ o, K.lookup p = some o ∧ o.cls = .type "tuple" ∧ o.dict = none) ∨ ∃ xs, H p = some (.tup xs))) ∨
      (T = "dict" ∧ ((∃ kvs, H p = some (.dK kvs)) ∨ ∃ kvs, H p = some (.dT kvs))) ∨ (T = "set" ∧ ∃ S n, H p = some (.set S n))
  | _ => False
theorem tyV_is {pins : List (Addr × Obj)} {σ : St} {H : Hp} {s : Shared} {T : String} {x : V} {v : Value} (I : Inv X pins σ H s) (r : RelV x v) (ty : tyV X.K T x H) :
    s.TypeIs v T ∧ ∀ a, v = .ref a → ∃ ob, s.heap.get? a = some ob ∧ ob.dict = none := by
  cases x with
  | str z =>
    obtain ⟨t, rfl⟩ := r
    cases (show T = "str" from ty)
    exact ⟨typeIs_str s z t, fun _ e => nomatch e⟩
  | int i =>
    obtain ⟨t, rfl⟩ := r
    cases (show T = "int" from ty)
    exact ⟨typeIs_int s i t, fun _ e => nomatch e⟩
  | ref p =>
    cases r
    rcases ty with ⟨rfl, xs, hq⟩ | ⟨rfl, ⟨o, hk, hc, hd⟩ | ⟨xs, hk⟩⟩ | ⟨rfl, hk⟩ | ⟨rfl, S, n, hk⟩
    · obtain ⟨its, _, pl, _⟩ := I.list hq
      refine ⟨pl.isList.typeIs, fun a e => ?_⟩
      cases e
      obtain ⟨o, n, e, c, hd, _⟩ := pl
      exact ⟨o, e, hd⟩
    · refine ⟨⟨o, I.kIn p o hk, hc⟩, fun a e => ?_⟩
      cases e
      exact ⟨o, I.kIn _ o hk, hd⟩
    · obtain ⟨_, _, _, ⟨o, e, hc, _⟩, nd⟩ := (show ObjOk X.prog X.w H s.heap p (.tup xs) from I.hok p _ hk)
      refine ⟨⟨o, e, hc⟩, fun a e2 => ?_⟩
      cases e2
      exact ⟨o, e, nd o e⟩
    · have z : ∃ o, s.heap.get? p = some o ∧ o.ExactDict := by
        rcases hk with ⟨kvs, hk⟩ | ⟨kvs, hk⟩
        · obtain ⟨_, _, _, _, o, _, _, e, ex, _⟩ := I.hok p _ hk
          exact ⟨o, e, ex⟩
        · obtain ⟨_, _, _, _, o, _, _, e, ex, _⟩ := I.hok p _ hk
          exact ⟨o, e, ex⟩
      obtain ⟨o, e, ex⟩ := z
      refine ⟨⟨o, e, ex.1⟩, fun a e2 => ?_⟩
      cases e2
      exact ⟨o, e, ex.2.1⟩
    · obtain ⟨o, _, _, _, e, ex, _⟩ := I.hok p _ hk
      refine ⟨⟨o, e, ex.1⟩, fun a e2 => ?_⟩
      cases e2
      exact ⟨o, e, ex.2.1⟩
  | _ => exact False.elim ty
def tBM (K : PySem.W.Frag) (T : String) (r : V → List V → Hp → VK → Prop) (to : TE) (t : TA) : TE := fun σ H Q => to σ H fun x H1 => tyV K T x H1 ∧ t σ H1 fun xs H2 => r x xs H2 Q
variable {o e : Expr} {es : List Expr} {to : TE} {t : TA} {name : Str} {apos cpos : Pos} {T id : String} {r : V → List V → Hp → VK → Prop}
theorem pe_bm (pa : PlainAttrs T) (slot : Slot T name id) (hty : typeOf (.builtin id) = pure (.type "method_descriptor")) (hm : MtR X id r) (ho : PE X o to) (ha : PA X (e :: es) t)
    (hbase : attributeBase o name X.env (eval o X.env) = eval o X.env := by rfl)
    (hfew : ((backTo cpos (starEach (e :: es) X.env)).all (fun x => !x.1) && (backToKw cpos (keywordEach [] X.env)).all (fun x => x.1.isSome)
      && decide ((e :: es).length + ([] : List Keyword).length + (if ([] : List Keyword).isEmpty then 0 else 1) < 30)) = true := by rfl)
    (hline : (apos.endLine == cpos.line) = true := by rfl) (hs : starEach (e :: es) X.env = (false, eval e X.env) :: starEach es X.env := by rfl) (hplain : (backTo cpos (starEach es X.env)).any (·.1) = false := by rfl) :
    PE X (.Call (.Attribute o name apos) (e :: es) [] cpos) (tBM X.K T r to t) := by
  intro pins s σ H Q I h
  refine wpAny_Call_method_late hbase hfew hline rfl (thn (ho pins s σ H _ I h) fun v s1 ⟨x, H1, I1, r1, ty, q1⟩ => ?_)
  obtain ⟨h1, h2⟩ := tyV_is I1 r1 ty
  refine ⟨T, id, pa, slot, hty, h1, h2, ?_⟩
  have hA := ha cpos pins s1 σ H1 _ I1 q1
  rw [hs] at hA ⊢
  refine Calls.callWith_builtin (by show (false || (backTo cpos (starEach es X.env)).any (·.1)) = false; rw [hplain] <;> rfl) (Calls.evalArgs_plain ?_)
  exact thn hA fun us s2 ⟨vs, H2, I2, r2, q2⟩ => hm pins s2 σ H2 x vs v us Q I2 r1 r2 q2
/- xs.append(e), list.index on a module's tuple .. are MtR facts of 06m -/
end
end L2

namespace L2
open PySem PySem.Spec PyProof.Rows

def MtM (X : Cx) (id : String) (r : V → List V → Hp → VK → Prop) : Prop :=
  ∀ (pins : List (Addr × Obj)) (s : Shared) (σ : St) (H : Hp) (x : V) (xs : List V) (v : Value) (us : List Value) (Q : VK), Inv X pins σ H s → RelV x v → Vals xs us → r x xs H Q →
    wpAny (model X.prog X.w) X.A (call (.builtin id) (v :: us)) (EP X pins σ Q) X.xe s

/-! ### lists of values -/
theorem Vals.one : ∀ {x : V} {us : List Value}, Vals [x] us → ∃ u, us = [u] ∧ RelV x u
  | _, _, .cons r .nil => ⟨_, rfl, r⟩
theorem Vals.eraseIdx : ∀ {xs : List V} {us : List Value} (i : Nat), Vals xs us → Vals (xs.eraseIdx i) (us.eraseIdx i)
  | _, _, _, .nil => .nil
  | _, _, 0, .cons _ t => t
  | _, _, i + 1, .cons r t => .cons r (Vals.eraseIdx i t)
theorem Vals.rep {xs : List V} {us : List Value} (h : Vals xs us) : ∀ k : Nat, Vals (List.replicate k xs).flatten (List.replicate k us).flatten
  | 0 => .nil
  | k + 1 => by
    rw [List.replicate_succ, List.replicate_succ, List.flatten_cons, List.flatten_cons]
    exact Vals.append h (Vals.rep h k)
theorem len_erase {α : Type} : ∀ (l : List α) (i : Nat), (l.eraseIdx i).length ≤ l.length
  | [], _ => Nat.le_refl _
  | _ :: _, 0 => Nat.le_succ _
  | _ :: r, i + 1 => Nat.succ_le_succ (len_erase r i)
theorem foldl_rep (its : List Value) : ∀ (k : Nat) (acc : List Value),
    List.foldl (fun x1 x2 => x1 ++ x2) acc.toArray (List.replicate k its.toArray) = (acc ++ (List.replicate k its).flatten).toArray
  | 0, acc => by simp
  | k + 1, acc => by
    have e : acc.toArray ++ its.toArray = (acc ++ its).toArray := by simp
    have e2 : (acc ++ its) ++ (List.replicate k its).flatten = acc ++ (List.replicate (k + 1) its).flatten := by
      rw [List.replicate_succ, List.flatten_cons, List.append_assoc]
    rw [← e2, ← foldl_rep its k (acc ++ its), ← e, List.replicate_succ, List.foldl_cons]

section
variable {X : Cx} {pins : List (Addr × Obj)} {σ : St} {H : Hp} {s : Shared} {l b : Addr} {xs ys zs : List V}

/-! ### the two steps: a tracked list is rewritten, a new list is laid -/
theorem Inv.lset {its its' : List Value} {n : Nat} {f : Array Value → Array Value} {t' : Nat} (I : Inv X pins σ H s) (hH : H l = some (.lst xs))
    (e : s.heap.get? l = some { cls := .type "list", data := .seq its.toArray n }) (hf : f its.toArray = its'.toArray) (hv : Vals ys its') (hz : ys.length ≤ sizeLine) :
    Inv X pins σ (upd H l (.lst ys)) { s with heap := s.heap.update l (Obj.mapSeq f), toks := t' } := by
  have q := PySem.IsL.update e f
  rw [hf] at q
  refine I.write (x := l) (e := l) (by rw [hH]; exact trivial) (.inl rfl) (fun b' u hb hu => (Heap.get?_update_other s.heap (Obj.mapSeq f) (Ne.symm hb)).trans hu) ⟨_, q⟩ ?_
  exact ⟨hz, its', _, hv, q⟩
theorem Inv.lnew {its : List Value} {t' : Nat} (I : Inv X pins σ H s) (hv : Vals ys its) (hz : ys.length ≤ sizeLine) :
    Inv X pins σ (upd H s.heap.objs.size (.lst ys)) { s with heap := s.heap.push { cls := .type "list", data := .seq its.toArray }, toks := t' } :=
  I.laid (fun _ _ q => Heap.get?_push_of_some _ q) (Nat.le_refl _) ⟨hz, its, 0, hv, Heap.get?_push_size _ rfl⟩
theorem Inv.fresh (I : Inv X pins σ H s) : H s.heap.objs.size = none := I.hok.fresh (Nat.le_refl _)
theorem Inv.lstM (I : Inv X pins σ H s) (hH : H l = some (.lst xs)) : xs.length ≤ sizeLine ∧ ∃ (its : List Value) (n : Nat), Vals xs its ∧ xs.length = its.length ∧ s.heap.get? l = some { cls := .type "list", data := .seq its.toArray n } := by
  obtain ⟨z, its, n, r, e⟩ := I.hok l _ hH
  exact ⟨z, its, n, r, r.length, e⟩

theorem notLongL {n : Nat} (h : n ≤ sizeLine) : Builtin.List.listTooLong n = false := by
  unfold Builtin.List.listTooLong
  exact decide_eq_false (by omega)
end

section
variable {X : Cx}

/-! ### methods -/
def rAppend : V → List V → Hp → VK → Prop := fun x vs H Q => ∃ l xs y, x = .ref l ∧ vs = [y] ∧ H l = some (.lst xs) ∧ xs.length < sizeLine ∧ Q .non (upd H l (.lst (xs ++ [y])))
theorem mt_append : MtM X "list.append" rAppend := by
  intro pins s σ H x vs v us Q I rx rv h
  obtain ⟨l, xs, y, rfl, rfl, hH, hz, q⟩ := h
  cases rx
  obtain ⟨u, rfl, ru⟩ := rv.one
  obtain ⟨z, its, n, r, hl, e⟩ := I.lstM hH
  refine call_meets F.slot_list_append ⟨_, e, rfl⟩ F.entry_list_append (F.args_list_append_2 _ _) (PySem.list_append l its.toArray n u (by rw [List.size_toArray]; omega)) ⟨e, ?_⟩
  refine ⟨.non, _, I.lset (its' := its ++ [u]) hH e (by simp) (r.append (.cons ru .nil)) ?_, rfl, q⟩
  rw [List.length_append, List.length_singleton]
  omega

def rExtend : V → List V → Hp → VK → Prop := fun x vs H Q => ∃ l b xs zs, x = .ref l ∧ vs = [.ref b] ∧ H l = some (.lst xs) ∧ H b = some (.lst zs) ∧ xs.length + zs.length ≤ sizeLine ∧ Q .non (upd H l (.lst (xs ++ zs)))
theorem mt_extend : MtM X "list.extend" rExtend := by
  intro pins s σ H x vs v us Q I rx rv h
  obtain ⟨l, b, xs, zs, rfl, rfl, hH, hB, hz, q⟩ := h
  cases rx
  obtain ⟨u, rfl, ru⟩ := rv.one
  cases ru
  obtain ⟨z, its, n, r, hl, e⟩ := I.lstM hH
  obtain ⟨z2, its2, n2, r2, hl2, e2⟩ := I.lstM hB
  have hsz : its.toArray.size + its2.toArray.size ≤ sizeLine := by rw [List.size_toArray, List.size_toArray]; omega
  have hlong : ¬ (!its.toArray.isEmpty && Builtin.List.listTooLong (its.toArray.size + its2.toArray.size)) = true := by
    rw [notLongL hsz, Bool.and_false]
    exact Bool.false_ne_true
  refine call_meets F.slot_list_extend ⟨_, e, rfl⟩ F.entry_list_extend (F.args_list_extend_2 _ _)
    (AutoSeq1.list_extend_list_list_0 l its.toArray n b its2.toArray n2 hlong (by rw [List.size_toArray]; omega) (by omega)) ⟨e, e2, ?_⟩
  refine ⟨.non, _, I.lset (its' := its ++ its2) hH e (by simp) (r.append r2) ?_, rfl, q⟩
  rw [List.length_append]
  omega

def rPopAt : V → List V → Hp → VK → Prop := fun x vs H Q => ∃ l xs i k y, x = .ref l ∧ vs = [.int i] ∧ H l = some (.lst xs) ∧ -(2 ^ 63) ≤ i ∧ i < 2 ^ 63 ∧ seqIndex? i xs.length = some k ∧ xs[k]? = some y ∧ Q y (upd H l (.lst (xs.eraseIdx k)))
theorem mt_popAt : MtM X "list.pop" rPopAt := by
  intro pins s σ H x vs v us Q I rx rv h
  obtain ⟨l, xs, i, k, y, rfl, rfl, hH, h1, h2, hk, hy, q⟩ := h
  cases rx
  obtain ⟨u, rfl, ru⟩ := rv.one
  obtain ⟨t, rfl⟩ := ru
  obtain ⟨z, its, n, r, hl, e⟩ := I.lstM hH
  obtain ⟨w, hw, rw'⟩ := r.get hy
  refine call_meets F.slot_list_pop ⟨_, e, rfl⟩ F.entry_list_pop (F.args_list_pop_2 _ _)
    (MeetsSeq.list_pop_at l its.toArray n i t k w (fitsIndex_both h1 h2) (by rw [List.size_toArray, ← hl]; exact hk) (by rw [← Array.getElem?_toList]; exact hw) (by rw [List.size_toArray]; omega)) ⟨e, ?_⟩
  refine ⟨y, _, I.lset (its' := its.eraseIdx k) hH e ?_ (r.eraseIdx k) ?_, rw', q⟩
  · show its.toArray.eraseIdxIfInBounds k = (its.eraseIdx k).toArray
    rw [List.eraseIdxIfInBounds_toArray]
  · have := len_erase xs k
    omega

/-! ### list + list, list += list, list * int -/
def rCat : R2 := fun x y H Q => ∃ l b xs zs, x = .ref l ∧ y = .ref b ∧ H l = some (.lst xs) ∧ H b = some (.lst zs) ∧ xs.length + zs.length ≤ sizeLine ∧ ∀ p, H p = none → Q (.ref p) (upd H p (.lst (xs ++ zs)))
theorem op_cat : OpR X (binaryOp .Add) rCat := by
  intro pins s σ H x y v u Q I rx ry h
  obtain ⟨l, b, xs, zs, rfl, rfl, hH, hB, hz, q⟩ := h
  cases rx
  cases ry
  obtain ⟨z, its, n, r, hl, e⟩ := I.lstM hH
  obtain ⟨z2, its2, n2, r2, hl2, e2⟩ := I.lstM hB
  refine PySem.P.add_list e e2 ?_ (by rw [List.size_toArray, List.size_toArray]; omega)
  have ea : its.toArray ++ its2.toArray = (its ++ its2).toArray := by simp
  rw [ea]
  exact ⟨.ref _, _, I.lnew (t' := s.toks) (r.append r2) (by rw [List.length_append]; omega), rfl, q _ I.fresh⟩
/-- a list times an int (a negative one is nothing) -/
def rRep : R2 := fun x y H Q => ∃ l k xs, x = .ref l ∧ y = .int k ∧ H l = some (.lst xs) ∧ -(2 ^ 63) ≤ k ∧ k < 2 ^ 63 ∧ xs.length * k.toNat ≤ sizeLine ∧
  ∀ p, H p = none → Q (.ref p) (upd H p (.lst (List.replicate k.toNat xs).flatten))
theorem len_rep {α : Type} (xs : List α) (k : Nat) : (List.replicate k xs).flatten.length = k * xs.length := by
  induction k with
  | zero => simp
  | succ k ih => rw [List.replicate_succ, List.flatten_cons, List.length_append, ih, Nat.succ_mul, Nat.add_comm]
theorem op_rep : OpR X (binaryOp .Mult) rRep := by
  intro pins s σ H x y v u Q I rx ry h
  obtain ⟨l, k, xs, rfl, rfl, hH, h1, h2, hz, q⟩ := h
  cases rx
  obtain ⟨t, rfl⟩ := ry
  obtain ⟨z, its, n, r, hl, e⟩ := I.lstM hH
  have hlen : its.toArray.size * k.toNat ≤ sizeLine := by rw [List.size_toArray, ← hl]; exact hz
  have hcap : ¬ its.toArray.size * k.toNat > (2 ^ 63 - 1) / 8 := by
    have : (sizeLine : Nat) ≤ (2 ^ 63 - 1) / 8 := by decide
    omega
  have hfit : ¬ (!Builtin.List.listFitsIndex k) = true := by
    rw [fitsIndex_both h1 h2]
    exact Bool.false_ne_true
  have hlong : ¬ Builtin.List.listTooLong (its.toArray.size * k.toNat) = true := by
    rw [notLongL hlen]
    exact Bool.false_ne_true
  have hnew : List.foldl (fun x1 x2 => x1 ++ x2) #[] (List.replicate (if its.toArray.isEmpty = true then 0 else k.toNat) its.toArray) = (List.replicate k.toNat its).flatten.toArray := by
    have f0 : ∀ m : Nat, List.foldl (fun x1 x2 => x1 ++ x2) #[] (List.replicate m its.toArray) = (List.replicate m its).flatten.toArray := fun m => by
      have := foldl_rep its m []
      rw [List.nil_append] at this
      exact this
    rw [f0]
    cases its with
    | nil => simp
    | cons a r' => rw [if_neg (by simp)]
  refine wpAny_binaryOp_repeat_ref (T := "list") (U := "int") (by decide) ⟨_, e, rfl⟩ (fun s' => typeIs_int s' k t) noFill_list_mul F.fills_int_mul F.slot_int_rmul repeat_list F.slot_int_index.lookup
    (call_meets F.slot_int_rmul (typeIs_int s k t) F.entry_int_rmul (F.args_int_rmul_2 _ _) (int___rmul___int_list k t l its.toArray n)
      ⟨e, rfl, ⟨_, e, rfl⟩, call_meets F.slot_list_mul ⟨_, e, rfl⟩ F.entry_list_mul (F.args_list_mul_2 _ _) (AutoListH.list___mul___list_int_3 l its.toArray n k t hfit hcap hlong) ⟨e, ?_⟩⟩)
  rw [hnew]
  exact ⟨.ref _, _, I.lnew (t' := s.toks) (r.rep k.toNat) (by rw [len_rep, Nat.mul_comm]; exact hz), rfl, q _ I.fresh⟩

/-! ### del xs[i] -/
end

/-! ### xs[a:b] = ys -/
section
variable {prog : Program} {w : World} {A : Around} {E : Value → Shared → Prop} {s : Shared}
end

section
variable {X : Cx}
end
end L2

namespace Att
open PySem PySem.W PySem.Calls PyProof.Rows

/-! ### the script -/
theorem ints_of_wellAll {P : Params} {h : Heap} : ∀ (ns : List Int) (vs : List Value), WellAll P h vs (ns.map WData.int) → IntsAre vs ns := by
  intro ns
  induction ns with
  | nil =>
    intro vs w
    rw [List.map_nil] at w
    cases w
    exact .nil
  | cons n ns ih =>
    intro vs w
    rw [List.map_cons] at w
    cases w with
    | cons a b =>
      cases a
      exact .cons _ _ (ih _ b)

theorem script_of {l : OpenLaw} {n : Nat} (hn : l.most = some n) {P : Params} {h : Heap} {args : List WData} {vals : List Value}
    (hpre : l.row.toRowW.claim.pre args = true) (hwl : WellAll P h vals args) :
    ∃ a vs ns, vals = [Value.ref a] ∧ args = [WData.list (ns.map WData.int)] ∧ h.get? a = some { cls := .type "list", data := .seq vs.toArray } ∧ IntsAre vs ns ∧ ns.length ≤ n := by
  have hsh : WShape.hasAll [] args [.list .int] = true := (pre_splitW hpre).1
  have hc : l.pre.holds [] { args := args } = true := (pre_splitW hpre).2
  obtain ⟨d, r, rfl, h1, h2⟩ := hasAllW_cons hsh
  obtain rfl := hasAllW_nil h2
  obtain ⟨xs, rfl, h3⟩ := hasW_list h1
  obtain ⟨ns, rfl⟩ := items_int h3
  have hlen : ns.length ≤ n := by
    unfold OpenLaw.pre at hc
    have h4 : (WTm.not (.lt (.lit (.int (n : Int))) (.len (.arg 0)))).holds [] { args := [.list (ns.map .int)] } = true := by
      have h4 := (holds_andW hc).1
      rw [hn] at h4
      exact h4
    have h5 := condW_of h4 (w_not (w_lt w_lit (w_len_list (w_arg rfl))))
    rw [List.length_map] at h5
    refine Nat.le_of_not_lt fun q => ?_
    have q' : (n : Int) < ((ns.length : Nat) : Int) := by omega
    first
      | (rw [decide_eq_true q'] at h5; exact absurd h5 (by decide))
      | (simp at h5; omega)
  cases hwl with
  | cons w1 w2 =>
    cases w2
    cases w1 with
    | list ho hall => exact ⟨_, _, ns, rfl, rfl, ho, ints_of_wellAll ns _ hall, hlen⟩

theorem post_true (l : OpenLaw) (args : List WData) : l.row.toRowW.claim.post args (.bool true) args = true :=
  postW_of (r := l.row.toRowW) (X := (true == true))
    (show WShape.has [] (.bool true) .bool = true by first | rfl | decide | simp [WShape.has, WShape.arms, WShape.armsAll])
    (show (WTm.eq .res (.lit (.bool true))).value [] { args := args, res := some (.bool true), after := args } = some (.bool (true == true)) from w_eq_bool (w_res rfl) w_lit) rfl

/-! ### the attachment: holds_open's last premise (the goal 'hc' behind k_head) from a wpAny of the law's body -/
/-- the same from a codeAny of the CALL (for a layer whose function contracts speak of calls) -/
theorem attach_call {l : OpenLaw} {n : Nat} {q : Program} {loose : List Str} {XP : (Str → Option Value) → Heap → Prop} {YP : World → Heap → Prop} {d : DefRec}
    (hn : l.most = some n) (hdf : d.params.defaults = [])
    (call : ∀ (w : World) (s₀ s₁ : Shared) (mg mb : Str → Option Value) (fa : Addr) (o : Obj) (pm cd doc : Value) (a : Addr) (vs : List Value) (ns : List Int),
      Ground q loose [] XP w s₀ mg mb s₁.heap → YP w s₁.heap →
      s₁.heap.get? fa = some o → o.data = .func (docDef d.name d.params d.body d.scope pm cd doc) → s₁.heap.CodeRec cd d.name → mg d.name = some (.ref fa) →
      s₁.heap.get? a = some { cls := .type "list", data := .seq vs.toArray } → IntsAre vs ns → ns.length ≤ n → s₁.gens = #[] →
      codeAny (model l.prog w) callerA (.call (.ref fa) ⟨[.ref a], []⟩) (fun r s' => r = .ok (.ret (.bool true)) ∧ OldK s₁.heap s'.heap ∧ s'.os = s₁.os ∧ AllBare s'.gens) s₁) :
    WalkO q loose XP YP l.row.toRowW d [] (fun f vs => PySem.call f vs) := by
  intro w s₀ s₁ mg mb G Y fa o pm cd doc dV kV ho hd hcd hD hmg hg args vals as hpre hlay hrd hwl hlo
  obtain rfl : dV = .none := Dflts.none hD hdf
  obtain rfl : kV = .none := Dflts.noKw hD
  obtain ⟨a, vs, ns, rfl, rfl, hobj, hints, hlen⟩ := script_of hn hpre hwl
  refine enter_call (codeAny_mono (call w s₀ s₁ mg mb fa o pm cd doc a vs ns G Y ho (fd_plain hd) hcd hmg hobj hints hlen hg) fun r s' hq => ?_)
  obtain ⟨rfl, h2, h3, h4⟩ := hq
  exact ⟨.inl ⟨.bool true, .bool true, [], rfl, fun _ => rfl, .bool true, post_true l _, fun _ => ⟨List.Pairwise.nil, fun _ hm => (nomatch hm)⟩⟩, h2, h3, h4⟩

/-! ### rules over ANY heap (no ledger) from facts about the written part K: the library's own take a ledger (News) for what they write -/
section
variable {prog : Program} {w : World} {A : Around} {E : Value → Shared → Prop} {s : Shared} {K : Frag}

/-! the whole heap as the ledger: makes every rule that writes through a ledger a rule over any heap -/
def ledger (h : Heap) (L d : Addr) : List (Addr × Obj) := (List.range h.objs.size).filterMap fun a => if a = L ∨ a = d then none else (h.get? a).map fun o => (a, o)
end
end Att

namespace L2
open PySem PySem.Spec PyProof.Rows

theorem vals_ints : ∀ {vs : List Value} {ns : List Int}, IntsAre vs ns → Vals (ns.map V.int) vs
  | _, _, .nil => .nil
  | _, _, .cons n t h => .cons ⟨t, rfl⟩ (vals_ints h)

/-- nothing is tracked but the script, known to the object (or it is an object of the module) -/
def Only (H : Hp) : Prop := ∀ b, H b = none ∨ ∃ o xs, H b = some (.frz o (.lst xs))

/-- THE HEAD: the law's promise, at the heap behind the top. F, the promise of the law's def, may use that base is part of the heap (so K.In base, base.Ns mainGlobals mg stand in Mod) -/
theorem law_call {P : Program} {w : World} {K : PySem.W.Frag} {mg mb : Str → Option Value} {CX : CXT} {k : Nat} {fa a : Addr} {fd : FuncData} {x : Str} {sp : Sp} {s₁ : Shared} {vs : List Value} {ns : List Int}
    (KX : K.In s₁.heap) (hns : s₁.heap.Ns mainGlobals mg) (hb : s₁.heap.Ns builtinsNs mb) (hbb : ∀ x : Str, x ≠ "__name__" → mb x = bootBuiltins x) (hlim : s₁.heap.NoLimit) (hg : s₁.gens = #[])
    (ha : s₁.heap.get? a = some { cls := .type "list", data := .seq vs.toArray }) (hi : IntsAre vs ns) (hl : ns.length ≤ sizeLine) (hr : Room k callerA)
    (F : ∀ base : Heap, K.In base → base.Ns mainGlobals mg → FnOk P w K mg base CX k fa fd [x] sp) (hbind : ∀ (s : Shared) (u : Value), BindsTo s fd ⟨[u], []⟩ [(x, u)])
    (hsp : ∀ H : Hp, Only H → SqL K H a (ns.map V.int) → sp [.ref a] H (fun v _ => v = .bl true) fun _ _ _ => False)
    (hCX : ∀ H e s', CX [] H s₁ (fun _ _ _ => False) e s' → False) :
    codeAny (model P w) callerA (.call (.ref fa) ⟨[.ref a], []⟩) (fun r s' => r = .ok (.ret (.bool true)) ∧ OldK s₁.heap s'.heap ∧ s'.os = s₁.os ∧ AllBare s'.gens) s₁ := by
  have rv := vals_ints hi
  have lenV := hi.length
  -- from an abstract heap in which nothing but the script may be tracked
  have core : ∀ H : Hp, Only H → SqL K H a (ns.map V.int) → HOk P w H s₁.heap → (∀ b, H b ≠ none → b = a) → (H a ≠ none → K.lookup a = none) →
      codeAny (model P w) callerA (.call (.ref fa) ⟨[.ref a], []⟩) (fun r s' => r = .ok (.ret (.bool true)) ∧ OldK s₁.heap s'.heap ∧ s'.os = s₁.os ∧ AllBare s'.gens) s₁ := by
    intro H hO hS hok hA hK
    have base_of : ∀ {b : Addr} {o : Obj}, s₁.heap.get? b = some o → H b = none → (hidT s₁.heap H).get? b = some o := fun e n => hidT_get e n
    have noA : ∀ {b : Addr} {o : Obj} {es : Array DictEntry} {ep : Nat}, s₁.heap.get? b = some o → o.data = .dict es ep → H b = none := fun {b o es ep} e d => by
      cases q : H b with
      | none => rfl
      | some u =>
        have e' : b = a := hA b (by rw [q]; simp)
        subst e'
        rw [ha] at e; cases e
        have d' : Data.seq vs.toArray _ = Data.dict es ep := d
        cases d'
    have nsK : ∀ {b : Addr} {m : Str → Option Value}, s₁.heap.Ns b m → (hidT s₁.heap H).Ns b m := fun {b m} ⟨o, es, ep, e, d, r⟩ => ⟨o, es, ep, base_of e (noA e d), d, r⟩
    have hKb : K.In (hidT s₁.heap H) := fun b o e => base_of (KX b o e) (by
      cases q : H b with
      | none => rfl
      | some u =>
        have e' : b = a := hA b (by rw [q]; simp)
        subst e'
        rw [hK (by rw [q]; simp)] at e; cases e)
    have hM : Mod K mg (hidT s₁.heap H) := ⟨hKb, nsK hns, ⟨mb, nsK hb, hbb⟩, let ⟨mc, h1, h2⟩ := hlim; ⟨mc, nsK h1, h2⟩⟩
    have e0 : Env0 P w K mg (hidT s₁.heap H) callerA [] s₁ H := ⟨rfl, hM, fun b o e => of_hidT e, Nat.le_of_eq (hidT_size _ _), trivial, fun b hb => absurd (show b ∈ ([] : List Addr) from hb) (by simp), hok, .of_eq hg⟩
    refine codeAny_mono ((F _ hKb (nsK hns)).run callerA [] s₁ H ⟨[.ref a], []⟩ [.ref a] [.ref a] _ _ hr e0 (hbind s₁ (.ref a)) (.cons rfl .nil) (hsp H hO hS)) fun r s' h => ?_
    cases r with
    | error e => exact (hCX H e s' h).elim
    | ok fl =>
      cases fl with
      | next => exact False.elim h
      | brk => exact False.elim h
      | cont => exact False.elim h
      | ret u =>
        obtain ⟨v, H', os, bare, un, hok', r', q⟩ := h
        have q' : v = .bl true := q
        subst q'
        obtain rfl : u = Value.bool true := r'
        refine ⟨rfl, OldK.of_keep fun b o e => ?_, os, bare⟩
        cases q : H b with
        | none => exact un.keep b o e q (by intro z; exact absurd (show b ∈ ([] : List Addr) from z) (by simp)) (by simp)
        | some u =>
          rcases hO b with z | ⟨ob, xs, z⟩
          · rw [q] at z; cases z
          · have z2 := un.frzs b ob _ z
            obtain ⟨e1, _⟩ := hok b _ z
            obtain ⟨e2, _⟩ := hok' b _ z2
            rw [e] at e1; cases e1
            exact e2
  cases hk : K.lookup a with
  | some o =>
    -- the script is one of the module's own objects
    have e := KX a o hk
    rw [ha] at e
    cases e
    refine core (fun _ => none) (fun _ => .inl rfl) (.inr ⟨_, vs.toArray, _, hk, rfl, rfl, rfl, by rw [List.size_toArray, lenV]; exact hl, by simpa using rv⟩) (fun b u z => by have z' : (none : Option HO) = some u := z; cases z') (fun b z => absurd rfl z) fun z => absurd rfl z
  | none =>
    refine core (fun b => if b = a then some (.frz { cls := .type "list", data := .seq vs.toArray } (.lst (ns.map V.int))) else none) (fun b => ?_) (.inl (.inr ⟨{ cls := .type "list", data := .seq vs.toArray }, if_pos rfl⟩)) (fun b u z => ?_) (fun b z => ?_) fun _ => hk
    · by_cases hb : b = a
      · exact .inr ⟨_, _, if_pos hb⟩
      · exact .inl (if_neg hb)
    · by_cases hb : b = a
      · have z' := (if_pos hb).symm.trans z
        cases z'
        subst hb
        exact ⟨ha, by rw [List.length_map]; exact hl, vs, _, rv, ha⟩
      · have z' := (if_neg hb).symm.trans z
        cases z'
    · by_cases hb : b = a
      · exact hb
      · exact absurd (if_neg hb) z
end L2

namespace L2
open PySem PySem.Spec PyProof.Rows

/-- the goal that k_head leaves (case hc), from the law's promise. F gives the function object fd (K's own) once, then the promise over every base -/
theorem walk_of {l : PySem.W.OpenLaw} {n k : Nat} {q : Program} {loose : List Str} {XP : (Str → Option Value) → Heap → Prop} {YP : World → Heap → Prop} {d : DefRec} {K : Params → PySem.W.Frag} {CX : World → CXT} {sp : World → Sp} {x : Str}
    (hn : l.most = some n) (hn2 : n ≤ sizeLine) (hdf : d.params.defaults = []) (hr : Room k callerA)
    (hY : ∀ (w : World) (h : Heap), YP w h → (K w.params).In h)
    (F : ∀ (w : World) (mg : Str → Option Value) (fa : Addr) (h : Heap), (K w.params).In h → h.Ns mainGlobals mg → mg d.name = some (.ref fa) →
      ∃ fd : FuncData, (∀ (s : Shared) (u : Value), BindsTo s fd ⟨[u], []⟩ [(x, u)]) ∧
        ∀ base : Heap, (K w.params).In base → base.Ns mainGlobals mg → FnOk l.prog w (K w.params) mg base (CX w) k fa fd [x] (sp w))
    (hsp : ∀ (w : World) (H : Hp) (a : Addr) (ns : List Int), ns.length ≤ n → Only H → SqL (K w.params) H a (ns.map V.int) → sp w [.ref a] H (fun v _ => v = .bl true) fun _ _ _ => False)
    (hCX : ∀ (w : World) (H : Hp) (s : Shared) (e : Value) (s' : Shared), CX w [] H s (fun _ _ _ => False) e s' → False) :
    PySem.W.WalkO q loose XP YP l.row.toRowW d [] (fun f vs => PySem.call f vs) := by
  refine Att.attach_call hn hdf fun w s₀ s₁ mg mb fa o pm cd doc a vs ns G Y ho hd hcd hmg hobj hints hlen hg => ?_
  have KX := hY w _ Y
  obtain ⟨fd, hb, hF⟩ := F w mg fa _ KX G.T.g hmg
  exact law_call KX G.T.g G.T.b G.T.builtins G.T.nolimit hg hobj hints (Nat.le_trans hlen hn2) hr hF hb (fun H hO hS => hsp w H a ns hlen hO hS) fun H e s' => hCX w H s₁ e s'
end L2

/- THE LAST THEOREM (shape; LID, My.* are yours):
   My.Adr: a structure of the addresses that your layer names (classes, functions); My.Txt K t: a structure (Prop) of the equations over K;
   My.txt_mk : {K} {implicit addresses ..} (e1 : nsIn K mainGlobals "law" = some (some (.ref f))) (e2 : K.lookup f = some ⟨oc, od, .func (fnOf "law" "law" params body scope dV kV doc pm an cdv ct), sl⟩) (e3 : codeIn K cdv "law" = true) .. : ∃ t, My.Txt K t

(the tactic k_is has no namespace: write k_is) -/

/-! SHORT WORDS over the layer: a def of the text, its body, what a loop and a test want. -/
namespace L2
open PySem PySem.Spec PyProof.Rows

/-! ### the text by places -/
def defArgs (s : Stmt) : Arguments := match s with
  | .FunctionDef _ a _ _ _ _ _ _ _ _ => a
  | _ => { posonlyargs := [], args := [], vararg := none, kwonlyargs := [], kw_defaults := [], kwarg := none, defaults := [] }
def defBody (s : Stmt) : List Stmt := match s with
  | .FunctionDef _ _ b _ _ _ _ _ _ _ => b
  | _ => []
def defScope (s : Stmt) : Scope := match s with
  | .FunctionDef _ _ _ _ _ _ sc _ _ _ => sc
  | _ => { kind := .function, names := [], isGenerator := false, isCoroutine := false }

/-! ### no exception leaves a def -/
abbrev CX0 : CXT := fun _ _ _ _ _ _ => False
abbrev E0 : XK := fun _ _ _ => False
theorem pass0 {X : Cx} : Passes CX0 X E0 := fun _ _ _ _ _ _ _ h => h.elim

/-! ### a def (or method) of the text as it stands behind the top -/
structure Fun (K : PySem.W.Frag) (x qual : Str) (st : Stmt) (f : Addr) (fd : FuncData) : Prop where
  ex : ∃ (oc : Value) (od : Option Addr) (kV doc pm : Value) (an : Option Addr) (cdv ct : Value) (osl : Array (Option Value)),
    fd = PySem.W.fnOf x qual (defArgs st) (defBody st) (defScope st) .none kV doc pm an cdv ct ∧ K.lookup f = some ⟨oc, od, .func fd, osl⟩ ∧ PySem.W.codeIn K cdv qual = true
  kp : PySem.W.keepIn K (.ref f) = true
section
variable {P : Program} {w : World} {K : PySem.W.Frag} {mg : Str → Option Value} {base : Heap}
/-- THE RULE for a def: its body as a term of rules, and the reading of that term -/
theorem Fun.ok {x qual : Str} {st : Stmt} {f : Addr} {fd : FuncData} {N ps : List Str} {k : Nat} {sp : Sp} {cm : Bool} (F : Fun K x qual st f fd) (S : FnScope N ps (defScope st)) (len : ∀ vs H Q E, sp vs H Q E → vs.length = ps.length)
    (hbody : ∀ (cdv : Value) (A : Around) (outer : List Env) (s : Shared) (H : Hp) (vs : List V) (Q : VK) (E : XK), Room k (A.deeper (envOfC qual (defScope st) s.heap.objs.size f cdv)) cm → sp vs H Q E →
      ∃ t, PSs (cxOf CX0 P w K mg base N qual (defScope st) f cdv A outer s H E cm).nox (defBody st) t ∧ t { nx := fun _ H' => Q .non H', rt := Q } (start N vs) H) : FnOk P w K mg base CX0 (k + 1) f fd ps sp cm := by
  obtain ⟨oc, od, kV, doc, pm, an, cdv, ct, osl, rfl, lk, hcd⟩ := F.ex
  refine fn_of lk hcd S len fun A outer s H vs Q E hr hsp => ?_
  obtain ⟨t, h, q⟩ := hbody cdv A outer s H vs Q E hr hsp
  exact ⟨t, h.nox, q⟩
/-- how its arguments bind (no defaults): h is «fun _ _ _ _ _ _ us hl => match us, hl with | [_, _], _ => rfl», one _ a parameter -/
theorem Fun.binds {x qual : Str} {st : Stmt} {f : Addr} {fd : FuncData} {ps : List Str} (F : Fun K x qual st f fd)
    (h : ∀ (kV doc pm : Value) (an : Option Addr) (cdv ct : Value) (us : List Value), us.length = ps.length → bindArgs (PySem.W.fnOf x qual (defArgs st) (defBody st) (defScope st) .none kV doc pm an cdv ct) ⟨us, []⟩ = pure (ps.zip us)) : Binds K fd ps [] := by
  obtain ⟨oc, od, kV, doc, pm, an, cdv, ct, osl, rfl, lk, hcd⟩ := F.ex
  exact .all (h kV doc pm an cdv ct)
theorem fun_mk {x qual : Str} {st : Stmt} {f : Addr} {oc : Value} {od an : Option Addr} {osl : Array (Option Value)} {kV doc pm cdv ct : Value} (l : K.lookup f = some ⟨oc, od, .func (PySem.W.fnOf x qual (defArgs st) (defBody st) (defScope st) .none kV doc pm an cdv ct), osl⟩)
    (c : PySem.W.codeIn K cdv qual = true) (k : PySem.W.keepIn K (.ref f) = true) : Fun K x qual st f (PySem.W.fnOf x qual (defArgs st) (defBody st) (defScope st) .none kV doc pm an cdv ct) := ⟨⟨oc, od, kV, doc, pm, an, cdv, ct, osl, rfl, l, c⟩, k⟩
end
/-! ### expressions in short: the name that stands in the i-th slot -/
section
variable {X : Cx}
theorem pv (i : Nat) {x : Str} {pos : Pos} (hN : X.N[i]? = some x := by rfl) (hv : Vis X.env.scope x := by first | exact Or.inl rfl | exact Or.inr (Or.inl rfl) | exact Or.inr (Or.inr rfl)) (hd : (x == ("__debug__" : Str)) = false := by decide)
    (hcd : (x == ("__classdict__" : Str)) = false := by decide) : PE X (.Name x pos) (tVar i) := pe_var hN hv hd hcd
end

/-! ### tests -/
theorem iteF {A B : Prop} (h : B) : if false = true then A else B := by
  rw [if_neg Bool.false_ne_true]
  exact h
theorem iteT {A B : Prop} (h : A) : if true = true then A else B := by
  rw [if_pos rfl]
  exact h
theorem ite2 {c A B : Prop} [Decidable c] (h1 : c → A) (h2 : ¬ c → B) : if c then A else B := by
  by_cases h : c
  · rw [if_pos h]
    exact h1 h
  · rw [if_neg h]
    exact h2 h
theorem iteNS {c A B : Prop} [Decidable c] (hc : c) (h : B) : if (!decide c) = true then A else B := by
  rw [decide_eq_true hc]
  exact iteF h

/-! ### heaps -/
/-- all that was tracked is as it was -/
def Same (H H' : Hp) : Prop := ∀ b o, H b = some o → H' b = some o
theorem Same.refl (H : Hp) : Same H H := fun _ _ h => h
theorem Same.trans {H H1 H2 : Hp} (a : Same H H1) (b : Same H1 H2) : Same H H2 := fun c o h => b c o (a c o h)
theorem Same.free {H H' : Hp} (e : Same H H') {l : Addr} (h : H' l = Option.none) : H l = Option.none := by
  cases q : H l with
  | none => rfl
  | some o =>
    rw [e l o q] at h
    cases h
theorem Same.seq {K : PySem.W.Frag} {H H' : Hp} {a : Addr} {xs : List V} (e : Same H H') (h : SqL K H a xs) : SqL K H' a xs := by
  rcases h with (h | ⟨o, h⟩) | h
  · exact .inl (.inl (e _ _ h))
  · exact .inl (.inr ⟨o, e _ _ h⟩)
  · exact .inr h

end L2

set_option Elab.async false
set_option linter.all false
set_option maxRecDepth 100000
/-! ### list comprehensions (one for, none or one test) -/
namespace L2
open PySem PySem.Spec PyProof.Rows

section
variable {prog : Program} {w : World} {A : Around} {R : Result → Shared → Prop} {s : Shared}
theorem comp_loop_any {elt target iter : Expr} {ifs : List Expr} {scope : Scope} {pos : Pos} {it acc : Value} {env : Env} (I : Nat → Shared → Prop)
    (turn : ∀ n s, I n s → wpAny (model prog w) A (pyNext it) (fun r s₁ => match r with
      | none => R (.ok .next) s₁
      | some v => wpAny (model prog w) A (letOwnedTupleGo target it v) (fun _ s₁' => wpAny (model prog w) A (assign target env v) (fun _ s₂ =>
          wpAny (model prog w) A (forIn ifs true fun c r => if r = true then do let ok ← isTrue c env (eval c env); pure (ForInStep.yield ok) else pure (ForInStep.yield r)) (fun ok s₃ =>
            if ok = true then wpAny (model prog w) A (eval elt env) (fun x s₄ =>
              wpAny (model prog w) A (call (.builtin "list.append") [acc, x]) (fun _ s₅ => ∃ m, m < n ∧ I m s₅) (notedBy (model prog w) A env fun e s' => R (.error e) s') s₄) (notedBy (model prog w) A env fun e s' => R (.error e) s') s₃
            else ∃ m, m < n ∧ I m s₃) (notedBy (model prog w) A env fun e s' => R (.error e) s') s₂) (notedBy (model prog w) A env fun e s' => R (.error e) s') s₁') (notedBy (model prog w) A env fun e s' => R (.error e) s') s₁) (notedBy (model prog w) A env fun e s' => R (.error e) s') s)
    (n : Nat) (h : I n s) :
    codeAny (model prog w) A (.compLoop (.ListComp elt [⟨target, iter, ifs, 0⟩] scope pos) 0 it acc env) R s := by
  refine codeAny_loop rfl I (fun n s hI => ?_) n h
  show wpAny _ A ((compTurn (.ListComp elt [⟨target, iter, ifs, 0⟩] scope pos) 0 it acc env).onRaise (fun x => do noteFrame x env; theTreesLotGoes x)) _ _ s
  refine wpAny_noted ?_
  rw [compTurn_list]
  refine wpAny_bind (wpAny_standAt (wpAny_bind (wpAny_mono (turn n s hI) (fun r s₁ h₁ => ?_) fun _ _ h' => h')))
  cases r with
  | none => exact wpAny_pure h₁
  | some v =>
    refine wpAny_bind (wpAny_mono h₁ (fun _ s₁' h₁ => ?_) fun _ _ h' => h')
    refine wpAny_bind (wpAny_mono h₁ (fun _ s₂ h₂ => wpAny_bind (wpAny_mono h₂ (fun ok s₃ h₃ => ?_) fun _ _ h' => h')) fun _ _ h' => h')
    cases ok with
    | false => exact wpAny_pure ⟨rfl, h₃⟩
    | true =>
      exact wpAny_bind (wpAny_bind (wpAny_mono h₃ (fun x s₄ h₄ => wpAny_bind (wpAny_mono h₄ (fun _ s₅ h₅ => wpAny_pure (wpAny_pure ⟨rfl, h₅⟩)) fun _ _ h' => h')) fun _ _ h' => h'))
end

/-- the closure of a comprehension's block -/
def closL (env : Env) : List (Str × NameKind) → List (Str × Addr) → List (Str × Addr)
  | [], cs => cs
  | (n, k) :: r, cs => closL env r (if k == .free then (n, (env.cells.lookup n).getD 0) :: cs else cs)
def clos (scope : Scope) (env : Env) : List (Str × Addr) := closL env scope.names []
theorem forIn_closL {env : Env} : ∀ (ns : List (Str × NameKind)) (cs : List (Str × Addr)), (∀ x ∈ ns, x.2 = .free → ∃ c, env.cells.lookup x.1 = some c) →
    (forIn ns cs fun (x : Str × NameKind) (r : List (Str × Addr)) => (match x with | (name, kind) => if kind == .free then do let c ← cellOf env name; pure (ForInStep.yield ((name, c) :: r)) else pure (ForInStep.yield r) : Sem (ForInStep (List (Str × Addr))))) = (pure (closL env ns cs) : Sem (List (Str × Addr)))
  | [], cs, _ => rfl
  | (n, k) :: r, cs, h => by
    rw [List.forIn_cons]
    by_cases hk : k = .free
    · subst hk
      obtain ⟨c, hc⟩ := h (n, .free) List.mem_cons_self rfl
      have e : cellOf env n = pure c := by
        have hc' : env.cells.lookup n = some c := hc
        unfold cellOf; rw [hc']
      simp only [beq_self_eq_true, if_true, e, pure_bind]
      rw [forIn_closL r _ fun x hx => h x (List.mem_cons_of_mem _ hx)]
      have hc' : env.cells.lookup n = some c := hc
      simp [closL, hc']
    · have hb : (k == NameKind.free) = false := by simpa using hk
      simp only [hb, Bool.false_eq_true, if_false, pure_bind]
      rw [forIn_closL r _ fun x hx => h x (List.mem_cons_of_mem _ hx)]
      simp [closL, hb]
theorem closureFor_eq {scope : Scope} {env : Env} (h : ∀ x ∈ scope.names, x.2 = .free → ∃ c, env.cells.lookup x.1 = some c) : closureFor scope env = pure (clos scope env) := by
  unfold closureFor clos
  have := forIn_closL (env := env) scope.names [] h
  simp only [bind_pure]
  exact this
theorem closL_look {env : Env} {x : Str} {c : Addr} : ∀ (ns : List (Str × NameKind)) (cs : List (Str × Addr)), (∀ y ∈ ns, y.2 = .free → ∃ c, env.cells.lookup y.1 = some c) → (∀ c, cs.lookup x = some c → env.cells.lookup x = some c) →
    (closL env ns cs).lookup x = some c → env.cells.lookup x = some c
  | [], cs, _, hc, e => hc c e
  | (n, k) :: r, cs, h, hc, e => by
    refine closL_look r _ (fun y hy => h y (List.mem_cons_of_mem _ hy)) (fun c' e' => ?_) e
    by_cases hk : k = .free
    · subst hk
      obtain ⟨c₁, h₁⟩ := h (n, .free) List.mem_cons_self rfl
      have h₁' : env.cells.lookup n = some c₁ := h₁
      simp only [beq_self_eq_true, if_true, List.lookup_cons] at e'
      cases hx : x == n with
      | true =>
        rw [hx] at e'
        have hxn : x = n := by simpa using hx
        subst hxn
        rw [h₁'] at e' ⊢
        exact e'
      | false => rw [hx] at e'; exact hc c' e'
    · have hb : (k == NameKind.free) = false := by simpa using hk
      simp only [hb, Bool.false_eq_true, if_false] at e'
      exact hc c' e'
theorem closL_has {env : Env} {x : Str} : ∀ (ns : List (Str × NameKind)) (cs : List (Str × Addr)), ((x, NameKind.free) ∈ ns ∨ ∃ c, cs.lookup x = some c) → ∃ c, (closL env ns cs).lookup x = some c
  | [], cs, h => h.elim (fun z => nomatch z) fun z => z
  | (n, k) :: r, cs, h => by
    refine closL_has r _ ?_
    rcases h with h | ⟨c, h⟩
    · rcases List.mem_cons.mp h with e | h
      · cases e
        right
        simp
      · exact .inl h
    · right
      by_cases hk : k = .free
      · subst hk
        simp only [beq_self_eq_true, if_true, List.lookup_cons]
        cases x == n with
        | true => exact ⟨_, rfl⟩
        | false => exact ⟨c, h⟩
      · have hb : (k == NameKind.free) = false := by simpa using hk
        simp only [hb, Bool.false_eq_true, if_false]
        exact ⟨c, h⟩

theorem relabel_back {env : Env} {x : Str} {k' : NameKind} : ∀ {names : List (Str × NameKind)},
    (names.map fun (n, k) => if (k == NameKind.free && env.scope.kind == .function && env.kindOf n == some .cell) then (n, NameKind.cell) else (n, k)).lookup x = some k' →
    ∃ k, names.lookup x = some k ∧ (x, k) ∈ names ∧ (k' = k ∨ (k = .free ∧ k' = .cell))
  | [], h => by simp at h
  | (n, k) :: r, h => by
    have ih := @relabel_back env x k' r
    have h' : List.lookup x ((if (k == NameKind.free && env.scope.kind == .function && env.kindOf n == some .cell) = true then (n, NameKind.cell) else (n, k)) :: r.map fun (n, k) => if (k == NameKind.free && env.scope.kind == .function && env.kindOf n == some .cell) then (n, NameKind.cell) else (n, k)) = some k' := h
    cases hx : x == n with
    | true =>
      have hxn : x = n := by simpa using hx
      subst hxn
      refine ⟨k, by simp, List.mem_cons_self, ?_⟩
      by_cases hc : (k == NameKind.free && env.scope.kind == .function && env.kindOf x == some .cell) = true
      · rw [if_pos hc] at h'
        simp at h'
        have hk : k = .free := by
          cases k <;> simp at hc ⊢
        exact .inr ⟨hk, h'.symm⟩
      · rw [if_neg hc] at h'
        simp at h'
        exact .inl h'.symm
    | false =>
      have h2 : (r.map fun (n, k) => if (k == NameKind.free && env.scope.kind == .function && env.kindOf n == some .cell) then (n, NameKind.cell) else (n, k)).lookup x = some k' := by
        by_cases hc : (k == NameKind.free && env.scope.kind == .function && env.kindOf n == some .cell) = true
        · rw [if_pos hc] at h'; simp only [List.lookup_cons, hx] at h'; exact h'
        · rw [if_neg hc] at h'; simp only [List.lookup_cons, hx] at h'; exact h'
      obtain ⟨k0, e1, e2, e3⟩ := ih h2
      exact ⟨k0, by simp only [List.lookup_cons, hx]; exact e1, List.mem_cons_of_mem _ e2, e3⟩

/-- the block's context: s, H at the entry, ex the iterator's records -/
def cxC (X : Cx) (scope : Scope) (N : List Str) (C : Addr) (s : Shared) (H : Hp) (ex : List Addr) : Cx :=
  { X with N := N, s₀ := s, H₀ := H, env := compEnvC scope (clos scope X.env) C X.env, outer := X.stack, stack := X.stack, ex := ex, fn := fun _ => false, pn := [], xe := fun _ _ => False }

/-- a comprehension's scope in X; fr: its free names with their slots in X -/
structure CScope (X : Cx) (scope : Scope) (ls : List Str) (fr : List (Str × Nat)) : Prop where
  kind : scope.kind = .function
  nocell : ∀ y ∈ scope.names, y.2 ≠ .cell
  names : ∀ y ∈ scope.names, y.2 = .local → scope.names.lookup y.1 = some .local
  free : ∀ y ∈ scope.names, y.2 = .free → X.env.kindOf y.1 = some .cell ∨ X.env.kindOf y.1 = some .free
  slots : ∀ p ∈ fr, X.N[p.2]? = some p.1 ∧ scope.names.lookup p.1 = some .free

def startC (ls : List Str) (fr : List (Str × Nat)) (σ : St) : St := ls.map (fun _ => none) ++ fr.map fun p => (σ[p.2]?).join
section
variable {X : Cx} {scope : Scope} {ls : List Str} {fr : List (Str × Nat)}
theorem CScope.cells {pins : List (Addr × Obj)} {σ : St} {H : Hp} {s : Shared} (S : CScope X scope ls fr) (I : Inv X pins σ H s) : ∀ x ∈ scope.names, x.2 = .free → ∃ c, X.env.cells.lookup x.1 = some c :=
  fun x hx hk => I.ok.has x.1 (S.free x hx hk)
theorem CScope.look {pins : List (Addr × Obj)} {σ : St} {H : Hp} {s : Shared} (S : CScope X scope ls fr) (I : Inv X pins σ H s) {x : Str} {c : Addr} (e : (clos scope X.env).lookup x = some c) : X.env.cells.lookup x = some c :=
  closL_look scope.names [] (S.cells I) (fun _ z => by simp at z) e

theorem comp_ok {pins : List (Addr × Obj)} {σ : St} {H : Hp} {s : Shared} {C : Addr} {ex : List Addr} (S : CScope X scope ls fr) (I : Inv X pins σ H s) (hC : s.heap.objs.size ≤ C) (hex : ∀ b ∈ ex, FpOk X pins H b ∧ b < s.heap.objs.size) :
    (cxC X scope (ls ++ fr.map (·.1)) C s H ex).Ok where
  mod := I.ok.mod
  kind := S.kind
  glob := I.ok.glob
  blt := I.ok.blt
  above := hC
  inj := fun x y c e1 e2 => I.ok.inj x y c (S.look I e1) (S.look I e2)
  has := fun x h => by
    have h' : ∃ k', (relabel scope X.env).names.lookup x = some k' ∧ (k' = .cell ∨ k' = .free) := h.elim (fun z => ⟨_, z, .inl rfl⟩) fun z => ⟨_, z, .inr rfl⟩
    obtain ⟨k', e, hk⟩ := h'
    obtain ⟨k, e1, e2, e3⟩ := relabel_back e
    refine closL_has scope.names [] (.inl ?_)
    have hn := S.nocell _ e2
    rcases e3 with rfl | ⟨rfl, _⟩
    · rcases hk with rfl | rfl
      · exact absurd rfl hn
      · exact e2
    · exact e2
  cab := fun x c h => nomatch h
  hd := I.ok.hd
  frames := I.ok.frames
  stk := .inl rfl
  exf := fun b hb => by
    obtain ⟨⟨f0, f1, f2, f3, f4, f5⟩, hl⟩ := hex b hb
    exact ⟨Nat.ne_of_lt (Nat.lt_of_lt_of_le hl hC), fun x c e => f4 x c (S.look I e)⟩
  bs := I.bs
  bsz := Nat.le_trans I.ok.bsz I.sz
  noex := fun b o e hb => by
    obtain ⟨⟨f0, f1, f2, f3, f4, f5⟩, hl⟩ := hex b hb
    rcases f3 with z | z
    · exact I.ok.noex b o e z
    · exact absurd (Nat.lt_of_lt_of_le (Heap.lt_size e) (Nat.le_trans I.ok.bsz z)) (Nat.lt_irrefl _)
  exfs := fun b hb hf => by
    obtain ⟨⟨f0, f1, f2, f3, f4, f5⟩, hl⟩ := hex b hb
    exact (List.mem_cons.mp (I.stkSub b hf)).elim f1 f2
  funs := I.stack
  frf := I.stkFree

theorem comp_inv {pins : List (Addr × Obj)} {σ : St} {H : Hp} {s s' : Shared} {C : Addr} {m : Str → Option Value} {ex : List Addr} (S : CScope X scope ls fr) (I : Inv X pins σ H s) (hC : s.heap.objs.size ≤ C) (hex : ∀ b ∈ ex, FpOk X pins H b ∧ b < s.heap.objs.size)
    (ho : s'.os = s.os) (hg : AllBare s'.gens) (k : ∀ b o, s.heap.get? b = some o → s'.heap.get? b = some o) (hn : s'.heap.Ns C m) : Inv (cxC X scope (ls ++ fr.map (·.1)) C s H ex) [] (startC ls fr σ) H s' where
  ok := comp_ok S I hC hex
  os := ho
  bare := hg
  base := Un.kept k
  loc := by
    refine ⟨m, hn, fun i x v e1 e2 e3 => ?_⟩
    have e2' : (ls.map (fun _ => (none : Option V)) ++ fr.map fun p => (σ[p.2]?).join)[i]? = some (some v) := e2
    have e1' : (ls ++ fr.map (·.1))[i]? = some x := e1
    by_cases hi : i < ls.length
    · rw [List.getElem?_append_left (by simpa using hi), List.getElem?_map] at e2'
      cases q : ls[i]? with
      | none => rw [q] at e2'; cases e2'
      | some y => rw [q] at e2'; cases e2'
    · have hi' : ls.length ≤ i := Nat.le_of_not_lt hi
      rw [List.getElem?_append_right (by simpa using hi'), List.getElem?_map, List.length_map] at e2'
      rw [List.getElem?_append_right hi', List.getElem?_map] at e1'
      cases q : fr[i - ls.length]? with
      | none => rw [q] at e1'; cases e1'
      | some p =>
        rw [q] at e1' e2'
        have ex1 : p.1 = x := Option.some.inj e1'
        have hp : p ∈ fr := List.mem_of_getElem? q
        obtain ⟨hsl, hfree⟩ := S.slots p hp
        subst ex1
        have hv : σ[p.2]? = some (some v) := by
          have z : (σ[p.2]?).join = some v := Option.some.inj e2'
          cases w : σ[p.2]? with
          | none => rw [w] at z; cases z
          | some o => rw [w] at z; exact congrArg some z
        obtain ⟨m0, hn0, hl⟩ := id I.loc
        have vis' : ∃ k', (relabel scope X.env).names.lookup p.1 = some k' ∧ (k' = .local ∨ k' = .cell ∨ k' = .free) := by
          rcases e3 with z | z | z
          · exact ⟨_, z, .inl rfl⟩
          · exact ⟨_, z, .inr (.inl rfl)⟩
          · exact ⟨_, z, .inr (.inr rfl)⟩
        obtain ⟨k', ek, _⟩ := vis'
        obtain ⟨k0, f1, f2, f3⟩ := relabel_back ek
        rw [hfree] at f1
        cases f1
        have hk := S.free _ f2 rfl
        have hk' : k' = .cell ∨ k' = .free := f3.elim .inr fun z => .inl z.2
        have hvis : Vis X.env.scope p.1 := hk.elim (fun z => .inr (.inl z)) fun z => .inr (.inr z)
        obtain ⟨u, ru, lk⟩ := hl p.2 p.1 v hsl hv hvis
        obtain ⟨c', hc'⟩ : ∃ c, (clos scope X.env).lookup p.1 = some c := closL_has scope.names [] (.inl f2)
        refine ⟨u, ru, .inr ⟨hk'.elim (fun z => .inl (z ▸ ek)) fun z => .inr (z ▸ ek), c', hc', ?_⟩⟩
        rcases lk with ⟨z, _⟩ | ⟨_, c, ec, ic⟩
        · rcases hk with y | y <;> (rw [y] at z; cases z)
        · have := S.look I hc'
          rw [ec] at this
          cases this
          exact ic.keeps k
  cell := fun x c e => by
    obtain ⟨v, z⟩ := I.cell x c (S.look I e)
    exact ⟨v, z.keeps k⟩
  free := I.hok.fresh hC
  freeC := fun x c e => I.freeC x c (S.look I e)
  pin := fun p hp => nomatch hp
  hok := I.hok.kept k
  len := by simp [startC, cxC]

/-- none or one test -/
def PF (X : Cx) (ifs : List Expr) (t : TT) : Prop :=
  ∀ (pins : List (Addr × Obj)) (s : Shared) (σ : St) (H : Hp) (Q : Bool → Hp → Prop), Inv X pins σ H s → t σ H Q →
    wpAny (model X.prog X.w) X.A (forIn ifs true fun c r => if r = true then do let ok ← isTrue c X.env (eval c X.env); pure (ForInStep.yield ok) else pure (ForInStep.yield r)) (TP X pins σ Q) X.xe s
def tYes : TT := fun _ H Q => Q true H
theorem pf_nil {X : Cx} : PF X [] tYes := fun pins s σ H Q I h => wpAny_tests_nil ⟨H, I, h⟩
theorem pf_one {X : Cx} {c : Expr} {t : TT} (h : PT X c t) : PF X [c] t := fun pins s σ H Q I hw => wpAny_tests_one (h pins s σ H Q I hw)

/-- the list that was grown aside is tracked -/
theorem HOk.add {P : Program} {w : World} {H : Hp} {h : Heap} {a : Addr} {o : HO} (x : HOk P w H h) (hn : H a = none) (new : ObjOk P w (upd H a o) h a o) : HOk P w (upd H a o) h := fun b u e => by
  by_cases hb : b = a
  · subst hb; rw [upd_same] at e; cases e; exact new
  · rw [upd_ne hb] at e
    exact (x b u e).stay (fun _ _ _ q => q) (fun c q => by rw [upd_ne (ne_of_none q hn)]; exact q) fun c xs q => by rw [upd_ne (ne_of_none q hn)]; exact q
theorem Un.add {fs ex : List Addr} {H H' : Hp} {h h' : Heap} {a : Addr} {o : HO} (u : Un fs ex H H' h h') (ha : h.objs.size ≤ a) (hn : H' a = none) : Un fs ex H (upd H' a o) h h' where
  keep := u.keep
  slot := u.slot
  free := fun b ob q n hx => by rw [upd_ne (Nat.ne_of_lt (Nat.lt_of_lt_of_le (Heap.lt_size q) ha))]; exact u.free b ob q n hx
  there := u.there
  tups := fun b xs q => by
    have z := u.tups b xs q
    rw [upd_ne (ne_of_none z hn)]; exact z
  frzs := fun b ob xs q => by
    have z := u.frzs b ob xs q
    rw [upd_ne (ne_of_none z hn)]; exact z
  tbls := fun b ps q => by
    obtain ⟨more, z⟩ := u.tbls b ps q
    exact ⟨more, by rw [upd_ne (ne_of_none z hn)]; exact z⟩

/-- W: the invariant by the turn, a measure and the list so far -/
def tCompK (g : TG) (tf : TT) (te : TE) (σ0 : St) (J : It) (H : Hp) (Q : VK) : Prop :=
  ∃ W : Nat → Nat → List V → St → Hp → Prop, (∃ m, W 0 m [] σ0 H) ∧ ∀ i m ys σ H, W i m ys σ H →
    (J.stop i H ∧ ys.length ≤ sizeLine ∧ ∀ p, H p = none → Q (.ref p) (upd H p (.lst ys))) ∨
    (J.go i H ∧ ys.length ≤ sizeLine ∧ ∃ N : List V → St → Hp → Prop, (∀ ys σ' H', N ys σ' H' → ∃ m', m' < m ∧ W (i + 1) m' ys σ' H') ∧ ∀ x H1, J.yld i H x H1 → g x σ H1 fun σ2 H2 => tf σ2 H2 fun b H3 => if b = true then te σ2 H3 fun v H4 => N (ys ++ [v]) σ2 H4 else N ys σ2 H3)
def tComp (wi : TI) (ls : List Str) (fr : List (Str × Nat)) (g : TG) (tf : TT) (te : TE) : TE := fun σ H Q => wi σ H fun J H1 => tCompK g tf te (startC ls fr σ) J H1 Q

/-- the block, from the iterator on -/
theorem comp_block {pins : List (Addr × Obj)} {σ : St} {H : Hp} {s : Shared} {it : Addr} {fp : List Addr} {tn : Nat → Heap → Prop} {J : It} {tg elt iter : Expr} {ifs : List Expr} {pos : Pos} {g : TG} {tf : TT} {te : TE} {Q : VK} {E : Value → Shared → Prop} {RR : Value → Addr → Result → Shared → Prop}
    (S : CScope X scope ls fr) (hc : X.calm = true) (I : Inv X pins σ H s) (T : Turn X.prog X.w X.K tg J fp it tn) (st : tn 0 s.heap) (hf : ∀ b ∈ fp, FpOk X pins H b) (hq : tCompK g tf te (startC ls fr σ) J H Q)
    (hg : ∀ C s H ex, PG (cxC X scope (ls ++ fr.map (·.1)) C s H ex) tg g) (ht : ∀ C s H ex, PF (cxC X scope (ls ++ fr.map (·.1)) C s H ex) ifs tf) (he : ∀ C s H ex, PE (cxC X scope (ls ++ fr.map (·.1)) C s H ex) elt te)
    (hRR : ∀ (D C : Addr) (s' : Shared) (H' : Hp) (m : Str → Option Value), Inv X pins σ H' s' → s'.heap.Ns C m → s.heap.objs.size ≤ C → H' C = none → Q (.ref D) H' → RR (.ref D) C (.ok .next) s') :
    wpAny (model X.prog X.w) X.A (newList []) (fun acc s₃ => wpAny (model X.prog X.w) X.A (newFunctionEnv scope X.env.globals (clos scope X.env) [] X.env.qual none .none (some X.env)) (fun cenv s₄ =>
      codeAny (model X.prog X.w) X.A (.compStart (.ListComp elt [⟨tg, iter, ifs, 0⟩] scope pos) 0 (.ref it) acc { cenv with scope := relabel scope X.env }) (RR acc cenv.locals) s₄) E s₃) E s := by
  refine wpAny_newObj_type (wpAny_newFunctionEnv S.nocell (by intro y hy; simp at hy) (fun h₁ hns₁ hsb₁ => ?_) S.kind)
  dsimp only at hns₁ hsb₁ ⊢
  generalize hH2 : s.heap.push { cls := .type "list", dict := none, data := .seq ([] : List Value).toArray } = H2 at hns₁ hsb₁ ⊢
  have hC : H2.objs.size = s.heap.objs.size + 1 := by rw [← hH2, Heap.size_push]
  have hDC : s.heap.objs.size ≠ H2.objs.size := by rw [hC]; exact Nat.ne_of_lt (Nat.lt_succ_self _)
  have hCle : s.heap.objs.size ≤ H2.objs.size := by rw [hC]; exact Nat.le_succ _
  have below : ∀ b, b < s.heap.objs.size → b ≠ H2.objs.size ∧ b ≠ s.heap.objs.size := fun b hb => ⟨by rw [hC]; exact Nat.ne_of_lt (Nat.lt_succ_of_lt hb), Nat.ne_of_lt hb⟩
  have old : ∀ b o, s.heap.get? b = some o → h₁.get? b = some o := fun b o e => hsb₁.extBut b o (below b (Heap.lt_size e)).1 (Heap.get?_push_of_some _ (hH2 ▸ Heap.get?_push_of_some _ e))
  have hacc : h₁.PlainList s.heap.objs.size #[] := ⟨_, hsb₁.extBut _ _ hDC (Heap.get?_push_of_some _ (hH2 ▸ Heap.get?_push_size _ rfl))⟩
  have hfl : ∀ b ∈ fp, b < s.heap.objs.size := fun b hb => by
    obtain ⟨o, e, _⟩ := T.obj _ _ st b hb
    exact Heap.lt_size e
  have hex : ∀ b ∈ fp, FpOk X pins H b ∧ b < s.heap.objs.size := fun b hb => ⟨hf b hb, hfl b hb⟩
  generalize hs4 : ({ s with heap := h₁, toks := s.toks + ([] : List (Str × Value)).length } : Shared) = s4
  generalize hX : cxC X scope (ls ++ fr.map (·.1)) H2.objs.size s H fp = Y
  have I4 : Inv Y [] (startC ls fr σ) H s4 := by
    rw [← hX, ← hs4]
    exact comp_inv S I hCle hex rfl I.bare old hns₁
  have YP : Y.prog = X.prog := by rw [← hX]; rfl
  have Yw : Y.w = X.w := by rw [← hX]; rfl
  have YK : Y.K = X.K := by rw [← hX]; rfl
  have YA : Y.A = X.A := by rw [← hX]; rfl
  have Yc : Y.calm = true := by rw [← hX]; exact hc
  have Yx : Y.xe = fun _ _ => False := by rw [← hX]; rfl
  have Yl : Y.env.locals = H2.objs.size := by rw [← hX]; rfl
  have Yok : (cxC X scope (ls ++ fr.map (·.1)) H2.objs.size s H fp).Ok := comp_ok S I hCle hex
  have fpY : ∀ {H' : Hp} {o : Obj}, (∀ b ∈ fp, H' b = none) → ∀ b ∈ fp, FpOk Y [(s.heap.objs.size, o)] H' b := fun {H' o} hn b hb => by
    rw [← hX]
    obtain ⟨f0, f1, f2, f3, f4, f5⟩ := hf b hb
    refine ⟨hn b hb, (below b (hfl b hb)).1, fun z => Yok.exfs b hb z, .inl hb, fun x c e => f4 x c (S.look I e), fun p hp => ?_⟩
    have e : p = (s.heap.objs.size, o) := by simpa [cxC] using hp
    subst e
    exact Ne.symm (below b (hfl b hb)).2
  have pinD : ∀ {σ' : St} {H' : Hp} {s' : Shared} {its : Array Value} {n : Nat}, Inv Y [] σ' H' s' → H' s.heap.objs.size = none → s'.heap.get? s.heap.objs.size = some { cls := .type "list", data := .seq its n } →
      Inv Y [(s.heap.objs.size, { cls := .type "list", data := .seq its n })] σ' H' s' := fun {σ' H' s' its n} I' hn e => I'.pins_of fun p hp => by
    have ep : p = (s.heap.objs.size, { cls := .type "list", data := .seq its n }) := by simpa using hp
    subst ep
    refine ⟨e, hn, by rw [Yl]; exact hDC, ?_, fun v z => nomatch z⟩
    rw [← hX]
    exact fun hb => I.nofs (Nat.le_refl _) ((List.mem_cons.mp (I.stkSub _ hb)).resolve_left fun z => absurd I.lt (by rw [← z]; exact Nat.lt_irrefl _))
  obtain ⟨W, ⟨m0, w0⟩, turn⟩ := hq
  have E1 : ∀ {α : Type} {t : Sem α} {Q1 : α → Shared → Prop} {s1 : Shared} {E1 : Value → Shared → Prop}, wpAny (model X.prog X.w) X.A t Q1 Y.xe s1 → wpAny (model X.prog X.w) X.A t Q1 E1 s1 := fun h => wpAny_mono h (fun _ _ z => z) fun _ _ z => by rw [Yx] at z; exact z.elim
  have endC : ∀ {σ' : St} {H' : Hp} {s' : Shared} {its : List Value} {ys : List V}, Inv Y [] σ' H' s' → H' s.heap.objs.size = none → s'.heap.PlainList s.heap.objs.size its.toArray → Vals ys its → ys.length ≤ sizeLine →
      (∀ p, H' p = none → Q (.ref p) (upd H' p (.lst ys))) → RR (.ref s.heap.objs.size) H2.objs.size (.ok .next) s' := fun {σ' H' s' its ys} I' hn ⟨n, e⟩ rv hz q => by
    subst hX
    obtain ⟨m, hm, _⟩ := id I'.loc
    have hCn : H' H2.objs.size = none := I'.free
    refine hRR _ _ s' (upd H' s.heap.objs.size (.lst ys)) m (I.call' I'.os (Un.add I'.base (Nat.le_refl _) hn) (I'.hok.add hn ⟨hz, its, n, rv, e⟩) I'.bare fun b hb => ?_) hm hCle (by rw [upd_ne (Ne.symm hDC)]; exact hCn) (q _ hn)
    obtain ⟨f0, f1, f2, f3, f4, f5⟩ := hf b hb
    exact ⟨f3, f1, f4, f5⟩
  have loop : codeAny (model X.prog X.w) X.A (.compLoop (.ListComp elt [⟨tg, iter, ifs, 0⟩] scope pos) 0 (.ref it) (.ref s.heap.objs.size) Y.env) (RR (.ref s.heap.objs.size) H2.objs.size) s4 := by
    refine comp_loop_any (fun n s' => ∃ (i : Nat) (σ' : St) (H' : Hp) (ys : List V) (its : List Value), Inv Y [] σ' H' s' ∧ tn i s'.heap ∧ (∀ b ∈ fp, H' b = none) ∧ H' s.heap.objs.size = none ∧ s'.heap.PlainList s.heap.objs.size its.toArray ∧ Vals ys its ∧ W i n ys σ' H') ?_ m0
      ⟨0, startC ls fr σ, H, [], [], I4, T.keep _ _ _ st fun b _ o e => by rw [← hs4]; exact old b o e, fun b hb => (hf b hb).1, I.hok.fresh (Nat.le_refl _), by rw [← hs4]; exact hacc, .nil, w0⟩
    rintro n s5 ⟨i, σ5, H5, ys, its, I5, st5, fr5, hn5, ⟨nn, e5⟩, rv, w5⟩
    have I5p := pinD I5 hn5 e5
    rcases turn i n ys σ5 H5 w5 with ⟨stop, hz, qn⟩ | ⟨go, hz, NN, hNN, step⟩
    · rw [← YA]
      refine thn (T.done Y YP Yw YK Yc i _ s5 σ5 H5 _ I5p (fpY fr5) st5 stop) fun r s6 ⟨hr, I6⟩ => ?_
      subst hr
      exact endC (I6.pins_of fun p hp => nomatch hp) hn5 ⟨nn, (I6.pin _ (List.mem_append_right _ List.mem_cons_self)).1⟩ rv hz qn
    · have hit := T.item Y YP Yw YK Yc i _ s5 σ5 H5 (notedBy (model X.prog X.w) X.A Y.env fun e s' => RR (Value.ref s.heap.objs.size) H2.objs.size (Except.error e) s') I5p (fpY fr5) st5 go
      rw [YA] at hit
      refine thn hit fun r s6 ⟨u, hr, h6⟩ => ?_
      subst hr
      refine thn h6 fun _ s7 ⟨x, H7, I7, r7, y7, st7, fr7⟩ => ?_
      have I7' := I7.pinned (fpY fr7) (T.obj _ _ st7)
      have h8 := hg H2.objs.size s H fp
      have h9 := ht H2.objs.size s H fp
      have h10 := he H2.objs.size s H fp
      rw [hX] at h8 h9 h10
      have a8 := h8 _ s7 σ5 H7 x u _ I7' r7 (step x H7 y7)
      rw [YP, Yw, YA] at a8
      refine thn (E1 a8) fun _ s8 ⟨σ8, H8, I8, q8⟩ => ?_
      have a9 := h9 _ s8 σ8 H8 _ I8 q8
      rw [YP, Yw, YA] at a9
      refine thn (E1 a9) fun b s9 ⟨H9, I9, q9⟩ => ?_
      have back : ∀ {σ' : St} {H' : Hp} {s' : Shared}, Inv Y ([(s.heap.objs.size, { cls := .type "list", data := .seq its.toArray nn })] ++ pinsAt fp s7.heap) σ' H' s' →
          tn (i + 1) s'.heap ∧ (∀ b ∈ fp, H' b = none) ∧ H' s.heap.objs.size = none ∧ s'.heap.PlainList s.heap.objs.size its.toArray := fun {σ' H' s'} I' => by
        have hp := I'.pin (s.heap.objs.size, { cls := .type "list", data := .seq its.toArray nn }) (List.mem_append_right _ (List.mem_append_left _ List.mem_cons_self))
        refine ⟨T.keep _ _ _ st7 fun b hb o e => (I'.pin (b, o) (List.mem_append_right _ (List.mem_append_right _ (mem_pinsAt hb e)))).1, fun b hb => ?_, hp.2.1, ⟨nn, hp.1⟩⟩
        obtain ⟨o, e, d⟩ := T.obj _ _ st7 b hb
        exact (I'.pin (b, o) (List.mem_append_right _ (List.mem_append_right _ (mem_pinsAt hb e)))).2.1
      cases b with
      | false =>
        rw [if_neg Bool.false_ne_true] at q9 ⊢
        obtain ⟨m', hm, w9⟩ := hNN _ _ _ q9
        obtain ⟨z1, z2, z3, z4⟩ := back I9
        exact ⟨m', hm, i + 1, σ8, H9, ys, its, I9.pins_of (fun p hp => nomatch hp), z1, z2, z3, z4, rv, w9⟩
      | true =>
        rw [if_pos rfl] at q9 ⊢
        have a10 := h10 _ s9 σ8 H9 _ I9 q9
        rw [YP, Yw, YA] at a10
        refine thn (E1 a10) fun xv s10 ⟨v, H10, I10, rx, q10⟩ => ?_
        obtain ⟨m', hm, w10⟩ := hNN _ _ _ q10
        obtain ⟨z1, z2, z3, z4⟩ := back I10
        have hlen : its.length = ys.length := (rv.length).symm
        refine wpAny_list_append_plain z4 (fun h' pl sb => ?_) (by rw [List.size_toArray, hlen]; exact hz)
        refine ⟨m', hm, i + 1, σ8, H10, ys ++ [v], its ++ [xv], ?_, ?_, z2, z3, ?_, rv.append (.cons rx .nil), w10⟩
        · have I10' : Inv Y [] σ8 H10 s10 := I10.pins_of fun p hp => nomatch hp
          refine I10'.turned (t' := s10.toks) (it := s.heap.objs.size) (fun b o hb e => (sb.2 b hb).trans e) z3 (by rw [Yl]; exact hDC) (.inr ?_) (fun x c e => ?_) fun p hp => ?_
          · rw [← hX]; exact Nat.le_refl _
          · rw [← hX] at e
            intro z
            obtain ⟨v0, q0⟩ := I.cell x c (S.look I e)
            exact absurd q0.lt (by rw [z]; exact Nat.lt_irrefl _)
          · rw [← hX] at hp; exact nomatch hp
        · refine T.keep _ _ _ z1 fun b hb o e => (sb.2 b (below b (hfl b hb)).2).trans e
        · have : (its ++ [xv]).toArray = its.toArray.push xv := by simp
          rw [this]; exact pl
  have hYe : Y.env = { newEnv scope H2.objs.size X.env.globals (clos scope X.env) X.env.qual none .none (some X.env) builtinsNs with scope := relabel scope X.env } := by rw [← hX]; rfl
  rw [← hYe]
  rw [hYe] at loop ⊢
  refine codeAny_compStart_list loop ?_
  exact T.self _ 0 _ _ _ (T.keep _ _ _ st fun b _ o e => by rw [← hs4]; exact old b o e) loop

/-- a comprehension as a value -/
theorem pe_comp {wi : TI} {tg elt iter : Expr} {ifs : List Expr} {pos : Pos} {g : TG} {tf : TT} {te : TE} (S : CScope X scope ls fr) (hc : X.calm = true) (hi : PI X tg iter wi)
    (hg : ∀ C s H ex, PG (cxC X scope (ls ++ fr.map (·.1)) C s H ex) tg g) (ht : ∀ C s H ex, PF (cxC X scope (ls ++ fr.map (·.1)) C s H ex) ifs tf) (he : ∀ C s H ex, PE (cxC X scope (ls ++ fr.map (·.1)) C s H ex) elt te)
    (hs : ∀ x, foldedSetIterable iter X.env x = pure x := by intro _; rfl) : PE X (.ListComp elt [⟨tg, iter, ifs, 0⟩] scope pos) (tComp wi ls fr g tf te) := by
  intro pins s σ H Q I h
  rw [eval_ListComp]
  refine wpAny_comprehension_free (use := none) rfl hs (closureFor_eq (S.cells I)) S.kind S.names (thn (hi pins s σ H _ I h) fun xv s₁ h₁ => thn h₁ fun itv s₂ h₂ => ?_)
  obtain ⟨it, fp, tn, J, H2, rfl, I2, T, st, hf, q⟩ := h₂
  refine comp_block (RR := fun acc C => compPost (model X.prog X.w) X.A X.xe none (EP X pins σ Q) acc C) S hc I2 T st hf q hg ht he ?_
  intro D C s' H' m I' hn hC hCn hq
  refine ⟨m, hn, fun h' sb => ?_⟩
  have nC : ∀ {b : Addr}, b < s₂.heap.objs.size → b ≠ C := fun hb => Nat.ne_of_lt (Nat.lt_of_lt_of_le hb hC)
  refine ⟨.ref D, H', I'.turned (t' := s'.toks) (it := C) (fun b o hb e => (sb.2 b hb).trans e) hCn (Ne.symm (nC I2.lt)) (.inr (Nat.le_trans I2.sz hC)) (fun x c e => ?_) fun p hp => ?_, rfl, hq⟩
  · obtain ⟨v0, q0⟩ := I2.cell x c e
    exact nC q0.lt
  · exact nC (Heap.lt_size (I2.pin p hp).1)
/-- x = [..] (the name is stored ahead of the block's end) -/
theorem ps_comp {wi : TI} {tg elt iter : Expr} {ifs : List Expr} {pos spos py : Pos} {y : Str} {i : Nat} {g : TG} {tf : TT} {te : TE} (S : CScope X scope ls fr) (hc : X.calm = true) (hi : PI X tg iter wi)
    (hg : ∀ C s H ex, PG (cxC X scope (ls ++ fr.map (·.1)) C s H ex) tg g) (ht : ∀ C s H ex, PF (cxC X scope (ls ++ fr.map (·.1)) C s H ex) ifs tf) (he : ∀ C s H ex, PE (cxC X scope (ls ++ fr.map (·.1)) C s H ex) elt te)
    (hN : X.N.Nodup) (hy : X.N[i]? = some y) (hl : X.env.scope.names.lookup y = some .local) (hsw : swapsWith (.ListComp elt [⟨tg, iter, ifs, 0⟩] scope pos) (some (.Name y py)) spos.line X.env = pure true)
    (hs : ∀ x, foldedSetIterable iter X.env x = pure x := by intro _; rfl) : PS X (.Assign [.Name y py] (.ListComp elt [⟨tg, iter, ifs, 0⟩] scope pos) spos) (tAsg (tComp wi ls fr g tf te) (gName i)) := by
  intro pins s σ H D I h
  rw [exec_Assign_Name_used _ _ _ _ hsw]
  refine wpAny_bind (wpAny_standAt (wpAny_bind ?_))
  show wpAny _ X.A (do let _ ← comprehension (.ListComp elt [⟨tg, iter, ifs, 0⟩] scope pos) scope X.env _ (newList []) false (eval iter X.env) (some (assign (.Name y py) X.env))) _ _ s
  refine wpAny_bind (wpAny_mono (wpAny_comprehension_free (use := some (assign (.Name y py) X.env)) (Q := fun _ s' => SP X pins D .next s') rfl hs (closureFor_eq (S.cells I)) S.kind S.names
    (thn (hi pins s σ H _ I h) fun xv s₁ h₁ => thn h₁ fun itv s₂ h₂ => ?_)) (fun _ s' hq => wpAny_pure (wpAny_pure hq)) fun _ _ e => e)
  obtain ⟨it, fp, tn, J, H2, rfl, I2, T, st, hf, q⟩ := h₂
  refine comp_block (RR := fun acc C => compPost (model X.prog X.w) X.A X.xe (some (assign (.Name y py) X.env)) (fun _ s' => SP X pins D .next s') acc C) S hc I2 T st hf q hg ht he ?_
  intro D1 C s' H' m I' hn hC hCn hq
  have nC : ∀ {b : Addr}, b < s₂.heap.objs.size → b ≠ C := fun hb => Nat.ne_of_lt (Nat.lt_of_lt_of_le hb hC)
  have cC : ∀ x c, X.env.cells.lookup x = some c → c ≠ C := fun x c e => by
    obtain ⟨v0, q0⟩ := I2.cell x c e
    exact nC q0.lt
  show wpAny _ X.A (assign (.Name y py) X.env (.ref D1)) _ _ _
  refine wpAny_assign_Name (store_ok2 I' hN hy (.inl hl) (v := .ref D1) rfl (fun s3 I3 hsb => ?_) (.inr hl))
  obtain ⟨a, sb1, ha⟩ := hsb
  have haC : C ≠ a := by
    rcases ha with rfl | e
    · exact Ne.symm (nC I2.lt)
    · exact Ne.symm (cC _ _ e)
  refine ⟨m, hn.sameBut sb1 haC, fun h' sb => ⟨_, H', I3.turned (t' := s3.toks) (it := C) (fun b o hb e => (sb.2 b hb).trans e) hCn (Ne.symm (nC I2.lt)) (.inr (Nat.le_trans I2.sz hC)) cC fun p hp => nC (Heap.lt_size (I2.pin p hp).1), hq⟩⟩
end

/-! ### the forms one uses -/
theorem comp_list {K : PySem.W.Frag} {a : Addr} {xs : List V} {g : TG} {tf : TT} {te : TE} {σ : St} {H : Hp} {Q : VK} (Pv : Nat → List V → St → Hp → Prop) (h0 : Pv 0 [] σ H) (hl : ∀ i ys σ H, i ≤ xs.length → Pv i ys σ H → SqL K H a xs ∧ ys.length ≤ sizeLine)
    (hs : ∀ i x ys σ H, xs[i]? = some x → Pv i ys σ H → g x σ H fun σ2 H2 => tf σ2 H2 fun b H3 => if b = true then te σ2 H3 fun v H4 => Pv (i + 1) (ys ++ [v]) σ2 H4 else Pv (i + 1) ys σ2 H3)
    (hd : ∀ ys σ H, Pv xs.length ys σ H → ∀ p, H p = none → Q (.ref p) (upd H p (.lst ys))) : tCompK g tf te σ (Itl K a) H Q := by
  refine ⟨fun i m ys σ H => m = xs.length - i ∧ i ≤ xs.length ∧ Pv i ys σ H, ⟨xs.length, by simp, Nat.zero_le _, h0⟩, ?_⟩
  rintro i m ys σ H ⟨rfl, hi, p⟩
  obtain ⟨q, hz⟩ := hl i ys σ H hi p
  by_cases hlt : i < xs.length
  · refine .inr ⟨⟨xs, xs[i], q, by simp [hlt]⟩, hz, Pv (i + 1), fun ys' σ' H' p' => ⟨xs.length - (i + 1), by omega, rfl, hlt, p'⟩, fun x H' y => ?_⟩
    obtain ⟨e, y⟩ := y
    subst e
    exact hs i x ys σ _ (y xs q) p
  · have e : i = xs.length := by omega
    subst e
    exact .inl ⟨⟨xs, q, Nat.le_refl _⟩, hz, hd ys σ H p⟩
theorem comp_tup {K : PySem.W.Frag} {a : Addr} {xs : List V} {g : TG} {tf : TT} {te : TE} {σ : St} {H : Hp} {Q : VK} (Pv : Nat → List V → St → Hp → Prop) (h0 : Pv 0 [] σ H) (hl : ∀ i ys σ H, i ≤ xs.length → Pv i ys σ H → SqT K H a xs ∧ ys.length ≤ sizeLine)
    (hs : ∀ i x ys σ H, xs[i]? = some x → Pv i ys σ H → g x σ H fun σ2 H2 => tf σ2 H2 fun b H3 => if b = true then te σ2 H3 fun v H4 => Pv (i + 1) (ys ++ [v]) σ2 H4 else Pv (i + 1) ys σ2 H3)
    (hd : ∀ ys σ H, Pv xs.length ys σ H → ∀ p, H p = none → Q (.ref p) (upd H p (.lst ys))) : tCompK g tf te σ (Itt K a) H Q := by
  refine ⟨fun i m ys σ H => m = xs.length - i ∧ i ≤ xs.length ∧ Pv i ys σ H, ⟨xs.length, by simp, Nat.zero_le _, h0⟩, ?_⟩
  rintro i m ys σ H ⟨rfl, hi, p⟩
  obtain ⟨q, hz⟩ := hl i ys σ H hi p
  by_cases hlt : i < xs.length
  · refine .inr ⟨⟨xs, xs[i], q, by simp [hlt]⟩, hz, Pv (i + 1), fun ys' σ' H' p' => ⟨xs.length - (i + 1), by omega, rfl, hlt, p'⟩, fun x H' y => ?_⟩
    obtain ⟨e, y⟩ := y
    subst e
    exact hs i x ys σ _ (y xs q) p
  · have e : i = xs.length := by omega
    subst e
    exact .inl ⟨⟨xs, q, Nat.le_refl _⟩, hz, hd ys σ H p⟩
theorem comp_range {lo : Int} {n : Nat} {g : TG} {tf : TT} {te : TE} {σ : St} {H : Hp} {Q : VK} (Pv : Nat → List V → St → Hp → Prop) (h0 : Pv 0 [] σ H) (hl : ∀ i ys σ H, i ≤ n → Pv i ys σ H → ys.length ≤ sizeLine)
    (hs : ∀ i ys σ H, i < n → Pv i ys σ H → g (.int (lo + i)) σ H fun σ2 H2 => tf σ2 H2 fun b H3 => if b = true then te σ2 H3 fun v H4 => Pv (i + 1) (ys ++ [v]) σ2 H4 else Pv (i + 1) ys σ2 H3)
    (hd : ∀ ys σ H, Pv n ys σ H → ∀ p, H p = none → Q (.ref p) (upd H p (.lst ys))) : tCompK g tf te σ (Itr lo n) H Q := by
  refine ⟨fun i m ys σ H => m = n - i ∧ i ≤ n ∧ Pv i ys σ H, ⟨n, by simp, Nat.zero_le _, h0⟩, ?_⟩
  rintro i m ys σ H ⟨rfl, hi, p⟩
  have hz := hl i ys σ H hi p
  by_cases hlt : i < n
  · refine .inr ⟨hlt, hz, Pv (i + 1), fun ys' σ' H' p' => ⟨n - (i + 1), by omega, rfl, hlt, p'⟩, fun x H' y => ?_⟩
    obtain ⟨e, y⟩ := y
    subst e y
    exact hs i ys σ _ hlt p
  · have e : i = n := by omega
    subst e
    exact .inl ⟨Nat.le_refl _, hz, hd ys σ H p⟩

/-- the scope's conditions, to be decided -/
def cscopeB (sc : Scope) (N : List Str) (scope : Scope) (fr : List (Str × Nat)) : Bool :=
  (scope.kind == .function) && scope.names.all (fun y => y.2 != .cell) && scope.names.all (fun y => y.2 != .local || scope.names.lookup y.1 == some .local) &&
  scope.names.all (fun y => y.2 != .free || sc.names.lookup y.1 == some .cell || sc.names.lookup y.1 == some .free) && fr.all (fun p => N[p.2]? == some p.1 && scope.names.lookup p.1 == some .free)
theorem cs_of {X : Cx} {scope : Scope} {ls : List Str} {fr : List (Str × Nat)} (sc : Scope) (N : List Str) (h1 : X.env.scope = sc) (h2 : X.N = N) (h : cscopeB sc N scope fr = true) : CScope X scope ls fr := by
  subst h1 h2
  simp only [cscopeB, Bool.and_eq_true, List.all_eq_true, Bool.or_eq_true, bne_iff_ne, beq_iff_eq, ne_eq] at h
  obtain ⟨⟨⟨⟨a, b⟩, c⟩, d⟩, e⟩ := h
  refine ⟨a, b, fun y hy hk => (c y hy).resolve_left fun z => z hk, fun y hy hk => ?_, e⟩
  rcases d y hy with (z | z) | z
  · exact absurd hk z
  · exact .inl z
  · exact .inr z
theorem pgc {X : Cx} {scope : Scope} {ls : List Str} {fr : List (Str × Nat)} {C : Addr} {s : Shared} {H : Hp} {ex : List Addr} {x : Str} {pos : Pos} (i : Nat) (hN : (ls ++ fr.map (·.1)).Nodup) (hi : (ls ++ fr.map (·.1))[i]? = some x) (hx : scope.names.lookup x = some .local) :
    PG (cxC X scope (ls ++ fr.map (·.1)) C s H ex) (.Name x pos) (gName i) :=
  pg_name hN hi (.inl (lookup_relabel_local hx)) (.inr (lookup_relabel_local hx))
/-- names within a block, to be decided over the two scopes -/
def relN (scope sc : Scope) : List (Str × NameKind) := scope.names.map fun (n, k) => if (k == .free && sc.kind == .function && sc.names.lookup n == some .cell) then (n, .cell) else (n, k)
def visB (scope sc : Scope) (x : Str) : Bool := match (relN scope sc).lookup x with | some .local => true | some .cell => true | some .free => true | _ => false
theorem pvc (sc : Scope) (i : Nat) {X : Cx} {scope : Scope} {N : List Str} {C : Addr} {s : Shared} {H : Hp} {ex : List Addr} {x : Str} {pos : Pos} (hN : N[i]? = some x := by rfl) (hs : X.env.scope = sc := by rfl) (hv : visB scope sc x = true := by decide +kernel)
    (hd : (x == ("__debug__" : Str)) = false := by decide +kernel) (hcd : (x == ("__classdict__" : Str)) = false := by decide +kernel) : PE (cxC X scope N C s H ex) (.Name x pos) (tVar i) := by
  subst hs
  refine pe_var hN ?_ hd hcd
  have hv' : visB scope X.env.scope x = true := hv
  unfold visB at hv'
  show (relN scope X.env.scope).lookup x = some .local ∨ (relN scope X.env.scope).lookup x = some .cell ∨ (relN scope X.env.scope).lookup x = some .free
  split at hv'
  · rename_i e; exact .inl e
  · rename_i e; exact .inr (.inl e)
  · rename_i e; exact .inr (.inr e)
  · cases hv'
theorem glc (sc : Scope) {X : Cx} {scope : Scope} {N : List Str} {C : Addr} {s : Shared} {H : Hp} {ex : List Addr} {x : Str} (hs : X.env.scope = sc := by rfl) (h : ((relN scope sc).lookup x == some .globalImplicit) = true := by decide +kernel) : Gl (cxC X scope N C s H ex) x := by
  subst hs
  exact eq_of_beq h
end L2

set_option Elab.async false
set_option linter.all false
set_option maxRecDepth 100000
namespace L2
open PySem PySem.Spec PyProof.Rows

/-! ### ints sorted falling -/
theorem perm_ge_eq {a b : List Int} (ha : a.Pairwise (· ≥ ·)) (hb : b.Pairwise (· ≥ ·)) (p : a.Perm b) : a = b :=
  p.eq_of_pairwise (le := fun x y => x ≥ y) (fun x y _ _ h1 h2 => Int.le_antisymm h2 h1) ha hb
section
variable {prog : Program} {w : World} {A : Around} {E : Value → Shared → Prop} {s : Shared}
theorem sorted_ints_revT {l : Addr} {vs : List Value} {ns : List Int} {b : Bool} {Q : Value → Shared → Prop} (hl : IsTup s.heap l vs.toArray) (hI : IntsAre vs ns) (h64 : vs.length < 64)
    (h : ∀ (out : List Value) (n : Nat) (h1 h' : Heap) (ns' : List Int), (∀ b o, s.heap.get? b = some o → h1.get? b = some o) → (∀ b o, h1.get? b = some o → h'.get? b = some o) → h'.get? h1.objs.size = some (seqObj "list" out.toArray n) → IntsAre out ns' → ns'.Perm ns → Ordered b ns' → Q (.ref h1.objs.size) { s with heap := h' }) :
    wpAny (model prog w) A (call (.builtin "sorted") [.ref l] [(Str.ofString "reverse", .bool b)]) Q E s := by
  refine call_function_entry_kw kind_sorted plain_sorted entry_sorted (args_sorted_rev _ _) ?_
  unfold Builtin.«sorted»
  refine wpAny_bind (m := checkCount "sorted" 1 1 _) (wpAny_pure ?_)
  obtain ⟨o, ho, hc, n, hd⟩ := hl
  refine wpAny_bind (wpAny_collect_seq l (.inr rfl) ho hc hd (fun h1 hk1 => ?_) (by simp [sizeLine_eq]; omega))
  refine wpAny_bind (wpAny_newList ?_)
  have hoL : (h1.push (seqObj "list" vs.toArray 0)).get? h1.objs.size = some (seqObj "list" vs.toArray 0) := Heap.get?_push_size _ rfl
  refine wpAny_bind (wpAny_holding (wpAny_call_entry_kw slot_list_sort ⟨_, hoL, rfl⟩ entry_list_sort (list_sort_tree_rev hoL hI h64 fun out ns' a1 a2 a3 => ⟨_, rfl, ?_⟩) (args_list_sort_rev _ _)))
  obtain ⟨e, he⟩ := sortedHeap_at (vs := vs) (out := out) hoL
  refine wpAny_pure ⟨_, rfl, h out.toList e h1 _ ns' hk1 (fun b o hb => ?_) he a1 a2 a3⟩
  have hlt := Heap.lt_size hb
  rw [sortedHeap_old (Nat.ne_of_lt hlt) (by rw [Heap.size_push]; exact Nat.lt_succ_of_lt hlt)]
  exact Heap.get?_push_of_some _ hb
end

section
variable {X : Cx}
def rSortR (K : PySem.W.Frag) (b : Bool) : V → Hp → VK → Prop := fun x H Q => ∃ a ns, x = .ref a ∧ (SqL K H a (ns.map V.int) ∨ SqT K H a (ns.map V.int)) ∧ ns.length < 64 ∧ ∀ ns' p, ns'.Perm ns → Ordered b ns' → H p = none → Q (.ref p) (upd H p (.lst (ns'.map V.int)))
def tSortR (K : PySem.W.Frag) (b : Bool) (te : TE) : TE := fun σ H Q => te σ H fun x H1 => rSortR K b x H1 Q
theorem small64 {n : Nat} (h : n < 64) : n ≤ sizeLine := Nat.le_trans (Nat.le_of_lt h) (by decide)
/-- sorted(e, reverse=True) -/
theorem pe_sortR {e : Expr} {te : TE} {b : Bool} {p kp cp pos : Pos} {j : Nat} (hg : Gl X "sorted") (hm : X.mg "sorted" = none) (he : PE X e te)
    (hse : starEach [e] X.env = [(false, eval e X.env)] := by rfl) : PE X (.Call (.Name "sorted" p) [e] [⟨some "reverse", .Constant (.bool b) j cp, kp⟩] pos) (tSortR X.K b te) := by
  intro pins s σ H Q I h
  refine wpAny_Call_Name_kw (ld_blt I hg hm boot_sorted ?_ (by decide) (by decide))
  refine callWith_kw (thn (pa_cons he pa_nil hse pos pins s σ H (fun vs H1 => match vs with | [x] => rSortR X.K b x H1 Q | _ => False) I h) fun us s1 ⟨vs, H1, I1, r1, q1⟩ => ?_) (by rw [hse]; rfl) (by rw [hse]; rfl)
  match vs, r1, q1 with
  | [x], r1, q =>
    obtain ⟨u, rfl, ru⟩ := vals1 r1
    refine kws_cons (Constant_bool (kws_nil ?_))
    obtain ⟨a, ns, rfl, hq, hl, q⟩ := q
    cases ru
    show wpAny _ _ (call (.builtin "sorted") [.ref a] [(Str.ofString "reverse", .bool b)]) _ _ _
    rcases hq with hq | hq
    · obtain ⟨its, r', pl, hz⟩ := I1.list hq
      have hlen := r'.length
      rw [List.length_map] at hlen
      refine sorted_ints_rev pl.isList (intsAre_of r') (by omega) fun out ns' a1 a2 a3 => ?_
      obtain ⟨n, hn⟩ := sortedAll_at s1.heap its out
      have hz' : (ns'.map V.int).length ≤ sizeLine := by rw [List.length_map, a2.length_eq]; exact small64 hl
      exact ⟨.ref _, _, I1.laid (t' := s1.toks) (fun _ _ => sortedAll_old) (Nat.le_succ _) (show ObjOk X.prog X.w _ _ _ (.lst (ns'.map V.int)) from ⟨hz', out.toList, n, vals_ints a1, by simpa [seqObj] using hn⟩), rfl, q ns' _ a2 a3 (I1.hok.fresh (Nat.le_succ _))⟩
    · obtain ⟨its, r', pl, hz⟩ := I1.tuple hq
      have hlen := r'.length
      rw [List.length_map] at hlen
      refine sorted_ints_revT pl (intsAre_of r') (by omega) fun out n h1 h' ns' k1 k2 e a1 a2 a3 => ?_
      have hz' : (ns'.map V.int).length ≤ sizeLine := by rw [List.length_map, a2.length_eq]; exact small64 hl
      have I2 : Inv X pins σ H1 { s1 with heap := h1 } := I1.kept (t' := s1.toks) k1
      exact ⟨.ref _, _, I2.laid (t' := s1.toks) k2 (Nat.le_refl _) (show ObjOk X.prog X.w _ _ _ (.lst (ns'.map V.int)) from ⟨hz', out, n, vals_ints a1, by simpa [seqObj] using e⟩), rfl, q ns' _ a2 a3 (I2.hok.fresh (Nat.le_refl _))⟩

theorem preSum_list (ns : List Int) : ∀ j, preSum (fun i => ns.getD i 0) j = (ns.take j).sum
  | 0 => by simp [preSum]
  | j + 1 => by
    rw [preSum, preSum_list ns j]
    by_cases h : j < ns.length
    · rw [List.take_succ_eq_append_getElem h, List.sum_append, List.sum_cons, List.sum_nil]
      have e : ns.getD j 0 = ns[j] := by simp [h]
      rw [e]
      omega
    · rw [List.take_of_length_le (by omega), List.take_of_length_le (by omega)]
      have : ns[j]? = none := List.getElem?_eq_none (by omega)
      simp [List.getD, this]
theorem vals_int_at {ns : List Int} {its : List Value} (r : Vals (ns.map V.int) its) (i : Nat) (v : Value) (e : its.toArray[i]? = some v) : ∃ t, v = .int (ns.getD i 0) t := by
  have e' : its[i]? = some v := by simpa using e
  have hi : i < its.length := (List.getElem?_eq_some_iff.mp e').1
  have hl := r.length
  rw [List.length_map] at hl
  have hx : (ns.map V.int)[i]? = some (V.int (ns.getD i 0)) := by
    have hi' : i < ns.length := by omega
    simp [hi']
  obtain ⟨u, hu, t, rfl⟩ := r.get hx
  rw [e'] at hu
  cases hu
  exact ⟨t, rfl⟩
/-- sum(x) of a list or tuple of ints -/
theorem call_sum_ints (hc : X.calm = true) : CallR X (.builtin "sum") (fun xs H Q => ∃ (a : Addr) (ns : List Int), xs = [.ref a] ∧ (SqL X.K H a (ns.map V.int) ∨ SqT X.K H a (ns.map V.int)) ∧ Q (.int ns.sum) H) := by
  intro pins s σ H xs us Q I r h
  obtain ⟨a, ns, rfl, hq, q⟩ := h
  obtain ⟨u, rfl, ru⟩ := vals1 r
  cases ru
  have hh : X.A.in1.handled = none := I.ok.hd hc
  have fin : ∀ {its : List Value} (h' : Heap) (tk : Nat) (t' : Tok), Vals (ns.map V.int) its → (∀ b o, s.heap.get? b = some o → h'.get? b = some o) → EP X pins σ Q (.int (preSum (fun i => ns.getD i 0) its.toArray.size) t') { s with heap := h', toks := tk } := fun {its} h' tk t' r' hk => by
    have hl := r'.length
    rw [List.length_map] at hl
    refine ⟨.int ns.sum, H, I.kept hk, ⟨t', ?_⟩, q⟩
    rw [preSum_list, List.size_toArray, ← hl, List.take_length]
  rcases hq with hq | hq
  · obtain ⟨its, r', pl, hz⟩ := I.list hq
    have hlt : a < s.heap.objs.size := by obtain ⟨_, e, _⟩ := pl.isList; exact Heap.lt_size e
    refine call_sum_walkG (wpAny_pyIter_list pl.isList ⟨_, _, _, _, _, _, fun i => ns.getD i 0, rfl, Walks.list (A := X.A.in1) hh _ a (Nat.ne_of_lt hlt) its.toArray, ⟨⟨_, Heap.get?_push_size _ rfl, rfl, rfl⟩, pl.isList.push _⟩, fun b hb => ?_, vals_int_at r', fun h' tk t' hk => fin h' tk t' r' fun b o e => hk b o (by simpa using Nat.ne_of_lt (Heap.lt_size e)) (Heap.get?_push_of_some _ e)⟩)
    show b < (s.heap.push _).objs.size
    rw [Heap.size_push]
    rcases List.mem_cons.mp hb with rfl | hb
    · exact Nat.lt_succ_self _
    · rcases List.mem_cons.mp hb with rfl | hb
      · exact Nat.lt_succ_of_lt hlt
      · cases hb
  · obtain ⟨its, r', pl, hz⟩ := I.tuple hq
    have pl' : s.heap.IsTuple a its.toArray := pl
    have hlt : a < s.heap.objs.size := by obtain ⟨_, e, _⟩ := pl; exact Heap.lt_size e
    refine call_sum_walkG (wpAny_pyIter_tuple pl' ⟨_, _, _, _, _, _, fun i => ns.getD i 0, rfl, Walks.tuple (A := X.A.in1) hh _ a (Nat.ne_of_lt hlt) its.toArray, ⟨⟨_, Heap.get?_push_size _ rfl, rfl, rfl⟩, pl'.at fun o e => Heap.get?_push_of_some _ e⟩, fun b hb => ?_, vals_int_at r', fun h' tk t' hk => fin h' tk t' r' fun b o e => hk b o (by simpa using Nat.ne_of_lt (Heap.lt_size e)) (Heap.get?_push_of_some _ e)⟩)
    show b < (s.heap.push _).objs.size
    rw [Heap.size_push]
    rcases List.mem_cons.mp hb with rfl | hb
    · exact Nat.lt_succ_self _
    · rcases List.mem_cons.mp hb with rfl | hb
      · exact Nat.lt_succ_of_lt hlt
      · cases hb

/-! ### x.count(y) over flat items -/
def cntV (y : V) (xs : List V) : Nat := xs.countP fun x => eqV x y
theorem cnt_eqU {x : V} : ∀ {xs : List V} {us : List Value}, Vals xs us → xs.all flatV = true → us.countP (eqU x) = cntV x xs
  | _, _, .nil, _ => rfl
  | y :: xs, u :: us, .cons r t, f => by
    rw [List.all_cons, Bool.and_eq_true] at f
    unfold cntV
    rw [List.countP_cons, List.countP_cons, eqU_of r f.1, cnt_eqU t f.2]
    rfl
def rCount (K : PySem.W.Frag) (SQ : PySem.W.Frag → Hp → Addr → List V → Prop) : V → List V → Hp → VK → Prop := fun x vs H Q => ∃ a xs y, x = .ref a ∧ vs = [y] ∧ SQ K H a xs ∧ flatV y = true ∧ xs.all flatV = true ∧ Q (.int (cntV y xs)) H
theorem mt_countT : MtR X "tuple.count" (rCount X.K SqT) := by
  intro pins s σ H x vs v us Q I rx rv h
  obtain ⟨a, xs, y, rfl, rfl, hq, fy, fs, q⟩ := h
  cases rx
  obtain ⟨u, rfl, ru⟩ := rv.one
  obtain ⟨its, r, pl, hz⟩ := I.tuple hq
  obtain ⟨o, ho, hc, n, hd⟩ := pl
  obtain ⟨c, dd, dt, sl⟩ := o
  cases hc
  cases hd
  refine call_meets F.slot_tuple_count ⟨_, ho, rfl⟩ F.entry_tuple_count (F.args_tuple_count_2 _ _) (SeqAt.tuple_countAt a its.toArray n dd sl u (eqU y)) ⟨ho, fun w hw => mem_eqAt ru fy r fs w (by simpa using hw), ?_⟩
  refine ⟨.int _, H, I.tok _, ⟨s.toks, ?_⟩, q⟩
  rw [show its.toArray.toList = its from rfl, cnt_eqU r fs]
theorem cntV_ints (k : Int) (ns : List Int) : cntV (.int k) (ns.map V.int) = ns.count k := by
  unfold cntV
  rw [List.countP_map, List.count_eq_countP]
  congr 1
theorem flat_ints (ns : List Int) : (ns.map V.int).all flatV = true := by
  rw [List.all_map]; simp [flatV]

/-! ### isinstance(x, T), T a built-in type -/
theorem call_isi : CallR X (.builtin "isinstance") (fun xs H Q => ∃ x T t b, xs = [x, .ty T] ∧ TyOf X.K H x t ∧ PySem.W.kitOne X.K t (.type T) = some b ∧ Q (.bl b) H) := by
  intro pins s σ H xs us Q I r h
  obtain ⟨x, T, t, b, rfl, ty, hk, q⟩ := h
  obtain ⟨u, v, rfl, ru, rv⟩ := vals2 r
  cases (show v = Value.type T from rv)
  exact isinst_ok I ru ty hk fun tk => ⟨.bl b, H, I.tok tk, rfl, q⟩
end
/-! ### which built-in type lies beneath which -/
theorem kit_int_int {K : PySem.W.Frag} : PySem.W.kitOne K (.type "int") (.type "int") = some true := by unfold PySem.W.kitOne; rw [if_pos (by decide +kernel)]
theorem kit_int_bool {K : PySem.W.Frag} : PySem.W.kitOne K (.type "int") (.type "bool") = some false := by
  unfold PySem.W.kitOne
  rw [if_neg (by decide +kernel)]
  rfl
theorem kit_bool_bool {K : PySem.W.Frag} : PySem.W.kitOne K (.type "bool") (.type "bool") = some true := by unfold PySem.W.kitOne; rw [if_pos (by decide +kernel)]
theorem kit_tup_tup {K : PySem.W.Frag} : PySem.W.kitOne K (.type "tuple") (.type "tuple") = some true := by unfold PySem.W.kitOne; rw [if_pos (by decide +kernel)]
theorem kit_str_str {K : PySem.W.Frag} : PySem.W.kitOne K (.type "str") (.type "str") = some true := by unfold PySem.W.kitOne; rw [if_pos (by decide +kernel)]
theorem kit_list_list {K : PySem.W.Frag} : PySem.W.kitOne K (.type "list") (.type "list") = some true := by unfold PySem.W.kitOne; rw [if_pos (by decide +kernel)]
end L2

set_option Elab.async false
set_option linter.all false
set_option maxRecDepth 100000
namespace L2
open PySem PySem.Spec PyProof.Rows
/-! ### the drawn state: [great, rest, cells, count] -/
theorem noPylong_big {x y : Int} (h0 : 0 < y) (h : y ≤ 10 ^ 100) : Builtin.divisionGoesByPylong x y = false := by
  refine PyProof.noPylong_of_log2 ?_
  have hn : y.natAbs ≠ 0 := by omega
  have h1 : y.natAbs ≤ 10 ^ 100 := by omega
  refine (Nat.log2_lt hn).mpr (Nat.lt_of_le_of_lt h1 (by decide +kernel))
def CDivB (i j : Int) : Prop := 0 < j ∧ j ≤ 10 ^ 100
theorem op_fdivB {X : Cx} : OpR X (binaryOp .FloorDiv) (rI CDivB fun i j => .int (i / j)) := opI fun i j _ _ _ _ _ hc q => by
  refine floordiv_int (by have := hc.1; omega) ?_ (.inl (noPylong_big hc.1 hc.2))
  rw [Int.fdiv_eq_ediv_of_nonneg _ (Int.le_of_lt hc.1)]
  exact q
theorem get_list {X : Cx} : PGet X (fun x y H Q => ∃ p xs i v, x = .ref p ∧ y = .int i ∧ SqL X.K H p xs ∧ 0 ≤ i ∧ xs[i.toNat]? = some v ∧ Q v H) := by
  intro pins s σ H o i ov iv Q I ro ri h
  obtain ⟨p, xs, k, v, rfl, rfl, hq, h0, hv, q⟩ := h
  cases ro
  obtain ⟨t, rfl⟩ := ri
  obtain ⟨its, r, pl, hz⟩ := I.list hq
  have hlen := r.length
  have hn := line63
  obtain ⟨u, hu, ru⟩ := r.get hv
  have hk := (List.getElem?_eq_some_iff.mp hv).1
  exact wpAny_getItem_list pl.isList h0 (by omega) (by simpa using hu) ⟨v, H, I, ru, q⟩

/-- what holds between two statements -/
theorem seqJoin {A B : TS} {D : Ends} {σ : St} {H : Hp} (R : St → Hp → Prop) (h : ∀ nx : St → Hp → Prop, (∀ σ' H', R σ' H' → nx σ' H') → A { D with nx := nx } σ H) (hR : ∀ σ' H', R σ' H' → B D σ' H') : tSeq A B D σ H := h (B D) hR
/-- what may change is at S alone -/
def Keep (S : List Addr) (H H' : Hp) : Prop := ∀ b o, H b = some o → b ∉ S → H' b = some o
theorem Keep.refl (S : List Addr) (H : Hp) : Keep S H H := fun _ _ h _ => h
theorem Keep.trans {S : List Addr} {H H1 H2 : Hp} (a : Keep S H H1) (b : Keep S H1 H2) : Keep S H H2 := fun c o h n => b c o (a c o h n) n
theorem Keep.set {S : List Addr} {H : Hp} {p : Addr} {o : HO} (h : p ∈ S) : Keep S H (upd H p o) := fun b u e n => by
  have hb : b ≠ p := fun z => n (by rw [z]; exact h)
  rw [upd_ne hb]; exact e
theorem Same.keep {S : List Addr} {H H' : Hp} (h : Same H H') : Keep S H H' := fun b o e _ => h b o e
structure StAt (H : Hp) (st ga ca : Addr) (N : Nat) : Prop where
  ex : ∃ (gs cs : List Int) (q n : Int), H st = some (.lst [.ref ga, .int q, .ref ca, .int n]) ∧ H ga = some (.lst (gs.map V.int)) ∧ H ca = some (.lst (cs.map V.int)) ∧
    gs.length ≤ 63 ∧ (∀ x ∈ gs, 0 < x) ∧ 0 ≤ q ∧ 0 ≤ n ∧ n ≤ N
  gc : ga ≠ ca
  sg : st ≠ ga
  sc : st ≠ ca
theorem StAt.nin {H : Hp} {st ga ca : Addr} {N : Nat} (S : StAt H st ga ca N) {p : Addr} (h : H p = none) : p ∉ [st, ga] := by
  obtain ⟨gs, cs, q, n, h1, h2, _⟩ := S.ex
  intro z
  rcases List.mem_cons.mp z with rfl | z
  · rw [h1] at h; cases h
  · rcases List.mem_cons.mp z with rfl | z
    · rw [h2] at h; cases h
    · cases z
theorem StAt.mono {H : Hp} {st ga ca : Addr} {N M : Nat} (S : StAt H st ga ca N) (h : N ≤ M) : StAt H st ga ca M := by
  obtain ⟨gs, cs, q, n, h1, h2, h3, h4, h5, h6, h7, h8⟩ := S.ex
  exact ⟨⟨gs, cs, q, n, h1, h2, h3, h4, h5, h6, h7, by omega⟩, S.gc, S.sg, S.sc⟩
theorem StAt.same {H H' : Hp} {st ga ca : Addr} {N : Nat} (S : StAt H st ga ca N) (h : Same H H') : StAt H' st ga ca N := by
  obtain ⟨gs, cs, q, n, h1, h2, h3, r⟩ := S.ex
  exact ⟨⟨gs, cs, q, n, h _ _ h1, h _ _ h2, h _ _ h3, r⟩, S.gc, S.sg, S.sc⟩
theorem Same.new {H : Hp} {p : Addr} {o : HO} (h : H p = none) : Same H (upd H p o) := fun b u e => by rw [upd_ne (ne_of_none e h)]; exact e
theorem pick {ns : List Int} {r : Int} (h0 : 0 ≤ r) (h1 : r < ns.length) : ∃ v, v ∈ ns ∧ atI (ns.map V.int) r = some (.int v) := by
  obtain ⟨j, rfl⟩ : ∃ j : Nat, r = (j : Int) := ⟨r.toNat, by omega⟩
  have hj : j < ns.length := by omega
  exact ⟨ns[j], List.getElem_mem hj, atI_nat (by rw [List.getElem?_map, List.getElem?_eq_getElem hj]; rfl)⟩
theorem Keep.at {S : List Addr} {H H' : Hp} (k : Keep S H H') {b : Addr} {o : HO} (h : H b = some o) (n : b ∉ S) : H' b = some o := k b o h n
theorem Keep.free {S : List Addr} {H H' : Hp} (k : Keep S H H') {b : Addr} (h : H' b = none) (n : b ∉ S) : H b = none := by
  cases q : H b with
  | none => rfl
  | some o => rw [k b o q n] at h; cases h
theorem map_at {ns : List Int} {i : Nat} {x : V} (h : (ns.map V.int)[i]? = some x) : ∃ z, ns[i]? = some z ∧ x = .int z := by
  rw [List.getElem?_map] at h
  cases hn : ns[i]? with
  | none => rw [hn] at h; cases h
  | some z => rw [hn] at h; exact ⟨z, rfl, (Option.some.inj h).symm⟩
/-- one heap lies in another -/
def lies (ns ms : List Int) : Bool := ns.all fun x => decide (ns.count x ≤ ms.count x)
end L2

set_option Elab.async false
set_option linter.all false
set_option maxRecDepth 100000
namespace L2
open PySem PySem.Spec PyProof.Rows

/-! ### == and != of tuples and lists, whatever they hold -/
/-- the values of a tuple, of a list -/
inductive All2 {α : Type} (R : α → V → Hp → Prop) (H : Hp) : List α → List V → Prop
  | nil : All2 R H [] []
  | cons {a : α} {v : V} {l : List α} {xs : List V} : R a v H → All2 R H l xs → All2 R H (a :: l) (v :: xs)
theorem All2.length {α : Type} {R : α → V → Hp → Prop} {H : Hp} : ∀ {l : List α} {xs : List V}, All2 R H l xs → l.length = xs.length
  | _, _, .nil => rfl
  | _, _, .cons _ t => by simp [t.length]
theorem All2.get {α : Type} {R : α → V → Hp → Prop} {H : Hp} : ∀ {l : List α} {xs : List V} {i : Nat} {x : V}, All2 R H l xs → xs[i]? = some x → ∃ a, l[i]? = some a ∧ R a x H
  | _, _, _, _, .nil, e => by simp at e
  | _, _, 0, _, .cons r _, e => by simp at e; subst e; exact ⟨_, rfl, r⟩
  | _, _, i + 1, x, .cons _ t, e => by
    obtain ⟨u, h1, h2⟩ := All2.get (i := i) (x := x) t (by simpa using e)
    exact ⟨u, by simpa using h1, h2⟩
theorem All2.append {α : Type} {R : α → V → Hp → Prop} {H : Hp} : ∀ {l l' : List α} {xs xs' : List V}, All2 R H l xs → All2 R H l' xs' → All2 R H (l ++ l') (xs ++ xs')
  | _, _, _, _, .nil, s => s
  | _, _, _, _, .cons r t, s => .cons r (t.append s)
theorem All2.imp {α : Type} {R : α → V → Hp → Prop} {H H' : Hp} (f : ∀ a v, R a v H → R a v H') : ∀ {l : List α} {xs : List V}, All2 R H l xs → All2 R H' l xs
  | _, _, .nil => .nil
  | _, _, .cons r t => .cons (f _ _ r) (t.imp f)
section
variable {X : Cx}
variable {α : Type} [DecidableEq α] {R : α → V → Hp → Prop} {n : Nat}
end
end L2
namespace L2
open PySem PySem.Spec PyProof.Rows
theorem huR {A : Around} {k n : Nat} {cm : Bool} (hr : Room k A cm) (h : n ≤ 64 := by decide) : A.units + n < cLine := Nat.lt_of_le_of_lt (Nat.add_le_add_left h _) hr.units
end L2
namespace HT
open PySem PySem.Spec PyProof.Rows
section
variable {prog : Program} {w : World} {A : Around} {E : Value → Shared → Prop} {s : Shared}
theorem getItem_tuple_whole {t sl : Addr} {items : Array Value} {vl vu : Value} {lo hi : Option Int} {Q : Value → Shared → Prop} (ht : IsTup s.heap t items) (hs : s.heap.IsSliceOf sl vl vu .none) (pl : IsPart vl lo) (pu : IsPart vu hi)
    (hw : sIx items.size 0 lo = 0 ∧ sIx items.size items.size hi = items.size) (h : Q (.ref t) s) : wpAny (model prog w) A (getItem (.ref t) (.ref sl)) Q E s := by
  obtain ⟨os, hos, hcs, hds⟩ := id hs
  have hTs : s.TypeIs (.ref sl) "slice" := ⟨os, hos, hcs⟩
  unfold getItem
  try with_reducible refine wpAny_holding ?_
  first | refine wpAny_bind (wpAny_pure ?_) | skip
  refine wpAny_bind (wpAny_sequenceKey ht.typeIs (by decide) ?_)
  refine wpAny_bind (wpAny_callSpecial?_slot (name := Str.ofString "__getitem__") ht.typeIs PyProof.Rows.slot_tuple_getitem
    (wpAny_call_entry PyProof.Rows.slot_tuple_getitem ht.typeIs entry_tuple_getitem ?_ (args_tuple_getitem _ _)))
  show wpAny _ _ (Builtin.Tuple.tupleItemsOf (.ref t) >>= _) _ _ s
  refine wpAny_bind (tupleItemsOf_ ht ?_)
  refine wpAny_bind (wpAny_typeOf hTs ?_)
  rw [if_pos (by decide)]
  refine wpAny_bind (sliceApplied_gen hs pl pu ?_)
  have hyes : (((sIx items.size 0 lo : Nat) : Int) == 0 && (1 : Int) == 1 && (sIx items.size items.size hi - sIx items.size 0 lo) == items.size) = true := by
    rw [hw.1, hw.2]; simp
  show wpAny _ _ (if (((sIx items.size 0 lo : Nat) : Int) == 0 && (1 : Int) == 1 && (sIx items.size items.size hi - sIx items.size 0 lo) == items.size) = true then _ else _) _ _ s
  rw [if_pos hyes]
  refine wpAny_bind ?_
  unfold Builtin.Tuple.tupleIsExact
  refine wpAny_bind (wpAny_typeOf ht.typeIs (wpAny_pure ?_))
  rw [if_pos (by decide)]
  first
    | exact wpAny_bind (wpAny_rule (wpAny_bind (wpAny_pure (wpAny_pure ⟨_, rfl, wpAny_pure h⟩))))
    | exact wpAny_bind (wpAny_rule (wpAny_pure ⟨_, rfl, wpAny_pure h⟩))
end
end HT
namespace L2
open PySem PySem.Spec PyProof.Rows
section
variable {X : Cx}
theorem sl_tupW : SlR X (fun x lo hi H Q => ∃ a xs, x = .ref a ∧ SqT X.K H a xs ∧ (HT.sIx xs.length 0 lo = 0 ∧ HT.sIx xs.length xs.length hi = xs.length) ∧ Q (.ref a) H) := by
  intro pins s σ H x v vl vu lo hi sl Q I rx hs pl pu h
  obtain ⟨a, xs, rfl, hx, hw, q⟩ := h
  cases rx
  obtain ⟨its, r, ht, hz⟩ := I.tuple hx
  have hlen : its.toArray.size = xs.length := by rw [List.size_toArray]; exact r.length.symm
  refine ⟨"tuple", _, PyProof.Rows.slot_tuple_getitem.lookup, ht.typeIs, ?_⟩
  exact HT.getItem_tuple_whole ht hs pl pu (by rw [hlen]; exact hw) ⟨.ref a, H, I, rfl, q⟩
/-- t[lo:hi], the whole one or a new one -/
def rSlTA (K : PySem.W.Frag) : V → Option Int → Option Int → Hp → VK → Prop := fun x lo hi H Q => (∃ a xs, x = .ref a ∧ SqT K H a xs ∧ (HT.sIx xs.length 0 lo = 0 ∧ HT.sIx xs.length xs.length hi = xs.length) ∧ Q (.ref a) H) ∨ rSlT K x lo hi H Q
theorem sl_tupA : SlR X (rSlTA X.K) := sl_tupW.or sl_tup
end
end L2

set_option Elab.async false
set_option linter.all false
set_option maxRecDepth 100000
namespace HT
open PySem PySem.Spec PyProof.Rows
section
open PySem.SeqAt
open PySem.AutoSeq1 (wpAny_loadPart')
open PySem.MeetsSeq PySem.MeetsSeq2 PySem.MeetsSeq3
end

section
variable {prog : Program} {w : World} {A : Around} {E : Value → Shared → Prop} {s : Shared}

end
end HT
namespace L2
open PySem PySem.Spec PyProof.Rows
section
variable {X : Cx}
/-! ### texts -/
/-! ### a loop over a text's signs -/
end
end L2

set_option Elab.async false
set_option linter.all false
set_option maxRecDepth 100000
namespace L2
open PySem PySem.Spec PyProof.Rows
section
variable {X : Cx} {tg : Expr}
end
section
variable {X : Cx}
/-- all(list of truths) -/
theorem call_all_bools (hc : X.calm = true) : CallR X (.builtin "all") (fun xs H Q => ∃ (a : Addr) (bs : List Bool), xs = [.ref a] ∧ SqL X.K H a (bs.map V.bl) ∧ Q (.bl (bs.all id)) H) := by
  intro pins s σ H xs us Q I r h
  obtain ⟨a, bs, rfl, hq, q⟩ := h
  obtain ⟨u, rfl, ru⟩ := vals1 r
  cases ru
  have hh : X.A.in1.handled = none := I.ok.hd hc
  obtain ⟨its, r', pl, hz⟩ := I.list hq
  have hl := r'.length
  rw [List.length_map] at hl
  have hlt : a < s.heap.objs.size := by obtain ⟨_, e, _⟩ := pl.isList; exact Heap.lt_size e
  refine call_all_walk (wpAny_pyIter_list pl.isList ⟨_, _, _, _, _, _, fun i => bs.getD i false, rfl, Walks.list (A := X.A.in1) hh _ a (Nat.ne_of_lt hlt) its.toArray, ⟨⟨_, Heap.get?_push_size _ rfl, rfl, rfl⟩, pl.isList.push _⟩, ?_, fun h' tk hk => ?_⟩)
  · intro i v s' Q' E' hv hQ
    have hv' : its[i]? = some v := by simpa using hv
    have hi : i < bs.length := by have := (List.getElem?_eq_some_iff.mp hv').1; omega
    have hx : (bs.map V.bl)[i]? = some (V.bl (bs.getD i false)) := by simp [hi]
    obtain ⟨u, hu, ru⟩ := r'.get hx
    rw [hv'] at hu
    cases hu
    cases ru
    exact wpAny_truthy_bool hQ
  · have e : (List.range its.toArray.size).all (fun i => bs.getD i false) = bs.all id := by
      rw [List.size_toArray, ← hl, Bool.eq_iff_iff]
      simp only [List.all_eq_true, List.mem_range, id]
      constructor
      · intro h b hb
        obtain ⟨i, hi, rfl⟩ := List.mem_iff_getElem.mp hb
        have := h i hi
        simpa [hi] using this
      · intro h i hi
        have := h bs[i] (List.getElem_mem hi)
        simpa [hi] using this
    rw [e]
    exact ⟨.bl _, H, I.kept fun b o e => hk b o (by simpa using Nat.ne_of_lt (Heap.lt_size e)) (Heap.get?_push_of_some _ e), rfl, q⟩
end
end L2

set_option Elab.async false
set_option linter.all false
set_option maxRecDepth 100000
namespace L2
open PySem PySem.Spec PyProof.Rows PySem.NumText PySem.Calls
/-! ### numbers written -/
/-! ### joined and split by one sign -/
end L2

set_option Elab.async false
set_option linter.all false
set_option maxRecDepth 100000
namespace L2
open PySem PySem.Spec PyProof.Rows PySem.NumText
end L2

set_option Elab.async false
set_option linter.all false
set_option maxRecDepth 100000
namespace L2
open PySem PySem.Spec PyProof.Rows

/-! ### the stations of a flight, with the exception's own dict kept in sight -/
section
variable {M : Model} {A : Around} {E : Value → Shared → Prop} {s : Shared} {base : Heap} {env : Env} {outer : List Env} {L e : Addr} {C : Value} {dd : Option Addr} {Q : Unit → Shared → Prop}
end
/-! ### exceptions: how one lies behind a call, and within a body -/
section
variable {X : Cx} {outer : List Env}
end
end L2

set_option Elab.async false
set_option linter.all false
set_option maxRecDepth 100000
namespace L2
open PySem PySem.Spec PyProof.Rows

section
variable {P : Program} {w : World} {K : PySem.W.Frag} {mg : Str → Option Value} {base : Heap}
end
/-! ### raise -/
end L2

set_option Elab.async false
set_option linter.all false
set_option maxRecDepth 100000
namespace L2
open PySem PySem.Spec PyProof.Rows

/-! ### an exception that has landed: noted here, its flight ended -/
section
variable {X : Cx} {pins : List (Addr × Obj)} {σ : St} {H H' : Hp} {s s3 : Shared} {e : Addr} {C : Value} {dd : Option Addr}
end

/-! ### within the suite: the exception is marked -/
section
variable {X : Cx} {pins : List (Addr × Obj)} {σ : St} {H : Hp} {s : Shared} {e : Addr}
end
end L2

set_option Elab.async false
set_option linter.all false
set_option maxRecDepth 100000
namespace L2
open PySem PySem.Spec PyProof.Rows PySem.W PySem.Calls PySem.Builtin PySem.Builtin.ObjectAttr PySem.Builtin.Getset_descriptor

/-! ### isinstance of an exception: only its class is known -/
/-! ### which classes an except clause takes -/
end L2

set_option Elab.async false
set_option linter.all false
set_option maxRecDepth 100000
namespace L2
open PySem PySem.Spec PyProof.Rows PySem.W

/-! ### try: f(..) except S as n: suite -/
section
variable {X : Cx} {k : Nat} {f : Addr} {fd : FuncData} {ps : List Str} {sp : Sp} {dvs : List V} {ds : List Value} {x : Str} {p pos : Pos} {e : Expr} {es : List Expr} {t : TA} {cm : Bool}
end
end L2

set_option Elab.async false
set_option linter.all false
set_option maxRecDepth 100000
namespace L2
open PySem PySem.Spec PyProof.Rows PySem.W
end L2

set_option Elab.async false
set_option linter.all false
set_option maxRecDepth 100000
namespace L2
open PySem PySem.Spec PyProof.Rows

/-! ### zip(a, b) walked by a tuple target -/
def itName : Bool → String
  | true => "tuple_iterator"
  | false => "list_iterator"
/-- an iterator over a tuple (k = true) or a list -/
def IterAt (k : Bool) (h : Heap) (it l : Addr) (i : Nat) : Prop := ∃ o, h.get? it = some o ∧ o.cls = .type (itName k) ∧ o.data = .fields #[.ref l, .int i 0]
def SeqIs (k : Bool) (h : Heap) (l : Addr) (items : Array Value) : Prop :=
  match k with
  | true => h.IsTuple l items
  | false => h.IsList l items
theorem IterAt.kept {k : Bool} {h h' : Heap} {it l : Addr} {i : Nat} (x : IterAt k h it l i) (f : ∀ o, h.get? it = some o → h'.get? it = some o) : IterAt k h' it l i :=
  let ⟨o, e, r⟩ := x; ⟨o, f o e, r⟩
theorem IterAt.lt {k : Bool} {h : Heap} {it l : Addr} {i : Nat} (x : IterAt k h it l i) : it < h.objs.size := let ⟨_, e, _⟩ := x; Heap.lt_size e
theorem SeqIs.kept {k : Bool} {h h' : Heap} {l : Addr} {items : Array Value} (x : SeqIs k h l items) (f : ∀ o, h.get? l = some o → h'.get? l = some o) : SeqIs k h' l items := by
  cases k
  · obtain ⟨o, e, r⟩ := x; exact ⟨o, f o e, r⟩
  · obtain ⟨o, e, r⟩ := x; exact ⟨o, f o e, r⟩
theorem SeqIs.lt {k : Bool} {h : Heap} {l : Addr} {items : Array Value} (x : SeqIs k h l items) : l < h.objs.size := by
  cases k
  · obtain ⟨o, e, _⟩ := x; exact Heap.lt_size e
  · obtain ⟨o, e, _⟩ := x; exact Heap.lt_size e
section
variable {prog : Program} {w : World} {A : Around} {E : Value → Shared → Prop} {s : Shared}
theorem nextOf_tup {it l : Addr} {i : Nat} {items : Array Value} {Q : Value → Shared → Prop} (hit : s.heap.IsTupleIter it l i) (ht : s.heap.IsTuple l items)
    (h : match items[i]? with
      | some x => ∀ h', h'.IsTupleIter it l (i + 1) → Heap.SameBut it s.heap h' → Q x { s with heap := h' }
      | none => A.handled = none ∧ ∀ h' e, Heap.ExtBut it s.heap h' → (∃ o, h'.get? e = some o ∧ o.cls = .type "StopIteration") → E (.ref e) { s with heap := h' }) :
    wpAny (model prog w) A (Builtin.SmallTypes.nextOf (.ref it)) Q E s := by
  obtain ⟨oi, e1, c1, d1⟩ := id hit
  obtain ⟨ot, e2, _, m2, d2⟩ := ht
  unfold Builtin.SmallTypes.nextOf
  refine wpAny_bind (wpAny_callSpecial?_slot (name := Str.ofString "__next__") hit.typeIs F.slot_tuple_iterator_next (wpAny_call_entry F.slot_tuple_iterator_next hit.typeIs F.entry_tuple_iterator_next ?_ (F.args_tuple_iterator_next_1 _)))
  show wpAny _ _ (field (.ref it) 0 >>= _) _ _ s
  refine wpAny_bind (wpAny_field e1 d1 (x := .ref l) rfl ?_)
  show wpAny _ _ (if (Value.ref l == Value.none) = true then _ else _) _ _ s
  rw [if_neg (show ¬ ((Value.ref l == Value.none) = true) from Bool.false_ne_true)]
  show wpAny _ _ (field (.ref it) 1 >>= _) _ _ s
  refine wpAny_bind (wpAny_field e1 d1 (x := .int i 0) rfl ?_)
  show wpAny _ _ (seqItems? (.ref l) >>= _) _ _ s
  refine wpAny_bind (wpAny_seqItems e2 d2 ?_)
  cases hx : items[i]? with
  | some x =>
    rw [hx] at h
    simp only [Int.toNat_natCast, hx]
    refine wpAny_bind (wpAny_setField e1 d1 (by simp) (wpAny_pure ⟨x, rfl, wpAny_pure (h _ ?_ (Heap.SameBut.update ..))⟩))
    refine ⟨_, Heap.get?_update_self _ e1 (Obj.isFreed_of_fields (Obj.data_mapFields d1 _)), (Obj.cls_mapFields ..).trans c1, ?_⟩
    rw [Obj.data_mapFields d1]
    simp [rawInt]
  | none =>
    rw [hx] at h
    obtain ⟨hh, h⟩ := h
    simp only [Int.toNat_natCast, hx]
    refine wpAny_bind (wpAny_rule (wpAny_bind (wpAny_setField e1 d1 (by simp) ?_)))
    show wpAny _ _ (newExc (.type "StopIteration") [] >>= _) _ _ _
    refine wpAny_bind ?_
    simp only [newExc, newTuple]
    refine wpAny_bind (wpAny_newObj_type ?_ (by size_fits))
    refine wpAny_bind (m := firstArgMember _ _) (wpAny_of_eq (a := Value.none) (by first | rfl | (simp only [firstArgMember]; rfl)) ?_)
    refine wpAny_newObj_type ?_ (by size_fits)
    simp only [raiseNew]
    refine wpAny_bind (wpAny_handled ?_)
    first | rw [show A.in1.handled = none from hh] | rw [hh]
    exact wpAny_bind (wpAny_pure (wpAny_throw (h _ _ (((Heap.SameBut.update ..).extBut.push _).push _) ⟨_, Heap.get?_push_size _ rfl, rfl⟩)))
/-- the next one of a list's or tuple's iterator -/
theorem nextS {k : Bool} {it l : Addr} {i : Nat} {items : Array Value} {x : Value} {Q : Value → Shared → Prop} (hit : IterAt k s.heap it l i) (hl : SeqIs k s.heap l items) (hx : items[i]? = some x)
    (hQ : ∀ h', IterAt k h' it l (i + 1) → Heap.SameBut it s.heap h' → Q x { s with heap := h' }) : wpAny (model prog w) A (Builtin.SmallTypes.nextOf (.ref it)) Q E s := by
  cases k
  · exact wpAny_nextOf_list_item hit hl hx hQ
  · exact nextOf_tup hit hl (by rw [hx]; exact hQ)
theorem endS {k : Bool} {it l : Addr} {i : Nat} {items : Array Value} {Q : Value → Shared → Prop} (hh : A.handled = none) (hit : IterAt k s.heap it l i) (hl : SeqIs k s.heap l items) (hx : items[i]? = none)
    (hE : ∀ h' e, Heap.ExtBut it s.heap h' → (∃ o, h'.get? e = some o ∧ o.cls = .type "StopIteration") → E (.ref e) { s with heap := h' }) : wpAny (model prog w) A (Builtin.SmallTypes.nextOf (.ref it)) Q E s := by
  cases k
  · exact wpAny_nextOf_list_end hh hit hl hx hE
  · exact nextOf_tup hit hl (by rw [hx]; exact ⟨hh, hE⟩)
theorem pyIterS {k : Bool} {l : Addr} {items : Array Value} {Q : Value → Shared → Prop} (hl : SeqIs k s.heap l items)
    (hQ : Q (.ref s.heap.objs.size) { s with heap := s.heap.push { cls := .type (itName k), data := .fields #[.ref l, .int 0 0] } }) : wpAny (model prog w) A (pyIter (.ref l)) Q E s := by
  cases k
  · exact wpAny_pyIter_list hl hQ
  · exact wpAny_pyIter_tuple hl hQ

/-- the zip object, its two tuples, its two iterators -/
structure ZipAt (k1 k2 : Bool) (h : Heap) (z TI TO i1 i2 l1 l2 : Addr) (f0 : Value) (j1 j2 : Nat) : Prop where
  zz : IsZip h z TI TO f0
  ti : IsPair h TI (.ref i1) (.ref i2)
  tO : ∃ a b, IsPair h TO a b
  a1 : IterAt k1 h i1 l1 j1
  a2 : IterAt k2 h i2 l2 j2
theorem ZipAt.kept {k1 k2 : Bool} {h h' : Heap} {z TI TO i1 i2 l1 l2 : Addr} {f0 : Value} {j1 j2 : Nat} (x : ZipAt k1 k2 h z TI TO i1 i2 l1 l2 f0 j1 j2) (f : ∀ b ∈ [z, TI, TO, i1, i2], ∀ o, h.get? b = some o → h'.get? b = some o) :
    ZipAt k1 k2 h' z TI TO i1 i2 l1 l2 f0 j1 j2 := by
  obtain ⟨a, b, ⟨c, d, e⟩, p, q⟩ := x
  exact ⟨f z (by simp) _ a, f TI (by simp) _ b, ⟨c, d, f TO (by simp) _ e⟩, p.kept (f i1 (by simp)), q.kept (f i2 (by simp))⟩
theorem zip_item {k1 k2 : Bool} {z TI TO i1 i2 l1 l2 : Addr} {j1 j2 : Nat} {xs ys : Array Value} {x y : Value} {Q : Value → Shared → Prop} (D : ZipApart z TI TO i1 i2 l1 l2) (Z : ZipAt k1 k2 s.heap z TI TO i1 i2 l1 l2 .none j1 j2)
    (b1 : SeqIs k1 s.heap l1 xs) (b2 : SeqIs k2 s.heap l2 ys) (hx : xs[j1]? = some x) (hy : ys[j2]? = some y)
    (hQ : ∀ h', ZipAt k1 k2 h' z TI TO i1 i2 l1 l2 (rawInt s.heap.objs.size) (j1 + 1) (j2 + 1) → IsPair h' s.heap.objs.size x y → (∀ c o, c ∉ [z, TO, i1, i2] → s.heap.get? c = some o → h'.get? c = some o) → Q (.ref s.heap.objs.size) { s with heap := h' }) :
    wpAny (model prog w) A (Builtin.«zip.__next__» ⟨[.ref z], []⟩) (fun fin s' => ∃ v, fin = .done (.ret v) ∧ Q v s') E s := by
  obtain ⟨g0, g1, ⟨oa, ob, g2⟩, p1, p2⟩ := Z
  show wpAny _ _ (field (.ref z) 2 >>= _) _ _ _
  refine wpAny_bind (wpAny_field g0 rfl (x := .bool false) rfl ?_)
  show wpAny _ _ (field (.ref z) 3 >>= _) _ _ _
  refine wpAny_bind (wpAny_field g0 rfl (x := .ref TI) rfl ?_)
  refine wpAny_bind (wpAny_seqItems g1 rfl ?_)
  show wpAny _ _ (Builtin.SmallTypes.ownedTupleIsFree (.ref z) >>= _) _ _ _
  refine wpAny_bind ?_
  unfold Builtin.SmallTypes.ownedTupleIsFree
  refine wpAny_bind (wpAny_field g0 rfl (x := .none) rfl (wpAny_pure ?_))
  simp only [if_true]
  refine wpAny_bind (wpAny_rule ?_)
  refine wpAny_bind (wpAny_field g0 rfl (x := .ref TO) rfl ?_)
  refine wpAny_bind (wpAny_setField_rec g0 (by simp) fun ha za sa => ?_)
  replace za : IsZip ha z TI TO .ellipsis := za
  refine wpAny_bind ?_
  simp only [List.zipIdx_cons, List.zipIdx_nil, List.forIn_cons, List.forIn_nil]
  refine wpAny_bind (wpAny_bind (wpAny_onRaise ?_))
  show wpAny _ _ (Builtin.SmallTypes.nextOf (.ref i1) >>= _) _ _ _
  refine wpAny_bind (nextS (p1.kept fun o e => sa.extBut _ _ D.i1z e) (b1.kept fun o e => sa.extBut _ _ D.l1z e) hx fun hb p1b sb => wpAny_pure ?_)
  have t2 : IsPair hb TO oa ob := sb.extBut _ _ D.TOi1 (sa.extBut _ _ D.TOz g2)
  refine wpAny_bind (wpAny_seqItems t2 rfl ?_)
  refine wpAny_bind (wpAny_updateSeq_pair t2 fun hc t3 sc => ?_)
  replace t3 : IsPair hc TO x ob := t3
  refine wpAny_bind (wpAny_letGo (wpAny_pure ?_))
  refine wpAny_bind (wpAny_bind (wpAny_onRaise ?_))
  show wpAny _ _ (Builtin.SmallTypes.nextOf (.ref i2) >>= _) _ _ _
  refine wpAny_bind (nextS (p2.kept fun o e => sc.extBut _ _ D.TOi2.symm (sb.extBut _ _ D.i12.symm (sa.extBut _ _ D.i2z e))) (b2.kept fun o e => sc.extBut _ _ D.l2TO (sb.extBut _ _ D.l2i1 (sa.extBut _ _ D.l2z e))) hy fun hd p2d sd => wpAny_pure ?_)
  have t4 : IsPair hd TO x ob := sd.extBut _ _ D.TOi2 t3
  refine wpAny_bind (wpAny_seqItems t4 rfl ?_)
  refine wpAny_bind (wpAny_updateSeq_pair t4 fun he t5 se => ?_)
  replace t5 : IsPair he TO x y := t5
  refine wpAny_bind (wpAny_letGo (wpAny_pure (wpAny_pure ?_)))
  refine wpAny_bind (wpAny_seqItems t5 rfl ?_)
  refine wpAny_bind (wpAny_newTuple ?_)
  have size : he.objs.size = s.heap.objs.size := by rw [se.1, sd.1, sc.1, sb.1, sa.1]
  have ze : IsZip he z TI TO .ellipsis := se.extBut _ _ D.TOz.symm (sd.extBut _ _ D.i2z.symm (sc.extBut _ _ D.TOz.symm (sb.extBut _ _ D.i1z.symm za)))
  have ke : ∀ c o, c ∉ [z, TO, i1, i2] → s.heap.get? c = some o → he.get? c = some o := fun c o n e => by
    simp only [List.mem_cons, List.not_mem_nil, or_false, not_or] at n
    exact se.extBut _ _ n.2.1 (sd.extBut _ _ n.2.2.2 (sc.extBut _ _ n.2.1 (sb.extBut _ _ n.2.2.1 (sa.extBut _ _ n.1 e))))
  have q1 : IterAt k1 he i1 l1 (j1 + 1) := p1b.kept fun o e => se.extBut _ _ D.TOi1.symm (sd.extBut _ _ D.i12 (sc.extBut _ _ D.TOi1.symm e))
  have q2 : IterAt k2 he i2 l2 (j2 + 1) := p2d.kept fun o e => se.extBut _ _ D.TOi2.symm e
  have tie : IsPair he TI (.ref i1) (.ref i2) := se.extBut _ _ D.TITO (sd.extBut _ _ D.TIi2 (sc.extBut _ _ D.TITO (sb.extBut _ _ D.TIi1 (sa.extBut _ _ D.TIz g1))))
  have zlt : z < he.objs.size := Heap.lt_size ze
  show wpAny _ _ (Builtin.SmallTypes.ownedTupleHandOut (.ref z) (.ref he.objs.size) >>= _) _ _ _
  refine wpAny_bind ?_
  unfold Builtin.SmallTypes.ownedTupleHandOut
  have zf : IsZip (he.push { cls := .type "tuple", data := .seq #[x, y] }) z TI TO .ellipsis := Heap.get?_push_of_some _ ze
  refine wpAny_bind (wpAny_setField_rec zf (by simp) fun hg zg sg => ?_)
  replace zg : IsZip hg z TI TO (rawInt he.objs.size) := zg
  refine wpAny_setField_rec zg (by simp) fun hn zn sn => ?_
  replace zn : IsZip hn z TI TO (rawInt he.objs.size) := zn
  have up : ∀ c o, c ≠ z → he.get? c = some o → hn.get? c = some o := fun c o n e => sn.extBut _ _ n (sg.extBut _ _ n (Heap.get?_push_of_some _ e))
  have tn : IsPair hn he.objs.size x y := sn.extBut _ _ (Nat.ne_of_gt zlt) (sg.extBut _ _ (Nat.ne_of_gt zlt) (Heap.get?_push_size _ rfl))
  rw [size] at zn tn
  refine wpAny_pure ⟨_, rfl, ?_⟩
  show Q (.ref he.objs.size) _
  rw [size]
  refine hQ hn ⟨zn, up _ _ D.TIz tie, ⟨_, _, up _ _ D.TOz t5⟩, q1.kept fun o e => up _ _ D.i1z e, q2.kept fun o e => up _ _ D.i2z e⟩ tn fun c o n e => up c o (fun z => n (by simp [z])) (ke c o n e)
theorem zip_end {k1 k2 : Bool} {z TI TO i1 i2 l1 l2 : Addr} {j1 j2 : Nat} {xs ys : Array Value} {Q : Fin → Shared → Prop} (hh : A.handled = none) (D : ZipApart z TI TO i1 i2 l1 l2) (Z : ZipAt k1 k2 s.heap z TI TO i1 i2 l1 l2 .none j1 j2)
    (b1 : SeqIs k1 s.heap l1 xs) (b2 : SeqIs k2 s.heap l2 ys) (hend : xs[j1]? = none ∨ ys[j2]? = none)
    (hE : ∀ h' e, (∀ c o, c ∉ [z, TO, i1, i2] → s.heap.get? c = some o → h'.get? c = some o) → (∃ o, h'.get? e = some o ∧ o.cls = .type "StopIteration") → E (.ref e) { s with heap := h' }) :
    wpAny (model prog w) A (Builtin.«zip.__next__» ⟨[.ref z], []⟩) Q E s := by
  obtain ⟨g0, g1, ⟨oa, ob, g2⟩, p1, p2⟩ := Z
  show wpAny _ _ (field (.ref z) 2 >>= _) _ _ _
  refine wpAny_bind (wpAny_field g0 rfl (x := .bool false) rfl ?_)
  show wpAny _ _ (field (.ref z) 3 >>= _) _ _ _
  refine wpAny_bind (wpAny_field g0 rfl (x := .ref TI) rfl ?_)
  refine wpAny_bind (wpAny_seqItems g1 rfl ?_)
  show wpAny _ _ (Builtin.SmallTypes.ownedTupleIsFree (.ref z) >>= _) _ _ _
  refine wpAny_bind ?_
  unfold Builtin.SmallTypes.ownedTupleIsFree
  refine wpAny_bind (wpAny_field g0 rfl (x := .none) rfl (wpAny_pure ?_))
  simp only [if_true]
  refine wpAny_bind (wpAny_rule ?_)
  refine wpAny_bind (wpAny_field g0 rfl (x := .ref TO) rfl ?_)
  refine wpAny_bind (wpAny_setField_rec g0 (by simp) fun ha za sa => ?_)
  replace za : IsZip ha z TI TO .ellipsis := za
  refine wpAny_bind ?_
  simp only [List.zipIdx_cons, List.zipIdx_nil, List.forIn_cons, List.forIn_nil]
  refine wpAny_bind (wpAny_bind (wpAny_onRaise ?_))
  show wpAny _ _ (Builtin.SmallTypes.nextOf (.ref i1) >>= _) _ _ _
  cases hx : xs[j1]? with
  | none =>
    refine wpAny_bind (endS hh (p1.kept fun o e => sa.extBut _ _ D.i1z e) (b1.kept fun o e => sa.extBut _ _ D.l1z e) hx fun hb e sb te => ?_)
    obtain ⟨oe, e1, e2⟩ := te
    have zb : IsZip hb z TI TO .ellipsis := sb _ _ D.i1z.symm za
    have nez : e ≠ z := fun q => by subst q; rw [zb] at e1; cases e1; simp at e2
    refine wpAny_setField_rec zb (by simp) fun hc _ sc => hE hc e (fun c o n q => ?_) ⟨oe, sc.extBut _ _ nez e1, e2⟩
    simp only [List.mem_cons, List.not_mem_nil, or_false, not_or] at n
    exact sc.extBut _ _ n.1 (sb _ _ n.2.2.1 (sa.extBut _ _ n.1 q))
  | some x =>
    have hy : ys[j2]? = none := hend.resolve_left (by rw [hx]; intro q; cases q)
    refine wpAny_bind (nextS (p1.kept fun o e => sa.extBut _ _ D.i1z e) (b1.kept fun o e => sa.extBut _ _ D.l1z e) hx fun hb p1b sb => wpAny_pure ?_)
    have t2 : IsPair hb TO oa ob := sb.extBut _ _ D.TOi1 (sa.extBut _ _ D.TOz g2)
    refine wpAny_bind (wpAny_seqItems t2 rfl ?_)
    refine wpAny_bind (wpAny_updateSeq_pair t2 fun hc t3 sc => ?_)
    refine wpAny_bind (wpAny_letGo (wpAny_pure ?_))
    refine wpAny_bind (wpAny_bind (wpAny_onRaise ?_))
    show wpAny _ _ (Builtin.SmallTypes.nextOf (.ref i2) >>= _) _ _ _
    refine wpAny_bind (endS hh (p2.kept fun o e => sc.extBut _ _ D.TOi2.symm (sb.extBut _ _ D.i12.symm (sa.extBut _ _ D.i2z e))) (b2.kept fun o e => sc.extBut _ _ D.l2TO (sb.extBut _ _ D.l2i1 (sa.extBut _ _ D.l2z e))) hy fun hd e sd te => ?_)
    obtain ⟨oe, e1, e2⟩ := te
    have zd : IsZip hd z TI TO .ellipsis := sd _ _ D.i2z.symm (sc.extBut _ _ D.TOz.symm (sb.extBut _ _ D.i1z.symm za))
    have nez : e ≠ z := fun q => by subst q; rw [zd] at e1; cases e1; simp at e2
    refine wpAny_setField_rec zd (by simp) fun he _ se => hE he e (fun c o n q => ?_) ⟨oe, se.extBut _ _ nez e1, e2⟩
    simp only [List.mem_cons, List.not_mem_nil, or_false, not_or] at n
    exact se.extBut _ _ n.1 (sd _ _ n.2.2.2 (sc.extBut _ _ n.2.1 (sb.extBut _ _ n.2.2.1 (sa.extBut _ _ n.1 q))))
theorem pyNext_zip {k1 k2 : Bool} {z TI TO i1 i2 l1 l2 : Addr} {j1 j2 : Nat} {xs ys : Array Value} {x y : Value} {Q : Option Value → Shared → Prop} (D : ZipApart z TI TO i1 i2 l1 l2) (Z : ZipAt k1 k2 s.heap z TI TO i1 i2 l1 l2 .none j1 j2)
    (b1 : SeqIs k1 s.heap l1 xs) (b2 : SeqIs k2 s.heap l2 ys) (hx : xs[j1]? = some x) (hy : ys[j2]? = some y)
    (hQ : ∀ h', ZipAt k1 k2 h' z TI TO i1 i2 l1 l2 (rawInt s.heap.objs.size) (j1 + 1) (j2 + 1) → IsPair h' s.heap.objs.size x y → (∀ c o, c ∉ [z, TO, i1, i2] → s.heap.get? c = some o → h'.get? c = some o) → Q (some (.ref s.heap.objs.size)) { s with heap := h' }) :
    wpAny (model prog w) A (pyNext (.ref z)) Q E s := by
  have ty : s.TypeIs (.ref z) "zip" := ⟨_, Z.zz, rfl⟩
  unfold pyNext
  exact wpAny_bind (wpAny_attempt (wpAny_callSpecial?_slot (name := Str.ofString "__next__") ty F.slot_zip_next (wpAny_call_entry F.slot_zip_next ty F.entry_zip_next (zip_item D Z b1 b2 hx hy fun h' r1 r2 r3 => wpAny_pure (hQ h' r1 r2 r3)) (F.args_zip_next_1 _))))
theorem pyNext_zipEnd {k1 k2 : Bool} {z TI TO i1 i2 l1 l2 : Addr} {j1 j2 : Nat} {xs ys : Array Value} {Q : Option Value → Shared → Prop} (hh : A.handled = none) (D : ZipApart z TI TO i1 i2 l1 l2) (Z : ZipAt k1 k2 s.heap z TI TO i1 i2 l1 l2 .none j1 j2)
    (b1 : SeqIs k1 s.heap l1 xs) (b2 : SeqIs k2 s.heap l2 ys) (hend : xs[j1]? = none ∨ ys[j2]? = none)
    (hQ : ∀ h', (∀ c o, c ∉ [z, TO, i1, i2] → s.heap.get? c = some o → h'.get? c = some o) → Q none { s with heap := h' }) : wpAny (model prog w) A (pyNext (.ref z)) Q E s := by
  have ty : s.TypeIs (.ref z) "zip" := ⟨_, Z.zz, rfl⟩
  unfold pyNext
  refine wpAny_bind (wpAny_attempt (wpAny_callSpecial?_slot (name := Str.ofString "__next__") ty F.slot_zip_next (wpAny_call_entry F.slot_zip_next ty F.entry_zip_next (zip_end hh D Z b1 b2 hend fun h' e hk he => ?_) (F.args_zip_next_1 _))))
  obtain ⟨o, e1, e2⟩ := he
  exact wpAny_bind (wpAny_isInstance (T := "StopIteration") (b := true) ⟨o, e1, e2⟩ isSubtype_stop (wpAny_pure (hQ _ hk)))
end
def zH1 (k1 : Bool) (h : Heap) (l1 : Addr) : Heap := h.push { cls := .type (itName k1), data := .fields #[.ref l1, .int 0 0] }
def zH2 (k1 k2 : Bool) (h : Heap) (l1 l2 : Addr) : Heap := (zH1 k1 h l1).push { cls := .type (itName k2), data := .fields #[.ref l2, .int 0 0] }
def zH3 (k1 k2 : Bool) (h : Heap) (l1 l2 : Addr) : Heap := (zH2 k1 k2 h l1 l2).push { cls := .type "tuple", data := .seq #[.ref h.objs.size, .ref (zH1 k1 h l1).objs.size] }
def zH4 (k1 k2 : Bool) (h : Heap) (l1 l2 : Addr) : Heap := (zH3 k1 k2 h l1 l2).push { cls := .type "tuple", data := .seq #[.none, .none] }
def zH5 (k1 k2 : Bool) (h : Heap) (l1 l2 : Addr) : Heap := (zH4 k1 k2 h l1 l2).push { cls := .type "zip", data := .fields #[.none, .bool false, .bool false, .ref (zH2 k1 k2 h l1 l2).objs.size, .ref (zH3 k1 k2 h l1 l2).objs.size] }
theorem zip_new_meets (k1 k2 : Bool) (l1 l2 : Addr) (xs ys : Array Value) :
    Meets (Builtin.«zip.__new__» ⟨[.type "zip", .ref l1, .ref l2], []⟩) (fun _ R s => SeqIs k1 s.heap l1 xs ∧ SeqIs k2 s.heap l2 ys ∧ R (.ok (.ret (.ref (zH4 k1 k2 s.heap l1 l2).objs.size))) { s with heap := zH5 k1 k2 s.heap l1 l2 }) :=
  .of_wp fun prog w A R s h => by
    obtain ⟨hp, gn, dr, tk, os⟩ := s
    obtain ⟨q1, q2, h⟩ := h
    have hsub := sub_zip
    have r1 : SeqIs k1 (Shared.heap ⟨hp, gn, dr, tk, os⟩) l1 xs := q1
    have r2 : SeqIs k2 (Shared.heap ⟨hp.push { cls := .type (itName k1), data := .fields #[.ref l1, .int 0 0] }, gn, dr, tk, os⟩) l2 ys := SeqIs.kept q2 fun o e => Heap.get?_push_of_some _ e
    wp_walk using pyIterS r1, pyIterS r2
    exact ⟨_, rfl, h⟩
section
variable {prog : Program} {w : World} {A : Around} {E : Value → Shared → Prop} {s : Shared}
theorem call_zip {k1 k2 : Bool} {l1 l2 : Addr} {xs ys : Array Value} {Q : Value → Shared → Prop} (b1 : SeqIs k1 s.heap l1 xs) (b2 : SeqIs k2 s.heap l2 ys)
    (hQ : ∀ h', ZipAt k1 k2 h' (s.heap.objs.size + 4) (s.heap.objs.size + 2) (s.heap.objs.size + 3) s.heap.objs.size (s.heap.objs.size + 1) l1 l2 .none 0 0 → (∀ c o, s.heap.get? c = some o → h'.get? c = some o) → Q (.ref (s.heap.objs.size + 4)) { s with heap := h' }) :
    wpAny (model prog w) A (call (.type "zip") [.ref l1, .ref l2]) Q E s := by
  refine callType_new F.called_zip (by decide) (F.typeCall_zip_2 _ _) (F.newCall_zip_2 _ _) (fun obj => F.args_object_init_3 obj _ _) F.entry_zip_new (zip_new_meets k1 k2 l1 l2 xs ys) ⟨b1, b2, ?_⟩
  have n1 : (zH1 k1 s.heap l1).objs.size = s.heap.objs.size + 1 := Heap.size_push ..
  have n2 : (zH2 k1 k2 s.heap l1 l2).objs.size = s.heap.objs.size + 2 := by unfold zH2; rw [Heap.size_push, n1]
  have n3 : (zH3 k1 k2 s.heap l1 l2).objs.size = s.heap.objs.size + 3 := by unfold zH3; rw [Heap.size_push, n2]
  have n4 : (zH4 k1 k2 s.heap l1 l2).objs.size = s.heap.objs.size + 4 := by unfold zH4; rw [Heap.size_push, n3]
  have f5 : (zH5 k1 k2 s.heap l1 l2).get? (zH4 k1 k2 s.heap l1 l2).objs.size = some _ := Heap.get?_push_size _ rfl
  have f4 : (zH5 k1 k2 s.heap l1 l2).get? (zH3 k1 k2 s.heap l1 l2).objs.size = some _ := Heap.get?_push_of_some _ (Heap.get?_push_size _ rfl)
  have f3 : (zH5 k1 k2 s.heap l1 l2).get? (zH2 k1 k2 s.heap l1 l2).objs.size = some _ := Heap.get?_push_of_some _ (Heap.get?_push_of_some _ (Heap.get?_push_size _ rfl))
  have f2 : (zH5 k1 k2 s.heap l1 l2).get? (zH1 k1 s.heap l1).objs.size = some _ := Heap.get?_push_of_some _ (Heap.get?_push_of_some _ (Heap.get?_push_of_some _ (Heap.get?_push_size _ rfl)))
  have f1 : (zH5 k1 k2 s.heap l1 l2).get? s.heap.objs.size = some _ := Heap.get?_push_of_some _ (Heap.get?_push_of_some _ (Heap.get?_push_of_some _ (Heap.get?_push_of_some _ (Heap.get?_push_size _ rfl))))
  show _ ∧ _
  rw [n2, n3, n4] at f5
  rw [n1, n2] at f3
  rw [n3] at f4
  rw [n1] at f2
  rw [n4]
  exact ⟨⟨_, f5, rfl⟩, hQ _ ⟨f5, f3, ⟨_, _, f4⟩, ⟨_, f1, rfl, rfl⟩, ⟨_, f2, rfl, rfl⟩⟩ fun c o e => Heap.get?_push_of_some _ (Heap.get?_push_of_some _ (Heap.get?_push_of_some _ (Heap.get?_push_of_some _ (Heap.get?_push_of_some _ e))))⟩
end
end L2

set_option Elab.async false
set_option linter.all false
set_option maxRecDepth 100000
namespace L2
open PySem PySem.Spec PyProof.Rows
section
variable {X : Cx} {pins : List (Addr × Obj)} {σ : St} {H : Hp} {s : Shared} {h' : Heap}
/-- untracked records of ours have turned -/
theorem Inv.turnedL {t' : Nat} {ch : List Addr} (I : Inv X pins σ H s) (hf : ∀ b ∈ ch, FpOk X pins H b) (k : ∀ b o, b ∉ ch → s.heap.get? b = some o → h'.get? b = some o) : Inv X pins σ H { s with heap := h', toks := t' } := by
  have nch : ∀ b u, H b = some u → b ∉ ch := fun b u e z => by rw [(hf b z).1] at e; cases e
  refine I.step (g' := s.gens) (d' := s.drawn) (ch := ch) (fun b hb => ⟨(hf b hb).2.2.2.1, (hf b hb).2.1, (hf b hb).2.2.2.2.1, (hf b hb).2.2.2.2.2⟩) (fun b o _ _ hc e _ => k b o hc e) (fun b o _ _ hc e _ => ⟨o.slots, k b o hc e⟩) (fun _ _ _ _ n => n)
    (fun b o hc e => ⟨o, k b o hc e⟩) (fun _ _ e => e) (fun _ _ _ e => e) (fun b ps e => ⟨#[], by rw [e]; simp⟩) (fun m hm => ?_) (fun b u e => ?_) I.bare
  · obtain ⟨o, es, ep, ho, r⟩ := hm
    exact ⟨o, es, ep, k _ o (fun z => (hf _ z).2.1 rfl) ho, r⟩
  · refine (I.hok b u e).stay (fun c v hc q => k c v ?_ q) (fun _ q => q) fun _ _ q => q
    rcases hc with z | z
    · rw [z]; exact nch b u e
    · exact nch c _ z
/-- .. and a new object is laid and tracked -/
theorem Inv.turnedN {t' : Nat} {ch : List Addr} {T : Addr} {o : HO} (I : Inv X pins σ H s) (hf : ∀ b ∈ ch, FpOk X pins H b) (k : ∀ b o, b ∉ ch → s.heap.get? b = some o → h'.get? b = some o) (hT : s.heap.objs.size ≤ T)
    (new : ObjOk X.prog X.w (upd H T o) h' T o) : Inv X pins σ (upd H T o) { s with heap := h', toks := t' } := by
  have nch : ∀ b u, H b = some u → b ∉ ch := fun b u e z => by rw [(hf b z).1] at e; cases e
  have hn : H T = none := I.hok.fresh hT
  refine I.step (g' := s.gens) (d' := s.drawn) (ch := ch) (fun b hb => ⟨(hf b hb).2.2.2.1, (hf b hb).2.1, (hf b hb).2.2.2.2.1, (hf b hb).2.2.2.2.2⟩) (fun b o _ _ hc e _ => k b o hc e) (fun b o _ _ hc e _ => ⟨o.slots, k b o hc e⟩)
    (fun b u _ e n => by rw [upd_ne (Nat.ne_of_lt (Nat.lt_of_lt_of_le (Heap.lt_size e) hT))]; exact n)
    (fun b o hc e => ⟨o, k b o hc e⟩) (fun b xs e => by rw [upd_ne (ne_of_none e hn)]; exact e) (fun b u xs e => by rw [upd_ne (ne_of_none e hn)]; exact e) (fun b ps e => ⟨#[], by rw [upd_ne (ne_of_none e hn), e]; simp⟩) (fun m hm => ?_) (fun b u e => ?_) I.bare
  · obtain ⟨o, es, ep, ho, r⟩ := hm
    exact ⟨o, es, ep, k _ o (fun z => (hf _ z).2.1 rfl) ho, r⟩
  · by_cases hb : b = T
    · subst hb; rw [upd_same] at e; cases e; exact new
    · rw [upd_ne hb] at e
      refine (I.hok b u e).stay (fun c v hc q => k c v ?_ q) (fun c q => by rw [upd_ne (ne_of_none q hn)]; exact q) fun c xs q => by rw [upd_ne (ne_of_none q hn)]; exact q
      rcases hc with z | z
      · rw [z]; exact nch b u e
      · exact nch c _ z
end
/-- a list or a tuple -/
def Sq (k : Bool) (K : PySem.W.Frag) (H : Hp) (a : Addr) (xs : List V) : Prop :=
  match k with
  | true => SqT K H a xs
  | false => SqL K H a xs
theorem Inv.sq {X : Cx} {pins : List (Addr × Obj)} {σ : St} {H : Hp} {s : Shared} {k : Bool} {a : Addr} {xs : List V} (I : Inv X pins σ H s) (h : Sq k X.K H a xs) : ∃ its : List Value, Vals xs its ∧ SeqIs k s.heap a its.toArray ∧ xs.length ≤ sizeLine := by
  cases k
  · obtain ⟨its, r, p, z⟩ := I.list h
    exact ⟨its, r, p.isList, z⟩
  · exact I.tuple h
theorem Inv.sq_inj {X : Cx} {pins : List (Addr × Obj)} {σ : St} {H : Hp} {s : Shared} {k : Bool} {a : Addr} {xs ys : List V} (I : Inv X pins σ H s) (h : Sq k X.K H a xs) (h' : Sq k X.K H a ys) : xs = ys := by
  cases k
  · exact I.list_inj h h'
  · exact I.tuple_inj h h'
def Itz (K : PySem.W.Frag) (k1 k2 : Bool) (a b : Addr) : It :=
  ⟨fun i H => ∃ xs ys x y, Sq k1 K H a xs ∧ Sq k2 K H b ys ∧ xs[i]? = some x ∧ ys[i]? = some y,
   fun i H v H' => ∃ T x y, H T = none ∧ v = .ref T ∧ H' = upd H T (.tup [x, y]) ∧ (∀ xs, Sq k1 K H a xs → xs[i]? = some x) ∧ ∀ ys, Sq k2 K H b ys → ys[i]? = some y,
   fun i H => ∃ xs ys, Sq k1 K H a xs ∧ Sq k2 K H b ys ∧ (xs.length ≤ i ∨ ys.length ≤ i)⟩
theorem pair_ok {P : Program} {w : World} {H : Hp} {h : Heap} {T : Addr} {x y : V} {u v : Value} (r1 : RelV x u) (r2 : RelV y v) (e : IsPair h T u v) : ObjOk P w H h T (.tup [x, y]) := by
  refine ⟨by show 2 ≤ sizeLine; decide, [u, v], .cons r1 (.cons r2 .nil), ⟨_, e, rfl, _, rfl⟩, fun o q => ?_⟩
  rw [e] at q
  cases q
  rfl
theorem turn_zip {P : Program} {w : World} {K : PySem.W.Frag} {elts : List Expr} {x1 : Nat} {pos : Pos} (k1 k2 : Bool) (a b z TI TO i1 i2 : Addr) (D : ZipApart z TI TO i1 i2 a b) :
    Turn P w K (.Tuple elts x1 pos) (Itz K k1 k2 a b) [z, TI, TO, i1, i2] z (fun i h => ZipAt k1 k2 h z TI TO i1 i2 a b .none i i) where
  mem := by simp
  obj := fun i h st c hc => by
    obtain ⟨g0, g1, ⟨oa, ob, g2⟩, ⟨o1, e1, _, d1⟩, ⟨o2, e2, _, d2⟩⟩ := st
    simp only [List.mem_cons, List.not_mem_nil, or_false] at hc
    rcases hc with rfl | rfl | rfl | rfl | rfl
    · exact ⟨_, g0, fun v q => by cases q⟩
    · exact ⟨_, g1, fun v q => by cases q⟩
    · exact ⟨_, g2, fun v q => by cases q⟩
    · exact ⟨_, e1, fun v q => by rw [d1] at q; cases q⟩
    · exact ⟨_, e2, fun v q => by rw [d2] at q; cases q⟩
  keep := fun i h h' st k => st.kept k
  item := by
    intro X hP hw hK hc i pins s σ H E I hf st hg
    subst hP hw hK
    obtain ⟨xs, ys, x, y, hq1, hq2, hx, hy⟩ := hg
    obtain ⟨us, rv1, p1, _⟩ := I.sq hq1
    obtain ⟨ws, rv2, p2, _⟩ := I.sq hq2
    obtain ⟨u, hu, ru⟩ := rv1.get hx
    obtain ⟨v, hv, rv⟩ := rv2.get hy
    refine pyNext_zip D st p1 p2 (x := u) (y := v) (by simpa using hu) (by simpa using hv) fun h' st' tp kk => ⟨_, rfl, ?_⟩
    refine wpAny_letOwnedTupleGo_zip st'.zz fun h2 hz2 sb => ?_
    have up : ∀ c o, c ≠ z → h'.get? c = some o → h2.get? c = some o := fun c o n e => (sb.2 c n).trans e
    have lt : z < s.heap.objs.size := Heap.lt_size st.zz
    have tp2 : IsPair h2 s.heap.objs.size u v := up _ _ (Nat.ne_of_gt lt) tp
    have I1 : Inv X pins σ (upd H s.heap.objs.size (.tup [x, y])) { s with heap := h2 } := I.turnedN (t' := s.toks) (ch := [z, TI, TO, i1, i2]) hf (fun c o n e => up c o (fun q => n (by simp [q])) (kk c o (fun q => n (by
      simp only [List.mem_cons, List.not_mem_nil, or_false] at q ⊢
      rcases q with q | q | q | q <;> simp [q])) e)) (Nat.le_refl _) (pair_ok ru rv tp2)
    refine ⟨.ref s.heap.objs.size, _, I1, rfl, ⟨_, x, y, I.hok.fresh (Nat.le_refl _), rfl, rfl, fun xs' h => by rw [I.sq_inj h hq1]; exact hx, fun ys' h => by rw [I.sq_inj h hq2]; exact hy⟩,
      ⟨hz2, up _ _ D.TIz st'.ti, ?_, st'.a1.kept (fun o e => up _ _ D.i1z e), st'.a2.kept fun o e => up _ _ D.i2z e⟩, fun c hc => ?_⟩
    · obtain ⟨oa, ob, e⟩ := st'.tO
      exact ⟨oa, ob, up _ _ D.TOz e⟩
    · have hlt : c < s.heap.objs.size := by
        obtain ⟨g0, g1, ⟨oa, ob, g2⟩, ⟨o1, e1, _, d1⟩, ⟨o2, e2, _, d2⟩⟩ := st
        simp only [List.mem_cons, List.not_mem_nil, or_false] at hc
        rcases hc with rfl | rfl | rfl | rfl | rfl
        · exact Heap.lt_size g0
        · exact Heap.lt_size g1
        · exact Heap.lt_size g2
        · exact Heap.lt_size e1
        · exact Heap.lt_size e2
      rw [upd_ne (Nat.ne_of_lt hlt)]
      exact (hf c hc).1
  done := by
    intro X hP hw hK hc i pins s σ H E I hf st hg
    subst hP hw hK
    obtain ⟨xs, ys, hq1, hq2, hend⟩ := hg
    obtain ⟨us, rv1, p1, _⟩ := I.sq hq1
    obtain ⟨ws, rv2, p2, _⟩ := I.sq hq2
    have l1 := rv1.length
    have l2 := rv2.length
    refine pyNext_zipEnd (I.ok.hd hc) D st p1 p2 ?_ fun h' kk => ⟨rfl, I.turnedL (t' := s.toks) (ch := [z, TI, TO, i1, i2]) hf fun c o n e => kk c o (fun q => n (by
      simp only [List.mem_cons, List.not_mem_nil, or_false] at q ⊢
      rcases q with q | q | q | q <;> simp [q])) e⟩
    rcases hend with q | q
    · exact .inl (by simp; omega)
    · exact .inr (by simp; omega)
  self := fun _ _ _ _ _ st h => wpAny_pyIter_zip st.zz h
section
variable {X : Cx} {elts : List Expr} {x1 : Nat} {tpos : Pos}
def iZip (K : PySem.W.Frag) (k1 k2 : Bool) (ta : TA) : TI := fun σ H R => ta σ H fun vs H1 => ∃ a b, vs = [.ref a, .ref b] ∧ (∃ xs, Sq k1 K H1 a xs) ∧ (∃ ys, Sq k2 K H1 b ys) ∧ R (Itz K k1 k2 a b) H1
theorem pi_zip (k1 k2 : Bool) {a b : Expr} {ta : TA} {p pos : Pos} (hg : Gl X "zip") (hm : X.mg "zip" = none) (ha : PA X [a, b] ta) (hs : starEach [a, b] X.env = [(false, eval a X.env), (false, eval b X.env)] := by rfl) (hs2 : starEach [b] X.env = [(false, eval b X.env)] := by rfl) :
    PI X (.Tuple elts x1 tpos) (.Call (.Name "zip" p) [a, b] [] pos) (iZip X.K k1 k2 ta) := by
  intro pins s σ H R I h
  refine Call_ (ld_blt I hg hm boot_zip (PyProof.Rows.callWith_type1 (thn (ha pos pins s σ H _ I h) fun us s1 ⟨vs, H1, I1, r1, q1⟩ => ?_) (by rw [hs, hs2]) (by rw [hs2]; rfl)))
  obtain ⟨a, b, e, ⟨xs, hq1⟩, ⟨ys, hq2⟩, q⟩ := q1
  subst e
  cases r1 with
  | cons r rr =>
    cases rr with
    | cons r' rr =>
      cases rr
      cases r
      cases r'
      obtain ⟨us, rv1, p1, _⟩ := I1.sq hq1
      obtain ⟨ws, rv2, p2, _⟩ := I1.sq hq2
      refine call_zip p1 p2 fun h' Z kk => ?_
      have D := PyProof.Rows.zipApart_new p1.lt p2.lt
      have I2 : Inv X pins σ H1 { s1 with heap := h' } := I1.kept (t' := s1.toks) kk
      refine wpAny_pyIter_zip (s := { s1 with heap := h' }) Z.zz ⟨_, [s1.heap.objs.size + 4, s1.heap.objs.size + 2, s1.heap.objs.size + 3, s1.heap.objs.size, s1.heap.objs.size + 1], _, _, H1, rfl, I2, turn_zip k1 k2 a b _ _ _ _ _ D, Z, fun c hc => ?_, q⟩
      have hle : s1.heap.objs.size ≤ c := by
        simp only [List.mem_cons, List.not_mem_nil, or_false] at hc
        have hc' : c = s1.heap.objs.size + 4 ∨ c = s1.heap.objs.size + 2 ∨ c = s1.heap.objs.size + 3 ∨ c = s1.heap.objs.size ∨ c = s1.heap.objs.size + 1 := hc
        rcases hc' with e | e | e | e | e <;> rw [e] <;> first | exact Nat.le_refl _ | exact Nat.le_add_right _ _
      exact I1.fpOk hle (I1.hok.fresh hle)
end
end L2

set_option Elab.async false
set_option linter.all false
set_option maxRecDepth 100000
namespace L2
open PySem PySem.Spec PyProof.Rows
/-! ### zip in a comprehension, in a loop -/
theorem comp_zip {K : PySem.W.Frag} {k1 k2 : Bool} {a b : Addr} {xs ys : List V} {g : TG} {tf : TT} {te : TE} {σ : St} {H : Hp} {Q : VK} (Pv : Nat → List V → St → Hp → Prop) (h0 : Pv 0 [] σ H)
    (hl : ∀ i zs σ H, i ≤ min xs.length ys.length → Pv i zs σ H → Sq k1 K H a xs ∧ Sq k2 K H b ys ∧ zs.length ≤ sizeLine)
    (hs : ∀ i x y zs σ H T, xs[i]? = some x → ys[i]? = some y → Pv i zs σ H → H T = none → g (.ref T) σ (upd H T (.tup [x, y])) fun σ2 H2 => tf σ2 H2 fun b H3 => if b = true then te σ2 H3 fun v H4 => Pv (i + 1) (zs ++ [v]) σ2 H4 else Pv (i + 1) zs σ2 H3)
    (hd : ∀ zs σ H, Pv (min xs.length ys.length) zs σ H → ∀ p, H p = none → Q (.ref p) (upd H p (.lst zs))) : tCompK g tf te σ (Itz K k1 k2 a b) H Q := by
  refine ⟨fun i m zs σ H => m = min xs.length ys.length - i ∧ i ≤ min xs.length ys.length ∧ Pv i zs σ H, ⟨_, (Nat.sub_zero _).symm, Nat.zero_le _, h0⟩, ?_⟩
  rintro i m zs σ H ⟨rfl, hi, p⟩
  obtain ⟨q1, q2, hz⟩ := hl i zs σ H hi p
  by_cases hlt : i < min xs.length ys.length
  · have l1 : i < xs.length := by omega
    have l2 : i < ys.length := by omega
    refine .inr ⟨⟨xs, ys, xs[i], ys[i], q1, q2, by simp [l1], by simp [l2]⟩, hz, Pv (i + 1), fun ys' σ' H' p' => ⟨min xs.length ys.length - (i + 1), by omega, rfl, hlt, p'⟩, fun x H' y => ?_⟩
    obtain ⟨T, u, v, hT, rfl, rfl, e1, e2⟩ := y
    exact hs i u v zs σ H T (e1 xs q1) (e2 ys q2) p hT
  · have e : i = min xs.length ys.length := by omega
    rw [e] at p
    exact .inl ⟨⟨xs, ys, q1, q2, by omega⟩, hz, hd zs σ H p⟩
/-! ### max and min of ints, with a default or without -/
section
variable {prog : Program} {w : World} {A : Around} {E : Value → Shared → Prop} {s : Shared}
end
theorem best_le {val : Nat → Int} : ∀ n j : Nat, j ≤ n → val j ≤ val (argBest (fun i j => decide (val i > val j)) n)
  | 0, j, h => by
    have : j = 0 := by omega
    subst this
    exact Int.le_refl _
  | n + 1, j, h => by
    unfold argBest
    by_cases c : val (n + 1) > val (argBest (fun i j => decide (val i > val j)) n)
    · simp only [decide_eq_true c, if_true]
      by_cases e : j = n + 1
      · rw [e]; exact Int.le_refl _
      · have := best_le (val := val) n j (by omega); omega
    · simp only [decide_eq_false c, Bool.false_eq_true, if_false]
      by_cases e : j = n + 1
      · rw [e]; omega
      · exact best_le n j (by omega)
theorem best_ge {val : Nat → Int} : ∀ n j : Nat, j ≤ n → val (argBest (fun i j => decide (val i < val j)) n) ≤ val j
  | 0, j, h => by
    have : j = 0 := by omega
    subst this
    exact Int.le_refl _
  | n + 1, j, h => by
    unfold argBest
    by_cases c : val (n + 1) < val (argBest (fun i j => decide (val i < val j)) n)
    · simp only [decide_eq_true c, if_true]
      by_cases e : j = n + 1
      · rw [e]; exact Int.le_refl _
      · have := best_ge (val := val) n j (by omega); omega
    · simp only [decide_eq_false c, Bool.false_eq_true, if_false]
      by_cases e : j = n + 1
      · rw [e]; omega
      · exact best_ge n j (by omega)
theorem best_lt (bt : Nat → Nat → Bool) : ∀ n : Nat, argBest bt n ≤ n
  | 0 => Nat.le_refl _
  | n + 1 => by
    unfold argBest
    split
    · exact Nat.le_refl _
    · exact Nat.le_trans (best_lt bt n) (Nat.le_succ n)

section
variable {prog : Program} {w : World} {A : Around} {R : Result → Shared → Prop} {I : Addr} {fp wr : List Addr} {n : Nat} {P : Nat → Value → Prop} {St : Nat → Heap → Prop}
end
section
variable {prog : Program} {w : World} {A : Around} {E : Value → Shared → Prop} {s : Shared}
end
section
variable {X : Cx}
def Ismax (m : Int) (ns : List Int) : Prop := m ∈ ns ∧ ∀ x ∈ ns, x ≤ m
theorem ismax_of {ns : List Int} (hn : 0 < ns.length) : Ismax (ns.getD (argBest (fun i j => decide (ns.getD i 0 > ns.getD j 0)) (ns.length - 1)) 0) ns := by
  have hb := best_lt (fun i j => decide (ns.getD i 0 > ns.getD j 0)) (ns.length - 1)
  have at' : ∀ j, j < ns.length → ns.getD j 0 = ns[j]! := fun j h => by simp [h]
  refine ⟨?_, fun x hx => ?_⟩
  · have hl : argBest (fun i j => decide (ns.getD i 0 > ns.getD j 0)) (ns.length - 1) < ns.length := by omega
    generalize argBest (fun i j => decide (ns.getD i 0 > ns.getD j 0)) (ns.length - 1) = k at hl
    have : ns.getD k 0 = ns[k] := by simp [hl]
    rw [this]
    exact List.getElem_mem hl
  · obtain ⟨j, hj, rfl⟩ := List.mem_iff_getElem.mp hx
    have h1 := best_le (val := fun i => ns.getD i 0) (ns.length - 1) j (by omega)
    have h2 : ns.getD j 0 = ns[j] := by simp [hj]
    rw [← h2]
    exact h1
/-- max(e), e a list of one int at least -/
theorem call_max_ints (hc : X.calm = true) : CallR X (.builtin "max") (fun xs H Q => ∃ (a : Addr) (ns : List Int), xs = [.ref a] ∧ SqL X.K H a (ns.map V.int) ∧ ns ≠ [] ∧ ∀ m, Ismax m ns → Q (.int m) H) := by
  intro pins s σ H xs us Q I r h
  obtain ⟨a, ns, rfl, hq, hne, q⟩ := h
  obtain ⟨u, rfl, ru⟩ := vals1 r
  cases ru
  have hh : X.A.in1.handled = none := I.ok.hd hc
  obtain ⟨its, rv, p, hz⟩ := I.list hq
  have hl := rv.length
  rw [List.length_map] at hl
  have hlt : a < s.heap.objs.size := by obtain ⟨_, e, _⟩ := p.isList; exact Heap.lt_size e
  have hn : 0 < ns.length := List.length_pos_iff.mpr hne
  refine call_max_walk (wpAny_pyIter_list p.isList ⟨_, _, _, _, _, _, _, rfl, Walks.list (A := X.A.in1) hh _ a (Nat.ne_of_lt hlt) its.toArray, ⟨⟨_, Heap.get?_push_size _ rfl, rfl, rfl⟩, p.isList.push _⟩, fun b hb => ?_, by rw [List.size_toArray, ← hl]; exact hn, CmpOf.ints_gt (fun i => ns.getD i 0) (vals_int_at rv), fun v h' tk p1 kk => ?_⟩)
  · show b < (s.heap.push _).objs.size
    rw [Heap.size_push]
    rcases List.mem_cons.mp hb with rfl | hb
    · exact Nat.lt_succ_self _
    · rcases List.mem_cons.mp hb with rfl | hb
      · exact Nat.lt_succ_of_lt hlt
      · cases hb
  · rw [List.size_toArray, ← hl] at p1
    obtain ⟨t, e⟩ := vals_int_at rv _ v p1
    exact ⟨.int _, H, I.kept fun b o e => kk b o (by simpa using Nat.ne_of_lt (Heap.lt_size e)) (Heap.get?_push_of_some _ e), ⟨t, e⟩, q _ (ismax_of hn)⟩
end

section
variable {prog : Program} {w : World} {A : Around} {R : Result → Shared → Prop} {I : Addr} {fp wr : List Addr} {n : Nat} {P : Nat → Value → Prop} {St : Nat → Heap → Prop}
end
section
variable {prog : Program} {w : World} {A : Around} {E : Value → Shared → Prop} {s : Shared}
end
section
variable {X : Cx}
def Ismin (m : Int) (ns : List Int) : Prop := m ∈ ns ∧ ∀ x ∈ ns, m ≤ x
theorem ismin_of {ns : List Int} (hn : 0 < ns.length) : Ismin (ns.getD (argBest (fun i j => decide (ns.getD i 0 < ns.getD j 0)) (ns.length - 1)) 0) ns := by
  have hb := best_lt (fun i j => decide (ns.getD i 0 < ns.getD j 0)) (ns.length - 1)
  have at' : ∀ j, j < ns.length → ns.getD j 0 = ns[j]! := fun j h => by simp [h]
  refine ⟨?_, fun x hx => ?_⟩
  · have hl : argBest (fun i j => decide (ns.getD i 0 < ns.getD j 0)) (ns.length - 1) < ns.length := by omega
    generalize argBest (fun i j => decide (ns.getD i 0 < ns.getD j 0)) (ns.length - 1) = k at hl
    have : ns.getD k 0 = ns[k] := by simp [hl]
    rw [this]
    exact List.getElem_mem hl
  · obtain ⟨j, hj, rfl⟩ := List.mem_iff_getElem.mp hx
    have h1 := best_ge (val := fun i => ns.getD i 0) (ns.length - 1) j (by omega)
    have h2 : ns.getD j 0 = ns[j] := by simp [hj]
    rw [← h2]
    exact h1
/-- min(e), e a list of one int at least -/
theorem call_min_ints (hc : X.calm = true) : CallR X (.builtin "min") (fun xs H Q => ∃ (a : Addr) (ns : List Int), xs = [.ref a] ∧ SqL X.K H a (ns.map V.int) ∧ ns ≠ [] ∧ ∀ m, Ismin m ns → Q (.int m) H) := by
  intro pins s σ H xs us Q I r h
  obtain ⟨a, ns, rfl, hq, hne, q⟩ := h
  obtain ⟨u, rfl, ru⟩ := vals1 r
  cases ru
  have hh : X.A.in1.handled = none := I.ok.hd hc
  obtain ⟨its, rv, p, hz⟩ := I.list hq
  have hl := rv.length
  rw [List.length_map] at hl
  have hlt : a < s.heap.objs.size := by obtain ⟨_, e, _⟩ := p.isList; exact Heap.lt_size e
  have hn : 0 < ns.length := List.length_pos_iff.mpr hne
  refine call_min_walk (wpAny_pyIter_list p.isList ⟨_, _, _, _, _, _, _, rfl, Walks.list (A := X.A.in1) hh _ a (Nat.ne_of_lt hlt) its.toArray, ⟨⟨_, Heap.get?_push_size _ rfl, rfl, rfl⟩, p.isList.push _⟩, fun b hb => ?_, by rw [List.size_toArray, ← hl]; exact hn, CmpOf.ints_lt (fun i => ns.getD i 0) (vals_int_at rv), fun v h' tk p1 kk => ?_⟩)
  · show b < (s.heap.push _).objs.size
    rw [Heap.size_push]
    rcases List.mem_cons.mp hb with rfl | hb
    · exact Nat.lt_succ_self _
    · rcases List.mem_cons.mp hb with rfl | hb
      · exact Nat.lt_succ_of_lt hlt
      · cases hb
  · rw [List.size_toArray, ← hl] at p1
    obtain ⟨t, e⟩ := vals_int_at rv _ v p1
    exact ⟨.int _, H, I.kept fun b o e => kk b o (by simpa using Nat.ne_of_lt (Heap.lt_size e)) (Heap.get?_push_of_some _ e), ⟨t, e⟩, q _ (ismin_of hn)⟩
end
end L2

set_option Elab.async false
set_option linter.all false
set_option maxRecDepth 100000
namespace L2
open PySem PySem.Spec PyProof.Rows
/-! ### a tuple times an int of two at least -/
/-- a tuple as a comprehension's target -/
theorem pg_tupC {X : Cx} {scope : Scope} {N : List Str} {C : Addr} {s : Shared} {H : Hp} {ex : List Addr} {es : List Expr} {k : Nat} {t : TGs} {pos : Pos} (n : Nat) (hc : X.calm = true) (h : PGs (cxC X scope N C s H ex) es t)
    (hn : (assignEach es (cxC X scope N C s H ex).env).length = n) (hst : (assignEach es (cxC X scope N C s H ex).env).findIdx? (·.1) = none) : PG (cxC X scope N C s H ex) (.Tuple es k pos) (gTup X.K n t) := pg_tup hc h hn hst
end L2

set_option Elab.async false
set_option linter.all false
set_option maxRecDepth 100000
namespace L2
open PySem PySem.Spec PyProof.Rows

/-! ### lists of pairs as tables -/
section
variable {κ : Type} [DecidableEq κ]
def valV (kvs : List (κ × V)) (k : κ) : Option V := (kvs.find? fun kv => decide (kv.1 = k)).map (·.2)
/-- in its place, or at the end -/
def putK (kvs : List (κ × V)) (k : κ) (v : V) : List (κ × V) :=
  if (kvs.any fun kv => decide (kv.1 = k)) = true then kvs.map (fun kv => if kv.1 = k then (kv.1, v) else kv) else kvs ++ [(k, v)]
theorem valV_pos {p : κ × V} {r : List (κ × V)} {k : κ} (e : p.1 = k) : valV (p :: r) k = some p.2 := by simp [valV, List.find?_cons, e]
theorem valV_neg {p : κ × V} {r : List (κ × V)} {k : κ} (e : ¬ p.1 = k) : valV (p :: r) k = valV r k := by simp [valV, List.find?_cons, e]
theorem valV_any (k : κ) : ∀ kvs : List (κ × V), (kvs.any fun kv => decide (kv.1 = k)) = (valV kvs k).isSome
  | [] => rfl
  | p :: r => by
    rw [List.any_cons]
    by_cases e : p.1 = k
    · simp only [valV_pos e, decide_eq_true e, Bool.true_or, Option.isSome_some]
    · rw [valV_neg e, decide_eq_false e, Bool.false_or]; exact valV_any k r
theorem valV_map (k j : κ) (y : V) : ∀ kvs : List (κ × V), valV (kvs.map fun kv => if kv.1 = k then (kv.1, y) else kv) j = (valV kvs j).map fun x => if j = k then y else x
  | [] => rfl
  | p :: r => by
    have ih := valV_map k j y r
    rw [List.map_cons]
    by_cases h : p.1 = k
    · rw [if_pos h]
      by_cases e : p.1 = j
      · rw [valV_pos (p := (p.1, y)) e, valV_pos e, Option.map_some, if_pos (e.symm.trans h)]
      · rw [valV_neg (p := (p.1, y)) e, valV_neg e, ih]
    · rw [if_neg h]
      by_cases e : p.1 = j
      · rw [valV_pos (p := p) e, valV_pos e, Option.map_some, if_neg (fun z => h (e.trans z))]
      · rw [valV_neg (p := p) e, valV_neg e, ih]
theorem valV_snoc (k j : κ) (y : V) : ∀ kvs : List (κ × V), valV kvs k = none → valV (kvs ++ [(k, y)]) j = if j = k then some y else valV kvs j
  | [], _ => by
    by_cases e : k = j
    · rw [if_pos e.symm]; exact valV_pos (p := (k, y)) e
    · rw [if_neg (fun z => e z.symm)]; exact valV_neg (p := (k, y)) e
  | p :: r, hn => by
    rw [List.cons_append]
    have hk : ¬ p.1 = k := fun z => by rw [valV_pos z] at hn; cases hn
    rw [valV_neg hk] at hn
    have ih := valV_snoc k j y r hn
    by_cases e : p.1 = j
    · rw [valV_pos e, valV_pos e, if_neg (fun z => hk (e.trans z))]
    · rw [valV_neg e, valV_neg e, ih]
theorem valV_put (kvs : List (κ × V)) (k j : κ) (y : V) : valV (putK kvs k y) j = if j = k then some y else valV kvs j := by
  unfold putK
  by_cases a : (kvs.any fun kv => decide (kv.1 = k)) = true
  · rw [if_pos a, valV_map]
    rw [valV_any] at a
    by_cases e : j = k
    · obtain ⟨x, hx⟩ := Option.isSome_iff_exists.mp a
      rw [if_pos e, e, hx, Option.map_some, if_pos rfl]
    · rw [if_neg e]
      cases valV kvs j with
      | none => rfl
      | some x => rw [Option.map_some, if_neg e]
  · rw [if_neg a]
    refine valV_snoc k j y kvs ?_
    rw [valV_any] at a
    cases q : valV kvs k with
    | none => rfl
    | some x => rw [q] at a; exact (a rfl).elim
theorem length_putK (kvs : List (κ × V)) (k : κ) (v : V) : (putK kvs k v).length ≤ kvs.length + 1 := by
  unfold putK
  split
  · rw [List.length_map]; omega
  · rw [List.length_append, List.length_cons, List.length_nil]; omega
theorem putK_new {kvs : List (κ × V)} {k : κ} (v : V) (h : valV kvs k = none) : putK kvs k v = kvs ++ [(k, v)] := by
  unfold putK
  rw [valV_any, h]
  exact if_neg (by decide)

theorem RelO.isSome_eq {o : Option V} {u : Option Value} (r : RelO o u) : o.isSome = u.isSome := by
  cases o with
  | none => cases u with
    | none => rfl
    | some _ => exact (show False from r).elim
  | some _ => cases u with
    | none => exact (show False from r).elim
    | some _ => rfl
theorem RelO.getD {o : Option V} {u : Option Value} {d : V} {d' : Value} (r : RelO o u) (rd : RelV d d') : RelV (o.getD d) (u.getD d') := by
  cases o with
  | none => cases u with
    | none => exact rd
    | some _ => exact (show False from r).elim
  | some _ => cases u with
    | none => exact (show False from r).elim
    | some _ => exact r

/-- raw tables of the same keys -/
theorem KV.val {kvs : List (κ × V)} {vs : List (κ × Value)} (r : KV kvs vs) (k : κ) : RelO (valV kvs k) (valueAt vs k) := by
  unfold KV at r
  induction r with
  | nil => exact True.intro
  | @cons p q ps qs h t ih =>
    obtain ⟨h1, h2⟩ := h
    by_cases e : p.1 = k
    · have e' : q.1 = k := h1.symm.trans e
      have b : valueAt (q :: qs) k = some q.2 := by simp [valueAt, List.find?_cons, e']
      rw [valV_pos e, b]; exact h2
    · have e' : ¬ q.1 = k := fun z => e (h1.trans z)
      have b : valueAt (q :: qs) k = valueAt qs k := by simp [valueAt, List.find?_cons, e']
      rw [valV_neg e, b]; exact ih
theorem KV.any {kvs : List (κ × V)} {vs : List (κ × Value)} (r : KV kvs vs) (k : κ) : (kvs.any fun kv => decide (kv.1 = k)) = vs.any fun kv => decide (kv.1 = k) := by
  unfold KV at r
  induction r with
  | nil => rfl
  | cons h t ih => rw [List.any_cons, List.any_cons, ih, h.1]
theorem KV.repl {kvs : List (κ × V)} {vs : List (κ × Value)} (r : KV kvs vs) (k : κ) {y : V} {u : Value} (ry : RelV y u) :
    KV (kvs.map fun kv => if kv.1 = k then (kv.1, y) else kv) (vs.map fun kv => if kv.1 = k then (kv.1, u) else kv) := by
  unfold KV at r ⊢
  induction r with
  | nil => exact .nil
  | @cons p q ps qs h t ih =>
    rw [List.map_cons, List.map_cons]
    refine .cons ?_ ih
    obtain ⟨h1, h2⟩ := h
    by_cases e : p.1 = k
    · rw [if_pos e, if_pos (h1.symm.trans e)]; exact ⟨h1, ry⟩
    · rw [if_neg e, if_neg (fun z => e (h1.trans z))]; exact ⟨h1, h2⟩
theorem KV.put {kvs : List (κ × V)} {vs : List (κ × Value)} (r : KV kvs vs) (k : κ) {y : V} {u : Value} (ry : RelV y u) : KV (putK kvs k y) (stored vs k u) := by
  unfold putK stored
  rw [r.any k]
  by_cases e : (vs.any fun kv => decide (kv.1 = k)) = true
  · rw [if_pos e, if_pos e]; exact r.repl k ry
  · rw [if_neg e, if_neg e]; exact Paired.snoc r ⟨rfl, ry⟩
theorem KV.length {kvs : List (κ × V)} {vs : List (κ × Value)} (r : KV kvs vs) : kvs.length = vs.length := Paired.length r
end


/-! ### a tracked dict, its keys ints and texts or tuples of these -/
theorem kV_is {P : Program} {w : World} {k : Key} {u : Value} (r : RelV (kV k) u) : (mixKind P w).is k u = true := by
  cases k with
  | inl i => obtain ⟨t, e⟩ := (show ∃ t, u = Value.int i t from r); subst e; exact mixKind_int P w i t
  | inr x => obtain ⟨t, e⟩ := (show ∃ t, u = Value.str x t from r); subst e; exact mixKind_str P w x t
theorem items_are {P : Program} {w : World} : ∀ {ks : List Key} {us : List Value}, Vals (ks.map kV) us → ItemsAre (mixKind P w) ks us
  | [], _, r => by rw [List.map_nil] at r; cases r; exact .nil
  | k :: ks, _, r => by
    rw [List.map_cons] at r
    cases r with
    | cons h t => exact .cons (kV_is h) (items_are t)

/-- raw entries of a dict with tuple keys -/
abbrev KT (H : Hp) : List (List Key × V) → List (List Key × Addr × Value) → Prop := Paired fun p q => p.1 = q.1 ∧ H q.2.1 = some (.tup (p.1.map kV)) ∧ RelV p.2 q.2.2
theorem KT.val {H : Hp} {kvs : List (List Key × V)} {xs : List (List Key × Addr × Value)} (r : KT H kvs xs) (k : List Key) : RelO (valV kvs k) ((atKey xs k).map (·.2)) := by
  induction r with
  | nil => exact True.intro
  | @cons p q ps qs h t ih =>
    obtain ⟨h1, _, h2⟩ := h
    by_cases e : p.1 = k
    · have e' : q.1 = k := h1.symm.trans e
      have b : atKey (q :: qs) k = some q.2 := by simp [atKey, List.find?_cons, e']
      rw [valV_pos e, b]; exact h2
    · have e' : ¬ q.1 = k := fun z => e (h1.trans z)
      have b : atKey (q :: qs) k = atKey qs k := by simp [atKey, List.find?_cons, e']
      rw [valV_neg e, b]; exact ih
theorem KT.repl {H : Hp} {kvs : List (List Key × V)} {xs : List (List Key × Addr × Value)} (r : KT H kvs xs) (k : List Key) {y : V} {u : Value} (ry : RelV y u) :
    KT H (kvs.map fun kv => if kv.1 = k then (kv.1, y) else kv) (xs.map (putAt k u)) := by
  induction r with
  | nil => exact .nil
  | @cons p q ps qs h t ih =>
    rw [List.map_cons, List.map_cons]
    refine .cons ?_ ih
    obtain ⟨h1, h2, h3⟩ := h
    unfold putAt
    by_cases e : p.1 = k
    · rw [if_pos e, if_pos (h1.symm.trans e)]; exact ⟨h1, h2, ry⟩
    · rw [if_neg e, if_neg (fun z => e (h1.trans z))]; exact ⟨h1, h2, h3⟩
theorem KT.put {H : Hp} {kvs : List (List Key × V)} {xs : List (List Key × Addr × Value)} (r : KT H kvs xs) (k : List Key) {b : Addr} {y : V} {u : Value} (hb : H b = some (.tup (k.map kV))) (ry : RelV y u) :
    KT H (putK kvs k y) (storedH xs k b u) := by
  have e : (kvs.any fun kv => decide (kv.1 = k)) = (atKey xs k).isSome := by
    rw [valV_any, (r.val k).isSome_eq, Option.isSome_map]
  unfold putK storedH
  rw [e]
  by_cases q : (atKey xs k).isSome = true
  · rw [if_pos q, if_pos q]; exact r.repl k ry
  · rw [if_neg q, if_neg q]; exact Paired.snoc r ⟨rfl, hb, ry⟩
theorem KT.keeps {H H' : Hp} {kvs : List (List Key × V)} {xs : List (List Key × Addr × Value)} (r : KT H kvs xs) (ht : ∀ b ys, H b = some (.tup ys) → H' b = some (.tup ys)) : KT H' kvs xs :=
  Paired.mapP r fun _ _ z => ⟨z.1, ht _ _ z.2.1, z.2.2⟩

section
variable {P : Program} {w : World} {H : Hp} {h : Heap} {a : Addr}
theorem rd_of {u : HO} (ok : HOk P w H h) (e : Rd H a u) : ObjOk P w H h a u := e.ok ok
theorem dk_rd {kvs : List (Key × V)} (ok : HOk P w H h) (e : Rd H a (.dK kvs)) : kvs.length ≤ sizeLine ∧ (a == sysModules) = false ∧ ∃ vs, KV kvs vs ∧ h.DictOf (mixKind P w) a vs :=
  show ObjOk P w H h a (.dK kvs) from rd_of ok e
theorem dk_of {kvs : List (Key × V)} (ok : HOk P w H h) (e : H a = some (.dK kvs)) : kvs.length ≤ sizeLine ∧ (a == sysModules) = false ∧ ∃ vs, KV kvs vs ∧ h.DictOf (mixKind P w) a vs := dk_rd ok (.inl e)
/-- a tracked tuple of ints and texts is a key -/
theorem key_of {ks : List Key} (ok : HOk P w H h) (e : H a = some (.tup (ks.map kV))) : (tupleKind (mixKind P w)).is h ks a := by
  obtain ⟨_, its, r, ⟨o, h1, h2, n, h3⟩, _⟩ := (show ObjOk P w H h a (.tup (ks.map kV)) from ok a _ e)
  exact ⟨o, its.toArray, n, h1, h2, h3, by simpa using items_are r⟩
theorem dt_rd {kvs : List (List Key × V)} (ok : HOk P w H h) (e : Rd H a (.dT kvs)) : kvs.length ≤ sizeLine ∧ (a == sysModules) = false ∧
    ∃ xs, KT H kvs xs ∧ h.DictOfH (tupleKind (mixKind P w)) a xs := by
  obtain ⟨z, y, xs, r, o, es, ep, h1, h2, h3, h4, h5⟩ := (show ObjOk P w H h a (.dT kvs) from rd_of ok e)
  refine ⟨z, y, xs, r, o, es, ep, h1, h2, h3, h4, fun x hx => ?_, h5⟩
  have all : ∀ {l : List (List Key × V)} {m : List (List Key × Addr × Value)}, KT H l m → ∀ x ∈ m, (tupleKind (mixKind P w)).is h x.1 x.2.1 := by
    intro l m q
    induction q with
    | nil => intro x hx; exact nomatch hx
    | @cons p q ps qs hq t ih =>
      intro x hx
      rcases List.mem_cons.mp hx with e | hx
      · subst e
        exact key_of ok (by rw [← hq.1]; exact hq.2.1)
      · exact ih x hx
  exact all r x hx
theorem dt_of {kvs : List (List Key × V)} (ok : HOk P w H h) (e : H a = some (.dT kvs)) : kvs.length ≤ sizeLine ∧ (a == sysModules) = false ∧
    ∃ xs, KT H kvs xs ∧ h.DictOfH (tupleKind (mixKind P w)) a xs := dt_rd ok (.inl e)
end

/-- what the dict at a holds at the key y -/
def DGet (H : Hp) (a : Addr) (y : V) (r : Option V) : Prop :=
  (∃ kvs k, Rd H a (.dK kvs) ∧ y = kV k ∧ r = valV kvs k) ∨ ∃ kvs k b, Rd H a (.dT kvs) ∧ y = .ref b ∧ H b = some (.tup (k.map kV)) ∧ r = valV kvs k
/-- the heap behind a[y] = v -/
def DPut (H : Hp) (a : Addr) (y v : V) (H' : Hp) : Prop :=
  (∃ kvs k, H a = some (.dK kvs) ∧ y = kV k ∧ kvs.length < sizeLine ∧ H' = upd H a (.dK (putK kvs k v))) ∨
  ∃ kvs k b, H a = some (.dT kvs) ∧ y = .ref b ∧ H b = some (.tup (k.map kV)) ∧ kvs.length < sizeLine ∧ H' = upd H a (.dT (putK kvs k v))
theorem DGet.t {H : Hp} {a b : Addr} {kvs : List (List Key × V)} {k : List Key} (e : H a = some (.dT kvs)) (eb : H b = some (.tup (k.map kV))) : DGet H a (.ref b) (valV kvs k) := .inr ⟨kvs, k, b, .inl e, rfl, eb, rfl⟩
theorem DPut.k {H : Hp} {a : Addr} {kvs : List (Key × V)} {k : Key} {v : V} (e : H a = some (.dK kvs)) (hl : kvs.length < sizeLine) : DPut H a (kV k) v (upd H a (.dK (putK kvs k v))) := .inl ⟨kvs, k, e, rfl, hl, rfl⟩
theorem DPut.t {H : Hp} {a b : Addr} {kvs : List (List Key × V)} {k : List Key} {v : V} (e : H a = some (.dT kvs)) (eb : H b = some (.tup (k.map kV))) (hl : kvs.length < sizeLine) :
    DPut H a (.ref b) v (upd H a (.dT (putK kvs k v))) := .inr ⟨kvs, k, b, e, rfl, eb, hl, rfl⟩


section
variable {X : Cx} {pins : List (Addr × Obj)} {σ : St} {H : Hp} {s : Shared} {a : Addr} {y v : V} {u r : Value} {o : Option V} {A : Around} {E : Value → Shared → Prop}

theorem Inv.big (I : Inv X pins σ H s) : sysModules < s.heap.objs.size := by
  have h : mainGlobals < s.heap.objs.size := (I.mod.glob.keeps I.bk).lt
  exact Nat.lt_trans (by decide) h

/-- a dict's object is replaced -/
theorem d_write {h' : Heap} {t' : Nat} {ob : HO} (I : Inv X pins σ H s) (mu : Mut (H a)) (hs : Heap.SameBut a s.heap h') (he : ∃ q, h'.get? a = some q) (new : ObjOk X.prog X.w (upd H a ob) h' a ob) :
    Inv X pins σ (upd H a ob) { s with heap := h', toks := t' } :=
  I.write (x := a) (e := a) mu (.inl rfl) (fun b q hb z => (hs.2 b hb).trans z) he new
theorem dk_new {P : Program} {w : World} {H' : Hp} {h' : Heap} {kvs : List (Key × V)} {vs : List (Key × Value)} (z : kvs.length ≤ sizeLine) (hd : (a == sysModules) = false) (rel : KV kvs vs) (dd : h'.DictOf (mixKind P w) a vs) :
    ObjOk P w H' h' a (.dK kvs) := ⟨z, hd, vs, rel, dd⟩
/-- d[y] = v -/
theorem d_setItem {H' : Hp} {Q : Unit → Shared → Prop} (hu : A.units + 1 < cLine) (I : Inv X pins σ H s) (g : DPut H a y v H') (ry : RelV y u) (rv : RelV v r) (h : ∀ s', Inv X pins σ H' s' → Q () s') :
    wpAny (model X.prog X.w) A (setItem (.ref a) u r) Q E s := by
  rcases g with ⟨kvs, k, e, ey, l, eH⟩ | ⟨kvs, k, b, e, ey, eb, l, eH⟩
  · subst ey eH
    obtain ⟨z, hd, vs, rel, dd⟩ := dk_of I.hok e
    have hz : vs.length ≤ sizeLine := by rw [← rel.length]; exact z
    have hl : (putK kvs k v).length ≤ sizeLine := by have := length_putK kvs k v; omega
    refine wpAny_setItem_pairs (hsz := hz) (kV_is ry) dd fun h' dd' hs => h _ ?_
    have he : ∃ q, h'.get? a = some q := let ⟨q, _, _, hq, _⟩ := dd'; ⟨q, hq⟩
    exact d_write I (by rw [e]; exact True.intro) hs he (dk_new hl hd (rel.put k rv) dd')
  · subst ey eH
    cases (show u = Value.ref b from ry)
    obtain ⟨z, hd, xs, rel, dd⟩ := dt_of I.hok e
    have hz : xs.length ≤ sizeLine := by rw [← Paired.length rel]; exact z
    have hl : (putK kvs k v).length ≤ sizeLine := by have := length_putK kvs k v; omega
    refine wpAny_setItem_heap (hsz := hz) (tupleKind_room_in1 hu) (key_of I.hok eb) dd fun h' dd' hs => h _ ?_
    obtain ⟨q, es, ep, hq, h2, h3, h4, _, h5⟩ := dd'
    refine d_write I (by rw [e]; exact True.intro) hs ⟨q, hq⟩ ⟨hl, hd, _, (rel.put k eb rv).keeps fun c ys ec => ?_, q, es, ep, hq, h2, h3, h4, h5⟩
    rw [upd_ne (ne_of ec e (fun z => nomatch z))]
    exact ec
end

section
variable {X : Cx} {pins : List (Addr × Obj)} {σ : St} {H : Hp} {s : Shared} {a : Addr} {kvs : List (Key × V)} {k : Key} {u : Value} {A : Around} {E : Value → Shared → Prop}
end


/-! ### readings and rules -/
/-- d[y] = v -/
def sDPut (td ty tv : TE) : TS := fun D σ H => tv σ H fun v H1 => td σ H1 fun x H2 => ty σ H2 fun y H3 => ∃ a H4, x = .ref a ∧ DPut H3 a y v H4 ∧ D.nx σ H4
section
variable {X : Cx} {o i e value : Expr} {pos pos' tpos : Pos} {td ty tv : TE}
theorem ps_dput (hu : X.A.units + 1 < cLine) (ho : PE X o td) (hi : PE X i ty) (hv : PE X value tv) (hs : swapsWith value (some (.Subscript o i pos')) pos.line X.env = pure false) :
    PS X (.Assign [.Subscript o i pos'] value pos) (sDPut td ty tv) := by
  intro pins s σ H D I h
  refine wpAny_Assign_Subscript (thn (hv pins s σ H _ I h) fun r s1 ⟨v, H1, I1, rv, q1⟩ => thn (ho pins s1 σ H1 _ I1 q1) fun u s2 ⟨x, H2, I2, rx, q2⟩ => thn (hi pins s2 σ H2 _ I2 q2) fun iv s3 ⟨y, H3, I3, ry, a, H4, ex, g, q3⟩ => ?_) hs
  subst ex
  obtain rfl : u = Value.ref a := rx
  exact d_setItem hu I3 g ry rv fun s4 I4 => ⟨σ, H4, I4, q3⟩
end


/-! ### displays -/
theorem dk_empty {P : Program} {w : World} {H : Hp} (h : Heap) (hb : sysModules < h.objs.size) : ObjOk P w H (h.push { cls := .type "dict", data := .dict #[] }) h.objs.size (.dK []) :=
  ⟨Nat.zero_le _, beq_eq_false_iff_ne.mpr (Ne.symm (Nat.ne_of_lt hb)), [], .nil, Heap.DictOf.new h⟩
theorem dt_empty {P : Program} {w : World} {H : Hp} (h : Heap) (hb : sysModules < h.objs.size) : ObjOk P w H (h.push { cls := .type "dict", data := .dict #[] }) h.objs.size (.dT []) :=
  ⟨Nat.zero_le _, beq_eq_false_iff_ne.mpr (Ne.symm (Nat.ne_of_lt hb)), [], .nil, _, #[], 0, Heap.get?_push_size _ rfl, ⟨rfl, rfl, rfl⟩, rfl, rfl, List.nodup_nil⟩
/-- {}, to be a dict of the kind that is wanted -/
def tDNewK : TE := fun _ H Q => ∀ p, H p = none → Q (.ref p) (upd H p (.dK []))
def tDNewT : TE := fun _ H Q => ∀ p, H p = none → Q (.ref p) (upd H p (.dT []))
section
variable {X : Cx} {pos : Pos}
theorem pe_dnewK : PE X (.Dict [] [] pos) tDNewK := fun pins s σ H Q I h =>
  wpAny_Dict_empty ⟨.ref s.heap.objs.size, _, I.laid (a := s.heap.objs.size) (o := .dK []) (t' := s.toks) (fun _ _ q => Heap.get?_push_of_some _ q) (Nat.le_refl _) (dk_empty s.heap I.big), rfl, h _ (I.hok.fresh (Nat.le_refl _))⟩
theorem pe_dnewT : PE X (.Dict [] [] pos) tDNewT := fun pins s σ H Q I h =>
  wpAny_Dict_empty ⟨.ref s.heap.objs.size, _, I.laid (a := s.heap.objs.size) (o := .dT []) (t' := s.toks) (fun _ _ q => Heap.get?_push_of_some _ q) (Nat.le_refl _) (dt_empty s.heap I.big), rfl, h _ (I.hok.fresh (Nat.le_refl _))⟩
end

/-! ### methods -/
structure M2 (X : Cx) (o : Expr) (m : Str) (apos : Pos) (e f : Expr) (cpos : Pos) : Prop where
  base : attributeBase o m X.env (eval o X.env) = eval o X.env
  few : ((backTo cpos (starEach [e, f] X.env)).all (fun x => !x.1) && (backToKw cpos (keywordEach [] X.env)).all (fun x => x.1.isSome)
    && decide (([e, f] : List Expr).length + ([] : List Keyword).length + (if ([] : List Keyword).isEmpty then 0 else 1) < 30)) = true
  line : (apos.endLine == cpos.line) = true
  trees : backTo cpos (starEach [e, f] X.env) = [(false, eval e X.env), (false, eval f X.env)]

/-- a is a dict, whatever its keys -/
def IsD (H : Hp) (a : Addr) : Prop := (∃ kvs, Rd H a (.dK kvs)) ∨ ∃ kvs, Rd H a (.dT kvs)
theorem isD_at {X : Cx} {pins : List (Addr × Obj)} {σ : St} {H : Hp} {s : Shared} {a : Addr} (I : Inv X pins σ H s) (d : IsD H a) :
    s.TypeIs (.ref a) "dict" ∧ (∀ b, Value.ref a = .ref b → ∃ ob, s.heap.get? b = some ob ∧ ob.dict = none) ∧ (a == sysModules) = false := by
  rcases d with ⟨kvs, e⟩ | ⟨kvs, e⟩
  · obtain ⟨_, hd, vs, _, dd⟩ := dk_rd I.hok e
    refine ⟨dd.typeIs, fun b q => ?_, hd⟩
    cases q
    obtain ⟨ob, _, _, h1, h2, _⟩ := dd
    exact ⟨ob, h1, h2.2.1⟩
  · obtain ⟨_, hd, xs, _, dd⟩ := dt_rd I.hok e
    refine ⟨dd.typeIs, fun b q => ?_, hd⟩
    cases q
    obtain ⟨ob, _, _, h1, h2, _⟩ := dd
    exact ⟨ob, h1, h2.2.1⟩

section
variable {X : Cx} {pins : List (Addr × Obj)} {σ : St} {H : Hp} {s : Shared} {a : Addr} {y d : V} {u r : Value} {o : Option V} {A : Around} {E : Value → Shared → Prop}
/-- d.get(y, x) -/
theorem d_get2 {Q : Value → Shared → Prop} (hu : A.units + 1 < cLine) (I : Inv X pins σ H s) (g : DGet H a y o) (ry : RelV y u) (rd : RelV d r) (h : ∀ w' s', Inv X pins σ H s' → RelV (o.getD d) w' → Q w' s') :
    wpAny (model X.prog X.w) A (call (.builtin "dict.get") [.ref a, u, r]) Q E s := by
  rcases g with ⟨kvs, k, e, ey, l⟩ | ⟨kvs, k, b, e, ey, eb, l⟩
  · subst ey
    obtain ⟨z, hd, vs, rel, dd⟩ := dk_rd I.hok e
    refine call_meetsIn PySem.F.slot_dict_get dd.typeIs PySem.F.entry_dict_get (PySem.F.args_dict_get_3 _ _ _) (meets_dict_get_default (mixKind X.prog X.w) a (kV_is ry) hd r) ⟨_, dd.mapOf, h _ _ (I.tok _) ?_⟩
    rw [l]
    exact (rel.val k).getD rd
  · subst ey
    cases (show u = Value.ref b from ry)
    obtain ⟨z, hd, xs, rel, dd⟩ := dt_rd I.hok e
    refine call_meetsIn PySem.F.slot_dict_get dd.typeIs PySem.F.entry_dict_get (PySem.F.args_dict_get_3 _ _ _) (meetsH_dict_get_default (tupleKind (mixKind X.prog X.w)) a b hd r) ⟨tupleKind_room_in1 hu, k, xs, key_of I.hok eb, dd, h _ _ (I.tok _) ?_⟩
    rw [l]
    exact (rel.val k).getD rd
end

def tDGet2 (td ty tx : TE) : TE := fun σ H Q => td σ H fun x H1 => ∃ a, x = .ref a ∧ IsD H1 a ∧ ty σ H1 fun y H2 => tx σ H2 fun z H3 => ∃ o, DGet H3 a y o ∧ Q (o.getD z) H3
section
variable {X : Cx} {o e f : Expr} {apos cpos : Pos} {td ty tx : TE}
theorem pe_dget2 (hu : X.A.units + 1 < cLine) (ho : PE X o td) (he : PE X e ty) (hf : PE X f tx) (m : M2 X o "get" apos e f cpos) : PE X (.Call (.Attribute o "get" apos) [e, f] [] cpos) (tDGet2 td ty tx) := by
  intro pins s σ H Q I h
  refine wpAny_Call_method m.base m.few m.line PySem.F.plainAttrs_dict PySem.F.slot_dict_get PySem.F.type_dict_get (thn (ho pins s σ H _ I h) fun u s1 ⟨x, H1, I1, rx, a, ex, d, q1⟩ => ?_)
  subst ex
  obtain rfl : u = Value.ref a := rx
  obtain ⟨t1, t2, _⟩ := isD_at I1 d
  refine ⟨t1, t2, ?_⟩
  rw [m.trees]
  refine Calls.callWith_builtin rfl (Calls.evalArgs_plain (Calls.spliced_cons (thn (he pins s1 σ H1 _ I1 q1) fun iv s2 ⟨y, H2, I2, ry, q2⟩ =>
    Calls.spliced_cons (thn (hf pins s2 σ H2 _ I2 q2) fun fv s3 ⟨z, H3, I3, rz, ov, g, q3⟩ => Calls.spliced_nil ?_))))
  exact d_get2 hu I3 g ry rz fun w' s4 I4 rw' => ⟨_, H3, I4, rw', q3⟩
end

/-! ### dict(d): a copy -/
section
variable {X : Cx} {pins : List (Addr × Obj)} {σ : St} {H : Hp} {s : Shared} {a : Addr} {kvs : List (Key × V)} {A : Around} {E : Value → Shared → Prop}
end


section
variable {X : Cx} {pins : List (Addr × Obj)} {σ : St} {H : Hp} {s : Shared} {a : Addr} {y : V} {u : Value} {A : Around} {E : Value → Shared → Prop}
end
end L2
namespace L2
open PySem PySem.Spec PyProof.Rows
/-! ### a dict's pairs: keys that differ -/
section
variable {κ : Type} [DecidableEq κ]
theorem valV_not {kvs : List (κ × V)} {k : κ} (h : valV kvs k = none) : ¬ k ∈ kvs.map (·.1) := by
  intro m
  obtain ⟨p, hp, e⟩ := List.mem_map.mp m
  have q : (kvs.any fun kv => decide (kv.1 = k)) = true := List.any_eq_true.mpr ⟨p, hp, decide_eq_true e⟩
  rw [valV_any, h] at q
  exact absurd q (by simp)
theorem valV_in {kvs : List (κ × V)} {k : κ} {v : V} (h : valV kvs k = some v) : k ∈ kvs.map (·.1) := by
  have q : (kvs.any fun kv => decide (kv.1 = k)) = true := by
    rw [valV_any, h]
    all_goals rfl
  obtain ⟨p, hp, e⟩ := List.any_eq_true.mp q
  exact List.mem_map.mpr ⟨p, hp, of_decide_eq_true e⟩
end
end L2

set_option Elab.async false
set_option linter.all false
set_option maxRecDepth 100000
namespace L2
open PySem PySem.Spec PyProof.Rows
/-! ### sorted(d, reverse=b), d a dict whose keys are ints -/
theorem paired_of {α β : Type} {R : α → β → Prop} : ∀ {xs : List α} {ys : List β}, xs.length = ys.length → (∀ (j : Nat) x y, xs[j]? = some x → ys[j]? = some y → R x y) → Paired R xs ys
  | [], [], _, _ => .nil
  | x :: xs, y :: ys, hl, h => .cons (h 0 x y rfl rfl) (paired_of (by simpa using hl) fun j a b e1 e2 => h (j + 1) a b (by simpa using e1) (by simpa using e2))
theorem kv_keys {kvs : List (Key × V)} {vs : List (Key × Value)} (r : KV kvs vs) : vs.map (·.1) = kvs.map (·.1) := by
  unfold KV at r
  induction r with
  | nil => rfl
  | cons h _ ih => rw [List.map_cons, List.map_cons, ih, h.1]
section
variable {prog : Program} {w : World} {A : Around} {E : Value → Shared → Prop} {s : Shared}
end
section
variable {X : Cx}
end
end L2

set_option Elab.async false
set_option linter.all false
set_option maxRecDepth 100000
namespace L2
open PySem PySem.Spec PyProof.Rows
section
variable {X : Cx}
/-- t + u, whatever they hold -/
def rCatA (K : PySem.W.Frag) : R2 := fun x y H Q => ∃ a b xs ys, x = .ref a ∧ y = .ref b ∧ SqT K H a xs ∧ SqT K H b ys ∧ xs.length + ys.length ≤ sizeLine ∧
  (xs = [] → Q (.ref b) H) ∧ (xs ≠ [] → ys = [] → Q (.ref a) H) ∧ (xs ≠ [] → ys ≠ [] → ∀ p, H p = none → Q (.ref p) (upd H p (.tup (xs ++ ys))))
theorem op_catA : OpR X (binaryOp .Add) (rCatA X.K) := by
  intro pins s σ H x y v u Q I rx ry h
  obtain ⟨a, b, xs, ys, rfl, rfl, ha, hb, hz, q0, q1, q2⟩ := h
  by_cases hx : xs = []
  · cases rx
    cases ry
    obtain ⟨its, r1, p1, _⟩ := I.tuple ha
    obtain ⟨its2, r2, p2, _⟩ := I.tuple hb
    obtain ⟨⟨cls, dd, data, sl⟩, ho, hc, n, hd⟩ := id p1
    obtain ⟨⟨cls2, dd2, data2, sl2⟩, ho2, hc2, n2, hd2⟩ := id p2
    simp only at hc hd hc2 hd2
    subst hc hd hc2 hd2
    have e0 : its.toArray.isEmpty = true := by
      have := r1.nil_iff.mpr hx
      simp [this]
    exact concat_meets ⟨_, ho, rfl⟩ ⟨_, ho2, rfl⟩ noFill_tuple_add seq_tuple_add PySem.F.slot_tuple_add PySem.F.entry_tuple_add (PySem.F.args_tuple_add_2 _ _)
      (tuple_addW0 a b its.toArray its2.toArray n n2 dd dd2 sl sl2 e0) ⟨ho, ho2, ⟨.ref b, H, I, rfl, q0 hx⟩⟩
  · exact op_catT pins s σ H (.ref a) (.ref b) v u Q I rx ry ⟨a, b, xs, ys, rfl, rfl, ha, hb, hx, hz, q1 hx, q2 hx⟩
/-- range(n) as a value -/
def tRng1 (ta : TA) : TE := fun σ H Q => ta σ H fun vs H1 => ∃ j : Int, vs = [.int j] ∧ ∀ p, H1 p = none → Q (.ref p) (upd H1 p (.rng 0 j))
theorem pe_rng1 {a : Expr} {ta : TA} {p pos : Pos} (hg : Gl X "range") (hm : X.mg "range" = none) (ha : PA X [a] ta) (hs : starEach [a] X.env = [(false, eval a X.env)] := by rfl) : PE X (.Call (.Name "range" p) [a] [] pos) (tRng1 ta) := by
  intro pins s σ H Q I h
  refine Call_ (ld_blt I hg hm boot_range (PyProof.Rows.callWith_type1 (thn (ha pos pins s σ H _ I h) fun us s1 ⟨vs, H1, I1, r1, q1⟩ => ?_) hs rfl))
  obtain ⟨j, e, q⟩ := q1
  subst e
  cases r1 with
  | cons r rr =>
    cases rr
    obtain ⟨t, rfl⟩ := r
    refine call_range_1 ?_
    exact ⟨.ref _, _, I1.laid (o := .rng 0 j) (fun b o e => Heap.get?_push_of_some _ e) (Nat.le_refl _) ⟨_, _, _, Heap.get?_push_size _ rfl⟩, rfl, q _ (I1.hok.fresh (Nat.le_refl _))⟩
/-- list(r), r a range -/
theorem call_list_rng (hc : X.calm = true) : CallR X (.type "list") (fun xs H Q => ∃ (p : Addr) (hi : Int), xs = [.ref p] ∧ H p = some (.rng 0 hi) ∧ 0 ≤ hi ∧ hi ≤ 100000 ∧ ∀ l, H l = none → Q (.ref l) (upd H l (.lst (((List.range hi.toNat).map fun (k : Nat) => (k : Int)).map V.int)))) := by
  intro pins s σ H xs us Q I r h
  obtain ⟨p, hi, rfl, hq, h0, h1, q⟩ := h
  obtain ⟨u, rfl, ru⟩ := vals1 r
  cases ru
  obtain ⟨t1, t2, t3, e⟩ := I.hok p _ hq
  have hn : Builtin.Range.rangeSize 0 hi 1 = ((hi.toNat : Nat) : Int) := by rw [rangeSize_one]; split <;> omega
  refine call_list_range (I.ok.hd hc) e (small_one (by decide) (by decide) (by omega) (by omega)) hn (by omega) fun h' tk acc c kk hS hacc => ?_
  refine ⟨.ref _, _, I.laid (t' := tk) (o := .lst (((List.range hi.toNat).map fun (k : Nat) => (k : Int)).map V.int)) kk (Nat.le_refl _) ⟨?_, acc.toList, c, paired_of ?_ (fun j x y e1 e2 => ?_), by simpa using hS⟩, rfl, q _ (I.hok.fresh (Nat.le_refl _))⟩
  · rw [List.length_map, List.length_map, List.length_range]
    have : (100000 : Nat) ≤ sizeLine := by decide
    omega
  · rw [List.length_map, List.length_map, List.length_range, Array.length_toList, hacc.1]
  · obtain ⟨z, hz, rfl⟩ := map_at e1
    obtain ⟨tk, rfl⟩ := hacc.2 j y (by rw [← Array.getElem?_toList]; exact e2)
    rw [List.getElem?_map] at hz
    cases hr : (List.range hi.toNat)[j]? with
    | none => rw [hr] at hz; cases hz
    | some k =>
      rw [hr] at hz
      have ek : j = k := by
        obtain ⟨h1, h2⟩ := List.getElem?_eq_some_iff.mp hr
        rw [List.getElem_range] at h2
        exact h2
      have : (k : Int) = z := Option.some.inj hz
      refine ⟨tk, ?_⟩
      rw [← this, ← ek]
      simp
end
end L2

set_option Elab.async false
set_option linter.all false
namespace L2
/-! ### heaps turned about -/
def cntG (ns : List Int) (k : Int) : Nat := (ns.filter fun x => decide (k ≤ x)).length
def turn (ns : List Int) : List Int := (List.range (ns.headD 0).toNat).map fun (k : Nat) => ((cntG ns ((k : Int) + 1) : Nat) : Int)
end L2

set_option Elab.async false
set_option linter.all false
namespace L2
open PySem PySem.Spec PyProof.Rows
/-! ### tuples stay; lists of tuples of ints -/
def Tups (H H' : Hp) : Prop := ∀ b xs, H b = some (.tup xs) → H' b = some (.tup xs)
theorem Tups.trans {H H1 H2 : Hp} (a : Tups H H1) (b : Tups H1 H2) : Tups H H2 := fun c xs h => b c xs (a c xs h)
theorem Same.tups {H H' : Hp} (h : Same H H') : Tups H H' := fun b xs e => h b _ e
theorem Keep.tups {H H' : Hp} {st ga ca : Addr} {N : Nat} (K : Keep [st, ga] H H') (S : StAt H st ga ca N) : Tups H H' := fun b xs e => K b _ e (fun z => by
  obtain ⟨gs, cs, q, n, h1, h2, _⟩ := S.ex
  simp only [List.mem_cons, List.not_mem_nil, or_false] at z
  rcases z with rfl | rfl
  · rw [h1] at e; cases e
  · rw [h2] at e; cases e)
theorem Tups.set {H : Hp} {l : Addr} {xs : List V} {o : HO} (h : H l = some (.lst xs)) : Tups H (upd H l o) := fun b ys e => by
  rw [upd_ne (ne_of e h (by intro z; cases z))]; exact e
def Tup1 (hs : List Int) (v : V) (H : Hp) : Prop := ∃ q, v = .ref q ∧ H q = some (.tup (hs.map V.int))
theorem Tup1.mv {H H' : Hp} {hs : List Int} {v : V} (t : Tups H H') (h : Tup1 hs v H) : Tup1 hs v H' := let ⟨q, e, h⟩ := h; ⟨q, e, t _ _ h⟩
theorem All2.mv {H H' : Hp} {ls : List (List Int)} {xs : List V} (t : Tups H H') (h : All2 Tup1 H ls xs) : All2 Tup1 H' ls xs := h.imp fun _ _ z => z.mv t
theorem All2.at {α : Type} {R : α → V → Hp → Prop} {H : Hp} : ∀ {l : List α} {xs : List V} {i : Nat} {a : α}, All2 R H l xs → l[i]? = some a → ∃ x, xs[i]? = some x ∧ R a x H
  | _, _, _, _, .nil, e => by simp at e
  | _, _, 0, _, .cons r _, e => by simp at e; subst e; exact ⟨_, rfl, r⟩
  | _, _, i + 1, a, .cons _ t, e => by
    obtain ⟨u, h1, h2⟩ := All2.at (i := i) (a := a) t (by simpa using e)
    exact ⟨u, by simpa using h1, h2⟩
theorem All2.snoc {α : Type} {R : α → V → Hp → Prop} {H : Hp} {l : List α} {xs : List V} {a : α} {x : V} (h : All2 R H l xs) (r : R a x H) : All2 R H (l ++ [a]) (xs ++ [x]) := h.append (.cons r .nil)
theorem All2.take {α : Type} {R : α → V → Hp → Prop} {H : Hp} : ∀ {l : List α} {xs : List V} (n : Nat), All2 R H l xs → All2 R H (l.take n) (xs.take n)
  | _, _, 0, _ => .nil
  | _, _, _ + 1, .nil => .nil
  | _, _, n + 1, .cons r t => .cons r (t.take n)
/-! ### joined heaps -/
def maxC : List (List Int) → Int → Nat
  | [], _ => 0
  | h :: r, x => max (h.count x) (maxC r x)
def IsJoin (ls : List (List Int)) (ms : List Int) : Prop := ms.Pairwise (· ≥ ·) ∧ ∀ x, ms.count x = maxC ls x
theorem IsJoin.uniq {ls : List (List Int)} {a b : List Int} (h1 : IsJoin ls a) (h2 : IsJoin ls b) : a = b :=
  perm_ge_eq h1.1 h2.1 (List.perm_iff_count.mpr fun x => by rw [h1.2, h2.2])
theorem maxC_append (a b : List (List Int)) (x : Int) : maxC (a ++ b) x = max (maxC a x) (maxC b x) := by
  induction a with
  | nil => simp [maxC]
  | cons h r ih => rw [List.cons_append, maxC, ih, maxC]; omega
theorem maxC_le {ls : List (List Int)} {x : Int} {B : Nat} (h : ∀ l ∈ ls, l.count x ≤ B) : maxC ls x ≤ B := by
  induction ls with
  | nil => exact Nat.zero_le _
  | cons a r ih =>
    have h1 := h a (by simp)
    have h2 := ih fun l hl => h l (by simp [hl])
    rw [maxC]; omega
theorem le_maxC {ls : List (List Int)} {x : Int} {l : List Int} (h : l ∈ ls) : l.count x ≤ maxC ls x := by
  induction ls with
  | nil => cases h
  | cons a r ih =>
    rw [maxC]
    rcases List.mem_cons.mp h with rfl | h
    · omega
    · have := ih h; omega
theorem maxC_flat (ls : List (List Int)) (x : Int) : maxC ls x ≤ ls.flatten.count x := by
  induction ls with
  | nil => exact Nat.zero_le _
  | cons a r ih => rw [maxC, List.flatten_cons, List.count_append]; omega
theorem maxC_zero {ls : List (List Int)} {x : Int} (h : x ∉ ls.flatten) : maxC ls x = 0 := by
  have := maxC_flat ls x
  rw [List.count_eq_zero_of_not_mem h] at this
  omega
/-- the greatest of the numbers -/
theorem max_of_counts {ls : List (List Int)} {x m : Int} (h : Ismax m (ls.map fun l => ((l.count x : Nat) : Int))) : m = ((maxC ls x : Nat) : Int) := by
  obtain ⟨h1, h2⟩ := h
  obtain ⟨l, hl, rfl⟩ := List.mem_map.mp h1
  have a := le_maxC (x := x) hl
  have b : maxC ls x ≤ l.count x := maxC_le fun k hk => by
    have := h2 _ (List.mem_map.mpr ⟨k, hk, rfl⟩)
    omega
  omega
def blow (f : Int → Nat) : List Int → List Int
  | [] => []
  | u :: r => List.replicate (f u) u ++ blow f r
theorem blow_append (f : Int → Nat) (a b : List Int) : blow f (a ++ b) = blow f a ++ blow f b := by
  induction a with
  | nil => rfl
  | cons u r ih => rw [List.cons_append, blow, ih, blow, List.append_assoc]
theorem blow_mem {f : Int → Nat} {us : List Int} {x : Int} (h : x ∈ blow f us) : x ∈ us := by
  induction us with
  | nil => exact h
  | cons u r ih =>
    rcases List.mem_append.mp h with h | h
    · rw [List.eq_of_mem_replicate h]; simp
    · simp [ih h]
theorem blow_count {f : Int → Nat} {us : List Int} (hn : us.Nodup) (x : Int) : (blow f us).count x = if x ∈ us then f x else 0 := by
  induction us with
  | nil => rfl
  | cons u r ih =>
    obtain ⟨h1, h2⟩ := List.nodup_cons.mp hn
    rw [blow, List.count_append, ih h2, List.count_replicate]
    by_cases e : u = x
    · subst e; simp [h1]
    · have e' : ¬ x = u := fun z => e z.symm
      simp [e, e', List.mem_cons]
theorem blow_pw {f : Int → Nat} {us : List Int} (h : us.Pairwise (· ≥ ·)) : (blow f us).Pairwise (· ≥ ·) := by
  induction us with
  | nil => exact .nil
  | cons u r ih =>
    obtain ⟨h1, h2⟩ := List.pairwise_cons.mp h
    refine List.pairwise_append.mpr ⟨?_, ih h2, fun a ha b hb => ?_⟩
    · exact List.pairwise_replicate.mpr (Or.inr (Int.le_refl _))
    · rw [List.eq_of_mem_replicate ha]
      exact h1 _ (blow_mem hb)
theorem blow_join {ls : List (List Int)} {us : List Int} (hn : us.Nodup) (hp : us.Pairwise (· ≥ ·)) (hm : ∀ x, x ∈ us ↔ x ∈ ls.flatten) : IsJoin ls (blow (maxC ls) us) := by
  refine ⟨blow_pw hp, fun x => ?_⟩
  rw [blow_count hn]
  by_cases h : x ∈ us
  · rw [if_pos h]
  · rw [if_neg h, maxC_zero fun z => h ((hm x).mpr z)]
/-! ### choices -/
def chG (ns : List Int) : List (List Int) := ns.foldl (fun cs n => cs ++ cs.map (· ++ [n])) [[]]
theorem chG_snoc (ns : List Int) (n : Int) : chG (ns ++ [n]) = chG ns ++ (chG ns).map (· ++ [n]) := by
  unfold chG; rw [List.foldl_append]; rfl
theorem chG_len : ∀ (k : Nat) (ns : List Int), ns.length = k → (chG ns).length = 2 ^ k
  | 0, ns, h => by rw [List.length_eq_zero_iff.mp h]; rfl
  | k + 1, ns, h => by
    have hne : ns ≠ [] := fun z => by rw [z] at h; cases h
    have e := (List.dropLast_concat_getLast hne).symm
    rw [e, chG_snoc, List.length_append, List.length_map, chG_len k ns.dropLast (by rw [List.length_dropLast]; omega), Nat.pow_succ]
    omega
theorem chG_mem : ∀ (k : Nat) (ns : List Int), ns.length = k → ∀ c ∈ chG ns, c.length ≤ k ∧ ∀ x ∈ c, x ∈ ns
  | 0, ns, h, c, hc => by
    rw [List.length_eq_zero_iff.mp h] at hc
    have : c = [] := by simpa [chG] using hc
    rw [this]
    exact ⟨Nat.le_refl _, fun x hx => nomatch hx⟩
  | k + 1, ns, h, c, hc => by
    have hne : ns ≠ [] := fun z => by rw [z] at h; cases h
    have e := (List.dropLast_concat_getLast hne).symm
    rw [e, chG_snoc] at hc
    have ih := chG_mem k ns.dropLast (by rw [List.length_dropLast]; omega)
    rcases List.mem_append.mp hc with hc | hc
    · obtain ⟨a, b⟩ := ih c hc
      exact ⟨by omega, fun x hx => (List.dropLast_sublist ns).subset (b x hx)⟩
    · obtain ⟨d, hd, rfl⟩ := List.mem_map.mp hc
      obtain ⟨a, b⟩ := ih d hd
      refine ⟨by simp; omega, fun x hx => ?_⟩
      rcases List.mem_append.mp hx with hx | hx
      · exact (List.dropLast_sublist ns).subset (b x hx)
      · have : x = ns.getLast hne := by simpa using hx
        rw [this]; exact List.getLast_mem hne
theorem putK_keys {κ : Type} [DecidableEq κ] {kvs : List (κ × V)} {k : κ} {v w : V} (h : valV kvs k = some v) : (putK kvs k w).map (·.1) = kvs.map (·.1) := by
  unfold putK
  rw [if_pos (by rw [valV_any, h]; rfl), List.map_map]
  refine List.map_congr_left fun x _ => ?_
  show (if x.1 = k then (x.1, w) else x).1 = x.1
  split <;> rfl
end L2

set_option Elab.async false
set_option linter.all false
namespace L2
open PySem PySem.Spec PyProof.Rows
/-! ### rules within a comprehension: the fragment by its own name -/
section
variable {X : Cx}
theorem OpR.kk {f : Value → Value → Sem Value} (K0 : PySem.W.Frag) (r : PySem.W.Frag → R2) (ho : OpR X f (r X.K)) (h : X.K = K0) : OpR X f (r K0) := by subst h; exact ho
theorem IxR.kk (K0 : PySem.W.Frag) (r : PySem.W.Frag → R2) (ho : IxR X (r X.K)) (h : X.K = K0) : IxR X (r K0) := by subst h; exact ho
theorem CallR.kk {f : Value} (K0 : PySem.W.Frag) (r : PySem.W.Frag → List V → Hp → VK → Prop) (ho : CallR X f (r X.K)) (h : X.K = K0) : CallR X f (r K0) := by subst h; exact ho
theorem MtR.kk {id : String} (K0 : PySem.W.Frag) (r : PySem.W.Frag → V → List V → Hp → VK → Prop) (ho : MtR X id (r X.K)) (h : X.K = K0) : MtR X id (r K0) := by subst h; exact ho
def rLenSq (K : PySem.W.Frag) : List V → Hp → VK → Prop := fun xs H Q => ∃ p ys, xs = [.ref p] ∧ (SqL K H p ys ∨ SqT K H p ys) ∧ Q (.int ys.length) H
theorem call_len_seqK (K0 : PySem.W.Frag) (h : X.K = K0) : CallR X (.builtin "len") (rLenSq K0) := CallR.kk K0 rLenSq call_len_seq h
theorem op_catAK (K0 : PySem.W.Frag) (h : X.K = K0) : OpR X (binaryOp .Add) (rCatA K0) := OpR.kk K0 rCatA op_catA h
theorem ix_tupK (K0 : PySem.W.Frag) (h : X.K = K0) : IxR X (rIxT K0) := IxR.kk K0 rIxT ix_tup h
theorem mt_countTK (K0 : PySem.W.Frag) (h : X.K = K0) : MtR X "tuple.count" (rCount K0 SqT) := MtR.kk K0 (fun K => rCount K SqT) mt_countT h
variable {o e : Expr} {es : List Expr} {to : TE} {t : TA} {name : Str} {apos cpos : Pos} {T id : String} {r : V → List V → Hp → VK → Prop}
theorem pe_bmK (K0 : PySem.W.Frag) (h : X.K = K0) (pa : PlainAttrs T) (slot : Slot T name id) (hty : typeOf (.builtin id) = pure (.type "method_descriptor")) (hm : MtR X id r) (ho : PE X o to) (ha : PA X (e :: es) t)
    (hbase : attributeBase o name X.env (eval o X.env) = eval o X.env := by rfl)
    (hfew : ((backTo cpos (starEach (e :: es) X.env)).all (fun x => !x.1) && (backToKw cpos (keywordEach [] X.env)).all (fun x => x.1.isSome) && decide ((e :: es).length + ([] : List Keyword).length + (if ([] : List Keyword).isEmpty then 0 else 1) < 30)) = true := by rfl)
    (hline : (apos.endLine == cpos.line) = true := by rfl) (hs : starEach (e :: es) X.env = (false, eval e X.env) :: starEach es X.env := by rfl) (hplain : (backTo cpos (starEach es X.env)).any (·.1) = false := by rfl) : PE X (.Call (.Attribute o name apos) (e :: es) [] cpos) (tBM K0 T r to t) := by
  subst h
  exact pe_bm pa slot hty hm ho ha hbase hfew hline hs hplain
theorem pt_truthK {a : Expr} {ta : TE} (K0 : PySem.W.Frag) (h : X.K = K0) (ha : PE X a ta) (he : ∀ whole, isTrue a X.env whole = (do let v ← whole; standAt a.pos; holding [v] (truthy v))) : PT X a (fun σ H Q => ta σ H fun x H' => ∃ k, TruV K0 x H' k ∧ Q k H') := by
  subst h
  exact pt_truth ha he
end
end L2

set_option Elab.async false
set_option linter.all false
namespace L2
open PySem PySem.Spec PyProof.Rows
/-- the numbers of a rule's heaps -/
def upto (n : Nat) : List Int := (List.range n).map fun (k : Nat) => (k : Int)
theorem upto_succ (n : Nat) : upto (n + 1) = upto n ++ [(n : Int)] := by unfold upto; rw [List.range_succ, List.map_append]; rfl
theorem upto_len (n : Nat) : (upto n).length = n := by unfold upto; simp
theorem upto_mem {n : Nat} {x : Int} (h : x ∈ upto n) : 0 ≤ x ∧ x < n := by
  unfold upto at h
  obtain ⟨k, hk, rfl⟩ := List.mem_map.mp h
  rw [List.mem_range] at hk
  omega
/-- the next choices, one by one -/
theorem cat_one {K : PySem.W.Frag} {H : Hp} {q : Addr} {hs : List Int} {z : Int} {t : Addr} {Q : V → Hp → Prop} (hq : H q = some (.tup (hs.map V.int))) (ht : H t = some (.tup [V.int z])) (hl : hs.length ≤ 60)
    (k : ∀ (v : V) (H' : Hp), Tup1 (hs ++ [z]) v H' → Same H H' → Q v H') : rCatA K (.ref q) (.ref t) H Q := by
  refine ⟨q, t, _, _, rfl, rfl, SqT.of hq, SqT.of ht, ?_, fun e => ?_, fun _ e => ?_, fun _ _ p hp => ?_⟩
  · rw [List.length_map]
    exact Nat.le_trans (m := 61) (by simp; omega) (by decide)
  · have : hs = [] := List.map_eq_nil_iff.mp e
    subst this
    exact k _ _ ⟨t, rfl, ht⟩ (fun _ _ h => h)
  · cases e
  · exact k _ _ ⟨p, rfl, by rw [upd_same, List.map_append]; rfl⟩ (Same.new hp)
/-- the heaps that a choice names -/
def pickG (rule : List (List Int)) (ch : List Int) : List (List Int) := ch.map fun j => rule.getD j.toNat []
theorem pick_at {H : Hp} {rule : List (List Int)} {rs : List V} (h2 : All2 Tup1 H rule rs) {j : Int} (h0 : 0 ≤ j) (h1 : j < rule.length) : ∃ v, atI rs j = some v ∧ Tup1 (rule.getD j.toNat []) v H := by
  obtain ⟨n, rfl⟩ : ∃ n : Nat, j = (n : Int) := ⟨j.toNat, by omega⟩
  have hn : n < rule.length := by omega
  obtain ⟨x, hx, r⟩ := h2.at (List.getElem?_eq_getElem hn)
  refine ⟨x, atI_nat hx, ?_⟩
  have : rule.getD (n : Int).toNat [] = rule[n] := by simp [hn]
  rw [this]
  exact r
theorem flat_le {B : Nat} : ∀ {ls : List (List Int)}, (∀ l ∈ ls, l.length ≤ B) → ls.flatten.length ≤ B * ls.length
  | [], _ => Nat.zero_le _
  | l :: r, h => by
    have h1 := h l (by simp)
    have h2 := flat_le (ls := r) fun m hm => h m (by simp [hm])
    rw [List.flatten_cons, List.length_append, List.length_cons, Nat.mul_succ]
    omega
/-- a filter, one by one -/
theorem filter_take {α : Type} (p : α → Bool) {l : List α} {i : Nat} {x : α} (h : l[i]? = some x) : (l.take (i + 1)).filter p = (l.take i).filter p ++ if p x = true then [x] else [] := by
  obtain ⟨hi, e⟩ := List.getElem?_eq_some_iff.mp h
  rw [List.take_succ_eq_append_getElem hi, List.filter_append, e]
  by_cases c : p x = true
  · rw [List.filter_cons, if_pos c, if_pos c]; rfl
  · rw [List.filter_cons, if_neg c, if_neg c]; rfl
end L2

set_option Elab.async false
set_option linter.all false
set_option maxRecDepth 100000
namespace L2
open PySem PySem.Spec PyProof.Rows
open AutoSeq1 (wpAny_loadPart')
/-! ### enumerate(a), a a list or a tuple, walked by a tuple target -/
theorem drawsS {prog : Program} {w : World} {A : Around} (hh : A.handled = none) (k : Bool) (it l : Addr) (hne : l ≠ it) (items : Array Value) :
    Draws prog w A it [it, l] items.size (fun i v => items[i]? = some v) (fun i h => IterAt k h it l i ∧ SeqIs k h l items) where
  live := fun _ _ st => let ⟨o, ho, _⟩ := st.1; ⟨o, ho⟩
  frame := fun _ _ _ st hk => ⟨st.1.kept fun o e => hk it (by simp) o e, st.2.kept fun o e => hk l (by simp) o e⟩
  item := fun i s Q E hi st hQ => nextS st.1 st.2 (x := items[i]) (by simp [hi]) fun h' a b => hQ _ h' s.toks (by simp [hi]) ⟨a, st.2.kept fun o e => b.extBut _ _ hne e⟩ b
  done := fun s Q E st hE => endS hh st.1 st.2 (by simp) hE
def eH1 (k : Bool) (h : Heap) (l : Addr) : Heap := h.push { cls := .type (itName k), data := .fields #[.ref l, .int 0 0] }
def eH2 (k : Bool) (h : Heap) (l : Addr) : Heap := (eH1 k h l).push { cls := .type "enumerate", data := .fields #[.none, .bool false, .ref h.objs.size, rawInt 0, .none, .none] }
set_option maxHeartbeats 1000000 in
theorem enum_tup_meets (l : Addr) (items : Array Value) (n : Nat) (dct : Option Addr) (sl : Array (Option Value)) :
    Meets (Builtin.«enumerate.__new__» ⟨[.type "enumerate", .ref l], []⟩) (fun _ R s => s.heap.get? l = some { cls := .type "tuple", dict := dct, data := .seq items n, slots := sl } ∧ R (.ok (.ret (.ref (eH1 true s.heap l).objs.size))) { s with heap := eH2 true s.heap l }) :=
  .of_wp fun prog w A R s h => by
    obtain ⟨hp, g, d, tk, os⟩ := s
    obtain ⟨hl, h⟩ := h
    have hsub := sub_enumerate
    have hL : Heap.IsTuple (Shared.heap ⟨hp, g, d, tk, os⟩) l items := ⟨_, hl, rfl, n, rfl⟩
    wp_walk using wpAny_loadPart' hl
    refine wpAny_stack_any fun st => wpAny_pure ?_
    split
    · rename_i c _ _ _ _ _
      cases (c == Value.type "enumerate")
      all_goals (wp_walk using wpAny_loadPart' hl, wpAny_pyIter_tuple hL; exact ⟨_, rfl, h⟩)
    · wp_walk using wpAny_loadPart' hl, wpAny_pyIter_tuple hL
      exact ⟨_, rfl, h⟩
section
variable {prog : Program} {w : World} {A : Around} {E : Value → Shared → Prop} {s : Shared}
theorem call_enumS {k : Bool} {l : Addr} {items : Array Value} {Q : Value → Shared → Prop} (hL : SeqIs k s.heap l items)
    (h : ∀ h', IsEnum h' (s.heap.objs.size + 1) s.heap.objs.size 0 .none → IterAt k h' s.heap.objs.size l 0 → (∀ b o, s.heap.get? b = some o → h'.get? b = some o) → Q (.ref (s.heap.objs.size + 1)) { s with heap := h' }) :
    wpAny (model prog w) A (call (.type "enumerate") [.ref l]) Q E s := by
  cases k
  · exact call_enumerate_list hL fun h' a b _ c => h h' a b c
  · obtain ⟨⟨c, dct, dt, sl⟩, hl, hc, n, hd⟩ := hL
    replace hc : c = .type "tuple" := hc
    replace hd : dt = .seq items n := hd
    subst hc hd
    refine callType_new F.called_enumerate (by decide) (F.typeCall_enumerate_1 _) (F.newCall_enumerate_1 _) (fun obj => F.args_object_init_2 obj _) F.entry_enumerate_new (enum_tup_meets l items n dct sl) ⟨hl, ?_⟩
    have n1 : (eH1 true s.heap l).objs.size = s.heap.objs.size + 1 := Heap.size_push ..
    have f2 : (eH2 true s.heap l).get? (eH1 true s.heap l).objs.size = some _ := Heap.get?_push_size _ rfl
    have f1 : (eH2 true s.heap l).get? s.heap.objs.size = some _ := Heap.get?_push_of_some _ (Heap.get?_push_size _ rfl)
    show _ ∧ _
    rw [n1] at f2 ⊢
    exact ⟨⟨_, f2, rfl⟩, h _ f2 ⟨_, f1, rfl, rfl⟩ fun b o e => Heap.get?_push_of_some _ (Heap.get?_push_of_some _ e)⟩
end
def Ite (K : PySem.W.Frag) (k : Bool) (a : Addr) : It :=
  ⟨fun i H => ∃ xs x, Sq k K H a xs ∧ xs[i]? = some x,
   fun i H v H' => ∃ T x, H T = none ∧ v = .ref T ∧ H' = upd H T (.tup [.int i, x]) ∧ ∀ xs, Sq k K H a xs → xs[i]? = some x,
   fun i H => ∃ xs, Sq k K H a xs ∧ xs.length = i⟩
theorem turn_enum {P : Program} {w : World} {K : PySem.W.Frag} {elts : List Expr} {x1 : Nat} {pos : Pos} (k : Bool) (a e it : Addr) (hei : e ≠ it) (hai : a ≠ it) (hae : a ≠ e) :
    Turn P w K (.Tuple elts x1 pos) (Ite K k a) [e, it] e (fun i h => (∃ old, IsEnum h e it i old) ∧ IterAt k h it a i) where
  mem := by simp
  obj := fun i h st c hc => by
    obtain ⟨⟨old, g0⟩, ⟨o1, e1, _, d1⟩⟩ := st
    simp only [List.mem_cons, List.not_mem_nil, or_false] at hc
    rcases hc with rfl | rfl
    · exact ⟨_, g0, fun v q => by cases q⟩
    · exact ⟨_, e1, fun v q => by rw [d1] at q; cases q⟩
  keep := fun i h h' st f => by
    obtain ⟨⟨old, g0⟩, g1⟩ := st
    exact ⟨⟨old, f e (by simp) _ g0⟩, g1.kept (f it (by simp))⟩
  item := by
    intro X hP hw hK hc i pins s σ H E I hf st hg
    subst hP hw hK
    obtain ⟨xs, x, hq, hx⟩ := hg
    obtain ⟨us, rv, p, _⟩ := I.sq hq
    obtain ⟨u, hu, ru⟩ := rv.get hx
    obtain ⟨⟨old, g0⟩, g1⟩ := st
    have hlt : i < us.toArray.size := by
      have := (List.getElem?_eq_some_iff.mp hu).1
      simpa using this
    have hh : X.A.in1.handled = none := I.ok.hd hc
    refine wpAny_pyNext_enum_itemD (drawsS hh k it a hai us.toArray) g0 ⟨g1, p⟩ hlt hei (by simp [hei, Ne.symm hae]) fun y h' tk hy ho hst hT _ kk => ⟨_, rfl, ?_⟩
    have ey : y = u := by
      have : us.toArray[i]? = some u := by simpa using hu
      rw [this] at hy
      exact (Option.some.inj hy).symm
    subst ey
    refine wpAny_letOwnedTupleGo_enum (s := { s with heap := h', toks := tk + 1 }) ho fun h2 he2 sb => ?_
    have up : ∀ c o, c ≠ e → h'.get? c = some o → h2.get? c = some o := fun c o n q => (sb.2 c n).trans q
    have lt : e < s.heap.objs.size := Heap.lt_size g0
    have tp : IsPair h2 s.heap.objs.size (.int i tk) y := up _ _ (Nat.ne_of_gt lt) hT
    have I1 : Inv X pins σ (upd H s.heap.objs.size (.tup [.int i, x])) { s with heap := h2, toks := tk + 1 } := I.turnedN (t' := tk + 1) (ch := [e, it]) hf (fun c o n q => up c o (fun z => n (by simp [z])) (kk c o (fun z => n (by simp [z])) (fun z => n (by simp [z])) q)) (Nat.le_refl _) (pair_ok ⟨tk, rfl⟩ ru tp)
    refine ⟨.ref s.heap.objs.size, _, I1, rfl, ⟨_, x, I.hok.fresh (Nat.le_refl _), rfl, rfl, fun xs' h => by rw [I.sq_inj h hq]; exact hx⟩, ⟨⟨y, by simpa using he2⟩, hst.1.kept fun o q => up _ _ (Ne.symm hei) q⟩, fun c hc => ?_⟩
    have hlt2 : c < s.heap.objs.size := by
      simp only [List.mem_cons, List.not_mem_nil, or_false] at hc
      rcases hc with rfl | rfl
      · exact lt
      · exact g1.lt
    rw [upd_ne (Nat.ne_of_lt hlt2)]
    exact (hf c hc).1
  done := by
    intro X hP hw hK hc i pins s σ H E I hf st hg
    subst hP hw hK
    obtain ⟨xs, hq, hl⟩ := hg
    obtain ⟨us, rv, p, _⟩ := I.sq hq
    obtain ⟨⟨old, g0⟩, g1⟩ := st
    have hh : X.A.in1.handled = none := I.ok.hd hc
    have e1 : i = us.toArray.size := by
      have := rv.length
      rw [← hl, this]; simp
    rw [e1] at g1
    exact wpAny_pyNext_enum_endD (drawsS hh k it a hai us.toArray) g0 ⟨g1, p⟩ fun h' kk => ⟨rfl, I.turnedL (t' := s.toks) (ch := [e, it]) hf fun c o n q => kk c o (fun z => n (by simp [z])) q⟩
  self := fun _ _ _ _ _ st h => by
    obtain ⟨⟨old, g0⟩, _⟩ := st
    exact wpAny_pyIter_enum g0 h
section
variable {X : Cx} {elts : List Expr} {x1 : Nat} {tpos : Pos}
def iEnum (K : PySem.W.Frag) (k : Bool) (ta : TA) : TI := fun σ H R => ta σ H fun vs H1 => ∃ a, vs = [.ref a] ∧ (∃ xs, Sq k K H1 a xs) ∧ R (Ite K k a) H1
theorem pi_enum (k : Bool) {a : Expr} {ta : TA} {p pos : Pos} (hg : Gl X "enumerate") (hm : X.mg "enumerate" = none) (ha : PA X [a] ta) (hs : starEach [a] X.env = [(false, eval a X.env)] := by rfl) : PI X (.Tuple elts x1 tpos) (.Call (.Name "enumerate" p) [a] [] pos) (iEnum X.K k ta) := by
  intro pins s σ H R I h
  refine Call_ (ld_blt I hg hm boot_enumerate (PyProof.Rows.callWith_type1 (thn (ha pos pins s σ H _ I h) fun us s1 ⟨vs, H1, I1, r1, q1⟩ => ?_) hs rfl))
  obtain ⟨a, e, ⟨xs, hq⟩, q⟩ := q1
  subst e
  cases r1 with
  | cons r rr =>
    cases rr
    cases r
    obtain ⟨us, rv, p, _⟩ := I1.sq hq
    have hlt := p.lt
    refine call_enumS p fun h' g0 g1 kk => ?_
    have I2 : Inv X pins σ H1 { s1 with heap := h' } := I1.kept (t' := s1.toks) kk
    refine wpAny_pyIter_enum (s := { s1 with heap := h' }) g0 ⟨_, [s1.heap.objs.size + 1, s1.heap.objs.size], _, _, H1, rfl, I2, turn_enum k a _ _ (Nat.succ_ne_self _) (Nat.ne_of_lt hlt) (Nat.ne_of_lt (Nat.lt_succ_of_lt hlt)), ⟨⟨_, g0⟩, g1⟩, fun c hc => ?_, q⟩
    have hle : s1.heap.objs.size ≤ c := by
      have hc' : c = s1.heap.objs.size + 1 ∨ c = s1.heap.objs.size := by simpa using hc
      rcases hc' with e | e <;> rw [e] <;> first | exact Nat.le_refl _ | exact Nat.le_add_right _ _
    exact I1.fpOk hle (I1.hok.fresh hle)
end
theorem comp_enum {K : PySem.W.Frag} {k : Bool} {a : Addr} {xs : List V} {g : TG} {tf : TT} {te : TE} {σ : St} {H : Hp} {Q : VK} (Pv : Nat → List V → St → Hp → Prop) (h0 : Pv 0 [] σ H)
    (hl : ∀ i zs σ H, i ≤ xs.length → Pv i zs σ H → Sq k K H a xs ∧ zs.length ≤ sizeLine)
    (hs : ∀ i x zs σ H T, xs[i]? = some x → Pv i zs σ H → H T = none → g (.ref T) σ (upd H T (.tup [.int i, x])) fun σ2 H2 => tf σ2 H2 fun b H3 => if b = true then te σ2 H3 fun v H4 => Pv (i + 1) (zs ++ [v]) σ2 H4 else Pv (i + 1) zs σ2 H3)
    (hd : ∀ zs σ H, Pv xs.length zs σ H → ∀ p, H p = none → Q (.ref p) (upd H p (.lst zs))) : tCompK g tf te σ (Ite K k a) H Q := by
  refine ⟨fun i m zs σ H => m = xs.length - i ∧ i ≤ xs.length ∧ Pv i zs σ H, ⟨_, (Nat.sub_zero _).symm, Nat.zero_le _, h0⟩, ?_⟩
  rintro i m zs σ H ⟨rfl, hi, p⟩
  obtain ⟨q1, hz⟩ := hl i zs σ H hi p
  by_cases hlt : i < xs.length
  · refine .inr ⟨⟨xs, xs[i], q1, by simp [hlt]⟩, hz, Pv (i + 1), fun ys' σ' H' p' => ⟨xs.length - (i + 1), by omega, rfl, hlt, p'⟩, fun x H' y => ?_⟩
    obtain ⟨T, u, hT, rfl, rfl, e1⟩ := y
    exact hs i u zs σ H T (e1 xs q1) p hT
  · have e : i = xs.length := by omega
    rw [e] at p
    exact .inl ⟨⟨xs, q1, e.symm⟩, hz, hd zs σ H p⟩
end L2

set_option Elab.async false
set_option linter.all false
set_option maxRecDepth 100000
namespace L2
open PySem PySem.Spec PyProof.Rows PySem.W
/-! ### try: f(..) except S: suite, without a name -/
/-! ### f'text{e}', e an int -/
end L2

set_option Elab.async false
set_option linter.all false
set_option maxRecDepth 100000
namespace L2
open PySem PySem.Spec PyProof.Rows
/-! ### range(n, 0, -1) -/
section
variable {X : Cx} {tg : Expr}
end
/-- a def of which nothing is asked -/
theorem FnOk.none {P : Program} {w : World} {K : PySem.W.Frag} {mg : Str → Option Value} {base : Heap} {CX : CXT} {k : Nat} {f : Addr} {fd : FuncData} {ps : List Str} {sp : Sp} {cm : Bool} (h : ∀ vs H Q E, ¬ sp vs H Q E) : FnOk P w K mg base CX k f fd ps sp cm :=
  ⟨fun vs H Q E z => absurd z (h vs H Q E), fun A outer s H args us vs Q E hr he hb hv hs => absurd hs (h _ _ _ _)⟩
end L2

set_option Elab.async false
set_option linter.all false
namespace L2
open PySem PySem.Spec PyProof.Rows
/-! ### partings, what lies in a heap -/
end L2

set_option Elab.async false
set_option linter.all false
namespace L2
open PySem PySem.Spec PyProof.Rows
/-! ### pairs of a heap and a choice -/
end L2

set_option Elab.async false
set_option linter.all false
namespace L2
open PySem PySem.Spec PyProof.Rows
/-! ### coins -/
end L2

set_option Elab.async false
set_option linter.all false
set_option maxRecDepth 100000
namespace L2
open PySem PySem.Spec PyProof.Rows
/-! ### xs.insert(i, e), i a place there or behind the last one -/
/-! ### slices of tuples of ints from 1 on -/
end L2

set_option Elab.async false
set_option linter.all false
set_option maxRecDepth 100000
namespace L2
open PySem PySem.Spec PyProof.Rows
/-! ### ways by the rule of the left over ones: the last one first -/
/-! ### coins, once more -/
end L2

set_option Elab.async false
set_option linter.all false
namespace L2
open PySem PySem.Spec PyProof.Rows
/-! ### pairs and partners -/
theorem inV_ints (z : Int) : ∀ ns : List Int, inV (.int z) (ns.map V.int) = decide (z ∈ ns) := fun ns => by
  unfold inV
  rw [List.any_map, Bool.eq_iff_iff, List.any_eq_true, decide_eq_true_eq]
  constructor
  · rintro ⟨x, hx, e⟩
    have e' : x = z := by simpa [eqV] using e
    exact e' ▸ hx
  · intro h
    exact ⟨z, h, by simp [eqV]⟩
/-! ### a heap in which all heaps of a rule lie -/
end L2

set_option Elab.async false
set_option linter.all false
namespace L2
open PySem PySem.Spec PyProof.Rows
/-! ### sorted(t), t a tuple of ints -/
section
variable {prog : Program} {w : World} {A : Around} {E : Value → Shared → Prop} {s : Shared}
end
end L2

set_option Elab.async false
set_option linter.all false
namespace L2
open PySem PySem.Spec PyProof.Rows
end L2

set_option Elab.async false
set_option linter.all false
namespace L2
open PySem PySem.Spec PyProof.Rows PySem.W
theorem isinst_tup {X : Cx} {pins : List (Addr × Obj)} {σ : St} {H : Hp} {s : Shared} {A : Around} {E : Value → Shared → Prop} {Q : Value → Shared → Prop} {b : Bool}
    {x : V} {u t : Value} {tp : Addr} {dd : Option Addr} {its : List Value} {n : Nat} {sl : Array (Option Value)} (I : Inv X pins σ H s) (rx : RelV x u) (ty : TyOf X.K H x t)
    (hg : s.heap.get? tp = some { cls := Value.type "tuple", dict := dd, data := Data.seq its.toArray n, slots := sl }) (e : kitAny X.K t its = some b) (h : ∀ tk, Q (.bool b) { s with toks := tk }) :
    wpAny (model X.prog X.w) A (call (.builtin "isinstance") [u, .ref tp]) Q E s := by
  cases ty with
  | non => cases (show u = Value.none from rx); exact kia_tup kitx_none I.kIn True.intro hg e (fun z => nomatch z) h
  | bl y => cases (show u = Value.bool y from rx); exact kia_tup kitx_bool I.kIn True.intro hg e (fun z => nomatch z) h
  | int i => obtain ⟨t, q⟩ := (show ∃ t, u = Value.int i t from rx); cases q; exact kia_tup kitx_int I.kIn True.intro hg e (fun z => nomatch z) h
  | str y => obtain ⟨t, q⟩ := (show ∃ t, u = Value.str y t from rx); cases q; exact kia_tup kitx_str I.kIn True.intro hg e (fun z => nomatch z) h
  | flt y => obtain ⟨t, q⟩ := (show ∃ t, u = Value.float y t from rx); cases q; exact kia_tup kitx_float I.kIn True.intro hg e (fun z => nomatch z) h
  | @lst a xs ea =>
    cases (show u = Value.ref a from rx)
    obtain ⟨_, _, n, _, h1⟩ := (show ObjOk X.prog X.w H s.heap a (.lst xs) from I.hok a _ ea)
    exact kia_tup kitx_list I.kIn ⟨_, h1, rfl⟩ hg e (fun z => nomatch z) h
  | @frz a ob xs ea =>
    cases (show u = Value.ref a from rx)
    obtain ⟨_, _, _, n, _, h1⟩ := (show ObjOk X.prog X.w H s.heap a (.frz ob (.lst xs)) from I.hok a _ ea)
    exact kia_tup kitx_list I.kIn ⟨_, h1, rfl⟩ hg e (fun z => nomatch z) h
  | @tup a xs ea =>
    cases (show u = Value.ref a from rx)
    obtain ⟨_, _, _, p, _⟩ := (show ObjOk X.prog X.w H s.heap a (.tup xs) from I.hok a _ ea)
    obtain ⟨o, h1, h2, _⟩ := p
    exact kia_tup kitx_tuple I.kIn ⟨o, h1, h2⟩ hg e (fun z => nomatch z) h
  | @dK a kvs ea =>
    cases (show u = Value.ref a from rx)
    obtain ⟨_, _, vs, _, p⟩ := (show ObjOk X.prog X.w H s.heap a (.dK kvs) from I.hok a _ ea)
    obtain ⟨o, es, ep, h1, h2, _⟩ := p
    exact kia_tup kitx_dict I.kIn ⟨o, h1, h2.1⟩ hg e (fun z => nomatch z) h
  | @dT a kvs ea =>
    cases (show u = Value.ref a from rx)
    obtain ⟨_, _, xs, _, o, es, ep, h1, h2, _⟩ := (show ObjOk X.prog X.w H s.heap a (.dT kvs) from I.hok a _ ea)
    exact kia_tup kitx_dict I.kIn ⟨o, h1, h2.1⟩ hg e (fun z => nomatch z) h
  | @ins a C dx fs ea cl ha hn htk hm =>
    cases (show u = Value.ref a from rx)
    obtain ⟨mA, O, _⟩ := ins_get I.hok ea
    obtain ⟨od, J, _⟩ := O.look
    exact kia_tup (kitx_own (cl.get _) cl.hd ha hn htk hm) I.kIn J hg e (fun z => nomatch z) h
theorem vals_ty {Ts : List String} {us : List Value} (h : Vals (Ts.map V.ty) us) : us = Ts.map Value.type := by
  induction Ts generalizing us with
  | nil => cases h; rfl
  | cons a r ih =>
    cases h with
    | cons h1 h2 =>
      rw [ih h2]
      cases (show _ = Value.type a from h1)
      rfl
theorem call_isiT {X : Cx} : CallR X (.builtin "isinstance") (fun xs H Q => ∃ x tp Ts t b, xs = [x, .ref tp] ∧ H tp = some (.tup (List.map V.ty Ts)) ∧ TyOf X.K H x t ∧ kitAny X.K t (Ts.map Value.type) = some b ∧ Q (.bl b) H) := by
  intro pins s σ H xs us Q I r h
  obtain ⟨x, tp, Ts, t, b, rfl, ht, ty, hk, q⟩ := h
  obtain ⟨u, v, rfl, ru, rv⟩ := vals2 r
  cases (show v = Value.ref tp from rv)
  obtain ⟨_, its, r2, ⟨o, h1, h2, n, h3⟩, _⟩ := (show ObjOk X.prog X.w H s.heap tp (.tup (Ts.map V.ty)) from I.hok tp _ ht)
  cases vals_ty r2
  cases o
  cases h2
  cases h3
  exact isinst_tup I ru ty h1 hk fun tk => ⟨.bl b, H, I.tok tk, rfl, q⟩
theorem kit_list_tuple {K : Frag} : kitOne K (.type "list") (.type "tuple") = some false := by
  unfold kitOne
  rw [if_neg (by decide +kernel)]
  rfl
theorem kit_tuple_list {K : Frag} : kitOne K (.type "tuple") (.type "list") = some false := by
  unfold kitOne
  rw [if_neg (by decide +kernel)]
  rfl
theorem kit_int_str {K : Frag} : kitOne K (.type "int") (.type "str") = some false := by
  unfold kitOne
  rw [if_neg (by decide +kernel)]
  rfl
theorem kit_NoneType_bool {K : Frag} : kitOne K (.type "NoneType") (.type "bool") = some false := by
  unfold kitOne
  rw [if_neg (by decide +kernel)]
  rfl
theorem kitA1_list {K : Frag} : kitAny K (.type "list") (["list", "tuple"].map Value.type) = some true := by rfl
theorem kitA1_tuple {K : Frag} : kitAny K (.type "tuple") (["list", "tuple"].map Value.type) = some true := by rfl
theorem kitA1_int {K : Frag} : kitAny K (.type "int") (["list", "tuple"].map Value.type) = some false := by rfl
theorem kitA1_bool {K : Frag} : kitAny K (.type "bool") (["list", "tuple"].map Value.type) = some false := by rfl
theorem kitA1_NoneType {K : Frag} : kitAny K (.type "NoneType") (["list", "tuple"].map Value.type) = some false := by rfl
theorem kitA1_str {K : Frag} : kitAny K (.type "str") (["list", "tuple"].map Value.type) = some false := by rfl
end L2

set_option Elab.async false
set_option linter.all false
set_option maxRecDepth 100000
namespace L2
open PySem PySem.Spec PyProof.Rows
/-! ### range(hi, hi - n, -1) -/
section
variable {X : Cx} {tg : Expr}
end
end L2

set_option Elab.async false
set_option linter.all false
set_option maxRecDepth 100000
namespace L2
end L2

set_option Elab.async false
set_option linter.all false
set_option maxRecDepth 100000
namespace L2
open PySem PySem.Spec PyProof.Rows PySem.W
/-! ### try: f(..) except S as n: suite else: other -/
end L2

set_option Elab.async false
set_option linter.all false
set_option maxRecDepth 100000
namespace L2
def sumN : Nat → (Nat → Int) → Int
  | 0, _ => 0
  | n + 1, f => sumN n f + f n
end L2

set_option Elab.async false
set_option linter.all false
set_option maxRecDepth 100000
namespace L2
open PySem PySem.Spec PyProof.Rows
theorem tup_no_set : isSubtype (.type "tuple") (.type "set") = pure false := by rw [isSubtype_type]; kernel_rfl
theorem tup_no_frozen : isSubtype (.type "tuple") (.type "frozenset") = pure false := by rw [isSubtype_type]; kernel_rfl
def freshSet (led : Bool) : Obj := { cls := .type "set", dict := none, data := .set #[] 0 (.fresh 0 0 led) }
/-! ### set(t) of ints, and its length -/
section
variable {X : Cx}
end
end L2

set_option Elab.async false
set_option linter.all false
set_option maxRecDepth 100000
namespace L2
open PySem PySem.Spec PyProof.Rows
/-! ### products of great ints -/
section
variable {X : Cx}
end
/-! ### for k, x in enumerate(xs) -/
/-! ### xs[::-1] -/
section
variable {X : Cx} {e st : Expr} {te : TE} {ts : TO} {p2 pos : Pos}
end
/-! ### trailing noughts dropped -/
/-! ### products of polynomials -/
def cv (a b : List Int) (k : Nat) : Int := sumN a.length fun i => sumN b.length fun j => if i + j = k then a.getD i 0 * b.getD j 0 else 0
end L2

set_option Elab.async false
set_option linter.all false
set_option maxRecDepth 100000
namespace L2
open PySem PySem.Spec PyProof.Rows
section
variable {X : Cx} {tg l : Expr} {t1 t2 : TI}
/-- either a list or a tuple -/
def iOr (t1 t2 : TI) : TI := fun σ H R => t1 σ H R ∨ t2 σ H R
theorem pi_or (h1 : PI X tg l t1) (h2 : PI X tg l t2) : PI X tg l (iOr t1 t2) := by
  intro pins s σ H R I h
  rcases h with h | h
  · exact h1 pins s σ H R I h
  · exact h2 pins s σ H R I h
end
/-! ### how many unlike ones -/
/-! ### tuples within tuples, the same -/
end L2

set_option Elab.async false
set_option linter.all false
set_option maxRecDepth 100000
namespace L2
open PySem PySem.Spec PyProof.Rows
/-! ### tuple(range(hi, lo, -1)) -/
section
variable {prog : Program} {w : World} {A : Around} {E : Value → Shared → Prop} {s : Shared}
end
section
variable {X : Cx}
end
end L2

set_option Elab.async false
set_option linter.all false
set_option maxRecDepth 100000
namespace L2
open PySem PySem.Spec PyProof.Rows
/-! ### hi, hi - 1, .. -/
/-! ### the left one of a number -/
end L2

set_option Elab.async false
set_option linter.all false
set_option maxRecDepth 100000
namespace L2
open PySem PySem.Spec PyProof.Rows
/-! ### strict heaps with a slope of run -/
/-! ### the slope, known by its parts -/
/-! ### shifted -/
end L2

set_option Elab.async false
set_option linter.all false
set_option maxRecDepth 100000
namespace L2
open PySem PySem.Spec PyProof.Rows
/-! ### slices -/
theorem cut_from (xs : List V) (s : Nat) (h : s ≤ xs.length) : cutV xs (some (s : Int)) none = xs.drop s := by
  unfold cutV
  rw [HT.sIx_none, HT.sIx_nat, Nat.min_eq_left h]
  exact List.take_of_length_le (by rw [List.length_drop]; exact Nat.le_refl _)
section
variable {X : Cx}
end
end L2

set_option Elab.async false
set_option linter.all false
set_option maxRecDepth 100000
set_option exponentiation.threshold 200000
namespace L2
open PySem PySem.Spec PyProof.Rows
/-! ### products of ints of up to 100000 bits -/
section
variable {X : Cx}
end
/-! ### heads of a fraction -/
def hdL (T B : Nat → Int) : Nat → List Int
  | 0 => []
  | n + 1 => hdL T B n ++ [T n - sumN n fun i => B (i + 1) * (hdL T B n).getD (n - (i + 1)) 0]
def hd (T B : Nat → Int) (n : Nat) : Int := (hdL T B (n + 1)).getD n 0
end L2

set_option Elab.async false
set_option linter.all false
set_option maxRecDepth 100000
namespace L2
open PySem PySem.Spec PyProof.Rows PySem.W
/-! ### two except clauses, both with the name -/
end L2

set_option Elab.async false
set_option linter.all false
set_option maxRecDepth 100000
namespace L2
open PySem PySem.Spec PyProof.Rows
/-! ### a tuple times one -/
/-! ### stores -/
end L2

set_option Elab.async false
set_option linter.all false
set_option maxRecDepth 100000
namespace L2
open PySem PySem.Spec PyProof.Rows
end L2

set_option Elab.async false
set_option linter.all false
set_option maxRecDepth 100000
namespace L2
open PySem PySem.Spec PyProof.Rows
/-! ### x not in a list of tuples of ints -/
section
variable {X : Cx}
end
/-! ### partings into unlike parts -/
end L2

set_option Elab.async false
set_option linter.all false
set_option maxRecDepth 100000
namespace L2
open PySem PySem.Spec PyProof.Rows
/-! ### dict(t) of a tuple of pairs -/
section
variable {prog : Program} {w : World} {A : Around} {R : Result → Shared → Prop} {I : Addr} {fp wr : List Addr} {G : Array GenState → Array GenState → Prop} {n : Nat} {P : Nat → Value → Prop} {St : Nat → Shared → Prop} {K : Type} [DecidableEq K] {knd : KeyKind prog w K}
end
section
variable {X : Cx}
end
end L2

set_option Elab.async false
set_option linter.all false
set_option maxRecDepth 100000
namespace L2
open PySem PySem.Spec PyProof.Rows
section
variable {X : Cx}
end
/-! ### a store as a table -/
/-! ### products without trimming -/
end L2

set_option Elab.async false
set_option linter.all false
set_option maxRecDepth 100000
namespace L2
/-! ### the order of the rows does not count -/
end L2

set_option Elab.async false
set_option linter.all false
set_option maxRecDepth 100000
namespace L2
/-! ### how many partings a store makes -/
end L2

set_option Elab.async false
set_option linter.all false
set_option maxRecDepth 100000
namespace L2
/-! ### partings in which a heap lies -/
/-! ### signs over all choices -/
end L2

set_option Elab.async false
set_option linter.all false
set_option maxRecDepth 100000
namespace L2
/-! ### parts that may stand less often -/
/-- a joined heap of any heaps -/
theorem ex_unlike : ∀ L : List Int, ∃ us : List Int, us.Pairwise (· > ·) ∧ ∀ y, y ∈ us ↔ y ∈ L
  | [] => ⟨[], .nil, fun _ => Iff.rfl⟩
  | x :: L => by
    obtain ⟨us, h1, h2⟩ := ex_unlike L
    by_cases hx : x ∈ us
    · refine ⟨us, h1, fun y => ?_⟩
      rw [List.mem_cons, ← h2 y]
      exact ⟨.inr, fun h => h.elim (fun e => e ▸ hx) id⟩
    · refine ⟨us.filter (fun y => decide (x < y)) ++ x :: us.filter (fun y => decide (y < x)), ?_, fun y => ?_⟩
      · refine List.pairwise_append.mpr ⟨h1.sublist List.filter_sublist, List.pairwise_cons.mpr ⟨fun y hy => ?_, h1.sublist List.filter_sublist⟩, fun a ha b hb => ?_⟩
        · exact of_decide_eq_true (List.mem_filter.mp hy).2
        · have ha' : x < a := of_decide_eq_true (List.mem_filter.mp ha).2
          rcases List.mem_cons.mp hb with rfl | hb
          · exact ha'
          · have hb' : b < x := of_decide_eq_true (List.mem_filter.mp hb).2
            show b < a
            omega
      · rw [List.mem_append, List.mem_cons, List.mem_filter, List.mem_filter, List.mem_cons, ← h2 y]
        constructor
        · rintro (h | h | h)
          · exact .inr h.1
          · exact .inl h
          · exact .inr h.1
        · rintro (h | h)
          · exact .inr (.inl h)
          · rcases Int.lt_trichotomy x y with z | z | z
            · exact .inl ⟨h, decide_eq_true z⟩
            · exact .inr (.inl z.symm)
            · exact .inr (.inr ⟨h, decide_eq_true z⟩)
theorem ex_join (ls : List (List Int)) : ∃ ms, IsJoin ls ms := by
  obtain ⟨us, h1, h2⟩ := ex_unlike ls.flatten
  exact ⟨_, blow_join (h1.imp fun h => Int.ne_of_gt h) (h1.imp fun h => Int.le_of_lt h) h2⟩
noncomputable def joinX (ls : List (List Int)) : List Int := Classical.choose (ex_join ls)
theorem joinX_is (ls : List (List Int)) : IsJoin ls (joinX ls) := Classical.choose_spec (ex_join ls)
theorem joinX_eq {ls : List (List Int)} {ms : List Int} (h : IsJoin ls ms) : joinX ls = ms := (joinX_is ls).uniq h
theorem perm_sum {a b : List Int} (h : a.Perm b) : a.sum = b.sum := by
  induction h with
  | nil => rfl
  | cons x _ ih => rw [List.sum_cons, List.sum_cons, ih]
  | swap x y l => simp only [List.sum_cons]; omega
  | trans _ _ i1 i2 => rw [i1, i2]
/-- rising choices -/
theorem chG_rise : ∀ k, ∀ c ∈ chG (upto k), c.Pairwise (· < ·)
  | 0, c, hc => by
    have : c = [] := by simpa [chG, upto] using hc
    rw [this]
    exact .nil
  | k + 1, c, hc => by
    rw [upto_succ, chG_snoc] at hc
    rcases List.mem_append.mp hc with hc | hc
    · exact chG_rise k c hc
    · obtain ⟨d, hd, rfl⟩ := List.mem_map.mp hc
      refine List.pairwise_append.mpr ⟨chG_rise k d hd, List.pairwise_singleton _ _, fun a ha b hb => ?_⟩
      have h1 := upto_mem ((chG_mem k (upto k) (upto_len k) d hd).2 a ha)
      have : b = (k : Int) := by simpa using hb
      omega
end L2

set_option Elab.async false
set_option linter.all false
set_option maxRecDepth 100000
namespace L2
open PySem PySem.Spec PyProof.Rows
/-! ### a dict of unlike parts -/
structure SeenU (H0 H : Hp) (d : Addr) (L : List Int) : Prop where
  ex : ∃ (kvs : List (Key × V)) (ns : List Int), H d = some (.dK kvs) ∧ kvs.map (·.1) = ns.map Sum.inl ∧ ns.Nodup ∧ ns.length ≤ L.length ∧ ∀ x, x ∈ ns ↔ x ∈ L
  sm : ∀ b o, H0 b = some o → H b = some o
  nw : H0 d = none
theorem SeenU.put {H0 H : Hp} {d : Addr} {L : List Int} {z : Int} (h : SeenU H0 H d L) (hl : L.length < 1000) : ∃ H', DPut H d (.int z) (.bl true) H' ∧ SeenU H0 H' d (L ++ [z]) := by
  obtain ⟨⟨kvs, ns, hd, hk, hnd, hn, hm⟩, sm, nw⟩ := h
  have hlen : kvs.length = ns.length := by
    have := congrArg List.length hk
    simpa using this
  refine ⟨upd H d (.dK (putK kvs (Sum.inl z) (.bl true))), DPut.k (k := Sum.inl z) hd (Nat.lt_of_lt_of_le (show kvs.length < 1000 by omega) (by decide)), ⟨?_, fun b o e => by rw [upd_ne (ne_of_none e nw)]; exact sm b o e, nw⟩⟩
  cases e : valV kvs (Sum.inl z) with
  | none =>
    have hz : z ∉ ns := fun hz => valV_not e (by rw [hk]; exact List.mem_map.mpr ⟨z, hz, rfl⟩)
    refine ⟨_, ns ++ [z], upd_same, by rw [putK_new _ e, List.map_append, hk, List.map_append]; rfl, ?_, by simp; omega, fun x => by simp [hm]⟩
    refine List.nodup_append.mpr ⟨hnd, by simp, fun a ha b hb e => ?_⟩
    have : b = z := by simpa using hb
    exact hz (by rw [← this, ← e]; exact ha)
  | some v =>
    have hin := valV_in e
    rw [hk] at hin
    have hz : z ∈ ns := by
      obtain ⟨y, hy, e2⟩ := List.mem_map.mp hin
      have : y = z := Sum.inl.inj e2
      rw [← this]; exact hy
    refine ⟨_, ns, upd_same, ?_, hnd, by simp; omega, fun x => ?_⟩
    · have : (putK kvs (Sum.inl z) (V.bl true)).map (·.1) = kvs.map (·.1) := putK_keys e
      rw [this, hk]
    · rw [List.mem_append, ← hm]
      exact ⟨Or.inl, fun h => h.elim id fun h => by have : x = z := by simpa using h
                                                    rw [this]; exact hz⟩
section
variable {X : Cx}
end
/-! ### the limited coins, step by step -/
end L2

set_option Elab.async false
set_option linter.all false
set_option maxRecDepth 100000
namespace L2
open PySem PySem.Spec PyProof.Rows
open PySem.Builtin.Str (occurrences subAt)
/-! ### texts of one sign -/
section
variable {X : Cx}
end
/-! ### rows of dots -/
end L2

set_option Elab.async false
set_option linter.all false
set_option maxRecDepth 100000
namespace L2
open PySem PySem.Spec PyProof.Rows
/-! ### a comprehension that an exception may leave -/
section
variable {X : Cx}
end
section
variable {X : Cx} {scope : Scope} {ls : List Str} {fr : List (Str × Nat)}
end
/-! ### names within such a block -/
end L2

set_option Elab.async false
set_option linter.all false
set_option maxRecDepth 100000
namespace L2
open PySem PySem.Spec PyProof.Rows
/-! ### lanes and rows of levels -/
theorem Same.updN {H H' : Hp} {p : Addr} {o : HO} (s : Same H H') (h : H p = none) : Same H (upd H' p o) := fun b u e => by rw [upd_ne (ne_of_none e h)]; exact s b u e
/-! ### a comprehension that makes one thing of each -/
theorem All2.drop {α : Type} {R : α → V → Hp → Prop} {H : Hp} : ∀ {l : List α} {xs : List V} (n : Nat), All2 R H l xs → All2 R H (l.drop n) (xs.drop n)
  | _, _, 0, h => by rw [List.drop_zero, List.drop_zero]; exact h
  | _, _, _ + 1, .nil => by rw [List.drop_nil, List.drop_nil]; exact .nil
  | _, _, n + 1, .cons _ a => by rw [List.drop_succ_cons, List.drop_succ_cons]; exact a.drop n
end L2

set_option Elab.async false
set_option linter.all false
set_option maxRecDepth 100000
namespace L2
open PySem PySem.Spec PyProof.Rows PySem.NumText
/-! ### a text read as a heap -/
/-! ### the ten figures -/
section
variable {X : Cx}
end
/-! ### words, weighed -/
def weight (ys : List Str) : Nat := (ys.map (·.length)).sum + ys.length
/-! ### long displays: a wrapped PA, whose type is no arrow -/
section
variable {X : Cx} {e : Expr} {es : List Expr} {te : TE} {t : TA}
end
end L2

set_option Elab.async false
set_option linter.all false
set_option maxRecDepth 100000
namespace L2
open PySem PySem.Spec PyProof.Rows
open PySem.StrLaws (At ChainG partsFrom)
open PySem.Builtin.Str (occurrences subAt)
/-! ### a text of heaps, by strokes -/
/-! ### replace, of two written signs -/
section
variable {X : Cx} {e a b : Expr} {es : List Expr} {te ta tb : TE} {t : TA} {pos : Pos}
/-- any(list of truths) -/
theorem call_any_bools (hc : X.calm = true) : CallR X (.builtin "any") (fun xs H Q => ∃ (a : Addr) (bs : List Bool), xs = [.ref a] ∧ SqL X.K H a (bs.map V.bl) ∧ Q (.bl (bs.any id)) H) := by
  intro pins s σ H xs us Q I r h
  obtain ⟨a, bs, rfl, hq, q⟩ := h
  obtain ⟨u, rfl, ru⟩ := vals1 r
  cases ru
  have hh : X.A.in1.handled = none := I.ok.hd hc
  obtain ⟨its, r', pl, hz⟩ := I.list hq
  have hl := r'.length
  rw [List.length_map] at hl
  have hlt : a < s.heap.objs.size := by obtain ⟨_, e, _⟩ := pl.isList; exact Heap.lt_size e
  refine call_any_walk (wpAny_pyIter_list pl.isList ⟨_, _, _, _, _, _, fun i => bs.getD i false, rfl, Walks.list (A := X.A.in1) hh _ a (Nat.ne_of_lt hlt) its.toArray, ⟨⟨_, Heap.get?_push_size _ rfl, rfl, rfl⟩, pl.isList.push _⟩, ?_, fun h' tk hk => ?_⟩)
  · intro i v s' Q' E' hv hQ
    have hv' : its[i]? = some v := by simpa using hv
    have hi : i < bs.length := by have := (List.getElem?_eq_some_iff.mp hv').1; omega
    have hx : (bs.map V.bl)[i]? = some (V.bl (bs.getD i false)) := by simp [hi]
    obtain ⟨u, hu, ru⟩ := r'.get hx
    rw [hv'] at hu
    cases hu
    cases ru
    exact wpAny_truthy_bool hQ
  · have e : (List.range its.toArray.size).any (fun i => bs.getD i false) = bs.any id := by
      rw [List.size_toArray, ← hl, Bool.eq_iff_iff]
      simp only [List.any_eq_true, List.mem_range, id]
      constructor
      · rintro ⟨i, hi, h⟩
        exact ⟨bs[i], List.getElem_mem hi, by simpa [hi] using h⟩
      · rintro ⟨b, hb, h⟩
        obtain ⟨i, hi, rfl⟩ := List.mem_iff_getElem.mp hb
        exact ⟨i, hi, by simpa [hi] using h⟩
    rw [e]
    exact ⟨.bl _, H, I.kept fun b o e => hk b o (by simpa using Nat.ne_of_lt (Heap.lt_size e)) (Heap.get?_push_of_some _ e), rfl, q⟩
end
/-! ### a text read as a rule -/
theorem compK_mapL {K : PySem.W.Frag} {a : Addr} {xs : List V} {te : TE} {σ0 : St} {H : Hp} {Q : VK} {β : Type} (R : β → V → Hp → Prop) (bs : List β) (tl : St) (hb : bs.length = xs.length) (hle : xs.length ≤ sizeLine) (mono : ∀ b v H H', Same H H' → R b v H → R b v H') (htl : σ0 = none :: tl) (h : H a = some (.lst xs))
    (step : ∀ (j : Nat) (x : V) (b : β) (H' : Hp) (P : VK), xs[j]? = some x → bs[j]? = some b → Same H H' → (∀ v H'', Same H' H'' → R b v H'' → P v H'') → te (some x :: tl) H' P)
    (hd : ∀ zs H' p, Same H H' → All2 R H' bs zs → H' p = none → Q (.ref p) (upd H' p (.lst zs))) : tCompK (gName 0) tYes te σ0 (Itl K a) H Q := by
  refine comp_list (xs := xs) (fun j zs σ' H' => Same H H' ∧ (∃ v, σ' = v :: tl) ∧ All2 R H' (bs.take j) zs ∧ j ≤ bs.length) ⟨Same.refl _, ⟨_, htl⟩, .nil, Nat.zero_le _⟩ ?_ ?_ ?_
  · rintro j zs σ' H' hj ⟨s', _, a2, hj'⟩
    refine ⟨SqL.of (s' _ _ h), ?_⟩
    rw [← a2.length, List.length_take]
    exact Nat.le_trans (Nat.min_le_right _ _) (by rw [hb]; exact hle)
  · rintro j x zs σ' H' hx ⟨s', ⟨v, rfl⟩, a2, hj'⟩
    have hj : j < bs.length := by rw [hb]; exact (List.getElem?_eq_some_iff.mp hx).1
    have hbj : bs[j]? = some bs[j] := List.getElem?_eq_getElem hj
    refine step j x bs[j] H' _ hx hbj s' fun v2 H2 s2 r2 => ⟨s'.trans s2, ⟨_, rfl⟩, ?_, hj⟩
    rw [List.take_succ, hbj]
    exact (a2.imp fun _ _ z => mono _ _ _ _ s2 z).snoc r2
  · rintro zs σ' H' ⟨s', _, a2, _⟩ p hp
    rw [← hb, List.take_length] at a2
    exact hd zs H' p s' a2 hp
/-! ### texts of which the length alone is asked -/
end L2

set_option Elab.async false
set_option linter.all false
set_option maxRecDepth 100000
namespace L2
open PySem PySem.Spec PyProof.Rows
/-! ### for k, v in d.items(): the dict stands still from then on -/
section
variable {X : Cx} {elts : List Expr} {x1 : Nat} {tpos : Pos}
end
end L2

set_option Elab.async false
set_option linter.all false
set_option maxRecDepth 100000
namespace L2
open PySem PySem.Spec PyProof.Rows
/-! ### rules that match -/
theorem sum_by : ∀ (D : List Int), D.Nodup → ∀ (ms : List Int), (∀ x ∈ ms, x ∈ D) → ms.sum = (D.map fun x => x * (ms.count x : Int)).sum
  | [], _, ms, h => by
    cases ms with
    | nil => rfl
    | cons a r => exact absurd (h a (by simp)) (by simp)
  | d :: D, hn, ms, h => by
    obtain ⟨h1, h2⟩ := List.nodup_cons.mp hn
    have ih := sum_by D h2 (ms.filter fun x => decide (x ≠ d)) fun x hx => by
      obtain ⟨ha, hb⟩ := List.mem_filter.mp hx
      rcases List.mem_cons.mp (h x ha) with e | e
      · exact absurd e (of_decide_eq_true hb)
      · exact e
    have e1 : ms.sum = d * (ms.count d : Int) + (ms.filter fun x => decide (x ≠ d)).sum := by
      clear ih h hn h1 h2
      induction ms with
      | nil => simp
      | cons a r ih =>
        rw [List.sum_cons, ih]
        by_cases hd : a = d
        · subst hd
          rw [List.count_cons_self, List.filter_cons_of_neg (by simp), Int.natCast_add, Int.mul_add]
          simp
          omega
        · rw [List.count_cons_of_ne hd, List.filter_cons_of_pos (by simpa using hd), List.sum_cons]
          omega
    rw [List.map_cons, List.sum_cons, e1, ih]
    congr 1
    congr 1
    refine List.map_congr_left fun x hx => ?_
    have hxd : x ≠ d := fun e => h1 (by rw [← e]; exact hx)
    rw [List.count_filter (by simpa using hxd)]
/-! ### the rules of lanes -/
end L2

set_option Elab.async false
set_option linter.all false
set_option maxRecDepth 100000
namespace L2
open PySem PySem.Spec PyProof.Rows
/-! ### a comprehension within a comprehension -/
def relS (scope sc : Scope) : Scope := { scope with names := relN scope sc }
section
variable {X : Cx} {scope1 scope : Scope} {N1 N : List Str} {C1 C : Addr} {s1 s : Shared} {H1 H : Hp} {ex1 ex : List Addr}
theorem env_rel (sc : Scope) (hs : X.env.scope = sc) : (cxC X scope1 N1 C1 s1 H1 ex1).env.scope = relS scope1 sc := by
  subst hs
  rfl
theorem cs_of2 {ls : List Str} {fr : List (Str × Nat)} (sc : Scope) (hs : X.env.scope = sc := by rfl) (h : cscopeB (relS scope1 sc) N1 scope fr = true := by decide +kernel) : CScope (cxC X scope1 N1 C1 s1 H1 ex1) scope ls fr :=
  cs_of _ N1 (env_rel sc hs) rfl h
theorem pvc2 (sc : Scope) (i : Nat) {x : Str} {pos : Pos} (hN : N[i]? = some x := by rfl) (hs : X.env.scope = sc := by rfl) (hv : visB scope (relS scope1 sc) x = true := by decide +kernel)
    (hd : (x == ("__debug__" : Str)) = false := by decide +kernel) (hcd : (x == ("__classdict__" : Str)) = false := by decide +kernel) : PE (cxC (cxC X scope1 N1 C1 s1 H1 ex1) scope N C s H ex) (.Name x pos) (tVar i) :=
  pvc _ i hN (env_rel sc hs) hv hd hcd
end
theorem pi_tupK2 {X : Cx} {tg l : Expr} {tl : TE} (K0 : PySem.W.Frag) (h : X.K = K0) (hl : PE X l tl) : PI X tg l (iTup K0 tl) := by
  subst h
  exact pi_tup hl
end L2

set_option Elab.async false
set_option linter.all false
set_option maxRecDepth 100000
namespace L2
open PySem PySem.Spec PyProof.Rows
/-! ### a dict that counts -/
/-! ### heaps that change by freezing alone -/
end L2

set_option Elab.async false
set_option linter.all false
set_option maxRecDepth 100000
namespace L2
open PySem PySem.Spec PyProof.Rows
/-! ### lanes of which all but the first two are of one number -/
theorem cut_rest (xs : List V) (s : Nat) : cutV xs (some (s : Int)) none = xs.drop s := by
  rcases Nat.le_total s xs.length with h | h
  · exact cut_from xs s h
  · unfold cutV
    rw [HT.sIx_nat, HT.sIx_none, Nat.min_eq_right h, List.drop_length, List.drop_of_length_le h]
    simp
end L2

set_option Elab.async false
set_option linter.all false
set_option maxRecDepth 100000
namespace L2
open PySem PySem.Spec PyProof.Rows

/-! ### sorting long lists: galloping -/
def gallop' : Bool → Keyed → Array Keyed → Nat → Nat → Nat → StateT SortSt Sem (Option Nat) := sortPriv% PySem.Builtin.gallop
/-- the number of a keyed thing -/
def kn (p : Keyed) : Int := numOf p.1
def IntK (p : Keyed) : Prop := ∃ n t, p.1 = .int n t

section
variable {prog : Program} {w : World} {A : Around} {E : Value → Shared → Prop} {s : Shared}

theorem wpS_lt {st : SortSt} {x y : Keyed} {Q : Option Bool → SortSt → Prop} (hk : kindOf st = oneType') (hx : IntK x) (hy : IntK y) (h : Q (some (decide (kn x < kn y))) st) :
    wpS (model prog w) A E s (lt' x y) Q st := by
  obtain ⟨a, t, ha⟩ := hx
  obtain ⟨b, u, hb⟩ := hy
  have e1 : kn x = a := by unfold kn; rw [ha]; rfl
  have e2 : kn y = b := by unfold kn; rw [hb]; rfl
  rw [e1, e2] at h
  rw [lt'_eq]
  refine wpS_bind (wpS_get ?_)
  rw [hk, keyLt'_oneType, ha, hb]
  refine wpS_bind (wpS_lift (wpAny_attempt (oneLt_int ⟨rfl, ?_⟩)))
  exact wpS_pure h
theorem wpS_elem {st : SortSt} {arr : Array Keyed} {i : Nat} {p : Keyed} {Q : Keyed → SortSt → Prop} (hi : arr[i]? = some p) (h : Q p st) : wpS (model prog w) A E s (elem' arr i) Q st := by
  rw [elem'_eq, hi]
  exact wpS_pure h

/-- what the gallop asks of the element at i -/
def bey (left : Bool) (key : Keyed) (arr : Array Keyed) (base i : Nat) : Bool :=
  match arr[base + i]? with
  | some x => if left then decide (kn x < kn key) else decide (kn x ≤ kn key)
  | none => false
theorem bey_at {left : Bool} {key : Keyed} {arr : Array Keyed} {base i : Nat} {x : Keyed} (e : arr[base + i]? = some x) : bey left key arr base i = if left then decide (kn x < kn key) else decide (kn x ≤ kn key) := by
  unfold bey; rw [e]
theorem wpS_beyond {st : SortSt} {left : Bool} {key : Keyed} {arr : Array Keyed} {base i : Nat} {f : Option Bool → Option Bool} (hf : ∀ b, f (some b) = some (!b)) {Q : Option Bool → SortSt → Prop} (hk : kindOf st = oneType') (hy : IntK key)
    (ha : ∀ p ∈ arr.toList, IntK p) (hi : base + i < arr.size) (h : Q (some (bey left key arr base i)) st) :
    wpS (model prog w) A E s (elem' arr (base + i) >>= fun x => if left = true then lt' x key else lt' key x >>= fun r => pure (f r)) Q st := by
  have e : arr[base + i]? = some arr[base + i] := getElem?_pos arr (base + i) hi
  have hx : IntK arr[base + i] := ha _ (by simp)
  rw [bey_at e] at h
  refine wpS_bind (wpS_elem e ?_)
  cases left with
  | true =>
    rw [if_pos rfl] at h ⊢
    exact wpS_lt hk hx hy h
  | false =>
    rw [if_neg Bool.false_ne_true] at h ⊢
    refine wpS_bind (wpS_lt hk hy hx (wpS_pure ?_))
    have : f (some (decide (kn key < kn arr[base + i]))) = some (decide (kn arr[base + i] ≤ kn key)) := by
      rw [hf]
      congr 1
      by_cases z : kn key < kn arr[base + i]
      · rw [decide_eq_true z, decide_eq_false (by omega)]; rfl
      · rw [decide_eq_false z, decide_eq_true (by omega)]; rfl
    rw [this]
    exact h

theorem wpS_gallop {st : SortSt} {left : Bool} {key : Keyed} {arr : Array Keyed} {base n hint : Nat} {Q : Option Nat → SortSt → Prop} (hk : kindOf st = oneType') (hy : IntK key)
    (ha : ∀ p ∈ arr.toList, IntK p) (hn : base + n ≤ arr.size) (hh : hint < n) (mono : ∀ i j, i ≤ j → j < n → bey left key arr base j = true → bey left key arr base i = true)
    (h : ∀ k, k ≤ n → (∀ i, i < k → bey left key arr base i = true) → (∀ i, k ≤ i → i < n → bey left key arr base i = false) → Q (some k) st) :
    wpS (model prog w) A E s (gallop' left key arr base n hint) Q st := by
  have fin : ∀ (f : Nat → Option (Option Nat) × Nat × Nat → StateT SortSt Sem (ForInStep (Option (Option Nat) × Nat × Nat)))
      (hf : ∀ x lo hi (Q' : ForInStep (Option (Option Nat) × Nat × Nat) → SortSt → Prop), hi ≤ n → (lo ≥ hi → Q' (.done (none, lo, hi)) st) → (lo < hi → Q' (if bey left key arr base (lo + (hi - lo) / 2) = true then .yield (none, lo + (hi - lo) / 2 + 1, hi) else .yield (none, lo, lo + (hi - lo) / 2)) st) → wpS (model prog w) A E s (f x (none, lo, hi)) Q' st)
      lo hi, lo ≤ hi → hi ≤ n → (∀ i, i < lo → bey left key arr base i = true) → (∀ i, hi ≤ i → i < n → bey left key arr base i = false) →
      wpS (model prog w) A E s (forIn [0:n] ((none : Option (Option Nat)), lo, hi) f) (fun c st' => st' = st ∧ ∃ hi, c = (none, hi, hi) ∧ hi ≤ n ∧ (∀ i, i < hi → bey left key arr base i = true) ∧ (∀ i, hi ≤ i → i < n → bey left key arr base i = false)) st := by
    intro f hf lo hi h1 h2 h3 h4
    refine wpS_forRange (I := fun x c st' => st' = st ∧ ∃ lo hi, c = (none, lo, hi) ∧ lo ≤ hi ∧ hi ≤ n ∧ hi - lo ≤ n - x ∧ (∀ i, i < lo → bey left key arr base i = true) ∧ (∀ i, hi ≤ i → i < n → bey left key arr base i = false)) ?istep ?ifin ⟨rfl, lo, hi, rfl, h1, h2, by omega, h3, h4⟩
    case ifin =>
      rintro c st' ⟨rfl, lo, hi, rfl, a1, a2, a3, a4, a5⟩
      have : lo = hi := by omega
      subst this
      exact ⟨rfl, lo, rfl, a2, a4, a5⟩
    case istep =>
      rintro x c st' _ hx ⟨rfl, lo, hi, rfl, a1, a2, a3, a4, a5⟩
      refine hf x lo hi _ a2 (fun z => ?_) fun z => ?_
      · have : lo = hi := by omega
        subst this
        exact ⟨rfl, lo, rfl, a2, a4, a5⟩
      · cases hb : bey left key arr base (lo + (hi - lo) / 2) with
        | true =>
          rw [if_pos rfl]
          exact ⟨rfl, _, hi, rfl, by omega, a2, by omega, fun i hi' => mono i _ (by omega) (by omega) hb, a5⟩
        | false =>
          rw [if_neg Bool.false_ne_true]
          refine ⟨rfl, lo, _, rfl, by omega, by omega, by omega, a4, fun i h1 h2 => ?_⟩
          cases hb' : bey left key arr base i with
          | false => rfl
          | true => rw [mono _ i h1 h2 hb'] at hb; cases hb
  refine wpS_bind (wpS_beyond (fun _ => rfl) hk hy ha (by omega) ?_)
  dsimp only
  cases hb : bey left key arr base hint with
  | true =>
    rw [if_pos rfl]
    refine wpS_bind (wpS_mono (wpS_forRange (I := fun x c st' => st' = st ∧ ∃ lastofs ofs, c = (none, lastofs, ofs) ∧ lastofs < ofs ∧ x + 1 ≤ ofs ∧ hint + lastofs < n ∧ bey left key arr base (hint + lastofs) = true)
      (Q := fun c st' => st' = st ∧ ∃ lastofs ofs, c = (none, lastofs, ofs) ∧ lastofs < ofs ∧ hint + lastofs < n ∧ bey left key arr base (hint + lastofs) = true ∧ (hint + ofs < n → bey left key arr base (hint + ofs) = false)) ?istep ?ifin ⟨rfl, 0, 1, rfl, by omega, by omega, by omega, hb⟩) ?post)
    case ifin =>
      rintro c st' ⟨rfl, la, of, rfl, a1, a2, a3, a4⟩
      exact ⟨rfl, la, of, rfl, a1, a3, a4, fun z => by omega⟩
    case istep =>
      rintro x c st' _ hx ⟨rfl, la, of, rfl, a1, a2, a3, a4⟩
      dsimp only
      by_cases hge : of ≥ n - hint
      · rw [if_pos hge]
        exact wpS_pure ⟨rfl, la, of, rfl, a1, a3, a4, fun z => by omega⟩
      · rw [if_neg hge]
        refine wpS_bind (wpS_beyond (fun _ => rfl) hk hy ha (by omega) ?_)
        dsimp only
        cases hb' : bey left key arr base (hint + of) with
        | true =>
          exact wpS_pure ⟨rfl, of, 2 * of + 1, rfl, by omega, by omega, by omega, hb'⟩
        | false =>
          exact wpS_pure ⟨rfl, la, of, rfl, a1, a3, a4, fun _ => hb'⟩
    case post =>
      rintro c st' ⟨rfl, la, of, rfl, a1, a3, a4, a5⟩
      have nf : ∀ i, hint + min of (n - hint) ≤ i → i < n → bey left key arr base i = false := fun i h1 h2 => by
        have : of < n - hint := by omega
        cases hb' : bey left key arr base i with
        | false => rfl
        | true =>
          have := mono (hint + of) i (by omega) h2 hb'
          rw [a5 (by omega)] at this; cases this
      dsimp only
      refine wpS_bind (wpS_mono (fin _ (fun x lo hi Q' z1 z2 z3 => ?_) (hint + la + 1) (hint + min of (n - hint)) (by omega) (by omega) (fun i hi => mono i _ (by omega) a3 a4) nf) ?_)
      · dsimp only
        by_cases hge : lo ≥ hi
        · rw [if_pos hge]; exact wpS_pure (z2 hge)
        · rw [if_neg hge]
          refine wpS_bind (wpS_beyond (fun _ => rfl) hk hy ha (by omega) ?_)
          have z3 := z3 (by omega)
          dsimp only
          cases hb' : bey left key arr base (lo + (hi - lo) / 2) with
          | true => rw [hb', if_pos rfl] at z3; exact wpS_pure z3
          | false => rw [hb', if_neg Bool.false_ne_true] at z3; exact wpS_pure z3
      · rintro c st'' ⟨rfl, hi, rfl, b2, b4, b5⟩
        exact wpS_pure (h hi b2 b4 b5)
  | false =>
    rw [if_neg Bool.false_ne_true]
    refine wpS_bind (wpS_mono (wpS_forRange (I := fun x c st' => st' = st ∧ ∃ lastofs ofs, c = (none, lastofs, ofs) ∧ lastofs < ofs ∧ x + 1 ≤ ofs ∧ lastofs ≤ hint ∧ bey left key arr base (hint - lastofs) = false)
      (Q := fun c st' => st' = st ∧ ∃ lastofs ofs, c = (none, lastofs, ofs) ∧ lastofs < ofs ∧ lastofs ≤ hint ∧ bey left key arr base (hint - lastofs) = false ∧ (ofs ≤ hint → bey left key arr base (hint - ofs) = true)) ?istep ?ifin ⟨rfl, 0, 1, rfl, by omega, by omega, by omega, hb⟩) ?post)
    case ifin =>
      rintro c st' ⟨rfl, la, of, rfl, a1, a2, a3, a4⟩
      exact ⟨rfl, la, of, rfl, a1, a3, a4, fun z => by omega⟩
    case istep =>
      rintro x c st' _ hx ⟨rfl, la, of, rfl, a1, a2, a3, a4⟩
      dsimp only
      by_cases hge : of ≥ hint + 1
      · rw [if_pos hge]
        exact wpS_pure ⟨rfl, la, of, rfl, a1, a3, a4, fun z => by omega⟩
      · rw [if_neg hge]
        refine wpS_bind (wpS_beyond (fun _ => rfl) hk hy ha (by omega) ?_)
        dsimp only
        cases hb' : bey left key arr base (hint - of) with
        | true =>
          exact wpS_pure ⟨rfl, la, of, rfl, a1, a3, a4, fun _ => hb'⟩
        | false =>
          exact wpS_pure ⟨rfl, of, 2 * of + 1, rfl, by omega, by omega, by omega, hb'⟩
    case post =>
      rintro c st' ⟨rfl, la, of, rfl, a1, a3, a4, a5⟩
      have nf : ∀ i, hint - la ≤ i → i < n → bey left key arr base i = false := fun i h1 h2 => by
        cases hb' : bey left key arr base i with
        | false => rfl
        | true =>
          have := mono (hint - la) i h1 h2 hb'
          rw [a4] at this; cases this
      dsimp only
      refine wpS_bind (wpS_mono (fin _ (fun x lo hi Q' z1 z2 z3 => ?_) (hint + 1 - min of (hint + 1)) (hint - la) (by omega) (by omega) (fun i hi => mono i (hint - of) (by omega) (by omega) (a5 (by omega))) nf) ?_)
      · dsimp only
        by_cases hge : lo ≥ hi
        · rw [if_pos hge]; exact wpS_pure (z2 hge)
        · rw [if_neg hge]
          refine wpS_bind (wpS_beyond (fun _ => rfl) hk hy ha (by omega) ?_)
          have z3 := z3 (by omega)
          dsimp only
          cases hb' : bey left key arr base (lo + (hi - lo) / 2) with
          | true => rw [hb', if_pos rfl] at z3; exact wpS_pure z3
          | false => rw [hb', if_neg Bool.false_ne_true] at z3; exact wpS_pure z3
      · rintro c st'' ⟨rfl, hi, rfl, b2, b4, b5⟩
        exact wpS_pure (h hi b2 b4 b5)
end
end L2

set_option Elab.async false
set_option linter.all false
set_option maxRecDepth 100000
namespace L2
open PySem PySem.Spec PyProof.Rows

/-! ### merging -/
structure Mg (R : Keyed → Keyed → Prop) (a b out : List Keyed) (ia ib : Nat) : Prop where
  perm : out.Perm (a.take ia ++ b.take ib)
  srt : out.Pairwise R
  ra : ∀ x ∈ out, ∀ y ∈ a.drop ia, R x y
  rb : ∀ x ∈ out, ∀ y ∈ b.drop ib, R x y
theorem Mg.swap {R : Keyed → Keyed → Prop} {a b out : List Keyed} {ia ib : Nat} (h : Mg R a b out ia ib) : Mg R b a out ib ia :=
  ⟨h.perm.trans List.perm_append_comm, h.srt, h.rb, h.ra⟩
theorem Mg.nil {R : Keyed → Keyed → Prop} {a b : List Keyed} : Mg R a b [] 0 0 := ⟨by simp, .nil, (fun _ h => by cases h), (fun _ h => by cases h)⟩
theorem drop_cons {a : List Keyed} {i : Nat} {x : Keyed} (e : a[i]? = some x) : a.drop i = x :: a.drop (i + 1) := by
  obtain ⟨hi, e'⟩ := List.getElem?_eq_some_iff.mp e
  rw [List.drop_eq_getElem_cons hi, e']
theorem Mg.pushA {R : Keyed → Keyed → Prop} {a b out : List Keyed} {ia ib : Nat} {x : Keyed} (h : Mg R a b out ia ib) (sa : a.Pairwise R) (e : a[ia]? = some x) (hx : ∀ y ∈ b.drop ib, R x y) :
    Mg R a b (out ++ [x]) (ia + 1) ib := by
  have hd := drop_cons e
  have hs : (a.drop ia).Pairwise R := sa.sublist (List.drop_sublist _ _)
  rw [hd, List.pairwise_cons] at hs
  refine ⟨?_, ?_, ?_, ?_⟩
  · obtain ⟨hi, e'⟩ := List.getElem?_eq_some_iff.mp e
    rw [List.take_succ_eq_append_getElem hi, e', List.append_assoc]
    refine (h.perm.append_right [x]).trans ?_
    rw [List.append_assoc]
    exact List.Perm.append_left _ List.perm_append_comm
  · rw [List.pairwise_append]
    refine ⟨h.srt, List.pairwise_singleton _ _, fun u hu v hv => ?_⟩
    rw [List.mem_singleton] at hv
    subst hv
    exact h.ra u hu _ (by rw [hd]; exact List.mem_cons_self)
  · intro u hu y hy
    rcases List.mem_append.mp hu with hu | hu
    · exact h.ra u hu y (by rw [hd]; exact List.mem_cons_of_mem _ hy)
    · rw [List.mem_singleton] at hu
      subst hu
      exact hs.1 y hy
  · intro u hu y hy
    rcases List.mem_append.mp hu with hu | hu
    · exact h.rb u hu y hy
    · rw [List.mem_singleton] at hu
      subst hu
      exact hx y hy
theorem Mg.pushB {R : Keyed → Keyed → Prop} {a b out : List Keyed} {ia ib : Nat} {x : Keyed} (h : Mg R a b out ia ib) (sb : b.Pairwise R) (e : b[ib]? = some x) (hx : ∀ y ∈ a.drop ia, R x y) :
    Mg R a b (out ++ [x]) ia (ib + 1) := (h.swap.pushA sb e hx).swap
theorem Mg.blockA {R : Keyed → Keyed → Prop} {a b : List Keyed} {ib : Nat} (sa : a.Pairwise R) : ∀ (k : Nat) {out : List Keyed} {ia : Nat}, Mg R a b out ia ib → ia + k ≤ a.length → (∀ i, ia ≤ i → i < ia + k → ∀ x, a[i]? = some x → ∀ y ∈ b.drop ib, R x y) →
    Mg R a b (out ++ (a.drop ia).take k) (ia + k) ib
  | 0, out, ia, h, _, _ => by simpa using h
  | k + 1, out, ia, h, hl, hx => by
    have e : a[ia]? = some a[ia] := List.getElem?_eq_getElem (by omega)
    rw [drop_cons e, List.take_succ_cons, show ia + (k + 1) = ia + 1 + k by omega]
    have h1 := Mg.blockA sa k (h.pushA sa e (hx ia (Nat.le_refl _) (by omega) _ e)) (by omega) (fun i h1 h2 => hx i (by omega) (by omega))
    rwa [List.append_assoc] at h1
theorem Mg.blockB {R : Keyed → Keyed → Prop} {a b : List Keyed} {ia : Nat} (sb : b.Pairwise R) (k : Nat) {out : List Keyed} {ib : Nat} (h : Mg R a b out ia ib) (hl : ib + k ≤ b.length) (hx : ∀ i, ib ≤ i → i < ib + k → ∀ x, b[i]? = some x → ∀ y ∈ a.drop ia, R x y) :
    Mg R a b (out ++ (b.drop ib).take k) ia (ib + k) := (Mg.blockA sb k h.swap hl hx).swap
/-- merged -/
def Mgd (R : Keyed → Keyed → Prop) (a b r : List Keyed) : Prop := r.Perm (a ++ b) ∧ r.Pairwise R
theorem Mg.done {R : Keyed → Keyed → Prop} {a b out : List Keyed} {ia ib : Nat} (h : Mg R a b out ia ib) (sa : a.Pairwise R) (sb : b.Pairwise R) (hx : ∀ x ∈ a.drop ia, ∀ y ∈ b.drop ib, R x y) :
    Mgd R a b (out ++ a.drop ia ++ b.drop ib) := by
  refine ⟨?_, ?_⟩
  · have h1 : (a ++ b) = (a.take ia ++ a.drop ia) ++ (b.take ib ++ b.drop ib) := by rw [List.take_append_drop, List.take_append_drop]
    rw [h1]
    refine ((h.perm.append_right _).append_right _).trans ?_
    rw [List.append_assoc, List.append_assoc, List.append_assoc]
    refine List.Perm.append_left _ ?_
    rw [← List.append_assoc, ← List.append_assoc]
    exact List.perm_append_comm.append_right _
  · rw [List.pairwise_append, List.pairwise_append]
    refine ⟨⟨h.srt, sa.sublist (List.drop_sublist _ _), h.ra⟩, sb.sublist (List.drop_sublist _ _), fun u hu y hy => ?_⟩
    rcases List.mem_append.mp hu with hu | hu
    · exact h.rb u hu y hy
    · exact hx u hu y hy
theorem Mgd.comm {R : Keyed → Keyed → Prop} {a b r : List Keyed} (h : Mgd R a b r) : Mgd R b a r := ⟨h.1.trans List.perm_append_comm, h.2⟩

def mergeLo' : Array Keyed → Array Keyed → StateT SortSt Sem (Array Keyed) := sortPriv% PySem.Builtin.mergeLo
def mergeHi' : Array Keyed → Array Keyed → StateT SortSt Sem (Array Keyed) := sortPriv% PySem.Builtin.mergeHi
abbrev setGal (st : SortSt) (g : Nat) : SortSt := SortSt.mk' (kindOf st) (arrOf st) (pendingOf st) g (failedOf st)
/-- numbers do not fall -/
def Le (x y : Keyed) : Prop := kn x ≤ kn y
/-- all but the gallop's measure is as it was -/
structure SameS (st st' : SortSt) : Prop where
  kind : kindOf st' = kindOf st
  arr : arrOf st' = arrOf st
  pend : pendingOf st' = pendingOf st
  failed : failedOf st' = failedOf st
theorem SameS.refl (st : SortSt) : SameS st st := ⟨rfl, rfl, rfl, rfl⟩
theorem SameS.gal {st st' : SortSt} (h : SameS st st') (g : Nat) : SameS st (setGal st' g) := ⟨h.kind, h.arr, h.pend, h.failed⟩
theorem ext_end (a : Array Keyed) (i : Nat) : (a.extract i a.size).toList = a.toList.drop i := by
  rw [Array.toList_extract, List.extract_eq_take_drop, List.take_of_length_le (by simp)]
theorem ext_mid (a : Array Keyed) (i k : Nat) : (a.extract i (i + k)).toList = (a.toList.drop i).take k := by
  rw [Array.toList_extract, List.extract_eq_take_drop]
  congr 1; omega
theorem le_drop {a : List Keyed} (sa : a.Pairwise Le) {i : Nat} {x z : Keyed} (e : a[i]? = some z) (hz : Le x z) : ∀ y ∈ a.drop i, Le x y := fun y hy => by
  have hs : (a.drop i).Pairwise Le := sa.sublist (List.drop_sublist _ _)
  rw [drop_cons e] at hs hy
  rw [List.pairwise_cons] at hs
  rcases List.mem_cons.mp hy with rfl | hy
  · exact hz
  · have := hs.1 y hy
    unfold Le at *; omega
theorem lo_done {a b out : Array Keyed} {ia ib : Nat} (sa : a.toList.Pairwise Le) (sb : b.toList.Pairwise Le) (m : Mg Le a.toList b.toList out.toList ia ib) (hz : ia = a.size ∨ ib = b.size) :
    Mgd Le a.toList b.toList (out ++ a.extract ia a.size ++ b.extract ib b.size).toList := by
  rw [Array.toList_append, Array.toList_append, ext_end, ext_end]
  refine m.done sa sb fun x hx y hy => ?_
  rcases hz with rfl | rfl
  · rw [List.drop_of_length_le (by simp)] at hx; cases hx
  · rw [List.drop_of_length_le (by simp)] at hy; cases hy
theorem lo_last {a b out : Array Keyed} {ia ib : Nat} (sa : a.toList.Pairwise Le) (sb : b.toList.Pairwise Le) (m : Mg Le a.toList b.toList out.toList ia ib) (hz : ia + 1 = a.size)
    (h2 : ∀ x, a[a.size - 1]? = some x → ∀ y ∈ b.toList, Le y x) : Mgd Le a.toList b.toList (out ++ b.extract ib b.size ++ a.extract ia a.size).toList := by
  rw [Array.toList_append, Array.toList_append, ext_end, ext_end]
  refine (m.swap.done sb sa fun x hx y hy => ?_).comm
  have e : a.toList[ia]? = some (a[ia]'(by omega)) := by rw [Array.getElem?_toList]; exact getElem?_pos a ia (by omega)
  rw [drop_cons e, List.drop_of_length_le (by simp; omega)] at hy
  rw [List.mem_singleton] at hy
  subst hy
  refine h2 _ ?_ x (List.mem_of_mem_drop hx)
  rw [show a.size - 1 = ia by omega]
  exact getElem?_pos a ia (by omega)
/-- where the merge from below stands -/
structure LoI (a b : Array Keyed) (st0 st : SortSt) (n : Nat) (out : Array Keyed) (ia ib : Nat) : Prop where
  same : SameS st0 st
  mg : Mg Le a.toList b.toList out.toList ia ib
  la : ia + 1 < a.size
  lb : ib < b.size
  far : n ≤ ia + ib
theorem bey_mono {left : Bool} {key : Keyed} {arr : Array Keyed} {base n : Nat} (hn : base + n ≤ arr.size) (hs : arr.toList.Pairwise Le) : ∀ i j, i ≤ j → j < n → bey left key arr base j = true → bey left key arr base i = true := by
  intro i j hij hj hb
  by_cases e : i = j
  · subst e; exact hb
  have e1 : arr[base + i]? = some (arr[base + i]'(by omega)) := getElem?_pos arr (base + i) (by omega)
  have e2 : arr[base + j]? = some (arr[base + j]'(by omega)) := getElem?_pos arr (base + j) (by omega)
  have hl : Le (arr[base + i]'(by omega)) (arr[base + j]'(by omega)) := by
    have := List.pairwise_iff_getElem.mp hs (base + i) (base + j) (by simp; omega) (by simp; omega) (by omega)
    simpa using this
  rw [bey_at e2] at hb
  rw [bey_at e1]
  unfold Le at hl
  cases left <;> simp at hb ⊢ <;> omega
theorem bey_true {left : Bool} {key : Keyed} {arr : Array Keyed} {base i : Nat} (h : bey left key arr base i = true) {x : Keyed} (e : arr[base + i]? = some x) : Le x key := by
  rw [bey_at e] at h
  unfold Le
  cases left <;> simp at h <;> omega
theorem bey_false {left : Bool} {key : Keyed} {arr : Array Keyed} {base i : Nat} (h : bey left key arr base i = false) {x : Keyed} (e : arr[base + i]? = some x) : Le key x := by
  rw [bey_at e] at h
  unfold Le
  cases left <;> simp at h <;> omega
section
variable {prog : Program} {w : World} {A : Around} {E : Value → Shared → Prop} {s : Shared}
theorem wpS_mergeLo {st : SortSt} {a b : Array Keyed} {Q : Array Keyed → SortSt → Prop} (hk : kindOf st = oneType') (ka : ∀ p ∈ a.toList, IntK p) (kb : ∀ p ∈ b.toList, IntK p)
    (sa : a.toList.Pairwise Le) (sb : b.toList.Pairwise Le) (za : 1 ≤ a.size) (zb : 1 ≤ b.size) (h1 : ∀ x, b[0]? = some x → ∀ y ∈ a.toList, Le x y) (h2 : ∀ x, a[a.size - 1]? = some x → ∀ y ∈ b.toList, Le y x)
    (h : ∀ r st', Mgd Le a.toList b.toList r.toList → SameS st st' → Q r st') : wpS (model prog w) A E s (mergeLo' a b) Q st := by
  have ga : ∀ i (z : i < a.size), a[i]? = some a[i] ∧ a.toList[i]? = some a[i] ∧ IntK a[i] := fun i z => ⟨getElem?_pos a i z, by rw [Array.getElem?_toList]; exact getElem?_pos a i z, ka _ (by simp)⟩
  have gb : ∀ i (z : i < b.size), b[i]? = some b[i] ∧ b.toList[i]? = some b[i] ∧ IntK b[i] := fun i z => ⟨getElem?_pos b i z, by rw [Array.getElem?_toList]; exact getElem?_pos b i z, kb _ (by simp)⟩
  refine wpS_bind (wpS_lift (wpAny_rule ⟨rfl, ?_⟩))
  refine wpS_bind (wpS_elem (gb 0 (by omega)).1 ?_)
  dsimp only
  have m0 : Mg Le a.toList b.toList #[b[0]].toList 0 1 := Mg.nil.pushB sb (gb 0 (by omega)).2.1 (fun y hy => h1 _ (gb 0 (by omega)).1 y (List.mem_of_mem_drop hy))
  by_cases c1 : 1 = b.size
  · rw [if_pos (beq_iff_eq.mpr c1)]
    exact wpS_pure (h _ _ (lo_done sa sb m0 (.inr c1)) (.refl _))
  rw [if_neg (fun z => c1 (beq_iff_eq.mp z))]
  by_cases c2 : 0 + 1 = a.size
  · rw [if_pos (beq_iff_eq.mpr c2)]
    exact wpS_pure (h _ _ (lo_last sa sb m0 c2 h2) (.refl _))
  rw [if_neg (fun z => c2 (beq_iff_eq.mp z))]
  refine wpS_bind (wpS_get ?_)
  refine wpS_bind (wpS_mono (wpS_forRange (I := fun x c st' => ∃ out ia ib g, c = (none, out, ia, ib, g) ∧ LoI a b st st' x out ia ib)
    (Q := fun c st' => ∃ r u, c = (some r, u) ∧ Mgd Le a.toList b.toList r.toList ∧ SameS st st') ?step ?fin ⟨_, _, _, _, rfl, .refl _, m0, by omega, by omega, by omega⟩) ?post)
  case post =>
    rintro c st' ⟨r, u, rfl, hr, hs⟩
    exact wpS_pure (h r st' hr hs)
  case fin =>
    rintro c st' ⟨out, ia, ib, g, rfl, L⟩
    have := L.la; have := L.lb; have := L.far
    omega
  case step =>
    rintro x c st' _ hx ⟨out, ia, ib, g, rfl, L⟩
    dsimp only
    refine wpS_bind (wpS_mono (wpS_forRange (I := fun y c st' => ∃ out ia ib ac bc, c = (none, out, ia, ib, ac, bc) ∧ LoI a b st st' (x + y) out ia ib)
      (Q := fun c st' => (∃ out ia ib ac bc, c = (none, out, ia, ib, ac, bc) ∧ LoI a b st st' (x + 1) out ia ib) ∨ (∃ r u, c = (some r, u) ∧ Mgd Le a.toList b.toList r.toList ∧ SameS st st')) ?istep ?ifin ⟨_, _, _, _, _, rfl, L⟩) ?ipost)
    case ifin =>
      rintro c st' ⟨out, ia, ib, ac, bc, rfl, L⟩
      have := L.la; have := L.lb; have := L.far
      omega
    case istep =>
      rintro y c st' _ hy ⟨out, ia, ib, ac, bc, rfl, L⟩
      have la := L.la; have lb := L.lb; have far := L.far
      have za0 : ia < a.size := Nat.lt_of_succ_lt la
      dsimp only
      refine wpS_bind (wpS_elem (gb ib lb).1 (wpS_bind (wpS_elem (ga ia za0).1 (wpS_bind (wpS_lt (L.same.kind.trans hk) (gb ib lb).2.2 (ga ia za0).2.2 ?_)))))
      dsimp only
      by_cases hw : kn b[ib] < kn (a[ia]'za0)
      · rw [if_pos (decide_eq_true hw)]
        refine wpS_bind (wpS_elem (gb ib lb).1 ?_)
        have m1 : Mg Le a.toList b.toList (out.push b[ib]).toList ia (ib + 1) := by
          rw [Array.toList_push]
          exact L.mg.pushB sb (gb ib lb).2.1 (le_drop sa (ga ia za0).2.1 (Int.le_of_lt hw))
        by_cases c1 : ib + 1 = b.size
        · rw [if_pos (beq_iff_eq.mpr c1)]
          exact wpS_pure (.inr ⟨_, _, rfl, lo_done sa sb m1 (.inr c1), L.same⟩)
        rw [if_neg (fun z => c1 (beq_iff_eq.mp z))]
        have o1 : ib + 1 < b.size := Nat.lt_of_le_of_ne lb c1
        split
        · exact wpS_pure (.inl ⟨_, _, _, _, _, rfl, L.same, m1, la, o1, by omega⟩)
        · exact wpS_pure ⟨_, _, _, _, _, rfl, L.same, m1, la, o1, by omega⟩
      · rw [if_neg (fun z => hw (of_decide_eq_true z))]
        refine wpS_bind (wpS_elem (ga ia za0).1 ?_)
        have m1 : Mg Le a.toList b.toList (out.push (a[ia]'za0)).toList (ia + 1) ib := by
          rw [Array.toList_push]
          exact L.mg.pushA sa (ga ia za0).2.1 (le_drop sb (gb ib lb).2.1 (Int.not_lt.mp hw))
        by_cases c1 : ia + 1 + 1 = a.size
        · rw [if_pos (beq_iff_eq.mpr c1)]
          exact wpS_pure (.inr ⟨_, _, rfl, lo_last sa sb m1 c1 h2, L.same⟩)
        rw [if_neg (fun z => c1 (beq_iff_eq.mp z))]
        have o1 : ia + 1 + 1 < a.size := Nat.lt_of_le_of_ne la c1
        split
        · exact wpS_pure (.inl ⟨_, _, _, _, _, rfl, L.same, m1, o1, lb, by omega⟩)
        · exact wpS_pure ⟨_, _, _, _, _, rfl, L.same, m1, o1, lb, by omega⟩
    case ipost =>
      rintro c st1 (⟨out, ia, ib, ac, bc, rfl, L⟩ | ⟨r, u, rfl, hr, hs⟩)
      case inr => exact wpS_pure ⟨_, _, rfl, hr, hs⟩
      dsimp only
      refine wpS_bind (wpS_lift (wpAny_rule ⟨rfl, ?_⟩))
      refine wpS_bind (wpS_mono (wpS_forRange (I := fun y c st' => ∃ out ia ib g ac bc, c = (none, out, ia, ib, g, ac, bc) ∧ LoI a b st st' (x + 1 + y) out ia ib)
        (Q := fun c st' => (∃ out ia ib g ac bc, c = (none, out, ia, ib, g, ac, bc) ∧ LoI a b st st' (x + 1) out ia ib) ∨ (∃ r u, c = (some r, u) ∧ Mgd Le a.toList b.toList r.toList ∧ SameS st st')) ?jstep ?jfin ⟨_, _, _, _, _, _, rfl, L⟩) ?jpost)
      case jfin =>
        rintro c st' ⟨out, ia, ib, g, ac, bc, rfl, L⟩
        have := L.la; have := L.lb; have := L.far
        omega
      case jpost =>
        rintro c st1 (⟨out, ia, ib, g, ac, bc, rfl, L⟩ | ⟨r, u, rfl, hr, hs⟩)
        · dsimp only
          refine wpS_bind (wpS_modify ?_)
          exact wpS_pure ⟨_, _, _, _, rfl, L.same.gal _, L.mg, L.la, L.lb, L.far⟩
        · exact wpS_pure ⟨_, _, rfl, hr, hs⟩
      case jstep =>
        rintro y c st' _ hy ⟨out, ia, ib, g, ac, bc, rfl, L⟩
        have la := L.la; have lb := L.lb; have far := L.far
        dsimp only
        refine (fun (J1 : ∀ g2 : Nat, (?B1 : Nat → Prop) g2) => ?main1) ?pf1
        case main1 =>
          by_cases hg : g > 1
          · rw [if_pos hg]
            generalize g - 1 = g2
            exact J1 g2
          · rw [if_neg hg]
            exact J1 g
        intro g2
        refine wpS_bind (wpS_modify ?_)
        have la0 : ia < a.size := by omega
        refine wpS_bind (wpS_elem (gb ib lb).1 (wpS_bind (wpS_gallop (L.same.kind.trans hk) (gb ib lb).2.2 ka (by omega) (by omega) (bey_mono (by omega) sa) fun k lk b1 b2 => ?_)))
        have S2 := L.same.gal g2
        dsimp only
        refine (fun (J2 : ∀ (out1 : Array Keyed) (ia1 : Nat), Mg Le a.toList b.toList out1.toList ia1 ib → ia1 + 1 < a.size → (∀ z, a[ia1]? = some z → Le b[ib] z) → x + 1 + y ≤ ia1 + ib → (?B2 : Array Keyed → Nat → Prop) out1 ia1) => ?main2) ?pf2
        case main2 =>
          have m1 : Mg Le a.toList b.toList (out ++ a.extract ia (ia + k)).toList (ia + k) ib := by
            rw [Array.toList_append, ext_mid]
            refine Mg.blockA sa k L.mg (by simp; omega) fun i i1 i2 z ez => le_drop sb (gb ib lb).2.1 ?_
            refine bey_true (b1 (i - ia) (by omega)) ?_
            rw [show ia + (i - ia) = i by omega, ← Array.getElem?_toList]
            exact ez
          have hb1 : ∀ z, a[ia + k]? = some z → Le b[ib] z := fun z ez => by
            by_cases hz : ia + k < a.size
            · exact bey_false (b2 k (Nat.le_refl _) (by omega)) ez
            · rw [getElem?_neg a (ia + k) hz] at ez; cases ez
          have far1 : x + 1 + y ≤ ia + k + ib := by omega
          by_cases hk0 : k > 0
          · rw [if_pos hk0]
            by_cases c1 : ia + k + 1 = a.size
            · rw [if_pos (beq_iff_eq.mpr c1)]
              exact wpS_pure (.inr ⟨_, _, rfl, lo_last sa sb m1 c1 h2, S2.kind, S2.arr, S2.pend, S2.failed⟩)
            rw [if_neg (fun z => c1 (beq_iff_eq.mp z))]
            by_cases c2 : ia + k = a.size
            · rw [if_pos (beq_iff_eq.mpr c2)]
              exact wpS_pure (.inr ⟨_, _, rfl, lo_done sa sb m1 (.inl c2), S2.kind, S2.arr, S2.pend, S2.failed⟩)
            rw [if_neg (fun z => c2 (beq_iff_eq.mp z))]
            have la1 : ia + k + 1 < a.size := by omega
            generalize ho : out ++ a.extract ia (ia + k) = out1 at m1 ⊢
            generalize hi : ia + k = ia1 at m1 la1 hb1 far1 ⊢
            exact J2 out1 ia1 m1 la1 hb1 far1
          · rw [if_neg hk0]
            have ek : k = 0 := by omega
            rw [ek, show out ++ a.extract ia (ia + 0) = out by simp; exact Nat.min_le_left _ _] at m1
            rw [ek] at hb1 far1
            exact J2 out ia m1 la hb1 far1
        intro out1 ia1 m1 la1 hb1 far1
        clear far b1 b2 lk
        have za1 : ia1 < a.size := Nat.lt_of_succ_lt la1
        refine wpS_bind (wpS_elem (gb ib lb).1 ?_)
        have m2 : Mg Le a.toList b.toList (out1.push b[ib]).toList ia1 (ib + 1) := by
          rw [Array.toList_push]
          exact m1.pushB sb (gb ib lb).2.1 (le_drop sa (ga ia1 za1).2.1 (hb1 _ (ga ia1 za1).1))
        by_cases c3 : ib + 1 = b.size
        · rw [if_pos (beq_iff_eq.mpr c3)]
          exact wpS_pure (.inr ⟨_, _, rfl, lo_done sa sb m2 (.inr c3), S2.kind, S2.arr, S2.pend, S2.failed⟩)
        rw [if_neg (fun z => c3 (beq_iff_eq.mp z))]
        refine wpS_bind (wpS_elem (ga ia1 za1).1 (wpS_bind (wpS_gallop (L.same.kind.trans hk) (ga ia1 za1).2.2 kb (by omega) (by omega) (bey_mono (by omega) sb) fun k2 lk2 d1 d2 => ?_)))
        generalize hp : out1.push b[ib] = outp at m2 ⊢
        dsimp only
        refine (fun (J3 : ∀ (out2 : Array Keyed) (ib1 : Nat), Mg Le a.toList b.toList out2.toList ia1 ib1 → ib1 < b.size → (∀ z, b[ib1]? = some z → Le (a[ia1]'za1) z) → x + 1 + y ≤ ia1 + ib1 → (?B3 : Array Keyed → Nat → Prop) out2 ib1) => ?main3) ?pf3
        case main3 =>
          have m3 : Mg Le a.toList b.toList (outp ++ b.extract (ib + 1) (ib + 1 + k2)).toList ia1 (ib + 1 + k2) := by
            rw [Array.toList_append, ext_mid]
            refine Mg.blockB sb k2 m2 (by simp; omega) fun i i1 i2 z ez => le_drop sa (ga ia1 za1).2.1 ?_
            refine bey_true (d1 (i - (ib + 1)) (by omega)) ?_
            rw [show ib + 1 + (i - (ib + 1)) = i by omega, ← Array.getElem?_toList]
            exact ez
          have hb2 : ∀ z, b[ib + 1 + k2]? = some z → Le (a[ia1]'za1) z := fun z ez => by
            by_cases hz : ib + 1 + k2 < b.size
            · exact bey_false (d2 k2 (Nat.le_refl _) (by omega)) ez
            · rw [getElem?_neg b (ib + 1 + k2) hz] at ez; cases ez
          have far2 : x + 1 + y ≤ ia1 + (ib + 1 + k2) := by omega
          by_cases hk1 : k2 > 0
          · rw [if_pos hk1]
            by_cases c1 : ib + 1 + k2 = b.size
            · rw [if_pos (beq_iff_eq.mpr c1)]
              exact wpS_pure (.inr ⟨_, _, rfl, lo_done sa sb m3 (.inr c1), S2.kind, S2.arr, S2.pend, S2.failed⟩)
            rw [if_neg (fun z => c1 (beq_iff_eq.mp z))]
            have lb1 : ib + 1 + k2 < b.size := by omega
            generalize ho2 : outp ++ b.extract (ib + 1) (ib + 1 + k2) = out2 at m3 ⊢
            generalize hi2 : ib + 1 + k2 = ib1 at m3 lb1 hb2 far2 ⊢
            exact J3 out2 ib1 m3 lb1 hb2 far2
          · rw [if_neg hk1]
            have ek : k2 = 0 := by omega
            rw [ek, show outp ++ b.extract (ib + 1) (ib + 1 + 0) = outp by simp; exact Nat.min_le_left _ _] at m3
            rw [ek] at hb2 far2
            exact J3 outp (ib + 1) m3 (by omega) hb2 far2
        intro out2 ib1 m3 lb1 hb2 far2
        refine wpS_bind (wpS_elem (ga ia1 za1).1 ?_)
        have m4 : Mg Le a.toList b.toList (out2.push (a[ia1]'za1)).toList (ia1 + 1) ib1 := by
          rw [Array.toList_push]
          exact m3.pushA sa (ga ia1 za1).2.1 (le_drop sb (gb ib1 lb1).2.1 (hb2 _ (gb ib1 lb1).1))
        by_cases c4 : ia1 + 1 + 1 = a.size
        · rw [if_pos (beq_iff_eq.mpr c4)]
          exact wpS_pure (.inr ⟨_, _, rfl, lo_last sa sb m4 c4 h2, S2.kind, S2.arr, S2.pend, S2.failed⟩)
        rw [if_neg (fun z => c4 (beq_iff_eq.mp z))]
        have o1 : ia1 + 1 + 1 < a.size := by omega
        split
        · exact wpS_pure (.inl ⟨_, _, _, _, _, _, rfl, ⟨S2.kind, S2.arr, S2.pend, S2.failed⟩, m4, o1, lb1, by omega⟩)
        · exact wpS_pure ⟨_, _, _, _, _, _, rfl, ⟨S2.kind, S2.arr, S2.pend, S2.failed⟩, m4, o1, lb1, by omega⟩
end
end L2

set_option Elab.async false
set_option linter.all false
set_option maxRecDepth 100000
namespace L2
open PySem PySem.Spec PyProof.Rows

/-! ### merging from above -/
def Ge (x y : Keyed) : Prop := kn y ≤ kn x
theorem ge_drop {a : List Keyed} (sa : a.Pairwise Ge) {i : Nat} {x z : Keyed} (e : a[i]? = some z) (hz : Ge x z) : ∀ y ∈ a.drop i, Ge x y := fun y hy => by
  have hs : (a.drop i).Pairwise Ge := sa.sublist (List.drop_sublist _ _)
  rw [drop_cons e] at hs hy
  rw [List.pairwise_cons] at hs
  rcases List.mem_cons.mp hy with rfl | hy
  · exact hz
  · have := hs.1 y hy
    unfold Ge at *; omega
theorem rev_srt {a : List Keyed} (s : a.Pairwise Le) : a.reverse.Pairwise Ge := by
  rw [List.pairwise_reverse]; exact s
theorem rvs_at {a : Array Keyed} {n : Nat} (h1 : 1 ≤ n) (h2 : n ≤ a.size) : a.toList.reverse[a.size - n]? = some (a[n - 1]'(by omega)) := by
  rw [List.getElem?_reverse (by simp; omega), Array.getElem?_toList, Array.length_toList, show a.size - 1 - (a.size - n) = n - 1 by omega]
  exact getElem?_pos a (n - 1) (by omega)
theorem rev_drop {a : Array Keyed} {n : Nat} (h2 : n ≤ a.size) : a.toList.reverse.drop (a.size - n) = (a.toList.take n).reverse := by
  rw [List.drop_reverse, Array.length_toList, show a.size - (a.size - n) = n by omega]
theorem ext_start (a : Array Keyed) (n : Nat) : (a.extract 0 n).toList = a.toList.take n := by
  rw [Array.toList_extract, List.extract_eq_take_drop]; simp
theorem ext_rev {a : Array Keyed} {k n : Nat} (h1 : k ≤ n) (h2 : n ≤ a.size) : (a.extract k n).reverse.toList = (a.toList.reverse.drop (a.size - n)).take (n - k) := by
  rw [rev_drop h2, Array.toList_reverse, Array.toList_extract, List.extract_eq_take_drop, List.take_reverse]
  congr 1
  rw [List.length_take, Array.length_toList, show min n a.size - (n - k) = k by omega, List.drop_take]
theorem Mgd.rev {a b r : List Keyed} (h : Mgd Ge a.reverse b.reverse r) : Mgd Le a b r.reverse := by
  refine ⟨(List.reverse_perm r).trans (h.1.trans ?_), ?_⟩
  · exact (List.reverse_perm a).append (List.reverse_perm b)
  · rw [List.pairwise_reverse]; exact h.2
theorem hi_done {a b out : Array Keyed} {na nb : Nat} (sa : a.toList.Pairwise Le) (sb : b.toList.Pairwise Le) (la : na ≤ a.size) (lb : nb ≤ b.size) (m : Mg Ge a.toList.reverse b.toList.reverse out.toList (a.size - na) (b.size - nb)) (hz : na = 0 ∨ nb = 0) :
    Mgd Le a.toList b.toList (a.extract 0 na ++ b.extract 0 nb ++ out.reverse).toList := by
  have := (m.swap.done (rev_srt sb) (rev_srt sa) (fun x hx y hy => by
    rw [rev_drop lb] at hx
    rw [rev_drop la] at hy
    rcases hz with rfl | rfl
    · cases hy
    · cases hx)).comm.rev
  rw [rev_drop la, rev_drop lb, List.reverse_append, List.reverse_append, List.reverse_reverse, List.reverse_reverse, ← List.append_assoc] at this
  rw [Array.toList_append, Array.toList_append, ext_start, ext_start, Array.toList_reverse]
  exact this
theorem hi_first {a b out : Array Keyed} {na nb : Nat} (sa : a.toList.Pairwise Le) (sb : b.toList.Pairwise Le) (la : na ≤ a.size) (lb : nb ≤ b.size) (m : Mg Ge a.toList.reverse b.toList.reverse out.toList (a.size - na) (b.size - nb)) (hz : nb = 1)
    (h1 : ∀ x, b[0]? = some x → ∀ y ∈ a.toList, Le x y) : Mgd Le a.toList b.toList (b.extract 0 nb ++ a.extract 0 na ++ out.reverse).toList := by
  have := (m.done (rev_srt sa) (rev_srt sb) (fun x hx y hy => by
    rw [rev_drop la, List.mem_reverse] at hx
    rw [rev_drop lb, List.mem_reverse] at hy
    subst hz
    have e : b.toList.take 1 = [b[0]'(by omega)] := by
      have e0 : b.toList[0]? = some (b[0]'(by omega)) := by rw [Array.getElem?_toList]; exact getElem?_pos b 0 (by omega)
      have e1 := drop_cons e0
      rw [List.drop_zero] at e1
      rw [e1]; rfl
    rw [e, List.mem_singleton] at hy
    subst hy
    exact h1 _ (getElem?_pos b 0 (by omega)) x (List.mem_of_mem_take hx))).rev
  rw [rev_drop la, rev_drop lb, List.reverse_append, List.reverse_append, List.reverse_reverse, List.reverse_reverse, ← List.append_assoc] at this
  rw [Array.toList_append, Array.toList_append, ext_start, ext_start, Array.toList_reverse]
  exact this
structure HiI (a b : Array Keyed) (st0 st : SortSt) (n : Nat) (na nb : Nat) (out : Array Keyed) : Prop where
  same : SameS st0 st
  mg : Mg Ge a.toList.reverse b.toList.reverse out.toList (a.size - na) (b.size - nb)
  la : na ≤ a.size
  lb : nb ≤ b.size
  pa : 1 ≤ na
  pb : 2 ≤ nb
  far : n + na + nb ≤ a.size + b.size
section
variable {prog : Program} {w : World} {A : Around} {E : Value → Shared → Prop} {s : Shared}
theorem wpS_mergeHi {st : SortSt} {a b : Array Keyed} {Q : Array Keyed → SortSt → Prop} (hk : kindOf st = oneType') (ka : ∀ p ∈ a.toList, IntK p) (kb : ∀ p ∈ b.toList, IntK p)
    (sa : a.toList.Pairwise Le) (sb : b.toList.Pairwise Le) (za : 1 ≤ a.size) (zb : 1 ≤ b.size) (h1 : ∀ x, b[0]? = some x → ∀ y ∈ a.toList, Le x y) (h2 : ∀ x, a[a.size - 1]? = some x → ∀ y ∈ b.toList, Le y x)
    (h : ∀ r st', Mgd Le a.toList b.toList r.toList → SameS st st' → Q r st') : wpS (model prog w) A E s (mergeHi' a b) Q st := by
  have ga : ∀ i (z : i < a.size), a[i]? = some a[i] ∧ IntK a[i] := fun i z => ⟨getElem?_pos a i z, ka _ (by simp)⟩
  have gb : ∀ i (z : i < b.size), b[i]? = some b[i] ∧ IntK b[i] := fun i z => ⟨getElem?_pos b i z, kb _ (by simp)⟩
  have sra := rev_srt sa
  have srb := rev_srt sb
  refine wpS_bind (wpS_lift (wpAny_rule ⟨rfl, ?_⟩))
  refine wpS_bind (wpS_elem (ga (a.size - 1) (by omega)).1 ?_)
  dsimp only
  have m0 : Mg Ge a.toList.reverse b.toList.reverse #[a[a.size - 1]'(by omega)].toList (a.size - (a.size - 1)) (b.size - b.size) := by
    have e : a.toList.reverse[0]? = some (a[a.size - 1]'(by omega)) := by
      have := rvs_at (a := a) (n := a.size) (by omega) (Nat.le_refl _)
      rwa [Nat.sub_self] at this
    have := (Mg.nil (b := b.toList.reverse)).pushA sra e (fun y hy => h2 _ (ga (a.size - 1) (by omega)).1 y (List.mem_reverse.mp (List.mem_of_mem_drop hy)))
    rw [show a.size - (a.size - 1) = 0 + 1 by omega, Nat.sub_self]
    exact this
  by_cases c1 : a.size - 1 = 0
  · rw [if_pos (beq_iff_eq.mpr c1)]
    exact wpS_pure (h _ _ (hi_done sa sb (by omega) (Nat.le_refl _) m0 (.inl c1)) (.refl _))
  rw [if_neg (fun z => c1 (beq_iff_eq.mp z))]
  by_cases c2 : b.size = 1
  · rw [if_pos (beq_iff_eq.mpr c2)]
    exact wpS_pure (h _ _ (hi_first sa sb (by omega) (Nat.le_refl _) m0 c2 h1) (.refl _))
  rw [if_neg (fun z => c2 (beq_iff_eq.mp z))]
  refine wpS_bind (wpS_get ?_)
  refine wpS_bind (wpS_mono (wpS_forRange (I := fun x c st' => ∃ na nb out g, c = (none, na, nb, out, g) ∧ HiI a b st st' x na nb out)
    (Q := fun c st' => ∃ r u, c = (some r, u) ∧ Mgd Le a.toList b.toList r.toList ∧ SameS st st') ?step ?fin ⟨_, _, _, _, rfl, .refl _, m0, by omega, by omega, by omega, by omega, by omega⟩) ?post)
  case post =>
    rintro c st' ⟨r, u, rfl, hr, hs⟩
    exact wpS_pure (h r st' hr hs)
  case fin =>
    rintro c st' ⟨na, nb, out, g, rfl, L⟩
    have := L.pa; have := L.far
    omega
  case step =>
    rintro x c st' _ hx ⟨na, nb, out, g, rfl, L⟩
    dsimp only
    refine wpS_bind (wpS_mono (wpS_forRange (I := fun y c st' => ∃ na nb out ac bc, c = (none, na, nb, out, ac, bc) ∧ HiI a b st st' (x + y) na nb out)
      (Q := fun c st' => (∃ na nb out ac bc, c = (none, na, nb, out, ac, bc) ∧ HiI a b st st' (x + 1) na nb out) ∨ (∃ r u, c = (some r, u) ∧ Mgd Le a.toList b.toList r.toList ∧ SameS st st')) ?istep ?ifin ⟨_, _, _, _, _, rfl, L⟩) ?ipost)
    case ifin =>
      rintro c st' ⟨na, nb, out, ac, bc, rfl, L⟩
      have := L.pa; have := L.far
      omega
    case istep =>
      rintro y c st' _ hy ⟨na, nb, out, ac, bc, rfl, L⟩
      have la := L.la; have lb := L.lb; have pa := L.pa; have pb := L.pb; have far := L.far
      have zb0 : nb - 1 < b.size := by omega
      have za0 : na - 1 < a.size := by omega
      have pb1 : 1 ≤ nb := Nat.le_of_succ_le pb
      dsimp only
      refine wpS_bind (wpS_elem (gb (nb - 1) zb0).1 (wpS_bind (wpS_elem (ga (na - 1) za0).1 (wpS_bind (wpS_lt (L.same.kind.trans hk) (gb (nb - 1) zb0).2 (ga (na - 1) za0).2 ?_)))))
      dsimp only
      by_cases hw : kn (b[nb - 1]'zb0) < kn (a[na - 1]'za0)
      · rw [if_pos (decide_eq_true hw)]
        refine wpS_bind (wpS_elem (ga (na - 1) za0).1 ?_)
        have m1 : Mg Ge a.toList.reverse b.toList.reverse (out.push (a[na - 1]'za0)).toList (a.size - (na - 1)) (b.size - nb) := by
          rw [Array.toList_push, show a.size - (na - 1) = a.size - na + 1 by omega]
          exact L.mg.pushA sra (rvs_at pa la) (ge_drop srb (rvs_at pb1 lb) (Int.le_of_lt hw))
        by_cases c1 : na - 1 = 0
        · rw [if_pos (beq_iff_eq.mpr c1)]
          exact wpS_pure (.inr ⟨_, _, rfl, hi_done sa sb (Nat.le_of_lt za0) lb m1 (.inl c1), L.same⟩)
        rw [if_neg (fun z => c1 (beq_iff_eq.mp z))]
        split
        · exact wpS_pure (.inl ⟨_, _, _, _, _, rfl, L.same, m1, Nat.le_of_lt za0, lb, Nat.one_le_iff_ne_zero.mpr c1, pb, by omega⟩)
        · exact wpS_pure ⟨_, _, _, _, _, rfl, L.same, m1, Nat.le_of_lt za0, lb, Nat.one_le_iff_ne_zero.mpr c1, pb, by omega⟩
      · rw [if_neg (fun z => hw (of_decide_eq_true z))]
        refine wpS_bind (wpS_elem (gb (nb - 1) zb0).1 ?_)
        have m1 : Mg Ge a.toList.reverse b.toList.reverse (out.push (b[nb - 1]'zb0)).toList (a.size - na) (b.size - (nb - 1)) := by
          rw [Array.toList_push, show b.size - (nb - 1) = b.size - nb + 1 by omega]
          exact L.mg.pushB srb (rvs_at pb1 lb) (ge_drop sra (rvs_at pa la) (Int.not_lt.mp hw))
        by_cases c1 : nb - 1 = 1
        · rw [if_pos (beq_iff_eq.mpr c1)]
          exact wpS_pure (.inr ⟨_, _, rfl, hi_first sa sb la (Nat.le_of_lt zb0) m1 c1 h1, L.same⟩)
        rw [if_neg (fun z => c1 (beq_iff_eq.mp z))]
        have o1 : 2 ≤ nb - 1 := by omega
        split
        · exact wpS_pure (.inl ⟨_, _, _, _, _, rfl, L.same, m1, la, Nat.le_of_lt zb0, pa, o1, by omega⟩)
        · exact wpS_pure ⟨_, _, _, _, _, rfl, L.same, m1, la, Nat.le_of_lt zb0, pa, o1, by omega⟩
    case ipost =>
      rintro c st1 (⟨na, nb, out, ac, bc, rfl, L⟩ | ⟨r, u, rfl, hr, hs⟩)
      case inr => exact wpS_pure ⟨_, _, rfl, hr, hs⟩
      dsimp only
      refine wpS_bind (wpS_lift (wpAny_rule ⟨rfl, ?_⟩))
      refine wpS_bind (wpS_mono (wpS_forRange (I := fun y c st' => ∃ na nb out g ac bc, c = (none, na, nb, out, g, ac, bc) ∧ HiI a b st st' (x + 1 + y) na nb out)
        (Q := fun c st' => (∃ na nb out g ac bc, c = (none, na, nb, out, g, ac, bc) ∧ HiI a b st st' (x + 1) na nb out) ∨ (∃ r u, c = (some r, u) ∧ Mgd Le a.toList b.toList r.toList ∧ SameS st st')) ?jstep ?jfin ⟨_, _, _, _, _, _, rfl, L⟩) ?jpost)
      case jfin =>
        rintro c st' ⟨na, nb, out, g, ac, bc, rfl, L⟩
        have := L.pa; have := L.far
        omega
      case jpost =>
        rintro c st1 (⟨na, nb, out, g, ac, bc, rfl, L⟩ | ⟨r, u, rfl, hr, hs⟩)
        · dsimp only
          refine wpS_bind (wpS_modify ?_)
          exact wpS_pure ⟨_, _, _, _, rfl, L.same.gal _, L.mg, L.la, L.lb, L.pa, L.pb, L.far⟩
        · exact wpS_pure ⟨_, _, rfl, hr, hs⟩
      case jstep =>
        rintro y c st' _ hy ⟨na, nb, out, g, ac, bc, rfl, L⟩
        have la := L.la; have lb := L.lb; have pa := L.pa; have pb := L.pb; have far := L.far
        dsimp only
        refine (fun (J1 : ∀ g2 : Nat, (?B1 : Nat → Prop) g2) => ?main1) ?pf1
        case main1 =>
          by_cases hg : g > 1
          · rw [if_pos hg]
            generalize g - 1 = g2
            exact J1 g2
          · rw [if_neg hg]
            exact J1 g
        intro g2
        refine wpS_bind (wpS_modify ?_)
        have zb0 : nb - 1 < b.size := by omega
        refine wpS_bind (wpS_elem (gb (nb - 1) zb0).1 (wpS_bind (wpS_gallop (L.same.kind.trans hk) (gb (nb - 1) zb0).2 ka (by omega) (by omega) (bey_mono (by omega) sa) fun k lk b1 b2 => ?_)))
        have S2 := L.same.gal g2
        dsimp only
        refine (fun (J2 : ∀ (out1 : Array Keyed) (na1 : Nat), Mg Ge a.toList.reverse b.toList.reverse out1.toList (a.size - na1) (b.size - nb) → (∀ z, 1 ≤ na1 → a[na1 - 1]? = some z → Ge (b[nb - 1]'zb0) z) → na1 ≤ na → ¬ na1 = 0 → (?B2 : Array Keyed → Nat → Prop) out1 na1) => ?main2) ?pf2
        case main2 =>
          have m1 : Mg Ge a.toList.reverse b.toList.reverse (out ++ (a.extract k na).reverse).toList (a.size - k) (b.size - nb) := by
            rw [Array.toList_append, ext_rev lk la, show a.size - k = a.size - na + (na - k) by omega]
            refine Mg.blockA sra (na - k) L.mg (by simp; omega) fun i i1 i2 z ez => ge_drop srb (rvs_at (Nat.le_of_succ_le pb) lb) ?_
            have e2 := rvs_at (a := a) (n := a.size - i) (by omega) (by omega)
            rw [show a.size - (a.size - i) = i by omega, ez] at e2
            have e3 := Option.some.inj e2
            subst e3
            refine bey_false (b2 (a.size - i - 1) (by omega) (by omega)) ?_
            rw [Nat.zero_add]
            exact (ga (a.size - i - 1) (by omega)).1
          have hb1 : ∀ z, 1 ≤ k → a[k - 1]? = some z → Ge (b[nb - 1]'zb0) z := fun z hz ez => by
            refine bey_true (b1 (k - 1) (by omega)) ?_
            rw [Nat.zero_add]; exact ez
          by_cases hk0 : na - k > 0
          · rw [if_pos hk0]
            by_cases c1 : k = 0
            · rw [if_pos (beq_iff_eq.mpr c1)]
              exact wpS_pure (.inr ⟨_, _, rfl, hi_done sa sb (Nat.le_trans lk la) lb m1 (.inl c1), S2.kind, S2.arr, S2.pend, S2.failed⟩)
            rw [if_neg (fun z => c1 (beq_iff_eq.mp z))]
            have hlt : k ≤ na := lk
            generalize hko : na - k = k0
            generalize ho : out ++ (a.extract k na).reverse = out1 at m1 ⊢
            generalize hi : k = na1 at m1 hb1 hlt c1 ⊢
            subst hko
            exact J2 out1 na1 m1 hb1 hlt c1
          · rw [if_neg hk0]
            have ek : k = na := by omega
            have ee : out ++ (a.extract na na).reverse = out := by simp; exact Nat.min_le_left _ _
            rw [ek, ee] at m1
            rw [ek] at hb1
            exact J2 out na m1 hb1 (Nat.le_refl _) (by omega)
        intro out1 na1 m1 hb1 hlt c1
        clear b1 b2 lk
        have la1 : na1 ≤ a.size := Nat.le_trans hlt la
        have pa1 : 1 ≤ na1 := Nat.one_le_iff_ne_zero.mpr c1
        have za1 : na1 - 1 < a.size := by omega
        refine wpS_bind (wpS_elem (gb (nb - 1) zb0).1 ?_)
        have m2 : Mg Ge a.toList.reverse b.toList.reverse (out1.push (b[nb - 1]'zb0)).toList (a.size - na1) (b.size - (nb - 1)) := by
          rw [Array.toList_push, show b.size - (nb - 1) = b.size - nb + 1 by omega]
          exact m1.pushB srb (rvs_at (Nat.le_of_succ_le pb) lb) (ge_drop sra (rvs_at pa1 la1) (hb1 _ pa1 (ga (na1 - 1) za1).1))
        by_cases c3 : nb - 1 = 1
        · rw [if_pos (beq_iff_eq.mpr c3)]
          exact wpS_pure (.inr ⟨_, _, rfl, hi_first sa sb la1 (Nat.le_of_lt zb0) m2 c3 h1, S2.kind, S2.arr, S2.pend, S2.failed⟩)
        rw [if_neg (fun z => c3 (beq_iff_eq.mp z))]
        refine wpS_bind (wpS_elem (ga (na1 - 1) za1).1 (wpS_bind (wpS_gallop (L.same.kind.trans hk) (ga (na1 - 1) za1).2 kb (by omega) (by omega) (bey_mono (by omega) sb) fun k2 lk2 d1 d2 => ?_)))
        generalize hp : out1.push (b[nb - 1]'zb0) = outp at m2 ⊢
        dsimp only
        refine (fun (J3 : ∀ (out2 : Array Keyed) (nb1 : Nat), Mg Ge a.toList.reverse b.toList.reverse out2.toList (a.size - na1) (b.size - nb1) → (∀ z, 1 ≤ nb1 → b[nb1 - 1]? = some z → Ge (a[na1 - 1]'za1) z) → nb1 ≤ nb - 1 → 2 ≤ nb1 → (?B3 : Array Keyed → Nat → Prop) out2 nb1) => ?main3) ?pf3
        case main3 =>
          have m3 : Mg Ge a.toList.reverse b.toList.reverse (outp ++ (b.extract k2 (nb - 1)).reverse).toList (a.size - na1) (b.size - k2) := by
            rw [Array.toList_append, ext_rev lk2 (Nat.le_of_lt zb0), show b.size - k2 = b.size - (nb - 1) + (nb - 1 - k2) by omega]
            refine Mg.blockB srb (nb - 1 - k2) m2 (by simp; omega) fun i i1 i2 z ez => ge_drop sra (rvs_at pa1 la1) ?_
            have e2 := rvs_at (a := b) (n := b.size - i) (by omega) (by omega)
            rw [show b.size - (b.size - i) = i by omega, ez] at e2
            have e3 := Option.some.inj e2
            subst e3
            refine bey_false (d2 (b.size - i - 1) (by omega) (by omega)) ?_
            rw [Nat.zero_add]
            exact (gb (b.size - i - 1) (by omega)).1
          have hb2 : ∀ z, 1 ≤ k2 → b[k2 - 1]? = some z → Ge (a[na1 - 1]'za1) z := fun z hz ez => by
            refine bey_true (d1 (k2 - 1) (by omega)) ?_
            rw [Nat.zero_add]; exact ez
          by_cases hk1 : nb - 1 - k2 > 0
          · rw [if_pos hk1]
            by_cases c4 : k2 = 1
            · rw [if_pos (beq_iff_eq.mpr c4)]
              exact wpS_pure (.inr ⟨_, _, rfl, hi_first sa sb la1 (by omega) m3 c4 h1, S2.kind, S2.arr, S2.pend, S2.failed⟩)
            rw [if_neg (fun z => c4 (beq_iff_eq.mp z))]
            by_cases c5 : k2 = 0
            · rw [if_pos (beq_iff_eq.mpr c5)]
              exact wpS_pure (.inr ⟨_, _, rfl, hi_done sa sb la1 (by omega) m3 (.inr c5), S2.kind, S2.arr, S2.pend, S2.failed⟩)
            rw [if_neg (fun z => c5 (beq_iff_eq.mp z))]
            have hlt2 : k2 ≤ nb - 1 := lk2
            have c6 : 2 ≤ k2 := by omega
            generalize hko : nb - 1 - k2 = k0
            generalize ho2 : outp ++ (b.extract k2 (nb - 1)).reverse = out2 at m3 ⊢
            generalize hi2 : k2 = nb1 at m3 hb2 hlt2 c6 ⊢
            subst hko
            exact J3 out2 nb1 m3 hb2 hlt2 c6
          · rw [if_neg hk1]
            have ek : k2 = nb - 1 := by omega
            rw [ek] at m3 hb2
            have ee : outp ++ (b.extract (nb - 1) (nb - 1)).reverse = outp := by simp; exact Nat.min_le_left _ _
            rw [ee] at m3
            exact J3 outp (nb - 1) m3 hb2 (Nat.le_refl _) (by omega)
        intro out2 nb1 m3 hb2 hlt2 c6
        clear d1 d2 lk2
        have lb1 : nb1 ≤ b.size := by omega
        have pb1 : 1 ≤ nb1 := Nat.le_of_succ_le c6
        refine wpS_bind (wpS_elem (ga (na1 - 1) za1).1 ?_)
        have m4 : Mg Ge a.toList.reverse b.toList.reverse (out2.push (a[na1 - 1]'za1)).toList (a.size - (na1 - 1)) (b.size - nb1) := by
          rw [Array.toList_push, show a.size - (na1 - 1) = a.size - na1 + 1 by omega]
          exact m3.pushA sra (rvs_at pa1 la1) (ge_drop srb (rvs_at pb1 lb1) (hb2 _ pb1 (gb (nb1 - 1) (by omega)).1))
        by_cases c7 : na1 - 1 = 0
        · rw [if_pos (beq_iff_eq.mpr c7)]
          exact wpS_pure (.inr ⟨_, _, rfl, hi_done sa sb (Nat.le_of_lt za1) lb1 m4 (.inl c7), S2.kind, S2.arr, S2.pend, S2.failed⟩)
        rw [if_neg (fun z => c7 (beq_iff_eq.mp z))]
        have o1 : 1 ≤ na1 - 1 := Nat.one_le_iff_ne_zero.mpr c7
        split
        · exact wpS_pure (.inl ⟨_, _, _, _, _, _, rfl, ⟨S2.kind, S2.arr, S2.pend, S2.failed⟩, m4, Nat.le_of_lt za1, lb1, o1, c6, by omega⟩)
        · exact wpS_pure ⟨_, _, _, _, _, _, rfl, ⟨S2.kind, S2.arr, S2.pend, S2.failed⟩, m4, Nat.le_of_lt za1, lb1, o1, c6, by omega⟩
end
end L2

set_option Elab.async false
set_option linter.all false
set_option maxRecDepth 100000
namespace L2
open PySem PySem.Spec PyProof.Rows

/-! ### one merge of two runs -/
def SortedOn (xs : Array Keyed) (i j : Nat) : Prop := ∀ u v, i ≤ u → u ≤ v → v < j → K xs u ≤ K xs v
structure SB (a₀ : Array Keyed) (st : SortSt) : Prop where
  perm : (arrOf st).Perm a₀
  kind : kindOf st = oneType'
  failed : failedOf st = none
theorem SB.size {a₀ : Array Keyed} {st : SortSt} (h : SB a₀ st) : (arrOf st).size = a₀.size := h.perm.size_eq
theorem SB.ints {a₀ : Array Keyed} {st : SortSt} (h : SB a₀ st) (h0 : IntKeys a₀) : ∀ p ∈ (arrOf st).toList, IntK p := fun p hp =>
  h0 p ((Array.perm_iff_toList_perm.mp h.perm).mem_iff.mp hp)
theorem K_at {xs : Array Keyed} {i : Nat} {p : Keyed} (e : xs[i]? = some p) : K xs i = kn p := by unfold K kn; rw [e]
theorem ext_at {a : Array Keyed} {i j k : Nat} (hj : j ≤ a.size) (hk : i + k < j) : (a.extract i j)[k]? = a[i + k]? := by
  rw [Array.getElem?_extract, if_pos (by omega)]
theorem ext_size {a : Array Keyed} {i j : Nat} (hj : j ≤ a.size) : (a.extract i j).size = j - i := by
  rw [Array.size_extract]; omega
theorem ext_srt {a : Array Keyed} {i j : Nat} (hj : j ≤ a.size) (s : SortedOn a i j) : (a.extract i j).toList.Pairwise Le := by
  rw [List.pairwise_iff_getElem]
  intro u v hu hv huv
  rw [Array.length_toList, ext_size hj] at hu hv
  have e1 : (a.extract i j).toList[u]? = a[i + u]? := by rw [Array.getElem?_toList]; exact ext_at hj (by omega)
  have e2 : (a.extract i j).toList[v]? = a[i + v]? := by rw [Array.getElem?_toList]; exact ext_at hj (by omega)
  rw [List.getElem?_eq_getElem (by rw [Array.length_toList, ext_size hj]; exact hu)] at e1
  rw [List.getElem?_eq_getElem (by rw [Array.length_toList, ext_size hj]; exact hv)] at e2
  have := s (i + u) (i + v) (by omega) (by omega) (by omega)
  rw [K_at e1.symm, K_at e2.symm] at this
  exact this
theorem ext_mem {a : Array Keyed} {i j : Nat} (hj : j ≤ a.size) {z : Keyed} (h : z ∈ (a.extract i j).toList) : ∃ k, i ≤ k ∧ k < j ∧ a[k]? = some z := by
  obtain ⟨k, hk, e⟩ := List.getElem_of_mem h
  have hk' := hk
  rw [Array.length_toList, ext_size hj] at hk'
  refine ⟨i + k, by omega, by omega, ?_⟩
  rw [← ext_at hj (by omega), ← Array.getElem?_toList, List.getElem?_eq_getElem hk, e]
/-- laying a list into an array -/
def layIn (a : Array Keyed) (s : Nat) (l : List (Keyed × Nat)) : Array Keyed := l.foldl (fun a (p, j) => a.setIfInBounds (s + j) p) a
theorem layIn_at (s : Nat) : ∀ (l : List Keyed) (o : Nat) (a : Array Keyed), s + o + l.length ≤ a.size → ∀ u, (layIn a s (l.zipIdx o))[u]? = if s + o ≤ u ∧ u < s + o + l.length then l[u - (s + o)]? else a[u]?
  | [], o, a, h, u => by
    show a[u]? = _
    rw [if_neg (by rw [List.length_nil]; omega)]
  | p :: l, o, a, h, u => by
    rw [List.length_cons] at h
    show (layIn (a.setIfInBounds (s + o) p) s (l.zipIdx (o + 1)))[u]? = _
    rw [layIn_at s l (o + 1) _ (by rw [Array.size_setIfInBounds]; omega) u, List.length_cons]
    by_cases c1 : u = s + o
    · subst c1
      rw [if_neg (by omega), if_pos (by omega), Nat.sub_self, Array.getElem?_setIfInBounds, if_pos rfl, if_pos (by omega)]
      rfl
    · by_cases c2 : s + o ≤ u ∧ u < s + o + (l.length + 1)
      · rw [if_pos (by omega), if_pos c2, show u - (s + o) = u - (s + (o + 1)) + 1 by omega, List.getElem?_cons_succ]
      · rw [if_neg (by omega), if_neg c2, Array.getElem?_setIfInBounds, if_neg (by omega)]
theorem layIn_perm {a : Array Keyed} {s : Nat} {l : List Keyed} (h : s + l.length ≤ a.size) (hp : l.Perm ((a.toList.drop s).take l.length)) : (layIn a s (l.zipIdx 0)).Perm a := by
  rw [Array.perm_iff_toList_perm]
  have e : (layIn a s (l.zipIdx 0)).toList = a.toList.take s ++ (l ++ a.toList.drop (s + l.length)) := by
    refine List.ext_getElem? fun u => ?_
    rw [Array.getElem?_toList, layIn_at s l 0 a (by omega) u, Nat.add_zero]
    by_cases c1 : u < s
    · rw [if_neg (by omega), List.getElem?_append_left (by simp; omega), List.getElem?_take_of_lt c1, Array.getElem?_toList]
    · rw [List.getElem?_append_right (by simp; omega)]
      have el : (a.toList.take s).length = s := by simp; omega
      rw [el]
      by_cases c2 : u < s + l.length
      · rw [if_pos ⟨by omega, c2⟩, List.getElem?_append_left (by omega)]
      · rw [if_neg (by omega), List.getElem?_append_right (by omega), List.getElem?_drop, ← Array.getElem?_toList]
        congr 1; omega
  have e2 : a.toList = a.toList.take s ++ ((a.toList.drop s).take l.length ++ a.toList.drop (s + l.length)) := by
    rw [← List.drop_drop, List.take_append_drop, List.take_append_drop]
  rw [e]
  exact (List.Perm.append_left _ (hp.append_right _)).trans (by rw [← e2])
theorem bey_monoS {left : Bool} {key : Keyed} {arr : Array Keyed} {base n : Nat} (hn : base + n ≤ arr.size) (hs : SortedOn arr base (base + n)) : ∀ i j, i ≤ j → j < n → bey left key arr base j = true → bey left key arr base i = true := by
  intro i j hij hj hb
  have e1 : arr[base + i]? = some (arr[base + i]'(by omega)) := getElem?_pos arr (base + i) (by omega)
  have e2 : arr[base + j]? = some (arr[base + j]'(by omega)) := getElem?_pos arr (base + j) (by omega)
  have hl := hs (base + i) (base + j) (by omega) (by omega) (by omega)
  rw [K_at e1, K_at e2] at hl
  rw [bey_at e2] at hb
  rw [bey_at e1]
  cases left <;> simp at hb ⊢ <;> omega
/-- two neighbours merged in the middle -/
theorem mid_sorted {x z : Array Keyed} {sa sb k m : Nat} {r : List Keyed} {e : Nat} (hx : e ≤ x.size) (hk : sa + k < sb) (hm : sb + m ≤ e) (hm1 : 1 ≤ m)
    (s1 : SortedOn x sa sb) (s2 : SortedOn x sb e) (b1 : ∀ j, sa ≤ j → j < sa + k → K x j ≤ K x sb) (b2 : ∀ j, sb + m ≤ j → j < e → K x (sb - 1) ≤ K x j)
    (hr : Mgd Le (x.extract (sa + k) sb).toList (x.extract sb (sb + m)).toList r) (hz : ∀ u, z[u]? = if sa + k ≤ u ∧ u < sa + k + r.length then r[u - (sa + k)]? else x[u]?) : SortedOn z sa e := by
  have lr : r.length = sb - (sa + k) + m := by
    rw [hr.1.length_eq, List.length_append, Array.length_toList, Array.length_toList, ext_size (by omega), ext_size (by omega)]; omega
  have out : ∀ u, u < sa + k ∨ sb + m ≤ u → K z u = K x u := fun u hu => K_congr (by rw [hz, if_neg (by omega)])
  have mid : ∀ u, sa + k ≤ u → u < sb + m → ∃ p, p ∈ r ∧ r[u - (sa + k)]? = some p ∧ K z u = kn p ∧ ((∃ j, sa + k ≤ j ∧ j < sb ∧ K x j = kn p) ∨ (∃ j, sb ≤ j ∧ j < sb + m ∧ K x j = kn p)) := fun u h1 h2 => by
    have e1 : r[u - (sa + k)]? = some (r[u - (sa + k)]'(by omega)) := List.getElem?_eq_getElem (by omega)
    have hmem : (r[u - (sa + k)]'(by omega)) ∈ r := List.getElem_mem _
    refine ⟨_, hmem, e1, K_at (by rw [hz, if_pos (by omega), e1]), ?_⟩
    rcases List.mem_append.mp (hr.1.mem_iff.mp hmem) with q | q
    · obtain ⟨j, j1, j2, ej⟩ := ext_mem (by omega) q
      exact .inl ⟨j, j1, j2, K_at ej⟩
    · obtain ⟨j, j1, j2, ej⟩ := ext_mem (by omega) q
      exact .inr ⟨j, j1, j2, K_at ej⟩
  intro u v hu huv hv
  by_cases cu : u < sa + k
  · rw [out u (.inl cu)]
    by_cases cv : v < sa + k
    · rw [out v (.inl cv)]; exact s1 u v hu huv (by omega)
    · by_cases cv2 : sb + m ≤ v
      · rw [out v (.inr cv2)]
        exact Int.le_trans (b1 u hu cu) (s2 sb v (Nat.le_refl _) (by omega) hv)
      · obtain ⟨p, _, _, ep, q⟩ := mid v (by omega) (by omega)
        rw [ep]
        rcases q with ⟨j, j1, j2, ej⟩ | ⟨j, j1, j2, ej⟩
        · rw [← ej]; exact s1 u j hu (by omega) j2
        · rw [← ej]; exact Int.le_trans (b1 u hu cu) (s2 sb j (Nat.le_refl _) j1 (by omega))
  · by_cases cu2 : sb + m ≤ u
    · rw [out u (.inr cu2), out v (.inr (by omega))]
      exact s2 u v (by omega) huv hv
    · obtain ⟨p, _, gp, ep, q⟩ := mid u (by omega) (by omega)
      rw [ep]
      by_cases cv2 : sb + m ≤ v
      · rw [out v (.inr cv2)]
        rcases q with ⟨j, j1, j2, ej⟩ | ⟨j, j1, j2, ej⟩
        · rw [← ej]; exact Int.le_trans (s1 j (sb - 1) (by omega) (by omega) (by omega)) (b2 v cv2 hv)
        · rw [← ej]; exact s2 j v j1 (by omega) hv
      · obtain ⟨p', _, gp', ep', _⟩ := mid v (by omega) (by omega)
        rw [ep']
        by_cases ceq : u = v
        · subst ceq
          rw [gp] at gp'
          cases gp'
          exact Int.le_refl _
        · obtain ⟨q1, q2⟩ := List.getElem?_eq_some_iff.mp gp
          obtain ⟨q3, q4⟩ := List.getElem?_eq_some_iff.mp gp'
          have := List.pairwise_iff_getElem.mp hr.2 _ _ q1 q3 (by omega)
          rw [q2, q4] at this
          exact this
section
variable {prog : Program} {w : World} {A : Around} {E : Value → Shared → Prop} {s : Shared} {a₀ : Array Keyed}
theorem wpS_set {st st' : SortSt} {Q : PUnit → SortSt → Prop} (h : Q ⟨⟩ st') : wpS (model prog w) A E s (set st' : StateT SortSt Sem PUnit) Q st := by
  unfold wpS; rw [StateT.run_set]; exact wpAny_pure ⟨rfl, h⟩
/-- what a merge leaves -/
def Merged (a₀ : Array Keyed) (st : SortSt) (i sa na pw sb nb : Nat) (st' : SortSt) : Prop :=
  SB a₀ st' ∧ pendingOf st' = ((pendingOf st).setIfInBounds i (sa, na + nb, pw)).eraseIdxIfInBounds (i + 1) ∧ SortedOn (arrOf st') sa (sb + nb) ∧ ∀ j, (j < sa ∨ sb + nb ≤ j) → K (arrOf st') j = K (arrOf st) j
theorem wpS_mergeAt {st : SortSt} {Q : Bool → SortSt → Prop} {i sa na pw sb nb pw2 : Nat} (h0 : IntKeys a₀) (hB : SB a₀ st) (e1 : (pendingOf st)[i]? = some (sa, na, pw)) (e2 : (pendingOf st)[i + 1]? = some (sb, nb, pw2))
    (hsb : sb = sa + na) (hna : 1 ≤ na) (hnb : 1 ≤ nb) (hz : sb + nb ≤ a₀.size) (s1 : SortedOn (arrOf st) sa sb) (s2 : SortedOn (arrOf st) sb (sb + nb))
    (h : ∀ st', Merged a₀ st i sa na pw sb nb st' → Q true st') : wpS (model prog w) A E s (mergeAt' i) Q st := by
  refine wpS_bind (wpS_get ?_)
  have hsz := hB.size
  have ka := hB.ints h0
  rw [e1, e2]
  refine wpS_bind (wpS_set ?_)
  have ga : ∀ i (z : i < (arrOf st).size), (arrOf st)[i]? = some (arrOf st)[i] ∧ IntK (arrOf st)[i] := fun i z => ⟨getElem?_pos (arrOf st) i z, ka _ (by simp)⟩
  have l1 : sb < (arrOf st).size := by omega
  have q1 : sa + na ≤ (arrOf st).size := by omega
  have q2 : sb + nb ≤ (arrOf st).size := by omega
  refine wpS_bind (wpS_elem (ga sb l1).1 (wpS_bind (wpS_gallop hB.kind (ga sb l1).2 ka q1 (by omega) (bey_monoS q1 (by rw [← hsb]; exact s1)) fun k lk b1 b2 => ?_)))
  dsimp only
  have c1 : ∀ j, sa ≤ j → j < sa + k → K (arrOf st) j ≤ K (arrOf st) sb := fun j j1 j2 => by
    have hj : j < (arrOf st).size := by omega
    rw [K_at (ga j hj).1, K_at (ga sb l1).1]
    exact bey_true (b1 (j - sa) (by omega)) (by rw [show sa + (j - sa) = j by omega]; exact (ga j hj).1)
  by_cases hn : na - k = 0
  · rw [if_pos (beq_iff_eq.mpr hn)]
    refine wpS_pure (h _ ⟨⟨hB.perm, hB.kind, hB.failed⟩, rfl, ?_, fun _ _ => rfl⟩)
    intro u v hu huv hv
    by_cases cv : v < sb
    · exact s1 u v hu huv cv
    · by_cases cu : u < sb
      · exact Int.le_trans (c1 u hu (by omega)) (s2 sb v (Nat.le_refl _) (by omega) hv)
      · exact s2 u v (by omega) huv hv
  rw [if_neg (fun z => hn (beq_iff_eq.mp z))]
  have l2 : sa + k + (na - k) - 1 < (arrOf st).size := by omega
  have el : sa + k + (na - k) - 1 = sb - 1 := by omega
  refine wpS_bind (wpS_elem (ga _ l2).1 (wpS_bind (wpS_gallop hB.kind (ga _ l2).2 ka q2 (by omega) (bey_monoS q2 s2) fun m lm d1 d2 => ?_)))
  dsimp only
  have c2 : ∀ j, sb + m ≤ j → j < sb + nb → K (arrOf st) (sb - 1) ≤ K (arrOf st) j := fun j j1 j2 => by
    have hj : j < (arrOf st).size := by omega
    rw [← el, K_at (ga _ l2).1, K_at (ga j hj).1]
    exact bey_false (d2 (j - sb) (by omega) (by omega)) (by rw [show sb + (j - sb) = j by omega]; exact (ga j hj).1)
  by_cases hm : m = 0
  · rw [if_pos (beq_iff_eq.mpr hm)]
    refine wpS_pure (h _ ⟨⟨hB.perm, hB.kind, hB.failed⟩, rfl, ?_, fun _ _ => rfl⟩)
    intro u v hu huv hv
    by_cases cv : v < sb
    · exact s1 u v hu huv cv
    · by_cases cu : u < sb
      · exact Int.le_trans (s1 u (sb - 1) hu (by omega) (by omega)) (c2 v (by omega) hv)
      · exact s2 u v (by omega) huv hv
  rw [if_neg (fun z => hm (beq_iff_eq.mp z))]
  have kx : ∀ p ∈ ((arrOf st).extract (sa + k) sb).toList, IntK p := fun p hp => by
    obtain ⟨j, _, _, ej⟩ := ext_mem (by omega) hp
    obtain ⟨q1, q2⟩ := Array.getElem?_eq_some_iff.mp ej
    rw [← q2]; exact (ga j q1).2
  have ky : ∀ p ∈ ((arrOf st).extract sb (sb + m)).toList, IntK p := fun p hp => by
    obtain ⟨j, _, _, ej⟩ := ext_mem (by omega) hp
    obtain ⟨q1, q2⟩ := Array.getElem?_eq_some_iff.mp ej
    rw [← q2]; exact (ga j q1).2
  have sx := ext_srt (a := arrOf st) (i := sa + k) (j := sb) (by omega) (fun u v h1 h2 h3 => s1 u v (by omega) h2 h3)
  have sy := ext_srt (a := arrOf st) (i := sb) (j := sb + m) (by omega) (fun u v h1 h2 h3 => s2 u v h1 h2 (by omega))
  have zx : ((arrOf st).extract (sa + k) sb).size = sb - (sa + k) := ext_size (by omega)
  have zy : ((arrOf st).extract sb (sb + m)).size = m := by rw [ext_size (by omega)]; omega
  have p1 : ∀ x, ((arrOf st).extract sb (sb + m))[0]? = some x → ∀ y ∈ ((arrOf st).extract (sa + k) sb).toList, Le x y := fun x ex y hy => by
    rw [ext_at (by omega) (by omega), Nat.add_zero, (ga sb l1).1] at ex
    cases ex
    obtain ⟨j, j1, j2, ej⟩ := ext_mem (by omega) hy
    exact bey_false (b2 (j - sa) (by omega) (by omega)) (by rw [show sa + (j - sa) = j by omega]; exact ej)
  have p2 : ∀ x, ((arrOf st).extract (sa + k) sb)[((arrOf st).extract (sa + k) sb).size - 1]? = some x → ∀ y ∈ ((arrOf st).extract sb (sb + m)).toList, Le y x := fun x ex y hy => by
    rw [zx, ext_at (by omega) (by omega), show sa + k + (sb - (sa + k) - 1) = sa + k + (na - k) - 1 by omega, (ga _ l2).1] at ex
    cases ex
    obtain ⟨j, j1, j2, ej⟩ := ext_mem (by omega) hy
    exact bey_true (d1 (j - sb) (by omega)) (by rw [show sb + (j - sb) = j by omega]; exact ej)
  have fin : ∀ (r : Array Keyed) (st' : SortSt), Mgd Le ((arrOf st).extract (sa + k) sb).toList ((arrOf st).extract sb (sb + m)).toList r.toList →
      SameS (SortSt.mk' (kindOf st) (arrOf st) (((pendingOf st).setIfInBounds i (sa, na + nb, pw)).eraseIdxIfInBounds (i + 1)) (gallopOf st) (failedOf st)) st' →
      Merged a₀ st i sa na pw sb nb (SortSt.mk' (kindOf st') (layIn (arrOf st') (sa + k) (r.toList.zipIdx 0)) (pendingOf st') (gallopOf st') (failedOf st')) := fun r st' hr S => by
    have lr : r.toList.length = sb + m - (sa + k) := by
      rw [hr.1.length_eq, List.length_append, Array.length_toList, Array.length_toList, zx, zy]; omega
    have ea : arrOf st' = arrOf st := S.arr
    have hz2 := layIn_at (sa + k) r.toList 0 (arrOf st) (by omega)
    refine ⟨⟨?_, S.kind.trans hB.kind, S.failed.trans hB.failed⟩, S.pend, ?_, fun j hj => ?_⟩
    · show (layIn (arrOf st') (sa + k) (r.toList.zipIdx 0)).Perm a₀
      rw [ea]
      refine (layIn_perm (by omega) (hr.1.trans ?_)).trans hB.perm
      rw [lr, ← ext_mid, show sa + k + (sb + m - (sa + k)) = sb + m by omega]
      have : ((arrOf st).extract (sa + k) sb).toList ++ ((arrOf st).extract sb (sb + m)).toList = ((arrOf st).extract (sa + k) (sb + m)).toList := by
        rw [← Array.toList_append, Array.extract_append_extract]
        congr 2 <;> omega
      rw [this]
    · show SortedOn (layIn (arrOf st') (sa + k) (r.toList.zipIdx 0)) sa (sb + nb)
      rw [ea]
      refine mid_sorted (r := r.toList) (by omega) (by omega) (by omega) (by omega) s1 s2 c1 c2 hr fun u => ?_
      have := hz2 u
      rw [Nat.add_zero] at this
      exact this
    · show K (layIn (arrOf st') (sa + k) (r.toList.zipIdx 0)) j = _
      rw [ea]
      refine K_congr ?_
      rw [hz2 j, if_neg (by omega)]
  have z1 : 1 ≤ ((arrOf st).extract (sa + k) sb).size := by omega
  have z2 : 1 ≤ ((arrOf st).extract sb (sb + m)).size := by omega
  by_cases hle : na - k ≤ m
  · rw [if_pos hle]
    refine wpS_bind (wpS_mergeLo hB.kind kx ky sx sy z1 z2 p1 p2 fun r st' hr S => ?_)
    refine wpS_bind (wpS_modify (wpS_bind (wpS_get ?_)))
    have hM := fin r st' hr S
    have hQ := h _ hM
    have ht : (failedOf st').isNone = true := by rw [S.failed.trans hB.failed]; rfl
    rw [← ht] at hQ
    exact wpS_pure hQ
  · rw [if_neg hle]
    refine wpS_bind (wpS_mergeHi hB.kind kx ky sx sy z1 z2 p1 p2 fun r st' hr S => ?_)
    refine wpS_bind (wpS_modify (wpS_bind (wpS_get ?_)))
    have hM := fin r st' hr S
    have hQ := h _ hM
    have ht : (failedOf st').isNone = true := by rw [S.failed.trans hB.failed]; rfl
    rw [← ht] at hQ
    exact wpS_pure hQ
end
end L2

set_option Elab.async false
set_option linter.all false
set_option maxRecDepth 100000
namespace L2
open PySem PySem.Spec PyProof.Rows

/-! ### runs counted and made -/
structure Went (a₀ : Array Keyed) (st : SortSt) (lo hi : Nat) (st' : SortSt) : Prop where
  base : SB a₀ st'
  pend : pendingOf st' = pendingOf st
  out : ∀ j, (j < lo ∨ hi ≤ j) → K (arrOf st') j = K (arrOf st) j
theorem Went.refl {a₀ : Array Keyed} {st : SortSt} {lo hi : Nat} (h : SB a₀ st) : Went a₀ st lo hi st := ⟨h, rfl, fun _ _ => rfl⟩
theorem Went.trans {a₀ : Array Keyed} {st st1 st2 : SortSt} {lo hi : Nat} (h : Went a₀ st lo hi st1) (h' : Went a₀ st1 lo hi st2) : Went a₀ st lo hi st2 :=
  ⟨h'.base, h'.pend.trans h.pend, fun j hj => (h'.out j hj).trans (h.out j hj)⟩
def FallOn (xs : Array Keyed) (i j : Nat) : Prop := ∀ u v, i ≤ u → u ≤ v → v < j → K xs v ≤ K xs u
theorem FallOn.eq {xs ys : Array Keyed} {i j : Nat} (h : FallOn xs i j) (e : ∀ k, K ys k = K xs k) : FallOn ys i j := fun u v a b c => by rw [e, e]; exact h u v a b c
theorem FallOn.snoc {xs : Array Keyed} {i j : Nat} (h : FallOn xs i j) (hij : i < j) (e : K xs j ≤ K xs (j - 1)) : FallOn xs i (j + 1) := fun u v a b c => by
  by_cases cv : v < j
  · exact h u v a b cv
  · obtain rfl : v = j := by omega
    by_cases cu : u = v
    · subst cu; exact Int.le_refl _
    · exact Int.le_trans e (h u (v - 1) a (by omega) (by omega))
section
variable {prog : Program} {w : World} {A : Around} {E : Value → Shared → Prop} {s : Shared} {a₀ : Array Keyed}
theorem wpS_ltB {st : SortSt} {i j : Nat} {Q : Option Bool → SortSt → Prop} (hB : SB a₀ st) (h0 : PyProof.Rows.IntKeys a₀) (hi : i < a₀.size) (hj : j < a₀.size)
    (h : Q (some (decide (K (arrOf st) i < K (arrOf st) j))) st) : wpS (model prog w) A E s (ltAt' i j) Q st := by
  have hz := hB.size
  have e1 : (arrOf st)[i]? = some ((arrOf st)[i]'(by omega)) := getElem?_pos (arrOf st) i (by omega)
  have e2 : (arrOf st)[j]? = some ((arrOf st)[j]'(by omega)) := getElem?_pos (arrOf st) j (by omega)
  rw [K_at e1, K_at e2] at h
  refine wpS_bind (wpS_get ?_)
  exact wpS_bind (wpS_elem e1 (wpS_bind (wpS_elem e2 (wpS_lt hB.kind (hB.ints h0 _ (by simp)) (hB.ints h0 _ (by simp)) h))))
theorem wpS_rev {st : SortSt} {i j : Nat} {Q : Unit → SortSt → Prop} (hB : SB a₀ st) (hj : j ≤ a₀.size)
    (h : ∀ st', SB a₀ st' → pendingOf st' = pendingOf st → (∀ k, K (arrOf st') k = if i ≤ k ∧ k < j then K (arrOf st) (i + j - 1 - k) else K (arrOf st) k) → Q () st') :
    wpS (model prog w) A E s (reverseSlice' i j) Q st := by
  refine wpS_modify (h _ ⟨(mirror_perm _ _ _ _).trans hB.perm, hB.kind, hB.failed⟩ rfl fun k => ?_)
  exact (K_mirror (by rw [hB.size]; exact hj) k)
theorem wpS_count {st : SortSt} {lo nrem : Nat} {Q : Option Nat → SortSt → Prop} (h0 : PyProof.Rows.IntKeys a₀) (hn : lo + nrem ≤ a₀.size) (h1 : 1 ≤ nrem) (hB : SB a₀ st)
    (h : ∀ m st', Went a₀ st lo (lo + nrem) st' → 1 ≤ m → m ≤ nrem → SortedOn (arrOf st') lo (lo + m) → Q (some m) st') :
    wpS (model prog w) A E s (countRun' lo nrem) Q st := by
  have asc : ∀ (f : Nat → Option (Option Nat) × Nat → StateT SortSt Sem (ForInStep (Option (Option Nat) × Nat))) (st1 : SortSt) (n : Nat), 1 ≤ n → n ≤ nrem → SB a₀ st1 → SortedOn (arrOf st1) lo (lo + n) →
      (∀ x m, 1 ≤ m → m < nrem → ∀ Q', Q' (if K (arrOf st1) (lo + m) < K (arrOf st1) (lo + m - 1) then ForInStep.done (none, m) else ForInStep.yield (none, m + 1)) st1 → wpS (model prog w) A E s (f x (none, m)) Q' st1) →
      wpS (model prog w) A E s (forIn [n:nrem] (none, n) f) (fun c st' => st' = st1 ∧ ∃ m, c = (none, m) ∧ n ≤ m ∧ m ≤ nrem ∧ SortedOn (arrOf st1) lo (lo + m) ∧ (m = nrem ∨ K (arrOf st1) (lo + m) < K (arrOf st1) (lo + m - 1))) st1 := by
    intro f st1 n n1 n2 B1 hs hf
    refine wpS_forRange (I := fun x c st' => st' = st1 ∧ c = (none, x) ∧ SortedOn (arrOf st1) lo (lo + x)) ?_ ?_ ⟨rfl, rfl, hs⟩
    · rintro x c st' x1 x2 ⟨rfl, rfl, hs'⟩
      refine hf x x (by omega) x2 _ ?_
      by_cases hl : K (arrOf st') (lo + x) < K (arrOf st') (lo + x - 1)
      · rw [if_pos hl]
        exact ⟨rfl, x, rfl, x1, by omega, hs', .inr hl⟩
      · rw [if_neg hl]
        refine ⟨rfl, rfl, fun u v u1 uv v1 => ?_⟩
        by_cases c : v < lo + x
        · exact hs' u v u1 uv c
        · obtain rfl : v = lo + x := by omega
          by_cases e : u = lo + x
          · subst e; exact Int.le_refl _
          · exact Int.le_trans (hs' u (lo + x - 1) u1 (by omega) (by omega)) (Int.not_lt.mp hl)
    · rintro c st' ⟨rfl, rfl, hs'⟩
      rw [show max n nrem = nrem by omega] at hs' ⊢
      exact ⟨rfl, nrem, rfl, n2, Nat.le_refl _, hs', .inl rfl⟩
  refine wpS_bind (wpS_mono (asc _ st 1 (Nat.le_refl _) h1 hB ?_ ?_) ?_)
  · intro u v u1 uv v1
    obtain rfl : u = v := by omega
    exact Int.le_refl _
  · intro x m m1 m2 Q' q
    refine wpS_bind (wpS_ltB hB h0 (by omega) (by omega) ?_)
    dsimp only
    by_cases hl : K (arrOf st) (lo + m) < K (arrOf st) (lo + m - 1)
    · rw [if_pos hl] at q
      rw [if_pos (decide_eq_true hl)]
      exact wpS_pure q
    · rw [if_neg hl] at q
      rw [if_neg (fun z => hl (of_decide_eq_true z))]
      exact wpS_pure q
  · rintro c st' ⟨rfl, n, rfl, n1, n2, hs, hor⟩
    dsimp only
    by_cases hnn : n = nrem
    · rw [if_pos (beq_iff_eq.mpr hnn)]
      exact wpS_pure (h n _ (.refl hB) n1 n2 hs)
    rw [if_neg (fun z => hnn (beq_iff_eq.mp z))]
    have hlt := hor.resolve_left hnn
    refine (fun (J1 : ∀ st1 : SortSt, Went a₀ st' lo (lo + nrem) st1 → FallOn (arrOf st1) lo (lo + (n + 1)) → (?B1 : SortSt → Prop) st1) => ?main1) ?pf1
    case main1 =>
      by_cases hgt : n > 1
      · rw [if_pos hgt]
        refine wpS_bind (wpS_ltB hB h0 (by omega) (by omega) ?_)
        dsimp only
        by_cases hrose : K (arrOf st') lo < K (arrOf st') (lo + n - 1)
        · rw [if_pos (decide_eq_true hrose)]
          exact wpS_pure (h n _ (.refl hB) n1 n2 hs)
        rw [if_neg (fun z => hrose (of_decide_eq_true z))]
        refine wpS_bind (wpS_rev hB (by omega) fun st1 B1 P1 k1 => ?_)
        have all : ∀ k, lo ≤ k → k < lo + n → K (arrOf st') k = K (arrOf st') lo := fun k q1 q2 => by
          have a1 := hs lo k (Nat.le_refl _) q1 q2
          have a2 := hs k (lo + n - 1) q1 (by omega) (by omega)
          omega
        have kk : ∀ k, K (arrOf st1) k = K (arrOf st') k := fun k => by
          rw [k1 k]
          by_cases c : lo ≤ k ∧ k < lo + n
          · rw [if_pos c, all _ (by omega) (by omega), all k c.1 c.2]
          · rw [if_neg c]
        have W1 : Went a₀ st' lo (lo + nrem) st1 := ⟨B1, P1, fun j _ => kk j⟩
        have N1 : FallOn (arrOf st1) lo (lo + (n + 1)) := by
          refine FallOn.eq ?_ kk
          exact FallOn.snoc (j := lo + n) (fun u v a b c => by rw [all u a (by omega), all v (by omega) c]; exact Int.le_refl _) (by omega) (Int.le_of_lt hlt)
        exact J1 st1 W1 N1
      · rw [if_neg hgt]
        have W1 : Went a₀ st' lo (lo + nrem) st' := .refl hB
        have N1 : FallOn (arrOf st') lo (lo + (n + 1)) := by
          exact FallOn.snoc (j := lo + n) (fun u v a b c => by
            obtain rfl : u = v := by omega
            exact Int.le_refl _) (by omega) (Int.le_of_lt hlt)
        exact J1 st' W1 N1
    intro st1 W1 N1
    refine wpS_bind (wpS_lift (wpAny_rule ⟨rfl, ?_⟩))
    refine wpS_bind (wpS_mono (wpS_forRange (I := fun x c st2 => ∃ neq, c = (none, x, neq) ∧ Went a₀ st' lo (lo + nrem) st2 ∧ FallOn (arrOf st2) lo (lo + x) ∧ neq + 1 ≤ x ∧ ∀ i, lo + x - (neq + 1) ≤ i → i < lo + x → K (arrOf st2) i = K (arrOf st2) (lo + x - 1))
      (Q := fun c st2 => ∃ x neq, c = (none, x, neq) ∧ 1 ≤ x ∧ x ≤ nrem ∧ Went a₀ st' lo (lo + nrem) st2 ∧ FallOn (arrOf st2) lo (lo + x) ∧ neq + 1 ≤ x ∧ ∀ i, lo + x - (neq + 1) ≤ i → i < lo + x → K (arrOf st2) i = K (arrOf st2) (lo + x - 1)) ?dstep ?dfin ⟨0, rfl, W1, N1, by omega, fun i q1 q2 => by congr 1; omega⟩) ?dpost)
    case dfin =>
      rintro c st2 ⟨neq, rfl, W2, N2, q1, q2⟩
      rw [show max (n + 1) nrem = nrem by omega] at N2 q1 q2 ⊢
      exact ⟨nrem, neq, rfl, h1, Nat.le_refl _, W2, N2, q1, q2⟩
    case dstep =>
      rintro x c st2 x1 x2 ⟨neq, rfl, W2, N2, q1, q2⟩
      dsimp only
      refine wpS_bind (wpS_ltB W2.base h0 (by omega) (by omega) ?_)
      dsimp only
      by_cases hl : K (arrOf st2) (lo + x) < K (arrOf st2) (lo + x - 1)
      · rw [if_pos (decide_eq_true hl)]
        have N3 := N2.snoc (by omega) (Int.le_of_lt hl)
        by_cases hq : neq > 0
        · rw [if_pos hq]
          refine wpS_bind (wpS_rev W2.base (by omega) fun st3 B3 P3 k3 => ?_)
          have kk : ∀ k, K (arrOf st3) k = K (arrOf st2) k := fun k => by
            rw [k3 k]
            by_cases c : lo + x - (neq + 1) ≤ k ∧ k < lo + x
            · rw [if_pos c, q2 _ (by omega) (by omega), q2 k c.1 c.2]
            · rw [if_neg c]
          exact wpS_pure ⟨0, rfl, W2.trans ⟨B3, P3, fun j _ => kk j⟩, N3.eq kk, by omega, fun i z1 z2 => by congr 1; omega⟩
        · rw [if_neg hq]
          exact wpS_pure ⟨0, rfl, W2, N3, by omega, fun i z1 z2 => by congr 1; omega⟩
      · rw [if_neg (fun z => hl (of_decide_eq_true z))]
        refine wpS_bind (wpS_ltB W2.base h0 (by omega) (by omega) ?_)
        dsimp only
        by_cases hg : K (arrOf st2) (lo + x - 1) < K (arrOf st2) (lo + x)
        · rw [if_pos (decide_eq_true hg)]
          exact wpS_pure ⟨x, neq, rfl, by omega, by omega, W2, N2, q1, q2⟩
        · rw [if_neg (fun z => hg (of_decide_eq_true z))]
          have he : K (arrOf st2) (lo + x) = K (arrOf st2) (lo + x - 1) := by omega
          refine wpS_pure ⟨neq + 1, rfl, W2, N2.snoc (by omega) (by omega), by omega, fun i z1 z2 => ?_⟩
          rw [show lo + (x + 1) - 1 = lo + x by omega]
          by_cases c : i = lo + x
          · rw [c]
          · rw [he]; exact q2 i (by omega) (by omega)
    case dpost =>
      rintro c st2 ⟨x, neq, rfl, x1, x2, W2, N2, q1, q2⟩
      dsimp only
      refine (fun (J2 : ∀ st3 : SortSt, Went a₀ st' lo (lo + nrem) st3 → FallOn (arrOf st3) lo (lo + x) → (?B2 : SortSt → Prop) st3) => ?main2) ?pf2
      case main2 =>
        by_cases hq : neq > 0
        · rw [if_pos hq]
          refine wpS_bind (wpS_rev W2.base (by omega) fun st3 B3 P3 k3 => ?_)
          have kk : ∀ k, K (arrOf st3) k = K (arrOf st2) k := fun k => by
            rw [k3 k]
            by_cases c : lo + x - (neq + 1) ≤ k ∧ k < lo + x
            · rw [if_pos c, q2 _ (by omega) (by omega), q2 k c.1 c.2]
            · rw [if_neg c]
          have W3 := W2.trans ⟨B3, P3, fun j _ => kk j⟩
          have N3 := N2.eq kk
          exact J2 st3 W3 N3
        · rw [if_neg hq]
          have W3 := W2
          have N3 := N2
          exact J2 st2 W3 N3
      intro st3 W3 N3
      refine wpS_bind (wpS_rev W3.base (by omega) fun st4 B4 P4 k4 => ?_)
      have W4 := W3.trans ⟨B4, P4, fun j hj => by rw [k4 j, if_neg (by omega)]⟩
      refine wpS_bind (wpS_mono (asc _ st4 x x1 x2 B4 ?_ ?_) ?_)
      · intro u v u1 uv v1
        rw [k4, k4, if_pos (by omega), if_pos (by omega)]
        exact N3 _ _ (by omega) (by omega) (by omega)
      · intro y m m1 m2 Q' q
        refine wpS_bind (wpS_ltB B4 h0 (by omega) (by omega) ?_)
        dsimp only
        by_cases hl : K (arrOf st4) (lo + m) < K (arrOf st4) (lo + m - 1)
        · rw [if_pos hl] at q
          rw [if_pos (decide_eq_true hl)]
          exact wpS_pure q
        · rw [if_neg hl] at q
          rw [if_neg (fun z => hl (of_decide_eq_true z))]
          exact wpS_pure q
      · rintro c st5 ⟨rfl, m, rfl, m1, m2, hs5, _⟩
        exact wpS_pure (h m _ W4 (by omega) m2 hs5)
theorem wpS_binary {st : SortSt} {lo n ok : Nat} {Q : Bool → SortSt → Prop} (h0 : PyProof.Rows.IntKeys a₀) (hn : lo + n ≤ a₀.size) (hok : ok ≤ n) (hok1 : 1 ≤ ok) (hB : SB a₀ st) (hs : SortedOn (arrOf st) lo (lo + ok))
    (h : ∀ st', Went a₀ st lo (lo + n) st' → SortedOn (arrOf st') lo (lo + n) → Q true st') : wpS (model prog w) A E s (binarySort' lo n ok) Q st := by
  refine wpS_bind (wpS_mono (wpS_forRange (I := fun k c st' => c = (none, ()) ∧ Went a₀ st lo (lo + n) st' ∧ SortedOn (arrOf st') lo (lo + k))
    (Q := fun c st' => c = (none, ()) ∧ Went a₀ st lo (lo + n) st' ∧ SortedOn (arrOf st') lo (lo + n)) ?step ?fin ⟨rfl, .refl hB, by rw [show max ok 1 = ok by omega]; exact hs⟩) ?post)
  case post =>
    rintro c st' ⟨rfl, W, hs'⟩
    exact wpS_pure (h st' W hs')
  case fin =>
    rintro c st' ⟨hc, W, hs'⟩
    refine ⟨hc, W, ?_⟩
    rwa [show max (max ok 1) n = n by omega] at hs'
  case step =>
    rintro k c st' hak hkn ⟨rfl, W, hs'⟩
    dsimp only
    refine wpS_bind (wpS_mono (wpS_forRange (I := fun x c st'' => st'' = st' ∧ ∃ l r, c = (none, l, r) ∧ l ≤ r ∧ r ≤ k ∧ r - l ≤ k - x ∧
        (∀ i, i < l → K (arrOf st') (lo + i) ≤ K (arrOf st') (lo + k)) ∧ (∀ i, r ≤ i → i < k → K (arrOf st') (lo + k) < K (arrOf st') (lo + i)))
      (Q := fun c st'' => st'' = st' ∧ ∃ l, c = (none, l, l) ∧ l ≤ k ∧
        (∀ i, i < l → K (arrOf st') (lo + i) ≤ K (arrOf st') (lo + k)) ∧ (∀ i, l ≤ i → i < k → K (arrOf st') (lo + k) < K (arrOf st') (lo + i))) ?istep ?ifin
        ⟨rfl, 0, k, rfl, by omega, by omega, by omega, fun i hi => by omega, fun i h1 h2 => by omega⟩) ?ipost)
    case ifin =>
      rintro c st'' ⟨rfl, l, r, rfl, a1, a2, a3, a4, a5⟩
      obtain rfl : l = r := by omega
      exact ⟨rfl, l, rfl, a2, a4, a5⟩
    case istep =>
      rintro x c st'' _ hx ⟨rfl, l, r, rfl, a1, a2, a3, a4, a5⟩
      dsimp only
      by_cases hge : l ≥ r
      · rw [if_pos hge]
        obtain rfl : l = r := by omega
        exact wpS_pure ⟨rfl, l, rfl, a2, a4, a5⟩
      rw [if_neg hge]
      refine wpS_bind (wpS_ltB W.base h0 (by omega) (by omega) ?_)
      dsimp only
      by_cases hl : K (arrOf st'') (lo + k) < K (arrOf st'') (lo + (l + r) / 2)
      · rw [if_pos (decide_eq_true hl)]
        exact wpS_pure ⟨rfl, l, (l + r) / 2, rfl, by omega, by omega, by omega, a4, fun i h1 h2 => Int.lt_of_lt_of_le hl (hs' _ _ (by omega) (by omega) (by omega))⟩
      · rw [if_neg (fun z => hl (of_decide_eq_true z))]
        exact wpS_pure ⟨rfl, (l + r) / 2 + 1, r, rfl, by omega, by omega, by omega, fun i h1 => Int.le_trans (hs' _ (lo + (l + r) / 2) (by omega) (by omega) (by omega)) (Int.not_lt.mp hl), a5⟩
    case ipost =>
      rintro c st'' ⟨rfl, l, rfl, a2, a4, a5⟩
      dsimp only
      have hks : lo + k < (arrOf st'').size := by rw [W.base.size]; omega
      have kb := fun j => K_bubble (xs := arrOf st'') (src := lo + k) (d := lo + k - (lo + l)) hks (by omega) j
      rw [show lo + k - (lo + k - (lo + l)) = lo + l by omega] at kb
      refine wpS_bind (wpS_modify (wpS_pure ⟨rfl, W.trans ⟨⟨(bubble_perm _ _ _).trans W.base.perm, W.base.kind, W.base.failed⟩, rfl, fun j hj => ?_⟩, ?_⟩))
      · refine (kb j).trans ?_
        rw [if_neg (by omega), if_neg (by omega)]
      · intro u v u1 uv v1
        show K (bubble (arrOf st'') (lo + k) (lo + k - (lo + l))) u ≤ K (bubble (arrOf st'') (lo + k) (lo + k - (lo + l))) v
        have lo1 : ∀ j, lo ≤ j → j < lo + l → K (arrOf st'') j ≤ K (arrOf st'') (lo + k) := fun j j1 j2 => by
          have := a4 (j - lo) (by omega)
          rwa [show lo + (j - lo) = j by omega] at this
        have hi1 : ∀ j, lo + l ≤ j → j < lo + k → K (arrOf st'') (lo + k) < K (arrOf st'') j := fun j j1 j2 => by
          have := a5 (j - lo) (by omega) (by omega)
          rwa [show lo + (j - lo) = j by omega] at this
        rw [kb, kb]
        repeat' split
        all_goals first
          | (exfalso; omega)
          | exact Int.le_refl _
          | exact lo1 _ (by omega) (by omega)
          | exact Int.le_of_lt (hi1 _ (by omega) (by omega))
          | exact hs' _ _ (by omega) (by omega) (by omega)
end
end L2

set_option Elab.async false
set_option linter.all false
set_option maxRecDepth 100000
namespace L2
open PySem PySem.Spec PyProof.Rows

/-! ### all runs -/
def Cvr (xs : Array Keyed) : Nat → List (Nat × Nat × Nat) → Nat → Prop
  | s, [], e => s = e
  | s, t :: p, e => t.1 = s ∧ 1 ≤ t.2.1 ∧ SortedOn xs s (s + t.2.1) ∧ Cvr xs (s + t.2.1) p e
theorem Cvr.append {xs : Array Keyed} : ∀ {l r : List (Nat × Nat × Nat)} {s e : Nat}, Cvr xs s (l ++ r) e → ∃ m, Cvr xs s l m ∧ Cvr xs m r e
  | [], r, s, e, h => ⟨s, rfl, h⟩
  | t :: l, r, s, e, ⟨h1, h2, h3, h4⟩ => by
    obtain ⟨m, a, b⟩ := Cvr.append h4
    exact ⟨m, ⟨h1, h2, h3, a⟩, b⟩
theorem Cvr.join {xs : Array Keyed} : ∀ {l r : List (Nat × Nat × Nat)} {s m e : Nat}, Cvr xs s l m → Cvr xs m r e → Cvr xs s (l ++ r) e
  | [], r, s, m, e, h, h' => by
    have : s = m := h
    subst this; exact h'
  | t :: l, r, s, m, e, ⟨h1, h2, h3, h4⟩, h' => ⟨h1, h2, h3, Cvr.join h4 h'⟩
theorem Cvr.le {xs : Array Keyed} : ∀ {l : List (Nat × Nat × Nat)} {s e : Nat}, Cvr xs s l e → s + l.length ≤ e
  | [], s, e, h => by
    have : s = e := h
    subst this; simp
  | t :: l, s, e, ⟨h1, h2, h3, h4⟩ => by
    have := Cvr.le h4
    rw [List.length_cons]; omega
theorem Cvr.congr {xs ys : Array Keyed} : ∀ {l : List (Nat × Nat × Nat)} {s e : Nat}, (∀ j, s ≤ j → j < e → K ys j = K xs j) → Cvr xs s l e → Cvr ys s l e
  | [], s, e, _, h => h
  | t :: l, s, e, hk, ⟨h1, h2, h3, h4⟩ => by
    have := Cvr.le h4
    refine ⟨h1, h2, fun u v a b c => ?_, Cvr.congr (fun j j1 j2 => hk j (by omega) j2) h4⟩
    rw [hk u a (by omega), hk v (by omega) (by omega)]
    exact h3 u v a b c
theorem Cvr.same {xs : Array Keyed} : ∀ {l r : List (Nat × Nat × Nat)} {s e : Nat}, l.map (fun t => (t.1, t.2.1)) = r.map (fun t => (t.1, t.2.1)) → Cvr xs s l e → Cvr xs s r e
  | [], [], s, e, _, h => h
  | [], _ :: _, s, e, q, h => by cases q
  | _ :: _, [], s, e, q, h => by cases q
  | t :: l, t' :: r, s, e, q, ⟨h1, h2, h3, h4⟩ => by
    simp only [List.map_cons, List.cons.injEq, Prod.mk.injEq] at q
    obtain ⟨⟨q1, q2⟩, q3⟩ := q
    refine ⟨by rw [← q1]; exact h1, by rw [← q2]; exact h2, by rw [← q2]; exact h3, ?_⟩
    rw [← q2]
    exact Cvr.same q3 h4
theorem modify_same {α β : Type} {g : α → β} (f : α → α) (h : ∀ x, g (f x) = g x) : ∀ (l : List α) (i : Nat), (l.modify i f).map g = l.map g
  | [], _ => by simp
  | x :: l, 0 => by simp [h]
  | x :: l, i + 1 => by simp [modify_same f h l i]
theorem ite_less (c : Prop) [Decidable c] (n : Nat) : (if c then n - 2 - 1 else n - 2) ≤ n - 2 := by split <;> omega
theorem set_erase (l r : List (Nat × Nat × Nat)) (a b c : Nat × Nat × Nat) : ((l ++ a :: b :: r).set l.length c).eraseIdx (l.length + 1) = l ++ c :: r := by
  induction l with
  | nil => rfl
  | cons x l ih => simpa using ih
theorem two_of {p : List (Nat × Nat × Nat)} {i : Nat} (h : i + 1 < p.length) : ∃ l a b r, p = l ++ a :: b :: r ∧ l.length = i := by
  refine ⟨p.take i, p[i], p[i + 1], p.drop (i + 2), ?_, by simp; omega⟩
  rw [← List.drop_eq_getElem_cons (i := i + 1) h, ← List.drop_eq_getElem_cons (i := i) (by omega), List.take_append_drop]
section
variable {prog : Program} {w : World} {A : Around} {E : Value → Shared → Prop} {s : Shared} {a₀ : Array Keyed}
theorem wpS_mergeC {st : SortSt} {Q : Bool → SortSt → Prop} {i e : Nat} (h0 : PyProof.Rows.IntKeys a₀) (hB : SB a₀ st) (hc : Cvr (arrOf st) 0 (pendingOf st).toList e) (he : e ≤ a₀.size) (hi : i + 1 < (pendingOf st).size)
    (h : ∀ st', SB a₀ st' → Cvr (arrOf st') 0 (pendingOf st').toList e → (pendingOf st').size + 1 = (pendingOf st).size → (∀ j, e ≤ j → K (arrOf st') j = K (arrOf st) j) → Q true st') : wpS (model prog w) A E s (mergeAt' i) Q st := by
  obtain ⟨l, ta, tb, r, ep, hl⟩ := two_of (p := (pendingOf st).toList) (i := i) (by simpa using hi)
  obtain ⟨sa, na, pw⟩ := ta
  obtain ⟨sb, nb, pw2⟩ := tb
  have hc0 := hc
  rw [ep] at hc
  obtain ⟨m, c1, c2⟩ := hc.append
  obtain ⟨d1, d2, d3, d4, d5, d6, d7⟩ := c2
  simp only at d1 d2 d3 d4 d5 d6 d7
  have z := d7.le
  have e1 : (pendingOf st)[i]? = some (sa, na, pw) := by
    rw [← Array.getElem?_toList, ep, List.getElem?_append_right (by omega), hl, Nat.sub_self]; rfl
  have e2 : (pendingOf st)[i + 1]? = some (sb, nb, pw2) := by
    rw [← Array.getElem?_toList, ep, List.getElem?_append_right (by omega), hl, show i + 1 - i = 1 by omega]; rfl
  subst d1
  refine wpS_mergeAt h0 hB e1 e2 d4 d2 d5 (by omega) (by rw [d4]; exact d3) (by rw [d4]; exact d6) fun st' ⟨B', P', S', K'⟩ => h st' B' ?_ ?_ (fun j hj => K' j (.inr (by omega)))
  · rw [P', Array.toList_eraseIdxIfInBounds, Array.toList_setIfInBounds, ep, ← hl, set_erase]
    refine Cvr.join (m := sa) (c1.congr fun j j1 j2 => K' j (.inl j2)) ⟨rfl, Nat.le_trans d2 (Nat.le_add_right _ _), ?_, ?_⟩
    · show SortedOn (arrOf st') sa (sa + (na + nb))
      rw [show sa + (na + nb) = sb + nb by omega]
      exact S'
    · show Cvr (arrOf st') (sa + (na + nb)) r e
      rw [show sa + (na + nb) = sa + na + nb by omega]
      exact d7.congr fun j j1 j2 => K' j (.inr (by omega))
  · rw [← Array.length_toList, P', Array.toList_eraseIdxIfInBounds, Array.toList_setIfInBounds, ← Array.length_toList (xs := pendingOf st), ep, ← hl, set_erase]
    simp only [List.length_append, List.length_cons]; omega
theorem wpS_runs {st : SortSt} {Q : Unit → SortSt → Prop} (h0 : PyProof.Rows.IntKeys a₀) (hB : SBase a₀ st) (h2 : 2 ≤ a₀.size)
    (h : ∀ st', (arrOf st').Perm a₀ → failedOf st' = none → SortedTo (arrOf st') a₀.size → Q () st') : wpS (model prog w) A E s sortRuns' Q st := by
  have B0 : SB a₀ st := ⟨hB.perm, hB.kind, hB.failed⟩
  refine wpS_bind (wpS_get ?_)
  have hsz : (arrOf st).size = a₀.size := B0.size
  dsimp only
  rw [hsz]
  generalize hmr : (sortPriv% PySem.Builtin.minRun) a₀.size a₀.size 0 = mr
  refine wpS_bind (wpS_mono (wpS_forRange (I := fun x c st' => ∃ lo, c = (none, lo) ∧ SB a₀ st' ∧ Cvr (arrOf st') 0 (pendingOf st').toList lo ∧ lo ≤ a₀.size ∧ (x ≤ lo ∨ lo = a₀.size))
    (Q := fun c st' => ∃ lo, c = (none, lo) ∧ SB a₀ st' ∧ Cvr (arrOf st') 0 (pendingOf st').toList a₀.size) ?step ?fin ⟨0, rfl, B0, ?_, by omega, .inl (Nat.le_refl _)⟩) ?post)
  case step =>
    rintro x c st' _ hx ⟨lo, rfl, B, C, l1, l2⟩
    dsimp only
    by_cases hge : lo ≥ a₀.size
    · rw [if_pos hge]
      obtain rfl : lo = a₀.size := by omega
      exact wpS_pure ⟨_, rfl, B, C⟩
    rw [if_neg hge]
    refine wpS_bind (wpS_count h0 (by omega) (by omega) B fun m st1 W1 m1 m2 S1 => ?_)
    dsimp only
    have C1 : Cvr (arrOf st1) 0 (pendingOf st1).toList lo := by
      rw [W1.pend]
      exact C.congr fun j _ j2 => W1.out j (.inl j2)
    by_cases hmm : m < mr
    case' pos =>
      rw [if_pos hmm]
      refine wpS_bind (wpS_lift (wpAny_rule ⟨rfl, ?_⟩))
      refine wpS_bind (wpS_binary h0 (n := min (a₀.size - lo) mr) (by omega) (by omega) m1 W1.base S1 fun st2 W2 S2 => ?_)
      rw [if_neg (by decide)]
      have C2 : Cvr (arrOf st2) 0 (pendingOf st2).toList lo := by
        rw [W2.pend]
        exact C1.congr fun j _ j2 => W2.out j (.inl j2)
      have B2 := W2.base
      have n1 : 1 ≤ min (a₀.size - lo) mr := by omega
      have n2 : min (a₀.size - lo) mr ≤ a₀.size - lo := by omega
      generalize min (a₀.size - lo) mr = n at S2 n1 n2 ⊢
    case' neg =>
      rw [if_neg hmm]
      have S2 := S1
      have C2 := C1
      have B2 := W1.base
      have n1 := m1
      have n2 := m2
      generalize m = n at S2 n1 n2 ⊢
    all_goals
      refine wpS_bind (wpS_get ?_)
      have last : ∀ st3 : SortSt, SB a₀ st3 → Cvr (arrOf st3) 0 (pendingOf st3).toList lo → SortedOn (arrOf st3) lo (lo + n) → Cvr (arrOf st3) 0 ((pendingOf st3).push (lo, n, 0)).toList (lo + n) := fun st3 B3 C3 S3 => by
        rw [Array.toList_push]
        exact C3.join ⟨rfl, n1, S3, rfl⟩
      have fin : ∀ st3 : SortSt, SB a₀ st3 → Cvr (arrOf st3) 0 (pendingOf st3).toList lo → SortedOn (arrOf st3) lo (lo + n) →
          ∃ lo', (none, lo + n) = ((none : Option Unit), lo') ∧ SB a₀ (SortSt.mk' (kindOf st3) (arrOf st3) ((pendingOf st3).push (lo, n, 0)) (gallopOf st3) (failedOf st3)) ∧ Cvr (arrOf st3) 0 ((pendingOf st3).push (lo, n, 0)).toList lo' ∧ lo' ≤ a₀.size ∧ (x + 1 ≤ lo' ∨ lo' = a₀.size) := fun st3 B3 C3 S3 =>
        ⟨lo + n, rfl, ⟨B3.perm, B3.kind, B3.failed⟩, last st3 B3 C3 S3, by omega, by omega⟩
      cases hb : (pendingOf _).back? with
      | none =>
        exact wpS_bind (wpS_modify (wpS_pure (fin _ B2 C2 S2)))
      | some t =>
        obtain ⟨s1, k1, g1⟩ := t
        dsimp only
        refine wpS_bind (wpS_mono (wpS_forRange (I := fun _ c st3 => c = ((none : Option Unit), ()) ∧ SB a₀ st3 ∧ Cvr (arrOf st3) 0 (pendingOf st3).toList lo ∧ SortedOn (arrOf st3) lo (lo + n))
          (Q := fun c st3 => c = ((none : Option Unit), ()) ∧ SB a₀ st3 ∧ Cvr (arrOf st3) 0 (pendingOf st3).toList lo ∧ SortedOn (arrOf st3) lo (lo + n)) ?_ (fun _ _ q => q) ⟨rfl, B2, C2, S2⟩) ?_)
        · rintro y c st3 _ _ ⟨rfl, B3, C3, S3⟩
          refine wpS_bind (wpS_get ?_)
          by_cases hp : (pendingOf st3).size > 1
          · rw [if_pos hp]
            have ep : (pendingOf st3)[(pendingOf st3).size - 2]? = some ((pendingOf st3)[(pendingOf st3).size - 2]'(by omega)) := getElem?_pos (pendingOf st3) _ (by omega)
            rw [ep]
            generalize (pendingOf st3)[(pendingOf st3).size - 2]'(by omega) = t3
            obtain ⟨t31, t32, t33⟩ := t3
            dsimp only
            by_cases ho : t33 ≤ (sortPriv% PySem.Builtin.power) a₀.size (2 * s1 + k1) (2 * s1 + k1 + k1 + n) a₀.size
            · rw [if_pos ho]
              exact wpS_pure ⟨rfl, B3, C3, S3⟩
            · rw [if_neg ho]
              have hp2 : (pendingOf st3).size - 2 + 1 < (pendingOf st3).size := by omega
              refine wpS_bind (wpS_mergeC h0 B3 C3 l1 hp2 fun st4 B4 C4 _ K4 => ?_)
              rw [if_neg (by decide)]
              refine wpS_pure ⟨rfl, B4, C4, fun u v a b c => ?_⟩
              rw [K4 u (by omega), K4 v (by omega)]
              exact S3 u v a b c
          · rw [if_neg hp]
            exact wpS_pure ⟨rfl, B3, C3, S3⟩
        · rintro c st3 ⟨rfl, B3, C3, S3⟩
          dsimp only
          refine wpS_bind (wpS_modify ?_)
          have B4 : SB a₀ (SortSt.mk' (kindOf st3) (arrOf st3) ((pendingOf st3).modify ((pendingOf st3).size - 1) fun x => (x.1, x.2.1, (sortPriv% PySem.Builtin.power) a₀.size (2 * s1 + k1) (2 * s1 + k1 + k1 + n) a₀.size)) (gallopOf st3) (failedOf st3)) := ⟨B3.perm, B3.kind, B3.failed⟩
          refine wpS_bind (wpS_modify (wpS_pure (fin _ B4 ?_ S3)))
          refine Cvr.same ?_ C3
          show _ = ((pendingOf st3).modify _ _).toList.map _
          rw [Array.toList_modify]
          refine (modify_same (g := fun t : Nat × Nat × Nat => (t.1, t.2.1)) _ ?_ _ _).symm
          exact fun _ => rfl
  case fin =>
    rintro c st' ⟨lo, rfl, B, C, l1, l2⟩
    obtain rfl : lo = a₀.size := by omega
    exact ⟨_, rfl, B, C⟩
  case post =>
    rintro c st' ⟨lo, rfl, B, C⟩
    dsimp only
    have pz := C.le
    rw [Array.length_toList] at pz
    refine wpS_bind (wpS_mono (wpS_forRange (I := fun x c st2 => c = ((none : Option Unit), ()) ∧ SB a₀ st2 ∧ Cvr (arrOf st2) 0 (pendingOf st2).toList a₀.size ∧ ((pendingOf st2).size ≤ 1 ∨ (pendingOf st2).size + x ≤ a₀.size))
      (Q := fun c st2 => c = ((none : Option Unit), ()) ∧ SB a₀ st2 ∧ Cvr (arrOf st2) 0 (pendingOf st2).toList a₀.size ∧ (pendingOf st2).size ≤ 1) ?_ ?_ ⟨rfl, B, C, .inr (by omega)⟩) ?_)
    · rintro x c st2 _ hx ⟨rfl, B2, C2, q⟩
      refine wpS_bind (wpS_get ?_)
      by_cases hp : (pendingOf st2).size ≤ 1
      · rw [if_pos hp]
        exact wpS_pure ⟨rfl, B2, C2, hp⟩
      rw [if_neg hp]
      refine wpS_bind (wpS_mergeC h0 B2 C2 (Nat.le_refl _) ?_ fun st4 B4 C4 z4 K4 => ?_)
      · refine Nat.lt_of_le_of_lt (Nat.add_le_add_right (ite_less _ _) 1) ?_
        show (pendingOf st2).size - 2 + 1 < (pendingOf st2).size
        omega
      · rw [if_neg (by decide)]
        exact wpS_pure ⟨rfl, B4, C4, by omega⟩
    · rintro c st2 ⟨rfl, B2, C2, q⟩
      exact ⟨rfl, B2, C2, by omega⟩
    · rintro c st2 ⟨rfl, B2, C2, q⟩
      refine wpS_pure (h _ B2.perm B2.failed ?_)
      cases ep : (pendingOf st2).toList with
      | nil =>
        rw [ep] at C2
        have : 0 = a₀.size := C2
        omega
      | cons t r =>
        cases r with
        | cons _ _ =>
          have := congrArg List.length ep
          rw [Array.length_toList, List.length_cons, List.length_cons] at this
          omega
        | nil =>
          rw [ep] at C2
          obtain ⟨_, _, S2, e2⟩ := C2
          have e2 : 0 + t.2.1 = a₀.size := e2
          rw [e2] at S2
          exact fun i j a b => S2 i j (Nat.zero_le _) a b
  · show Cvr (arrOf st) 0 (pendingOf st).toList 0
    rw [hB.pend]
    rfl
end
end L2

set_option Elab.async false
set_option linter.all false
set_option maxRecDepth 100000
namespace L2
open PySem PySem.Spec PyProof.Rows

/-! ### sorted(..) of ints, however many -/
section
variable {prog : Program} {w : World} {A : Around} {E : Value → Shared → Prop} {s : Shared}
theorem sort_treeR {a : Addr} {vs : List Value} {ns : List Int} {n : Nat} {b : Bool} {P : Fin → Shared → Prop} (ho : s.heap.get? a = some (seqObj "list" vs.toArray n))
    (hI : IntsAre vs ns) (hz : vs.length ≤ sizeLine)
    (h : ∀ (out : Array Value) (ns' : List Int), IntsAre out.toList ns' → ns'.Perm ns → Ordered b ns' → P (.done (.ret .none)) { s with heap := sortedHeap s.heap a vs out }) :
    wpAny (model prog w) A (Builtin.«list.sort» ⟨[.ref a], [(Str.ofString "reverse", .bool b)]⟩) P E s := by
  by_cases h64 : vs.length < 64
  · exact list_sort_tree_rev ho hI h64 h
  have lv : vs.toArray.size = vs.length := by simp
  have zz : (vs.toArray.zip vs.toArray).size = vs.length := by rw [Array.size_zip, lv, Nat.min_self]
  have n2 : ¬ vs.toArray.size < 2 := by omega
  have ha : a < s.heap.objs.size := Heap.lt_size ho
  have big : vs.length ≤ sizeLine + 1 := Nat.le_succ_of_le hz
  obtain ⟨e1, ho1⟩ : ∃ e1, (s.heap.update a (Obj.mapSeq fun _ => #[])).get? a = some (seqObj "list" #[] e1) := ⟨_, get?_update_seq ho (fun _ => #[])⟩
  have ho6 : (((s.heap.update a (Obj.mapSeq fun _ => #[])).push (seqObj "tuple" vs.toArray 0)).push (seqObj "list" #[] 0)).get? a = some (seqObj "list" #[] e1) := by
    have q1 : a < (s.heap.update a (Obj.mapSeq fun _ => #[])).objs.size := by rw [Heap.size_update]; exact ha
    have q2 : a < ((s.heap.update a (Obj.mapSeq fun _ => #[])).push (seqObj "tuple" vs.toArray 0)).objs.size := by rw [size_push']; exact Nat.lt_succ_of_lt q1
    rw [Heap.get?_push_ne _ _ _ (Nat.ne_of_lt q2), Heap.get?_push_ne _ _ _ (Nat.ne_of_lt q1)]
    exact ho1
  have start : (if b = true then (vs.toArray.zip vs.toArray).reverse else vs.toArray.zip vs.toArray).Perm (pairsOf vs) := by
    cases b with
    | false => exact .refl _
    | true => exact Array.perm_iff_toList_perm.mpr (by rw [if_pos rfl, Array.toList_reverse]; exact List.reverse_perm _)
  rw [list_sort_rev]
  refine wpAny_bind (listItems_at ho rfl (wpAny_bind (listUpdate_at ho rfl (wpAny_bind (seqEpoch_at ho1 rfl (wpAny_bind (wpAny_newTuple (wpAny_bind (wpAny_newList (wpAny_holding ?_))))))))))
  have after : ∀ u : Sem Fin, wpAny (model prog w) A u P E { s with heap := ((s.heap.update a (Obj.mapSeq fun _ => #[])).push (seqObj "tuple" vs.toArray 0)).push (seqObj "list" #[] 0) } →
      wpAny (model prog w) A (if b = true then rule "list.sort.reverse" >>= fun _ => u else u) P E { s with heap := ((s.heap.update a (Obj.mapSeq fun _ => #[])).push (seqObj "tuple" vs.toArray 0)).push (seqObj "list" #[] 0) } := fun u hu => by
    cases b with
    | true => rw [if_pos rfl]; exact wpAny_bind (wpAny_rule hu)
    | false => rw [if_neg Bool.false_ne_true]; exact hu
  dsimp only
  refine after _ ?_
  rw [if_neg n2, if_neg n2]
  obtain ⟨v1, v2, r, rfl⟩ : ∃ v1 v2 r, vs = v1 :: v2 :: r := by
    match vs, h64 with
    | [], q => exact absurd (by decide) q
    | [_], q => exact absurd (by simp) q
    | v1 :: v2 :: r, _ => exact ⟨v1, v2, r, rfl⟩
  rw [keyKind_ints hI]
  refine wpAny_bind (wpAny_pure (wpAny_bind (wpAny_mono (wpS_runs (Q := fun _ st' => (arrOf st').Perm (pairsOf (v1 :: v2 :: r)) ∧ failedOf st' = none ∧ SortedTo (arrOf st') (pairsOf (v1 :: v2 :: r)).size)
    hI.intKeys ⟨start, rfl, rfl, rfl⟩ (by rw [pairsOf_size]; simp) fun st' a1 a2 a3 => ⟨a1, a2, a3⟩) (fun q s' hq => ?_) fun _ _ e => e)))
  obtain ⟨⟨⟩, st'⟩ := q
  obtain ⟨rfl, hp, hf, hs⟩ := hq
  dsimp only
  have sz : ((arrOf st').map (·.2)).size ≤ sizeLine + 1 := by
    rw [Array.size_map, hp.size_eq, pairsOf_size]; exact big
  refine wpAny_bind (seqEpoch_at ho6 rfl (wpAny_bind (listUpdate_at ho6 rfl ?_ (hsz2 := by
    cases b with
    | true => rw [if_pos rfl, Array.size_reverse]; exact sz
    | false => rw [if_neg Bool.false_ne_true]; exact sz))))
  rw [hf]
  simp only [bne_self_eq_false, Bool.false_eq_true, if_false]
  obtain ⟨ns', q1, q2, q3⟩ := sorted_out_rev hI hp hs b
  exact wpAny_pure (h _ ns' q1 q2 q3)
theorem sorted_collB {x : Value} {ns : List Int} {b : Bool} {Q : Value → Shared → Prop} (hz : ns.length ≤ sizeLine)
    (hc : ∀ (R : List Value → Shared → Prop), (∀ h' tk (vs : List Value), (∀ b o, s.heap.get? b = some o → h'.get? b = some o) → IntsAre vs ns → R vs { s with heap := h', toks := tk }) → wpAny (model prog w) A.in1 (collect x) R E s)
    (h : ∀ (out : List Value) (n : Nat) (h1 h' : Heap) (tk : Nat) (ns' : List Int), (∀ b o, s.heap.get? b = some o → h1.get? b = some o) → (∀ b o, h1.get? b = some o → h'.get? b = some o) → h'.get? h1.objs.size = some (seqObj "list" out.toArray n) → IntsAre out ns' → ns'.Perm ns → Ordered b ns' → Q (.ref h1.objs.size) { s with heap := h', toks := tk }) :
    wpAny (model prog w) A (call (.builtin "sorted") [x] [(Str.ofString "reverse", .bool b)]) Q E s := by
  refine call_function_entry_kw kind_sorted plain_sorted entry_sorted (args_sorted_rev _ _) ?_
  unfold Builtin.«sorted»
  refine wpAny_bind (m := checkCount "sorted" 1 1 _) (wpAny_pure ?_)
  refine wpAny_bind (hc _ fun h1 tk vs hk1 hI => ?_)
  have hlv : vs.length ≤ sizeLine := by rw [← hI.length] at hz; exact hz
  refine wpAny_bind (wpAny_newList ?_ hlv)
  have hoL : (h1.push (seqObj "list" vs.toArray 0)).get? h1.objs.size = some (seqObj "list" vs.toArray 0) := Heap.get?_push_size _ rfl
  refine wpAny_bind (wpAny_holding (wpAny_call_entry_kw slot_list_sort ⟨_, hoL, rfl⟩ entry_list_sort (sort_treeR hoL hI hlv fun out ns' a1 a2 a3 => ⟨_, rfl, ?_⟩) (args_list_sort_rev _ _)))
  obtain ⟨e, he⟩ := sortedHeap_at (vs := vs) (out := out) hoL
  refine wpAny_pure ⟨_, rfl, h out.toList e h1 _ tk ns' hk1 (fun b o hb => ?_) he a1 a2 a3⟩
  have hlt := Heap.lt_size hb
  rw [sortedHeap_old (Nat.ne_of_lt hlt) (by rw [Heap.size_push]; exact Nat.lt_succ_of_lt hlt)]
  exact Heap.get?_push_of_some _ hb
end
section
variable {X : Cx}
def rSortDB (b : Bool) : V → Hp → VK → Prop := fun x H Q => ∃ a kvs ns, x = .ref a ∧ H a = some (.dK kvs) ∧ kvs.map (·.1) = (ns : List Int).map Sum.inl ∧ ns.length ≤ sizeLine ∧ ∀ ns' p, ns.Nodup → ns'.Perm ns → Ordered b ns' → H p = none → Q (.ref p) (upd H p (.lst (ns'.map V.int)))
def tSortDB (b : Bool) (te : TE) : TE := fun σ H Q => te σ H fun x H1 => rSortDB b x H1 Q
theorem pe_sortDB {e : Expr} {te : TE} {b : Bool} {p kp cp pos : Pos} {j : Nat} (hcm : X.calm = true) (hg : Gl X "sorted") (hm : X.mg "sorted" = none) (he : PE X e te)
    (hse : starEach [e] X.env = [(false, eval e X.env)] := by rfl) : PE X (.Call (.Name "sorted" p) [e] [⟨some "reverse", .Constant (.bool b) j cp, kp⟩] pos) (tSortDB b te) := by
  intro pins s σ H Q I h
  refine wpAny_Call_Name_kw (ld_blt I hg hm boot_sorted ?_ (by decide) (by decide))
  refine callWith_kw (thn (pa_cons he pa_nil hse pos pins s σ H (fun vs H1 => match vs with | [x] => rSortDB b x H1 Q | _ => False) I h) fun us s1 ⟨vs, H1, I1, r1, q1⟩ => ?_) (by rw [hse]; rfl) (by rw [hse]; rfl)
  match vs, r1, q1 with
  | [x], r1, q =>
    obtain ⟨u, rfl, ru⟩ := vals1 r1
    refine kws_cons (Constant_bool (kws_nil ?_))
    obtain ⟨a, kvs, ns, rfl, hq, hks, hl, q⟩ := q
    cases ru
    show wpAny _ _ (call (.builtin "sorted") [.ref a] [(Str.ofString "reverse", .bool b)]) _ _ _
    have hh : X.A.in1.handled = none := I1.ok.hd hcm
    obtain ⟨hz, lo, ws, rel, o, es, ep, ho, hex, hd, hko, hpr, hnd⟩ := dk_of I1.hok hq
    have hkeys : ws.map (·.1) = ns.map Sum.inl := by rw [kv_keys rel, hks]
    have hlen : ws.length = ns.length := by
      have := congrArg List.length hkeys
      simpa using this
    have hdup : ns.Nodup := by
      rw [hkeys] at hnd
      exact (List.Pairwise.of_map (S := fun a b => a ≠ b) Sum.inl (fun a b h z => h (by rw [z])) hnd)
    refine sorted_collB hl (fun R hR => PySem.W.kdu_collect (A := X.A.in1) (PySem.W.kdl_dict (knd := mixKind X.prog X.w) (kvs := ws) (ep := ep) lo) hh ⟨o, es, ho, hex, hd, hko, hpr, hnd⟩ (by rw [hlen]; exact hl) fun h' tk acc hk hacc => hR h' tk acc.toList hk ?_) fun out n h1 h' tk ns' k1 k2 e a1 a2 a3 => ?_
    · have hla : acc.toList.length = ns.length := by rw [Array.length_toList, hacc.1, hlen]
      refine intsAre_of (paired_of (by rw [List.length_map, hla]) fun j x y e1 e2 => ?_)
      obtain ⟨z, hz, rfl⟩ := map_at e1
      obtain ⟨kk, xx, hkk, his⟩ := hacc.2 j y (by rw [← Array.getElem?_toList]; exact e2)
      have e3 : (ws.map (·.1))[j]? = some kk := by rw [List.getElem?_map, hkk]; rfl
      rw [hkeys, List.getElem?_map, hz] at e3
      have e4 : Sum.inl z = kk := Option.some.inj e3
      subst e4
      rcases keyIs_shape (show keyIs (Sum.inl z) y = true from his) with ⟨i, t, e5, e6⟩ | ⟨i, t, e5, e6⟩
      · cases e5
        exact ⟨t, e6⟩
      · cases e5
    · have hz' : (ns'.map V.int).length ≤ sizeLine := by rw [List.length_map, a2.length_eq]; exact hl
      have I2 : Inv X pins σ H1 { s1 with heap := h1 } := I1.kept (t' := s1.toks) k1
      exact ⟨.ref _, _, I2.laid (t' := tk) k2 (Nat.le_refl _) (show ObjOk X.prog X.w _ _ _ (.lst (ns'.map V.int)) from ⟨hz', out, n, vals_ints a1, by simpa [seqObj] using e⟩), rfl, q ns' _ hdup a2 a3 (I2.hok.fresh (Nat.le_refl _))⟩
end
end L2

set_option Elab.async false
set_option linter.all false
set_option maxRecDepth 100000
namespace L2
open PySem PySem.Spec PyProof.Rows
/-! ### `for`, comprehensions over a list or a tuple alike -/
theorem for_seq {K : PySem.W.Frag} {a : Addr} {xs : List V} {g : TG} {tb : TS} {D : Ends} {σ : St} {H : Hp} {i : Nat} {o : HO} (ho : o = .lst xs ∨ o = .tup xs) (hs : σ[i]? = some (some (.ref a))) (hH : H a = some o) (Pv : Nat → St → Hp → Prop) (h0 : Pv 0 σ H) (hl : ∀ i σ H, i ≤ xs.length → Pv i σ H → H a = some o)
    (st : ∀ i x σ H, xs[i]? = some x → Pv i σ H → g x σ H fun σ2 H2 => tb { D with nx := Pv (i + 1), ct := Pv (i + 1), bk := D.nx } σ2 H2) (hd : ∀ σ H, Pv xs.length σ H → D.nx σ H) : tFor (iOr (iList K (tVar i)) (iTup K (tVar i))) g tb D σ H := by
  rcases ho with rfl | rfl
  · exact .inl ⟨_, hs, a, rfl, ⟨_, SqL.of hH⟩, for_list Pv h0 (fun i σ H hi p => SqL.of (hl i σ H hi p)) st hd⟩
  · exact .inr ⟨_, hs, a, rfl, ⟨_, SqT.of hH⟩, for_tup Pv h0 (fun i σ H hi p => SqT.of (hl i σ H hi p)) st hd⟩
/-! ### told and due, the same -/
def SmG : Nat → Hp → V → V → Prop
  | 0, _, _, _ => False
  | n + 1, H, x, y => (∃ i : Int, x = .int i ∧ y = .int i) ∨ (∃ b : Bool, x = .bl b ∧ y = .bl b) ∨ (x = .non ∧ y = .non) ∨ (∃ z : Str, x = .str z ∧ y = .str z) ∨
      (∃ (f d : Addr) (xs ys : List V), x = .ref f ∧ y = .ref d ∧ ((H f = some (.tup xs) ∧ H d = some (.tup ys)) ∨ (H f = some (.lst xs) ∧ H d = some (.lst ys))) ∧ xs.length = ys.length ∧ xs.length ≤ 100000 ∧
        ∀ (i : Nat) (x y : V), xs[i]? = some x → ys[i]? = some y → SmG n H x y)
theorem SmG.mv {H H' : Hp} (s : Same H H') : ∀ {n : Nat} {x y : V}, SmG n H x y → SmG n H' x y
  | 0, _, _, h => h.elim
  | n + 1, x, y, h => by
    rcases h with h | h | h | h | ⟨f, d, xs, ys, e1, e2, h, hl, hb, k⟩
    · exact .inl h
    · exact .inr (.inl h)
    · exact .inr (.inr (.inl h))
    · exact .inr (.inr (.inr (.inl h)))
    · refine .inr (.inr (.inr (.inr ⟨f, d, xs, ys, e1, e2, ?_, hl, hb, fun i x y hx hy => SmG.mv s (k i x y hx hy)⟩)))
      rcases h with ⟨h1, h2⟩ | ⟨h1, h2⟩
      · exact .inl ⟨s _ _ h1, s _ _ h2⟩
      · exact .inr ⟨s _ _ h1, s _ _ h2⟩
theorem SmG.int {n : Nat} {H : Hp} (i : Int) : SmG (n + 1) H (.int i) (.int i) := .inl ⟨i, rfl, rfl⟩
theorem SmG.tup {n : Nat} {H : Hp} {f d : Addr} {xs ys : List V} (h1 : H f = some (.tup xs)) (h2 : H d = some (.tup ys)) (hl : xs.length = ys.length) (hb : xs.length ≤ 100000) (k : ∀ (i : Nat) (x y : V), xs[i]? = some x → ys[i]? = some y → SmG n H x y) : SmG (n + 1) H (.ref f) (.ref d) :=
  .inr (.inr (.inr (.inr ⟨f, d, xs, ys, rfl, rfl, .inl ⟨h1, h2⟩, hl, hb, k⟩)))
theorem SmG.lst {n : Nat} {H : Hp} {f d : Addr} {xs ys : List V} (h1 : H f = some (.lst xs)) (h2 : H d = some (.lst ys)) (hl : xs.length = ys.length) (hb : xs.length ≤ 100000) (k : ∀ (i : Nat) (x y : V), xs[i]? = some x → ys[i]? = some y → SmG n H x y) : SmG (n + 1) H (.ref f) (.ref d) :=
  .inr (.inr (.inr (.inr ⟨f, d, xs, ys, rfl, rfl, .inr ⟨h1, h2⟩, hl, hb, k⟩)))
theorem SmG.pair {n : Nat} {H : Hp} {f d : Addr} {x1 x2 y1 y2 : V} (h1 : H f = some (.tup [x1, x2])) (h2 : H d = some (.tup [y1, y2])) (k1 : SmG n H x1 y1) (k2 : SmG n H x2 y2) : SmG (n + 1) H (.ref f) (.ref d) :=
  .tup h1 h2 rfl (by show 2 ≤ 100000; decide) fun i x y hx hy => by
    match i, hx, hy with
    | 0, hx, hy => cases hx; cases hy; exact k1
    | 1, hx, hy => cases hx; cases hy; exact k2
theorem all2_sm {α : Type} {R S : α → V → Hp → Prop} {n : Nat} {H : Hp} {l : List α} {xs ys : List V} (a1 : All2 R H l xs) (a2 : All2 S H l ys) (k : ∀ a x y, a ∈ l → R a x H → S a y H → SmG n H x y) : xs.length = ys.length ∧ ∀ (i : Nat) (x y : V), xs[i]? = some x → ys[i]? = some y → SmG n H x y := by
  refine ⟨by rw [← a1.length, a2.length], fun i x y hx hy => ?_⟩
  obtain ⟨a, ha, r⟩ := a1.get hx
  obtain ⟨b, hb, r'⟩ := a2.get hy
  rw [ha] at hb
  cases hb
  exact k a x y (List.mem_of_getElem? ha) r r'
theorem SmG.lstR {α : Type} {R S : α → V → Hp → Prop} {n : Nat} {H : Hp} {f d : Addr} {l : List α} {xs ys : List V} (h1 : H f = some (.lst xs)) (h2 : H d = some (.lst ys)) (a1 : All2 R H l xs) (a2 : All2 S H l ys) (hl : l.length ≤ 100000) (k : ∀ a x y, a ∈ l → R a x H → S a y H → SmG n H x y) : SmG (n + 1) H (.ref f) (.ref d) :=
  .lst h1 h2 (all2_sm a1 a2 k).1 (by rw [← a1.length]; exact hl) (all2_sm a1 a2 k).2
theorem SmG.ints {H : Hp} {n : Nat} {f d : Addr} {ns : List Int} (h1 : H f = some (.tup (ns.map V.int))) (h2 : H d = some (.tup (ns.map V.int))) (hl : ns.length ≤ 100000) : SmG (n + 2) H (.ref f) (.ref d) :=
  .tup h1 h2 rfl (by rw [List.length_map]; exact hl) fun i x y hx hy => by
    obtain ⟨z, hz, rfl⟩ := map_at hx
    obtain ⟨z', hz', rfl⟩ := map_at hy
    rw [hz] at hz'
    cases hz'
    exact .int z
/-- x is True, x is False -/
def plainV : V → Prop
  | .non => True | .bl _ => True | .int _ => True | .str _ => True | .ref _ => True
  | _ => False
theorem op_isG {X : Cx} : OpR X (compareOp .Is) (fun x y H Q => ∃ c : Bool, y = .bl c ∧ plainV x ∧ Q (.bl (decide (x = .bl c))) H) := by
  intro pins s σ H x y v u Q I rx ry h
  obtain ⟨c, rfl, hx, q⟩ := h
  cases ry
  cases x with
  | non => cases rx; refine wpAny_is_plain rfl ⟨.bl _, H, I, ?_, q⟩; rfl
  | bl b => cases rx; refine wpAny_is_plain rfl ⟨.bl _, H, I, ?_, q⟩; cases b <;> cases c <;> rfl
  | int i => obtain ⟨t, rfl⟩ := rx; refine wpAny_is_plain rfl ⟨.bl _, H, I, ?_, q⟩; rfl
  | str z => obtain ⟨t, rfl⟩ := rx; refine wpAny_is_plain rfl ⟨.bl _, H, I, ?_, q⟩; rfl
  | ref a => cases rx; refine wpAny_is_plain rfl ⟨.bl _, H, I, ?_, q⟩; rfl
  | byt b => exact hx.elim
  | flt b => exact hx.elim
  | ty b => exact hx.elim
/-! ### tuples: slices, sums -/
theorem slice_any {K : PySem.W.Frag} {H : Hp} {p : Addr} {xs : List V} {lo hi : Option Int} {Q : VK} (hp : H p = some (.tup xs)) (k : ∀ q H', H' q = some (.tup (cutV xs lo hi)) → Same H H' → Q (.ref q) H') : rSlTA K (.ref p) lo hi H Q := by
  by_cases hw : HT.sIx xs.length 0 lo = 0 ∧ HT.sIx xs.length xs.length hi = xs.length
  · refine .inl ⟨p, xs, rfl, SqT.of hp, hw, k p H ?_ fun _ _ z => z⟩
    unfold cutV
    rw [hw.1, hw.2, List.drop_zero, Nat.sub_zero, List.take_length]
    exact hp
  · exact .inr ⟨p, xs, rfl, SqT.of hp, hw, fun q hq => k q _ upd_same (Same.new hq)⟩
theorem cut_last (xs : List V) : cutV xs none (some (-1)) = xs.take (xs.length - 1) := by
  unfold cutV
  have e : HT.sIx xs.length xs.length (some (-1)) = xs.length - 1 := by
    show (if (-1 : Int) < 0 then ((-1 : Int) + (xs.length : Int)).toNat else min (-1 : Int).toNat xs.length) = _
    rw [if_pos (by decide)]
    omega
  rw [e, HT.sIx_none, List.drop_zero, Nat.sub_zero]
theorem cat_both {K : PySem.W.Frag} {H : Hp} {q t : Addr} {xs ys : List V} {Q : V → Hp → Prop} (hq : H q = some (.tup xs)) (ht : H t = some (.tup ys)) (hl : xs.length + ys.length ≤ sizeLine)
    (k : ∀ (p : Addr) (H' : Hp), H' p = some (.tup (xs ++ ys)) → Same H H' → Q (.ref p) H') : rCatA K (.ref q) (.ref t) H Q := by
  refine ⟨q, t, _, _, rfl, rfl, SqT.of hq, SqT.of ht, hl, fun e => ?_, fun _ e => ?_, fun _ _ p hp => ?_⟩
  · subst e
    exact k t H ht fun _ _ z => z
  · subst e
    exact k q H (by rw [List.append_nil]; exact hq) fun _ _ z => z
  · exact k p _ upd_same (Same.new hp)
theorem len_of_count : ∀ (a b : List Int), (∀ x, a.count x ≤ b.count x) → a.length ≤ b.length
  | [], _, _ => Nat.zero_le _
  | x :: a, b, h => by
    have hx : x ∈ b := List.count_pos_iff.mp (Nat.lt_of_lt_of_le (by rw [List.count_cons_self]; omega) (h x))
    have := len_of_count a (b.erase x) fun y => by
      have hy := h y
      rw [List.count_erase, List.count_cons] at *
      split at hy <;> split <;> simp_all <;> omega
    rw [List.length_erase_of_mem hx] at this
    have : 0 < b.length := List.length_pos_of_mem hx
    rw [List.length_cons]
    omega
theorem IsJoin.len {ls : List (List Int)} {ms : List Int} (h : IsJoin ls ms) : ms.length ≤ ls.flatten.length := len_of_count _ _ fun x => by
  rw [h.2 x]
  exact maxC_flat ls x
end L2

set_option Elab.async false
set_option linter.all false
set_option maxRecDepth 100000
namespace L2
open PySem PySem.Spec PyProof.Rows
/-! ### the least counts -/
def minC : List (List Int) → Int → Nat
  | [], _ => 0
  | [h], x => h.count x
  | h :: g :: r, x => min (h.count x) (minC (g :: r) x)
theorem minC_le : ∀ {ls : List (List Int)} {x : Int} {l : List Int}, l ∈ ls → minC ls x ≤ l.count x
  | [h], x, l, hl => by
    have : l = h := by simpa using hl
    subst this
    exact Nat.le_refl _
  | h :: g :: r, x, l, hl => by
    rw [minC]
    rcases List.mem_cons.mp hl with rfl | hl
    · exact Nat.min_le_left _ _
    · exact Nat.le_trans (Nat.min_le_right _ _) (minC_le hl)
theorem le_minC : ∀ {ls : List (List Int)} {x : Int} {B : Nat}, ls ≠ [] → (∀ l ∈ ls, B ≤ l.count x) → B ≤ minC ls x
  | [], _, _, h, _ => absurd rfl h
  | [h], x, B, _, hb => hb h (by simp)
  | h :: g :: r, x, B, _, hb => by
    rw [minC]
    have h1 := hb h (by simp)
    have h2 := le_minC (ls := g :: r) (x := x) (B := B) (by simp) fun l hl => hb l (List.mem_cons_of_mem _ hl)
    omega
theorem min_of_counts {ls : List (List Int)} {x m : Int} (h : Ismin m (ls.map fun l => ((l.count x : Nat) : Int))) : m = ((minC ls x : Nat) : Int) := by
  obtain ⟨h1, h2⟩ := h
  obtain ⟨l, hl, rfl⟩ := List.mem_map.mp h1
  have a := minC_le (x := x) hl
  have b : l.count x ≤ minC ls x := le_minC (fun e => by rw [e] at hl; cases hl) fun k hk => by
    have := h2 _ (List.mem_map.mpr ⟨k, hk, rfl⟩)
    omega
  omega
/-! ### sorted(x), x a list of ints -/
section
variable {prog : Program} {w : World} {A : Around} {E : Value → Shared → Prop} {s : Shared}
end
end L2

set_option Elab.async false
set_option linter.all false
set_option maxRecDepth 100000
namespace L2
open PySem PySem.Spec PyProof.Rows
/-! ### rules made of columns -/
/-! ### a lane, with its second level in other parts or not -/
structure LD where
  L : Nat
  R : Nat
  m : Nat
  k : Nat
  sp : Bool
  lev : List Nat
structure LD.Ok (d : LD) : Prop where
  l1 : 1 ≤ d.L
  l8 : d.L ≤ 8
  r1 : 1 ≤ d.R
  r8 : d.R ≤ 8
  m8 : d.m ≤ 8
  k8 : d.k ≤ 8
  eq : d.L * d.m = d.R * d.k
  dv : d.sp = true → d.R * (d.L / d.R) = d.L ∧ d.R < d.L
  lv : ∀ v ∈ d.lev, v ≤ 2
  mR : d.m ≤ d.R
  kL : d.k ≤ d.L
def LD.at (d : LD) (j : Nat) : Nat := d.lev.getD j 0
/-! ### the first choice of which something is true -/
/-! ### lists of truths -/
/-- heaps of any parts, not too many -/
def RuleB (rule : List (List Int)) : Prop := ∀ h ∈ rule, h.length ≤ 160
theorem RuleB.pick {rule : List (List Int)} (h : RuleB rule) {ch : List Int} (hc : ch.length ≤ 6) : (pickG rule ch).flatten.length < 1000 := by
  have : (pickG rule ch).flatten.length ≤ 160 * (pickG rule ch).length := flat_le fun l hl => by
    obtain ⟨j, hj, rfl⟩ := List.mem_map.mp hl
    rw [List.getD_eq_getElem?_getD]
    cases e : rule[j.toNat]? with
    | none => exact Nat.zero_le _
    | some x => exact h x (List.mem_of_getElem? e)
  have e : (pickG rule ch).length = ch.length := by unfold pickG; rw [List.length_map]
  rw [e] at this
  omega
end L2

set_option Elab.async false
set_option linter.all false
set_option maxRecDepth 100000
namespace L2
open PySem PySem.Spec PyProof.Rows
/-! ### list.remove, list.index of ints -/
/-! ### one heap taken out of another -/
end L2

set_option Elab.async false
set_option linter.all false
set_option maxRecDepth 100000
namespace L2
open PySem PySem.Spec PyProof.Rows
/-! ### places, two rules side by side -/
/-! ### the object that holds both -/
end L2

set_option Elab.async false
set_option linter.all false
set_option maxRecDepth 100000
namespace HT
open PySem PySem.Spec PyProof.Rows
section
variable {prog : Program} {w : World} {A : Around} {E : Value → Shared → Prop} {s : Shared}
end
end HT
namespace L2
open PySem PySem.Spec PyProof.Rows
section
variable {X : Cx} {e st : Expr} {te : TE} {ts : TO} {p2 pos : Pos}
end
end L2

set_option Elab.async false
set_option linter.all false
set_option maxRecDepth 100000
namespace L2
open PySem PySem.Spec PyProof.Rows
/-! ### list.index of a tuple of ints -/
/-! ### falling lists of heaps -/
/-! ### a comprehension that is true all along -/
/-! ### partings of any number that keep a rule -/
end L2

set_option Elab.async false
set_option linter.all false
set_option maxRecDepth 100000
namespace L2
open PySem
/-! ### the weights of a rule's dots -/
theorem rise_eq : ∀ {a b : List Int}, a.Pairwise (· < ·) → b.Pairwise (· < ·) → (∀ x, x ∈ a ↔ x ∈ b) → a = b
  | [], [], _, _, _ => rfl
  | [], y :: b, _, _, h => by
    have := (h y).mpr (by simp)
    cases this
  | x :: a, [], _, _, h => by
    have := (h x).mp (by simp)
    cases this
  | x :: a, y :: b, ha, hb, h => by
    have ha' := List.pairwise_cons.mp ha
    have hb' := List.pairwise_cons.mp hb
    have exy : x = y := by
      rcases List.mem_cons.mp ((h x).mp (by simp)) with e | e
      · exact e
      · rcases List.mem_cons.mp ((h y).mpr (by simp)) with e2 | e2
        · exact e2.symm
        · have := hb'.1 x e
          have := ha'.1 y e2
          omega
    subst exy
    congr 1
    refine rise_eq ha'.2 hb'.2 fun z => ⟨fun hz => ?_, fun hz => ?_⟩
    · rcases List.mem_cons.mp ((h z).mp (List.mem_cons_of_mem _ hz)) with e | e
      · have := ha'.1 z hz
        omega
      · exact e
    · rcases List.mem_cons.mp ((h z).mpr (List.mem_cons_of_mem _ hz)) with e | e
      · have := hb'.1 z hz
        omega
      · exact e
theorem upto_rise (n : Nat) : (upto n).Pairwise (· < ·) := by
  unfold upto
  rw [List.pairwise_map]
  exact List.pairwise_lt_range.imp fun h => by omega
theorem upto_has {n : Nat} {x : Int} (h0 : 0 ≤ x) (h1 : x < n) : x ∈ upto n := List.mem_map.mpr ⟨x.toNat, List.mem_range.mpr (by omega), by omega⟩
/-- the numbers of the heaps that hold the part at least d times -/
def holdG (rule : List (List Int)) (p : Int) (d : Nat) : List Int := (upto rule.length).filter fun i => decide (d ≤ (rule.getD i.toNat []).count p)
theorem holdG_rise (rule : List (List Int)) (p : Int) (d : Nat) : (holdG rule p d).Pairwise (· < ·) := (upto_rise _).filter _
theorem holdG_mem {rule : List (List Int)} {p : Int} {d : Nat} {x : Int} : x ∈ holdG rule p d ↔ (0 ≤ x ∧ x < rule.length) ∧ d ≤ (rule.getD x.toNat []).count p := by
  unfold holdG
  rw [List.mem_filter, decide_eq_true_iff]
  exact ⟨fun h => ⟨upto_mem h.1, h.2⟩, fun h => ⟨upto_has h.1.1 h.1.2, h.2⟩⟩
theorem chG_full : ∀ (n : Nat) {c : List Int}, c.Pairwise (· < ·) → (∀ x ∈ c, 0 ≤ x ∧ x < n) → c ∈ chG (upto n)
  | 0, c, _, h => by
    cases c with
    | nil => exact List.mem_cons_self ..
    | cons x r => have := h x (by simp); omega
  | n + 1, c, hp, h => by
    rw [upto_succ, chG_snoc, List.mem_append]
    by_cases hn : (n : Int) ∈ c
    · refine .inr (List.mem_map.mpr ⟨c.filter fun x => decide (x < n), chG_full n (hp.filter _) (fun x hx => ?_), ?_⟩)
      · have h1 := List.mem_filter.mp hx
        exact ⟨(h x h1.1).1, of_decide_eq_true h1.2⟩
      · refine rise_eq (List.pairwise_append.mpr ⟨hp.filter _, List.pairwise_singleton .., fun x hx y hy => ?_⟩) hp fun x => ?_
        · have h1 := of_decide_eq_true (List.mem_filter.mp hx).2
          have : y = n := by simpa using hy
          omega
        · rw [List.mem_append, List.mem_filter, decide_eq_true_iff, List.mem_singleton]
          constructor
          · rintro (z | z)
            · exact z.1
            · rw [z]; exact hn
          · intro z
            have := h x z
            by_cases hx : x < n
            · exact .inl ⟨z, hx⟩
            · exact .inr (by omega)
    · refine .inl (chG_full n hp fun x hx => ?_)
      have := h x hx
      have : x ≠ n := fun e => hn (e ▸ hx)
      omega
theorem chG_nodup : ∀ n : Nat, (chG (upto n)).Nodup
  | 0 => by decide
  | n + 1 => by
    rw [upto_succ, chG_snoc]
    refine List.nodup_append.mpr ⟨chG_nodup n, ?_, fun a ha b hb e => ?_⟩
    · exact List.Pairwise.map _ (fun a b hab e => hab (List.append_cancel_right e)) (chG_nodup n)
    · obtain ⟨b', _, rfl⟩ := List.mem_map.mp hb
      have h1 := (chG_mem n (upto n) (upto_len n) a ha).2 n (by rw [e]; simp)
      have := upto_mem h1
      omega
theorem holdG_in (rule : List (List Int)) (p : Int) (d : Nat) : holdG rule p d ∈ chG (upto rule.length) := chG_full _ (holdG_rise ..) fun x hx => (holdG_mem.mp hx).1
theorem lt_maxC {ls : List (List Int)} {x : Int} {d : Nat} : d < maxC ls x ↔ ∃ l ∈ ls, d < l.count x := by
  constructor
  · intro h
    refine Classical.byContradiction fun hn => ?_
    have := maxC_le (ls := ls) (x := x) (B := d) fun l hl => Nat.le_of_not_lt fun z => hn ⟨l, hl, z⟩
    omega
  · rintro ⟨l, hl, h⟩
    exact Nat.lt_of_lt_of_le h (le_maxC hl)
theorem holdG_nil {rule : List (List Int)} {p : Int} {d : Nat} : holdG rule p (d + 1) = [] ↔ maxC rule p ≤ d := by
  constructor
  · intro h
    refine Nat.le_of_not_lt fun z => ?_
    obtain ⟨l, hl, hc⟩ := lt_maxC.mp z
    obtain ⟨i, hi, e⟩ := List.getElem_of_mem hl
    have : ((i : Nat) : Int) ∈ holdG rule p (d + 1) := holdG_mem.mpr ⟨⟨by omega, by omega⟩, by
      rw [show ((i : Nat) : Int).toNat = i by omega, List.getD_eq_getElem?_getD, List.getElem?_eq_getElem hi, e]
      exact hc⟩
    rw [h] at this
    cases this
  · intro h
    refine List.eq_nil_iff_forall_not_mem.mpr fun x hx => ?_
    obtain ⟨⟨h0, h1⟩, h2⟩ := holdG_mem.mp hx
    have hi : x.toNat < rule.length := by omega
    rw [List.getD_eq_getElem?_getD, List.getElem?_eq_getElem hi] at h2
    have := le_maxC (x := p) (List.getElem_mem hi)
    simp only [Option.getD_some] at h2
    omega
/-- how many dots of the part are held by just the heaps of c -/
def dotsG (rule : List (List Int)) (p : Int) (T : Nat) (c : List Int) : Nat := ((List.range T).filter fun d => decide (holdG rule p (d + 1) = c)).length
theorem dotsG_succ (rule : List (List Int)) (p : Int) (T : Nat) (c : List Int) : dotsG rule p (T + 1) c = dotsG rule p T c + if holdG rule p (T + 1) = c then 1 else 0 := by
  unfold dotsG
  rw [List.range_succ, List.filter_append, List.length_append, List.filter_cons]
  by_cases h : holdG rule p (T + 1) = c
  · rw [if_pos (decide_eq_true h), if_pos h]; rfl
  · rw [if_neg (by simpa using h), if_neg h]; rfl
theorem range_cut (T a b : Nat) (h : b ≤ T) : ((List.range T).filter fun d => decide (a ≤ d ∧ d < b)).length = b - a := by
  have : ∀ n, ((List.range n).filter fun d => decide (a ≤ d ∧ d < b)).length = min n b - a := by
    intro n
    induction n with
    | zero => simp
    | succ n ih =>
      rw [List.range_succ, List.filter_append, List.length_append, ih, List.filter_cons]
      by_cases hc : a ≤ n ∧ n < b
      · rw [if_pos (by simpa using hc)]
        simp only [List.filter_nil, List.length_cons, List.length_nil]
        omega
      · rw [if_neg (by simpa using hc)]
        simp only [List.filter_nil, List.length_nil]
        omega
  rw [this, Nat.min_eq_right h]
/-- the dots of c lie above what the others hold and up to what all of c hold -/
theorem dotsG_is {rule : List (List Int)} {p : Int} {c r : List Int} (hc : c ∈ chG (upto rule.length)) (hne : c ≠ []) (hr : ∀ x, x ∈ r ↔ (0 ≤ x ∧ x < rule.length) ∧ x ∉ c) : dotsG rule p (maxC rule p) c = minC (pickG rule c) p - maxC (pickG rule r) p := by
  have hb := fun x hx => upto_mem ((chG_mem _ _ (upto_len rule.length) c hc).2 x hx)
  have mem : ∀ x : Int, 0 ≤ x → x < rule.length → rule.getD x.toNat [] ∈ rule := fun x h0 h1 => by
    have hi : x.toNat < rule.length := by omega
    rw [List.getD_eq_getElem?_getD, List.getElem?_eq_getElem hi]
    exact List.getElem_mem hi
  have hle : minC (pickG rule c) p ≤ maxC rule p := by
    obtain ⟨x, hx⟩ := List.exists_mem_of_ne_nil c hne
    exact Nat.le_trans (minC_le (l := rule.getD x.toNat []) (List.mem_map.mpr ⟨x, hx, rfl⟩)) (le_maxC (mem x (hb x hx).1 (hb x hx).2))
  rw [← range_cut (maxC rule p) (maxC (pickG rule r) p) (minC (pickG rule c) p) hle]
  unfold dotsG
  congr 1
  refine List.filter_congr fun d _ => ?_
  congr 1
  refine propext ⟨fun h => ⟨?_, ?_⟩, fun ⟨h1, h2⟩ => ?_⟩
  · refine Nat.le_of_not_lt fun z => ?_
    obtain ⟨l, hl, hd⟩ := lt_maxC.mp z
    obtain ⟨x, hx, rfl⟩ := List.mem_map.mp hl
    obtain ⟨hxb, hxc⟩ := (hr x).mp hx
    exact hxc (h ▸ holdG_mem.mpr ⟨hxb, hd⟩)
  · refine le_minC (fun e => hne (List.map_eq_nil_iff.mp e)) fun l hl => ?_
    obtain ⟨x, hx, rfl⟩ := List.mem_map.mp hl
    rw [← h] at hx
    exact (holdG_mem.mp hx).2
  · refine rise_eq (holdG_rise ..) (chG_rise _ c hc) fun x => ?_
    rw [holdG_mem]
    constructor
    · rintro ⟨hx, hd⟩
      refine Classical.byContradiction fun hn => ?_
      have : d < maxC (pickG rule r) p := lt_maxC.mpr ⟨_, List.mem_map.mpr ⟨x, (hr x).mpr ⟨hx, hn⟩, rfl⟩, hd⟩
      omega
    · intro hx
      exact ⟨hb x hx, Nat.lt_of_lt_of_le h2 (minC_le (List.mem_map.mpr ⟨x, hx, rfl⟩))⟩
theorem one_sum {α : Type} [DecidableEq α] : ∀ (L : List α), L.Nodup → ∀ h : α, (L.map fun c => if h = c then 1 else 0).sum = if h ∈ L then 1 else 0
  | [], _, h => by simp
  | a :: L, hn, h => by
    have hn' := List.nodup_cons.mp hn
    rw [List.map_cons, List.sum_cons, one_sum L hn'.2 h]
    by_cases e : h = a
    · subst e
      rw [if_pos rfl, if_neg hn'.1, if_pos (by simp)]
    · rw [if_neg e]
      by_cases m : h ∈ L
      · rw [if_pos m, if_pos (List.mem_cons_of_mem _ m)]
      · rw [if_neg m, if_neg (by simp [e, m])]
def touch (s c : List Int) : Bool := c.any fun i => decide (i ∈ s)
theorem sum_addN {α : Type} (f g : α → Nat) : ∀ L : List α, (L.map fun c => f c + g c).sum = (L.map f).sum + (L.map g).sum
  | [] => rfl
  | a :: L => by
    rw [List.map_cons, List.sum_cons, sum_addN f g L, List.map_cons, List.sum_cons, List.map_cons, List.sum_cons]
    omega
theorem dots_touch (rule : List (List Int)) (p : Int) (s : List Int) (hs : ∀ x ∈ s, 0 ≤ x ∧ x < rule.length) : ∀ T, (((chG (upto rule.length)).filter (touch s)).map (dotsG rule p T)).sum = min T (maxC (pickG rule s) p)
  | 0 => by
    have : ∀ L : List (List Int), (L.map (dotsG rule p 0)).sum = 0 := fun L => by
      induction L with
      | nil => rfl
      | cons a L ih => rw [List.map_cons, List.sum_cons, ih]; rfl
    rw [this, Nat.zero_min]
  | T + 1 => by
    have e : ((chG (upto rule.length)).filter (touch s)).map (dotsG rule p (T + 1)) = ((chG (upto rule.length)).filter (touch s)).map fun c => dotsG rule p T c + if holdG rule p (T + 1) = c then 1 else 0 := List.map_congr_left fun c _ => dotsG_succ ..
    rw [e, sum_addN, dots_touch rule p s hs T, one_sum _ ((chG_nodup _).filter _)]
    have hi : holdG rule p (T + 1) ∈ (chG (upto rule.length)).filter (touch s) ↔ T < maxC (pickG rule s) p := by
      rw [List.mem_filter, lt_maxC]
      constructor
      · rintro ⟨_, ht⟩
        obtain ⟨x, hx, hxs⟩ := List.any_eq_true.mp ht
        exact ⟨_, List.mem_map.mpr ⟨x, of_decide_eq_true hxs, rfl⟩, (holdG_mem.mp hx).2⟩
      · rintro ⟨l, hl, hd⟩
        obtain ⟨x, hx, rfl⟩ := List.mem_map.mp hl
        exact ⟨holdG_in .., List.any_eq_true.mpr ⟨x, holdG_mem.mpr ⟨hs x hx, hd⟩, decide_eq_true hx⟩⟩
    by_cases h : T < maxC (pickG rule s) p
    · rw [if_pos (hi.mpr h)]
      omega
    · rw [if_neg fun z => h (hi.mp z)]
      omega
/-- the weight of a choice over the parts us -/
def wtG (rule : List (List Int)) (us c : List Int) : Int := (us.map fun p => p * (dotsG rule p (maxC rule p) c : Int)).sum
theorem wt_swap (rule : List (List Int)) (L : List (List Int)) : ∀ us : List Int, (L.map (wtG rule us)).sum = (us.map fun p => p * (((L.map (dotsG rule p (maxC rule p))).sum : Nat) : Int)).sum
  | [] => by
    have : ∀ L : List (List Int), (L.map (wtG rule [])).sum = 0 := fun L => by
      induction L with
      | nil => rfl
      | cons a L ih => rw [List.map_cons, List.sum_cons, ih]; rfl
    rw [this]; rfl
  | p :: us => by
    rw [List.map_cons (l := us), List.sum_cons, ← wt_swap rule L us]
    clear wt_swap
    induction L with
    | nil => simp
    | cons a L ih =>
      rw [List.map_cons, List.sum_cons, ih, List.map_cons, List.sum_cons, List.map_cons, List.sum_cons, show wtG rule (p :: us) a = p * (dotsG rule p (maxC rule p) a : Int) + wtG rule us a from rfl, Int.natCast_add, Int.mul_add]
      omega
theorem wt_sum {rule : List (List Int)} {us s : List Int} (hn : us.Nodup) (hm : ∀ x, x ∈ us ↔ x ∈ rule.flatten) (hs : ∀ x ∈ s, 0 ≤ x ∧ x < rule.length) : (((chG (upto rule.length)).filter (touch s)).map (wtG rule us)).sum = (joinX (pickG rule s)).sum := by
  have mem : ∀ x : Int, 0 ≤ x → x < rule.length → rule.getD x.toNat [] ∈ rule := fun x h0 h1 => by
    have hi : x.toNat < rule.length := by omega
    rw [List.getD_eq_getElem?_getD, List.getElem?_eq_getElem hi]
    exact List.getElem_mem hi
  have hle : ∀ p, maxC (pickG rule s) p ≤ maxC rule p := fun p => maxC_le fun l hl => by
    obtain ⟨x, hx, rfl⟩ := List.mem_map.mp hl
    exact le_maxC (mem x (hs x hx).1 (hs x hx).2)
  have hj := joinX_is (pickG rule s)
  rw [wt_swap, sum_by us hn (joinX (pickG rule s)) fun x hx => ?_]
  · congr 1
    refine List.map_congr_left fun p _ => ?_
    rw [dots_touch rule p s hs, hj.2, Nat.min_eq_right (hle p)]
  · refine (hm x).mpr (List.count_pos_iff.mp ?_)
    have h1 := List.count_pos_iff.mpr hx
    rw [hj.2] at h1
    have := hle x
    have := maxC_flat rule x
    omega
/-- the part counts only where the first of the choice's heaps has it -/
theorem wt_first {rule : List (List Int)} {us vs c r : List Int} (hn : us.Nodup) (hm : ∀ x, x ∈ us ↔ x ∈ rule.flatten) (hv : vs.Nodup) (hc : c ∈ chG (upto rule.length)) {i : Int} (hi : i ∈ c) (hvm : ∀ x, x ∈ vs ↔ x ∈ rule.getD i.toNat [])
    (hr : ∀ x, x ∈ r ↔ (0 ≤ x ∧ x < rule.length) ∧ x ∉ c) : wtG rule us c = (vs.map fun p => p * ((minC (pickG rule c) p - maxC (pickG rule r) p : Nat) : Int)).sum := by
  have hne : c ≠ [] := fun e => by rw [e] at hi; cases hi
  have hb := upto_mem ((chG_mem _ _ (upto_len rule.length) c hc).2 i hi)
  have e1 : wtG rule us c = (us.map fun p => p * ((minC (pickG rule c) p - maxC (pickG rule r) p : Nat) : Int)).sum := by
    unfold wtG
    congr 1
    exact List.map_congr_left fun p _ => by rw [dotsG_is hc hne hr]
  rw [e1]
  generalize hf : (fun p : Int => p * ((minC (pickG rule c) p - maxC (pickG rule r) p : Nat) : Int)) = f
  have f0 : ∀ p, p ∉ vs → f p = 0 := fun p hp => by
    rw [← hf]
    have h1 := minC_le (x := p) (l := rule.getD i.toNat []) (ls := pickG rule c) (List.mem_map.mpr ⟨i, hi, rfl⟩)
    rw [List.count_eq_zero_of_not_mem fun z => hp ((hvm p).mpr z)] at h1
    show p * ((minC (pickG rule c) p - maxC (pickG rule r) p : Nat) : Int) = 0
    rw [show minC (pickG rule c) p - maxC (pickG rule r) p = 0 by omega]
    simp
  have hi' : i.toNat < rule.length := by omega
  have hg : rule.getD i.toNat [] ∈ rule := by
    rw [List.getD_eq_getElem?_getD, List.getElem?_eq_getElem hi']
    exact List.getElem_mem hi'
  have hsub : ∀ x ∈ vs, x ∈ us := fun x hx => (hm x).mpr (List.mem_flatten.mpr ⟨_, hg, (hvm x).mp hx⟩)
  have e2 : ∀ L : List Int, (L.map f).sum = ((L.filter fun x => decide (x ∈ vs)).map f).sum := fun L => by
    induction L with
    | nil => rfl
    | cons a L ih =>
      rw [List.map_cons, List.sum_cons, ih, List.filter_cons]
      by_cases h : a ∈ vs
      · rw [if_pos (decide_eq_true h), List.map_cons, List.sum_cons]
      · rw [if_neg (by simpa using h), f0 a h, Int.zero_add]
  rw [e2 us]
  have hp : (us.filter fun x => decide (x ∈ vs)).Perm vs := (List.perm_ext_iff_of_nodup (hn.filter _) hv).mpr fun x => by
    rw [List.mem_filter, decide_eq_true_iff]
    exact ⟨fun h => h.2, fun h => ⟨hsub x h, h⟩⟩
  exact perm_sum (hp.map f)
/-! ### `in` within a comprehension of a comprehension -/
theorem op_in_seqK {X : Cx} (K0 : PySem.W.Frag) (h : X.K = K0) : OpR X (compareOp .In) (rIn K0 false) := by
  subst h
  exact op_in_seq
theorem op_notIn_seqK {X : Cx} (K0 : PySem.W.Frag) (h : X.K = K0) : OpR X (compareOp .NotIn) (rIn K0 true) := by
  subst h
  exact op_notIn_seq
def rAnyB (K : PySem.W.Frag) : List V → Hp → VK → Prop := fun xs H Q => ∃ (a : Addr) (bs : List Bool), xs = [.ref a] ∧ SqL K H a (bs.map V.bl) ∧ Q (.bl (bs.any id)) H
theorem call_any_boolsK {X : Cx} (K0 : PySem.W.Frag) (hc : X.calm = true) (h : X.K = K0) : CallR X (.builtin "any") (rAnyB K0) := CallR.kk K0 rAnyB (call_any_bools hc) h
end L2

set_option Elab.async false
set_option linter.all false
set_option maxRecDepth 100000
namespace L2
open PySem PySem.Spec PyProof.Rows PySem.W
/-! ### try: y = f(..) except S as n: suite -/
/-! ### lanes and levels as rows of ints; how many parts -/
end L2

set_option Elab.async false
set_option linter.all false
set_option maxRecDepth 100000
namespace L2
open PySem PySem.Spec PyProof.Rows PySem.W
/-! ### exceptions with attributes: read and set -/
section
variable {prog : Program} {w : World} {A : Around} {E : Value → Shared → Prop} {s : Shared} {K : Frag} {e dx C : Addr} {oe : Obj} {vs : Array Value} {mA : Str → Option Value} {name : Str} {v : Value}
end
/-! ### .. in the layer -/
section
variable {X : Cx} {pins : List (Addr × Obj)} {σ : St} {H : Hp} {s : Shared} {e C : Addr} {f : Str} {A : Around} {E : Value → Shared → Prop}
end
end L2

set_option Elab.async false
set_option linter.all false
set_option maxRecDepth 100000
namespace L2
open PySem PySem.Spec PyProof.Rows PySem.W
/-! ### C(..) of an own exception class that has an __init__ -/
section
variable {prog : Program} {w : World} {A : Around} {E : Value → Shared → Prop} {h : Heap} {g : Array GenState} {d : Drawn} {t : Nat} {os : OsState}
variable {nm q : Str} {C N : Addr} {bs bm bmB bmN : List Value} {hdct : Bool} {sn : List Str} {sub : List Value} {ab : Bool} {col : Option Bool} {dd : Option Addr} {k0 k1 k2 k3 k5 : Option Value} {B Bn newId nid initId inN : String}
end
/-! ### raise of an instance -/
section
variable {M : Model} {A : Around} {E : Value → Shared → Prop} {s : Shared} {env : Env} {nm q : Str} {C N : Addr} {bs bm : List Value} {hdct : Bool} {sn : List Str} {sub : List Value} {ab : Bool} {col : Option Bool} {dd : Option Addr} {k0 k1 k2 k3 k5 : Option Value} {newId : String}
end
end L2

set_option Elab.async false
set_option linter.all false
set_option maxRecDepth 100000
namespace L2
open PySem PySem.Spec PyProof.Rows PySem.W
/-! ### own exception classes with an __init__ of their own: raise, catch, read -/
/-! ### self.f = v in such an __init__, e.f of one that was caught -/
section
variable {X : Cx} {o e value : Expr} {f : Str} {pos pos' : Pos} {ta tv : TE}
end
/-! ### try: f(..) except S as n: suite, the exception with its dict -/
end L2

set_option Elab.async false
set_option linter.all false
set_option maxRecDepth 100000
namespace L2
open PySem PySem.Spec PyProof.Rows PySem.W
/-! ### two except clauses, the exception with its dict -/
end L2

set_option Elab.async false
set_option linter.all false
set_option maxRecDepth 100000
namespace L2
open PySem PySem.Spec PyProof.Rows PySem.W
/-! ### list(x) and sorted(x, reverse=b) within a comprehension -/
/-! ### lists within lists: == -/
end L2

set_option Elab.async false
set_option linter.all false
set_option maxRecDepth 100000
namespace L2
open PySem PySem.Spec PyProof.Rows PySem.W
/-! ### a further attribute of an exception that has its dict -/
section
variable {prog : Program} {w : World} {A : Around} {E : Value → Shared → Prop} {s : Shared} {K : Frag} {e dx C : Addr} {oe : Obj} {vs : Array Value} {mA : Str → Option Value} {name : Str} {v : Value}
end
section
variable {X : Cx} {pins : List (Addr × Obj)} {σ : St} {H : Hp} {s : Shared} {e dx C : Addr} {f : Str} {A : Around} {E : Value → Shared → Prop}
end
section
variable {X : Cx} {o e value : Expr} {f : Str} {pos pos' : Pos} {ta tv : TE}
end
end L2
namespace L2
open PySem PySem.Spec PyProof.Rows PySem.W
/-! ### C(..) in try, its __init__ may raise -/
section
variable {X : Cx} {k : Nat} {f C : Addr} {fd : FuncData} {ps : List Str} {sp : Sp} {dvs : List V} {ds : List Value} {x : Str} {p pos : Pos} {e : Expr} {es : List Expr} {t : TA} {cm : Bool}
end
end L2

set_option Elab.async false
set_option linter.all false
set_option maxRecDepth 100000
namespace L2
open PySem PySem.Spec PyProof.Rows PySem.W
/-! ### try: y = f(..); rest except S as n: suite, the exception with its dict -/
end L2

set_option Elab.async false
set_option linter.all false
set_option maxRecDepth 100000
namespace L2
open PySem PySem.Spec PyProof.Rows
/-! ### the walk -/
/-! ### the way back -/
end L2

set_option Elab.async false
set_option linter.all false
set_option maxRecDepth 100000
namespace L2
open PySem PySem.Spec PyProof.Rows
/-! ### the table of a set: its places rise -/
def Rise (xs : List Nat) : Prop := xs.Pairwise (· < ·)
theorem rise_at {xs : Array Nat} (h : Rise xs.toList) {i j : Nat} (hij : i < j) {a b : Nat} (ha : xs[i]? = some a) (hb : xs[j]? = some b) : a < b := by
  rw [← Array.getElem?_toList] at ha hb
  obtain ⟨h1, rfl⟩ := List.getElem?_eq_some_iff.mp ha
  obtain ⟨h2, rfl⟩ := List.getElem?_eq_some_iff.mp hb
  exact List.pairwise_iff_getElem.mp h i j h1 h2 hij
theorem below_go {xs : Array Nat} (h : Rise xs.toList) (j : Nat) : ∀ (f lo hi : Nat), hi - lo ≤ f → lo ≤ hi → hi ≤ xs.size → (∀ i a, i < lo → xs[i]? = some a → a < j) → (∀ i a, hi ≤ i → xs[i]? = some a → j ≤ a) →
    SetTable.below.go xs j f lo hi ≤ xs.size ∧ (∀ i a, i < SetTable.below.go xs j f lo hi → xs[i]? = some a → a < j) ∧ (∀ i a, SetTable.below.go xs j f lo hi ≤ i → xs[i]? = some a → j ≤ a)
  | 0, lo, hi, hf, hl, hs, h1, h2 => by
    unfold SetTable.below.go
    obtain rfl : lo = hi := by omega
    exact ⟨hs, h1, h2⟩
  | f + 1, lo, hi, hf, hl, hs, h1, h2 => by
    unfold SetTable.below.go
    by_cases hlt : lo < hi
    · rw [if_pos hlt]
      have hm : (lo + hi) / 2 < xs.size := by omega
      have hg : xs[(lo + hi) / 2]? = some xs[(lo + hi) / 2] := by simp [hm]
      have hgd : xs.getD ((lo + hi) / 2) j = xs[(lo + hi) / 2] := by simp [Array.getD, hm]
      dsimp only
      rw [hgd]
      by_cases hc : xs[(lo + hi) / 2] < j
      · rw [if_pos hc]
        refine below_go h j f _ _ (by omega) (by omega) hs (fun i a hi' ha => ?_) h2
        by_cases e : i = (lo + hi) / 2
        · subst e
          rw [hg] at ha
          cases ha
          exact hc
        · exact Nat.lt_trans (rise_at h (show i < (lo + hi) / 2 by omega) ha hg) hc
      · rw [if_neg hc]
        refine below_go h j f _ _ (by omega) (by omega) (by omega) h1 (fun i a hi' ha => ?_)
        by_cases e : i = (lo + hi) / 2
        · subst e
          rw [hg] at ha
          cases ha
          omega
        · have := rise_at h (show (lo + hi) / 2 < i by omega) hg ha
          omega
    · rw [if_neg hlt]
      obtain rfl : lo = hi := by omega
      exact ⟨hs, h1, h2⟩
theorem below_ok {xs : Array Nat} (h : Rise xs.toList) (j : Nat) : SetTable.below xs j ≤ xs.size ∧ (∀ i a, i < SetTable.below xs j → xs[i]? = some a → a < j) ∧ (∀ i a, SetTable.below xs j ≤ i → xs[i]? = some a → j ≤ a) := by
  unfold SetTable.below
  exact below_go h j _ _ _ (by omega) (Nat.zero_le _) (Nat.le_refl _) (fun i a hi => by omega) (fun i a hi ha => by
    have := (Array.getElem?_eq_some_iff.mp ha).1
    omega)
/-- the place of the i-th, and the next after it -/
theorem below_is {xs : Array Nat} (h : Rise xs.toList) {i j : Nat} (hl : ∀ k a, k < i → xs[k]? = some a → a < j) (hr : ∀ a, xs[i]? = some a → j ≤ a) (hi : i ≤ xs.size) : SetTable.below xs j = i := by
  obtain ⟨h1, h2, h3⟩ := below_ok h j
  rcases Nat.lt_trichotomy (SetTable.below xs j) i with hc | hc | hc
  · have hg : xs[SetTable.below xs j]? = some xs[SetTable.below xs j] := by simp [show SetTable.below xs j < xs.size by omega]
    have a := h3 _ _ (Nat.le_refl _) hg
    have b := hl _ _ hc hg
    omega
  · exact hc
  · have hg : xs[i]? = some xs[i] := by simp [show i < xs.size by omega]
    have a := h2 _ _ hc hg
    have b := hr _ hg
    omega
/-- what holds of each table -/
structure SI (b : Bool) (t : SetTable) : Prop where
  led : t.led = b
  dum : t.dummies = #[]
  rise : Rise t.place.toList
theorem si_standIn {b : Bool} {t : SetTable} (h : SI b t) (n : Nat) : SI b (t.standIn n) :=
  ⟨h.led, rfl, by
    show Rise (Array.range n).toList
    rw [Array.toList_range]
    exact List.pairwise_lt_range⟩
theorem si_orStandIn {b : Bool} {t : SetTable} (h : SI b t) (n : Nat) : SI b (t.orStandIn n) := by
  unfold SetTable.orStandIn
  split
  · exact h
  · exact si_standIn h n
theorem has_nil (j : Nat) : SetTable.has #[] j = false := by
  unfold SetTable.has
  simp
theorem slot_empty {b : Bool} {t : SetTable} (h : SI b t) (j : Nat) : t.slot j ≠ .dummy ∧ (t.slot j = .empty → t.place[SetTable.below t.place j]? ≠ some j) := by
  unfold SetTable.slot
  rw [h.dum, has_nil]
  dsimp only
  by_cases hc : (t.place[SetTable.below t.place j]? == some j) = true
  · rw [if_pos hc]
    exact ⟨fun z => (by cases z), fun z => (by cases z)⟩
  · rw [if_neg hc]
    simp only [Bool.false_eq_true, if_false]
    exact ⟨fun z => (by cases z), fun _ z => hc (by rw [z]; simp)⟩
theorem probe_go {b : Bool} {t : SetTable} (h : SI b t) (hashAt : Nat → Int) (hh : Int) : ∀ (f : Nat) (p : SetTable.Probe) (j : Nat) (d : Option Nat), p.dummy = none → SetTable.probe.go t hashAt hh f p = some (.empty j d) → d = none ∧ t.slot j = .empty
  | 0, p, j, d, hp, e => by
    unfold SetTable.probe.go at e
    cases e
  | f + 1, p, j, d, hp, e => by
    unfold SetTable.probe.go at e
    split at e
    · rename_i hs
      cases e
      exact ⟨hp, hs⟩
    · rename_i hs
      exact absurd hs (slot_empty h _).1
    · split at e
      · cases e
      · exact probe_go h hashAt hh f _ j d (by
          unfold SetTable.advance
          split <;> exact hp) e
theorem freeSlot_ok {b : Bool} {t : SetTable} (h : SI b t) {hh : Int} {j : Nat} {d : Bool} (e : t.freeSlot hh = some (j, d)) : t.slot j = .empty := by
  unfold SetTable.freeSlot at e
  split at e
  · rename_i jj dd hp
    obtain ⟨rfl, h2⟩ := probe_go h _ _ _ _ _ _ rfl (show SetTable.probe.go t _ hh _ _ = _ from hp)
    cases e
    exact h2
  · cases e
theorem si_put {b : Bool} {t : SetTable} (h : SI b t) {j : Nat} (hs : t.slot j = .empty) : SI b (t.put j).1 := by
  have hne := (slot_empty h j).2 hs
  obtain ⟨h1, h2, h3⟩ := below_ok h.rise j
  refine ⟨h.led, ?_, ?_⟩
  · show (if SetTable.has t.dummies j then _ else _) = _
    rw [h.dum, has_nil]
    rfl
  · show Rise (SetTable.insertAt t.place (SetTable.below t.place j) j).toList
    rw [SetTable.toList_insertAt]
    have hsp := h.rise
    rw [Rise, ← List.take_append_drop (SetTable.below t.place j) t.place.toList] at hsp
    obtain ⟨p1, p2, p3⟩ := List.pairwise_append.mp hsp
    have lo : ∀ a ∈ t.place.toList.take (SetTable.below t.place j), a < j := fun a ha => by
      obtain ⟨i, hi, rfl⟩ := List.mem_take_iff_getElem.mp ha
      exact h2 i _ (by omega) (by rw [← Array.getElem?_toList]; exact List.getElem?_eq_getElem _)
    have hi' : ∀ a ∈ t.place.toList.drop (SetTable.below t.place j), j < a := fun a ha => by
      obtain ⟨i, hi, rfl⟩ := List.mem_drop_iff_getElem.mp ha
      have hg : t.place[SetTable.below t.place j + i]? = some t.place.toList[SetTable.below t.place j + i] := by rw [← Array.getElem?_toList]; exact List.getElem?_eq_getElem _
      have a1 := h3 _ _ (Nat.le_add_right _ i) hg
      rcases Nat.lt_or_eq_of_le a1 with a2 | a2
      · exact a2
      · exfalso
        by_cases e0 : i = 0
        · subst e0
          apply hne
          exact hg.trans (by rw [← a2])
        · have hb : SetTable.below t.place j < t.place.size := by
            rw [Array.length_toList] at hi
            omega
          have hg0 : t.place[SetTable.below t.place j]? = some t.place[SetTable.below t.place j] := by simp [hb]
          have := rise_at h.rise (show SetTable.below t.place j < SetTable.below t.place j + i by omega) hg0 hg
          have := h3 _ _ (Nat.le_refl _) hg0
          omega
    exact List.pairwise_append.mpr ⟨p1, List.pairwise_cons.mpr ⟨hi', p2⟩, fun a ha c hc => by
      rcases List.mem_cons.mp hc with rfl | hc
      · exact lo a ha
      · exact p3 a ha c hc⟩
theorem si_layNew {b : Bool} {t : SetTable} (h : SI b t) (es : Array (Int × Value)) (hh : Int) (x : Value) : SI b (layNew t es hh x).2.1 := by
  unfold layNew
  split
  · rename_i j d hs
    exact si_orStandIn (si_put h (freeSlot_ok h hs)) _
  · exact si_standIn h _
theorem filterMap_rise {g : Nat → Option (Nat × Nat)} (hg : ∀ j p, g j = some p → p.1 = j) : ∀ (l : List Nat), l.Pairwise (· < ·) → ((l.filterMap g).map (·.1)).Pairwise (· < ·)
  | [], _ => by simp
  | x :: r, h => by
    have hx := List.pairwise_cons.mp h
    cases e : g x with
    | none => rw [List.filterMap_cons_none e]; exact filterMap_rise hg r hx.2
    | some p =>
      rw [List.filterMap_cons_some e, List.map_cons]
      refine List.pairwise_cons.mpr ⟨fun a ha => ?_, filterMap_rise hg r hx.2⟩
      obtain ⟨q, hq, rfl⟩ := List.mem_map.mp ha
      obtain ⟨y, hy, hgy⟩ := List.mem_filterMap.mp hq
      rw [hg _ _ e, hg _ _ hgy]
      exact hx.1 y hy
theorem si_relayAll {b : Bool} {t : SetTable} (h : SI b t) (es : Array (Int × Value)) (wanted : Nat) : SI b (relayAll t es wanted).2.1 := by
  unfold relayAll
  split
  · rename_i t' order e
    dsimp only
    split
    · unfold SetTable.relaid SetTable.laid at e
      cases ho : SetTable.layClean (SetTable.sizeAbove wanted - 1) (es.map (·.1)) with
      | none => rw [ho] at e; cases e
      | some owner =>
        rw [ho] at e
        cases e
        refine ⟨h.led, rfl, ?_⟩
        refine filterMap_rise (fun j p hp => ?_) _ List.pairwise_lt_range
        cases hq : owner.getD j none with
        | none => rw [hq] at hp; cases hp
        | some k => rw [hq] at hp; cases hp; rfl
    · exact si_standIn h _
  · exact si_standIn h _
/-! ### a set of ints with its table -/
section
variable {prog : Program} {w : World} {A : Around} {E : Value → Shared → Prop} {s : Shared}
/-- a set of ints whose members are the ns, its table led as b -/
def SetR (prog : Program) (w : World) (h : Heap) (a : Addr) (b : Bool) (S : Int → Bool) (n : Nat) : Prop :=
  ∃ o es ep t, h.get? a = some o ∧ o.ExactSet ∧ o.data = .set es ep t ∧ ElemsOf (intKind prog w) es.toList ∧ (∀ k, S k = true ↔ ∃ e ∈ es.toList, (intKind prog w).is k e.2 = true)
    ∧ es.size < scanBound ∧ t.fits es.size = true ∧ es.size = n ∧ SI b t
theorem SetR.at {h h' : Heap} {a : Addr} {b : Bool} {S : Int → Bool} {n : Nat} (r : SetR prog w h a b S n) (e : ∀ o, h.get? a = some o → h'.get? a = some o) : SetR prog w h' a b S n :=
  let ⟨o, es, ep, t, ho, rest⟩ := r; ⟨o, es, ep, t, e _ ho, rest⟩
theorem SetR.congr {h : Heap} {a : Addr} {b : Bool} {S S' : Int → Bool} {n n' : Nat} (r : SetR prog w h a b S n) (e : ∀ k, S k = S' k) (en : n = n') : SetR prog w h a b S' n' := by
  have : S = S' := funext e
  subst this; subst en; exact r
theorem setR_store {b : Bool} {h : Heap} {a : Addr} {o : Obj} {es : Array (Int × Value)} {ep : Nat} {t : SetTable} (ho : h.get? a = some o) (hex : o.ExactSet) (hd : o.data = .set es ep t)
    {es' : Array (Int × Value)} {t' : SetTable} {S' : Int → Bool} (hel : ElemsOf (intKind prog w) es'.toList) (hmem : ∀ k, S' k = true ↔ ∃ e ∈ es'.toList, (intKind prog w).is k e.2 = true) (hb : es'.size < scanBound) (hf : t'.fits es'.size = true) (hi : SI b t') :
    (h.update a (Obj.putSet es' t')).get? a = some { o with data := .set es' (ep + 1) t' } ∧ SetR prog w (h.update a (Obj.putSet es' t')) a b S' es'.size := by
  obtain ⟨hg, _⟩ := SetOf_store (knd := intKind prog w) ho hex hd hel hmem hb hf
  exact ⟨hg, _, es', ep + 1, t', hg, hex, rfl, hel, hmem, hb, hf, rfl, hi⟩
theorem addTailR {b : Bool} {g : Bool → Sem Unit} (hg : ∀ (b : Bool) (s₁ : Shared) (Q' : Unit → Shared → Prop), Q' () s₁ → wpAny (model prog w) A (g b) Q' E s₁)
    {a : Addr} {o : Obj} {es : Array (Int × Value)} {ep : Nat} {t : SetTable} (ho : s.heap.get? a = some o) (hex : o.ExactSet) (hd : o.data = .set es ep t)
    {es1 : Array (Int × Value)} {t2 : SetTable} {S' : Int → Bool} (hel1 : ElemsOf (intKind prog w) es1.toList) (hmem1 : ∀ k', S' k' = true ↔ ∃ e ∈ es1.toList, (intKind prog w).is k' e.2 = true)
    (hb1 : es1.size < scanBound) (hf2 : t2.fits es1.size = true) (hi2 : SI b t2) {wasDummy : Bool} {R : Option Bool → Shared → Prop}
    (h : ∀ h', Heap.SameBut a s.heap h' → SetR prog w h' a b S' es1.size → R (some true) { s with heap := h' }) :
    wpAny (model prog w) A (do
        storeSet a es1 t2
        if (!wasDummy && t2.tooFull) = true then do
            g (relayAll t2 es1 (SetTable.grown es1.size)).2.2
            storeSet a (relayAll t2 es1 (SetTable.grown es1.size)).1 (relayAll t2 es1 (SetTable.grown es1.size)).2.1
            pure (some true)
          else pure (some true)) R E s := by
  refine wpAny_bind (wpAny_storeSet_of ho hd ?_ (fits_of_scanBound hb1))
  obtain ⟨ho1, hS1⟩ := setR_store (prog := prog) (w := w) ho hex hd hel1 hmem1 hb1 hf2 hi2
  have hsb1 := Heap.SameBut.update s.heap a (Obj.putSet es1 t2)
  split
  · have hp := relayAll_perm t2 es1 (SetTable.grown es1.size)
    have hfr := relayAll_fits t2 es1 (SetTable.grown es1.size)
    have hir := si_relayAll hi2 es1 (SetTable.grown es1.size)
    generalize hRl : relayAll t2 es1 (SetTable.grown es1.size) = Rl at hp hfr hir ⊢
    obtain ⟨es2, t3, gave2⟩ := Rl
    dsimp only at hp hfr hir ⊢
    have hel2 := hel1.perm hp
    have hmem2 : ∀ k', S' k' = true ↔ ∃ e ∈ es2.toList, (intKind prog w).is k' e.2 = true := fun k' => (hmem1 k').trans ⟨fun ⟨e, he, q⟩ => ⟨e, hp.mem_iff.mpr he, q⟩, fun ⟨e, he, q⟩ => ⟨e, hp.mem_iff.mp he, q⟩⟩
    have hsz : es2.size = es1.size := by rw [← Array.length_toList, hp.length_eq, Array.length_toList]
    have hb2 : es2.size < scanBound := by rw [hsz]; exact hb1
    refine wpAny_bind (hg _ _ _ ?_)
    refine wpAny_bind (wpAny_storeSet_of ho1 rfl ?_ (fits_of_scanBound hb2))
    obtain ⟨_, hS2⟩ := setR_store (prog := prog) (w := w) ho1 hex rfl hel2 hmem2 hb2 hfr hir
    rw [hsz] at hS2
    exact wpAny_pure (h _ (hsb1.trans (Heap.SameBut.update _ a _)) hS2)
  · exact wpAny_pure (h _ hsb1 hS1)
theorem SI.off {b : Bool} {t : SetTable} (h : SI b t) : SI b { t with plain := false } := ⟨h.led, h.dum, h.rise⟩
theorem addR {b : Bool} {a : Addr} {S : Int → Bool} {n : Nat} {k : Int} {x : Value} {Q : Bool → Shared → Prop} (hkey : (intKind prog w).is k x = true) (hsc : x.scannable = true) (hS : SetR prog w s.heap a b S n)
    (hroom : n + 1 < scanBound)
    (h : ∀ h', Heap.SameBut a s.heap h' → SetR prog w h' a b (fun k' => S k' || decide (k' = k)) (if S k then n else n + 1) → Q (!S k) { s with heap := h' }) :
    wpAny (model prog w) A (setAddHashed a x ((intKind prog w).hash k)) Q E s := by
  obtain ⟨o, es, ep, t, ho, hex, hd, hel, hmem, hb, hf, hn, hi⟩ := hS
  have hb1 : es.size + 1 < scanBound := by rw [hn]; exact hroom
  unfold setAddHashed setAddHashedIn
  refine wpAny_holding (wpAny_bind (wpAny_setState_of ho hd hf ?_))
  dsimp only
  rw [byScan_of hsc hb hel]
  simp only [↓reduceIte]
  unfold setAddByScan
  refine wpAny_bind ?_
  refine wpAny_bind (wpAny_rule ?_)
  refine wpAny_bind (wpAny_setScan_of hkey ho hd hf hel ?_)
  cases hr : List.findIdx? (fun e => (intKind prog w).is k e.2) es.toList with
  | some j =>
    dsimp only
    obtain ⟨hj, hpj, _⟩ := List.findIdx?_eq_some_iff_getElem.mp hr
    have hSk : S k = true := (hmem k).mpr ⟨es.toList[j], List.getElem_mem hj, hpj⟩
    refine wpAny_pure (wpAny_pure ?_)
    have e : s = { s with heap := s.heap } := by cases s; rfl
    have := h s.heap (Heap.SameBut.refl a s.heap) ⟨o, es, ep, t, ho, hex, hd, hel, fun k' => by
      rw [Bool.or_eq_true, decide_eq_true_eq, ← hmem k']
      exact ⟨fun hk => hk.elim id (fun e => e ▸ hSk), .inl⟩, hb, hf, by rw [hSk]; exact hn, hi⟩
    rw [hSk] at this; rw [e]; exact this
  | none =>
    dsimp only
    have hSk : S k = false := by
      cases hk : S k with
      | false => rfl
      | true => obtain ⟨e, he, hp⟩ := (hmem k).mp hk; have := List.findIdx?_eq_none_iff.mp hr e he; rw [hp] at this; exact Bool.noConfusion this
    have hgw : ∀ (b : Bool) {s₁ : Shared} {Q' : Unit → Shared → Prop}, Q' () s₁ → wpAny (model prog w) A (match b with | true => rule "set.scan.the-table-gave-way" | false => pure ()) Q' E s₁ :=
      fun b s₁ Q' hq => by cases b <;> first | exact wpAny_pure hq | exact wpAny_rule hq
    have hperm := layNew_perm t es ((intKind prog w).hash k) x
    have hfits := layNew_fits t es ((intKind prog w).hash k) x
    have hsi := si_layNew hi es ((intKind prog w).hash k) x
    generalize hL : layNew t es ((intKind prog w).hash k) x = L at hperm hfits hsi ⊢
    obtain ⟨es1, t1, wasDummy, gave⟩ := L
    dsimp only at hperm hfits hsi ⊢
    rw [Array.toList_push] at hperm
    have hel1 := (hel.push hkey hsc).perm hperm
    have hmem1 : ∀ k', (S k' || decide (k' = k)) = true ↔ ∃ e ∈ es1.toList, (intKind prog w).is k' e.2 = true := mem_push_iff hkey hmem hperm
    have hb1' : es1.size < scanBound := by rw [← Array.length_toList, hperm.length_eq, List.length_append, Array.length_toList]; simpa using hb1
    refine wpAny_bind (hgw _ ?_)
    have hsz1 : es1.size = n + 1 := by rw [← Array.length_toList, hperm.length_eq, List.length_append, Array.length_toList, hn]; rfl
    have hend : ∀ h', Heap.SameBut a s.heap h' → SetR prog w h' a b (fun k' => S k' || decide (k' = k)) es1.size → Q true { s with heap := h' } := by
      intro h' hsb hS'; have := h h' hsb; rw [hSk] at this; rw [hsz1] at hS'; exact this hS'
    split
    · refine wpAny_bind ?_
      rw [hashByValue_scannable 8 hsc]
      refine wpAny_pure ?_
      refine addTailR (b := b) ?_ ho hex hd hel1 hmem1 hb1' ?_ ?_ ?_
      · intro b s₁ Q' hq; cases b <;> first | exact wpAny_pure hq | exact wpAny_rule hq
      · split
        · exact hfits
        · exact SetTable.fits_plain_off hfits
      · split
        · exact hsi
        · exact hsi.off
      · intro h' hsb hS'; dsimp only; exact wpAny_pure (hend h' hsb hS')
    · refine wpAny_bind (wpAny_pure ?_)
      simp only [↓reduceIte]
      refine addTailR (b := b) ?_ ho hex hd hel1 hmem1 hb1' hfits hsi ?_
      · intro b s₁ Q' hq; cases b <;> first | exact wpAny_pure hq | exact wpAny_rule hq
      · intro h' hsb hS'; dsimp only; exact wpAny_pure (hend h' hsb hS')
end
section
variable {prog : Program} {w : World} {A : Around} {R : Result → Shared → Prop} {I : Addr} {fp wr : List Addr} {G : Array GenState → Array GenState → Prop} {n : Nat} {P : Nat → Value → Prop} {St : Nat → Shared → Prop}
theorem updateR {b : Bool} (W : WalksS prog w A.in1 I fp wr G n P St) (S : Addr) (hSf : S ∉ fp)
    (val : Nat → Int) (hval : ∀ i v, P i v → ∃ t, v = .int (val i) t) (hb : n + 1 < scanBound) :
    ∀ (k i : Nat) (s : Shared), n - i = k → i ≤ n → St i s →
      SetR prog w s.heap S b (fun k' => (firstMet val i).any (· == k')) (firstMet val i).length →
      (∀ s', Moved (S :: wr) G s s' → SetR prog w s'.heap S b (fun k' => (firstMet val n).any (· == k')) (firstMet val n).length → R (.ok (.ret .none)) s') →
      codeAny (model prog w) A (.builtin "set.update.loop" ⟨[.ref S, .ref I], []⟩) R s := by
  have hSw : S ∉ wr := fun h => hSf (W.sub _ h)
  have hsub : ∀ b ∈ wr, b ∈ S :: wr := fun b hb => List.mem_cons_of_mem _ hb
  intro k
  induction k with
  | zero =>
    intro i s hk hi hst hS hR
    have hin : i = n := by omega
    subst hin
    refine codeAny_builtin F.entry_set_update_loop ?_
    rw [Around.under_plainId F.plain_set_update_loop _]
    show wpAny _ A.in1 (pyNext (.ref I) >>= _) _ _ s
    refine wpAny_bind (W.done s _ _ hst fun s' hm => ?_)
    show wpAny _ A.in1 (ret Value.none) _ _ s'
    exact wpAny_pure (hR s' (hm.mono hsub) (hS.at fun o e => hm.heap S _ hSw e))
  | succ k ih =>
    intro i s hk hi hst hS hR
    have hlt : i < n := by omega
    refine codeAny_builtin F.entry_set_update_loop ?_
    rw [Around.under_plainId F.plain_set_update_loop _]
    show wpAny _ A.in1 (pyNext (.ref I) >>= _) _ _ s
    refine wpAny_bind (W.item i s _ _ hlt hst fun v s' hP hst' hm => ?_)
    obtain ⟨t, rfl⟩ := hval i v hP
    have hS' : SetR prog w s'.heap S b (fun k' => (firstMet val i).any (· == k')) (firstMet val i).length := hS.at fun o e => hm.heap S _ hSw e
    show wpAny _ A.in1 (holding [Value.int (val i) t] (setAdd S (.int (val i) t)) >>= _) _ _ s'
    refine wpAny_bind (wpAny_holding ?_)
    unfold setAdd
    refine wpAny_holding ?_
    refine wpAny_bind ((intKind prog w).pyHash (k := val i) (intKind_is _ _ _ _) ?_)
    have hroom : (firstMet val i).length + 1 < scanBound := by have := firstMet_length_le val i; omega
    refine addR (s := { s' with toks := s'.toks + 1 }) (intKind_is _ _ _ _) rfl hS' hroom fun h' hsb hS2 => ?_
    have hSi : SetR prog w h' S b (fun k' => (firstMet val (i + 1)).any (· == k')) (firstMet val (i + 1)).length :=
      hS2.congr (fun k' => by rw [firstMet_succ, step_any]) (by rw [firstMet_succ, step_length])
    refine wpAny_pure ⟨plainId_quiet F.plain_set_update_loop _, ih (i + 1) _ (by omega) hlt (W.frame _ s' _ _ hst' (Nat.le_succ _) fun b hb o e => ?_) hSi fun s'' hm'' hS'' => ?_⟩
    · rw [hsb.2 b (fun h : b = S => hSf (by rw [← h]; exact hb))]; exact e
    · refine hR s'' (Moved.trans W.gtrans ((hm.mono hsub).then_heap (Nat.le_succ _) fun b o hb e => ?_) hm'') hS''
      rw [hsb.2 b (fun h : b = S => hb (by rw [h]; exact List.mem_cons_self))]; exact e
end
section
variable {prog : Program} {w : World} {A : Around} {E : Value → Shared → Prop} {s : Shared}
/-- do the sets of this world go by the text -/
def byT (w : World) : Bool := w.params.followText "set-order"
theorem set_newR (a : Value) {Q₁ : Value → Shared → Prop}
    (h : Q₁ (.ref s.heap.objs.size) { s with heap := s.heap.push (freshSet (!byT w)) }) :
    codeAny (model prog w) A (.call (.builtin "set.__new__") ⟨[.type "set", a], []⟩) (wants Q₁ E) s := by
  refine codeAny_of_tree ?_
  show wpAny _ A.in1 (do checkBuiltinCall "set.__new__" ⟨[.type "set", a], []⟩; again (.builtin "set.__new__" ⟨[.type "set", a], []⟩)) _ _ s
  refine wpAny_bind (wpAny_of_eq (F.newCall_set_1 a) (wpAny_pure ⟨plainId_quiet F.plain_set_new _, codeAny_builtin F.entry_set_new ?_⟩))
  rw [Around.under_plainId F.plain_set_new _]
  unfold Builtin.«set.__new__» Builtin.Frozenset.newClass
  have hsub := sub_set_self
  obtain ⟨hp, g, d, tk, os⟩ := s
  dsimp only
  wp_walk
  refine wpAny_askSetting (wpAny_pure ?_)
  dsimp only
  simp only [newObj]
  refine wpAny_bind (wpAny_alloc (wpAny_pure ?_))
  exact wpAny_pure h
end
set_option maxHeartbeats 3200000 in
theorem set_of_tupR {prog : Program} {w : World} {A : Around} {E : Value → Shared → Prop} {s : Shared} {a : Addr} {vs : Array Value} {zs : List Int} {R : Value → Shared → Prop} (calm : A.handled = none) (tup : s.heap.IsTuple a vs) (int : IntsAre vs.toList zs) (room : vs.size + 1 < scanBound)
    (fin : ∀ (h' : Heap) (tk : Nat), SetR prog w h' s.heap.objs.size (!byT w) (fun k => (firstMet (fun i => zs.getD i 0) vs.size).any (· == k)) (firstMet (fun i => zs.getD i 0) vs.size).length → (∀ b o, b < s.heap.objs.size → s.heap.get? b = some o → h'.get? b = some o) → R (.ref s.heap.objs.size) { s with heap := h', toks := tk }) :
    wpAny (model prog w) A (call (.type "set") [.ref a]) R E s := by
  obtain ⟨cc, ctl, cmro⟩ := PySem.F.called_set.mro
  have cmade := PySem.F.called_set.made
  have csub := PySem.F.called_set.sub
  refine wpAny_call (codeAny_of_tree ?_); show wpAny _ _ (callAny (.type "set") _) _ _ _
  refine wpAny_pure ⟨Code.quiet_builtin _ (by decide +kernel), codeAny_builtin PySem.F.entry_type_call ?_⟩; rw [Around.under_plain (weight_type_call_type "set" [.ref a] []) rfl]
  have n1 := PySem.F.called_set.notType
  have n2 := PySem.F.called_set.canCreate
  have n3 := PySem.F.typeCall_set_1 (.ref a)
  repeat (any_goals (first | assumption | wp_step))
  refine codeAny_mono (set_newR (w := w) (.ref a) (E := E) (Q₁ := fun ob s1 => ob = .ref s.heap.objs.size ∧ s1 = { s with heap := s.heap.push (freshSet (!byT w)) }) ⟨rfl, rfl⟩) fun r s1 hr => ?_
  cases r with
  | error e => exact hr
  | ok fl =>
    cases fl with
    | ret ob =>
      obtain ⟨rfl, rfl⟩ := hr
      have gS : (s.heap.push (freshSet (!byT w))).get? s.heap.objs.size = some (freshSet (!byT w)) := Heap.get?_push_size _ rfl
      have tS : Shared.TypeIs { s with heap := s.heap.push (freshSet (!byT w)) } (.ref s.heap.objs.size) "set" := ⟨_, gS, rfl⟩
      have i1 := PySem.F.called_set.init.lookup
      have i2 := PySem.F.called_set.init.bind (.ref s.heap.objs.size)
      repeat (any_goals (first | assumption | wp_step))
      refine codeAny_mono (codeAny_call_builtin (R := wants (fun r s2 => r = .none ∧ ∃ h' tk, s2 = { s with heap := h', toks := tk } ∧ SetR prog w h' s.heap.objs.size (!byT w) (fun k => (firstMet (fun i => zs.getD i 0) vs.size).any (· == k)) (firstMet (fun i => zs.getD i 0) vs.size).length ∧ (∀ b o, b < s.heap.objs.size → s.heap.get? b = some o → h'.get? b = some o)) E) PySem.F.called_set.init.plain PySem.F.entry_set_init (check_set_init_1 tS ?_)) fun r2 s2 hr2 => ?_
      · obtain ⟨ot, got, ct, nt, dt⟩ := tup
        obtain ⟨oc, od, oda, osl⟩ := ot
        simp only at ct dt
        subst ct; subst dt
        have got' : (s.heap.push (freshSet (!byT w))).get? a = some { cls := .type "tuple", dict := od, data := .seq vs nt, slots := osl } := Heap.get?_push_of_some _ got
        have t1 := tup_no_set
        have t2 := tup_no_frozen
        have t3 : (Value.type "tuple" == Value.type "dict") = false := by decide
        have tp1 : (s.heap.push (freshSet (!byT w))).IsTuple a vs := ⟨_, got', rfl, nt, rfl⟩
        unfold Builtin.«set.__init__» noKeywords Builtin.Frozenset.updateFrom
        generalize ePI : pyIter = PI
        wp_walk
        subst ePI
        refine wpAny_pyIter_tuple tp1 ?_
        refine wpAny_bind (wpAny_runValue ?_)
        have lt : a < s.heap.objs.size := Heap.lt_size got
        have calm3 : A.in1.in1.in1.handled = none := by simp [calm]
        have ne1 : a ≠ (s.heap.push (freshSet (!byT w))).objs.size := by rw [Heap.size_push]; exact Nat.ne_of_lt (Nat.lt_succ_of_lt lt)
        have out : s.heap.objs.size ∉ [(s.heap.push (freshSet (!byT w))).objs.size, a] := by
          rw [Heap.size_push]
          simp only [List.mem_cons, List.not_mem_nil, or_false, not_or]
          exact And.intro (Nat.ne_of_lt (Nat.lt_succ_self _)) (Nat.ne_of_gt lt)
        have vals : ∀ (i : Nat) (v : Value), vs[i]? = some v → ∃ t, v = .int ((fun i => zs.getD i 0) i) t := fun i v hv => IntsAre.int_at int i v (by rw [Array.getElem?_toList]; exact hv)
        refine updateR (b := !byT w) ((Walks.tuple calm3 _ a ne1 vs).toS) s.heap.objs.size out (fun i => zs.getD i 0) vals room (vs.size - 0) 0 _ (by omega) (Nat.zero_le _) ⟨⟨_, Heap.get?_push_size _ rfl, rfl, rfl⟩, (tp1.push _)⟩ ?S0 ?SR
        case S0 =>
          have g2 := Heap.get?_push_of_some { cls := .type "tuple_iterator", data := .fields #[.ref a, .int 0 0] } gS
          exact ⟨_, #[], 0, _, g2, ⟨rfl, rfl, rfl⟩, rfl, fun e he => (by simp at he), fun k => (by simp [firstMet]), (by unfold scanBound; simp), rfl, rfl, rfl, rfl, List.Pairwise.nil⟩
        case SR =>
          intro s' mv hS'
          obtain ⟨h', g', d', tk', os'⟩ := s'
          obtain rfl : g' = s.gens := mv.gens
          obtain rfl : d' = s.drawn := mv.drawn
          obtain rfl : os' = s.os := mv.os
          show wpAny _ _ _ _ _ _
          refine wpAny_pure ?_
          show wpAny _ _ (ret Value.none) _ _ _
          refine wpAny_pure ⟨rfl, h', tk', rfl, hS', fun b o hb e => ?_⟩
          refine mv.heap b o ?_ (Heap.get?_push_of_some _ (Heap.get?_push_of_some _ e))
          rw [Heap.size_push]
          simp only [List.mem_cons, List.not_mem_nil, or_false, not_or]
          exact And.intro (Nat.ne_of_lt hb) (Nat.ne_of_lt (Nat.lt_succ_of_lt hb))
      · cases r2 with
        | error e => exact hr2
        | ok f2 =>
          cases f2 with
          | ret r =>
            obtain ⟨rfl, h', tk, rfl, hS', hk'⟩ := hr2
            repeat (any_goals (first | assumption | wp_step))
            exact fin _ _ hS' hk'
          | _ => exact hr2
    | _ => exact hr
end L2

set_option Elab.async false
set_option linter.all false
set_option maxRecDepth 100000
namespace L2
open PySem PySem.Spec PyProof.Rows
theorem owner_si : Manifest.owners.lookup (String.ofList ['r', 'o', 't', 'a', 'r', 'e', 't', 'i', '_', 't', 'e', 's'].reverse) = some Manifest.sig_set_iterator := by kernel_rfl
theorem slot_si_next : Slot "set_iterator" "__next__" "set_iterator.__next__" :=
  .of (owner := "set_iterator") (n := "__next__") (by rw [typeLookup_type, builtinLookup_eq_fast]; kernel_rfl) (by decide +kernel) (by decide +kernel) (by decide +kernel)
    (by first | exact .inl (by decide +kernel) | exact .inr (by decide +kernel)) (by rw [isSubtype_type]; kernel_rfl)
theorem entry_si_next : entryFor table "set_iterator.__next__" = some Builtin.«set_iterator.__next__» := entryFor_of_tree (by kernel_rfl)
theorem args_si_next (a : Value) : argsOk "set_iterator.__next__" ⟨[a], []⟩ := by
  unfold argsOk; rw [signature?_of (id := "set_iterator.__next__") (n := ['_', '_', 't', 'x', 'e', 'n', '_', '_']) (o := ['r', 'o', 't', 'a', 'r', 'e', 't', 'i', '_', 't', 'e', 's']) (by kernel_rfl) owner_si]; kernel_rfl
theorem slot_si_iter : Slot "set_iterator" "__iter__" "set_iterator.__iter__" :=
  .of (owner := "set_iterator") (n := "__iter__") (by rw [typeLookup_type, builtinLookup_eq_fast]; kernel_rfl) (by decide +kernel) (by decide +kernel) (by decide +kernel)
    (by first | exact .inl (by decide +kernel) | exact .inr (by decide +kernel)) (by rw [isSubtype_type]; kernel_rfl)
theorem args_si_iter (a : Value) : argsOk "set_iterator.__iter__" ⟨[a], []⟩ := by
  unfold argsOk; rw [signature?_of (id := "set_iterator.__iter__") (n := ['_', '_', 'r', 'e', 't', 'i', '_', '_']) (o := ['r', 'o', 't', 'a', 'r', 'e', 't', 'i', '_', 't', 'e', 's']) (by kernel_rfl) owner_si]; kernel_rfl
theorem entry_si_iter : entryFor table "set_iterator.__iter__" = some Builtin.«dict_keyiterator.__iter__» :=
  entryFor_alias (id' := "dict_keyiterator.__iter__") (by kernel_rfl) (by first | rfl | decide +kernel | (unfold String.splitOn; simp +decide [String.splitOnAux])) (by decide +kernel) (by kernel_rfl)
theorem entry_set_iter : entryFor table "set.__iter__" = some Builtin.«frozenset.__iter__» :=
  entryFor_alias (id' := "frozenset.__iter__") (by kernel_rfl) (by first | rfl | decide +kernel | (unfold String.splitOn; simp +decide [String.splitOnAux])) (by decide +kernel) (by kernel_rfl)
/-! ### orders -/
theorem erase_perm {α : Type} : ∀ {l : List α} {i : Nat} (h : i < l.length), (l[i] :: l.eraseIdx i).Perm l
  | x :: r, 0, _ => .refl _
  | x :: r, i + 1, h => by
    simp only [List.getElem_cons_succ, List.eraseIdx_cons_succ]
    exact (List.Perm.swap _ _ _).trans ((erase_perm (l := r) (i := i) (by simpa using h)).cons x)
theorem pickOrder_go {α : Type} (next : Nat → Nat) : ∀ (f k : Nat) (left : List α) (out : Array α), left.length = f → (pickOrder.go next f k left out).toList.Perm (out.toList ++ left)
  | 0, k, left, out, h => by
    unfold pickOrder.go
    rw [List.eq_nil_of_length_eq_zero h, List.append_nil]
  | f + 1, k, left, out, h => by
    unfold pickOrder.go
    have hlt : next k % left.length < left.length := Nat.mod_lt _ (by omega)
    rw [List.getElem?_eq_getElem hlt]
    dsimp only
    refine (pickOrder_go next f (k + 1) _ _ (by rw [List.length_eraseIdx_of_lt hlt]; omega)).trans ?_
    rw [Array.toList_push, List.append_assoc]
    exact List.Perm.append_left _ (erase_perm hlt)
theorem pickOrder_perm {α : Type} (next : Nat → Nat) (xs : Array α) : (pickOrder next xs).toList.Perm xs.toList := by
  unfold pickOrder
  simpa using pickOrder_go next xs.size 0 xs.toList #[] (by simp)
section
variable {prog : Program} {w : World} {A : Around} {E : Value → Shared → Prop}
theorem drawOrder_ok {α : Type} : ∀ (n : Nat) (xs : List α) (s : Shared) (Q : List α → Shared → Prop), xs.length = n → (∀ ys d', ys.Perm xs → Q ys { s with drawn := d' }) → wpAny (model prog w) A (drawOrder n xs) Q E s
  | 0, xs, s, Q, hn, h => by
    unfold drawOrder
    refine wpAny_pure ?_
    rw [List.eq_nil_of_length_eq_zero hn] at h
    exact h [] s.drawn (.refl _)
  | n + 1, [], s, Q, hn, h => by simp at hn
  | n + 1, x :: r, s, Q, hn, h => by
    unfold drawOrder
    refine wpAny_bind ?_
    intro Γ p hΓ
    refine ⟨by simp, ?_⟩
    generalize hi : (model prog w).w.draws .order (s.drawn.get .order) % (x :: r).length = i
    have hlt : i < (x :: r).length := by rw [← hi]; exact Nat.mod_lt _ (by simp)
    show wpAny _ A _ _ _ _
    rw [List.getElem?_eq_getElem hlt]
    refine wpAny_bind (drawOrder_ok n _ _ _ (by rw [List.length_eraseIdx_of_lt hlt, hn]; rfl) fun ys d' hp => ?_)
    exact wpAny_pure (h _ _ ((hp.cons _).trans (erase_perm hlt)))
end
/-! ### the iterator of a set -/
def IsSI (h : Heap) (J S : Addr) (first : Value) (i n ep : Nat) : Prop := ∃ o, h.get? J = some o ∧ o.cls = .type "set_iterator" ∧ o.data = .fields #[first, .int i 0, .ref S, .int n 0, .int ep 0]
def SetAt (h : Heap) (S : Addr) (es : Array (Int × Value)) (ep : Nat) (t : SetTable) : Prop := ∃ o, h.get? S = some o ∧ o.cls = .type "set" ∧ o.data = .set es ep t
theorem IsSI.at {h h' : Heap} {J S : Addr} {first : Value} {i n ep : Nat} (x : IsSI h J S first i n ep) (e : ∀ o, h.get? J = some o → h'.get? J = some o) : IsSI h' J S first i n ep := let ⟨o, ho, r⟩ := x; ⟨o, e _ ho, r⟩
theorem SetAt.at {h h' : Heap} {S : Addr} {es : Array (Int × Value)} {ep : Nat} {t : SetTable} (x : SetAt h S es ep t) (e : ∀ o, h.get? S = some o → h'.get? S = some o) : SetAt h' S es ep t := let ⟨o, ho, r⟩ := x; ⟨o, e _ ho, r⟩
section
variable {prog : Program} {w : World} {A : Around} {E : Value → Shared → Prop} {s : Shared} {J S : Addr} {es : Array (Int × Value)} {ep : Nat} {t : SetTable}
theorem IsSI.type {first : Value} {i n : Nat} (x : IsSI s.heap J S first i n ep) : s.TypeIs (.ref J) "set_iterator" := let ⟨o, ho, hc, _⟩ := x; ⟨o, ho, hc⟩
theorem setNext_text (hS : SetAt s.heap S es ep t) (hf : t.fits es.size = true) (hb : byT w = true) (slot i : Nat) {Q : Option (Value × Nat) → Shared → Prop}
    (h : Q (((pickOrder (w.params.setOrder S ep) es)[i]?).map fun e => (e.2, slot)) s) : wpAny (model prog w) A (setNext S slot i ep) Q E s := by
  obtain ⟨o, ho, hc, hd⟩ := hS
  have hb' : (⟨prog, w.params⟩ : Setting).params.followText "set-order" = true := hb
  unfold setNext setsByText
  refine wpAny_bind (wpAny_setState_of ho hd hf ?_)
  refine wpAny_bind (wpAny_bind (wpAny_askSetting (wpAny_pure ?_)))
  show wpAny _ _ (if byT w = true then _ else _) _ _ _
  rw [if_pos hb]
  show wpAny _ _ (if (ep != ep) = true then _ else _) _ _ _
  rw [if_neg (by simp)]
  unfold setWalk setsByText
  refine wpAny_bind ?_
  refine wpAny_bind (wpAny_setState_of ho hd hf ?_)
  refine wpAny_bind (wpAny_bind (wpAny_askSetting (wpAny_pure ?_)))
  show wpAny _ _ (if byT w = true then _ else _) _ _ _
  rw [if_pos hb]
  refine wpAny_bind (wpAny_askSetting (wpAny_pure ?_))
  exact wpAny_pure h
theorem setNext_place (hS : SetAt s.heap S es ep t) (hf : t.fits es.size = true) (hb : byT w = false) (hl : t.led = true) (hd' : (!t.plain && decide (es.size > 1)) = false) (slot i : Nat) {Q : Option (Value × Nat) → Shared → Prop}
    (h : Q (match es[SetTable.below t.place slot]?, t.place[SetTable.below t.place slot]? with | some (_, x), some j => some (x, j + 1) | _, _ => none) s) : wpAny (model prog w) A (setNext S slot i ep) Q E s := by
  obtain ⟨o, ho, hc, hd⟩ := hS
  unfold setNext setsByText
  refine wpAny_bind (wpAny_setState_of ho hd hf ?_)
  refine wpAny_bind (wpAny_bind (wpAny_askSetting (wpAny_pure ?_)))
  show wpAny _ _ (if byT w = true then _ else _) _ _ _
  rw [if_neg (by rw [hb]; decide)]
  refine wpAny_ite_split (fun hab => absurd (show (!t.plain && decide (es.size > 1)) = true from hab) (by rw [hd']; decide)) (fun _ => ?_)
  refine wpAny_bind ?_
  show wpAny _ _ (if (!t.led && !es.isEmpty) = true then _ else _) _ _ _
  rw [if_neg (by rw [hl]; simp)]
  exact wpAny_pure (wpAny_pure h)
theorem si_next_int {slot nx i n : Nat} {x : Value} {Q : Option Value → Shared → Prop} (hit : IsSI s.heap J S (.int slot 0) i n ep) (hS : SetAt s.heap S es ep t) (hf : t.fits es.size = true) (hn : es.size = n)
    (hx : ∀ (A : Around) (E : Value → Shared → Prop) (Q' : Option (Value × Nat) → Shared → Prop), Q' (some (x, nx)) s → wpAny (model prog w) A (setNext S slot i ep) Q' E s)
    (hQ : ∀ h', IsSI h' J S (.int nx 0) (i + 1) n ep → Heap.SameBut J s.heap h' → Q (some x) { s with heap := h' }) : wpAny (model prog w) A (pyNext (.ref J)) Q E s := by
  have hty := hit.type
  obtain ⟨o, ho, hc, hd⟩ := hit
  obtain ⟨ol, hol, _, hdl⟩ := hS
  unfold pyNext
  refine wpAny_bind (wpAny_attempt (wpAny_callSpecial?_slot (name := Str.ofString "__next__") hty slot_si_next
    (wpAny_call_entry slot_si_next hty entry_si_next ?_ (args_si_next _))))
  show wpAny _ _ (fieldsOf (.ref J) >>= _) _ _ s
  refine wpAny_bind (wpAny_fieldsOf ho hd ?_)
  show wpAny _ _ (setEntries S >>= _) _ _ s
  refine wpAny_bind (wpAny_setEntries_of hol hdl hf ?_)
  show wpAny _ _ (if ((es.size : Int) != (n : Int)) = true then _ else _) _ _ _
  rw [if_neg (by rw [hn]; simp)]
  show wpAny _ _ (setNext S (Int.toNat (slot : Int)) (Int.toNat (i : Int)) (Int.toNat (ep : Int)) >>= _) _ _ _
  rw [Int.toNat_natCast, Int.toNat_natCast, Int.toNat_natCast]
  refine wpAny_bind (hx _ _ _ ?_)
  dsimp only
  refine wpAny_bind (wpAny_setField ho hd (by simp) ?_)
  have h1 := Heap.get?_update_self (Obj.mapFields (·.setIfInBounds 0 (rawInt nx))) ho (Obj.isFreed_of_fields (Obj.data_mapFields hd _))
  have hd1 := Obj.data_mapFields hd (·.setIfInBounds 0 (rawInt nx))
  refine wpAny_bind (wpAny_setField h1 hd1 (by simp) ?_)
  refine wpAny_pure ⟨x, rfl, wpAny_pure (hQ _ ?_ ((Heap.SameBut.update ..).trans (Heap.SameBut.update ..)))⟩
  refine ⟨_, Heap.get?_update_self _ h1 (Obj.isFreed_of_fields (Obj.data_mapFields hd1 _)), (Obj.cls_mapFields ..).trans ((Obj.cls_mapFields ..).trans hc), ?_⟩
  rw [Obj.data_mapFields hd1]
  simp [rawInt]
theorem si_end_int {slot i n : Nat} {Q : Option Value → Shared → Prop} (hh : A.handled = none) (hit : IsSI s.heap J S (.int slot 0) i n ep) (hS : SetAt s.heap S es ep t) (hf : t.fits es.size = true) (hn : es.size = n)
    (hx : ∀ (A : Around) (E : Value → Shared → Prop) (Q' : Option (Value × Nat) → Shared → Prop), Q' none s → wpAny (model prog w) A (setNext S slot i ep) Q' E s)
    (hQ : ∀ h', Heap.ExtBut J s.heap h' → Q none { s with heap := h' }) : wpAny (model prog w) A (pyNext (.ref J)) Q E s := by
  have hty := hit.type
  obtain ⟨o, ho, hc, hd⟩ := hit
  obtain ⟨ol, hol, _, hdl⟩ := hS
  unfold pyNext
  refine wpAny_bind (wpAny_attempt (wpAny_callSpecial?_slot (name := Str.ofString "__next__") hty slot_si_next
    (wpAny_call_entry slot_si_next hty entry_si_next ?_ (args_si_next _))))
  show wpAny _ _ (fieldsOf (.ref J) >>= _) _ _ s
  refine wpAny_bind (wpAny_fieldsOf ho hd ?_)
  show wpAny _ _ (setEntries S >>= _) _ _ s
  refine wpAny_bind (wpAny_setEntries_of hol hdl hf ?_)
  show wpAny _ _ (if ((es.size : Int) != (n : Int)) = true then _ else _) _ _ _
  rw [if_neg (by rw [hn]; simp)]
  show wpAny _ _ (setNext S (Int.toNat (slot : Int)) (Int.toNat (i : Int)) (Int.toNat (ep : Int)) >>= _) _ _ _
  rw [Int.toNat_natCast, Int.toNat_natCast, Int.toNat_natCast]
  refine wpAny_bind (hx _ _ _ ?_)
  dsimp only
  refine wpAny_bind (wpAny_setField ho hd (by simp) ?_)
  show wpAny _ _ (newExc (.type "StopIteration") [] >>= _) _ _ _
  refine wpAny_bind ?_
  simp only [newExc, newTuple]
  refine wpAny_bind (wpAny_newObj_type ?_ (by size_fits))
  refine wpAny_bind (m := firstArgMember _ _) (wpAny_of_eq (a := Value.none) (by first | rfl | (simp only [firstArgMember]; rfl)) ?_)
  refine wpAny_newObj_type ?_ (by size_fits)
  simp only [raiseNew]
  refine wpAny_bind (wpAny_handled ?_)
  first | rw [show A.in1.handled = none from hh] | rw [hh]
  refine wpAny_bind (wpAny_pure (wpAny_throw ?_))
  refine wpAny_bind (wpAny_isInstance (T := "StopIteration") (b := true) ⟨_, Heap.get?_push_size _ rfl, rfl⟩ isSubtype_stop ?_)
  exact wpAny_pure (hQ _ (((Heap.SameBut.update ..).extBut.push _).push _))
theorem si_next_drawn {T : Addr} {i n pl : Nat} {places : Array Value} {h0 : Int} {x : Value} {Q : Option Value → Shared → Prop} (hit : IsSI s.heap J S (.ref T) i n ep) (hT : s.heap.IsTuple T places) (hS : SetAt s.heap S es ep t) (hf : t.fits es.size = true) (hn : es.size = n)
    (hp : places[i]? = some (rawInt pl)) (hx : es[pl]? = some (h0, x))
    (hQ : ∀ h', IsSI h' J S (.ref T) (i + 1) n ep → Heap.SameBut J s.heap h' → Q (some x) { s with heap := h' }) : wpAny (model prog w) A (pyNext (.ref J)) Q E s := by
  have hty := hit.type
  obtain ⟨o, ho, hc, hd⟩ := hit
  obtain ⟨ol, hol, _, hdl⟩ := hS
  obtain ⟨oT, hoT, _, nT, hdT⟩ := hT
  unfold pyNext
  refine wpAny_bind (wpAny_attempt (wpAny_callSpecial?_slot (name := Str.ofString "__next__") hty slot_si_next
    (wpAny_call_entry slot_si_next hty entry_si_next ?_ (args_si_next _))))
  show wpAny _ _ (fieldsOf (.ref J) >>= _) _ _ s
  refine wpAny_bind (wpAny_fieldsOf ho hd ?_)
  show wpAny _ _ (setEntries S >>= _) _ _ s
  refine wpAny_bind (wpAny_setEntries_of hol hdl hf ?_)
  show wpAny _ _ (if ((es.size : Int) != (n : Int)) = true then _ else _) _ _ _
  rw [if_neg (by rw [hn]; simp)]
  show wpAny _ _ (seqItems? (.ref T) >>= _) _ _ _
  refine wpAny_bind (wpAny_seqItems hoT hdT ?_)
  simp only [Int.toNat_natCast, hp, rawInt]
  unfold setNextDrawn
  refine wpAny_bind ?_
  refine wpAny_bind (wpAny_setState_of hol hdl hf ?_)
  dsimp only
  rw [if_neg (by simp)]
  show wpAny _ _ (match es[pl]? with | some (_, x) => _ | _ => _) _ _ _
  rw [hx]
  refine wpAny_pure ?_
  refine wpAny_bind (wpAny_setField ho hd (by simp) ?_)
  refine wpAny_pure ⟨x, rfl, wpAny_pure (hQ _ ?_ (Heap.SameBut.update ..))⟩
  refine ⟨_, Heap.get?_update_self _ ho (Obj.isFreed_of_fields (Obj.data_mapFields hd _)), (Obj.cls_mapFields ..).trans hc, ?_⟩
  rw [Obj.data_mapFields hd]
  simp [rawInt]
theorem si_end_drawn {T : Addr} {i n : Nat} {places : Array Value} {Q : Option Value → Shared → Prop} (hh : A.handled = none) (hit : IsSI s.heap J S (.ref T) i n ep) (hT : s.heap.IsTuple T places) (hS : SetAt s.heap S es ep t) (hf : t.fits es.size = true) (hn : es.size = n)
    (hp : places[i]? = none)
    (hQ : ∀ h', Heap.ExtBut J s.heap h' → Q none { s with heap := h' }) : wpAny (model prog w) A (pyNext (.ref J)) Q E s := by
  have hty := hit.type
  obtain ⟨o, ho, hc, hd⟩ := hit
  obtain ⟨ol, hol, _, hdl⟩ := hS
  obtain ⟨oT, hoT, _, nT, hdT⟩ := hT
  unfold pyNext
  refine wpAny_bind (wpAny_attempt (wpAny_callSpecial?_slot (name := Str.ofString "__next__") hty slot_si_next
    (wpAny_call_entry slot_si_next hty entry_si_next ?_ (args_si_next _))))
  show wpAny _ _ (fieldsOf (.ref J) >>= _) _ _ s
  refine wpAny_bind (wpAny_fieldsOf ho hd ?_)
  show wpAny _ _ (setEntries S >>= _) _ _ s
  refine wpAny_bind (wpAny_setEntries_of hol hdl hf ?_)
  show wpAny _ _ (if ((es.size : Int) != (n : Int)) = true then _ else _) _ _ _
  rw [if_neg (by rw [hn]; simp)]
  show wpAny _ _ (seqItems? (.ref T) >>= _) _ _ _
  refine wpAny_bind (wpAny_seqItems hoT hdT ?_)
  simp only [Int.toNat_natCast, hp]
  refine wpAny_bind (wpAny_setField ho hd (by simp) ?_)
  have h1 := Heap.get?_update_self (Obj.mapFields (·.setIfInBounds 0 (rawInt 0))) ho (Obj.isFreed_of_fields (Obj.data_mapFields hd _))
  have hd1 := Obj.data_mapFields hd (·.setIfInBounds 0 (rawInt 0))
  refine wpAny_bind (wpAny_setField h1 hd1 (by simp) ?_)
  show wpAny _ _ (newExc (.type "StopIteration") [] >>= _) _ _ _
  refine wpAny_bind ?_
  simp only [newExc, newTuple]
  refine wpAny_bind (wpAny_newObj_type ?_ (by size_fits))
  refine wpAny_bind (m := firstArgMember _ _) (wpAny_of_eq (a := Value.none) (by first | rfl | (simp only [firstArgMember]; rfl)) ?_)
  refine wpAny_newObj_type ?_ (by size_fits)
  simp only [raiseNew]
  refine wpAny_bind (wpAny_handled ?_)
  first | rw [show A.in1.handled = none from hh] | rw [hh]
  refine wpAny_bind (wpAny_pure (wpAny_throw ?_))
  refine wpAny_bind (wpAny_isInstance (T := "StopIteration") (b := true) ⟨_, Heap.get?_push_size _ rfl, rfl⟩ isSubtype_stop ?_)
  exact wpAny_pure (hQ _ ((((Heap.SameBut.update ..).trans (Heap.SameBut.update ..)).extBut.push _).push _))
theorem si_self {first : Value} {i n : Nat} {Q : Value → Shared → Prop} (hit : IsSI s.heap J S first i n ep) (h : Q (.ref J) s) : wpAny (model prog w) A (pyIter (.ref J)) Q E s := by
  refine wpAny_pyIter_slot hit.type slot_si_iter (wpAny_call_entry slot_si_iter hit.type entry_si_iter ?_ (args_si_iter _))
  show wpAny _ _ (ret (.ref J)) _ _ s
  exact wpAny_pure ⟨_, rfl, "set_iterator", _, hit.type, slot_si_next.lookup, h⟩
theorem SetAt.extBut {h h' : Heap} (x : SetAt h S es ep t) (hs : Heap.ExtBut J h h') (hne : S ≠ J) : SetAt h' S es ep t := let ⟨o, ho, r⟩ := x; ⟨o, hs S o hne ho, r⟩
end
/-- by the text -/
theorem walks_text {prog : Program} {w : World} {A : Around} (hh : A.handled = none) (hb : byT w = true) (J S : Addr) (hne : S ≠ J) {es : Array (Int × Value)} {ep : Nat} {t : SetTable} (hf : t.fits es.size = true) :
    Walks prog w A J [J, S] [J] es.size (fun i v => ((pickOrder (w.params.setOrder S ep) es).map (·.2))[i]? = some v) (fun i h => IsSI h J S (.int (0 : Nat) 0) i es.size ep ∧ SetAt h S es ep t) where
  sub := fun b hb => by simp at hb; simp [hb]
  frame := fun _ _ _ st hk => ⟨st.1.at fun o e => hk J (by simp) o e, st.2.at fun o e => hk S (by simp) o e⟩
  item := fun i s Q E hi st hQ => by
    have hsz : (pickOrder (w.params.setOrder S ep) es).size = es.size := by
      have := (pickOrder_perm (w.params.setOrder S ep) es).length_eq
      simpa using this
    have hg : (pickOrder (w.params.setOrder S ep) es)[i]? = some ((pickOrder (w.params.setOrder S ep) es)[i]'(by omega)) := by simp [hsz, hi]
    refine si_next_int (x := ((pickOrder (w.params.setOrder S ep) es)[i]'(by omega)).2) (nx := 0) st.1 st.2 hf rfl (fun A E Q' q => setNext_text st.2 hf hb 0 i (by rw [hg]; exact q)) fun h' hit' hs' => ?_
    exact hQ _ h' s.toks (by rw [Array.getElem?_map, hg]; rfl) ⟨hit', st.2.extBut hs'.extBut hne⟩ fun b o hb e => hs'.extBut b o (fun h => hb (by simp [h])) e
  done := fun s Q E st hQ => by
    have hsz : (pickOrder (w.params.setOrder S ep) es).size = es.size := by
      have := (pickOrder_perm (w.params.setOrder S ep) es).length_eq
      simpa using this
    refine si_end_int hh st.1 st.2 hf rfl (fun A E Q' q => setNext_text st.2 hf hb 0 _ ?_) fun h' he' => hQ h' s.toks fun b o hb e => he' b o (fun h => hb (by simp [h])) e
    rw [Array.getElem?_eq_none (by omega)]
    exact q
  self := fun _ _ _ _ st hQ => si_self st.1 hQ
/-- where the i-th looks on -/
def slotAt (t : SetTable) : Nat → Nat
  | 0 => 0
  | i + 1 => (t.place.getD i 0) + 1
theorem fits_size {t : SetTable} {n : Nat} (h : t.fits n = true) : t.place.size = n := by
  simp only [SetTable.fits, Bool.and_eq_true, beq_iff_eq] at h
  exact h.1
theorem below_slot {b : Bool} {t : SetTable} (h : SI b t) {i : Nat} (hi : i ≤ t.place.size) : SetTable.below t.place (slotAt t i) = i := by
  refine below_is h.rise (fun k a hk ha => ?_) (fun a ha => ?_) hi
  · cases i with
    | zero => omega
    | succ i =>
      have hg : t.place[i]? = some (t.place.getD i 0) := by simp [Array.getD, show i < t.place.size by omega]
      show a < t.place.getD i 0 + 1
      by_cases e : k = i
      · subst e
        rw [hg] at ha
        cases ha
        omega
      · have := rise_at h.rise (show k < i by omega) ha hg
        omega
  · cases i with
    | zero => exact Nat.zero_le _
    | succ i =>
      have hg : t.place[i]? = some (t.place.getD i 0) := by simp [Array.getD, show i < t.place.size by omega]
      exact rise_at h.rise (Nat.lt_succ_self i) hg ha
/-- by the places -/
theorem walks_place {prog : Program} {w : World} {A : Around} (hh : A.handled = none) (hb : byT w = false) (J S : Addr) (hne : S ≠ J) {es : Array (Int × Value)} {ep : Nat} {t : SetTable} (hf : t.fits es.size = true) (hi : SI true t) (hd' : (!t.plain && decide (es.size > 1)) = false) :
    Walks prog w A J [J, S] [J] es.size (fun i v => (es.map (·.2))[i]? = some v) (fun i h => IsSI h J S (.int (slotAt t i : Nat) 0) i es.size ep ∧ SetAt h S es ep t) where
  sub := fun b hb => by simp at hb; simp [hb]
  frame := fun _ _ _ st hk => ⟨st.1.at fun o e => hk J (by simp) o e, st.2.at fun o e => hk S (by simp) o e⟩
  item := fun i s Q E hi' st hQ => by
    have hsz := fits_size hf
    have hg : es[i]? = some es[i] := by simp [hi']
    have hp : t.place[i]? = some (t.place.getD i 0) := by simp [Array.getD, show i < t.place.size by omega]
    refine si_next_int (x := es[i].2) (nx := slotAt t (i + 1)) st.1 st.2 hf rfl (fun A E Q' q => setNext_place st.2 hf hb hi.led hd' (slotAt t i) i ?_) fun h' hit' hs' => ?_
    · rw [below_slot hi (by omega), hg, hp]
      exact q
    · exact hQ _ h' s.toks (by rw [Array.getElem?_map, hg]; rfl) ⟨hit', st.2.extBut hs'.extBut hne⟩ fun b o hb e => hs'.extBut b o (fun h => hb (by simp [h])) e
  done := fun s Q E st hQ => by
    have hsz := fits_size hf
    refine si_end_int hh st.1 st.2 hf rfl (fun A E Q' q => setNext_place st.2 hf hb hi.led hd' _ _ ?_) fun h' he' => hQ h' s.toks fun b o hb e => he' b o (fun h => hb (by simp [h])) e
    rw [below_slot hi (by omega), Array.getElem?_eq_none (Nat.le_refl _)]
    exact q
  self := fun _ _ _ _ st hQ => si_self st.1 hQ
/-- as drawn -/
theorem walks_drawn {prog : Program} {w : World} {A : Around} (hh : A.handled = none) (J S T : Addr) (hne : S ≠ J) (hneT : T ≠ J) {es : Array (Int × Value)} {ep : Nat} {t : SetTable} (hf : t.fits es.size = true) {pl : List Nat} (hp : pl.Perm (List.range es.size)) :
    Walks prog w A J [J, S, T] [J] es.size (fun i v => (pl.map fun k => (es.getD k (0, .none)).2)[i]? = some v) (fun i h => IsSI h J S (.ref T) i es.size ep ∧ SetAt h S es ep t ∧ h.IsTuple T (pl.map fun (k : Nat) => rawInt k).toArray) where
  sub := fun b hb => by simp at hb; simp [hb]
  frame := fun _ _ _ st hk => ⟨st.1.at fun o e => hk J (by simp) o e, st.2.1.at fun o e => hk S (by simp) o e, st.2.2.at fun o e => hk T (by simp) o e⟩
  item := fun i s Q E hi' st hQ => by
    have hl : pl.length = es.size := by rw [hp.length_eq, List.length_range]
    have hg : pl[i]? = some (pl[i]'(by omega)) := List.getElem?_eq_getElem _
    have hlt : pl[i]'(by omega) < es.size := List.mem_range.mp (hp.mem_iff.mp (List.getElem_mem _))
    have he : es[pl[i]'(by omega)]? = some ((es.getD (pl[i]'(by omega)) (0, .none)).1, (es.getD (pl[i]'(by omega)) (0, .none)).2) := by simp [Array.getD, hlt]
    refine si_next_drawn (pl := pl[i]'(by omega)) st.1 st.2.2 st.2.1 hf rfl (by rw [List.getElem?_toArray, List.getElem?_map, hg]; rfl) he fun h' hit' hs' => ?_
    exact hQ _ h' s.toks (by rw [List.getElem?_map, hg]; rfl) ⟨hit', st.2.1.extBut hs'.extBut hne, st.2.2.extBut hs'.extBut hneT⟩ fun b o hb e => hs'.extBut b o (fun h => hb (by simp [h])) e
  done := fun s Q E st hQ => by
    have hl : pl.length = es.size := by rw [hp.length_eq, List.length_range]
    exact si_end_drawn hh st.1 st.2.2 st.2.1 hf rfl (by rw [List.getElem?_toArray, List.getElem?_map, List.getElem?_eq_none (by omega)]; rfl) fun h' he' => hQ h' s.toks fun b o hb e => he' b o (fun h => hb (by simp [h])) e
  self := fun _ _ _ _ st hQ => si_self st.1 hQ
section
variable {prog : Program} {w : World} {A : Around} {E : Value → Shared → Prop} {s : Shared} {S : Addr} {es : Array (Int × Value)} {ep : Nat} {t : SetTable}
theorem SetAt.type (x : SetAt s.heap S es ep t) : s.TypeIs (.ref S) "set" := let ⟨o, ho, hc, _⟩ := x; ⟨o, ho, hc⟩
/-- iter(set): an order of its members, and a walk through it -/
theorem set_iter (hh : A.handled = none) (hS : SetAt s.heap S es ep t) (hf : t.fits es.size = true) (hi : SI (!byT w) t) (hz : es.size ≤ sizeLine) {Q : Value → Shared → Prop}
    (hQ : ∀ (J : Addr) (fp : List Addr) (h' : Heap) d' (xs : List Value) (St : Nat → Heap → Prop), xs.Perm (es.toList.map (·.2)) → (∀ b o, s.heap.get? b = some o → h'.get? b = some o) → s.heap.objs.size ≤ J → (∀ b ∈ fp, b = S ∨ s.heap.objs.size ≤ b) →
      (∀ A : Around, A.handled = none → Walks prog w A J fp [J] es.size (fun i v => xs[i]? = some v) St) → St 0 h' → Q (.ref J) { s with heap := h', drawn := d' }) :
    wpAny (model prog w) A (pyIter (.ref S)) Q E s := by
  have hty := hS.type
  have hlt : S < s.heap.objs.size := by obtain ⟨o, ho, _⟩ := hS; exact Heap.lt_size ho
  refine wpAny_pyIter_slot hty F.slot_set_iter (wpAny_call_entry F.slot_set_iter hty entry_set_iter ?_ (F.args_set_iter_1 _))
  obtain ⟨o, ho, hc, hd⟩ := id hS
  show wpAny _ _ (Builtin.Frozenset.sizeOf S >>= _) _ _ _
  unfold Builtin.Frozenset.sizeOf
  refine wpAny_bind (wpAny_bind (wpAny_setEntries_of ho hd hf (wpAny_pure ?_)))
  unfold setDrawn setsByText
  refine wpAny_bind ?_
  refine wpAny_bind (wpAny_setState_of ho hd hf ?_)
  refine wpAny_bind (wpAny_bind (wpAny_askSetting (wpAny_pure ?_)))
  refine wpAny_pure ?_
  show wpAny _ _ (if (!byT w && (!t.plain && decide (es.size > 1))) = true then _ else _) _ _ _
  by_cases hc1 : (!byT w && (!t.plain && decide (es.size > 1))) = true
  · rw [if_pos hc1]
    refine wpAny_bind (drawOrder_ok _ _ _ _ List.length_range fun pl d' hp => ?_)
    have hl : pl.length = es.size := by rw [hp.length_eq, List.length_range]
    have hsz : sizeOk (.seq (pl.map fun (i : Nat) => rawInt i).toArray) := by
      show (pl.map fun (i : Nat) => rawInt i).toArray.size ≤ sizeLine
      rw [List.size_toArray, List.length_map, hl]
      exact hz
    refine wpAny_bind (wpAny_newObj_type ?_ hsz)
    refine wpAny_bind (wpAny_setEpoch_of (Heap.get?_push_of_some _ ho) hd hf ?_)
    refine wpAny_bind (wpAny_newObj_type ?_)
    refine wpAny_pure ⟨_, rfl, "set_iterator", _, ⟨_, Heap.get?_push_size _ rfl, rfl⟩, slot_si_next.lookup, ?_⟩
    refine hQ _ [_, S, s.heap.objs.size] _ _ (pl.map fun k => (es.getD k (0, .none)).2) _ ?_ (fun b o e => Heap.get?_push_of_some _ (Heap.get?_push_of_some _ e)) ?_ ?_ (fun A hh => walks_drawn (ep := ep) (t := t) hh _ S s.heap.objs.size ?_ ?_ hf hp) ⟨⟨_, Heap.get?_push_size _ rfl, rfl, rfl⟩, hS.at fun o e => Heap.get?_push_of_some _ (Heap.get?_push_of_some _ e), ⟨_, Heap.get?_push_of_some _ (Heap.get?_push_size _ rfl), rfl, _, rfl⟩⟩
    · have e1 := hp.map fun k => (es.getD k (0, Value.none)).2
      refine e1.trans (List.Perm.of_eq ?_)
      apply List.ext_getElem?
      intro i
      rw [List.getElem?_map, List.getElem?_map, Array.getElem?_toList]
      by_cases hi : i < es.size
      · simp [hi, Array.getD]
      · simp [hi]
    · show s.heap.objs.size ≤ (s.heap.push _).objs.size
      rw [Heap.size_push]
      omega
    · intro b hb
      simp only [List.mem_cons, List.not_mem_nil, or_false] at hb
      rcases hb with rfl | rfl | rfl
      · refine .inr ?_
        show s.heap.objs.size ≤ (s.heap.push _).objs.size
        rw [Heap.size_push]
        omega
      · exact .inl rfl
      · exact .inr (Nat.le_refl _)
    · show S ≠ (s.heap.push _).objs.size
      rw [Heap.size_push]
      exact Nat.ne_of_lt (Nat.lt_succ_of_lt hlt)
    · show s.heap.objs.size ≠ (s.heap.push _).objs.size
      rw [Heap.size_push]
      omega
  · rw [if_neg hc1]
    refine wpAny_bind (wpAny_pure ?_)
    refine wpAny_bind (wpAny_setEpoch_of ho hd hf ?_)
    refine wpAny_bind (wpAny_newObj_type ?_)
    refine wpAny_pure ⟨_, rfl, "set_iterator", _, ⟨_, Heap.get?_push_size _ rfl, rfl⟩, slot_si_next.lookup, ?_⟩
    have fpo : ∀ b ∈ [s.heap.objs.size, S], b = S ∨ s.heap.objs.size ≤ b := fun b hb => by
      simp only [List.mem_cons, List.not_mem_nil, or_false] at hb
      rcases hb with rfl | rfl
      · exact .inr (Nat.le_refl _)
      · exact .inl rfl
    cases hb : byT w with
    | true =>
      refine hQ _ [s.heap.objs.size, S] _ s.drawn ((pickOrder (w.params.setOrder S ep) es).map (·.2)).toList (fun i h => IsSI h s.heap.objs.size S (.int (0 : Nat) 0) i es.size ep ∧ SetAt h S es ep t) ?_ (fun b o e => Heap.get?_push_of_some _ e) (Nat.le_refl _) fpo (fun A hh => ?_) ⟨⟨_, Heap.get?_push_size _ rfl, rfl, rfl⟩, hS.at fun o e => Heap.get?_push_of_some _ e⟩
      · rw [Array.toList_map]
        exact (pickOrder_perm _ es).map _
      · simp only [Array.getElem?_toList]
        exact walks_text hh hb _ S (Nat.ne_of_lt hlt) hf
    | false =>
      rw [hb] at hi hc1
      have hd' : (!t.plain && decide (es.size > 1)) = false := by simpa using hc1
      refine hQ _ [s.heap.objs.size, S] _ s.drawn (es.map (·.2)).toList (fun i h => IsSI h s.heap.objs.size S (.int (slotAt t i : Nat) 0) i es.size ep ∧ SetAt h S es ep t) (by rw [Array.toList_map]) (fun b o e => Heap.get?_push_of_some _ e) (Nat.le_refl _) fpo (fun A hh => ?_) ⟨⟨_, Heap.get?_push_size _ rfl, rfl, rfl⟩, hS.at fun o e => Heap.get?_push_of_some _ e⟩
      simp only [Array.getElem?_toList]
      exact walks_place hh hb _ S (Nat.ne_of_lt hlt) hf hi hd'
theorem set_hint (hT : s.TypeIs (.ref S) "set") {Q : Bool → Shared → Prop} (h : Q false s) : wpAny (model prog w) A (Builtin.List.listLengthHint (.ref S)) Q E s := by
  unfold Builtin.List.listLengthHint
  refine wpAny_bind (wpAny_specialOf hT PySem.F.slot_set_len.lookup ?_)
  generalize hid : ("set.__len__" : String) = id0
  wp_delta
  rw [show splitId id0 = some ("set", "__len__") from by subst hid; decide +kernel]
  subst hid
  refine wpAny_bind (wpAny_isInstance (T := "set") (b := true) hT (by rw [isSubtype_type]; kernel_rfl) ?_)
  refine wpAny_ite_split (fun hab => absurd hab (by decide)) (fun _ => ?_)
  refine wpAny_ite_split (fun _ => ?_) (fun hab => absurd (by decide +kernel) hab)
  refine wpAny_bind (wpAny_typeOf hT ?_)
  exact wpAny_pure h
end
end L2

set_option Elab.async false
set_option linter.all false
set_option maxRecDepth 100000
namespace L2
open PySem PySem.Spec PyProof.Rows
section
variable {prog : Program} {w : World} {A : Around} {E : Value → Shared → Prop} {s : Shared} {S : Addr} {es : Array (Int × Value)} {ep : Nat} {t : SetTable}
theorem items_eq {xs : List Value} {acc : Array Value} {n : Nat} (h : ItemsOf (fun i v => xs[i]? = some v) acc n) (hl : xs.length = n) : acc.toList = xs := by
  apply List.ext_getElem?
  intro i
  by_cases hi : i < n
  · have hg : acc[i]? = some (acc[i]'(by rw [h.1]; exact hi)) := by simp [h.1, hi]
    rw [Array.getElem?_toList, hg, h.2 i _ hg]
  · rw [List.getElem?_eq_none (by rw [Array.length_toList, h.1]; omega), List.getElem?_eq_none (by omega)]
/-- the members of a set, collected -/
theorem set_collect (hh : A.handled = none) (hS : SetAt s.heap S es ep t) (hf : t.fits es.size = true) (hi : SI (!byT w) t) (hz : es.size ≤ sizeLine) {R : List Value → Shared → Prop}
    (h : ∀ (h' : Heap) (tk : Nat) d' (xs : List Value), (∀ b o, s.heap.get? b = some o → h'.get? b = some o) → xs.Perm (es.toList.map (·.2)) → R xs { s with heap := h', toks := tk, drawn := d' }) :
    wpAny (model prog w) A (collect (.ref S)) R E s := by
  have hlt : S < s.heap.objs.size := by obtain ⟨o, ho, _⟩ := hS; exact Heap.lt_size ho
  unfold collect
  refine wpAny_bind (wpAny_runValue (codeAny_builtin PySem.F.entry_proto_collect ?_))
  rw [Around.under_plainId PySem.F.plain_proto_collect _]
  show wpAny _ A.in1 (newList [] >>= fun l => again (.builtin "list.__iadd__" ⟨[l, .ref S], []⟩)) _ _ s
  refine wpAny_bind (wpAny_newObj_type ?_)
  refine wpAny_pure ⟨plainId_quiet PySem.F.plain_list_iadd _, codeAny_builtin PySem.F.entry_list_iadd ?_⟩
  rw [Around.under_plainId PySem.F.plain_list_iadd _]
  have hS1 : SetAt (s.heap.push { cls := .type "list", data := .seq ([] : List Value).toArray }) S es ep t := hS.at fun o e => Heap.get?_push_of_some _ e
  have hL : (s.heap.push { cls := .type "list", data := .seq ([] : List Value).toArray }).get? s.heap.objs.size = some { cls := .type "list", data := .seq ([] : List Value).toArray } := Heap.get?_push_size _ rfl
  have h1 : Builtin.List.listSameRef (.ref s.heap.objs.size) (.ref S) = false := by simp [Builtin.List.listSameRef, Nat.ne_of_gt hlt]
  show wpAny _ A.in1 (Builtin.List.listExtendWith (.ref s.heap.objs.size) (.ref S) (.ref s.heap.objs.size)) _ _ _
  unfold Builtin.List.listExtendWith
  refine wpAny_bind (wpAny_typeOf (T := "set") (SetAt.type hS1) ?_)
  have n1 : (Value.type "set" == Value.type "list") = false := by decide
  have n2 : (Value.type "set" == Value.type "tuple") = false := by decide
  simp only [h1, n1, n2, Bool.or_false, Bool.false_eq_true, if_false]
  refine wpAny_bind (set_iter (A := A.in1) (s := { s with heap := s.heap.push { cls := .type "list", data := .seq ([] : List Value).toArray } }) (show A.in1.handled = none from hh) hS1 hf hi hz fun J fp h' d' xs St hp hk hJ hfp W st => ?_)
  have hsz : (s.heap.push { cls := .type "list", data := .seq ([] : List Value).toArray }).objs.size = s.heap.objs.size + 1 := Heap.size_push _ _
  have hJ' : s.heap.objs.size + 1 ≤ J := by rw [← hsz]; exact hJ
  have hLf : s.heap.objs.size ∉ fp := fun hm => by
    rcases hfp _ hm with e | e
    · exact absurd e (Nat.ne_of_gt hlt)
    · have e' : s.heap.objs.size + 1 ≤ s.heap.objs.size := by rw [← hsz]; exact e
      omega
  refine wpAny_bind (wpAny_holding (set_hint (s := { s with heap := h', drawn := d' }) (SetAt.type (hS1.at fun o e => hk _ _ e)) ?_))
  refine wpAny_ite_split (fun _ => ?_) (fun hab => absurd (by decide +kernel) hab)
  refine wpAny_bind (wpAny_rule ?_)
  refine wpAny_bind ?_
  show wpAny _ _ (updateSeq s.heap.objs.size (·.push .none) >>= fun _ => updateSeq s.heap.objs.size (·.pop)) _ _ _
  have hL1 := hk _ _ hL
  refine wpAny_bind (wpAny_updateSeq hL1 rfl ?_)
  have hL2 := Heap.get?_update_self (Obj.mapSeq (·.push Value.none)) hL1 rfl
  refine wpAny_updateSeq (hz := by seq_fits) hL2 rfl ?_
  have hL3 := Heap.get?_update_self (Obj.mapSeq (·.pop)) hL2 rfl
  have st' : St 0 ((h'.update s.heap.objs.size (Obj.mapSeq fun x => x.push Value.none)).update s.heap.objs.size (Obj.mapSeq fun x => x.pop)) := (W A.in1 hh).frame 0 _ _ st fun b hb o e => by
    have hne : b ≠ s.heap.objs.size := fun z => hLf (z ▸ hb)
    exact (Heap.get?_update_other _ _ (Ne.symm hne)).trans ((Heap.get?_update_other _ _ (Ne.symm hne)).trans e)
  refine wpAny_pure ⟨plainId_quiet PySem.F.plain_extend_loop _, codeAny_extend_loopS (W A.in1 hh).toS hz s.heap.objs.size hLf _ es.size 0 _ #[] _ rfl (Nat.zero_le _) st' hL3 (ItemsOf.nil _) fun s' acc' c' hm hS' hacc => ?_⟩
  show wpAny _ A (load s.heap.objs.size >>= _) _ _ s'
  refine wpAny_bind (wpAny_load hS' ?_)
  obtain ⟨h2, g2, d2, tk2, os2⟩ := s'
  obtain rfl : g2 = s.gens := hm.gens
  obtain rfl : d2 = d' := hm.drawn
  obtain rfl : os2 = s.os := hm.os
  have hxl : xs.length = es.size := by rw [hp.length_eq]; simp
  refine wpAny_pure ?_
  have key : ∀ b o, s.heap.get? b = some o → h2.get? b = some o := fun b o e => by
    have hb := Heap.lt_size e
    have hne : b ≠ s.heap.objs.size := Nat.ne_of_lt hb
    refine hm.heap b o (fun z => ?_) ((Heap.get?_update_other _ _ (Ne.symm hne)).trans ((Heap.get?_update_other _ _ (Ne.symm hne)).trans (hk b o (Heap.get?_push_of_some _ e))))
    simp only [List.mem_cons, List.not_mem_nil, or_false] at z
    rcases z with z | z
    · exact hne z
    · exact absurd (z ▸ hb : J < s.heap.objs.size) (Nat.not_lt.mpr (Nat.le_of_succ_le hJ'))
  have := h h2 tk2 d2 xs key hp
  rw [← items_eq hacc hxl] at this
  exact this
/-! ### who is in the set -/
theorem perm_of_cover : ∀ (F ns : List Int), F.Nodup → (∀ k ∈ F, k ∈ ns) → ns.length = F.length → ns.Perm F
  | [], ns, _, _, hl => by rw [List.eq_nil_of_length_eq_zero hl]
  | x :: F, ns, hn, hs, hl => by
    have hx := hs x (by simp)
    have hp := List.perm_cons_erase hx
    obtain ⟨h1, h2⟩ := List.nodup_cons.mp hn
    refine hp.trans ((perm_of_cover F (ns.erase x) h2 (fun k hk => ?_) ?_).cons x)
    · have hne : k ≠ x := fun z => h1 (z ▸ hk)
      exact (List.mem_erase_of_ne hne).mpr (hs k (by simp [hk]))
    · rw [List.length_erase_of_mem hx, hl]
      rfl
theorem firstMet_nodup (val : Nat → Int) : ∀ i, (firstMet val i).Nodup
  | 0 => by rw [firstMet_zero]; exact List.nodup_nil
  | i + 1 => by
    rw [firstMet_succ]
    unfold step_dedup
    split
    · exact firstMet_nodup val i
    · rename_i hc
      refine List.nodup_append.mpr ⟨firstMet_nodup val i, by simp, fun a ha b hb => ?_⟩
      rintro rfl
      have : a = val i := by simpa using hb
      subst this
      exact hc (List.any_eq_true.mpr ⟨_, ha, by simp⟩)
theorem range_getD (zs : List Int) : (List.range zs.length).map (fun i => zs.getD i 0) = zs := by
  apply List.ext_getElem?
  intro i
  rw [List.getElem?_map]
  by_cases hi : i < zs.length
  · rw [List.getElem?_range hi]
    simp [List.getD, hi]
  · rw [List.getElem?_eq_none (by simpa using hi), List.getElem?_eq_none (by omega)]
    rfl
theorem firstMet_mem (zs : List Int) (k : Int) : k ∈ firstMet (fun i => zs.getD i 0) zs.length ↔ k ∈ zs := by
  have h := firstMet_any (fun i => zs.getD i 0) zs.length k
  rw [range_getD] at h
  have e : ∀ l : List Int, k ∈ l ↔ l.any (· == k) = true := fun l => by simp [List.any_eq_true]
  rw [e, e, h]
theorem intsM_of : ∀ (l : List Value), (∀ v ∈ l, ∃ k, Value.isInt k v = true) → ∃ ns : List Int, IntsAre l ns ∧ ∀ k, k ∈ ns ↔ ∃ v ∈ l, Value.isInt k v = true
  | [], _ => ⟨[], .nil, fun k => by simp⟩
  | v :: r, h => by
    obtain ⟨k, hk⟩ := h v (by simp)
    obtain ⟨t, rfl⟩ := Value.isInt_shape hk
    obtain ⟨ns, h1, h2⟩ := intsM_of r fun v hv => h v (by simp [hv])
    refine ⟨k :: ns, .cons k t h1, fun j => ?_⟩
    rw [List.mem_cons, h2 j]
    constructor
    · rintro (rfl | ⟨v, hv, e⟩)
      · exact ⟨_, by simp, hk⟩
      · exact ⟨v, by simp [hv], e⟩
    · rintro ⟨v, hv, e⟩
      rcases List.mem_cons.mp hv with rfl | hv
      · exact .inl (Value.isInt_inj _ _ _ e hk)
      · exact .inr ⟨v, hv, e⟩
/-- what a set of ints holds, in the order of its walk -/
theorem setR_ints {b : Bool} {zs : List Int} {h : Heap} (hS : SetR prog w h S b (fun k => (firstMet (fun i => zs.getD i 0) zs.length).any (· == k)) (firstMet (fun i => zs.getD i 0) zs.length).length) :
    ∃ es ep t, SetAt h S es ep t ∧ t.fits es.size = true ∧ SI b t ∧ es.size < scanBound ∧ ∀ xs : List Value, xs.Perm (es.toList.map (·.2)) → ∃ ns, IntsAre xs ns ∧ ns.Nodup ∧ (∀ k, k ∈ ns ↔ k ∈ zs) ∧ ns.length ≤ zs.length := by
  obtain ⟨o, es, ep, t, ho, hex, hd, hel, hm, hs, hf, hn, hi⟩ := hS
  refine ⟨es, ep, t, ⟨o, ho, hex.1, hd⟩, hf, hi, hs, fun xs hp => ?_⟩
  obtain ⟨ns, h1, h2⟩ := intsM_of xs fun v hv => by
    obtain ⟨e, he, rfl⟩ := List.mem_map.mp (hp.mem_iff.mp hv)
    obtain ⟨⟨k, hk, _⟩, _⟩ := hel e he
    exact ⟨k, hk⟩
  have hmem : ∀ k, k ∈ ns ↔ k ∈ zs := fun k => by
    rw [h2 k, ← firstMet_mem zs k]
    have := hm k
    constructor
    · rintro ⟨v, hv, e⟩
      obtain ⟨q, hq, rfl⟩ := List.mem_map.mp (hp.mem_iff.mp hv)
      obtain ⟨a, ha, e'⟩ := List.any_eq_true.mp (this.mpr ⟨q, hq, e⟩)
      have : a = k := by simpa using e'
      exact this ▸ ha
    · intro hk
      obtain ⟨q, hq, e⟩ := this.mp (List.any_eq_true.mpr ⟨k, hk, by simp⟩)
      exact ⟨q.2, hp.mem_iff.mpr (List.mem_map.mpr ⟨q, hq, rfl⟩), e⟩
  have hl : ns.length = (firstMet (fun i => zs.getD i 0) zs.length).length := by
    rw [← IntsAre.length h1, hp.length_eq, List.length_map, Array.length_toList, hn]
  have hpm := perm_of_cover _ ns (firstMet_nodup _ _) (fun k hk => (hmem k).mpr ((firstMet_mem zs k).mp hk)) hl
  exact ⟨ns, h1, hpm.nodup_iff.mpr (firstMet_nodup _ _), hmem, by rw [hl]; exact firstMet_length_le _ _⟩
/-- sorted(set) -/
theorem sorted_set {zs : List Int} {Q : Value → Shared → Prop} (hh : A.handled = none) (hS : SetR prog w s.heap S (!byT w) (fun k => (firstMet (fun i => zs.getD i 0) zs.length).any (· == k)) (firstMet (fun i => zs.getD i 0) zs.length).length) (h64 : zs.length < 64)
    (h : ∀ (out : List Value) (n : Nat) (h1 h' : Heap) (tk : Nat) d' (ns' : List Int), (∀ b o, s.heap.get? b = some o → h1.get? b = some o) → (∀ b o, h1.get? b = some o → h'.get? b = some o) → h'.get? h1.objs.size = some (seqObj "list" out.toArray n) → IntsAre out ns' → ns'.Nodup → (∀ k, k ∈ ns' ↔ k ∈ zs) → ns'.length ≤ zs.length → ns'.Pairwise (· ≤ ·) → Q (.ref h1.objs.size) { s with heap := h', toks := tk, drawn := d' }) :
    wpAny (model prog w) A (call (.builtin "sorted") [.ref S]) Q E s := by
  obtain ⟨es, ep, t, hA, hf, hi, hsb, hall⟩ := setR_ints hS
  refine Calls.call_function_entry kind_sorted plain_sorted entry_sorted (args_sorted1 _) ?_
  unfold Builtin.«sorted»
  refine wpAny_bind (m := checkCount "sorted" 1 1 _) (wpAny_pure ?_)
  refine wpAny_bind (set_collect (A := A.in1) (show A.in1.handled = none from hh) hA hf hi (fits_of_scanBound hsb) fun h1 tk d' xs hk1 hp => ?_)
  obtain ⟨ns, hI, hnd, hmem, hle⟩ := hall xs hp
  have hlv : xs.length < 64 := by rw [hI.length]; omega
  refine wpAny_bind (wpAny_newList ?_ (Nat.le_trans (Nat.le_of_lt hlv) (by decide)))
  have hoL : (h1.push (seqObj "list" xs.toArray 0)).get? h1.objs.size = some (seqObj "list" xs.toArray 0) := Heap.get?_push_size _ rfl
  refine wpAny_bind (wpAny_holding (wpAny_call_entry slot_list_sort ⟨_, hoL, rfl⟩ entry_list_sort (list_sort_tree hoL hI hlv fun out ns' a1 a2 a3 => ⟨_, rfl, ?_⟩) (args_list_sort _)))
  obtain ⟨e, he⟩ := sortedHeap_at (vs := xs) (out := out) hoL
  refine wpAny_pure ⟨_, rfl, h out.toList e h1 _ tk d' ns' hk1 (fun b o hb => ?_) he a1 (a2.nodup_iff.mpr hnd) (fun k => a2.mem_iff.trans (hmem k)) (by rw [a2.length_eq]; exact hle) a3⟩
  have hlt := Heap.lt_size hb
  rw [sortedHeap_old (Nat.ne_of_lt hlt) (by rw [Heap.size_push]; exact Nat.lt_succ_of_lt hlt)]
  exact Heap.get?_push_of_some _ hb
end
/-- the set of the zs -/
def IsSetM (prog : Program) (w : World) (l : Addr) (zs : List Int) (h : Heap) : Prop := SetR prog w h l (!byT w) (fun k => (firstMet (fun i => zs.getD i 0) zs.length).any (· == k)) (firstMet (fun i => zs.getD i 0) zs.length).length
section
variable {X : Cx}
theorem Inv.drw {pins : List (Addr × Obj)} {σ : L2.St} {H : Hp} {s : Shared} (I : Inv X pins σ H s) (d' : Drawn) : Inv X pins σ H { s with drawn := d' } := I.call (g' := s.gens) (t' := s.toks) (d' := d') (ch := []) (h' := s.heap) Un.refl I.hok I.bare (fun _ z => nomatch z)
theorem call_set_M (hc : X.calm = true) : CallR X (.type "set") (fun xs H Q => ∃ p zs, xs = [.ref p] ∧ SqT X.K H p (List.map V.int zs) ∧ zs.length ≤ 100 ∧ ∀ l, H l = none → Q (.ref l) (upd H l (.ext (IsSetM X.prog X.w l zs)))) := by
  intro pins s σ H xs us Q I r h
  obtain ⟨p, zs, rfl, hq, hz, q⟩ := h
  obtain ⟨u, rfl, rx⟩ := vals1 r
  cases rx
  have hb : zs.length + 1 < scanBound := by unfold scanBound; omega
  obtain ⟨its, r', pl, _⟩ := I.tuple hq
  have hl := r'.length
  rw [List.length_map] at hl
  refine set_of_tupR (I.ok.hd hc) pl (intsAre_of r') (by rw [List.size_toArray, ← hl]; exact hb) fun h' tk hS kp => ?_
  have hsz : its.toArray.size = zs.length := by rw [hl]; rfl
  rw [hsz] at hS
  exact ⟨.ref s.heap.objs.size, _, I.laid (t' := tk) (fun b o' e => kp b o' (Heap.lt_size e) e) (Nat.le_refl _) (show ObjOk X.prog X.w _ _ _ (.ext (IsSetM X.prog X.w s.heap.objs.size zs)) from ⟨hS, (let ⟨o, _, _, _, ho, _⟩ := hS; ⟨o, ho⟩), fun h1 h2 x k => SetR.at x k⟩), rfl, q _ (I.hok.fresh (Nat.le_refl _))⟩
theorem call_sort_M (hc : X.calm = true) : CallR X (.builtin "sorted") (fun xs H Q => ∃ (a : Addr) (zs : List Int), xs = [.ref a] ∧ H a = some (.ext (IsSetM X.prog X.w a zs)) ∧ zs.length < 64 ∧ ∀ (ns' : List Int) (p : Addr), ns'.Nodup → (∀ k, k ∈ ns' ↔ k ∈ zs) → ns'.Pairwise (· ≤ ·) → H p = none → Q (.ref p) (upd H p (.lst (ns'.map V.int)))) := by
  intro pins s σ H xs us Q I r h
  obtain ⟨a, zs, rfl, hq, hl, q⟩ := h
  obtain ⟨u, rfl, rx⟩ := vals1 r
  cases rx
  have hS : IsSetM X.prog X.w a zs s.heap := (show ObjOk X.prog X.w H s.heap a (.ext (IsSetM X.prog X.w a zs)) from I.hok a _ hq).1
  refine sorted_set (I.ok.hd hc) hS hl fun out n h1 h' tk d' ns' k1 k2 e a1 a2 a3 a4 a5 => ?_
  have hz' : (ns'.map V.int).length ≤ sizeLine := by rw [List.length_map]; exact Nat.le_trans a4 (small64 hl)
  have I2 : Inv X pins σ H { s with heap := h1, toks := tk, drawn := d' } := (I.kept (t' := tk) k1).drw d'
  exact ⟨.ref _, _, I2.laid (t' := tk) k2 (Nat.le_refl _) (show ObjOk X.prog X.w _ _ _ (.lst (ns'.map V.int)) from ⟨hz', out, n, vals_ints a1, by simpa [seqObj] using e⟩), rfl, q ns' _ a2 a3 a5 (I2.hok.fresh (Nat.le_refl _))⟩
theorem call_set_MK (hc : X.calm = true) (P0 : Program) (w0 : World) (hP : X.prog = P0) (hw : X.w = w0) : CallR X (.type "set") (fun xs H Q => ∃ p zs, xs = [.ref p] ∧ SqT X.K H p (List.map V.int zs) ∧ zs.length ≤ 100 ∧ ∀ l, H l = none → Q (.ref l) (upd H l (.ext (IsSetM P0 w0 l zs)))) := by
  subst hP; subst hw
  exact call_set_M hc
theorem call_sort_MK (hc : X.calm = true) (P0 : Program) (w0 : World) (hP : X.prog = P0) (hw : X.w = w0) : CallR X (.builtin "sorted") (fun xs H Q => ∃ (a : Addr) (zs : List Int), xs = [.ref a] ∧ H a = some (.ext (IsSetM P0 w0 a zs)) ∧ zs.length < 64 ∧ ∀ (ns' : List Int) (p : Addr), ns'.Nodup → (∀ k, k ∈ ns' ↔ k ∈ zs) → ns'.Pairwise (· ≤ ·) → H p = none → Q (.ref p) (upd H p (.lst (ns'.map V.int)))) := by
  subst hP; subst hw
  exact call_sort_M hc
end
end L2

set_option maxHeartbeats 4000000
namespace My
open PySem PySem.Spec PyProof.Rows L2
def top (i : Nat) : Stmt := PySem.Challenge.pw_shutpairs_k22_weights_of_dots.main.body.getD i (.Pass ⟨0, 0, 0, 0⟩)
abbrev s_sum_of : Stmt := top 1
abbrev s_choices_among : Stmt := top 6
abbrev s_choices_of : Stmt := top 7
abbrev s_often : Stmt := top 2
abbrev s_unlike_parts : Stmt := top 3
abbrev s_joined : Stmt := top 4
abbrev s_joined_of : Stmt := top 8
abbrev s_sums_of : Stmt := top 10
abbrev s_holders_of : Stmt := top 11
abbrev s_weights_of : Stmt := top 12
abbrev s__law_start : Stmt := top 14
abbrev s__law_mix : Stmt := top 16
abbrev s__law_draw : Stmt := top 15
abbrev s__law_choices : Stmt := top 18
abbrev s__law_heap : Stmt := top 17
abbrev s__law_raw_rule : Stmt := top 19
abbrev s__law_same : Stmt := top 20
abbrev s__law_weight : Stmt := top 21
abbrev s_law : Stmt := top 22
set_option genInjectivity false in
structure Adr where
  a_sum_of : Addr
  fd_sum_of : FuncData
  a_choices_among : Addr
  fd_choices_among : FuncData
  a_choices_of : Addr
  fd_choices_of : FuncData
  a_often : Addr
  fd_often : FuncData
  a_unlike_parts : Addr
  fd_unlike_parts : FuncData
  a_joined : Addr
  fd_joined : FuncData
  a_joined_of : Addr
  fd_joined_of : FuncData
  a_sums_of : Addr
  fd_sums_of : FuncData
  a_holders_of : Addr
  fd_holders_of : FuncData
  a_weights_of : Addr
  fd_weights_of : FuncData
  a__law_start : Addr
  fd__law_start : FuncData
  a__law_mix : Addr
  fd__law_mix : FuncData
  a__law_draw : Addr
  fd__law_draw : FuncData
  a__law_choices : Addr
  fd__law_choices : FuncData
  a__law_heap : Addr
  fd__law_heap : FuncData
  a__law_raw_rule : Addr
  fd__law_raw_rule : FuncData
  a__law_same : Addr
  fd__law_same : FuncData
  a__law_weight : Addr
  fd__law_weight : FuncData
  a_law : Addr
  fd_law : FuncData
set_option genInjectivity false in
structure Txt (K : PySem.W.Frag) (mg : Str → Option Value) (A : Adr) : Prop where
  F_sum_of : Fun K "sum_of" "sum_of" s_sum_of A.a_sum_of A.fd_sum_of
  b_sum_of : Binds K A.fd_sum_of ["heap"] []
  g_sum_of : mg "sum_of" = some (.ref A.a_sum_of)
  F_choices_among : Fun K "choices_among" "choices_among" s_choices_among A.a_choices_among A.fd_choices_among
  b_choices_among : Binds K A.fd_choices_among ["numbers"] []
  g_choices_among : mg "choices_among" = some (.ref A.a_choices_among)
  F_choices_of : Fun K "choices_of" "choices_of" s_choices_of A.a_choices_of A.fd_choices_of
  b_choices_of : Binds K A.fd_choices_of ["rule"] []
  g_choices_of : mg "choices_of" = some (.ref A.a_choices_of)
  F_often : Fun K "often" "often" s_often A.a_often A.fd_often
  b_often : Binds K A.fd_often ["heap", "part"] []
  g_often : mg "often" = some (.ref A.a_often)
  F_unlike_parts : Fun K "unlike_parts" "unlike_parts" s_unlike_parts A.a_unlike_parts A.fd_unlike_parts
  b_unlike_parts : Binds K A.fd_unlike_parts ["heaps"] []
  g_unlike_parts : mg "unlike_parts" = some (.ref A.a_unlike_parts)
  F_joined : Fun K "joined" "joined" s_joined A.a_joined A.fd_joined
  b_joined : Binds K A.fd_joined ["heaps"] []
  g_joined : mg "joined" = some (.ref A.a_joined)
  F_joined_of : Fun K "joined_of" "joined_of" s_joined_of A.a_joined_of A.fd_joined_of
  b_joined_of : Binds K A.fd_joined_of ["rule", "choice"] []
  g_joined_of : mg "joined_of" = some (.ref A.a_joined_of)
  F_sums_of : Fun K "sums_of" "sums_of" s_sums_of A.a_sums_of A.fd_sums_of
  b_sums_of : Binds K A.fd_sums_of ["rule"] []
  g_sums_of : mg "sums_of" = some (.ref A.a_sums_of)
  F_holders_of : Fun K "holders_of" "holders_of" s_holders_of A.a_holders_of A.fd_holders_of
  b_holders_of : Binds K A.fd_holders_of ["rule", "part", "dot"] []
  g_holders_of : mg "holders_of" = some (.ref A.a_holders_of)
  F_weights_of : Fun K "weights_of" "weights_of" s_weights_of A.a_weights_of A.fd_weights_of
  b_weights_of : Binds K A.fd_weights_of ["rule"] []
  g_weights_of : mg "weights_of" = some (.ref A.a_weights_of)
  F__law_start : Fun K "_law_start" "_law_start" s__law_start A.a__law_start A.fd__law_start
  b__law_start : Binds K A.fd__law_start ["_law_script"] []
  g__law_start : mg "_law_start" = some (.ref A.a__law_start)
  F__law_mix : Fun K "_law_mix" "_law_mix" s__law_mix A.a__law_mix A.fd__law_mix
  b__law_mix : Binds K A.fd__law_mix ["_law_state"] []
  g__law_mix : mg "_law_mix" = some (.ref A.a__law_mix)
  F__law_draw : Fun K "_law_draw" "_law_draw" s__law_draw A.a__law_draw A.fd__law_draw
  b__law_draw : Binds K A.fd__law_draw ["_law_state", "_law_many"] []
  g__law_draw : mg "_law_draw" = some (.ref A.a__law_draw)
  F__law_choices : Fun K "_law_choices" "_law_choices" s__law_choices A.a__law_choices A.fd__law_choices
  b__law_choices : Binds K A.fd__law_choices ["_law_many"] []
  g__law_choices : mg "_law_choices" = some (.ref A.a__law_choices)
  F__law_heap : Fun K "_law_heap" "_law_heap" s__law_heap A.a__law_heap A.fd__law_heap
  b__law_heap : Binds K A.fd__law_heap ["_law_state", "_law_size", "_law_top"] []
  g__law_heap : mg "_law_heap" = some (.ref A.a__law_heap)
  F__law_raw_rule : Fun K "_law_raw_rule" "_law_raw_rule" s__law_raw_rule A.a__law_raw_rule A.fd__law_raw_rule
  b__law_raw_rule : Binds K A.fd__law_raw_rule ["_law_state", "_law_many", "_law_size", "_law_top"] []
  g__law_raw_rule : mg "_law_raw_rule" = some (.ref A.a__law_raw_rule)
  F__law_same : Fun K "_law_same" "_law_same" s__law_same A.a__law_same A.fd__law_same
  b__law_same : Binds K A.fd__law_same ["_law_found", "_law_due"] []
  g__law_same : mg "_law_same" = some (.ref A.a__law_same)
  F__law_weight : Fun K "_law_weight" "_law_weight" s__law_weight A.a__law_weight A.fd__law_weight
  b__law_weight : Binds K A.fd__law_weight ["_law_rule", "_law_choice"] []
  g__law_weight : mg "_law_weight" = some (.ref A.a__law_weight)
  F_law : Fun K "law" "law" s_law A.a_law A.fd_law
  b_law : Binds K A.fd_law ["_law_script"] []
  g_law : mg "law" = some (.ref A.a_law)
  b_all : mg "all" = none
  b_any : mg "any" = none
  b_bool : mg "bool" = none
  b_enumerate : mg "enumerate" = none
  b_int : mg "int" = none
  b_isinstance : mg "isinstance" = none
  b_len : mg "len" = none
  b_list : mg "list" = none
  b_max : mg "max" = none
  b_min : mg "min" = none
  b_range : mg "range" = none
  b_set : mg "set" = none
  b_sorted : mg "sorted" = none
  b_str : mg "str" = none
  b_sum : mg "sum" = none
  b_tuple : mg "tuple" = none
  b_zip : mg "zip" = none
section
variable {P : Program} {w : World} {K : PySem.W.Frag} {mg : Str → Option Value} {base : Heap} {A : Adr}
def n_sum_of : List Str := ["heap"]
theorem sc_sum_of : FnScope n_sum_of ["heap"] (defScope s_sum_of) := ⟨rfl, rfl, rfl, by decide +kernel, rfl, by decide +kernel, by decide +kernel⟩
def sp_sum_of (K : PySem.W.Frag) : Sp := fun vs H Q _ => ∃ (a : Addr) (ns : List Int), vs = [.ref a] ∧ SqT K H a (ns.map V.int) ∧ Q (.int ns.sum) H
theorem ok_sum_of (T : Txt K mg A) : FnOk P w K mg base CX0 1 A.a_sum_of A.fd_sum_of ["heap"] (sp_sum_of K) := by
  refine T.F_sum_of.ok sc_sum_of (fun vs H Q E h => ?_) (fun cdv Ar outer s H vs Q E hr h => ?_)
  · obtain ⟨a, ns, rfl, hS, k⟩ := h
    rfl
  · obtain ⟨a, ns, rfl, hS, k⟩ := h
    refine ⟨_, (pss_one (ps_ret (pe_callB (call_sum_ints rfl) rfl T.b_sum boot_sum (pa_cons (pv 0) pa_nil)))), ?_⟩
    exact ⟨_, rfl, a, ns, rfl, .inr hS, k⟩
def n_choices_among : List Str := ["numbers", "choices", "number"]
theorem sc_choices_among : FnScope n_choices_among ["numbers"] (defScope s_choices_among) := ⟨rfl, rfl, rfl, by decide +kernel, rfl, by decide +kernel, by decide +kernel⟩
def sp_choices : Sp := fun vs H Q _ => ∃ (a : Addr) (ns : List Int), vs = [.ref a] ∧ H a = some (.lst (ns.map V.int)) ∧ ns.length ≤ 6 ∧
  ∀ (l : Addr) (xs : List V) (H' : Hp), H' l = some (.lst xs) → All2 Tup1 H' (chG ns) xs → Same H H' → H l = none → Q (.ref l) H'
theorem ok_choices_among (T : Txt K mg A) : FnOk P w K mg base CX0 1 A.a_choices_among A.fd_choices_among ["numbers"] sp_choices := by
  refine T.F_choices_among.ok sc_choices_among (fun vs H Q E h => ?_) (fun cdv Ar outer s H vs Q E hr h => ?_)
  · obtain ⟨a, ns, rfl, ha, hln, k⟩ := h
    rfl
  · obtain ⟨a, ns, rfl, ha, hln, k⟩ := h
    refine ⟨_, (pss_cons (ps_set (i := 1) sc_choices_among.nd rfl (by first | exact Or.inl rfl | exact Or.inr rfl) (pe_lst (pa_cons (pe_tup pa_nil) pa_nil)))
        (pss_cons (ps_for PassesOwn.never rfl (pi_list (pv 0)) (pg_name (i := 2) sc_choices_among.nd rfl (by first | exact Or.inl rfl | exact Or.inr rfl))
          (pss_one (ps_set (i := 1) sc_choices_among.nd rfl (by first | exact Or.inl rfl | exact Or.inr rfl) (pe_op op_cat (pv 1) (pe_comp (ls := ["choice"]) (fr := [("number", 2)]) (cs_of (defScope s_choices_among) n_choices_among rfl rfl (by decide +kernel)) rfl (pi_list (pv 1)) (fun _ _ _ _ => pgc 0 (by decide +kernel) rfl rfl) (fun _ _ _ _ => pf_nil) (fun _ _ _ _ => (pe_op (op_catAK K rfl) (pvc (defScope s_choices_among) 0) (pe_tup (pa_cons (pvc (defScope s_choices_among) 1) pa_nil)))))))))
        (pss_one (ps_ret (pv 1))))), ?_⟩
    refine ⟨by show 0 ≤ sizeLine; decide, fun e he => ⟨by show 1 ≤ sizeLine; decide, fun l0 hl0 => ?_⟩⟩
    have ne0 : H l0 = none := (Same.new he).free hl0
    refine ⟨_, rfl, a, rfl, ⟨_, SqL.of ((Same.new he).trans (Same.new hl0) _ _ ha)⟩, for_list (xs := ns.map V.int) (fun i σ' H' => Same H H' ∧ i ≤ 6 ∧ ∃ l xs v, σ' = [some (.ref a), some (.ref l), v] ∧ H' l = some (.lst xs) ∧ H l = none ∧ All2 Tup1 H' (chG (ns.take i)) xs) ?_ ?_ ?_ ?_⟩
    · refine ⟨(Same.new he).trans (Same.new hl0), Nat.zero_le _, l0, [.ref e], _, rfl, upd_same, ne0, .cons ⟨e, rfl, ?_⟩ .nil⟩
      exact Same.new hl0 _ _ upd_same
    · rintro i σ' H' _ ⟨s, _⟩
      exact SqL.of (s _ _ ha)
    · rintro i x σ' H' hx ⟨s, hi6, l, xs, v, rfl, gl, nl, h2⟩
      obtain ⟨z, hz, rfl⟩ := map_at hx
      have hi := (List.getElem?_eq_some_iff.mp hz).1
      have ez := (List.getElem?_eq_some_iff.mp hz).2
      have hlen := chG_len i (ns.take i) (by rw [List.length_take]; omega)
      have hmem := chG_mem i (ns.take i) (by rw [List.length_take]; omega)
      have hlx : xs.length ≤ 64 := by
        rw [← h2.length, hlen]
        exact Nat.le_trans (Nat.pow_le_pow_right (by decide) hi6) (by decide)
      refine ⟨_, rfl, _, rfl, l, rfl, ⟨_, SqL.of gl⟩, comp_list (xs := xs) (fun j ys σ' H2 => Same H' H2 ∧ (∃ v, σ' = [v, some (.int z)]) ∧ All2 Tup1 H2 (((chG (ns.take i)).take j).map (· ++ [z])) ys) ⟨fun _ _ h => h, ⟨_, rfl⟩, .nil⟩ ?_ ?_ ?_⟩
      · rintro j ys σ' H2 hj ⟨s2, _, h3⟩
        refine ⟨SqL.of (s2 _ _ gl), ?_⟩
        rw [← h3.length, List.length_map, List.length_take]
        refine Nat.le_trans (m := 64) (by omega) (by decide)
      · rintro j x ys σ' H2 hx ⟨s2, ⟨v, rfl⟩, h3⟩
        obtain ⟨hs, hhs, q, rfl, hq⟩ := h2.get hx
        have hj := (List.getElem?_eq_some_iff.mp hhs).1
        have eh := (List.getElem?_eq_some_iff.mp hhs).2
        refine ⟨_, rfl, _, rfl, by show 1 ≤ sizeLine; decide, fun t ht => ?_⟩
        have hl1 : hs.length ≤ 60 := by
          have := (hmem hs (List.mem_of_getElem? hhs)).1
          omega
        refine cat_one (Same.new ht _ _ (s2 _ _ hq)) upd_same hl1 fun v H3 hv s3 => ?_
        have sn := (Same.new (o := .tup [V.int z]) ht).trans s3
        refine ⟨s2.trans sn, ⟨_, rfl⟩, ?_⟩
        rw [List.take_succ_eq_append_getElem hj, List.map_append, eh]
        exact (h3.mv sn.tups).snoc hv
      · rintro ys σ' H2 ⟨s2, ⟨v, rfl⟩, h3⟩ l2 hl2
        have et : (chG (ns.take i)).take xs.length = chG (ns.take i) := by rw [← h2.length, List.take_length]
        rw [et] at h3
        have hly : ys.length ≤ 64 := by
          rw [← h3.length, List.length_map, h2.length]
          exact hlx
        refine ⟨l, l2, xs, ys, rfl, rfl, Same.new hl2 _ _ (s2 _ _ gl), upd_same, Nat.le_trans (m := 128) (by omega) (by decide), fun l3 hl3 => ?_⟩
        have sn := s2.trans ((Same.new (o := .lst ys) hl2).trans (Same.new (o := .lst (xs ++ ys)) hl3))
        refine ⟨s.trans sn, by omega, l3, xs ++ ys, _, rfl, upd_same, (s.trans (s2.trans (Same.new hl2))).free hl3, ?_⟩
        rw [List.take_succ_eq_append_getElem hi, ez, chG_snoc]
        exact (h2.mv sn.tups).append (h3.mv ((Same.new hl2).trans (Same.new hl3)).tups)
    · rintro σ' H' ⟨s, _, l, xs, v, rfl, gl, nl, h2⟩
      rw [List.length_map, List.take_length] at h2
      exact ⟨_, rfl, k l xs H' gl h2 s nl⟩
def n_choices_of : List Str := ["rule"]
theorem sc_choices_of : FnScope n_choices_of ["rule"] (defScope s_choices_of) := ⟨rfl, rfl, rfl, by decide +kernel, rfl, by decide +kernel, by decide +kernel⟩
def sp_choices_of : Sp := fun vs H Q _ => ∃ (a : Addr) (rs : List V), vs = [.ref a] ∧ H a = some (.tup rs) ∧ rs.length ≤ 6 ∧
  ∀ (l : Addr) (xs : List V) (H' : Hp), H' l = some (.lst xs) → All2 Tup1 H' (chG (upto rs.length)) xs → Same H H' → H l = none → Q (.ref l) H'
theorem ok_choices_of (T : Txt K mg A) : FnOk P w K mg base CX0 2 A.a_choices_of A.fd_choices_of ["rule"] sp_choices_of := by
  refine T.F_choices_of.ok sc_choices_of (fun vs H Q E h => ?_) (fun cdv Ar outer s H vs Q E hr h => ?_)
  · obtain ⟨a, rs, rfl, ha, hln, k⟩ := h
    rfl
  · obtain ⟨a, rs, rfl, ha, hln, k⟩ := h
    refine ⟨_, (pss_one (ps_ret (pe_call (ok_choices_among T) (hr.mono (by decide)) rfl T.g_choices_among T.F_choices_among.kp T.b_choices_among .nil pass0 (pa_cons (pe_callTy (call_list_rng rfl) rfl T.b_list boot_list (pa_cons (pe_rng1 rfl T.b_range (pa_cons (pe_callB call_len_seq rfl T.b_len PySem.boot_len (pa_cons (pv 0) pa_nil)) pa_nil)) pa_nil)) pa_nil)))), ?_⟩
    refine ⟨_, rfl, a, _, rfl, .inr (SqT.of ha), _, rfl, fun r hr' => ⟨r, _, rfl, upd_same, by omega, by omega, fun l hl => ?_⟩⟩
    rw [Int.toNat_natCast]
    refine ⟨l, upto rs.length, rfl, upd_same, by rw [upto_len]; exact hln, fun l2 xs H' gl h2 s nl => ?_⟩
    exact k l2 xs H' gl h2 (((Same.new hr').trans (Same.new hl)).trans s) (((Same.new hr').trans (Same.new hl)).free nl)
def n_often : List Str := ["heap", "part"]
theorem sc_often : FnScope n_often ["heap", "part"] (defScope s_often) := ⟨rfl, rfl, rfl, by decide +kernel, rfl, by decide +kernel, by decide +kernel⟩
def sp_often (K : PySem.W.Frag) : Sp := fun vs H Q _ => ∃ (a : Addr) (ns : List Int) (y : Int), vs = [.ref a, .int y] ∧ H a = some (.tup (ns.map V.int)) ∧ Q (.int (ns.count y : Nat)) H
theorem ok_often (T : Txt K mg A) : FnOk P w K mg base CX0 1 A.a_often A.fd_often ["heap", "part"] (sp_often K) := by
  refine T.F_often.ok sc_often (fun vs H Q E h => ?_) (fun cdv Ar outer s H vs Q E hr h => ?_)
  · obtain ⟨a, ns, y, rfl, hS, k⟩ := h
    rfl
  · obtain ⟨a, ns, y, rfl, hS, k⟩ := h
    refine ⟨_, (pss_one (ps_ret (pe_bm PySem.F.plainAttrs_tuple PySem.F.slot_tuple_count PySem.F.type_tuple_count mt_countT (pv 0) (pa_cons (pv 1) pa_nil)))), ?_⟩
    exact ⟨_, rfl, .inr (.inl ⟨rfl, .inr ⟨_, hS⟩⟩), _, rfl, a, _, _, rfl, rfl, SqT.of hS, rfl, flat_ints _, by rw [cntV_ints]; exact k⟩
def n_unlike_parts : List Str := ["heaps", "seen", "heap", "part"]
theorem sc_unlike_parts : FnScope n_unlike_parts ["heaps"] (defScope s_unlike_parts) := ⟨rfl, rfl, rfl, by decide +kernel, rfl, by decide +kernel, by decide +kernel⟩
def sp_unlike : Sp := fun vs H Q _ => ∃ (a : Addr) (o : HO) (xs : List V) (ls : List (List Int)), vs = [.ref a] ∧ (o = .lst xs ∨ o = .tup xs) ∧ H a = some o ∧ All2 Tup1 H ls xs ∧ ls.flatten.length < 1000 ∧
  ∀ (l : Addr) (us : List Int) (H' : Hp), H' l = some (.lst (us.map V.int)) → us.Nodup → us.Pairwise (· ≥ ·) → (∀ x, x ∈ us ↔ x ∈ ls.flatten) → us.length < 1000 → Same H H' → H l = none → Q (.ref l) H'
theorem ok_unlike_parts (T : Txt K mg A) : FnOk P w K mg base CX0 1 A.a_unlike_parts A.fd_unlike_parts ["heaps"] sp_unlike := by
  refine T.F_unlike_parts.ok sc_unlike_parts (fun vs H Q E h => ?_) (fun cdv Ar outer s H vs Q E hr h => ?_)
  · obtain ⟨a, o, xs, ls, rfl, ho, ha, h2, hln, k⟩ := h
    rfl
  · obtain ⟨a, o, xs, ls, rfl, ho, ha, h2, hln, k⟩ := h
    refine ⟨_, (pss_cons (ps_set (i := 1) sc_unlike_parts.nd rfl (by first | exact Or.inl rfl | exact Or.inr rfl) pe_dnewK)
        (pss_cons (ps_for PassesOwn.never rfl (pi_or (pi_list (pv 0)) (pi_tup (pv 0))) (pg_name (i := 2) sc_unlike_parts.nd rfl (by first | exact Or.inl rfl | exact Or.inr rfl))
          (pss_one (ps_for PassesOwn.never rfl (pi_tup (pv 2)) (pg_name (i := 3) sc_unlike_parts.nd rfl (by first | exact Or.inl rfl | exact Or.inr rfl))
          (pss_one (ps_dput (huR hr) (pv 1) (pv 3) pe_bl rfl)))))
        (pss_one (ps_ret (pe_sortDB rfl rfl T.b_sorted (pv 1)))))), ?_⟩
    refine fun d hd => ?_
    have hlc : ∀ i j (x : List Int), ls[i]? = some x → ((ls.take i).flatten ++ x.take j).length < 1000 := fun i j x hx => by
      have hi := (List.getElem?_eq_some_iff.mp hx).1
      have ex := (List.getElem?_eq_some_iff.mp hx).2
      have e1 : ls.flatten = (ls.take i).flatten ++ (x ++ (ls.drop (i + 1)).flatten) := by
        conv => lhs; rw [← List.take_append_drop i ls]
        rw [List.flatten_append, List.drop_eq_getElem_cons hi, ex, List.flatten_cons]
      rw [e1] at hln
      simp only [List.length_append, List.length_take] at hln ⊢
      omega
    have hlen := h2.length
    refine for_seq (xs := xs) ho rfl (Same.new hd _ _ ha) (fun i σ' H' => SeenU H H' d (ls.take i).flatten ∧ ∃ v w, σ' = [some (.ref a), some (.ref d), v, w]) ⟨⟨⟨[], [], upd_same, rfl, .nil, Nat.le_refl _, fun x => Iff.rfl⟩, Same.new hd, hd⟩, _, _, rfl⟩ ?_ ?_ ?_
    · rintro i σ' H' _ ⟨S, _⟩
      exact S.sm _ _ ha
    · rintro i x σ' H' hx ⟨S, v, w', rfl⟩
      obtain ⟨hs, hhs, q, rfl, hq⟩ := h2.get hx
      refine ⟨_, rfl, q, rfl, ⟨_, SqT.of (S.sm _ _ hq)⟩, for_tup (xs := hs.map V.int) (fun j σ' H' => SeenU H H' d ((ls.take i).flatten ++ hs.take j) ∧ ∃ w, σ' = [some (.ref a), some (.ref d), some (.ref q), w]) ⟨by rw [List.take_zero, List.append_nil]; exact S, _, rfl⟩ ?_ ?_ ?_⟩
      · rintro j σ' H2 _ ⟨S2, _⟩
        exact SqT.of (S2.sm _ _ hq)
      · rintro j x σ' H2 hx2 ⟨S2, w2, rfl⟩
        obtain ⟨z, hz, rfl⟩ := map_at hx2
        have hj := (List.getElem?_eq_some_iff.mp hz).1
        have ez := (List.getElem?_eq_some_iff.mp hz).2
        obtain ⟨H3, hp, S3⟩ := S2.put (z := z) (by have := hlc i j hs hhs; omega)
        refine ⟨_, rfl, _, rfl, d, H3, rfl, hp, ?_, _, rfl⟩
        rw [List.take_succ_eq_append_getElem hj, ez, ← List.append_assoc]
        exact S3
      · rintro σ' H2 ⟨S2, w2, rfl⟩
        rw [List.length_map, List.take_length] at S2
        have hi := (List.getElem?_eq_some_iff.mp hhs).1
        have ez := (List.getElem?_eq_some_iff.mp hhs).2
        refine ⟨?_, _, _, rfl⟩
        rw [List.take_succ_eq_append_getElem hi, List.flatten_append, ez]
        simpa using S2
    · rintro σ' H2 ⟨S2, v, w2, rfl⟩
      rw [← hlen, List.take_length] at S2
      obtain ⟨⟨kvs, ns, hd2, hk, hnd, hn, hm⟩, sm, nw⟩ := S2
      refine ⟨_, rfl, d, kvs, ns, rfl, hd2, hk, Nat.le_trans (m := 1000) (by omega) (by decide), fun us l nd hperm hord hl => ?_⟩
      exact k l us _ upd_same (hperm.nodup_iff.mpr nd) hord (fun x => by rw [hperm.mem_iff, hm]) (by rw [hperm.length_eq]; omega) (Same.trans sm (Same.new hl)) (Same.free sm hl)
def n_joined : List Str := ["heaps", "parts", "part"]
theorem sc_joined : FnScope n_joined ["heaps"] (defScope s_joined) := ⟨rfl, rfl, rfl, by decide +kernel, rfl, by decide +kernel, by decide +kernel⟩
def sp_joined : Sp := fun vs H Q _ => ∃ (a : Addr) (xs : List V) (ls : List (List Int)), vs = [.ref a] ∧ H a = some (.lst xs) ∧ All2 Tup1 H ls xs ∧ ls.flatten.length < 1000 ∧ ls.length ≤ 60 ∧
  ∀ (p : Addr) (ms : List Int) (H' : Hp), H' p = some (.tup (ms.map V.int)) → IsJoin ls ms → ms.length < 1000 → Same H H' → H p = none → Q (.ref p) H'
theorem ok_joined (T : Txt K mg A) : FnOk P w K mg base CX0 2 A.a_joined A.fd_joined ["heaps"] sp_joined := by
  refine T.F_joined.ok sc_joined (fun vs H Q E h => ?_) (fun cdv Ar outer s H vs Q E hr h => ?_)
  · obtain ⟨a, xs, ls, rfl, ha, h2, hln, hls, k⟩ := h
    rfl
  · obtain ⟨a, xs, ls, rfl, ha, h2, hln, hls, k⟩ := h
    refine ⟨_, (pss_cons (ps_set (i := 1) sc_joined.nd rfl (by first | exact Or.inl rfl | exact Or.inr rfl) (pe_lst pa_nil))
        (pss_cons (ps_for PassesOwn.never rfl (pi_list (pe_call (ok_unlike_parts T) (hr.mono (by decide)) rfl T.g_unlike_parts T.F_unlike_parts.kp T.b_unlike_parts .nil pass0 (pa_cons (pv 0) pa_nil))) (pg_name (i := 2) sc_joined.nd rfl (by first | exact Or.inl rfl | exact Or.inr rfl))
          (pss_one (ps_expr (pe_bm PySem.F.plainAttrs_list PySem.F.slot_list_extend PySem.F.type_list_extend mt_extend (pv 1) (pa_cons (pe_op op_rep (pe_lst (pa_cons (pv 2 (hv := Or.inr (Or.inl rfl))) pa_nil)) (pe_callB (call_max_ints rfl) rfl T.b_max boot_max (pa_cons (pe_comp (ls := ["heap"]) (fr := [("part", 2)]) (cs_of (defScope s_joined) n_joined rfl rfl (by decide +kernel)) rfl (pi_list (pv 0)) (fun _ _ _ _ => pgc 0 (by decide +kernel) rfl rfl) (fun _ _ _ _ => pf_nil) (fun _ _ _ _ => (pe_call (ok_often T) (hr.mono (by decide)) (glc (defScope s_joined)) T.g_often T.F_often.kp T.b_often .nil pass0 (pa_cons (pvc (defScope s_joined) 0) (pa_cons (pvc (defScope s_joined) 1) pa_nil))))) pa_nil))) pa_nil)))))
        (pss_one (ps_ret (pe_callTy call_tuple_of rfl T.b_tuple boot_tuple (pa_cons (pv 1) pa_nil)))))), ?_⟩
    refine ⟨by show 0 ≤ sizeLine; decide, fun pa hpa => ?_⟩
    have h2a := h2.mv (Same.new (o := .lst []) hpa).tups
    refine ⟨_, rfl, a, _, xs, ls, rfl, .inl rfl, Same.new hpa _ _ ha, h2a, hln, fun l us H1 hl nd pw hm hul s1 nl => ?_⟩
    have s01 : Same H H1 := (Same.new hpa).trans s1
    have npl : pa ≠ l := ne_of_none (upd_same (H := H) (a := pa) (o := .lst [])) nl
    refine ⟨l, rfl, ⟨_, SqL.of hl⟩, for_list (xs := us.map V.int) (fun i σ' H' => (∀ b o, H1 b = some o → b ≠ pa → H' b = some o) ∧ H' pa = some (.lst ((blow (maxC ls) (us.take i)).map V.int)) ∧ (blow (maxC ls) (us.take i)).length ≤ 1000 * i ∧ i ≤ 1000 ∧ ∃ v, σ' = [some (.ref a), some (.ref pa), v]) ⟨fun _ _ h _ => h, s1 _ _ upd_same, Nat.le_refl _, Nat.zero_le _, _, rfl⟩ ?_ ?_ ?_⟩
    · rintro i σ' H' _ ⟨kp, _⟩
      exact SqL.of (kp _ _ hl npl.symm)
    · rintro i x σ' H' hx ⟨kp, gp, hle, hi64, v, rfl⟩
      obtain ⟨z, hz, rfl⟩ := map_at hx
      have hi := (List.getElem?_eq_some_iff.mp hz).1
      have ez := (List.getElem?_eq_some_iff.mp hz).2
      have ha' : H' a = some (.lst xs) := kp _ _ (s01 _ _ ha) (ne_of_none ha hpa)
      have t1 : Tups H H' := fun b ys e => kp _ _ (s01 _ _ e) (ne_of_none e hpa)
      have h2' := h2.mv t1
      have zm : z ∈ ls.flatten := (hm z).mp (List.mem_of_getElem? hz)
      refine ⟨_, rfl, .inl ⟨rfl, _, SqL.of gp⟩, _, rfl, by show 1 ≤ sizeLine; decide, fun l1 hl1 => ?_⟩
      have h2b := h2'.mv (Same.new (o := .lst [V.int z]) hl1).tups
      have hab := (Same.new (o := .lst [V.int z]) hl1) _ _ ha'
      have gpb := (Same.new (o := .lst [V.int z]) hl1) _ _ gp
      generalize hHb : upd H' l1 (.lst [V.int z]) = Hb at h2b hab gpb
      have gl1 : Hb l1 = some (.lst [V.int z]) := by rw [← hHb]; exact upd_same
      have sb : Same H' Hb := by rw [← hHb]; exact Same.new hl1
      refine ⟨_, rfl, a, rfl, ⟨_, SqL.of hab⟩, comp_list (xs := xs) (fun j ys σ' H' => H' = Hb ∧ (∃ v, σ' = [v, some (.int z)]) ∧ ys = ((ls.take j).map fun h => ((h.count z : Nat) : Int)).map V.int) ⟨rfl, ⟨_, rfl⟩, rfl⟩ ?_ ?_ ?_⟩
      · rintro j ys σ' H'' hj ⟨rfl, _, rfl⟩
        refine ⟨SqL.of hab, ?_⟩
        rw [List.length_map, List.length_map, List.length_take]
        exact small64 (by omega)
      · rintro j x ys σ' H'' hx ⟨rfl, ⟨v, rfl⟩, rfl⟩
        obtain ⟨hs, hhs, q, rfl, hq⟩ := h2b.get hx
        have hj := (List.getElem?_eq_some_iff.mp hhs).1
        have eh := (List.getElem?_eq_some_iff.mp hhs).2
        refine ⟨_, rfl, _, rfl, q, hs, z, rfl, hq, rfl, ⟨_, rfl⟩, ?_⟩
        rw [List.take_succ_eq_append_getElem hj, List.map_append, List.map_append, eh]
        rfl
      · rintro ys σ' Hb ⟨rfl, _, rfl⟩ l2 hl2
        have elen : ls.take xs.length = ls := by rw [← h2.length, List.take_length]
        rw [elen]
        have hne : (ls.map fun h => ((h.count z : Nat) : Int)) ≠ [] := fun e => by
          have : ls = [] := List.map_eq_nil_iff.mp e
          rw [this] at zm
          cases zm
        refine ⟨l2, _, rfl, SqL.of upd_same, hne, fun m hmx => ?_⟩
        have em := max_of_counts hmx
        have hM : maxC ls z ≤ 1000 := by
          have h1 := maxC_flat ls z
          have h2 := List.count_le_length (a := z) (l := ls.flatten)
          omega
        refine ⟨l1, m, [V.int z], rfl, rfl, Same.new hl2 _ _ gl1, by omega, by omega, ?_, fun l3 hl3 => ?_⟩
        · show 1 * m.toNat ≤ sizeLine
          refine Nat.le_trans (m := 1000) (by omega) (by decide)
        have er : (List.replicate m.toNat [V.int z]).flatten = (List.replicate (maxC ls z) z).map V.int := by
          have : m.toNat = maxC ls z := by omega
          rw [this]
          simp
        rw [er]
        have gp3 := (Same.new (o := .lst ((List.replicate (maxC ls z) z).map V.int)) hl3) _ _ ((Same.new (o := .lst ((ls.map fun h => ((h.count z : Nat) : Int)).map V.int)) hl2) _ _ gpb)
        have sn : Same H' (upd (upd Hb l2 (.lst ((ls.map fun h => ((h.count z : Nat) : Int)).map V.int))) l3 (.lst ((List.replicate (maxC ls z) z).map V.int))) := sb.trans ((Same.new hl2).trans (Same.new hl3))
        refine ⟨pa, l3, _, _, rfl, rfl, gp3, upd_same, ?_, ?_⟩
        · rw [List.length_map, List.length_map, List.length_replicate]
          refine Nat.le_trans (m := 1000 * 1000 + 1000) ?_ (by decide)
          have : 1000 * i ≤ 1000 * 1000 := Nat.mul_le_mul_left _ hi64
          omega
        · have eb : blow (maxC ls) (us.take (i + 1)) = blow (maxC ls) (us.take i) ++ List.replicate (maxC ls z) z := by
            rw [List.take_succ_eq_append_getElem hi, blow_append, ez]
            simp [blow]
          refine ⟨fun b o e ne => ?_, ?_, ?_, by omega, _, rfl⟩
          · rw [upd_ne ne]
            exact sn _ _ (kp _ _ e ne)
          · rw [upd_same, eb, List.map_append]
          · rw [eb, List.length_append, List.length_replicate]
            omega
    · rintro σ' H' ⟨kp, gp, hle, _, v, rfl⟩
      rw [List.length_map, List.take_length] at gp hle
      refine ⟨_, rfl, pa, _, rfl, .inl ⟨SqL.of gp, fun p hp => ?_⟩⟩
      have sH : Same H H' := fun b o e => kp _ _ (s01 _ _ e) (ne_of_none e hpa)
      refine k p _ _ upd_same (blow_join nd pw hm) (Nat.lt_of_le_of_lt (blow_join nd pw hm).len hln) (sH.trans (Same.new hp)) (sH.free hp)
def n_joined_of : List Str := ["rule", "choice"]
theorem sc_joined_of : FnScope n_joined_of ["rule", "choice"] (defScope s_joined_of) := ⟨rfl, rfl, rfl, by decide +kernel, rfl, by decide +kernel, by decide +kernel⟩
def sp_joined_of : Sp := fun vs H Q _ => ∃ (p c : Addr) (rs : List V) (rule : List (List Int)) (ch : List Int), vs = [.ref p, .ref c] ∧ H p = some (.tup rs) ∧ All2 Tup1 H rule rs ∧ H c = some (.tup (ch.map V.int)) ∧
  ((pickG rule ch).flatten.length < 1000 ∧ ch.length ≤ 60) ∧ (∀ j ∈ ch, 0 ≤ j ∧ j < rule.length) ∧
  ∀ (q : Addr) (ms : List Int) (H' : Hp), H' q = some (.tup (ms.map V.int)) → IsJoin (pickG rule ch) ms → ms.length < 1000 → Same H H' → H q = none → Q (.ref q) H'
theorem ok_joined_of (T : Txt K mg A) : FnOk P w K mg base CX0 3 A.a_joined_of A.fd_joined_of ["rule", "choice"] sp_joined_of := by
  refine T.F_joined_of.ok sc_joined_of (fun vs H Q E h => ?_) (fun cdv Ar outer s H vs Q E hr h => ?_)
  · obtain ⟨p, c, rs, rule, ch, rfl, hp, h2, hc, hln, hch, k⟩ := h
    rfl
  · obtain ⟨p, c, rs, rule, ch, rfl, hp, h2, hc, hln, hch, k⟩ := h
    refine ⟨_, (pss_one (ps_ret (pe_call (ok_joined T) (hr.mono (by decide)) rfl T.g_joined T.F_joined.kp T.b_joined .nil pass0 (pa_cons (pe_comp (ls := ["number"]) (fr := [("rule", 0)]) (cs_of (defScope s_joined_of) n_joined_of rfl rfl (by decide +kernel)) rfl (pi_tup (pv 1)) (fun _ _ _ _ => pgc 0 (by decide +kernel) rfl rfl) (fun _ _ _ _ => pf_nil) (fun _ _ _ _ => (pe_ix (ix_tupK K rfl) (pvc (defScope s_joined_of) 1) (pvc (defScope s_joined_of) 0) (fun _ _ => rfl)))) pa_nil)))), ?_⟩
    refine ⟨_, rfl, c, rfl, ⟨_, SqT.of hc⟩, comp_tup (xs := ch.map V.int) (fun i ys σ' H' => H' = H ∧ (∃ v, σ' = [v, some (.ref p)]) ∧ All2 Tup1 H (pickG rule (ch.take i)) ys) ⟨rfl, ⟨_, rfl⟩, .nil⟩ ?_ ?_ ?_⟩
    · rintro i ys σ' H' hi ⟨rfl, _, h3⟩
      refine ⟨SqT.of hc, ?_⟩
      rw [← h3.length]
      unfold pickG
      rw [List.length_map, List.length_take]
      exact small64 (by omega)
    · rintro i x ys σ' H' hx ⟨rfl, ⟨v, rfl⟩, h3⟩
      obtain ⟨z, hz, rfl⟩ := map_at hx
      have hi := (List.getElem?_eq_some_iff.mp hz).1
      have ez := (List.getElem?_eq_some_iff.mp hz).2
      have hb := hch z (List.mem_of_getElem? hz)
      obtain ⟨w', hw, r⟩ := pick_at h2 hb.1 hb.2
      refine ⟨_, rfl, _, rfl, p, _, z, _, rfl, rfl, SqT.of hp, hw, rfl, ⟨_, rfl⟩, ?_⟩
      rw [List.take_succ_eq_append_getElem hi, ez]
      unfold pickG
      rw [List.map_append]
      exact h3.snoc r
    · rintro ys σ' H' ⟨rfl, _, h3⟩ l hl
      rw [List.length_map, List.take_length] at h3
      have hll : (pickG rule ch).length ≤ 60 := by unfold pickG; rw [List.length_map]; exact hln.2
      exact ⟨l, ys, _, rfl, upd_same, h3.mv (Same.new hl).tups, hln.1, hll, fun q ms H2 gq hj hl4 s nq => k q ms H2 gq hj hl4 ((Same.new hl).trans s) ((Same.new hl).free nq)⟩
def n_sums_of : List Str := ["rule"]
theorem sc_sums_of : FnScope n_sums_of ["rule"] (defScope s_sums_of) := ⟨rfl, rfl, rfl, by decide +kernel, rfl, by decide +kernel, by decide +kernel⟩
def CS (z : List Int × Int) (v : V) (H : Hp) : Prop := ∃ q c, v = .ref q ∧ H q = some (.tup [.ref c, .int z.2]) ∧ H c = some (.tup (z.1.map V.int))
theorem CS.mv {H H' : Hp} {z : List Int × Int} {v : V} (t : Tups H H') : CS z v H → CS z v H'
  | ⟨q, c, e, h1, h2⟩ => ⟨q, c, e, t _ _ h1, t _ _ h2⟩
theorem CS.sm {H : Hp} {n : Nat} {z : List Int × Int} {x y : V} (hl : z.1.length ≤ 100000) (h1 : CS z x H) (h2 : CS z y H) : SmG (n + 3) H x y := by
  obtain ⟨q, c, rfl, a1, a2⟩ := h1
  obtain ⟨q', c', rfl, b1, b2⟩ := h2
  exact .pair a1 b1 (.ints a2 b2 hl) (.int _)
noncomputable def sumX (rule : List (List Int)) (c : List Int) : Int := (joinX (pickG rule c)).sum
def sp_sums_of : Sp := fun vs H Q _ => ∃ (p : Addr) (rs : List V) (rule : List (List Int)), vs = [.ref p] ∧ H p = some (.tup rs) ∧ All2 Tup1 H rule rs ∧ rule.length ≤ 6 ∧ RuleB rule ∧
  ∀ (l : Addr) (xs : List V) (H' : Hp), H' l = some (.lst xs) → All2 CS H' ((chG (upto rule.length)).map fun c => (c, sumX rule c)) xs → Same H H' → H l = none → Q (.ref l) H'
theorem ok_sums_of (T : Txt K mg A) : FnOk P w K mg base CX0 4 A.a_sums_of A.fd_sums_of ["rule"] sp_sums_of := by
  refine T.F_sums_of.ok sc_sums_of (fun vs H Q E h => ?_) (fun cdv Ar outer s H vs Q E hr h => ?_)
  · obtain ⟨p, rs, rule, rfl, hp, h2, h6, hJ, k⟩ := h
    rfl
  · obtain ⟨p, rs, rule, rfl, hp, h2, h6, hJ, k⟩ := h
    refine ⟨_, (pss_one (ps_ret (pe_comp (ls := ["choice"]) (fr := [("rule", 0)]) (cs_of (defScope s_sums_of) n_sums_of rfl rfl (by decide +kernel)) rfl (pi_list (pe_call (ok_choices_of T) (hr.mono (by decide)) rfl T.g_choices_of T.F_choices_of.kp T.b_choices_of .nil pass0 (pa_cons (pv 0 (hv := Or.inr (Or.inl rfl))) pa_nil))) (fun _ _ _ _ => pgc 0 (by decide +kernel) rfl rfl) (fun _ _ _ _ => pf_nil) (fun _ _ _ _ => (pe_tup (pa_cons (pvc (defScope s_sums_of) 0) (pa_cons (pe_call (ok_sum_of T) (hr.mono (by decide)) (glc (defScope s_sums_of)) T.g_sum_of T.F_sum_of.kp T.b_sum_of .nil pass0 (pa_cons (pe_call (ok_joined_of T) (hr.mono (by decide)) (glc (defScope s_sums_of)) T.g_joined_of T.F_joined_of.kp T.b_joined_of .nil pass0 (pa_cons (pvc (defScope s_sums_of) 1) (pa_cons (pvc (defScope s_sums_of) 0) pa_nil))) pa_nil)) pa_nil))))))), ?_⟩
    have hrl := h2.length
    refine ⟨_, rfl, p, rs, rfl, hp, by omega, fun cl cs H1 gc h4 s1 ncl => ?_⟩
    rw [← hrl] at h4
    have hcl := h4.length
    have h64 : (chG (upto rule.length)).length ≤ 64 := by
      rw [chG_len _ _ (upto_len _)]
      exact Nat.le_trans (Nat.pow_le_pow_right (by decide) h6) (by decide)
    refine ⟨cl, rfl, ⟨_, SqL.of gc⟩, compK_mapL CS ((chG (upto rule.length)).map fun c => (c, sumX rule c)) [some (.ref p)] (by rw [List.length_map]; exact hcl) (Nat.le_trans (m := 64) (by omega) (by decide)) (fun _ _ _ _ s h => h.mv s.tups) rfl gc (fun j x b H' P hx hb s' hP => ?_) (fun zs H2 l s2 a2 hl => ?_)⟩
    · obtain ⟨ch, hch, c, rfl, gcc⟩ := h4.get hx
      rw [List.getElem?_map, hch] at hb
      have s02 := s1.trans s'
      obtain ⟨cm1, cm2⟩ := chG_mem rule.length (upto rule.length) (upto_len _) ch (List.mem_of_getElem? hch)
      have chb : ∀ j ∈ ch, 0 ≤ j ∧ j < rule.length := fun j hj => by
        have := upto_mem (cm2 j hj)
        omega
      refine ⟨_, rfl, _, rfl, _, rfl, p, c, rs, rule, ch, rfl, s02 _ _ hp, h2.mv s02.tups, s' _ _ gcc, ⟨hJ.pick (by omega), by omega⟩, chb, fun q ms H4 gq hj hl4 s4 nq => ?_⟩
      have ej := joinX_eq hj
      refine ⟨q, ms, rfl, SqT.of gq, by show 2 ≤ sizeLine; decide, fun T1 hT1 => ?_⟩
      have s5 := Same.new (o := .tup [V.ref c, V.int ms.sum]) hT1
      refine hP _ _ (s4.trans s5) ?_
      rw [← Option.some.inj hb]
      refine ⟨T1, c, rfl, ?_, s5 _ _ (s4 _ _ (s' _ _ gcc))⟩
      rw [upd_same]
      show _ = some (HO.tup [V.ref c, V.int (sumX rule ch)])
      unfold sumX
      rw [ej]
    · exact k l zs _ upd_same (a2.imp fun _ _ h => h.mv (Same.new hl).tups) (s1.trans (s2.trans (Same.new hl))) ((s1.trans s2).free hl)
def n_holders_of : List Str := ["rule", "part", "dot"]
theorem sc_holders_of : FnScope n_holders_of ["rule", "part", "dot"] (defScope s_holders_of) := ⟨rfl, rfl, rfl, by decide +kernel, rfl, by decide +kernel, by decide +kernel⟩
def holdP (rule : List (List Int)) (y : Int) (d i : Nat) : List Int := (upto i).filter fun i => decide (d ≤ (rule.getD i.toNat []).count y)
theorem holdP_succ (rule : List (List Int)) (y : Int) (d i : Nat) : holdP rule y d (i + 1) = holdP rule y d i ++ if d ≤ (rule.getD i []).count y then [(i : Int)] else [] := by
  unfold holdP
  rw [upto_succ, List.filter_append, List.filter_cons]
  by_cases h : d ≤ (rule.getD i []).count y
  · rw [if_pos (decide_eq_true (by rw [show ((i : Nat) : Int).toNat = i by omega]; exact h)), if_pos h]; rfl
  · rw [if_neg (fun z => h (by have := of_decide_eq_true z; rw [show ((i : Nat) : Int).toNat = i by omega] at this; exact this)), if_neg h]; rfl
def sp_holders : Sp := fun vs H Q _ => ∃ (p : Addr) (rs : List V) (rule : List (List Int)) (y : Int) (d : Nat), vs = [.ref p, .int y, .int (d : Int)] ∧ H p = some (.tup rs) ∧ All2 Tup1 H rule rs ∧ rule.length ≤ 60 ∧
  ∀ (t : Addr) (H' : Hp), H' t = some (.tup ((holdG rule y d).map V.int)) → Same H H' → H t = none → Q (.ref t) H'
theorem ok_holders_of (T : Txt K mg A) : FnOk P w K mg base CX0 2 A.a_holders_of A.fd_holders_of ["rule", "part", "dot"] sp_holders := by
  refine T.F_holders_of.ok sc_holders_of (fun vs H Q E h => ?_) (fun cdv Ar outer s H vs Q E hr h => ?_)
  · obtain ⟨p, rs, rule, y, d, rfl, hp, h2, hln, k⟩ := h
    rfl
  · obtain ⟨p, rs, rule, y, d, rfl, hp, h2, hln, k⟩ := h
    refine ⟨_, (pss_one (ps_ret (pe_callTy call_tuple_of rfl T.b_tuple boot_tuple (pa_cons (pe_comp (ls := ["number", "heap"]) (fr := [("dot", 2), ("part", 1)]) (cs_of (defScope s_holders_of) n_holders_of rfl rfl (by decide +kernel)) rfl (pi_enum true rfl T.b_enumerate (pa_cons (pv 0) pa_nil)) (fun _ _ _ _ => pg_tupC 2 rfl (pgs_cons (pgc (ls := ["number", "heap"]) (fr := [("dot", 2), ("part", 1)]) 0 (by decide +kernel) rfl rfl) (pgs_cons (pgc (ls := ["number", "heap"]) (fr := [("dot", 2), ("part", 1)]) 1 (by decide +kernel) rfl rfl) pgs_nil)) rfl rfl) (fun _ _ _ _ => pf_one (pt_cmpR op_ge (pe_call (ok_often T) (hr.mono (by decide)) (glc (defScope s_holders_of)) T.g_often T.F_often.kp T.b_often .nil pass0 (pa_cons (pvc (defScope s_holders_of) 1) (pa_cons (pvc (defScope s_holders_of) 3) pa_nil))) (pvc (defScope s_holders_of) 2) (nomark _))) (fun _ _ _ _ => (pvc (defScope s_holders_of) 0))) pa_nil)))), ?_⟩
    refine ⟨_, rfl, p, rfl, ⟨_, SqT.of hp⟩, comp_enum (k := true) (xs := rs) (fun i zs σ' H' => Same H H' ∧ (∃ v w, σ' = [v, w, some (.int (d : Int)), some (.int y)]) ∧ zs = (holdP rule y d i).map V.int) ⟨fun _ _ h => h, ⟨_, _, rfl⟩, rfl⟩ ?_ ?_ ?_⟩
    · rintro i zs σ' H' hi ⟨s, _, rfl⟩
      refine ⟨SqT.of (s _ _ hp), ?_⟩
      rw [List.length_map]
      have h1 : (holdP rule y d i).length ≤ i := Nat.le_trans (List.length_filter_le ..) (Nat.le_of_eq (upto_len i))
      have h2 := h2.length
      exact small64 (by omega)
    · rintro i x zs σ' H' T' hx ⟨s, ⟨v, w', rfl⟩, rfl⟩ hT
      obtain ⟨hs1, hh1, q1, rfl, hq1⟩ := h2.get hx
      have e1 : rule.getD i [] = hs1 := by simp [hh1]
      refine ⟨T', _, rfl, SqT.of upd_same, rfl, _, _, rfl, _, _, rfl, rfl, ?_⟩
      have sn := s.trans (Same.new (o := .tup [.int i, .ref q1]) hT)
      refine ⟨_, rfl, _, rfl, q1, hs1, y, rfl, sn _ _ hq1, _, rfl, _, _, rfl, rfl, _, rfl, ?_⟩
      refine ite2 (fun hc => ⟨_, rfl, sn, ⟨_, _, rfl⟩, ?_⟩) (fun hc => ⟨sn, ⟨_, _, rfl⟩, ?_⟩)
      · have hc' : d ≤ hs1.count y := by
          have := of_decide_eq_true hc
          omega
        rw [holdP_succ, e1, if_pos hc', List.map_append]
        rfl
      · have hc' : ¬ d ≤ hs1.count y := fun z => hc (decide_eq_true (by omega))
        rw [holdP_succ, e1, if_neg hc', List.append_nil]
    · rintro zs σ' H' ⟨s, _, rfl⟩ l hl
      rw [← h2.length]
      refine ⟨l, _, rfl, .inl ⟨SqL.of upd_same, fun t ht => ?_⟩⟩
      exact k t _ upd_same (s.trans ((Same.new hl).trans (Same.new ht))) ((s.trans (Same.new hl)).free ht)
def n_weights_of : List Str := ["rule", "weights", "part", "dot", "holders"]
theorem sc_weights_of : FnScope n_weights_of ["rule"] (defScope s_weights_of) := ⟨rfl, rfl, rfl, by decide +kernel, rfl, by decide +kernel, by decide +kernel⟩
def keyC (c : List Int) : List Key := c.map Sum.inl
theorem keyC_kV (c : List Int) : (keyC c).map kV = c.map V.int := by
  unfold keyC
  rw [List.map_map]
  rfl
theorem keyC_inj {a b : List Int} (h : keyC a = keyC b) : a = b := (List.map_inj_right fun _ _ e => Sum.inl.inj e).mp h
structure TTab (kvs : List (List Key × V)) (f : List Int → Int) : Prop where
  val : ∀ c : List Int, (valV kvs (keyC c)).getD (.int 0) = .int (f c)
theorem TTab.nil : TTab [] (fun _ => 0) := ⟨fun _ => rfl⟩
theorem TTab.put {kvs : List (List Key × V)} {f : List Int → Int} (d : TTab kvs f) (h : List Int) (y : Int) : TTab (putK kvs (keyC h) (.int (f h + y))) (fun c => f c + if h = c then y else 0) := ⟨fun c => by
  rw [valV_put]
  by_cases e : c = h
  · subst e
    rw [if_pos rfl, if_pos rfl]; rfl
  · rw [if_neg fun z => e (keyC_inj z), d.val, if_neg fun z => e z.symm, Int.add_zero]⟩
theorem TTab.congr {kvs : List (List Key × V)} {f g : List Int → Int} (d : TTab kvs f) (h : ∀ c, f c = g c) : TTab kvs g := ⟨fun c => by rw [d.val, h]⟩
def sp_weights_of : Sp := fun vs H Q _ => ∃ (p : Addr) (rs : List V) (rule : List (List Int)), vs = [.ref p] ∧ H p = some (.tup rs) ∧ All2 Tup1 H rule rs ∧ rule.length ≤ 6 ∧ rule.flatten.length < 1000 ∧
  ∀ (us : List Int) (l : Addr) (xs : List V) (H' : Hp), us.Nodup → (∀ x, x ∈ us ↔ x ∈ rule.flatten) → H' l = some (.lst xs) → All2 CS H' (((chG (upto rule.length)).filter fun c => decide (0 < c.length)).map fun c => (c, wtG rule us c)) xs → Same H H' → H l = none → Q (.ref l) H'
theorem ok_weights_of (T : Txt K mg A) : FnOk P w K mg base CX0 6 A.a_weights_of A.fd_weights_of ["rule"] sp_weights_of := by
  refine T.F_weights_of.ok sc_weights_of (fun vs H Q E h => ?_) (fun cdv Ar outer s H vs Q E hr h => ?_)
  · obtain ⟨p, rs, rule, rfl, hp, h2, h6, hfl, k⟩ := h
    rfl
  · obtain ⟨p, rs, rule, rfl, hp, h2, h6, hfl, k⟩ := h
    refine ⟨_, (pss_cons (ps_set (i := 1) sc_weights_of.nd rfl (by first | exact Or.inl rfl | exact Or.inr rfl) pe_dnewT)
        (pss_cons (ps_for PassesOwn.never rfl (pi_list (pe_call (ok_unlike_parts T) (hr.mono (by decide)) rfl T.g_unlike_parts T.F_unlike_parts.kp T.b_unlike_parts .nil pass0 (pa_cons (pv 0) pa_nil))) (pg_name (i := 2) sc_weights_of.nd rfl (by first | exact Or.inl rfl | exact Or.inr rfl))
          (pss_cons (ps_set (i := 3) sc_weights_of.nd rfl (by first | exact Or.inl rfl | exact Or.inr rfl) pe_int)
        (pss_cons (ps_set (i := 4) sc_weights_of.nd rfl (by first | exact Or.inl rfl | exact Or.inr rfl) (pe_call (ok_holders_of T) (hr.mono (by decide)) rfl T.g_holders_of T.F_holders_of.kp T.b_holders_of .nil pass0 (pa_cons (pv 0) (pa_cons (pv 2) (pa_cons (pv 3) pa_nil)))))
        (pss_one (ps_while PassesOwn.never (pt_cmpR op_gt (pe_callB call_len_seq rfl T.b_len PySem.boot_len (pa_cons (pv 4) pa_nil)) pe_int (nomark _))
          (pss_cons (ps_dput (huR hr) (pv 1 (hv := Or.inr (Or.inl rfl))) (pv 4) (pe_op op_add (pe_dget2 (huR hr) (pv 1 (hv := Or.inr (Or.inl rfl))) (pv 4) pe_int ⟨rfl, rfl, rfl, rfl⟩) (pv 2)) rfl)
        (pss_cons (ps_aug (i := 3) sc_weights_of.nd rfl (by first | exact Or.inl rfl | exact Or.inr rfl) pe_int ip_add)
        (pss_one (ps_set (i := 4) sc_weights_of.nd rfl (by first | exact Or.inl rfl | exact Or.inr rfl) (pe_call (ok_holders_of T) (hr.mono (by decide)) rfl T.g_holders_of T.F_holders_of.kp T.b_holders_of .nil pass0 (pa_cons (pv 0) (pa_cons (pv 2) (pa_cons (pv 3) pa_nil)))))))))))))
        (pss_one (ps_ret (pe_comp (ls := ["choice"]) (fr := [("weights", 1)]) (cs_of (defScope s_weights_of) n_weights_of rfl rfl (by decide +kernel)) rfl (pi_list (pe_call (ok_choices_of T) (hr.mono (by decide)) rfl T.g_choices_of T.F_choices_of.kp T.b_choices_of .nil pass0 (pa_cons (pv 0) pa_nil))) (fun _ _ _ _ => pgc 0 (by decide +kernel) rfl rfl) (fun _ _ _ _ => pf_one (pt_cmpR op_gt (pe_callB (call_len_seqK K rfl) (glc (defScope s_weights_of)) T.b_len PySem.boot_len (pa_cons (pvc (defScope s_weights_of) 0) pa_nil)) pe_int (nomark _))) (fun _ _ _ _ => (pe_tup (pa_cons (pvc (defScope s_weights_of) 0) (pa_cons (pe_dget2 (huR hr) (pvc (defScope s_weights_of) 1) (pvc (defScope s_weights_of) 0) pe_int ⟨rfl, rfl, rfl, rfl⟩) pa_nil))))))))), ?_⟩
    have hrl := h2.length
    intro d hd
    have s1 := Same.new (o := .dT []) hd
    refine ⟨_, rfl, p, .tup rs, rs, rule, rfl, .inr rfl, s1 _ _ hp, h2.mv s1.tups, hfl, fun l us H2 gl hnd hpw hmem hul s2 nl => ?_⟩
    have g0 := s2 _ _ (upd_same (H := H) (a := d) (o := .dT []))
    have ndl : d ≠ l := fun e => by rw [e, gl] at g0; cases g0
    refine ⟨l, rfl, ⟨_, SqL.of gl⟩, for_list (xs := us.map V.int) (fun i σ' H' => ∃ kvs v2 v3 v4, σ' = [some (.ref p), some (.ref d), v2, v3, v4] ∧ H' d = some (.dT kvs) ∧ TTab kvs (wtG rule (us.take i)) ∧ kvs.length ≤ 1000 * i ∧ i ≤ us.length ∧ Same H H' ∧ H' l = some (.lst (us.map V.int))) ⟨[], _, _, _, rfl, g0, TTab.nil, Nat.zero_le _, Nat.zero_le _, s1.trans s2, gl⟩ ?_ ?_ ?_⟩
    · rintro i σ' H' _ ⟨_, _, _, _, rfl, _, _, _, _, _, gl'⟩
      exact SqL.of gl'
    · rintro i x σ' H' hx ⟨kvs, v2, v3, v4, rfl, gd, dt, hkl, hil, s, gl'⟩
      obtain ⟨y, hy, rfl⟩ := map_at hx
      have hi := (List.getElem?_eq_some_iff.mp hy).1
      refine ⟨_, rfl, _, rfl, _, rfl, p, rs, rule, y, 1, rfl, s _ _ hp, h2.mv s.tups, by omega, fun t H3 gt s3 nt => ?_⟩
      refine ⟨fun m σ' H' => ∃ (T : Nat) (kvs : List (List Key × V)) (t : Addr), m = maxC rule y - T ∧ T ≤ maxC rule y ∧ σ' = [some (.ref p), some (.ref d), some (.int y), some (.int ((T + 1 : Nat) : Int)), some (.ref t)] ∧ H' d = some (.dT kvs) ∧ TTab kvs (fun c => wtG rule (us.take i) c + y * (dotsG rule y T c : Int)) ∧ kvs.length ≤ 1000 * i + T ∧ H' t = some (.tup ((holdG rule y (T + 1)).map V.int)) ∧ Same H H' ∧ H' l = some (.lst (us.map V.int)), ⟨_, 0, kvs, t, rfl, Nat.zero_le _, rfl, s3 _ _ gd, dt.congr fun c => (by show _ = _ + y * ((0 : Nat) : Int); omega), hkl, gt, s.trans s3, s3 _ _ gl'⟩, ?_⟩
      have hmx : maxC rule y < 1000 := Nat.lt_of_le_of_lt (maxC_flat rule y) (Nat.lt_of_le_of_lt List.count_le_length hfl)
      clear gd dt hkl gt s s3 gl' nt kvs
      rintro m σ' H4 ⟨T, kvs, t, rfl, hT, rfl, gd, dt, hkl, gt, s, gl'⟩
      refine ⟨_, rfl, t, _, rfl, .inr (SqT.of gt), _, _, rfl, rfl, _, rfl, ite2 (fun hc => ?_) (fun hc => ?_)⟩
      · have hne : holdG rule y (T + 1) ≠ [] := fun e => by
          rw [e] at hc
          cases of_decide_eq_true hc
        have hTl : T < maxC rule y := Nat.lt_of_not_le fun z => hne (holdG_nil.mpr z)
        refine ⟨_, fun σ' H' h => h, ?_⟩
        have gtk : H4 t = some (.tup ((keyC (holdG rule y (T + 1))).map kV)) := by rw [keyC_kV]; exact gt
        refine ⟨_, rfl, d, rfl, .inr ⟨kvs, .inl gd⟩, _, rfl, _, DGet.t gd gtk, ?_⟩
        rw [dt.val]
        have hlt : kvs.length < sizeLine := Nat.lt_of_lt_of_le (m := 2 * 1000 * 1000) (by omega) (by decide)
        refine ⟨_, rfl, _, _, rfl, rfl, _, rfl, _, rfl, d, _, rfl, DPut.t gd gtk hlt, ?_⟩
        have sp : Same H (upd H4 d (.dT (putK kvs (keyC (holdG rule y (T + 1))) (.int (wtG rule (us.take i) (holdG rule y (T + 1)) + y * (dotsG rule y T (holdG rule y (T + 1)) : Int) + y))))) := s.updN hd
        have gd5 := upd_same (H := H4) (a := d) (o := .dT (putK kvs (keyC (holdG rule y (T + 1))) (.int (wtG rule (us.take i) (holdG rule y (T + 1)) + y * (dotsG rule y T (holdG rule y (T + 1)) : Int) + y))))
        have gl5 : upd H4 d (.dT (putK kvs (keyC (holdG rule y (T + 1))) (.int (wtG rule (us.take i) (holdG rule y (T + 1)) + y * (dotsG rule y T (holdG rule y (T + 1)) : Int) + y)))) l = some (.lst (us.map V.int)) := by rw [upd_ne ndl.symm]; exact gl'
        have dt5 := dt.put (holdG rule y (T + 1)) y
        have hk5 := length_putK kvs (keyC (holdG rule y (T + 1))) (.int (wtG rule (us.take i) (holdG rule y (T + 1)) + y * (dotsG rule y T (holdG rule y (T + 1)) : Int) + y))
        dsimp only at dt5 ⊢
        generalize putK kvs (keyC (holdG rule y (T + 1))) (.int (wtG rule (us.take i) (holdG rule y (T + 1)) + y * (dotsG rule y T (holdG rule y (T + 1)) : Int) + y)) = kvs5 at sp gd5 gl5 dt5 hk5 ⊢
        generalize upd H4 d (.dT kvs5) = H5 at sp gd5 gl5 ⊢
        refine ⟨_, rfl, _, _, rfl, rfl, ?_⟩
        refine ⟨_, rfl, _, rfl, _, rfl, p, rs, rule, y, T + 1 + 1, rfl, sp _ _ hp, h2.mv sp.tups, by omega, fun t6 H6 gt6 s6 nt6 => ?_⟩
        refine ⟨maxC rule y - (T + 1), by omega, T + 1, kvs5, t6, rfl, hTl, rfl, s6 _ _ gd5, dt5.congr fun c => ?_, by omega, gt6, sp.trans s6, s6 _ _ gl5⟩
        rw [dotsG_succ]
        by_cases e : holdG rule y (T + 1) = c
        · rw [if_pos e, if_pos e, Int.natCast_add, Int.mul_add, show ((1 : Nat) : Int) = 1 from rfl, Int.mul_one]
          omega
        · rw [if_neg e, if_neg e, Int.add_zero, Nat.add_zero]
      · have he : holdG rule y (T + 1) = [] := by
          cases e : holdG rule y (T + 1) with
          | nil => rfl
          | cons a r => exact absurd (decide_eq_true (by rw [e]; simp)) hc
        have hTe : T = maxC rule y := Nat.le_antisymm hT (holdG_nil.mp he)
        refine ⟨kvs, _, _, _, rfl, gd, dt.congr fun c => ?_, by omega, hi, s, gl'⟩
        rw [List.take_succ, hy, hTe]
        unfold wtG
        rw [List.map_append, List.sum_append]
        simp
    · rintro σ' H4 ⟨kvs, v2, v3, v4, rfl, gd, dt, hkl, _, s, _⟩
      rw [List.length_map, List.take_length] at dt
      refine ⟨_, rfl, p, rs, rfl, s _ _ hp, by omega, fun cl cs H5 gc h4 s5 ncl => ?_⟩
      rw [← hrl] at h4
      have hcl := h4.length
      have h64 : (chG (upto rule.length)).length ≤ 64 := by
        rw [chG_len _ _ (upto_len _)]
        exact Nat.le_trans (Nat.pow_le_pow_right (by decide) h6) (by decide)
      have gd5 := s5 _ _ gd
      refine ⟨cl, rfl, ⟨_, SqL.of gc⟩, comp_list (xs := cs) (fun j zs σ' H' => Same H5 H' ∧ (∃ v, σ' = [v, some (.ref d)]) ∧ zs.length ≤ j ∧ All2 CS H' ((((chG (upto rule.length)).take j).filter fun c => decide (0 < c.length)).map fun c => (c, wtG rule us c)) zs) ⟨fun _ _ h => h, ⟨_, rfl⟩, Nat.le_refl _, .nil⟩ ?_ ?_ ?_⟩
      · rintro j zs σ' H' hj ⟨s', _, hz, _⟩
        exact ⟨SqL.of (s' _ _ gc), Nat.le_trans hz (Nat.le_trans (m := 64) (by omega) (by decide))⟩
      · rintro j x zs σ' H' hx ⟨s', ⟨v, rfl⟩, hz, ha⟩
        obtain ⟨ch, hch, c, rfl, gcc⟩ := h4.get hx
        have g6 := s' _ _ gcc
        refine ⟨_, rfl, c, _, rfl, .inr (SqT.of g6), _, _, rfl, rfl, _, rfl, ?_⟩
        rw [List.length_map, filter_take _ hch]
        have ed : decide ((0 : Int) < (ch.length : Int)) = decide (0 < ch.length) := by
          by_cases h : 0 < ch.length
          · rw [decide_eq_true h, decide_eq_true (by omega)]
          · rw [decide_eq_false h, decide_eq_false (by omega)]
        rw [ed]
        refine ite2 (fun hc => ?_) (fun hc => ⟨s', ⟨_, rfl⟩, Nat.le_succ_of_le hz, by rw [if_neg hc, List.append_nil]; exact ha⟩)
        have gck : H' c = some (.tup ((keyC ch).map kV)) := by rw [keyC_kV]; exact g6
        refine ⟨_, rfl, _, rfl, d, rfl, .inr ⟨kvs, .inl (s' _ _ gd5)⟩, _, rfl, _, DGet.t (s' _ _ gd5) gck, ?_⟩
        rw [dt.val]
        refine ⟨by show 2 ≤ sizeLine; decide, fun q hq => ?_⟩
        have sq := Same.new (o := .tup [V.ref c, V.int (wtG rule us ch)]) hq
        refine ⟨s'.trans sq, ⟨_, rfl⟩, by rw [List.length_append]; exact Nat.add_le_add_right hz 1, ?_⟩
        rw [if_pos hc, List.map_append]
        exact (ha.imp fun _ _ h => h.mv sq.tups).snoc ⟨q, c, rfl, upd_same, sq _ _ g6⟩
      · rintro zs σ' H' ⟨s', _, _, ha⟩ l2 hl2
        rw [← hcl, List.take_length] at ha
        exact k us l2 zs _ hnd hmem upd_same (ha.imp fun _ _ h => h.mv (Same.new hl2).tups) (s.trans (s5.trans (s'.trans (Same.new hl2)))) ((s.trans (s5.trans s')).free hl2)
def n__law_start : List Str := ["_law_script", "_law_great"]
theorem sc__law_start : FnScope n__law_start ["_law_script"] (defScope s__law_start) := ⟨rfl, rfl, rfl, by decide +kernel, rfl, by decide +kernel, by decide +kernel⟩
def sp_start (K : PySem.W.Frag) : Sp := fun vs H Q _ => ∃ (a : Addr) (ns : List Int), vs = [.ref a] ∧ SqL K H a (ns.map V.int) ∧ ns.length ≤ 63 ∧
  ∀ (st ga ca : Addr) (H' : Hp), StAt H' st ga ca 0 → H st = none → H ga = none → H ca = none → Same H H' → Q (.ref st) H'
theorem ok__law_start (T : Txt K mg A) : FnOk P w K mg base CX0 1 A.a__law_start A.fd__law_start ["_law_script"] (sp_start K) := by
  refine T.F__law_start.ok sc__law_start (fun vs H Q E h => ?_) (fun cdv Ar outer s H vs Q E hr h => ?_)
  · obtain ⟨a, ns, rfl, hS, hl, k⟩ := h
    rfl
  · obtain ⟨a, ns, rfl, hS, hl, k⟩ := h
    refine ⟨_, (pss_cons (ps_comp (i := 1) (ls := ["_law_cell"]) (fr := []) (cs_of (defScope s__law_start) n__law_start rfl rfl (by decide +kernel)) rfl (pi_list (pv 0)) (fun _ _ _ _ => pgc 0 (by decide +kernel) rfl rfl) (fun _ _ _ _ => pf_one (pt_cmpR op_ge (pvc (defScope s__law_start) 0) (pe_op op_pow pe_int pe_int) (nomark _))) (fun _ _ _ _ => (pvc (defScope s__law_start) 0)) sc__law_start.nd rfl rfl rfl)
        (pss_one (ps_ret (pe_lst (pa_cons (pv 1) (pa_cons pe_int (pa_cons (pe_comp (ls := ["_law_cell"]) (fr := []) (cs_of (defScope s__law_start) n__law_start rfl rfl (by decide +kernel)) rfl (pi_list (pv 0)) (fun _ _ _ _ => pgc 0 (by decide +kernel) rfl rfl) (fun _ _ _ _ => pf_nil) (fun _ _ _ _ => (pe_op op_mod (pvc (defScope s__law_start) 0) pe_int))) (pa_cons pe_int pa_nil)))))))), ?_⟩
    refine ⟨_, rfl, a, rfl, ⟨_, hS⟩, comp_list (xs := ns.map V.int) (fun i ys σ' H' => H' = H ∧ (∃ v, σ' = [v]) ∧ ∃ gs : List Int, ys = gs.map V.int ∧ gs.length ≤ i ∧ ∀ x ∈ gs, 0 < x) ⟨rfl, ⟨_, rfl⟩, [], rfl, Nat.zero_le _, fun _ hx => nomatch hx⟩ ?_ ?_ ?_⟩
    · rintro i ys σ' H' hi ⟨rfl, _, gs, rfl, hg, _⟩
      refine ⟨hS, ?_⟩
      rw [List.length_map] at hi ⊢
      exact Nat.le_trans (Nat.le_trans hg (Nat.le_trans hi hl)) (by decide)
    · rintro i x ys σ' H' hx ⟨rfl, ⟨v, rfl⟩, gs, rfl, hg, hp⟩
      rw [List.getElem?_map] at hx
      cases hn : ns[i]? with
      | none => rw [hn] at hx; cases hx
      | some z =>
        rw [hn] at hx
        cases hx
        refine ⟨_, rfl, _, _, rfl, rfl, ⟨by decide, by decide, by decide⟩, _, _, rfl, rfl, _, rfl, ?_⟩
        refine ite2 (fun hz => ⟨_, rfl, rfl, ⟨_, rfl⟩, gs ++ [z], by simp, by simp; exact hg, fun y hy => ?_⟩) (fun hz => ⟨rfl, ⟨_, rfl⟩, gs, rfl, Nat.le_succ_of_le hg, hp⟩)
        rcases List.mem_append.mp hy with hy | hy
        · exact hp y hy
        · have : y = z := by simpa using hy
          subst this
          exact Int.lt_of_lt_of_le (by decide) (of_decide_eq_true hz)
    · rintro ys σ' H' ⟨rfl, _, gs, rfl, hg, hp⟩ g0 hg0
      rw [List.length_map] at hg
      have s1 : Same H' (upd H' g0 (.lst (gs.map V.int))) := Same.new hg0
      refine ⟨_, rfl, _, rfl, a, rfl, ⟨_, s1.seq hS⟩, comp_list (xs := ns.map V.int) (fun i ys σ' H2 => H2 = upd H' g0 (.lst (gs.map V.int)) ∧ (∃ v, σ' = [v]) ∧ ∃ cs : List Int, ys = cs.map V.int ∧ cs.length = i) ⟨rfl, ⟨_, rfl⟩, [], rfl, rfl⟩ ?_ ?_ ?_⟩
      · rintro i ys σ' H2 hi ⟨rfl, _, cs, rfl, hc⟩
        refine ⟨s1.seq hS, ?_⟩
        rw [List.length_map] at hi ⊢
        exact Nat.le_trans (Nat.le_trans (Nat.le_of_eq hc) (Nat.le_trans hi hl)) (by decide)
      · rintro i x ys σ' H2 hx ⟨rfl, ⟨v, rfl⟩, cs, rfl, hc⟩
        rw [List.getElem?_map] at hx
        cases hn : ns[i]? with
        | none => rw [hn] at hx; cases hx
        | some z =>
          rw [hn] at hx
          cases hx
          refine ⟨_, rfl, _, _, rfl, rfl, (by show (0 : Int) < 2147483629; decide), rfl, ⟨_, rfl⟩, cs ++ [z % 2147483629], by simp, by simp [hc]⟩
      · rintro ys σ' H2 ⟨rfl, _, cs, rfl, hc⟩ c0 hc0
        refine ⟨by show 4 ≤ sizeLine; decide, fun st hst => ?_⟩
        have n1 : g0 ≠ c0 := fun z => by rw [← z, upd_same] at hc0; cases hc0
        have n2 : st ≠ c0 := fun z => by rw [z, upd_same] at hst; cases hst
        have hst1 : upd H' g0 (.lst (gs.map V.int)) st = none := by rw [upd_ne n2] at hst; exact hst
        have n3 : st ≠ g0 := fun z => by rw [z, upd_same] at hst1; cases hst1
        refine k st g0 c0 _ ⟨⟨gs, cs, 0, 0, upd_same, ?_, ?_, Nat.le_trans hg hl, hp, Int.le_refl _, Int.le_refl _, Int.le_refl _⟩, n1, n3, n2⟩ ?_ hg0 ?_ (s1.trans ((Same.new hc0).trans (Same.new hst)))
        · rw [upd_ne n3.symm, upd_ne n1, upd_same]
        · rw [upd_ne n2.symm, upd_same]
        · rw [upd_ne n3] at hst1; exact hst1
        · rw [upd_ne n1.symm] at hc0; exact hc0
def n__law_mix : List Str := ["_law_state", "_law_count", "_law_cell", "_law_stirred"]
theorem sc__law_mix : FnScope n__law_mix ["_law_state"] (defScope s__law_mix) := ⟨rfl, rfl, rfl, by decide +kernel, rfl, by decide +kernel, by decide +kernel⟩
def sp_mix : Sp := fun vs H Q _ => ∃ (st ga ca : Addr) (N : Nat), vs = [.ref st] ∧ StAt H st ga ca N ∧ N ≤ 10 ^ 9 ∧
  ∀ (r : Int) (H' : Hp), 0 ≤ r → StAt H' st ga ca (N + 1) → Keep [st, ga] H H' → Q (.int r) H'
theorem ok__law_mix (T : Txt K mg A) : FnOk P w K mg base CX0 1 A.a__law_mix A.fd__law_mix ["_law_state"] sp_mix := by
  refine T.F__law_mix.ok sc__law_mix (fun vs H Q E h => ?_) (fun cdv Ar outer s H vs Q E hr h => ?_)
  · obtain ⟨st, ga, ca, N, rfl, S, hN, k⟩ := h
    rfl
  · obtain ⟨st, ga, ca, N, rfl, S, hN, k⟩ := h
    refine ⟨_, (pss_cons (ps_augS (pv 0) pe_int get_list pe_int ip_add set_list)
        (pss_cons (ps_set (i := 1) sc__law_mix.nd rfl (by first | exact Or.inl rfl | exact Or.inr rfl) (pe_ix ix_list (pv 0) pe_int (fun _ _ => rfl)))
        (pss_cons (ps_set (i := 2) sc__law_mix.nd rfl (by first | exact Or.inl rfl | exact Or.inr rfl) pe_int)
        (pss_cons (ps_if (pt_truth (pe_ix ix_list (pv 0) pe_int (fun _ _ => rfl)) (fun _ => rfl))
          (pss_one (ps_set (i := 2) sc__law_mix.nd rfl (by first | exact Or.inl rfl | exact Or.inr rfl) (pe_ix ix_list (pe_ix ix_list (pv 0) pe_int (fun _ _ => rfl)) (pe_op op_mod (pv 1) (pe_callB call_len_seq rfl T.b_len PySem.boot_len (pa_cons (pe_ix ix_list (pv 0) pe_int (fun _ _ => rfl)) pa_nil))) (fun _ _ => rfl)))) pss_nil)
        (pss_cons (ps_set (i := 3) sc__law_mix.nd rfl (by first | exact Or.inl rfl | exact Or.inr rfl) (pe_op op_mod (pe_op op_mul (pe_op op_add (pe_op op_add (pe_op op_add (pv 2) (pe_op op_mul (pe_op op_mul pe_int (pv 1)) (pv 1))) (pe_op op_mul pe_int (pv 1))) pe_int) pe_int) pe_int))
        (pss_one (ps_ret (pe_op op_mod (pe_op op_mul (pe_op op_add (pe_op op_add (pv 3) (pe_op op_mul pe_int (pv 1))) pe_int) pe_int) pe_int)))))))), ?_⟩
    obtain ⟨⟨gs, cs, q, n, h1, h2, h3, h4, h5, h6, h7, h8⟩, gc, sg, sc⟩ := S
    have hn : -(2 ^ 64) < n + 1 ∧ n + 1 < 2 ^ 64 := by omega
    refine ⟨_, rfl, st, _, 3, _, rfl, rfl, SqL.of h1, by decide, rfl, _, _, rfl, rfl, st, _, 3, 3, rfl, rfl, h1, rfl, ?_⟩
    have e1 : upd H st (.lst ([V.ref ga, V.int q, V.ref ca, V.int n].set 3 (V.int (n + 1)))) st = some (.lst [.ref ga, .int q, .ref ca, .int (n + 1)]) := upd_same
    refine ⟨_, rfl, st, _, 3, _, rfl, rfl, SqL.of e1, rfl, ?_⟩
    refine ⟨_, rfl, st, _, 2, _, rfl, rfl, SqL.of e1, rfl, ?_⟩
    have e3 : upd H st (.lst ([V.ref ga, V.int q, V.ref ca, V.int n].set 3 (V.int (n + 1)))) ca = some (.lst (cs.map V.int)) := by rw [upd_ne sc.symm]; exact h3
    have e2 : upd H st (.lst ([V.ref ga, V.int q, V.ref ca, V.int n].set 3 (V.int (n + 1)))) ga = some (.lst (gs.map V.int)) := by rw [upd_ne sg.symm]; exact h2
    refine ⟨_, Or.inl ⟨_, SqL.of e3, rfl⟩, ?_⟩
    have fin : ∀ (c : Int), (tSeq (tAsg (tOp (rI (fun _ j => 0 < j) fun i j => V.int (i % j)) (tOp (rI CMul fun i j => V.int (i * j)) (tOp (rI0 fun i j => V.int (i + j)) (tOp (rI0 fun i j => V.int (i + j)) (tOp (rI0 fun i j => V.int (i + j)) (tVar 2) (tOp (rI CMul fun i j => V.int (i * j)) (tOp (rI CMul fun i j => V.int (i * j)) (tC (V.int 7)) (tVar 1)) (tVar 1))) (tOp (rI CMul fun i j => V.int (i * j)) (tC (V.int 13)) (tVar 1))) (tC (V.int 5))) (tC (V.int 1220703125))) (tC (V.int 2147483647))) (gName 3))
        (tRet (tOp (rI (fun _ j => 0 < j) fun i j => V.int (i % j)) (tOp (rI CMul fun i j => V.int (i * j)) (tOp (rI0 fun i j => V.int (i + j)) (tOp (rI0 fun i j => V.int (i + j)) (tVar 3) (tOp (rI CMul fun i j => V.int (i * j)) (tC (V.int 17)) (tVar 1))) (tC (V.int 3))) (tC (V.int 39373))) (tC (V.int 1000000007)))))
        { nx := fun _ H' => Q .non H', rt := Q } [some (.ref st), some (.int (n + 1)), some (.int c), none] (upd H st (.lst ([V.ref ga, V.int q, V.ref ca, V.int n].set 3 (V.int (n + 1))))) := fun c => by
      refine ⟨_, rfl, _, rfl, _, _, rfl, rfl, .inl (by decide), _, rfl, _, _, rfl, rfl, .inr hn, _, _, rfl, rfl, _, rfl, _, _, rfl, rfl, .inl (by decide), _, _, rfl, rfl, _, _, rfl, rfl, _, _, rfl, rfl, .inr (by decide), _, _, rfl, rfl, (by show (0 : Int) < 2147483647; decide), ?_⟩
      refine ⟨_, rfl, _, rfl, _, _, rfl, rfl, .inl (by decide), _, _, rfl, rfl, _, _, rfl, rfl, _, _, rfl, rfl, .inr (by decide), _, _, rfl, rfl, (by show (0 : Int) < 1000000007; decide), ?_⟩
      exact k _ _ (Int.emod_nonneg _ (by decide)) ⟨⟨gs, cs, q, n + 1, e1, e2, e3, h4, h5, h6, by omega, by omega⟩, gc, sg, sc⟩ (Keep.set (by simp))
    cases hc : cs with
    | nil =>
      refine iteF ?_
      exact fin 5
    | cons c0 cr =>
      refine iteT ?_
      rw [hc] at e3
      refine ⟨_, rfl, st, _, 2, _, rfl, rfl, SqL.of e1, rfl, _, rfl, _, rfl, st, _, 2, _, rfl, rfl, SqL.of e1, rfl, ca, _, rfl, .inl (SqL.of e3), _, _, rfl, rfl, ?_, ?_⟩
      · rw [List.length_map]; simp only [List.length_cons]; omega
      · have hpos : (0 : Int) < ((c0 :: cr).length : Int) := by simp only [List.length_cons]; omega
        rw [List.length_map]
        have hm0 := Int.emod_nonneg (n + 1) (Int.ne_of_gt hpos)
        have hm1 := Int.emod_lt_of_pos (n + 1) hpos
        obtain ⟨j, hj⟩ : ∃ j : Nat, (n + 1) % ((c0 :: cr).length : Int) = (j : Int) := ⟨((n + 1) % ((c0 :: cr).length : Int)).toNat, by omega⟩
        have hjl : j < (c0 :: cr).length := by omega
        refine ⟨ca, _, _, _, rfl, rfl, SqL.of e3, by rw [hj]; exact atI_nat (v := V.int ((c0 :: cr)[j])) (by rw [List.getElem?_map, List.getElem?_eq_getElem hjl]; rfl), ?_⟩
        exact fin _
def n__law_draw : List Str := ["_law_state", "_law_many", "_law_told", "_law_size"]
theorem sc__law_draw : FnScope n__law_draw ["_law_state", "_law_many"] (defScope s__law_draw) := ⟨rfl, rfl, rfl, by decide +kernel, rfl, by decide +kernel, by decide +kernel⟩
/-- a draw: any number from 0 on below many; what it may change is the state's own -/
def sp_draw : Sp := fun vs H Q _ => ∃ (st ga ca : Addr) (N : Nat) (m : Int), vs = [.ref st, .int m] ∧ StAt H st ga ca N ∧ N ≤ 10 ^ 8 ∧ 0 < m ∧ m ≤ 10 ^ 60 ∧
  ∀ (r : Int) (H' : Hp), 0 ≤ r → r < m → StAt H' st ga ca (N + 7) → Keep [st, ga] H H' → Q (.int r) H'
theorem ok__law_draw (T : Txt K mg A) : FnOk P w K mg base CX0 2 A.a__law_draw A.fd__law_draw ["_law_state", "_law_many"] sp_draw := by
  refine T.F__law_draw.ok sc__law_draw (fun vs H Q E h => ?_) (fun cdv Ar outer s H vs Q E hr h => ?_)
  · obtain ⟨st, ga, ca, N, m, rfl, S, hN, hm0, hm1, k⟩ := h
    rfl
  · obtain ⟨st, ga, ca, N, m, rfl, S, hN, hm0, hm1, k⟩ := h
    refine ⟨_, (pss_cons (ps_if (PW.pt (pw_and (pt_cmpR op_eq (pe_ix ix_list (pv 0) pe_int (fun _ _ => rfl)) pe_int (nomark _)) (pw_and1 (pt_truth (pe_ix ix_list (pv 0) pe_int (fun _ _ => rfl)) (fun _ => rfl)))))
          (pss_one (ps_asg (pe_bm PySem.F.plainAttrs_list PySem.F.slot_list_pop PySem.F.type_list_pop mt_popAt (pe_ix ix_list (pv 0) pe_int (fun _ _ => rfl)) (pa_cons pe_int pa_nil)) (pg_sub (pv 0) pe_int set_list))) pss_nil)
        (pss_cons (ps_if (pt_cmpR op_gt (pe_ix ix_list (pv 0) pe_int (fun _ _ => rfl)) pe_int (nomark _))
          (pss_cons (ps_set (i := 2) sc__law_draw.nd rfl (by first | exact Or.inl rfl | exact Or.inr rfl) (pe_op op_mod (pe_ix ix_list (pv 0) pe_int (fun _ _ => rfl)) (pv 1)))
        (pss_cons (ps_asg (pe_op op_fdivB (pe_ix ix_list (pv 0) pe_int (fun _ _ => rfl)) (pv 1)) (pg_sub (pv 0) pe_int set_list))
        (pss_one (ps_ret (pv 2))))) pss_nil)
        (pss_cons (ps_set (i := 2) sc__law_draw.nd rfl (by first | exact Or.inl rfl | exact Or.inr rfl) pe_int)
        (pss_cons (ps_set (i := 3) sc__law_draw.nd rfl (by first | exact Or.inl rfl | exact Or.inr rfl) pe_int)
        (pss_cons (ps_while PassesOwn.never (pt_cmpR op_lt (pv 3) (pv 1) (nomark _))
          (pss_cons (ps_set (i := 2) sc__law_draw.nd rfl (by first | exact Or.inl rfl | exact Or.inr rfl) (pe_op op_add (pe_op op_mul (pv 2) pe_int) (pe_call (ok__law_mix T) (hr.mono (by decide)) rfl T.g__law_mix T.F__law_mix.kp T.b__law_mix .nil pass0 (pa_cons (pv 0) pa_nil))))
        (pss_one (ps_set (i := 3) sc__law_draw.nd rfl (by first | exact Or.inl rfl | exact Or.inr rfl) (pe_op op_mul (pv 3) pe_int)))))
        (pss_one (ps_ret (pe_op op_mod (pv 2) (pv 1))))))))), ?_⟩
    obtain ⟨⟨gs, cs, q, n, h1, h2, h3, h4, h5, h6, h7, h8⟩, gc, sg, sc⟩ := S
    have hb : ∀ (g : List Int) (x : Int) (H' : Hp), H' = upd (upd H ga (.lst (g.map V.int))) st (.lst [.ref ga, .int x, .ref ca, .int n]) → H' st = some (.lst [.ref ga, .int x, .ref ca, .int n]) ∧ H' ga = some (.lst (g.map V.int)) ∧ H' ca = some (.lst (cs.map V.int)) ∧ Keep [st, ga] H H' := fun g x H' e => by
      subst e
      refine ⟨upd_same, by rw [upd_ne sg.symm, upd_same], by rw [upd_ne sc.symm, upd_ne gc.symm]; exact h3, fun b o e hn => ?_⟩
      have n1 : b ≠ st := fun z => hn (by simp [z])
      have n2 : b ≠ ga := fun z => hn (by simp [z])
      rw [upd_ne n1, upd_ne n2]
      exact e
    refine seqJoin (fun σ' H' => σ' = [some (.ref st), some (.int m), none, none] ∧ ∃ (g : List Int) (x : Int), H' st = some (.lst [.ref ga, .int x, .ref ca, .int n]) ∧ H' ga = some (.lst (g.map V.int)) ∧ H' ca = some (.lst (cs.map V.int)) ∧ Keep [st, ga] H H' ∧ g.length ≤ 63 ∧ (∀ x ∈ g, 0 < x) ∧ 0 ≤ x) (fun nx hnx => ?_) ?_
    · have skip : nx [some (.ref st), some (.int m), none, none] H := hnx _ _ ⟨rfl, gs, q, h1, h2, h3, Keep.refl _ _, h4, h5, h6⟩
      refine ⟨_, rfl, st, _, 1, _, rfl, rfl, SqL.of h1, rfl, rfl, _, rfl, ?_⟩
      refine ite2 (fun hq => ?_) (fun hq => iteF skip)
      have hq0 : q = 0 := by simpa using hq
      subst hq0
      refine ⟨_, rfl, st, _, 0, _, rfl, rfl, SqL.of h1, rfl, _, .inl ⟨_, SqL.of h2, rfl⟩, ?_⟩
      cases gs with
      | nil => exact iteF skip
      | cons g0 gr =>
        refine iteT ?_
        have eg : upd H ga (.lst ((V.int g0 :: gr.map V.int).eraseIdx 0)) st = some (.lst [.ref ga, .int 0, .ref ca, .int n]) := by rw [upd_ne sg]; exact h1
        refine ⟨_, rfl, st, _, 0, _, rfl, rfl, SqL.of h1, rfl, .inl ⟨rfl, _, SqL.of h2⟩, ga, _, 0, 0, V.int g0, rfl, rfl, h2, by decide, by decide, (by simp [seqIndex?]), rfl, ?_⟩
        refine ⟨_, rfl, st, _, 1, 1, rfl, rfl, eg, rfl, ?_⟩
        obtain ⟨b1, b2, b3, b4⟩ := hb gr g0 _ rfl
        exact hnx _ _ ⟨rfl, gr, g0, b1, b2, b3, b4, by simp only [List.length_cons] at h4; omega, fun y hy => h5 y (List.mem_cons_of_mem _ hy), Int.le_of_lt (h5 g0 List.mem_cons_self)⟩
    · rintro σ1 H1 ⟨rfl, g, x, c1, c2, c3, c4, c5, c6, c7⟩
      refine ⟨_, rfl, st, _, 1, _, rfl, rfl, SqL.of c1, rfl, _, _, rfl, rfl, _, rfl, ?_⟩
      refine ite2 (fun hx => ?_) (fun hx => ?_)
      · refine ⟨_, rfl, st, _, 1, _, rfl, rfl, SqL.of c1, rfl, _, rfl, _, _, rfl, rfl, hm0, ?_⟩
        refine ⟨_, rfl, st, _, 1, _, rfl, rfl, SqL.of c1, rfl, _, rfl, _, _, rfl, rfl, ⟨hm0, Int.le_trans hm1 (by decide)⟩, ?_⟩
        refine ⟨_, rfl, st, _, 1, 1, rfl, rfl, c1, rfl, ?_⟩
        refine ⟨_, rfl, k _ _ (Int.emod_nonneg _ (Int.ne_of_gt hm0)) (Int.emod_lt_of_pos _ hm0) ⟨⟨g, cs, x / m, n, upd_same, by rw [upd_ne sg.symm]; exact c2, by rw [upd_ne sc.symm]; exact c3, c5, c6, Int.ediv_nonneg c7 (Int.le_of_lt hm0), h7, by omega⟩, gc, sg, sc⟩ (c4.trans (Keep.set (by simp)))⟩
      · refine ⟨fun mm σ2 H2 => ∃ (j : Nat) (told : Int), j ≤ 7 ∧ mm = 7 - j ∧ σ2 = [some (.ref st), some (.int m), some (.int told), some (.int (1000000007 ^ j))] ∧ StAt H2 st ga ca (N + j) ∧ Keep [st, ga] H H2,
          ⟨7, 0, 0, by decide, rfl, rfl, ⟨⟨g, cs, x, n, c1, c2, c3, c5, c6, c7, h7, by omega⟩, gc, sg, sc⟩, c4⟩, ?_⟩
        rintro mm σ2 H2 ⟨j, told, hj, rfl, rfl, S2, k2⟩
        refine ⟨_, rfl, _, rfl, _, _, rfl, rfl, _, rfl, ?_⟩
        refine ite2 (fun hlt => ?_) (fun hlt => ?_)
        · have hlt' : (1000000007 : Int) ^ j < m := of_decide_eq_true hlt
          have hj6 : j < 7 := by
            rcases Nat.lt_or_ge j 7 with z | z
            · exact z
            · have e7 : j = 7 := by omega
              subst e7
              exact absurd (Int.lt_of_lt_of_le hlt' hm1) (by decide)
          refine ⟨fun σ3 H3 => ∃ (told : Int), σ3 = [some (.ref st), some (.int m), some (.int told), some (.int (1000000007 ^ (j + 1)))] ∧ StAt H3 st ga ca (N + (j + 1)) ∧ Keep [st, ga] H H3, fun σ3 H3 ⟨td, e3, S3, k3⟩ => ⟨7 - (j + 1), by omega, j + 1, td, hj6, rfl, e3, S3, k3⟩, ?_⟩
          refine ⟨_, rfl, _, _, rfl, rfl, .inr (by decide), _, rfl, st, ga, ca, N + j, rfl, S2, by omega, fun r H3 hr0 S3 k3 => ?_⟩
          refine ⟨_, _, rfl, rfl, ?_⟩
          refine ⟨_, rfl, _, _, rfl, rfl, .inr (by decide), ?_⟩
          refine ⟨told * 1000000007 + r, ?_, S3, k2.trans k3⟩
          show [some (V.ref st), some (V.int m), some (V.int _), some (V.int (1000000007 ^ j * 1000000007))] = _
          rw [← Int.pow_succ]
        · refine ⟨_, rfl, _, rfl, _, _, rfl, rfl, hm0, ?_⟩
          exact k _ _ (Int.emod_nonneg _ (Int.ne_of_gt hm0)) (Int.emod_lt_of_pos _ hm0) (S2.mono (by omega)) k2
def n__law_choices : List Str := ["_law_many", "_law_found", "_law_number"]
theorem sc__law_choices : FnScope n__law_choices ["_law_many"] (defScope s__law_choices) := ⟨rfl, rfl, rfl, by decide +kernel, rfl, by decide +kernel, by decide +kernel⟩
def sp_law_choices : Sp := fun vs H Q _ => ∃ (n : Nat), vs = [.int n] ∧ n ≤ 6 ∧
  ∀ (l : Addr) (xs : List V) (H' : Hp), H' l = some (.lst xs) → All2 Tup1 H' (chG (upto n)) xs → Same H H' → H l = none → Q (.ref l) H'
theorem ok__law_choices (T : Txt K mg A) : FnOk P w K mg base CX0 1 A.a__law_choices A.fd__law_choices ["_law_many"] sp_law_choices := by
  refine T.F__law_choices.ok sc__law_choices (fun vs H Q E h => ?_) (fun cdv Ar outer s H vs Q E hr h => ?_)
  · obtain ⟨n, rfl, hln, k⟩ := h
    rfl
  · obtain ⟨n, rfl, hln, k⟩ := h
    refine ⟨_, (pss_cons (ps_set (i := 1) sc__law_choices.nd rfl (by first | exact Or.inl rfl | exact Or.inr rfl) (pe_lst (pa_cons (pe_tup pa_nil) pa_nil)))
        (pss_cons (ps_for PassesOwn.never rfl (pi_range1 rfl T.b_range (pa_cons (pv 0) pa_nil)) (pg_name (i := 2) sc__law_choices.nd rfl (by first | exact Or.inl rfl | exact Or.inr rfl))
          (pss_one (ps_set (i := 1) sc__law_choices.nd rfl (by first | exact Or.inl rfl | exact Or.inr rfl) (pe_op op_cat (pv 1) (pe_comp (ls := ["_law_choice"]) (fr := [("_law_number", 2)]) (cs_of (defScope s__law_choices) n__law_choices rfl rfl (by decide +kernel)) rfl (pi_list (pv 1)) (fun _ _ _ _ => pgc 0 (by decide +kernel) rfl rfl) (fun _ _ _ _ => pf_nil) (fun _ _ _ _ => (pe_op (op_catAK K rfl) (pvc (defScope s__law_choices) 0) (pe_tup (pa_cons (pvc (defScope s__law_choices) 1) pa_nil)))))))))
        (pss_one (ps_ret (pv 1))))), ?_⟩
    refine ⟨by show 0 ≤ sizeLine; decide, fun e he => ⟨by show 1 ≤ sizeLine; decide, fun l0 hl0 => ?_⟩⟩
    have ne0 : H l0 = none := (Same.new he).free hl0
    refine ⟨_, rfl, _, rfl, by omega, by omega, for_range (n := n) (fun i σ' H' => Same H H' ∧ i ≤ n ∧ ∃ l xs v, σ' = [some (.int n), some (.ref l), v] ∧ H' l = some (.lst xs) ∧ H l = none ∧ All2 Tup1 H' (chG (upto i)) xs) ?_ ?_ ?_⟩
    · refine ⟨(Same.new he).trans (Same.new hl0), Nat.zero_le _, l0, [.ref e], _, rfl, upd_same, ne0, .cons ⟨e, rfl, ?_⟩ .nil⟩
      exact Same.new hl0 _ _ upd_same
    · rintro i σ' H' hi ⟨s, hi6, l, xs, v, rfl, gl, nl, h2⟩
      have hlen := chG_len i (upto i) (upto_len i)
      have hmem := chG_mem i (upto i) (upto_len i)
      have hlx : xs.length ≤ 64 := by
        rw [← h2.length, hlen]
        exact Nat.le_trans (Nat.pow_le_pow_right (by decide) (show i ≤ 6 by omega)) (by decide)
      refine ⟨_, rfl, _, rfl, l, rfl, ⟨_, SqL.of gl⟩, comp_list (xs := xs) (fun j ys σ' H2 => Same H' H2 ∧ (∃ v, σ' = [v, some (.int (0 + (i : Int)))]) ∧ All2 Tup1 H2 (((chG (upto i)).take j).map (· ++ [(i : Int)])) ys) ⟨fun _ _ h => h, ⟨_, rfl⟩, .nil⟩ ?_ ?_ ?_⟩
      · rintro j ys σ' H2 hj ⟨s2, _, h3⟩
        refine ⟨SqL.of (s2 _ _ gl), ?_⟩
        rw [← h3.length, List.length_map, List.length_take]
        refine Nat.le_trans (m := 64) (by omega) (by decide)
      · rintro j x ys σ' H2 hx ⟨s2, ⟨v, rfl⟩, h3⟩
        obtain ⟨hs, hhs, q, rfl, hq⟩ := h2.get hx
        have hj := (List.getElem?_eq_some_iff.mp hhs).1
        have eh := (List.getElem?_eq_some_iff.mp hhs).2
        refine ⟨_, rfl, _, rfl, by show 1 ≤ sizeLine; decide, fun t ht => ?_⟩
        have hl1 : hs.length ≤ 60 := by
          have := (hmem hs (List.mem_of_getElem? hhs)).1
          omega
        refine cat_one (z := 0 + (i : Int)) (Same.new ht _ _ (s2 _ _ hq)) upd_same hl1 fun v H3 hv s3 => ?_
        have sn := (Same.new (o := .tup [V.int (0 + (i : Int))]) ht).trans s3
        refine ⟨s2.trans sn, ⟨_, rfl⟩, ?_⟩
        rw [List.take_succ_eq_append_getElem hj, List.map_append, eh]
        rw [Int.zero_add] at hv
        exact (h3.mv sn.tups).snoc hv
      · rintro ys σ' H2 ⟨s2, ⟨v, rfl⟩, h3⟩ l2 hl2
        have et : (chG (upto i)).take xs.length = chG (upto i) := by rw [← h2.length, List.take_length]
        rw [et] at h3
        have hly : ys.length ≤ 64 := by
          rw [← h3.length, List.length_map, h2.length]
          exact hlx
        refine ⟨l, l2, xs, ys, rfl, rfl, Same.new hl2 _ _ (s2 _ _ gl), upd_same, Nat.le_trans (m := 128) (by omega) (by decide), fun l3 hl3 => ?_⟩
        have sn := s2.trans ((Same.new (o := .lst ys) hl2).trans (Same.new (o := .lst (xs ++ ys)) hl3))
        refine ⟨s.trans sn, by omega, l3, xs ++ ys, _, rfl, upd_same, (s.trans (s2.trans (Same.new hl2))).free hl3, ?_⟩
        rw [upto_succ, chG_snoc]
        exact (h2.mv sn.tups).append (h3.mv ((Same.new hl2).trans (Same.new hl3)).tups)
    · rintro σ' H' ⟨s, _, l, xs, v, rfl, gl, nl, h2⟩
      exact ⟨_, rfl, k l xs H' gl h2 s nl⟩
def n__law_heap : List Str := ["_law_state", "_law_size", "_law_top", "_law_parts"]
theorem sc__law_heap : FnScope n__law_heap ["_law_state", "_law_size", "_law_top"] (defScope s__law_heap) := ⟨rfl, rfl, rfl, by decide +kernel, rfl, by decide +kernel, by decide +kernel⟩
def sp_heap : Sp := fun vs H Q _ => ∃ (st ga ca : Addr) (N : Nat) (size topp : Int), vs = [.ref st, .int size, .int topp] ∧ StAt H st ga ca N ∧ N ≤ 10 ^ 7 ∧ 0 ≤ size ∧ size ≤ 60 ∧ 0 < topp ∧ topp ≤ 10 ^ 60 ∧
  ∀ (p : Addr) (ns : List Int) (H' : Hp), (ns.length : Int) ≤ size → (∀ x ∈ ns, 1 ≤ x ∧ x ≤ topp) → ns.Pairwise (· ≥ ·) → H' p = some (.tup (ns.map V.int)) → H p = none → StAt H' st ga ca (N + 434) → Keep [st, ga] H H' → Q (.ref p) H'
theorem ok__law_heap (T : Txt K mg A) : FnOk P w K mg base CX0 3 A.a__law_heap A.fd__law_heap ["_law_state", "_law_size", "_law_top"] sp_heap := by
  refine T.F__law_heap.ok sc__law_heap (fun vs H Q E h => ?_) (fun cdv Ar outer s H vs Q E hr h => ?_)
  · obtain ⟨st, ga, ca, N, size, topp, rfl, S, hN, h0, h1, t0, t1, k⟩ := h
    rfl
  · obtain ⟨st, ga, ca, N, size, topp, rfl, S, hN, h0, h1, t0, t1, k⟩ := h
    refine ⟨_, (pss_cons (ps_comp (i := 3) (ls := ["_law_k"]) (fr := [("_law_state", 0), ("_law_top", 2)]) (cs_of (defScope s__law_heap) n__law_heap rfl rfl (by decide +kernel)) rfl (pi_range1 rfl T.b_range (pa_cons (pe_call (ok__law_draw T) (hr.mono (by decide)) rfl T.g__law_draw T.F__law_draw.kp T.b__law_draw .nil pass0 (pa_cons (pv 0 (hv := Or.inr (Or.inl rfl))) (pa_cons (pe_op op_add (pv 1) pe_int) pa_nil))) pa_nil)) (fun _ _ _ _ => pgc 0 (by decide +kernel) rfl rfl) (fun _ _ _ _ => pf_nil) (fun _ _ _ _ => (pe_op op_add pe_int (pe_call (ok__law_draw T) (hr.mono (by decide)) (glc (defScope s__law_heap)) T.g__law_draw T.F__law_draw.kp T.b__law_draw .nil pass0 (pa_cons (pvc (defScope s__law_heap) 1) (pa_cons (pvc (defScope s__law_heap) 2) pa_nil))))) sc__law_heap.nd rfl rfl rfl)
        (pss_one (ps_ret (pe_callTy call_tuple_of rfl T.b_tuple boot_tuple (pa_cons (pe_sortR rfl T.b_sorted (pv 3)) pa_nil))))), ?_⟩
    refine ⟨_, rfl, _, rfl, _, _, rfl, rfl, st, ga, ca, N, size + 1, rfl, S, by omega, by omega, Int.le_trans (show size + 1 ≤ 61 by omega) (by decide), fun many H2 m0 m1 S2 K2' => ?_⟩
    refine ⟨_, rfl, by omega, by omega, comp_range (fun i ys σ' H' => (∃ v, σ' = [v, some (.ref st), some (.int topp)]) ∧ ∃ ns : List Int, ys = ns.map V.int ∧ ns.length = i ∧ (∀ x ∈ ns, 1 ≤ x ∧ x ≤ topp) ∧ StAt H' st ga ca (N + 7 + 7 * i) ∧ Keep [st, ga] H H')
      ⟨⟨_, rfl⟩, [], rfl, rfl, (fun _ hx => nomatch hx), S2, K2'⟩ ?_ ?_ ?_⟩
    · rintro i ys σ' H' hi ⟨_, ns, rfl, hl, _⟩
      rw [List.length_map, hl]
      exact small64 (by omega)
    · rintro i ys σ' H' hi ⟨⟨v, rfl⟩, ns, rfl, hl, hb, S', K'⟩
      refine ⟨_, rfl, _, rfl, st, ga, ca, N + 7 + 7 * i, topp, rfl, S', by omega, t0, t1, fun r H3 h0 h1 S3 K3 => ?_⟩
      refine ⟨_, _, rfl, rfl, ⟨_, rfl⟩, ns ++ [1 + r], by simp, by simp [hl], fun x hx => ?_, S3.mono (by omega), K'.trans K3⟩
      rcases List.mem_append.mp hx with hx | hx
      · exact hb x hx
      · have : x = 1 + r := by simpa using hx
        omega
    · rintro ys σ' H' ⟨_, ns, rfl, hl, hb, S', K'⟩ p3 hp3
      refine ⟨_, rfl, p3, ns, rfl, .inl (SqL.of upd_same), by omega, fun ns' p4 hperm hord hp4 => ?_⟩
      refine ⟨p4, _, rfl, .inl ⟨SqL.of upd_same, fun p5 hp5 => ?_⟩⟩
      have s3 : Same H' (upd (upd (upd H' p3 (.lst (ns.map V.int))) p4 (.lst (ns'.map V.int))) p5 (.tup (ns'.map V.int))) := (Same.new hp3).trans ((Same.new hp4).trans (Same.new hp5))
      have S5 := S'.same s3
      have n5 : H' p5 = none := ((Same.new hp3).trans (Same.new hp4)).free hp5
      refine k p5 ns' _ (by rw [hperm.length_eq]; omega) (fun x hx => hb x (hperm.mem_iff.mp hx)) hord upd_same (K'.free n5 (S'.nin n5)) (S5.mono (by omega)) (K'.trans s3.keep)
def n__law_raw_rule : List Str := ["_law_state", "_law_many", "_law_size", "_law_top"]
theorem sc__law_raw_rule : FnScope n__law_raw_rule ["_law_state", "_law_many", "_law_size", "_law_top"] (defScope s__law_raw_rule) := ⟨rfl, rfl, rfl, by decide +kernel, rfl, by decide +kernel, by decide +kernel⟩
def GH (size topp : Int) (h : List Int) : Prop := (h.length : Int) ≤ size ∧ (∀ x ∈ h, 1 ≤ x ∧ x ≤ topp) ∧ h.Pairwise (· ≥ ·)
def sp_raw_rule : Sp := fun vs H Q _ => ∃ (st ga ca : Addr) (N : Nat) (many size topp : Int), vs = [.ref st, .int many, .int size, .int topp] ∧ StAt H st ga ca N ∧ N ≤ 10 ^ 6 ∧ 0 ≤ many ∧ many ≤ 60 ∧ 0 ≤ size ∧ size ≤ 60 ∧ 0 < topp ∧ topp ≤ 10 ^ 60 ∧
  ∀ (p : Addr) (rs : List V) (rule : List (List Int)) (H' : Hp), H' p = some (.tup rs) → All2 Tup1 H' rule rs → (rule.length : Int) = many → (∀ h ∈ rule, GH size topp h) → H p = none → StAt H' st ga ca (N + 434 * many.toNat) → Keep [st, ga] H H' → Q (.ref p) H'
theorem ok__law_raw_rule (T : Txt K mg A) : FnOk P w K mg base CX0 4 A.a__law_raw_rule A.fd__law_raw_rule ["_law_state", "_law_many", "_law_size", "_law_top"] sp_raw_rule := by
  refine T.F__law_raw_rule.ok sc__law_raw_rule (fun vs H Q E h => ?_) (fun cdv Ar outer s H vs Q E hr h => ?_)
  · obtain ⟨st, ga, ca, N, many, size, topp, rfl, S, hN, m0, m1, h0, h1, t0, t1, k⟩ := h
    rfl
  · obtain ⟨st, ga, ca, N, many, size, topp, rfl, S, hN, m0, m1, h0, h1, t0, t1, k⟩ := h
    refine ⟨_, (pss_one (ps_ret (pe_callTy call_tuple_of rfl T.b_tuple boot_tuple (pa_cons (pe_comp (ls := ["_law_k"]) (fr := [("_law_state", 0), ("_law_size", 2), ("_law_top", 3)]) (cs_of (defScope s__law_raw_rule) n__law_raw_rule rfl rfl (by decide +kernel)) rfl (pi_range1 rfl T.b_range (pa_cons (pv 1) pa_nil)) (fun _ _ _ _ => pgc 0 (by decide +kernel) rfl rfl) (fun _ _ _ _ => pf_nil) (fun _ _ _ _ => (pe_call (ok__law_heap T) (hr.mono (by decide)) (glc (defScope s__law_raw_rule)) T.g__law_heap T.F__law_heap.kp T.b__law_heap .nil pass0 (pa_cons (pvc (defScope s__law_raw_rule) 1) (pa_cons (pvc (defScope s__law_raw_rule) 2) (pa_cons (pvc (defScope s__law_raw_rule) 3) pa_nil)))))) pa_nil)))), ?_⟩
    refine ⟨_, rfl, _, rfl, by omega, by omega, comp_range (fun i ys σ' H' => (∃ v, σ' = [v, some (.ref st), some (.int size), some (.int topp)]) ∧ ∃ rule : List (List Int), All2 Tup1 H' rule ys ∧ rule.length = i ∧ (∀ h ∈ rule, GH size topp h) ∧ StAt H' st ga ca (N + 434 * i) ∧ Keep [st, ga] H H') ⟨⟨_, rfl⟩, [], .nil, rfl, (fun _ hx => by cases hx), S, Keep.refl _ _⟩ ?_ ?_ ?_⟩
    · rintro i ys σ' H' hi ⟨_, rule, a2, hl, _⟩
      rw [← a2.length, hl]
      exact small64 (by omega)
    · rintro i ys σ' H' hi ⟨⟨v, rfl⟩, rule, a2, hl, hg, S', K'⟩
      refine ⟨_, rfl, _, rfl, _, rfl, st, ga, ca, N + 434 * i, size, topp, rfl, S', by omega, h0, h1, t0, t1, fun q hs H2 hln hb hp hq nq S2 K2 => ?_⟩
      refine ⟨⟨_, rfl⟩, rule ++ [hs], (a2.mv (K2.tups S')).snoc ⟨q, rfl, hq⟩, by simp [hl], fun x hx => ?_, S2.mono (by omega), K'.trans K2⟩
      rcases List.mem_append.mp hx with hx | hx
      · exact hg x hx
      · have : x = hs := by simpa using hx
        subst this
        exact ⟨hln, hb, hp⟩
    · rintro ys σ' H' ⟨_, rule, a2, hl, hg, S', K'⟩ l hl0
      refine ⟨l, _, rfl, .inl ⟨SqL.of upd_same, fun p hp => ?_⟩⟩
      have s2 := (Same.new (o := .lst ys) hl0).trans (Same.new (o := .tup ys) hp)
      have np : H' p = none := (Same.new (o := .lst ys) hl0).free hp
      exact k p ys rule _ upd_same (a2.mv s2.tups) (by omega) hg (K'.free np (S'.nin np)) (S'.same s2) (K'.trans s2.keep)
def n__law_same : List Str := ["_law_found", "_law_due"]
theorem sc__law_same : FnScope n__law_same ["_law_found", "_law_due"] (defScope s__law_same) := ⟨rfl, rfl, rfl, by decide +kernel, rfl, by decide +kernel, by decide +kernel⟩
def sp_same (n : Nat) : Sp := fun vs H Q _ => ∃ (x y : V), vs = [x, y] ∧ SmG n H x y ∧ ∀ H', Same H H' → Q (.bl true) H'
theorem okr__law_same (T : Txt K mg A) : ∀ n : Nat, FnOk P w K mg base CX0 (n + 1) A.a__law_same A.fd__law_same ["_law_found", "_law_due"] (sp_same n)
  | 0 => FnOk.none (fun _ _ _ _ ⟨_, _, _, h, _⟩ => h)
  | n + 1 => by
    have ih := okr__law_same T n
    refine T.F__law_same.ok sc__law_same (fun vs H Q E h => ?_) (fun cdv Ar outer s H vs Q E hr h => ?_)
    · obtain ⟨x, y, rfl, h, k⟩ := h
      rfl
    · obtain ⟨x, y, rfl, h, k⟩ := h
      refine ⟨_, (pss_cons (ps_if (pt_truth (pe_callB call_isiT rfl T.b_isinstance boot_isinstance (pa_cons (pv 1) (pa_cons (pe_tup (pa_cons (pe_bltn (v := .ty "list") rfl T.b_list boot_list rfl) (pa_cons (pe_bltn (v := .ty "tuple") rfl T.b_tuple boot_tuple rfl) pa_nil))) pa_nil))) (fun _ => rfl))
            (pss_cons (ps_if (PW.pt (pw_or (pt_cmpR op_ne (pe_callB call_isi rfl T.b_isinstance boot_isinstance (pa_cons (pv 0) (pa_cons (pe_bltn (v := .ty "list") rfl T.b_list boot_list rfl) pa_nil))) (pe_callB call_isi rfl T.b_isinstance boot_isinstance (pa_cons (pv 1) (pa_cons (pe_bltn (v := .ty "list") rfl T.b_list boot_list rfl) pa_nil))) (nomark _)) (pw_or1 (pt_cmpR op_ne (pe_callB call_isi rfl T.b_isinstance boot_isinstance (pa_cons (pv 0) (pa_cons (pe_bltn (v := .ty "tuple") rfl T.b_tuple boot_tuple rfl) pa_nil))) (pe_callB call_isi rfl T.b_isinstance boot_isinstance (pa_cons (pv 1) (pa_cons (pe_bltn (v := .ty "tuple") rfl T.b_tuple boot_tuple rfl) pa_nil))) (nomark _)))))
            (pss_one (ps_ret pe_bl)) pss_nil)
          (pss_cons (ps_if (pt_cmpR op_ne (pe_callB call_len_seq rfl T.b_len PySem.boot_len (pa_cons (pv 0) pa_nil)) (pe_callB call_len_seq rfl T.b_len PySem.boot_len (pa_cons (pv 1) pa_nil)) (nomark _))
            (pss_one (ps_ret pe_bl)) pss_nil)
          (pss_one (ps_ret (pe_callB (call_all_bools rfl) rfl T.b_all boot_all (pa_cons (pe_comp (ls := ["_law_one", "_law_other"]) (fr := []) (cs_of (defScope s__law_same) n__law_same rfl rfl (by decide +kernel)) rfl (pi_or (pi_zip true true rfl T.b_zip (pa_cons (pv 0) (pa_cons (pv 1) pa_nil))) (pi_zip false false rfl T.b_zip (pa_cons (pv 0) (pa_cons (pv 1) pa_nil)))) (fun _ _ _ _ => pg_tupC 2 rfl (pgs_cons (pgc (ls := ["_law_one", "_law_other"]) (fr := []) 0 (by decide +kernel) rfl rfl) (pgs_cons (pgc (ls := ["_law_one", "_law_other"]) (fr := []) 1 (by decide +kernel) rfl rfl) pgs_nil)) rfl rfl) (fun _ _ _ _ => pf_nil) (fun _ _ _ _ => (pe_call ih hr (glc (defScope s__law_same)) T.g__law_same T.F__law_same.kp T.b__law_same .nil pass0 (pa_cons (pvc (defScope s__law_same) 0) (pa_cons (pvc (defScope s__law_same) 1) pa_nil))))) pa_nil)))))) pss_nil)
          (pss_cons (ps_if (PW.pt (pw_or (pt_cmpR op_isN (pv 1) pe_non (nomark _)) (pw_or (pt_cmpR op_isG (pv 1) pe_bl (nomark _)) (pw_or1 (pt_cmpR op_isG (pv 1) pe_bl (nomark _))))))
            (pss_one (ps_ret (pe_and (pe_cmpR op_eq (pe_callB call_isi rfl T.b_isinstance boot_isinstance (pa_cons (pv 0) (pa_cons (pe_bltn (v := .ty "bool") rfl T.b_bool boot_bool rfl) pa_nil))) (pe_callB call_isi rfl T.b_isinstance boot_isinstance (pa_cons (pv 1) (pa_cons (pe_bltn (v := .ty "bool") rfl T.b_bool boot_bool rfl) pa_nil))) (nomark _)) (pe_one (pe_cmpR op_eq (pv 0) (pv 1) (nomark _)))))) pss_nil)
          (pss_cons (ps_if (pt_truth (pe_callB call_isi rfl T.b_isinstance boot_isinstance (pa_cons (pv 1) (pa_cons (pe_bltn (v := .ty "str") rfl T.b_str boot_str rfl) pa_nil))) (fun _ => rfl))
            (pss_one (ps_ret (pe_and (pe_callB call_isi rfl T.b_isinstance boot_isinstance (pa_cons (pv 0) (pa_cons (pe_bltn (v := .ty "str") rfl T.b_str boot_str rfl) pa_nil))) (pe_one (pe_cmpR op_eq (pv 0) (pv 1) (nomark _)))))) pss_nil)
          (pss_one (ps_ret (pe_and (pe_callB call_isi rfl T.b_isinstance boot_isinstance (pa_cons (pv 0) (pa_cons (pe_bltn (v := .ty "int") rfl T.b_int boot_int rfl) pa_nil))) (pe_and (pe_not (pe_callB call_isi rfl T.b_isinstance boot_isinstance (pa_cons (pv 0) (pa_cons (pe_bltn (v := .ty "bool") rfl T.b_bool boot_bool rfl) pa_nil)))) (pe_one (pe_cmpR op_eq (pv 0) (pv 1) (nomark _)))))))))), ?_⟩
      rcases h with ⟨i, rfl, rfl⟩ | ⟨b, rfl, rfl⟩ | ⟨rfl, rfl⟩ | ⟨z, rfl, rfl⟩ | ⟨f, d, xs, ys, rfl, rfl, hfd, hxy, hl, hall⟩
      · refine ⟨_, rfl, by show 2 ≤ sizeLine; decide, fun tp htp => ⟨_, tp, ["list", "tuple"], _, false, rfl, upd_same, TyOf.int _, kitA1_int, false, rfl, iteF ?_⟩⟩
        refine ⟨_, rfl, rfl, _, rfl, iteF ⟨_, rfl, true, rfl, trivial, _, rfl, iteF ⟨_, rfl, false, rfl, trivial, _, rfl, iteF ?_⟩⟩⟩
        refine ⟨_, rfl, _, _, _, false, rfl, TyOf.int _, kit_int_str, false, rfl, iteF ?_⟩
        refine ⟨_, rfl, _, _, _, true, rfl, TyOf.int _, kit_int_int, true, rfl, _, rfl, _, _, _, false, rfl, TyOf.int _, kit_int_bool, false, rfl, true, rfl, iteT ?_⟩
        refine ⟨_, rfl, _, rfl, rfl, ?_⟩
        rw [decide_eq_true rfl]
        exact k _ (Same.new htp)
      · refine ⟨_, rfl, by show 2 ≤ sizeLine; decide, fun tp htp => ⟨_, tp, ["list", "tuple"], _, false, rfl, upd_same, TyOf.bl _, kitA1_bool, false, rfl, iteF ?_⟩⟩
        refine ⟨_, rfl, rfl, _, rfl, iteF ⟨_, rfl, true, rfl, trivial, _, rfl, ?_⟩⟩
        have fin : ∀ (H' : Hp), Same H H' → Q (.bl true) H' := k
        cases b with
        | true =>
          refine iteT (iteT ⟨_, rfl, _, _, _, true, rfl, TyOf.bl _, kit_bool_bool, _, rfl, _, _, _, true, rfl, TyOf.bl _, kit_bool_bool, rfl, _, rfl, iteT ?_⟩)
          refine ⟨_, rfl, _, rfl, rfl, ?_⟩
          rw [decide_eq_true rfl]
          exact k _ (Same.new htp)
        | false =>
          refine iteF ⟨_, rfl, false, rfl, trivial, _, rfl, iteT ?_⟩
          refine ⟨_, rfl, _, _, _, true, rfl, TyOf.bl _, kit_bool_bool, _, rfl, _, _, _, true, rfl, TyOf.bl _, kit_bool_bool, rfl, _, rfl, iteT ?_⟩
          refine ⟨_, rfl, _, rfl, rfl, ?_⟩
          rw [decide_eq_true rfl]
          exact k _ (Same.new htp)
      · refine ⟨_, rfl, by show 2 ≤ sizeLine; decide, fun tp htp => ⟨_, tp, ["list", "tuple"], _, false, rfl, upd_same, TyOf.non, kitA1_NoneType, false, rfl, iteF ?_⟩⟩
        refine ⟨_, rfl, rfl, _, rfl, iteT (iteT ?_)⟩
        refine ⟨_, rfl, _, _, _, false, rfl, TyOf.non, kit_NoneType_bool, _, rfl, _, _, _, false, rfl, TyOf.non, kit_NoneType_bool, rfl, _, rfl, iteT ?_⟩
        refine ⟨_, rfl, _, rfl, rfl, ?_⟩
        rw [decide_eq_true rfl]
        exact k _ (Same.new htp)
      · refine ⟨_, rfl, by show 2 ≤ sizeLine; decide, fun tp htp => ⟨_, tp, ["list", "tuple"], _, false, rfl, upd_same, TyOf.str _, kitA1_str, false, rfl, iteF ?_⟩⟩
        refine ⟨_, rfl, rfl, _, rfl, iteF ⟨_, rfl, true, rfl, trivial, _, rfl, iteF ⟨_, rfl, false, rfl, trivial, _, rfl, iteF ?_⟩⟩⟩
        refine ⟨_, rfl, _, _, _, true, rfl, TyOf.str _, kit_str_str, true, rfl, iteT ?_⟩
        refine ⟨_, rfl, _, _, _, true, rfl, TyOf.str _, kit_str_str, true, rfl, iteT ?_⟩
        refine ⟨_, rfl, _, rfl, rfl, ?_⟩
        rw [decide_eq_true rfl]
        exact k _ (Same.new htp)
      · refine ⟨_, rfl, by show 2 ≤ sizeLine; decide, fun tp htp => ?_⟩
        have s1 := Same.new (o := .tup [V.ty "list", V.ty "tuple"]) htp
        have g1 := upd_same (H := H) (a := tp) (o := .tup [V.ty "list", V.ty "tuple"])
        generalize upd H tp (.tup [V.ty "list", V.ty "tuple"]) = H1 at s1 g1
        rcases hfd with ⟨hf, hd⟩ | ⟨hf, hd⟩
        · have hf1 := s1 _ _ hf
          have hd1 := s1 _ _ hd
          refine ⟨_, tp, ["list", "tuple"], _, true, rfl, g1, TyOf.tup hd1, kitA1_tuple, true, rfl, iteT ?_⟩
          refine ⟨_, rfl, _, _, _, false, rfl, TyOf.tup hf1, kit_tuple_list, _, rfl, _, _, _, false, rfl, TyOf.tup hd1, kit_tuple_list, rfl, _, rfl, iteNS rfl ?_⟩
          refine ⟨_, rfl, _, _, _, true, rfl, TyOf.tup hf1, kit_tup_tup, _, rfl, _, _, _, true, rfl, TyOf.tup hd1, kit_tup_tup, rfl, _, rfl, iteNS rfl ?_⟩
          refine ⟨_, rfl, f, _, rfl, .inr (SqT.of hf1), _, rfl, d, _, rfl, .inr (SqT.of hd1), rfl, _, rfl, iteNS (by rw [hxy]) ?_⟩
          refine Or.inl ⟨_, rfl, _, rfl, f, d, rfl, ⟨_, SqT.of hf1⟩, ⟨_, SqT.of hd1⟩, comp_zip (xs := xs) (ys := ys) (fun i zs σ' H' => Same H1 H' ∧ (∃ v w, σ' = [v, w]) ∧ zs = (List.replicate i true).map V.bl ∧ i ≤ xs.length) ⟨fun _ _ z => z, ⟨_, _, rfl⟩, rfl, Nat.zero_le _⟩ ?_ ?_ ?_⟩
          · rintro i zs σ' H' hi ⟨s', _, rfl, hi'⟩
            refine ⟨SqT.of (s' _ _ hf1), SqT.of (s' _ _ hd1), ?_⟩
            rw [List.length_map, List.length_replicate]
            exact Nat.le_trans (Nat.le_trans hi' hl) (by decide)
          · rintro i x y zs σ' H' T' hx hy ⟨s', ⟨v, w', rfl⟩, rfl, hi'⟩ hT
            have hi := (List.getElem?_eq_some_iff.mp hx).1
            have sn := s'.trans (Same.new (o := .tup [x, y]) hT)
            refine ⟨T', _, rfl, SqT.of upd_same, rfl, _, _, rfl, _, _, rfl, rfl, ?_⟩
            refine ⟨_, rfl, _, rfl, _, _, rfl, (hall i x y hx hy).mv (s1.trans sn), fun H2 s2 => ⟨sn.trans s2, ⟨_, _, rfl⟩, ?_, hi⟩⟩
            rw [List.replicate_succ', List.map_append]
            rfl
          · rintro zs σ' H' ⟨s', _, rfl, _⟩ l hl0
            refine ⟨l, _, rfl, SqL.of upd_same, ?_⟩
            have e : ∀ n, (List.replicate n true).all id = true := fun n => by simp
            rw [e]
            exact k _ (s1.trans (s'.trans (Same.new hl0)))
        · have hf1 := s1 _ _ hf
          have hd1 := s1 _ _ hd
          refine ⟨_, tp, ["list", "tuple"], _, true, rfl, g1, TyOf.lst hd1, kitA1_list, true, rfl, iteT ?_⟩
          refine ⟨_, rfl, _, _, _, true, rfl, TyOf.lst hf1, kit_list_list, _, rfl, _, _, _, true, rfl, TyOf.lst hd1, kit_list_list, rfl, _, rfl, iteNS rfl ?_⟩
          refine ⟨_, rfl, _, _, _, false, rfl, TyOf.lst hf1, kit_list_tuple, _, rfl, _, _, _, false, rfl, TyOf.lst hd1, kit_list_tuple, rfl, _, rfl, iteNS rfl ?_⟩
          refine ⟨_, rfl, f, _, rfl, .inl (SqL.of hf1), _, rfl, d, _, rfl, .inl (SqL.of hd1), rfl, _, rfl, iteNS (by rw [hxy]) ?_⟩
          refine Or.inr ⟨_, rfl, _, rfl, f, d, rfl, ⟨_, SqL.of hf1⟩, ⟨_, SqL.of hd1⟩, comp_zip (xs := xs) (ys := ys) (fun i zs σ' H' => Same H1 H' ∧ (∃ v w, σ' = [v, w]) ∧ zs = (List.replicate i true).map V.bl ∧ i ≤ xs.length) ⟨fun _ _ z => z, ⟨_, _, rfl⟩, rfl, Nat.zero_le _⟩ ?_ ?_ ?_⟩
          · rintro i zs σ' H' hi ⟨s', _, rfl, hi'⟩
            refine ⟨SqL.of (s' _ _ hf1), SqL.of (s' _ _ hd1), ?_⟩
            rw [List.length_map, List.length_replicate]
            exact Nat.le_trans (Nat.le_trans hi' hl) (by decide)
          · rintro i x y zs σ' H' T' hx hy ⟨s', ⟨v, w', rfl⟩, rfl, hi'⟩ hT
            have hi := (List.getElem?_eq_some_iff.mp hx).1
            have sn := s'.trans (Same.new (o := .tup [x, y]) hT)
            refine ⟨T', _, rfl, SqT.of upd_same, rfl, _, _, rfl, _, _, rfl, rfl, ?_⟩
            refine ⟨_, rfl, _, rfl, _, _, rfl, (hall i x y hx hy).mv (s1.trans sn), fun H2 s2 => ⟨sn.trans s2, ⟨_, _, rfl⟩, ?_, hi⟩⟩
            rw [List.replicate_succ', List.map_append]
            rfl
          · rintro zs σ' H' ⟨s', _, rfl, _⟩ l hl0
            refine ⟨l, _, rfl, SqL.of upd_same, ?_⟩
            have e : ∀ n, (List.replicate n true).all id = true := fun n => by simp
            rw [e]
            exact k _ (s1.trans (s'.trans (Same.new hl0)))
theorem ok__law_same (T : Txt K mg A) : FnOk P w K mg base CX0 7 A.a__law_same A.fd__law_same ["_law_found", "_law_due"] (sp_same 6) := okr__law_same T 6
def n__law_weight : List Str := ["_law_rule", "_law_choice", "_law_mine", "_law_rest", "_law_weight_here", "_law_part", "_law_low", "_law_high"]
theorem sc__law_weight : FnScope n__law_weight ["_law_rule", "_law_choice"] (defScope s__law_weight) := ⟨rfl, rfl, rfl, by decide +kernel, rfl, by decide +kernel, by decide +kernel⟩
def sp_lweight : Sp := fun vs H Q _ => ∃ (p c : Addr) (rs : List V) (rule : List (List Int)) (ch us : List Int), vs = [.ref p, .ref c] ∧ H p = some (.tup rs) ∧ All2 Tup1 H rule rs ∧ H c = some (.tup (ch.map V.int)) ∧ rule.length ≤ 6 ∧ (∀ h ∈ rule, h.length ≤ 60) ∧ ch ∈ chG (upto rule.length) ∧ ch ≠ [] ∧ us.Nodup ∧ (∀ x, x ∈ us ↔ x ∈ rule.flatten) ∧
  ∀ H', Same H H' → Q (.int (wtG rule us ch)) H'
theorem ok__law_weight (T : Txt K mg A) : FnOk P w K mg base CX0 5 A.a__law_weight A.fd__law_weight ["_law_rule", "_law_choice"] sp_lweight := by
  refine T.F__law_weight.ok sc__law_weight (fun vs H Q E h => ?_) (fun cdv Ar outer s H vs Q E hr h => ?_)
  · obtain ⟨p, c, rs, rule, ch, us, rfl, hp, h2, hc, h6, h60, hch, hne, hnd, hmem, k⟩ := h
    rfl
  · obtain ⟨p, c, rs, rule, ch, us, rfl, hp, h2, hc, h6, h60, hch, hne, hnd, hmem, k⟩ := h
    refine ⟨_, (pss_cons (ps_comp (i := 2) (ls := ["_law_number"]) (fr := [("_law_rule", 0)]) (cs_of (defScope s__law_weight) n__law_weight rfl rfl (by decide +kernel)) rfl (pi_tup (pv 1 (hv := Or.inr (Or.inl rfl)))) (fun _ _ _ _ => pgc 0 (by decide +kernel) rfl rfl) (fun _ _ _ _ => pf_nil) (fun _ _ _ _ => (pe_ix (ix_tupK K rfl) (pvc (defScope s__law_weight) 1) (pvc (defScope s__law_weight) 0) (fun _ _ => rfl))) sc__law_weight.nd rfl rfl rfl)
        (pss_cons (ps_comp (i := 3) (ls := ["_law_number"]) (fr := [("_law_rule", 0), ("_law_choice", 1)]) (cs_of (defScope s__law_weight) n__law_weight rfl rfl (by decide +kernel)) rfl (pi_range1 rfl T.b_range (pa_cons (pe_callB call_len_seq rfl T.b_len PySem.boot_len (pa_cons (pv 0 (hv := Or.inr (Or.inl rfl))) pa_nil)) pa_nil)) (fun _ _ _ _ => pgc 0 (by decide +kernel) rfl rfl) (fun _ _ _ _ => pf_one (pt_cmpR (op_notIn_seqK K rfl) (pvc (defScope s__law_weight) 0) (pvc (defScope s__law_weight) 2) rfl)) (fun _ _ _ _ => (pe_ix (ix_tupK K rfl) (pvc (defScope s__law_weight) 1) (pvc (defScope s__law_weight) 0) (fun _ _ => rfl))) sc__law_weight.nd rfl rfl rfl)
        (pss_cons (ps_set (i := 4) sc__law_weight.nd rfl (by first | exact Or.inl rfl | exact Or.inr rfl) pe_int)
        (pss_cons (ps_for PassesOwn.never rfl (pi_list (pe_callB (call_sort_MK rfl P w rfl rfl) rfl T.b_sorted boot_sorted (pa_cons (pe_callTy (call_set_MK rfl P w rfl rfl) rfl T.b_set boot_set (pa_cons (pe_ix ix_list (pv 2) pe_int (fun _ _ => rfl)) pa_nil)) pa_nil))) (pg_name (i := 5) sc__law_weight.nd rfl (by first | exact Or.inl rfl | exact Or.inr rfl))
          (pss_cons (ps_set (i := 6) sc__law_weight.nd rfl (by first | exact Or.inl rfl | exact Or.inr rfl) (pe_callB (call_min_ints rfl) rfl T.b_min boot_min (pa_cons (pe_comp (ls := ["_law_heap_here"]) (fr := [("_law_part", 5)]) (cs_of (defScope s__law_weight) n__law_weight rfl rfl (by decide +kernel)) rfl (pi_list (pv 2)) (fun _ _ _ _ => pgc 0 (by decide +kernel) rfl rfl) (fun _ _ _ _ => pf_nil) (fun _ _ _ _ => (pe_bmK K rfl PySem.F.plainAttrs_tuple PySem.F.slot_tuple_count PySem.F.type_tuple_count (mt_countTK K rfl) (pvc (defScope s__law_weight) 0) (pa_cons (pvc (defScope s__law_weight) 1) pa_nil)))) pa_nil)))
        (pss_cons (ps_set (i := 7) sc__law_weight.nd rfl (by first | exact Or.inl rfl | exact Or.inr rfl) (pe_callB (call_max_ints rfl) rfl T.b_max boot_max (pa_cons (pe_op op_cat (pe_comp (ls := ["_law_heap_here"]) (fr := [("_law_part", 5)]) (cs_of (defScope s__law_weight) n__law_weight rfl rfl (by decide +kernel)) rfl (pi_list (pv 3)) (fun _ _ _ _ => pgc 0 (by decide +kernel) rfl rfl) (fun _ _ _ _ => pf_nil) (fun _ _ _ _ => (pe_bmK K rfl PySem.F.plainAttrs_tuple PySem.F.slot_tuple_count PySem.F.type_tuple_count (mt_countTK K rfl) (pvc (defScope s__law_weight) 0) (pa_cons (pvc (defScope s__law_weight) 1) pa_nil)))) (pe_lst (pa_cons pe_int pa_nil))) pa_nil)))
        (pss_one (ps_aug (i := 4) sc__law_weight.nd rfl (by first | exact Or.inl rfl | exact Or.inr rfl) (pe_op op_mul (pv 5 (hv := Or.inr (Or.inl rfl))) (pe_callB (call_max2 rfl) rfl T.b_max boot_max (pa_cons pe_int (pa_cons (pe_op op_sub (pv 6) (pv 7)) pa_nil)))) ip_add)))))
        (pss_one (ps_ret (pv 4))))))), ?_⟩
    have hrl := h2.length
    have cm := chG_mem rule.length (upto rule.length) (upto_len _) ch hch
    have chb : ∀ j ∈ ch, 0 ≤ j ∧ j < rule.length := fun j hj => upto_mem (cm.2 j hj)
    have ch6 : ch.length ≤ 6 := by have := cm.1; omega
    refine ⟨_, rfl, c, rfl, ⟨_, SqT.of hc⟩, comp_tup (xs := ch.map V.int) (fun i ys σ' H' => H' = H ∧ (∃ v, σ' = [v, some (.ref p)]) ∧ All2 Tup1 H (pickG rule (ch.take i)) ys) ⟨rfl, ⟨_, rfl⟩, .nil⟩ ?_ ?_ ?_⟩
    · rintro i ys σ' H' hi ⟨eH, _, hy⟩
      subst eH
      refine ⟨SqT.of hc, ?_⟩
      rw [← hy.length]
      unfold pickG
      rw [List.length_map, List.length_take]
      exact Nat.le_trans (m := 6) (by omega) (by decide)
    · rintro i x ys σ' H' hx ⟨eH, ⟨v, rfl⟩, hy⟩
      subst eH
      obtain ⟨j, hj, rfl⟩ := map_at hx
      have hjb := chb j (List.mem_of_getElem? hj)
      obtain ⟨u, hu, hq⟩ := pick_at h2 hjb.1 hjb.2
      refine ⟨_, rfl, _, rfl, p, _, _, u, rfl, rfl, SqT.of hp, hu, rfl, ⟨_, rfl⟩, ?_⟩
      rw [List.take_succ, hj]
      unfold pickG at hy ⊢
      rw [List.map_append]
      exact hy.snoc hq
    · rintro ys σ' H' ⟨eH, _, hy⟩ mi hmi
      subst eH
      rw [List.length_map, List.take_length] at hy
      have s1 := Same.new (o := .lst ys) hmi
      have gmi := upd_same (H := H') (a := mi) (o := .lst ys)
      generalize upd H' mi (.lst ys) = H1 at s1 gmi ⊢
      have hp1 := s1 _ _ hp
      have hc1 := s1 _ _ hc
      have h21 := h2.mv s1.tups
      have hy1 := hy.mv s1.tups
      refine ⟨_, rfl, p, _, rfl, .inr (SqT.of hp1), _, rfl, by omega, by omega, comp_range (n := ((rs.length : Nat) : Int).toNat) (fun i zs σ' H' => H' = H1 ∧ (∃ v, σ' = [v, some (.ref p), some (.ref c)]) ∧ All2 Tup1 H1 (pickG rule (((List.range i).map fun (k : Nat) => (k : Int)).filter fun x => !decide (x ∈ ch))) zs) ⟨rfl, ⟨_, rfl⟩, .nil⟩ ?_ ?_ ?_⟩
      · rintro i zs σ' H2 hi ⟨eH, _, hz⟩
        rw [← hz.length]
        unfold pickG
        rw [List.length_map]
        refine Nat.le_trans (List.length_filter_le ..) ?_
        rw [List.length_map, List.length_range]
        exact Nat.le_trans (m := 6) (by omega) (by decide)
      · rintro i zs σ' H2 hi ⟨eH, ⟨v, rfl⟩, hz⟩
        subst eH
        refine ⟨_, rfl, _, rfl, c, _, rfl, .inr (SqT.of hc1), rfl, flat_ints _, _, rfl, ?_⟩
        have hi' : (i : Int) < rule.length := by omega
        rw [if_pos rfl, inV_ints, List.range_succ, List.map_append, List.filter_append]
        by_cases hm : ((0 : Int) + (i : Int)) ∈ ch
        · have hm' : (i : Int) ∈ ch := by rw [Int.zero_add] at hm; exact hm
          dsimp only
          rw [if_neg (by simp [hm'])]
          refine ⟨rfl, ⟨_, rfl⟩, ?_⟩
          rw [show ([i].map fun (k : Nat) => (k : Int)).filter (fun x => !decide (x ∈ ch)) = [] by simp [hm'], List.append_nil]
          exact hz
        · have hm' : (i : Int) ∉ ch := by rw [Int.zero_add] at hm; exact hm
          dsimp only
          rw [if_pos (by simp [hm'])]
          obtain ⟨u, hu, hq⟩ := pick_at h21 (j := 0 + (i : Int)) (by omega) (by omega)
          refine ⟨_, rfl, _, rfl, p, _, _, u, rfl, rfl, SqT.of hp1, hu, rfl, ⟨_, rfl⟩, ?_⟩
          rw [show ([i].map fun (k : Nat) => (k : Int)).filter (fun x => !decide (x ∈ ch)) = [(i : Int)] by simp [hm']]
          unfold pickG at hz ⊢
          rw [List.map_append]
          rw [Int.zero_add] at hq
          exact hz.snoc hq
      · rintro zs σ' H2 ⟨eH, _, hz⟩ re hre
        subst eH
        rw [Int.toNat_natCast, ← hrl] at hz
        generalize hR : (((List.range rule.length).map fun (k : Nat) => (k : Int)).filter fun x => !decide (x ∈ ch)) = R at hz
        have hRm : ∀ x, x ∈ R ↔ (0 ≤ x ∧ x < rule.length) ∧ x ∉ ch := fun x => by
          rw [← hR, List.mem_filter, List.mem_map]
          constructor
          · rintro ⟨⟨n, hn, rfl⟩, hx⟩
            have := List.mem_range.mp hn
            exact ⟨⟨by omega, by omega⟩, by simpa using hx⟩
          · rintro ⟨⟨a1, a2⟩, a3⟩
            exact ⟨⟨x.toNat, List.mem_range.mpr (by omega), by omega⟩, by simpa using a3⟩
        have hRl : R.length ≤ 6 := by
          rw [← hR]
          refine Nat.le_trans (List.length_filter_le ..) ?_
          rw [List.length_map, List.length_range]
          exact h6
        have s2 := Same.new (o := .lst zs) hre
        have gre := upd_same (H := H2) (a := re) (o := .lst zs)
        have gmi2 := s2 _ _ gmi
        have hy2 := hy1.mv s2.tups
        have hz2 := hz.mv s2.tups
        have s12 := s1.trans s2
        generalize upd H2 re (.lst zs) = H3 at s2 gre gmi2 hy2 hz2 s12 ⊢
        cases ch with
        | nil => exact absurd rfl hne
        | cons i0 ch0 =>
          have hi0 := chb i0 (by simp)
          have hB0 : (rule.getD i0.toNat []).length ≤ 60 := by
            have hlt : i0.toNat < rule.length := by omega
            refine h60 _ ?_
            rw [List.getD_eq_getElem?_getD, List.getElem?_eq_getElem hlt]
            exact List.getElem_mem hlt
          obtain ⟨v0, hv0, q0, rfl, hq0⟩ : ∃ v0, atI ys 0 = some v0 ∧ Tup1 (rule.getD i0.toNat []) v0 H3 := by
            have hy3 := hy2
            unfold pickG at hy3
            rw [List.map_cons] at hy3
            cases hy3 with
            | cons r rest => exact ⟨_, atI_nat (j := 0) rfl, r⟩
          refine ⟨_, rfl, mi, _, _, _, rfl, rfl, SqL.of gmi2, hv0, q0, _, rfl, SqT.of hq0, by omega, fun sa hsa => ?_⟩
          refine ⟨sa, _, rfl, upd_same, by omega, fun vs l hvn hvm hvs hl => ?_⟩
          have s4 := (Same.new (o := .ext (IsSetM P w sa (rule.getD i0.toNat []))) hsa).trans (Same.new (o := .lst (vs.map V.int)) hl)
          have gl := upd_same (H := upd H3 sa (.ext (IsSetM P w sa (rule.getD i0.toNat [])))) (a := l) (o := .lst (vs.map V.int))
          generalize upd (upd H3 sa (.ext (IsSetM P w sa (rule.getD i0.toNat [])))) l (.lst (vs.map V.int)) = H4 at s4 gl ⊢
          have e0 := wt_first hnd hmem hvn hch (i := i0) (by simp) hvm hRm
          have gmi4 := s4 _ _ gmi2
          have gre4 := s4 _ _ gre
          have hy4 := hy2.mv s4.tups
          have hz4 := hz2.mv s4.tups
          refine ⟨l, rfl, ⟨_, SqL.of gl⟩, for_list (xs := vs.map V.int) (fun i σ' H' => (∃ v5 v6 v7, σ' = [some (.ref p), some (.ref c), some (.ref mi), some (.ref re), some (.int (((vs.take i).map fun p => p * ((minC (pickG rule (i0 :: ch0)) p - maxC (pickG rule R) p : Nat) : Int)).sum)), v5, v6, v7]) ∧ Same H4 H') ⟨⟨_, _, _, rfl⟩, fun _ _ z => z⟩ ?_ ?_ ?_⟩
          · rintro i σ' H' _ ⟨_, s'⟩
            exact SqL.of (s' _ _ gl)
          · rintro i x σ' H' hx ⟨⟨v5, v6, v7, rfl⟩, s'⟩
            obtain ⟨y, hyv, rfl⟩ := map_at hx
            refine ⟨_, rfl, mi, rfl, ⟨_, SqL.of (s' _ _ gmi4)⟩, comp_list (xs := ys) (fun j cs σ2 H2 => H2 = H' ∧ (∃ v, σ2 = [v, some (.int y)]) ∧ cs = (((pickG rule (i0 :: ch0)).take j).map fun l => ((l.count y : Nat) : Int)).map V.int) ⟨rfl, ⟨_, rfl⟩, rfl⟩ ?_ ?_ ?_⟩
            · rintro j cs σ2 H2 hj ⟨eH, _, rfl⟩
              subst eH
              refine ⟨SqL.of (s' _ _ gmi4), ?_⟩
              rw [List.length_map, List.length_map, List.length_take]
              exact Nat.le_trans (m := 6) (by have := hy4.length; unfold pickG at *; rw [List.length_map] at *; omega) (by decide)
            · rintro j x cs σ2 H2 hx2 ⟨eH, ⟨v, rfl⟩, rfl⟩
              subst eH
              obtain ⟨hs, hhs, q, rfl, hq⟩ := hy4.get hx2
              refine ⟨_, rfl, .inr (.inl ⟨rfl, .inr ⟨_, s' _ _ hq⟩⟩), _, rfl, q, _, _, rfl, rfl, SqT.of (s' _ _ hq), rfl, flat_ints _, rfl, ⟨_, rfl⟩, ?_⟩
              rw [cntV_ints, List.take_succ, hhs, List.map_append, List.map_append]
              rfl
            · rintro cs σ2 H2 ⟨eH, _, rfl⟩ cl hcl
              subst eH
              rw [← hy4.length, List.take_length]
              refine ⟨cl, _, rfl, SqL.of upd_same, by unfold pickG; simp, fun lo hlo => ?_⟩
              have elo := min_of_counts hlo
              subst elo
              have s5 := s'.trans (Same.new (o := .lst (((pickG rule (i0 :: ch0)).map fun l => ((l.count y : Nat) : Int)).map V.int)) hcl)
              generalize upd H2 cl (.lst (((pickG rule (i0 :: ch0)).map fun l => ((l.count y : Nat) : Int)).map V.int)) = H5 at s5 ⊢
              refine ⟨_, rfl, re, rfl, ⟨_, SqL.of (s5 _ _ gre4)⟩, comp_list (xs := zs) (fun j cs σ2 H2 => H2 = H5 ∧ (∃ v, σ2 = [v, some (.int y)]) ∧ cs = (((pickG rule R).take j).map fun l => ((l.count y : Nat) : Int)).map V.int) ⟨rfl, ⟨_, rfl⟩, rfl⟩ ?_ ?_ ?_⟩
              · rintro j cs σ2 H2 hj ⟨eH, _, rfl⟩
                subst eH
                refine ⟨SqL.of (s5 _ _ gre4), ?_⟩
                rw [List.length_map, List.length_map, List.length_take]
                exact Nat.le_trans (m := 6) (by have := hz4.length; unfold pickG at *; rw [List.length_map] at *; omega) (by decide)
              · rintro j x cs σ2 H2 hx2 ⟨eH, ⟨v, rfl⟩, rfl⟩
                subst eH
                obtain ⟨hs, hhs, q, rfl, hq⟩ := hz4.get hx2
                refine ⟨_, rfl, .inr (.inl ⟨rfl, .inr ⟨_, s5 _ _ hq⟩⟩), _, rfl, q, _, _, rfl, rfl, SqT.of (s5 _ _ hq), rfl, flat_ints _, rfl, ⟨_, rfl⟩, ?_⟩
                rw [cntV_ints, List.take_succ, hhs, List.map_append, List.map_append]
                rfl
              · rintro cs σ2 H2 ⟨eH, _, rfl⟩ c2 hc2
                subst eH
                rw [← hz4.length, List.take_length]
                have s6 := s5.trans (Same.new (o := .lst (((pickG rule R).map fun l => ((l.count y : Nat) : Int)).map V.int)) hc2)
                have gc2 := upd_same (H := H2) (a := c2) (o := .lst (((pickG rule R).map fun l => ((l.count y : Nat) : Int)).map V.int))
                generalize upd H2 c2 (.lst (((pickG rule R).map fun l => ((l.count y : Nat) : Int)).map V.int)) = H6 at s6 gc2 ⊢
                refine ⟨by show 1 ≤ sizeLine; decide, fun z1 hz1 => ?_⟩
                refine ⟨c2, z1, _, _, rfl, rfl, Same.new hz1 _ _ gc2, upd_same, ?_, fun z2 hz2' => ?_⟩
                · rw [List.length_map, List.length_map]
                  unfold pickG
                  rw [List.length_map]
                  exact Nat.le_trans (m := 7) (show R.length + 1 ≤ 7 by omega) (by decide)
                have s7 := s6.trans ((Same.new (o := .lst [V.int 0]) hz1).trans (Same.new (o := .lst (((pickG rule R).map fun l => ((l.count y : Nat) : Int)).map V.int ++ [V.int 0])) hz2'))
                have ez : ((pickG rule R).map fun l => ((l.count y : Nat) : Int)).map V.int ++ [V.int 0] = (((pickG rule R ++ [[]]).map fun (l : List Int) => ((l.count y : Nat) : Int))).map V.int := by
                  rw [List.map_append, List.map_append]
                  rfl
                rw [ez] at s7 ⊢
                refine ⟨z2, _, rfl, SqL.of upd_same, by simp, fun hi hhi => ?_⟩
                have ehi := max_of_counts hhi
                subst ehi
                have emx : maxC (pickG rule R ++ [[]]) y = maxC (pickG rule R) y := by
                  rw [maxC_append]
                  show max _ (max 0 0) = _
                  omega
                rw [emx]
                have hlo60 : minC (pickG rule (i0 :: ch0)) y ≤ 60 := by
                  have := minC_le (x := y) (l := rule.getD i0.toNat []) (ls := pickG rule (i0 :: ch0)) (List.mem_map.mpr ⟨i0, by simp, rfl⟩)
                  have := List.count_le_length (a := y) (l := rule.getD i0.toNat [])
                  omega
                refine ⟨_, rfl, _, rfl, _, rfl, _, rfl, _, _, rfl, rfl, _, _, rfl, ?_⟩
                have em : (if ((minC (pickG rule (i0 :: ch0)) y : Nat) : Int) - ((maxC (pickG rule R) y : Nat) : Int) > 0 then ((minC (pickG rule (i0 :: ch0)) y : Nat) : Int) - ((maxC (pickG rule R) y : Nat) : Int) else 0) = ((minC (pickG rule (i0 :: ch0)) y - maxC (pickG rule R) y : Nat) : Int) := by
                  split <;> omega
                rw [em]
                refine ⟨_, _, rfl, rfl, .inr ⟨by omega, by omega⟩, _, _, rfl, rfl, ?_, s7⟩
                have es : ((vs.take (i + 1)).map fun p => p * ((minC (pickG rule (i0 :: ch0)) p - maxC (pickG rule R) p : Nat) : Int)).sum = ((vs.take i).map fun p => p * ((minC (pickG rule (i0 :: ch0)) p - maxC (pickG rule R) p : Nat) : Int)).sum + y * ((minC (pickG rule (i0 :: ch0)) y - maxC (pickG rule R) y : Nat) : Int) := by
                  rw [List.take_succ, hyv, List.map_append, List.sum_append]
                  simp
                rw [es]
                exact ⟨_, _, _, rfl⟩
          · rintro σ' H' ⟨⟨v5, v6, v7, rfl⟩, s'⟩
            rw [List.length_map, List.take_length, ← e0]
            exact ⟨_, rfl, k _ (s12.trans (s4.trans s'))⟩
def n_law : List Str := ["_law_script", "_law_state", "_law_size", "_law_rule", "_law_choices_here", "_law_due", "_law_choice", "_law_told", "_law_sums", "_law_touched"]
theorem sc_law : FnScope n_law ["_law_script"] (defScope s_law) := ⟨rfl, rfl, rfl, by decide +kernel, rfl, by decide +kernel, by decide +kernel⟩
theorem chG_head : ∀ n : Nat, ∃ r, chG (upto n) = [] :: r
  | 0 => ⟨_, rfl⟩
  | n + 1 => by
    obtain ⟨r, e⟩ := chG_head n
    rw [upto_succ, chG_snoc, e]
    exact ⟨_, rfl⟩
theorem chG_tail (n : Nat) : (chG (upto n)).filter (fun c => decide (0 < c.length)) = (chG (upto n)).drop 1 := by
  obtain ⟨r, e⟩ := chG_head n
  have hn := chG_nodup n
  rw [e] at hn ⊢
  rw [List.filter_cons, if_neg (by simp)]
  refine List.filter_eq_self.mpr fun c hc => decide_eq_true ?_
  cases c with
  | nil => exact absurd hc (List.nodup_cons.mp hn).1
  | cons x r => simp
theorem wt_us {rule : List (List Int)} {us vs : List Int} (hu : us.Nodup) (hv : vs.Nodup) (h : ∀ x, x ∈ us ↔ x ∈ vs) (c : List Int) : wtG rule us c = wtG rule vs c := perm_sum (((List.perm_ext_iff_of_nodup hu hv).mpr h).map _)
theorem touch_tail (n : Nat) (s : List Int) : ((chG (upto n)).drop 1).filter (touch s) = (chG (upto n)).filter (touch s) := by
  obtain ⟨r, e⟩ := chG_head n
  rw [e, List.filter_cons, if_neg (by simp [touch])]
  rfl
def sp_law (K : PySem.W.Frag) : Sp := fun vs H Q _ => ∃ (a : Addr) (ns : List Int), vs = [.ref a] ∧ SqL K H a (ns.map V.int) ∧ ns.length ≤ 63 ∧ ∀ H', Q (.bl true) H'
theorem ok_law (T : Txt K mg A) : FnOk P w K mg base CX0 8 A.a_law A.fd_law ["_law_script"] (sp_law K) := by
  refine T.F_law.ok sc_law (fun vs H Q E h => ?_) (fun cdv Ar outer s H vs Q E hr h => ?_)
  · obtain ⟨a, ns, rfl, hS, hl, k⟩ := h
    rfl
  · obtain ⟨a, ns, rfl, hS, hl, k⟩ := h
    refine ⟨_, (pss_cons (ps_set (i := 1) sc_law.nd rfl (by first | exact Or.inl rfl | exact Or.inr rfl) (pe_call (ok__law_start T) (hr.mono (by decide)) rfl T.g__law_start T.F__law_start.kp T.b__law_start .nil pass0 (pa_cons (pv 0) pa_nil)))
        (pss_cons (ps_set (i := 2) sc_law.nd rfl (by first | exact Or.inl rfl | exact Or.inr rfl) (pe_ix ix_list (pe_lst (pa_cons pe_int (pa_cons pe_int (pa_cons pe_int (pa_cons pe_int (pa_cons pe_int (pa_cons pe_int (pa_cons pe_int (pa_cons pe_int pa_nil))))))))) (pe_call (ok__law_draw T) (hr.mono (by decide)) rfl T.g__law_draw T.F__law_draw.kp T.b__law_draw .nil pass0 (pa_cons (pv 1) (pa_cons pe_int pa_nil))) (fun _ _ => rfl)))
        (pss_cons (ps_set (i := 3) sc_law.nd rfl (by first | exact Or.inl rfl | exact Or.inr rfl) (pe_call (ok__law_raw_rule T) (hr.mono (by decide)) rfl T.g__law_raw_rule T.F__law_raw_rule.kp T.b__law_raw_rule .nil pass0 (pa_cons (pv 1) (pa_cons (pe_call (ok__law_draw T) (hr.mono (by decide)) rfl T.g__law_draw T.F__law_draw.kp T.b__law_draw .nil pass0 (pa_cons (pv 1) (pa_cons pe_int pa_nil))) (pa_cons (pv 2) (pa_cons (pe_ix ix_list (pe_lst (pa_cons pe_int (pa_cons (pe_op op_pow pe_int pe_int) pa_nil))) (pe_call (ok__law_draw T) (hr.mono (by decide)) rfl T.g__law_draw T.F__law_draw.kp T.b__law_draw .nil pass0 (pa_cons (pv 1) (pa_cons pe_int pa_nil))) (fun _ _ => rfl)) pa_nil))))))
        (pss_cons (ps_if (PW.pt (pw_and (pt_truth (pv 3 (hv := Or.inr (Or.inl rfl))) (fun _ => rfl)) (pw_and1 (pt_cmpR op_eq (pe_call (ok__law_draw T) (hr.mono (by decide)) rfl T.g__law_draw T.F__law_draw.kp T.b__law_draw .nil pass0 (pa_cons (pv 1) (pa_cons pe_int pa_nil))) pe_int (nomark _)))))
          (pss_one (ps_set (i := 3) sc_law.nd rfl (by first | exact Or.inl rfl | exact Or.inr rfl) (pe_op op_catA (pe_slice sl_tupA (pv 3 (hv := Or.inr (Or.inl rfl))) po_none (po_some (pe_un un_neg pe_int))) (pe_tup (pa_cons (pe_ix ix_tup (pv 3 (hv := Or.inr (Or.inl rfl))) pe_int (fun _ _ => rfl)) pa_nil))))) pss_nil)
        (pss_cons (ps_set (i := 4) sc_law.nd rfl (by first | exact Or.inl rfl | exact Or.inr rfl) (pe_call (ok__law_choices T) (hr.mono (by decide)) rfl T.g__law_choices T.F__law_choices.kp T.b__law_choices .nil pass0 (pa_cons (pe_callB call_len_seq rfl T.b_len PySem.boot_len (pa_cons (pv 3 (hv := Or.inr (Or.inl rfl))) pa_nil)) pa_nil)))
        (pss_cons (ps_comp (i := 5) (ls := ["_law_choice"]) (fr := [("_law_rule", 3)]) (cs_of (defScope s_law) n_law rfl rfl (by decide +kernel)) rfl (pi_list (pe_slice sl_list (pv 4) (po_some pe_int) po_none)) (fun _ _ _ _ => pgc 0 (by decide +kernel) rfl rfl) (fun _ _ _ _ => pf_nil) (fun _ _ _ _ => (pe_tup (pa_cons (pvc (defScope s_law) 0) (pa_cons (pe_call (ok__law_weight T) (hr.mono (by decide)) (glc (defScope s_law)) T.g__law_weight T.F__law_weight.kp T.b__law_weight .nil pass0 (pa_cons (pvc (defScope s_law) 1) (pa_cons (pvc (defScope s_law) 0) pa_nil))) pa_nil)))) sc_law.nd rfl rfl rfl)
        (pss_cons (ps_set (i := 7) sc_law.nd rfl (by first | exact Or.inl rfl | exact Or.inr rfl) (pe_call (ok_weights_of T) (hr.mono (by decide)) rfl T.g_weights_of T.F_weights_of.kp T.b_weights_of .nil pass0 (pa_cons (pv 3 (hv := Or.inr (Or.inl rfl))) pa_nil)))
        (pss_cons (ps_if (pt_not (pt_truth (pe_call (ok__law_same T) (hr.mono (by decide)) rfl T.g__law_same T.F__law_same.kp T.b__law_same .nil pass0 (pa_cons (pv 7) (pa_cons (pv 5) pa_nil))) (fun _ => rfl)))
          (pss_one (ps_ret pe_bl)) pss_nil)
        (pss_cons (ps_set (i := 8) sc_law.nd rfl (by first | exact Or.inl rfl | exact Or.inr rfl) (pe_lst pa_nil))
        (pss_cons (ps_for PassesOwn.never rfl (pi_list (pv 4)) (pg_name (i := 6) sc_law.nd rfl (by first | exact Or.inl rfl | exact Or.inr rfl))
          (pss_cons (ps_comp (i := 9) (ls := ["_law_other", "_law_weight_here"]) (fr := [("_law_choice", 6)]) (cs_of (defScope s_law) n_law rfl rfl (by decide +kernel)) rfl (pi_list (pv 5)) (fun _ _ _ _ => pg_tupC 2 rfl (pgs_cons (pgc (ls := ["_law_other", "_law_weight_here"]) (fr := [("_law_choice", 6)]) 0 (by decide +kernel) rfl rfl) (pgs_cons (pgc (ls := ["_law_other", "_law_weight_here"]) (fr := [("_law_choice", 6)]) 1 (by decide +kernel) rfl rfl) pgs_nil)) rfl rfl) (fun _ _ _ _ => pf_one (pt_truthK K rfl (pe_callB (call_any_boolsK K rfl rfl) (glc (defScope s_law)) T.b_any boot_any (pa_cons (pe_comp (ls := ["_law_number"]) (fr := [("_law_choice", 2)]) (cs_of2 (defScope s_law)) rfl (pi_tupK2 K rfl (pvc (defScope s_law) 0)) (fun _ _ _ _ => pgc 0 (by decide +kernel) rfl rfl) (fun _ _ _ _ => pf_nil) (fun _ _ _ _ => (pe_cmpR (op_in_seqK K rfl) (pvc2 (defScope s_law) 0) (pvc2 (defScope s_law) 1) rfl))) pa_nil)) (fun _ => rfl))) (fun _ _ _ _ => (pvc (defScope s_law) 1)) sc_law.nd rfl rfl rfl)
        (pss_one (ps_expr (pe_bm PySem.F.plainAttrs_list PySem.F.slot_list_append PySem.F.type_list_append mt_append (pv 8) (pa_cons (pe_tup (pa_cons (pv 6 (hv := Or.inr (Or.inl rfl))) (pa_cons (pe_callB (call_sum_ints rfl) rfl T.b_sum boot_sum (pa_cons (pv 9) pa_nil)) pa_nil))) pa_nil))))))
        (pss_cons (ps_expr (pe_bm PySem.F.plainAttrs_list PySem.F.slot_list_append PySem.F.type_list_append mt_append (pv 7) (pa_cons (pe_tup (pa_cons (pe_tup (pa_cons pe_int pa_nil)) (pa_cons pe_int pa_nil))) pa_nil)))
        (pss_one (ps_ret (pe_and (pe_call (ok__law_same T) (hr.mono (by decide)) rfl T.g__law_same T.F__law_same.kp T.b__law_same .nil pass0 (pa_cons (pe_call (ok_sums_of T) (hr.mono (by decide)) rfl T.g_sums_of T.F_sums_of.kp T.b_sums_of .nil pass0 (pa_cons (pv 3 (hv := Or.inr (Or.inl rfl))) pa_nil)) (pa_cons (pv 8) pa_nil))) (pe_one (pe_call (ok__law_same T) (hr.mono (by decide)) rfl T.g__law_same T.F__law_same.kp T.b__law_same .nil pass0 (pa_cons (pe_call (ok_weights_of T) (hr.mono (by decide)) rfl T.g_weights_of T.F_weights_of.kp T.b_weights_of .nil pass0 (pa_cons (pv 3 (hv := Or.inr (Or.inl rfl))) pa_nil)) (pa_cons (pv 5) pa_nil)))))))))))))))))), ?_⟩
    refine ⟨_, rfl, a, ns, rfl, hS, hl, fun st ga ca H1 S1 n1 n2 n3 s1 => ?_⟩
    refine ⟨by show 8 ≤ sizeLine; decide, fun p1 hp1 => ⟨_, rfl, st, ga, ca, 0, 8, rfl, S1.same (Same.new hp1), by decide, by decide, by decide, fun r1 H2 r10 r11 S2 K2 => ?_⟩⟩
    obtain ⟨size, hm, em⟩ := pick (ns := [7, 7, 7, 7, 7, 7, 7, 60]) r10 r11
    have hsz : 0 ≤ size ∧ size ≤ 60 := by
      simp only [List.mem_cons, List.not_mem_nil, or_false] at hm
      omega
    refine ⟨p1, _, r1, _, rfl, rfl, SqL.of (K2.at upd_same (S1.nin hp1)), em, ?_⟩
    refine ⟨_, rfl, _, rfl, st, ga, ca, 7, 7, rfl, S2, by decide, by decide, by decide, fun many H3 m0 m1 S3 K3 => ?_⟩
    refine ⟨_, rfl, _, _, rfl, rfl, ⟨by decide, by decide, by decide⟩, by show 2 ≤ sizeLine; decide, fun p2 hp2 => ?_⟩
    refine ⟨_, rfl, st, ga, ca, 14, 2, rfl, S3.same (Same.new hp2), by decide, by decide, by decide, fun r2 H4 r20 r21 S4 K4 => ?_⟩
    obtain ⟨topp, ht, et⟩ := pick (ns := [4, 10 ^ Int.toNat 20]) r20 r21
    have htp : 0 < topp ∧ topp ≤ 10 ^ 60 := by
      simp only [List.mem_cons, List.not_mem_nil, or_false] at ht
      rcases ht with rfl | rfl <;> decide
    refine ⟨p2, _, r2, _, rfl, rfl, SqL.of (K4.at upd_same (S3.nin hp2)), et, ?_⟩
    refine ⟨st, ga, ca, 21, many, size, topp, rfl, S4, by decide, m0, by omega, hsz.1, hsz.2, htp.1, htp.2, fun p rs rule H5 hp h2 hln hg np S5 K5 => ?_⟩
    dsimp only [tNext, gName]
    refine seqJoin (fun σ' H' => ∃ (p : Addr) (rs : List V) (rule : List (List Int)), σ' = [some (.ref a), some (.ref st), some (.int size), some (.ref p), none, none, none, none, none, none] ∧ H' p = some (.tup rs) ∧ All2 Tup1 H' rule rs ∧ rule.length ≤ 6 ∧ ∀ h ∈ rule, h.length ≤ 60) (fun nx hnx => ?_) ?_
    · have hB : ∀ h ∈ rule, h.length ≤ 60 := fun h hh => by have := (hg h hh).1; omega
      have hrl := h2.length
      refine ⟨_, rfl, !rs.isEmpty, .inr (.inl ⟨_, SqT.of hp, rfl⟩), ?_⟩
      cases rs with
      | nil => exact iteF (iteF (hnx _ _ ⟨p, [], rule, rfl, hp, h2, by omega, hB⟩))
      | cons v0 rs0 =>
        refine iteT ⟨_, rfl, st, ga, ca, _, 2, rfl, S5, by omega, by decide, by decide, fun r H6 r0 r1 S6 K6 => ⟨rfl, _, rfl, ?_⟩⟩
        have hp6 := K6.tups S5 _ _ hp
        have h26 := h2.mv (K6.tups S5)
        refine ite2 (fun _ => ?_) (fun _ => hnx _ _ ⟨p, _, rule, rfl, hp6, h26, by omega, hB⟩)
        refine ⟨_, rfl, _, rfl, _, rfl, slice_any hp6 fun q H7 hq s7 => ?_⟩
        rw [cut_last] at hq
        refine ⟨_, rfl, p, _, 0, v0, rfl, rfl, SqT.of (s7 _ _ hp6), atI_nat (j := 0) rfl, by show 1 ≤ sizeLine; decide, fun t ht => ?_⟩
        refine cat_both (Same.new ht _ _ hq) upd_same ?_ fun q2 H8 hq2 s8 => ?_
        · rw [List.length_take]
          exact Nat.le_trans (m := 10) (by simp at hrl ⊢; omega) (by decide)
        obtain ⟨h0, hr0, r0'⟩ := h26.get (i := 0) (x := v0) rfl
        have s68 := s7.trans ((Same.new ht).trans s8)
        have a8 := ((h26.take ((v0 :: rs0).length - 1)).snoc r0').mv s68.tups
        refine hnx _ _ ⟨q2, _, rule.take ((v0 :: rs0).length - 1) ++ [h0], rfl, hq2, a8, ?_, fun h hh => ?_⟩
        · rw [a8.length, List.length_append, List.length_take]
          simp at hrl ⊢
          omega
        · rcases List.mem_append.mp hh with hh | hh
          · exact hB h (List.mem_of_mem_take hh)
          · have : h = h0 := by simpa using hh
            subst this
            exact hB _ (List.mem_of_getElem? hr0)
    · rintro σ1 H1' ⟨p, rs, rule, rfl, hp, h2, hln, hB⟩
      have hrl := h2.length
      have cl := chG_len rule.length (upto rule.length) (upto_len _)
      have cm := chG_mem rule.length (upto rule.length) (upto_len _)
      have p64 : (2 : Nat) ^ rule.length ≤ 64 := Nat.le_trans (Nat.pow_le_pow_right (by decide) hln) (by decide)
      have hB' : RuleB rule := fun h hh => Nat.le_trans (hB h hh) (by decide)
      obtain ⟨us, hud, hum⟩ := ex_unlike rule.flatten
      have hun : us.Nodup := hud.imp fun h => Int.ne_of_gt h
      have hfl : rule.flatten.length < 1000 := by
        have := flat_le (ls := rule) (B := 60) hB
        omega
      refine ⟨_, rfl, p, _, rfl, .inr (SqT.of hp), rs.length, rfl, by omega, fun cc cs H4 gcc h4 s4 ncc => ?_⟩
      rw [← hrl] at h4
      have hp4 := s4 _ _ hp
      have h24 := h2.mv s4.tups
      have hC : ∀ c ∈ (chG (upto rule.length)).drop 1, c ∈ chG (upto rule.length) ∧ c ≠ [] := fun c hc => by
        rw [← chG_tail] at hc
        obtain ⟨h1, h2⟩ := List.mem_filter.mp hc
        exact ⟨h1, fun e => by rw [e] at h2; cases of_decide_eq_true h2⟩
      have l4 := h4.length
      refine ⟨_, rfl, _, rfl, ?_⟩
      dsimp only [tNoPart]
      refine ⟨cc, _, rfl, SqL.of gcc, fun c1 hc1 => ?_⟩
      rw [show cutV cs (some 1) none = cs.drop 1 from cut_rest cs 1] at *
      have s1 := Same.new (o := .lst (cs.drop 1)) hc1
      have gc1 := upd_same (H := H4) (a := c1) (o := .lst (cs.drop 1))
      generalize upd H4 c1 (.lst (cs.drop 1)) = H5 at s1 gc1 ⊢
      have h45 : All2 Tup1 H5 ((chG (upto rule.length)).drop 1) (cs.drop 1) := (h4.drop 1).mv s1.tups
      have hp5 := s1 _ _ hp4
      have h25 := h24.mv s1.tups
      refine ⟨c1, rfl, ⟨_, SqL.of gc1⟩, comp_list (xs := cs.drop 1) (fun j zs σ' H' => Same H5 H' ∧ (∃ v, σ' = [v, some (.ref p)]) ∧ All2 CS H' ((((chG (upto rule.length)).drop 1).take j).map fun c => (c, wtG rule us c)) zs) ⟨fun _ _ h => h, ⟨_, rfl⟩, .nil⟩ ?_ ?_ ?_⟩
      · rintro j zs σ' H' hj ⟨s', _, hz⟩
        refine ⟨SqL.of (s' _ _ gc1), ?_⟩
        rw [← hz.length, List.length_map, List.length_take, List.length_drop]
        exact Nat.le_trans (m := 64) (by omega) (by decide)
      · rintro j x zs σ' H' hx ⟨s', ⟨v, rfl⟩, hz⟩
        obtain ⟨ch, hch, c, rfl, gcc'⟩ := h45.get hx
        obtain ⟨hc1', hc2'⟩ := hC ch (List.mem_of_getElem? hch)
        refine ⟨_, rfl, _, rfl, _, rfl, p, c, rs, rule, ch, us, rfl, s' _ _ hp5, h25.mv s'.tups, s' _ _ gcc', hln, hB, hc1', hc2', hun, hum, fun H'' s'' => ⟨by show 2 ≤ sizeLine; decide, fun q hq => ?_⟩⟩
        have sq := s''.trans (Same.new (o := .tup [V.ref c, V.int (wtG rule us ch)]) hq)
        refine ⟨s'.trans sq, ⟨_, rfl⟩, ?_⟩
        rw [List.take_succ, hch, List.map_append]
        exact (hz.imp fun _ _ h => h.mv sq.tups).snoc ⟨q, c, rfl, upd_same, sq _ _ (s' _ _ gcc')⟩
      · rintro zs σ' H6 ⟨s6, _, hz⟩ du hdu
        rw [← h45.length, List.take_length] at hz
        have s7 := Same.new (o := .lst zs) hdu
        have gdu := upd_same (H := H6) (a := du) (o := .lst zs)
        have az := hz.imp (H' := upd H6 du (.lst zs)) fun _ _ h => h.mv s7.tups
        have s07 := s1.trans (s6.trans s7)
        generalize upd H6 du (.lst zs) = H7 at s7 gdu az s07 ⊢
        have lms : ∀ z ∈ ((chG (upto rule.length)).drop 1).map (fun c => (c, wtG rule us c)), z.1.length ≤ 100000 := fun z hz => by
          obtain ⟨c, hc, rfl⟩ := List.mem_map.mp hz
          have := (cm c (hC c hc).1).1
          show c.length ≤ 100000
          omega
        have lml : (((chG (upto rule.length)).drop 1).map (fun c => (c, wtG rule us c))).length ≤ 64 := by
          rw [List.length_map, List.length_drop]
          omega
        refine ⟨_, rfl, p, rs, rule, rfl, s07 _ _ hp4, h24.mv s07.tups, hln, hfl, fun vs l xs H8 hvn hvm gl a8 s8 nl => ?_⟩
        have ew : ((chG (upto rule.length)).filter fun c => decide (0 < c.length)).map (fun c => (c, wtG rule vs c)) = ((chG (upto rule.length)).drop 1).map fun c => (c, wtG rule us c) := by
          rw [chG_tail]
          exact List.map_congr_left fun c _ => by rw [wt_us hvn hun fun x => (hvm x).trans (hum x).symm]
        rw [ew] at a8
        refine ⟨_, rfl, _, rfl, _, _, rfl, SmG.lstR gl (s8 _ _ gdu) a8 (az.imp fun _ _ z => z.mv s8.tups) (Nat.le_trans lml (by decide)) (fun z x y hz h1 h2 => CS.sm (lms z hz) h1 h2), fun H9 s9 => ⟨true, rfl, iteF ?_⟩⟩
        refine ⟨by show 0 ≤ sizeLine; decide, fun sm hsm => ?_⟩
        have sA := s9.trans (Same.new (o := .lst []) hsm)
        have gsm := upd_same (H := H9) (a := sm) (o := .lst [])
        generalize upd H9 sm (.lst []) = HA at sA gsm ⊢
        have s4A : Same H4 HA := s07.trans (s8.trans sA)
        have gccA := s4A _ _ gcc
        have gduA := (s8.trans sA) _ _ gdu
        have glA := sA _ _ gl
        have azA := az.imp (H' := HA) fun _ _ z => z.mv (s8.trans sA).tups
        have h4A := h4.mv s4A.tups
        have ncs : cc ≠ sm := fun e => by rw [← e, s9 _ _ (s8 _ _ (s07 _ _ gcc))] at hsm; cases hsm
        have nds : du ≠ sm := fun e => by rw [← e, s9 _ _ (s8 _ _ gdu)] at hsm; cases hsm
        have nls : l ≠ sm := fun e => by rw [← e, s9 _ _ gl] at hsm; cases hsm
        have tK : ∀ {H'}, Keep [sm] HA H' → Tups HA H' := fun K b xs e => K _ _ e (fun z => by
          have : b = sm := by simpa using z
          subst this
          rw [gsm] at e
          cases e)
        refine ⟨_, rfl, cc, rfl, ⟨_, SqL.of gccA⟩, for_list (xs := cs) (fun i σ' H' => (∃ v6 v9, σ' = [some (.ref a), some (.ref st), some (.int size), some (.ref p), some (.ref cc), some (.ref du), v6, some (.ref l), some (.ref sm), v9]) ∧ Keep [sm] HA H' ∧ ∃ ds : List V, H' sm = some (.lst ds) ∧ All2 CS H' (((chG (upto rule.length)).take i).map fun c => (c, sumX rule c)) ds) ⟨⟨_, _, rfl⟩, Keep.refl _ _, [], gsm, .nil⟩ ?_ ?_ ?_⟩
        · rintro i σ' H' _ ⟨_, K, _⟩
          exact SqL.of (K.at gccA (by simp [ncs]))
        · rintro i x σ' H' hx ⟨⟨v6, v9, rfl⟩, K, ds, gd, a2⟩
          obtain ⟨ch, hch, c, rfl, gc⟩ := h4A.get hx
          have T' := tK K
          have gc' := T' _ _ gc
          have gdu' := K.at gduA (by simp [nds])
          have az' := azA.imp (H' := H') fun _ _ z => z.mv T'
          have chb : ∀ j ∈ ch, 0 ≤ j ∧ j < rule.length := fun j hj => upto_mem ((cm ch (List.mem_of_getElem? hch)).2 j hj)
          have ch6 := (cm ch (List.mem_of_getElem? hch)).1
          have zl := az'.length
          rw [List.length_map, List.length_drop] at zl
          refine ⟨_, rfl, du, rfl, ⟨_, SqL.of gdu'⟩, comp_list (xs := zs) (fun j ys σ2 H2 => Same H' H2 ∧ (∃ v w, σ2 = [v, w, some (.ref c)]) ∧ ys = (((((chG (upto rule.length)).drop 1).take j).filter (touch ch)).map (wtG rule us)).map V.int) ⟨fun _ _ h => h, ⟨_, _, rfl⟩, rfl⟩ ?_ ?_ ?_⟩
          · rintro j ys σ2 H2 hj ⟨s2, _, rfl⟩
            refine ⟨SqL.of (s2 _ _ gdu'), ?_⟩
            rw [List.length_map, List.length_map]
            refine Nat.le_trans (List.length_filter_le ..) ?_
            rw [List.length_take]
            exact Nat.le_trans (m := 64) (by omega) (by decide)
          · rintro j x ys σ2 H2 hx2 ⟨s2, ⟨v, w, rfl⟩, rfl⟩
            obtain ⟨z, hz2, q2, c2, rfl, e1, e2⟩ := az'.get hx2
            rw [List.getElem?_map] at hz2
            obtain ⟨c', hc', rfl⟩ := Option.map_eq_some_iff.mp hz2
            have hc6 := (cm c' (hC c' (List.mem_of_getElem? hc')).1).1
            refine ⟨q2, _, rfl, SqT.of (s2 _ _ e1), rfl, _, _, rfl, _, _, rfl, rfl, ?_⟩
            refine ⟨_, rfl, c2, rfl, ⟨_, SqT.of (s2 _ _ e2)⟩, comp_tup (xs := c'.map V.int) (fun i2 bs σ3 H3 => H3 = H2 ∧ (∃ v, σ3 = [v, some (.ref c)]) ∧ bs = ((c'.take i2).map fun x => decide (x ∈ ch)).map V.bl) ⟨rfl, ⟨_, rfl⟩, rfl⟩ ?_ ?_ ?_⟩
            · rintro i2 bs σ3 H3 hi2 ⟨eH, _, rfl⟩
              subst eH
              refine ⟨SqT.of (s2 _ _ e2), ?_⟩
              rw [List.length_map, List.length_map, List.length_take]
              exact Nat.le_trans (m := 6) (by omega) (by decide)
            · rintro i2 x2 bs σ3 H3 hx3 ⟨eH, ⟨v3, rfl⟩, rfl⟩
              subst eH
              obtain ⟨y, hy, rfl⟩ := map_at hx3
              refine ⟨_, rfl, _, rfl, c, _, rfl, .inr (SqT.of (s2 _ _ gc')), rfl, flat_ints _, rfl, ⟨_, rfl⟩, ?_⟩
              rw [if_neg Bool.false_ne_true, inV_ints y, List.take_succ, hy, List.map_append, List.map_append]
              rfl
            · rintro bs σ3 H3 ⟨eH, _, rfl⟩ l3 hl3
              subst eH
              rw [List.length_map, List.take_length]
              refine ⟨l3, c'.map fun x => decide (x ∈ ch), rfl, SqL.of upd_same, _, rfl, ?_⟩
              have et : (c'.map fun x => decide (x ∈ ch)).any id = touch ch c' := by
                unfold touch
                rw [List.any_map]
                rfl
              have s3 := s2.trans (Same.new (o := .lst ((c'.map fun x => decide (x ∈ ch)).map V.bl)) hl3)
              rw [et, filter_take _ hc']
              refine ite2 (fun hz => ⟨_, rfl, s3, ⟨_, _, rfl⟩, ?_⟩) (fun hz => ⟨s3, ⟨_, _, rfl⟩, ?_⟩)
              · rw [if_pos hz, List.map_append, List.map_append]
                rfl
              · rw [if_neg hz, List.append_nil]
          · rintro ys σ2 H2 ⟨s2, _, rfl⟩ tl htl
            rw [← az'.length, List.length_map, List.take_length, touch_tail]
            have s3 := s2.trans (Same.new (o := .lst ((((chG (upto rule.length)).filter (touch ch)).map (wtG rule us)).map V.int)) htl)
            have gtl := upd_same (H := H2) (a := tl) (o := .lst ((((chG (upto rule.length)).filter (touch ch)).map (wtG rule us)).map V.int))
            generalize upd H2 tl (.lst ((((chG (upto rule.length)).filter (touch ch)).map (wtG rule us)).map V.int)) = H3 at s3 gtl ⊢
            refine ⟨_, rfl, .inl ⟨rfl, _, SqL.of (s3 _ _ gd)⟩, _, rfl, _, rfl, tl, _, rfl, .inl (SqL.of gtl), by show 2 ≤ sizeLine; decide, fun T1 hT1 => ?_⟩
            have ews : (((chG (upto rule.length)).filter (touch ch)).map (wtG rule us)).sum = sumX rule ch := wt_sum hun hum chb
            rw [ews] at *
            have s5 := Same.new (o := .tup [V.ref c, V.int (sumX rule ch)]) hT1
            have gd5 := s5 _ _ (s3 _ _ gd)
            refine ⟨sm, _, _, rfl, rfl, gd5, ?_, ⟨_, _, rfl⟩, ?_, _, upd_same, ?_⟩
            · rw [← a2.length, List.length_map, List.length_take]
              exact Nat.lt_of_lt_of_le (show _ < 65 by omega) (by decide)
            · exact K.trans (((s3.trans s5).keep).trans (Keep.set (by simp)))
            · have tS : Tups (upd H3 T1 (.tup [V.ref c, V.int (sumX rule ch)])) (upd (upd H3 T1 (.tup [V.ref c, V.int (sumX rule ch)])) sm (.lst (ds ++ [.ref T1]))) := Tups.set gd5
              have tA : Tups H' _ := ((s3.trans s5).tups).trans tS
              rw [List.take_succ, hch, List.map_append]
              exact (a2.imp fun _ _ z => z.mv tA).snoc ⟨T1, c, rfl, tS _ _ (upd_same (H := H3) (a := T1) (o := .tup [V.ref c, V.int (sumX rule ch)])), tA _ _ gc'⟩
        · rintro σ' HB ⟨⟨v6, v9, rfl⟩, K, ds, gd, a2⟩
          have T' := tK K
          rw [← l4, List.take_length] at a2
          have hpB := T' _ _ (s4A _ _ hp4)
          have h2B := (h24.mv s4A.tups).mv T'
          have gduB := K.at gduA (by simp [nds])
          have glB := K.at glA (by simp [nls])
          have azB := azA.imp (H' := HB) fun _ _ z => z.mv T'
          have xl := a8.length
          rw [List.length_map, List.length_drop] at xl
          have lmc : ∀ z ∈ (chG (upto rule.length)).map (fun c => (c, sumX rule c)), z.1.length ≤ 100000 := fun z hz => by
            obtain ⟨c, hc, rfl⟩ := List.mem_map.mp hz
            have := (cm c hc).1
            show c.length ≤ 100000
            omega
          refine ⟨_, rfl, .inl ⟨rfl, _, SqL.of glB⟩, by show 1 ≤ sizeLine; decide, fun e1 he1 => ⟨by show 2 ≤ sizeLine; decide, fun e2 he2 => ?_⟩⟩
          have sE := (Same.new (o := .tup [V.int 0]) he1).trans (Same.new (o := .tup [V.ref e1, V.int 1]) he2)
          generalize upd (upd HB e1 (.tup [V.int 0])) e2 (.tup [V.ref e1, V.int 1]) = HE at sE ⊢
          refine ⟨l, _, _, rfl, rfl, sE _ _ glB, Nat.lt_of_le_of_lt (m := 64) (by omega) (by decide), ?_⟩
          have ndl : du ≠ l := ne_of_none gdu nl
          have nsl : sm ≠ l := nls.symm
          have tX : Tups HB (upd HE l (.lst (xs ++ [.ref e2]))) := sE.tups.trans (Tups.set (sE _ _ glB))
          have gduX : upd HE l (.lst (xs ++ [.ref e2])) du = some (.lst zs) := by rw [upd_ne ndl]; exact sE _ _ gduB
          have gdX : upd HE l (.lst (xs ++ [.ref e2])) sm = some (.lst ds) := by rw [upd_ne nsl]; exact sE _ _ gd
          generalize upd HE l (.lst (xs ++ [.ref e2])) = HX at tX gduX gdX ⊢
          refine ⟨_, rfl, p, rs, rule, rfl, tX _ _ hpB, h2B.mv tX, hln, hB', fun t2 ts2 HY gt2 aY sY nt2 => ?_⟩
          have a2Y := (a2.imp (H' := HX) fun _ _ z => z.mv tX).imp (H' := HY) fun _ _ z => z.mv sY.tups
          refine ⟨_, rfl, _, _, rfl, SmG.lstR gt2 (sY _ _ gdX) aY a2Y (by rw [List.length_map]; omega) (fun z x y hz h1 h2 => CS.sm (lmc z hz) h1 h2), fun HZ sZ => ⟨true, rfl, iteT ?_⟩⟩
          have sYZ := sY.trans sZ
          refine ⟨_, rfl, p, rs, rule, rfl, sYZ _ _ (tX _ _ hpB), (h2B.mv tX).mv sYZ.tups, hln, hfl, fun vs2 l5 xs5 HV hvn2 hvm2 gl5 a5 s5 nl5 => ?_⟩
          have ew2 : ((chG (upto rule.length)).filter fun c => decide (0 < c.length)).map (fun c => (c, wtG rule vs2 c)) = ((chG (upto rule.length)).drop 1).map fun c => (c, wtG rule us c) := by
            rw [chG_tail]
            exact List.map_congr_left fun c _ => by rw [wt_us hvn2 hun fun x => (hvm2 x).trans (hum x).symm]
          rw [ew2] at a5
          have azV := (azB.imp (H' := HX) fun _ _ z => z.mv tX).imp (H' := HV) fun _ _ z => z.mv (sYZ.trans s5).tups
          exact ⟨_, rfl, _, _, rfl, SmG.lstR gl5 ((sYZ.trans s5) _ _ gduX) a5 azV (Nat.le_trans lml (by decide)) (fun z x y hz h1 h2 => CS.sm (lms z hz) h1 h2), fun HW _ => k HW⟩
end
theorem all_mk {l : PySem.W.OpenLaw} {w : World} {K : PySem.W.Frag} {h : Heap} {mg : Str → Option Value} {fa : Addr} (X : K.In h) (G : h.Ns mainGlobals mg) (hfa : mg "law" = some (.ref fa))
    {f0 : Addr} {od0 an0 : Option Addr} {sl0 : Array (Option Value)} {oc0 kV0 dc0 pm0 cd0 ct0 : Value}
    {f1 : Addr} {od1 an1 : Option Addr} {sl1 : Array (Option Value)} {oc1 kV1 dc1 pm1 cd1 ct1 : Value}
    {f2 : Addr} {od2 an2 : Option Addr} {sl2 : Array (Option Value)} {oc2 kV2 dc2 pm2 cd2 ct2 : Value}
    {f3 : Addr} {od3 an3 : Option Addr} {sl3 : Array (Option Value)} {oc3 kV3 dc3 pm3 cd3 ct3 : Value}
    {f4 : Addr} {od4 an4 : Option Addr} {sl4 : Array (Option Value)} {oc4 kV4 dc4 pm4 cd4 ct4 : Value}
    {f5 : Addr} {od5 an5 : Option Addr} {sl5 : Array (Option Value)} {oc5 kV5 dc5 pm5 cd5 ct5 : Value}
    {f6 : Addr} {od6 an6 : Option Addr} {sl6 : Array (Option Value)} {oc6 kV6 dc6 pm6 cd6 ct6 : Value}
    {f7 : Addr} {od7 an7 : Option Addr} {sl7 : Array (Option Value)} {oc7 kV7 dc7 pm7 cd7 ct7 : Value}
    {f8 : Addr} {od8 an8 : Option Addr} {sl8 : Array (Option Value)} {oc8 kV8 dc8 pm8 cd8 ct8 : Value}
    {f9 : Addr} {od9 an9 : Option Addr} {sl9 : Array (Option Value)} {oc9 kV9 dc9 pm9 cd9 ct9 : Value}
    {f10 : Addr} {od10 an10 : Option Addr} {sl10 : Array (Option Value)} {oc10 kV10 dc10 pm10 cd10 ct10 : Value}
    {f11 : Addr} {od11 an11 : Option Addr} {sl11 : Array (Option Value)} {oc11 kV11 dc11 pm11 cd11 ct11 : Value}
    {f12 : Addr} {od12 an12 : Option Addr} {sl12 : Array (Option Value)} {oc12 kV12 dc12 pm12 cd12 ct12 : Value}
    {f13 : Addr} {od13 an13 : Option Addr} {sl13 : Array (Option Value)} {oc13 kV13 dc13 pm13 cd13 ct13 : Value}
    {f14 : Addr} {od14 an14 : Option Addr} {sl14 : Array (Option Value)} {oc14 kV14 dc14 pm14 cd14 ct14 : Value}
    {f15 : Addr} {od15 an15 : Option Addr} {sl15 : Array (Option Value)} {oc15 kV15 dc15 pm15 cd15 ct15 : Value}
    {f16 : Addr} {od16 an16 : Option Addr} {sl16 : Array (Option Value)} {oc16 kV16 dc16 pm16 cd16 ct16 : Value}
    {f17 : Addr} {od17 an17 : Option Addr} {sl17 : Array (Option Value)} {oc17 kV17 dc17 pm17 cd17 ct17 : Value}
    {f18 : Addr} {od18 an18 : Option Addr} {sl18 : Array (Option Value)} {oc18 kV18 dc18 pm18 cd18 ct18 : Value}
    (a0 : PySem.W.nsIn K mainGlobals "sum_of" = some (some (.ref f0))) (l0 : K.lookup f0 = some ⟨oc0, od0, .func (PySem.W.fnOf "sum_of" "sum_of" (defArgs s_sum_of) (defBody s_sum_of) (defScope s_sum_of) .none kV0 dc0 pm0 an0 cd0 ct0), sl0⟩) (c0 : PySem.W.codeIn K cd0 "sum_of" = true) (k0 : PySem.W.keepIn K (.ref f0) = true)
    (a1 : PySem.W.nsIn K mainGlobals "choices_among" = some (some (.ref f1))) (l1 : K.lookup f1 = some ⟨oc1, od1, .func (PySem.W.fnOf "choices_among" "choices_among" (defArgs s_choices_among) (defBody s_choices_among) (defScope s_choices_among) .none kV1 dc1 pm1 an1 cd1 ct1), sl1⟩) (c1 : PySem.W.codeIn K cd1 "choices_among" = true) (k1 : PySem.W.keepIn K (.ref f1) = true)
    (a2 : PySem.W.nsIn K mainGlobals "choices_of" = some (some (.ref f2))) (l2 : K.lookup f2 = some ⟨oc2, od2, .func (PySem.W.fnOf "choices_of" "choices_of" (defArgs s_choices_of) (defBody s_choices_of) (defScope s_choices_of) .none kV2 dc2 pm2 an2 cd2 ct2), sl2⟩) (c2 : PySem.W.codeIn K cd2 "choices_of" = true) (k2 : PySem.W.keepIn K (.ref f2) = true)
    (a3 : PySem.W.nsIn K mainGlobals "often" = some (some (.ref f3))) (l3 : K.lookup f3 = some ⟨oc3, od3, .func (PySem.W.fnOf "often" "often" (defArgs s_often) (defBody s_often) (defScope s_often) .none kV3 dc3 pm3 an3 cd3 ct3), sl3⟩) (c3 : PySem.W.codeIn K cd3 "often" = true) (k3 : PySem.W.keepIn K (.ref f3) = true)
    (a4 : PySem.W.nsIn K mainGlobals "unlike_parts" = some (some (.ref f4))) (l4 : K.lookup f4 = some ⟨oc4, od4, .func (PySem.W.fnOf "unlike_parts" "unlike_parts" (defArgs s_unlike_parts) (defBody s_unlike_parts) (defScope s_unlike_parts) .none kV4 dc4 pm4 an4 cd4 ct4), sl4⟩) (c4 : PySem.W.codeIn K cd4 "unlike_parts" = true) (k4 : PySem.W.keepIn K (.ref f4) = true)
    (a5 : PySem.W.nsIn K mainGlobals "joined" = some (some (.ref f5))) (l5 : K.lookup f5 = some ⟨oc5, od5, .func (PySem.W.fnOf "joined" "joined" (defArgs s_joined) (defBody s_joined) (defScope s_joined) .none kV5 dc5 pm5 an5 cd5 ct5), sl5⟩) (c5 : PySem.W.codeIn K cd5 "joined" = true) (k5 : PySem.W.keepIn K (.ref f5) = true)
    (a6 : PySem.W.nsIn K mainGlobals "joined_of" = some (some (.ref f6))) (l6 : K.lookup f6 = some ⟨oc6, od6, .func (PySem.W.fnOf "joined_of" "joined_of" (defArgs s_joined_of) (defBody s_joined_of) (defScope s_joined_of) .none kV6 dc6 pm6 an6 cd6 ct6), sl6⟩) (c6 : PySem.W.codeIn K cd6 "joined_of" = true) (k6 : PySem.W.keepIn K (.ref f6) = true)
    (a7 : PySem.W.nsIn K mainGlobals "sums_of" = some (some (.ref f7))) (l7 : K.lookup f7 = some ⟨oc7, od7, .func (PySem.W.fnOf "sums_of" "sums_of" (defArgs s_sums_of) (defBody s_sums_of) (defScope s_sums_of) .none kV7 dc7 pm7 an7 cd7 ct7), sl7⟩) (c7 : PySem.W.codeIn K cd7 "sums_of" = true) (k7 : PySem.W.keepIn K (.ref f7) = true)
    (a8 : PySem.W.nsIn K mainGlobals "holders_of" = some (some (.ref f8))) (l8 : K.lookup f8 = some ⟨oc8, od8, .func (PySem.W.fnOf "holders_of" "holders_of" (defArgs s_holders_of) (defBody s_holders_of) (defScope s_holders_of) .none kV8 dc8 pm8 an8 cd8 ct8), sl8⟩) (c8 : PySem.W.codeIn K cd8 "holders_of" = true) (k8 : PySem.W.keepIn K (.ref f8) = true)
    (a9 : PySem.W.nsIn K mainGlobals "weights_of" = some (some (.ref f9))) (l9 : K.lookup f9 = some ⟨oc9, od9, .func (PySem.W.fnOf "weights_of" "weights_of" (defArgs s_weights_of) (defBody s_weights_of) (defScope s_weights_of) .none kV9 dc9 pm9 an9 cd9 ct9), sl9⟩) (c9 : PySem.W.codeIn K cd9 "weights_of" = true) (k9 : PySem.W.keepIn K (.ref f9) = true)
    (a10 : PySem.W.nsIn K mainGlobals "_law_start" = some (some (.ref f10))) (l10 : K.lookup f10 = some ⟨oc10, od10, .func (PySem.W.fnOf "_law_start" "_law_start" (defArgs s__law_start) (defBody s__law_start) (defScope s__law_start) .none kV10 dc10 pm10 an10 cd10 ct10), sl10⟩) (c10 : PySem.W.codeIn K cd10 "_law_start" = true) (k10 : PySem.W.keepIn K (.ref f10) = true)
    (a11 : PySem.W.nsIn K mainGlobals "_law_mix" = some (some (.ref f11))) (l11 : K.lookup f11 = some ⟨oc11, od11, .func (PySem.W.fnOf "_law_mix" "_law_mix" (defArgs s__law_mix) (defBody s__law_mix) (defScope s__law_mix) .none kV11 dc11 pm11 an11 cd11 ct11), sl11⟩) (c11 : PySem.W.codeIn K cd11 "_law_mix" = true) (k11 : PySem.W.keepIn K (.ref f11) = true)
    (a12 : PySem.W.nsIn K mainGlobals "_law_draw" = some (some (.ref f12))) (l12 : K.lookup f12 = some ⟨oc12, od12, .func (PySem.W.fnOf "_law_draw" "_law_draw" (defArgs s__law_draw) (defBody s__law_draw) (defScope s__law_draw) .none kV12 dc12 pm12 an12 cd12 ct12), sl12⟩) (c12 : PySem.W.codeIn K cd12 "_law_draw" = true) (k12 : PySem.W.keepIn K (.ref f12) = true)
    (a13 : PySem.W.nsIn K mainGlobals "_law_choices" = some (some (.ref f13))) (l13 : K.lookup f13 = some ⟨oc13, od13, .func (PySem.W.fnOf "_law_choices" "_law_choices" (defArgs s__law_choices) (defBody s__law_choices) (defScope s__law_choices) .none kV13 dc13 pm13 an13 cd13 ct13), sl13⟩) (c13 : PySem.W.codeIn K cd13 "_law_choices" = true) (k13 : PySem.W.keepIn K (.ref f13) = true)
    (a14 : PySem.W.nsIn K mainGlobals "_law_heap" = some (some (.ref f14))) (l14 : K.lookup f14 = some ⟨oc14, od14, .func (PySem.W.fnOf "_law_heap" "_law_heap" (defArgs s__law_heap) (defBody s__law_heap) (defScope s__law_heap) .none kV14 dc14 pm14 an14 cd14 ct14), sl14⟩) (c14 : PySem.W.codeIn K cd14 "_law_heap" = true) (k14 : PySem.W.keepIn K (.ref f14) = true)
    (a15 : PySem.W.nsIn K mainGlobals "_law_raw_rule" = some (some (.ref f15))) (l15 : K.lookup f15 = some ⟨oc15, od15, .func (PySem.W.fnOf "_law_raw_rule" "_law_raw_rule" (defArgs s__law_raw_rule) (defBody s__law_raw_rule) (defScope s__law_raw_rule) .none kV15 dc15 pm15 an15 cd15 ct15), sl15⟩) (c15 : PySem.W.codeIn K cd15 "_law_raw_rule" = true) (k15 : PySem.W.keepIn K (.ref f15) = true)
    (a16 : PySem.W.nsIn K mainGlobals "_law_same" = some (some (.ref f16))) (l16 : K.lookup f16 = some ⟨oc16, od16, .func (PySem.W.fnOf "_law_same" "_law_same" (defArgs s__law_same) (defBody s__law_same) (defScope s__law_same) .none kV16 dc16 pm16 an16 cd16 ct16), sl16⟩) (c16 : PySem.W.codeIn K cd16 "_law_same" = true) (k16 : PySem.W.keepIn K (.ref f16) = true)
    (a17 : PySem.W.nsIn K mainGlobals "_law_weight" = some (some (.ref f17))) (l17 : K.lookup f17 = some ⟨oc17, od17, .func (PySem.W.fnOf "_law_weight" "_law_weight" (defArgs s__law_weight) (defBody s__law_weight) (defScope s__law_weight) .none kV17 dc17 pm17 an17 cd17 ct17), sl17⟩) (c17 : PySem.W.codeIn K cd17 "_law_weight" = true) (k17 : PySem.W.keepIn K (.ref f17) = true)
    (a18 : PySem.W.nsIn K mainGlobals "law" = some (some (.ref f18))) (l18 : K.lookup f18 = some ⟨oc18, od18, .func (PySem.W.fnOf "law" "law" (defArgs s_law) (defBody s_law) (defScope s_law) .none kV18 dc18 pm18 an18 cd18 ct18), sl18⟩) (c18 : PySem.W.codeIn K cd18 "law" = true) (k18 : PySem.W.keepIn K (.ref f18) = true)
    (z_all : PySem.W.nsIn K mainGlobals "all" = some none)
    (z_any : PySem.W.nsIn K mainGlobals "any" = some none)
    (z_bool : PySem.W.nsIn K mainGlobals "bool" = some none)
    (z_enumerate : PySem.W.nsIn K mainGlobals "enumerate" = some none)
    (z_int : PySem.W.nsIn K mainGlobals "int" = some none)
    (z_isinstance : PySem.W.nsIn K mainGlobals "isinstance" = some none)
    (z_len : PySem.W.nsIn K mainGlobals "len" = some none)
    (z_list : PySem.W.nsIn K mainGlobals "list" = some none)
    (z_max : PySem.W.nsIn K mainGlobals "max" = some none)
    (z_min : PySem.W.nsIn K mainGlobals "min" = some none)
    (z_range : PySem.W.nsIn K mainGlobals "range" = some none)
    (z_set : PySem.W.nsIn K mainGlobals "set" = some none)
    (z_sorted : PySem.W.nsIn K mainGlobals "sorted" = some none)
    (z_str : PySem.W.nsIn K mainGlobals "str" = some none)
    (z_sum : PySem.W.nsIn K mainGlobals "sum" = some none)
    (z_tuple : PySem.W.nsIn K mainGlobals "tuple" = some none)
    (z_zip : PySem.W.nsIn K mainGlobals "zip" = some none) :
    ∃ fd : FuncData, (∀ (s : Shared) (v : Value), BindsTo s fd ⟨[v], []⟩ [("_law_script", v)]) ∧ ∀ base : Heap, K.In base → base.Ns mainGlobals mg → FnOk l.prog w K mg base CX0 8 fa fd ["_law_script"] (sp_law K) := by
  have e := hfa.symm.trans (PySem.W.mg_of X G a18)
  cases e
  have T : Txt K mg ⟨f0, PySem.W.fnOf "sum_of" "sum_of" (defArgs s_sum_of) (defBody s_sum_of) (defScope s_sum_of) .none kV0 dc0 pm0 an0 cd0 ct0, f1, PySem.W.fnOf "choices_among" "choices_among" (defArgs s_choices_among) (defBody s_choices_among) (defScope s_choices_among) .none kV1 dc1 pm1 an1 cd1 ct1, f2, PySem.W.fnOf "choices_of" "choices_of" (defArgs s_choices_of) (defBody s_choices_of) (defScope s_choices_of) .none kV2 dc2 pm2 an2 cd2 ct2, f3, PySem.W.fnOf "often" "often" (defArgs s_often) (defBody s_often) (defScope s_often) .none kV3 dc3 pm3 an3 cd3 ct3, f4, PySem.W.fnOf "unlike_parts" "unlike_parts" (defArgs s_unlike_parts) (defBody s_unlike_parts) (defScope s_unlike_parts) .none kV4 dc4 pm4 an4 cd4 ct4, f5, PySem.W.fnOf "joined" "joined" (defArgs s_joined) (defBody s_joined) (defScope s_joined) .none kV5 dc5 pm5 an5 cd5 ct5, f6, PySem.W.fnOf "joined_of" "joined_of" (defArgs s_joined_of) (defBody s_joined_of) (defScope s_joined_of) .none kV6 dc6 pm6 an6 cd6 ct6, f7, PySem.W.fnOf "sums_of" "sums_of" (defArgs s_sums_of) (defBody s_sums_of) (defScope s_sums_of) .none kV7 dc7 pm7 an7 cd7 ct7, f8, PySem.W.fnOf "holders_of" "holders_of" (defArgs s_holders_of) (defBody s_holders_of) (defScope s_holders_of) .none kV8 dc8 pm8 an8 cd8 ct8, f9, PySem.W.fnOf "weights_of" "weights_of" (defArgs s_weights_of) (defBody s_weights_of) (defScope s_weights_of) .none kV9 dc9 pm9 an9 cd9 ct9, f10, PySem.W.fnOf "_law_start" "_law_start" (defArgs s__law_start) (defBody s__law_start) (defScope s__law_start) .none kV10 dc10 pm10 an10 cd10 ct10, f11, PySem.W.fnOf "_law_mix" "_law_mix" (defArgs s__law_mix) (defBody s__law_mix) (defScope s__law_mix) .none kV11 dc11 pm11 an11 cd11 ct11, f12, PySem.W.fnOf "_law_draw" "_law_draw" (defArgs s__law_draw) (defBody s__law_draw) (defScope s__law_draw) .none kV12 dc12 pm12 an12 cd12 ct12, f13, PySem.W.fnOf "_law_choices" "_law_choices" (defArgs s__law_choices) (defBody s__law_choices) (defScope s__law_choices) .none kV13 dc13 pm13 an13 cd13 ct13, f14, PySem.W.fnOf "_law_heap" "_law_heap" (defArgs s__law_heap) (defBody s__law_heap) (defScope s__law_heap) .none kV14 dc14 pm14 an14 cd14 ct14, f15, PySem.W.fnOf "_law_raw_rule" "_law_raw_rule" (defArgs s__law_raw_rule) (defBody s__law_raw_rule) (defScope s__law_raw_rule) .none kV15 dc15 pm15 an15 cd15 ct15, f16, PySem.W.fnOf "_law_same" "_law_same" (defArgs s__law_same) (defBody s__law_same) (defScope s__law_same) .none kV16 dc16 pm16 an16 cd16 ct16, f17, PySem.W.fnOf "_law_weight" "_law_weight" (defArgs s__law_weight) (defBody s__law_weight) (defScope s__law_weight) .none kV17 dc17 pm17 an17 cd17 ct17, fa, PySem.W.fnOf "law" "law" (defArgs s_law) (defBody s_law) (defScope s_law) .none kV18 dc18 pm18 an18 cd18 ct18⟩ := ⟨fun_mk (st := s_sum_of) l0 c0 k0,
    (fun_mk (st := s_sum_of) l0 c0 k0).binds (fun _ _ _ _ _ _ us hl => match us, hl with | [_], _ => rfl),
    PySem.W.mg_of X G a0,
    fun_mk (st := s_choices_among) l1 c1 k1,
    (fun_mk (st := s_choices_among) l1 c1 k1).binds (fun _ _ _ _ _ _ us hl => match us, hl with | [_], _ => rfl),
    PySem.W.mg_of X G a1,
    fun_mk (st := s_choices_of) l2 c2 k2,
    (fun_mk (st := s_choices_of) l2 c2 k2).binds (fun _ _ _ _ _ _ us hl => match us, hl with | [_], _ => rfl),
    PySem.W.mg_of X G a2,
    fun_mk (st := s_often) l3 c3 k3,
    (fun_mk (st := s_often) l3 c3 k3).binds (fun _ _ _ _ _ _ us hl => match us, hl with | [_, _], _ => rfl),
    PySem.W.mg_of X G a3,
    fun_mk (st := s_unlike_parts) l4 c4 k4,
    (fun_mk (st := s_unlike_parts) l4 c4 k4).binds (fun _ _ _ _ _ _ us hl => match us, hl with | [_], _ => rfl),
    PySem.W.mg_of X G a4,
    fun_mk (st := s_joined) l5 c5 k5,
    (fun_mk (st := s_joined) l5 c5 k5).binds (fun _ _ _ _ _ _ us hl => match us, hl with | [_], _ => rfl),
    PySem.W.mg_of X G a5,
    fun_mk (st := s_joined_of) l6 c6 k6,
    (fun_mk (st := s_joined_of) l6 c6 k6).binds (fun _ _ _ _ _ _ us hl => match us, hl with | [_, _], _ => rfl),
    PySem.W.mg_of X G a6,
    fun_mk (st := s_sums_of) l7 c7 k7,
    (fun_mk (st := s_sums_of) l7 c7 k7).binds (fun _ _ _ _ _ _ us hl => match us, hl with | [_], _ => rfl),
    PySem.W.mg_of X G a7,
    fun_mk (st := s_holders_of) l8 c8 k8,
    (fun_mk (st := s_holders_of) l8 c8 k8).binds (fun _ _ _ _ _ _ us hl => match us, hl with | [_, _, _], _ => rfl),
    PySem.W.mg_of X G a8,
    fun_mk (st := s_weights_of) l9 c9 k9,
    (fun_mk (st := s_weights_of) l9 c9 k9).binds (fun _ _ _ _ _ _ us hl => match us, hl with | [_], _ => rfl),
    PySem.W.mg_of X G a9,
    fun_mk (st := s__law_start) l10 c10 k10,
    (fun_mk (st := s__law_start) l10 c10 k10).binds (fun _ _ _ _ _ _ us hl => match us, hl with | [_], _ => rfl),
    PySem.W.mg_of X G a10,
    fun_mk (st := s__law_mix) l11 c11 k11,
    (fun_mk (st := s__law_mix) l11 c11 k11).binds (fun _ _ _ _ _ _ us hl => match us, hl with | [_], _ => rfl),
    PySem.W.mg_of X G a11,
    fun_mk (st := s__law_draw) l12 c12 k12,
    (fun_mk (st := s__law_draw) l12 c12 k12).binds (fun _ _ _ _ _ _ us hl => match us, hl with | [_, _], _ => rfl),
    PySem.W.mg_of X G a12,
    fun_mk (st := s__law_choices) l13 c13 k13,
    (fun_mk (st := s__law_choices) l13 c13 k13).binds (fun _ _ _ _ _ _ us hl => match us, hl with | [_], _ => rfl),
    PySem.W.mg_of X G a13,
    fun_mk (st := s__law_heap) l14 c14 k14,
    (fun_mk (st := s__law_heap) l14 c14 k14).binds (fun _ _ _ _ _ _ us hl => match us, hl with | [_, _, _], _ => rfl),
    PySem.W.mg_of X G a14,
    fun_mk (st := s__law_raw_rule) l15 c15 k15,
    (fun_mk (st := s__law_raw_rule) l15 c15 k15).binds (fun _ _ _ _ _ _ us hl => match us, hl with | [_, _, _, _], _ => rfl),
    PySem.W.mg_of X G a15,
    fun_mk (st := s__law_same) l16 c16 k16,
    (fun_mk (st := s__law_same) l16 c16 k16).binds (fun _ _ _ _ _ _ us hl => match us, hl with | [_, _], _ => rfl),
    PySem.W.mg_of X G a16,
    fun_mk (st := s__law_weight) l17 c17 k17,
    (fun_mk (st := s__law_weight) l17 c17 k17).binds (fun _ _ _ _ _ _ us hl => match us, hl with | [_, _], _ => rfl),
    PySem.W.mg_of X G a17,
    fun_mk (st := s_law) l18 c18 k18,
    (fun_mk (st := s_law) l18 c18 k18).binds (fun _ _ _ _ _ _ us hl => match us, hl with | [_], _ => rfl),
    PySem.W.mg_of X G a18,
    PySem.W.mg_none_of X G z_all,
    PySem.W.mg_none_of X G z_any,
    PySem.W.mg_none_of X G z_bool,
    PySem.W.mg_none_of X G z_enumerate,
    PySem.W.mg_none_of X G z_int,
    PySem.W.mg_none_of X G z_isinstance,
    PySem.W.mg_none_of X G z_len,
    PySem.W.mg_none_of X G z_list,
    PySem.W.mg_none_of X G z_max,
    PySem.W.mg_none_of X G z_min,
    PySem.W.mg_none_of X G z_range,
    PySem.W.mg_none_of X G z_set,
    PySem.W.mg_none_of X G z_sorted,
    PySem.W.mg_none_of X G z_str,
    PySem.W.mg_none_of X G z_sum,
    PySem.W.mg_none_of X G z_tuple,
    PySem.W.mg_none_of X G z_zip⟩
  exact ⟨PySem.W.fnOf "law" "law" (defArgs s_law) (defBody s_law) (defScope s_law) .none kV18 dc18 pm18 an18 cd18 ct18, fun s v => .of_eq rfl, fun base _ _ => ok_law T⟩
theorem walk {l : PySem.W.OpenLaw} {q : Program} {loose : List Str} {XP : (Str → Option Value) → Heap → Prop} {YP : World → Heap → Prop} {d : DefRec} {K : Params → PySem.W.Frag} (hn : l.most = some 63) (hdf : d.params.defaults = [])
    (hY : ∀ (w : World) (h : Heap), YP w h → (K w.params).In h)
    (F : ∀ (w : World) (mg : Str → Option Value) (fa : Addr) (h : Heap), (K w.params).In h → h.Ns mainGlobals mg → mg d.name = some (.ref fa) →
      ∃ fd : FuncData, (∀ (s : Shared) (u : Value), BindsTo s fd ⟨[u], []⟩ [("_law_script", u)]) ∧ ∀ base : Heap, (K w.params).In base → base.Ns mainGlobals mg → FnOk l.prog w (K w.params) mg base CX0 8 fa fd ["_law_script"] (sp_law (K w.params))) :
    PySem.W.WalkO q loose XP YP l.row.toRowW d [] (fun f vs => PySem.call f vs) :=
  L2.walk_of (n := 63) (k := 8) (x := "_law_script") (CX := fun _ => CX0) (sp := fun w => sp_law (K w.params)) hn (by decide) hdf ⟨fun _ => rfl, by decide, by decide⟩ hY F (fun _ _ a ns hl _ hS => ⟨a, ns, rfl, hS, hl, fun _ => rfl⟩) fun _ _ _ _ _ z => z
end My
namespace PySem.W.Fast
def tw1521030204229802826 : Nat := 0
def tw16430770663907613269 : Nat := 0
def tw2393381011014105231 : Nat := 0
def tw13197858366260074335 : Nat := 0
def tw10376665332946540243 : Nat := 0
def tw56626202343512627 : Nat := 0
def tw13416389793591244018 : Nat := 0
def tw1038197631202267639 : Nat := 0
def tw16184733599996308187 : Nat := 0
def tw12061379542068599834 : Nat := 0
def tw11722068356183996168 : Nat := 0
def tw5788306606047377154 : Nat := 0
def tw16919732854983067906 : Nat := 0
def tw6955596738458429986 : Nat := 0
def tw11151588885337024575 : Nat := 0
def tw7003148001199848895 : Nat := 0
def tw18256980650407878938 : Nat := 0
def tw5888906315515549550 : Nat := 0
def tw12688968699074257415 : Nat := 0
def tw1434349248095829402 : Nat := 0
def tw14331606917342151043 : Nat := 0
def tw10430956094705952845 : Nat := 0
def tw18136530103684908033 : Nat := 0
def tw11936051972689114374 : Nat := 0
def tw2104257858006401143 : Nat := 0
def tw11770182757094827612 : Nat := 0
def tw6126919786697091314 : Nat := 0
def tw16448085809842524468 : Nat := 0
def tw6584202495560785458 : Nat := 0
def tw1971002132545439592 : Nat := 0
def tw15003889102361114055 : Nat := 0
def tw10221049300353749310 : Nat := 0
def tw17198456792365606836 : Nat := 0
def tw375347873740797803 : Nat := 0
def tw10175906448970636190 : Nat := 0
def tw3181398409104249179 : Nat := 0
def tw11467842029704584159 : Nat := 0
def tw14185466608626147902 : Nat := 0
def tw11241050764092343449 : Nat := 0
def tw18168713398392532820 : Nat := 0
def tw2578407544525512876 : Nat := 0
def tw1571091214947212063 : Nat := 0
def tw18113511564437624582 : Nat := 0
def tw7819778844504667742 : Nat := 0
def tw1878256382916132633 : Nat := 0
def tw10373606554285706647 : Nat := 0
def tw10836455979874666344 : Nat := 0
def tw13622306416897159218 : Nat := 0
def tw744707540789866274 : Nat := 0
def tw10487688222203159757 : Nat := 0
def tw9889664598508169238 : Nat := 0
def tw8674425112661698231 : Nat := 0
def tw4470900698880567814 : Nat := 0
def tw6763708964191449206 : Nat := 0
def tw15266654923314190840 : Nat := 0
def tw16311527207537162132 : Nat := 0
def tw18404838366145342951 : Nat := 0
def tw7646289228602872102 : Nat := 0
def tw1218635735782943525 : Nat := 0
def tw14053434236801638727 : Nat := 0
def tw5005647996985809549 : Nat := 0
def tw10614887442763087464 : Nat := 0
def tw7293703238882045488 : Nat := 0
def tw16814120248596707441 : Nat := 0
def tw12760009156821999001 : Nat := 0
def tw15796675523135249814 : Nat := 0
def tw13829773906572506647 : Nat := 0
def tw6672615895443976220 : Nat := 0
def tw14035569500737347213 : Nat := 0
def tw13371747320920073406 : Nat := 0
def tw966008699230617156 : Nat := 0
end PySem.W.Fast
open PySem PySem.W PyProof.Rows
set_option maxRecDepth 100000 in
set_option maxHeartbeats 0 in
theorem PySem.Challenge.cw_shutpairs_k22_weights_of_dots_holds : PySem.Challenge.rw_shutpairs_k22_weights_of_dots.Holds := by
  w_on; o_law; k_head; (case hw => w_witness2)
  k_fill
  refine My.walk (l := PySem.Challenge.rw_shutpairs_k22_weights_of_dots) rfl rfl (fun w h Y => PySem.W.kIn_of Y) ?F
  case F =>
    intro w mg fa h KX G hmg
    refine' My.all_mk KX G hmg ?a0 ?l0 ?c0 ?k0 ?a1 ?l1 ?c1 ?k1 ?a2 ?l2 ?c2 ?k2 ?a3 ?l3 ?c3 ?k3 ?a4 ?l4 ?c4 ?k4 ?a5 ?l5 ?c5 ?k5 ?a6 ?l6 ?c6 ?k6 ?a7 ?l7 ?c7 ?k7 ?a8 ?l8 ?c8 ?k8 ?a9 ?l9 ?c9 ?k9 ?a10 ?l10 ?c10 ?k10 ?a11 ?l11 ?c11 ?k11 ?a12 ?l12 ?c12 ?k12 ?a13 ?l13 ?c13 ?k13 ?a14 ?l14 ?c14 ?k14 ?a15 ?l15 ?c15 ?k15 ?a16 ?l16 ?c16 ?k16 ?a17 ?l17 ?c17 ?k17 ?a18 ?l18 ?c18 ?k18 ?z_all ?z_any ?z_bool ?z_enumerate ?z_int ?z_isinstance ?z_len ?z_list ?z_max ?z_min ?z_range ?z_set ?z_sorted ?z_str ?z_sum ?z_tuple ?z_zip
    (case a0 => k_is)
    (case l0 => k_is)
    (case c0 => k_is)
    (case k0 => k_is)
    (case a1 => k_is)
    (case l1 => k_is)
    (case c1 => k_is)
    (case k1 => k_is)
    (case a2 => k_is)
    (case l2 => k_is)
    (case c2 => k_is)
    (case k2 => k_is)
    (case a3 => k_is)
    (case l3 => k_is)
    (case c3 => k_is)
    (case k3 => k_is)
    (case a4 => k_is)
    (case l4 => k_is)
    (case c4 => k_is)
    (case k4 => k_is)
    (case a5 => k_is)
    (case l5 => k_is)
    (case c5 => k_is)
    (case k5 => k_is)
    (case a6 => k_is)
    (case l6 => k_is)
    (case c6 => k_is)
    (case k6 => k_is)
    (case a7 => k_is)
    (case l7 => k_is)
    (case c7 => k_is)
    (case k7 => k_is)
    (case a8 => k_is)
    (case l8 => k_is)
    (case c8 => k_is)
    (case k8 => k_is)
    (case a9 => k_is)
    (case l9 => k_is)
    (case c9 => k_is)
    (case k9 => k_is)
    (case a10 => k_is)
    (case l10 => k_is)
    (case c10 => k_is)
    (case k10 => k_is)
    (case a11 => k_is)
    (case l11 => k_is)
    (case c11 => k_is)
    (case k11 => k_is)
    (case a12 => k_is)
    (case l12 => k_is)
    (case c12 => k_is)
    (case k12 => k_is)
    (case a13 => k_is)
    (case l13 => k_is)
    (case c13 => k_is)
    (case k13 => k_is)
    (case a14 => k_is)
    (case l14 => k_is)
    (case c14 => k_is)
    (case k14 => k_is)
    (case a15 => k_is)
    (case l15 => k_is)
    (case c15 => k_is)
    (case k15 => k_is)
    (case a16 => k_is)
    (case l16 => k_is)
    (case c16 => k_is)
    (case k16 => k_is)
    (case a17 => k_is)
    (case l17 => k_is)
    (case c17 => k_is)
    (case k17 => k_is)
    (case a18 => k_is)
    (case l18 => k_is)
    (case c18 => k_is)
    (case k18 => k_is)
    (case z_all => k_is)
    (case z_any => k_is)
    (case z_bool => k_is)
    (case z_enumerate => k_is)
    (case z_int => k_is)
    (case z_isinstance => k_is)
    (case z_len => k_is)
    (case z_list => k_is)
    (case z_max => k_is)
    (case z_min => k_is)
    (case z_range => k_is)
    (case z_set => k_is)
    (case z_sorted => k_is)
    (case z_str => k_is)
    (case z_sum => k_is)
    (case z_tuple => k_is)
    (case z_zip => k_is)
